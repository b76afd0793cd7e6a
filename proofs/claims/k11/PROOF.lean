import PyProof.Rows.All
import Wide.All
import OpenK.AllK
import Wide.FinOn
import Lean
import PyProof.EqAt
import PyProof.EqKinds
import PyProof.TupleCall
import KE.KRevIter
import PyProof.Rows.Range3
import PyProof.EnumMake
import PyProof.WalksEnum
import PyProof.ZipIter
import PyProof.MaxThree
import PyProof.ListRange
import PySem.Challenge.RW_bores_k11_whole_sheets_add_up
set_option Elab.async false
set_option linter.all false
set_option maxRecDepth 100000
namespace L2
open PySem PySem.Spec PyProof.Rows
abbrev Key := Sum Int Str
def keyIs : Key → Value → Bool
  | .inl k, v => Value.isInt k v
  | .inr x, v => Value.isStrOf x v
def keyH (w : World) : Key → Int
  | .inl k => hashInt k
  | .inr x => hashStr w x
theorem keyIs_shape : ∀ {k : Key} {v : Value}, keyIs k v = true → (∃ i t, k = Sum.inl i ∧ v = Value.int i t) ∨ (∃ x t, k = Sum.inr x ∧ v = Value.str x t)
  | .inl i, v, h => by
    obtain ⟨t, e⟩ := Value.isInt_shape (k := i) (v := v) h
    exact .inl ⟨i, t, rfl, e⟩
  | .inr x, v, h => by
    obtain ⟨t, e⟩ := Value.isStrOf_shape (x := x) (v := v) h
    exact .inr ⟨x, t, rfl, e⟩
theorem key_ll (a b : Int) : decide ((Sum.inl a : Key) = Sum.inl b) = (a == b) := by
  by_cases e : a = b
  · subst e; simp
  · have h : ¬ (Sum.inl a : Key) = Sum.inl b := fun q => e (Sum.inl.inj q)
    rw [decide_eq_false h]
    exact (beq_eq_false_iff_ne.mpr e).symm
theorem key_rr (a b : Str) : decide ((Sum.inr a : Key) = Sum.inr b) = decide (a = b) := by
  by_cases e : a = b
  · subst e; simp
  · have h : ¬ (Sum.inr a : Key) = Sum.inr b := fun q => e (Sum.inr.inj q)
    rw [decide_eq_false h, decide_eq_false e]
theorem key_lr (a : Int) (b : Str) : decide ((Sum.inl a : Key) = Sum.inr b) = false := decide_eq_false (fun q => nomatch q)
theorem key_rl (a : Str) (b : Int) : decide ((Sum.inr a : Key) = Sum.inl b) = false := decide_eq_false (fun q => nomatch q)
def mixKind (prog : Program) (w : World) : PySem.KeyKind prog w Key where
  is := keyIs
  hash := keyH w
  inj := fun v a b ha hb => by
    rcases keyIs_shape ha with ⟨i, t, rfl, rfl⟩ | ⟨x, t, rfl, rfl⟩
    · rcases keyIs_shape hb with ⟨j, u, rfl, e⟩ | ⟨y, u, rfl, e⟩
      · injection e with e1 _; rw [e1]
      · exact nomatch e
    · rcases keyIs_shape hb with ⟨j, u, rfl, e⟩ | ⟨y, u, rfl, e⟩
      · exact nomatch e
      · injection e with e1 _; rw [e1]
  byValue := fun k v h => by
    rcases keyIs_shape h with ⟨i, t, rfl, rfl⟩ | ⟨x, t, rfl, rfl⟩ <;> rfl
  pyHash := fun hv h => by
    rcases keyIs_shape hv with ⟨i, t, rfl, rfl⟩ | ⟨x, t, rfl, rfl⟩
    · exact wpAny_pyHash_int h
    · exact wpAny_pyHash_str h
  eqBool := fun hu hv h => by
    rcases keyIs_shape hu with ⟨i, t, rfl, rfl⟩ | ⟨x, t, rfl, rfl⟩
    · rcases keyIs_shape hv with ⟨j, u, rfl, rfl⟩ | ⟨y, u, rfl, rfl⟩
      · rw [key_ll] at h; exact wpAny_eqBool_int h
      · rw [key_lr] at h; exact SeqAt.EqAt.int_str i t y u _ _ _ _ h
    · rcases keyIs_shape hv with ⟨j, u, rfl, rfl⟩ | ⟨y, u, rfl, rfl⟩
      · rw [key_rl] at h; exact SeqAt.EqAt.str_int x t j u _ _ _ _ h
      · rw [key_rr] at h; exact wpAny_eqBool_str h
  «strs» := fun k x t v h => by
    rcases keyIs_shape h with ⟨i, u, rfl, e⟩ | ⟨y, u, rfl, e⟩
    · exact nomatch e
    · injection e with e1 _
      subst e1
      cases v <;> rfl
end L2
namespace L2
open PySem PySem.Spec PyProof.Rows
inductive V where
  | non | bl (b : Bool) | int (i : Int) | str (x : Str) | byt (b : Array UInt8) | flt (b : UInt64) | ref (a : Addr) | ty (n : String)
  deriving DecidableEq
def RelV : V → Value → Prop
  | .non, u => u = Value.none
  | .bl b, u => u = Value.bool b
  | .int i, u => ∃ t, u = Value.int i t
  | .str x, u => ∃ t, u = Value.str x t
  | .byt b, u => ∃ t, u = Value.bytes b t
  | .flt b, u => ∃ t, u = Value.float b t
  | .ref a, u => u = Value.ref a
  | .ty n, u => u = Value.type n
abbrev Vals : List V → List Value → Prop := Paired RelV
theorem Vals.length {xs : List V} {us : List Value} (r : Vals xs us) : xs.length = us.length := Paired.length r
theorem Vals.get : ∀ {xs : List V} {us : List Value} {i : Nat} {x : V}, Vals xs us → xs[i]? = some x → ∃ u, us[i]? = some u ∧ RelV x u
  | _, _, _, _, .nil, e => by simp at e
  | _, _, 0, _, .cons r _, e => by simp at e; subst e; exact ⟨_, rfl, r⟩
  | _, _, i + 1, x, .cons _ t, e => by
    obtain ⟨u, h1, h2⟩ := Vals.get (i := i) (x := x) t (by simpa using e)
    exact ⟨u, by simpa using h1, h2⟩
theorem Vals.set {x : V} {u : Value} (r : RelV x u) : ∀ {xs : List V} {us : List Value} (i : Nat), Vals xs us → Vals (xs.set i x) (us.set i u)
  | _, _, _, .nil => .nil
  | _, _, 0, .cons _ t => .cons r t
  | _, _, i + 1, .cons q t => .cons q (Vals.set r i t)
theorem Vals.append : ∀ {xs ys : List V} {us ws : List Value}, Vals xs us → Vals ys ws → Vals (xs ++ ys) (us ++ ws)
  | _, _, _, _, .nil, s => s
  | _, _, _, _, .cons r t, s => .cons r (Vals.append t s)
theorem Vals.take : ∀ {xs : List V} {us : List Value} (n : Nat), Vals xs us → Vals (xs.take n) (us.take n)
  | _, _, 0, _ => .nil
  | _, _, _ + 1, .nil => .nil
  | _, _, n + 1, .cons r t => .cons r (Vals.take n t)
theorem Vals.drop : ∀ {xs : List V} {us : List Value} (n : Nat), Vals xs us → Vals (xs.drop n) (us.drop n)
  | _, _, 0, r => r
  | _, _, _ + 1, .nil => .nil
  | _, _, n + 1, .cons _ t => Vals.drop n t
theorem Vals.none_of : ∀ {xs : List V} {us : List Value} {i : Nat}, Vals xs us → xs[i]? = none → us[i]? = none := fun {xs us i} r e => by
  have h1 := r.length
  have h2 : xs.length ≤ i := List.getElem?_eq_none_iff.mp e
  exact List.getElem?_eq_none_iff.mpr (by omega)
def RelO : Option V → Option Value → Prop
  | some v, some u => RelV v u
  | none, none => True
  | _, _ => False
def KV {κ : Type} : List (κ × V) → List (κ × Value) → Prop := Paired fun (p : κ × V) (q : κ × Value) => p.1 = q.1 ∧ RelV p.2 q.2
def kV : Key → V
  | .inl i => .int i
  | .inr x => .str x
inductive HO where
    | lst (xs : List V)
    | tup (xs : List V)
    | dK (kvs : List (Key × V)) | dT (kvs : List (List Key × V))
    | set (S : Int → Bool) (n : Nat)
    | ins (C dx : Addr) (fs : List (Str × V))
    | own (x : Addr)
    | xd (fs : List (Str × V))
    | met (f x : Addr)
    | rng (lo hi : Int)
    | frz (o : Obj) (u : HO)
    | tbl (ps : Array Value)
    | ext (φ : Heap → Prop)
abbrev Hp := Addr → Option HO
def upd (H : Hp) (a : Addr) (o : HO) : Hp := fun b => if b = a then some o else H b
theorem upd_same {H : Hp} {a : Addr} {o : HO} : upd H a o a = some o := by unfold upd; rw [if_pos rfl]
theorem upd_ne {H : Hp} {a b : Addr} {o : HO} (h : b ≠ a) : upd H a o b = H b := by unfold upd; rw [if_neg h]
theorem ne_of {H : Hp} {a b : Addr} {o u : HO} (h : H a = some o) (h' : H b = some u) (d : o ≠ u) : a ≠ b := by
  intro e; subst e; rw [h] at h'; exact d (Option.some.inj h')
theorem ne_of_none {H : Hp} {a b : Addr} {o : HO} (h : H a = some o) (h' : H b = none) : a ≠ b := by
  intro e; subst e; rw [h] at h'; cases h'
section
variable (P : Program) (w : World)
def ObjOk (H : Hp) (h : Heap) (a : Addr) : HO → Prop
  | .lst xs => xs.length ≤ sizeLine ∧ ∃ (its : List Value) (n : Nat), Vals xs its ∧ h.get? a = some { cls := .type "list", data := .seq its.toArray n }
  | .tup xs => xs.length ≤ sizeLine ∧ ∃ its : List Value, Vals xs its ∧ IsTup h a its.toArray
  | .dK kvs => kvs.length ≤ sizeLine ∧ (a == sysModules) = false ∧ ∃ vs, KV kvs vs ∧ h.DictOf (mixKind P w) a vs
  | .dT kvs => kvs.length ≤ sizeLine ∧ (a == sysModules) = false ∧ ∃ xs : List (List Key × Addr × Value),
      Paired (fun (p : List Key × V) (q : List Key × Addr × Value) => p.1 = q.1 ∧ H q.2.1 = some (.tup (p.1.map kV)) ∧ RelV p.2 q.2.2) kvs xs ∧
      ∃ o es ep, h.get? a = some o ∧ o.ExactDict ∧ o.data = .dict es ep ∧ es.toList = xs.map (entryOfKey (tupleKind (mixKind P w))) ∧ (xs.map (·.1)).Nodup
  | .set S n => h.SetOf (intKind P w) a S n
  | .ins C dx fs => H dx = some (.own a) ∧ fs.length ≤ 1000 ∧ dx ≠ a ∧ h.get? a = some (PySem.W.instObj C dx) ∧
      ∃ mA, h.Ns1 dx mA ∧ (∀ f, RelO (fs.lookup f) (mA f)) ∧ PySem.Within mA (fs.map (·.1))
  | .own _ => ∃ o, h.get? a = some o
  | .xd fs => ∃ mA, h.Ns1 a mA ∧ ∀ f, RelO (fs.lookup f) (mA f)
  | .rng lo hi => ∃ t u v, h.get? a = some { cls := .type "range", data := .fields #[.int lo t, .int hi u, .int 1 v] }
  | .frz o u => h.get? a = some o ∧ ObjOk H h a u
  | .tbl ps => h.get? a = some { cls := .none, data := .fields ps }
  | .met f x => h.get? a = some (PySem.W.methodObj (.ref f) (.ref x))
  | .ext φ => φ h ∧ (∃ o, h.get? a = some o) ∧ ∀ h1 h2 : Heap, φ h1 → (∀ o, h1.get? a = some o → h2.get? a = some o) → φ h2
def HOk (H : Hp) (h : Heap) : Prop := ∀ a o, H a = some o → ObjOk P w H h a o
end
section
variable {P : Program} {w : World} {H H' : Hp} {h h' : Heap} {a : Addr} {o : HO}
theorem ObjOk.lt (x : ObjOk P w H h a o) : a < h.objs.size := by
  cases o with
  | lst xs => obtain ⟨_, _, _, _, e⟩ := x; exact Heap.lt_size e
  | tup xs => obtain ⟨_, _, _, p⟩ := x; exact p.lt
  | dK kvs => obtain ⟨_, _, _, _, o, _, _, e, _⟩ := x; exact Heap.lt_size e
  | dT kvs => obtain ⟨_, _, _, _, o, _, _, e, _⟩ := x; exact Heap.lt_size e
  | set S n => obtain ⟨o, _, _, _, e, _⟩ := x; exact Heap.lt_size e
  | ins C dx fs => obtain ⟨_, _, _, e, _⟩ := x; exact Heap.lt_size e
  | own y => obtain ⟨_, e⟩ := x; exact Heap.lt_size e
  | xd fs => obtain ⟨_, ⟨_, _, _, e, _⟩, _⟩ := x; exact Heap.lt_size e
  | rng lo hi => obtain ⟨_, _, _, e⟩ := x; exact Heap.lt_size e
  | frz ob u => obtain ⟨e, _⟩ := x; exact Heap.lt_size e
  | tbl ps => exact Heap.lt_size (show h.get? a = some _ from x)
  | met f y => exact Heap.lt_size (show h.get? a = some _ from x)
  | ext φ => obtain ⟨_, ⟨_, e⟩, _⟩ := x; exact Heap.lt_size e
theorem Paired.mapP {α β : Type} {F G : α → β → Prop} : ∀ {l₁ : List α} {l₂ : List β}, Paired F l₁ l₂ → (∀ a b, F a b → G a b) → Paired G l₁ l₂
  | _, _, .nil, _ => .nil
  | _, _, .cons r t, f => .cons (f _ _ r) (Paired.mapP t f)
theorem ObjOk.stay (x : ObjOk P w H h a o) (k : ∀ b u, (b = a ∨ H b = some (.own a)) → h.get? b = some u → h'.get? b = some u)
    (ho : ∀ b, H b = some (.own a) → H' b = some (.own a)) (ht : ∀ b xs, H b = some (.tup xs) → H' b = some (.tup xs)) : ObjOk P w H' h' a o := by
  induction o with
  | lst xs => obtain ⟨z, its, n, r, e⟩ := x; exact ⟨z, its, n, r, k _ _ (.inl rfl) e⟩
  | tup xs => obtain ⟨z, its, r, ob, e, c⟩ := x; exact ⟨z, its, r, ob, k _ _ (.inl rfl) e, c⟩
  | dK kvs => obtain ⟨z, y, vs, r, ob, es, ep, e, c⟩ := x; exact ⟨z, y, vs, r, ob, es, ep, k _ _ (.inl rfl) e, c⟩
  | dT kvs =>
    obtain ⟨z, y, xs, r, ob, es, ep, e, c⟩ := x
    exact ⟨z, y, xs, Paired.mapP r fun p q z => ⟨z.1, ht _ _ z.2.1, z.2.2⟩, ob, es, ep, k _ _ (.inl rfl) e, c⟩
  | set S n => obtain ⟨ob, es, ep, t, e, c⟩ := x; exact ⟨ob, es, ep, t, k _ _ (.inl rfl) e, c⟩
  | ins C dx fs =>
    obtain ⟨d, z, ne, e, mA, ⟨od, es, ep, e2, c⟩, r⟩ := x
    exact ⟨ho _ d, z, ne, k _ _ (.inl rfl) e, mA, ⟨od, es, ep, k _ _ (.inr d) e2, c⟩, r⟩
  | own y => obtain ⟨ob, e⟩ := x; exact ⟨ob, k _ _ (.inl rfl) e⟩
  | xd fs => obtain ⟨mA, ⟨od, es, ep, e, c⟩, r⟩ := x; exact ⟨mA, ⟨od, es, ep, k _ _ (.inl rfl) e, c⟩, r⟩
  | rng lo hi => obtain ⟨t, u, v, e⟩ := x; exact ⟨t, u, v, k _ _ (.inl rfl) e⟩
  | frz ob u ih => obtain ⟨e, q⟩ := x; exact ⟨k _ _ (.inl rfl) e, ih q⟩
  | tbl ps =>
    have e : h.get? a = some { cls := .none, data := .fields ps } := x
    show h'.get? a = some { cls := .none, data := .fields ps }
    exact k a _ (.inl rfl) e
  | met f y =>
    have e : h.get? a = some (PySem.W.methodObj (.ref f) (.ref y)) := x
    show h'.get? a = some (PySem.W.methodObj (.ref f) (.ref y))
    exact k a _ (.inl rfl) e
  | ext φ => obtain ⟨p, ⟨o, e⟩, st⟩ := x; exact ⟨st _ _ p fun o q => k _ _ (.inl rfl) q, ⟨o, k _ _ (.inl rfl) e⟩, st⟩
theorem HOk.lt (x : HOk P w H h) (e : H a = some o) : a < h.objs.size := (x a o e).lt
theorem HOk.fresh (x : HOk P w H h) (e : h.objs.size ≤ a) : H a = none := by
  cases q : H a with
  | none => rfl
  | some u => exact absurd (Nat.lt_of_lt_of_le (x.lt q) e) (Nat.lt_irrefl _)
theorem HOk.kept (x : HOk P w H h) (k : ∀ b u, h.get? b = some u → h'.get? b = some u) : HOk P w H h' := fun a o e =>
  (x a o e).stay (fun b u _ q => k b u q) (fun _ q => q) fun _ _ q => q
theorem HOk.laid (x : HOk P w H h) (k : ∀ b u, h.get? b = some u → h'.get? b = some u) (hp : h.objs.size ≤ a) (new : ObjOk P w (upd H a o) h' a o) : HOk P w (upd H a o) h' := fun b u e => by
  have hn := x.fresh hp
  by_cases hb : b = a
  · subst hb; rw [upd_same] at e; cases e; exact new
  · rw [upd_ne hb] at e
    exact (x b u e).stay (fun c v _ q => k c v q) (fun c q => by rw [upd_ne (ne_of_none q hn)]; exact q) fun c xs q => by rw [upd_ne (ne_of_none q hn)]; exact q
end
def Rd (H : Hp) (a : Addr) (u : HO) : Prop := H a = some u ∨ ∃ o, H a = some (.frz o u)
theorem Rd.of {H : Hp} {a : Addr} {u : HO} (h : H a = some u) : Rd H a u := .inl h
theorem Rd.ok {P : Program} {w : World} {H : Hp} {h : Heap} {a : Addr} {u : HO} (r : Rd H a u) (x : HOk P w H h) : ObjOk P w H h a u := by
  rcases r with r | ⟨o, r⟩
  · exact x a u r
  · obtain ⟨_, q⟩ := x a _ r
    exact q
def Mut : Option HO → Prop
  | some (.lst _) => True
  | some (.dK _) => True
  | some (.dT _) => True
  | some (.set _ _) => True
  | some (.ins _ _ _) => True
  | some (.ext _) => True
  | _ => False
section
variable {P : Program} {w : World} {H : Hp} {h h' : Heap} {x e : Addr} {o' : HO}
theorem HOk.write (ok : HOk P w H h) (mu : Mut (H x)) (he : e = x ∨ H e = some (.own x)) (k : ∀ b u, b ≠ e → h.get? b = some u → h'.get? b = some u) (heo : ∃ u, h'.get? e = some u)
    (new : ObjOk P w (upd H x o') h' x o') : HOk P w (upd H x o') h' := fun b u q => by
  have nown : ∀ c y, H c = some (.own y) → c ≠ x := fun c y r z => by subst z; rw [r] at mu; exact mu
  have ntup : ∀ c xs, H c = some (.tup xs) → c ≠ x := fun c xs r z => by subst z; rw [r] at mu; exact mu
  by_cases hb : b = x
  · subst hb; rw [upd_same] at q; cases q; exact new
  · rw [upd_ne hb] at q
    by_cases hbe : b = e
    · have q' : H b = some (.own x) := by
        rcases he with z | z
        · exact absurd (hbe.trans z) hb
        · rw [hbe]; exact z
      rw [q] at q'; cases q'
      obtain ⟨v, hv⟩ := heo
      exact ⟨v, by rw [hbe]; exact hv⟩
    · refine (ok b u q).stay (fun c v hc r => k c v ?_ r) (fun c r => by rw [upd_ne (nown c b r)]; exact r) fun c xs r => by rw [upd_ne (ntup c xs r)]; exact r
      rcases hc with rfl | hc
      · exact hbe
      · rintro rfl
        rcases he with z | z
        · exact nown c b hc z
        · rw [hc] at z; cases z; exact hb rfl
end
structure Un (fs ex : List Addr) (H H' : Hp) (h h' : Heap) : Prop where
  keep : ∀ b o, h.get? b = some o → H b = none → b ∉ fs → b ∉ ex → h'.get? b = some o
  slot : ∀ b o, h.get? b = some o → H b = none → b ∈ fs → b ∉ ex → ∃ sl, h'.get? b = some { o with slots := sl }
  free : ∀ b o, h.get? b = some o → H b = none → b ∉ ex → H' b = none
  there : ∀ b o, h.get? b = some o → b ∉ ex → ∃ o', h'.get? b = some o'
  tups : ∀ b xs, H b = some (.tup xs) → H' b = some (.tup xs)
  frzs : ∀ b o u, H b = some (.frz o u) → H' b = some (.frz o u)
  tbls : ∀ b ps, H b = some (.tbl ps) → ∃ more, H' b = some (.tbl (ps ++ more))
section
variable {fs fs' ex ex' : List Addr} {H H1 H2 : Hp} {h h1 h2 h' : Heap} {a x e : Addr} {o : HO}
theorem Un.any (u : Un fs ex H H1 h h1) {b : Addr} {ob : Obj} (q : h.get? b = some ob) (n : H b = none) (hx : b ∉ ex) : ∃ sl, h1.get? b = some { ob with slots := sl } := by
  by_cases hb : b ∈ fs
  · exact u.slot b ob q n hb hx
  · exact ⟨ob.slots, u.keep b ob q n hb hx⟩
theorem Un.trans (a : Un fs ex H H1 h h1) (b : Un fs ex H1 H2 h1 h2) : Un fs ex H H2 h h2 where
  keep := fun c ob q n hc hx => b.keep c ob (a.keep c ob q n hc hx) (a.free c ob q n hx) hc hx
  slot := fun c ob q n hc hx => by
    obtain ⟨sl, e1⟩ := a.slot c ob q n hc hx
    obtain ⟨sl', e2⟩ := b.slot c _ e1 (a.free c ob q n hx) hc hx
    exact ⟨sl', e2⟩
  free := fun c ob q n hx => by
    obtain ⟨o', e1⟩ := a.there c ob q hx
    exact b.free c o' e1 (a.free c ob q n hx) hx
  there := fun c ob q hx => by
    obtain ⟨o', e1⟩ := a.there c ob q hx
    exact b.there c o' e1 hx
  tups := fun c xs q => b.tups c xs (a.tups c xs q)
  frzs := fun c ob xs q => b.frzs c ob xs (a.frzs c ob xs q)
  tbls := fun c ps q => by
    obtain ⟨m1, e1⟩ := a.tbls c ps q
    obtain ⟨m2, e2⟩ := b.tbls c _ e1
    exact ⟨m1 ++ m2, by rw [e2, Array.append_assoc]⟩
theorem Un.kept (k : ∀ b u, h.get? b = some u → h'.get? b = some u) : Un fs ex H H h h' :=
  ⟨fun b ob q _ _ _ => k b ob q, fun b ob q _ _ _ => ⟨ob.slots, k b ob q⟩, fun _ _ _ n _ => n, fun b ob q _ => ⟨ob, k b ob q⟩, fun _ _ q => q, fun _ _ _ q => q, fun _ ps q => ⟨#[], by rw [q]; simp⟩⟩
theorem Un.refl : Un fs ex H H h h := Un.kept fun _ _ q => q
theorem Un.laid (k : ∀ b u, h.get? b = some u → h'.get? b = some u) (hp : h.objs.size ≤ a) (hn : H a = none) : Un fs ex H (upd H a o) h h' where
  keep := fun b u q _ _ _ => k b u q
  slot := fun b u q _ _ _ => ⟨u.slots, k b u q⟩
  free := fun b u q n _ => by rw [upd_ne (Nat.ne_of_lt (Nat.lt_of_lt_of_le (Heap.lt_size q) hp))]; exact n
  there := fun b u q _ => ⟨u, k b u q⟩
  tups := fun b xs q => by rw [upd_ne (ne_of_none q hn)]; exact q
  frzs := fun b u xs q => by rw [upd_ne (ne_of_none q hn)]; exact q
  tbls := fun b ps q => ⟨#[], by rw [upd_ne (ne_of_none q hn), q]; simp⟩
theorem Un.write (mu : Mut (H x)) (he : e = x ∨ H e = some (.own x)) (k : ∀ b u, b ≠ e → h.get? b = some u → h'.get? b = some u) (heo : ∃ u, h'.get? e = some u) : Un fs ex H (upd H x o) h h' := by
  have hx : ∀ b, H b = none → b ≠ x := fun b n z => by subst z; rw [n] at mu; exact mu
  have hb : ∀ b, H b = none → b ≠ e := fun b n z => by
    subst z
    rcases he with r | r
    · exact hx b n r
    · rw [n] at r; cases r
  have hm : ∀ b u, H b = some u → ¬ Mut (some u) → b ≠ x := fun b u q nm z => by subst z; rw [q] at mu; exact nm mu
  refine ⟨fun b u q n _ _ => k b u (hb b n) q, fun b u q n _ _ => ⟨u.slots, k b u (hb b n) q⟩, fun b u q n _ => by rw [upd_ne (hx b n)]; exact n, fun b u q _ => ?_,
    fun b xs q => by rw [upd_ne (hm b _ q fun z => z)]; exact q, fun b u xs q => by rw [upd_ne (hm b _ q fun z => z)]; exact q, fun b ps q => ⟨#[], by rw [upd_ne (hm b _ q fun z => z), q]; simp⟩⟩
  by_cases hbe : b = e
  · subst hbe; exact heo
  · exact ⟨u, k b u hbe q⟩
theorem Un.mono (u : Un fs ex H H1 h h1) (hs : ∀ b ∈ fs, b ∈ fs') (hx : ∀ b ∈ ex, b ∈ ex') : Un fs' ex' H H1 h h1 :=
  ⟨fun b ob q n hb he => u.keep b ob q n (fun z => hb (hs b z)) fun z => he (hx b z), fun _ _ q n _ he => u.any q n fun z => he (hx _ z), fun b ob q n he => u.free b ob q n fun z => he (hx b z), fun b ob q he => u.there b ob q fun z => he (hx b z), u.tups, u.frzs, u.tbls⟩
end
def trk (h : Heap) (H : Hp) : List Addr := (List.range h.objs.size).filter fun a => (H a).isSome
def hidT (h : Heap) (H : Hp) : Heap := PySem.W.hideAll h (trk h H)
theorem hidT_size (h : Heap) (H : Hp) : (hidT h H).objs.size = h.objs.size := PySem.W.hideAll_size _ _
theorem hidT_get {h : Heap} {H : Hp} {b : Addr} {o : Obj} (e : h.get? b = some o) (n : H b = none) : (hidT h H).get? b = some o :=
  PySem.W.hideAll_get _ e fun hm => by
    have q : (H b).isSome = true := (List.mem_filter.mp hm).2
    rw [n] at q; simp at q
theorem of_hidT {h : Heap} {H : Hp} {b : Addr} {o : Obj} (e : (hidT h H).get? b = some o) : h.get? b = some o ∧ H b = none := by
  have e' : h.get? b = some o := PySem.W.of_hideAll (trk h H) e
  refine ⟨e', ?_⟩
  cases q : H b with
  | none => rfl
  | some x =>
    have hm : b ∈ trk h H := List.mem_filter.mpr ⟨List.mem_range.mpr (Heap.lt_size e'), by simp [q]⟩
    have z : (hidT h H).get? b = none := PySem.W.hideAll_none (trk h H) hm
    rw [z] at e; cases e
def allNews (g h : Heap) (L : Addr) : List (Addr × Obj) := (List.range h.objs.size).filterMap fun a => if a = L ∨ (g.get? a).isSome = true then none else (h.get? a).map fun o => (a, o)
def rest (g h : Heap) (L d : Addr) : List (Addr × Obj) := (allNews g h L).filter fun p => decide (p.1 ≠ d)
end L2
namespace L2
open PySem PySem.Spec PyProof.Rows
structure Mod (K : PySem.W.Frag) (mg : Str → Option Value) (base : Heap) : Prop where
  kin : K.In base
  glob : base.Ns mainGlobals mg
  blt : ∃ mb, base.Ns builtinsNs mb ∧ ∀ x : Str, x ≠ "__name__" → mb x = bootBuiltins x
  nolimit : base.NoLimit
structure Cx where
  prog : Program
  w : World
  K : PySem.W.Frag
  mg : Str → Option Value
  base : Heap
  A : Around
  N : List Str
  s₀ : Shared
  H₀ : Hp
  env : Env
  outer : List Env
  stack : List Env
  ex : List Addr
  fn : Str → Bool
  calm : Bool
  pn : List (Addr × Obj)
  xe : Value → Shared → Prop
def frs (l : List Env) : List Addr := l.filterMap (·.frame)
abbrev Cx.fs (X : Cx) : List Addr := frs X.outer
def Vis (sc : Scope) (x : Str) : Prop := sc.names.lookup x = some .local ∨ sc.names.lookup x = some .cell ∨ sc.names.lookup x = some .free
def Loc (sc : Scope) (x : Str) : Prop := sc.names.lookup x = some .local ∨ sc.names.lookup x = some .cell
def Look (env : Env) (h : Heap) (m : Str → Option Value) (x : Str) (u : Value) : Prop :=
  (env.kindOf x = some .local ∧ m x = some u) ∨ ((env.kindOf x = some .cell ∨ env.kindOf x = some .free) ∧ ∃ c, env.cells.lookup x = some c ∧ h.IsCell c (some u))
structure Cx.Ok (X : Cx) : Prop where
  mod : Mod X.K X.mg X.base
  kind : X.env.scope.kind = .function
  glob : X.env.globals = mainGlobals
  blt : X.env.builtins = builtinsNs
  above : X.s₀.heap.objs.size ≤ X.env.locals
  inj : ∀ x y c, X.env.cells.lookup x = some c → X.env.cells.lookup y = some c → x = y
  has : ∀ x, (X.env.kindOf x = some .cell ∨ X.env.kindOf x = some .free) → ∃ c, X.env.cells.lookup x = some c
  cab : ∀ x c, X.fn x = true → X.env.cells.lookup x = some c → X.s₀.heap.objs.size ≤ c
  hd : X.calm = true → X.A.handled = none
  frames : X.A.frames = some X.stack
  stk : X.stack = X.outer ∨ (X.stack = X.env :: X.outer ∧ X.env.frame = some X.env.locals)
  exf : ∀ b ∈ X.ex, b ≠ X.env.locals ∧ ∀ x c, X.env.cells.lookup x = some c → c ≠ b
  bs : ∀ b o, X.base.get? b = some o → X.s₀.heap.get? b = some o ∧ X.H₀ b = none
  bsz : X.base.objs.size ≤ X.s₀.heap.objs.size
  noex : ∀ b o, X.base.get? b = some o → b ∉ X.ex
  exfs : ∀ b ∈ X.ex, b ∉ X.fs
  funs : X.s₀.heap.FunFrames X.base X.outer
  frf : ∀ b ∈ X.fs, X.H₀ b = none
structure Inv (X : Cx) (pins : List (Addr × Obj)) (σ : List (Option V)) (H : Hp) (s : Shared) : Prop where
  ok : X.Ok
  os : s.os = X.s₀.os
  bare : AllBare s.gens
  base : Un X.fs X.ex X.H₀ H X.s₀.heap s.heap
  loc : ∃ m, s.heap.Ns X.env.locals m ∧ ∀ (i : Nat) (x : Str) (v : V), X.N[i]? = some x → σ[i]? = some (some v) → Vis X.env.scope x → ∃ u, RelV v u ∧ Look X.env s.heap m x u
  cell : ∀ x c, X.env.cells.lookup x = some c → ∃ v, s.heap.IsCell c v
  free : H X.env.locals = none
  freeC : ∀ x c, X.env.cells.lookup x = some c → H c = none
  pin : ∀ p ∈ X.pn ++ pins, s.heap.get? p.1 = some p.2 ∧ H p.1 = none ∧ p.1 ≠ X.env.locals ∧ p.1 ∉ X.fs ∧ ∀ v, p.2.data ≠ .cell v
  hok : HOk X.prog X.w H s.heap
  len : σ.length = X.N.length
section
variable {X : Cx} {pins : List (Addr × Obj)} {σ : List (Option V)} {H H' : Hp} {s : Shared} {h' : Heap}
theorem Cx.Ok.nofr (ok : X.Ok) {b : Addr} {o : Obj} (e : X.base.get? b = some o) : b ∉ X.fs := fun hb => by
  have := (ok.funs.mem hb).1
  rw [e] at this; cases this
theorem Inv.bs (I : Inv X pins σ H s) : ∀ b o, X.base.get? b = some o → s.heap.get? b = some o ∧ H b = none := fun b o e =>
  ⟨I.base.keep b o (I.ok.bs b o e).1 (I.ok.bs b o e).2 (I.ok.nofr e) (I.ok.noex b o e), I.base.free b o (I.ok.bs b o e).1 (I.ok.bs b o e).2 (I.ok.noex b o e)⟩
theorem Inv.bk (I : Inv X pins σ H s) : ∀ b o, X.base.get? b = some o → s.heap.get? b = some o := fun b o e => (I.bs b o e).1
theorem Inv.mod (I : Inv X pins σ H s) : Mod X.K X.mg X.base := I.ok.mod
theorem Inv.kIn (I : Inv X pins σ H s) : X.K.In s.heap := I.ok.mod.kin.keeps I.bk
theorem Inv.nolimit (I : Inv X pins σ H s) : s.heap.NoLimit := I.ok.mod.nolimit.keeps I.bk
theorem Inv.lt (I : Inv X pins σ H s) : X.env.locals < s.heap.objs.size := let ⟨_, hn, _⟩ := I.loc; hn.lt
theorem Inv.sz (I : Inv X pins σ H s) : X.s₀.heap.objs.size ≤ s.heap.objs.size := Nat.le_trans I.ok.above (Nat.le_of_lt I.lt)
theorem Inv.nofs (I : Inv X pins σ H s) {a : Addr} (h : s.heap.objs.size ≤ a) : a ∉ X.fs := fun hb => by
  obtain ⟨_, o, ho, _⟩ := I.ok.funs.mem hb
  exact absurd (Nat.lt_of_lt_of_le (Heap.lt_size ho) (Nat.le_trans I.sz h)) (Nat.lt_irrefl _)
theorem Inv.cne (I : Inv X pins σ H s) : ∀ x c, X.env.cells.lookup x = some c → c ≠ X.env.locals := fun x c e z => by
  obtain ⟨v, o, ho, hd⟩ := I.cell x c e
  obtain ⟨m, ⟨o', es, ep, ho', hd', _⟩, _⟩ := I.loc
  rw [z, ho'] at ho; cases ho; rw [hd'] at hd; cases hd
theorem Inv.funs (I : Inv X pins σ H s) : s.heap.FunFrames X.base X.outer := by
  have all : ∀ (l : List Env), (∀ b ∈ frs l, b ∈ X.fs) → X.s₀.heap.FunFrames X.base l → s.heap.FunFrames X.base l := by
    intro l
    induction l with
    | nil => intro _ _; trivial
    | cons env r ih =>
      intro hs hl
      obtain ⟨hk, ⟨L, o, hf, hn, ho, hd⟩, hr⟩ := hl
      have hL : L ∈ X.fs := hs L (by unfold frs; rw [List.filterMap_cons, hf]; exact List.mem_cons_self)
      obtain ⟨sl, e⟩ := I.base.slot L o ho (I.ok.frf L hL) hL fun z => I.ok.exfs L z hL
      exact ⟨hk, ⟨L, _, hf, hn, e, hd⟩, ih (fun b hb => hs b (by unfold frs; rw [List.filterMap_cons, hf]; exact List.mem_cons_of_mem _ hb)) hr⟩
  exact all X.outer (fun _ hb => hb) I.ok.funs
theorem Inv.stack (I : Inv X pins σ H s) : s.heap.FunFrames X.base X.stack := by
  rcases I.ok.stk with e | ⟨e, hf⟩
  · rw [e]; exact I.funs
  · rw [e]
    obtain ⟨m, hn, _⟩ := I.loc
    refine .cons (by rw [I.ok.kind]; decide) hf hn ?_ I.funs
    exact Heap.get?_none_of_le (Nat.le_trans I.ok.bsz I.ok.above)
theorem Inv.stkSub (I : Inv X pins σ H s) : ∀ b ∈ frs X.stack, b ∈ X.env.locals :: X.fs := fun b hb => by
  rcases I.ok.stk with e | ⟨e, hf⟩
  · rw [e] at hb; exact List.mem_cons_of_mem _ hb
  · rw [e] at hb
    unfold frs at hb
    rw [List.filterMap_cons, hf] at hb
    exact hb
theorem Inv.stkFree (I : Inv X pins σ H s) : ∀ b ∈ frs X.stack, H b = none := fun b hb => by
  rcases List.mem_cons.mp (I.stkSub b hb) with e | hb
  · rw [e]; exact I.free
  · obtain ⟨_, o, ho, _⟩ := I.ok.funs.mem hb
    exact I.base.free b o ho (I.ok.frf b hb) fun z => I.ok.exfs b z hb
theorem Inv.step {g' : Array GenState} {t' : Nat} {d' : Drawn} {ch : List Addr} (I : Inv X pins σ H s)
    (hch : ∀ b ∈ ch, (b ∈ X.ex ∨ X.s₀.heap.objs.size ≤ b) ∧ b ≠ X.env.locals ∧ (∀ x c, X.env.cells.lookup x = some c → c ≠ b) ∧ ∀ p ∈ X.pn ++ pins, p.1 ≠ b)
    (keep : ∀ b o, b ≠ X.env.locals → b ∉ X.fs → b ∉ ch → s.heap.get? b = some o → H b = none → h'.get? b = some o)
    (slot : ∀ b o, b ≠ X.env.locals → b ∈ X.fs → b ∉ ch → s.heap.get? b = some o → H b = none → ∃ sl, h'.get? b = some { o with slots := sl }) (free : ∀ b o, b ∉ ch → s.heap.get? b = some o → H b = none → H' b = none)
    (there : ∀ b o, b ∉ ch → s.heap.get? b = some o → ∃ o', h'.get? b = some o')
    (tups : ∀ b xs, H b = some (.tup xs) → H' b = some (.tup xs)) (frzs : ∀ b o u, H b = some (.frz o u) → H' b = some (.frz o u)) (tbls : ∀ b ps, H b = some (.tbl ps) → ∃ more, H' b = some (.tbl (ps ++ more)))
    (ns : ∀ m, s.heap.Ns X.env.locals m → h'.Ns X.env.locals m) (hok : HOk X.prog X.w H' h') (hg : AllBare g') :
    Inv X pins σ H' { s with heap := h', gens := g', drawn := d', toks := t' } := by
  have neL : ∀ b o, X.s₀.heap.get? b = some o → b ≠ X.env.locals := fun b o e => Nat.ne_of_lt (Nat.lt_of_lt_of_le (Heap.lt_size e) I.ok.above)
  have neC : ∀ b o, X.s₀.heap.get? b = some o → b ∉ X.ex → b ∉ ch := fun b o e hx hb => by
    rcases (hch b hb).1 with z | z
    · exact hx z
    · exact absurd (Nat.lt_of_lt_of_le (Heap.lt_size e) z) (Nat.lt_irrefl _)
  have cellK : ∀ x c, X.env.cells.lookup x = some c → ∀ v, s.heap.IsCell c v → h'.IsCell c v := fun x c e v ⟨o, ho, hd⟩ => by
    have nch : c ∉ ch := fun z => (hch c z).2.2.1 x c e rfl
    by_cases hc : c ∈ X.fs
    · obtain ⟨sl, q⟩ := slot c o (I.cne x c e) hc nch ho (I.freeC x c e)
      exact ⟨_, q, hd⟩
    · exact ⟨o, keep c o (I.cne x c e) hc nch ho (I.freeC x c e), hd⟩
  refine ⟨I.ok, I.os, hg, ⟨fun b o e n hb hx => ?_, fun b o e n hb hx => ?_, fun b o e n hx => ?_, fun b o e hx => ?_, fun b xs e => tups b xs (I.base.tups b xs e), fun b o xs e => frzs b o xs (I.base.frzs b o xs e), fun b ps e => ?_⟩, ?_, fun x c e => ?_, ?_, fun x c e => ?_, fun p hp => ?_, hok, I.len⟩
  · exact keep b o (neL b o e) hb (neC b o e hx) (I.base.keep b o e n hb hx) (I.base.free b o e n hx)
  · obtain ⟨sl, e1⟩ := I.base.slot b o e n hb hx
    obtain ⟨sl', e2⟩ := slot b _ (neL b o e) hb (neC b o e hx) e1 (I.base.free b o e n hx)
    exact ⟨sl', e2⟩
  · obtain ⟨o', e1⟩ := I.base.there b o e hx
    exact free b o' (neC b o e hx) e1 (I.base.free b o e n hx)
  · obtain ⟨o', e1⟩ := I.base.there b o e hx
    exact there b o' (neC b o e hx) e1
  · obtain ⟨m1, e1⟩ := I.base.tbls b ps e
    obtain ⟨m2, e2⟩ := tbls b _ e1
    exact ⟨m1 ++ m2, by rw [e2, Array.append_assoc]⟩
  · obtain ⟨m, hn, hl⟩ := I.loc
    refine ⟨m, ns m hn, fun i x v e1 e2 e3 => ?_⟩
    obtain ⟨u, r, l⟩ := hl i x v e1 e2 e3
    refine ⟨u, r, ?_⟩
    rcases l with l | ⟨k, c, e, z⟩
    · exact .inl l
    · exact .inr ⟨k, c, e, cellK x c e _ z⟩
  · obtain ⟨v, z⟩ := I.cell x c e
    exact ⟨v, cellK x c e v z⟩
  · obtain ⟨m, ⟨o, _, _, ho, _⟩, _⟩ := I.loc
    exact free _ o (fun z => (hch _ z).2.1 rfl) ho I.free
  · obtain ⟨v, o, ho, hd⟩ := I.cell x c e
    exact free c o (fun z => (hch c z).2.2.1 x c e rfl) ho (I.freeC x c e)
  · obtain ⟨e, n, ne, nf, d⟩ := I.pin p hp
    have nch : p.1 ∉ ch := fun z => (hch p.1 z).2.2.2 p hp rfl
    exact ⟨keep p.1 p.2 ne nf nch e n, free p.1 p.2 nch e n, ne, nf, d⟩
theorem Inv.un {t' : Nat} (I : Inv X pins σ H s) (u : Un X.fs [] H H' s.heap h') (hok : HOk X.prog X.w H' h') : Inv X pins σ H' { s with heap := h', toks := t' } := by
  obtain ⟨m, ⟨o, es, ep, ho, r⟩, _⟩ := id I.loc
  obtain ⟨sl, hL⟩ := u.any ho I.free (by simp)
  exact I.step (g' := s.gens) (d' := s.drawn) (ch := []) (fun _ z => nomatch z) (fun b o _ hb _ e n => u.keep b o e n hb (by simp)) (fun b o _ hb _ e n => u.slot b o e n hb (by simp)) (fun b o _ e n => u.free b o e n (by simp)) (fun b o _ e => u.there b o e (by simp)) u.tups u.frzs u.tbls (fun m' hm => by
    obtain ⟨o', es', ep', ho', r'⟩ := hm
    rw [ho] at ho'; cases ho'
    exact ⟨_, es', ep', hL, r'⟩) hok I.bare
theorem Inv.call {g' : Array GenState} {t' : Nat} {d' : Drawn} {ch : List Addr} (I : Inv X pins σ H s) (u : Un (frs X.stack) ch H H' s.heap h') (hok : HOk X.prog X.w H' h') (hg : AllBare g')
    (hch : ∀ b ∈ ch, (b ∈ X.ex ∨ X.s₀.heap.objs.size ≤ b) ∧ b ≠ X.env.locals ∧ (∀ x c, X.env.cells.lookup x = some c → c ≠ b) ∧ ∀ p ∈ X.pn ++ pins, p.1 ≠ b) :
    Inv X pins σ H' { s with heap := h', gens := g', drawn := d', toks := t' } := by
  obtain ⟨m, ⟨o, es, ep, ho, r⟩, _⟩ := id I.loc
  obtain ⟨sl, hL⟩ := u.any ho I.free fun z => (hch _ z).2.1 rfl
  exact I.step (ch := ch) hch (fun b o hL hb hc e n => u.keep b o e n (fun z => (List.mem_cons.mp (I.stkSub b z)).elim hL hb) hc) (fun b o _ _ hc e n => u.any e n hc) (fun b o hc e n => u.free b o e n hc) (fun b o hc e => u.there b o e hc) u.tups u.frzs u.tbls (fun m' hm => by
    obtain ⟨o', es', ep', ho', r'⟩ := hm
    rw [ho] at ho'; cases ho'
    exact ⟨_, es', ep', hL, r'⟩) hok hg
theorem Inv.turned {t' : Nat} {it : Addr} (I : Inv X pins σ H s) (k : ∀ b o, b ≠ it → s.heap.get? b = some o → h'.get? b = some o) (hn : H it = none) (hL : it ≠ X.env.locals)
    (h1 : it ∈ X.ex ∨ X.s₀.heap.objs.size ≤ it) (h2 : ∀ x c, X.env.cells.lookup x = some c → c ≠ it) (h3 : ∀ p ∈ X.pn ++ pins, p.1 ≠ it) : Inv X pins σ H { s with heap := h', toks := t' } := by
  have nit : ∀ b u, H b = some u → b ≠ it := fun b u e z => by rw [z, hn] at e; cases e
  refine I.step (g' := s.gens) (d' := s.drawn) (ch := [it]) (fun b hb => ?_) (fun b o _ _ hc e _ => k b o (fun z => hc (by simp [z])) e) (fun b o _ _ hc e _ => ⟨o.slots, k b o (fun z => hc (by simp [z])) e⟩) (fun _ _ _ _ n => n)
    (fun b o hc e => ⟨o, k b o (fun z => hc (by simp [z])) e⟩) (fun _ _ e => e) (fun _ _ _ e => e) (fun b ps e => ⟨#[], by rw [e]; simp⟩) (fun m hm => ?_) (fun b u e => ?_) I.bare
  · have e : b = it := by simpa using hb
    subst e
    exact ⟨h1, hL, h2, h3⟩
  · obtain ⟨o, es, ep, ho, r⟩ := hm
    exact ⟨o, es, ep, k _ o (Ne.symm hL) ho, r⟩
  · refine (I.hok b u e).stay (fun c v hc q => k c v ?_ q) (fun _ q => q) fun _ _ q => q
    rcases hc with z | z
    · rw [z]; exact nit b u e
    · exact nit c _ z
theorem Inv.tok (I : Inv X pins σ H s) (t : Nat) : Inv X pins σ H { s with toks := t } := I.un (h' := s.heap) (t' := t) Un.refl I.hok
theorem Inv.kept {t' : Nat} (I : Inv X pins σ H s) (k : ∀ b u, s.heap.get? b = some u → h'.get? b = some u) : Inv X pins σ H { s with heap := h', toks := t' } := I.un (Un.kept k) (I.hok.kept k)
theorem Inv.laid {a : Addr} {o : HO} {t' : Nat} (I : Inv X pins σ H s) (k : ∀ b u, s.heap.get? b = some u → h'.get? b = some u) (hp : s.heap.objs.size ≤ a) (new : ObjOk X.prog X.w (upd H a o) h' a o) :
    Inv X pins σ (upd H a o) { s with heap := h', toks := t' } := I.un (Un.laid k hp (I.hok.fresh hp)) (I.hok.laid k hp new)
theorem Inv.write {x e : Addr} {o : HO} {t' : Nat} (I : Inv X pins σ H s) (mu : Mut (H x)) (he : e = x ∨ H e = some (.own x)) (k : ∀ b u, b ≠ e → s.heap.get? b = some u → h'.get? b = some u) (heo : ∃ u, h'.get? e = some u)
    (new : ObjOk X.prog X.w (upd H x o) h' x o) : Inv X pins σ (upd H x o) { s with heap := h', toks := t' } := I.un (Un.write mu he k heo) (I.hok.write mu he k heo new)
theorem Inv.weak {σ' : List (Option V)} (I : Inv X pins σ H s) (hl : σ'.length = σ.length) (w : ∀ (i : Nat) v, σ'[i]? = some (some v) → σ[i]? = some (some v)) : Inv X pins σ' H s :=
  ⟨I.ok, I.os, I.bare, I.base, let ⟨m, hn, hl'⟩ := I.loc; ⟨m, hn, fun i x v e1 e2 e3 => hl' i x v e1 (w i v e2) e3⟩, I.cell, I.free, I.freeC, I.pin, I.hok, hl.trans I.len⟩
theorem Inv.pins_of {pins' : List (Addr × Obj)} (I : Inv X pins σ H s) (h : ∀ p ∈ pins', s.heap.get? p.1 = some p.2 ∧ H p.1 = none ∧ p.1 ≠ X.env.locals ∧ p.1 ∉ X.fs ∧ ∀ v, p.2.data ≠ .cell v) : Inv X pins' σ H s :=
  ⟨I.ok, I.os, I.bare, I.base, I.loc, I.cell, I.free, I.freeC, fun p hp => (List.mem_append.mp hp).elim (fun z => I.pin p (List.mem_append_left _ z)) (h p), I.hok, I.len⟩
theorem nodup_ix {N : List Str} (hN : N.Nodup) {i j : Nat} {x : Str} (a : N[i]? = some x) (b : N[j]? = some x) : i = j := by
  obtain ⟨h1, e1⟩ := List.getElem?_eq_some_iff.mp a
  obtain ⟨h2, e2⟩ := List.getElem?_eq_some_iff.mp b
  exact (List.getElem_inj hN).mp (e1.trans e2.symm)
theorem store_ok2 {M : Model} {A : Around} {E : Value → Shared → Prop} {i : Nat} {x : Str} {v : V} {u : Value} {Q : Unit → Shared → Prop} (I : Inv X pins σ H s) (hN : X.N.Nodup) (hi : X.N[i]? = some x) (hx : Loc X.env.scope x) (r : RelV v u)
    (h : ∀ s', Inv X pins (σ.set i (some v)) H s' → (∃ a, Heap.SameBut a s.heap s'.heap ∧ (a = X.env.locals ∨ X.env.cells.lookup x = some a)) → Q () s') (hf : X.fn x = true ∨ X.env.scope.names.lookup x = some .local := by first | exact .inl rfl | exact .inr rfl | assumption) : wpAny M A (storeName X.env x u) Q E s := by
  obtain ⟨m, hn, hl⟩ := id I.loc
  have hcls : (X.env.scope.kind == .class || (X.env.scope.kind == .module && X.env.locals != X.env.globals)) = false := by rw [I.ok.kind]; rfl
  have hiσ : i < σ.length := by rw [I.len]; exact (List.getElem?_eq_some_iff.mp hi).1
  have cne := I.cne
  have tracked : ∀ {a : Addr} {h' : Heap}, (∃ o, s.heap.get? a = some o ∧ H a = none) → Heap.SameBut a s.heap h' → HOk X.prog X.w H h' := fun {a h'} ha hs b ob e => by
    obtain ⟨_, _, hfree⟩ := ha
    refine (I.hok b ob e).stay (fun c w' hc q => (hs.2 c ?_).trans q) (fun _ q => q) fun _ _ q => q
    rintro rfl
    rcases hc with rfl | hc
    · rw [hfree] at e; cases e
    · rw [hfree] at hc; cases hc
  rcases hx with hk | hk
  · refine wpAny_storeName_local hk hn (fun h' hn' hs => ?_) hcls
    obtain ⟨oL, _, _, hoL, _⟩ := id hn
    refine h _ ⟨I.ok, I.os, I.bare, ⟨fun b o e n hb hx => ?_, fun b o e n hb hx => ?_, I.base.free, fun b o e hx => ?_, I.base.tups, I.base.frzs, I.base.tbls⟩, ⟨_, hn', fun j y v' e1 e2 e3 => ?_⟩, fun y c e => ?_, I.free, I.freeC, fun p hp => ?_, tracked ⟨oL, hoL, I.free⟩ hs, by simpa using I.len⟩ ⟨_, hs, .inl rfl⟩
    · exact (hs.2 b (Nat.ne_of_lt (Nat.lt_of_lt_of_le (Heap.lt_size e) I.ok.above))).trans (I.base.keep b o e n hb hx)
    · obtain ⟨sl, e1⟩ := I.base.slot b o e n hb hx
      exact ⟨sl, (hs.2 b (Nat.ne_of_lt (Nat.lt_of_lt_of_le (Heap.lt_size e) I.ok.above))).trans e1⟩
    · obtain ⟨o', e1⟩ := I.base.there b o e hx
      exact ⟨o', (hs.2 b (Nat.ne_of_lt (Nat.lt_of_lt_of_le (Heap.lt_size e) I.ok.above))).trans e1⟩
    · by_cases hj : j = i
      · subst hj
        rw [hi] at e1; cases e1
        rw [List.getElem?_set_self hiσ] at e2
        cases e2
        exact ⟨u, r, .inl ⟨hk, by simp⟩⟩
      · rw [List.getElem?_set_ne (Ne.symm hj)] at e2
        obtain ⟨u', r', q⟩ := hl j y v' e1 e2 e3
        refine ⟨u', r', ?_⟩
        rcases q with ⟨k, e⟩ | ⟨k, c, e, z⟩
        · refine .inl ⟨k, ?_⟩
          have : y ≠ x := fun e => hj (nodup_ix hN e1 (e ▸ hi))
          simp [this, e]
        · exact .inr ⟨k, c, e, z.sameBut hs (cne y c e)⟩
    · obtain ⟨w', z⟩ := I.cell y c e
      exact ⟨w', z.sameBut hs (cne y c e)⟩
    · obtain ⟨e, n, ne, nf, d⟩ := I.pin p hp
      exact ⟨(hs.2 p.1 ne).trans e, n, ne, nf, d⟩
  · have hfn : X.fn x = true := by
      rcases hf with z | z
      · exact z
      · rw [z] at hk; cases hk
    obtain ⟨c, hc⟩ := I.ok.has x (.inl hk)
    obtain ⟨w', z⟩ := I.cell x c hc
    refine wpAny_storeName_cell I.ok.kind hk hc z (fun h' hc' hs => ?_)
    obtain ⟨oc, hoc, hocd⟩ := id z
    refine h { s with heap := h' } ⟨I.ok, I.os, I.bare, ⟨fun b o e n hb hx => ?_, fun b o e n hb hx => ?_, I.base.free, fun b o e hx => ?_, I.base.tups, I.base.frzs, I.base.tbls⟩, ⟨m, hn.sameBut hs (Ne.symm (cne x c hc)), fun j y v' e1 e2 e3 => ?_⟩, fun y c' e => ?_, I.free, I.freeC, fun p hp => ?_, tracked ⟨oc, hoc, I.freeC x c hc⟩ hs, by simpa using I.len⟩ ⟨c, hs, .inr hc⟩
    · exact (hs.2 b (Nat.ne_of_lt (Nat.lt_of_lt_of_le (Heap.lt_size e) (I.ok.cab x c hfn hc)))).trans (I.base.keep b o e n hb hx)
    · obtain ⟨sl, e1⟩ := I.base.slot b o e n hb hx
      exact ⟨sl, (hs.2 b (Nat.ne_of_lt (Nat.lt_of_lt_of_le (Heap.lt_size e) (I.ok.cab x c hfn hc)))).trans e1⟩
    · obtain ⟨o', e1⟩ := I.base.there b o e hx
      exact ⟨o', (hs.2 b (Nat.ne_of_lt (Nat.lt_of_lt_of_le (Heap.lt_size e) (I.ok.cab x c hfn hc)))).trans e1⟩
    · by_cases hj : j = i
      · subst hj
        rw [hi] at e1; cases e1
        rw [List.getElem?_set_self hiσ] at e2
        cases e2
        exact ⟨u, r, .inr ⟨.inl hk, c, hc, hc'⟩⟩
      · rw [List.getElem?_set_ne (Ne.symm hj)] at e2
        obtain ⟨u', r', q⟩ := hl j y v' e1 e2 e3
        refine ⟨u', r', ?_⟩
        rcases q with q | ⟨k, c', e, z'⟩
        · exact .inl q
        · refine .inr ⟨k, c', e, z'.sameBut hs ?_⟩
          rintro rfl
          exact hj (nodup_ix hN e1 (I.ok.inj _ _ _ e hc ▸ hi))
    · by_cases hcc : c' = c
      · subst hcc; exact ⟨_, hc'⟩
      · obtain ⟨w2, z2⟩ := I.cell y c' e
        exact ⟨w2, z2.sameBut hs hcc⟩
    · obtain ⟨e, n, ne, nf, d⟩ := I.pin p hp
      refine ⟨(hs.2 p.1 ?_).trans e, n, ne, nf, d⟩
      intro q
      rw [q, hoc] at e
      have q' : oc = p.2 := Option.some.inj e
      exact d w' (by rw [← q']; exact hocd)
theorem store_ok {M : Model} {A : Around} {E : Value → Shared → Prop} {i : Nat} {x : Str} {v : V} {u : Value} {Q : Unit → Shared → Prop} (I : Inv X pins σ H s) (hN : X.N.Nodup) (hi : X.N[i]? = some x) (hx : Loc X.env.scope x) (r : RelV v u)
    (h : ∀ s', Inv X pins (σ.set i (some v)) H s' → Q () s') (hf : X.fn x = true ∨ X.env.scope.names.lookup x = some .local := by first | exact .inl rfl | exact .inr rfl | assumption) : wpAny M A (storeName X.env x u) Q E s :=
  store_ok2 I hN hi hx r (fun s' I' _ => h s' I') hf
theorem Inv.call' {s' : Shared} {ch : List Addr} (I : Inv X pins σ H s) (ho : s'.os = s.os) (u : Un (frs X.stack) ch H H' s.heap s'.heap) (hok : HOk X.prog X.w H' s'.heap) (hg : AllBare s'.gens)
    (hch : ∀ b ∈ ch, (b ∈ X.ex ∨ X.s₀.heap.objs.size ≤ b) ∧ b ≠ X.env.locals ∧ (∀ x c, X.env.cells.lookup x = some c → c ≠ b) ∧ ∀ p ∈ X.pn ++ pins, p.1 ≠ b) : Inv X pins σ H' s' := by
  obtain ⟨h', g', d', t', o'⟩ := s'
  have e : o' = s.os := ho
  subst e
  exact I.call (g' := g') (t' := t') (d' := d') u hok hg hch
end
abbrev XK := Value → Option Addr → Hp → Prop
abbrev St := List (Option V)
abbrev VK := V → Hp → Prop
abbrev TE := St → Hp → VK → Prop
abbrev TT := St → Hp → (Bool → Hp → Prop) → Prop
abbrev TA := St → Hp → (List V → Hp → Prop) → Prop
structure Ends where
  nx : St → Hp → Prop
  rt : VK
  bk : St → Hp → Prop := fun _ _ => False
  ct : St → Hp → Prop := fun _ _ => False
abbrev TS := Ends → St → Hp → Prop
def EP (X : Cx) (pins : List (Addr × Obj)) (σ : St) (Q : VK) (u : Value) (s' : Shared) : Prop := ∃ v H', Inv X pins σ H' s' ∧ RelV v u ∧ Q v H'
def TP (X : Cx) (pins : List (Addr × Obj)) (σ : St) (Q : Bool → Hp → Prop) (b : Bool) (s' : Shared) : Prop := ∃ H', Inv X pins σ H' s' ∧ Q b H'
def AP (X : Cx) (pins : List (Addr × Obj)) (σ : St) (Q : List V → Hp → Prop) (us : List Value) (s' : Shared) : Prop := ∃ vs H', Inv X pins σ H' s' ∧ Vals vs us ∧ Q vs H'
def SP (X : Cx) (pins : List (Addr × Obj)) (D : Ends) (f : Flow) (s' : Shared) : Prop :=
  match f with
  | .next => ∃ σ' H', Inv X pins σ' H' s' ∧ D.nx σ' H'
  | .brk => ∃ σ' H', Inv X pins σ' H' s' ∧ D.bk σ' H'
  | .cont => ∃ σ' H', Inv X pins σ' H' s' ∧ D.ct σ' H'
  | .ret u => ∃ v σ' H', Inv X pins σ' H' s' ∧ RelV v u ∧ D.rt v H'
def PE (X : Cx) (e : Expr) (t : TE) : Prop :=
  ∀ (pins : List (Addr × Obj)) (s : Shared) (σ : St) (H : Hp) (Q : VK), Inv X pins σ H s → t σ H Q → wpAny (model X.prog X.w) X.A (eval e X.env) (EP X pins σ Q) X.xe s
def PT (X : Cx) (e : Expr) (t : TT) : Prop :=
  ∀ (pins : List (Addr × Obj)) (s : Shared) (σ : St) (H : Hp) (Q : Bool → Hp → Prop), Inv X pins σ H s → t σ H Q → wpAny (model X.prog X.w) X.A (isTrue e X.env (eval e X.env)) (TP X pins σ Q) X.xe s
def PW (X : Cx) (e : Expr) (t : TT) : Prop :=
  ∀ (whole : Sem Value) (pins : List (Addr × Obj)) (s : Shared) (σ : St) (H : Hp) (Q : Bool → Hp → Prop), Inv X pins σ H s → t σ H Q → wpAny (model X.prog X.w) X.A (isTrue e X.env whole) (TP X pins σ Q) X.xe s
theorem PW.pt {X : Cx} {e : Expr} {t : TT} (h : PW X e t) : PT X e t := h _
def PA (X : Cx) (es : List Expr) (t : TA) : Prop :=
  ∀ (pos : Pos) (pins : List (Addr × Obj)) (s : Shared) (σ : St) (H : Hp) (Q : List V → Hp → Prop), Inv X pins σ H s → t σ H Q → wpAny (model X.prog X.w) X.A (spliced (backTo pos (starEach es X.env))) (AP X pins σ Q) X.xe s
def PS (X : Cx) (st : Stmt) (t : TS) : Prop :=
  ∀ (pins : List (Addr × Obj)) (s : Shared) (σ : St) (H : Hp) (D : Ends), Inv X pins σ H s → t D σ H → wpAny (model X.prog X.w) X.A (exec st X.env) (SP X pins D) X.xe s
def PSs (X : Cx) (st : List Stmt) (t : TS) : Prop :=
  ∀ (pins : List (Addr × Obj)) (s : Shared) (σ : St) (H : Hp) (D : Ends), Inv X pins σ H s → t D σ H → wpAny (model X.prog X.w) X.A (execs st X.env) (SP X pins D) X.xe s
theorem thn {α : Type} {t : Sem α} {Q Q' : α → Shared → Prop} {M : Model} {A : Around} {E : Value → Shared → Prop} {s : Shared} (h : wpAny M A t Q E s) (hQ : ∀ a s, Q a s → Q' a s) : wpAny M A t Q' E s := wpAny_mono h hQ fun _ _ x => x
end L2
namespace L2
open PySem PySem.Spec PyProof.Rows
section
variable {X : Cx}
def tVar (i : Nat) : TE := fun σ H Q => ∃ v, σ[i]? = some (some v) ∧ Q v H
def tC (v : V) : TE := fun _ H Q => Q v H
theorem pe_var {i : Nat} {x : Str} {pos : Pos} (hN : X.N[i]? = some x) (hv : Vis X.env.scope x) (hd : (x == ("__debug__" : Str)) = false := by decide) (hcd : (x == ("__classdict__" : Str)) = false := by decide) : PE X (.Name x pos) (tVar i) := by
  intro pins s σ H Q I h
  obtain ⟨v, e, h⟩ := h
  obtain ⟨m, hn, hl⟩ := I.loc
  obtain ⟨u, r, l⟩ := hl i x v hN e hv
  have fin : EP X pins σ Q u s := ⟨v, H, I, r, h⟩
  rcases l with ⟨hk, hm⟩ | ⟨hk, c, hc, hcell⟩
  · exact wpAny_Name (wpAny_loadName_local I.ok.kind hk hn hm fin) hd
  · rcases hk with hk | hk
    · exact wpAny_Name (wpAny_loadName_cell I.ok.kind hk hc hcell fin) hd
    · exact wpAny_Name (wpAny_loadName_free I.ok.kind hk hc hcell fin hcd) hd
theorem pe_int {i j pos} : PE X (.Constant (.int i) j pos) (tC (.int i)) := fun _ _ _ H _ I h => wpAny_Constant_int ⟨.int i, H, I.tok _, ⟨_, rfl⟩, h⟩
theorem pe_bl {b j pos} : PE X (.Constant (.bool b) j pos) (tC (.bl b)) := fun _ _ _ H _ I h => Constant_bool ⟨.bl b, H, I, rfl, h⟩
theorem pe_non {j pos} : PE X (.Constant .none j pos) (tC .non) := fun _ _ _ H _ I h => Constant_none ⟨.non, H, I, rfl, h⟩
theorem pe_str {x j pos} : PE X (.Constant (.str x) j pos) (tC (.str x)) := fun _ _ _ H _ I h => Calls.Constant_str ⟨.str x, H, I.tok _, ⟨_, rfl⟩, h⟩
def Gl (X : Cx) (x : Str) : Prop := X.env.kindOf x = some .globalImplicit
theorem ld_glob {E : Value → Shared → Prop} {pins : List (Addr × Obj)} {s : Shared} {σ : St} {H : Hp} {x : Str} {u : Value} {pos : Pos} {Q : Value → Shared → Prop} (I : Inv X pins σ H s) (hg : Gl X x) (hm : X.mg x = some u) (h : Q u s)
    (hd : (x == ("__debug__" : Str)) = false := by decide) : wpAny (model X.prog X.w) X.A (eval (.Name x pos) X.env) Q E s :=
  Calls.Name_function_global I.ok.kind hg (Calls.loadGlobal_global (by rw [I.ok.glob]; exact I.mod.glob.keeps I.bk) hm h) hd
theorem ld_blt {E : Value → Shared → Prop} {pins : List (Addr × Obj)} {s : Shared} {σ : St} {H : Hp} {x : Str} {u : Value} {pos : Pos} {Q : Value → Shared → Prop} (I : Inv X pins σ H s) (hg : Gl X x) (hm : X.mg x = none) (hv : bootBuiltins x = some u) (h : Q u s)
    (hn : x ≠ "__name__" := by decide) (hd : (x == ("__debug__" : Str)) = false := by decide) : wpAny (model X.prog X.w) X.A (eval (.Name x pos) X.env) Q E s := by
  obtain ⟨mb, h1, h2⟩ := I.mod.blt
  exact Calls.Name_function_global I.ok.kind hg (Calls.loadGlobal_builtin (by rw [I.ok.glob]; exact I.mod.glob.keeps I.bk) hm (by rw [I.ok.blt]; exact h1.keeps I.bk) ((h2 x hn).trans hv) h) hd
theorem pe_bltn {x : Str} {v : V} {u : Value} {pos : Pos} (hg : Gl X x) (hm : X.mg x = none) (hv : bootBuiltins x = some u) (r : RelV v u) (hn : x ≠ "__name__" := by decide) (hd : (x == ("__debug__" : Str)) = false := by decide) : PE X (.Name x pos) (tC v) :=
  fun _ _ _ H _ I h => ld_blt I hg hm hv ⟨v, H, I, r, h⟩ hn hd
def t2I (ta tb : TE) (k : Int → Int → Hp → Prop) : St → Hp → Prop := fun σ H => ta σ H fun x H1 => tb σ H1 fun y H2 => ∃ i j, x = .int i ∧ y = .int j ∧ k i j H2
def tAdd (ta tb : TE) : TE := fun σ H Q => t2I ta tb (fun i j H2 => Q (.int (i + j)) H2) σ H
def tSub (ta tb : TE) : TE := fun σ H Q => t2I ta tb (fun i j H2 => Q (.int (i - j)) H2) σ H
def tMul (ta tb : TE) : TE := fun σ H Q => t2I ta tb (fun i j H2 => (-(2 ^ 64) < i ∧ i < 2 ^ 64) ∧ Q (.int (i * j)) H2) σ H
variable {a b : Expr} {ta tb : TE} {pos : Pos}
def PC (X : Cx) (op : CmpOp) (a b : Expr) (t : TE) : Prop :=
  ∀ (pins : List (Addr × Obj)) (s : Shared) (σ : St) (H : Hp) (Q : VK), Inv X pins σ H s → t σ H Q →
    wpAny (model X.prog X.w) X.A (eval a X.env) (fun v s₁ => wpAny (model X.prog X.w) X.A (eval b X.env) (fun u s₂ => wpAny (model X.prog X.w) X.A (compareOp op v u) (EP X pins σ Q) X.xe s₂) X.xe s₁) X.xe s
def tCmp (p : Int → Int → Bool) (ta tb : TE) : TE := fun σ H Q => t2I ta tb (fun i j H2 => Q (.bl (p i j)) H2) σ H
abbrev tLt : TE → TE → TE := tCmp fun i j => decide (i < j)
abbrev tLe : TE → TE → TE := tCmp fun i j => decide (i ≤ j)
abbrev tGt : TE → TE → TE := tCmp fun i j => decide (j < i)
abbrev tGe : TE → TE → TE := tCmp fun i j => decide (j ≤ i)
abbrev tEqI : TE → TE → TE := tCmp fun i j => decide (i = j)
abbrev tNeI : TE → TE → TE := tCmp fun i j => !decide (i = j)
def tIsN (ta : TE) : TE := fun σ H Q => ta σ H fun x H1 => Q (.bl (decide (x = .non))) H1
def tNotN (ta : TE) : TE := fun σ H Q => ta σ H fun x H1 => Q (.bl (!decide (x = .non))) H1
def tB (t : TE) : TT := fun σ H Q => t σ H fun x H1 => ∃ c, x = .bl c ∧ Q c H1
variable {tA tB' : TT} {rest : List Expr}
def tAnd (t u : TT) : TT := fun σ H Q => t σ H fun c H1 => if c = true then u σ H1 Q else Q false H1
def tOr (t u : TT) : TT := fun σ H Q => t σ H fun c H1 => if c = true then Q true H1 else u σ H1 Q
def tNot (t : TT) : TT := fun σ H Q => t σ H fun c H1 => Q (!c) H1
theorem pw_and1 (ha : PT X a tA) : PW X (.BoolOp .And [a] pos) tA := by
  intro wh pins s σ H Q I h
  refine isTrue_and (thn (ha pins s σ H Q I h) fun c s1 e => ?_)
  cases c with
  | true => exact isTrue_and_nil e
  | false => exact e
theorem pw_or1 (ha : PT X a tA) : PW X (.BoolOp .Or [a] pos) tA := by
  intro wh pins s σ H Q I h
  refine isTrue_or (thn (ha pins s σ H Q I h) fun c s1 e => ?_)
  cases c with
  | false => exact isTrue_or_nil e
  | true => exact e
theorem pw_and (ha : PT X a tA) (hb : PW X (.BoolOp .And (b :: rest) pos) tB') : PW X (.BoolOp .And (a :: b :: rest) pos) (tAnd tA tB') := by
  intro wh pins s σ H Q I h
  refine isTrue_and (thn (ha pins s σ H _ I h) fun c s1 ⟨H1, I1, q1⟩ => ?_)
  cases c with
  | true => exact hb wh pins s1 σ H1 Q I1 q1
  | false => exact ⟨H1, I1, q1⟩
theorem pw_or (ha : PT X a tA) (hb : PW X (.BoolOp .Or (b :: rest) pos) tB') : PW X (.BoolOp .Or (a :: b :: rest) pos) (tOr tA tB') := by
  intro wh pins s σ H Q I h
  refine isTrue_or (thn (ha pins s σ H _ I h) fun c s1 ⟨H1, I1, q1⟩ => ?_)
  cases c with
  | true => exact ⟨H1, I1, q1⟩
  | false => exact hb wh pins s1 σ H1 Q I1 q1
theorem pt_not (ha : PT X a tA) : PT X (.UnaryOp .Not a pos) (tNot tA) := by
  intro pins s σ H Q I h
  exact isTrue_not (ha pins s σ H (fun c H1 => Q (!c) H1) I h)
def tAndV (ta tb : TE) : TE := fun σ H Q => ta σ H fun x H1 => ∃ c, x = .bl c ∧ if c = true then tb σ H1 Q else Q (.bl false) H1
def tOrV (ta tb : TE) : TE := fun σ H Q => ta σ H fun x H1 => ∃ c, x = .bl c ∧ if c = true then Q (.bl true) H1 else tb σ H1 Q
def tNotV (ta : TE) : TE := fun σ H Q => ta σ H fun x H1 => ∃ c, x = .bl c ∧ Q (.bl (!c)) H1
theorem pe_one {op} {t : TE} (h : PE X a t) : PE X (.BoolOp op [a] pos) t := fun pins s σ H Q I hw => BoolOp_one (h pins s σ H Q I hw)
theorem pe_and (ha : PE X a ta) (hb : PE X (.BoolOp .And (b :: rest) pos) tb) : PE X (.BoolOp .And (a :: b :: rest) pos) (tAndV ta tb) := by
  intro pins s σ H Q I h
  refine BoolOp_and (thn (ha pins s σ H _ I h) fun v s1 ⟨x, H1, I1, r1, q1⟩ => ?_)
  obtain ⟨c, rfl, q1⟩ := q1
  cases r1
  refine wpAny_truthy_bool ?_
  cases c with
  | true => exact hb pins s1 σ H1 Q I1 q1
  | false => exact ⟨.bl false, H1, I1, rfl, q1⟩
def tIf (t : TT) (ta tb : TE) : TE := fun σ H Q => t σ H fun c H1 => if c = true then ta σ H1 Q else tb σ H1 Q
theorem pe_ifExp {c : Expr} (hc : PT X c tA) (ha : PE X a ta) (hb : PE X b tb) : PE X (.IfExp c a b pos) (tIf tA ta tb) := by
  intro pins s σ H Q I h
  refine wpAny_IfExp (thn (hc pins s σ H _ I h) fun d s1 ⟨H1, I1, q1⟩ => ?_)
  cases d with
  | true => exact ha pins s1 σ H1 Q I1 q1
  | false => exact hb pins s1 σ H1 Q I1 q1
end
end L2
namespace L2
open PySem PySem.Spec PyProof.Rows
def SqL (K : PySem.W.Frag) (H : Hp) (a : Addr) (xs : List V) : Prop :=
  Rd H a (.lst xs) ∨
    ∃ (o : Obj) (its : Array Value) (n : Nat), K.lookup a = some o ∧ o.cls = .type "list" ∧ o.dict = none ∧ o.data = .seq its n ∧ its.size ≤ sizeLine ∧ Vals xs its.toList
def SqT (K : PySem.W.Frag) (H : Hp) (a : Addr) (xs : List V) : Prop :=
  Rd H a (.tup xs) ∨
    ∃ (o : Obj) (its : Array Value) (n : Nat), K.lookup a = some o ∧ o.cls = .type "tuple" ∧ o.data = .seq its n ∧ its.size ≤ sizeLine ∧ Vals xs its.toList
def absV : Value → Option V
  | .none => some .non
  | .bool b => some (.bl b)
  | .int i _ => some (.int i)
  | .str x _ => some (.str x)
  | .bytes b _ => some (.byt b)
  | .float b _ => some (.flt b)
  | .ref a => some (.ref a)
  | .type n => some (.ty n)
  | _ => none
theorem RelV.abs {x : V} {u : Value} (r : RelV x u) : absV u = some x := by
  cases x with
  | non => cases r; rfl
  | bl _ => cases r; rfl
  | int _ => obtain ⟨t, rfl⟩ := r; rfl
  | str _ => obtain ⟨t, rfl⟩ := r; rfl
  | byt _ => obtain ⟨t, rfl⟩ := r; rfl
  | flt _ => obtain ⟨t, rfl⟩ := r; rfl
  | ref _ => cases r; rfl
  | ty _ => cases r; rfl
theorem RelV.inj {x y : V} {u : Value} (r : RelV x u) (q : RelV y u) : x = y := Option.some.inj (r.abs.symm.trans q.abs)
theorem Vals.inj {xs ys : List V} {us : List Value} (h : Vals xs us) (g : Vals ys us) : xs = ys := by
  induction h generalizing ys with
  | nil => cases g; rfl
  | cons r t ih =>
    cases g with
    | cons r' t' => rw [RelV.inj r r', ih t']
section
variable {X : Cx} {pins : List (Addr × Obj)} {σ : St} {H : Hp} {s : Shared} {a : Addr} {xs ys : List V}
theorem SqL.of {K : PySem.W.Frag} (h : H a = some (.lst xs)) : SqL K H a xs := .inl (.inl h)
theorem SqT.of {K : PySem.W.Frag} (h : H a = some (.tup xs)) : SqT K H a xs := .inl (.inl h)
theorem Inv.list (I : Inv X pins σ H s) (h : SqL X.K H a xs) : ∃ its : List Value, Vals xs its ∧ PlainL s.heap a its.toArray ∧ xs.length ≤ sizeLine := by
  rcases h with h | ⟨o, its, n, hk, hc, hd, hs, hz, r⟩
  · obtain ⟨z, its, n, r, e⟩ := h.ok I.hok
    exact ⟨its, r, ⟨_, n, e, rfl, rfl, rfl⟩, z⟩
  · refine ⟨its.toList, r, ⟨o, n, I.kIn a o hk, hc, hd, by simpa using hs⟩, ?_⟩
    have e := r.length
    simp only [Array.length_toList] at e
    omega
theorem Inv.tuple (I : Inv X pins σ H s) (h : SqT X.K H a xs) : ∃ its : List Value, Vals xs its ∧ IsTup s.heap a its.toArray ∧ xs.length ≤ sizeLine := by
  rcases h with h | ⟨o, its, n, hk, hc, hs, hz, r⟩
  · obtain ⟨z, its, r, p⟩ := h.ok I.hok
    exact ⟨its, r, p, z⟩
  · refine ⟨its.toList, r, ⟨o, I.kIn a o hk, hc, n, by simpa using hs⟩, ?_⟩
    have e := r.length
    simp only [Array.length_toList] at e
    omega
theorem Inv.list_inj (I : Inv X pins σ H s) (h : SqL X.K H a xs) (h' : SqL X.K H a ys) : xs = ys := by
  obtain ⟨its, r, ⟨o, n, e, _, _, d⟩, _⟩ := I.list h
  obtain ⟨its', r', ⟨o', n', e', _, _, d'⟩, _⟩ := I.list h'
  rw [e] at e'; cases e'
  rw [d] at d'
  injection d' with d1 _
  have : its = its' := by simpa using congrArg Array.toList d1
  subst this
  exact r.inj r'
theorem Inv.tuple_inj (I : Inv X pins σ H s) (h : SqT X.K H a xs) (h' : SqT X.K H a ys) : xs = ys := by
  obtain ⟨its, r, ⟨o, e, _, n, d⟩, _⟩ := I.tuple h
  obtain ⟨its', r', ⟨o', e', _, n', d'⟩, _⟩ := I.tuple h'
  rw [e] at e'; cases e'
  rw [d] at d'
  injection d' with d1 _
  have : its = its' := by simpa using congrArg Array.toList d1
  subst this
  exact r.inj r'
end
abbrev Cx.wish (X : Cx) (E : Value → Shared → Prop) : Cx := { X with xe := E }
abbrev Cx.nox (X : Cx) : Cx := X.wish fun _ _ => False
theorem Cx.Ok.wish {X : Cx} (ok : X.Ok) (E : Value → Shared → Prop) : (X.wish E).Ok :=
  ⟨ok.mod, ok.kind, ok.glob, ok.blt, ok.above, ok.inj, ok.has, ok.cab, ok.hd, ok.frames, ok.stk, ok.exf, ok.bs, ok.bsz, ok.noex, ok.exfs, ok.funs, ok.frf⟩
theorem Cx.Ok.unwish {X : Cx} {E : Value → Shared → Prop} (ok : (X.wish E).Ok) : X.Ok :=
  ⟨ok.mod, ok.kind, ok.glob, ok.blt, ok.above, ok.inj, ok.has, ok.cab, ok.hd, ok.frames, ok.stk, ok.exf, ok.bs, ok.bsz, ok.noex, ok.exfs, ok.funs, ok.frf⟩
section
variable {X : Cx} {pins : List (Addr × Obj)} {σ : St} {H : Hp} {s : Shared} {E : Value → Shared → Prop}
theorem Inv.wish (I : Inv X pins σ H s) (E : Value → Shared → Prop) : Inv (X.wish E) pins σ H s := ⟨I.ok.wish E, I.os, I.bare, I.base, I.loc, I.cell, I.free, I.freeC, I.pin, I.hok, I.len⟩
theorem Inv.unwish (I : Inv (X.wish E) pins σ H s) : Inv X pins σ H s := ⟨I.ok.unwish, I.os, I.bare, I.base, I.loc, I.cell, I.free, I.freeC, I.pin, I.hok, I.len⟩
theorem SP.unwish {D : Ends} {f : Flow} {s' : Shared} (h : SP (X.wish E) pins D f s') : SP X pins D f s' := by
  cases f with
  | next => obtain ⟨σ', H', I, q⟩ := h; exact ⟨σ', H', I.unwish, q⟩
  | brk => obtain ⟨σ', H', I, q⟩ := h; exact ⟨σ', H', I.unwish, q⟩
  | cont => obtain ⟨σ', H', I, q⟩ := h; exact ⟨σ', H', I.unwish, q⟩
  | ret u => obtain ⟨v, σ', H', I, r, q⟩ := h; exact ⟨v, σ', H', I.unwish, r, q⟩
theorem PE.nox {e : Expr} {t : TE} (h : PE X.nox e t) : PE X e t := fun pins s σ H Q I hw =>
  wpAny_mono (h pins s σ H Q (I.wish _) hw) (fun _ _ ⟨v, H', I', r, q⟩ => ⟨v, H', I'.unwish, r, q⟩) fun _ _ z => False.elim z
theorem PT.nox {e : Expr} {t : TT} (h : PT X.nox e t) : PT X e t := fun pins s σ H Q I hw =>
  wpAny_mono (h pins s σ H Q (I.wish _) hw) (fun _ _ ⟨H', I', q⟩ => ⟨H', I'.unwish, q⟩) fun _ _ z => False.elim z
theorem PSs.nox {st : List Stmt} {t : TS} (h : PSs X.nox st t) : PSs X st t := fun pins s σ H D I hw =>
  wpAny_mono (h pins s σ H D (I.wish _) hw) (fun _ _ q => q.unwish) fun _ _ z => False.elim z
end
section
variable {X : Cx} {st : Stmt} {rest : List Stmt} {t u : TS} {e : Expr} {te : TE} {pos : Pos}
def tNext : TS := fun D σ H => D.nx σ H
def tSeq (t u : TS) : TS := fun D σ H => t { D with nx := u D } σ H
theorem pss_nil : PSs X [] tNext := fun _ _ σ H _ I h => wpAny_execs_nil ⟨σ, H, I, h⟩
theorem pss_cons (h1 : PS X st t) (h2 : PSs X rest u) : PSs X (st :: rest) (tSeq t u) := by
  intro pins s σ H D I h
  refine wpAny_execs_cons (thn (h1 pins s σ H { D with nx := u D } I h) fun f s1 q => ?_)
  cases f with
  | next =>
    obtain ⟨σ', H', I', q⟩ := q
    exact h2 pins s1 σ' H' D I' q
  | ret v => exact q
  | brk => exact q
  | cont => exact q
theorem pss_one (h1 : PS X st t) : PSs X [st] t := by
  intro pins s σ H D I h
  refine wpAny_execs_cons (thn (h1 pins s σ H D I h) fun f s1 q => ?_)
  cases f with
  | next => exact wpAny_execs_nil q
  | ret v => exact q
  | brk => exact q
  | cont => exact q
def tBreak : TS := fun D σ H => D.bk σ H
def tCont : TS := fun D σ H => D.ct σ H
theorem Inv.quiet {pins : List (Addr × Obj)} {σ : St} {H : Hp} {s : Shared} (I : Inv X pins σ H s) : interactive X.env = false := by simp [interactive, I.ok.kind]
def tDrop (te : TE) : TS := fun D σ H => te σ H fun _ H1 => D.nx σ H1
theorem ps_expr (he : PE X e te) (hs : swapsWith e none pos.line X.env = pure false := by rfl) : PS X (.Expr e pos) (tDrop te) := by
  intro pins s σ H D I h
  exact wpAny_Expr_any (thn (he pins s σ H _ I h) fun v s1 ⟨x, H1, I1, r1, q1⟩ => ⟨σ, H1, I1, q1⟩) I.quiet hs
def tRet (te : TE) : TS := fun D σ H => te σ H D.rt
theorem ps_ret (he : PE X e te) : PS X (.Return (some e) pos) (tRet te) := by
  intro pins s σ H D I h
  exact wpAny_Return_some (thn (he pins s σ H _ I h) fun v s1 ⟨x, H1, I1, r1, q1⟩ => ⟨x, σ, H1, I1, r1, q1⟩)
def tRetN : TS := fun D _ H => D.rt .non H
def tIfS (c : TT) (t u : TS) : TS := fun D σ H => c σ H fun b H1 => if b = true then t D σ H1 else u D σ H1
theorem ps_if {c : Expr} {a b : List Stmt} {tc : TT} (hc : PT X c tc) (ha : PSs X a t) (hb : PSs X b u) : PS X (.If c a b pos) (tIfS tc t u) := by
  intro pins s σ H D I h
  refine wpAny_If (thn (hc pins s σ H _ I h) fun d s1 ⟨H1, I1, q1⟩ => ?_)
  cases d with
  | true => exact ha pins s1 σ H1 D I1 q1
  | false => exact hb pins s1 σ H1 D I1 q1
def tNever : TS := fun _ _ _ => False
end
abbrev TG := V → St → Hp → (St → Hp → Prop) → Prop
abbrev TGs := List V → St → Hp → (St → Hp → Prop) → Prop
def PG (X : Cx) (target : Expr) (t : TG) : Prop :=
  ∀ (pins : List (Addr × Obj)) (s : Shared) (σ : St) (H : Hp) (v : V) (u : Value) (Q : St → Hp → Prop), Inv X pins σ H s → RelV v u → t v σ H Q →
    wpAny (model X.prog X.w) X.A (assign target X.env u) (fun _ s' => ∃ σ' H', Inv X pins σ' H' s' ∧ Q σ' H') X.xe s
def PGs (X : Cx) (ts : List Expr) (t : TGs) : Prop :=
  ∀ (pins : List (Addr × Obj)) (s : Shared) (σ : St) (H : Hp) (vs : List V) (us : List Value) (Q : St → Hp → Prop), Inv X pins σ H s → Vals vs us → t vs σ H Q →
    wpAny (model X.prog X.w) X.A (assignInOrder ((assignEach ts X.env).map (·.2)) us) (fun _ s' => ∃ σ' H', Inv X pins σ' H' s' ∧ Q σ' H') X.xe s
abbrev TSet := V → V → V → Hp → (Hp → Prop) → Prop
def PSet (X : Cx) (t : TSet) : Prop :=
  ∀ (pins : List (Addr × Obj)) (s : Shared) (σ : St) (H : Hp) (o i v : V) (ov iv u : Value) (Q : Hp → Prop), Inv X pins σ H s → RelV o ov → RelV i iv → RelV v u → t o i v H Q →
    wpAny (model X.prog X.w) X.A (setItem ov iv u) (fun _ s' => ∃ H', Inv X pins σ H' s' ∧ Q H') X.xe s
abbrev TIp := V → V → Hp → VK → Prop
def PIp (X : Cx) (op : Operator) (t : TIp) : Prop :=
  ∀ (pins : List (Addr × Obj)) (s : Shared) (σ : St) (H : Hp) (x y : V) (v u : Value) (Q : VK), Inv X pins σ H s → RelV x v → RelV y u → t x y H Q →
    wpAny (model X.prog X.w) X.A (inplaceOp op v u) (EP X pins σ Q) X.xe s
section
variable {X : Cx} {pos : Pos}
def gName (i : Nat) : TG := fun v σ H Q => Q (σ.set i (some v)) H
theorem pg_name {i : Nat} {x : Str} (hN : X.N.Nodup) (hi : X.N[i]? = some x) (hx : Loc X.env.scope x) (hf : X.fn x = true ∨ X.env.scope.names.lookup x = some .local := by first | exact .inl rfl | exact .inr rfl | assumption) : PG X (.Name x pos) (gName i) := by
  intro pins s σ H v u Q I r h
  exact wpAny_assign_Name (store_ok I hN hi hx r (fun s' I' => ⟨_, H, I', h⟩) hf)
def gNil : TGs := fun vs σ H Q => vs = [] ∧ Q σ H
def gCons (t : TG) (u : TGs) : TGs := fun vs σ H Q => ∃ v r, vs = v :: r ∧ t v σ H fun σ' H' => u r σ' H' Q
theorem pgs_nil : PGs X [] gNil := by
  intro pins s σ H vs us Q I r h
  obtain ⟨e, h⟩ := h
  subst e
  cases r
  exact assignInOrder_nil ⟨σ, H, I, h⟩
theorem pgs_cons {e : Expr} {es : List Expr} {t : TG} {u : TGs} (h1 : PG X e t) (h2 : PGs X es u)
    (hs : (assignEach (e :: es) X.env).map (·.2) = assign e X.env :: (assignEach es X.env).map (·.2) := by rfl) : PGs X (e :: es) (gCons t u) := by
  intro pins s σ H vs us Q I r h
  obtain ⟨v, vr, e1, h⟩ := h
  subst e1
  cases r with
  | cons r rr =>
    rw [hs]
    refine assignInOrder_cons (thn (h1 pins s σ H _ _ _ I r h) fun _ s1 ⟨σ1, H1, I1, q1⟩ => ?_)
    exact h2 pins s1 σ1 H1 _ _ Q I1 rr q1
def gTup (K : PySem.W.Frag) (n : Nat) (t : TGs) : TG := fun v σ H Q => ∃ a xs, v = .ref a ∧ SqT K H a xs ∧ xs.length = n ∧ t xs σ H Q
theorem pg_tup {es : List Expr} {k : Nat} {t : TGs} {n : Nat} (hc : X.calm = true) (h : PGs X es t)
    (hn : (assignEach es X.env).length = n := by rfl) (hst : (assignEach es X.env).findIdx? (·.1) = none := by rfl) : PG X (.Tuple es k pos) (gTup X.K n t) := by
  intro pins s σ H v u Q I r hw
  obtain ⟨a, xs, e1, hq, hl, hw⟩ := hw
  subst e1
  cases r
  obtain ⟨its, rv, ht, hz⟩ := I.tuple hq
  refine assign_Tuple_tuple (I.ok.hd hc) ht (by simp [hn, ← hl, rv.length]) hst fun h' hx => ?_
  have I1 : Inv X pins σ H { s with heap := h' } := I.kept (t' := s.toks) fun b o e => hx b o (Nat.ne_of_lt (Heap.lt_size e)) e
  exact h pins _ σ H xs _ Q I1 (by simpa using rv) hw
def gSub (to ti : TE) (t : TSet) : TG := fun v σ H Q => to σ H fun o H1 => ti σ H1 fun i H2 => t o i v H2 fun H3 => Q σ H3
theorem pg_sub {o i : Expr} {to ti : TE} {t : TSet} (ho : PE X o to) (hi : PE X i ti) (hs : PSet X t)
    (ha : ∀ v, assign (.Subscript o i pos) X.env v = (do
      let ov ← holding [v] (eval o X.env)
      let iv ← holding [v, ov] (eval i X.env)
      standAt pos
      holding [v, ov, iv] (setItem ov iv v)
      release [v, ov, iv] []) := by intro _; rfl) : PG X (.Subscript o i pos) (gSub to ti t) := by
  intro pins s σ H v u Q I r h
  rw [ha]
  refine wpAny_bind (wpAny_holding (thn (ho pins s σ H _ I h) fun ov s1 ⟨x, H1, I1, r1, q1⟩ => ?_))
  refine wpAny_bind (wpAny_holding (thn (hi pins s1 σ H1 _ I1 q1) fun iv s2 ⟨y, H2, I2, r2, q2⟩ => ?_))
  refine wpAny_bind (wpAny_standAt (wpAny_bind (wpAny_holding (thn (hs pins s2 σ H2 x y v ov iv u _ I2 r1 r2 r q2) fun _ s3 ⟨H3, I3, q3⟩ => ?_))))
  exact wpAny_release ⟨σ, H3, I3, q3⟩
def tAsg (te : TE) (g : TG) : TS := fun D σ H => te σ H fun x H1 => g x σ H1 D.nx
theorem ps_asg {tg e : Expr} {te : TE} {g : TG} (he : PE X e te) (hg : PG X tg g) (hs : swapsWithSole [tg] e pos.line X.env = pure false := by rfl) (hw : swappedStores [tg] e X.env = pure none := by rfl)
    (h1 : (assignEach [tg] X.env).map (·.2) = [assign tg X.env] := by rfl) : PS X (.Assign [tg] e pos) (tAsg te g) := by
  intro pins s σ H D I h
  refine wpAny_Assign_stores (thn (he pins s σ H _ I h) fun v s1 ⟨x, H1, I1, r1, q1⟩ => ?_) hs hw
  rw [h1]
  exact thn (hg pins s1 σ H1 x v _ I1 r1 q1) fun _ s2 q => q
theorem ps_set {i : Nat} {x : Str} {e : Expr} {te : TE} {pos' : Pos} (hN : X.N.Nodup) (hi : X.N[i]? = some x) (hx : Loc X.env.scope x) (he : PE X e te) (hs : swapsWith e (some (.Name x pos')) pos.line X.env = pure false := by rfl) (hf : X.fn x = true ∨ X.env.scope.names.lookup x = some .local := by first | exact .inl rfl | exact .inr rfl | assumption) :
    PS X (.Assign [.Name x pos'] e pos) (tAsg te (gName i)) := by
  intro pins s σ H D I h
  refine wpAny_Assign_Name (thn (he pins s σ H _ I h) fun v s1 ⟨y, H1, I1, r1, q1⟩ => ?_) hs
  exact store_ok I1 hN hi hx r1 (fun s2 I2 => ⟨_, H1, I2, q1⟩) hf
def tPar (i j : Nat) (ta : TA) : TS := fun D σ H => ta σ H fun vs H1 => ∃ v w, vs = [v, w] ∧ D.nx ((σ.set i (some v)).set j (some w)) H1
theorem ps_par {i j : Nat} {x y : Str} {a b : Expr} {ta : TA} {px py pt : Pos} {kt k2 pt2} (hc : X.calm = true) (hN : X.N.Nodup) (hi : X.N[i]? = some x) (hj : X.N[j]? = some y) (hij : i ≠ j)
    (hx : X.env.scope.names.lookup x = some .local) (hy : X.env.scope.names.lookup y = some .local) (ha : PA X [a, b] ta)
    (hw : swappedStores [.Tuple [.Name x px, .Name y py] kt pt] (.Tuple [a, b] k2 pt2) X.env = pure (some [x, y]))
    (hs : swapsWithSole [.Tuple [.Name x px, .Name y py] kt pt] (.Tuple [a, b] k2 pt2) pos.line X.env = pure false := by rfl) :
    PS X (.Assign [.Tuple [.Name x px, .Name y py] kt pt] (.Tuple [a, b] k2 pt2) pos) (tPar i j ta) := by
  intro pins s σ H D I h
  rw [exec_Assign_arm]
  refine wpAny_bind (wpAny_standAt ?_)
  rw [hs]
  refine wpAny_bind (wpAny_pure ?_)
  rw [if_neg (by decide)]
  refine wpAny_bind (Tuple_ (thn (ha _ pins s σ H _ I h) fun us s1 ⟨vs, H1, I1, r1, q1⟩ => ?_))
  obtain ⟨v, w, e1, q1⟩ := q1
  subst e1
  obtain ⟨u1, u2, rfl, rv, rw'⟩ : ∃ u1 u2, us = [u1, u2] ∧ RelV v u1 ∧ RelV w u2 := by
    cases r1 with
    | cons p q =>
      cases q with
      | cons p' q' =>
        cases q'
        exact ⟨_, _, rfl, p, p'⟩
  refine wpAny_newObj_type ?_ (by show 2 ≤ sizeLine; decide)
  have I2 : Inv X pins σ H1 { s1 with heap := s1.heap.push { cls := .type "tuple", data := .seq [u1, u2].toArray } } := I1.kept (t' := s1.toks) fun b o e => Heap.get?_push_of_some _ e
  rw [hw]
  refine wpAny_bind (wpAny_pure ?_)
  show wpAny (model X.prog X.w) X.A (do rule "assign.swapped-stores"; let items ← unpackItems (.ref s1.heap.objs.size) 2 none; assignInOrder [fun v => bindName X.env y v, fun v => bindName X.env x v] items.reverse; pure Flow.next) _ _ _
  refine wpAny_bind (wpAny_rule (wpAny_bind (unpackItems_tuple (items := #[u1, u2]) (I.ok.hd hc) (IsTup.new s1.heap _) fun h' hx' => ?_)))
  have I3 := I2.kept (h' := h') (t' := s1.toks) fun b o e => hx' b o (Nat.ne_of_lt (Heap.lt_size e)) e
  show wpAny _ _ (assignInOrder [fun v => bindName X.env y v, fun v => bindName X.env x v] [u2, u1] >>= fun _ => pure Flow.next) _ _ _
  refine wpAny_bind (assignInOrder_cons (wpAny_bindName (store_ok I3 hN hj (.inl hy) rw' (fun s2 I4 => ?_) (.inr hy))))
  refine assignInOrder_cons (wpAny_bindName (store_ok I4 hN hi (.inl hx) rv (fun s3 I5 => assignInOrder_nil (wpAny_pure ?_)) (.inr hx)))
  rw [List.set_comm _ _ (Ne.symm hij)] at I5
  exact ⟨_, H1, I5, q1⟩
def tAug (i : Nat) (te : TE) (ti : TIp) : TS := fun D σ H => ∃ x, σ[i]? = some (some x) ∧ te σ H fun y H1 => ti x y H1 fun z H2 => D.nx (σ.set i (some z)) H2
def tAugS (to ti te : TE) (tget : V → V → Hp → VK → Prop) (tip : TIp) (tset : TSet) : TS := fun D σ H => to σ H fun o H1 => ti σ H1 fun i H2 => tget o i H2 fun x H3 => te σ H3 fun y H4 => tip x y H4 fun z H5 => tset o i z H5 fun H6 => D.nx σ H6
def PGet (X : Cx) (t : V → V → Hp → VK → Prop) : Prop :=
  ∀ (pins : List (Addr × Obj)) (s : Shared) (σ : St) (H : Hp) (o i : V) (ov iv : Value) (Q : VK), Inv X pins σ H s → RelV o ov → RelV i iv → t o i H Q →
    wpAny (model X.prog X.w) X.A (getItem ov iv) (EP X pins σ Q) X.xe s
def ipI (f : Int → Int → Int) : TIp := fun x y H Q => ∃ i j, x = .int i ∧ y = .int j ∧ Q (.int (f i j)) H
end
section
variable {X : Cx} {pos : Pos}
def tWhile (c : TT) (tb : TS) : TS := fun D σ H => ∃ W : Nat → St → Hp → Prop, (∃ m, W m σ H) ∧ ∀ m σ H, W m σ H →
  c σ H fun b H1 => if b = true then ∃ N : St → Hp → Prop, (∀ σ' H', N σ' H' → ∃ m', m' < m ∧ W m' σ' H') ∧ tb { D with nx := N, ct := N, bk := D.nx } σ H1 else D.nx σ H1
theorem ps_while {c : Expr} {body : List Stmt} {tc : TT} {tb : TS} (hp : PassesOwn (model X.prog X.w) X.A X.env X.xe) (hc : PT X c tc) (hb : PSs X body tb) : PS X (.While c body [] pos) (tWhile tc tb) := by
  intro pins s σ H D I h
  obtain ⟨W, ⟨m0, w0⟩, turn⟩ := h
  refine wpAny_While (codeAny_whileLoop (fun n s' => ∃ σ' H', Inv X pins σ' H' s' ∧ W n σ' H') ?_ m0 ⟨σ, H, I, w0⟩)
  rintro n s1 ⟨σ1, H1, I1, w1⟩
  refine wpAny_passesOwn hp (thn (hc pins s1 σ1 H1 _ I1 (turn n σ1 H1 w1)) fun b s2 ⟨H2, I2, q2⟩ => ?_)
  cases b with
  | true =>
    obtain ⟨N, hN, q2⟩ := q2
    rw [if_pos rfl]
    refine wpAny_passesOwn hp (thn (hb pins s2 σ1 H2 _ I2 q2) fun f s3 q3 => ?_)
    cases f with
    | next =>
      obtain ⟨σ3, H3, I3, n3⟩ := q3
      obtain ⟨m', hm, w3⟩ := hN σ3 H3 n3
      exact ⟨m', hm, σ3, H3, I3, w3⟩
    | cont =>
      obtain ⟨σ3, H3, I3, n3⟩ := q3
      obtain ⟨m', hm, w3⟩ := hN σ3 H3 n3
      exact ⟨m', hm, σ3, H3, I3, w3⟩
    | brk => exact q3
    | ret v => exact q3
  | false =>
    rw [if_neg Bool.false_ne_true]
    exact wpAny_execs_nil ⟨σ1, H2, I2, q2⟩
end
structure It where
  go : Nat → Hp → Prop
  yld : Nat → Hp → V → Hp → Prop
  stop : Nat → Hp → Prop
def FpOk (X : Cx) (pins : List (Addr × Obj)) (H : Hp) (b : Addr) : Prop :=
  H b = none ∧ b ≠ X.env.locals ∧ b ∉ X.fs ∧ (b ∈ X.ex ∨ X.s₀.heap.objs.size ≤ b) ∧ (∀ x c, X.env.cells.lookup x = some c → c ≠ b) ∧ ∀ p ∈ X.pn ++ pins, p.1 ≠ b
theorem Inv.fpOk {X : Cx} {pins : List (Addr × Obj)} {σ : St} {H H' : Hp} {s : Shared} {b : Addr} (I : Inv X pins σ H s) (hb : s.heap.objs.size ≤ b) (hn : H' b = none) : FpOk X pins H' b := by
  refine ⟨hn, Nat.ne_of_gt (Nat.lt_of_lt_of_le I.lt hb), I.nofs hb, .inr (Nat.le_trans I.sz hb), fun x c e z => ?_, fun p hp z => ?_⟩
  · obtain ⟨v, q⟩ := I.cell x c e
    exact absurd (Nat.lt_of_lt_of_le q.lt (by rw [z]; exact hb)) (Nat.lt_irrefl _)
  · exact absurd (Nat.lt_of_lt_of_le (Heap.lt_size (I.pin p hp).1) (by rw [z]; exact hb)) (Nat.lt_irrefl _)
structure Turn (P : Program) (w : World) (K : PySem.W.Frag) (tg : Expr) (J : It) (fp : List Addr) (it : Addr) (tn : Nat → Heap → Prop) : Prop where
  mem : it ∈ fp
  obj : ∀ i h, tn i h → ∀ b ∈ fp, ∃ o, h.get? b = some o ∧ ∀ v, o.data ≠ .cell v
  keep : ∀ i h h', tn i h → (∀ b ∈ fp, ∀ o, h.get? b = some o → h'.get? b = some o) → tn i h'
  item : ∀ (X : Cx), X.prog = P → X.w = w → X.K = K → X.calm = true → ∀ (i : Nat) (pins : List (Addr × Obj)) (s : Shared) (σ : St) (H : Hp) (E : Value → Shared → Prop), Inv X pins σ H s → (∀ b ∈ fp, FpOk X pins H b) → tn i s.heap → J.go i H →
    wpAny (model P w) X.A (pyNext (.ref it)) (fun r s1 => ∃ u, r = some u ∧
      wpAny (model P w) X.A (letOwnedTupleGo tg (.ref it) u) (fun _ s2 => ∃ x H', Inv X pins σ H' s2 ∧ RelV x u ∧ J.yld i H x H' ∧ tn (i + 1) s2.heap ∧ ∀ b ∈ fp, H' b = none) E s1) E s
  done : ∀ (X : Cx), X.prog = P → X.w = w → X.K = K → X.calm = true → ∀ (i : Nat) (pins : List (Addr × Obj)) (s : Shared) (σ : St) (H : Hp) (E : Value → Shared → Prop), Inv X pins σ H s → (∀ b ∈ fp, FpOk X pins H b) → tn i s.heap → J.stop i H →
    wpAny (model P w) X.A (pyNext (.ref it)) (fun r s1 => r = none ∧ Inv X pins σ H s1) E s
  self : ∀ (A : Around) (i : Nat) (s : Shared) (Q : Value → Shared → Prop) (E : Value → Shared → Prop), tn i s.heap → Q (.ref it) s → wpAny (model P w) A (pyIter (.ref it)) Q E s
abbrev TI := St → Hp → (It → Hp → Prop) → Prop
def PIE (X : Cx) (pins : List (Addr × Obj)) (σ : St) (tg : Expr) (R : It → Hp → Prop) (itv : Value) (s2 : Shared) : Prop :=
  ∃ (it : Addr) (fp : List Addr) (tn : Nat → Heap → Prop) (J : It) (H' : Hp), itv = .ref it ∧ Inv X pins σ H' s2 ∧ Turn X.prog X.w X.K tg J fp it tn ∧ tn 0 s2.heap ∧ (∀ b ∈ fp, FpOk X pins H' b) ∧ R J H'
def PI (X : Cx) (tg iter : Expr) (wi : TI) : Prop :=
  ∀ (pins : List (Addr × Obj)) (s : Shared) (σ : St) (H : Hp) (R : It → Hp → Prop), Inv X pins σ H s → wi σ H R →
    wpAny (model X.prog X.w) X.A (eval iter X.env) (fun v s1 => wpAny (model X.prog X.w) X.A (pyIter v) (PIE X pins σ tg R) X.xe s1) X.xe s
theorem go_of {M : Model} {A : Around} {E : Value → Shared → Prop} {s : Shared} {tg : Expr} {it : Addr} {u : Value} {o : Obj} {n : String} {vs : Array Value} {Q : Unit → Shared → Prop} (ho : s.heap.get? it = some o) (hc : o.cls = .type n) (hd : o.data = .fields vs)
    (hn : ["enumerate", "zip", "dict_itemiterator", "dict_reverseitemiterator", "odict_iterator", "itertools.zip_longest", "itertools.pairwise"].contains n = false) (hQ : Q () s) : wpAny M A (letOwnedTupleGo tg (.ref it) u) Q E s := by
  unfold letOwnedTupleGo
  cases tg <;> first
    | exact wpAny_pure hQ
    | (cases u <;> first
        | exact wpAny_pure hQ
        | (refine wpAny_bind (wpAny_load ho ?_)
           rw [hc, hd]
           show wpAny M A (if (["enumerate", "zip", "dict_itemiterator", "dict_reverseitemiterator", "odict_iterator", "itertools.zip_longest", "itertools.pairwise"].contains n && vs[0]? == some (rawInt _)) = true then _ else _) Q E s
           rw [if_neg (by intro h; rw [hn, Bool.false_and] at h; cases h)]
           exact wpAny_pure hQ))
def Itl (K : PySem.W.Frag) (a : Addr) : It :=
  ⟨fun i H => ∃ xs x, SqL K H a xs ∧ xs[i]? = some x, fun i H x H' => H' = H ∧ ∀ xs, SqL K H a xs → xs[i]? = some x, fun i H => ∃ xs, SqL K H a xs ∧ xs.length ≤ i⟩
def Itt (K : PySem.W.Frag) (a : Addr) : It :=
  ⟨fun i H => ∃ xs x, SqT K H a xs ∧ xs[i]? = some x, fun i H x H' => H' = H ∧ ∀ xs, SqT K H a xs → xs[i]? = some x, fun i H => ∃ xs, SqT K H a xs ∧ xs.length ≤ i⟩
def Itr (lo : Int) (n : Nat) : It := ⟨fun i _ => i < n, fun i H x H' => H' = H ∧ x = .int (lo + i), fun i _ => n ≤ i⟩
theorem turn_list {P : Program} {w : World} {K : PySem.W.Frag} {tg : Expr} (a it : Addr) : Turn P w K tg (Itl K a) [it] it (fun i h => h.IsListIter it a i) where
  mem := by simp
  obj := fun i h st b hb => by
    have e : b = it := by simpa using hb
    subst e
    obtain ⟨o, e, c, d⟩ := st
    exact ⟨o, e, fun v z => by rw [d] at z; cases z⟩
  keep := fun i h h' st k => st.at fun o e => k it (by simp) o e
  item := by
    intro X hP hw hK hc i pins s σ H E I hf st hg
    subst hP hw hK
    obtain ⟨xs, x, hq, hx⟩ := hg
    obtain ⟨its, rv, p, hz⟩ := I.list hq
    obtain ⟨u, hu, ru⟩ := rv.get hx
    obtain ⟨f0, f1, f2, f3, f4, f5⟩ := hf it (by simp)
    refine wpAny_pyNext_list_item st p.isList (x := u) (by simpa using hu) fun h' st' sb => ?_
    have I1 : Inv X pins σ H { s with heap := h' } := I.turned (t' := s.toks) (fun b o hb e => (sb.2 b hb).trans e) f0 f1 f3 f4 f5
    obtain ⟨o, e, c, d⟩ := id st'
    exact ⟨u, rfl, go_of (s := { s with heap := h' }) e c d (by decide) ⟨x, H, I1, ru, ⟨rfl, fun ys hy => by rw [I.list_inj hy hq]; exact hx⟩, st', fun b hb => (hf b hb).1⟩⟩
  done := by
    intro X hP hw hK hc i pins s σ H E I hf st hg
    subst hP hw hK
    obtain ⟨xs, hq, hx⟩ := hg
    obtain ⟨its, rv, p, hz⟩ := I.list hq
    obtain ⟨f0, f1, f2, f3, f4, f5⟩ := hf it (by simp)
    have hl := rv.length
    exact wpAny_pyNext_list_end (I.ok.hd hc) st p.isList (by simp; omega) fun h' eb => ⟨rfl, I.turned (t' := s.toks) (fun b o hb e => eb b o hb e) f0 f1 f3 f4 f5⟩
  self := fun _ _ _ _ _ st h => wpAny_pyIter_listiter st h
theorem turn_tuple {P : Program} {w : World} {K : PySem.W.Frag} {tg : Expr} (a it : Addr) : Turn P w K tg (Itt K a) [it] it (fun i h => h.IsTupleIter it a i) where
  mem := by simp
  obj := fun i h st b hb => by
    have e : b = it := by simpa using hb
    subst e
    obtain ⟨o, e, c, d⟩ := st
    exact ⟨o, e, fun v z => by rw [d] at z; cases z⟩
  keep := fun i h h' st k => st.at fun o e => k it (by simp) o e
  item := by
    intro X hP hw hK hc i pins s σ H E I hf st hg
    subst hP hw hK
    obtain ⟨xs, x, hq, hx⟩ := hg
    obtain ⟨its, rv, p, hz⟩ := I.tuple hq
    obtain ⟨u, hu, ru⟩ := rv.get hx
    obtain ⟨f0, f1, f2, f3, f4, f5⟩ := hf it (by simp)
    refine wpAny_pyNext_tuple_item st (show s.heap.IsTuple a its.toArray from p) (x := u) (by simpa using hu) fun h' st' sb => ?_
    have I1 : Inv X pins σ H { s with heap := h' } := I.turned (t' := s.toks) (fun b o hb e => (sb.2 b hb).trans e) f0 f1 f3 f4 f5
    obtain ⟨o, e, c, d⟩ := id st'
    exact ⟨u, rfl, go_of (s := { s with heap := h' }) e c d (by decide) ⟨x, H, I1, ru, ⟨rfl, fun ys hy => by rw [I.tuple_inj hy hq]; exact hx⟩, st', fun b hb => (hf b hb).1⟩⟩
  done := by
    intro X hP hw hK hc i pins s σ H E I hf st hg
    subst hP hw hK
    obtain ⟨xs, hq, hx⟩ := hg
    obtain ⟨its, rv, p, hz⟩ := I.tuple hq
    obtain ⟨f0, f1, f2, f3, f4, f5⟩ := hf it (by simp)
    have hl := rv.length
    exact wpAny_pyNext_tuple_end (I.ok.hd hc) st (show s.heap.IsTuple a its.toArray from p) (by simp; omega) fun h' eb => ⟨rfl, I.turned (t' := s.toks) (fun b o hb e => eb b o hb e) f0 f1 f3 f4 f5⟩
  self := fun _ _ _ _ _ st h => wpAny_pyIter_tupleiter st h
theorem turn_range {P : Program} {w : World} {K : PySem.W.Frag} {tg : Expr} (it : Addr) (lo : Int) (n : Nat) : Turn P w K tg (Itr lo n) [it] it (fun i h => IsRangeIter h it (lo + (i : Nat) * 1) ((n : Int) - (i : Nat)) 1) where
  mem := by simp
  obj := fun i h st b hb => by
    have e : b = it := by simpa using hb
    subst e
    exact ⟨_, st, fun v z => by
      have z' : Data.fields _ = Data.cell v := z
      cases z'⟩
  keep := fun i h h' st k => k it (by simp) _ st
  item := by
    intro X hP hw hK hc i pins s σ H E I hf st hg
    subst hP hw hK
    obtain ⟨f0, f1, f2, f3, f4, f5⟩ := hf it (by simp)
    have W := Walks.range (prog := X.prog) (w := X.w) (I.ok.hd hc) it lo 1 n
    refine W.item i s _ _ hg st fun v h' tk hv st' kk => ?_
    obtain ⟨t, rfl⟩ := hv
    have I1 : Inv X pins σ H { s with heap := h', toks := tk } := I.turned (fun b o hb e => kk b o (by simpa using hb) e) f0 f1 f3 f4 f5
    refine ⟨_, rfl, go_of (s := { s with heap := h', toks := tk }) (n := "range_iterator") st' rfl rfl (by decide) ⟨.int (lo + i), H, I1, ⟨t, ?_⟩, ⟨rfl, rfl⟩, st', fun b hb => (hf b hb).1⟩⟩
    rw [Int.mul_one]
  done := by
    intro X hP hw hK hc i pins s σ H E I hf st hg
    subst hP hw hK
    obtain ⟨f0, f1, f2, f3, f4, f5⟩ := hf it (by simp)
    exact wpAny_pyNext_range_end (I.ok.hd hc) st (by have : n ≤ i := hg; omega) fun h' eb => ⟨rfl, I.turned (t' := s.toks) (fun b o hb e => eb b o hb e) f0 f1 f3 f4 f5⟩
  self := fun _ _ _ _ _ st h => wpAny_pyIter_rangeiter st h
end L2
namespace L2
open PySem PySem.Spec PyProof.Rows
section
variable {X : Cx} {tg : Expr}
def iList (K : PySem.W.Frag) (tl : TE) : TI := fun σ H R => tl σ H fun x H1 => ∃ a, x = .ref a ∧ (∃ xs, SqL K H1 a xs) ∧ R (Itl K a) H1
def iTup (K : PySem.W.Frag) (tl : TE) : TI := fun σ H R => tl σ H fun x H1 => ∃ a, x = .ref a ∧ (∃ xs, SqT K H1 a xs) ∧ R (Itt K a) H1
theorem range_it {pins : List (Addr × Obj)} {σ : St} {H : Hp} {s : Shared} {R : It → Hp → Prop} {E : Value → Shared → Prop} {lo hi : Int} {t u v : Tok} {tk : Nat} (I : Inv X pins σ H s) (h1 : -(2 ^ 62) ≤ lo) (h2 : lo < 2 ^ 62) (h3 : -(2 ^ 62) ≤ hi) (h4 : hi < 2 ^ 62)
    (q : R (Itr lo (hi - lo).toNat) H) : wpAny (model X.prog X.w) X.A (pyIter (.ref s.heap.objs.size)) (PIE X pins σ tg R) E { s with heap := s.heap.push { cls := .type "range", data := .fields #[.int lo t, .int hi u, .int 1 v] }, toks := tk } := by
  refine wpAny_pyIter_range (IsRange.new ..) (small_one h1 h2 h3 h4) ?_
  have I1 : Inv X pins σ H { s with heap := s.heap.push { cls := .type "range", data := .fields #[.int lo t, .int hi u, .int 1 v] }, toks := tk } := I.kept fun b o e => Heap.get?_push_of_some _ e
  refine ⟨(s.heap.push { cls := .type "range", data := .fields #[.int lo t, .int hi u, .int 1 v] }).objs.size, [(s.heap.push { cls := .type "range", data := .fields #[.int lo t, .int hi u, .int 1 v] }).objs.size], _, _, H, rfl,
    I1.kept (t' := tk) fun b o e => Heap.get?_push_of_some _ e, turn_range _ lo (hi - lo).toNat, ?_, fun b hb => ?_, q⟩
  · have e1 : lo + ((0 : Nat) : Int) * 1 = lo := by simp
    have e2 : (((hi - lo).toNat : Nat) : Int) - ((0 : Nat) : Int) = Builtin.Range.rangeSize lo hi 1 := by rw [rangeSize_one]; split <;> omega
    show IsRangeIter _ _ (lo + ((0 : Nat) : Int) * 1) ((((hi - lo).toNat : Nat) : Int) - ((0 : Nat) : Int)) 1
    rw [e1, e2]
    exact Heap.get?_push_size _ rfl
  · have e : b = (s.heap.push { cls := .type "range", data := .fields #[.int lo t, .int hi u, .int 1 v] }).objs.size := by simpa using hb
    subst e
    exact I1.fpOk (Nat.le_refl _) (I1.hok.fresh (Nat.le_refl _))
def iRng1 (ta : TA) : TI := fun σ H R => ta σ H fun vs H1 => ∃ j : Int, vs = [.int j] ∧ -(2 ^ 62) ≤ j ∧ j < 2 ^ 62 ∧ R (Itr 0 j.toNat) H1
def iRng2 (ta : TA) : TI := fun σ H R => ta σ H fun vs H1 => ∃ i j : Int, vs = [.int i, .int j] ∧ (-(2 ^ 62) ≤ i ∧ i < 2 ^ 62 ∧ -(2 ^ 62) ≤ j ∧ j < 2 ^ 62) ∧ R (Itr i (j - i).toNat) H1
theorem pi_range1 {a : Expr} {ta : TA} {p pos : Pos} (hg : Gl X "range") (hm : X.mg "range" = none) (ha : PA X [a] ta) (hs : starEach [a] X.env = [(false, eval a X.env)] := by rfl) : PI X tg (.Call (.Name "range" p) [a] [] pos) (iRng1 ta) := by
  intro pins s σ H R I h
  refine Call_ (ld_blt I hg hm boot_range (PyProof.Rows.callWith_type1 (thn (ha pos pins s σ H _ I h) fun us s1 ⟨vs, H1, I1, r1, q1⟩ => ?_) hs rfl))
  obtain ⟨j, e, q1, q2, q⟩ := q1
  subst e
  cases r1 with
  | cons r rr =>
    cases rr
    obtain ⟨t, rfl⟩ := r
    exact call_range_1 (range_it I1 (by omega) (by omega) q1 q2 (by simpa using q))
theorem pi_range2 {a b : Expr} {ta : TA} {p pos : Pos} (hg : Gl X "range") (hm : X.mg "range" = none) (ha : PA X [a, b] ta) (hs : starEach [a, b] X.env = [(false, eval a X.env), (false, eval b X.env)] := by rfl) (hs2 : starEach [b] X.env = [(false, eval b X.env)] := by rfl) :
    PI X tg (.Call (.Name "range" p) [a, b] [] pos) (iRng2 ta) := by
  intro pins s σ H R I h
  refine Call_ (ld_blt I hg hm boot_range (PyProof.Rows.callWith_type1 (thn (ha pos pins s σ H _ I h) fun us s1 ⟨vs, H1, I1, r1, q1⟩ => ?_) (by rw [hs, hs2]) (by rw [hs2]; rfl)))
  obtain ⟨i, j, e, ⟨q1, q2, q3, q4⟩, q⟩ := q1
  subst e
  cases r1 with
  | cons r rr =>
    cases rr with
    | cons r' rr =>
      cases rr
      obtain ⟨t, rfl⟩ := r
      obtain ⟨t', rfl⟩ := r'
      exact call_range_2 (range_it I1 q1 q2 q3 q4 q)
def tFor (wi : TI) (g : TG) (tb : TS) : TS := fun D σ H => wi σ H fun J H1 => ∃ W : Nat → Nat → St → Hp → Prop, (∃ m, W 0 m σ H1) ∧ ∀ i m σ H, W i m σ H →
  (J.stop i H ∧ D.nx σ H) ∨ (J.go i H ∧ ∃ N : St → Hp → Prop, (∀ σ' H', N σ' H' → ∃ m', m' < m ∧ W (i + 1) m' σ' H') ∧ ∀ x H', J.yld i H x H' → g x σ H' fun σ2 H2 => tb { D with nx := N, ct := N, bk := D.nx } σ2 H2)
def pinsAt (fp : List Addr) (h : Heap) : List (Addr × Obj) := fp.filterMap fun b => (h.get? b).map fun o => (b, o)
theorem mem_pinsAt {fp : List Addr} {h : Heap} {b : Addr} {o : Obj} (hb : b ∈ fp) (e : h.get? b = some o) : (b, o) ∈ pinsAt fp h := List.mem_filterMap.mpr ⟨b, hb, by rw [e]; rfl⟩
theorem of_pinsAt {fp : List Addr} {h : Heap} {p : Addr × Obj} (hp : p ∈ pinsAt fp h) : p.1 ∈ fp ∧ h.get? p.1 = some p.2 := by
  obtain ⟨b, hb, e⟩ := List.mem_filterMap.mp hp
  cases q : h.get? b with
  | none => rw [q] at e; cases e
  | some o =>
    rw [q] at e
    have e' : (b, o) = p := Option.some.inj e
    subst e'
    exact ⟨hb, q⟩
theorem Inv.pinned {pins : List (Addr × Obj)} {σ : St} {H : Hp} {s : Shared} {fp : List Addr} (I : Inv X pins σ H s) (hf : ∀ b ∈ fp, FpOk X pins H b) (ho : ∀ b ∈ fp, ∃ o, s.heap.get? b = some o ∧ ∀ v, o.data ≠ .cell v) : Inv X (pins ++ pinsAt fp s.heap) σ H s :=
  I.pins_of fun p hp => (List.mem_append.mp hp).elim (fun z => I.pin p (List.mem_append_right _ z)) fun z => by
    obtain ⟨hb, e⟩ := of_pinsAt z
    obtain ⟨f0, f1, f2, _⟩ := hf p.1 hb
    obtain ⟨o, e', d⟩ := ho p.1 hb
    rw [e] at e'; cases e'
    exact ⟨e, f0, f1, f2, d⟩
theorem Inv.unpinned {pins pl : List (Addr × Obj)} {σ : St} {H : Hp} {s : Shared} (I : Inv X (pins ++ pl) σ H s) : Inv X pins σ H s := I.pins_of fun p hp => I.pin p (List.mem_append_right _ (List.mem_append_left _ hp))
theorem ps_for {iter : Expr} {body : List Stmt} {wi : TI} {g : TG} {tb : TS} {pos : Pos} (hp : PassesOwn (model X.prog X.w) X.A X.env X.xe) (hc : X.calm = true) (hi : PI X tg iter wi) (hg : PG X tg g) (hb : PSs X body tb)
    (hs : ∀ x, foldedSetIterable iter X.env x = pure x := by intro _; rfl) : PS X (.For tg iter body [] pos) (tFor wi g tb) := by
  intro pins s σ H D I h
  refine wpAny_For (thn (hi pins s σ H _ I h) fun v s1 h1 => thn h1 fun itv s2 h2 => ?_) hs
  obtain ⟨it, fp, tn, J, H2, e, I2, T, st2, f2, W, ⟨m0, w0⟩, turn⟩ := h2
  subst e
  have stat : ∀ {H' : Hp}, (∀ b ∈ fp, H' b = none) → ∀ b ∈ fp, FpOk X pins H' b := fun hn b hb => ⟨hn b hb, (f2 b hb).2⟩
  refine codeAny_forLoop_any (fun n s' => ∃ i σ' H', Inv X pins σ' H' s' ∧ tn i s'.heap ∧ (∀ b ∈ fp, H' b = none) ∧ W i n σ' H') ?_ m0 ⟨0, σ, H2, I2, st2, fun b hb => (f2 b hb).1, w0⟩
  rintro n s3 ⟨i, σ3, H3, I3, st3, fr3, w3⟩
  rcases turn i n σ3 H3 w3 with ⟨stop, qn⟩ | ⟨go, N, hN, step⟩
  · refine wpAny_passesOwn hp (thn (T.done X rfl rfl rfl hc i pins s3 σ3 H3 X.xe I3 (stat fr3) st3 stop) fun r s4 ⟨hr, I4⟩ => ?_)
    subst hr
    exact wpAny_execs_nil ⟨σ3, H3, I4, qn⟩
  · refine wpAny_passesOwn hp (thn (T.item X rfl rfl rfl hc i pins s3 σ3 H3 X.xe I3 (stat fr3) st3 go) fun r s4 ⟨u, hr, h4⟩ => ?_)
    subst hr
    refine wpAny_passesOwn hp (thn h4 fun _ s5 ⟨x, H5, I5, r5, y5, st5, fr5⟩ => ?_)
    have I5' := I5.pinned (stat fr5) (T.obj _ _ st5)
    refine wpAny_passesOwn hp (thn (hg _ s5 σ3 H5 x u _ I5' r5 (step x H5 y5)) fun _ s6 ⟨σ6, H6, I6, q6⟩ => ?_)
    refine wpAny_passesOwn hp (thn (hb _ s6 σ6 H6 _ I6 q6) fun f s7 q7 => ?_)
    have again : ∀ {σ7 : St} {H7 : Hp}, Inv X (pins ++ pinsAt fp s5.heap) σ7 H7 s7 → N σ7 H7 → ∃ m, m < n ∧ ∃ i σ' H', Inv X pins σ' H' s7 ∧ tn i s7.heap ∧ (∀ b ∈ fp, H' b = none) ∧ W i m σ' H' := fun {σ7 H7} I7 n7 => by
      obtain ⟨m', hm, w7⟩ := hN σ7 H7 n7
      refine ⟨m', hm, i + 1, σ7, H7, I7.unpinned, T.keep _ _ _ st5 fun b hb o e => (I7.pin (b, o) (List.mem_append_right _ (List.mem_append_right _ (mem_pinsAt hb e)))).1, fun b hb => ?_, w7⟩
      obtain ⟨o, e, d⟩ := T.obj _ _ st5 b hb
      exact (I7.pin (b, o) (List.mem_append_right _ (List.mem_append_right _ (mem_pinsAt hb e)))).2.1
    cases f with
    | next => obtain ⟨σ7, H7, I7, n7⟩ := q7; exact again I7 n7
    | cont => obtain ⟨σ7, H7, I7, n7⟩ := q7; exact again I7 n7
    | brk => obtain ⟨σ7, H7, I7, q7⟩ := q7; exact ⟨σ7, H7, I7.unpinned, q7⟩
    | ret v => obtain ⟨x7, σ7, H7, I7, r7, q7⟩ := q7; exact ⟨x7, σ7, H7, I7.unpinned, r7, q7⟩
end
theorem for_list {K : PySem.W.Frag} {a : Addr} {xs : List V} {g : TG} {tb : TS} {D : Ends} {σ : St} {H : Hp} (Pv : Nat → St → Hp → Prop) (h0 : Pv 0 σ H) (hl : ∀ i σ H, i ≤ xs.length → Pv i σ H → SqL K H a xs)
    (hs : ∀ i x σ H, xs[i]? = some x → Pv i σ H → g x σ H fun σ2 H2 => tb { D with nx := Pv (i + 1), ct := Pv (i + 1), bk := D.nx } σ2 H2) (hd : ∀ σ H, Pv xs.length σ H → D.nx σ H) :
    ∃ W : Nat → Nat → St → Hp → Prop, (∃ m, W 0 m σ H) ∧ ∀ i m σ H, W i m σ H →
      ((Itl K a).stop i H ∧ D.nx σ H) ∨ ((Itl K a).go i H ∧ ∃ N : St → Hp → Prop, (∀ σ' H', N σ' H' → ∃ m', m' < m ∧ W (i + 1) m' σ' H') ∧ ∀ x H', (Itl K a).yld i H x H' → g x σ H' fun σ2 H2 => tb { D with nx := N, ct := N, bk := D.nx } σ2 H2) := by
  refine ⟨fun i m σ H => m = xs.length - i ∧ i ≤ xs.length ∧ Pv i σ H, ⟨xs.length, by simp, Nat.zero_le _, h0⟩, ?_⟩
  rintro i m σ H ⟨rfl, hi, p⟩
  have q := hl i σ H hi p
  by_cases hlt : i < xs.length
  · refine .inr ⟨⟨xs, xs[i], q, by simp [hlt]⟩, Pv (i + 1), fun σ' H' p' => ⟨xs.length - (i + 1), by omega, rfl, hlt, p'⟩, fun x H' y => ?_⟩
    obtain ⟨e, y⟩ := y
    subst e
    exact hs i x σ _ (y xs q) p
  · have e : i = xs.length := by omega
    subst e
    exact .inl ⟨⟨xs, q, Nat.le_refl _⟩, hd σ H p⟩
theorem for_tup {K : PySem.W.Frag} {a : Addr} {xs : List V} {g : TG} {tb : TS} {D : Ends} {σ : St} {H : Hp} (Pv : Nat → St → Hp → Prop) (h0 : Pv 0 σ H) (hl : ∀ i σ H, i ≤ xs.length → Pv i σ H → SqT K H a xs)
    (hs : ∀ i x σ H, xs[i]? = some x → Pv i σ H → g x σ H fun σ2 H2 => tb { D with nx := Pv (i + 1), ct := Pv (i + 1), bk := D.nx } σ2 H2) (hd : ∀ σ H, Pv xs.length σ H → D.nx σ H) :
    ∃ W : Nat → Nat → St → Hp → Prop, (∃ m, W 0 m σ H) ∧ ∀ i m σ H, W i m σ H →
      ((Itt K a).stop i H ∧ D.nx σ H) ∨ ((Itt K a).go i H ∧ ∃ N : St → Hp → Prop, (∀ σ' H', N σ' H' → ∃ m', m' < m ∧ W (i + 1) m' σ' H') ∧ ∀ x H', (Itt K a).yld i H x H' → g x σ H' fun σ2 H2 => tb { D with nx := N, ct := N, bk := D.nx } σ2 H2) := by
  refine ⟨fun i m σ H => m = xs.length - i ∧ i ≤ xs.length ∧ Pv i σ H, ⟨xs.length, by simp, Nat.zero_le _, h0⟩, ?_⟩
  rintro i m σ H ⟨rfl, hi, p⟩
  have q := hl i σ H hi p
  by_cases hlt : i < xs.length
  · refine .inr ⟨⟨xs, xs[i], q, by simp [hlt]⟩, Pv (i + 1), fun σ' H' p' => ⟨xs.length - (i + 1), by omega, rfl, hlt, p'⟩, fun x H' y => ?_⟩
    obtain ⟨e, y⟩ := y
    subst e
    exact hs i x σ _ (y xs q) p
  · have e : i = xs.length := by omega
    subst e
    exact .inl ⟨⟨xs, q, Nat.le_refl _⟩, hd σ H p⟩
theorem for_range {lo : Int} {n : Nat} {g : TG} {tb : TS} {D : Ends} {σ : St} {H : Hp} (Pv : Nat → St → Hp → Prop) (h0 : Pv 0 σ H)
    (hs : ∀ i σ H, i < n → Pv i σ H → g (.int (lo + i)) σ H fun σ2 H2 => tb { D with nx := Pv (i + 1), ct := Pv (i + 1), bk := D.nx } σ2 H2) (hd : ∀ σ H, Pv n σ H → D.nx σ H) :
    ∃ W : Nat → Nat → St → Hp → Prop, (∃ m, W 0 m σ H) ∧ ∀ i m σ H, W i m σ H →
      ((Itr lo n).stop i H ∧ D.nx σ H) ∨ ((Itr lo n).go i H ∧ ∃ N : St → Hp → Prop, (∀ σ' H', N σ' H' → ∃ m', m' < m ∧ W (i + 1) m' σ' H') ∧ ∀ x H', (Itr lo n).yld i H x H' → g x σ H' fun σ2 H2 => tb { D with nx := N, ct := N, bk := D.nx } σ2 H2) := by
  refine ⟨fun i m σ H => m = n - i ∧ i ≤ n ∧ Pv i σ H, ⟨n, by simp, Nat.zero_le _, h0⟩, ?_⟩
  rintro i m σ H ⟨rfl, hi, p⟩
  by_cases hlt : i < n
  · refine .inr ⟨hlt, Pv (i + 1), fun σ' H' p' => ⟨n - (i + 1), by omega, rfl, hlt, p'⟩, fun x H' y => ?_⟩
    obtain ⟨e, y⟩ := y
    subst e y
    exact hs i σ _ hlt p
  · have e : i = n := by omega
    subst e
    exact .inl ⟨Nat.le_refl _, hd σ H p⟩
end L2
namespace L2
open PySem PySem.Spec PyProof.Rows
abbrev R2 := V → V → Hp → VK → Prop
def OpR (X : Cx) (f : Value → Value → Sem Value) (r : R2) : Prop :=
  ∀ (pins : List (Addr × Obj)) (s : Shared) (σ : St) (H : Hp) (x y : V) (v u : Value) (Q : VK), Inv X pins σ H s → RelV x v → RelV y u → r x y H Q →
    wpAny (model X.prog X.w) X.A (f v u) (EP X pins σ Q) X.xe s
def UnR (X : Cx) (f : Value → Sem Value) (r : V → Hp → VK → Prop) : Prop :=
  ∀ (pins : List (Addr × Obj)) (s : Shared) (σ : St) (H : Hp) (x : V) (v : Value) (Q : VK), Inv X pins σ H s → RelV x v → r x H Q →
    wpAny (model X.prog X.w) X.A (f v) (EP X pins σ Q) X.xe s
def CallR (X : Cx) (f : Value) (r : List V → Hp → VK → Prop) : Prop :=
  ∀ (pins : List (Addr × Obj)) (s : Shared) (σ : St) (H : Hp) (xs : List V) (us : List Value) (Q : VK), Inv X pins σ H s → Vals xs us → r xs H Q →
    wpAny (model X.prog X.w) X.A (call f us) (EP X pins σ Q) X.xe s
def TruR (X : Cx) (r : V → Hp → (Bool → Hp → Prop) → Prop) : Prop :=
  ∀ (pins : List (Addr × Obj)) (s : Shared) (σ : St) (H : Hp) (x : V) (v : Value) (Q : Bool → Hp → Prop), Inv X pins σ H s → RelV x v → r x H Q →
    wpAny (model X.prog X.w) X.A (truthy v) (TP X pins σ Q) X.xe s
def tOp (r : R2) (ta tb : TE) : TE := fun σ H Q => ta σ H fun x H1 => tb σ H1 fun y H2 => r x y H2 Q
def tUn (r : V → Hp → VK → Prop) (ta : TE) : TE := fun σ H Q => ta σ H fun x H1 => r x H1 Q
def rI (C : Int → Int → Prop) (g : Int → Int → V) : R2 := fun x y H Q => ∃ i j, x = .int i ∧ y = .int j ∧ C i j ∧ Q (g i j) H
def rI0 (g : Int → Int → V) : R2 := fun x y H Q => ∃ i j, x = .int i ∧ y = .int j ∧ Q (g i j) H
def rU (g : Int → V) : V → Hp → VK → Prop := fun x H Q => ∃ i, x = .int i ∧ Q (g i) H
section
variable {X : Cx} {a b c : Expr} {ta tb tc : TE} {pos : Pos}
theorem binT (ha : PE X a ta) (hb : PE X b tb) {pins : List (Addr × Obj)} {s : Shared} {σ : St} {H : Hp} {R : V → V → Hp → Prop} (I : Inv X pins σ H s)
    (h : ta σ H fun x H1 => tb σ H1 fun y H2 => R x y H2) {Q : Value → Shared → Prop} {f : Value → Value → Sem Value}
    (hf : ∀ v u s2 x y H2, Inv X pins σ H2 s2 → RelV x v → RelV y u → R x y H2 → wpAny (model X.prog X.w) X.A (f v u) Q X.xe s2) :
    wpAny (model X.prog X.w) X.A (eval a X.env) (fun v s₁ => wpAny (model X.prog X.w) X.A (eval b X.env) (fun u s₂ => wpAny (model X.prog X.w) X.A (f v u) Q X.xe s₂) X.xe s₁) X.xe s := by
  refine thn (ha pins s σ H _ I h) fun v s1 ⟨x, H1, I1, r1, q1⟩ => ?_
  refine thn (hb pins s1 σ H1 _ I1 q1) fun u s2 ⟨y, H2, I2, r2, q2⟩ => ?_
  exact hf v u s2 x y H2 I2 r1 r2 q2
theorem pe_op {op : Operator} {r : R2} (ho : OpR X (binaryOp op) r) (ha : PE X a ta) (hb : PE X b tb) : PE X (.BinOp a op b pos) (tOp r ta tb) := by
  intro pins s σ H Q I h
  exact wpAny_BinOp (binT ha hb I h fun v u s2 x y H2 I2 rx ry q => ho pins s2 σ H2 x y v u Q I2 rx ry q)
theorem pe_un {op : UnaryOp} {r : V → Hp → VK → Prop} (ho : UnR X (unaryOp op) r) (ha : PE X a ta) : PE X (.UnaryOp op a pos) (tUn r ta) := by
  intro pins s σ H Q I h
  exact UnaryOp_ (thn (ha pins s σ H _ I h) fun v s1 ⟨x, H1, I1, r1, q1⟩ => ho pins s1 σ H1 x v Q I1 r1 q1)
theorem opI {f : Value → Value → Sem Value} {C : Int → Int → Prop} {g : Int → Int → Int}
    (rule : ∀ (i j : Int) (t u : Tok) (s : Shared) (Q : Value → Shared → Prop) (E : Value → Shared → Prop), C i j → Q (.int (g i j) s.toks) { s with toks := s.toks + 1 } → wpAny (model X.prog X.w) X.A (f (.int i t) (.int j u)) Q E s) :
    OpR X f (rI C fun i j => .int (g i j)) := by
  intro pins s σ H x y v u Q I rx ry h
  obtain ⟨i, j, rfl, rfl, hc, q⟩ := h
  obtain ⟨t, rfl⟩ := rx
  obtain ⟨t', rfl⟩ := ry
  exact rule i j t t' s _ _ hc ⟨.int (g i j), H, I.tok _, ⟨_, rfl⟩, q⟩
theorem opI0 {f : Value → Value → Sem Value} {g : Int → Int → Int}
    (rule : ∀ (i j : Int) (t u : Tok) (s : Shared) (Q : Value → Shared → Prop) (E : Value → Shared → Prop), Q (.int (g i j) s.toks) { s with toks := s.toks + 1 } → wpAny (model X.prog X.w) X.A (f (.int i t) (.int j u)) Q E s) :
    OpR X f (rI0 fun i j => .int (g i j)) := by
  intro pins s σ H x y v u Q I rx ry h
  obtain ⟨i, j, rfl, rfl, q⟩ := h
  obtain ⟨t, rfl⟩ := rx
  obtain ⟨t', rfl⟩ := ry
  exact rule i j t t' s _ _ ⟨.int (g i j), H, I.tok _, ⟨_, rfl⟩, q⟩
theorem opB0 {f : Value → Value → Sem Value} {g : Int → Int → Bool}
    (rule : ∀ (i j : Int) (t u : Tok) (s : Shared) (Q : Value → Shared → Prop) (E : Value → Shared → Prop), Q (.bool (g i j)) s → wpAny (model X.prog X.w) X.A (f (.int i t) (.int j u)) Q E s) :
    OpR X f (rI0 fun i j => .bl (g i j)) := by
  intro pins s σ H x y v u Q I rx ry h
  obtain ⟨i, j, rfl, rfl, q⟩ := h
  obtain ⟨t, rfl⟩ := rx
  obtain ⟨t', rfl⟩ := ry
  exact rule i j t t' s _ _ ⟨.bl (g i j), H, I, rfl, q⟩
def CDiv (i j : Int) : Prop := 0 < j ∧ j < 1073741824
def CDivN (i j : Int) : Prop := j ≠ 0 ∧ j.natAbs < 1073741824
def CPow (i j : Int) : Prop := 0 ≤ j ∧ j ≤ 1000000 ∧ i.natAbs < 2 ^ 64
def CMul (i j : Int) : Prop := (-(2 ^ 64) < i ∧ i < 2 ^ 64) ∨ (-(2 ^ 64) < j ∧ j < 2 ^ 64)
theorem CMul.ok {i j : Int} (h : CMul i j) : IntMulOk i j := by
  rcases h with ⟨h1, h2⟩ | ⟨h1, h2⟩
  · exact .of_left (intBits_le_64 h1 h2)
  · exact .of_right (intBits_le_64 h1 h2)
theorem op_add : OpR X (binaryOp .Add) (rI0 fun i j => .int (i + j)) := opI0 fun _ _ _ _ _ _ _ q => add_int q
theorem op_sub : OpR X (binaryOp .Sub) (rI0 fun i j => .int (i - j)) := opI0 fun _ _ _ _ _ _ _ q => sub_int q
theorem op_mod : OpR X (binaryOp .Mod) (rI (fun _ j => 0 < j) fun i j => .int (i % j)) := opI fun i j _ _ _ _ _ hc q => by
  have h1 : (0 : Int) < j := hc
  exact mod_int' (by omega) (by rw [Int.fmod_eq_emod_of_nonneg i (by omega)]; exact q)
theorem op_pow : OpR X (binaryOp .Pow) (rI CPow fun i j => .int (i ^ j.toNat)) := opI fun _ _ _ _ _ _ _ hc q => pow_int_small hc.1 hc.2.1 hc.2.2 q
theorem unI {f : Value → Sem Value} {g : Int → Int}
    (rule : ∀ (i : Int) (t : Tok) (s : Shared) (Q : Value → Shared → Prop) (E : Value → Shared → Prop), Q (.int (g i) s.toks) { s with toks := s.toks + 1 } → wpAny (model X.prog X.w) X.A (f (.int i t)) Q E s) :
    UnR X f (rU fun i => .int (g i)) := by
  intro pins s σ H x v Q I rx h
  obtain ⟨i, rfl, q⟩ := h
  obtain ⟨t, rfl⟩ := rx
  exact rule i t s _ _ ⟨.int (g i), H, I.tok _, ⟨_, rfl⟩, q⟩
theorem un_neg : UnR X (unaryOp .USub) (rU fun i => .int (-i)) := unI fun _ _ _ _ _ q => neg_int q
end
def scal : V → V → Bool
  | .non, .non => true | .non, .int _ => true | .int _, .non => true | .non, .bl _ => true | .bl _, .non => true | .non, .str _ => true | .str _, .non => true
  | .int _, .int _ => true | .bl _, .bl _ => true | .str _, .str _ => true | .byt _, .byt _ => true
  | .int _, .str _ => true | .str _, .int _ => true | .bl _, .str _ => true | .str _, .bl _ => true
  | _, _ => false
def rEq : R2 := fun x y H Q => scal x y = true ∧ Q (.bl (decide (x = y))) H
def rNe : R2 := fun x y H Q => scal x y = true ∧ Q (.bl (!decide (x = y))) H
theorem dec_int {i j : Int} : decide (V.int i = V.int j) = (i == j) := by
  rw [Bool.eq_iff_iff]
  simp
theorem dec_bl {i j : Bool} : decide (V.bl i = V.bl j) = (i == j) := by
  rw [Bool.eq_iff_iff]
  simp
theorem dec_str {i j : Str} : decide (V.str i = V.str j) = (i == j) := by
  rw [Bool.eq_iff_iff]
  simp
theorem dec_byt {i j : Array UInt8} : decide (V.byt i = V.byt j) = (i.toList == j.toList) := by
  rw [Bool.eq_iff_iff]
  cases i
  cases j
  simp
section
variable {X : Cx} {a b c : Expr} {ta tb tc : TE} {pos : Pos}
theorem fin_bl {pins : List (Addr × Obj)} {σ : St} {H : Hp} {s : Shared} {Q : VK} {k k' : Bool} (I : Inv X pins σ H s) (q : Q (.bl k) H) (e : k = k') : EP X pins σ Q (.bool k') s := by
  subst e
  exact ⟨.bl k, H, I, rfl, q⟩
theorem op_eq : OpR X (compareOp .Eq) rEq := by
  intro pins s σ H x y v u Q I rx ry h
  obtain ⟨hs, q⟩ := h
  cases x with
  | non =>
    cases rx
    cases y with
    | non => cases ry; exact PySem.EqNone.eq_none_none (fin_bl I q (by simp))
    | bl j => cases ry; exact PySem.EqNone.eq_none_bool (fin_bl I q (by simp))
    | int j => obtain ⟨t', rfl⟩ := ry; exact PySem.EqNone.eq_none_int (fin_bl I q (by simp))
    | str j => obtain ⟨t', rfl⟩ := ry; exact PySem.EqNone.eq_none_str (fin_bl I q (by simp))
    | _ => exact absurd (show false = true from hs) Bool.false_ne_true
  | bl i =>
    cases rx
    cases y with
    | non => cases ry; exact PySem.EqNone.eq_bool_none (fin_bl I q (by simp))
    | bl j => cases ry; exact eq_bool (fin_bl I q dec_bl)
    | str j => obtain ⟨t', rfl⟩ := ry; exact PySem.EqMixed.eq_bool_str (fin_bl I q (by simp))
    | _ => exact absurd (show false = true from hs) Bool.false_ne_true
  | int i =>
    obtain ⟨t, rfl⟩ := rx
    cases y with
    | non => cases ry; exact PySem.EqNone.eq_int_none (fin_bl I q (by simp))
    | int j => obtain ⟨t', rfl⟩ := ry; exact eq_int (fin_bl I q dec_int)
    | str j => obtain ⟨t', rfl⟩ := ry; exact PySem.EqMixed.eq_int_str (fin_bl I q (by simp))
    | _ => exact absurd (show false = true from hs) Bool.false_ne_true
  | str i =>
    obtain ⟨t, rfl⟩ := rx
    cases y with
    | non => cases ry; exact PySem.EqNone.eq_str_none (fin_bl I q (by simp))
    | bl j => cases ry; exact PySem.EqMixed.eq_str_bool (fin_bl I q (by simp))
    | int j => obtain ⟨t', rfl⟩ := ry; exact PySem.EqMixed.eq_str_int (fin_bl I q (by simp))
    | str j => obtain ⟨t', rfl⟩ := ry; exact eq_str (fin_bl I q dec_str)
    | _ => exact absurd (show false = true from hs) Bool.false_ne_true
  | byt i =>
    obtain ⟨t, rfl⟩ := rx
    cases y with
    | byt j => obtain ⟨t', rfl⟩ := ry; exact PySem.W.eq_bytes (fin_bl I q dec_byt)
    | _ => exact absurd (show false = true from hs) Bool.false_ne_true
  | _ => cases y <;> exact absurd (show false = true from hs) Bool.false_ne_true
theorem op_ne : OpR X (compareOp .NotEq) rNe := by
  intro pins s σ H x y v u Q I rx ry h
  obtain ⟨hs, q⟩ := h
  cases x with
  | non =>
    cases rx
    cases y with
    | non => cases ry; exact PySem.EqNone.ne_none_none (fin_bl I q (by simp))
    | bl j => cases ry; exact PySem.EqNone.ne_none_bool (fin_bl I q (by simp))
    | int j => obtain ⟨t', rfl⟩ := ry; exact PySem.EqNone.ne_none_int (fin_bl I q (by simp))
    | str j => obtain ⟨t', rfl⟩ := ry; exact PySem.EqNone.ne_none_str (fin_bl I q (by simp))
    | _ => exact absurd (show false = true from hs) Bool.false_ne_true
  | bl i =>
    cases rx
    cases y with
    | non => cases ry; exact PySem.EqNone.ne_bool_none (fin_bl I q (by simp))
    | bl j => cases ry; exact ne_bool (fin_bl I q (congrArg not dec_bl))
    | str j => obtain ⟨t', rfl⟩ := ry; exact PySem.EqMixed.ne_bool_str (fin_bl I q (by simp))
    | _ => exact absurd (show false = true from hs) Bool.false_ne_true
  | int i =>
    obtain ⟨t, rfl⟩ := rx
    cases y with
    | non => cases ry; exact PySem.EqNone.ne_int_none (fin_bl I q (by simp))
    | int j => obtain ⟨t', rfl⟩ := ry; exact ne_int (fin_bl I q (congrArg not dec_int))
    | str j => obtain ⟨t', rfl⟩ := ry; exact PySem.EqMixed.ne_int_str (fin_bl I q (by simp))
    | _ => exact absurd (show false = true from hs) Bool.false_ne_true
  | str i =>
    obtain ⟨t, rfl⟩ := rx
    cases y with
    | non => cases ry; exact PySem.EqNone.ne_str_none (fin_bl I q (by simp))
    | bl j => cases ry; exact PySem.EqMixed.ne_str_bool (fin_bl I q (by simp))
    | int j => obtain ⟨t', rfl⟩ := ry; exact PySem.EqMixed.ne_str_int (fin_bl I q (by simp))
    | str j => obtain ⟨t', rfl⟩ := ry; exact ne_str (fin_bl I q (congrArg not dec_str))
    | _ => exact absurd (show false = true from hs) Bool.false_ne_true
  | byt i =>
    obtain ⟨t, rfl⟩ := rx
    cases y with
    | byt j => obtain ⟨t', rfl⟩ := ry; exact PySem.W.ne_bytes (fin_bl I q (congrArg not dec_byt))
    | _ => exact absurd (show false = true from hs) Bool.false_ne_true
  | _ => cases y <;> exact absurd (show false = true from hs) Bool.false_ne_true
theorem op_lt : OpR X (compareOp .Lt) (rI0 fun i j => .bl (decide (i < j))) := opB0 fun _ _ _ _ _ _ _ q => lt_int q
theorem op_gt : OpR X (compareOp .Gt) (rI0 fun i j => .bl (decide (j < i))) := opB0 fun _ _ _ _ _ _ _ q => gt_int q
theorem op_in_str : OpR X (compareOp .In) (fun x y H Q => ∃ i j, x = .str i ∧ y = .str j ∧ Q (.bl (!(Builtin.Str.occurrences j i 0 j.length 1).isEmpty)) H) := by
  intro pins s σ H x y v u Q I rx ry h
  obtain ⟨i, j, rfl, rfl, q⟩ := h
  obtain ⟨t, rfl⟩ := rx
  obtain ⟨t', rfl⟩ := ry
  exact in_str (fin_bl I q rfl)
theorem op_isN : OpR X (compareOp .Is) (fun x y H Q => y = .non ∧ Q (.bl (decide (x = .non))) H) := by
  intro pins s σ H x y v u Q I rx ry h
  obtain ⟨rfl, q⟩ := h
  cases ry
  refine is_none_gen (fin_bl I q ?_)
  cases x <;> first
    | (cases rx; rfl)
    | (obtain ⟨t, rfl⟩ := rx; rfl)
theorem op_notin_str : OpR X (compareOp .NotIn) (fun x y H Q => ∃ i j, x = .str i ∧ y = .str j ∧ Q (.bl (!(!(Builtin.Str.occurrences j i 0 j.length 1).isEmpty))) H) := by
  intro pins s σ H x y v u Q I rx ry h
  obtain ⟨i, j, rfl, rfl, q⟩ := h
  obtain ⟨t, rfl⟩ := rx
  obtain ⟨t', rfl⟩ := ry
  exact notIn_str (fin_bl I q rfl)
def isObj : HO → Bool
  | .lst _ => true
  | .ins _ _ _ => true
  | _ => false
theorem OpR.or {f : Value → Value → Sem Value} {r r' : R2} (h : OpR X f r) (h' : OpR X f r') : OpR X f (fun x y H Q => r x y H Q ∨ r' x y H Q) := by
  intro pins s σ H x y v u Q I rx ry q
  rcases q with q | q
  · exact h pins s σ H x y v u Q I rx ry q
  · exact h' pins s σ H x y v u Q I rx ry q
theorem nomark (b : Expr) {op : CmpOp} (h : op ≠ .In := by decide) (h2 : op ≠ .NotIn := by decide) : behindInMarks op b = false := by
  have e1 : (op == CmpOp.In) = false := by cases op <;> first | rfl | exact absurd rfl h
  have e2 : (op == CmpOp.NotIn) = false := by cases op <;> first | rfl | exact absurd rfl h2
  cases b <;> simp [behindInMarks, e1, e2]
theorem pe_cmpR {op : CmpOp} {r : R2} (ho : OpR X (compareOp op) r) (ha : PE X a ta) (hb : PE X b tb) (hm : behindInMarks op b = false) : PE X (.Compare a [op] [b] pos) (tOp r ta tb) := by
  intro pins s σ H Q I h
  exact wpAny_Compare1 (binT ha hb I h fun v u s2 x y H2 I2 rx ry q => ho pins s2 σ H2 x y v u Q I2 rx ry q) hm
def tTest (t : TE) : TT := fun σ H Q => t σ H fun x H' => ∃ k, x = .bl k ∧ Q k H'
theorem pt_cmpR {op : CmpOp} {r : R2} (ho : OpR X (compareOp op) r) (ha : PE X a ta) (hb : PE X b tb) (hm : behindInMarks op b = false) : PT X (.Compare a [op] [b] pos) (tTest (tOp r ta tb)) := by
  intro pins s σ H Q I h
  refine wpAny_isTrue_Compare1 (thn (ha pins s σ H _ I h) fun v s1 ⟨x, H1, I1, r1, q1⟩ => thn (hb pins s1 σ H1 _ I1 q1) fun u s2 ⟨y, H2, I2, r2, q2⟩ =>
    thn (ho pins s2 σ H2 x y v u _ I2 r1 r2 q2) fun c s3 ⟨z, H3, I3, r3, k, e, q3⟩ => ?_) hm
  subst e
  cases r3
  exact wpAny_truthy_bool ⟨H3, I3, q3⟩
def tChain (r r' : R2) (ta tb tc : TE) : TE := fun σ H Q => ta σ H fun x H1 => tb σ H1 fun y H2 => r x y H2 fun z H3 => ∃ k, z = .bl k ∧
  (if k = true then tc σ H3 fun w' H4 => r' y w' H4 Q else Q (.bl false) H3)
def TruV (K : PySem.W.Frag) (x : V) (H : Hp) (k : Bool) : Prop :=
  match x with
  | .non => k = false
  | .bl b => k = b
  | .int i => k = (i != 0)
  | .str y => y.length ≤ sizeLine ∧ k = ((y.length : Int) != 0)
  | .byt y => y.size ≤ sizeLine ∧ k = ((y.size : Int) != 0)
  | .ref p => (∃ xs, SqL K H p xs ∧ k = !xs.isEmpty) ∨ (∃ xs, SqT K H p xs ∧ k = !xs.isEmpty) ∨ ∃ kvs, H p = some (.dK kvs) ∧ k = !kvs.isEmpty
  | _ => False
theorem isEmpty_kv {κ : Type} {kvs : List (κ × V)} {vs : List (κ × Value)} (r : KV kvs vs) : (!vs.isEmpty) = !kvs.isEmpty := by
  cases r <;> rfl
theorem isEmpty_of {xs : List V} {its : List Value} (r : Vals xs its) : (!its.toArray.isEmpty) = !xs.isEmpty := by
  cases r <;> simp
theorem line63 : (sizeLine : Nat) < 2 ^ 63 := by rw [sizeLine_eq]; decide
theorem tru_ok : TruR X (fun x H Q => ∃ k, TruV X.K x H k ∧ Q k H) := by
  intro pins s σ H x v Q I rx h
  obtain ⟨k, e, q⟩ := h
  have hl := line63
  have hs : sizeLine = 16777216 := sizeLine_eq
  cases x with
  | non =>
    cases rx
    have e' : k = false := e
    subst e'
    exact truthy_none ⟨H, I, q⟩
  | bl b =>
    cases rx
    have e' : k = b := e
    subst e'
    exact wpAny_truthy_bool ⟨H, I, q⟩
  | int i =>
    obtain ⟨t, rfl⟩ := rx
    have e' : k = (i != 0) := e
    subst e'
    exact PySem.P.truthy_int ⟨H, I, q⟩
  | str y =>
    obtain ⟨t, rfl⟩ := rx
    obtain ⟨hy, e'⟩ : y.length ≤ sizeLine ∧ k = ((y.length : Int) != 0) := e
    subst e'
    exact PySem.P.truthy_str (by omega) ⟨H, I.tok _, q⟩
  | byt y =>
    obtain ⟨t, rfl⟩ := rx
    obtain ⟨hy, e'⟩ : y.size ≤ sizeLine ∧ k = ((y.size : Int) != 0) := e
    subst e'
    exact PySem.W.truthy_bytes (by omega) ⟨H, I.tok _, q⟩
  | ref p =>
    cases rx
    have e' : (∃ xs, SqL X.K H p xs ∧ k = !xs.isEmpty) ∨ (∃ xs, SqT X.K H p xs ∧ k = !xs.isEmpty) ∨ ∃ kvs, H p = some (.dK kvs) ∧ k = !kvs.isEmpty := e
    rcases e' with ⟨xs, hx, e'⟩ | ⟨xs, hx, e'⟩ | ⟨kvs, hx, e'⟩
    · subst e'
      obtain ⟨its, r, pl, hz⟩ := I.list hx
      have hlen := r.length
      exact wpAny_truthy_list pl.isList (by simp only [List.size_toArray]; omega) ⟨H, I.tok _, by rw [isEmpty_of r]; exact q⟩
    · subst e'
      obtain ⟨its, r, pl, hz⟩ := I.tuple hx
      have hlen := r.length
      exact truthy_tuple pl (by simp only [List.size_toArray]; omega) ⟨H, I.tok _, by rw [isEmpty_of r]; exact q⟩
    · subst e'
      obtain ⟨hz, hS, vs, r, m⟩ : kvs.length ≤ sizeLine ∧ (p == sysModules) = false ∧ ∃ vs, KV kvs vs ∧ s.heap.DictOf (mixKind X.prog X.w) p vs := I.hok p _ hx
      have hlen : kvs.length = vs.length := Paired.length r
      exact wpAny_truthy_dict hS m (by omega) ⟨H, I.tok _, by rw [isEmpty_kv r]; exact q⟩
  | _ => exact (show False from e).elim
theorem pt_truth (ha : PE X a ta) (he : ∀ whole, isTrue a X.env whole = (do let v ← whole; standAt a.pos; holding [v] (truthy v))) :
    PT X a (fun σ H Q => ta σ H fun x H' => ∃ k, TruV X.K x H' k ∧ Q k H') := by
  intro pins s σ H Q I h
  exact isTrue_plain (thn (ha pins s σ H _ I h) fun v s1 ⟨x, H1, I1, r1, q1⟩ => tru_ok pins s1 σ H1 x v Q I1 r1 q1) (he _)
theorem op_add_str : OpR X (binaryOp .Add) (fun x y H Q => ∃ i j, x = .str i ∧ y = .str j ∧ i.length + j.length ≤ sizeLine ∧ Q (.str (i ++ j)) H) := by
  intro pins s σ H x y v u Q I rx ry h
  obtain ⟨i, j, rfl, rfl, hz, q⟩ := h
  obtain ⟨t, rfl⟩ := rx
  obtain ⟨t', rfl⟩ := ry
  exact add_str (fun t' tk => ⟨.str (i ++ j), H, I.tok _, ⟨_, rfl⟩, q⟩) hz
def PlainIxT (b : Expr) : Prop := ∀ o i, subscripted b false o i = operate [o, i] (getItem o i)
theorem vals1 {x : V} {us : List Value} (r : Vals [x] us) : ∃ u, us = [u] ∧ RelV x u := by
  cases r with
  | cons r1 r2 => cases r2; exact ⟨_, rfl, r1⟩
theorem vals2 {x y : V} {us : List Value} (r : Vals [x, y] us) : ∃ u w', us = [u, w'] ∧ RelV x u ∧ RelV y w' := by
  cases r with
  | cons r1 r2 =>
    cases r2 with
    | cons r3 r4 => cases r4; exact ⟨_, _, rfl, r1, r3⟩
theorem call_abs : CallR X (.builtin "abs") (fun xs H Q => ∃ i, xs = [.int i] ∧ Q (.int (if i < 0 then -i else i)) H) := by
  intro pins s σ H xs us Q I r h
  obtain ⟨i, rfl, q⟩ := h
  obtain ⟨u, rfl, t, rfl⟩ := vals1 r
  exact call_abs_int fun u tk => ⟨.int (if i < 0 then -i else i), H, I.tok _, ⟨_, rfl⟩, q⟩
theorem call_int1 : CallR X (.type "int") (fun xs H Q => (∃ i, xs = [.int i] ∧ Q (.int i) H) ∨ ∃ k, xs = [.bl k] ∧ Q (.int (if k then 1 else 0)) H) := by
  intro pins s σ H xs us Q I r h
  rcases h with ⟨i, rfl, q⟩ | ⟨k, rfl, q⟩
  · obtain ⟨u, rfl, t, rfl⟩ := vals1 r
    exact call_int_int ⟨.int i, H, I, ⟨_, rfl⟩, q⟩
  · obtain ⟨u, rfl, r1⟩ := vals1 r
    cases r1
    exact call_int_bool ⟨.int (if k then 1 else 0), H, I.tok _, ⟨_, rfl⟩, q⟩
def LenV (K : PySem.W.Frag) (x : V) (H : Hp) (n : Nat) : Prop :=
  match x with
  | .str y => y.length ≤ sizeLine ∧ n = y.length
  | .byt y => y.size ≤ sizeLine ∧ n = y.size
  | .ref p => (∃ xs, SqL K H p xs ∧ n = xs.length) ∨ ∃ xs, SqT K H p xs ∧ n = xs.length
  | _ => False
theorem call_len : CallR X (.builtin "len") (fun xs H Q => ∃ x n, xs = [x] ∧ LenV X.K x H n ∧ Q (.int n) H) := by
  intro pins s σ H xs us Q I r h
  obtain ⟨x, n, rfl, e, q⟩ := h
  obtain ⟨u, rfl, rx⟩ := vals1 r
  have hl := line63
  have hs : sizeLine = 16777216 := sizeLine_eq
  cases x with
  | str y =>
    obtain ⟨t, rfl⟩ := rx
    obtain ⟨hy, e'⟩ : y.length ≤ sizeLine ∧ n = y.length := e
    subst e'
    exact len_str (by omega) ⟨.int _, H, I.tok _, ⟨_, rfl⟩, q⟩
  | byt y =>
    obtain ⟨t, rfl⟩ := rx
    obtain ⟨hy, e'⟩ : y.size ≤ sizeLine ∧ n = y.size := e
    subst e'
    exact PySem.W.len_bytes (by omega) ⟨.int _, H, I.tok _, ⟨_, rfl⟩, q⟩
  | ref p =>
    cases rx
    have e' : (∃ xs, SqL X.K H p xs ∧ n = xs.length) ∨ ∃ xs, SqT X.K H p xs ∧ n = xs.length := e
    rcases e' with ⟨xs, hx, e'⟩ | ⟨xs, hx, e'⟩
    · subst e'
      obtain ⟨its, r', pl, hz⟩ := I.list hx
      have hlen := r'.length
      exact Calls.call_len_list pl.isList (by simp only [List.size_toArray]; omega) ⟨.int xs.length, H, I.tok _, ⟨_, by simp only [List.size_toArray]; rw [hlen]⟩, q⟩
    · subst e'
      obtain ⟨its, r', pl, hz⟩ := I.tuple hx
      have hlen := r'.length
      exact len_tuple pl (by simp only [List.size_toArray]; omega) ⟨.int xs.length, H, I.tok _, ⟨_, by simp only [List.size_toArray]; rw [hlen]⟩, q⟩
  | _ => exact (show False from e).elim
end
end L2
namespace L2
open PySem PySem.Spec PyProof.Rows
structure ObjM (h : Heap) (x dx C : Addr) (mA : Str → Option Value) : Prop where
  obj : h.get? x = some (PySem.W.instObj C dx)
  ns : h.Ns1 dx mA
  ne : dx ≠ x
theorem lookIn_ns {h : Heap} {dx : Addr} {mA : Str → Option Value} (n : h.Ns1 dx mA) : ∃ od, h.get? dx = some od ∧ ∀ name, PySem.W.lookIn name od = some (mA name) := by
  obtain ⟨o, es, ep, ho, hd, hk, _, hm⟩ := n
  refine ⟨o, ho, fun name => ?_⟩
  have e := hm name
  unfold nsFind findBy at e
  rw [← Array.find?_toList] at e
  unfold PySem.W.lookIn
  rw [hd]
  dsimp only
  split
  · rename_i y q
    rw [q] at e
    exact congrArg some e
  · rename_i q
    rw [q] at e
    have a : es.toList.any (·.refKey) = false := by
      rw [List.any_eq_false]
      intro y hy
      obtain ⟨z, t, hkey⟩ := hk y (Array.mem_toList_iff.mp hy)
      simp [DictEntry.refKey, hkey]
    have a' : ¬ es.toList.any (·.refKey) = true := by rw [a]; exact Bool.false_ne_true
    rw [if_neg a']
    exact congrArg some e
theorem ObjM.look {h : Heap} {x dx C : Addr} {mA : Str → Option Value} (I : ObjM h x dx C mA) : ∃ od, PySem.W.InstAt h x (PySem.W.instObj C dx) C (some od) ∧ ∀ name, PySem.W.lookIn name od = some (mA name) :=
  let ⟨od, ho, hl⟩ := lookIn_ns I.ns
  ⟨od, ⟨I.obj, rfl, rfl, ho⟩, hl⟩
section
variable {prog : Program} {w : World} {A : Around} {E : Value → Shared → Prop} {s : Shared} {K : PySem.W.Frag} {x dx C f : Addr} {mA : Str → Option Value} {name : Str} {v : Value}
end
def putF (f : Str) (v : V) : List (Str × V) → List (Str × V)
  | [] => [(f, v)]
  | (g, x) :: r => if g = f then (g, v) :: r else (g, x) :: putF f v r
theorem RelO.none_of {o : Option Value} (r : RelO none o) : o = none := by
  cases o with
  | none => rfl
  | some u => exact (show False from r).elim
section
variable {P : Program} {w : World} {H H' : Hp} {h h' : Heap} {a C dx : Addr} {fs fs' : List (Str × V)}
theorem ins_get (hok : HOk P w H h) (e : H a = some (.ins C dx fs)) : ∃ mA, ObjM h a dx C mA ∧ (∀ f, RelO (fs.lookup f) (mA f)) ∧ PySem.Within mA (fs.map (·.1)) ∧ fs.length ≤ 1000 ∧ H dx = some (.own a) := by
  obtain ⟨d, z, ne, ob, mA, n, r, q⟩ := (show ObjOk P w H h a (.ins C dx fs) from hok a _ e)
  exact ⟨mA, ⟨ob, n, ne⟩, r, q, z, d⟩
end
structure Cls (K : PySem.W.Frag) (C : Addr) : Prop where
  pg : PySem.W.plainGet K C Str.empty = true
  hd : PySem.W.hasDictIn K C = true
  po : PySem.W.plainOver K C = true
  sa : PySem.W.findIn K (.ref C) "__setattr__" = some (some (.builtin "object.__setattr__"))
theorem Cls.get {K : PySem.W.Frag} {C : Addr} (c : Cls K C) (f : Str) : PySem.W.plainGet K C f = true := c.pg
def NoAttr (K : PySem.W.Frag) (C : Addr) (f : Str) : Prop := PySem.W.findIn K (.ref C) f = some none
structure Con (K : PySem.W.Frag) (C : Addr) (f : Str) (v : V) (u : Value) : Prop where
  at_ : PySem.W.findIn K (.ref C) f = some (some u)
  rel : RelV v u
  get : PySem.W.specialIn K u "__get__" = some none
  cp : PySem.W.copiedNames.contains f = false
structure Meth (K : PySem.W.Frag) (C : Addr) (m : Str) (f : Addr) : Prop where
  at_ : PySem.W.findIn K (.ref C) m = some (some (.ref f))
  fn : PySem.W.isFn K (.ref f) = true
  kp : PySem.W.keepIn K (.ref f) = true
section
variable {X : Cx} {pins : List (Addr × Obj)} {σ : St} {H : Hp} {s : Shared} {a C dx : Addr} {fs : List (Str × V)} {f : Str} {v : V} {A : Around} {E : Value → Shared → Prop}
theorem Inv.made (I : Inv X pins σ H s) : Inv X pins σ (upd (upd H s.heap.objs.size (.own (s.heap.objs.size + 1))) (s.heap.objs.size + 1) (.ins C s.heap.objs.size []))
    { s with heap := (s.heap.push PySem.W.emptyDict).push (PySem.W.instObj C s.heap.objs.size) } := by
  have e1 : (s.heap.push PySem.W.emptyDict).get? s.heap.objs.size = some PySem.W.emptyDict := Heap.get?_push_size s.heap rfl
  have e2 : ((s.heap.push PySem.W.emptyDict).push (PySem.W.instObj C s.heap.objs.size)).get? (s.heap.objs.size + 1) = some (PySem.W.instObj C s.heap.objs.size) := by
    have := Heap.get?_push_size (s.heap.push PySem.W.emptyDict) (o := PySem.W.instObj C s.heap.objs.size) rfl
    rwa [Heap.size_push] at this
  have e3 : (s.heap.push PySem.W.emptyDict).Ns s.heap.objs.size (fun _ => none) := ⟨PySem.W.emptyDict, #[], _, e1, rfl, (fun e he => absurd he (by simp)), fun _ => rfl⟩
  have I1 := I.laid (a := s.heap.objs.size) (o := .own (s.heap.objs.size + 1)) (h' := s.heap.push PySem.W.emptyDict) (t' := s.toks) (fun b u q => Heap.get?_push_of_some _ q) (Nat.le_refl _) ⟨_, e1⟩
  refine I1.laid (a := s.heap.objs.size + 1) (o := .ins C s.heap.objs.size []) (t' := s.toks) (fun b u q => Heap.get?_push_of_some _ q) (Nat.le_of_eq (Heap.size_push _ _)) ?_
  have ne : s.heap.objs.size ≠ s.heap.objs.size + 1 := Nat.ne_of_lt (Nat.lt_succ_self _)
  refine ⟨by rw [upd_ne ne, upd_same], Nat.zero_le _, ne, e2, fun _ => none, (Heap.Ns1.of_empty e3).at fun o q => Heap.get?_push_of_some _ q, fun _ => True.intro, fun y hy => absurd rfl hy⟩
end
def tFld (K : PySem.W.Frag) (ta : TE) (f : Str) : TE := fun σ H Q => ta σ H fun x H1 => ∃ a C dx fs v, x = .ref a ∧ H1 a = some (.ins C dx fs) ∧ Cls K C ∧ NoAttr K C f ∧ fs.lookup f = some v ∧ Q v H1
def tCon (K : PySem.W.Frag) (ta : TE) (f : Str) : TE := fun σ H Q => ta σ H fun x H1 => ∃ a C dx fs v u, x = .ref a ∧ H1 a = some (.ins C dx fs) ∧ Cls K C ∧ Con K C f v u ∧ fs.lookup f = none ∧ Q v H1
def sFld (K : PySem.W.Frag) (ta tv : TE) (f : Str) : TS := fun D σ H => tv σ H fun y H1 => ta σ H1 fun x H2 => ∃ a C dx fs, x = .ref a ∧ H2 a = some (.ins C dx fs) ∧ Cls K C ∧ NoAttr K C f ∧ fs.length < 1000 ∧
  D.nx σ (upd H2 a (.ins C dx (putF f y fs)))
def InOp (X : Cx) (op : Operator) (rd : V → V → Hp → VK → Prop) : Prop :=
  ∀ (pins : List (Addr × Obj)) (s : Shared) (σ : St) (H : Hp) (x y : V) (u v : Value) (Q : VK), Inv X pins σ H s → RelV x u → RelV y v → rd x y H Q → wpAny (model X.prog X.w) X.A (inplaceOp op u v) (EP X pins σ Q) X.xe s
def sFldAug (K : PySem.W.Frag) (ta tv : TE) (rd : V → V → Hp → VK → Prop) (f : Str) : TS := fun D σ H => ta σ H fun x H1 => ∃ a C dx fs v, x = .ref a ∧ H1 a = some (.ins C dx fs) ∧ Cls K C ∧ NoAttr K C f ∧ fs.lookup f = some v ∧
  tv σ H1 fun y H2 => rd v y H2 fun z H3 => ∃ dx' fs', H3 a = some (.ins C dx' fs') ∧ fs'.length < 1000 ∧ D.nx σ (upd H3 a (.ins C dx' (putF f z fs')))
section
variable {X : Cx} {o e value : Expr} {f : Str} {pos pos' tpos : Pos} {ta tv : TE}
def rAdd : V → V → Hp → VK → Prop := fun x y H Q => ∃ i j, x = .int i ∧ y = .int j ∧ Q (.int (i + j)) H
def rSub : V → V → Hp → VK → Prop := fun x y H Q => ∃ i j, x = .int i ∧ y = .int j ∧ Q (.int (i - j)) H
end
section
variable {X : Cx} {pins : List (Addr × Obj)} {σ : St} {H : Hp} {s : Shared} {A : Around} {E : Value → Shared → Prop} {Q : Value → Shared → Prop} {c : Value} {b : Bool}
inductive TyOf (K : PySem.W.Frag) (H : Hp) : V → Value → Prop where
  | non : TyOf K H .non (.type "NoneType")
  | bl (x : Bool) : TyOf K H (.bl x) (.type "bool")
  | int (i : Int) : TyOf K H (.int i) (.type "int")
  | str (x : Str) : TyOf K H (.str x) (.type "str")
  | flt (x : UInt64) : TyOf K H (.flt x) (.type "float")
  | lst {a : Addr} {xs : List V} (e : H a = some (.lst xs)) : TyOf K H (.ref a) (.type "list")
  | frz {a : Addr} {o : Obj} {xs : List V} (e : H a = some (.frz o (.lst xs))) : TyOf K H (.ref a) (.type "list")
  | tup {a : Addr} {xs : List V} (e : H a = some (.tup xs)) : TyOf K H (.ref a) (.type "tuple")
  | dK {a : Addr} {kvs : List (Key × V)} (e : H a = some (.dK kvs)) : TyOf K H (.ref a) (.type "dict")
  | dT {a : Addr} {kvs : List (List Key × V)} (e : H a = some (.dT kvs)) : TyOf K H (.ref a) (.type "dict")
  | ins {a C dx : Addr} {fs : List (Str × V)} (e : H a = some (.ins C dx fs)) (cl : Cls K C) (ha : PySem.W.findIn K (.ref C) "__class__" = some (some (.builtin "object.__class__")))
      (hn : PySem.W.specialIn K (.builtin "object.__class__") "__get__" = some (some (.builtin "getset_descriptor.__get__"))) (htk : PySem.W.takesIn K (.builtin "object.__class__") = some true)
      (hm : PySem.W.mroIn K C (.type "object") = some true) : TyOf K H (.ref a) (.ref C)
theorem isinst_ok {x : V} {u t : Value} (I : Inv X pins σ H s) (rx : RelV x u) (ty : TyOf X.K H x t) (e : PySem.W.kitOne X.K t c = some b) (h : ∀ tk, Q (.bool b) { s with toks := tk }) :
    wpAny (model X.prog X.w) A (call (.builtin "isinstance") [u, c]) Q E s := by
  cases ty with
  | non => cases (show u = Value.none from rx); exact PySem.W.kia_one PySem.W.kitx_none I.kIn True.intro e (fun z => nomatch z) h
  | bl y => cases (show u = Value.bool y from rx); exact PySem.W.kia_one PySem.W.kitx_bool I.kIn True.intro e (fun z => nomatch z) h
  | int i => obtain ⟨t, q⟩ := (show ∃ t, u = Value.int i t from rx); cases q; exact PySem.W.kia_one PySem.W.kitx_int I.kIn True.intro e (fun z => nomatch z) h
  | str y => obtain ⟨t, q⟩ := (show ∃ t, u = Value.str y t from rx); cases q; exact PySem.W.kia_one PySem.W.kitx_str I.kIn True.intro e (fun z => nomatch z) h
  | flt y => obtain ⟨t, q⟩ := (show ∃ t, u = Value.float y t from rx); cases q; exact PySem.W.kia_one PySem.W.kitx_float I.kIn True.intro e (fun z => nomatch z) h
  | @lst a xs ea =>
    cases (show u = Value.ref a from rx)
    obtain ⟨_, _, n, _, h1⟩ := (show ObjOk X.prog X.w H s.heap a (.lst xs) from I.hok a _ ea)
    exact PySem.W.kia_one PySem.W.kitx_list I.kIn ⟨_, h1, rfl⟩ e (fun z => nomatch z) h
  | @frz a ob xs ea =>
    cases (show u = Value.ref a from rx)
    obtain ⟨_, _, _, n, _, h1⟩ := (show ObjOk X.prog X.w H s.heap a (.frz ob (.lst xs)) from I.hok a _ ea)
    exact PySem.W.kia_one PySem.W.kitx_list I.kIn ⟨_, h1, rfl⟩ e (fun z => nomatch z) h
  | @tup a xs ea =>
    cases (show u = Value.ref a from rx)
    obtain ⟨_, _, _, p⟩ := (show ObjOk X.prog X.w H s.heap a (.tup xs) from I.hok a _ ea)
    obtain ⟨o, h1, h2, _⟩ := p
    exact PySem.W.kia_one PySem.W.kitx_tuple I.kIn ⟨o, h1, h2⟩ e (fun z => nomatch z) h
  | @dK a kvs ea =>
    cases (show u = Value.ref a from rx)
    obtain ⟨_, _, vs, _, p⟩ := (show ObjOk X.prog X.w H s.heap a (.dK kvs) from I.hok a _ ea)
    obtain ⟨o, es, ep, h1, h2, _⟩ := p
    exact PySem.W.kia_one PySem.W.kitx_dict I.kIn ⟨o, h1, h2.1⟩ e (fun z => nomatch z) h
  | @dT a kvs ea =>
    cases (show u = Value.ref a from rx)
    obtain ⟨_, _, xs, _, o, es, ep, h1, h2, _⟩ := (show ObjOk X.prog X.w H s.heap a (.dT kvs) from I.hok a _ ea)
    exact PySem.W.kia_one PySem.W.kitx_dict I.kIn ⟨o, h1, h2.1⟩ e (fun z => nomatch z) h
  | @ins a C dx fs ea cl ha hn htk hm =>
    cases (show u = Value.ref a from rx)
    obtain ⟨mA, O, _⟩ := ins_get I.hok ea
    obtain ⟨od, J, _⟩ := O.look
    exact PySem.W.kia_one (PySem.W.kitx_own (cl.get _) cl.hd ha hn htk hm) I.kIn J e (fun z => nomatch z) h
end
end L2
namespace L2
open PySem PySem.Spec PyProof.Rows
structure Room (k : Nat) (A : Around) : Prop where
  hd : A.handled = none
  dp : A.depth + 3 * k + 5 < recursionLimit
  un : A.units + 16 * k + 200 < cLine
theorem Room.mono {j k : Nat} {A : Around} (r : Room k A) (h : j ≤ k) : Room j A := ⟨r.hd, by have := r.dp; omega, by have := r.un; omega⟩
theorem Room.deeper {k : Nat} {A : Around} (r : Room (k + 1) A) (env : Env) : Room k (A.deeper env) :=
  ⟨r.hd, by have := r.dp; show A.depth + 1 + 3 * k + 5 < _; omega, by have := r.un; show A.units + 3 + 16 * k + 200 < _; omega⟩
theorem Room.in1 {k : Nat} {A : Around} (r : Room (k + 1) A) : Room k A.in1 :=
  ⟨r.hd, by have := r.dp; show A.depth + 3 * k + 5 < _; omega, by have := r.un; show A.units + 1 + 16 * k + 200 < _; omega⟩
theorem make_depth {A : Around} {C : Addr} {us : List Value} {kw : List (Str × Value)} : (A.under (.builtin "type.__call__" ⟨.ref C :: us, kw⟩)).depth = A.depth + 1 := by
  first | rfl | simp [Around.under, Code.weight, Code.isCreation, Code.isGuard, Code.isCaller, Code.frames, Code.isFrame, guardIds]
theorem make_units {A : Around} {C : Addr} {us : List Value} {kw : List (Str × Value)} : (A.under (.builtin "type.__call__" ⟨.ref C :: us, kw⟩)).units = A.units + 1 := by
  first | rfl | simp [Around.under, Code.cUnits, Code.frames, Code.isFrame]
theorem Room.make {k : Nat} {A : Around} (r : Room (k + 1) A) (C : Addr) (us : List Value) (kw : List (Str × Value)) : Room k (A.under (.builtin "type.__call__" ⟨.ref C :: us, kw⟩)) :=
  ⟨r.hd, by have := r.dp; rw [make_depth]; omega, by have := r.un; rw [make_units]; omega⟩
theorem Room.depth {k : Nat} {A : Around} (r : Room k A) : A.depth < recursionLimit := by have := r.dp; omega
theorem Room.units {k : Nat} {A : Around} (r : Room k A) : A.units + 64 < cLine := by have := r.un; omega
def tNil : TA := fun _ H Q => Q [] H
def tCons (ta : TE) (tr : TA) : TA := fun σ H Q => ta σ H fun x H1 => tr σ H1 fun xs H2 => Q (x :: xs) H2
section
variable {X : Cx} {e : Expr} {es : List Expr} {te : TE} {t : TA} {pos : Pos}
theorem pa_nil : PA X [] tNil := fun _ _ _ _ H Q I h => Calls.spliced_nil ⟨[], H, I, .nil, h⟩
theorem pa_cons (ha : PE X e te) (hr : PA X es t) (hs : starEach (e :: es) X.env = (false, eval e X.env) :: starEach es X.env := by rfl) : PA X (e :: es) (tCons te t) := by
  intro pos pins s σ H Q I h
  rw [hs]
  show wpAny _ _ (spliced ((false, eval e X.env) :: backTo pos (starEach es X.env))) _ _ s
  refine Calls.spliced_cons (thn (ha pins s σ H _ I h) fun u s1 ⟨x, H1, I1, r1, q1⟩ => ?_)
  exact thn (hr pos pins s1 σ H1 _ I1 q1) fun us s2 ⟨xs, H2, I2, r2, q2⟩ => ⟨x :: xs, H2, I2, .cons r1 r2, q2⟩
def tTup (t : TA) : TE := fun σ H Q => t σ H fun xs H1 => xs.length ≤ sizeLine ∧ ∀ p, H1 p = none → Q (.ref p) (upd H1 p (.tup xs))
def tLst (t : TA) : TE := fun σ H Q => t σ H fun xs H1 => xs.length ≤ sizeLine ∧ ∀ p, H1 p = none → Q (.ref p) (upd H1 p (.lst xs))
theorem pe_tup {x1} (h : PA X es t) : PE X (.Tuple es x1 pos) (tTup t) := by
  intro pins s σ H Q I hq
  refine wpAny_Tuple_spliced (thn (h pos pins s σ H _ I hq) fun us s1 ⟨xs, H1, I1, r, z, q⟩ => ⟨by rw [← r.length]; exact z, ?_⟩)
  have hf : H1 s1.heap.objs.size = none := I1.hok.fresh (Nat.le_refl _)
  refine ⟨.ref s1.heap.objs.size, upd H1 s1.heap.objs.size (.tup xs), I1.laid (t' := s1.toks) (fun b u e => Heap.get?_push_of_some _ e) (Nat.le_refl _) ?_, rfl, q _ hf⟩
  exact ⟨z, us, r, ⟨_, Heap.get?_push_size _ rfl, rfl, _, rfl⟩⟩
theorem pe_lst (h : PA X es t) : PE X (.List es pos) (tLst t) := by
  intro pins s σ H Q I hq
  refine wpAny_List_spliced (thn (h pos pins s σ H _ I hq) fun us s1 ⟨xs, H1, I1, r, z, q⟩ => ⟨by rw [← r.length]; exact z, ?_⟩)
  have hf : H1 s1.heap.objs.size = none := I1.hok.fresh (Nat.le_refl _)
  refine ⟨.ref s1.heap.objs.size, upd H1 s1.heap.objs.size (.lst xs), I1.laid (t' := s1.toks) (fun b u e => Heap.get?_push_of_some _ e) (Nat.le_refl _) ?_, rfl, q _ hf⟩
  exact ⟨z, us, 0, r, Heap.get?_push_size _ rfl⟩
end
abbrev Sp := List V → Hp → VK → XK → Prop
abbrev CXT := List Env → Hp → Shared → XK → Value → Shared → Prop
structure Env0 (P : Program) (w : World) (K : PySem.W.Frag) (mg : Str → Option Value) (base : Heap) (A : Around) (outer : List Env) (s : Shared) (H : Hp) : Prop where
  frames : A.frames = some outer
  mod : Mod K mg base
  bs : ∀ b o, base.get? b = some o → s.heap.get? b = some o ∧ H b = none
  bsz : base.objs.size ≤ s.heap.objs.size
  funs : s.heap.FunFrames base outer
  frf : ∀ b ∈ frs outer, H b = none
  hok : HOk P w H s.heap
  bare : AllBare s.gens
def CE (outer : List Env) (P : Program) (w : World) (H : Hp) (s : Shared) (Q : VK) (u : Value) (s' : Shared) : Prop :=
  ∃ v H', s'.os = s.os ∧ AllBare s'.gens ∧ Un (frs outer) [] H H' s.heap s'.heap ∧ HOk P w H' s'.heap ∧ RelV v u ∧ Q v H'
def CR (CX : CXT) (outer : List Env) (P : Program) (w : World) (H : Hp) (s : Shared) (Q : VK) (E : XK) (r : Result) (s' : Shared) : Prop :=
  match r with
  | .ok (.ret u) => CE outer P w H s Q u s'
  | .ok _ => False
  | .error e => CX outer H s E e s'
structure FnOk (P : Program) (w : World) (K : PySem.W.Frag) (mg : Str → Option Value) (base : Heap) (CX : CXT) (k : Nat) (f : Addr) (fd : FuncData) (ps : List Str) (sp : Sp) : Prop where
  len : ∀ vs H Q E, sp vs H Q E → vs.length = ps.length
  run : ∀ (A : Around) (outer : List Env) (s : Shared) (H : Hp) (args : Args) (us : List Value) (vs : List V) (Q : VK) (E : XK), Room k A → Env0 P w K mg base A outer s H → BindsTo s fd args (ps.zip us) → Vals vs us → sp vs H Q E →
    codeAny (model P w) A (.call (.ref f) args) (CR CX outer P w H s Q E) s
theorem FnOk.mono {P : Program} {w : World} {K : PySem.W.Frag} {mg : Str → Option Value} {base : Heap} {CX : CXT} {j k : Nat} {f : Addr} {fd : FuncData} {ps : List Str} {sp : Sp} (F : FnOk P w K mg base CX j f fd ps sp) (h : j ≤ k) :
    FnOk P w K mg base CX k f fd ps sp := ⟨F.len, fun A outer s H args us vs Q E hr => F.run A outer s H args us vs Q E (hr.mono h)⟩
theorem FnOk.imp {P : Program} {w : World} {K : PySem.W.Frag} {mg : Str → Option Value} {base : Heap} {CX : CXT} {k : Nat} {f : Addr} {fd : FuncData} {ps : List Str} {sp sp' : Sp} (F : FnOk P w K mg base CX k f fd ps sp)
    (h : ∀ vs H Q E, sp' vs H Q E → sp vs H Q E) : FnOk P w K mg base CX k f fd ps sp' :=
  ⟨fun vs H Q E q => F.len vs H Q E (h _ _ _ _ q), fun A outer s H args us vs Q E hr he hb hv hs => F.run A outer s H args us vs Q E hr he hb hv (h _ _ _ _ hs)⟩
theorem Env0.make {P : Program} {w : World} {K : PySem.W.Frag} {mg : Str → Option Value} {base : Heap} {A : Around} {outer : List Env} {s : Shared} {H : Hp} (e : Env0 P w K mg base A outer s H) (C : Addr) (us : List Value) (kw : List (Str × Value)) :
    Env0 P w K mg base (A.under (.builtin "type.__call__" ⟨.ref C :: us, kw⟩)) outer s H := ⟨by first | exact e.frames | (simpa [Around.under, Code.envs, Code.isFrame, pushEnvs] using e.frames), e.mod, e.bs, e.bsz, e.funs, e.frf, e.hok, e.bare⟩
theorem Env0.in1 {P : Program} {w : World} {K : PySem.W.Frag} {mg : Str → Option Value} {base : Heap} {A : Around} {outer : List Env} {s : Shared} {H : Hp} (e : Env0 P w K mg base A outer s H) :
    Env0 P w K mg base A.in1 outer s H := ⟨e.frames, e.mod, e.bs, e.bsz, e.funs, e.frf, e.hok, e.bare⟩
section
variable {X : Cx} {pins : List (Addr × Obj)} {σ : St} {H : Hp} {s s' : Shared}
theorem Inv.env0 (I : Inv X pins σ H s) : Env0 X.prog X.w X.K X.mg X.base X.A X.stack s H :=
  ⟨I.ok.frames, I.ok.mod, I.bs, Nat.le_trans I.ok.bsz I.sz, I.stack, I.stkFree, I.hok, I.bare⟩
theorem Inv.after {Q : VK} {u : Value} (I : Inv X pins σ H s) (h : CE X.stack X.prog X.w H s Q u s') : EP X pins σ Q u s' := by
  obtain ⟨v, H', os, bare, un, hok, r, q⟩ := h
  obtain ⟨hh, g, d, t, os'⟩ := s'
  obtain rfl : os' = s.os := os
  exact ⟨v, H', I.call (h' := hh) (g' := g) (d' := d) (t' := t) (ch := []) un hok bare (fun b z => absurd z (by simp)), r, q⟩
end
def tCall (sp : Sp) (dvs : List V) (E : XK) (t : TA) : TE := fun σ H Q => t σ H fun vs H1 => sp (vs ++ dvs) H1 Q E
def tMeth (C : Addr) (m : Str) (sp : Sp) (dvs : List V) (E : XK) (ta : TE) (t : TA) : TE := fun σ H Q => ta σ H fun x H1 => ∃ a dx fs, x = .ref a ∧ H1 a = some (.ins C dx fs) ∧ fs.lookup m = none ∧
  t σ H1 fun vs H2 => sp (x :: (vs ++ dvs)) H2 Q E
def tMake (C : Addr) (sp : Sp) (dvs : List V) (E : XK) (t : TA) : TE := fun σ H Q => t σ H fun vs H1 => ∀ x dx, H1 x = none → H1 dx = none → dx ≠ x →
  sp (.ref x :: (vs ++ dvs)) (upd (upd H1 dx (.own x)) x (.ins C dx [])) (fun v H2 => v = .non ∧ Q (.ref x) H2) E
def Binds (K : PySem.W.Frag) (fd : FuncData) (ps : List Str) (ds : List Value) : Prop :=
  ∀ (s : Shared) (us : List Value), K.In s.heap → (us ++ ds).length = ps.length → BindsTo s fd ⟨us, []⟩ (ps.zip (us ++ ds))
theorem Binds.all {K : PySem.W.Frag} {fd : FuncData} {ps : List Str} (h : ∀ us : List Value, us.length = ps.length → bindArgs fd ⟨us, []⟩ = pure (ps.zip us)) : Binds K fd ps [] := fun s us _ hl => by
  rw [List.append_nil] at hl ⊢
  exact .of_eq (h us hl)
def Passes (CX : CXT) (X : Cx) (E : XK) : Prop := ∀ (pins : List (Addr × Obj)) (σ : St) (H : Hp) (s : Shared) (e : Value) (s' : Shared), Inv X pins σ H s → CX X.stack H s E e s' → X.xe e s'
section
variable {X : Cx} {CX : CXT} {k : Nat} {f C : Addr} {fd : FuncData} {ps : List Str} {sp : Sp} {dvs : List V} {ds : List Value} {E : XK} {x m : Str} {p pos apos : Pos} {e o : Expr} {es : List Expr} {ta : TE} {t : TA}
theorem run_fn {pins : List (Addr × Obj)} {σ : St} {H : Hp} {s : Shared} {Q : VK} {us : List Value} {vs : List V} (F : FnOk X.prog X.w X.K X.mg X.base CX k f fd ps sp) (hr : Room k X.A) (hb : Binds X.K fd ps ds) (hd : Vals dvs ds) (hx : Passes CX X E)
    (I : Inv X pins σ H s) (r : Vals vs us) (h : sp (vs ++ dvs) H Q E) : wpAny (model X.prog X.w) X.A (call (.ref f) us) (EP X pins σ Q) X.xe s := by
  have r2 : Vals (vs ++ dvs) (us ++ ds) := r.append hd
  have hl : (us ++ ds).length = ps.length := by rw [← r2.length]; exact F.len _ _ _ _ h
  refine wpAny_call (codeAny_mono (F.run X.A X.stack s H ⟨us, []⟩ (us ++ ds) (vs ++ dvs) Q E hr I.env0 (hb s us I.kIn hl) r2 h) fun r s' hq => ?_)
  cases r with
  | error e => exact hx pins σ H s e s' I hq
  | ok fl =>
    cases fl with
    | ret u => exact I.after hq
    | next => exact False.elim hq
    | brk => exact False.elim hq
    | cont => exact False.elim hq
theorem pe_call (F : FnOk X.prog X.w X.K X.mg X.base CX k f fd ps sp) (hr : Room k X.A) (hg : Gl X x) (hm : X.mg x = some (.ref f)) (hk : PySem.W.keepIn X.K (.ref f) = true) (hb : Binds X.K fd ps ds) (hd : Vals dvs ds) (hx : Passes CX X E)
    (ha : PA X (e :: es) t) (hdb : (x == ("__debug__" : Str)) = false := by decide) (he : starEach (e :: es) X.env = (false, eval e X.env) :: starEach es X.env := by rfl) (hpl : (backTo pos (starEach es X.env)).any (·.1) = false := by rfl) :
    PE X (.Call (.Name x p) (e :: es) [] pos) (tCall sp dvs E t) := by
  intro pins s σ H Q I h
  refine wpAny_Call_Name_kw (ld_glob I hg hm ?_ hdb)
  refine PySem.W.callWith_K (h₀ := X.base) I.ok.mod.kin hk (thn (ha pos pins s σ H _ I h) fun us s1 ⟨vs, H1, I1, r, q⟩ => ⟨I1.kIn, ?_⟩) he hpl
  exact run_fn F hr hb hd hx I1 r q
structure Mk (K : PySem.W.Frag) (C f : Addr) : Prop where
  makes : PySem.W.makesIn K C = true
  init : PySem.W.findIn K (.ref C) "__init__" = some (some (.ref f))
  fn : PySem.W.isFn K (.ref f) = true
  kp : PySem.W.keepIn K (.ref C) = true
end
def PK (X : Cx) (kws : List Keyword) (t : TA) : Prop :=
  ∀ (pos : Pos) (pins : List (Addr × Obj)) (s : Shared) (σ : St) (H : Hp) (Q : List V → Hp → Prop), Inv X pins σ H s → t σ H Q → wpAny (model X.prog X.w) X.A (evalAll ((backToKw pos (keywordEach kws X.env)).map (·.2))) (AP X pins σ Q) X.xe s
section
variable {X : Cx} {CX : CXT} {k : Nat} {f C : Addr} {fd : FuncData} {ps ks : List Str} {sp : Sp} {E : XK} {x m : Str} {p pos apos kpos : Pos} {e o : Expr} {es : List Expr} {kws : List Keyword} {te ta : TE} {t tk : TA} {nm : Option Str}
structure KBinds (K : PySem.W.Frag) (fd : FuncData) (ps ks : List Str) (g : List Value → List Value → List Value) (gV : List V → List V → List V) : Prop where
  to : ∀ (s : Shared) (us ws : List Value), K.In s.heap → (g us ws).length = ps.length → BindsTo s fd ⟨us, ks.zip ws⟩ (ps.zip (g us ws))
  rel : ∀ {vs : List V} {us : List Value} {zs : List V} {ws : List Value}, Vals vs us → Vals zs ws → Vals (gV vs zs) (g us ws)
def tCallK (sp : Sp) (gV : List V → List V → List V) (E : XK) (t tk : TA) : TE := fun σ H Q => t σ H fun vs H1 => tk σ H1 fun zs H2 => sp (gV vs zs) H2 Q E
variable {g : List Value → List Value → List Value} {gV : List V → List V → List V}
end
structure FnScope (N P : List Str) (sc : Scope) : Prop where
  kind : sc.kind = .function
  co : sc.isCoroutine = false
  gen : sc.isGenerator = false
  nd : N.Nodup
  pre : N.take P.length = P
  par : ∀ x ∈ P, sc.names.lookup x = some .local ∨ sc.names.lookup x = some .cell
  nofree : ∀ y ∈ sc.names, y.2 ≠ .free
theorem bindL_out {kindOf : Str → Option NameKind} {x : Str} : ∀ {binds : List (Str × Value)} {m : Str → Option Value}, (∀ v, (x, v) ∉ binds) → bindL kindOf binds m x = m x
  | [], _, _ => rfl
  | (n, v) :: r, m, h => by
    unfold bindL
    rw [bindL_out fun w hw => h w (List.mem_cons_of_mem _ hw)]
    split
    · have : x ≠ n := by rintro rfl; exact h v List.mem_cons_self
      simp [this]
    · rfl
theorem bindC_out {kindOf : Str → Option NameKind} {x : Str} : ∀ {binds : List (Str × Value)} {m : Str → Option Value}, (∀ v, (x, v) ∉ binds) → bindC kindOf binds m x = m x
  | [], _, _ => rfl
  | (n, v) :: r, m, h => by
    unfold bindC
    rw [bindC_out fun w hw => h w (List.mem_cons_of_mem _ hw)]
    split
    · rfl
    · have : x ≠ n := by rintro rfl; exact h v List.mem_cons_self
      simp [this]
theorem bindL_get {kindOf : Str → Option NameKind} {x : Str} {v : Value} : ∀ {P : List Str} {vs : List Value} {i : Nat} {m : Str → Option Value}, P.Nodup → P[i]? = some x → vs[i]? = some v → kindOf x = some .local →
    bindL kindOf (P.zip vs) m x = some v
  | [], _, _, _, _, h, _, _ => by simp at h
  | _ :: _, [], _, _, _, _, h, _ => by simp at h
  | p :: P, w :: vs, 0, m, nd, h1, h2, hk => by
    simp at h1 h2; subst h1; subst h2
    show bindL kindOf ((p, w) :: P.zip vs) m p = _
    unfold bindL
    rw [bindL_out fun v hv => (List.nodup_cons.mp nd).1 (List.of_mem_zip hv).1, if_pos hk]
    simp
  | p :: P, w :: vs, i + 1, m, nd, h1, h2, hk => by
    show bindL kindOf ((p, w) :: P.zip vs) m x = _
    unfold bindL
    exact bindL_get (i := i) (List.nodup_cons.mp nd).2 (by simpa using h1) (by simpa using h2) hk
theorem bindC_get {kindOf : Str → Option NameKind} {x : Str} {v : Value} : ∀ {P : List Str} {vs : List Value} {i : Nat} {m : Str → Option Value}, P.Nodup → P[i]? = some x → vs[i]? = some v → kindOf x ≠ some .local →
    bindC kindOf (P.zip vs) m x = some v
  | [], _, _, _, _, h, _, _ => by simp at h
  | _ :: _, [], _, _, _, _, h, _ => by simp at h
  | p :: P, w :: vs, 0, m, nd, h1, h2, hk => by
    simp at h1 h2; subst h1; subst h2
    show bindC kindOf ((p, w) :: P.zip vs) m p = _
    unfold bindC
    rw [bindC_out fun v hv => (List.nodup_cons.mp nd).1 (List.of_mem_zip hv).1, if_neg hk]
    simp
  | p :: P, w :: vs, i + 1, m, nd, h1, h2, hk => by
    show bindC kindOf ((p, w) :: P.zip vs) m x = _
    unfold bindC
    exact bindC_get (i := i) (List.nodup_cons.mp nd).2 (by simpa using h1) (by simpa using h2) hk
def start (N : List Str) (vs : List V) : St := vs.map some ++ List.replicate (N.length - vs.length) none
def cxOf (CX : CXT) (P : Program) (w : World) (K : PySem.W.Frag) (mg : Str → Option Value) (base : Heap) (N : List Str) (qual : Str) (scope : Scope) (f : Addr) (cd : Value) (A : Around) (outer : List Env) (s : Shared) (H : Hp) (E : XK) : Cx where
  prog := P
  w := w
  K := K
  mg := mg
  base := base
  A := A.deeper (envOfC qual scope s.heap.objs.size f cd)
  N := N
  s₀ := s
  H₀ := H
  env := envOfC qual scope s.heap.objs.size f cd
  outer := outer
  stack := envOfC qual scope s.heap.objs.size f cd :: outer
  ex := []
  calm := true
  fn := fun _ => true
  pn := []
  xe := fun e s' => wpAny (model P w) (A.deeper (envOfC qual scope s.heap.objs.size f cd)) (leaving (envOfC qual scope s.heap.objs.size f cd) e) (fun _ s'' => CX outer H s E e s'') (fun e' s'' => CX outer H s E e' s'') s'
theorem cell_has {sc : Scope} {n : Nat} {x : Str} (h : sc.names.lookup x = some .cell) : ∃ c, (cellsFrom n sc.names []).lookup x = some c := by
  have q := PySem.W.cellsFrom_some sc.names n [] (.inl h)
  exact Option.isSome_iff_exists.mp q
theorem inv_start {CX : CXT} {P : Program} {w : World} {K : PySem.W.Frag} {mg : Str → Option Value} {base : Heap} {N ps : List Str} {qual : Str} {scope : Scope} {f : Addr} {cd : Value} {A : Around} {outer : List Env} {s s1 : Shared} {H : Hp} {E : XK} {us : List Value} {vs : List V}
    (S : FnScope N ps scope) (hd : A.handled = none) (e0 : Env0 P w K mg base A outer s H) (hl : vs.length = ps.length) (r : Vals vs us)
    (x : InCallC s s.heap.objs.size (bindL (envOfC qual scope s.heap.objs.size f cd).kindOf (ps.zip us) fun _ => none) (cellsFrom (s.heap.objs.size + 1) scope.names []) (bindC (envOfC qual scope s.heap.objs.size f cd).kindOf (ps.zip us) fun _ => none) s1) :
    Inv (cxOf CX P w K mg base N qual scope f cd A outer s H E) [] (start N vs) H s1 := by
  have hpl : ps.length ≤ N.length := by have := congrArg List.length S.pre; rw [List.length_take] at this; omega
  obtain ⟨h1, tk, rfl, hk⟩ := x.done
  have noA : ∀ b : Addr, b ∉ (cxOf CX P w K mg base N qual scope f cd A outer s H E).ex := fun b z => absurd (show b ∈ ([] : List Addr) from z) (by simp)
  refine ⟨⟨e0.mod, S.kind, rfl, rfl, Nat.le_refl _, fun y z c h1 h2 => ?_, fun y hy => ?_, fun y c _ h => ?_, fun _ => hd, Around.frames_deeper e0.frames, .inr ⟨rfl, rfl⟩, fun b z => absurd z (noA b), e0.bs, e0.bsz, fun b _ _ => noA b, fun b z => absurd z (noA b), e0.funs, e0.frf⟩,
    rfl, e0.bare, Un.kept hk, ⟨_, x.toInCall.ns, fun i y v h1 h2 h3 => ?_⟩, fun y c h => ⟨_, x.cell y c h⟩, e0.hok.fresh (Nat.le_refl _), fun y c h => ?_, fun p hp => absurd (show p ∈ ([] : List (Addr × Obj)) from hp) (by simp), e0.hok.kept hk, ?_⟩
  · exact name_of_addr x.apart (PySem.mem_of_lookup h1) (PySem.mem_of_lookup h2)
  · have hy : scope.names.lookup y = some .cell ∨ scope.names.lookup y = some .free := hy
    rcases hy with hy | hy
    · exact cell_has hy
    · exact absurd rfl (S.nofree _ (PySem.mem_of_lookup hy))
  · exact Nat.le_of_lt (x.above y c (PySem.mem_of_lookup h))
  · have hi : i < vs.length := by
      unfold start at h2
      by_cases hi : i < vs.length
      · exact hi
      · rw [List.getElem?_append_right (by simpa using hi)] at h2
        rw [List.getElem?_replicate] at h2
        split at h2 <;> cases h2
    have ha : vs[i]? = some v := by
      unfold start at h2
      rw [List.getElem?_append_left (by simpa using hi), List.getElem?_map] at h2
      cases e : vs[i]? with
      | none => rw [e] at h2; cases h2
      | some a => rw [e] at h2; cases h2; rfl
    obtain ⟨u, hu, rv⟩ := r.get ha
    have hp : ps[i]? = some y := by
      rw [← S.pre, List.getElem?_take_of_lt (by omega)]; exact h1
    have ndP : ps.Nodup := by rw [← S.pre]; exact S.nd.sublist (List.take_sublist _ _)
    refine ⟨u, rv, ?_⟩
    rcases S.par y (List.mem_of_getElem? hp) with k | k
    · exact .inl ⟨k, bindL_get ndP hp hu k⟩
    · obtain ⟨c, e⟩ := cell_has (n := s.heap.objs.size + 1) k
      refine .inr ⟨.inl k, c, e, ?_⟩
      have q := x.cell y c e
      rw [bindC_get ndP hp hu (by show scope.names.lookup y ≠ _; rw [k]; decide)] at q
      exact q
  · exact e0.hok.fresh (Nat.le_of_lt (x.above y c (PySem.mem_of_lookup h)))
  · unfold start
    show _ = N.length
    rw [List.length_append, List.length_map, List.length_replicate]
    omega
theorem fn_of {CX : CXT} {P : Program} {w : World} {K : PySem.W.Frag} {mg : Str → Option Value} {base : Heap} {k : Nat} {f : Addr} {name qual : Str} {params : Arguments} {body : List Stmt} {scope : Scope} {dV kV doc pm cdv ct oc : Value} {an od : Option Addr}
    {osl : Array (Option Value)} {N ps : List Str} {sp : Sp} (lk : K.lookup f = some ⟨oc, od, .func (PySem.W.fnOf name qual params body scope dV kV doc pm an cdv ct), osl⟩) (hcd : PySem.W.codeIn K cdv qual = true) (S : FnScope N ps scope)
    (len : ∀ vs H Q E, sp vs H Q E → vs.length = ps.length)
    (hbody : ∀ (A : Around) (outer : List Env) (s : Shared) (H : Hp) (vs : List V) (Q : VK) (E : XK), Room k (A.deeper (envOfC qual scope s.heap.objs.size f cdv)) → sp vs H Q E →
      ∃ t, PSs (cxOf CX P w K mg base N qual scope f cdv A outer s H E) body t ∧ t { nx := fun _ H' => Q .non H', rt := Q } (start N vs) H) :
    FnOk P w K mg base CX (k + 1) f (PySem.W.fnOf name qual params body scope dV kV doc pm an cdv ct) ps sp := by
  refine ⟨len, fun A outer s H args us vs Q E hr e0 hb r hsp => ?_⟩
  have hl := len _ _ _ _ hsp
  have KX : K.In s.heap := e0.mod.kin.keeps fun b o e => (e0.bs b o e).1
  have lim : s.heap.NoLimit := e0.mod.nolimit.keeps fun b o e => (e0.bs b o e).1
  have hkind : ∀ y ∈ ps.zip us, scope.names.lookup y.1 = some .local ∨ (scope.names.lookup y.1 = some .cell ∧ ((cellsFrom (s.heap.objs.size + 1) scope.names []).lookup y.1).isSome = true) := fun ⟨n, v⟩ hy => by
    rcases S.par n (List.of_mem_zip hy).1 with q | q
    · exact .inl q
    · exact .inr ⟨q, PySem.W.cellsFrom_some _ _ _ (.inl q)⟩
  refine codeAny_call_function hr.depth (KX _ _ lk) rfl S.co S.gen rfl (PySem.W.codeRec_of KX hcd) (hb _ _ _ _ ?_)
  refine wpAny_newFunctionEnv_cells S.kind hkind fun env he s1 x => ?_
  subst he
  refine ⟨lim.keeps x.toInCall.keep, codeAny_func ?_⟩
  obtain ⟨t, ht, hq⟩ := hbody A outer s H vs Q E (hr.deeper _) hsp
  have I : Inv (cxOf CX P w K mg base N qual scope f cdv A outer s H E) [] (start N vs) H s1 := inv_start S hr.hd e0 hl r x
  refine wpAny_mono (ht [] s1 (start N vs) H _ I hq) (fun fl s' hs => ?_) fun e s' hs => hs
  have fin : ∀ {σ' : St} {H' : Hp} {v : V} {u : Value}, Inv (cxOf CX P w K mg base N qual scope f cdv A outer s H E) [] σ' H' s' → RelV v u → Q v H' → CE outer P w H s Q u s' :=
    fun {σ' H' v u} J rv q => ⟨v, H', J.os, J.bare, J.base, J.hok, rv, q⟩
  cases fl with
  | ret u =>
    obtain ⟨v, σ', H', J, rv, q⟩ := hs
    exact fin J rv q
  | next =>
    obtain ⟨σ', H', J, q⟩ := hs
    exact fin (v := V.non) (u := Value.none) J rfl q
  | brk =>
    obtain ⟨_, _, _, q⟩ := hs
    exact False.elim q
  | cont =>
    obtain ⟨_, _, _, q⟩ := hs
    exact False.elim q
end L2
namespace L2
open PySem PySem.Spec PyProof.Rows
section
variable {X : Cx} {x : Str} {p pos : Pos} {e : Expr} {es : List Expr} {t : TA} {id T : String} {r : List V → Hp → VK → Prop}
def tCB (r : List V → Hp → VK → Prop) (t : TA) : TE := fun σ H Q => t σ H fun vs H1 => r vs H1 Q
theorem pe_callB (hc : CallR X (.builtin id) r) (hg : Gl X x) (hm : X.mg x = none) (hv : bootBuiltins x = some (.builtin id)) (ha : PA X (e :: es) t) (hn : x ≠ "__name__" := by decide) (hdb : (x == ("__debug__" : Str)) = false := by decide)
    (he : starEach (e :: es) X.env = (false, eval e X.env) :: starEach es X.env := by rfl) (hpl : (backTo pos (starEach es X.env)).any (·.1) = false := by rfl) : PE X (.Call (.Name x p) (e :: es) [] pos) (tCB r t) := by
  intro pins s σ H Q I h
  refine wpAny_Call_Name_kw (ld_blt I hg hm hv ?_ hn hdb)
  exact PyProof.Rows.callWith_builtin1 (thn (ha pos pins s σ H _ I h) fun us s1 ⟨vs, H1, I1, r1, q1⟩ => hc pins s1 σ H1 vs us Q I1 r1 q1) he hpl
theorem pe_callTy (hc : CallR X (.type T) r) (hg : Gl X x) (hm : X.mg x = none) (hv : bootBuiltins x = some (.type T)) (ha : PA X (e :: es) t) (hn : x ≠ "__name__" := by decide) (hdb : (x == ("__debug__" : Str)) = false := by decide)
    (he : starEach (e :: es) X.env = (false, eval e X.env) :: starEach es X.env := by rfl) (hpl : (backTo pos (starEach es X.env)).any (·.1) = false := by rfl) : PE X (.Call (.Name x p) (e :: es) [] pos) (tCB r t) := by
  intro pins s σ H Q I h
  refine wpAny_Call_Name_kw (ld_blt I hg hm hv ?_ hn hdb)
  exact PyProof.Rows.callWith_type1 (thn (ha pos pins s σ H _ I h) fun us s1 ⟨vs, H1, I1, r1, q1⟩ => hc pins s1 σ H1 vs us Q I1 r1 q1) he hpl
end
end L2
namespace HT
open PySem PyProof.Rows
def lexLt : List Int → List Int → Bool
  | [], [] => false
  | [], _ :: _ => true
  | _ :: _, [] => false
  | x :: xs, y :: ys => if x = y then lexLt xs ys else decide (x < y)
section
open PySem.SeqAt
open PySem.AutoSeq1 (wpAny_loadPart')
open PySem.MeetsSeq PySem.MeetsSeq2 PySem.MeetsSeq3
end
section
variable {prog : Program} {w : World} {A : Around} {E : Value → Shared → Prop} {s : Shared}
theorem cat_tup {t b : Addr} {vs ws : List Value} {Q : Value → Shared → Prop} (ht : IsTup s.heap t vs.toArray) (hb : IsTup s.heap b ws.toArray) (hv : vs ≠ [])
    (h1 : ws = [] → Q (.ref t) s) (h2 : ws ≠ [] → Q (.ref s.heap.objs.size) { s with heap := s.heap.push { cls := .type "tuple", data := .seq (vs ++ ws).toArray } })
    (hsz : vs.length + ws.length ≤ sizeLine) : wpAny (model prog w) A (binaryOp .Add (.ref t) (.ref b)) Q E s := by
  obtain ⟨⟨cls, dd, data, sl⟩, ho, hc, n, hd⟩ := id ht
  obtain ⟨⟨cls2, dd2, data2, sl2⟩, ho2, hc2, n2, hd2⟩ := id hb
  simp only at hc hd hc2 hd2
  subst hc hd hc2 hd2
  have e : vs.toArray ++ ws.toArray = (vs ++ ws).toArray := by simp
  by_cases hw : ws = []
  · exact concat_meets ⟨_, ho, rfl⟩ ⟨_, ho2, rfl⟩ noFill_tuple_add seq_tuple_add PySem.F.slot_tuple_add PySem.F.entry_tuple_add (PySem.F.args_tuple_add_2 _ _)
      (tuple_addW1 t b vs.toArray ws.toArray n n2 dd dd2 sl sl2 (by simpa using hv) (by simp [hw])) ⟨ho, ho2, h1 hw⟩
  · refine concat_meets ⟨_, ho, rfl⟩ ⟨_, ho2, rfl⟩ noFill_tuple_add seq_tuple_add PySem.F.slot_tuple_add PySem.F.entry_tuple_add (PySem.F.args_tuple_add_2 _ _)
      (tuple_addW2 t b vs.toArray ws.toArray n n2 dd dd2 sl sl2 (by simpa using hv) (by simpa using hw) (by rw [List.size_toArray, List.size_toArray]; exact hsz)) ⟨ho, ho2, ?_⟩
    rw [e]
    exact h2 hw
def sIx (n d : Nat) : Option Int → Nat
  | none => d
  | some v => if v < 0 then (v + (n : Int)).toNat else min v.toNat n
theorem sIx_le (n d : Nat) (hd : d ≤ n) (o : Option Int) : sIx n d o ≤ n := by
  cases o with
  | none => exact hd
  | some v =>
    show (if v < 0 then (v + (n : Int)).toNat else min v.toNat n) ≤ n
    by_cases hv : v < 0
    · rw [if_pos hv]; omega
    · rw [if_neg hv]; exact Nat.min_le_right _ _
theorem clip_eq (v : Int) (n d : Nat) : (if v < 0 then max (v + (n : Int)) 0 else min v (n : Int)) = ((sIx n d (some v) : Nat) : Int) := by
  show (if v < 0 then max (v + (n : Int)) 0 else min v (n : Int)) = (((if v < 0 then (v + (n : Int)).toNat else min v.toNat n) : Nat) : Int)
  by_cases hv : v < 0
  · simp only [if_pos hv]; omega
  · simp only [if_neg hv]; omega
theorem adjust_gen (lo hi : Option Int) (n : Nat) : Builtin.Slice.sliceAdjust lo hi 1 (n : Int) = (((sIx n 0 lo : Nat) : Int), ((sIx n n hi : Nat) : Int)) := by
  have h1 : ¬ ((1 : Int) < 0) := by omega
  unfold Builtin.Slice.sliceAdjust
  simp only [h1, if_false]
  refine Prod.ext ?_ ?_
  · cases lo with
    | none => rfl
    | some v => exact clip_eq v n 0
  · cases hi with
    | none => rfl
    | some v => exact clip_eq v n n
theorem places_gen (i j : Nat) : Builtin.Slice.slicePlaces (i : Int) (j : Int) 1 = j - i := by
  unfold Builtin.Slice.slicePlaces
  have h1 : (1 : Int) > 0 := by omega
  simp only [h1, if_true, Int.ediv_one]
  split <;> omega
theorem slicePart_ {v : Value} {o : Option Int} {Q : Option Int → Shared → Prop} (p : IsPart v o) (h : Q o s) : wpAny (model prog w) A (Builtin.Slice.slicePartIndex v) Q E s := by
  cases p with
  | none => exact slicePart_none h
  | int i t => exact slicePart_int h
theorem sliceApplied_gen {sl : Addr} {vl vu : Value} {lo hi : Option Int} {n : Nat} {Q : Int × Int × Nat → Shared → Prop} (hs : s.heap.IsSliceOf sl vl vu .none) (pl : IsPart vl lo) (pu : IsPart vu hi)
    (h : Q (((sIx n 0 lo : Nat) : Int), 1, sIx n n hi - sIx n 0 lo) s) : wpAny (model prog w) A (Builtin.Slice.sliceApplied (.ref sl) (pure (n : Int))) Q E s := by
  obtain ⟨os, hos, hcs, hds⟩ := id hs
  unfold Builtin.Slice.sliceApplied Builtin.Slice.sliceFields
  refine wpAny_bind (wpAny_bind (wpAny_field hos hds (x := vl) rfl (wpAny_bind (wpAny_field hos hds (x := vu) rfl (wpAny_bind (wpAny_field hos hds (x := .none) rfl (wpAny_pure ?_)))))))
  refine wpAny_bind (slicePart_none ?_)
  show wpAny _ _ (if ((1 : Int) == 0) = true then _ else _) _ _ s
  rw [if_neg (by decide)]
  refine wpAny_bind (slicePart_ pl (wpAny_bind (slicePart_ pu (wpAny_bind (wpAny_pure ?_)))))
  show wpAny _ _ (match Builtin.Slice.sliceAdjust lo hi 1 (n : Int) with | (lo, hi) => pure (lo, (1 : Int), Builtin.Slice.slicePlaces lo hi 1)) _ _ s
  rw [adjust_gen lo hi n]
  show wpAny _ _ (pure (((sIx n 0 lo : Nat) : Int), (1 : Int), Builtin.Slice.slicePlaces ((sIx n 0 lo : Nat) : Int) ((sIx n n hi : Nat) : Int) 1)) _ _ s
  rw [places_gen]
  exact wpAny_pure h
theorem pick_gen (xs : Array Value) (i k : Nat) : ((List.range k).filterMap fun (m : Nat) => xs[((i : Int) + (m : Int) * 1).toNat]?).toArray = ((xs.toList.drop i).take k).toArray := by
  have e : (fun (m : Nat) => xs[((i : Int) + (m : Int) * 1).toNat]?) = fun m => xs[i + m]? := by
    funext m
    have : ((i : Int) + (m : Int) * 1).toNat = i + m := by omega
    rw [this]
  rw [e]
  have := pick_run xs i k
  rw [List.filterMap_map] at this
  have e2 : ((fun x => xs[x]?) ∘ fun x => i + x) = fun m => xs[i + m]? := rfl
  rw [e2] at this
  rw [this]
theorem getItem_tuple_cut {t sl : Addr} {items : Array Value} {vl vu : Value} {lo hi : Option Int} {Q : Value → Shared → Prop} (ht : IsTup s.heap t items) (hs : s.heap.IsSliceOf sl vl vu .none) (pl : IsPart vl lo) (pu : IsPart vu hi)
    (hw : ¬ (sIx items.size 0 lo = 0 ∧ sIx items.size items.size hi = items.size))
    (h : Q (.ref s.heap.objs.size) { s with heap := s.heap.push { cls := .type "tuple", data := .seq ((items.toList.drop (sIx items.size 0 lo)).take (sIx items.size items.size hi - sIx items.size 0 lo)).toArray } })
    (hsz : items.size ≤ sizeLine) : wpAny (model prog w) A (getItem (.ref t) (.ref sl)) Q E s := by
  have htake : sizeOk (.seq ((items.toList.drop (sIx items.size 0 lo)).take (sIx items.size items.size hi - sIx items.size 0 lo)).toArray) := by
    show ((items.toList.drop (sIx items.size 0 lo)).take (sIx items.size items.size hi - sIx items.size 0 lo)).toArray.size ≤ sizeLine
    rw [List.size_toArray, List.length_take, List.length_drop, Array.length_toList]
    omega
  have hj : sIx items.size items.size hi ≤ items.size := sIx_le _ _ (Nat.le_refl _) hi
  obtain ⟨os, hos, hcs, hds⟩ := id hs
  have hTs : s.TypeIs (.ref sl) "slice" := ⟨os, hos, hcs⟩
  unfold getItem
  try with_reducible refine wpAny_holding ?_
  first | refine wpAny_bind (wpAny_pure ?_) | skip
  refine wpAny_bind (wpAny_sequenceKey ht.typeIs (by decide) ?_)
  refine wpAny_bind (wpAny_callSpecial?_slot (name := Str.ofString "__getitem__") ht.typeIs PyProof.Rows.slot_tuple_getitem
    (wpAny_call_entry PyProof.Rows.slot_tuple_getitem ht.typeIs entry_tuple_getitem ?_ (args_tuple_getitem _ _)))
  show wpAny _ _ (Builtin.Tuple.tupleItemsOf (.ref t) >>= _) _ _ s
  refine wpAny_bind (tupleItemsOf_ ht ?_)
  refine wpAny_bind (wpAny_typeOf hTs ?_)
  rw [if_pos (by decide)]
  refine wpAny_bind (sliceApplied_gen hs pl pu ?_)
  have hno : ¬ ((((sIx items.size 0 lo : Nat) : Int) == 0 && (1 : Int) == 1 && (sIx items.size items.size hi - sIx items.size 0 lo) == items.size) = true) := by
    intro q
    rw [Bool.and_eq_true, Bool.and_eq_true] at q
    have q1 : ((sIx items.size 0 lo : Nat) : Int) = 0 := eq_of_beq q.1.1
    have q2 : sIx items.size items.size hi - sIx items.size 0 lo = items.size := eq_of_beq q.2
    exact hw ⟨by omega, by omega⟩
  show wpAny _ _ (if (((sIx items.size 0 lo : Nat) : Int) == 0 && (1 : Int) == 1 && (sIx items.size items.size hi - sIx items.size 0 lo) == items.size) = true then _ else _) _ _ s
  rw [if_neg hno, pick_gen]
  first
    | exact wpAny_bind (m := Builtin.Tuple.tupleExact _) (wpAny_newObj_type (wpAny_pure ⟨_, rfl, wpAny_pure h⟩) htake)
    | exact wpAny_bind (m := Builtin.Tuple.tupleExact _) (wpAny_newObj_type (wpAny_bind (wpAny_pure (wpAny_pure ⟨_, rfl, wpAny_pure h⟩))) htake)
    | exact wpAny_bind (wpAny_bind (m := Builtin.Tuple.tupleExact _) (wpAny_newObj_type (wpAny_pure (wpAny_pure ⟨_, rfl, wpAny_pure h⟩)) htake))
    | exact wpAny_bind (wpAny_bind (m := Builtin.Tuple.tupleExact _) (wpAny_newObj_type (wpAny_pure ⟨_, rfl, wpAny_pure h⟩) htake))
end
end HT
namespace L2
open PySem PySem.Spec PyProof.Rows
abbrev TO := St → Hp → (Option Int → Hp → Prop) → Prop
def PO (X : Cx) (e : Option Expr) (t : TO) : Prop :=
  ∀ (pins : List (Addr × Obj)) (s : Shared) (σ : St) (H : Hp) (Q : Option Int → Hp → Prop), Inv X pins σ H s → t σ H Q →
    wpAny (model X.prog X.w) X.A (evalPart e X.env) (fun u s' => ∃ o H', Inv X pins σ H' s' ∧ IsPart u o ∧ Q o H') X.xe s
def tNoPart : TO := fun _ H Q => Q none H
def tPart (t : TE) : TO := fun σ H Q => t σ H fun x H1 => ∃ i, x = .int i ∧ Q (some i) H1
section
variable {X : Cx} {e : Expr} {te : TE} {lo hi : Option Expr} {tl th : TO} {pos p2 : Pos}
theorem po_none : PO X none tNoPart := by
  intro pins s σ H Q I h
  rw [evalPart_none]
  exact wpAny_pure ⟨none, H, I, .none, h⟩
theorem po_some (h : PE X e te) : PO X (some e) (tPart te) := by
  intro pins s σ H Q I hw
  rw [evalPart_some]
  refine thn (h pins s σ H _ I hw) fun u s1 ⟨x, H1, I1, r1, q1⟩ => ?_
  obtain ⟨i, rfl, q⟩ := q1
  obtain ⟨t, rfl⟩ := r1
  exact ⟨some i, H1, I1, .int i t, q⟩
def SlR (X : Cx) (r : V → Option Int → Option Int → Hp → VK → Prop) : Prop :=
  ∀ (pins : List (Addr × Obj)) (s : Shared) (σ : St) (H : Hp) (x : V) (v vl vu : Value) (lo hi : Option Int) (sl : Addr) (Q : VK), Inv X pins σ H s → RelV x v → s.heap.IsSliceOf sl vl vu .none → IsPart vl lo → IsPart vu hi → r x lo hi H Q →
    ∃ T id, typeLookup (.type T) "__getitem__" = pure (some (.builtin id)) ∧ s.TypeIs v T ∧ wpAny (model X.prog X.w) X.A (getItem v (.ref sl)) (EP X pins σ Q) X.xe s
theorem SlR.or {r r' : V → Option Int → Option Int → Hp → VK → Prop} (h : SlR X r) (h' : SlR X r') : SlR X (fun x lo hi H Q => r x lo hi H Q ∨ r' x lo hi H Q) := by
  intro pins s σ H x v vl vu lo hi sl Q I rx hs pl pu q
  rcases q with q | q
  · exact h pins s σ H x v vl vu lo hi sl Q I rx hs pl pu q
  · exact h' pins s σ H x v vl vu lo hi sl Q I rx hs pl pu q
def tSl (r : V → Option Int → Option Int → Hp → VK → Prop) (te : TE) (tl th : TO) : TE := fun σ H Q => te σ H fun x H1 => tl σ H1 fun l H2 => th σ H2 fun u H3 => r x l u H3 Q
theorem pe_slice {r : V → Option Int → Option Int → Hp → VK → Prop} (hr : SlR X r) (he : PE X e te) (hl : PO X lo tl) (hu : PO X hi th) : PE X (.Subscript e (.Slice lo hi none p2) pos) (tSl r te tl th) := by
  intro pins s σ H Q I h
  refine Subscript_ (thn (he pins s σ H _ I h) fun v s1 ⟨x, H1, I1, r1, q1⟩ => ?_)
  refine wpAny_Slice (thn (hl pins s1 σ H1 _ I1 q1) fun vl s2 ⟨l, H2, I2, pl, q2⟩ => thn (hu pins s2 σ H2 _ I2 q2) fun vu s3 ⟨u, H3, I3, pu, q3⟩ => ?_)
  rw [evalPart_none]
  refine wpAny_pure ?_
  have I4 : Inv X pins σ H3 { s3 with heap := s3.heap.push { cls := .type "slice", data := .fields #[vl, vu, .none] } } := I3.kept (t' := s3.toks) fun b ob q => Heap.get?_push_of_some _ q
  obtain ⟨T, id, hT, ht, hg⟩ := hr pins { s3 with heap := s3.heap.push { cls := .type "slice", data := .fields #[vl, vu, .none] } } σ H3 x v vl vu l u s3.heap.objs.size Q I4 r1 (Heap.IsSliceOf.new ..) pl pu q3
  show wpAny (model X.prog X.w) X.A (subscriptTail e (.Slice lo hi none p2) v (.ref s3.heap.objs.size)) (EP X pins σ Q) X.xe { s3 with heap := s3.heap.push { cls := .type "slice", data := .fields #[vl, vu, .none] } }
  exact tail_any (ops := [.ref s3.heap.objs.size, v]) ht hT hg (by with_unfolding_all rfl)
def cutV (xs : List V) (lo hi : Option Int) : List V := (xs.drop (HT.sIx xs.length 0 lo)).take (HT.sIx xs.length xs.length hi - HT.sIx xs.length 0 lo)
theorem cutV_length (xs : List V) (lo hi : Option Int) : (cutV xs lo hi).length ≤ xs.length := by
  unfold cutV
  rw [List.length_take, List.length_drop]
  omega
def rSlT (K : PySem.W.Frag) : V → Option Int → Option Int → Hp → VK → Prop := fun x lo hi H Q => ∃ a xs, x = .ref a ∧ SqT K H a xs ∧
  ¬ (HT.sIx xs.length 0 lo = 0 ∧ HT.sIx xs.length xs.length hi = xs.length) ∧ ∀ p, H p = none → Q (.ref p) (upd H p (.tup (cutV xs lo hi)))
theorem sl_tup : SlR X (rSlT X.K) := by
  intro pins s σ H x v vl vu lo hi sl Q I rx hs pl pu h
  obtain ⟨a, xs, rfl, hx, hw, q⟩ := h
  cases rx
  obtain ⟨its, r, ht, hz⟩ := I.tuple hx
  have hlen : its.toArray.size = xs.length := by rw [List.size_toArray]; exact r.length.symm
  refine ⟨"tuple", _, PyProof.Rows.slot_tuple_getitem.lookup, ht.typeIs, ?_⟩
  refine HT.getItem_tuple_cut ht hs pl pu (by rw [hlen]; exact hw) ?_ (by rw [hlen]; exact hz)
  rw [hlen]
  refine ⟨.ref s.heap.objs.size, _, I.laid (t' := s.toks) (o := .tup (cutV xs lo hi)) (fun b ob q => Heap.get?_push_of_some _ q) (Nat.le_refl _) ?_, rfl, q _ (I.hok.fresh (Nat.le_refl _))⟩
  exact ⟨Nat.le_trans (cutV_length xs lo hi) hz, _, (r.drop (HT.sIx xs.length 0 lo)).take (HT.sIx xs.length xs.length hi - HT.sIx xs.length 0 lo), IsTup.new _ _⟩
def rLtT (K : PySem.W.Frag) : R2 := fun x y H Q => ∃ a b ns ms, x = .ref a ∧ y = .ref b ∧ SqT K H a (ns.map V.int) ∧ SqT K H b (ms.map V.int) ∧ Q (.bl (HT.lexLt ns ms)) H
def rCatT (K : PySem.W.Frag) : R2 := fun x y H Q => ∃ a b xs ys, x = .ref a ∧ y = .ref b ∧ SqT K H a xs ∧ SqT K H b ys ∧ xs ≠ [] ∧ xs.length + ys.length ≤ sizeLine ∧
  (ys = [] → Q (.ref a) H) ∧ (ys ≠ [] → ∀ p, H p = none → Q (.ref p) (upd H p (.tup (xs ++ ys))))
theorem Vals.nil_iff {xs : List V} {us : List Value} (r : Vals xs us) : us = [] ↔ xs = [] := by
  cases r with
  | nil => simp
  | cons _ _ => simp
theorem op_catT : OpR X (binaryOp .Add) (rCatT X.K) := by
  intro pins s σ H x y v u Q I rx ry h
  obtain ⟨a, b, xs, ys, rfl, rfl, ha, hb, hx, hz, q1, q2⟩ := h
  cases rx
  cases ry
  obtain ⟨its, r1, p1, _⟩ := I.tuple ha
  obtain ⟨its2, r2, p2, _⟩ := I.tuple hb
  refine HT.cat_tup p1 p2 (fun z => hx (r1.nil_iff.mp z)) (fun z => ⟨.ref a, H, I, rfl, q1 (r2.nil_iff.mp z)⟩) (fun z => ?_) (by rw [← r1.length, ← r2.length]; exact hz)
  refine ⟨.ref s.heap.objs.size, _, I.laid (t' := s.toks) (o := .tup (xs ++ ys)) (fun b ob q => Heap.get?_push_of_some _ q) (Nat.le_refl _) ?_, rfl, q2 (fun w => z (r2.nil_iff.mpr w)) _ (I.hok.fresh (Nat.le_refl _))⟩
  exact ⟨by rw [List.length_append]; exact hz, _, r1.append r2, IsTup.new _ _⟩
end
end L2
namespace L2
open PySem PySem.Spec PyProof.Rows
def ixN (n : Nat) (i : Int) : Option Nat := if 0 ≤ i then (if i < n then some i.toNat else none) else if -(n : Int) ≤ i then some (i + n).toNat else none
def atI {α : Type} (xs : List α) (i : Int) : Option α := (ixN xs.length i).bind fun j => xs[j]?
theorem ixN_seq {n : Nat} {i : Int} {j : Nat} (h : ixN n i = some j) : seqIndex? i n = some j ∧ j < n ∧ -(n : Int) ≤ i ∧ i < n := by
  unfold ixN at h
  by_cases h0 : 0 ≤ i
  · rw [if_pos h0] at h
    by_cases h1 : i < n
    · rw [if_pos h1] at h
      have e : i.toNat = j := Option.some.inj h
      exact ⟨by rw [seqIndex_of h0 h1, e], by omega, by omega, h1⟩
    · rw [if_neg h1] at h; cases h
  · rw [if_neg h0] at h
    by_cases h1 : -(n : Int) ≤ i
    · rw [if_pos h1] at h
      have e : (i + n).toNat = j := Option.some.inj h
      exact ⟨by rw [seqIndex_neg (by omega) h1, e], by omega, h1, by omega⟩
    · rw [if_neg h1] at h; cases h
theorem atI_get {α : Type} {xs : List α} {i : Int} {v : α} (h : atI xs i = some v) : ∃ j, seqIndex? i xs.length = some j ∧ xs[j]? = some v ∧ j < xs.length ∧ -(xs.length : Int) ≤ i ∧ i < xs.length := by
  unfold atI at h
  cases e : ixN xs.length i with
  | none => rw [e] at h; cases h
  | some j =>
    rw [e] at h
    obtain ⟨h1, h2, h3, h4⟩ := ixN_seq e
    exact ⟨j, h1, h, h2, h3, h4⟩
theorem atI_nat {α : Type} {xs : List α} {j : Nat} {v : α} (h : xs[j]? = some v) : atI xs (j : Int) = some v := by
  have hj : j < xs.length := (List.getElem?_eq_some_iff.mp h).1
  have e : ixN xs.length (j : Int) = some j := by
    unfold ixN
    rw [if_pos (by omega), if_pos (by omega)]; simp
  unfold atI; rw [e]; exact h
theorem atI_last {α : Type} (xs : List α) (v : α) : atI (xs ++ [v]) (-1) = some v := by
  have hl : (xs ++ [v]).length = xs.length + 1 := by simp
  have e : ixN (xs ++ [v]).length (-1) = some xs.length := by
    unfold ixN
    rw [hl, if_neg (by decide), if_pos (by omega)]
    congr 1
    omega
  unfold atI
  rw [e]
  show (xs ++ [v])[xs.length]? = some v
  simp
def PlainIx (b : Expr) : Prop := ∀ o i, subscripted b false o i = operate [o, i] (getItem o i)
def IxR (X : Cx) (r : R2) : Prop :=
  ∀ (value slice : Expr) (pins : List (Addr × Obj)) (s : Shared) (σ : St) (H : Hp) (x y : V) (v u : Value) (Q : VK), Inv X pins σ H s → RelV x v → RelV y u → r x y H Q →
    subscripted slice false v u = operate [v, u] (getItem v u) → wpAny (model X.prog X.w) X.A (subscriptTail value slice v u) (EP X pins σ Q) X.xe s
def MtR (X : Cx) (id : String) (r : V → List V → Hp → VK → Prop) : Prop :=
  ∀ (pins : List (Addr × Obj)) (s : Shared) (σ : St) (H : Hp) (x : V) (xs : List V) (v : Value) (us : List Value) (Q : VK), Inv X pins σ H s → RelV x v → Vals xs us → r x xs H Q →
    wpAny (model X.prog X.w) X.A (call (.builtin id) (v :: us)) (EP X pins σ Q) X.xe s
section
variable {X : Cx} {a b : Expr} {ta tb : TE} {pos : Pos}
theorem IxR.or {r r' : R2} (h : IxR X r) (h' : IxR X r') : IxR X (fun x y H Q => r x y H Q ∨ r' x y H Q) := by
  intro value slice pins s σ H x y v u Q I rx ry q hs
  rcases q with q | q
  · exact h value slice pins s σ H x y v u Q I rx ry q hs
  · exact h' value slice pins s σ H x y v u Q I rx ry q hs
theorem MtR.or {id : String} {r r' : V → List V → Hp → VK → Prop} (h : MtR X id r) (h' : MtR X id r') : MtR X id (fun x xs H Q => r x xs H Q ∨ r' x xs H Q) := by
  intro pins s σ H x xs v us Q I rx rs q
  rcases q with q | q
  · exact h pins s σ H x xs v us Q I rx rs q
  · exact h' pins s σ H x xs v us Q I rx rs q
theorem pe_ix {r : R2} (hr : IxR X r) (ha : PE X a ta) (hb : PE X b tb) (hs : PlainIx b) : PE X (.Subscript a b pos) (tOp r ta tb) := by
  intro pins s σ H Q I h
  exact Subscript_ (binT ha hb I h fun v u s2 x y H2 I2 rx ry q => hr a b pins s2 σ H2 x y v u Q I2 rx ry q (hs _ _))
def rIxL (K : PySem.W.Frag) : R2 := fun x y H Q => ∃ p xs i v, x = .ref p ∧ y = .int i ∧ SqL K H p xs ∧ atI xs i = some v ∧ Q v H
def rIxT (K : PySem.W.Frag) : R2 := fun x y H Q => ∃ p xs i v, x = .ref p ∧ y = .int i ∧ SqT K H p xs ∧ atI xs i = some v ∧ Q v H
def rIxS : R2 := fun x y H Q => ∃ z i c, x = .str z ∧ y = .int i ∧ z.length ≤ sizeLine ∧ atI z.cps.toList i = some c ∧ Q (.str ⟨#[c]⟩) H
theorem ix_list : IxR X (rIxL X.K) := by
  intro value slice pins s σ H x y v u Q I rx ry h hs
  obtain ⟨p, xs, i, z, rfl, rfl, hq, he, q⟩ := h
  cases rx
  obtain ⟨t, rfl⟩ := ry
  obtain ⟨its, r, pl, hz⟩ := I.list hq
  obtain ⟨j, h1, h2, h3, h4, h5⟩ := atI_get he
  obtain ⟨w, ew, rw'⟩ := r.get h2
  have hl := r.length
  have hn := line63
  have fin : EP X pins σ Q w s := ⟨z, H, I, rw', q⟩
  by_cases h0 : 0 ≤ i
  · have hj : i.toNat = j := by
      rw [seqIndex_of h0 h5] at h1
      exact Option.some.inj h1
    exact item_listR pl.isList h0 (by omega) (by rw [hj]; simpa using ew) fin hs
  · have hj : (i + (its.toArray.size : Int)).toNat = j := by
      rw [seqIndex_neg (by omega) h4] at h1
      rw [List.size_toArray, ← hl]
      exact Option.some.inj h1
    exact subscriptTail_builtinR (x := w) pl.isList.typeIs slot_list_getitem.lookup
      (wpAny_getItem_list_neg (Q := fun r s' => r = w ∧ EP X pins σ Q r s') pl.isList (by omega) (by rw [List.size_toArray] <;> omega) (by omega) (by rw [hj]; simpa using ew) ⟨rfl, fin⟩) hs
theorem ix_tup : IxR X (rIxT X.K) := by
  intro value slice pins s σ H x y v u Q I rx ry h hs
  obtain ⟨p, xs, i, z, rfl, rfl, hq, he, q⟩ := h
  cases rx
  obtain ⟨t, rfl⟩ := ry
  obtain ⟨its, r, pl, hz⟩ := I.tuple hq
  obtain ⟨j, h1, h2, h3, h4, h5⟩ := atI_get he
  obtain ⟨w, ew, rw'⟩ := r.get h2
  have hl := r.length
  have hn := line63
  have fin : EP X pins σ Q w s := ⟨z, H, I, rw', q⟩
  exact subscriptTail_builtinR (x := w) pl.typeIs slot_tuple_getitem.lookup
    (getItem_tuple (j := j) (Q := fun r s' => r = w ∧ EP X pins σ Q r s') pl (by omega) (by omega) (by rw [List.size_toArray, ← hl]; exact h1) (by simpa using ew) ⟨rfl, fin⟩) hs
theorem ix_str : IxR X rIxS := by
  intro value slice pins s σ H x y v u Q I rx ry h hs
  obtain ⟨z, i, c, rfl, rfl, hz, he, q⟩ := h
  obtain ⟨t, rfl⟩ := rx
  obtain ⟨t', rfl⟩ := ry
  obtain ⟨j, h1, h2, h3, h4, h5⟩ := atI_get he
  have hl : z.cps.toList.length = z.length := by simp [Str.length]
  rw [hl] at h1 h4 h5
  have hn := line63
  exact tail_any (typeIs_str s z t) slot_str_getitem.lookup (getItem_str (c := c) (by
    have e1 : decide (i < -(2 ^ 63 : Int)) = false := decide_eq_false (by omega)
    have e2 : decide (i ≥ 2 ^ 63) = false := decide_eq_false (by omega)
    rw [e1, e2, Bool.or_false]) (by rw [h1]; simpa using h2) ⟨.str ⟨#[c]⟩, H, I.tok _, ⟨_, rfl⟩, q⟩) hs
def rIx (K : PySem.W.Frag) : R2 := fun x y H Q => rIxL K x y H Q ∨ rIxT K x y H Q ∨ rIxS x y H Q
theorem ix_seq : IxR X (rIx X.K) := ix_list.or (ix_tup.or ix_str)
theorem mapSeq_set (its : List Value) (n j : Nat) (u : Value) : Obj.mapSeq (·.setIfInBounds j u) { cls := .type "list", data := .seq its.toArray n } = { cls := .type "list", data := .seq (its.set j u).toArray n } := by
  simp [Obj.mapSeq]
theorem Inv.lst {pins : List (Addr × Obj)} {σ : St} {H : Hp} {s : Shared} {p : Addr} {xs : List V} (I : Inv X pins σ H s) (h : H p = some (.lst xs)) :
    ∃ (its : List Value) (n : Nat), Vals xs its ∧ s.heap.get? p = some { cls := .type "list", data := .seq its.toArray n } ∧ xs.length ≤ sizeLine := by
  obtain ⟨z, its, n, r, e⟩ := I.hok p _ h
  exact ⟨its, n, r, e, z⟩
theorem Inv.lstUpd {pins : List (Addr × Obj)} {σ : St} {H : Hp} {s : Shared} {p : Addr} {xs ys : List V} {its its' : List Value} {n n' : Nat} {f : Obj → Obj} (I : Inv X pins σ H s) (h : H p = some (.lst xs))
    (ho : s.heap.get? p = some { cls := .type "list", data := .seq its.toArray n }) (hf : f { cls := .type "list", data := .seq its.toArray n } = { cls := .type "list", data := .seq its'.toArray n' }) (r : Vals ys its') (hz : ys.length ≤ sizeLine) (t : Nat) :
    Inv X pins σ (upd H p (.lst ys)) { s with heap := s.heap.update p f, toks := t } := by
  have e : (s.heap.update p f).get? p = some { cls := .type "list", data := .seq its'.toArray n' } := by
    rw [Heap.get?_update_self f ho (by rw [hf] <;> rfl), hf]
  refine I.write (x := p) (e := p) (by rw [h]; trivial) (.inl rfl) (fun b u hb q => (Heap.get?_update_other _ _ (Ne.symm hb)).trans q) ⟨_, e⟩ ?_
  exact ⟨hz, its', n', r, e⟩
def rSetL : V → V → V → Hp → (Hp → Prop) → Prop := fun o i v H Q => ∃ p xs k j, o = .ref p ∧ i = .int k ∧ H p = some (.lst xs) ∧ ixN xs.length k = some j ∧ Q (upd H p (.lst (xs.set j v)))
theorem set_list : PSet X rSetL := by
  intro pins s σ H o i v ov iv u Q I ro ri rv h
  obtain ⟨p, xs, k, j, rfl, rfl, hp, hj, q⟩ := h
  cases ro
  obtain ⟨t, rfl⟩ := ri
  obtain ⟨its, n, r, ho, hz⟩ := I.lst hp
  obtain ⟨h1, h2, h3, h4⟩ := ixN_seq hj
  have hl := r.length
  have hn := line63
  have I' : Inv X pins σ (upd H p (.lst (xs.set j v))) { s with heap := s.heap.update p (Obj.mapSeq (·.setIfInBounds j u)) } :=
    I.lstUpd hp ho (mapSeq_set its n j u) (r.set rv j) (by rw [List.length_set]; exact hz) s.toks
  by_cases h0 : 0 ≤ k
  · have hk : k.toNat = j := by
      rw [seqIndex_of h0 h4] at h1
      exact Option.some.inj h1
    exact PySem.W.ki_setAt ho h0 (by omega) (by rw [List.size_toArray, ← hl]; exact h4) (by rw [hk]; exact ⟨_, I', q⟩)
  · have hk : (k + (its.toArray.size : Int)).toNat = j := by
      rw [seqIndex_neg (by omega) h3] at h1
      rw [List.size_toArray, ← hl]
      exact Option.some.inj h1
    exact PySem.W.ki_setBack ho (by omega) (by rw [List.size_toArray, ← hl]; exact h3) (by omega) (by rw [hk]; exact ⟨_, I', q⟩)
theorem slice_bounds (lo hi : Option Int) (n : Nat) : (sliceBounds lo hi none n).1 = ((HT.sIx n 0 lo : Nat) : Int) ∧ (sliceBounds lo hi none n).2.1 = ((HT.sIx n n hi : Nat) : Int) ∧ (sliceBounds lo hi none n).2.2 = 1 := by
  refine ⟨?_, ?_, rfl⟩
  · cases lo with
    | none => simp [sliceBounds, HT.sIx]
    | some i =>
      simp only [sliceBounds, HT.sIx, Option.getD_none, show (1 : Int) > 0 by decide, if_true]
      by_cases h : i < 0
      · simp only [h, if_true] <;> omega
      · simp only [h, if_false] <;> omega
  · cases hi with
    | none => simp [sliceBounds, HT.sIx]
    | some i =>
      simp only [sliceBounds, HT.sIx, Option.getD_none, show (1 : Int) > 0 by decide, if_true]
      by_cases h : i < 0
      · simp only [h, if_true] <;> omega
      · simp only [h, if_false] <;> omega
theorem slicePick_cut (its : List Value) (lo hi : Option Int) : slicePick its.toArray lo hi none = ((its.drop (HT.sIx its.length 0 lo)).take (HT.sIx its.length its.length hi - HT.sIx its.length 0 lo)).toArray := by
  obtain ⟨h1, h2, h3⟩ := slice_bounds lo hi its.toArray.size
  unfold slicePick
  rw [h1, h2, h3]
  simp only [sliceRange_one, pick_run, List.size_toArray] <;> rfl
def rSlL (K : PySem.W.Frag) : V → Option Int → Option Int → Hp → VK → Prop := fun x lo hi H Q => ∃ a xs, x = .ref a ∧ SqL K H a xs ∧ ∀ p, H p = none → Q (.ref p) (upd H p (.lst (cutV xs lo hi)))
theorem sl_list : SlR X (rSlL X.K) := by
  intro pins s σ H x v vl vu lo hi sl Q I rx hs pl pu h
  obtain ⟨a, xs, rfl, hx, q⟩ := h
  cases rx
  obtain ⟨its, r, ht, hz⟩ := I.list hx
  have hlen := r.length
  refine ⟨"list", _, slot_list_getitem.lookup, ht.isList.typeIs, ?_⟩
  refine wpAny_getItem_list_slice ht.isList hs pl pu .none (by simp) ?_ (by rw [List.size_toArray] <;> omega)
  rw [slicePick_cut, ← hlen]
  refine ⟨.ref s.heap.objs.size, _, I.laid (t' := s.toks) (o := .lst (cutV xs lo hi)) (fun b ob q => Heap.get?_push_of_some _ q) (Nat.le_refl _) ?_, rfl, q _ (I.hok.fresh (Nat.le_refl _))⟩
  exact ⟨Nat.le_trans (cutV_length xs lo hi) hz, _, 0, (r.drop (HT.sIx xs.length 0 lo)).take (HT.sIx xs.length xs.length hi - HT.sIx xs.length 0 lo), Heap.get?_push_size _ rfl⟩
def flatV : V → Bool
  | .non => true
  | .bl _ => true
  | .int _ => true
  | .str _ => true
  | _ => false
def eqV : V → V → Bool
  | .non, .non => true
  | .bl a, .bl b => a == b
  | .bl a, .int b => (if a then 1 else 0) == b
  | .int a, .bl b => a == (if b then 1 else 0)
  | .int a, .int b => a == b
  | .str a, .str b => a == b
  | _, _ => false
theorem eqAt_V {A : Around} {s : Shared} {y x : V} {u v : Value} (ry : RelV y u) (rx : RelV x v) (fy : flatV y = true) (fx : flatV x = true) : SeqAt.EqAt A s u v (eqV y x) := by
  cases y with
  | non =>
    cases ry
    cases x with
    | non => cases rx; exact SeqAt.EqAt.same _
    | bl b => cases rx; exact SeqAt.EqAt.none_bool b
    | int b => obtain ⟨t, rfl⟩ := rx; exact SeqAt.EqAt.none_int b t
    | str b => obtain ⟨t, rfl⟩ := rx; exact SeqAt.EqAt.none_str b t
    | _ => exact absurd (show false = true from fx) Bool.false_ne_true
  | bl a =>
    cases ry
    cases x with
    | non => cases rx; exact SeqAt.EqAt.bool_none a
    | bl b => cases rx; exact SeqAt.EqAt.bool_bool a b
    | int b => obtain ⟨t, rfl⟩ := rx; exact SeqAt.EqAt.bool_int a b t
    | str b => obtain ⟨t, rfl⟩ := rx; exact SeqAt.EqAt.bool_str a b t
    | _ => exact absurd (show false = true from fx) Bool.false_ne_true
  | int a =>
    obtain ⟨t', rfl⟩ := ry
    cases x with
    | non => cases rx; exact SeqAt.EqAt.int_none a t'
    | bl b => cases rx; exact SeqAt.EqAt.int_bool a t' b
    | int b => obtain ⟨t, rfl⟩ := rx; exact SeqAt.EqAt.int_int a t' b t
    | str b => obtain ⟨t, rfl⟩ := rx; exact SeqAt.EqAt.int_str a t' b t
    | _ => exact absurd (show false = true from fx) Bool.false_ne_true
  | str a =>
    obtain ⟨t', rfl⟩ := ry
    cases x with
    | non => cases rx; exact SeqAt.EqAt.str_none a t'
    | bl b => cases rx; exact SeqAt.EqAt.str_bool a t' b
    | int b => obtain ⟨t, rfl⟩ := rx; exact SeqAt.EqAt.str_int a t' b t
    | str b => obtain ⟨t, rfl⟩ := rx; exact SeqAt.EqAt.str_str a t' b t
    | _ => exact absurd (show false = true from fx) Bool.false_ne_true
  | _ => exact absurd (show false = true from fy) Bool.false_ne_true
def eqU (x : V) (u : Value) : Bool := match u with
  | .none => eqV .non x
  | .bool b => eqV (.bl b) x
  | .int i _ => eqV (.int i) x
  | .str z _ => eqV (.str z) x
  | _ => false
theorem eqU_of {x y : V} {u : Value} (r : RelV y u) (f : flatV y = true) : eqU x u = eqV y x := by
  cases y with
  | non => cases r; rfl
  | bl b => cases r; rfl
  | int i => obtain ⟨t, rfl⟩ := r; rfl
  | str z => obtain ⟨t, rfl⟩ := r; rfl
  | _ => exact absurd (show false = true from f) Bool.false_ne_true
theorem any_eqU {x : V} : ∀ {xs : List V} {us : List Value}, Vals xs us → xs.all flatV = true → us.any (eqU x) = xs.any fun y => eqV y x
  | _, _, .nil, _ => rfl
  | y :: xs, u :: us, .cons r t, f => by
    rw [List.all_cons, Bool.and_eq_true] at f
    rw [List.any_cons, List.any_cons, eqU_of r f.1, any_eqU t f.2]
theorem mem_eqAt {A : Around} {s : Shared} {x : V} {v : Value} (rx : RelV x v) (fx : flatV x = true) : ∀ {xs : List V} {us : List Value}, Vals xs us → xs.all flatV = true → ∀ u ∈ us, SeqAt.EqAt A s u v (eqU x u)
  | _, _, .nil, _ => fun u hu => by cases hu
  | y :: xs, u :: us, .cons r t, f => fun u' hu => by
    rw [List.all_cons, Bool.and_eq_true] at f
    rcases List.mem_cons.mp hu with rfl | hu
    · rw [eqU_of r f.1]; exact eqAt_V r rx f.1 fx
    · exact mem_eqAt rx fx t f.2 u' hu
def inV (x : V) (xs : List V) : Bool := xs.any fun y => eqV y x
def rIn (K : PySem.W.Frag) (neg : Bool) : R2 := fun x y H Q => ∃ p xs, y = .ref p ∧ (SqL K H p xs ∨ SqT K H p xs) ∧ flatV x = true ∧ xs.all flatV = true ∧ Q (.bl (if neg then !inV x xs else inV x xs)) H
theorem op_in_seq : OpR X (compareOp .In) (rIn X.K false) := by
  intro pins s σ H x y v u Q I rx ry h
  obtain ⟨p, xs, rfl, hq, fx, fs, q⟩ := h
  cases ry
  rcases hq with hq | hq
  · obtain ⟨its, r, pl, hz⟩ := I.list hq
    refine SeqAt.in_listAt (eqU x) pl.isList (fun w hw => mem_eqAt rx fx r fs w (by simpa using hw)) ⟨.bl _, H, I, rfl, ?_⟩
    rw [show its.toArray.any (eqU x) = its.any (eqU x) by simp, any_eqU r fs]
    exact q
  · obtain ⟨its, r, pl, hz⟩ := I.tuple hq
    refine SeqAt.in_tupleAt (eqU x) pl (fun w hw => mem_eqAt rx fx r fs w (by simpa using hw)) ⟨.bl _, H, I, rfl, ?_⟩
    rw [show its.toArray.any (eqU x) = its.any (eqU x) by simp, any_eqU r fs]
    exact q
theorem op_notIn_seq : OpR X (compareOp .NotIn) (rIn X.K true) := by
  intro pins s σ H x y v u Q I rx ry h
  obtain ⟨p, xs, rfl, hq, fx, fs, q⟩ := h
  cases ry
  rcases hq with hq | hq
  · obtain ⟨its, r, pl, hz⟩ := I.list hq
    refine SeqAt.notIn_listAt (eqU x) pl.isList (fun w hw => mem_eqAt rx fx r fs w (by simpa using hw)) ⟨.bl _, H, I, rfl, ?_⟩
    rw [show its.toArray.any (eqU x) = its.any (eqU x) by simp, any_eqU r fs]
    exact q
  · obtain ⟨its, r, pl, hz⟩ := I.tuple hq
    refine SeqAt.notIn_tupleAt (eqU x) pl (fun w hw => mem_eqAt rx fx r fs w (by simpa using hw)) ⟨.bl _, H, I, rfl, ?_⟩
    rw [show its.toArray.any (eqU x) = its.any (eqU x) by simp, any_eqU r fs]
    exact q
theorem CallR.or {f : Value} {r r' : List V → Hp → VK → Prop} (h : CallR X f r) (h' : CallR X f r') : CallR X f (fun xs H Q => r xs H Q ∨ r' xs H Q) := by
  intro pins s σ H xs us Q I rs q
  rcases q with q | q
  · exact h pins s σ H xs us Q I rs q
  · exact h' pins s σ H xs us Q I rs q
theorem call_list_of : CallR X (.type "list") (fun xs H Q => ∃ p ys, xs = [.ref p] ∧ (SqL X.K H p ys ∨ SqT X.K H p ys) ∧ ∀ l, H l = none → Q (.ref l) (upd H l (.lst ys))) := by
  intro pins s σ H xs us Q I r h
  obtain ⟨p, ys, rfl, hq, q⟩ := h
  obtain ⟨u, rfl, rx⟩ := vals1 r
  cases rx
  have fin : ∀ (its : List Value), Vals ys its → ys.length ≤ sizeLine → ∀ (h' : Heap) (c' : Nat), (∀ b o', s.heap.get? b = some o' → h'.get? b = some o') →
      h'.get? s.heap.objs.size = some { cls := .type "list", dict := none, data := .seq its.toArray c', slots := #[] } → EP X pins σ Q (.ref s.heap.objs.size) { s with heap := h' } := fun its r' hz h' c' kp e =>
    ⟨.ref s.heap.objs.size, _, I.laid (t' := s.toks) kp (Nat.le_refl _) (show ObjOk X.prog X.w _ h' _ (.lst ys) from ⟨hz, its, c', r', e⟩), rfl, q _ (I.hok.fresh (Nat.le_refl _))⟩
  rcases hq with hq | hq
  · obtain ⟨its, r', pl, hz⟩ := I.list hq
    have hlen := r'.length
    obtain ⟨o, ho, hc, n, hd⟩ := pl.isList
    exact call_list_seq p (.inl rfl) ho hc hd (fun h' c' kp e => fin its r' hz h' c' kp e) (by simp only [List.size_toArray] <;> omega)
  · obtain ⟨its, r', pl, hz⟩ := I.tuple hq
    have hlen := r'.length
    obtain ⟨o, ho, hc, n, hd⟩ := pl
    exact call_list_seq p (.inr rfl) ho hc hd (fun h' c' kp e => fin its r' hz h' c' kp e) (by simp only [List.size_toArray] <;> omega)
theorem call_tuple_of : CallR X (.type "tuple") (fun xs H Q => ∃ p ys, xs = [.ref p] ∧ ((SqL X.K H p ys ∧ ∀ l, H l = none → Q (.ref l) (upd H l (.tup ys))) ∨ (SqT X.K H p ys ∧ Q (.ref p) H))) := by
  intro pins s σ H xs us Q I r h
  obtain ⟨p, ys, rfl, h⟩ := h
  obtain ⟨u, rfl, rx⟩ := vals1 r
  cases rx
  rcases h with ⟨hq, q⟩ | ⟨hq, q⟩
  · obtain ⟨its, r', pl, hz⟩ := I.list hq
    have hlen := r'.length
    refine call_tuple_list pl.isList (fun h' kp => ?_) (by simp only [List.size_toArray] <;> omega)
    have I1 : Inv X pins σ H { s with heap := h' } := I.kept (t' := s.toks) kp
    have I2 : Inv X pins σ (upd H h'.objs.size (.tup ys)) { s with heap := h'.push { cls := .type "tuple", data := .seq its.toArray } } :=
      I1.laid (t' := s.toks) (fun b o e => Heap.get?_push_of_some _ e) (Nat.le_refl _) (show ObjOk X.prog X.w _ _ _ (.tup ys) from ⟨hz, its, r', IsTup.new _ _⟩)
    exact ⟨.ref h'.objs.size, _, I2, rfl, q _ (I1.hok.fresh (Nat.le_refl _))⟩
  · obtain ⟨its, r', pl, hz⟩ := I.tuple hq
    exact call_tuple_same pl ⟨.ref p, H, I, rfl, q⟩
def tyV (K : PySem.W.Frag) (T : String) (x : V) (H : Hp) : Prop := match x with
  | .str _ => T = "str"
  | .int _ => T = "int"
  | .ref p => (T = "list" ∧ ∃ xs, SqL K H p xs) ∨ (T = "tuple" ∧ ∃ o, K.lookup p = some o ∧ o.cls = .type "tuple" ∧ o.dict = none) ∨
      (T = "dict" ∧ ((∃ kvs, H p = some (.dK kvs)) ∨ ∃ kvs, H p = some (.dT kvs))) ∨ (T = "set" ∧ ∃ S n, H p = some (.set S n))
  | _ => False
theorem tyV_is {pins : List (Addr × Obj)} {σ : St} {H : Hp} {s : Shared} {T : String} {x : V} {v : Value} (I : Inv X pins σ H s) (r : RelV x v) (ty : tyV X.K T x H) :
    s.TypeIs v T ∧ ∀ a, v = .ref a → ∃ ob, s.heap.get? a = some ob ∧ ob.dict = none := by
  cases x with
  | str z =>
    obtain ⟨t, rfl⟩ := r
    cases (show T = "str" from ty)
    exact ⟨typeIs_str s z t, fun _ e => nomatch e⟩
  | int i =>
    obtain ⟨t, rfl⟩ := r
    cases (show T = "int" from ty)
    exact ⟨typeIs_int s i t, fun _ e => nomatch e⟩
  | ref p =>
    cases r
    rcases ty with ⟨rfl, xs, hq⟩ | ⟨rfl, o, hk, hc, hd⟩ | ⟨rfl, hk⟩ | ⟨rfl, S, n, hk⟩
    · obtain ⟨its, _, pl, _⟩ := I.list hq
      refine ⟨pl.isList.typeIs, fun a e => ?_⟩
      cases e
      obtain ⟨o, n, e, c, hd, _⟩ := pl
      exact ⟨o, e, hd⟩
    · refine ⟨⟨o, I.kIn p o hk, hc⟩, fun a e => ?_⟩
      cases e
      exact ⟨o, I.kIn _ o hk, hd⟩
    · have z : ∃ o, s.heap.get? p = some o ∧ o.ExactDict := by
        rcases hk with ⟨kvs, hk⟩ | ⟨kvs, hk⟩
        · obtain ⟨_, _, _, _, o, _, _, e, ex, _⟩ := I.hok p _ hk
          exact ⟨o, e, ex⟩
        · obtain ⟨_, _, _, _, o, _, _, e, ex, _⟩ := I.hok p _ hk
          exact ⟨o, e, ex⟩
      obtain ⟨o, e, ex⟩ := z
      refine ⟨⟨o, e, ex.1⟩, fun a e2 => ?_⟩
      cases e2
      exact ⟨o, e, ex.2.1⟩
    · obtain ⟨o, _, _, _, e, ex, _⟩ := I.hok p _ hk
      refine ⟨⟨o, e, ex.1⟩, fun a e2 => ?_⟩
      cases e2
      exact ⟨o, e, ex.2.1⟩
  | _ => exact False.elim ty
def tBM0 (K : PySem.W.Frag) (T : String) (r : V → List V → Hp → VK → Prop) (to : TE) : TE := fun σ H Q => to σ H fun x H1 => tyV K T x H1 ∧ r x [] H1 Q
def tBM (K : PySem.W.Frag) (T : String) (r : V → List V → Hp → VK → Prop) (to : TE) (t : TA) : TE := fun σ H Q => to σ H fun x H1 => tyV K T x H1 ∧ t σ H1 fun xs H2 => r x xs H2 Q
variable {o e : Expr} {es : List Expr} {to : TE} {t : TA} {name : Str} {apos cpos : Pos} {T id : String} {r : V → List V → Hp → VK → Prop}
theorem pe_bm (pa : PlainAttrs T) (slot : Slot T name id) (hty : typeOf (.builtin id) = pure (.type "method_descriptor")) (hm : MtR X id r) (ho : PE X o to) (ha : PA X (e :: es) t)
    (hbase : attributeBase o name X.env (eval o X.env) = eval o X.env := by rfl)
    (hfew : ((backTo cpos (starEach (e :: es) X.env)).all (fun x => !x.1) && (backToKw cpos (keywordEach [] X.env)).all (fun x => x.1.isSome)
      && decide ((e :: es).length + ([] : List Keyword).length + (if ([] : List Keyword).isEmpty then 0 else 1) < 30)) = true := by rfl)
    (hline : (apos.endLine == cpos.line) = true := by rfl) (hs : starEach (e :: es) X.env = (false, eval e X.env) :: starEach es X.env := by rfl) (hplain : (backTo cpos (starEach es X.env)).any (·.1) = false := by rfl) :
    PE X (.Call (.Attribute o name apos) (e :: es) [] cpos) (tBM X.K T r to t) := by
  intro pins s σ H Q I h
  refine wpAny_Call_method_late hbase hfew hline rfl (thn (ho pins s σ H _ I h) fun v s1 ⟨x, H1, I1, r1, ty, q1⟩ => ?_)
  obtain ⟨h1, h2⟩ := tyV_is I1 r1 ty
  refine ⟨T, id, pa, slot, hty, h1, h2, ?_⟩
  have hA := ha cpos pins s1 σ H1 _ I1 q1
  rw [hs] at hA ⊢
  refine Calls.callWith_builtin (by show (false || (backTo cpos (starEach es X.env)).any (·.1)) = false; rw [hplain] <;> rfl) (Calls.evalArgs_plain ?_)
  exact thn hA fun us s2 ⟨vs, H2, I2, r2, q2⟩ => hm pins s2 σ H2 x vs v us Q I2 r1 r2 q2
/- xs.append(e), list.index on a module's tuple .. are MtR facts of 06m -/
end
end L2
namespace L2
open PySem PySem.Spec PyProof.Rows
def MtM (X : Cx) (id : String) (r : V → List V → Hp → VK → Prop) : Prop :=
  ∀ (pins : List (Addr × Obj)) (s : Shared) (σ : St) (H : Hp) (x : V) (xs : List V) (v : Value) (us : List Value) (Q : VK), Inv X pins σ H s → RelV x v → Vals xs us → r x xs H Q →
    wpAny (model X.prog X.w) X.A (call (.builtin id) (v :: us)) (EP X pins σ Q) X.xe s
theorem Vals.one {x : V} {us : List Value} (h : Vals [x] us) : ∃ u, us = [u] ∧ RelV x u := by
  cases h with
  | cons r t =>
    cases t
    exact ⟨_, rfl, r⟩
theorem Vals.two {x y : V} {us : List Value} (h : Vals [x, y] us) : ∃ u v, us = [u, v] ∧ RelV x u ∧ RelV y v := by
  cases h with
  | cons r t =>
    obtain ⟨u, rfl, q⟩ := Vals.one t
    exact ⟨_, _, rfl, r, q⟩
theorem Vals.zero : ∀ {us : List Value}, Vals [] us → us = []
  | _, .nil => rfl
theorem Vals.dropLast {xs : List V} {us : List Value} (h : Vals xs us) : Vals xs.dropLast us.dropLast := by
  induction h with
  | nil => exact .nil
  | cons r t ih =>
    cases t with
    | nil => exact .nil
    | cons q t' => exact .cons r ih
theorem Vals.eraseIdx : ∀ {xs : List V} {us : List Value} (i : Nat), Vals xs us → Vals (xs.eraseIdx i) (us.eraseIdx i)
  | _, _, _, .nil => .nil
  | _, _, 0, .cons _ t => t
  | _, _, i + 1, .cons r t => .cons r (Vals.eraseIdx i t)
theorem Vals.reverse {xs : List V} {us : List Value} (h : Vals xs us) : Vals xs.reverse us.reverse := by
  induction h with
  | nil => exact .nil
  | cons r t ih => rw [List.reverse_cons, List.reverse_cons]; exact Vals.append ih (.cons r .nil)
theorem Vals.rep {xs : List V} {us : List Value} (h : Vals xs us) : ∀ k : Nat, Vals (List.replicate k xs).flatten (List.replicate k us).flatten
  | 0 => .nil
  | k + 1 => by
    rw [List.replicate_succ, List.replicate_succ, List.flatten_cons, List.flatten_cons]
    exact Vals.append h (Vals.rep h k)
theorem foldl_rep (its : List Value) : ∀ (k : Nat) (acc : List Value),
    List.foldl (fun x1 x2 => x1 ++ x2) acc.toArray (List.replicate k its.toArray) = (acc ++ (List.replicate k its).flatten).toArray
  | 0, acc => by simp
  | k + 1, acc => by
    have e : acc.toArray ++ its.toArray = (acc ++ its).toArray := by simp
    have e2 : (acc ++ its) ++ (List.replicate k its).flatten = acc ++ (List.replicate (k + 1) its).flatten := by
      rw [List.replicate_succ, List.flatten_cons, List.append_assoc]
    rw [← e2, ← foldl_rep its k (acc ++ its), ← e, List.replicate_succ, List.foldl_cons]
section
variable {X : Cx} {pins : List (Addr × Obj)} {σ : St} {H : Hp} {s : Shared} {l b : Addr} {xs ys zs : List V}
theorem Inv.lset {its its' : List Value} {n : Nat} {f : Array Value → Array Value} {t' : Nat} (I : Inv X pins σ H s) (hH : H l = some (.lst xs))
    (e : s.heap.get? l = some { cls := .type "list", data := .seq its.toArray n }) (hf : f its.toArray = its'.toArray) (hv : Vals ys its') (hz : ys.length ≤ sizeLine) :
    Inv X pins σ (upd H l (.lst ys)) { s with heap := s.heap.update l (Obj.mapSeq f), toks := t' } := by
  have q := PySem.IsL.update e f
  rw [hf] at q
  refine I.write (x := l) (e := l) (by rw [hH]; exact trivial) (.inl rfl) (fun b' u hb hu => (Heap.get?_update_other s.heap (Obj.mapSeq f) (Ne.symm hb)).trans hu) ⟨_, q⟩ ?_
  exact ⟨hz, its', _, hv, q⟩
theorem Inv.lnew {its : List Value} {t' : Nat} (I : Inv X pins σ H s) (hv : Vals ys its) (hz : ys.length ≤ sizeLine) :
    Inv X pins σ (upd H s.heap.objs.size (.lst ys)) { s with heap := s.heap.push { cls := .type "list", data := .seq its.toArray }, toks := t' } :=
  I.laid (fun _ _ q => Heap.get?_push_of_some _ q) (Nat.le_refl _) ⟨hz, its, 0, hv, Heap.get?_push_size _ rfl⟩
theorem Inv.fresh (I : Inv X pins σ H s) : H s.heap.objs.size = none := I.hok.fresh (Nat.le_refl _)
theorem Inv.lstM (I : Inv X pins σ H s) (hH : H l = some (.lst xs)) : xs.length ≤ sizeLine ∧ ∃ (its : List Value) (n : Nat), Vals xs its ∧ xs.length = its.length ∧ s.heap.get? l = some { cls := .type "list", data := .seq its.toArray n } := by
  obtain ⟨z, its, n, r, e⟩ := I.hok l _ hH
  exact ⟨z, its, n, r, r.length, e⟩
theorem notLongL {n : Nat} (h : n ≤ sizeLine) : Builtin.List.listTooLong n = false := by
  unfold Builtin.List.listTooLong
  exact decide_eq_false (by omega)
end
section
variable {X : Cx}
def rAppend : V → List V → Hp → VK → Prop := fun x vs H Q => ∃ l xs y, x = .ref l ∧ vs = [y] ∧ H l = some (.lst xs) ∧ xs.length < sizeLine ∧ Q .non (upd H l (.lst (xs ++ [y])))
theorem mt_append : MtM X "list.append" rAppend := by
  intro pins s σ H x vs v us Q I rx rv h
  obtain ⟨l, xs, y, rfl, rfl, hH, hz, q⟩ := h
  cases rx
  obtain ⟨u, rfl, ru⟩ := rv.one
  obtain ⟨z, its, n, r, hl, e⟩ := I.lstM hH
  refine call_meets F.slot_list_append ⟨_, e, rfl⟩ F.entry_list_append (F.args_list_append_2 _ _) (PySem.list_append l its.toArray n u (by rw [List.size_toArray]; omega)) ⟨e, ?_⟩
  refine ⟨.non, _, I.lset (its' := its ++ [u]) hH e (by simp) (r.append (.cons ru .nil)) ?_, rfl, q⟩
  rw [List.length_append, List.length_singleton]
  omega
def rExtend : V → List V → Hp → VK → Prop := fun x vs H Q => ∃ l b xs zs, x = .ref l ∧ vs = [.ref b] ∧ H l = some (.lst xs) ∧ H b = some (.lst zs) ∧ xs.length + zs.length ≤ sizeLine ∧ Q .non (upd H l (.lst (xs ++ zs)))
theorem mt_extend : MtM X "list.extend" rExtend := by
  intro pins s σ H x vs v us Q I rx rv h
  obtain ⟨l, b, xs, zs, rfl, rfl, hH, hB, hz, q⟩ := h
  cases rx
  obtain ⟨u, rfl, ru⟩ := rv.one
  cases ru
  obtain ⟨z, its, n, r, hl, e⟩ := I.lstM hH
  obtain ⟨z2, its2, n2, r2, hl2, e2⟩ := I.lstM hB
  have hsz : its.toArray.size + its2.toArray.size ≤ sizeLine := by rw [List.size_toArray, List.size_toArray]; omega
  have hlong : ¬ (!its.toArray.isEmpty && Builtin.List.listTooLong (its.toArray.size + its2.toArray.size)) = true := by
    rw [notLongL hsz, Bool.and_false]
    exact Bool.false_ne_true
  refine call_meets F.slot_list_extend ⟨_, e, rfl⟩ F.entry_list_extend (F.args_list_extend_2 _ _)
    (AutoSeq1.list_extend_list_list_0 l its.toArray n b its2.toArray n2 hlong (by rw [List.size_toArray]; omega) (by omega)) ⟨e, e2, ?_⟩
  refine ⟨.non, _, I.lset (its' := its ++ its2) hH e (by simp) (r.append r2) ?_, rfl, q⟩
  rw [List.length_append]
  omega
def rPop : V → List V → Hp → VK → Prop := fun x vs H Q => ∃ l xs y, x = .ref l ∧ vs = [] ∧ H l = some (.lst xs) ∧ xs[xs.length - 1]? = some y ∧ Q y (upd H l (.lst xs.dropLast))
def rPopAt : V → List V → Hp → VK → Prop := fun x vs H Q => ∃ l xs i k y, x = .ref l ∧ vs = [.int i] ∧ H l = some (.lst xs) ∧ -(2 ^ 63) ≤ i ∧ i < 2 ^ 63 ∧ seqIndex? i xs.length = some k ∧ xs[k]? = some y ∧ Q y (upd H l (.lst (xs.eraseIdx k)))
def rReverse : V → List V → Hp → VK → Prop := fun x vs H Q => ∃ l xs, x = .ref l ∧ vs = [] ∧ H l = some (.lst xs) ∧ Q .non (upd H l (.lst xs.reverse))
def rClear : V → List V → Hp → VK → Prop := fun x vs H Q => ∃ l xs, x = .ref l ∧ vs = [] ∧ H l = some (.lst xs) ∧ Q .non (upd H l (.lst []))
def rCat : R2 := fun x y H Q => ∃ l b xs zs, x = .ref l ∧ y = .ref b ∧ H l = some (.lst xs) ∧ H b = some (.lst zs) ∧ xs.length + zs.length ≤ sizeLine ∧ ∀ p, H p = none → Q (.ref p) (upd H p (.lst (xs ++ zs)))
theorem op_cat : OpR X (binaryOp .Add) rCat := by
  intro pins s σ H x y v u Q I rx ry h
  obtain ⟨l, b, xs, zs, rfl, rfl, hH, hB, hz, q⟩ := h
  cases rx
  cases ry
  obtain ⟨z, its, n, r, hl, e⟩ := I.lstM hH
  obtain ⟨z2, its2, n2, r2, hl2, e2⟩ := I.lstM hB
  refine PySem.P.add_list e e2 ?_ (by rw [List.size_toArray, List.size_toArray]; omega)
  have ea : its.toArray ++ its2.toArray = (its ++ its2).toArray := by simp
  rw [ea]
  exact ⟨.ref _, _, I.lnew (t' := s.toks) (r.append r2) (by rw [List.length_append]; omega), rfl, q _ I.fresh⟩
def rRep : R2 := fun x y H Q => ∃ l k xs, x = .ref l ∧ y = .int k ∧ H l = some (.lst xs) ∧ -(2 ^ 63) ≤ k ∧ k < 2 ^ 63 ∧ xs.length * k.toNat ≤ sizeLine ∧
  ∀ p, H p = none → Q (.ref p) (upd H p (.lst (List.replicate k.toNat xs).flatten))
theorem len_rep {α : Type} (xs : List α) (k : Nat) : (List.replicate k xs).flatten.length = k * xs.length := by
  induction k with
  | zero => simp
  | succ k ih => rw [List.replicate_succ, List.flatten_cons, List.length_append, ih, Nat.succ_mul, Nat.add_comm]
theorem op_rep : OpR X (binaryOp .Mult) rRep := by
  intro pins s σ H x y v u Q I rx ry h
  obtain ⟨l, k, xs, rfl, rfl, hH, h1, h2, hz, q⟩ := h
  cases rx
  obtain ⟨t, rfl⟩ := ry
  obtain ⟨z, its, n, r, hl, e⟩ := I.lstM hH
  have hlen : its.toArray.size * k.toNat ≤ sizeLine := by rw [List.size_toArray, ← hl]; exact hz
  have hcap : ¬ its.toArray.size * k.toNat > (2 ^ 63 - 1) / 8 := by
    have : (sizeLine : Nat) ≤ (2 ^ 63 - 1) / 8 := by decide
    omega
  have hfit : ¬ (!Builtin.List.listFitsIndex k) = true := by
    rw [fitsIndex_both h1 h2]
    exact Bool.false_ne_true
  have hlong : ¬ Builtin.List.listTooLong (its.toArray.size * k.toNat) = true := by
    rw [notLongL hlen]
    exact Bool.false_ne_true
  have hnew : List.foldl (fun x1 x2 => x1 ++ x2) #[] (List.replicate (if its.toArray.isEmpty = true then 0 else k.toNat) its.toArray) = (List.replicate k.toNat its).flatten.toArray := by
    have f0 : ∀ m : Nat, List.foldl (fun x1 x2 => x1 ++ x2) #[] (List.replicate m its.toArray) = (List.replicate m its).flatten.toArray := fun m => by
      have := foldl_rep its m []
      rw [List.nil_append] at this
      exact this
    rw [f0]
    cases its with
    | nil => simp
    | cons a r' => rw [if_neg (by simp)]
  refine wpAny_binaryOp_repeat_ref (T := "list") (U := "int") (by decide) ⟨_, e, rfl⟩ (fun s' => typeIs_int s' k t) noFill_list_mul F.fills_int_mul F.slot_int_rmul repeat_list F.slot_int_index.lookup
    (call_meets F.slot_int_rmul (typeIs_int s k t) F.entry_int_rmul (F.args_int_rmul_2 _ _) (int___rmul___int_list k t l its.toArray n)
      ⟨e, rfl, ⟨_, e, rfl⟩, call_meets F.slot_list_mul ⟨_, e, rfl⟩ F.entry_list_mul (F.args_list_mul_2 _ _) (AutoListH.list___mul___list_int_3 l its.toArray n k t hfit hcap hlong) ⟨e, ?_⟩⟩)
  rw [hnew]
  exact ⟨.ref _, _, I.lnew (t' := s.toks) (r.rep k.toNat) (by rw [len_rep, Nat.mul_comm]; exact hz), rfl, q _ I.fresh⟩
end
section
variable {prog : Program} {w : World} {A : Around} {E : Value → Shared → Prop} {s : Shared}
theorem bounds_run {a c n : Nat} (hac : a ≤ c) (hc : c ≤ n) : sliceBounds (some (a : Int)) (some (c : Int)) none n = ((a : Int), (c : Int), 1) := by
  simp only [sliceBounds, Option.getD_none]
  have h1 : ¬ ((a : Int) < 0) := by omega
  have h2 : ¬ ((c : Int) < 0) := by omega
  simp only [h1, h2, if_false, show (1 : Int) > 0 by decide, if_true]
  congr 1
  · omega
  · congr 1; omega
set_option maxRecDepth 100000 in
theorem setItem_slice {l b sl : Addr} {items new : Array Value} {n n2 : Nat} {vl vu : Value} {a c : Nat} {Q : Unit → Shared → Prop}
    (e : s.heap.get? l = some { cls := .type "list", data := .seq items n }) (e2 : s.heap.get? b = some { cls := .type "list", data := .seq new n2 }) (hne : l ≠ b)
    (hs : s.heap.IsSliceOf sl vl vu .none) (pl : IsPart vl (some (a : Int))) (pu : IsPart vu (some (c : Int))) (hac : a ≤ c) (hc : c ≤ items.size)
    (hsz : items.size + new.size ≤ sizeLine) (h : Q () { s with heap := s.heap.update l (Obj.mapSeq fun xs => xs.extract 0 a ++ new ++ xs.extract c xs.size) }) :
    wpAny (model prog w) A (setItem (.ref l) (.ref sl) (.ref b)) Q E s := by
  have hl : s.heap.IsList l items := PySem.IsL.isList e
  have hb : s.heap.IsList b new := PySem.IsL.isList e2
  obtain ⟨os, hos, hcs, hds⟩ := id hs
  have hTs : s.TypeIs (.ref sl) "slice" := ⟨os, hos, hcs⟩
  have hstep : ¬ ((rawPart none == rawInt 0) = true) := Bool.false_ne_true
  have hsame : Builtin.List.listSameRef (.ref l) (.ref b) = false := by
    unfold Builtin.List.listSameRef
    exact beq_eq_false_iff_ne.mpr hne
  have hmax : (max (a : Int) (c : Int)).toNat = c := by omega
  have hz' : ((fun xs : Array Value => xs.extract 0 a ++ new ++ xs.extract c xs.size) items).size ≤ sizeLine + 1 := by
    simp only [Array.size_append, Array.size_extract]
    omega
  unfold setItem
  try with_reducible refine wpAny_holding ?_
  first | refine wpAny_bind (wpAny_pure ?_) | skip
  refine wpAny_bind (wpAny_sequenceKey hl.typeIs (by decide) ?_)
  refine wpAny_bind (wpAny_callSpecial?_slot (name := Str.ofString "__setitem__") hl.typeIs slot_list_setitem
    (wpAny_call_entry slot_list_setitem hl.typeIs entry_list_setitem ?_ (args_list_setitem _ _ _)))
  show wpAny _ _ (Builtin.List.listSubscript? (.ref sl) >>= _) _ _ s
  refine wpAny_bind ?_
  unfold Builtin.List.listSubscript?
  refine wpAny_bind (wpAny_specialOf hTs slice_no_index ?_)
  simp only [Option.isNone_none, if_true]
  refine wpAny_pure ?_
  show wpAny _ _ (typeOf (.ref sl) >>= _) _ _ s
  refine wpAny_bind (wpAny_typeOf hTs ?_)
  first
    | rw [if_neg (by decide)]
    | refine PySem.W.KFB.if_not (by decide) ?_
  rw [listSliceParts_eq]
  refine wpAny_bind (wpAny_bind (wpAny_field hos hds (x := .none) rfl (wpAny_bind (wpAny_listPart .none ?_))))
  rw [if_neg hstep]
  refine wpAny_bind (wpAny_field hos hds (x := vl) rfl (wpAny_bind (wpAny_listPart pl ?_)))
  refine wpAny_bind (wpAny_field hos hds (x := vu) rfl (wpAny_bind (wpAny_listPart pu (wpAny_pure ?_))))
  first
    | simp only [hsame, Bool.false_eq_true, if_false]
    | refine PySem.W.KFB.if_not hsame ?_
    | (dsimp only
       rw [if_neg (by rw [hsame]; exact Bool.false_ne_true)])
  refine wpAny_bind (m := Builtin.List.listAllItems (.ref b) "must assign iterable to extended slice") ?_
  unfold Builtin.List.listAllItems
  refine wpAny_bind (wpAny_typeOf hb.typeIs ?_)
  first
    | refine PySem.W.KFB.if_so (by decide) ?_
    | rw [if_pos (by decide)]
    | simp only [beq_self_eq_true, Bool.true_or, if_true]
  unfold Builtin.List.listItems
  refine wpAny_bind (wpAny_seqItems e2 rfl (wpAny_pure ?_))
  refine wpAny_bind (wpAny_bind (wpAny_seqItems e rfl (wpAny_pure ?_)))
  refine wpAny_bind (wpAny_of_eq ((sliceIndices_raw (some (a : Int)) (some (c : Int)) none items.size (by simp)).trans (congrArg (pure : Int × Int × Int → Sem (Int × Int × Int)) (bounds_run hac hc))) ?_)
  show wpAny _ _ (if ((1 : Int) == 1) = true then _ else _) _ _ s
  rw [if_pos (by decide)]
  refine wpAny_bind (wpAny_rule ?_)
  first
    | simp only [notLongL hsz, Bool.false_eq_true, if_false]
    | refine PySem.W.KFB.if_not (notLongL hsz) ?_
  first | refine wpAny_bind (wpAny_pure ?_) | skip
  show wpAny _ _ (updateSeq l (fun xs => xs.extract 0 ((a : Int)).toNat ++ new ++ xs.extract (max (a : Int) (c : Int)).toNat xs.size) >>= _) _ _ s
  rw [hmax, Int.toNat_natCast]
  refine wpAny_bind (wpAny_updateSeq (hz := Nat.le_trans (Nat.le_add_right _ _) hsz) (_hz' := hz') e rfl ?_)
  refine wpAny_bind (wpAny_letGo ?_)
  first
    | exact wpAny_bind (wpAny_pure (wpAny_pure ⟨.none, rfl, wpAny_pure h⟩))
    | exact wpAny_pure ⟨.none, rfl, wpAny_pure h⟩
end
section
variable {X : Cx}
end
end L2
namespace Att
open PySem PySem.W PySem.Calls PyProof.Rows
theorem ints_of_wellAll {P : Params} {h : Heap} : ∀ (ns : List Int) (vs : List Value), WellAll P h vs (ns.map WData.int) → IntsAre vs ns := by
  intro ns
  induction ns with
  | nil =>
    intro vs w
    rw [List.map_nil] at w
    cases w
    exact .nil
  | cons n ns ih =>
    intro vs w
    rw [List.map_cons] at w
    cases w with
    | cons a b =>
      cases a
      exact .cons _ _ (ih _ b)
theorem script_of {l : OpenLaw} {n : Nat} (hn : l.most = some n) {P : Params} {h : Heap} {args : List WData} {vals : List Value}
    (hpre : l.row.toRowW.claim.pre args = true) (hwl : WellAll P h vals args) :
    ∃ a vs ns, vals = [Value.ref a] ∧ args = [WData.list (ns.map WData.int)] ∧ h.get? a = some { cls := .type "list", data := .seq vs.toArray } ∧ IntsAre vs ns ∧ ns.length ≤ n := by
  have hsh : WShape.hasAll [] args [.list .int] = true := (pre_splitW hpre).1
  have hc : l.pre.holds [] { args := args } = true := (pre_splitW hpre).2
  obtain ⟨d, r, rfl, h1, h2⟩ := hasAllW_cons hsh
  obtain rfl := hasAllW_nil h2
  obtain ⟨xs, rfl, h3⟩ := hasW_list h1
  obtain ⟨ns, rfl⟩ := items_int h3
  have hlen : ns.length ≤ n := by
    unfold OpenLaw.pre at hc
    have h4 : (WTm.not (.lt (.lit (.int (n : Int))) (.len (.arg 0)))).holds [] { args := [.list (ns.map .int)] } = true := by
      have h4 := (holds_andW hc).1
      rw [hn] at h4
      exact h4
    have h5 := condW_of h4 (w_not (w_lt w_lit (w_len_list (w_arg rfl))))
    rw [List.length_map] at h5
    refine Nat.le_of_not_lt fun q => ?_
    have q' : (n : Int) < ((ns.length : Nat) : Int) := by omega
    first
      | (rw [decide_eq_true q'] at h5; exact absurd h5 (by decide))
      | (simp at h5; omega)
  cases hwl with
  | cons w1 w2 =>
    cases w2
    cases w1 with
    | list ho hall => exact ⟨_, _, ns, rfl, rfl, ho, ints_of_wellAll ns _ hall, hlen⟩
theorem post_true (l : OpenLaw) (args : List WData) : l.row.toRowW.claim.post args (.bool true) args = true :=
  postW_of (r := l.row.toRowW) (X := (true == true))
    (show WShape.has [] (.bool true) .bool = true by first | rfl | decide | simp [WShape.has, WShape.arms, WShape.armsAll])
    (show (WTm.eq .res (.lit (.bool true))).value [] { args := args, res := some (.bool true), after := args } = some (.bool (true == true)) from w_eq_bool (w_res rfl) w_lit) rfl
theorem attach_call {l : OpenLaw} {n : Nat} {q : Program} {loose : List Str} {XP : (Str → Option Value) → Heap → Prop} {YP : World → Heap → Prop} {d : DefRec}
    (hn : l.most = some n) (hdf : d.params.defaults = [])
    (call : ∀ (w : World) (s₀ s₁ : Shared) (mg mb : Str → Option Value) (fa : Addr) (o : Obj) (pm cd doc : Value) (a : Addr) (vs : List Value) (ns : List Int),
      Ground q loose [] XP w s₀ mg mb s₁.heap → YP w s₁.heap →
      s₁.heap.get? fa = some o → o.data = .func (docDef d.name d.params d.body d.scope pm cd doc) → s₁.heap.CodeRec cd d.name → mg d.name = some (.ref fa) →
      s₁.heap.get? a = some { cls := .type "list", data := .seq vs.toArray } → IntsAre vs ns → ns.length ≤ n → s₁.gens = #[] →
      codeAny (model l.prog w) callerA (.call (.ref fa) ⟨[.ref a], []⟩) (fun r s' => r = .ok (.ret (.bool true)) ∧ OldK s₁.heap s'.heap ∧ s'.os = s₁.os ∧ AllBare s'.gens) s₁) :
    WalkO q loose XP YP l.row.toRowW d [] (fun f vs => PySem.call f vs) := by
  intro w s₀ s₁ mg mb G Y fa o pm cd doc dV kV ho hd hcd hD hmg hg args vals as hpre hlay hrd hwl hlo
  obtain rfl : dV = .none := Dflts.none hD hdf
  obtain rfl : kV = .none := Dflts.noKw hD
  obtain ⟨a, vs, ns, rfl, rfl, hobj, hints, hlen⟩ := script_of hn hpre hwl
  refine enter_call (codeAny_mono (call w s₀ s₁ mg mb fa o pm cd doc a vs ns G Y ho (fd_plain hd) hcd hmg hobj hints hlen hg) fun r s' hq => ?_)
  obtain ⟨rfl, h2, h3, h4⟩ := hq
  exact ⟨.inl ⟨.bool true, .bool true, [], rfl, fun _ => rfl, .bool true, post_true l _, fun _ => ⟨List.Pairwise.nil, fun _ hm => (nomatch hm)⟩⟩, h2, h3, h4⟩
section
variable {prog : Program} {w : World} {A : Around} {E : Value → Shared → Prop} {s : Shared} {K : Frag}
def noObjs (h : Heap) : Heap := { h with objs := #[] }
def ledger (h : Heap) (L d : Addr) : List (Addr × Obj) := (List.range h.objs.size).filterMap fun a => if a = L ∨ a = d then none else (h.get? a).map fun o => (a, o)
end
end Att
namespace L2
open PySem PySem.Spec PyProof.Rows
theorem vals_ints : ∀ {vs : List Value} {ns : List Int}, IntsAre vs ns → Vals (ns.map V.int) vs
  | _, _, .nil => .nil
  | _, _, .cons n t h => .cons ⟨t, rfl⟩ (vals_ints h)
def Only (H : Hp) : Prop := ∀ b, H b = none ∨ ∃ o xs, H b = some (.frz o (.lst xs))
theorem law_call {P : Program} {w : World} {K : PySem.W.Frag} {mg mb : Str → Option Value} {CX : CXT} {k : Nat} {fa a : Addr} {fd : FuncData} {x : Str} {sp : Sp} {s₁ : Shared} {vs : List Value} {ns : List Int}
    (KX : K.In s₁.heap) (hns : s₁.heap.Ns mainGlobals mg) (hb : s₁.heap.Ns builtinsNs mb) (hbb : ∀ x : Str, x ≠ "__name__" → mb x = bootBuiltins x) (hlim : s₁.heap.NoLimit) (hg : s₁.gens = #[])
    (ha : s₁.heap.get? a = some { cls := .type "list", data := .seq vs.toArray }) (hi : IntsAre vs ns) (hl : ns.length ≤ sizeLine) (hr : Room k callerA)
    (F : ∀ base : Heap, K.In base → base.Ns mainGlobals mg → FnOk P w K mg base CX k fa fd [x] sp) (hbind : ∀ (s : Shared) (u : Value), BindsTo s fd ⟨[u], []⟩ [(x, u)])
    (hsp : ∀ H : Hp, Only H → SqL K H a (ns.map V.int) → sp [.ref a] H (fun v _ => v = .bl true) fun _ _ _ => False)
    (hCX : ∀ H e s', CX [] H s₁ (fun _ _ _ => False) e s' → False) :
    codeAny (model P w) callerA (.call (.ref fa) ⟨[.ref a], []⟩) (fun r s' => r = .ok (.ret (.bool true)) ∧ OldK s₁.heap s'.heap ∧ s'.os = s₁.os ∧ AllBare s'.gens) s₁ := by
  have rv := vals_ints hi
  have lenV := hi.length
  have core : ∀ H : Hp, Only H → SqL K H a (ns.map V.int) → HOk P w H s₁.heap → (∀ b, H b ≠ none → b = a) → (H a ≠ none → K.lookup a = none) →
      codeAny (model P w) callerA (.call (.ref fa) ⟨[.ref a], []⟩) (fun r s' => r = .ok (.ret (.bool true)) ∧ OldK s₁.heap s'.heap ∧ s'.os = s₁.os ∧ AllBare s'.gens) s₁ := by
    intro H hO hS hok hA hK
    have base_of : ∀ {b : Addr} {o : Obj}, s₁.heap.get? b = some o → H b = none → (hidT s₁.heap H).get? b = some o := fun e n => hidT_get e n
    have noA : ∀ {b : Addr} {o : Obj} {es : Array DictEntry} {ep : Nat}, s₁.heap.get? b = some o → o.data = .dict es ep → H b = none := fun {b o es ep} e d => by
      cases q : H b with
      | none => rfl
      | some u =>
        have e' : b = a := hA b (by rw [q]; simp)
        subst e'
        rw [ha] at e; cases e
        have d' : Data.seq vs.toArray _ = Data.dict es ep := d
        cases d'
    have nsK : ∀ {b : Addr} {m : Str → Option Value}, s₁.heap.Ns b m → (hidT s₁.heap H).Ns b m := fun {b m} ⟨o, es, ep, e, d, r⟩ => ⟨o, es, ep, base_of e (noA e d), d, r⟩
    have hKb : K.In (hidT s₁.heap H) := fun b o e => base_of (KX b o e) (by
      cases q : H b with
      | none => rfl
      | some u =>
        have e' : b = a := hA b (by rw [q]; simp)
        subst e'
        rw [hK (by rw [q]; simp)] at e; cases e)
    have hM : Mod K mg (hidT s₁.heap H) := ⟨hKb, nsK hns, ⟨mb, nsK hb, hbb⟩, let ⟨mc, h1, h2⟩ := hlim; ⟨mc, nsK h1, h2⟩⟩
    have e0 : Env0 P w K mg (hidT s₁.heap H) callerA [] s₁ H := ⟨rfl, hM, fun b o e => of_hidT e, Nat.le_of_eq (hidT_size _ _), trivial, fun b hb => absurd (show b ∈ ([] : List Addr) from hb) (by simp), hok, .of_eq hg⟩
    refine codeAny_mono ((F _ hKb (nsK hns)).run callerA [] s₁ H ⟨[.ref a], []⟩ [.ref a] [.ref a] _ _ hr e0 (hbind s₁ (.ref a)) (.cons rfl .nil) (hsp H hO hS)) fun r s' h => ?_
    cases r with
    | error e => exact (hCX H e s' h).elim
    | ok fl =>
      cases fl with
      | next => exact False.elim h
      | brk => exact False.elim h
      | cont => exact False.elim h
      | ret u =>
        obtain ⟨v, H', os, bare, un, hok', r', q⟩ := h
        have q' : v = .bl true := q
        subst q'
        obtain rfl : u = Value.bool true := r'
        refine ⟨rfl, OldK.of_keep fun b o e => ?_, os, bare⟩
        cases q : H b with
        | none => exact un.keep b o e q (by intro z; exact absurd (show b ∈ ([] : List Addr) from z) (by simp)) (by simp)
        | some u =>
          rcases hO b with z | ⟨ob, xs, z⟩
          · rw [q] at z; cases z
          · have z2 := un.frzs b ob _ z
            obtain ⟨e1, _⟩ := hok b _ z
            obtain ⟨e2, _⟩ := hok' b _ z2
            rw [e] at e1; cases e1
            exact e2
  cases hk : K.lookup a with
  | some o =>
    have e := KX a o hk
    rw [ha] at e
    cases e
    refine core (fun _ => none) (fun _ => .inl rfl) (.inr ⟨_, vs.toArray, _, hk, rfl, rfl, rfl, by rw [List.size_toArray, lenV]; exact hl, by simpa using rv⟩) (fun b u z => by have z' : (none : Option HO) = some u := z; cases z') (fun b z => absurd rfl z) fun z => absurd rfl z
  | none =>
    refine core (fun b => if b = a then some (.frz { cls := .type "list", data := .seq vs.toArray } (.lst (ns.map V.int))) else none) (fun b => ?_) (.inl (.inr ⟨{ cls := .type "list", data := .seq vs.toArray }, if_pos rfl⟩)) (fun b u z => ?_) (fun b z => ?_) fun _ => hk
    · by_cases hb : b = a
      · exact .inr ⟨_, _, if_pos hb⟩
      · exact .inl (if_neg hb)
    · by_cases hb : b = a
      · have z' := (if_pos hb).symm.trans z
        cases z'
        subst hb
        exact ⟨ha, by rw [List.length_map]; exact hl, vs, _, rv, ha⟩
      · have z' := (if_neg hb).symm.trans z
        cases z'
    · by_cases hb : b = a
      · exact hb
      · exact absurd (if_neg hb) z
end L2
namespace L2
open PySem PySem.Spec PyProof.Rows
abbrev KOf {K : PySem.W.Frag} {h : Heap} (_ : K.In h) : PySem.W.Frag := K
theorem walk_of {l : PySem.W.OpenLaw} {n k : Nat} {q : Program} {loose : List Str} {XP : (Str → Option Value) → Heap → Prop} {YP : World → Heap → Prop} {d : DefRec} {K : Params → PySem.W.Frag} {CX : World → CXT} {sp : World → Sp} {x : Str}
    (hn : l.most = some n) (hn2 : n ≤ sizeLine) (hdf : d.params.defaults = []) (hr : Room k callerA)
    (hY : ∀ (w : World) (h : Heap), YP w h → (K w.params).In h)
    (F : ∀ (w : World) (mg : Str → Option Value) (fa : Addr) (h : Heap), (K w.params).In h → h.Ns mainGlobals mg → mg d.name = some (.ref fa) →
      ∃ fd : FuncData, (∀ (s : Shared) (u : Value), BindsTo s fd ⟨[u], []⟩ [(x, u)]) ∧
        ∀ base : Heap, (K w.params).In base → base.Ns mainGlobals mg → FnOk l.prog w (K w.params) mg base (CX w) k fa fd [x] (sp w))
    (hsp : ∀ (w : World) (H : Hp) (a : Addr) (ns : List Int), ns.length ≤ n → Only H → SqL (K w.params) H a (ns.map V.int) → sp w [.ref a] H (fun v _ => v = .bl true) fun _ _ _ => False)
    (hCX : ∀ (w : World) (H : Hp) (s : Shared) (e : Value) (s' : Shared), CX w [] H s (fun _ _ _ => False) e s' → False) :
    PySem.W.WalkO q loose XP YP l.row.toRowW d [] (fun f vs => PySem.call f vs) := by
  refine Att.attach_call hn hdf fun w s₀ s₁ mg mb fa o pm cd doc a vs ns G Y ho hd hcd hmg hobj hints hlen hg => ?_
  have KX := hY w _ Y
  obtain ⟨fd, hb, hF⟩ := F w mg fa _ KX G.T.g hmg
  exact law_call KX G.T.g G.T.b G.T.builtins G.T.nolimit hg hobj hints (Nat.le_trans hlen hn2) hr hF hb (fun H hO hS => hsp w H a ns hlen hO hS) fun H e s' => hCX w H s₁ e s'
end L2
/- THE LAST THEOREM (shape; LID, My.* are yours):
   My.Adr: a structure of the addresses that your layer names (classes, functions); My.Txt K t: a structure (Prop) of the equations over K;
   My.txt_mk : {K} {implicit addresses ..} (e1 : nsIn K mainGlobals "law" = some (some (.ref f))) (e2 : K.lookup f = some ⟨oc, od, .func (fnOf "law" "law" params body scope dV kV doc pm an cdv ct), sl⟩) (e3 : codeIn K cdv "law" = true) .. : ∃ t, My.Txt K t
set_option maxRecDepth 100000 in
set_option maxHeartbeats 0 in
theorem PySem.Challenge.cw_LID_holds : PySem.Challenge.rw_LID.Holds := by
  w_on; o_law; k_head; (case hw => w_witness2)
  k_fill
  refine L2.walk_of (l := PySem.Challenge.rw_LID) (n := 63) (k := 40) (x := "script") (CX := fun w => ..) (sp := fun _ => My.sp_law) rfl (by decide) rfl ⟨rfl, by decide, by decide⟩ (fun w h Y => PySem.W.kIn_of Y) ?F ?S ?C
  case F =>
    intro w mg fa h KX G hmg
    have T : ∃ t, My.Txt (L2.KOf KX) t := by
      dsimp only [L2.KOf]                          -- K must stand as «<heap const> w.params» for k_is
      refine' My.txt_mk ?e1 ?e2 ?e3 ..
      (case e1 => PySem.W.k_is)                    -- in the order: a name -> its address -> its object -> its parts
      (case e2 => PySem.W.k_is)
      ..
    obtain ⟨t, T⟩ := T
    have e0 := hmg.symm.trans (PySem.W.mg_of KX G T.law)
    cases e0                                       -- fa is the law's own address
    exact ⟨_, fun s u => .of_eq rfl, fun base kb nb => My.law_fn T kb nb⟩     -- if «.of_eq rfl» comes too early: refine' ⟨_, ?b, fun base kb nb => My.law_fn T kb nb⟩; exact fun s u => .of_eq rfl
  case S => exact fun w H a ns hl hO hS => ..
  case C => exact ..
(the tactic k_is has no namespace: write k_is) -/
namespace L2
open PySem PySem.Spec PyProof.Rows
def inClass (s : Stmt) (j : Nat) : Stmt := match s with
  | .ClassDef _ _ _ body _ _ _ _ _ _ _ => body.getD j (.Pass ⟨0, 0, 0, 0⟩)
  | _ => .Pass ⟨0, 0, 0, 0⟩
def defArgs (s : Stmt) : Arguments := match s with
  | .FunctionDef _ a _ _ _ _ _ _ _ _ => a
  | _ => { posonlyargs := [], args := [], vararg := none, kwonlyargs := [], kw_defaults := [], kwarg := none, defaults := [] }
def defBody (s : Stmt) : List Stmt := match s with
  | .FunctionDef _ _ b _ _ _ _ _ _ _ => b
  | _ => []
def defScope (s : Stmt) : Scope := match s with
  | .FunctionDef _ _ _ _ _ _ sc _ _ _ => sc
  | _ => { kind := .function, names := [], isGenerator := false, isCoroutine := false }
abbrev CX0 : CXT := fun _ _ _ _ _ _ => False
abbrev E0 : XK := fun _ _ _ => False
theorem pass0 {X : Cx} : Passes CX0 X E0 := fun _ _ _ _ _ _ _ h => h.elim
structure Fun (K : PySem.W.Frag) (x qual : Str) (st : Stmt) (f : Addr) (fd : FuncData) : Prop where
  ex : ∃ (oc : Value) (od : Option Addr) (kV doc pm : Value) (an : Option Addr) (cdv ct : Value) (osl : Array (Option Value)),
    fd = PySem.W.fnOf x qual (defArgs st) (defBody st) (defScope st) .none kV doc pm an cdv ct ∧ K.lookup f = some ⟨oc, od, .func fd, osl⟩ ∧ PySem.W.codeIn K cdv qual = true
  kp : PySem.W.keepIn K (.ref f) = true
section
variable {P : Program} {w : World} {K : PySem.W.Frag} {mg : Str → Option Value} {base : Heap}
theorem Fun.ok {x qual : Str} {st : Stmt} {f : Addr} {fd : FuncData} {N ps : List Str} {k : Nat} {sp : Sp} (F : Fun K x qual st f fd) (S : FnScope N ps (defScope st)) (len : ∀ vs H Q E, sp vs H Q E → vs.length = ps.length)
    (hbody : ∀ (cdv : Value) (A : Around) (outer : List Env) (s : Shared) (H : Hp) (vs : List V) (Q : VK) (E : XK), Room k (A.deeper (envOfC qual (defScope st) s.heap.objs.size f cdv)) → sp vs H Q E →
      ∃ t, PSs (cxOf CX0 P w K mg base N qual (defScope st) f cdv A outer s H E).nox (defBody st) t ∧ t { nx := fun _ H' => Q .non H', rt := Q } (start N vs) H) : FnOk P w K mg base CX0 (k + 1) f fd ps sp := by
  obtain ⟨oc, od, kV, doc, pm, an, cdv, ct, osl, rfl, lk, hcd⟩ := F.ex
  refine fn_of lk hcd S len fun A outer s H vs Q E hr hsp => ?_
  obtain ⟨t, h, q⟩ := hbody cdv A outer s H vs Q E hr hsp
  exact ⟨t, h.nox, q⟩
theorem Fun.binds {x qual : Str} {st : Stmt} {f : Addr} {fd : FuncData} {ps : List Str} (F : Fun K x qual st f fd)
    (h : ∀ (kV doc pm : Value) (an : Option Addr) (cdv ct : Value) (us : List Value), us.length = ps.length → bindArgs (PySem.W.fnOf x qual (defArgs st) (defBody st) (defScope st) .none kV doc pm an cdv ct) ⟨us, []⟩ = pure (ps.zip us)) : Binds K fd ps [] := by
  obtain ⟨oc, od, kV, doc, pm, an, cdv, ct, osl, rfl, lk, hcd⟩ := F.ex
  exact .all (h kV doc pm an cdv ct)
theorem fun_mk {x qual : Str} {st : Stmt} {f : Addr} {oc : Value} {od an : Option Addr} {osl : Array (Option Value)} {kV doc pm cdv ct : Value} (l : K.lookup f = some ⟨oc, od, .func (PySem.W.fnOf x qual (defArgs st) (defBody st) (defScope st) .none kV doc pm an cdv ct), osl⟩)
    (c : PySem.W.codeIn K cdv qual = true) (k : PySem.W.keepIn K (.ref f) = true) : Fun K x qual st f (PySem.W.fnOf x qual (defArgs st) (defBody st) (defScope st) .none kV doc pm an cdv ct) := ⟨⟨oc, od, kV, doc, pm, an, cdv, ct, osl, rfl, l, c⟩, k⟩
end
theorem small1000 {n : Nat} (h : n ≤ 1000) : n < sizeLine := Nat.lt_of_le_of_lt h (by decide)
section
variable {X : Cx}
theorem pv (i : Nat) {x : Str} {pos : Pos} (hN : X.N[i]? = some x := by rfl) (hv : Vis X.env.scope x := by first | exact Or.inl rfl | exact Or.inr (Or.inl rfl) | exact Or.inr (Or.inr rfl)) (hd : (x == ("__debug__" : Str)) = false := by decide)
    (hcd : (x == ("__classdict__" : Str)) = false := by decide) : PE X (.Name x pos) (tVar i) := pe_var hN hv hd hcd
end
theorem iteF {A B : Prop} (h : B) : if false = true then A else B := by
  rw [if_neg Bool.false_ne_true]
  exact h
theorem iteT {A B : Prop} (h : A) : if true = true then A else B := by
  rw [if_pos rfl]
  exact h
theorem ite2 {c A B : Prop} [Decidable c] (h1 : c → A) (h2 : ¬ c → B) : if c then A else B := by
  by_cases h : c
  · rw [if_pos h]
    exact h1 h
  · rw [if_neg h]
    exact h2 h
def Same (H H' : Hp) : Prop := ∀ b o, H b = some o → H' b = some o
theorem Same.refl (H : Hp) : Same H H := fun _ _ h => h
theorem Same.trans {H H1 H2 : Hp} (a : Same H H1) (b : Same H1 H2) : Same H H2 := fun c o h => b c o (a c o h)
theorem Same.free {H H' : Hp} (e : Same H H') {l : Addr} (h : H' l = Option.none) : H l = Option.none := by
  cases q : H l with
  | none => rfl
  | some o =>
    rw [e l o q] at h
    cases h
theorem Same.seq {K : PySem.W.Frag} {H H' : Hp} {a : Addr} {xs : List V} (e : Same H H') (h : SqL K H a xs) : SqL K H' a xs := by
  rcases h with (h | ⟨o, h⟩) | h
  · exact .inl (.inl (e _ _ h))
  · exact .inl (.inr ⟨o, e _ _ h⟩)
  · exact .inr h
end L2
set_option Elab.async false
set_option linter.all false
set_option maxRecDepth 100000
namespace L2
open PySem PySem.Spec PyProof.Rows
section
variable {prog : Program} {w : World} {A : Around} {R : Result → Shared → Prop} {s : Shared}
theorem compLoop_any {elt target iter : Expr} {ifs : List Expr} {scope : Scope} {pos : Pos} {it acc : Value} {env : Env} (I : Nat → Shared → Prop)
    (turn : ∀ n s, I n s → wpAny (model prog w) A (pyNext it) (fun r s1 => match r with
      | none => R (.ok .next) s1
      | some v => wpAny (model prog w) A (letOwnedTupleGo target it v) (fun _ s2 => wpAny (model prog w) A (assign target env v) (fun _ s3 =>
          wpAny (model prog w) A (forIn ifs true fun c r => if r = true then do let ok ← isTrue c env (eval c env); pure (ForInStep.yield ok) else pure (ForInStep.yield r)) (fun ok s4 =>
            if ok = true then wpAny (model prog w) A (eval elt env) (fun x s5 =>
              wpAny (model prog w) A (call (.builtin "list.append") [acc, x]) (fun _ s6 => ∃ m, m < n ∧ I m s6) (fun _ _ => False) s5) (fun _ _ => False) s4
            else ∃ m, m < n ∧ I m s4) (fun _ _ => False) s3) (fun _ _ => False) s2) (fun _ _ => False) s1) (fun _ _ => False) s)
    (n : Nat) (h : I n s) :
    codeAny (model prog w) A (.compLoop (.ListComp elt [⟨target, iter, ifs, 0⟩] scope pos) 0 it acc env) R s := by
  have nof : ∀ {α : Type} {t : Sem α} {Q Q' : α → Shared → Prop} {E : Value → Shared → Prop} {s : Shared}, wpAny (model prog w) A t Q (fun _ _ => False) s → (∀ a s, Q a s → Q' a s) → wpAny (model prog w) A t Q' E s :=
    fun h1 h2 => wpAny_mono h1 h2 fun _ _ f => f.elim
  refine codeAny_loop rfl I (fun n s hI => ?_) n h
  show wpAny _ A (Sem.onRaise (compTurn (.ListComp elt [⟨target, iter, ifs, 0⟩] scope pos) 0 it acc env) (fun x => do noteFrame x env; theTreesLotGoes x)) _ _ s
  refine wpAny_noted ?_
  rw [compTurn_list]
  refine wpAny_bind (wpAny_standAt (wpAny_bind (nof (turn n s hI) (fun r s1 h1 => ?_))))
  cases r with
  | none => exact wpAny_pure h1
  | some v =>
    refine wpAny_bind (nof h1 fun _ s2 h2 => ?_)
    refine wpAny_bind (nof h2 fun _ s3 h3 => ?_)
    refine wpAny_bind (nof h3 fun ok s4 h4 => ?_)
    cases ok with
    | false => exact wpAny_pure ⟨rfl, h4⟩
    | true => exact wpAny_bind (wpAny_bind (nof h4 fun x s5 h5 => wpAny_bind (nof h5 fun _ s6 h6 => wpAny_pure (wpAny_pure ⟨rfl, h6⟩))))
end
theorem closure_ok {env : Env} : ∀ {names : List (Str × NameKind)} (acc : List (Str × Addr)), (∀ n, (n, NameKind.free) ∈ names → ∃ c, env.cells.lookup n = some c) → (∀ x c, acc.lookup x = some c → env.cells.lookup x = some c) →
    ∃ cl, (forIn (m := Sem) names acc fun (p : Str × NameKind) cs => if p.2 == .free then do let c ← cellOf env p.1; pure (ForInStep.yield ((p.1, c) :: cs)) else pure (ForInStep.yield cs)) = pure cl ∧
      (∀ x c, cl.lookup x = some c → env.cells.lookup x = some c) ∧ (∀ x, (acc.lookup x).isSome = true → (cl.lookup x).isSome = true) ∧ ∀ n, (n, NameKind.free) ∈ names → (cl.lookup n).isSome = true
  | [], acc, _, h => ⟨acc, rfl, h, fun _ e => e, fun _ e => by simp at e⟩
  | (n, k) :: r, acc, hf, h => by
    by_cases hk : k = .free
    · subst hk
      obtain ⟨c, hc⟩ := hf n List.mem_cons_self
      have hn : ∀ x d, ((n, c) :: acc).lookup x = some d → env.cells.lookup x = some d := fun x d e => by
        rw [List.lookup_cons] at e
        by_cases hx : (x == n) = true
        · rw [hx] at e
          have e1 : x = n := eq_of_beq hx
          subst e1
          cases e
          exact hc
        · rw [Bool.not_eq_true] at hx
          rw [hx] at e
          exact h x d e
      obtain ⟨cl, e, h1, h2, h3⟩ := closure_ok (env := env) (names := r) ((n, c) :: acc) (fun m hm => hf m (List.mem_cons_of_mem _ hm)) hn
      have has : (((n, c) :: acc).lookup n).isSome = true := by rw [List.lookup_cons, beq_self_eq_true]; rfl
      refine ⟨cl, ?_, h1, fun x hx => h2 x ?_, fun m hm => ?_⟩
      · rw [List.forIn_cons, ← e]
        have ec : cellOf env n = pure c := by unfold cellOf; rw [hc]
        simp only [ec, beq_self_eq_true, if_true, pure_bind]
      · rw [List.lookup_cons]
        split
        · rfl
        · exact hx
      · rcases List.mem_cons.mp hm with z | z
        · cases z; exact h2 _ has
        · exact h3 m z
    · have hb : (k == NameKind.free) = false := by simpa using hk
      obtain ⟨cl, e, h1, h2, h3⟩ := closure_ok (env := env) (names := r) acc (fun m hm => hf m (List.mem_cons_of_mem _ hm)) h
      refine ⟨cl, ?_, h1, h2, fun m hm => ?_⟩
      · rw [List.forIn_cons, ← e]
        simp only [hb, Bool.false_eq_true, if_false, pure_bind]
      · rcases List.mem_cons.mp hm with z | z
        · cases z; exact absurd rfl hk
        · exact h3 m z
theorem closure_of {env : Env} {scope : Scope} (hf : ∀ n, (n, NameKind.free) ∈ scope.names → ∃ c, env.cells.lookup n = some c) :
    ∃ cl, closureFor scope env = pure cl ∧ (∀ x c, cl.lookup x = some c → env.cells.lookup x = some c) ∧ ∀ n, (n, NameKind.free) ∈ scope.names → (cl.lookup n).isSome = true := by
  obtain ⟨cl, e, h1, _, h3⟩ := closure_ok (env := env) (names := scope.names) [] hf (fun x c e => by simp at e)
  refine ⟨cl, ?_, h1, h3⟩
  rw [closureFor, ← bind_pure (pure cl), ← e]
def capS (cap : List (Option Nat)) (σ : St) : St := cap.map fun k => k.bind fun k => (σ[k]?).bind id
structure CapOk (X : Cx) (scope : Scope) (N' : List Str) (cap : List (Option Nat)) : Prop where
  len : cap.length = N'.length
  at_ : ∀ (j k : Nat), cap[j]? = some (some k) → ∃ x, N'[j]? = some x ∧ X.N[k]? = some x ∧ scope.names.lookup x = some .free ∧ X.env.kindOf x = some .cell
structure CScope (scope : Scope) : Prop where
  kind : scope.kind = .function
  cell : ∀ y ∈ scope.names, y.2 ≠ .cell
  names : ∀ y ∈ scope.names, y.2 = .local → scope.names.lookup y.1 = some .local
def cxComp (X : Cx) (N' : List Str) (scope : Scope) (cl : List (Str × Addr)) (C : Addr) (fp : List Addr) (s : Shared) (H : Hp) : Cx :=
  { X with N := N', s₀ := s, H₀ := H, env := compEnvC scope cl C X.env, outer := X.stack, stack := X.stack, ex := fp, fn := fun _ => false, pn := [], xe := fun _ _ => False }
theorem relabel_look {env : Env} {x : Str} (hk : (env.scope.kind == .function) = true) (he : env.kindOf x = some .cell) : ∀ {names : List (Str × NameKind)}, names.lookup x = some .free →
    (names.map fun (n, k) => if (k == NameKind.free && env.scope.kind == .function && env.kindOf n == some .cell) then (n, NameKind.cell) else (n, k)).lookup x = some .cell
  | [], h => by simp at h
  | (n, k) :: r, h => by
    have ih := @relabel_look env x hk he r
    show List.lookup x ((if (k == NameKind.free && env.scope.kind == .function && env.kindOf n == some .cell) = true then (n, NameKind.cell) else (n, k)) :: _) = _
    cases hx : x == n with
    | true =>
      simp only [List.lookup_cons, hx] at h
      cases h
      have e1 : x = n := eq_of_beq hx
      subst e1
      rw [if_pos (by rw [hk, he]; rfl)]
      simp [List.lookup_cons]
    | false =>
      simp only [List.lookup_cons, hx] at h
      split <;> (simp only [List.lookup_cons, hx]; exact ih h)
theorem relabel_free {env : Env} {x : Str} : ∀ {names : List (Str × NameKind)}, (∀ y ∈ names, y.2 ≠ .cell) →
    ((names.map fun (n, k) => if (k == NameKind.free && env.scope.kind == .function && env.kindOf n == some .cell) then (n, NameKind.cell) else (n, k)).lookup x = some .cell ∨
     (names.map fun (n, k) => if (k == NameKind.free && env.scope.kind == .function && env.kindOf n == some .cell) then (n, NameKind.cell) else (n, k)).lookup x = some .free) → (x, NameKind.free) ∈ names := by
  intro names hc h
  have hm : (x, NameKind.cell) ∈ (names.map fun (n, k) => if (k == NameKind.free && env.scope.kind == .function && env.kindOf n == some .cell) then (n, NameKind.cell) else (n, k)) ∨
      (x, NameKind.free) ∈ (names.map fun (n, k) => if (k == NameKind.free && env.scope.kind == .function && env.kindOf n == some .cell) then (n, NameKind.cell) else (n, k)) :=
    h.imp PySem.mem_of_lookup PySem.mem_of_lookup
  have key : ∀ k', (x, k') ∈ (names.map fun (n, k) => if (k == NameKind.free && env.scope.kind == .function && env.kindOf n == some .cell) then (n, NameKind.cell) else (n, k)) → (k' = .cell ∨ k' = .free) → (x, NameKind.free) ∈ names := by
    intro k' hk' hor
    obtain ⟨⟨n, k⟩, hn, e⟩ := List.mem_map.mp hk'
    dsimp only at e
    split at e
    · rename_i hcond
      have hfr : k = .free := by
        simp only [Bool.and_eq_true] at hcond
        exact eq_of_beq hcond.1.1
      subst hfr
      cases e
      exact hn
    · cases e
      rcases hor with rfl | rfl
      · exact absurd rfl (hc _ hn)
      · exact hn
  rcases hm with z | z
  · exact key _ z (.inl rfl)
  · exact key _ z (.inr rfl)
section
variable {X : Cx} {pins : List (Addr × Obj)} {σ : St} {H : Hp} {s : Shared} {N' : List Str} {scope : Scope} {cap : List (Option Nat)} {cl : List (Str × Addr)} {fp : List Addr} {h4 : Heap}
theorem inv_comp (I : Inv X pins σ H s) (S : CScope scope) (hcap : CapOk X scope N' cap) (hcl : ∀ x c, cl.lookup x = some c → X.env.cells.lookup x = some c) (hcl2 : ∀ n, (n, NameKind.free) ∈ scope.names → (cl.lookup n).isSome = true)
    (hf : ∀ b ∈ fp, FpOk X pins H b) (ho : ∀ b ∈ fp, b < s.heap.objs.size) {m : Str → Option Value} (hns : h4.Ns s.heap.objs.size m) (k : ∀ b o, s.heap.get? b = some o → h4.get? b = some o) (t : Nat) :
    Inv (cxComp X N' scope cl s.heap.objs.size fp s H) [] (capS cap σ) H { s with heap := h4, toks := t } := by
  have hkf : (X.env.scope.kind == ScopeKind.function) = true := by rw [I.ok.kind]; rfl
  refine ⟨⟨I.ok.mod, S.kind, I.ok.glob, I.ok.blt, Nat.le_refl _, fun x y c h1 h2 => I.ok.inj x y c (hcl x c h1) (hcl y c h2), fun x hx => ?_, fun x c z => absurd z (by simp [cxComp]), I.ok.hd, I.ok.frames, .inl rfl, fun b hb => ⟨?_, fun x c e => (hf b hb).2.2.2.2.1 x c (hcl x c e)⟩,
    I.bs, Nat.le_trans I.ok.bsz I.sz, fun b o e hb => ?_, fun b hb hfs => ?_, I.stack, I.stkFree⟩, rfl, I.bare, Un.kept k, ⟨m, hns, fun i x v hN hσ hv => ?_⟩, fun x c e => ?_, I.hok.fresh (Nat.le_refl _), fun x c e => I.freeC x c (hcl x c e), fun p hp => absurd hp (by simp [cxComp]), I.hok.kept k, ?_⟩
  · have hx' := relabel_free (env := X.env) S.cell hx
    exact Option.isSome_iff_exists.mp (hcl2 x hx')
  · exact Nat.ne_of_lt (ho b hb)
  · rcases (hf b hb).2.2.2.1 with z | z
    · exact I.ok.noex b o e z
    · exact absurd (Nat.lt_of_lt_of_le (Heap.lt_size e) (Nat.le_trans I.ok.bsz z)) (Nat.lt_irrefl _)
  · rcases List.mem_cons.mp (I.stkSub b hfs) with z | z
    · exact (hf b hb).2.1 z
    · exact (hf b hb).2.2.1 z
  · have hcap1 : ∃ kk, cap[i]? = some (some kk) ∧ σ[kk]? = some (some v) := by
      unfold capS at hσ
      rw [List.getElem?_map] at hσ
      cases e1 : cap[i]? with
      | none => rw [e1] at hσ; cases hσ
      | some o =>
        rw [e1] at hσ
        cases o with
        | none => cases hσ
        | some kk =>
          refine ⟨kk, rfl, ?_⟩
          have hσ' : (σ[kk]?).bind id = some v := Option.some.inj hσ
          cases e2 : σ[kk]? with
          | none => rw [e2] at hσ'; cases hσ'
          | some o2 => rw [e2] at hσ'; exact congrArg some hσ'
    obtain ⟨kk, e1, e2⟩ := hcap1
    obtain ⟨x', g1, g2, g3, g4⟩ := hcap.at_ i kk e1
    have ex : x = x' := Option.some.inj (hN.symm.trans g1)
    subst ex
    obtain ⟨m0, _, hl⟩ := I.loc
    obtain ⟨u, ru, lk⟩ := hl kk x v g2 e2 (.inr (.inl g4))
    refine ⟨u, ru, ?_⟩
    rcases lk with ⟨z, _⟩ | ⟨_, c, hc, hcell⟩
    · rw [g4] at z; cases z
    · obtain ⟨c', hc'⟩ := Option.isSome_iff_exists.mp (hcl2 x (PySem.mem_of_lookup g3))
      have e3 := hcl x c' hc'
      rw [hc] at e3
      cases e3
      obtain ⟨oc, g5, g6⟩ := hcell
      exact .inr ⟨.inl (relabel_look hkf g4 g3), c, hc', oc, k _ _ g5, g6⟩
  · obtain ⟨v, oc, g5, g6⟩ := I.cell x c (hcl x c e)
    exact ⟨v, oc, k _ _ g5, g6⟩
  · show (capS cap σ).length = N'.length
    unfold capS
    rw [List.length_map]
    exact hcap.len
end
def PTs (X : Cx) (ifs : List Expr) (t : TT) : Prop :=
  ∀ (pins : List (Addr × Obj)) (s : Shared) (σ : St) (H : Hp) (Q : Bool → Hp → Prop), Inv X pins σ H s → t σ H Q →
    wpAny (model X.prog X.w) X.A (forIn ifs true fun c r => if r = true then do let ok ← isTrue c X.env (eval c X.env); pure (ForInStep.yield ok) else pure (ForInStep.yield r)) (TP X pins σ Q) X.xe s
def tNoIf : TT := fun _ H Q => Q true H
theorem pts_nil {X : Cx} : PTs X [] tNoIf := fun _ _ _ H _ I h => wpAny_pure ⟨H, I, h⟩
theorem pts_one {X : Cx} {c : Expr} {t : TT} (h : PT X c t) : PTs X [c] t := fun pins s σ H Q I q => wpAny_tests_one (h pins s σ H Q I q)
def SubS (σ σ' : St) : Prop := σ'.length = σ.length ∧ ∀ (i : Nat) v, σ[i]? = some (some v) → σ'[i]? = some (some v)
theorem SubS.refl (σ : St) : SubS σ σ := ⟨rfl, fun _ _ e => e⟩
theorem SubS.set {σ σ' : St} {j : Nat} {v : V} (h : SubS σ σ') (hj : σ[j]? = some none) : SubS σ (σ'.set j (some v)) := by
  refine ⟨by rw [List.length_set]; exact h.1, fun i u e => ?_⟩
  by_cases hi : j = i
  · subst hi; rw [hj] at e; cases e
  · rw [List.getElem?_set_ne hi]; exact h.2 i u e
def tComp (wi : TI) (g : TG) (tc : TT) (te : TE) (cap : List (Option Nat)) : TE := fun σ H Q => wi σ H fun J H1 => ∀ D, H1 D = none → ∃ W : Nat → Nat → Hp → Prop, (∃ m, W 0 m (upd H1 D (.lst []))) ∧ ∀ i m H2, W i m H2 →
  (J.stop i H2 ∧ Q (.ref D) H2) ∨ (J.go i H2 ∧ ∀ x H3, J.yld i H2 x H3 → g x (capS cap σ) H3 fun σ4 H4 => SubS (capS cap σ) σ4 ∧ tc σ4 H4 fun b H5 =>
    if b = true then te σ4 H5 fun y H6 => ∃ ys, H6 D = some (.lst ys) ∧ ys.length < sizeLine ∧ ∃ m', m' < m ∧ W (i + 1) m' (upd H6 D (.lst (ys ++ [y]))) else ∃ m', m' < m ∧ W (i + 1) m' H5)
theorem comp_core {X : Cx} {elt tg iter : Expr} {ifs : List Expr} {scope : Scope} {pos : Pos} {wi : TI} {g : TG} {tc : TT} {te : TE} {N' : List Str} {cap : List (Option Nat)} {pins : List (Addr × Obj)} {s : Shared} {σ : St} {H : Hp} {Q : VK} {use : Option (Value → Sem Unit)} {Qv : Value → Shared → Prop} {cl : List (Str × Addr)} (hcalm : X.calm = true) (S : CScope scope)
    (hclos : closureFor scope X.env = pure cl) (hcl : ∀ x c, cl.lookup x = some c → X.env.cells.lookup x = some c) (hcl2 : ∀ n, (n, NameKind.free) ∈ scope.names → (cl.lookup n).isSome = true) (hcap : CapOk X scope N' cap) (hi : PI X tg iter wi) (hg : ∀ cl C fp s H, PG (cxComp X N' scope cl C fp s H) tg g)
    (hc : ∀ cl C fp s H, PTs (cxComp X N' scope cl C fp s H) ifs tc) (he : ∀ cl C fp s H, PE (cxComp X N' scope cl C fp s H) elt te) (hs : ∀ x, foldedSetIterable iter X.env x = pure x)
    (I : Inv X pins σ H s) (h : tComp wi g tc te cap σ H Q)
    (fin : ∀ (D : Addr) (fp : List Addr) (s3 s6 : Shared) (H3 H5 : Hp), Inv X pins σ H3 s3 → (∀ b ∈ fp, FpOk X pins H3 b) → Inv (cxComp X N' scope cl s3.heap.objs.size fp s3 H3) [] (capS cap σ) H5 s6 → Q (.ref D) H5 → compPost (model X.prog X.w) X.A X.xe use Qv (.ref D) s3.heap.objs.size (.ok .next) s6) :
    wpAny (model X.prog X.w) X.A (comprehension (.ListComp elt [⟨tg, iter, ifs, 0⟩] scope pos) scope X.env (firstIterPos [⟨tg, iter, ifs, 0⟩] pos) (newList []) (firstAsync [⟨tg, iter, ifs, 0⟩]) (firstIter [⟨tg, iter, ifs, 0⟩] X.env) use) Qv X.xe s := by
  refine wpAny_comprehension_free (use := use) rfl hs hclos S.kind S.names (thn (hi pins s σ H _ I h) fun xv s1 h1 => thn h1 fun itv s2 h2 => ?_)
  obtain ⟨it, fp, tn, J, H2, rfl, I2, T, st2, f2, hR⟩ := h2
  have fpo : ∀ b ∈ fp, b < s2.heap.objs.size := fun b hb => by obtain ⟨o, e, _⟩ := T.obj _ _ st2 b hb; exact Heap.lt_size e
  refine wpAny_newList ?_
  have I3 : Inv X pins σ (upd H2 s2.heap.objs.size (.lst [])) { s2 with heap := s2.heap.push { cls := .type "list", data := .seq ([] : List Value).toArray }, toks := s2.toks } := I2.lnew (its := []) (ys := []) .nil (Nat.zero_le _)
  obtain ⟨W, ⟨m0, w0⟩, turn⟩ := hR s2.heap.objs.size I2.fresh
  have f3 : ∀ b ∈ fp, FpOk X pins (upd H2 s2.heap.objs.size (.lst [])) b := fun b hb => ⟨by rw [upd_ne (Nat.ne_of_lt (fpo b hb))]; exact (f2 b hb).1, (f2 b hb).2⟩
  generalize hH3 : upd H2 s2.heap.objs.size (.lst []) = H3 at I3 w0 f3
  generalize hD : s2.heap.objs.size = D at I3 turn f3 hH3
  have st3 : tn 0 (s2.heap.push { cls := .type "list", data := .seq ([] : List Value).toArray }) := T.keep _ _ _ st2 fun b hb o e => Heap.get?_push_of_some _ e
  have fpo3 : ∀ b ∈ fp, b < (s2.heap.push { cls := .type "list", data := .seq ([] : List Value).toArray }).objs.size := fun b hb => by rw [Heap.size_push]; exact Nat.lt_succ_of_lt (fpo b hb)
  generalize hs3 : ({ s2 with heap := s2.heap.push { cls := .type "list", data := .seq ([] : List Value).toArray }, toks := s2.toks } : Shared) = s3 at I3
  have hs3' : s2.heap.push { cls := .type "list", data := .seq ([] : List Value).toArray } = s3.heap := by rw [← hs3]
  rw [hs3'] at st3 fpo3
  refine wpAny_newFunctionEnv S.cell (by intro y hy; simp at hy) (fun h4 hns4 hsb4 => ?_) S.kind
  have k34 : ∀ b o, s3.heap.get? b = some o → h4.get? b = some o := fun b o e => (hsb4.2 b (Nat.ne_of_lt (Heap.lt_size e))).trans (Heap.get?_push_of_some _ e)
  have J4 := inv_comp (N' := N') (cap := cap) I3 S hcap hcl hcl2 f3 fpo3 hns4 k34 (s3.toks + ([] : List (Str × Value)).length)
  have st4 : tn 0 h4 := T.keep _ _ _ st3 fun b hb o e => k34 b o e
  have stat : ∀ {H' : Hp}, (∀ b ∈ fp, H' b = none) → ∀ b ∈ fp, FpOk (cxComp X N' scope cl s3.heap.objs.size fp s3 H3) [] H' b := fun hn b hb =>
    ⟨hn b hb, Nat.ne_of_lt (fpo3 b hb), fun hfs => (by
      rcases List.mem_cons.mp (I3.stkSub b hfs) with z | z
      · exact (f3 b hb).2.1 z
      · exact (f3 b hb).2.2.1 z), .inl hb, fun x c e => (f3 b hb).2.2.2.2.1 x c (hcl x c e), fun p hp => absurd hp (by simp [cxComp])⟩
  have loop : codeAny (model X.prog X.w) X.A (.compLoop (.ListComp elt [⟨tg, iter, ifs, 0⟩] scope pos) 0 (.ref it) (.ref D) (compEnvC scope cl s3.heap.objs.size X.env))
      (compPost (model X.prog X.w) X.A X.xe use Qv (.ref D) s3.heap.objs.size) { s3 with heap := h4, toks := s3.toks + ([] : List (Str × Value)).length } := by
    refine compLoop_any (fun n s' => ∃ i H', Inv (cxComp X N' scope cl s3.heap.objs.size fp s3 H3) [] (capS cap σ) H' s' ∧ tn i s'.heap ∧ (∀ b ∈ fp, H' b = none) ∧ W i n H') ?_ m0 ⟨0, H3, J4, st4, fun b hb => (f3 b hb).1, w0⟩
    rintro n s5 ⟨i, H5, I5, st5, fr5, w5⟩
    rcases turn i n H5 w5 with ⟨stop, q⟩ | ⟨go, step⟩
    · refine thn (T.done (cxComp X N' scope cl s3.heap.objs.size fp s3 H3) rfl rfl rfl hcalm i [] s5 _ H5 _ I5 (stat fr5) st5 stop) fun r s6 ⟨hr, I6⟩ => ?_
      subst hr
      exact fin D fp s3 s6 H3 H5 I3 f3 I6 q
    · refine thn (T.item (cxComp X N' scope cl s3.heap.objs.size fp s3 H3) rfl rfl rfl hcalm i [] s5 _ H5 _ I5 (stat fr5) st5 go) fun r s6 ⟨u, hr, h6⟩ => ?_
      subst hr
      refine thn h6 fun _ s7 ⟨x, H7, I7, r7, y7, st7, fr7⟩ => ?_
      have I7' := I7.pinned (stat fr7) (T.obj _ _ st7)
      have again : ∀ {s9 : Shared} {σ9 : St} {H9 : Hp} {m' : Nat}, SubS (capS cap σ) σ9 → Inv (cxComp X N' scope cl s3.heap.objs.size fp s3 H3) ([] ++ pinsAt fp s7.heap) σ9 H9 s9 → m' < n → W (i + 1) m' H9 →
          ∃ m, m < n ∧ ∃ i H', Inv (cxComp X N' scope cl s3.heap.objs.size fp s3 H3) [] (capS cap σ) H' s9 ∧ tn i s9.heap ∧ (∀ b ∈ fp, H' b = none) ∧ W i m H' := fun {s9 σ9 H9 m'} sub I9 hm w9 => by
        refine ⟨m', hm, i + 1, H9, I9.unpinned.weak sub.1.symm sub.2, T.keep _ _ _ st7 fun b hb o e => (I9.pin (b, o) (List.mem_append_right _ (List.mem_append_right _ (mem_pinsAt hb e)))).1, fun b hb => ?_, w9⟩
        obtain ⟨o, e, d⟩ := T.obj _ _ st7 b hb
        exact (I9.pin (b, o) (List.mem_append_right _ (List.mem_append_right _ (mem_pinsAt hb e)))).2.1
      refine thn (hg _ _ _ _ _ _ s7 _ H7 x u _ I7' r7 (step x H7 y7)) fun _ s8 ⟨σ8, H8, I8, sub8, q8⟩ => ?_
      refine thn (hc _ _ _ _ _ _ s8 σ8 H8 _ I8 q8) fun ok s9 ⟨H9, I9, q9⟩ => ?_
      cases ok with
      | false =>
        obtain ⟨m', hm, w'⟩ := q9
        exact again sub8 I9 hm w'
      | true =>
        refine thn (he _ _ _ _ _ _ s9 σ8 H9 _ I9 q9) fun v s10 ⟨y, H10, I10, r10, ys, hDy, hlen, m', hm, w'⟩ => ?_
        refine thn (mt_append _ s10 σ8 H10 (.ref D) [y] (.ref D) [v] (fun _ H11 => H11 = upd H10 D (.lst (ys ++ [y]))) I10 rfl (.cons r10 .nil) ⟨D, ys, y, rfl, rfl, hDy, hlen, rfl⟩) fun _ s11 ⟨_, H11, I11, _, e11⟩ => ?_
        subst e11
        exact again sub8 I11 hm w'
  exact codeAny_compStart_list loop (T.self _ 0 _ _ _ st4 loop)
theorem pe_comp {X : Cx} {elt tg iter : Expr} {ifs : List Expr} {scope : Scope} {pos : Pos} {wi : TI} {g : TG} {tc : TT} {te : TE} {N' : List Str} {cap : List (Option Nat)} (hcalm : X.calm = true) (S : CScope scope)
    (hfree : ∀ y ∈ scope.names, y.2 = .free → X.env.kindOf y.1 = some .cell) (hcap : CapOk X scope N' cap) (hi : PI X tg iter wi) (hg : ∀ cl C fp s H, PG (cxComp X N' scope cl C fp s H) tg g)
    (hc : ∀ cl C fp s H, PTs (cxComp X N' scope cl C fp s H) ifs tc) (he : ∀ cl C fp s H, PE (cxComp X N' scope cl C fp s H) elt te) (hs : ∀ x, foldedSetIterable iter X.env x = pure x := by intro _; rfl) :
    PE X (.ListComp elt [⟨tg, iter, ifs, 0⟩] scope pos) (tComp wi g tc te cap) := by
  intro pins s σ H Q I h
  have hcells : ∀ n, (n, NameKind.free) ∈ scope.names → ∃ c, X.env.cells.lookup n = some c := fun n hn => I.ok.has n (.inl (hfree _ hn rfl))
  obtain ⟨cl, hclos, hcl, hcl2⟩ := closure_of hcells
  rw [eval_ListComp]
  refine comp_core hcalm S hclos hcl hcl2 hcap hi hg hc he hs I h fun D fp s3 s6 H3 H5 I3 f3 I6 q => ?_
  obtain ⟨m6, hn6, _⟩ := I6.loc
  refine ⟨m6, hn6, fun h7 hs7 => ⟨.ref D, H5, ?_, rfl, q⟩⟩
  have nC : ∀ b o, s3.heap.get? b = some o → b ≠ s3.heap.objs.size := fun b o e => Nat.ne_of_lt (Heap.lt_size e)
  have u6 : Un (frs X.stack) fp H3 H5 s3.heap s6.heap := I6.base
  have u7 : Un (frs X.stack) fp H3 H5 s3.heap h7 := ⟨fun b o e n1 n2 n3 => (hs7.2 b (nC b o e)).trans (u6.keep b o e n1 n2 n3), fun b o e n1 n2 n3 => by
      obtain ⟨sl, e1⟩ := u6.slot b o e n1 n2 n3
      exact ⟨sl, (hs7.2 b (nC b o e)).trans e1⟩, u6.free, fun b o e n3 => by
      obtain ⟨o', e1⟩ := u6.there b o e n3
      exact ⟨o', (hs7.2 b (nC b o e)).trans e1⟩, u6.tups, u6.frzs, u6.tbls⟩
  have hok7 : HOk X.prog X.w H5 h7 := fun a o e => (I6.hok a o e).stay (fun b u hb e1 => (hs7.2 b (by
      intro z
      have hfr : H5 s3.heap.objs.size = none := I6.free
      rcases hb with rfl | hb
      · rw [z, hfr] at e; cases e
      · rw [z, hfr] at hb; cases hb)).trans e1) (fun _ z => z) fun _ _ z => z
  exact I3.call' (s' := { s6 with heap := h7 }) I6.os u7 hok7 I6.bare fun b hb => ⟨(f3 b hb).2.2.2.1, (f3 b hb).2.1, (f3 b hb).2.2.2.2.1, (f3 b hb).2.2.2.2.2⟩
end L2
set_option Elab.async false
set_option linter.all false
set_option maxRecDepth 100000
namespace L2
open PySem PySem.Spec PyProof.Rows
section
variable {X : Cx} {a b : Expr} {ta tb : TE} {pos : Pos} {tg : Expr}
def CDivB (_ j : Int) : Prop := 0 < j ∧ j < 2 ^ 1000
theorem op_fdivB : OpR X (binaryOp .FloorDiv) (rI CDivB fun i j => .int (i / j)) := opI fun i j _ _ _ _ _ hc q => by
  obtain ⟨h1, h2⟩ := hc
  have h3 : j.natAbs < 2 ^ 1000 := by
    have e : ((j.natAbs : Nat) : Int) = j := Int.natAbs_of_nonneg (Int.le_of_lt h1)
    have e2 : ((2 ^ 1000 : Nat) : Int) = 2 ^ 1000 := by rw [Int.natCast_pow]; rfl
    exact Int.ofNat_lt.mp (by rw [e2, e]; exact h2)
  have h4 : j.natAbs ≠ 0 := by omega
  refine floordiv_int (by omega) (by rw [Int.fdiv_eq_ediv_of_nonneg i (Int.le_of_lt h1)]; exact q) (.inl (PyProof.noPylong_of_log2 ?_))
  exact Nat.lt_trans ((Nat.log2_lt h4).mpr h3) (by decide)
def CMulB (i j : Int) : Prop := CMul i j ∨ (i.natAbs < 2 ^ 1000 ∧ j.natAbs < 2 ^ 1000)
theorem intBits_le {k : Int} {n : Nat} (h : k.natAbs < 2 ^ n) : Builtin.Int.intBits k ≤ n := by
  unfold Builtin.Int.intBits
  split
  · exact Nat.zero_le _
  · rename_i hk
    have h0 : k.natAbs ≠ 0 := by
      intro z
      exact hk (by have : k = 0 := by omega
                   subst this; rfl)
    exact (Nat.log2_lt h0).mpr h
theorem CMulB.ok {i j : Int} (h : CMulB i j) : IntMulOk i j := by
  rcases h with h | ⟨h1, h2⟩
  · exact h.ok
  · have e1 := intBits_le h1
    have e2 := intBits_le h2
    unfold IntMulOk
    have e3 : Builtin.Int.intTooBig (Builtin.Int.intBits i + Builtin.Int.intBits j) = false := by
      unfold Builtin.Int.intTooBig
      have : ¬ (((Builtin.Int.intBits i : Nat) : Int) + ((Builtin.Int.intBits j : Nat) : Int) > (bitsLine : Nat)) := by
        have hb : (2000 : Nat) ≤ bitsLine := by decide
        omega
      exact decide_eq_false this
    rw [e3]
    simp
theorem op_mulB : OpR X (binaryOp .Mult) (rI CMulB fun i j => .int (i * j)) := opI fun _ _ _ _ _ _ _ hc q => mul_int q hc.ok
section
variable {prog : Program} {w : World} {A : Around} {E : Value → Shared → Prop} {s : Shared}
end
def Its (x : Str) : It := ⟨fun i _ => i < x.length, fun i H v H' => H' = H ∧ ∃ c, x.cps[i]? = some c ∧ v = .str ⟨#[c]⟩, fun i _ => i = x.length⟩
def iStr (tl : TE) : TI := fun σ H R => tl σ H fun x H1 => ∃ z, x = .str z ∧ R (Its z) H1
theorem go_strlike {M : Model} {A : Around} {E : Value → Shared → Prop} {s : Shared} {tg : Expr} {it : Value} {x : Str} {t : Tok} {Q : Unit → Shared → Prop} (h : Q () s) : wpAny M A (letOwnedTupleGo tg it (.str x t)) Q E s := by
  unfold letOwnedTupleGo
  cases tg <;> first
    | exact wpAny_pure h
    | (cases it <;> exact wpAny_pure h)
theorem turn_str {P : Program} {w : World} {K : PySem.W.Frag} {tg : Expr} (it : Addr) (x : Str) (t : Tok) (ty : String)
    (W : ∀ A' : Around, A'.handled = none → Walks P w A' it [it] [it] x.cps.size (SignAt x) (fun i h => h.IsStrIter it ty x t i))
    (self : ∀ (A : Around) (i : Nat) (s : Shared) (Q : Value → Shared → Prop) (E : Value → Shared → Prop), s.heap.IsStrIter it ty x t i → Q (.ref it) s → wpAny (model P w) A (pyIter (.ref it)) Q E s) :
    Turn P w K tg (Its x) [it] it (fun i h => h.IsStrIter it ty x t i) where
  mem := by simp
  obj := fun i h st b hb => by
    have e : b = it := by simpa using hb
    subst e
    obtain ⟨o, e, c, d⟩ := st
    exact ⟨o, e, fun v z => by rw [d] at z; cases z⟩
  keep := fun i h h' st k => by
    obtain ⟨o, e, r⟩ := st
    exact ⟨o, k it (by simp) o e, r⟩
  item := by
    intro X hP hw hK hc i pins s σ H E I hf st hg
    subst hP hw hK
    obtain ⟨f0, f1, f2, f3, f4, f5⟩ := hf it (by simp)
    refine (W X.A (I.ok.hd hc)).item i s _ _ hg st fun v h' tk hv st' kk => ?_
    obtain ⟨c, u, hcu, rfl⟩ := hv
    have I1 : Inv X pins σ H { s with heap := h', toks := tk } := I.turned (fun b o hb e => kk b o (by simpa using hb) e) f0 f1 f3 f4 f5
    exact ⟨_, rfl, go_strlike ⟨.str ⟨#[c]⟩, H, I1, ⟨u, rfl⟩, ⟨rfl, c, hcu, rfl⟩, st', fun b hb => (hf b hb).1⟩⟩
  done := by
    intro X hP hw hK hc i pins s σ H E I hf st hg
    subst hP hw hK
    obtain ⟨f0, f1, f2, f3, f4, f5⟩ := hf it (by simp)
    have e : i = x.cps.size := hg
    subst e
    exact (W X.A (I.ok.hd hc)).done s _ _ st fun h' tk kk => ⟨rfl, I.turned (fun b o hb e => kk b o (by simpa using hb) e) f0 f1 f3 f4 f5⟩
  self := fun A i s Q E st h => self A i s Q E st h
theorem Vals.insert {y : V} {u : Value} (ru : RelV y u) {xs : List V} {us : List Value} (k : Nat) (h : Vals xs us) : Vals (xs.take k ++ y :: xs.drop k) (us.take k ++ u :: us.drop k) :=
  Vals.append (Vals.take k h) (.cons ru (Vals.drop k h))
def rInsert : V → List V → Hp → VK → Prop := fun x vs H Q => ∃ l xs k y, x = .ref l ∧ vs = [.int k, y] ∧ H l = some (.lst xs) ∧ 0 ≤ k ∧ k < 2 ^ 62 ∧ xs.length < sizeLine ∧ Q .non (upd H l (.lst (xs.take k.toNat ++ y :: xs.drop k.toNat)))
theorem mt_insert : MtM X "list.insert" rInsert := by
  intro pins s σ H x vs v us Q I rx rv h
  obtain ⟨l, xs, k, y, rfl, rfl, hH, h0, h1, hz, q⟩ := h
  cases rx
  obtain ⟨u1, u, rfl, ⟨t, rfl⟩, ru⟩ := rv.two
  obtain ⟨z, its, n, r, hl, e⟩ := I.lstM hH
  have hfit : ¬ (!Builtin.List.listFitsIndex k) = true := by
    rw [fitsIndex_both (by omega) (by omega)]
    exact Bool.false_ne_true
  refine call_meets F.slot_list_insert ⟨_, e, rfl⟩ F.entry_list_insert (F.args_list_insert_3 _ _ _) (AutoSeq1.list_insert_list_int_val_1 l its.toArray n k t u hfit (by rw [List.size_toArray]; omega)) ⟨e, ?_⟩
  refine ⟨.non, _, I.lset (its' := its.take k.toNat ++ u :: its.drop k.toNat) hH e ?_ (r.insert ru k.toNat) ?_, rfl, q⟩
  · have hk : ¬ k < 0 := by omega
    simp only [hk, if_false, List.size_toArray]
    apply Array.ext'
    by_cases hm : k.toNat ≤ its.length
    · rw [Nat.min_eq_left hm]
      simp [List.take_append, List.drop_take, List.take_of_length_le]
    · have hm' : its.length ≤ k.toNat := by omega
      rw [Nat.min_eq_right hm', List.take_of_length_le hm', List.drop_of_length_le hm']
      simp
  · rw [List.length_append, List.length_cons, List.length_take, List.length_drop]
    omega
theorem kept_push {s : Shared} {h' : Heap} {o : Obj} (hk : ∀ b x, b ∉ [s.heap.objs.size] → (s.heap.push o).get? b = some x → h'.get? b = some x) : ∀ b x, s.heap.get? b = some x → h'.get? b = some x := fun b x e =>
  hk b x (fun hm => by
    have e1 := List.mem_singleton.mp hm
    have e2 := Heap.lt_size e
    rw [e1] at e2
    exact Nat.lt_irrefl _ e2) (Heap.get?_push_of_some _ e)
def rAll (K : PySem.W.Frag) : List V → Hp → VK → Prop := fun xs H Q => ∃ (p : Addr) (bs : List Bool), xs = [.ref p] ∧ SqL K H p (bs.map V.bl) ∧ Q (.bl (bs.all id)) H
def rAny (K : PySem.W.Frag) : List V → Hp → VK → Prop := fun xs H Q => ∃ (p : Addr) (bs : List Bool), xs = [.ref p] ∧ SqL K H p (bs.map V.bl) ∧ Q (.bl (bs.any id)) H
def rIsi (K : PySem.W.Frag) : List V → Hp → VK → Prop := fun xs H Q => ∃ x t n c, xs = [x, .ty n] ∧ TyOf K H x t ∧ PySem.W.kitOne K t (.type n) = some c ∧ Q (.bl c) H
theorem call_isi : CallR X (.builtin "isinstance") (rIsi X.K) := by
  intro pins s σ H xs us Q I r h
  obtain ⟨x, t, n, c, rfl, ty, e, q⟩ := h
  obtain ⟨u, w', rfl, ru, rw'⟩ := vals2 r
  cases rw'
  exact isinst_ok I ru ty e fun tk => ⟨.bl c, H, I.tok tk, rfl, q⟩
theorem part_pair {v : Value} {o : Option Int} (h : IsPart v o) : ∃ p : Option (Int × Tok), v = partValue p ∧ p.map (·.1) = o := by
  cases h with
  | none => exact ⟨none, rfl, rfl⟩
  | int i t => exact ⟨some (i, t), rfl, rfl⟩
def rSlS : V → Option Int → Option Int → Hp → VK → Prop := fun x lo hi H Q => ∃ z, x = .str z ∧ z.length ≤ sizeLine ∧ Q (.str (Txt.slice z lo hi)) H
theorem sl_str : SlR X rSlS := by
  intro pins s σ H x v vl vu lo hi sl Q I rx hs pl pu h
  obtain ⟨z, rfl, hz, q⟩ := h
  obtain ⟨t, rfl⟩ := rx
  obtain ⟨l, rfl, rfl⟩ := part_pair pl
  obtain ⟨u, rfl, rfl⟩ := part_pair pu
  refine ⟨"str", _, F.slot_str_getitem.lookup, typeIs_str _ _ _, wpAny_getItem_str_slice (l := l) (u := u) (st := none) hs rfl ?_⟩
  refine post_val_or_str ⟨Nat.le_trans (Txt.slice_le z _ _) hz, fun t' k => ⟨.str _, H, I.tok k, ⟨t', rfl⟩, q⟩⟩
end
end L2
set_option Elab.async false
set_option linter.all false
set_option maxRecDepth 100000
namespace L2
open PySem PySem.Spec PyProof.Rows
section
variable {prog : Program} {w : World} {A : Around} {E : Value → Shared → Prop} {s : Shared}
end
def rSortS (K : PySem.W.Frag) : List V → Hp → VK → Prop := fun xs H Q => ∃ p ss, xs = [.ref p] ∧ (SqL K H p (ss.map V.str) ∨ SqT K H p (ss.map V.str)) ∧ ss.length < 64 ∧
  ∀ l ss', H l = none → ss'.Perm ss → sortedS ss' = true → Q (.ref l) (upd H l (.lst (ss'.map V.str)))
abbrev D := PyData
mutual
def Rep (K : PySem.W.Frag) (H : Hp) : PyData → V → Prop
  | .none, v => v = .non
  | .bool b, v => v = .bl b
  | .int i, v => v = .int i
  | .str x, v => v = .str x
  | .tuple ds, v => ∃ a xs, v = .ref a ∧ SqT K H a xs ∧ RepL K H ds xs
  | .list ds, v => ∃ a xs, v = .ref a ∧ SqL K H a xs ∧ RepL K H ds xs
  | .dict _, _ => False
def RepL (K : PySem.W.Frag) (H : Hp) : List PyData → List V → Prop
  | [], xs => xs = []
  | d :: ds, xs => ∃ v vs, xs = v :: vs ∧ Rep K H d v ∧ RepL K H ds vs
end
theorem RepL.length {K : PySem.W.Frag} {H : Hp} : ∀ {ds : List D} {xs : List V}, RepL K H ds xs → xs.length = ds.length
  | [], _, h => by rw [show _ = [] from h]; rfl
  | d :: ds, _, h => by
    obtain ⟨v, vs, rfl, _, h2⟩ := h
    rw [List.length_cons, List.length_cons, RepL.length h2]
theorem RepL.get {K : PySem.W.Frag} {H : Hp} : ∀ {ds : List D} {xs : List V} {i : Nat} {d : D}, RepL K H ds xs → ds[i]? = some d → ∃ v, xs[i]? = some v ∧ Rep K H d v
  | [], _, _, _, _, e => by simp at e
  | d' :: ds, _, 0, d, h, e => by
    obtain ⟨v, vs, rfl, h1, _⟩ := h
    cases (show some d' = some d from e)
    exact ⟨v, rfl, h1⟩
  | d' :: ds, _, i + 1, d, h, e => by
    obtain ⟨v, vs, rfl, _, h2⟩ := h
    exact RepL.get (i := i) h2 e
theorem RepL.at_ {K : PySem.W.Frag} {H : Hp} : ∀ {ds : List D} {xs : List V} {i : Nat} {v : V}, RepL K H ds xs → xs[i]? = some v → ∃ d, ds[i]? = some d ∧ Rep K H d v
  | [], _, i, v, h, e => by rw [show _ = [] from h] at e; simp at e
  | d' :: ds, _, 0, d, h, e => by
    obtain ⟨v, vs, rfl, h1, _⟩ := h
    cases (show some v = some d from e)
    exact ⟨d', rfl, h1⟩
  | d' :: ds, _, i + 1, d, h, e => by
    obtain ⟨v, vs, rfl, _, h2⟩ := h
    exact RepL.at_ (i := i) h2 e
theorem RepL.append {K : PySem.W.Frag} {H : Hp} : ∀ {ds es : List D} {xs ys : List V}, RepL K H ds xs → RepL K H es ys → RepL K H (ds ++ es) (xs ++ ys)
  | [], _, _, _, h, g => by rw [show _ = [] from h]; exact g
  | d :: ds, es, _, ys, h, g => by
    obtain ⟨v, vs, rfl, h1, h2⟩ := h
    exact ⟨v, vs ++ ys, rfl, h1, RepL.append h2 g⟩
theorem RepL.take {K : PySem.W.Frag} {H : Hp} : ∀ {ds : List D} {xs : List V} (n : Nat), RepL K H ds xs → RepL K H (ds.take n) (xs.take n)
  | _, _, 0, _ => by simp [RepL]
  | [], _, n + 1, h => by rw [show _ = [] from h]; simp [RepL]
  | d :: ds, _, n + 1, h => by
    obtain ⟨v, vs, rfl, h1, h2⟩ := h
    exact ⟨v, vs.take n, rfl, h1, RepL.take n h2⟩
theorem RepL.drop {K : PySem.W.Frag} {H : Hp} : ∀ {ds : List D} {xs : List V} (n : Nat), RepL K H ds xs → RepL K H (ds.drop n) (xs.drop n)
  | _, _, 0, h => h
  | [], _, n + 1, h => by rw [show _ = [] from h]; simp [RepL]
  | d :: ds, _, n + 1, h => by
    obtain ⟨v, vs, rfl, h1, h2⟩ := h
    exact RepL.drop n h2
theorem RepL.one {K : PySem.W.Frag} {H : Hp} {d : D} {v : V} (h : Rep K H d v) : RepL K H [d] [v] := ⟨v, [], rfl, h, rfl⟩
def KeepT (K : PySem.W.Frag) (H H' : Hp) : Prop := ∀ a xs, SqT K H a xs → SqT K H' a xs
def KeepL (K : PySem.W.Frag) (H H' : Hp) : Prop := ∀ a xs, SqL K H a xs → SqL K H' a xs
mutual
def pureD : PyData → Bool
  | .tuple ds => pureDs ds
  | .list _ => false
  | .dict _ => false
  | _ => true
def pureDs : List PyData → Bool
  | [] => true
  | d :: ds => pureD d && pureDs ds
end
theorem pureDs_cons {d : D} {ds : List D} (p : pureDs (d :: ds) = true) : pureD d = true ∧ pureDs ds = true := by
  have : (pureD d && pureDs ds) = true := p
  simpa using this
mutual
theorem Rep.keep {K : PySem.W.Frag} {H H' : Hp} (k : KeepT K H H') (l : KeepL K H H') : ∀ {d : PyData} {v : V}, Rep K H d v → Rep K H' d v
  | .none, _, h => h
  | .bool _, _, h => h
  | .int _, _, h => h
  | .str _, _, h => h
  | .tuple ds, _, h => by
    obtain ⟨a, xs, rfl, h1, h2⟩ := h
    exact ⟨a, xs, rfl, k a xs h1, RepL.keep k l h2⟩
  | .list ds, _, h => by
    obtain ⟨a, xs, rfl, h1, h2⟩ := h
    exact ⟨a, xs, rfl, l a xs h1, RepL.keep k l h2⟩
  | .dict _, _, h => h.elim
theorem RepL.keep {K : PySem.W.Frag} {H H' : Hp} (k : KeepT K H H') (l : KeepL K H H') : ∀ {ds : List PyData} {xs : List V}, RepL K H ds xs → RepL K H' ds xs
  | [], _, h => h
  | d :: ds, _, h => by
    obtain ⟨v, vs, rfl, h1, h2⟩ := h
    exact ⟨v, vs, rfl, Rep.keep k l h1, RepL.keep k l h2⟩
end
mutual
theorem Rep.keepT {K : PySem.W.Frag} {H H' : Hp} (k : KeepT K H H') : ∀ {d : PyData} {v : V}, pureD d = true → Rep K H d v → Rep K H' d v
  | .none, _, _, h => h
  | .bool _, _, _, h => h
  | .int _, _, _, h => h
  | .str _, _, _, h => h
  | .tuple ds, _, p, h => by
    obtain ⟨a, xs, rfl, h1, h2⟩ := h
    exact ⟨a, xs, rfl, k a xs h1, RepL.keepT k p h2⟩
  | .list _, _, p, _ => by cases p
  | .dict _, _, p, _ => by cases p
theorem RepL.keepT {K : PySem.W.Frag} {H H' : Hp} (k : KeepT K H H') : ∀ {ds : List PyData} {xs : List V}, pureDs ds = true → RepL K H ds xs → RepL K H' ds xs
  | [], _, _, h => h
  | d :: ds, _, p, h => by
    obtain ⟨v, vs, rfl, h1, h2⟩ := h
    exact ⟨v, vs, rfl, Rep.keepT k (pureDs_cons p).1 h1, RepL.keepT k (pureDs_cons p).2 h2⟩
end
theorem Same.seqT {K : PySem.W.Frag} {H H' : Hp} {a : Addr} {xs : List V} (e : Same H H') (h : SqT K H a xs) : SqT K H' a xs := by
  rcases h with h | h
  · rcases h with h | ⟨o, h⟩
    · exact .inl (.inl (e _ _ h))
    · exact .inl (.inr ⟨o, e _ _ h⟩)
  · exact .inr h
theorem Same.keepT {K : PySem.W.Frag} {H H' : Hp} (e : Same H H') : KeepT K H H' := fun _ _ h => e.seqT h
theorem Same.keepL {K : PySem.W.Frag} {H H' : Hp} (e : Same H H') : KeepL K H H' := fun _ _ h => e.seq h
section
variable {X : Cx} {pins : List (Addr × Obj)} {σ : St} {H : Hp} {s : Shared}
mutual
theorem rep_reads (I : Inv X pins σ H s) : ∀ {d : PyData} {v : V} {u : Value}, Rep X.K H d v → RelV v u → ∃ as, Reads s.heap u d as
  | .none, _, _, h, r => by cases (show _ = V.non from h); cases (show _ = Value.none from r); exact ⟨_, .none⟩
  | .bool b, _, _, h, r => by cases (show _ = V.bl b from h); cases (show _ = Value.bool b from r); exact ⟨_, .bool b⟩
  | .int i, _, _, h, r => by cases (show _ = V.int i from h); obtain ⟨t, rfl⟩ := r; exact ⟨_, .int i t⟩
  | .str x, _, _, h, r => by cases (show _ = V.str x from h); obtain ⟨t, rfl⟩ := r; exact ⟨_, .str x t⟩
  | .tuple ds, _, _, h, r => by
    obtain ⟨a, xs, rfl, h1, h2⟩ := h
    cases (show _ = Value.ref a from r)
    obtain ⟨its, rv, p, hz⟩ := I.tuple h1
    obtain ⟨as, hr⟩ := repL_reads I h2 rv
    obtain ⟨o, ho, hc, n, hd⟩ := p
    exact ⟨_, .tuple ho hc hd (by simpa using hr)⟩
  | .list ds, _, _, h, r => by
    obtain ⟨a, xs, rfl, h1, h2⟩ := h
    cases (show _ = Value.ref a from r)
    obtain ⟨its, rv, p, hz⟩ := I.list h1
    obtain ⟨as, hr⟩ := repL_reads I h2 rv
    obtain ⟨o, ho, hc, n, hd⟩ := p.isList
    exact ⟨_, .list ho hc hd (by simpa using hr)⟩
  | .dict _, _, _, h, _ => h.elim
theorem repL_reads (I : Inv X pins σ H s) : ∀ {ds : List PyData} {xs : List V} {us : List Value}, RepL X.K H ds xs → Vals xs us → ∃ as, ReadsAll s.heap us ds as
  | [], _, _, h, r => by cases (show _ = [] from h); cases r; exact ⟨_, .nil⟩
  | d :: ds, _, _, h, r => by
    obtain ⟨v, vs, rfl, h1, h2⟩ := h
    cases r with
    | cons r1 r2 =>
      obtain ⟨as, g1⟩ := rep_reads I h1 r1
      obtain ⟨bs, g2⟩ := repL_reads I h2 r2
      exact ⟨_, .cons g1 g2⟩
end
end
def rEqD (K : PySem.W.Frag) : R2 := fun x y H Q => ∃ d e, Rep K H d x ∧ Rep K H e y ∧ d.canLay0 = true ∧ e.canLay0 = true ∧ d.depth ≤ 50 ∧ Q (.bl (PyData.eqv d e)) H
def rNeD (K : PySem.W.Frag) : R2 := fun x y H Q => ∃ d e, Rep K H d x ∧ Rep K H e y ∧ d.canLay0 = true ∧ e.canLay0 = true ∧ d.depth ≤ 50 ∧ Q (.bl (!PyData.eqv d e)) H
theorem op_eqD {X : Cx} (hu : X.A.units + 64 < cLine) : OpR X (compareOp .Eq) (rEqD X.K) := by
  intro pins s σ H x y v u Q I rx ry h
  obtain ⟨d, e, h1, h2, c1, c2, hd, q⟩ := h
  obtain ⟨as, g1⟩ := rep_reads I h1 rx
  obtain ⟨bs, g2⟩ := rep_reads I h2 ry
  exact SeqAt.compareEq_reads g1 g2 c1 c2 (by omega) ⟨.bl _, H, I, rfl, q⟩
theorem op_neD {X : Cx} (hu : X.A.units + 64 < cLine) : OpR X (compareOp .NotEq) (rNeD X.K) := by
  intro pins s σ H x y v u Q I rx ry h
  obtain ⟨d, e, h1, h2, c1, c2, hd, q⟩ := h
  obtain ⟨as, g1⟩ := rep_reads I h1 rx
  obtain ⟨bs, g2⟩ := rep_reads I h2 ry
  exact SeqAt.compareNe_reads g1 g2 c1 c2 (by omega) ⟨.bl _, H, I, rfl, q⟩
def rInD (K : PySem.W.Frag) (neg : Bool) : R2 := fun x y H Q => ∃ p xs d ds, y = .ref p ∧ (SqL K H p xs ∨ SqT K H p xs) ∧ Rep K H d x ∧ RepL K H ds xs ∧ d.canLay0 = true ∧ PyData.canLayAll0 ds = true ∧ d.depth ≤ 50 ∧
  Q (.bl (if neg then !(ds.any fun e => PyData.eqv e d) else ds.any fun e => PyData.eqv e d)) H
theorem canLay_at : ∀ {ds : List PyData} {i : Nat} {d : PyData}, PyData.canLayAll0 ds = true → ds[i]? = some d → d.canLay0 = true
  | [], _, _, _, e => by simp at e
  | d' :: ds, 0, d, h, e => by
    cases (show some d' = some d from e)
    have : (d'.canLay0 && PyData.canLayAll0 ds) = true := by simpa [PyData.canLayAll0] using h
    simp at this
    exact this.1
  | d' :: ds, i + 1, d, h, e => by
    have : (d'.canLay0 && PyData.canLayAll0 ds) = true := by simpa [PyData.canLayAll0] using h
    simp at this
    exact canLay_at (i := i) this.2 e
section
variable {X : Cx} {pins : List (Addr × Obj)} {σ : St} {H : Hp} {s : Shared}
open Classical in
noncomputable def anyOf (f : PyData → Bool) (us : List Value) (ds : List PyData) (u : Value) : Bool := match us.findIdx? (fun w => decide (w = u)) with
  | some i => match ds[i]? with
    | some e => f e
    | none => false
  | none => false
theorem anyOf_at {f : PyData → Bool} {us : List Value} {ds : List PyData} (hl : us.length = ds.length) (hsame : ∀ (i j : Nat) (u : Value) (a b : PyData), us[i]? = some u → us[j]? = some u → ds[i]? = some a → ds[j]? = some b → f a = f b) :
    ∀ (i : Nat) (u : Value) (e : PyData), us[i]? = some u → ds[i]? = some e → anyOf f us ds u = f e := by
    intro i u e hi he
    unfold anyOf
    cases hf : us.findIdx? (fun w => decide (w = u)) with
    | none =>
      have := List.findIdx?_eq_none_iff.mp hf u (List.mem_of_getElem? hi)
      simp at this
    | some j =>
      obtain ⟨hj, hp, _⟩ := List.findIdx?_eq_some_iff_getElem.mp hf
      have hju : us[j]? = some u := by
        rw [List.getElem?_eq_getElem hj]
        exact congrArg some (of_decide_eq_true hp)
      have hjd : j < ds.length := by rw [← hl]; exact hj
      dsimp only
      rw [List.getElem?_eq_getElem hjd]
      exact (hsame i j u e ds[j] hi hju he (List.getElem?_eq_getElem hjd)).symm
theorem any_anyOf {f : PyData → Bool} {us : List Value} {ds : List PyData} (hl : us.length = ds.length) (hsame : ∀ (i j : Nat) (u : Value) (a b : PyData), us[i]? = some u → us[j]? = some u → ds[i]? = some a → ds[j]? = some b → f a = f b) : us.any (anyOf f us ds) = ds.any f := by
  have key := anyOf_at hl hsame
  rw [Bool.eq_iff_iff, List.any_eq_true, List.any_eq_true]
  constructor
  · rintro ⟨u, hu, h⟩
    obtain ⟨i, hi, rfl⟩ := List.mem_iff_getElem.mp hu
    have hid : i < ds.length := by rw [← hl]; exact hi
    rw [key i _ ds[i] (List.getElem?_eq_getElem hi) (List.getElem?_eq_getElem hid)] at h
    exact ⟨_, List.getElem_mem hid, h⟩
  · rintro ⟨e, he, h⟩
    obtain ⟨i, hi, rfl⟩ := List.mem_iff_getElem.mp he
    have hiu : i < us.length := by rw [hl]; exact hi
    refine ⟨us[i], List.getElem_mem hiu, ?_⟩
    rw [key i _ ds[i] (List.getElem?_eq_getElem hiu) (List.getElem?_eq_getElem hi)]
    exact h
end
end L2
set_option Elab.async false
set_option linter.all false
set_option maxRecDepth 100000
namespace L2
open PySem PySem.Spec PyProof.Rows
def capChk (N : List Str) (sn cn : List (Str × NameKind)) (N' : List Str) (cap : List (Option Nat)) : Bool :=
  cap.length == N'.length && (List.range cap.length).all fun j => match cap[j]?, N'[j]? with
    | some (some k), some x => N[k]? == some x && cn.lookup x == some .free && sn.lookup x == some .cell
    | some none, _ => true
    | _, _ => false
def compChk (N : List Str) (sc scope : Scope) (N' : List Str) (cap : List (Option Nat)) : Bool :=
  capChk N sc.names scope.names N' cap && scope.kind == .function && (scope.names.all fun y => y.2 != .cell && (y.2 != .local || scope.names.lookup y.1 == some .local) && (y.2 != .free || sc.names.lookup y.1 == some .cell))
theorem compChk_ok {X : Cx} {N : List Str} {sc scope : Scope} {N' : List Str} {cap : List (Option Nat)} (hN : X.N = N) (hsc : X.env.scope = sc) (h : compChk N sc scope N' cap = true) :
    CScope scope ∧ (∀ y ∈ scope.names, y.2 = .free → X.env.kindOf y.1 = some .cell) ∧ CapOk X scope N' cap := by
  unfold compChk at h
  simp only [Bool.and_eq_true] at h
  obtain ⟨⟨h1, h2⟩, h3⟩ := h
  have h3' := List.all_eq_true.mp h3
  have hk : ∀ x, X.env.kindOf x = sc.names.lookup x := fun x => by rw [← hsc]; rfl
  refine ⟨⟨eq_of_beq h2, fun y hy e => ?_, fun y hy e => ?_⟩, fun y hy e => ?_, ?_⟩
  · have := h3' y hy
    rw [e] at this
    simp at this
  · have := h3' y hy
    rw [e] at this
    simpa using this
  · have := h3' y hy
    rw [e] at this
    rw [hk]
    simpa using this
  · unfold capChk at h1
    simp only [Bool.and_eq_true] at h1
    obtain ⟨g1, g2⟩ := h1
    refine ⟨eq_of_beq g1, fun j k e => ?_⟩
    have hj : j < cap.length := (List.getElem?_eq_some_iff.mp e).1
    have := List.all_eq_true.mp g2 j (List.mem_range.mpr hj)
    rw [e] at this
    cases hx : N'[j]? with
    | none => rw [hx] at this; cases this
    | some x =>
      rw [hx] at this
      simp only [Bool.and_eq_true] at this
      obtain ⟨⟨a1, a2⟩, a3⟩ := this
      exact ⟨x, rfl, by rw [hN]; exact eq_of_beq a1, eq_of_beq a2, by rw [hk]; exact eq_of_beq a3⟩
theorem pe_cmp1 {X : Cx} {elt tg iter : Expr} {ifs : List Expr} {scope : Scope} {pos : Pos} {wi : TI} {g : TG} {tc : TT} {te : TE} (N : List Str) (sc : Scope) (N' : List Str) (cap : List (Option Nat)) (hi : PI X tg iter wi)
    (hg : ∀ cl C fp s H, PG (cxComp X N' scope cl C fp s H) tg g) (hc : ∀ cl C fp s H, PTs (cxComp X N' scope cl C fp s H) ifs tc) (he : ∀ cl C fp s H, PE (cxComp X N' scope cl C fp s H) elt te)
    (hcalm : X.calm = true := by rfl) (hN : X.N = N := by rfl) (hsc : X.env.scope = sc := by rfl) (chk : compChk N sc scope N' cap = true := by decide +kernel) (hs : ∀ x, foldedSetIterable iter X.env x = pure x := by intro _; rfl) :
    PE X (.ListComp elt [⟨tg, iter, ifs, 0⟩] scope pos) (tComp wi g tc te cap) := by
  obtain ⟨a1, a2, a3⟩ := compChk_ok hN hsc chk
  exact pe_comp hcalm a1 a2 a3 hi hg hc he hs
section
variable {X : Cx} {tg : Expr} {pins : List (Addr × Obj)} {σ : St}
inductive Wk (K : PySem.W.Frag) (H : Hp) : V → It → Prop where
  | lst {a : Addr} {xs : List V} (h : SqL K H a xs) : Wk K H (.ref a) (Itl K a)
  | tup {a : Addr} {xs : List V} (h : SqT K H a xs) : Wk K H (.ref a) (Itt K a)
  | str (z : Str) : Wk K H (.str z) (Its z)
def iSeq (K : PySem.W.Frag) (tl : TE) : TI := fun σ H R => tl σ H fun x H1 => ∃ J, Wk K H1 x J ∧ R J H1
theorem pi_seq {l : Expr} {tl : TE} (hl : PE X l tl) : PI X tg l (iSeq X.K tl) := by
  intro pins s σ H R I h
  refine thn (hl pins s σ H _ I h) fun v s1 ⟨x, H1, I1, r1, q1⟩ => ?_
  obtain ⟨J, wk, q⟩ := q1
  have fin : ∀ b ∈ [s1.heap.objs.size], FpOk X pins H1 b := fun b hb => by
    have e : b = s1.heap.objs.size := by simpa using hb
    subst e
    exact I1.fpOk (Nat.le_refl _) (I1.hok.fresh (Nat.le_refl _))
  cases wk with
  | @lst a xs hq =>
    cases r1
    obtain ⟨its, rv, p, hz⟩ := I1.list hq
    refine wpAny_pyIter_list p.isList ?_
    exact ⟨s1.heap.objs.size, [s1.heap.objs.size], _, _, H1, rfl, I1.kept (t' := s1.toks) fun b o e => Heap.get?_push_of_some _ e, turn_list a _, ⟨_, Heap.get?_push_size _ rfl, rfl, rfl⟩, fin, q⟩
  | @tup a xs hq =>
    cases r1
    obtain ⟨its, rv, p, hz⟩ := I1.tuple hq
    refine wpAny_pyIter_tuple (show s1.heap.IsTuple a its.toArray from p) ?_
    exact ⟨s1.heap.objs.size, [s1.heap.objs.size], _, _, H1, rfl, I1.kept (t' := s1.toks) fun b o e => Heap.get?_push_of_some _ e, turn_tuple a _, ⟨_, Heap.get?_push_size _ rfl, rfl, rfl⟩, fin, q⟩
  | str z =>
    obtain ⟨t, rfl⟩ := r1
    cases ha : z.cps.all (· < 128) with
    | false =>
      refine wpAny_pyIter_wide ha ?_
      exact ⟨s1.heap.objs.size, [s1.heap.objs.size], _, Its z, H1, rfl, I1.kept (t' := s1.toks) fun b o' e => Heap.get?_push_of_some _ e, turn_str _ z t "str_iterator" (fun A' hA => Walks.strWide hA _ z t) (fun _ _ _ _ _ st hq => wpAny_pyIter_striter_wide st hq), ⟨_, Heap.get?_push_size _ rfl, rfl, rfl⟩, fin, q⟩
    | true =>
      refine wpAny_pyIter_ascii ha ?_
      exact ⟨s1.heap.objs.size, [s1.heap.objs.size], _, Its z, H1, rfl, I1.kept (t' := s1.toks) fun b o' e => Heap.get?_push_of_some _ e, turn_str _ z t "str_ascii_iterator" (fun A' hA => Walks.strAscii hA _ z t) (fun _ _ _ _ _ st hq => wpAny_pyIter_striter_ascii st hq), ⟨_, Heap.get?_push_size _ rfl, rfl, rfl⟩, fin, q⟩
end
end L2
set_option Elab.async false
set_option linter.all false
set_option maxRecDepth 100000
namespace L2
open PySem PySem.Spec PyProof.Rows
section
variable {h : Heap}
mutual
theorem reads_inj : ∀ {d e : PyData} {u : Value} {as bs : List Addr}, d.canLay0 = true → Reads h u d as → Reads h u e bs → d = e
  | .none, _, _, _, _, _, r, q => by cases r; cases q; rfl
  | .bool _, _, _, _, _, _, r, q => by cases r; cases q; rfl
  | .int _, _, _, _, _, _, r, q => by cases r; cases q; rfl
  | .str _, _, _, _, _, _, r, q => by cases r; cases q; rfl
  | .list xs, _, _, _, _, c, r, q => by
    cases r with
    | list h1 h2 h3 h4 =>
      cases q with
      | list g1 g2 g3 g4 =>
        rw [h1] at g1; cases g1
        rw [h3] at g3; cases g3
        rw [readsAll_inj c h4 g4]
      | tuple g1 g2 g3 g4 =>
        rw [h1] at g1; cases g1
        rw [h2] at g2
        injection g2 with z
        exact absurd z (by decide)
      | dict g1 g2 g3 g4 g5 =>
        rw [h1] at g1; cases g1
        rw [h2] at g2
        injection g2 with z
        exact absurd z (by decide)
  | .tuple xs, _, _, _, _, c, r, q => by
    cases r with
    | tuple h1 h2 h3 h4 =>
      cases q with
      | tuple g1 g2 g3 g4 =>
        rw [h1] at g1; cases g1
        rw [h3] at g3; cases g3
        rw [readsAll_inj c h4 g4]
      | list g1 g2 g3 g4 =>
        rw [h1] at g1; cases g1
        rw [h2] at g2
        injection g2 with z
        exact absurd z (by decide)
      | dict g1 g2 g3 g4 g5 =>
        rw [h1] at g1; cases g1
        rw [h2] at g2
        injection g2 with z
        exact absurd z (by decide)
  | .dict _, _, _, _, _, c, _, _ => nomatch c
theorem readsAll_inj : ∀ {ds es : List PyData} {us : List Value} {as bs : List Addr}, PyData.canLayAll0 ds = true → ReadsAll h us ds as → ReadsAll h us es bs → ds = es
  | [], _, _, _, _, _, r, q => by cases r; cases q; rfl
  | d :: ds, _, _, _, _, c, r, q => by
    have c' : d.canLay0 = true ∧ PyData.canLayAll0 ds = true := by simpa [PyData.canLayAll0] using c
    cases r with
    | cons r1 r2 =>
      cases q with
      | cons q1 q2 => rw [reads_inj c'.1 r1 q1, readsAll_inj c'.2 r2 q2]
end
end
section
variable {X : Cx} {a b : Expr} {ta tb : TE} {pos : Pos}
theorem in_core {pins : List (Addr × Obj)} {σ : St} {H : Hp} {s : Shared} (I : Inv X pins σ H s) (hu : X.A.units + 64 < cLine) {d : PyData} {ds : List PyData} {x : V} {xs : List V} {v : Value} {us : List Value} (h1 : Rep X.K H d x) (h2 : RepL X.K H ds xs) (rx : RelV x v) (rs : Vals xs us)
    (c1 : d.canLay0 = true) (c2 : PyData.canLayAll0 ds = true) (hd : d.depth ≤ 50) :
    (∀ y ∈ us, SeqAt.EqAt X.A.in1 s y v (anyOf (fun e => PyData.eqv e d) us ds y)) ∧ us.any (anyOf (fun e => PyData.eqv e d) us ds) = ds.any fun e => PyData.eqv e d := by
  have hlen : us.length = ds.length := by rw [← rs.length, h2.length]
  have uniq : ∀ (i j : Nat) (u : Value) (a b : PyData), us[i]? = some u → us[j]? = some u → ds[i]? = some a → ds[j]? = some b → PyData.eqv a d = PyData.eqv b d := by
    intro i j u a b hi hj ha hb
    obtain ⟨va, ea, ra⟩ := h2.get ha
    obtain ⟨vb, eb, rb⟩ := h2.get hb
    obtain ⟨ua, e1, r1⟩ := rs.get ea
    obtain ⟨ub, e2, r2⟩ := rs.get eb
    rw [hi] at e1; cases e1
    rw [hj] at e2; cases e2
    obtain ⟨_, q1⟩ := rep_reads I ra r1
    obtain ⟨_, q2⟩ := rep_reads I rb r2
    rw [reads_inj (canLay_at c2 ha) q1 q2]
  refine ⟨fun y hy => ?_, any_anyOf hlen uniq⟩
  obtain ⟨i, hi, rfl⟩ := List.mem_iff_getElem.mp hy
  have hid : i < ds.length := by rw [← hlen]; exact hi
  have hdi : ds[i]? = some ds[i] := List.getElem?_eq_getElem hid
  obtain ⟨vy, ey, ry⟩ := h2.get hdi
  obtain ⟨uy, e1, r1⟩ := rs.get ey
  rw [List.getElem?_eq_getElem hi] at e1
  have e1' : us[i] = uy := Option.some.inj e1
  obtain ⟨_, q1⟩ := rep_reads I ry r1
  obtain ⟨_, q2⟩ := rep_reads I h1 rx
  have hany : anyOf (fun e => PyData.eqv e d) us ds us[i] = PyData.eqv ds[i] d := anyOf_at hlen uniq i us[i] ds[i] (List.getElem?_eq_getElem hi) hdi
  rw [hany, e1']
  exact SeqAt.eqAt_reads _ _ _ _ _ _ _ _ q1 q2 (canLay_at c2 hdi) c1 (by show X.A.units + 1 + min _ _ < cLine; omega)
theorem op_inD (hu : X.A.units + 64 < cLine) : OpR X (compareOp .In) (rInD X.K false) := by
  intro pins s σ H x y v u Q I rx ry h
  obtain ⟨p, xs, d, ds, rfl, hq, h1, h2, c1, c2, hd, q⟩ := h
  cases ry
  rcases hq with hq | hq
  · obtain ⟨its, r, pl, hz⟩ := I.list hq
    obtain ⟨k1, k2⟩ := in_core I hu h1 h2 rx r c1 c2 hd
    refine SeqAt.in_listAt _ pl.isList (fun w hw => k1 w (by simpa using hw)) ⟨.bl _, H, I, rfl, ?_⟩
    rw [List.any_toArray, k2]
    exact q
  · obtain ⟨its, r, pl, hz⟩ := I.tuple hq
    obtain ⟨k1, k2⟩ := in_core I hu h1 h2 rx r c1 c2 hd
    refine SeqAt.in_tupleAt _ pl (fun w hw => k1 w (by simpa using hw)) ⟨.bl _, H, I, rfl, ?_⟩
    rw [List.any_toArray, k2]
    exact q
theorem op_notInD (hu : X.A.units + 64 < cLine) : OpR X (compareOp .NotIn) (rInD X.K true) := by
  intro pins s σ H x y v u Q I rx ry h
  obtain ⟨p, xs, d, ds, rfl, hq, h1, h2, c1, c2, hd, q⟩ := h
  cases ry
  rcases hq with hq | hq
  · obtain ⟨its, r, pl, hz⟩ := I.list hq
    obtain ⟨k1, k2⟩ := in_core I hu h1 h2 rx r c1 c2 hd
    refine SeqAt.notIn_listAt _ pl.isList (fun w hw => k1 w (by simpa using hw)) ⟨.bl _, H, I, rfl, ?_⟩
    rw [List.any_toArray, k2]
    exact q
  · obtain ⟨its, r, pl, hz⟩ := I.tuple hq
    obtain ⟨k1, k2⟩ := in_core I hu h1 h2 rx r c1 c2 hd
    refine SeqAt.notIn_tupleAt _ pl (fun w hw => k1 w (by simpa using hw)) ⟨.bl _, H, I, rfl, ?_⟩
    rw [List.any_toArray, k2]
    exact q
def rAddG (K : PySem.W.Frag) : R2 := fun x y H Q => rI0 (fun i j => .int (i + j)) x y H Q ∨ (∃ i j, x = .str i ∧ y = .str j ∧ i.length + j.length ≤ sizeLine ∧ Q (.str (i ++ j)) H) ∨ rCat x y H Q ∨ rCatT K x y H Q
def rMulG : R2 := fun x y H Q => rI CMulB (fun i j => .int (i * j)) x y H Q ∨ rRep x y H Q
def rEqG (K : PySem.W.Frag) : R2 := fun x y H Q => rEq x y H Q ∨ rEqD K x y H Q
def rNeG (K : PySem.W.Frag) : R2 := fun x y H Q => rNe x y H Q ∨ rNeD K x y H Q
theorem op_eqG (hu : X.A.units + 64 < cLine) : OpR X (compareOp .Eq) (rEqG X.K) := op_eq.or (op_eqD hu)
theorem op_neG (hu : X.A.units + 64 < cLine) : OpR X (compareOp .NotEq) (rNeG X.K) := op_ne.or (op_neD hu)
theorem op_ltG : OpR X (compareOp .Lt) (rI0 fun i j => .bl (decide (i < j))) := op_lt
theorem op_gtG : OpR X (compareOp .Gt) (rI0 fun i j => .bl (decide (j < i))) := op_gt
def rInG (K : PySem.W.Frag) (neg : Bool) : R2 := fun x y H Q => rIn K neg x y H Q ∨ rInD K neg x y H Q ∨
  ∃ i j, x = .str i ∧ y = .str j ∧ Q (.bl (if neg then !(!(Builtin.Str.occurrences j i 0 j.length 1).isEmpty) else !(Builtin.Str.occurrences j i 0 j.length 1).isEmpty)) H
theorem op_inG (hu : X.A.units + 64 < cLine) : OpR X (compareOp .In) (rInG X.K false) := op_in_seq.or ((op_inD hu).or op_in_str)
theorem op_notInG (hu : X.A.units + 64 < cLine) : OpR X (compareOp .NotIn) (rInG X.K true) := op_notIn_seq.or ((op_notInD hu).or op_notin_str)
def rSlG (K : PySem.W.Frag) : V → Option Int → Option Int → Hp → VK → Prop := fun x lo hi H Q => rSlL K x lo hi H Q ∨ rSlT K x lo hi H Q ∨ rSlS x lo hi H Q
end
def tMid (t : TS) : TS := fun D σ H => ∃ M : St → Hp → Prop, t { D with nx := M } σ H ∧ ∀ σ' H', M σ' H' → D.nx σ' H'
theorem ps_mid {X : Cx} {st : Stmt} {t : TS} (h : PS X st t) : PS X st (tMid t) := by
  intro pins s σ H D I q
  obtain ⟨M, ht, hm⟩ := q
  refine thn (h pins s σ H _ I ht) fun f s' q => ?_
  cases f with
  | next => obtain ⟨σ', H', I', q'⟩ := q; exact ⟨σ', H', I', hm _ _ q'⟩
  | cont => exact q
  | brk => exact q
  | ret v => exact q
theorem bt_len : bootBuiltins "len" = some (.builtin "len") := by decide +kernel
theorem bt_isinstance : bootBuiltins "isinstance" = some (.builtin "isinstance") := by decide +kernel
theorem bt_min : bootBuiltins "min" = some (.builtin "min") := by decide +kernel
theorem bt_sum : bootBuiltins "sum" = some (.builtin "sum") := by decide +kernel
theorem bt_int : bootBuiltins "int" = some (.type "int") := by decide +kernel
theorem bt_bool : bootBuiltins "bool" = some (.type "bool") := by decide +kernel
theorem bt_list : bootBuiltins "list" = some (.type "list") := by decide +kernel
theorem bt_tuple : bootBuiltins "tuple" = some (.type "tuple") := by decide +kernel
end L2
set_option Elab.async false
set_option linter.all false
set_option maxRecDepth 100000
namespace L2
open PySem PySem.Spec PyProof.Rows
section
variable {X : Cx} {tg : Expr} {a b l : Expr} {ta tb tl : TE} {pos : Pos}
theorem op_eqK (K : PySem.W.Frag) (hu : X.A.units + 64 < cLine) (hK : X.K = K := by rfl) : OpR X (compareOp .Eq) (rEqG K) := by subst hK; exact op_eqG hu
theorem op_neK (K : PySem.W.Frag) (hu : X.A.units + 64 < cLine) (hK : X.K = K := by rfl) : OpR X (compareOp .NotEq) (rNeG K) := by subst hK; exact op_neG hu
theorem op_inK (K : PySem.W.Frag) (hu : X.A.units + 64 < cLine) (hK : X.K = K := by rfl) : OpR X (compareOp .In) (rInG K false) := by subst hK; exact op_inG hu
theorem op_notInK (K : PySem.W.Frag) (hu : X.A.units + 64 < cLine) (hK : X.K = K := by rfl) : OpR X (compareOp .NotIn) (rInG K true) := by subst hK; exact op_notInG hu
theorem ix_K (K : PySem.W.Frag) (hK : X.K = K := by rfl) : IxR X (rIx K) := by subst hK; exact ix_seq
def rLen (K : PySem.W.Frag) : List V → Hp → VK → Prop := fun xs H Q => ∃ x n, xs = [x] ∧ LenV K x H n ∧ Q (.int n) H
theorem call_lenK (K : PySem.W.Frag) (hK : X.K = K := by rfl) : CallR X (.builtin "len") (rLen K) := by subst hK; exact call_len
theorem call_isiK (K : PySem.W.Frag) (hK : X.K = K := by rfl) : CallR X (.builtin "isinstance") (rIsi K) := by subst hK; exact call_isi
def rMkL (K : PySem.W.Frag) : List V → Hp → VK → Prop := fun xs H Q => ∃ p ys, xs = [.ref p] ∧ (SqL K H p ys ∨ SqT K H p ys) ∧ ∀ l, H l = none → Q (.ref l) (upd H l (.lst ys))
def rMkT (K : PySem.W.Frag) : List V → Hp → VK → Prop := fun xs H Q => ∃ p ys, xs = [.ref p] ∧ ((SqL K H p ys ∧ ∀ l, H l = none → Q (.ref l) (upd H l (.tup ys))) ∨ (SqT K H p ys ∧ Q (.ref p) H))
theorem call_listK (K : PySem.W.Frag) (hK : X.K = K := by rfl) : CallR X (.type "list") (rMkL K) := by subst hK; exact call_list_of
theorem call_tupleK (K : PySem.W.Frag) (hK : X.K = K := by rfl) : CallR X (.type "tuple") (rMkT K) := by subst hK; exact call_tuple_of
theorem pi_seqK (K : PySem.W.Frag) (hl : PE X l tl) (hK : X.K = K := by rfl) : PI X tg l (iSeq K tl) := by subst hK; exact pi_seq hl
def tTru (K : PySem.W.Frag) (ta : TE) : TT := fun σ H Q => ta σ H fun x H' => ∃ k, TruV K x H' k ∧ Q k H'
theorem pt_truthK (K : PySem.W.Frag) (ha : PE X a ta) (he : ∀ whole, isTrue a X.env whole = (do let v ← whole; standAt a.pos; holding [v] (truthy v))) (hK : X.K = K := by rfl) : PT X a (tTru K ta) := by subst hK; exact pt_truth ha he
theorem pg_tupK (K : PySem.W.Frag) {es : List Expr} {k : Nat} {t : TGs} {n : Nat} (hc : X.calm = true) (h : PGs X es t)
    (hn : (assignEach es X.env).length = n := by rfl) (hst : (assignEach es X.env).findIdx? (·.1) = none := by rfl) (hK : X.K = K := by rfl) : PG X (.Tuple es k pos) (gTup K n t) := by subst hK; exact pg_tup hc h hn hst
variable {o e : Expr} {es : List Expr} {to : TE} {t : TA} {name : Str} {apos cpos : Pos} {T id : String} {r : V → List V → Hp → VK → Prop}
theorem pe_bmK (K : PySem.W.Frag) (pa : PlainAttrs T) (slot : Slot T name id) (hty : typeOf (.builtin id) = pure (.type "method_descriptor")) (hm : MtR X id r) (ho : PE X o to) (ha : PA X (e :: es) t)
    (hbase : attributeBase o name X.env (eval o X.env) = eval o X.env := by rfl)
    (hfew : ((backTo cpos (starEach (e :: es) X.env)).all (fun x => !x.1) && (backToKw cpos (keywordEach [] X.env)).all (fun x => x.1.isSome)
      && decide ((e :: es).length + ([] : List Keyword).length + (if ([] : List Keyword).isEmpty then 0 else 1) < 30)) = true := by rfl)
    (hline : (apos.endLine == cpos.line) = true := by rfl) (hs : starEach (e :: es) X.env = (false, eval e X.env) :: starEach es X.env := by rfl) (hplain : (backTo cpos (starEach es X.env)).any (·.1) = false := by rfl) (hK : X.K = K := by rfl) :
    PE X (.Call (.Attribute o name apos) (e :: es) [] cpos) (tBM K T r to t) := by subst hK; exact pe_bm pa slot hty hm ho ha hbase hfew hline hs hplain
end
end L2
set_option Elab.async false
set_option linter.all false
set_option maxRecDepth 100000
namespace L2
open PySem PySem.Spec PyProof.Rows
def WL (H1 : Hp) (D : Addr) (n : Nat) (Pv : Nat → List V → Hp → Prop) : Nat → Nat → Hp → Prop := fun i m H2 => m = n - i ∧ i ≤ n ∧ Same H1 H2 ∧ ∃ ys, H2 D = some (.lst ys) ∧ ys.length ≤ i ∧ Pv i ys H2
theorem Same.upd {H H' : Hp} {p : Addr} {o : HO} (s : Same H H') (h : H p = none) : Same H (L2.upd H' p o) := fun b o' e => by rw [upd_ne (ne_of_none e h)]; exact s b o' e
theorem Same.new' {H : Hp} {p : Addr} {o : HO} (h : H p = none) : Same H (L2.upd H p o) := fun b o' e => by rw [upd_ne (ne_of_none e h)]; exact e
section
variable {K : PySem.W.Frag} {H1 H2 H6 : Hp} {D : Addr} {n i m : Nat} {Pv : Nat → List V → Hp → Prop} {ys : List V} {y : V}
theorem wl_next (hD : H1 D = none) (hi : i < n) (hm : m = n - i) (hn : n < sizeLine) (s12 : Same H1 H2) (hy : H2 D = some (.lst ys)) (hl : ys.length ≤ i) (s26 : Same H2 H6) (p : Pv (i + 1) (ys ++ [y]) (upd H6 D (.lst (ys ++ [y])))) :
    ∃ ys, H6 D = some (.lst ys) ∧ ys.length < sizeLine ∧ ∃ m', m' < m ∧ WL H1 D n Pv (i + 1) m' (upd H6 D (.lst (ys ++ [y]))) :=
  ⟨ys, s26 _ _ hy, by omega, n - (i + 1), by omega, rfl, hi, (s12.trans s26).upd hD, ys ++ [y], upd_same, by rw [List.length_append]; show ys.length + 1 ≤ i + 1; omega, p⟩
variable {g : TG} {tc : TT} {te : TE} {σc : St} {R : Hp → Prop}
abbrev CompGoal (J : It) (g : TG) (tc : TT) (te : TE) (σc : St) (H1 : Hp) (R : Hp → Prop) (D : Addr) : Prop := ∃ W : Nat → Nat → Hp → Prop, (∃ m, W 0 m (upd H1 D (.lst []))) ∧ ∀ i m H2, W i m H2 →
  (J.stop i H2 ∧ R H2) ∨ (J.go i H2 ∧ ∀ x H3, J.yld i H2 x H3 → g x σc H3 fun σ4 H4 => SubS σc σ4 ∧ tc σ4 H4 fun b H5 =>
    if b = true then te σ4 H5 fun y H6 => ∃ ys, H6 D = some (.lst ys) ∧ ys.length < sizeLine ∧ ∃ m', m' < m ∧ W (i + 1) m' (upd H6 D (.lst (ys ++ [y]))) else ∃ m', m' < m ∧ W (i + 1) m' H5)
abbrev TurnGoal (g : TG) (tc : TT) (te : TE) (σc : St) (H1 : Hp) (D : Addr) (n : Nat) (Pv : Nat → List V → Hp → Prop) (i m : Nat) (x : V) (H2 : Hp) : Prop := g x σc H2 fun σ4 H4 => SubS σc σ4 ∧ tc σ4 H4 fun b H5 =>
    if b = true then te σ4 H5 fun y H6 => ∃ ys, H6 D = some (.lst ys) ∧ ys.length < sizeLine ∧ ∃ m', m' < m ∧ WL H1 D n Pv (i + 1) m' (upd H6 D (.lst (ys ++ [y]))) else ∃ m', m' < m ∧ WL H1 D n Pv (i + 1) m' H5
theorem comp_lst {a : Addr} {xs : List V} (Pv : Nat → List V → Hp → Prop) (hq : SqL K H1 a xs) (hD : H1 D = none) (h0 : Pv 0 [] (upd H1 D (.lst [])))
    (hs : ∀ i m x ys H2, xs[i]? = some x → i < xs.length → m = xs.length - i → Same H1 H2 → H2 D = some (.lst ys) → ys.length ≤ i → Pv i ys H2 → TurnGoal g tc te σc H1 D xs.length Pv i m x H2)
    (hd : ∀ ys H2, Same H1 H2 → H2 D = some (.lst ys) → ys.length ≤ xs.length → Pv xs.length ys H2 → R H2) : CompGoal (Itl K a) g tc te σc H1 R D := by
  refine ⟨WL H1 D xs.length Pv, ⟨xs.length, rfl, Nat.zero_le _, Same.new' hD, [], upd_same, Nat.le_refl _, h0⟩, ?_⟩
  rintro i m H2 ⟨hm, hi, s12, ys, hy, hl, p⟩
  have q2 : SqL K H2 a xs := s12.seq hq
  by_cases hlt : i < xs.length
  · refine .inr ⟨⟨xs, xs[i], q2, by simp [hlt]⟩, fun x H3 e => ?_⟩
    obtain ⟨e, ex⟩ := e
    subst e
    exact hs i m x ys _ (ex xs q2) hlt hm s12 hy hl p
  · have e : i = xs.length := by omega
    subst e
    exact .inl ⟨⟨xs, q2, Nat.le_refl _⟩, hd ys H2 s12 hy hl p⟩
theorem comp_tup {a : Addr} {xs : List V} (Pv : Nat → List V → Hp → Prop) (hq : SqT K H1 a xs) (hD : H1 D = none) (h0 : Pv 0 [] (upd H1 D (.lst [])))
    (hs : ∀ i m x ys H2, xs[i]? = some x → i < xs.length → m = xs.length - i → Same H1 H2 → H2 D = some (.lst ys) → ys.length ≤ i → Pv i ys H2 → TurnGoal g tc te σc H1 D xs.length Pv i m x H2)
    (hd : ∀ ys H2, Same H1 H2 → H2 D = some (.lst ys) → ys.length ≤ xs.length → Pv xs.length ys H2 → R H2) : CompGoal (Itt K a) g tc te σc H1 R D := by
  refine ⟨WL H1 D xs.length Pv, ⟨xs.length, rfl, Nat.zero_le _, Same.new' hD, [], upd_same, Nat.le_refl _, h0⟩, ?_⟩
  rintro i m H2 ⟨hm, hi, s12, ys, hy, hl, p⟩
  have q2 : SqT K H2 a xs := s12.seqT hq
  by_cases hlt : i < xs.length
  · refine .inr ⟨⟨xs, xs[i], q2, by simp [hlt]⟩, fun x H3 e => ?_⟩
    obtain ⟨e, ex⟩ := e
    subst e
    exact hs i m x ys _ (ex xs q2) hlt hm s12 hy hl p
  · have e : i = xs.length := by omega
    subst e
    exact .inl ⟨⟨xs, q2, Nat.le_refl _⟩, hd ys H2 s12 hy hl p⟩
end
end L2
set_option Elab.async false
set_option linter.all false
set_option maxRecDepth 100000
namespace L2
open PySem PySem.Spec PyProof.Rows
def hid (D : Addr) (H : Hp) : Hp := fun b => if b = D then none else H b
theorem Rep.same {K : PySem.W.Frag} {H H' : Hp} (s : Same H H') {d : PyData} {v : V} (h : Rep K H d v) : Rep K H' d v := h.keep s.keepT s.keepL
theorem RepL.same {K : PySem.W.Frag} {H H' : Hp} (s : Same H H') {ds : List PyData} {xs : List V} (h : RepL K H ds xs) : RepL K H' ds xs := h.keep s.keepT s.keepL
theorem Same.but {f : Addr} {H H1 H2 : Hp} (s : Same H H1) (hf : H f = none) (b : ∀ c o, H1 c = some o → c ≠ f → H2 c = some o) : Same H H2 := fun c o e => b c o (s c o e) (ne_of_none e hf)
theorem pureDs_map {α : Type} {g : α → PyData} : ∀ {xs : List α}, (∀ x ∈ xs, pureD (g x) = true) → pureDs (xs.map g) = true
  | [], _ => rfl
  | x :: xs, h => by
    show (pureD (g x) && pureDs (xs.map g)) = true
    rw [h x List.mem_cons_self, pureDs_map fun y hy => h y (List.mem_cons_of_mem _ hy)]
    rfl
theorem canLayAll_map {α : Type} {g : α → PyData} : ∀ {xs : List α}, (∀ x ∈ xs, (g x).canLay0 = true) → PyData.canLayAll0 (xs.map g) = true
  | [], _ => rfl
  | x :: xs, h => by
    show ((g x).canLay0 && PyData.canLayAll0 (xs.map g)) = true
    rw [h x List.mem_cons_self, canLayAll_map fun y hy => h y (List.mem_cons_of_mem _ hy)]
    rfl
theorem rep_tup {K : PySem.W.Frag} {H : Hp} {p : Addr} {xs : List V} {ds : List PyData} (h : H p = some (.tup xs)) (r : RepL K H ds xs) : Rep K H (.tuple ds) (.ref p) := ⟨p, xs, rfl, SqT.of h, r⟩
theorem rep_lst {K : PySem.W.Frag} {H : Hp} {p : Addr} {xs : List V} {ds : List PyData} (h : H p = some (.lst xs)) (r : RepL K H ds xs) : Rep K H (.list ds) (.ref p) := ⟨p, xs, rfl, SqL.of h, r⟩
theorem keepT_upd {K : PySem.W.Frag} {H : Hp} {p : Addr} {xs ys : List V} (hp : H p = some (.lst xs)) : KeepT K H (upd H p (.lst ys)) := fun c zs h => by
  rcases h with (h | ⟨o, h⟩) | h
  · exact .inl (.inl (by rw [upd_ne (ne_of h hp (by intro z; cases z))]; exact h))
  · exact .inl (.inr ⟨o, by rw [upd_ne (ne_of h hp (by intro z; cases z))]; exact h⟩)
  · exact .inr h
theorem KeepT.trans {K : PySem.W.Frag} {H H1 H2 : Hp} (a : KeepT K H H1) (b : KeepT K H1 H2) : KeepT K H H2 := fun c xs h => b c xs (a c xs h)
end L2
set_option Elab.async false
set_option linter.all false
set_option maxRecDepth 100000
namespace L2
open PySem PySem.Spec PyProof.Rows
section
variable {prog : Program} {w : World} {A : Around} {E : Value → Shared → Prop} {s : Shared}
theorem cat_tup0 {t b : Addr} {ws : List Value} {Q : Value → Shared → Prop} (ht : IsTup s.heap t ([] : List Value).toArray) (hb : IsTup s.heap b ws.toArray) (h : Q (.ref b) s) : wpAny (model prog w) A (binaryOp .Add (.ref t) (.ref b)) Q E s := by
  obtain ⟨⟨cls, dd, data, sl⟩, ho, hc, n, hd⟩ := id ht
  obtain ⟨⟨cls2, dd2, data2, sl2⟩, ho2, hc2, n2, hd2⟩ := id hb
  simp only at hc hd hc2 hd2
  subst hc hd hc2 hd2
  exact concat_meets ⟨_, ho, rfl⟩ ⟨_, ho2, rfl⟩ noFill_tuple_add seq_tuple_add PySem.F.slot_tuple_add PySem.F.entry_tuple_add (PySem.F.args_tuple_add_2 _ _)
      (tuple_addW0 t b _ ws.toArray n n2 dd dd2 sl sl2 (by simp)) ⟨ho, ho2, h⟩
theorem getItem_tuple_whole {t sl : Addr} {items : Array Value} {vl vu : Value} {lo hi : Option Int} {Q : Value → Shared → Prop} (ht : IsTup s.heap t items) (hs : s.heap.IsSliceOf sl vl vu .none) (pl : IsPart vl lo) (pu : IsPart vu hi)
    (hw : HT.sIx items.size 0 lo = 0 ∧ HT.sIx items.size items.size hi = items.size) (h : Q (.ref t) s) : wpAny (model prog w) A (getItem (.ref t) (.ref sl)) Q E s := by
  obtain ⟨os, hos, hcs, hds⟩ := id hs
  have hTs : s.TypeIs (.ref sl) "slice" := ⟨os, hos, hcs⟩
  unfold getItem
  try with_reducible refine wpAny_holding ?_
  first | refine wpAny_bind (wpAny_pure ?_) | skip
  refine wpAny_bind (wpAny_sequenceKey ht.typeIs (by decide) ?_)
  refine wpAny_bind (wpAny_callSpecial?_slot (name := Str.ofString "__getitem__") ht.typeIs PyProof.Rows.slot_tuple_getitem
    (wpAny_call_entry PyProof.Rows.slot_tuple_getitem ht.typeIs entry_tuple_getitem ?_ (args_tuple_getitem _ _)))
  show wpAny _ _ (Builtin.Tuple.tupleItemsOf (.ref t) >>= _) _ _ s
  refine wpAny_bind (tupleItemsOf_ ht ?_)
  refine wpAny_bind (wpAny_typeOf hTs ?_)
  rw [if_pos (by decide)]
  refine wpAny_bind (HT.sliceApplied_gen hs pl pu ?_)
  have hyes : ((((HT.sIx items.size 0 lo : Nat) : Int) == 0 && (1 : Int) == 1 && (HT.sIx items.size items.size hi - HT.sIx items.size 0 lo) == items.size) = true) := by
    rw [hw.1, hw.2]
    simp
  show wpAny _ _ (if (((HT.sIx items.size 0 lo : Nat) : Int) == 0 && (1 : Int) == 1 && (HT.sIx items.size items.size hi - HT.sIx items.size 0 lo) == items.size) = true then _ else _) _ _ s
  rw [if_pos hyes]
  refine wpAny_bind (m := Builtin.Tuple.tupleIsExact (.ref t)) ?_
  unfold Builtin.Tuple.tupleIsExact
  refine wpAny_bind (wpAny_typeOf ht.typeIs (wpAny_pure ?_))
  rw [if_pos (by decide)]
  exact wpAny_bind (wpAny_rule (wpAny_pure ⟨_, rfl, wpAny_pure h⟩))
theorem noFill_tuple_mul : fillsNumberSlot (.type "tuple") "mul" = pure false :=
  PySem.fillsNumberSlot_seq (id := "tuple.__mul__") (r := some (.builtin "tuple.__rmul__")) F.slot_tuple_mul.lookup (by decide +kernel) F.slot_tuple_rmul.lookup (by decide +kernel)
theorem repeat_tuple : seqRepeat? (.type "tuple") = pure (some (.builtin "tuple.__mul__")) := by
  unfold seqRepeat?
  rw [PySem.seqSlot_of (T := "tuple") (name := "__mul__") (id := "tuple.__mul__") F.slot_tuple_mul.lookup (by decide +kernel), PySem.seqSlot_of (T := "tuple") (name := "__rmul__") (id := "tuple.__rmul__") F.slot_tuple_rmul.lookup (by decide +kernel)]
  rfl
theorem int_rmul_tuple (a : Int) (t : Tok) (l : Addr) (items : Array Value) (n : Nat) (dd : Option Addr) (sl : Array (Option Value)) :
    Meets (Builtin.«int.__rmul__» ⟨[.int a t, .ref l], []⟩) (fun _ R s => s.heap.get? l = some { cls := .type "tuple", dict := dd, data := .seq items n, slots := sl } ∧ R (.ok (.ret Value.notImplemented)) s) :=
  .of_wp fun prog w A R s h => by obtain ⟨hp, g, d, tk, os⟩ := s; obtain ⟨hl, h⟩ := h; wp_walk; exact ⟨_, rfl, h⟩
theorem tuple_mul0 (l : Addr) (items : Array Value) (n : Nat) (dd : Option Addr) (sl : Array (Option Value)) (u : Tok) (hc : ¬ items.isEmpty = true) :
    Meets (Builtin.«tuple.__mul__» ⟨[.ref l, .int 0 u], []⟩) (fun _ R s => s.heap.get? l = some { cls := .type "tuple", dict := dd, data := .seq items n, slots := sl } ∧ R (.ok (.ret (Value.ref s.heap.objs.size))) { s with heap := s.heap.push { cls := Value.type "tuple", data := Data.seq #[] }, toks := s.toks }) :=
  .of_wp fun prog w A R s h => by
    obtain ⟨hp, g, d, tk, os⟩ := s; obtain ⟨hl, h⟩ := h
    have f1 := AutoSeq1.idx_int; have f2 := AutoSeq1.sub_tuple_tuple
    wp_walk using AutoSeq1.wpAny_loadPart' hl
    exact ⟨_, rfl, h⟩
theorem tuple_mul2 (l : Addr) (items : Array Value) (n : Nat) (dd : Option Addr) (sl : Array (Option Value)) (u : Tok) (hc : ¬ items.isEmpty = true) (hz : items.size * 2 ≤ sizeLine) :
    Meets (Builtin.«tuple.__mul__» ⟨[.ref l, .int 2 u], []⟩) (fun _ R s => s.heap.get? l = some { cls := .type "tuple", dict := dd, data := .seq items n, slots := sl } ∧ R (.ok (.ret (Value.ref s.heap.objs.size))) { s with heap := s.heap.push { cls := Value.type "tuple", data := Data.seq (items ++ items) }, toks := s.toks }) :=
  .of_wp fun prog w A R s h => by
    obtain ⟨hp, g, d, tk, os⟩ := s; obtain ⟨hl, h⟩ := h
    have f1 := AutoSeq1.idx_int; have f2 := AutoSeq1.sub_tuple_tuple
    have hc1 : ¬ ((items.size : Int) * 2 > (2 ^ 63 - 1) / 8) := by
      have : (sizeLine : Nat) ≤ (2 ^ 63 - 1) / 8 := by decide
      omega
    have hc2 : ¬ Builtin.Tuple.tupleTooMany ((items.size : Int) * 2) = true := by
      unfold Builtin.Tuple.tupleTooMany
      simp only [gt_iff_lt, decide_eq_true_eq]
      omega
    have e : List.foldl (fun x1 x2 => x1 ++ x2) #[] (List.replicate (Int.toNat 2) items) = items ++ items := by simp [List.replicate]
    rw [← e] at h
    wp_walk using AutoSeq1.wpAny_loadPart' hl
    rw [if_neg hc1]
    dsimp only
    rw [if_neg hc2]
    have hsz : (List.foldl (fun x1 x2 => x1 ++ x2) #[] (List.replicate (Int.toNat 2) items)).size ≤ sizeLine := by rw [e, Array.size_append]; omega
    wp_walk
    refine wpAny_ite_false (decide_eq_false (Nat.not_lt.mpr hsz)) ?_
    wp_walk
    exact ⟨_, rfl, h⟩
end
section
variable {X : Cx}
def rCatU (K : PySem.W.Frag) : R2 := fun x y H Q => ∃ a b xs ys, x = .ref a ∧ y = .ref b ∧ SqT K H a xs ∧ SqT K H b ys ∧ xs.length + ys.length ≤ sizeLine ∧ ∀ p H', SqT K H' p (xs ++ ys) → Same H H' → Q (.ref p) H'
theorem op_catU : OpR X (binaryOp .Add) (rCatU X.K) := by
  intro pins s σ H x y v u Q I rx ry h
  obtain ⟨a, b, xs, ys, rfl, rfl, ha, hb, hz, q⟩ := h
  by_cases hx : xs = []
  · subst hx
    cases rx
    cases ry
    obtain ⟨its, r1, p1, _⟩ := I.tuple ha
    obtain ⟨its2, r2, p2, _⟩ := I.tuple hb
    cases r1
    exact cat_tup0 p1 p2 ⟨.ref b, H, I, rfl, q b H (by simpa using hb) (Same.refl _)⟩
  · exact op_catT pins s σ H _ _ v u Q I rx ry ⟨a, b, xs, ys, rfl, rfl, ha, hb, hx, hz, fun e => q a H (by rw [e, List.append_nil]; exact ha) (Same.refl _), fun _ p hp => q p _ (SqT.of upd_same) (Same.new' hp)⟩
def rSlUU (K : PySem.W.Frag) : V → Option Int → Option Int → Hp → VK → Prop := fun x lo hi H Q => ∃ a xs, x = .ref a ∧ SqT K H a xs ∧ ∀ p H', SqT K H' p (cutV xs lo hi) → Same H H' → Q (.ref p) H'
theorem sl_tupU : SlR X (rSlUU X.K) := by
  intro pins s σ H x v vl vu lo hi sl Q I rx hs pl pu h
  obtain ⟨a, xs, rfl, hx, q⟩ := h
  by_cases hw : HT.sIx xs.length 0 lo = 0 ∧ HT.sIx xs.length xs.length hi = xs.length
  · cases rx
    obtain ⟨its, r, ht, hz⟩ := I.tuple hx
    have hlen : its.toArray.size = xs.length := by rw [List.size_toArray]; exact r.length.symm
    refine ⟨"tuple", _, PyProof.Rows.slot_tuple_getitem.lookup, ht.typeIs, ?_⟩
    refine getItem_tuple_whole ht hs pl pu (by rw [hlen]; exact hw) ⟨.ref a, H, I, rfl, q a H ?_ (Same.refl _)⟩
    unfold cutV
    rw [hw.1, hw.2, List.drop_zero, Nat.sub_zero, List.take_length]
    exact hx
  · exact sl_tup pins s σ H _ v vl vu lo hi sl Q I rx hs pl pu ⟨a, xs, rfl, hx, hw, fun p hp => q p _ (SqT.of upd_same) (Same.new' hp)⟩
def rRepT (K : PySem.W.Frag) : R2 := fun x y H Q => ∃ a xs, x = .ref a ∧ SqT K H a xs ∧ xs ≠ [] ∧ xs.length * 2 ≤ sizeLine ∧ ((y = .int 0 ∧ ∀ p H', SqT K H' p [] → Same H H' → Q (.ref p) H') ∨ (y = .int 2 ∧ ∀ p H', SqT K H' p (xs ++ xs) → Same H H' → Q (.ref p) H'))
theorem op_repT : OpR X (binaryOp .Mult) (rRepT X.K) := by
  intro pins s σ H x y v u Q I rx ry h
  obtain ⟨a, xs, rfl, hx, hne, hz, h⟩ := h
  cases rx
  obtain ⟨its, r, ht, hz'⟩ := I.tuple hx
  obtain ⟨⟨cls, dd, data, sl⟩, ho, hc, n, hd⟩ := id ht
  simp only at hc hd
  subst hc hd
  have hni : ¬ its.toArray.isEmpty = true := by
    intro z
    have : its = [] := by simpa using z
    exact hne (r.nil_iff.mp this)
  have hlen := r.length
  rcases h with ⟨rfl, q⟩ | ⟨rfl, q⟩
  · obtain ⟨t, rfl⟩ := ry
    refine wpAny_binaryOp_repeat_ref (T := "tuple") (U := "int") (by decide) ⟨_, ho, rfl⟩ (fun s' => typeIs_int s' 0 t) noFill_tuple_mul F.fills_int_mul F.slot_int_rmul repeat_tuple F.slot_int_index.lookup
      (call_meets F.slot_int_rmul (typeIs_int s 0 t) F.entry_int_rmul (F.args_int_rmul_2 _ _) (int_rmul_tuple 0 t a its.toArray n dd sl)
        ⟨ho, rfl, ⟨_, ho, rfl⟩, call_meets F.slot_tuple_mul ⟨_, ho, rfl⟩ F.entry_tuple_mul (F.args_tuple_mul_2 _ _) (tuple_mul0 a its.toArray n dd sl t hni) ⟨ho, ?_⟩⟩)
    exact ⟨.ref _, _, I.laid (t' := s.toks) (o := .tup []) (fun b ob q => Heap.get?_push_of_some _ q) (Nat.le_refl _) ⟨Nat.zero_le _, [], .nil, IsTup.new _ _⟩, rfl, q _ _ (SqT.of upd_same) (Same.new' (I.hok.fresh (Nat.le_refl _)))⟩
  · obtain ⟨t, rfl⟩ := ry
    refine wpAny_binaryOp_repeat_ref (T := "tuple") (U := "int") (by decide) ⟨_, ho, rfl⟩ (fun s' => typeIs_int s' 2 t) noFill_tuple_mul F.fills_int_mul F.slot_int_rmul repeat_tuple F.slot_int_index.lookup
      (call_meets F.slot_int_rmul (typeIs_int s 2 t) F.entry_int_rmul (F.args_int_rmul_2 _ _) (int_rmul_tuple 2 t a its.toArray n dd sl)
        ⟨ho, rfl, ⟨_, ho, rfl⟩, call_meets F.slot_tuple_mul ⟨_, ho, rfl⟩ F.entry_tuple_mul (F.args_tuple_mul_2 _ _) (tuple_mul2 a its.toArray n dd sl t hni (by rw [List.size_toArray, ← hlen]; exact hz)) ⟨ho, ?_⟩⟩)
    refine ⟨.ref _, _, I.laid (t' := s.toks) (o := .tup (xs ++ xs)) (fun b ob q => Heap.get?_push_of_some _ q) (Nat.le_refl _) ⟨by rw [List.length_append]; omega, its ++ its, r.append r, ?_⟩, rfl, q _ _ (SqT.of upd_same) (Same.new' (I.hok.fresh (Nat.le_refl _)))⟩
    have e : its.toArray ++ its.toArray = (its ++ its).toArray := by simp
    rw [e]
    exact IsTup.new _ _
def rAddU (K : PySem.W.Frag) : R2 := fun x y H Q => rI0 (fun i j => .int (i + j)) x y H Q ∨ (∃ i j, x = .str i ∧ y = .str j ∧ i.length + j.length ≤ sizeLine ∧ Q (.str (i ++ j)) H) ∨ rCat x y H Q ∨ rCatU K x y H Q
theorem op_addU (K : PySem.W.Frag) (hK : X.K = K := by rfl) : OpR X (binaryOp .Add) (rAddU K) := by subst hK; exact op_add.or (op_add_str.or (op_cat.or op_catU))
def rMulU (K : PySem.W.Frag) : R2 := fun x y H Q => rI CMulB (fun i j => .int (i * j)) x y H Q ∨ rRep x y H Q ∨ rRepT K x y H Q
theorem op_mulU (K : PySem.W.Frag) (hK : X.K = K := by rfl) : OpR X (binaryOp .Mult) (rMulU K) := by subst hK; exact op_mulB.or (op_rep.or op_repT)
def rSlU (K : PySem.W.Frag) : V → Option Int → Option Int → Hp → VK → Prop := fun x lo hi H Q => rSlL K x lo hi H Q ∨ rSlT K x lo hi H Q ∨ rSlS x lo hi H Q ∨ rSlUU K x lo hi H Q
theorem sl_U (K : PySem.W.Frag) (hK : X.K = K := by rfl) : SlR X (rSlU K) := by subst hK; exact sl_list.or (sl_tup.or (sl_str.or sl_tupU))
end
end L2
set_option Elab.async false
set_option linter.all false
set_option maxRecDepth 100000
namespace L2
open PySem PySem.Spec PyProof.Rows
structure Flew (P : Program) (w : World) (outer : List Env) (H : Hp) (s : Shared) (e : Addr) (C : Value) (H' : Hp) (s' : Shared) (B : Heap) (a0 : Value) : Prop where
  os : s'.os = s.os
  bare : AllBare s'.gens
  keep : ∀ b o, s.heap.get? b = some o → H b = none → b ∉ frs outer → B.get? b = some o
  slot : ∀ b o, s.heap.get? b = some o → H b = none → b ∈ frs outer → ∃ sl, s'.heap.get? b = some { o with slots := sl }
  free : ∀ b o, s.heap.get? b = some o → H b = none → H' b = none
  there : ∀ b o, s.heap.get? b = some o → b ∉ frs outer → ∃ o', B.get? b = some o'
  tups : ∀ b xs, H b = some (.tup xs) → H' b = some (.tup xs)
  frzs : ∀ b o u, H b = some (.frz o u) → H' b = some (.frz o u)
  tbls : ∀ b ps, H b = some (.tbl ps) → ∃ more, H' b = some (.tbl (ps ++ more))
  hok : HOk P w H' B
  fly : Heap.FlyingW B outer e C a0 s'.heap
def CX1 (P : Program) (w : World) : CXT := fun outer H s E ev s' => ∃ e C H' B a0, ev = Value.ref e ∧ Flew P w outer H s e C H' s' B a0 ∧ E C none H'
section
variable {P : Program} {w : World} {outer : List Env} {H H' : Hp} {s s' : Shared} {e : Addr} {C a0 : Value} {B h2 : Heap}
theorem Flew.un (F : Flew P w outer H s e C H' s' B a0) (hfr : ∀ b ∈ frs outer, H b = none) (hB : B.StaysIn h2) (hs : s'.heap.UpToSlots h2) : Un (frs outer) [] H H' s.heap h2 := by
  have sl : ∀ b o, s.heap.get? b = some o → H b = none → b ∈ frs outer → ∃ sl, h2.get? b = some { o with slots := sl } := fun b o q n hb => by
    obtain ⟨sl, e1⟩ := F.slot b o q n hb
    obtain ⟨_, o2, e2, hd⟩ := F.fly.2.2.1.mem hb
    rw [e1] at e2
    cases e2
    obtain ⟨z, ez⟩ := hs b _ e1 hd
    exact ⟨z, ez⟩
  refine ⟨fun b o q n hb _ => hB b o (F.keep b o q n hb), fun b o q n hb _ => sl b o q n hb, fun b o q n _ => F.free b o q n, fun b o q _ => ?_, F.tups, F.frzs, F.tbls⟩
  by_cases hb : b ∈ frs outer
  · obtain ⟨z, e1⟩ := sl b o q (hfr b hb) hb
    exact ⟨_, e1⟩
  · obtain ⟨o', e1⟩ := F.there b o q hb
    exact ⟨o', hB b o' e1⟩
end
section
variable {X : Cx} {pins : List (Addr × Obj)} {σ : St} {H H' : Hp} {s s' : Shared} {e : Addr} {C a0 : Value} {B h2 : Heap}
end
section
variable {P : Program} {w : World} {K : PySem.W.Frag} {mg : Str → Option Value} {base : Heap} {N : List Str} {qual : Str} {scope : Scope} {f : Addr} {cd : Value} {A : Around} {outer : List Env} {s : Shared} {H : Hp} {E : XK}
def Raises (X : Cx) (E : XK) : Prop := ∀ (pins : List (Addr × Obj)) (σ : St) (H : Hp) (s : Shared) (h' : Heap) (e : Addr) (C : Value) (vs : List Value), Inv X pins σ H s → Heap.MadeExcOf s.heap h' e C vs → E C none H → X.xe (.ref e) { s with heap := h' }
end
end L2
set_option Elab.async false
set_option linter.all false
set_option maxRecDepth 100000
namespace L2
open PySem PySem.Spec PyProof.Rows
open PySem.W (findIn specialIn takesIn mroIn subIn clsIn Looks KitX)
open PySem.Builtin.Getset_descriptor (descrGet descrGetter descrCheckInstance descrNameAndClass)
structure ExcC (K : PySem.W.Frag) (C : Addr) : Prop where
  exc : PySem.W.excIn K C [.type "ValueError", .type "Exception", .type "BaseException", .type "object"] "ValueError.__new__" = true
  ga : findIn K (.ref C) "__getattribute__" = some (some (.builtin "BaseException.__getattribute__"))
  gh : findIn K (.ref C) "__getattr__" = some none
  at_ : findIn K (.ref C) "__class__" = some (some (.builtin "object.__class__"))
  get : specialIn K (.builtin "object.__class__") "__get__" = some (some (.builtin "getset_descriptor.__get__"))
  tk : takesIn K (.builtin "object.__class__") = some true
  obj : mroIn K C (.type "object") = some true
  sub : subIn K (.ref C) (.type "BaseException") = some true
def ClsAt (h : Heap) (x C : Addr) : Prop := ∃ ox, h.get? x = some ox ∧ ox.cls = .ref C
theorem ClsAt.type {M : Model} {h : Heap} {x C : Addr} (I : ClsAt h x C) : Looks M h (typeOf (.ref x)) (.ref C) := by
  obtain ⟨ox, h1, h2⟩ := I
  exact h2 ▸ (Looks.ld h1).andThen .now
section
variable {prog : Program} {w : World} {A : Around} {E : Value → Shared → Prop} {s : Shared} {K : PySem.W.Frag} {x C : Addr}
theorem ExcC.look (c : ExcC K C) : ∃ oc od cd sl, K.lookup C = some ⟨oc, od, .cls cd, sl⟩ := by
  have hc := c.exc
  unfold PySem.W.excIn at hc
  split at hc
  · rename_i c2 c3 c4 ho
    exact ⟨_, c2, c3, c4, ho⟩
  · cases hc
end
def ExcO (x C : Addr) : HO := .ext fun h => ClsAt h x C
section
variable {X : Cx}
def rIsiX (K : PySem.W.Frag) : List V → Hp → VK → Prop := fun xs H Q => ∃ x C b, xs.head? = some (.ref x) ∧ H x = some (ExcO x C) ∧ ExcC K C ∧
  ((∃ D, xs = [.ref x, .ref D] ∧ PySem.W.kitOne K (.ref C) (.ref D) = some b) ∨ (∃ n, xs = [.ref x, .ty n] ∧ PySem.W.kitOne K (.ref C) (.type n) = some b)) ∧ Q (.bl b) H
end
end L2
set_option Elab.async false
set_option linter.all false
set_option maxRecDepth 100000
namespace L2
open PySem PySem.Spec PyProof.Rows
open PySem.W (Looks)
section
variable {X : Cx} {E : XK} {x : Str} {C : Addr} {e0 : Expr} {es : List Expr} {t : TA} {np cpos pos : Pos}
def tRaise (C : Addr) (E : XK) (t : TA) : TS := fun _ σ H => t σ H fun vs H1 => vs.length ≤ sizeLine ∧ E (.ref C) none H1
end
def Flown (X : Cx) (pins : List (Addr × Obj)) (σ : St) (Hd : Addr → Hp → Prop) (ev : Value) (s' : Shared) : Prop :=
  ∃ e C H' B a0, ev = Value.ref e ∧ Heap.FlyingW B X.stack e (.ref C) a0 s'.heap ∧ (∀ h2 : Heap, B.StaysIn h2 → s'.heap.UpToSlots h2 → ClsAt h2 e C → Inv X pins σ (upd H' e (ExcO e C)) { s' with heap := h2 }) ∧ H' e = none ∧ Hd C H'
theorem ObjOk.has {P : Program} {w : World} {H : Hp} {h : Heap} {a : Addr} {o : HO} (x : ObjOk P w H h a o) : ∃ ob, h.get? a = some ob := by
  cases o with
  | lst xs => obtain ⟨_, _, _, _, e⟩ := x; exact ⟨_, e⟩
  | tup xs => obtain ⟨_, _, _, o, e, _⟩ := x; exact ⟨_, e⟩
  | dK kvs => obtain ⟨_, _, _, _, o, _, _, e, _⟩ := x; exact ⟨_, e⟩
  | dT kvs => obtain ⟨_, _, _, _, o, _, _, e, _⟩ := x; exact ⟨_, e⟩
  | set S n => obtain ⟨o, _, _, _, e, _⟩ := x; exact ⟨_, e⟩
  | ins C dx fs => obtain ⟨_, _, _, e, _⟩ := x; exact ⟨_, e⟩
  | own y => exact x
  | xd fs => obtain ⟨_, ⟨_, _, _, e, _⟩, _⟩ := x; exact ⟨_, e⟩
  | met f y => exact ⟨_, x⟩
  | rng lo hi => obtain ⟨_, _, _, e⟩ := x; exact ⟨_, e⟩
  | frz ob u => exact ⟨_, x.1⟩
  | tbl ps => exact ⟨_, x⟩
  | ext φ => exact x.2.1
section
variable {X : Cx} {pins : List (Addr × Obj)} {σ : St} {H H' : Hp} {s s' : Shared} {e C : Addr} {a0 : Value} {B h2 : Heap}
theorem Flew.new (F : Flew X.prog X.w X.stack H s e (.ref C) H' s' B a0) : s.heap.get? e = none ∧ H' e = none := by
  have hB : B.get? e = none := F.fly.2.1
  constructor
  · cases q : s.heap.get? e with
    | none => rfl
    | some o =>
      by_cases hm : e ∈ frs X.stack
      · obtain ⟨_, o2, e2, hd⟩ := F.fly.2.2.1.mem hm
        obtain ⟨oe, vs, e3, _, hf, _⟩ := F.fly.first
        rw [e2] at e3
        cases e3
        exact absurd hf (hd vs)
      · obtain ⟨o2, e2⟩ := F.there e o q hm
        rw [hB] at e2
        cases e2
  · cases q : H' e with
    | none => rfl
    | some o =>
      obtain ⟨ob, e2⟩ := (F.hok e o q).has
      rw [hB] at e2
      cases e2
end
def PX (X : Cx) (e : Expr) (te : (Addr → Hp → Prop) → TE) : Prop :=
  ∀ (Hd : Addr → Hp → Prop) (pins : List (Addr × Obj)) (s : Shared) (σ : St) (H : Hp) (Q : VK), Inv X pins σ H s → te Hd σ H Q →
    wpAny (model X.prog X.w) X.A (eval e X.env) (EP X pins σ Q) (fun ev s' => X.xe ev s' ∨ Flown X pins σ Hd ev s') s
section
variable {X : Cx} {k : Nat} {f : Addr} {fd : FuncData} {ps : List Str} {sp : Sp} {dvs : List V} {ds : List Value} {x : Str} {p pos : Pos} {e : Expr} {es : List Expr} {t : TA}
end
def PSX (X : Cx) (st : Stmt) (ts : (Addr → Hp → Prop) → TS) : Prop :=
  ∀ (Hd : Addr → Hp → Prop) (pins : List (Addr × Obj)) (s : Shared) (σ : St) (H : Hp) (D : Ends), Inv X pins σ H s → ts Hd D σ H →
    wpAny (model X.prog X.w) X.A (exec st X.env) (SP X pins D) (fun ev s' => X.xe ev s' ∨ Flown X pins σ Hd ev s') s
section
variable {X : Cx} {e : Expr} {te : (Addr → Hp → Prop) → TE} {pos : Pos}
end
end L2
set_option Elab.async false
set_option linter.all false
set_option maxRecDepth 100000
namespace L2
open PySem PySem.Spec PyProof.Rows
open PySem.W (Looks)
abbrev Cx.marked (X : Cx) (ev : Value) : Cx := { X with A := X.A.mark (some ev), calm := false, xe := fun _ _ => False }
section
variable {X : Cx} {pins : List (Addr × Obj)} {σ : St} {H : Hp} {s : Shared} {ev : Value}
theorem Inv.marked (I : Inv X pins σ H s) (ev : Value) : Inv (X.marked ev) pins σ H s :=
  ⟨⟨I.ok.mod, I.ok.kind, I.ok.glob, I.ok.blt, I.ok.above, I.ok.inj, I.ok.has, I.ok.cab, fun z => absurd (show false = true from z) Bool.false_ne_true, I.ok.frames, I.ok.stk, I.ok.exf, I.ok.bs, I.ok.bsz, I.ok.noex, I.ok.exfs, I.ok.funs, I.ok.frf⟩, I.os, I.bare, I.base, I.loc, I.cell, I.free, I.freeC, I.pin, I.hok, I.len⟩
end
def tTry (K : PySem.W.Frag) (D : Addr) (i : Nat) (ts : (Addr → Hp → Prop) → TS) (tu : TS) : TS := fun Dn σ H => ∃ Hd : Addr → Hp → Prop, ts Hd Dn σ H ∧ ∀ (e C : Addr) (H' : Hp), Hd C H' → H' e = none → PySem.W.exmOne K (.ref C) (.ref D) = some true ∧
  tu { nx := fun σ' H2 => Dn.nx (σ'.set i none) H2, rt := Dn.rt, bk := fun σ' H2 => Dn.bk (σ'.set i none) H2, ct := fun σ' H2 => Dn.ct (σ'.set i none) H2 } (σ.set i (some (.ref e))) (upd H' e (ExcO e C))
section
variable {X : Cx} {st b0 : Stmt} {suite : List Stmt} {ts : (Addr → Hp → Prop) → TS} {tu : TS} {D : Addr} {x n : Str} {i : Nat} {tp hp pos : Pos}
end
end L2
set_option Elab.async false
set_option linter.all false
set_option maxRecDepth 100000
namespace L2
open PySem PySem.Spec PyProof.Rows
open PySem.Builtin.Str (occurrences partsBetween strSub subAt)
def splitC (c : Nat) : List Nat → List (List Nat)
  | [] => [[]]
  | a :: l => if a = c then [] :: splitC c l else match splitC c l with
    | p :: r => (a :: p) :: r
    | [] => [[a]]
def pieceC (c : Nat) (ps : List (List Nat)) (a : Nat) : List (List Nat) := if a = c then ps ++ [[]] else ps.dropLast ++ [ps.getLastD [] ++ [a]]
def cutsC (c : Nat) : List Nat → List Nat
  | [] => []
  | a :: l => if a = c then 0 :: (cutsC c l).map (· + 1) else (cutsC c l).map (· + 1)
def partsL (l cuts : List Nat) : List (List Nat) := ((0 :: cuts.map (· + 1)).zip (cuts ++ [l.length])).map fun p => (l.drop p.1).take (p.2 - p.1)
def mkS (l : List Nat) : Str := ⟨l.toArray⟩
section
variable {X : Cx}
def rSplit : V → List V → Hp → VK → Prop := fun x vs H Q => ∃ (z : Str) (c : Nat), x = .str z ∧ vs = [.str ⟨#[c]⟩] ∧ c < 256 ∧ z.length ≤ 1000 ∧ ∀ l, H l = none → Q (.ref l) (upd H l (.lst (((splitC c z.cps.toList).map mkS).map V.str)))
def rStarts : V → List V → Hp → VK → Prop := fun x vs H Q => ∃ (z : Str) (c : Nat), x = .str z ∧ vs = [.str ⟨#[c]⟩] ∧ Q (.bl (decide (z.cps.toList[0]? = some c))) H
end
end L2
set_option Elab.async false
set_option linter.all false
set_option maxRecDepth 100000
namespace L2
open PySem PySem.Spec PyProof.Rows
end L2
set_option Elab.async false
set_option linter.all false
set_option maxRecDepth 100000
namespace L2
open PySem
namespace Tb
open PySem.SetTable
def adv (mask : Nat) (p : Probe) : Probe :=
  if p.more > 0 then { p with j := p.j + 1, more := p.more - 1 } else
  { p with j := (leap mask p.i p.perturb).1, more := runEnd mask (leap mask p.i p.perturb).1 - (leap mask p.i p.perturb).1, i := (leap mask p.i p.perturb).1, perturb := (leap mask p.i p.perturb).2 }
def beg (mask : Nat) (h : Int) : Probe := { j := bits h % (mask + 1), more := runEnd mask (bits h % (mask + 1)) - bits h % (mask + 1), i := bits h % (mask + 1), perturb := bits h, dummy := none }
def it (mask : Nat) : Nat → Probe → Probe
  | 0, p => p
  | n + 1, p => it mask n (adv mask p)
theorem it_add (mask : Nat) : ∀ (a b : Nat) (p : Probe), it mask (a + b) p = it mask b (it mask a p)
  | 0, b, p => by rw [Nat.zero_add]; rfl
  | a + 1, b, p => by rw [Nat.succ_add]; exact it_add mask a b (adv mask p)
theorem it_run (mask : Nat) : ∀ (m : Nat) (p : Probe), p.more = m → it mask (m + 1) p = { p with j := (leap mask p.i p.perturb).1, more := runEnd mask (leap mask p.i p.perturb).1 - (leap mask p.i p.perturb).1, i := (leap mask p.i p.perturb).1, perturb := (leap mask p.i p.perturb).2 }
  | 0, p, h => by
    show adv mask p = _
    unfold adv
    rw [if_neg (by omega)]
  | m + 1, p, h => by
    have e : adv mask p = { p with j := p.j + 1, more := p.more - 1 } := by unfold adv; rw [if_pos (by omega)]
    show it mask (m + 1) (adv mask p) = _
    rw [e, it_run mask m _ (show p.more - 1 = m by omega)]
def lp (mask : Nat) : Nat → Nat × Nat → Nat × Nat
  | 0, q => q
  | n + 1, q => lp mask n (leap mask q.1 q.2)
theorem lp_add (mask : Nat) : ∀ (a b : Nat) (q : Nat × Nat), lp mask (a + b) q = lp mask b (lp mask a q)
  | 0, b, q => by rw [Nat.zero_add]; rfl
  | a + 1, b, q => by rw [Nat.succ_add]; exact lp_add mask a b _
theorem run_le (mask i : Nat) : runEnd mask i - i ≤ 9 := by unfold runEnd; split <;> omega
theorem lp_pert (mask : Nat) : ∀ (k : Nat) (q : Nat × Nat), (lp mask k q).2 = q.2 / 32 ^ k
  | 0, q => by simp [lp]
  | k + 1, q => by
    show (lp mask k (leap mask q.1 q.2)).2 = _
    rw [lp_pert mask k, Nat.pow_succ, Nat.mul_comm, ← Nat.div_div_eq_div_mul]
    rfl
theorem lp_le (mask : Nat) : ∀ (k : Nat) (q : Nat × Nat), q.1 ≤ mask → (lp mask k q).1 ≤ mask
  | 0, q, h => h
  | k + 1, q, h => lp_le mask k _ (by have := Nat.mod_lt (q.1 * 5 + 1 + q.2 / 32) (Nat.succ_pos mask); exact Nat.le_of_lt_succ this)
def Mk (mask : Nat) : Prop := mask = 7 ∨ mask = 31
theorem cyc7 : ∀ i : Fin 8, ∀ j : Fin 8, ∃ r : Fin 8, (lp 7 r.val (i.val, 0)).1 = j.val := by decide +kernel
theorem cyc31 : ∀ i : Fin 32, ∀ j : Fin 32, ∃ r : Fin 32, (lp 31 r.val (i.val, 0)).1 = j.val := by decide +kernel
theorem cyc {mask i j : Nat} (hm : Mk mask) (hi : i ≤ mask) (hj : j ≤ mask) : ∃ r, r ≤ mask ∧ (lp mask r (i, 0)).1 = j := by
  rcases hm with rfl | rfl
  · obtain ⟨r, e⟩ := cyc7 ⟨i, by omega⟩ ⟨j, by omega⟩
    exact ⟨r.val, by omega, e⟩
  · obtain ⟨r, e⟩ := cyc31 ⟨i, by omega⟩ ⟨j, by omega⟩
    exact ⟨r.val, by omega, e⟩
theorem lp_all {mask i pert j : Nat} (hm : Mk mask) (hi : i ≤ mask) (hp : pert < 2 ^ 64) (hj : j ≤ mask) : ∃ k, 13 ≤ k ∧ k ≤ 13 + mask ∧ (lp mask k (i, pert)).1 = j := by
  obtain ⟨r, hr, e⟩ := cyc hm (lp_le mask 13 (i, pert) hi) hj
  refine ⟨13 + r, by omega, by omega, ?_⟩
  rw [lp_add]
  have z : (lp mask 13 (i, pert)).2 = 0 := by
    rw [lp_pert]
    exact Nat.div_eq_of_lt (Nat.lt_trans hp (by decide))
  have : lp mask 13 (i, pert) = ((lp mask 13 (i, pert)).1, 0) := by rw [← z]
  rw [this]
  exact e
structure Val (mask : Nat) (p : Probe) : Prop where
  i : p.i ≤ mask
  more : p.more ≤ 9
  pert : p.perturb < 2 ^ 64
  inn : p.j + p.more ≤ mask
theorem run_in {mask i : Nat} (h : i ≤ mask) : i + (runEnd mask i - i) ≤ mask := by unfold runEnd; split <;> omega
theorem Val.beg (mask : Nat) (h : Int) : Val mask (beg mask h) := by
  have hi : bits h % (mask + 1) ≤ mask := Nat.le_of_lt_succ (Nat.mod_lt _ (Nat.succ_pos _))
  refine ⟨hi, run_le _ _, ?_, run_in hi⟩
  show (h % (2 ^ 64 : Int)).toNat < 2 ^ 64
  have h1 : h % (2 ^ 64 : Int) < 2 ^ 64 := Int.emod_lt_of_pos _ (by decide)
  have h0 : 0 ≤ h % (2 ^ 64 : Int) := Int.emod_nonneg _ (by decide)
  omega
theorem Val.adv {mask : Nat} {p : Probe} (v : Val mask p) : Val mask (adv mask p) := by
  unfold Tb.adv
  split
  · rename_i hm
    exact ⟨v.i, by show p.more - 1 ≤ 9; have := v.more; omega, v.pert, by show p.j + 1 + (p.more - 1) ≤ mask; have := v.inn; omega⟩
  · refine ⟨lp_le mask 1 (p.i, p.perturb) v.i, run_le _ _, ?_, run_in (lp_le mask 1 (p.i, p.perturb) v.i)⟩
    exact Nat.lt_of_le_of_lt (Nat.div_le_self _ _) v.pert
theorem Val.it {mask : Nat} : ∀ (n : Nat) {p : Probe}, Val mask p → Val mask (it mask n p)
  | 0, _, v => v
  | n + 1, _, v => Val.it n v.adv
theorem below_go (xs : Array Nat) (j : Nat) (hr : xs.toList.Pairwise (· < ·)) : ∀ (fuel lo hi : Nat), hi - lo ≤ fuel → lo ≤ hi → hi ≤ xs.size →
    (∀ k v, k < lo → xs[k]? = some v → v < j) → (∀ k v, hi ≤ k → xs[k]? = some v → j ≤ v) →
    (∀ k v, k < below.go xs j fuel lo hi → xs[k]? = some v → v < j) ∧ (∀ k v, below.go xs j fuel lo hi ≤ k → xs[k]? = some v → j ≤ v) ∧ below.go xs j fuel lo hi ≤ xs.size := by
  have mono : ∀ {a b u v : Nat}, a < b → xs[a]? = some u → xs[b]? = some v → u < v := by
    intro a b u v hab hu hv
    rw [← Array.getElem?_toList] at hu hv
    obtain ⟨ha, ea⟩ := List.getElem?_eq_some_iff.mp hu
    obtain ⟨hb, eb⟩ := List.getElem?_eq_some_iff.mp hv
    have := List.pairwise_iff_getElem.mp hr a b ha hb hab
    rw [ea, eb] at this
    exact this
  intro fuel
  induction fuel with
  | zero =>
    intro lo hi h1 h2 h3 h4 h5
    have e : lo = hi := by omega
    subst e
    exact ⟨h4, h5, h3⟩
  | succ fuel ih =>
    intro lo hi h1 h2 h3 h4 h5
    unfold below.go
    by_cases hlt : lo < hi
    · rw [if_pos hlt]
      dsimp only
      have hmid : (lo + hi) / 2 < xs.size := by omega
      have hg : xs[(lo + hi) / 2]? = some xs[(lo + hi) / 2] := Array.getElem?_eq_getElem hmid
      have hgd : xs.getD ((lo + hi) / 2) j = xs[(lo + hi) / 2] := by simp [Array.getD, hmid]
      rw [hgd]
      by_cases hc : xs[(lo + hi) / 2] < j
      · rw [if_pos hc]
        refine ih _ _ (by omega) (by omega) h3 (fun k v hk hv => ?_) h5
        by_cases hk2 : k < (lo + hi) / 2
        · have := mono hk2 hv hg
          omega
        · have e : k = (lo + hi) / 2 := by omega
          subst e
          rw [hg] at hv
          cases hv
          exact hc
      · rw [if_neg hc]
        refine ih _ _ (by omega) (by omega) (by omega) h4 (fun k v hk hv => ?_)
        by_cases hk2 : (lo + hi) / 2 < k
        · have := mono hk2 hg hv
          omega
        · have e : k = (lo + hi) / 2 := by omega
          subst e
          rw [hg] at hv
          cases hv
          omega
    · rw [if_neg hlt]
      have e : lo = hi := by omega
      subst e
      exact ⟨h4, h5, h3⟩
theorem below_ok {xs : Array Nat} (j : Nat) (hr : xs.toList.Pairwise (· < ·)) : (∀ k v, k < below xs j → xs[k]? = some v → v < j) ∧ (∀ k v, below xs j ≤ k → xs[k]? = some v → j ≤ v) ∧ below xs j ≤ xs.size :=
  below_go xs j hr xs.size 0 xs.size (by omega) (Nat.zero_le _) (Nat.le_refl _) (fun k v hk _ => absurd hk (by omega)) (fun k v hk hv => by
    rw [Array.getElem?_eq_none hk] at hv
    cases hv)
end Tb
end L2
set_option Elab.async false
set_option linter.all false
set_option maxRecDepth 100000
namespace L2
open PySem
namespace Tb
open PySem.SetTable
def Rch (mask : Nat) (pl : List Nat) (h : Int) (j : Nat) : Prop := ∃ n, (it mask n (beg mask h)).j = j ∧ ∀ k, k < n → (it mask k (beg mask h)).j ∈ pl
theorem Rch.mono {mask : Nat} {pl pl' : List Nat} {h : Int} {j : Nat} (r : Rch mask pl h j) (s : ∀ x ∈ pl, x ∈ pl') : Rch mask pl' h j := by
  obtain ⟨n, e, a⟩ := r
  exact ⟨n, e, fun k hk => s _ (a k hk)⟩
structure Tab (es : Array (Int × Value)) (t : SetTable) : Prop where
  sz : t.place.size = es.size
  dm : t.dummies = #[]
  ris : t.place.toList.Pairwise (· < ·)
  le : ∀ j ∈ t.place.toList, j ≤ t.mask
  rch : ∀ (i : Nat) (e : Int × Value) (j : Nat), es[i]? = some e → t.place[i]? = some j → Rch t.mask t.place.toList e.1 j
theorem ins_at {α : Type} (xs : Array α) (p : Nat) (x : α) (hp : p ≤ xs.size) (i : Nat) (y : α) (h : (insertAt xs p x)[i]? = some y) :
    (i = p ∧ y = x) ∨ ∃ k, (if k < p then i = k else i = k + 1) ∧ xs[k]? = some y := by
  rw [← Array.getElem?_toList, SetTable.toList_insertAt] at h
  have hl : (xs.toList.take p).length = p := by rw [List.length_take, Array.length_toList]; omega
  by_cases h1 : i < p
  · rw [List.getElem?_append_left (by omega), List.getElem?_take_of_lt h1, Array.getElem?_toList] at h
    exact .inr ⟨i, by rw [if_pos h1], h⟩
  · rw [List.getElem?_append_right (by omega), hl] at h
    by_cases h2 : i = p
    · subst h2
      rw [Nat.sub_self] at h
      exact .inl ⟨rfl, (Option.some.inj h).symm⟩
    · obtain ⟨k, rfl⟩ : ∃ k, i = k + 1 := ⟨i - 1, by omega⟩
      rw [show k + 1 - p = (k - p) + 1 by omega, List.getElem?_cons_succ, List.getElem?_drop, show p + (k - p) = k by omega, Array.getElem?_toList] at h
      exact .inr ⟨k, by rw [if_neg (by omega)], h⟩
theorem ins_mem {α : Type} {xs : Array α} {p : Nat} {x y : α} : y ∈ (insertAt xs p x).toList ↔ y = x ∨ y ∈ xs.toList := by
  rw [(SetTable.insertAt_perm xs p x).mem_iff, Array.toList_push, List.mem_append, List.mem_singleton]
  exact Or.comm
theorem ins_size {α : Type} (xs : Array α) (p : Nat) (x : α) : (insertAt xs p x).size = xs.size + 1 := by
  rw [← Array.length_toList, (SetTable.insertAt_perm xs p x).length_eq, Array.toList_push, List.length_append, Array.length_toList]
  rfl
theorem ins_ris {xs : Array Nat} {j : Nat} (hr : xs.toList.Pairwise (· < ·)) (hj : j ∉ xs.toList) : (insertAt xs (below xs j) j).toList.Pairwise (· < ·) := by
  obtain ⟨h1, h2, h3⟩ := below_ok (xs := xs) j hr
  rw [SetTable.toList_insertAt]
  have lo : ∀ v ∈ xs.toList.take (below xs j), v < j := fun v hv => by
    obtain ⟨k, hk⟩ := List.mem_iff_getElem?.mp hv
    have hlt : k < below xs j := by
      have := (List.getElem?_eq_some_iff.mp hk).1
      rw [List.length_take] at this
      omega
    rw [List.getElem?_take_of_lt hlt, Array.getElem?_toList] at hk
    exact h1 k v hlt hk
  have hi : ∀ v ∈ xs.toList.drop (below xs j), j < v := fun v hv => by
    obtain ⟨k, hk⟩ := List.mem_iff_getElem?.mp hv
    rw [List.getElem?_drop, Array.getElem?_toList] at hk
    have l1 := h2 _ v (Nat.le_add_right _ _) hk
    have : v ≠ j := fun z => hj (z ▸ List.mem_of_mem_drop hv)
    omega
  refine List.pairwise_append.mpr ⟨hr.sublist (List.take_sublist _ _), List.pairwise_cons.mpr ⟨hi, hr.sublist (List.drop_sublist _ _)⟩, fun a ha b hb => ?_⟩
  rcases List.mem_cons.mp hb with rfl | hb
  · exact lo a ha
  · exact Nat.lt_trans (lo a ha) (hi b hb)
theorem Tab.put {es : Array (Int × Value)} {t : SetTable} (T : Tab es t) {j : Nat} (hj : j ∉ t.place.toList) (hjm : j ≤ t.mask) {h : Int} {x : Value} (r : Rch t.mask t.place.toList h j) (b : Bool) :
    Tab (insertAt es (below t.place j) (h, x)) { t with place := insertAt t.place (below t.place j) j, plain := b } := by
  have hb := (below_ok (xs := t.place) j T.ris).2.2
  refine ⟨?_, T.dm, ins_ris T.ris hj, fun k hk => ?_, fun i e k he hk => ?_⟩
  · show (insertAt t.place _ j).size = _
    rw [ins_size, ins_size, T.sz]
  · rcases ins_mem.mp hk with rfl | hk
    · exact hjm
    · exact T.le k hk
  · have sub : ∀ y ∈ t.place.toList, y ∈ (insertAt t.place (below t.place j) j).toList := fun y hy => ins_mem.mpr (.inr hy)
    rcases ins_at es _ _ (by rw [← T.sz]; exact hb) i e he with ⟨rfl, rfl⟩ | ⟨k1, e1, g1⟩
    · rcases ins_at t.place _ _ hb _ k hk with ⟨_, rfl⟩ | ⟨k2, e2, g2⟩
      · exact r.mono sub
      · split at e2 <;> omega
    · rcases ins_at t.place _ _ hb _ k hk with ⟨e2, rfl⟩ | ⟨k2, e2, g2⟩
      · split at e1 <;> omega
      · have e3 : k1 = k2 := by split at e1 <;> split at e2 <;> omega
        subst e3
        exact (T.rch k1 e k g1 g2).mono sub
theorem Tab.new (led : Bool) : Tab #[] (.fresh 0 0 led) := ⟨rfl, rfl, by simp [SetTable.fresh], fun j hj => by simp [SetTable.fresh] at hj, fun i e j he => by simp at he⟩
structure Own (hs : Array Int) (k : Nat) (ow : Array (Option Nat)) : Prop where
  sz : ow.size = 32
  ks : ((List.range 32).filterMap fun j => ow.getD j none).Perm (List.range k)
  rch : ∀ j i, ow[j]? = some (some i) → ∃ h, hs[i]? = some h ∧ ∃ n, (it 31 n (beg 31 h)).j = j ∧ ∀ m, m < n → ∃ i', ow[(it 31 m (beg 31 h)).j]? = some (some i')
end Tb
end L2
set_option Elab.async false
set_option linter.all false
set_option maxRecDepth 100000
namespace L2
open PySem
namespace Tb
open PySem.SetTable
def rs (mask : Nat) (q : Nat × Nat) : Probe := { j := q.1, more := runEnd mask q.1 - q.1, i := q.1, perturb := q.2, dummy := none }
theorem it_rs (mask : Nat) (q : Nat × Nat) : it mask (runEnd mask q.1 - q.1 + 1) (rs mask q) = rs mask (leap mask q.1 q.2) := it_run mask _ (rs mask q) rfl
theorem it_step (mask : Nat) : ∀ (k : Nat) (p : Probe), k ≤ p.more → (it mask k p).j = p.j + k
  | 0, p, _ => rfl
  | k + 1, p, h => by
    have e : adv mask p = { p with j := p.j + 1, more := p.more - 1 } := by unfold adv; rw [if_pos (by omega)]
    show (it mask k (adv mask p)).j = _
    rw [e, it_step mask k _ (show k ≤ p.more - 1 by omega)]
    show p.j + 1 + k = p.j + (k + 1)
    omega
theorem getD_none {ow : Array (Option Nat)} {j : Nat} (h : (ow.getD j (some 0)).isNone = true) : ow[j]? = some none := by
  by_cases hj : j < ow.size
  · rw [Array.getElem?_eq_getElem hj]
    simp only [Array.getD, hj, dite_true] at h
    congr 1
    exact Option.isNone_iff_eq_none.mp h
  · simp [Array.getD, hj] at h
theorem getD_some {ow : Array (Option Nat)} {j : Nat} (hj : j < ow.size) (h : (ow.getD j (some 0)).isNone ≠ true) : ∃ i, ow[j]? = some (some i) := by
  rw [Array.getElem?_eq_getElem hj]
  simp only [Array.getD, hj, dite_true] at h
  cases e : ow[j] with
  | none =>
    exfalso
    apply h
    have : (ow.getInternal j hj) = none := e
    rw [this]
    rfl
  | some i => exact ⟨i, rfl⟩
theorem free_ok {ow : Array (Option Nat)} (hs : ow.size = 32) : ∀ (fuel : Nat) (q : Nat × Nat), q.1 ≤ 31 → (∃ k, k < fuel ∧ ow[(lp 31 k q).1]? = some none) →
    ∃ j n, layClean.free 31 ow fuel q.1 q.2 = some j ∧ ow[j]? = some none ∧ (it 31 n (rs 31 q)).j = j ∧ ∀ m, m < n → ∃ i, ow[(it 31 m (rs 31 q)).j]? = some (some i)
  | 0, q, _, ⟨k, hk, _⟩ => absurd hk (by omega)
  | fuel + 1, q, hq, ⟨k, hk, hf⟩ => by
    have hin := run_in (mask := 31) hq
    unfold layClean.free
    cases e : (List.range (runEnd 31 q.1 + 1 - q.1)).find? fun k => (ow.getD (q.1 + k) (some 0)).isNone with
    | some m =>
      obtain ⟨h1, h2, h3⟩ := List.find?_range_eq_some.mp e
      have hm := List.mem_range.mp h2
      have hrun : q.1 ≤ runEnd 31 q.1 := by unfold runEnd; split <;> omega
      refine ⟨q.1 + m, m, rfl, getD_none h1, it_step 31 m _ (show m ≤ runEnd 31 q.1 - q.1 by omega), fun a ha => ?_⟩
      rw [it_step 31 a _ (show a ≤ runEnd 31 q.1 - q.1 by omega)]
      have h4 : (!(ow.getD (q.1 + a) (some 0)).isNone) = true := h3 a ha
      exact getD_some (show q.1 + a < ow.size by omega) fun z => by
        have z' : (ow.getD (q.1 + a) (some 0)).isNone = true := z
        rw [z'] at h4
        cases h4
    | none =>
      have h3 := List.find?_range_eq_none.mp e
      have hrun : q.1 ≤ runEnd 31 q.1 := by unfold runEnd; split <;> omega
      have taken : ∀ a, a ≤ runEnd 31 q.1 - q.1 → ∃ i, ow[q.1 + a]? = some (some i) := fun a ha => getD_some (show q.1 + a < ow.size by omega) fun z => by
        have h4 : (!(ow.getD (q.1 + a) (some 0)).isNone) = true := h3 a (by omega)
        rw [z] at h4
        cases h4
      have hk0 : k ≠ 0 := by
        rintro rfl
        obtain ⟨i, ei⟩ := taken 0 (Nat.zero_le _)
        have hf' : ow[q.1 + 0]? = some none := hf
        rw [hf'] at ei
        cases ei
      obtain ⟨k', rfl⟩ : ∃ k', k = k' + 1 := ⟨k - 1, by omega⟩
      obtain ⟨j, n, g1, g2, g3, g4⟩ := free_ok hs fuel (leap 31 q.1 q.2) (lp_le 31 1 q hq) ⟨k', by omega, hf⟩
      refine ⟨j, (runEnd 31 q.1 - q.1 + 1) + n, g1, g2, ?_, fun m hm => ?_⟩
      · rw [it_add, it_rs]
        exact g3
      · by_cases hlt : m ≤ runEnd 31 q.1 - q.1
        · rw [it_step 31 m _ hlt]
          exact taken m hlt
        · obtain ⟨m', rfl⟩ : ∃ m', m = (runEnd 31 q.1 - q.1 + 1) + m' := ⟨m - (runEnd 31 q.1 - q.1 + 1), by omega⟩
          rw [it_add, it_rs]
          exact g4 m' (by omega)
theorem fm_len {α β : Type} {f : α → Option β} : ∀ {l : List α}, (∀ x ∈ l, (f x).isSome = true) → (l.filterMap f).length = l.length
  | [], _ => rfl
  | x :: l, h => by
    obtain ⟨y, hy⟩ := Option.isSome_iff_exists.mp (h x List.mem_cons_self)
    rw [List.filterMap_cons_some hy, List.length_cons, List.length_cons, fm_len fun z hz => h z (List.mem_cons_of_mem _ hz)]
theorem fm_congr {α β : Type} {f g : α → Option β} : ∀ {l : List α}, (∀ x ∈ l, f x = g x) → l.filterMap f = l.filterMap g
  | [], _ => rfl
  | x :: l, h => by
    have e := h x List.mem_cons_self
    have ih := fm_congr fun z hz => h z (List.mem_cons_of_mem _ hz)
    cases e' : g x with
    | none => rw [List.filterMap_cons_none (e.trans e'), List.filterMap_cons_none e', ih]
    | some y => rw [List.filterMap_cons_some (e.trans e'), List.filterMap_cons_some e', ih]
theorem fm_set {α : Type} {f g : Nat → Option α} {j : Nat} {k : α} (hf : f j = none) (hg : g j = some k) (hne : ∀ x, x ≠ j → g x = f x) : ∀ {l : List Nat}, l.Nodup → j ∈ l → (l.filterMap g).Perm (k :: l.filterMap f)
  | [], _, h => absurd h (by simp)
  | x :: l, hn, h => by
    obtain ⟨h1, h2⟩ := List.nodup_cons.mp hn
    by_cases hx : x = j
    · subst hx
      rw [List.filterMap_cons_some hg, List.filterMap_cons_none hf]
      have : l.filterMap g = l.filterMap f := fm_congr fun y hy => hne y fun z => h1 (z ▸ hy)
      rw [this]
    · have ih := fm_set hf hg hne h2 (by
        rcases List.mem_cons.mp h with z | z
        · exact absurd z.symm hx
        · exact z)
      cases e : f x with
      | none =>
        rw [List.filterMap_cons_none e, List.filterMap_cons_none ((hne x hx).trans e)]
        exact ih
      | some y =>
        rw [List.filterMap_cons_some e, List.filterMap_cons_some ((hne x hx).trans e)]
        exact (ih.cons y).trans (List.Perm.swap k y _)
theorem getD_eq {ow : Array (Option Nat)} {j : Nat} (h : ow[j]? = some none) : ow.getD j none = none := by
  obtain ⟨h1, h2⟩ := Array.getElem?_eq_some_iff.mp h
  simp [Array.getD, h1, h2]
theorem own_free {hs : Array Int} {k : Nat} {ow : Array (Option Nat)} (O : Own hs k ow) (hk : k < 32) : ∃ j, j ≤ 31 ∧ ow[j]? = some none := by
  refine Classical.byContradiction fun z => ?_
  have := fm_len (f := fun j => ow.getD j none) (l := List.range 32) fun x hx => by
    have hx' : x < ow.size := by rw [O.sz]; exact List.mem_range.mp hx
    cases e : ow[x] with
    | none => exact absurd ⟨x, by have := O.sz; omega, by rw [Array.getElem?_eq_getElem hx', e]⟩ z
    | some i => simp [Array.getD, hx', e]
  rw [O.ks.length_eq, List.length_range, List.length_range] at this
  omega
theorem Own.step {hs : Array Int} {k : Nat} {ow : Array (Option Nat)} (O : Own hs k ow) (hk : k < 32) {h : Int} (hh : hs[k]? = some h) :
    ∃ j, layClean.free 31 ow (turns 31) (bits h % (31 + 1)) (bits h) = some j ∧ Own hs (k + 1) (ow.setIfInBounds j (some k)) := by
  obtain ⟨j0, hj0, e0⟩ := own_free O hk
  have V := Val.beg 31 h
  obtain ⟨m, m1, m2, me⟩ := lp_all (mask := 31) (i := bits h % (31 + 1)) (pert := bits h) (.inr rfl) V.i V.pert hj0
  obtain ⟨j, n, g1, g2, g3, g4⟩ := free_ok O.sz (turns 31) (bits h % (31 + 1), bits h) V.i ⟨m, by unfold turns; omega, by rw [me]; exact e0⟩
  have hj : j < ow.size := (Array.getElem?_eq_some_iff.mp g2).1
  have keep : ∀ {a i : Nat}, ow[a]? = some (some i) → (ow.setIfInBounds j (some k))[a]? = some (some i) := fun {a i} e => by
    rw [Array.getElem?_setIfInBounds_ne (fun z => by subst z; rw [g2] at e; cases e)]
    exact e
  refine ⟨j, g1, by rw [Array.size_setIfInBounds]; exact O.sz, ?_, fun a i e => ?_⟩
  · have p1 := fm_set (f := fun a => ow.getD a none) (g := fun a => (ow.setIfInBounds j (some k)).getD a none) (j := j) (k := k) (getD_eq g2)
      (by simp [Array.getD, hj]) (fun x hx => by simp only [Array.getD_eq_getD_getElem?]; rw [Array.getElem?_setIfInBounds_ne (Ne.symm hx)]) (l := List.range 32) List.nodup_range (List.mem_range.mpr (by have := O.sz; omega))
    refine p1.trans (((O.ks).cons k).trans ?_)
    rw [List.range_succ]
    exact (List.perm_append_singleton k (List.range k)).symm
  · by_cases ha : a = j
    · subst ha
      rw [Array.getElem?_setIfInBounds_self_of_lt hj] at e
      have : k = i := by injection e with e; injection e
      subst this
      exact ⟨h, hh, n, g3, fun b hb => let ⟨i', ei⟩ := g4 b hb; ⟨i', keep ei⟩⟩
    · rw [Array.getElem?_setIfInBounds_ne (Ne.symm ha)] at e
      obtain ⟨h', e1, n', e2, e3⟩ := O.rch a i e
      exact ⟨h', e1, n', e2, fun b hb => let ⟨i', ei⟩ := e3 b hb; ⟨i', keep ei⟩⟩
end Tb
end L2
set_option Elab.async false
set_option linter.all false
set_option maxRecDepth 100000
namespace L2
open PySem
namespace Tb
open PySem.SetTable
end Tb
end L2
set_option Elab.async false
set_option linter.all false
set_option maxRecDepth 100000
namespace L2
open PySem PySem.Spec PyProof.Rows
namespace Tb
open PySem.SetTable
section
variable {prog : Program} {w : World} {A : Around} {E : Value → Shared → Prop} {s : Shared}
abbrev tkh (prog : Program) (w : World) (x : List Key) : Int := tupleKeyHash (mixKind prog w) x
def EKey (prog : Program) (w : World) (h : Heap) (x : List Key) (e : Int × Value) : Prop := ∃ c, e.2 = .ref c ∧ IsTupleKey (mixKind prog w) h x c ∧ e.1 = tkh prog w x
theorem EKey.inj {h : Heap} {x y : List Key} {e : Int × Value} (a : EKey prog w h x e) (b : EKey prog w h y e) : x = y := by
  obtain ⟨c, e1, i1, _⟩ := a
  obtain ⟨d, e2, i2, _⟩ := b
  rw [e1] at e2
  injection e2 with e2
  subst e2
  exact i1.inj i2
end
end Tb
end L2
set_option Elab.async false
set_option linter.all false
set_option maxRecDepth 100000
namespace L2
open PySem PySem.Spec PyProof.Rows
namespace Tb
open PySem.SetTable
section
variable {prog : Program} {w : World} {A : Around} {E : Value → Shared → Prop} {s : Shared}
theorem Tab.fits {es : Array (Int × Value)} {t : SetTable} (T : Tab es t) (hl : es.size ≤ t.mask) : t.fits es.size = true := by
  unfold SetTable.fits SetTable.fill
  rw [T.dm, T.sz]
  simp
  exact hl
end
end Tb
end L2
set_option Elab.async false
set_option linter.all false
set_option maxRecDepth 100000
namespace L2
open PySem PySem.Spec PyProof.Rows
namespace Tb
open PySem.SetTable
section
variable {prog : Program} {w : World} {A : Around} {E : Value → Shared → Prop} {s : Shared}
def Room (es : Array (Int × Value)) (t : SetTable) : Prop := (t.mask = 7 ∧ es.size ≤ 4) ∨ (t.mask = 31 ∧ es.size ≤ 18)
def SetT (prog : Program) (w : World) (h : Heap) (a : Addr) (ks : List (List Key)) : Prop := ∃ o es ep t, h.get? a = some o ∧ o.ExactSet ∧ o.data = .set es ep t ∧ Tab es t ∧ Room es t ∧
  (∀ e ∈ es.toList, ∃ k, EKey prog w h k e) ∧ (∀ k, k ∈ ks ↔ ∃ e ∈ es.toList, EKey prog w h k e) ∧ es.size = ks.length
theorem key_to {h h' : Heap} {c : Addr} {x : List Key} (k : IsTupleKey (mixKind prog w) h x c) (sb : ∀ o, h.get? c = some o → o.cls = .type "tuple" → h'.get? c = some o) : IsTupleKey (mixKind prog w) h' x c := by
  obtain ⟨o', items, n, ho', hc, hd, hi⟩ := k
  exact ⟨o', items, n, sb _ ho' hc, hc, hd, hi⟩
def KeepTup (h h' : Heap) : Prop := ∀ c o, h.get? c = some o → o.cls = .type "tuple" → h'.get? c = some o
theorem EKey.keep {h h' : Heap} {x : List Key} {e : Int × Value} (k : EKey prog w h x e) (sb : KeepTup h h') : EKey prog w h' x e := by
  obtain ⟨c, e1, i1, e2⟩ := k
  exact ⟨c, e1, key_to i1 (sb c), e2⟩
theorem keys_keep {h h' : Heap} {es : Array (Int × Value)} {ks : List (List Key)} (sb : KeepTup h h') (h1 : ∀ e ∈ es.toList, ∃ k, EKey prog w h k e) (h2 : ∀ k, k ∈ ks ↔ ∃ e ∈ es.toList, EKey prog w h k e) :
    (∀ e ∈ es.toList, ∃ k, EKey prog w h' k e) ∧ ∀ k, k ∈ ks ↔ ∃ e ∈ es.toList, EKey prog w h' k e := by
  refine ⟨fun e he => let ⟨k, hk⟩ := h1 e he; ⟨k, hk.keep sb⟩, fun k => ⟨fun hk => ?_, fun ⟨e, he, hk⟩ => ?_⟩⟩
  · obtain ⟨e, he, hk⟩ := (h2 k).mp hk
    exact ⟨e, he, hk.keep sb⟩
  · obtain ⟨k', hk'⟩ := h1 e he
    rw [hk.inj (hk'.keep sb)]
    exact (h2 k').mpr ⟨e, he, hk'⟩
theorem SetT.keep {h h' : Heap} {a : Addr} {ks : List (List Key)} (S : SetT prog w h a ks) (sb : KeepTup h h') (ha : ∀ o, h.get? a = some o → h'.get? a = some o) : SetT prog w h' a ks := by
  obtain ⟨o, es, ep, t, ho, hex, hd, T, R, h1, h2, h3⟩ := S
  obtain ⟨g1, g2⟩ := keys_keep sb h1 h2
  exact ⟨o, es, ep, t, ha _ ho, hex, hd, T, R, g1, g2, h3⟩
end
end Tb
end L2
set_option Elab.async false
set_option linter.all false
set_option maxRecDepth 100000
namespace L2
open PySem PySem.Spec PyProof.Rows
section
variable {α : Type} [DecidableEq α]
def ddF : List α → List α → List α
  | acc, [] => acc
  | acc, x :: l => ddF (if x ∈ acc then acc else acc ++ [x]) l
def dd (l : List α) : List α := ddF [] l
end
section
variable {prog : Program} {w : World} {A : Around} {E : Value → Shared → Prop} {s : Shared}
theorem set_loop {R : Result → Shared → Prop} {I S : Addr} {fp wr : List Addr} {n : Nat} {P : Nat → Value → Prop} {St : Nat → Shared → Prop}
    (W : WalksS prog w A.in1 I fp wr (fun a b => b = a) n P St) (hSf : S ∉ fp) (J : Nat → Heap → Prop)
    (hfr : ∀ (i : Nat) (s s' : Shared), i ≤ n → St i s → J i s.heap → (∀ b o, b ∉ wr → s.heap.get? b = some o → s'.heap.get? b = some o) → J i s'.heap)
    (hadd : ∀ (i : Nat) (v : Value) (s : Shared) (Q : Bool → Shared → Prop) (E : Value → Shared → Prop), i < n → P i v → J i s.heap →
      (∀ (c : Bool) (h' : Heap) (tk : Nat), s.toks ≤ tk → Heap.SameBut S s.heap h' → J (i + 1) h' → Q c { s with heap := h', toks := tk }) → wpAny (model prog w) A.in1 (setAdd S v) Q E s) :
    ∀ (k i : Nat) (s : Shared), n - i = k → i ≤ n → St i s → J i s.heap →
      (∀ s', Moved (S :: wr) (fun a b => b = a) s s' → J n s'.heap → R (.ok (.ret .none)) s') →
      codeAny (model prog w) A (.builtin "set.update.loop" ⟨[.ref S, .ref I], []⟩) R s := by
  have inS : ∀ b ∈ wr, b ∈ S :: wr := fun b => List.mem_cons_of_mem S
  intro k
  induction k with
  | zero =>
    intro i s hk hi st j hR
    obtain rfl : i = n := by omega
    refine codeAny_builtin F.entry_set_update_loop ?_; rw [Around.under_plainId F.plain_set_update_loop _]
    show wpAny _ A.in1 (pyNext (.ref I) >>= _) _ _ _; refine wpAny_bind (W.done s _ _ st fun s' mv => ?_)
    show wpAny _ _ (ret Value.none) _ _ _; exact wpAny_pure (hR s' (mv.mono inS) (hfr i s s' hi st j mv.heap))
  | succ k ih =>
    intro i s hk hi st j hR
    have li : i < n := by omega
    refine codeAny_builtin F.entry_set_update_loop ?_; rw [Around.under_plainId F.plain_set_update_loop _]
    show wpAny _ A.in1 (pyNext (.ref I) >>= _) _ _ _; refine wpAny_bind (W.item i s _ _ li st fun v s1 hP st1 mv => ?_)
    show wpAny _ _ (holding [v] (setAdd S v) >>= _) _ _ _
    refine wpAny_bind (wpAny_holding (hadd i v s1 _ _ li hP (hfr i s s1 hi st j mv.heap) fun c h2 tk htk sb j2 => ?_))
    refine wpAny_pure ⟨plainId_quiet F.plain_set_update_loop _, ih (i + 1) _ (by omega) li (W.frame _ s1 _ _ st1 htk fun b hb o e => ?_) j2 fun s3 mv3 j3 => ?_⟩
    · rw [sb.2 b fun z : b = S => hSf (z ▸ hb)]; exact e
    · refine hR s3 (.trans W.gtrans ((mv.mono inS).then_heap htk fun b o hb e => ?_) mv3) j3
      rw [sb.2 b fun z : b = S => hb (z ▸ List.mem_cons_self)]; exact e
def newSet (led : Bool) : Obj := { cls := .type "set", dict := none, data := .set #[] 0 (.fresh 0 0 led) }
set_option maxHeartbeats 3200000 in
theorem call_set_of {l : Addr} {items : Array Value} {Q : Value → Shared → Prop} (hh : A.handled = none) (hl : s.heap.IsList l items) (J : Nat → Heap → Prop)
    (h0 : ∀ (h' : Heap) (led : Bool), h'.get? s.heap.objs.size = some (newSet led) → J 0 h')
    (hfr : ∀ (i : Nat) (h h' : Heap), J i h → (∀ b o, h.get? b = some o → o.cls ≠ .type "list_iterator" → h'.get? b = some o) → J i h')
    (hadd : ∀ (A' : Around) (i : Nat) (v : Value) (s' : Shared) (Q' : Bool → Shared → Prop) (E' : Value → Shared → Prop), A'.units = A.units + 3 → items[i]? = some v → (∀ b o, s.heap.get? b = some o → s'.heap.get? b = some o) → J i s'.heap →
      (∀ (c : Bool) (h' : Heap) (tk : Nat), s'.toks ≤ tk → Heap.SameBut s.heap.objs.size s'.heap h' → J (i + 1) h' → Q' c { s' with heap := h', toks := tk }) → wpAny (model prog w) A' (setAdd s.heap.objs.size v) Q' E' s')
    (h : ∀ (h' : Heap) (tk : Nat), J items.size h' → (∀ b o, s.heap.get? b = some o → h'.get? b = some o) → Q (.ref s.heap.objs.size) { s with heap := h', toks := tk }) :
    wpAny (model prog w) A (call (.type "set") [.ref l]) Q E s := by
  obtain ⟨c, tl, hmro⟩ := F.called_set.mro
  have hmade := F.called_set.made; have hsub := F.called_set.sub
  refine wpAny_call (codeAny_of_tree ?_); show wpAny _ _ (callAny (.type "set") _) _ _ _
  refine wpAny_pure ⟨Code.quiet_builtin _ (by decide +kernel), codeAny_builtin F.entry_type_call ?_⟩; rw [Around.under_plain (weight_type_call_type "set" [.ref l] []) rfl]
  have h1 := F.called_set.notType; have h2 := F.called_set.canCreate; have hct := F.typeCall_set_1 (.ref l)
  repeat (any_goals (first | assumption | wp_step))
  refine codeAny_mono (code_set_new_1 (.ref l) (E := E) (Q₁ := fun ob s₁ => ∃ led, ob = .ref s.heap.objs.size ∧ s₁ = { s with heap := s.heap.push (newSet led) }) fun led => ⟨led, rfl, rfl⟩) fun r s₁ hr => ?_
  cases r with
  | error e => exact hr
  | ok fl =>
    cases fl with
    | ret obj =>
      obtain ⟨led, rfl, rfl⟩ := hr
      have hS : (s.heap.push (newSet led)).get? s.heap.objs.size = some (newSet led) := Heap.get?_push_size _ rfl
      have hT : Shared.TypeIs { s with heap := s.heap.push (newSet led) } (.ref s.heap.objs.size) "set" := ⟨_, hS, rfl⟩
      have hli := F.called_set.init.lookup; have hbi := F.called_set.init.bind (.ref s.heap.objs.size)
      repeat (any_goals (first | assumption | wp_step))
      refine codeAny_mono (codeAny_call_builtin (R := wants (fun r s₂ => r = .none ∧ ∃ h' tk, s₂ = { s with heap := h', toks := tk } ∧ J items.size h' ∧ (∀ b o, s.heap.get? b = some o → h'.get? b = some o)) E) F.called_set.init.plain F.entry_set_init (check_set_init_1 hT ?_)) fun r₂ s₂ hr₂ => ?_
      · obtain ⟨ol, hol, hcl, nl, hdl⟩ := hl
        obtain ⟨ocls, odict, odata, oslots⟩ := ol
        simp only at hcl hdl
        subst hcl; subst hdl
        have hol' : (s.heap.push (newSet led)).get? l = some { cls := .type "list", dict := odict, data := .seq items nl, slots := oslots } := Heap.get?_push_of_some _ hol
        have hsls := F.sub_list_set; have hslf := F.sub_list_frozenset
        have hne : (Value.type "list" == Value.type "dict") = false := by decide
        have hl1 : (s.heap.push (newSet led)).IsList l items := ⟨_, hol', rfl, nl, rfl⟩
        unfold Builtin.«set.__init__» noKeywords Builtin.Frozenset.updateFrom
        generalize hPI : pyIter = PI
        wp_walk
        subst hPI
        refine wpAny_pyIter_list hl1 (wpAny_bind (wpAny_runValue ?_))
        have hlS : l < s.heap.objs.size := Heap.lt_size hol
        have hh3 : A.in1.in1.in1.handled = none := by simp [hh]
        have eI : (s.heap.push (newSet led)).objs.size = s.heap.objs.size + 1 := Heap.size_push _ _
        refine set_loop ((Walks.list hh3 _ l (by rw [eI]; exact Nat.ne_of_lt (Nat.lt_succ_of_lt hlS)) items).toS) (S := s.heap.objs.size) (by rw [eI]; exact fun z => (List.mem_cons.mp z).elim (fun z => absurd z (Nat.ne_of_lt (Nat.lt_succ_self _))) fun z => absurd (List.mem_singleton.mp z) (Nat.ne_of_gt hlS))
          (fun i h => (∀ b o, s.heap.get? b = some o → h.get? b = some o) ∧ J i h) ?_ ?_ (items.size - 0) 0 _ (by omega) (Nat.zero_le _) ⟨⟨_, Heap.get?_push_size _ rfl, rfl, rfl⟩, (hl1.push _)⟩ ⟨?_, ?_⟩ ?_
        · rintro i s3 s4 hi ⟨⟨oi, g1, g2, g3⟩, _⟩ ⟨kp, j⟩ mv
          refine ⟨fun b o e => mv b o (fun z => ?_) (kp b o e), hfr i _ _ j fun b o e hc => mv b o (fun z => ?_) e⟩
          · rw [List.mem_singleton.mp z, eI] at e
            exact absurd (Nat.lt_of_succ_lt (Heap.lt_size e)) (Nat.lt_irrefl _)
          · rw [List.mem_singleton.mp z] at e
            rw [e] at g1
            cases g1
            exact hc g2
        · rintro i v s3 Q3 E3 hi hv ⟨kp, j⟩ hq
          refine hadd _ i v s3 Q3 E3 rfl hv kp j fun c h4 tk htk sb j4 => hq c h4 tk htk sb ⟨fun b o e => ?_, j4⟩
          rw [sb.2 b fun z => by rw [z] at e; exact Nat.lt_irrefl _ (Heap.lt_size e)]
          exact kp b o e
        · exact fun b o e => Heap.get?_push_of_some _ (Heap.get?_push_of_some _ e)
        · exact h0 _ led (Heap.get?_push_of_some _ hS)
        · rintro ⟨h', g', d', tk', os'⟩ mv ⟨kp, j⟩
          obtain rfl : g' = s.gens := mv.gens
          obtain rfl : d' = s.drawn := mv.drawn
          obtain rfl : os' = s.os := mv.os
          show wpAny _ _ _ _ _ _
          refine wpAny_pure ?_
          show wpAny _ _ (ret Value.none) _ _ _; exact wpAny_pure ⟨rfl, h', tk', rfl, j, kp⟩
      · cases r₂ with
        | error e => exact hr₂
        | ok fl₂ =>
          cases fl₂ with
          | ret r =>
            obtain ⟨rfl, h', tk, rfl, j, kp⟩ := hr₂
            repeat (any_goals (first | assumption | wp_step))
            exact h _ _ j kp
          | next => exact False.elim hr₂
          | brk => exact False.elim hr₂
          | cont => exact False.elim hr₂
    | next => exact False.elim hr
    | brk => exact False.elim hr
    | cont => exact False.elim hr
end
end L2
set_option Elab.async false
set_option linter.all false
set_option maxRecDepth 100000
namespace L2
open PySem PySem.Spec PyProof.Rows
theorem notcell {h : Heap} {a : Addr} {m : Str → Option Value} {o : Obj} (n : h.Ns a m) (ho : h.get? a = some o) : ∀ v, o.data ≠ .cell v := by
  obtain ⟨o', es, ep, ho', hd, _⟩ := n
  obtain rfl : o = o' := Option.some.inj (ho.symm.trans ho')
  intro v z
  rw [z] at hd
  cases hd
theorem ps_compS {X : Cx} {elt tg iter : Expr} {ifs : List Expr} {scope : Scope} {pos pos' spos : Pos} {wi : TI} {g : TG} {tc : TT} {te : TE} {N' : List Str} {cap : List (Option Nat)} {ix : Nat} {y : Str} (hN0 : X.N.Nodup) (hi0 : X.N[ix]? = some y) (hx0 : Loc X.env.scope y) (hf0 : X.fn y = true ∨ X.env.scope.names.lookup y = some .local)
    (hcalm : X.calm = true) (S : CScope scope) (hsw : swapsWith (.ListComp elt [⟨tg, iter, ifs, 0⟩] scope pos) (some (.Name y pos')) spos.line X.env = pure true)
    (hfree : ∀ y ∈ scope.names, y.2 = .free → X.env.kindOf y.1 = some .cell) (hcap : CapOk X scope N' cap) (hi : PI X tg iter wi) (hg : ∀ cl C fp s H, PG (cxComp X N' scope cl C fp s H) tg g)
    (hc : ∀ cl C fp s H, PTs (cxComp X N' scope cl C fp s H) ifs tc) (he : ∀ cl C fp s H, PE (cxComp X N' scope cl C fp s H) elt te) (hs : ∀ x, foldedSetIterable iter X.env x = pure x := by intro _; rfl) :
    PS X (.Assign [.Name y pos'] (.ListComp elt [⟨tg, iter, ifs, 0⟩] scope pos) spos) (tAsg (tComp wi g tc te cap) (gName ix)) := by
  intro pins s σ H Dn I h
  have hcells : ∀ n, (n, NameKind.free) ∈ scope.names → ∃ c, X.env.cells.lookup n = some c := fun n hn => I.ok.has n (.inl (hfree _ hn rfl))
  obtain ⟨cl, hclos, hcl, hcl2⟩ := closure_of hcells
  rw [exec_Assign_Name_used _ _ _ _ hsw, arm_evalThenUse_ListComp]
  refine wpAny_bind (wpAny_standAt (wpAny_bind (wpAny_bind (thn (comp_core (use := some (assign (.Name y pos') X.env)) (Qv := fun _ s' => SP X pins Dn .next s') hcalm S hclos hcl hcl2 hcap hi hg hc he hs I h fun D fp s3 s6 H3 H5 I3 f3 I6 q => ?_) fun _ s' q => wpAny_pure (wpAny_pure q)))))
  obtain ⟨m6, hn6, _⟩ := I6.loc
  have I7 : Inv X pins σ H5 s6 := I3.call' (s' := s6) I6.os I6.base I6.hok I6.bare fun b hb => ⟨(f3 b hb).2.2.2.1, (f3 b hb).2.1, (f3 b hb).2.2.2.2.1, (f3 b hb).2.2.2.2.2⟩
  have fC : FpOk X pins H5 s3.heap.objs.size := I3.fpOk (Nat.le_refl _) I6.free
  have hn6' : s6.heap.Ns s3.heap.objs.size m6 := hn6
  obtain ⟨oC, es, ep, hoC, rC⟩ := id hn6'
  have dC : ∀ v, oC.data ≠ .cell v := notcell hn6' hoC
  have I8 := I7.pinned (fp := [s3.heap.objs.size]) (fun b hb => by rw [List.mem_singleton.mp hb]; exact fC) (fun b hb => by rw [List.mem_singleton.mp hb]; exact ⟨oC, hoC, dC⟩)
  show wpAny _ _ (assign (.Name y pos') X.env (.ref D)) _ _ _
  refine thn (pg_name hN0 hi0 hx0 hf0 _ s6 σ H5 (.ref D) (.ref D) _ I8 rfl q) fun _ s9 ⟨σ9, H9, I9, q9⟩ => ?_
  obtain ⟨g1, g2, _⟩ := I9.pin (s3.heap.objs.size, oC) (List.mem_append_right _ (List.mem_append_right _ (mem_pinsAt (by simp) hoC)))
  refine ⟨m6, ⟨oC, es, ep, g1, rC⟩, fun h7 hs7 => ⟨σ9, H9, ?_, q9⟩⟩
  exact (I9.unpinned).turned (t' := s9.toks) (it := s3.heap.objs.size) (fun b o hb e => (hs7.2 b hb).trans e) g2 fC.2.1 fC.2.2.2.1 fC.2.2.2.2.1 fC.2.2.2.2.2
theorem ps_cmpS {X : Cx} {elt tg iter : Expr} {ifs : List Expr} {scope : Scope} {pos pos' spos : Pos} {wi : TI} {g : TG} {tc : TT} {te : TE} {ix : Nat} {y : Str} (hN0 : X.N.Nodup) (hi0 : X.N[ix]? = some y) (hx0 : Loc X.env.scope y) (N : List Str) (sc : Scope) (N' : List Str) (cap : List (Option Nat)) (hi : PI X tg iter wi)
    (hg : ∀ cl C fp s H, PG (cxComp X N' scope cl C fp s H) tg g) (hc : ∀ cl C fp s H, PTs (cxComp X N' scope cl C fp s H) ifs tc) (he : ∀ cl C fp s H, PE (cxComp X N' scope cl C fp s H) elt te)
    (hf0 : X.fn y = true ∨ X.env.scope.names.lookup y = some .local := by first | exact .inl rfl | exact .inr rfl)
    (hsw : swapsWith (.ListComp elt [⟨tg, iter, ifs, 0⟩] scope pos) (some (.Name y pos')) spos.line X.env = pure true := by rfl)
    (hcalm : X.calm = true := by rfl) (hN : X.N = N := by rfl) (hsc : X.env.scope = sc := by rfl) (chk : compChk N sc scope N' cap = true := by decide +kernel) (hs : ∀ x, foldedSetIterable iter X.env x = pure x := by intro _; rfl) :
    PS X (.Assign [.Name y pos'] (.ListComp elt [⟨tg, iter, ifs, 0⟩] scope pos) spos) (tAsg (tComp wi g tc te cap) (gName ix)) := by
  obtain ⟨a1, a2, a3⟩ := compChk_ok hN hsc chk
  exact ps_compS hN0 hi0 hx0 hf0 hcalm a1 hsw a2 a3 hi hg hc he hs
end L2
set_option Elab.async false
set_option linter.all false
set_option maxRecDepth 100000
namespace L2
open PySem PySem.Spec PyProof.Rows
def SetAt (h : Heap) (a : Addr) (n : Nat) : Prop := ∃ o es ep t, h.get? a = some o ∧ o.ExactSet ∧ o.data = .set es ep t ∧ t.fits es.size = true ∧ es.size = n ∧ n < 4096
def SetN (a : Addr) (n : Nat) : HO := .ext fun h => SetAt h a n
theorem vals_at {xs : List V} {us : List Value} {i : Nat} {u : Value} (r : Vals xs us) (e : us[i]? = some u) : ∃ x, xs[i]? = some x ∧ RelV x u := by
  have hi : i < us.length := (List.getElem?_eq_some_iff.mp e).1
  have hl := r.length
  obtain ⟨u', h1, h2⟩ := Vals.get r (List.getElem?_eq_getElem (show i < xs.length by omega))
  rw [e] at h1
  cases h1
  exact ⟨_, List.getElem?_eq_getElem (by omega), h2⟩
def inB {α : Type} [DecidableEq α] (k : α) (l : List α) : Bool := decide (k ∈ l)
def KeyT (K : PySem.W.Frag) (H : Hp) (x : V) (k : List Key) : Prop := ∃ c, x = .ref c ∧ SqT K H c (k.map kV)
def rSet (K : PySem.W.Frag) : List V → Hp → VK → Prop := fun xs H Q => ∃ p ys, xs = [.ref p] ∧ SqL K H p ys ∧
  ((∃ ks : List Key, ys = ks.map kV ∧ ks.length ≤ 1000 ∧ ∀ l, H l = none → Q (.ref l) (upd H l (SetN l (dd ks).length))) ∨
   ∃ ks : List (List Key), Paired (KeyT K H) ys ks ∧ ks.length ≤ 18 ∧ ∀ l, H l = none → Q (.ref l) (upd H l (SetN l (dd ks).length)))
section
variable {X : Cx}
def rLenS : List V → Hp → VK → Prop := fun xs H Q => ∃ p n, xs = [.ref p] ∧ H p = some (SetN p n) ∧ Q (.int n) H
def rIsiXT (K : PySem.W.Frag) : List V → Hp → VK → Prop := fun xs H Q => ∃ (x C : Addr) (b : Bool) (tp : Addr) (cs : List Addr), xs = [.ref x, .ref tp] ∧ H x = some (ExcO x C) ∧ ExcC K C ∧ SqT K H tp (cs.map V.ref) ∧ PySem.W.kitAny K (.ref C) (cs.map Value.ref) = some b ∧ Q (.bl b) H
def rSum (K : PySem.W.Frag) : List V → Hp → VK → Prop := fun xs H Q => ∃ (p : Addr) (ns : List Int), xs = [.ref p] ∧ SqL K H p (ns.map V.int) ∧ Q (.int (preSum (fun i => ns.getD i 0) ns.length)) H
theorem call_sum (hc : X.calm = true) : CallR X (.builtin "sum") (rSum X.K) := by
  intro pins s σ H xs us Q I r h
  obtain ⟨p, ns, rfl, hq, q⟩ := h
  obtain ⟨u, rfl, rx⟩ := vals1 r
  cases rx
  obtain ⟨its, r', pl, hz⟩ := I.list hq
  have hl := pl.isList
  have hlt : p < s.heap.objs.size := by obtain ⟨_, e, _⟩ := hl; exact Heap.lt_size e
  refine call_sum_walkAnyS (wpAny_pyIter_list hl ⟨s.heap.objs.size, [s.heap.objs.size, p], [s.heap.objs.size], _, its.toArray.size, _, _, fun i => ns.getD i 0, rfl, (Walks.list (A := X.A.in1) (I.ok.hd hc) _ p (Nat.ne_of_lt hlt) its.toArray).toS,
    ⟨⟨_, Heap.get?_push_size _ rfl, rfl, rfl⟩, hl.push _⟩, fun b hb => ?_, fun i v hP => ?_, fun s' t' mv => ?_⟩)
  · rw [Heap.size_push]
    rcases List.mem_cons.mp hb with rfl | hb
    · exact Nat.lt_succ_self _
    · rw [List.mem_singleton.mp hb]
      exact Nat.lt_succ_of_lt hlt
  · obtain ⟨x, hx, rx⟩ := vals_at r' (show its[i]? = some v by simpa using hP)
    rw [List.getElem?_map] at hx
    cases e : ns[i]? with
    | none => rw [e] at hx; cases hx
    | some z =>
      rw [e] at hx
      cases hx
      obtain ⟨t, rfl⟩ := rx
      exact ⟨t, by show _ = Value.int (ns.getD i 0) t; rw [List.getD_eq_getElem?_getD, e]; rfl⟩
  · have hlen : its.toArray.size = ns.length := by rw [List.size_toArray, ← r'.length, List.length_map]
    rw [hlen]
    obtain ⟨h', g', d', tk', os'⟩ := s'
    obtain rfl : g' = s.gens := mv.gens
    obtain rfl : d' = s.drawn := mv.drawn
    obtain rfl : os' = s.os := mv.os
    exact ⟨.int _, H, I.kept (kept_push fun b x hb e => mv.heap b x hb e), ⟨_, rfl⟩, q⟩
theorem call_sumK (K : PySem.W.Frag) (hc : X.calm = true := by rfl) (hK : X.K = K := by rfl) : CallR X (.builtin "sum") (rSum K) := by subst hK; exact call_sum hc
end
end L2
set_option Elab.async false
set_option linter.all false
set_option maxRecDepth 100000
namespace L2
open PySem PySem.Spec PyProof.Rows
abbrev PSV (X : Cx) (l : List Stmt) : Type := { t : TS // PSs X l t }
def stAt (l : List Stmt) (i : Nat) : Stmt := l.getD i (.Pass ⟨0, 0, 0, 0⟩)
def bodyOf : Stmt → List Stmt
  | .For _ _ b _ _ => b
  | .If _ b _ _ => b
  | .While _ b _ _ => b
  | _ => []
def elseOf : Stmt → List Stmt
  | .If _ _ b _ => b
  | _ => []
section
variable {K : PySem.W.Frag}
theorem ls1 {us : List Value} (h : us.length = 1) : ∃ a, us = [a] := by
  cases us with
  | nil => exact absurd h (by simp)
  | cons a t =>
    cases t with
    | nil => exact ⟨a, rfl⟩
    | cons b t => exact absurd h (by simp)
theorem lsS {us : List Value} {n : Nat} (h : us.length = n + 1) : ∃ a t, us = a :: t ∧ t.length = n := by
  cases us with
  | nil => exact absurd h (by simp)
  | cons a t => exact ⟨a, t, rfl, Nat.succ.inj h⟩
theorem Fun.binds1 {x qual : Str} {st : Stmt} {f : Addr} {fd : FuncData} {p0 : Str} (F : Fun K x qual st f fd) (h : ∀ (kV doc pm : Value) (an : Option Addr) (cdv ct v0 : Value), bindArgs (PySem.W.fnOf x qual (defArgs st) (defBody st) (defScope st) .none kV doc pm an cdv ct) ⟨[v0], []⟩ = pure [(p0, v0)]) : Binds K fd [p0] [] := by
  refine F.binds (ps := [p0]) fun kV doc pm an cdv ct us hl => ?_
  obtain ⟨v0, e0⟩ := ls1 hl
  subst e0
  exact h kV doc pm an cdv ct v0
theorem Fun.binds2 {x qual : Str} {st : Stmt} {f : Addr} {fd : FuncData} {p0 p1 : Str} (F : Fun K x qual st f fd) (h : ∀ (kV doc pm : Value) (an : Option Addr) (cdv ct v0 v1 : Value), bindArgs (PySem.W.fnOf x qual (defArgs st) (defBody st) (defScope st) .none kV doc pm an cdv ct) ⟨[v0, v1], []⟩ = pure [(p0, v0), (p1, v1)]) : Binds K fd [p0, p1] [] := by
  refine F.binds (ps := [p0, p1]) fun kV doc pm an cdv ct us hl => ?_
  obtain ⟨v0, us0, e0, h0⟩ := lsS hl
  obtain ⟨v1, e1⟩ := ls1 h0
  subst e1
  subst e0
  exact h kV doc pm an cdv ct v0 v1
theorem Fun.binds3 {x qual : Str} {st : Stmt} {f : Addr} {fd : FuncData} {p0 p1 p2 : Str} (F : Fun K x qual st f fd) (h : ∀ (kV doc pm : Value) (an : Option Addr) (cdv ct v0 v1 v2 : Value), bindArgs (PySem.W.fnOf x qual (defArgs st) (defBody st) (defScope st) .none kV doc pm an cdv ct) ⟨[v0, v1, v2], []⟩ = pure [(p0, v0), (p1, v1), (p2, v2)]) : Binds K fd [p0, p1, p2] [] := by
  refine F.binds (ps := [p0, p1, p2]) fun kV doc pm an cdv ct us hl => ?_
  obtain ⟨v0, us0, e0, h0⟩ := lsS hl
  obtain ⟨v1, us1, e1, h1⟩ := lsS h0
  obtain ⟨v2, e2⟩ := ls1 h1
  subst e2
  subst e1
  subst e0
  exact h kV doc pm an cdv ct v0 v1 v2
theorem Fun.binds4 {x qual : Str} {st : Stmt} {f : Addr} {fd : FuncData} {p0 p1 p2 p3 : Str} (F : Fun K x qual st f fd) (h : ∀ (kV doc pm : Value) (an : Option Addr) (cdv ct v0 v1 v2 v3 : Value), bindArgs (PySem.W.fnOf x qual (defArgs st) (defBody st) (defScope st) .none kV doc pm an cdv ct) ⟨[v0, v1, v2, v3], []⟩ = pure [(p0, v0), (p1, v1), (p2, v2), (p3, v3)]) : Binds K fd [p0, p1, p2, p3] [] := by
  refine F.binds (ps := [p0, p1, p2, p3]) fun kV doc pm an cdv ct us hl => ?_
  obtain ⟨v0, us0, e0, h0⟩ := lsS hl
  obtain ⟨v1, us1, e1, h1⟩ := lsS h0
  obtain ⟨v2, us2, e2, h2⟩ := lsS h1
  obtain ⟨v3, e3⟩ := ls1 h2
  subst e3
  subst e2
  subst e1
  subst e0
  exact h kV doc pm an cdv ct v0 v1 v2 v3
theorem Fun.binds5 {x qual : Str} {st : Stmt} {f : Addr} {fd : FuncData} {p0 p1 p2 p3 p4 : Str} (F : Fun K x qual st f fd) (h : ∀ (kV doc pm : Value) (an : Option Addr) (cdv ct v0 v1 v2 v3 v4 : Value), bindArgs (PySem.W.fnOf x qual (defArgs st) (defBody st) (defScope st) .none kV doc pm an cdv ct) ⟨[v0, v1, v2, v3, v4], []⟩ = pure [(p0, v0), (p1, v1), (p2, v2), (p3, v3), (p4, v4)]) : Binds K fd [p0, p1, p2, p3, p4] [] := by
  refine F.binds (ps := [p0, p1, p2, p3, p4]) fun kV doc pm an cdv ct us hl => ?_
  obtain ⟨v0, us0, e0, h0⟩ := lsS hl
  obtain ⟨v1, us1, e1, h1⟩ := lsS h0
  obtain ⟨v2, us2, e2, h2⟩ := lsS h1
  obtain ⟨v3, us3, e3, h3⟩ := lsS h2
  obtain ⟨v4, e4⟩ := ls1 h3
  subst e4
  subst e3
  subst e2
  subst e1
  subst e0
  exact h kV doc pm an cdv ct v0 v1 v2 v3 v4
end
def rJoin (K : PySem.W.Frag) : V → List V → Hp → VK → Prop := fun x vs H Q => ∃ (z : Str) (p : Addr) (ss : List Str), x = .str z ∧ vs = [.ref p] ∧ SqL K H p (ss.map V.str) ∧ JoinOk z ss = true ∧ Q (.str (Txt.join z ss)) H
section
variable {X : Cx}
theorem bt_abs : bootBuiltins "abs" = some (.builtin "abs") := by decide +kernel
end
section
variable {X : Cx}
def rExtT (K : PySem.W.Frag) : V → List V → Hp → VK → Prop := fun x vs H Q => ∃ l b xs zs, x = .ref l ∧ vs = [.ref b] ∧ H l = some (.lst xs) ∧ SqT K H b zs ∧ xs.length + zs.length ≤ sizeLine ∧ Q .non (upd H l (.lst (xs ++ zs)))
theorem mt_extT (K : PySem.W.Frag) (hK : X.K = K := by rfl) : MtM X "list.extend" (rExtT K) := by
  subst hK
  intro pins s σ H x vs v us Q I rx rv h
  obtain ⟨l, b, xs, zs, rfl, rfl, hH, hB, hz, q⟩ := h
  cases rx
  obtain ⟨u, rfl, ru⟩ := rv.one
  cases ru
  obtain ⟨z, its, n, r, hl, e⟩ := I.lstM hH
  obtain ⟨its2, r2, ⟨o2, ho2, hc2, n2, hd2⟩, z2⟩ := I.tuple hB
  have hl2 := r2.length
  have hsz : its.toArray.size + its2.toArray.size ≤ sizeLine := by rw [List.size_toArray, List.size_toArray]; omega
  refine wpAny_call_entry F.slot_list_extend ⟨_, e, rfl⟩ F.entry_list_extend ?_ (F.args_list_extend_2 _ _)
  show wpAny _ _ (Builtin.List.listExtendWith (.ref l) (.ref b) .none) _ _ s
  unfold Builtin.List.listExtendWith
  refine wpAny_bind (wpAny_typeOf (T := "tuple") ⟨o2, ho2, hc2⟩ ?_)
  have ht : (Value.type "tuple" == Value.type "list" || Value.type "tuple" == Value.type "tuple") = true := rfl
  rw [if_pos (by rw [Bool.or_assoc, ht, Bool.or_true])]
  refine wpAny_bind (listItems_at ho2 hd2 ?_)
  refine wpAny_bind (listItems_at e rfl ?_)
  rw [if_neg (by rw [notLongL hsz, Bool.and_false]; exact Bool.false_ne_true)]
  refine wpAny_bind (listUpdate_at e rfl ?_ (by rw [List.size_toArray]; omega) (by rw [Array.size_append]; omega))
  refine wpAny_pure ⟨_, rfl, .non, _, I.lset (its' := its ++ its2) (t' := s.toks) hH e (by simp) (r.append r2) ?_, rfl, q⟩
  rw [List.length_append]
  omega
def rIsiT (K : PySem.W.Frag) : List V → Hp → VK → Prop := fun vs H Q => ∃ (a : Addr) (xs : List V) (n : String) (c : Bool), vs = [.ref a, .ty n] ∧ SqT K H a xs ∧ PySem.W.kitOne K (.type "tuple") (.type n) = some c ∧ Q (.bl c) H
theorem call_isiTK (K : PySem.W.Frag) (hK : X.K = K := by rfl) : CallR X (.builtin "isinstance") (rIsiT K) := by
  subst hK
  intro pins s σ H vs us Q I r h
  obtain ⟨a, xs, n, c, rfl, sq, e, q⟩ := h
  obtain ⟨u, w', rfl, ru, rw'⟩ := vals2 r
  cases rw'
  cases ru
  obtain ⟨its, _, ⟨o, h1, h2, _⟩, _⟩ := I.tuple sq
  exact PySem.W.kia_one PySem.W.kitx_tuple I.kIn ⟨o, h1, h2⟩ e (fun z => nomatch z) fun tk => ⟨.bl c, H, I.tok tk, rfl, q⟩
end
section
variable {H1 : Hp} {D : Addr} {g : TG} {tc : TT} {te : TE} {σc : St} {R : Hp → Prop}
theorem comp_rng {lo : Int} {n : Nat} (Pv : Nat → List V → Hp → Prop) (hD : H1 D = none) (h0 : Pv 0 [] (upd H1 D (.lst [])))
    (hs : ∀ i m ys H2, i < n → m = n - i → Same H1 H2 → H2 D = some (.lst ys) → ys.length ≤ i → Pv i ys H2 → TurnGoal g tc te σc H1 D n Pv i m (.int (lo + i)) H2)
    (hd : ∀ ys H2, Same H1 H2 → H2 D = some (.lst ys) → ys.length ≤ n → Pv n ys H2 → R H2) : CompGoal (Itr lo n) g tc te σc H1 R D := by
  refine ⟨WL H1 D n Pv, ⟨n, rfl, Nat.zero_le _, Same.new' hD, [], upd_same, Nat.le_refl _, h0⟩, ?_⟩
  rintro i m H2 ⟨hm, hi, s12, ys, hy, hl, p⟩
  by_cases hlt : i < n
  · refine .inr ⟨hlt, fun x H3 e => ?_⟩
    obtain ⟨e, ex⟩ := e
    subst e ex
    exact hs i m ys _ hlt hm s12 hy hl p
  · have e : i = n := by omega
    subst e
    exact .inl ⟨Nat.le_refl _, hd ys H2 s12 hy hl p⟩
end
end L2
set_option Elab.async false
set_option linter.all false
set_option maxRecDepth 100000
namespace L2
open PySem PySem.Spec PyProof.Rows
section
variable {X : Cx} {pins : List (Addr × Obj)} {σ : St} {H : Hp} {s : Shared} {h' : Heap}
end
def Itd (hi : Int) (n : Nat) : It := ⟨fun i _ => i < n, fun i H x H' => H' = H ∧ x = .int (hi - i), fun i _ => n ≤ i⟩
section
variable {X : Cx} {tg : Expr}
def iRng3 (ta : TA) : TI := fun σ H R => ta σ H fun vs H1 => ∃ i j : Int, vs = [.int i, .int j, .int (-1)] ∧ (-(2 ^ 62) ≤ i ∧ i < 2 ^ 62 ∧ -(2 ^ 62) ≤ j ∧ j < 2 ^ 62) ∧ R (Itd i (i - j).toNat) H1
end
def Itv (K : PySem.W.Frag) (a : Addr) (n : Nat) : It :=
  ⟨fun i H => i < n ∧ ∃ xs x, SqL K H a xs ∧ xs[n - 1 - i]? = some x, fun i H x H' => H' = H ∧ ∀ xs, SqL K H a xs → xs[n - 1 - i]? = some x, fun i _ => i = n⟩
section
variable {X : Cx} {tg : Expr}
def iRev (K : PySem.W.Frag) (ta : TA) : TI := fun σ H R => ta σ H fun vs H1 => ∃ a xs, vs = [.ref a] ∧ SqL K H1 a xs ∧ R (Itv K a xs.length) H1
end
end L2
set_option Elab.async false
set_option linter.all false
set_option maxRecDepth 100000
namespace L2
open PySem PySem.Spec PyProof.Rows
def Ite (K : PySem.W.Frag) (a : Addr) : It :=
  ⟨fun i H => ∃ xs x, SqL K H a xs ∧ xs[i]? = some x, fun i H x H' => ∃ (p : Addr) (v : V), x = .ref p ∧ H p = none ∧ H' = upd H p (.tup [.int i, v]) ∧ ∀ xs, SqL K H a xs → xs[i]? = some v, fun i H => ∃ xs, SqL K H a xs ∧ xs.length ≤ i⟩
section
variable {X : Cx} {elts : List Expr} {k : Nat} {tpos : Pos}
def iEnum (K : PySem.W.Frag) (ta : TA) : TI := fun σ H R => ta σ H fun vs H1 => ∃ a xs, vs = [.ref a] ∧ SqL K H1 a xs ∧ R (Ite K a) H1
end
def Itz (K : PySem.W.Frag) (a b : Addr) : It :=
  ⟨fun i H => ∃ xs ys x y, SqL K H a xs ∧ SqL K H b ys ∧ xs[i]? = some x ∧ ys[i]? = some y, fun i H x H' => ∃ (p : Addr) (v u : V), x = .ref p ∧ H p = none ∧ H' = upd H p (.tup [v, u]) ∧ (∀ xs, SqL K H a xs → xs[i]? = some v) ∧ ∀ ys, SqL K H b ys → ys[i]? = some u,
    fun i H => ∃ xs ys, SqL K H a xs ∧ SqL K H b ys ∧ (xs.length ≤ i ∨ ys.length ≤ i)⟩
structure ZA (z TI TO i1 i2 : Addr) : Prop where
  a1 : TI ≠ z
  a2 : TO ≠ z
  a3 : i1 ≠ z
  a4 : i2 ≠ z
  a5 : TI ≠ TO
  a6 : TI ≠ i1
  a7 : TI ≠ i2
  a8 : TO ≠ i1
  a9 : TO ≠ i2
  a10 : i1 ≠ i2
theorem ne_cls {h : Heap} {a b : Addr} {o u : Obj} {x y : String} (ha : h.get? a = some o) (hb : h.get? b = some u) (ca : o.cls = .type x) (cb : u.cls = .type y) (hxy : x ≠ y) : a ≠ b := fun e => by
  subst e
  rw [ha] at hb
  cases hb
  rw [ca] at cb
  injection cb with e
  exact hxy e
theorem ZA.apart {h : Heap} {z TI TO i1 i2 l1 l2 a b : Addr} {u v f0 : Value} {j j' : Nat} {xs ys : Array Value} (D : ZA z TI TO i1 i2) (hz : IsZip h z TI TO f0) (hTO : IsPair h TO u v) (h1 : h.IsListIter i1 a j) (h2 : h.IsListIter i2 b j') (hl1 : h.IsList l1 xs) (hl2 : h.IsList l2 ys) : ZipApart z TI TO i1 i2 l1 l2 := by
  obtain ⟨o1, g1, c1, _⟩ := h1
  obtain ⟨o2, g2, c2, _⟩ := h2
  obtain ⟨p1, k1, d1, _⟩ := hl1
  obtain ⟨p2, k2, d2, _⟩ := hl2
  exact ⟨D.a1, D.a2, D.a3, D.a4, D.a5, D.a6, D.a7, D.a8, D.a9, D.a10, ne_cls k1 hz d1 rfl (by decide), ne_cls k1 hTO d1 rfl (by decide), ne_cls k1 g1 d1 c1 (by decide), ne_cls k1 g2 d1 c2 (by decide), ne_cls k2 hz d2 rfl (by decide), ne_cls k2 hTO d2 rfl (by decide), ne_cls k2 g1 d2 c1 (by decide), ne_cls k2 g2 d2 c2 (by decide)⟩
section
variable {X : Cx} {elts : List Expr} {k : Nat} {tpos : Pos}
def iZip (K : PySem.W.Frag) (ta : TA) : TI := fun σ H R => ta σ H fun vs H1 => ∃ a b xs ys, vs = [.ref a, .ref b] ∧ SqL K H1 a xs ∧ SqL K H1 b ys ∧ R (Itz K a b) H1
end
section
variable {K : PySem.W.Frag} {H1 : Hp} {D : Addr} {g : TG} {tc : TT} {te : TE} {σc : St} {R : Hp → Prop}
end
section
variable {X : Cx}
def tGT (K : PySem.W.Frag) (xs : List V) : TE := fun _ H Q => ∀ a : Addr, SqT K H a xs → Q (.ref a) H
end
end L2
set_option maxHeartbeats 4000000
set_option exponentiation.threshold 2000
namespace Bo
open PySem L2
local macro_rules | `(tactic| walk_at "pos") => `(tactic| (show (0 : Int) < _; first | assumption | omega | decide))
local macro_rules | `(tactic| walk_at "cmul") => `(tactic| first | exact .inl (.inl ⟨by decide, by decide⟩) | exact .inl (.inr ⟨by decide, by decide⟩))
local macro_rules | `(tactic| walk_at "go1") => `(tactic| first
  | refine ⟨_, rfl, ?_⟩
  | refine .inl ⟨_, _, rfl, rfl, (by walk_at "cmul"), ?_⟩
  | refine .inl ⟨_, _, rfl, rfl, ?_⟩
  | refine ⟨_, _, rfl, rfl, (by walk_at "pos"), ?_⟩
  | refine .inl ⟨rfl, ?_⟩
  | refine ⟨_, _, rfl, rfl, ?_⟩)
local macro_rules | `(tactic| walk_at "go") => `(tactic| repeat walk_at "go1")
def top (i : Nat) : Stmt := PySem.Challenge.pw_bores_k11_whole_sheets_add_up.main.body.getD i (.Pass ⟨0, 0, 0, 0⟩)
abbrev s_layers_of : Stmt := top 1
abbrev s_whole : Stmt := top 2
abbrev s_ratio : Stmt := top 4
abbrev s_greatest_divisor : Stmt := top 5
abbrev s_plus : Stmt := top 6
abbrev s_minus : Stmt := top 7
abbrev s_sheets : Stmt := top 9
abbrev s_wedges : Stmt := top 10
abbrev s_thick_at : Stmt := top 11
abbrev s_thick_of : Stmt := top 12
abbrev s_between : Stmt := top 13
abbrev s_whole_at : Stmt := top 14
abbrev s_ground_at : Stmt := top 15
abbrev s_lines_at : Stmt := top 16
abbrev s__law_draw : Stmt := top 18
abbrev s__law_feed : Stmt := top 19
abbrev s__law_next : Stmt := top 20
abbrev s__law_great : Stmt := top 21
abbrev s__law_long : Stmt := top 22
abbrev s__law_name : Stmt := top 23
abbrev s__law_names : Stmt := top 24
abbrev s__law_blocks : Stmt := top 25
abbrev s__law_bores : Stmt := top 26
abbrev s__law_layers : Stmt := top 27
abbrev s__law_two : Stmt := top 28
abbrev s__law_divisor : Stmt := top 29
abbrev s__law_is : Stmt := top 30
abbrev s__law_in : Stmt := top 31
abbrev s__law_adds : Stmt := top 32
abbrev s_law : Stmt := top 33
set_option genInjectivity false in
set_option genSizeOf false in
structure Adr where
  a_layers_of : Addr
  d_layers_of : FuncData
  a_whole : Addr
  d_whole : FuncData
  a_ratio : Addr
  d_ratio : FuncData
  a_greatest_divisor : Addr
  d_greatest_divisor : FuncData
  a_plus : Addr
  d_plus : FuncData
  a_minus : Addr
  d_minus : FuncData
  a_sheets : Addr
  d_sheets : FuncData
  a_wedges : Addr
  d_wedges : FuncData
  a_thick_at : Addr
  d_thick_at : FuncData
  a_thick_of : Addr
  d_thick_of : FuncData
  a_between : Addr
  d_between : FuncData
  a_whole_at : Addr
  d_whole_at : FuncData
  a_ground_at : Addr
  d_ground_at : FuncData
  a_lines_at : Addr
  d_lines_at : FuncData
  a__law_draw : Addr
  d__law_draw : FuncData
  a__law_feed : Addr
  d__law_feed : FuncData
  a__law_next : Addr
  d__law_next : FuncData
  a__law_great : Addr
  d__law_great : FuncData
  a__law_long : Addr
  d__law_long : FuncData
  a__law_name : Addr
  d__law_name : FuncData
  a__law_names : Addr
  d__law_names : FuncData
  a__law_blocks : Addr
  d__law_blocks : FuncData
  a__law_bores : Addr
  d__law_bores : FuncData
  a__law_layers : Addr
  d__law_layers : FuncData
  a__law_two : Addr
  d__law_two : FuncData
  a__law_divisor : Addr
  d__law_divisor : FuncData
  a__law_is : Addr
  d__law_is : FuncData
  a__law_in : Addr
  d__law_in : FuncData
  a__law_adds : Addr
  d__law_adds : FuncData
  a_law : Addr
  d_law : FuncData
structure Txt (K : PySem.W.Frag) (mg : Str → Option Value) (t : Adr) : Prop where
  F_layers_of : Fun K "layers_of" "layers_of" s_layers_of t.a_layers_of t.d_layers_of
  B_layers_of : Binds K t.d_layers_of ["bore"] []
  G_layers_of : mg "layers_of" = some (.ref t.a_layers_of)
  F_whole : Fun K "whole" "whole" s_whole t.a_whole t.d_whole
  B_whole : Binds K t.d_whole ["bore"] []
  G_whole : mg "whole" = some (.ref t.a_whole)
  F_ratio : Fun K "ratio" "ratio" s_ratio t.a_ratio t.d_ratio
  B_ratio : Binds K t.d_ratio ["top", "bottom"] []
  G_ratio : mg "ratio" = some (.ref t.a_ratio)
  F_greatest_divisor : Fun K "greatest_divisor" "greatest_divisor" s_greatest_divisor t.a_greatest_divisor t.d_greatest_divisor
  B_greatest_divisor : Binds K t.d_greatest_divisor ["one", "other"] []
  G_greatest_divisor : mg "greatest_divisor" = some (.ref t.a_greatest_divisor)
  F_plus : Fun K "plus" "plus" s_plus t.a_plus t.d_plus
  B_plus : Binds K t.d_plus ["one", "other"] []
  G_plus : mg "plus" = some (.ref t.a_plus)
  F_minus : Fun K "minus" "minus" s_minus t.a_minus t.d_minus
  B_minus : Binds K t.d_minus ["one", "other"] []
  G_minus : mg "minus" = some (.ref t.a_minus)
  F_sheets : Fun K "sheets" "sheets" s_sheets t.a_sheets t.d_sheets
  B_sheets : Binds K t.d_sheets ["left", "right", "pairs"] []
  G_sheets : mg "sheets" = some (.ref t.a_sheets)
  F_wedges : Fun K "wedges" "wedges" s_wedges t.a_wedges t.d_wedges
  B_wedges : Binds K t.d_wedges ["begin", "end"] []
  G_wedges : mg "wedges" = some (.ref t.a_wedges)
  F_thick_at : Fun K "thick_at" "thick_at" s_thick_at t.a_thick_at t.d_thick_at
  B_thick_at : Binds K t.d_thick_at ["left", "right", "pairs", "place"] []
  G_thick_at : mg "thick_at" = some (.ref t.a_thick_at)
  F_thick_of : Fun K "thick_of" "thick_of" s_thick_of t.a_thick_of t.d_thick_of
  B_thick_of : Binds K t.d_thick_of ["layers", "number"] []
  G_thick_of : mg "thick_of" = some (.ref t.a_thick_of)
  F_between : Fun K "between" "between" s_between t.a_between t.d_between
  B_between : Binds K t.d_between ["left", "right", "value", "other", "place"] []
  G_between : mg "between" = some (.ref t.a_between)
  F_whole_at : Fun K "whole_at" "whole_at" s_whole_at t.a_whole_at t.d_whole_at
  B_whole_at : Binds K t.d_whole_at ["left", "right", "place"] []
  G_whole_at : mg "whole_at" = some (.ref t.a_whole_at)
  F_ground_at : Fun K "ground_at" "ground_at" s_ground_at t.a_ground_at t.d_ground_at
  B_ground_at : Binds K t.d_ground_at ["left", "right", "place"] []
  G_ground_at : mg "ground_at" = some (.ref t.a_ground_at)
  F_lines_at : Fun K "lines_at" "lines_at" s_lines_at t.a_lines_at t.d_lines_at
  B_lines_at : Binds K t.d_lines_at ["left", "right", "pairs", "place"] []
  G_lines_at : mg "lines_at" = some (.ref t.a_lines_at)
  F__law_draw : Fun K "_law_draw" "_law_draw" s__law_draw t.a__law_draw t.d__law_draw
  B__law_draw : Binds K t.d__law_draw ["_law_script", "_law_k", "_law_many"] []
  G__law_draw : mg "_law_draw" = some (.ref t.a__law_draw)
  F__law_feed : Fun K "_law_feed" "_law_feed" s__law_feed t.a__law_feed t.d__law_feed
  B__law_feed : Binds K t.d__law_feed ["_law_script", "_law_k"] []
  G__law_feed : mg "_law_feed" = some (.ref t.a__law_feed)
  F__law_next : Fun K "_law_next" "_law_next" s__law_next t.a__law_next t.d__law_next
  B__law_next : Binds K t.d__law_next ["_law_feed_here", "_law_many"] []
  G__law_next : mg "_law_next" = some (.ref t.a__law_next)
  F__law_great : Fun K "_law_great" "_law_great" s__law_great t.a__law_great t.d__law_great
  B__law_great : Binds K t.d__law_great ["_law_feed_here"] []
  G__law_great : mg "_law_great" = some (.ref t.a__law_great)
  F__law_long : Fun K "_law_long" "_law_long" s__law_long t.a__law_long t.d__law_long
  B__law_long : Binds K t.d__law_long ["_law_feed_here"] []
  G__law_long : mg "_law_long" = some (.ref t.a__law_long)
  F__law_name : Fun K "_law_name" "_law_name" s__law_name t.a__law_name t.d__law_name
  B__law_name : Binds K t.d__law_name ["_law_feed_here", "_law_names_here"] []
  G__law_name : mg "_law_name" = some (.ref t.a__law_name)
  F__law_names : Fun K "_law_names" "_law_names" s__law_names t.a__law_names t.d__law_names
  B__law_names : Binds K t.d__law_names ["_law_feed_here", "_law_many"] []
  G__law_names : mg "_law_names" = some (.ref t.a__law_names)
  F__law_blocks : Fun K "_law_blocks" "_law_blocks" s__law_blocks t.a__law_blocks t.d__law_blocks
  B__law_blocks : Binds K t.d__law_blocks ["_law_feed_here", "_law_marks"] []
  G__law_blocks : mg "_law_blocks" = some (.ref t.a__law_blocks)
  F__law_bores : Fun K "_law_bores" "_law_bores" s__law_bores t.a__law_bores t.d__law_bores
  B__law_bores : Binds K t.d__law_bores ["_law_script", "_law_names_here", "_law_marks"] []
  G__law_bores : mg "_law_bores" = some (.ref t.a__law_bores)
  F__law_layers : Fun K "_law_layers" "_law_layers" s__law_layers t.a__law_layers t.d__law_layers
  B__law_layers : Binds K t.d__law_layers ["_law_bore"] []
  G__law_layers : mg "_law_layers" = some (.ref t.a__law_layers)
  F__law_two : Fun K "_law_two" "_law_two" s__law_two t.a__law_two t.d__law_two
  B__law_two : Binds K t.d__law_two ["_law_script"] []
  G__law_two : mg "_law_two" = some (.ref t.a__law_two)
  F__law_divisor : Fun K "_law_divisor" "_law_divisor" s__law_divisor t.a__law_divisor t.d__law_divisor
  B__law_divisor : Binds K t.d__law_divisor ["_law_one", "_law_other"] []
  G__law_divisor : mg "_law_divisor" = some (.ref t.a__law_divisor)
  F__law_is : Fun K "_law_is" "_law_is" s__law_is t.a__law_is t.d__law_is
  B__law_is : Binds K t.d__law_is ["_law_found", "_law_top", "_law_bottom"] []
  G__law_is : mg "_law_is" = some (.ref t.a__law_is)
  F__law_in : Fun K "_law_in" "_law_in" s__law_in t.a__law_in t.d__law_in
  B__law_in : Binds K t.d__law_in ["_law_some", "_law_wide"] []
  G__law_in : mg "_law_in" = some (.ref t.a__law_in)
  F__law_adds : Fun K "_law_adds" "_law_adds" s__law_adds t.a__law_adds t.d__law_adds
  B__law_adds : Binds K t.d__law_adds ["_law_left", "_law_right", "_law_pairs", "_law_place"] []
  G__law_adds : mg "_law_adds" = some (.ref t.a__law_adds)
  F_law : Fun K "law" "law" s_law t.a_law t.d_law
  B_law : Binds K t.d_law ["_law_script"] []
  G_law : mg "law" = some (.ref t.a_law)
  N_sum : mg "sum" = none
  N_range : mg "range" = none
  N_tuple : mg "tuple" = none
  N_abs : mg "abs" = none
  N_len : mg "len" = none
  N_int : mg "int" = none
  N_list : mg "list" = none
  N_isinstance : mg "isinstance" = none
  N_bool : mg "bool" = none
  N_min : mg "min" = none
theorem sc_layers_of : FnScope ["bore", "layers", "block"] ["bore"] (defScope s_layers_of) := ⟨rfl, rfl, rfl, by decide +kernel, rfl, by decide +kernel, by decide +kernel⟩
theorem sc_whole : FnScope ["bore"] ["bore"] (defScope s_whole) := ⟨rfl, rfl, rfl, by decide +kernel, rfl, by decide +kernel, by decide +kernel⟩
theorem sc_ratio : FnScope ["top", "bottom", "divisor"] ["top", "bottom"] (defScope s_ratio) := ⟨rfl, rfl, rfl, by decide +kernel, rfl, by decide +kernel, by decide +kernel⟩
theorem sc_greatest_divisor : FnScope ["one", "other", "rest"] ["one", "other"] (defScope s_greatest_divisor) := ⟨rfl, rfl, rfl, by decide +kernel, rfl, by decide +kernel, by decide +kernel⟩
theorem sc_plus : FnScope ["one", "other"] ["one", "other"] (defScope s_plus) := ⟨rfl, rfl, rfl, by decide +kernel, rfl, by decide +kernel, by decide +kernel⟩
theorem sc_minus : FnScope ["one", "other"] ["one", "other"] (defScope s_minus) := ⟨rfl, rfl, rfl, by decide +kernel, rfl, by decide +kernel, by decide +kernel⟩
theorem sc_sheets : FnScope ["left", "right", "pairs", "drawn", "begin", "one", "other"] ["left", "right", "pairs"] (defScope s_sheets) := ⟨rfl, rfl, rfl, by decide +kernel, rfl, by decide +kernel, by decide +kernel⟩
theorem sc_wedges : FnScope ["begin", "end", "ones", "others"] ["begin", "end"] (defScope s_wedges) := ⟨rfl, rfl, rfl, by decide +kernel, rfl, by decide +kernel, by decide +kernel⟩
theorem sc_thick_at : FnScope ["left", "right", "pairs", "place", "ones", "others"] ["left", "right", "pairs", "place"] (defScope s_thick_at) := ⟨rfl, rfl, rfl, by decide +kernel, rfl, by decide +kernel, by decide +kernel⟩
theorem sc_thick_of : FnScope ["layers", "number"] ["layers", "number"] (defScope s_thick_of) := ⟨rfl, rfl, rfl, by decide +kernel, rfl, by decide +kernel, by decide +kernel⟩
theorem sc_between : FnScope ["left", "right", "value", "other", "place", "near_left", "near_right"] ["left", "right", "value", "other", "place"] (defScope s_between) := ⟨rfl, rfl, rfl, by decide +kernel, rfl, by decide +kernel, by decide +kernel⟩
theorem sc_whole_at : FnScope ["left", "right", "place"] ["left", "right", "place"] (defScope s_whole_at) := ⟨rfl, rfl, rfl, by decide +kernel, rfl, by decide +kernel, by decide +kernel⟩
theorem sc_ground_at : FnScope ["left", "right", "place"] ["left", "right", "place"] (defScope s_ground_at) := ⟨rfl, rfl, rfl, by decide +kernel, rfl, by decide +kernel, by decide +kernel⟩
theorem sc_lines_at : FnScope ["left", "right", "pairs", "place", "lines", "thick"] ["left", "right", "pairs", "place"] (defScope s_lines_at) := ⟨rfl, rfl, rfl, by decide +kernel, rfl, by decide +kernel, by decide +kernel⟩
theorem sc__law_draw : FnScope ["_law_script", "_law_k", "_law_many", "_law_cell", "_law_seed"] ["_law_script", "_law_k", "_law_many"] (defScope s__law_draw) := ⟨rfl, rfl, rfl, by decide +kernel, rfl, by decide +kernel, by decide +kernel⟩
theorem sc__law_feed : FnScope ["_law_script", "_law_k", "_law_cell"] ["_law_script", "_law_k"] (defScope s__law_feed) := ⟨rfl, rfl, rfl, by decide +kernel, rfl, by decide +kernel, by decide +kernel⟩
theorem sc__law_next : FnScope ["_law_feed_here", "_law_many", "_law_digit"] ["_law_feed_here", "_law_many"] (defScope s__law_next) := ⟨rfl, rfl, rfl, by decide +kernel, rfl, by decide +kernel, by decide +kernel⟩
theorem sc__law_great : FnScope ["_law_feed_here"] ["_law_feed_here"] (defScope s__law_great) := ⟨rfl, rfl, rfl, by decide +kernel, rfl, by decide +kernel, by decide +kernel⟩
theorem sc__law_long : FnScope ["_law_feed_here"] ["_law_feed_here"] (defScope s__law_long) := ⟨rfl, rfl, rfl, by decide +kernel, rfl, by decide +kernel, by decide +kernel⟩
theorem sc__law_name : FnScope ["_law_feed_here", "_law_names_here", "_law_letters", "_law_word", "_law_k", "_law_letter"] ["_law_feed_here", "_law_names_here"] (defScope s__law_name) := ⟨rfl, rfl, rfl, by decide +kernel, rfl, by decide +kernel, by decide +kernel⟩
theorem sc__law_names : FnScope ["_law_feed_here", "_law_many", "_law_names_here", "_law_k"] ["_law_feed_here", "_law_many"] (defScope s__law_names) := ⟨rfl, rfl, rfl, by decide +kernel, rfl, by decide +kernel, by decide +kernel⟩
theorem sc__law_blocks : FnScope ["_law_feed_here", "_law_marks", "_law_blocks_here", "_law_k"] ["_law_feed_here", "_law_marks"] (defScope s__law_blocks) := ⟨rfl, rfl, rfl, by decide +kernel, rfl, by decide +kernel, by decide +kernel⟩
theorem sc__law_bores : FnScope ["_law_script", "_law_names_here", "_law_marks", "_law_holes", "_law_spot", "_law_k", "_law_feed_here", "_law_bore"] ["_law_script", "_law_names_here", "_law_marks"] (defScope s__law_bores) := ⟨rfl, rfl, rfl, by decide +kernel, rfl, by decide +kernel, by decide +kernel⟩
theorem sc__law_layers : FnScope ["_law_bore", "_law_layers_here", "_law_block"] ["_law_bore"] (defScope s__law_layers) := ⟨rfl, rfl, rfl, by decide +kernel, rfl, by decide +kernel, by decide +kernel⟩
theorem sc__law_two : FnScope ["_law_script", "_law_feed_here", "_law_marks", "_law_holes", "_law_left", "_law_right", "_law_pairs", "_law_one", "_law_other", "_law_k", "_law_there", "_law_wide", "_law_far"] ["_law_script"] (defScope s__law_two) := ⟨rfl, rfl, rfl, by decide +kernel, rfl, by decide +kernel, by decide +kernel⟩
theorem sc__law_divisor : FnScope ["_law_one", "_law_other"] ["_law_one", "_law_other"] (defScope s__law_divisor) := ⟨rfl, rfl, rfl, by decide +kernel, rfl, by decide +kernel, by decide +kernel⟩
theorem sc__law_is : FnScope ["_law_found", "_law_top", "_law_bottom", "_law_one"] ["_law_found", "_law_top", "_law_bottom"] (defScope s__law_is) := ⟨rfl, rfl, rfl, by decide +kernel, rfl, by decide +kernel, by decide +kernel⟩
theorem sc__law_in : FnScope ["_law_some", "_law_wide", "_law_told", "_law_one"] ["_law_some", "_law_wide"] (defScope s__law_in) := ⟨rfl, rfl, rfl, by decide +kernel, rfl, by decide +kernel, by decide +kernel⟩
theorem sc__law_adds : FnScope ["_law_left", "_law_right", "_law_pairs", "_law_place", "_law_wide", "_law_thick", "_law_lines", "_law_ends", "_law_wholes"] ["_law_left", "_law_right", "_law_pairs", "_law_place"] (defScope s__law_adds) := ⟨rfl, rfl, rfl, by decide +kernel, rfl, by decide +kernel, by decide +kernel⟩
theorem sc_law : FnScope ["_law_script", "_law_left", "_law_right", "_law_pairs", "_law_place", "_law_spot", "_law_some"] ["_law_script"] (defScope s_law) := ⟨rfl, rfl, rfl, by decide +kernel, rfl, by decide +kernel, by decide +kernel⟩
def Scr (K : PySem.W.Frag) (H : Hp) (a : Addr) (ns : List Int) : Prop := ns.length ≤ 63 ∧ ((∃ o, H a = some (.frz o (.lst (ns.map V.int)))) ∨
  ∃ (o : Obj) (its : Array Value) (n : Nat), K.lookup a = some o ∧ o.cls = .type "list" ∧ o.dict = none ∧ o.data = .seq its n ∧ its.size ≤ sizeLine ∧ Vals (ns.map V.int) its.toList)
theorem Scr.sq {K : PySem.W.Frag} {H : Hp} {a : Addr} {ns : List Int} (h : Scr K H a ns) : SqL K H a (ns.map V.int) := by
  rcases h.2 with ⟨o, h⟩ | h
  · exact .inl (.inr ⟨o, h⟩)
  · exact .inr h
def But (f : Addr) (H H' : Hp) : Prop := ∀ b o, H b = some o → b ≠ f → H' b = some o
theorem But.refl (f : Addr) (H : Hp) : But f H H := fun _ _ e _ => e
theorem But.trans {f : Addr} {H H1 H2 : Hp} (a : But f H H1) (b : But f H1 H2) : But f H H2 := fun c o e n => b c o (a c o e n) n
theorem But.of_same {f : Addr} {H H' : Hp} (a : Same H H') : But f H H' := fun c o e _ => a c o e
theorem But.upd {f : Addr} {H : Hp} {o : HO} : But f H (upd H f o) := fun b o' e n => by rw [upd_ne n]; exact e
theorem Same.new {H : Hp} {p : Addr} {o : HO} (h : H p = none) : Same H (upd H p o) := fun b o' e => by rw [upd_ne (ne_of_none e h)]; exact e
theorem But.keepT {K : PySem.W.Frag} {f : Addr} {H H' : Hp} {xs : List V} (a : But f H H') (hf : H f = some (.lst xs)) : KeepT K H H' := fun c ys h => by
  rcases h with (h | ⟨o, h⟩) | h
  · exact .inl (.inl (a c _ h (ne_of h hf (by intro z; cases z))))
  · exact .inl (.inr ⟨o, a c _ h (ne_of h hf (by intro z; cases z))⟩)
  · exact .inr h
theorem Scr.but {K : PySem.W.Frag} {f a : Addr} {H H' : Hp} {xs : List V} {ns : List Int} (h : Scr K H a ns) (b : But f H H') (hf : H f = some (.lst xs)) : Scr K H' a ns := by
  refine ⟨h.1, ?_⟩
  rcases h.2 with ⟨o, h⟩ | h
  · exact .inl ⟨o, b a _ h (ne_of h hf (by intro z; cases z))⟩
  · exact .inr h
theorem Scr.same {K : PySem.W.Frag} {a : Addr} {H H' : Hp} {ns : List Int} (h : Scr K H a ns) (b : Same H H') : Scr K H' a ns := by
  refine ⟨h.1, ?_⟩
  rcases h.2 with ⟨o, h⟩ | h
  · exact .inl ⟨o, b a _ h⟩
  · exact .inr h
def Fed (K : PySem.W.Frag) (H : Hp) (f a : Addr) (ns : List Int) : Prop := (∃ c k : Int, H f = some (.lst [.int c, .int k, .ref a])) ∧ Scr K H a ns
theorem Fed.lst {K : PySem.W.Frag} {H : Hp} {f a : Addr} {ns : List Int} (h : Fed K H f a ns) : ∃ xs, H f = some (.lst xs) := by
  obtain ⟨⟨c, k, e⟩, _⟩ := h
  exact ⟨_, e⟩
theorem Fed.keepT {K : PySem.W.Frag} {H H' : Hp} {f a : Addr} {ns : List Int} (h : Fed K H f a ns) (b : But f H H') : KeepT K H H' := by
  obtain ⟨xs, e⟩ := h.lst
  exact b.keepT e
theorem Fed.same {K : PySem.W.Frag} {H H' : Hp} {f a : Addr} {ns : List Int} (h : Fed K H f a ns) (b : Same H H') : Fed K H' f a ns := by
  obtain ⟨⟨c, k, e⟩, hs⟩ := h
  exact ⟨⟨c, k, b _ _ e⟩, hs.same b⟩
theorem ints_atI {ns : List Int} {r : Int} (h0 : 0 ≤ r) (h1 : r < ns.length) : ∃ z, atI (ns.map V.int) r = some (.int z) := by
  obtain ⟨j, rfl⟩ : ∃ j : Nat, r = j := ⟨r.toNat, by omega⟩
  have hj : j < ns.length := by omega
  exact ⟨ns[j], atI_nat (by rw [List.getElem?_map, List.getElem?_eq_getElem hj]; rfl)⟩
theorem atI_mem {α : Type} {xs : List α} {r : Int} (h0 : 0 ≤ r) (h1 : r < xs.length) : ∃ v, v ∈ xs ∧ atI xs r = some v := by
  obtain ⟨j, rfl⟩ : ∃ j : Nat, r = j := ⟨r.toNat, by omega⟩
  have hj : j < xs.length := by omega
  exact ⟨xs[j], List.getElem_mem hj, atI_nat (List.getElem?_eq_getElem hj)⟩
def spDraw (K : PySem.W.Frag) : Sp := fun vs H Q _ => ∃ (a : Addr) (ns : List Int) (k m : Int), vs = [.ref a, .int k, .int m] ∧ Scr K H a ns ∧ 0 < m ∧ ∀ r : Int, 0 ≤ r → r < m → Q (.int r) H
def spFeed (K : PySem.W.Frag) : Sp := fun vs H Q _ => ∃ (a : Addr) (ns : List Int) (k : Int), vs = [.ref a, .int k] ∧ Scr K H a ns ∧ 0 ≤ k ∧ k < 1000 ∧ ∀ (f : Addr) (H' : Hp), H f = none → Same H H' → Fed K H' f a ns → Q (.ref f) H'
def spNext (K : PySem.W.Frag) : Sp := fun vs H Q _ => ∃ (f a : Addr) (ns : List Int) (m : Int), vs = [.ref f, .int m] ∧ Fed K H f a ns ∧ 0 < m ∧ m < 2 ^ 1000 ∧ ∀ (r : Int) (H' : Hp), 0 ≤ r → r < m → But f H H' → Fed K H' f a ns → Q (.int r) H'
def spGreat (K : PySem.W.Frag) : Sp := fun vs H Q _ => ∃ (f a : Addr) (ns : List Int), vs = [.ref f] ∧ Fed K H f a ns ∧ ∀ (r : Int) (H' : Hp), 0 ≤ r → r < 10 ^ 59 → But f H H' → Fed K H' f a ns → Q (.int r) H'
def spLong (K : PySem.W.Frag) : Sp := fun vs H Q _ => ∃ (f a : Addr) (ns : List Int), vs = [.ref f] ∧ Fed K H f a ns ∧ ∀ (r : Int) (H' : Hp), 1 ≤ r → r ≤ 10 ^ 59 → But f H H' → Fed K H' f a ns → Q (.int r) H'
section
variable {P : Program} {w : World} {K : PySem.W.Frag} {mg : Str → Option Value} {base : Heap} {t : Adr}
theorem ok__law_draw (T : Txt K mg t) : FnOk P w K mg base CX0 1 t.a__law_draw t.d__law_draw ["_law_script", "_law_k", "_law_many"] (spDraw K) := by
  refine T.F__law_draw.ok sc__law_draw (fun vs H Q E h => ?_) (fun cdv A outer s H vs Q E hr h => ?_)
  · obtain ⟨a, ns, k, m, rfl, _⟩ := h; rfl
  · obtain ⟨a, ns, k, m, rfl, hs, hm, q⟩ := h
    let X_ : Cx := (cxOf CX0 P w K mg base ["_law_script", "_law_k", "_law_many", "_law_cell", "_law_seed"] "_law_draw" (defScope s__law_draw) t.a__law_draw cdv A outer s H E).nox
    let u1_ : PSV (X_) (List.drop 3 (defBody s__law_draw)) := ⟨_, (pss_one (ps_ret (pe_op op_mod (pe_op op_mod (pe_op (op_mulU K) (pe_op op_mod (pe_op (op_addU K) (pe_op (op_mulU K) (pv 4) pe_int) (pv 1)) pe_int) pe_int) pe_int) (pv 2))))⟩
    let w1_ : TS := u1_.1
    have e1_ : PSs (X_) (List.drop 3 (defBody s__law_draw)) w1_ := u1_.2
    let u2_ : PSV (X_) (List.drop 2 (defBody s__law_draw)) := ⟨_, (pss_cons (ps_set (i := 4) sc__law_draw.nd rfl (Or.inl rfl) (pe_op op_mod (pe_op (op_mulU K) (pe_op (op_addU K) (pe_op (op_addU K) (pe_op op_mod (pv 3) pe_int) (pe_op (op_mulU K) pe_int (pv 1))) pe_int) pe_int) pe_int))
      e1_)⟩
    let w2_ : TS := u2_.1
    have e2_ : PSs (X_) (List.drop 2 (defBody s__law_draw)) w2_ := u2_.2
    let u3_ : PSV (X_) (List.drop 1 (defBody s__law_draw)) := ⟨_, (pss_cons (ps_mid (ps_if (pt_cmpR op_gtG (pe_callB (call_lenK K) rfl T.N_len bt_len (pa_cons (pv 0) pa_nil)) pe_int (nomark _)) (pss_one (ps_set (i := 3) sc__law_draw.nd rfl (Or.inl rfl) (pe_ix (ix_K K) (pv 0) (pe_op op_mod (pv 1) (pe_callB (call_lenK K) rfl T.N_len bt_len (pa_cons (pv 0) pa_nil))) (fun _ _ => rfl)))) pss_nil))
      e2_)⟩
    let w3_ : TS := u3_.1
    have e3_ : PSs (X_) (List.drop 1 (defBody s__law_draw)) w3_ := u3_.2
    refine ⟨_, (pss_cons (ps_set (i := 3) sc__law_draw.nd rfl (Or.inl rfl) pe_int)
      e3_), ?_⟩
    let M1_ : St → Hp → Prop := fun σ H' => ∃ c : Int, σ = [some (.ref a), some (.int k), some (.int m), some (.int c), none] ∧ H' = H
    refine ⟨M1_, ?_, ?_⟩
    · refine ⟨_, rfl, _, _, rfl, .inl ⟨_, hs.sq, rfl⟩, _, _, rfl, rfl, _, rfl, ite2 (fun hc => ?_) (fun _ => ?_)⟩
      · have hl : (0 : Int) < ((ns.map V.int).length : Nat) := of_decide_eq_true hc
        refine ⟨_, rfl, _, rfl, _, rfl, _, _, rfl, .inl ⟨_, hs.sq, rfl⟩, _, _, rfl, rfl, hl, ?_⟩
        obtain ⟨z, hz⟩ := ints_atI (ns := ns) (r := k % ((ns.map V.int).length : Nat)) (Int.emod_nonneg _ (by omega)) (by rw [List.length_map] at hl ⊢; exact Int.emod_lt_of_pos _ hl)
        exact .inl ⟨a, _, _, _, rfl, rfl, hs.sq, hz, z, rfl, rfl⟩
      · exact ⟨0, rfl, rfl⟩
    · rintro σ H' ⟨c, rfl, rfl⟩
      walk_at "go"
      exact q _ (Int.emod_nonneg _ (by omega)) (Int.emod_lt_of_pos _ hm)
theorem ok__law_feed (T : Txt K mg t) : FnOk P w K mg base CX0 1 t.a__law_feed t.d__law_feed ["_law_script", "_law_k"] (spFeed K) := by
  refine T.F__law_feed.ok sc__law_feed (fun vs H Q E h => ?_) (fun cdv A outer s H vs Q E hr h => ?_)
  · obtain ⟨a, ns, k, rfl, _⟩ := h; rfl
  · obtain ⟨a, ns, k, rfl, hs, hk, hk2, q⟩ := h
    let X_ : Cx := (cxOf CX0 P w K mg base ["_law_script", "_law_k", "_law_cell"] "_law_feed" (defScope s__law_feed) t.a__law_feed cdv A outer s H E).nox
    let u1_ : PSV (X_) (List.drop 2 (defBody s__law_feed)) := ⟨_, (pss_one (ps_ret (pe_lst (pa_cons (pv 2) (pa_cons (pe_op (op_mulU K) pe_int (pv 1)) (pa_cons (pv 0) pa_nil))))))⟩
    let w1_ : TS := u1_.1
    have e1_ : PSs (X_) (List.drop 2 (defBody s__law_feed)) w1_ := u1_.2
    let u2_ : PSV (X_) (List.drop 1 (defBody s__law_feed)) := ⟨_, (pss_cons (ps_mid (ps_if (pt_cmpR op_ltG (pv 1) (pe_callB (call_lenK K) rfl T.N_len bt_len (pa_cons (pv 0) pa_nil)) (nomark _)) (pss_one (ps_set (i := 2) sc__law_feed.nd rfl (Or.inl rfl) (pe_ix (ix_K K) (pv 0) (pv 1) (fun _ _ => rfl)))) pss_nil))
      e1_)⟩
    let w2_ : TS := u2_.1
    have e2_ : PSs (X_) (List.drop 1 (defBody s__law_feed)) w2_ := u2_.2
    refine ⟨_, (pss_cons (ps_set (i := 2) sc__law_feed.nd rfl (Or.inl rfl) pe_int)
      e2_), ?_⟩
    let M2_ : St → Hp → Prop := fun σ H' => ∃ c : Int, σ = [some (.ref a), some (.int k), some (.int c)] ∧ H' = H
    refine ⟨M2_, ?_, ?_⟩
    · refine ⟨_, rfl, _, rfl, _, _, rfl, .inl ⟨_, hs.sq, rfl⟩, _, _, rfl, rfl, _, rfl, ite2 (fun hc => ?_) (fun _ => ?_)⟩
      · have hl : k < ((ns.map V.int).length : Nat) := of_decide_eq_true hc
        rw [List.length_map] at hl
        obtain ⟨z, hz⟩ := ints_atI (ns := ns) hk hl
        exact ⟨_, rfl, _, rfl, .inl ⟨a, _, _, _, rfl, rfl, hs.sq, hz, z, rfl, rfl⟩⟩
      · exact ⟨0, rfl, rfl⟩
    · rintro σ H' ⟨c, rfl, rfl⟩
      walk_at "go"
      refine ⟨by show 3 ≤ sizeLine; decide, fun f hf => ?_⟩
      exact q f _ hf (Same.new hf) ⟨⟨_, _, upd_same⟩, hs.same (Same.new hf)⟩
theorem ok__law_next (T : Txt K mg t) : FnOk P w K mg base CX0 2 t.a__law_next t.d__law_next ["_law_feed_here", "_law_many"] (spNext K) := by
  refine T.F__law_next.ok sc__law_next (fun vs H Q E h => ?_) (fun cdv A outer s H vs Q E hr h => ?_)
  · obtain ⟨f, a, ns, m, rfl, _⟩ := h; rfl
  · obtain ⟨f, a, ns, m, rfl, ⟨⟨c, k, hf⟩, hs⟩, hm, hm2, q⟩ := h
    let X_ : Cx := (cxOf CX0 P w K mg base ["_law_feed_here", "_law_many", "_law_digit"] "_law_next" (defScope s__law_next) t.a__law_next cdv A outer s H E).nox
    let u1_ : PSV (X_) (List.drop 4 (defBody s__law_next)) := ⟨_, (pss_one (ps_ret (pv 2)))⟩
    let w1_ : TS := u1_.1
    have e1_ : PSs (X_) (List.drop 4 (defBody s__law_next)) w1_ := u1_.2
    let u2_ : PSV (X_) (List.drop 3 (defBody s__law_next)) := ⟨_, (pss_cons (ps_asg (pe_op op_fdivB (pe_ix (ix_K K) (pv 0) pe_int (fun _ _ => rfl)) (pv 1)) (pg_sub (pv 0) pe_int set_list))
      e1_)⟩
    let w2_ : TS := u2_.1
    have e2_ : PSs (X_) (List.drop 3 (defBody s__law_next)) w2_ := u2_.2
    let u3_ : PSV (X_) (List.drop 2 (defBody s__law_next)) := ⟨_, (pss_cons (ps_set (i := 2) sc__law_next.nd rfl (Or.inl rfl) (pe_op op_mod (pe_ix (ix_K K) (pv 0) pe_int (fun _ _ => rfl)) (pv 1)))
      e2_)⟩
    let w3_ : TS := u3_.1
    have e3_ : PSs (X_) (List.drop 2 (defBody s__law_next)) w3_ := u3_.2
    let u4_ : PSV (X_) (List.drop 1 (defBody s__law_next)) := ⟨_, (pss_cons (ps_if (PW.pt (pw_or (pt_cmpR (op_eqK K hr.units) (pe_callB (call_lenK K) rfl T.N_len bt_len (pa_cons (pe_ix (ix_K K) (pv 0) pe_int (fun _ _ => rfl)) pa_nil)) pe_int (nomark _)) (pw_or1 (pt_cmpR (op_eqK K hr.units) (pe_op op_mod (pe_ix (ix_K K) (pe_ix (ix_K K) (pv 0) pe_int (fun _ _ => rfl)) pe_int (fun _ _ => rfl)) pe_int) pe_int (nomark _))))) (pss_one (ps_ret (pe_call (ok__law_draw (K := K) T) (hr.mono (by decide)) rfl T.G__law_draw T.F__law_draw.kp T.B__law_draw .nil pass0 (pa_cons (pe_ix (ix_K K) (pv 0) pe_int (fun _ _ => rfl)) (pa_cons (pe_ix (ix_K K) (pv 0) pe_int (fun _ _ => rfl)) (pa_cons (pv 1) pa_nil)))))) pss_nil)
      e3_)⟩
    let w4_ : TS := u4_.1
    have e4_ : PSs (X_) (List.drop 1 (defBody s__law_next)) w4_ := u4_.2
    refine ⟨_, (pss_cons (ps_asg (pe_op (op_addU K) (pe_ix (ix_K K) (pv 0) pe_int (fun _ _ => rfl)) pe_int) (pg_sub (pv 0) pe_int set_list))
      e4_), ?_⟩
    have b1 : But f H (upd H f (.lst [.int c, .int (k + 1), .ref a])) := But.upd
    have hs1 : Scr K (upd H f (.lst [.int c, .int (k + 1), .ref a])) a ns := hs.but b1 hf
    have hf1 : (upd H f (.lst [.int c, .int (k + 1), .ref a])) f = some (.lst [.int c, .int (k + 1), .ref a]) := upd_same
    refine ⟨_, rfl, .inl ⟨f, _, _, _, rfl, rfl, SqL.of hf, rfl, ?_⟩⟩
    walk_at "go"
    refine ⟨f, _, _, _, rfl, rfl, hf, rfl, ?_⟩
    show (_ : TS) _ _ (upd H f (.lst [.int c, .int (k + 1), .ref a]))
    generalize upd H f (.lst [.int c, .int (k + 1), .ref a]) = H1 at b1 hs1 hf1
    refine ⟨_, rfl, .inl ⟨f, _, _, _, rfl, rfl, SqL.of hf1, rfl, _, _, rfl, .inl ⟨_, hs1.sq, rfl⟩, .inl ⟨rfl, _, rfl, ite2 (fun hc => ?_) (fun hc => ?_)⟩⟩⟩
    · refine iteT ?_
      refine ⟨_, rfl, .inl ⟨f, _, _, _, rfl, rfl, SqL.of hf1, rfl, _, rfl, .inl ⟨f, _, _, _, rfl, rfl, SqL.of hf1, rfl, _, rfl, ?_⟩⟩⟩
      exact ⟨a, ns, _, m, rfl, hs1, hm, fun r h0 h1 => q r H1 h0 h1 b1 ⟨⟨_, _, hf1⟩, hs1⟩⟩
    · have hn0 : 0 < ns.length := by
        rcases Nat.eq_zero_or_pos ns.length with z | z
        · exact absurd (by rw [List.length_map, z]; rfl) hc
        · exact z
      obtain ⟨z, hz⟩ := ints_atI (ns := ns) (r := 0) (by omega) (by omega)
      refine ⟨_, rfl, .inl ⟨f, _, _, _, rfl, rfl, SqL.of hf1, rfl, .inl ⟨a, _, _, _, rfl, rfl, hs1.sq, hz, ?_⟩⟩⟩
      walk_at "go"
      refine ite2 (fun hc => ?_) (fun hc => ?_)
      · refine ⟨_, rfl, .inl ⟨f, _, _, _, rfl, rfl, SqL.of hf1, rfl, _, rfl, .inl ⟨f, _, _, _, rfl, rfl, SqL.of hf1, rfl, _, rfl, ?_⟩⟩⟩
        exact ⟨a, ns, _, m, rfl, hs1, hm, fun r h0 h1 => q r H1 h0 h1 b1 ⟨⟨_, _, hf1⟩, hs1⟩⟩
      · refine ⟨_, rfl, .inl ⟨f, _, _, _, rfl, rfl, SqL.of hf1, rfl, _, rfl, _, _, rfl, rfl, hm, ?_⟩⟩
        refine ⟨_, rfl, .inl ⟨f, _, _, _, rfl, rfl, SqL.of hf1, rfl, _, rfl, _, _, rfl, rfl, ⟨hm, hm2⟩, _, rfl, f, _, _, _, rfl, rfl, hf1, rfl, _, rfl, ?_⟩⟩
        have b2 : But f H1 (upd H1 f (.lst [.int (c / m), .int (k + 1), .ref a])) := But.upd
        exact q _ _ (Int.emod_nonneg _ (by omega)) (Int.emod_lt_of_pos _ hm) (b1.trans b2) ⟨⟨_, _, upd_same⟩, hs1.but b2 hf1⟩
theorem ok__law_great (T : Txt K mg t) : FnOk P w K mg base CX0 3 t.a__law_great t.d__law_great ["_law_feed_here"] (spGreat K) := by
  refine T.F__law_great.ok sc__law_great (fun vs H Q E h => ?_) (fun cdv A outer s H vs Q E hr h => ?_)
  · obtain ⟨f, a, ns, rfl, _⟩ := h; rfl
  · obtain ⟨f, a, ns, rfl, hF, q⟩ := h
    have p59 : (0 : Int) < 10 ^ 59 := by decide
    refine ⟨_, (pss_one (ps_ret (pe_op op_mod (pe_op (op_addU K) (pe_op (op_mulU K) (pe_call (ok__law_next (K := K) T) (hr.mono (by decide)) rfl T.G__law_next T.F__law_next.kp T.B__law_next .nil pass0 (pa_cons (pv 0) (pa_cons (pe_op op_pow pe_int pe_int) pa_nil))) (pe_op op_pow pe_int pe_int)) (pe_call (ok__law_next (K := K) T) (hr.mono (by decide)) rfl T.G__law_next T.F__law_next.kp T.B__law_next .nil pass0 (pa_cons (pv 0) (pa_cons (pe_op op_pow pe_int pe_int) pa_nil)))) (pe_op op_pow pe_int pe_int)))), ?_⟩
    refine ⟨_, rfl, _, _, rfl, rfl, ⟨by decide, by decide, by decide⟩, ?_⟩
    refine ⟨f, a, ns, _, rfl, hF, by decide, by decide, fun r1 H1 h0 h1 b1 F1 => ?_⟩
    refine ⟨_, _, rfl, rfl, ⟨by decide, by decide, by decide⟩, ?_⟩
    refine .inl ⟨_, _, rfl, rfl, .inr ⟨?_, by decide⟩, ?_⟩
    · have h2 : r1 < 10 ^ 59 := h1
      have e : (10 : Int) ^ 59 < 2 ^ 200 := by decide
      have e3 : r1.natAbs < 2 ^ 200 := by omega
      exact Nat.lt_of_lt_of_le e3 (Nat.pow_le_pow_right (by decide) (by decide))
    refine ⟨_, rfl, _, _, rfl, rfl, ⟨by decide, by decide, by decide⟩, ?_⟩
    refine ⟨f, a, ns, _, rfl, F1, by decide, by decide, fun r2 H2 g0 g1 b2 F2 => ?_⟩
    refine .inl ⟨_, _, rfl, rfl, _, _, rfl, rfl, ⟨by decide, by decide, by decide⟩, _, _, rfl, rfl, (by show (0 : Int) < _; decide), ?_⟩
    exact q _ _ (Int.emod_nonneg _ (by decide)) (Int.emod_lt_of_pos _ (by decide)) (b1.trans b2) F2
theorem ok__law_long (T : Txt K mg t) : FnOk P w K mg base CX0 4 t.a__law_long t.d__law_long ["_law_feed_here"] (spLong K) := by
  refine T.F__law_long.ok sc__law_long (fun vs H Q E h => ?_) (fun cdv A outer s H vs Q E hr h => ?_)
  · obtain ⟨f, a, ns, rfl, _⟩ := h; rfl
  · obtain ⟨f, a, ns, rfl, hF, q⟩ := h
    let X_ : Cx := (cxOf CX0 P w K mg base ["_law_feed_here"] "_law_long" (defScope s__law_long) t.a__law_long cdv A outer s H E).nox
    let u1_ : PSV (X_) (List.drop 1 (defBody s__law_long)) := ⟨_, (pss_one (ps_ret (pe_op (op_addU K) pe_int (pe_call (ok__law_great (K := K) T) (hr.mono (by decide)) rfl T.G__law_great T.F__law_great.kp T.B__law_great .nil pass0 (pa_cons (pv 0) pa_nil)))))⟩
    let w1_ : TS := u1_.1
    have e1_ : PSs (X_) (List.drop 1 (defBody s__law_long)) w1_ := u1_.2
    refine ⟨_, (pss_cons (ps_if (pt_cmpR op_gtG (pe_call (ok__law_next (K := K) T) (hr.mono (by decide)) rfl T.G__law_next T.F__law_next.kp T.B__law_next .nil pass0 (pa_cons (pv 0) (pa_cons pe_int pa_nil))) pe_int (nomark _)) (pss_one (ps_ret (pe_op (op_addU K) pe_int (pe_call (ok__law_next (K := K) T) (hr.mono (by decide)) rfl T.G__law_next T.F__law_next.kp T.B__law_next .nil pass0 (pa_cons (pv 0) (pa_cons pe_int pa_nil)))))) pss_nil)
      e1_), ?_⟩
    refine ⟨_, rfl, f, a, ns, _, rfl, hF, by decide, by decide, fun r1 H1 h0 h1 b1 F1 => ?_⟩
    walk_at "go"
    refine ite2 (fun hc => ?_) (fun hc => ?_)
    · refine ⟨_, rfl, f, a, ns, _, rfl, F1, by decide, by decide, fun r2 H2 g0 g1 b2 F2 => ?_⟩
      walk_at "go"
      exact q _ _ (by omega) (by have : (9 : Int) ≤ 10 ^ 59 := by decide
                                 omega) (b1.trans b2) F2
    · refine ⟨_, rfl, f, a, ns, rfl, F1, fun r2 H2 g0 g1 b2 F2 => ?_⟩
      walk_at "go"
      exact q _ _ (by omega) (by omega) (b1.trans b2) F2
end
abbrev az : Str := "abcdefghijklmnopqrstuvwxyz"
structure Lets (n : Nat) (x : Str) : Prop where
  hi : x.length ≤ n
  lt : ∀ c ∈ x.cps.toList, 97 ≤ c ∧ c ≤ 122
structure Nm (x : Str) : Prop where
  lo : 1 ≤ x.length
  hi : x.length ≤ 8
  lt : ∀ c ∈ x.cps.toList, 97 ≤ c ∧ c ≤ 122
theorem az_let : ∀ c ∈ az.cps.toList, 97 ≤ c ∧ c ≤ 122 := by decide +kernel
theorem az_len : az.length = 26 := by decide +kernel
theorem az_llen : az.cps.toList.length = 26 := by decide +kernel
theorem small8 {n : Nat} (h : n ≤ 1000) : n ≤ sizeLine := Nat.le_trans h (by decide)
theorem strOk_of {x : Str} (h : ∀ c ∈ x.cps.toList, 97 ≤ c ∧ c ≤ 122) : PyData.strOk x = true := by
  unfold PyData.strOk
  rw [Array.all_eq_true']
  intro c hc
  have := h c (Array.mem_toList_iff.mpr hc)
  exact decide_eq_true (by omega)
theorem Nm.ok {x : Str} (h : Nm x) : PyData.strOk x = true := strOk_of h.lt
theorem one_let {c : Nat} (h : c ∈ az.cps.toList) : Nm ⟨#[c]⟩ := ⟨by show 1 ≤ 1; decide, by show 1 ≤ 8; decide, fun d hd => by
  have e : d = c := by simpa using hd
  rw [e]; exact az_let c h⟩
theorem len_app (x y : Str) : (x ++ y).length = x.length + y.length := by
  show (x.cps ++ y.cps).size = _
  rw [Array.size_append]
  rfl
theorem cps_app (x y : Str) : (x ++ y).cps.toList = x.cps.toList ++ y.cps.toList := by
  show (x.cps ++ y.cps).toList = _
  simp
theorem Lets.app {n m k : Nat} {x y : Str} (h : Lets n x) (g : Lets m y) (hk : n + m ≤ k) : Lets k (x ++ y) := by
  refine ⟨by rw [len_app]; have := h.hi; have := g.hi; omega, fun c hc => ?_⟩
  rw [cps_app] at hc
  rcases List.mem_append.mp hc with z | z
  · exact h.lt c z
  · exact g.lt c z
theorem Lets.mono {n m : Nat} {x : Str} (h : Lets n x) (hm : n ≤ m) : Lets m x := ⟨Nat.le_trans h.hi hm, h.lt⟩
theorem slice7_mem (x : Str) : ∀ c ∈ (Txt.slice x none (some 7)).cps.toList, c ∈ x.cps.toList := by
  intro c hc
  unfold Txt.slice at hc
  split at hc
  · exact hc
  · have hc' : c ∈ List.filterMap (fun i => x.cps[i]?) (Builtin.Str.strSliceIndices none (some 7) 1 x.length) := by simpa using hc
    obtain ⟨i, _, hi⟩ := List.mem_filterMap.mp hc'
    exact Array.mem_toList_iff.mpr (Array.mem_of_getElem? hi)
theorem slice7_idx (n : Nat) : (Builtin.Str.strSliceIndices none (some 7) 1 n).length ≤ 7 := by
  unfold Builtin.Str.strSliceIndices sliceRange
  simp only [show (1 : Int) > 0 by decide, if_true, List.length_map, List.length_range]
  split <;> (try split) <;> (try simp only [Int.ediv_one]) <;> omega
theorem slice7_len (x : Str) : (Txt.slice x none (some 7)).length ≤ 7 := by
  have h := slice7_idx x.length
  unfold Txt.slice
  split
  · rename_i hc
    have e : (Builtin.Str.strSliceIndices none (some 7) 1 x.length).length = x.length := by
      simp only [Bool.and_eq_true] at hc
      exact eq_of_beq hc.2
    omega
  · show (List.filterMap _ (Builtin.Str.strSliceIndices none (some 7) 1 x.length)).toArray.size ≤ 7
    rw [List.size_toArray]
    exact Nat.le_trans (List.length_filterMap_le _ _) h
theorem slice7 {x : Str} (h : Nm x) : Lets 7 (Txt.slice x none (some 7)) := ⟨slice7_len x, fun c hc => h.lt c (slice7_mem x c hc)⟩
theorem last_str {xs : List Str} (h : 0 < xs.length) : ∃ z, z ∈ xs ∧ atI (xs.map V.str) (-1) = some (.str z) := by
  obtain ⟨ys, z, rfl⟩ : ∃ ys z, xs = ys ++ [z] := ⟨xs.dropLast, xs.getLast (by intro e; rw [e] at h; exact absurd h (by simp)), (List.dropLast_concat_getLast _).symm⟩
  exact ⟨z, by simp, by rw [List.map_append]; exact atI_last _ _⟩
theorem str_atI {xs : List Str} {r : Int} (h0 : 0 ≤ r) (h1 : r < xs.length) : ∃ z, z ∈ xs ∧ atI (xs.map V.str) r = some (.str z) := by
  obtain ⟨j, rfl⟩ : ∃ j : Nat, r = j := ⟨r.toNat, by omega⟩
  have hj : j < xs.length := by omega
  exact ⟨xs[j], List.getElem_mem hj, atI_nat (by rw [List.getElem?_map, List.getElem?_eq_getElem hj]; rfl)⟩
theorem flat_strs (xs : List Str) : (xs.map V.str).all flatV = true := by
  rw [List.all_eq_true]
  intro v hv
  obtain ⟨x, _, rfl⟩ := List.mem_map.mp hv
  rfl
theorem inV_strs (x : Str) (xs : List Str) : inV (.str x) (xs.map V.str) = decide (x ∈ xs) := by
  unfold inV
  rw [Bool.eq_iff_iff, List.any_eq_true, decide_eq_true_iff]
  constructor
  · rintro ⟨v, hv, e⟩
    obtain ⟨y, hy, rfl⟩ := List.mem_map.mp hv
    have e' : (y == x) = true := e
    rw [← eq_of_beq e']
    exact hy
  · intro h
    exact ⟨.str x, List.mem_map_of_mem h, show (x == x) = true from beq_self_eq_true x⟩
theorem nodup_len {α : Type} [DecidableEq α] : ∀ {xs ys : List α}, xs.Nodup → (∀ x ∈ xs, x ∈ ys) → xs.length ≤ ys.length
  | [], _, _, _ => Nat.zero_le _
  | x :: xs, ys, hn, hs => by
    have hx : x ∈ ys := hs x List.mem_cons_self
    have hn' := List.nodup_cons.mp hn
    have ih := nodup_len (xs := xs) (ys := ys.erase x) hn'.2 (fun y hy => by
      have hne : y ≠ x := fun e => hn'.1 (e ▸ hy)
      exact (List.mem_erase_of_ne hne).mpr (hs y (List.mem_cons_of_mem _ hy)))
    have hl := List.length_erase_of_mem hx
    have hp : 0 < ys.length := List.length_pos_of_mem hx
    rw [List.length_cons]
    omega
def left (xs : List Str) (i : Nat) : List Str := ((az.cps.toList.take i).map fun c => (⟨#[c]⟩ : Str)).filter fun x => decide (x ∉ xs)
theorem left_succ {xs : List Str} {i c : Nat} (h : az.cps[i]? = some c) : left xs (i + 1) = left xs i ++ (if (⟨#[c]⟩ : Str) ∉ xs then [⟨#[c]⟩] else []) := by
  unfold left
  have h' : az.cps.toList[i]? = some c := by rw [Array.getElem?_toList]; exact h
  rw [List.take_add_one, h', List.map_append, List.filter_append]
  congr 1
  by_cases hc : (⟨#[c]⟩ : Str) ∉ xs
  · rw [if_pos hc]; simp [hc]
  · rw [if_neg hc]; simp [hc]
theorem left_ne {xs : List Str} (h : xs.length < 26) : left xs 26 ≠ [] := by
  intro e
  have hall : ∀ x ∈ (az.cps.toList.map fun c => (⟨#[c]⟩ : Str)), x ∈ xs := by
    intro x hx
    apply Classical.byContradiction
    intro hn
    have : x ∈ left xs 26 := by
      unfold left
      rw [List.take_of_length_le (Nat.le_of_eq az_llen)]
      exact List.mem_filter.mpr ⟨hx, decide_eq_true hn⟩
    rw [e] at this
    cases this
  have hnd : (az.cps.toList.map fun c => (⟨#[c]⟩ : Str)).Nodup := by decide +kernel
  have hl := nodup_len hnd hall
  rw [List.length_map, az_llen] at hl
  omega
theorem left_nm {xs : List Str} {x : Str} {i : Nat} (h : x ∈ left xs i) : Nm x ∧ x ∉ xs := by
  unfold left at h
  obtain ⟨h1, h2⟩ := List.mem_filter.mp h
  obtain ⟨c, hc, rfl⟩ := List.mem_map.mp h1
  exact ⟨one_let (List.mem_of_mem_take hc), of_decide_eq_true h2⟩
theorem left_len (xs : List Str) (i : Nat) : (left xs i).length ≤ 26 := by
  unfold left
  refine Nat.le_trans (List.length_filter_le _ _) ?_
  rw [List.length_map, List.length_take, az_llen]
  omega
def spName (K : PySem.W.Frag) : Sp := fun vs H Q _ => ∃ (f a l : Addr) (ns : List Int) (xs : List Str), vs = [.ref f, .ref l] ∧ Fed K H f a ns ∧ H l = some (.lst (xs.map V.str)) ∧ l ≠ f ∧ (∀ x ∈ xs, Nm x) ∧ xs.length < 26 ∧
  ∀ (x : Str) (H' : Hp), Nm x → x ∉ xs → But f H H' → Fed K H' f a ns → Q (.str x) H'
theorem menu_nm : ∀ x ∈ (["one", "over", "row", "bore", "layer", "fault", "like"] : List Str), 1 ≤ x.length ∧ x.length ≤ 8 ∧ ∀ c ∈ x.cps.toList, 97 ≤ c ∧ c ≤ 122 := by decide +kernel
section
variable {P : Program} {w : World} {K : PySem.W.Frag} {mg : Str → Option Value} {base : Heap} {t : Adr}
theorem ok__law_name (T : Txt K mg t) : FnOk P w K mg base CX0 3 t.a__law_name t.d__law_name ["_law_feed_here", "_law_names_here"] (spName K) := by
  refine T.F__law_name.ok sc__law_name (fun vs H Q E h => ?_) (fun cdv A outer s H vs Q E hr h => ?_)
  · obtain ⟨f, a, l, ns, xs, rfl, _⟩ := h; rfl
  · obtain ⟨f, a, l, ns, xs, rfl, hF, hl, hlf, hnm, hlen, q⟩ := h
    have sq : ∀ {H' : Hp}, But f H H' → SqL K H' l (xs.map V.str) := fun b => SqL.of (b l _ hl hlf)
    let X_ : Cx := (cxOf CX0 P w K mg base ["_law_feed_here", "_law_names_here", "_law_letters", "_law_word", "_law_k", "_law_letter"] "_law_name" (defScope s__law_name) t.a__law_name cdv A outer s H E).nox
    let u1_ : PSV (X_) (List.drop 6 (defBody s__law_name)) := ⟨_, (pss_one (ps_ret (pv 3)))⟩
    let w1_ : TS := u1_.1
    have e1_ : PSs (X_) (List.drop 6 (defBody s__law_name)) w1_ := u1_.2
    let u2_ : PSV (X_) (List.drop 5 (defBody s__law_name)) := ⟨_, (pss_cons (ps_mid (ps_if (pt_cmpR (op_inK K hr.units) (pv 3) (pv 1) (by with_unfolding_all rfl)) (pss_one (ps_set (i := 3) sc__law_name.nd rfl (Or.inl rfl) (pe_ix (ix_K K) (pe_cmp1 ["_law_feed_here", "_law_names_here", "_law_letters", "_law_word", "_law_k", "_law_letter"] (defScope s__law_name) ["_law_letter", "_law_names_here"] [none, some 1] (pi_seqK K (pv 2))
      (fun _ _ _ _ _ => (pg_name (i := 0) (show List.Nodup (["_law_letter", "_law_names_here"] : List Str) from (by decide +kernel)) rfl (Or.inl rfl))) (fun _ _ _ _ _ => (pts_one (pt_cmpR (op_notInK K hr.units) (pv 0) (pv 1) (by with_unfolding_all rfl)))) (fun _ _ _ _ _ => (pv 0))) pe_int (fun _ _ => rfl)))) pss_nil))
      e1_)⟩
    let w2_ : TS := u2_.1
    have e2_ : PSs (X_) (List.drop 5 (defBody s__law_name)) w2_ := u2_.2
    let u3_ : PSV (X_) (List.drop 1 (bodyOf (stAt (defBody s__law_name) 3))) := ⟨_, (pss_one (ps_if (pt_cmpR op_ltG (pe_callB (call_lenK K) rfl T.N_len bt_len (pa_cons (pv 3) pa_nil)) pe_int (nomark _)) (pss_one (ps_set (i := 3) sc__law_name.nd rfl (Or.inl rfl) (pe_op (op_addU K) (pv 3) (pv 5)))) pss_nil))⟩
    let w3_ : TS := u3_.1
    have e3_ : PSs (X_) (List.drop 1 (bodyOf (stAt (defBody s__law_name) 3))) w3_ := u3_.2
    let u4_ : PSV (X_) (List.drop 4 (defBody s__law_name)) := ⟨_, (pss_cons (ps_mid (ps_if (pt_cmpR (op_eqK K hr.units) (pe_call (ok__law_next (K := K) T) (hr.mono (by decide)) rfl T.G__law_next T.F__law_next.kp T.B__law_next .nil pass0 (pa_cons (pv 0) (pa_cons pe_int pa_nil))) pe_int (nomark _)) (pss_one (ps_set (i := 3) sc__law_name.nd rfl (Or.inl rfl) (pe_ix (ix_K K) (pe_lst (pa_cons pe_str (pa_cons pe_str (pa_cons pe_str (pa_cons pe_str (pa_cons pe_str (pa_cons pe_str (pa_cons pe_str pa_nil)))))))) (pe_call (ok__law_next (K := K) T) (hr.mono (by decide)) rfl T.G__law_next T.F__law_next.kp T.B__law_next .nil pass0 (pa_cons (pv 0) (pa_cons pe_int pa_nil))) (fun _ _ => rfl)))) pss_nil))
      e2_)⟩
    let w4_ : TS := u4_.1
    have e4_ : PSs (X_) (List.drop 4 (defBody s__law_name)) w4_ := u4_.2
    let u5_ : PSV (X_) (List.drop 3 (defBody s__law_name)) := ⟨_, (pss_cons (ps_for PassesOwn.never rfl (pi_range1 rfl T.N_range (pa_cons (pe_op (op_addU K) pe_int (pe_call (ok__law_next (K := K) T) (hr.mono (by decide)) rfl T.G__law_next T.F__law_next.kp T.B__law_next .nil pass0 (pa_cons (pv 0) (pa_cons pe_int pa_nil)))) pa_nil)) (pg_name (i := 4) sc__law_name.nd rfl (Or.inl rfl))
      (pss_cons (ps_set (i := 5) sc__law_name.nd rfl (Or.inl rfl) (pe_ix (ix_K K) (pv 2) (pe_call (ok__law_next (K := K) T) (hr.mono (by decide)) rfl T.G__law_next T.F__law_next.kp T.B__law_next .nil pass0 (pa_cons (pv 0) (pa_cons pe_int pa_nil))) (fun _ _ => rfl)))
      e3_))
      e4_)⟩
    let w5_ : TS := u5_.1
    have e5_ : PSs (X_) (List.drop 3 (defBody s__law_name)) w5_ := u5_.2
    let u6_ : PSV (X_) (List.drop 2 (defBody s__law_name)) := ⟨_, (pss_cons (ps_mid (ps_if (PW.pt (pw_and (pt_cmpR op_gtG (pe_callB (call_lenK K) rfl T.N_len bt_len (pa_cons (pv 1) pa_nil)) pe_int (nomark _)) (pw_and1 (pt_cmpR (op_eqK K hr.units) (pe_call (ok__law_next (K := K) T) (hr.mono (by decide)) rfl T.G__law_next T.F__law_next.kp T.B__law_next .nil pass0 (pa_cons (pv 0) (pa_cons pe_int pa_nil))) pe_int (nomark _))))) (pss_one (ps_set (i := 3) sc__law_name.nd rfl (Or.inl rfl) (pe_slice (sl_U K) (pe_ix (ix_K K) (pv 1) (pe_un un_neg pe_int) (fun _ _ => rfl)) po_none (po_some pe_int)))) pss_nil))
      e5_)⟩
    let w6_ : TS := u6_.1
    have e6_ : PSs (X_) (List.drop 2 (defBody s__law_name)) w6_ := u6_.2
    let u7_ : PSV (X_) (List.drop 1 (defBody s__law_name)) := ⟨_, (pss_cons (ps_set (i := 3) sc__law_name.nd rfl (Or.inl rfl) pe_str)
      e6_)⟩
    let w7_ : TS := u7_.1
    have e7_ : PSs (X_) (List.drop 1 (defBody s__law_name)) w7_ := u7_.2
    refine ⟨_, (pss_cons (ps_set (i := 2) sc__law_name.nd rfl (Or.inl rfl) pe_str)
      e7_), ?_⟩
    let M1_ : St → Hp → Prop := fun σ H' => ∃ w : Str, Lets 7 w ∧ σ = [some (.ref f), some (.ref l), some (.str az), some (.str w), none, none] ∧ But f H H' ∧ Fed K H' f a ns
    refine ⟨M1_, ?_, ?_⟩
    · refine ⟨_, rfl, _, _, rfl, .inl ⟨_, SqL.of hl, rfl⟩, _, _, rfl, rfl, _, rfl, ite2 (fun hc => ?_) (fun _ => ?_)⟩
      · have hl0 : (0 : Int) < ((xs.map V.str).length : Nat) := of_decide_eq_true hc
        rw [List.length_map] at hl0
        refine ⟨_, rfl, f, a, ns, _, rfl, hF, by decide, by decide, fun r1 H1 _ _ b1 F1 => ?_⟩
        walk_at "go"
        refine ite2 (fun _ => ?_) (fun _ => ?_)
        · obtain ⟨z, hz, ez⟩ := last_str (xs := xs) (by omega)
          refine ⟨_, rfl, _, rfl, .inl ⟨l, _, _, _, rfl, rfl, sq b1, ez, _, rfl, .inr (.inr (.inl ⟨z, rfl, small8 (Nat.le_trans (hnm z hz).hi (by decide)), ?_⟩))⟩⟩
          exact ⟨_, slice7 (hnm z hz), rfl, b1, F1⟩
        · exact ⟨_, ⟨by decide, fun c hc => absurd hc (by decide +revert)⟩, rfl, b1, F1⟩
      · exact iteF ⟨_, ⟨by decide, fun c hc => absurd hc (by decide +revert)⟩, rfl, But.refl _ _, hF⟩
    · rintro σ H1 ⟨w1, hw1, rfl, b1, F1⟩
      refine ⟨_, rfl, f, a, ns, _, rfl, F1, by decide, by decide, fun r2 H2 h0 h1 b2 F2 => ?_⟩
      walk_at "go"
      let Pv2_ : Nat → St → Hp → Prop := fun i σ H' => ∃ (w : Str) (o4 o5 : Option V), σ = [some (.ref f), some (.ref l), some (.str az), some (.str w), o4, o5] ∧ Lets 8 w ∧ (0 < i → 1 ≤ w.length) ∧ But f H H' ∧ Fed K H' f a ns
      refine ⟨by omega, by omega, for_range Pv2_
        ⟨w1, _, _, rfl, hw1.mono (by decide), fun z => absurd z (by decide), b1.trans b2, F2⟩ ?_ ?_⟩
      · rintro i σ H3 hi ⟨w3, o4, o5, rfl, hw3, _, b3, F3⟩
        refine ⟨_, rfl, _, rfl, f, a, ns, _, rfl, F3, by decide, by decide, fun r4 H4 g0 g1 b4 F4 => ?_⟩
        obtain ⟨c, hc, ec⟩ := atI_mem (xs := az.cps.toList) (r := r4) g0 (by rw [az_llen]; omega)
        refine .inr (.inr ⟨az, _, c, rfl, rfl, by decide +kernel, ec, ?_⟩)
        refine ⟨_, rfl, _, _, rfl, ⟨small8 (Nat.le_trans hw3.hi (by decide)), rfl⟩, _, _, rfl, rfl, _, rfl, ite2 (fun hc8 => ?_) (fun hc8 => ?_)⟩
        · have h8 : (w3.length : Int) < 8 := of_decide_eq_true hc8
          refine ⟨_, rfl, _, rfl, .inr (.inl ⟨_, _, rfl, rfl, ?_, ?_⟩)⟩
          · exact small8 (show w3.length + 1 ≤ 1000 by omega)
          · have hl1 : Lets 1 (⟨#[c]⟩ : Str) := ⟨Nat.le_refl _, (one_let hc).lt⟩
            have hl7 : Lets 7 w3 := ⟨by omega, hw3.lt⟩
            exact ⟨_, _, _, rfl, hl7.app hl1 (by decide), fun _ => by rw [len_app]; show 1 ≤ w3.length + 1; omega, b3.trans b4, F4⟩
        · have h8 : ¬ (w3.length : Int) < 8 := fun z => hc8 (decide_eq_true z)
          exact ⟨_, _, _, rfl, hw3, fun _ => by omega, b3.trans b4, F4⟩
      · rintro σ H3 ⟨w3, o4, o5, rfl, hw3, hpos, b3, F3⟩
        have hn3 : Nm w3 := ⟨hpos (by omega), hw3.hi, hw3.lt⟩
        let M3_ : St → Hp → Prop := fun σ H' => ∃ (w : Str), σ = [some (.ref f), some (.ref l), some (.str az), some (.str w), o4, o5] ∧ Nm w ∧ But f H H' ∧ Fed K H' f a ns
        refine ⟨M3_, ?_, ?_⟩
        · refine ⟨_, rfl, f, a, ns, _, rfl, F3, by decide, by decide, fun r4 H4 g0 g1 b4 F4 => ?_⟩
          walk_at "go"
          refine ite2 (fun _ => ?_) (fun _ => ?_)
          · refine ⟨by show 7 ≤ sizeLine; decide, fun p hp => ?_⟩
            have sp : Same H4 (upd H4 p (.lst [.str "one", .str "over", .str "row", .str "bore", .str "layer", .str "fault", .str "like"])) := Same.new hp
            have hp5 : upd H4 p (.lst [.str "one", .str "over", .str "row", .str "bore", .str "layer", .str "fault", .str "like"]) p = some (.lst ((["one", "over", "row", "bore", "layer", "fault", "like"] : List Str).map V.str)) := upd_same
            have pf : p ≠ f := by
              obtain ⟨ys, e⟩ := F4.lst
              exact (ne_of_none e hp).symm
            refine ⟨_, rfl, f, a, ns, _, rfl, F4.same sp, by decide, by decide, fun r5 H5 k0 k1 b5 F5 => ?_⟩
            obtain ⟨z, hz, ez⟩ := str_atI (xs := (["one", "over", "row", "bore", "layer", "fault", "like"] : List Str)) k0 (by show r5 < 7; exact k1)
            refine .inl ⟨p, _, _, _, rfl, rfl, SqL.of (b5 p _ hp5 pf), ez, ?_⟩
            obtain ⟨m1, m2, m3⟩ := menu_nm z hz
            exact ⟨z, rfl, ⟨m1, m2, m3⟩, ((b3.trans b4).trans (But.of_same sp)).trans b5, F5⟩
          · exact ⟨w3, rfl, hn3, b3.trans b4, F4⟩
        · rintro σ H4 ⟨w4, rfl, hn4, b4, F4⟩
          let M4_ : St → Hp → Prop := fun σ H' => ∃ (w : Str), σ = [some (.ref f), some (.ref l), some (.str az), some (.str w), o4, o5] ∧ Nm w ∧ w ∉ xs ∧ But f H H' ∧ Fed K H' f a ns
          refine ⟨M4_, ?_, ?_⟩
          · refine ⟨_, rfl, _, rfl, .inl ⟨l, _, rfl, .inl (sq b4), rfl, flat_strs xs, _, rfl, ite2 (fun hc => ?_) (fun hc => ?_)⟩⟩
            · refine ⟨_, rfl, Its az, .str az, fun D hD => ?_⟩
              have sD : Same H4 (upd H4 D (.lst [])) := Same.new hD
              refine ⟨fun i m H' => m = 26 - i ∧ i ≤ 26 ∧ Same H4 H' ∧ H' D = some (.lst ((left xs i).map V.str)), ⟨26, rfl, by decide, sD, upd_same⟩, ?_⟩
              rintro i m H5 ⟨rfl, hi, s5, hD5⟩
              by_cases hlt : i < 26
              · refine .inr ⟨show i < az.length by rw [az_len]; exact hlt, ?_⟩
                rintro x H6 ⟨rfl, c, hc, rfl⟩
                have sq6 : SqL K H6 l (xs.map V.str) := s5.seq (sq b4)
                refine ⟨SubS.set (SubS.refl _) rfl, _, rfl, _, rfl, .inl ⟨l, _, rfl, .inl sq6, rfl, flat_strs xs, _, rfl, ?_⟩⟩
                rw [show (if true = true then !inV (V.str ⟨#[c]⟩) (xs.map V.str) else inV (V.str ⟨#[c]⟩) (xs.map V.str)) = !decide ((⟨#[c]⟩ : Str) ∈ xs) by rw [if_pos rfl, inV_strs]]
                by_cases hin : (⟨#[c]⟩ : Str) ∈ xs
                · rw [decide_eq_true hin]
                  refine iteF ⟨26 - (i + 1), by omega, rfl, hlt, s5, ?_⟩
                  rw [left_succ hc, if_neg (fun z => z hin), List.append_nil]
                  exact hD5
                · rw [decide_eq_false hin]
                  refine iteT ⟨_, rfl, _, hD5, ?_, 26 - (i + 1), by omega, rfl, hlt, ?_, ?_⟩
                  · rw [List.length_map]
                    exact Nat.lt_of_le_of_lt (left_len xs i) (by decide)
                  · intro b o e
                    rw [upd_ne (ne_of_none e hD)]
                    exact s5 b o e
                  · rw [upd_same, left_succ hc, if_pos hin, List.map_append]
                    rfl
              · have e26 : i = 26 := by omega
                subst e26
                refine .inl ⟨az_len.symm, ?_⟩
                obtain ⟨z, hz, ez⟩ := str_atI (xs := left xs 26) (r := 0) (by omega) (by
                  have := List.length_pos_iff.mpr (left_ne (xs := xs) (by omega))
                  omega)
                refine .inl ⟨D, _, _, _, rfl, rfl, SqL.of hD5, ez, ?_⟩
                exact ⟨z, rfl, (left_nm hz).1, (left_nm hz).2, b4.trans (But.of_same s5), F4.same s5⟩
            · refine ⟨w4, rfl, hn4, fun hin => hc ?_, b4, F4⟩
              rw [if_neg (by decide), inV_strs]
              exact decide_eq_true hin
          · rintro σ H5 ⟨w5, rfl, hn5, hni, b5, F5⟩
            exact ⟨_, rfl, q w5 H5 hn5 hni b5 F5⟩
end
def insAt {α : Type} (xs : List α) (k : Nat) (x : α) : List α := xs.take k ++ x :: xs.drop k
theorem insAt_perm {α : Type} (xs : List α) (k : Nat) (x : α) : (insAt xs k x).Perm (x :: xs) := by
  unfold insAt
  refine List.perm_middle.trans ?_
  rw [List.take_append_drop]
theorem insAt_map {α β : Type} (g : α → β) (xs : List α) (k : Nat) (x : α) : (xs.map g).take k ++ g x :: (xs.map g).drop k = (insAt xs k x).map g := by
  unfold insAt
  rw [List.map_append, List.map_cons, List.map_take, List.map_drop]
theorem insAt_mem {α : Type} {xs : List α} {k : Nat} {x y : α} : y ∈ insAt xs k x ↔ y = x ∨ y ∈ xs := by
  rw [(insAt_perm xs k x).mem_iff, List.mem_cons]
theorem insAt_len {α : Type} (xs : List α) (k : Nat) (x : α) : (insAt xs k x).length = xs.length + 1 := by
  rw [(insAt_perm xs k x).length_eq, List.length_cons]
def spNames (K : PySem.W.Frag) : Sp := fun vs H Q _ => ∃ (f a : Addr) (ns : List Int) (m : Int), vs = [.ref f, .int m] ∧ Fed K H f a ns ∧ 0 ≤ m ∧ m ≤ 20 ∧
  ∀ (l : Addr) (xs : List Str) (H' : Hp), H l = none → H' l = some (.lst (xs.map V.str)) → l ≠ f → (∀ x ∈ xs, Nm x) → xs.Nodup → xs.length = m.toNat → But f H H' → Fed K H' f a ns → Q (.ref l) H'
def spMarks (K : PySem.W.Frag) : Sp := fun vs H Q _ => ∃ (f a l : Addr) (ns : List Int) (xs : List Str), vs = [.ref f, .ref l] ∧ Fed K H f a ns ∧ H l = some (.lst (xs.map V.str)) ∧ l ≠ f ∧ (∀ x ∈ xs, Nm x) ∧ xs.Nodup ∧ xs.length ≤ 12 ∧
  ∀ (p : Addr) (ms : List Str) (H' : Hp), H p = none → H' p = some (.lst (ms.map V.str)) → p ≠ f → (∀ x ∈ ms, Nm x) → ms.Nodup → 0 < ms.length → ms.length ≤ 12 → But f H H' → Fed K H' f a ns → Q (.ref p) H'
theorem But.new {f p : Addr} {H H' : Hp} {o : HO} (b : But f H H') (h : H p = none) : But f H (L2.upd H' p o) := fun c o' e n => by rw [upd_ne (ne_of_none e h)]; exact b c o' e n
theorem Fed.ne {K : PySem.W.Frag} {H : Hp} {f a p : Addr} {ns : List Int} (h : Fed K H f a ns) (hp : H p = none) : p ≠ f := by
  obtain ⟨ys, e⟩ := h.lst
  exact (ne_of_none e hp).symm
theorem Fed.upd {K : PySem.W.Frag} {H : Hp} {f a p : Addr} {ns : List Int} {xs ys : List V} (h : Fed K H f a ns) (hp : H p = some (.lst xs)) (hpf : p ≠ f) : Fed K (L2.upd H p (.lst ys)) f a ns := by
  obtain ⟨⟨c, k, e⟩, hs⟩ := h
  exact ⟨⟨c, k, by rw [upd_ne hpf.symm]; exact e⟩, hs.but But.upd hp⟩
section
variable {P : Program} {w : World} {K : PySem.W.Frag} {mg : Str → Option Value} {base : Heap} {t : Adr}
theorem ok__law_names (T : Txt K mg t) : FnOk P w K mg base CX0 4 t.a__law_names t.d__law_names ["_law_feed_here", "_law_many"] (spNames K) := by
  refine T.F__law_names.ok sc__law_names (fun vs H Q E h => ?_) (fun cdv A outer s H vs Q E hr h => ?_)
  · obtain ⟨f, a, ns, m, rfl, _⟩ := h; rfl
  · obtain ⟨f, a, ns, m, rfl, hF, hm0, hm1, q⟩ := h
    let X_ : Cx := (cxOf CX0 P w K mg base ["_law_feed_here", "_law_many", "_law_names_here", "_law_k"] "_law_names" (defScope s__law_names) t.a__law_names cdv A outer s H E).nox
    let u1_ : PSV (X_) (List.drop 2 (defBody s__law_names)) := ⟨_, (pss_one (ps_ret (pv 2)))⟩
    let w1_ : TS := u1_.1
    have e1_ : PSs (X_) (List.drop 2 (defBody s__law_names)) w1_ := u1_.2
    let u2_ : PSV (X_) (List.drop 1 (defBody s__law_names)) := ⟨_, (pss_cons (ps_for PassesOwn.never rfl (pi_range1 rfl T.N_range (pa_cons (pv 1) pa_nil)) (pg_name (i := 3) sc__law_names.nd rfl (Or.inl rfl))
      (pss_one (ps_expr (pe_bmK K PySem.F.plainAttrs_list PySem.F.slot_list_insert PySem.F.type_list_insert mt_insert (pv 2) (pa_cons (pe_call (ok__law_next (K := K) T) (hr.mono (by decide)) rfl T.G__law_next T.F__law_next.kp T.B__law_next .nil pass0 (pa_cons (pv 0) (pa_cons (pe_op (op_addU K) (pe_callB (call_lenK K) rfl T.N_len bt_len (pa_cons (pv 2) pa_nil)) pe_int) pa_nil))) (pa_cons (pe_call (ok__law_name (K := K) T) (hr.mono (by decide)) rfl T.G__law_name T.F__law_name.kp T.B__law_name .nil pass0 (pa_cons (pv 0) (pa_cons (pv 2) pa_nil))) pa_nil))))))
      e1_)⟩
    let w2_ : TS := u2_.1
    have e2_ : PSs (X_) (List.drop 1 (defBody s__law_names)) w2_ := u2_.2
    refine ⟨_, (pss_cons (ps_set (i := 2) sc__law_names.nd rfl (Or.inl rfl) (pe_lst pa_nil))
      e2_), ?_⟩
    refine ⟨Nat.zero_le _, fun l hl => ?_⟩
    have lf : l ≠ f := hF.ne hl
    have s1 : Same H (upd H l (.lst [])) := Same.new hl
    let Pv1_ : Nat → St → Hp → Prop := fun i σ H' => ∃ (xs : List Str) (o : Option V), σ = [some (.ref f), some (.int m), some (.ref l), o] ∧ H' l = some (.lst (xs.map V.str)) ∧ (∀ x ∈ xs, Nm x) ∧ xs.Nodup ∧ xs.length = i ∧ But f H H' ∧ Fed K H' f a ns
    refine ⟨_, rfl, _, rfl, by omega, by omega, for_range Pv1_
      ⟨[], none, rfl, upd_same, fun x hx => absurd hx (by simp), List.nodup_nil, rfl, But.of_same s1, hF.same s1⟩ ?_ ?_⟩
    · rintro i σ H1 hi ⟨xs, o, rfl, h1, hnm, hnd, hlen, b1, F1⟩
      refine ⟨_, rfl, .inl ⟨rfl, _, SqL.of h1⟩, _, rfl, _, rfl, _, _, rfl, .inl ⟨_, SqL.of h1, rfl⟩, .inl ⟨_, _, rfl, rfl, ?_⟩⟩
      have hl64 : ((xs.map V.str).length : Int) = i := by rw [List.length_map, hlen]
      refine ⟨f, a, ns, _, rfl, F1, by omega, ?_, fun r H2 g0 g1 b2 F2 => ?_⟩
      · have e : (100 : Int) < 2 ^ 1000 := by decide
        omega
      have h2 : H2 l = some (.lst (xs.map V.str)) := b2 l _ h1 lf
      refine ⟨_, rfl, _, rfl, f, a, l, ns, xs, rfl, F2, h2, lf, hnm, by omega, fun x H3 hx hni b3 F3 => ?_⟩
      have h3 : H3 l = some (.lst (xs.map V.str)) := b3 l _ h2 lf
      refine ⟨l, _, r, _, rfl, rfl, h3, g0, by omega, ?_, ?_⟩
      · rw [List.length_map]
        exact Nat.lt_of_lt_of_le (show xs.length < 1000 by omega) (by decide)
      · refine ⟨insAt xs r.toNat x, _, rfl, ?_, ?_, ?_, ?_, ?_, ?_⟩
        · rw [upd_same, insAt_map]
        · intro y hy
          rcases insAt_mem.mp hy with rfl | hy
          · exact hx
          · exact hnm y hy
        · exact (insAt_perm xs r.toNat x).nodup_iff.mpr (List.nodup_cons.mpr ⟨hni, hnd⟩)
        · rw [insAt_len, hlen]
        · exact ((b1.trans b2).trans b3).new hl
        · exact F3.upd h3 lf
    · rintro σ H1 ⟨xs, o, rfl, h1, hnm, hnd, hlen, b1, F1⟩
      exact ⟨_, rfl, q l xs H1 hl h1 lf hnm hnd hlen b1 F1⟩
end
abbrev Lay := Str × Int
def layD (x : Lay) : PyData := .tuple [.str x.1, .int x.2]
def blkD (b : List Lay) : PyData := .tuple (b.map layD)
def blksD (bs : List (List Lay)) : PyData := .tuple (bs.map blkD)
def LayOk (ms : List Str) (x : Lay) : Prop := x.1 ∈ ms ∧ 1 ≤ x.2 ∧ x.2 ≤ 10 ^ 59
structure BlksOk (ms : List Str) (bs : List (List Lay)) : Prop where
  ne : bs ≠ []
  each : ∀ b ∈ bs, b ≠ []
  lay : ∀ b ∈ bs, ∀ x ∈ b, LayOk ms x
  few : bs.flatten.length ≤ 6
theorem layD_pure (x : Lay) : pureD (layD x) = true := rfl
theorem blkD_pure (b : List Lay) : pureD (blkD b) = true := pureDs_map fun x _ => layD_pure x
theorem blksD_pure (bs : List (List Lay)) : pureD (blksD bs) = true := pureDs_map fun x _ => blkD_pure x
theorem lays_pure (b : List Lay) : pureDs (b.map layD) = true := pureDs_map fun x _ => layD_pure x
def Blk (K : PySem.W.Frag) (H : Hp) (a : Addr) (b : List Lay) : Prop := ∃ vs, H a = some (.lst vs) ∧ RepL K H (b.map layD) vs
theorem Blk.keep {K : PySem.W.Frag} {H H' : Hp} {a : Addr} {b : List Lay} (h : Blk K H a b) (k : KeepT K H H') (ha : ∀ o, H a = some o → H' a = some o) : Blk K H' a b := by
  obtain ⟨vs, h1, h2⟩ := h
  exact ⟨vs, ha _ h1, h2.keepT k (lays_pure b)⟩
theorem Blk.but {K : PySem.W.Frag} {H H' : Hp} {f a s : Addr} {ns : List Int} {b : List Lay} (h : Blk K H a b) (F : Fed K H f s ns) (bt : But f H H') (ne : a ≠ f) : Blk K H' a b := h.keep (F.keepT bt) fun o e => bt a o e ne
theorem Blk.same {K : PySem.W.Frag} {H H' : Hp} {a : Addr} {b : List Lay} (h : Blk K H a b) (s : Same H H') : Blk K H' a b := h.keep s.keepT (s a)
theorem Blk.upd {K : PySem.W.Frag} {H : Hp} {a p : Addr} {b : List Lay} {xs ys : List V} (h : Blk K H a b) (hp : H p = some (.lst xs)) (ne : a ≠ p) : Blk K (L2.upd H p (.lst ys)) a b := h.keep (keepT_upd hp) fun o e => by rw [upd_ne ne]; exact e
theorem Blk.len {K : PySem.W.Frag} {H : Hp} {a : Addr} {b : List Lay} {vs : List V} (h : Blk K H a b) (e : H a = some (.lst vs)) : vs.length = b.length ∧ RepL K H (b.map layD) vs := by
  obtain ⟨us, h1, h2⟩ := h
  rw [e] at h1
  cases h1
  exact ⟨by rw [h2.length, List.length_map], h2⟩
theorem But.none {f p : Addr} {H H' : Hp} (b : But f H H') (pf : p ≠ f) (h : H' p = Option.none) : H p = Option.none := by
  cases e : H p with
  | none => rfl
  | some o => rw [b p o e pf] at h; cases h
def spBlocks (K : PySem.W.Frag) : Sp := fun vs H Q _ => ∃ (f a m : Addr) (ns : List Int) (ms : List Str), vs = [.ref f, .ref m] ∧ Fed K H f a ns ∧ H m = some (.lst (ms.map V.str)) ∧ m ≠ f ∧ 0 < ms.length ∧ ms.length ≤ 20 ∧
  ∀ (v : V) (bs : List (List Lay)) (H' : Hp), BlksOk ms bs → Rep K H' (blksD bs) v → But f H H' → Fed K H' f a ns → Q v H'
structure BInv (K : PySem.W.Frag) (f a B : Addr) (ns : List Int) (ms : List Str) (H : Hp) (i : Nat) (ps : List (Addr × List Lay)) (al : Addr) (bl : List Lay) (H' : Hp) : Prop where
  lst : H' B = some (.lst ((ps ++ [(al, bl)]).map fun p => V.ref p.1))
  full : ∀ p ∈ ps, p.2 ≠ [] ∧ p.1 ≠ al
  blk : ∀ p ∈ ps ++ [(al, bl)], Blk K H' p.1 p.2 ∧ p.1 ≠ B ∧ p.1 ≠ f ∧ H p.1 = none
  lay : ∀ b ∈ (ps ++ [(al, bl)]).map (·.2), ∀ x ∈ b, LayOk ms x
  num : ((ps ++ [(al, bl)]).map (·.2)).flatten.length = i
  bt : But f H H'
  fd : Fed K H' f a ns
theorem flat_ge {α β : Type} : ∀ (qs : List (α × List β)), (∀ p ∈ qs, p.2 ≠ []) → qs.length ≤ (qs.map (·.2)).flatten.length
  | [], _ => Nat.zero_le _
  | q :: qs, hq => by
    have h1 := flat_ge qs fun p hp => hq p (List.mem_cons_of_mem _ hp)
    have h2 : q.2.length ≠ 0 := fun z => hq q List.mem_cons_self (List.length_eq_zero_iff.mp z)
    rw [List.map_cons, List.flatten_cons, List.length_append, List.length_cons]
    omega
section
variable {K : PySem.W.Frag} {f a B : Addr} {ns : List Int} {ms : List Str} {H : Hp} {i : Nat} {ps : List (Addr × List Lay)} {al : Addr} {bl : List Lay} {H' H1 H2 : Hp}
theorem BInv.few (h : BInv K f a B ns ms H i ps al bl H') : ps.length ≤ i := by
  have hh := h.num
  have := flat_ge ps fun p hp => (h.full p hp).1
  rw [List.map_append, List.flatten_append, List.length_append] at hh
  omega
theorem BInv.last (h : BInv K f a B ns ms H i ps al bl H') : Blk K H' al bl ∧ al ≠ B ∧ al ≠ f ∧ H al = none := h.blk (al, bl) (by simp)
theorem BInv.but (h : BInv K f a B ns ms H i ps al bl H1) (hB : B ≠ f) (b : But f H1 H2) (F : Fed K H2 f a ns) : BInv K f a B ns ms H i ps al bl H2 :=
  ⟨b B _ h.lst hB, h.full, fun p hp => let ⟨a2, a4, a5, a6⟩ := h.blk p hp; ⟨a2.but h.fd b a5, a4, a5, a6⟩, h.lay, h.num, h.bt.trans b, F⟩
theorem BInv.same (h : BInv K f a B ns ms H i ps al bl H1) (hB : B ≠ f) (s : Same H1 H2) : BInv K f a B ns ms H i ps al bl H2 := h.but hB (But.of_same s) (h.fd.same s)
theorem BInv.at (h : BInv K f a B ns ms H i ps al bl H') : atI ((ps ++ [(al, bl)]).map fun p => V.ref p.1) (-1) = some (.ref al) := by
  rw [List.map_append]
  exact atI_last _ _
theorem BInv.open (h : BInv K f a B ns ms H i ps al bl H1) (hB : B ≠ f) (BH : H B = none) (hbl : bl ≠ []) {p : Addr} (hp : H1 p = none) :
    BInv K f a B ns ms H i (ps ++ [(al, bl)]) p [] (upd (upd H1 p (.lst [])) B (.lst (((ps ++ [(al, bl)]).map fun p => V.ref p.1) ++ [.ref p]))) := by
  have s1 : Same H1 (upd H1 p (.lst [])) := Same.new hp
  have h' := h.same hB s1
  have pB : p ≠ B := (ne_of_none h.lst hp).symm
  have pf : p ≠ f := h.fd.ne hp
  have pH : H p = none := h.bt.none pf hp
  refine ⟨?_, fun z hz => ?_, fun z hz => ?_, fun b hb x hx => ?_, ?_, ?_, h'.fd.upd h'.lst hB⟩
  · rw [upd_same, List.map_append (l₁ := ps ++ [(al, bl)])]
    rfl
  · rcases List.mem_append.mp hz with hz | hz
    · refine ⟨(h.full z hz).1, ?_⟩
      obtain ⟨⟨vs, e, _⟩, _⟩ := h.blk z (List.mem_append_left _ hz)
      exact ne_of_none e hp
    · have e : z = (al, bl) := by simpa using hz
      subst e
      obtain ⟨⟨vs, e, _⟩, _⟩ := h.last
      exact ⟨hbl, ne_of_none e hp⟩
  · rcases List.mem_append.mp hz with hz | hz
    · obtain ⟨a2, a4, a5, a6⟩ := h'.blk z hz
      exact ⟨a2.upd h'.lst a4, a4, a5, a6⟩
    · have e : z = (p, []) := by simpa using hz
      subst e
      exact ⟨⟨[], by rw [upd_ne pB, upd_same], rfl⟩, pB, pf, pH⟩
  · rw [List.map_append (l₁ := ps ++ [(al, bl)])] at hb
    rcases List.mem_append.mp hb with hb | hb
    · exact h.lay b hb x hx
    · have e : b = [] := by simpa using hb
      subst e
      cases hx
  · rw [List.map_append (l₁ := ps ++ [(al, bl)]), List.flatten_append, List.length_append, h.num]
    rfl
  · exact (h'.bt).new BH
theorem BInv.put (h : BInv K f a B ns ms H i ps al bl H1) (hB : B ≠ f) {vs : List V} (hv : H1 al = some (.lst vs)) {p : Addr} {x : Lay} (hp : H1 p = some (.tup [.str x.1, .int x.2])) (hx : LayOk ms x) :
    BInv K f a B ns ms H (i + 1) ps al (bl ++ [x]) (upd H1 al (.lst (vs ++ [.ref p]))) := by
  obtain ⟨b1, b2, b3, b4⟩ := h.last
  obtain ⟨_, rl⟩ := b1.len hv
  refine ⟨?_, h.full, fun z hz => ?_, fun b hb y hy => ?_, ?_, h.bt.new b4, h.fd.upd hv b3⟩
  · rw [upd_ne b2.symm, h.lst, List.map_append, List.map_append]
    rfl
  · rcases List.mem_append.mp hz with hz | hz
    · obtain ⟨a2, a4, a5, a6⟩ := h.blk z (List.mem_append_left _ hz)
      exact ⟨a2.upd hv (h.full z hz).2, a4, a5, a6⟩
    · have e : z = (al, bl ++ [x]) := by simpa using hz
      subst e
      refine ⟨⟨_, upd_same, ?_⟩, b2, b3, b4⟩
      show RepL K _ ((bl ++ [x]).map layD) _
      rw [List.map_append]
      refine RepL.append (rl.keepT (keepT_upd hv) (lays_pure bl)) (RepL.one ?_)
      exact Rep.keepT (keepT_upd hv) (layD_pure x) (rep_tup hp ⟨_, _, rfl, rfl, _, _, rfl, rfl, rfl⟩)
  · rw [List.map_append] at hb
    rcases List.mem_append.mp hb with hb | hb
    · exact h.lay b (by rw [List.map_append]; exact List.mem_append_left _ hb) y hy
    · have e : b = bl ++ [x] := by simpa using hb
      subst e
      rcases List.mem_append.mp hy with hy | hy
      · exact h.lay bl (by simp) y hy
      · have e : y = x := by simpa using hy
        rw [e]; exact hx
  · have hn := h.num
    rw [List.map_append, List.flatten_append, List.length_append] at hn ⊢
    simp only [List.map_cons, List.map_nil, List.flatten_cons, List.flatten_nil, List.append_nil, List.length_append, List.length_cons, List.length_nil] at hn ⊢
    omega
end
section
variable {P : Program} {w : World} {K : PySem.W.Frag} {mg : Str → Option Value} {base : Heap} {t : Adr}
theorem ok__law_blocks (T : Txt K mg t) : FnOk P w K mg base CX0 5 t.a__law_blocks t.d__law_blocks ["_law_feed_here", "_law_marks"] (spBlocks K) := by
  refine T.F__law_blocks.ok sc__law_blocks (fun vs H Q E h => ?_) (fun cdv A outer s H vs Q E hr h => ?_)
  · obtain ⟨f, a, m, ns, ms, rfl, _⟩ := h; rfl
  · obtain ⟨f, a, m, ns, ms, rfl, hF, hm, hmf, hms, hms2, q⟩ := h
    let X_ : Cx := (cxOf CX0 P w K mg base ["_law_feed_here", "_law_marks", "_law_blocks_here", "_law_k"] "_law_blocks" (defScope s__law_blocks) t.a__law_blocks cdv A outer s H E).nox
    let u1_ : PSV (X_) (List.drop 1 (bodyOf (stAt (defBody s__law_blocks) 1))) := ⟨_, (pss_one (ps_expr (pe_bmK K PySem.F.plainAttrs_list PySem.F.slot_list_append PySem.F.type_list_append mt_append (pe_ix (ix_K K) (pv 2) (pe_un un_neg pe_int) (fun _ _ => rfl)) (pa_cons (pe_tup (pa_cons (pe_ix (ix_K K) (pv 1) (pe_call (ok__law_next (K := K) T) (hr.mono (by decide)) rfl T.G__law_next T.F__law_next.kp T.B__law_next .nil pass0 (pa_cons (pv 0) (pa_cons (pe_callB (call_lenK K) rfl T.N_len bt_len (pa_cons (pv 1) pa_nil)) pa_nil))) (fun _ _ => rfl)) (pa_cons (pe_call (ok__law_long (K := K) T) (hr.mono (by decide)) rfl T.G__law_long T.F__law_long.kp T.B__law_long .nil pass0 (pa_cons (pv 0) pa_nil)) pa_nil))) pa_nil))))⟩
    let w1_ : TS := u1_.1
    have e1_ : PSs (X_) (List.drop 1 (bodyOf (stAt (defBody s__law_blocks) 1))) w1_ := u1_.2
    let u2_ : PSV (X_) (List.drop 2 (defBody s__law_blocks)) := ⟨_, (pss_one (ps_ret (pe_callTy (call_tupleK K) rfl T.N_tuple bt_tuple (pa_cons (pe_cmp1 ["_law_feed_here", "_law_marks", "_law_blocks_here", "_law_k"] (defScope s__law_blocks) ["_law_block"] [none] (pi_seqK K (pv 2))
      (fun _ _ _ _ _ => (pg_name (i := 0) (show List.Nodup (["_law_block"] : List Str) from (by decide +kernel)) rfl (Or.inl rfl))) (fun _ _ _ _ _ => pts_nil) (fun _ _ _ _ _ => (pe_callTy (call_tupleK K) rfl T.N_tuple bt_tuple (pa_cons (pv 0) pa_nil)))) pa_nil))))⟩
    let w2_ : TS := u2_.1
    have e2_ : PSs (X_) (List.drop 2 (defBody s__law_blocks)) w2_ := u2_.2
    let u3_ : PSV (X_) (List.drop 1 (defBody s__law_blocks)) := ⟨_, (pss_cons (ps_for PassesOwn.never rfl (pi_range1 rfl T.N_range (pa_cons (pe_op (op_addU K) pe_int (pe_call (ok__law_next (K := K) T) (hr.mono (by decide)) rfl T.G__law_next T.F__law_next.kp T.B__law_next .nil pass0 (pa_cons (pv 0) (pa_cons pe_int pa_nil)))) pa_nil)) (pg_name (i := 3) sc__law_blocks.nd rfl (Or.inl rfl))
      (pss_cons (ps_mid (ps_if (PW.pt (pw_and (pt_cmpR op_gtG (pe_callB (call_lenK K) rfl T.N_len bt_len (pa_cons (pe_ix (ix_K K) (pv 2) (pe_un un_neg pe_int) (fun _ _ => rfl)) pa_nil)) pe_int (nomark _)) (pw_and1 (pt_cmpR (op_eqK K hr.units) (pe_call (ok__law_next (K := K) T) (hr.mono (by decide)) rfl T.G__law_next T.F__law_next.kp T.B__law_next .nil pass0 (pa_cons (pv 0) (pa_cons pe_int pa_nil))) pe_int (nomark _))))) (pss_one (ps_expr (pe_bmK K PySem.F.plainAttrs_list PySem.F.slot_list_append PySem.F.type_list_append mt_append (pv 2) (pa_cons (pe_lst pa_nil) pa_nil)))) pss_nil))
      e1_))
      e2_)⟩
    let w3_ : TS := u3_.1
    have e3_ : PSs (X_) (List.drop 1 (defBody s__law_blocks)) w3_ := u3_.2
    refine ⟨_, (pss_cons (ps_set (i := 2) sc__law_blocks.nd rfl (Or.inl rfl) (pe_lst (pa_cons (pe_lst pa_nil) pa_nil)))
      e3_), ?_⟩
    refine ⟨Nat.zero_le _, fun al hal => ⟨by show 1 ≤ sizeLine; decide, fun B hB => ?_⟩⟩
    have s1 : Same H (upd H al (.lst [])) := Same.new hal
    have s2 : Same (upd H al (.lst [])) (upd (upd H al (.lst [])) B (.lst [.ref al])) := Same.new hB
    have BH : H B = none := s1.free hB
    have alf : al ≠ f := hF.ne hal
    have Bf : B ≠ f := hF.ne BH
    have alB : al ≠ B := by
      have e : upd H al (.lst []) al = some (.lst []) := upd_same
      exact ne_of_none e hB
    have i0 : BInv K f a B ns ms H 0 [] al [] (upd (upd H al (.lst [])) B (.lst [.ref al])) :=
      ⟨upd_same, fun p hp => absurd hp (by simp), fun p hp => by
        have e : p = (al, []) := by simpa using hp
        subst e
        exact ⟨⟨[], s2 al _ upd_same, rfl⟩, alB, alf, hal⟩, fun b hb x hx => by
        have e : b = [] := by simpa using hb
        rw [e] at hx
        exact absurd hx (by simp), rfl, But.of_same (s1.trans s2), hF.same (s1.trans s2)⟩
    have hm1 : (upd (upd H al (.lst [])) B (.lst [.ref al])) m = some (.lst (ms.map V.str)) := s2 _ _ (s1 _ _ hm)
    generalize upd (upd H al (.lst [])) B (.lst [.ref al]) = H1 at i0 hm1
    refine ⟨_, rfl, f, a, ns, _, rfl, i0.fd, by decide, by decide, fun r2 H2 h0 h1 b2 F2 => ?_⟩
    walk_at "go"
    let Pv1_ : Nat → St → Hp → Prop := fun i σ H' => ∃ (ps : List (Addr × List Lay)) (al : Addr) (bl : List Lay) (o : Option V), σ = [some (.ref f), some (.ref m), some (.ref B), o] ∧ (0 < i → bl ≠ []) ∧ BInv K f a B ns ms H i ps al bl H'
    refine ⟨by omega, by omega, for_range Pv1_
      ⟨[], al, [], none, rfl, fun z => absurd z (by decide), i0.but Bf b2 F2⟩ ?_ ?_⟩
    · rintro i σ H3 hi ⟨ps, al, bl, o, rfl, hbl, I⟩
      have hi6 : i < 7 := by omega
      let M2_ : St → Hp → Prop := fun σ H' => ∃ (ps : List (Addr × List Lay)) (al : Addr) (bl : List Lay), σ = [some (.ref f), some (.ref m), some (.ref B), some (.int (0 + i))] ∧ BInv K f a B ns ms H i ps al bl H'
      refine ⟨M2_, ?_, ?_⟩
      · obtain ⟨⟨vs, hv, _⟩, _⟩ := I.last
        obtain ⟨hlen, _⟩ := I.last.1.len hv
        refine ⟨_, rfl, _, rfl, .inl ⟨B, _, _, _, rfl, rfl, SqL.of I.lst, I.at, _, _, rfl, .inl ⟨_, SqL.of hv, rfl⟩, _, _, rfl, rfl, _, rfl, ite2 (fun hc => ?_) (fun _ => ?_)⟩⟩
        · have hl0 : (0 : Int) < (vs.length : Nat) := of_decide_eq_true hc
          refine ⟨_, rfl, f, a, ns, _, rfl, I.fd, by decide, by decide, fun r4 H4 _ _ b4 F4 => ?_⟩
          have I4 := I.but Bf b4 F4
          walk_at "go"
          refine ite2 (fun _ => ?_) (fun _ => ?_)
          · have hp7 := I4.few
            refine ⟨_, rfl, .inl ⟨rfl, _, SqL.of I4.lst⟩, Nat.zero_le _, fun p hp => ?_⟩
            have pB : p ≠ B := (ne_of_none I4.lst hp).symm
            refine ⟨B, _, _, rfl, rfl, by rw [upd_ne pB.symm]; exact I4.lst, ?_, ?_⟩
            · rw [List.length_map, List.length_append]
              exact small1000 (show ps.length + 1 ≤ 1000 by omega)
            · exact ⟨_, p, [], rfl, I4.open Bf BH (fun z => by rw [z] at hlen; rw [hlen] at hl0; exact absurd hl0 (by decide)) hp⟩
          · exact ⟨ps, al, bl, rfl, I4⟩
        · exact iteF ⟨ps, al, bl, rfl, I⟩
      · rintro σ H4 ⟨ps, al, bl, rfl, I⟩
        have hm4 : H4 m = some (.lst (ms.map V.str)) := I.bt m _ hm hmf
        refine ⟨_, rfl, _, rfl, .inl ⟨B, _, _, _, rfl, rfl, SqL.of I.lst, I.at, ?_⟩⟩
        obtain ⟨⟨vs, hv, _⟩, _⟩ := I.last
        refine ⟨.inl ⟨rfl, _, SqL.of hv⟩, _, rfl, _, rfl, _, rfl, _, _, rfl, .inl ⟨_, SqL.of hm4, rfl⟩, ?_⟩
        have hml : ((ms.map V.str).length : Int) = ms.length := by rw [List.length_map]
        refine ⟨f, a, ns, _, rfl, I.fd, by omega, ?_, fun r5 H5 g0 g1 b5 F5 => ?_⟩
        · have e : (100 : Int) < 2 ^ 1000 := by decide
          omega
        obtain ⟨z, hz, ez⟩ := str_atI (xs := ms) g0 (by omega)
        have I5 := I.but Bf b5 F5
        refine .inl ⟨m, _, _, _, rfl, rfl, SqL.of (I5.bt m _ hm hmf), ez, ?_⟩
        refine ⟨_, rfl, f, a, ns, rfl, F5, fun r6 H6 k0 k1 b6 F6 => ?_⟩
        have I6 := I5.but Bf b6 F6
        refine ⟨by show 2 ≤ sizeLine; decide, fun p hp => ?_⟩
        have s7 : Same H6 (upd H6 p (.tup [.str z, .int r6])) := Same.new hp
        have I7 := I6.same Bf s7
        obtain ⟨⟨vs, hv, _⟩, _⟩ := I7.last
        refine ⟨al, vs, _, rfl, rfl, hv, ?_, ?_⟩
        · obtain ⟨hlen, _⟩ := I7.last.1.len hv
          have hn := I7.num
          rw [List.map_append, List.flatten_append, List.length_append] at hn
          simp only [List.map_cons, List.map_nil, List.flatten_cons, List.flatten_nil, List.append_nil] at hn
          exact small1000 (show vs.length ≤ 1000 by omega)
        · exact ⟨ps, al, bl ++ [(z, r6)], _, rfl, fun _ => by simp, I7.put Bf hv (x := (z, r6)) upd_same ⟨hz, k0, k1⟩⟩
    · rintro σ H3 ⟨ps, al, bl, o, rfl, hbl, I⟩
      have I6 := I.few
      refine ⟨_, rfl, Itl K B, .lst (SqL.of I.lst), fun D hD => ?_⟩
      have fin : ∀ b ∈ (ps ++ [(al, bl)]).map (·.2), b ≠ [] := by
        intro b hb
        rw [List.map_append] at hb
        rcases List.mem_append.mp hb with hb | hb
        · obtain ⟨p, hp, rfl⟩ := List.mem_map.mp hb
          exact (I.full p hp).1
        · have e : b = bl := by simpa using hb
          rw [e]; exact hbl (by omega)
      refine comp_lst (fun i ys H' => RepL K H' ((((ps ++ [(al, bl)]).map (·.2)).take i).map blkD) ys) (SqL.of I.lst) hD rfl ?_ ?_
      · intro i mm x ys H4 hx hi hmm s4 hy hl pv
        obtain ⟨p, hp, rfl⟩ : ∃ p, (ps ++ [(al, bl)])[i]? = some p ∧ V.ref p.1 = x := by
          rw [List.getElem?_map] at hx
          cases e : (ps ++ [(al, bl)])[i]? with
          | none => rw [e] at hx; cases hx
          | some p => rw [e] at hx; exact ⟨p, rfl, Option.some.inj hx⟩
        obtain ⟨bp, _⟩ := I.blk p (List.mem_of_getElem? hp)
        obtain ⟨vs, hv, rl⟩ := bp.same s4
        refine ⟨SubS.set (SubS.refl _) rfl, ⟨_, rfl, p.1, vs, rfl, .inl ⟨SqL.of hv, fun l hl4 => ?_⟩⟩⟩
        have s5 : Same H4 (upd H4 l (.tup vs)) := Same.new hl4
        refine wl_next hD hi hmm ?_ s4 hy hl s5 ?_
        · rw [List.length_map, List.length_append]
          exact small1000 (show ps.length + 1 ≤ 1000 by omega)
        · have e : ((ps ++ [(al, bl)]).map (·.2))[i]? = some p.2 := by rw [List.getElem?_map, hp]; rfl
          rw [List.take_add_one, e, List.map_append]
          have k2 : KeepT K (upd H4 l (.tup vs)) (upd (upd H4 l (.tup vs)) D (.lst (ys ++ [.ref l]))) := keepT_upd (s5 _ _ hy)
          refine RepL.append ((pv.same s5).keepT k2 (pureDs_map fun b _ => blkD_pure b)) (RepL.one ?_)
          exact Rep.keepT k2 (blkD_pure p.2) (rep_tup upd_same (rl.same s5))
      · intro ys H4 s4 hy hl pv
        refine ⟨D, ys, rfl, .inl ⟨SqL.of hy, fun l hl4 => ?_⟩⟩
        have s5 : Same H4 (upd H4 l (.tup ys)) := Same.new hl4
        have hlen : ((ps ++ [(al, bl)]).map fun p => V.ref p.1).length = ((ps ++ [(al, bl)]).map (·.2)).length := by rw [List.length_map, List.length_map]
        rw [List.take_of_length_le (Nat.le_of_eq hlen.symm)] at pv
        refine q _ ((ps ++ [(al, bl)]).map (·.2)) _ ⟨by simp, fin, I.lay, by rw [I.num]; omega⟩ (rep_tup upd_same (pv.same s5)) (I.bt.trans (But.of_same (s4.trans s5))) (I.fd.same (s4.trans s5))
end
structure Bor where
  name : Str
  place : Int
  top : Int
  blocks : List (List Lay)
abbrev Lik := Str × Str × Int
def borD (b : Bor) : PyData := .tuple [.str b.name, .int b.place, .int b.top, blksD b.blocks]
def likD (l : Lik) : PyData := .tuple [.str l.1, .str l.2.1, .int l.2.2]
def borsD (bs : List Bor) : PyData := .tuple (bs.map borD)
def liksD (ls : List Lik) : PyData := .tuple (ls.map likD)
def fldD (bs : List Bor) (ls : List Lik) : PyData := .tuple [borsD bs, liksD ls]
theorem borD_pure (b : Bor) : pureD (borD b) = true := by
  show (true && (true && (true && (pureD (blksD b.blocks) && true)))) = true
  rw [blksD_pure]
  rfl
theorem bors_pure (bs : List Bor) : pureDs (bs.map borD) = true := pureDs_map fun b _ => borD_pure b
structure BorOk (ms : List Str) (b : Bor) : Prop where
  name : Nm b.name
  p0 : 0 ≤ b.place
  p1 : b.place < 10 ^ 60
  t0 : 0 ≤ b.top
  t1 : b.top < 10 ^ 60
  blocks : BlksOk ms b.blocks
def SameP (a b : Str × Str) : Prop := (a.1 = b.1 ∧ a.2 = b.2) ∨ (a.1 = b.2 ∧ a.2 = b.1)
instance (a b : Str × Str) : Decidable (SameP a b) := by unfold SameP; infer_instance
theorem SameP.symm {a b : Str × Str} (h : SameP a b) : SameP b a := by
  rcases h with ⟨h1, h2⟩ | ⟨h1, h2⟩
  · exact .inl ⟨h1.symm, h2.symm⟩
  · exact .inr ⟨h2.symm, h1.symm⟩
theorem SameP.trans {a b c : Str × Str} (h : SameP a b) (g : SameP b c) : SameP a c := by
  rcases h with ⟨h1, h2⟩ | ⟨h1, h2⟩ <;> rcases g with ⟨g1, g2⟩ | ⟨g1, g2⟩
  · exact .inl ⟨h1.trans g1, h2.trans g2⟩
  · exact .inr ⟨h1.trans g1, h2.trans g2⟩
  · exact .inr ⟨h1.trans g2, h2.trans g1⟩
  · exact .inl ⟨h1.trans g2, h2.trans g1⟩
def lp (l : Lik) : Str × Str := (l.1, l.2.1)
structure LikOk (ms : List Str) (l : Lik) : Prop where
  one : l.1 ∈ ms
  other : l.2.1 ∈ ms
  lo : 1 ≤ l.2.2
  hi : l.2.2 ≤ 9
structure LiksOk (ms : List Str) (ls : List Lik) : Prop where
  each : ∀ l ∈ ls, LikOk ms l
  apart : ls.Pairwise fun a b => ¬ SameP (lp a) (lp b)
  few : ls.length ≤ 4
structure BorsOk (xs ms : List Str) (bs : List Bor) : Prop where
  each : ∀ b ∈ bs, BorOk ms b
  names : (bs.map (·.name)).Perm xs
  places : (bs.map (·.place)).Nodup
structure FldOk (ms : List Str) (bs : List Bor) (ls : List Lik) : Prop where
  each : ∀ b ∈ bs, BorOk ms b
  names : (bs.map (·.name)).Nodup
  places : (bs.map (·.place)).Nodup
  few : bs.length ≤ 6
  likes : LiksOk ms ls
  nm : ∀ x ∈ ms, Nm x
  mnd : ms.Nodup
  m0 : 0 < ms.length
  m1 : ms.length ≤ 12
def spBores (K : PySem.W.Frag) : Sp := fun vs H Q _ => ∃ (a l m : Addr) (ns : List Int) (xs ms : List Str), vs = [.ref a, .ref l, .ref m] ∧ Scr K H a ns ∧ H l = some (.lst (xs.map V.str)) ∧ H m = some (.lst (ms.map V.str)) ∧
  (∀ x ∈ xs, Nm x) ∧ xs.length ≤ 6 ∧ 0 < ms.length ∧ ms.length ≤ 12 ∧
  ∀ (p : Addr) (us : List V) (bs : List Bor) (H' : Hp), H p = none → H' p = some (.lst us) → RepL K H' (bs.map borD) us → BorsOk xs ms bs → Same H H' → Q (.ref p) H'
def spLikes (K : PySem.W.Frag) : Sp := fun vs H Q _ => ∃ (f a m : Addr) (ns : List Int) (ms : List Str), vs = [.ref f, .ref m] ∧ Fed K H f a ns ∧ H m = some (.lst (ms.map V.str)) ∧ m ≠ f ∧ (∀ x ∈ ms, Nm x) ∧ 0 < ms.length ∧ ms.length ≤ 12 ∧
  ∀ (p : Addr) (us : List V) (ls : List Lik) (H' : Hp), H p = none → p ≠ f → H' p = some (.lst us) → RepL K H' (ls.map likD) us → LiksOk ms ls → But f H H' → Fed K H' f a ns → Q (.ref p) H'
def spField (K : PySem.W.Frag) : Sp := fun vs H Q _ => ∃ (a : Addr) (ns : List Int), vs = [.ref a] ∧ Scr K H a ns ∧
  ∀ (v : V) (ms : List Str) (bs : List Bor) (ls : List Lik) (H' : Hp), FldOk ms bs ls → Rep K H' (fldD bs ls) v → Same H H' → Q v H'
section
variable {P : Program} {w : World} {K : PySem.W.Frag} {mg : Str → Option Value} {base : Heap} {t : Adr}
theorem ok__law_bores (T : Txt K mg t) : FnOk P w K mg base CX0 6 t.a__law_bores t.d__law_bores ["_law_script", "_law_names_here", "_law_marks"] (spBores K) := by
  refine T.F__law_bores.ok sc__law_bores (fun vs H Q E h => ?_) (fun cdv A outer s H vs Q E hr h => ?_)
  · obtain ⟨a, l, m, ns, xs, ms, rfl, _⟩ := h; rfl
  · obtain ⟨a, l, m, ns, xs, ms, rfl, hs, hl, hm, hnm, hx6, hm0, hm1, q⟩ := h
    let X_ : Cx := (cxOf CX0 P w K mg base ["_law_script", "_law_names_here", "_law_marks", "_law_holes", "_law_spot", "_law_k", "_law_feed_here", "_law_bore"] "_law_bores" (defScope s__law_bores) t.a__law_bores cdv A outer s H E).nox
    let u1_ : PSV (X_) (List.drop 3 (bodyOf (stAt (defBody s__law_bores) 2))) := ⟨_, (pss_one (ps_expr (pe_bmK K PySem.F.plainAttrs_list PySem.F.slot_list_insert PySem.F.type_list_insert mt_insert (pv 3) (pa_cons (pe_call (ok__law_next (K := K) T) (hr.mono (by decide)) rfl T.G__law_next T.F__law_next.kp T.B__law_next .nil pass0 (pa_cons (pv 6) (pa_cons (pe_op (op_addU K) (pe_callB (call_lenK K) rfl T.N_len bt_len (pa_cons (pv 3) pa_nil)) pe_int) pa_nil))) (pa_cons (pv 7) pa_nil)))))⟩
    let w1_ : TS := u1_.1
    have e1_ : PSs (X_) (List.drop 3 (bodyOf (stAt (defBody s__law_bores) 2))) w1_ := u1_.2
    let u2_ : PSV (X_) (List.drop 2 (bodyOf (stAt (defBody s__law_bores) 2))) := ⟨_, (pss_cons (ps_set (i := 7) sc__law_bores.nd rfl (Or.inl rfl) (pe_tup (pa_cons (pe_ix (ix_K K) (pv 1) (pv 5) (fun _ _ => rfl)) (pa_cons (pv 4) (pa_cons (pe_op op_sub (pe_call (ok__law_long (K := K) T) (hr.mono (by decide)) rfl T.G__law_long T.F__law_long.kp T.B__law_long .nil pass0 (pa_cons (pv 6) pa_nil)) pe_int) (pa_cons (pe_call (ok__law_blocks (K := K) T) (hr.mono (by decide)) rfl T.G__law_blocks T.F__law_blocks.kp T.B__law_blocks .nil pass0 (pa_cons (pv 6) (pa_cons (pv 2) pa_nil))) pa_nil))))))
      e1_)⟩
    let w2_ : TS := u2_.1
    have e2_ : PSs (X_) (List.drop 2 (bodyOf (stAt (defBody s__law_bores) 2))) w2_ := u2_.2
    let u3_ : PSV (X_) (List.drop 1 (bodyOf (stAt (defBody s__law_bores) 2))) := ⟨_, (pss_cons (ps_set (i := 4) sc__law_bores.nd rfl (Or.inl rfl) (pe_op (op_addU K) (pv 4) (pe_call (ok__law_long (K := K) T) (hr.mono (by decide)) rfl T.G__law_long T.F__law_long.kp T.B__law_long .nil pass0 (pa_cons (pv 6) pa_nil))))
      e2_)⟩
    let w3_ : TS := u3_.1
    have e3_ : PSs (X_) (List.drop 1 (bodyOf (stAt (defBody s__law_bores) 2))) w3_ := u3_.2
    let u4_ : PSV (X_) (List.drop 3 (defBody s__law_bores)) := ⟨_, (pss_one (ps_ret (pv 3)))⟩
    let w4_ : TS := u4_.1
    have e4_ : PSs (X_) (List.drop 3 (defBody s__law_bores)) w4_ := u4_.2
    let u5_ : PSV (X_) (List.drop 2 (defBody s__law_bores)) := ⟨_, (pss_cons (ps_for PassesOwn.never rfl (pi_range1 rfl T.N_range (pa_cons (pe_callB (call_lenK K) rfl T.N_len bt_len (pa_cons (pv 1) pa_nil)) pa_nil)) (pg_name (i := 5) sc__law_bores.nd rfl (Or.inl rfl))
      (pss_cons (ps_set (i := 6) sc__law_bores.nd rfl (Or.inl rfl) (pe_call (ok__law_feed (K := K) T) (hr.mono (by decide)) rfl T.G__law_feed T.F__law_feed.kp T.B__law_feed .nil pass0 (pa_cons (pv 0) (pa_cons (pe_op (op_addU K) pe_int (pv 5)) pa_nil))))
      e3_))
      e4_)⟩
    let w5_ : TS := u5_.1
    have e5_ : PSs (X_) (List.drop 2 (defBody s__law_bores)) w5_ := u5_.2
    let u6_ : PSV (X_) (List.drop 1 (defBody s__law_bores)) := ⟨_, (pss_cons (ps_set (i := 4) sc__law_bores.nd rfl (Or.inl rfl) (pe_un un_neg pe_int))
      e5_)⟩
    let w6_ : TS := u6_.1
    have e6_ : PSs (X_) (List.drop 1 (defBody s__law_bores)) w6_ := u6_.2
    refine ⟨_, (pss_cons (ps_set (i := 3) sc__law_bores.nd rfl (Or.inl rfl) (pe_lst pa_nil))
      e6_), ?_⟩
    refine ⟨Nat.zero_le _, fun p hp => ?_⟩
    have s1 : Same H (upd H p (.lst [])) := Same.new hp
    refine ⟨_, rfl, _, rfl, _, _, rfl, .inl ⟨_, SqL.of (s1 _ _ hl), rfl⟩, _, rfl, ?_⟩
    have hxl : ((xs.map V.str).length : Int) = xs.length := by rw [List.length_map]
    let Pv1_ : Nat → St → Hp → Prop := fun i σ H' => ∃ (us : List V) (bs : List Bor) (sp : Int) (o5 o6 o7 : Option V), σ = [some (.ref a), some (.ref l), some (.ref m), some (.ref p), some (.int sp), o5, o6, o7] ∧ H' p = some (.lst us) ∧
        RepL K H' (bs.map borD) us ∧ (∀ b ∈ bs, BorOk ms b ∧ b.place ≤ sp) ∧ (bs.map (·.name)).Perm (xs.take i) ∧ (bs.map (·.place)).Nodup ∧ bs.length = i ∧ -1 ≤ sp ∧ sp ≤ i * 10 ^ 59 - 1 ∧ Same H H'
    refine ⟨by omega, by omega, for_range Pv1_
      ⟨[], [], -1, _, _, _, rfl, upd_same, rfl, fun b hb => absurd hb (by simp), by simp, by simp, rfl, by decide, by decide, s1⟩ ?_ ?_⟩
    · rintro i σ H1 hi ⟨us, bs, sp, o5, o6, o7, rfl, hp1, rl, ok, hn, hd, hlen, hsp0, hsp1, s01⟩
      have hi6 : i < 6 := by omega
      have hix : i < xs.length := by omega
      refine ⟨_, rfl, _, rfl, .inl ⟨_, _, rfl, rfl, ?_⟩⟩
      refine ⟨a, ns, _, rfl, hs.same s01, by omega, by omega, fun f H2 hf s12 F2 => ?_⟩
      have fH : H f = none := s01.free hf
      refine ⟨_, rfl, _, rfl, f, a, ns, rfl, F2, fun r3 H3 h30 h31 b3 F3 => ?_⟩
      refine .inl ⟨_, _, rfl, rfl, ?_⟩
      have s03 : Same H H3 := (s01.trans s12).but fH b3
      have hxi : atI (xs.map V.str) (0 + (i : Int)) = some (.str xs[i]) := by
        rw [Int.zero_add]
        exact atI_nat (by rw [List.getElem?_map, List.getElem?_eq_getElem hix]; rfl)
      refine ⟨_, rfl, _, rfl, .inl ⟨l, _, _, _, rfl, rfl, SqL.of (s03 _ _ hl), hxi, ?_⟩⟩
      refine ⟨_, rfl, _, rfl, f, a, ns, rfl, F3, fun r4 H4 h40 h41 b4 F4 => ?_⟩
      refine ⟨_, _, rfl, rfl, ?_⟩
      have s04 : Same H H4 := s03.but fH b4
      have mf : m ≠ f := ne_of_none hm fH
      refine ⟨_, rfl, _, rfl, f, a, m, ns, ms, rfl, F4, s04 _ _ hm, mf, hm0, by omega, fun v bl H5 hbl rep b5 F5 => ?_⟩
      have s05 : Same H H5 := s04.but fH b5
      refine ⟨by show 4 ≤ sizeLine; decide, fun z hz => ?_⟩
      have s56 : Same H5 (upd H5 z (.tup [.str xs[i], .int (sp + r3), .int (r4 - 1), v])) := Same.new hz
      have hz6 : (upd H5 z (.tup [.str xs[i], .int (sp + r3), .int (r4 - 1), v])) z = some (.tup [.str xs[i], .int (sp + r3), .int (r4 - 1), v]) := upd_same
      have F6 := F5.same s56
      have rep6 := rep.same s56
      have p25 : p ≠ f := ne_of_none hp1 hf
      have hp5 : H5 p = some (.lst us) := b5 _ _ (b4 _ _ (b3 _ _ (s12 _ _ hp1) p25) p25) p25
      have rl5 : RepL K H5 (bs.map borD) us := (((rl.same s12).keepT (F2.keepT b3) (bors_pure bs)).keepT (F3.keepT b4) (bors_pure bs)).keepT (F4.keepT b5) (bors_pure bs)
      have rl6 := rl5.same s56
      have hp6 := s56 _ _ hp5
      have s06 := s05.trans s56
      generalize upd H5 z (.tup [.str xs[i], .int (sp + r3), .int (r4 - 1), v]) = H6 at s56 hz6 F6 rep6 rl6 hp6 s06
      have hul : us.length = i := by rw [rl.length, List.length_map, hlen]
      refine ⟨_, rfl, .inl ⟨rfl, _, SqL.of hp6⟩, _, rfl, _, rfl, _, _, rfl, .inl ⟨_, SqL.of hp6, rfl⟩, .inl ⟨_, _, rfl, rfl, ?_⟩⟩
      refine ⟨f, a, ns, _, rfl, F6, by omega, ?_, fun r7 H7 g0 g1 b7 F7 => ?_⟩
      · have e : (100 : Int) < 2 ^ 1000 := by decide
        omega
      have s07 : Same H H7 := s06.but fH b7
      have hp7 : H7 p = some (.lst us) := b7 _ _ hp6 p25
      refine ⟨_, rfl, p, us, r7, _, rfl, rfl, hp7, g0, by omega, small1000 (by omega), ?_⟩
      have kt : KeepT K H6 H7 := F6.keepT b7
      have ku : KeepT K H7 (upd H7 p (.lst (us.take r7.toNat ++ .ref z :: us.drop r7.toNat))) := keepT_upd hp7
      have rl7 := (rl6.keepT kt (bors_pure bs)).keepT ku (bors_pure bs)
      have repz : Rep K (upd H7 p (.lst (us.take r7.toNat ++ .ref z :: us.drop r7.toNat))) (borD ⟨xs[i], sp + r3, r4 - 1, bl⟩) (.ref z) := by
        have h1 : Rep K H6 (borD ⟨xs[i], sp + r3, r4 - 1, bl⟩) (.ref z) := rep_tup hz6 ⟨_, _, rfl, rfl, _, _, rfl, rfl, _, _, rfl, rfl, _, _, rfl, rep6, rfl⟩
        exact (h1.keepT kt (borD_pure _)).keepT ku (borD_pure _)
      have i59 : ((i : Int) + 1) * 10 ^ 59 = i * 10 ^ 59 + 10 ^ 59 := by rw [Int.add_mul, Int.one_mul]
      have i60 : (i : Int) * 10 ^ 59 ≤ 5 * 10 ^ 59 := Int.mul_le_mul_of_nonneg_right (by omega) (by decide)
      have e60 : (10 : Int) ^ 60 = 10 * 10 ^ 59 := by decide
      have p59 : (0 : Int) < 10 ^ 59 := by decide
      refine ⟨_, insAt bs r7.toNat ⟨xs[i], sp + r3, r4 - 1, bl⟩, sp + r3, _, _, _, rfl, upd_same, ?_, ?_, ?_, ?_, ?_, ?_, ?_, ?_⟩
      · rw [← insAt_map]
        exact RepL.append (by rw [← List.map_take] at *; rw [List.map_take]; exact rl7.take _) ⟨_, _, rfl, repz, rl7.drop _⟩
      · intro b hb
        rcases insAt_mem.mp hb with rfl | hb
        · exact ⟨⟨hnm _ (List.getElem_mem hix), by show 0 ≤ sp + r3; omega, by show sp + r3 < _; omega, by show 0 ≤ r4 - 1; omega, by show r4 - 1 < _; omega, hbl⟩, Int.le_refl _⟩
        · obtain ⟨h1, h2⟩ := ok b hb
          exact ⟨h1, by omega⟩
      · refine ((insAt_perm _ _ _).map _).trans ?_
        rw [List.take_add_one, List.getElem?_eq_getElem hix, List.map_cons]
        exact (hn.cons _).trans (List.perm_append_comm (l₁ := [xs[i]]))
      · refine ((insAt_perm _ _ _).map _).nodup_iff.mpr ?_
        rw [List.map_cons]
        refine List.nodup_cons.mpr ⟨fun hmem => ?_, hd⟩
        obtain ⟨b, hb, e⟩ := List.mem_map.mp hmem
        have := (ok b hb).2
        have e' : b.place = sp + r3 := e
        omega
      · rw [insAt_len, hlen]
      · omega
      · push_cast
        omega
      · exact s07.upd hp
    · rintro σ H1 ⟨us, bs, sp, o5, o6, o7, rfl, hp1, rl, ok, hn, hd, hlen, _, _, s01⟩
      rw [List.take_of_length_le (by omega)] at hn
      exact ⟨_, rfl, q p us bs H1 hp hp1 rl ⟨fun b hb => (ok b hb).1, hn, hd⟩ s01⟩
end
theorem kit_int_int {K : PySem.W.Frag} : PySem.W.kitOne K (.type "int") (.type "int") = some true := rfl
theorem kit_int_bool {K : PySem.W.Frag} : PySem.W.kitOne K (.type "int") (.type "bool") = some false := rfl
theorem kit_tuple_tuple {K : PySem.W.Frag} : PySem.W.kitOne K (.type "tuple") (.type "tuple") = some true := rfl
theorem rep_bor {K : PySem.W.Frag} {H : Hp} {b : Bor} {v : V} (h : Rep K H (borD b) v) : ∃ a vb, v = .ref a ∧ SqT K H a [.str b.name, .int b.place, .int b.top, vb] ∧ Rep K H (blksD b.blocks) vb := by
  obtain ⟨a, xs, rfl, h1, h2⟩ := h
  obtain ⟨_, _, rfl, rfl, h2⟩ := h2
  obtain ⟨_, _, rfl, rfl, h2⟩ := h2
  obtain ⟨_, _, rfl, rfl, h2⟩ := h2
  obtain ⟨vb, _, rfl, r, h2⟩ := h2
  cases h2
  exact ⟨a, vb, rfl, h1, r⟩
theorem rep_lay {K : PySem.W.Frag} {H : Hp} {x : Lay} {v : V} (h : Rep K H (layD x) v) : ∃ a, v = .ref a ∧ SqT K H a [.str x.1, .int x.2] := by
  obtain ⟨a, xs, rfl, h1, h2⟩ := h
  obtain ⟨_, _, rfl, rfl, h2⟩ := h2
  obtain ⟨_, _, rfl, rfl, h2⟩ := h2
  cases h2
  exact ⟨a, rfl, h1⟩
theorem repl_at {K : PySem.W.Frag} {H : Hp} {α : Type} {g : α → PyData} {xs : List α} {us : List V} {i : Nat} {u : V} (rl : RepL K H (xs.map g) us) (h : us[i]? = some u) : ∃ x, xs[i]? = some x ∧ Rep K H (g x) u := by
  obtain ⟨d, hd, ru⟩ := rl.at_ h
  rw [List.getElem?_map] at hd
  cases e : xs[i]? with
  | none => rw [e] at hd; cases hd
  | some l =>
    rw [e] at hd
    have e2 : g l = d := Option.some.inj hd
    exact ⟨l, rfl, e2 ▸ ru⟩
theorem repl_len {K : PySem.W.Frag} {H : Hp} {α : Type} {g : α → PyData} {xs : List α} {us : List V} (rl : RepL K H (xs.map g) us) : us.length = xs.length := by rw [rl.length, List.length_map]
theorem take_flat {α : Type} {xs : List (List α)} {i : Nat} {x : List α} (h : xs[i]? = some x) : (xs.take (i + 1)).flatten = (xs.take i).flatten ++ x := by
  rw [List.take_add_one, h, List.flatten_append]
  simp
theorem flat_take_le {α : Type} (xs : List (List α)) (i : Nat) : (xs.take i).flatten.length ≤ xs.flatten.length := by
  have e : xs.flatten = (xs.take i).flatten ++ (xs.drop i).flatten := by rw [← List.flatten_append, List.take_append_drop]
  rw [e, List.length_append]
  omega
def lays (b : Bor) : List Lay := b.blocks.flatten
abbrev Pr := Int × Int
def prD (p : Pr) : PyData := .tuple [.int p.1, .int p.2]
theorem prs_pure (ps : List Pr) : pureDs (ps.map prD) = true := pureDs_map fun _ _ => rfl
theorem rep_pr {K : PySem.W.Frag} {H : Hp} {x : Pr} {v : V} (h : Rep K H (prD x) v) : ∃ a, v = .ref a ∧ SqT K H a [.int x.1, .int x.2] := by
  obtain ⟨a, xs, rfl, h1, h2⟩ := h
  obtain ⟨_, _, rfl, rfl, h2⟩ := h2
  obtain ⟨_, _, rfl, rfl, h2⟩ := h2
  cases h2
  exact ⟨a, rfl, h1⟩
structure PrsOk (n m : Nat) (ps : List Pr) : Prop where
  rise : ps.Pairwise fun p q => p.1 < q.1 ∧ p.2 < q.2
  each : ∀ p ∈ ps, 0 ≤ p.1 ∧ p.1 < n ∧ 0 ≤ p.2 ∧ p.2 < m
  few : ps.length ≤ 6
structure TwoOk (ms : List Str) (bl br : Bor) (ps : List Pr) (place : Int) : Prop where
  okl : BorOk ms bl
  okr : BorOk ms br
  lt : bl.place < br.place
  p0 : bl.place ≤ place
  p1 : place ≤ br.place
  prs : PrsOk (lays bl).length (lays br).length ps
  nm : ∀ x ∈ ms, Nm x
def spLLayers (K : PySem.W.Frag) : Sp := fun vs H Q _ => ∃ (v : V) (b : Bor) (ms : List Str), vs = [v] ∧ Rep K H (borD b) v ∧ BlksOk ms b.blocks ∧ ∀ (p : Addr) (us : List V) (H' : Hp), H p = none → H' p = some (.lst us) → RepL K H' ((lays b).map layD) us → Same H H' → Q (.ref p) H'
def spTwo (K : PySem.W.Frag) : Sp := fun vs H Q _ => ∃ (a : Addr) (ns : List Int), vs = [.ref a] ∧ Scr K H a ns ∧
  ∀ (z : Addr) (vl vr : V) (pp : Addr) (bl br : Bor) (ms : List Str) (us : List V) (ps : List Pr) (place : Int) (H' : Hp), SqT K H' z [vl, vr, .ref pp, .int place] → H pp = none → H' pp = some (.lst us) → RepL K H' (ps.map prD) us →
    Rep K H' (borD bl) vl → Rep K H' (borD br) vr → TwoOk ms bl br ps place → Same H H' → Q (.ref z) H'
structure PrsIn (n m : Nat) (i j : Int) (k : Nat) (ps : List Pr) : Prop where
  rise : ps.Pairwise fun p q => p.1 < q.1 ∧ p.2 < q.2
  each : ∀ p ∈ ps, 0 ≤ p.1 ∧ p.1 < n ∧ 0 ≤ p.2 ∧ p.2 < m ∧ p.1 ≤ i ∧ p.2 ≤ j
  few : ps.length ≤ k
theorem PrsIn.on {n m : Nat} {i j i' j' : Int} {k : Nat} {ps : List Pr} (h : PrsIn n m i j k ps) (hi : i ≤ i') (hj : j ≤ j') : PrsIn n m i' j' (k + 1) ps :=
  ⟨h.rise, fun p hp => by obtain ⟨a, b, c, d, e, f⟩ := h.each p hp; exact ⟨a, b, c, d, by omega, by omega⟩, Nat.le_succ_of_le h.few⟩
theorem PrsIn.put {n m : Nat} {i j i' j' : Int} {k : Nat} {ps : List Pr} (h : PrsIn n m i j k ps) (hi : i < i') (hj : j < j') (h0 : 0 ≤ i') (h1 : 0 ≤ j') (hn : i' < n) (hm : j' < m) : PrsIn n m i' j' (k + 1) (ps ++ [(i', j')]) := by
  refine ⟨?_, fun p hp => ?_, by rw [List.length_append]; exact Nat.succ_le_succ h.few⟩
  · refine List.pairwise_append.mpr ⟨h.rise, List.pairwise_singleton _ _, fun p hp q hq => ?_⟩
    have e : q = (i', j') := by simpa using hq
    subst e
    obtain ⟨a, b, c, d, e, f⟩ := h.each p hp
    exact ⟨by show p.1 < i'; omega, by show p.2 < j'; omega⟩
  · rcases List.mem_append.mp hp with hp | hp
    · obtain ⟨a, b, c, d, e, f⟩ := h.each p hp
      exact ⟨a, b, c, d, by omega, by omega⟩
    · have e : p = (i', j') := by simpa using hp
      subst e
      exact ⟨h0, hn, h1, hm, Int.le_refl _, Int.le_refl _⟩
theorem two_of {K : PySem.W.Frag} {H : Hp} {ms : List Str} {bs : List Bor} {us : List V} {b0 b1 : Bor} {u0 u1 : V} (ok : ∀ b ∈ bs, BorOk ms b) (hp : (bs.map (·.place)).Nodup) (eb : bs = [b0, b1]) (eu : us = [u0, u1]) (r0 : Rep K H (borD b0) u0) (r1 : Rep K H (borD b1) u1) :
    ∃ (L R : Bor) (uL uR : V), Rep K H (borD L) uL ∧ Rep K H (borD R) uR ∧ BorOk ms L ∧ BorOk ms R ∧ L.place < R.place ∧ atI us (if decide (b1.place < b0.place) = true then 1 else 0) = some uL ∧ atI us (if decide (b0.place < b1.place) = true then 1 else 0) = some uR := by
  subst eb
  subst eu
  have ne : b0.place ≠ b1.place := by simpa using hp
  have o0 := ok b0 (by simp)
  have o1 := ok b1 (by simp)
  by_cases h : b1.place < b0.place
  · exact ⟨b1, b0, u1, u0, r1, r0, o1, o0, h, by rw [decide_eq_true h]; rfl, by rw [decide_eq_false (show ¬ b0.place < b1.place by omega)]; rfl⟩
  · exact ⟨b0, b1, u0, u1, r0, r1, o0, o1, by omega, by rw [decide_eq_false h]; rfl, by rw [decide_eq_true (show b0.place < b1.place by omega)]; rfl⟩
theorem ab_nm : ∀ x ∈ (["a", "b"] : List Str), 1 ≤ x.length ∧ x.length ≤ 8 ∧ ∀ c ∈ x.cps.toList, 97 ≤ c ∧ c ≤ 122 := by decide +kernel
theorem len2 {α : Type} {xs : List α} (h : xs.length = 2) : ∃ a b, xs = [a, b] := by
  match xs, h with
  | [a, b], _ => exact ⟨a, b, rfl⟩
section
variable {P : Program} {w : World} {K : PySem.W.Frag} {mg : Str → Option Value} {base : Heap} {t : Adr}
theorem ok__law_layers (T : Txt K mg t) : FnOk P w K mg base CX0 1 t.a__law_layers t.d__law_layers ["_law_bore"] (spLLayers K) := by
  refine T.F__law_layers.ok sc__law_layers (fun vs H Q E h => ?_) (fun cdv A outer s H vs Q E hr h => ?_)
  · obtain ⟨v, b, ms, rfl, _⟩ := h; rfl
  · obtain ⟨v, b, ms, rfl, rep, ok, q⟩ := h
    let X_ : Cx := (cxOf CX0 P w K mg base ["_law_bore", "_law_layers_here", "_law_block"] "_law_layers" (defScope s__law_layers) t.a__law_layers cdv A outer s H E).nox
    let u1_ : PSV (X_) (List.drop 2 (defBody s__law_layers)) := ⟨_, (pss_one (ps_ret (pv 1)))⟩
    let w1_ : TS := u1_.1
    have e1_ : PSs (X_) (List.drop 2 (defBody s__law_layers)) w1_ := u1_.2
    let u2_ : PSV (X_) (List.drop 1 (defBody s__law_layers)) := ⟨_, (pss_cons (ps_for PassesOwn.never rfl (pi_seqK K (pe_ix (ix_K K) (pv 0) pe_int (fun _ _ => rfl))) (pg_name (i := 2) sc__law_layers.nd rfl (Or.inl rfl))
      (pss_one (ps_set (i := 1) sc__law_layers.nd rfl (Or.inl rfl) (pe_op (op_addU K) (pv 1) (pe_callTy (call_listK K) rfl T.N_list bt_list (pa_cons (pv 2) pa_nil))))))
      e1_)⟩
    let w2_ : TS := u2_.1
    have e2_ : PSs (X_) (List.drop 1 (defBody s__law_layers)) w2_ := u2_.2
    refine ⟨_, (pss_cons (ps_set (i := 1) sc__law_layers.nd rfl (Or.inl rfl) (pe_lst pa_nil))
      e2_), ?_⟩
    obtain ⟨a, vb, rfl, hq, av, ub, rfl, hqb, rlb⟩ := rep_bor rep
    have hub := repl_len rlb
    refine ⟨Nat.zero_le _, fun p hp => ?_⟩
    have s1 : Same H (upd H p (.lst [])) := Same.new hp
    let Pv1_ : Nat → St → Hp → Prop := fun i σ H' => ∃ (p : Addr) (us : List V) (o : Option V), σ = [some (.ref a), some (.ref p), o] ∧ H p = none ∧ H' p = some (.lst us) ∧ RepL K H' ((b.blocks.take i).flatten.map layD) us ∧ Same H H'
    refine ⟨_, rfl, .inr (.inl ⟨a, _, _, _, rfl, rfl, s1.seqT hq, rfl, Itt K av, .tup (s1.seqT hqb), for_tup (xs := ub) Pv1_
      ⟨p, [], none, rfl, hp, upd_same, rfl, s1⟩ (fun i σ H' _ h => by obtain ⟨_, _, _, _, _, _, _, s⟩ := h; exact s.seqT hqb) ?_ ?_⟩)⟩
    · rintro i u σ H1 hu1 ⟨p, us, o, rfl, hp, hp1, rl1, s01⟩
      obtain ⟨bl, hbl, au, vs, rfl, hqu, rlu⟩ := repl_at rlb hu1
      have hus : us.length = (b.blocks.take i).flatten.length := repl_len rl1
      have hvs : vs.length = bl.length := repl_len rlu
      have h6 : (b.blocks.take (i + 1)).flatten.length ≤ 6 := Nat.le_trans (flat_take_le _ _) ok.few
      rw [take_flat hbl, List.length_append] at h6
      refine ⟨_, rfl, _, rfl, au, vs, rfl, .inr (s01.seqT hqu), fun l hl => ?_⟩
      have s2 : Same H1 (upd H1 l (.lst vs)) := Same.new hl
      refine .inr (.inr (.inl ⟨p, l, us, vs, rfl, rfl, s2 _ _ hp1, upd_same, small8 (by omega), fun z hz => ?_⟩))
      have s3 := s2.trans (Same.new (o := .lst (us ++ vs)) hz)
      refine ⟨z, us ++ vs, _, rfl, s01.free (s2.free hz), upd_same, ?_, s01.trans s3⟩
      rw [take_flat hbl, List.map_append]
      exact RepL.append (rl1.same s3) (rlu.same (s01.trans s3))
    · rintro σ H1 ⟨p, us, o, rfl, hp, hp1, rl1, s01⟩
      rw [hub, List.take_length] at rl1
      exact ⟨_, rfl, q p us H1 hp hp1 rl1 s01⟩
theorem ok__law_two (T : Txt K mg t) : FnOk P w K mg base CX0 7 t.a__law_two t.d__law_two ["_law_script"] (spTwo K) := by
  refine T.F__law_two.ok sc__law_two (fun vs H Q E h => ?_) (fun cdv A outer s H vs Q E hr h => ?_)
  · obtain ⟨a, ns, rfl, _⟩ := h; rfl
  · obtain ⟨a, ns, rfl, hs, q⟩ := h
    let X_ : Cx := (cxOf CX0 P w K mg base ["_law_script", "_law_feed_here", "_law_marks", "_law_holes", "_law_left", "_law_right", "_law_pairs", "_law_one", "_law_other", "_law_k", "_law_there", "_law_wide", "_law_far"] "_law_two" (defScope s__law_two) t.a__law_two cdv A outer s H E).nox
    let u1_ : PSV (X_) (List.drop 11 (defBody s__law_two)) := ⟨_, (pss_one (ps_ret (pe_tup (pa_cons (pv 4) (pa_cons (pv 5) (pa_cons (pv 6) (pa_cons (pe_op (op_addU K) (pe_ix (ix_K K) (pv 4) pe_int (fun _ _ => rfl)) (pe_op op_mod (pv 12) (pe_op (op_addU K) (pv 11) pe_int))) pa_nil)))))))⟩
    let w1_ : TS := u1_.1
    have e1_ : PSs (X_) (List.drop 11 (defBody s__law_two)) w1_ := u1_.2
    let u2_ : PSV (X_) (List.drop 10 (defBody s__law_two)) := ⟨_, (pss_cons (ps_set (i := 12) sc__law_two.nd rfl (Or.inl rfl) (pe_ix (ix_K K) (pe_lst (pa_cons pe_int (pa_cons (pv 11) (pa_cons (pe_call (ok__law_great (K := K) T) (hr.mono (by decide)) rfl T.G__law_great T.F__law_great.kp T.B__law_great .nil pass0 (pa_cons (pv 1) pa_nil)) (pa_cons (pe_call (ok__law_next (K := K) T) (hr.mono (by decide)) rfl T.G__law_next T.F__law_next.kp T.B__law_next .nil pass0 (pa_cons (pv 1) (pa_cons pe_int pa_nil))) pa_nil))))) (pe_call (ok__law_next (K := K) T) (hr.mono (by decide)) rfl T.G__law_next T.F__law_next.kp T.B__law_next .nil pass0 (pa_cons (pv 1) (pa_cons pe_int pa_nil))) (fun _ _ => rfl)))
      e1_)⟩
    let w2_ : TS := u2_.1
    have e2_ : PSs (X_) (List.drop 10 (defBody s__law_two)) w2_ := u2_.2
    let u3_ : PSV (X_) (List.drop 3 (bodyOf (stAt (defBody s__law_two) 8))) := ⟨_, (pss_one (ps_if (PW.pt (pw_and (pt_truthK K (pv 10) (fun _ => rfl)) (pw_and1 (pt_cmpR op_gtG (pe_call (ok__law_next (K := K) T) (hr.mono (by decide)) rfl T.G__law_next T.F__law_next.kp T.B__law_next .nil pass0 (pa_cons (pv 1) (pa_cons pe_int pa_nil))) pe_int (nomark _))))) (pss_one (ps_expr (pe_bmK K PySem.F.plainAttrs_list PySem.F.slot_list_append PySem.F.type_list_append mt_append (pv 6) (pa_cons (pe_tup (pa_cons (pv 7) (pa_cons (pv 8) pa_nil))) pa_nil)))) pss_nil))⟩
    let w3_ : TS := u3_.1
    have e3_ : PSs (X_) (List.drop 3 (bodyOf (stAt (defBody s__law_two) 8))) w3_ := u3_.2
    let u4_ : PSV (X_) (List.drop 2 (bodyOf (stAt (defBody s__law_two) 8))) := ⟨_, (pss_cons (ps_mid (ps_set (i := 10) sc__law_two.nd rfl (Or.inl rfl) (pe_and (pe_cmpR op_ltG (pv 7) (pe_callB (call_lenK K) rfl T.N_len bt_len (pa_cons (pe_call (ok__law_layers (K := K) T) (hr.mono (by decide)) rfl T.G__law_layers T.F__law_layers.kp T.B__law_layers .nil pass0 (pa_cons (pv 4) pa_nil)) pa_nil)) (nomark _)) (pe_one (pe_cmpR op_ltG (pv 8) (pe_callB (call_lenK K) rfl T.N_len bt_len (pa_cons (pe_call (ok__law_layers (K := K) T) (hr.mono (by decide)) rfl T.G__law_layers T.F__law_layers.kp T.B__law_layers .nil pass0 (pa_cons (pv 5) pa_nil)) pa_nil)) (nomark _))))))
      e3_)⟩
    let w4_ : TS := u4_.1
    have e4_ : PSs (X_) (List.drop 2 (bodyOf (stAt (defBody s__law_two) 8))) w4_ := u4_.2
    let u5_ : PSV (X_) (List.drop 1 (bodyOf (stAt (defBody s__law_two) 8))) := ⟨_, (pss_cons (ps_set (i := 8) sc__law_two.nd rfl (Or.inl rfl) (pe_op (op_addU K) (pe_op (op_addU K) (pv 8) pe_int) (pe_call (ok__law_next (K := K) T) (hr.mono (by decide)) rfl T.G__law_next T.F__law_next.kp T.B__law_next .nil pass0 (pa_cons (pv 1) (pa_cons pe_int pa_nil)))))
      e4_)⟩
    let w5_ : TS := u5_.1
    have e5_ : PSs (X_) (List.drop 1 (bodyOf (stAt (defBody s__law_two) 8))) w5_ := u5_.2
    let u6_ : PSV (X_) (List.drop 9 (defBody s__law_two)) := ⟨_, (pss_cons (ps_set (i := 11) sc__law_two.nd rfl (Or.inl rfl) (pe_op op_sub (pe_ix (ix_K K) (pv 5) pe_int (fun _ _ => rfl)) (pe_ix (ix_K K) (pv 4) pe_int (fun _ _ => rfl))))
      e2_)⟩
    let w6_ : TS := u6_.1
    have e6_ : PSs (X_) (List.drop 9 (defBody s__law_two)) w6_ := u6_.2
    let u7_ : PSV (X_) (List.drop 8 (defBody s__law_two)) := ⟨_, (pss_cons (ps_for PassesOwn.never rfl (pi_range1 rfl T.N_range (pa_cons pe_int pa_nil)) (pg_name (i := 9) sc__law_two.nd rfl (Or.inl rfl))
      (pss_cons (ps_set (i := 7) sc__law_two.nd rfl (Or.inl rfl) (pe_op (op_addU K) (pe_op (op_addU K) (pv 7) pe_int) (pe_call (ok__law_next (K := K) T) (hr.mono (by decide)) rfl T.G__law_next T.F__law_next.kp T.B__law_next .nil pass0 (pa_cons (pv 1) (pa_cons pe_int pa_nil)))))
      e5_))
      e6_)⟩
    let w7_ : TS := u7_.1
    have e7_ : PSs (X_) (List.drop 8 (defBody s__law_two)) w7_ := u7_.2
    let u8_ : PSV (X_) (List.drop 7 (defBody s__law_two)) := ⟨_, (pss_cons (ps_set (i := 8) sc__law_two.nd rfl (Or.inl rfl) (pe_un un_neg pe_int))
      e7_)⟩
    let w8_ : TS := u8_.1
    have e8_ : PSs (X_) (List.drop 7 (defBody s__law_two)) w8_ := u8_.2
    let u9_ : PSV (X_) (List.drop 6 (defBody s__law_two)) := ⟨_, (pss_cons (ps_set (i := 7) sc__law_two.nd rfl (Or.inl rfl) (pe_un un_neg pe_int))
      e8_)⟩
    let w9_ : TS := u9_.1
    have e9_ : PSs (X_) (List.drop 6 (defBody s__law_two)) w9_ := u9_.2
    let u10_ : PSV (X_) (List.drop 5 (defBody s__law_two)) := ⟨_, (pss_cons (ps_set (i := 6) sc__law_two.nd rfl (Or.inl rfl) (pe_lst pa_nil))
      e9_)⟩
    let w10_ : TS := u10_.1
    have e10_ : PSs (X_) (List.drop 5 (defBody s__law_two)) w10_ := u10_.2
    let u11_ : PSV (X_) (List.drop 4 (defBody s__law_two)) := ⟨_, (pss_cons (ps_set (i := 5) sc__law_two.nd rfl (Or.inl rfl) (pe_ix (ix_K K) (pv 3) (pe_callTy call_int1 rfl T.N_int bt_int (pa_cons (pe_cmpR op_ltG (pe_ix (ix_K K) (pe_ix (ix_K K) (pv 3) pe_int (fun _ _ => rfl)) pe_int (fun _ _ => rfl)) (pe_ix (ix_K K) (pe_ix (ix_K K) (pv 3) pe_int (fun _ _ => rfl)) pe_int (fun _ _ => rfl)) (nomark _)) pa_nil)) (fun _ _ => rfl)))
      e10_)⟩
    let w11_ : TS := u11_.1
    have e11_ : PSs (X_) (List.drop 4 (defBody s__law_two)) w11_ := u11_.2
    let u12_ : PSV (X_) (List.drop 3 (defBody s__law_two)) := ⟨_, (pss_cons (ps_set (i := 4) sc__law_two.nd rfl (Or.inl rfl) (pe_ix (ix_K K) (pv 3) (pe_callTy call_int1 rfl T.N_int bt_int (pa_cons (pe_cmpR op_gtG (pe_ix (ix_K K) (pe_ix (ix_K K) (pv 3) pe_int (fun _ _ => rfl)) pe_int (fun _ _ => rfl)) (pe_ix (ix_K K) (pe_ix (ix_K K) (pv 3) pe_int (fun _ _ => rfl)) pe_int (fun _ _ => rfl)) (nomark _)) pa_nil)) (fun _ _ => rfl)))
      e11_)⟩
    let w12_ : TS := u12_.1
    have e12_ : PSs (X_) (List.drop 3 (defBody s__law_two)) w12_ := u12_.2
    let u13_ : PSV (X_) (List.drop 2 (defBody s__law_two)) := ⟨_, (pss_cons (ps_set (i := 3) sc__law_two.nd rfl (Or.inl rfl) (pe_call (ok__law_bores (K := K) T) (hr.mono (by decide)) rfl T.G__law_bores T.F__law_bores.kp T.B__law_bores .nil pass0 (pa_cons (pv 0) (pa_cons (pe_lst (pa_cons pe_str (pa_cons pe_str pa_nil))) (pa_cons (pv 2) pa_nil)))))
      e12_)⟩
    let w13_ : TS := u13_.1
    have e13_ : PSs (X_) (List.drop 2 (defBody s__law_two)) w13_ := u13_.2
    let u14_ : PSV (X_) (List.drop 1 (defBody s__law_two)) := ⟨_, (pss_cons (ps_set (i := 2) sc__law_two.nd rfl (Or.inl rfl) (pe_call (ok__law_names (K := K) T) (hr.mono (by decide)) rfl T.G__law_names T.F__law_names.kp T.B__law_names .nil pass0 (pa_cons (pv 1) (pa_cons pe_int pa_nil))))
      e13_)⟩
    let w14_ : TS := u14_.1
    have e14_ : PSs (X_) (List.drop 1 (defBody s__law_two)) w14_ := u14_.2
    refine ⟨_, (pss_cons (ps_set (i := 1) sc__law_two.nd rfl (Or.inl rfl) (pe_call (ok__law_feed (K := K) T) (hr.mono (by decide)) rfl T.G__law_feed T.F__law_feed.kp T.B__law_feed .nil pass0 (pa_cons (pv 0) (pa_cons pe_int pa_nil))))
      e14_), ?_⟩
    refine ⟨_, rfl, a, ns, _, rfl, hs, by decide, by decide, fun f H1 hf s1 F1 => ?_⟩
    refine ⟨_, rfl, f, a, ns, _, rfl, F1, by decide, by decide, fun m ms H2 hm hm2 mf mnm mnd mlen b2 F2 => ?_⟩
    have s02 : Same H H2 := s1.but hf b2
    have ml : ms.length = 3 := mlen
    refine ⟨_, rfl, by show 2 ≤ sizeLine; decide, fun l hl => ?_⟩
    have s3 : Same H2 (upd H2 l (.lst [.str "a", .str "b"])) := Same.new hl
    have s03 := s02.trans s3
    have hl3 : (upd H2 l (.lst [.str "a", .str "b"])) l = some (.lst ((["a", "b"] : List Str).map V.str)) := upd_same
    refine ⟨_, rfl, a, l, m, ns, ["a", "b"], ms, rfl, hs.same s03, hl3, s3 _ _ hm2, fun x hx => ?_, by decide, by omega, by omega, fun pb ub bs H4 hpb hpb4 rlb okb s4 => ?_⟩
    · obtain ⟨m1, m2, m3⟩ := ab_nm x hx
      exact ⟨m1, m2, m3⟩
    have s04 := s03.trans s4
    have F4 : Fed K H4 f a ns := (F2.same s3).same s4
    have hub := repl_len rlb
    have hb2 : bs.length = 2 := by
      have := okb.names.length_eq
      rw [List.length_map] at this
      exact this
    obtain ⟨b0, b1, ebs⟩ := len2 hb2
    obtain ⟨u0, u1, eus⟩ := len2 (hub.trans hb2)
    have rl2 := rlb
    rw [ebs, eus] at rl2
    obtain ⟨_, _, e0, r0, _, _, e1, r1, _⟩ := rl2
    injection e0 with e00 e01
    subst e00
    subst e01
    injection e1 with e10 e11
    subst e10
    obtain ⟨L, R, uL, uR, rL, rR, oL, oR, lt, aL, aR⟩ := two_of okb.each okb.places ebs eus r0 r1
    obtain ⟨ad0, vb0, rfl, q0, _⟩ := rep_bor r0
    obtain ⟨ad1, vb1, rfl, q1, _⟩ := rep_bor r1
    have at0 : atI ub 0 = some (.ref ad0) := by rw [eus]; rfl
    have at1 : atI ub 1 = some (.ref ad1) := by rw [eus]; rfl
    refine ⟨_, rfl, _, rfl, .inl ⟨pb, _, _, _, rfl, rfl, SqL.of hpb4, at0, .inr (.inl ⟨ad0, _, _, _, rfl, rfl, q0, rfl, ?_⟩)⟩⟩
    refine ⟨_, rfl, .inl ⟨pb, _, _, _, rfl, rfl, SqL.of hpb4, at1, .inr (.inl ⟨ad1, _, _, _, rfl, rfl, q1, rfl, _, _, rfl, rfl, .inr ⟨_, rfl, ?_⟩⟩)⟩⟩
    refine .inl ⟨pb, _, _, _, rfl, rfl, SqL.of hpb4, aL, ?_⟩
    refine ⟨_, rfl, _, rfl, .inl ⟨pb, _, _, _, rfl, rfl, SqL.of hpb4, at0, .inr (.inl ⟨ad0, _, _, _, rfl, rfl, q0, rfl, ?_⟩)⟩⟩
    refine ⟨_, rfl, .inl ⟨pb, _, _, _, rfl, rfl, SqL.of hpb4, at1, .inr (.inl ⟨ad1, _, _, _, rfl, rfl, q1, rfl, _, _, rfl, rfl, .inr ⟨_, rfl, ?_⟩⟩)⟩⟩
    refine .inl ⟨pb, _, _, _, rfl, rfl, SqL.of hpb4, aR, ?_⟩
    refine ⟨Nat.zero_le _, fun pp hpp => ?_⟩
    have s5 : Same H4 (upd H4 pp (.lst [])) := Same.new hpp
    have ppH : H pp = none := s04.free hpp
    have ppf : pp ≠ f := F4.ne hpp
    have hp5 : (upd H4 pp (.lst [])) pp = some (.lst []) := upd_same
    have F5 := F4.same s5
    have s05 := s04.trans s5
    have fH : H f = none := hf
    generalize upd H4 pp (.lst []) = H5 at s5 hp5 F5 s05
    let Pv2_ : Nat → St → Hp → Prop := fun i σ H' => ∃ (us : List V) (ps : List Pr) (x y : Int) (o9 o10 : Option V), σ = [some (.ref a), some (.ref f), some (.ref m), some (.ref pb), some uL, some uR, some (.ref pp), some (.int x), some (.int y), o9, o10, none, none] ∧ -1 ≤ x ∧ -1 ≤ y ∧
        H' pp = some (.lst us) ∧ RepL K H' (ps.map prD) us ∧ PrsIn (lays L).length (lays R).length x y i ps ∧ KeepT K H4 H' ∧ Same H H' ∧ Fed K H' f a ns
    refine ⟨_, rfl, _, rfl, _, rfl, by decide, by decide, for_range Pv2_
      ⟨[], [], -1, -1, _, _, rfl, by decide, by decide, hp5, rfl, ⟨.nil, fun p hp => absurd hp (by simp), Nat.le_refl _⟩, s5.keepT, s05, F5⟩ ?_ ?_⟩
    · rintro i σ H6 hi ⟨us, ps, x, y, o9, o10, rfl, hx, hy, hp6, rp6, PI, kt6, s6, F6⟩
      have hi6 : i < 6 := hi
      refine ⟨_, rfl, .inl ⟨_, _, rfl, rfl, _, rfl, f, a, ns, _, rfl, F6, by decide, by decide, fun r7 H7 g70 g71 b7 F7 => .inl ⟨_, _, rfl, rfl, ?_⟩⟩⟩
      refine ⟨_, rfl, .inl ⟨_, _, rfl, rfl, _, rfl, f, a, ns, _, rfl, F7, by decide, by decide, fun r8 H8 g80 g81 b8 F8 => .inl ⟨_, _, rfl, rfl, ?_⟩⟩⟩
      have s08 : Same H H8 := (s6.but fH b7).but fH b8
      have kt8 : KeepT K H4 H8 := (kt6.trans (F6.keepT b7)).trans (F7.keepT b8)
      have hp8 := b8 _ _ (b7 _ _ hp6 ppf) ppf
      have rp8 := (rp6.keepT (F6.keepT b7) (prs_pure ps)).keepT (F7.keepT b8) (prs_pure ps)
      have rL8 := Rep.keepT kt8 (borD_pure L) rL
      have rR8 := Rep.keepT kt8 (borD_pure R) rR
      let M3_ : St → Hp → Prop := fun σ H' => ∃ (c : Bool), σ = [some (.ref a), some (.ref f), some (.ref m), some (.ref pb), some uL, some uR, some (.ref pp), some (.int (x + 1 + r7)), some (.int (y + 1 + r8)), some (.int (0 + i)), some (.bl c), none, none] ∧
        (c = true → x + 1 + r7 < (lays L).length ∧ y + 1 + r8 < (lays R).length) ∧ Same H8 H'
      refine ⟨M3_, ?_, ?_⟩
      · refine ⟨_, rfl, _, rfl, uL, L, ms, rfl, rL8, oL.blocks, fun p9 u9 H9 hp9 hp99 r9 s9 => ?_⟩
        have hu9 := repl_len r9
        refine ⟨_, _, rfl, .inl ⟨_, SqL.of hp99, rfl⟩, _, _, rfl, rfl, _, rfl, ite2 (fun hc => ?_) (fun hc => ?_)⟩
        · have h1 : x + 1 + r7 < ((u9.length : Nat) : Int) := of_decide_eq_true hc
          refine ⟨_, rfl, _, rfl, uR, R, ms, rfl, rR8.same s9, oR.blocks, fun p10 u10 H10 hp10 hp100 r10 s10 => ?_⟩
          have hu10 := repl_len r10
          refine ⟨_, _, rfl, .inl ⟨_, SqL.of hp100, rfl⟩, _, _, rfl, rfl, ?_⟩
          refine ⟨_, rfl, fun hc2 => ?_, s9.trans s10⟩
          have h2 : y + 1 + r8 < ((u10.length : Nat) : Int) := of_decide_eq_true hc2
          rw [hu9] at h1
          rw [hu10] at h2
          exact ⟨h1, h2⟩
        · exact ⟨false, rfl, fun z => absurd z (by decide), s9⟩
      · rintro σ H9 ⟨c, rfl, hc, s9⟩
        have F9 := F8.same s9
        have hp9 := s9 _ _ hp8
        have rp9 := rp8.same s9
        have on : PrsIn (lays L).length (lays R).length (x + 1 + r7) (y + 1 + r8) (i + 1) ps := PI.on (by omega) (by omega)
        cases c with
        | false => exact ⟨_, rfl, _, rfl, iteF ⟨us, ps, _, _, _, _, rfl, by omega, by omega, hp9, rp9, on, kt8.trans s9.keepT, s08.trans s9, F9⟩⟩
        | true =>
          obtain ⟨hn, hm'⟩ := hc rfl
          refine ⟨_, rfl, _, rfl, iteT ?_⟩
          refine ⟨_, rfl, f, a, ns, _, rfl, F9, by decide, by decide, fun r10 H10 _ _ b10 F10 => ?_⟩
          have s010 : Same H H10 := (s08.trans s9).but fH b10
          have kt10 : KeepT K H4 H10 := (kt8.trans s9.keepT).trans (F9.keepT b10)
          have hp10 := b10 _ _ hp9 ppf
          have rp10 := rp9.keepT (F9.keepT b10) (prs_pure ps)
          have hus : us.length = ps.length := repl_len rp10
          refine ⟨_, _, rfl, rfl, _, rfl, ite2 (fun _ => ?_) (fun _ => ?_)⟩
          · refine ⟨_, rfl, .inl ⟨rfl, _, SqL.of hp10⟩, _, rfl, _, rfl, by show 2 ≤ sizeLine; decide, fun z hz => ?_⟩
            have s11 := Same.new (o := .tup [.int (x + 1 + r7), .int (y + 1 + r8)]) hz
            have zp : z ≠ pp := (ne_of_none hp10 hz).symm
            refine ⟨pp, us, _, rfl, rfl, s11 _ _ hp10, small1000 (by have := PI.few; omega), ?_⟩
            have ku : KeepT K (upd H10 z (.tup [.int (x + 1 + r7), .int (y + 1 + r8)])) (upd (upd H10 z (.tup [.int (x + 1 + r7), .int (y + 1 + r8)])) pp (.lst (us ++ [.ref z]))) := keepT_upd (s11 _ _ hp10)
            refine ⟨us ++ [.ref z], ps ++ [(x + 1 + r7, y + 1 + r8)], _, _, _, _, rfl, by omega, by omega, upd_same, ?_, PI.put (by omega) (by omega) (by omega) (by omega) hn hm', (kt10.trans s11.keepT).trans ku, fun c o' e => by rw [upd_ne (ne_of_none e ppH)]; exact (s010.trans s11) c o' e, (F10.same s11).upd (s11 _ _ hp10) ppf⟩
            rw [List.map_append]
            refine RepL.append ((rp10.same s11).keepT ku (prs_pure ps)) (RepL.one ?_)
            refine rep_tup (by rw [upd_ne zp, upd_same]) ⟨_, _, rfl, rfl, _, _, rfl, rfl, rfl⟩
          · exact ⟨us, ps, _, _, _, _, rfl, by omega, by omega, hp10, rp10, on, kt10, s010, F10⟩
    · rintro σ H6 ⟨us, ps, x, y, o9, o10, rfl, hx, hy, hp6, rp6, PI, kt6, s6, F6⟩
      have rL6 := Rep.keepT kt6 (borD_pure L) rL
      have rR6 := Rep.keepT kt6 (borD_pure R) rR
      obtain ⟨aL', vL, rfl, qL, _⟩ := rep_bor rL6
      obtain ⟨aR', vR, rfl, qR, _⟩ := rep_bor rR6
      refine ⟨_, rfl, .inr (.inl ⟨aR', _, _, _, rfl, rfl, qR, rfl, _, rfl, .inr (.inl ⟨aL', _, _, _, rfl, rfl, qL, rfl, _, _, rfl, rfl, ?_⟩)⟩)⟩
      refine ⟨_, rfl, _, rfl, f, a, ns, rfl, F6, fun r7 H7 g70 g71 b7 F7 => ?_⟩
      refine ⟨_, rfl, f, a, ns, _, rfl, F7, by decide, by decide, fun r8 H8 g80 g81 b8 F8 => ?_⟩
      refine ⟨by show 4 ≤ sizeLine; decide, fun z hz => ?_⟩
      have s9 : Same H8 (upd H8 z (.lst [.int 0, .int (R.place - L.place), .int r7, .int r8])) := Same.new hz
      have zf := F8.ne hz
      refine ⟨_, rfl, f, a, ns, _, rfl, F8.same s9, by decide, by decide, fun r10 H10 g100 g101 b10 F10 => ?_⟩
      have hz10 : H10 z = some (.lst (([0, R.place - L.place, r7, r8] : List Int).map V.int)) := b10 _ _ upd_same zf
      obtain ⟨far, hfar⟩ := ints_atI (ns := [0, R.place - L.place, r7, r8]) g100 (by show r10 < 4; exact g101)
      refine .inl ⟨z, _, _, _, rfl, rfl, SqL.of hz10, hfar, ?_⟩
      have s010 : Same H H10 := ((((s6.but fH b7).but fH b8).trans s9)).but fH b10
      have kt10 : KeepT K H6 H10 := (((F6.keepT b7).trans (F7.keepT b8)).trans s9.keepT).trans ((F8.same s9).keepT b10)
      have hp10 := b10 _ _ (s9 _ _ (b8 _ _ (b7 _ _ hp6 ppf) ppf)) ppf
      have w0 : 0 < R.place - L.place + 1 := by omega
      refine ⟨_, rfl, _, rfl, _, rfl, _, rfl, .inr (.inl ⟨aL', _, _, _, rfl, rfl, kt10 _ _ qL, rfl, _, rfl, _, rfl, .inl ⟨_, _, rfl, rfl, _, _, rfl, rfl, w0, .inl ⟨_, _, rfl, rfl, by show 4 ≤ sizeLine; decide, fun zz hzz => ?_⟩⟩⟩)⟩
      have s11 := Same.new (o := .tup [.ref aL', .ref aR', .ref pp, .int (L.place + far % (R.place - L.place + 1))]) hzz
      have e0 := Int.emod_nonneg far (show R.place - L.place + 1 ≠ 0 by omega)
      have e1 := Int.emod_lt_of_pos far w0
      refine q zz _ _ pp L R ms us ps _ _ (SqT.of upd_same) ppH (s11 _ _ hp10) ((rp6.keepT kt10 (prs_pure ps)).same s11) ((Rep.keepT kt10 (borD_pure L) rL6).same s11) ((Rep.keepT kt10 (borD_pure R) rR6).same s11) ⟨oL, oR, lt, by omega, by omega, ⟨PI.rise, fun p hp => ?_, PI.few⟩, mnm⟩ (s010.trans s11)
      obtain ⟨h1, h2, h3, h4, _, _⟩ := PI.each p hp
      exact ⟨h1, h2, h3, h4⟩
end
abbrev Sh := Option Int × Option Int
def oiD : Option Int → PyData
  | none => .none
  | some i => .int i
def oiV : Option Int → V
  | none => .non
  | some i => .int i
def shD (s : Sh) : PyData := .tuple [oiD s.1, oiD s.2]
theorem oi_pure (x : Option Int) : pureD (oiD x) = true := by cases x <;> rfl
theorem sh_pure (s : Sh) : pureD (shD s) = true := by
  show (pureD (oiD s.1) && (pureD (oiD s.2) && true)) = true
  rw [oi_pure, oi_pure]
  rfl
theorem shs_pure (ss : List Sh) : pureDs (ss.map shD) = true := pureDs_map fun s _ => sh_pure s
theorem rep_oi {K : PySem.W.Frag} {H : Hp} {x : Option Int} {v : V} (h : Rep K H (oiD x) v) : v = oiV x := by
  cases x with
  | none => exact h
  | some i => exact h
theorem rep_oi' {K : PySem.W.Frag} {H : Hp} (x : Option Int) : Rep K H (oiD x) (oiV x) := by cases x <;> rfl
theorem rep_sh {K : PySem.W.Frag} {H : Hp} {s : Sh} {v : V} (h : Rep K H (shD s) v) : ∃ a, v = .ref a ∧ SqT K H a [oiV s.1, oiV s.2] := by
  obtain ⟨a, xs, rfl, h1, h2⟩ := h
  obtain ⟨_, _, rfl, e1, h2⟩ := h2
  obtain ⟨_, _, rfl, e2, h2⟩ := h2
  cases h2
  rw [rep_oi e1, rep_oi e2] at h1
  exact ⟨a, rfl, h1⟩
theorem sh_tup {K : PySem.W.Frag} {H : Hp} {p : Addr} {s : Sh} (h : H p = some (.tup [oiV s.1, oiV s.2])) : Rep K H (shD s) (.ref p) := rep_tup h ⟨_, _, rfl, rep_oi' _, _, _, rfl, rep_oi' _, rfl⟩
theorem depth_map {α : Type} {g : α → PyData} {n : Nat} (h : ∀ x, (g x).depth ≤ n) : ∀ (xs : List α), PyData.depthAll (xs.map g) ≤ n
  | [] => Nat.zero_le _
  | x :: xs => by
    show max (g x).depth (PyData.depthAll (xs.map g)) ≤ n
    exact Nat.max_le.mpr ⟨h x, depth_map h xs⟩
def gl (i k : Nat) : List Sh := (List.range' i (k - i)).map fun x : Nat => (some (x : Int), none)
def gr (i k : Nat) : List Sh := (List.range' i (k - i)).map fun x : Nat => (none, some (x : Int))
theorem gl_cons {i k : Nat} (h : i < k) : gl i k = (some (i : Int), none) :: gl (i + 1) k := by
  unfold gl
  rw [show k - i = (k - (i + 1)) + 1 by omega, List.range'_succ, List.map_cons]
theorem gr_cons {i k : Nat} (h : i < k) : gr i k = (none, some (i : Int)) :: gr (i + 1) k := by
  unfold gr
  rw [show k - i = (k - (i + 1)) + 1 by omega, List.range'_succ, List.map_cons]
theorem gl_nil {i k : Nat} (h : k ≤ i) : gl i k = [] := by
  unfold gl
  rw [show k - i = 0 by omega]
  rfl
theorem gr_nil {i k : Nat} (h : k ≤ i) : gr i k = [] := by
  unfold gr
  rw [show k - i = 0 by omega]
  rfl
theorem gl_len (i k : Nat) : (gl i k).length = k - i := by unfold gl; rw [List.length_map, List.length_range']
theorem gr_len (i k : Nat) : (gr i k).length = k - i := by unfold gr; rw [List.length_map, List.length_range']
def shs (n m : Nat) : Nat → Nat → List Pr → List Sh
  | i, j, [] => gl i n ++ gr j m
  | i, j, (a, b) :: ps => gl i a.toNat ++ (gr j b.toNat ++ (some a, some b) :: shs n m (a.toNat + 1) (b.toNat + 1) ps)
structure Wk2 (n m i j : Nat) (ps pre qs : List Pr) (done : List Sh) : Prop where
  eq : ps = pre ++ qs
  bi : ∀ p ∈ pre, p.1 < i ∧ p.2 < j
  ah : ∀ p ∈ qs, (i : Int) ≤ p.1 ∧ (j : Int) ≤ p.2
  il : i ≤ n
  jl : j ≤ m
  all : done ++ shs n m i j qs = shs n m 0 0 ps
  len : done.length ≤ i + j
section
variable {n m i j : Nat} {ps pre qs : List Pr} {done : List Sh}
theorem Wk2.start (n m : Nat) (h : PrsOk n m ps) : Wk2 n m 0 0 ps [] ps [] :=
  ⟨rfl, fun p hp => absurd hp (by simp), fun p hp => by obtain ⟨a, _, c, _⟩ := h.each p hp; exact ⟨a, c⟩, Nat.zero_le _, Nat.zero_le _, rfl, Nat.le_refl _⟩
theorem Wk2.left (W : Wk2 n m i j ps pre qs done) (h : i < n) (hn : (i : Int) ∉ ps.map (·.1)) : Wk2 n m (i + 1) j ps pre qs (done ++ [(some (i : Int), none)]) := by
  have ne : ∀ p ∈ qs, p.1 ≠ i := fun p hp e => hn (by rw [W.eq]; exact List.mem_map.mpr ⟨p, List.mem_append_right _ hp, e⟩)
  refine ⟨W.eq, fun p hp => ⟨by have := (W.bi p hp).1; push_cast; omega, (W.bi p hp).2⟩, fun p hp => ⟨by have := (W.ah p hp).1; have := ne p hp; push_cast; omega, (W.ah p hp).2⟩, h, W.jl, ?_, by rw [List.length_append]; have := W.len; show done.length + 1 ≤ _; omega⟩
  rw [← W.all, List.append_assoc]
  congr 1
  cases qs with
  | nil =>
    show _ :: (gl (i + 1) n ++ gr j m) = gl i n ++ gr j m
    rw [gl_cons h]
    rfl
  | cons q qs =>
    obtain ⟨a, b⟩ := q
    have h1 := (W.ah (a, b) List.mem_cons_self).1
    have h2 := ne (a, b) List.mem_cons_self
    have h1' : (i : Int) ≤ a := h1
    have h2' : a ≠ i := h2
    show _ :: (gl (i + 1) a.toNat ++ _) = gl i a.toNat ++ _
    rw [gl_cons (show i < a.toNat by omega)]
    rfl
theorem Wk2.stuckL (W : Wk2 n m i j ps pre qs done) (ok : PrsOk n m ps) (h : ¬ (i < n ∧ (i : Int) ∉ ps.map (·.1))) : (qs = [] ∧ i = n) ∨ ∃ b r, qs = ((i : Int), b) :: r := by
  have mem : ∀ q ∈ qs, q ∈ ps := fun q hq => by rw [W.eq]; exact List.mem_append_right _ hq
  cases qs with
  | nil =>
    refine .inl ⟨rfl, ?_⟩
    apply Classical.byContradiction
    intro z
    have := W.il
    refine h ⟨by omega, fun hm => ?_⟩
    obtain ⟨p, hp, e⟩ := List.mem_map.mp hm
    rw [W.eq, List.append_nil] at hp
    have := (W.bi p hp).1
    have e' : p.1 = i := e
    omega
  | cons q r =>
    obtain ⟨a, b⟩ := q
    refine .inr ⟨b, r, ?_⟩
    have ha : (i : Int) ≤ a := (W.ah (a, b) List.mem_cons_self).1
    have hn : a < n := (ok.each (a, b) (mem _ List.mem_cons_self)).2.1
    have hin : (i : Int) ∈ ps.map (·.1) := by
      apply Classical.byContradiction
      intro z
      exact h ⟨by omega, z⟩
    obtain ⟨p, hp, e⟩ := List.mem_map.mp hin
    have e' : p.1 = i := e
    rw [W.eq] at hp
    rcases List.mem_append.mp hp with hp | hp
    · have := (W.bi p hp).1
      omega
    · rcases List.mem_cons.mp hp with hp | hp
      · rw [hp] at e'
        have e2 : a = i := e'
        rw [e2]
      · have rise := ok.rise
        rw [W.eq] at rise
        have := (List.pairwise_cons.mp (List.pairwise_append.mp rise).2.1).1 p hp
        have h3 : a < p.1 := this.1
        omega
theorem Wk2.right (W : Wk2 n m i j ps pre qs done) (ok : PrsOk n m ps) (h : ¬ (i < n ∧ (i : Int) ∉ ps.map (·.1))) (hj : j < m) (hn : (j : Int) ∉ ps.map (·.2)) : Wk2 n m i (j + 1) ps pre qs (done ++ [(none, some (j : Int))]) := by
  have ne : ∀ p ∈ qs, p.2 ≠ j := fun p hp e => hn (by rw [W.eq]; exact List.mem_map.mpr ⟨p, List.mem_append_right _ hp, e⟩)
  refine ⟨W.eq, fun p hp => ⟨(W.bi p hp).1, by have := (W.bi p hp).2; push_cast; omega⟩, fun p hp => ⟨(W.ah p hp).1, by have := (W.ah p hp).2; have := ne p hp; push_cast; omega⟩, W.il, hj, ?_, by rw [List.length_append]; have := W.len; show done.length + 1 ≤ _; omega⟩
  rw [← W.all, List.append_assoc]
  congr 1
  rcases W.stuckL ok h with ⟨rfl, rfl⟩ | ⟨b, r, rfl⟩
  · show _ :: (gl i i ++ gr (j + 1) m) = gl i i ++ gr j m
    rw [gl_nil (Nat.le_refl _), gr_cons hj]
    rfl
  · have h1 : (j : Int) ≤ b := (W.ah _ List.mem_cons_self).2
    have h2 : b ≠ j := ne _ List.mem_cons_self
    show _ :: (gl i (i : Int).toNat ++ (gr (j + 1) b.toNat ++ _)) = gl i (i : Int).toNat ++ (gr j b.toNat ++ _)
    rw [Int.toNat_natCast, gl_nil (Nat.le_refl _), gr_cons (show j < b.toNat by omega)]
    rfl
theorem Wk2.stop (W : Wk2 n m i j ps pre qs done) (ok : PrsOk n m ps) (h : ¬ (i < n ∨ j < m)) : done = shs n m 0 0 ps := by
  rw [← W.all]
  have e : qs = [] := by
    cases qs with
    | nil => rfl
    | cons q r =>
      have h1 := (W.ah q List.mem_cons_self).1
      have h2 := (ok.each q (by rw [W.eq]; exact List.mem_append_right _ List.mem_cons_self)).2.1
      exfalso
      omega
  subst e
  show done = done ++ (gl i n ++ gr j m)
  rw [gl_nil (by omega), gr_nil (by omega)]
  simp
end
theorem shs_len (n m : Nat) : ∀ (ps : List Pr) (i j : Nat), ps.Pairwise (fun p q => p.1 < q.1 ∧ p.2 < q.2) → (∀ p ∈ ps, (i : Int) ≤ p.1 ∧ p.1 < n ∧ (j : Int) ≤ p.2 ∧ p.2 < m) → (shs n m i j ps).length ≤ (n - i) + (m - j)
  | [], i, j, _, _ => by
    show (gl i n ++ gr j m).length ≤ _
    rw [List.length_append, gl_len, gr_len]
    exact Nat.le_refl _
  | (a, b) :: ps, i, j, hr, he => by
    obtain ⟨h1, h2, h3, h4⟩ := he (a, b) List.mem_cons_self
    have h1' : (i : Int) ≤ a := h1
    have h2' : a < n := h2
    have h3' : (j : Int) ≤ b := h3
    have h4' : b < m := h4
    obtain ⟨r1, r2⟩ := List.pairwise_cons.mp hr
    have ih := shs_len n m ps (a.toNat + 1) (b.toNat + 1) r2 fun p hp => by
      obtain ⟨k1, k2, k3, k4⟩ := he p (List.mem_cons_of_mem _ hp)
      obtain ⟨q1, q2⟩ := r1 p hp
      have q1' : a < p.1 := q1
      have q2' : b < p.2 := q2
      push_cast
      omega
    show (gl i a.toNat ++ (gr j b.toNat ++ (some a, some b) :: shs n m (a.toNat + 1) (b.toNat + 1) ps)).length ≤ _
    rw [List.length_append, List.length_append, List.length_cons, gl_len, gr_len]
    omega
def spSheets (K : PySem.W.Frag) : Sp := fun vs H Q _ => ∃ (v1 v2 : V) (b1 b2 : Bor) (ms : List Str) (ph : Addr) (us : List V) (ps : List Pr), vs = [v1, v2, .ref ph] ∧ Rep K H (borD b1) v1 ∧ Rep K H (borD b2) v2 ∧ BorOk ms b1 ∧ BorOk ms b2 ∧ H ph = some (.lst us) ∧ RepL K H (ps.map prD) us ∧ PrsOk (lays b1).length (lays b2).length ps ∧
  ∀ (p : Addr) (ws : List V) (H' : Hp), H p = none → H' p = some (.lst ws) → RepL K H' ((shs (lays b1).length (lays b2).length 0 0 ps).map shD) ws → Same H H' → Q (.ref p) H'
def Bd (n : Nat) (a : Int) : Prop := a.natAbs < 2 ^ n
theorem Bd.mono {n m : Nat} {a : Int} (h : Bd n a) (hm : n ≤ m) : Bd m a := Nat.lt_of_lt_of_le h (Nat.pow_le_pow_right (by decide) hm)
theorem Bd.mul {n m : Nat} {a b : Int} (h : Bd n a) (g : Bd m b) : Bd (n + m) (a * b) := by
  unfold Bd at *
  rw [Int.natAbs_mul, Nat.pow_add]
  exact Nat.mul_lt_mul'' h g
theorem Bd.add {n : Nat} {a b : Int} (h : Bd n a) (g : Bd n b) : Bd (n + 1) (a + b) := by
  unfold Bd at *
  rw [Nat.pow_succ]
  omega
theorem Bd.neg {n : Nat} {a : Int} (h : Bd n a) : Bd n (-a) := by
  unfold Bd at *
  rw [Int.natAbs_neg]
  exact h
theorem Bd.le {n : Nat} {a b : Int} (h : Bd n a) (g : b.natAbs ≤ a.natAbs) : Bd n b := Nat.lt_of_le_of_lt g h
theorem Bd.c {n m : Nat} {a b : Int} (h : Bd n a) (g : Bd m b) (hn : n ≤ 1000 := by decide) (hm : m ≤ 1000 := by decide) : CMulB a b := .inr ⟨h.mono hn, g.mono hm⟩
def CDivI (_ j : Int) : Prop := j ≠ 0 ∧ Bd 1000 j
theorem op_fdivI {X : Cx} : OpR X (PySem.binaryOp .FloorDiv) (rI CDivI fun i j => .int (i.fdiv j)) := opI fun i j _ _ _ _ _ hc q => by
  obtain ⟨h1, h2⟩ := hc
  have h4 : j.natAbs ≠ 0 := by omega
  refine PyProof.Rows.floordiv_int h1 q (.inl (PyProof.noPylong_of_log2 ?_))
  exact Nat.lt_trans ((Nat.log2_lt h4).mpr h2) (by decide)
theorem abs_int (i : Int) : (if i < 0 then -i else i) = (i.natAbs : Int) := by split <;> omega
theorem gcd_turn (n m : Nat) : Nat.gcd m (n % m) = Nat.gcd n m := by
  rw [Nat.gcd_comm m (n % m), ← Nat.gcd_rec, Nat.gcd_comm]
structure RatOf (t b x y : Int) : Prop where
  pos : 0 < y
  low : Nat.gcd x.natAbs y.natAbs = 1
  same : x * b = t * y
  lx : x.natAbs ≤ t.natAbs
  ly : y.natAbs ≤ b.natAbs
theorem fdiv_of {a d k : Int} (hd : d ≠ 0) (h : a = d * k) : a.fdiv d = k := by
  rw [h]
  exact Int.mul_fdiv_cancel_left k hd
theorem ratOf {t b d : Int} (hb : b ≠ 0) (hd : d = if b < 0 then -((Nat.gcd t.natAbs b.natAbs : Nat) : Int) else ((Nat.gcd t.natAbs b.natAbs : Nat) : Int)) :
    d ≠ 0 ∧ d.natAbs ≤ b.natAbs ∧ RatOf t b (t.fdiv d) (b.fdiv d) := by
  generalize hg : Nat.gcd t.natAbs b.natAbs = g at hd
  have hb0 : 0 < b.natAbs := by omega
  have g0 : 0 < g := by rw [← hg]; exact Nat.gcd_pos_of_pos_right _ hb0
  obtain ⟨t', ht⟩ : (g : Int) ∣ t := Int.ofNat_dvd_left.mpr (by rw [← hg]; exact Nat.gcd_dvd_left _ _)
  obtain ⟨b', hb'⟩ : (g : Int) ∣ b := Int.ofNat_dvd_left.mpr (by rw [← hg]; exact Nat.gcd_dvd_right _ _)
  have ta : t.natAbs = g * t'.natAbs := by rw [ht, Int.natAbs_mul]; rfl
  have ba : b.natAbs = g * b'.natAbs := by rw [hb', Int.natAbs_mul]; rfl
  have hl : Nat.gcd t'.natAbs b'.natAbs = 1 := by
    have e : g * Nat.gcd t'.natAbs b'.natAbs = g * 1 := by rw [← Nat.gcd_mul_left, ← ta, ← ba, hg, Nat.mul_one]
    exact Nat.eq_of_mul_eq_mul_left g0 e
  have tl : t'.natAbs ≤ t.natAbs := by rw [ta]; exact Nat.le_mul_of_pos_left _ g0
  have bl : b'.natAbs ≤ b.natAbs := by rw [ba]; exact Nat.le_mul_of_pos_left _ g0
  have gl : g ≤ b.natAbs := by
    rw [ba]
    refine Nat.le_mul_of_pos_right _ ?_
    rcases Nat.eq_zero_or_pos b'.natAbs with z | z
    · rw [z, Nat.mul_zero] at ba; omega
    · exact z
  have gI : (0 : Int) < g := Int.natCast_pos.mpr g0
  have e0 : t' * b = t * b' := by rw [ht, hb']; ac_rfl
  by_cases hn : b < 0
  · rw [if_pos hn] at hd
    have hd0 : d ≠ 0 := by omega
    have e1 : t.fdiv d = -t' := fdiv_of hd0 (by rw [hd, Int.neg_mul_neg]; exact ht)
    have e2 : b.fdiv d = -b' := fdiv_of hd0 (by rw [hd, Int.neg_mul_neg]; exact hb')
    rw [e1, e2]
    have bn : b' < 0 := by
      have h1 : (g : Int) * b' < 0 := by rw [← hb']; exact hn
      apply Classical.byContradiction
      intro z
      have := Int.mul_nonneg (Int.le_of_lt gI) (show 0 ≤ b' by omega)
      omega
    refine ⟨hd0, by rw [hd, Int.natAbs_neg]; exact gl, by omega, by rw [Int.natAbs_neg, Int.natAbs_neg]; exact hl, by rw [Int.neg_mul, Int.mul_neg, e0], by rw [Int.natAbs_neg]; exact tl, by rw [Int.natAbs_neg]; exact bl⟩
  · rw [if_neg hn] at hd
    have hd0 : d ≠ 0 := by omega
    have e1 : t.fdiv d = t' := fdiv_of hd0 (by rw [hd]; exact ht)
    have e2 : b.fdiv d = b' := fdiv_of hd0 (by rw [hd]; exact hb')
    rw [e1, e2]
    have bp : 0 < b' := by
      have h1 : 0 < (g : Int) * b' := by rw [← hb']; omega
      apply Classical.byContradiction
      intro z
      have := Int.mul_nonneg (Int.le_of_lt gI) (show 0 ≤ -b' by omega)
      rw [Int.mul_neg] at this
      omega
    exact ⟨hd0, by rw [hd]; exact gl, bp, hl, e0, tl, bl⟩
def spGd : Sp := fun vs H Q _ => ∃ n m : Nat, vs = [.int n, .int m] ∧ Q (.int (Nat.gcd n m : Nat)) H
def spDv : Sp := fun vs H Q _ => ∃ a b : Int, vs = [.int a, .int b] ∧ Q (.int (Nat.gcd a.natAbs b.natAbs : Nat)) H
def spIs (K : PySem.W.Frag) : Sp := fun vs H Q _ => ∃ (p : Addr) (x y t b : Int), vs = [.ref p, .int t, .int b] ∧ SqT K H p [.int x, .int y] ∧ Bd 800 x ∧ Bd 800 y ∧ 0 < y ∧ Nat.gcd x.natAbs y.natAbs = 1 ∧ x * b = t * y ∧ Bd 800 t ∧ Bd 800 b ∧ Q (.bl true) H
section
variable {P : Program} {w : World} {K : PySem.W.Frag} {mg : Str → Option Value} {base : Heap} {t : Adr}
theorem ok__law_divisor (T : Txt K mg t) : FnOk P w K mg base CX0 1 t.a__law_divisor t.d__law_divisor ["_law_one", "_law_other"] spGd := by
  refine T.F__law_divisor.ok sc__law_divisor (fun vs H Q E h => ?_) (fun cdv A outer s H vs Q E hr h => ?_)
  · obtain ⟨n, m, rfl, _⟩ := h; rfl
  · obtain ⟨n, m, rfl, q⟩ := h
    let X_ : Cx := (cxOf CX0 P w K mg base ["_law_one", "_law_other"] "_law_divisor" (defScope s__law_divisor) t.a__law_divisor cdv A outer s H E).nox
    let u1_ : PSV (X_) (List.drop 1 (defBody s__law_divisor)) := ⟨_, (pss_one (ps_ret (pv 0)))⟩
    let w1_ : TS := u1_.1
    have e1_ : PSs (X_) (List.drop 1 (defBody s__law_divisor)) w1_ := u1_.2
    refine ⟨_, (pss_cons (ps_while PassesOwn.never (pt_cmpR op_gtG (pv 1) pe_int (nomark _))
      (pss_one (ps_par (i := 0) (j := 1) rfl sc__law_divisor.nd rfl rfl (by decide) rfl rfl (pa_cons (pv 1) (pa_cons (pe_op op_mod (pv 0) (pv 1)) pa_nil)) rfl)))
      e1_), ?_⟩
    refine ⟨fun k σ H' => ∃ i : Nat, σ = [some (.int i), some (.int k)] ∧ Nat.gcd i k = Nat.gcd n m ∧ H' = H, ⟨m, n, rfl, rfl, rfl⟩, ?_⟩
    rintro k σ H' ⟨i, rfl, hg, rfl⟩
    refine ⟨_, rfl, _, _, rfl, rfl, _, rfl, ite2 (fun hc => ?_) (fun hc => ?_)⟩
    · have hk' : (0 : Int) < k := of_decide_eq_true hc
      have hk : 0 < k := by omega
      refine ⟨fun σ' H'' => ∃ k', k' < k ∧ ∃ i : Nat, σ' = [some (.int i), some (.int k')] ∧ Nat.gcd i k' = Nat.gcd n m ∧ H'' = H', fun _ _ z => z, ?_⟩
      refine ⟨_, rfl, _, rfl, _, rfl, _, _, rfl, rfl, hk', _, _, rfl, ?_⟩
      refine ⟨i % k, Nat.mod_lt _ hk, k, rfl, ?_, rfl⟩
      rw [gcd_turn]
      exact hg
    · have hk' : ¬ (0 : Int) < k := fun z => hc (decide_eq_true z)
      obtain rfl : k = 0 := by omega
      rw [Nat.gcd_zero_right] at hg
      refine ⟨_, rfl, ?_⟩
      rw [hg]
      exact q
theorem ok__law_is (T : Txt K mg t) : FnOk P w K mg base CX0 2 t.a__law_is t.d__law_is ["_law_found", "_law_top", "_law_bottom"] (spIs K) := by
  refine T.F__law_is.ok sc__law_is (fun vs H Q E h => ?_) (fun cdv A outer s H vs Q E hr h => ?_)
  · obtain ⟨p, x, y, u, b, rfl, _⟩ := h; rfl
  · obtain ⟨p, x, y, u, b, rfl, hp, bx, by', hy, hg, he, bu, bb, q⟩ := h
    let X_ : Cx := (cxOf CX0 P w K mg base ["_law_found", "_law_top", "_law_bottom", "_law_one"] "_law_is" (defScope s__law_is) t.a__law_is cdv A outer s H E).nox
    let u1_ : PSV (X_) (List.drop 3 (defBody s__law_is)) := ⟨_, (pss_one (ps_ret (pe_cmpR (op_eqK K hr.units) (pe_op (op_mulU K) (pe_ix (ix_K K) (pv 0) pe_int (fun _ _ => rfl)) (pv 2)) (pe_op (op_mulU K) (pv 1) (pe_ix (ix_K K) (pv 0) pe_int (fun _ _ => rfl))) (nomark _))))⟩
    let w1_ : TS := u1_.1
    have e1_ : PSs (X_) (List.drop 3 (defBody s__law_is)) w1_ := u1_.2
    let u2_ : PSV (X_) (List.drop 2 (defBody s__law_is)) := ⟨_, (pss_cons (ps_if (PW.pt (pw_or (pt_cmpR op_ltG (pe_ix (ix_K K) (pv 0) pe_int (fun _ _ => rfl)) pe_int (nomark _)) (pw_or1 (pt_cmpR (op_neK K hr.units) (pe_call (ok__law_divisor (K := K) T) (hr.mono (by decide)) rfl T.G__law_divisor T.F__law_divisor.kp T.B__law_divisor .nil pass0 (pa_cons (pe_callB call_abs rfl T.N_abs bt_abs (pa_cons (pe_ix (ix_K K) (pv 0) pe_int (fun _ _ => rfl)) pa_nil)) (pa_cons (pe_ix (ix_K K) (pv 0) pe_int (fun _ _ => rfl)) pa_nil))) pe_int (nomark _))))) (pss_one (ps_ret pe_bl)) pss_nil)
      e1_)⟩
    let w2_ : TS := u2_.1
    have e2_ : PSs (X_) (List.drop 2 (defBody s__law_is)) w2_ := u2_.2
    let u3_ : PSV (X_) (List.drop 1 (defBody s__law_is)) := ⟨_, (pss_cons (ps_for PassesOwn.never rfl (pi_seqK K (pv 0)) (pg_name (i := 3) sc__law_is.nd rfl (Or.inl rfl))
      (pss_one (ps_if (PW.pt (pw_or (pt_not (pt_truthK K (pe_callB (call_isiK K) rfl T.N_isinstance bt_isinstance (pa_cons (pv 3) (pa_cons (pe_bltn (v := .ty "int") rfl T.N_int bt_int rfl) pa_nil))) (fun _ => rfl))) (pw_or1 (pt_truthK K (pe_callB (call_isiK K) rfl T.N_isinstance bt_isinstance (pa_cons (pv 3) (pa_cons (pe_bltn (v := .ty "bool") rfl T.N_bool bt_bool rfl) pa_nil))) (fun _ => rfl))))) (pss_one (ps_ret pe_bl)) pss_nil)))
      e2_)⟩
    let w3_ : TS := u3_.1
    have e3_ : PSs (X_) (List.drop 1 (defBody s__law_is)) w3_ := u3_.2
    refine ⟨_, (pss_cons (ps_if (PW.pt (pw_or (pt_not (pt_truthK K (pe_callB (call_isiTK K) rfl T.N_isinstance bt_isinstance (pa_cons (pv 0) (pa_cons (pe_bltn (v := .ty "tuple") rfl T.N_tuple bt_tuple rfl) pa_nil))) (fun _ => rfl))) (pw_or1 (pt_cmpR (op_neK K hr.units) (pe_callB (call_lenK K) rfl T.N_len bt_len (pa_cons (pv 0) pa_nil)) pe_int (nomark _))))) (pss_one (ps_ret pe_bl)) pss_nil)
      e3_), ?_⟩
    refine ⟨_, rfl, _, _, _, _, rfl, hp, kit_tuple_tuple, _, rfl, iteF ?_⟩
    refine ⟨_, rfl, _, _, rfl, .inr ⟨_, hp, rfl⟩, .inl ⟨rfl, _, rfl, ite2 (fun hc => absurd (show false = true from hc) (by decide)) (fun _ => ?_)⟩⟩
    let Pv1_ : Nat → St → Hp → Prop := fun i σ H' => ∃ o : Option V, σ = [some (.ref p), some (.int u), some (.int b), o] ∧ H' = H
    refine ⟨_, rfl, Itt K p, .tup hp, for_tup (xs := [.int x, .int y]) Pv1_ ⟨_, rfl, rfl⟩ (fun i σ H' _ h => by obtain ⟨_, _, e⟩ := h; rw [e]; exact hp) ?_ ?_⟩
    · rintro i v σ H' hv ⟨o, rfl, rfl⟩
      obtain ⟨z, rfl⟩ : ∃ z, v = .int z := by
        have hm := List.mem_of_getElem? hv
        simp only [List.mem_cons, List.not_mem_nil, or_false] at hm
        rcases hm with rfl | rfl <;> exact ⟨_, rfl⟩
      refine ⟨_, rfl, _, _, _, _, rfl, .int _, kit_int_int, _, rfl, iteF ?_⟩
      refine ⟨_, rfl, _, _, _, _, rfl, .int _, kit_int_bool, _, rfl, iteF ?_⟩
      exact ⟨_, rfl, rfl⟩
    · rintro σ H' ⟨o, rfl, rfl⟩
      refine ⟨_, rfl, .inr (.inl ⟨p, _, _, _, rfl, rfl, hp, rfl, _, _, rfl, rfl, _, rfl, ite2 (fun hc => ?_) (fun _ => ?_)⟩)⟩
      · have := of_decide_eq_true hc
        omega
      refine ⟨_, rfl, .inr (.inl ⟨p, _, _, _, rfl, rfl, hp, rfl, _, rfl, ?_⟩)⟩
      refine ⟨_, rfl, .inr (.inl ⟨p, _, _, _, rfl, rfl, hp, rfl, x.natAbs, y.natAbs, by rw [abs_int, show y = (y.natAbs : Int) by omega]; rfl, ?_⟩)⟩
      rw [hg]
      refine .inl ⟨rfl, _, rfl, ite2 (fun hc => absurd (show false = true from hc) (by decide)) (fun _ => ?_)⟩
      refine ⟨_, rfl, .inr (.inl ⟨p, _, _, _, rfl, rfl, hp, rfl, _, rfl, .inl ⟨_, _, rfl, rfl, bx.c bb, ?_⟩⟩)⟩
      refine ⟨_, rfl, _, rfl, .inr (.inl ⟨p, _, _, _, rfl, rfl, hp, rfl, .inl ⟨_, _, rfl, rfl, bu.c by', .inl ⟨rfl, ?_⟩⟩⟩)⟩
      show Q (.bl (decide (V.int (x * b) = V.int (u * y)))) H'
      rw [he, decide_eq_true rfl]
      exact q
end
def thL (xs : List Lay) : Option Int → Int
  | none => 0
  | some i => (xs.getD i.toNat ("", 0)).2
def enD (bl br : Bor) (s : Sh) : Pr := (thL (lays bl) s.1, thL (lays br) s.2)
theorem thL_at {xs : List Lay} {x : Nat} {a : Int} (h : (xs.map (·.2))[x]? = some a) : thL xs (some (x : Int)) = a := by
  rw [List.getElem?_map] at h
  show (xs.getD ((x : Int)).toNat ("", 0)).2 = a
  rw [Int.toNat_natCast, List.getD_eq_getElem?_getD]
  cases e : xs[x]? with
  | none => rw [e] at h; cases h
  | some l => rw [e] at h; cases h; rfl
structure Sst (n m i j : Nat) (ps qs : List Pr) (done : List Sh) : Prop where
  all : done ++ shs n m i j qs = shs n m 0 0 ps
  il : i ≤ n
  jl : j ≤ m
  ah : ∀ p ∈ qs, (i : Int) ≤ p.1 ∧ (j : Int) ≤ p.2
theorem shs_le {n m : Nat} {ps : List Pr} (ok : PrsOk n m ps) : (shs n m 0 0 ps).length ≤ n + m := by
  have := shs_len n m ps 0 0 ok.rise (fun p hp => by obtain ⟨h1, h2, h3, h4⟩ := ok.each p hp; exact ⟨by simpa using h1, h2, by simpa using h3, h4⟩)
  omega
theorem Sst.len {n m i j : Nat} {ps qs : List Pr} {done : List Sh} (h : Sst n m i j ps qs done) (ok : PrsOk n m ps) : done.length ≤ n + m := by
  have := shs_le ok
  rw [← h.all, List.length_append] at this
  omega
theorem Sst.pair {n m i j k : Nat} {ps : List Pr} {done : List Sh} {a b : Int} (h : Sst n m i j ps (ps.drop k) done) (ok : PrsOk n m ps) (hk : ps[k]? = some (a, b)) :
    0 ≤ a ∧ a < n ∧ 0 ≤ b ∧ b < m ∧ (i : Int) ≤ a ∧ (j : Int) ≤ b ∧ Sst n m (a.toNat + 1) (b.toNat + 1) ps (ps.drop (k + 1)) (done ++ (gl i a.toNat ++ (gr j b.toNat ++ [(some a, some b)]))) := by
  have hkl : k < ps.length := (List.getElem?_eq_some_iff.mp hk).1
  have hd : ps.drop k = (a, b) :: ps.drop (k + 1) := by
    rw [List.drop_eq_getElem_cons hkl]
    have := (List.getElem?_eq_some_iff.mp hk).2
    rw [this]
  obtain ⟨h1, h2, h3, h4⟩ := ok.each (a, b) (List.mem_of_getElem? hk)
  have h1' : 0 ≤ a := h1
  have h2' : a < n := h2
  have h3' : 0 ≤ b := h3
  have h4' : b < m := h4
  obtain ⟨h5, h6⟩ := h.ah (a, b) (by rw [hd]; exact List.mem_cons_self)
  refine ⟨h1', h2', h3', h4', h5, h6, ?_, by omega, by omega, fun p hp => ?_⟩
  · rw [← h.all, hd]
    show _ = done ++ (gl i a.toNat ++ (gr j b.toNat ++ (some a, some b) :: shs n m (a.toNat + 1) (b.toNat + 1) (ps.drop (k + 1))))
    simp only [List.append_assoc, List.cons_append, List.nil_append]
  · have rise : (ps.drop k).Pairwise fun p q => p.1 < q.1 ∧ p.2 < q.2 := ok.rise.sublist (List.drop_sublist _ _)
    rw [hd] at rise
    obtain ⟨q1, q2⟩ := (List.pairwise_cons.mp rise).1 p hp
    have q1' : a < p.1 := q1
    have q2' : b < p.2 := q2
    push_cast
    omega
theorem Sst.last {n m i j : Nat} {ps : List Pr} {done : List Sh} (h : Sst n m i j ps [] done) : done ++ (gl i n ++ gr j m) = shs n m 0 0 ps := h.all
def topAt (bl br : Bor) (place : Int) (s : Sh) : Int := (enD bl br s).1 * (br.place - place) + (enD bl br s).2 * (place - bl.place)
structure ThkL (K : PySem.W.Frag) (H : Hp) (bl br : Bor) (place : Int) (ss : List Sh) (ws : List V) : Prop where
  len : ws.length = ss.length
  each : ∀ (k : Nat) (s : Sh), ss[k]? = some s → ∃ (a : Addr) (x y : Int), ws[k]? = some (.ref a) ∧ SqT K H a [.int x, .int y] ∧ RatOf (topAt bl br place s) (br.place - bl.place) x y
def spThick (K : PySem.W.Frag) : Sp := fun vs H Q _ => ∃ (v1 v2 : V) (bl br : Bor) (ms : List Str) (ph : Addr) (us : List V) (ps : List Pr) (place : Int), vs = [v1, v2, .ref ph, .int place] ∧ Rep K H (borD bl) v1 ∧ Rep K H (borD br) v2 ∧ BorOk ms bl ∧ BorOk ms br ∧ bl.place < br.place ∧ bl.place ≤ place ∧ place ≤ br.place ∧
  H ph = some (.lst us) ∧ RepL K H (ps.map prD) us ∧ PrsOk (lays bl).length (lays br).length ps ∧
  ∀ (p : Addr) (ws : List V) (H' : Hp), H p = none → H' p = some (.lst ws) → ThkL K H' bl br place (shs (lays bl).length (lays br).length 0 0 ps) ws → Same H H' → Q (.ref p) H'
theorem thL_bd {ms : List Str} {b : Bor} (ok : BlksOk ms b.blocks) (o : Option Int) : Bd 200 (thL (lays b) o) := by
  have e : (10 : Int) ^ 59 < 2 ^ 200 := by decide
  cases o with
  | none => show (0 : Int).natAbs < 2 ^ 200; decide
  | some i =>
    show ((lays b).getD i.toNat ("", 0)).2.natAbs < 2 ^ 200
    rw [List.getD_eq_getElem?_getD]
    cases h : (lays b)[i.toNat]? with
    | none => show (0 : Int).natAbs < 2 ^ 200; decide
    | some x =>
      obtain ⟨bl, hb, hx⟩ := List.mem_flatten.mp (List.mem_of_getElem? h)
      obtain ⟨_, h1, h2⟩ := ok.lay bl hb x hx
      show x.2.natAbs < 2 ^ 200
      omega
theorem far_bd {x y : Int} (h0 : 0 ≤ x) (h1 : x ≤ y) (h2 : y < 10 ^ 60) : Bd 200 (y - x) := by
  have e : (10 : Int) ^ 60 < 2 ^ 200 := by decide
  have e3 : (y - x).natAbs < 2 ^ 200 := by omega
  exact e3
theorem gl_fst (i k : Nat) : (gl i k).filterMap (·.1) = (List.range' i (k - i)).map fun x : Nat => (x : Int) := by
  unfold gl
  rw [List.filterMap_map, ← List.filterMap_eq_map]
  rfl
theorem gr_fst (i k : Nat) : (gr i k).filterMap (·.1) = [] := by
  unfold gr
  rw [List.filterMap_map]
  exact List.filterMap_eq_nil_iff.mpr fun _ _ => rfl
theorem gl_snd (i k : Nat) : (gl i k).filterMap (·.2) = [] := by
  unfold gl
  rw [List.filterMap_map]
  exact List.filterMap_eq_nil_iff.mpr fun _ _ => rfl
theorem gr_snd (i k : Nat) : (gr i k).filterMap (·.2) = (List.range' i (k - i)).map fun x : Nat => (x : Int) := by
  unfold gr
  rw [List.filterMap_map, ← List.filterMap_eq_map]
  rfl
theorem rng_cut {i a n : Nat} (h1 : i ≤ a) (h2 : a < n) : List.range' i (n - i) = List.range' i (a - i) ++ a :: List.range' (a + 1) (n - (a + 1)) := by
  have e := List.range'_append (s := i) (m := a - i) (n := n - a) (step := 1)
  rw [Nat.one_mul, show i + (a - i) = a by omega, show a - i + (n - a) = n - i by omega] at e
  rw [← e, show n - a = (n - (a + 1)) + 1 by omega, List.range'_succ]
theorem shs_fst (n m : Nat) : ∀ (ps : List Pr) (i j : Nat), ps.Pairwise (fun p q => p.1 < q.1 ∧ p.2 < q.2) → (∀ p ∈ ps, (i : Int) ≤ p.1 ∧ p.1 < n) → (shs n m i j ps).filterMap (·.1) = (List.range' i (n - i)).map fun x : Nat => (x : Int)
  | [], i, j, _, _ => by
    show (gl i n ++ gr j m).filterMap (·.1) = _
    rw [List.filterMap_append, gl_fst, gr_fst, List.append_nil]
  | (a, b) :: ps, i, j, hr, he => by
    obtain ⟨h1, h2⟩ := he (a, b) List.mem_cons_self
    have h1' : (i : Int) ≤ a := h1
    have h2' : a < n := h2
    obtain ⟨r1, r2⟩ := List.pairwise_cons.mp hr
    have ih := shs_fst n m ps (a.toNat + 1) (b.toNat + 1) r2 fun p hp => by
      have q1 : a < p.1 := (r1 p hp).1
      exact ⟨by push_cast; omega, (he p (List.mem_cons_of_mem _ hp)).2⟩
    show (gl i a.toNat ++ (gr j b.toNat ++ (some a, some b) :: shs n m (a.toNat + 1) (b.toNat + 1) ps)).filterMap (·.1) = _
    rw [List.filterMap_append, List.filterMap_append, gl_fst, gr_fst, List.nil_append, List.filterMap_cons]
    show _ ++ a :: (shs n m (a.toNat + 1) (b.toNat + 1) ps).filterMap (·.1) = _
    rw [ih, rng_cut (i := i) (a := a.toNat) (n := n) (by omega) (by omega), List.map_append, List.map_cons, Int.toNat_of_nonneg (by omega)]
theorem shs_snd (n m : Nat) : ∀ (ps : List Pr) (i j : Nat), ps.Pairwise (fun p q => p.1 < q.1 ∧ p.2 < q.2) → (∀ p ∈ ps, (j : Int) ≤ p.2 ∧ p.2 < m) → (shs n m i j ps).filterMap (·.2) = (List.range' j (m - j)).map fun x : Nat => (x : Int)
  | [], i, j, _, _ => by
    show (gl i n ++ gr j m).filterMap (·.2) = _
    rw [List.filterMap_append, gl_snd, gr_snd, List.nil_append]
  | (a, b) :: ps, i, j, hr, he => by
    obtain ⟨h1, h2⟩ := he (a, b) List.mem_cons_self
    have h1' : (j : Int) ≤ b := h1
    have h2' : b < m := h2
    obtain ⟨r1, r2⟩ := List.pairwise_cons.mp hr
    have ih := shs_snd n m ps (a.toNat + 1) (b.toNat + 1) r2 fun p hp => by
      have q1 : b < p.2 := (r1 p hp).2
      exact ⟨by push_cast; omega, (he p (List.mem_cons_of_mem _ hp)).2⟩
    show (gl i a.toNat ++ (gr j b.toNat ++ (some a, some b) :: shs n m (a.toNat + 1) (b.toNat + 1) ps)).filterMap (·.2) = _
    rw [List.filterMap_append, List.filterMap_append, gl_snd, gr_snd, List.nil_append, List.filterMap_cons]
    show _ ++ b :: (shs n m (a.toNat + 1) (b.toNat + 1) ps).filterMap (·.2) = _
    rw [ih, rng_cut (i := j) (a := b.toNat) (n := m) (by omega) (by omega), List.map_append, List.map_cons, Int.toNat_of_nonneg (by omega)]
section
variable {X : Cx}
theorem call_minL (K : PySem.W.Frag) (hc : X.calm = true := by rfl) (hK : X.K = K := by rfl) : CallR X (.builtin "min") (fun xs H Q => ∃ (p : Addr) (ns : List Int), xs = [.ref p] ∧ SqL K H p (ns.map V.int) ∧ ns ≠ [] ∧ ∀ m, m ∈ ns → Q (.int m) H) := by
  subst hK
  intro pins s σ H xs us Q I r h
  obtain ⟨p, ns, rfl, hq, hne, q⟩ := h
  obtain ⟨u, rfl, rx⟩ := vals1 r
  cases rx
  obtain ⟨its, r', pl, hz⟩ := I.list hq
  have hl := pl.isList
  have hlt : p < s.heap.objs.size := by obtain ⟨_, e, _⟩ := hl; exact Heap.lt_size e
  have hln : its.length = ns.length := by rw [← r'.length, List.length_map]
  have hpos : 0 < ns.length := List.length_pos_iff.mpr hne
  have val : ∀ (i : Nat) (v : Value), its.toArray[i]? = some v → ∃ t, v = .int (ns.getD i 0) t ∧ ns.getD i 0 ∈ ns := fun i v hP => by
    obtain ⟨x, hx, rx⟩ := vals_at r' (show its[i]? = some v by simpa using hP)
    rw [List.getElem?_map] at hx
    cases e : ns[i]? with
    | none => rw [e] at hx; cases hx
    | some z =>
      rw [e] at hx
      cases hx
      obtain ⟨t, rfl⟩ := rx
      refine ⟨t, ?_, ?_⟩
      · rw [List.getD_eq_getElem?_getD, e]; rfl
      · rw [List.getD_eq_getElem?_getD, e]; exact List.mem_of_getElem? e
  refine PySem.call_min_walk (PySem.wpAny_pyIter_list hl ⟨s.heap.objs.size, [s.heap.objs.size, p], [s.heap.objs.size], its.toArray.size, _, _, _, rfl, PySem.Walks.list (A := X.A.in1) (I.ok.hd hc) _ p (Nat.ne_of_lt hlt) its.toArray,
    ⟨⟨_, Heap.get?_push_size _ rfl, rfl, rfl⟩, hl.push _⟩, fun b hb => ?_, by rw [List.size_toArray]; omega, PySem.CmpOf.ints_lt (fun i => ns.getD i 0) (fun i v hP => by obtain ⟨t, e, _⟩ := val i v hP; exact ⟨t, e⟩), fun v h' tk hP hk => ?_⟩)
  · rw [Heap.size_push]
    rcases List.mem_cons.mp hb with rfl | hb
    · exact Nat.lt_succ_self _
    · rw [List.mem_singleton.mp hb]
      exact Nat.lt_succ_of_lt hlt
  · obtain ⟨m, t, e, hm⟩ : ∃ m t, v = Value.int m t ∧ m ∈ ns := by obtain ⟨t, e, hm⟩ := val _ v hP; exact ⟨_, t, e, hm⟩
    refine ⟨.int m, H, I.kept (t' := tk) fun b o e => hk b o (fun z => ?_) (Heap.get?_push_of_some _ e), ⟨t, e⟩, q _ hm⟩
    have z' : b = s.heap.objs.size := by simpa using z
    exact absurd (Heap.lt_size e) (by rw [z']; exact Nat.lt_irrefl _)
end
theorem RatOf.parts {t b x y : Int} (R : RatOf t b x y) : ∃ c, b = y * c ∧ t = x * c := by
  have hy := R.pos
  have h1 : y.natAbs ∣ x.natAbs * b.natAbs := by
    rw [← Int.natAbs_mul, R.same, Int.natAbs_mul]
    exact Nat.dvd_mul_left _ _
  have h2 : y.natAbs ∣ b.natAbs := Nat.Coprime.dvd_of_dvd_mul_left (show Nat.gcd y.natAbs x.natAbs = 1 by rw [Nat.gcd_comm]; exact R.low) h1
  obtain ⟨c, hc⟩ := Int.natAbs_dvd_natAbs.mp h2
  refine ⟨c, hc, ?_⟩
  have e := R.same
  rw [hc] at e
  have e2 : t * y = (x * c) * y := by rw [← e]; ac_rfl
  exact Int.eq_of_mul_eq_mul_right (by omega) e2
theorem RatOf.mk' {t b x y : Int} (hb : b ≠ 0) (hy : 0 < y) (low : Nat.gcd x.natAbs y.natAbs = 1) (same : x * b = t * y) : RatOf t b x y := by
  have h1 : y.natAbs ∣ x.natAbs * b.natAbs := by
    rw [← Int.natAbs_mul, same, Int.natAbs_mul]
    exact Nat.dvd_mul_left _ _
  have h2 : y.natAbs ∣ b.natAbs := Nat.Coprime.dvd_of_dvd_mul_left (show Nat.gcd y.natAbs x.natAbs = 1 by rw [Nat.gcd_comm]; exact low) h1
  obtain ⟨c, hc⟩ := Int.natAbs_dvd_natAbs.mp h2
  have e2 : t * y = (x * c) * y := by rw [← same, hc]; ac_rfl
  have ht : t = x * c := Int.eq_of_mul_eq_mul_right (by omega) e2
  have c0 : 0 < c.natAbs := by
    rcases Nat.eq_zero_or_pos c.natAbs with z | z
    · have : c = 0 := Int.natAbs_eq_zero.mp z
      rw [this, Int.mul_zero] at hc
      exact absurd hc hb
    · exact z
  exact ⟨hy, low, same, by rw [ht, Int.natAbs_mul]; exact Nat.le_mul_of_pos_right _ c0, by rw [hc, Int.natAbs_mul]; exact Nat.le_mul_of_pos_right _ c0⟩
theorem RatOf.minus {L t w x1 y1 x2 y2 x y : Int} (hw : w ≠ 0) (R1 : RatOf L w x1 y1) (R2 : RatOf t w x2 y2) (R : RatOf (x1 * y2 - x2 * y1) (y1 * y2) x y) : RatOf (L - t) w x y := by
  obtain ⟨c1, hc1, hL⟩ := R1.parts
  obtain ⟨c2, hc2, ht⟩ := R2.parts
  have e1 : L * (y1 * y2) = (x1 * y2) * w := by rw [hL, hc1]; ac_rfl
  have e2 : t * (y1 * y2) = (x2 * y1) * w := by rw [ht, hc2]; ac_rfl
  have h1 := R1.pos
  have h2 := R2.pos
  have hz : y1 * y2 ≠ 0 := Int.mul_ne_zero (by omega) (by omega)
  refine RatOf.mk' hw R.pos R.low (Int.eq_of_mul_eq_mul_right hz ?_)
  have e3 : (L - t) * y * (y1 * y2) = ((L - t) * (y1 * y2)) * y := by ac_rfl
  have e4 : x * w * (y1 * y2) = (x * (y1 * y2)) * w := by ac_rfl
  rw [e3, e4, R.same, Int.sub_mul L t, e1, e2, ← Int.sub_mul]
  ac_rfl
theorem RatOf.div {t b x y : Int} (R : RatOf t b x y) (hb : 0 < b) : b % y = 0 ∧ x * (b / y) = t := by
  obtain ⟨c, hc, ht⟩ := R.parts
  have hy := R.pos
  rw [hc, ht]
  exact ⟨Int.mul_emod_right y c, by rw [Int.mul_ediv_cancel_left c (by omega)]⟩
structure RatL (K : PySem.W.Frag) (H : Hp) (w : Int) (ts : List Int) (ws : List V) : Prop where
  len : ws.length = ts.length
  each : ∀ (k : Nat) (t : Int), ts[k]? = some t → ∃ (a : Addr) (x y : Int), ws[k]? = some (.ref a) ∧ SqT K H a [.int x, .int y] ∧ RatOf t w x y
theorem RatL.keepT {K : PySem.W.Frag} {H H' : Hp} {w : Int} {ts : List Int} {ws : List V} (h : RatL K H w ts ws) (k : KeepT K H H') : RatL K H' w ts ws :=
  ⟨h.len, fun i t hi => by obtain ⟨a, x, y, h1, h2, h3⟩ := h.each i t hi; exact ⟨a, x, y, h1, k _ _ h2, h3⟩⟩
theorem RatL.snoc {K : PySem.W.Frag} {H : Hp} {w : Int} {ts : List Int} {ws : List V} {z : Addr} {x y t : Int} (h : RatL K H w ts ws) (hz : SqT K H z [.int x, .int y]) (R : RatOf t w x y) : RatL K H w (ts ++ [t]) (ws ++ [.ref z]) := by
  refine ⟨by rw [List.length_append, List.length_append, h.len]; rfl, fun i s hi => ?_⟩
  rw [List.getElem?_append] at hi
  by_cases hl : i < ts.length
  · rw [if_pos hl] at hi
    obtain ⟨a, x', y', h1, h2, h3⟩ := h.each i s hi
    exact ⟨a, x', y', by rw [List.getElem?_append_left (by rw [h.len]; exact hl)]; exact h1, h2, h3⟩
  · rw [if_neg hl] at hi
    have h0' : i - ts.length < 1 := (List.getElem?_eq_some_iff.mp hi).1
    have hi' : i = ts.length := by omega
    subst hi'
    have e' : t = s := by simpa using hi
    subst e'
    exact ⟨z, x, y, by rw [← h.len, List.getElem?_append_right (Nat.le_refl _), Nat.sub_self]; rfl, hz, R⟩
theorem ThkL.rat {K : PySem.W.Frag} {H : Hp} {bl br : Bor} {place : Int} {ss : List Sh} {ws : List V} (h : ThkL K H bl br place ss ws) : RatL K H (br.place - bl.place) (ss.map (topAt bl br place)) ws := by
  refine ⟨by rw [h.len, List.length_map], fun i t hi => ?_⟩
  rw [List.getElem?_map] at hi
  cases e : ss[i]? with
  | none => rw [e] at hi; cases hi
  | some s =>
    rw [e] at hi
    have e' : topAt bl br place s = t := Option.some.inj hi
    subst e'
    exact h.each i s e
theorem preSum_eq (ns : List Int) : ∀ n, n ≤ ns.length → PySem.preSum (fun i => ns.getD i 0) n = (ns.take n).sum := by
  intro n
  induction n with
  | zero => intro _; simp [PySem.preSum]
  | succ n ih =>
    intro h
    have e : ns[n]? = some ns[n] := List.getElem?_eq_getElem (by omega)
    have e2 : ns.getD n 0 = ns[n] := by rw [List.getD_eq_getElem?_getD, e]; rfl
    show PySem.preSum (fun i => ns.getD i 0) n + ns.getD n 0 = _
    rw [ih (by omega), List.take_add_one, e, List.sum_append, e2]
    simp
theorem preSum_all (ns : List Int) : PySem.preSum (fun i => ns.getD i 0) ns.length = ns.sum := by rw [preSum_eq _ _ (Nat.le_refl _), List.take_length]
def sumT (xs : List Lay) : Int := (xs.map (·.2)).sum
theorem top_sum (bl br : Bor) (place : Int) : ∀ ss : List Sh, (ss.map (topAt bl br place)).sum = (ss.map fun s => thL (lays bl) s.1).sum * (br.place - place) + (ss.map fun s => thL (lays br) s.2).sum * (place - bl.place)
  | [] => by simp
  | s :: ss => by
    rw [List.map_cons, List.sum_cons, top_sum bl br place ss, List.map_cons, List.sum_cons, List.map_cons, List.sum_cons]
    show thL (lays bl) s.1 * (br.place - place) + thL (lays br) s.2 * (place - bl.place) + _ = _
    rw [Int.add_mul, Int.add_mul]
    omega
theorem th_sum (xs : List Lay) (f : Sh → Option Int) : ∀ ss : List Sh, (ss.map fun s => thL xs (f s)).sum = ((ss.filterMap f).map fun i => thL xs (some i)).sum
  | [] => rfl
  | s :: ss => by
    rw [List.map_cons, List.sum_cons, th_sum xs f ss, List.filterMap_cons]
    cases e : f s with
    | none =>
      show 0 + _ = _
      rw [Int.zero_add]
    | some i =>
      rw [List.map_cons, List.sum_cons]
theorem th_all (xs : List Lay) : (((List.range' 0 (xs.length - 0)).map fun x : Nat => (x : Int)).map fun i => thL xs (some i)).sum = sumT xs := by
  unfold sumT
  congr 1
  rw [Nat.sub_zero, List.map_map]
  refine List.ext_getElem? fun i => ?_
  rw [List.getElem?_map, List.getElem?_map]
  by_cases h : i < xs.length
  · rw [List.getElem?_range' h, List.getElem?_eq_getElem h]
    show some (thL xs (some (((0 + 1 * i : Nat)) : Int))) = _
    rw [Nat.one_mul, Nat.zero_add, thL_at (by rw [List.getElem?_map, List.getElem?_eq_getElem h]; rfl)]
    rfl
  · rw [List.getElem?_eq_none (by rw [List.length_range']; omega), List.getElem?_eq_none (by omega)]
    rfl
def lineF (G : Int) (ts : List Int) (k : Nat) : Int := G - (ts.take k).sum
def lineL (G : Int) (ts : List Int) (k : Nat) : List Int := (List.range (k + 1)).map (lineF G ts)
theorem lineF_succ {G : Int} {ts : List Int} {k : Nat} {t : Int} (h : ts[k]? = some t) : lineF G ts (k + 1) = lineF G ts k - t := by
  unfold lineF
  rw [List.take_add_one, h, List.sum_append]
  simp
  omega
theorem lineL_succ (G : Int) (ts : List Int) (k : Nat) : lineL G ts (k + 1) = lineL G ts k ++ [lineF G ts (k + 1)] := by
  unfold lineL
  rw [List.range_succ, List.map_append]
  rfl
theorem lineL_len (G : Int) (ts : List Int) (k : Nat) : (lineL G ts k).length = k + 1 := by unfold lineL; rw [List.length_map, List.length_range]
theorem lineL_at (G : Int) (ts : List Int) {k i : Nat} (h : i ≤ k) : (lineL G ts k)[i]? = some (lineF G ts i) := by
  unfold lineL
  rw [List.getElem?_map, List.getElem?_range (by omega)]
  rfl
def spLayers (K : PySem.W.Frag) : Sp := spLLayers K
def spWedges (K : PySem.W.Frag) : Sp := fun vs H Q _ => ∃ (a b : Addr) (i j k l : Nat), vs = [.ref a, .ref b] ∧ SqT K H a [.int i, .int j] ∧ SqT K H b [.int k, .int l] ∧ i ≤ 10 ∧ j ≤ 10 ∧ k ≤ 10 ∧ l ≤ 10 ∧
  ∀ (p : Addr) (ws : List V) (H' : Hp), H p = none → H' p = some (.lst ws) → RepL K H' ((gl i k ++ gr j l).map shD) ws → Same H H' → Q (.ref p) H'
theorem rng'_snoc (i n : Nat) : List.range' i (n + 1) = List.range' i n ++ [i + n] := by
  rw [List.range'_concat, Nat.one_mul]
theorem toNat_sub (k i : Nat) : ((k : Int) - (i : Int)).toNat = k - i := by omega
section
variable {P : Program} {w : World} {K : PySem.W.Frag} {mg : Str → Option Value} {base : Heap} {t : Adr}
theorem ok_layers_of (T : Txt K mg t) : FnOk P w K mg base CX0 1 t.a_layers_of t.d_layers_of ["bore"] (spLayers K) := by
  refine T.F_layers_of.ok sc_layers_of (fun vs H Q E h => ?_) (fun cdv A outer s H vs Q E hr h => ?_)
  · obtain ⟨v, b, ms, rfl, _⟩ := h; rfl
  · obtain ⟨v, b, ms, rfl, rep, ok, q⟩ := h
    let X_ : Cx := (cxOf CX0 P w K mg base ["bore", "layers", "block"] "layers_of" (defScope s_layers_of) t.a_layers_of cdv A outer s H E).nox
    let u1_ : PSV (X_) (List.drop 2 (defBody s_layers_of)) := ⟨_, (pss_one (ps_ret (pv 1)))⟩
    let w1_ : TS := u1_.1
    have e1_ : PSs (X_) (List.drop 2 (defBody s_layers_of)) w1_ := u1_.2
    let u2_ : PSV (X_) (List.drop 1 (defBody s_layers_of)) := ⟨_, (pss_cons (ps_for PassesOwn.never rfl (pi_seqK K (pe_ix (ix_K K) (pv 0) pe_int (fun _ _ => rfl))) (pg_name (i := 2) sc_layers_of.nd rfl (Or.inl rfl))
      (pss_one (ps_expr (pe_bmK K PySem.F.plainAttrs_list PySem.F.slot_list_extend PySem.F.type_list_extend (mt_extT K) (pv 1) (pa_cons (pv 2) pa_nil)))))
      e1_)⟩
    let w2_ : TS := u2_.1
    have e2_ : PSs (X_) (List.drop 1 (defBody s_layers_of)) w2_ := u2_.2
    refine ⟨_, (pss_cons (ps_set (i := 1) sc_layers_of.nd rfl (Or.inl rfl) (pe_lst pa_nil))
      e2_), ?_⟩
    obtain ⟨a, vb, rfl, hq, av, ub, rfl, hqb, rlb⟩ := rep_bor rep
    have hub := repl_len rlb
    refine ⟨Nat.zero_le _, fun p hp => ?_⟩
    have s1 : Same H (upd H p (.lst [])) := Same.new hp
    let Pv1_ : Nat → St → Hp → Prop := fun i σ H' => ∃ (us : List V) (o : Option V), σ = [some (.ref a), some (.ref p), o] ∧ H' p = some (.lst us) ∧ RepL K H' ((b.blocks.take i).flatten.map layD) us ∧ Same H H'
    refine ⟨_, rfl, .inr (.inl ⟨a, _, _, _, rfl, rfl, s1.seqT hq, rfl, Itt K av, .tup (s1.seqT hqb), for_tup (xs := ub) Pv1_
      ⟨[], none, rfl, upd_same, rfl, s1⟩ (fun i σ H' _ ⟨_, _, _, _, _, s⟩ => s.seqT hqb) ?_ ?_⟩)⟩
    · rintro i u σ H1 hu1 ⟨us, o, rfl, hp1, rl1, s01⟩
      obtain ⟨bl, hbl, au, vs, rfl, hqu, rlu⟩ := repl_at rlb hu1
      have hus : us.length = (b.blocks.take i).flatten.length := repl_len rl1
      have hvs : vs.length = bl.length := repl_len rlu
      have h6 : (b.blocks.take (i + 1)).flatten.length ≤ 6 := Nat.le_trans (flat_take_le _ _) ok.few
      rw [take_flat hbl, List.length_append] at h6
      refine ⟨_, rfl, .inl ⟨rfl, _, SqL.of hp1⟩, _, rfl, p, au, us, vs, rfl, rfl, hp1, s01.seqT hqu, small8 (by omega), ?_⟩
      have s12 : Same H (upd H1 p (.lst (us ++ vs))) := fun c o' e => by rw [upd_ne (ne_of_none e hp)]; exact s01 c o' e
      refine ⟨us ++ vs, _, rfl, upd_same, ?_, s12⟩
      rw [take_flat hbl, List.map_append]
      exact RepL.append (rl1.keepT (keepT_upd hp1) (lays_pure _)) (rlu.same s12)
    · rintro σ H1 ⟨us, o, rfl, hp1, rl1, s01⟩
      rw [hub, List.take_length] at rl1
      exact ⟨_, rfl, q p us H1 hp hp1 rl1 s01⟩
theorem ok_wedges (T : Txt K mg t) : FnOk P w K mg base CX0 1 t.a_wedges t.d_wedges ["begin", "end"] (spWedges K) := by
  refine T.F_wedges.ok sc_wedges (fun vs H Q E h => ?_) (fun cdv A outer s H vs Q E hr h => ?_)
  · obtain ⟨a, b, i, j, k, l, rfl, _⟩ := h; rfl
  · obtain ⟨a, b, i, j, k, l, rfl, ha, hb, i6, j6, k6, l6, q⟩ := h
    let X_ : Cx := (cxOf CX0 P w K mg base ["begin", "end", "ones", "others"] "wedges" (defScope s_wedges) t.a_wedges cdv A outer s H E).nox
    let u1_ : PSV (X_) (List.drop 2 (defBody s_wedges)) := ⟨_, (pss_one (ps_ret (pe_op (op_addU K) (pv 2) (pv 3))))⟩
    let w1_ : TS := u1_.1
    have e1_ : PSs (X_) (List.drop 2 (defBody s_wedges)) w1_ := u1_.2
    let u2_ : PSV (X_) (List.drop 1 (defBody s_wedges)) := ⟨_, (pss_cons (ps_cmpS (ix := 3) sc_wedges.nd rfl (Or.inl rfl) ["begin", "end", "ones", "others"] (defScope s_wedges) ["number"] [none] (pi_range2 rfl T.N_range (pa_cons (pe_ix (ix_K K) (pv 0) pe_int (fun _ _ => rfl)) (pa_cons (pe_ix (ix_K K) (pv 1) pe_int (fun _ _ => rfl)) pa_nil)))
      (fun _ _ _ _ _ => (pg_name (i := 0) (show List.Nodup (["number"] : List Str) from (by decide +kernel)) rfl (Or.inl rfl))) (fun _ _ _ _ _ => pts_nil) (fun _ _ _ _ _ => (pe_tup (pa_cons pe_non (pa_cons (pv 0) pa_nil)))))
      e1_)⟩
    let w2_ : TS := u2_.1
    have e2_ : PSs (X_) (List.drop 1 (defBody s_wedges)) w2_ := u2_.2
    refine ⟨_, (pss_cons (ps_cmpS (ix := 2) sc_wedges.nd rfl (Or.inl rfl) ["begin", "end", "ones", "others"] (defScope s_wedges) ["number"] [none] (pi_range2 rfl T.N_range (pa_cons (pe_ix (ix_K K) (pv 0) pe_int (fun _ _ => rfl)) (pa_cons (pe_ix (ix_K K) (pv 1) pe_int (fun _ _ => rfl)) pa_nil)))
      (fun _ _ _ _ _ => (pg_name (i := 0) (show List.Nodup (["number"] : List Str) from (by decide +kernel)) rfl (Or.inl rfl))) (fun _ _ _ _ _ => pts_nil) (fun _ _ _ _ _ => (pe_tup (pa_cons (pv 0) (pa_cons pe_non pa_nil)))))
      e2_), ?_⟩
    have big : ∀ x : Nat, x ≤ 1000 → -(2 ^ 62) ≤ (x : Int) ∧ (x : Int) < 2 ^ 62 := fun x h1 => ⟨Int.le_trans (by decide) (Int.natCast_nonneg x), Int.lt_of_le_of_lt (Int.ofNat_le.mpr h1) (by decide)⟩
    refine ⟨_, rfl, .inr (.inl ⟨a, _, _, _, rfl, rfl, ha, rfl, _, rfl, .inr (.inl ⟨b, _, _, _, rfl, rfl, hb, rfl, _, _, rfl, ⟨(big i (by omega)).1, (big i (by omega)).2, (big k (by omega)).1, (big k (by omega)).2⟩, fun D hD => ?_⟩)⟩)⟩
    rw [toNat_sub]
    refine comp_rng (fun x ys H' => RepL K H' (((List.range' i x).map fun y : Nat => ((some (y : Int), none) : Sh)).map shD) ys) hD rfl ?_ ?_
    · rintro x mm ys H2 hx hm s2 hy hl rq
      refine ⟨SubS.set (SubS.refl _) rfl, _, rfl, by show 2 ≤ sizeLine; decide, fun z hz => ?_⟩
      have s4 := Same.new (o := .tup [.int ((i : Int) + x), .non]) hz
      refine wl_next hD hx hm (small1000 (by omega)) s2 hy hl s4 ?_
      rw [rng'_snoc, List.map_append, List.map_append]
      have k2 := keepT_upd (K := K) (ys := ys ++ [.ref z]) (s4 _ _ hy)
      refine RepL.append ((rq.same s4).keepT k2 (shs_pure _)) (RepL.one (Rep.keepT k2 (sh_pure _) (sh_tup ?_)))
      show _ = some (HO.tup [V.int ((i + x : Nat) : Int), V.non])
      rw [upd_same]
      push_cast
      rfl
    rintro ys H2 s2 hy hl rq
    have e1 := repl_len rq
    refine ⟨_, rfl, .inr (.inl ⟨a, _, _, _, rfl, rfl, s2.seqT ha, rfl, _, rfl, .inr (.inl ⟨b, _, _, _, rfl, rfl, s2.seqT hb, rfl, _, _, rfl, ⟨(big j (by omega)).1, (big j (by omega)).2, (big l (by omega)).1, (big l (by omega)).2⟩, fun D2 hD2 => ?_⟩)⟩)⟩
    rw [toNat_sub]
    refine comp_rng (fun x ys H' => RepL K H' (((List.range' j x).map fun y : Nat => ((none, some (y : Int)) : Sh)).map shD) ys) hD2 rfl ?_ ?_
    · rintro x mm ys H3 hx hm s3 hy hl rq
      refine ⟨SubS.set (SubS.refl _) rfl, _, rfl, by show 2 ≤ sizeLine; decide, fun z hz => ?_⟩
      have s4 := Same.new (o := .tup [.non, .int ((j : Int) + x)]) hz
      refine wl_next hD2 hx hm (small1000 (by omega)) s3 hy hl s4 ?_
      rw [rng'_snoc, List.map_append, List.map_append]
      have k2 := keepT_upd (K := K) (ys := ys ++ [.ref z]) (s4 _ _ hy)
      refine RepL.append ((rq.same s4).keepT k2 (shs_pure _)) (RepL.one (Rep.keepT k2 (sh_pure _) (sh_tup ?_)))
      show _ = some (HO.tup [V.non, V.int ((j + x : Nat) : Int)])
      rw [upd_same]
      push_cast
      rfl
    rintro zs H3 s3 hz hlz rz
    have e2 := repl_len rz
    have hy3 := s3 _ _ hy
    refine ⟨_, rfl, _, rfl, .inr (.inr (.inl ⟨D, D2, ys, zs, rfl, rfl, hy3, hz, small8 (by omega), fun p hp => ?_⟩))⟩
    have s4 := Same.new (o := .lst (ys ++ zs)) hp
    refine q p _ _ ((s2.trans s3).free hp) upd_same ?_ ((s2.trans s3).trans s4)
    rw [List.map_append]
    exact RepL.append ((rq.same s3).same s4) (rz.same s4)
theorem ok_sheets (T : Txt K mg t) : FnOk P w K mg base CX0 2 t.a_sheets t.d_sheets ["left", "right", "pairs"] (spSheets K) := by
  refine T.F_sheets.ok sc_sheets (fun vs H Q E h => ?_) (fun cdv A outer s H vs Q E hr h => ?_)
  · obtain ⟨v1, v2, b1, b2, ms, ph, us, ps, rfl, _⟩ := h; rfl
  · obtain ⟨v1, v2, bl, br, ms, pp, us, ps, rfl, r1, r2, okl, okr, hpp, rps, ok, q⟩ := h
    let X_ : Cx := (cxOf CX0 P w K mg base ["left", "right", "pairs", "drawn", "begin", "one", "other"] "sheets" (defScope s_sheets) t.a_sheets cdv A outer s H E).nox
    let u1_ : PSV (X_) (List.drop 4 (defBody s_sheets)) := ⟨_, (pss_one (ps_ret (pv 3)))⟩
    let w1_ : TS := u1_.1
    have e1_ : PSs (X_) (List.drop 4 (defBody s_sheets)) w1_ := u1_.2
    let u2_ : PSV (X_) (List.drop 2 (bodyOf (stAt (defBody s_sheets) 2))) := ⟨_, (pss_one (ps_set (i := 4) sc_sheets.nd rfl (Or.inl rfl) (pe_tup (pa_cons (pe_op (op_addU K) (pv 5) pe_int) (pa_cons (pe_op (op_addU K) (pv 6) pe_int) pa_nil)))))⟩
    let w2_ : TS := u2_.1
    have e2_ : PSs (X_) (List.drop 2 (bodyOf (stAt (defBody s_sheets) 2))) w2_ := u2_.2
    let u3_ : PSV (X_) (List.drop 1 (bodyOf (stAt (defBody s_sheets) 2))) := ⟨_, (pss_cons (ps_expr (pe_bmK K PySem.F.plainAttrs_list PySem.F.slot_list_append PySem.F.type_list_append mt_append (pv 3) (pa_cons (pe_tup (pa_cons (pv 5) (pa_cons (pv 6) pa_nil))) pa_nil)))
      e2_)⟩
    let w3_ : TS := u3_.1
    have e3_ : PSs (X_) (List.drop 1 (bodyOf (stAt (defBody s_sheets) 2))) w3_ := u3_.2
    let u4_ : PSV (X_) (List.drop 3 (defBody s_sheets)) := ⟨_, (pss_cons (ps_expr (pe_bmK K PySem.F.plainAttrs_list PySem.F.slot_list_extend PySem.F.type_list_extend mt_extend (pv 3) (pa_cons (pe_call (ok_wedges (K := K) T) (hr.mono (by decide)) rfl T.G_wedges T.F_wedges.kp T.B_wedges .nil pass0 (pa_cons (pv 4) (pa_cons (pe_tup (pa_cons (pe_callB (call_lenK K) rfl T.N_len bt_len (pa_cons (pe_call (ok_layers_of (K := K) T) (hr.mono (by decide)) rfl T.G_layers_of T.F_layers_of.kp T.B_layers_of .nil pass0 (pa_cons (pv 0) pa_nil)) pa_nil)) (pa_cons (pe_callB (call_lenK K) rfl T.N_len bt_len (pa_cons (pe_call (ok_layers_of (K := K) T) (hr.mono (by decide)) rfl T.G_layers_of T.F_layers_of.kp T.B_layers_of .nil pass0 (pa_cons (pv 1) pa_nil)) pa_nil)) pa_nil))) pa_nil))) pa_nil)))
      e1_)⟩
    let w4_ : TS := u4_.1
    have e4_ : PSs (X_) (List.drop 3 (defBody s_sheets)) w4_ := u4_.2
    let u5_ : PSV (X_) (List.drop 2 (defBody s_sheets)) := ⟨_, (pss_cons (ps_for PassesOwn.never rfl (pi_seqK K (pv 2)) (pg_tupK K (n := 2) rfl (pgs_cons (pg_name (i := 5) sc_sheets.nd rfl (Or.inl rfl)) (pgs_cons (pg_name (i := 6) sc_sheets.nd rfl (Or.inl rfl)) pgs_nil)))
      (pss_cons (ps_expr (pe_bmK K PySem.F.plainAttrs_list PySem.F.slot_list_extend PySem.F.type_list_extend mt_extend (pv 3) (pa_cons (pe_call (ok_wedges (K := K) T) (hr.mono (by decide)) rfl T.G_wedges T.F_wedges.kp T.B_wedges .nil pass0 (pa_cons (pv 4) (pa_cons (pe_tup (pa_cons (pv 5) (pa_cons (pv 6) pa_nil))) pa_nil))) pa_nil)))
      e3_))
      e4_)⟩
    let w5_ : TS := u5_.1
    have e5_ : PSs (X_) (List.drop 2 (defBody s_sheets)) w5_ := u5_.2
    let u6_ : PSV (X_) (List.drop 1 (defBody s_sheets)) := ⟨_, (pss_cons (ps_set (i := 4) sc_sheets.nd rfl (Or.inl rfl) (pe_tup (pa_cons pe_int (pa_cons pe_int pa_nil))))
      e5_)⟩
    let w6_ : TS := u6_.1
    have e6_ : PSs (X_) (List.drop 1 (defBody s_sheets)) w6_ := u6_.2
    refine ⟨_, (pss_cons (ps_set (i := 3) sc_sheets.nd rfl (Or.inl rfl) (pe_lst pa_nil))
      e6_), ?_⟩
    have l6 : (lays bl).length ≤ 6 := okl.blocks.few
    have r6 : (lays br).length ≤ 6 := okr.blocks.few
    have p6 := ok.few
    have ul := repl_len rps
    refine ⟨Nat.zero_le _, fun p hp => ?_⟩
    have s1 : Same H (upd H p (.lst [])) := Same.new hp
    have hp1 : (upd H p (.lst [])) p = some (.lst []) := upd_same
    generalize upd H p (.lst []) = H1 at s1 hp1
    refine ⟨by show 2 ≤ sizeLine; decide, fun z hz => ?_⟩
    have s2 : Same H1 (upd H1 z (.tup [.int 0, .int 0])) := Same.new hz
    have hz2 : SqT K (upd H1 z (.tup [.int 0, .int 0])) z [.int ((0 : Nat) : Int), .int ((0 : Nat) : Int)] := SqT.of upd_same
    have hp2 := s2 _ _ hp1
    have s02 := s1.trans s2
    generalize upd H1 z (.tup [.int 0, .int 0]) = H2 at s2 hz2 hp2 s02
    let Pv2_ : Nat → St → Hp → Prop := fun k σ H' => ∃ (zb : Addr) (i j : Nat) (done : List Sh) (ws : List V) (o5 o6 : Option V), σ = [some v1, some v2, some (.ref pp), some (.ref p), some (.ref zb), o5, o6] ∧ SqT K H' zb [.int i, .int j] ∧ H' p = some (.lst ws) ∧ RepL K H' (done.map shD) ws ∧ Sst (lays bl).length (lays br).length i j ps (ps.drop k) done ∧ Same H H'
    refine ⟨_, rfl, Itl K pp, .lst (SqL.of (s02 _ _ hpp)), for_list (xs := us) Pv2_
      ⟨z, 0, 0, [], [], none, none, rfl, hz2, hp2, rfl, ⟨rfl, Nat.zero_le _, Nat.zero_le _, fun p hp => by obtain ⟨a, _, c, _⟩ := ok.each p hp; exact ⟨a, c⟩⟩, s02⟩ (fun i σ H' _ h => by obtain ⟨_, _, _, _, _, _, _, _, _, _, _, _, s⟩ := h; exact SqL.of (s _ _ hpp)) ?_ ?_⟩
    · rintro k u σ H3 hu ⟨zb, i, j, done, ws, o5, o6, rfl, hzb, hp3, rd, S, s03⟩
      obtain ⟨⟨a, b⟩, hx, ru⟩ := repl_at rps hu
      obtain ⟨ad, rfl, hq⟩ := rep_pr ru
      obtain ⟨a0, an, b0, bm, ia, jb, S'⟩ := S.pair ok hx
      have dl := S.len ok
      have dl' := S'.len ok
      have il := S.il
      have jl := S.jl
      rw [List.length_append, List.length_append, List.length_append, gl_len, gr_len] at dl'
      have dl2 : done.length + (a.toNat - i + (b.toNat - j + 1)) ≤ (lays bl).length + (lays br).length := dl'
      have hwl := repl_len rd
      refine ⟨ad, _, rfl, s03.seqT hq, rfl, _, _, rfl, _, _, rfl, rfl, ?_⟩
      refine ⟨_, rfl, .inl ⟨rfl, _, SqL.of hp3⟩, _, rfl, _, rfl, _, rfl, by show 2 ≤ sizeLine; decide, fun z4 hz4 => ?_⟩
      have s4 := Same.new (o := .tup [.int a, .int b]) hz4
      have hz4' : SqT K (upd H3 z4 (.tup [.int a, .int b])) z4 [.int ((a.toNat : Nat) : Int), .int ((b.toNat : Nat) : Int)] := SqT.of (by rw [upd_same, Int.toNat_of_nonneg a0, Int.toNat_of_nonneg b0])
      refine ⟨zb, z4, i, j, a.toNat, b.toNat, rfl, s4.seqT hzb, hz4', by omega, by omega, by omega, by omega, fun p5 w5 H5 hp5n hp5 r5 s5 => ?_⟩
      have dn : ∀ {Hx : Hp}, Same H3 Hx → RepL K Hx (done.map shD) ws := fun s => rd.same s
      have s35 := s4.trans s5
      have hp5d := s35 _ _ hp3
      have r5l := repl_len r5
      rw [List.length_append, gl_len, gr_len] at r5l
      refine ⟨p, p5, ws, w5, rfl, rfl, hp5d, hp5, small8 (by omega), ?_⟩
      have pH : ∀ {c : Addr} {o : HO}, H c = some o → c ≠ p := fun e => ne_of_none e hp
      have r6 : RepL K (upd H5 p (.lst (ws ++ w5))) ((done ++ (gl i a.toNat ++ gr j b.toNat)).map shD) (ws ++ w5) := by
        rw [List.map_append]
        exact (RepL.append (dn s35) r5).keepT (keepT_upd hp5d) (by rw [← List.map_append]; exact shs_pure _)
      have s06 : Same H (upd H5 p (.lst (ws ++ w5))) := fun c o' e => by rw [upd_ne (pH e)]; exact (s03.trans s35) c o' e
      have hp6 : (upd H5 p (.lst (ws ++ w5))) p = some (.lst (ws ++ w5)) := upd_same
      generalize upd H5 p (.lst (ws ++ w5)) = H6 at r6 s06 hp6
      refine ⟨_, rfl, .inl ⟨rfl, _, SqL.of hp6⟩, _, rfl, _, rfl, by show 2 ≤ sizeLine; decide, fun z7 hz7 => ?_⟩
      have s7 := Same.new (o := .tup [.int a, .int b]) hz7
      have hp7 := s7 _ _ hp6
      refine ⟨p, ws ++ w5, _, rfl, rfl, hp7, small1000 (by rw [List.length_append]; omega), ?_⟩
      have r8 : RepL K (upd (upd H6 z7 (.tup [.int a, .int b])) p (.lst ((ws ++ w5) ++ [.ref z7]))) ((done ++ (gl i a.toNat ++ (gr j b.toNat ++ [(some a, some b)]))).map shD) ((ws ++ w5) ++ [.ref z7]) := by
        rw [show done ++ (gl i a.toNat ++ (gr j b.toNat ++ [(some a, some b)])) = (done ++ (gl i a.toNat ++ gr j b.toNat)) ++ [(some a, some b)] by simp only [List.append_assoc], List.map_append]
        exact RepL.append ((r6.same s7).keepT (keepT_upd hp7) (shs_pure _)) (RepL.one (Rep.keepT (keepT_upd hp7) (sh_pure _) (sh_tup upd_same)))
      have s08 : Same H (upd (upd H6 z7 (.tup [.int a, .int b])) p (.lst ((ws ++ w5) ++ [.ref z7]))) := fun c o' e => by rw [upd_ne (pH e)]; exact (s06.trans s7) c o' e
      have hp8 : (upd (upd H6 z7 (.tup [.int a, .int b])) p (.lst ((ws ++ w5) ++ [.ref z7]))) p = some (.lst ((ws ++ w5) ++ [.ref z7])) := upd_same
      generalize upd (upd H6 z7 (.tup [.int a, .int b])) p (.lst ((ws ++ w5) ++ [.ref z7])) = H8 at r8 s08 hp8
      refine ⟨_, rfl, .inl ⟨_, _, rfl, rfl, _, rfl, .inl ⟨_, _, rfl, rfl, by show 2 ≤ sizeLine; decide, fun z9 hz9 => ?_⟩⟩⟩
      have s9 := Same.new (o := .tup [.int (a + 1), .int (b + 1)]) hz9
      refine ⟨z9, a.toNat + 1, b.toNat + 1, _, _, _, _, rfl, SqT.of ?_, s9 _ _ hp8, r8.same s9, S', s08.trans s9⟩
      rw [upd_same]
      push_cast
      rw [Int.toNat_of_nonneg a0, Int.toNat_of_nonneg b0]
    · rintro σ H3 ⟨zb, i, j, done, ws, o5, o6, rfl, hzb, hp3, rd, S, s03⟩
      rw [ul, List.drop_length] at S
      have dl := S.last
      have il := S.il
      have jl := S.jl
      have dl' := shs_le ok
      rw [← dl, List.length_append, List.length_append, gl_len, gr_len] at dl'
      have hwl := repl_len rd
      refine ⟨_, rfl, .inl ⟨rfl, _, SqL.of hp3⟩, _, rfl, _, rfl, v1, bl, ms, rfl, r1.same s03, okl.blocks, fun pa ua H4 _ hpa ra s4 => ?_⟩
      have e4 := repl_len ra
      refine ⟨_, _, rfl, .inl ⟨_, SqL.of hpa, rfl⟩, ?_⟩
      refine ⟨_, rfl, v2, br, ms, rfl, (r2.same s03).same s4, okr.blocks, fun pb ub H5 _ hpb rb s5 => ?_⟩
      have e5 := repl_len rb
      refine ⟨_, _, rfl, .inl ⟨_, SqL.of hpb, rfl⟩, ?_⟩
      rw [e4, e5]
      refine ⟨by show 2 ≤ sizeLine; decide, fun z6 hz6 => ?_⟩
      have s6 := Same.new (o := .tup [.int ((lays bl).length : Nat), .int ((lays br).length : Nat)]) hz6
      have s36 := (s4.trans s5).trans s6
      refine ⟨zb, z6, i, j, _, _, rfl, s36.seqT hzb, SqT.of upd_same, by omega, by omega, by omega, by omega, fun p7 w7 H7 hp7n hp7 r7 s7 => ?_⟩
      have r7l := repl_len r7
      rw [List.length_append, gl_len, gr_len] at r7l
      have s37 := s36.trans s7
      refine ⟨p, p7, ws, w7, rfl, rfl, s37 _ _ hp3, hp7, small8 (by omega), ?_⟩
      refine ⟨_, rfl, q p _ _ hp upd_same ?_ fun c o' e => by rw [upd_ne (ne_of_none e hp)]; exact (s03.trans s37) c o' e⟩
      rw [← dl, List.map_append]
      exact (RepL.append (rd.same s37) r7).keepT (keepT_upd (s37 _ _ hp3)) (by rw [← List.map_append]; exact shs_pure _)
end
def spRatio : Sp := fun vs H Q _ => ∃ t b : Int, vs = [.int t, .int b] ∧ b ≠ 0 ∧ Bd 1000 b ∧ ∀ (p : Addr) (x y : Int) (H' : Hp), Same H H' → H' p = some (.tup [.int x, .int y]) → RatOf t b x y → Q (.ref p) H'
def spThickOf (K : PySem.W.Frag) : Sp := fun vs H Q _ => ∃ (p : Addr) (us : List V) (xs : List Lay) (o : Option Int), vs = [.ref p, oiV o] ∧ H p = some (.lst us) ∧ RepL K H (xs.map layD) us ∧ (∀ i, o = some i → 0 ≤ i ∧ i < xs.length) ∧ Q (.int (thL xs o)) H
def spBetween (K : PySem.W.Frag) : Sp := fun vs H Q _ => ∃ (v1 v2 : V) (bl br : Bor) (x y place : Int), vs = [v1, v2, .int x, .int y, .int place] ∧ Rep K H (borD bl) v1 ∧ Rep K H (borD br) v2 ∧ bl.place < br.place ∧ Bd 210 x ∧ Bd 210 y ∧ Bd 200 (br.place - place) ∧ Bd 200 (place - bl.place) ∧
  ∀ (p : Addr) (u v : Int) (H' : Hp), Same H H' → H' p = some (.tup [.int u, .int v]) → RatOf (x * (br.place - place) + y * (place - bl.place)) (br.place - bl.place) u v → Q (.ref p) H'
theorem ThkL.snoc {K : PySem.W.Frag} {H H' : Hp} {bl br : Bor} {place : Int} {ss : List Sh} {ws : List V} {z : Addr} {x y : Int} {sh : Sh} (h : ThkL K H bl br place ss ws) (k : KeepT K H H') (hz : SqT K H' z [.int x, .int y]) (R : RatOf (topAt bl br place sh) (br.place - bl.place) x y) :
    ThkL K H' bl br place (ss ++ [sh]) (ws ++ [.ref z]) := by
  refine ⟨by rw [List.length_append, List.length_append, h.len]; rfl, fun i s hi => ?_⟩
  rw [List.getElem?_append] at hi
  by_cases hl : i < ss.length
  · rw [if_pos hl] at hi
    obtain ⟨a, x', y', h1, h2, h3⟩ := h.each i s hi
    exact ⟨a, x', y', by rw [List.getElem?_append_left (by rw [h.len]; exact hl)]; exact h1, k _ _ h2, h3⟩
  · rw [if_neg hl] at hi
    obtain ⟨h0, e⟩ := List.getElem?_eq_some_iff.mp hi
    have h0' : i - ss.length < 1 := h0
    have hi' : i = ss.length := by omega
    subst hi'
    have e' : sh = s := by simpa using hi
    subst e'
    exact ⟨z, x, y, by rw [← h.len, List.getElem?_append_right (Nat.le_refl _), Nat.sub_self]; rfl, hz, R⟩
theorem gl_in {i k : Nat} {s : Sh} (h : s ∈ gl i k) : ∃ x : Nat, i ≤ x ∧ x < k ∧ s = (some (x : Int), none) := by
  unfold gl at h
  obtain ⟨x, hx, e⟩ := List.mem_map.mp h
  rw [List.mem_range'_1] at hx
  exact ⟨x, hx.1, by omega, e.symm⟩
theorem gr_in {i k : Nat} {s : Sh} (h : s ∈ gr i k) : ∃ x : Nat, i ≤ x ∧ x < k ∧ s = (none, some (x : Int)) := by
  unfold gr at h
  obtain ⟨x, hx, e⟩ := List.mem_map.mp h
  rw [List.mem_range'_1] at hx
  exact ⟨x, hx.1, by omega, e.symm⟩
theorem shs_in {n m : Nat} : ∀ {ps : List Pr} {i j : Nat} {s : Sh}, (∀ p ∈ ps, 0 ≤ p.1 ∧ p.1 < n ∧ 0 ≤ p.2 ∧ p.2 < m) → s ∈ shs n m i j ps → (∀ a, s.1 = some a → 0 ≤ a ∧ a < n) ∧ (∀ b, s.2 = some b → 0 ≤ b ∧ b < m)
  | [], i, j, s, _, h => by
    rcases List.mem_append.mp (show s ∈ gl i n ++ gr j m from h) with h | h
    · obtain ⟨x, _, h2, rfl⟩ := gl_in h
      exact ⟨fun a e => by cases e; exact ⟨Int.natCast_nonneg _, Int.ofNat_lt.mpr h2⟩, fun b e => by cases e⟩
    · obtain ⟨x, _, h2, rfl⟩ := gr_in h
      exact ⟨fun b e => (by cases e), fun a e => by cases e; exact ⟨Int.natCast_nonneg _, Int.ofNat_lt.mpr h2⟩⟩
  | (a, b) :: ps, i, j, s, hp, h => by
    obtain ⟨p1, p2, p3, p4⟩ := hp (a, b) List.mem_cons_self
    have p1' : 0 ≤ a := p1
    have p2' : a < n := p2
    have p3' : 0 ≤ b := p3
    have p4' : b < m := p4
    rcases List.mem_append.mp (show s ∈ gl i a.toNat ++ (gr j b.toNat ++ (some a, some b) :: shs n m (a.toNat + 1) (b.toNat + 1) ps) from h) with h | h
    · obtain ⟨x, _, h2, rfl⟩ := gl_in h
      exact ⟨fun a e => by cases e; exact ⟨Int.natCast_nonneg _, by omega⟩, fun b e => by cases e⟩
    · rcases List.mem_append.mp h with h | h
      · obtain ⟨x, _, h2, rfl⟩ := gr_in h
        exact ⟨fun b e => (by cases e), fun a e => by cases e; exact ⟨Int.natCast_nonneg _, by omega⟩⟩
      · rcases List.mem_cons.mp h with rfl | h
        · exact ⟨fun c e => by cases e; exact ⟨p1', p2'⟩, fun c e => by cases e; exact ⟨p3', p4'⟩⟩
        · exact shs_in (fun p h => hp p (List.mem_cons_of_mem _ h)) h
section
variable {P : Program} {w : World} {K : PySem.W.Frag} {mg : Str → Option Value} {base : Heap} {t : Adr}
theorem ok_greatest_divisor (T : Txt K mg t) : FnOk P w K mg base CX0 1 t.a_greatest_divisor t.d_greatest_divisor ["one", "other"] spGd := by
  refine T.F_greatest_divisor.ok sc_greatest_divisor (fun vs H Q E h => ?_) (fun cdv A outer s H vs Q E hr h => ?_)
  · obtain ⟨n, m, rfl, _⟩ := h; rfl
  · obtain ⟨n, m, rfl, q⟩ := h
    let X_ : Cx := (cxOf CX0 P w K mg base ["one", "other", "rest"] "greatest_divisor" (defScope s_greatest_divisor) t.a_greatest_divisor cdv A outer s H E).nox
    let u1_ : PSV (X_) (List.drop 2 (bodyOf (stAt (defBody s_greatest_divisor) 0))) := ⟨_, (pss_one (ps_set (i := 1) sc_greatest_divisor.nd rfl (Or.inl rfl) (pv 2)))⟩
    let w1_ : TS := u1_.1
    have e1_ : PSs (X_) (List.drop 2 (bodyOf (stAt (defBody s_greatest_divisor) 0))) w1_ := u1_.2
    let u2_ : PSV (X_) (List.drop 1 (bodyOf (stAt (defBody s_greatest_divisor) 0))) := ⟨_, (pss_cons (ps_set (i := 0) sc_greatest_divisor.nd rfl (Or.inl rfl) (pv 1))
      e1_)⟩
    let w2_ : TS := u2_.1
    have e2_ : PSs (X_) (List.drop 1 (bodyOf (stAt (defBody s_greatest_divisor) 0))) w2_ := u2_.2
    let u3_ : PSV (X_) (List.drop 1 (defBody s_greatest_divisor)) := ⟨_, (pss_one (ps_ret (pv 0)))⟩
    let w3_ : TS := u3_.1
    have e3_ : PSs (X_) (List.drop 1 (defBody s_greatest_divisor)) w3_ := u3_.2
    refine ⟨_, (pss_cons (ps_while PassesOwn.never (pt_cmpR (op_neK K hr.units) (pv 1) pe_int (nomark _))
      (pss_cons (ps_set (i := 2) sc_greatest_divisor.nd rfl (Or.inl rfl) (pe_op op_mod (pv 0) (pv 1)))
      e2_))
      e3_), ?_⟩
    refine ⟨fun k σ H' => ∃ (i : Nat) (o : Option V), σ = [some (.int i), some (.int k), o] ∧ Nat.gcd i k = Nat.gcd n m ∧ H' = H, ⟨m, n, none, rfl, rfl, rfl⟩, ?_⟩
    rintro k σ H' ⟨i, o, rfl, hg, rfl⟩
    refine ⟨_, rfl, .inl ⟨rfl, _, rfl, ite2 (fun hc => ?_) (fun hc => ?_)⟩⟩
    · have hk : 0 < k := by
        rcases Nat.eq_zero_or_pos k with z | z
        · subst z; exact absurd hc (by decide)
        · exact z
      refine ⟨fun σ' H'' => ∃ k', k' < k ∧ ∃ (i : Nat) (o : Option V), σ' = [some (.int i), some (.int k'), o] ∧ Nat.gcd i k' = Nat.gcd n m ∧ H'' = H', fun _ _ z => z, ?_⟩
      refine ⟨_, rfl, _, rfl, _, _, rfl, rfl, (show (0 : Int) < k from Int.natCast_pos.mpr hk), ?_⟩
      refine ⟨_, rfl, _, rfl, ?_⟩
      refine ⟨i % k, Nat.mod_lt _ hk, k, _, rfl, ?_, rfl⟩
      rw [gcd_turn]
      exact hg
    · have hk : k = 0 := by
        rcases Nat.eq_zero_or_pos k with z | z
        · exact z
        · refine absurd ?_ hc
          have hne : ¬ V.int (k : Int) = V.int 0 := fun e => by injection e with e; omega
          rw [decide_eq_false hne]
          rfl
      subst hk
      rw [Nat.gcd_zero_right] at hg
      refine ⟨_, rfl, ?_⟩
      rw [hg]
      exact q
theorem ok_ratio (T : Txt K mg t) : FnOk P w K mg base CX0 2 t.a_ratio t.d_ratio ["top", "bottom"] spRatio := by
  refine T.F_ratio.ok sc_ratio (fun vs H Q E h => ?_) (fun cdv A outer s H vs Q E hr h => ?_)
  · obtain ⟨u, b, rfl, _⟩ := h; rfl
  · obtain ⟨u, b, rfl, hb, hB, q⟩ := h
    let X_ : Cx := (cxOf CX0 P w K mg base ["top", "bottom", "divisor"] "ratio" (defScope s_ratio) t.a_ratio cdv A outer s H E).nox
    let u1_ : PSV (X_) (List.drop 2 (defBody s_ratio)) := ⟨_, (pss_one (ps_ret (pe_tup (pa_cons (pe_op op_fdivI (pv 0) (pv 2)) (pa_cons (pe_op op_fdivI (pv 1) (pv 2)) pa_nil)))))⟩
    let w1_ : TS := u1_.1
    have e1_ : PSs (X_) (List.drop 2 (defBody s_ratio)) w1_ := u1_.2
    let u2_ : PSV (X_) (List.drop 1 (defBody s_ratio)) := ⟨_, (pss_cons (ps_mid (ps_if (pt_cmpR op_ltG (pv 1) pe_int (nomark _)) (pss_one (ps_set (i := 2) sc_ratio.nd rfl (Or.inl rfl) (pe_un un_neg (pv 2)))) pss_nil))
      e1_)⟩
    let w2_ : TS := u2_.1
    have e2_ : PSs (X_) (List.drop 1 (defBody s_ratio)) w2_ := u2_.2
    refine ⟨_, (pss_cons (ps_set (i := 2) sc_ratio.nd rfl (Or.inl rfl) (pe_call (ok_greatest_divisor (K := K) T) (hr.mono (by decide)) rfl T.G_greatest_divisor T.F_greatest_divisor.kp T.B_greatest_divisor .nil pass0 (pa_cons (pe_callB call_abs rfl T.N_abs bt_abs (pa_cons (pv 0) pa_nil)) (pa_cons (pe_callB call_abs rfl T.N_abs bt_abs (pa_cons (pv 1) pa_nil)) pa_nil))))
      e2_), ?_⟩
    refine ⟨_, rfl, _, rfl, _, rfl, _, rfl, u.natAbs, b.natAbs, by rw [abs_int, abs_int]; rfl, ?_⟩
    let M3_ : St → Hp → Prop := fun σ H' => ∃ d : Int, σ = [some (.int u), some (.int b), some (.int d)] ∧ H' = H ∧ d = if b < 0 then -((Nat.gcd u.natAbs b.natAbs : Nat) : Int) else ((Nat.gcd u.natAbs b.natAbs : Nat) : Int)
    refine ⟨M3_, ?_, ?_⟩
    · refine ⟨_, rfl, _, _, rfl, rfl, _, rfl, ite2 (fun hc => ?_) (fun hc => ?_)⟩
      · have hc' : b < 0 := of_decide_eq_true hc
        refine ⟨_, rfl, _, rfl, _, rfl, rfl, ?_⟩
        rw [if_pos hc']
      · have hc' : ¬ b < 0 := fun z => hc (decide_eq_true z)
        refine ⟨_, rfl, rfl, ?_⟩
        rw [if_neg hc']
    · rintro σ H' ⟨d, rfl, rfl, hd⟩
      obtain ⟨d0, dl, hR⟩ := ratOf hb hd
      have hC : CDivI u d := ⟨d0, hB.le dl⟩
      refine ⟨_, rfl, _, rfl, _, _, rfl, rfl, hC, _, rfl, _, rfl, _, _, rfl, rfl, hC, by show 2 ≤ sizeLine; decide, fun p hp => ?_⟩
      exact q p _ _ _ (Same.new hp) upd_same hR
theorem ok_thick_of (T : Txt K mg t) : FnOk P w K mg base CX0 1 t.a_thick_of t.d_thick_of ["layers", "number"] (spThickOf K) := by
  refine T.F_thick_of.ok sc_thick_of (fun vs H Q E h => ?_) (fun cdv A outer s H vs Q E hr h => ?_)
  · obtain ⟨p, us, xs, o, rfl, _⟩ := h; rfl
  · obtain ⟨p, us, xs, o, rfl, hp, rl, ho, q⟩ := h
    refine ⟨_, (pss_one (ps_ret (pe_ifExp (pt_cmpR op_isN (pv 1) pe_non (nomark _)) pe_int (pe_ix (ix_K K) (pe_ix (ix_K K) (pv 0) (pv 1) (fun _ _ => rfl)) pe_int (fun _ _ => rfl))))), ?_⟩
    cases o with
    | none => exact ⟨_, rfl, rfl, _, rfl, iteT q⟩
    | some i =>
      obtain ⟨h0, h1⟩ := ho i rfl
      obtain ⟨j, rfl⟩ : ∃ j : Nat, i = j := ⟨i.toNat, by omega⟩
      have hj : j < xs.length := by omega
      have hx : xs[j]? = some xs[j] := List.getElem?_eq_getElem hj
      obtain ⟨u, hu2, ru⟩ := rl.get (i := j) (d := layD xs[j]) (by rw [List.getElem?_map, hx]; rfl)
      obtain ⟨ad, rfl, hq⟩ := rep_lay ru
      refine ⟨_, rfl, rfl, _, rfl, iteF ?_⟩
      refine ⟨_, rfl, _, rfl, .inl ⟨p, _, _, _, rfl, rfl, SqL.of hp, atI_nat hu2, .inr (.inl ⟨ad, _, _, _, rfl, rfl, hq, rfl, ?_⟩)⟩⟩
      have e : thL xs (some (j : Int)) = xs[j].2 := thL_at (by rw [List.getElem?_map, hx]; rfl)
      rw [e] at q
      exact q
theorem ok_between (T : Txt K mg t) : FnOk P w K mg base CX0 3 t.a_between t.d_between ["left", "right", "value", "other", "place"] (spBetween K) := by
  refine T.F_between.ok sc_between (fun vs H Q E h => ?_) (fun cdv A outer s H vs Q E hr h => ?_)
  · obtain ⟨v1, v2, bl, br, x, y, place, rfl, _⟩ := h; rfl
  · obtain ⟨v1, v2, bl, br, x, y, place, rfl, r1, r2, lt, bx, b_y, dR, dL, q⟩ := h
    let X_ : Cx := (cxOf CX0 P w K mg base ["left", "right", "value", "other", "place", "near_left", "near_right"] "between" (defScope s_between) t.a_between cdv A outer s H E).nox
    let u1_ : PSV (X_) (List.drop 2 (defBody s_between)) := ⟨_, (pss_one (ps_ret (pe_call (ok_ratio (K := K) T) (hr.mono (by decide)) rfl T.G_ratio T.F_ratio.kp T.B_ratio .nil pass0 (pa_cons (pe_op (op_addU K) (pe_op (op_mulU K) (pv 2) (pv 5)) (pe_op (op_mulU K) (pv 3) (pv 6))) (pa_cons (pe_op (op_addU K) (pv 5) (pv 6)) pa_nil)))))⟩
    let w1_ : TS := u1_.1
    have e1_ : PSs (X_) (List.drop 2 (defBody s_between)) w1_ := u1_.2
    let u2_ : PSV (X_) (List.drop 1 (defBody s_between)) := ⟨_, (pss_cons (ps_set (i := 6) sc_between.nd rfl (Or.inl rfl) (pe_op op_sub (pv 4) (pe_ix (ix_K K) (pv 0) pe_int (fun _ _ => rfl))))
      e1_)⟩
    let w2_ : TS := u2_.1
    have e2_ : PSs (X_) (List.drop 1 (defBody s_between)) w2_ := u2_.2
    refine ⟨_, (pss_cons (ps_set (i := 5) sc_between.nd rfl (Or.inl rfl) (pe_op op_sub (pe_ix (ix_K K) (pv 1) pe_int (fun _ _ => rfl)) (pv 4)))
      e2_), ?_⟩
    obtain ⟨a1, vb1, rfl, q1, _⟩ := rep_bor r1
    obtain ⟨a2, vb2, rfl, q2, _⟩ := rep_bor r2
    have dW : Bd 201 (br.place - bl.place) := by
      have := dR.add dL
      rw [show br.place - place + (place - bl.place) = br.place - bl.place by omega] at this
      exact this
    refine ⟨_, rfl, .inr (.inl ⟨a2, _, _, _, rfl, rfl, q2, rfl, _, rfl, _, _, rfl, rfl, ?_⟩)⟩
    refine ⟨_, rfl, _, rfl, .inr (.inl ⟨a1, _, _, _, rfl, rfl, q1, rfl, _, _, rfl, rfl, ?_⟩)⟩
    refine ⟨_, rfl, _, rfl, .inl ⟨_, _, rfl, rfl, bx.c dR, _, rfl, _, rfl, .inl ⟨_, _, rfl, rfl, b_y.c dL, .inl ⟨_, _, rfl, rfl, ?_⟩⟩⟩⟩
    refine ⟨_, rfl, _, rfl, .inl ⟨_, _, rfl, rfl, ?_⟩⟩
    refine ⟨_, _, rfl, by omega, ?_, fun p u v H' s hp R => q p u v H' s hp ?_⟩
    · rw [show br.place - place + (place - bl.place) = br.place - bl.place by omega]
      exact dW.mono (by decide)
    · rw [show br.place - place + (place - bl.place) = br.place - bl.place by omega] at R
      exact R
theorem ok_thick_at (T : Txt K mg t) : FnOk P w K mg base CX0 4 t.a_thick_at t.d_thick_at ["left", "right", "pairs", "place"] (spThick K) := by
  refine T.F_thick_at.ok sc_thick_at (fun vs H Q E h => ?_) (fun cdv A outer s H vs Q E hr h => ?_)
  · obtain ⟨v1, v2, bl, br, ms, pp, us, ps, place, rfl, _⟩ := h; rfl
  · obtain ⟨v1, v2, bl, br, ms, pp, us, ps, place, rfl, r1, r2, okl, okr, lt, p0, p1, hpp, rps, ok, q⟩ := h
    let X_ : Cx := (cxOf CX0 P w K mg base ["left", "right", "pairs", "place", "ones", "others"] "thick_at" (defScope s_thick_at) t.a_thick_at cdv A outer s H E).nox
    let u1_ : PSV (X_) (List.drop 2 (defBody s_thick_at)) := ⟨_, (pss_one (ps_ret (pe_cmp1 ["left", "right", "pairs", "place", "ones", "others"] (defScope s_thick_at) ["one", "other", "left", "right", "place", "ones", "others"] [none, none, some 0, some 1, some 3, some 4, some 5] (pi_seqK K (pe_call (ok_sheets (K := K) T) (hr.mono (by decide)) rfl T.G_sheets T.F_sheets.kp T.B_sheets .nil pass0 (pa_cons (pv 0) (pa_cons (pv 1) (pa_cons (pv 2) pa_nil)))))
      (fun _ _ _ _ _ => (pg_tupK K (n := 2) rfl (pgs_cons (pg_name (i := 0) (show List.Nodup (["one", "other", "left", "right", "place", "ones", "others"] : List Str) from (by decide +kernel)) rfl (Or.inl rfl)) (pgs_cons (pg_name (i := 1) (show List.Nodup (["one", "other", "left", "right", "place", "ones", "others"] : List Str) from (by decide +kernel)) rfl (Or.inl rfl)) pgs_nil)))) (fun _ _ _ _ _ => pts_nil) (fun _ _ _ _ _ => (pe_call (ok_between (K := K) T) (hr.mono (by decide)) rfl T.G_between T.F_between.kp T.B_between .nil pass0 (pa_cons (pv 2) (pa_cons (pv 3) (pa_cons (pe_call (ok_thick_of (K := K) T) (hr.mono (by decide)) rfl T.G_thick_of T.F_thick_of.kp T.B_thick_of .nil pass0 (pa_cons (pv 5) (pa_cons (pv 0) pa_nil))) (pa_cons (pe_call (ok_thick_of (K := K) T) (hr.mono (by decide)) rfl T.G_thick_of T.F_thick_of.kp T.B_thick_of .nil pass0 (pa_cons (pv 6) (pa_cons (pv 1) pa_nil))) (pa_cons (pv 4) pa_nil))))))))))⟩
    let w1_ : TS := u1_.1
    have e1_ : PSs (X_) (List.drop 2 (defBody s_thick_at)) w1_ := u1_.2
    let u2_ : PSV (X_) (List.drop 1 (defBody s_thick_at)) := ⟨_, (pss_cons (ps_set (i := 5) sc_thick_at.nd rfl (Or.inr rfl) (pe_call (ok_layers_of (K := K) T) (hr.mono (by decide)) rfl T.G_layers_of T.F_layers_of.kp T.B_layers_of .nil pass0 (pa_cons (pv 1) pa_nil)))
      e1_)⟩
    let w2_ : TS := u2_.1
    have e2_ : PSs (X_) (List.drop 1 (defBody s_thick_at)) w2_ := u2_.2
    refine ⟨_, (pss_cons (ps_set (i := 4) sc_thick_at.nd rfl (Or.inr rfl) (pe_call (ok_layers_of (K := K) T) (hr.mono (by decide)) rfl T.G_layers_of T.F_layers_of.kp T.B_layers_of .nil pass0 (pa_cons (pv 0) pa_nil)))
      e2_), ?_⟩
    have l6 : (lays bl).length ≤ 6 := okl.blocks.few
    have r6 : (lays br).length ≤ 6 := okr.blocks.few
    have sle := shs_le ok
    have dR : Bd 200 (br.place - place) := far_bd (by have := okl.p0; omega) p1 okr.p1
    have dL : Bd 200 (place - bl.place) := far_bd okl.p0 p0 (by have := okr.p1; omega)
    refine ⟨_, rfl, v1, bl, ms, rfl, r1, okl.blocks, fun pa ua H1 _ hpa ra s1 => ?_⟩
    refine ⟨_, rfl, v2, br, ms, rfl, r2.same s1, okr.blocks, fun pb ub H2 _ hpb rb s2 => ?_⟩
    have s02 := s1.trans s2
    refine ⟨_, rfl, _, rfl, _, rfl, v1, v2, bl, br, ms, pp, us, ps, rfl, r1.same s02, r2.same s02, okl, okr, s02 _ _ hpp, rps.same s02, ok, fun pc uc H3 _ hpc rc s3 => ?_⟩
    have ul := repl_len rc
    have s03 := s02.trans s3
    have hpa3 := (s2.trans s3) _ _ hpa
    have ra3 := ra.same (s2.trans s3)
    have hpb3 := s3 _ _ hpb
    have rb3 := rb.same s3
    refine ⟨Itl K pc, .lst (SqL.of hpc), fun D hD => ?_⟩
    refine comp_lst (fun i ys H' => ThkL K H' bl br place ((shs (lays bl).length (lays br).length 0 0 ps).take i) ys) (SqL.of hpc) hD ⟨rfl, fun k s hk => by simp at hk⟩ ?_ ?_
    · rintro i mm u ys H4 hu4 hi hm s4 hy hl thk
      obtain ⟨sh, hx, ru⟩ := repl_at rc hu4
      obtain ⟨i1, i2⟩ := shs_in ok.each (List.mem_of_getElem? hx)
      obtain ⟨ad, rfl, hq2⟩ := rep_sh (ru.same s4)
      have s04 := s03.trans s4
      refine ⟨ad, _, rfl, hq2, rfl, _, _, rfl, _, _, rfl, rfl, (SubS.set (SubS.set (SubS.refl _) rfl) rfl), _, rfl, _, rfl, _, rfl, _, rfl, ?_⟩
      refine ⟨pa, ua, lays bl, sh.1, rfl, s4 _ _ hpa3, ra3.same s4, i1, ?_⟩
      refine ⟨_, rfl, _, rfl, ?_⟩
      refine ⟨pb, ub, lays br, sh.2, rfl, s4 _ _ hpb3, rb3.same s4, i2, ?_⟩
      refine ⟨_, rfl, v1, v2, bl, br, _, _, place, rfl, r1.same s04, r2.same s04, lt, (thL_bd okl.blocks _).mono (by decide), (thL_bd okr.blocks _).mono (by decide), dR, dL, fun z x y H5 s5 hz R => ?_⟩
      refine wl_next hD hi hm (small1000 (by omega)) s4 hy hl s5 ?_
      rw [List.take_add_one, hx]
      have k2 := keepT_upd (K := K) (ys := ys ++ [.ref z]) (s5 _ _ hy)
      exact ThkL.snoc thk (s5.keepT.trans k2) (k2 _ _ (SqT.of hz)) R
    · rintro ys H4 s4 hy hl thk
      rw [ul, List.take_length] at thk
      exact q D ys H4 (s03.free hD) hy thk (s03.trans s4)
end
def spWholeB (K : PySem.W.Frag) : Sp := fun vs H Q _ => ∃ (v : V) (b : Bor) (ms : List Str), vs = [v] ∧ Rep K H (borD b) v ∧ BlksOk ms b.blocks ∧ ∀ H' : Hp, Same H H' → Q (.int (sumT (lays b))) H'
def spPlus (K : PySem.W.Frag) : Sp := fun vs H Q _ => ∃ (p1 p2 : Addr) (x1 y1 x2 y2 : Int), vs = [.ref p1, .ref p2] ∧ SqT K H p1 [.int x1, .int y1] ∧ SqT K H p2 [.int x2, .int y2] ∧ Bd 440 x1 ∧ Bd 300 y1 ∧ Bd 440 x2 ∧ Bd 300 y2 ∧ y1 ≠ 0 ∧ y2 ≠ 0 ∧
  ∀ (p : Addr) (x y : Int) (H' : Hp), Same H H' → H' p = some (.tup [.int x, .int y]) → RatOf (x1 * y2 + x2 * y1) (y1 * y2) x y → Q (.ref p) H'
def spMinus (K : PySem.W.Frag) : Sp := fun vs H Q _ => ∃ (p1 p2 : Addr) (x1 y1 x2 y2 : Int), vs = [.ref p1, .ref p2] ∧ SqT K H p1 [.int x1, .int y1] ∧ SqT K H p2 [.int x2, .int y2] ∧ Bd 440 x1 ∧ Bd 300 y1 ∧ Bd 440 x2 ∧ Bd 300 y2 ∧ y1 ≠ 0 ∧ y2 ≠ 0 ∧
  ∀ (p : Addr) (x y : Int) (H' : Hp), Same H H' → H' p = some (.tup [.int x, .int y]) → RatOf (x1 * y2 - x2 * y1) (y1 * y2) x y → Q (.ref p) H'
structure TwoAt (K : PySem.W.Frag) (H : Hp) (v1 v2 : V) (ms : List Str) (bl br : Bor) (place : Int) : Prop where
  r1 : Rep K H (borD bl) v1
  r2 : Rep K H (borD br) v2
  okl : BorOk ms bl
  okr : BorOk ms br
  lt : bl.place < br.place
  p0 : bl.place ≤ place
  p1 : place ≤ br.place
theorem TwoAt.same {K : PySem.W.Frag} {H H' : Hp} {v1 v2 : V} {ms : List Str} {bl br : Bor} {place : Int} (h : TwoAt K H v1 v2 ms bl br place) (s : Same H H') : TwoAt K H' v1 v2 ms bl br place := ⟨h.r1.same s, h.r2.same s, h.okl, h.okr, h.lt, h.p0, h.p1⟩
theorem TwoAt.dR {K : PySem.W.Frag} {H : Hp} {v1 v2 : V} {ms : List Str} {bl br : Bor} {place : Int} (h : TwoAt K H v1 v2 ms bl br place) : Bd 200 (br.place - place) := far_bd (by have := h.okl.p0; have := h.p0; omega) h.p1 h.okr.p1
theorem TwoAt.dL {K : PySem.W.Frag} {H : Hp} {v1 v2 : V} {ms : List Str} {bl br : Bor} {place : Int} (h : TwoAt K H v1 v2 ms bl br place) : Bd 200 (place - bl.place) := far_bd h.okl.p0 h.p0 (by have := h.okr.p1; have := h.p1; omega)
theorem TwoAt.dW {K : PySem.W.Frag} {H : Hp} {v1 v2 : V} {ms : List Str} {bl br : Bor} {place : Int} (h : TwoAt K H v1 v2 ms bl br place) : Bd 200 (br.place - bl.place) := far_bd h.okl.p0 (Int.le_of_lt h.lt) h.okr.p1
def onLine (bl br : Bor) (place x y : Int) : Int := x * (br.place - place) + y * (place - bl.place)
theorem top_bd {bd : Int} {n : Nat} (h0 : 0 ≤ bd) (h1 : bd < 10 ^ 60) (hn : 200 ≤ n) : Bd n bd := by
  have e : (10 : Int) ^ 60 < 2 ^ 200 := by decide
  have e3 : bd.natAbs < 2 ^ 200 := by omega
  exact Bd.mono e3 hn
theorem sum_bd : ∀ (xs : List Lay), (∀ x ∈ xs, 1 ≤ x.2 ∧ x.2 ≤ 10 ^ 59) → 0 ≤ sumT xs ∧ sumT xs ≤ xs.length * 10 ^ 59
  | [], _ => by simp [sumT]
  | x :: xs, h => by
    obtain ⟨i1, i2⟩ := sum_bd xs fun y hy => h y (List.mem_cons_of_mem _ hy)
    obtain ⟨h1, h2⟩ := h x List.mem_cons_self
    have e : sumT (x :: xs) = x.2 + sumT xs := by unfold sumT; rw [List.map_cons, List.sum_cons]
    rw [e, List.length_cons]
    push_cast
    rw [Int.add_mul, Int.one_mul]
    omega
theorem whole_bd {ms : List Str} {b : Bor} (ok : BlksOk ms b.blocks) : 0 ≤ sumT (lays b) ∧ Bd 210 (sumT (lays b)) := by
  obtain ⟨h1, h2⟩ := sum_bd (lays b) fun x hx => by
    obtain ⟨bl, hb, hx⟩ := List.mem_flatten.mp hx
    obtain ⟨_, a, c⟩ := ok.lay bl hb x hx
    exact ⟨a, c⟩
  have l6 : (lays b).length ≤ 6 := ok.few
  have e : (6 : Int) * 10 ^ 59 < 2 ^ 210 := by decide
  have h3 : ((lays b).length : Int) * 10 ^ 59 ≤ 6 * 10 ^ 59 := Int.mul_le_mul_of_nonneg_right (by omega) (by decide)
  have e3 : (sumT (lays b)).natAbs < 2 ^ 210 := by omega
  exact ⟨h1, e3⟩
def spAt (K : PySem.W.Frag) (f : Bor → Int) : Sp := fun vs H Q _ => ∃ (v1 v2 : V) (ms : List Str) (bl br : Bor) (place : Int), vs = [v1, v2, .int place] ∧ TwoAt K H v1 v2 ms bl br place ∧
  ∀ (p : Addr) (u v : Int) (H' : Hp), Same H H' → H' p = some (.tup [.int u, .int v]) → RatOf (onLine bl br place (f bl) (f br)) (br.place - bl.place) u v → Q (.ref p) H'
def spLines (K : PySem.W.Frag) : Sp := fun vs H Q _ => ∃ (v1 v2 : V) (bl br : Bor) (ms : List Str) (ph : Addr) (us : List V) (ps : List Pr) (place : Int), vs = [v1, v2, .ref ph, .int place] ∧ TwoAt K H v1 v2 ms bl br place ∧
  H ph = some (.lst us) ∧ RepL K H (ps.map prD) us ∧ PrsOk (lays bl).length (lays br).length ps ∧
  ∀ (p : Addr) (ws : List V) (H' : Hp), H p = none → H' p = some (.lst ws) →
    RatL K H' (br.place - bl.place) (lineL (onLine bl br place bl.top br.top) ((shs (lays bl).length (lays br).length 0 0 ps).map (topAt bl br place)) (shs (lays bl).length (lays br).length 0 0 ps).length) ws → Same H H' → Q (.ref p) H'
theorem take_bd {n : Nat} : ∀ (ts : List Int) (k : Nat), (∀ t ∈ ts, Bd n t) → Bd (n + k) ((ts.take k).sum)
  | [], k, _ => by rw [List.take_nil]; exact (Nat.two_pow_pos _ : 0 < 2 ^ (n + k))
  | t :: ts, 0, _ => (Nat.two_pow_pos _ : 0 < 2 ^ (n + 0))
  | t :: ts, k + 1, h => by
    rw [List.take_succ_cons, List.sum_cons]
    exact ((h t List.mem_cons_self).mono (Nat.le_add_right n k)).add (take_bd ts k fun x hx => h x (List.mem_cons_of_mem _ hx))
theorem Bd.sub {n : Nat} {a b : Int} (h : Bd n a) (g : Bd n b) : Bd (n + 1) (a - b) := by
  rw [Int.sub_eq_add_neg]
  exact h.add g.neg
theorem atI_end {xs : List V} {v : V} (h : xs ≠ []) (e : xs[xs.length - 1]? = some v) : atI xs (-1) = some v := by
  obtain ⟨ys, y, rfl⟩ : ∃ ys y, xs = ys ++ [y] := ⟨xs.dropLast, xs.getLast h, (List.dropLast_concat_getLast h).symm⟩
  rw [List.length_append, show ys.length + [y].length - 1 = ys.length from by simp, List.getElem?_append_right (Nat.le_refl _), Nat.sub_self] at e
  have e' : y = v := Option.some.inj e
  subst e'
  exact atI_last _ _
section
variable {P : Program} {w : World} {K : PySem.W.Frag} {mg : Str → Option Value} {base : Heap} {t : Adr}
theorem ok_whole (T : Txt K mg t) : FnOk P w K mg base CX0 2 t.a_whole t.d_whole ["bore"] (spWholeB K) := by
  refine T.F_whole.ok sc_whole (fun vs H Q E h => ?_) (fun cdv A outer s H vs Q E hr h => ?_)
  · obtain ⟨v, b, ms, rfl, _⟩ := h; rfl
  · obtain ⟨v, b, ms, rfl, rep, ok, q⟩ := h
    refine ⟨_, (pss_one (ps_ret (pe_callB (call_sumK K) rfl T.N_sum bt_sum (pa_cons (pe_cmp1 ["bore"] (defScope s_whole) ["mark", "thick"] [none, none] (pi_seqK K (pe_call (ok_layers_of (K := K) T) (hr.mono (by decide)) rfl T.G_layers_of T.F_layers_of.kp T.B_layers_of .nil pass0 (pa_cons (pv 0) pa_nil)))
      (fun _ _ _ _ _ => (pg_tupK K (n := 2) rfl (pgs_cons (pg_name (i := 0) (show List.Nodup (["mark", "thick"] : List Str) from (by decide +kernel)) rfl (Or.inl rfl)) (pgs_cons (pg_name (i := 1) (show List.Nodup (["mark", "thick"] : List Str) from (by decide +kernel)) rfl (Or.inl rfl)) pgs_nil)))) (fun _ _ _ _ _ => pts_nil) (fun _ _ _ _ _ => (pv 1))) pa_nil)))), ?_⟩
    refine ⟨_, rfl, v, b, ms, rfl, rep, ok, fun pl ul H1 hpl hpl1 rl1 s1 => ?_⟩
    have hul : ul.length = (lays b).length := repl_len rl1
    have l6 : (lays b).length ≤ 6 := ok.few
    refine ⟨Itl K pl, .lst (SqL.of hpl1), fun D hD => ?_⟩
    refine comp_lst (fun i ys H' => ys = ((lays b).take i).map fun x => V.int x.2) (SqL.of hpl1) hD rfl ?_ ?_
    · rintro i m u ys H2 hu2 hi hm s2 hy hl rfl
      obtain ⟨x, hx, ru⟩ := repl_at rl1 hu2
      obtain ⟨ad, rfl, hq2⟩ := rep_lay (ru.same s2)
      refine ⟨ad, _, rfl, hq2, rfl, _, _, rfl, _, _, rfl, rfl, (SubS.set (SubS.set (SubS.refl _) rfl) rfl), _, rfl, ?_⟩
      refine wl_next hD hi hm (small1000 (by omega)) s2 hy hl (Same.refl _) ?_
      rw [List.take_add_one, hx, List.map_append]
      rfl
    · rintro ys H2 s2 hy hl rfl
      rw [hul, List.take_length] at hy
      refine ⟨D, (lays b).map (·.2), rfl, SqL.of (by rw [hy, List.map_map]; rfl), ?_⟩
      rw [preSum_all]
      exact q H2 (s1.trans s2)
theorem ok_plus (T : Txt K mg t) : FnOk P w K mg base CX0 3 t.a_plus t.d_plus ["one", "other"] (spPlus K) := by
  refine T.F_plus.ok sc_plus (fun vs H Q E h => ?_) (fun cdv A outer s H vs Q E hr h => ?_)
  · obtain ⟨p1, p2, x1, y1, x2, y2, rfl, _⟩ := h; rfl
  · obtain ⟨p1, p2, x1, y1, x2, y2, rfl, h1, h2, b1, b2, b3, b4, n1, n2, q⟩ := h
    refine ⟨_, (pss_one (ps_ret (pe_call (ok_ratio (K := K) T) (hr.mono (by decide)) rfl T.G_ratio T.F_ratio.kp T.B_ratio .nil pass0 (pa_cons (pe_op (op_addU K) (pe_op (op_mulU K) (pe_ix (ix_K K) (pv 0) pe_int (fun _ _ => rfl)) (pe_ix (ix_K K) (pv 1) pe_int (fun _ _ => rfl))) (pe_op (op_mulU K) (pe_ix (ix_K K) (pv 1) pe_int (fun _ _ => rfl)) (pe_ix (ix_K K) (pv 0) pe_int (fun _ _ => rfl)))) (pa_cons (pe_op (op_mulU K) (pe_ix (ix_K K) (pv 0) pe_int (fun _ _ => rfl)) (pe_ix (ix_K K) (pv 1) pe_int (fun _ _ => rfl))) pa_nil))))), ?_⟩
    refine ⟨_, rfl, .inr (.inl ⟨p1, _, _, _, rfl, rfl, h1, rfl, ?_⟩)⟩
    refine ⟨_, rfl, .inr (.inl ⟨p2, _, _, _, rfl, rfl, h2, rfl, .inl ⟨_, _, rfl, rfl, b1.c b4, ?_⟩⟩)⟩
    refine ⟨_, rfl, .inr (.inl ⟨p2, _, _, _, rfl, rfl, h2, rfl, ?_⟩)⟩
    refine ⟨_, rfl, .inr (.inl ⟨p1, _, _, _, rfl, rfl, h1, rfl, .inl ⟨_, _, rfl, rfl, b3.c b2, .inl ⟨_, _, rfl, rfl, ?_⟩⟩⟩)⟩
    refine ⟨_, rfl, .inr (.inl ⟨p1, _, _, _, rfl, rfl, h1, rfl, ?_⟩)⟩
    refine ⟨_, rfl, .inr (.inl ⟨p2, _, _, _, rfl, rfl, h2, rfl, .inl ⟨_, _, rfl, rfl, b2.c b4, ?_⟩⟩)⟩
    exact ⟨_, _, rfl, Int.mul_ne_zero n1 n2, (b2.mul b4).mono (by decide), q⟩
theorem ok_minus (T : Txt K mg t) : FnOk P w K mg base CX0 4 t.a_minus t.d_minus ["one", "other"] (spMinus K) := by
  refine T.F_minus.ok sc_minus (fun vs H Q E h => ?_) (fun cdv A outer s H vs Q E hr h => ?_)
  · obtain ⟨p1, p2, x1, y1, x2, y2, rfl, _⟩ := h; rfl
  · obtain ⟨p1, p2, x1, y1, x2, y2, rfl, h1, h2, b1, b2, b3, b4, n1, n2, q⟩ := h
    refine ⟨_, (pss_one (ps_ret (pe_call (ok_plus (K := K) T) (hr.mono (by decide)) rfl T.G_plus T.F_plus.kp T.B_plus .nil pass0 (pa_cons (pv 0) (pa_cons (pe_tup (pa_cons (pe_un un_neg (pe_ix (ix_K K) (pv 1) pe_int (fun _ _ => rfl))) (pa_cons (pe_ix (ix_K K) (pv 1) pe_int (fun _ _ => rfl)) pa_nil))) pa_nil))))), ?_⟩
    refine ⟨_, rfl, _, rfl, .inr (.inl ⟨p2, _, _, _, rfl, rfl, h2, rfl, _, rfl, ?_⟩)⟩
    refine ⟨_, rfl, .inr (.inl ⟨p2, _, _, _, rfl, rfl, h2, rfl, by show 2 ≤ sizeLine; decide, fun p hp => ?_⟩)⟩
    have s1 := Same.new (o := .tup [.int (-x2), .int y2]) hp
    refine ⟨p1, p, x1, y1, -x2, y2, rfl, s1.seqT h1, SqT.of upd_same, b1, b2, b3.neg, b4, n1, n2, fun p x y H' s hp' hR => q p x y H' (s1.trans s) hp' ?_⟩
    rw [Int.neg_mul, ← Int.sub_eq_add_neg] at hR
    exact hR
theorem ok_whole_at (T : Txt K mg t) : FnOk P w K mg base CX0 4 t.a_whole_at t.d_whole_at ["left", "right", "place"] (spAt K fun b => sumT (lays b)) := by
  refine T.F_whole_at.ok sc_whole_at (fun vs H Q E h => ?_) (fun cdv A outer s H vs Q E hr h => ?_)
  · obtain ⟨v1, v2, ms, bl, br, place, rfl, _⟩ := h; rfl
  · obtain ⟨v1, v2, ms, bl, br, place, rfl, two, q⟩ := h
    refine ⟨_, (pss_one (ps_ret (pe_call (ok_between (K := K) T) (hr.mono (by decide)) rfl T.G_between T.F_between.kp T.B_between .nil pass0 (pa_cons (pv 0) (pa_cons (pv 1) (pa_cons (pe_call (ok_whole (K := K) T) (hr.mono (by decide)) rfl T.G_whole T.F_whole.kp T.B_whole .nil pass0 (pa_cons (pv 0) pa_nil)) (pa_cons (pe_call (ok_whole (K := K) T) (hr.mono (by decide)) rfl T.G_whole T.F_whole.kp T.B_whole .nil pass0 (pa_cons (pv 1) pa_nil)) (pa_cons (pv 2) pa_nil)))))))), ?_⟩
    refine ⟨_, rfl, _, rfl, _, rfl, v1, bl, ms, rfl, two.r1, two.okl.blocks, fun H1 s1 => ?_⟩
    refine ⟨_, rfl, v2, br, ms, rfl, two.r2.same s1, two.okr.blocks, fun H2 s2 => ?_⟩
    have s02 := s1.trans s2
    have t2 := two.same s02
    exact ⟨_, rfl, v1, v2, bl, br, _, _, place, rfl, t2.r1, t2.r2, t2.lt, (whole_bd two.okl.blocks).2, (whole_bd two.okr.blocks).2, t2.dR, t2.dL, fun p u v H' s hp R => q p u v H' (s02.trans s) hp R⟩
theorem ok_ground_at (T : Txt K mg t) : FnOk P w K mg base CX0 4 t.a_ground_at t.d_ground_at ["left", "right", "place"] (spAt K fun b => b.top) := by
  refine T.F_ground_at.ok sc_ground_at (fun vs H Q E h => ?_) (fun cdv A outer s H vs Q E hr h => ?_)
  · obtain ⟨v1, v2, ms, bl, br, place, rfl, _⟩ := h; rfl
  · obtain ⟨v1, v2, ms, bl, br, place, rfl, two, q⟩ := h
    refine ⟨_, (pss_one (ps_ret (pe_call (ok_between (K := K) T) (hr.mono (by decide)) rfl T.G_between T.F_between.kp T.B_between .nil pass0 (pa_cons (pv 0) (pa_cons (pv 1) (pa_cons (pe_ix (ix_K K) (pv 0) pe_int (fun _ _ => rfl)) (pa_cons (pe_ix (ix_K K) (pv 1) pe_int (fun _ _ => rfl)) (pa_cons (pv 2) pa_nil)))))))), ?_⟩
    obtain ⟨a1, vb1, rfl, q1, _⟩ := rep_bor two.r1
    obtain ⟨a2, vb2, rfl, q2, _⟩ := rep_bor two.r2
    refine ⟨_, rfl, _, rfl, _, rfl, .inr (.inl ⟨a1, _, _, _, rfl, rfl, q1, rfl, ?_⟩)⟩
    refine ⟨_, rfl, .inr (.inl ⟨a2, _, _, _, rfl, rfl, q2, rfl, ?_⟩)⟩
    exact ⟨_, rfl, _, _, bl, br, _, _, place, rfl, two.r1, two.r2, two.lt, top_bd two.okl.t0 two.okl.t1 (by decide), top_bd two.okr.t0 two.okr.t1 (by decide), two.dR, two.dL, fun p u v H' s hp R => q p u v H' s hp R⟩
theorem ok_lines_at (T : Txt K mg t) : FnOk P w K mg base CX0 5 t.a_lines_at t.d_lines_at ["left", "right", "pairs", "place"] (spLines K) := by
  refine T.F_lines_at.ok sc_lines_at (fun vs H Q E h => ?_) (fun cdv A outer s H vs Q E hr h => ?_)
  · obtain ⟨v1, v2, bl, br, ms, pp, us, ps, place, rfl, _⟩ := h; rfl
  · obtain ⟨v1, v2, bl, br, ms, pp, us, ps, place, rfl, two, hpp, rps, ok, q⟩ := h
    let X_ : Cx := (cxOf CX0 P w K mg base ["left", "right", "pairs", "place", "lines", "thick"] "lines_at" (defScope s_lines_at) t.a_lines_at cdv A outer s H E).nox
    let u1_ : PSV (X_) (List.drop 2 (defBody s_lines_at)) := ⟨_, (pss_one (ps_ret (pv 4)))⟩
    let w1_ : TS := u1_.1
    have e1_ : PSs (X_) (List.drop 2 (defBody s_lines_at)) w1_ := u1_.2
    let u2_ : PSV (X_) (List.drop 1 (defBody s_lines_at)) := ⟨_, (pss_cons (ps_for PassesOwn.never rfl (pi_seqK K (pe_call (ok_thick_at (K := K) T) (hr.mono (by decide)) rfl T.G_thick_at T.F_thick_at.kp T.B_thick_at .nil pass0 (pa_cons (pv 0) (pa_cons (pv 1) (pa_cons (pv 2) (pa_cons (pv 3) pa_nil)))))) (pg_name (i := 5) sc_lines_at.nd rfl (Or.inl rfl))
      (pss_one (ps_expr (pe_bmK K PySem.F.plainAttrs_list PySem.F.slot_list_append PySem.F.type_list_append mt_append (pv 4) (pa_cons (pe_call (ok_minus (K := K) T) (hr.mono (by decide)) rfl T.G_minus T.F_minus.kp T.B_minus .nil pass0 (pa_cons (pe_ix (ix_K K) (pv 4) (pe_un un_neg pe_int) (fun _ _ => rfl)) (pa_cons (pv 5) pa_nil))) pa_nil)))))
      e1_)⟩
    let w2_ : TS := u2_.1
    have e2_ : PSs (X_) (List.drop 1 (defBody s_lines_at)) w2_ := u2_.2
    refine ⟨_, (pss_cons (ps_set (i := 4) sc_lines_at.nd rfl (Or.inl rfl) (pe_lst (pa_cons (pe_call (ok_ground_at (K := K) T) (hr.mono (by decide)) rfl T.G_ground_at T.F_ground_at.kp T.B_ground_at .nil pass0 (pa_cons (pv 0) (pa_cons (pv 1) (pa_cons (pv 3) pa_nil)))) pa_nil)))
      e2_), ?_⟩
    have l6 : (lays bl).length ≤ 6 := two.okl.blocks.few
    have r6 : (lays br).length ≤ 6 := two.okr.blocks.few
    have sle := shs_le ok
    have hw : br.place - bl.place ≠ 0 := by have := two.lt; omega
    have dW := two.dW
    refine ⟨_, rfl, _, rfl, _, rfl, v1, v2, ms, bl, br, place, rfl, two, fun pg u v H1 s1 hpg Rg => ?_⟩
    refine ⟨by show 1 ≤ sizeLine; decide, fun p hp => ?_⟩
    have s2 : Same H1 (upd H1 p (.lst [.ref pg])) := Same.new hp
    have hp2 : (upd H1 p (.lst [.ref pg])) p = some (.lst [.ref pg]) := upd_same
    have hpn : H p = none := s1.free hp
    have hpg2 := s2 _ _ hpg
    generalize upd H1 p (.lst [.ref pg]) = H2 at s2 hp2 hpg2
    have s02 := s1.trans s2
    have t2 := two.same s02
    refine ⟨_, rfl, _, rfl, _, rfl, _, rfl, v1, v2, bl, br, ms, pp, us, ps, place, rfl, t2.r1, t2.r2, t2.okl, t2.okr, t2.lt, t2.p0, t2.p1, s02 _ _ hpp, rps.same s02, ok, fun pt wt H3 hptn hpt thk s3 => ?_⟩
    generalize hss : shs (lays bl).length (lays br).length 0 0 ps = ss at sle thk q
    have rt := thk.rat
    have wtl := thk.len
    have hG : Bd 421 (onLine bl br place bl.top br.top) := (((top_bd (n := 220) two.okl.t0 two.okl.t1 (by decide)).mul two.dR).add ((top_bd (n := 220) two.okr.t0 two.okr.t1 (by decide)).mul two.dL)).mono (by decide)
    have hTb : ∀ t ∈ ss.map (topAt bl br place), Bd 401 t := fun t ht => by
      obtain ⟨s', _, rfl⟩ := List.mem_map.mp ht
      exact ((thL_bd two.okl.blocks s'.1).mul two.dR).add ((thL_bd two.okr.blocks s'.2).mul two.dL)
    generalize hG0 : onLine bl br place bl.top br.top = G at hG Rg q
    generalize hts : ss.map (topAt bl br place) = ts at rt hTb q
    have tsl : ts.length = ss.length := by rw [← hts, List.length_map]
    have hptp : pt ≠ p := (ne_of_none hp2 hptn).symm
    have hLb : ∀ k, k ≤ 12 → Bd 430 (lineF G ts k) := fun k hk => ((hG.mono (show 421 ≤ 429 by decide)).sub ((take_bd ts k hTb).mono (by omega)))
    let Pv4_ : Nat → St → Hp → Prop := fun k σ H' => ∃ (ws : List V) (o5 : Option V), σ = [some v1, some v2, some (.ref pp), some (.int place), some (.ref p), o5] ∧ H' p = some (.lst ws) ∧ RatL K H' (br.place - bl.place) (lineL G ts k) ws ∧ H' pt = some (.lst wt) ∧ RatL K H' (br.place - bl.place) ts wt ∧ Same H H'
    refine ⟨Itl K pt, .lst (SqL.of hpt), for_list (xs := wt) Pv4_
      ⟨_, none, rfl, s3 _ _ hp2, ?_, hpt, rt, s02.trans s3⟩ (fun i σ H' _ h => by obtain ⟨_, _, _, _, _, e, _⟩ := h; exact SqL.of e) ?_ ?_⟩
    · refine ⟨rfl, fun k t hk => ?_⟩
      cases k with
      | zero =>
        have e : lineF G ts 0 = t := Option.some.inj hk
        subst e
        have e0 : lineF G ts 0 = G := by unfold lineF; rw [List.take_zero]; simp
        exact ⟨pg, u, v, rfl, SqT.of (s3 _ _ hpg2), by rw [e0]; exact Rg⟩
      | succ k =>
        have := (List.getElem?_eq_some_iff.mp hk).1
        rw [lineL_len] at this
        omega
    · rintro k z σ H4 hz ⟨ws, o5, rfl, hp4, rL, hpt4, rt4, s4⟩
      have hk : k < ts.length := by have := (List.getElem?_eq_some_iff.mp hz).1; omega
      have htk : ts[k]? = some ts[k] := List.getElem?_eq_getElem hk
      obtain ⟨az, x2, y2, hz', hqz, R2⟩ := rt4.each k _ htk
      have ez : z = .ref az := Option.some.inj (hz.symm.trans hz')
      subst ez
      obtain ⟨al, x1, y1, hl', hql, R1⟩ := rL.each k _ (lineL_at G ts (Nat.le_refl k))
      have wsl : ws.length = k + 1 := by rw [rL.len, lineL_len]
      have at1 : atI ws (-1) = some (.ref al) := atI_end (fun z => by rw [z] at wsl; cases wsl) (by rw [wsl]; exact hl')
      have y1p := R1.pos
      have y2p := R2.pos
      have bL := hLb k (by omega)
      refine ⟨_, rfl, .inl ⟨rfl, _, SqL.of hp4⟩, ?_⟩
      refine ⟨_, rfl, _, rfl, .inl ⟨p, _, _, _, rfl, rfl, SqL.of hp4, at1, ?_⟩⟩
      refine ⟨_, rfl, al, az, x1, y1, x2, y2, rfl, hql, hqz, (bL.le R1.lx).mono (by decide), (dW.le R1.ly).mono (by decide), ((hTb _ (List.mem_of_getElem? htk)).le R2.lx).mono (by decide), (dW.le R2.ly).mono (by decide), by omega, by omega, fun pn x y H5 s5 hpn5 R => ?_⟩
      have hp5 := s5 _ _ hp4
      refine ⟨p, _, _, rfl, rfl, hp5, small1000 (by omega), ?_⟩
      have k2 := keepT_upd (K := K) (ys := ws ++ [.ref pn]) hp5
      refine ⟨_, _, rfl, upd_same, ?_, ?_, rt4.keepT (s5.keepT.trans k2), fun c o' e => by rw [upd_ne (ne_of_none e hpn)]; exact (s4.trans s5) c o' e⟩
      · rw [lineL_succ, lineF_succ htk]
        exact (rL.keepT (s5.keepT.trans k2)).snoc (k2 _ _ (SqT.of hpn5)) (RatOf.minus hw R1 R2 R)
      · rw [upd_ne hptp]
        exact s5 _ _ hpt4
    · rintro σ H4 ⟨ws, o5, rfl, hp4, rL, hpt4, rt4, s4⟩
      rw [wtl] at rL
      exact ⟨_, rfl, q p ws H4 hpn hp4 rL s4⟩
end
def spIn (K : PySem.W.Frag) : Sp := fun vs H Q _ => ∃ (p : Addr) (ws : List V) (ts : List Int) (b : Int), vs = [.ref p, .int b] ∧ H p = some (.lst ws) ∧ RatL K H b ts ws ∧ 0 < b ∧ Bd 200 b ∧ (∀ t ∈ ts, Bd 440 t) ∧ ts.length ≤ 20 ∧
  ∀ (z : Addr) (H' : Hp), H z = none → H' z = some (.lst (ts.map V.int)) → Same H H' → Q (.ref z) H'
theorem div_bd {b y : Int} (hb : 0 < b) (hy : 0 < y) (B : Bd 200 b) : Bd 200 (b / y) := by
  have h1 := Int.ediv_le_self y (Int.le_of_lt hb)
  have h2 := Int.ediv_nonneg (Int.le_of_lt hb) (Int.le_of_lt hy)
  refine B.le ?_
  omega
def spAdds (K : PySem.W.Frag) : Sp := fun vs H Q _ => ∃ (v1 v2 : V) (bl br : Bor) (ms : List Str) (pp : Addr) (us : List V) (ps : List Pr) (place : Int), vs = [v1, v2, .ref pp, .int place] ∧ TwoAt K H v1 v2 ms bl br place ∧
  H pp = some (.lst us) ∧ RepL K H (ps.map prD) us ∧ PrsOk (lays bl).length (lays br).length ps ∧ ∀ H' : Hp, Same H H' → Q (.bl true) H'
theorem top_nn {K : PySem.W.Frag} {H : Hp} {v1 v2 : V} {ms : List Str} {bl br : Bor} {place : Int} (h : TwoAt K H v1 v2 ms bl br place) (s : Sh) : 0 ≤ topAt bl br place s := by
  have nn : ∀ {b : Bor} (ok : BlksOk ms b.blocks) (o : Option Int), 0 ≤ thL (lays b) o := fun {b} ok o => by
    cases o with
    | none => exact Int.le_refl 0
    | some i =>
      show 0 ≤ ((lays b).getD i.toNat ("", 0)).2
      rw [List.getD_eq_getElem?_getD]
      cases e : (lays b)[i.toNat]? with
      | none => exact Int.le_refl 0
      | some x =>
        obtain ⟨bl, hb, hx⟩ := List.mem_flatten.mp (List.mem_of_getElem? e)
        obtain ⟨_, h1, _⟩ := ok.lay bl hb x hx
        show 0 ≤ x.2
        omega
  have h0 := h.p0
  have h1 := h.p1
  exact Int.add_nonneg (Int.mul_nonneg (nn h.okl.blocks s.1) (by omega)) (Int.mul_nonneg (nn h.okr.blocks s.2) (by omega))
theorem lays_ne {ms : List Str} {b : Bor} (ok : BlksOk ms b.blocks) : 0 < (lays b).length := by
  unfold lays
  obtain ⟨x, xs, e⟩ : ∃ x xs, b.blocks = x :: xs := by
    cases e : b.blocks with
    | nil => exact absurd e ok.ne
    | cons x xs => exact ⟨x, xs, rfl⟩
  have hx := ok.each x (by rw [e]; exact List.mem_cons_self)
  rw [e, List.flatten_cons, List.length_append]
  have := List.length_pos_iff.mpr hx
  omega
theorem shs_ne {n m : Nat} {ps : List Pr} (ok : PrsOk n m ps) (hn : 0 < n) : shs n m 0 0 ps ≠ [] := fun z => by
  have e := shs_fst n m ps 0 0 ok.rise (fun p hp => by obtain ⟨h1, h2, _, _⟩ := ok.each p hp; exact ⟨by simpa using h1, h2⟩)
  rw [z, Nat.sub_zero] at e
  have e2 := congrArg List.length e
  rw [List.length_map, List.length_range'] at e2
  have e3 : 0 = n := e2
  omega
theorem tops_sum {n m : Nat} {bl br : Bor} {place : Int} {ps : List Pr} (hn : n = (lays bl).length) (hm : m = (lays br).length) (ok : PrsOk n m ps) : ((shs n m 0 0 ps).map (topAt bl br place)).sum = onLine bl br place (sumT (lays bl)) (sumT (lays br)) := by
  rw [top_sum, th_sum (lays bl) (·.1), th_sum (lays br) (·.2), shs_fst n m ps 0 0 ok.rise (fun p hp => by obtain ⟨h1, h2, _, _⟩ := ok.each p hp; exact ⟨by simpa using h1, h2⟩), shs_snd n m ps 0 0 ok.rise (fun p hp => by obtain ⟨_, _, h3, h4⟩ := ok.each p hp; exact ⟨by simpa using h3, h4⟩), hn, hm, th_all, th_all]
  rfl
section
variable {P : Program} {w : World} {K : PySem.W.Frag} {mg : Str → Option Value} {base : Heap} {t : Adr}
theorem ok__law_in (T : Txt K mg t) : FnOk P w K mg base CX0 3 t.a__law_in t.d__law_in ["_law_some", "_law_wide"] (spIn K) := by
  refine T.F__law_in.ok sc__law_in (fun vs H Q E h => ?_) (fun cdv A outer s H vs Q E hr h => ?_)
  · obtain ⟨p, ws, ts, b, rfl, _⟩ := h; rfl
  · obtain ⟨p, ws, ts, b, rfl, hp, rat, hb, dW, hT, tl, q⟩ := h
    let X_ : Cx := (cxOf CX0 P w K mg base ["_law_some", "_law_wide", "_law_told", "_law_one"] "_law_in" (defScope s__law_in) t.a__law_in cdv A outer s H E).nox
    let u1_ : PSV (X_) (List.drop 2 (bodyOf (stAt (defBody s__law_in) 1))) := ⟨_, (pss_one (ps_expr (pe_bmK K PySem.F.plainAttrs_list PySem.F.slot_list_append PySem.F.type_list_append mt_append (pv 2) (pa_cons (pe_op (op_mulU K) (pe_ix (ix_K K) (pv 3) pe_int (fun _ _ => rfl)) (pe_op op_fdivB (pv 1) (pe_ix (ix_K K) (pv 3) pe_int (fun _ _ => rfl)))) pa_nil))))⟩
    let w1_ : TS := u1_.1
    have e1_ : PSs (X_) (List.drop 2 (bodyOf (stAt (defBody s__law_in) 1))) w1_ := u1_.2
    let u2_ : PSV (X_) (List.drop 1 (bodyOf (stAt (defBody s__law_in) 1))) := ⟨_, (pss_cons (ps_if (pt_cmpR (op_neK K hr.units) (pe_op op_mod (pv 1) (pe_ix (ix_K K) (pv 3) pe_int (fun _ _ => rfl))) pe_int (nomark _)) (pss_one (ps_ret pe_non)) pss_nil)
      e1_)⟩
    let w2_ : TS := u2_.1
    have e2_ : PSs (X_) (List.drop 1 (bodyOf (stAt (defBody s__law_in) 1))) w2_ := u2_.2
    let u3_ : PSV (X_) (List.drop 2 (defBody s__law_in)) := ⟨_, (pss_one (ps_ret (pv 2)))⟩
    let w3_ : TS := u3_.1
    have e3_ : PSs (X_) (List.drop 2 (defBody s__law_in)) w3_ := u3_.2
    let u4_ : PSV (X_) (List.drop 1 (defBody s__law_in)) := ⟨_, (pss_cons (ps_for PassesOwn.never rfl (pi_seqK K (pv 0)) (pg_name (i := 3) sc__law_in.nd rfl (Or.inl rfl))
      (pss_cons (ps_if (PW.pt (pw_or (pt_not (pt_truthK K (pe_callB (call_isiTK K) rfl T.N_isinstance bt_isinstance (pa_cons (pv 3) (pa_cons (pe_bltn (v := .ty "tuple") rfl T.N_tuple bt_tuple rfl) pa_nil))) (fun _ => rfl))) (pw_or (pt_cmpR (op_neK K hr.units) (pe_callB (call_lenK K) rfl T.N_len bt_len (pa_cons (pv 3) pa_nil)) pe_int (nomark _)) (pw_or1 (pt_not (pt_truthK K (pe_call (ok__law_is (K := K) T) (hr.mono (by decide)) rfl T.G__law_is T.F__law_is.kp T.B__law_is .nil pass0 (pa_cons (pv 3) (pa_cons (pe_ix (ix_K K) (pv 3) pe_int (fun _ _ => rfl)) (pa_cons (pe_ix (ix_K K) (pv 3) pe_int (fun _ _ => rfl)) pa_nil)))) (fun _ => rfl))))))) (pss_one (ps_ret pe_non)) pss_nil)
      e2_))
      e3_)⟩
    let w4_ : TS := u4_.1
    have e4_ : PSs (X_) (List.drop 1 (defBody s__law_in)) w4_ := u4_.2
    refine ⟨_, (pss_cons (ps_set (i := 2) sc__law_in.nd rfl (Or.inl rfl) (pe_lst pa_nil))
      e4_), ?_⟩
    have wl := rat.len
    refine ⟨Nat.zero_le _, fun z hz => ?_⟩
    have s1 : Same H (upd H z (.lst [])) := Same.new hz
    have hz1 : (upd H z (.lst [])) z = some (.lst []) := upd_same
    generalize upd H z (.lst []) = H1 at s1 hz1
    let Pv1_ : Nat → St → Hp → Prop := fun k σ H' => ∃ o3 : Option V, σ = [some (.ref p), some (.int b), some (.ref z), o3] ∧ H' z = some (.lst ((ts.take k).map V.int)) ∧ Same H H'
    refine ⟨_, rfl, Itl K p, .lst (SqL.of (s1 _ _ hp)), for_list (xs := ws) Pv1_ ⟨none, rfl, hz1, s1⟩ (fun i σ H' _ h => by obtain ⟨_, _, _, s⟩ := h; exact SqL.of (s _ _ hp)) ?_ ?_⟩
    · rintro k u σ H2 hu ⟨o3, rfl, hz2, s2⟩
      have hk : k < ts.length := by have := (List.getElem?_eq_some_iff.mp hu).1; omega
      have htk : ts[k]? = some ts[k] := List.getElem?_eq_getElem hk
      obtain ⟨a, x, y, hu', hq, R⟩ := rat.each k _ htk
      have eu : u = .ref a := Option.some.inj (hu.symm.trans hu')
      subst eu
      have hq2 := s2.seqT hq
      have bx : Bd 440 x := (hT _ (List.mem_of_getElem? htk)).le R.lx
      have b_y : Bd 200 y := dW.le R.ly
      obtain ⟨dv1, dv2⟩ := R.div hb
      have yl : y < 2 ^ 1000 := by
        have h1 : y.natAbs < 2 ^ 1000 := b_y.mono (by decide)
        have h2 : ((y.natAbs : Nat) : Int) = y := Int.natAbs_of_nonneg (Int.le_of_lt R.pos)
        rw [← h2]
        exact_mod_cast h1
      refine ⟨_, rfl, _, _, _, _, rfl, hq2, kit_tuple_tuple, _, rfl, iteF ?_⟩
      refine ⟨_, rfl, _, _, rfl, .inr ⟨_, hq2, rfl⟩, .inl ⟨rfl, _, rfl, iteF ?_⟩⟩
      refine ⟨_, rfl, _, rfl, .inr (.inl ⟨a, _, _, _, rfl, rfl, hq2, rfl, ?_⟩)⟩
      refine ⟨_, rfl, .inr (.inl ⟨a, _, _, _, rfl, rfl, hq2, rfl, ?_⟩)⟩
      refine ⟨a, x, y, x, y, rfl, hq2, bx.mono (by decide), b_y.mono (by decide), R.pos, R.low, rfl, bx.mono (by decide), b_y.mono (by decide), _, rfl, iteF ?_⟩
      refine ⟨_, rfl, _, rfl, .inr (.inl ⟨a, _, _, _, rfl, rfl, hq2, rfl, _, _, rfl, rfl, R.pos, .inl ⟨rfl, _, rfl, ?_⟩⟩)⟩
      have hd : decide (V.int (b % y) = V.int 0) = true := decide_eq_true (by rw [dv1])
      refine ite2 (fun hc => absurd (show (!decide (V.int (b % y) = V.int 0)) = true from hc) (by rw [hd]; decide)) (fun _ => ?_)
      refine ⟨_, rfl, .inl ⟨rfl, _, SqL.of hz2⟩, ?_⟩
      refine ⟨_, rfl, .inr (.inl ⟨a, _, _, _, rfl, rfl, hq2, rfl, ?_⟩)⟩
      refine ⟨_, rfl, _, rfl, .inr (.inl ⟨a, _, _, _, rfl, rfl, hq2, rfl, _, _, rfl, rfl, ⟨R.pos, yl⟩, .inl ⟨_, _, rfl, rfl, bx.c (div_bd hb R.pos dW), ?_⟩⟩)⟩
      refine ⟨z, _, _, rfl, rfl, hz2, small1000 (by rw [List.length_map, List.length_take]; omega), ?_⟩
      refine ⟨_, rfl, ?_, fun c o' e => by rw [upd_ne (ne_of_none e hz)]; exact s2 c o' e⟩
      rw [upd_same, List.take_add_one, htk, List.map_append]
      show some (HO.lst (_ ++ [V.int (x * (b / y))])) = _
      rw [dv2]
      rfl
    · rintro σ H2 ⟨o3, rfl, hz2, s2⟩
      rw [wl, List.take_length] at hz2
      exact ⟨_, rfl, q z H2 hz hz2 s2⟩
end
theorem ts_at {xs : List Int} {i : Nat} (h : i < xs.length) : atI (xs.map V.int) (i : Int) = some (.int (xs.getD i 0)) := by
  refine atI_nat ?_
  rw [List.getElem?_map, List.getElem?_eq_getElem h, List.getD_eq_getElem?_getD, List.getElem?_eq_getElem h]
  rfl
theorem repl_int {K : PySem.W.Frag} {H : Hp} : ∀ xs : List Int, RepL K H (xs.map PyData.int) (xs.map V.int)
  | [] => rfl
  | x :: xs => ⟨_, _, rfl, rfl, repl_int xs⟩
theorem ints_can (xs : List Int) : (PyData.list (xs.map PyData.int)).canLay0 = true := by
  show PyData.canLayAll0 (xs.map PyData.int) = true
  exact canLayAll_map fun _ _ => rfl
theorem ints_depth (xs : List Int) : (PyData.list (xs.map PyData.int)).depth ≤ 50 := by
  have h2 : (PyData.list (xs.map PyData.int)).depth ≤ 1 := Nat.succ_le_succ (depth_map (fun _ => Nat.le_refl 0) xs)
  omega
theorem ne_false {x y : Int} (h : x = y) : ¬ (!decide (V.int x = V.int y)) = true := by
  rw [h, decide_eq_true rfl]
  decide
section
variable {P : Program} {w : World} {K : PySem.W.Frag} {mg : Str → Option Value} {base : Heap} {t : Adr}
theorem ok__law_adds (T : Txt K mg t) : FnOk P w K mg base CX0 6 t.a__law_adds t.d__law_adds ["_law_left", "_law_right", "_law_pairs", "_law_place"] (spAdds K) := by
  refine T.F__law_adds.ok sc__law_adds (fun vs H Q E h => ?_) (fun cdv A outer s H vs Q E hr h => ?_)
  · obtain ⟨v1, v2, bl, br, ms, pp, us, ps, place, rfl, _⟩ := h; rfl
  · obtain ⟨v1, v2, bl, br, ms, pp, us, ps, place, rfl, two, hpp, rps, ok, q⟩ := h
    let X_ : Cx := (cxOf CX0 P w K mg base ["_law_left", "_law_right", "_law_pairs", "_law_place", "_law_wide", "_law_thick", "_law_lines", "_law_ends", "_law_wholes"] "_law_adds" (defScope s__law_adds) t.a__law_adds cdv A outer s H E).nox
    let u1_ : PSV (X_) (List.drop 9 (defBody s__law_adds)) := ⟨_, (pss_one (ps_ret (pe_cmpR (op_eqK K hr.units) (pe_cmp1 ["_law_left", "_law_right", "_law_pairs", "_law_place", "_law_wide", "_law_thick", "_law_lines", "_law_ends", "_law_wholes"] (defScope s__law_adds) ["_law_k", "_law_lines"] [none, some 6] (pi_range1 rfl T.N_range (pa_cons (pe_op op_sub (pe_callB (call_lenK K) rfl T.N_len bt_len (pa_cons (pv 6) pa_nil)) pe_int) pa_nil))
      (fun _ _ _ _ _ => (pg_name (i := 0) (show List.Nodup (["_law_k", "_law_lines"] : List Str) from (by decide +kernel)) rfl (Or.inl rfl))) (fun _ _ _ _ _ => pts_nil) (fun _ _ _ _ _ => (pe_op op_sub (pe_ix (ix_K K) (pv 1) (pv 0) (fun _ _ => rfl)) (pe_ix (ix_K K) (pv 1) (pe_op (op_addU K) (pv 0) pe_int) (fun _ _ => rfl))))) (pv 5) (nomark _))))⟩
    let w1_ : TS := u1_.1
    have e1_ : PSs (X_) (List.drop 9 (defBody s__law_adds)) w1_ := u1_.2
    let u2_ : PSV (X_) (List.drop 8 (defBody s__law_adds)) := ⟨_, (pss_cons (ps_if (PW.pt (pw_or (pt_cmpR (op_neK K hr.units) (pe_callB (call_sumK K) rfl T.N_sum bt_sum (pa_cons (pv 5) pa_nil)) (pe_ix (ix_K K) (pv 7) pe_int (fun _ _ => rfl)) (nomark _)) (pw_or (pt_cmpR (op_neK K hr.units) (pe_ix (ix_K K) (pv 6) pe_int (fun _ _ => rfl)) (pe_ix (ix_K K) (pv 7) pe_int (fun _ _ => rfl)) (nomark _)) (pw_or1 (pt_cmpR (op_neK K hr.units) (pe_ix (ix_K K) (pv 6) (pe_un un_neg pe_int) (fun _ _ => rfl)) (pe_op op_sub (pe_ix (ix_K K) (pv 7) pe_int (fun _ _ => rfl)) (pe_ix (ix_K K) (pv 7) pe_int (fun _ _ => rfl))) (nomark _)))))) (pss_one (ps_ret pe_bl)) pss_nil)
      e1_)⟩
    let w2_ : TS := u2_.1
    have e2_ : PSs (X_) (List.drop 8 (defBody s__law_adds)) w2_ := u2_.2
    let u3_ : PSV (X_) (List.drop 7 (defBody s__law_adds)) := ⟨_, (pss_cons (ps_if (pt_cmpR (op_neK K hr.units) (pe_ix (ix_K K) (pv 7) pe_int (fun _ _ => rfl)) (pe_op (op_addU K) (pe_op (op_mulU K) (pe_ix (ix_K K) (pv 0) pe_int (fun _ _ => rfl)) (pe_op op_sub (pe_ix (ix_K K) (pv 1) pe_int (fun _ _ => rfl)) (pv 3))) (pe_op (op_mulU K) (pe_ix (ix_K K) (pv 1) pe_int (fun _ _ => rfl)) (pe_op op_sub (pv 3) (pe_ix (ix_K K) (pv 0) pe_int (fun _ _ => rfl))))) (nomark _)) (pss_one (ps_ret pe_bl)) pss_nil)
      e2_)⟩
    let w3_ : TS := u3_.1
    have e3_ : PSs (X_) (List.drop 7 (defBody s__law_adds)) w3_ := u3_.2
    let u4_ : PSV (X_) (List.drop 6 (defBody s__law_adds)) := ⟨_, (pss_cons (ps_if (pt_cmpR (op_neK K hr.units) (pe_ix (ix_K K) (pv 7) pe_int (fun _ _ => rfl)) (pe_op (op_addU K) (pe_op (op_mulU K) (pe_ix (ix_K K) (pv 8) pe_int (fun _ _ => rfl)) (pe_op op_sub (pe_ix (ix_K K) (pv 1) pe_int (fun _ _ => rfl)) (pv 3))) (pe_op (op_mulU K) (pe_ix (ix_K K) (pv 8) pe_int (fun _ _ => rfl)) (pe_op op_sub (pv 3) (pe_ix (ix_K K) (pv 0) pe_int (fun _ _ => rfl))))) (nomark _)) (pss_one (ps_ret pe_bl)) pss_nil)
      e3_)⟩
    let w4_ : TS := u4_.1
    have e4_ : PSs (X_) (List.drop 6 (defBody s__law_adds)) w4_ := u4_.2
    let u5_ : PSV (X_) (List.drop 5 (defBody s__law_adds)) := ⟨_, (pss_cons (ps_cmpS (ix := 8) sc__law_adds.nd rfl (Or.inl rfl) ["_law_left", "_law_right", "_law_pairs", "_law_place", "_law_wide", "_law_thick", "_law_lines", "_law_ends", "_law_wholes"] (defScope s__law_adds) ["_law_bore"] [none] (pi_seqK K (pe_tup (pa_cons (pv 0) (pa_cons (pv 1) pa_nil))))
      (fun _ _ _ _ _ => (pg_name (i := 0) (show List.Nodup (["_law_bore"] : List Str) from (by decide +kernel)) rfl (Or.inl rfl))) (fun _ _ _ _ _ => pts_nil) (fun _ _ _ _ _ => (pe_callB (call_sumK K) rfl T.N_sum bt_sum (pa_cons (pe_cmp1 ["_law_bore"] (_) ["_law_layer"] [none] (pi_seqK K (pe_call (ok__law_layers (K := K) T) (hr.mono (by decide)) rfl T.G__law_layers T.F__law_layers.kp T.B__law_layers .nil pass0 (pa_cons (pv 0) pa_nil)))
      (fun _ _ _ _ _ => (pg_name (i := 0) (show List.Nodup (["_law_layer"] : List Str) from (by decide +kernel)) rfl (Or.inl rfl))) (fun _ _ _ _ _ => pts_nil) (fun _ _ _ _ _ => (pe_ix (ix_K K) (pv 0) pe_int (fun _ _ => rfl))) (chk := by kernel_rfl)) pa_nil))))
      e4_)⟩
    let w5_ : TS := u5_.1
    have e5_ : PSs (X_) (List.drop 5 (defBody s__law_adds)) w5_ := u5_.2
    let u6_ : PSV (X_) (List.drop 4 (defBody s__law_adds)) := ⟨_, (pss_cons (ps_if (PW.pt (pw_or (pt_cmpR op_isN (pv 5) pe_non (nomark _)) (pw_or (pt_cmpR op_isN (pv 6) pe_non (nomark _)) (pw_or (pt_cmpR op_isN (pv 7) pe_non (nomark _)) (pw_or1 (pt_cmpR op_ltG (pe_callB (call_minL K) rfl T.N_min bt_min (pa_cons (pv 5) pa_nil)) pe_int (nomark _))))))) (pss_one (ps_ret pe_bl)) pss_nil)
      e5_)⟩
    let w6_ : TS := u6_.1
    have e6_ : PSs (X_) (List.drop 4 (defBody s__law_adds)) w6_ := u6_.2
    let u7_ : PSV (X_) (List.drop 3 (defBody s__law_adds)) := ⟨_, (pss_cons (ps_set (i := 7) sc__law_adds.nd rfl (Or.inl rfl) (pe_call (ok__law_in (K := K) T) (hr.mono (by decide)) rfl T.G__law_in T.F__law_in.kp T.B__law_in .nil pass0 (pa_cons (pe_lst (pa_cons (pe_call (ok_whole_at (K := K) T) (hr.mono (by decide)) rfl T.G_whole_at T.F_whole_at.kp T.B_whole_at .nil pass0 (pa_cons (pv 0) (pa_cons (pv 1) (pa_cons (pv 3) pa_nil)))) (pa_cons (pe_call (ok_ground_at (K := K) T) (hr.mono (by decide)) rfl T.G_ground_at T.F_ground_at.kp T.B_ground_at .nil pass0 (pa_cons (pv 0) (pa_cons (pv 1) (pa_cons (pv 3) pa_nil)))) pa_nil))) (pa_cons (pv 4) pa_nil))))
      e6_)⟩
    let w7_ : TS := u7_.1
    have e7_ : PSs (X_) (List.drop 3 (defBody s__law_adds)) w7_ := u7_.2
    let u8_ : PSV (X_) (List.drop 2 (defBody s__law_adds)) := ⟨_, (pss_cons (ps_set (i := 6) sc__law_adds.nd rfl (Or.inr rfl) (pe_call (ok__law_in (K := K) T) (hr.mono (by decide)) rfl T.G__law_in T.F__law_in.kp T.B__law_in .nil pass0 (pa_cons (pe_call (ok_lines_at (K := K) T) (hr.mono (by decide)) rfl T.G_lines_at T.F_lines_at.kp T.B_lines_at .nil pass0 (pa_cons (pv 0) (pa_cons (pv 1) (pa_cons (pv 2) (pa_cons (pv 3) pa_nil))))) (pa_cons (pv 4) pa_nil))))
      e7_)⟩
    let w8_ : TS := u8_.1
    have e8_ : PSs (X_) (List.drop 2 (defBody s__law_adds)) w8_ := u8_.2
    let u9_ : PSV (X_) (List.drop 1 (defBody s__law_adds)) := ⟨_, (pss_cons (ps_set (i := 5) sc__law_adds.nd rfl (Or.inl rfl) (pe_call (ok__law_in (K := K) T) (hr.mono (by decide)) rfl T.G__law_in T.F__law_in.kp T.B__law_in .nil pass0 (pa_cons (pe_call (ok_thick_at (K := K) T) (hr.mono (by decide)) rfl T.G_thick_at T.F_thick_at.kp T.B_thick_at .nil pass0 (pa_cons (pv 0) (pa_cons (pv 1) (pa_cons (pv 2) (pa_cons (pv 3) pa_nil))))) (pa_cons (pv 4) pa_nil))))
      e8_)⟩
    let w9_ : TS := u9_.1
    have e9_ : PSs (X_) (List.drop 1 (defBody s__law_adds)) w9_ := u9_.2
    refine ⟨_, (pss_cons (ps_set (i := 4) sc__law_adds.nd rfl (Or.inl rfl) (pe_op op_sub (pe_ix (ix_K K) (pv 1) pe_int (fun _ _ => rfl)) (pe_ix (ix_K K) (pv 0) pe_int (fun _ _ => rfl))))
      e9_), ?_⟩
    have l6 : (lays bl).length ≤ 6 := two.okl.blocks.few
    have r6 : (lays br).length ≤ 6 := two.okr.blocks.few
    have sle := shs_le ok
    have dW := two.dW
    have dR := two.dR
    have dL := two.dL
    have lt := two.lt
    have hw : 0 < br.place - bl.place := by omega
    obtain ⟨a1, vb1, rfl, q1, _⟩ := rep_bor two.r1
    obtain ⟨a2, vb2, rfl, q2, _⟩ := rep_bor two.r2
    have hsum := tops_sum (place := place) rfl rfl ok
    have hne := shs_ne ok (lays_ne two.okl.blocks)
    have wbl := (whole_bd two.okl.blocks).2
    have wbr := (whole_bd two.okr.blocks).2
    have tbl := top_bd (n := 210) two.okl.t0 two.okl.t1 (by decide)
    have tbr := top_bd (n := 210) two.okr.t0 two.okr.t1 (by decide)
    have hTb : ∀ t ∈ (shs (lays bl).length (lays br).length 0 0 ps).map (topAt bl br place), Bd 401 t := fun t ht => by
      obtain ⟨s', _, rfl⟩ := List.mem_map.mp ht
      exact ((thL_bd two.okl.blocks s'.1).mul dR).add ((thL_bd two.okr.blocks s'.2).mul dL)
    have hT0 : ∀ t ∈ (shs (lays bl).length (lays br).length 0 0 ps).map (topAt bl br place), 0 ≤ t := fun t ht => by
      obtain ⟨s', _, rfl⟩ := List.mem_map.mp ht
      exact top_nn two s'
    have hGb : Bd 411 (onLine bl br place bl.top br.top) := (tbl.mul dR).add (tbr.mul dL)
    have hWb : Bd 411 (onLine bl br place (sumT (lays bl)) (sumT (lays br))) := (wbl.mul dR).add (wbr.mul dL)
    refine ⟨_, rfl, .inr (.inl ⟨a2, _, _, _, rfl, rfl, q2, rfl, _, rfl, .inr (.inl ⟨a1, _, _, _, rfl, rfl, q1, rfl, _, _, rfl, rfl, ?_⟩)⟩)⟩
    refine ⟨_, rfl, _, rfl, _, rfl, _, rfl, .ref a1, .ref a2, bl, br, ms, pp, us, ps, place, rfl, two.r1, two.r2, two.okl, two.okr, two.lt, two.p0, two.p1, hpp, rps, ok, fun pt wt H1 _ hpt thk s1 => ?_⟩
    have rt := thk.rat
    generalize hss : shs (lays bl).length (lays br).length 0 0 ps = ss at sle rt hsum hne hTb hT0
    have tsl : (ss.map (topAt bl br place)).length = ss.length := List.length_map ..
    have ssl : 0 < ss.length := List.length_pos_iff.mpr hne
    refine ⟨_, rfl, pt, wt, _, _, rfl, hpt, rt, hw, dW, fun t ht => (hTb t ht).mono (by decide), by omega, fun zt H2 _ hzt s2 => ?_⟩
    have s02 := s1.trans s2
    refine ⟨_, rfl, _, rfl, _, rfl, _, rfl, .ref a1, .ref a2, bl, br, ms, pp, us, ps, place, rfl, two.same s02, s02 _ _ hpp, rps.same s02, ok, fun pl wl H3 _ hpl rl s3 => ?_⟩
    rw [hss] at rl
    generalize hG : onLine bl br place bl.top br.top = G at rl hGb
    generalize hts : ss.map (topAt bl br place) = ts at rt hsum hTb hT0 tsl hzt rl
    have hLb : ∀ t ∈ lineL G ts ss.length, Bd 430 t := fun t ht => by
      unfold lineL at ht
      obtain ⟨k, hk, rfl⟩ := List.mem_map.mp ht
      have hk' := List.mem_range.mp hk
      exact ((hGb.mono (show 411 ≤ 429 by decide)).sub ((take_bd ts k hTb).mono (by omega)))
    refine ⟨_, rfl, pl, wl, _, _, rfl, hpl, rl, hw, dW, fun t ht => (hLb t ht).mono (by decide), by rw [lineL_len]; omega, fun zl H4 _ hzl s4 => ?_⟩
    have s24 := s3.trans s4
    have s04 := s02.trans s24
    refine ⟨_, rfl, _, rfl, _, rfl, .ref a1, .ref a2, ms, bl, br, place, rfl, two.same s04, fun pw u v H5 s5 hpw Rw => ?_⟩
    have s05 := s04.trans s5
    refine ⟨_, rfl, _, rfl, _, rfl, .ref a1, .ref a2, ms, bl, br, place, rfl, two.same s05, fun pg u' v' H6 s6 hpg Rg => ?_⟩
    rw [hG] at Rg
    refine ⟨by show 2 ≤ sizeLine; decide, fun pe hpe => ?_⟩
    have s7 := Same.new (o := .lst [.ref pw, .ref pg]) hpe
    have hpe7 : (upd H6 pe (.lst [.ref pw, .ref pg])) pe = some (.lst [.ref pw, .ref pg]) := upd_same
    have hpw7 := s7 _ _ (s6 _ _ hpw)
    have hpg7 := s7 _ _ hpg
    generalize upd H6 pe (.lst [.ref pw, .ref pg]) = H7 at s7 hpe7 hpw7 hpg7
    have s07 := (s05.trans s6).trans s7
    generalize hW : onLine bl br place (sumT (lays bl)) (sumT (lays br)) = W at Rw hWb hsum
    have re : RatL K H7 (br.place - bl.place) [W, G] [.ref pw, .ref pg] := by
      refine ⟨rfl, fun k t hk => ?_⟩
      cases k with
      | zero =>
        have e : W = t := Option.some.inj hk
        subst e
        exact ⟨pw, u, v, rfl, SqT.of hpw7, Rw⟩
      | succ k =>
        cases k with
        | zero =>
          have e : G = t := Option.some.inj hk
          subst e
          exact ⟨pg, u', v', rfl, SqT.of hpg7, Rg⟩
        | succ k => cases hk
    refine ⟨_, rfl, pe, _, [W, G], _, rfl, hpe7, re, hw, dW, fun t ht => by
      simp only [List.mem_cons, List.not_mem_nil, or_false] at ht
      rcases ht with rfl | rfl
      · exact hWb.mono (by decide)
      · exact hGb.mono (by decide), by show 2 ≤ 20; decide, fun ze H8 _ hze s8 => ?_⟩
    have s78 := s8
    have s08 := s07.trans s8
    have s48 := ((s5.trans s6).trans s7).trans s8
    have hzl8 := s48 _ _ hzl
    have hzt8 := (s24.trans s48) _ _ hzt
    have hze8 : H8 ze = some (.lst ([W, G].map V.int)) := hze
    refine ⟨_, rfl, rfl, _, rfl, iteF ?_⟩
    refine ⟨_, rfl, rfl, _, rfl, iteF ?_⟩
    refine ⟨_, rfl, rfl, _, rfl, iteF ?_⟩
    refine ⟨_, rfl, zt, ts, rfl, SqL.of hzt8, (fun z => by rw [z] at tsl; have : (0 : Nat) = ss.length := tsl; omega), fun m hm => ?_⟩
    refine ⟨_, _, rfl, rfl, _, rfl, ite2 (fun hc => absurd (of_decide_eq_true hc) (by have := hT0 m hm; omega)) (fun _ => ?_)⟩
    refine ⟨_, rfl, _, rfl, by show 2 ≤ sizeLine; decide, fun z9 hz9 => ?_⟩
    have s9 : Same H8 (upd H8 z9 (.tup [.ref a1, .ref a2])) := Same.new hz9
    have hz9' : (upd H8 z9 (.tup [.ref a1, .ref a2])) z9 = some (.tup [.ref a1, .ref a2]) := upd_same
    generalize upd H8 z9 (.tup [.ref a1, .ref a2]) = H9 at s9 hz9'
    have s09 := s08.trans s9
    have t9 := two.same s09
    refine ⟨Itt K z9, .tup (SqT.of hz9'), fun D hD => ?_⟩
    refine comp_tup (fun i ys H' => ys = (([bl, br].take i).map fun b => sumT (lays b)).map V.int) (SqT.of hz9') hD rfl ?_ ?_
    · rintro i mm x ys HA hx hi hm sA hy hl rfl
      obtain ⟨b, hb, rb, okb⟩ : ∃ b, [bl, br][i]? = some b ∧ Rep K H9 (borD b) x ∧ BlksOk ms b.blocks := by
        cases i with
        | zero =>
          have e : V.ref a1 = x := Option.some.inj hx
          subst e
          exact ⟨bl, rfl, t9.r1, two.okl.blocks⟩
        | succ i =>
          cases i with
          | zero =>
            have e : V.ref a2 = x := Option.some.inj hx
            subst e
            exact ⟨br, rfl, t9.r2, two.okr.blocks⟩
          | succ i => cases hx
      have b6 : (lays b).length ≤ 6 := okb.few
      refine ⟨SubS.set (SubS.refl _) rfl, ?_⟩
      refine ⟨_, rfl, x, b, ms, rfl, rb.same sA, okb, fun p2 u2 HB _ hp2 r2 sB => ?_⟩
      have e2 := repl_len r2
      refine ⟨Itl K p2, .lst (SqL.of hp2), fun D2 hD2 => ?_⟩
      refine comp_lst (fun i ys H' => ys = ((lays b).take i).map fun x => V.int x.2) (SqL.of hp2) hD2 rfl ?_ ?_
      · rintro j mm2 u ys2 HC hu hj hm2 sC hy2 hl2 rfl
        obtain ⟨x2, hx2, ru⟩ := repl_at r2 hu
        obtain ⟨ad, rfl, hq2⟩ := rep_lay (ru.same sC)
        refine ⟨SubS.set (SubS.refl _) rfl, _, rfl, .inr (.inl ⟨ad, _, _, _, rfl, rfl, hq2, rfl, ?_⟩)⟩
        refine wl_next hD2 hj hm2 (small1000 (by omega)) sC hy2 hl2 (Same.refl _) ?_
        rw [List.take_add_one, hx2, List.map_append]
        rfl
      · rintro ys2 HC sC hy2 hl2 rfl
        rw [e2, List.take_length] at hy2
        refine ⟨D2, (lays b).map (·.2), rfl, SqL.of (by rw [hy2, List.map_map]; rfl), ?_⟩
        rw [preSum_all]
        refine wl_next hD hi hm (small1000 (by show 2 ≤ 1000; decide)) sA hy hl (sB.trans sC) ?_
        rw [List.take_add_one, hb, List.map_append, List.map_append]
        rfl
    rintro ys HA sA hy hl rfl
    have hy' : HA D = some (.lst ([sumT (lays bl), sumT (lays br)].map V.int)) := hy
    have s0A := s09.trans sA
    have s8A := s9.trans sA
    have hzeA := s8A _ _ hze8
    have hzlA := s8A _ _ hzl8
    have hztA := s8A _ _ hzt8
    have q1A := s0A.seqT q1
    have q2A := s0A.seqT q2
    refine ⟨_, rfl, .inl ⟨ze, _, _, _, rfl, rfl, SqL.of hzeA, ts_at (xs := [W, G]) (i := 0) (by show 0 < 2; decide), ?_⟩⟩
    refine ⟨_, rfl, .inl ⟨D, _, _, _, rfl, rfl, SqL.of hy', ts_at (xs := [sumT (lays bl), sumT (lays br)]) (i := 0) (by show 0 < 2; decide), ?_⟩⟩
    refine ⟨_, rfl, .inr (.inl ⟨a2, _, _, _, rfl, rfl, q2A, rfl, _, rfl, _, _, rfl, rfl, .inl ⟨_, _, rfl, rfl, wbl.c dR, ?_⟩⟩)⟩
    refine ⟨_, rfl, .inl ⟨D, _, _, _, rfl, rfl, SqL.of hy', ts_at (xs := [sumT (lays bl), sumT (lays br)]) (i := 1) (by show 1 < 2; decide), ?_⟩⟩
    refine ⟨_, rfl, _, rfl, .inr (.inl ⟨a1, _, _, _, rfl, rfl, q1A, rfl, _, _, rfl, rfl, .inl ⟨_, _, rfl, rfl, wbr.c dL, .inl ⟨_, _, rfl, rfl, ?_⟩⟩⟩)⟩
    refine .inl ⟨rfl, _, rfl, ite2 (fun hc => absurd hc (ne_false (show W = sumT (lays bl) * (br.place - place) + sumT (lays br) * (place - bl.place) from hW.symm))) (fun _ => ?_)⟩
    refine ⟨_, rfl, .inl ⟨ze, _, _, _, rfl, rfl, SqL.of hzeA, ts_at (xs := [W, G]) (i := 1) (by show 1 < 2; decide), ?_⟩⟩
    refine ⟨_, rfl, .inr (.inl ⟨a1, _, _, _, rfl, rfl, q1A, rfl, ?_⟩)⟩
    refine ⟨_, rfl, .inr (.inl ⟨a2, _, _, _, rfl, rfl, q2A, rfl, _, rfl, _, _, rfl, rfl, .inl ⟨_, _, rfl, rfl, tbl.c dR, ?_⟩⟩)⟩
    refine ⟨_, rfl, .inr (.inl ⟨a2, _, _, _, rfl, rfl, q2A, rfl, ?_⟩)⟩
    refine ⟨_, rfl, _, rfl, .inr (.inl ⟨a1, _, _, _, rfl, rfl, q1A, rfl, _, _, rfl, rfl, .inl ⟨_, _, rfl, rfl, tbr.c dL, .inl ⟨_, _, rfl, rfl, ?_⟩⟩⟩)⟩
    refine .inl ⟨rfl, _, rfl, ite2 (fun hc => absurd hc (ne_false (show G = bl.top * (br.place - place) + br.top * (place - bl.place) from hG.symm))) (fun _ => ?_)⟩
    have hlast : lineF G ts ss.length = G - W := by
      unfold lineF
      rw [← tsl, List.take_length, hsum]
    have hfirst : lineF G ts 0 = G := by unfold lineF; rw [List.take_zero]; simp
    have lnl := lineL_len G ts ss.length
    have lml : ((lineL G ts ss.length).map V.int).length = ss.length + 1 := by rw [List.length_map, lnl]
    have lat : ∀ i, i ≤ ss.length → atI ((lineL G ts ss.length).map V.int) (i : Int) = some (.int (lineF G ts i)) := fun i hi => atI_nat (by rw [List.getElem?_map, lineL_at G ts hi]; rfl)
    refine ⟨_, rfl, zt, ts, rfl, SqL.of hztA, ?_⟩
    refine ⟨_, rfl, .inl ⟨ze, _, _, _, rfl, rfl, SqL.of hzeA, ts_at (xs := [W, G]) (i := 0) (by show 0 < 2; decide), ?_⟩⟩
    refine .inl ⟨rfl, _, rfl, ite2 (fun hc => absurd hc (ne_false (show PySem.preSum (fun i => ts.getD i 0) ts.length = W by rw [preSum_all, hsum]))) (fun _ => ?_)⟩
    refine ⟨_, rfl, .inl ⟨zl, _, _, _, rfl, rfl, SqL.of hzlA, lat 0 (Nat.zero_le _), ?_⟩⟩
    refine ⟨_, rfl, .inl ⟨ze, _, _, _, rfl, rfl, SqL.of hzeA, ts_at (xs := [W, G]) (i := 1) (by show 1 < 2; decide), ?_⟩⟩
    refine .inl ⟨rfl, _, rfl, ite2 (fun hc => absurd hc (ne_false (show lineF G ts 0 = G from hfirst))) (fun _ => ?_)⟩
    refine ⟨_, rfl, _, rfl, .inl ⟨zl, _, _, _, rfl, rfl, SqL.of hzlA, atI_end (v := .int (lineF G ts ss.length)) (fun z => by have := congrArg List.length z; rw [List.length_map, lnl] at this; cases this) (by rw [List.length_map, lnl, Nat.add_sub_cancel, List.getElem?_map, lineL_at G ts (Nat.le_refl _)]; rfl), ?_⟩⟩
    refine ⟨_, rfl, .inl ⟨ze, _, _, _, rfl, rfl, SqL.of hzeA, ts_at (xs := [W, G]) (i := 1) (by show 1 < 2; decide), ?_⟩⟩
    refine ⟨_, rfl, .inl ⟨ze, _, _, _, rfl, rfl, SqL.of hzeA, ts_at (xs := [W, G]) (i := 0) (by show 0 < 2; decide), ?_⟩⟩
    refine ⟨_, _, rfl, rfl, .inl ⟨rfl, _, rfl, ite2 (fun hc => absurd hc (ne_false (show lineF G ts ss.length = G - W from hlast))) (fun _ => ?_)⟩⟩
    refine ⟨_, rfl, _, _, rfl, .inl ⟨_, SqL.of hzlA, rfl⟩, _, _, rfl, rfl, _, rfl, by omega, by omega, fun DD hDD => ?_⟩
    have en : ((((lineL G ts ss.length).map V.int).length : Int) - 1).toNat = ss.length := by rw [List.length_map, lnl]; omega
    rw [en]
    refine comp_rng (fun i ys H' => ys = (ts.take i).map V.int) hDD rfl ?_ ?_
    · rintro i mm ys HB hi hm sB hyB hlB rfl
      have htk : ts[i]? = some (ts[i]'(by omega)) := List.getElem?_eq_getElem (by omega)
      have ls := lineF_succ (G := G) htk
      have c1 : atI ((lineL G ts ss.length).map V.int) (0 + (i : Int)) = some (.int (lineF G ts i)) := by rw [Int.zero_add]; exact lat i (by omega)
      have c2 : atI ((lineL G ts ss.length).map V.int) (0 + (i : Int) + 1) = some (.int (lineF G ts (i + 1))) := by rw [Int.zero_add]; exact lat (i + 1) (by omega)
      refine ⟨SubS.set (SubS.refl _) rfl, ?_⟩
      refine ⟨_, rfl, _, rfl, .inl ⟨zl, _, _, _, rfl, rfl, SqL.of (sB _ _ hzlA), c1, ?_⟩⟩
      refine ⟨_, rfl, _, rfl, .inl ⟨_, _, rfl, rfl, .inl ⟨zl, _, _, _, rfl, rfl, SqL.of (sB _ _ hzlA), c2, _, _, rfl, rfl, ?_⟩⟩⟩
      refine wl_next hDD hi hm (small1000 (by omega)) sB hyB hlB (Same.refl _) ?_
      rw [List.take_add_one, htk, List.map_append]
      show _ ++ [V.int (lineF G ts i - lineF G ts (i + 1))] = _
      rw [ls, show lineF G ts i - (lineF G ts i - ts[i]'(by omega)) = ts[i]'(by omega) by omega]
      rfl
    rintro ys HB sB hyB hlB rfl
    rw [← tsl, List.take_length] at hyB
    refine ⟨_, rfl, ?_⟩
    refine .inr ⟨_, _, rep_lst hyB (repl_int ts), rep_lst (sB _ _ hztA) (repl_int ts), ints_can _, ints_can _, ints_depth _, ?_⟩
    rw [PySem.SeqAt.eqv_refl _ (ints_can _)]
    exact q HB (s0A.trans sB)
end
theorem PrsOk.none (n m : Nat) : PrsOk n m [] := ⟨.nil, fun p hp => absurd hp (by simp), Nat.zero_le _⟩
def spLaw (K : PySem.W.Frag) : Sp := fun vs H Q _ => ∃ (a : Addr) (ns : List Int), vs = [.ref a] ∧ Scr K H a ns ∧ ∀ H', Q (.bl true) H'
section
variable {P : Program} {w : World} {K : PySem.W.Frag} {mg : Str → Option Value} {base : Heap} {t : Adr}
theorem ok_law (T : Txt K mg t) : FnOk P w K mg base CX0 8 t.a_law t.d_law ["_law_script"] (spLaw K) := by
  refine T.F_law.ok sc_law (fun vs H Q E h => ?_) (fun cdv A outer s H vs Q E hr h => ?_)
  · obtain ⟨a, ns, rfl, _⟩ := h; rfl
  · obtain ⟨a, ns, rfl, hs, q⟩ := h
    let X_ : Cx := (cxOf CX0 P w K mg base ["_law_script", "_law_left", "_law_right", "_law_pairs", "_law_place", "_law_spot", "_law_some"] "law" (defScope s_law) t.a_law cdv A outer s H E).nox
    let u1_ : PSV (X_) (List.drop 2 (defBody s_law)) := ⟨_, (pss_one (ps_ret pe_bl))⟩
    let w1_ : TS := u1_.1
    have e1_ : PSs (X_) (List.drop 2 (defBody s_law)) w1_ := u1_.2
    let u2_ : PSV (X_) (List.drop 1 (defBody s_law)) := ⟨_, (pss_cons (ps_for PassesOwn.never rfl (pi_seqK K (pe_tup (pa_cons (pv 4) (pa_cons (pe_ix (ix_K K) (pv 1) pe_int (fun _ _ => rfl)) (pa_cons (pe_ix (ix_K K) (pv 2) pe_int (fun _ _ => rfl)) pa_nil))))) (pg_name (i := 5) sc_law.nd rfl (Or.inl rfl))
      (pss_one (ps_for PassesOwn.never rfl (pi_seqK K (pe_tup (pa_cons (pv 3) (pa_cons (pe_lst pa_nil) pa_nil)))) (pg_name (i := 6) sc_law.nd rfl (Or.inl rfl))
      (pss_one (ps_if (pt_not (pt_truthK K (pe_call (ok__law_adds (K := K) T) (hr.mono (by decide)) rfl T.G__law_adds T.F__law_adds.kp T.B__law_adds .nil pass0 (pa_cons (pv 1) (pa_cons (pv 2) (pa_cons (pe_callTy (call_listK K) rfl T.N_list bt_list (pa_cons (pv 6) pa_nil)) (pa_cons (pv 5) pa_nil))))) (fun _ => rfl))) (pss_one (ps_ret pe_bl)) pss_nil)))))
      e1_)⟩
    let w2_ : TS := u2_.1
    have e2_ : PSs (X_) (List.drop 1 (defBody s_law)) w2_ := u2_.2
    refine ⟨_, (pss_cons (ps_asg (pe_call (ok__law_two (K := K) T) (hr.mono (by decide)) rfl T.G__law_two T.F__law_two.kp T.B__law_two .nil pass0 (pa_cons (pv 0) pa_nil)) (pg_tupK K (n := 4) rfl (pgs_cons (pg_name (i := 1) sc_law.nd rfl (Or.inl rfl)) (pgs_cons (pg_name (i := 2) sc_law.nd rfl (Or.inl rfl)) (pgs_cons (pg_name (i := 3) sc_law.nd rfl (Or.inl rfl)) (pgs_cons (pg_name (i := 4) sc_law.nd rfl (Or.inl rfl)) pgs_nil))))))
      e2_), ?_⟩
    refine ⟨_, rfl, a, ns, rfl, hs, fun z vl vr pp bl br ms us ps place H1 hz ppn hpp rps rl rr ok s1 => ?_⟩
    refine ⟨z, _, rfl, hz, rfl, _, _, rfl, _, _, rfl, _, _, rfl, _, _, rfl, rfl, ?_⟩
    obtain ⟨a1, vb1, rfl, q1, _⟩ := rep_bor rl
    obtain ⟨a2, vb2, rfl, q2, _⟩ := rep_bor rr
    have lt := ok.lt
    refine ⟨_, rfl, _, rfl, .inr (.inl ⟨a1, _, _, _, rfl, rfl, q1, rfl, _, rfl, .inr (.inl ⟨a2, _, _, _, rfl, rfl, q2, rfl, by show 3 ≤ sizeLine; decide, fun z2 hz2 => ?_⟩)⟩)⟩
    have s2 : Same H1 (upd H1 z2 (.tup [.int place, .int bl.place, .int br.place])) := Same.new hz2
    have hz2' : (upd H1 z2 (.tup [.int place, .int bl.place, .int br.place])) z2 = some (.tup [.int place, .int bl.place, .int br.place]) := upd_same
    let Pv1_ : Nat → St → Hp → Prop := fun i σ H' => ∃ o5 o6 : Option V, σ = [some (.ref a), some (.ref a1), some (.ref a2), some (.ref pp), some (.int place), o5, o6] ∧ Same (upd H1 z2 (.tup [.int place, .int bl.place, .int br.place])) H'
    refine ⟨Itt K z2, .tup (SqT.of hz2'), for_tup (xs := [.int place, .int bl.place, .int br.place]) Pv1_ ⟨_, _, rfl, Same.refl _⟩ (fun i σ H' _ h => by obtain ⟨_, _, _, s⟩ := h; exact SqT.of (s _ _ hz2')) ?_ ?_⟩
    · rintro i v σ H3 hv ⟨o5, o6, rfl, s3⟩
      obtain ⟨sp, rfl, h0, h1⟩ : ∃ sp : Int, v = .int sp ∧ bl.place ≤ sp ∧ sp ≤ br.place := by
        have hm := List.mem_of_getElem? hv
        simp only [List.mem_cons, List.not_mem_nil, or_false] at hm
        have := ok.p0
        have := ok.p1
        rcases hm with rfl | rfl | rfl <;> exact ⟨_, rfl, by omega, by omega⟩
      have s13 := s2.trans s3
      refine ⟨_, rfl, Nat.zero_le _, fun pe hpe => ?_⟩
      have s4 : Same H3 (upd H3 pe (.lst [])) := Same.new hpe
      have hpe4 : (upd H3 pe (.lst [])) pe = some (.lst []) := upd_same
      generalize upd H3 pe (.lst []) = H4 at s4 hpe4
      refine ⟨by show 2 ≤ sizeLine; decide, fun zt hzt => ?_⟩
      have s5 : Same H4 (upd H4 zt (.tup [.ref pp, .ref pe])) := Same.new hzt
      have hzt5 : (upd H4 zt (.tup [.ref pp, .ref pe])) zt = some (.tup [.ref pp, .ref pe]) := upd_same
      have hpe5 := s5 _ _ hpe4
      generalize upd H4 zt (.tup [.ref pp, .ref pe]) = H5 at s5 hzt5 hpe5
      have s35 := s4.trans s5
      have s15 := s13.trans s35
      let Pv2_ : Nat → St → Hp → Prop := fun j σ H' => ∃ o6 : Option V, σ = [some (.ref a), some (.ref a1), some (.ref a2), some (.ref pp), some (.int place), some (.int sp), o6] ∧ Same H5 H'
      refine ⟨Itt K zt, .tup (SqT.of hzt5), for_tup (xs := [.ref pp, .ref pe]) Pv2_ ⟨_, rfl, Same.refl _⟩ (fun i σ H' _ h => by obtain ⟨_, _, s⟩ := h; exact SqT.of (s _ _ hzt5)) ?_ ?_⟩
      · rintro j u σ H6 hu ⟨o6, rfl, s6⟩
        have s16 := s15.trans s6
        obtain ⟨pu, uu, qs, rfl, hpu, rq, okq⟩ : ∃ (pu : Addr) (uu : List V) (qs : List Pr), u = .ref pu ∧ H6 pu = some (.lst uu) ∧ RepL K H6 (qs.map prD) uu ∧ PrsOk (lays bl).length (lays br).length qs := by
          have hm := List.mem_of_getElem? hu
          simp only [List.mem_cons, List.not_mem_nil, or_false] at hm
          rcases hm with rfl | rfl
          · exact ⟨pp, us, ps, rfl, s16 _ _ hpp, rps.same s16, ok.prs⟩
          · exact ⟨pe, [], [], rfl, s6 _ _ hpe5, rfl, PrsOk.none _ _⟩
        refine ⟨_, rfl, _, rfl, _, rfl, pu, uu, rfl, .inl (SqL.of hpu), fun ph hph => ?_⟩
        have s7 : Same H6 (upd H6 ph (.lst uu)) := Same.new hph
        have hph7 : (upd H6 ph (.lst uu)) ph = some (.lst uu) := upd_same
        generalize upd H6 ph (.lst uu) = H7 at s7 hph7
        have s17 := s16.trans s7
        refine ⟨_, rfl, .ref a1, .ref a2, bl, br, ms, ph, uu, qs, sp, rfl, ⟨rl.same s17, rr.same s17, ok.okl, ok.okr, lt, h0, h1⟩, hph7, rq.same s7, okq, fun H8 s8 => ⟨_, rfl, iteF ?_⟩⟩
        exact ⟨_, rfl, (s6.trans s7).trans s8⟩
      · rintro σ H6 ⟨o6, rfl, s6⟩
        exact ⟨_, _, rfl, (s3.trans s35).trans s6⟩
    · rintro σ H3 ⟨o5, o6, rfl, s3⟩
      exact q _
theorem spLaw_of {H : Hp} (a : Addr) (ns : List Int) (hl : ns.length ≤ 63) (hS : SqL K H a (ns.map V.int)) (hO : Only H) : spLaw K [.ref a] H (fun v _ => v = .bl true) fun _ _ _ => False := by
  refine ⟨a, ns, rfl, ⟨hl, ?_⟩, fun _ => rfl⟩
  rcases hS with (h | h) | h
  · rcases hO a with z | ⟨o, xs, z⟩ <;> rw [h] at z <;> cases z
  · exact .inl h
  · exact .inr h
end
theorem all_mk {l : PySem.W.OpenLaw} {w : World} {K : PySem.W.Frag} {h : Heap} {mg : Str → Option Value} {fa : Addr} (X : K.In h) (G : h.Ns mainGlobals mg) (hfa : mg "law" = some (.ref fa))
    {f0 : Addr} {od0 an0 : Option Addr} {sl0 : Array (Option Value)} {oc0 kV0 dc0 pm0 cd0 ct0 : Value}
    (a0 : PySem.W.nsIn K mainGlobals "layers_of" = some (some (.ref f0))) (l0 : K.lookup f0 = some ⟨oc0, od0, .func (PySem.W.fnOf "layers_of" "layers_of" (defArgs s_layers_of) (defBody s_layers_of) (defScope s_layers_of) .none kV0 dc0 pm0 an0 cd0 ct0), sl0⟩) (c0 : PySem.W.codeIn K cd0 "layers_of" = true) (k0 : PySem.W.keepIn K (.ref f0) = true)
    {f1 : Addr} {od1 an1 : Option Addr} {sl1 : Array (Option Value)} {oc1 kV1 dc1 pm1 cd1 ct1 : Value}
    (a1 : PySem.W.nsIn K mainGlobals "whole" = some (some (.ref f1))) (l1 : K.lookup f1 = some ⟨oc1, od1, .func (PySem.W.fnOf "whole" "whole" (defArgs s_whole) (defBody s_whole) (defScope s_whole) .none kV1 dc1 pm1 an1 cd1 ct1), sl1⟩) (c1 : PySem.W.codeIn K cd1 "whole" = true) (k1 : PySem.W.keepIn K (.ref f1) = true)
    {f2 : Addr} {od2 an2 : Option Addr} {sl2 : Array (Option Value)} {oc2 kV2 dc2 pm2 cd2 ct2 : Value}
    (a2 : PySem.W.nsIn K mainGlobals "ratio" = some (some (.ref f2))) (l2 : K.lookup f2 = some ⟨oc2, od2, .func (PySem.W.fnOf "ratio" "ratio" (defArgs s_ratio) (defBody s_ratio) (defScope s_ratio) .none kV2 dc2 pm2 an2 cd2 ct2), sl2⟩) (c2 : PySem.W.codeIn K cd2 "ratio" = true) (k2 : PySem.W.keepIn K (.ref f2) = true)
    {f3 : Addr} {od3 an3 : Option Addr} {sl3 : Array (Option Value)} {oc3 kV3 dc3 pm3 cd3 ct3 : Value}
    (a3 : PySem.W.nsIn K mainGlobals "greatest_divisor" = some (some (.ref f3))) (l3 : K.lookup f3 = some ⟨oc3, od3, .func (PySem.W.fnOf "greatest_divisor" "greatest_divisor" (defArgs s_greatest_divisor) (defBody s_greatest_divisor) (defScope s_greatest_divisor) .none kV3 dc3 pm3 an3 cd3 ct3), sl3⟩) (c3 : PySem.W.codeIn K cd3 "greatest_divisor" = true) (k3 : PySem.W.keepIn K (.ref f3) = true)
    {f4 : Addr} {od4 an4 : Option Addr} {sl4 : Array (Option Value)} {oc4 kV4 dc4 pm4 cd4 ct4 : Value}
    (a4 : PySem.W.nsIn K mainGlobals "plus" = some (some (.ref f4))) (l4 : K.lookup f4 = some ⟨oc4, od4, .func (PySem.W.fnOf "plus" "plus" (defArgs s_plus) (defBody s_plus) (defScope s_plus) .none kV4 dc4 pm4 an4 cd4 ct4), sl4⟩) (c4 : PySem.W.codeIn K cd4 "plus" = true) (k4 : PySem.W.keepIn K (.ref f4) = true)
    {f5 : Addr} {od5 an5 : Option Addr} {sl5 : Array (Option Value)} {oc5 kV5 dc5 pm5 cd5 ct5 : Value}
    (a5 : PySem.W.nsIn K mainGlobals "minus" = some (some (.ref f5))) (l5 : K.lookup f5 = some ⟨oc5, od5, .func (PySem.W.fnOf "minus" "minus" (defArgs s_minus) (defBody s_minus) (defScope s_minus) .none kV5 dc5 pm5 an5 cd5 ct5), sl5⟩) (c5 : PySem.W.codeIn K cd5 "minus" = true) (k5 : PySem.W.keepIn K (.ref f5) = true)
    {f6 : Addr} {od6 an6 : Option Addr} {sl6 : Array (Option Value)} {oc6 kV6 dc6 pm6 cd6 ct6 : Value}
    (a6 : PySem.W.nsIn K mainGlobals "sheets" = some (some (.ref f6))) (l6 : K.lookup f6 = some ⟨oc6, od6, .func (PySem.W.fnOf "sheets" "sheets" (defArgs s_sheets) (defBody s_sheets) (defScope s_sheets) .none kV6 dc6 pm6 an6 cd6 ct6), sl6⟩) (c6 : PySem.W.codeIn K cd6 "sheets" = true) (k6 : PySem.W.keepIn K (.ref f6) = true)
    {f7 : Addr} {od7 an7 : Option Addr} {sl7 : Array (Option Value)} {oc7 kV7 dc7 pm7 cd7 ct7 : Value}
    (a7 : PySem.W.nsIn K mainGlobals "wedges" = some (some (.ref f7))) (l7 : K.lookup f7 = some ⟨oc7, od7, .func (PySem.W.fnOf "wedges" "wedges" (defArgs s_wedges) (defBody s_wedges) (defScope s_wedges) .none kV7 dc7 pm7 an7 cd7 ct7), sl7⟩) (c7 : PySem.W.codeIn K cd7 "wedges" = true) (k7 : PySem.W.keepIn K (.ref f7) = true)
    {f8 : Addr} {od8 an8 : Option Addr} {sl8 : Array (Option Value)} {oc8 kV8 dc8 pm8 cd8 ct8 : Value}
    (a8 : PySem.W.nsIn K mainGlobals "thick_at" = some (some (.ref f8))) (l8 : K.lookup f8 = some ⟨oc8, od8, .func (PySem.W.fnOf "thick_at" "thick_at" (defArgs s_thick_at) (defBody s_thick_at) (defScope s_thick_at) .none kV8 dc8 pm8 an8 cd8 ct8), sl8⟩) (c8 : PySem.W.codeIn K cd8 "thick_at" = true) (k8 : PySem.W.keepIn K (.ref f8) = true)
    {f9 : Addr} {od9 an9 : Option Addr} {sl9 : Array (Option Value)} {oc9 kV9 dc9 pm9 cd9 ct9 : Value}
    (a9 : PySem.W.nsIn K mainGlobals "thick_of" = some (some (.ref f9))) (l9 : K.lookup f9 = some ⟨oc9, od9, .func (PySem.W.fnOf "thick_of" "thick_of" (defArgs s_thick_of) (defBody s_thick_of) (defScope s_thick_of) .none kV9 dc9 pm9 an9 cd9 ct9), sl9⟩) (c9 : PySem.W.codeIn K cd9 "thick_of" = true) (k9 : PySem.W.keepIn K (.ref f9) = true)
    {f10 : Addr} {od10 an10 : Option Addr} {sl10 : Array (Option Value)} {oc10 kV10 dc10 pm10 cd10 ct10 : Value}
    (a10 : PySem.W.nsIn K mainGlobals "between" = some (some (.ref f10))) (l10 : K.lookup f10 = some ⟨oc10, od10, .func (PySem.W.fnOf "between" "between" (defArgs s_between) (defBody s_between) (defScope s_between) .none kV10 dc10 pm10 an10 cd10 ct10), sl10⟩) (c10 : PySem.W.codeIn K cd10 "between" = true) (k10 : PySem.W.keepIn K (.ref f10) = true)
    {f11 : Addr} {od11 an11 : Option Addr} {sl11 : Array (Option Value)} {oc11 kV11 dc11 pm11 cd11 ct11 : Value}
    (a11 : PySem.W.nsIn K mainGlobals "whole_at" = some (some (.ref f11))) (l11 : K.lookup f11 = some ⟨oc11, od11, .func (PySem.W.fnOf "whole_at" "whole_at" (defArgs s_whole_at) (defBody s_whole_at) (defScope s_whole_at) .none kV11 dc11 pm11 an11 cd11 ct11), sl11⟩) (c11 : PySem.W.codeIn K cd11 "whole_at" = true) (k11 : PySem.W.keepIn K (.ref f11) = true)
    {f12 : Addr} {od12 an12 : Option Addr} {sl12 : Array (Option Value)} {oc12 kV12 dc12 pm12 cd12 ct12 : Value}
    (a12 : PySem.W.nsIn K mainGlobals "ground_at" = some (some (.ref f12))) (l12 : K.lookup f12 = some ⟨oc12, od12, .func (PySem.W.fnOf "ground_at" "ground_at" (defArgs s_ground_at) (defBody s_ground_at) (defScope s_ground_at) .none kV12 dc12 pm12 an12 cd12 ct12), sl12⟩) (c12 : PySem.W.codeIn K cd12 "ground_at" = true) (k12 : PySem.W.keepIn K (.ref f12) = true)
    {f13 : Addr} {od13 an13 : Option Addr} {sl13 : Array (Option Value)} {oc13 kV13 dc13 pm13 cd13 ct13 : Value}
    (a13 : PySem.W.nsIn K mainGlobals "lines_at" = some (some (.ref f13))) (l13 : K.lookup f13 = some ⟨oc13, od13, .func (PySem.W.fnOf "lines_at" "lines_at" (defArgs s_lines_at) (defBody s_lines_at) (defScope s_lines_at) .none kV13 dc13 pm13 an13 cd13 ct13), sl13⟩) (c13 : PySem.W.codeIn K cd13 "lines_at" = true) (k13 : PySem.W.keepIn K (.ref f13) = true)
    {f14 : Addr} {od14 an14 : Option Addr} {sl14 : Array (Option Value)} {oc14 kV14 dc14 pm14 cd14 ct14 : Value}
    (a14 : PySem.W.nsIn K mainGlobals "_law_draw" = some (some (.ref f14))) (l14 : K.lookup f14 = some ⟨oc14, od14, .func (PySem.W.fnOf "_law_draw" "_law_draw" (defArgs s__law_draw) (defBody s__law_draw) (defScope s__law_draw) .none kV14 dc14 pm14 an14 cd14 ct14), sl14⟩) (c14 : PySem.W.codeIn K cd14 "_law_draw" = true) (k14 : PySem.W.keepIn K (.ref f14) = true)
    {f15 : Addr} {od15 an15 : Option Addr} {sl15 : Array (Option Value)} {oc15 kV15 dc15 pm15 cd15 ct15 : Value}
    (a15 : PySem.W.nsIn K mainGlobals "_law_feed" = some (some (.ref f15))) (l15 : K.lookup f15 = some ⟨oc15, od15, .func (PySem.W.fnOf "_law_feed" "_law_feed" (defArgs s__law_feed) (defBody s__law_feed) (defScope s__law_feed) .none kV15 dc15 pm15 an15 cd15 ct15), sl15⟩) (c15 : PySem.W.codeIn K cd15 "_law_feed" = true) (k15 : PySem.W.keepIn K (.ref f15) = true)
    {f16 : Addr} {od16 an16 : Option Addr} {sl16 : Array (Option Value)} {oc16 kV16 dc16 pm16 cd16 ct16 : Value}
    (a16 : PySem.W.nsIn K mainGlobals "_law_next" = some (some (.ref f16))) (l16 : K.lookup f16 = some ⟨oc16, od16, .func (PySem.W.fnOf "_law_next" "_law_next" (defArgs s__law_next) (defBody s__law_next) (defScope s__law_next) .none kV16 dc16 pm16 an16 cd16 ct16), sl16⟩) (c16 : PySem.W.codeIn K cd16 "_law_next" = true) (k16 : PySem.W.keepIn K (.ref f16) = true)
    {f17 : Addr} {od17 an17 : Option Addr} {sl17 : Array (Option Value)} {oc17 kV17 dc17 pm17 cd17 ct17 : Value}
    (a17 : PySem.W.nsIn K mainGlobals "_law_great" = some (some (.ref f17))) (l17 : K.lookup f17 = some ⟨oc17, od17, .func (PySem.W.fnOf "_law_great" "_law_great" (defArgs s__law_great) (defBody s__law_great) (defScope s__law_great) .none kV17 dc17 pm17 an17 cd17 ct17), sl17⟩) (c17 : PySem.W.codeIn K cd17 "_law_great" = true) (k17 : PySem.W.keepIn K (.ref f17) = true)
    {f18 : Addr} {od18 an18 : Option Addr} {sl18 : Array (Option Value)} {oc18 kV18 dc18 pm18 cd18 ct18 : Value}
    (a18 : PySem.W.nsIn K mainGlobals "_law_long" = some (some (.ref f18))) (l18 : K.lookup f18 = some ⟨oc18, od18, .func (PySem.W.fnOf "_law_long" "_law_long" (defArgs s__law_long) (defBody s__law_long) (defScope s__law_long) .none kV18 dc18 pm18 an18 cd18 ct18), sl18⟩) (c18 : PySem.W.codeIn K cd18 "_law_long" = true) (k18 : PySem.W.keepIn K (.ref f18) = true)
    {f19 : Addr} {od19 an19 : Option Addr} {sl19 : Array (Option Value)} {oc19 kV19 dc19 pm19 cd19 ct19 : Value}
    (a19 : PySem.W.nsIn K mainGlobals "_law_name" = some (some (.ref f19))) (l19 : K.lookup f19 = some ⟨oc19, od19, .func (PySem.W.fnOf "_law_name" "_law_name" (defArgs s__law_name) (defBody s__law_name) (defScope s__law_name) .none kV19 dc19 pm19 an19 cd19 ct19), sl19⟩) (c19 : PySem.W.codeIn K cd19 "_law_name" = true) (k19 : PySem.W.keepIn K (.ref f19) = true)
    {f20 : Addr} {od20 an20 : Option Addr} {sl20 : Array (Option Value)} {oc20 kV20 dc20 pm20 cd20 ct20 : Value}
    (a20 : PySem.W.nsIn K mainGlobals "_law_names" = some (some (.ref f20))) (l20 : K.lookup f20 = some ⟨oc20, od20, .func (PySem.W.fnOf "_law_names" "_law_names" (defArgs s__law_names) (defBody s__law_names) (defScope s__law_names) .none kV20 dc20 pm20 an20 cd20 ct20), sl20⟩) (c20 : PySem.W.codeIn K cd20 "_law_names" = true) (k20 : PySem.W.keepIn K (.ref f20) = true)
    {f21 : Addr} {od21 an21 : Option Addr} {sl21 : Array (Option Value)} {oc21 kV21 dc21 pm21 cd21 ct21 : Value}
    (a21 : PySem.W.nsIn K mainGlobals "_law_blocks" = some (some (.ref f21))) (l21 : K.lookup f21 = some ⟨oc21, od21, .func (PySem.W.fnOf "_law_blocks" "_law_blocks" (defArgs s__law_blocks) (defBody s__law_blocks) (defScope s__law_blocks) .none kV21 dc21 pm21 an21 cd21 ct21), sl21⟩) (c21 : PySem.W.codeIn K cd21 "_law_blocks" = true) (k21 : PySem.W.keepIn K (.ref f21) = true)
    {f22 : Addr} {od22 an22 : Option Addr} {sl22 : Array (Option Value)} {oc22 kV22 dc22 pm22 cd22 ct22 : Value}
    (a22 : PySem.W.nsIn K mainGlobals "_law_bores" = some (some (.ref f22))) (l22 : K.lookup f22 = some ⟨oc22, od22, .func (PySem.W.fnOf "_law_bores" "_law_bores" (defArgs s__law_bores) (defBody s__law_bores) (defScope s__law_bores) .none kV22 dc22 pm22 an22 cd22 ct22), sl22⟩) (c22 : PySem.W.codeIn K cd22 "_law_bores" = true) (k22 : PySem.W.keepIn K (.ref f22) = true)
    {f23 : Addr} {od23 an23 : Option Addr} {sl23 : Array (Option Value)} {oc23 kV23 dc23 pm23 cd23 ct23 : Value}
    (a23 : PySem.W.nsIn K mainGlobals "_law_layers" = some (some (.ref f23))) (l23 : K.lookup f23 = some ⟨oc23, od23, .func (PySem.W.fnOf "_law_layers" "_law_layers" (defArgs s__law_layers) (defBody s__law_layers) (defScope s__law_layers) .none kV23 dc23 pm23 an23 cd23 ct23), sl23⟩) (c23 : PySem.W.codeIn K cd23 "_law_layers" = true) (k23 : PySem.W.keepIn K (.ref f23) = true)
    {f24 : Addr} {od24 an24 : Option Addr} {sl24 : Array (Option Value)} {oc24 kV24 dc24 pm24 cd24 ct24 : Value}
    (a24 : PySem.W.nsIn K mainGlobals "_law_two" = some (some (.ref f24))) (l24 : K.lookup f24 = some ⟨oc24, od24, .func (PySem.W.fnOf "_law_two" "_law_two" (defArgs s__law_two) (defBody s__law_two) (defScope s__law_two) .none kV24 dc24 pm24 an24 cd24 ct24), sl24⟩) (c24 : PySem.W.codeIn K cd24 "_law_two" = true) (k24 : PySem.W.keepIn K (.ref f24) = true)
    {f25 : Addr} {od25 an25 : Option Addr} {sl25 : Array (Option Value)} {oc25 kV25 dc25 pm25 cd25 ct25 : Value}
    (a25 : PySem.W.nsIn K mainGlobals "_law_divisor" = some (some (.ref f25))) (l25 : K.lookup f25 = some ⟨oc25, od25, .func (PySem.W.fnOf "_law_divisor" "_law_divisor" (defArgs s__law_divisor) (defBody s__law_divisor) (defScope s__law_divisor) .none kV25 dc25 pm25 an25 cd25 ct25), sl25⟩) (c25 : PySem.W.codeIn K cd25 "_law_divisor" = true) (k25 : PySem.W.keepIn K (.ref f25) = true)
    {f26 : Addr} {od26 an26 : Option Addr} {sl26 : Array (Option Value)} {oc26 kV26 dc26 pm26 cd26 ct26 : Value}
    (a26 : PySem.W.nsIn K mainGlobals "_law_is" = some (some (.ref f26))) (l26 : K.lookup f26 = some ⟨oc26, od26, .func (PySem.W.fnOf "_law_is" "_law_is" (defArgs s__law_is) (defBody s__law_is) (defScope s__law_is) .none kV26 dc26 pm26 an26 cd26 ct26), sl26⟩) (c26 : PySem.W.codeIn K cd26 "_law_is" = true) (k26 : PySem.W.keepIn K (.ref f26) = true)
    {f27 : Addr} {od27 an27 : Option Addr} {sl27 : Array (Option Value)} {oc27 kV27 dc27 pm27 cd27 ct27 : Value}
    (a27 : PySem.W.nsIn K mainGlobals "_law_in" = some (some (.ref f27))) (l27 : K.lookup f27 = some ⟨oc27, od27, .func (PySem.W.fnOf "_law_in" "_law_in" (defArgs s__law_in) (defBody s__law_in) (defScope s__law_in) .none kV27 dc27 pm27 an27 cd27 ct27), sl27⟩) (c27 : PySem.W.codeIn K cd27 "_law_in" = true) (k27 : PySem.W.keepIn K (.ref f27) = true)
    {f28 : Addr} {od28 an28 : Option Addr} {sl28 : Array (Option Value)} {oc28 kV28 dc28 pm28 cd28 ct28 : Value}
    (a28 : PySem.W.nsIn K mainGlobals "_law_adds" = some (some (.ref f28))) (l28 : K.lookup f28 = some ⟨oc28, od28, .func (PySem.W.fnOf "_law_adds" "_law_adds" (defArgs s__law_adds) (defBody s__law_adds) (defScope s__law_adds) .none kV28 dc28 pm28 an28 cd28 ct28), sl28⟩) (c28 : PySem.W.codeIn K cd28 "_law_adds" = true) (k28 : PySem.W.keepIn K (.ref f28) = true)
    {f29 : Addr} {od29 an29 : Option Addr} {sl29 : Array (Option Value)} {oc29 kV29 dc29 pm29 cd29 ct29 : Value}
    (a29 : PySem.W.nsIn K mainGlobals "law" = some (some (.ref f29))) (l29 : K.lookup f29 = some ⟨oc29, od29, .func (PySem.W.fnOf "law" "law" (defArgs s_law) (defBody s_law) (defScope s_law) .none kV29 dc29 pm29 an29 cd29 ct29), sl29⟩) (c29 : PySem.W.codeIn K cd29 "law" = true) (k29 : PySem.W.keepIn K (.ref f29) = true)
    (z0 : PySem.W.nsIn K mainGlobals "sum" = some none)
    (z1 : PySem.W.nsIn K mainGlobals "range" = some none)
    (z2 : PySem.W.nsIn K mainGlobals "tuple" = some none)
    (z3 : PySem.W.nsIn K mainGlobals "abs" = some none)
    (z4 : PySem.W.nsIn K mainGlobals "len" = some none)
    (z5 : PySem.W.nsIn K mainGlobals "int" = some none)
    (z6 : PySem.W.nsIn K mainGlobals "list" = some none)
    (z7 : PySem.W.nsIn K mainGlobals "isinstance" = some none)
    (z8 : PySem.W.nsIn K mainGlobals "bool" = some none)
    (z9 : PySem.W.nsIn K mainGlobals "min" = some none)
    : ∃ fd : FuncData, (∀ (s : Shared) (v : Value), BindsTo s fd ⟨[v], []⟩ [("_law_script", v)]) ∧ ∀ base : Heap, K.In base → base.Ns mainGlobals mg → FnOk l.prog w K mg base CX0 8 fa fd ["_law_script"] (spLaw K) := by
  have e := (PySem.W.mg_of X G a29).symm.trans hfa
  injection e with e
  injection e with e
  subst e
  have F0 := fun_mk (st := s_layers_of) l0 c0 k0
  have F1 := fun_mk (st := s_whole) l1 c1 k1
  have F2 := fun_mk (st := s_ratio) l2 c2 k2
  have F3 := fun_mk (st := s_greatest_divisor) l3 c3 k3
  have F4 := fun_mk (st := s_plus) l4 c4 k4
  have F5 := fun_mk (st := s_minus) l5 c5 k5
  have F6 := fun_mk (st := s_sheets) l6 c6 k6
  have F7 := fun_mk (st := s_wedges) l7 c7 k7
  have F8 := fun_mk (st := s_thick_at) l8 c8 k8
  have F9 := fun_mk (st := s_thick_of) l9 c9 k9
  have F10 := fun_mk (st := s_between) l10 c10 k10
  have F11 := fun_mk (st := s_whole_at) l11 c11 k11
  have F12 := fun_mk (st := s_ground_at) l12 c12 k12
  have F13 := fun_mk (st := s_lines_at) l13 c13 k13
  have F14 := fun_mk (st := s__law_draw) l14 c14 k14
  have F15 := fun_mk (st := s__law_feed) l15 c15 k15
  have F16 := fun_mk (st := s__law_next) l16 c16 k16
  have F17 := fun_mk (st := s__law_great) l17 c17 k17
  have F18 := fun_mk (st := s__law_long) l18 c18 k18
  have F19 := fun_mk (st := s__law_name) l19 c19 k19
  have F20 := fun_mk (st := s__law_names) l20 c20 k20
  have F21 := fun_mk (st := s__law_blocks) l21 c21 k21
  have F22 := fun_mk (st := s__law_bores) l22 c22 k22
  have F23 := fun_mk (st := s__law_layers) l23 c23 k23
  have F24 := fun_mk (st := s__law_two) l24 c24 k24
  have F25 := fun_mk (st := s__law_divisor) l25 c25 k25
  have F26 := fun_mk (st := s__law_is) l26 c26 k26
  have F27 := fun_mk (st := s__law_in) l27 c27 k27
  have F28 := fun_mk (st := s__law_adds) l28 c28 k28
  have F29 := fun_mk (st := s_law) l29 c29 k29
  have b0 : Binds K _ ["bore"] [] := F0.binds1 fun _ _ _ _ _ _ _ => rfl
  have b1 : Binds K _ ["bore"] [] := F1.binds1 fun _ _ _ _ _ _ _ => rfl
  have b2 : Binds K _ ["top", "bottom"] [] := F2.binds2 fun _ _ _ _ _ _ _ _ => rfl
  have b3 : Binds K _ ["one", "other"] [] := F3.binds2 fun _ _ _ _ _ _ _ _ => rfl
  have b4 : Binds K _ ["one", "other"] [] := F4.binds2 fun _ _ _ _ _ _ _ _ => rfl
  have b5 : Binds K _ ["one", "other"] [] := F5.binds2 fun _ _ _ _ _ _ _ _ => rfl
  have b6 : Binds K _ ["left", "right", "pairs"] [] := F6.binds3 fun _ _ _ _ _ _ _ _ _ => rfl
  have b7 : Binds K _ ["begin", "end"] [] := F7.binds2 fun _ _ _ _ _ _ _ _ => rfl
  have b8 : Binds K _ ["left", "right", "pairs", "place"] [] := F8.binds4 fun _ _ _ _ _ _ _ _ _ _ => rfl
  have b9 : Binds K _ ["layers", "number"] [] := F9.binds2 fun _ _ _ _ _ _ _ _ => rfl
  have b10 : Binds K _ ["left", "right", "value", "other", "place"] [] := F10.binds5 fun _ _ _ _ _ _ _ _ _ _ _ => rfl
  have b11 : Binds K _ ["left", "right", "place"] [] := F11.binds3 fun _ _ _ _ _ _ _ _ _ => rfl
  have b12 : Binds K _ ["left", "right", "place"] [] := F12.binds3 fun _ _ _ _ _ _ _ _ _ => rfl
  have b13 : Binds K _ ["left", "right", "pairs", "place"] [] := F13.binds4 fun _ _ _ _ _ _ _ _ _ _ => rfl
  have b14 : Binds K _ ["_law_script", "_law_k", "_law_many"] [] := F14.binds3 fun _ _ _ _ _ _ _ _ _ => rfl
  have b15 : Binds K _ ["_law_script", "_law_k"] [] := F15.binds2 fun _ _ _ _ _ _ _ _ => rfl
  have b16 : Binds K _ ["_law_feed_here", "_law_many"] [] := F16.binds2 fun _ _ _ _ _ _ _ _ => rfl
  have b17 : Binds K _ ["_law_feed_here"] [] := F17.binds1 fun _ _ _ _ _ _ _ => rfl
  have b18 : Binds K _ ["_law_feed_here"] [] := F18.binds1 fun _ _ _ _ _ _ _ => rfl
  have b19 : Binds K _ ["_law_feed_here", "_law_names_here"] [] := F19.binds2 fun _ _ _ _ _ _ _ _ => rfl
  have b20 : Binds K _ ["_law_feed_here", "_law_many"] [] := F20.binds2 fun _ _ _ _ _ _ _ _ => rfl
  have b21 : Binds K _ ["_law_feed_here", "_law_marks"] [] := F21.binds2 fun _ _ _ _ _ _ _ _ => rfl
  have b22 : Binds K _ ["_law_script", "_law_names_here", "_law_marks"] [] := F22.binds3 fun _ _ _ _ _ _ _ _ _ => rfl
  have b23 : Binds K _ ["_law_bore"] [] := F23.binds1 fun _ _ _ _ _ _ _ => rfl
  have b24 : Binds K _ ["_law_script"] [] := F24.binds1 fun _ _ _ _ _ _ _ => rfl
  have b25 : Binds K _ ["_law_one", "_law_other"] [] := F25.binds2 fun _ _ _ _ _ _ _ _ => rfl
  have b26 : Binds K _ ["_law_found", "_law_top", "_law_bottom"] [] := F26.binds3 fun _ _ _ _ _ _ _ _ _ => rfl
  have b27 : Binds K _ ["_law_some", "_law_wide"] [] := F27.binds2 fun _ _ _ _ _ _ _ _ => rfl
  have b28 : Binds K _ ["_law_left", "_law_right", "_law_pairs", "_law_place"] [] := F28.binds4 fun _ _ _ _ _ _ _ _ _ _ => rfl
  have b29 : Binds K _ ["_law_script"] [] := F29.binds1 fun _ _ _ _ _ _ _ => rfl
  have T : Txt K mg ⟨f0, _, f1, _, f2, _, f3, _, f4, _, f5, _, f6, _, f7, _, f8, _, f9, _, f10, _, f11, _, f12, _, f13, _, f14, _, f15, _, f16, _, f17, _, f18, _, f19, _, f20, _, f21, _, f22, _, f23, _, f24, _, f25, _, f26, _, f27, _, f28, _, f29, _⟩ := ⟨F0, b0, PySem.W.mg_of X G a0, F1, b1, PySem.W.mg_of X G a1, F2, b2, PySem.W.mg_of X G a2, F3, b3, PySem.W.mg_of X G a3, F4, b4, PySem.W.mg_of X G a4, F5, b5, PySem.W.mg_of X G a5, F6, b6, PySem.W.mg_of X G a6, F7, b7, PySem.W.mg_of X G a7, F8, b8, PySem.W.mg_of X G a8, F9, b9, PySem.W.mg_of X G a9, F10, b10, PySem.W.mg_of X G a10, F11, b11, PySem.W.mg_of X G a11, F12, b12, PySem.W.mg_of X G a12, F13, b13, PySem.W.mg_of X G a13, F14, b14, PySem.W.mg_of X G a14, F15, b15, PySem.W.mg_of X G a15, F16, b16, PySem.W.mg_of X G a16, F17, b17, PySem.W.mg_of X G a17, F18, b18, PySem.W.mg_of X G a18, F19, b19, PySem.W.mg_of X G a19, F20, b20, PySem.W.mg_of X G a20, F21, b21, PySem.W.mg_of X G a21, F22, b22, PySem.W.mg_of X G a22, F23, b23, PySem.W.mg_of X G a23, F24, b24, PySem.W.mg_of X G a24, F25, b25, PySem.W.mg_of X G a25, F26, b26, PySem.W.mg_of X G a26, F27, b27, PySem.W.mg_of X G a27, F28, b28, PySem.W.mg_of X G a28, F29, b29, PySem.W.mg_of X G a29, PySem.W.mg_none_of X G z0, PySem.W.mg_none_of X G z1, PySem.W.mg_none_of X G z2, PySem.W.mg_none_of X G z3, PySem.W.mg_none_of X G z4, PySem.W.mg_none_of X G z5, PySem.W.mg_none_of X G z6, PySem.W.mg_none_of X G z7, PySem.W.mg_none_of X G z8, PySem.W.mg_none_of X G z9⟩
  exact ⟨_, fun s v => .of_eq rfl, fun base _ _ => ok_law T⟩
theorem walk {l : PySem.W.OpenLaw} {q : Program} {loose : List Str} {XP : (Str → Option Value) → Heap → Prop} {YP : World → Heap → Prop} {d : DefRec} {K : Params → PySem.W.Frag} (hn : l.most = some 63) (hdf : d.params.defaults = [])
    (hY : ∀ (w : World) (h : Heap), YP w h → (K w.params).In h)
    (F : ∀ (w : World) (mg : Str → Option Value) (fa : Addr) (h : Heap), (K w.params).In h → h.Ns mainGlobals mg → mg d.name = some (.ref fa) →
      ∃ fd : FuncData, (∀ (s : Shared) (u : Value), BindsTo s fd ⟨[u], []⟩ [("_law_script", u)]) ∧ ∀ base : Heap, (K w.params).In base → base.Ns mainGlobals mg → FnOk l.prog w (K w.params) mg base CX0 8 fa fd ["_law_script"] (spLaw (K w.params))) :
    PySem.W.WalkO q loose XP YP l.row.toRowW d [] (fun f vs => PySem.call f vs) :=
  L2.walk_of (n := 63) (k := 8) (x := "_law_script") (CX := fun _ => CX0) (sp := fun w => spLaw (K w.params)) hn (by decide) hdf ⟨rfl, by decide, by decide⟩ hY F (fun _ _ a ns hl hO hS => spLaw_of a ns hl hS hO) fun _ _ _ _ _ z => z
end Bo
theorem PySem.W.Fast.te6935420495846178832 : True := trivial
noncomputable def PySem.W.Fast.tw902638208602515992 : PySem.Program := PySem.Challenge.pw_bores_k11_whole_sheets_add_up
theorem PySem.W.Fast.te902638208602515992 : PySem.Challenge.pw_bores_k11_whole_sheets_add_up = PySem.W.Fast.tw902638208602515992 := rfl
open PySem PySem.W PyProof.Rows
set_option maxRecDepth 100000 in
set_option maxHeartbeats 0 in
theorem PySem.Challenge.cw_bores_k11_whole_sheets_add_up_holds : PySem.Challenge.rw_bores_k11_whole_sheets_add_up.Holds := by
  w_on; o_law; k_head; (case hw => w_witness2)
  k_fill
  refine Bo.walk (l := PySem.Challenge.rw_bores_k11_whole_sheets_add_up) rfl rfl (fun w h Y => PySem.W.kIn_of Y) ?F
  case F =>
    intro w mg fa h KX G hmg
    refine' Bo.all_mk KX G hmg ?a0 ?l0 ?c0 ?k0 ?a1 ?l1 ?c1 ?k1 ?a2 ?l2 ?c2 ?k2 ?a3 ?l3 ?c3 ?k3 ?a4 ?l4 ?c4 ?k4 ?a5 ?l5 ?c5 ?k5 ?a6 ?l6 ?c6 ?k6 ?a7 ?l7 ?c7 ?k7 ?a8 ?l8 ?c8 ?k8 ?a9 ?l9 ?c9 ?k9 ?a10 ?l10 ?c10 ?k10 ?a11 ?l11 ?c11 ?k11 ?a12 ?l12 ?c12 ?k12 ?a13 ?l13 ?c13 ?k13 ?a14 ?l14 ?c14 ?k14 ?a15 ?l15 ?c15 ?k15 ?a16 ?l16 ?c16 ?k16 ?a17 ?l17 ?c17 ?k17 ?a18 ?l18 ?c18 ?k18 ?a19 ?l19 ?c19 ?k19 ?a20 ?l20 ?c20 ?k20 ?a21 ?l21 ?c21 ?k21 ?a22 ?l22 ?c22 ?k22 ?a23 ?l23 ?c23 ?k23 ?a24 ?l24 ?c24 ?k24 ?a25 ?l25 ?c25 ?k25 ?a26 ?l26 ?c26 ?k26 ?a27 ?l27 ?c27 ?k27 ?a28 ?l28 ?c28 ?k28 ?a29 ?l29 ?c29 ?k29 ?z0 ?z1 ?z2 ?z3 ?z4 ?z5 ?z6 ?z7 ?z8 ?z9
    (case a0 => k_is); (case l0 => k_is); (case c0 => k_is); (case k0 => k_is); (case a1 => k_is); (case l1 => k_is); (case c1 => k_is); (case k1 => k_is)
    (case a2 => k_is); (case l2 => k_is); (case c2 => k_is); (case k2 => k_is); (case a3 => k_is); (case l3 => k_is); (case c3 => k_is); (case k3 => k_is)
    (case a4 => k_is); (case l4 => k_is); (case c4 => k_is); (case k4 => k_is); (case a5 => k_is); (case l5 => k_is); (case c5 => k_is); (case k5 => k_is)
    (case a6 => k_is); (case l6 => k_is); (case c6 => k_is); (case k6 => k_is); (case a7 => k_is); (case l7 => k_is); (case c7 => k_is); (case k7 => k_is)
    (case a8 => k_is); (case l8 => k_is); (case c8 => k_is); (case k8 => k_is); (case a9 => k_is); (case l9 => k_is); (case c9 => k_is); (case k9 => k_is)
    (case a10 => k_is); (case l10 => k_is); (case c10 => k_is); (case k10 => k_is); (case a11 => k_is); (case l11 => k_is); (case c11 => k_is); (case k11 => k_is)
    (case a12 => k_is); (case l12 => k_is); (case c12 => k_is); (case k12 => k_is); (case a13 => k_is); (case l13 => k_is); (case c13 => k_is); (case k13 => k_is)
    (case a14 => k_is); (case l14 => k_is); (case c14 => k_is); (case k14 => k_is); (case a15 => k_is); (case l15 => k_is); (case c15 => k_is); (case k15 => k_is)
    (case a16 => k_is); (case l16 => k_is); (case c16 => k_is); (case k16 => k_is); (case a17 => k_is); (case l17 => k_is); (case c17 => k_is); (case k17 => k_is)
    (case a18 => k_is); (case l18 => k_is); (case c18 => k_is); (case k18 => k_is); (case a19 => k_is); (case l19 => k_is); (case c19 => k_is); (case k19 => k_is)
    (case a20 => k_is); (case l20 => k_is); (case c20 => k_is); (case k20 => k_is); (case a21 => k_is); (case l21 => k_is); (case c21 => k_is); (case k21 => k_is)
    (case a22 => k_is); (case l22 => k_is); (case c22 => k_is); (case k22 => k_is); (case a23 => k_is); (case l23 => k_is); (case c23 => k_is); (case k23 => k_is)
    (case a24 => k_is); (case l24 => k_is); (case c24 => k_is); (case k24 => k_is); (case a25 => k_is); (case l25 => k_is); (case c25 => k_is); (case k25 => k_is)
    (case a26 => k_is); (case l26 => k_is); (case c26 => k_is); (case k26 => k_is); (case a27 => k_is); (case l27 => k_is); (case c27 => k_is); (case k27 => k_is)
    (case a28 => k_is); (case l28 => k_is); (case c28 => k_is); (case k28 => k_is); (case a29 => k_is); (case l29 => k_is); (case c29 => k_is); (case k29 => k_is)
    (case z0 => k_is); (case z1 => k_is); (case z2 => k_is); (case z3 => k_is); (case z4 => k_is); (case z5 => k_is); (case z6 => k_is); (case z7 => k_is)
    (case z8 => k_is); (case z9 => k_is)
