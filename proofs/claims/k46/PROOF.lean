import PyProof.Rows.All
import Wide.All
import OpenK.AllK
import Wide.FinOn
import Lean
import PyProof.EqAt
import PyProof.EqKinds
import PyProof.TupleCall
import KE.KRevIter
import PyProof.Rows.Range3
import PyProof.EnumMake
import PyProof.WalksEnum
import PyProof.ZipIter
import PyProof.MaxThree
import PyProof.ListRange
import KE.KSortTup
import KE.KUnpack
import PySem.Challenge.RW_bores_k46_steps_of_records
set_option Elab.async false
set_option linter.all false
set_option maxRecDepth 100000
namespace L2
open PySem PySem.Spec PyProof.Rows
abbrev Key := Sum Int Str
def keyIs : Key → Value → Bool
  | .inl k, v => Value.isInt k v
  | .inr x, v => Value.isStrOf x v
def keyH (w : World) : Key → Int
  | .inl k => hashInt k
  | .inr x => hashStr w x
theorem keyIs_shape : ∀ {k : Key} {v : Value}, keyIs k v = true → (∃ i t, k = Sum.inl i ∧ v = Value.int i t) ∨ (∃ x t, k = Sum.inr x ∧ v = Value.str x t)
  | .inl i, v, h => by
    obtain ⟨t, e⟩ := Value.isInt_shape (k := i) (v := v) h
    exact .inl ⟨i, t, rfl, e⟩
  | .inr x, v, h => by
    obtain ⟨t, e⟩ := Value.isStrOf_shape (x := x) (v := v) h
    exact .inr ⟨x, t, rfl, e⟩
theorem key_ll (a b : Int) : decide ((Sum.inl a : Key) = Sum.inl b) = (a == b) := by
  by_cases e : a = b
  · subst e; simp
  · have h : ¬ (Sum.inl a : Key) = Sum.inl b := fun q => e (Sum.inl.inj q)
    rw [decide_eq_false h]
    exact (beq_eq_false_iff_ne.mpr e).symm
theorem key_rr (a b : Str) : decide ((Sum.inr a : Key) = Sum.inr b) = decide (a = b) := by
  by_cases e : a = b
  · subst e; simp
  · have h : ¬ (Sum.inr a : Key) = Sum.inr b := fun q => e (Sum.inr.inj q)
    rw [decide_eq_false h, decide_eq_false e]
theorem key_lr (a : Int) (b : Str) : decide ((Sum.inl a : Key) = Sum.inr b) = false := decide_eq_false (fun q => nomatch q)
theorem key_rl (a : Str) (b : Int) : decide ((Sum.inr a : Key) = Sum.inl b) = false := decide_eq_false (fun q => nomatch q)
def mixKind (prog : Program) (w : World) : PySem.KeyKind prog w Key where
  is := keyIs
  hash := keyH w
  inj := fun v a b ha hb => by
    rcases keyIs_shape ha with ⟨i, t, rfl, rfl⟩ | ⟨x, t, rfl, rfl⟩
    · rcases keyIs_shape hb with ⟨j, u, rfl, e⟩ | ⟨y, u, rfl, e⟩
      · injection e with e1 _; rw [e1]
      · exact nomatch e
    · rcases keyIs_shape hb with ⟨j, u, rfl, e⟩ | ⟨y, u, rfl, e⟩
      · exact nomatch e
      · injection e with e1 _; rw [e1]
  byValue := fun k v h => by
    rcases keyIs_shape h with ⟨i, t, rfl, rfl⟩ | ⟨x, t, rfl, rfl⟩ <;> rfl
  pyHash := fun hv h => by
    rcases keyIs_shape hv with ⟨i, t, rfl, rfl⟩ | ⟨x, t, rfl, rfl⟩
    · exact wpAny_pyHash_int h
    · exact wpAny_pyHash_str h
  eqBool := fun hu hv h => by
    rcases keyIs_shape hu with ⟨i, t, rfl, rfl⟩ | ⟨x, t, rfl, rfl⟩
    · rcases keyIs_shape hv with ⟨j, u, rfl, rfl⟩ | ⟨y, u, rfl, rfl⟩
      · rw [key_ll] at h; exact wpAny_eqBool_int h
      · rw [key_lr] at h; exact SeqAt.EqAt.int_str i t y u _ _ _ _ h
    · rcases keyIs_shape hv with ⟨j, u, rfl, rfl⟩ | ⟨y, u, rfl, rfl⟩
      · rw [key_rl] at h; exact SeqAt.EqAt.str_int x t j u _ _ _ _ h
      · rw [key_rr] at h; exact wpAny_eqBool_str h
  «strs» := fun k x t v h => by
    rcases keyIs_shape h with ⟨i, u, rfl, e⟩ | ⟨y, u, rfl, e⟩
    · exact nomatch e
    · injection e with e1 _
      subst e1
      cases v <;> rfl
end L2
namespace L2
open PySem PySem.Spec PyProof.Rows
inductive V where
  | non | bl (b : Bool) | int (i : Int) | str (x : Str) | byt (b : Array UInt8) | flt (b : UInt64) | ref (a : Addr) | ty (n : String)
  deriving DecidableEq
def RelV : V → Value → Prop
  | .non, u => u = Value.none
  | .bl b, u => u = Value.bool b
  | .int i, u => ∃ t, u = Value.int i t
  | .str x, u => ∃ t, u = Value.str x t
  | .byt b, u => ∃ t, u = Value.bytes b t
  | .flt b, u => ∃ t, u = Value.float b t
  | .ref a, u => u = Value.ref a
  | .ty n, u => u = Value.type n
abbrev Vals : List V → List Value → Prop := Paired RelV
theorem Vals.length {xs : List V} {us : List Value} (r : Vals xs us) : xs.length = us.length := Paired.length r
theorem Vals.get : ∀ {xs : List V} {us : List Value} {i : Nat} {x : V}, Vals xs us → xs[i]? = some x → ∃ u, us[i]? = some u ∧ RelV x u
  | _, _, _, _, .nil, e => by simp at e
  | _, _, 0, _, .cons r _, e => by simp at e; subst e; exact ⟨_, rfl, r⟩
  | _, _, i + 1, x, .cons _ t, e => by
    obtain ⟨u, h1, h2⟩ := Vals.get (i := i) (x := x) t (by simpa using e)
    exact ⟨u, by simpa using h1, h2⟩
theorem Vals.set {x : V} {u : Value} (r : RelV x u) : ∀ {xs : List V} {us : List Value} (i : Nat), Vals xs us → Vals (xs.set i x) (us.set i u)
  | _, _, _, .nil => .nil
  | _, _, 0, .cons _ t => .cons r t
  | _, _, i + 1, .cons q t => .cons q (Vals.set r i t)
theorem Vals.append : ∀ {xs ys : List V} {us ws : List Value}, Vals xs us → Vals ys ws → Vals (xs ++ ys) (us ++ ws)
  | _, _, _, _, .nil, s => s
  | _, _, _, _, .cons r t, s => .cons r (Vals.append t s)
theorem Vals.take : ∀ {xs : List V} {us : List Value} (n : Nat), Vals xs us → Vals (xs.take n) (us.take n)
  | _, _, 0, _ => .nil
  | _, _, _ + 1, .nil => .nil
  | _, _, n + 1, .cons r t => .cons r (Vals.take n t)
theorem Vals.drop : ∀ {xs : List V} {us : List Value} (n : Nat), Vals xs us → Vals (xs.drop n) (us.drop n)
  | _, _, 0, r => r
  | _, _, _ + 1, .nil => .nil
  | _, _, n + 1, .cons _ t => Vals.drop n t
theorem Vals.none_of : ∀ {xs : List V} {us : List Value} {i : Nat}, Vals xs us → xs[i]? = none → us[i]? = none := fun {xs us i} r e => by
  have h1 := r.length
  have h2 : xs.length ≤ i := List.getElem?_eq_none_iff.mp e
  exact List.getElem?_eq_none_iff.mpr (by omega)
def RelO : Option V → Option Value → Prop
  | some v, some u => RelV v u
  | none, none => True
  | _, _ => False
def KV {κ : Type} : List (κ × V) → List (κ × Value) → Prop := Paired fun (p : κ × V) (q : κ × Value) => p.1 = q.1 ∧ RelV p.2 q.2
def kV : Key → V
  | .inl i => .int i
  | .inr x => .str x
inductive HO where
    | lst (xs : List V)
    | tup (xs : List V)
    | dK (kvs : List (Key × V)) | dT (kvs : List (List Key × V))
    | set (S : Int → Bool) (n : Nat)
    | ins (C dx : Addr) (fs : List (Str × V))
    | own (x : Addr)
    | xd (fs : List (Str × V))
    | met (f x : Addr)
    | rng (lo hi : Int)
    | frz (o : Obj) (u : HO)
    | tbl (ps : Array Value)
    | ext (φ : Heap → Prop)
abbrev Hp := Addr → Option HO
def upd (H : Hp) (a : Addr) (o : HO) : Hp := fun b => if b = a then some o else H b
theorem upd_same {H : Hp} {a : Addr} {o : HO} : upd H a o a = some o := by unfold upd; rw [if_pos rfl]
theorem upd_ne {H : Hp} {a b : Addr} {o : HO} (h : b ≠ a) : upd H a o b = H b := by unfold upd; rw [if_neg h]
theorem ne_of {H : Hp} {a b : Addr} {o u : HO} (h : H a = some o) (h' : H b = some u) (d : o ≠ u) : a ≠ b := by
  intro e; subst e; rw [h] at h'; exact d (Option.some.inj h')
theorem ne_of_none {H : Hp} {a b : Addr} {o : HO} (h : H a = some o) (h' : H b = none) : a ≠ b := by
  intro e; subst e; rw [h] at h'; cases h'
section
variable (P : Program) (w : World)
def ObjOk (H : Hp) (h : Heap) (a : Addr) : HO → Prop
  | .lst xs => xs.length ≤ sizeLine ∧ ∃ (its : List Value) (n : Nat), Vals xs its ∧ h.get? a = some { cls := .type "list", data := .seq its.toArray n }
  | .tup xs => xs.length ≤ sizeLine ∧ ∃ its : List Value, Vals xs its ∧ IsTup h a its.toArray
  | .dK kvs => kvs.length ≤ sizeLine ∧ (a == sysModules) = false ∧ ∃ vs, KV kvs vs ∧ h.DictOf (mixKind P w) a vs
  | .dT kvs => kvs.length ≤ sizeLine ∧ (a == sysModules) = false ∧ ∃ xs : List (List Key × Addr × Value),
      Paired (fun (p : List Key × V) (q : List Key × Addr × Value) => p.1 = q.1 ∧ H q.2.1 = some (.tup (p.1.map kV)) ∧ RelV p.2 q.2.2) kvs xs ∧
      ∃ o es ep, h.get? a = some o ∧ o.ExactDict ∧ o.data = .dict es ep ∧ es.toList = xs.map (entryOfKey (tupleKind (mixKind P w))) ∧ (xs.map (·.1)).Nodup
  | .set S n => h.SetOf (intKind P w) a S n
  | .ins C dx fs => H dx = some (.own a) ∧ fs.length ≤ 1000 ∧ dx ≠ a ∧ h.get? a = some (PySem.W.instObj C dx) ∧
      ∃ mA, h.Ns1 dx mA ∧ (∀ f, RelO (fs.lookup f) (mA f)) ∧ PySem.Within mA (fs.map (·.1))
  | .own _ => ∃ o, h.get? a = some o
  | .xd fs => ∃ mA, h.Ns1 a mA ∧ ∀ f, RelO (fs.lookup f) (mA f)
  | .rng lo hi => ∃ t u v, h.get? a = some { cls := .type "range", data := .fields #[.int lo t, .int hi u, .int 1 v] }
  | .frz o u => h.get? a = some o ∧ ObjOk H h a u
  | .tbl ps => h.get? a = some { cls := .none, data := .fields ps }
  | .met f x => h.get? a = some (PySem.W.methodObj (.ref f) (.ref x))
  | .ext φ => φ h ∧ (∃ o, h.get? a = some o) ∧ ∀ h1 h2 : Heap, φ h1 → (∀ o, h1.get? a = some o → h2.get? a = some o) → φ h2
def HOk (H : Hp) (h : Heap) : Prop := ∀ a o, H a = some o → ObjOk P w H h a o
end
section
variable {P : Program} {w : World} {H H' : Hp} {h h' : Heap} {a : Addr} {o : HO}
theorem ObjOk.lt (x : ObjOk P w H h a o) : a < h.objs.size := by
  cases o with
  | lst xs => obtain ⟨_, _, _, _, e⟩ := x; exact Heap.lt_size e
  | tup xs => obtain ⟨_, _, _, p⟩ := x; exact p.lt
  | dK kvs => obtain ⟨_, _, _, _, o, _, _, e, _⟩ := x; exact Heap.lt_size e
  | dT kvs => obtain ⟨_, _, _, _, o, _, _, e, _⟩ := x; exact Heap.lt_size e
  | set S n => obtain ⟨o, _, _, _, e, _⟩ := x; exact Heap.lt_size e
  | ins C dx fs => obtain ⟨_, _, _, e, _⟩ := x; exact Heap.lt_size e
  | own y => obtain ⟨_, e⟩ := x; exact Heap.lt_size e
  | xd fs => obtain ⟨_, ⟨_, _, _, e, _⟩, _⟩ := x; exact Heap.lt_size e
  | rng lo hi => obtain ⟨_, _, _, e⟩ := x; exact Heap.lt_size e
  | frz ob u => obtain ⟨e, _⟩ := x; exact Heap.lt_size e
  | tbl ps => exact Heap.lt_size (show h.get? a = some _ from x)
  | met f y => exact Heap.lt_size (show h.get? a = some _ from x)
  | ext φ => obtain ⟨_, ⟨_, e⟩, _⟩ := x; exact Heap.lt_size e
theorem Paired.mapP {α β : Type} {F G : α → β → Prop} : ∀ {l₁ : List α} {l₂ : List β}, Paired F l₁ l₂ → (∀ a b, F a b → G a b) → Paired G l₁ l₂
  | _, _, .nil, _ => .nil
  | _, _, .cons r t, f => .cons (f _ _ r) (Paired.mapP t f)
theorem ObjOk.stay (x : ObjOk P w H h a o) (k : ∀ b u, (b = a ∨ H b = some (.own a)) → h.get? b = some u → h'.get? b = some u)
    (ho : ∀ b, H b = some (.own a) → H' b = some (.own a)) (ht : ∀ b xs, H b = some (.tup xs) → H' b = some (.tup xs)) : ObjOk P w H' h' a o := by
  induction o with
  | lst xs => obtain ⟨z, its, n, r, e⟩ := x; exact ⟨z, its, n, r, k _ _ (.inl rfl) e⟩
  | tup xs => obtain ⟨z, its, r, ob, e, c⟩ := x; exact ⟨z, its, r, ob, k _ _ (.inl rfl) e, c⟩
  | dK kvs => obtain ⟨z, y, vs, r, ob, es, ep, e, c⟩ := x; exact ⟨z, y, vs, r, ob, es, ep, k _ _ (.inl rfl) e, c⟩
  | dT kvs =>
    obtain ⟨z, y, xs, r, ob, es, ep, e, c⟩ := x
    exact ⟨z, y, xs, Paired.mapP r fun p q z => ⟨z.1, ht _ _ z.2.1, z.2.2⟩, ob, es, ep, k _ _ (.inl rfl) e, c⟩
  | set S n => obtain ⟨ob, es, ep, t, e, c⟩ := x; exact ⟨ob, es, ep, t, k _ _ (.inl rfl) e, c⟩
  | ins C dx fs =>
    obtain ⟨d, z, ne, e, mA, ⟨od, es, ep, e2, c⟩, r⟩ := x
    exact ⟨ho _ d, z, ne, k _ _ (.inl rfl) e, mA, ⟨od, es, ep, k _ _ (.inr d) e2, c⟩, r⟩
  | own y => obtain ⟨ob, e⟩ := x; exact ⟨ob, k _ _ (.inl rfl) e⟩
  | xd fs => obtain ⟨mA, ⟨od, es, ep, e, c⟩, r⟩ := x; exact ⟨mA, ⟨od, es, ep, k _ _ (.inl rfl) e, c⟩, r⟩
  | rng lo hi => obtain ⟨t, u, v, e⟩ := x; exact ⟨t, u, v, k _ _ (.inl rfl) e⟩
  | frz ob u ih => obtain ⟨e, q⟩ := x; exact ⟨k _ _ (.inl rfl) e, ih q⟩
  | tbl ps =>
    have e : h.get? a = some { cls := .none, data := .fields ps } := x
    show h'.get? a = some { cls := .none, data := .fields ps }
    exact k a _ (.inl rfl) e
  | met f y =>
    have e : h.get? a = some (PySem.W.methodObj (.ref f) (.ref y)) := x
    show h'.get? a = some (PySem.W.methodObj (.ref f) (.ref y))
    exact k a _ (.inl rfl) e
  | ext φ => obtain ⟨p, ⟨o, e⟩, st⟩ := x; exact ⟨st _ _ p fun o q => k _ _ (.inl rfl) q, ⟨o, k _ _ (.inl rfl) e⟩, st⟩
theorem HOk.lt (x : HOk P w H h) (e : H a = some o) : a < h.objs.size := (x a o e).lt
theorem HOk.fresh (x : HOk P w H h) (e : h.objs.size ≤ a) : H a = none := by
  cases q : H a with
  | none => rfl
  | some u => exact absurd (Nat.lt_of_lt_of_le (x.lt q) e) (Nat.lt_irrefl _)
theorem HOk.kept (x : HOk P w H h) (k : ∀ b u, h.get? b = some u → h'.get? b = some u) : HOk P w H h' := fun a o e =>
  (x a o e).stay (fun b u _ q => k b u q) (fun _ q => q) fun _ _ q => q
theorem HOk.laid (x : HOk P w H h) (k : ∀ b u, h.get? b = some u → h'.get? b = some u) (hp : h.objs.size ≤ a) (new : ObjOk P w (upd H a o) h' a o) : HOk P w (upd H a o) h' := fun b u e => by
  have hn := x.fresh hp
  by_cases hb : b = a
  · subst hb; rw [upd_same] at e; cases e; exact new
  · rw [upd_ne hb] at e
    exact (x b u e).stay (fun c v _ q => k c v q) (fun c q => by rw [upd_ne (ne_of_none q hn)]; exact q) fun c xs q => by rw [upd_ne (ne_of_none q hn)]; exact q
end
def Rd (H : Hp) (a : Addr) (u : HO) : Prop := H a = some u ∨ ∃ o, H a = some (.frz o u)
theorem Rd.of {H : Hp} {a : Addr} {u : HO} (h : H a = some u) : Rd H a u := .inl h
theorem Rd.ok {P : Program} {w : World} {H : Hp} {h : Heap} {a : Addr} {u : HO} (r : Rd H a u) (x : HOk P w H h) : ObjOk P w H h a u := by
  rcases r with r | ⟨o, r⟩
  · exact x a u r
  · obtain ⟨_, q⟩ := x a _ r
    exact q
def Mut : Option HO → Prop
  | some (.lst _) => True
  | some (.dK _) => True
  | some (.dT _) => True
  | some (.set _ _) => True
  | some (.ins _ _ _) => True
  | some (.ext _) => True
  | _ => False
section
variable {P : Program} {w : World} {H : Hp} {h h' : Heap} {x e : Addr} {o' : HO}
theorem HOk.write (ok : HOk P w H h) (mu : Mut (H x)) (he : e = x ∨ H e = some (.own x)) (k : ∀ b u, b ≠ e → h.get? b = some u → h'.get? b = some u) (heo : ∃ u, h'.get? e = some u)
    (new : ObjOk P w (upd H x o') h' x o') : HOk P w (upd H x o') h' := fun b u q => by
  have nown : ∀ c y, H c = some (.own y) → c ≠ x := fun c y r z => by subst z; rw [r] at mu; exact mu
  have ntup : ∀ c xs, H c = some (.tup xs) → c ≠ x := fun c xs r z => by subst z; rw [r] at mu; exact mu
  by_cases hb : b = x
  · subst hb; rw [upd_same] at q; cases q; exact new
  · rw [upd_ne hb] at q
    by_cases hbe : b = e
    · have q' : H b = some (.own x) := by
        rcases he with z | z
        · exact absurd (hbe.trans z) hb
        · rw [hbe]; exact z
      rw [q] at q'; cases q'
      obtain ⟨v, hv⟩ := heo
      exact ⟨v, by rw [hbe]; exact hv⟩
    · refine (ok b u q).stay (fun c v hc r => k c v ?_ r) (fun c r => by rw [upd_ne (nown c b r)]; exact r) fun c xs r => by rw [upd_ne (ntup c xs r)]; exact r
      rcases hc with rfl | hc
      · exact hbe
      · rintro rfl
        rcases he with z | z
        · exact nown c b hc z
        · rw [hc] at z; cases z; exact hb rfl
end
structure Un (fs ex : List Addr) (H H' : Hp) (h h' : Heap) : Prop where
  keep : ∀ b o, h.get? b = some o → H b = none → b ∉ fs → b ∉ ex → h'.get? b = some o
  slot : ∀ b o, h.get? b = some o → H b = none → b ∈ fs → b ∉ ex → ∃ sl, h'.get? b = some { o with slots := sl }
  free : ∀ b o, h.get? b = some o → H b = none → b ∉ ex → H' b = none
  there : ∀ b o, h.get? b = some o → b ∉ ex → ∃ o', h'.get? b = some o'
  tups : ∀ b xs, H b = some (.tup xs) → H' b = some (.tup xs)
  frzs : ∀ b o u, H b = some (.frz o u) → H' b = some (.frz o u)
  tbls : ∀ b ps, H b = some (.tbl ps) → ∃ more, H' b = some (.tbl (ps ++ more))
section
variable {fs fs' ex ex' : List Addr} {H H1 H2 : Hp} {h h1 h2 h' : Heap} {a x e : Addr} {o : HO}
theorem Un.any (u : Un fs ex H H1 h h1) {b : Addr} {ob : Obj} (q : h.get? b = some ob) (n : H b = none) (hx : b ∉ ex) : ∃ sl, h1.get? b = some { ob with slots := sl } := by
  by_cases hb : b ∈ fs
  · exact u.slot b ob q n hb hx
  · exact ⟨ob.slots, u.keep b ob q n hb hx⟩
theorem Un.trans (a : Un fs ex H H1 h h1) (b : Un fs ex H1 H2 h1 h2) : Un fs ex H H2 h h2 where
  keep := fun c ob q n hc hx => b.keep c ob (a.keep c ob q n hc hx) (a.free c ob q n hx) hc hx
  slot := fun c ob q n hc hx => by
    obtain ⟨sl, e1⟩ := a.slot c ob q n hc hx
    obtain ⟨sl', e2⟩ := b.slot c _ e1 (a.free c ob q n hx) hc hx
    exact ⟨sl', e2⟩
  free := fun c ob q n hx => by
    obtain ⟨o', e1⟩ := a.there c ob q hx
    exact b.free c o' e1 (a.free c ob q n hx) hx
  there := fun c ob q hx => by
    obtain ⟨o', e1⟩ := a.there c ob q hx
    exact b.there c o' e1 hx
  tups := fun c xs q => b.tups c xs (a.tups c xs q)
  frzs := fun c ob xs q => b.frzs c ob xs (a.frzs c ob xs q)
  tbls := fun c ps q => by
    obtain ⟨m1, e1⟩ := a.tbls c ps q
    obtain ⟨m2, e2⟩ := b.tbls c _ e1
    exact ⟨m1 ++ m2, by rw [e2, Array.append_assoc]⟩
theorem Un.kept (k : ∀ b u, h.get? b = some u → h'.get? b = some u) : Un fs ex H H h h' :=
  ⟨fun b ob q _ _ _ => k b ob q, fun b ob q _ _ _ => ⟨ob.slots, k b ob q⟩, fun _ _ _ n _ => n, fun b ob q _ => ⟨ob, k b ob q⟩, fun _ _ q => q, fun _ _ _ q => q, fun _ ps q => ⟨#[], by rw [q]; simp⟩⟩
theorem Un.refl : Un fs ex H H h h := Un.kept fun _ _ q => q
theorem Un.laid (k : ∀ b u, h.get? b = some u → h'.get? b = some u) (hp : h.objs.size ≤ a) (hn : H a = none) : Un fs ex H (upd H a o) h h' where
  keep := fun b u q _ _ _ => k b u q
  slot := fun b u q _ _ _ => ⟨u.slots, k b u q⟩
  free := fun b u q n _ => by rw [upd_ne (Nat.ne_of_lt (Nat.lt_of_lt_of_le (Heap.lt_size q) hp))]; exact n
  there := fun b u q _ => ⟨u, k b u q⟩
  tups := fun b xs q => by rw [upd_ne (ne_of_none q hn)]; exact q
  frzs := fun b u xs q => by rw [upd_ne (ne_of_none q hn)]; exact q
  tbls := fun b ps q => ⟨#[], by rw [upd_ne (ne_of_none q hn), q]; simp⟩
theorem Un.write (mu : Mut (H x)) (he : e = x ∨ H e = some (.own x)) (k : ∀ b u, b ≠ e → h.get? b = some u → h'.get? b = some u) (heo : ∃ u, h'.get? e = some u) : Un fs ex H (upd H x o) h h' := by
  have hx : ∀ b, H b = none → b ≠ x := fun b n z => by subst z; rw [n] at mu; exact mu
  have hb : ∀ b, H b = none → b ≠ e := fun b n z => by
    subst z
    rcases he with r | r
    · exact hx b n r
    · rw [n] at r; cases r
  have hm : ∀ b u, H b = some u → ¬ Mut (some u) → b ≠ x := fun b u q nm z => by subst z; rw [q] at mu; exact nm mu
  refine ⟨fun b u q n _ _ => k b u (hb b n) q, fun b u q n _ _ => ⟨u.slots, k b u (hb b n) q⟩, fun b u q n _ => by rw [upd_ne (hx b n)]; exact n, fun b u q _ => ?_,
    fun b xs q => by rw [upd_ne (hm b _ q fun z => z)]; exact q, fun b u xs q => by rw [upd_ne (hm b _ q fun z => z)]; exact q, fun b ps q => ⟨#[], by rw [upd_ne (hm b _ q fun z => z), q]; simp⟩⟩
  by_cases hbe : b = e
  · subst hbe; exact heo
  · exact ⟨u, k b u hbe q⟩
theorem Un.mono (u : Un fs ex H H1 h h1) (hs : ∀ b ∈ fs, b ∈ fs') (hx : ∀ b ∈ ex, b ∈ ex') : Un fs' ex' H H1 h h1 :=
  ⟨fun b ob q n hb he => u.keep b ob q n (fun z => hb (hs b z)) fun z => he (hx b z), fun _ _ q n _ he => u.any q n fun z => he (hx _ z), fun b ob q n he => u.free b ob q n fun z => he (hx b z), fun b ob q he => u.there b ob q fun z => he (hx b z), u.tups, u.frzs, u.tbls⟩
end
def trk (h : Heap) (H : Hp) : List Addr := (List.range h.objs.size).filter fun a => (H a).isSome
def hidT (h : Heap) (H : Hp) : Heap := PySem.W.hideAll h (trk h H)
theorem hidT_size (h : Heap) (H : Hp) : (hidT h H).objs.size = h.objs.size := PySem.W.hideAll_size _ _
theorem hidT_get {h : Heap} {H : Hp} {b : Addr} {o : Obj} (e : h.get? b = some o) (n : H b = none) : (hidT h H).get? b = some o :=
  PySem.W.hideAll_get _ e fun hm => by
    have q : (H b).isSome = true := (List.mem_filter.mp hm).2
    rw [n] at q; simp at q
theorem of_hidT {h : Heap} {H : Hp} {b : Addr} {o : Obj} (e : (hidT h H).get? b = some o) : h.get? b = some o ∧ H b = none := by
  have e' : h.get? b = some o := PySem.W.of_hideAll (trk h H) e
  refine ⟨e', ?_⟩
  cases q : H b with
  | none => rfl
  | some x =>
    have hm : b ∈ trk h H := List.mem_filter.mpr ⟨List.mem_range.mpr (Heap.lt_size e'), by simp [q]⟩
    have z : (hidT h H).get? b = none := PySem.W.hideAll_none (trk h H) hm
    rw [z] at e; cases e
def allNews (g h : Heap) (L : Addr) : List (Addr × Obj) := (List.range h.objs.size).filterMap fun a => if a = L ∨ (g.get? a).isSome = true then none else (h.get? a).map fun o => (a, o)
def rest (g h : Heap) (L d : Addr) : List (Addr × Obj) := (allNews g h L).filter fun p => decide (p.1 ≠ d)
end L2
namespace L2
open PySem PySem.Spec PyProof.Rows
structure Mod (K : PySem.W.Frag) (mg : Str → Option Value) (base : Heap) : Prop where
  kin : K.In base
  glob : base.Ns mainGlobals mg
  blt : ∃ mb, base.Ns builtinsNs mb ∧ ∀ x : Str, x ≠ "__name__" → mb x = bootBuiltins x
  nolimit : base.NoLimit
structure Cx where
  prog : Program
  w : World
  K : PySem.W.Frag
  mg : Str → Option Value
  base : Heap
  A : Around
  N : List Str
  s₀ : Shared
  H₀ : Hp
  env : Env
  outer : List Env
  stack : List Env
  ex : List Addr
  fn : Str → Bool
  calm : Bool
  pn : List (Addr × Obj)
  xe : Value → Shared → Prop
def frs (l : List Env) : List Addr := l.filterMap (·.frame)
abbrev Cx.fs (X : Cx) : List Addr := frs X.outer
def Vis (sc : Scope) (x : Str) : Prop := sc.names.lookup x = some .local ∨ sc.names.lookup x = some .cell ∨ sc.names.lookup x = some .free
def Loc (sc : Scope) (x : Str) : Prop := sc.names.lookup x = some .local ∨ sc.names.lookup x = some .cell
def Look (env : Env) (h : Heap) (m : Str → Option Value) (x : Str) (u : Value) : Prop :=
  (env.kindOf x = some .local ∧ m x = some u) ∨ ((env.kindOf x = some .cell ∨ env.kindOf x = some .free) ∧ ∃ c, env.cells.lookup x = some c ∧ h.IsCell c (some u))
structure Cx.Ok (X : Cx) : Prop where
  mod : Mod X.K X.mg X.base
  kind : X.env.scope.kind = .function
  glob : X.env.globals = mainGlobals
  blt : X.env.builtins = builtinsNs
  above : X.s₀.heap.objs.size ≤ X.env.locals
  inj : ∀ x y c, X.env.cells.lookup x = some c → X.env.cells.lookup y = some c → x = y
  has : ∀ x, (X.env.kindOf x = some .cell ∨ X.env.kindOf x = some .free) → ∃ c, X.env.cells.lookup x = some c
  cab : ∀ x c, X.fn x = true → X.env.cells.lookup x = some c → X.s₀.heap.objs.size ≤ c
  hd : X.calm = true → X.A.handled = none
  frames : X.A.frames = some X.stack
  stk : X.stack = X.outer ∨ (X.stack = X.env :: X.outer ∧ X.env.frame = some X.env.locals)
  exf : ∀ b ∈ X.ex, b ≠ X.env.locals ∧ ∀ x c, X.env.cells.lookup x = some c → c ≠ b
  bs : ∀ b o, X.base.get? b = some o → X.s₀.heap.get? b = some o ∧ X.H₀ b = none
  bsz : X.base.objs.size ≤ X.s₀.heap.objs.size
  noex : ∀ b o, X.base.get? b = some o → b ∉ X.ex
  exfs : ∀ b ∈ X.ex, b ∉ X.fs
  funs : X.s₀.heap.FunFrames X.base X.outer
  frf : ∀ b ∈ X.fs, X.H₀ b = none
structure Inv (X : Cx) (pins : List (Addr × Obj)) (σ : List (Option V)) (H : Hp) (s : Shared) : Prop where
  ok : X.Ok
  os : s.os = X.s₀.os
  bare : AllBare s.gens
  base : Un X.fs X.ex X.H₀ H X.s₀.heap s.heap
  loc : ∃ m, s.heap.Ns X.env.locals m ∧ ∀ (i : Nat) (x : Str) (v : V), X.N[i]? = some x → σ[i]? = some (some v) → Vis X.env.scope x → ∃ u, RelV v u ∧ Look X.env s.heap m x u
  cell : ∀ x c, X.env.cells.lookup x = some c → ∃ v, s.heap.IsCell c v
  free : H X.env.locals = none
  freeC : ∀ x c, X.env.cells.lookup x = some c → H c = none
  pin : ∀ p ∈ X.pn ++ pins, s.heap.get? p.1 = some p.2 ∧ H p.1 = none ∧ p.1 ≠ X.env.locals ∧ p.1 ∉ X.fs ∧ ∀ v, p.2.data ≠ .cell v
  hok : HOk X.prog X.w H s.heap
  len : σ.length = X.N.length
section
variable {X : Cx} {pins : List (Addr × Obj)} {σ : List (Option V)} {H H' : Hp} {s : Shared} {h' : Heap}
theorem Cx.Ok.nofr (ok : X.Ok) {b : Addr} {o : Obj} (e : X.base.get? b = some o) : b ∉ X.fs := fun hb => by
  have := (ok.funs.mem hb).1
  rw [e] at this; cases this
theorem Inv.bs (I : Inv X pins σ H s) : ∀ b o, X.base.get? b = some o → s.heap.get? b = some o ∧ H b = none := fun b o e =>
  ⟨I.base.keep b o (I.ok.bs b o e).1 (I.ok.bs b o e).2 (I.ok.nofr e) (I.ok.noex b o e), I.base.free b o (I.ok.bs b o e).1 (I.ok.bs b o e).2 (I.ok.noex b o e)⟩
theorem Inv.bk (I : Inv X pins σ H s) : ∀ b o, X.base.get? b = some o → s.heap.get? b = some o := fun b o e => (I.bs b o e).1
theorem Inv.mod (I : Inv X pins σ H s) : Mod X.K X.mg X.base := I.ok.mod
theorem Inv.kIn (I : Inv X pins σ H s) : X.K.In s.heap := I.ok.mod.kin.keeps I.bk
theorem Inv.nolimit (I : Inv X pins σ H s) : s.heap.NoLimit := I.ok.mod.nolimit.keeps I.bk
theorem Inv.fr (I : Inv X pins σ H s) : ∃ m, Fr X.base X.env.locals s.heap m :=
  let ⟨m, hn, _⟩ := I.loc
  ⟨m, hn, I.bk, Nat.le_trans I.ok.bsz I.ok.above⟩
theorem Inv.lt (I : Inv X pins σ H s) : X.env.locals < s.heap.objs.size := let ⟨_, hn, _⟩ := I.loc; hn.lt
theorem Inv.sz (I : Inv X pins σ H s) : X.s₀.heap.objs.size ≤ s.heap.objs.size := Nat.le_trans I.ok.above (Nat.le_of_lt I.lt)
theorem Inv.nofs (I : Inv X pins σ H s) {a : Addr} (h : s.heap.objs.size ≤ a) : a ∉ X.fs := fun hb => by
  obtain ⟨_, o, ho, _⟩ := I.ok.funs.mem hb
  exact absurd (Nat.lt_of_lt_of_le (Heap.lt_size ho) (Nat.le_trans I.sz h)) (Nat.lt_irrefl _)
theorem Inv.cne (I : Inv X pins σ H s) : ∀ x c, X.env.cells.lookup x = some c → c ≠ X.env.locals := fun x c e z => by
  obtain ⟨v, o, ho, hd⟩ := I.cell x c e
  obtain ⟨m, ⟨o', es, ep, ho', hd', _⟩, _⟩ := I.loc
  rw [z, ho'] at ho; cases ho; rw [hd'] at hd; cases hd
theorem Inv.funs (I : Inv X pins σ H s) : s.heap.FunFrames X.base X.outer := by
  have all : ∀ (l : List Env), (∀ b ∈ frs l, b ∈ X.fs) → X.s₀.heap.FunFrames X.base l → s.heap.FunFrames X.base l := by
    intro l
    induction l with
    | nil => intro _ _; trivial
    | cons env r ih =>
      intro hs hl
      obtain ⟨hk, ⟨L, o, hf, hn, ho, hd⟩, hr⟩ := hl
      have hL : L ∈ X.fs := hs L (by unfold frs; rw [List.filterMap_cons, hf]; exact List.mem_cons_self)
      obtain ⟨sl, e⟩ := I.base.slot L o ho (I.ok.frf L hL) hL fun z => I.ok.exfs L z hL
      exact ⟨hk, ⟨L, _, hf, hn, e, hd⟩, ih (fun b hb => hs b (by unfold frs; rw [List.filterMap_cons, hf]; exact List.mem_cons_of_mem _ hb)) hr⟩
  exact all X.outer (fun _ hb => hb) I.ok.funs
theorem Inv.stack (I : Inv X pins σ H s) : s.heap.FunFrames X.base X.stack := by
  rcases I.ok.stk with e | ⟨e, hf⟩
  · rw [e]; exact I.funs
  · rw [e]
    obtain ⟨m, hn, _⟩ := I.loc
    refine .cons (by rw [I.ok.kind]; decide) hf hn ?_ I.funs
    exact Heap.get?_none_of_le (Nat.le_trans I.ok.bsz I.ok.above)
theorem Inv.stkSub (I : Inv X pins σ H s) : ∀ b ∈ frs X.stack, b ∈ X.env.locals :: X.fs := fun b hb => by
  rcases I.ok.stk with e | ⟨e, hf⟩
  · rw [e] at hb; exact List.mem_cons_of_mem _ hb
  · rw [e] at hb
    unfold frs at hb
    rw [List.filterMap_cons, hf] at hb
    exact hb
theorem Inv.stkFree (I : Inv X pins σ H s) : ∀ b ∈ frs X.stack, H b = none := fun b hb => by
  rcases List.mem_cons.mp (I.stkSub b hb) with e | hb
  · rw [e]; exact I.free
  · obtain ⟨_, o, ho, _⟩ := I.ok.funs.mem hb
    exact I.base.free b o ho (I.ok.frf b hb) fun z => I.ok.exfs b z hb
theorem Inv.step {g' : Array GenState} {t' : Nat} {d' : Drawn} {ch : List Addr} (I : Inv X pins σ H s)
    (hch : ∀ b ∈ ch, (b ∈ X.ex ∨ X.s₀.heap.objs.size ≤ b) ∧ b ≠ X.env.locals ∧ (∀ x c, X.env.cells.lookup x = some c → c ≠ b) ∧ ∀ p ∈ X.pn ++ pins, p.1 ≠ b)
    (keep : ∀ b o, b ≠ X.env.locals → b ∉ X.fs → b ∉ ch → s.heap.get? b = some o → H b = none → h'.get? b = some o)
    (slot : ∀ b o, b ≠ X.env.locals → b ∈ X.fs → b ∉ ch → s.heap.get? b = some o → H b = none → ∃ sl, h'.get? b = some { o with slots := sl }) (free : ∀ b o, b ∉ ch → s.heap.get? b = some o → H b = none → H' b = none)
    (there : ∀ b o, b ∉ ch → s.heap.get? b = some o → ∃ o', h'.get? b = some o')
    (tups : ∀ b xs, H b = some (.tup xs) → H' b = some (.tup xs)) (frzs : ∀ b o u, H b = some (.frz o u) → H' b = some (.frz o u)) (tbls : ∀ b ps, H b = some (.tbl ps) → ∃ more, H' b = some (.tbl (ps ++ more)))
    (ns : ∀ m, s.heap.Ns X.env.locals m → h'.Ns X.env.locals m) (hok : HOk X.prog X.w H' h') (hg : AllBare g') :
    Inv X pins σ H' { s with heap := h', gens := g', drawn := d', toks := t' } := by
  have neL : ∀ b o, X.s₀.heap.get? b = some o → b ≠ X.env.locals := fun b o e => Nat.ne_of_lt (Nat.lt_of_lt_of_le (Heap.lt_size e) I.ok.above)
  have neC : ∀ b o, X.s₀.heap.get? b = some o → b ∉ X.ex → b ∉ ch := fun b o e hx hb => by
    rcases (hch b hb).1 with z | z
    · exact hx z
    · exact absurd (Nat.lt_of_lt_of_le (Heap.lt_size e) z) (Nat.lt_irrefl _)
  have cellK : ∀ x c, X.env.cells.lookup x = some c → ∀ v, s.heap.IsCell c v → h'.IsCell c v := fun x c e v ⟨o, ho, hd⟩ => by
    have nch : c ∉ ch := fun z => (hch c z).2.2.1 x c e rfl
    by_cases hc : c ∈ X.fs
    · obtain ⟨sl, q⟩ := slot c o (I.cne x c e) hc nch ho (I.freeC x c e)
      exact ⟨_, q, hd⟩
    · exact ⟨o, keep c o (I.cne x c e) hc nch ho (I.freeC x c e), hd⟩
  refine ⟨I.ok, I.os, hg, ⟨fun b o e n hb hx => ?_, fun b o e n hb hx => ?_, fun b o e n hx => ?_, fun b o e hx => ?_, fun b xs e => tups b xs (I.base.tups b xs e), fun b o xs e => frzs b o xs (I.base.frzs b o xs e), fun b ps e => ?_⟩, ?_, fun x c e => ?_, ?_, fun x c e => ?_, fun p hp => ?_, hok, I.len⟩
  · exact keep b o (neL b o e) hb (neC b o e hx) (I.base.keep b o e n hb hx) (I.base.free b o e n hx)
  · obtain ⟨sl, e1⟩ := I.base.slot b o e n hb hx
    obtain ⟨sl', e2⟩ := slot b _ (neL b o e) hb (neC b o e hx) e1 (I.base.free b o e n hx)
    exact ⟨sl', e2⟩
  · obtain ⟨o', e1⟩ := I.base.there b o e hx
    exact free b o' (neC b o e hx) e1 (I.base.free b o e n hx)
  · obtain ⟨o', e1⟩ := I.base.there b o e hx
    exact there b o' (neC b o e hx) e1
  · obtain ⟨m1, e1⟩ := I.base.tbls b ps e
    obtain ⟨m2, e2⟩ := tbls b _ e1
    exact ⟨m1 ++ m2, by rw [e2, Array.append_assoc]⟩
  · obtain ⟨m, hn, hl⟩ := I.loc
    refine ⟨m, ns m hn, fun i x v e1 e2 e3 => ?_⟩
    obtain ⟨u, r, l⟩ := hl i x v e1 e2 e3
    refine ⟨u, r, ?_⟩
    rcases l with l | ⟨k, c, e, z⟩
    · exact .inl l
    · exact .inr ⟨k, c, e, cellK x c e _ z⟩
  · obtain ⟨v, z⟩ := I.cell x c e
    exact ⟨v, cellK x c e v z⟩
  · obtain ⟨m, ⟨o, _, _, ho, _⟩, _⟩ := I.loc
    exact free _ o (fun z => (hch _ z).2.1 rfl) ho I.free
  · obtain ⟨v, o, ho, hd⟩ := I.cell x c e
    exact free c o (fun z => (hch c z).2.2.1 x c e rfl) ho (I.freeC x c e)
  · obtain ⟨e, n, ne, nf, d⟩ := I.pin p hp
    have nch : p.1 ∉ ch := fun z => (hch p.1 z).2.2.2 p hp rfl
    exact ⟨keep p.1 p.2 ne nf nch e n, free p.1 p.2 nch e n, ne, nf, d⟩
theorem Inv.un {t' : Nat} (I : Inv X pins σ H s) (u : Un X.fs [] H H' s.heap h') (hok : HOk X.prog X.w H' h') : Inv X pins σ H' { s with heap := h', toks := t' } := by
  obtain ⟨m, ⟨o, es, ep, ho, r⟩, _⟩ := id I.loc
  obtain ⟨sl, hL⟩ := u.any ho I.free (by simp)
  exact I.step (g' := s.gens) (d' := s.drawn) (ch := []) (fun _ z => nomatch z) (fun b o _ hb _ e n => u.keep b o e n hb (by simp)) (fun b o _ hb _ e n => u.slot b o e n hb (by simp)) (fun b o _ e n => u.free b o e n (by simp)) (fun b o _ e => u.there b o e (by simp)) u.tups u.frzs u.tbls (fun m' hm => by
    obtain ⟨o', es', ep', ho', r'⟩ := hm
    rw [ho] at ho'; cases ho'
    exact ⟨_, es', ep', hL, r'⟩) hok I.bare
theorem Inv.call {g' : Array GenState} {t' : Nat} {d' : Drawn} {ch : List Addr} (I : Inv X pins σ H s) (u : Un (frs X.stack) ch H H' s.heap h') (hok : HOk X.prog X.w H' h') (hg : AllBare g')
    (hch : ∀ b ∈ ch, (b ∈ X.ex ∨ X.s₀.heap.objs.size ≤ b) ∧ b ≠ X.env.locals ∧ (∀ x c, X.env.cells.lookup x = some c → c ≠ b) ∧ ∀ p ∈ X.pn ++ pins, p.1 ≠ b) :
    Inv X pins σ H' { s with heap := h', gens := g', drawn := d', toks := t' } := by
  obtain ⟨m, ⟨o, es, ep, ho, r⟩, _⟩ := id I.loc
  obtain ⟨sl, hL⟩ := u.any ho I.free fun z => (hch _ z).2.1 rfl
  exact I.step (ch := ch) hch (fun b o hL hb hc e n => u.keep b o e n (fun z => (List.mem_cons.mp (I.stkSub b z)).elim hL hb) hc) (fun b o _ _ hc e n => u.any e n hc) (fun b o hc e n => u.free b o e n hc) (fun b o hc e => u.there b o e hc) u.tups u.frzs u.tbls (fun m' hm => by
    obtain ⟨o', es', ep', ho', r'⟩ := hm
    rw [ho] at ho'; cases ho'
    exact ⟨_, es', ep', hL, r'⟩) hok hg
theorem Inv.turned {t' : Nat} {it : Addr} (I : Inv X pins σ H s) (k : ∀ b o, b ≠ it → s.heap.get? b = some o → h'.get? b = some o) (hn : H it = none) (hL : it ≠ X.env.locals)
    (h1 : it ∈ X.ex ∨ X.s₀.heap.objs.size ≤ it) (h2 : ∀ x c, X.env.cells.lookup x = some c → c ≠ it) (h3 : ∀ p ∈ X.pn ++ pins, p.1 ≠ it) : Inv X pins σ H { s with heap := h', toks := t' } := by
  have nit : ∀ b u, H b = some u → b ≠ it := fun b u e z => by rw [z, hn] at e; cases e
  refine I.step (g' := s.gens) (d' := s.drawn) (ch := [it]) (fun b hb => ?_) (fun b o _ _ hc e _ => k b o (fun z => hc (by simp [z])) e) (fun b o _ _ hc e _ => ⟨o.slots, k b o (fun z => hc (by simp [z])) e⟩) (fun _ _ _ _ n => n)
    (fun b o hc e => ⟨o, k b o (fun z => hc (by simp [z])) e⟩) (fun _ _ e => e) (fun _ _ _ e => e) (fun b ps e => ⟨#[], by rw [e]; simp⟩) (fun m hm => ?_) (fun b u e => ?_) I.bare
  · have e : b = it := by simpa using hb
    subst e
    exact ⟨h1, hL, h2, h3⟩
  · obtain ⟨o, es, ep, ho, r⟩ := hm
    exact ⟨o, es, ep, k _ o (Ne.symm hL) ho, r⟩
  · refine (I.hok b u e).stay (fun c v hc q => k c v ?_ q) (fun _ q => q) fun _ _ q => q
    rcases hc with z | z
    · rw [z]; exact nit b u e
    · exact nit c _ z
theorem Inv.tok (I : Inv X pins σ H s) (t : Nat) : Inv X pins σ H { s with toks := t } := I.un (h' := s.heap) (t' := t) Un.refl I.hok
theorem Inv.kept {t' : Nat} (I : Inv X pins σ H s) (k : ∀ b u, s.heap.get? b = some u → h'.get? b = some u) : Inv X pins σ H { s with heap := h', toks := t' } := I.un (Un.kept k) (I.hok.kept k)
theorem Inv.laid {a : Addr} {o : HO} {t' : Nat} (I : Inv X pins σ H s) (k : ∀ b u, s.heap.get? b = some u → h'.get? b = some u) (hp : s.heap.objs.size ≤ a) (new : ObjOk X.prog X.w (upd H a o) h' a o) :
    Inv X pins σ (upd H a o) { s with heap := h', toks := t' } := I.un (Un.laid k hp (I.hok.fresh hp)) (I.hok.laid k hp new)
theorem Inv.write {x e : Addr} {o : HO} {t' : Nat} (I : Inv X pins σ H s) (mu : Mut (H x)) (he : e = x ∨ H e = some (.own x)) (k : ∀ b u, b ≠ e → s.heap.get? b = some u → h'.get? b = some u) (heo : ∃ u, h'.get? e = some u)
    (new : ObjOk X.prog X.w (upd H x o) h' x o) : Inv X pins σ (upd H x o) { s with heap := h', toks := t' } := I.un (Un.write mu he k heo) (I.hok.write mu he k heo new)
theorem Inv.weak {σ' : List (Option V)} (I : Inv X pins σ H s) (hl : σ'.length = σ.length) (w : ∀ (i : Nat) v, σ'[i]? = some (some v) → σ[i]? = some (some v)) : Inv X pins σ' H s :=
  ⟨I.ok, I.os, I.bare, I.base, let ⟨m, hn, hl'⟩ := I.loc; ⟨m, hn, fun i x v e1 e2 e3 => hl' i x v e1 (w i v e2) e3⟩, I.cell, I.free, I.freeC, I.pin, I.hok, hl.trans I.len⟩
theorem Inv.pins_of {pins' : List (Addr × Obj)} (I : Inv X pins σ H s) (h : ∀ p ∈ pins', s.heap.get? p.1 = some p.2 ∧ H p.1 = none ∧ p.1 ≠ X.env.locals ∧ p.1 ∉ X.fs ∧ ∀ v, p.2.data ≠ .cell v) : Inv X pins' σ H s :=
  ⟨I.ok, I.os, I.bare, I.base, I.loc, I.cell, I.free, I.freeC, fun p hp => (List.mem_append.mp hp).elim (fun z => I.pin p (List.mem_append_left _ z)) (h p), I.hok, I.len⟩
theorem nodup_ix {N : List Str} (hN : N.Nodup) {i j : Nat} {x : Str} (a : N[i]? = some x) (b : N[j]? = some x) : i = j := by
  obtain ⟨h1, e1⟩ := List.getElem?_eq_some_iff.mp a
  obtain ⟨h2, e2⟩ := List.getElem?_eq_some_iff.mp b
  exact (List.getElem_inj hN).mp (e1.trans e2.symm)
theorem store_ok2 {M : Model} {A : Around} {E : Value → Shared → Prop} {i : Nat} {x : Str} {v : V} {u : Value} {Q : Unit → Shared → Prop} (I : Inv X pins σ H s) (hN : X.N.Nodup) (hi : X.N[i]? = some x) (hx : Loc X.env.scope x) (r : RelV v u)
    (h : ∀ s', Inv X pins (σ.set i (some v)) H s' → (∃ a, Heap.SameBut a s.heap s'.heap ∧ (a = X.env.locals ∨ X.env.cells.lookup x = some a)) → Q () s') (hf : X.fn x = true ∨ X.env.scope.names.lookup x = some .local := by first | exact .inl rfl | exact .inr rfl | assumption) : wpAny M A (storeName X.env x u) Q E s := by
  obtain ⟨m, hn, hl⟩ := id I.loc
  have hcls : (X.env.scope.kind == .class || (X.env.scope.kind == .module && X.env.locals != X.env.globals)) = false := by rw [I.ok.kind]; rfl
  have hiσ : i < σ.length := by rw [I.len]; exact (List.getElem?_eq_some_iff.mp hi).1
  have cne := I.cne
  have tracked : ∀ {a : Addr} {h' : Heap}, (∃ o, s.heap.get? a = some o ∧ H a = none) → Heap.SameBut a s.heap h' → HOk X.prog X.w H h' := fun {a h'} ha hs b ob e => by
    obtain ⟨_, _, hfree⟩ := ha
    refine (I.hok b ob e).stay (fun c w' hc q => (hs.2 c ?_).trans q) (fun _ q => q) fun _ _ q => q
    rintro rfl
    rcases hc with rfl | hc
    · rw [hfree] at e; cases e
    · rw [hfree] at hc; cases hc
  rcases hx with hk | hk
  · refine wpAny_storeName_local hk hn (fun h' hn' hs => ?_) hcls
    obtain ⟨oL, _, _, hoL, _⟩ := id hn
    refine h _ ⟨I.ok, I.os, I.bare, ⟨fun b o e n hb hx => ?_, fun b o e n hb hx => ?_, I.base.free, fun b o e hx => ?_, I.base.tups, I.base.frzs, I.base.tbls⟩, ⟨_, hn', fun j y v' e1 e2 e3 => ?_⟩, fun y c e => ?_, I.free, I.freeC, fun p hp => ?_, tracked ⟨oL, hoL, I.free⟩ hs, by simpa using I.len⟩ ⟨_, hs, .inl rfl⟩
    · exact (hs.2 b (Nat.ne_of_lt (Nat.lt_of_lt_of_le (Heap.lt_size e) I.ok.above))).trans (I.base.keep b o e n hb hx)
    · obtain ⟨sl, e1⟩ := I.base.slot b o e n hb hx
      exact ⟨sl, (hs.2 b (Nat.ne_of_lt (Nat.lt_of_lt_of_le (Heap.lt_size e) I.ok.above))).trans e1⟩
    · obtain ⟨o', e1⟩ := I.base.there b o e hx
      exact ⟨o', (hs.2 b (Nat.ne_of_lt (Nat.lt_of_lt_of_le (Heap.lt_size e) I.ok.above))).trans e1⟩
    · by_cases hj : j = i
      · subst hj
        rw [hi] at e1; cases e1
        rw [List.getElem?_set_self hiσ] at e2
        cases e2
        exact ⟨u, r, .inl ⟨hk, by simp⟩⟩
      · rw [List.getElem?_set_ne (Ne.symm hj)] at e2
        obtain ⟨u', r', q⟩ := hl j y v' e1 e2 e3
        refine ⟨u', r', ?_⟩
        rcases q with ⟨k, e⟩ | ⟨k, c, e, z⟩
        · refine .inl ⟨k, ?_⟩
          have : y ≠ x := fun e => hj (nodup_ix hN e1 (e ▸ hi))
          simp [this, e]
        · exact .inr ⟨k, c, e, z.sameBut hs (cne y c e)⟩
    · obtain ⟨w', z⟩ := I.cell y c e
      exact ⟨w', z.sameBut hs (cne y c e)⟩
    · obtain ⟨e, n, ne, nf, d⟩ := I.pin p hp
      exact ⟨(hs.2 p.1 ne).trans e, n, ne, nf, d⟩
  · have hfn : X.fn x = true := by
      rcases hf with z | z
      · exact z
      · rw [z] at hk; cases hk
    obtain ⟨c, hc⟩ := I.ok.has x (.inl hk)
    obtain ⟨w', z⟩ := I.cell x c hc
    refine wpAny_storeName_cell I.ok.kind hk hc z (fun h' hc' hs => ?_)
    obtain ⟨oc, hoc, hocd⟩ := id z
    refine h { s with heap := h' } ⟨I.ok, I.os, I.bare, ⟨fun b o e n hb hx => ?_, fun b o e n hb hx => ?_, I.base.free, fun b o e hx => ?_, I.base.tups, I.base.frzs, I.base.tbls⟩, ⟨m, hn.sameBut hs (Ne.symm (cne x c hc)), fun j y v' e1 e2 e3 => ?_⟩, fun y c' e => ?_, I.free, I.freeC, fun p hp => ?_, tracked ⟨oc, hoc, I.freeC x c hc⟩ hs, by simpa using I.len⟩ ⟨c, hs, .inr hc⟩
    · exact (hs.2 b (Nat.ne_of_lt (Nat.lt_of_lt_of_le (Heap.lt_size e) (I.ok.cab x c hfn hc)))).trans (I.base.keep b o e n hb hx)
    · obtain ⟨sl, e1⟩ := I.base.slot b o e n hb hx
      exact ⟨sl, (hs.2 b (Nat.ne_of_lt (Nat.lt_of_lt_of_le (Heap.lt_size e) (I.ok.cab x c hfn hc)))).trans e1⟩
    · obtain ⟨o', e1⟩ := I.base.there b o e hx
      exact ⟨o', (hs.2 b (Nat.ne_of_lt (Nat.lt_of_lt_of_le (Heap.lt_size e) (I.ok.cab x c hfn hc)))).trans e1⟩
    · by_cases hj : j = i
      · subst hj
        rw [hi] at e1; cases e1
        rw [List.getElem?_set_self hiσ] at e2
        cases e2
        exact ⟨u, r, .inr ⟨.inl hk, c, hc, hc'⟩⟩
      · rw [List.getElem?_set_ne (Ne.symm hj)] at e2
        obtain ⟨u', r', q⟩ := hl j y v' e1 e2 e3
        refine ⟨u', r', ?_⟩
        rcases q with q | ⟨k, c', e, z'⟩
        · exact .inl q
        · refine .inr ⟨k, c', e, z'.sameBut hs ?_⟩
          rintro rfl
          exact hj (nodup_ix hN e1 (I.ok.inj _ _ _ e hc ▸ hi))
    · by_cases hcc : c' = c
      · subst hcc; exact ⟨_, hc'⟩
      · obtain ⟨w2, z2⟩ := I.cell y c' e
        exact ⟨w2, z2.sameBut hs hcc⟩
    · obtain ⟨e, n, ne, nf, d⟩ := I.pin p hp
      refine ⟨(hs.2 p.1 ?_).trans e, n, ne, nf, d⟩
      intro q
      rw [q, hoc] at e
      have q' : oc = p.2 := Option.some.inj e
      exact d w' (by rw [← q']; exact hocd)
theorem store_ok {M : Model} {A : Around} {E : Value → Shared → Prop} {i : Nat} {x : Str} {v : V} {u : Value} {Q : Unit → Shared → Prop} (I : Inv X pins σ H s) (hN : X.N.Nodup) (hi : X.N[i]? = some x) (hx : Loc X.env.scope x) (r : RelV v u)
    (h : ∀ s', Inv X pins (σ.set i (some v)) H s' → Q () s') (hf : X.fn x = true ∨ X.env.scope.names.lookup x = some .local := by first | exact .inl rfl | exact .inr rfl | assumption) : wpAny M A (storeName X.env x u) Q E s :=
  store_ok2 I hN hi hx r (fun s' I' _ => h s' I') hf
theorem Inv.call' {s' : Shared} {ch : List Addr} (I : Inv X pins σ H s) (ho : s'.os = s.os) (u : Un (frs X.stack) ch H H' s.heap s'.heap) (hok : HOk X.prog X.w H' s'.heap) (hg : AllBare s'.gens)
    (hch : ∀ b ∈ ch, (b ∈ X.ex ∨ X.s₀.heap.objs.size ≤ b) ∧ b ≠ X.env.locals ∧ (∀ x c, X.env.cells.lookup x = some c → c ≠ b) ∧ ∀ p ∈ X.pn ++ pins, p.1 ≠ b) : Inv X pins σ H' s' := by
  obtain ⟨h', g', d', t', o'⟩ := s'
  have e : o' = s.os := ho
  subst e
  exact I.call (g' := g') (t' := t') (d' := d') u hok hg hch
end
abbrev XK := Value → Option Addr → Hp → Prop
abbrev St := List (Option V)
abbrev VK := V → Hp → Prop
abbrev TE := St → Hp → VK → Prop
abbrev TT := St → Hp → (Bool → Hp → Prop) → Prop
abbrev TA := St → Hp → (List V → Hp → Prop) → Prop
structure Ends where
  nx : St → Hp → Prop
  rt : VK
  bk : St → Hp → Prop := fun _ _ => False
  ct : St → Hp → Prop := fun _ _ => False
abbrev TS := Ends → St → Hp → Prop
def EP (X : Cx) (pins : List (Addr × Obj)) (σ : St) (Q : VK) (u : Value) (s' : Shared) : Prop := ∃ v H', Inv X pins σ H' s' ∧ RelV v u ∧ Q v H'
def TP (X : Cx) (pins : List (Addr × Obj)) (σ : St) (Q : Bool → Hp → Prop) (b : Bool) (s' : Shared) : Prop := ∃ H', Inv X pins σ H' s' ∧ Q b H'
def AP (X : Cx) (pins : List (Addr × Obj)) (σ : St) (Q : List V → Hp → Prop) (us : List Value) (s' : Shared) : Prop := ∃ vs H', Inv X pins σ H' s' ∧ Vals vs us ∧ Q vs H'
def SP (X : Cx) (pins : List (Addr × Obj)) (D : Ends) (f : Flow) (s' : Shared) : Prop :=
  match f with
  | .next => ∃ σ' H', Inv X pins σ' H' s' ∧ D.nx σ' H'
  | .brk => ∃ σ' H', Inv X pins σ' H' s' ∧ D.bk σ' H'
  | .cont => ∃ σ' H', Inv X pins σ' H' s' ∧ D.ct σ' H'
  | .ret u => ∃ v σ' H', Inv X pins σ' H' s' ∧ RelV v u ∧ D.rt v H'
def PE (X : Cx) (e : Expr) (t : TE) : Prop :=
  ∀ (pins : List (Addr × Obj)) (s : Shared) (σ : St) (H : Hp) (Q : VK), Inv X pins σ H s → t σ H Q → wpAny (model X.prog X.w) X.A (eval e X.env) (EP X pins σ Q) X.xe s
def PT (X : Cx) (e : Expr) (t : TT) : Prop :=
  ∀ (pins : List (Addr × Obj)) (s : Shared) (σ : St) (H : Hp) (Q : Bool → Hp → Prop), Inv X pins σ H s → t σ H Q → wpAny (model X.prog X.w) X.A (isTrue e X.env (eval e X.env)) (TP X pins σ Q) X.xe s
def PW (X : Cx) (e : Expr) (t : TT) : Prop :=
  ∀ (whole : Sem Value) (pins : List (Addr × Obj)) (s : Shared) (σ : St) (H : Hp) (Q : Bool → Hp → Prop), Inv X pins σ H s → t σ H Q → wpAny (model X.prog X.w) X.A (isTrue e X.env whole) (TP X pins σ Q) X.xe s
theorem PW.pt {X : Cx} {e : Expr} {t : TT} (h : PW X e t) : PT X e t := h _
def PA (X : Cx) (es : List Expr) (t : TA) : Prop :=
  ∀ (pos : Pos) (pins : List (Addr × Obj)) (s : Shared) (σ : St) (H : Hp) (Q : List V → Hp → Prop), Inv X pins σ H s → t σ H Q → wpAny (model X.prog X.w) X.A (spliced (backTo pos (starEach es X.env))) (AP X pins σ Q) X.xe s
def PS (X : Cx) (st : Stmt) (t : TS) : Prop :=
  ∀ (pins : List (Addr × Obj)) (s : Shared) (σ : St) (H : Hp) (D : Ends), Inv X pins σ H s → t D σ H → wpAny (model X.prog X.w) X.A (exec st X.env) (SP X pins D) X.xe s
def PSs (X : Cx) (st : List Stmt) (t : TS) : Prop :=
  ∀ (pins : List (Addr × Obj)) (s : Shared) (σ : St) (H : Hp) (D : Ends), Inv X pins σ H s → t D σ H → wpAny (model X.prog X.w) X.A (execs st X.env) (SP X pins D) X.xe s
theorem thn {α : Type} {t : Sem α} {Q Q' : α → Shared → Prop} {M : Model} {A : Around} {E : Value → Shared → Prop} {s : Shared} (h : wpAny M A t Q E s) (hQ : ∀ a s, Q a s → Q' a s) : wpAny M A t Q' E s := wpAny_mono h hQ fun _ _ x => x
end L2
namespace L2
open PySem PySem.Spec PyProof.Rows
section
variable {X : Cx}
def tVar (i : Nat) : TE := fun σ H Q => ∃ v, σ[i]? = some (some v) ∧ Q v H
def tC (v : V) : TE := fun _ H Q => Q v H
theorem pe_var {i : Nat} {x : Str} {pos : Pos} (hN : X.N[i]? = some x) (hv : Vis X.env.scope x) (hd : (x == ("__debug__" : Str)) = false := by decide) (hcd : (x == ("__classdict__" : Str)) = false := by decide) : PE X (.Name x pos) (tVar i) := by
  intro pins s σ H Q I h
  obtain ⟨v, e, h⟩ := h
  obtain ⟨m, hn, hl⟩ := I.loc
  obtain ⟨u, r, l⟩ := hl i x v hN e hv
  have fin : EP X pins σ Q u s := ⟨v, H, I, r, h⟩
  rcases l with ⟨hk, hm⟩ | ⟨hk, c, hc, hcell⟩
  · exact wpAny_Name (wpAny_loadName_local I.ok.kind hk hn hm fin) hd
  · rcases hk with hk | hk
    · exact wpAny_Name (wpAny_loadName_cell I.ok.kind hk hc hcell fin) hd
    · exact wpAny_Name (wpAny_loadName_free I.ok.kind hk hc hcell fin hcd) hd
theorem pe_int {i j pos} : PE X (.Constant (.int i) j pos) (tC (.int i)) := fun _ _ _ H _ I h => wpAny_Constant_int ⟨.int i, H, I.tok _, ⟨_, rfl⟩, h⟩
theorem pe_bl {b j pos} : PE X (.Constant (.bool b) j pos) (tC (.bl b)) := fun _ _ _ H _ I h => Constant_bool ⟨.bl b, H, I, rfl, h⟩
theorem pe_str {x j pos} : PE X (.Constant (.str x) j pos) (tC (.str x)) := fun _ _ _ H _ I h => Calls.Constant_str ⟨.str x, H, I.tok _, ⟨_, rfl⟩, h⟩
def Gl (X : Cx) (x : Str) : Prop := X.env.kindOf x = some .globalImplicit
theorem ld_glob {E : Value → Shared → Prop} {pins : List (Addr × Obj)} {s : Shared} {σ : St} {H : Hp} {x : Str} {u : Value} {pos : Pos} {Q : Value → Shared → Prop} (I : Inv X pins σ H s) (hg : Gl X x) (hm : X.mg x = some u) (h : Q u s)
    (hd : (x == ("__debug__" : Str)) = false := by decide) : wpAny (model X.prog X.w) X.A (eval (.Name x pos) X.env) Q E s :=
  Calls.Name_function_global I.ok.kind hg (Calls.loadGlobal_global (by rw [I.ok.glob]; exact I.mod.glob.keeps I.bk) hm h) hd
theorem ld_blt {E : Value → Shared → Prop} {pins : List (Addr × Obj)} {s : Shared} {σ : St} {H : Hp} {x : Str} {u : Value} {pos : Pos} {Q : Value → Shared → Prop} (I : Inv X pins σ H s) (hg : Gl X x) (hm : X.mg x = none) (hv : bootBuiltins x = some u) (h : Q u s)
    (hn : x ≠ "__name__" := by decide) (hd : (x == ("__debug__" : Str)) = false := by decide) : wpAny (model X.prog X.w) X.A (eval (.Name x pos) X.env) Q E s := by
  obtain ⟨mb, h1, h2⟩ := I.mod.blt
  exact Calls.Name_function_global I.ok.kind hg (Calls.loadGlobal_builtin (by rw [I.ok.glob]; exact I.mod.glob.keeps I.bk) hm (by rw [I.ok.blt]; exact h1.keeps I.bk) ((h2 x hn).trans hv) h) hd
theorem pe_bltn {x : Str} {v : V} {u : Value} {pos : Pos} (hg : Gl X x) (hm : X.mg x = none) (hv : bootBuiltins x = some u) (r : RelV v u) (hn : x ≠ "__name__" := by decide) (hd : (x == ("__debug__" : Str)) = false := by decide) : PE X (.Name x pos) (tC v) :=
  fun _ _ _ H _ I h => ld_blt I hg hm hv ⟨v, H, I, r, h⟩ hn hd
def t2I (ta tb : TE) (k : Int → Int → Hp → Prop) : St → Hp → Prop := fun σ H => ta σ H fun x H1 => tb σ H1 fun y H2 => ∃ i j, x = .int i ∧ y = .int j ∧ k i j H2
def tAdd (ta tb : TE) : TE := fun σ H Q => t2I ta tb (fun i j H2 => Q (.int (i + j)) H2) σ H
def tSub (ta tb : TE) : TE := fun σ H Q => t2I ta tb (fun i j H2 => Q (.int (i - j)) H2) σ H
def tMul (ta tb : TE) : TE := fun σ H Q => t2I ta tb (fun i j H2 => (-(2 ^ 64) < i ∧ i < 2 ^ 64) ∧ Q (.int (i * j)) H2) σ H
variable {a b : Expr} {ta tb : TE} {pos : Pos}
def PC (X : Cx) (op : CmpOp) (a b : Expr) (t : TE) : Prop :=
  ∀ (pins : List (Addr × Obj)) (s : Shared) (σ : St) (H : Hp) (Q : VK), Inv X pins σ H s → t σ H Q →
    wpAny (model X.prog X.w) X.A (eval a X.env) (fun v s₁ => wpAny (model X.prog X.w) X.A (eval b X.env) (fun u s₂ => wpAny (model X.prog X.w) X.A (compareOp op v u) (EP X pins σ Q) X.xe s₂) X.xe s₁) X.xe s
def tCmp (p : Int → Int → Bool) (ta tb : TE) : TE := fun σ H Q => t2I ta tb (fun i j H2 => Q (.bl (p i j)) H2) σ H
abbrev tLt : TE → TE → TE := tCmp fun i j => decide (i < j)
abbrev tLe : TE → TE → TE := tCmp fun i j => decide (i ≤ j)
abbrev tGt : TE → TE → TE := tCmp fun i j => decide (j < i)
abbrev tGe : TE → TE → TE := tCmp fun i j => decide (j ≤ i)
abbrev tEqI : TE → TE → TE := tCmp fun i j => decide (i = j)
abbrev tNeI : TE → TE → TE := tCmp fun i j => !decide (i = j)
def tIsN (ta : TE) : TE := fun σ H Q => ta σ H fun x H1 => Q (.bl (decide (x = .non))) H1
def tNotN (ta : TE) : TE := fun σ H Q => ta σ H fun x H1 => Q (.bl (!decide (x = .non))) H1
def tB (t : TE) : TT := fun σ H Q => t σ H fun x H1 => ∃ c, x = .bl c ∧ Q c H1
variable {tA tB' : TT} {rest : List Expr}
def tAnd (t u : TT) : TT := fun σ H Q => t σ H fun c H1 => if c = true then u σ H1 Q else Q false H1
def tOr (t u : TT) : TT := fun σ H Q => t σ H fun c H1 => if c = true then Q true H1 else u σ H1 Q
def tNot (t : TT) : TT := fun σ H Q => t σ H fun c H1 => Q (!c) H1
theorem pw_and1 (ha : PT X a tA) : PW X (.BoolOp .And [a] pos) tA := by
  intro wh pins s σ H Q I h
  refine isTrue_and (thn (ha pins s σ H Q I h) fun c s1 e => ?_)
  cases c with
  | true => exact isTrue_and_nil e
  | false => exact e
theorem pw_or1 (ha : PT X a tA) : PW X (.BoolOp .Or [a] pos) tA := by
  intro wh pins s σ H Q I h
  refine isTrue_or (thn (ha pins s σ H Q I h) fun c s1 e => ?_)
  cases c with
  | false => exact isTrue_or_nil e
  | true => exact e
theorem pw_and (ha : PT X a tA) (hb : PW X (.BoolOp .And (b :: rest) pos) tB') : PW X (.BoolOp .And (a :: b :: rest) pos) (tAnd tA tB') := by
  intro wh pins s σ H Q I h
  refine isTrue_and (thn (ha pins s σ H _ I h) fun c s1 ⟨H1, I1, q1⟩ => ?_)
  cases c with
  | true => exact hb wh pins s1 σ H1 Q I1 q1
  | false => exact ⟨H1, I1, q1⟩
theorem pw_or (ha : PT X a tA) (hb : PW X (.BoolOp .Or (b :: rest) pos) tB') : PW X (.BoolOp .Or (a :: b :: rest) pos) (tOr tA tB') := by
  intro wh pins s σ H Q I h
  refine isTrue_or (thn (ha pins s σ H _ I h) fun c s1 ⟨H1, I1, q1⟩ => ?_)
  cases c with
  | true => exact ⟨H1, I1, q1⟩
  | false => exact hb wh pins s1 σ H1 Q I1 q1
theorem pt_not (ha : PT X a tA) : PT X (.UnaryOp .Not a pos) (tNot tA) := by
  intro pins s σ H Q I h
  exact isTrue_not (ha pins s σ H (fun c H1 => Q (!c) H1) I h)
def tAndV (ta tb : TE) : TE := fun σ H Q => ta σ H fun x H1 => ∃ c, x = .bl c ∧ if c = true then tb σ H1 Q else Q (.bl false) H1
def tOrV (ta tb : TE) : TE := fun σ H Q => ta σ H fun x H1 => ∃ c, x = .bl c ∧ if c = true then Q (.bl true) H1 else tb σ H1 Q
def tNotV (ta : TE) : TE := fun σ H Q => ta σ H fun x H1 => ∃ c, x = .bl c ∧ Q (.bl (!c)) H1
theorem pe_one {op} {t : TE} (h : PE X a t) : PE X (.BoolOp op [a] pos) t := fun pins s σ H Q I hw => BoolOp_one (h pins s σ H Q I hw)
theorem pe_and (ha : PE X a ta) (hb : PE X (.BoolOp .And (b :: rest) pos) tb) : PE X (.BoolOp .And (a :: b :: rest) pos) (tAndV ta tb) := by
  intro pins s σ H Q I h
  refine BoolOp_and (thn (ha pins s σ H _ I h) fun v s1 ⟨x, H1, I1, r1, q1⟩ => ?_)
  obtain ⟨c, rfl, q1⟩ := q1
  cases r1
  refine wpAny_truthy_bool ?_
  cases c with
  | true => exact hb pins s1 σ H1 Q I1 q1
  | false => exact ⟨.bl false, H1, I1, rfl, q1⟩
def tIf (t : TT) (ta tb : TE) : TE := fun σ H Q => t σ H fun c H1 => if c = true then ta σ H1 Q else tb σ H1 Q
theorem pe_ifExp {c : Expr} (hc : PT X c tA) (ha : PE X a ta) (hb : PE X b tb) : PE X (.IfExp c a b pos) (tIf tA ta tb) := by
  intro pins s σ H Q I h
  refine wpAny_IfExp (thn (hc pins s σ H _ I h) fun d s1 ⟨H1, I1, q1⟩ => ?_)
  cases d with
  | true => exact ha pins s1 σ H1 Q I1 q1
  | false => exact hb pins s1 σ H1 Q I1 q1
end
end L2
namespace L2
open PySem PySem.Spec PyProof.Rows
def SqL (K : PySem.W.Frag) (H : Hp) (a : Addr) (xs : List V) : Prop :=
  Rd H a (.lst xs) ∨
    ∃ (o : Obj) (its : Array Value) (n : Nat), K.lookup a = some o ∧ o.cls = .type "list" ∧ o.dict = none ∧ o.data = .seq its n ∧ its.size ≤ sizeLine ∧ Vals xs its.toList
def SqT (K : PySem.W.Frag) (H : Hp) (a : Addr) (xs : List V) : Prop :=
  Rd H a (.tup xs) ∨
    ∃ (o : Obj) (its : Array Value) (n : Nat), K.lookup a = some o ∧ o.cls = .type "tuple" ∧ o.data = .seq its n ∧ its.size ≤ sizeLine ∧ Vals xs its.toList
def absV : Value → Option V
  | .none => some .non
  | .bool b => some (.bl b)
  | .int i _ => some (.int i)
  | .str x _ => some (.str x)
  | .bytes b _ => some (.byt b)
  | .float b _ => some (.flt b)
  | .ref a => some (.ref a)
  | .type n => some (.ty n)
  | _ => none
theorem RelV.abs {x : V} {u : Value} (r : RelV x u) : absV u = some x := by
  cases x with
  | non => cases r; rfl
  | bl _ => cases r; rfl
  | int _ => obtain ⟨t, rfl⟩ := r; rfl
  | str _ => obtain ⟨t, rfl⟩ := r; rfl
  | byt _ => obtain ⟨t, rfl⟩ := r; rfl
  | flt _ => obtain ⟨t, rfl⟩ := r; rfl
  | ref _ => cases r; rfl
  | ty _ => cases r; rfl
theorem RelV.inj {x y : V} {u : Value} (r : RelV x u) (q : RelV y u) : x = y := Option.some.inj (r.abs.symm.trans q.abs)
theorem Vals.inj {xs ys : List V} {us : List Value} (h : Vals xs us) (g : Vals ys us) : xs = ys := by
  induction h generalizing ys with
  | nil => cases g; rfl
  | cons r t ih =>
    cases g with
    | cons r' t' => rw [RelV.inj r r', ih t']
section
variable {X : Cx} {pins : List (Addr × Obj)} {σ : St} {H : Hp} {s : Shared} {a : Addr} {xs ys : List V}
theorem SqL.of {K : PySem.W.Frag} (h : H a = some (.lst xs)) : SqL K H a xs := .inl (.inl h)
theorem SqT.of {K : PySem.W.Frag} (h : H a = some (.tup xs)) : SqT K H a xs := .inl (.inl h)
theorem Inv.list (I : Inv X pins σ H s) (h : SqL X.K H a xs) : ∃ its : List Value, Vals xs its ∧ PlainL s.heap a its.toArray ∧ xs.length ≤ sizeLine := by
  rcases h with h | ⟨o, its, n, hk, hc, hd, hs, hz, r⟩
  · obtain ⟨z, its, n, r, e⟩ := h.ok I.hok
    exact ⟨its, r, ⟨_, n, e, rfl, rfl, rfl⟩, z⟩
  · refine ⟨its.toList, r, ⟨o, n, I.kIn a o hk, hc, hd, by simpa using hs⟩, ?_⟩
    have e := r.length
    simp only [Array.length_toList] at e
    omega
theorem Inv.tuple (I : Inv X pins σ H s) (h : SqT X.K H a xs) : ∃ its : List Value, Vals xs its ∧ IsTup s.heap a its.toArray ∧ xs.length ≤ sizeLine := by
  rcases h with h | ⟨o, its, n, hk, hc, hs, hz, r⟩
  · obtain ⟨z, its, r, p⟩ := h.ok I.hok
    exact ⟨its, r, p, z⟩
  · refine ⟨its.toList, r, ⟨o, I.kIn a o hk, hc, n, by simpa using hs⟩, ?_⟩
    have e := r.length
    simp only [Array.length_toList] at e
    omega
theorem Inv.list_inj (I : Inv X pins σ H s) (h : SqL X.K H a xs) (h' : SqL X.K H a ys) : xs = ys := by
  obtain ⟨its, r, ⟨o, n, e, _, _, d⟩, _⟩ := I.list h
  obtain ⟨its', r', ⟨o', n', e', _, _, d'⟩, _⟩ := I.list h'
  rw [e] at e'; cases e'
  rw [d] at d'
  injection d' with d1 _
  have : its = its' := by simpa using congrArg Array.toList d1
  subst this
  exact r.inj r'
theorem Inv.tuple_inj (I : Inv X pins σ H s) (h : SqT X.K H a xs) (h' : SqT X.K H a ys) : xs = ys := by
  obtain ⟨its, r, ⟨o, e, _, n, d⟩, _⟩ := I.tuple h
  obtain ⟨its', r', ⟨o', e', _, n', d'⟩, _⟩ := I.tuple h'
  rw [e] at e'; cases e'
  rw [d] at d'
  injection d' with d1 _
  have : its = its' := by simpa using congrArg Array.toList d1
  subst this
  exact r.inj r'
end
abbrev Cx.wish (X : Cx) (E : Value → Shared → Prop) : Cx := { X with xe := E }
abbrev Cx.nox (X : Cx) : Cx := X.wish fun _ _ => False
theorem Cx.Ok.wish {X : Cx} (ok : X.Ok) (E : Value → Shared → Prop) : (X.wish E).Ok :=
  ⟨ok.mod, ok.kind, ok.glob, ok.blt, ok.above, ok.inj, ok.has, ok.cab, ok.hd, ok.frames, ok.stk, ok.exf, ok.bs, ok.bsz, ok.noex, ok.exfs, ok.funs, ok.frf⟩
theorem Cx.Ok.unwish {X : Cx} {E : Value → Shared → Prop} (ok : (X.wish E).Ok) : X.Ok :=
  ⟨ok.mod, ok.kind, ok.glob, ok.blt, ok.above, ok.inj, ok.has, ok.cab, ok.hd, ok.frames, ok.stk, ok.exf, ok.bs, ok.bsz, ok.noex, ok.exfs, ok.funs, ok.frf⟩
section
variable {X : Cx} {pins : List (Addr × Obj)} {σ : St} {H : Hp} {s : Shared} {E : Value → Shared → Prop}
theorem Inv.wish (I : Inv X pins σ H s) (E : Value → Shared → Prop) : Inv (X.wish E) pins σ H s := ⟨I.ok.wish E, I.os, I.bare, I.base, I.loc, I.cell, I.free, I.freeC, I.pin, I.hok, I.len⟩
theorem Inv.unwish (I : Inv (X.wish E) pins σ H s) : Inv X pins σ H s := ⟨I.ok.unwish, I.os, I.bare, I.base, I.loc, I.cell, I.free, I.freeC, I.pin, I.hok, I.len⟩
theorem SP.unwish {D : Ends} {f : Flow} {s' : Shared} (h : SP (X.wish E) pins D f s') : SP X pins D f s' := by
  cases f with
  | next => obtain ⟨σ', H', I, q⟩ := h; exact ⟨σ', H', I.unwish, q⟩
  | brk => obtain ⟨σ', H', I, q⟩ := h; exact ⟨σ', H', I.unwish, q⟩
  | cont => obtain ⟨σ', H', I, q⟩ := h; exact ⟨σ', H', I.unwish, q⟩
  | ret u => obtain ⟨v, σ', H', I, r, q⟩ := h; exact ⟨v, σ', H', I.unwish, r, q⟩
theorem PE.nox {e : Expr} {t : TE} (h : PE X.nox e t) : PE X e t := fun pins s σ H Q I hw =>
  wpAny_mono (h pins s σ H Q (I.wish _) hw) (fun _ _ ⟨v, H', I', r, q⟩ => ⟨v, H', I'.unwish, r, q⟩) fun _ _ z => False.elim z
theorem PT.nox {e : Expr} {t : TT} (h : PT X.nox e t) : PT X e t := fun pins s σ H Q I hw =>
  wpAny_mono (h pins s σ H Q (I.wish _) hw) (fun _ _ ⟨H', I', q⟩ => ⟨H', I'.unwish, q⟩) fun _ _ z => False.elim z
theorem PSs.nox {st : List Stmt} {t : TS} (h : PSs X.nox st t) : PSs X st t := fun pins s σ H D I hw =>
  wpAny_mono (h pins s σ H D (I.wish _) hw) (fun _ _ q => q.unwish) fun _ _ z => False.elim z
end
section
variable {X : Cx} {st : Stmt} {rest : List Stmt} {t u : TS} {e : Expr} {te : TE} {pos : Pos}
def tNext : TS := fun D σ H => D.nx σ H
def tSeq (t u : TS) : TS := fun D σ H => t { D with nx := u D } σ H
theorem pss_nil : PSs X [] tNext := fun _ _ σ H _ I h => wpAny_execs_nil ⟨σ, H, I, h⟩
theorem pss_cons (h1 : PS X st t) (h2 : PSs X rest u) : PSs X (st :: rest) (tSeq t u) := by
  intro pins s σ H D I h
  refine wpAny_execs_cons (thn (h1 pins s σ H { D with nx := u D } I h) fun f s1 q => ?_)
  cases f with
  | next =>
    obtain ⟨σ', H', I', q⟩ := q
    exact h2 pins s1 σ' H' D I' q
  | ret v => exact q
  | brk => exact q
  | cont => exact q
theorem pss_one (h1 : PS X st t) : PSs X [st] t := by
  intro pins s σ H D I h
  refine wpAny_execs_cons (thn (h1 pins s σ H D I h) fun f s1 q => ?_)
  cases f with
  | next => exact wpAny_execs_nil q
  | ret v => exact q
  | brk => exact q
  | cont => exact q
def tBreak : TS := fun D σ H => D.bk σ H
def tCont : TS := fun D σ H => D.ct σ H
theorem Inv.quiet {pins : List (Addr × Obj)} {σ : St} {H : Hp} {s : Shared} (I : Inv X pins σ H s) : interactive X.env = false := by simp [interactive, I.ok.kind]
def tDrop (te : TE) : TS := fun D σ H => te σ H fun _ H1 => D.nx σ H1
theorem ps_expr (he : PE X e te) (hs : swapsWith e none pos.line X.env = pure false := by rfl) : PS X (.Expr e pos) (tDrop te) := by
  intro pins s σ H D I h
  exact wpAny_Expr_any (thn (he pins s σ H _ I h) fun v s1 ⟨x, H1, I1, r1, q1⟩ => ⟨σ, H1, I1, q1⟩) I.quiet hs
def tRet (te : TE) : TS := fun D σ H => te σ H D.rt
theorem ps_ret (he : PE X e te) : PS X (.Return (some e) pos) (tRet te) := by
  intro pins s σ H D I h
  exact wpAny_Return_some (thn (he pins s σ H _ I h) fun v s1 ⟨x, H1, I1, r1, q1⟩ => ⟨x, σ, H1, I1, r1, q1⟩)
def tRetN : TS := fun D _ H => D.rt .non H
def tIfS (c : TT) (t u : TS) : TS := fun D σ H => c σ H fun b H1 => if b = true then t D σ H1 else u D σ H1
theorem ps_if {c : Expr} {a b : List Stmt} {tc : TT} (hc : PT X c tc) (ha : PSs X a t) (hb : PSs X b u) : PS X (.If c a b pos) (tIfS tc t u) := by
  intro pins s σ H D I h
  refine wpAny_If (thn (hc pins s σ H _ I h) fun d s1 ⟨H1, I1, q1⟩ => ?_)
  cases d with
  | true => exact ha pins s1 σ H1 D I1 q1
  | false => exact hb pins s1 σ H1 D I1 q1
def tNever : TS := fun _ _ _ => False
end
abbrev TG := V → St → Hp → (St → Hp → Prop) → Prop
abbrev TGs := List V → St → Hp → (St → Hp → Prop) → Prop
def PG (X : Cx) (target : Expr) (t : TG) : Prop :=
  ∀ (pins : List (Addr × Obj)) (s : Shared) (σ : St) (H : Hp) (v : V) (u : Value) (Q : St → Hp → Prop), Inv X pins σ H s → RelV v u → t v σ H Q →
    wpAny (model X.prog X.w) X.A (assign target X.env u) (fun _ s' => ∃ σ' H', Inv X pins σ' H' s' ∧ Q σ' H') X.xe s
def PGs (X : Cx) (ts : List Expr) (t : TGs) : Prop :=
  ∀ (pins : List (Addr × Obj)) (s : Shared) (σ : St) (H : Hp) (vs : List V) (us : List Value) (Q : St → Hp → Prop), Inv X pins σ H s → Vals vs us → t vs σ H Q →
    wpAny (model X.prog X.w) X.A (assignInOrder ((assignEach ts X.env).map (·.2)) us) (fun _ s' => ∃ σ' H', Inv X pins σ' H' s' ∧ Q σ' H') X.xe s
abbrev TSet := V → V → V → Hp → (Hp → Prop) → Prop
def PSet (X : Cx) (t : TSet) : Prop :=
  ∀ (pins : List (Addr × Obj)) (s : Shared) (σ : St) (H : Hp) (o i v : V) (ov iv u : Value) (Q : Hp → Prop), Inv X pins σ H s → RelV o ov → RelV i iv → RelV v u → t o i v H Q →
    wpAny (model X.prog X.w) X.A (setItem ov iv u) (fun _ s' => ∃ H', Inv X pins σ H' s' ∧ Q H') X.xe s
abbrev TIp := V → V → Hp → VK → Prop
def PIp (X : Cx) (op : Operator) (t : TIp) : Prop :=
  ∀ (pins : List (Addr × Obj)) (s : Shared) (σ : St) (H : Hp) (x y : V) (v u : Value) (Q : VK), Inv X pins σ H s → RelV x v → RelV y u → t x y H Q →
    wpAny (model X.prog X.w) X.A (inplaceOp op v u) (EP X pins σ Q) X.xe s
section
variable {X : Cx} {pos : Pos}
def gName (i : Nat) : TG := fun v σ H Q => Q (σ.set i (some v)) H
theorem pg_name {i : Nat} {x : Str} (hN : X.N.Nodup) (hi : X.N[i]? = some x) (hx : Loc X.env.scope x) (hf : X.fn x = true ∨ X.env.scope.names.lookup x = some .local := by first | exact .inl rfl | exact .inr rfl | assumption) : PG X (.Name x pos) (gName i) := by
  intro pins s σ H v u Q I r h
  exact wpAny_assign_Name (store_ok I hN hi hx r (fun s' I' => ⟨_, H, I', h⟩) hf)
def gNil : TGs := fun vs σ H Q => vs = [] ∧ Q σ H
def gCons (t : TG) (u : TGs) : TGs := fun vs σ H Q => ∃ v r, vs = v :: r ∧ t v σ H fun σ' H' => u r σ' H' Q
theorem pgs_nil : PGs X [] gNil := by
  intro pins s σ H vs us Q I r h
  obtain ⟨e, h⟩ := h
  subst e
  cases r
  exact assignInOrder_nil ⟨σ, H, I, h⟩
theorem pgs_cons {e : Expr} {es : List Expr} {t : TG} {u : TGs} (h1 : PG X e t) (h2 : PGs X es u)
    (hs : (assignEach (e :: es) X.env).map (·.2) = assign e X.env :: (assignEach es X.env).map (·.2) := by rfl) : PGs X (e :: es) (gCons t u) := by
  intro pins s σ H vs us Q I r h
  obtain ⟨v, vr, e1, h⟩ := h
  subst e1
  cases r with
  | cons r rr =>
    rw [hs]
    refine assignInOrder_cons (thn (h1 pins s σ H _ _ _ I r h) fun _ s1 ⟨σ1, H1, I1, q1⟩ => ?_)
    exact h2 pins s1 σ1 H1 _ _ Q I1 rr q1
def gTup (K : PySem.W.Frag) (n : Nat) (t : TGs) : TG := fun v σ H Q => ∃ a xs, v = .ref a ∧ SqT K H a xs ∧ xs.length = n ∧ t xs σ H Q
theorem pg_tup {es : List Expr} {k : Nat} {t : TGs} {n : Nat} (hc : X.calm = true) (h : PGs X es t)
    (hn : (assignEach es X.env).length = n := by rfl) (hst : (assignEach es X.env).findIdx? (·.1) = none := by rfl) : PG X (.Tuple es k pos) (gTup X.K n t) := by
  intro pins s σ H v u Q I r hw
  obtain ⟨a, xs, e1, hq, hl, hw⟩ := hw
  subst e1
  cases r
  obtain ⟨its, rv, ht, hz⟩ := I.tuple hq
  refine assign_Tuple_tuple (I.ok.hd hc) ht (by simp [hn, ← hl, rv.length]) hst fun h' hx => ?_
  have I1 : Inv X pins σ H { s with heap := h' } := I.kept (t' := s.toks) fun b o e => hx b o (Nat.ne_of_lt (Heap.lt_size e)) e
  exact h pins _ σ H xs _ Q I1 (by simpa using rv) hw
def gSub (to ti : TE) (t : TSet) : TG := fun v σ H Q => to σ H fun o H1 => ti σ H1 fun i H2 => t o i v H2 fun H3 => Q σ H3
def tAsg (te : TE) (g : TG) : TS := fun D σ H => te σ H fun x H1 => g x σ H1 D.nx
theorem ps_asg {tg e : Expr} {te : TE} {g : TG} (he : PE X e te) (hg : PG X tg g) (hs : swapsWithSole [tg] e pos.line X.env = pure false := by rfl) (hw : swappedStores [tg] e X.env = pure none := by rfl)
    (h1 : (assignEach [tg] X.env).map (·.2) = [assign tg X.env] := by rfl) : PS X (.Assign [tg] e pos) (tAsg te g) := by
  intro pins s σ H D I h
  refine wpAny_Assign_stores (thn (he pins s σ H _ I h) fun v s1 ⟨x, H1, I1, r1, q1⟩ => ?_) hs hw
  rw [h1]
  exact thn (hg pins s1 σ H1 x v _ I1 r1 q1) fun _ s2 q => q
theorem ps_set {i : Nat} {x : Str} {e : Expr} {te : TE} {pos' : Pos} (hN : X.N.Nodup) (hi : X.N[i]? = some x) (hx : Loc X.env.scope x) (he : PE X e te) (hs : swapsWith e (some (.Name x pos')) pos.line X.env = pure false := by rfl) (hf : X.fn x = true ∨ X.env.scope.names.lookup x = some .local := by first | exact .inl rfl | exact .inr rfl | assumption) :
    PS X (.Assign [.Name x pos'] e pos) (tAsg te (gName i)) := by
  intro pins s σ H D I h
  refine wpAny_Assign_Name (thn (he pins s σ H _ I h) fun v s1 ⟨y, H1, I1, r1, q1⟩ => ?_) hs
  exact store_ok I1 hN hi hx r1 (fun s2 I2 => ⟨_, H1, I2, q1⟩) hf
def tPar (i j : Nat) (ta : TA) : TS := fun D σ H => ta σ H fun vs H1 => ∃ v w, vs = [v, w] ∧ D.nx ((σ.set i (some v)).set j (some w)) H1
theorem ps_par {i j : Nat} {x y : Str} {a b : Expr} {ta : TA} {px py pt : Pos} {kt k2 pt2} (hc : X.calm = true) (hN : X.N.Nodup) (hi : X.N[i]? = some x) (hj : X.N[j]? = some y) (hij : i ≠ j)
    (hx : X.env.scope.names.lookup x = some .local) (hy : X.env.scope.names.lookup y = some .local) (ha : PA X [a, b] ta)
    (hw : swappedStores [.Tuple [.Name x px, .Name y py] kt pt] (.Tuple [a, b] k2 pt2) X.env = pure (some [x, y]))
    (hs : swapsWithSole [.Tuple [.Name x px, .Name y py] kt pt] (.Tuple [a, b] k2 pt2) pos.line X.env = pure false := by rfl) :
    PS X (.Assign [.Tuple [.Name x px, .Name y py] kt pt] (.Tuple [a, b] k2 pt2) pos) (tPar i j ta) := by
  intro pins s σ H D I h
  rw [exec_Assign_arm]
  refine wpAny_bind (wpAny_standAt ?_)
  rw [hs]
  refine wpAny_bind (wpAny_pure ?_)
  rw [if_neg (by decide)]
  refine wpAny_bind (Tuple_ (thn (ha _ pins s σ H _ I h) fun us s1 ⟨vs, H1, I1, r1, q1⟩ => ?_))
  obtain ⟨v, w, e1, q1⟩ := q1
  subst e1
  obtain ⟨u1, u2, rfl, rv, rw'⟩ : ∃ u1 u2, us = [u1, u2] ∧ RelV v u1 ∧ RelV w u2 := by
    cases r1 with
    | cons p q =>
      cases q with
      | cons p' q' =>
        cases q'
        exact ⟨_, _, rfl, p, p'⟩
  refine wpAny_newObj_type ?_ (by show 2 ≤ sizeLine; decide)
  have I2 : Inv X pins σ H1 { s1 with heap := s1.heap.push { cls := .type "tuple", data := .seq [u1, u2].toArray } } := I1.kept (t' := s1.toks) fun b o e => Heap.get?_push_of_some _ e
  rw [hw]
  refine wpAny_bind (wpAny_pure ?_)
  show wpAny (model X.prog X.w) X.A (do rule "assign.swapped-stores"; let items ← unpackItems (.ref s1.heap.objs.size) 2 none; assignInOrder [fun v => bindName X.env y v, fun v => bindName X.env x v] items.reverse; pure Flow.next) _ _ _
  refine wpAny_bind (wpAny_rule (wpAny_bind (unpackItems_tuple (items := #[u1, u2]) (I.ok.hd hc) (IsTup.new s1.heap _) fun h' hx' => ?_)))
  have I3 := I2.kept (h' := h') (t' := s1.toks) fun b o e => hx' b o (Nat.ne_of_lt (Heap.lt_size e)) e
  show wpAny _ _ (assignInOrder [fun v => bindName X.env y v, fun v => bindName X.env x v] [u2, u1] >>= fun _ => pure Flow.next) _ _ _
  refine wpAny_bind (assignInOrder_cons (wpAny_bindName (store_ok I3 hN hj (.inl hy) rw' (fun s2 I4 => ?_) (.inr hy))))
  refine assignInOrder_cons (wpAny_bindName (store_ok I4 hN hi (.inl hx) rv (fun s3 I5 => assignInOrder_nil (wpAny_pure ?_)) (.inr hx)))
  rw [List.set_comm _ _ (Ne.symm hij)] at I5
  exact ⟨_, H1, I5, q1⟩
def tAug (i : Nat) (te : TE) (ti : TIp) : TS := fun D σ H => ∃ x, σ[i]? = some (some x) ∧ te σ H fun y H1 => ti x y H1 fun z H2 => D.nx (σ.set i (some z)) H2
theorem ps_aug {i : Nat} {x : Str} {e : Expr} {te : TE} {op : Operator} {ti : TIp} {pos' : Pos} (hN : X.N.Nodup) (hi : X.N[i]? = some x) (hx : Loc X.env.scope x) (he : PE X e te) (ho : PIp X op ti) (hf : X.fn x = true ∨ X.env.scope.names.lookup x = some .local := by first | exact .inl rfl | exact .inr rfl | assumption) :
    PS X (.AugAssign (.Name x pos') op e pos) (tAug i te ti) := by
  intro pins s σ H D I h
  obtain ⟨v, e1, h⟩ := h
  obtain ⟨m, hn, hl⟩ := I.loc
  have vis : Vis X.env.scope x := by rcases hx with k | k; exact .inl k; exact .inr (.inl k)
  obtain ⟨u, r, l⟩ := hl i x v hi e1 vis
  refine wpAny_AugAssign_Name ?_
  have go : wpAny (model X.prog X.w) X.A (eval e X.env) (fun w s₂ => wpAny (model X.prog X.w) X.A (inplaceOp op u w) (fun r s₃ => wpAny (model X.prog X.w) X.A (storeName X.env x r) (fun _ => SP X pins D .next) X.xe s₃) X.xe s₂) X.xe s := by
    refine thn (he pins s σ H _ I h) fun w s1 ⟨y, H1, I1, r1, q1⟩ => ?_
    refine thn (ho pins s1 σ H1 v y u w _ I1 r r1 q1) fun z s2 ⟨zv, H2, I2, r2, q2⟩ => ?_
    exact store_ok I2 hN hi hx r2 (fun s3 I3 => ⟨_, H2, I3, q2⟩) hf
  rcases l with ⟨hk, hm⟩ | ⟨hk, c, hc, hcell⟩
  · exact wpAny_loadName_local I.ok.kind hk hn hm go
  · rcases hk with hk | hk
    · exact wpAny_loadName_cell I.ok.kind hk hc hcell go
    · rcases hx with k | k
      · have : X.env.scope.names.lookup x = some .free := hk
        rw [k] at this; cases this
      · have : X.env.scope.names.lookup x = some .free := hk
        rw [k] at this; cases this
def tAugS (to ti te : TE) (tget : V → V → Hp → VK → Prop) (tip : TIp) (tset : TSet) : TS := fun D σ H => to σ H fun o H1 => ti σ H1 fun i H2 => tget o i H2 fun x H3 => te σ H3 fun y H4 => tip x y H4 fun z H5 => tset o i z H5 fun H6 => D.nx σ H6
def PGet (X : Cx) (t : V → V → Hp → VK → Prop) : Prop :=
  ∀ (pins : List (Addr × Obj)) (s : Shared) (σ : St) (H : Hp) (o i : V) (ov iv : Value) (Q : VK), Inv X pins σ H s → RelV o ov → RelV i iv → t o i H Q →
    wpAny (model X.prog X.w) X.A (getItem ov iv) (EP X pins σ Q) X.xe s
def ipI (f : Int → Int → Int) : TIp := fun x y H Q => ∃ i j, x = .int i ∧ y = .int j ∧ Q (.int (f i j)) H
theorem ip_add : PIp X .Add (ipI fun i j => i + j) := by
  intro pins s σ H x y v u Q I r1 r2 h
  obtain ⟨i, j, e1, e2, q⟩ := h
  subst e1; subst e2
  obtain ⟨t, rfl⟩ := r1
  obtain ⟨t', rfl⟩ := r2
  exact iadd_int ⟨.int _, H, I.tok _, ⟨_, rfl⟩, q⟩
end
section
variable {X : Cx} {pos : Pos}
def tWhile (c : TT) (tb : TS) : TS := fun D σ H => ∃ W : Nat → St → Hp → Prop, (∃ m, W m σ H) ∧ ∀ m σ H, W m σ H →
  c σ H fun b H1 => if b = true then ∃ N : St → Hp → Prop, (∀ σ' H', N σ' H' → ∃ m', m' < m ∧ W m' σ' H') ∧ tb { D with nx := N, ct := N, bk := D.nx } σ H1 else D.nx σ H1
end
structure It where
  go : Nat → Hp → Prop
  yld : Nat → Hp → V → Hp → Prop
  stop : Nat → Hp → Prop
def FpOk (X : Cx) (pins : List (Addr × Obj)) (H : Hp) (b : Addr) : Prop :=
  H b = none ∧ b ≠ X.env.locals ∧ b ∉ X.fs ∧ (b ∈ X.ex ∨ X.s₀.heap.objs.size ≤ b) ∧ (∀ x c, X.env.cells.lookup x = some c → c ≠ b) ∧ ∀ p ∈ X.pn ++ pins, p.1 ≠ b
theorem Inv.fpOk {X : Cx} {pins : List (Addr × Obj)} {σ : St} {H H' : Hp} {s : Shared} {b : Addr} (I : Inv X pins σ H s) (hb : s.heap.objs.size ≤ b) (hn : H' b = none) : FpOk X pins H' b := by
  refine ⟨hn, Nat.ne_of_gt (Nat.lt_of_lt_of_le I.lt hb), I.nofs hb, .inr (Nat.le_trans I.sz hb), fun x c e z => ?_, fun p hp z => ?_⟩
  · obtain ⟨v, q⟩ := I.cell x c e
    exact absurd (Nat.lt_of_lt_of_le q.lt (by rw [z]; exact hb)) (Nat.lt_irrefl _)
  · exact absurd (Nat.lt_of_lt_of_le (Heap.lt_size (I.pin p hp).1) (by rw [z]; exact hb)) (Nat.lt_irrefl _)
structure Turn (P : Program) (w : World) (K : PySem.W.Frag) (tg : Expr) (J : It) (fp : List Addr) (it : Addr) (tn : Nat → Heap → Prop) : Prop where
  mem : it ∈ fp
  obj : ∀ i h, tn i h → ∀ b ∈ fp, ∃ o, h.get? b = some o ∧ ∀ v, o.data ≠ .cell v
  keep : ∀ i h h', tn i h → (∀ b ∈ fp, ∀ o, h.get? b = some o → h'.get? b = some o) → tn i h'
  item : ∀ (X : Cx), X.prog = P → X.w = w → X.K = K → X.calm = true → ∀ (i : Nat) (pins : List (Addr × Obj)) (s : Shared) (σ : St) (H : Hp) (E : Value → Shared → Prop), Inv X pins σ H s → (∀ b ∈ fp, FpOk X pins H b) → tn i s.heap → J.go i H →
    wpAny (model P w) X.A (pyNext (.ref it)) (fun r s1 => ∃ u, r = some u ∧
      wpAny (model P w) X.A (letOwnedTupleGo tg (.ref it) u) (fun _ s2 => ∃ x H', Inv X pins σ H' s2 ∧ RelV x u ∧ J.yld i H x H' ∧ tn (i + 1) s2.heap ∧ ∀ b ∈ fp, H' b = none) E s1) E s
  done : ∀ (X : Cx), X.prog = P → X.w = w → X.K = K → X.calm = true → ∀ (i : Nat) (pins : List (Addr × Obj)) (s : Shared) (σ : St) (H : Hp) (E : Value → Shared → Prop), Inv X pins σ H s → (∀ b ∈ fp, FpOk X pins H b) → tn i s.heap → J.stop i H →
    wpAny (model P w) X.A (pyNext (.ref it)) (fun r s1 => r = none ∧ Inv X pins σ H s1) E s
  self : ∀ (A : Around) (i : Nat) (s : Shared) (Q : Value → Shared → Prop) (E : Value → Shared → Prop), tn i s.heap → Q (.ref it) s → wpAny (model P w) A (pyIter (.ref it)) Q E s
abbrev TI := St → Hp → (It → Hp → Prop) → Prop
def PIE (X : Cx) (pins : List (Addr × Obj)) (σ : St) (tg : Expr) (R : It → Hp → Prop) (itv : Value) (s2 : Shared) : Prop :=
  ∃ (it : Addr) (fp : List Addr) (tn : Nat → Heap → Prop) (J : It) (H' : Hp), itv = .ref it ∧ Inv X pins σ H' s2 ∧ Turn X.prog X.w X.K tg J fp it tn ∧ tn 0 s2.heap ∧ (∀ b ∈ fp, FpOk X pins H' b) ∧ R J H'
def PI (X : Cx) (tg iter : Expr) (wi : TI) : Prop :=
  ∀ (pins : List (Addr × Obj)) (s : Shared) (σ : St) (H : Hp) (R : It → Hp → Prop), Inv X pins σ H s → wi σ H R →
    wpAny (model X.prog X.w) X.A (eval iter X.env) (fun v s1 => wpAny (model X.prog X.w) X.A (pyIter v) (PIE X pins σ tg R) X.xe s1) X.xe s
theorem go_of {M : Model} {A : Around} {E : Value → Shared → Prop} {s : Shared} {tg : Expr} {it : Addr} {u : Value} {o : Obj} {n : String} {vs : Array Value} {Q : Unit → Shared → Prop} (ho : s.heap.get? it = some o) (hc : o.cls = .type n) (hd : o.data = .fields vs)
    (hn : ["enumerate", "zip", "dict_itemiterator", "dict_reverseitemiterator", "odict_iterator", "itertools.zip_longest", "itertools.pairwise"].contains n = false) (hQ : Q () s) : wpAny M A (letOwnedTupleGo tg (.ref it) u) Q E s := by
  unfold letOwnedTupleGo
  cases tg <;> first
    | exact wpAny_pure hQ
    | (cases u <;> first
        | exact wpAny_pure hQ
        | (refine wpAny_bind (wpAny_load ho ?_)
           rw [hc, hd]
           show wpAny M A (if (["enumerate", "zip", "dict_itemiterator", "dict_reverseitemiterator", "odict_iterator", "itertools.zip_longest", "itertools.pairwise"].contains n && vs[0]? == some (rawInt _)) = true then _ else _) Q E s
           rw [if_neg (by intro h; rw [hn, Bool.false_and] at h; cases h)]
           exact wpAny_pure hQ))
def Itl (K : PySem.W.Frag) (a : Addr) : It :=
  ⟨fun i H => ∃ xs x, SqL K H a xs ∧ xs[i]? = some x, fun i H x H' => H' = H ∧ ∀ xs, SqL K H a xs → xs[i]? = some x, fun i H => ∃ xs, SqL K H a xs ∧ xs.length ≤ i⟩
def Itt (K : PySem.W.Frag) (a : Addr) : It :=
  ⟨fun i H => ∃ xs x, SqT K H a xs ∧ xs[i]? = some x, fun i H x H' => H' = H ∧ ∀ xs, SqT K H a xs → xs[i]? = some x, fun i H => ∃ xs, SqT K H a xs ∧ xs.length ≤ i⟩
def Itr (lo : Int) (n : Nat) : It := ⟨fun i _ => i < n, fun i H x H' => H' = H ∧ x = .int (lo + i), fun i _ => n ≤ i⟩
theorem turn_list {P : Program} {w : World} {K : PySem.W.Frag} {tg : Expr} (a it : Addr) : Turn P w K tg (Itl K a) [it] it (fun i h => h.IsListIter it a i) where
  mem := by simp
  obj := fun i h st b hb => by
    have e : b = it := by simpa using hb
    subst e
    obtain ⟨o, e, c, d⟩ := st
    exact ⟨o, e, fun v z => by rw [d] at z; cases z⟩
  keep := fun i h h' st k => st.at fun o e => k it (by simp) o e
  item := by
    intro X hP hw hK hc i pins s σ H E I hf st hg
    subst hP hw hK
    obtain ⟨xs, x, hq, hx⟩ := hg
    obtain ⟨its, rv, p, hz⟩ := I.list hq
    obtain ⟨u, hu, ru⟩ := rv.get hx
    obtain ⟨f0, f1, f2, f3, f4, f5⟩ := hf it (by simp)
    refine wpAny_pyNext_list_item st p.isList (x := u) (by simpa using hu) fun h' st' sb => ?_
    have I1 : Inv X pins σ H { s with heap := h' } := I.turned (t' := s.toks) (fun b o hb e => (sb.2 b hb).trans e) f0 f1 f3 f4 f5
    obtain ⟨o, e, c, d⟩ := id st'
    exact ⟨u, rfl, go_of (s := { s with heap := h' }) e c d (by decide) ⟨x, H, I1, ru, ⟨rfl, fun ys hy => by rw [I.list_inj hy hq]; exact hx⟩, st', fun b hb => (hf b hb).1⟩⟩
  done := by
    intro X hP hw hK hc i pins s σ H E I hf st hg
    subst hP hw hK
    obtain ⟨xs, hq, hx⟩ := hg
    obtain ⟨its, rv, p, hz⟩ := I.list hq
    obtain ⟨f0, f1, f2, f3, f4, f5⟩ := hf it (by simp)
    have hl := rv.length
    exact wpAny_pyNext_list_end (I.ok.hd hc) st p.isList (by simp; omega) fun h' eb => ⟨rfl, I.turned (t' := s.toks) (fun b o hb e => eb b o hb e) f0 f1 f3 f4 f5⟩
  self := fun _ _ _ _ _ st h => wpAny_pyIter_listiter st h
theorem turn_tuple {P : Program} {w : World} {K : PySem.W.Frag} {tg : Expr} (a it : Addr) : Turn P w K tg (Itt K a) [it] it (fun i h => h.IsTupleIter it a i) where
  mem := by simp
  obj := fun i h st b hb => by
    have e : b = it := by simpa using hb
    subst e
    obtain ⟨o, e, c, d⟩ := st
    exact ⟨o, e, fun v z => by rw [d] at z; cases z⟩
  keep := fun i h h' st k => st.at fun o e => k it (by simp) o e
  item := by
    intro X hP hw hK hc i pins s σ H E I hf st hg
    subst hP hw hK
    obtain ⟨xs, x, hq, hx⟩ := hg
    obtain ⟨its, rv, p, hz⟩ := I.tuple hq
    obtain ⟨u, hu, ru⟩ := rv.get hx
    obtain ⟨f0, f1, f2, f3, f4, f5⟩ := hf it (by simp)
    refine wpAny_pyNext_tuple_item st (show s.heap.IsTuple a its.toArray from p) (x := u) (by simpa using hu) fun h' st' sb => ?_
    have I1 : Inv X pins σ H { s with heap := h' } := I.turned (t' := s.toks) (fun b o hb e => (sb.2 b hb).trans e) f0 f1 f3 f4 f5
    obtain ⟨o, e, c, d⟩ := id st'
    exact ⟨u, rfl, go_of (s := { s with heap := h' }) e c d (by decide) ⟨x, H, I1, ru, ⟨rfl, fun ys hy => by rw [I.tuple_inj hy hq]; exact hx⟩, st', fun b hb => (hf b hb).1⟩⟩
  done := by
    intro X hP hw hK hc i pins s σ H E I hf st hg
    subst hP hw hK
    obtain ⟨xs, hq, hx⟩ := hg
    obtain ⟨its, rv, p, hz⟩ := I.tuple hq
    obtain ⟨f0, f1, f2, f3, f4, f5⟩ := hf it (by simp)
    have hl := rv.length
    exact wpAny_pyNext_tuple_end (I.ok.hd hc) st (show s.heap.IsTuple a its.toArray from p) (by simp; omega) fun h' eb => ⟨rfl, I.turned (t' := s.toks) (fun b o hb e => eb b o hb e) f0 f1 f3 f4 f5⟩
  self := fun _ _ _ _ _ st h => wpAny_pyIter_tupleiter st h
theorem turn_range {P : Program} {w : World} {K : PySem.W.Frag} {tg : Expr} (it : Addr) (lo : Int) (n : Nat) : Turn P w K tg (Itr lo n) [it] it (fun i h => IsRangeIter h it (lo + (i : Nat) * 1) ((n : Int) - (i : Nat)) 1) where
  mem := by simp
  obj := fun i h st b hb => by
    have e : b = it := by simpa using hb
    subst e
    exact ⟨_, st, fun v z => by
      have z' : Data.fields _ = Data.cell v := z
      cases z'⟩
  keep := fun i h h' st k => k it (by simp) _ st
  item := by
    intro X hP hw hK hc i pins s σ H E I hf st hg
    subst hP hw hK
    obtain ⟨f0, f1, f2, f3, f4, f5⟩ := hf it (by simp)
    have W := Walks.range (prog := X.prog) (w := X.w) (I.ok.hd hc) it lo 1 n
    refine W.item i s _ _ hg st fun v h' tk hv st' kk => ?_
    obtain ⟨t, rfl⟩ := hv
    have I1 : Inv X pins σ H { s with heap := h', toks := tk } := I.turned (fun b o hb e => kk b o (by simpa using hb) e) f0 f1 f3 f4 f5
    refine ⟨_, rfl, go_of (s := { s with heap := h', toks := tk }) (n := "range_iterator") st' rfl rfl (by decide) ⟨.int (lo + i), H, I1, ⟨t, ?_⟩, ⟨rfl, rfl⟩, st', fun b hb => (hf b hb).1⟩⟩
    rw [Int.mul_one]
  done := by
    intro X hP hw hK hc i pins s σ H E I hf st hg
    subst hP hw hK
    obtain ⟨f0, f1, f2, f3, f4, f5⟩ := hf it (by simp)
    exact wpAny_pyNext_range_end (I.ok.hd hc) st (by have : n ≤ i := hg; omega) fun h' eb => ⟨rfl, I.turned (t' := s.toks) (fun b o hb e => eb b o hb e) f0 f1 f3 f4 f5⟩
  self := fun _ _ _ _ _ st h => wpAny_pyIter_rangeiter st h
end L2
namespace L2
open PySem PySem.Spec PyProof.Rows
section
variable {X : Cx} {tg : Expr}
def iList (K : PySem.W.Frag) (tl : TE) : TI := fun σ H R => tl σ H fun x H1 => ∃ a, x = .ref a ∧ (∃ xs, SqL K H1 a xs) ∧ R (Itl K a) H1
def iTup (K : PySem.W.Frag) (tl : TE) : TI := fun σ H R => tl σ H fun x H1 => ∃ a, x = .ref a ∧ (∃ xs, SqT K H1 a xs) ∧ R (Itt K a) H1
theorem range_it {pins : List (Addr × Obj)} {σ : St} {H : Hp} {s : Shared} {R : It → Hp → Prop} {E : Value → Shared → Prop} {lo hi : Int} {t u v : Tok} {tk : Nat} (I : Inv X pins σ H s) (h1 : -(2 ^ 62) ≤ lo) (h2 : lo < 2 ^ 62) (h3 : -(2 ^ 62) ≤ hi) (h4 : hi < 2 ^ 62)
    (q : R (Itr lo (hi - lo).toNat) H) : wpAny (model X.prog X.w) X.A (pyIter (.ref s.heap.objs.size)) (PIE X pins σ tg R) E { s with heap := s.heap.push { cls := .type "range", data := .fields #[.int lo t, .int hi u, .int 1 v] }, toks := tk } := by
  refine wpAny_pyIter_range (IsRange.new ..) (small_one h1 h2 h3 h4) ?_
  have I1 : Inv X pins σ H { s with heap := s.heap.push { cls := .type "range", data := .fields #[.int lo t, .int hi u, .int 1 v] }, toks := tk } := I.kept fun b o e => Heap.get?_push_of_some _ e
  refine ⟨(s.heap.push { cls := .type "range", data := .fields #[.int lo t, .int hi u, .int 1 v] }).objs.size, [(s.heap.push { cls := .type "range", data := .fields #[.int lo t, .int hi u, .int 1 v] }).objs.size], _, _, H, rfl,
    I1.kept (t' := tk) fun b o e => Heap.get?_push_of_some _ e, turn_range _ lo (hi - lo).toNat, ?_, fun b hb => ?_, q⟩
  · have e1 : lo + ((0 : Nat) : Int) * 1 = lo := by simp
    have e2 : (((hi - lo).toNat : Nat) : Int) - ((0 : Nat) : Int) = Builtin.Range.rangeSize lo hi 1 := by rw [rangeSize_one]; split <;> omega
    show IsRangeIter _ _ (lo + ((0 : Nat) : Int) * 1) ((((hi - lo).toNat : Nat) : Int) - ((0 : Nat) : Int)) 1
    rw [e1, e2]
    exact Heap.get?_push_size _ rfl
  · have e : b = (s.heap.push { cls := .type "range", data := .fields #[.int lo t, .int hi u, .int 1 v] }).objs.size := by simpa using hb
    subst e
    exact I1.fpOk (Nat.le_refl _) (I1.hok.fresh (Nat.le_refl _))
def iRng1 (ta : TA) : TI := fun σ H R => ta σ H fun vs H1 => ∃ j : Int, vs = [.int j] ∧ -(2 ^ 62) ≤ j ∧ j < 2 ^ 62 ∧ R (Itr 0 j.toNat) H1
def iRng2 (ta : TA) : TI := fun σ H R => ta σ H fun vs H1 => ∃ i j : Int, vs = [.int i, .int j] ∧ (-(2 ^ 62) ≤ i ∧ i < 2 ^ 62 ∧ -(2 ^ 62) ≤ j ∧ j < 2 ^ 62) ∧ R (Itr i (j - i).toNat) H1
theorem pi_range1 {a : Expr} {ta : TA} {p pos : Pos} (hg : Gl X "range") (hm : X.mg "range" = none) (ha : PA X [a] ta) (hs : starEach [a] X.env = [(false, eval a X.env)] := by rfl) : PI X tg (.Call (.Name "range" p) [a] [] pos) (iRng1 ta) := by
  intro pins s σ H R I h
  refine Call_ (ld_blt I hg hm boot_range (PyProof.Rows.callWith_type1 (thn (ha pos pins s σ H _ I h) fun us s1 ⟨vs, H1, I1, r1, q1⟩ => ?_) hs rfl))
  obtain ⟨j, e, q1, q2, q⟩ := q1
  subst e
  cases r1 with
  | cons r rr =>
    cases rr
    obtain ⟨t, rfl⟩ := r
    exact call_range_1 (range_it I1 (by omega) (by omega) q1 q2 (by simpa using q))
theorem pi_range2 {a b : Expr} {ta : TA} {p pos : Pos} (hg : Gl X "range") (hm : X.mg "range" = none) (ha : PA X [a, b] ta) (hs : starEach [a, b] X.env = [(false, eval a X.env), (false, eval b X.env)] := by rfl) (hs2 : starEach [b] X.env = [(false, eval b X.env)] := by rfl) :
    PI X tg (.Call (.Name "range" p) [a, b] [] pos) (iRng2 ta) := by
  intro pins s σ H R I h
  refine Call_ (ld_blt I hg hm boot_range (PyProof.Rows.callWith_type1 (thn (ha pos pins s σ H _ I h) fun us s1 ⟨vs, H1, I1, r1, q1⟩ => ?_) (by rw [hs, hs2]) (by rw [hs2]; rfl)))
  obtain ⟨i, j, e, ⟨q1, q2, q3, q4⟩, q⟩ := q1
  subst e
  cases r1 with
  | cons r rr =>
    cases rr with
    | cons r' rr =>
      cases rr
      obtain ⟨t, rfl⟩ := r
      obtain ⟨t', rfl⟩ := r'
      exact call_range_2 (range_it I1 q1 q2 q3 q4 q)
def tFor (wi : TI) (g : TG) (tb : TS) : TS := fun D σ H => wi σ H fun J H1 => ∃ W : Nat → Nat → St → Hp → Prop, (∃ m, W 0 m σ H1) ∧ ∀ i m σ H, W i m σ H →
  (J.stop i H ∧ D.nx σ H) ∨ (J.go i H ∧ ∃ N : St → Hp → Prop, (∀ σ' H', N σ' H' → ∃ m', m' < m ∧ W (i + 1) m' σ' H') ∧ ∀ x H', J.yld i H x H' → g x σ H' fun σ2 H2 => tb { D with nx := N, ct := N, bk := D.nx } σ2 H2)
def pinsAt (fp : List Addr) (h : Heap) : List (Addr × Obj) := fp.filterMap fun b => (h.get? b).map fun o => (b, o)
theorem mem_pinsAt {fp : List Addr} {h : Heap} {b : Addr} {o : Obj} (hb : b ∈ fp) (e : h.get? b = some o) : (b, o) ∈ pinsAt fp h := List.mem_filterMap.mpr ⟨b, hb, by rw [e]; rfl⟩
theorem of_pinsAt {fp : List Addr} {h : Heap} {p : Addr × Obj} (hp : p ∈ pinsAt fp h) : p.1 ∈ fp ∧ h.get? p.1 = some p.2 := by
  obtain ⟨b, hb, e⟩ := List.mem_filterMap.mp hp
  cases q : h.get? b with
  | none => rw [q] at e; cases e
  | some o =>
    rw [q] at e
    have e' : (b, o) = p := Option.some.inj e
    subst e'
    exact ⟨hb, q⟩
theorem Inv.pinned {pins : List (Addr × Obj)} {σ : St} {H : Hp} {s : Shared} {fp : List Addr} (I : Inv X pins σ H s) (hf : ∀ b ∈ fp, FpOk X pins H b) (ho : ∀ b ∈ fp, ∃ o, s.heap.get? b = some o ∧ ∀ v, o.data ≠ .cell v) : Inv X (pins ++ pinsAt fp s.heap) σ H s :=
  I.pins_of fun p hp => (List.mem_append.mp hp).elim (fun z => I.pin p (List.mem_append_right _ z)) fun z => by
    obtain ⟨hb, e⟩ := of_pinsAt z
    obtain ⟨f0, f1, f2, _⟩ := hf p.1 hb
    obtain ⟨o, e', d⟩ := ho p.1 hb
    rw [e] at e'; cases e'
    exact ⟨e, f0, f1, f2, d⟩
theorem Inv.unpinned {pins pl : List (Addr × Obj)} {σ : St} {H : Hp} {s : Shared} (I : Inv X (pins ++ pl) σ H s) : Inv X pins σ H s := I.pins_of fun p hp => I.pin p (List.mem_append_right _ (List.mem_append_left _ hp))
theorem ps_for {iter : Expr} {body : List Stmt} {wi : TI} {g : TG} {tb : TS} {pos : Pos} (hp : PassesOwn (model X.prog X.w) X.A X.env X.xe) (hc : X.calm = true) (hi : PI X tg iter wi) (hg : PG X tg g) (hb : PSs X body tb)
    (hs : ∀ x, foldedSetIterable iter X.env x = pure x := by intro _; rfl) : PS X (.For tg iter body [] pos) (tFor wi g tb) := by
  intro pins s σ H D I h
  refine wpAny_For (thn (hi pins s σ H _ I h) fun v s1 h1 => thn h1 fun itv s2 h2 => ?_) hs
  obtain ⟨it, fp, tn, J, H2, e, I2, T, st2, f2, W, ⟨m0, w0⟩, turn⟩ := h2
  subst e
  have stat : ∀ {H' : Hp}, (∀ b ∈ fp, H' b = none) → ∀ b ∈ fp, FpOk X pins H' b := fun hn b hb => ⟨hn b hb, (f2 b hb).2⟩
  refine codeAny_forLoop_any (fun n s' => ∃ i σ' H', Inv X pins σ' H' s' ∧ tn i s'.heap ∧ (∀ b ∈ fp, H' b = none) ∧ W i n σ' H') ?_ m0 ⟨0, σ, H2, I2, st2, fun b hb => (f2 b hb).1, w0⟩
  rintro n s3 ⟨i, σ3, H3, I3, st3, fr3, w3⟩
  rcases turn i n σ3 H3 w3 with ⟨stop, qn⟩ | ⟨go, N, hN, step⟩
  · refine wpAny_passesOwn hp (thn (T.done X rfl rfl rfl hc i pins s3 σ3 H3 X.xe I3 (stat fr3) st3 stop) fun r s4 ⟨hr, I4⟩ => ?_)
    subst hr
    exact wpAny_execs_nil ⟨σ3, H3, I4, qn⟩
  · refine wpAny_passesOwn hp (thn (T.item X rfl rfl rfl hc i pins s3 σ3 H3 X.xe I3 (stat fr3) st3 go) fun r s4 ⟨u, hr, h4⟩ => ?_)
    subst hr
    refine wpAny_passesOwn hp (thn h4 fun _ s5 ⟨x, H5, I5, r5, y5, st5, fr5⟩ => ?_)
    have I5' := I5.pinned (stat fr5) (T.obj _ _ st5)
    refine wpAny_passesOwn hp (thn (hg _ s5 σ3 H5 x u _ I5' r5 (step x H5 y5)) fun _ s6 ⟨σ6, H6, I6, q6⟩ => ?_)
    refine wpAny_passesOwn hp (thn (hb _ s6 σ6 H6 _ I6 q6) fun f s7 q7 => ?_)
    have again : ∀ {σ7 : St} {H7 : Hp}, Inv X (pins ++ pinsAt fp s5.heap) σ7 H7 s7 → N σ7 H7 → ∃ m, m < n ∧ ∃ i σ' H', Inv X pins σ' H' s7 ∧ tn i s7.heap ∧ (∀ b ∈ fp, H' b = none) ∧ W i m σ' H' := fun {σ7 H7} I7 n7 => by
      obtain ⟨m', hm, w7⟩ := hN σ7 H7 n7
      refine ⟨m', hm, i + 1, σ7, H7, I7.unpinned, T.keep _ _ _ st5 fun b hb o e => (I7.pin (b, o) (List.mem_append_right _ (List.mem_append_right _ (mem_pinsAt hb e)))).1, fun b hb => ?_, w7⟩
      obtain ⟨o, e, d⟩ := T.obj _ _ st5 b hb
      exact (I7.pin (b, o) (List.mem_append_right _ (List.mem_append_right _ (mem_pinsAt hb e)))).2.1
    cases f with
    | next => obtain ⟨σ7, H7, I7, n7⟩ := q7; exact again I7 n7
    | cont => obtain ⟨σ7, H7, I7, n7⟩ := q7; exact again I7 n7
    | brk => obtain ⟨σ7, H7, I7, q7⟩ := q7; exact ⟨σ7, H7, I7.unpinned, q7⟩
    | ret v => obtain ⟨x7, σ7, H7, I7, r7, q7⟩ := q7; exact ⟨x7, σ7, H7, I7.unpinned, r7, q7⟩
end
theorem for_list {K : PySem.W.Frag} {a : Addr} {xs : List V} {g : TG} {tb : TS} {D : Ends} {σ : St} {H : Hp} (Pv : Nat → St → Hp → Prop) (h0 : Pv 0 σ H) (hl : ∀ i σ H, i ≤ xs.length → Pv i σ H → SqL K H a xs)
    (hs : ∀ i x σ H, xs[i]? = some x → Pv i σ H → g x σ H fun σ2 H2 => tb { D with nx := Pv (i + 1), ct := Pv (i + 1), bk := D.nx } σ2 H2) (hd : ∀ σ H, Pv xs.length σ H → D.nx σ H) :
    ∃ W : Nat → Nat → St → Hp → Prop, (∃ m, W 0 m σ H) ∧ ∀ i m σ H, W i m σ H →
      ((Itl K a).stop i H ∧ D.nx σ H) ∨ ((Itl K a).go i H ∧ ∃ N : St → Hp → Prop, (∀ σ' H', N σ' H' → ∃ m', m' < m ∧ W (i + 1) m' σ' H') ∧ ∀ x H', (Itl K a).yld i H x H' → g x σ H' fun σ2 H2 => tb { D with nx := N, ct := N, bk := D.nx } σ2 H2) := by
  refine ⟨fun i m σ H => m = xs.length - i ∧ i ≤ xs.length ∧ Pv i σ H, ⟨xs.length, by simp, Nat.zero_le _, h0⟩, ?_⟩
  rintro i m σ H ⟨rfl, hi, p⟩
  have q := hl i σ H hi p
  by_cases hlt : i < xs.length
  · refine .inr ⟨⟨xs, xs[i], q, by simp [hlt]⟩, Pv (i + 1), fun σ' H' p' => ⟨xs.length - (i + 1), by omega, rfl, hlt, p'⟩, fun x H' y => ?_⟩
    obtain ⟨e, y⟩ := y
    subst e
    exact hs i x σ _ (y xs q) p
  · have e : i = xs.length := by omega
    subst e
    exact .inl ⟨⟨xs, q, Nat.le_refl _⟩, hd σ H p⟩
theorem for_tup {K : PySem.W.Frag} {a : Addr} {xs : List V} {g : TG} {tb : TS} {D : Ends} {σ : St} {H : Hp} (Pv : Nat → St → Hp → Prop) (h0 : Pv 0 σ H) (hl : ∀ i σ H, i ≤ xs.length → Pv i σ H → SqT K H a xs)
    (hs : ∀ i x σ H, xs[i]? = some x → Pv i σ H → g x σ H fun σ2 H2 => tb { D with nx := Pv (i + 1), ct := Pv (i + 1), bk := D.nx } σ2 H2) (hd : ∀ σ H, Pv xs.length σ H → D.nx σ H) :
    ∃ W : Nat → Nat → St → Hp → Prop, (∃ m, W 0 m σ H) ∧ ∀ i m σ H, W i m σ H →
      ((Itt K a).stop i H ∧ D.nx σ H) ∨ ((Itt K a).go i H ∧ ∃ N : St → Hp → Prop, (∀ σ' H', N σ' H' → ∃ m', m' < m ∧ W (i + 1) m' σ' H') ∧ ∀ x H', (Itt K a).yld i H x H' → g x σ H' fun σ2 H2 => tb { D with nx := N, ct := N, bk := D.nx } σ2 H2) := by
  refine ⟨fun i m σ H => m = xs.length - i ∧ i ≤ xs.length ∧ Pv i σ H, ⟨xs.length, by simp, Nat.zero_le _, h0⟩, ?_⟩
  rintro i m σ H ⟨rfl, hi, p⟩
  have q := hl i σ H hi p
  by_cases hlt : i < xs.length
  · refine .inr ⟨⟨xs, xs[i], q, by simp [hlt]⟩, Pv (i + 1), fun σ' H' p' => ⟨xs.length - (i + 1), by omega, rfl, hlt, p'⟩, fun x H' y => ?_⟩
    obtain ⟨e, y⟩ := y
    subst e
    exact hs i x σ _ (y xs q) p
  · have e : i = xs.length := by omega
    subst e
    exact .inl ⟨⟨xs, q, Nat.le_refl _⟩, hd σ H p⟩
theorem for_range {lo : Int} {n : Nat} {g : TG} {tb : TS} {D : Ends} {σ : St} {H : Hp} (Pv : Nat → St → Hp → Prop) (h0 : Pv 0 σ H)
    (hs : ∀ i σ H, i < n → Pv i σ H → g (.int (lo + i)) σ H fun σ2 H2 => tb { D with nx := Pv (i + 1), ct := Pv (i + 1), bk := D.nx } σ2 H2) (hd : ∀ σ H, Pv n σ H → D.nx σ H) :
    ∃ W : Nat → Nat → St → Hp → Prop, (∃ m, W 0 m σ H) ∧ ∀ i m σ H, W i m σ H →
      ((Itr lo n).stop i H ∧ D.nx σ H) ∨ ((Itr lo n).go i H ∧ ∃ N : St → Hp → Prop, (∀ σ' H', N σ' H' → ∃ m', m' < m ∧ W (i + 1) m' σ' H') ∧ ∀ x H', (Itr lo n).yld i H x H' → g x σ H' fun σ2 H2 => tb { D with nx := N, ct := N, bk := D.nx } σ2 H2) := by
  refine ⟨fun i m σ H => m = n - i ∧ i ≤ n ∧ Pv i σ H, ⟨n, by simp, Nat.zero_le _, h0⟩, ?_⟩
  rintro i m σ H ⟨rfl, hi, p⟩
  by_cases hlt : i < n
  · refine .inr ⟨hlt, Pv (i + 1), fun σ' H' p' => ⟨n - (i + 1), by omega, rfl, hlt, p'⟩, fun x H' y => ?_⟩
    obtain ⟨e, y⟩ := y
    subst e y
    exact hs i σ _ hlt p
  · have e : i = n := by omega
    subst e
    exact .inl ⟨Nat.le_refl _, hd σ H p⟩
end L2
namespace L2
open PySem PySem.Spec PyProof.Rows
abbrev R2 := V → V → Hp → VK → Prop
def OpR (X : Cx) (f : Value → Value → Sem Value) (r : R2) : Prop :=
  ∀ (pins : List (Addr × Obj)) (s : Shared) (σ : St) (H : Hp) (x y : V) (v u : Value) (Q : VK), Inv X pins σ H s → RelV x v → RelV y u → r x y H Q →
    wpAny (model X.prog X.w) X.A (f v u) (EP X pins σ Q) X.xe s
def UnR (X : Cx) (f : Value → Sem Value) (r : V → Hp → VK → Prop) : Prop :=
  ∀ (pins : List (Addr × Obj)) (s : Shared) (σ : St) (H : Hp) (x : V) (v : Value) (Q : VK), Inv X pins σ H s → RelV x v → r x H Q →
    wpAny (model X.prog X.w) X.A (f v) (EP X pins σ Q) X.xe s
def CallR (X : Cx) (f : Value) (r : List V → Hp → VK → Prop) : Prop :=
  ∀ (pins : List (Addr × Obj)) (s : Shared) (σ : St) (H : Hp) (xs : List V) (us : List Value) (Q : VK), Inv X pins σ H s → Vals xs us → r xs H Q →
    wpAny (model X.prog X.w) X.A (call f us) (EP X pins σ Q) X.xe s
def TruR (X : Cx) (r : V → Hp → (Bool → Hp → Prop) → Prop) : Prop :=
  ∀ (pins : List (Addr × Obj)) (s : Shared) (σ : St) (H : Hp) (x : V) (v : Value) (Q : Bool → Hp → Prop), Inv X pins σ H s → RelV x v → r x H Q →
    wpAny (model X.prog X.w) X.A (truthy v) (TP X pins σ Q) X.xe s
def tOp (r : R2) (ta tb : TE) : TE := fun σ H Q => ta σ H fun x H1 => tb σ H1 fun y H2 => r x y H2 Q
def tUn (r : V → Hp → VK → Prop) (ta : TE) : TE := fun σ H Q => ta σ H fun x H1 => r x H1 Q
def rI (C : Int → Int → Prop) (g : Int → Int → V) : R2 := fun x y H Q => ∃ i j, x = .int i ∧ y = .int j ∧ C i j ∧ Q (g i j) H
def rI0 (g : Int → Int → V) : R2 := fun x y H Q => ∃ i j, x = .int i ∧ y = .int j ∧ Q (g i j) H
def rU (g : Int → V) : V → Hp → VK → Prop := fun x H Q => ∃ i, x = .int i ∧ Q (g i) H
section
variable {X : Cx} {a b c : Expr} {ta tb tc : TE} {pos : Pos}
theorem binT (ha : PE X a ta) (hb : PE X b tb) {pins : List (Addr × Obj)} {s : Shared} {σ : St} {H : Hp} {R : V → V → Hp → Prop} (I : Inv X pins σ H s)
    (h : ta σ H fun x H1 => tb σ H1 fun y H2 => R x y H2) {Q : Value → Shared → Prop} {f : Value → Value → Sem Value}
    (hf : ∀ v u s2 x y H2, Inv X pins σ H2 s2 → RelV x v → RelV y u → R x y H2 → wpAny (model X.prog X.w) X.A (f v u) Q X.xe s2) :
    wpAny (model X.prog X.w) X.A (eval a X.env) (fun v s₁ => wpAny (model X.prog X.w) X.A (eval b X.env) (fun u s₂ => wpAny (model X.prog X.w) X.A (f v u) Q X.xe s₂) X.xe s₁) X.xe s := by
  refine thn (ha pins s σ H _ I h) fun v s1 ⟨x, H1, I1, r1, q1⟩ => ?_
  refine thn (hb pins s1 σ H1 _ I1 q1) fun u s2 ⟨y, H2, I2, r2, q2⟩ => ?_
  exact hf v u s2 x y H2 I2 r1 r2 q2
theorem pe_op {op : Operator} {r : R2} (ho : OpR X (binaryOp op) r) (ha : PE X a ta) (hb : PE X b tb) : PE X (.BinOp a op b pos) (tOp r ta tb) := by
  intro pins s σ H Q I h
  exact wpAny_BinOp (binT ha hb I h fun v u s2 x y H2 I2 rx ry q => ho pins s2 σ H2 x y v u Q I2 rx ry q)
theorem opI {f : Value → Value → Sem Value} {C : Int → Int → Prop} {g : Int → Int → Int}
    (rule : ∀ (i j : Int) (t u : Tok) (s : Shared) (Q : Value → Shared → Prop) (E : Value → Shared → Prop), C i j → Q (.int (g i j) s.toks) { s with toks := s.toks + 1 } → wpAny (model X.prog X.w) X.A (f (.int i t) (.int j u)) Q E s) :
    OpR X f (rI C fun i j => .int (g i j)) := by
  intro pins s σ H x y v u Q I rx ry h
  obtain ⟨i, j, rfl, rfl, hc, q⟩ := h
  obtain ⟨t, rfl⟩ := rx
  obtain ⟨t', rfl⟩ := ry
  exact rule i j t t' s _ _ hc ⟨.int (g i j), H, I.tok _, ⟨_, rfl⟩, q⟩
theorem opI0 {f : Value → Value → Sem Value} {g : Int → Int → Int}
    (rule : ∀ (i j : Int) (t u : Tok) (s : Shared) (Q : Value → Shared → Prop) (E : Value → Shared → Prop), Q (.int (g i j) s.toks) { s with toks := s.toks + 1 } → wpAny (model X.prog X.w) X.A (f (.int i t) (.int j u)) Q E s) :
    OpR X f (rI0 fun i j => .int (g i j)) := by
  intro pins s σ H x y v u Q I rx ry h
  obtain ⟨i, j, rfl, rfl, q⟩ := h
  obtain ⟨t, rfl⟩ := rx
  obtain ⟨t', rfl⟩ := ry
  exact rule i j t t' s _ _ ⟨.int (g i j), H, I.tok _, ⟨_, rfl⟩, q⟩
theorem opB0 {f : Value → Value → Sem Value} {g : Int → Int → Bool}
    (rule : ∀ (i j : Int) (t u : Tok) (s : Shared) (Q : Value → Shared → Prop) (E : Value → Shared → Prop), Q (.bool (g i j)) s → wpAny (model X.prog X.w) X.A (f (.int i t) (.int j u)) Q E s) :
    OpR X f (rI0 fun i j => .bl (g i j)) := by
  intro pins s σ H x y v u Q I rx ry h
  obtain ⟨i, j, rfl, rfl, q⟩ := h
  obtain ⟨t, rfl⟩ := rx
  obtain ⟨t', rfl⟩ := ry
  exact rule i j t t' s _ _ ⟨.bl (g i j), H, I, rfl, q⟩
def CDiv (i j : Int) : Prop := 0 < j ∧ j < 1073741824
def CDivN (i j : Int) : Prop := j ≠ 0 ∧ j.natAbs < 1073741824
def CPow (i j : Int) : Prop := 0 ≤ j ∧ j ≤ 1000000 ∧ i.natAbs < 2 ^ 64
def CMul (i j : Int) : Prop := (-(2 ^ 64) < i ∧ i < 2 ^ 64) ∨ (-(2 ^ 64) < j ∧ j < 2 ^ 64)
theorem CMul.ok {i j : Int} (h : CMul i j) : IntMulOk i j := by
  rcases h with ⟨h1, h2⟩ | ⟨h1, h2⟩
  · exact .of_left (intBits_le_64 h1 h2)
  · exact .of_right (intBits_le_64 h1 h2)
theorem op_add : OpR X (binaryOp .Add) (rI0 fun i j => .int (i + j)) := opI0 fun _ _ _ _ _ _ _ q => add_int q
theorem op_sub : OpR X (binaryOp .Sub) (rI0 fun i j => .int (i - j)) := opI0 fun _ _ _ _ _ _ _ q => sub_int q
theorem op_mod : OpR X (binaryOp .Mod) (rI (fun _ j => 0 < j) fun i j => .int (i % j)) := opI fun i j _ _ _ _ _ hc q => by
  have h1 : (0 : Int) < j := hc
  exact mod_int' (by omega) (by rw [Int.fmod_eq_emod_of_nonneg i (by omega)]; exact q)
theorem op_pow : OpR X (binaryOp .Pow) (rI CPow fun i j => .int (i ^ j.toNat)) := opI fun _ _ _ _ _ _ _ hc q => pow_int_small hc.1 hc.2.1 hc.2.2 q
end
def scal : V → V → Bool
  | .non, .non => true | .non, .int _ => true | .int _, .non => true | .non, .bl _ => true | .bl _, .non => true | .non, .str _ => true | .str _, .non => true
  | .int _, .int _ => true | .bl _, .bl _ => true | .str _, .str _ => true | .byt _, .byt _ => true
  | .int _, .str _ => true | .str _, .int _ => true | .bl _, .str _ => true | .str _, .bl _ => true
  | _, _ => false
def rEq : R2 := fun x y H Q => scal x y = true ∧ Q (.bl (decide (x = y))) H
def rNe : R2 := fun x y H Q => scal x y = true ∧ Q (.bl (!decide (x = y))) H
theorem dec_int {i j : Int} : decide (V.int i = V.int j) = (i == j) := by
  rw [Bool.eq_iff_iff]
  simp
theorem dec_bl {i j : Bool} : decide (V.bl i = V.bl j) = (i == j) := by
  rw [Bool.eq_iff_iff]
  simp
theorem dec_str {i j : Str} : decide (V.str i = V.str j) = (i == j) := by
  rw [Bool.eq_iff_iff]
  simp
theorem dec_byt {i j : Array UInt8} : decide (V.byt i = V.byt j) = (i.toList == j.toList) := by
  rw [Bool.eq_iff_iff]
  cases i
  cases j
  simp
section
variable {X : Cx} {a b c : Expr} {ta tb tc : TE} {pos : Pos}
theorem fin_bl {pins : List (Addr × Obj)} {σ : St} {H : Hp} {s : Shared} {Q : VK} {k k' : Bool} (I : Inv X pins σ H s) (q : Q (.bl k) H) (e : k = k') : EP X pins σ Q (.bool k') s := by
  subst e
  exact ⟨.bl k, H, I, rfl, q⟩
theorem op_eq : OpR X (compareOp .Eq) rEq := by
  intro pins s σ H x y v u Q I rx ry h
  obtain ⟨hs, q⟩ := h
  cases x with
  | non =>
    cases rx
    cases y with
    | non => cases ry; exact PySem.EqNone.eq_none_none (fin_bl I q (by simp))
    | bl j => cases ry; exact PySem.EqNone.eq_none_bool (fin_bl I q (by simp))
    | int j => obtain ⟨t', rfl⟩ := ry; exact PySem.EqNone.eq_none_int (fin_bl I q (by simp))
    | str j => obtain ⟨t', rfl⟩ := ry; exact PySem.EqNone.eq_none_str (fin_bl I q (by simp))
    | _ => exact absurd (show false = true from hs) Bool.false_ne_true
  | bl i =>
    cases rx
    cases y with
    | non => cases ry; exact PySem.EqNone.eq_bool_none (fin_bl I q (by simp))
    | bl j => cases ry; exact eq_bool (fin_bl I q dec_bl)
    | str j => obtain ⟨t', rfl⟩ := ry; exact PySem.EqMixed.eq_bool_str (fin_bl I q (by simp))
    | _ => exact absurd (show false = true from hs) Bool.false_ne_true
  | int i =>
    obtain ⟨t, rfl⟩ := rx
    cases y with
    | non => cases ry; exact PySem.EqNone.eq_int_none (fin_bl I q (by simp))
    | int j => obtain ⟨t', rfl⟩ := ry; exact eq_int (fin_bl I q dec_int)
    | str j => obtain ⟨t', rfl⟩ := ry; exact PySem.EqMixed.eq_int_str (fin_bl I q (by simp))
    | _ => exact absurd (show false = true from hs) Bool.false_ne_true
  | str i =>
    obtain ⟨t, rfl⟩ := rx
    cases y with
    | non => cases ry; exact PySem.EqNone.eq_str_none (fin_bl I q (by simp))
    | bl j => cases ry; exact PySem.EqMixed.eq_str_bool (fin_bl I q (by simp))
    | int j => obtain ⟨t', rfl⟩ := ry; exact PySem.EqMixed.eq_str_int (fin_bl I q (by simp))
    | str j => obtain ⟨t', rfl⟩ := ry; exact eq_str (fin_bl I q dec_str)
    | _ => exact absurd (show false = true from hs) Bool.false_ne_true
  | byt i =>
    obtain ⟨t, rfl⟩ := rx
    cases y with
    | byt j => obtain ⟨t', rfl⟩ := ry; exact PySem.W.eq_bytes (fin_bl I q dec_byt)
    | _ => exact absurd (show false = true from hs) Bool.false_ne_true
  | _ => cases y <;> exact absurd (show false = true from hs) Bool.false_ne_true
theorem op_ne : OpR X (compareOp .NotEq) rNe := by
  intro pins s σ H x y v u Q I rx ry h
  obtain ⟨hs, q⟩ := h
  cases x with
  | non =>
    cases rx
    cases y with
    | non => cases ry; exact PySem.EqNone.ne_none_none (fin_bl I q (by simp))
    | bl j => cases ry; exact PySem.EqNone.ne_none_bool (fin_bl I q (by simp))
    | int j => obtain ⟨t', rfl⟩ := ry; exact PySem.EqNone.ne_none_int (fin_bl I q (by simp))
    | str j => obtain ⟨t', rfl⟩ := ry; exact PySem.EqNone.ne_none_str (fin_bl I q (by simp))
    | _ => exact absurd (show false = true from hs) Bool.false_ne_true
  | bl i =>
    cases rx
    cases y with
    | non => cases ry; exact PySem.EqNone.ne_bool_none (fin_bl I q (by simp))
    | bl j => cases ry; exact ne_bool (fin_bl I q (congrArg not dec_bl))
    | str j => obtain ⟨t', rfl⟩ := ry; exact PySem.EqMixed.ne_bool_str (fin_bl I q (by simp))
    | _ => exact absurd (show false = true from hs) Bool.false_ne_true
  | int i =>
    obtain ⟨t, rfl⟩ := rx
    cases y with
    | non => cases ry; exact PySem.EqNone.ne_int_none (fin_bl I q (by simp))
    | int j => obtain ⟨t', rfl⟩ := ry; exact ne_int (fin_bl I q (congrArg not dec_int))
    | str j => obtain ⟨t', rfl⟩ := ry; exact PySem.EqMixed.ne_int_str (fin_bl I q (by simp))
    | _ => exact absurd (show false = true from hs) Bool.false_ne_true
  | str i =>
    obtain ⟨t, rfl⟩ := rx
    cases y with
    | non => cases ry; exact PySem.EqNone.ne_str_none (fin_bl I q (by simp))
    | bl j => cases ry; exact PySem.EqMixed.ne_str_bool (fin_bl I q (by simp))
    | int j => obtain ⟨t', rfl⟩ := ry; exact PySem.EqMixed.ne_str_int (fin_bl I q (by simp))
    | str j => obtain ⟨t', rfl⟩ := ry; exact ne_str (fin_bl I q (congrArg not dec_str))
    | _ => exact absurd (show false = true from hs) Bool.false_ne_true
  | byt i =>
    obtain ⟨t, rfl⟩ := rx
    cases y with
    | byt j => obtain ⟨t', rfl⟩ := ry; exact PySem.W.ne_bytes (fin_bl I q (congrArg not dec_byt))
    | _ => exact absurd (show false = true from hs) Bool.false_ne_true
  | _ => cases y <;> exact absurd (show false = true from hs) Bool.false_ne_true
theorem op_lt : OpR X (compareOp .Lt) (rI0 fun i j => .bl (decide (i < j))) := opB0 fun _ _ _ _ _ _ _ q => lt_int q
theorem op_gt : OpR X (compareOp .Gt) (rI0 fun i j => .bl (decide (j < i))) := opB0 fun _ _ _ _ _ _ _ q => gt_int q
theorem op_in_str : OpR X (compareOp .In) (fun x y H Q => ∃ i j, x = .str i ∧ y = .str j ∧ Q (.bl (!(Builtin.Str.occurrences j i 0 j.length 1).isEmpty)) H) := by
  intro pins s σ H x y v u Q I rx ry h
  obtain ⟨i, j, rfl, rfl, q⟩ := h
  obtain ⟨t, rfl⟩ := rx
  obtain ⟨t', rfl⟩ := ry
  exact in_str (fin_bl I q rfl)
theorem op_notin_str : OpR X (compareOp .NotIn) (fun x y H Q => ∃ i j, x = .str i ∧ y = .str j ∧ Q (.bl (!(!(Builtin.Str.occurrences j i 0 j.length 1).isEmpty))) H) := by
  intro pins s σ H x y v u Q I rx ry h
  obtain ⟨i, j, rfl, rfl, q⟩ := h
  obtain ⟨t, rfl⟩ := rx
  obtain ⟨t', rfl⟩ := ry
  exact notIn_str (fin_bl I q rfl)
def isObj : HO → Bool
  | .lst _ => true
  | .ins _ _ _ => true
  | _ => false
theorem OpR.or {f : Value → Value → Sem Value} {r r' : R2} (h : OpR X f r) (h' : OpR X f r') : OpR X f (fun x y H Q => r x y H Q ∨ r' x y H Q) := by
  intro pins s σ H x y v u Q I rx ry q
  rcases q with q | q
  · exact h pins s σ H x y v u Q I rx ry q
  · exact h' pins s σ H x y v u Q I rx ry q
theorem nomark (b : Expr) {op : CmpOp} (h : op ≠ .In := by decide) (h2 : op ≠ .NotIn := by decide) : behindInMarks op b = false := by
  have e1 : (op == CmpOp.In) = false := by cases op <;> first | rfl | exact absurd rfl h
  have e2 : (op == CmpOp.NotIn) = false := by cases op <;> first | rfl | exact absurd rfl h2
  cases b <;> simp [behindInMarks, e1, e2]
theorem pe_cmpR {op : CmpOp} {r : R2} (ho : OpR X (compareOp op) r) (ha : PE X a ta) (hb : PE X b tb) (hm : behindInMarks op b = false) : PE X (.Compare a [op] [b] pos) (tOp r ta tb) := by
  intro pins s σ H Q I h
  exact wpAny_Compare1 (binT ha hb I h fun v u s2 x y H2 I2 rx ry q => ho pins s2 σ H2 x y v u Q I2 rx ry q) hm
def tTest (t : TE) : TT := fun σ H Q => t σ H fun x H' => ∃ k, x = .bl k ∧ Q k H'
theorem pt_cmpR {op : CmpOp} {r : R2} (ho : OpR X (compareOp op) r) (ha : PE X a ta) (hb : PE X b tb) (hm : behindInMarks op b = false) : PT X (.Compare a [op] [b] pos) (tTest (tOp r ta tb)) := by
  intro pins s σ H Q I h
  refine wpAny_isTrue_Compare1 (thn (ha pins s σ H _ I h) fun v s1 ⟨x, H1, I1, r1, q1⟩ => thn (hb pins s1 σ H1 _ I1 q1) fun u s2 ⟨y, H2, I2, r2, q2⟩ =>
    thn (ho pins s2 σ H2 x y v u _ I2 r1 r2 q2) fun c s3 ⟨z, H3, I3, r3, k, e, q3⟩ => ?_) hm
  subst e
  cases r3
  exact wpAny_truthy_bool ⟨H3, I3, q3⟩
def tChain (r r' : R2) (ta tb tc : TE) : TE := fun σ H Q => ta σ H fun x H1 => tb σ H1 fun y H2 => r x y H2 fun z H3 => ∃ k, z = .bl k ∧
  (if k = true then tc σ H3 fun w' H4 => r' y w' H4 Q else Q (.bl false) H3)
def TruV (K : PySem.W.Frag) (x : V) (H : Hp) (k : Bool) : Prop :=
  match x with
  | .non => k = false
  | .bl b => k = b
  | .int i => k = (i != 0)
  | .str y => y.length ≤ sizeLine ∧ k = ((y.length : Int) != 0)
  | .byt y => y.size ≤ sizeLine ∧ k = ((y.size : Int) != 0)
  | .ref p => (∃ xs, SqL K H p xs ∧ k = !xs.isEmpty) ∨ (∃ xs, SqT K H p xs ∧ k = !xs.isEmpty) ∨ ∃ kvs, H p = some (.dK kvs) ∧ k = !kvs.isEmpty
  | _ => False
theorem isEmpty_kv {κ : Type} {kvs : List (κ × V)} {vs : List (κ × Value)} (r : KV kvs vs) : (!vs.isEmpty) = !kvs.isEmpty := by
  cases r <;> rfl
theorem isEmpty_of {xs : List V} {its : List Value} (r : Vals xs its) : (!its.toArray.isEmpty) = !xs.isEmpty := by
  cases r <;> simp
theorem line63 : (sizeLine : Nat) < 2 ^ 63 := by rw [sizeLine_eq]; decide
theorem tru_ok : TruR X (fun x H Q => ∃ k, TruV X.K x H k ∧ Q k H) := by
  intro pins s σ H x v Q I rx h
  obtain ⟨k, e, q⟩ := h
  have hl := line63
  have hs : sizeLine = 16777216 := sizeLine_eq
  cases x with
  | non =>
    cases rx
    have e' : k = false := e
    subst e'
    exact truthy_none ⟨H, I, q⟩
  | bl b =>
    cases rx
    have e' : k = b := e
    subst e'
    exact wpAny_truthy_bool ⟨H, I, q⟩
  | int i =>
    obtain ⟨t, rfl⟩ := rx
    have e' : k = (i != 0) := e
    subst e'
    exact PySem.P.truthy_int ⟨H, I, q⟩
  | str y =>
    obtain ⟨t, rfl⟩ := rx
    obtain ⟨hy, e'⟩ : y.length ≤ sizeLine ∧ k = ((y.length : Int) != 0) := e
    subst e'
    exact PySem.P.truthy_str (by omega) ⟨H, I.tok _, q⟩
  | byt y =>
    obtain ⟨t, rfl⟩ := rx
    obtain ⟨hy, e'⟩ : y.size ≤ sizeLine ∧ k = ((y.size : Int) != 0) := e
    subst e'
    exact PySem.W.truthy_bytes (by omega) ⟨H, I.tok _, q⟩
  | ref p =>
    cases rx
    have e' : (∃ xs, SqL X.K H p xs ∧ k = !xs.isEmpty) ∨ (∃ xs, SqT X.K H p xs ∧ k = !xs.isEmpty) ∨ ∃ kvs, H p = some (.dK kvs) ∧ k = !kvs.isEmpty := e
    rcases e' with ⟨xs, hx, e'⟩ | ⟨xs, hx, e'⟩ | ⟨kvs, hx, e'⟩
    · subst e'
      obtain ⟨its, r, pl, hz⟩ := I.list hx
      have hlen := r.length
      exact wpAny_truthy_list pl.isList (by simp only [List.size_toArray]; omega) ⟨H, I.tok _, by rw [isEmpty_of r]; exact q⟩
    · subst e'
      obtain ⟨its, r, pl, hz⟩ := I.tuple hx
      have hlen := r.length
      exact truthy_tuple pl (by simp only [List.size_toArray]; omega) ⟨H, I.tok _, by rw [isEmpty_of r]; exact q⟩
    · subst e'
      obtain ⟨hz, hS, vs, r, m⟩ : kvs.length ≤ sizeLine ∧ (p == sysModules) = false ∧ ∃ vs, KV kvs vs ∧ s.heap.DictOf (mixKind X.prog X.w) p vs := I.hok p _ hx
      have hlen : kvs.length = vs.length := Paired.length r
      exact wpAny_truthy_dict hS m (by omega) ⟨H, I.tok _, by rw [isEmpty_kv r]; exact q⟩
  | _ => exact (show False from e).elim
theorem pt_truth (ha : PE X a ta) (he : ∀ whole, isTrue a X.env whole = (do let v ← whole; standAt a.pos; holding [v] (truthy v))) :
    PT X a (fun σ H Q => ta σ H fun x H' => ∃ k, TruV X.K x H' k ∧ Q k H') := by
  intro pins s σ H Q I h
  exact isTrue_plain (thn (ha pins s σ H _ I h) fun v s1 ⟨x, H1, I1, r1, q1⟩ => tru_ok pins s1 σ H1 x v Q I1 r1 q1) (he _)
theorem op_add_str : OpR X (binaryOp .Add) (fun x y H Q => ∃ i j, x = .str i ∧ y = .str j ∧ i.length + j.length ≤ sizeLine ∧ Q (.str (i ++ j)) H) := by
  intro pins s σ H x y v u Q I rx ry h
  obtain ⟨i, j, rfl, rfl, hz, q⟩ := h
  obtain ⟨t, rfl⟩ := rx
  obtain ⟨t', rfl⟩ := ry
  exact add_str (fun t' tk => ⟨.str (i ++ j), H, I.tok _, ⟨_, rfl⟩, q⟩) hz
def PlainIxT (b : Expr) : Prop := ∀ o i, subscripted b false o i = operate [o, i] (getItem o i)
theorem vals1 {x : V} {us : List Value} (r : Vals [x] us) : ∃ u, us = [u] ∧ RelV x u := by
  cases r with
  | cons r1 r2 => cases r2; exact ⟨_, rfl, r1⟩
theorem vals2 {x y : V} {us : List Value} (r : Vals [x, y] us) : ∃ u w', us = [u, w'] ∧ RelV x u ∧ RelV y w' := by
  cases r with
  | cons r1 r2 =>
    cases r2 with
    | cons r3 r4 => cases r4; exact ⟨_, _, rfl, r1, r3⟩
theorem call_int1 : CallR X (.type "int") (fun xs H Q => (∃ i, xs = [.int i] ∧ Q (.int i) H) ∨ ∃ k, xs = [.bl k] ∧ Q (.int (if k then 1 else 0)) H) := by
  intro pins s σ H xs us Q I r h
  rcases h with ⟨i, rfl, q⟩ | ⟨k, rfl, q⟩
  · obtain ⟨u, rfl, t, rfl⟩ := vals1 r
    exact call_int_int ⟨.int i, H, I, ⟨_, rfl⟩, q⟩
  · obtain ⟨u, rfl, r1⟩ := vals1 r
    cases r1
    exact call_int_bool ⟨.int (if k then 1 else 0), H, I.tok _, ⟨_, rfl⟩, q⟩
def LenV (K : PySem.W.Frag) (x : V) (H : Hp) (n : Nat) : Prop :=
  match x with
  | .str y => y.length ≤ sizeLine ∧ n = y.length
  | .byt y => y.size ≤ sizeLine ∧ n = y.size
  | .ref p => (∃ xs, SqL K H p xs ∧ n = xs.length) ∨ ∃ xs, SqT K H p xs ∧ n = xs.length
  | _ => False
theorem call_len : CallR X (.builtin "len") (fun xs H Q => ∃ x n, xs = [x] ∧ LenV X.K x H n ∧ Q (.int n) H) := by
  intro pins s σ H xs us Q I r h
  obtain ⟨x, n, rfl, e, q⟩ := h
  obtain ⟨u, rfl, rx⟩ := vals1 r
  have hl := line63
  have hs : sizeLine = 16777216 := sizeLine_eq
  cases x with
  | str y =>
    obtain ⟨t, rfl⟩ := rx
    obtain ⟨hy, e'⟩ : y.length ≤ sizeLine ∧ n = y.length := e
    subst e'
    exact len_str (by omega) ⟨.int _, H, I.tok _, ⟨_, rfl⟩, q⟩
  | byt y =>
    obtain ⟨t, rfl⟩ := rx
    obtain ⟨hy, e'⟩ : y.size ≤ sizeLine ∧ n = y.size := e
    subst e'
    exact PySem.W.len_bytes (by omega) ⟨.int _, H, I.tok _, ⟨_, rfl⟩, q⟩
  | ref p =>
    cases rx
    have e' : (∃ xs, SqL X.K H p xs ∧ n = xs.length) ∨ ∃ xs, SqT X.K H p xs ∧ n = xs.length := e
    rcases e' with ⟨xs, hx, e'⟩ | ⟨xs, hx, e'⟩
    · subst e'
      obtain ⟨its, r', pl, hz⟩ := I.list hx
      have hlen := r'.length
      exact Calls.call_len_list pl.isList (by simp only [List.size_toArray]; omega) ⟨.int xs.length, H, I.tok _, ⟨_, by simp only [List.size_toArray]; rw [hlen]⟩, q⟩
    · subst e'
      obtain ⟨its, r', pl, hz⟩ := I.tuple hx
      have hlen := r'.length
      exact len_tuple pl (by simp only [List.size_toArray]; omega) ⟨.int xs.length, H, I.tok _, ⟨_, by simp only [List.size_toArray]; rw [hlen]⟩, q⟩
  | _ => exact (show False from e).elim
end
end L2
namespace L2
open PySem PySem.Spec PyProof.Rows
structure ObjM (h : Heap) (x dx C : Addr) (mA : Str → Option Value) : Prop where
  obj : h.get? x = some (PySem.W.instObj C dx)
  ns : h.Ns1 dx mA
  ne : dx ≠ x
theorem lookIn_ns {h : Heap} {dx : Addr} {mA : Str → Option Value} (n : h.Ns1 dx mA) : ∃ od, h.get? dx = some od ∧ ∀ name, PySem.W.lookIn name od = some (mA name) := by
  obtain ⟨o, es, ep, ho, hd, hk, _, hm⟩ := n
  refine ⟨o, ho, fun name => ?_⟩
  have e := hm name
  unfold nsFind findBy at e
  rw [← Array.find?_toList] at e
  unfold PySem.W.lookIn
  rw [hd]
  dsimp only
  split
  · rename_i y q
    rw [q] at e
    exact congrArg some e
  · rename_i q
    rw [q] at e
    have a : es.toList.any (·.refKey) = false := by
      rw [List.any_eq_false]
      intro y hy
      obtain ⟨z, t, hkey⟩ := hk y (Array.mem_toList_iff.mp hy)
      simp [DictEntry.refKey, hkey]
    have a' : ¬ es.toList.any (·.refKey) = true := by rw [a]; exact Bool.false_ne_true
    rw [if_neg a']
    exact congrArg some e
theorem ObjM.look {h : Heap} {x dx C : Addr} {mA : Str → Option Value} (I : ObjM h x dx C mA) : ∃ od, PySem.W.InstAt h x (PySem.W.instObj C dx) C (some od) ∧ ∀ name, PySem.W.lookIn name od = some (mA name) :=
  let ⟨od, ho, hl⟩ := lookIn_ns I.ns
  ⟨od, ⟨I.obj, rfl, rfl, ho⟩, hl⟩
section
variable {prog : Program} {w : World} {A : Around} {E : Value → Shared → Prop} {s : Shared} {K : PySem.W.Frag} {x dx C f : Addr} {mA : Str → Option Value} {name : Str} {v : Value}
end
def putF (f : Str) (v : V) : List (Str × V) → List (Str × V)
  | [] => [(f, v)]
  | (g, x) :: r => if g = f then (g, v) :: r else (g, x) :: putF f v r
theorem RelO.none_of {o : Option Value} (r : RelO none o) : o = none := by
  cases o with
  | none => rfl
  | some u => exact (show False from r).elim
section
variable {P : Program} {w : World} {H H' : Hp} {h h' : Heap} {a C dx : Addr} {fs fs' : List (Str × V)}
theorem ins_get (hok : HOk P w H h) (e : H a = some (.ins C dx fs)) : ∃ mA, ObjM h a dx C mA ∧ (∀ f, RelO (fs.lookup f) (mA f)) ∧ PySem.Within mA (fs.map (·.1)) ∧ fs.length ≤ 1000 ∧ H dx = some (.own a) := by
  obtain ⟨d, z, ne, ob, mA, n, r, q⟩ := (show ObjOk P w H h a (.ins C dx fs) from hok a _ e)
  exact ⟨mA, ⟨ob, n, ne⟩, r, q, z, d⟩
end
structure Cls (K : PySem.W.Frag) (C : Addr) : Prop where
  pg : PySem.W.plainGet K C Str.empty = true
  hd : PySem.W.hasDictIn K C = true
  po : PySem.W.plainOver K C = true
  sa : PySem.W.findIn K (.ref C) "__setattr__" = some (some (.builtin "object.__setattr__"))
theorem Cls.get {K : PySem.W.Frag} {C : Addr} (c : Cls K C) (f : Str) : PySem.W.plainGet K C f = true := c.pg
def NoAttr (K : PySem.W.Frag) (C : Addr) (f : Str) : Prop := PySem.W.findIn K (.ref C) f = some none
structure Con (K : PySem.W.Frag) (C : Addr) (f : Str) (v : V) (u : Value) : Prop where
  at_ : PySem.W.findIn K (.ref C) f = some (some u)
  rel : RelV v u
  get : PySem.W.specialIn K u "__get__" = some none
  cp : PySem.W.copiedNames.contains f = false
structure Meth (K : PySem.W.Frag) (C : Addr) (m : Str) (f : Addr) : Prop where
  at_ : PySem.W.findIn K (.ref C) m = some (some (.ref f))
  fn : PySem.W.isFn K (.ref f) = true
  kp : PySem.W.keepIn K (.ref f) = true
section
variable {X : Cx} {pins : List (Addr × Obj)} {σ : St} {H : Hp} {s : Shared} {a C dx : Addr} {fs : List (Str × V)} {f : Str} {v : V} {A : Around} {E : Value → Shared → Prop}
theorem Inv.made (I : Inv X pins σ H s) : Inv X pins σ (upd (upd H s.heap.objs.size (.own (s.heap.objs.size + 1))) (s.heap.objs.size + 1) (.ins C s.heap.objs.size []))
    { s with heap := (s.heap.push PySem.W.emptyDict).push (PySem.W.instObj C s.heap.objs.size) } := by
  have e1 : (s.heap.push PySem.W.emptyDict).get? s.heap.objs.size = some PySem.W.emptyDict := Heap.get?_push_size s.heap rfl
  have e2 : ((s.heap.push PySem.W.emptyDict).push (PySem.W.instObj C s.heap.objs.size)).get? (s.heap.objs.size + 1) = some (PySem.W.instObj C s.heap.objs.size) := by
    have := Heap.get?_push_size (s.heap.push PySem.W.emptyDict) (o := PySem.W.instObj C s.heap.objs.size) rfl
    rwa [Heap.size_push] at this
  have e3 : (s.heap.push PySem.W.emptyDict).Ns s.heap.objs.size (fun _ => none) := ⟨PySem.W.emptyDict, #[], _, e1, rfl, (fun e he => absurd he (by simp)), fun _ => rfl⟩
  have I1 := I.laid (a := s.heap.objs.size) (o := .own (s.heap.objs.size + 1)) (h' := s.heap.push PySem.W.emptyDict) (t' := s.toks) (fun b u q => Heap.get?_push_of_some _ q) (Nat.le_refl _) ⟨_, e1⟩
  refine I1.laid (a := s.heap.objs.size + 1) (o := .ins C s.heap.objs.size []) (t' := s.toks) (fun b u q => Heap.get?_push_of_some _ q) (Nat.le_of_eq (Heap.size_push _ _)) ?_
  have ne : s.heap.objs.size ≠ s.heap.objs.size + 1 := Nat.ne_of_lt (Nat.lt_succ_self _)
  refine ⟨by rw [upd_ne ne, upd_same], Nat.zero_le _, ne, e2, fun _ => none, (Heap.Ns1.of_empty e3).at fun o q => Heap.get?_push_of_some _ q, fun _ => True.intro, fun y hy => absurd rfl hy⟩
end
def tFld (K : PySem.W.Frag) (ta : TE) (f : Str) : TE := fun σ H Q => ta σ H fun x H1 => ∃ a C dx fs v, x = .ref a ∧ H1 a = some (.ins C dx fs) ∧ Cls K C ∧ NoAttr K C f ∧ fs.lookup f = some v ∧ Q v H1
def tCon (K : PySem.W.Frag) (ta : TE) (f : Str) : TE := fun σ H Q => ta σ H fun x H1 => ∃ a C dx fs v u, x = .ref a ∧ H1 a = some (.ins C dx fs) ∧ Cls K C ∧ Con K C f v u ∧ fs.lookup f = none ∧ Q v H1
def sFld (K : PySem.W.Frag) (ta tv : TE) (f : Str) : TS := fun D σ H => tv σ H fun y H1 => ta σ H1 fun x H2 => ∃ a C dx fs, x = .ref a ∧ H2 a = some (.ins C dx fs) ∧ Cls K C ∧ NoAttr K C f ∧ fs.length < 1000 ∧
  D.nx σ (upd H2 a (.ins C dx (putF f y fs)))
def InOp (X : Cx) (op : Operator) (rd : V → V → Hp → VK → Prop) : Prop :=
  ∀ (pins : List (Addr × Obj)) (s : Shared) (σ : St) (H : Hp) (x y : V) (u v : Value) (Q : VK), Inv X pins σ H s → RelV x u → RelV y v → rd x y H Q → wpAny (model X.prog X.w) X.A (inplaceOp op u v) (EP X pins σ Q) X.xe s
def sFldAug (K : PySem.W.Frag) (ta tv : TE) (rd : V → V → Hp → VK → Prop) (f : Str) : TS := fun D σ H => ta σ H fun x H1 => ∃ a C dx fs v, x = .ref a ∧ H1 a = some (.ins C dx fs) ∧ Cls K C ∧ NoAttr K C f ∧ fs.lookup f = some v ∧
  tv σ H1 fun y H2 => rd v y H2 fun z H3 => ∃ dx' fs', H3 a = some (.ins C dx' fs') ∧ fs'.length < 1000 ∧ D.nx σ (upd H3 a (.ins C dx' (putF f z fs')))
section
variable {X : Cx} {o e value : Expr} {f : Str} {pos pos' tpos : Pos} {ta tv : TE}
def rAdd : V → V → Hp → VK → Prop := fun x y H Q => ∃ i j, x = .int i ∧ y = .int j ∧ Q (.int (i + j)) H
def rSub : V → V → Hp → VK → Prop := fun x y H Q => ∃ i j, x = .int i ∧ y = .int j ∧ Q (.int (i - j)) H
end
section
variable {X : Cx} {pins : List (Addr × Obj)} {σ : St} {H : Hp} {s : Shared} {A : Around} {E : Value → Shared → Prop} {Q : Value → Shared → Prop} {c : Value} {b : Bool}
inductive TyOf (K : PySem.W.Frag) (H : Hp) : V → Value → Prop where
  | non : TyOf K H .non (.type "NoneType")
  | bl (x : Bool) : TyOf K H (.bl x) (.type "bool")
  | int (i : Int) : TyOf K H (.int i) (.type "int")
  | str (x : Str) : TyOf K H (.str x) (.type "str")
  | flt (x : UInt64) : TyOf K H (.flt x) (.type "float")
  | lst {a : Addr} {xs : List V} (e : H a = some (.lst xs)) : TyOf K H (.ref a) (.type "list")
  | frz {a : Addr} {o : Obj} {xs : List V} (e : H a = some (.frz o (.lst xs))) : TyOf K H (.ref a) (.type "list")
  | tup {a : Addr} {xs : List V} (e : H a = some (.tup xs)) : TyOf K H (.ref a) (.type "tuple")
  | dK {a : Addr} {kvs : List (Key × V)} (e : H a = some (.dK kvs)) : TyOf K H (.ref a) (.type "dict")
  | dT {a : Addr} {kvs : List (List Key × V)} (e : H a = some (.dT kvs)) : TyOf K H (.ref a) (.type "dict")
  | ins {a C dx : Addr} {fs : List (Str × V)} (e : H a = some (.ins C dx fs)) (cl : Cls K C) (ha : PySem.W.findIn K (.ref C) "__class__" = some (some (.builtin "object.__class__")))
      (hn : PySem.W.specialIn K (.builtin "object.__class__") "__get__" = some (some (.builtin "getset_descriptor.__get__"))) (htk : PySem.W.takesIn K (.builtin "object.__class__") = some true)
      (hm : PySem.W.mroIn K C (.type "object") = some true) : TyOf K H (.ref a) (.ref C)
theorem isinst_ok {x : V} {u t : Value} (I : Inv X pins σ H s) (rx : RelV x u) (ty : TyOf X.K H x t) (e : PySem.W.kitOne X.K t c = some b) (h : ∀ tk, Q (.bool b) { s with toks := tk }) :
    wpAny (model X.prog X.w) A (call (.builtin "isinstance") [u, c]) Q E s := by
  cases ty with
  | non => cases (show u = Value.none from rx); exact PySem.W.kia_one PySem.W.kitx_none I.kIn True.intro e (fun z => nomatch z) h
  | bl y => cases (show u = Value.bool y from rx); exact PySem.W.kia_one PySem.W.kitx_bool I.kIn True.intro e (fun z => nomatch z) h
  | int i => obtain ⟨t, q⟩ := (show ∃ t, u = Value.int i t from rx); cases q; exact PySem.W.kia_one PySem.W.kitx_int I.kIn True.intro e (fun z => nomatch z) h
  | str y => obtain ⟨t, q⟩ := (show ∃ t, u = Value.str y t from rx); cases q; exact PySem.W.kia_one PySem.W.kitx_str I.kIn True.intro e (fun z => nomatch z) h
  | flt y => obtain ⟨t, q⟩ := (show ∃ t, u = Value.float y t from rx); cases q; exact PySem.W.kia_one PySem.W.kitx_float I.kIn True.intro e (fun z => nomatch z) h
  | @lst a xs ea =>
    cases (show u = Value.ref a from rx)
    obtain ⟨_, _, n, _, h1⟩ := (show ObjOk X.prog X.w H s.heap a (.lst xs) from I.hok a _ ea)
    exact PySem.W.kia_one PySem.W.kitx_list I.kIn ⟨_, h1, rfl⟩ e (fun z => nomatch z) h
  | @frz a ob xs ea =>
    cases (show u = Value.ref a from rx)
    obtain ⟨_, _, _, n, _, h1⟩ := (show ObjOk X.prog X.w H s.heap a (.frz ob (.lst xs)) from I.hok a _ ea)
    exact PySem.W.kia_one PySem.W.kitx_list I.kIn ⟨_, h1, rfl⟩ e (fun z => nomatch z) h
  | @tup a xs ea =>
    cases (show u = Value.ref a from rx)
    obtain ⟨_, _, _, p⟩ := (show ObjOk X.prog X.w H s.heap a (.tup xs) from I.hok a _ ea)
    obtain ⟨o, h1, h2, _⟩ := p
    exact PySem.W.kia_one PySem.W.kitx_tuple I.kIn ⟨o, h1, h2⟩ e (fun z => nomatch z) h
  | @dK a kvs ea =>
    cases (show u = Value.ref a from rx)
    obtain ⟨_, _, vs, _, p⟩ := (show ObjOk X.prog X.w H s.heap a (.dK kvs) from I.hok a _ ea)
    obtain ⟨o, es, ep, h1, h2, _⟩ := p
    exact PySem.W.kia_one PySem.W.kitx_dict I.kIn ⟨o, h1, h2.1⟩ e (fun z => nomatch z) h
  | @dT a kvs ea =>
    cases (show u = Value.ref a from rx)
    obtain ⟨_, _, xs, _, o, es, ep, h1, h2, _⟩ := (show ObjOk X.prog X.w H s.heap a (.dT kvs) from I.hok a _ ea)
    exact PySem.W.kia_one PySem.W.kitx_dict I.kIn ⟨o, h1, h2.1⟩ e (fun z => nomatch z) h
  | @ins a C dx fs ea cl ha hn htk hm =>
    cases (show u = Value.ref a from rx)
    obtain ⟨mA, O, _⟩ := ins_get I.hok ea
    obtain ⟨od, J, _⟩ := O.look
    exact PySem.W.kia_one (PySem.W.kitx_own (cl.get _) cl.hd ha hn htk hm) I.kIn J e (fun z => nomatch z) h
end
end L2
namespace L2
open PySem PySem.Spec PyProof.Rows
structure Room (k : Nat) (A : Around) : Prop where
  hd : A.handled = none
  dp : A.depth + 3 * k + 5 < recursionLimit
  un : A.units + 16 * k + 200 < cLine
theorem Room.mono {j k : Nat} {A : Around} (r : Room k A) (h : j ≤ k) : Room j A := ⟨r.hd, by have := r.dp; omega, by have := r.un; omega⟩
theorem Room.deeper {k : Nat} {A : Around} (r : Room (k + 1) A) (env : Env) : Room k (A.deeper env) :=
  ⟨r.hd, by have := r.dp; show A.depth + 1 + 3 * k + 5 < _; omega, by have := r.un; show A.units + 3 + 16 * k + 200 < _; omega⟩
theorem Room.in1 {k : Nat} {A : Around} (r : Room (k + 1) A) : Room k A.in1 :=
  ⟨r.hd, by have := r.dp; show A.depth + 3 * k + 5 < _; omega, by have := r.un; show A.units + 1 + 16 * k + 200 < _; omega⟩
theorem make_depth {A : Around} {C : Addr} {us : List Value} {kw : List (Str × Value)} : (A.under (.builtin "type.__call__" ⟨.ref C :: us, kw⟩)).depth = A.depth + 1 := by
  first | rfl | simp [Around.under, Code.weight, Code.isCreation, Code.isGuard, Code.isCaller, Code.frames, Code.isFrame, guardIds]
theorem make_units {A : Around} {C : Addr} {us : List Value} {kw : List (Str × Value)} : (A.under (.builtin "type.__call__" ⟨.ref C :: us, kw⟩)).units = A.units + 1 := by
  first | rfl | simp [Around.under, Code.cUnits, Code.frames, Code.isFrame]
theorem Room.make {k : Nat} {A : Around} (r : Room (k + 1) A) (C : Addr) (us : List Value) (kw : List (Str × Value)) : Room k (A.under (.builtin "type.__call__" ⟨.ref C :: us, kw⟩)) :=
  ⟨r.hd, by have := r.dp; rw [make_depth]; omega, by have := r.un; rw [make_units]; omega⟩
theorem Room.depth {k : Nat} {A : Around} (r : Room k A) : A.depth < recursionLimit := by have := r.dp; omega
theorem Room.units {k : Nat} {A : Around} (r : Room k A) : A.units + 64 < cLine := by have := r.un; omega
def tNil : TA := fun _ H Q => Q [] H
def tCons (ta : TE) (tr : TA) : TA := fun σ H Q => ta σ H fun x H1 => tr σ H1 fun xs H2 => Q (x :: xs) H2
section
variable {X : Cx} {e : Expr} {es : List Expr} {te : TE} {t : TA} {pos : Pos}
theorem pa_nil : PA X [] tNil := fun _ _ _ _ H Q I h => Calls.spliced_nil ⟨[], H, I, .nil, h⟩
theorem pa_cons (ha : PE X e te) (hr : PA X es t) (hs : starEach (e :: es) X.env = (false, eval e X.env) :: starEach es X.env := by rfl) : PA X (e :: es) (tCons te t) := by
  intro pos pins s σ H Q I h
  rw [hs]
  show wpAny _ _ (spliced ((false, eval e X.env) :: backTo pos (starEach es X.env))) _ _ s
  refine Calls.spliced_cons (thn (ha pins s σ H _ I h) fun u s1 ⟨x, H1, I1, r1, q1⟩ => ?_)
  exact thn (hr pos pins s1 σ H1 _ I1 q1) fun us s2 ⟨xs, H2, I2, r2, q2⟩ => ⟨x :: xs, H2, I2, .cons r1 r2, q2⟩
def tTup (t : TA) : TE := fun σ H Q => t σ H fun xs H1 => xs.length ≤ sizeLine ∧ ∀ p, H1 p = none → Q (.ref p) (upd H1 p (.tup xs))
def tLst (t : TA) : TE := fun σ H Q => t σ H fun xs H1 => xs.length ≤ sizeLine ∧ ∀ p, H1 p = none → Q (.ref p) (upd H1 p (.lst xs))
theorem pe_tup {x1} (h : PA X es t) : PE X (.Tuple es x1 pos) (tTup t) := by
  intro pins s σ H Q I hq
  refine wpAny_Tuple_spliced (thn (h pos pins s σ H _ I hq) fun us s1 ⟨xs, H1, I1, r, z, q⟩ => ⟨by rw [← r.length]; exact z, ?_⟩)
  have hf : H1 s1.heap.objs.size = none := I1.hok.fresh (Nat.le_refl _)
  refine ⟨.ref s1.heap.objs.size, upd H1 s1.heap.objs.size (.tup xs), I1.laid (t' := s1.toks) (fun b u e => Heap.get?_push_of_some _ e) (Nat.le_refl _) ?_, rfl, q _ hf⟩
  exact ⟨z, us, r, ⟨_, Heap.get?_push_size _ rfl, rfl, _, rfl⟩⟩
theorem pe_lst (h : PA X es t) : PE X (.List es pos) (tLst t) := by
  intro pins s σ H Q I hq
  refine wpAny_List_spliced (thn (h pos pins s σ H _ I hq) fun us s1 ⟨xs, H1, I1, r, z, q⟩ => ⟨by rw [← r.length]; exact z, ?_⟩)
  have hf : H1 s1.heap.objs.size = none := I1.hok.fresh (Nat.le_refl _)
  refine ⟨.ref s1.heap.objs.size, upd H1 s1.heap.objs.size (.lst xs), I1.laid (t' := s1.toks) (fun b u e => Heap.get?_push_of_some _ e) (Nat.le_refl _) ?_, rfl, q _ hf⟩
  exact ⟨z, us, 0, r, Heap.get?_push_size _ rfl⟩
end
abbrev Sp := List V → Hp → VK → XK → Prop
abbrev CXT := List Env → Hp → Shared → XK → Value → Shared → Prop
structure Env0 (P : Program) (w : World) (K : PySem.W.Frag) (mg : Str → Option Value) (base : Heap) (A : Around) (outer : List Env) (s : Shared) (H : Hp) : Prop where
  frames : A.frames = some outer
  mod : Mod K mg base
  bs : ∀ b o, base.get? b = some o → s.heap.get? b = some o ∧ H b = none
  bsz : base.objs.size ≤ s.heap.objs.size
  funs : s.heap.FunFrames base outer
  frf : ∀ b ∈ frs outer, H b = none
  hok : HOk P w H s.heap
  bare : AllBare s.gens
def CE (outer : List Env) (P : Program) (w : World) (H : Hp) (s : Shared) (Q : VK) (u : Value) (s' : Shared) : Prop :=
  ∃ v H', s'.os = s.os ∧ AllBare s'.gens ∧ Un (frs outer) [] H H' s.heap s'.heap ∧ HOk P w H' s'.heap ∧ RelV v u ∧ Q v H'
def CR (CX : CXT) (outer : List Env) (P : Program) (w : World) (H : Hp) (s : Shared) (Q : VK) (E : XK) (r : Result) (s' : Shared) : Prop :=
  match r with
  | .ok (.ret u) => CE outer P w H s Q u s'
  | .ok _ => False
  | .error e => CX outer H s E e s'
structure FnOk (P : Program) (w : World) (K : PySem.W.Frag) (mg : Str → Option Value) (base : Heap) (CX : CXT) (k : Nat) (f : Addr) (fd : FuncData) (ps : List Str) (sp : Sp) : Prop where
  len : ∀ vs H Q E, sp vs H Q E → vs.length = ps.length
  run : ∀ (A : Around) (outer : List Env) (s : Shared) (H : Hp) (args : Args) (us : List Value) (vs : List V) (Q : VK) (E : XK), Room k A → Env0 P w K mg base A outer s H → BindsTo s fd args (ps.zip us) → Vals vs us → sp vs H Q E →
    codeAny (model P w) A (.call (.ref f) args) (CR CX outer P w H s Q E) s
theorem FnOk.mono {P : Program} {w : World} {K : PySem.W.Frag} {mg : Str → Option Value} {base : Heap} {CX : CXT} {j k : Nat} {f : Addr} {fd : FuncData} {ps : List Str} {sp : Sp} (F : FnOk P w K mg base CX j f fd ps sp) (h : j ≤ k) :
    FnOk P w K mg base CX k f fd ps sp := ⟨F.len, fun A outer s H args us vs Q E hr => F.run A outer s H args us vs Q E (hr.mono h)⟩
theorem FnOk.imp {P : Program} {w : World} {K : PySem.W.Frag} {mg : Str → Option Value} {base : Heap} {CX : CXT} {k : Nat} {f : Addr} {fd : FuncData} {ps : List Str} {sp sp' : Sp} (F : FnOk P w K mg base CX k f fd ps sp)
    (h : ∀ vs H Q E, sp' vs H Q E → sp vs H Q E) : FnOk P w K mg base CX k f fd ps sp' :=
  ⟨fun vs H Q E q => F.len vs H Q E (h _ _ _ _ q), fun A outer s H args us vs Q E hr he hb hv hs => F.run A outer s H args us vs Q E hr he hb hv (h _ _ _ _ hs)⟩
theorem Env0.make {P : Program} {w : World} {K : PySem.W.Frag} {mg : Str → Option Value} {base : Heap} {A : Around} {outer : List Env} {s : Shared} {H : Hp} (e : Env0 P w K mg base A outer s H) (C : Addr) (us : List Value) (kw : List (Str × Value)) :
    Env0 P w K mg base (A.under (.builtin "type.__call__" ⟨.ref C :: us, kw⟩)) outer s H := ⟨by first | exact e.frames | (simpa [Around.under, Code.envs, Code.isFrame, pushEnvs] using e.frames), e.mod, e.bs, e.bsz, e.funs, e.frf, e.hok, e.bare⟩
theorem Env0.in1 {P : Program} {w : World} {K : PySem.W.Frag} {mg : Str → Option Value} {base : Heap} {A : Around} {outer : List Env} {s : Shared} {H : Hp} (e : Env0 P w K mg base A outer s H) :
    Env0 P w K mg base A.in1 outer s H := ⟨e.frames, e.mod, e.bs, e.bsz, e.funs, e.frf, e.hok, e.bare⟩
section
variable {X : Cx} {pins : List (Addr × Obj)} {σ : St} {H : Hp} {s s' : Shared}
theorem Inv.env0 (I : Inv X pins σ H s) : Env0 X.prog X.w X.K X.mg X.base X.A X.stack s H :=
  ⟨I.ok.frames, I.ok.mod, I.bs, Nat.le_trans I.ok.bsz I.sz, I.stack, I.stkFree, I.hok, I.bare⟩
theorem Inv.after {Q : VK} {u : Value} (I : Inv X pins σ H s) (h : CE X.stack X.prog X.w H s Q u s') : EP X pins σ Q u s' := by
  obtain ⟨v, H', os, bare, un, hok, r, q⟩ := h
  obtain ⟨hh, g, d, t, os'⟩ := s'
  obtain rfl : os' = s.os := os
  exact ⟨v, H', I.call (h' := hh) (g' := g) (d' := d) (t' := t) (ch := []) un hok bare (fun b z => absurd z (by simp)), r, q⟩
end
def tCall (sp : Sp) (dvs : List V) (E : XK) (t : TA) : TE := fun σ H Q => t σ H fun vs H1 => sp (vs ++ dvs) H1 Q E
def tMeth (C : Addr) (m : Str) (sp : Sp) (dvs : List V) (E : XK) (ta : TE) (t : TA) : TE := fun σ H Q => ta σ H fun x H1 => ∃ a dx fs, x = .ref a ∧ H1 a = some (.ins C dx fs) ∧ fs.lookup m = none ∧
  t σ H1 fun vs H2 => sp (x :: (vs ++ dvs)) H2 Q E
def tMake (C : Addr) (sp : Sp) (dvs : List V) (E : XK) (t : TA) : TE := fun σ H Q => t σ H fun vs H1 => ∀ x dx, H1 x = none → H1 dx = none → dx ≠ x →
  sp (.ref x :: (vs ++ dvs)) (upd (upd H1 dx (.own x)) x (.ins C dx [])) (fun v H2 => v = .non ∧ Q (.ref x) H2) E
def Binds (K : PySem.W.Frag) (fd : FuncData) (ps : List Str) (ds : List Value) : Prop :=
  ∀ (s : Shared) (us : List Value), K.In s.heap → (us ++ ds).length = ps.length → BindsTo s fd ⟨us, []⟩ (ps.zip (us ++ ds))
theorem Binds.all {K : PySem.W.Frag} {fd : FuncData} {ps : List Str} (h : ∀ us : List Value, us.length = ps.length → bindArgs fd ⟨us, []⟩ = pure (ps.zip us)) : Binds K fd ps [] := fun s us _ hl => by
  rw [List.append_nil] at hl ⊢
  exact .of_eq (h us hl)
def Passes (CX : CXT) (X : Cx) (E : XK) : Prop := ∀ (pins : List (Addr × Obj)) (σ : St) (H : Hp) (s : Shared) (e : Value) (s' : Shared), Inv X pins σ H s → CX X.stack H s E e s' → X.xe e s'
section
variable {X : Cx} {CX : CXT} {k : Nat} {f C : Addr} {fd : FuncData} {ps : List Str} {sp : Sp} {dvs : List V} {ds : List Value} {E : XK} {x m : Str} {p pos apos : Pos} {e o : Expr} {es : List Expr} {ta : TE} {t : TA}
theorem run_fn {pins : List (Addr × Obj)} {σ : St} {H : Hp} {s : Shared} {Q : VK} {us : List Value} {vs : List V} (F : FnOk X.prog X.w X.K X.mg X.base CX k f fd ps sp) (hr : Room k X.A) (hb : Binds X.K fd ps ds) (hd : Vals dvs ds) (hx : Passes CX X E)
    (I : Inv X pins σ H s) (r : Vals vs us) (h : sp (vs ++ dvs) H Q E) : wpAny (model X.prog X.w) X.A (call (.ref f) us) (EP X pins σ Q) X.xe s := by
  have r2 : Vals (vs ++ dvs) (us ++ ds) := r.append hd
  have hl : (us ++ ds).length = ps.length := by rw [← r2.length]; exact F.len _ _ _ _ h
  refine wpAny_call (codeAny_mono (F.run X.A X.stack s H ⟨us, []⟩ (us ++ ds) (vs ++ dvs) Q E hr I.env0 (hb s us I.kIn hl) r2 h) fun r s' hq => ?_)
  cases r with
  | error e => exact hx pins σ H s e s' I hq
  | ok fl =>
    cases fl with
    | ret u => exact I.after hq
    | next => exact False.elim hq
    | brk => exact False.elim hq
    | cont => exact False.elim hq
theorem pe_call (F : FnOk X.prog X.w X.K X.mg X.base CX k f fd ps sp) (hr : Room k X.A) (hg : Gl X x) (hm : X.mg x = some (.ref f)) (hk : PySem.W.keepIn X.K (.ref f) = true) (hb : Binds X.K fd ps ds) (hd : Vals dvs ds) (hx : Passes CX X E)
    (ha : PA X (e :: es) t) (hdb : (x == ("__debug__" : Str)) = false := by decide) (he : starEach (e :: es) X.env = (false, eval e X.env) :: starEach es X.env := by rfl) (hpl : (backTo pos (starEach es X.env)).any (·.1) = false := by rfl) :
    PE X (.Call (.Name x p) (e :: es) [] pos) (tCall sp dvs E t) := by
  intro pins s σ H Q I h
  refine wpAny_Call_Name_kw (ld_glob I hg hm ?_ hdb)
  refine PySem.W.callWith_K (h₀ := X.base) I.ok.mod.kin hk (thn (ha pos pins s σ H _ I h) fun us s1 ⟨vs, H1, I1, r, q⟩ => ⟨I1.kIn, ?_⟩) he hpl
  exact run_fn F hr hb hd hx I1 r q
structure Mk (K : PySem.W.Frag) (C f : Addr) : Prop where
  makes : PySem.W.makesIn K C = true
  init : PySem.W.findIn K (.ref C) "__init__" = some (some (.ref f))
  fn : PySem.W.isFn K (.ref f) = true
  kp : PySem.W.keepIn K (.ref C) = true
end
def PK (X : Cx) (kws : List Keyword) (t : TA) : Prop :=
  ∀ (pos : Pos) (pins : List (Addr × Obj)) (s : Shared) (σ : St) (H : Hp) (Q : List V → Hp → Prop), Inv X pins σ H s → t σ H Q → wpAny (model X.prog X.w) X.A (evalAll ((backToKw pos (keywordEach kws X.env)).map (·.2))) (AP X pins σ Q) X.xe s
section
variable {X : Cx} {CX : CXT} {k : Nat} {f C : Addr} {fd : FuncData} {ps ks : List Str} {sp : Sp} {E : XK} {x m : Str} {p pos apos kpos : Pos} {e o : Expr} {es : List Expr} {kws : List Keyword} {te ta : TE} {t tk : TA} {nm : Option Str}
structure KBinds (K : PySem.W.Frag) (fd : FuncData) (ps ks : List Str) (g : List Value → List Value → List Value) (gV : List V → List V → List V) : Prop where
  to : ∀ (s : Shared) (us ws : List Value), K.In s.heap → (g us ws).length = ps.length → BindsTo s fd ⟨us, ks.zip ws⟩ (ps.zip (g us ws))
  rel : ∀ {vs : List V} {us : List Value} {zs : List V} {ws : List Value}, Vals vs us → Vals zs ws → Vals (gV vs zs) (g us ws)
def tCallK (sp : Sp) (gV : List V → List V → List V) (E : XK) (t tk : TA) : TE := fun σ H Q => t σ H fun vs H1 => tk σ H1 fun zs H2 => sp (gV vs zs) H2 Q E
variable {g : List Value → List Value → List Value} {gV : List V → List V → List V}
end
structure FnScope (N P : List Str) (sc : Scope) : Prop where
  kind : sc.kind = .function
  co : sc.isCoroutine = false
  gen : sc.isGenerator = false
  nd : N.Nodup
  pre : N.take P.length = P
  par : ∀ x ∈ P, sc.names.lookup x = some .local ∨ sc.names.lookup x = some .cell
  nofree : ∀ y ∈ sc.names, y.2 ≠ .free
theorem bindL_out {kindOf : Str → Option NameKind} {x : Str} : ∀ {binds : List (Str × Value)} {m : Str → Option Value}, (∀ v, (x, v) ∉ binds) → bindL kindOf binds m x = m x
  | [], _, _ => rfl
  | (n, v) :: r, m, h => by
    unfold bindL
    rw [bindL_out fun w hw => h w (List.mem_cons_of_mem _ hw)]
    split
    · have : x ≠ n := by rintro rfl; exact h v List.mem_cons_self
      simp [this]
    · rfl
theorem bindC_out {kindOf : Str → Option NameKind} {x : Str} : ∀ {binds : List (Str × Value)} {m : Str → Option Value}, (∀ v, (x, v) ∉ binds) → bindC kindOf binds m x = m x
  | [], _, _ => rfl
  | (n, v) :: r, m, h => by
    unfold bindC
    rw [bindC_out fun w hw => h w (List.mem_cons_of_mem _ hw)]
    split
    · rfl
    · have : x ≠ n := by rintro rfl; exact h v List.mem_cons_self
      simp [this]
theorem bindL_get {kindOf : Str → Option NameKind} {x : Str} {v : Value} : ∀ {P : List Str} {vs : List Value} {i : Nat} {m : Str → Option Value}, P.Nodup → P[i]? = some x → vs[i]? = some v → kindOf x = some .local →
    bindL kindOf (P.zip vs) m x = some v
  | [], _, _, _, _, h, _, _ => by simp at h
  | _ :: _, [], _, _, _, _, h, _ => by simp at h
  | p :: P, w :: vs, 0, m, nd, h1, h2, hk => by
    simp at h1 h2; subst h1; subst h2
    show bindL kindOf ((p, w) :: P.zip vs) m p = _
    unfold bindL
    rw [bindL_out fun v hv => (List.nodup_cons.mp nd).1 (List.of_mem_zip hv).1, if_pos hk]
    simp
  | p :: P, w :: vs, i + 1, m, nd, h1, h2, hk => by
    show bindL kindOf ((p, w) :: P.zip vs) m x = _
    unfold bindL
    exact bindL_get (i := i) (List.nodup_cons.mp nd).2 (by simpa using h1) (by simpa using h2) hk
theorem bindC_get {kindOf : Str → Option NameKind} {x : Str} {v : Value} : ∀ {P : List Str} {vs : List Value} {i : Nat} {m : Str → Option Value}, P.Nodup → P[i]? = some x → vs[i]? = some v → kindOf x ≠ some .local →
    bindC kindOf (P.zip vs) m x = some v
  | [], _, _, _, _, h, _, _ => by simp at h
  | _ :: _, [], _, _, _, _, h, _ => by simp at h
  | p :: P, w :: vs, 0, m, nd, h1, h2, hk => by
    simp at h1 h2; subst h1; subst h2
    show bindC kindOf ((p, w) :: P.zip vs) m p = _
    unfold bindC
    rw [bindC_out fun v hv => (List.nodup_cons.mp nd).1 (List.of_mem_zip hv).1, if_neg hk]
    simp
  | p :: P, w :: vs, i + 1, m, nd, h1, h2, hk => by
    show bindC kindOf ((p, w) :: P.zip vs) m x = _
    unfold bindC
    exact bindC_get (i := i) (List.nodup_cons.mp nd).2 (by simpa using h1) (by simpa using h2) hk
def start (N : List Str) (vs : List V) : St := vs.map some ++ List.replicate (N.length - vs.length) none
def cxOf (CX : CXT) (P : Program) (w : World) (K : PySem.W.Frag) (mg : Str → Option Value) (base : Heap) (N : List Str) (qual : Str) (scope : Scope) (f : Addr) (cd : Value) (A : Around) (outer : List Env) (s : Shared) (H : Hp) (E : XK) : Cx where
  prog := P
  w := w
  K := K
  mg := mg
  base := base
  A := A.deeper (envOfC qual scope s.heap.objs.size f cd)
  N := N
  s₀ := s
  H₀ := H
  env := envOfC qual scope s.heap.objs.size f cd
  outer := outer
  stack := envOfC qual scope s.heap.objs.size f cd :: outer
  ex := []
  calm := true
  fn := fun _ => true
  pn := []
  xe := fun e s' => wpAny (model P w) (A.deeper (envOfC qual scope s.heap.objs.size f cd)) (leaving (envOfC qual scope s.heap.objs.size f cd) e) (fun _ s'' => CX outer H s E e s'') (fun e' s'' => CX outer H s E e' s'') s'
theorem cell_has {sc : Scope} {n : Nat} {x : Str} (h : sc.names.lookup x = some .cell) : ∃ c, (cellsFrom n sc.names []).lookup x = some c := by
  have q := PySem.W.cellsFrom_some sc.names n [] (.inl h)
  exact Option.isSome_iff_exists.mp q
theorem inv_start {CX : CXT} {P : Program} {w : World} {K : PySem.W.Frag} {mg : Str → Option Value} {base : Heap} {N ps : List Str} {qual : Str} {scope : Scope} {f : Addr} {cd : Value} {A : Around} {outer : List Env} {s s1 : Shared} {H : Hp} {E : XK} {us : List Value} {vs : List V}
    (S : FnScope N ps scope) (hd : A.handled = none) (e0 : Env0 P w K mg base A outer s H) (hl : vs.length = ps.length) (r : Vals vs us)
    (x : InCallC s s.heap.objs.size (bindL (envOfC qual scope s.heap.objs.size f cd).kindOf (ps.zip us) fun _ => none) (cellsFrom (s.heap.objs.size + 1) scope.names []) (bindC (envOfC qual scope s.heap.objs.size f cd).kindOf (ps.zip us) fun _ => none) s1) :
    Inv (cxOf CX P w K mg base N qual scope f cd A outer s H E) [] (start N vs) H s1 := by
  have hpl : ps.length ≤ N.length := by have := congrArg List.length S.pre; rw [List.length_take] at this; omega
  obtain ⟨h1, tk, rfl, hk⟩ := x.done
  have noA : ∀ b : Addr, b ∉ (cxOf CX P w K mg base N qual scope f cd A outer s H E).ex := fun b z => absurd (show b ∈ ([] : List Addr) from z) (by simp)
  refine ⟨⟨e0.mod, S.kind, rfl, rfl, Nat.le_refl _, fun y z c h1 h2 => ?_, fun y hy => ?_, fun y c _ h => ?_, fun _ => hd, Around.frames_deeper e0.frames, .inr ⟨rfl, rfl⟩, fun b z => absurd z (noA b), e0.bs, e0.bsz, fun b _ _ => noA b, fun b z => absurd z (noA b), e0.funs, e0.frf⟩,
    rfl, e0.bare, Un.kept hk, ⟨_, x.toInCall.ns, fun i y v h1 h2 h3 => ?_⟩, fun y c h => ⟨_, x.cell y c h⟩, e0.hok.fresh (Nat.le_refl _), fun y c h => ?_, fun p hp => absurd (show p ∈ ([] : List (Addr × Obj)) from hp) (by simp), e0.hok.kept hk, ?_⟩
  · exact name_of_addr x.apart (PySem.mem_of_lookup h1) (PySem.mem_of_lookup h2)
  · have hy : scope.names.lookup y = some .cell ∨ scope.names.lookup y = some .free := hy
    rcases hy with hy | hy
    · exact cell_has hy
    · exact absurd rfl (S.nofree _ (PySem.mem_of_lookup hy))
  · exact Nat.le_of_lt (x.above y c (PySem.mem_of_lookup h))
  · have hi : i < vs.length := by
      unfold start at h2
      by_cases hi : i < vs.length
      · exact hi
      · rw [List.getElem?_append_right (by simpa using hi)] at h2
        rw [List.getElem?_replicate] at h2
        split at h2 <;> cases h2
    have ha : vs[i]? = some v := by
      unfold start at h2
      rw [List.getElem?_append_left (by simpa using hi), List.getElem?_map] at h2
      cases e : vs[i]? with
      | none => rw [e] at h2; cases h2
      | some a => rw [e] at h2; cases h2; rfl
    obtain ⟨u, hu, rv⟩ := r.get ha
    have hp : ps[i]? = some y := by
      rw [← S.pre, List.getElem?_take_of_lt (by omega)]; exact h1
    have ndP : ps.Nodup := by rw [← S.pre]; exact S.nd.sublist (List.take_sublist _ _)
    refine ⟨u, rv, ?_⟩
    rcases S.par y (List.mem_of_getElem? hp) with k | k
    · exact .inl ⟨k, bindL_get ndP hp hu k⟩
    · obtain ⟨c, e⟩ := cell_has (n := s.heap.objs.size + 1) k
      refine .inr ⟨.inl k, c, e, ?_⟩
      have q := x.cell y c e
      rw [bindC_get ndP hp hu (by show scope.names.lookup y ≠ _; rw [k]; decide)] at q
      exact q
  · exact e0.hok.fresh (Nat.le_of_lt (x.above y c (PySem.mem_of_lookup h)))
  · unfold start
    show _ = N.length
    rw [List.length_append, List.length_map, List.length_replicate]
    omega
theorem fn_of {CX : CXT} {P : Program} {w : World} {K : PySem.W.Frag} {mg : Str → Option Value} {base : Heap} {k : Nat} {f : Addr} {name qual : Str} {params : Arguments} {body : List Stmt} {scope : Scope} {dV kV doc pm cdv ct oc : Value} {an od : Option Addr}
    {osl : Array (Option Value)} {N ps : List Str} {sp : Sp} (lk : K.lookup f = some ⟨oc, od, .func (PySem.W.fnOf name qual params body scope dV kV doc pm an cdv ct), osl⟩) (hcd : PySem.W.codeIn K cdv qual = true) (S : FnScope N ps scope)
    (len : ∀ vs H Q E, sp vs H Q E → vs.length = ps.length)
    (hbody : ∀ (A : Around) (outer : List Env) (s : Shared) (H : Hp) (vs : List V) (Q : VK) (E : XK), Room k (A.deeper (envOfC qual scope s.heap.objs.size f cdv)) → sp vs H Q E →
      ∃ t, PSs (cxOf CX P w K mg base N qual scope f cdv A outer s H E) body t ∧ t { nx := fun _ H' => Q .non H', rt := Q } (start N vs) H) :
    FnOk P w K mg base CX (k + 1) f (PySem.W.fnOf name qual params body scope dV kV doc pm an cdv ct) ps sp := by
  refine ⟨len, fun A outer s H args us vs Q E hr e0 hb r hsp => ?_⟩
  have hl := len _ _ _ _ hsp
  have KX : K.In s.heap := e0.mod.kin.keeps fun b o e => (e0.bs b o e).1
  have lim : s.heap.NoLimit := e0.mod.nolimit.keeps fun b o e => (e0.bs b o e).1
  have hkind : ∀ y ∈ ps.zip us, scope.names.lookup y.1 = some .local ∨ (scope.names.lookup y.1 = some .cell ∧ ((cellsFrom (s.heap.objs.size + 1) scope.names []).lookup y.1).isSome = true) := fun ⟨n, v⟩ hy => by
    rcases S.par n (List.of_mem_zip hy).1 with q | q
    · exact .inl q
    · exact .inr ⟨q, PySem.W.cellsFrom_some _ _ _ (.inl q)⟩
  refine codeAny_call_function hr.depth (KX _ _ lk) rfl S.co S.gen rfl (PySem.W.codeRec_of KX hcd) (hb _ _ _ _ ?_)
  refine wpAny_newFunctionEnv_cells S.kind hkind fun env he s1 x => ?_
  subst he
  refine ⟨lim.keeps x.toInCall.keep, codeAny_func ?_⟩
  obtain ⟨t, ht, hq⟩ := hbody A outer s H vs Q E (hr.deeper _) hsp
  have I : Inv (cxOf CX P w K mg base N qual scope f cdv A outer s H E) [] (start N vs) H s1 := inv_start S hr.hd e0 hl r x
  refine wpAny_mono (ht [] s1 (start N vs) H _ I hq) (fun fl s' hs => ?_) fun e s' hs => hs
  have fin : ∀ {σ' : St} {H' : Hp} {v : V} {u : Value}, Inv (cxOf CX P w K mg base N qual scope f cdv A outer s H E) [] σ' H' s' → RelV v u → Q v H' → CE outer P w H s Q u s' :=
    fun {σ' H' v u} J rv q => ⟨v, H', J.os, J.bare, J.base, J.hok, rv, q⟩
  cases fl with
  | ret u =>
    obtain ⟨v, σ', H', J, rv, q⟩ := hs
    exact fin J rv q
  | next =>
    obtain ⟨σ', H', J, q⟩ := hs
    exact fin (v := V.non) (u := Value.none) J rfl q
  | brk =>
    obtain ⟨_, _, _, q⟩ := hs
    exact False.elim q
  | cont =>
    obtain ⟨_, _, _, q⟩ := hs
    exact False.elim q
end L2
namespace L2
open PySem PySem.Spec PyProof.Rows
section
variable {X : Cx} {x : Str} {p pos : Pos} {e : Expr} {es : List Expr} {t : TA} {id T : String} {r : List V → Hp → VK → Prop}
def tCB (r : List V → Hp → VK → Prop) (t : TA) : TE := fun σ H Q => t σ H fun vs H1 => r vs H1 Q
theorem pe_callB (hc : CallR X (.builtin id) r) (hg : Gl X x) (hm : X.mg x = none) (hv : bootBuiltins x = some (.builtin id)) (ha : PA X (e :: es) t) (hn : x ≠ "__name__" := by decide) (hdb : (x == ("__debug__" : Str)) = false := by decide)
    (he : starEach (e :: es) X.env = (false, eval e X.env) :: starEach es X.env := by rfl) (hpl : (backTo pos (starEach es X.env)).any (·.1) = false := by rfl) : PE X (.Call (.Name x p) (e :: es) [] pos) (tCB r t) := by
  intro pins s σ H Q I h
  refine wpAny_Call_Name_kw (ld_blt I hg hm hv ?_ hn hdb)
  exact PyProof.Rows.callWith_builtin1 (thn (ha pos pins s σ H _ I h) fun us s1 ⟨vs, H1, I1, r1, q1⟩ => hc pins s1 σ H1 vs us Q I1 r1 q1) he hpl
theorem pe_callTy (hc : CallR X (.type T) r) (hg : Gl X x) (hm : X.mg x = none) (hv : bootBuiltins x = some (.type T)) (ha : PA X (e :: es) t) (hn : x ≠ "__name__" := by decide) (hdb : (x == ("__debug__" : Str)) = false := by decide)
    (he : starEach (e :: es) X.env = (false, eval e X.env) :: starEach es X.env := by rfl) (hpl : (backTo pos (starEach es X.env)).any (·.1) = false := by rfl) : PE X (.Call (.Name x p) (e :: es) [] pos) (tCB r t) := by
  intro pins s σ H Q I h
  refine wpAny_Call_Name_kw (ld_blt I hg hm hv ?_ hn hdb)
  exact PyProof.Rows.callWith_type1 (thn (ha pos pins s σ H _ I h) fun us s1 ⟨vs, H1, I1, r1, q1⟩ => hc pins s1 σ H1 vs us Q I1 r1 q1) he hpl
end
end L2
namespace HT
open PySem PyProof.Rows
def lexLt : List Int → List Int → Bool
  | [], [] => false
  | [], _ :: _ => true
  | _ :: _, [] => false
  | x :: xs, y :: ys => if x = y then lexLt xs ys else decide (x < y)
section
open PySem.SeqAt
open PySem.AutoSeq1 (wpAny_loadPart')
open PySem.MeetsSeq PySem.MeetsSeq2 PySem.MeetsSeq3
end
section
variable {prog : Program} {w : World} {A : Around} {E : Value → Shared → Prop} {s : Shared}
theorem cat_tup {t b : Addr} {vs ws : List Value} {Q : Value → Shared → Prop} (ht : IsTup s.heap t vs.toArray) (hb : IsTup s.heap b ws.toArray) (hv : vs ≠ [])
    (h1 : ws = [] → Q (.ref t) s) (h2 : ws ≠ [] → Q (.ref s.heap.objs.size) { s with heap := s.heap.push { cls := .type "tuple", data := .seq (vs ++ ws).toArray } })
    (hsz : vs.length + ws.length ≤ sizeLine) : wpAny (model prog w) A (binaryOp .Add (.ref t) (.ref b)) Q E s := by
  obtain ⟨⟨cls, dd, data, sl⟩, ho, hc, n, hd⟩ := id ht
  obtain ⟨⟨cls2, dd2, data2, sl2⟩, ho2, hc2, n2, hd2⟩ := id hb
  simp only at hc hd hc2 hd2
  subst hc hd hc2 hd2
  have e : vs.toArray ++ ws.toArray = (vs ++ ws).toArray := by simp
  by_cases hw : ws = []
  · exact concat_meets ⟨_, ho, rfl⟩ ⟨_, ho2, rfl⟩ noFill_tuple_add seq_tuple_add PySem.F.slot_tuple_add PySem.F.entry_tuple_add (PySem.F.args_tuple_add_2 _ _)
      (tuple_addW1 t b vs.toArray ws.toArray n n2 dd dd2 sl sl2 (by simpa using hv) (by simp [hw])) ⟨ho, ho2, h1 hw⟩
  · refine concat_meets ⟨_, ho, rfl⟩ ⟨_, ho2, rfl⟩ noFill_tuple_add seq_tuple_add PySem.F.slot_tuple_add PySem.F.entry_tuple_add (PySem.F.args_tuple_add_2 _ _)
      (tuple_addW2 t b vs.toArray ws.toArray n n2 dd dd2 sl sl2 (by simpa using hv) (by simpa using hw) (by rw [List.size_toArray, List.size_toArray]; exact hsz)) ⟨ho, ho2, ?_⟩
    rw [e]
    exact h2 hw
def sIx (n d : Nat) : Option Int → Nat
  | none => d
  | some v => if v < 0 then (v + (n : Int)).toNat else min v.toNat n
theorem sIx_none (n d : Nat) : sIx n d none = d := rfl
theorem sIx_nat (n d k : Nat) : sIx n d (some (k : Int)) = min k n := by
  show (if (k : Int) < 0 then ((k : Int) + (n : Int)).toNat else min (k : Int).toNat n) = min k n
  rw [if_neg (by omega), Int.toNat_natCast]
theorem sIx_le (n d : Nat) (hd : d ≤ n) (o : Option Int) : sIx n d o ≤ n := by
  cases o with
  | none => exact hd
  | some v =>
    show (if v < 0 then (v + (n : Int)).toNat else min v.toNat n) ≤ n
    by_cases hv : v < 0
    · rw [if_pos hv]; omega
    · rw [if_neg hv]; exact Nat.min_le_right _ _
theorem clip_eq (v : Int) (n d : Nat) : (if v < 0 then max (v + (n : Int)) 0 else min v (n : Int)) = ((sIx n d (some v) : Nat) : Int) := by
  show (if v < 0 then max (v + (n : Int)) 0 else min v (n : Int)) = (((if v < 0 then (v + (n : Int)).toNat else min v.toNat n) : Nat) : Int)
  by_cases hv : v < 0
  · simp only [if_pos hv]; omega
  · simp only [if_neg hv]; omega
theorem adjust_gen (lo hi : Option Int) (n : Nat) : Builtin.Slice.sliceAdjust lo hi 1 (n : Int) = (((sIx n 0 lo : Nat) : Int), ((sIx n n hi : Nat) : Int)) := by
  have h1 : ¬ ((1 : Int) < 0) := by omega
  unfold Builtin.Slice.sliceAdjust
  simp only [h1, if_false]
  refine Prod.ext ?_ ?_
  · cases lo with
    | none => rfl
    | some v => exact clip_eq v n 0
  · cases hi with
    | none => rfl
    | some v => exact clip_eq v n n
theorem places_gen (i j : Nat) : Builtin.Slice.slicePlaces (i : Int) (j : Int) 1 = j - i := by
  unfold Builtin.Slice.slicePlaces
  have h1 : (1 : Int) > 0 := by omega
  simp only [h1, if_true, Int.ediv_one]
  split <;> omega
theorem slicePart_ {v : Value} {o : Option Int} {Q : Option Int → Shared → Prop} (p : IsPart v o) (h : Q o s) : wpAny (model prog w) A (Builtin.Slice.slicePartIndex v) Q E s := by
  cases p with
  | none => exact slicePart_none h
  | int i t => exact slicePart_int h
theorem sliceApplied_gen {sl : Addr} {vl vu : Value} {lo hi : Option Int} {n : Nat} {Q : Int × Int × Nat → Shared → Prop} (hs : s.heap.IsSliceOf sl vl vu .none) (pl : IsPart vl lo) (pu : IsPart vu hi)
    (h : Q (((sIx n 0 lo : Nat) : Int), 1, sIx n n hi - sIx n 0 lo) s) : wpAny (model prog w) A (Builtin.Slice.sliceApplied (.ref sl) (pure (n : Int))) Q E s := by
  obtain ⟨os, hos, hcs, hds⟩ := id hs
  unfold Builtin.Slice.sliceApplied Builtin.Slice.sliceFields
  refine wpAny_bind (wpAny_bind (wpAny_field hos hds (x := vl) rfl (wpAny_bind (wpAny_field hos hds (x := vu) rfl (wpAny_bind (wpAny_field hos hds (x := .none) rfl (wpAny_pure ?_)))))))
  refine wpAny_bind (slicePart_none ?_)
  show wpAny _ _ (if ((1 : Int) == 0) = true then _ else _) _ _ s
  rw [if_neg (by decide)]
  refine wpAny_bind (slicePart_ pl (wpAny_bind (slicePart_ pu (wpAny_bind (wpAny_pure ?_)))))
  show wpAny _ _ (match Builtin.Slice.sliceAdjust lo hi 1 (n : Int) with | (lo, hi) => pure (lo, (1 : Int), Builtin.Slice.slicePlaces lo hi 1)) _ _ s
  rw [adjust_gen lo hi n]
  show wpAny _ _ (pure (((sIx n 0 lo : Nat) : Int), (1 : Int), Builtin.Slice.slicePlaces ((sIx n 0 lo : Nat) : Int) ((sIx n n hi : Nat) : Int) 1)) _ _ s
  rw [places_gen]
  exact wpAny_pure h
theorem pick_gen (xs : Array Value) (i k : Nat) : ((List.range k).filterMap fun (m : Nat) => xs[((i : Int) + (m : Int) * 1).toNat]?).toArray = ((xs.toList.drop i).take k).toArray := by
  have e : (fun (m : Nat) => xs[((i : Int) + (m : Int) * 1).toNat]?) = fun m => xs[i + m]? := by
    funext m
    have : ((i : Int) + (m : Int) * 1).toNat = i + m := by omega
    rw [this]
  rw [e]
  have := pick_run xs i k
  rw [List.filterMap_map] at this
  have e2 : ((fun x => xs[x]?) ∘ fun x => i + x) = fun m => xs[i + m]? := rfl
  rw [e2] at this
  rw [this]
theorem getItem_tuple_cut {t sl : Addr} {items : Array Value} {vl vu : Value} {lo hi : Option Int} {Q : Value → Shared → Prop} (ht : IsTup s.heap t items) (hs : s.heap.IsSliceOf sl vl vu .none) (pl : IsPart vl lo) (pu : IsPart vu hi)
    (hw : ¬ (sIx items.size 0 lo = 0 ∧ sIx items.size items.size hi = items.size))
    (h : Q (.ref s.heap.objs.size) { s with heap := s.heap.push { cls := .type "tuple", data := .seq ((items.toList.drop (sIx items.size 0 lo)).take (sIx items.size items.size hi - sIx items.size 0 lo)).toArray } })
    (hsz : items.size ≤ sizeLine) : wpAny (model prog w) A (getItem (.ref t) (.ref sl)) Q E s := by
  have htake : sizeOk (.seq ((items.toList.drop (sIx items.size 0 lo)).take (sIx items.size items.size hi - sIx items.size 0 lo)).toArray) := by
    show ((items.toList.drop (sIx items.size 0 lo)).take (sIx items.size items.size hi - sIx items.size 0 lo)).toArray.size ≤ sizeLine
    rw [List.size_toArray, List.length_take, List.length_drop, Array.length_toList]
    omega
  have hj : sIx items.size items.size hi ≤ items.size := sIx_le _ _ (Nat.le_refl _) hi
  obtain ⟨os, hos, hcs, hds⟩ := id hs
  have hTs : s.TypeIs (.ref sl) "slice" := ⟨os, hos, hcs⟩
  unfold getItem
  try with_reducible refine wpAny_holding ?_
  first | refine wpAny_bind (wpAny_pure ?_) | skip
  refine wpAny_bind (wpAny_sequenceKey ht.typeIs (by decide) ?_)
  refine wpAny_bind (wpAny_callSpecial?_slot (name := Str.ofString "__getitem__") ht.typeIs PyProof.Rows.slot_tuple_getitem
    (wpAny_call_entry PyProof.Rows.slot_tuple_getitem ht.typeIs entry_tuple_getitem ?_ (args_tuple_getitem _ _)))
  show wpAny _ _ (Builtin.Tuple.tupleItemsOf (.ref t) >>= _) _ _ s
  refine wpAny_bind (tupleItemsOf_ ht ?_)
  refine wpAny_bind (wpAny_typeOf hTs ?_)
  rw [if_pos (by decide)]
  refine wpAny_bind (sliceApplied_gen hs pl pu ?_)
  have hno : ¬ ((((sIx items.size 0 lo : Nat) : Int) == 0 && (1 : Int) == 1 && (sIx items.size items.size hi - sIx items.size 0 lo) == items.size) = true) := by
    intro q
    rw [Bool.and_eq_true, Bool.and_eq_true] at q
    have q1 : ((sIx items.size 0 lo : Nat) : Int) = 0 := eq_of_beq q.1.1
    have q2 : sIx items.size items.size hi - sIx items.size 0 lo = items.size := eq_of_beq q.2
    exact hw ⟨by omega, by omega⟩
  show wpAny _ _ (if (((sIx items.size 0 lo : Nat) : Int) == 0 && (1 : Int) == 1 && (sIx items.size items.size hi - sIx items.size 0 lo) == items.size) = true then _ else _) _ _ s
  rw [if_neg hno, pick_gen]
  first
    | exact wpAny_bind (m := Builtin.Tuple.tupleExact _) (wpAny_newObj_type (wpAny_pure ⟨_, rfl, wpAny_pure h⟩) htake)
    | exact wpAny_bind (m := Builtin.Tuple.tupleExact _) (wpAny_newObj_type (wpAny_bind (wpAny_pure (wpAny_pure ⟨_, rfl, wpAny_pure h⟩))) htake)
    | exact wpAny_bind (wpAny_bind (m := Builtin.Tuple.tupleExact _) (wpAny_newObj_type (wpAny_pure (wpAny_pure ⟨_, rfl, wpAny_pure h⟩)) htake))
    | exact wpAny_bind (wpAny_bind (m := Builtin.Tuple.tupleExact _) (wpAny_newObj_type (wpAny_pure ⟨_, rfl, wpAny_pure h⟩) htake))
end
end HT
namespace L2
open PySem PySem.Spec PyProof.Rows
abbrev TO := St → Hp → (Option Int → Hp → Prop) → Prop
def PO (X : Cx) (e : Option Expr) (t : TO) : Prop :=
  ∀ (pins : List (Addr × Obj)) (s : Shared) (σ : St) (H : Hp) (Q : Option Int → Hp → Prop), Inv X pins σ H s → t σ H Q →
    wpAny (model X.prog X.w) X.A (evalPart e X.env) (fun u s' => ∃ o H', Inv X pins σ H' s' ∧ IsPart u o ∧ Q o H') X.xe s
def tNoPart : TO := fun _ H Q => Q none H
def tPart (t : TE) : TO := fun σ H Q => t σ H fun x H1 => ∃ i, x = .int i ∧ Q (some i) H1
section
variable {X : Cx} {e : Expr} {te : TE} {lo hi : Option Expr} {tl th : TO} {pos p2 : Pos}
theorem po_none : PO X none tNoPart := by
  intro pins s σ H Q I h
  rw [evalPart_none]
  exact wpAny_pure ⟨none, H, I, .none, h⟩
theorem po_some (h : PE X e te) : PO X (some e) (tPart te) := by
  intro pins s σ H Q I hw
  rw [evalPart_some]
  refine thn (h pins s σ H _ I hw) fun u s1 ⟨x, H1, I1, r1, q1⟩ => ?_
  obtain ⟨i, rfl, q⟩ := q1
  obtain ⟨t, rfl⟩ := r1
  exact ⟨some i, H1, I1, .int i t, q⟩
def SlR (X : Cx) (r : V → Option Int → Option Int → Hp → VK → Prop) : Prop :=
  ∀ (pins : List (Addr × Obj)) (s : Shared) (σ : St) (H : Hp) (x : V) (v vl vu : Value) (lo hi : Option Int) (sl : Addr) (Q : VK), Inv X pins σ H s → RelV x v → s.heap.IsSliceOf sl vl vu .none → IsPart vl lo → IsPart vu hi → r x lo hi H Q →
    ∃ T id, typeLookup (.type T) "__getitem__" = pure (some (.builtin id)) ∧ s.TypeIs v T ∧ wpAny (model X.prog X.w) X.A (getItem v (.ref sl)) (EP X pins σ Q) X.xe s
theorem SlR.or {r r' : V → Option Int → Option Int → Hp → VK → Prop} (h : SlR X r) (h' : SlR X r') : SlR X (fun x lo hi H Q => r x lo hi H Q ∨ r' x lo hi H Q) := by
  intro pins s σ H x v vl vu lo hi sl Q I rx hs pl pu q
  rcases q with q | q
  · exact h pins s σ H x v vl vu lo hi sl Q I rx hs pl pu q
  · exact h' pins s σ H x v vl vu lo hi sl Q I rx hs pl pu q
def tSl (r : V → Option Int → Option Int → Hp → VK → Prop) (te : TE) (tl th : TO) : TE := fun σ H Q => te σ H fun x H1 => tl σ H1 fun l H2 => th σ H2 fun u H3 => r x l u H3 Q
theorem pe_slice {r : V → Option Int → Option Int → Hp → VK → Prop} (hr : SlR X r) (he : PE X e te) (hl : PO X lo tl) (hu : PO X hi th) : PE X (.Subscript e (.Slice lo hi none p2) pos) (tSl r te tl th) := by
  intro pins s σ H Q I h
  refine Subscript_ (thn (he pins s σ H _ I h) fun v s1 ⟨x, H1, I1, r1, q1⟩ => ?_)
  refine wpAny_Slice (thn (hl pins s1 σ H1 _ I1 q1) fun vl s2 ⟨l, H2, I2, pl, q2⟩ => thn (hu pins s2 σ H2 _ I2 q2) fun vu s3 ⟨u, H3, I3, pu, q3⟩ => ?_)
  rw [evalPart_none]
  refine wpAny_pure ?_
  have I4 : Inv X pins σ H3 { s3 with heap := s3.heap.push { cls := .type "slice", data := .fields #[vl, vu, .none] } } := I3.kept (t' := s3.toks) fun b ob q => Heap.get?_push_of_some _ q
  obtain ⟨T, id, hT, ht, hg⟩ := hr pins { s3 with heap := s3.heap.push { cls := .type "slice", data := .fields #[vl, vu, .none] } } σ H3 x v vl vu l u s3.heap.objs.size Q I4 r1 (Heap.IsSliceOf.new ..) pl pu q3
  show wpAny (model X.prog X.w) X.A (subscriptTail e (.Slice lo hi none p2) v (.ref s3.heap.objs.size)) (EP X pins σ Q) X.xe { s3 with heap := s3.heap.push { cls := .type "slice", data := .fields #[vl, vu, .none] } }
  exact tail_any (ops := [.ref s3.heap.objs.size, v]) ht hT hg (by with_unfolding_all rfl)
def cutV (xs : List V) (lo hi : Option Int) : List V := (xs.drop (HT.sIx xs.length 0 lo)).take (HT.sIx xs.length xs.length hi - HT.sIx xs.length 0 lo)
theorem cutV_length (xs : List V) (lo hi : Option Int) : (cutV xs lo hi).length ≤ xs.length := by
  unfold cutV
  rw [List.length_take, List.length_drop]
  omega
def rSlT (K : PySem.W.Frag) : V → Option Int → Option Int → Hp → VK → Prop := fun x lo hi H Q => ∃ a xs, x = .ref a ∧ SqT K H a xs ∧
  ¬ (HT.sIx xs.length 0 lo = 0 ∧ HT.sIx xs.length xs.length hi = xs.length) ∧ ∀ p, H p = none → Q (.ref p) (upd H p (.tup (cutV xs lo hi)))
theorem sl_tup : SlR X (rSlT X.K) := by
  intro pins s σ H x v vl vu lo hi sl Q I rx hs pl pu h
  obtain ⟨a, xs, rfl, hx, hw, q⟩ := h
  cases rx
  obtain ⟨its, r, ht, hz⟩ := I.tuple hx
  have hlen : its.toArray.size = xs.length := by rw [List.size_toArray]; exact r.length.symm
  refine ⟨"tuple", _, PyProof.Rows.slot_tuple_getitem.lookup, ht.typeIs, ?_⟩
  refine HT.getItem_tuple_cut ht hs pl pu (by rw [hlen]; exact hw) ?_ (by rw [hlen]; exact hz)
  rw [hlen]
  refine ⟨.ref s.heap.objs.size, _, I.laid (t' := s.toks) (o := .tup (cutV xs lo hi)) (fun b ob q => Heap.get?_push_of_some _ q) (Nat.le_refl _) ?_, rfl, q _ (I.hok.fresh (Nat.le_refl _))⟩
  exact ⟨Nat.le_trans (cutV_length xs lo hi) hz, _, (r.drop (HT.sIx xs.length 0 lo)).take (HT.sIx xs.length xs.length hi - HT.sIx xs.length 0 lo), IsTup.new _ _⟩
def rLtT (K : PySem.W.Frag) : R2 := fun x y H Q => ∃ a b ns ms, x = .ref a ∧ y = .ref b ∧ SqT K H a (ns.map V.int) ∧ SqT K H b (ms.map V.int) ∧ Q (.bl (HT.lexLt ns ms)) H
def rCatT (K : PySem.W.Frag) : R2 := fun x y H Q => ∃ a b xs ys, x = .ref a ∧ y = .ref b ∧ SqT K H a xs ∧ SqT K H b ys ∧ xs ≠ [] ∧ xs.length + ys.length ≤ sizeLine ∧
  (ys = [] → Q (.ref a) H) ∧ (ys ≠ [] → ∀ p, H p = none → Q (.ref p) (upd H p (.tup (xs ++ ys))))
theorem Vals.nil_iff {xs : List V} {us : List Value} (r : Vals xs us) : us = [] ↔ xs = [] := by
  cases r with
  | nil => simp
  | cons _ _ => simp
theorem op_catT : OpR X (binaryOp .Add) (rCatT X.K) := by
  intro pins s σ H x y v u Q I rx ry h
  obtain ⟨a, b, xs, ys, rfl, rfl, ha, hb, hx, hz, q1, q2⟩ := h
  cases rx
  cases ry
  obtain ⟨its, r1, p1, _⟩ := I.tuple ha
  obtain ⟨its2, r2, p2, _⟩ := I.tuple hb
  refine HT.cat_tup p1 p2 (fun z => hx (r1.nil_iff.mp z)) (fun z => ⟨.ref a, H, I, rfl, q1 (r2.nil_iff.mp z)⟩) (fun z => ?_) (by rw [← r1.length, ← r2.length]; exact hz)
  refine ⟨.ref s.heap.objs.size, _, I.laid (t' := s.toks) (o := .tup (xs ++ ys)) (fun b ob q => Heap.get?_push_of_some _ q) (Nat.le_refl _) ?_, rfl, q2 (fun w => z (r2.nil_iff.mpr w)) _ (I.hok.fresh (Nat.le_refl _))⟩
  exact ⟨by rw [List.length_append]; exact hz, _, r1.append r2, IsTup.new _ _⟩
end
end L2
namespace L2
open PySem PySem.Spec PyProof.Rows
def ixN (n : Nat) (i : Int) : Option Nat := if 0 ≤ i then (if i < n then some i.toNat else none) else if -(n : Int) ≤ i then some (i + n).toNat else none
def atI {α : Type} (xs : List α) (i : Int) : Option α := (ixN xs.length i).bind fun j => xs[j]?
theorem ixN_seq {n : Nat} {i : Int} {j : Nat} (h : ixN n i = some j) : seqIndex? i n = some j ∧ j < n ∧ -(n : Int) ≤ i ∧ i < n := by
  unfold ixN at h
  by_cases h0 : 0 ≤ i
  · rw [if_pos h0] at h
    by_cases h1 : i < n
    · rw [if_pos h1] at h
      have e : i.toNat = j := Option.some.inj h
      exact ⟨by rw [seqIndex_of h0 h1, e], by omega, by omega, h1⟩
    · rw [if_neg h1] at h; cases h
  · rw [if_neg h0] at h
    by_cases h1 : -(n : Int) ≤ i
    · rw [if_pos h1] at h
      have e : (i + n).toNat = j := Option.some.inj h
      exact ⟨by rw [seqIndex_neg (by omega) h1, e], by omega, h1, by omega⟩
    · rw [if_neg h1] at h; cases h
theorem atI_get {α : Type} {xs : List α} {i : Int} {v : α} (h : atI xs i = some v) : ∃ j, seqIndex? i xs.length = some j ∧ xs[j]? = some v ∧ j < xs.length ∧ -(xs.length : Int) ≤ i ∧ i < xs.length := by
  unfold atI at h
  cases e : ixN xs.length i with
  | none => rw [e] at h; cases h
  | some j =>
    rw [e] at h
    obtain ⟨h1, h2, h3, h4⟩ := ixN_seq e
    exact ⟨j, h1, h, h2, h3, h4⟩
theorem atI_nat {α : Type} {xs : List α} {j : Nat} {v : α} (h : xs[j]? = some v) : atI xs (j : Int) = some v := by
  have hj : j < xs.length := (List.getElem?_eq_some_iff.mp h).1
  have e : ixN xs.length (j : Int) = some j := by
    unfold ixN
    rw [if_pos (by omega), if_pos (by omega)]; simp
  unfold atI; rw [e]; exact h
def PlainIx (b : Expr) : Prop := ∀ o i, subscripted b false o i = operate [o, i] (getItem o i)
def IxR (X : Cx) (r : R2) : Prop :=
  ∀ (value slice : Expr) (pins : List (Addr × Obj)) (s : Shared) (σ : St) (H : Hp) (x y : V) (v u : Value) (Q : VK), Inv X pins σ H s → RelV x v → RelV y u → r x y H Q →
    subscripted slice false v u = operate [v, u] (getItem v u) → wpAny (model X.prog X.w) X.A (subscriptTail value slice v u) (EP X pins σ Q) X.xe s
def MtR (X : Cx) (id : String) (r : V → List V → Hp → VK → Prop) : Prop :=
  ∀ (pins : List (Addr × Obj)) (s : Shared) (σ : St) (H : Hp) (x : V) (xs : List V) (v : Value) (us : List Value) (Q : VK), Inv X pins σ H s → RelV x v → Vals xs us → r x xs H Q →
    wpAny (model X.prog X.w) X.A (call (.builtin id) (v :: us)) (EP X pins σ Q) X.xe s
section
variable {X : Cx} {a b : Expr} {ta tb : TE} {pos : Pos}
theorem IxR.or {r r' : R2} (h : IxR X r) (h' : IxR X r') : IxR X (fun x y H Q => r x y H Q ∨ r' x y H Q) := by
  intro value slice pins s σ H x y v u Q I rx ry q hs
  rcases q with q | q
  · exact h value slice pins s σ H x y v u Q I rx ry q hs
  · exact h' value slice pins s σ H x y v u Q I rx ry q hs
theorem MtR.or {id : String} {r r' : V → List V → Hp → VK → Prop} (h : MtR X id r) (h' : MtR X id r') : MtR X id (fun x xs H Q => r x xs H Q ∨ r' x xs H Q) := by
  intro pins s σ H x xs v us Q I rx rs q
  rcases q with q | q
  · exact h pins s σ H x xs v us Q I rx rs q
  · exact h' pins s σ H x xs v us Q I rx rs q
theorem pe_ix {r : R2} (hr : IxR X r) (ha : PE X a ta) (hb : PE X b tb) (hs : PlainIx b) : PE X (.Subscript a b pos) (tOp r ta tb) := by
  intro pins s σ H Q I h
  exact Subscript_ (binT ha hb I h fun v u s2 x y H2 I2 rx ry q => hr a b pins s2 σ H2 x y v u Q I2 rx ry q (hs _ _))
def rIxL (K : PySem.W.Frag) : R2 := fun x y H Q => ∃ p xs i v, x = .ref p ∧ y = .int i ∧ SqL K H p xs ∧ atI xs i = some v ∧ Q v H
def rIxT (K : PySem.W.Frag) : R2 := fun x y H Q => ∃ p xs i v, x = .ref p ∧ y = .int i ∧ SqT K H p xs ∧ atI xs i = some v ∧ Q v H
def rIxS : R2 := fun x y H Q => ∃ z i c, x = .str z ∧ y = .int i ∧ z.length ≤ sizeLine ∧ atI z.cps.toList i = some c ∧ Q (.str ⟨#[c]⟩) H
theorem ix_list : IxR X (rIxL X.K) := by
  intro value slice pins s σ H x y v u Q I rx ry h hs
  obtain ⟨p, xs, i, z, rfl, rfl, hq, he, q⟩ := h
  cases rx
  obtain ⟨t, rfl⟩ := ry
  obtain ⟨its, r, pl, hz⟩ := I.list hq
  obtain ⟨j, h1, h2, h3, h4, h5⟩ := atI_get he
  obtain ⟨w, ew, rw'⟩ := r.get h2
  have hl := r.length
  have hn := line63
  have fin : EP X pins σ Q w s := ⟨z, H, I, rw', q⟩
  by_cases h0 : 0 ≤ i
  · have hj : i.toNat = j := by
      rw [seqIndex_of h0 h5] at h1
      exact Option.some.inj h1
    exact item_listR pl.isList h0 (by omega) (by rw [hj]; simpa using ew) fin hs
  · have hj : (i + (its.toArray.size : Int)).toNat = j := by
      rw [seqIndex_neg (by omega) h4] at h1
      rw [List.size_toArray, ← hl]
      exact Option.some.inj h1
    exact subscriptTail_builtinR (x := w) pl.isList.typeIs slot_list_getitem.lookup
      (wpAny_getItem_list_neg (Q := fun r s' => r = w ∧ EP X pins σ Q r s') pl.isList (by omega) (by rw [List.size_toArray] <;> omega) (by omega) (by rw [hj]; simpa using ew) ⟨rfl, fin⟩) hs
theorem ix_tup : IxR X (rIxT X.K) := by
  intro value slice pins s σ H x y v u Q I rx ry h hs
  obtain ⟨p, xs, i, z, rfl, rfl, hq, he, q⟩ := h
  cases rx
  obtain ⟨t, rfl⟩ := ry
  obtain ⟨its, r, pl, hz⟩ := I.tuple hq
  obtain ⟨j, h1, h2, h3, h4, h5⟩ := atI_get he
  obtain ⟨w, ew, rw'⟩ := r.get h2
  have hl := r.length
  have hn := line63
  have fin : EP X pins σ Q w s := ⟨z, H, I, rw', q⟩
  exact subscriptTail_builtinR (x := w) pl.typeIs slot_tuple_getitem.lookup
    (getItem_tuple (j := j) (Q := fun r s' => r = w ∧ EP X pins σ Q r s') pl (by omega) (by omega) (by rw [List.size_toArray, ← hl]; exact h1) (by simpa using ew) ⟨rfl, fin⟩) hs
theorem ix_str : IxR X rIxS := by
  intro value slice pins s σ H x y v u Q I rx ry h hs
  obtain ⟨z, i, c, rfl, rfl, hz, he, q⟩ := h
  obtain ⟨t, rfl⟩ := rx
  obtain ⟨t', rfl⟩ := ry
  obtain ⟨j, h1, h2, h3, h4, h5⟩ := atI_get he
  have hl : z.cps.toList.length = z.length := by simp [Str.length]
  rw [hl] at h1 h4 h5
  have hn := line63
  exact tail_any (typeIs_str s z t) slot_str_getitem.lookup (getItem_str (c := c) (by
    have e1 : decide (i < -(2 ^ 63 : Int)) = false := decide_eq_false (by omega)
    have e2 : decide (i ≥ 2 ^ 63) = false := decide_eq_false (by omega)
    rw [e1, e2, Bool.or_false]) (by rw [h1]; simpa using h2) ⟨.str ⟨#[c]⟩, H, I.tok _, ⟨_, rfl⟩, q⟩) hs
def rIx (K : PySem.W.Frag) : R2 := fun x y H Q => rIxL K x y H Q ∨ rIxT K x y H Q ∨ rIxS x y H Q
theorem ix_seq : IxR X (rIx X.K) := ix_list.or (ix_tup.or ix_str)
theorem Inv.lst {pins : List (Addr × Obj)} {σ : St} {H : Hp} {s : Shared} {p : Addr} {xs : List V} (I : Inv X pins σ H s) (h : H p = some (.lst xs)) :
    ∃ (its : List Value) (n : Nat), Vals xs its ∧ s.heap.get? p = some { cls := .type "list", data := .seq its.toArray n } ∧ xs.length ≤ sizeLine := by
  obtain ⟨z, its, n, r, e⟩ := I.hok p _ h
  exact ⟨its, n, r, e, z⟩
def rSetL : V → V → V → Hp → (Hp → Prop) → Prop := fun o i v H Q => ∃ p xs k j, o = .ref p ∧ i = .int k ∧ H p = some (.lst xs) ∧ ixN xs.length k = some j ∧ Q (upd H p (.lst (xs.set j v)))
theorem slice_bounds (lo hi : Option Int) (n : Nat) : (sliceBounds lo hi none n).1 = ((HT.sIx n 0 lo : Nat) : Int) ∧ (sliceBounds lo hi none n).2.1 = ((HT.sIx n n hi : Nat) : Int) ∧ (sliceBounds lo hi none n).2.2 = 1 := by
  refine ⟨?_, ?_, rfl⟩
  · cases lo with
    | none => simp [sliceBounds, HT.sIx]
    | some i =>
      simp only [sliceBounds, HT.sIx, Option.getD_none, show (1 : Int) > 0 by decide, if_true]
      by_cases h : i < 0
      · simp only [h, if_true] <;> omega
      · simp only [h, if_false] <;> omega
  · cases hi with
    | none => simp [sliceBounds, HT.sIx]
    | some i =>
      simp only [sliceBounds, HT.sIx, Option.getD_none, show (1 : Int) > 0 by decide, if_true]
      by_cases h : i < 0
      · simp only [h, if_true] <;> omega
      · simp only [h, if_false] <;> omega
theorem slicePick_cut (its : List Value) (lo hi : Option Int) : slicePick its.toArray lo hi none = ((its.drop (HT.sIx its.length 0 lo)).take (HT.sIx its.length its.length hi - HT.sIx its.length 0 lo)).toArray := by
  obtain ⟨h1, h2, h3⟩ := slice_bounds lo hi its.toArray.size
  unfold slicePick
  rw [h1, h2, h3]
  simp only [sliceRange_one, pick_run, List.size_toArray] <;> rfl
def rSlL (K : PySem.W.Frag) : V → Option Int → Option Int → Hp → VK → Prop := fun x lo hi H Q => ∃ a xs, x = .ref a ∧ SqL K H a xs ∧ ∀ p, H p = none → Q (.ref p) (upd H p (.lst (cutV xs lo hi)))
theorem sl_list : SlR X (rSlL X.K) := by
  intro pins s σ H x v vl vu lo hi sl Q I rx hs pl pu h
  obtain ⟨a, xs, rfl, hx, q⟩ := h
  cases rx
  obtain ⟨its, r, ht, hz⟩ := I.list hx
  have hlen := r.length
  refine ⟨"list", _, slot_list_getitem.lookup, ht.isList.typeIs, ?_⟩
  refine wpAny_getItem_list_slice ht.isList hs pl pu .none (by simp) ?_ (by rw [List.size_toArray] <;> omega)
  rw [slicePick_cut, ← hlen]
  refine ⟨.ref s.heap.objs.size, _, I.laid (t' := s.toks) (o := .lst (cutV xs lo hi)) (fun b ob q => Heap.get?_push_of_some _ q) (Nat.le_refl _) ?_, rfl, q _ (I.hok.fresh (Nat.le_refl _))⟩
  exact ⟨Nat.le_trans (cutV_length xs lo hi) hz, _, 0, (r.drop (HT.sIx xs.length 0 lo)).take (HT.sIx xs.length xs.length hi - HT.sIx xs.length 0 lo), Heap.get?_push_size _ rfl⟩
def flatV : V → Bool
  | .non => true
  | .bl _ => true
  | .int _ => true
  | .str _ => true
  | _ => false
def eqV : V → V → Bool
  | .non, .non => true
  | .bl a, .bl b => a == b
  | .bl a, .int b => (if a then 1 else 0) == b
  | .int a, .bl b => a == (if b then 1 else 0)
  | .int a, .int b => a == b
  | .str a, .str b => a == b
  | _, _ => false
theorem eqAt_V {A : Around} {s : Shared} {y x : V} {u v : Value} (ry : RelV y u) (rx : RelV x v) (fy : flatV y = true) (fx : flatV x = true) : SeqAt.EqAt A s u v (eqV y x) := by
  cases y with
  | non =>
    cases ry
    cases x with
    | non => cases rx; exact SeqAt.EqAt.same _
    | bl b => cases rx; exact SeqAt.EqAt.none_bool b
    | int b => obtain ⟨t, rfl⟩ := rx; exact SeqAt.EqAt.none_int b t
    | str b => obtain ⟨t, rfl⟩ := rx; exact SeqAt.EqAt.none_str b t
    | _ => exact absurd (show false = true from fx) Bool.false_ne_true
  | bl a =>
    cases ry
    cases x with
    | non => cases rx; exact SeqAt.EqAt.bool_none a
    | bl b => cases rx; exact SeqAt.EqAt.bool_bool a b
    | int b => obtain ⟨t, rfl⟩ := rx; exact SeqAt.EqAt.bool_int a b t
    | str b => obtain ⟨t, rfl⟩ := rx; exact SeqAt.EqAt.bool_str a b t
    | _ => exact absurd (show false = true from fx) Bool.false_ne_true
  | int a =>
    obtain ⟨t', rfl⟩ := ry
    cases x with
    | non => cases rx; exact SeqAt.EqAt.int_none a t'
    | bl b => cases rx; exact SeqAt.EqAt.int_bool a t' b
    | int b => obtain ⟨t, rfl⟩ := rx; exact SeqAt.EqAt.int_int a t' b t
    | str b => obtain ⟨t, rfl⟩ := rx; exact SeqAt.EqAt.int_str a t' b t
    | _ => exact absurd (show false = true from fx) Bool.false_ne_true
  | str a =>
    obtain ⟨t', rfl⟩ := ry
    cases x with
    | non => cases rx; exact SeqAt.EqAt.str_none a t'
    | bl b => cases rx; exact SeqAt.EqAt.str_bool a t' b
    | int b => obtain ⟨t, rfl⟩ := rx; exact SeqAt.EqAt.str_int a t' b t
    | str b => obtain ⟨t, rfl⟩ := rx; exact SeqAt.EqAt.str_str a t' b t
    | _ => exact absurd (show false = true from fx) Bool.false_ne_true
  | _ => exact absurd (show false = true from fy) Bool.false_ne_true
def eqU (x : V) (u : Value) : Bool := match u with
  | .none => eqV .non x
  | .bool b => eqV (.bl b) x
  | .int i _ => eqV (.int i) x
  | .str z _ => eqV (.str z) x
  | _ => false
theorem eqU_of {x y : V} {u : Value} (r : RelV y u) (f : flatV y = true) : eqU x u = eqV y x := by
  cases y with
  | non => cases r; rfl
  | bl b => cases r; rfl
  | int i => obtain ⟨t, rfl⟩ := r; rfl
  | str z => obtain ⟨t, rfl⟩ := r; rfl
  | _ => exact absurd (show false = true from f) Bool.false_ne_true
theorem any_eqU {x : V} : ∀ {xs : List V} {us : List Value}, Vals xs us → xs.all flatV = true → us.any (eqU x) = xs.any fun y => eqV y x
  | _, _, .nil, _ => rfl
  | y :: xs, u :: us, .cons r t, f => by
    rw [List.all_cons, Bool.and_eq_true] at f
    rw [List.any_cons, List.any_cons, eqU_of r f.1, any_eqU t f.2]
theorem mem_eqAt {A : Around} {s : Shared} {x : V} {v : Value} (rx : RelV x v) (fx : flatV x = true) : ∀ {xs : List V} {us : List Value}, Vals xs us → xs.all flatV = true → ∀ u ∈ us, SeqAt.EqAt A s u v (eqU x u)
  | _, _, .nil, _ => fun u hu => by cases hu
  | y :: xs, u :: us, .cons r t, f => fun u' hu => by
    rw [List.all_cons, Bool.and_eq_true] at f
    rcases List.mem_cons.mp hu with rfl | hu
    · rw [eqU_of r f.1]; exact eqAt_V r rx f.1 fx
    · exact mem_eqAt rx fx t f.2 u' hu
def inV (x : V) (xs : List V) : Bool := xs.any fun y => eqV y x
def rIn (K : PySem.W.Frag) (neg : Bool) : R2 := fun x y H Q => ∃ p xs, y = .ref p ∧ (SqL K H p xs ∨ SqT K H p xs) ∧ flatV x = true ∧ xs.all flatV = true ∧ Q (.bl (if neg then !inV x xs else inV x xs)) H
theorem op_in_seq : OpR X (compareOp .In) (rIn X.K false) := by
  intro pins s σ H x y v u Q I rx ry h
  obtain ⟨p, xs, rfl, hq, fx, fs, q⟩ := h
  cases ry
  rcases hq with hq | hq
  · obtain ⟨its, r, pl, hz⟩ := I.list hq
    refine SeqAt.in_listAt (eqU x) pl.isList (fun w hw => mem_eqAt rx fx r fs w (by simpa using hw)) ⟨.bl _, H, I, rfl, ?_⟩
    rw [show its.toArray.any (eqU x) = its.any (eqU x) by simp, any_eqU r fs]
    exact q
  · obtain ⟨its, r, pl, hz⟩ := I.tuple hq
    refine SeqAt.in_tupleAt (eqU x) pl (fun w hw => mem_eqAt rx fx r fs w (by simpa using hw)) ⟨.bl _, H, I, rfl, ?_⟩
    rw [show its.toArray.any (eqU x) = its.any (eqU x) by simp, any_eqU r fs]
    exact q
theorem op_notIn_seq : OpR X (compareOp .NotIn) (rIn X.K true) := by
  intro pins s σ H x y v u Q I rx ry h
  obtain ⟨p, xs, rfl, hq, fx, fs, q⟩ := h
  cases ry
  rcases hq with hq | hq
  · obtain ⟨its, r, pl, hz⟩ := I.list hq
    refine SeqAt.notIn_listAt (eqU x) pl.isList (fun w hw => mem_eqAt rx fx r fs w (by simpa using hw)) ⟨.bl _, H, I, rfl, ?_⟩
    rw [show its.toArray.any (eqU x) = its.any (eqU x) by simp, any_eqU r fs]
    exact q
  · obtain ⟨its, r, pl, hz⟩ := I.tuple hq
    refine SeqAt.notIn_tupleAt (eqU x) pl (fun w hw => mem_eqAt rx fx r fs w (by simpa using hw)) ⟨.bl _, H, I, rfl, ?_⟩
    rw [show its.toArray.any (eqU x) = its.any (eqU x) by simp, any_eqU r fs]
    exact q
theorem CallR.or {f : Value} {r r' : List V → Hp → VK → Prop} (h : CallR X f r) (h' : CallR X f r') : CallR X f (fun xs H Q => r xs H Q ∨ r' xs H Q) := by
  intro pins s σ H xs us Q I rs q
  rcases q with q | q
  · exact h pins s σ H xs us Q I rs q
  · exact h' pins s σ H xs us Q I rs q
theorem call_list_of : CallR X (.type "list") (fun xs H Q => ∃ p ys, xs = [.ref p] ∧ (SqL X.K H p ys ∨ SqT X.K H p ys) ∧ ∀ l, H l = none → Q (.ref l) (upd H l (.lst ys))) := by
  intro pins s σ H xs us Q I r h
  obtain ⟨p, ys, rfl, hq, q⟩ := h
  obtain ⟨u, rfl, rx⟩ := vals1 r
  cases rx
  have fin : ∀ (its : List Value), Vals ys its → ys.length ≤ sizeLine → ∀ (h' : Heap) (c' : Nat), (∀ b o', s.heap.get? b = some o' → h'.get? b = some o') →
      h'.get? s.heap.objs.size = some { cls := .type "list", dict := none, data := .seq its.toArray c', slots := #[] } → EP X pins σ Q (.ref s.heap.objs.size) { s with heap := h' } := fun its r' hz h' c' kp e =>
    ⟨.ref s.heap.objs.size, _, I.laid (t' := s.toks) kp (Nat.le_refl _) (show ObjOk X.prog X.w _ h' _ (.lst ys) from ⟨hz, its, c', r', e⟩), rfl, q _ (I.hok.fresh (Nat.le_refl _))⟩
  rcases hq with hq | hq
  · obtain ⟨its, r', pl, hz⟩ := I.list hq
    have hlen := r'.length
    obtain ⟨o, ho, hc, n, hd⟩ := pl.isList
    exact call_list_seq p (.inl rfl) ho hc hd (fun h' c' kp e => fin its r' hz h' c' kp e) (by simp only [List.size_toArray] <;> omega)
  · obtain ⟨its, r', pl, hz⟩ := I.tuple hq
    have hlen := r'.length
    obtain ⟨o, ho, hc, n, hd⟩ := pl
    exact call_list_seq p (.inr rfl) ho hc hd (fun h' c' kp e => fin its r' hz h' c' kp e) (by simp only [List.size_toArray] <;> omega)
theorem call_tuple_of : CallR X (.type "tuple") (fun xs H Q => ∃ p ys, xs = [.ref p] ∧ ((SqL X.K H p ys ∧ ∀ l, H l = none → Q (.ref l) (upd H l (.tup ys))) ∨ (SqT X.K H p ys ∧ Q (.ref p) H))) := by
  intro pins s σ H xs us Q I r h
  obtain ⟨p, ys, rfl, h⟩ := h
  obtain ⟨u, rfl, rx⟩ := vals1 r
  cases rx
  rcases h with ⟨hq, q⟩ | ⟨hq, q⟩
  · obtain ⟨its, r', pl, hz⟩ := I.list hq
    have hlen := r'.length
    refine call_tuple_list pl.isList (fun h' kp => ?_) (by simp only [List.size_toArray] <;> omega)
    have I1 : Inv X pins σ H { s with heap := h' } := I.kept (t' := s.toks) kp
    have I2 : Inv X pins σ (upd H h'.objs.size (.tup ys)) { s with heap := h'.push { cls := .type "tuple", data := .seq its.toArray } } :=
      I1.laid (t' := s.toks) (fun b o e => Heap.get?_push_of_some _ e) (Nat.le_refl _) (show ObjOk X.prog X.w _ _ _ (.tup ys) from ⟨hz, its, r', IsTup.new _ _⟩)
    exact ⟨.ref h'.objs.size, _, I2, rfl, q _ (I1.hok.fresh (Nat.le_refl _))⟩
  · obtain ⟨its, r', pl, hz⟩ := I.tuple hq
    exact call_tuple_same pl ⟨.ref p, H, I, rfl, q⟩
def tyV (K : PySem.W.Frag) (T : String) (x : V) (H : Hp) : Prop := match x with
  | .str _ => T = "str"
  | .int _ => T = "int"
  | .ref p => (T = "list" ∧ ∃ xs, SqL K H p xs) ∨ (T = "tuple" ∧ ∃ o, K.lookup p = some o ∧ o.cls = .type "tuple" ∧ o.dict = none) ∨
      (T = "dict" ∧ ((∃ kvs, H p = some (.dK kvs)) ∨ ∃ kvs, H p = some (.dT kvs))) ∨ (T = "set" ∧ ∃ S n, H p = some (.set S n))
  | _ => False
theorem tyV_is {pins : List (Addr × Obj)} {σ : St} {H : Hp} {s : Shared} {T : String} {x : V} {v : Value} (I : Inv X pins σ H s) (r : RelV x v) (ty : tyV X.K T x H) :
    s.TypeIs v T ∧ ∀ a, v = .ref a → ∃ ob, s.heap.get? a = some ob ∧ ob.dict = none := by
  cases x with
  | str z =>
    obtain ⟨t, rfl⟩ := r
    cases (show T = "str" from ty)
    exact ⟨typeIs_str s z t, fun _ e => nomatch e⟩
  | int i =>
    obtain ⟨t, rfl⟩ := r
    cases (show T = "int" from ty)
    exact ⟨typeIs_int s i t, fun _ e => nomatch e⟩
  | ref p =>
    cases r
    rcases ty with ⟨rfl, xs, hq⟩ | ⟨rfl, o, hk, hc, hd⟩ | ⟨rfl, hk⟩ | ⟨rfl, S, n, hk⟩
    · obtain ⟨its, _, pl, _⟩ := I.list hq
      refine ⟨pl.isList.typeIs, fun a e => ?_⟩
      cases e
      obtain ⟨o, n, e, c, hd, _⟩ := pl
      exact ⟨o, e, hd⟩
    · refine ⟨⟨o, I.kIn p o hk, hc⟩, fun a e => ?_⟩
      cases e
      exact ⟨o, I.kIn _ o hk, hd⟩
    · have z : ∃ o, s.heap.get? p = some o ∧ o.ExactDict := by
        rcases hk with ⟨kvs, hk⟩ | ⟨kvs, hk⟩
        · obtain ⟨_, _, _, _, o, _, _, e, ex, _⟩ := I.hok p _ hk
          exact ⟨o, e, ex⟩
        · obtain ⟨_, _, _, _, o, _, _, e, ex, _⟩ := I.hok p _ hk
          exact ⟨o, e, ex⟩
      obtain ⟨o, e, ex⟩ := z
      refine ⟨⟨o, e, ex.1⟩, fun a e2 => ?_⟩
      cases e2
      exact ⟨o, e, ex.2.1⟩
    · obtain ⟨o, _, _, _, e, ex, _⟩ := I.hok p _ hk
      refine ⟨⟨o, e, ex.1⟩, fun a e2 => ?_⟩
      cases e2
      exact ⟨o, e, ex.2.1⟩
  | _ => exact False.elim ty
def tBM0 (K : PySem.W.Frag) (T : String) (r : V → List V → Hp → VK → Prop) (to : TE) : TE := fun σ H Q => to σ H fun x H1 => tyV K T x H1 ∧ r x [] H1 Q
def tBM (K : PySem.W.Frag) (T : String) (r : V → List V → Hp → VK → Prop) (to : TE) (t : TA) : TE := fun σ H Q => to σ H fun x H1 => tyV K T x H1 ∧ t σ H1 fun xs H2 => r x xs H2 Q
variable {o e : Expr} {es : List Expr} {to : TE} {t : TA} {name : Str} {apos cpos : Pos} {T id : String} {r : V → List V → Hp → VK → Prop}
theorem pe_bm0 (pa : PlainAttrs T) (slot : Slot T name id) (hty : typeOf (.builtin id) = pure (.type "method_descriptor")) (hm : MtR X id r) (ho : PE X o to)
    (hbase : attributeBase o name X.env (eval o X.env) = eval o X.env := by rfl) (hline : (apos.endLine == cpos.line) = true := by rfl) : PE X (.Call (.Attribute o name apos) [] [] cpos) (tBM0 X.K T r to) := by
  intro pins s σ H Q I h
  refine wpAny_Call_method0_late hbase hline (thn (ho pins s σ H _ I h) fun v s1 ⟨x, H1, I1, r1, ty, q1⟩ => ?_)
  obtain ⟨h1, h2⟩ := tyV_is I1 r1 ty
  exact ⟨T, id, pa, slot, hty, h1, h2, Calls.callWith_builtin rfl (PySem.evalArgs_none (hm pins s1 σ H1 x [] v [] Q I1 r1 .nil q1))⟩
theorem pe_bm (pa : PlainAttrs T) (slot : Slot T name id) (hty : typeOf (.builtin id) = pure (.type "method_descriptor")) (hm : MtR X id r) (ho : PE X o to) (ha : PA X (e :: es) t)
    (hbase : attributeBase o name X.env (eval o X.env) = eval o X.env := by rfl)
    (hfew : ((backTo cpos (starEach (e :: es) X.env)).all (fun x => !x.1) && (backToKw cpos (keywordEach [] X.env)).all (fun x => x.1.isSome)
      && decide ((e :: es).length + ([] : List Keyword).length + (if ([] : List Keyword).isEmpty then 0 else 1) < 30)) = true := by rfl)
    (hline : (apos.endLine == cpos.line) = true := by rfl) (hs : starEach (e :: es) X.env = (false, eval e X.env) :: starEach es X.env := by rfl) (hplain : (backTo cpos (starEach es X.env)).any (·.1) = false := by rfl) :
    PE X (.Call (.Attribute o name apos) (e :: es) [] cpos) (tBM X.K T r to t) := by
  intro pins s σ H Q I h
  refine wpAny_Call_method_late hbase hfew hline rfl (thn (ho pins s σ H _ I h) fun v s1 ⟨x, H1, I1, r1, ty, q1⟩ => ?_)
  obtain ⟨h1, h2⟩ := tyV_is I1 r1 ty
  refine ⟨T, id, pa, slot, hty, h1, h2, ?_⟩
  have hA := ha cpos pins s1 σ H1 _ I1 q1
  rw [hs] at hA ⊢
  refine Calls.callWith_builtin (by show (false || (backTo cpos (starEach es X.env)).any (·.1)) = false; rw [hplain] <;> rfl) (Calls.evalArgs_plain ?_)
  exact thn hA fun us s2 ⟨vs, H2, I2, r2, q2⟩ => hm pins s2 σ H2 x vs v us Q I2 r1 r2 q2
/- xs.append(e), list.index on a module's tuple .. are MtR facts of 06m -/
end
end L2
namespace L2
open PySem PySem.Spec PyProof.Rows
def MtM (X : Cx) (id : String) (r : V → List V → Hp → VK → Prop) : Prop :=
  ∀ (pins : List (Addr × Obj)) (s : Shared) (σ : St) (H : Hp) (x : V) (xs : List V) (v : Value) (us : List Value) (Q : VK), Inv X pins σ H s → RelV x v → Vals xs us → r x xs H Q →
    wpAny (model X.prog X.w) X.A (call (.builtin id) (v :: us)) (EP X pins σ Q) X.xe s
theorem Vals.one {x : V} {us : List Value} (h : Vals [x] us) : ∃ u, us = [u] ∧ RelV x u := by
  cases h with
  | cons r t =>
    cases t
    exact ⟨_, rfl, r⟩
theorem Vals.two {x y : V} {us : List Value} (h : Vals [x, y] us) : ∃ u v, us = [u, v] ∧ RelV x u ∧ RelV y v := by
  cases h with
  | cons r t =>
    obtain ⟨u, rfl, q⟩ := Vals.one t
    exact ⟨_, _, rfl, r, q⟩
theorem Vals.zero : ∀ {us : List Value}, Vals [] us → us = []
  | _, .nil => rfl
theorem Vals.dropLast {xs : List V} {us : List Value} (h : Vals xs us) : Vals xs.dropLast us.dropLast := by
  induction h with
  | nil => exact .nil
  | cons r t ih =>
    cases t with
    | nil => exact .nil
    | cons q t' => exact .cons r ih
theorem Vals.eraseIdx : ∀ {xs : List V} {us : List Value} (i : Nat), Vals xs us → Vals (xs.eraseIdx i) (us.eraseIdx i)
  | _, _, _, .nil => .nil
  | _, _, 0, .cons _ t => t
  | _, _, i + 1, .cons r t => .cons r (Vals.eraseIdx i t)
theorem Vals.reverse {xs : List V} {us : List Value} (h : Vals xs us) : Vals xs.reverse us.reverse := by
  induction h with
  | nil => exact .nil
  | cons r t ih => rw [List.reverse_cons, List.reverse_cons]; exact Vals.append ih (.cons r .nil)
theorem Vals.rep {xs : List V} {us : List Value} (h : Vals xs us) : ∀ k : Nat, Vals (List.replicate k xs).flatten (List.replicate k us).flatten
  | 0 => .nil
  | k + 1 => by
    rw [List.replicate_succ, List.replicate_succ, List.flatten_cons, List.flatten_cons]
    exact Vals.append h (Vals.rep h k)
theorem foldl_rep (its : List Value) : ∀ (k : Nat) (acc : List Value),
    List.foldl (fun x1 x2 => x1 ++ x2) acc.toArray (List.replicate k its.toArray) = (acc ++ (List.replicate k its).flatten).toArray
  | 0, acc => by simp
  | k + 1, acc => by
    have e : acc.toArray ++ its.toArray = (acc ++ its).toArray := by simp
    have e2 : (acc ++ its) ++ (List.replicate k its).flatten = acc ++ (List.replicate (k + 1) its).flatten := by
      rw [List.replicate_succ, List.flatten_cons, List.append_assoc]
    rw [← e2, ← foldl_rep its k (acc ++ its), ← e, List.replicate_succ, List.foldl_cons]
section
variable {X : Cx} {pins : List (Addr × Obj)} {σ : St} {H : Hp} {s : Shared} {l b : Addr} {xs ys zs : List V}
theorem Inv.lset {its its' : List Value} {n : Nat} {f : Array Value → Array Value} {t' : Nat} (I : Inv X pins σ H s) (hH : H l = some (.lst xs))
    (e : s.heap.get? l = some { cls := .type "list", data := .seq its.toArray n }) (hf : f its.toArray = its'.toArray) (hv : Vals ys its') (hz : ys.length ≤ sizeLine) :
    Inv X pins σ (upd H l (.lst ys)) { s with heap := s.heap.update l (Obj.mapSeq f), toks := t' } := by
  have q := PySem.IsL.update e f
  rw [hf] at q
  refine I.write (x := l) (e := l) (by rw [hH]; exact trivial) (.inl rfl) (fun b' u hb hu => (Heap.get?_update_other s.heap (Obj.mapSeq f) (Ne.symm hb)).trans hu) ⟨_, q⟩ ?_
  exact ⟨hz, its', _, hv, q⟩
theorem Inv.lnew {its : List Value} {t' : Nat} (I : Inv X pins σ H s) (hv : Vals ys its) (hz : ys.length ≤ sizeLine) :
    Inv X pins σ (upd H s.heap.objs.size (.lst ys)) { s with heap := s.heap.push { cls := .type "list", data := .seq its.toArray }, toks := t' } :=
  I.laid (fun _ _ q => Heap.get?_push_of_some _ q) (Nat.le_refl _) ⟨hz, its, 0, hv, Heap.get?_push_size _ rfl⟩
theorem Inv.fresh (I : Inv X pins σ H s) : H s.heap.objs.size = none := I.hok.fresh (Nat.le_refl _)
theorem Inv.lstM (I : Inv X pins σ H s) (hH : H l = some (.lst xs)) : xs.length ≤ sizeLine ∧ ∃ (its : List Value) (n : Nat), Vals xs its ∧ xs.length = its.length ∧ s.heap.get? l = some { cls := .type "list", data := .seq its.toArray n } := by
  obtain ⟨z, its, n, r, e⟩ := I.hok l _ hH
  exact ⟨z, its, n, r, r.length, e⟩
theorem notLongL {n : Nat} (h : n ≤ sizeLine) : Builtin.List.listTooLong n = false := by
  unfold Builtin.List.listTooLong
  exact decide_eq_false (by omega)
end
section
variable {X : Cx}
def rAppend : V → List V → Hp → VK → Prop := fun x vs H Q => ∃ l xs y, x = .ref l ∧ vs = [y] ∧ H l = some (.lst xs) ∧ xs.length < sizeLine ∧ Q .non (upd H l (.lst (xs ++ [y])))
theorem mt_append : MtM X "list.append" rAppend := by
  intro pins s σ H x vs v us Q I rx rv h
  obtain ⟨l, xs, y, rfl, rfl, hH, hz, q⟩ := h
  cases rx
  obtain ⟨u, rfl, ru⟩ := rv.one
  obtain ⟨z, its, n, r, hl, e⟩ := I.lstM hH
  refine call_meets F.slot_list_append ⟨_, e, rfl⟩ F.entry_list_append (F.args_list_append_2 _ _) (PySem.list_append l its.toArray n u (by rw [List.size_toArray]; omega)) ⟨e, ?_⟩
  refine ⟨.non, _, I.lset (its' := its ++ [u]) hH e (by simp) (r.append (.cons ru .nil)) ?_, rfl, q⟩
  rw [List.length_append, List.length_singleton]
  omega
def rExtend : V → List V → Hp → VK → Prop := fun x vs H Q => ∃ l b xs zs, x = .ref l ∧ vs = [.ref b] ∧ H l = some (.lst xs) ∧ H b = some (.lst zs) ∧ xs.length + zs.length ≤ sizeLine ∧ Q .non (upd H l (.lst (xs ++ zs)))
theorem mt_extend : MtM X "list.extend" rExtend := by
  intro pins s σ H x vs v us Q I rx rv h
  obtain ⟨l, b, xs, zs, rfl, rfl, hH, hB, hz, q⟩ := h
  cases rx
  obtain ⟨u, rfl, ru⟩ := rv.one
  cases ru
  obtain ⟨z, its, n, r, hl, e⟩ := I.lstM hH
  obtain ⟨z2, its2, n2, r2, hl2, e2⟩ := I.lstM hB
  have hsz : its.toArray.size + its2.toArray.size ≤ sizeLine := by rw [List.size_toArray, List.size_toArray]; omega
  have hlong : ¬ (!its.toArray.isEmpty && Builtin.List.listTooLong (its.toArray.size + its2.toArray.size)) = true := by
    rw [notLongL hsz, Bool.and_false]
    exact Bool.false_ne_true
  refine call_meets F.slot_list_extend ⟨_, e, rfl⟩ F.entry_list_extend (F.args_list_extend_2 _ _)
    (AutoSeq1.list_extend_list_list_0 l its.toArray n b its2.toArray n2 hlong (by rw [List.size_toArray]; omega) (by omega)) ⟨e, e2, ?_⟩
  refine ⟨.non, _, I.lset (its' := its ++ its2) hH e (by simp) (r.append r2) ?_, rfl, q⟩
  rw [List.length_append]
  omega
def rPop : V → List V → Hp → VK → Prop := fun x vs H Q => ∃ l xs y, x = .ref l ∧ vs = [] ∧ H l = some (.lst xs) ∧ xs[xs.length - 1]? = some y ∧ Q y (upd H l (.lst xs.dropLast))
def rPopAt : V → List V → Hp → VK → Prop := fun x vs H Q => ∃ l xs i k y, x = .ref l ∧ vs = [.int i] ∧ H l = some (.lst xs) ∧ -(2 ^ 63) ≤ i ∧ i < 2 ^ 63 ∧ seqIndex? i xs.length = some k ∧ xs[k]? = some y ∧ Q y (upd H l (.lst (xs.eraseIdx k)))
def rReverse : V → List V → Hp → VK → Prop := fun x vs H Q => ∃ l xs, x = .ref l ∧ vs = [] ∧ H l = some (.lst xs) ∧ Q .non (upd H l (.lst xs.reverse))
def rClear : V → List V → Hp → VK → Prop := fun x vs H Q => ∃ l xs, x = .ref l ∧ vs = [] ∧ H l = some (.lst xs) ∧ Q .non (upd H l (.lst []))
theorem mt_clear : MtM X "list.clear" rClear := by
  intro pins s σ H x vs v us Q I rx rv h
  obtain ⟨l, xs, rfl, rfl, hH, q⟩ := h
  cases rx
  have hus := rv.zero
  subst hus
  obtain ⟨z, its, n, r, hl, e⟩ := I.lstM hH
  refine call_meets F.slot_list_clear ⟨_, e, rfl⟩ F.entry_list_clear (F.args_list_clear_1 _) (AutoSeq1.list_clear_list_0 l its.toArray n (by rw [List.size_toArray]; omega)) ⟨e, ?_⟩
  exact ⟨.non, _, I.lset (its' := []) (ys := []) hH e rfl .nil (Nat.zero_le _), rfl, q⟩
def rCat : R2 := fun x y H Q => ∃ l b xs zs, x = .ref l ∧ y = .ref b ∧ H l = some (.lst xs) ∧ H b = some (.lst zs) ∧ xs.length + zs.length ≤ sizeLine ∧ ∀ p, H p = none → Q (.ref p) (upd H p (.lst (xs ++ zs)))
theorem op_cat : OpR X (binaryOp .Add) rCat := by
  intro pins s σ H x y v u Q I rx ry h
  obtain ⟨l, b, xs, zs, rfl, rfl, hH, hB, hz, q⟩ := h
  cases rx
  cases ry
  obtain ⟨z, its, n, r, hl, e⟩ := I.lstM hH
  obtain ⟨z2, its2, n2, r2, hl2, e2⟩ := I.lstM hB
  refine PySem.P.add_list e e2 ?_ (by rw [List.size_toArray, List.size_toArray]; omega)
  have ea : its.toArray ++ its2.toArray = (its ++ its2).toArray := by simp
  rw [ea]
  exact ⟨.ref _, _, I.lnew (t' := s.toks) (r.append r2) (by rw [List.length_append]; omega), rfl, q _ I.fresh⟩
def rRep : R2 := fun x y H Q => ∃ l k xs, x = .ref l ∧ y = .int k ∧ H l = some (.lst xs) ∧ -(2 ^ 63) ≤ k ∧ k < 2 ^ 63 ∧ xs.length * k.toNat ≤ sizeLine ∧
  ∀ p, H p = none → Q (.ref p) (upd H p (.lst (List.replicate k.toNat xs).flatten))
theorem len_rep {α : Type} (xs : List α) (k : Nat) : (List.replicate k xs).flatten.length = k * xs.length := by
  induction k with
  | zero => simp
  | succ k ih => rw [List.replicate_succ, List.flatten_cons, List.length_append, ih, Nat.succ_mul, Nat.add_comm]
theorem op_rep : OpR X (binaryOp .Mult) rRep := by
  intro pins s σ H x y v u Q I rx ry h
  obtain ⟨l, k, xs, rfl, rfl, hH, h1, h2, hz, q⟩ := h
  cases rx
  obtain ⟨t, rfl⟩ := ry
  obtain ⟨z, its, n, r, hl, e⟩ := I.lstM hH
  have hlen : its.toArray.size * k.toNat ≤ sizeLine := by rw [List.size_toArray, ← hl]; exact hz
  have hcap : ¬ its.toArray.size * k.toNat > (2 ^ 63 - 1) / 8 := by
    have : (sizeLine : Nat) ≤ (2 ^ 63 - 1) / 8 := by decide
    omega
  have hfit : ¬ (!Builtin.List.listFitsIndex k) = true := by
    rw [fitsIndex_both h1 h2]
    exact Bool.false_ne_true
  have hlong : ¬ Builtin.List.listTooLong (its.toArray.size * k.toNat) = true := by
    rw [notLongL hlen]
    exact Bool.false_ne_true
  have hnew : List.foldl (fun x1 x2 => x1 ++ x2) #[] (List.replicate (if its.toArray.isEmpty = true then 0 else k.toNat) its.toArray) = (List.replicate k.toNat its).flatten.toArray := by
    have f0 : ∀ m : Nat, List.foldl (fun x1 x2 => x1 ++ x2) #[] (List.replicate m its.toArray) = (List.replicate m its).flatten.toArray := fun m => by
      have := foldl_rep its m []
      rw [List.nil_append] at this
      exact this
    rw [f0]
    cases its with
    | nil => simp
    | cons a r' => rw [if_neg (by simp)]
  refine wpAny_binaryOp_repeat_ref (T := "list") (U := "int") (by decide) ⟨_, e, rfl⟩ (fun s' => typeIs_int s' k t) noFill_list_mul F.fills_int_mul F.slot_int_rmul repeat_list F.slot_int_index.lookup
    (call_meets F.slot_int_rmul (typeIs_int s k t) F.entry_int_rmul (F.args_int_rmul_2 _ _) (int___rmul___int_list k t l its.toArray n)
      ⟨e, rfl, ⟨_, e, rfl⟩, call_meets F.slot_list_mul ⟨_, e, rfl⟩ F.entry_list_mul (F.args_list_mul_2 _ _) (AutoListH.list___mul___list_int_3 l its.toArray n k t hfit hcap hlong) ⟨e, ?_⟩⟩)
  rw [hnew]
  exact ⟨.ref _, _, I.lnew (t' := s.toks) (r.rep k.toNat) (by rw [len_rep, Nat.mul_comm]; exact hz), rfl, q _ I.fresh⟩
end
section
variable {prog : Program} {w : World} {A : Around} {E : Value → Shared → Prop} {s : Shared}
theorem bounds_run {a c n : Nat} (hac : a ≤ c) (hc : c ≤ n) : sliceBounds (some (a : Int)) (some (c : Int)) none n = ((a : Int), (c : Int), 1) := by
  simp only [sliceBounds, Option.getD_none]
  have h1 : ¬ ((a : Int) < 0) := by omega
  have h2 : ¬ ((c : Int) < 0) := by omega
  simp only [h1, h2, if_false, show (1 : Int) > 0 by decide, if_true]
  congr 1
  · omega
  · congr 1; omega
set_option maxRecDepth 100000 in
theorem setItem_slice {l b sl : Addr} {items new : Array Value} {n n2 : Nat} {vl vu : Value} {a c : Nat} {Q : Unit → Shared → Prop}
    (e : s.heap.get? l = some { cls := .type "list", data := .seq items n }) (e2 : s.heap.get? b = some { cls := .type "list", data := .seq new n2 }) (hne : l ≠ b)
    (hs : s.heap.IsSliceOf sl vl vu .none) (pl : IsPart vl (some (a : Int))) (pu : IsPart vu (some (c : Int))) (hac : a ≤ c) (hc : c ≤ items.size)
    (hsz : items.size + new.size ≤ sizeLine) (h : Q () { s with heap := s.heap.update l (Obj.mapSeq fun xs => xs.extract 0 a ++ new ++ xs.extract c xs.size) }) :
    wpAny (model prog w) A (setItem (.ref l) (.ref sl) (.ref b)) Q E s := by
  have hl : s.heap.IsList l items := PySem.IsL.isList e
  have hb : s.heap.IsList b new := PySem.IsL.isList e2
  obtain ⟨os, hos, hcs, hds⟩ := id hs
  have hTs : s.TypeIs (.ref sl) "slice" := ⟨os, hos, hcs⟩
  have hstep : ¬ ((rawPart none == rawInt 0) = true) := Bool.false_ne_true
  have hsame : Builtin.List.listSameRef (.ref l) (.ref b) = false := by
    unfold Builtin.List.listSameRef
    exact beq_eq_false_iff_ne.mpr hne
  have hmax : (max (a : Int) (c : Int)).toNat = c := by omega
  have hz' : ((fun xs : Array Value => xs.extract 0 a ++ new ++ xs.extract c xs.size) items).size ≤ sizeLine + 1 := by
    simp only [Array.size_append, Array.size_extract]
    omega
  unfold setItem
  try with_reducible refine wpAny_holding ?_
  first | refine wpAny_bind (wpAny_pure ?_) | skip
  refine wpAny_bind (wpAny_sequenceKey hl.typeIs (by decide) ?_)
  refine wpAny_bind (wpAny_callSpecial?_slot (name := Str.ofString "__setitem__") hl.typeIs slot_list_setitem
    (wpAny_call_entry slot_list_setitem hl.typeIs entry_list_setitem ?_ (args_list_setitem _ _ _)))
  show wpAny _ _ (Builtin.List.listSubscript? (.ref sl) >>= _) _ _ s
  refine wpAny_bind ?_
  unfold Builtin.List.listSubscript?
  refine wpAny_bind (wpAny_specialOf hTs slice_no_index ?_)
  simp only [Option.isNone_none, if_true]
  refine wpAny_pure ?_
  show wpAny _ _ (typeOf (.ref sl) >>= _) _ _ s
  refine wpAny_bind (wpAny_typeOf hTs ?_)
  first
    | rw [if_neg (by decide)]
    | refine PySem.W.KFB.if_not (by decide) ?_
  rw [listSliceParts_eq]
  refine wpAny_bind (wpAny_bind (wpAny_field hos hds (x := .none) rfl (wpAny_bind (wpAny_listPart .none ?_))))
  rw [if_neg hstep]
  refine wpAny_bind (wpAny_field hos hds (x := vl) rfl (wpAny_bind (wpAny_listPart pl ?_)))
  refine wpAny_bind (wpAny_field hos hds (x := vu) rfl (wpAny_bind (wpAny_listPart pu (wpAny_pure ?_))))
  first
    | simp only [hsame, Bool.false_eq_true, if_false]
    | refine PySem.W.KFB.if_not hsame ?_
    | (dsimp only
       rw [if_neg (by rw [hsame]; exact Bool.false_ne_true)])
  refine wpAny_bind (m := Builtin.List.listAllItems (.ref b) "must assign iterable to extended slice") ?_
  unfold Builtin.List.listAllItems
  refine wpAny_bind (wpAny_typeOf hb.typeIs ?_)
  first
    | refine PySem.W.KFB.if_so (by decide) ?_
    | rw [if_pos (by decide)]
    | simp only [beq_self_eq_true, Bool.true_or, if_true]
  unfold Builtin.List.listItems
  refine wpAny_bind (wpAny_seqItems e2 rfl (wpAny_pure ?_))
  refine wpAny_bind (wpAny_bind (wpAny_seqItems e rfl (wpAny_pure ?_)))
  refine wpAny_bind (wpAny_of_eq ((sliceIndices_raw (some (a : Int)) (some (c : Int)) none items.size (by simp)).trans (congrArg (pure : Int × Int × Int → Sem (Int × Int × Int)) (bounds_run hac hc))) ?_)
  show wpAny _ _ (if ((1 : Int) == 1) = true then _ else _) _ _ s
  rw [if_pos (by decide)]
  refine wpAny_bind (wpAny_rule ?_)
  first
    | simp only [notLongL hsz, Bool.false_eq_true, if_false]
    | refine PySem.W.KFB.if_not (notLongL hsz) ?_
  first | refine wpAny_bind (wpAny_pure ?_) | skip
  show wpAny _ _ (updateSeq l (fun xs => xs.extract 0 ((a : Int)).toNat ++ new ++ xs.extract (max (a : Int) (c : Int)).toNat xs.size) >>= _) _ _ s
  rw [hmax, Int.toNat_natCast]
  refine wpAny_bind (wpAny_updateSeq (hz := Nat.le_trans (Nat.le_add_right _ _) hsz) (_hz' := hz') e rfl ?_)
  refine wpAny_bind (wpAny_letGo ?_)
  first
    | exact wpAny_bind (wpAny_pure (wpAny_pure ⟨.none, rfl, wpAny_pure h⟩))
    | exact wpAny_pure ⟨.none, rfl, wpAny_pure h⟩
end
section
variable {X : Cx}
end
end L2
namespace Att
open PySem PySem.W PySem.Calls PyProof.Rows
theorem ints_of_wellAll {P : Params} {h : Heap} : ∀ (ns : List Int) (vs : List Value), WellAll P h vs (ns.map WData.int) → IntsAre vs ns := by
  intro ns
  induction ns with
  | nil =>
    intro vs w
    rw [List.map_nil] at w
    cases w
    exact .nil
  | cons n ns ih =>
    intro vs w
    rw [List.map_cons] at w
    cases w with
    | cons a b =>
      cases a
      exact .cons _ _ (ih _ b)
theorem script_of {l : OpenLaw} {n : Nat} (hn : l.most = some n) {P : Params} {h : Heap} {args : List WData} {vals : List Value}
    (hpre : l.row.toRowW.claim.pre args = true) (hwl : WellAll P h vals args) :
    ∃ a vs ns, vals = [Value.ref a] ∧ args = [WData.list (ns.map WData.int)] ∧ h.get? a = some { cls := .type "list", data := .seq vs.toArray } ∧ IntsAre vs ns ∧ ns.length ≤ n := by
  have hsh : WShape.hasAll [] args [.list .int] = true := (pre_splitW hpre).1
  have hc : l.pre.holds [] { args := args } = true := (pre_splitW hpre).2
  obtain ⟨d, r, rfl, h1, h2⟩ := hasAllW_cons hsh
  obtain rfl := hasAllW_nil h2
  obtain ⟨xs, rfl, h3⟩ := hasW_list h1
  obtain ⟨ns, rfl⟩ := items_int h3
  have hlen : ns.length ≤ n := by
    unfold OpenLaw.pre at hc
    have h4 : (WTm.not (.lt (.lit (.int (n : Int))) (.len (.arg 0)))).holds [] { args := [.list (ns.map .int)] } = true := by
      have h4 := (holds_andW hc).1
      rw [hn] at h4
      exact h4
    have h5 := condW_of h4 (w_not (w_lt w_lit (w_len_list (w_arg rfl))))
    rw [List.length_map] at h5
    refine Nat.le_of_not_lt fun q => ?_
    have q' : (n : Int) < ((ns.length : Nat) : Int) := by omega
    first
      | (rw [decide_eq_true q'] at h5; exact absurd h5 (by decide))
      | (simp at h5; omega)
  cases hwl with
  | cons w1 w2 =>
    cases w2
    cases w1 with
    | list ho hall => exact ⟨_, _, ns, rfl, rfl, ho, ints_of_wellAll ns _ hall, hlen⟩
theorem post_true (l : OpenLaw) (args : List WData) : l.row.toRowW.claim.post args (.bool true) args = true :=
  postW_of (r := l.row.toRowW) (X := (true == true))
    (show WShape.has [] (.bool true) .bool = true by first | rfl | decide | simp [WShape.has, WShape.arms, WShape.armsAll])
    (show (WTm.eq .res (.lit (.bool true))).value [] { args := args, res := some (.bool true), after := args } = some (.bool (true == true)) from w_eq_bool (w_res rfl) w_lit) rfl
theorem attach_call {l : OpenLaw} {n : Nat} {q : Program} {loose : List Str} {XP : (Str → Option Value) → Heap → Prop} {YP : World → Heap → Prop} {d : DefRec}
    (hn : l.most = some n) (hdf : d.params.defaults = [])
    (call : ∀ (w : World) (s₀ s₁ : Shared) (mg mb : Str → Option Value) (fa : Addr) (o : Obj) (pm cd doc : Value) (a : Addr) (vs : List Value) (ns : List Int),
      Ground q loose [] XP w s₀ mg mb s₁.heap → YP w s₁.heap →
      s₁.heap.get? fa = some o → o.data = .func (docDef d.name d.params d.body d.scope pm cd doc) → s₁.heap.CodeRec cd d.name → mg d.name = some (.ref fa) →
      s₁.heap.get? a = some { cls := .type "list", data := .seq vs.toArray } → IntsAre vs ns → ns.length ≤ n → s₁.gens = #[] →
      codeAny (model l.prog w) callerA (.call (.ref fa) ⟨[.ref a], []⟩) (fun r s' => r = .ok (.ret (.bool true)) ∧ OldK s₁.heap s'.heap ∧ s'.os = s₁.os ∧ AllBare s'.gens) s₁) :
    WalkO q loose XP YP l.row.toRowW d [] (fun f vs => PySem.call f vs) := by
  intro w s₀ s₁ mg mb G Y fa o pm cd doc dV kV ho hd hcd hD hmg hg args vals as hpre hlay hrd hwl hlo
  obtain rfl : dV = .none := Dflts.none hD hdf
  obtain rfl : kV = .none := Dflts.noKw hD
  obtain ⟨a, vs, ns, rfl, rfl, hobj, hints, hlen⟩ := script_of hn hpre hwl
  refine enter_call (codeAny_mono (call w s₀ s₁ mg mb fa o pm cd doc a vs ns G Y ho (fd_plain hd) hcd hmg hobj hints hlen hg) fun r s' hq => ?_)
  obtain ⟨rfl, h2, h3, h4⟩ := hq
  exact ⟨.inl ⟨.bool true, .bool true, [], rfl, fun _ => rfl, .bool true, post_true l _, fun _ => ⟨List.Pairwise.nil, fun _ hm => (nomatch hm)⟩⟩, h2, h3, h4⟩
section
variable {prog : Program} {w : World} {A : Around} {E : Value → Shared → Prop} {s : Shared} {K : Frag}
def noObjs (h : Heap) : Heap := { h with objs := #[] }
def ledger (h : Heap) (L d : Addr) : List (Addr × Obj) := (List.range h.objs.size).filterMap fun a => if a = L ∨ a = d then none else (h.get? a).map fun o => (a, o)
end
end Att
namespace L2
open PySem PySem.Spec PyProof.Rows
theorem vals_ints : ∀ {vs : List Value} {ns : List Int}, IntsAre vs ns → Vals (ns.map V.int) vs
  | _, _, .nil => .nil
  | _, _, .cons n t h => .cons ⟨t, rfl⟩ (vals_ints h)
def Only (H : Hp) : Prop := ∀ b, H b = none ∨ ∃ o xs, H b = some (.frz o (.lst xs))
theorem law_call {P : Program} {w : World} {K : PySem.W.Frag} {mg mb : Str → Option Value} {CX : CXT} {k : Nat} {fa a : Addr} {fd : FuncData} {x : Str} {sp : Sp} {s₁ : Shared} {vs : List Value} {ns : List Int}
    (KX : K.In s₁.heap) (hns : s₁.heap.Ns mainGlobals mg) (hb : s₁.heap.Ns builtinsNs mb) (hbb : ∀ x : Str, x ≠ "__name__" → mb x = bootBuiltins x) (hlim : s₁.heap.NoLimit) (hg : s₁.gens = #[])
    (ha : s₁.heap.get? a = some { cls := .type "list", data := .seq vs.toArray }) (hi : IntsAre vs ns) (hl : ns.length ≤ sizeLine) (hr : Room k callerA)
    (F : ∀ base : Heap, K.In base → base.Ns mainGlobals mg → FnOk P w K mg base CX k fa fd [x] sp) (hbind : ∀ (s : Shared) (u : Value), BindsTo s fd ⟨[u], []⟩ [(x, u)])
    (hsp : ∀ H : Hp, Only H → SqL K H a (ns.map V.int) → sp [.ref a] H (fun v _ => v = .bl true) fun _ _ _ => False)
    (hCX : ∀ H e s', CX [] H s₁ (fun _ _ _ => False) e s' → False) :
    codeAny (model P w) callerA (.call (.ref fa) ⟨[.ref a], []⟩) (fun r s' => r = .ok (.ret (.bool true)) ∧ OldK s₁.heap s'.heap ∧ s'.os = s₁.os ∧ AllBare s'.gens) s₁ := by
  have rv := vals_ints hi
  have lenV := hi.length
  have core : ∀ H : Hp, Only H → SqL K H a (ns.map V.int) → HOk P w H s₁.heap → (∀ b, H b ≠ none → b = a) → (H a ≠ none → K.lookup a = none) →
      codeAny (model P w) callerA (.call (.ref fa) ⟨[.ref a], []⟩) (fun r s' => r = .ok (.ret (.bool true)) ∧ OldK s₁.heap s'.heap ∧ s'.os = s₁.os ∧ AllBare s'.gens) s₁ := by
    intro H hO hS hok hA hK
    have base_of : ∀ {b : Addr} {o : Obj}, s₁.heap.get? b = some o → H b = none → (hidT s₁.heap H).get? b = some o := fun e n => hidT_get e n
    have noA : ∀ {b : Addr} {o : Obj} {es : Array DictEntry} {ep : Nat}, s₁.heap.get? b = some o → o.data = .dict es ep → H b = none := fun {b o es ep} e d => by
      cases q : H b with
      | none => rfl
      | some u =>
        have e' : b = a := hA b (by rw [q]; simp)
        subst e'
        rw [ha] at e; cases e
        have d' : Data.seq vs.toArray _ = Data.dict es ep := d
        cases d'
    have nsK : ∀ {b : Addr} {m : Str → Option Value}, s₁.heap.Ns b m → (hidT s₁.heap H).Ns b m := fun {b m} ⟨o, es, ep, e, d, r⟩ => ⟨o, es, ep, base_of e (noA e d), d, r⟩
    have hKb : K.In (hidT s₁.heap H) := fun b o e => base_of (KX b o e) (by
      cases q : H b with
      | none => rfl
      | some u =>
        have e' : b = a := hA b (by rw [q]; simp)
        subst e'
        rw [hK (by rw [q]; simp)] at e; cases e)
    have hM : Mod K mg (hidT s₁.heap H) := ⟨hKb, nsK hns, ⟨mb, nsK hb, hbb⟩, let ⟨mc, h1, h2⟩ := hlim; ⟨mc, nsK h1, h2⟩⟩
    have e0 : Env0 P w K mg (hidT s₁.heap H) callerA [] s₁ H := ⟨rfl, hM, fun b o e => of_hidT e, Nat.le_of_eq (hidT_size _ _), trivial, fun b hb => absurd (show b ∈ ([] : List Addr) from hb) (by simp), hok, .of_eq hg⟩
    refine codeAny_mono ((F _ hKb (nsK hns)).run callerA [] s₁ H ⟨[.ref a], []⟩ [.ref a] [.ref a] _ _ hr e0 (hbind s₁ (.ref a)) (.cons rfl .nil) (hsp H hO hS)) fun r s' h => ?_
    cases r with
    | error e => exact (hCX H e s' h).elim
    | ok fl =>
      cases fl with
      | next => exact False.elim h
      | brk => exact False.elim h
      | cont => exact False.elim h
      | ret u =>
        obtain ⟨v, H', os, bare, un, hok', r', q⟩ := h
        have q' : v = .bl true := q
        subst q'
        obtain rfl : u = Value.bool true := r'
        refine ⟨rfl, OldK.of_keep fun b o e => ?_, os, bare⟩
        cases q : H b with
        | none => exact un.keep b o e q (by intro z; exact absurd (show b ∈ ([] : List Addr) from z) (by simp)) (by simp)
        | some u =>
          rcases hO b with z | ⟨ob, xs, z⟩
          · rw [q] at z; cases z
          · have z2 := un.frzs b ob _ z
            obtain ⟨e1, _⟩ := hok b _ z
            obtain ⟨e2, _⟩ := hok' b _ z2
            rw [e] at e1; cases e1
            exact e2
  cases hk : K.lookup a with
  | some o =>
    have e := KX a o hk
    rw [ha] at e
    cases e
    refine core (fun _ => none) (fun _ => .inl rfl) (.inr ⟨_, vs.toArray, _, hk, rfl, rfl, rfl, by rw [List.size_toArray, lenV]; exact hl, by simpa using rv⟩) (fun b u z => by have z' : (none : Option HO) = some u := z; cases z') (fun b z => absurd rfl z) fun z => absurd rfl z
  | none =>
    refine core (fun b => if b = a then some (.frz { cls := .type "list", data := .seq vs.toArray } (.lst (ns.map V.int))) else none) (fun b => ?_) (.inl (.inr ⟨{ cls := .type "list", data := .seq vs.toArray }, if_pos rfl⟩)) (fun b u z => ?_) (fun b z => ?_) fun _ => hk
    · by_cases hb : b = a
      · exact .inr ⟨_, _, if_pos hb⟩
      · exact .inl (if_neg hb)
    · by_cases hb : b = a
      · have z' := (if_pos hb).symm.trans z
        cases z'
        subst hb
        exact ⟨ha, by rw [List.length_map]; exact hl, vs, _, rv, ha⟩
      · have z' := (if_neg hb).symm.trans z
        cases z'
    · by_cases hb : b = a
      · exact hb
      · exact absurd (if_neg hb) z
end L2
namespace L2
open PySem PySem.Spec PyProof.Rows
abbrev KOf {K : PySem.W.Frag} {h : Heap} (_ : K.In h) : PySem.W.Frag := K
theorem walk_of {l : PySem.W.OpenLaw} {n k : Nat} {q : Program} {loose : List Str} {XP : (Str → Option Value) → Heap → Prop} {YP : World → Heap → Prop} {d : DefRec} {K : Params → PySem.W.Frag} {CX : World → CXT} {sp : World → Sp} {x : Str}
    (hn : l.most = some n) (hn2 : n ≤ sizeLine) (hdf : d.params.defaults = []) (hr : Room k callerA)
    (hY : ∀ (w : World) (h : Heap), YP w h → (K w.params).In h)
    (F : ∀ (w : World) (mg : Str → Option Value) (fa : Addr) (h : Heap), (K w.params).In h → h.Ns mainGlobals mg → mg d.name = some (.ref fa) →
      ∃ fd : FuncData, (∀ (s : Shared) (u : Value), BindsTo s fd ⟨[u], []⟩ [(x, u)]) ∧
        ∀ base : Heap, (K w.params).In base → base.Ns mainGlobals mg → FnOk l.prog w (K w.params) mg base (CX w) k fa fd [x] (sp w))
    (hsp : ∀ (w : World) (H : Hp) (a : Addr) (ns : List Int), ns.length ≤ n → Only H → SqL (K w.params) H a (ns.map V.int) → sp w [.ref a] H (fun v _ => v = .bl true) fun _ _ _ => False)
    (hCX : ∀ (w : World) (H : Hp) (s : Shared) (e : Value) (s' : Shared), CX w [] H s (fun _ _ _ => False) e s' → False) :
    PySem.W.WalkO q loose XP YP l.row.toRowW d [] (fun f vs => PySem.call f vs) := by
  refine Att.attach_call hn hdf fun w s₀ s₁ mg mb fa o pm cd doc a vs ns G Y ho hd hcd hmg hobj hints hlen hg => ?_
  have KX := hY w _ Y
  obtain ⟨fd, hb, hF⟩ := F w mg fa _ KX G.T.g hmg
  exact law_call KX G.T.g G.T.b G.T.builtins G.T.nolimit hg hobj hints (Nat.le_trans hlen hn2) hr hF hb (fun H hO hS => hsp w H a ns hlen hO hS) fun H e s' => hCX w H s₁ e s'
end L2
/- THE LAST THEOREM (shape; LID, My.* are yours):
   My.Adr: a structure of the addresses that your layer names (classes, functions); My.Txt K t: a structure (Prop) of the equations over K;
   My.txt_mk : {K} {implicit addresses ..} (e1 : nsIn K mainGlobals "law" = some (some (.ref f))) (e2 : K.lookup f = some ⟨oc, od, .func (fnOf "law" "law" params body scope dV kV doc pm an cdv ct), sl⟩) (e3 : codeIn K cdv "law" = true) .. : ∃ t, My.Txt K t
set_option maxRecDepth 100000 in
set_option maxHeartbeats 0 in
theorem PySem.Challenge.cw_LID_holds : PySem.Challenge.rw_LID.Holds := by
  w_on; o_law; k_head; (case hw => w_witness2)
  k_fill
  refine L2.walk_of (l := PySem.Challenge.rw_LID) (n := 63) (k := 40) (x := "script") (CX := fun w => ..) (sp := fun _ => My.sp_law) rfl (by decide) rfl ⟨rfl, by decide, by decide⟩ (fun w h Y => PySem.W.kIn_of Y) ?F ?S ?C
  case F =>
    intro w mg fa h KX G hmg
    have T : ∃ t, My.Txt (L2.KOf KX) t := by
      dsimp only [L2.KOf]                          -- K must stand as «<heap const> w.params» for k_is
      refine' My.txt_mk ?e1 ?e2 ?e3 ..
      (case e1 => PySem.W.k_is)                    -- in the order: a name -> its address -> its object -> its parts
      (case e2 => PySem.W.k_is)
      ..
    obtain ⟨t, T⟩ := T
    have e0 := hmg.symm.trans (PySem.W.mg_of KX G T.law)
    cases e0                                       -- fa is the law's own address
    exact ⟨_, fun s u => .of_eq rfl, fun base kb nb => My.law_fn T kb nb⟩     -- if «.of_eq rfl» comes too early: refine' ⟨_, ?b, fun base kb nb => My.law_fn T kb nb⟩; exact fun s u => .of_eq rfl
  case S => exact fun w H a ns hl hO hS => ..
  case C => exact ..
(the tactic k_is has no namespace: write k_is) -/
namespace L2
open PySem PySem.Spec PyProof.Rows
def inClass (s : Stmt) (j : Nat) : Stmt := match s with
  | .ClassDef _ _ _ body _ _ _ _ _ _ _ => body.getD j (.Pass ⟨0, 0, 0, 0⟩)
  | _ => .Pass ⟨0, 0, 0, 0⟩
def defArgs (s : Stmt) : Arguments := match s with
  | .FunctionDef _ a _ _ _ _ _ _ _ _ => a
  | _ => { posonlyargs := [], args := [], vararg := none, kwonlyargs := [], kw_defaults := [], kwarg := none, defaults := [] }
def defBody (s : Stmt) : List Stmt := match s with
  | .FunctionDef _ _ b _ _ _ _ _ _ _ => b
  | _ => []
def defScope (s : Stmt) : Scope := match s with
  | .FunctionDef _ _ _ _ _ _ sc _ _ _ => sc
  | _ => { kind := .function, names := [], isGenerator := false, isCoroutine := false }
abbrev CX0 : CXT := fun _ _ _ _ _ _ => False
abbrev E0 : XK := fun _ _ _ => False
theorem pass0 {X : Cx} : Passes CX0 X E0 := fun _ _ _ _ _ _ _ h => h.elim
structure Fun (K : PySem.W.Frag) (x qual : Str) (st : Stmt) (f : Addr) (fd : FuncData) : Prop where
  ex : ∃ (oc : Value) (od : Option Addr) (kV doc pm : Value) (an : Option Addr) (cdv ct : Value) (osl : Array (Option Value)),
    fd = PySem.W.fnOf x qual (defArgs st) (defBody st) (defScope st) .none kV doc pm an cdv ct ∧ K.lookup f = some ⟨oc, od, .func fd, osl⟩ ∧ PySem.W.codeIn K cdv qual = true
  kp : PySem.W.keepIn K (.ref f) = true
section
variable {P : Program} {w : World} {K : PySem.W.Frag} {mg : Str → Option Value} {base : Heap}
theorem Fun.ok {x qual : Str} {st : Stmt} {f : Addr} {fd : FuncData} {N ps : List Str} {k : Nat} {sp : Sp} (F : Fun K x qual st f fd) (S : FnScope N ps (defScope st)) (len : ∀ vs H Q E, sp vs H Q E → vs.length = ps.length)
    (hbody : ∀ (cdv : Value) (A : Around) (outer : List Env) (s : Shared) (H : Hp) (vs : List V) (Q : VK) (E : XK), Room k (A.deeper (envOfC qual (defScope st) s.heap.objs.size f cdv)) → sp vs H Q E →
      ∃ t, PSs (cxOf CX0 P w K mg base N qual (defScope st) f cdv A outer s H E).nox (defBody st) t ∧ t { nx := fun _ H' => Q .non H', rt := Q } (start N vs) H) : FnOk P w K mg base CX0 (k + 1) f fd ps sp := by
  obtain ⟨oc, od, kV, doc, pm, an, cdv, ct, osl, rfl, lk, hcd⟩ := F.ex
  refine fn_of lk hcd S len fun A outer s H vs Q E hr hsp => ?_
  obtain ⟨t, h, q⟩ := hbody cdv A outer s H vs Q E hr hsp
  exact ⟨t, h.nox, q⟩
theorem Fun.binds {x qual : Str} {st : Stmt} {f : Addr} {fd : FuncData} {ps : List Str} (F : Fun K x qual st f fd)
    (h : ∀ (kV doc pm : Value) (an : Option Addr) (cdv ct : Value) (us : List Value), us.length = ps.length → bindArgs (PySem.W.fnOf x qual (defArgs st) (defBody st) (defScope st) .none kV doc pm an cdv ct) ⟨us, []⟩ = pure (ps.zip us)) : Binds K fd ps [] := by
  obtain ⟨oc, od, kV, doc, pm, an, cdv, ct, osl, rfl, lk, hcd⟩ := F.ex
  exact .all (h kV doc pm an cdv ct)
theorem fun_mk {x qual : Str} {st : Stmt} {f : Addr} {oc : Value} {od an : Option Addr} {osl : Array (Option Value)} {kV doc pm cdv ct : Value} (l : K.lookup f = some ⟨oc, od, .func (PySem.W.fnOf x qual (defArgs st) (defBody st) (defScope st) .none kV doc pm an cdv ct), osl⟩)
    (c : PySem.W.codeIn K cdv qual = true) (k : PySem.W.keepIn K (.ref f) = true) : Fun K x qual st f (PySem.W.fnOf x qual (defArgs st) (defBody st) (defScope st) .none kV doc pm an cdv ct) := ⟨⟨oc, od, kV, doc, pm, an, cdv, ct, osl, rfl, l, c⟩, k⟩
end
theorem small1000 {n : Nat} (h : n ≤ 1000) : n < sizeLine := Nat.lt_of_le_of_lt h (by decide)
section
variable {X : Cx}
theorem pv (i : Nat) {x : Str} {pos : Pos} (hN : X.N[i]? = some x := by rfl) (hv : Vis X.env.scope x := by first | exact Or.inl rfl | exact Or.inr (Or.inl rfl) | exact Or.inr (Or.inr rfl)) (hd : (x == ("__debug__" : Str)) = false := by decide)
    (hcd : (x == ("__classdict__" : Str)) = false := by decide) : PE X (.Name x pos) (tVar i) := pe_var hN hv hd hcd
end
theorem iteF {A B : Prop} (h : B) : if false = true then A else B := by
  rw [if_neg Bool.false_ne_true]
  exact h
theorem iteT {A B : Prop} (h : A) : if true = true then A else B := by
  rw [if_pos rfl]
  exact h
theorem ite2 {c A B : Prop} [Decidable c] (h1 : c → A) (h2 : ¬ c → B) : if c then A else B := by
  by_cases h : c
  · rw [if_pos h]
    exact h1 h
  · rw [if_neg h]
    exact h2 h
def Same (H H' : Hp) : Prop := ∀ b o, H b = some o → H' b = some o
theorem Same.refl (H : Hp) : Same H H := fun _ _ h => h
theorem Same.trans {H H1 H2 : Hp} (a : Same H H1) (b : Same H1 H2) : Same H H2 := fun c o h => b c o (a c o h)
theorem Same.free {H H' : Hp} (e : Same H H') {l : Addr} (h : H' l = Option.none) : H l = Option.none := by
  cases q : H l with
  | none => rfl
  | some o =>
    rw [e l o q] at h
    cases h
theorem Same.seq {K : PySem.W.Frag} {H H' : Hp} {a : Addr} {xs : List V} (e : Same H H') (h : SqL K H a xs) : SqL K H' a xs := by
  rcases h with (h | ⟨o, h⟩) | h
  · exact .inl (.inl (e _ _ h))
  · exact .inl (.inr ⟨o, e _ _ h⟩)
  · exact .inr h
end L2
set_option Elab.async false
set_option linter.all false
set_option maxRecDepth 100000
namespace L2
open PySem PySem.Spec PyProof.Rows
section
variable {prog : Program} {w : World} {A : Around} {R : Result → Shared → Prop} {s : Shared}
theorem compLoop_any {elt target iter : Expr} {ifs : List Expr} {scope : Scope} {pos : Pos} {it acc : Value} {env : Env} (I : Nat → Shared → Prop)
    (turn : ∀ n s, I n s → wpAny (model prog w) A (pyNext it) (fun r s1 => match r with
      | none => R (.ok .next) s1
      | some v => wpAny (model prog w) A (letOwnedTupleGo target it v) (fun _ s2 => wpAny (model prog w) A (assign target env v) (fun _ s3 =>
          wpAny (model prog w) A (forIn ifs true fun c r => if r = true then do let ok ← isTrue c env (eval c env); pure (ForInStep.yield ok) else pure (ForInStep.yield r)) (fun ok s4 =>
            if ok = true then wpAny (model prog w) A (eval elt env) (fun x s5 =>
              wpAny (model prog w) A (call (.builtin "list.append") [acc, x]) (fun _ s6 => ∃ m, m < n ∧ I m s6) (fun _ _ => False) s5) (fun _ _ => False) s4
            else ∃ m, m < n ∧ I m s4) (fun _ _ => False) s3) (fun _ _ => False) s2) (fun _ _ => False) s1) (fun _ _ => False) s)
    (n : Nat) (h : I n s) :
    codeAny (model prog w) A (.compLoop (.ListComp elt [⟨target, iter, ifs, 0⟩] scope pos) 0 it acc env) R s := by
  have nof : ∀ {α : Type} {t : Sem α} {Q Q' : α → Shared → Prop} {E : Value → Shared → Prop} {s : Shared}, wpAny (model prog w) A t Q (fun _ _ => False) s → (∀ a s, Q a s → Q' a s) → wpAny (model prog w) A t Q' E s :=
    fun h1 h2 => wpAny_mono h1 h2 fun _ _ f => f.elim
  refine codeAny_loop rfl I (fun n s hI => ?_) n h
  show wpAny _ A (Sem.onRaise (compTurn (.ListComp elt [⟨target, iter, ifs, 0⟩] scope pos) 0 it acc env) (fun x => do noteFrame x env; theTreesLotGoes x)) _ _ s
  refine wpAny_noted ?_
  rw [compTurn_list]
  refine wpAny_bind (wpAny_standAt (wpAny_bind (nof (turn n s hI) (fun r s1 h1 => ?_))))
  cases r with
  | none => exact wpAny_pure h1
  | some v =>
    refine wpAny_bind (nof h1 fun _ s2 h2 => ?_)
    refine wpAny_bind (nof h2 fun _ s3 h3 => ?_)
    refine wpAny_bind (nof h3 fun ok s4 h4 => ?_)
    cases ok with
    | false => exact wpAny_pure ⟨rfl, h4⟩
    | true => exact wpAny_bind (wpAny_bind (nof h4 fun x s5 h5 => wpAny_bind (nof h5 fun _ s6 h6 => wpAny_pure (wpAny_pure ⟨rfl, h6⟩))))
end
theorem closure_ok {env : Env} : ∀ {names : List (Str × NameKind)} (acc : List (Str × Addr)), (∀ n, (n, NameKind.free) ∈ names → ∃ c, env.cells.lookup n = some c) → (∀ x c, acc.lookup x = some c → env.cells.lookup x = some c) →
    ∃ cl, (forIn (m := Sem) names acc fun (p : Str × NameKind) cs => if p.2 == .free then do let c ← cellOf env p.1; pure (ForInStep.yield ((p.1, c) :: cs)) else pure (ForInStep.yield cs)) = pure cl ∧
      (∀ x c, cl.lookup x = some c → env.cells.lookup x = some c) ∧ (∀ x, (acc.lookup x).isSome = true → (cl.lookup x).isSome = true) ∧ ∀ n, (n, NameKind.free) ∈ names → (cl.lookup n).isSome = true
  | [], acc, _, h => ⟨acc, rfl, h, fun _ e => e, fun _ e => by simp at e⟩
  | (n, k) :: r, acc, hf, h => by
    by_cases hk : k = .free
    · subst hk
      obtain ⟨c, hc⟩ := hf n List.mem_cons_self
      have hn : ∀ x d, ((n, c) :: acc).lookup x = some d → env.cells.lookup x = some d := fun x d e => by
        rw [List.lookup_cons] at e
        by_cases hx : (x == n) = true
        · rw [hx] at e
          have e1 : x = n := eq_of_beq hx
          subst e1
          cases e
          exact hc
        · rw [Bool.not_eq_true] at hx
          rw [hx] at e
          exact h x d e
      obtain ⟨cl, e, h1, h2, h3⟩ := closure_ok (env := env) (names := r) ((n, c) :: acc) (fun m hm => hf m (List.mem_cons_of_mem _ hm)) hn
      have has : (((n, c) :: acc).lookup n).isSome = true := by rw [List.lookup_cons, beq_self_eq_true]; rfl
      refine ⟨cl, ?_, h1, fun x hx => h2 x ?_, fun m hm => ?_⟩
      · rw [List.forIn_cons, ← e]
        have ec : cellOf env n = pure c := by unfold cellOf; rw [hc]
        simp only [ec, beq_self_eq_true, if_true, pure_bind]
      · rw [List.lookup_cons]
        split
        · rfl
        · exact hx
      · rcases List.mem_cons.mp hm with z | z
        · cases z; exact h2 _ has
        · exact h3 m z
    · have hb : (k == NameKind.free) = false := by simpa using hk
      obtain ⟨cl, e, h1, h2, h3⟩ := closure_ok (env := env) (names := r) acc (fun m hm => hf m (List.mem_cons_of_mem _ hm)) h
      refine ⟨cl, ?_, h1, h2, fun m hm => ?_⟩
      · rw [List.forIn_cons, ← e]
        simp only [hb, Bool.false_eq_true, if_false, pure_bind]
      · rcases List.mem_cons.mp hm with z | z
        · cases z; exact absurd rfl hk
        · exact h3 m z
theorem closure_of {env : Env} {scope : Scope} (hf : ∀ n, (n, NameKind.free) ∈ scope.names → ∃ c, env.cells.lookup n = some c) :
    ∃ cl, closureFor scope env = pure cl ∧ (∀ x c, cl.lookup x = some c → env.cells.lookup x = some c) ∧ ∀ n, (n, NameKind.free) ∈ scope.names → (cl.lookup n).isSome = true := by
  obtain ⟨cl, e, h1, _, h3⟩ := closure_ok (env := env) (names := scope.names) [] hf (fun x c e => by simp at e)
  refine ⟨cl, ?_, h1, h3⟩
  rw [closureFor, ← bind_pure (pure cl), ← e]
def capS (cap : List (Option Nat)) (σ : St) : St := cap.map fun k => k.bind fun k => (σ[k]?).bind id
structure CapOk (X : Cx) (scope : Scope) (N' : List Str) (cap : List (Option Nat)) : Prop where
  len : cap.length = N'.length
  at_ : ∀ (j k : Nat), cap[j]? = some (some k) → ∃ x, N'[j]? = some x ∧ X.N[k]? = some x ∧ scope.names.lookup x = some .free ∧ X.env.kindOf x = some .cell
structure CScope (scope : Scope) : Prop where
  kind : scope.kind = .function
  cell : ∀ y ∈ scope.names, y.2 ≠ .cell
  names : ∀ y ∈ scope.names, y.2 = .local → scope.names.lookup y.1 = some .local
def cxComp (X : Cx) (N' : List Str) (scope : Scope) (cl : List (Str × Addr)) (C : Addr) (fp : List Addr) (s : Shared) (H : Hp) : Cx :=
  { X with N := N', s₀ := s, H₀ := H, env := compEnvC scope cl C X.env, outer := X.stack, stack := X.stack, ex := fp, fn := fun _ => false, pn := [], xe := fun _ _ => False }
theorem relabel_look {env : Env} {x : Str} (hk : (env.scope.kind == .function) = true) (he : env.kindOf x = some .cell) : ∀ {names : List (Str × NameKind)}, names.lookup x = some .free →
    (names.map fun (n, k) => if (k == NameKind.free && env.scope.kind == .function && env.kindOf n == some .cell) then (n, NameKind.cell) else (n, k)).lookup x = some .cell
  | [], h => by simp at h
  | (n, k) :: r, h => by
    have ih := @relabel_look env x hk he r
    show List.lookup x ((if (k == NameKind.free && env.scope.kind == .function && env.kindOf n == some .cell) = true then (n, NameKind.cell) else (n, k)) :: _) = _
    cases hx : x == n with
    | true =>
      simp only [List.lookup_cons, hx] at h
      cases h
      have e1 : x = n := eq_of_beq hx
      subst e1
      rw [if_pos (by rw [hk, he]; rfl)]
      simp [List.lookup_cons]
    | false =>
      simp only [List.lookup_cons, hx] at h
      split <;> (simp only [List.lookup_cons, hx]; exact ih h)
theorem relabel_free {env : Env} {x : Str} : ∀ {names : List (Str × NameKind)}, (∀ y ∈ names, y.2 ≠ .cell) →
    ((names.map fun (n, k) => if (k == NameKind.free && env.scope.kind == .function && env.kindOf n == some .cell) then (n, NameKind.cell) else (n, k)).lookup x = some .cell ∨
     (names.map fun (n, k) => if (k == NameKind.free && env.scope.kind == .function && env.kindOf n == some .cell) then (n, NameKind.cell) else (n, k)).lookup x = some .free) → (x, NameKind.free) ∈ names := by
  intro names hc h
  have hm : (x, NameKind.cell) ∈ (names.map fun (n, k) => if (k == NameKind.free && env.scope.kind == .function && env.kindOf n == some .cell) then (n, NameKind.cell) else (n, k)) ∨
      (x, NameKind.free) ∈ (names.map fun (n, k) => if (k == NameKind.free && env.scope.kind == .function && env.kindOf n == some .cell) then (n, NameKind.cell) else (n, k)) :=
    h.imp PySem.mem_of_lookup PySem.mem_of_lookup
  have key : ∀ k', (x, k') ∈ (names.map fun (n, k) => if (k == NameKind.free && env.scope.kind == .function && env.kindOf n == some .cell) then (n, NameKind.cell) else (n, k)) → (k' = .cell ∨ k' = .free) → (x, NameKind.free) ∈ names := by
    intro k' hk' hor
    obtain ⟨⟨n, k⟩, hn, e⟩ := List.mem_map.mp hk'
    dsimp only at e
    split at e
    · rename_i hcond
      have hfr : k = .free := by
        simp only [Bool.and_eq_true] at hcond
        exact eq_of_beq hcond.1.1
      subst hfr
      cases e
      exact hn
    · cases e
      rcases hor with rfl | rfl
      · exact absurd rfl (hc _ hn)
      · exact hn
  rcases hm with z | z
  · exact key _ z (.inl rfl)
  · exact key _ z (.inr rfl)
section
variable {X : Cx} {pins : List (Addr × Obj)} {σ : St} {H : Hp} {s : Shared} {N' : List Str} {scope : Scope} {cap : List (Option Nat)} {cl : List (Str × Addr)} {fp : List Addr} {h4 : Heap}
theorem inv_comp (I : Inv X pins σ H s) (S : CScope scope) (hcap : CapOk X scope N' cap) (hcl : ∀ x c, cl.lookup x = some c → X.env.cells.lookup x = some c) (hcl2 : ∀ n, (n, NameKind.free) ∈ scope.names → (cl.lookup n).isSome = true)
    (hf : ∀ b ∈ fp, FpOk X pins H b) (ho : ∀ b ∈ fp, b < s.heap.objs.size) {m : Str → Option Value} (hns : h4.Ns s.heap.objs.size m) (k : ∀ b o, s.heap.get? b = some o → h4.get? b = some o) (t : Nat) :
    Inv (cxComp X N' scope cl s.heap.objs.size fp s H) [] (capS cap σ) H { s with heap := h4, toks := t } := by
  have hkf : (X.env.scope.kind == ScopeKind.function) = true := by rw [I.ok.kind]; rfl
  refine ⟨⟨I.ok.mod, S.kind, I.ok.glob, I.ok.blt, Nat.le_refl _, fun x y c h1 h2 => I.ok.inj x y c (hcl x c h1) (hcl y c h2), fun x hx => ?_, fun x c z => absurd z (by simp [cxComp]), I.ok.hd, I.ok.frames, .inl rfl, fun b hb => ⟨?_, fun x c e => (hf b hb).2.2.2.2.1 x c (hcl x c e)⟩,
    I.bs, Nat.le_trans I.ok.bsz I.sz, fun b o e hb => ?_, fun b hb hfs => ?_, I.stack, I.stkFree⟩, rfl, I.bare, Un.kept k, ⟨m, hns, fun i x v hN hσ hv => ?_⟩, fun x c e => ?_, I.hok.fresh (Nat.le_refl _), fun x c e => I.freeC x c (hcl x c e), fun p hp => absurd hp (by simp [cxComp]), I.hok.kept k, ?_⟩
  · have hx' := relabel_free (env := X.env) S.cell hx
    exact Option.isSome_iff_exists.mp (hcl2 x hx')
  · exact Nat.ne_of_lt (ho b hb)
  · rcases (hf b hb).2.2.2.1 with z | z
    · exact I.ok.noex b o e z
    · exact absurd (Nat.lt_of_lt_of_le (Heap.lt_size e) (Nat.le_trans I.ok.bsz z)) (Nat.lt_irrefl _)
  · rcases List.mem_cons.mp (I.stkSub b hfs) with z | z
    · exact (hf b hb).2.1 z
    · exact (hf b hb).2.2.1 z
  · have hcap1 : ∃ kk, cap[i]? = some (some kk) ∧ σ[kk]? = some (some v) := by
      unfold capS at hσ
      rw [List.getElem?_map] at hσ
      cases e1 : cap[i]? with
      | none => rw [e1] at hσ; cases hσ
      | some o =>
        rw [e1] at hσ
        cases o with
        | none => cases hσ
        | some kk =>
          refine ⟨kk, rfl, ?_⟩
          have hσ' : (σ[kk]?).bind id = some v := Option.some.inj hσ
          cases e2 : σ[kk]? with
          | none => rw [e2] at hσ'; cases hσ'
          | some o2 => rw [e2] at hσ'; exact congrArg some hσ'
    obtain ⟨kk, e1, e2⟩ := hcap1
    obtain ⟨x', g1, g2, g3, g4⟩ := hcap.at_ i kk e1
    have ex : x = x' := Option.some.inj (hN.symm.trans g1)
    subst ex
    obtain ⟨m0, _, hl⟩ := I.loc
    obtain ⟨u, ru, lk⟩ := hl kk x v g2 e2 (.inr (.inl g4))
    refine ⟨u, ru, ?_⟩
    rcases lk with ⟨z, _⟩ | ⟨_, c, hc, hcell⟩
    · rw [g4] at z; cases z
    · obtain ⟨c', hc'⟩ := Option.isSome_iff_exists.mp (hcl2 x (PySem.mem_of_lookup g3))
      have e3 := hcl x c' hc'
      rw [hc] at e3
      cases e3
      obtain ⟨oc, g5, g6⟩ := hcell
      exact .inr ⟨.inl (relabel_look hkf g4 g3), c, hc', oc, k _ _ g5, g6⟩
  · obtain ⟨v, oc, g5, g6⟩ := I.cell x c (hcl x c e)
    exact ⟨v, oc, k _ _ g5, g6⟩
  · show (capS cap σ).length = N'.length
    unfold capS
    rw [List.length_map]
    exact hcap.len
end
def PTs (X : Cx) (ifs : List Expr) (t : TT) : Prop :=
  ∀ (pins : List (Addr × Obj)) (s : Shared) (σ : St) (H : Hp) (Q : Bool → Hp → Prop), Inv X pins σ H s → t σ H Q →
    wpAny (model X.prog X.w) X.A (forIn ifs true fun c r => if r = true then do let ok ← isTrue c X.env (eval c X.env); pure (ForInStep.yield ok) else pure (ForInStep.yield r)) (TP X pins σ Q) X.xe s
def tNoIf : TT := fun _ H Q => Q true H
theorem pts_nil {X : Cx} : PTs X [] tNoIf := fun _ _ _ H _ I h => wpAny_pure ⟨H, I, h⟩
theorem pts_one {X : Cx} {c : Expr} {t : TT} (h : PT X c t) : PTs X [c] t := fun pins s σ H Q I q => wpAny_tests_one (h pins s σ H Q I q)
def SubS (σ σ' : St) : Prop := σ'.length = σ.length ∧ ∀ (i : Nat) v, σ[i]? = some (some v) → σ'[i]? = some (some v)
theorem SubS.refl (σ : St) : SubS σ σ := ⟨rfl, fun _ _ e => e⟩
theorem SubS.set {σ σ' : St} {j : Nat} {v : V} (h : SubS σ σ') (hj : σ[j]? = some none) : SubS σ (σ'.set j (some v)) := by
  refine ⟨by rw [List.length_set]; exact h.1, fun i u e => ?_⟩
  by_cases hi : j = i
  · subst hi; rw [hj] at e; cases e
  · rw [List.getElem?_set_ne hi]; exact h.2 i u e
def tComp (wi : TI) (g : TG) (tc : TT) (te : TE) (cap : List (Option Nat)) : TE := fun σ H Q => wi σ H fun J H1 => ∀ D, H1 D = none → ∃ W : Nat → Nat → Hp → Prop, (∃ m, W 0 m (upd H1 D (.lst []))) ∧ ∀ i m H2, W i m H2 →
  (J.stop i H2 ∧ Q (.ref D) H2) ∨ (J.go i H2 ∧ ∀ x H3, J.yld i H2 x H3 → g x (capS cap σ) H3 fun σ4 H4 => SubS (capS cap σ) σ4 ∧ tc σ4 H4 fun b H5 =>
    if b = true then te σ4 H5 fun y H6 => ∃ ys, H6 D = some (.lst ys) ∧ ys.length < sizeLine ∧ ∃ m', m' < m ∧ W (i + 1) m' (upd H6 D (.lst (ys ++ [y]))) else ∃ m', m' < m ∧ W (i + 1) m' H5)
theorem comp_core {X : Cx} {elt tg iter : Expr} {ifs : List Expr} {scope : Scope} {pos : Pos} {wi : TI} {g : TG} {tc : TT} {te : TE} {N' : List Str} {cap : List (Option Nat)} {pins : List (Addr × Obj)} {s : Shared} {σ : St} {H : Hp} {Q : VK} {use : Option (Value → Sem Unit)} {Qv : Value → Shared → Prop} {cl : List (Str × Addr)} (hcalm : X.calm = true) (S : CScope scope)
    (hclos : closureFor scope X.env = pure cl) (hcl : ∀ x c, cl.lookup x = some c → X.env.cells.lookup x = some c) (hcl2 : ∀ n, (n, NameKind.free) ∈ scope.names → (cl.lookup n).isSome = true) (hcap : CapOk X scope N' cap) (hi : PI X tg iter wi) (hg : ∀ cl C fp s H, PG (cxComp X N' scope cl C fp s H) tg g)
    (hc : ∀ cl C fp s H, PTs (cxComp X N' scope cl C fp s H) ifs tc) (he : ∀ cl C fp s H, PE (cxComp X N' scope cl C fp s H) elt te) (hs : ∀ x, foldedSetIterable iter X.env x = pure x)
    (I : Inv X pins σ H s) (h : tComp wi g tc te cap σ H Q)
    (fin : ∀ (D : Addr) (fp : List Addr) (s3 s6 : Shared) (H3 H5 : Hp), Inv X pins σ H3 s3 → (∀ b ∈ fp, FpOk X pins H3 b) → Inv (cxComp X N' scope cl s3.heap.objs.size fp s3 H3) [] (capS cap σ) H5 s6 → Q (.ref D) H5 → compPost (model X.prog X.w) X.A X.xe use Qv (.ref D) s3.heap.objs.size (.ok .next) s6) :
    wpAny (model X.prog X.w) X.A (comprehension (.ListComp elt [⟨tg, iter, ifs, 0⟩] scope pos) scope X.env (firstIterPos [⟨tg, iter, ifs, 0⟩] pos) (newList []) (firstAsync [⟨tg, iter, ifs, 0⟩]) (firstIter [⟨tg, iter, ifs, 0⟩] X.env) use) Qv X.xe s := by
  refine wpAny_comprehension_free (use := use) rfl hs hclos S.kind S.names (thn (hi pins s σ H _ I h) fun xv s1 h1 => thn h1 fun itv s2 h2 => ?_)
  obtain ⟨it, fp, tn, J, H2, rfl, I2, T, st2, f2, hR⟩ := h2
  have fpo : ∀ b ∈ fp, b < s2.heap.objs.size := fun b hb => by obtain ⟨o, e, _⟩ := T.obj _ _ st2 b hb; exact Heap.lt_size e
  refine wpAny_newList ?_
  have I3 : Inv X pins σ (upd H2 s2.heap.objs.size (.lst [])) { s2 with heap := s2.heap.push { cls := .type "list", data := .seq ([] : List Value).toArray }, toks := s2.toks } := I2.lnew (its := []) (ys := []) .nil (Nat.zero_le _)
  obtain ⟨W, ⟨m0, w0⟩, turn⟩ := hR s2.heap.objs.size I2.fresh
  have f3 : ∀ b ∈ fp, FpOk X pins (upd H2 s2.heap.objs.size (.lst [])) b := fun b hb => ⟨by rw [upd_ne (Nat.ne_of_lt (fpo b hb))]; exact (f2 b hb).1, (f2 b hb).2⟩
  generalize hH3 : upd H2 s2.heap.objs.size (.lst []) = H3 at I3 w0 f3
  generalize hD : s2.heap.objs.size = D at I3 turn f3 hH3
  have st3 : tn 0 (s2.heap.push { cls := .type "list", data := .seq ([] : List Value).toArray }) := T.keep _ _ _ st2 fun b hb o e => Heap.get?_push_of_some _ e
  have fpo3 : ∀ b ∈ fp, b < (s2.heap.push { cls := .type "list", data := .seq ([] : List Value).toArray }).objs.size := fun b hb => by rw [Heap.size_push]; exact Nat.lt_succ_of_lt (fpo b hb)
  generalize hs3 : ({ s2 with heap := s2.heap.push { cls := .type "list", data := .seq ([] : List Value).toArray }, toks := s2.toks } : Shared) = s3 at I3
  have hs3' : s2.heap.push { cls := .type "list", data := .seq ([] : List Value).toArray } = s3.heap := by rw [← hs3]
  rw [hs3'] at st3 fpo3
  refine wpAny_newFunctionEnv S.cell (by intro y hy; simp at hy) (fun h4 hns4 hsb4 => ?_) S.kind
  have k34 : ∀ b o, s3.heap.get? b = some o → h4.get? b = some o := fun b o e => (hsb4.2 b (Nat.ne_of_lt (Heap.lt_size e))).trans (Heap.get?_push_of_some _ e)
  have J4 := inv_comp (N' := N') (cap := cap) I3 S hcap hcl hcl2 f3 fpo3 hns4 k34 (s3.toks + ([] : List (Str × Value)).length)
  have st4 : tn 0 h4 := T.keep _ _ _ st3 fun b hb o e => k34 b o e
  have stat : ∀ {H' : Hp}, (∀ b ∈ fp, H' b = none) → ∀ b ∈ fp, FpOk (cxComp X N' scope cl s3.heap.objs.size fp s3 H3) [] H' b := fun hn b hb =>
    ⟨hn b hb, Nat.ne_of_lt (fpo3 b hb), fun hfs => (by
      rcases List.mem_cons.mp (I3.stkSub b hfs) with z | z
      · exact (f3 b hb).2.1 z
      · exact (f3 b hb).2.2.1 z), .inl hb, fun x c e => (f3 b hb).2.2.2.2.1 x c (hcl x c e), fun p hp => absurd hp (by simp [cxComp])⟩
  have loop : codeAny (model X.prog X.w) X.A (.compLoop (.ListComp elt [⟨tg, iter, ifs, 0⟩] scope pos) 0 (.ref it) (.ref D) (compEnvC scope cl s3.heap.objs.size X.env))
      (compPost (model X.prog X.w) X.A X.xe use Qv (.ref D) s3.heap.objs.size) { s3 with heap := h4, toks := s3.toks + ([] : List (Str × Value)).length } := by
    refine compLoop_any (fun n s' => ∃ i H', Inv (cxComp X N' scope cl s3.heap.objs.size fp s3 H3) [] (capS cap σ) H' s' ∧ tn i s'.heap ∧ (∀ b ∈ fp, H' b = none) ∧ W i n H') ?_ m0 ⟨0, H3, J4, st4, fun b hb => (f3 b hb).1, w0⟩
    rintro n s5 ⟨i, H5, I5, st5, fr5, w5⟩
    rcases turn i n H5 w5 with ⟨stop, q⟩ | ⟨go, step⟩
    · refine thn (T.done (cxComp X N' scope cl s3.heap.objs.size fp s3 H3) rfl rfl rfl hcalm i [] s5 _ H5 _ I5 (stat fr5) st5 stop) fun r s6 ⟨hr, I6⟩ => ?_
      subst hr
      exact fin D fp s3 s6 H3 H5 I3 f3 I6 q
    · refine thn (T.item (cxComp X N' scope cl s3.heap.objs.size fp s3 H3) rfl rfl rfl hcalm i [] s5 _ H5 _ I5 (stat fr5) st5 go) fun r s6 ⟨u, hr, h6⟩ => ?_
      subst hr
      refine thn h6 fun _ s7 ⟨x, H7, I7, r7, y7, st7, fr7⟩ => ?_
      have I7' := I7.pinned (stat fr7) (T.obj _ _ st7)
      have again : ∀ {s9 : Shared} {σ9 : St} {H9 : Hp} {m' : Nat}, SubS (capS cap σ) σ9 → Inv (cxComp X N' scope cl s3.heap.objs.size fp s3 H3) ([] ++ pinsAt fp s7.heap) σ9 H9 s9 → m' < n → W (i + 1) m' H9 →
          ∃ m, m < n ∧ ∃ i H', Inv (cxComp X N' scope cl s3.heap.objs.size fp s3 H3) [] (capS cap σ) H' s9 ∧ tn i s9.heap ∧ (∀ b ∈ fp, H' b = none) ∧ W i m H' := fun {s9 σ9 H9 m'} sub I9 hm w9 => by
        refine ⟨m', hm, i + 1, H9, I9.unpinned.weak sub.1.symm sub.2, T.keep _ _ _ st7 fun b hb o e => (I9.pin (b, o) (List.mem_append_right _ (List.mem_append_right _ (mem_pinsAt hb e)))).1, fun b hb => ?_, w9⟩
        obtain ⟨o, e, d⟩ := T.obj _ _ st7 b hb
        exact (I9.pin (b, o) (List.mem_append_right _ (List.mem_append_right _ (mem_pinsAt hb e)))).2.1
      refine thn (hg _ _ _ _ _ _ s7 _ H7 x u _ I7' r7 (step x H7 y7)) fun _ s8 ⟨σ8, H8, I8, sub8, q8⟩ => ?_
      refine thn (hc _ _ _ _ _ _ s8 σ8 H8 _ I8 q8) fun ok s9 ⟨H9, I9, q9⟩ => ?_
      cases ok with
      | false =>
        obtain ⟨m', hm, w'⟩ := q9
        exact again sub8 I9 hm w'
      | true =>
        refine thn (he _ _ _ _ _ _ s9 σ8 H9 _ I9 q9) fun v s10 ⟨y, H10, I10, r10, ys, hDy, hlen, m', hm, w'⟩ => ?_
        refine thn (mt_append _ s10 σ8 H10 (.ref D) [y] (.ref D) [v] (fun _ H11 => H11 = upd H10 D (.lst (ys ++ [y]))) I10 rfl (.cons r10 .nil) ⟨D, ys, y, rfl, rfl, hDy, hlen, rfl⟩) fun _ s11 ⟨_, H11, I11, _, e11⟩ => ?_
        subst e11
        exact again sub8 I11 hm w'
  exact codeAny_compStart_list loop (T.self _ 0 _ _ _ st4 loop)
theorem pe_comp {X : Cx} {elt tg iter : Expr} {ifs : List Expr} {scope : Scope} {pos : Pos} {wi : TI} {g : TG} {tc : TT} {te : TE} {N' : List Str} {cap : List (Option Nat)} (hcalm : X.calm = true) (S : CScope scope)
    (hfree : ∀ y ∈ scope.names, y.2 = .free → X.env.kindOf y.1 = some .cell) (hcap : CapOk X scope N' cap) (hi : PI X tg iter wi) (hg : ∀ cl C fp s H, PG (cxComp X N' scope cl C fp s H) tg g)
    (hc : ∀ cl C fp s H, PTs (cxComp X N' scope cl C fp s H) ifs tc) (he : ∀ cl C fp s H, PE (cxComp X N' scope cl C fp s H) elt te) (hs : ∀ x, foldedSetIterable iter X.env x = pure x := by intro _; rfl) :
    PE X (.ListComp elt [⟨tg, iter, ifs, 0⟩] scope pos) (tComp wi g tc te cap) := by
  intro pins s σ H Q I h
  have hcells : ∀ n, (n, NameKind.free) ∈ scope.names → ∃ c, X.env.cells.lookup n = some c := fun n hn => I.ok.has n (.inl (hfree _ hn rfl))
  obtain ⟨cl, hclos, hcl, hcl2⟩ := closure_of hcells
  rw [eval_ListComp]
  refine comp_core hcalm S hclos hcl hcl2 hcap hi hg hc he hs I h fun D fp s3 s6 H3 H5 I3 f3 I6 q => ?_
  obtain ⟨m6, hn6, _⟩ := I6.loc
  refine ⟨m6, hn6, fun h7 hs7 => ⟨.ref D, H5, ?_, rfl, q⟩⟩
  have nC : ∀ b o, s3.heap.get? b = some o → b ≠ s3.heap.objs.size := fun b o e => Nat.ne_of_lt (Heap.lt_size e)
  have u6 : Un (frs X.stack) fp H3 H5 s3.heap s6.heap := I6.base
  have u7 : Un (frs X.stack) fp H3 H5 s3.heap h7 := ⟨fun b o e n1 n2 n3 => (hs7.2 b (nC b o e)).trans (u6.keep b o e n1 n2 n3), fun b o e n1 n2 n3 => by
      obtain ⟨sl, e1⟩ := u6.slot b o e n1 n2 n3
      exact ⟨sl, (hs7.2 b (nC b o e)).trans e1⟩, u6.free, fun b o e n3 => by
      obtain ⟨o', e1⟩ := u6.there b o e n3
      exact ⟨o', (hs7.2 b (nC b o e)).trans e1⟩, u6.tups, u6.frzs, u6.tbls⟩
  have hok7 : HOk X.prog X.w H5 h7 := fun a o e => (I6.hok a o e).stay (fun b u hb e1 => (hs7.2 b (by
      intro z
      have hfr : H5 s3.heap.objs.size = none := I6.free
      rcases hb with rfl | hb
      · rw [z, hfr] at e; cases e
      · rw [z, hfr] at hb; cases hb)).trans e1) (fun _ z => z) fun _ _ z => z
  exact I3.call' (s' := { s6 with heap := h7 }) I6.os u7 hok7 I6.bare fun b hb => ⟨(f3 b hb).2.2.2.1, (f3 b hb).2.1, (f3 b hb).2.2.2.2.1, (f3 b hb).2.2.2.2.2⟩
end L2
set_option Elab.async false
set_option linter.all false
set_option maxRecDepth 100000
namespace L2
open PySem PySem.Spec PyProof.Rows
section
variable {X : Cx} {a b : Expr} {ta tb : TE} {pos : Pos} {tg : Expr}
def CDivB (_ j : Int) : Prop := 0 < j ∧ j < 2 ^ 1000
theorem op_fdivB : OpR X (binaryOp .FloorDiv) (rI CDivB fun i j => .int (i / j)) := opI fun i j _ _ _ _ _ hc q => by
  obtain ⟨h1, h2⟩ := hc
  have h3 : j.natAbs < 2 ^ 1000 := by
    have e : ((j.natAbs : Nat) : Int) = j := Int.natAbs_of_nonneg (Int.le_of_lt h1)
    have e2 : ((2 ^ 1000 : Nat) : Int) = 2 ^ 1000 := by rw [Int.natCast_pow]; rfl
    exact Int.ofNat_lt.mp (by rw [e2, e]; exact h2)
  have h4 : j.natAbs ≠ 0 := by omega
  refine floordiv_int (by omega) (by rw [Int.fdiv_eq_ediv_of_nonneg i (Int.le_of_lt h1)]; exact q) (.inl (PyProof.noPylong_of_log2 ?_))
  exact Nat.lt_trans ((Nat.log2_lt h4).mpr h3) (by decide)
def CMulB (i j : Int) : Prop := CMul i j ∨ (i.natAbs < 2 ^ 1000 ∧ j.natAbs < 2 ^ 1000)
theorem intBits_le {k : Int} {n : Nat} (h : k.natAbs < 2 ^ n) : Builtin.Int.intBits k ≤ n := by
  unfold Builtin.Int.intBits
  split
  · exact Nat.zero_le _
  · rename_i hk
    have h0 : k.natAbs ≠ 0 := by
      intro z
      exact hk (by have : k = 0 := by omega
                   subst this; rfl)
    exact (Nat.log2_lt h0).mpr h
theorem CMulB.ok {i j : Int} (h : CMulB i j) : IntMulOk i j := by
  rcases h with h | ⟨h1, h2⟩
  · exact h.ok
  · have e1 := intBits_le h1
    have e2 := intBits_le h2
    unfold IntMulOk
    have e3 : Builtin.Int.intTooBig (Builtin.Int.intBits i + Builtin.Int.intBits j) = false := by
      unfold Builtin.Int.intTooBig
      have : ¬ (((Builtin.Int.intBits i : Nat) : Int) + ((Builtin.Int.intBits j : Nat) : Int) > (bitsLine : Nat)) := by
        have hb : (2000 : Nat) ≤ bitsLine := by decide
        omega
      exact decide_eq_false this
    rw [e3]
    simp
theorem op_mulB : OpR X (binaryOp .Mult) (rI CMulB fun i j => .int (i * j)) := opI fun _ _ _ _ _ _ _ hc q => mul_int q hc.ok
section
variable {prog : Program} {w : World} {A : Around} {E : Value → Shared → Prop} {s : Shared}
end
def Its (x : Str) : It := ⟨fun i _ => i < x.length, fun i H v H' => H' = H ∧ ∃ c, x.cps[i]? = some c ∧ v = .str ⟨#[c]⟩, fun i _ => i = x.length⟩
def iStr (tl : TE) : TI := fun σ H R => tl σ H fun x H1 => ∃ z, x = .str z ∧ R (Its z) H1
theorem go_strlike {M : Model} {A : Around} {E : Value → Shared → Prop} {s : Shared} {tg : Expr} {it : Value} {x : Str} {t : Tok} {Q : Unit → Shared → Prop} (h : Q () s) : wpAny M A (letOwnedTupleGo tg it (.str x t)) Q E s := by
  unfold letOwnedTupleGo
  cases tg <;> first
    | exact wpAny_pure h
    | (cases it <;> exact wpAny_pure h)
theorem turn_str {P : Program} {w : World} {K : PySem.W.Frag} {tg : Expr} (it : Addr) (x : Str) (t : Tok) (ty : String)
    (W : ∀ A' : Around, A'.handled = none → Walks P w A' it [it] [it] x.cps.size (SignAt x) (fun i h => h.IsStrIter it ty x t i))
    (self : ∀ (A : Around) (i : Nat) (s : Shared) (Q : Value → Shared → Prop) (E : Value → Shared → Prop), s.heap.IsStrIter it ty x t i → Q (.ref it) s → wpAny (model P w) A (pyIter (.ref it)) Q E s) :
    Turn P w K tg (Its x) [it] it (fun i h => h.IsStrIter it ty x t i) where
  mem := by simp
  obj := fun i h st b hb => by
    have e : b = it := by simpa using hb
    subst e
    obtain ⟨o, e, c, d⟩ := st
    exact ⟨o, e, fun v z => by rw [d] at z; cases z⟩
  keep := fun i h h' st k => by
    obtain ⟨o, e, r⟩ := st
    exact ⟨o, k it (by simp) o e, r⟩
  item := by
    intro X hP hw hK hc i pins s σ H E I hf st hg
    subst hP hw hK
    obtain ⟨f0, f1, f2, f3, f4, f5⟩ := hf it (by simp)
    refine (W X.A (I.ok.hd hc)).item i s _ _ hg st fun v h' tk hv st' kk => ?_
    obtain ⟨c, u, hcu, rfl⟩ := hv
    have I1 : Inv X pins σ H { s with heap := h', toks := tk } := I.turned (fun b o hb e => kk b o (by simpa using hb) e) f0 f1 f3 f4 f5
    exact ⟨_, rfl, go_strlike ⟨.str ⟨#[c]⟩, H, I1, ⟨u, rfl⟩, ⟨rfl, c, hcu, rfl⟩, st', fun b hb => (hf b hb).1⟩⟩
  done := by
    intro X hP hw hK hc i pins s σ H E I hf st hg
    subst hP hw hK
    obtain ⟨f0, f1, f2, f3, f4, f5⟩ := hf it (by simp)
    have e : i = x.cps.size := hg
    subst e
    exact (W X.A (I.ok.hd hc)).done s _ _ st fun h' tk kk => ⟨rfl, I.turned (fun b o hb e => kk b o (by simpa using hb) e) f0 f1 f3 f4 f5⟩
  self := fun A i s Q E st h => self A i s Q E st h
theorem Vals.insert {y : V} {u : Value} (ru : RelV y u) {xs : List V} {us : List Value} (k : Nat) (h : Vals xs us) : Vals (xs.take k ++ y :: xs.drop k) (us.take k ++ u :: us.drop k) :=
  Vals.append (Vals.take k h) (.cons ru (Vals.drop k h))
def rInsert : V → List V → Hp → VK → Prop := fun x vs H Q => ∃ l xs k y, x = .ref l ∧ vs = [.int k, y] ∧ H l = some (.lst xs) ∧ 0 ≤ k ∧ k < 2 ^ 62 ∧ xs.length < sizeLine ∧ Q .non (upd H l (.lst (xs.take k.toNat ++ y :: xs.drop k.toNat)))
theorem mt_insert : MtM X "list.insert" rInsert := by
  intro pins s σ H x vs v us Q I rx rv h
  obtain ⟨l, xs, k, y, rfl, rfl, hH, h0, h1, hz, q⟩ := h
  cases rx
  obtain ⟨u1, u, rfl, ⟨t, rfl⟩, ru⟩ := rv.two
  obtain ⟨z, its, n, r, hl, e⟩ := I.lstM hH
  have hfit : ¬ (!Builtin.List.listFitsIndex k) = true := by
    rw [fitsIndex_both (by omega) (by omega)]
    exact Bool.false_ne_true
  refine call_meets F.slot_list_insert ⟨_, e, rfl⟩ F.entry_list_insert (F.args_list_insert_3 _ _ _) (AutoSeq1.list_insert_list_int_val_1 l its.toArray n k t u hfit (by rw [List.size_toArray]; omega)) ⟨e, ?_⟩
  refine ⟨.non, _, I.lset (its' := its.take k.toNat ++ u :: its.drop k.toNat) hH e ?_ (r.insert ru k.toNat) ?_, rfl, q⟩
  · have hk : ¬ k < 0 := by omega
    simp only [hk, if_false, List.size_toArray]
    apply Array.ext'
    by_cases hm : k.toNat ≤ its.length
    · rw [Nat.min_eq_left hm]
      simp [List.take_append, List.drop_take, List.take_of_length_le]
    · have hm' : its.length ≤ k.toNat := by omega
      rw [Nat.min_eq_right hm', List.take_of_length_le hm', List.drop_of_length_le hm']
      simp
  · rw [List.length_append, List.length_cons, List.length_take, List.length_drop]
    omega
theorem bools_at {bs : List Bool} {us : List Value} (r : Vals (bs.map V.bl) us) {i : Nat} {v : Value} (h : us[i]? = some v) : ∃ b, bs[i]? = some b ∧ v = .bool b := by
  have hlen := r.length
  have hi : i < us.length := (List.getElem?_eq_some_iff.mp h).1
  have hi2 : i < bs.length := by rw [← hlen, List.length_map] at hi; exact hi
  have h2 : (bs.map V.bl)[i]? = some (V.bl bs[i]) := by rw [List.getElem?_map, List.getElem?_eq_getElem hi2]; rfl
  obtain ⟨u, hu, ru⟩ := r.get h2
  rw [h] at hu
  cases hu
  exact ⟨bs[i], List.getElem?_eq_getElem hi2, ru⟩
theorem range_all_bl : ∀ (bs : List Bool), ((List.range bs.length).all fun i => (bs[i]?).getD true) = bs.all id := by
  intro bs
  rw [Bool.eq_iff_iff, List.all_eq_true, List.all_eq_true]
  constructor
  · intro h b hb
    obtain ⟨i, hi, rfl⟩ := List.mem_iff_getElem.mp hb
    have := h i (List.mem_range.mpr hi)
    rw [List.getElem?_eq_getElem hi] at this
    exact this
  · intro h i hi
    have hi' := List.mem_range.mp hi
    rw [List.getElem?_eq_getElem hi']
    exact h _ (List.getElem_mem hi')
theorem kept_push {s : Shared} {h' : Heap} {o : Obj} (hk : ∀ b x, b ∉ [s.heap.objs.size] → (s.heap.push o).get? b = some x → h'.get? b = some x) : ∀ b x, s.heap.get? b = some x → h'.get? b = some x := fun b x e =>
  hk b x (fun hm => by
    have e1 := List.mem_singleton.mp hm
    have e2 := Heap.lt_size e
    rw [e1] at e2
    exact Nat.lt_irrefl _ e2) (Heap.get?_push_of_some _ e)
def rAll (K : PySem.W.Frag) : List V → Hp → VK → Prop := fun xs H Q => ∃ (p : Addr) (bs : List Bool), xs = [.ref p] ∧ SqL K H p (bs.map V.bl) ∧ Q (.bl (bs.all id)) H
def rAny (K : PySem.W.Frag) : List V → Hp → VK → Prop := fun xs H Q => ∃ (p : Addr) (bs : List Bool), xs = [.ref p] ∧ SqL K H p (bs.map V.bl) ∧ Q (.bl (bs.any id)) H
theorem call_all (hc : X.calm = true) : CallR X (.builtin "all") (rAll X.K) := by
  intro pins s σ H xs us Q I r h
  obtain ⟨p, bs, rfl, hq, q⟩ := h
  obtain ⟨u, rfl, rx⟩ := vals1 r
  cases rx
  obtain ⟨its, r', pl, hz⟩ := I.list hq
  have hl := pl.isList
  have hlt : p < s.heap.objs.size := by obtain ⟨_, e, _⟩ := hl; exact Heap.lt_size e
  refine call_all_walk (wpAny_pyIter_list hl ⟨s.heap.objs.size, [s.heap.objs.size, p], [s.heap.objs.size], its.toArray.size, _, _, fun i => (bs[i]?).getD true, rfl, Walks.list (A := X.A.in1) (I.ok.hd hc) _ p (Nat.ne_of_lt hlt) its.toArray,
    ⟨⟨_, Heap.get?_push_size _ rfl, rfl, rfl⟩, hl.push _⟩, fun i v s' Q' E' hP hQ => ?_, fun h' tk hk => ?_⟩)
  · obtain ⟨b, e, rfl⟩ := bools_at r' (by simpa using hP)
    have hQ2 : Q' ((bs[i]?).getD true) s' := hQ
    rw [e] at hQ2
    exact wpAny_truthy_bool hQ2
  · have hlen : its.toArray.size = bs.length := by rw [List.size_toArray, ← r'.length, List.length_map]
    rw [hlen, range_all_bl]
    exact ⟨.bl _, H, I.kept (kept_push hk), rfl, q⟩
def rIsi (K : PySem.W.Frag) : List V → Hp → VK → Prop := fun xs H Q => ∃ x t n c, xs = [x, .ty n] ∧ TyOf K H x t ∧ PySem.W.kitOne K t (.type n) = some c ∧ Q (.bl c) H
theorem call_isi : CallR X (.builtin "isinstance") (rIsi X.K) := by
  intro pins s σ H xs us Q I r h
  obtain ⟨x, t, n, c, rfl, ty, e, q⟩ := h
  obtain ⟨u, w', rfl, ru, rw'⟩ := vals2 r
  cases rw'
  exact isinst_ok I ru ty e fun tk => ⟨.bl c, H, I.tok tk, rfl, q⟩
theorem part_pair {v : Value} {o : Option Int} (h : IsPart v o) : ∃ p : Option (Int × Tok), v = partValue p ∧ p.map (·.1) = o := by
  cases h with
  | none => exact ⟨none, rfl, rfl⟩
  | int i t => exact ⟨some (i, t), rfl, rfl⟩
def rSlS : V → Option Int → Option Int → Hp → VK → Prop := fun x lo hi H Q => ∃ z, x = .str z ∧ z.length ≤ sizeLine ∧ Q (.str (Txt.slice z lo hi)) H
theorem sl_str : SlR X rSlS := by
  intro pins s σ H x v vl vu lo hi sl Q I rx hs pl pu h
  obtain ⟨z, rfl, hz, q⟩ := h
  obtain ⟨t, rfl⟩ := rx
  obtain ⟨l, rfl, rfl⟩ := part_pair pl
  obtain ⟨u, rfl, rfl⟩ := part_pair pu
  refine ⟨"str", _, F.slot_str_getitem.lookup, typeIs_str _ _ _, wpAny_getItem_str_slice (l := l) (u := u) (st := none) hs rfl ?_⟩
  refine post_val_or_str ⟨Nat.le_trans (Txt.slice_le z _ _) hz, fun t' k => ⟨.str _, H, I.tok k, ⟨t', rfl⟩, q⟩⟩
end
end L2
set_option Elab.async false
set_option linter.all false
set_option maxRecDepth 100000
namespace L2
open PySem PySem.Spec PyProof.Rows
section
variable {prog : Program} {w : World} {A : Around} {E : Value → Shared → Prop} {s : Shared}
theorem collect_seq {l : Addr} {vs : List Value} {T : String} {o : Obj} {n : Nat} {Q : List Value → Shared → Prop} (ho : s.heap.get? l = some o) (hc : o.cls = .type T) (hT : T = "list" ∨ T = "tuple") (hd : o.data = .seq vs.toArray n) (hsz : vs.length ≤ sizeLine)
    (h : Q vs { s with heap := (s.heap.push (seqObj "list" #[] 0)).update s.heap.objs.size (Obj.mapSeq (· ++ vs.toArray)) }) : wpAny (model prog w) A (collect (.ref l)) Q E s := by
  unfold collect
  refine wpAny_bind (wpAny_runValue (codeAny_builtin entry_proto_collect' ?_))
  show wpAny _ _ (newList [] >>= fun x => again (.builtin "list.__iadd__" ⟨[x, .ref l], []⟩)) _ _ s
  refine wpAny_bind (wpAny_newList (wpAny_pure ⟨Code.quiet_builtin _ (by decide +kernel), codeAny_builtin entry_list_iadd' ?_⟩))
  show wpAny _ _ (Builtin.List.listExtendWith (.ref s.heap.objs.size) (.ref l) (.ref s.heap.objs.size)) _ _ { s with heap := s.heap.push (seqObj "list" #[] 0) }
  unfold Builtin.List.listExtendWith
  have ho' : (s.heap.push (seqObj "list" #[] 0)).get? l = some o := Heap.get?_push_of_some _ ho
  refine wpAny_bind (wpAny_typeOf (T := T) ⟨o, ho', hc⟩ ?_)
  have ht : (Value.type T == Value.type "list" || Value.type T == Value.type "tuple") = true := by
    rcases hT with rfl | rfl <;> rfl
  rw [if_pos (by rw [Bool.or_assoc, ht, Bool.or_true])]
  refine wpAny_bind (listItems_at ho' hd ?_)
  refine wpAny_bind (listItems_at (xs := #[]) (n := 0) (Heap.get?_push_size _ rfl) rfl ?_)
  rw [if_neg (by simp)]
  refine wpAny_bind (listUpdate_at (xs := #[]) (n := 0) (Heap.get?_push_size _ rfl) rfl ?_ (Nat.zero_le _) (by show ((#[] : Array Value) ++ vs.toArray).size ≤ _; rw [Array.size_append, List.size_toArray]; show 0 + vs.length ≤ _; omega))
  refine wpAny_pure ?_
  show wpAny (model prog w) A (load s.heap.objs.size >>= fun o => match o.data with
      | .seq xs _ => pure xs.toList
      | _ => unsupported "internal:collect") Q E { s with heap := (s.heap.push (seqObj "list" #[] 0)).update s.heap.objs.size (Obj.mapSeq (· ++ vs.toArray)) }
  refine wpAny_bind (wpAny_load (get?_update_seq (Heap.get?_push_size _ rfl) _) ?_)
  show wpAny _ _ (pure (Array.toList ((#[] : Array Value) ++ vs.toArray))) Q E _
  have e1 : Array.toList ((#[] : Array Value) ++ vs.toArray) = vs := by simp
  rw [e1]
  exact wpAny_pure h
end
def rSortS (K : PySem.W.Frag) : List V → Hp → VK → Prop := fun xs H Q => ∃ p ss, xs = [.ref p] ∧ (SqL K H p (ss.map V.str) ∨ SqT K H p (ss.map V.str)) ∧ ss.length < 64 ∧
  ∀ l ss', H l = none → ss'.Perm ss → sortedS ss' = true → Q (.ref l) (upd H l (.lst (ss'.map V.str)))
abbrev D := PyData
mutual
def Rep (K : PySem.W.Frag) (H : Hp) : PyData → V → Prop
  | .none, v => v = .non
  | .bool b, v => v = .bl b
  | .int i, v => v = .int i
  | .str x, v => v = .str x
  | .tuple ds, v => ∃ a xs, v = .ref a ∧ SqT K H a xs ∧ RepL K H ds xs
  | .list ds, v => ∃ a xs, v = .ref a ∧ SqL K H a xs ∧ RepL K H ds xs
  | .dict _, _ => False
def RepL (K : PySem.W.Frag) (H : Hp) : List PyData → List V → Prop
  | [], xs => xs = []
  | d :: ds, xs => ∃ v vs, xs = v :: vs ∧ Rep K H d v ∧ RepL K H ds vs
end
theorem RepL.length {K : PySem.W.Frag} {H : Hp} : ∀ {ds : List D} {xs : List V}, RepL K H ds xs → xs.length = ds.length
  | [], _, h => by rw [show _ = [] from h]; rfl
  | d :: ds, _, h => by
    obtain ⟨v, vs, rfl, _, h2⟩ := h
    rw [List.length_cons, List.length_cons, RepL.length h2]
theorem RepL.get {K : PySem.W.Frag} {H : Hp} : ∀ {ds : List D} {xs : List V} {i : Nat} {d : D}, RepL K H ds xs → ds[i]? = some d → ∃ v, xs[i]? = some v ∧ Rep K H d v
  | [], _, _, _, _, e => by simp at e
  | d' :: ds, _, 0, d, h, e => by
    obtain ⟨v, vs, rfl, h1, _⟩ := h
    cases (show some d' = some d from e)
    exact ⟨v, rfl, h1⟩
  | d' :: ds, _, i + 1, d, h, e => by
    obtain ⟨v, vs, rfl, _, h2⟩ := h
    exact RepL.get (i := i) h2 e
theorem RepL.at_ {K : PySem.W.Frag} {H : Hp} : ∀ {ds : List D} {xs : List V} {i : Nat} {v : V}, RepL K H ds xs → xs[i]? = some v → ∃ d, ds[i]? = some d ∧ Rep K H d v
  | [], _, i, v, h, e => by rw [show _ = [] from h] at e; simp at e
  | d' :: ds, _, 0, d, h, e => by
    obtain ⟨v, vs, rfl, h1, _⟩ := h
    cases (show some v = some d from e)
    exact ⟨d', rfl, h1⟩
  | d' :: ds, _, i + 1, d, h, e => by
    obtain ⟨v, vs, rfl, _, h2⟩ := h
    exact RepL.at_ (i := i) h2 e
theorem RepL.append {K : PySem.W.Frag} {H : Hp} : ∀ {ds es : List D} {xs ys : List V}, RepL K H ds xs → RepL K H es ys → RepL K H (ds ++ es) (xs ++ ys)
  | [], _, _, _, h, g => by rw [show _ = [] from h]; exact g
  | d :: ds, es, _, ys, h, g => by
    obtain ⟨v, vs, rfl, h1, h2⟩ := h
    exact ⟨v, vs ++ ys, rfl, h1, RepL.append h2 g⟩
theorem RepL.take {K : PySem.W.Frag} {H : Hp} : ∀ {ds : List D} {xs : List V} (n : Nat), RepL K H ds xs → RepL K H (ds.take n) (xs.take n)
  | _, _, 0, _ => by simp [RepL]
  | [], _, n + 1, h => by rw [show _ = [] from h]; simp [RepL]
  | d :: ds, _, n + 1, h => by
    obtain ⟨v, vs, rfl, h1, h2⟩ := h
    exact ⟨v, vs.take n, rfl, h1, RepL.take n h2⟩
theorem RepL.drop {K : PySem.W.Frag} {H : Hp} : ∀ {ds : List D} {xs : List V} (n : Nat), RepL K H ds xs → RepL K H (ds.drop n) (xs.drop n)
  | _, _, 0, h => h
  | [], _, n + 1, h => by rw [show _ = [] from h]; simp [RepL]
  | d :: ds, _, n + 1, h => by
    obtain ⟨v, vs, rfl, h1, h2⟩ := h
    exact RepL.drop n h2
theorem RepL.one {K : PySem.W.Frag} {H : Hp} {d : D} {v : V} (h : Rep K H d v) : RepL K H [d] [v] := ⟨v, [], rfl, h, rfl⟩
def KeepT (K : PySem.W.Frag) (H H' : Hp) : Prop := ∀ a xs, SqT K H a xs → SqT K H' a xs
def KeepL (K : PySem.W.Frag) (H H' : Hp) : Prop := ∀ a xs, SqL K H a xs → SqL K H' a xs
mutual
def pureD : PyData → Bool
  | .tuple ds => pureDs ds
  | .list _ => false
  | .dict _ => false
  | _ => true
def pureDs : List PyData → Bool
  | [] => true
  | d :: ds => pureD d && pureDs ds
end
theorem pureDs_cons {d : D} {ds : List D} (p : pureDs (d :: ds) = true) : pureD d = true ∧ pureDs ds = true := by
  have : (pureD d && pureDs ds) = true := p
  simpa using this
mutual
theorem Rep.keep {K : PySem.W.Frag} {H H' : Hp} (k : KeepT K H H') (l : KeepL K H H') : ∀ {d : PyData} {v : V}, Rep K H d v → Rep K H' d v
  | .none, _, h => h
  | .bool _, _, h => h
  | .int _, _, h => h
  | .str _, _, h => h
  | .tuple ds, _, h => by
    obtain ⟨a, xs, rfl, h1, h2⟩ := h
    exact ⟨a, xs, rfl, k a xs h1, RepL.keep k l h2⟩
  | .list ds, _, h => by
    obtain ⟨a, xs, rfl, h1, h2⟩ := h
    exact ⟨a, xs, rfl, l a xs h1, RepL.keep k l h2⟩
  | .dict _, _, h => h.elim
theorem RepL.keep {K : PySem.W.Frag} {H H' : Hp} (k : KeepT K H H') (l : KeepL K H H') : ∀ {ds : List PyData} {xs : List V}, RepL K H ds xs → RepL K H' ds xs
  | [], _, h => h
  | d :: ds, _, h => by
    obtain ⟨v, vs, rfl, h1, h2⟩ := h
    exact ⟨v, vs, rfl, Rep.keep k l h1, RepL.keep k l h2⟩
end
mutual
theorem Rep.keepT {K : PySem.W.Frag} {H H' : Hp} (k : KeepT K H H') : ∀ {d : PyData} {v : V}, pureD d = true → Rep K H d v → Rep K H' d v
  | .none, _, _, h => h
  | .bool _, _, _, h => h
  | .int _, _, _, h => h
  | .str _, _, _, h => h
  | .tuple ds, _, p, h => by
    obtain ⟨a, xs, rfl, h1, h2⟩ := h
    exact ⟨a, xs, rfl, k a xs h1, RepL.keepT k p h2⟩
  | .list _, _, p, _ => by cases p
  | .dict _, _, p, _ => by cases p
theorem RepL.keepT {K : PySem.W.Frag} {H H' : Hp} (k : KeepT K H H') : ∀ {ds : List PyData} {xs : List V}, pureDs ds = true → RepL K H ds xs → RepL K H' ds xs
  | [], _, _, h => h
  | d :: ds, _, p, h => by
    obtain ⟨v, vs, rfl, h1, h2⟩ := h
    exact ⟨v, vs, rfl, Rep.keepT k (pureDs_cons p).1 h1, RepL.keepT k (pureDs_cons p).2 h2⟩
end
theorem Same.seqT {K : PySem.W.Frag} {H H' : Hp} {a : Addr} {xs : List V} (e : Same H H') (h : SqT K H a xs) : SqT K H' a xs := by
  rcases h with h | h
  · rcases h with h | ⟨o, h⟩
    · exact .inl (.inl (e _ _ h))
    · exact .inl (.inr ⟨o, e _ _ h⟩)
  · exact .inr h
theorem Same.keepT {K : PySem.W.Frag} {H H' : Hp} (e : Same H H') : KeepT K H H' := fun _ _ h => e.seqT h
theorem Same.keepL {K : PySem.W.Frag} {H H' : Hp} (e : Same H H') : KeepL K H H' := fun _ _ h => e.seq h
section
variable {X : Cx} {pins : List (Addr × Obj)} {σ : St} {H : Hp} {s : Shared}
mutual
theorem rep_reads (I : Inv X pins σ H s) : ∀ {d : PyData} {v : V} {u : Value}, Rep X.K H d v → RelV v u → ∃ as, Reads s.heap u d as
  | .none, _, _, h, r => by cases (show _ = V.non from h); cases (show _ = Value.none from r); exact ⟨_, .none⟩
  | .bool b, _, _, h, r => by cases (show _ = V.bl b from h); cases (show _ = Value.bool b from r); exact ⟨_, .bool b⟩
  | .int i, _, _, h, r => by cases (show _ = V.int i from h); obtain ⟨t, rfl⟩ := r; exact ⟨_, .int i t⟩
  | .str x, _, _, h, r => by cases (show _ = V.str x from h); obtain ⟨t, rfl⟩ := r; exact ⟨_, .str x t⟩
  | .tuple ds, _, _, h, r => by
    obtain ⟨a, xs, rfl, h1, h2⟩ := h
    cases (show _ = Value.ref a from r)
    obtain ⟨its, rv, p, hz⟩ := I.tuple h1
    obtain ⟨as, hr⟩ := repL_reads I h2 rv
    obtain ⟨o, ho, hc, n, hd⟩ := p
    exact ⟨_, .tuple ho hc hd (by simpa using hr)⟩
  | .list ds, _, _, h, r => by
    obtain ⟨a, xs, rfl, h1, h2⟩ := h
    cases (show _ = Value.ref a from r)
    obtain ⟨its, rv, p, hz⟩ := I.list h1
    obtain ⟨as, hr⟩ := repL_reads I h2 rv
    obtain ⟨o, ho, hc, n, hd⟩ := p.isList
    exact ⟨_, .list ho hc hd (by simpa using hr)⟩
  | .dict _, _, _, h, _ => h.elim
theorem repL_reads (I : Inv X pins σ H s) : ∀ {ds : List PyData} {xs : List V} {us : List Value}, RepL X.K H ds xs → Vals xs us → ∃ as, ReadsAll s.heap us ds as
  | [], _, _, h, r => by cases (show _ = [] from h); cases r; exact ⟨_, .nil⟩
  | d :: ds, _, _, h, r => by
    obtain ⟨v, vs, rfl, h1, h2⟩ := h
    cases r with
    | cons r1 r2 =>
      obtain ⟨as, g1⟩ := rep_reads I h1 r1
      obtain ⟨bs, g2⟩ := repL_reads I h2 r2
      exact ⟨_, .cons g1 g2⟩
end
end
def rEqD (K : PySem.W.Frag) : R2 := fun x y H Q => ∃ d e, Rep K H d x ∧ Rep K H e y ∧ d.canLay0 = true ∧ e.canLay0 = true ∧ d.depth ≤ 50 ∧ Q (.bl (PyData.eqv d e)) H
def rNeD (K : PySem.W.Frag) : R2 := fun x y H Q => ∃ d e, Rep K H d x ∧ Rep K H e y ∧ d.canLay0 = true ∧ e.canLay0 = true ∧ d.depth ≤ 50 ∧ Q (.bl (!PyData.eqv d e)) H
theorem op_eqD {X : Cx} (hu : X.A.units + 64 < cLine) : OpR X (compareOp .Eq) (rEqD X.K) := by
  intro pins s σ H x y v u Q I rx ry h
  obtain ⟨d, e, h1, h2, c1, c2, hd, q⟩ := h
  obtain ⟨as, g1⟩ := rep_reads I h1 rx
  obtain ⟨bs, g2⟩ := rep_reads I h2 ry
  exact SeqAt.compareEq_reads g1 g2 c1 c2 (by omega) ⟨.bl _, H, I, rfl, q⟩
theorem op_neD {X : Cx} (hu : X.A.units + 64 < cLine) : OpR X (compareOp .NotEq) (rNeD X.K) := by
  intro pins s σ H x y v u Q I rx ry h
  obtain ⟨d, e, h1, h2, c1, c2, hd, q⟩ := h
  obtain ⟨as, g1⟩ := rep_reads I h1 rx
  obtain ⟨bs, g2⟩ := rep_reads I h2 ry
  exact SeqAt.compareNe_reads g1 g2 c1 c2 (by omega) ⟨.bl _, H, I, rfl, q⟩
def rInD (K : PySem.W.Frag) (neg : Bool) : R2 := fun x y H Q => ∃ p xs d ds, y = .ref p ∧ (SqL K H p xs ∨ SqT K H p xs) ∧ Rep K H d x ∧ RepL K H ds xs ∧ d.canLay0 = true ∧ PyData.canLayAll0 ds = true ∧ d.depth ≤ 50 ∧
  Q (.bl (if neg then !(ds.any fun e => PyData.eqv e d) else ds.any fun e => PyData.eqv e d)) H
theorem canLay_at : ∀ {ds : List PyData} {i : Nat} {d : PyData}, PyData.canLayAll0 ds = true → ds[i]? = some d → d.canLay0 = true
  | [], _, _, _, e => by simp at e
  | d' :: ds, 0, d, h, e => by
    cases (show some d' = some d from e)
    have : (d'.canLay0 && PyData.canLayAll0 ds) = true := by simpa [PyData.canLayAll0] using h
    simp at this
    exact this.1
  | d' :: ds, i + 1, d, h, e => by
    have : (d'.canLay0 && PyData.canLayAll0 ds) = true := by simpa [PyData.canLayAll0] using h
    simp at this
    exact canLay_at (i := i) this.2 e
section
variable {X : Cx} {pins : List (Addr × Obj)} {σ : St} {H : Hp} {s : Shared}
open Classical in
noncomputable def anyOf (f : PyData → Bool) (us : List Value) (ds : List PyData) (u : Value) : Bool := match us.findIdx? (fun w => decide (w = u)) with
  | some i => match ds[i]? with
    | some e => f e
    | none => false
  | none => false
theorem anyOf_at {f : PyData → Bool} {us : List Value} {ds : List PyData} (hl : us.length = ds.length) (hsame : ∀ (i j : Nat) (u : Value) (a b : PyData), us[i]? = some u → us[j]? = some u → ds[i]? = some a → ds[j]? = some b → f a = f b) :
    ∀ (i : Nat) (u : Value) (e : PyData), us[i]? = some u → ds[i]? = some e → anyOf f us ds u = f e := by
    intro i u e hi he
    unfold anyOf
    cases hf : us.findIdx? (fun w => decide (w = u)) with
    | none =>
      have := List.findIdx?_eq_none_iff.mp hf u (List.mem_of_getElem? hi)
      simp at this
    | some j =>
      obtain ⟨hj, hp, _⟩ := List.findIdx?_eq_some_iff_getElem.mp hf
      have hju : us[j]? = some u := by
        rw [List.getElem?_eq_getElem hj]
        exact congrArg some (of_decide_eq_true hp)
      have hjd : j < ds.length := by rw [← hl]; exact hj
      dsimp only
      rw [List.getElem?_eq_getElem hjd]
      exact (hsame i j u e ds[j] hi hju he (List.getElem?_eq_getElem hjd)).symm
theorem any_anyOf {f : PyData → Bool} {us : List Value} {ds : List PyData} (hl : us.length = ds.length) (hsame : ∀ (i j : Nat) (u : Value) (a b : PyData), us[i]? = some u → us[j]? = some u → ds[i]? = some a → ds[j]? = some b → f a = f b) : us.any (anyOf f us ds) = ds.any f := by
  have key := anyOf_at hl hsame
  rw [Bool.eq_iff_iff, List.any_eq_true, List.any_eq_true]
  constructor
  · rintro ⟨u, hu, h⟩
    obtain ⟨i, hi, rfl⟩ := List.mem_iff_getElem.mp hu
    have hid : i < ds.length := by rw [← hl]; exact hi
    rw [key i _ ds[i] (List.getElem?_eq_getElem hi) (List.getElem?_eq_getElem hid)] at h
    exact ⟨_, List.getElem_mem hid, h⟩
  · rintro ⟨e, he, h⟩
    obtain ⟨i, hi, rfl⟩ := List.mem_iff_getElem.mp he
    have hiu : i < us.length := by rw [hl]; exact hi
    refine ⟨us[i], List.getElem_mem hiu, ?_⟩
    rw [key i _ ds[i] (List.getElem?_eq_getElem hiu) (List.getElem?_eq_getElem hi)]
    exact h
end
end L2
set_option Elab.async false
set_option linter.all false
set_option maxRecDepth 100000
namespace L2
open PySem PySem.Spec PyProof.Rows
def capChk (N : List Str) (sn cn : List (Str × NameKind)) (N' : List Str) (cap : List (Option Nat)) : Bool :=
  cap.length == N'.length && (List.range cap.length).all fun j => match cap[j]?, N'[j]? with
    | some (some k), some x => N[k]? == some x && cn.lookup x == some .free && sn.lookup x == some .cell
    | some none, _ => true
    | _, _ => false
def compChk (N : List Str) (sc scope : Scope) (N' : List Str) (cap : List (Option Nat)) : Bool :=
  capChk N sc.names scope.names N' cap && scope.kind == .function && (scope.names.all fun y => y.2 != .cell && (y.2 != .local || scope.names.lookup y.1 == some .local) && (y.2 != .free || sc.names.lookup y.1 == some .cell))
theorem compChk_ok {X : Cx} {N : List Str} {sc scope : Scope} {N' : List Str} {cap : List (Option Nat)} (hN : X.N = N) (hsc : X.env.scope = sc) (h : compChk N sc scope N' cap = true) :
    CScope scope ∧ (∀ y ∈ scope.names, y.2 = .free → X.env.kindOf y.1 = some .cell) ∧ CapOk X scope N' cap := by
  unfold compChk at h
  simp only [Bool.and_eq_true] at h
  obtain ⟨⟨h1, h2⟩, h3⟩ := h
  have h3' := List.all_eq_true.mp h3
  have hk : ∀ x, X.env.kindOf x = sc.names.lookup x := fun x => by rw [← hsc]; rfl
  refine ⟨⟨eq_of_beq h2, fun y hy e => ?_, fun y hy e => ?_⟩, fun y hy e => ?_, ?_⟩
  · have := h3' y hy
    rw [e] at this
    simp at this
  · have := h3' y hy
    rw [e] at this
    simpa using this
  · have := h3' y hy
    rw [e] at this
    rw [hk]
    simpa using this
  · unfold capChk at h1
    simp only [Bool.and_eq_true] at h1
    obtain ⟨g1, g2⟩ := h1
    refine ⟨eq_of_beq g1, fun j k e => ?_⟩
    have hj : j < cap.length := (List.getElem?_eq_some_iff.mp e).1
    have := List.all_eq_true.mp g2 j (List.mem_range.mpr hj)
    rw [e] at this
    cases hx : N'[j]? with
    | none => rw [hx] at this; cases this
    | some x =>
      rw [hx] at this
      simp only [Bool.and_eq_true] at this
      obtain ⟨⟨a1, a2⟩, a3⟩ := this
      exact ⟨x, rfl, by rw [hN]; exact eq_of_beq a1, eq_of_beq a2, by rw [hk]; exact eq_of_beq a3⟩
theorem pe_cmp1 {X : Cx} {elt tg iter : Expr} {ifs : List Expr} {scope : Scope} {pos : Pos} {wi : TI} {g : TG} {tc : TT} {te : TE} (N : List Str) (sc : Scope) (N' : List Str) (cap : List (Option Nat)) (hi : PI X tg iter wi)
    (hg : ∀ cl C fp s H, PG (cxComp X N' scope cl C fp s H) tg g) (hc : ∀ cl C fp s H, PTs (cxComp X N' scope cl C fp s H) ifs tc) (he : ∀ cl C fp s H, PE (cxComp X N' scope cl C fp s H) elt te)
    (hcalm : X.calm = true := by rfl) (hN : X.N = N := by rfl) (hsc : X.env.scope = sc := by rfl) (chk : compChk N sc scope N' cap = true := by decide +kernel) (hs : ∀ x, foldedSetIterable iter X.env x = pure x := by intro _; rfl) :
    PE X (.ListComp elt [⟨tg, iter, ifs, 0⟩] scope pos) (tComp wi g tc te cap) := by
  obtain ⟨a1, a2, a3⟩ := compChk_ok hN hsc chk
  exact pe_comp hcalm a1 a2 a3 hi hg hc he hs
section
variable {X : Cx} {tg : Expr} {pins : List (Addr × Obj)} {σ : St}
inductive Wk (K : PySem.W.Frag) (H : Hp) : V → It → Prop where
  | lst {a : Addr} {xs : List V} (h : SqL K H a xs) : Wk K H (.ref a) (Itl K a)
  | tup {a : Addr} {xs : List V} (h : SqT K H a xs) : Wk K H (.ref a) (Itt K a)
  | str (z : Str) : Wk K H (.str z) (Its z)
def iSeq (K : PySem.W.Frag) (tl : TE) : TI := fun σ H R => tl σ H fun x H1 => ∃ J, Wk K H1 x J ∧ R J H1
theorem pi_seq {l : Expr} {tl : TE} (hl : PE X l tl) : PI X tg l (iSeq X.K tl) := by
  intro pins s σ H R I h
  refine thn (hl pins s σ H _ I h) fun v s1 ⟨x, H1, I1, r1, q1⟩ => ?_
  obtain ⟨J, wk, q⟩ := q1
  have fin : ∀ b ∈ [s1.heap.objs.size], FpOk X pins H1 b := fun b hb => by
    have e : b = s1.heap.objs.size := by simpa using hb
    subst e
    exact I1.fpOk (Nat.le_refl _) (I1.hok.fresh (Nat.le_refl _))
  cases wk with
  | @lst a xs hq =>
    cases r1
    obtain ⟨its, rv, p, hz⟩ := I1.list hq
    refine wpAny_pyIter_list p.isList ?_
    exact ⟨s1.heap.objs.size, [s1.heap.objs.size], _, _, H1, rfl, I1.kept (t' := s1.toks) fun b o e => Heap.get?_push_of_some _ e, turn_list a _, ⟨_, Heap.get?_push_size _ rfl, rfl, rfl⟩, fin, q⟩
  | @tup a xs hq =>
    cases r1
    obtain ⟨its, rv, p, hz⟩ := I1.tuple hq
    refine wpAny_pyIter_tuple (show s1.heap.IsTuple a its.toArray from p) ?_
    exact ⟨s1.heap.objs.size, [s1.heap.objs.size], _, _, H1, rfl, I1.kept (t' := s1.toks) fun b o e => Heap.get?_push_of_some _ e, turn_tuple a _, ⟨_, Heap.get?_push_size _ rfl, rfl, rfl⟩, fin, q⟩
  | str z =>
    obtain ⟨t, rfl⟩ := r1
    cases ha : z.cps.all (· < 128) with
    | false =>
      refine wpAny_pyIter_wide ha ?_
      exact ⟨s1.heap.objs.size, [s1.heap.objs.size], _, Its z, H1, rfl, I1.kept (t' := s1.toks) fun b o' e => Heap.get?_push_of_some _ e, turn_str _ z t "str_iterator" (fun A' hA => Walks.strWide hA _ z t) (fun _ _ _ _ _ st hq => wpAny_pyIter_striter_wide st hq), ⟨_, Heap.get?_push_size _ rfl, rfl, rfl⟩, fin, q⟩
    | true =>
      refine wpAny_pyIter_ascii ha ?_
      exact ⟨s1.heap.objs.size, [s1.heap.objs.size], _, Its z, H1, rfl, I1.kept (t' := s1.toks) fun b o' e => Heap.get?_push_of_some _ e, turn_str _ z t "str_ascii_iterator" (fun A' hA => Walks.strAscii hA _ z t) (fun _ _ _ _ _ st hq => wpAny_pyIter_striter_ascii st hq), ⟨_, Heap.get?_push_size _ rfl, rfl, rfl⟩, fin, q⟩
end
end L2
set_option Elab.async false
set_option linter.all false
set_option maxRecDepth 100000
namespace L2
open PySem PySem.Spec PyProof.Rows
section
variable {h : Heap}
mutual
theorem reads_inj : ∀ {d e : PyData} {u : Value} {as bs : List Addr}, d.canLay0 = true → Reads h u d as → Reads h u e bs → d = e
  | .none, _, _, _, _, _, r, q => by cases r; cases q; rfl
  | .bool _, _, _, _, _, _, r, q => by cases r; cases q; rfl
  | .int _, _, _, _, _, _, r, q => by cases r; cases q; rfl
  | .str _, _, _, _, _, _, r, q => by cases r; cases q; rfl
  | .list xs, _, _, _, _, c, r, q => by
    cases r with
    | list h1 h2 h3 h4 =>
      cases q with
      | list g1 g2 g3 g4 =>
        rw [h1] at g1; cases g1
        rw [h3] at g3; cases g3
        rw [readsAll_inj c h4 g4]
      | tuple g1 g2 g3 g4 =>
        rw [h1] at g1; cases g1
        rw [h2] at g2
        injection g2 with z
        exact absurd z (by decide)
      | dict g1 g2 g3 g4 g5 =>
        rw [h1] at g1; cases g1
        rw [h2] at g2
        injection g2 with z
        exact absurd z (by decide)
  | .tuple xs, _, _, _, _, c, r, q => by
    cases r with
    | tuple h1 h2 h3 h4 =>
      cases q with
      | tuple g1 g2 g3 g4 =>
        rw [h1] at g1; cases g1
        rw [h3] at g3; cases g3
        rw [readsAll_inj c h4 g4]
      | list g1 g2 g3 g4 =>
        rw [h1] at g1; cases g1
        rw [h2] at g2
        injection g2 with z
        exact absurd z (by decide)
      | dict g1 g2 g3 g4 g5 =>
        rw [h1] at g1; cases g1
        rw [h2] at g2
        injection g2 with z
        exact absurd z (by decide)
  | .dict _, _, _, _, _, c, _, _ => nomatch c
theorem readsAll_inj : ∀ {ds es : List PyData} {us : List Value} {as bs : List Addr}, PyData.canLayAll0 ds = true → ReadsAll h us ds as → ReadsAll h us es bs → ds = es
  | [], _, _, _, _, _, r, q => by cases r; cases q; rfl
  | d :: ds, _, _, _, _, c, r, q => by
    have c' : d.canLay0 = true ∧ PyData.canLayAll0 ds = true := by simpa [PyData.canLayAll0] using c
    cases r with
    | cons r1 r2 =>
      cases q with
      | cons q1 q2 => rw [reads_inj c'.1 r1 q1, readsAll_inj c'.2 r2 q2]
end
end
section
variable {X : Cx} {a b : Expr} {ta tb : TE} {pos : Pos}
theorem in_core {pins : List (Addr × Obj)} {σ : St} {H : Hp} {s : Shared} (I : Inv X pins σ H s) (hu : X.A.units + 64 < cLine) {d : PyData} {ds : List PyData} {x : V} {xs : List V} {v : Value} {us : List Value} (h1 : Rep X.K H d x) (h2 : RepL X.K H ds xs) (rx : RelV x v) (rs : Vals xs us)
    (c1 : d.canLay0 = true) (c2 : PyData.canLayAll0 ds = true) (hd : d.depth ≤ 50) :
    (∀ y ∈ us, SeqAt.EqAt X.A.in1 s y v (anyOf (fun e => PyData.eqv e d) us ds y)) ∧ us.any (anyOf (fun e => PyData.eqv e d) us ds) = ds.any fun e => PyData.eqv e d := by
  have hlen : us.length = ds.length := by rw [← rs.length, h2.length]
  have uniq : ∀ (i j : Nat) (u : Value) (a b : PyData), us[i]? = some u → us[j]? = some u → ds[i]? = some a → ds[j]? = some b → PyData.eqv a d = PyData.eqv b d := by
    intro i j u a b hi hj ha hb
    obtain ⟨va, ea, ra⟩ := h2.get ha
    obtain ⟨vb, eb, rb⟩ := h2.get hb
    obtain ⟨ua, e1, r1⟩ := rs.get ea
    obtain ⟨ub, e2, r2⟩ := rs.get eb
    rw [hi] at e1; cases e1
    rw [hj] at e2; cases e2
    obtain ⟨_, q1⟩ := rep_reads I ra r1
    obtain ⟨_, q2⟩ := rep_reads I rb r2
    rw [reads_inj (canLay_at c2 ha) q1 q2]
  refine ⟨fun y hy => ?_, any_anyOf hlen uniq⟩
  obtain ⟨i, hi, rfl⟩ := List.mem_iff_getElem.mp hy
  have hid : i < ds.length := by rw [← hlen]; exact hi
  have hdi : ds[i]? = some ds[i] := List.getElem?_eq_getElem hid
  obtain ⟨vy, ey, ry⟩ := h2.get hdi
  obtain ⟨uy, e1, r1⟩ := rs.get ey
  rw [List.getElem?_eq_getElem hi] at e1
  have e1' : us[i] = uy := Option.some.inj e1
  obtain ⟨_, q1⟩ := rep_reads I ry r1
  obtain ⟨_, q2⟩ := rep_reads I h1 rx
  have hany : anyOf (fun e => PyData.eqv e d) us ds us[i] = PyData.eqv ds[i] d := anyOf_at hlen uniq i us[i] ds[i] (List.getElem?_eq_getElem hi) hdi
  rw [hany, e1']
  exact SeqAt.eqAt_reads _ _ _ _ _ _ _ _ q1 q2 (canLay_at c2 hdi) c1 (by show X.A.units + 1 + min _ _ < cLine; omega)
theorem op_inD (hu : X.A.units + 64 < cLine) : OpR X (compareOp .In) (rInD X.K false) := by
  intro pins s σ H x y v u Q I rx ry h
  obtain ⟨p, xs, d, ds, rfl, hq, h1, h2, c1, c2, hd, q⟩ := h
  cases ry
  rcases hq with hq | hq
  · obtain ⟨its, r, pl, hz⟩ := I.list hq
    obtain ⟨k1, k2⟩ := in_core I hu h1 h2 rx r c1 c2 hd
    refine SeqAt.in_listAt _ pl.isList (fun w hw => k1 w (by simpa using hw)) ⟨.bl _, H, I, rfl, ?_⟩
    rw [List.any_toArray, k2]
    exact q
  · obtain ⟨its, r, pl, hz⟩ := I.tuple hq
    obtain ⟨k1, k2⟩ := in_core I hu h1 h2 rx r c1 c2 hd
    refine SeqAt.in_tupleAt _ pl (fun w hw => k1 w (by simpa using hw)) ⟨.bl _, H, I, rfl, ?_⟩
    rw [List.any_toArray, k2]
    exact q
theorem op_notInD (hu : X.A.units + 64 < cLine) : OpR X (compareOp .NotIn) (rInD X.K true) := by
  intro pins s σ H x y v u Q I rx ry h
  obtain ⟨p, xs, d, ds, rfl, hq, h1, h2, c1, c2, hd, q⟩ := h
  cases ry
  rcases hq with hq | hq
  · obtain ⟨its, r, pl, hz⟩ := I.list hq
    obtain ⟨k1, k2⟩ := in_core I hu h1 h2 rx r c1 c2 hd
    refine SeqAt.notIn_listAt _ pl.isList (fun w hw => k1 w (by simpa using hw)) ⟨.bl _, H, I, rfl, ?_⟩
    rw [List.any_toArray, k2]
    exact q
  · obtain ⟨its, r, pl, hz⟩ := I.tuple hq
    obtain ⟨k1, k2⟩ := in_core I hu h1 h2 rx r c1 c2 hd
    refine SeqAt.notIn_tupleAt _ pl (fun w hw => k1 w (by simpa using hw)) ⟨.bl _, H, I, rfl, ?_⟩
    rw [List.any_toArray, k2]
    exact q
def rAddG (K : PySem.W.Frag) : R2 := fun x y H Q => rI0 (fun i j => .int (i + j)) x y H Q ∨ (∃ i j, x = .str i ∧ y = .str j ∧ i.length + j.length ≤ sizeLine ∧ Q (.str (i ++ j)) H) ∨ rCat x y H Q ∨ rCatT K x y H Q
def rMulG : R2 := fun x y H Q => rI CMulB (fun i j => .int (i * j)) x y H Q ∨ rRep x y H Q
def rEqG (K : PySem.W.Frag) : R2 := fun x y H Q => rEq x y H Q ∨ rEqD K x y H Q
def rNeG (K : PySem.W.Frag) : R2 := fun x y H Q => rNe x y H Q ∨ rNeD K x y H Q
theorem op_eqG (hu : X.A.units + 64 < cLine) : OpR X (compareOp .Eq) (rEqG X.K) := op_eq.or (op_eqD hu)
theorem op_neG (hu : X.A.units + 64 < cLine) : OpR X (compareOp .NotEq) (rNeG X.K) := op_ne.or (op_neD hu)
theorem op_ltG : OpR X (compareOp .Lt) (rI0 fun i j => .bl (decide (i < j))) := op_lt
theorem op_gtG : OpR X (compareOp .Gt) (rI0 fun i j => .bl (decide (j < i))) := op_gt
def rInG (K : PySem.W.Frag) (neg : Bool) : R2 := fun x y H Q => rIn K neg x y H Q ∨ rInD K neg x y H Q ∨
  ∃ i j, x = .str i ∧ y = .str j ∧ Q (.bl (if neg then !(!(Builtin.Str.occurrences j i 0 j.length 1).isEmpty) else !(Builtin.Str.occurrences j i 0 j.length 1).isEmpty)) H
theorem op_inG (hu : X.A.units + 64 < cLine) : OpR X (compareOp .In) (rInG X.K false) := op_in_seq.or ((op_inD hu).or op_in_str)
theorem op_notInG (hu : X.A.units + 64 < cLine) : OpR X (compareOp .NotIn) (rInG X.K true) := op_notIn_seq.or ((op_notInD hu).or op_notin_str)
def rSlG (K : PySem.W.Frag) : V → Option Int → Option Int → Hp → VK → Prop := fun x lo hi H Q => rSlL K x lo hi H Q ∨ rSlT K x lo hi H Q ∨ rSlS x lo hi H Q
end
def tMid (t : TS) : TS := fun D σ H => ∃ M : St → Hp → Prop, t { D with nx := M } σ H ∧ ∀ σ' H', M σ' H' → D.nx σ' H'
theorem ps_mid {X : Cx} {st : Stmt} {t : TS} (h : PS X st t) : PS X st (tMid t) := by
  intro pins s σ H D I q
  obtain ⟨M, ht, hm⟩ := q
  refine thn (h pins s σ H _ I ht) fun f s' q => ?_
  cases f with
  | next => obtain ⟨σ', H', I', q'⟩ := q; exact ⟨σ', H', I', hm _ _ q'⟩
  | cont => exact q
  | brk => exact q
  | ret v => exact q
theorem bt_len : bootBuiltins "len" = some (.builtin "len") := by decide +kernel
theorem bt_isinstance : bootBuiltins "isinstance" = some (.builtin "isinstance") := by decide +kernel
theorem bt_sorted : bootBuiltins "sorted" = some (.builtin "sorted") := by decide +kernel
theorem bt_all : bootBuiltins "all" = some (.builtin "all") := by decide +kernel
theorem bt_sum : bootBuiltins "sum" = some (.builtin "sum") := by decide +kernel
theorem bt_int : bootBuiltins "int" = some (.type "int") := by decide +kernel
theorem bt_bool : bootBuiltins "bool" = some (.type "bool") := by decide +kernel
theorem bt_list : bootBuiltins "list" = some (.type "list") := by decide +kernel
theorem bt_tuple : bootBuiltins "tuple" = some (.type "tuple") := by decide +kernel
end L2
set_option Elab.async false
set_option linter.all false
set_option maxRecDepth 100000
namespace L2
open PySem PySem.Spec PyProof.Rows
section
variable {X : Cx} {tg : Expr} {a b l : Expr} {ta tb tl : TE} {pos : Pos}
theorem op_eqK (K : PySem.W.Frag) (hu : X.A.units + 64 < cLine) (hK : X.K = K := by rfl) : OpR X (compareOp .Eq) (rEqG K) := by subst hK; exact op_eqG hu
theorem op_neK (K : PySem.W.Frag) (hu : X.A.units + 64 < cLine) (hK : X.K = K := by rfl) : OpR X (compareOp .NotEq) (rNeG K) := by subst hK; exact op_neG hu
theorem op_inK (K : PySem.W.Frag) (hu : X.A.units + 64 < cLine) (hK : X.K = K := by rfl) : OpR X (compareOp .In) (rInG K false) := by subst hK; exact op_inG hu
theorem op_notInK (K : PySem.W.Frag) (hu : X.A.units + 64 < cLine) (hK : X.K = K := by rfl) : OpR X (compareOp .NotIn) (rInG K true) := by subst hK; exact op_notInG hu
theorem ix_K (K : PySem.W.Frag) (hK : X.K = K := by rfl) : IxR X (rIx K) := by subst hK; exact ix_seq
def rLen (K : PySem.W.Frag) : List V → Hp → VK → Prop := fun xs H Q => ∃ x n, xs = [x] ∧ LenV K x H n ∧ Q (.int n) H
theorem call_lenK (K : PySem.W.Frag) (hK : X.K = K := by rfl) : CallR X (.builtin "len") (rLen K) := by subst hK; exact call_len
theorem call_isiK (K : PySem.W.Frag) (hK : X.K = K := by rfl) : CallR X (.builtin "isinstance") (rIsi K) := by subst hK; exact call_isi
theorem call_allK (K : PySem.W.Frag) (hc : X.calm = true := by rfl) (hK : X.K = K := by rfl) : CallR X (.builtin "all") (rAll K) := by subst hK; exact call_all hc
def rMkL (K : PySem.W.Frag) : List V → Hp → VK → Prop := fun xs H Q => ∃ p ys, xs = [.ref p] ∧ (SqL K H p ys ∨ SqT K H p ys) ∧ ∀ l, H l = none → Q (.ref l) (upd H l (.lst ys))
def rMkT (K : PySem.W.Frag) : List V → Hp → VK → Prop := fun xs H Q => ∃ p ys, xs = [.ref p] ∧ ((SqL K H p ys ∧ ∀ l, H l = none → Q (.ref l) (upd H l (.tup ys))) ∨ (SqT K H p ys ∧ Q (.ref p) H))
theorem call_listK (K : PySem.W.Frag) (hK : X.K = K := by rfl) : CallR X (.type "list") (rMkL K) := by subst hK; exact call_list_of
theorem call_tupleK (K : PySem.W.Frag) (hK : X.K = K := by rfl) : CallR X (.type "tuple") (rMkT K) := by subst hK; exact call_tuple_of
theorem pi_seqK (K : PySem.W.Frag) (hl : PE X l tl) (hK : X.K = K := by rfl) : PI X tg l (iSeq K tl) := by subst hK; exact pi_seq hl
def tTru (K : PySem.W.Frag) (ta : TE) : TT := fun σ H Q => ta σ H fun x H' => ∃ k, TruV K x H' k ∧ Q k H'
theorem pt_truthK (K : PySem.W.Frag) (ha : PE X a ta) (he : ∀ whole, isTrue a X.env whole = (do let v ← whole; standAt a.pos; holding [v] (truthy v))) (hK : X.K = K := by rfl) : PT X a (tTru K ta) := by subst hK; exact pt_truth ha he
theorem pg_tupK (K : PySem.W.Frag) {es : List Expr} {k : Nat} {t : TGs} {n : Nat} (hc : X.calm = true) (h : PGs X es t)
    (hn : (assignEach es X.env).length = n := by rfl) (hst : (assignEach es X.env).findIdx? (·.1) = none := by rfl) (hK : X.K = K := by rfl) : PG X (.Tuple es k pos) (gTup K n t) := by subst hK; exact pg_tup hc h hn hst
variable {o e : Expr} {es : List Expr} {to : TE} {t : TA} {name : Str} {apos cpos : Pos} {T id : String} {r : V → List V → Hp → VK → Prop}
theorem pe_bmK (K : PySem.W.Frag) (pa : PlainAttrs T) (slot : Slot T name id) (hty : typeOf (.builtin id) = pure (.type "method_descriptor")) (hm : MtR X id r) (ho : PE X o to) (ha : PA X (e :: es) t)
    (hbase : attributeBase o name X.env (eval o X.env) = eval o X.env := by rfl)
    (hfew : ((backTo cpos (starEach (e :: es) X.env)).all (fun x => !x.1) && (backToKw cpos (keywordEach [] X.env)).all (fun x => x.1.isSome)
      && decide ((e :: es).length + ([] : List Keyword).length + (if ([] : List Keyword).isEmpty then 0 else 1) < 30)) = true := by rfl)
    (hline : (apos.endLine == cpos.line) = true := by rfl) (hs : starEach (e :: es) X.env = (false, eval e X.env) :: starEach es X.env := by rfl) (hplain : (backTo cpos (starEach es X.env)).any (·.1) = false := by rfl) (hK : X.K = K := by rfl) :
    PE X (.Call (.Attribute o name apos) (e :: es) [] cpos) (tBM K T r to t) := by subst hK; exact pe_bm pa slot hty hm ho ha hbase hfew hline hs hplain
end
end L2
set_option Elab.async false
set_option linter.all false
set_option maxRecDepth 100000
namespace L2
open PySem PySem.Spec PyProof.Rows
def WL (H1 : Hp) (D : Addr) (n : Nat) (Pv : Nat → List V → Hp → Prop) : Nat → Nat → Hp → Prop := fun i m H2 => m = n - i ∧ i ≤ n ∧ Same H1 H2 ∧ ∃ ys, H2 D = some (.lst ys) ∧ ys.length ≤ i ∧ Pv i ys H2
theorem Same.upd {H H' : Hp} {p : Addr} {o : HO} (s : Same H H') (h : H p = none) : Same H (L2.upd H' p o) := fun b o' e => by rw [upd_ne (ne_of_none e h)]; exact s b o' e
theorem Same.new' {H : Hp} {p : Addr} {o : HO} (h : H p = none) : Same H (L2.upd H p o) := fun b o' e => by rw [upd_ne (ne_of_none e h)]; exact e
section
variable {K : PySem.W.Frag} {H1 H2 H6 : Hp} {D : Addr} {n i m : Nat} {Pv : Nat → List V → Hp → Prop} {ys : List V} {y : V}
theorem wl_next (hD : H1 D = none) (hi : i < n) (hm : m = n - i) (hn : n < sizeLine) (s12 : Same H1 H2) (hy : H2 D = some (.lst ys)) (hl : ys.length ≤ i) (s26 : Same H2 H6) (p : Pv (i + 1) (ys ++ [y]) (upd H6 D (.lst (ys ++ [y])))) :
    ∃ ys, H6 D = some (.lst ys) ∧ ys.length < sizeLine ∧ ∃ m', m' < m ∧ WL H1 D n Pv (i + 1) m' (upd H6 D (.lst (ys ++ [y]))) :=
  ⟨ys, s26 _ _ hy, by omega, n - (i + 1), by omega, rfl, hi, (s12.trans s26).upd hD, ys ++ [y], upd_same, by rw [List.length_append]; show ys.length + 1 ≤ i + 1; omega, p⟩
theorem wl_skip (hi : i < n) (hm : m = n - i) (s12 : Same H1 H2) (hy : H2 D = some (.lst ys)) (hl : ys.length ≤ i) (s26 : Same H2 H6) (p : Pv (i + 1) ys H6) : ∃ m', m' < m ∧ WL H1 D n Pv (i + 1) m' H6 :=
  ⟨n - (i + 1), by omega, rfl, hi, s12.trans s26, ys, s26 _ _ hy, by omega, p⟩
variable {g : TG} {tc : TT} {te : TE} {σc : St} {R : Hp → Prop}
abbrev CompGoal (J : It) (g : TG) (tc : TT) (te : TE) (σc : St) (H1 : Hp) (R : Hp → Prop) (D : Addr) : Prop := ∃ W : Nat → Nat → Hp → Prop, (∃ m, W 0 m (upd H1 D (.lst []))) ∧ ∀ i m H2, W i m H2 →
  (J.stop i H2 ∧ R H2) ∨ (J.go i H2 ∧ ∀ x H3, J.yld i H2 x H3 → g x σc H3 fun σ4 H4 => SubS σc σ4 ∧ tc σ4 H4 fun b H5 =>
    if b = true then te σ4 H5 fun y H6 => ∃ ys, H6 D = some (.lst ys) ∧ ys.length < sizeLine ∧ ∃ m', m' < m ∧ W (i + 1) m' (upd H6 D (.lst (ys ++ [y]))) else ∃ m', m' < m ∧ W (i + 1) m' H5)
abbrev TurnGoal (g : TG) (tc : TT) (te : TE) (σc : St) (H1 : Hp) (D : Addr) (n : Nat) (Pv : Nat → List V → Hp → Prop) (i m : Nat) (x : V) (H2 : Hp) : Prop := g x σc H2 fun σ4 H4 => SubS σc σ4 ∧ tc σ4 H4 fun b H5 =>
    if b = true then te σ4 H5 fun y H6 => ∃ ys, H6 D = some (.lst ys) ∧ ys.length < sizeLine ∧ ∃ m', m' < m ∧ WL H1 D n Pv (i + 1) m' (upd H6 D (.lst (ys ++ [y]))) else ∃ m', m' < m ∧ WL H1 D n Pv (i + 1) m' H5
theorem comp_lst {a : Addr} {xs : List V} (Pv : Nat → List V → Hp → Prop) (hq : SqL K H1 a xs) (hD : H1 D = none) (h0 : Pv 0 [] (upd H1 D (.lst [])))
    (hs : ∀ i m x ys H2, xs[i]? = some x → i < xs.length → m = xs.length - i → Same H1 H2 → H2 D = some (.lst ys) → ys.length ≤ i → Pv i ys H2 → TurnGoal g tc te σc H1 D xs.length Pv i m x H2)
    (hd : ∀ ys H2, Same H1 H2 → H2 D = some (.lst ys) → ys.length ≤ xs.length → Pv xs.length ys H2 → R H2) : CompGoal (Itl K a) g tc te σc H1 R D := by
  refine ⟨WL H1 D xs.length Pv, ⟨xs.length, rfl, Nat.zero_le _, Same.new' hD, [], upd_same, Nat.le_refl _, h0⟩, ?_⟩
  rintro i m H2 ⟨hm, hi, s12, ys, hy, hl, p⟩
  have q2 : SqL K H2 a xs := s12.seq hq
  by_cases hlt : i < xs.length
  · refine .inr ⟨⟨xs, xs[i], q2, by simp [hlt]⟩, fun x H3 e => ?_⟩
    obtain ⟨e, ex⟩ := e
    subst e
    exact hs i m x ys _ (ex xs q2) hlt hm s12 hy hl p
  · have e : i = xs.length := by omega
    subst e
    exact .inl ⟨⟨xs, q2, Nat.le_refl _⟩, hd ys H2 s12 hy hl p⟩
theorem comp_tup {a : Addr} {xs : List V} (Pv : Nat → List V → Hp → Prop) (hq : SqT K H1 a xs) (hD : H1 D = none) (h0 : Pv 0 [] (upd H1 D (.lst [])))
    (hs : ∀ i m x ys H2, xs[i]? = some x → i < xs.length → m = xs.length - i → Same H1 H2 → H2 D = some (.lst ys) → ys.length ≤ i → Pv i ys H2 → TurnGoal g tc te σc H1 D xs.length Pv i m x H2)
    (hd : ∀ ys H2, Same H1 H2 → H2 D = some (.lst ys) → ys.length ≤ xs.length → Pv xs.length ys H2 → R H2) : CompGoal (Itt K a) g tc te σc H1 R D := by
  refine ⟨WL H1 D xs.length Pv, ⟨xs.length, rfl, Nat.zero_le _, Same.new' hD, [], upd_same, Nat.le_refl _, h0⟩, ?_⟩
  rintro i m H2 ⟨hm, hi, s12, ys, hy, hl, p⟩
  have q2 : SqT K H2 a xs := s12.seqT hq
  by_cases hlt : i < xs.length
  · refine .inr ⟨⟨xs, xs[i], q2, by simp [hlt]⟩, fun x H3 e => ?_⟩
    obtain ⟨e, ex⟩ := e
    subst e
    exact hs i m x ys _ (ex xs q2) hlt hm s12 hy hl p
  · have e : i = xs.length := by omega
    subst e
    exact .inl ⟨⟨xs, q2, Nat.le_refl _⟩, hd ys H2 s12 hy hl p⟩
end
end L2
set_option Elab.async false
set_option linter.all false
set_option maxRecDepth 100000
namespace L2
open PySem PySem.Spec PyProof.Rows
def hid (D : Addr) (H : Hp) : Hp := fun b => if b = D then none else H b
theorem Rep.same {K : PySem.W.Frag} {H H' : Hp} (s : Same H H') {d : PyData} {v : V} (h : Rep K H d v) : Rep K H' d v := h.keep s.keepT s.keepL
theorem RepL.same {K : PySem.W.Frag} {H H' : Hp} (s : Same H H') {ds : List PyData} {xs : List V} (h : RepL K H ds xs) : RepL K H' ds xs := h.keep s.keepT s.keepL
theorem Same.but {f : Addr} {H H1 H2 : Hp} (s : Same H H1) (hf : H f = none) (b : ∀ c o, H1 c = some o → c ≠ f → H2 c = some o) : Same H H2 := fun c o e => b c o (s c o e) (ne_of_none e hf)
theorem pureDs_map {α : Type} {g : α → PyData} : ∀ {xs : List α}, (∀ x ∈ xs, pureD (g x) = true) → pureDs (xs.map g) = true
  | [], _ => rfl
  | x :: xs, h => by
    show (pureD (g x) && pureDs (xs.map g)) = true
    rw [h x List.mem_cons_self, pureDs_map fun y hy => h y (List.mem_cons_of_mem _ hy)]
    rfl
theorem rep_tup {K : PySem.W.Frag} {H : Hp} {p : Addr} {xs : List V} {ds : List PyData} (h : H p = some (.tup xs)) (r : RepL K H ds xs) : Rep K H (.tuple ds) (.ref p) := ⟨p, xs, rfl, SqT.of h, r⟩
theorem keepT_upd {K : PySem.W.Frag} {H : Hp} {p : Addr} {xs ys : List V} (hp : H p = some (.lst xs)) : KeepT K H (upd H p (.lst ys)) := fun c zs h => by
  rcases h with (h | ⟨o, h⟩) | h
  · exact .inl (.inl (by rw [upd_ne (ne_of h hp (by intro z; cases z))]; exact h))
  · exact .inl (.inr ⟨o, by rw [upd_ne (ne_of h hp (by intro z; cases z))]; exact h⟩)
  · exact .inr h
theorem KeepT.trans {K : PySem.W.Frag} {H H1 H2 : Hp} (a : KeepT K H H1) (b : KeepT K H1 H2) : KeepT K H H2 := fun c xs h => b c xs (a c xs h)
end L2
set_option Elab.async false
set_option linter.all false
set_option maxRecDepth 100000
namespace L2
open PySem PySem.Spec PyProof.Rows
section
variable {prog : Program} {w : World} {A : Around} {E : Value → Shared → Prop} {s : Shared}
theorem cat_tup0 {t b : Addr} {ws : List Value} {Q : Value → Shared → Prop} (ht : IsTup s.heap t ([] : List Value).toArray) (hb : IsTup s.heap b ws.toArray) (h : Q (.ref b) s) : wpAny (model prog w) A (binaryOp .Add (.ref t) (.ref b)) Q E s := by
  obtain ⟨⟨cls, dd, data, sl⟩, ho, hc, n, hd⟩ := id ht
  obtain ⟨⟨cls2, dd2, data2, sl2⟩, ho2, hc2, n2, hd2⟩ := id hb
  simp only at hc hd hc2 hd2
  subst hc hd hc2 hd2
  exact concat_meets ⟨_, ho, rfl⟩ ⟨_, ho2, rfl⟩ noFill_tuple_add seq_tuple_add PySem.F.slot_tuple_add PySem.F.entry_tuple_add (PySem.F.args_tuple_add_2 _ _)
      (tuple_addW0 t b _ ws.toArray n n2 dd dd2 sl sl2 (by simp)) ⟨ho, ho2, h⟩
theorem getItem_tuple_whole {t sl : Addr} {items : Array Value} {vl vu : Value} {lo hi : Option Int} {Q : Value → Shared → Prop} (ht : IsTup s.heap t items) (hs : s.heap.IsSliceOf sl vl vu .none) (pl : IsPart vl lo) (pu : IsPart vu hi)
    (hw : HT.sIx items.size 0 lo = 0 ∧ HT.sIx items.size items.size hi = items.size) (h : Q (.ref t) s) : wpAny (model prog w) A (getItem (.ref t) (.ref sl)) Q E s := by
  obtain ⟨os, hos, hcs, hds⟩ := id hs
  have hTs : s.TypeIs (.ref sl) "slice" := ⟨os, hos, hcs⟩
  unfold getItem
  try with_reducible refine wpAny_holding ?_
  first | refine wpAny_bind (wpAny_pure ?_) | skip
  refine wpAny_bind (wpAny_sequenceKey ht.typeIs (by decide) ?_)
  refine wpAny_bind (wpAny_callSpecial?_slot (name := Str.ofString "__getitem__") ht.typeIs PyProof.Rows.slot_tuple_getitem
    (wpAny_call_entry PyProof.Rows.slot_tuple_getitem ht.typeIs entry_tuple_getitem ?_ (args_tuple_getitem _ _)))
  show wpAny _ _ (Builtin.Tuple.tupleItemsOf (.ref t) >>= _) _ _ s
  refine wpAny_bind (tupleItemsOf_ ht ?_)
  refine wpAny_bind (wpAny_typeOf hTs ?_)
  rw [if_pos (by decide)]
  refine wpAny_bind (HT.sliceApplied_gen hs pl pu ?_)
  have hyes : ((((HT.sIx items.size 0 lo : Nat) : Int) == 0 && (1 : Int) == 1 && (HT.sIx items.size items.size hi - HT.sIx items.size 0 lo) == items.size) = true) := by
    rw [hw.1, hw.2]
    simp
  show wpAny _ _ (if (((HT.sIx items.size 0 lo : Nat) : Int) == 0 && (1 : Int) == 1 && (HT.sIx items.size items.size hi - HT.sIx items.size 0 lo) == items.size) = true then _ else _) _ _ s
  rw [if_pos hyes]
  refine wpAny_bind (m := Builtin.Tuple.tupleIsExact (.ref t)) ?_
  unfold Builtin.Tuple.tupleIsExact
  refine wpAny_bind (wpAny_typeOf ht.typeIs (wpAny_pure ?_))
  rw [if_pos (by decide)]
  exact wpAny_bind (wpAny_rule (wpAny_pure ⟨_, rfl, wpAny_pure h⟩))
theorem noFill_tuple_mul : fillsNumberSlot (.type "tuple") "mul" = pure false :=
  PySem.fillsNumberSlot_seq (id := "tuple.__mul__") (r := some (.builtin "tuple.__rmul__")) F.slot_tuple_mul.lookup (by decide +kernel) F.slot_tuple_rmul.lookup (by decide +kernel)
theorem repeat_tuple : seqRepeat? (.type "tuple") = pure (some (.builtin "tuple.__mul__")) := by
  unfold seqRepeat?
  rw [PySem.seqSlot_of (T := "tuple") (name := "__mul__") (id := "tuple.__mul__") F.slot_tuple_mul.lookup (by decide +kernel), PySem.seqSlot_of (T := "tuple") (name := "__rmul__") (id := "tuple.__rmul__") F.slot_tuple_rmul.lookup (by decide +kernel)]
  rfl
theorem int_rmul_tuple (a : Int) (t : Tok) (l : Addr) (items : Array Value) (n : Nat) (dd : Option Addr) (sl : Array (Option Value)) :
    Meets (Builtin.«int.__rmul__» ⟨[.int a t, .ref l], []⟩) (fun _ R s => s.heap.get? l = some { cls := .type "tuple", dict := dd, data := .seq items n, slots := sl } ∧ R (.ok (.ret Value.notImplemented)) s) :=
  .of_wp fun prog w A R s h => by obtain ⟨hp, g, d, tk, os⟩ := s; obtain ⟨hl, h⟩ := h; wp_walk; exact ⟨_, rfl, h⟩
theorem tuple_mul0 (l : Addr) (items : Array Value) (n : Nat) (dd : Option Addr) (sl : Array (Option Value)) (u : Tok) (hc : ¬ items.isEmpty = true) :
    Meets (Builtin.«tuple.__mul__» ⟨[.ref l, .int 0 u], []⟩) (fun _ R s => s.heap.get? l = some { cls := .type "tuple", dict := dd, data := .seq items n, slots := sl } ∧ R (.ok (.ret (Value.ref s.heap.objs.size))) { s with heap := s.heap.push { cls := Value.type "tuple", data := Data.seq #[] }, toks := s.toks }) :=
  .of_wp fun prog w A R s h => by
    obtain ⟨hp, g, d, tk, os⟩ := s; obtain ⟨hl, h⟩ := h
    have f1 := AutoSeq1.idx_int; have f2 := AutoSeq1.sub_tuple_tuple
    wp_walk using AutoSeq1.wpAny_loadPart' hl
    exact ⟨_, rfl, h⟩
theorem tuple_mul2 (l : Addr) (items : Array Value) (n : Nat) (dd : Option Addr) (sl : Array (Option Value)) (u : Tok) (hc : ¬ items.isEmpty = true) (hz : items.size * 2 ≤ sizeLine) :
    Meets (Builtin.«tuple.__mul__» ⟨[.ref l, .int 2 u], []⟩) (fun _ R s => s.heap.get? l = some { cls := .type "tuple", dict := dd, data := .seq items n, slots := sl } ∧ R (.ok (.ret (Value.ref s.heap.objs.size))) { s with heap := s.heap.push { cls := Value.type "tuple", data := Data.seq (items ++ items) }, toks := s.toks }) :=
  .of_wp fun prog w A R s h => by
    obtain ⟨hp, g, d, tk, os⟩ := s; obtain ⟨hl, h⟩ := h
    have f1 := AutoSeq1.idx_int; have f2 := AutoSeq1.sub_tuple_tuple
    have hc1 : ¬ ((items.size : Int) * 2 > (2 ^ 63 - 1) / 8) := by
      have : (sizeLine : Nat) ≤ (2 ^ 63 - 1) / 8 := by decide
      omega
    have hc2 : ¬ Builtin.Tuple.tupleTooMany ((items.size : Int) * 2) = true := by
      unfold Builtin.Tuple.tupleTooMany
      simp only [gt_iff_lt, decide_eq_true_eq]
      omega
    have e : List.foldl (fun x1 x2 => x1 ++ x2) #[] (List.replicate (Int.toNat 2) items) = items ++ items := by simp [List.replicate]
    rw [← e] at h
    wp_walk using AutoSeq1.wpAny_loadPart' hl
    rw [if_neg hc1]
    dsimp only
    rw [if_neg hc2]
    have hsz : (List.foldl (fun x1 x2 => x1 ++ x2) #[] (List.replicate (Int.toNat 2) items)).size ≤ sizeLine := by rw [e, Array.size_append]; omega
    wp_walk
    refine wpAny_ite_false (decide_eq_false (Nat.not_lt.mpr hsz)) ?_
    wp_walk
    exact ⟨_, rfl, h⟩
end
section
variable {X : Cx}
def rCatU (K : PySem.W.Frag) : R2 := fun x y H Q => ∃ a b xs ys, x = .ref a ∧ y = .ref b ∧ SqT K H a xs ∧ SqT K H b ys ∧ xs.length + ys.length ≤ sizeLine ∧ ∀ p H', SqT K H' p (xs ++ ys) → Same H H' → Q (.ref p) H'
theorem op_catU : OpR X (binaryOp .Add) (rCatU X.K) := by
  intro pins s σ H x y v u Q I rx ry h
  obtain ⟨a, b, xs, ys, rfl, rfl, ha, hb, hz, q⟩ := h
  by_cases hx : xs = []
  · subst hx
    cases rx
    cases ry
    obtain ⟨its, r1, p1, _⟩ := I.tuple ha
    obtain ⟨its2, r2, p2, _⟩ := I.tuple hb
    cases r1
    exact cat_tup0 p1 p2 ⟨.ref b, H, I, rfl, q b H (by simpa using hb) (Same.refl _)⟩
  · exact op_catT pins s σ H _ _ v u Q I rx ry ⟨a, b, xs, ys, rfl, rfl, ha, hb, hx, hz, fun e => q a H (by rw [e, List.append_nil]; exact ha) (Same.refl _), fun _ p hp => q p _ (SqT.of upd_same) (Same.new' hp)⟩
def rSlUU (K : PySem.W.Frag) : V → Option Int → Option Int → Hp → VK → Prop := fun x lo hi H Q => ∃ a xs, x = .ref a ∧ SqT K H a xs ∧ ∀ p H', SqT K H' p (cutV xs lo hi) → Same H H' → Q (.ref p) H'
theorem sl_tupU : SlR X (rSlUU X.K) := by
  intro pins s σ H x v vl vu lo hi sl Q I rx hs pl pu h
  obtain ⟨a, xs, rfl, hx, q⟩ := h
  by_cases hw : HT.sIx xs.length 0 lo = 0 ∧ HT.sIx xs.length xs.length hi = xs.length
  · cases rx
    obtain ⟨its, r, ht, hz⟩ := I.tuple hx
    have hlen : its.toArray.size = xs.length := by rw [List.size_toArray]; exact r.length.symm
    refine ⟨"tuple", _, PyProof.Rows.slot_tuple_getitem.lookup, ht.typeIs, ?_⟩
    refine getItem_tuple_whole ht hs pl pu (by rw [hlen]; exact hw) ⟨.ref a, H, I, rfl, q a H ?_ (Same.refl _)⟩
    unfold cutV
    rw [hw.1, hw.2, List.drop_zero, Nat.sub_zero, List.take_length]
    exact hx
  · exact sl_tup pins s σ H _ v vl vu lo hi sl Q I rx hs pl pu ⟨a, xs, rfl, hx, hw, fun p hp => q p _ (SqT.of upd_same) (Same.new' hp)⟩
def rRepT (K : PySem.W.Frag) : R2 := fun x y H Q => ∃ a xs, x = .ref a ∧ SqT K H a xs ∧ xs ≠ [] ∧ xs.length * 2 ≤ sizeLine ∧ ((y = .int 0 ∧ ∀ p H', SqT K H' p [] → Same H H' → Q (.ref p) H') ∨ (y = .int 2 ∧ ∀ p H', SqT K H' p (xs ++ xs) → Same H H' → Q (.ref p) H'))
theorem op_repT : OpR X (binaryOp .Mult) (rRepT X.K) := by
  intro pins s σ H x y v u Q I rx ry h
  obtain ⟨a, xs, rfl, hx, hne, hz, h⟩ := h
  cases rx
  obtain ⟨its, r, ht, hz'⟩ := I.tuple hx
  obtain ⟨⟨cls, dd, data, sl⟩, ho, hc, n, hd⟩ := id ht
  simp only at hc hd
  subst hc hd
  have hni : ¬ its.toArray.isEmpty = true := by
    intro z
    have : its = [] := by simpa using z
    exact hne (r.nil_iff.mp this)
  have hlen := r.length
  rcases h with ⟨rfl, q⟩ | ⟨rfl, q⟩
  · obtain ⟨t, rfl⟩ := ry
    refine wpAny_binaryOp_repeat_ref (T := "tuple") (U := "int") (by decide) ⟨_, ho, rfl⟩ (fun s' => typeIs_int s' 0 t) noFill_tuple_mul F.fills_int_mul F.slot_int_rmul repeat_tuple F.slot_int_index.lookup
      (call_meets F.slot_int_rmul (typeIs_int s 0 t) F.entry_int_rmul (F.args_int_rmul_2 _ _) (int_rmul_tuple 0 t a its.toArray n dd sl)
        ⟨ho, rfl, ⟨_, ho, rfl⟩, call_meets F.slot_tuple_mul ⟨_, ho, rfl⟩ F.entry_tuple_mul (F.args_tuple_mul_2 _ _) (tuple_mul0 a its.toArray n dd sl t hni) ⟨ho, ?_⟩⟩)
    exact ⟨.ref _, _, I.laid (t' := s.toks) (o := .tup []) (fun b ob q => Heap.get?_push_of_some _ q) (Nat.le_refl _) ⟨Nat.zero_le _, [], .nil, IsTup.new _ _⟩, rfl, q _ _ (SqT.of upd_same) (Same.new' (I.hok.fresh (Nat.le_refl _)))⟩
  · obtain ⟨t, rfl⟩ := ry
    refine wpAny_binaryOp_repeat_ref (T := "tuple") (U := "int") (by decide) ⟨_, ho, rfl⟩ (fun s' => typeIs_int s' 2 t) noFill_tuple_mul F.fills_int_mul F.slot_int_rmul repeat_tuple F.slot_int_index.lookup
      (call_meets F.slot_int_rmul (typeIs_int s 2 t) F.entry_int_rmul (F.args_int_rmul_2 _ _) (int_rmul_tuple 2 t a its.toArray n dd sl)
        ⟨ho, rfl, ⟨_, ho, rfl⟩, call_meets F.slot_tuple_mul ⟨_, ho, rfl⟩ F.entry_tuple_mul (F.args_tuple_mul_2 _ _) (tuple_mul2 a its.toArray n dd sl t hni (by rw [List.size_toArray, ← hlen]; exact hz)) ⟨ho, ?_⟩⟩)
    refine ⟨.ref _, _, I.laid (t' := s.toks) (o := .tup (xs ++ xs)) (fun b ob q => Heap.get?_push_of_some _ q) (Nat.le_refl _) ⟨by rw [List.length_append]; omega, its ++ its, r.append r, ?_⟩, rfl, q _ _ (SqT.of upd_same) (Same.new' (I.hok.fresh (Nat.le_refl _)))⟩
    have e : its.toArray ++ its.toArray = (its ++ its).toArray := by simp
    rw [e]
    exact IsTup.new _ _
def rAddU (K : PySem.W.Frag) : R2 := fun x y H Q => rI0 (fun i j => .int (i + j)) x y H Q ∨ (∃ i j, x = .str i ∧ y = .str j ∧ i.length + j.length ≤ sizeLine ∧ Q (.str (i ++ j)) H) ∨ rCat x y H Q ∨ rCatU K x y H Q
theorem op_addU (K : PySem.W.Frag) (hK : X.K = K := by rfl) : OpR X (binaryOp .Add) (rAddU K) := by subst hK; exact op_add.or (op_add_str.or (op_cat.or op_catU))
def rMulU (K : PySem.W.Frag) : R2 := fun x y H Q => rI CMulB (fun i j => .int (i * j)) x y H Q ∨ rRep x y H Q ∨ rRepT K x y H Q
theorem op_mulU (K : PySem.W.Frag) (hK : X.K = K := by rfl) : OpR X (binaryOp .Mult) (rMulU K) := by subst hK; exact op_mulB.or (op_rep.or op_repT)
def rSlU (K : PySem.W.Frag) : V → Option Int → Option Int → Hp → VK → Prop := fun x lo hi H Q => rSlL K x lo hi H Q ∨ rSlT K x lo hi H Q ∨ rSlS x lo hi H Q ∨ rSlUU K x lo hi H Q
theorem sl_U (K : PySem.W.Frag) (hK : X.K = K := by rfl) : SlR X (rSlU K) := by subst hK; exact sl_list.or (sl_tup.or (sl_str.or sl_tupU))
theorem cutV_to {xs : List V} {i : Int} {k : Nat} (h : i = k) (hk : k ≤ xs.length) : cutV xs none (some i) = xs.take k := by
  subst h
  unfold cutV
  rw [HT.sIx_nat, HT.sIx_none, List.drop_zero, Nat.min_eq_left hk, Nat.sub_zero]
theorem cutV_mid {xs : List V} {i j : Int} {k l : Nat} (h : i = k) (h' : j = l) (hk : k ≤ l) (hl : l ≤ xs.length) : cutV xs (some i) (some j) = (xs.drop k).take (l - k) := by
  subst h h'
  unfold cutV
  rw [HT.sIx_nat, HT.sIx_nat, Nat.min_eq_left hl, Nat.min_eq_left (Nat.le_trans hk hl)]
end
end L2
set_option Elab.async false
set_option linter.all false
set_option maxRecDepth 100000
namespace L2
open PySem PySem.Spec PyProof.Rows
structure Flew (P : Program) (w : World) (outer : List Env) (H : Hp) (s : Shared) (e : Addr) (C : Value) (H' : Hp) (s' : Shared) (B : Heap) (a0 : Value) : Prop where
  os : s'.os = s.os
  bare : AllBare s'.gens
  keep : ∀ b o, s.heap.get? b = some o → H b = none → b ∉ frs outer → B.get? b = some o
  slot : ∀ b o, s.heap.get? b = some o → H b = none → b ∈ frs outer → ∃ sl, s'.heap.get? b = some { o with slots := sl }
  free : ∀ b o, s.heap.get? b = some o → H b = none → H' b = none
  there : ∀ b o, s.heap.get? b = some o → b ∉ frs outer → ∃ o', B.get? b = some o'
  tups : ∀ b xs, H b = some (.tup xs) → H' b = some (.tup xs)
  frzs : ∀ b o u, H b = some (.frz o u) → H' b = some (.frz o u)
  tbls : ∀ b ps, H b = some (.tbl ps) → ∃ more, H' b = some (.tbl (ps ++ more))
  hok : HOk P w H' B
  fly : Heap.FlyingW B outer e C a0 s'.heap
def CX1 (P : Program) (w : World) : CXT := fun outer H s E ev s' => ∃ e C H' B a0, ev = Value.ref e ∧ Flew P w outer H s e C H' s' B a0 ∧ E C none H'
section
variable {P : Program} {w : World} {outer : List Env} {H H' : Hp} {s s' : Shared} {e : Addr} {C a0 : Value} {B h2 : Heap}
theorem Flew.un (F : Flew P w outer H s e C H' s' B a0) (hfr : ∀ b ∈ frs outer, H b = none) (hB : B.StaysIn h2) (hs : s'.heap.UpToSlots h2) : Un (frs outer) [] H H' s.heap h2 := by
  have sl : ∀ b o, s.heap.get? b = some o → H b = none → b ∈ frs outer → ∃ sl, h2.get? b = some { o with slots := sl } := fun b o q n hb => by
    obtain ⟨sl, e1⟩ := F.slot b o q n hb
    obtain ⟨_, o2, e2, hd⟩ := F.fly.2.2.1.mem hb
    rw [e1] at e2
    cases e2
    obtain ⟨z, ez⟩ := hs b _ e1 hd
    exact ⟨z, ez⟩
  refine ⟨fun b o q n hb _ => hB b o (F.keep b o q n hb), fun b o q n hb _ => sl b o q n hb, fun b o q n _ => F.free b o q n, fun b o q _ => ?_, F.tups, F.frzs, F.tbls⟩
  by_cases hb : b ∈ frs outer
  · obtain ⟨z, e1⟩ := sl b o q (hfr b hb) hb
    exact ⟨_, e1⟩
  · obtain ⟨o', e1⟩ := F.there b o q hb
    exact ⟨o', hB b o' e1⟩
end
section
variable {X : Cx} {pins : List (Addr × Obj)} {σ : St} {H H' : Hp} {s s' : Shared} {e : Addr} {C a0 : Value} {B h2 : Heap}
end
section
variable {P : Program} {w : World} {K : PySem.W.Frag} {mg : Str → Option Value} {base : Heap} {N : List Str} {qual : Str} {scope : Scope} {f : Addr} {cd : Value} {A : Around} {outer : List Env} {s : Shared} {H : Hp} {E : XK}
def Raises (X : Cx) (E : XK) : Prop := ∀ (pins : List (Addr × Obj)) (σ : St) (H : Hp) (s : Shared) (h' : Heap) (e : Addr) (C : Value) (vs : List Value), Inv X pins σ H s → Heap.MadeExcOf s.heap h' e C vs → E C none H → X.xe (.ref e) { s with heap := h' }
end
end L2
set_option Elab.async false
set_option linter.all false
set_option maxRecDepth 100000
namespace L2
open PySem PySem.Spec PyProof.Rows
open PySem.W (findIn specialIn takesIn mroIn subIn clsIn Looks KitX)
open PySem.Builtin.Getset_descriptor (descrGet descrGetter descrCheckInstance descrNameAndClass)
structure ExcC (K : PySem.W.Frag) (C : Addr) : Prop where
  exc : PySem.W.excIn K C [.type "ValueError", .type "Exception", .type "BaseException", .type "object"] "ValueError.__new__" = true
  ga : findIn K (.ref C) "__getattribute__" = some (some (.builtin "BaseException.__getattribute__"))
  gh : findIn K (.ref C) "__getattr__" = some none
  at_ : findIn K (.ref C) "__class__" = some (some (.builtin "object.__class__"))
  get : specialIn K (.builtin "object.__class__") "__get__" = some (some (.builtin "getset_descriptor.__get__"))
  tk : takesIn K (.builtin "object.__class__") = some true
  obj : mroIn K C (.type "object") = some true
  sub : subIn K (.ref C) (.type "BaseException") = some true
def ClsAt (h : Heap) (x C : Addr) : Prop := ∃ ox, h.get? x = some ox ∧ ox.cls = .ref C
theorem ClsAt.type {M : Model} {h : Heap} {x C : Addr} (I : ClsAt h x C) : Looks M h (typeOf (.ref x)) (.ref C) := by
  obtain ⟨ox, h1, h2⟩ := I
  exact h2 ▸ (Looks.ld h1).andThen .now
section
variable {prog : Program} {w : World} {A : Around} {E : Value → Shared → Prop} {s : Shared} {K : PySem.W.Frag} {x C : Addr}
theorem ExcC.look (c : ExcC K C) : ∃ oc od cd sl, K.lookup C = some ⟨oc, od, .cls cd, sl⟩ := by
  have hc := c.exc
  unfold PySem.W.excIn at hc
  split at hc
  · rename_i c2 c3 c4 ho
    exact ⟨_, c2, c3, c4, ho⟩
  · cases hc
end
def ExcO (x C : Addr) : HO := .ext fun h => ClsAt h x C
section
variable {X : Cx}
def rIsiX (K : PySem.W.Frag) : List V → Hp → VK → Prop := fun xs H Q => ∃ x C b, xs.head? = some (.ref x) ∧ H x = some (ExcO x C) ∧ ExcC K C ∧
  ((∃ D, xs = [.ref x, .ref D] ∧ PySem.W.kitOne K (.ref C) (.ref D) = some b) ∨ (∃ n, xs = [.ref x, .ty n] ∧ PySem.W.kitOne K (.ref C) (.type n) = some b)) ∧ Q (.bl b) H
end
end L2
set_option Elab.async false
set_option linter.all false
set_option maxRecDepth 100000
namespace L2
open PySem PySem.Spec PyProof.Rows
open PySem.W (Looks)
section
variable {X : Cx} {E : XK} {x : Str} {C : Addr} {e0 : Expr} {es : List Expr} {t : TA} {np cpos pos : Pos}
def tRaise (C : Addr) (E : XK) (t : TA) : TS := fun _ σ H => t σ H fun vs H1 => vs.length ≤ sizeLine ∧ E (.ref C) none H1
end
def Flown (X : Cx) (pins : List (Addr × Obj)) (σ : St) (Hd : Addr → Hp → Prop) (ev : Value) (s' : Shared) : Prop :=
  ∃ e C H' B a0, ev = Value.ref e ∧ Heap.FlyingW B X.stack e (.ref C) a0 s'.heap ∧ (∀ h2 : Heap, B.StaysIn h2 → s'.heap.UpToSlots h2 → ClsAt h2 e C → Inv X pins σ (upd H' e (ExcO e C)) { s' with heap := h2 }) ∧ H' e = none ∧ Hd C H'
theorem ObjOk.has {P : Program} {w : World} {H : Hp} {h : Heap} {a : Addr} {o : HO} (x : ObjOk P w H h a o) : ∃ ob, h.get? a = some ob := by
  cases o with
  | lst xs => obtain ⟨_, _, _, _, e⟩ := x; exact ⟨_, e⟩
  | tup xs => obtain ⟨_, _, _, o, e, _⟩ := x; exact ⟨_, e⟩
  | dK kvs => obtain ⟨_, _, _, _, o, _, _, e, _⟩ := x; exact ⟨_, e⟩
  | dT kvs => obtain ⟨_, _, _, _, o, _, _, e, _⟩ := x; exact ⟨_, e⟩
  | set S n => obtain ⟨o, _, _, _, e, _⟩ := x; exact ⟨_, e⟩
  | ins C dx fs => obtain ⟨_, _, _, e, _⟩ := x; exact ⟨_, e⟩
  | own y => exact x
  | xd fs => obtain ⟨_, ⟨_, _, _, e, _⟩, _⟩ := x; exact ⟨_, e⟩
  | met f y => exact ⟨_, x⟩
  | rng lo hi => obtain ⟨_, _, _, e⟩ := x; exact ⟨_, e⟩
  | frz ob u => exact ⟨_, x.1⟩
  | tbl ps => exact ⟨_, x⟩
  | ext φ => exact x.2.1
section
variable {X : Cx} {pins : List (Addr × Obj)} {σ : St} {H H' : Hp} {s s' : Shared} {e C : Addr} {a0 : Value} {B h2 : Heap}
theorem Flew.new (F : Flew X.prog X.w X.stack H s e (.ref C) H' s' B a0) : s.heap.get? e = none ∧ H' e = none := by
  have hB : B.get? e = none := F.fly.2.1
  constructor
  · cases q : s.heap.get? e with
    | none => rfl
    | some o =>
      by_cases hm : e ∈ frs X.stack
      · obtain ⟨_, o2, e2, hd⟩ := F.fly.2.2.1.mem hm
        obtain ⟨oe, vs, e3, _, hf, _⟩ := F.fly.first
        rw [e2] at e3
        cases e3
        exact absurd hf (hd vs)
      · obtain ⟨o2, e2⟩ := F.there e o q hm
        rw [hB] at e2
        cases e2
  · cases q : H' e with
    | none => rfl
    | some o =>
      obtain ⟨ob, e2⟩ := (F.hok e o q).has
      rw [hB] at e2
      cases e2
end
def PX (X : Cx) (e : Expr) (te : (Addr → Hp → Prop) → TE) : Prop :=
  ∀ (Hd : Addr → Hp → Prop) (pins : List (Addr × Obj)) (s : Shared) (σ : St) (H : Hp) (Q : VK), Inv X pins σ H s → te Hd σ H Q →
    wpAny (model X.prog X.w) X.A (eval e X.env) (EP X pins σ Q) (fun ev s' => X.xe ev s' ∨ Flown X pins σ Hd ev s') s
section
variable {X : Cx} {k : Nat} {f : Addr} {fd : FuncData} {ps : List Str} {sp : Sp} {dvs : List V} {ds : List Value} {x : Str} {p pos : Pos} {e : Expr} {es : List Expr} {t : TA}
end
def PSX (X : Cx) (st : Stmt) (ts : (Addr → Hp → Prop) → TS) : Prop :=
  ∀ (Hd : Addr → Hp → Prop) (pins : List (Addr × Obj)) (s : Shared) (σ : St) (H : Hp) (D : Ends), Inv X pins σ H s → ts Hd D σ H →
    wpAny (model X.prog X.w) X.A (exec st X.env) (SP X pins D) (fun ev s' => X.xe ev s' ∨ Flown X pins σ Hd ev s') s
section
variable {X : Cx} {e : Expr} {te : (Addr → Hp → Prop) → TE} {pos : Pos}
end
end L2
set_option Elab.async false
set_option linter.all false
set_option maxRecDepth 100000
namespace L2
open PySem PySem.Spec PyProof.Rows
open PySem.W (Looks)
abbrev Cx.marked (X : Cx) (ev : Value) : Cx := { X with A := X.A.mark (some ev), calm := false, xe := fun _ _ => False }
section
variable {X : Cx} {pins : List (Addr × Obj)} {σ : St} {H : Hp} {s : Shared} {ev : Value}
theorem Inv.marked (I : Inv X pins σ H s) (ev : Value) : Inv (X.marked ev) pins σ H s :=
  ⟨⟨I.ok.mod, I.ok.kind, I.ok.glob, I.ok.blt, I.ok.above, I.ok.inj, I.ok.has, I.ok.cab, fun z => absurd (show false = true from z) Bool.false_ne_true, I.ok.frames, I.ok.stk, I.ok.exf, I.ok.bs, I.ok.bsz, I.ok.noex, I.ok.exfs, I.ok.funs, I.ok.frf⟩, I.os, I.bare, I.base, I.loc, I.cell, I.free, I.freeC, I.pin, I.hok, I.len⟩
end
def tTry (K : PySem.W.Frag) (D : Addr) (i : Nat) (ts : (Addr → Hp → Prop) → TS) (tu : TS) : TS := fun Dn σ H => ∃ Hd : Addr → Hp → Prop, ts Hd Dn σ H ∧ ∀ (e C : Addr) (H' : Hp), Hd C H' → H' e = none → PySem.W.exmOne K (.ref C) (.ref D) = some true ∧
  tu { nx := fun σ' H2 => Dn.nx (σ'.set i none) H2, rt := Dn.rt, bk := fun σ' H2 => Dn.bk (σ'.set i none) H2, ct := fun σ' H2 => Dn.ct (σ'.set i none) H2 } (σ.set i (some (.ref e))) (upd H' e (ExcO e C))
section
variable {X : Cx} {st b0 : Stmt} {suite : List Stmt} {ts : (Addr → Hp → Prop) → TS} {tu : TS} {D : Addr} {x n : Str} {i : Nat} {tp hp pos : Pos}
end
end L2
set_option Elab.async false
set_option linter.all false
set_option maxRecDepth 100000
namespace L2
open PySem PySem.Spec PyProof.Rows
open PySem.Builtin.Str (occurrences partsBetween strSub subAt)
def splitC (c : Nat) : List Nat → List (List Nat)
  | [] => [[]]
  | a :: l => if a = c then [] :: splitC c l else match splitC c l with
    | p :: r => (a :: p) :: r
    | [] => [[a]]
def pieceC (c : Nat) (ps : List (List Nat)) (a : Nat) : List (List Nat) := if a = c then ps ++ [[]] else ps.dropLast ++ [ps.getLastD [] ++ [a]]
def cutsC (c : Nat) : List Nat → List Nat
  | [] => []
  | a :: l => if a = c then 0 :: (cutsC c l).map (· + 1) else (cutsC c l).map (· + 1)
def partsL (l cuts : List Nat) : List (List Nat) := ((0 :: cuts.map (· + 1)).zip (cuts ++ [l.length])).map fun p => (l.drop p.1).take (p.2 - p.1)
def mkS (l : List Nat) : Str := ⟨l.toArray⟩
section
variable {X : Cx}
def rSplit : V → List V → Hp → VK → Prop := fun x vs H Q => ∃ (z : Str) (c : Nat), x = .str z ∧ vs = [.str ⟨#[c]⟩] ∧ c < 256 ∧ z.length ≤ 1000 ∧ ∀ l, H l = none → Q (.ref l) (upd H l (.lst (((splitC c z.cps.toList).map mkS).map V.str)))
def rStarts : V → List V → Hp → VK → Prop := fun x vs H Q => ∃ (z : Str) (c : Nat), x = .str z ∧ vs = [.str ⟨#[c]⟩] ∧ Q (.bl (decide (z.cps.toList[0]? = some c))) H
end
end L2
set_option Elab.async false
set_option linter.all false
set_option maxRecDepth 100000
namespace L2
open PySem PySem.Spec PyProof.Rows
end L2
set_option Elab.async false
set_option linter.all false
set_option maxRecDepth 100000
namespace L2
open PySem
namespace Tb
open PySem.SetTable
def adv (mask : Nat) (p : Probe) : Probe :=
  if p.more > 0 then { p with j := p.j + 1, more := p.more - 1 } else
  { p with j := (leap mask p.i p.perturb).1, more := runEnd mask (leap mask p.i p.perturb).1 - (leap mask p.i p.perturb).1, i := (leap mask p.i p.perturb).1, perturb := (leap mask p.i p.perturb).2 }
def beg (mask : Nat) (h : Int) : Probe := { j := bits h % (mask + 1), more := runEnd mask (bits h % (mask + 1)) - bits h % (mask + 1), i := bits h % (mask + 1), perturb := bits h, dummy := none }
def it (mask : Nat) : Nat → Probe → Probe
  | 0, p => p
  | n + 1, p => it mask n (adv mask p)
theorem it_add (mask : Nat) : ∀ (a b : Nat) (p : Probe), it mask (a + b) p = it mask b (it mask a p)
  | 0, b, p => by rw [Nat.zero_add]; rfl
  | a + 1, b, p => by rw [Nat.succ_add]; exact it_add mask a b (adv mask p)
theorem it_run (mask : Nat) : ∀ (m : Nat) (p : Probe), p.more = m → it mask (m + 1) p = { p with j := (leap mask p.i p.perturb).1, more := runEnd mask (leap mask p.i p.perturb).1 - (leap mask p.i p.perturb).1, i := (leap mask p.i p.perturb).1, perturb := (leap mask p.i p.perturb).2 }
  | 0, p, h => by
    show adv mask p = _
    unfold adv
    rw [if_neg (by omega)]
  | m + 1, p, h => by
    have e : adv mask p = { p with j := p.j + 1, more := p.more - 1 } := by unfold adv; rw [if_pos (by omega)]
    show it mask (m + 1) (adv mask p) = _
    rw [e, it_run mask m _ (show p.more - 1 = m by omega)]
def lp (mask : Nat) : Nat → Nat × Nat → Nat × Nat
  | 0, q => q
  | n + 1, q => lp mask n (leap mask q.1 q.2)
theorem lp_add (mask : Nat) : ∀ (a b : Nat) (q : Nat × Nat), lp mask (a + b) q = lp mask b (lp mask a q)
  | 0, b, q => by rw [Nat.zero_add]; rfl
  | a + 1, b, q => by rw [Nat.succ_add]; exact lp_add mask a b _
theorem run_le (mask i : Nat) : runEnd mask i - i ≤ 9 := by unfold runEnd; split <;> omega
theorem lp_pert (mask : Nat) : ∀ (k : Nat) (q : Nat × Nat), (lp mask k q).2 = q.2 / 32 ^ k
  | 0, q => by simp [lp]
  | k + 1, q => by
    show (lp mask k (leap mask q.1 q.2)).2 = _
    rw [lp_pert mask k, Nat.pow_succ, Nat.mul_comm, ← Nat.div_div_eq_div_mul]
    rfl
theorem lp_le (mask : Nat) : ∀ (k : Nat) (q : Nat × Nat), q.1 ≤ mask → (lp mask k q).1 ≤ mask
  | 0, q, h => h
  | k + 1, q, h => lp_le mask k _ (by have := Nat.mod_lt (q.1 * 5 + 1 + q.2 / 32) (Nat.succ_pos mask); exact Nat.le_of_lt_succ this)
def Mk (mask : Nat) : Prop := mask = 7 ∨ mask = 31
theorem cyc7 : ∀ i : Fin 8, ∀ j : Fin 8, ∃ r : Fin 8, (lp 7 r.val (i.val, 0)).1 = j.val := by decide +kernel
theorem cyc31 : ∀ i : Fin 32, ∀ j : Fin 32, ∃ r : Fin 32, (lp 31 r.val (i.val, 0)).1 = j.val := by decide +kernel
theorem cyc {mask i j : Nat} (hm : Mk mask) (hi : i ≤ mask) (hj : j ≤ mask) : ∃ r, r ≤ mask ∧ (lp mask r (i, 0)).1 = j := by
  rcases hm with rfl | rfl
  · obtain ⟨r, e⟩ := cyc7 ⟨i, by omega⟩ ⟨j, by omega⟩
    exact ⟨r.val, by omega, e⟩
  · obtain ⟨r, e⟩ := cyc31 ⟨i, by omega⟩ ⟨j, by omega⟩
    exact ⟨r.val, by omega, e⟩
theorem lp_all {mask i pert j : Nat} (hm : Mk mask) (hi : i ≤ mask) (hp : pert < 2 ^ 64) (hj : j ≤ mask) : ∃ k, 13 ≤ k ∧ k ≤ 13 + mask ∧ (lp mask k (i, pert)).1 = j := by
  obtain ⟨r, hr, e⟩ := cyc hm (lp_le mask 13 (i, pert) hi) hj
  refine ⟨13 + r, by omega, by omega, ?_⟩
  rw [lp_add]
  have z : (lp mask 13 (i, pert)).2 = 0 := by
    rw [lp_pert]
    exact Nat.div_eq_of_lt (Nat.lt_trans hp (by decide))
  have : lp mask 13 (i, pert) = ((lp mask 13 (i, pert)).1, 0) := by rw [← z]
  rw [this]
  exact e
structure Val (mask : Nat) (p : Probe) : Prop where
  i : p.i ≤ mask
  more : p.more ≤ 9
  pert : p.perturb < 2 ^ 64
  inn : p.j + p.more ≤ mask
theorem run_in {mask i : Nat} (h : i ≤ mask) : i + (runEnd mask i - i) ≤ mask := by unfold runEnd; split <;> omega
theorem Val.beg (mask : Nat) (h : Int) : Val mask (beg mask h) := by
  have hi : bits h % (mask + 1) ≤ mask := Nat.le_of_lt_succ (Nat.mod_lt _ (Nat.succ_pos _))
  refine ⟨hi, run_le _ _, ?_, run_in hi⟩
  show (h % (2 ^ 64 : Int)).toNat < 2 ^ 64
  have h1 : h % (2 ^ 64 : Int) < 2 ^ 64 := Int.emod_lt_of_pos _ (by decide)
  have h0 : 0 ≤ h % (2 ^ 64 : Int) := Int.emod_nonneg _ (by decide)
  omega
theorem Val.adv {mask : Nat} {p : Probe} (v : Val mask p) : Val mask (adv mask p) := by
  unfold Tb.adv
  split
  · rename_i hm
    exact ⟨v.i, by show p.more - 1 ≤ 9; have := v.more; omega, v.pert, by show p.j + 1 + (p.more - 1) ≤ mask; have := v.inn; omega⟩
  · refine ⟨lp_le mask 1 (p.i, p.perturb) v.i, run_le _ _, ?_, run_in (lp_le mask 1 (p.i, p.perturb) v.i)⟩
    exact Nat.lt_of_le_of_lt (Nat.div_le_self _ _) v.pert
theorem Val.it {mask : Nat} : ∀ (n : Nat) {p : Probe}, Val mask p → Val mask (it mask n p)
  | 0, _, v => v
  | n + 1, _, v => Val.it n v.adv
theorem below_go (xs : Array Nat) (j : Nat) (hr : xs.toList.Pairwise (· < ·)) : ∀ (fuel lo hi : Nat), hi - lo ≤ fuel → lo ≤ hi → hi ≤ xs.size →
    (∀ k v, k < lo → xs[k]? = some v → v < j) → (∀ k v, hi ≤ k → xs[k]? = some v → j ≤ v) →
    (∀ k v, k < below.go xs j fuel lo hi → xs[k]? = some v → v < j) ∧ (∀ k v, below.go xs j fuel lo hi ≤ k → xs[k]? = some v → j ≤ v) ∧ below.go xs j fuel lo hi ≤ xs.size := by
  have mono : ∀ {a b u v : Nat}, a < b → xs[a]? = some u → xs[b]? = some v → u < v := by
    intro a b u v hab hu hv
    rw [← Array.getElem?_toList] at hu hv
    obtain ⟨ha, ea⟩ := List.getElem?_eq_some_iff.mp hu
    obtain ⟨hb, eb⟩ := List.getElem?_eq_some_iff.mp hv
    have := List.pairwise_iff_getElem.mp hr a b ha hb hab
    rw [ea, eb] at this
    exact this
  intro fuel
  induction fuel with
  | zero =>
    intro lo hi h1 h2 h3 h4 h5
    have e : lo = hi := by omega
    subst e
    exact ⟨h4, h5, h3⟩
  | succ fuel ih =>
    intro lo hi h1 h2 h3 h4 h5
    unfold below.go
    by_cases hlt : lo < hi
    · rw [if_pos hlt]
      dsimp only
      have hmid : (lo + hi) / 2 < xs.size := by omega
      have hg : xs[(lo + hi) / 2]? = some xs[(lo + hi) / 2] := Array.getElem?_eq_getElem hmid
      have hgd : xs.getD ((lo + hi) / 2) j = xs[(lo + hi) / 2] := by simp [Array.getD, hmid]
      rw [hgd]
      by_cases hc : xs[(lo + hi) / 2] < j
      · rw [if_pos hc]
        refine ih _ _ (by omega) (by omega) h3 (fun k v hk hv => ?_) h5
        by_cases hk2 : k < (lo + hi) / 2
        · have := mono hk2 hv hg
          omega
        · have e : k = (lo + hi) / 2 := by omega
          subst e
          rw [hg] at hv
          cases hv
          exact hc
      · rw [if_neg hc]
        refine ih _ _ (by omega) (by omega) (by omega) h4 (fun k v hk hv => ?_)
        by_cases hk2 : (lo + hi) / 2 < k
        · have := mono hk2 hg hv
          omega
        · have e : k = (lo + hi) / 2 := by omega
          subst e
          rw [hg] at hv
          cases hv
          omega
    · rw [if_neg hlt]
      have e : lo = hi := by omega
      subst e
      exact ⟨h4, h5, h3⟩
theorem below_ok {xs : Array Nat} (j : Nat) (hr : xs.toList.Pairwise (· < ·)) : (∀ k v, k < below xs j → xs[k]? = some v → v < j) ∧ (∀ k v, below xs j ≤ k → xs[k]? = some v → j ≤ v) ∧ below xs j ≤ xs.size :=
  below_go xs j hr xs.size 0 xs.size (by omega) (Nat.zero_le _) (Nat.le_refl _) (fun k v hk _ => absurd hk (by omega)) (fun k v hk hv => by
    rw [Array.getElem?_eq_none hk] at hv
    cases hv)
end Tb
end L2
set_option Elab.async false
set_option linter.all false
set_option maxRecDepth 100000
namespace L2
open PySem
namespace Tb
open PySem.SetTable
def Rch (mask : Nat) (pl : List Nat) (h : Int) (j : Nat) : Prop := ∃ n, (it mask n (beg mask h)).j = j ∧ ∀ k, k < n → (it mask k (beg mask h)).j ∈ pl
theorem Rch.mono {mask : Nat} {pl pl' : List Nat} {h : Int} {j : Nat} (r : Rch mask pl h j) (s : ∀ x ∈ pl, x ∈ pl') : Rch mask pl' h j := by
  obtain ⟨n, e, a⟩ := r
  exact ⟨n, e, fun k hk => s _ (a k hk)⟩
structure Tab (es : Array (Int × Value)) (t : SetTable) : Prop where
  sz : t.place.size = es.size
  dm : t.dummies = #[]
  ris : t.place.toList.Pairwise (· < ·)
  le : ∀ j ∈ t.place.toList, j ≤ t.mask
  rch : ∀ (i : Nat) (e : Int × Value) (j : Nat), es[i]? = some e → t.place[i]? = some j → Rch t.mask t.place.toList e.1 j
theorem ins_at {α : Type} (xs : Array α) (p : Nat) (x : α) (hp : p ≤ xs.size) (i : Nat) (y : α) (h : (insertAt xs p x)[i]? = some y) :
    (i = p ∧ y = x) ∨ ∃ k, (if k < p then i = k else i = k + 1) ∧ xs[k]? = some y := by
  rw [← Array.getElem?_toList, SetTable.toList_insertAt] at h
  have hl : (xs.toList.take p).length = p := by rw [List.length_take, Array.length_toList]; omega
  by_cases h1 : i < p
  · rw [List.getElem?_append_left (by omega), List.getElem?_take_of_lt h1, Array.getElem?_toList] at h
    exact .inr ⟨i, by rw [if_pos h1], h⟩
  · rw [List.getElem?_append_right (by omega), hl] at h
    by_cases h2 : i = p
    · subst h2
      rw [Nat.sub_self] at h
      exact .inl ⟨rfl, (Option.some.inj h).symm⟩
    · obtain ⟨k, rfl⟩ : ∃ k, i = k + 1 := ⟨i - 1, by omega⟩
      rw [show k + 1 - p = (k - p) + 1 by omega, List.getElem?_cons_succ, List.getElem?_drop, show p + (k - p) = k by omega, Array.getElem?_toList] at h
      exact .inr ⟨k, by rw [if_neg (by omega)], h⟩
theorem ins_mem {α : Type} {xs : Array α} {p : Nat} {x y : α} : y ∈ (insertAt xs p x).toList ↔ y = x ∨ y ∈ xs.toList := by
  rw [(SetTable.insertAt_perm xs p x).mem_iff, Array.toList_push, List.mem_append, List.mem_singleton]
  exact Or.comm
theorem ins_size {α : Type} (xs : Array α) (p : Nat) (x : α) : (insertAt xs p x).size = xs.size + 1 := by
  rw [← Array.length_toList, (SetTable.insertAt_perm xs p x).length_eq, Array.toList_push, List.length_append, Array.length_toList]
  rfl
theorem ins_ris {xs : Array Nat} {j : Nat} (hr : xs.toList.Pairwise (· < ·)) (hj : j ∉ xs.toList) : (insertAt xs (below xs j) j).toList.Pairwise (· < ·) := by
  obtain ⟨h1, h2, h3⟩ := below_ok (xs := xs) j hr
  rw [SetTable.toList_insertAt]
  have lo : ∀ v ∈ xs.toList.take (below xs j), v < j := fun v hv => by
    obtain ⟨k, hk⟩ := List.mem_iff_getElem?.mp hv
    have hlt : k < below xs j := by
      have := (List.getElem?_eq_some_iff.mp hk).1
      rw [List.length_take] at this
      omega
    rw [List.getElem?_take_of_lt hlt, Array.getElem?_toList] at hk
    exact h1 k v hlt hk
  have hi : ∀ v ∈ xs.toList.drop (below xs j), j < v := fun v hv => by
    obtain ⟨k, hk⟩ := List.mem_iff_getElem?.mp hv
    rw [List.getElem?_drop, Array.getElem?_toList] at hk
    have l1 := h2 _ v (Nat.le_add_right _ _) hk
    have : v ≠ j := fun z => hj (z ▸ List.mem_of_mem_drop hv)
    omega
  refine List.pairwise_append.mpr ⟨hr.sublist (List.take_sublist _ _), List.pairwise_cons.mpr ⟨hi, hr.sublist (List.drop_sublist _ _)⟩, fun a ha b hb => ?_⟩
  rcases List.mem_cons.mp hb with rfl | hb
  · exact lo a ha
  · exact Nat.lt_trans (lo a ha) (hi b hb)
theorem Tab.put {es : Array (Int × Value)} {t : SetTable} (T : Tab es t) {j : Nat} (hj : j ∉ t.place.toList) (hjm : j ≤ t.mask) {h : Int} {x : Value} (r : Rch t.mask t.place.toList h j) (b : Bool) :
    Tab (insertAt es (below t.place j) (h, x)) { t with place := insertAt t.place (below t.place j) j, plain := b } := by
  have hb := (below_ok (xs := t.place) j T.ris).2.2
  refine ⟨?_, T.dm, ins_ris T.ris hj, fun k hk => ?_, fun i e k he hk => ?_⟩
  · show (insertAt t.place _ j).size = _
    rw [ins_size, ins_size, T.sz]
  · rcases ins_mem.mp hk with rfl | hk
    · exact hjm
    · exact T.le k hk
  · have sub : ∀ y ∈ t.place.toList, y ∈ (insertAt t.place (below t.place j) j).toList := fun y hy => ins_mem.mpr (.inr hy)
    rcases ins_at es _ _ (by rw [← T.sz]; exact hb) i e he with ⟨rfl, rfl⟩ | ⟨k1, e1, g1⟩
    · rcases ins_at t.place _ _ hb _ k hk with ⟨_, rfl⟩ | ⟨k2, e2, g2⟩
      · exact r.mono sub
      · split at e2 <;> omega
    · rcases ins_at t.place _ _ hb _ k hk with ⟨e2, rfl⟩ | ⟨k2, e2, g2⟩
      · split at e1 <;> omega
      · have e3 : k1 = k2 := by split at e1 <;> split at e2 <;> omega
        subst e3
        exact (T.rch k1 e k g1 g2).mono sub
theorem Tab.new (led : Bool) : Tab #[] (.fresh 0 0 led) := ⟨rfl, rfl, by simp [SetTable.fresh], fun j hj => by simp [SetTable.fresh] at hj, fun i e j he => by simp at he⟩
structure Own (hs : Array Int) (k : Nat) (ow : Array (Option Nat)) : Prop where
  sz : ow.size = 32
  ks : ((List.range 32).filterMap fun j => ow.getD j none).Perm (List.range k)
  rch : ∀ j i, ow[j]? = some (some i) → ∃ h, hs[i]? = some h ∧ ∃ n, (it 31 n (beg 31 h)).j = j ∧ ∀ m, m < n → ∃ i', ow[(it 31 m (beg 31 h)).j]? = some (some i')
end Tb
end L2
set_option Elab.async false
set_option linter.all false
set_option maxRecDepth 100000
namespace L2
open PySem
namespace Tb
open PySem.SetTable
def rs (mask : Nat) (q : Nat × Nat) : Probe := { j := q.1, more := runEnd mask q.1 - q.1, i := q.1, perturb := q.2, dummy := none }
theorem it_rs (mask : Nat) (q : Nat × Nat) : it mask (runEnd mask q.1 - q.1 + 1) (rs mask q) = rs mask (leap mask q.1 q.2) := it_run mask _ (rs mask q) rfl
theorem it_step (mask : Nat) : ∀ (k : Nat) (p : Probe), k ≤ p.more → (it mask k p).j = p.j + k
  | 0, p, _ => rfl
  | k + 1, p, h => by
    have e : adv mask p = { p with j := p.j + 1, more := p.more - 1 } := by unfold adv; rw [if_pos (by omega)]
    show (it mask k (adv mask p)).j = _
    rw [e, it_step mask k _ (show k ≤ p.more - 1 by omega)]
    show p.j + 1 + k = p.j + (k + 1)
    omega
theorem getD_none {ow : Array (Option Nat)} {j : Nat} (h : (ow.getD j (some 0)).isNone = true) : ow[j]? = some none := by
  by_cases hj : j < ow.size
  · rw [Array.getElem?_eq_getElem hj]
    simp only [Array.getD, hj, dite_true] at h
    congr 1
    exact Option.isNone_iff_eq_none.mp h
  · simp [Array.getD, hj] at h
theorem getD_some {ow : Array (Option Nat)} {j : Nat} (hj : j < ow.size) (h : (ow.getD j (some 0)).isNone ≠ true) : ∃ i, ow[j]? = some (some i) := by
  rw [Array.getElem?_eq_getElem hj]
  simp only [Array.getD, hj, dite_true] at h
  cases e : ow[j] with
  | none =>
    exfalso
    apply h
    have : (ow.getInternal j hj) = none := e
    rw [this]
    rfl
  | some i => exact ⟨i, rfl⟩
theorem free_ok {ow : Array (Option Nat)} (hs : ow.size = 32) : ∀ (fuel : Nat) (q : Nat × Nat), q.1 ≤ 31 → (∃ k, k < fuel ∧ ow[(lp 31 k q).1]? = some none) →
    ∃ j n, layClean.free 31 ow fuel q.1 q.2 = some j ∧ ow[j]? = some none ∧ (it 31 n (rs 31 q)).j = j ∧ ∀ m, m < n → ∃ i, ow[(it 31 m (rs 31 q)).j]? = some (some i)
  | 0, q, _, ⟨k, hk, _⟩ => absurd hk (by omega)
  | fuel + 1, q, hq, ⟨k, hk, hf⟩ => by
    have hin := run_in (mask := 31) hq
    unfold layClean.free
    cases e : (List.range (runEnd 31 q.1 + 1 - q.1)).find? fun k => (ow.getD (q.1 + k) (some 0)).isNone with
    | some m =>
      obtain ⟨h1, h2, h3⟩ := List.find?_range_eq_some.mp e
      have hm := List.mem_range.mp h2
      have hrun : q.1 ≤ runEnd 31 q.1 := by unfold runEnd; split <;> omega
      refine ⟨q.1 + m, m, rfl, getD_none h1, it_step 31 m _ (show m ≤ runEnd 31 q.1 - q.1 by omega), fun a ha => ?_⟩
      rw [it_step 31 a _ (show a ≤ runEnd 31 q.1 - q.1 by omega)]
      have h4 : (!(ow.getD (q.1 + a) (some 0)).isNone) = true := h3 a ha
      exact getD_some (show q.1 + a < ow.size by omega) fun z => by
        have z' : (ow.getD (q.1 + a) (some 0)).isNone = true := z
        rw [z'] at h4
        cases h4
    | none =>
      have h3 := List.find?_range_eq_none.mp e
      have hrun : q.1 ≤ runEnd 31 q.1 := by unfold runEnd; split <;> omega
      have taken : ∀ a, a ≤ runEnd 31 q.1 - q.1 → ∃ i, ow[q.1 + a]? = some (some i) := fun a ha => getD_some (show q.1 + a < ow.size by omega) fun z => by
        have h4 : (!(ow.getD (q.1 + a) (some 0)).isNone) = true := h3 a (by omega)
        rw [z] at h4
        cases h4
      have hk0 : k ≠ 0 := by
        rintro rfl
        obtain ⟨i, ei⟩ := taken 0 (Nat.zero_le _)
        have hf' : ow[q.1 + 0]? = some none := hf
        rw [hf'] at ei
        cases ei
      obtain ⟨k', rfl⟩ : ∃ k', k = k' + 1 := ⟨k - 1, by omega⟩
      obtain ⟨j, n, g1, g2, g3, g4⟩ := free_ok hs fuel (leap 31 q.1 q.2) (lp_le 31 1 q hq) ⟨k', by omega, hf⟩
      refine ⟨j, (runEnd 31 q.1 - q.1 + 1) + n, g1, g2, ?_, fun m hm => ?_⟩
      · rw [it_add, it_rs]
        exact g3
      · by_cases hlt : m ≤ runEnd 31 q.1 - q.1
        · rw [it_step 31 m _ hlt]
          exact taken m hlt
        · obtain ⟨m', rfl⟩ : ∃ m', m = (runEnd 31 q.1 - q.1 + 1) + m' := ⟨m - (runEnd 31 q.1 - q.1 + 1), by omega⟩
          rw [it_add, it_rs]
          exact g4 m' (by omega)
theorem fm_len {α β : Type} {f : α → Option β} : ∀ {l : List α}, (∀ x ∈ l, (f x).isSome = true) → (l.filterMap f).length = l.length
  | [], _ => rfl
  | x :: l, h => by
    obtain ⟨y, hy⟩ := Option.isSome_iff_exists.mp (h x List.mem_cons_self)
    rw [List.filterMap_cons_some hy, List.length_cons, List.length_cons, fm_len fun z hz => h z (List.mem_cons_of_mem _ hz)]
theorem fm_congr {α β : Type} {f g : α → Option β} : ∀ {l : List α}, (∀ x ∈ l, f x = g x) → l.filterMap f = l.filterMap g
  | [], _ => rfl
  | x :: l, h => by
    have e := h x List.mem_cons_self
    have ih := fm_congr fun z hz => h z (List.mem_cons_of_mem _ hz)
    cases e' : g x with
    | none => rw [List.filterMap_cons_none (e.trans e'), List.filterMap_cons_none e', ih]
    | some y => rw [List.filterMap_cons_some (e.trans e'), List.filterMap_cons_some e', ih]
theorem fm_set {α : Type} {f g : Nat → Option α} {j : Nat} {k : α} (hf : f j = none) (hg : g j = some k) (hne : ∀ x, x ≠ j → g x = f x) : ∀ {l : List Nat}, l.Nodup → j ∈ l → (l.filterMap g).Perm (k :: l.filterMap f)
  | [], _, h => absurd h (by simp)
  | x :: l, hn, h => by
    obtain ⟨h1, h2⟩ := List.nodup_cons.mp hn
    by_cases hx : x = j
    · subst hx
      rw [List.filterMap_cons_some hg, List.filterMap_cons_none hf]
      have : l.filterMap g = l.filterMap f := fm_congr fun y hy => hne y fun z => h1 (z ▸ hy)
      rw [this]
    · have ih := fm_set hf hg hne h2 (by
        rcases List.mem_cons.mp h with z | z
        · exact absurd z.symm hx
        · exact z)
      cases e : f x with
      | none =>
        rw [List.filterMap_cons_none e, List.filterMap_cons_none ((hne x hx).trans e)]
        exact ih
      | some y =>
        rw [List.filterMap_cons_some e, List.filterMap_cons_some ((hne x hx).trans e)]
        exact (ih.cons y).trans (List.Perm.swap k y _)
theorem getD_eq {ow : Array (Option Nat)} {j : Nat} (h : ow[j]? = some none) : ow.getD j none = none := by
  obtain ⟨h1, h2⟩ := Array.getElem?_eq_some_iff.mp h
  simp [Array.getD, h1, h2]
theorem own_free {hs : Array Int} {k : Nat} {ow : Array (Option Nat)} (O : Own hs k ow) (hk : k < 32) : ∃ j, j ≤ 31 ∧ ow[j]? = some none := by
  refine Classical.byContradiction fun z => ?_
  have := fm_len (f := fun j => ow.getD j none) (l := List.range 32) fun x hx => by
    have hx' : x < ow.size := by rw [O.sz]; exact List.mem_range.mp hx
    cases e : ow[x] with
    | none => exact absurd ⟨x, by have := O.sz; omega, by rw [Array.getElem?_eq_getElem hx', e]⟩ z
    | some i => simp [Array.getD, hx', e]
  rw [O.ks.length_eq, List.length_range, List.length_range] at this
  omega
theorem Own.step {hs : Array Int} {k : Nat} {ow : Array (Option Nat)} (O : Own hs k ow) (hk : k < 32) {h : Int} (hh : hs[k]? = some h) :
    ∃ j, layClean.free 31 ow (turns 31) (bits h % (31 + 1)) (bits h) = some j ∧ Own hs (k + 1) (ow.setIfInBounds j (some k)) := by
  obtain ⟨j0, hj0, e0⟩ := own_free O hk
  have V := Val.beg 31 h
  obtain ⟨m, m1, m2, me⟩ := lp_all (mask := 31) (i := bits h % (31 + 1)) (pert := bits h) (.inr rfl) V.i V.pert hj0
  obtain ⟨j, n, g1, g2, g3, g4⟩ := free_ok O.sz (turns 31) (bits h % (31 + 1), bits h) V.i ⟨m, by unfold turns; omega, by rw [me]; exact e0⟩
  have hj : j < ow.size := (Array.getElem?_eq_some_iff.mp g2).1
  have keep : ∀ {a i : Nat}, ow[a]? = some (some i) → (ow.setIfInBounds j (some k))[a]? = some (some i) := fun {a i} e => by
    rw [Array.getElem?_setIfInBounds_ne (fun z => by subst z; rw [g2] at e; cases e)]
    exact e
  refine ⟨j, g1, by rw [Array.size_setIfInBounds]; exact O.sz, ?_, fun a i e => ?_⟩
  · have p1 := fm_set (f := fun a => ow.getD a none) (g := fun a => (ow.setIfInBounds j (some k)).getD a none) (j := j) (k := k) (getD_eq g2)
      (by simp [Array.getD, hj]) (fun x hx => by simp only [Array.getD_eq_getD_getElem?]; rw [Array.getElem?_setIfInBounds_ne (Ne.symm hx)]) (l := List.range 32) List.nodup_range (List.mem_range.mpr (by have := O.sz; omega))
    refine p1.trans (((O.ks).cons k).trans ?_)
    rw [List.range_succ]
    exact (List.perm_append_singleton k (List.range k)).symm
  · by_cases ha : a = j
    · subst ha
      rw [Array.getElem?_setIfInBounds_self_of_lt hj] at e
      have : k = i := by injection e with e; injection e
      subst this
      exact ⟨h, hh, n, g3, fun b hb => let ⟨i', ei⟩ := g4 b hb; ⟨i', keep ei⟩⟩
    · rw [Array.getElem?_setIfInBounds_ne (Ne.symm ha)] at e
      obtain ⟨h', e1, n', e2, e3⟩ := O.rch a i e
      exact ⟨h', e1, n', e2, fun b hb => let ⟨i', ei⟩ := e3 b hb; ⟨i', keep ei⟩⟩
end Tb
end L2
set_option Elab.async false
set_option linter.all false
set_option maxRecDepth 100000
namespace L2
open PySem
namespace Tb
open PySem.SetTable
theorem getD_of {ow : Array (Option Nat)} {j i : Nat} (h : ow.getD j none = some i) : ow[j]? = some (some i) := by
  by_cases hj : j < ow.size
  · rw [Array.getElem?_eq_getElem hj]
    simp [Array.getD, hj] at h
    rw [h]
  · simp [Array.getD, hj] at h
end Tb
end L2
set_option Elab.async false
set_option linter.all false
set_option maxRecDepth 100000
namespace L2
open PySem PySem.Spec PyProof.Rows
namespace Tb
open PySem.SetTable
section
variable {prog : Program} {w : World} {A : Around} {E : Value → Shared → Prop} {s : Shared}
abbrev tkh (prog : Program) (w : World) (x : List Key) : Int := tupleKeyHash (mixKind prog w) x
def EKey (prog : Program) (w : World) (h : Heap) (x : List Key) (e : Int × Value) : Prop := ∃ c, e.2 = .ref c ∧ IsTupleKey (mixKind prog w) h x c ∧ e.1 = tkh prog w x
theorem EKey.inj {h : Heap} {x y : List Key} {e : Int × Value} (a : EKey prog w h x e) (b : EKey prog w h y e) : x = y := by
  obtain ⟨c, e1, i1, _⟩ := a
  obtain ⟨d, e2, i2, _⟩ := b
  rw [e1] at e2
  injection e2 with e2
  subst e2
  exact i1.inj i2
end
end Tb
end L2
set_option Elab.async false
set_option linter.all false
set_option maxRecDepth 100000
namespace L2
open PySem PySem.Spec PyProof.Rows
namespace Tb
open PySem.SetTable
section
variable {prog : Program} {w : World} {A : Around} {E : Value → Shared → Prop} {s : Shared}
theorem Tab.fits {es : Array (Int × Value)} {t : SetTable} (T : Tab es t) (hl : es.size ≤ t.mask) : t.fits es.size = true := by
  unfold SetTable.fits SetTable.fill
  rw [T.dm, T.sz]
  simp
  exact hl
end
end Tb
end L2
set_option Elab.async false
set_option linter.all false
set_option maxRecDepth 100000
namespace L2
open PySem PySem.Spec PyProof.Rows
namespace Tb
open PySem.SetTable
section
variable {prog : Program} {w : World} {A : Around} {E : Value → Shared → Prop} {s : Shared}
def Room (es : Array (Int × Value)) (t : SetTable) : Prop := (t.mask = 7 ∧ es.size ≤ 4) ∨ (t.mask = 31 ∧ es.size ≤ 18)
theorem Room.mk {es : Array (Int × Value)} {t : SetTable} (r : Room es t) : Mk t.mask ∧ es.size ≤ t.mask := by
  rcases r with ⟨e, h⟩ | ⟨e, h⟩
  · exact ⟨.inl e, by omega⟩
  · exact ⟨.inr e, by omega⟩
def SetT (prog : Program) (w : World) (h : Heap) (a : Addr) (ks : List (List Key)) : Prop := ∃ o es ep t, h.get? a = some o ∧ o.ExactSet ∧ o.data = .set es ep t ∧ Tab es t ∧ Room es t ∧
  (∀ e ∈ es.toList, ∃ k, EKey prog w h k e) ∧ (∀ k, k ∈ ks ↔ ∃ e ∈ es.toList, EKey prog w h k e) ∧ es.size = ks.length
theorem key_to {h h' : Heap} {c : Addr} {x : List Key} (k : IsTupleKey (mixKind prog w) h x c) (sb : ∀ o, h.get? c = some o → o.cls = .type "tuple" → h'.get? c = some o) : IsTupleKey (mixKind prog w) h' x c := by
  obtain ⟨o', items, n, ho', hc, hd, hi⟩ := k
  exact ⟨o', items, n, sb _ ho' hc, hc, hd, hi⟩
def KeepTup (h h' : Heap) : Prop := ∀ c o, h.get? c = some o → o.cls = .type "tuple" → h'.get? c = some o
theorem EKey.keep {h h' : Heap} {x : List Key} {e : Int × Value} (k : EKey prog w h x e) (sb : KeepTup h h') : EKey prog w h' x e := by
  obtain ⟨c, e1, i1, e2⟩ := k
  exact ⟨c, e1, key_to i1 (sb c), e2⟩
theorem keys_keep {h h' : Heap} {es : Array (Int × Value)} {ks : List (List Key)} (sb : KeepTup h h') (h1 : ∀ e ∈ es.toList, ∃ k, EKey prog w h k e) (h2 : ∀ k, k ∈ ks ↔ ∃ e ∈ es.toList, EKey prog w h k e) :
    (∀ e ∈ es.toList, ∃ k, EKey prog w h' k e) ∧ ∀ k, k ∈ ks ↔ ∃ e ∈ es.toList, EKey prog w h' k e := by
  refine ⟨fun e he => let ⟨k, hk⟩ := h1 e he; ⟨k, hk.keep sb⟩, fun k => ⟨fun hk => ?_, fun ⟨e, he, hk⟩ => ?_⟩⟩
  · obtain ⟨e, he, hk⟩ := (h2 k).mp hk
    exact ⟨e, he, hk.keep sb⟩
  · obtain ⟨k', hk'⟩ := h1 e he
    rw [hk.inj (hk'.keep sb)]
    exact (h2 k').mpr ⟨e, he, hk'⟩
theorem SetT.keep {h h' : Heap} {a : Addr} {ks : List (List Key)} (S : SetT prog w h a ks) (sb : KeepTup h h') (ha : ∀ o, h.get? a = some o → h'.get? a = some o) : SetT prog w h' a ks := by
  obtain ⟨o, es, ep, t, ho, hex, hd, T, R, h1, h2, h3⟩ := S
  obtain ⟨g1, g2⟩ := keys_keep sb h1 h2
  exact ⟨o, es, ep, t, ha _ ho, hex, hd, T, R, g1, g2, h3⟩
end
end Tb
end L2
set_option Elab.async false
set_option linter.all false
set_option maxRecDepth 100000
namespace L2
open PySem PySem.Spec PyProof.Rows
section
variable {α : Type} [DecidableEq α]
def ddF : List α → List α → List α
  | acc, [] => acc
  | acc, x :: l => ddF (if x ∈ acc then acc else acc ++ [x]) l
def dd (l : List α) : List α := ddF [] l
end
section
variable {prog : Program} {w : World} {A : Around} {E : Value → Shared → Prop} {s : Shared}
theorem set_loop {R : Result → Shared → Prop} {I S : Addr} {fp wr : List Addr} {n : Nat} {P : Nat → Value → Prop} {St : Nat → Shared → Prop}
    (W : WalksS prog w A.in1 I fp wr (fun a b => b = a) n P St) (hSf : S ∉ fp) (J : Nat → Heap → Prop)
    (hfr : ∀ (i : Nat) (s s' : Shared), i ≤ n → St i s → J i s.heap → (∀ b o, b ∉ wr → s.heap.get? b = some o → s'.heap.get? b = some o) → J i s'.heap)
    (hadd : ∀ (i : Nat) (v : Value) (s : Shared) (Q : Bool → Shared → Prop) (E : Value → Shared → Prop), i < n → P i v → J i s.heap →
      (∀ (c : Bool) (h' : Heap) (tk : Nat), s.toks ≤ tk → Heap.SameBut S s.heap h' → J (i + 1) h' → Q c { s with heap := h', toks := tk }) → wpAny (model prog w) A.in1 (setAdd S v) Q E s) :
    ∀ (k i : Nat) (s : Shared), n - i = k → i ≤ n → St i s → J i s.heap →
      (∀ s', Moved (S :: wr) (fun a b => b = a) s s' → J n s'.heap → R (.ok (.ret .none)) s') →
      codeAny (model prog w) A (.builtin "set.update.loop" ⟨[.ref S, .ref I], []⟩) R s := by
  have inS : ∀ b ∈ wr, b ∈ S :: wr := fun b => List.mem_cons_of_mem S
  intro k
  induction k with
  | zero =>
    intro i s hk hi st j hR
    obtain rfl : i = n := by omega
    refine codeAny_builtin F.entry_set_update_loop ?_; rw [Around.under_plainId F.plain_set_update_loop _]
    show wpAny _ A.in1 (pyNext (.ref I) >>= _) _ _ _; refine wpAny_bind (W.done s _ _ st fun s' mv => ?_)
    show wpAny _ _ (ret Value.none) _ _ _; exact wpAny_pure (hR s' (mv.mono inS) (hfr i s s' hi st j mv.heap))
  | succ k ih =>
    intro i s hk hi st j hR
    have li : i < n := by omega
    refine codeAny_builtin F.entry_set_update_loop ?_; rw [Around.under_plainId F.plain_set_update_loop _]
    show wpAny _ A.in1 (pyNext (.ref I) >>= _) _ _ _; refine wpAny_bind (W.item i s _ _ li st fun v s1 hP st1 mv => ?_)
    show wpAny _ _ (holding [v] (setAdd S v) >>= _) _ _ _
    refine wpAny_bind (wpAny_holding (hadd i v s1 _ _ li hP (hfr i s s1 hi st j mv.heap) fun c h2 tk htk sb j2 => ?_))
    refine wpAny_pure ⟨plainId_quiet F.plain_set_update_loop _, ih (i + 1) _ (by omega) li (W.frame _ s1 _ _ st1 htk fun b hb o e => ?_) j2 fun s3 mv3 j3 => ?_⟩
    · rw [sb.2 b fun z : b = S => hSf (z ▸ hb)]; exact e
    · refine hR s3 (.trans W.gtrans ((mv.mono inS).then_heap htk fun b o hb e => ?_) mv3) j3
      rw [sb.2 b fun z : b = S => hb (z ▸ List.mem_cons_self)]; exact e
def newSet (led : Bool) : Obj := { cls := .type "set", dict := none, data := .set #[] 0 (.fresh 0 0 led) }
set_option maxHeartbeats 3200000 in
theorem call_set_of {l : Addr} {items : Array Value} {Q : Value → Shared → Prop} (hh : A.handled = none) (hl : s.heap.IsList l items) (J : Nat → Heap → Prop)
    (h0 : ∀ (h' : Heap) (led : Bool), h'.get? s.heap.objs.size = some (newSet led) → J 0 h')
    (hfr : ∀ (i : Nat) (h h' : Heap), J i h → (∀ b o, h.get? b = some o → o.cls ≠ .type "list_iterator" → h'.get? b = some o) → J i h')
    (hadd : ∀ (A' : Around) (i : Nat) (v : Value) (s' : Shared) (Q' : Bool → Shared → Prop) (E' : Value → Shared → Prop), A'.units = A.units + 3 → items[i]? = some v → (∀ b o, s.heap.get? b = some o → s'.heap.get? b = some o) → J i s'.heap →
      (∀ (c : Bool) (h' : Heap) (tk : Nat), s'.toks ≤ tk → Heap.SameBut s.heap.objs.size s'.heap h' → J (i + 1) h' → Q' c { s' with heap := h', toks := tk }) → wpAny (model prog w) A' (setAdd s.heap.objs.size v) Q' E' s')
    (h : ∀ (h' : Heap) (tk : Nat), J items.size h' → (∀ b o, s.heap.get? b = some o → h'.get? b = some o) → Q (.ref s.heap.objs.size) { s with heap := h', toks := tk }) :
    wpAny (model prog w) A (call (.type "set") [.ref l]) Q E s := by
  obtain ⟨c, tl, hmro⟩ := F.called_set.mro
  have hmade := F.called_set.made; have hsub := F.called_set.sub
  refine wpAny_call (codeAny_of_tree ?_); show wpAny _ _ (callAny (.type "set") _) _ _ _
  refine wpAny_pure ⟨Code.quiet_builtin _ (by decide +kernel), codeAny_builtin F.entry_type_call ?_⟩; rw [Around.under_plain (weight_type_call_type "set" [.ref l] []) rfl]
  have h1 := F.called_set.notType; have h2 := F.called_set.canCreate; have hct := F.typeCall_set_1 (.ref l)
  repeat (any_goals (first | assumption | wp_step))
  refine codeAny_mono (code_set_new_1 (.ref l) (E := E) (Q₁ := fun ob s₁ => ∃ led, ob = .ref s.heap.objs.size ∧ s₁ = { s with heap := s.heap.push (newSet led) }) fun led => ⟨led, rfl, rfl⟩) fun r s₁ hr => ?_
  cases r with
  | error e => exact hr
  | ok fl =>
    cases fl with
    | ret obj =>
      obtain ⟨led, rfl, rfl⟩ := hr
      have hS : (s.heap.push (newSet led)).get? s.heap.objs.size = some (newSet led) := Heap.get?_push_size _ rfl
      have hT : Shared.TypeIs { s with heap := s.heap.push (newSet led) } (.ref s.heap.objs.size) "set" := ⟨_, hS, rfl⟩
      have hli := F.called_set.init.lookup; have hbi := F.called_set.init.bind (.ref s.heap.objs.size)
      repeat (any_goals (first | assumption | wp_step))
      refine codeAny_mono (codeAny_call_builtin (R := wants (fun r s₂ => r = .none ∧ ∃ h' tk, s₂ = { s with heap := h', toks := tk } ∧ J items.size h' ∧ (∀ b o, s.heap.get? b = some o → h'.get? b = some o)) E) F.called_set.init.plain F.entry_set_init (check_set_init_1 hT ?_)) fun r₂ s₂ hr₂ => ?_
      · obtain ⟨ol, hol, hcl, nl, hdl⟩ := hl
        obtain ⟨ocls, odict, odata, oslots⟩ := ol
        simp only at hcl hdl
        subst hcl; subst hdl
        have hol' : (s.heap.push (newSet led)).get? l = some { cls := .type "list", dict := odict, data := .seq items nl, slots := oslots } := Heap.get?_push_of_some _ hol
        have hsls := F.sub_list_set; have hslf := F.sub_list_frozenset
        have hne : (Value.type "list" == Value.type "dict") = false := by decide
        have hl1 : (s.heap.push (newSet led)).IsList l items := ⟨_, hol', rfl, nl, rfl⟩
        unfold Builtin.«set.__init__» noKeywords Builtin.Frozenset.updateFrom
        generalize hPI : pyIter = PI
        wp_walk
        subst hPI
        refine wpAny_pyIter_list hl1 (wpAny_bind (wpAny_runValue ?_))
        have hlS : l < s.heap.objs.size := Heap.lt_size hol
        have hh3 : A.in1.in1.in1.handled = none := by simp [hh]
        have eI : (s.heap.push (newSet led)).objs.size = s.heap.objs.size + 1 := Heap.size_push _ _
        refine set_loop ((Walks.list hh3 _ l (by rw [eI]; exact Nat.ne_of_lt (Nat.lt_succ_of_lt hlS)) items).toS) (S := s.heap.objs.size) (by rw [eI]; exact fun z => (List.mem_cons.mp z).elim (fun z => absurd z (Nat.ne_of_lt (Nat.lt_succ_self _))) fun z => absurd (List.mem_singleton.mp z) (Nat.ne_of_gt hlS))
          (fun i h => (∀ b o, s.heap.get? b = some o → h.get? b = some o) ∧ J i h) ?_ ?_ (items.size - 0) 0 _ (by omega) (Nat.zero_le _) ⟨⟨_, Heap.get?_push_size _ rfl, rfl, rfl⟩, (hl1.push _)⟩ ⟨?_, ?_⟩ ?_
        · rintro i s3 s4 hi ⟨⟨oi, g1, g2, g3⟩, _⟩ ⟨kp, j⟩ mv
          refine ⟨fun b o e => mv b o (fun z => ?_) (kp b o e), hfr i _ _ j fun b o e hc => mv b o (fun z => ?_) e⟩
          · rw [List.mem_singleton.mp z, eI] at e
            exact absurd (Nat.lt_of_succ_lt (Heap.lt_size e)) (Nat.lt_irrefl _)
          · rw [List.mem_singleton.mp z] at e
            rw [e] at g1
            cases g1
            exact hc g2
        · rintro i v s3 Q3 E3 hi hv ⟨kp, j⟩ hq
          refine hadd _ i v s3 Q3 E3 rfl hv kp j fun c h4 tk htk sb j4 => hq c h4 tk htk sb ⟨fun b o e => ?_, j4⟩
          rw [sb.2 b fun z => by rw [z] at e; exact Nat.lt_irrefl _ (Heap.lt_size e)]
          exact kp b o e
        · exact fun b o e => Heap.get?_push_of_some _ (Heap.get?_push_of_some _ e)
        · exact h0 _ led (Heap.get?_push_of_some _ hS)
        · rintro ⟨h', g', d', tk', os'⟩ mv ⟨kp, j⟩
          obtain rfl : g' = s.gens := mv.gens
          obtain rfl : d' = s.drawn := mv.drawn
          obtain rfl : os' = s.os := mv.os
          show wpAny _ _ _ _ _ _
          refine wpAny_pure ?_
          show wpAny _ _ (ret Value.none) _ _ _; exact wpAny_pure ⟨rfl, h', tk', rfl, j, kp⟩
      · cases r₂ with
        | error e => exact hr₂
        | ok fl₂ =>
          cases fl₂ with
          | ret r =>
            obtain ⟨rfl, h', tk, rfl, j, kp⟩ := hr₂
            repeat (any_goals (first | assumption | wp_step))
            exact h _ _ j kp
          | next => exact False.elim hr₂
          | brk => exact False.elim hr₂
          | cont => exact False.elim hr₂
    | next => exact False.elim hr
    | brk => exact False.elim hr
    | cont => exact False.elim hr
end
end L2
set_option Elab.async false
set_option linter.all false
set_option maxRecDepth 100000
namespace L2
open PySem PySem.Spec PyProof.Rows
end L2
set_option Elab.async false
set_option linter.all false
set_option maxRecDepth 100000
namespace L2
open PySem PySem.Spec PyProof.Rows
def SetAt (h : Heap) (a : Addr) (n : Nat) : Prop := ∃ o es ep t, h.get? a = some o ∧ o.ExactSet ∧ o.data = .set es ep t ∧ t.fits es.size = true ∧ es.size = n ∧ n < 4096
def SetN (a : Addr) (n : Nat) : HO := .ext fun h => SetAt h a n
theorem vals_at {xs : List V} {us : List Value} {i : Nat} {u : Value} (r : Vals xs us) (e : us[i]? = some u) : ∃ x, xs[i]? = some x ∧ RelV x u := by
  have hi : i < us.length := (List.getElem?_eq_some_iff.mp e).1
  have hl := r.length
  obtain ⟨u', h1, h2⟩ := Vals.get r (List.getElem?_eq_getElem (show i < xs.length by omega))
  rw [e] at h1
  cases h1
  exact ⟨_, List.getElem?_eq_getElem (by omega), h2⟩
def inB {α : Type} [DecidableEq α] (k : α) (l : List α) : Bool := decide (k ∈ l)
def KeyT (K : PySem.W.Frag) (H : Hp) (x : V) (k : List Key) : Prop := ∃ c, x = .ref c ∧ SqT K H c (k.map kV)
def rSet (K : PySem.W.Frag) : List V → Hp → VK → Prop := fun xs H Q => ∃ p ys, xs = [.ref p] ∧ SqL K H p ys ∧
  ((∃ ks : List Key, ys = ks.map kV ∧ ks.length ≤ 1000 ∧ ∀ l, H l = none → Q (.ref l) (upd H l (SetN l (dd ks).length))) ∨
   ∃ ks : List (List Key), Paired (KeyT K H) ys ks ∧ ks.length ≤ 18 ∧ ∀ l, H l = none → Q (.ref l) (upd H l (SetN l (dd ks).length)))
section
variable {X : Cx}
def rLenS : List V → Hp → VK → Prop := fun xs H Q => ∃ p n, xs = [.ref p] ∧ H p = some (SetN p n) ∧ Q (.int n) H
def rIsiXT (K : PySem.W.Frag) : List V → Hp → VK → Prop := fun xs H Q => ∃ (x C : Addr) (b : Bool) (tp : Addr) (cs : List Addr), xs = [.ref x, .ref tp] ∧ H x = some (ExcO x C) ∧ ExcC K C ∧ SqT K H tp (cs.map V.ref) ∧ PySem.W.kitAny K (.ref C) (cs.map Value.ref) = some b ∧ Q (.bl b) H
def rSum (K : PySem.W.Frag) : List V → Hp → VK → Prop := fun xs H Q => ∃ (p : Addr) (ns : List Int), xs = [.ref p] ∧ SqL K H p (ns.map V.int) ∧ Q (.int (preSum (fun i => ns.getD i 0) ns.length)) H
theorem call_sum (hc : X.calm = true) : CallR X (.builtin "sum") (rSum X.K) := by
  intro pins s σ H xs us Q I r h
  obtain ⟨p, ns, rfl, hq, q⟩ := h
  obtain ⟨u, rfl, rx⟩ := vals1 r
  cases rx
  obtain ⟨its, r', pl, hz⟩ := I.list hq
  have hl := pl.isList
  have hlt : p < s.heap.objs.size := by obtain ⟨_, e, _⟩ := hl; exact Heap.lt_size e
  refine call_sum_walkAnyS (wpAny_pyIter_list hl ⟨s.heap.objs.size, [s.heap.objs.size, p], [s.heap.objs.size], _, its.toArray.size, _, _, fun i => ns.getD i 0, rfl, (Walks.list (A := X.A.in1) (I.ok.hd hc) _ p (Nat.ne_of_lt hlt) its.toArray).toS,
    ⟨⟨_, Heap.get?_push_size _ rfl, rfl, rfl⟩, hl.push _⟩, fun b hb => ?_, fun i v hP => ?_, fun s' t' mv => ?_⟩)
  · rw [Heap.size_push]
    rcases List.mem_cons.mp hb with rfl | hb
    · exact Nat.lt_succ_self _
    · rw [List.mem_singleton.mp hb]
      exact Nat.lt_succ_of_lt hlt
  · obtain ⟨x, hx, rx⟩ := vals_at r' (show its[i]? = some v by simpa using hP)
    rw [List.getElem?_map] at hx
    cases e : ns[i]? with
    | none => rw [e] at hx; cases hx
    | some z =>
      rw [e] at hx
      cases hx
      obtain ⟨t, rfl⟩ := rx
      exact ⟨t, by show _ = Value.int (ns.getD i 0) t; rw [List.getD_eq_getElem?_getD, e]; rfl⟩
  · have hlen : its.toArray.size = ns.length := by rw [List.size_toArray, ← r'.length, List.length_map]
    rw [hlen]
    obtain ⟨h', g', d', tk', os'⟩ := s'
    obtain rfl : g' = s.gens := mv.gens
    obtain rfl : d' = s.drawn := mv.drawn
    obtain rfl : os' = s.os := mv.os
    exact ⟨.int _, H, I.kept (kept_push fun b x hb e => mv.heap b x hb e), ⟨_, rfl⟩, q⟩
theorem call_sumK (K : PySem.W.Frag) (hc : X.calm = true := by rfl) (hK : X.K = K := by rfl) : CallR X (.builtin "sum") (rSum K) := by subst hK; exact call_sum hc
end
end L2
set_option Elab.async false
set_option linter.all false
set_option maxRecDepth 100000
namespace L2
open PySem PySem.Spec PyProof.Rows
abbrev PSV (X : Cx) (l : List Stmt) : Type := { t : TS // PSs X l t }
def stAt (l : List Stmt) (i : Nat) : Stmt := l.getD i (.Pass ⟨0, 0, 0, 0⟩)
def bodyOf : Stmt → List Stmt
  | .For _ _ b _ _ => b
  | .If _ b _ _ => b
  | .While _ b _ _ => b
  | _ => []
def elseOf : Stmt → List Stmt
  | .If _ _ b _ => b
  | _ => []
section
variable {K : PySem.W.Frag}
theorem ls1 {us : List Value} (h : us.length = 1) : ∃ a, us = [a] := by
  cases us with
  | nil => exact absurd h (by simp)
  | cons a t =>
    cases t with
    | nil => exact ⟨a, rfl⟩
    | cons b t => exact absurd h (by simp)
theorem lsS {us : List Value} {n : Nat} (h : us.length = n + 1) : ∃ a t, us = a :: t ∧ t.length = n := by
  cases us with
  | nil => exact absurd h (by simp)
  | cons a t => exact ⟨a, t, rfl, Nat.succ.inj h⟩
theorem Fun.binds1 {x qual : Str} {st : Stmt} {f : Addr} {fd : FuncData} {p0 : Str} (F : Fun K x qual st f fd) (h : ∀ (kV doc pm : Value) (an : Option Addr) (cdv ct v0 : Value), bindArgs (PySem.W.fnOf x qual (defArgs st) (defBody st) (defScope st) .none kV doc pm an cdv ct) ⟨[v0], []⟩ = pure [(p0, v0)]) : Binds K fd [p0] [] := by
  refine F.binds (ps := [p0]) fun kV doc pm an cdv ct us hl => ?_
  obtain ⟨v0, e0⟩ := ls1 hl
  subst e0
  exact h kV doc pm an cdv ct v0
theorem Fun.binds2 {x qual : Str} {st : Stmt} {f : Addr} {fd : FuncData} {p0 p1 : Str} (F : Fun K x qual st f fd) (h : ∀ (kV doc pm : Value) (an : Option Addr) (cdv ct v0 v1 : Value), bindArgs (PySem.W.fnOf x qual (defArgs st) (defBody st) (defScope st) .none kV doc pm an cdv ct) ⟨[v0, v1], []⟩ = pure [(p0, v0), (p1, v1)]) : Binds K fd [p0, p1] [] := by
  refine F.binds (ps := [p0, p1]) fun kV doc pm an cdv ct us hl => ?_
  obtain ⟨v0, us0, e0, h0⟩ := lsS hl
  obtain ⟨v1, e1⟩ := ls1 h0
  subst e1
  subst e0
  exact h kV doc pm an cdv ct v0 v1
theorem Fun.binds3 {x qual : Str} {st : Stmt} {f : Addr} {fd : FuncData} {p0 p1 p2 : Str} (F : Fun K x qual st f fd) (h : ∀ (kV doc pm : Value) (an : Option Addr) (cdv ct v0 v1 v2 : Value), bindArgs (PySem.W.fnOf x qual (defArgs st) (defBody st) (defScope st) .none kV doc pm an cdv ct) ⟨[v0, v1, v2], []⟩ = pure [(p0, v0), (p1, v1), (p2, v2)]) : Binds K fd [p0, p1, p2] [] := by
  refine F.binds (ps := [p0, p1, p2]) fun kV doc pm an cdv ct us hl => ?_
  obtain ⟨v0, us0, e0, h0⟩ := lsS hl
  obtain ⟨v1, us1, e1, h1⟩ := lsS h0
  obtain ⟨v2, e2⟩ := ls1 h1
  subst e2
  subst e1
  subst e0
  exact h kV doc pm an cdv ct v0 v1 v2
theorem Fun.binds5 {x qual : Str} {st : Stmt} {f : Addr} {fd : FuncData} {p0 p1 p2 p3 p4 : Str} (F : Fun K x qual st f fd) (h : ∀ (kV doc pm : Value) (an : Option Addr) (cdv ct v0 v1 v2 v3 v4 : Value), bindArgs (PySem.W.fnOf x qual (defArgs st) (defBody st) (defScope st) .none kV doc pm an cdv ct) ⟨[v0, v1, v2, v3, v4], []⟩ = pure [(p0, v0), (p1, v1), (p2, v2), (p3, v3), (p4, v4)]) : Binds K fd [p0, p1, p2, p3, p4] [] := by
  refine F.binds (ps := [p0, p1, p2, p3, p4]) fun kV doc pm an cdv ct us hl => ?_
  obtain ⟨v0, us0, e0, h0⟩ := lsS hl
  obtain ⟨v1, us1, e1, h1⟩ := lsS h0
  obtain ⟨v2, us2, e2, h2⟩ := lsS h1
  obtain ⟨v3, us3, e3, h3⟩ := lsS h2
  obtain ⟨v4, e4⟩ := ls1 h3
  subst e4
  subst e3
  subst e2
  subst e1
  subst e0
  exact h kV doc pm an cdv ct v0 v1 v2 v3 v4
end
def rJoin (K : PySem.W.Frag) : V → List V → Hp → VK → Prop := fun x vs H Q => ∃ (z : Str) (p : Addr) (ss : List Str), x = .str z ∧ vs = [.ref p] ∧ SqL K H p (ss.map V.str) ∧ JoinOk z ss = true ∧ Q (.str (Txt.join z ss)) H
theorem joinOk_of {sep : Str} {ss : List Str} (B : Nat) (hB : ∀ y ∈ ss, y.length ≤ B) (h : ss.length * B + ss.length * sep.length ≤ 16777216) : JoinOk sep ss = true := by
  unfold JoinOk
  rw [PySem.StrLaws.joinFits hB h]
  rfl
theorem vals_toks : ∀ {ss : List Str} {us : List Value}, Vals (ss.map V.str) us → ∃ l : List (Str × Tok), us = strValues l ∧ l.map (·.1) = ss
  | [], _, .nil => ⟨[], rfl, rfl⟩
  | x :: ss, _, .cons ⟨t, e⟩ r => by
    obtain ⟨l, e1, e2⟩ := vals_toks r
    subst e
    exact ⟨(x, t) :: l, by rw [e1]; rfl, by rw [← e2]; rfl⟩
section
variable {X : Cx}
theorem mt_join : MtR X "str.join" (rJoin X.K) := by
  intro pins s σ H x vs v us Q I rx rv h
  obtain ⟨z, p, ss, rfl, rfl, hq, hok, q⟩ := h
  obtain ⟨t, rfl⟩ := rx
  obtain ⟨u, rfl, ru⟩ := vals1 rv
  cases ru
  obtain ⟨its, r', pl, hz⟩ := I.list hq
  obtain ⟨l, e1, e2⟩ := vals_toks r'
  have hl := pl.isList
  rw [e1] at hl
  exact PySem.SC.join hl e2 hok fun t' k => ⟨.str _, H, I.tok k, ⟨t', rfl⟩, q⟩
theorem mt_joinK (K : PySem.W.Frag) (hK : X.K = K := by rfl) : MtR X "str.join" (rJoin K) := by subst hK; exact mt_join
theorem pe_bm0K (K : PySem.W.Frag) {T : String} {name : Str} {id : String} {r : V → List V → Hp → VK → Prop} {o : Expr} {to : TE} {apos cpos : Pos} (pa : PlainAttrs T) (slot : Slot T name id) (hty : typeOf (.builtin id) = pure (.type "method_descriptor")) (hm : MtR X id r) (ho : PE X o to)
    (hbase : attributeBase o name X.env (eval o X.env) = eval o X.env := by rfl) (hline : (apos.endLine == cpos.line) = true := by rfl) (hK : X.K = K := by rfl) : PE X (.Call (.Attribute o name apos) [] [] cpos) (tBM0 K T r to) := by
  subst hK
  exact pe_bm0 pa slot hty hm ho hbase hline
end
section
variable {X : Cx}
def rExtT (K : PySem.W.Frag) : V → List V → Hp → VK → Prop := fun x vs H Q => ∃ l b xs zs, x = .ref l ∧ vs = [.ref b] ∧ H l = some (.lst xs) ∧ SqT K H b zs ∧ xs.length + zs.length ≤ sizeLine ∧ Q .non (upd H l (.lst (xs ++ zs)))
theorem mt_extT (K : PySem.W.Frag) (hK : X.K = K := by rfl) : MtM X "list.extend" (rExtT K) := by
  subst hK
  intro pins s σ H x vs v us Q I rx rv h
  obtain ⟨l, b, xs, zs, rfl, rfl, hH, hB, hz, q⟩ := h
  cases rx
  obtain ⟨u, rfl, ru⟩ := rv.one
  cases ru
  obtain ⟨z, its, n, r, hl, e⟩ := I.lstM hH
  obtain ⟨its2, r2, ⟨o2, ho2, hc2, n2, hd2⟩, z2⟩ := I.tuple hB
  have hl2 := r2.length
  have hsz : its.toArray.size + its2.toArray.size ≤ sizeLine := by rw [List.size_toArray, List.size_toArray]; omega
  refine wpAny_call_entry F.slot_list_extend ⟨_, e, rfl⟩ F.entry_list_extend ?_ (F.args_list_extend_2 _ _)
  show wpAny _ _ (Builtin.List.listExtendWith (.ref l) (.ref b) .none) _ _ s
  unfold Builtin.List.listExtendWith
  refine wpAny_bind (wpAny_typeOf (T := "tuple") ⟨o2, ho2, hc2⟩ ?_)
  have ht : (Value.type "tuple" == Value.type "list" || Value.type "tuple" == Value.type "tuple") = true := rfl
  rw [if_pos (by rw [Bool.or_assoc, ht, Bool.or_true])]
  refine wpAny_bind (listItems_at ho2 hd2 ?_)
  refine wpAny_bind (listItems_at e rfl ?_)
  rw [if_neg (by rw [notLongL hsz, Bool.and_false]; exact Bool.false_ne_true)]
  refine wpAny_bind (listUpdate_at e rfl ?_ (by rw [List.size_toArray]; omega) (by rw [Array.size_append]; omega))
  refine wpAny_pure ⟨_, rfl, .non, _, I.lset (its' := its ++ its2) (t' := s.toks) hH e (by simp) (r.append r2) ?_, rfl, q⟩
  rw [List.length_append]
  omega
def rIsiT (K : PySem.W.Frag) : List V → Hp → VK → Prop := fun vs H Q => ∃ (a : Addr) (xs : List V) (n : String) (c : Bool), vs = [.ref a, .ty n] ∧ SqT K H a xs ∧ PySem.W.kitOne K (.type "tuple") (.type n) = some c ∧ Q (.bl c) H
theorem call_isiTK (K : PySem.W.Frag) (hK : X.K = K := by rfl) : CallR X (.builtin "isinstance") (rIsiT K) := by
  subst hK
  intro pins s σ H vs us Q I r h
  obtain ⟨a, xs, n, c, rfl, sq, e, q⟩ := h
  obtain ⟨u, w', rfl, ru, rw'⟩ := vals2 r
  cases rw'
  cases ru
  obtain ⟨its, _, ⟨o, h1, h2, _⟩, _⟩ := I.tuple sq
  exact PySem.W.kia_one PySem.W.kitx_tuple I.kIn ⟨o, h1, h2⟩ e (fun z => nomatch z) fun tk => ⟨.bl c, H, I.tok tk, rfl, q⟩
end
section
variable {H1 : Hp} {D : Addr} {g : TG} {tc : TT} {te : TE} {σc : St} {R : Hp → Prop}
theorem comp_rng {lo : Int} {n : Nat} (Pv : Nat → List V → Hp → Prop) (hD : H1 D = none) (h0 : Pv 0 [] (upd H1 D (.lst [])))
    (hs : ∀ i m ys H2, i < n → m = n - i → Same H1 H2 → H2 D = some (.lst ys) → ys.length ≤ i → Pv i ys H2 → TurnGoal g tc te σc H1 D n Pv i m (.int (lo + i)) H2)
    (hd : ∀ ys H2, Same H1 H2 → H2 D = some (.lst ys) → ys.length ≤ n → Pv n ys H2 → R H2) : CompGoal (Itr lo n) g tc te σc H1 R D := by
  refine ⟨WL H1 D n Pv, ⟨n, rfl, Nat.zero_le _, Same.new' hD, [], upd_same, Nat.le_refl _, h0⟩, ?_⟩
  rintro i m H2 ⟨hm, hi, s12, ys, hy, hl, p⟩
  by_cases hlt : i < n
  · refine .inr ⟨hlt, fun x H3 e => ?_⟩
    obtain ⟨e, ex⟩ := e
    subst e ex
    exact hs i m ys _ hlt hm s12 hy hl p
  · have e : i = n := by omega
    subst e
    exact .inl ⟨Nat.le_refl _, hd ys H2 s12 hy hl p⟩
end
end L2
set_option Elab.async false
set_option linter.all false
set_option maxRecDepth 100000
namespace L2
open PySem PySem.Spec PyProof.Rows
section
variable {X : Cx} {pins : List (Addr × Obj)} {σ : St} {H : Hp} {s : Shared} {h' : Heap}
theorem Inv.turnedL {t' : Nat} {its : List Addr} (I : Inv X pins σ H s) (k : ∀ b o, b ∉ its → s.heap.get? b = some o → h'.get? b = some o) (hf : ∀ b ∈ its, FpOk X pins H b) : Inv X pins σ H { s with heap := h', toks := t' } := by
  have nit : ∀ b u, H b = some u → b ∉ its := fun b u e z => by rw [(hf b z).1] at e; cases e
  refine I.step (g' := s.gens) (d' := s.drawn) (ch := its) (fun b hb => ?_) (fun b o _ _ hc e _ => k b o hc e) (fun b o _ _ hc e _ => ⟨o.slots, k b o hc e⟩) (fun _ _ _ _ n => n)
    (fun b o hc e => ⟨o, k b o hc e⟩) (fun _ _ e => e) (fun _ _ _ e => e) (fun b ps e => ⟨#[], by rw [e]; simp⟩) (fun m hm => ?_) (fun b u e => ?_) I.bare
  · obtain ⟨f0, f1, f2, f3, f4, f5⟩ := hf b hb
    exact ⟨f3, f1, f4, f5⟩
  · obtain ⟨o, es, ep, ho, r⟩ := hm
    exact ⟨o, es, ep, k _ o (fun z => (hf _ z).2.1 rfl) ho, r⟩
  · refine (I.hok b u e).stay (fun c v hc q => k c v ?_ q) (fun _ q => q) fun _ _ q => q
    rcases hc with z | z
    · rw [z]; exact nit b u e
    · exact nit c _ z
theorem Inv.turnedLaid {t' : Nat} {its : List Addr} {a : Addr} {o : HO} (I : Inv X pins σ H s) (k : ∀ b o, b ∉ its → s.heap.get? b = some o → h'.get? b = some o) (hf : ∀ b ∈ its, FpOk X pins H b) (hp : s.heap.objs.size ≤ a) (new : ObjOk X.prog X.w (upd H a o) h' a o) :
    Inv X pins σ (upd H a o) { s with heap := h', toks := t' } := by
  have hn : H a = none := I.hok.fresh hp
  have nea : ∀ {b : Addr} {o : Obj}, s.heap.get? b = some o → b ≠ a := fun e z => absurd (Nat.lt_of_lt_of_le (Heap.lt_size e) hp) (by rw [z]; exact Nat.lt_irrefl _)
  have nit : ∀ b u, H b = some u → b ∉ its := fun b u e z => by rw [(hf b z).1] at e; cases e
  refine I.step (g' := s.gens) (d' := s.drawn) (ch := its) (fun b hb => ?_) (fun b o _ _ hc e _ => k b o hc e) (fun b o _ _ hc e _ => ⟨o.slots, k b o hc e⟩) (fun b o _ e n => by rw [upd_ne (nea e)]; exact n)
    (fun b o hc e => ⟨o, k b o hc e⟩) (fun b xs e => by rw [upd_ne (ne_of_none e hn)]; exact e) (fun b o u e => by rw [upd_ne (ne_of_none e hn)]; exact e) (fun b ps e => ⟨#[], by rw [upd_ne (ne_of_none e hn), e]; simp⟩) (fun m hm => ?_) (fun b u e => ?_) I.bare
  · obtain ⟨f0, f1, f2, f3, f4, f5⟩ := hf b hb
    exact ⟨f3, f1, f4, f5⟩
  · obtain ⟨o, es, ep, ho, r⟩ := hm
    exact ⟨o, es, ep, k _ o (fun z => (hf _ z).2.1 rfl) ho, r⟩
  · by_cases hb : b = a
    · subst hb
      rw [upd_same] at e
      cases e
      exact new
    · rw [upd_ne hb] at e
      refine (I.hok b u e).stay (fun c v hc q => k c v ?_ q) (fun c q => by rw [upd_ne (ne_of_none q hn)]; exact q) fun c xs q => by rw [upd_ne (ne_of_none q hn)]; exact q
      rcases hc with z | z
      · rw [z]; exact nit b u e
      · exact nit c _ z
end
def Itd (hi : Int) (n : Nat) : It := ⟨fun i _ => i < n, fun i H x H' => H' = H ∧ x = .int (hi - i), fun i _ => n ≤ i⟩
section
variable {X : Cx} {tg : Expr}
def iRng3 (ta : TA) : TI := fun σ H R => ta σ H fun vs H1 => ∃ i j : Int, vs = [.int i, .int j, .int (-1)] ∧ (-(2 ^ 62) ≤ i ∧ i < 2 ^ 62 ∧ -(2 ^ 62) ≤ j ∧ j < 2 ^ 62) ∧ R (Itd i (i - j).toNat) H1
end
def Itv (K : PySem.W.Frag) (a : Addr) (n : Nat) : It :=
  ⟨fun i H => i < n ∧ ∃ xs x, SqL K H a xs ∧ xs[n - 1 - i]? = some x, fun i H x H' => H' = H ∧ ∀ xs, SqL K H a xs → xs[n - 1 - i]? = some x, fun i _ => i = n⟩
section
variable {X : Cx} {tg : Expr}
def iRev (K : PySem.W.Frag) (ta : TA) : TI := fun σ H R => ta σ H fun vs H1 => ∃ a xs, vs = [.ref a] ∧ SqL K H1 a xs ∧ R (Itv K a xs.length) H1
end
end L2
set_option Elab.async false
set_option linter.all false
set_option maxRecDepth 100000
namespace L2
open PySem PySem.Spec PyProof.Rows
def Ite (K : PySem.W.Frag) (a : Addr) : It :=
  ⟨fun i H => ∃ xs x, SqL K H a xs ∧ xs[i]? = some x, fun i H x H' => ∃ (p : Addr) (v : V), x = .ref p ∧ H p = none ∧ H' = upd H p (.tup [.int i, v]) ∧ ∀ xs, SqL K H a xs → xs[i]? = some v, fun i H => ∃ xs, SqL K H a xs ∧ xs.length ≤ i⟩
section
variable {X : Cx} {elts : List Expr} {k : Nat} {tpos : Pos}
def iEnum (K : PySem.W.Frag) (ta : TA) : TI := fun σ H R => ta σ H fun vs H1 => ∃ a xs, vs = [.ref a] ∧ SqL K H1 a xs ∧ R (Ite K a) H1
end
def Itz (K : PySem.W.Frag) (a b : Addr) : It :=
  ⟨fun i H => ∃ xs ys x y, SqL K H a xs ∧ SqL K H b ys ∧ xs[i]? = some x ∧ ys[i]? = some y, fun i H x H' => ∃ (p : Addr) (v u : V), x = .ref p ∧ H p = none ∧ H' = upd H p (.tup [v, u]) ∧ (∀ xs, SqL K H a xs → xs[i]? = some v) ∧ ∀ ys, SqL K H b ys → ys[i]? = some u,
    fun i H => ∃ xs ys, SqL K H a xs ∧ SqL K H b ys ∧ (xs.length ≤ i ∨ ys.length ≤ i)⟩
structure ZA (z TI TO i1 i2 : Addr) : Prop where
  a1 : TI ≠ z
  a2 : TO ≠ z
  a3 : i1 ≠ z
  a4 : i2 ≠ z
  a5 : TI ≠ TO
  a6 : TI ≠ i1
  a7 : TI ≠ i2
  a8 : TO ≠ i1
  a9 : TO ≠ i2
  a10 : i1 ≠ i2
theorem za_of (n : Nat) : ZA (n + 4) (n + 2) (n + 3) n (n + 1) := ⟨Nat.ne_of_lt (by omega), Nat.ne_of_lt (by omega), Nat.ne_of_lt (by omega), Nat.ne_of_lt (by omega), Nat.ne_of_lt (by omega), Nat.ne_of_gt (by omega), Nat.ne_of_gt (by omega), Nat.ne_of_gt (by omega), Nat.ne_of_gt (by omega), Nat.ne_of_lt (by omega)⟩
theorem ne_cls {h : Heap} {a b : Addr} {o u : Obj} {x y : String} (ha : h.get? a = some o) (hb : h.get? b = some u) (ca : o.cls = .type x) (cb : u.cls = .type y) (hxy : x ≠ y) : a ≠ b := fun e => by
  subst e
  rw [ha] at hb
  cases hb
  rw [ca] at cb
  injection cb with e
  exact hxy e
theorem ZA.apart {h : Heap} {z TI TO i1 i2 l1 l2 a b : Addr} {u v f0 : Value} {j j' : Nat} {xs ys : Array Value} (D : ZA z TI TO i1 i2) (hz : IsZip h z TI TO f0) (hTO : IsPair h TO u v) (h1 : h.IsListIter i1 a j) (h2 : h.IsListIter i2 b j') (hl1 : h.IsList l1 xs) (hl2 : h.IsList l2 ys) : ZipApart z TI TO i1 i2 l1 l2 := by
  obtain ⟨o1, g1, c1, _⟩ := h1
  obtain ⟨o2, g2, c2, _⟩ := h2
  obtain ⟨p1, k1, d1, _⟩ := hl1
  obtain ⟨p2, k2, d2, _⟩ := hl2
  exact ⟨D.a1, D.a2, D.a3, D.a4, D.a5, D.a6, D.a7, D.a8, D.a9, D.a10, ne_cls k1 hz d1 rfl (by decide), ne_cls k1 hTO d1 rfl (by decide), ne_cls k1 g1 d1 c1 (by decide), ne_cls k1 g2 d1 c2 (by decide), ne_cls k2 hz d2 rfl (by decide), ne_cls k2 hTO d2 rfl (by decide), ne_cls k2 g1 d2 c1 (by decide), ne_cls k2 g2 d2 c2 (by decide)⟩
theorem turn_zip {P : Program} {w : World} {K : PySem.W.Frag} {elts : List Expr} {k : Nat} {pos : Pos} (a b z TI TO i1 i2 : Addr) (D : ZA z TI TO i1 i2) : Turn P w K (.Tuple elts k pos) (Itz K a b) [z, TI, TO, i1, i2] z
    (fun i h => IsZip h z TI TO .none ∧ IsPair h TI (.ref i1) (.ref i2) ∧ (∃ u v, IsPair h TO u v) ∧ h.IsListIter i1 a i ∧ h.IsListIter i2 b i) where
  mem := by simp
  obj := fun i h st c hc => by
    obtain ⟨hz, hTI, ⟨u, v, hTO⟩, ⟨o1, g1, _, d1⟩, ⟨o2, g2, _, d2⟩⟩ := st
    simp only [List.mem_cons, List.not_mem_nil, or_false] at hc
    rcases hc with rfl | rfl | rfl | rfl | rfl
    · exact ⟨_, hz, fun v z => by have z' : Data.fields _ = Data.cell v := z; cases z'⟩
    · exact ⟨_, hTI, fun v z => by have z' : Data.seq _ _ = Data.cell v := z; cases z'⟩
    · exact ⟨_, hTO, fun v z => by have z' : Data.seq _ _ = Data.cell v := z; cases z'⟩
    · exact ⟨o1, g1, fun v z => by rw [d1] at z; cases z⟩
    · exact ⟨o2, g2, fun v z => by rw [d2] at z; cases z⟩
  keep := fun i h h' st k => by
    obtain ⟨hz, hTI, ⟨u, v, hTO⟩, h1, h2⟩ := st
    exact ⟨k z (by simp) _ hz, k TI (by simp) _ hTI, ⟨u, v, k TO (by simp) _ hTO⟩, h1.at fun o x => k i1 (by simp) o x, h2.at fun o x => k i2 (by simp) o x⟩
  item := by
    intro X hP hw hK hc i pins s σ H E I hf st hg
    subst hP hw hK
    obtain ⟨hz, hTI, ⟨u', v', hTO⟩, h1, h2⟩ := st
    obtain ⟨xs, ys, x, y, hq, hr, hx, hy⟩ := hg
    obtain ⟨its, rv, pl, hz1⟩ := I.list hq
    obtain ⟨jts, rw', pm, hz2⟩ := I.list hr
    obtain ⟨u, hu, ru⟩ := rv.get hx
    obtain ⟨v, hv, rvv⟩ := rw'.get hy
    have A := D.apart hz hTO h1 h2 pl.isList pm.isList
    have lt : ∀ {c o}, s.heap.get? c = some o → c ≠ s.heap.objs.size := fun e => Nat.ne_of_lt (Heap.lt_size e)
    refine wpAny_pyNext_zip_item A hz hTI hTO h1 h2 pl.isList pm.isList (x := u) (y := v) (by simpa using hu) (by simpa using hv) fun h' b1 b2 b3 b4 b5 b6 hk => ?_
    refine ⟨_, rfl, wpAny_letOwnedTupleGo_zip b1 fun h3 he3 hs3 => ?_⟩
    replace hs3 : Heap.SameBut z h' h3 := hs3
    have hn : H s.heap.objs.size = none := I.hok.fresh (Nat.le_refl _)
    have up : ∀ {c o}, c ≠ z → h'.get? c = some o → h3.get? c = some o := fun hc e => (hs3.2 _ hc).trans e
    refine ⟨.ref s.heap.objs.size, upd H s.heap.objs.size (.tup [x, y]), ?_, rfl, ⟨_, x, y, rfl, hn, rfl, fun zs hy => by rw [I.list_inj hy hq]; exact hx, fun zs hz => by rw [I.list_inj hz hr]; exact hy⟩, ⟨he3, up D.a1 (hk _ _ D.a1 D.a5 D.a6 D.a7 hTI), ⟨_, _, up D.a2 b2⟩, b3.at fun o e => up D.a3 e, b4.at fun o e => up D.a4 e⟩, fun c hc => ?_⟩
    · refine I.turnedLaid (its := [z, TI, TO, i1, i2]) (fun c o hc e => up (fun z => hc (by simp [z])) (hk c o (fun z => hc (by simp [z])) (fun z => hc (by simp [z])) (fun z => hc (by simp [z])) (fun z => hc (by simp [z])) e)) hf (Nat.le_refl _) ?_
      exact ⟨by show 2 ≤ sizeLine; decide, [u, v], .cons ru (.cons rvv .nil), _, up (lt hz).symm b5, rfl, _, rfl⟩
    · have nb : c ≠ s.heap.objs.size := by
        simp only [List.mem_cons, List.not_mem_nil, or_false] at hc
        rcases hc with rfl | rfl | rfl | rfl | rfl
        · exact lt hz
        · exact lt hTI
        · exact lt hTO
        · obtain ⟨_, e, _⟩ := h1; exact lt e
        · obtain ⟨_, e, _⟩ := h2; exact lt e
      rw [upd_ne nb]
      exact (hf c hc).1
  done := by
    intro X hP hw hK hc i pins s σ H E I hf st hg
    subst hP hw hK
    obtain ⟨hz, hTI, ⟨u', v', hTO⟩, h1, h2⟩ := st
    obtain ⟨xs, ys, hq, hr, hend⟩ := hg
    obtain ⟨its, rv, pl, hz1⟩ := I.list hq
    obtain ⟨jts, rw', pm, hz2⟩ := I.list hr
    have l1 := rv.length
    have l2 := rw'.length
    have A := D.apart hz hTO h1 h2 pl.isList pm.isList
    refine wpAny_pyNext_zip_end (I.ok.hd hc) A hz hTI hTO h1 h2 pl.isList pm.isList ?_ fun h' hk => ⟨rfl, I.turnedL (t' := s.toks) (its := [z, TI, TO, i1, i2]) (fun c o hc e => hk c o (fun z => hc (by simp [z])) (fun z => hc (by simp [z])) (fun z => hc (by simp [z])) (fun z => hc (by simp [z])) e) hf⟩
    rcases hend with h | h
    · exact .inl (by simp; omega)
    · exact .inr (by simp; omega)
  self := fun _ _ _ _ _ st h => wpAny_pyIter_zip st.1 h
section
variable {X : Cx} {elts : List Expr} {k : Nat} {tpos : Pos}
def iZip (K : PySem.W.Frag) (ta : TA) : TI := fun σ H R => ta σ H fun vs H1 => ∃ a b xs ys, vs = [.ref a, .ref b] ∧ SqL K H1 a xs ∧ SqL K H1 b ys ∧ R (Itz K a b) H1
end
section
variable {K : PySem.W.Frag} {H1 : Hp} {D : Addr} {g : TG} {tc : TT} {te : TE} {σc : St} {R : Hp → Prop}
theorem comp_zip {a b : Addr} {xs zs : List V} {n : Nat} (Pv : Nat → List V → Hp → Prop) (hq : SqL K H1 a xs) (hr : SqL K H1 b zs) (hn : n = min xs.length zs.length) (hD : H1 D = none) (h0 : Pv 0 [] (upd H1 D (.lst [])))
    (hs : ∀ i m x z p ys H2, xs[i]? = some x → zs[i]? = some z → i < n → m = n - i → Same H1 H2 → H2 D = some (.lst ys) → ys.length ≤ i → Pv i ys H2 → H2 p = none → TurnGoal g tc te σc H1 D n Pv i m (.ref p) (upd H2 p (.tup [x, z])))
    (hd : ∀ ys H2, Same H1 H2 → H2 D = some (.lst ys) → ys.length ≤ n → Pv n ys H2 → R H2) : CompGoal (Itz K a b) g tc te σc H1 R D := by
  refine ⟨WL H1 D n Pv, ⟨n, rfl, Nat.zero_le _, Same.new' hD, [], upd_same, Nat.le_refl _, h0⟩, ?_⟩
  rintro i m H2 ⟨hm, hi, s12, ys, hy, hl, p⟩
  have q2 : SqL K H2 a xs := s12.seq hq
  have r2 : SqL K H2 b zs := s12.seq hr
  by_cases hlt : i < n
  · have l1 : i < xs.length := by omega
    have l2 : i < zs.length := by omega
    refine .inr ⟨⟨xs, zs, xs[i], zs[i], q2, r2, List.getElem?_eq_getElem l1, List.getElem?_eq_getElem l2⟩, fun x H3 e => ?_⟩
    obtain ⟨z, v, u, rfl, hz, rfl, y1, y2⟩ := e
    exact hs i m v u z ys _ (y1 xs q2) (y2 zs r2) hlt hm s12 hy hl p hz
  · have e : i = n := by omega
    subst e
    exact .inl ⟨⟨xs, zs, q2, r2, by omega⟩, hd ys H2 s12 hy hl p⟩
end
section
variable {X : Cx}
def tGT (K : PySem.W.Frag) (xs : List V) : TE := fun _ H Q => ∀ a : Addr, SqT K H a xs → Q (.ref a) H
theorem vals_of_get : ∀ (n : Nat) (f : Nat → Int) (its : List Value), its.length = n → (∀ i v, its[i]? = some v → ∃ t, v = Value.int (f i) t) → Vals ((List.range n).map fun i => V.int (f i)) its := by
  intro n
  induction n with
  | zero =>
    intro f its hl _
    cases its with
    | nil => exact .nil
    | cons a b => cases hl
  | succ n ih =>
    intro f its hl h
    cases its with
    | nil => cases hl
    | cons a b =>
      rw [List.range_succ_eq_map, List.map_cons, List.map_map]
      obtain ⟨t, e⟩ := h 0 a rfl
      subst e
      exact .cons ⟨t, rfl⟩ (ih (fun i => f (i + 1)) b (Nat.succ.inj hl) fun i v hv => h (i + 1) v hv)
end
end L2
set_option Elab.async false
set_option linter.all false
set_option maxRecDepth 100000
namespace L2
open PySem PySem.Spec PyProof.Rows
section
variable {prog : Program} {w : World} {A : Around} {E : Value → Shared → Prop} {s : Shared}
theorem drawT {jt c : Addr} {i : Nat} {its : Array Value} {u : Value} {Q : Value → Shared → Prop} (hi : s.heap.IsTupleIter jt c i) (hl : s.heap.IsTuple c its) (hu : its[i]? = some u)
    (q : ∀ h', h'.IsTupleIter jt c (i + 1) → Heap.SameBut jt s.heap h' → Q u { s with heap := h' }) : wpAny (model prog w) A (Builtin.SmallTypes.nextOf (.ref jt)) Q E s := by
  obtain ⟨oi, gi, ci, di⟩ := id hi
  obtain ⟨ol, gl, _, n, dl⟩ := hl
  unfold Builtin.SmallTypes.nextOf
  refine wpAny_bind (wpAny_callSpecial?_slot (name := Str.ofString "__next__") hi.typeIs F.slot_tuple_iterator_next (wpAny_call_entry F.slot_tuple_iterator_next hi.typeIs F.entry_tuple_iterator_next ?_ (F.args_tuple_iterator_next_1 _)))
  refine (show wpAny _ _ (field (.ref jt) 0 >>= _) _ _ s from wpAny_bind (wpAny_field gi di (x := .ref c) rfl ?_))
  have no : ¬ (Value.ref c == Value.none) = true := Bool.false_ne_true
  refine (show wpAny _ _ (if (Value.ref c == Value.none) = true then _ else _) _ _ s by
    rw [if_neg no]
    refine (show wpAny _ _ (field (.ref jt) 1 >>= _) _ _ s from wpAny_bind (wpAny_field gi di (x := .int i 0) rfl ?_))
    refine (show wpAny _ _ (seqItems? (.ref c) >>= _) _ _ s from wpAny_bind (wpAny_seqItems gl dl ?_))
    simp only [Int.toNat_natCast, hu]
    refine wpAny_bind (wpAny_setField gi di (by simp) (wpAny_pure ⟨u, rfl, wpAny_pure (q _ ⟨_, Heap.get?_update_self _ gi (Obj.isFreed_of_fields (Obj.data_mapFields di _)), (Obj.cls_mapFields ..).trans ci, ?_⟩ (Heap.SameBut.update ..))⟩))
    rw [Obj.data_mapFields di]
    simp [rawInt])
theorem doneT {jt c : Addr} {i : Nat} {its : Array Value} {Q : Value → Shared → Prop} (hh : A.handled = none) (hi : s.heap.IsTupleIter jt c i) (hl : s.heap.IsTuple c its) (hu : its[i]? = none)
    (q : ∀ h' e, Heap.ExtBut jt s.heap h' → (∃ o, h'.get? e = some o ∧ o.cls = .type "StopIteration") → E (.ref e) { s with heap := h' }) : wpAny (model prog w) A (Builtin.SmallTypes.nextOf (.ref jt)) Q E s := by
  obtain ⟨oi, gi, ci, di⟩ := id hi
  obtain ⟨ol, gl, _, n, dl⟩ := hl
  unfold Builtin.SmallTypes.nextOf
  refine wpAny_bind (wpAny_callSpecial?_slot (name := Str.ofString "__next__") hi.typeIs F.slot_tuple_iterator_next (wpAny_call_entry F.slot_tuple_iterator_next hi.typeIs F.entry_tuple_iterator_next ?_ (F.args_tuple_iterator_next_1 _)))
  refine (show wpAny _ _ (field (.ref jt) 0 >>= _) _ _ s from wpAny_bind (wpAny_field gi di (x := .ref c) rfl ?_))
  have no : ¬ (Value.ref c == Value.none) = true := Bool.false_ne_true
  refine (show wpAny _ _ (if (Value.ref c == Value.none) = true then _ else _) _ _ s by
    rw [if_neg no]
    refine (show wpAny _ _ (field (.ref jt) 1 >>= _) _ _ s from wpAny_bind (wpAny_field gi di (x := .int i 0) rfl ?_))
    refine (show wpAny _ _ (seqItems? (.ref c) >>= _) _ _ s from wpAny_bind (wpAny_seqItems gl dl ?_))
    simp only [Int.toNat_natCast, hu]
    refine wpAny_bind (wpAny_rule (wpAny_bind (wpAny_setField gi di (by simp) ?_)))
    refine (show wpAny _ _ (newExc (.type "StopIteration") [] >>= _) _ _ _ from wpAny_bind ?_)
    simp only [newExc, newTuple]
    refine wpAny_bind (wpAny_newObj_type (wpAny_bind (m := firstArgMember _ _) (wpAny_of_eq (a := Value.none) (by first | rfl | (simp only [firstArgMember]; rfl)) (wpAny_newObj_type ?_ (by size_fits)))) (by size_fits))
    simp only [raiseNew]
    refine wpAny_bind (wpAny_handled ?_)
    first
      | rw [show A.in1.handled = none from hh]
      | rw [hh]
    exact wpAny_bind (wpAny_pure (wpAny_throw (q _ _ (((Heap.SameBut.update ..).extBut.push _).push _) ⟨_, Heap.get?_push_size _ rfl, rfl⟩))))
theorem zipT_item {z TI TO j1 j2 c1 c2 : Addr} {k : Nat} {xs ys : Array Value} {u v a b : Value} {Q : Value → Shared → Prop} (D : ZipApart z TI TO j1 j2 c1 c2) (gz : IsZip s.heap z TI TO .none) (gI : IsPair s.heap TI (.ref j1) (.ref j2)) (gO : IsPair s.heap TO a b)
    (w1 : s.heap.IsTupleIter j1 c1 k) (w2 : s.heap.IsTupleIter j2 c2 k) (t1 : s.heap.IsTuple c1 xs) (t2 : s.heap.IsTuple c2 ys) (hu : xs[k]? = some u) (hv : ys[k]? = some v)
    (q : ∀ h', IsZip h' z TI TO (rawInt s.heap.objs.size) → IsPair h' TO u v → h'.IsTupleIter j1 c1 (k + 1) → h'.IsTupleIter j2 c2 (k + 1) → IsPair h' s.heap.objs.size u v →
      (∀ d o, d ≠ z → d ≠ TO → d ≠ j1 → d ≠ j2 → s.heap.get? d = some o → h'.get? d = some o) → Q (.ref s.heap.objs.size) { s with heap := h' }) :
    wpAny (model prog w) A (Builtin.«zip.__next__» ⟨[.ref z], []⟩) (fun fin s' => ∃ r, fin = .done (.ret r) ∧ Q r s') E s := by
  refine (show wpAny _ _ (field (.ref z) 2 >>= _) _ _ s from wpAny_bind (wpAny_field gz rfl (x := .bool false) rfl ?_))
  refine (show wpAny _ _ (field (.ref z) 3 >>= _) _ _ s from wpAny_bind (wpAny_field gz rfl (x := .ref TI) rfl (wpAny_bind (wpAny_seqItems gI rfl ?_))))
  refine (show wpAny _ _ (Builtin.SmallTypes.ownedTupleIsFree (.ref z) >>= _) _ _ s from wpAny_bind ?_)
  unfold Builtin.SmallTypes.ownedTupleIsFree
  refine wpAny_bind (wpAny_field gz rfl (x := .none) rfl (wpAny_pure ?_))
  simp only [if_true]
  refine wpAny_bind (wpAny_rule (wpAny_bind (wpAny_field gz rfl (x := .ref TO) rfl (wpAny_bind (wpAny_setField_rec gz (by simp) fun ha za sa => ?_)))))
  replace za : IsZip ha z TI TO .ellipsis := za
  refine wpAny_bind ?_
  simp only [List.zipIdx_cons, List.zipIdx_nil, List.forIn_cons, List.forIn_nil]
  refine wpAny_bind (wpAny_bind (wpAny_onRaise (show wpAny _ _ (Builtin.SmallTypes.nextOf (.ref j1) >>= _) _ _ _ from wpAny_bind (drawT (w1.at fun o e => sa.extBut _ _ D.i1z e) (t1.at fun o e => sa.extBut _ _ D.l1z e) hu fun hb wb sb => wpAny_pure ?_))))
  have Ob : IsPair hb TO a b := sb.extBut _ _ D.TOi1 (sa.extBut _ _ D.TOz gO)
  refine wpAny_bind (wpAny_seqItems Ob rfl (wpAny_bind (wpAny_updateSeq_pair Ob fun hc Oc sc => wpAny_bind (wpAny_letGo (wpAny_pure ?_)))))
  replace Oc : IsPair hc TO u b := Oc
  have kc : ∀ d o, d ≠ z → d ≠ TO → d ≠ j1 → s.heap.get? d = some o → hc.get? d = some o := fun d o d1 d2 d3 e => sc.extBut _ _ d2 (sb.extBut _ _ d3 (sa.extBut _ _ d1 e))
  refine wpAny_bind (wpAny_bind (wpAny_onRaise (show wpAny _ _ (Builtin.SmallTypes.nextOf (.ref j2) >>= _) _ _ _ from wpAny_bind (drawT (w2.at fun o e => kc _ o D.i2z D.TOi2.symm D.i12.symm e) (t2.at fun o e => kc _ o D.l2z D.l2TO D.l2i1 e) hv fun hd wd sd => wpAny_pure ?_))))
  have Od : IsPair hd TO u b := sd.extBut _ _ D.TOi2 Oc
  refine wpAny_bind (wpAny_seqItems Od rfl (wpAny_bind (wpAny_updateSeq_pair Od fun he Oe se => wpAny_bind (wpAny_letGo (wpAny_pure (wpAny_pure ?_))))))
  replace Oe : IsPair he TO u v := Oe
  refine wpAny_bind (wpAny_seqItems Oe rfl (wpAny_bind (wpAny_newTuple ?_)))
  have sz : he.objs.size = s.heap.objs.size := by rw [se.1, sd.1, sc.1, sb.1, sa.1]
  have ze : IsZip he z TI TO .ellipsis := se.extBut _ _ D.TOz.symm (sd.extBut _ _ D.i2z.symm (sc.extBut _ _ D.TOz.symm (sb.extBut _ _ D.i1z.symm za)))
  have ke : ∀ d o, d ≠ z → d ≠ TO → d ≠ j1 → d ≠ j2 → s.heap.get? d = some o → he.get? d = some o := fun d o d1 d2 d3 d4 e => se.extBut _ _ d2 (sd.extBut _ _ d4 (kc d o d1 d2 d3 e))
  have we1 : he.IsTupleIter j1 c1 (k + 1) := wb.at fun o e => se.extBut _ _ D.TOi1.symm (sd.extBut _ _ D.i12 (sc.extBut _ _ D.TOi1.symm e))
  have we2 : he.IsTupleIter j2 c2 (k + 1) := wd.at fun o e => se.extBut _ _ D.TOi2.symm e
  have ltz : he.objs.size ≠ z := Nat.ne_of_gt (Heap.lt_size ze)
  refine (show wpAny _ _ (Builtin.SmallTypes.ownedTupleHandOut (.ref z) (.ref he.objs.size) >>= _) _ _ _ from wpAny_bind ?_)
  unfold Builtin.SmallTypes.ownedTupleHandOut
  refine wpAny_bind (wpAny_setField_rec (Heap.get?_push_of_some _ ze) (by simp) fun hf zf sf => wpAny_setField_rec (show IsZip hf z TI TO (rawInt he.objs.size) from zf) (by simp) fun hg zg sg => ?_)
  replace zg : IsZip hg z TI TO (rawInt he.objs.size) := zg
  have up : ∀ d o, d ≠ z → he.get? d = some o → hg.get? d = some o := fun d o d1 e => sg.extBut _ _ d1 (sf.extBut _ _ d1 (Heap.get?_push_of_some _ e))
  have new : IsPair hg he.objs.size u v := sg.extBut _ _ ltz (sf.extBut _ _ ltz (Heap.get?_push_size _ rfl))
  rw [sz] at zg new
  refine wpAny_pure ⟨_, rfl, (show Q (.ref he.objs.size) _ by
    rw [sz]
    exact q hg zg (up _ _ D.TOz Oe) (we1.at fun o e => up _ o D.i1z e) (we2.at fun o e => up _ o D.i2z e) new fun d o d1 d2 d3 d4 e => up d o d1 (ke d o d1 d2 d3 d4 e))⟩
theorem zipT_done {z TI TO j1 j2 c1 c2 : Addr} {k : Nat} {xs ys : Array Value} {a b : Value} {Q : Fin → Shared → Prop} (hh : A.handled = none) (D : ZipApart z TI TO j1 j2 c1 c2) (gz : IsZip s.heap z TI TO .none) (gI : IsPair s.heap TI (.ref j1) (.ref j2)) (gO : IsPair s.heap TO a b)
    (w1 : s.heap.IsTupleIter j1 c1 k) (t1 : s.heap.IsTuple c1 xs) (hu : xs[k]? = none)
    (q : ∀ h' e, (∀ d o, d ≠ z → d ≠ TO → d ≠ j1 → d ≠ j2 → s.heap.get? d = some o → h'.get? d = some o) → (∃ o, h'.get? e = some o ∧ o.cls = .type "StopIteration") → E (.ref e) { s with heap := h' }) :
    wpAny (model prog w) A (Builtin.«zip.__next__» ⟨[.ref z], []⟩) Q E s := by
  refine (show wpAny _ _ (field (.ref z) 2 >>= _) _ _ s from wpAny_bind (wpAny_field gz rfl (x := .bool false) rfl ?_))
  refine (show wpAny _ _ (field (.ref z) 3 >>= _) _ _ s from wpAny_bind (wpAny_field gz rfl (x := .ref TI) rfl (wpAny_bind (wpAny_seqItems gI rfl ?_))))
  refine (show wpAny _ _ (Builtin.SmallTypes.ownedTupleIsFree (.ref z) >>= _) _ _ s from wpAny_bind ?_)
  unfold Builtin.SmallTypes.ownedTupleIsFree
  refine wpAny_bind (wpAny_field gz rfl (x := .none) rfl (wpAny_pure ?_))
  simp only [if_true]
  refine wpAny_bind (wpAny_rule (wpAny_bind (wpAny_field gz rfl (x := .ref TO) rfl (wpAny_bind (wpAny_setField_rec gz (by simp) fun ha za sa => ?_)))))
  replace za : IsZip ha z TI TO .ellipsis := za
  refine wpAny_bind ?_
  simp only [List.zipIdx_cons, List.zipIdx_nil, List.forIn_cons, List.forIn_nil]
  refine wpAny_bind (wpAny_bind (wpAny_onRaise (show wpAny _ _ (Builtin.SmallTypes.nextOf (.ref j1) >>= _) _ _ _ from wpAny_bind (doneT hh (w1.at fun o e => sa.extBut _ _ D.i1z e) (t1.at fun o e => sa.extBut _ _ D.l1z e) hu fun hb e sb he => ?_))))
  obtain ⟨oe, ge, ce⟩ := he
  have zb : IsZip hb z TI TO .ellipsis := sb _ _ D.i1z.symm za
  have ez : e ≠ z := fun x => by
    subst x
    rw [zb] at ge
    cases ge
    simp at ce
  exact wpAny_setField_rec zb (by simp) fun hc _ sc => q hc e (fun d o d1 _ d3 _ x => sc.extBut _ _ d1 (sb _ _ d3 (sa.extBut _ _ d1 x))) ⟨oe, sc.extBut _ _ ez ge, ce⟩
theorem zipT_next {z TI TO j1 j2 c1 c2 : Addr} {k : Nat} {xs ys : Array Value} {u v a b : Value} {Q : Option Value → Shared → Prop} (D : ZipApart z TI TO j1 j2 c1 c2) (gz : IsZip s.heap z TI TO .none) (gI : IsPair s.heap TI (.ref j1) (.ref j2)) (gO : IsPair s.heap TO a b)
    (w1 : s.heap.IsTupleIter j1 c1 k) (w2 : s.heap.IsTupleIter j2 c2 k) (t1 : s.heap.IsTuple c1 xs) (t2 : s.heap.IsTuple c2 ys) (hu : xs[k]? = some u) (hv : ys[k]? = some v)
    (q : ∀ h', IsZip h' z TI TO (rawInt s.heap.objs.size) → IsPair h' TO u v → h'.IsTupleIter j1 c1 (k + 1) → h'.IsTupleIter j2 c2 (k + 1) → IsPair h' s.heap.objs.size u v →
      (∀ d o, d ≠ z → d ≠ TO → d ≠ j1 → d ≠ j2 → s.heap.get? d = some o → h'.get? d = some o) → Q (some (.ref s.heap.objs.size)) { s with heap := h' }) :
    wpAny (model prog w) A (pyNext (.ref z)) Q E s := by
  have hT : s.TypeIs (.ref z) "zip" := ⟨_, gz, rfl⟩
  unfold pyNext
  exact wpAny_bind (wpAny_attempt (wpAny_callSpecial?_slot (name := Str.ofString "__next__") hT F.slot_zip_next (wpAny_call_entry F.slot_zip_next hT F.entry_zip_next (zipT_item D gz gI gO w1 w2 t1 t2 hu hv fun h' b1 b2 b3 b4 b5 b6 => wpAny_pure (q h' b1 b2 b3 b4 b5 b6)) (F.args_zip_next_1 _))))
theorem zipT_stop {z TI TO j1 j2 c1 c2 : Addr} {k : Nat} {xs : Array Value} {a b : Value} {Q : Option Value → Shared → Prop} (hh : A.handled = none) (D : ZipApart z TI TO j1 j2 c1 c2) (gz : IsZip s.heap z TI TO .none) (gI : IsPair s.heap TI (.ref j1) (.ref j2)) (gO : IsPair s.heap TO a b)
    (w1 : s.heap.IsTupleIter j1 c1 k) (t1 : s.heap.IsTuple c1 xs) (hu : xs[k]? = none) (q : ∀ h', (∀ d o, d ≠ z → d ≠ TO → d ≠ j1 → d ≠ j2 → s.heap.get? d = some o → h'.get? d = some o) → Q none { s with heap := h' }) :
    wpAny (model prog w) A (pyNext (.ref z)) Q E s := by
  have hT : s.TypeIs (.ref z) "zip" := ⟨_, gz, rfl⟩
  unfold pyNext
  refine wpAny_bind (wpAny_attempt (wpAny_callSpecial?_slot (name := Str.ofString "__next__") hT F.slot_zip_next (wpAny_call_entry F.slot_zip_next hT F.entry_zip_next (zipT_done (ys := #[]) hh D gz gI gO w1 t1 hu fun h' e hk he => ?_) (F.args_zip_next_1 _))))
  obtain ⟨o, ho, hc⟩ := he
  exact wpAny_bind (wpAny_isInstance (T := "StopIteration") (b := true) ⟨o, ho, hc⟩ isSubtype_stop (wpAny_pure (q _ hk)))
def zh1 (h : Heap) (c : Addr) : Heap := h.push { cls := .type "tuple_iterator", data := .fields #[.ref c, .int 0 0] }
def zh3 (h : Heap) (c1 c2 : Addr) : Heap := (zh1 (zh1 h c1) c2).push { cls := .type "tuple", data := .seq #[.ref h.objs.size, .ref (zh1 h c1).objs.size] }
def zh5 (h : Heap) (c1 c2 : Addr) : Heap := ((zh3 h c1 c2).push { cls := .type "tuple", data := .seq #[.none, .none] }).push { cls := .type "zip", data := .fields #[.none, .bool false, .bool false, .ref (zh1 (zh1 h c1) c2).objs.size, .ref (zh3 h c1 c2).objs.size] }
theorem zipT_new (c1 c2 : Addr) (xs ys : Array Value) : Meets (Builtin.«zip.__new__» ⟨[.type "zip", .ref c1, .ref c2], []⟩) (fun _ R s => s.heap.IsTuple c1 xs ∧ s.heap.IsTuple c2 ys ∧
      R (.ok (.ret (.ref ((zh3 s.heap c1 c2).push { cls := .type "tuple", data := .seq #[.none, .none] }).objs.size))) { s with heap := zh5 s.heap c1 c2 }) :=
  .of_wp fun prog w A R s h => by
    obtain ⟨hp, g, d, tk, os⟩ := s
    obtain ⟨t1, t2, r⟩ := h
    have hsub := sub_zip
    have T1 : Heap.IsTuple (Shared.heap ⟨hp, g, d, tk, os⟩) c1 xs := t1
    have T2 : Heap.IsTuple (Shared.heap ⟨hp.push { cls := .type "tuple_iterator", data := .fields #[.ref c1, .int 0 0] }, g, d, tk, os⟩) c2 ys := Heap.IsTuple.push t2 _
    wp_walk using wpAny_pyIter_tuple T1, wpAny_pyIter_tuple T2
    exact ⟨_, rfl, r⟩
theorem call_zipT {c1 c2 : Addr} {xs ys : Array Value} {Q : Value → Shared → Prop} (t1 : s.heap.IsTuple c1 xs) (t2 : s.heap.IsTuple c2 ys)
    (q : ∀ h', IsZip h' (s.heap.objs.size + 4) (s.heap.objs.size + 2) (s.heap.objs.size + 3) .none → IsPair h' (s.heap.objs.size + 2) (.ref s.heap.objs.size) (.ref (s.heap.objs.size + 1)) → IsPair h' (s.heap.objs.size + 3) .none .none →
      h'.IsTupleIter s.heap.objs.size c1 0 → h'.IsTupleIter (s.heap.objs.size + 1) c2 0 → (∀ d o, s.heap.get? d = some o → h'.get? d = some o) → Q (.ref (s.heap.objs.size + 4)) { s with heap := h' }) :
    wpAny (model prog w) A (call (.type "zip") [.ref c1, .ref c2]) Q E s := by
  refine callType_new F.called_zip (by decide) (F.typeCall_zip_2 _ _) (F.newCall_zip_2 _ _) (fun obj => F.args_object_init_3 obj _ _) F.entry_zip_new (zipT_new c1 c2 xs ys) ⟨t1, t2, ?_⟩
  have n1 : (zh1 s.heap c1).objs.size = s.heap.objs.size + 1 := Heap.size_push ..
  have n2 : (zh1 (zh1 s.heap c1) c2).objs.size = s.heap.objs.size + 2 := (Heap.size_push ..).trans (by rw [n1])
  have n3 : (zh3 s.heap c1 c2).objs.size = s.heap.objs.size + 3 := (Heap.size_push ..).trans (by rw [n2])
  have n4 : ((zh3 s.heap c1 c2).push { cls := .type "tuple", data := .seq #[.none, .none] }).objs.size = s.heap.objs.size + 4 := (Heap.size_push ..).trans (by rw [n3])
  have k5 : ∀ d o, ((zh3 s.heap c1 c2).push { cls := .type "tuple", data := .seq #[.none, .none] }).get? d = some o → (zh5 s.heap c1 c2).get? d = some o := fun d o e => Heap.get?_push_of_some _ e
  have k4 : ∀ d o, (zh3 s.heap c1 c2).get? d = some o → (zh5 s.heap c1 c2).get? d = some o := fun d o e => k5 d o (Heap.get?_push_of_some _ e)
  have k3 : ∀ d o, (zh1 (zh1 s.heap c1) c2).get? d = some o → (zh5 s.heap c1 c2).get? d = some o := fun d o e => k4 d o (Heap.get?_push_of_some _ e)
  have k2 : ∀ d o, (zh1 s.heap c1).get? d = some o → (zh5 s.heap c1 c2).get? d = some o := fun d o e => k3 d o (Heap.get?_push_of_some _ e)
  have g5 : (zh5 s.heap c1 c2).get? ((zh3 s.heap c1 c2).push { cls := .type "tuple", data := .seq #[.none, .none] }).objs.size = some { cls := .type "zip", data := .fields #[.none, .bool false, .bool false, .ref (zh1 (zh1 s.heap c1) c2).objs.size, .ref (zh3 s.heap c1 c2).objs.size] } := Heap.get?_push_size _ rfl
  have g4 : (zh5 s.heap c1 c2).get? (zh3 s.heap c1 c2).objs.size = some { cls := .type "tuple", data := .seq #[.none, .none] } := k5 _ _ (Heap.get?_push_size _ rfl)
  have g3 : (zh5 s.heap c1 c2).get? (zh1 (zh1 s.heap c1) c2).objs.size = some { cls := .type "tuple", data := .seq #[.ref s.heap.objs.size, .ref (zh1 s.heap c1).objs.size] } := k4 _ _ (Heap.get?_push_size _ rfl)
  have g2 : (zh5 s.heap c1 c2).get? (zh1 s.heap c1).objs.size = some { cls := .type "tuple_iterator", data := .fields #[.ref c2, .int 0 0] } := k3 _ _ (Heap.get?_push_size _ rfl)
  have g1 : (zh5 s.heap c1 c2).get? s.heap.objs.size = some { cls := .type "tuple_iterator", data := .fields #[.ref c1, .int 0 0] } := k2 _ _ (Heap.get?_push_size _ rfl)
  rw [n4, n2, n3] at g5
  rw [n3] at g4
  rw [n2, n1] at g3
  rw [n1] at g2
  show _ ∧ _
  rw [n4]
  exact ⟨⟨_, g5, rfl⟩, q _ g5 g3 g4 ⟨_, g1, rfl, rfl⟩ ⟨_, g2, rfl, rfl⟩ fun d o e => k2 d o (Heap.get?_push_of_some _ e)⟩
end
def Itzt (K : PySem.W.Frag) (a b : Addr) : It :=
  ⟨fun i H => ∃ xs ys x y, SqT K H a xs ∧ SqT K H b ys ∧ xs[i]? = some x ∧ ys[i]? = some y, fun i H x H' => ∃ (p : Addr) (v u : V), x = .ref p ∧ H p = none ∧ H' = upd H p (.tup [v, u]) ∧ (∀ xs, SqT K H a xs → xs[i]? = some v) ∧ ∀ ys, SqT K H b ys → ys[i]? = some u,
    fun i H => ∃ xs, SqT K H a xs ∧ xs.length ≤ i⟩
theorem turn_zipT {P : Program} {w : World} {K : PySem.W.Frag} {elts : List Expr} {k : Nat} {pos : Pos} (a b z TI TO i1 i2 : Addr) (D : ZipApart z TI TO i1 i2 a b) : Turn P w K (.Tuple elts k pos) (Itzt K a b) [z, TI, TO, i1, i2] z
    (fun i h => IsZip h z TI TO .none ∧ IsPair h TI (.ref i1) (.ref i2) ∧ (∃ u v, IsPair h TO u v) ∧ h.IsTupleIter i1 a i ∧ h.IsTupleIter i2 b i) where
  mem := by simp
  obj := fun i h st c hc => by
    obtain ⟨hz, hTI, ⟨u, v, hTO⟩, ⟨o1, g1, _, d1⟩, ⟨o2, g2, _, d2⟩⟩ := st
    simp only [List.mem_cons, List.not_mem_nil, or_false] at hc
    rcases hc with rfl | rfl | rfl | rfl | rfl
    · exact ⟨_, hz, fun v z => by have z' : Data.fields _ = Data.cell v := z; cases z'⟩
    · exact ⟨_, hTI, fun v z => by have z' : Data.seq _ _ = Data.cell v := z; cases z'⟩
    · exact ⟨_, hTO, fun v z => by have z' : Data.seq _ _ = Data.cell v := z; cases z'⟩
    · exact ⟨o1, g1, fun v z => by rw [d1] at z; cases z⟩
    · exact ⟨o2, g2, fun v z => by rw [d2] at z; cases z⟩
  keep := fun i h h' st k => by
    obtain ⟨hz, hTI, ⟨u, v, hTO⟩, h1, h2⟩ := st
    exact ⟨k z (by simp) _ hz, k TI (by simp) _ hTI, ⟨u, v, k TO (by simp) _ hTO⟩, h1.at fun o x => k i1 (by simp) o x, h2.at fun o x => k i2 (by simp) o x⟩
  item := by
    intro X hP hw hK hc i pins s σ H E I hf st hg
    subst hP hw hK
    obtain ⟨hz, hTI, ⟨u', v', hTO⟩, h1, h2⟩ := st
    obtain ⟨xs, ys, x, y, hq, hr, hx, hy⟩ := hg
    obtain ⟨its, rv, pl, hz1⟩ := I.tuple hq
    obtain ⟨jts, rw', pm, hz2⟩ := I.tuple hr
    obtain ⟨u, hu, ru⟩ := rv.get hx
    obtain ⟨v, hv, rvv⟩ := rw'.get hy
    have lt : ∀ {c o}, s.heap.get? c = some o → c ≠ s.heap.objs.size := fun e => Nat.ne_of_lt (Heap.lt_size e)
    refine zipT_next D hz hTI hTO h1 h2 (show s.heap.IsTuple a its.toArray from pl) (show s.heap.IsTuple b jts.toArray from pm) (u := u) (v := v) (by simpa using hu) (by simpa using hv) fun h' b1 b2 b3 b4 b5 hk => ?_
    refine ⟨_, rfl, wpAny_letOwnedTupleGo_zip b1 fun h3 he3 hs3 => ?_⟩
    replace hs3 : Heap.SameBut z h' h3 := hs3
    have hn : H s.heap.objs.size = none := I.hok.fresh (Nat.le_refl _)
    have up : ∀ {c o}, c ≠ z → h'.get? c = some o → h3.get? c = some o := fun hc e => (hs3.2 _ hc).trans e
    refine ⟨.ref s.heap.objs.size, upd H s.heap.objs.size (.tup [x, y]), ?_, rfl, ⟨_, x, y, rfl, hn, rfl, fun zs hy => by rw [I.tuple_inj hy hq]; exact hx, fun zs hz => by rw [I.tuple_inj hz hr]; exact hy⟩, ⟨he3, up D.TIz (hk _ _ D.TIz D.TITO D.TIi1 D.TIi2 hTI), ⟨_, _, up D.TOz b2⟩, b3.at fun o e => up D.i1z e, b4.at fun o e => up D.i2z e⟩, fun c hc => ?_⟩
    · refine I.turnedLaid (its := [z, TI, TO, i1, i2]) (fun c o hc e => up (fun z => hc (by simp [z])) (hk c o (fun z => hc (by simp [z])) (fun z => hc (by simp [z])) (fun z => hc (by simp [z])) (fun z => hc (by simp [z])) e)) hf (Nat.le_refl _) ?_
      exact ⟨by show 2 ≤ sizeLine; decide, [u, v], .cons ru (.cons rvv .nil), _, up (lt hz).symm b5, rfl, _, rfl⟩
    · have nb : c ≠ s.heap.objs.size := by
        simp only [List.mem_cons, List.not_mem_nil, or_false] at hc
        rcases hc with rfl | rfl | rfl | rfl | rfl
        · exact lt hz
        · exact lt hTI
        · exact lt hTO
        · obtain ⟨_, e, _⟩ := h1; exact lt e
        · obtain ⟨_, e, _⟩ := h2; exact lt e
      rw [upd_ne nb]
      exact (hf c hc).1
  done := by
    intro X hP hw hK hc i pins s σ H E I hf st hg
    subst hP hw hK
    obtain ⟨hz, hTI, ⟨u', v', hTO⟩, h1, h2⟩ := st
    obtain ⟨xs, hq, hend⟩ := hg
    obtain ⟨its, rv, pl, hz1⟩ := I.tuple hq
    have l1 := rv.length
    exact zipT_stop (I.ok.hd hc) D hz hTI hTO h1 (show s.heap.IsTuple a its.toArray from pl) (by simp; omega) fun h' hk => ⟨rfl, I.turnedL (t' := s.toks) (its := [z, TI, TO, i1, i2]) (fun c o hc e => hk c o (fun z => hc (by simp [z])) (fun z => hc (by simp [z])) (fun z => hc (by simp [z])) (fun z => hc (by simp [z])) e) hf⟩
  self := fun _ _ _ _ _ st h => wpAny_pyIter_zip st.1 h
section
variable {X : Cx} {elts : List Expr} {k : Nat} {tpos : Pos}
def iZipS (K : PySem.W.Frag) (ta : TA) : TI := fun σ H R => ta σ H fun vs H1 => ∃ a b xs ys, vs = [.ref a, .ref b] ∧ ((SqL K H1 a xs ∧ SqL K H1 b ys ∧ R (Itz K a b) H1) ∨ (SqT K H1 a xs ∧ SqT K H1 b ys ∧ R (Itzt K a b) H1))
theorem pi_zipSK (K : PySem.W.Frag) {a b : Expr} {ta : TA} {p pos : Pos} (hg : Gl X "zip") (hm : X.mg "zip" = none) (ha : PA X [a, b] ta) (hs : starEach [a, b] X.env = (false, eval a X.env) :: starEach [b] X.env := by rfl) (hs2 : starEach [b] X.env = [(false, eval b X.env)] := by rfl) (hK : X.K = K := by rfl) :
    PI X (.Tuple elts k tpos) (.Call (.Name "zip" p) [a, b] [] pos) (iZipS K ta) := by
  subst hK
  intro pins s σ H R I h
  refine Call_ (ld_blt I hg hm boot_zip (PyProof.Rows.callWith_type1 (thn (ha pos pins s σ H _ I h) fun us s1 ⟨vs, H1, I1, r1, q1⟩ => ?_) hs (by rw [hs2]; rfl)))
  obtain ⟨l, m, xs, ys, e, q1⟩ := q1
  subst e
  cases r1 with
  | cons r rr =>
    cases rr with
    | cons r' rr =>
      cases rr
      cases r
      cases r'
      have fr : ∀ b ∈ [s1.heap.objs.size + 4, s1.heap.objs.size + 2, s1.heap.objs.size + 3, s1.heap.objs.size, s1.heap.objs.size + 1], FpOk X pins H1 b := fun b hb => by
        have hb' : s1.heap.objs.size ≤ b := by
          simp only [List.mem_cons, List.not_mem_nil, or_false] at hb
          rcases hb with rfl | rfl | rfl | rfl | rfl
          · exact Nat.le_add_right _ _
          · exact Nat.le_add_right _ _
          · exact Nat.le_add_right _ _
          · exact Nat.le_refl _
          · exact Nat.le_add_right _ _
        exact I1.fpOk hb' (I1.hok.fresh hb')
      rcases q1 with ⟨hq, hr, q⟩ | ⟨hq, hr, q⟩
      · obtain ⟨its, rv, pl, hz⟩ := I1.list hq
        obtain ⟨jts, rw', pm, hz'⟩ := I1.list hr
        refine call_zip_2 pl.isList pm.isList fun h' hz hTI hTO h1 h2 hsz hk => ?_
        have I2 : Inv X pins σ H1 { s1 with heap := h' } := I1.kept (t' := s1.toks) hk
        exact wpAny_pyIter_zip hz ⟨s1.heap.objs.size + 4, _, _, _, H1, rfl, I2, turn_zip l m _ _ _ _ _ (za_of s1.heap.objs.size), ⟨hz, hTI, ⟨_, _, hTO⟩, h1, h2⟩, fr, q⟩
      · obtain ⟨its, rv, pl, hz⟩ := I1.tuple hq
        obtain ⟨jts, rw', pm, hz'⟩ := I1.tuple hr
        have T1 : s1.heap.IsTuple l its.toArray := pl
        have T2 : s1.heap.IsTuple m jts.toArray := pm
        have l1 : l < s1.heap.objs.size := by obtain ⟨_, e, _⟩ := T1; exact Heap.lt_size e
        have l2 : m < s1.heap.objs.size := by obtain ⟨_, e, _⟩ := T2; exact Heap.lt_size e
        have Z := za_of s1.heap.objs.size
        refine call_zipT T1 T2 fun h' hz hTI hTO h1 h2 hk => ?_
        have I2 : Inv X pins σ H1 { s1 with heap := h' } := I1.kept (t' := s1.toks) hk
        have ne : ∀ {c : Addr} (j : Nat), c < s1.heap.objs.size → c ≠ s1.heap.objs.size + j := fun j hc => Nat.ne_of_lt (Nat.lt_of_lt_of_le hc (Nat.le_add_right _ _))
        exact wpAny_pyIter_zip hz ⟨s1.heap.objs.size + 4, _, _, _, H1, rfl, I2, turn_zipT l m _ _ _ _ _ ⟨Z.a1, Z.a2, Z.a3, Z.a4, Z.a5, Z.a6, Z.a7, Z.a8, Z.a9, Z.a10, ne 4 l1, ne 3 l1, ne 0 l1, ne 1 l1, ne 4 l2, ne 3 l2, ne 0 l2, ne 1 l2⟩, ⟨hz, hTI, ⟨_, _, hTO⟩, h1, h2⟩, fr, q⟩
end
section
variable {K : PySem.W.Frag} {H1 : Hp} {D : Addr} {g : TG} {tc : TT} {te : TE} {σc : St} {R : Hp → Prop}
theorem comp_zipT {a b : Addr} {xs zs : List V} (Pv : Nat → List V → Hp → Prop) (hq : SqT K H1 a xs) (hr : SqT K H1 b zs) (hn : xs.length = zs.length) (hD : H1 D = none) (h0 : Pv 0 [] (upd H1 D (.lst [])))
    (hs : ∀ i m x z p ys H2, xs[i]? = some x → zs[i]? = some z → i < xs.length → m = xs.length - i → Same H1 H2 → H2 D = some (.lst ys) → ys.length ≤ i → Pv i ys H2 → H2 p = none → TurnGoal g tc te σc H1 D xs.length Pv i m (.ref p) (upd H2 p (.tup [x, z])))
    (hd : ∀ ys H2, Same H1 H2 → H2 D = some (.lst ys) → ys.length ≤ xs.length → Pv xs.length ys H2 → R H2) : CompGoal (Itzt K a b) g tc te σc H1 R D := by
  refine ⟨WL H1 D xs.length Pv, ⟨xs.length, rfl, Nat.zero_le _, Same.new' hD, [], upd_same, Nat.le_refl _, h0⟩, ?_⟩
  rintro i m H2 ⟨hm, hi, s12, ys, hy, hl, p⟩
  have q2 : SqT K H2 a xs := s12.seqT hq
  have r2 : SqT K H2 b zs := s12.seqT hr
  by_cases hlt : i < xs.length
  · have l2 : i < zs.length := by omega
    refine .inr ⟨⟨xs, zs, xs[i], zs[i], q2, r2, List.getElem?_eq_getElem hlt, List.getElem?_eq_getElem l2⟩, fun x H3 e => ?_⟩
    obtain ⟨z, v, u, rfl, hz, rfl, y1, y2⟩ := e
    exact hs i m v u z ys _ (y1 xs q2) (y2 zs r2) hlt hm s12 hy hl p hz
  · have e : i = xs.length := by omega
    subst e
    exact .inl ⟨⟨xs, q2, Nat.le_refl _⟩, hd ys H2 s12 hy hl p⟩
end
end L2
set_option Elab.async false
set_option linter.all false
set_option maxRecDepth 100000
namespace L2
open PySem PySem.Spec PyProof.Rows
abbrev IsTrip (h : Heap) (T : Addr) (a b c : Value) : Prop := h.get? T = some { cls := .type "tuple", data := .seq #[a, b, c] }
structure Z3 (z TI TO j1 j2 j3 c1 c2 c3 : Addr) : Prop where
  own : [z, TI, TO, j1, j2, j3].Nodup
  a1 : c1 ∉ [z, TI, TO, j1, j2, j3]
  a2 : c2 ∉ [z, TI, TO, j1, j2, j3]
  a3 : c3 ∉ [z, TI, TO, j1, j2, j3]
section
variable {prog : Program} {w : World} {A : Around} {E : Value → Shared → Prop} {s : Shared}
def zw3 (h : Heap) (c1 c2 c3 : Addr) : Heap := (zh1 (zh1 h c1) c2).push { cls := .type "list_iterator", data := .fields #[.ref c3, .int 0 0] }
def zw4 (h : Heap) (c1 c2 c3 : Addr) : Heap := (zw3 h c1 c2 c3).push { cls := .type "tuple", data := .seq #[.ref h.objs.size, .ref (zh1 h c1).objs.size, .ref (zh1 (zh1 h c1) c2).objs.size] }
def zw6 (h : Heap) (c1 c2 c3 : Addr) : Heap := ((zw4 h c1 c2 c3).push { cls := .type "tuple", data := .seq #[.none, .none, .none] }).push { cls := .type "zip", data := .fields #[.none, .bool false, .bool false, .ref (zw3 h c1 c2 c3).objs.size, .ref (zw4 h c1 c2 c3).objs.size] }
set_option maxHeartbeats 2000000 in
theorem zip3_new (c1 c2 c3 : Addr) (xs ys zs : Array Value) : Meets (Builtin.«zip.__new__» ⟨[.type "zip", .ref c1, .ref c2, .ref c3], []⟩) (fun _ R s => s.heap.IsTuple c1 xs ∧ s.heap.IsTuple c2 ys ∧ s.heap.IsList c3 zs ∧
      R (.ok (.ret (.ref ((zw4 s.heap c1 c2 c3).push { cls := .type "tuple", data := .seq #[.none, .none, .none] }).objs.size))) { s with heap := zw6 s.heap c1 c2 c3 }) :=
  .of_wp fun prog w A R s h => by
    obtain ⟨hp, g, d, tk, os⟩ := s
    obtain ⟨t1, t2, t3, r⟩ := h
    have hsub := sub_zip
    have T1 : Heap.IsTuple (Shared.heap ⟨hp, g, d, tk, os⟩) c1 xs := t1
    have T2 : Heap.IsTuple (Shared.heap ⟨hp.push { cls := .type "tuple_iterator", data := .fields #[.ref c1, .int 0 0] }, g, d, tk, os⟩) c2 ys := Heap.IsTuple.push t2 _
    have T3 : Heap.IsList (Shared.heap ⟨(hp.push { cls := .type "tuple_iterator", data := .fields #[.ref c1, .int 0 0] }).push { cls := .type "tuple_iterator", data := .fields #[.ref c2, .int 0 0] }, g, d, tk, os⟩) c3 zs := Heap.IsList.push (Heap.IsList.push t3 _) _
    wp_walk using wpAny_pyIter_tuple T1, wpAny_pyIter_tuple T2, wpAny_pyIter_list T3
    exact ⟨_, rfl, r⟩
end
def Itz3 (K : PySem.W.Frag) (a b c : Addr) : It :=
  ⟨fun i H => ∃ xs ys zs x y z, SqT K H a xs ∧ SqT K H b ys ∧ SqL K H c zs ∧ xs[i]? = some x ∧ ys[i]? = some y ∧ zs[i]? = some z,
    fun i H x H' => ∃ (p : Addr) (v u r : V), x = .ref p ∧ H p = none ∧ H' = upd H p (.tup [v, u, r]) ∧ (∀ xs, SqT K H a xs → xs[i]? = some v) ∧ (∀ ys, SqT K H b ys → ys[i]? = some u) ∧ ∀ zs, SqL K H c zs → zs[i]? = some r,
    fun i H => ∃ xs ys, SqT K H a xs ∧ SqT K H b ys ∧ ys.length ≤ i⟩
section
variable {X : Cx} {elts : List Expr} {k : Nat} {tpos : Pos}
def iZip3 (K : PySem.W.Frag) (ta : TA) : TI := fun σ H R => ta σ H fun vs H1 => ∃ a b c xs ys zs, vs = [.ref a, .ref b, .ref c] ∧ SqT K H1 a xs ∧ SqT K H1 b ys ∧ SqL K H1 c zs ∧ R (Itz3 K a b c) H1
end
end L2
set_option Elab.async false
set_option linter.all false
set_option maxRecDepth 100000
namespace L2
open PySem PySem.Spec PyProof.Rows
open PySem.W (KasT kas_sort kas_count kas_bin kas_place kas_asc kas_desc kas_descPart kas_tail3 kas_rev kas_ask kas_item)
def TOk (n : Nat) {α : Type} (C : α → Prop) : KasT α → Prop
  | .ret a => C a
  | .ask i j k => i < n ∧ j < n ∧ ∀ b, TOk n C (k b)
theorem TOk.bind {n : Nat} {α β : Type} {C : α → Prop} {D : β → Prop} {f : α → KasT β} (hf : ∀ a, C a → TOk n D (f a)) : ∀ {t : KasT α}, TOk n C t → TOk n D (t.bind f)
  | .ret a, h => hf a h
  | .ask _ _ k, h => ⟨h.1, h.2.1, fun b => TOk.bind hf (h.2.2 b)⟩
def GoodP (n : Nat) (p : Array Nat) : Prop := p.size = n ∧ ∀ x ∈ p.toList, x < n
theorem GoodP.perm {n : Nat} {p q : Array Nat} (h : GoodP n p) (e : q.Perm p) : GoodP n q :=
  ⟨e.size_eq.trans h.1, fun x hx => h.2 x ((Array.perm_iff_toList_perm.mp e).mem_iff.mp hx)⟩
theorem GoodP.getD {n : Nat} {p : Array Nat} (hn : 0 < n) (h : GoodP n p) (i : Nat) : p.getD i 0 < n := by
  by_cases hi : i < p.size
  · have e : p.getD i 0 = p[i] := by simp [Array.getD, hi]
    rw [e]
    exact h.2 _ (by simp)
  · have e : p.getD i 0 = 0 := by simp [Array.getD, hi]
    rw [e]; exact hn
theorem GoodP.rev {n : Nat} {p : Array Nat} (h : GoodP n p) (i j : Nat) : GoodP n (kas_rev p i j) := h.perm (mirror_perm _ _ _ _)
theorem tok_asc {n : Nat} (hn : 0 < n) {p : Array Nat} (h : GoodP n p) : ∀ f m, TOk n (fun _ => True) (kas_asc p f m)
  | 0, m => trivial
  | f + 1, m => ⟨h.getD hn _, h.getD hn _, fun b => by
    cases b
    · exact tok_asc hn h f (m + 1)
    · exact trivial⟩
theorem tok_desc {n : Nat} (hn : 0 < n) : ∀ f {p : Array Nat} m q, GoodP n p → TOk n (fun r => GoodP n r.1) (kas_desc f p m q)
  | 0, p, m, q, h => h
  | f + 1, p, m, q, h => ⟨h.getD hn _, h.getD hn _, fun b => by
    cases b
    · refine ⟨h.getD hn _, h.getD hn _, fun d => ?_⟩
      cases d
      · exact tok_desc hn f (m + 1) (q + 1) h
      · exact h
    · show TOk n _ (if q > 0 then kas_desc f (kas_rev p (m - (q + 1)) m) (m + 1) 0 else kas_desc f p (m + 1) 0)
      split
      · exact tok_desc hn f (m + 1) 0 (h.rev _ _)
      · exact tok_desc hn f (m + 1) 0 h⟩
theorem tok_tail3 {n : Nat} (hn : 0 < n) {p : Array Nat} (h : GoodP n p) (a r : Nat) : TOk n (fun r => GoodP n r.2) (kas_tail3 a r p) :=
  by
  unfold kas_tail3
  exact TOk.bind (C := fun _ => True) (fun m _ => show TOk n (fun r : Nat × Array Nat => GoodP n r.2) (.ret (m, kas_rev p 0 a)) from h.rev _ _) (tok_asc hn (h.rev 0 a) _ _)
theorem tok_descPart {n : Nat} (hn : 0 < n) {p : Array Nat} (h : GoodP n p) (a r : Nat) : TOk n (fun r => GoodP n r.2) (kas_descPart a r p) :=
  TOk.bind (C := fun r => GoodP n r.1) (fun m hm => by
    show TOk n _ (if m.2.2 > 0 then _ else _)
    split
    · exact tok_tail3 hn (hm.rev _ _) _ _
    · exact tok_tail3 hn hm _ _) (tok_desc hn _ _ _ h)
theorem tok_count {n : Nat} (hn : 0 < n) {p : Array Nat} (h : GoodP n p) (r : Nat) : TOk n (fun r => GoodP n r.2) (kas_count r p) :=
  TOk.bind (C := fun _ => True) (fun m _ => by
    show TOk n _ (if (m == r) = true then _ else if m > 1 then _ else _)
    split
    · exact h
    · split
      · refine ⟨h.getD hn _, h.getD hn _, fun c => ?_⟩
        cases c
        · exact tok_descPart hn (h.rev _ _) _ _
        · exact h
      · exact tok_descPart hn h _ _) (tok_asc hn h _ _)
theorem tok_place {n : Nat} (hn : 0 < n) {p : Array Nat} (h : GoodP n p) (k : Nat) : ∀ f l r, TOk n (fun _ => True) (kas_place p k f l r)
  | 0, l, r => trivial
  | f + 1, l, r => by
    show TOk n _ (if l ≥ r then _ else _)
    split
    · trivial
    · refine ⟨h.getD hn _, h.getD hn _, fun c => ?_⟩
      cases c
      · exact tok_place hn h k f _ _
      · exact tok_place hn h k f _ _
theorem tok_bin {n : Nat} (hn : 0 < n) : ∀ f {p : Array Nat} k, GoodP n p → TOk n (GoodP n) (kas_bin f p k)
  | 0, p, k, h => h
  | f + 1, p, k, h => TOk.bind (C := fun _ => True) (fun l _ => tok_bin hn f (k + 1) (h.perm (bubble_perm _ _ _))) (tok_place hn h k _ _ _)
theorem tok_sort {n : Nat} (hn : 0 < n) : TOk n (GoodP n) (kas_sort n) :=
  TOk.bind (C := fun r => GoodP n r.2) (fun r hr => by
    show TOk n _ (if r.1 < n then _ else _)
    split
    · exact tok_bin hn _ _ hr
    · exact hr) (tok_count hn ⟨by simp, fun x hx => by simpa using hx⟩ _)
section
variable {prog : Program} {w : World} {A : Around} {E : Value → Shared → Prop} {s : Shared}
def PairAt (h : Heap) (v : Value) : Prop := ∃ b o i j t u k, v = .ref b ∧ h.get? b = some o ∧ o.cls = .type "tuple" ∧ o.data = .seq #[.int i t, .int j u] k
def Asks (prog : Program) (w : World) (A : Around) (s : Shared) (a : Addr) (vs : List Value) (Ok : List Nat → Prop) : Prop :=
  ∀ h' : Heap, (∀ b o, b ≠ a → s.heap.get? b = some o → h'.get? b = some o) → 2 ≤ vs.length → ∃ κ : SortKind,
    (∀ (Q : SortKind → Shared → Prop) (E : Value → Shared → Prop), Q κ { s with heap := h' } → wpAny (model prog w) A (keyKind' vs.toArray) Q E { s with heap := h' }) ∧
    ∀ G : Array Nat → Shared → Prop, (∀ p, p.size = vs.length → Ok p.toList → G p { s with heap := h' }) → (kas_sort vs.length).kasWp (kas_ask prog w A κ vs) G { s with heap := h' }
theorem short_same {vs : List Value} (one : vs.length < 2) : (arrOf (SortSt.mk' general' (vs.toArray.zip vs.toArray) #[] 7 none)).map (·.2) = ((List.range vs.length).map fun i => vs.getD i Value.none).toArray := by
  show (vs.toArray.zip vs.toArray).map (·.2) = _
  match vs, one with
  | [], _ => simp
  | [v], _ => simp [List.range_succ]
theorem sort_by {a : Addr} {vs : List Value} {n : Nat} {Ok : List Nat → Prop} {P : Fin → Shared → Prop} (ho : s.heap.get? a = some (seqObj "list" vs.toArray n)) (few : vs.length < 64) (asks : Asks prog w A s a vs Ok) (id0 : vs.length < 2 → Ok (List.range vs.length))
    (fin : ∀ ps : List Nat, ps.length = vs.length → Ok ps → P (.done (.ret .none)) { s with heap := sortedHeap s.heap a vs (ps.map fun i => vs.getD i Value.none).toArray }) :
    wpAny (model prog w) A (Builtin.«list.sort» ⟨[.ref a], []⟩) P E s := by
  have la := Heap.lt_size ho
  obtain ⟨ep, hEmpty⟩ : ∃ ep, (s.heap.update a (Obj.mapSeq fun _ => #[])).get? a = some (seqObj "list" #[] ep) := ⟨_, get?_update_seq ho (fun _ => #[])⟩
  have stay : ∀ b o, b ≠ a → s.heap.get? b = some o → (((s.heap.update a (Obj.mapSeq fun _ => #[])).push (seqObj "tuple" vs.toArray 0)).push (seqObj "list" #[] 0)).get? b = some o := fun b o nb e =>
    Heap.get?_push_of_some _ (Heap.get?_push_of_some _ (by rw [Heap.get?_update_ne _ _ _ _ nb]; exact e))
  have still : (((s.heap.update a (Obj.mapSeq fun _ => #[])).push (seqObj "tuple" vs.toArray 0)).push (seqObj "list" #[] 0)).get? a = some (seqObj "list" #[] ep) := Heap.get?_push_of_some _ (Heap.get?_push_of_some _ hEmpty)
  have ask := asks _ stay
  have room : sizeLine = 16777216 := sizeLine_eq
  rw [list_sort_plain]
  refine wpAny_bind (listItems_at ho rfl (wpAny_bind (listUpdate_at ho rfl (wpAny_bind (seqEpoch_at hEmpty rfl (wpAny_bind (wpAny_newTuple (wpAny_bind (wpAny_newList (wpAny_holding ?_)))))))))) 
  dsimp only
  have sz : vs.toArray.size = vs.length := List.size_toArray
  rcases Nat.lt_or_ge vs.length 2 with one | more
  · have sz2 : vs.toArray.size < 2 := by rw [sz]; exact one
    rw [if_pos sz2, if_pos sz2]
    refine wpAny_bind (wpAny_pure ?_)
    rw [StateT.run_pure]
    have same : (arrOf (SortSt.mk' general' (vs.toArray.zip vs.toArray) #[] 7 none)).map (·.2) = ((List.range vs.length).map fun i => vs.getD i Value.none).toArray := short_same one
    have done := fin (List.range vs.length) List.length_range (id0 one)
    rw [← same] at done
    refine wpAny_bind (wpAny_pure (wpAny_bind (seqEpoch_at still rfl (wpAny_bind (listUpdate_at still rfl ?_ (hsz2 := ?_))))))
    · simp only [bne_self_eq_false, Bool.false_eq_true, if_false]
      exact wpAny_pure done
    · rw [same, List.size_toArray, List.length_map, List.length_range]
      omega
  · have nsz : ¬ vs.toArray.size < 2 := by rw [sz]; omega
    rw [if_neg nsz, if_neg nsz]
    obtain ⟨κ, kind, run⟩ := ask more
    refine wpAny_bind (kind _ _ (wpAny_bind (wpAny_mono (PySem.W.kat_run (G := fun p s' => s' = _ ∧ p.size = vs.length ∧ Ok p.toList) (Q := fun st s' => s' = _ ∧ ∃ p : Array Nat, (p.size = vs.length ∧ Ok p.toList) ∧ arrOf st = p.map (kas_item (vs.toArray.zip vs.toArray)) ∧ failedOf st = none)
      rfl more few (fun p st s' _ b1 b2 b3 => ⟨b3.1, p, b3.2, b1, b2⟩) (run _ fun p l k => ⟨rfl, l, k⟩)) ?_ fun _ _ e => e)))
    rintro ⟨⟨⟩, st⟩ s' ⟨rfl, p, ⟨pl, pk⟩, arr, bad⟩
    dsimp only
    have ol : (p.toList.map fun i => vs.getD i Value.none).length = vs.length := by rw [List.length_map, Array.length_toList, pl]
    rw [PySem.W.kat_snds rfl arr, bad]
    refine wpAny_bind (seqEpoch_at still rfl (wpAny_bind (listUpdate_at still rfl ?_ (Nat.zero_le _) (by rw [List.size_toArray, ol, room]; omega))))
    simp only [bne_self_eq_false, Bool.false_eq_true, if_false]
    exact wpAny_pure (fin p.toList (by rw [Array.length_toList, pl]) pk)
theorem sorted_by {l : Addr} {vs : List Value} {o : Obj} {n : Nat} {Ok : List Nat → Prop} {Q : Value → Shared → Prop} (ho : s.heap.get? l = some o) (hc : o.cls = .type "list") (hd : o.data = .seq vs.toArray n) (few : vs.length < 64)
    (asks : ∀ h' : Heap, (∀ b o, s.heap.get? b = some o → h'.get? b = some o) → Asks prog w A.in1.in1 { s with heap := h' } (s.heap.objs.size + 1) vs Ok) (id0 : vs.length < 2 → Ok (List.range vs.length))
    (fin : ∀ ps : List Nat, ps.length = vs.length → Ok ps → Q (.ref (s.heap.objs.size + 1)) { s with heap := sortedAll s.heap vs (ps.map fun i => vs.getD i Value.none).toArray }) :
    wpAny (model prog w) A (call (.builtin "sorted") [.ref l]) Q E s := by
  have room : sizeLine = 16777216 := sizeLine_eq
  have grown : ((s.heap.push (seqObj "list" #[] 0)).update s.heap.objs.size (Obj.mapSeq (· ++ vs.toArray))).objs.size = s.heap.objs.size + 1 := (Heap.size_update ..).trans (size_push' ..)
  have newL : (((s.heap.push (seqObj "list" #[] 0)).update s.heap.objs.size (Obj.mapSeq (· ++ vs.toArray))).push (seqObj "list" vs.toArray 0)).get? (s.heap.objs.size + 1) = some (seqObj "list" vs.toArray 0) :=
    grown ▸ Heap.get?_push_size _ rfl
  have old : ∀ b u, s.heap.get? b = some u → (((s.heap.push (seqObj "list" #[] 0)).update s.heap.objs.size (Obj.mapSeq (· ++ vs.toArray))).push (seqObj "list" vs.toArray 0)).get? b = some u := fun b u e => by
    refine Heap.get?_push_of_some _ ?_
    rw [Heap.get?_update_ne _ _ _ _ (Nat.ne_of_lt (Heap.lt_size e))]
    exact Heap.get?_push_of_some _ e
  refine Calls.call_function_entry kind_sorted plain_sorted entry_sorted (args_sorted1 _) ?_
  unfold Builtin.«sorted»
  refine wpAny_bind (m := checkCount "sorted" 1 1 _) (wpAny_pure (wpAny_bind (collect_seq ho hc (.inl rfl) hd (by omega) (wpAny_bind (wpAny_newList ?_)))))
  show wpAny _ _ _ _ _ ({ s with heap := ((s.heap.push (seqObj "list" #[] 0)).update s.heap.objs.size (Obj.mapSeq (· ++ vs.toArray))).push (seqObj "list" vs.toArray 0) } : Shared)
  rw [grown]
  refine wpAny_bind (wpAny_holding (wpAny_call_entry slot_list_sort ⟨_, newL, rfl⟩ entry_list_sort (sort_by newL few (asks _ old) id0 fun ps pl pk => ⟨_, rfl, ?_⟩) (args_list_sort _)))
  exact wpAny_pure ⟨_, rfl, fin ps pl pk⟩
theorem PairAt.kept {h h' : Heap} {v : Value} (x : PairAt h v) (k : ∀ b o, o.cls = .type "tuple" → h.get? b = some o → h'.get? b = some o) : PairAt h' v := by
  obtain ⟨b, o, i, j, t, u, n, e, g, c, d⟩ := x
  exact ⟨b, o, i, j, t, u, n, e, k b o c g, c, d⟩
end
def rSortP (K : PySem.W.Frag) : List V → Hp → VK → Prop := fun xs H Q => ∃ p vs, xs = [.ref p] ∧ SqL K H p vs ∧ vs.length < 64 ∧ (∀ v ∈ vs, ∃ b i j, v = .ref b ∧ SqT K H b [.int i, .int j]) ∧
  ∀ l vs', H l = none → vs'.length = vs.length → (∀ v ∈ vs', v ∈ vs) → Q (.ref l) (upd H l (.lst vs'))
end L2
set_option Elab.async false
set_option linter.all false
set_option maxRecDepth 100000
set_option maxHeartbeats 1000000
namespace L2
open PySem PySem.Spec PySem.Calls PyProof.Rows
section
variable {X : Cx} {pos : Pos}
def gLis (K : PySem.W.Frag) (n : Nat) (t : TGs) : TG := fun v σ H Q => ∃ a xs, v = .ref a ∧ SqL K H a xs ∧ xs.length = n ∧ t xs σ H Q
theorem pg_lisK (K : PySem.W.Frag) {es : List Expr} {k : Nat} {t : TGs} {n : Nat} (hc : X.calm = true) (h : PGs X es t)
    (hn : (assignEach es X.env).length = n := by rfl) (hst : (assignEach es X.env).findIdx? (·.1) = none := by rfl) (hK : X.K = K := by rfl) : PG X (.Tuple es k pos) (gLis K n t) := by
  subst hK
  intro pins s σ H v u Q I r hw
  obtain ⟨a, xs, e1, hq, hl, hw⟩ := hw
  subst e1
  cases r
  obtain ⟨its, rv, pl, hz⟩ := I.list hq
  rw [assign_Tuple]
  refine wpAny_bind (wpAny_standAt ?_)
  unfold unpack
  rw [show (assignEach es X.env).length = its.toArray.size from by simp [hn, ← hl, rv.length], hst]
  refine wpAny_bind (wpAny_holding (PySem.W.kun_itemsOf (I.ok.hd hc) pl.isList fun h' hx => ?_))
  have I1 : Inv X pins σ H { s with heap := h' } := I.kept (t' := s.toks) fun b o e => hx b o (Nat.ne_of_lt (Heap.lt_size e)) e
  exact h pins _ σ H xs _ Q I1 (by simpa using rv) hw
end
end L2
set_option Elab.async false
set_option linter.all false
set_option maxRecDepth 100000
set_option maxHeartbeats 1000000
namespace L2
open PySem PySem.Spec PyProof.Rows
open PySem.W (KasT kas_sort kas_item kas_ask)
inductive Atm where
  | i (x : Int)
  | s (x : Str)
def Atm.v : Atm → V
  | .i x => .int x
  | .s x => .str x
theorem paired_imp {α β : Type} {R S : α → β → Prop} (f : ∀ a b, R a b → S a b) {xs : List α} {ys : List β} (h : PySem.Paired R xs ys) : PySem.Paired S xs ys := by
  induction h with
  | nil => exact .nil
  | cons r _ ih => exact .cons (f _ _ r) ih
def TRun {α : Type} (o : Nat → Nat → Bool) : KasT α → α
  | .ret a => a
  | .ask i j k => TRun o (k (o i j))
theorem trun_ok {n : Nat} {α : Type} {C : α → Prop} {o : Nat → Nat → Bool} : ∀ (t : KasT α), TOk n C t → C (TRun o t)
  | .ret a, h => h
  | .ask i j k, h => trun_ok (k (o i j)) (h.2.2 _)
theorem trun_run {n : Nat} {α : Type} {C : α → Prop} {o : Nat → Nat → Bool} {cmp : Nat → Nat → (Bool → Shared → Prop) → Shared → Prop} {Q : α → Shared → Prop} {s : Shared} (hc : ∀ i j (R : Bool → Shared → Prop), i < n → j < n → R (o i j) s → cmp i j R s) :
    ∀ (t : KasT α), TOk n C t → Q (TRun o t) s → t.kasWp cmp Q s
  | .ret a, _, h => h
  | .ask i j k, t, h => hc i j _ t.1 t.2.1 (trun_run hc (k (o i j)) (t.2.2 _) h)
def Cmp2 : List Atm → List Atm → Prop
  | .i x :: as, .i y :: bs => x = y → Cmp2 as bs
  | .s x :: as, .s y :: bs => x = y → Cmp2 as bs
  | .i _ :: _, .s _ :: _ => False
  | .s _ :: _, .i _ :: _ => False
  | [], _ => True
  | _, [] => True
def ltL (fin : Bool) : List Atm → List Atm → Bool
  | .i x :: as, .i y :: bs => if x = y then ltL fin as bs else decide (x < y)
  | .s x :: as, .s y :: bs => if x = y then ltL fin as bs else decide (x.cps.toList < y.cps.toList)
  | _, _ => fin
def ltA (as bs : List Atm) : Bool := ltL (decide (as.length < bs.length)) as bs
section
variable {prog : Program} {w : World} {A : Around} {E : Value → Shared → Prop} {s : Shared}
abbrev Atms : List Atm → List Value → Prop := Paired fun a u => RelV a.v u
theorem lex_lt {fin : Bool} {R : Bool → Shared → Prop} : ∀ (as bs : List Atm) (us ws : List Value) (i : Nat), Atms as us → Atms bs ws → Cmp2 as bs → (i = 0 → (∃ x y as' bs', as = .s x :: as' ∧ bs = .s y :: bs')) → R (ltL fin as bs) s →
    PySem.W.KatLex prog w A true fin R (us.zip ws) i s
  | [], bs, _, ws, i, .nil, _, _, _, h => by
    show PySem.W.KatLex prog w A true fin R [] i s
    refine PySem.W.kat_nil ?_
    cases bs <;> exact h
  | a :: as, [], _, _, i, .cons r t, .nil, _, _, h => by
    show PySem.W.KatLex prog w A true fin R [] i s
    refine PySem.W.kat_nil ?_
    cases a <;> exact h
  | .i x :: as, .i y :: bs, _, _, i, .cons r t, .cons r' t', c, z, h => by
    obtain ⟨tk, rfl⟩ := r
    obtain ⟨tk', rfl⟩ := r'
    refine PySem.W.kat_cons (wpAny_eqBool_int ?_)
    by_cases e : x = y
    · have e1 : (x == y) = true := by rw [e]; exact beq_self_eq_true y
      rw [e1]
      refine PySem.W.kat_yes (lex_lt as bs _ _ (i + 1) t t' (c e) (fun z => absurd z (Nat.succ_ne_zero i)) ?_)
      have h' : R (if x = y then ltL fin as bs else decide (x < y)) s := h
      rw [if_pos e] at h'
      exact h'
    · have e1 : (x == y) = false := by rw [beq_eq_false_iff_ne]; exact e
      rw [e1]
      have h' : R (if x = y then ltL fin as bs else decide (x < y)) s := h
      rw [if_neg e] at h'
      have hi : i ≠ 0 := fun e0 => by
        obtain ⟨_, _, _, _, z1, _⟩ := z e0
        cases z1
      refine PySem.W.kat_no ?_
      rw [show (true && i == 0) = false by rw [Bool.true_and, beq_eq_false_iff_ne]; exact hi]
      exact PySem.W.kat_one _ _ (lt_int h')
  | .s x :: as, .s y :: bs, _, _, i, .cons r t, .cons r' t', c, z, h => by
    obtain ⟨tk, rfl⟩ := r
    obtain ⟨tk', rfl⟩ := r'
    refine PySem.W.kat_cons (wpAny_eqBool_str ?_)
    by_cases e : x = y
    · rw [decide_eq_true e]
      refine PySem.W.kat_yes (lex_lt as bs _ _ (i + 1) t t' (c e) (fun z => absurd z (Nat.succ_ne_zero i)) ?_)
      have h' : R (if x = y then ltL fin as bs else decide (x.cps.toList < y.cps.toList)) s := h
      rw [if_pos e] at h'
      exact h'
    · rw [decide_eq_false e]
      have h' : R (if x = y then ltL fin as bs else decide (x.cps.toList < y.cps.toList)) s := h
      rw [if_neg e] at h'
      refine PySem.W.kat_no ?_
      by_cases hi : i = 0
      · rw [show (true && i == 0) = true by rw [Bool.true_and, hi]; rfl]
        exact oneLt_str h'
      · rw [show (true && i == 0) = false by rw [Bool.true_and, beq_eq_false_iff_ne]; exact hi]
        exact PySem.W.kat_one _ _ (lt_str h')
  | .i x :: as, .s y :: bs, _, _, i, _, _, c, _, _ => c.elim
  | .s x :: as, .i y :: bs, _, _, i, _, _, c, _, _ => c.elim
def TupAt (h : Heap) (as : List Atm) (v : Value) : Prop := ∃ b o xs k, v = .ref b ∧ h.get? b = some o ∧ o.cls = .type "tuple" ∧ o.data = .seq xs k ∧ Atms as xs.toList
def FirstS (as : List Atm) : Prop := ∃ x as', as = .s x :: as'
theorem atms_len {as : List Atm} {us : List Value} (r : Atms as us) : as.length = us.length := Paired.length r
theorem tup_lt {as bs : List Atm} {x y : Value} (hx : TupAt s.heap as x) (hy : TupAt s.heap bs y) (fa : FirstS as) (fb : FirstS bs) (c : Cmp2 as bs) {R : Bool → Shared → Prop} (h : R (ltA as bs) s) : wpAny (model prog w) A (keyLt' (tuples' true) x y) R E s := by
  obtain ⟨b, o, xs, k, rfl, ho, _, hd, r⟩ := hx
  obtain ⟨b', o', ys, k', rfl, ho', _, hd', r'⟩ := hy
  refine PySem.W.kat_lt ho hd ho' hd' ?_
  have e1 : xs.size = as.length := by rw [atms_len r, Array.length_toList]
  have e2 : ys.size = bs.length := by rw [atms_len r', Array.length_toList]
  rw [e1, e2]
  refine lex_lt as bs _ _ 0 r r' c (fun _ => ?_) h
  obtain ⟨x, as', rfl⟩ := fa
  obtain ⟨y, bs', rfl⟩ := fb
  exact ⟨x, y, as', bs', rfl, rfl⟩
theorem tup_kind {vs : List Value} {ds : List (List Atm)} (hne : 0 < vs.length) (hv : Paired (TupAt s.heap) ds vs) (hf : ∀ d ∈ ds, FirstS d) {Q : SortKind → Shared → Prop} (h : Q (tuples' true) s) : wpAny (model prog w) A (keyKind' vs.toArray) Q E s := by
  have key : ∀ (vs : List Value) (ds : List (List Atm)), Paired (TupAt s.heap) ds vs → (∀ d ∈ ds, FirstS d) → ∃ fs, PySem.W.KatTups s.heap vs fs ∧ fs.length = vs.length ∧ ∀ f ∈ fs, ∃ x t, f = .str x t := by
    intro vs ds hv
    induction hv with
    | nil => intro _; exact ⟨[], trivial, rfl, fun _ z => nomatch z⟩
    | cons r t ih =>
      intro hf
      obtain ⟨fs, h1, h2, h3⟩ := ih fun x hx => hf x (.tail _ hx)
      obtain ⟨b, o, xs, k, rfl, ho, hc, hd, ra⟩ := r
      obtain ⟨x, as', rfl⟩ := hf _ (.head _)
      obtain ⟨xs⟩ := xs
      cases ra with
      | cons r1 t1 =>
        obtain ⟨tk, rfl⟩ := r1
        refine ⟨.str x tk :: fs, PySem.W.KatTups.cons ho hc hd rfl h1, by rw [List.length_cons, List.length_cons, h2], fun f hf => ?_⟩
        rcases List.mem_cons.mp hf with rfl | hf
        · exact ⟨_, _, rfl⟩
        · exact h3 f hf
  obtain ⟨fs, h1, h2, h3⟩ := key vs ds hv hf
  refine PySem.W.kat_kind (T := .type "str") h1 (by omega) (fun v hv' => ?_) rfl h
  obtain ⟨i, t, rfl⟩ := h3 v hv'
  exact .now
theorem tups_at {h : Heap} {ds : List (List Atm)} {vs : List Value} (p : Paired (TupAt h) ds vs) {i : Nat} (hi : i < vs.length) : TupAt h (ds.getD i []) (vs.getD i Value.none) := by
  induction p generalizing i with
  | nil => exact absurd hi (Nat.not_lt_zero _)
  | cons r t ih =>
    cases i with
    | zero => exact r
    | succ i => exact ih (by simpa using hi)
def placesOf (ds : List (List Atm)) : List Nat := if ds.length < 2 then List.range ds.length else (TRun (fun i j => ltA (ds.getD i []) (ds.getD j [])) (kas_sort ds.length)).toList
theorem places_ok (ds : List (List Atm)) : (placesOf ds).length = ds.length ∧ ∀ i ∈ placesOf ds, i < ds.length := by
  unfold placesOf
  split
  · exact ⟨List.length_range, fun i hi => List.mem_range.mp hi⟩
  · have g : GoodP ds.length (TRun (fun i j => ltA (ds.getD i []) (ds.getD j [])) (kas_sort ds.length)) := trun_ok _ (tok_sort (by omega))
    exact ⟨by rw [Array.length_toList]; exact g.1, g.2⟩
theorem sorted_tups {l : Addr} {vs : List Value} {ds : List (List Atm)} {o : Obj} {n : Nat} {Q : Value → Shared → Prop} (ho : s.heap.get? l = some o) (hc : o.cls = .type "list") (hd : o.data = .seq vs.toArray n) (hv : Paired (TupAt s.heap) ds vs) (hf : ∀ d ∈ ds, FirstS d) (hcm : ∀ d ∈ ds, ∀ e ∈ ds, Cmp2 d e) (h64 : vs.length < 64)
    (h : Q (.ref (s.heap.objs.size + 1)) { s with heap := sortedAll s.heap vs ((placesOf ds).map fun i => vs.getD i Value.none).toArray }) :
    wpAny (model prog w) A (call (.builtin "sorted") [.ref l]) Q E s := by
  have dl : ds.length = vs.length := Paired.length hv
  have mem : ∀ i, i < vs.length → ds.getD i [] ∈ ds := fun i hi => by
    rw [List.getD_eq_getElem?_getD, List.getElem?_eq_getElem (by omega)]
    exact List.getElem_mem _
  refine sorted_by (Ok := fun ps => ps = placesOf ds) ho hc hd h64 (fun h1 k1 h2 k2 more => ?_) (fun one => by unfold placesOf; rw [if_pos (by omega), dl]) fun ps _ pk => by rw [pk]; exact h
  have hv2 : Paired (TupAt h2) ds vs := paired_imp (fun d v ⟨b, o, xs, k, e, g, c, r, t⟩ => ⟨b, o, xs, k, e, k2 b o (Nat.ne_of_lt (Nat.lt_succ_of_lt (Heap.lt_size g))) (k1 b o g), c, r, t⟩) hv
  have good : GoodP vs.length (TRun (fun i j => ltA (ds.getD i []) (ds.getD j [])) (kas_sort vs.length)) := trun_ok _ (tok_sort (by omega))
  refine ⟨tuples' true, fun Q E q => tup_kind (s := { s with heap := h2 }) (by omega) hv2 hf q, fun G g => trun_run (n := vs.length) (C := GoodP vs.length) (o := fun i j => ltA (ds.getD i []) (ds.getD j [])) (fun i j R hi hj hR => ?_) _ (tok_sort (by omega)) (g _ good.1 ?_)⟩
  · exact tup_lt (s := { s with heap := h2 }) (tups_at hv2 hi) (tups_at hv2 hj) (hf _ (mem i hi)) (hf _ (mem j hj)) (hcm _ (mem i hi) _ (mem j hj)) hR
  · unfold placesOf
    rw [if_neg (by omega), dl]
end
def TupV (K : PySem.W.Frag) (H : Hp) (as : List Atm) (v : V) : Prop := ∃ b, v = .ref b ∧ SqT K H b (as.map Atm.v)
def rSortT (K : PySem.W.Frag) : List V → Hp → VK → Prop := fun xs H Q => ∃ p vs ds, xs = [.ref p] ∧ SqL K H p vs ∧ vs.length < 64 ∧ Paired (TupV K H) ds vs ∧ (∀ d ∈ ds, FirstS d) ∧ (∀ d ∈ ds, ∀ e ∈ ds, Cmp2 d e) ∧
  ∀ l, H l = none → Q (.ref l) (upd H l (.lst ((placesOf ds).map fun i => vs.getD i .non)))
theorem vals_places {xs : List V} {us : List Value} (r : Vals xs us) : ∀ ps : List Nat, (∀ i ∈ ps, i < us.length) → Vals (ps.map fun i => xs.getD i .non) (ps.map fun i => us.getD i Value.none)
  | [], _ => .nil
  | i :: ps, h => by
    refine .cons ?_ (vals_places r ps fun j hj => h j (.tail _ hj))
    have hi := h i (.head _)
    have hx : i < xs.length := by rw [r.length]; exact hi
    obtain ⟨u, hu, ru⟩ := Vals.get r (List.getElem?_eq_getElem hx)
    show RelV (xs.getD i .non) (us.getD i Value.none)
    rw [List.getD_eq_getElem?_getD, List.getD_eq_getElem?_getD, hu, List.getElem?_eq_getElem hx]
    exact ru
theorem atms_of : ∀ {as : List Atm} {us : List Value}, Vals (as.map Atm.v) us → Atms as us
  | [], _, .nil => .nil
  | _ :: _, _, .cons r t => .cons r (atms_of t)
theorem call_sortedT {X : Cx} : CallR X (.builtin "sorted") (rSortT X.K) := by
  intro pins s σ H xs us Q I r h
  obtain ⟨p, vs, ds, rfl, hq, h64, hp, hf, hcm, q⟩ := h
  obtain ⟨u, rfl, rx⟩ := vals1 r
  cases rx
  obtain ⟨its, r', pl, hz⟩ := I.list hq
  obtain ⟨o, ho, hc, n, hd⟩ := pl.isList
  have hl := r'.length
  have dl : ds.length = vs.length := Paired.length hp
  have hv : Paired (TupAt s.heap) ds its := by
    clear hq h64 hf hcm q hz hd hc ho pl
    induction hp generalizing its with
    | nil => cases r'; exact .nil
    | cons t1 t2 ih =>
      cases r' with
      | cons z1 z2 =>
        refine .cons ?_ (ih _ z2 z2.length (Paired.length t2))
        obtain ⟨b, rfl, sq⟩ := t1
        cases z1
        obtain ⟨jts, rj, ⟨oj, hoj, hcj, nj, hdj⟩, _⟩ := I.tuple sq
        exact ⟨b, oj, _, nj, rfl, hoj, hcj, hdj, atms_of (by simpa using rj)⟩
  obtain ⟨pl1, pl2⟩ := places_ok ds
  refine sorted_tups ho hc hd hv hf hcm (by omega) ?_
  obtain ⟨e, he⟩ := sortedAll_at s.heap its ((placesOf ds).map fun i => its.getD i Value.none).toArray
  refine ⟨.ref (s.heap.objs.size + 1), _, I.laid (t' := s.toks) (o := .lst ((placesOf ds).map fun i => vs.getD i .non)) (fun b o q => sortedAll_old q) (Nat.le_succ _) ⟨?_, (placesOf ds).map fun i => its.getD i Value.none, e, vals_places r' _ fun i hi => ?_, ?_⟩, rfl, q _ (I.hok.fresh (Nat.le_succ _))⟩
  · rw [List.length_map]; have := sizeLine_eq; omega
  · have := pl2 i hi; omega
  · rw [he]
theorem call_sortedTK {X : Cx} (K : PySem.W.Frag) (hK : X.K = K := by rfl) : CallR X (.builtin "sorted") (rSortT K) := by subst hK; exact call_sortedT
end L2
set_option Elab.async false
set_option linter.all false
set_option maxRecDepth 100000
set_option maxHeartbeats 1000000
namespace L2
open PySem PySem.Spec PyProof.Rows
section
variable {X : Cx}
theorem call_rangeV2 : CallR X (.type "range") (fun xs H Q => ∃ i j : Int, xs = [.int i, .int j] ∧ ∀ p, H p = none → Q (.ref p) (upd H p (.rng i j))) := by
  intro pins s σ H xs us Q I r h
  obtain ⟨i, j, rfl, q⟩ := h
  obtain ⟨u, w', rfl, ⟨t, rfl⟩, ⟨t', rfl⟩⟩ := vals2 r
  refine call_range_2 ?_
  exact ⟨.ref s.heap.objs.size, _, I.laid (o := .rng i j) (fun b u e => Heap.get?_push_of_some _ e) (Nat.le_refl _) (show ObjOk X.prog X.w _ _ _ (.rng i j) from ⟨_, _, _, Heap.get?_push_size _ rfl⟩), rfl, q _ (I.hok.fresh (Nat.le_refl _))⟩
theorem call_listR2 (hc : X.calm = true) : CallR X (.type "list") (fun xs H Q => ∃ (p : Addr) (lo j : Int), xs = [.ref p] ∧ H p = some (.rng lo j) ∧ 0 ≤ lo ∧ lo ≤ j ∧ j ≤ 1000 ∧ ∀ l, H l = none → Q (.ref l) (upd H l (.lst ((List.range (j - lo).toNat).map fun i : Nat => V.int (lo + (i : Int)))))) := by
  intro pins s σ H xs us Q I r h
  obtain ⟨p, lo, j, rfl, hp, h0, h01, h1, q⟩ := h
  obtain ⟨u, rfl, rx⟩ := vals1 r
  cases rx
  obtain ⟨t, u, v, hg⟩ := (show ObjOk X.prog X.w H s.heap p (.rng lo j) from I.hok p _ hp)
  have e : Builtin.Range.rangeSize lo j 1 = ((j - lo).toNat : Int) := by rw [rangeSize_one]; split <;> omega
  refine call_list_range (I.ok.hd hc) (n := (j - lo).toNat) hg (small_one (by omega) (by omega) (by omega) (by omega)) e (by omega) fun h' tk acc' c' hk hS hacc => ?_
  have hz : (j - lo).toNat ≤ sizeLine := Nat.le_trans (show (j - lo).toNat ≤ 1000 by omega) (by decide)
  refine ⟨.ref s.heap.objs.size, _, I.laid (o := .lst ((List.range (j - lo).toNat).map fun i : Nat => V.int (lo + (i : Int)))) hk (Nat.le_refl _) ?_, rfl, q _ (I.hok.fresh (Nat.le_refl _))⟩
  refine ⟨by rw [List.length_map, List.length_range]; exact hz, acc'.toList, c', vals_of_get (j - lo).toNat (fun i => lo + (i : Int)) acc'.toList (by rw [Array.length_toList]; exact hacc.1) fun i v hv => ?_, hS⟩
  obtain ⟨t, e⟩ := hacc.2 i v (by simpa using hv)
  refine ⟨t, ?_⟩
  rw [e]
  simp
end
end L2
set_option maxHeartbeats 4000000
set_option exponentiation.threshold 2000
namespace Bo
open PySem L2
local macro_rules | `(tactic| walk_at "pos") => `(tactic| (show (0 : Int) < _; first | assumption | omega | decide))
local macro_rules | `(tactic| walk_at "cmul") => `(tactic| first | exact .inl (.inl ⟨by decide, by decide⟩) | exact .inl (.inr ⟨by decide, by decide⟩))
local macro_rules | `(tactic| walk_at "go1") => `(tactic| first
  | refine ⟨_, rfl, ?_⟩
  | refine .inl ⟨_, _, rfl, rfl, (by walk_at "cmul"), ?_⟩
  | refine .inl ⟨_, _, rfl, rfl, ?_⟩
  | refine ⟨_, _, rfl, rfl, (by walk_at "pos"), ?_⟩
  | refine .inl ⟨rfl, ?_⟩
  | refine ⟨_, _, rfl, rfl, ?_⟩)
local macro_rules | `(tactic| walk_at "go") => `(tactic| repeat walk_at "go1")
def top (i : Nat) : Stmt := PySem.Challenge.pw_bores_k46_steps_of_records.main.body.getD i (.Pass ⟨0, 0, 0, 0⟩)
abbrev s_layers_of : Stmt := top 1
abbrev s_spots_of_bore : Stmt := top 2
abbrev s_block_ends : Stmt := top 3
abbrev s_is_bore : Stmt := top 5
abbrev s_bores_among : Stmt := top 6
abbrev s_spots_of : Stmt := top 7
abbrev s_steps_of : Stmt := top 8
abbrev s_all_numbers : Stmt := top 9
abbrev s_steps_of_some : Stmt := top 10
abbrev s_steps_of_record : Stmt := top 11
abbrev s_row_steps : Stmt := top 12
abbrev s_begin_of : Stmt := top 13
abbrev s_end_of : Stmt := top 14
abbrev s_begin_and_end : Stmt := top 15
abbrev s__law_draws : Stmt := top 17
abbrev s__law_names : Stmt := top 18
abbrev s__law_likes : Stmt := top 19
abbrev s__law_bore : Stmt := top 20
abbrev s__law_bores : Stmt := top 21
abbrev s__law_spots : Stmt := top 22
abbrev s__law_records : Stmt := top 23
abbrev s__law_lines : Stmt := top 24
abbrev s__law_same : Stmt := top 25
abbrev s_law : Stmt := top 26
set_option genInjectivity false in
set_option genSizeOf false in
structure Adr where
  a_layers_of : Addr
  d_layers_of : FuncData
  a_spots_of_bore : Addr
  d_spots_of_bore : FuncData
  a_block_ends : Addr
  d_block_ends : FuncData
  a_is_bore : Addr
  d_is_bore : FuncData
  a_bores_among : Addr
  d_bores_among : FuncData
  a_spots_of : Addr
  d_spots_of : FuncData
  a_steps_of : Addr
  d_steps_of : FuncData
  a_all_numbers : Addr
  d_all_numbers : FuncData
  a_steps_of_some : Addr
  d_steps_of_some : FuncData
  a_steps_of_record : Addr
  d_steps_of_record : FuncData
  a_row_steps : Addr
  d_row_steps : FuncData
  a_begin_of : Addr
  d_begin_of : FuncData
  a_end_of : Addr
  d_end_of : FuncData
  a_begin_and_end : Addr
  d_begin_and_end : FuncData
  a__law_draws : Addr
  d__law_draws : FuncData
  a__law_names : Addr
  d__law_names : FuncData
  a__law_likes : Addr
  d__law_likes : FuncData
  a__law_bore : Addr
  d__law_bore : FuncData
  a__law_bores : Addr
  d__law_bores : FuncData
  a__law_spots : Addr
  d__law_spots : FuncData
  a__law_records : Addr
  d__law_records : FuncData
  a__law_lines : Addr
  d__law_lines : FuncData
  a__law_same : Addr
  d__law_same : FuncData
  a_law : Addr
  d_law : FuncData
structure Txt (K : PySem.W.Frag) (mg : Str → Option Value) (t : Adr) : Prop where
  F_layers_of : Fun K "layers_of" "layers_of" s_layers_of t.a_layers_of t.d_layers_of
  B_layers_of : Binds K t.d_layers_of ["bore"] []
  G_layers_of : mg "layers_of" = some (.ref t.a_layers_of)
  F_spots_of_bore : Fun K "spots_of_bore" "spots_of_bore" s_spots_of_bore t.a_spots_of_bore t.d_spots_of_bore
  B_spots_of_bore : Binds K t.d_spots_of_bore ["bore"] []
  G_spots_of_bore : mg "spots_of_bore" = some (.ref t.a_spots_of_bore)
  F_block_ends : Fun K "block_ends" "block_ends" s_block_ends t.a_block_ends t.d_block_ends
  B_block_ends : Binds K t.d_block_ends ["bore"] []
  G_block_ends : mg "block_ends" = some (.ref t.a_block_ends)
  F_is_bore : Fun K "is_bore" "is_bore" s_is_bore t.a_is_bore t.d_is_bore
  B_is_bore : Binds K t.d_is_bore ["record"] []
  G_is_bore : mg "is_bore" = some (.ref t.a_is_bore)
  F_bores_among : Fun K "bores_among" "bores_among" s_bores_among t.a_bores_among t.d_bores_among
  B_bores_among : Binds K t.d_bores_among ["records"] []
  G_bores_among : mg "bores_among" = some (.ref t.a_bores_among)
  F_spots_of : Fun K "spots_of" "spots_of" s_spots_of t.a_spots_of t.d_spots_of
  B_spots_of : Binds K t.d_spots_of ["records"] []
  G_spots_of : mg "spots_of" = some (.ref t.a_spots_of)
  F_steps_of : Fun K "steps_of" "steps_of" s_steps_of t.a_steps_of t.d_steps_of
  B_steps_of : Binds K t.d_steps_of ["records"] []
  G_steps_of : mg "steps_of" = some (.ref t.a_steps_of)
  F_all_numbers : Fun K "all_numbers" "all_numbers" s_all_numbers t.a_all_numbers t.d_all_numbers
  B_all_numbers : Binds K t.d_all_numbers ["records"] []
  G_all_numbers : mg "all_numbers" = some (.ref t.a_all_numbers)
  F_steps_of_some : Fun K "steps_of_some" "steps_of_some" s_steps_of_some t.a_steps_of_some t.d_steps_of_some
  B_steps_of_some : Binds K t.d_steps_of_some ["records", "numbers"] []
  G_steps_of_some : mg "steps_of_some" = some (.ref t.a_steps_of_some)
  F_steps_of_record : Fun K "steps_of_record" "steps_of_record" s_steps_of_record t.a_steps_of_record t.d_steps_of_record
  B_steps_of_record : Binds K t.d_steps_of_record ["record", "number"] []
  G_steps_of_record : mg "steps_of_record" = some (.ref t.a_steps_of_record)
  F_row_steps : Fun K "row_steps" "row_steps" s_row_steps t.a_row_steps t.d_row_steps
  B_row_steps : Binds K t.d_row_steps ["bore"] []
  G_row_steps : mg "row_steps" = some (.ref t.a_row_steps)
  F_begin_of : Fun K "begin_of" "begin_of" s_begin_of t.a_begin_of t.d_begin_of
  B_begin_of : Binds K t.d_begin_of ["records", "step"] []
  G_begin_of : mg "begin_of" = some (.ref t.a_begin_of)
  F_end_of : Fun K "end_of" "end_of" s_end_of t.a_end_of t.d_end_of
  B_end_of : Binds K t.d_end_of ["records", "step"] []
  G_end_of : mg "end_of" = some (.ref t.a_end_of)
  F_begin_and_end : Fun K "begin_and_end" "begin_and_end" s_begin_and_end t.a_begin_and_end t.d_begin_and_end
  B_begin_and_end : Binds K t.d_begin_and_end ["records", "step"] []
  G_begin_and_end : mg "begin_and_end" = some (.ref t.a_begin_and_end)
  F__law_draws : Fun K "_law_draws" "_law_draws" s__law_draws t.a__law_draws t.d__law_draws
  B__law_draws : Binds K t.d__law_draws ["_law_script", "_law_k", "_law_sizes"] []
  G__law_draws : mg "_law_draws" = some (.ref t.a__law_draws)
  F__law_names : Fun K "_law_names" "_law_names" s__law_names t.a__law_names t.d__law_names
  B__law_names : Binds K t.d__law_names ["_law_script", "_law_k", "_law_many"] []
  G__law_names : mg "_law_names" = some (.ref t.a__law_names)
  F__law_likes : Fun K "_law_likes" "_law_likes" s__law_likes t.a__law_likes t.d__law_likes
  B__law_likes : Binds K t.d__law_likes ["_law_script", "_law_k", "_law_marks"] []
  G__law_likes : mg "_law_likes" = some (.ref t.a__law_likes)
  F__law_bore : Fun K "_law_bore" "_law_bore" s__law_bore t.a__law_bore t.d__law_bore
  B__law_bore : Binds K t.d__law_bore ["_law_script", "_law_k", "_law_name", "_law_place", "_law_marks"] []
  G__law_bore : mg "_law_bore" = some (.ref t.a__law_bore)
  F__law_bores : Fun K "_law_bores" "_law_bores" s__law_bores t.a__law_bores t.d__law_bores
  B__law_bores : Binds K t.d__law_bores ["_law_script", "_law_most"] []
  G__law_bores : mg "_law_bores" = some (.ref t.a__law_bores)
  F__law_spots : Fun K "_law_spots" "_law_spots" s__law_spots t.a__law_spots t.d__law_spots
  B__law_spots : Binds K t.d__law_spots ["_law_records_here"] []
  G__law_spots : mg "_law_spots" = some (.ref t.a__law_spots)
  F__law_records : Fun K "_law_records" "_law_records" s__law_records t.a__law_records t.d__law_records
  B__law_records : Binds K t.d__law_records ["_law_script"] []
  G__law_records : mg "_law_records" = some (.ref t.a__law_records)
  F__law_lines : Fun K "_law_lines" "_law_lines" s__law_lines t.a__law_lines t.d__law_lines
  B__law_lines : Binds K t.d__law_lines ["_law_records_here"] []
  G__law_lines : mg "_law_lines" = some (.ref t.a__law_lines)
  F__law_same : Fun K "_law_same" "_law_same" s__law_same t.a__law_same t.d__law_same
  B__law_same : Binds K t.d__law_same ["_law_found", "_law_due"] []
  G__law_same : mg "_law_same" = some (.ref t.a__law_same)
  F_law : Fun K "law" "law" s_law t.a_law t.d_law
  B_law : Binds K t.d_law ["_law_script"] []
  G_law : mg "law" = some (.ref t.a_law)
  N_list : mg "list" = none
  N_range : mg "range" = none
  N_tuple : mg "tuple" = none
  N_isinstance : mg "isinstance" = none
  N_int : mg "int" = none
  N_len : mg "len" = none
  N_sum : mg "sum" = none
  N_all : mg "all" = none
  N_bool : mg "bool" = none
  N_sorted : mg "sorted" = none
  N_zip : mg "zip" = none
theorem sc_layers_of : FnScope ["bore", "layers", "block"] ["bore"] (defScope s_layers_of) := ⟨rfl, rfl, rfl, by decide +kernel, rfl, by decide +kernel, by decide +kernel⟩
theorem sc_spots_of_bore : FnScope ["bore"] ["bore"] (defScope s_spots_of_bore) := ⟨rfl, rfl, rfl, by decide +kernel, rfl, by decide +kernel, by decide +kernel⟩
theorem sc_block_ends : FnScope ["bore", "ends", "count", "block"] ["bore"] (defScope s_block_ends) := ⟨rfl, rfl, rfl, by decide +kernel, rfl, by decide +kernel, by decide +kernel⟩
theorem sc_is_bore : FnScope ["record"] ["record"] (defScope s_is_bore) := ⟨rfl, rfl, rfl, by decide +kernel, rfl, by decide +kernel, by decide +kernel⟩
theorem sc_bores_among : FnScope ["records"] ["records"] (defScope s_bores_among) := ⟨rfl, rfl, rfl, by decide +kernel, rfl, by decide +kernel, by decide +kernel⟩
theorem sc_spots_of : FnScope ["records", "spots", "bore"] ["records"] (defScope s_spots_of) := ⟨rfl, rfl, rfl, by decide +kernel, rfl, by decide +kernel, by decide +kernel⟩
theorem sc_steps_of : FnScope ["records"] ["records"] (defScope s_steps_of) := ⟨rfl, rfl, rfl, by decide +kernel, rfl, by decide +kernel, by decide +kernel⟩
theorem sc_all_numbers : FnScope ["records"] ["records"] (defScope s_all_numbers) := ⟨rfl, rfl, rfl, by decide +kernel, rfl, by decide +kernel, by decide +kernel⟩
theorem sc_steps_of_some : FnScope ["records", "numbers", "steps", "number"] ["records", "numbers"] (defScope s_steps_of_some) := ⟨rfl, rfl, rfl, by decide +kernel, rfl, by decide +kernel, by decide +kernel⟩
theorem sc_steps_of_record : FnScope ["record", "number"] ["record", "number"] (defScope s_steps_of_record) := ⟨rfl, rfl, rfl, by decide +kernel, rfl, by decide +kernel, by decide +kernel⟩
theorem sc_row_steps : FnScope ["bore", "ends"] ["bore"] (defScope s_row_steps) := ⟨rfl, rfl, rfl, by decide +kernel, rfl, by decide +kernel, by decide +kernel⟩
theorem sc_begin_of : FnScope ["records", "step"] ["records", "step"] (defScope s_begin_of) := ⟨rfl, rfl, rfl, by decide +kernel, rfl, by decide +kernel, by decide +kernel⟩
theorem sc_end_of : FnScope ["records", "step"] ["records", "step"] (defScope s_end_of) := ⟨rfl, rfl, rfl, by decide +kernel, rfl, by decide +kernel, by decide +kernel⟩
theorem sc_begin_and_end : FnScope ["records", "step", "saying"] ["records", "step"] (defScope s_begin_and_end) := ⟨rfl, rfl, rfl, by decide +kernel, rfl, by decide +kernel, by decide +kernel⟩
theorem sc__law_draws : FnScope ["_law_script", "_law_k", "_law_sizes", "_law_cell", "_law_found", "_law_size", "_law_number"] ["_law_script", "_law_k", "_law_sizes"] (defScope s__law_draws) := ⟨rfl, rfl, rfl, by decide +kernel, rfl, by decide +kernel, by decide +kernel⟩
theorem sc__law_names : FnScope ["_law_script", "_law_k", "_law_many", "_law_letters", "_law_draws_here", "_law_words", "_law_names_here", "_law_j", "_law_part", "_law_name"] ["_law_script", "_law_k", "_law_many"] (defScope s__law_names) := ⟨rfl, rfl, rfl, by decide +kernel, rfl, by decide +kernel, by decide +kernel⟩
theorem sc__law_likes : FnScope ["_law_script", "_law_k", "_law_marks", "_law_pairs", "_law_one", "_law_draws_here", "_law_likes_here", "_law_j", "_law_other"] ["_law_script", "_law_k", "_law_marks"] (defScope s__law_likes) := ⟨rfl, rfl, rfl, by decide +kernel, rfl, by decide +kernel, by decide +kernel⟩
theorem sc__law_bore : FnScope ["_law_script", "_law_k", "_law_name", "_law_place", "_law_marks", "_law_far", "_law_draws_here", "_law_blocks", "_law_block", "_law_j"] ["_law_script", "_law_k", "_law_name", "_law_place", "_law_marks"] (defScope s__law_bore) := ⟨rfl, rfl, rfl, by decide +kernel, rfl, by decide +kernel, by decide +kernel⟩
theorem sc__law_bores : FnScope ["_law_script", "_law_most", "_law_draws_here", "_law_names_here", "_law_marks", "_law_holes", "_law_places", "_law_k", "_law_place"] ["_law_script", "_law_most"] (defScope s__law_bores) := ⟨rfl, rfl, rfl, by decide +kernel, rfl, by decide +kernel, by decide +kernel⟩
theorem sc__law_spots : FnScope ["_law_records_here", "_law_found", "_law_record", "_law_many"] ["_law_records_here"] (defScope s__law_spots) := ⟨rfl, rfl, rfl, by decide +kernel, rfl, by decide +kernel, by decide +kernel⟩
theorem sc__law_records : FnScope ["_law_script", "_law_records_here", "_law_spots_here", "_law_draws_here", "_law_k", "_law_kind", "_law_one", "_law_two", "_law_at", "_law_word", "_law_first", "_law_second"] ["_law_script"] (defScope s__law_records) := ⟨rfl, rfl, rfl, by decide +kernel, rfl, by decide +kernel, by decide +kernel⟩
theorem sc__law_lines : FnScope ["_law_records_here", "_law_lines_here", "_law_k", "_law_record", "_law_number", "_law_block", "_law_j", "_law_here"] ["_law_records_here"] (defScope s__law_lines) := ⟨rfl, rfl, rfl, by decide +kernel, rfl, by decide +kernel, by decide +kernel⟩
theorem sc__law_same : FnScope ["_law_found", "_law_due"] ["_law_found", "_law_due"] (defScope s__law_same) := ⟨rfl, rfl, rfl, by decide +kernel, rfl, by decide +kernel, by decide +kernel⟩
theorem sc_law : FnScope ["_law_script", "_law_records_here", "_law_lines_here", "_law_handed", "_law_told", "_law_shown", "_law_begin", "_law_end", "_law_hard", "_law_step"] ["_law_script"] (defScope s_law) := ⟨rfl, rfl, rfl, by decide +kernel, rfl, by decide +kernel, by decide +kernel⟩
def Scr (K : PySem.W.Frag) (H : Hp) (a : Addr) (ns : List Int) : Prop := ns.length ≤ 63 ∧ ((∃ o, H a = some (.frz o (.lst (ns.map V.int)))) ∨
  ∃ (o : Obj) (its : Array Value) (n : Nat), K.lookup a = some o ∧ o.cls = .type "list" ∧ o.dict = none ∧ o.data = .seq its n ∧ its.size ≤ sizeLine ∧ Vals (ns.map V.int) its.toList)
theorem Scr.sq {K : PySem.W.Frag} {H : Hp} {a : Addr} {ns : List Int} (h : Scr K H a ns) : SqL K H a (ns.map V.int) := by
  rcases h.2 with ⟨o, h⟩ | h
  · exact .inl (.inr ⟨o, h⟩)
  · exact .inr h
def But (f : Addr) (H H' : Hp) : Prop := ∀ b o, H b = some o → b ≠ f → H' b = some o
theorem But.refl (f : Addr) (H : Hp) : But f H H := fun _ _ e _ => e
theorem But.trans {f : Addr} {H H1 H2 : Hp} (a : But f H H1) (b : But f H1 H2) : But f H H2 := fun c o e n => b c o (a c o e n) n
theorem But.upd {f : Addr} {H : Hp} {o : HO} : But f H (upd H f o) := fun b o' e n => by rw [upd_ne n]; exact e
theorem Same.new {H : Hp} {p : Addr} {o : HO} (h : H p = none) : Same H (upd H p o) := fun b o' e => by rw [upd_ne (ne_of_none e h)]; exact e
theorem But.keepT {K : PySem.W.Frag} {f : Addr} {H H' : Hp} {xs : List V} (a : But f H H') (hf : H f = some (.lst xs)) : KeepT K H H' := fun c ys h => by
  rcases h with (h | ⟨o, h⟩) | h
  · exact .inl (.inl (a c _ h (ne_of h hf (by intro z; cases z))))
  · exact .inl (.inr ⟨o, a c _ h (ne_of h hf (by intro z; cases z))⟩)
  · exact .inr h
theorem Scr.but {K : PySem.W.Frag} {f a : Addr} {H H' : Hp} {xs : List V} {ns : List Int} (h : Scr K H a ns) (b : But f H H') (hf : H f = some (.lst xs)) : Scr K H' a ns := by
  refine ⟨h.1, ?_⟩
  rcases h.2 with ⟨o, h⟩ | h
  · exact .inl ⟨o, b a _ h (ne_of h hf (by intro z; cases z))⟩
  · exact .inr h
theorem Scr.same {K : PySem.W.Frag} {a : Addr} {H H' : Hp} {ns : List Int} (h : Scr K H a ns) (b : Same H H') : Scr K H' a ns := by
  refine ⟨h.1, ?_⟩
  rcases h.2 with ⟨o, h⟩ | h
  · exact .inl ⟨o, b a _ h⟩
  · exact .inr h
theorem ints_atI {ns : List Int} {r : Int} (h0 : 0 ≤ r) (h1 : r < ns.length) : ∃ z, atI (ns.map V.int) r = some (.int z) := by
  obtain ⟨j, rfl⟩ : ∃ j : Nat, r = j := ⟨r.toNat, by omega⟩
  have hj : j < ns.length := by omega
  exact ⟨ns[j], atI_nat (by rw [List.getElem?_map, List.getElem?_eq_getElem hj]; rfl)⟩
theorem atI_mem {α : Type} {xs : List α} {r : Int} (h0 : 0 ≤ r) (h1 : r < xs.length) : ∃ v, v ∈ xs ∧ atI xs r = some v := by
  obtain ⟨j, rfl⟩ : ∃ j : Nat, r = j := ⟨r.toNat, by omega⟩
  have hj : j < xs.length := by omega
  exact ⟨xs[j], List.getElem_mem hj, atI_nat (List.getElem?_eq_getElem hj)⟩
def spDraws (K : PySem.W.Frag) : Sp := fun vs H Q _ => ∃ (a q : Addr) (ns zs : List Int) (k : Int), vs = [.ref a, .int k, .ref q] ∧ Scr K H a ns ∧ 0 ≤ k ∧ k ≤ 1000 ∧ H q = some (.lst (zs.map V.int)) ∧ (∀ z ∈ zs, 0 < z ∧ z < 2 ^ 1000) ∧ zs.length ≤ 1000 ∧
  ∀ (p : Addr) (rs : List Int) (H' : Hp), H p = none → H' p = some (.lst (rs.map V.int)) → rs.length = zs.length → (∀ (i : Nat) (r z : Int), rs[i]? = some r → zs[i]? = some z → 0 ≤ r ∧ r < z) → Same H H' → Q (.ref p) H'
theorem drawn_put {rs zs : List Int} {i : Nat} {r z : Int} (h : ∀ (i : Nat) (r z : Int), rs[i]? = some r → zs[i]? = some z → 0 ≤ r ∧ r < z) (hl : rs.length = i) (hz : zs[i]? = some z) (h0 : 0 ≤ r) (h1 : r < z) :
    ∀ (i : Nat) (r' z : Int), (rs ++ [r])[i]? = some r' → zs[i]? = some z → 0 ≤ r' ∧ r' < z := by
  intro j r' z' hj hz'
  by_cases e : j < rs.length
  · rw [List.getElem?_append_left e] at hj
    exact h j r' z' hj hz'
  · have hj2 := (List.getElem?_eq_some_iff.mp hj).1
    rw [List.length_append] at hj2
    have hj3 : j < rs.length + 1 := hj2
    have e2 : j = i := by omega
    subst e2
    rw [List.getElem?_append_right (by omega), show j - rs.length = 0 by omega] at hj
    have e3 : r = r' := Option.some.inj hj
    rw [hz] at hz'
    cases hz'
    rw [← e3]
    exact ⟨h0, h1⟩
section
variable {P : Program} {w : World} {K : PySem.W.Frag} {mg : Str → Option Value} {base : Heap} {t : Adr}
theorem ok__law_draws (T : Txt K mg t) : FnOk P w K mg base CX0 1 t.a__law_draws t.d__law_draws ["_law_script", "_law_k", "_law_sizes"] (spDraws K) := by
  refine T.F__law_draws.ok sc__law_draws (fun vs H Q E h => ?_) (fun cdv A outer s H vs Q E hr h => ?_)
  · obtain ⟨a, q, ns, zs, k, rfl, _⟩ := h; rfl
  · obtain ⟨a, q, ns, zs, k, rfl, hs, hk0, hk1, hq, hz, hzl, qq⟩ := h
    let X_ : Cx := (cxOf CX0 P w K mg base ["_law_script", "_law_k", "_law_sizes", "_law_cell", "_law_found", "_law_size", "_law_number"] "_law_draws" (defScope s__law_draws) t.a__law_draws cdv A outer s H E).nox
    let u1_ : PSV (X_) (List.drop 3 (bodyOf (stAt (defBody s__law_draws) 4))) := ⟨_, (pss_one (ps_expr (pe_bmK K PySem.F.plainAttrs_list PySem.F.slot_list_append PySem.F.type_list_append mt_append (pv 4) (pa_cons (pe_ifExp (pt_cmpR op_ltG (pv 5) pe_int (nomark _)) (pe_op op_mod (pv 6) (pv 5)) (pe_op op_mod (pe_op (op_mulU K) (pe_op (op_mulU K) (pv 6) (pv 6)) (pv 6)) (pv 5))) pa_nil))))⟩
    let w1_ : TS := u1_.1
    have e1_ : PSs (X_) (List.drop 3 (bodyOf (stAt (defBody s__law_draws) 4))) w1_ := u1_.2
    let u2_ : PSV (X_) (List.drop 2 (bodyOf (stAt (defBody s__law_draws) 4))) := ⟨_, (pss_cons (ps_set (i := 6) sc__law_draws.nd rfl (Or.inl rfl) (pe_op op_mod (pe_op (op_addU K) (pe_op (op_addU K) (pe_op (op_mulU K) (pv 6) (pv 6)) (pe_op (op_mulU K) pe_int (pv 6))) (pe_callB (call_lenK K) rfl T.N_len bt_len (pa_cons (pv 4) pa_nil))) pe_int))
      e1_)⟩
    let w2_ : TS := u2_.1
    have e2_ : PSs (X_) (List.drop 2 (bodyOf (stAt (defBody s__law_draws) 4))) w2_ := u2_.2
    let u3_ : PSV (X_) (List.drop 1 (bodyOf (stAt (defBody s__law_draws) 4))) := ⟨_, (pss_cons (ps_set (i := 6) sc__law_draws.nd rfl (Or.inl rfl) (pe_op op_mod (pe_op (op_addU K) (pe_op (op_addU K) (pe_op (op_mulU K) (pv 6) (pv 6)) (pe_op (op_mulU K) pe_int (pv 6))) (pv 1)) pe_int))
      e2_)⟩
    let w3_ : TS := u3_.1
    have e3_ : PSs (X_) (List.drop 1 (bodyOf (stAt (defBody s__law_draws) 4))) w3_ := u3_.2
    let u4_ : PSV (X_) (List.drop 5 (defBody s__law_draws)) := ⟨_, (pss_one (ps_ret (pv 4)))⟩
    let w4_ : TS := u4_.1
    have e4_ : PSs (X_) (List.drop 5 (defBody s__law_draws)) w4_ := u4_.2
    let u5_ : PSV (X_) (List.drop 1 (bodyOf (stAt (bodyOf (stAt (defBody s__law_draws) 3)) 1))) := ⟨_, (pss_one (ps_set (i := 3) sc__law_draws.nd rfl (Or.inl rfl) (pe_op op_fdivB (pv 3) (pv 5))))⟩
    let w5_ : TS := u5_.1
    have e5_ : PSs (X_) (List.drop 1 (bodyOf (stAt (bodyOf (stAt (defBody s__law_draws) 3)) 1))) w5_ := u5_.2
    let u6_ : PSV (X_) (List.drop 2 (bodyOf (stAt (defBody s__law_draws) 3))) := ⟨_, (pss_one (ps_ret (pv 4)))⟩
    let w6_ : TS := u6_.1
    have e6_ : PSs (X_) (List.drop 2 (bodyOf (stAt (defBody s__law_draws) 3))) w6_ := u6_.2
    let u7_ : PSV (X_) (List.drop 1 (bodyOf (stAt (defBody s__law_draws) 3))) := ⟨_, (pss_cons (ps_for PassesOwn.never rfl (pi_seqK K (pv 2)) (pg_name (i := 5) sc__law_draws.nd rfl (Or.inl rfl))
      (pss_cons (ps_expr (pe_bmK K PySem.F.plainAttrs_list PySem.F.slot_list_append PySem.F.type_list_append mt_append (pv 4) (pa_cons (pe_op op_mod (pv 3) (pv 5)) pa_nil)))
      e5_))
      e6_)⟩
    let w7_ : TS := u7_.1
    have e7_ : PSs (X_) (List.drop 1 (bodyOf (stAt (defBody s__law_draws) 3))) w7_ := u7_.2
    let u8_ : PSV (X_) (List.drop 4 (defBody s__law_draws)) := ⟨_, (pss_cons (ps_for PassesOwn.never rfl (pi_seqK K (pv 2)) (pg_name (i := 5) sc__law_draws.nd rfl (Or.inl rfl))
      (pss_cons (ps_set (i := 6) sc__law_draws.nd rfl (Or.inl rfl) (pe_op op_mod (pe_op (op_addU K) (pe_op (op_addU K) (pv 3) (pe_op (op_mulU K) pe_int (pv 1))) (pe_op (op_mulU K) pe_int (pe_callB (call_lenK K) rfl T.N_len bt_len (pa_cons (pv 4) pa_nil)))) pe_int))
      e3_))
      e4_)⟩
    let w8_ : TS := u8_.1
    have e8_ : PSs (X_) (List.drop 4 (defBody s__law_draws)) w8_ := u8_.2
    let u9_ : PSV (X_) (List.drop 3 (defBody s__law_draws)) := ⟨_, (pss_cons (ps_if (pt_cmpR (op_eqK K hr.units) (pe_op op_mod (pv 3) pe_int) pe_int (nomark _)) (pss_cons (ps_set (i := 3) sc__law_draws.nd rfl (Or.inl rfl) (pe_op op_fdivB (pv 3) pe_int))
      e7_) pss_nil)
      e8_)⟩
    let w9_ : TS := u9_.1
    have e9_ : PSs (X_) (List.drop 3 (defBody s__law_draws)) w9_ := u9_.2
    let u10_ : PSV (X_) (List.drop 2 (defBody s__law_draws)) := ⟨_, (pss_cons (ps_set (i := 4) sc__law_draws.nd rfl (Or.inl rfl) (pe_lst pa_nil))
      e9_)⟩
    let w10_ : TS := u10_.1
    have e10_ : PSs (X_) (List.drop 2 (defBody s__law_draws)) w10_ := u10_.2
    let u11_ : PSV (X_) (List.drop 1 (defBody s__law_draws)) := ⟨_, (pss_cons (ps_mid (ps_if (pt_cmpR op_gtG (pe_callB (call_lenK K) rfl T.N_len bt_len (pa_cons (pv 0) pa_nil)) pe_int (nomark _)) (pss_one (ps_set (i := 3) sc__law_draws.nd rfl (Or.inl rfl) (pe_ix (ix_K K) (pv 0) (pe_op op_mod (pv 1) (pe_callB (call_lenK K) rfl T.N_len bt_len (pa_cons (pv 0) pa_nil))) (fun _ _ => rfl)))) pss_nil))
      e10_)⟩
    let w11_ : TS := u11_.1
    have e11_ : PSs (X_) (List.drop 1 (defBody s__law_draws)) w11_ := u11_.2
    refine ⟨_, (pss_cons (ps_set (i := 3) sc__law_draws.nd rfl (Or.inl rfl) pe_int)
      e11_), ?_⟩
    let M1_ : St → Hp → Prop := fun σ H' => ∃ c : Int, σ = [some (.ref a), some (.int k), some (.ref q), some (.int c), none, none, none] ∧ H' = H
    refine ⟨M1_, ?_, ?_⟩
    · refine ⟨_, rfl, _, _, rfl, .inl ⟨_, hs.sq, rfl⟩, _, _, rfl, rfl, _, rfl, ite2 (fun hc => ?_) (fun _ => ?_)⟩
      · have hl : (0 : Int) < ((ns.map V.int).length : Nat) := of_decide_eq_true hc
        refine ⟨_, rfl, _, rfl, _, rfl, _, _, rfl, .inl ⟨_, hs.sq, rfl⟩, _, _, rfl, rfl, hl, ?_⟩
        obtain ⟨z, hz⟩ := ints_atI (ns := ns) (r := k % ((ns.map V.int).length : Nat)) (Int.emod_nonneg _ (by omega)) (by rw [List.length_map] at hl ⊢; exact Int.emod_lt_of_pos _ hl)
        exact .inl ⟨a, _, _, _, rfl, rfl, hs.sq, hz, z, rfl, rfl⟩
      · exact ⟨0, rfl, rfl⟩
    · rintro σ H' ⟨c, rfl, rfl⟩
      refine ⟨Nat.zero_le _, fun p hp => ?_⟩
      have s1 : Same H' (upd H' p (.lst [])) := Same.new hp
      have hp1 : (upd H' p (.lst [])) p = some (.lst []) := upd_same
      have hq1 := s1 _ _ hq
      have pq : q ≠ p := ne_of_none hq hp
      generalize upd H' p (.lst []) = H1 at s1 hp1 hq1
      have zl : (zs.map V.int).length = zs.length := List.length_map ..
      refine ⟨_, rfl, _, _, rfl, rfl, (by show (0 : Int) < 2; decide), .inl ⟨rfl, _, rfl, ite2 (fun hc => ?_) (fun hc => ?_)⟩⟩
      · refine ⟨_, rfl, _, _, rfl, rfl, ⟨by decide, by decide⟩, ?_⟩
        refine ⟨_, rfl, Itl K q, .lst (SqL.of hq1), for_list (xs := zs.map V.int) (fun i σ H2 => ∃ (c : Int) (rs : List Int) (o5 : Option V), σ = [some (.ref a), some (.int k), some (.ref q), some (.int c), some (.ref p), o5, none] ∧ H2 p = some (.lst (rs.map V.int)) ∧ H2 q = some (.lst (zs.map V.int)) ∧ rs.length = i ∧
            (∀ (i : Nat) (r z : Int), rs[i]? = some r → zs[i]? = some z → 0 ≤ r ∧ r < z) ∧ Same H' H2)
          ⟨_, [], none, rfl, hp1, hq1, rfl, fun i r z e => absurd e (by simp), s1⟩ (fun i σ H2 _ h => by obtain ⟨_, _, _, _, _, e, _, _, _⟩ := h; exact SqL.of e) ?_ ?_⟩
        · rintro i v σ H2 hv ⟨c, rs, o5, rfl, hp2, hq2, hl, hr2, s2⟩
          obtain ⟨z, hzi, rfl⟩ : ∃ z, zs[i]? = some z ∧ v = .int z := by
            rw [List.getElem?_map] at hv
            cases e : zs[i]? with
            | none => rw [e] at hv; cases hv
            | some z => rw [e] at hv; exact ⟨z, rfl, (Option.some.inj hv).symm⟩
          obtain ⟨z0, z1⟩ := hz z (List.mem_of_getElem? hzi)
          have hil := (List.getElem?_eq_some_iff.mp hzi).1
          refine ⟨_, rfl, .inl ⟨rfl, _, SqL.of hp2⟩, _, rfl, _, rfl, _, _, rfl, rfl, z0, p, _, _, rfl, rfl, hp2, by rw [List.length_map]; exact small1000 (by omega), ?_⟩
          refine ⟨_, rfl, _, rfl, _, _, rfl, rfl, ⟨z0, z1⟩, ?_⟩
          refine ⟨_, rs ++ [c % z], _, rfl, by rw [upd_same, List.map_append]; rfl, by rw [upd_ne pq]; exact hq2, by rw [List.length_append, hl]; rfl, drawn_put hr2 hl hzi (Int.emod_nonneg _ (by omega)) (Int.emod_lt_of_pos _ z0), fun b o e => by rw [upd_ne (ne_of_none e hp)]; exact s2 b o e⟩
        · rintro σ H2 ⟨c, rs, o5, rfl, hp2, hq2, hl, hr2, s2⟩
          exact ⟨_, rfl, qq p rs H2 hp hp2 (hl.trans zl) hr2 s2⟩
      · refine ⟨_, rfl, Itl K q, .lst (SqL.of hq1), for_list (xs := zs.map V.int) (fun i σ H2 => ∃ (rs : List Int) (o5 o6 : Option V), σ = [some (.ref a), some (.int k), some (.ref q), some (.int c), some (.ref p), o5, o6] ∧ H2 p = some (.lst (rs.map V.int)) ∧ H2 q = some (.lst (zs.map V.int)) ∧ rs.length = i ∧
            (∀ (i : Nat) (r z : Int), rs[i]? = some r → zs[i]? = some z → 0 ≤ r ∧ r < z) ∧ Same H' H2)
          ⟨[], none, none, rfl, hp1, hq1, rfl, fun i r z e => absurd e (by simp), s1⟩ (fun i σ H2 _ h => by obtain ⟨_, _, _, _, _, e, _, _, _⟩ := h; exact SqL.of e) ?_ ?_⟩
        · rintro i v σ H2 hv ⟨rs, o5, o6, rfl, hp2, hq2, hl, hr2, s2⟩
          obtain ⟨z, hzi, rfl⟩ : ∃ z, zs[i]? = some z ∧ v = .int z := by
            rw [List.getElem?_map] at hv
            cases e : zs[i]? with
            | none => rw [e] at hv; cases hv
            | some z => rw [e] at hv; exact ⟨z, rfl, (Option.some.inj hv).symm⟩
          obtain ⟨z0, z1⟩ := hz z (List.mem_of_getElem? hzi)
          have hil := (List.getElem?_eq_some_iff.mp hzi).1
          have sm : ∀ x m : Int, 0 < m → m ≤ 2147483629 → (-(2 ^ 64) < x % m ∧ x % m < 2 ^ 64) := fun x m h1 h2 => by
            have e1 : (2147483629 : Int) < 2 ^ 64 := by decide
            have e2 := Int.emod_nonneg x (show m ≠ 0 by omega)
            have e3 := Int.emod_lt_of_pos x h1
            constructor <;> omega
          refine ⟨_, rfl, _, rfl, .inl ⟨_, _, rfl, rfl, .inl (.inl ⟨by decide, by decide⟩), .inl ⟨_, _, rfl, rfl, ?_⟩⟩⟩
          refine ⟨_, rfl, _, _, rfl, .inl ⟨_, SqL.of hp2, rfl⟩, .inl ⟨_, _, rfl, rfl, .inl (.inl ⟨by decide, by decide⟩), .inl ⟨_, _, rfl, rfl, _, _, rfl, rfl, (by show (0 : Int) < _; decide), ?_⟩⟩⟩
          refine ⟨_, rfl, _, rfl, .inl ⟨_, _, rfl, rfl, .inl (.inl (sm _ _ (by decide) (by decide))), ?_⟩⟩
          refine ⟨_, rfl, .inl ⟨_, _, rfl, rfl, .inl (.inl ⟨by decide, by decide⟩), .inl ⟨_, _, rfl, rfl, _, rfl, .inl ⟨_, _, rfl, rfl, _, _, rfl, rfl, (by show (0 : Int) < _; decide), ?_⟩⟩⟩⟩
          refine ⟨_, rfl, _, rfl, .inl ⟨_, _, rfl, rfl, .inl (.inl (sm _ _ (by decide) (by decide))), ?_⟩⟩
          refine ⟨_, rfl, .inl ⟨_, _, rfl, rfl, .inl (.inl ⟨by decide, by decide⟩), .inl ⟨_, _, rfl, rfl, _, rfl, _, _, rfl, .inl ⟨_, SqL.of hp2, rfl⟩, .inl ⟨_, _, rfl, rfl, _, _, rfl, rfl, (by show (0 : Int) < _; decide), ?_⟩⟩⟩⟩
          have fin : ∀ x : Int, (upd H2 p (.lst (rs.map V.int ++ [.int (x % z)]))) p = some (.lst ((rs ++ [x % z]).map V.int)) ∧ (upd H2 p (.lst (rs.map V.int ++ [.int (x % z)]))) q = some (.lst (zs.map V.int)) ∧ (rs ++ [x % z]).length = i + 1 ∧
              (∀ (i : Nat) (r' z' : Int), (rs ++ [x % z])[i]? = some r' → zs[i]? = some z' → 0 ≤ r' ∧ r' < z') ∧ Same H' (upd H2 p (.lst (rs.map V.int ++ [.int (x % z)]))) := fun x =>
            ⟨by rw [upd_same, List.map_append]; rfl, by rw [upd_ne pq]; exact hq2, by rw [List.length_append, hl]; rfl, drawn_put hr2 hl hzi (Int.emod_nonneg _ (by omega)) (Int.emod_lt_of_pos _ z0), fun b o e => by rw [upd_ne (ne_of_none e hp)]; exact s2 b o e⟩
          refine ⟨_, rfl, .inl ⟨rfl, _, SqL.of hp2⟩, _, rfl, _, _, rfl, rfl, _, rfl, ite2 (fun _ => ?_) (fun _ => ?_)⟩
          · refine ⟨_, rfl, _, rfl, _, _, rfl, rfl, z0, p, _, _, rfl, rfl, hp2, by rw [List.length_map]; exact small1000 (by omega), ?_⟩
            exact ⟨_, _, _, rfl, fin _⟩
          · refine ⟨_, rfl, _, rfl, .inl ⟨_, _, rfl, rfl, .inl (.inl (sm _ _ (by decide) (by decide))), _, rfl, .inl ⟨_, _, rfl, rfl, .inl (.inr (sm _ _ (by decide) (by decide))), _, rfl, _, _, rfl, rfl, z0, p, _, _, rfl, rfl, hp2, by rw [List.length_map]; exact small1000 (by omega), ?_⟩⟩⟩
            exact ⟨_, _, _, rfl, fin _⟩
        · rintro σ H2 ⟨rs, o5, o6, rfl, hp2, hq2, hl, hr2, s2⟩
          exact ⟨_, rfl, qq p rs H2 hp hp2 (hl.trans zl) hr2 s2⟩
end
def litV : Expr → Option V
  | .Constant (.int i) _ _ => some (.int i)
  | .Constant (.str x) _ _ => some (.str x)
  | _ => none
def litsOf : List Expr → Option (List V)
  | [] => some []
  | e :: es => (litV e).bind fun v => (litsOf es).map (v :: ·)
def tLits (vs : List V) : TA := fun _ H Q => Q vs H
theorem pa_lits {X : Cx} : ∀ {es : List Expr} {vs : List V}, litsOf es = some vs → PA X es (tLits vs)
  | [], vs, h => by cases h; exact pa_nil
  | e :: es, vs, h => by
    obtain ⟨v, hv, h2⟩ := Option.bind_eq_some_iff.mp h
    obtain ⟨vs', h3, rfl⟩ := Option.map_eq_some_iff.mp h2
    have ih := pa_lits (X := X) h3
    unfold litV at hv
    split at hv
    · cases hv; exact pa_cons pe_int ih
    · cases hv; exact pa_cons pe_str ih
    · cases hv
theorem pe_lits {X : Cx} {es : List Expr} {vs : List V} {pos : Pos} (h : litsOf es = some vs) : PE X (.List es pos) (tLst (tLits vs)) := pe_lst (pa_lits h)
def lit_step {X : Cx} {L rest : List Stmt} {i : Nat} {x : Str} {es : List Expr} {vs : List V} {pos' p2 pos : Pos} (hL : L = .Assign [.Name x pos'] (.List es p2) pos :: rest) (hN : X.N.Nodup) (hi : X.N[i]? = some x) (hx : Loc X.env.scope x) (hl : litsOf es = some vs)
    (b : PSV X rest) (hf : X.fn x = true ∨ X.env.scope.names.lookup x = some .local) : PSV X L :=
  ⟨tSeq (tAsg (tLst (tLits vs)) (gName i)) b.1, by subst hL; exact pss_cons (ps_set hN hi hx (pe_lits hl) rfl hf) b.2⟩
def psv_cons {X : Cx} {L rest : List Stmt} {st : Stmt} {t : TS} (hL : L = st :: rest) (h1 : PS X st t) (b : PSV X rest) : PSV X L := ⟨tSeq t b.1, by subst hL; exact pss_cons h1 b.2⟩
abbrev PEV (X : Cx) (e : Expr) : Type := { t : TE // PE X e t }
def pev_addMul {X : Cx} {a : Expr} {ta : TE} {es : List Expr} {vs : List V} {b : Expr} {tb : TE} {p pos pos2 : Pos} {r r2 : R2} (ho2 : OpR X (PySem.binaryOp .Add) r2) (ha : PE X a ta) (ho : OpR X (PySem.binaryOp .Mult) r) (hl : litsOf es = some vs) (hb : PE X b tb) :
    PEV X (.BinOp a .Add (.BinOp (.List es p) .Mult b pos) pos2) := ⟨tOp r2 ta (tOp r (tLst (tLits vs)) tb), pe_op ho2 ha (pe_op ho (pe_lits hl) hb)⟩
theorem pa_one1 {X : Cx} {a x y : Expr} {op : Operator} {p : Pos} {ta : TE} (ha : PE X a ta) (he : PEV X (.BinOp x op y p)) (hs : ∀ es : List Expr, starEach (a :: es) X.env = (false, eval a X.env) :: starEach es X.env := by intro _; rfl) : PA X [a, .BinOp x op y p] (tCons ta (tCons he.1 tNil)) := pa_cons ha (pa_cons he.2 pa_nil) (hs := hs _)
abbrev az : Str := "abcdefghijklmnopqrstuvwxyz"
abbrev af : Str := "abcdef"
structure Nk (x : Str) : Prop where
  hi : x.length ≤ 8
  ok : ∀ c ∈ x.cps.toList, c < 1114112
theorem Nk.str {x : Str} (h : Nk x) : PyData.strOk x = true := by
  unfold PyData.strOk
  rw [Array.all_eq_true']
  intro c hc
  exact decide_eq_true (h.ok c (Array.mem_toList_iff.mpr hc))
theorem az_let : ∀ c ∈ az.cps.toList, c < 1114112 := by decide +kernel
theorem af_let : ∀ c ∈ af.cps.toList, c < 1114112 := by decide +kernel
theorem one_ok {c : Nat} (h : c < 1114112) : ∀ d ∈ (⟨#[c]⟩ : Str).cps.toList, d < 1114112 := fun d hd => by
  have e : d = c := by simpa using hd
  rw [e]; exact h
theorem az_llen : az.cps.toList.length = 26 := by decide +kernel
theorem af_len : af.length = 6 := by decide +kernel
theorem af_llen : af.cps.toList.length = 6 := by decide +kernel
theorem small8 {n : Nat} (h : n ≤ 1000) : n ≤ sizeLine := Nat.le_trans h (by decide)
theorem len_app (x y : Str) : (x ++ y).length = x.length + y.length := by
  show (x.cps ++ y.cps).size = _
  rw [Array.size_append]
  rfl
theorem cps_app (x y : Str) : (x ++ y).cps.toList = x.cps.toList ++ y.cps.toList := by
  show (x.cps ++ y.cps).toList = _
  simp
theorem str_atI {xs : List Str} {r : Int} (h0 : 0 ≤ r) (h1 : r < xs.length) : ∃ z, z ∈ xs ∧ atI (xs.map V.str) r = some (.str z) := by
  obtain ⟨j, rfl⟩ : ∃ j : Nat, r = j := ⟨r.toNat, by omega⟩
  have hj : j < xs.length := by omega
  exact ⟨xs[j], List.getElem_mem hj, atI_nat (by rw [List.getElem?_map, List.getElem?_eq_getElem hj]; rfl)⟩
theorem flat_strs (xs : List Str) : (xs.map V.str).all flatV = true := by
  rw [List.all_eq_true]
  intro v hv
  obtain ⟨x, _, rfl⟩ := List.mem_map.mp hv
  rfl
theorem inV_strs (x : Str) (xs : List Str) : inV (.str x) (xs.map V.str) = decide (x ∈ xs) := by
  unfold inV
  rw [Bool.eq_iff_iff, List.any_eq_true, decide_eq_true_iff]
  constructor
  · rintro ⟨v, hv, e⟩
    obtain ⟨y, hy, rfl⟩ := List.mem_map.mp hv
    have e' : (y == x) = true := e
    rw [← eq_of_beq e']
    exact hy
  · intro h
    exact ⟨.str x, List.mem_map_of_mem h, show (x == x) = true from beq_self_eq_true x⟩
theorem nodup_len {α : Type} [DecidableEq α] : ∀ {xs ys : List α}, xs.Nodup → (∀ x ∈ xs, x ∈ ys) → xs.length ≤ ys.length
  | [], _, _, _ => Nat.zero_le _
  | x :: xs, ys, hn, hs => by
    have hx : x ∈ ys := hs x List.mem_cons_self
    have hn' := List.nodup_cons.mp hn
    have ih := nodup_len (xs := xs) (ys := ys.erase x) hn'.2 (fun y hy => by
      have hne : y ≠ x := fun e => hn'.1 (e ▸ hy)
      exact (List.mem_erase_of_ne hne).mpr (hs y (List.mem_cons_of_mem _ hy)))
    have hl := List.length_erase_of_mem hx
    have hp : 0 < ys.length := List.length_pos_of_mem hx
    rw [List.length_cons]
    omega
def left (xs : List Str) (i : Nat) : List Str := ((af.cps.toList.take i).map fun c => (⟨#[c]⟩ : Str)).filter fun x => decide (x ∉ xs)
theorem left_succ {xs : List Str} {i c : Nat} (h : af.cps[i]? = some c) : left xs (i + 1) = left xs i ++ (if (⟨#[c]⟩ : Str) ∉ xs then [⟨#[c]⟩] else []) := by
  unfold left
  have h' : af.cps.toList[i]? = some c := by rw [Array.getElem?_toList]; exact h
  rw [List.take_add_one, h', List.map_append, List.filter_append]
  congr 1
  by_cases hc : (⟨#[c]⟩ : Str) ∉ xs
  · rw [if_pos hc]; simp [hc]
  · rw [if_neg hc]; simp [hc]
theorem left_ne {xs : List Str} (h : xs.length < 6) : left xs 6 ≠ [] := by
  intro e
  have hall : ∀ x ∈ (af.cps.toList.map fun c => (⟨#[c]⟩ : Str)), x ∈ xs := by
    intro x hx
    apply Classical.byContradiction
    intro hn
    have : x ∈ left xs 6 := by
      unfold left
      rw [List.take_of_length_le (Nat.le_of_eq af_llen)]
      exact List.mem_filter.mpr ⟨hx, decide_eq_true hn⟩
    rw [e] at this
    cases this
  have hnd : (af.cps.toList.map fun c => (⟨#[c]⟩ : Str)).Nodup := by decide +kernel
  have hl := nodup_len hnd hall
  rw [List.length_map, af_llen] at hl
  omega
theorem left_nm {xs : List Str} {x : Str} {i : Nat} (h : x ∈ left xs i) : Nk x ∧ x ∉ xs := by
  unfold left at h
  obtain ⟨h1, h2⟩ := List.mem_filter.mp h
  obtain ⟨c, hc, rfl⟩ := List.mem_map.mp h1
  exact ⟨⟨by show 1 ≤ 8; decide, one_ok (af_let c (List.mem_of_mem_take hc))⟩, of_decide_eq_true h2⟩
theorem left_len (xs : List Str) (i : Nat) : (left xs i).length ≤ 6 := by
  unfold left
  refine Nat.le_trans (List.length_filter_le _ _) ?_
  rw [List.length_map, List.length_take, af_llen]
  omega
theorem rep_ints (m : Nat) (zs : List Int) : (List.replicate m (zs.map V.int)).flatten = ((List.replicate m zs).flatten).map V.int := by
  rw [List.map_flatten, List.map_replicate]
theorem rep_at {α : Type} (L : List α) : ∀ (m j i : Nat), j < m → i < L.length → (List.replicate m L).flatten[L.length * j + i]? = L[i]?
  | 0, _, _, h, _ => absurd h (Nat.not_lt_zero _)
  | m + 1, 0, i, _, hi => by rw [List.replicate_succ, List.flatten_cons, Nat.mul_zero, Nat.zero_add, List.getElem?_append_left hi]
  | m + 1, j + 1, i, hj, hi => by
    rw [List.replicate_succ, List.flatten_cons, List.getElem?_append_right (by rw [Nat.mul_succ]; omega), show L.length * (j + 1) + i - L.length = L.length * j + i by rw [Nat.mul_succ]; omega]
    exact rep_at L m j i (by omega) hi
theorem rep_mem {α : Type} {L : List α} {m : Nat} {x : α} (h : x ∈ (List.replicate m L).flatten) : x ∈ L := by
  obtain ⟨l, hl, hx⟩ := List.mem_flatten.mp h
  rw [(List.mem_replicate.mp hl).2] at hx
  exact hx
abbrev nine : List Int := [8, 26, 26, 26, 26, 26, 26, 26, 26]
abbrev words13 : List Str := ["one", "over", "row", "ring", "order", "bore", "like", "fault", "layer", "open", "under", "a", "on"]
theorem words13_ok : ∀ x ∈ words13, x.length ≤ 8 ∧ ∀ c ∈ x.cps.toList, c < 1114112 := by decide +kernel
theorem words13_nk {x : Str} (h : x ∈ words13) : Nk x := ⟨(words13_ok x h).1, (words13_ok x h).2⟩
def Nms (xs : List Str) : Prop := xs.Nodup ∧ ∀ x ∈ xs, Nk x
theorem Nms.put {xs : List Str} {x : Str} (h : Nms xs) (hx : Nk x) (hn : x ∉ xs) : Nms (xs ++ [x]) := by
  refine ⟨List.nodup_append.mpr ⟨h.1, by simp, fun a ha b hb e => hn ?_⟩, fun y hy => ?_⟩
  · rw [List.mem_singleton.mp hb] at e
    exact e ▸ ha
  · rcases List.mem_append.mp hy with z | z
    · exact h.2 y z
    · rw [List.mem_singleton.mp z]; exact hx
theorem ones_sum : ∀ {ss : List Str}, (∀ y ∈ ss, y.length = 1) → (ss.map (·.length)).sum = ss.length
  | [], _ => rfl
  | x :: ss, h => by
    rw [List.map_cons, List.sum_cons, h x List.mem_cons_self, ones_sum fun y hy => h y (List.mem_cons_of_mem _ hy), List.length_cons]
    omega
theorem join_len {ss : List Str} (h : ∀ y ∈ ss, y.length = 1) : (PySem.Txt.join "" ss).length ≤ ss.length := by
  unfold PySem.Txt.join
  rw [StrLaws.glued_eq_join]
  refine Nat.le_trans (StrLaws.join_length_le _ _) ?_
  rw [ones_sum h, show (Str.ofString "").length = 0 by decide +kernel]
  omega
theorem drawn_part {rs : List Int} {m j : Nat} (hl : rs.length = (6 :: (List.replicate m nine).flatten).length) (hb : ∀ (i : Nat) (r z : Int), rs[i]? = some r → (6 :: (List.replicate m nine).flatten)[i]? = some z → 0 ≤ r ∧ r < z) (hj : j < m) :
    ∃ (p0 : Int) (pt : List Int), cutV (rs.map V.int) (some (1 + 9 * (j : Int))) (some (10 + 9 * (j : Int))) = (p0 :: pt).map V.int ∧ pt.length = 8 ∧ 0 ≤ p0 ∧ p0 < 8 ∧ ∀ x ∈ pt, 0 ≤ x ∧ x < 26 := by
  have hl9 : rs.length = 9 * m + 1 := by rw [hl, List.length_cons, len_rep]; show m * 9 + 1 = _; omega
  have hsz : ∀ i < 9, (6 :: (List.replicate m nine).flatten)[1 + 9 * j + i]? = nine[i]? := fun i hi => by
    rw [show 1 + 9 * j + i = (9 * j + i) + 1 by omega, List.getElem?_cons_succ]
    exact rep_at nine m j i hj hi
  rw [cutV_mid (k := 1 + 9 * j) (l := 10 + 9 * j) (by omega) (by omega) (by omega) (by rw [List.length_map]; omega), ← List.map_drop, ← List.map_take, show 10 + 9 * j - (1 + 9 * j) = 9 by omega]
  have hL : ((rs.drop (1 + 9 * j)).take 9).length = 9 := by rw [List.length_take, List.length_drop]; omega
  have hat : ∀ i < 9, ((rs.drop (1 + 9 * j)).take 9)[i]? = rs[1 + 9 * j + i]? := fun i hi => by
    rw [List.getElem?_take_of_lt hi, List.getElem?_drop]
  generalize (rs.drop (1 + 9 * j)).take 9 = L at hL hat
  match L, hL, hat with
  | p0 :: pt, hL, hat =>
    refine ⟨p0, pt, rfl, by rw [List.length_cons] at hL; omega, ?_⟩
    obtain ⟨z0, z1⟩ := hb (1 + 9 * j + 0) p0 8 ((hat 0 (by omega)).symm.trans rfl) ((hsz 0 (by omega)).trans rfl)
    refine ⟨z0, z1, fun x hx => ?_⟩
    obtain ⟨i, hi, e⟩ := List.getElem_of_mem hx
    rw [List.length_cons] at hL
    have hi8 : i < 8 := by omega
    refine hb (1 + 9 * j + (i + 1)) x 26 ((hat (i + 1) (by omega)).symm.trans (by rw [List.getElem?_cons_succ, ← e]; exact List.getElem?_eq_getElem hi)) ((hsz (i + 1) (by omega)).trans ?_)
    match i, hi8 with
    | 0, _ => rfl
    | 1, _ => rfl
    | 2, _ => rfl
    | 3, _ => rfl
    | 4, _ => rfl
    | 5, _ => rfl
    | 6, _ => rfl
    | 7, _ => rfl
theorem atI_0 {α : Type} {x : α} {xs : List α} : atI (x :: xs) 0 = some x := atI_nat (xs := x :: xs) (j := 0) rfl
theorem atI_1 {α : Type} {x y : α} {xs : List α} : atI (x :: y :: xs) 1 = some y := atI_nat (xs := x :: y :: xs) (j := 1) rfl
theorem cut_name {p0 x1 : Int} {pt : List Int} (h0 : 0 ≤ p0) (h1 : p0 < 8) (hl : (x1 :: pt).length = 8) : cutV ((p0 :: x1 :: pt).map V.int) (some 1) (some (2 + p0)) = ((x1 :: pt).take (p0.toNat + 1)).map V.int := by
  rw [cutV_mid (i := 1) (j := 2 + p0) (k := 1) (l := 2 + p0.toNat) rfl (by omega) (by omega) (by rw [List.length_map, List.length_cons, hl]; omega), List.map_cons, List.drop_succ_cons, List.drop_zero, List.map_take, show 2 + p0.toNat - 1 = p0.toNat + 1 by omega]
def Ones (ss : List Str) : Prop := ∀ y ∈ ss, y.length = 1 ∧ ∀ c ∈ y.cps.toList, c < 1114112
theorem Ones.put {ss : List Str} {c : Nat} (h : Ones ss) (hc : c ∈ az.cps.toList) : Ones (ss ++ [⟨#[c]⟩]) := fun y hy => by
  rcases List.mem_append.mp hy with z | z
  · exact h y z
  · rw [List.mem_singleton.mp z]; exact ⟨rfl, one_ok (az_let c hc)⟩
theorem join_ok : ∀ {ss : List Str}, Ones ss → ∀ c ∈ (Str.join "" ss).cps.toList, c < 1114112
  | [], _ => fun c hc => absurd (show c ∈ ([] : List Nat) from hc) (by simp)
  | [x], h => (h x List.mem_cons_self).2
  | x :: y :: r, h => fun c hc => by
    have hc' : c ∈ (x ++ "" ++ Str.join "" (y :: r)).cps.toList := hc
    rw [cps_app, cps_app] at hc'
    rcases List.mem_append.mp hc' with z | z
    · rcases List.mem_append.mp z with z | z
      · exact (h x List.mem_cons_self).2 c z
      · exact absurd z (by rw [show (Str.ofString "").cps.toList = [] by decide +kernel]; simp)
    · exact join_ok (fun y hy => h y (List.mem_cons_of_mem _ hy)) c z
theorem join_nk {ss : List Str} (h : Ones ss) (hl : ss.length ≤ 8) : Nk (PySem.Txt.join "" ss) := by
  refine ⟨Nat.le_trans (join_len fun y hy => (h y hy).1) hl, ?_⟩
  unfold PySem.Txt.join
  rw [StrLaws.glued_eq_join]
  exact join_ok h
def spNames (K : PySem.W.Frag) : Sp := fun vs H Q _ => ∃ (a : Addr) (ns : List Int) (k : Int) (m : Nat), vs = [.ref a, .int k, .int m] ∧ Scr K H a ns ∧ 0 ≤ k ∧ k ≤ 1000 ∧ m ≤ 6 ∧
  ∀ (p : Addr) (xs : List Str) (H' : Hp), H p = none → H' p = some (.lst (xs.map V.str)) → xs.length = m → Nms xs → Same H H' → Q (.ref p) H'
section
variable {P : Program} {w : World} {K : PySem.W.Frag} {mg : Str → Option Value} {base : Heap} {t : Adr}
theorem ok__law_names (T : Txt K mg t) : FnOk P w K mg base CX0 2 t.a__law_names t.d__law_names ["_law_script", "_law_k", "_law_many"] (spNames K) := by
  refine T.F__law_names.ok sc__law_names (fun vs H Q E h => ?_) (fun cdv A outer s H vs Q E hr h => ?_)
  · obtain ⟨a, ns, k, m, rfl, _⟩ := h; rfl
  · obtain ⟨a, ns, k, m, rfl, hs, hk0, hk1, hm, qq⟩ := h
    let X_ : Cx := (cxOf CX0 P w K mg base ["_law_script", "_law_k", "_law_many", "_law_letters", "_law_draws_here", "_law_words", "_law_names_here", "_law_j", "_law_part", "_law_name"] "_law_names" (defScope s__law_names) t.a__law_names cdv A outer s H E).nox
    let u1_ : PSV (X_) (List.drop 5 (bodyOf (stAt (defBody s__law_names) 4))) := ⟨_, (pss_one (ps_expr (pe_bmK K PySem.F.plainAttrs_list PySem.F.slot_list_append PySem.F.type_list_append mt_append (pv 6) (pa_cons (pv 9) pa_nil))))⟩
    let w1_ : TS := u1_.1
    have e1_ : PSs (X_) (List.drop 5 (bodyOf (stAt (defBody s__law_names) 4))) w1_ := u1_.2
    let u2_ : PSV (X_) (List.drop 4 (bodyOf (stAt (defBody s__law_names) 4))) := ⟨_, (pss_cons (ps_mid (ps_if (pt_cmpR (op_inK K hr.units) (pv 9) (pv 6) (by with_unfolding_all rfl)) (pss_one (ps_set (i := 9) sc__law_names.nd rfl (Or.inl rfl) (pe_ix (ix_K K) (pe_cmp1 ["_law_script", "_law_k", "_law_many", "_law_letters", "_law_draws_here", "_law_words", "_law_names_here", "_law_j", "_law_part", "_law_name"] (defScope s__law_names) ["_law_one", "_law_names_here"] [none, some 6] (pi_seqK K pe_str)
      (fun _ _ _ _ _ => (pg_name (i := 0) (show List.Nodup (["_law_one", "_law_names_here"] : List Str) from (by decide +kernel)) rfl (Or.inl rfl))) (fun _ _ _ _ _ => (pts_one (pt_cmpR (op_notInK K hr.units) (pv 0) (pv 1) (by with_unfolding_all rfl)))) (fun _ _ _ _ _ => (pv 0))) pe_int (fun _ _ => rfl)))) pss_nil))
      e1_)⟩
    let w2_ : TS := u2_.1
    have e2_ : PSs (X_) (List.drop 4 (bodyOf (stAt (defBody s__law_names) 4))) w2_ := u2_.2
    let u3_ : PSV (X_) (List.drop 3 (bodyOf (stAt (defBody s__law_names) 4))) := ⟨_, (pss_cons (ps_mid (ps_if (pt_cmpR (op_eqK K hr.units) (pe_ix (ix_K K) (pv 4) pe_int (fun _ _ => rfl)) pe_int (nomark _)) (pss_one (ps_set (i := 9) sc__law_names.nd rfl (Or.inl rfl) (pe_ix (ix_K K) (pv 5) (pe_op op_mod (pe_ix (ix_K K) (pv 8) pe_int (fun _ _ => rfl)) pe_int) (fun _ _ => rfl)))) pss_nil))
      e2_)⟩
    let w3_ : TS := u3_.1
    have e3_ : PSs (X_) (List.drop 3 (bodyOf (stAt (defBody s__law_names) 4))) w3_ := u3_.2
    let u4_ : PSV (X_) (List.drop 2 (bodyOf (stAt (defBody s__law_names) 4))) := ⟨_, (pss_cons (ps_mid (ps_if (PW.pt (pw_and (pt_cmpR op_ltG (pe_ix (ix_K K) (pv 4) pe_int (fun _ _ => rfl)) pe_int (nomark _)) (pw_and (pt_cmpR (op_eqK K hr.units) (pe_op op_mod (pv 7) pe_int) pe_int (nomark _)) (pw_and1 (pt_cmpR op_ltG (pe_callB (call_lenK K) rfl T.N_len bt_len (pa_cons (pe_ix (ix_K K) (pv 6) (pe_op op_sub (pv 7) pe_int) (fun _ _ => rfl)) pa_nil)) pe_int (nomark _)))))) (pss_one (ps_set (i := 9) sc__law_names.nd rfl (Or.inl rfl) (pe_op (op_addU K) (pe_ix (ix_K K) (pv 6) (pe_op op_sub (pv 7) pe_int) (fun _ _ => rfl)) (pe_ix (ix_K K) (pv 3) (pe_ix (ix_K K) (pv 8) pe_int (fun _ _ => rfl)) (fun _ _ => rfl))))) pss_nil))
      e3_)⟩
    let w4_ : TS := u4_.1
    have e4_ : PSs (X_) (List.drop 2 (bodyOf (stAt (defBody s__law_names) 4))) w4_ := u4_.2
    let u5_ : PSV (X_) (List.drop 1 (bodyOf (stAt (defBody s__law_names) 4))) := ⟨_, (pss_cons (ps_set (i := 9) sc__law_names.nd rfl (Or.inl rfl) (pe_bmK K PySem.F.plainAttrs_str PySem.F.slot_str_join PySem.F.type_str_join (mt_joinK K) pe_str (pa_cons (pe_cmp1 ["_law_script", "_law_k", "_law_many", "_law_letters", "_law_draws_here", "_law_words", "_law_names_here", "_law_j", "_law_part", "_law_name"] (defScope s__law_names) ["_law_x", "_law_letters"] [none, some 3] (pi_seqK K (pe_slice (sl_U K) (pv 8) (po_some pe_int) (po_some (pe_op (op_addU K) pe_int (pe_ix (ix_K K) (pv 8) pe_int (fun _ _ => rfl))))))
      (fun _ _ _ _ _ => (pg_name (i := 0) (show List.Nodup (["_law_x", "_law_letters"] : List Str) from (by decide +kernel)) rfl (Or.inl rfl))) (fun _ _ _ _ _ => pts_nil) (fun _ _ _ _ _ => (pe_ix (ix_K K) (pv 1) (pv 0) (fun _ _ => rfl)))) pa_nil)))
      e4_)⟩
    let w5_ : TS := u5_.1
    have e5_ : PSs (X_) (List.drop 1 (bodyOf (stAt (defBody s__law_names) 4))) w5_ := u5_.2
    let u6_ : PSV (X_) (List.drop 5 (defBody s__law_names)) := ⟨_, (pss_one (ps_ret (pv 6)))⟩
    let w6_ : TS := u6_.1
    have e6_ : PSs (X_) (List.drop 5 (defBody s__law_names)) w6_ := u6_.2
    let u7_ : PSV (X_) (List.drop 4 (defBody s__law_names)) := ⟨_, (pss_cons (ps_for PassesOwn.never rfl (pi_range1 rfl T.N_range (pa_cons (pv 2) pa_nil)) (pg_name (i := 7) sc__law_names.nd rfl (Or.inl rfl))
      (pss_cons (ps_set (i := 8) sc__law_names.nd rfl (Or.inl rfl) (pe_slice (sl_U K) (pv 4) (po_some (pe_op (op_addU K) pe_int (pe_op (op_mulU K) pe_int (pv 7)))) (po_some (pe_op (op_addU K) pe_int (pe_op (op_mulU K) pe_int (pv 7))))))
      e5_))
      e6_)⟩
    let w7_ : TS := u7_.1
    have e7_ : PSs (X_) (List.drop 4 (defBody s__law_names)) w7_ := u7_.2
    let u8_ : PSV (X_) (List.drop 3 (defBody s__law_names)) := ⟨_, (pss_cons (ps_set (i := 6) sc__law_names.nd rfl (Or.inr rfl) (pe_lst pa_nil))
      e7_)⟩
    let w8_ : TS := u8_.1
    have e8_ : PSs (X_) (List.drop 3 (defBody s__law_names)) w8_ := u8_.2
    let u9_ : PSV (X_) (List.drop 2 (defBody s__law_names)) := (lit_step (i := 5) (vs := [V.str "one", V.str "over", V.str "row", V.str "ring", V.str "order", V.str "bore", V.str "like", V.str "fault", V.str "layer", V.str "open", V.str "under", V.str "a", V.str "on"]) rfl sc__law_names.nd rfl (Or.inl rfl) rfl u8_ (by first | exact .inl rfl | exact .inr rfl))
    let u10_ : PSV (X_) (List.drop 1 (defBody s__law_names)) := (psv_cons rfl (ps_set (i := 4) sc__law_names.nd rfl (Or.inl rfl) (pe_call (ok__law_draws (K := K) T) (hr.mono (by decide)) rfl T.G__law_draws T.F__law_draws.kp T.B__law_draws .nil pass0 (pa_cons (pv 0) (pa_one1 (pv 1) (pev_addMul (vs := [V.int 8, V.int 26, V.int 26, V.int 26, V.int 26, V.int 26, V.int 26, V.int 26, V.int 26]) (op_addU K) (pe_lst (pa_cons pe_int pa_nil)) (op_mulU K) rfl (pv 2)))))) u9_)
    let w10_ : TS := u10_.1
    have e10_ : PSs (X_) (List.drop 1 (defBody s__law_names)) w10_ := u10_.2
    refine ⟨_, (pss_cons (ps_set (i := 3) sc__law_names.nd rfl (Or.inr rfl) pe_str)
      e10_), ?_⟩
    walk_at "go"
    refine ⟨by show 1 ≤ sizeLine; decide, fun p1 hp1 => ?_⟩
    have s1 : Same H (upd H p1 (.lst [.int 6])) := Same.new hp1
    have h1 : upd H p1 (.lst [.int 6]) p1 = some (.lst [.int 6]) := upd_same
    generalize upd H p1 (.lst [.int 6]) = H1 at s1 h1
    refine ⟨by show 9 ≤ sizeLine; decide, fun p2 hp2 => ?_⟩
    have s2 : Same H1 (upd H1 p2 (.lst (nine.map V.int))) := Same.new hp2
    have h2 : upd H1 p2 (.lst (nine.map V.int)) p2 = some (.lst (nine.map V.int)) := upd_same
    refine ⟨_, rfl, .inr (.inl ⟨p2, (m : Int), nine.map V.int, rfl, rfl, (by show upd H1 p2 _ p2 = _; exact upd_same), by omega, by omega, ?_, fun p3 hp3 => ?_⟩)⟩
    · show 9 * (m : Int).toNat ≤ sizeLine
      exact small8 (by omega)
    have s3 : Same (upd H1 p2 (.lst (nine.map V.int))) (upd (upd H1 p2 (.lst (nine.map V.int))) p3 (.lst (List.replicate (m : Int).toNat (nine.map V.int)).flatten)) := Same.new hp3
    have e3 : (List.replicate (m : Int).toNat (nine.map V.int)).flatten = ((List.replicate m nine).flatten).map V.int := by rw [rep_ints]; rfl
    have l3 : ((List.replicate m nine).flatten).length = m * 9 := len_rep nine m
    refine .inr (.inr (.inl ⟨p1, p3, [.int 6], ((List.replicate m nine).flatten).map V.int, rfl, rfl, ?_, ?_, ?_, fun p4 hp4 => ?_⟩))
    · exact s3 _ _ (s2 _ _ h1)
    · show upd _ p3 _ p3 = _
      rw [upd_same, e3]
    · rw [List.length_map, l3]
      exact small8 (by show 1 + m * 9 ≤ 1000; omega)
    have s4 := Same.new (o := .lst ([V.int 6] ++ ((List.replicate m nine).flatten).map V.int)) hp4
    have s04 := ((s1.trans s2).trans s3).trans s4
    refine ⟨a, p4, ns, 6 :: (List.replicate m nine).flatten, k, rfl, ?_, hk0, hk1, upd_same, ?_, ?_, fun q rs H5 hq hq5 hrl hrb s5 => ?_⟩
    · exact hs.same s04
    · intro z hz
      have hz' : z ∈ (6 :: nine : List Int) := by
        rcases List.mem_cons.mp hz with e | e
        · rw [e]; exact List.mem_cons_self
        · exact List.mem_cons_of_mem _ (rep_mem e)
      have : 0 < z ∧ z ≤ 26 := (show ∀ z ∈ (6 :: nine : List Int), 0 < z ∧ z ≤ 26 by decide) z hz'
      exact ⟨this.1, Int.lt_of_le_of_lt this.2 (by decide)⟩
    · rw [List.length_cons, l3]
      omega
    have s05 : Same H H5 := s04.trans s5
    refine ⟨by show 13 ≤ sizeLine; decide, fun p5 hp5 => ?_⟩
    have s6 : Same H5 (upd H5 p5 (.lst (words13.map V.str))) := Same.new hp5
    have h6 : upd H5 p5 (.lst (words13.map V.str)) p5 = some (.lst (words13.map V.str)) := upd_same
    have hq6 := s6 _ _ hq5
    have s06 := s05.trans s6
    refine ⟨Nat.zero_le _, fun p6 hp6 => ?_⟩
    have s7 : Same (upd H5 p5 (.lst (words13.map V.str))) (upd (upd H5 p5 (.lst (words13.map V.str))) p6 (.lst [])) := Same.new hp6
    have h7 : upd (upd H5 p5 (.lst (words13.map V.str))) p6 (.lst []) p6 = some (.lst []) := upd_same
    have hp6' : upd H5 p5 (.lst (words13.map V.str)) p6 = none := hp6
    have hm62 : (m : Int) < 2 ^ 62 := Int.lt_of_le_of_lt (show (m : Int) ≤ 6 by omega) (by decide)
    have hm0 : -(2 ^ 62) ≤ (m : Int) := Int.le_trans (by decide) (show (0 : Int) ≤ m by omega)
    obtain ⟨r0, hr0⟩ : ∃ r0 : Int, atI (rs.map V.int) 0 = some (.int r0) := ints_atI (by decide) (by rw [hrl, List.length_cons]; omega)
    refine ⟨_, rfl, _, rfl, hm0, hm62, ?_⟩
    refine for_range (fun i σ H' => ∃ (xs : List Str) (o7 o8 o9 : Option V), σ = [some (.ref a), some (.int k), some (.int m), some (.str az), some (.ref q), some (.ref p5), some (.ref p6), o7, o8, o9] ∧ xs.length = i ∧ Nms xs ∧ H' p6 = some (.lst (xs.map V.str)) ∧ Same (upd H5 p5 (.lst (words13.map V.str))) H')
      ⟨[], none, none, none, rfl, rfl, ⟨List.nodup_nil, fun x hx => absurd hx (by simp)⟩, h7, s7⟩ ?_ ?_
    · rintro i σ H8 hi ⟨xs, o7, o8, o9, rfl, hxl, hnm, h8, s8⟩
      rw [Int.zero_add]
      have him : i < m := hi
      have hq8 := s8 _ _ hq6
      have h58 := s8 _ _ h6
      obtain ⟨p0, pt, ecut, hpl, p00, p01, hpt⟩ := drawn_part hrl hrb him
      obtain ⟨x1, pt', rfl⟩ : ∃ x1 pt', pt = x1 :: pt' := by
        cases pt with
        | nil => exact absurd hpl (by simp)
        | cons x pt' => exact ⟨x, pt', rfl⟩
      walk_at "go"
      refine .inl ⟨q, rs.map V.int, rfl, SqL.of hq8, fun p7 hp7 => ?_⟩
      rw [ecut]
      have s9 : Same H8 (upd H8 p7 (.lst ((p0 :: x1 :: pt').map V.int))) := Same.new hp7
      have h9 : upd H8 p7 (.lst ((p0 :: x1 :: pt').map V.int)) p7 = some (.lst ((p0 :: x1 :: pt').map V.int)) := upd_same
      generalize upd H8 p7 (.lst ((p0 :: x1 :: pt').map V.int)) = H9 at s9 h9
      refine ⟨rfl, _, rfl, _, rfl, _, rfl, .inl ⟨p7, _, _, _, rfl, rfl, SqL.of h9, atI_0, .inl ⟨_, _, rfl, rfl, _, rfl, .inl ⟨p7, _, rfl, SqL.of h9, fun p8 hp8 => ?_⟩⟩⟩⟩
      have ecut2 := cut_name (x1 := x1) (pt := pt') p00 p01 hpl
      rw [ecut2]
      have s10 : Same H9 (upd H9 p8 (.lst (((x1 :: pt').take (p0.toNat + 1)).map V.int))) := Same.new hp8
      have h10 : upd H9 p8 (.lst (((x1 :: pt').take (p0.toNat + 1)).map V.int)) p8 = some (.lst (((x1 :: pt').take (p0.toNat + 1)).map V.int)) := upd_same
      generalize upd H9 p8 (.lst (((x1 :: pt').take (p0.toNat + 1)).map V.int)) = H10 at s10 h10
      have hL : ∀ x ∈ (x1 :: pt').take (p0.toNat + 1), 0 ≤ x ∧ x < 26 := fun x hx => hpt x (List.mem_of_mem_take hx)
      have hLl : ((x1 :: pt').take (p0.toNat + 1)).length ≤ 8 := by rw [List.length_take]; omega
      generalize (x1 :: pt').take (p0.toNat + 1) = L at hL hLl h10
      refine ⟨Itl K p8, .lst (SqL.of h10), fun D hD => ?_⟩
      refine comp_lst (fun i ys H' => ∃ ss : List Str, ys = ss.map V.str ∧ Ones ss) (SqL.of h10) hD ⟨[], rfl, fun y hy => absurd hy (by simp)⟩ ?_ ?_
      · rintro i' mm u ys H11 hu2 hi' hm' s11 hy hl ⟨ss, rfl, hss⟩
        rw [List.getElem?_map] at hu2
        obtain ⟨z, hz, rfl⟩ := Option.map_eq_some_iff.mp hu2
        obtain ⟨z0, z1⟩ := hL z (List.mem_of_getElem? hz)
        obtain ⟨c, hc, ec⟩ := atI_mem (xs := az.cps.toList) (r := z) z0 (by rw [az_llen]; omega)
        refine ⟨SubS.set (SubS.refl _) rfl, _, rfl, _, rfl, .inr (.inr ⟨az, _, c, rfl, rfl, by decide +kernel, ec, ?_⟩)⟩
        exact wl_next hD hi' hm' (small1000 (by rw [List.length_map]; omega)) s11 hy hl (Same.refl _) ⟨ss ++ [⟨#[c]⟩], by rw [List.map_append]; rfl, hss.put hc⟩
      rintro ys H11 s11 hy hl ⟨ss, rfl, hss⟩
      rw [List.length_map, List.length_map] at hl
      refine ⟨_, D, ss, rfl, rfl, SqL.of hy, joinOk_of 1 (fun y hy => Nat.le_of_eq (hss y hy).1) (by rw [show (Str.ofString "").length = 0 by decide +kernel]; omega), ?_⟩
      have hj8 : Nk (PySem.Txt.join "" ss) := join_nk hss (by omega)
      generalize PySem.Txt.join "" ss = nm at hj8
      have s811 := (s9.trans s10).trans s11
      have hq11 := s811 _ _ hq8
      have h511 := s811 _ _ h58
      have h611 := s811 _ _ h8
      have h711 := s11 _ _ (s10 _ _ h9)
      have s611 := s8.trans s811
      let M1_ : St → Hp → Prop := fun σ H' => H' = H11 ∧ ∃ nm : Str, Nk nm ∧ σ = [some (.ref a), some (.int k), some (.int m), some (.str az), some (.ref q), some (.ref p5), some (.ref p6), some (.int i), some (.ref p7), some (.str nm)]
      refine ⟨M1_, ?_, ?_⟩
      · refine ⟨_, rfl, .inl ⟨q, _, _, _, rfl, rfl, SqL.of hq11, hr0, _, _, rfl, rfl, _, rfl, ite2 (fun hc => ?_) (fun _ => ?_)⟩⟩
        · refine ⟨_, rfl, _, _, rfl, rfl, (by show (0 : Int) < 2; decide), .inl ⟨rfl, _, rfl, ite2 (fun hc2 => ?_) (fun _ => ?_)⟩⟩
          · have hi1 : 1 ≤ i := by
              have h2' : V.int ((i : Int) % 2) = V.int 1 := of_decide_eq_true hc2
              have h2 : (i : Int) % 2 = 1 := V.int.inj h2'
              omega
            obtain ⟨z, hz, ez⟩ := str_atI (xs := xs) (r := (i : Int) - 1) (by omega) (by omega)
            have hz8 := (hnm.2 z hz).hi
            refine ⟨_, rfl, _, rfl, _, _, rfl, rfl, .inl ⟨p6, _, _, _, rfl, rfl, SqL.of h611, ez, _, _, rfl, ⟨small8 (by omega), rfl⟩, _, _, rfl, rfl, _, rfl, ite2 (fun hc3 => ?_) (fun _ => ?_)⟩⟩
            · have hz7 : (z.length : Int) < 8 := of_decide_eq_true hc3
              obtain ⟨g0, g1⟩ := hpt x1 List.mem_cons_self
              obtain ⟨c, hc', ec⟩ := atI_mem (xs := az.cps.toList) (r := x1) g0 (by rw [az_llen]; omega)
              refine ⟨_, rfl, _, rfl, _, _, rfl, rfl, .inl ⟨p6, _, _, _, rfl, rfl, SqL.of h611, ez, _, rfl, _, rfl, .inl ⟨p7, _, _, _, rfl, rfl, SqL.of h711, atI_1, .inr (.inr ⟨az, _, c, rfl, rfl, by decide +kernel, ec, .inr (.inl ⟨_, _, rfl, rfl, ?_, ?_⟩)⟩)⟩⟩⟩
              · exact small8 (show z.length + 1 ≤ 1000 by omega)
              · refine ⟨rfl, _, ⟨by rw [len_app]; show z.length + 1 ≤ 8; omega, fun d hd => ?_⟩, rfl⟩
                rw [cps_app] at hd
                rcases List.mem_append.mp hd with y | y
                · exact (hnm.2 z hz).ok d y
                · exact one_ok (az_let c hc') d y
            · exact ⟨rfl, nm, hj8, rfl⟩
          · exact iteF ⟨rfl, nm, hj8, rfl⟩
        · exact iteF ⟨rfl, nm, hj8, rfl⟩
      · rintro σ H12 ⟨rfl, nm2, hnm2, rfl⟩
        let M2_ : St → Hp → Prop := fun σ H' => H' = H12 ∧ ∃ nm : Str, Nk nm ∧ σ = [some (.ref a), some (.int k), some (.int m), some (.str az), some (.ref q), some (.ref p5), some (.ref p6), some (.int i), some (.ref p7), some (.str nm)]
        refine ⟨M2_, ?_, ?_⟩
        · refine ⟨_, rfl, .inl ⟨q, _, _, _, rfl, rfl, SqL.of hq11, hr0, .inl ⟨rfl, _, rfl, ite2 (fun hc => ?_) (fun _ => ?_)⟩⟩⟩
          · obtain ⟨z, hz, ez⟩ := str_atI (xs := words13) (r := x1 % 13) (by omega) (by show x1 % 13 < 13; omega)
            refine ⟨_, rfl, _, rfl, .inl ⟨p7, _, _, _, rfl, rfl, SqL.of h711, atI_1, _, _, rfl, rfl, (by show (0 : Int) < 13; decide), .inl ⟨p5, _, _, _, rfl, rfl, SqL.of h511, ez, ?_⟩⟩⟩
            exact ⟨rfl, z, words13_nk hz, rfl⟩
          · exact ⟨rfl, nm2, hnm2, rfl⟩
        · rintro σ H13 ⟨rfl, nm3, hnm3, rfl⟩
          let M3_ : St → Hp → Prop := fun σ H' => Same H13 H' ∧ ∃ nm : Str, Nk nm ∧ nm ∉ xs ∧ σ = [some (.ref a), some (.int k), some (.int m), some (.str az), some (.ref q), some (.ref p5), some (.ref p6), some (.int i), some (.ref p7), some (.str nm)]
          refine ⟨M3_, ?_, ?_⟩
          · refine ⟨_, rfl, _, rfl, .inl ⟨p6, _, rfl, .inl (SqL.of h611), rfl, flat_strs xs, _, rfl, ite2 (fun hc => ?_) (fun hc => ?_)⟩⟩
            · refine ⟨Its af, .str af, fun D2 hD2 => ?_⟩
              have sD : Same H13 (upd H13 D2 (.lst [])) := Same.new hD2
              refine ⟨fun i m H' => m = 6 - i ∧ i ≤ 6 ∧ Same H13 H' ∧ H' D2 = some (.lst ((left xs i).map V.str)), ⟨6, rfl, by decide, sD, upd_same⟩, ?_⟩
              rintro i' mm H5' ⟨rfl, hi', s5', hD5⟩
              by_cases hlt : i' < 6
              · refine .inr ⟨show i' < af.length by rw [af_len]; exact hlt, ?_⟩
                rintro x H6' ⟨rfl, c, hc, rfl⟩
                have sq6 : SqL K H6' p6 (xs.map V.str) := SqL.of (s5' _ _ h611)
                refine ⟨SubS.set (SubS.refl _) rfl, _, rfl, _, rfl, .inl ⟨p6, _, rfl, .inl sq6, rfl, flat_strs xs, _, rfl, ?_⟩⟩
                rw [show (if true = true then !inV (V.str ⟨#[c]⟩) (xs.map V.str) else inV (V.str ⟨#[c]⟩) (xs.map V.str)) = !decide ((⟨#[c]⟩ : Str) ∈ xs) by rw [if_pos rfl, inV_strs]]
                by_cases hin : (⟨#[c]⟩ : Str) ∈ xs
                · rw [decide_eq_true hin]
                  refine iteF ⟨6 - (i' + 1), by omega, rfl, hlt, s5', ?_⟩
                  rw [left_succ hc, if_neg (fun z => z hin), List.append_nil]
                  exact hD5
                · rw [decide_eq_false hin]
                  refine iteT ⟨_, rfl, _, hD5, ?_, 6 - (i' + 1), by omega, rfl, hlt, ?_, ?_⟩
                  · rw [List.length_map]
                    exact Nat.lt_of_le_of_lt (left_len xs i') (by decide)
                  · intro b o e
                    rw [upd_ne (ne_of_none e hD2)]
                    exact s5' b o e
                  · rw [upd_same, left_succ hc, if_pos hin, List.map_append]
                    rfl
              · have e6 : i' = 6 := by omega
                subst e6
                refine .inl ⟨af_len.symm, ?_⟩
                obtain ⟨z, hz, ez⟩ := str_atI (xs := left xs 6) (r := 0) (by omega) (by
                  have := List.length_pos_iff.mpr (left_ne (xs := xs) (by omega))
                  omega)
                refine .inl ⟨D2, _, _, _, rfl, rfl, SqL.of hD5, ez, ?_⟩
                exact ⟨s5', z, (left_nm hz).1, (left_nm hz).2, rfl⟩
            · refine ⟨Same.refl _, nm3, hnm3, fun hin => hc ?_, rfl⟩
              rw [if_neg (by decide), inV_strs]
              exact decide_eq_true hin
          · rintro σ H14 ⟨s14, nm4, hnm4, hni, rfl⟩
            have h614 := s14 _ _ h611
            refine ⟨_, rfl, .inl ⟨rfl, _, SqL.of h614⟩, _, rfl, p6, _, _, rfl, rfl, h614, by rw [List.length_map]; exact small1000 (by omega), ?_⟩
            refine ⟨xs ++ [nm4], _, _, _, rfl, by rw [List.length_append, hxl]; rfl, hnm.put hnm4 hni, by rw [upd_same, List.map_append]; rfl, fun b o e => ?_⟩
            rw [upd_ne (ne_of_none e hp6')]
            exact (s611.trans s14) b o e
    · rintro σ H8 ⟨xs, o7, o8, o9, rfl, hxl, hnm, h8, s8⟩
      refine ⟨_, rfl, qq p6 xs H8 ?_ h8 hxl hnm (s06.trans s8)⟩
      cases e : H p6 with
      | none => rfl
      | some o => exact absurd (s06 _ _ e) (by rw [hp6']; simp)
end
def insAt {α : Type} (xs : List α) (k : Nat) (x : α) : List α := xs.take k ++ x :: xs.drop k
theorem insAt_perm {α : Type} (xs : List α) (k : Nat) (x : α) : (insAt xs k x).Perm (x :: xs) := by
  unfold insAt
  refine List.perm_middle.trans ?_
  rw [List.take_append_drop]
theorem insAt_map {α β : Type} (g : α → β) (xs : List α) (k : Nat) (x : α) : (xs.map g).take k ++ g x :: (xs.map g).drop k = (insAt xs k x).map g := by
  unfold insAt
  rw [List.map_append, List.map_cons, List.map_take, List.map_drop]
theorem insAt_mem {α : Type} {xs : List α} {k : Nat} {x y : α} : y ∈ insAt xs k x ↔ y = x ∨ y ∈ xs := by
  rw [(insAt_perm xs k x).mem_iff, List.mem_cons]
theorem insAt_len {α : Type} (xs : List α) (k : Nat) (x : α) : (insAt xs k x).length = xs.length + 1 := by
  rw [(insAt_perm xs k x).length_eq, List.length_cons]
abbrev Lik := Str × Str × Int
def likD (l : Lik) : PyData := .tuple [.str l.1, .str l.2.1, .int l.2.2]
def liksD (ls : List Lik) : PyData := .tuple (ls.map likD)
theorem likD_pure (l : Lik) : pureD (likD l) = true := rfl
theorem liks_pure (ls : List Lik) : pureDs (ls.map likD) = true := pureDs_map fun b _ => likD_pure b
theorem repl_at {K : PySem.W.Frag} {H : Hp} {α : Type} {g : α → PyData} {xs : List α} {us : List V} {i : Nat} {u : V} (rl : RepL K H (xs.map g) us) (h : us[i]? = some u) : ∃ x, xs[i]? = some x ∧ Rep K H (g x) u := by
  obtain ⟨d, hd, ru⟩ := rl.at_ h
  rw [List.getElem?_map] at hd
  cases e : xs[i]? with
  | none => rw [e] at hd; cases hd
  | some l =>
    rw [e] at hd
    have e2 : g l = d := Option.some.inj hd
    exact ⟨l, rfl, e2 ▸ ru⟩
theorem repl_len {K : PySem.W.Frag} {H : Hp} {α : Type} {g : α → PyData} {xs : List α} {us : List V} (rl : RepL K H (xs.map g) us) : us.length = xs.length := by rw [rl.length, List.length_map]
abbrev Ms := Str × Str
def msD (p : Ms) : PyData := .tuple [.str p.1, .str p.2]
theorem mss_pure (ps : List Ms) : pureDs (ps.map msD) = true := pureDs_map fun _ _ => rfl
theorem rep2 {K : PySem.W.Frag} {H : Hp} {p : Ms} {v : V} (h : Rep K H (msD p) v) : ∃ a, v = .ref a ∧ SqT K H a [.str p.1, .str p.2] := by
  obtain ⟨a, xs, rfl, h1, h2⟩ := h
  obtain ⟨_, _, rfl, rfl, h2⟩ := h2
  obtain ⟨_, _, rfl, rfl, h2⟩ := h2
  cases h2
  exact ⟨a, rfl, h1⟩
structure LikOk (ms : List Str) (l : Lik) : Prop where
  one : l.1 ∈ ms
  other : l.2.1 ∈ ms
  lo : 1 ≤ l.2.2
  hi : l.2.2 ≤ 9
abbrev four : List Int := [3, 2, 9, 12]
theorem drawn4 {rs : List Int} {m j : Nat} (hl : rs.length = ((List.replicate m four).flatten).length) (hb : ∀ (i : Nat) (r z : Int), rs[i]? = some r → ((List.replicate m four).flatten)[i]? = some z → 0 ≤ r ∧ r < z) (hj : j < m) :
    ∃ r0 r1 r2 r3 : Int, atI (rs.map V.int) (4 * (j : Int)) = some (.int r0) ∧ atI (rs.map V.int) (4 * (j : Int) + 1) = some (.int r1) ∧ atI (rs.map V.int) (4 * (j : Int) + 2) = some (.int r2) ∧ atI (rs.map V.int) (4 * (j : Int) + 3) = some (.int r3) ∧
      0 ≤ r2 ∧ r2 < 9 ∧ 0 ≤ r3 ∧ r3 < 12 := by
  have hl4 : rs.length = 4 * m := by rw [hl, len_rep]; show m * 4 = _; omega
  have get : ∀ i : Nat, i < 4 → ∃ r, rs[4 * j + i]? = some r ∧ atI (rs.map V.int) (4 * (j : Int) + i) = some (.int r) := fun i hi => by
    have hlt : 4 * j + i < rs.length := by omega
    refine ⟨rs[4 * j + i], List.getElem?_eq_getElem hlt, ?_⟩
    have e := atI_nat (xs := rs.map V.int) (j := 4 * j + i) (v := .int rs[4 * j + i]) (by rw [List.getElem?_map, List.getElem?_eq_getElem hlt]; rfl)
    rw [← e]
    congr 1
  obtain ⟨r0, _, e0⟩ := get 0 (by omega)
  obtain ⟨r1, _, e1⟩ := get 1 (by omega)
  obtain ⟨r2, g2, e2⟩ := get 2 (by omega)
  obtain ⟨r3, g3, e3⟩ := get 3 (by omega)
  obtain ⟨a2, b2⟩ := hb _ r2 9 g2 ((rep_at four m j 2 hj (by decide)).trans rfl)
  obtain ⟨a3, b3⟩ := hb _ r3 12 g3 ((rep_at four m j 3 hj (by decide)).trans rfl)
  refine ⟨r0, r1, r2, r3, ?_, e1, e2, e3, a2, b2, a3, b3⟩
  rw [← e0]
  congr 1
def spLikes (K : PySem.W.Frag) : Sp := fun vs H Q _ => ∃ (a m : Addr) (ns : List Int) (ms : List Str) (k : Int), vs = [.ref a, .int k, .ref m] ∧ Scr K H a ns ∧ 0 ≤ k ∧ k ≤ 1000 ∧ H m = some (.lst (ms.map V.str)) ∧ ms.length ≤ 6 ∧
  ∀ (v : V) (ls : List Lik) (H' : Hp), Rep K H' (liksD ls) v → (∀ l ∈ ls, LikOk ms l) → ls.length ≤ 36 → Same H H' → Q v H'
section
variable {P : Program} {w : World} {K : PySem.W.Frag} {mg : Str → Option Value} {base : Heap} {t : Adr}
theorem ok__law_likes (T : Txt K mg t) : FnOk P w K mg base CX0 2 t.a__law_likes t.d__law_likes ["_law_script", "_law_k", "_law_marks"] (spLikes K) := by
  refine T.F__law_likes.ok sc__law_likes (fun vs H Q E h => ?_) (fun cdv A outer s H vs Q E hr h => ?_)
  · obtain ⟨a, m, ns, ms, k, rfl, _⟩ := h; rfl
  · obtain ⟨a, m, ns, ms, k, rfl, hs, hk0, hk1, hm, hml, qq⟩ := h
    let X_ : Cx := (cxOf CX0 P w K mg base ["_law_script", "_law_k", "_law_marks", "_law_pairs", "_law_one", "_law_draws_here", "_law_likes_here", "_law_j", "_law_other"] "_law_likes" (defScope s__law_likes) t.a__law_likes cdv A outer s H E).nox
    let u1_ : PSV (X_) (List.drop 2 (bodyOf (stAt (defBody s__law_likes) 4))) := ⟨_, (pss_one (ps_if (pt_cmpR (op_eqK K hr.units) (pe_ix (ix_K K) (pv 5) (pe_op (op_mulU K) pe_int (pv 7)) (fun _ _ => rfl)) pe_int (nomark _)) (pss_one (ps_expr (pe_bmK K PySem.F.plainAttrs_list PySem.F.slot_list_insert PySem.F.type_list_insert mt_insert (pv 6) (pa_cons (pe_op op_mod (pe_ix (ix_K K) (pv 5) (pe_op (op_addU K) (pe_op (op_mulU K) pe_int (pv 7)) pe_int) (fun _ _ => rfl)) (pe_op (op_addU K) (pe_callB (call_lenK K) rfl T.N_len bt_len (pa_cons (pv 6) pa_nil)) pe_int)) (pa_cons (pe_tup (pa_cons (pv 4) (pa_cons (pv 8) (pa_cons (pe_op (op_addU K) pe_int (pe_ix (ix_K K) (pv 5) (pe_op (op_addU K) (pe_op (op_mulU K) pe_int (pv 7)) pe_int) (fun _ _ => rfl))) pa_nil)))) pa_nil))))) pss_nil))⟩
    let w1_ : TS := u1_.1
    have e1_ : PSs (X_) (List.drop 2 (bodyOf (stAt (defBody s__law_likes) 4))) w1_ := u1_.2
    let u2_ : PSV (X_) (List.drop 1 (bodyOf (stAt (defBody s__law_likes) 4))) := ⟨_, (pss_cons (ps_mid (ps_if (pt_cmpR (op_eqK K hr.units) (pe_ix (ix_K K) (pv 5) (pe_op (op_addU K) (pe_op (op_mulU K) pe_int (pv 7)) pe_int) (fun _ _ => rfl)) pe_int (nomark _)) (pss_one (ps_asg (pe_tup (pa_cons (pv 8) (pa_cons (pv 4) pa_nil))) (pg_tupK K (n := 2) rfl (pgs_cons (pg_name (i := 4) sc__law_likes.nd rfl (Or.inr rfl)) (pgs_cons (pg_name (i := 8) sc__law_likes.nd rfl (Or.inl rfl)) pgs_nil))))) pss_nil))
      e1_)⟩
    let w2_ : TS := u2_.1
    have e2_ : PSs (X_) (List.drop 1 (bodyOf (stAt (defBody s__law_likes) 4))) w2_ := u2_.2
    let u3_ : PSV (X_) (List.drop 5 (defBody s__law_likes)) := ⟨_, (pss_one (ps_ret (pe_callTy (call_tupleK K) rfl T.N_tuple bt_tuple (pa_cons (pv 6) pa_nil))))⟩
    let w3_ : TS := u3_.1
    have e3_ : PSs (X_) (List.drop 5 (defBody s__law_likes)) w3_ := u3_.2
    let u4_ : PSV (X_) (List.drop 4 (defBody s__law_likes)) := ⟨_, (pss_cons (ps_for PassesOwn.never rfl (pi_range1 rfl T.N_range (pa_cons (pe_callB (call_lenK K) rfl T.N_len bt_len (pa_cons (pv 3) pa_nil)) pa_nil)) (pg_name (i := 7) sc__law_likes.nd rfl (Or.inl rfl))
      (pss_cons (ps_asg (pe_ix (ix_K K) (pv 3) (pv 7) (fun _ _ => rfl)) (pg_tupK K (n := 2) rfl (pgs_cons (pg_name (i := 4) sc__law_likes.nd rfl (Or.inr rfl)) (pgs_cons (pg_name (i := 8) sc__law_likes.nd rfl (Or.inl rfl)) pgs_nil))))
      e2_))
      e3_)⟩
    let w4_ : TS := u4_.1
    have e4_ : PSs (X_) (List.drop 4 (defBody s__law_likes)) w4_ := u4_.2
    let u5_ : PSV (X_) (List.drop 3 (defBody s__law_likes)) := ⟨_, (pss_cons (ps_set (i := 6) sc__law_likes.nd rfl (Or.inl rfl) (pe_lst pa_nil))
      e4_)⟩
    let w5_ : TS := u5_.1
    have e5_ : PSs (X_) (List.drop 3 (defBody s__law_likes)) w5_ := u5_.2
    let u6_ : PSV (X_) (List.drop 2 (defBody s__law_likes)) := ⟨_, (pss_cons (ps_set (i := 5) sc__law_likes.nd rfl (Or.inl rfl) (pe_call (ok__law_draws (K := K) T) (hr.mono (by decide)) rfl T.G__law_draws T.F__law_draws.kp T.B__law_draws .nil pass0 (pa_cons (pv 0) (pa_cons (pv 1) (pa_cons (pe_op (op_mulU K) (pe_lst (pa_cons pe_int (pa_cons pe_int (pa_cons pe_int (pa_cons pe_int pa_nil))))) (pe_callB (call_lenK K) rfl T.N_len bt_len (pa_cons (pv 3) pa_nil))) pa_nil)))))
      e5_)⟩
    let w6_ : TS := u6_.1
    have e6_ : PSs (X_) (List.drop 2 (defBody s__law_likes)) w6_ := u6_.2
    let u7_ : PSV (X_) (List.drop 1 (defBody s__law_likes)) := ⟨_, (pss_cons (ps_for PassesOwn.never rfl (pi_range1 rfl T.N_range (pa_cons (pe_callB (call_lenK K) rfl T.N_len bt_len (pa_cons (pv 2) pa_nil)) pa_nil)) (pg_name (i := 4) sc__law_likes.nd rfl (Or.inr rfl))
      (pss_one (ps_set (i := 3) sc__law_likes.nd rfl (Or.inl rfl) (pe_op (op_addU K) (pv 3) (pe_cmp1 ["_law_script", "_law_k", "_law_marks", "_law_pairs", "_law_one", "_law_draws_here", "_law_likes_here", "_law_j", "_law_other"] (defScope s__law_likes) ["_law_other", "_law_marks", "_law_one"] [none, some 2, some 4] (pi_range2 rfl T.N_range (pa_cons (pv 4) (pa_cons (pe_callB (call_lenK K) rfl T.N_len bt_len (pa_cons (pv 2) pa_nil)) pa_nil)))
      (fun _ _ _ _ _ => (pg_name (i := 0) (show List.Nodup (["_law_other", "_law_marks", "_law_one"] : List Str) from (by decide +kernel)) rfl (Or.inl rfl))) (fun _ _ _ _ _ => pts_nil) (fun _ _ _ _ _ => (pe_tup (pa_cons (pe_ix (ix_K K) (pv 1) (pv 2) (fun _ _ => rfl)) (pa_cons (pe_ix (ix_K K) (pv 1) (pv 0) (fun _ _ => rfl)) pa_nil)))))))))
      e6_)⟩
    let w7_ : TS := u7_.1
    have e7_ : PSs (X_) (List.drop 1 (defBody s__law_likes)) w7_ := u7_.2
    refine ⟨_, (pss_cons (ps_set (i := 3) sc__law_likes.nd rfl (Or.inl rfl) (pe_lst pa_nil))
      e7_), ?_⟩
    have hmL : ((ms.map V.str).length : Int) = ms.length := by rw [List.length_map]
    have big : ∀ x : Int, 0 ≤ x → x ≤ 1000 → -(2 ^ 62) ≤ x ∧ x < 2 ^ 62 := fun x h0 h1 => ⟨Int.le_trans (by decide) h0, Int.lt_of_le_of_lt h1 (by decide)⟩
    refine ⟨Nat.zero_le _, fun p0 hp0 => ?_⟩
    have s0 : Same H (upd H p0 (.lst [])) := Same.new hp0
    have h0 : upd H p0 (.lst []) p0 = some (.lst []) := upd_same
    generalize upd H p0 (.lst []) = H0 at s0 h0
    refine ⟨_, rfl, _, _, rfl, .inl ⟨_, SqL.of (s0 _ _ hm), rfl⟩, _, rfl, (big _ (by omega) (by omega)).1, (big _ (by omega) (by omega)).2, ?_⟩
    refine for_range (fun i σ H' => ∃ (us : List V) (prs : List Ms) (pp : Addr) (o4 : Option V), σ = [some (.ref a), some (.int k), some (.ref m), some (.ref pp), o4, none, none, none, none] ∧ H' pp = some (.lst us) ∧ RepL K H' (prs.map msD) us ∧ (∀ p ∈ prs, p.1 ∈ ms ∧ p.2 ∈ ms) ∧ prs.length ≤ 6 * i ∧ Same H H')
      ⟨[], [], p0, none, rfl, h0, rfl, fun p hp => absurd hp (by simp), Nat.zero_le _, s0⟩ ?_ ?_
    · rintro i σ H2 hi ⟨us, prs, pp, o4, rfl, hpp, rl, hok, hlen, s2⟩
      rw [Int.zero_add]
      have him : i < ms.length := by
        have : i < ((ms.map V.str).length : Int).toNat := hi
        omega
      have hm2 := s2 _ _ hm
      have hul := repl_len rl
      refine ⟨_, rfl, _, rfl, _, rfl, _, _, rfl, .inl ⟨_, SqL.of hm2, rfl⟩, _, _, rfl, ⟨(big _ (by omega) (by omega)).1, (big _ (by omega) (by omega)).2, (big _ (by omega) (by omega)).1, (big _ (by omega) (by omega)).2⟩, fun D hD => ?_⟩
      obtain ⟨x, hx, ex⟩ := str_atI (xs := ms) (r := (i : Int)) (by omega) (by omega)
      refine comp_rng (fun i ys H' => ∃ qs : List Ms, RepL K H' (qs.map msD) ys ∧ ∀ p ∈ qs, p.1 ∈ ms ∧ p.2 ∈ ms) hD ⟨[], rfl, fun p hp => absurd hp (by simp)⟩ ?_ ?_
      · rintro i' mm ys H3 hi' hmm s3 hy hl ⟨qs, rq, hqs⟩
        obtain ⟨y, hy', ey⟩ := str_atI (xs := ms) (r := (i : Int) + i') (by omega) (by omega)
        have hm3 := s3 _ _ hm2
        refine ⟨SubS.set (SubS.refl _) rfl, _, rfl, _, rfl, .inl ⟨m, _, _, _, rfl, rfl, SqL.of hm3, ex, _, rfl, _, rfl, .inl ⟨m, _, _, _, rfl, rfl, SqL.of hm3, ey, by show 2 ≤ sizeLine; decide, fun z hz => ?_⟩⟩⟩
        have s4 : Same H3 (upd H3 z (.tup [.str x, .str y])) := Same.new hz
        refine wl_next hD hi' hmm (small1000 (by omega)) s3 hy hl s4 ⟨qs ++ [(x, y)], ?_, fun p hp => ?_⟩
        · rw [List.map_append]
          have k2 := keepT_upd (K := K) (ys := ys ++ [.ref z]) (s4 _ _ hy)
          refine RepL.append ((rq.same s4).keepT k2 (mss_pure qs)) (RepL.one ?_)
          exact Rep.keepT k2 (show pureD (msD (x, y)) = true from rfl) (rep_tup upd_same ⟨_, _, rfl, rfl, _, _, rfl, rfl, rfl⟩)
        · rcases List.mem_append.mp hp with g | g
          · exact hqs p g
          · rw [List.mem_singleton.mp g]; exact ⟨hx, hy'⟩
      · rintro ys H3 s3 hy hl ⟨qs, rq, hqs⟩
        have hql := repl_len rq
        refine .inr (.inr (.inl ⟨pp, D, us, ys, rfl, rfl, s3 _ _ hpp, hy, small8 (by omega), fun p3 hp3 => ?_⟩))
        have s4 := Same.new (o := .lst (us ++ ys)) hp3
        refine ⟨us ++ ys, prs ++ qs, p3, _, rfl, upd_same, ?_, fun p hp => ?_, by rw [List.length_append]; omega, (s2.trans s3).trans s4⟩
        · rw [List.map_append]
          exact RepL.append ((rl.same s3).same s4) (rq.same s4)
        · rcases List.mem_append.mp hp with g | g
          · exact hok p g
          · exact hqs p g
    · rintro σ H2 ⟨us, prs, pp, o4, rfl, hpp, rl, hok, hlen, s2⟩
      have hul := repl_len rl
      have hlen : prs.length ≤ 36 := by
        have : prs.length ≤ 6 * ((ms.map V.str).length : Int).toNat := hlen
        omega
      have hU : ((us.length : Nat) : Int).toNat = us.length := rfl
      refine ⟨_, rfl, _, rfl, by show 4 ≤ sizeLine; decide, fun p4 hp4 => ?_⟩
      have s4 : Same H2 (upd H2 p4 (.lst (four.map V.int))) := Same.new hp4
      refine ⟨_, rfl, _, _, rfl, .inl ⟨us, SqL.of (s4 _ _ hpp), rfl⟩, ?_⟩
      refine .inr (.inl ⟨p4, _, four.map V.int, rfl, rfl, (by show upd H2 p4 _ p4 = _; exact upd_same), Int.le_trans (by decide) (show (0 : Int) ≤ us.length by omega), Int.lt_of_le_of_lt (show (us.length : Int) ≤ 36 by omega) (by decide), ?_, fun p5 hp5 => ?_⟩)
      · show 4 * us.length ≤ sizeLine
        exact small8 (by omega)
      have s5 := Same.new (o := .lst (List.replicate us.length (four.map V.int)).flatten) hp5
      have s05 := (s2.trans s4).trans s5
      have l5 : ((List.replicate us.length four).flatten).length = us.length * 4 := len_rep four us.length
      refine ⟨a, p5, ns, (List.replicate us.length four).flatten, k, rfl, hs.same s05, hk0, hk1, ?_, ?_, by rw [l5]; omega, fun q rs H6 hq hq6 hrl hrb s6 => ?_⟩
      · show upd _ p5 _ p5 = _
        rw [upd_same, hU, rep_ints]
      · intro z hz
        have : 0 < z ∧ z ≤ 26 := (show ∀ z ∈ (four : List Int), 0 < z ∧ z ≤ 26 by decide) z (rep_mem hz)
        exact ⟨this.1, Int.lt_of_le_of_lt this.2 (by decide)⟩
      have s26 := (s4.trans s5).trans s6
      have hpp6 := s26 _ _ hpp
      have rl6 := rl.same s26
      have s06 := s05.trans s6
      refine ⟨Nat.zero_le _, fun p7 hp7 => ?_⟩
      have s7 : Same H6 (upd H6 p7 (.lst [])) := Same.new hp7
      have h7 : upd H6 p7 (.lst []) p7 = some (.lst []) := upd_same
      generalize upd H6 p7 (.lst []) = H7 at s7 h7
      refine ⟨_, rfl, _, _, rfl, .inl ⟨_, SqL.of (s7 _ _ hpp6), rfl⟩, _, rfl, (big _ (by omega) (by omega)).1, (big _ (by omega) (by omega)).2, ?_⟩
      refine for_range (fun i σ H' => ∃ (vs : List V) (ls : List Lik) (o4 o7 o8 : Option V), σ = [some (.ref a), some (.int k), some (.ref m), some (.ref pp), o4, some (.ref q), some (.ref p7), o7, o8] ∧ H' p7 = some (.lst vs) ∧ RepL K H' (ls.map likD) vs ∧ (∀ l ∈ ls, LikOk ms l) ∧ ls.length ≤ i ∧ Same H6 H')
        ⟨[], [], _, _, _, rfl, h7, rfl, fun p hp => absurd hp (by simp), Nat.zero_le _, s7⟩ ?_ ?_
      · rintro i σ H8 hi ⟨vs, ls, o4, o7, o8, rfl, h78, rl8, hok8, hl8, s8⟩
        rw [Int.zero_add]
        have him : i < us.length := hi
        have hvl := repl_len rl8
        have hpp8 := s8 _ _ hpp6
        have hq8 := s8 _ _ hq6
        obtain ⟨r0, r1, r2, r3, e0, e1, e2, e3, g20, g21, g30, g31⟩ := drawn4 hrl hrb him
        have hui : us[i]? = some us[i] := List.getElem?_eq_getElem him
        obtain ⟨pr, hpr, ru⟩ := repl_at (rl6.same s8) hui
        obtain ⟨ad, ead, hsq⟩ := rep2 ru
        obtain ⟨m1, m2⟩ := hok pr (List.mem_of_getElem? hpr)
        have eat : atI us (i : Int) = some (.ref ad) := by rw [atI_nat hui, ead]
        refine ⟨_, rfl, _, rfl, .inl ⟨pp, _, _, _, rfl, rfl, SqL.of hpp8, eat, ?_⟩⟩
        refine ⟨ad, _, rfl, hsq, rfl, _, _, rfl, _, _, rfl, rfl, ?_⟩
        let M1_ : St → Hp → Prop := fun σ H' => Same H8 H' ∧ ∃ x y : Str, x ∈ ms ∧ y ∈ ms ∧ σ = [some (.ref a), some (.int k), some (.ref m), some (.ref pp), some (.str x), some (.ref q), some (.ref p7), some (.int i), some (.str y)]
        refine ⟨M1_, ?_, ?_⟩
        · refine ⟨_, rfl, _, rfl, .inl ⟨_, _, rfl, rfl, .inl (.inl ⟨by decide, by decide⟩), .inl ⟨_, _, rfl, rfl, .inl ⟨q, _, _, _, rfl, rfl, SqL.of hq8, e1, .inl ⟨rfl, _, rfl, ite2 (fun _ => ?_) (fun _ => ?_)⟩⟩⟩⟩⟩
          · refine ⟨_, rfl, _, rfl, by show 2 ≤ sizeLine; decide, fun z hz => ?_⟩
            refine ⟨z, _, rfl, SqT.of upd_same, rfl, _, _, rfl, _, _, rfl, rfl, ?_⟩
            exact ⟨Same.new hz, _, _, m2, m1, rfl⟩
          · exact ⟨Same.refl _, _, _, m1, m2, rfl⟩
        · rintro σ H9 ⟨s9, x, y, hx, hy, rfl⟩
          have hq9 := s9 _ _ hq8
          have h79 := s9 _ _ h78
          refine ⟨_, rfl, _, rfl, .inl ⟨_, _, rfl, rfl, .inl (.inl ⟨by decide, by decide⟩), .inl ⟨q, _, _, _, rfl, rfl, SqL.of hq9, e0, .inl ⟨rfl, _, rfl, ite2 (fun _ => ?_) (fun _ => ?_)⟩⟩⟩⟩
          · have hv36 : vs.length ≤ 36 := by omega
            have hpos : (0 : Int) < (vs.length : Int) + 1 := by omega
            refine ⟨_, rfl, .inl ⟨rfl, _, SqL.of h79⟩, _, rfl, _, rfl, .inl ⟨_, _, rfl, rfl, .inl (.inl ⟨by decide, by decide⟩), .inl ⟨_, _, rfl, rfl, .inl ⟨q, _, _, _, rfl, rfl, SqL.of hq9, e3, ?_⟩⟩⟩⟩
            refine ⟨_, rfl, _, _, rfl, .inl ⟨_, SqL.of h79, rfl⟩, .inl ⟨_, _, rfl, rfl, _, _, rfl, rfl, hpos, ?_⟩⟩
            refine ⟨_, rfl, _, rfl, _, rfl, _, rfl, .inl ⟨_, _, rfl, rfl, .inl (.inl ⟨by decide, by decide⟩), .inl ⟨_, _, rfl, rfl, .inl ⟨q, _, _, _, rfl, rfl, SqL.of hq9, e2, .inl ⟨_, _, rfl, rfl, by show 3 ≤ sizeLine; decide, fun z hz => ?_⟩⟩⟩⟩⟩
            have s10 : Same H9 (upd H9 z (.tup [.str x, .str y, .int (1 + r2)])) := Same.new hz
            have hz10 : upd H9 z (.tup [.str x, .str y, .int (1 + r2)]) z = some (.tup [.str x, .str y, .int (1 + r2)]) := upd_same
            have g0 : 0 ≤ r3 % ((vs.length : Int) + 1) := Int.emod_nonneg _ (by omega)
            have g1 : r3 % ((vs.length : Int) + 1) < (vs.length : Int) + 1 := Int.emod_lt_of_pos _ hpos
            have h710 := s10 _ _ h79
            have rl10 := (rl8.same s9).same s10
            refine ⟨p7, vs, r3 % ((vs.length : Int) + 1), .ref z, rfl, rfl, h710, g0, Int.lt_of_lt_of_le g1 (Int.le_trans (show (vs.length : Int) + 1 ≤ 37 by omega) (by decide)), small1000 (by omega), ?_⟩
            generalize upd H9 z (.tup [.str x, .str y, .int (1 + r2)]) = H10 at s10 hz10 h710 rl10
            generalize (r3 % ((vs.length : Int) + 1)).toNat = n3
            have ku : KeepT K H10 (upd H10 p7 (.lst (vs.take n3 ++ .ref z :: vs.drop n3))) := keepT_upd h710
            have rlu := rl10.keepT ku (liks_pure ls)
            have repz : Rep K (upd H10 p7 (.lst (vs.take n3 ++ .ref z :: vs.drop n3))) (likD (x, y, 1 + r2)) (.ref z) :=
              Rep.keepT ku (likD_pure _) (rep_tup hz10 ⟨_, _, rfl, rfl, _, _, rfl, rfl, _, _, rfl, rfl, rfl⟩)
            refine ⟨_, insAt ls n3 (x, y, 1 + r2), _, _, _, rfl, upd_same, ?_, fun l hl => ?_, by rw [insAt_len]; omega, fun b o e => ?_⟩
            · rw [← insAt_map]
              exact RepL.append (rlu.take _) ⟨_, _, rfl, repz, rlu.drop _⟩
            · rcases insAt_mem.mp hl with rfl | hl
              · exact ⟨hx, hy, by show 1 ≤ 1 + r2; omega, by show 1 + r2 ≤ 9; omega⟩
              · exact hok8 l hl
            · rw [upd_ne (ne_of_none e hp7)]
              exact ((s8.trans s9).trans s10) b o e
          · exact ⟨vs, ls, _, _, _, rfl, h79, rl8.same s9, hok8, by omega, s8.trans s9⟩
      · rintro σ H8 ⟨vs, ls, o4, o7, o8, rfl, h78, rl8, hok8, hl8, s8⟩
        have hll : ls.length ≤ 36 := by
          have : ls.length ≤ us.length := hl8
          omega
        refine ⟨_, rfl, p7, vs, rfl, .inl ⟨SqL.of h78, fun l hl => ?_⟩⟩
        have s9 := Same.new (o := .tup vs) hl
        exact qq _ ls _ (rep_tup upd_same (rl8.same s9)) hok8 hll ((s06.trans s8).trans s9)
end
abbrev Lay := Str × Int
def layD (x : Lay) : PyData := .tuple [.str x.1, .int x.2]
def blkD (b : List Lay) : PyData := .tuple (b.map layD)
def blksD (bs : List (List Lay)) : PyData := .tuple (bs.map blkD)
theorem lays_pure (b : List Lay) : pureDs (b.map layD) = true := pureDs_map fun x _ => rfl
theorem blkD_pure (b : List Lay) : pureD (blkD b) = true := lays_pure b
theorem blks_pure (bs : List (List Lay)) : pureDs (bs.map blkD) = true := pureDs_map fun x _ => blkD_pure x
structure Bor where
  name : Str
  place : Int
  top : Int
  blocks : List (List Lay)
def borD (b : Bor) : PyData := .tuple [.str b.name, .int b.place, .int b.top, blksD b.blocks]
theorem borD_pure (b : Bor) : pureD (borD b) = true := by
  show (true && (true && (true && (pureDs (b.blocks.map blkD) && true)))) = true
  rw [blks_pure]
  rfl
theorem bors_pure (bs : List Bor) : pureDs (bs.map borD) = true := pureDs_map fun b _ => borD_pure b
structure BlksOk (ms : List Str) (bs : List (List Lay)) : Prop where
  ne : bs ≠ []
  each : ∀ b ∈ bs, b ≠ []
  lay : ∀ b ∈ bs, ∀ x ∈ b, x.1 ∈ ms
  few : bs.flatten.length ≤ 6
abbrev bsz (n far : Int) : List Int := [9, 6] ++ (List.replicate 6 [n, far, 4]).flatten
theorem drawnB {rs : List Int} {n far : Int} (hl : rs.length = 20) (hb : ∀ (i : Nat) (r z : Int), rs[i]? = some r → (bsz n far)[i]? = some z → 0 ≤ r ∧ r < z) :
    (∃ r0 r1 : Int, atI (rs.map V.int) 0 = some (.int r0) ∧ atI (rs.map V.int) 1 = some (.int r1) ∧ 0 ≤ r1 ∧ r1 < 6) ∧
    ∀ j : Nat, j < 6 → ∃ a b c : Int, atI (rs.map V.int) (2 + 3 * (j : Int)) = some (.int a) ∧ atI (rs.map V.int) (3 + 3 * (j : Int)) = some (.int b) ∧ atI (rs.map V.int) (4 + 3 * (j : Int)) = some (.int c) ∧ 0 ≤ a ∧ a < n ∧ 0 ≤ b := by
  have get : ∀ i : Nat, i < 20 → ∃ r, rs[i]? = some r ∧ atI (rs.map V.int) (i : Int) = some (.int r) := fun i hi => by
    have hlt : i < rs.length := by omega
    exact ⟨rs[i], List.getElem?_eq_getElem hlt, atI_nat (by rw [List.getElem?_map, List.getElem?_eq_getElem hlt]; rfl)⟩
  obtain ⟨r0, _, e0⟩ := get 0 (by decide)
  obtain ⟨r1, g1, e1⟩ := get 1 (by decide)
  obtain ⟨b1, b2⟩ := hb 1 r1 6 g1 rfl
  refine ⟨⟨r0, r1, e0, e1, b1, b2⟩, fun j hj => ?_⟩
  obtain ⟨a, ga, ea⟩ := get (2 + 3 * j) (by omega)
  obtain ⟨b, gb, eb⟩ := get (3 + 3 * j) (by omega)
  obtain ⟨c, gc, ec⟩ := get (4 + 3 * j) (by omega)
  have z : ∀ i : Nat, i < 3 → (bsz n far)[2 + (3 * j + i)]? = [n, far, 4][i]? := fun i hi => by
    show ([9, 6] ++ (List.replicate 6 [n, far, 4]).flatten)[2 + (3 * j + i)]? = _
    rw [List.getElem?_append_right (by show 2 ≤ _; omega)]
    show (List.replicate 6 [n, far, 4]).flatten[2 + (3 * j + i) - 2]? = _
    rw [show 2 + (3 * j + i) - 2 = [n, far, 4].length * j + i from by show _ = 3 * j + i; omega]
    exact rep_at [n, far, 4] 6 j i hj (by show i < 3; exact hi)
  obtain ⟨a0, a1⟩ := hb (2 + 3 * j) a n ga (z 0 (by decide))
  obtain ⟨b0, _⟩ := hb (3 + 3 * j) b far gb (by have := z 1 (by decide); rw [show 2 + (3 * j + 1) = 3 + 3 * j by omega] at this; exact this)
  exact ⟨a, b, c, by rw [← ea]; congr 1, by rw [← eb]; congr 1, by rw [← ec]; congr 1, a0, a1, b0⟩
def spBore (K : PySem.W.Frag) : Sp := fun vs H Q _ => ∃ (a m : Addr) (ns : List Int) (ms : List Str) (nm : Str) (k pl : Int), vs = [.ref a, .int k, .str nm, .int pl, .ref m] ∧ Scr K H a ns ∧ 0 ≤ k ∧ k ≤ 1000 ∧ H m = some (.lst (ms.map V.str)) ∧ 0 < ms.length ∧ ms.length ≤ 6 ∧
  ∀ (v : V) (b : Bor) (H' : Hp), Rep K H' (borD b) v → b.name = nm → BlksOk ms b.blocks → Same H H' → Q v H'
section
variable {P : Program} {w : World} {K : PySem.W.Frag} {mg : Str → Option Value} {base : Heap} {t : Adr}
theorem ok__law_bore (T : Txt K mg t) : FnOk P w K mg base CX0 2 t.a__law_bore t.d__law_bore ["_law_script", "_law_k", "_law_name", "_law_place", "_law_marks"] (spBore K) := by
  refine T.F__law_bore.ok sc__law_bore (fun vs H Q E h => ?_) (fun cdv A outer s H vs Q E hr h => ?_)
  · obtain ⟨a, m, ns, ms, nm, k, pl, rfl, _⟩ := h; rfl
  · obtain ⟨a, m, ns, ms, nm, k, pl, rfl, hs, k0, k1, hm, m0, m6, qq⟩ := h
    let X_ : Cx := (cxOf CX0 P w K mg base ["_law_script", "_law_k", "_law_name", "_law_place", "_law_marks", "_law_far", "_law_draws_here", "_law_blocks", "_law_block", "_law_j"] "_law_bore" (defScope s__law_bore) t.a__law_bore cdv A outer s H E).nox
    let u1_ : PSV (X_) (List.drop 1 (bodyOf (stAt (bodyOf (stAt (defBody s__law_bore) 4)) 1))) := ⟨_, (pss_one (ps_set (i := 8) sc__law_bore.nd rfl (Or.inl rfl) (pe_lst pa_nil)))⟩
    let w1_ : TS := u1_.1
    have e1_ : PSs (X_) (List.drop 1 (bodyOf (stAt (bodyOf (stAt (defBody s__law_bore) 4)) 1))) w1_ := u1_.2
    let u2_ : PSV (X_) (List.drop 1 (bodyOf (stAt (defBody s__law_bore) 4))) := ⟨_, (pss_one (ps_if (PW.pt (pw_or (pt_cmpR (op_eqK K hr.units) (pe_ix (ix_K K) (pv 6) (pe_op (op_addU K) pe_int (pe_op (op_mulU K) pe_int (pv 9))) (fun _ _ => rfl)) pe_int (nomark _)) (pw_or1 (pt_cmpR (op_eqK K hr.units) (pv 9) (pe_ix (ix_K K) (pv 6) pe_int (fun _ _ => rfl)) (nomark _))))) (pss_cons (ps_expr (pe_bmK K PySem.F.plainAttrs_list PySem.F.slot_list_append PySem.F.type_list_append mt_append (pv 7) (pa_cons (pe_callTy (call_tupleK K) rfl T.N_tuple bt_tuple (pa_cons (pv 8) pa_nil)) pa_nil)))
      e1_) pss_nil))⟩
    let w2_ : TS := u2_.1
    have e2_ : PSs (X_) (List.drop 1 (bodyOf (stAt (defBody s__law_bore) 4))) w2_ := u2_.2
    let u3_ : PSV (X_) (List.drop 5 (defBody s__law_bore)) := ⟨_, (pss_one (ps_ret (pe_tup (pa_cons (pv 2) (pa_cons (pv 3) (pa_cons (pe_ix (ix_K K) (pv 6) pe_int (fun _ _ => rfl)) (pa_cons (pe_callTy (call_tupleK K) rfl T.N_tuple bt_tuple (pa_cons (pv 7) pa_nil)) pa_nil)))))))⟩
    let w3_ : TS := u3_.1
    have e3_ : PSs (X_) (List.drop 5 (defBody s__law_bore)) w3_ := u3_.2
    let u4_ : PSV (X_) (List.drop 4 (defBody s__law_bore)) := ⟨_, (pss_cons (ps_for PassesOwn.never rfl (pi_range1 rfl T.N_range (pa_cons (pe_op (op_addU K) pe_int (pe_ix (ix_K K) (pv 6) pe_int (fun _ _ => rfl))) pa_nil)) (pg_name (i := 9) sc__law_bore.nd rfl (Or.inl rfl))
      (pss_cons (ps_expr (pe_bmK K PySem.F.plainAttrs_list PySem.F.slot_list_append PySem.F.type_list_append mt_append (pv 8) (pa_cons (pe_tup (pa_cons (pe_ix (ix_K K) (pv 4) (pe_ix (ix_K K) (pv 6) (pe_op (op_addU K) pe_int (pe_op (op_mulU K) pe_int (pv 9))) (fun _ _ => rfl)) (fun _ _ => rfl)) (pa_cons (pe_op (op_addU K) pe_int (pe_ix (ix_K K) (pv 6) (pe_op (op_addU K) pe_int (pe_op (op_mulU K) pe_int (pv 9))) (fun _ _ => rfl))) pa_nil))) pa_nil)))
      e2_))
      e3_)⟩
    let w4_ : TS := u4_.1
    have e4_ : PSs (X_) (List.drop 4 (defBody s__law_bore)) w4_ := u4_.2
    let u5_ : PSV (X_) (List.drop 3 (defBody s__law_bore)) := ⟨_, (pss_cons (ps_set (i := 8) sc__law_bore.nd rfl (Or.inl rfl) (pe_lst pa_nil))
      e4_)⟩
    let w5_ : TS := u5_.1
    have e5_ : PSs (X_) (List.drop 3 (defBody s__law_bore)) w5_ := u5_.2
    let u6_ : PSV (X_) (List.drop 2 (defBody s__law_bore)) := ⟨_, (pss_cons (ps_set (i := 7) sc__law_bore.nd rfl (Or.inl rfl) (pe_lst pa_nil))
      e5_)⟩
    let w6_ : TS := u6_.1
    have e6_ : PSs (X_) (List.drop 2 (defBody s__law_bore)) w6_ := u6_.2
    let u7_ : PSV (X_) (List.drop 1 (defBody s__law_bore)) := ⟨_, (pss_cons (ps_set (i := 6) sc__law_bore.nd rfl (Or.inl rfl) (pe_call (ok__law_draws (K := K) T) (hr.mono (by decide)) rfl T.G__law_draws T.F__law_draws.kp T.B__law_draws .nil pass0 (pa_cons (pv 0) (pa_cons (pv 1) (pa_cons (pe_op (op_addU K) (pe_lst (pa_cons pe_int (pa_cons pe_int pa_nil))) (pe_op (op_mulU K) (pe_lst (pa_cons (pe_callB (call_lenK K) rfl T.N_len bt_len (pa_cons (pv 4) pa_nil)) (pa_cons (pv 5) (pa_cons pe_int pa_nil)))) pe_int)) pa_nil)))))
      e6_)⟩
    let w7_ : TS := u7_.1
    have e7_ : PSs (X_) (List.drop 1 (defBody s__law_bore)) w7_ := u7_.2
    refine ⟨_, (pss_cons (ps_set (i := 5) sc__law_bore.nd rfl (Or.inl rfl) (pe_ix (ix_K K) (pe_lst (pa_cons pe_int (pa_cons pe_int (pa_cons (pe_op op_pow pe_int pe_int) pa_nil)))) (pe_ix (ix_K K) (pe_call (ok__law_draws (K := K) T) (hr.mono (by decide)) rfl T.G__law_draws T.F__law_draws.kp T.B__law_draws .nil pass0 (pa_cons (pv 0) (pa_cons pe_int (pa_cons (pe_lst (pa_cons pe_int pa_nil)) pa_nil)))) pe_int (fun _ _ => rfl)) (fun _ _ => rfl)))
      e7_), ?_⟩
    have mln : (ms.map V.str).length = ms.length := List.length_map ..
    have p59 : (0 : Int) < 10 ^ 59 ∧ (10 : Int) ^ 59 < 2 ^ 1000 := by decide
    refine ⟨_, _, rfl, rfl, ⟨by decide, by decide, by decide⟩, by show 3 ≤ sizeLine; decide, fun pf hpf => ?_⟩
    have s1 : Same H (upd H pf (.lst ([9, 9, 10 ^ 59].map V.int))) := Same.new hpf
    have hpf1 : (upd H pf (.lst ([9, 9, 10 ^ 59].map V.int))) pf = some (.lst ([9, 9, 10 ^ 59].map V.int)) := upd_same
    refine ⟨_, rfl, by show 1 ≤ sizeLine; decide, fun p3 hp3 => ?_⟩
    have s2 := Same.new (o := .lst ([3].map V.int)) hp3
    refine ⟨a, p3, ns, [3], 0, rfl, hs.same (s1.trans s2), by decide, by decide, upd_same, ?_, by decide, fun pd rs0 H3 _ hpd hrl0 hrb0 s3 => ?_⟩
    · intro z hz
      rw [List.mem_singleton.mp hz]
      exact ⟨by decide, by decide⟩
    have hrl0' : rs0.length = 1 := hrl0
    obtain ⟨q0, e0⟩ : ∃ q0, rs0 = [q0] := by
      cases rs0 with
      | nil => cases hrl0'
      | cons x xs =>
        cases xs with
        | nil => exact ⟨x, rfl⟩
        | cons y ys => cases hrl0'
    subst e0
    obtain ⟨q1, q2⟩ := hrb0 0 q0 3 rfl rfl
    have hpf3 := (s2.trans s3) _ _ hpf1
    have s03 := (s1.trans s2).trans s3
    obtain ⟨far, hfar, f0, f1⟩ : ∃ far : Int, atI ([9, 9, 10 ^ 59].map V.int) q0 = some (.int far) ∧ 0 < far ∧ far < 2 ^ 1000 := by
      obtain ⟨j, rfl⟩ : ∃ j : Nat, q0 = j := ⟨q0.toNat, by omega⟩
      have hj : j < 3 := by omega
      rcases j with _ | _ | _ | j
      · exact ⟨9, rfl, by decide, by decide⟩
      · exact ⟨9, rfl, by decide, by decide⟩
      · exact ⟨10 ^ 59, rfl, p59.1, p59.2⟩
      · omega
    refine .inl ⟨pd, _, _, _, rfl, rfl, SqL.of hpd, atI_0, .inl ⟨pf, _, _, _, rfl, rfl, SqL.of hpf3, hfar, ?_⟩⟩
    refine ⟨_, rfl, _, rfl, by show 2 ≤ sizeLine; decide, fun p4 hp4 => ?_⟩
    have s4 : Same H3 (upd H3 p4 (.lst [.int 9, .int 6])) := Same.new hp4
    have hp44 : (upd H3 p4 (.lst [.int 9, .int 6])) p4 = some (.lst [.int 9, .int 6]) := upd_same
    generalize upd H3 p4 (.lst [.int 9, .int 6]) = H4 at s4 hp44
    have s04 := s03.trans s4
    refine ⟨_, rfl, _, _, rfl, .inl ⟨_, SqL.of (s04 _ _ hm), rfl⟩, _, rfl, by show 3 ≤ sizeLine; decide, fun p5 hp5 => ?_⟩
    rw [mln]
    have s5 : Same H4 (upd H4 p5 (.lst [.int (ms.length : Nat), .int far, .int 4])) := Same.new hp5
    have hp55 : (upd H4 p5 (.lst [.int (ms.length : Nat), .int far, .int 4])) p5 = some (.lst [.int (ms.length : Nat), .int far, .int 4]) := upd_same
    generalize upd H4 p5 (.lst [.int (ms.length : Nat), .int far, .int 4]) = H5 at s5 hp55
    refine .inr (.inl ⟨p5, 6, _, rfl, rfl, hp55, by decide, by decide, by show 3 * 6 ≤ sizeLine; decide, fun p6 hp6 => ?_⟩)
    have e6 : (List.replicate (6 : Int).toNat [V.int (ms.length : Nat), V.int far, V.int 4]).flatten = ((List.replicate 6 [(ms.length : Int), far, 4]).flatten).map V.int := rep_ints 6 [(ms.length : Int), far, 4]
    rw [e6]
    have s6 : Same H5 (upd H5 p6 (.lst (((List.replicate 6 [(ms.length : Int), far, 4]).flatten).map V.int))) := Same.new hp6
    have hp66 : (upd H5 p6 (.lst (((List.replicate 6 [(ms.length : Int), far, 4]).flatten).map V.int))) p6 = some (.lst (((List.replicate 6 [(ms.length : Int), far, 4]).flatten).map V.int)) := upd_same
    generalize upd H5 p6 (.lst (((List.replicate 6 [(ms.length : Int), far, 4]).flatten).map V.int)) = H6 at s6 hp66
    have hp46 := (s5.trans s6) _ _ hp44
    refine .inr (.inr (.inl ⟨p4, p6, _, _, rfl, rfl, hp46, hp66, small8 (by show 20 ≤ 1000; decide), fun p7 hp7 => ?_⟩))
    have e7 : [V.int 9, V.int 6] ++ ((List.replicate 6 [(ms.length : Int), far, 4]).flatten).map V.int = (bsz ms.length far).map V.int := by rw [List.map_append]; rfl
    rw [e7]
    have s7 : Same H6 (upd H6 p7 (.lst ((bsz ms.length far).map V.int))) := Same.new hp7
    have hp77 : (upd H6 p7 (.lst ((bsz ms.length far).map V.int))) p7 = some (.lst ((bsz ms.length far).map V.int)) := upd_same
    have s07 := ((s04.trans s5).trans s6).trans s7
    refine ⟨a, p7, ns, bsz ms.length far, k, rfl, hs.same s07, k0, k1, hp77, ?_, by show 20 ≤ 1000; decide, fun pr rs H8 _ hpr hrl hrb s8 => ?_⟩
    · intro z hz
      rcases List.mem_append.mp hz with h | h
      · simp only [List.mem_cons, List.not_mem_nil, or_false] at h
        rcases h with rfl | rfl <;> exact ⟨by decide, by decide⟩
      · have h' := rep_mem h
        simp only [List.mem_cons, List.not_mem_nil, or_false] at h'
        rcases h' with rfl | rfl | rfl
        · exact ⟨by omega, Int.lt_of_le_of_lt (show (ms.length : Int) ≤ 6 by omega) (by decide)⟩
        · exact ⟨f0, f1⟩
        · exact ⟨by decide, by decide⟩
    have s08 := s07.trans s8
    obtain ⟨⟨r0, r1, er0, er1, r1a, r1b⟩, dj⟩ := drawnB (n := ms.length) (far := far) hrl hrb
    refine ⟨Nat.zero_le _, fun pb hpb => ?_⟩
    have s9 : Same H8 (upd H8 pb (.lst [])) := Same.new hpb
    have hpb9 : (upd H8 pb (.lst [])) pb = some (.lst []) := upd_same
    generalize upd H8 pb (.lst []) = H9 at s9 hpb9
    refine ⟨Nat.zero_le _, fun pk hpk => ?_⟩
    have sA : Same H9 (upd H9 pk (.lst [])) := Same.new hpk
    have hpkA : (upd H9 pk (.lst [])) pk = some (.lst []) := upd_same
    have hpbA := sA _ _ hpb9
    have nkb : pk ≠ pb := (ne_of_none hpb9 hpk).symm
    generalize upd H9 pk (.lst []) = HA at sA hpkA hpbA
    have s8A := s9.trans sA
    have s0A := s08.trans s8A
    have hprA := s8A _ _ hpr
    have pbn : H8 pb = none := hpb
    refine ⟨_, rfl, .inl ⟨pr, _, _, _, rfl, rfl, SqL.of hprA, er1, .inl ⟨_, _, rfl, rfl, _, rfl, Int.le_trans (by decide) (show (0 : Int) ≤ 1 + r1 by omega), Int.lt_of_le_of_lt (show 1 + r1 ≤ 6 by omega) (by decide), ?_⟩⟩⟩
    refine for_range (fun i σ H' => ∃ (pk : Addr) (us ws : List V) (bs : List (List Lay)) (cur : List Lay) (o9 : Option V), σ = [some (.ref a), some (.int k), some (.str nm), some (.int pl), some (.ref m), some (.int far), some (.ref pr), some (.ref pb), some (.ref pk), o9] ∧ H' pb = some (.lst us) ∧ RepL K H' (bs.map blkD) us ∧ H' pk = some (.lst ws) ∧ RepL K H' (cur.map layD) ws ∧ pk ≠ pb ∧ H8 pk = none ∧
        (∀ b ∈ bs, b ≠ []) ∧ (∀ b ∈ bs, ∀ x ∈ b, x.1 ∈ ms) ∧ (∀ x ∈ cur, x.1 ∈ ms) ∧ bs.flatten.length + cur.length = i ∧ (i = (1 + r1).toNat → bs ≠ [] ∧ cur = []) ∧ Same H8 H')
      ⟨pk, [], [], [], [], none, rfl, hpbA, rfl, hpkA, rfl, nkb, s9.free hpk, fun b h => absurd h (by simp), fun b h => absurd h (by simp), fun b h => absurd h (by simp), rfl, fun e => absurd e (by omega), s8A⟩ ?_ ?_
    · rintro i σ HB hi ⟨pk, us, ws, bs, cur, o9, rfl, hpbB, rbs, hpkB, rcur, nkb, pkn, bne, bms, cms, hlen, hlast, s8B⟩
      rw [Int.zero_add]
      have hi6 : i < 6 := by omega
      obtain ⟨x, y, c, ex, ey, ec, x0, x1, y0⟩ := dj i hi6
      obtain ⟨mk, hmk, emk⟩ := str_atI (xs := ms) (r := x) x0 x1
      have hprB := s8B _ _ hpr
      have hmB := (s08.trans s8B) _ _ hm
      have wln := repl_len rcur
      have uln := repl_len rbs
      have blen : bs.length ≤ bs.flatten.length := by
        clear rbs uln hlen hlast bms
        induction bs with
        | nil => exact Nat.le_refl _
        | cons b bs ih =>
          have h1 := List.length_pos_iff.mpr (bne b List.mem_cons_self)
          have h2 := ih fun b h => bne b (List.mem_cons_of_mem _ h)
          rw [List.flatten_cons, List.length_append, List.length_cons]
          omega
      refine ⟨_, rfl, .inl ⟨rfl, _, SqL.of hpkB⟩, ?_⟩
      refine ⟨_, rfl, _, rfl, _, rfl, .inl ⟨_, _, rfl, rfl, .inl (.inl ⟨by decide, by decide⟩), .inl ⟨_, _, rfl, rfl, .inl ⟨pr, _, _, _, rfl, rfl, SqL.of hprB, ex, .inl ⟨m, _, _, _, rfl, rfl, SqL.of hmB, emk, ?_⟩⟩⟩⟩⟩
      refine ⟨_, rfl, _, rfl, .inl ⟨_, _, rfl, rfl, .inl (.inl ⟨by decide, by decide⟩), .inl ⟨_, _, rfl, rfl, .inl ⟨pr, _, _, _, rfl, rfl, SqL.of hprB, ey, .inl ⟨_, _, rfl, rfl, ?_⟩⟩⟩⟩⟩
      refine ⟨by show 2 ≤ sizeLine; decide, fun pz hpz => ?_⟩
      have sC := Same.new (o := .tup [.str mk, .int (1 + y)]) hpz
      have hpkC := sC _ _ hpkB
      refine ⟨pk, ws, _, rfl, rfl, hpkC, small1000 (by omega), ?_⟩
      have kC := keepT_upd (K := K) (ys := ws ++ [.ref pz]) hpkC
      have rcur' : RepL K (upd (upd HB pz (.tup [.str mk, .int (1 + y)])) pk (.lst (ws ++ [.ref pz]))) ((cur ++ [(mk, 1 + y)]).map layD) (ws ++ [.ref pz]) := by
        rw [List.map_append]
        exact RepL.append ((rcur.same sC).keepT kC (lays_pure cur)) (RepL.one (Rep.keepT kC rfl (rep_tup upd_same ⟨_, _, rfl, rfl, _, _, rfl, rfl, rfl⟩)))
      have rbs' := (rbs.same sC).keepT kC (blks_pure bs)
      have hpkD : (upd (upd HB pz (.tup [.str mk, .int (1 + y)])) pk (.lst (ws ++ [.ref pz]))) pk = some (.lst (ws ++ [.ref pz])) := upd_same
      have hpbD : (upd (upd HB pz (.tup [.str mk, .int (1 + y)])) pk (.lst (ws ++ [.ref pz]))) pb = some (.lst us) := by rw [upd_ne nkb.symm]; exact sC _ _ hpbB
      have s8D : Same H8 (upd (upd HB pz (.tup [.str mk, .int (1 + y)])) pk (.lst (ws ++ [.ref pz]))) := fun c o' e => by rw [upd_ne (ne_of_none e pkn)]; exact (s8B.trans sC) c o' e
      generalize upd (upd HB pz (.tup [.str mk, .int (1 + y)])) pk (.lst (ws ++ [.ref pz])) = HD at rcur' rbs' hpkD hpbD s8D
      have hprD := s8D _ _ hpr
      have cms' : ∀ x ∈ cur ++ [(mk, 1 + y)], x.1 ∈ ms := fun x hx => by
        rcases List.mem_append.mp hx with h | h
        · exact cms x h
        · rw [List.mem_singleton.mp h]; exact hmk
      have cne : cur ++ [(mk, 1 + y)] ≠ [] := by simp
      have hlen' : bs.flatten.length + (cur ++ [(mk, 1 + y)]).length = i + 1 := by rw [List.length_append]; show _ + (cur.length + 1) = _; omega
      have uln' : us.length ≤ 6 := by omega
      refine ⟨_, rfl, _, rfl, .inl ⟨_, _, rfl, rfl, .inl (.inl ⟨by decide, by decide⟩), .inl ⟨_, _, rfl, rfl, .inl ⟨pr, _, _, _, rfl, rfl, SqL.of hprD, ec, .inl ⟨rfl, _, rfl, ite2 (fun hc1 => iteT ?_) (fun hc1 => ?_)⟩⟩⟩⟩⟩
      · refine ⟨_, rfl, .inl ⟨rfl, _, SqL.of hpbD⟩, _, rfl, pk, _, rfl, .inl ⟨SqL.of hpkD, fun pt hpt => ?_⟩⟩
        have sE := Same.new (o := .tup (ws ++ [.ref pz])) hpt
        have hpbE := sE _ _ hpbD
        refine ⟨pb, us, _, rfl, rfl, hpbE, small1000 (by omega), ?_⟩
        have kE := keepT_upd (K := K) (ys := us ++ [.ref pt]) hpbE
        refine ⟨Nat.zero_le _, fun pn hpn => ?_⟩
        have sF := Same.new (o := .lst []) hpn
        have rb2 : RepL K (upd (upd (upd HD pt (.tup (ws ++ [.ref pz]))) pb (.lst (us ++ [.ref pt]))) pn (.lst [])) ((bs ++ [cur ++ [(mk, 1 + y)]]).map blkD) (us ++ [.ref pt]) := by
          rw [List.map_append]
          exact RepL.same sF (RepL.append ((rbs'.same sE).keepT kE (blks_pure bs)) (RepL.one (Rep.keepT kE (blkD_pure _) (rep_tup upd_same (rcur'.same sE)))))
        have pnb : pn ≠ pb := (ne_of_none (H := upd (upd HD pt (.tup (ws ++ [.ref pz]))) pb (.lst (us ++ [.ref pt]))) upd_same hpn).symm
        have s8E : Same H8 (upd (upd HD pt (.tup (ws ++ [.ref pz]))) pb (.lst (us ++ [.ref pt]))) := fun c o' e => by rw [upd_ne (ne_of_none e pbn)]; exact (s8D.trans sE) c o' e
        refine ⟨pn, _, [], bs ++ [cur ++ [(mk, 1 + y)]], [], _, rfl, sF _ _ upd_same, rb2, upd_same, rfl, pnb, s8E.free hpn, fun b hb => ?_, fun b hb => ?_, fun x hx => absurd hx (by simp), ?_, fun _ => ⟨by simp, rfl⟩, s8E.trans sF⟩
        · rcases List.mem_append.mp hb with h | h
          · exact bne b h
          · rw [List.mem_singleton.mp h]; exact cne
        · rcases List.mem_append.mp hb with h | h
          · exact bms b h
          · rw [List.mem_singleton.mp h]; exact cms'
        · rw [List.flatten_append, List.length_append]
          show bs.flatten.length + ([cur ++ [(mk, 1 + y)]].flatten).length + 0 = i + 1
          rw [List.flatten_cons, List.flatten_nil, List.append_nil]
          exact hlen'
      · refine ⟨_, rfl, _, rfl, .inl ⟨pr, _, _, _, rfl, rfl, SqL.of hprD, er1, .inl ⟨rfl, _, rfl, ite2 (fun hc2 => ?_) (fun hc2 => ?_)⟩⟩⟩
        · refine ⟨_, rfl, .inl ⟨rfl, _, SqL.of hpbD⟩, _, rfl, pk, _, rfl, .inl ⟨SqL.of hpkD, fun pt hpt => ?_⟩⟩
          have sE := Same.new (o := .tup (ws ++ [.ref pz])) hpt
          have hpbE := sE _ _ hpbD
          refine ⟨pb, us, _, rfl, rfl, hpbE, small1000 (by omega), ?_⟩
          have kE := keepT_upd (K := K) (ys := us ++ [.ref pt]) hpbE
          refine ⟨Nat.zero_le _, fun pn hpn => ?_⟩
          have sF := Same.new (o := .lst []) hpn
          have rb2 : RepL K (upd (upd (upd HD pt (.tup (ws ++ [.ref pz]))) pb (.lst (us ++ [.ref pt]))) pn (.lst [])) ((bs ++ [cur ++ [(mk, 1 + y)]]).map blkD) (us ++ [.ref pt]) := by
            rw [List.map_append]
            exact RepL.same sF (RepL.append ((rbs'.same sE).keepT kE (blks_pure bs)) (RepL.one (Rep.keepT kE (blkD_pure _) (rep_tup upd_same (rcur'.same sE)))))
          have pnb : pn ≠ pb := (ne_of_none (H := upd (upd HD pt (.tup (ws ++ [.ref pz]))) pb (.lst (us ++ [.ref pt]))) upd_same hpn).symm
          have s8E : Same H8 (upd (upd HD pt (.tup (ws ++ [.ref pz]))) pb (.lst (us ++ [.ref pt]))) := fun c o' e => by rw [upd_ne (ne_of_none e pbn)]; exact (s8D.trans sE) c o' e
          refine ⟨pn, _, [], bs ++ [cur ++ [(mk, 1 + y)]], [], _, rfl, sF _ _ upd_same, rb2, upd_same, rfl, pnb, s8E.free hpn, fun b hb => ?_, fun b hb => ?_, fun x hx => absurd hx (by simp), ?_, fun _ => ⟨by simp, rfl⟩, s8E.trans sF⟩
          · rcases List.mem_append.mp hb with h | h
            · exact bne b h
            · rw [List.mem_singleton.mp h]; exact cne
          · rcases List.mem_append.mp hb with h | h
            · exact bms b h
            · rw [List.mem_singleton.mp h]; exact cms'
          · rw [List.flatten_append, List.length_append]
            show bs.flatten.length + ([cur ++ [(mk, 1 + y)]].flatten).length + 0 = i + 1
            rw [List.flatten_cons, List.flatten_nil, List.append_nil]
            exact hlen'
        · refine ⟨pk, us, _, bs, _, _, rfl, hpbD, rbs', hpkD, rcur', nkb, pkn, bne, bms, cms', hlen', fun e => ?_, s8D⟩
          have : (i : Int) = r1 := by omega
          exact absurd (decide_eq_true (by rw [this])) hc2
    · rintro σ HB ⟨pk, us, ws, bs, cur, o9, rfl, hpbB, rbs, hpkB, rcur, nkb, pkn, bne, bms, cms, hlen, hlast, s8B⟩
      obtain ⟨bsn, cn⟩ := hlast rfl
      subst cn
      have hprB := s8B _ _ hpr
      refine ⟨_, rfl, _, rfl, _, rfl, .inl ⟨pr, _, _, _, rfl, rfl, SqL.of hprB, er0, ?_⟩⟩
      refine ⟨_, rfl, pb, us, rfl, .inl ⟨SqL.of hpbB, fun pt hpt => ?_⟩⟩
      have sC := Same.new (o := .tup us) hpt
      refine ⟨by show 4 ≤ sizeLine; decide, fun pz hpz => ?_⟩
      have sD := Same.new (o := .tup [.str nm, .int pl, .int r0, .ref pt]) hpz
      refine qq _ ⟨nm, pl, r0, bs⟩ _ (rep_tup upd_same ⟨_, _, rfl, rfl, _, _, rfl, rfl, _, _, rfl, rfl, _, _, rfl, ?_, rfl⟩) rfl ⟨bsn, bne, bms, ?_⟩ ((s08.trans s8B).trans (sC.trans sD))
      · exact Rep.same sD (rep_tup upd_same (rbs.same sC))
      · have hl : bs.flatten.length + ([] : List Lay).length = (1 + r1).toNat := hlen
        have hl' : bs.flatten.length = (1 + r1).toNat := hl
        show bs.flatten.length ≤ 6
        omega
end
def spBores (K : PySem.W.Frag) : Sp := fun vs H Q _ => ∃ (a : Addr) (ns : List Int), vs = [.ref a, .int 3] ∧ Scr K H a ns ∧
  ∀ (v : V) (bs : List Bor) (ls : List Lik) (ms : List Str) (H' : Hp), Rep K H' (.tuple [.tuple (bs.map borD), liksD ls]) v → (∀ b ∈ bs, BlksOk ms b.blocks) → (∀ b ∈ bs, Nk b.name) → (∀ x ∈ ms, Nk x) → bs.length ≤ 3 → Same H H' → Q v H'
abbrev fsz : List Int := [4, 4, 4, 2] ++ List.replicate 6 12
def others (pl : List Int) (i : Nat) : List Int := ((List.range' 1 i).map fun x : Nat => (x : Int)).filter fun x => decide (x ∉ pl)
theorem others_succ (pl : List Int) (i : Nat) : others pl (i + 1) = others pl i ++ (if ((1 + i : Nat) : Int) ∉ pl then [((1 + i : Nat) : Int)] else []) := by
  unfold others
  rw [List.range'_concat, Nat.one_mul, List.map_append, List.filter_append]
  congr 1
  by_cases h : ((1 + i : Nat) : Int) ∉ pl
  · rw [if_pos h]
    show [((1 + i : Nat) : Int)].filter _ = _
    rw [List.filter_cons, decide_eq_true h]
    rfl
  · rw [if_neg h]
    show [((1 + i : Nat) : Int)].filter _ = _
    rw [List.filter_cons, decide_eq_false h]
    rfl
theorem others_ne {pl : List Int} (h : pl.length < 7) : others pl 7 ≠ [] := fun z => by
  have hs : ∀ x ∈ (List.range' 1 7).map (fun x : Nat => (x : Int)), x ∈ pl := fun x hx => by
    apply Classical.byContradiction
    intro hn
    have : x ∈ others pl 7 := List.mem_filter.mpr ⟨hx, decide_eq_true hn⟩
    rw [z] at this
    cases this
  have hl := nodup_len (show ((List.range' 1 7).map (fun x : Nat => (x : Int))).Nodup by decide) hs
  rw [List.length_map, List.length_range'] at hl
  omega
theorem inV_ints (i : Int) (xs : List Int) : inV (.int i) (xs.map V.int) = decide (i ∈ xs) := by
  unfold inV
  rw [Bool.eq_iff_iff, List.any_eq_true, decide_eq_true_iff]
  constructor
  · rintro ⟨v, hv, e⟩
    obtain ⟨y, hy, rfl⟩ := List.mem_map.mp hv
    have e' : (y == i) = true := e
    rw [← eq_of_beq e']
    exact hy
  · intro h
    exact ⟨.int i, List.mem_map_of_mem h, show (i == i) = true from beq_self_eq_true i⟩
theorem flat_ints (xs : List Int) : (xs.map V.int).all flatV = true := by
  rw [List.all_eq_true]
  intro v hv
  obtain ⟨x, _, rfl⟩ := List.mem_map.mp hv
  rfl
theorem notIn_ints {i : Int} {xs : List Int} {G F : Prop} (g : i ∉ xs → G) (f : ¬ i ∉ xs → F) : if (if true = true then !inV (.int i) (xs.map V.int) else inV (.int i) (xs.map V.int)) = true then G else F := by
  rw [if_pos rfl, inV_ints]
  by_cases h : i ∈ xs
  · rw [decide_eq_true h]
    exact iteF (f fun z => z h)
  · rw [decide_eq_false h]
    exact iteT (g h)
section
variable {P : Program} {w : World} {K : PySem.W.Frag} {mg : Str → Option Value} {base : Heap} {t : Adr}
theorem ok__law_bores (T : Txt K mg t) : FnOk P w K mg base CX0 3 t.a__law_bores t.d__law_bores ["_law_script", "_law_most"] (spBores K) := by
  refine T.F__law_bores.ok sc__law_bores (fun vs H Q E h => ?_) (fun cdv A outer s H vs Q E hr h => ?_)
  · obtain ⟨a, ns, rfl, _⟩ := h; rfl
  · obtain ⟨a, ns, rfl, hs, qq⟩ := h
    let X_ : Cx := (cxOf CX0 P w K mg base ["_law_script", "_law_most", "_law_draws_here", "_law_names_here", "_law_marks", "_law_holes", "_law_places", "_law_k", "_law_place"] "_law_bores" (defScope s__law_bores) t.a__law_bores cdv A outer s H E).nox
    let u1_ : PSV (X_) (List.drop 3 (bodyOf (stAt (defBody s__law_bores) 6))) := ⟨_, (pss_one (ps_expr (pe_bmK K PySem.F.plainAttrs_list PySem.F.slot_list_append PySem.F.type_list_append mt_append (pv 5) (pa_cons (pe_call (ok__law_bore (K := K) T) (hr.mono (by decide)) rfl T.G__law_bore T.F__law_bore.kp T.B__law_bore .nil pass0 (pa_cons (pv 0) (pa_cons (pe_op (op_addU K) pe_int (pv 7)) (pa_cons (pe_ix (ix_K K) (pv 3) (pv 7) (fun _ _ => rfl)) (pa_cons (pv 8) (pa_cons (pv 4) pa_nil)))))) pa_nil))))⟩
    let w1_ : TS := u1_.1
    have e1_ : PSs (X_) (List.drop 3 (bodyOf (stAt (defBody s__law_bores) 6))) w1_ := u1_.2
    let u2_ : PSV (X_) (List.drop 2 (bodyOf (stAt (defBody s__law_bores) 6))) := ⟨_, (pss_cons (ps_expr (pe_bmK K PySem.F.plainAttrs_list PySem.F.slot_list_append PySem.F.type_list_append mt_append (pv 6) (pa_cons (pv 8) pa_nil)))
      e1_)⟩
    let w2_ : TS := u2_.1
    have e2_ : PSs (X_) (List.drop 2 (bodyOf (stAt (defBody s__law_bores) 6))) w2_ := u2_.2
    let u3_ : PSV (X_) (List.drop 1 (bodyOf (stAt (defBody s__law_bores) 6))) := ⟨_, (pss_cons (ps_mid (ps_if (pt_cmpR (op_inK K hr.units) (pv 8) (pv 6) (by with_unfolding_all rfl)) (pss_one (ps_set (i := 8) sc__law_bores.nd rfl (Or.inl rfl) (pe_ix (ix_K K) (pe_cmp1 ["_law_script", "_law_most", "_law_draws_here", "_law_names_here", "_law_marks", "_law_holes", "_law_places", "_law_k", "_law_place"] (defScope s__law_bores) ["_law_one", "_law_places"] [none, some 6] (pi_range2 rfl T.N_range (pa_cons pe_int (pa_cons pe_int pa_nil)))
      (fun _ _ _ _ _ => (pg_name (i := 0) (show List.Nodup (["_law_one", "_law_places"] : List Str) from (by decide +kernel)) rfl (Or.inl rfl))) (fun _ _ _ _ _ => (pts_one (pt_cmpR (op_notInK K hr.units) (pv 0) (pv 1) (by with_unfolding_all rfl)))) (fun _ _ _ _ _ => (pv 0))) pe_int (fun _ _ => rfl)))) pss_nil))
      e2_)⟩
    let w3_ : TS := u3_.1
    have e3_ : PSs (X_) (List.drop 1 (bodyOf (stAt (defBody s__law_bores) 6))) w3_ := u3_.2
    let u4_ : PSV (X_) (List.drop 7 (defBody s__law_bores)) := ⟨_, (pss_one (ps_ret (pe_tup (pa_cons (pe_callTy (call_tupleK K) rfl T.N_tuple bt_tuple (pa_cons (pv 5) pa_nil)) (pa_cons (pe_call (ok__law_likes (K := K) T) (hr.mono (by decide)) rfl T.G__law_likes T.F__law_likes.kp T.B__law_likes .nil pass0 (pa_cons (pv 0) (pa_cons pe_int (pa_cons (pv 4) pa_nil)))) pa_nil)))))⟩
    let w4_ : TS := u4_.1
    have e4_ : PSs (X_) (List.drop 7 (defBody s__law_bores)) w4_ := u4_.2
    let u5_ : PSV (X_) (List.drop 6 (defBody s__law_bores)) := ⟨_, (pss_cons (ps_for PassesOwn.never rfl (pi_range1 rfl T.N_range (pa_cons (pe_ix (ix_K K) (pv 2) pe_int (fun _ _ => rfl)) pa_nil)) (pg_name (i := 7) sc__law_bores.nd rfl (Or.inl rfl))
      (pss_cons (ps_set (i := 8) sc__law_bores.nd rfl (Or.inl rfl) (pe_op (op_mulU K) (pe_ix (ix_K K) (pv 2) (pe_op (op_addU K) pe_int (pv 7)) (fun _ _ => rfl)) (pe_ix (ix_K K) (pe_lst (pa_cons pe_int (pa_cons (pe_op op_pow pe_int pe_int) pa_nil))) (pe_ix (ix_K K) (pv 2) pe_int (fun _ _ => rfl)) (fun _ _ => rfl))))
      e3_))
      e4_)⟩
    let w5_ : TS := u5_.1
    have e5_ : PSs (X_) (List.drop 6 (defBody s__law_bores)) w5_ := u5_.2
    let u6_ : PSV (X_) (List.drop 5 (defBody s__law_bores)) := ⟨_, (pss_cons (ps_set (i := 6) sc__law_bores.nd rfl (Or.inr rfl) (pe_lst pa_nil))
      e5_)⟩
    let w6_ : TS := u6_.1
    have e6_ : PSs (X_) (List.drop 5 (defBody s__law_bores)) w6_ := u6_.2
    let u7_ : PSV (X_) (List.drop 4 (defBody s__law_bores)) := ⟨_, (pss_cons (ps_set (i := 5) sc__law_bores.nd rfl (Or.inl rfl) (pe_lst pa_nil))
      e6_)⟩
    let w7_ : TS := u7_.1
    have e7_ : PSs (X_) (List.drop 4 (defBody s__law_bores)) w7_ := u7_.2
    let u8_ : PSV (X_) (List.drop 3 (defBody s__law_bores)) := ⟨_, (pss_cons (ps_mid (ps_if (pt_cmpR (op_eqK K hr.units) (pe_ix (ix_K K) (pv 2) pe_int (fun _ _ => rfl)) pe_int (nomark _)) (pss_one (ps_set (i := 4) sc__law_bores.nd rfl (Or.inl rfl) (pe_slice (sl_U K) (pv 3) po_none (po_some (pe_op (op_addU K) pe_int (pe_ix (ix_K K) (pv 2) pe_int (fun _ _ => rfl))))))) pss_nil))
      e7_)⟩
    let w8_ : TS := u8_.1
    have e8_ : PSs (X_) (List.drop 3 (defBody s__law_bores)) w8_ := u8_.2
    let u9_ : PSV (X_) (List.drop 2 (defBody s__law_bores)) := ⟨_, (pss_cons (ps_set (i := 4) sc__law_bores.nd rfl (Or.inl rfl) (pe_slice (sl_U K) (pe_call (ok__law_names (K := K) T) (hr.mono (by decide)) rfl T.G__law_names T.F__law_names.kp T.B__law_names .nil pass0 (pa_cons (pv 0) (pa_cons pe_int (pa_cons pe_int pa_nil)))) po_none (po_some (pe_op (op_addU K) pe_int (pe_ix (ix_K K) (pv 2) pe_int (fun _ _ => rfl))))))
      e8_)⟩
    let w9_ : TS := u9_.1
    have e9_ : PSs (X_) (List.drop 2 (defBody s__law_bores)) w9_ := u9_.2
    let u10_ : PSV (X_) (List.drop 1 (defBody s__law_bores)) := ⟨_, (pss_cons (ps_set (i := 3) sc__law_bores.nd rfl (Or.inl rfl) (pe_call (ok__law_names (K := K) T) (hr.mono (by decide)) rfl T.G__law_names T.F__law_names.kp T.B__law_names .nil pass0 (pa_cons (pv 0) (pa_cons pe_int (pa_cons pe_int pa_nil)))))
      e9_)⟩
    let w10_ : TS := u10_.1
    have e10_ : PSs (X_) (List.drop 1 (defBody s__law_bores)) w10_ := u10_.2
    refine ⟨_, (pss_cons (ps_set (i := 2) sc__law_bores.nd rfl (Or.inl rfl) (pe_call (ok__law_draws (K := K) T) (hr.mono (by decide)) rfl T.G__law_draws T.F__law_draws.kp T.B__law_draws .nil pass0 (pa_cons (pv 0) (pa_cons pe_int (pa_cons (pe_op (op_addU K) (pe_lst (pa_cons (pe_op (op_addU K) (pv 1) pe_int) (pa_cons pe_int (pa_cons pe_int (pa_cons pe_int pa_nil))))) (pe_op (op_mulU K) (pe_lst (pa_cons pe_int pa_nil)) pe_int)) pa_nil)))))
      e10_), ?_⟩
    have big : ∀ x : Int, 0 ≤ x → x ≤ 1000 → -(2 ^ 62) ≤ x ∧ x < 2 ^ 62 := fun x h0 h1 => ⟨Int.le_trans (by decide) h0, Int.lt_of_le_of_lt h1 (by decide)⟩
    refine ⟨_, rfl, _, rfl, .inl ⟨_, _, rfl, rfl, ?_⟩⟩
    refine ⟨by show 4 ≤ sizeLine; decide, fun p1 hp1 => ?_⟩
    have s1 := Same.new (o := .lst [.int (3 + 1), .int 4, .int 4, .int 2]) hp1
    refine ⟨by show 1 ≤ sizeLine; decide, fun p2 hp2 => ?_⟩
    have s2 := Same.new (o := .lst [.int 12]) hp2
    refine .inr (.inl ⟨p2, 6, _, rfl, rfl, upd_same, by decide, by decide, by show 1 * 6 ≤ sizeLine; decide, fun p3 hp3 => ?_⟩)
    have s3 := Same.new (o := .lst (List.replicate (6 : Int).toNat [V.int 12]).flatten) hp3
    refine .inr (.inr (.inl ⟨p1, p3, _, _, rfl, rfl, (s2.trans s3) _ _ upd_same, upd_same, small8 (by show 10 ≤ 1000; decide), fun p4 hp4 => ?_⟩))
    have e4 : [V.int (3 + 1), V.int 4, V.int 4, V.int 2] ++ (List.replicate (6 : Int).toNat [V.int 12]).flatten = fsz.map V.int := rfl
    have s4 := Same.new (o := .lst ([V.int (3 + 1), V.int 4, V.int 4, V.int 2] ++ (List.replicate (6 : Int).toNat [V.int 12]).flatten)) hp4
    have s04 := ((s1.trans s2).trans s3).trans s4
    refine ⟨a, p4, ns, fsz, 1, rfl, hs.same s04, by decide, by decide, by rw [upd_same]; exact congrArg (fun l => some (HO.lst l)) e4, ?_, by decide, fun pr rs H5 _ hpr hrl hrb s5 => ?_⟩
    · intro z hz
      exact (show ∀ z ∈ fsz, 0 < z ∧ z < 2 ^ 1000 by decide) z hz
    have s05 := s04.trans s5
    have rl10 : rs.length = 10 := hrl
    have get : ∀ i : Nat, i < 10 → ∃ r, rs[i]? = some r ∧ atI (rs.map V.int) (i : Int) = some (.int r) := fun i hi => by
      have hlt : i < rs.length := by omega
      exact ⟨rs[i], List.getElem?_eq_getElem hlt, atI_nat (by rw [List.getElem?_map, List.getElem?_eq_getElem hlt]; rfl)⟩
    obtain ⟨r0, g0, e0⟩ := get 0 (by decide)
    obtain ⟨r1, g1, e1⟩ := get 1 (by decide)
    obtain ⟨r2, g2, e2⟩ := get 2 (by decide)
    obtain ⟨r3, g3, e3⟩ := get 3 (by decide)
    obtain ⟨r0a, r0b⟩ := hrb 0 r0 4 g0 rfl
    obtain ⟨r1a, r1b⟩ := hrb 1 r1 4 g1 rfl
    obtain ⟨r3a, r3b⟩ := hrb 3 r3 2 g3 rfl
    refine ⟨_, rfl, a, ns, 2, 6, rfl, hs.same s05, by decide, by decide, by decide, fun pn nms H6 _ hpn nl nok s6 => ?_⟩
    have s06 := s05.trans s6
    refine ⟨_, rfl, a, ns, 3, 4, rfl, hs.same s06, by decide, by decide, by decide, fun pm mks H7 _ hpm ml mok s7 => ?_⟩
    have s07 := s06.trans s7
    have hpr7 := (s6.trans s7) _ _ hpr
    have hpn7 := s7 _ _ hpn
    refine ⟨_, rfl, .inl ⟨pr, _, _, _, rfl, rfl, SqL.of hpr7, e1, .inl ⟨_, _, rfl, rfl, _, rfl, .inl ⟨pm, _, rfl, SqL.of hpm, fun p8 hp8 => ?_⟩⟩⟩⟩
    rw [cutV_to (i := 1 + r1) (k := 1 + r1.toNat) (by omega) (by rw [List.length_map, ml]; omega), ← List.map_take]
    have s8 : Same H7 (upd H7 p8 (.lst ((mks.take (1 + r1.toNat)).map V.str))) := Same.new hp8
    have hp88 : (upd H7 p8 (.lst ((mks.take (1 + r1.toNat)).map V.str))) p8 = some (.lst ((mks.take (1 + r1.toNat)).map V.str)) := upd_same
    generalize upd H7 p8 (.lst ((mks.take (1 + r1.toNat)).map V.str)) = H8 at s8 hp88
    have s08 := s07.trans s8
    have hpr8 := s8 _ _ hpr7
    have hpn8 := s8 _ _ hpn7
    let M1_ : St → Hp → Prop := fun σ H' => ∃ (p9 : Addr) (ms : List Str), σ = [some (.ref a), some (.int 3), some (.ref pr), some (.ref pn), some (.ref p9), none, none, none, none] ∧ H' p9 = some (.lst (ms.map V.str)) ∧ 0 < ms.length ∧ ms.length ≤ 6 ∧ (∀ x ∈ ms, Nk x) ∧ Same H8 H'
    refine ⟨M1_, ?_, ?_⟩
    · refine ⟨_, rfl, .inl ⟨pr, _, _, _, rfl, rfl, SqL.of hpr8, e2, .inl ⟨rfl, _, rfl, ite2 (fun _ => ?_) (fun _ => ?_)⟩⟩⟩
      · refine ⟨_, rfl, _, rfl, .inl ⟨pr, _, _, _, rfl, rfl, SqL.of hpr8, e1, .inl ⟨_, _, rfl, rfl, _, rfl, .inl ⟨pn, _, rfl, SqL.of hpn8, fun p9 hp9 => ?_⟩⟩⟩⟩
        rw [cutV_to (i := 1 + r1) (k := 1 + r1.toNat) (by omega) (by rw [List.length_map, nl]; omega), ← List.map_take]
        exact ⟨p9, _, rfl, upd_same, by rw [List.length_take]; omega, by rw [List.length_take]; omega, fun x hx => nok.2 x (List.mem_of_mem_take hx), Same.new hp9⟩
      · exact ⟨p8, _, rfl, hp88, by rw [List.length_take]; omega, by rw [List.length_take]; omega, fun x hx => mok.2 x (List.mem_of_mem_take hx), Same.refl _⟩
    · rintro σ H9 ⟨p9, ms, rfl, hp9, m0, m6, mnk, s9⟩
      have s09 := s08.trans s9
      have hpr9 := s9 _ _ hpr8
      have hpn9 := s9 _ _ hpn8
      refine ⟨Nat.zero_le _, fun ph hph => ?_⟩
      have sA : Same H9 (upd H9 ph (.lst [])) := Same.new hph
      have hphA : (upd H9 ph (.lst [])) ph = some (.lst []) := upd_same
      generalize upd H9 ph (.lst []) = HA at sA hphA
      refine ⟨Nat.zero_le _, fun pq hpq => ?_⟩
      have sB : Same HA (upd HA pq (.lst [])) := Same.new hpq
      have hpqB : (upd HA pq (.lst [])) pq = some (.lst []) := upd_same
      have hphB := sB _ _ hphA
      have nqh : pq ≠ ph := (ne_of_none hphA hpq).symm
      have pqn : H9 pq = none := sA.free hpq
      generalize upd HA pq (.lst []) = HB at sB hpqB hphB
      have s9B := sA.trans sB
      refine ⟨_, rfl, .inl ⟨pr, _, _, _, rfl, rfl, SqL.of (s9B _ _ hpr9), e0, _, rfl, (big _ (by omega) (by omega)).1, (big _ (by omega) (by omega)).2, ?_⟩⟩
      refine for_range (fun i σ H' => ∃ (us : List V) (bs : List Bor) (pls : List Int) (o7 o8 : Option V), σ = [some (.ref a), some (.int 3), some (.ref pr), some (.ref pn), some (.ref p9), some (.ref ph), some (.ref pq), o7, o8] ∧ H' ph = some (.lst us) ∧ RepL K H' (bs.map borD) us ∧ H' pq = some (.lst (pls.map V.int)) ∧ bs.length = i ∧ pls.length = i ∧ (∀ b ∈ bs, BlksOk ms b.blocks) ∧ (∀ b ∈ bs, Nk b.name) ∧ Same H9 H')
        ⟨[], [], [], none, none, rfl, hphB, rfl, hpqB, rfl, rfl, fun b h => absurd h (by simp), fun b h => absurd h (by simp), s9B⟩ ?_ ?_
      · rintro i σ HC hi ⟨us, bs, pls, o7, o8, rfl, hphC, rbs, hpqC, bl, pll, bok, bnk, s9C⟩
        rw [Int.zero_add]
        have hi5 : i < 3 := by omega
        have hprC := s9C _ _ hpr9
        obtain ⟨rk, gk, ek⟩ := get (4 + i) (by omega)
        have ek' : atI (rs.map V.int) (4 + (i : Int)) = some (.int rk) := by rw [← ek]; congr 1
        obtain ⟨ra, rb⟩ := hrb (4 + i) rk 12 gk (by
          have : ∀ j : Nat, j < 3 → fsz[4 + j]? = some 12 := by decide
          exact this i hi5)
        have uln := repl_len rbs
        refine ⟨_, rfl, _, rfl, .inl ⟨_, _, rfl, rfl, .inl ⟨pr, _, _, _, rfl, rfl, SqL.of hprC, ek', ?_⟩⟩⟩
        refine ⟨_, _, rfl, rfl, ⟨by decide, by decide, by decide⟩, by show 2 ≤ sizeLine; decide, fun p1' hp1' => ?_⟩
        have sD := Same.new (o := .lst [.int 1, .int (10 ^ 58)]) hp1'
        have hp1D : (upd HC p1' (.lst [.int 1, .int (10 ^ 58)])) p1' = some (.lst [.int 1, .int (10 ^ 58)]) := upd_same
        obtain ⟨fc, hfc, fcb⟩ : ∃ fc : Int, atI [V.int 1, V.int (10 ^ 58)] r3 = some (.int fc) ∧ fc.natAbs < 2 ^ 1000 := by
          obtain ⟨j, rfl⟩ : ∃ j : Nat, r3 = j := ⟨r3.toNat, by omega⟩
          rcases j with _ | _ | j
          · exact ⟨1, rfl, by decide⟩
          · exact ⟨10 ^ 58, rfl, by decide⟩
          · omega
        refine ⟨_, rfl, .inl ⟨pr, _, _, _, rfl, rfl, SqL.of (sD _ _ hprC), e3, .inl ⟨p1', _, _, _, rfl, rfl, SqL.of hp1D, hfc, .inl ⟨_, _, rfl, rfl, .inr ⟨Nat.lt_trans (show rk.natAbs < 12 by omega) (by decide), fcb⟩, ?_⟩⟩⟩⟩
        have s9D := s9C.trans sD
        have hpqD := sD _ _ hpqC
        let M2_ : St → Hp → Prop := fun σ H' => ∃ pl : Int, σ = [some (.ref a), some (.int 3), some (.ref pr), some (.ref pn), some (.ref p9), some (.ref ph), some (.ref pq), some (.int i), some (.int pl)] ∧ Same HC H'
        refine ⟨M2_, ?_, ?_⟩
        · refine ⟨_, rfl, _, rfl, .inl ⟨pq, _, rfl, .inl (SqL.of hpqD), rfl, flat_ints _, _, rfl, ite2 (fun _ => ?_) (fun _ => ?_)⟩⟩
          · refine ⟨_, _, rfl, ⟨by decide, by decide, by decide, by decide⟩, fun D hD => ?_⟩
            rw [show ((8 : Int) - 1).toNat = 7 from rfl]
            refine comp_rng (fun j ys H' => ys = (others pls j).map V.int) hD rfl ?_ ?_
            · rintro j mm ys HE hj hm sE hy hl rfl
              have e1 := others_succ pls j
              have ej : (1 : Int) + (j : Int) = ((1 + j : Nat) : Int) := by push_cast; rfl
              rw [ej]
              refine ⟨SubS.set (SubS.refl _) rfl, ?_⟩
              refine ⟨_, rfl, _, rfl, .inl ⟨pq, _, rfl, .inl (SqL.of (sE _ _ hpqD)), rfl, flat_ints _, _, rfl, notIn_ints (fun hn => ?_) (fun hn => ?_)⟩⟩
              · refine ⟨_, rfl, ?_⟩
                refine wl_next hD hj hm (small1000 (by decide)) sE hy hl (Same.refl _) ?_
                rw [e1, if_pos hn, List.map_append]
                rfl
              · refine wl_skip hj hm sE hy hl (Same.refl _) ?_
                rw [e1, if_neg hn, List.append_nil]
            · rintro ys HE sE hy hl rfl
              obtain ⟨x, xs, ex⟩ : ∃ x xs, others pls 7 = x :: xs := by
                cases e : others pls 7 with
                | nil => exact absurd e (others_ne (by omega))
                | cons x xs => exact ⟨x, xs, rfl⟩
              rw [ex] at hy
              exact .inl ⟨D, _, _, _, rfl, rfl, SqL.of hy, atI_0, x, rfl, sD.trans sE⟩
          · exact ⟨_, rfl, sD⟩
        · rintro σ HE ⟨pl, rfl, sE⟩
          have s9E := s9C.trans sE
          have hpqE := sE _ _ hpqC
          have hphE := sE _ _ hphC
          refine ⟨_, rfl, .inl ⟨rfl, _, SqL.of hpqE⟩, _, rfl, pq, _, _, rfl, rfl, hpqE, small1000 (by rw [List.length_map]; omega), ?_⟩
          have kF := keepT_upd (K := K) (ys := pls.map V.int ++ [.int pl]) hpqE
          have s9F : Same H9 (upd HE pq (.lst (pls.map V.int ++ [.int pl]))) := fun c o' e => by rw [upd_ne (ne_of_none e pqn)]; exact s9E c o' e
          have hphF : (upd HE pq (.lst (pls.map V.int ++ [.int pl]))) ph = some (.lst us) := by rw [upd_ne nqh.symm]; exact hphE
          have hpqF : (upd HE pq (.lst (pls.map V.int ++ [.int pl]))) pq = some (.lst ((pls ++ [pl]).map V.int)) := by rw [upd_same, List.map_append]; rfl
          have rbsF := (rbs.same sE).keepT kF (bors_pure bs)
          generalize upd HE pq (.lst (pls.map V.int ++ [.int pl])) = HF at s9F hphF hpqF rbsF
          obtain ⟨nm, hnm, enm⟩ := str_atI (xs := nms) (r := (i : Int)) (by omega) (by omega)
          refine ⟨_, rfl, .inl ⟨rfl, _, SqL.of hphF⟩, ?_⟩
          refine ⟨_, rfl, _, rfl, .inl ⟨_, _, rfl, rfl, ?_⟩⟩
          refine ⟨_, rfl, _, rfl, .inl ⟨pn, _, _, _, rfl, rfl, SqL.of (s9F _ _ hpn9), enm, ?_⟩⟩
          refine ⟨_, rfl, _, rfl, a, p9, ns, ms, nm, 10 + (i : Int), pl, rfl, hs.same (s09.trans s9F), by omega, by omega, s9F _ _ hp9, m0, m6, fun v b HG rb nmb okb sG => ?_⟩
          have hphG := sG _ _ hphF
          refine ⟨ph, us, _, rfl, rfl, hphG, small1000 (by omega), ?_⟩
          have kH := keepT_upd (K := K) (ys := us ++ [v]) hphG
          refine ⟨us ++ [v], bs ++ [b], pls ++ [pl], _, _, rfl, upd_same, ?_, ?_, by rw [List.length_append]; show bs.length + 1 = i + 1; omega, by rw [List.length_append]; show pls.length + 1 = i + 1; omega, fun b' hb' => ?_, fun b' hb' => ?_, fun c o' e => by rw [upd_ne (ne_of_none e hph)]; exact (s9F.trans sG) c o' e⟩
          · rw [List.map_append]
            exact RepL.append ((rbsF.same sG).keepT kH (bors_pure bs)) (RepL.one (Rep.keepT kH (borD_pure b) rb))
          · rw [upd_ne nqh]
            exact sG _ _ hpqF
          · rcases List.mem_append.mp hb' with h | h
            · exact bok b' h
            · rw [List.mem_singleton.mp h]; exact okb
          · rcases List.mem_append.mp hb' with h | h
            · exact bnk b' h
            · rw [List.mem_singleton.mp h, nmb]; exact nok.2 nm hnm
      · rintro σ HC ⟨us, bs, pls, o7, o8, rfl, hphC, rbs, hpqC, bl, pll, bok, bnk, s9C⟩
        have s0C := s09.trans s9C
        refine ⟨_, rfl, ph, us, rfl, .inl ⟨SqL.of hphC, fun pt hpt => ?_⟩⟩
        have sD := Same.new (o := .tup us) hpt
        have hpt' : (upd HC pt (.tup us)) pt = some (.tup us) := upd_same
        refine ⟨_, rfl, _, rfl, a, p9, ns, ms, 4, rfl, hs.same (s0C.trans sD), by decide, by decide, (s9C.trans sD) _ _ hp9, m6, fun v ls HE rv hlk hll sE => ?_⟩
        refine ⟨by show 2 ≤ sizeLine; decide, fun pz hpz => ?_⟩
        have sF := Same.new (o := .tup [.ref pt, v]) hpz
        refine qq _ bs ls ms _ (rep_tup upd_same ⟨_, _, rfl, ?_, _, _, rfl, rv.same sF, rfl⟩) bok bnk mnk (by omega) (((s0C.trans sD).trans sE).trans sF)
        exact Rep.same (sE.trans sF) (rep_tup hpt' (rbs.same sD))
end
abbrev Spo := Str × Int
def spoD (p : Spo) : PyData := .tuple [.str p.1, .int p.2]
inductive Rcd where
  | bore (b : Bor)
  | over (p q : Spo)
  | one (p q : Spo)
def rcdD : Rcd → PyData
  | .bore b => borD b
  | .over p q => .tuple [.str "over", spoD p, spoD q]
  | .one p q => .tuple [.str "one", spoD p, spoD q]
theorem rcdD_pure : ∀ r : Rcd, pureD (rcdD r) = true
  | .bore b => borD_pure b
  | .over _ _ => rfl
  | .one _ _ => rfl
theorem rcds_pure (rs : List Rcd) : pureDs (rs.map rcdD) = true := pureDs_map fun r _ => rcdD_pure r
theorem spos_pure (ps : List Spo) : pureDs (ps.map spoD) = true := pureDs_map fun _ _ => rfl
inductive Stp where
  | row (n : Str) (k : Int)
  | over (k : Int)
  | one (k d : Int)
def stpD : Stp → PyData
  | .row n k => .tuple [.str "row", .str n, .int k]
  | .over k => .tuple [.str "over", .int k]
  | .one k d => .tuple [.str "one", .int k, .int d]
structure Lin where
  b : Spo
  e : Spo
  hard : Bool
  st : Stp
def linD (l : Lin) : PyData := .tuple [spoD l.b, spoD l.e, .bool l.hard, stpD l.st]
theorem stpD_pure : ∀ s : Stp, pureD (stpD s) = true
  | .row _ _ => rfl
  | .over _ => rfl
  | .one _ _ => rfl
theorem linD_pure (l : Lin) : pureD (linD l) = true := by
  show (true && (true && (true && (pureD (stpD l.st) && true)))) = true
  rw [stpD_pure]
  rfl
theorem lins_pure (ls : List Lin) : pureDs (ls.map linD) = true := pureDs_map fun l _ => linD_pure l
theorem stps_pure (ls : List Lin) : pureDs (ls.map fun l => stpD l.st) = true := pureDs_map fun l _ => stpD_pure l.st
def LinOk (rs : List Rcd) (l : Lin) : Prop := match l.st with
  | .row n k => l.b = (n, k) ∧ l.e = (n, k + 1) ∧ l.hard = true
  | .over k => ∃ j : Nat, k = j + 1 ∧ rs[j]? = some (.over l.b l.e) ∧ l.hard = true
  | .one k d => ∃ j : Nat, k = j + 1 ∧ l.hard = false ∧ ((d = 0 ∧ rs[j]? = some (.one l.b l.e)) ∨ (d = 1 ∧ rs[j]? = some (.one l.e l.b)))
theorem repl_get {K : PySem.W.Frag} {H : Hp} {α : Type} {g : α → PyData} {xs : List α} {us : List V} {i : Nat} {x : α} (rl : RepL K H (xs.map g) us) (h : xs[i]? = some x) : ∃ u, us[i]? = some u ∧ Rep K H (g x) u := by
  have hi : i < us.length := by rw [repl_len rl]; exact (List.getElem?_eq_some_iff.mp h).1
  obtain ⟨x', hx, ru⟩ := repl_at rl (List.getElem?_eq_getElem hi)
  rw [h] at hx
  cases hx
  exact ⟨_, List.getElem?_eq_getElem hi, ru⟩
def spBE (K : PySem.W.Frag) : Sp := fun vs H Q _ => ∃ (r : Addr) (v : V) (us : List V) (rs : List Rcd) (l : Lin), vs = [.ref r, v] ∧ SqL K H r us ∧ RepL K H (rs.map rcdD) us ∧ Rep K H (stpD l.st) v ∧ LinOk rs l ∧
  ∀ (z : Addr) (u1 u2 : V) (H' : Hp), H' z = some (.tup [u1, u2]) → Rep K H' (spoD l.b) u1 → Rep K H' (spoD l.e) u2 → Same H H' → Q (.ref z) H'
def spBegin (K : PySem.W.Frag) : Sp := fun vs H Q _ => ∃ (r : Addr) (v : V) (us : List V) (rs : List Rcd) (l : Lin), vs = [.ref r, v] ∧ SqL K H r us ∧ RepL K H (rs.map rcdD) us ∧ Rep K H (stpD l.st) v ∧ LinOk rs l ∧
  ∀ (u : V) (H' : Hp), Rep K H' (spoD l.b) u → Same H H' → Q u H'
def spEnd (K : PySem.W.Frag) : Sp := fun vs H Q _ => ∃ (r : Addr) (v : V) (us : List V) (rs : List Rcd) (l : Lin), vs = [.ref r, v] ∧ SqL K H r us ∧ RepL K H (rs.map rcdD) us ∧ Rep K H (stpD l.st) v ∧ LinOk rs l ∧
  ∀ (u : V) (H' : Hp), Rep K H' (spoD l.e) u → Same H H' → Q u H'
theorem rep_say {K : PySem.W.Frag} {H : Hp} {x : Str} {p q : Spo} {v : V} (h : Rep K H (.tuple [.str x, spoD p, spoD q]) v) : ∃ a u1 u2, v = .ref a ∧ SqT K H a [.str x, u1, u2] ∧ Rep K H (spoD p) u1 ∧ Rep K H (spoD q) u2 := by
  obtain ⟨a, xs, rfl, h1, h2⟩ := h
  obtain ⟨_, _, rfl, rfl, h2⟩ := h2
  obtain ⟨u1, _, rfl, r1, h2⟩ := h2
  obtain ⟨u2, _, rfl, r2, h2⟩ := h2
  cases h2
  exact ⟨a, u1, u2, rfl, h1, r1, r2⟩
section
variable {P : Program} {w : World} {K : PySem.W.Frag} {mg : Str → Option Value} {base : Heap} {t : Adr}
theorem ok_begin_and_end (T : Txt K mg t) : FnOk P w K mg base CX0 1 t.a_begin_and_end t.d_begin_and_end ["records", "step"] (spBE K) := by
  refine T.F_begin_and_end.ok sc_begin_and_end (fun vs H Q E h => ?_) (fun cdv A outer s H vs Q E hr h => ?_)
  · obtain ⟨r, v, us, rs, l, rfl, _⟩ := h; rfl
  · obtain ⟨r, v, us, rs, ⟨lb, le, lh, st⟩, rfl, hq, rl, rv, ok, qq⟩ := h
    let X_ : Cx := (cxOf CX0 P w K mg base ["records", "step", "saying"] "begin_and_end" (defScope s_begin_and_end) t.a_begin_and_end cdv A outer s H E).nox
    let u1_ : PSV (X_) (List.drop 3 (defBody s_begin_and_end)) := ⟨_, (pss_one (ps_ret (pe_tup (pa_cons (pe_ix (ix_K K) (pv 2) pe_int (fun _ _ => rfl)) (pa_cons (pe_ix (ix_K K) (pv 2) pe_int (fun _ _ => rfl)) pa_nil)))))⟩
    let w1_ : TS := u1_.1
    have e1_ : PSs (X_) (List.drop 3 (defBody s_begin_and_end)) w1_ := u1_.2
    let u2_ : PSV (X_) (List.drop 2 (defBody s_begin_and_end)) := ⟨_, (pss_cons (ps_if (PW.pt (pw_and (pt_cmpR (op_eqK K hr.units) (pe_ix (ix_K K) (pv 1) pe_int (fun _ _ => rfl)) pe_str (nomark _)) (pw_and1 (pt_cmpR (op_eqK K hr.units) (pe_ix (ix_K K) (pv 1) pe_int (fun _ _ => rfl)) pe_int (nomark _))))) (pss_one (ps_ret (pe_tup (pa_cons (pe_ix (ix_K K) (pv 2) pe_int (fun _ _ => rfl)) (pa_cons (pe_ix (ix_K K) (pv 2) pe_int (fun _ _ => rfl)) pa_nil))))) pss_nil)
      e1_)⟩
    let w2_ : TS := u2_.1
    have e2_ : PSs (X_) (List.drop 2 (defBody s_begin_and_end)) w2_ := u2_.2
    let u3_ : PSV (X_) (List.drop 1 (defBody s_begin_and_end)) := ⟨_, (pss_cons (ps_set (i := 2) sc_begin_and_end.nd rfl (Or.inl rfl) (pe_ix (ix_K K) (pv 0) (pe_op op_sub (pe_ix (ix_K K) (pv 1) pe_int (fun _ _ => rfl)) pe_int) (fun _ _ => rfl)))
      e2_)⟩
    let w3_ : TS := u3_.1
    have e3_ : PSs (X_) (List.drop 1 (defBody s_begin_and_end)) w3_ := u3_.2
    refine ⟨_, (pss_cons (ps_if (pt_cmpR (op_eqK K hr.units) (pe_ix (ix_K K) (pv 1) pe_int (fun _ _ => rfl)) pe_str (nomark _)) (pss_one (ps_ret (pe_tup (pa_cons (pe_tup (pa_cons (pe_ix (ix_K K) (pv 1) pe_int (fun _ _ => rfl)) (pa_cons (pe_ix (ix_K K) (pv 1) pe_int (fun _ _ => rfl)) pa_nil))) (pa_cons (pe_tup (pa_cons (pe_ix (ix_K K) (pv 1) pe_int (fun _ _ => rfl)) (pa_cons (pe_op (op_addU K) (pe_ix (ix_K K) (pv 1) pe_int (fun _ _ => rfl)) pe_int) pa_nil))) pa_nil))))) pss_nil)
      e3_), ?_⟩
    cases st with
    | row n k =>
      obtain ⟨e1, e2, e3⟩ := ok
      change lb = (n, k) at e1
      change le = (n, k + 1) at e2
      subst e1 e2
      obtain ⟨a, xs, rfl, h1, h2⟩ := rv
      obtain ⟨_, _, rfl, rfl, h2⟩ := h2
      obtain ⟨_, _, rfl, rfl, h2⟩ := h2
      obtain ⟨_, _, rfl, rfl, h2⟩ := h2
      cases h2
      refine ⟨_, rfl, .inr (.inl ⟨a, _, _, _, rfl, rfl, h1, rfl, .inl ⟨rfl, _, rfl, iteT ?_⟩⟩)⟩
      refine ⟨_, rfl, .inr (.inl ⟨a, _, _, _, rfl, rfl, h1, rfl, _, rfl, .inr (.inl ⟨a, _, _, _, rfl, rfl, h1, rfl, by show 2 ≤ sizeLine; decide, fun z1 hz1 => ?_⟩)⟩)⟩
      have s1 := Same.new (o := .tup [.str n, .int k]) hz1
      have h1' := s1.seqT h1
      refine ⟨_, rfl, .inr (.inl ⟨a, _, _, _, rfl, rfl, h1', rfl, _, rfl, .inr (.inl ⟨a, _, _, _, rfl, rfl, h1', rfl, .inl ⟨_, _, rfl, rfl, by show 2 ≤ sizeLine; decide, fun z2 hz2 => ?_⟩⟩)⟩)⟩
      have s2 := Same.new (o := .tup [.str n, .int (k + 1)]) hz2
      refine ⟨by show 2 ≤ sizeLine; decide, fun z hz => ?_⟩
      have s3 := Same.new (o := .tup [.ref z1, .ref z2]) hz
      exact qq z _ _ _ upd_same (Rep.same (s2.trans s3) (rep_tup upd_same ⟨_, _, rfl, rfl, _, _, rfl, rfl, rfl⟩)) (Rep.same s3 (rep_tup upd_same ⟨_, _, rfl, rfl, _, _, rfl, rfl, rfl⟩)) ((s1.trans s2).trans s3)
    | over k =>
      obtain ⟨j, hk, hj, _⟩ := ok
      obtain ⟨u, hu, ru⟩ := repl_get rl hj
      obtain ⟨c, u1, u2, rfl, hc, r1, r2⟩ := rep_say ru
      obtain ⟨a, xs, rfl, h1, h2⟩ := rv
      obtain ⟨_, _, rfl, rfl, h2⟩ := h2
      obtain ⟨_, _, rfl, rfl, h2⟩ := h2
      cases h2
      have eat : atI us (k - 1) = some (.ref c) := by rw [hk, show ((j : Int) + 1 - 1) = j by omega]; exact atI_nat hu
      refine ⟨_, rfl, .inr (.inl ⟨a, _, _, _, rfl, rfl, h1, rfl, .inl ⟨rfl, _, rfl, iteF ?_⟩⟩)⟩
      refine ⟨_, rfl, _, rfl, .inr (.inl ⟨a, _, _, _, rfl, rfl, h1, rfl, _, _, rfl, rfl, .inl ⟨r, _, _, _, rfl, rfl, hq, eat, ?_⟩⟩)⟩
      refine ⟨_, rfl, .inr (.inl ⟨a, _, _, _, rfl, rfl, h1, rfl, .inl ⟨rfl, _, rfl, iteF ?_⟩⟩)⟩
      refine ⟨_, rfl, .inr (.inl ⟨c, _, _, _, rfl, rfl, hc, rfl, _, rfl, .inr (.inl ⟨c, _, _, _, rfl, rfl, hc, rfl, by show 2 ≤ sizeLine; decide, fun z hz => ?_⟩)⟩)⟩
      have s3 := Same.new (o := .tup [u1, u2]) hz
      exact qq z _ _ _ upd_same (r1.same s3) (r2.same s3) s3
    | one k d =>
      obtain ⟨j, hk, _, hj⟩ := ok
      obtain ⟨a, xs, rfl, h1, h2⟩ := rv
      obtain ⟨_, _, rfl, rfl, h2⟩ := h2
      obtain ⟨_, _, rfl, rfl, h2⟩ := h2
      obtain ⟨_, _, rfl, rfl, h2⟩ := h2
      cases h2
      refine ⟨_, rfl, .inr (.inl ⟨a, _, _, _, rfl, rfl, h1, rfl, .inl ⟨rfl, _, rfl, iteF ?_⟩⟩)⟩
      rcases hj with ⟨rfl, hj⟩ | ⟨rfl, hj⟩
      · obtain ⟨u, hu, ru⟩ := repl_get rl hj
        obtain ⟨c, u1, u2, rfl, hc, r1, r2⟩ := rep_say ru
        have eat : atI us (k - 1) = some (.ref c) := by rw [hk, show ((j : Int) + 1 - 1) = j by omega]; exact atI_nat hu
        refine ⟨_, rfl, _, rfl, .inr (.inl ⟨a, _, _, _, rfl, rfl, h1, rfl, _, _, rfl, rfl, .inl ⟨r, _, _, _, rfl, rfl, hq, eat, ?_⟩⟩)⟩
        refine ⟨_, rfl, .inr (.inl ⟨a, _, _, _, rfl, rfl, h1, rfl, .inl ⟨rfl, _, rfl, iteT ?_⟩⟩)⟩
        refine ⟨_, rfl, .inr (.inl ⟨a, _, _, _, rfl, rfl, h1, rfl, .inl ⟨rfl, _, rfl, iteF ?_⟩⟩)⟩
        refine ⟨_, rfl, .inr (.inl ⟨c, _, _, _, rfl, rfl, hc, rfl, _, rfl, .inr (.inl ⟨c, _, _, _, rfl, rfl, hc, rfl, by show 2 ≤ sizeLine; decide, fun z hz => ?_⟩)⟩)⟩
        have s3 := Same.new (o := .tup [u1, u2]) hz
        exact qq z _ _ _ upd_same (r1.same s3) (r2.same s3) s3
      · obtain ⟨u, hu, ru⟩ := repl_get rl hj
        obtain ⟨c, u1, u2, rfl, hc, r1, r2⟩ := rep_say ru
        have eat : atI us (k - 1) = some (.ref c) := by rw [hk, show ((j : Int) + 1 - 1) = j by omega]; exact atI_nat hu
        refine ⟨_, rfl, _, rfl, .inr (.inl ⟨a, _, _, _, rfl, rfl, h1, rfl, _, _, rfl, rfl, .inl ⟨r, _, _, _, rfl, rfl, hq, eat, ?_⟩⟩)⟩
        refine ⟨_, rfl, .inr (.inl ⟨a, _, _, _, rfl, rfl, h1, rfl, .inl ⟨rfl, _, rfl, iteT ?_⟩⟩)⟩
        refine ⟨_, rfl, .inr (.inl ⟨a, _, _, _, rfl, rfl, h1, rfl, .inl ⟨rfl, _, rfl, iteT ?_⟩⟩)⟩
        refine ⟨_, rfl, .inr (.inl ⟨c, _, _, _, rfl, rfl, hc, rfl, _, rfl, .inr (.inl ⟨c, _, _, _, rfl, rfl, hc, rfl, by show 2 ≤ sizeLine; decide, fun z hz => ?_⟩)⟩)⟩
        have s3 := Same.new (o := .tup [u2, u1]) hz
        exact qq z _ _ _ upd_same (r2.same s3) (r1.same s3) s3
theorem ok_begin_of (T : Txt K mg t) : FnOk P w K mg base CX0 2 t.a_begin_of t.d_begin_of ["records", "step"] (spBegin K) := by
  refine T.F_begin_of.ok sc_begin_of (fun vs H Q E h => ?_) (fun cdv A outer s H vs Q E hr h => ?_)
  · obtain ⟨r, v, us, rs, l, rfl, _⟩ := h; rfl
  · obtain ⟨r, v, us, rs, l, rfl, hq, rl, rv, ok, qq⟩ := h
    refine ⟨_, (pss_one (ps_ret (pe_ix (ix_K K) (pe_call (ok_begin_and_end (K := K) T) (hr.mono (by decide)) rfl T.G_begin_and_end T.F_begin_and_end.kp T.B_begin_and_end .nil pass0 (pa_cons (pv 0) (pa_cons (pv 1) pa_nil))) pe_int (fun _ _ => rfl)))), ?_⟩
    refine ⟨_, rfl, _, rfl, r, v, us, rs, l, rfl, hq, rl, rv, ok, fun z u1 u2 H' hz r1 r2 s1 => ?_⟩
    exact .inr (.inl ⟨z, _, _, _, rfl, rfl, SqT.of hz, rfl, qq _ _ r1 s1⟩)
theorem ok_end_of (T : Txt K mg t) : FnOk P w K mg base CX0 2 t.a_end_of t.d_end_of ["records", "step"] (spEnd K) := by
  refine T.F_end_of.ok sc_end_of (fun vs H Q E h => ?_) (fun cdv A outer s H vs Q E hr h => ?_)
  · obtain ⟨r, v, us, rs, l, rfl, _⟩ := h; rfl
  · obtain ⟨r, v, us, rs, l, rfl, hq, rl, rv, ok, qq⟩ := h
    refine ⟨_, (pss_one (ps_ret (pe_ix (ix_K K) (pe_call (ok_begin_and_end (K := K) T) (hr.mono (by decide)) rfl T.G_begin_and_end T.F_begin_and_end.kp T.B_begin_and_end .nil pass0 (pa_cons (pv 0) (pa_cons (pv 1) pa_nil))) pe_int (fun _ _ => rfl)))), ?_⟩
    refine ⟨_, rfl, _, rfl, r, v, us, rs, l, rfl, hq, rl, rv, ok, fun z u1 u2 H' hz r1 r2 s1 => ?_⟩
    exact .inr (.inl ⟨z, _, _, _, rfl, rfl, SqT.of hz, rfl, qq _ _ r2 s1⟩)
end
theorem spoD_lay {a : Spo} (hx : Nk a.1) : (spoD a).canLay0 = true := by
  show (PyData.strOk a.1 && true) = true
  rw [hx.str]
  rfl
structure LinNk (l : Lin) : Prop where
  b : Nk l.b.1
  e : Nk l.e.1
theorem getD_of {α : Type} {xs : List α} {i : Nat} {x d : α} (h : xs[i]? = some x) : xs.getD i d = x := by rw [List.getD_eq_getElem?_getD, h]; rfl
structure BorOk (b : Bor) : Prop where
  nm : Nk b.name
  few : b.blocks.flatten.length ≤ 6
  ne : b.blocks ≠ []
  each : ∀ x ∈ b.blocks, x ≠ []
  mks : ∀ x ∈ b.blocks, ∀ l ∈ x, Nk l.1
def RcdOk : Rcd → Prop
  | .bore b => BorOk b
  | .over p q => Nk p.1 ∧ Nk q.1
  | .one p q => Nk p.1 ∧ Nk q.1
def sptsOf : Rcd → List Spo
  | .bore b => (List.range b.blocks.flatten.length).map fun k : Nat => (b.name, (k : Int))
  | _ => []
def spotsOf (rs : List Rcd) : List Spo := rs.flatMap sptsOf
theorem spts_few {r : Rcd} (h : RcdOk r) : (sptsOf r).length ≤ 6 := by
  cases r with
  | bore b => show ((List.range b.blocks.flatten.length).map _).length ≤ 6; rw [List.length_map, List.length_range]; exact h.few
  | over p q => exact Nat.zero_le _
  | one p q => exact Nat.zero_le _
theorem spts_nk {r : Rcd} (h : RcdOk r) : ∀ p ∈ sptsOf r, Nk p.1 := by
  cases r with
  | bore b =>
    intro p hp
    obtain ⟨k, _, rfl⟩ := List.mem_map.mp hp
    exact h.nm
  | over p q => intro p hp; cases hp
  | one p q => intro p hp; cases hp
theorem spots_few {rs : List Rcd} (h : ∀ r ∈ rs, RcdOk r) : (spotsOf rs).length ≤ 6 * rs.length := by
  induction rs with
  | nil => exact Nat.le_refl _
  | cons r rs ih =>
    have h1 := spts_few (h r List.mem_cons_self)
    have h2 := ih fun r hr => h r (List.mem_cons_of_mem _ hr)
    show (List.flatMap sptsOf (r :: rs)).length ≤ 6 * (rs.length + 1)
    rw [List.flatMap_cons, List.length_append]
    have h3 : (List.flatMap sptsOf rs).length ≤ 6 * rs.length := h2
    omega
theorem spots_nk {rs : List Rcd} (h : ∀ r ∈ rs, RcdOk r) : ∀ p ∈ spotsOf rs, Nk p.1 := fun p hp => by
  obtain ⟨r, hr, hp⟩ := List.mem_flatMap.mp hp
  exact spts_nk (h r hr) p hp
theorem spots_succ {rs : List Rcd} {i : Nat} {r : Rcd} (h : rs[i]? = some r) : spotsOf (rs.take (i + 1)) = spotsOf (rs.take i) ++ sptsOf r := by
  unfold spotsOf
  rw [List.take_add_one, h, List.flatMap_append]
  congr 1
  show List.flatMap sptsOf [r] = _
  rw [List.flatMap_cons, List.flatMap_nil, List.append_nil]
theorem preSum_eq (ns : List Int) : ∀ n, n ≤ ns.length → PySem.preSum (fun i => ns.getD i 0) n = (ns.take n).sum := by
  intro n
  induction n with
  | zero => intro _; simp [PySem.preSum]
  | succ n ih =>
    intro h
    have ih := ih (by omega)
    have hn : n < ns.length := by omega
    show PySem.preSum (fun i => ns.getD i 0) n + ns.getD n 0 = _
    rw [ih, List.take_add_one, List.sum_append, List.getElem?_eq_getElem hn, List.getD_eq_getElem?_getD, List.getElem?_eq_getElem hn]
    simp
theorem preSum_all (ns : List Int) : PySem.preSum (fun i => ns.getD i 0) ns.length = ns.sum := by rw [preSum_eq _ _ (Nat.le_refl _), List.take_length]
theorem sum_lens (bs : List (List Lay)) : (bs.map fun x => ((x.length : Nat) : Int)).sum = (bs.flatten.length : Nat) := by
  induction bs with
  | nil => rfl
  | cons b bs ih => rw [List.map_cons, List.sum_cons, ih, List.flatten_cons, List.length_append]; push_cast; rfl
theorem rep_bore {K : PySem.W.Frag} {H : Hp} {b : Bor} {v : V} (h : Rep K H (borD b) v) : ∃ a u, v = .ref a ∧ SqT K H a [.str b.name, .int b.place, .int b.top, u] ∧ Rep K H (blksD b.blocks) u := by
  obtain ⟨a, xs, rfl, h1, h2⟩ := h
  obtain ⟨_, _, rfl, rfl, h2⟩ := h2
  obtain ⟨_, _, rfl, rfl, h2⟩ := h2
  obtain ⟨_, _, rfl, rfl, h2⟩ := h2
  obtain ⟨u, _, rfl, r, h2⟩ := h2
  cases h2
  exact ⟨a, u, rfl, h1, r⟩
theorem blks_len {bs : List (List Lay)} (h : ∀ x ∈ bs, x ≠ []) : bs.length ≤ bs.flatten.length := by
  induction bs with
  | nil => exact Nat.le_refl _
  | cons b bs ih =>
    have h1 := List.length_pos_iff.mpr (h b List.mem_cons_self)
    have h2 := ih fun b hb => h b (List.mem_cons_of_mem _ hb)
    rw [List.flatten_cons, List.length_append, List.length_cons]
    omega
def spSpots (K : PySem.W.Frag) : Sp := fun vs H Q _ => ∃ (r : Addr) (us : List V) (rs : List Rcd), vs = [.ref r] ∧ SqL K H r us ∧ RepL K H (rs.map rcdD) us ∧ (∀ r ∈ rs, RcdOk r) ∧ rs.length ≤ 20 ∧
  ∀ (p : Addr) (ws : List V) (H' : Hp), H p = none → H' p = some (.lst ws) → RepL K H' ((spotsOf rs).map spoD) ws → Same H H' → Q (.ref p) H'
section
variable {P : Program} {w : World} {K : PySem.W.Frag} {mg : Str → Option Value} {base : Heap} {t : Adr}
theorem ok__law_spots (T : Txt K mg t) : FnOk P w K mg base CX0 1 t.a__law_spots t.d__law_spots ["_law_records_here"] (spSpots K) := by
  refine T.F__law_spots.ok sc__law_spots (fun vs H Q E h => ?_) (fun cdv A outer s H vs Q E hr h => ?_)
  · obtain ⟨r, us, rs, rfl, _⟩ := h; rfl
  · obtain ⟨r, us, rs, rfl, hq, rl, ok, l20, qq⟩ := h
    let X_ : Cx := (cxOf CX0 P w K mg base ["_law_records_here", "_law_found", "_law_record", "_law_many"] "_law_spots" (defScope s__law_spots) t.a__law_spots cdv A outer s H E).nox
    let u1_ : PSV (X_) (List.drop 1 (bodyOf (stAt (bodyOf (stAt (defBody s__law_spots) 1)) 0))) := ⟨_, (pss_one (ps_set (i := 1) sc__law_spots.nd rfl (Or.inl rfl) (pe_op (op_addU K) (pv 1) (pe_cmp1 ["_law_records_here", "_law_found", "_law_record", "_law_many"] (defScope s__law_spots) ["_law_number", "_law_record"] [none, some 2] (pi_range1 rfl T.N_range (pa_cons (pv 3) pa_nil))
      (fun _ _ _ _ _ => (pg_name (i := 0) (show List.Nodup (["_law_number", "_law_record"] : List Str) from (by decide +kernel)) rfl (Or.inl rfl))) (fun _ _ _ _ _ => pts_nil) (fun _ _ _ _ _ => (pe_tup (pa_cons (pe_ix (ix_K K) (pv 1) pe_int (fun _ _ => rfl)) (pa_cons (pv 0) pa_nil))))))))⟩
    let w1_ : TS := u1_.1
    have e1_ : PSs (X_) (List.drop 1 (bodyOf (stAt (bodyOf (stAt (defBody s__law_spots) 1)) 0))) w1_ := u1_.2
    let u2_ : PSV (X_) (List.drop 2 (defBody s__law_spots)) := ⟨_, (pss_one (ps_ret (pv 1)))⟩
    let w2_ : TS := u2_.1
    have e2_ : PSs (X_) (List.drop 2 (defBody s__law_spots)) w2_ := u2_.2
    let u3_ : PSV (X_) (List.drop 1 (defBody s__law_spots)) := ⟨_, (pss_cons (ps_for PassesOwn.never rfl (pi_seqK K (pv 0)) (pg_name (i := 2) sc__law_spots.nd rfl (Or.inr rfl))
      (pss_one (ps_if (pt_cmpR (op_eqK K hr.units) (pe_callB (call_lenK K) rfl T.N_len bt_len (pa_cons (pv 2) pa_nil)) pe_int (nomark _)) (pss_cons (ps_set (i := 3) sc__law_spots.nd rfl (Or.inl rfl) (pe_callB (call_sumK K) rfl T.N_sum bt_sum (pa_cons (pe_cmp1 ["_law_records_here", "_law_found", "_law_record", "_law_many"] (defScope s__law_spots) ["_law_block"] [none] (pi_seqK K (pe_ix (ix_K K) (pv 2) pe_int (fun _ _ => rfl)))
      (fun _ _ _ _ _ => (pg_name (i := 0) (show List.Nodup (["_law_block"] : List Str) from (by decide +kernel)) rfl (Or.inl rfl))) (fun _ _ _ _ _ => pts_nil) (fun _ _ _ _ _ => (pe_callB (call_lenK K) rfl T.N_len bt_len (pa_cons (pv 0) pa_nil)))) pa_nil)))
      e1_) pss_nil)))
      e2_)⟩
    let w3_ : TS := u3_.1
    have e3_ : PSs (X_) (List.drop 1 (defBody s__law_spots)) w3_ := u3_.2
    refine ⟨_, (pss_cons (ps_set (i := 1) sc__law_spots.nd rfl (Or.inl rfl) (pe_lst pa_nil))
      e3_), ?_⟩
    have ul := repl_len rl
    have big : ∀ x : Int, 0 ≤ x → x ≤ 1000 → -(2 ^ 62) ≤ x ∧ x < 2 ^ 62 := fun x h0 h1 => ⟨Int.le_trans (by decide) h0, Int.lt_of_le_of_lt h1 (by decide)⟩
    refine ⟨Nat.zero_le _, fun p0 hp0 => ?_⟩
    have s0 : Same H (upd H p0 (.lst [])) := Same.new hp0
    have h0 : upd H p0 (.lst []) p0 = some (.lst []) := upd_same
    generalize upd H p0 (.lst []) = H0 at s0 h0
    let Pv1_ : Nat → St → Hp → Prop := fun i σ H' => ∃ (p : Addr) (ws : List V) (o2 o3 : Option V), σ = [some (.ref r), some (.ref p), o2, o3] ∧ H p = none ∧ H' p = some (.lst ws) ∧ RepL K H' ((spotsOf (rs.take i)).map spoD) ws ∧ Same H H'
    refine ⟨_, rfl, Itl K r, .lst (s0.seq hq), for_list (xs := us) Pv1_
      ⟨p0, [], none, none, rfl, hp0, h0, rfl, s0⟩ (fun i σ H' _ h => by obtain ⟨_, _, _, _, _, _, _, _, s⟩ := h; exact s.seq hq) ?_ ?_⟩
    · rintro i v σ H1 hv ⟨p, ws, o2, o3, rfl, hp, hp1, rws, s1⟩
      obtain ⟨rc, hrc, rv⟩ := repl_at rl hv
      have okr := ok rc (List.mem_of_getElem? hrc)
      have es := spots_succ hrc
      have hil := (List.getElem?_eq_some_iff.mp hrc).1
      have wl := repl_len rws
      have fw := spots_few (rs := rs.take i) fun r hr => ok r (List.mem_of_mem_take hr)
      rw [List.length_take] at fw
      have rv1 := rv.same s1
      cases rc with
      | bore b =>
        obtain ⟨ab, ub, rfl, hqb, rub⟩ := rep_bore rv1
        obtain ⟨ak, uk, rfl, hqk, rlk⟩ := rub
        have hukl := repl_len rlk
        have bl := blks_len okr.each
        have bf := okr.few
        refine ⟨_, rfl, _, _, rfl, .inr ⟨_, hqb, rfl⟩, .inl ⟨rfl, _, rfl, iteT ?_⟩⟩
        refine ⟨_, rfl, .inr (.inl ⟨ab, _, _, _, rfl, rfl, hqb, rfl, Itt K ak, .tup hqk, fun D hD => ?_⟩)⟩
        refine comp_tup (fun i ys H' => ys = (b.blocks.take i).map fun x => V.int (x.length : Nat)) hqk hD rfl ?_ ?_
        · rintro j m u ys H2 hu2 hi hm s2 hy hl rfl
          obtain ⟨x, hx, ru⟩ := repl_at rlk hu2
          obtain ⟨ax, ux, rfl, hqx, rlx⟩ := ru.same s2
          have hux := repl_len rlx
          refine ⟨SubS.set (SubS.refl _) rfl, _, rfl, _, _, rfl, .inr ⟨_, hqx, rfl⟩, ?_⟩
          rw [hux]
          refine wl_next hD hi hm (small1000 (by omega)) s2 hy hl (Same.refl _) ?_
          rw [List.take_add_one, hx, List.map_append]
          rfl
        · rintro ys H2 s2 hy hl rfl
          rw [hukl, List.take_length] at hy
          refine ⟨D, b.blocks.map fun x => ((x.length : Nat) : Int), rfl, SqL.of (by rw [hy, List.map_map]; rfl), ?_⟩
          rw [preSum_all, sum_lens]
          have s02 := s1.trans s2
          have hnb : b.blocks.flatten.length ≤ 1000 := by omega
          refine ⟨_, rfl, _, rfl, _, rfl, (big _ (by omega) (by omega)).1, (big _ (by omega) (by omega)).2, fun D2 hD2 => ?_⟩
          refine comp_rng (fun k ys H' => RepL K H' (((List.range k).map fun k : Nat => ((b.name, (k : Int)) : Spo)).map spoD) ys) hD2 rfl ?_ ?_
          · rintro k mm ys H3 hk hmm s3 hy3 hl3 rq
            rw [Int.zero_add]
            have hk6 : k < b.blocks.flatten.length := hk
            refine ⟨SubS.set (SubS.refl _) rfl, ?_⟩
            refine ⟨_, rfl, .inr (.inl ⟨ab, _, _, _, rfl, rfl, (s2.trans s3).seqT hqb, rfl, _, rfl, by show 2 ≤ sizeLine; decide, fun z hz => ?_⟩)⟩
            have s4 := Same.new (o := .tup [.str b.name, .int (k : Int)]) hz
            refine wl_next hD2 hk hmm (small1000 (by omega)) s3 hy3 hl3 s4 ?_
            rw [List.range_succ, List.map_append, List.map_append]
            have k2 := keepT_upd (K := K) (ys := ys ++ [.ref z]) (s4 _ _ hy3)
            exact RepL.append ((rq.same s4).keepT k2 (spos_pure _)) (RepL.one (Rep.keepT k2 rfl (rep_tup upd_same ⟨_, _, rfl, rfl, _, _, rfl, rfl, rfl⟩)))
          · rintro ys H3 s3 hy3 hl3 rq
            have ql := repl_len rq
            rw [List.length_map, List.length_range] at ql
            have hyn : ys.length ≤ 6 := by
              have : ys.length = ((b.blocks.flatten.length : Nat) : Int).toNat := ql
              omega
            refine .inr (.inr (.inl ⟨p, D2, ws, ys, rfl, rfl, (s2.trans s3) _ _ hp1, hy3, small8 (by omega), fun p3 hp3 => ?_⟩))
            have s4 := Same.new (o := .lst (ws ++ ys)) hp3
            refine ⟨p3, ws ++ ys, _, _, rfl, (s02.trans s3).free hp3, upd_same, ?_, (s02.trans s3).trans s4⟩
            rw [es, List.map_append]
            exact RepL.append ((rws.same (s2.trans s3)).same s4) (rq.same s4)
      | over x y =>
        obtain ⟨a, u1, u2, rfl, hqa, _, _⟩ := rep_say rv1
        refine ⟨_, rfl, _, _, rfl, .inr ⟨_, hqa, rfl⟩, .inl ⟨rfl, _, rfl, iteF ?_⟩⟩
        refine ⟨p, ws, _, _, rfl, hp, hp1, ?_, s1⟩
        rw [es]
        show RepL K H1 ((spotsOf (rs.take i) ++ []).map spoD) ws
        rw [List.append_nil]
        exact rws
      | one x y =>
        obtain ⟨a, u1, u2, rfl, hqa, _, _⟩ := rep_say rv1
        refine ⟨_, rfl, _, _, rfl, .inr ⟨_, hqa, rfl⟩, .inl ⟨rfl, _, rfl, iteF ?_⟩⟩
        refine ⟨p, ws, _, _, rfl, hp, hp1, ?_, s1⟩
        rw [es]
        show RepL K H1 ((spotsOf (rs.take i) ++ []).map spoD) ws
        rw [List.append_nil]
        exact rws
    · rintro σ H1 ⟨p, ws, o2, o3, rfl, hp, hp1, rws, s1⟩
      rw [ul, List.take_length] at rws
      exact ⟨_, rfl, qq p ws H1 hp hp1 rws s1⟩
end
theorem small64 {x : Int} (h0 : 0 ≤ x) (h1 : x ≤ 1000) : -(2 ^ 64) < x ∧ x < 2 ^ 64 := ⟨Int.lt_of_lt_of_le (by decide) h0, Int.lt_of_le_of_lt h1 (by decide)⟩
theorem big62 {x : Int} (h0 : 0 ≤ x) (h1 : x ≤ 1000) : -(2 ^ 62) ≤ x ∧ x < 2 ^ 62 := ⟨Int.le_trans (by decide) h0, Int.lt_of_le_of_lt h1 (by decide)⟩
theorem But.same_of {f : Addr} {H H1 H2 : Hp} (s : Same H H1) (b : But f H1 H2) (hf : H f = none) : Same H H2 := fun c o e => b c o (s c o e) (ne_of_none e hf)
def sayOf (wd : Str) (x y : Spo) : Rcd := if wd = "one" then .one x y else .over x y
theorem sayOf_ok {wd : Str} {x y : Spo} (hx : Nk x.1) (hy : Nk y.1) : RcdOk (sayOf wd x y) := by
  unfold sayOf
  split
  · exact ⟨hx, hy⟩
  · exact ⟨hx, hy⟩
theorem sayOf_rep {K : PySem.W.Frag} {H : Hp} {wd : Str} {x y : Spo} {z : Addr} {u1 u2 : V} (hw : wd = "one" ∨ wd = "over") (h : H z = some (.tup [.str wd, u1, u2])) (r1 : Rep K H (spoD x) u1) (r2 : Rep K H (spoD y) u2) : Rep K H (rcdD (sayOf wd x y)) (.ref z) := by
  rcases hw with rfl | rfl
  · exact rep_tup h ⟨_, _, rfl, rfl, _, _, rfl, r1, _, _, rfl, r2, rfl⟩
  · exact rep_tup h ⟨_, _, rfl, rfl, _, _, rfl, r1, _, _, rfl, r2, rfl⟩
theorem rep_spo {K : PySem.W.Frag} {H : Hp} {p : Spo} {v : V} (h : Rep K H (spoD p) v) : ∃ a, v = .ref a ∧ SqT K H a [.str p.1, .int p.2] := by
  obtain ⟨a, xs, rfl, h1, h2⟩ := h
  obtain ⟨_, _, rfl, rfl, h2⟩ := h2
  obtain ⟨_, _, rfl, rfl, h2⟩ := h2
  cases h2
  exact ⟨a, rfl, h1⟩
theorem repl_atI {K : PySem.W.Frag} {H : Hp} {α : Type} {g : α → PyData} {xs : List α} {us : List V} {r : Int} (rl : RepL K H (xs.map g) us) (h0 : 0 ≤ r) (h1 : r < xs.length) : ∃ u x, atI us r = some u ∧ x ∈ xs ∧ Rep K H (g x) u := by
  obtain ⟨j, rfl⟩ : ∃ j : Nat, r = j := ⟨r.toNat, by omega⟩
  have hj : j < xs.length := by omega
  obtain ⟨u, hu, ru⟩ := repl_get rl (List.getElem?_eq_getElem hj)
  exact ⟨u, _, atI_nat hu, List.getElem_mem hj, ru⟩
theorem two_words {r : Int} (h0 : 0 ≤ r) (h1 : r < 2) : ∃ wd : Str, atI [V.str "one", V.str "over"] r = some (.str wd) ∧ (wd = "one" ∨ wd = "over") := by
  obtain ⟨j, rfl⟩ : ∃ j : Nat, r = j := ⟨r.toNat, by omega⟩
  rcases j with _ | _ | j
  · exact ⟨"one", rfl, .inl rfl⟩
  · exact ⟨"over", rfl, .inr rfl⟩
  · omega
def wt1 : Rcd → Nat
  | .bore _ => 6
  | _ => 2
def wt (rs : List Rcd) : Nat := (rs.map wt1).sum
theorem wt_ins (rs : List Rcd) (n : Nat) (r : Rcd) : wt (insAt rs n r) = wt1 r + wt rs := by
  have e : wt rs = wt (rs.take n ++ rs.drop n) := by rw [List.take_append_drop]
  rw [e]
  unfold wt insAt
  rw [List.map_append, List.map_append, List.sum_append, List.sum_append, List.map_cons, List.sum_cons]
  omega
theorem wt_bores (bs : List Bor) : wt (bs.map Rcd.bore) = 6 * bs.length := by
  induction bs with
  | nil => rfl
  | cons b bs ih =>
    show 6 + wt (bs.map Rcd.bore) = 6 * (bs.length + 1)
    rw [ih]
    omega
theorem wt_say (wd : Str) (x y : Spo) : wt1 (sayOf wd x y) = 2 := by
  unfold sayOf
  split <;> rfl
def spRecords (K : PySem.W.Frag) : Sp := fun vs H Q _ => ∃ (a : Addr) (ns : List Int), vs = [.ref a] ∧ Scr K H a ns ∧
  ∀ (r : Addr) (us : List V) (rs : List Rcd) (H' : Hp), H r = none → H' r = some (.lst us) → RepL K H' (rs.map rcdD) us → (∀ r ∈ rs, RcdOk r) → rs.length ≤ 11 → wt rs ≤ 34 → Same H H' → Q (.ref r) H'
section
variable {P : Program} {w : World} {K : PySem.W.Frag} {mg : Str → Option Value} {base : Heap} {t : Adr}
theorem ok__law_records (T : Txt K mg t) : FnOk P w K mg base CX0 4 t.a__law_records t.d__law_records ["_law_script"] (spRecords K) := by
  refine T.F__law_records.ok sc__law_records (fun vs H Q E h => ?_) (fun cdv A outer s H vs Q E hr h => ?_)
  · obtain ⟨a, ns, rfl, _⟩ := h; rfl
  · obtain ⟨a, ns, rfl, hs, qq⟩ := h
    let X_ : Cx := (cxOf CX0 P w K mg base ["_law_script", "_law_records_here", "_law_spots_here", "_law_draws_here", "_law_k", "_law_kind", "_law_one", "_law_two", "_law_at", "_law_word", "_law_first", "_law_second"] "_law_records" (defScope s__law_records) t.a__law_records cdv A outer s H E).nox
    let u1_ : PSV (X_) (List.drop 1 (bodyOf (stAt (bodyOf (stAt (defBody s__law_records) 3)) 4))) := ⟨_, (pss_one (ps_if (pt_cmpR op_gtG (pe_ix (ix_K K) (pv 10) pe_int (fun _ _ => rfl)) (pe_ix (ix_K K) (pv 11) pe_int (fun _ _ => rfl)) (nomark _)) (pss_one (ps_par (i := 10) (j := 11) rfl sc__law_records.nd rfl rfl (by decide) rfl rfl (pa_cons (pv 11) (pa_cons (pv 10) pa_nil)) rfl)) pss_nil))⟩
    let w1_ : TS := u1_.1
    have e1_ : PSs (X_) (List.drop 1 (bodyOf (stAt (bodyOf (stAt (defBody s__law_records) 3)) 4))) w1_ := u1_.2
    let u2_ : PSV (X_) (List.drop 5 (bodyOf (stAt (defBody s__law_records) 3))) := ⟨_, (pss_one (ps_expr (pe_bmK K PySem.F.plainAttrs_list PySem.F.slot_list_insert PySem.F.type_list_insert mt_insert (pv 1) (pa_cons (pv 8) (pa_cons (pe_tup (pa_cons (pv 9) (pa_cons (pv 10) (pa_cons (pv 11) pa_nil)))) pa_nil)))))⟩
    let w2_ : TS := u2_.1
    have e2_ : PSs (X_) (List.drop 5 (bodyOf (stAt (defBody s__law_records) 3))) w2_ := u2_.2
    let u3_ : PSV (X_) (List.drop 4 (bodyOf (stAt (defBody s__law_records) 3))) := ⟨_, (pss_cons (ps_mid (ps_if (pt_cmpR (op_eqK K hr.units) (pe_ix (ix_K K) (pv 3) pe_int (fun _ _ => rfl)) pe_int (nomark _)) (pss_cons (ps_set (i := 9) sc__law_records.nd rfl (Or.inl rfl) (pe_ix (ix_K K) (pe_lst (pa_cons pe_str (pa_cons pe_str pa_nil))) (pe_callTy call_int1 rfl T.N_int bt_int (pa_cons (pe_cmpR (op_neK K hr.units) (pe_ix (ix_K K) (pv 10) pe_int (fun _ _ => rfl)) (pe_ix (ix_K K) (pv 11) pe_int (fun _ _ => rfl)) (nomark _)) pa_nil)) (fun _ _ => rfl)))
      e1_) pss_nil))
      e2_)⟩
    let w3_ : TS := u3_.1
    have e3_ : PSs (X_) (List.drop 4 (bodyOf (stAt (defBody s__law_records) 3))) w3_ := u3_.2
    let u4_ : PSV (X_) (List.drop 3 (bodyOf (stAt (defBody s__law_records) 3))) := ⟨_, (pss_cons (ps_set (i := 11) sc__law_records.nd rfl (Or.inl rfl) (pe_ix (ix_K K) (pv 2) (pv 7) (fun _ _ => rfl)))
      e3_)⟩
    let w4_ : TS := u4_.1
    have e4_ : PSs (X_) (List.drop 3 (bodyOf (stAt (defBody s__law_records) 3))) w4_ := u4_.2
    let u5_ : PSV (X_) (List.drop 2 (bodyOf (stAt (defBody s__law_records) 3))) := ⟨_, (pss_cons (ps_set (i := 10) sc__law_records.nd rfl (Or.inl rfl) (pe_ix (ix_K K) (pv 2) (pv 6) (fun _ _ => rfl)))
      e4_)⟩
    let w5_ : TS := u5_.1
    have e5_ : PSs (X_) (List.drop 2 (bodyOf (stAt (defBody s__law_records) 3))) w5_ := u5_.2
    let u6_ : PSV (X_) (List.drop 1 (bodyOf (stAt (defBody s__law_records) 3))) := ⟨_, (pss_cons (ps_set (i := 9) sc__law_records.nd rfl (Or.inl rfl) (pe_ix (ix_K K) (pe_lst (pa_cons pe_str (pa_cons pe_str pa_nil))) (pv 5) (fun _ _ => rfl)))
      e5_)⟩
    let w6_ : TS := u6_.1
    have e6_ : PSs (X_) (List.drop 1 (bodyOf (stAt (defBody s__law_records) 3))) w6_ := u6_.2
    let u7_ : PSV (X_) (List.drop 4 (defBody s__law_records)) := ⟨_, (pss_one (ps_ret (pv 1)))⟩
    let w7_ : TS := u7_.1
    have e7_ : PSs (X_) (List.drop 4 (defBody s__law_records)) w7_ := u7_.2
    let u8_ : PSV (X_) (List.drop 3 (defBody s__law_records)) := ⟨_, (pss_cons (ps_for PassesOwn.never rfl (pi_range1 rfl T.N_range (pa_cons (pe_op (op_mulU K) (pe_ix (ix_K K) (pv 3) pe_int (fun _ _ => rfl)) (pe_callTy call_int1 rfl T.N_int bt_int (pa_cons (pe_cmpR op_gtG (pe_callB (call_lenK K) rfl T.N_len bt_len (pa_cons (pv 2) pa_nil)) pe_int (nomark _)) pa_nil))) pa_nil)) (pg_name (i := 4) sc__law_records.nd rfl (Or.inl rfl))
      (pss_cons (ps_asg (pe_call (ok__law_draws (K := K) T) (hr.mono (by decide)) rfl T.G__law_draws T.F__law_draws.kp T.B__law_draws .nil pass0 (pa_cons (pv 0) (pa_cons (pe_op (op_addU K) pe_int (pv 4)) (pa_cons (pe_lst (pa_cons pe_int (pa_cons (pe_callB (call_lenK K) rfl T.N_len bt_len (pa_cons (pv 2) pa_nil)) (pa_cons (pe_callB (call_lenK K) rfl T.N_len bt_len (pa_cons (pv 2) pa_nil)) (pa_cons (pe_op (op_addU K) (pe_callB (call_lenK K) rfl T.N_len bt_len (pa_cons (pv 1) pa_nil)) pe_int) pa_nil))))) pa_nil)))) (pg_lisK K (n := 4) rfl (pgs_cons (pg_name (i := 5) sc__law_records.nd rfl (Or.inl rfl)) (pgs_cons (pg_name (i := 6) sc__law_records.nd rfl (Or.inl rfl)) (pgs_cons (pg_name (i := 7) sc__law_records.nd rfl (Or.inl rfl)) (pgs_cons (pg_name (i := 8) sc__law_records.nd rfl (Or.inl rfl)) pgs_nil))))))
      e6_))
      e7_)⟩
    let w8_ : TS := u8_.1
    have e8_ : PSs (X_) (List.drop 3 (defBody s__law_records)) w8_ := u8_.2
    let u9_ : PSV (X_) (List.drop 2 (defBody s__law_records)) := ⟨_, (pss_cons (ps_set (i := 3) sc__law_records.nd rfl (Or.inl rfl) (pe_call (ok__law_draws (K := K) T) (hr.mono (by decide)) rfl T.G__law_draws T.F__law_draws.kp T.B__law_draws .nil pass0 (pa_cons (pv 0) (pa_cons pe_int (pa_cons (pe_lst (pa_cons pe_int (pa_cons pe_int pa_nil))) pa_nil)))))
      e8_)⟩
    let w9_ : TS := u9_.1
    have e9_ : PSs (X_) (List.drop 2 (defBody s__law_records)) w9_ := u9_.2
    let u10_ : PSV (X_) (List.drop 1 (defBody s__law_records)) := ⟨_, (pss_cons (ps_set (i := 2) sc__law_records.nd rfl (Or.inl rfl) (pe_call (ok__law_spots (K := K) T) (hr.mono (by decide)) rfl T.G__law_spots T.F__law_spots.kp T.B__law_spots .nil pass0 (pa_cons (pv 1) pa_nil)))
      e9_)⟩
    let w10_ : TS := u10_.1
    have e10_ : PSs (X_) (List.drop 1 (defBody s__law_records)) w10_ := u10_.2
    refine ⟨_, (pss_cons (ps_set (i := 1) sc__law_records.nd rfl (Or.inl rfl) (pe_callTy (call_listK K) rfl T.N_list bt_list (pa_cons (pe_ix (ix_K K) (pe_call (ok__law_bores (K := K) T) (hr.mono (by decide)) rfl T.G__law_bores T.F__law_bores.kp T.B__law_bores .nil pass0 (pa_cons (pv 0) (pa_cons pe_int pa_nil))) pe_int (fun _ _ => rfl)) pa_nil)))
      e10_), ?_⟩
    refine ⟨_, rfl, a, ns, rfl, hs, fun v bs ls ms H1 rv bok bnk mnk b3 s1 => ?_⟩
    obtain ⟨av, xs, rfl, h1, h2⟩ := rv
    obtain ⟨u0, _, rfl, r0, h2⟩ := h2
    obtain ⟨u1, _, rfl, _, h2⟩ := h2
    cases h2
    obtain ⟨ab, us, rfl, hqb, rbs⟩ := r0
    refine .inr (.inl ⟨av, _, _, _, rfl, rfl, h1, rfl, ab, us, rfl, .inr hqb, fun r hrn => ?_⟩)
    have s2 : Same H1 (upd H1 r (.lst us)) := Same.new hrn
    have hr2 : (upd H1 r (.lst us)) r = some (.lst us) := upd_same
    have rl2 : RepL K (upd H1 r (.lst us)) ((bs.map Rcd.bore).map rcdD) us := by
      rw [List.map_map]
      exact rbs.same s2
    have ok2 : ∀ c ∈ bs.map Rcd.bore, RcdOk c := fun c hc => by
      obtain ⟨b, hb, rfl⟩ := List.mem_map.mp hc
      have o := bok b hb
      exact ⟨bnk b hb, o.few, o.ne, o.each, fun x hx l hl => mnk _ (o.lay x hx l hl)⟩
    have ln2 : (bs.map Rcd.bore).length ≤ 3 := by rw [List.length_map]; exact b3
    have hrH : H r = none := s1.free hrn
    generalize upd H1 r (.lst us) = H2 at s2 hr2 rl2
    have s02 := s1.trans s2
    refine ⟨_, rfl, r, us, bs.map Rcd.bore, rfl, SqL.of hr2, rl2, ok2, by omega, fun p ws H3 hpn hp3 rws s3 => ?_⟩
    have s03 := s02.trans s3
    have npr : p ≠ r := (ne_of_none hr2 hpn).symm
    have nk3 := spots_nk ok2
    have fw3 := spots_few ok2
    have wl := repl_len rws
    generalize spotsOf (bs.map Rcd.bore) = sps at rws nk3 fw3 wl
    refine ⟨_, rfl, by show 2 ≤ sizeLine; decide, fun p4 hp4 => ?_⟩
    have s4 := Same.new (o := .lst ([2, 9].map V.int)) hp4
    refine ⟨a, p4, ns, [2, 9], 5, rfl, hs.same (s03.trans s4), by decide, by decide, upd_same, ?_, by decide, fun pd rs0 H5 hpdn hpd hrl hrb s5 => ?_⟩
    · intro z hz
      exact (show ∀ z ∈ ([2, 9] : List Int), 0 < z ∧ z < 2 ^ 1000 by decide) z hz
    obtain ⟨d0, d1, rfl⟩ : ∃ r0 r1, rs0 = [r0, r1] := by
      match rs0, hrl with
      | [r0, r1], _ => exact ⟨r0, r1, rfl⟩
    obtain ⟨d1a, d1b⟩ := hrb 1 d1 9 rfl rfl
    have s35 := s4.trans s5
    have s05 := s03.trans s35
    have hr5 := (s3.trans s35) _ _ hr2
    have hp5 := s35 _ _ hp3
    have rws5 := rws.same s35
    have rl5 := rl2.same (s3.trans s35)
    have npd : pd ≠ r := (ne_of_none ((s3.trans s4) _ _ hr2) hpdn).symm
    refine ⟨_, rfl, .inl ⟨pd, _, _, _, rfl, rfl, SqL.of hpd, rfl, _, rfl, _, _, rfl, .inl ⟨_, SqL.of hp5, rfl⟩, _, _, rfl, rfl, .inr ⟨_, rfl, .inl ⟨_, _, rfl, rfl, .inl (.inl (small64 d1a (by omega))), ?_⟩⟩⟩⟩
    have hn : ∀ c : Bool, 0 ≤ d1 * (if c = true then 1 else 0) ∧ d1 * (if c = true then 1 else 0) ≤ 8 ∧ (0 < d1 * (if c = true then 1 else 0) → c = true) := fun c => by
      cases c
      · rw [if_neg (by decide), Int.mul_zero]; exact ⟨Int.le_refl _, by decide, fun z => absurd z (by decide)⟩
      · rw [if_pos rfl, Int.mul_one]; exact ⟨d1a, by omega, fun _ => rfl⟩
    obtain ⟨n0, n8, npos⟩ := hn (decide ((0 : Int) < (ws.length : Nat)))
    refine ⟨_, rfl, (big62 n0 (by omega)).1, (big62 n0 (by omega)).2, ?_⟩
    generalize d1 * (if decide ((0 : Int) < (ws.length : Nat)) = true then 1 else 0) = nn at n0 n8 npos
    refine for_range (fun i σ H' => ∃ (us : List V) (rs : List Rcd) (o4 o5 o6 o7 o8 o9 o10 o11 : Option V), σ = [some (.ref a), some (.ref r), some (.ref p), some (.ref pd), o4, o5, o6, o7, o8, o9, o10, o11] ∧ H' r = some (.lst us) ∧ RepL K H' (rs.map rcdD) us ∧ (∀ c ∈ rs, RcdOk c) ∧ rs.length ≤ 3 + i ∧ wt rs ≤ 18 + 2 * i ∧ But r H5 H')
      ⟨us, bs.map Rcd.bore, _, _, _, _, _, _, _, _, rfl, hr5, rl5, ok2, by omega, by rw [wt_bores]; omega, But.refl _ _⟩ ?_ ?_
    · rintro i σ H6 hi ⟨us, rs, o4, o5, o6, o7, o8, o9, o10, o11, rfl, hr6, rl6, ok6, ln6, wt6, b6⟩
      rw [Int.zero_add]
      have hi8 : i < 8 := by omega
      have w0 : 0 < ws.length := by
        have := npos (by omega)
        have : (0 : Int) < (ws.length : Nat) := of_decide_eq_true this
        omega
      have hp6 := b6 _ _ hp5 npr
      have hpd6 := b6 _ _ hpd npd
      have rws6 := rws5.keepT (But.keepT b6 hr5) (spos_pure sps)
      have hs6 := (hs.same s05).but b6 hr5
      have ul6 := repl_len rl6
      refine ⟨_, rfl, _, rfl, .inl ⟨_, _, rfl, rfl, ?_⟩⟩
      refine ⟨_, rfl, _, _, rfl, .inl ⟨_, SqL.of hp6, rfl⟩, _, rfl, _, _, rfl, .inl ⟨_, SqL.of hp6, rfl⟩, _, rfl, _, _, rfl, .inl ⟨_, SqL.of hr6, rfl⟩, .inl ⟨_, _, rfl, rfl, by show 4 ≤ sizeLine; decide, fun pz hpz => ?_⟩⟩
      have s7 : Same H6 (upd H6 pz (.lst (([2, (ws.length : Int), (ws.length : Int), (us.length : Int) + 1] : List Int).map V.int))) := Same.new hpz
      refine ⟨a, pz, ns, [2, (ws.length : Int), (ws.length : Int), (us.length : Int) + 1], 20 + (i : Int), rfl, hs6.same s7, by omega, by omega, upd_same, ?_, by show 4 ≤ 1000; decide, fun pq qs H8 hpq hq8 hql hqb s8 => ?_⟩
      · intro z hz
        have hb : 0 < z ∧ z ≤ 1000 := by
          simp only [List.mem_cons, List.not_mem_nil, or_false] at hz
          rcases hz with rfl | rfl | rfl | rfl <;> omega
        exact ⟨hb.1, Int.lt_of_le_of_lt hb.2 (by decide)⟩
      obtain ⟨q0, q1, q2, q3, rfl⟩ : ∃ q0 q1 q2 q3, qs = [q0, q1, q2, q3] := by
        match qs, hql with
        | [q0, q1, q2, q3], _ => exact ⟨q0, q1, q2, q3, rfl⟩
      obtain ⟨q0a, q0b⟩ := hqb 0 q0 2 rfl rfl
      obtain ⟨q1a, q1b⟩ := hqb 1 q1 _ rfl rfl
      obtain ⟨q2a, q2b⟩ := hqb 2 q2 _ rfl rfl
      obtain ⟨q3a, q3b⟩ := hqb 3 q3 _ rfl rfl
      have s68 := s7.trans s8
      refine ⟨pq, _, rfl, SqL.of hq8, rfl, _, _, rfl, _, _, rfl, _, _, rfl, _, _, rfl, rfl, ?_⟩
      obtain ⟨wd, ewd, hwd⟩ := two_words q0a q0b
      refine ⟨by show 2 ≤ sizeLine; decide, fun pw hpw => ?_⟩
      have s9 := Same.new (o := .lst [V.str "one", V.str "over"]) hpw
      refine ⟨_, rfl, .inl ⟨pw, _, _, _, rfl, rfl, SqL.of upd_same, ewd, ?_⟩⟩
      have s69 := s68.trans s9
      obtain ⟨u1, x, e1, hx, rx⟩ := repl_atI (rws6.same s69) q1a (by rw [← wl]; exact q1b)
      obtain ⟨u2, y, e2, hy, ry⟩ := repl_atI (rws6.same s69) q2a (by rw [← wl]; exact q2b)
      have nkx := nk3 x hx
      have nky := nk3 y hy
      refine ⟨_, rfl, _, rfl, .inl ⟨p, _, _, _, rfl, rfl, SqL.of (s69 _ _ hp6), e1, ?_⟩⟩
      refine ⟨_, rfl, _, rfl, .inl ⟨p, _, _, _, rfl, rfl, SqL.of (s69 _ _ hp6), e2, ?_⟩⟩
      generalize upd H8 pw (.lst [V.str "one", V.str "over"]) = H9 at s9 s69 rx ry
      let M1_ : St → Hp → Prop := fun σ H' => ∃ (wd : Str) (u1 u2 : V) (x y : Spo), σ = [some (.ref a), some (.ref r), some (.ref p), some (.ref pd), some (.int i), some (.int q0), some (.int q1), some (.int q2), some (.int q3), some (.str wd), some u1, some u2] ∧ (wd = "one" ∨ wd = "over") ∧ Rep K H' (spoD x) u1 ∧ Rep K H' (spoD y) u2 ∧ Nk x.1 ∧ Nk y.1 ∧ Same H9 H'
      refine ⟨M1_, ?_, ?_⟩
      · obtain ⟨ax, rfl, hqx⟩ := rep_spo rx
        obtain ⟨ay, rfl, hqy⟩ := rep_spo ry
        refine ⟨_, rfl, .inl ⟨pd, _, _, _, rfl, rfl, SqL.of (s69 _ _ hpd6), rfl, .inl ⟨rfl, _, rfl, ite2 (fun _ => ?_) (fun _ => ?_)⟩⟩⟩
        · refine ⟨by show 2 ≤ sizeLine; decide, fun pv hpv => ?_⟩
          have sA := Same.new (o := .lst [V.str "one", V.str "over"]) hpv
          have hqx' := sA.seqT hqx
          have hqy' := sA.seqT hqy
          refine ⟨_, rfl, .inr (.inl ⟨ax, _, _, _, rfl, rfl, hqx', rfl, _, rfl, .inr (.inl ⟨ay, _, _, _, rfl, rfl, hqy', rfl, .inl ⟨rfl, .inr ⟨_, rfl, ?_⟩⟩⟩)⟩)⟩
          have tw : ∀ c : Bool, ∃ wd : Str, atI [V.str "one", V.str "over"] (if c = true then 1 else 0) = some (.str wd) ∧ (wd = "one" ∨ wd = "over") := fun c => two_words (by split <;> decide) (by split <;> decide)
          obtain ⟨wd', ewd', hwd'⟩ := tw (!decide (V.int x.2 = V.int y.2))
          refine .inl ⟨pv, _, _, _, rfl, rfl, SqL.of upd_same, ewd', ?_⟩
          refine ⟨_, rfl, .inr (.inl ⟨ax, _, _, _, rfl, rfl, hqx', rfl, _, rfl, .inr (.inl ⟨ay, _, _, _, rfl, rfl, hqy', rfl, _, _, rfl, rfl, _, rfl, ite2 (fun _ => ?_) (fun _ => ?_)⟩)⟩)⟩
          · exact ⟨_, rfl, _, rfl, _, _, rfl, wd', _, _, y, x, rfl, hwd', ry.same sA, rx.same sA, nky, nkx, sA⟩
          · exact ⟨wd', _, _, x, y, rfl, hwd', rx.same sA, ry.same sA, nkx, nky, sA⟩
        · exact ⟨wd, _, _, x, y, rfl, hwd, rx, ry, nkx, nky, Same.refl _⟩
      · rintro σ HA ⟨wd, u1, u2, x, y, rfl, hwd, rx, ry, nkx, nky, sA⟩
        have s6A := s69.trans sA
        refine ⟨_, rfl, .inl ⟨rfl, _, SqL.of (s6A _ _ hr6)⟩, _, rfl, _, rfl, _, rfl, _, rfl, by show 3 ≤ sizeLine; decide, fun z hz => ?_⟩
        have sB : Same HA (upd HA z (.tup [.str wd, u1, u2])) := Same.new hz
        have hzB : (upd HA z (.tup [.str wd, u1, u2])) z = some (.tup [.str wd, u1, u2]) := upd_same
        have hrB := (s6A.trans sB) _ _ hr6
        have rxB := rx.same sB
        have ryB := ry.same sB
        generalize upd HA z (.tup [.str wd, u1, u2]) = HB at sB hzB hrB rxB ryB
        have s6B := s6A.trans sB
        refine ⟨r, us, q3, .ref z, rfl, rfl, hrB, q3a, Int.lt_of_lt_of_le q3b (Int.le_trans (show (us.length : Int) + 1 ≤ 1000 by omega) (by decide)), small1000 (by omega), ?_⟩
        generalize q3.toNat = n3
        have kC := keepT_upd (K := K) (ys := us.take n3 ++ .ref z :: us.drop n3) hrB
        have rlC := (rl6.same s6B).keepT kC (rcds_pure rs)
        have rzC : Rep K (upd HB r (.lst (us.take n3 ++ .ref z :: us.drop n3))) (rcdD (sayOf wd x y)) (.ref z) := Rep.keepT kC (rcdD_pure _) (sayOf_rep hwd hzB rxB ryB)
        refine ⟨_, insAt rs n3 (sayOf wd x y), _, _, _, _, _, _, _, _, rfl, upd_same, ?_, fun c hc => ?_, by rw [insAt_len]; omega, by rw [wt_ins, wt_say]; omega, fun b o e n => ?_⟩
        · rw [← insAt_map]
          exact RepL.append (rlC.take _) ⟨_, _, rfl, rzC, rlC.drop _⟩
        · rcases insAt_mem.mp hc with rfl | hc
          · exact sayOf_ok nkx nky
          · exact ok6 c hc
        · rw [upd_ne n]
          exact s6B _ _ (b6 b o e n)
    · rintro σ H6 ⟨us, rs, o4, o5, o6, o7, o8, o9, o10, o11, rfl, hr6, rl6, ok6, ln6, wt6, b6⟩
      have ln : rs.length ≤ 11 := by
        have : rs.length ≤ 3 + nn.toNat := ln6
        omega
      have wt34 : wt rs ≤ 34 := by
        have : wt rs ≤ 18 + 2 * nn.toNat := wt6
        omega
      exact ⟨_, rfl, qq r us rs H6 hrH hr6 rl6 ok6 ln wt34 (But.same_of s05 b6 hrH)⟩
end
def rowLin (nm : Str) (k : Int) : Lin := ⟨(nm, k), (nm, k + 1), true, .row nm k⟩
def rowsOf (nm : Str) (n : Int) (m : Nat) : List Lin := (List.range m).map fun j : Nat => rowLin nm (n + j)
def blkLines (nm : Str) : Int → List (List Lay) → List Lin
  | _, [] => []
  | n, b :: bs => rowsOf nm n (b.length - 1) ++ blkLines nm (n + b.length) bs
def linesAt (k : Nat) : Rcd → List Lin
  | .bore b => blkLines b.name 0 b.blocks
  | .over p q => [⟨p, q, true, .over ((k : Int) + 1)⟩]
  | .one p q => [⟨p, q, false, .one ((k : Int) + 1) 0⟩, ⟨q, p, false, .one ((k : Int) + 1) 1⟩]
def linesUp : Nat → List Rcd → List Lin
  | _, [] => []
  | k, r :: rs => linesAt k r ++ linesUp (k + 1) rs
theorem rowsOf_succ (nm : Str) (n : Int) (m : Nat) : rowsOf nm n (m + 1) = rowsOf nm n m ++ [rowLin nm (n + m)] := by
  unfold rowsOf
  rw [List.range_succ, List.map_append]
  rfl
theorem blk_append (nm : Str) : ∀ (as bs : List (List Lay)) (n : Int), blkLines nm n (as ++ bs) = blkLines nm n as ++ blkLines nm (n + (as.flatten.length : Nat)) bs
  | [], bs, n => by show blkLines nm n bs = blkLines nm (n + (0 : Nat)) bs; rw [show n + ((0 : Nat) : Int) = n by omega]
  | a :: as, bs, n => by
    show rowsOf nm n (a.length - 1) ++ blkLines nm (n + a.length) (as ++ bs) = (rowsOf nm n (a.length - 1) ++ blkLines nm (n + a.length) as) ++ _
    rw [blk_append nm as bs, List.append_assoc, List.flatten_cons, List.length_append, show n + (a.length : Int) + (as.flatten.length : Nat) = n + ((a.length + as.flatten.length : Nat) : Int) by omega]
theorem blk_succ {nm : Str} {bs : List (List Lay)} {j : Nat} {x : List Lay} (h : bs[j]? = some x) : blkLines nm 0 (bs.take (j + 1)) = blkLines nm 0 (bs.take j) ++ rowsOf nm (((bs.take j).flatten.length : Nat) : Int) (x.length - 1) := by
  rw [List.take_add_one, h, blk_append]
  congr 1
  show rowsOf nm _ (x.length - 1) ++ [] = _
  rw [List.append_nil, Int.zero_add]
theorem off_succ {bs : List (List Lay)} {j : Nat} {x : List Lay} (h : bs[j]? = some x) : (bs.take (j + 1)).flatten.length = (bs.take j).flatten.length + x.length := by
  rw [List.take_add_one, h, List.flatten_append, List.length_append]
  congr 1
  show ([x].flatten).length = _
  rw [List.flatten_cons, List.flatten_nil, List.append_nil]
theorem blk_few (nm : Str) : ∀ (bs : List (List Lay)) (n : Int), (blkLines nm n bs).length ≤ bs.flatten.length
  | [], _ => Nat.le_refl _
  | b :: bs, n => by
    have ih := blk_few nm bs (n + b.length)
    show (rowsOf nm n (b.length - 1) ++ blkLines nm (n + b.length) bs).length ≤ (b :: bs).flatten.length
    rw [List.length_append, List.flatten_cons, List.length_append]
    unfold rowsOf
    rw [List.length_map, List.length_range]
    omega
theorem linesAt_few {k : Nat} {r : Rcd} (h : RcdOk r) : (linesAt k r).length ≤ 6 := by
  cases r with
  | bore b => exact Nat.le_trans (blk_few b.name b.blocks 0) h.few
  | over p q => show 1 ≤ 6; decide
  | one p q => show 2 ≤ 6; decide
theorem linesUp_few : ∀ {rs : List Rcd} (k : Nat), (∀ r ∈ rs, RcdOk r) → (linesUp k rs).length ≤ 6 * rs.length
  | [], _, _ => Nat.le_refl _
  | r :: rs, k, h => by
    have h1 := linesAt_few (k := k) (h r List.mem_cons_self)
    have h2 := linesUp_few (k + 1) fun r hr => h r (List.mem_cons_of_mem _ hr)
    show (linesAt k r ++ linesUp (k + 1) rs).length ≤ 6 * (rs.length + 1)
    rw [List.length_append]
    omega
theorem linesUp_wt : ∀ {rs : List Rcd} (k : Nat), (∀ r ∈ rs, RcdOk r) → (linesUp k rs).length ≤ wt rs
  | [], _, _ => Nat.le_refl _
  | r :: rs, k, h => by
    have h1 : (linesAt k r).length ≤ wt1 r := by
      cases r with
      | bore b => exact linesAt_few (k := k) (h _ List.mem_cons_self)
      | over p q => show 1 ≤ 2; decide
      | one p q => show 2 ≤ 2; decide
    have h2 := linesUp_wt (k + 1) fun r hr => h r (List.mem_cons_of_mem _ hr)
    show (linesAt k r ++ linesUp (k + 1) rs).length ≤ wt1 r + wt rs
    rw [List.length_append]
    omega
theorem linesUp_append : ∀ (as bs : List Rcd) (k : Nat), linesUp k (as ++ bs) = linesUp k as ++ linesUp (k + as.length) bs
  | [], bs, k => rfl
  | a :: as, bs, k => by
    show linesAt k a ++ linesUp (k + 1) (as ++ bs) = (linesAt k a ++ linesUp (k + 1) as) ++ _
    rw [linesUp_append as bs, List.append_assoc, List.length_cons, show k + 1 + as.length = k + (as.length + 1) by omega]
theorem linesUp_succ {rs : List Rcd} {i : Nat} {r : Rcd} (h : rs[i]? = some r) : linesUp 0 (rs.take (i + 1)) = linesUp 0 (rs.take i) ++ linesAt i r := by
  have hi := (List.getElem?_eq_some_iff.mp h).1
  rw [List.take_add_one, h, linesUp_append, List.length_take, show 0 + min i rs.length = i by omega]
  congr 1
  show linesAt i r ++ [] = _
  rw [List.append_nil]
theorem blk_mem {nm : Str} : ∀ {bs : List (List Lay)} {n : Int} {l : Lin}, l ∈ blkLines nm n bs → ∃ k, l = rowLin nm k
  | [], _, _, h => by cases h
  | b :: bs, n, l, h => by
    rcases List.mem_append.mp h with h | h
    · obtain ⟨j, _, rfl⟩ := List.mem_map.mp h
      exact ⟨_, rfl⟩
    · exact blk_mem h
theorem lines_mem : ∀ {rs : List Rcd} {k : Nat} {l : Lin}, l ∈ linesUp k rs → ∃ j r, rs[j]? = some r ∧ l ∈ linesAt (k + j) r
  | [], _, _, h => by cases h
  | r :: rs, k, l, h => by
    rcases List.mem_append.mp h with h | h
    · exact ⟨0, r, rfl, h⟩
    · obtain ⟨j, r', h1, h2⟩ := lines_mem h
      exact ⟨j + 1, r', h1, by rw [show k + (j + 1) = k + 1 + j by omega]; exact h2⟩
theorem lines_ok {rs : List Rcd} (ok : ∀ r ∈ rs, RcdOk r) {l : Lin} (h : l ∈ linesUp 0 rs) : LinOk rs l ∧ LinNk l := by
  obtain ⟨j, r, hj, hl⟩ := lines_mem h
  rw [Nat.zero_add] at hl
  have o := ok r (List.mem_of_getElem? hj)
  cases r with
  | bore b =>
    obtain ⟨k, rfl⟩ := blk_mem hl
    exact ⟨⟨rfl, rfl, rfl⟩, ⟨o.nm, o.nm⟩⟩
  | over p q =>
    rw [List.mem_singleton.mp hl]
    exact ⟨⟨j, rfl, hj, rfl⟩, ⟨o.1, o.2⟩⟩
  | one p q =>
    have hl' : l = ⟨p, q, false, .one ((j : Int) + 1) 0⟩ ∨ l = ⟨q, p, false, .one ((j : Int) + 1) 1⟩ := by
      rcases List.mem_cons.mp hl with h | h
      · exact .inl h
      · exact .inr (List.mem_singleton.mp h)
    rcases hl' with rfl | rfl
    · exact ⟨⟨j, rfl, rfl, .inl ⟨rfl, hj⟩⟩, ⟨o.1, o.2⟩⟩
    · exact ⟨⟨j, rfl, rfl, .inr ⟨rfl, hj⟩⟩, ⟨o.2, o.1⟩⟩
def spLines (K : PySem.W.Frag) : Sp := fun vs H Q _ => ∃ (r : Addr) (us : List V) (rs : List Rcd), vs = [.ref r] ∧ SqL K H r us ∧ RepL K H (rs.map rcdD) us ∧ (∀ r ∈ rs, RcdOk r) ∧ rs.length ≤ 20 ∧
  ∀ (p : Addr) (ws : List V) (H' : Hp), H p = none → H' p = some (.lst ws) → RepL K H' ((linesUp 0 rs).map linD) ws → Same H H' → Q (.ref p) H'
section
variable {P : Program} {w : World} {K : PySem.W.Frag} {mg : Str → Option Value} {base : Heap} {t : Adr}
theorem ok__law_lines (T : Txt K mg t) : FnOk P w K mg base CX0 1 t.a__law_lines t.d__law_lines ["_law_records_here"] (spLines K) := by
  refine T.F__law_lines.ok sc__law_lines (fun vs H Q E h => ?_) (fun cdv A outer s H vs Q E hr h => ?_)
  · obtain ⟨r, us, rs, rfl, _⟩ := h; rfl
  · obtain ⟨r, us, rs, rfl, hq, rl, ok, l20, qq⟩ := h
    let X_ : Cx := (cxOf CX0 P w K mg base ["_law_records_here", "_law_lines_here", "_law_k", "_law_record", "_law_number", "_law_block", "_law_j", "_law_here"] "_law_lines" (defScope s__law_lines) t.a__law_lines cdv A outer s H E).nox
    let u1_ : PSV (X_) (List.drop 1 (bodyOf (stAt (bodyOf (stAt (bodyOf (stAt (bodyOf (stAt (defBody s__law_lines) 1)) 1)) 1)) 0))) := ⟨_, (pss_one (ps_expr (pe_bmK K PySem.F.plainAttrs_list PySem.F.slot_list_append PySem.F.type_list_append mt_append (pv 1) (pa_cons (pe_tup (pa_cons (pv 7) (pa_cons (pe_tup (pa_cons (pe_ix (ix_K K) (pv 3) pe_int (fun _ _ => rfl)) (pa_cons (pe_op (op_addU K) (pe_op (op_addU K) (pv 4) (pv 6)) pe_int) pa_nil))) (pa_cons pe_bl (pa_cons (pe_tup (pa_cons pe_str (pa_cons (pe_ix (ix_K K) (pv 3) pe_int (fun _ _ => rfl)) (pa_cons (pe_op (op_addU K) (pv 4) (pv 6)) pa_nil)))) pa_nil))))) pa_nil))))⟩
    let w1_ : TS := u1_.1
    have e1_ : PSs (X_) (List.drop 1 (bodyOf (stAt (bodyOf (stAt (bodyOf (stAt (bodyOf (stAt (defBody s__law_lines) 1)) 1)) 1)) 0))) w1_ := u1_.2
    let u2_ : PSV (X_) (List.drop 1 (bodyOf (stAt (bodyOf (stAt (bodyOf (stAt (defBody s__law_lines) 1)) 1)) 1))) := ⟨_, (pss_one (ps_set (i := 4) sc__law_lines.nd rfl (Or.inl rfl) (pe_op (op_addU K) (pv 4) (pe_callB (call_lenK K) rfl T.N_len bt_len (pa_cons (pv 5) pa_nil)))))⟩
    let w2_ : TS := u2_.1
    have e2_ : PSs (X_) (List.drop 1 (bodyOf (stAt (bodyOf (stAt (bodyOf (stAt (defBody s__law_lines) 1)) 1)) 1))) w2_ := u2_.2
    let u3_ : PSV (X_) (List.drop 1 (bodyOf (stAt (bodyOf (stAt (defBody s__law_lines) 1)) 1))) := ⟨_, (pss_one (ps_for PassesOwn.never rfl (pi_seqK K (pe_ix (ix_K K) (pv 3) pe_int (fun _ _ => rfl))) (pg_name (i := 5) sc__law_lines.nd rfl (Or.inl rfl))
      (pss_cons (ps_for PassesOwn.never rfl (pi_range1 rfl T.N_range (pa_cons (pe_op op_sub (pe_callB (call_lenK K) rfl T.N_len bt_len (pa_cons (pv 5) pa_nil)) pe_int) pa_nil)) (pg_name (i := 6) sc__law_lines.nd rfl (Or.inl rfl))
      (pss_cons (ps_set (i := 7) sc__law_lines.nd rfl (Or.inl rfl) (pe_tup (pa_cons (pe_ix (ix_K K) (pv 3) pe_int (fun _ _ => rfl)) (pa_cons (pe_op (op_addU K) (pv 4) (pv 6)) pa_nil))))
      e1_))
      e2_)))⟩
    let w3_ : TS := u3_.1
    have e3_ : PSs (X_) (List.drop 1 (bodyOf (stAt (bodyOf (stAt (defBody s__law_lines) 1)) 1))) w3_ := u3_.2
    let u4_ : PSV (X_) (List.drop 1 (elseOf (stAt (elseOf (stAt (bodyOf (stAt (defBody s__law_lines) 1)) 1)) 0))) := ⟨_, (pss_one (ps_expr (pe_bmK K PySem.F.plainAttrs_list PySem.F.slot_list_append PySem.F.type_list_append mt_append (pv 1) (pa_cons (pe_tup (pa_cons (pe_ix (ix_K K) (pv 3) pe_int (fun _ _ => rfl)) (pa_cons (pe_ix (ix_K K) (pv 3) pe_int (fun _ _ => rfl)) (pa_cons pe_bl (pa_cons (pe_tup (pa_cons pe_str (pa_cons (pe_op (op_addU K) (pv 2) pe_int) (pa_cons pe_int pa_nil)))) pa_nil))))) pa_nil))))⟩
    let w4_ : TS := u4_.1
    have e4_ : PSs (X_) (List.drop 1 (elseOf (stAt (elseOf (stAt (bodyOf (stAt (defBody s__law_lines) 1)) 1)) 0))) w4_ := u4_.2
    let u5_ : PSV (X_) (List.drop 1 (bodyOf (stAt (defBody s__law_lines) 1))) := ⟨_, (pss_one (ps_if (pt_cmpR (op_eqK K hr.units) (pe_callB (call_lenK K) rfl T.N_len bt_len (pa_cons (pv 3) pa_nil)) pe_int (nomark _)) (pss_cons (ps_set (i := 4) sc__law_lines.nd rfl (Or.inl rfl) pe_int)
      e3_) (pss_one (ps_if (pt_cmpR (op_eqK K hr.units) (pe_ix (ix_K K) (pv 3) pe_int (fun _ _ => rfl)) pe_str (nomark _)) (pss_one (ps_expr (pe_bmK K PySem.F.plainAttrs_list PySem.F.slot_list_append PySem.F.type_list_append mt_append (pv 1) (pa_cons (pe_tup (pa_cons (pe_ix (ix_K K) (pv 3) pe_int (fun _ _ => rfl)) (pa_cons (pe_ix (ix_K K) (pv 3) pe_int (fun _ _ => rfl)) (pa_cons pe_bl (pa_cons (pe_tup (pa_cons pe_str (pa_cons (pe_op (op_addU K) (pv 2) pe_int) pa_nil))) pa_nil))))) pa_nil)))) (pss_cons (ps_expr (pe_bmK K PySem.F.plainAttrs_list PySem.F.slot_list_append PySem.F.type_list_append mt_append (pv 1) (pa_cons (pe_tup (pa_cons (pe_ix (ix_K K) (pv 3) pe_int (fun _ _ => rfl)) (pa_cons (pe_ix (ix_K K) (pv 3) pe_int (fun _ _ => rfl)) (pa_cons pe_bl (pa_cons (pe_tup (pa_cons pe_str (pa_cons (pe_op (op_addU K) (pv 2) pe_int) (pa_cons pe_int pa_nil)))) pa_nil))))) pa_nil)))
      e4_)))))⟩
    let w5_ : TS := u5_.1
    have e5_ : PSs (X_) (List.drop 1 (bodyOf (stAt (defBody s__law_lines) 1))) w5_ := u5_.2
    let u6_ : PSV (X_) (List.drop 2 (defBody s__law_lines)) := ⟨_, (pss_one (ps_ret (pv 1)))⟩
    let w6_ : TS := u6_.1
    have e6_ : PSs (X_) (List.drop 2 (defBody s__law_lines)) w6_ := u6_.2
    let u7_ : PSV (X_) (List.drop 1 (defBody s__law_lines)) := ⟨_, (pss_cons (ps_for PassesOwn.never rfl (pi_range1 rfl T.N_range (pa_cons (pe_callB (call_lenK K) rfl T.N_len bt_len (pa_cons (pv 0) pa_nil)) pa_nil)) (pg_name (i := 2) sc__law_lines.nd rfl (Or.inl rfl))
      (pss_cons (ps_set (i := 3) sc__law_lines.nd rfl (Or.inl rfl) (pe_ix (ix_K K) (pv 0) (pv 2) (fun _ _ => rfl)))
      e5_))
      e6_)⟩
    let w7_ : TS := u7_.1
    have e7_ : PSs (X_) (List.drop 1 (defBody s__law_lines)) w7_ := u7_.2
    refine ⟨_, (pss_cons (ps_set (i := 1) sc__law_lines.nd rfl (Or.inl rfl) (pe_lst pa_nil))
      e7_), ?_⟩
    have ul := repl_len rl
    refine ⟨Nat.zero_le _, fun p hp => ?_⟩
    have s0 : Same H (upd H p (.lst [])) := Same.new hp
    have h0 : upd H p (.lst []) p = some (.lst []) := upd_same
    generalize upd H p (.lst []) = H0 at s0 h0
    refine ⟨_, rfl, _, _, rfl, .inl ⟨_, s0.seq hq, rfl⟩, _, rfl, (big62 (by omega) (by omega)).1, (big62 (by omega) (by omega)).2, ?_⟩
    refine for_range (fun i σ H' => ∃ (ws : List V) (o2 o3 o4 o5 o6 o7 : Option V), σ = [some (.ref r), some (.ref p), o2, o3, o4, o5, o6, o7] ∧ H' p = some (.lst ws) ∧ RepL K H' ((linesUp 0 (rs.take i)).map linD) ws ∧ Same H H')
      ⟨[], none, none, none, none, none, none, rfl, h0, rfl, s0⟩ ?_ ?_
    · rintro i σ H1 hi ⟨ws, o2, o3, o4, o5, o6, o7, rfl, hp1, rws, s1⟩
      rw [Int.zero_add]
      have hi' : i < us.length := hi
      have hui := List.getElem?_eq_getElem hi'
      obtain ⟨rc, hrc, rv⟩ := repl_at rl hui
      generalize us[i] = v at hui rv
      have okr := ok rc (List.mem_of_getElem? hrc)
      have es := linesUp_succ hrc
      have wl := repl_len rws
      have fw := linesUp_few (rs := rs.take i) 0 fun r hr => ok r (List.mem_of_mem_take hr)
      rw [List.length_take] at fw
      refine ⟨_, rfl, _, rfl, .inl ⟨r, _, _, _, rfl, rfl, s1.seq hq, atI_nat hui, ?_⟩⟩
      have put : ∀ (H2 : Hp) (vs : List V) (ls : List Lin) (z : Addr) (l : Lin), H2 p = some (.lst vs) → RepL K H2 (ls.map linD) vs → Rep K H2 (linD l) (.ref z) → Same H H2 →
          (upd H2 p (.lst (vs ++ [.ref z]))) p = some (.lst (vs ++ [.ref z])) ∧ RepL K (upd H2 p (.lst (vs ++ [.ref z]))) ((ls ++ [l]).map linD) (vs ++ [.ref z]) ∧ Same H (upd H2 p (.lst (vs ++ [.ref z]))) := fun H2 vs ls z l h1 r1 r2 s2 => by
        have kt := keepT_upd (K := K) (ys := vs ++ [.ref z]) h1
        refine ⟨upd_same, ?_, fun b o e => by rw [upd_ne (ne_of_none e hp)]; exact s2 b o e⟩
        rw [List.map_append]
        exact RepL.append (r1.keepT kt (lins_pure ls)) (RepL.one (Rep.keepT kt (linD_pure l) r2))
      cases rc with
      | bore b =>
        obtain ⟨ab, ub, rfl, hqb, rub⟩ := rep_bore rv
        obtain ⟨ak, uk, rfl, hqk, rlk⟩ := rub
        have hukl := repl_len rlk
        have bl := blks_len okr.each
        have bf := okr.few
        refine ⟨_, rfl, _, _, rfl, .inr ⟨_, s1.seqT hqb, rfl⟩, .inl ⟨rfl, _, rfl, iteT ?_⟩⟩
        refine ⟨_, rfl, .inr (.inl ⟨ab, _, _, _, rfl, rfl, s1.seqT hqb, rfl, Itt K ak, .tup (s1.seqT hqk), ?_⟩)⟩
        refine for_tup (xs := uk) (fun j σ H' => ∃ (ws : List V) (o5 o6 o7 : Option V), σ = [some (.ref r), some (.ref p), some (.int i), some (.ref ab), some (.int (((b.blocks.take j).flatten.length : Nat) : Int)), o5, o6, o7] ∧ H' p = some (.lst ws) ∧ RepL K H' ((linesUp 0 (rs.take i) ++ blkLines b.name 0 (b.blocks.take j)).map linD) ws ∧ Same H H')
          ⟨ws, _, _, _, rfl, hp1, by show RepL K H1 ((linesUp 0 (rs.take i) ++ []).map linD) ws; rw [List.append_nil]; exact rws, s1⟩ (fun j σ H' _ h => by obtain ⟨_, _, _, _, _, _, _, s⟩ := h; exact s.seqT hqk) ?_ ?_
        · rintro j u σ H2 hu ⟨vs, o5, o6, o7, rfl, hp2, rvs, s2⟩
          obtain ⟨x, hx, ru⟩ := repl_at rlk hu
          obtain ⟨ax, ux, rfl, hqx, rlx⟩ := ru
          have hux := repl_len rlx
          have xne := List.length_pos_iff.mpr (okr.each x (List.mem_of_getElem? hx))
          have eb := blk_succ (nm := b.name) hx
          have eo := off_succ hx
          have hof : (b.blocks.take (j + 1)).flatten.length ≤ b.blocks.flatten.length := by
            rw [← List.take_append_drop (j + 1) b.blocks, List.flatten_append, List.length_append, List.take_append_drop]
            omega
          have fb := blk_few b.name (b.blocks.take j) 0
          have vl := repl_len rvs
          rw [List.length_append] at vl
          refine ⟨_, rfl, _, _, rfl, .inr ⟨_, s2.seqT hqx, rfl⟩, _, _, rfl, rfl, _, rfl, (big62 (by omega) (by omega)).1, (big62 (by omega) (by omega)).2, ?_⟩
          generalize hoff : (((b.blocks.take j).flatten.length : Nat) : Int) = off at eb
          refine for_range (fun q σ H' => ∃ (vs : List V) (o6 o7 : Option V), σ = [some (.ref r), some (.ref p), some (.int i), some (.ref ab), some (.int off), some (.ref ax), o6, o7] ∧ H' p = some (.lst vs) ∧ RepL K H' (((linesUp 0 (rs.take i) ++ blkLines b.name 0 (b.blocks.take j)) ++ rowsOf b.name off q).map linD) vs ∧ Same H H')
            ⟨vs, _, _, rfl, hp2, by show RepL K H2 (((linesUp 0 (rs.take i) ++ blkLines b.name 0 (b.blocks.take j)) ++ []).map linD) vs; rw [List.append_nil]; exact rvs, s2⟩ ?_ ?_
          · rintro q σ H3 hq3 ⟨vs3, o6, o7, rfl, hp3, rv3, s3⟩
            rw [Int.zero_add]
            have hq6 : q < 6 := by omega
            have vl3 := repl_len rv3
            rw [List.length_append, List.length_append] at vl3
            have rl3 : (rowsOf b.name off q).length = q := by unfold rowsOf; rw [List.length_map, List.length_range]
            refine ⟨_, rfl, .inr (.inl ⟨ab, _, _, _, rfl, rfl, s3.seqT hqb, rfl, _, rfl, _, rfl, .inl ⟨_, _, rfl, rfl, by show 2 ≤ sizeLine; decide, fun z1 hz1 => ?_⟩⟩)⟩
            have s4 := Same.new (o := .tup [.str b.name, .int (off + q)]) hz1
            have s04 := s3.trans s4
            refine ⟨_, rfl, .inl ⟨rfl, _, SqL.of (s4 _ _ hp3)⟩, ?_⟩
            refine ⟨_, rfl, _, rfl, .inr (.inl ⟨ab, _, _, _, rfl, rfl, s04.seqT hqb, rfl, _, rfl, _, rfl, .inl ⟨_, _, rfl, rfl, .inl ⟨_, _, rfl, rfl, by show 2 ≤ sizeLine; decide, fun z2 hz2 => ?_⟩⟩⟩)⟩
            have s5 := Same.new (o := .tup [.str b.name, .int (off + q + 1)]) hz2
            have s05 := s04.trans s5
            refine ⟨_, rfl, .inr (.inl ⟨ab, _, _, _, rfl, rfl, s05.seqT hqb, rfl, _, rfl, _, rfl, .inl ⟨_, _, rfl, rfl, by show 3 ≤ sizeLine; decide, fun z3 hz3 => ?_⟩⟩)⟩
            have s6 := Same.new (o := .tup [.str "row", .str b.name, .int (off + q)]) hz3
            refine ⟨by show 4 ≤ sizeLine; decide, fun z4 hz4 => ?_⟩
            have s7 := Same.new (o := .tup [.ref z1, .ref z2, .bl true, .ref z3]) hz4
            have s37 := ((s4.trans s5).trans s6).trans s7
            have rp : Rep K _ (linD (rowLin b.name (off + q))) (.ref z4) := rep_tup (upd_same (H := _) (o := .tup [.ref z1, .ref z2, .bl true, .ref z3])) ⟨_, _, rfl, Rep.same ((s5.trans s6).trans s7) (rep_tup upd_same ⟨_, _, rfl, rfl, _, _, rfl, rfl, rfl⟩), _, _, rfl, Rep.same (s6.trans s7) (rep_tup upd_same ⟨_, _, rfl, rfl, _, _, rfl, rfl, rfl⟩), _, _, rfl, rfl, _, _, rfl, Rep.same s7 (rep_tup upd_same ⟨_, _, rfl, rfl, _, _, rfl, rfl, _, _, rfl, rfl, rfl⟩), rfl⟩
            obtain ⟨g1, g2, g3⟩ := put _ vs3 _ z4 _ (s37 _ _ hp3) (rv3.same s37) rp (s3.trans s37)
            refine ⟨p, vs3, _, rfl, rfl, s37 _ _ hp3, small1000 (by omega), ?_⟩
            refine ⟨_, _, _, rfl, g1, ?_, g3⟩
            rw [rowsOf_succ, ← List.append_assoc]
            exact g2
          · rintro σ H3 ⟨vs3, o6, o7, rfl, hp3, rv3, s3⟩
            refine ⟨_, rfl, _, rfl, _, _, rfl, .inr ⟨_, s3.seqT hqx, rfl⟩, .inl ⟨_, _, rfl, rfl, ?_⟩⟩
            have e6 : off + (ux.length : Nat) = (((b.blocks.take (j + 1)).flatten.length : Nat) : Int) := by omega
            refine ⟨vs3, some (.ref ax), o6, o7, ?_, hp3, ?_, s3⟩
            · show [some (V.ref r), some (V.ref p), some (V.int i), some (V.ref ab), some (V.int (off + (ux.length : Nat))), some (V.ref ax), o6, o7] = _
              rw [e6]
            have e7 : ((ux.length : Int) - 1).toNat = x.length - 1 := by omega
            rw [e7, List.append_assoc, ← eb] at rv3
            exact rv3
        · rintro σ H2 ⟨vs, o5, o6, o7, rfl, hp2, rvs, s2⟩
          rw [hukl, List.take_length] at rvs
          refine ⟨vs, _, _, _, _, _, _, rfl, hp2, ?_, s2⟩
          rw [es]
          exact rvs
      | over x y =>
        obtain ⟨c, u1, u2, rfl, hqc, r1, r2⟩ := rep_say rv
        refine ⟨_, rfl, _, _, rfl, .inr ⟨_, s1.seqT hqc, rfl⟩, .inl ⟨rfl, _, rfl, iteF ?_⟩⟩
        refine ⟨_, rfl, .inr (.inl ⟨c, _, _, _, rfl, rfl, s1.seqT hqc, rfl, .inl ⟨rfl, _, rfl, iteT ?_⟩⟩)⟩
        refine ⟨_, rfl, .inl ⟨rfl, _, SqL.of hp1⟩, ?_⟩
        refine ⟨_, rfl, .inr (.inl ⟨c, _, _, _, rfl, rfl, s1.seqT hqc, rfl, _, rfl, .inr (.inl ⟨c, _, _, _, rfl, rfl, s1.seqT hqc, rfl, _, rfl, .inl ⟨_, _, rfl, rfl, by show 2 ≤ sizeLine; decide, fun z1 hz1 => ?_⟩⟩)⟩)⟩
        have s2 := Same.new (o := .tup [.str "over", .int ((i : Int) + 1)]) hz1
        refine ⟨by show 4 ≤ sizeLine; decide, fun z2 hz2 => ?_⟩
        have s3 := Same.new (o := .tup [u1, u2, .bl true, .ref z1]) hz2
        have s13 := s2.trans s3
        have s03 := s1.trans s13
        have rp : Rep K _ (linD ⟨x, y, true, .over ((i : Int) + 1)⟩) (.ref z2) := rep_tup (upd_same (H := _) (o := .tup [u1, u2, .bl true, .ref z1])) ⟨_, _, rfl, r1.same s03, _, _, rfl, r2.same s03, _, _, rfl, rfl, _, _, rfl, Rep.same s3 (rep_tup upd_same ⟨_, _, rfl, rfl, _, _, rfl, rfl, rfl⟩), rfl⟩
        obtain ⟨g1, g2, g3⟩ := put _ ws _ z2 _ (s13 _ _ hp1) (rws.same s13) rp s03
        refine ⟨p, ws, _, rfl, rfl, s13 _ _ hp1, small1000 (by omega), ?_⟩
        refine ⟨_, _, _, _, _, _, _, rfl, g1, ?_, g3⟩
        rw [es]
        exact g2
      | one x y =>
        obtain ⟨c, u1, u2, rfl, hqc, r1, r2⟩ := rep_say rv
        refine ⟨_, rfl, _, _, rfl, .inr ⟨_, s1.seqT hqc, rfl⟩, .inl ⟨rfl, _, rfl, iteF ?_⟩⟩
        refine ⟨_, rfl, .inr (.inl ⟨c, _, _, _, rfl, rfl, s1.seqT hqc, rfl, .inl ⟨rfl, _, rfl, iteF ?_⟩⟩)⟩
        refine ⟨_, rfl, .inl ⟨rfl, _, SqL.of hp1⟩, ?_⟩
        refine ⟨_, rfl, .inr (.inl ⟨c, _, _, _, rfl, rfl, s1.seqT hqc, rfl, _, rfl, .inr (.inl ⟨c, _, _, _, rfl, rfl, s1.seqT hqc, rfl, _, rfl, .inl ⟨_, _, rfl, rfl, by show 3 ≤ sizeLine; decide, fun z1 hz1 => ?_⟩⟩)⟩)⟩
        have s2 := Same.new (o := .tup [.str "one", .int ((i : Int) + 1), .int 0]) hz1
        refine ⟨by show 4 ≤ sizeLine; decide, fun z2 hz2 => ?_⟩
        have s3 := Same.new (o := .tup [u1, u2, .bl false, .ref z1]) hz2
        have s13 := s2.trans s3
        have s03 := s1.trans s13
        have rp : Rep K _ (linD ⟨x, y, false, .one ((i : Int) + 1) 0⟩) (.ref z2) := rep_tup (upd_same (H := _) (o := .tup [u1, u2, .bl false, .ref z1])) ⟨_, _, rfl, r1.same s03, _, _, rfl, r2.same s03, _, _, rfl, rfl, _, _, rfl, Rep.same s3 (rep_tup upd_same ⟨_, _, rfl, rfl, _, _, rfl, rfl, _, _, rfl, rfl, rfl⟩), rfl⟩
        obtain ⟨g1, g2, g3⟩ := put _ ws _ z2 _ (s13 _ _ hp1) (rws.same s13) rp s03
        refine ⟨p, ws, _, rfl, rfl, s13 _ _ hp1, small1000 (by omega), ?_⟩
        generalize upd (upd (upd H1 z1 (.tup [.str "one", .int ((i : Int) + 1), .int 0])) z2 (.tup [u1, u2, .bl false, .ref z1])) p (.lst (ws ++ [.ref z2])) = H4 at g1 g2 g3
        refine ⟨_, rfl, .inl ⟨rfl, _, SqL.of g1⟩, ?_⟩
        refine ⟨_, rfl, .inr (.inl ⟨c, _, _, _, rfl, rfl, g3.seqT hqc, rfl, _, rfl, .inr (.inl ⟨c, _, _, _, rfl, rfl, g3.seqT hqc, rfl, _, rfl, .inl ⟨_, _, rfl, rfl, by show 3 ≤ sizeLine; decide, fun z3 hz3 => ?_⟩⟩)⟩)⟩
        have s5 := Same.new (o := .tup [.str "one", .int ((i : Int) + 1), .int 1]) hz3
        refine ⟨by show 4 ≤ sizeLine; decide, fun z4 hz4 => ?_⟩
        have s6 := Same.new (o := .tup [u2, u1, .bl false, .ref z3]) hz4
        have s46 := s5.trans s6
        have s06 := g3.trans s46
        have rp2 : Rep K _ (linD ⟨y, x, false, .one ((i : Int) + 1) 1⟩) (.ref z4) := rep_tup (upd_same (H := _) (o := .tup [u2, u1, .bl false, .ref z3])) ⟨_, _, rfl, r2.same s06, _, _, rfl, r1.same s06, _, _, rfl, rfl, _, _, rfl, Rep.same s6 (rep_tup upd_same ⟨_, _, rfl, rfl, _, _, rfl, rfl, _, _, rfl, rfl, rfl⟩), rfl⟩
        obtain ⟨f1, f2, f3⟩ := put _ _ _ z4 _ (s46 _ _ g1) (g2.same s46) rp2 s06
        refine ⟨p, _, _, rfl, rfl, s46 _ _ g1, small1000 (by rw [List.length_append]; show ws.length + 1 ≤ 1000; omega), ?_⟩
        refine ⟨_, _, _, _, _, _, _, rfl, f1, ?_, f3⟩
        rw [es]
        rw [List.append_assoc (linesUp 0 (rs.take i))] at f2
        exact f2
    · rintro σ H1 ⟨ws, o2, o3, o4, o5, o6, o7, rfl, hp1, rws, s1⟩
      have e : rs.take (us.length : Int).toNat = rs := by
        rw [show ((us.length : Int).toNat) = rs.length by omega, List.take_length]
      rw [e] at rws
      exact ⟨_, rfl, qq p ws H1 hp hp1 rws s1⟩
end
def endsOf (bs : List (List Lay)) (i : Nat) : List Int := (List.range i).map fun k => (((bs.take (k + 1)).flatten.length : Nat) : Int) - 1
theorem endsOf_succ (bs : List (List Lay)) (i : Nat) : endsOf bs (i + 1) = endsOf bs i ++ [(((bs.take (i + 1)).flatten.length : Nat) : Int) - 1] := by
  unfold endsOf
  rw [List.range_succ, List.map_append]
  rfl
theorem endsOf_len (bs : List (List Lay)) (i : Nat) : (endsOf bs i).length = i := by
  unfold endsOf
  rw [List.length_map, List.length_range]
def endsUp : Nat → List (List Lay) → List Nat
  | _, [] => []
  | o, b :: bs => (o + b.length - 1) :: endsUp (o + b.length) bs
theorem endsUp_low : ∀ (bs : List (List Lay)) (o : Nat), (∀ x ∈ bs, x ≠ []) → ∀ e ∈ endsUp o bs, o ≤ e
  | [], _, _, _, h => nomatch h
  | b :: bs, o, hn, e, h => by
    have h1 := List.length_pos_iff.mpr (hn b List.mem_cons_self)
    rcases List.mem_cons.mp h with rfl | h
    · omega
    · have := endsUp_low bs (o + b.length) (fun x hx => hn x (List.mem_cons_of_mem _ hx)) e h
      omega
theorem rows_filter (nm : Str) : ∀ (bs : List (List Lay)) (o : Nat), (∀ x ∈ bs, x ≠ []) →
    ((List.range' o bs.flatten.length).filter fun k => decide (k ∉ endsUp o bs)).map (fun k : Nat => rowLin nm (k : Int)) = blkLines nm (o : Int) bs
  | [], _, _ => rfl
  | b :: bs, o, hn => by
    have h1 := List.length_pos_iff.mpr (hn b List.mem_cons_self)
    have hn' : ∀ x ∈ bs, x ≠ [] := fun x hx => hn x (List.mem_cons_of_mem _ hx)
    have ih := rows_filter nm bs (o + b.length) hn'
    have low := endsUp_low bs (o + b.length) hn'
    rw [List.flatten_cons, List.length_append, ← List.range'_append_1, List.filter_append, List.map_append]
    show _ = rowsOf nm o (b.length - 1) ++ blkLines nm ((o : Int) + b.length) bs
    congr 1
    · have e1 : List.range' o b.length = List.range' o (b.length - 1) ++ [o + (b.length - 1)] := by
        obtain ⟨n, hb⟩ : ∃ n, b.length = n + 1 := ⟨b.length - 1, by omega⟩
        rw [hb, Nat.add_sub_cancel, List.range'_concat, Nat.one_mul]
      rw [e1, List.filter_append, List.map_append]
      have e2 : (List.range' o (b.length - 1)).filter (fun k => decide (k ∉ endsUp o (b :: bs))) = List.range' o (b.length - 1) := by
        rw [List.filter_eq_self]
        intro k hk
        have hk' := List.mem_range'_1.mp hk
        refine decide_eq_true fun z => ?_
        rcases List.mem_cons.mp z with z | z
        · omega
        · have := low k z
          omega
      have e3 : [o + (b.length - 1)].filter (fun k => decide (k ∉ endsUp o (b :: bs))) = [] := by
        rw [List.filter_cons]
        have : o + (b.length - 1) ∈ endsUp o (b :: bs) := by
          rw [show o + (b.length - 1) = o + b.length - 1 by omega]
          exact List.mem_cons_self
        rw [decide_eq_false (fun z => z this)]
        rfl
      rw [e2, e3, List.map_nil, List.append_nil]
      unfold rowsOf
      rw [List.range'_eq_map_range, List.map_map]
      congr 1
    · rw [← show (((o + b.length : Nat)) : Int) = (o : Int) + b.length from by push_cast; rfl, ← ih]
      congr 1
      apply List.filter_congr
      intro k hk
      have hk' := List.mem_range'_1.mp hk
      rw [Bool.eq_iff_iff, decide_eq_true_iff, decide_eq_true_iff]
      constructor
      · exact fun z z' => z (List.mem_cons_of_mem _ z')
      · intro z z'
        rcases List.mem_cons.mp z' with z' | z'
        · omega
        · exact z z'
theorem ends_mem : ∀ (bs : List (List Lay)) (o : Nat), (∀ x ∈ bs, x ≠ []) → ∀ k : Nat, ((k : Int) ∈ (List.range bs.length).map fun i => ((o + (bs.take (i + 1)).flatten.length : Nat) : Int) - 1) ↔ k ∈ endsUp o bs
  | [], _, _, k => by simp [endsUp]
  | b :: bs, o, hn, k => by
    have h1 := List.length_pos_iff.mpr (hn b List.mem_cons_self)
    have ih := ends_mem bs (o + b.length) (fun x hx => hn x (List.mem_cons_of_mem _ hx)) k
    rw [List.length_cons, List.range_succ_eq_map, List.map_cons, List.map_map, List.mem_cons]
    have e : (List.range bs.length).map ((fun i => ((o + ((b :: bs).take (i + 1)).flatten.length : Nat) : Int) - 1) ∘ Nat.succ) = (List.range bs.length).map fun i => ((o + b.length + (bs.take (i + 1)).flatten.length : Nat) : Int) - 1 := by
      apply List.map_congr_left
      intro i _
      show ((o + ((b :: bs).take (i + 1 + 1)).flatten.length : Nat) : Int) - 1 = _
      rw [List.take_succ_cons, List.flatten_cons, List.length_append, Nat.add_assoc]
    rw [e, ih]
    show ((k : Int) = ((o + ((b :: bs).take (0 + 1)).flatten.length : Nat) : Int) - 1 ∨ _) ↔ k ∈ (o + b.length - 1) :: endsUp (o + b.length) bs
    rw [List.mem_cons, List.take_succ_cons, List.take_zero, List.flatten_cons, List.flatten_nil, List.append_nil]
    constructor
    · rintro (h | h)
      · exact .inl (by omega)
      · exact .inr h
    · rintro (h | h)
      · exact .inl (by omega)
      · exact .inr h
def rowNums (bs : List (List Lay)) (i : Nat) : List Nat := (List.range i).filter fun k => decide ((k : Int) ∉ endsOf bs bs.length)
theorem rowNums_all (nm : Str) {bs : List (List Lay)} (hn : ∀ x ∈ bs, x ≠ []) : (rowNums bs bs.flatten.length).map (fun k : Nat => rowLin nm (k : Int)) = blkLines nm 0 bs := by
  have h := rows_filter nm bs 0 hn
  rw [← List.range_eq_range'] at h
  rw [← show ((0 : Nat) : Int) = 0 from rfl, ← h]
  unfold rowNums
  congr 1
  apply List.filter_congr
  intro k _
  have e := ends_mem bs 0 hn k
  rw [Bool.eq_iff_iff, decide_eq_true_iff, decide_eq_true_iff, ← e]
  unfold endsOf
  simp only [Nat.zero_add]
theorem rowNums_succ (bs : List (List Lay)) (i : Nat) : rowNums bs (i + 1) = rowNums bs i ++ (if (i : Int) ∉ endsOf bs bs.length then [i] else []) := by
  unfold rowNums
  rw [List.range_succ, List.filter_append]
  congr 1
  by_cases h : (i : Int) ∉ endsOf bs bs.length
  · rw [if_pos h, List.filter_cons, decide_eq_true h]
    rfl
  · rw [if_neg h, List.filter_cons, decide_eq_false h]
    rfl
def spLayN (K : PySem.W.Frag) : Sp := fun vs H Q _ => ∃ (v : V) (b : Bor), vs = [v] ∧ Rep K H (borD b) v ∧ BorOk b ∧ ∀ (p : Addr) (us : List V) (H' : Hp), H' p = some (.lst us) → us.length = b.blocks.flatten.length → Same H H' → Q (.ref p) H'
def spSptsB (K : PySem.W.Frag) : Sp := fun vs H Q _ => ∃ (v : V) (b : Bor), vs = [v] ∧ Rep K H (borD b) v ∧ BorOk b ∧ ∀ (p : Addr) (us : List V) (H' : Hp), H p = none → H' p = some (.lst us) → RepL K H' ((sptsOf (.bore b)).map spoD) us → Same H H' → Q (.ref p) H'
def spEnds (K : PySem.W.Frag) : Sp := fun vs H Q _ => ∃ (v : V) (b : Bor), vs = [v] ∧ Rep K H (borD b) v ∧ BorOk b ∧ ∀ (p : Addr) (H' : Hp), H' p = some (.lst ((endsOf b.blocks b.blocks.length).map V.int)) → Same H H' → Q (.ref p) H'
section
variable {P : Program} {w : World} {K : PySem.W.Frag} {mg : Str → Option Value} {base : Heap} {t : Adr}
theorem ok_layers_of (T : Txt K mg t) : FnOk P w K mg base CX0 1 t.a_layers_of t.d_layers_of ["bore"] (spLayN K) := by
  refine T.F_layers_of.ok sc_layers_of (fun vs H Q E h => ?_) (fun cdv A outer s H vs Q E hr h => ?_)
  · obtain ⟨v, b, rfl, _⟩ := h; rfl
  · obtain ⟨v, b, rfl, rep, ok, q⟩ := h
    let X_ : Cx := (cxOf CX0 P w K mg base ["bore", "layers", "block"] "layers_of" (defScope s_layers_of) t.a_layers_of cdv A outer s H E).nox
    let u1_ : PSV (X_) (List.drop 2 (defBody s_layers_of)) := ⟨_, (pss_one (ps_ret (pv 1)))⟩
    let w1_ : TS := u1_.1
    have e1_ : PSs (X_) (List.drop 2 (defBody s_layers_of)) w1_ := u1_.2
    let u2_ : PSV (X_) (List.drop 1 (defBody s_layers_of)) := ⟨_, (pss_cons (ps_for PassesOwn.never rfl (pi_seqK K (pe_ix (ix_K K) (pv 0) pe_int (fun _ _ => rfl))) (pg_name (i := 2) sc_layers_of.nd rfl (Or.inl rfl))
      (pss_one (ps_expr (pe_bmK K PySem.F.plainAttrs_list PySem.F.slot_list_extend PySem.F.type_list_extend (mt_extT K) (pv 1) (pa_cons (pv 2) pa_nil)))))
      e1_)⟩
    let w2_ : TS := u2_.1
    have e2_ : PSs (X_) (List.drop 1 (defBody s_layers_of)) w2_ := u2_.2
    refine ⟨_, (pss_cons (ps_set (i := 1) sc_layers_of.nd rfl (Or.inl rfl) (pe_lst pa_nil))
      e2_), ?_⟩
    obtain ⟨a, vb, rfl, hq, av, ub, rfl, hqb, rlb⟩ := rep_bore rep
    have hub := repl_len rlb
    have h6 := ok.few
    refine ⟨Nat.zero_le _, fun p hp => ?_⟩
    have s1 : Same H (upd H p (.lst [])) := Same.new hp
    let Pv1_ : Nat → St → Hp → Prop := fun i σ H' => ∃ (us : List V) (o : Option V), σ = [some (.ref a), some (.ref p), o] ∧ H' p = some (.lst us) ∧ us.length = (b.blocks.take i).flatten.length ∧ Same H H'
    refine ⟨_, rfl, .inr (.inl ⟨a, _, _, _, rfl, rfl, s1.seqT hq, rfl, Itt K av, .tup (s1.seqT hqb), for_tup (xs := ub) Pv1_
      ⟨[], none, rfl, upd_same, rfl, s1⟩ (fun i σ H' _ ⟨_, _, _, _, _, s⟩ => s.seqT hqb) ?_ ?_⟩)⟩
    · rintro i u σ H1 hu1 ⟨us, o, rfl, hp1, ul, s01⟩
      obtain ⟨bl, hbl, au, vs, rfl, hqu, rlu⟩ := repl_at rlb hu1
      have hvs : vs.length = bl.length := repl_len rlu
      have eo := off_succ hbl
      have hof : (b.blocks.take (i + 1)).flatten.length ≤ b.blocks.flatten.length := by
        rw [← List.take_append_drop (i + 1) b.blocks, List.flatten_append, List.length_append, List.take_append_drop]
        omega
      refine ⟨_, rfl, .inl ⟨rfl, _, SqL.of hp1⟩, _, rfl, p, au, us, vs, rfl, rfl, hp1, s01.seqT hqu, small8 (by omega), ?_⟩
      exact ⟨us ++ vs, _, rfl, upd_same, by rw [List.length_append]; omega, fun c o' e => by rw [upd_ne (ne_of_none e hp)]; exact s01 c o' e⟩
    · rintro σ H1 ⟨us, o, rfl, hp1, ul, s01⟩
      rw [hub, List.take_length] at ul
      exact ⟨_, rfl, q p us H1 hp1 ul s01⟩
theorem ok_spots_of_bore (T : Txt K mg t) : FnOk P w K mg base CX0 2 t.a_spots_of_bore t.d_spots_of_bore ["bore"] (spSptsB K) := by
  refine T.F_spots_of_bore.ok sc_spots_of_bore (fun vs H Q E h => ?_) (fun cdv A outer s H vs Q E hr h => ?_)
  · obtain ⟨v, b, rfl, _⟩ := h; rfl
  · obtain ⟨v, b, rfl, rep, ok, q⟩ := h
    refine ⟨_, (pss_one (ps_ret (pe_cmp1 ["bore"] (defScope s_spots_of_bore) ["number", "bore"] [none, some 0] (pi_range1 rfl T.N_range (pa_cons (pe_callB (call_lenK K) rfl T.N_len bt_len (pa_cons (pe_call (ok_layers_of (K := K) T) (hr.mono (by decide)) rfl T.G_layers_of T.F_layers_of.kp T.B_layers_of .nil pass0 (pa_cons (pv 0) pa_nil)) pa_nil)) pa_nil))
      (fun _ _ _ _ _ => (pg_name (i := 0) (show List.Nodup (["number", "bore"] : List Str) from (by decide +kernel)) rfl (Or.inl rfl))) (fun _ _ _ _ _ => pts_nil) (fun _ _ _ _ _ => (pe_tup (pa_cons (pe_ix (ix_K K) (pv 1) pe_int (fun _ _ => rfl)) (pa_cons (pv 0) pa_nil))))))), ?_⟩
    obtain ⟨a, vb, rfl, hq, _⟩ := rep_bore rep
    have h6 := ok.few
    refine ⟨_, rfl, .ref a, b, rfl, rep, ok, fun p us H1 hp1 ul s1 => ?_⟩
    refine ⟨_, _, rfl, .inl ⟨_, SqL.of hp1, rfl⟩, _, rfl, (big62 (by omega) (by omega)).1, (big62 (by omega) (by omega)).2, fun D hD => ?_⟩
    refine comp_rng (fun k ys H' => RepL K H' (((List.range k).map fun k : Nat => ((b.name, (k : Int)) : Spo)).map spoD) ys) hD rfl ?_ ?_
    · rintro k mm ys H3 hk hmm s3 hy3 hl3 rq
      rw [Int.zero_add]
      refine ⟨SubS.set (SubS.refl _) rfl, ?_⟩
      refine ⟨_, rfl, .inr (.inl ⟨a, _, _, _, rfl, rfl, (s1.trans s3).seqT hq, rfl, _, rfl, by show 2 ≤ sizeLine; decide, fun z hz => ?_⟩)⟩
      have s4 := Same.new (o := .tup [.str b.name, .int (k : Int)]) hz
      refine wl_next hD hk hmm (small1000 (by omega)) s3 hy3 hl3 s4 ?_
      rw [List.range_succ, List.map_append, List.map_append]
      have k2 := keepT_upd (K := K) (ys := ys ++ [.ref z]) (s4 _ _ hy3)
      exact RepL.append ((rq.same s4).keepT k2 (spos_pure _)) (RepL.one (Rep.keepT k2 rfl (rep_tup upd_same ⟨_, _, rfl, rfl, _, _, rfl, rfl, rfl⟩)))
    · rintro ys H3 s3 hy3 hl3 rq
      refine q D ys H3 (s1.free hD) hy3 ?_ (s1.trans s3)
      have e : ((us.length : Nat) : Int).toNat = b.blocks.flatten.length := by omega
      rw [e] at rq
      exact rq
theorem ok_block_ends (T : Txt K mg t) : FnOk P w K mg base CX0 1 t.a_block_ends t.d_block_ends ["bore"] (spEnds K) := by
  refine T.F_block_ends.ok sc_block_ends (fun vs H Q E h => ?_) (fun cdv A outer s H vs Q E hr h => ?_)
  · obtain ⟨v, b, rfl, _⟩ := h; rfl
  · obtain ⟨v, b, rfl, rep, ok, q⟩ := h
    let X_ : Cx := (cxOf CX0 P w K mg base ["bore", "ends", "count", "block"] "block_ends" (defScope s_block_ends) t.a_block_ends cdv A outer s H E).nox
    let u1_ : PSV (X_) (List.drop 1 (bodyOf (stAt (defBody s_block_ends) 2))) := ⟨_, (pss_one (ps_expr (pe_bmK K PySem.F.plainAttrs_list PySem.F.slot_list_append PySem.F.type_list_append mt_append (pv 1) (pa_cons (pe_op op_sub (pv 2) pe_int) pa_nil))))⟩
    let w1_ : TS := u1_.1
    have e1_ : PSs (X_) (List.drop 1 (bodyOf (stAt (defBody s_block_ends) 2))) w1_ := u1_.2
    let u2_ : PSV (X_) (List.drop 3 (defBody s_block_ends)) := ⟨_, (pss_one (ps_ret (pv 1)))⟩
    let w2_ : TS := u2_.1
    have e2_ : PSs (X_) (List.drop 3 (defBody s_block_ends)) w2_ := u2_.2
    let u3_ : PSV (X_) (List.drop 2 (defBody s_block_ends)) := ⟨_, (pss_cons (ps_for PassesOwn.never rfl (pi_seqK K (pe_ix (ix_K K) (pv 0) pe_int (fun _ _ => rfl))) (pg_name (i := 3) sc_block_ends.nd rfl (Or.inl rfl))
      (pss_cons (ps_aug (i := 2) sc_block_ends.nd rfl (Or.inl rfl) (pe_callB (call_lenK K) rfl T.N_len bt_len (pa_cons (pv 3) pa_nil)) ip_add)
      e1_))
      e2_)⟩
    let w3_ : TS := u3_.1
    have e3_ : PSs (X_) (List.drop 2 (defBody s_block_ends)) w3_ := u3_.2
    let u4_ : PSV (X_) (List.drop 1 (defBody s_block_ends)) := ⟨_, (pss_cons (ps_set (i := 2) sc_block_ends.nd rfl (Or.inl rfl) pe_int)
      e3_)⟩
    let w4_ : TS := u4_.1
    have e4_ : PSs (X_) (List.drop 1 (defBody s_block_ends)) w4_ := u4_.2
    refine ⟨_, (pss_cons (ps_set (i := 1) sc_block_ends.nd rfl (Or.inl rfl) (pe_lst pa_nil))
      e4_), ?_⟩
    obtain ⟨a, vb, rfl, hq, av, ub, rfl, hqb, rlb⟩ := rep_bore rep
    have hub := repl_len rlb
    have h6 := ok.few
    have bl6 := blks_len ok.each
    refine ⟨Nat.zero_le _, fun p hp => ?_⟩
    have s1 : Same H (upd H p (.lst [])) := Same.new hp
    let Pv2_ : Nat → St → Hp → Prop := fun i σ H' => ∃ (o : Option V), σ = [some (.ref a), some (.ref p), some (.int (((b.blocks.take i).flatten.length : Nat) : Int)), o] ∧ H' p = some (.lst ((endsOf b.blocks i).map V.int)) ∧ Same H H'
    refine ⟨_, rfl, .inr (.inl ⟨a, _, _, _, rfl, rfl, s1.seqT hq, rfl, Itt K av, .tup (s1.seqT hqb), for_tup (xs := ub) Pv2_
      ⟨none, rfl, upd_same, s1⟩ (fun i σ H' _ ⟨_, _, _, s⟩ => s.seqT hqb) ?_ ?_⟩)⟩
    · rintro i u σ H1 hu1 ⟨o, rfl, hp1, s01⟩
      obtain ⟨bl, hbl, au, vs, rfl, hqu, rlu⟩ := repl_at rlb hu1
      have hvs : vs.length = bl.length := repl_len rlu
      have hil : i < b.blocks.length := (List.getElem?_eq_some_iff.mp hbl).1
      refine ⟨_, rfl, _, rfl, _, _, rfl, .inr ⟨_, s01.seqT hqu, rfl⟩, _, _, rfl, rfl, ?_⟩
      have e : (((b.blocks.take i).flatten.length : Nat) : Int) + ((vs.length : Nat) : Int) = (((b.blocks.take (i + 1)).flatten.length : Nat) : Int) := by
        rw [off_succ hbl, hvs]
        omega
      refine ⟨_, rfl, .inl ⟨rfl, _, SqL.of hp1⟩, _, rfl, _, _, rfl, rfl, p, _, _, rfl, rfl, hp1, by rw [List.length_map, endsOf_len]; exact small1000 (by omega), ?_⟩
      have s12 : ∀ ys, Same H (upd H1 p (.lst ys)) := fun ys c o' e => by rw [upd_ne (ne_of_none e hp)]; exact s01 c o' e
      refine ⟨_, by rw [← e]; rfl, ?_, s12 _⟩
      rw [upd_same, endsOf_succ, List.map_append, ← e]
      rfl
    · rintro σ H1 ⟨o, rfl, hp1, s01⟩
      rw [hub] at hp1
      exact ⟨_, rfl, q p H1 hp1 s01⟩
end
def stps (ls : List Lin) : List PyData := ls.map fun l => stpD l.st
def isB : Rcd → Bool
  | .bore _ => true
  | _ => false
def borOf : Rcd → List Bor
  | .bore b => [b]
  | _ => []
def boresOf (rs : List Rcd) : List Bor := rs.flatMap borOf
theorem bores_succ {rs : List Rcd} {i : Nat} {r : Rcd} (h : rs[i]? = some r) : boresOf (rs.take (i + 1)) = boresOf (rs.take i) ++ borOf r := by
  unfold boresOf
  rw [List.take_add_one, h, List.flatMap_append]
  congr 1
  show List.flatMap borOf [r] = _
  rw [List.flatMap_cons, List.flatMap_nil, List.append_nil]
theorem bores_ok {rs : List Rcd} (h : ∀ r ∈ rs, RcdOk r) : ∀ b ∈ boresOf rs, BorOk b := fun b hb => by
  obtain ⟨r, hr, hb⟩ := List.mem_flatMap.mp hb
  cases r with
  | bore c => rw [List.mem_singleton.mp hb]; exact h _ hr
  | over p q => cases hb
  | one p q => cases hb
theorem bores_few (rs : List Rcd) : (boresOf rs).length ≤ rs.length := by
  induction rs with
  | nil => exact Nat.le_refl _
  | cons r rs ih =>
    show (borOf r ++ boresOf rs).length ≤ rs.length + 1
    rw [List.length_append]
    cases r with
    | bore b => show 1 + _ ≤ _; omega
    | over p q => show 0 + _ ≤ _; omega
    | one p q => show 0 + _ ≤ _; omega
theorem bores_spots (rs : List Rcd) : (boresOf rs).flatMap (fun b => sptsOf (.bore b)) = spotsOf rs := by
  induction rs with
  | nil => rfl
  | cons r rs ih =>
    show (borOf r ++ boresOf rs).flatMap (fun b => sptsOf (.bore b)) = sptsOf r ++ spotsOf rs
    rw [List.flatMap_append, ih]
    congr 1
    cases r with
    | bore b => show List.flatMap _ [b] = _; rw [List.flatMap_cons, List.flatMap_nil, List.append_nil]
    | over p q => rfl
    | one p q => rfl
def spIsB (K : PySem.W.Frag) : Sp := fun vs H Q _ => ∃ (v : V) (r : Rcd), vs = [v] ∧ Rep K H (rcdD r) v ∧ ∀ H' : Hp, Same H H' → Q (.bl (isB r)) H'
def spAmong (K : PySem.W.Frag) : Sp := fun vs H Q _ => ∃ (r : Addr) (us : List V) (rs : List Rcd), vs = [.ref r] ∧ SqL K H r us ∧ RepL K H (rs.map rcdD) us ∧ rs.length ≤ 20 ∧
  ∀ (p : Addr) (ws : List V) (H' : Hp), H p = none → H' p = some (.lst ws) → RepL K H' ((boresOf rs).map borD) ws → Same H H' → Q (.ref p) H'
def spNums (K : PySem.W.Frag) : Sp := fun vs H Q _ => ∃ (r : Addr) (us : List V), vs = [.ref r] ∧ SqL K H r us ∧ us.length ≤ 20 ∧
  ∀ (p : Addr) (H' : Hp), H' p = some (.lst ((List.range us.length).map fun i : Nat => V.int (1 + (i : Int)))) → Same H H' → Q (.ref p) H'
def spRowS (K : PySem.W.Frag) : Sp := fun vs H Q _ => ∃ (v : V) (b : Bor), vs = [v] ∧ Rep K H (borD b) v ∧ BorOk b ∧
  ∀ (p : Addr) (us : List V) (H' : Hp), H p = none → H' p = some (.lst us) → RepL K H' (stps (blkLines b.name 0 b.blocks)) us → Same H H' → Q (.ref p) H'
def spRecS (K : PySem.W.Frag) : Sp := fun vs H Q _ => ∃ (v : V) (n : Int) (k : Nat) (r : Rcd), vs = [v, .int n] ∧ n = (k : Int) + 1 ∧ Rep K H (rcdD r) v ∧ RcdOk r ∧
  ∀ (p : Addr) (us : List V) (H' : Hp), H p = none → H' p = some (.lst us) → RepL K H' (stps (linesAt k r)) us → Same H H' → Q (.ref p) H'
def spSomeS (K : PySem.W.Frag) : Sp := fun vs H Q _ => ∃ (r q : Addr) (us : List V) (rs : List Rcd), vs = [.ref r, .ref q] ∧ SqL K H r us ∧ RepL K H (rs.map rcdD) us ∧ (∀ r ∈ rs, RcdOk r) ∧ rs.length ≤ 20 ∧ H q = some (.lst ((List.range us.length).map fun i : Nat => V.int (1 + (i : Int)))) ∧
  ∀ (p : Addr) (ws : List V) (H' : Hp), H p = none → H' p = some (.lst ws) → RepL K H' (stps (linesUp 0 rs)) ws → Same H H' → Q (.ref p) H'
def spSteps (K : PySem.W.Frag) : Sp := fun vs H Q _ => ∃ (r : Addr) (us : List V) (rs : List Rcd), vs = [.ref r] ∧ SqL K H r us ∧ RepL K H (rs.map rcdD) us ∧ (∀ r ∈ rs, RcdOk r) ∧ rs.length ≤ 20 ∧
  ∀ (p : Addr) (ws : List V) (H' : Hp), H p = none → H' p = some (.lst ws) → RepL K H' (stps (linesUp 0 rs)) ws → Same H H' → Q (.ref p) H'
theorem stps_pure' (ls : List Lin) : pureDs (stps ls) = true := stps_pure ls
theorem stps_append (a b : List Lin) : stps (a ++ b) = stps a ++ stps b := List.map_append ..
section
variable {P : Program} {w : World} {K : PySem.W.Frag} {mg : Str → Option Value} {base : Heap} {t : Adr}
theorem ok_is_bore (T : Txt K mg t) : FnOk P w K mg base CX0 1 t.a_is_bore t.d_is_bore ["record"] (spIsB K) := by
  refine T.F_is_bore.ok sc_is_bore (fun vs H Q E h => ?_) (fun cdv A outer s H vs Q E hr h => ?_)
  · obtain ⟨v, r, rfl, _⟩ := h; rfl
  · obtain ⟨v, r, rfl, rep, q⟩ := h
    refine ⟨_, (pss_one (ps_ret (pe_cmpR (op_eqK K hr.units) (pe_callB (call_lenK K) rfl T.N_len bt_len (pa_cons (pv 0) pa_nil)) pe_int (nomark _)))), ?_⟩
    cases r with
    | bore b =>
      obtain ⟨a, u, rfl, hq, _⟩ := rep_bore rep
      exact ⟨_, rfl, _, _, rfl, .inr ⟨_, hq, rfl⟩, .inl ⟨rfl, q H (Same.refl _)⟩⟩
    | over x y =>
      obtain ⟨a, u1, u2, rfl, hq, _, _⟩ := rep_say rep
      exact ⟨_, rfl, _, _, rfl, .inr ⟨_, hq, rfl⟩, .inl ⟨rfl, q H (Same.refl _)⟩⟩
    | one x y =>
      obtain ⟨a, u1, u2, rfl, hq, _, _⟩ := rep_say rep
      exact ⟨_, rfl, _, _, rfl, .inr ⟨_, hq, rfl⟩, .inl ⟨rfl, q H (Same.refl _)⟩⟩
theorem ok_bores_among (T : Txt K mg t) : FnOk P w K mg base CX0 2 t.a_bores_among t.d_bores_among ["records"] (spAmong K) := by
  refine T.F_bores_among.ok sc_bores_among (fun vs H Q E h => ?_) (fun cdv A outer s H vs Q E hr h => ?_)
  · obtain ⟨r, us, rs, rfl, _⟩ := h; rfl
  · obtain ⟨r, us, rs, rfl, hq, rl, l20, q⟩ := h
    refine ⟨_, (pss_one (ps_ret (pe_cmp1 ["records"] (defScope s_bores_among) ["record"] [none] (pi_seqK K (pv 0))
      (fun _ _ _ _ _ => (pg_name (i := 0) (show List.Nodup (["record"] : List Str) from (by decide +kernel)) rfl (Or.inl rfl))) (fun _ _ _ _ _ => (pts_one (pt_truthK K (pe_call (ok_is_bore (K := K) T) (hr.mono (by decide)) rfl T.G_is_bore T.F_is_bore.kp T.B_is_bore .nil pass0 (pa_cons (pv 0) pa_nil)) (fun _ => rfl)))) (fun _ _ _ _ _ => (pv 0))))), ?_⟩
    have ul := repl_len rl
    refine ⟨_, rfl, Itl K r, .lst hq, fun D hD => ?_⟩
    refine comp_lst (fun i ys H' => RepL K H' ((boresOf (rs.take i)).map borD) ys) hq hD rfl ?_ ?_
    · rintro i m v ys H2 hv hi hm s2 hy hl ry
      obtain ⟨rc, hrc, rv⟩ := repl_at rl hv
      have es := bores_succ hrc
      refine ⟨SubS.set (SubS.refl _) rfl, ?_⟩
      refine ⟨_, rfl, v, rc, rfl, rv.same s2, fun H3 s3 => ⟨_, rfl, ?_⟩⟩
      cases rc with
      | bore b =>
        refine iteT ?_
        refine ⟨_, rfl, wl_next hD hi hm (small1000 (by omega)) s2 hy hl s3 ?_⟩
        have kt := keepT_upd (K := K) (ys := ys ++ [v]) (s3 _ _ hy)
        rw [es, List.map_append]
        exact RepL.append ((ry.same s3).keepT kt (bors_pure _)) (RepL.one (Rep.keepT kt (borD_pure b) (rv.same (s2.trans s3))))
      | over x y =>
        refine iteF (wl_skip hi hm s2 hy hl s3 ?_)
        rw [es]
        show RepL K H3 ((boresOf (rs.take i) ++ []).map borD) ys
        rw [List.append_nil]
        exact ry.same s3
      | one x y =>
        refine iteF (wl_skip hi hm s2 hy hl s3 ?_)
        rw [es]
        show RepL K H3 ((boresOf (rs.take i) ++ []).map borD) ys
        rw [List.append_nil]
        exact ry.same s3
    · rintro ys H2 s2 hy hl ry
      rw [ul, List.take_length] at ry
      exact q D ys H2 hD hy ry s2
theorem ok_spots_of (T : Txt K mg t) : FnOk P w K mg base CX0 3 t.a_spots_of t.d_spots_of ["records"] (spSpots K) := by
  refine T.F_spots_of.ok sc_spots_of (fun vs H Q E h => ?_) (fun cdv A outer s H vs Q E hr h => ?_)
  · obtain ⟨r, us, rs, rfl, _⟩ := h; rfl
  · obtain ⟨r, us, rs, rfl, hq, rl, ok, l20, qq⟩ := h
    let X_ : Cx := (cxOf CX0 P w K mg base ["records", "spots", "bore"] "spots_of" (defScope s_spots_of) t.a_spots_of cdv A outer s H E).nox
    let u1_ : PSV (X_) (List.drop 2 (defBody s_spots_of)) := ⟨_, (pss_one (ps_ret (pv 1)))⟩
    let w1_ : TS := u1_.1
    have e1_ : PSs (X_) (List.drop 2 (defBody s_spots_of)) w1_ := u1_.2
    let u2_ : PSV (X_) (List.drop 1 (defBody s_spots_of)) := ⟨_, (pss_cons (ps_for PassesOwn.never rfl (pi_seqK K (pe_call (ok_bores_among (K := K) T) (hr.mono (by decide)) rfl T.G_bores_among T.F_bores_among.kp T.B_bores_among .nil pass0 (pa_cons (pv 0) pa_nil))) (pg_name (i := 2) sc_spots_of.nd rfl (Or.inl rfl))
      (pss_one (ps_expr (pe_bmK K PySem.F.plainAttrs_list PySem.F.slot_list_extend PySem.F.type_list_extend mt_extend (pv 1) (pa_cons (pe_call (ok_spots_of_bore (K := K) T) (hr.mono (by decide)) rfl T.G_spots_of_bore T.F_spots_of_bore.kp T.B_spots_of_bore .nil pass0 (pa_cons (pv 2) pa_nil)) pa_nil)))))
      e1_)⟩
    let w2_ : TS := u2_.1
    have e2_ : PSs (X_) (List.drop 1 (defBody s_spots_of)) w2_ := u2_.2
    refine ⟨_, (pss_cons (ps_set (i := 1) sc_spots_of.nd rfl (Or.inl rfl) (pe_lst pa_nil))
      e2_), ?_⟩
    refine ⟨Nat.zero_le _, fun p hp => ?_⟩
    have s0 : Same H (upd H p (.lst [])) := Same.new hp
    have h0 : upd H p (.lst []) p = some (.lst []) := upd_same
    generalize upd H p (.lst []) = H0 at s0 h0
    refine ⟨_, rfl, r, us, rs, rfl, s0.seq hq, rl.same s0, l20, fun pb bs H1 hpbn hpb rbs s1 => ?_⟩
    have bok := bores_ok ok
    have bfw := bores_few rs
    have e0 := bores_spots rs
    generalize boresOf rs = bl at rbs bok bfw e0
    have bll := repl_len rbs
    have npb : pb ≠ p := (ne_of_none h0 hpbn).symm
    have s01 := s0.trans s1
    let Pv1_ : Nat → St → Hp → Prop := fun i σ H' => ∃ (ws : List V) (o2 : Option V), σ = [some (.ref r), some (.ref p), o2] ∧ H' p = some (.lst ws) ∧ RepL K H' (((bl.take i).flatMap fun b => sptsOf (.bore b)).map spoD) ws ∧ ws.length ≤ 6 * i ∧ But p H1 H'
    refine ⟨Itl K pb, .lst (SqL.of hpb), for_list (xs := bs) Pv1_
      ⟨[], none, rfl, s1 _ _ h0, rfl, Nat.le_refl _, But.refl _ _⟩ (fun i σ H' _ h => by obtain ⟨_, _, _, _, _, _, b⟩ := h; exact SqL.of (b _ _ hpb npb)) ?_ ?_⟩
    · rintro i v σ H2 hv ⟨ws, o2, rfl, hp2, rws, wl, b2⟩
      obtain ⟨b, hb, rv⟩ := repl_at rbs hv
      have hil := (List.getElem?_eq_some_iff.mp hb).1
      have okb := bok b (List.mem_of_getElem? hb)
      have kt2 := But.keepT (K := K) b2 (s1 _ _ h0)
      have fb := spts_few (r := .bore b) okb
      refine ⟨_, rfl, .inl ⟨rfl, _, SqL.of hp2⟩, ?_⟩
      refine ⟨_, rfl, v, b, rfl, Rep.keepT kt2 (borD_pure b) rv, okb, fun pz zs H3 hpzn hpz rz s3 => ?_⟩
      have zl := repl_len rz
      refine ⟨p, pz, ws, zs, rfl, rfl, s3 _ _ hp2, hpz, small8 (by omega), ?_⟩
      have kt := keepT_upd (K := K) (ys := ws ++ zs) (s3 _ _ hp2)
      refine ⟨ws ++ zs, _, rfl, upd_same, ?_, by rw [List.length_append]; omega, fun c o e n => by rw [upd_ne n]; exact s3 _ _ (b2 c o e n)⟩
      rw [List.take_add_one, hb, List.flatMap_append, List.map_append]
      have e1 : List.flatMap (fun b => sptsOf (.bore b)) (some b).toList = sptsOf (.bore b) := by
        show List.flatMap _ [b] = _
        rw [List.flatMap_cons, List.flatMap_nil, List.append_nil]
      rw [e1]
      exact RepL.append ((rws.same s3).keepT kt (spos_pure _)) (rz.keepT kt (spos_pure _))
    · rintro σ H2 ⟨ws, o2, rfl, hp2, rws, wl, b2⟩
      rw [bll, List.take_length, e0] at rws
      exact ⟨_, rfl, qq p ws H2 hp hp2 rws (But.same_of s01 b2 hp)⟩
theorem ok_all_numbers (T : Txt K mg t) : FnOk P w K mg base CX0 1 t.a_all_numbers t.d_all_numbers ["records"] (spNums K) := by
  refine T.F_all_numbers.ok sc_all_numbers (fun vs H Q E h => ?_) (fun cdv A outer s H vs Q E hr h => ?_)
  · obtain ⟨r, us, rfl, _⟩ := h; rfl
  · obtain ⟨r, us, rfl, hq, l20, qq⟩ := h
    refine ⟨_, (pss_one (ps_ret (pe_callTy (call_listR2 rfl) rfl T.N_list bt_list (pa_cons (pe_callTy call_rangeV2 rfl T.N_range PyProof.Rows.boot_range (pa_cons pe_int (pa_cons (pe_op (op_addU K) (pe_callB (call_lenK K) rfl T.N_len bt_len (pa_cons (pv 0) pa_nil)) pe_int) pa_nil))) pa_nil)))), ?_⟩
    refine ⟨_, rfl, _, _, rfl, .inl ⟨_, hq, rfl⟩, .inl ⟨_, _, rfl, rfl, _, _, rfl, fun p1 hp1 => ⟨p1, 1, _, rfl, upd_same, by decide, by omega, by omega, fun p hp => ?_⟩⟩⟩
    have s1 := Same.new (o := .rng 1 ((us.length : Nat) + 1)) hp1
    have s2 := Same.new (o := .lst ((List.range us.length).map fun i : Nat => V.int (1 + (i : Int)))) hp
    have e : (((us.length : Nat) : Int) + 1 - 1).toNat = us.length := by omega
    rw [e]
    exact qq p _ upd_same (s1.trans s2)
theorem ok_row_steps (T : Txt K mg t) : FnOk P w K mg base CX0 3 t.a_row_steps t.d_row_steps ["bore"] (spRowS K) := by
  refine T.F_row_steps.ok sc_row_steps (fun vs H Q E h => ?_) (fun cdv A outer s H vs Q E hr h => ?_)
  · obtain ⟨v, b, rfl, _⟩ := h; rfl
  · obtain ⟨v, b, rfl, rep, ok, q⟩ := h
    let X_ : Cx := (cxOf CX0 P w K mg base ["bore", "ends"] "row_steps" (defScope s_row_steps) t.a_row_steps cdv A outer s H E).nox
    let u1_ : PSV (X_) (List.drop 1 (defBody s_row_steps)) := ⟨_, (pss_one (ps_ret (pe_cmp1 ["bore", "ends"] (defScope s_row_steps) ["name", "number", "ends"] [none, none, some 1] (pi_seqK K (pe_call (ok_spots_of_bore (K := K) T) (hr.mono (by decide)) rfl T.G_spots_of_bore T.F_spots_of_bore.kp T.B_spots_of_bore .nil pass0 (pa_cons (pv 0) pa_nil)))
      (fun _ _ _ _ _ => (pg_tupK K (n := 2) rfl (pgs_cons (pg_name (i := 0) (show List.Nodup (["name", "number", "ends"] : List Str) from (by decide +kernel)) rfl (Or.inl rfl)) (pgs_cons (pg_name (i := 1) (show List.Nodup (["name", "number", "ends"] : List Str) from (by decide +kernel)) rfl (Or.inl rfl)) pgs_nil)))) (fun _ _ _ _ _ => (pts_one (pt_cmpR (op_notInK K hr.units) (pv 1) (pv 2) (by with_unfolding_all rfl)))) (fun _ _ _ _ _ => (pe_tup (pa_cons pe_str (pa_cons (pv 0) (pa_cons (pv 1) pa_nil))))))))⟩
    let w1_ : TS := u1_.1
    have e1_ : PSs (X_) (List.drop 1 (defBody s_row_steps)) w1_ := u1_.2
    refine ⟨_, (pss_cons (ps_set (i := 1) sc_row_steps.nd rfl (Or.inr rfl) (pe_call (ok_block_ends (K := K) T) (hr.mono (by decide)) rfl T.G_block_ends T.F_block_ends.kp T.B_block_ends .nil pass0 (pa_cons (pv 0) pa_nil)))
      e1_), ?_⟩
    have h6 := ok.few
    refine ⟨_, rfl, v, b, rfl, rep, ok, fun pe H1 hpe s1 => ?_⟩
    refine ⟨_, rfl, v, b, rfl, rep.same s1, ok, fun p us H2 hpn hp rus s2 => ?_⟩
    have ul := repl_len rus
    have sl : (sptsOf (.bore b)).length = b.blocks.flatten.length := by show ((List.range _).map _).length = _; rw [List.length_map, List.length_range]
    refine ⟨Itl K p, .lst (SqL.of hp), fun D hD => ?_⟩
    refine comp_lst (fun i ys H' => RepL K H' ((rowNums b.blocks i).map fun k : Nat => stpD (.row b.name (k : Int))) ys) (SqL.of hp) hD rfl ?_ ?_
    · rintro i m u ys H3 hu hi hm s3 hy hl ry
      obtain ⟨x, hx, ru⟩ := repl_at rus hu
      have ex : x = (b.name, (i : Int)) := by
        have hx' : ((List.range b.blocks.flatten.length).map fun k : Nat => ((b.name, (k : Int)) : Spo))[i]? = some x := hx
        have hi2 : i < b.blocks.flatten.length := by
          have := (List.getElem?_eq_some_iff.mp hx).1
          rw [sl] at this
          exact this
        rw [List.getElem?_map, List.getElem?_range hi2] at hx'
        exact (Option.some.inj hx').symm
      subst ex
      obtain ⟨ad, rfl, hqd⟩ := rep_spo (ru.same s3)
      have es := rowNums_succ b.blocks i
      refine ⟨ad, _, rfl, hqd, rfl, _, _, rfl, _, _, rfl, rfl, SubS.set (SubS.set (SubS.refl _) rfl) rfl, ?_⟩
      refine ⟨_, rfl, _, rfl, .inl ⟨pe, _, rfl, .inl (SqL.of ((s2.trans s3) _ _ hpe)), rfl, flat_ints _, _, rfl, notIn_ints (fun hn => ?_) (fun hn => ?_)⟩⟩
      · refine ⟨_, rfl, _, rfl, by show 3 ≤ sizeLine; decide, fun z hz => ?_⟩
        have s4 := Same.new (o := .tup [.str "row", .str b.name, .int (i : Int)]) hz
        refine wl_next hD hi hm (small1000 (by omega)) s3 hy hl s4 ?_
        rw [es, if_pos hn, List.map_append]
        have kt := keepT_upd (K := K) (ys := ys ++ [.ref z]) (s4 _ _ hy)
        refine RepL.append ((ry.same s4).keepT kt (pureDs_map fun _ _ => rfl)) (RepL.one (Rep.keepT kt rfl (rep_tup upd_same ⟨_, _, rfl, rfl, _, _, rfl, rfl, _, _, rfl, rfl, rfl⟩)))
      · refine wl_skip hi hm s3 hy hl (Same.refl _) ?_
        rw [es, if_neg hn, List.append_nil]
        exact ry
    · rintro ys H3 s3 hy hl ry
      refine q D ys H3 (s1.trans s2 |>.free hD) hy ?_ ((s1.trans s2).trans s3)
      rw [ul, sl] at ry
      unfold stps
      rw [← rowNums_all b.name ok.each, List.map_map]
      exact ry
theorem ok_steps_of_record (T : Txt K mg t) : FnOk P w K mg base CX0 4 t.a_steps_of_record t.d_steps_of_record ["record", "number"] (spRecS K) := by
  refine T.F_steps_of_record.ok sc_steps_of_record (fun vs H Q E h => ?_) (fun cdv A outer s H vs Q E hr h => ?_)
  · obtain ⟨v, n, k, r, rfl, _⟩ := h; rfl
  · obtain ⟨v, n, k, r, rfl, rfl, rep, ok, q⟩ := h
    let X_ : Cx := (cxOf CX0 P w K mg base ["record", "number"] "steps_of_record" (defScope s_steps_of_record) t.a_steps_of_record cdv A outer s H E).nox
    let u1_ : PSV (X_) (List.drop 2 (defBody s_steps_of_record)) := ⟨_, (pss_one (ps_ret (pe_lst (pa_cons (pe_tup (pa_cons pe_str (pa_cons (pv 1) (pa_cons pe_int pa_nil)))) (pa_cons (pe_tup (pa_cons pe_str (pa_cons (pv 1) (pa_cons pe_int pa_nil)))) pa_nil)))))⟩
    let w1_ : TS := u1_.1
    have e1_ : PSs (X_) (List.drop 2 (defBody s_steps_of_record)) w1_ := u1_.2
    let u2_ : PSV (X_) (List.drop 1 (defBody s_steps_of_record)) := ⟨_, (pss_cons (ps_if (pt_cmpR (op_eqK K hr.units) (pe_ix (ix_K K) (pv 0) pe_int (fun _ _ => rfl)) pe_str (nomark _)) (pss_one (ps_ret (pe_lst (pa_cons (pe_tup (pa_cons pe_str (pa_cons (pv 1) pa_nil))) pa_nil)))) pss_nil)
      e1_)⟩
    let w2_ : TS := u2_.1
    have e2_ : PSs (X_) (List.drop 1 (defBody s_steps_of_record)) w2_ := u2_.2
    refine ⟨_, (pss_cons (ps_if (pt_truthK K (pe_call (ok_is_bore (K := K) T) (hr.mono (by decide)) rfl T.G_is_bore T.F_is_bore.kp T.B_is_bore .nil pass0 (pa_cons (pv 0) pa_nil)) (fun _ => rfl)) (pss_one (ps_ret (pe_call (ok_row_steps (K := K) T) (hr.mono (by decide)) rfl T.G_row_steps T.F_row_steps.kp T.B_row_steps .nil pass0 (pa_cons (pv 0) pa_nil)))) pss_nil)
      e2_), ?_⟩
    refine ⟨_, rfl, v, r, rfl, rep, fun H1 s1 => ⟨_, rfl, ?_⟩⟩
    cases r with
    | bore b =>
      refine iteT ?_
      exact ⟨_, rfl, v, b, rfl, rep.same s1, ok, fun p us H2 hpn hp rus s2 => q p us H2 (s1.free hpn) hp rus (s1.trans s2)⟩
    | over x y =>
      refine iteF ?_
      obtain ⟨a, u1, u2, rfl, hqa, _, _⟩ := rep_say (rep.same s1)
      refine ⟨_, rfl, .inr (.inl ⟨a, _, _, _, rfl, rfl, hqa, rfl, .inl ⟨rfl, _, rfl, iteT ?_⟩⟩)⟩
      refine ⟨_, rfl, by show 2 ≤ sizeLine; decide, fun z hz => ⟨by show 1 ≤ sizeLine; decide, fun p hp => ?_⟩⟩
      have s2 := Same.new (o := .tup [.str "over", .int ((k : Int) + 1)]) hz
      have s3 := Same.new (o := .lst [.ref z]) hp
      refine q p _ _ ((s1.trans s2).free hp) upd_same ?_ ((s1.trans s2).trans s3)
      exact ⟨_, _, rfl, Rep.same s3 (rep_tup upd_same ⟨_, _, rfl, rfl, _, _, rfl, rfl, rfl⟩), rfl⟩
    | one x y =>
      refine iteF ?_
      obtain ⟨a, u1, u2, rfl, hqa, _, _⟩ := rep_say (rep.same s1)
      refine ⟨_, rfl, .inr (.inl ⟨a, _, _, _, rfl, rfl, hqa, rfl, .inl ⟨rfl, _, rfl, iteF ?_⟩⟩)⟩
      refine ⟨_, rfl, by show 3 ≤ sizeLine; decide, fun z hz => ⟨_, rfl, by show 3 ≤ sizeLine; decide, fun z2 hz2 => ⟨by show 2 ≤ sizeLine; decide, fun p hp => ?_⟩⟩⟩
      have s2 := Same.new (o := .tup [.str "one", .int ((k : Int) + 1), .int 0]) hz
      have s3 := Same.new (o := .tup [.str "one", .int ((k : Int) + 1), .int 1]) hz2
      have s4 := Same.new (o := .lst [.ref z, .ref z2]) hp
      refine q p _ _ (((s1.trans s2).trans s3).free hp) upd_same ?_ (((s1.trans s2).trans s3).trans s4)
      exact ⟨_, _, rfl, Rep.same (s3.trans s4) (rep_tup upd_same ⟨_, _, rfl, rfl, _, _, rfl, rfl, _, _, rfl, rfl, rfl⟩), _, _, rfl, Rep.same s4 (rep_tup upd_same ⟨_, _, rfl, rfl, _, _, rfl, rfl, _, _, rfl, rfl, rfl⟩), rfl⟩
theorem ok_steps_of_some (T : Txt K mg t) : FnOk P w K mg base CX0 5 t.a_steps_of_some t.d_steps_of_some ["records", "numbers"] (spSomeS K) := by
  refine T.F_steps_of_some.ok sc_steps_of_some (fun vs H Q E h => ?_) (fun cdv A outer s H vs Q E hr h => ?_)
  · obtain ⟨r, q, us, rs, rfl, _⟩ := h; rfl
  · obtain ⟨r, q, us, rs, rfl, hq, rl, ok, l20, hqn, qq⟩ := h
    let X_ : Cx := (cxOf CX0 P w K mg base ["records", "numbers", "steps", "number"] "steps_of_some" (defScope s_steps_of_some) t.a_steps_of_some cdv A outer s H E).nox
    let u1_ : PSV (X_) (List.drop 2 (defBody s_steps_of_some)) := ⟨_, (pss_one (ps_ret (pv 2)))⟩
    let w1_ : TS := u1_.1
    have e1_ : PSs (X_) (List.drop 2 (defBody s_steps_of_some)) w1_ := u1_.2
    let u2_ : PSV (X_) (List.drop 1 (defBody s_steps_of_some)) := ⟨_, (pss_cons (ps_for PassesOwn.never rfl (pi_seqK K (pv 1)) (pg_name (i := 3) sc_steps_of_some.nd rfl (Or.inl rfl))
      (pss_one (ps_expr (pe_bmK K PySem.F.plainAttrs_list PySem.F.slot_list_extend PySem.F.type_list_extend mt_extend (pv 2) (pa_cons (pe_call (ok_steps_of_record (K := K) T) (hr.mono (by decide)) rfl T.G_steps_of_record T.F_steps_of_record.kp T.B_steps_of_record .nil pass0 (pa_cons (pe_ix (ix_K K) (pv 0) (pe_op op_sub (pv 3) pe_int) (fun _ _ => rfl)) (pa_cons (pv 3) pa_nil))) pa_nil)))))
      e1_)⟩
    let w2_ : TS := u2_.1
    have e2_ : PSs (X_) (List.drop 1 (defBody s_steps_of_some)) w2_ := u2_.2
    refine ⟨_, (pss_cons (ps_set (i := 2) sc_steps_of_some.nd rfl (Or.inl rfl) (pe_lst pa_nil))
      e2_), ?_⟩
    have ul := repl_len rl
    refine ⟨Nat.zero_le _, fun p hp => ?_⟩
    have s0 : Same H (upd H p (.lst [])) := Same.new hp
    have h0 : upd H p (.lst []) p = some (.lst []) := upd_same
    generalize upd H p (.lst []) = H0 at s0 h0
    refine ⟨_, rfl, Itl K q, .lst (SqL.of (s0 _ _ hqn)), for_list (xs := (List.range us.length).map fun i : Nat => V.int (1 + (i : Int))) (fun i σ H' => ∃ (ws : List V) (o3 : Option V), σ = [some (.ref r), some (.ref q), some (.ref p), o3] ∧ H' p = some (.lst ws) ∧ RepL K H' (stps (linesUp 0 (rs.take i))) ws ∧ Same H H')
      ⟨[], none, rfl, h0, rfl, s0⟩ (fun i σ H' _ h => by obtain ⟨_, _, _, _, _, s⟩ := h; exact SqL.of (s _ _ hqn)) ?_ ?_⟩
    · rintro i v σ H1 hv ⟨ws, o3, rfl, hp1, rws, s1⟩
      have hi : i < us.length := by
        have := (List.getElem?_eq_some_iff.mp hv).1
        rw [List.length_map, List.length_range] at this
        exact this
      have ev : v = .int (1 + (i : Int)) := by
        rw [List.getElem?_map, List.getElem?_range hi] at hv
        exact (Option.some.inj hv).symm
      subst ev
      have hui := List.getElem?_eq_getElem hi
      obtain ⟨rc, hrc, rv⟩ := repl_at rl hui
      generalize us[i] = u at hui rv
      have okr := ok rc (List.mem_of_getElem? hrc)
      have es := linesUp_succ hrc
      have fw := linesUp_few (rs := rs.take i) 0 fun r hr => ok r (List.mem_of_mem_take hr)
      rw [List.length_take] at fw
      have wl : ws.length = (linesUp 0 (rs.take i)).length := by rw [rws.length]; exact List.length_map ..
      have fl := linesAt_few (k := i) okr
      have eat : atI us (1 + (i : Int) - 1) = some u := by rw [show (1 + (i : Int) - 1) = i by omega]; exact atI_nat hui
      refine ⟨_, rfl, .inl ⟨rfl, _, SqL.of hp1⟩, ?_⟩
      refine ⟨_, rfl, _, rfl, _, _, rfl, rfl, .inl ⟨r, _, _, _, rfl, rfl, s1.seq hq, eat, ?_⟩⟩
      refine ⟨_, rfl, u, _, i, rc, rfl, by omega, rv.same s1, okr, fun pz zs H2 hpzn hpz rz s2 => ?_⟩
      have zl : zs.length = (linesAt i rc).length := by rw [rz.length]; exact List.length_map ..
      refine ⟨p, pz, ws, zs, rfl, rfl, s2 _ _ hp1, hpz, small8 (by omega), ?_⟩
      have kt := keepT_upd (K := K) (ys := ws ++ zs) (s2 _ _ hp1)
      refine ⟨ws ++ zs, _, rfl, upd_same, ?_, fun c o e => by rw [upd_ne (ne_of_none e hp)]; exact (s1.trans s2) c o e⟩
      rw [es, stps_append]
      exact RepL.append ((rws.same s2).keepT kt (stps_pure' _)) (rz.keepT kt (stps_pure' _))
    · rintro σ H1 ⟨ws, o3, rfl, hp1, rws, s1⟩
      rw [List.length_map, List.length_range, ul, List.take_length] at rws
      exact ⟨_, rfl, qq p ws H1 hp hp1 rws s1⟩
theorem ok_steps_of (T : Txt K mg t) : FnOk P w K mg base CX0 6 t.a_steps_of t.d_steps_of ["records"] (spSteps K) := by
  refine T.F_steps_of.ok sc_steps_of (fun vs H Q E h => ?_) (fun cdv A outer s H vs Q E hr h => ?_)
  · obtain ⟨r, us, rs, rfl, _⟩ := h; rfl
  · obtain ⟨r, us, rs, rfl, hq, rl, ok, l20, qq⟩ := h
    refine ⟨_, (pss_one (ps_ret (pe_call (ok_steps_of_some (K := K) T) (hr.mono (by decide)) rfl T.G_steps_of_some T.F_steps_of_some.kp T.B_steps_of_some .nil pass0 (pa_cons (pv 0) (pa_cons (pe_call (ok_all_numbers (K := K) T) (hr.mono (by decide)) rfl T.G_all_numbers T.F_all_numbers.kp T.B_all_numbers .nil pass0 (pa_cons (pv 0) pa_nil)) pa_nil))))), ?_⟩
    have ul := repl_len rl
    refine ⟨_, rfl, _, rfl, r, us, rfl, hq, by omega, fun q H1 hq1 s1 => ?_⟩
    exact ⟨r, q, us, rs, rfl, s1.seq hq, rl.same s1, ok, l20, hq1, fun p ws H2 hpn hp rws s2 => qq p ws H2 (s1.free hpn) hp rws (s1.trans s2)⟩
end
theorem kit_int_int {K : PySem.W.Frag} : PySem.W.kitOne K (.type "int") (.type "int") = some true := rfl
theorem kit_int_bool {K : PySem.W.Frag} : PySem.W.kitOne K (.type "int") (.type "bool") = some false := rfl
theorem kit_int_tuple {K : PySem.W.Frag} : PySem.W.kitOne K (.type "int") (.type "tuple") = some false := rfl
theorem kit_int_list {K : PySem.W.Frag} : PySem.W.kitOne K (.type "int") (.type "list") = some false := rfl
theorem kit_list_list {K : PySem.W.Frag} : PySem.W.kitOne K (.type "list") (.type "list") = some true := rfl
theorem kit_list_tuple {K : PySem.W.Frag} : PySem.W.kitOne K (.type "list") (.type "tuple") = some false := rfl
theorem kit_tuple_tuple {K : PySem.W.Frag} : PySem.W.kitOne K (.type "tuple") (.type "tuple") = some true := rfl
theorem kit_tuple_list {K : PySem.W.Frag} : PySem.W.kitOne K (.type "tuple") (.type "list") = some false := rfl
theorem kit_str_tuple {K : PySem.W.Frag} : PySem.W.kitOne K (.type "str") (.type "tuple") = some false := rfl
theorem kit_str_list {K : PySem.W.Frag} : PySem.W.kitOne K (.type "str") (.type "list") = some false := rfl
theorem kit_str_int {K : PySem.W.Frag} : PySem.W.kitOne K (.type "str") (.type "int") = some false := rfl
theorem call_isiGK {X : Cx} (K : PySem.W.Frag) (hK : X.K = K := by rfl) : CallR X (.builtin "isinstance") (fun xs H Q => rIsi K xs H Q ∨ rIsiT K xs H Q) := (call_isiK K hK).or (call_isiTK K hK)
def spStep (K : PySem.W.Frag) (spR : Sp) : Sp := fun vs H Q _ =>
  (∃ i : Int, vs = [.int i, .int i] ∧ Q (.bl true) H) ∨
  (∃ x : Str, vs = [.str x, .str x] ∧ Q (.bl true) H) ∨
  (∃ (a b : Addr) (xs zs : List V), vs = [.ref a, .ref b] ∧ SqT K H a xs ∧ SqT K H b zs ∧ xs.length = zs.length ∧ xs.length ≤ 200 ∧ (∀ H1, Same H H1 → ∀ (i : Nat) (x z : V), xs[i]? = some x → zs[i]? = some z → ∀ (Q' : VK) (E : XK), (∀ H2, Same H1 H2 → Q' (.bl true) H2) → spR [x, z] H1 Q' E) ∧ ∀ H', Same H H' → Q (.bl true) H') ∨
  (∃ (a b : Addr) (xs zs : List V), vs = [.ref a, .ref b] ∧ H a = some (.lst xs) ∧ H b = some (.lst zs) ∧ xs.length = zs.length ∧ xs.length ≤ 200 ∧ (∀ H1, Same H H1 → ∀ (i : Nat) (x z : V), xs[i]? = some x → zs[i]? = some z → ∀ (Q' : VK) (E : XK), (∀ H2, Same H1 H2 → Q' (.bl true) H2) → spR [x, z] H1 Q' E) ∧ ∀ H', Same H H' → Q (.bl true) H')
theorem all_true : ∀ n : Nat, (List.replicate n true).all id = true
  | 0 => rfl
  | n + 1 => by rw [List.replicate_succ, List.all_cons, all_true n]; rfl
theorem rep_bl (n : Nat) : (List.replicate n true).map V.bl ++ [V.bl true] = (List.replicate (n + 1) true).map V.bl := by
  rw [List.replicate_succ', List.map_append]
  rfl
section
variable {P : Program} {w : World} {K : PySem.W.Frag} {mg : Str → Option Value} {base : Heap} {t : Adr}
theorem ok_same0 : FnOk P w K mg base CX0 0 t.a__law_same t.d__law_same ["_law_found", "_law_due"] (fun _ _ _ _ => False) := ⟨fun _ _ _ _ h => h.elim, fun _ _ _ _ _ _ _ _ _ _ _ _ _ h => h.elim⟩
theorem ok_same_step (T : Txt K mg t) {k : Nat} {spR : Sp} (rec_ : FnOk P w K mg base CX0 k t.a__law_same t.d__law_same ["_law_found", "_law_due"] spR) : FnOk P w K mg base CX0 (k + 1) t.a__law_same t.d__law_same ["_law_found", "_law_due"] (spStep K spR) := by
  refine T.F__law_same.ok sc__law_same (fun vs H Q E h => ?_) (fun cdv A outer s H vs Q E hr h => ?_)
  · rcases h with ⟨i, rfl, _⟩ | ⟨x, rfl, _⟩ | ⟨a, b, xs, zs, rfl, _⟩ | ⟨a, b, xs, zs, rfl, _⟩ <;> rfl
  · refine ⟨_, (pss_cons (ps_if (PW.pt (pw_or (pt_truthK K (pe_callB (call_isiGK K) rfl T.N_isinstance bt_isinstance (pa_cons (pv 1) (pa_cons (pe_bltn (v := .ty "tuple") rfl T.N_tuple bt_tuple rfl) pa_nil))) (fun _ => rfl)) (pw_or1 (pt_truthK K (pe_callB (call_isiGK K) rfl T.N_isinstance bt_isinstance (pa_cons (pv 1) (pa_cons (pe_bltn (v := .ty "list") rfl T.N_list bt_list rfl) pa_nil))) (fun _ => rfl))))) (pss_cons (ps_if (PW.pt (pw_or (pt_cmpR (op_neK K hr.units) (pe_callB (call_isiGK K) rfl T.N_isinstance bt_isinstance (pa_cons (pv 0) (pa_cons (pe_bltn (v := .ty "tuple") rfl T.N_tuple bt_tuple rfl) pa_nil))) (pe_callB (call_isiGK K) rfl T.N_isinstance bt_isinstance (pa_cons (pv 1) (pa_cons (pe_bltn (v := .ty "tuple") rfl T.N_tuple bt_tuple rfl) pa_nil))) (nomark _)) (pw_or1 (pt_cmpR (op_neK K hr.units) (pe_callB (call_isiGK K) rfl T.N_isinstance bt_isinstance (pa_cons (pv 0) (pa_cons (pe_bltn (v := .ty "list") rfl T.N_list bt_list rfl) pa_nil))) (pe_callB (call_isiGK K) rfl T.N_isinstance bt_isinstance (pa_cons (pv 1) (pa_cons (pe_bltn (v := .ty "list") rfl T.N_list bt_list rfl) pa_nil))) (nomark _))))) (pss_one (ps_ret pe_bl)) pss_nil)
      (pss_one (ps_ret (pe_and (pe_cmpR (op_eqK K hr.units) (pe_callB (call_lenK K) rfl T.N_len bt_len (pa_cons (pv 0) pa_nil)) (pe_callB (call_lenK K) rfl T.N_len bt_len (pa_cons (pv 1) pa_nil)) (nomark _)) (pe_one (pe_callB (call_allK K) rfl T.N_all bt_all (pa_cons (pe_cmp1 ["_law_found", "_law_due"] (defScope s__law_same) ["_law_one", "_law_other"] [none, none] (pi_zipSK K rfl T.N_zip (pa_cons (pv 0) (pa_cons (pv 1) pa_nil)))
      (fun _ _ _ _ _ => (pg_tupK K (n := 2) rfl (pgs_cons (pg_name (i := 0) (show List.Nodup (["_law_one", "_law_other"] : List Str) from (by decide +kernel)) rfl (Or.inl rfl)) (pgs_cons (pg_name (i := 1) (show List.Nodup (["_law_one", "_law_other"] : List Str) from (by decide +kernel)) rfl (Or.inl rfl)) pgs_nil)))) (fun _ _ _ _ _ => pts_nil) (fun _ _ _ _ _ => (pe_call rec_ hr rfl T.G__law_same T.F__law_same.kp T.B__law_same .nil pass0 (pa_cons (pv 0) (pa_cons (pv 1) pa_nil))))) pa_nil))))))) pss_nil)
      (pss_cons (ps_if (pt_truthK K (pe_callB (call_isiGK K) rfl T.N_isinstance bt_isinstance (pa_cons (pv 1) (pa_cons (pe_bltn (v := .ty "int") rfl T.N_int bt_int rfl) pa_nil))) (fun _ => rfl)) (pss_one (ps_ret (pe_and (pe_callB (call_isiGK K) rfl T.N_isinstance bt_isinstance (pa_cons (pv 0) (pa_cons (pe_bltn (v := .ty "int") rfl T.N_int bt_int rfl) pa_nil))) (pe_and (pe_cmpR (op_eqK K hr.units) (pe_callB (call_isiGK K) rfl T.N_isinstance bt_isinstance (pa_cons (pv 0) (pa_cons (pe_bltn (v := .ty "bool") rfl T.N_bool bt_bool rfl) pa_nil))) (pe_callB (call_isiGK K) rfl T.N_isinstance bt_isinstance (pa_cons (pv 1) (pa_cons (pe_bltn (v := .ty "bool") rfl T.N_bool bt_bool rfl) pa_nil))) (nomark _)) (pe_one (pe_cmpR (op_eqK K hr.units) (pv 0) (pv 1) (nomark _))))))) pss_nil)
      (pss_one (ps_ret (pe_cmpR (op_eqK K hr.units) (pv 0) (pv 1) (nomark _)))))), ?_⟩
    rcases h with ⟨i, rfl, q⟩ | ⟨x, rfl, q⟩ | ⟨a, b, xs, zs, rfl, ha, hb, hl, l20, each, q⟩ | ⟨a, b, xs, zs, rfl, ha, hb, hl, l20, each, q⟩
    · refine ⟨_, rfl, .inl ⟨_, _, _, _, rfl, .int _, kit_int_tuple, _, rfl, iteF ?_⟩⟩
      refine ⟨_, rfl, .inl ⟨_, _, _, _, rfl, .int _, kit_int_list, _, rfl, iteF ?_⟩⟩
      refine ⟨_, rfl, .inl ⟨_, _, _, _, rfl, .int _, kit_int_int, _, rfl, iteT ?_⟩⟩
      refine ⟨_, rfl, .inl ⟨_, _, _, _, rfl, .int _, kit_int_int, _, rfl, iteT ?_⟩⟩
      refine ⟨_, rfl, .inl ⟨_, _, _, _, rfl, .int _, kit_int_bool, ?_⟩⟩
      refine ⟨_, rfl, .inl ⟨_, _, _, _, rfl, .int _, kit_int_bool, ?_⟩⟩
      refine .inl ⟨rfl, _, rfl, iteT ?_⟩
      refine ⟨_, rfl, _, rfl, .inl ⟨rfl, ?_⟩⟩
      exact (show Q (.bl (decide (V.int i = V.int i))) H by rw [decide_eq_true rfl]; exact q)
    · refine ⟨_, rfl, .inl ⟨_, _, _, _, rfl, .str _, kit_str_tuple, _, rfl, iteF ?_⟩⟩
      refine ⟨_, rfl, .inl ⟨_, _, _, _, rfl, .str _, kit_str_list, _, rfl, iteF ?_⟩⟩
      refine ⟨_, rfl, .inl ⟨_, _, _, _, rfl, .str _, kit_str_int, _, rfl, iteF ?_⟩⟩
      refine ⟨_, rfl, _, rfl, .inl ⟨rfl, ?_⟩⟩
      exact (show Q (.bl (decide (V.str x = V.str x))) H by rw [decide_eq_true rfl]; exact q)
    · refine ⟨_, rfl, .inr ⟨b, zs, _, _, rfl, hb, kit_tuple_tuple, _, rfl, iteT ?_⟩⟩
      refine ⟨_, rfl, .inr ⟨a, xs, _, _, rfl, ha, kit_tuple_tuple, ?_⟩⟩
      refine ⟨_, rfl, .inr ⟨b, zs, _, _, rfl, hb, kit_tuple_tuple, .inl ⟨rfl, _, rfl, iteF ?_⟩⟩⟩
      refine ⟨_, rfl, .inr ⟨a, xs, _, _, rfl, ha, kit_tuple_list, ?_⟩⟩
      refine ⟨_, rfl, .inr ⟨b, zs, _, _, rfl, hb, kit_tuple_list, .inl ⟨rfl, _, rfl, iteF ?_⟩⟩⟩
      refine ⟨_, rfl, _, _, rfl, .inr ⟨_, ha, rfl⟩, _, rfl, _, _, rfl, .inr ⟨_, hb, rfl⟩, .inl ⟨rfl, _, rfl, ?_⟩⟩
      rw [hl, decide_eq_true rfl]
      refine iteT ?_
      refine ⟨_, rfl, _, rfl, a, b, xs, zs, rfl, .inr ⟨ha, hb, fun D hD => ?_⟩⟩
      refine comp_zipT (fun i ys H' => ys = (List.replicate i true).map V.bl) ha hb hl hD rfl ?_ ?_
      · rintro i m x z p ys H2 hx hz hi hm s2 hy hl2 rfl hp
        have s3 : Same H2 (upd H2 p (.tup [x, z])) := Same.new hp
        have hp3 : (upd H2 p (.tup [x, z])) p = some (.tup [x, z]) := upd_same
        generalize upd H2 p (.tup [x, z]) = H3 at s3 hp3
        refine ⟨p, _, rfl, SqT.of hp3, rfl, _, _, rfl, _, _, rfl, rfl, SubS.set (SubS.set (SubS.refl _) rfl) rfl, ?_⟩
        refine ⟨_, rfl, _, rfl, each H3 (s2.trans s3) i x z hx hz _ _ fun H4 s4 => ?_⟩
        refine wl_next hD hi hm (small1000 (by omega)) s2 hy hl2 (s3.trans s4) ?_
        exact rep_bl i
      · rintro ys H2 s2 hy hl2 rfl
        refine ⟨D, List.replicate xs.length true, rfl, SqL.of hy, ?_⟩
        rw [all_true]
        exact q H2 s2
    · refine ⟨_, rfl, .inl ⟨_, _, _, _, rfl, .lst hb, kit_list_tuple, _, rfl, iteF ?_⟩⟩
      refine ⟨_, rfl, .inl ⟨_, _, _, _, rfl, .lst hb, kit_list_list, _, rfl, iteT ?_⟩⟩
      refine ⟨_, rfl, .inl ⟨_, _, _, _, rfl, .lst ha, kit_list_tuple, ?_⟩⟩
      refine ⟨_, rfl, .inl ⟨_, _, _, _, rfl, .lst hb, kit_list_tuple, .inl ⟨rfl, _, rfl, iteF ?_⟩⟩⟩
      refine ⟨_, rfl, .inl ⟨_, _, _, _, rfl, .lst ha, kit_list_list, ?_⟩⟩
      refine ⟨_, rfl, .inl ⟨_, _, _, _, rfl, .lst hb, kit_list_list, .inl ⟨rfl, _, rfl, iteF ?_⟩⟩⟩
      refine ⟨_, rfl, _, _, rfl, .inl ⟨_, SqL.of ha, rfl⟩, _, rfl, _, _, rfl, .inl ⟨_, SqL.of hb, rfl⟩, .inl ⟨rfl, _, rfl, ?_⟩⟩
      rw [hl, decide_eq_true rfl]
      refine iteT ?_
      refine ⟨_, rfl, _, rfl, a, b, xs, zs, rfl, .inl ⟨SqL.of ha, SqL.of hb, fun D hD => ?_⟩⟩
      refine comp_zip (n := xs.length) (fun i ys H' => ys = (List.replicate i true).map V.bl) (SqL.of ha) (SqL.of hb) (by omega) hD rfl ?_ ?_
      · rintro i m x z p ys H2 hx hz hi hm s2 hy hl2 rfl hp
        have s3 : Same H2 (upd H2 p (.tup [x, z])) := Same.new hp
        have hp3 : (upd H2 p (.tup [x, z])) p = some (.tup [x, z]) := upd_same
        generalize upd H2 p (.tup [x, z]) = H3 at s3 hp3
        refine ⟨p, _, rfl, SqT.of hp3, rfl, _, _, rfl, _, _, rfl, rfl, SubS.set (SubS.set (SubS.refl _) rfl) rfl, ?_⟩
        refine ⟨_, rfl, _, rfl, each H3 (s2.trans s3) i x z hx hz _ _ fun H4 s4 => ?_⟩
        refine wl_next hD hi hm (small1000 (by omega)) s2 hy hl2 (s3.trans s4) ?_
        exact rep_bl i
      · rintro ys H2 s2 hy hl2 rfl
        refine ⟨D, List.replicate xs.length true, rfl, SqL.of hy, ?_⟩
        rw [all_true]
        exact q H2 s2
theorem ok__law_same (T : Txt K mg t) : FnOk P w K mg base CX0 3 t.a__law_same t.d__law_same ["_law_found", "_law_due"] (spStep K (spStep K (spStep K fun _ _ _ _ => False))) := ok_same_step T (ok_same_step T (ok_same_step T ok_same0))
end
section
variable {K : PySem.W.Frag}
theorem same_spo {H : Hp} {p : Spo} {u v : V} (ru : Rep K H (spoD p) u) (rv : Rep K H (spoD p) v) (spR : Sp) (Q : VK) (E : XK) (q : ∀ H1, Same H H1 → Q (.bl true) H1) : spStep K (spStep K spR) [u, v] H Q E := by
  obtain ⟨a, rfl, ha⟩ := rep_spo ru
  obtain ⟨b, rfl, hb⟩ := rep_spo rv
  refine .inr (.inr (.inl ⟨a, b, _, _, rfl, ha, hb, rfl, by show 2 ≤ 200; decide, fun H1 s1 i x z hx hz Q' E' q' => ?_, q⟩))
  match i, hx, hz with
  | 0, hx, hz => cases hx; cases hz; exact .inr (.inl ⟨_, rfl, q' _ (Same.refl _)⟩)
  | 1, hx, hz => cases hx; cases hz; exact .inl ⟨_, rfl, q' _ (Same.refl _)⟩
  | n + 2, hx, hz => simp at hx
theorem same_stp {H : Hp} {p : Stp} {u v : V} (ru : Rep K H (stpD p) u) (rv : Rep K H (stpD p) v) (spR : Sp) (Q : VK) (E : XK) (q : ∀ H1, Same H H1 → Q (.bl true) H1) : spStep K (spStep K spR) [u, v] H Q E := by
  cases p with
  | row n k =>
    obtain ⟨a, xs, rfl, ha, h2⟩ := ru
    obtain ⟨_, _, rfl, rfl, h2⟩ := h2
    obtain ⟨_, _, rfl, rfl, h2⟩ := h2
    obtain ⟨_, _, rfl, rfl, h2⟩ := h2
    cases h2
    obtain ⟨b, xs, rfl, hb, h2⟩ := rv
    obtain ⟨_, _, rfl, rfl, h2⟩ := h2
    obtain ⟨_, _, rfl, rfl, h2⟩ := h2
    obtain ⟨_, _, rfl, rfl, h2⟩ := h2
    cases h2
    refine .inr (.inr (.inl ⟨a, b, _, _, rfl, ha, hb, rfl, by show 3 ≤ 200; decide, fun H1 s1 i x z hx hz Q' E' q' => ?_, q⟩))
    match i, hx, hz with
    | 0, hx, hz => cases hx; cases hz; exact .inr (.inl ⟨_, rfl, q' _ (Same.refl _)⟩)
    | 1, hx, hz => cases hx; cases hz; exact .inr (.inl ⟨_, rfl, q' _ (Same.refl _)⟩)
    | 2, hx, hz => cases hx; cases hz; exact .inl ⟨_, rfl, q' _ (Same.refl _)⟩
    | n + 3, hx, hz => simp at hx
  | over k =>
    obtain ⟨a, xs, rfl, ha, h2⟩ := ru
    obtain ⟨_, _, rfl, rfl, h2⟩ := h2
    obtain ⟨_, _, rfl, rfl, h2⟩ := h2
    cases h2
    obtain ⟨b, xs, rfl, hb, h2⟩ := rv
    obtain ⟨_, _, rfl, rfl, h2⟩ := h2
    obtain ⟨_, _, rfl, rfl, h2⟩ := h2
    cases h2
    refine .inr (.inr (.inl ⟨a, b, _, _, rfl, ha, hb, rfl, by show 2 ≤ 200; decide, fun H1 s1 i x z hx hz Q' E' q' => ?_, q⟩))
    match i, hx, hz with
    | 0, hx, hz => cases hx; cases hz; exact .inr (.inl ⟨_, rfl, q' _ (Same.refl _)⟩)
    | 1, hx, hz => cases hx; cases hz; exact .inl ⟨_, rfl, q' _ (Same.refl _)⟩
    | n + 2, hx, hz => simp at hx
  | one k d =>
    obtain ⟨a, xs, rfl, ha, h2⟩ := ru
    obtain ⟨_, _, rfl, rfl, h2⟩ := h2
    obtain ⟨_, _, rfl, rfl, h2⟩ := h2
    obtain ⟨_, _, rfl, rfl, h2⟩ := h2
    cases h2
    obtain ⟨b, xs, rfl, hb, h2⟩ := rv
    obtain ⟨_, _, rfl, rfl, h2⟩ := h2
    obtain ⟨_, _, rfl, rfl, h2⟩ := h2
    obtain ⟨_, _, rfl, rfl, h2⟩ := h2
    cases h2
    refine .inr (.inr (.inl ⟨a, b, _, _, rfl, ha, hb, rfl, by show 3 ≤ 200; decide, fun H1 s1 i x z hx hz Q' E' q' => ?_, q⟩))
    match i, hx, hz with
    | 0, hx, hz => cases hx; cases hz; exact .inr (.inl ⟨_, rfl, q' _ (Same.refl _)⟩)
    | 1, hx, hz => cases hx; cases hz; exact .inl ⟨_, rfl, q' _ (Same.refl _)⟩
    | 2, hx, hz => cases hx; cases hz; exact .inl ⟨_, rfl, q' _ (Same.refl _)⟩
    | n + 3, hx, hz => simp at hx
theorem each_list {α : Type} {g : α → PyData} {xs : List α} {H : Hp} {us vs : List V} (each : ∀ (H1 : Hp) (x : α) (u v : V), Rep K H1 (g x) u → Rep K H1 (g x) v → ∀ (spR : Sp) (Q : VK) (E : XK), (∀ H2, Same H1 H2 → Q (.bl true) H2) → spStep K (spStep K spR) [u, v] H1 Q E)
    (ru : RepL K H (xs.map g) us) (rv : RepL K H (xs.map g) vs) (spR : Sp) : ∀ H1, Same H H1 → ∀ (i : Nat) (x z : V), us[i]? = some x → vs[i]? = some z → ∀ (Q' : VK) (E : XK), (∀ H2, Same H1 H2 → Q' (.bl true) H2) → spStep K (spStep K spR) [x, z] H1 Q' E := by
  intro H1 s1 i x z hx hz Q' E' q'
  obtain ⟨y, hy, ry⟩ := repl_at ru hx
  obtain ⟨y', hy', ry'⟩ := repl_at rv hz
  rw [hy] at hy'
  cases hy'
  exact each H1 y x z (ry.same s1) (ry'.same s1) spR Q' E' q'
theorem each_spo {p : Spo} (spR : Sp) {H : Hp} : ∀ H1, Same H H1 → ∀ (i : Nat) (x z : V), [V.str p.1, V.int p.2][i]? = some x → [V.str p.1, V.int p.2][i]? = some z → ∀ (Q' : VK) (E : XK), (∀ H2, Same H1 H2 → Q' (.bl true) H2) → spStep K spR [x, z] H1 Q' E := by
  intro H1 s1 i x z hx hz Q' E' q'
  match i, hx, hz with
  | 0, hx, hz => cases hx; cases hz; exact .inr (.inl ⟨_, rfl, q' _ (Same.refl _)⟩)
  | 1, hx, hz => cases hx; cases hz; exact .inl ⟨_, rfl, q' _ (Same.refl _)⟩
  | n + 2, hx, hz => simp at hx
end
def spLaw (K : PySem.W.Frag) : Sp := fun vs H Q _ => ∃ (a : Addr) (ns : List Int), vs = [.ref a] ∧ Scr K H a ns ∧ ∀ H', Q (.bl true) H'
def lin0 : Lin := ⟨("", 0), ("", 0), false, .over 0⟩
def atmOf : Stp → List Atm
  | .row n k => [.s "row", .s n, .i k]
  | .over k => [.s "over", .i k]
  | .one k d => [.s "one", .i k, .i d]
theorem atm_first : ∀ s : Stp, FirstS (atmOf s)
  | .row _ _ => ⟨_, _, rfl⟩
  | .over _ => ⟨_, _, rfl⟩
  | .one _ _ => ⟨_, _, rfl⟩
theorem atm_cmp (x y : Stp) : Cmp2 (atmOf x) (atmOf y) := by
  have n1 : ¬ ("row" : Str) = "over" := by decide +kernel
  have n2 : ¬ ("row" : Str) = "one" := by decide +kernel
  have n3 : ¬ ("over" : Str) = "one" := by decide +kernel
  cases x with
  | row n k =>
    cases y with
    | row n' k' => exact fun _ _ _ => trivial
    | over k' => exact fun z => absurd z n1
    | one k' d' => exact fun z => absurd z n2
  | over k =>
    cases y with
    | row n' k' => exact fun z => absurd z.symm n1
    | over k' => exact fun _ _ => trivial
    | one k' d' => exact fun z => absurd z n3
  | one k d =>
    cases y with
    | row n' k' => exact fun z => absurd z.symm n2
    | over k' => exact fun z => absurd z.symm n3
    | one k' d' => exact fun _ _ _ => trivial
theorem rep_atm {K : PySem.W.Frag} {H : Hp} {p : Stp} {v : V} (r : Rep K H (stpD p) v) : TupV K H (atmOf p) v := by
  cases p with
  | row n k =>
    obtain ⟨a, xs, rfl, ha, h2⟩ := r
    obtain ⟨_, _, rfl, rfl, h2⟩ := h2
    obtain ⟨_, _, rfl, rfl, h2⟩ := h2
    obtain ⟨_, _, rfl, rfl, h2⟩ := h2
    cases h2
    exact ⟨a, rfl, ha⟩
  | over k =>
    obtain ⟨a, xs, rfl, ha, h2⟩ := r
    obtain ⟨_, _, rfl, rfl, h2⟩ := h2
    obtain ⟨_, _, rfl, rfl, h2⟩ := h2
    cases h2
    exact ⟨a, rfl, ha⟩
  | one k d =>
    obtain ⟨a, xs, rfl, ha, h2⟩ := r
    obtain ⟨_, _, rfl, rfl, h2⟩ := h2
    obtain ⟨_, _, rfl, rfl, h2⟩ := h2
    obtain ⟨_, _, rfl, rfl, h2⟩ := h2
    cases h2
    exact ⟨a, rfl, ha⟩
def atms (ls : List Lin) : List (List Atm) := ls.map fun l => atmOf l.st
theorem rep_atms {K : PySem.W.Frag} {H : Hp} : ∀ {ls : List Lin} {vs : List V}, RepL K H (stps ls) vs → PySem.Paired (TupV K H) (atms ls) vs
  | [], _, h => by cases h; exact .nil
  | l :: ls, _, h => by
    obtain ⟨v, vs, rfl, r, h⟩ := h
    exact .cons (rep_atm r) (rep_atms h)
theorem atms_first (ls : List Lin) : ∀ d ∈ atms ls, FirstS d := fun d hd => by
  obtain ⟨l, _, rfl⟩ := List.mem_map.mp hd
  exact atm_first _
theorem atms_cmp (ls : List Lin) : ∀ d ∈ atms ls, ∀ e ∈ atms ls, Cmp2 d e := fun d hd e he => by
  obtain ⟨l, _, rfl⟩ := List.mem_map.mp hd
  obtain ⟨m, _, rfl⟩ := List.mem_map.mp he
  exact atm_cmp _ _
theorem rep_places {K : PySem.W.Frag} {H : Hp} {ls : List Lin} {vs : List V} (r : RepL K H (stps ls) vs) : ∀ ps : List Nat, (∀ i ∈ ps, i < ls.length) → RepL K H ((ps.map fun i => ls.getD i lin0).map fun l => stpD l.st) (ps.map fun i => vs.getD i .non)
  | [], _ => rfl
  | i :: ps, h => by
    have hi := h i List.mem_cons_self
    obtain ⟨u, hu, ru⟩ := repl_get (g := fun l : Lin => stpD l.st) r (List.getElem?_eq_getElem hi)
    refine ⟨u, _, ?_, ?_, rep_places r ps fun j hj => h j (List.mem_cons_of_mem _ hj)⟩
    · show vs.getD i .non :: _ = u :: _
      rw [getD_of hu]
    · show Rep K H (stpD (ls.getD i lin0).st) u
      rw [getD_of (List.getElem?_eq_getElem hi)]
      exact ru
theorem canAll_map {α : Type} {g : α → PyData} : ∀ {xs : List α}, (∀ x ∈ xs, (g x).canLay0 = true) → PyData.canLayAll0 (xs.map g) = true
  | [], _ => rfl
  | x :: xs, h => by
    show ((g x).canLay0 && PyData.canLayAll0 (xs.map g)) = true
    rw [h x List.mem_cons_self, canAll_map fun y hy => h y (List.mem_cons_of_mem _ hy)]
    rfl
theorem depth_map {α : Type} {g : α → PyData} {n : Nat} (h : ∀ x, (g x).depth ≤ n) : ∀ (xs : List α), PyData.depthAll (xs.map g) ≤ n
  | [] => Nat.zero_le _
  | x :: xs => by
    show max (g x).depth (PyData.depthAll (xs.map g)) ≤ n
    exact Nat.max_le.mpr ⟨h x, depth_map h xs⟩
theorem rcd_can {r : Rcd} (h : RcdOk r) : (rcdD r).canLay0 = true := by
  cases r with
  | bore b =>
    have hl : ∀ x ∈ b.blocks, ∀ l ∈ x, (layD l).canLay0 = true := fun x hx l hl => by
      show (PyData.strOk l.1 && true) = true
      rw [(h.mks x hx l hl).str]
      rfl
    have hb : (blksD b.blocks).canLay0 = true := canAll_map (g := blkD) fun x hx => canAll_map (g := layD) (hl x hx)
    show (PyData.strOk b.name && (true && (true && ((blksD b.blocks).canLay0 && true)))) = true
    rw [h.nm.str, hb]
    rfl
  | over p q =>
    show (PyData.strOk "over" && ((spoD p).canLay0 && ((spoD q).canLay0 && true))) = true
    rw [spoD_lay h.1, spoD_lay h.2, show PyData.strOk "over" = true by decide +kernel]
    rfl
  | one p q =>
    show (PyData.strOk "one" && ((spoD p).canLay0 && ((spoD q).canLay0 && true))) = true
    rw [spoD_lay h.1, spoD_lay h.2, show PyData.strOk "one" = true by decide +kernel]
    rfl
theorem rcd_depth (r : Rcd) : (rcdD r).depth ≤ 4 := by
  have h1 : ∀ x : Lay, (layD x).depth ≤ 1 := fun x => Nat.le_refl 1
  have h2 : ∀ bl : List Lay, (blkD bl).depth ≤ 2 := fun bl => Nat.succ_le_succ (depth_map h1 bl)
  have h3 : ∀ bl : List (List Lay), (blksD bl).depth ≤ 3 := fun bl => Nat.succ_le_succ (depth_map h2 bl)
  cases r with
  | bore b => exact Nat.succ_le_succ (Nat.max_le.mpr ⟨Nat.zero_le _, Nat.max_le.mpr ⟨Nat.zero_le _, Nat.max_le.mpr ⟨Nat.zero_le _, Nat.max_le.mpr ⟨h3 _, Nat.zero_le _⟩⟩⟩⟩)
  | over p q => show 2 ≤ 4; decide
  | one p q => show 2 ≤ 4; decide
theorem rcds_depth (rs : List Rcd) : (PyData.list (rs.map rcdD)).depth ≤ 50 := Nat.le_trans (Nat.succ_le_succ (depth_map rcd_depth rs)) (by decide)
theorem spos_depth (ps : List Spo) : (PyData.list (ps.map spoD)).depth ≤ 50 := Nat.le_trans (Nat.succ_le_succ (depth_map (g := spoD) (n := 1) (fun _ => Nat.le_refl 1) ps)) (by decide)
theorem rep_line {K : PySem.W.Frag} {H : Hp} {l : Lin} {v : V} (h : Rep K H (linD l) v) : ∃ a u1 u2 u3, v = .ref a ∧ SqT K H a [u1, u2, .bl l.hard, u3] ∧ Rep K H (spoD l.b) u1 ∧ Rep K H (spoD l.e) u2 ∧ Rep K H (stpD l.st) u3 := by
  obtain ⟨a, xs, rfl, h1, h2⟩ := h
  obtain ⟨u1, _, rfl, r1, h2⟩ := h2
  obtain ⟨u2, _, rfl, r2, h2⟩ := h2
  obtain ⟨_, _, rfl, rfl, h2⟩ := h2
  obtain ⟨u3, _, rfl, r3, h2⟩ := h2
  cases h2
  exact ⟨a, u1, u2, u3, rfl, h1, r1, r2, r3⟩
section
variable {P : Program} {w : World} {K : PySem.W.Frag} {mg : Str → Option Value} {base : Heap} {t : Adr}
theorem ok_law (T : Txt K mg t) : FnOk P w K mg base CX0 7 t.a_law t.d_law ["_law_script"] (spLaw K) := by
  refine T.F_law.ok sc_law (fun vs H Q E h => ?_) (fun cdv A outer s H vs Q E hr h => ?_)
  · obtain ⟨a, ns, rfl, _⟩ := h; rfl
  · obtain ⟨a, ns, rfl, hs, q⟩ := h
    let X_ : Cx := (cxOf CX0 P w K mg base ["_law_script", "_law_records_here", "_law_lines_here", "_law_handed", "_law_told", "_law_shown", "_law_begin", "_law_end", "_law_hard", "_law_step"] "law" (defScope s_law) t.a_law cdv A outer s H E).nox
    let u1_ : PSV (X_) (List.drop 11 (defBody s_law)) := ⟨_, (pss_one (ps_ret (pe_cmpR (op_eqK K hr.units) (pv 3) (pv 1) (nomark _))))⟩
    let w1_ : TS := u1_.1
    have e1_ : PSs (X_) (List.drop 11 (defBody s_law)) w1_ := u1_.2
    let u2_ : PSV (X_) (List.drop 10 (defBody s_law)) := ⟨_, (pss_cons (ps_if (PW.pt (pw_or (pt_cmpR (op_neK K hr.units) (pe_callB (call_lenK K) rfl T.N_len bt_len (pa_cons (pe_call (ok_steps_of (K := K) T) (hr.mono (by decide)) rfl T.G_steps_of T.F_steps_of.kp T.B_steps_of .nil pass0 (pa_cons (pv 3) pa_nil)) pa_nil)) (pe_callB (call_lenK K) rfl T.N_len bt_len (pa_cons (pv 2) pa_nil)) (nomark _)) (pw_or1 (pt_cmpR (op_neK K hr.units) (pe_call (ok_spots_of (K := K) T) (hr.mono (by decide)) rfl T.G_spots_of T.F_spots_of.kp T.B_spots_of .nil pass0 (pa_cons (pv 3) pa_nil)) (pe_call (ok__law_spots (K := K) T) (hr.mono (by decide)) rfl T.G__law_spots T.F__law_spots.kp T.B__law_spots .nil pass0 (pa_cons (pv 1) pa_nil)) (nomark _))))) (pss_one (ps_ret pe_bl)) pss_nil)
      e1_)⟩
    let w2_ : TS := u2_.1
    have e2_ : PSs (X_) (List.drop 10 (defBody s_law)) w2_ := u2_.2
    let u3_ : PSV (X_) (List.drop 9 (defBody s_law)) := ⟨_, (pss_cons (ps_for PassesOwn.never rfl (pi_seqK K (pv 2)) (pg_tupK K (n := 4) rfl (pgs_cons (pg_name (i := 6) sc_law.nd rfl (Or.inl rfl)) (pgs_cons (pg_name (i := 7) sc_law.nd rfl (Or.inl rfl)) (pgs_cons (pg_name (i := 8) sc_law.nd rfl (Or.inl rfl)) (pgs_cons (pg_name (i := 9) sc_law.nd rfl (Or.inl rfl)) pgs_nil)))))
      (pss_one (ps_if (PW.pt (pw_or (pt_not (pt_truthK K (pe_call (ok__law_same (K := K) T) (hr.mono (by decide)) rfl T.G__law_same T.F__law_same.kp T.B__law_same .nil pass0 (pa_cons (pe_call (ok_begin_of (K := K) T) (hr.mono (by decide)) rfl T.G_begin_of T.F_begin_of.kp T.B_begin_of .nil pass0 (pa_cons (pv 3) (pa_cons (pv 9) pa_nil))) (pa_cons (pv 6) pa_nil))) (fun _ => rfl))) (pw_or1 (pt_not (pt_truthK K (pe_call (ok__law_same (K := K) T) (hr.mono (by decide)) rfl T.G__law_same T.F__law_same.kp T.B__law_same .nil pass0 (pa_cons (pe_call (ok_end_of (K := K) T) (hr.mono (by decide)) rfl T.G_end_of T.F_end_of.kp T.B_end_of .nil pass0 (pa_cons (pv 3) (pa_cons (pv 9) pa_nil))) (pa_cons (pv 7) pa_nil))) (fun _ => rfl)))))) (pss_one (ps_ret pe_bl)) pss_nil)))
      e2_)⟩
    let w3_ : TS := u3_.1
    have e3_ : PSs (X_) (List.drop 9 (defBody s_law)) w3_ := u3_.2
    let u4_ : PSV (X_) (List.drop 8 (defBody s_law)) := ⟨_, (pss_cons (ps_expr (pe_bm0K K PySem.F.plainAttrs_list PySem.F.slot_list_clear PySem.F.type_list_clear mt_clear (pv 5)))
      e3_)⟩
    let w4_ : TS := u4_.1
    have e4_ : PSs (X_) (List.drop 8 (defBody s_law)) w4_ := u4_.2
    let u5_ : PSV (X_) (List.drop 7 (defBody s_law)) := ⟨_, (pss_cons (ps_if (PW.pt (pw_or (pt_not (pt_truthK K (pe_callB (call_isiK K) rfl T.N_isinstance bt_isinstance (pa_cons (pv 5) (pa_cons (pe_bltn (v := .ty "list") rfl T.N_list bt_list rfl) pa_nil))) (fun _ => rfl))) (pw_or1 (pt_not (pt_truthK K (pe_call (ok__law_same (K := K) T) (hr.mono (by decide)) rfl T.G__law_same T.F__law_same.kp T.B__law_same .nil pass0 (pa_cons (pe_callB (call_sortedTK K) rfl T.N_sorted bt_sorted (pa_cons (pv 5) pa_nil)) (pa_cons (pe_callB (call_sortedTK K) rfl T.N_sorted bt_sorted (pa_cons (pe_cmp1 ["_law_script", "_law_records_here", "_law_lines_here", "_law_handed", "_law_told", "_law_shown", "_law_begin", "_law_end", "_law_hard", "_law_step"] (defScope s_law) ["_law_line"] [none] (pi_seqK K (pv 2))
      (fun _ _ _ _ _ => (pg_name (i := 0) (show List.Nodup (["_law_line"] : List Str) from (by decide +kernel)) rfl (Or.inl rfl))) (fun _ _ _ _ _ => pts_nil) (fun _ _ _ _ _ => (pe_ix (ix_K K) (pv 0) pe_int (fun _ _ => rfl)))) pa_nil)) pa_nil))) (fun _ => rfl)))))) (pss_one (ps_ret pe_bl)) pss_nil)
      e4_)⟩
    let w5_ : TS := u5_.1
    have e5_ : PSs (X_) (List.drop 7 (defBody s_law)) w5_ := u5_.2
    let u6_ : PSV (X_) (List.drop 6 (defBody s_law)) := ⟨_, (pss_cons (ps_set (i := 5) sc_law.nd rfl (Or.inl rfl) (pe_call (ok_steps_of (K := K) T) (hr.mono (by decide)) rfl T.G_steps_of T.F_steps_of.kp T.B_steps_of .nil pass0 (pa_cons (pv 3) pa_nil)))
      e5_)⟩
    let w6_ : TS := u6_.1
    have e6_ : PSs (X_) (List.drop 6 (defBody s_law)) w6_ := u6_.2
    let u7_ : PSV (X_) (List.drop 5 (defBody s_law)) := ⟨_, (pss_cons (ps_expr (pe_bmK K PySem.F.plainAttrs_list PySem.F.slot_list_append PySem.F.type_list_append mt_append (pv 4) (pa_cons (pe_tup (pa_cons pe_str (pa_cons pe_int pa_nil))) pa_nil)))
      e6_)⟩
    let w7_ : TS := u7_.1
    have e7_ : PSs (X_) (List.drop 5 (defBody s_law)) w7_ := u7_.2
    let u8_ : PSV (X_) (List.drop 4 (defBody s_law)) := ⟨_, (pss_cons (ps_if (pt_not (pt_truthK K (pe_call (ok__law_same (K := K) T) (hr.mono (by decide)) rfl T.G__law_same T.F__law_same.kp T.B__law_same .nil pass0 (pa_cons (pv 4) (pa_cons (pe_call (ok__law_spots (K := K) T) (hr.mono (by decide)) rfl T.G__law_spots T.F__law_spots.kp T.B__law_spots .nil pass0 (pa_cons (pv 1) pa_nil)) pa_nil))) (fun _ => rfl))) (pss_one (ps_ret pe_bl)) pss_nil)
      e7_)⟩
    let w8_ : TS := u8_.1
    have e8_ : PSs (X_) (List.drop 4 (defBody s_law)) w8_ := u8_.2
    let u9_ : PSV (X_) (List.drop 3 (defBody s_law)) := ⟨_, (pss_cons (ps_set (i := 4) sc_law.nd rfl (Or.inl rfl) (pe_call (ok_spots_of (K := K) T) (hr.mono (by decide)) rfl T.G_spots_of T.F_spots_of.kp T.B_spots_of .nil pass0 (pa_cons (pv 3) pa_nil)))
      e8_)⟩
    let w9_ : TS := u9_.1
    have e9_ : PSs (X_) (List.drop 3 (defBody s_law)) w9_ := u9_.2
    let u10_ : PSV (X_) (List.drop 2 (defBody s_law)) := ⟨_, (pss_cons (ps_set (i := 3) sc_law.nd rfl (Or.inl rfl) (pe_callTy (call_listK K) rfl T.N_list bt_list (pa_cons (pv 1) pa_nil)))
      e9_)⟩
    let w10_ : TS := u10_.1
    have e10_ : PSs (X_) (List.drop 2 (defBody s_law)) w10_ := u10_.2
    let u11_ : PSV (X_) (List.drop 1 (defBody s_law)) := ⟨_, (pss_cons (ps_set (i := 2) sc_law.nd rfl (Or.inl rfl) (pe_call (ok__law_lines (K := K) T) (hr.mono (by decide)) rfl T.G__law_lines T.F__law_lines.kp T.B__law_lines .nil pass0 (pa_cons (pv 1) pa_nil)))
      e10_)⟩
    let w11_ : TS := u11_.1
    have e11_ : PSs (X_) (List.drop 1 (defBody s_law)) w11_ := u11_.2
    refine ⟨_, (pss_cons (ps_set (i := 1) sc_law.nd rfl (Or.inl rfl) (pe_call (ok__law_records (K := K) T) (hr.mono (by decide)) rfl T.G__law_records T.F__law_records.kp T.B__law_records .nil pass0 (pa_cons (pv 0) pa_nil)))
      e11_), ?_⟩
    refine ⟨_, rfl, a, ns, rfl, hs, fun r us rs H1 _ hr1 rl1 ok1 ln1 wt1' s1 => ?_⟩
    refine ⟨_, rfl, r, us, rs, rfl, SqL.of hr1, rl1, ok1, by omega, fun p ws H2 _ hp2 rws s2 => ?_⟩
    have lok : ∀ l ∈ linesUp 0 rs, LinOk rs l ∧ LinNk l := fun l h => lines_ok ok1 h
    have lw := linesUp_wt 0 ok1
    have wl := repl_len rws
    refine ⟨_, rfl, r, us, rfl, .inl (SqL.of (s2 _ _ hr1)), fun ph hph => ?_⟩
    have s3 : Same H2 (upd H2 ph (.lst us)) := Same.new hph
    have hph3 : (upd H2 ph (.lst us)) ph = some (.lst us) := upd_same
    generalize upd H2 ph (.lst us) = H3 at s3 hph3
    have s13 := s2.trans s3
    have hr3 := s13 _ _ hr1
    have rl3 := rl1.same s13
    have hp3 := s3 _ _ hp2
    have rws3 := rws.same s3
    have sfw := spots_few ok1
    have snk := spots_nk ok1
    refine ⟨_, rfl, ph, us, rs, rfl, SqL.of hph3, rl3, ok1, by omega, fun pt ts H4 hptn hpt rts s4 => ?_⟩
    refine ⟨_, rfl, _, rfl, r, us, rs, rfl, SqL.of (s4 _ _ hr3), rl3.same s4, ok1, by omega, fun pd ds H5 _ hpd rds s5 => ?_⟩
    have tl := repl_len rts
    have dl := repl_len rds
    refine .inr (.inr (.inr ⟨pt, pd, ts, ds, rfl, s5 _ _ hpt, hpd, by omega, by omega, each_list (fun H1 x u v ru rv => same_spo ru rv) (rts.same s5) rds _, fun H6 s6 => ⟨_, rfl, iteF ?_⟩⟩))
    have s46 := s5.trans s6
    have s36 := s4.trans s46
    have hpt6 := s46 _ _ hpt
    refine ⟨_, rfl, .inl ⟨rfl, _, SqL.of hpt6⟩, by show 2 ≤ sizeLine; decide, fun z hz => ?_⟩
    have s7 := Same.new (o := .tup [.str "", .int 0]) hz
    refine ⟨pt, ts, _, rfl, rfl, s7 _ _ hpt6, small1000 (by omega), ?_⟩
    have s38 : Same H3 (upd (upd H6 z (.tup [.str "", .int 0])) pt (.lst (ts ++ [.ref z]))) := fun c o e => by rw [upd_ne (ne_of_none e hptn)]; exact (s36.trans s7) c o e
    generalize upd (upd H6 z (.tup [.str "", .int 0])) pt (.lst (ts ++ [.ref z])) = H8 at s38
    refine ⟨_, rfl, ph, us, rs, rfl, SqL.of (s38 _ _ hph3), rl3.same s38, ok1, by omega, fun pg gs H9 hpgn hpg rgs s9 => ?_⟩
    have gl : gs.length = (linesUp 0 rs).length := by rw [rgs.length]; exact List.length_map ..
    have pg3 : H3 pg = none := s38.free hpgn
    refine ⟨_, rfl, _, _, _, _, rfl, .lst hpg, kit_list_list, _, rfl, iteF ?_⟩
    refine ⟨_, rfl, pg, gs, atms (linesUp 0 rs), rfl, SqL.of hpg, by omega, rep_atms rgs, atms_first _, atms_cmp _, fun pa hpa => ?_⟩
    have sA : Same H9 (upd H9 pa (.lst ((placesOf (atms (linesUp 0 rs))).map fun i => gs.getD i .non))) := Same.new hpa
    have hpaA : (upd H9 pa (.lst ((placesOf (atms (linesUp 0 rs))).map fun i => gs.getD i .non))) pa = some (.lst ((placesOf (atms (linesUp 0 rs))).map fun i => gs.getD i .non)) := upd_same
    generalize upd H9 pa (.lst ((placesOf (atms (linesUp 0 rs))).map fun i => gs.getD i .non)) = HA at sA hpaA
    have s3A := (s38.trans s9).trans sA
    have hpA := s3A _ _ hp3
    refine ⟨_, rfl, Itl K p, .lst (SqL.of hpA), fun D hD => ?_⟩
    refine comp_lst (fun i zs H' => RepL K H' (stps ((linesUp 0 rs).take i)) zs) (SqL.of hpA) hD rfl ?_ ?_
    · rintro j m v zs HB hv hj hm sB hzB hlB rz
      obtain ⟨l, hl', rv⟩ := repl_at rws3 hv
      obtain ⟨al, x1, x2, x3, rfl, hql, q1, q2, q3⟩ := rep_line (rv.same (s3A.trans sB))
      refine ⟨SubS.set (SubS.refl _) rfl, _, rfl, .inr (.inl ⟨al, _, _, _, rfl, rfl, hql, rfl, ?_⟩)⟩
      refine wl_next hD hj hm (small1000 (by omega)) sB hzB hlB (Same.refl _) ?_
      have kt := keepT_upd (K := K) (ys := zs ++ [x3]) hzB
      rw [List.take_add_one, hl', stps_append]
      exact RepL.append (rz.keepT kt (stps_pure' _)) (RepL.one (Rep.keepT kt (stpD_pure _) q3))
    · rintro zs HB sB hzB hlB rz
      rw [wl, List.take_length] at rz
      have zl : zs.length = (linesUp 0 rs).length := by rw [rz.length]; exact List.length_map ..
      refine ⟨D, zs, atms (linesUp 0 rs), rfl, SqL.of hzB, by omega, rep_atms rz, atms_first _, atms_cmp _, fun pc hpc => ?_⟩
      have sC := Same.new (o := .lst ((placesOf (atms (linesUp 0 rs))).map fun i => zs.getD i .non)) hpc
      obtain ⟨pl1, pl2⟩ := places_ok (atms (linesUp 0 rs))
      have al : (atms (linesUp 0 rs)).length = (linesUp 0 rs).length := List.length_map ..
      have lpl : (placesOf (atms (linesUp 0 rs))).length ≤ 34 := by omega
      refine .inr (.inr (.inr ⟨pa, pc, _, _, rfl, (sB.trans sC) _ _ hpaA, upd_same, by rw [List.length_map, List.length_map], by rw [List.length_map]; omega, each_list (g := fun l : Lin => stpD l.st) (xs := (placesOf (atms (linesUp 0 rs))).map fun i => (linesUp 0 rs).getD i lin0) (fun H1 x u v ru rv => same_stp ru rv) (rep_places (rgs.same ((sA.trans sB).trans sC)) _ fun i hi => by have := pl2 i hi; omega) (rep_places (rz.same sC) _ fun i hi => by have := pl2 i hi; omega) _, fun HD sD => ⟨_, rfl, iteF ?_⟩⟩))
      have s9D := ((sA.trans sB).trans sC).trans sD
      have hpgD := s9D _ _ hpg
      have s3D := (s38.trans s9).trans s9D
      refine ⟨_, rfl, .inl ⟨rfl, _, SqL.of hpgD⟩, pg, _, rfl, rfl, hpgD, ?_⟩
      have s3E : Same H3 (upd HD pg (.lst [])) := fun c o e => by rw [upd_ne (ne_of_none e pg3)]; exact s3D c o e
      generalize upd HD pg (.lst []) = HE at s3E
      let Pv1_ : Nat → St → Hp → Prop := fun i σ H' => ∃ (o6 o7 o8 o9 : Option V), σ = [some (.ref a), some (.ref r), some (.ref p), some (.ref ph), some (.ref pt), some (.ref pg), o6, o7, o8, o9] ∧ Same H3 H'
      refine ⟨_, rfl, Itl K p, .lst (SqL.of (s3E _ _ hp3)), for_list (xs := ws) Pv1_
        ⟨_, _, _, _, rfl, s3E⟩ (fun i σ H' _ h => by obtain ⟨_, _, _, _, _, s⟩ := h; exact SqL.of (s _ _ hp3)) ?_ ?_⟩
      · rintro i v σ HF hv ⟨o6, o7, o8, o9, rfl, sF⟩
        obtain ⟨l, hl', rv⟩ := repl_at rws3 hv
        obtain ⟨al, x1, x2, x3, rfl, hql, q1, q2, q3⟩ := rep_line (rv.same sF)
        obtain ⟨xa, rfl, hxa⟩ := rep_spo q1
        obtain ⟨xb, rfl, hxb⟩ := rep_spo q2
        have okl := (lok l (List.mem_of_getElem? hl')).1
        refine ⟨al, _, rfl, hql, rfl, _, _, rfl, _, _, rfl, _, _, rfl, _, _, rfl, rfl, ?_⟩
        refine ⟨_, rfl, _, rfl, ph, x3, us, rs, l, rfl, SqL.of (sF _ _ hph3), rl3.same sF, q3, okl, fun u HG ru sG => ?_⟩
        obtain ⟨ua, rfl, hua⟩ := rep_spo ru
        refine ⟨_, rfl, .inr (.inr (.inl ⟨ua, xa, _, _, rfl, hua, sG.seqT hxa, rfl, by show 2 ≤ 200; decide, each_spo _, fun HI sI => ⟨_, rfl, iteF ?_⟩⟩))⟩
        have sFI := sG.trans sI
        refine ⟨_, rfl, _, rfl, ph, x3, us, rs, l, rfl, SqL.of ((sF.trans sFI) _ _ hph3), rl3.same (sF.trans sFI), q3.same sFI, okl, fun u HJ ru sJ => ?_⟩
        obtain ⟨ub, rfl, hub⟩ := rep_spo ru
        refine ⟨_, rfl, .inr (.inr (.inl ⟨ub, xb, _, _, rfl, hub, (sFI.trans sJ).seqT hxb, rfl, by show 2 ≤ 200; decide, each_spo _, fun HK sK => ⟨_, rfl, iteF ?_⟩⟩))⟩
        exact ⟨_, _, _, _, rfl, ((sF.trans sFI).trans sJ).trans sK⟩
      · rintro σ HF ⟨o6, o7, o8, o9, rfl, sF⟩
        refine ⟨_, rfl, ph, us, rs, rfl, SqL.of (sF _ _ hph3), rl3.same sF, ok1, by omega, fun px xs HG _ hpx rxs sG => ?_⟩
        have xl : xs.length = ws.length := by rw [rxs.length, wl]; exact List.length_map ..
        have s3G := sF.trans sG
        refine ⟨_, _, rfl, .inl ⟨_, SqL.of hpx, rfl⟩, _, rfl, _, _, rfl, .inl ⟨_, SqL.of (s3G _ _ hp3), rfl⟩, .inl ⟨rfl, _, rfl, ite2 (fun hc => absurd hc (by rw [xl]; simp)) (fun _ => ?_)⟩⟩
        refine ⟨_, rfl, ph, us, rs, rfl, SqL.of (s3G _ _ hph3), rl3.same s3G, ok1, by omega, fun py ys HI _ hpy rys sI => ?_⟩
        have s3I := s3G.trans sI
        refine ⟨_, rfl, r, us, rs, rfl, SqL.of (s3I _ _ hr3), rl3.same s3I, ok1, by omega, fun pz zs HJ _ hpz rzs sJ => ?_⟩
        have can : (PyData.list ((spotsOf rs).map spoD)).canLay0 = true := canAll_map (g := spoD) fun x hx => spoD_lay (snk x hx)
        refine .inr ⟨.list ((spotsOf rs).map spoD), .list ((spotsOf rs).map spoD), ⟨py, ys, rfl, SqL.of (sJ _ _ hpy), rys.same sJ⟩, ⟨pz, zs, rfl, SqL.of hpz, rzs⟩, can, can, spos_depth _, ?_⟩
        rw [PySem.SeqAt.eqv_refl _ can]
        refine ⟨_, rfl, iteF ?_⟩
        have s3J := s3I.trans sJ
        have can2 : (PyData.list (rs.map rcdD)).canLay0 = true := canAll_map (g := rcdD) fun x hx => rcd_can (ok1 x hx)
        refine ⟨_, rfl, _, rfl, .inr ⟨.list (rs.map rcdD), .list (rs.map rcdD), ⟨ph, us, rfl, SqL.of (s3J _ _ hph3), rl3.same s3J⟩, ⟨r, us, rfl, SqL.of (s3J _ _ hr3), rl3.same s3J⟩, can2, can2, rcds_depth _, ?_⟩⟩
        rw [PySem.SeqAt.eqv_refl _ can2]
        exact q _
theorem spLaw_of {H : Hp} (a : Addr) (ns : List Int) (hl : ns.length ≤ 63) (hS : SqL K H a (ns.map V.int)) (hO : Only H) : spLaw K [.ref a] H (fun v _ => v = .bl true) fun _ _ _ => False := by
  refine ⟨a, ns, rfl, ⟨hl, ?_⟩, fun _ => rfl⟩
  rcases hS with (h | h) | h
  · rcases hO a with z | ⟨o, xs, z⟩ <;> rw [h] at z <;> cases z
  · exact .inl h
  · exact .inr h
end
theorem all_mk {l : PySem.W.OpenLaw} {w : World} {K : PySem.W.Frag} {h : Heap} {mg : Str → Option Value} {fa : Addr} (X : K.In h) (G : h.Ns mainGlobals mg) (hfa : mg "law" = some (.ref fa))
    {f0 : Addr} {od0 an0 : Option Addr} {sl0 : Array (Option Value)} {oc0 kV0 dc0 pm0 cd0 ct0 : Value}
    (a0 : PySem.W.nsIn K mainGlobals "layers_of" = some (some (.ref f0))) (l0 : K.lookup f0 = some ⟨oc0, od0, .func (PySem.W.fnOf "layers_of" "layers_of" (defArgs s_layers_of) (defBody s_layers_of) (defScope s_layers_of) .none kV0 dc0 pm0 an0 cd0 ct0), sl0⟩) (c0 : PySem.W.codeIn K cd0 "layers_of" = true) (k0 : PySem.W.keepIn K (.ref f0) = true)
    {f1 : Addr} {od1 an1 : Option Addr} {sl1 : Array (Option Value)} {oc1 kV1 dc1 pm1 cd1 ct1 : Value}
    (a1 : PySem.W.nsIn K mainGlobals "spots_of_bore" = some (some (.ref f1))) (l1 : K.lookup f1 = some ⟨oc1, od1, .func (PySem.W.fnOf "spots_of_bore" "spots_of_bore" (defArgs s_spots_of_bore) (defBody s_spots_of_bore) (defScope s_spots_of_bore) .none kV1 dc1 pm1 an1 cd1 ct1), sl1⟩) (c1 : PySem.W.codeIn K cd1 "spots_of_bore" = true) (k1 : PySem.W.keepIn K (.ref f1) = true)
    {f2 : Addr} {od2 an2 : Option Addr} {sl2 : Array (Option Value)} {oc2 kV2 dc2 pm2 cd2 ct2 : Value}
    (a2 : PySem.W.nsIn K mainGlobals "block_ends" = some (some (.ref f2))) (l2 : K.lookup f2 = some ⟨oc2, od2, .func (PySem.W.fnOf "block_ends" "block_ends" (defArgs s_block_ends) (defBody s_block_ends) (defScope s_block_ends) .none kV2 dc2 pm2 an2 cd2 ct2), sl2⟩) (c2 : PySem.W.codeIn K cd2 "block_ends" = true) (k2 : PySem.W.keepIn K (.ref f2) = true)
    {f3 : Addr} {od3 an3 : Option Addr} {sl3 : Array (Option Value)} {oc3 kV3 dc3 pm3 cd3 ct3 : Value}
    (a3 : PySem.W.nsIn K mainGlobals "is_bore" = some (some (.ref f3))) (l3 : K.lookup f3 = some ⟨oc3, od3, .func (PySem.W.fnOf "is_bore" "is_bore" (defArgs s_is_bore) (defBody s_is_bore) (defScope s_is_bore) .none kV3 dc3 pm3 an3 cd3 ct3), sl3⟩) (c3 : PySem.W.codeIn K cd3 "is_bore" = true) (k3 : PySem.W.keepIn K (.ref f3) = true)
    {f4 : Addr} {od4 an4 : Option Addr} {sl4 : Array (Option Value)} {oc4 kV4 dc4 pm4 cd4 ct4 : Value}
    (a4 : PySem.W.nsIn K mainGlobals "bores_among" = some (some (.ref f4))) (l4 : K.lookup f4 = some ⟨oc4, od4, .func (PySem.W.fnOf "bores_among" "bores_among" (defArgs s_bores_among) (defBody s_bores_among) (defScope s_bores_among) .none kV4 dc4 pm4 an4 cd4 ct4), sl4⟩) (c4 : PySem.W.codeIn K cd4 "bores_among" = true) (k4 : PySem.W.keepIn K (.ref f4) = true)
    {f5 : Addr} {od5 an5 : Option Addr} {sl5 : Array (Option Value)} {oc5 kV5 dc5 pm5 cd5 ct5 : Value}
    (a5 : PySem.W.nsIn K mainGlobals "spots_of" = some (some (.ref f5))) (l5 : K.lookup f5 = some ⟨oc5, od5, .func (PySem.W.fnOf "spots_of" "spots_of" (defArgs s_spots_of) (defBody s_spots_of) (defScope s_spots_of) .none kV5 dc5 pm5 an5 cd5 ct5), sl5⟩) (c5 : PySem.W.codeIn K cd5 "spots_of" = true) (k5 : PySem.W.keepIn K (.ref f5) = true)
    {f6 : Addr} {od6 an6 : Option Addr} {sl6 : Array (Option Value)} {oc6 kV6 dc6 pm6 cd6 ct6 : Value}
    (a6 : PySem.W.nsIn K mainGlobals "steps_of" = some (some (.ref f6))) (l6 : K.lookup f6 = some ⟨oc6, od6, .func (PySem.W.fnOf "steps_of" "steps_of" (defArgs s_steps_of) (defBody s_steps_of) (defScope s_steps_of) .none kV6 dc6 pm6 an6 cd6 ct6), sl6⟩) (c6 : PySem.W.codeIn K cd6 "steps_of" = true) (k6 : PySem.W.keepIn K (.ref f6) = true)
    {f7 : Addr} {od7 an7 : Option Addr} {sl7 : Array (Option Value)} {oc7 kV7 dc7 pm7 cd7 ct7 : Value}
    (a7 : PySem.W.nsIn K mainGlobals "all_numbers" = some (some (.ref f7))) (l7 : K.lookup f7 = some ⟨oc7, od7, .func (PySem.W.fnOf "all_numbers" "all_numbers" (defArgs s_all_numbers) (defBody s_all_numbers) (defScope s_all_numbers) .none kV7 dc7 pm7 an7 cd7 ct7), sl7⟩) (c7 : PySem.W.codeIn K cd7 "all_numbers" = true) (k7 : PySem.W.keepIn K (.ref f7) = true)
    {f8 : Addr} {od8 an8 : Option Addr} {sl8 : Array (Option Value)} {oc8 kV8 dc8 pm8 cd8 ct8 : Value}
    (a8 : PySem.W.nsIn K mainGlobals "steps_of_some" = some (some (.ref f8))) (l8 : K.lookup f8 = some ⟨oc8, od8, .func (PySem.W.fnOf "steps_of_some" "steps_of_some" (defArgs s_steps_of_some) (defBody s_steps_of_some) (defScope s_steps_of_some) .none kV8 dc8 pm8 an8 cd8 ct8), sl8⟩) (c8 : PySem.W.codeIn K cd8 "steps_of_some" = true) (k8 : PySem.W.keepIn K (.ref f8) = true)
    {f9 : Addr} {od9 an9 : Option Addr} {sl9 : Array (Option Value)} {oc9 kV9 dc9 pm9 cd9 ct9 : Value}
    (a9 : PySem.W.nsIn K mainGlobals "steps_of_record" = some (some (.ref f9))) (l9 : K.lookup f9 = some ⟨oc9, od9, .func (PySem.W.fnOf "steps_of_record" "steps_of_record" (defArgs s_steps_of_record) (defBody s_steps_of_record) (defScope s_steps_of_record) .none kV9 dc9 pm9 an9 cd9 ct9), sl9⟩) (c9 : PySem.W.codeIn K cd9 "steps_of_record" = true) (k9 : PySem.W.keepIn K (.ref f9) = true)
    {f10 : Addr} {od10 an10 : Option Addr} {sl10 : Array (Option Value)} {oc10 kV10 dc10 pm10 cd10 ct10 : Value}
    (a10 : PySem.W.nsIn K mainGlobals "row_steps" = some (some (.ref f10))) (l10 : K.lookup f10 = some ⟨oc10, od10, .func (PySem.W.fnOf "row_steps" "row_steps" (defArgs s_row_steps) (defBody s_row_steps) (defScope s_row_steps) .none kV10 dc10 pm10 an10 cd10 ct10), sl10⟩) (c10 : PySem.W.codeIn K cd10 "row_steps" = true) (k10 : PySem.W.keepIn K (.ref f10) = true)
    {f11 : Addr} {od11 an11 : Option Addr} {sl11 : Array (Option Value)} {oc11 kV11 dc11 pm11 cd11 ct11 : Value}
    (a11 : PySem.W.nsIn K mainGlobals "begin_of" = some (some (.ref f11))) (l11 : K.lookup f11 = some ⟨oc11, od11, .func (PySem.W.fnOf "begin_of" "begin_of" (defArgs s_begin_of) (defBody s_begin_of) (defScope s_begin_of) .none kV11 dc11 pm11 an11 cd11 ct11), sl11⟩) (c11 : PySem.W.codeIn K cd11 "begin_of" = true) (k11 : PySem.W.keepIn K (.ref f11) = true)
    {f12 : Addr} {od12 an12 : Option Addr} {sl12 : Array (Option Value)} {oc12 kV12 dc12 pm12 cd12 ct12 : Value}
    (a12 : PySem.W.nsIn K mainGlobals "end_of" = some (some (.ref f12))) (l12 : K.lookup f12 = some ⟨oc12, od12, .func (PySem.W.fnOf "end_of" "end_of" (defArgs s_end_of) (defBody s_end_of) (defScope s_end_of) .none kV12 dc12 pm12 an12 cd12 ct12), sl12⟩) (c12 : PySem.W.codeIn K cd12 "end_of" = true) (k12 : PySem.W.keepIn K (.ref f12) = true)
    {f13 : Addr} {od13 an13 : Option Addr} {sl13 : Array (Option Value)} {oc13 kV13 dc13 pm13 cd13 ct13 : Value}
    (a13 : PySem.W.nsIn K mainGlobals "begin_and_end" = some (some (.ref f13))) (l13 : K.lookup f13 = some ⟨oc13, od13, .func (PySem.W.fnOf "begin_and_end" "begin_and_end" (defArgs s_begin_and_end) (defBody s_begin_and_end) (defScope s_begin_and_end) .none kV13 dc13 pm13 an13 cd13 ct13), sl13⟩) (c13 : PySem.W.codeIn K cd13 "begin_and_end" = true) (k13 : PySem.W.keepIn K (.ref f13) = true)
    {f14 : Addr} {od14 an14 : Option Addr} {sl14 : Array (Option Value)} {oc14 kV14 dc14 pm14 cd14 ct14 : Value}
    (a14 : PySem.W.nsIn K mainGlobals "_law_draws" = some (some (.ref f14))) (l14 : K.lookup f14 = some ⟨oc14, od14, .func (PySem.W.fnOf "_law_draws" "_law_draws" (defArgs s__law_draws) (defBody s__law_draws) (defScope s__law_draws) .none kV14 dc14 pm14 an14 cd14 ct14), sl14⟩) (c14 : PySem.W.codeIn K cd14 "_law_draws" = true) (k14 : PySem.W.keepIn K (.ref f14) = true)
    {f15 : Addr} {od15 an15 : Option Addr} {sl15 : Array (Option Value)} {oc15 kV15 dc15 pm15 cd15 ct15 : Value}
    (a15 : PySem.W.nsIn K mainGlobals "_law_names" = some (some (.ref f15))) (l15 : K.lookup f15 = some ⟨oc15, od15, .func (PySem.W.fnOf "_law_names" "_law_names" (defArgs s__law_names) (defBody s__law_names) (defScope s__law_names) .none kV15 dc15 pm15 an15 cd15 ct15), sl15⟩) (c15 : PySem.W.codeIn K cd15 "_law_names" = true) (k15 : PySem.W.keepIn K (.ref f15) = true)
    {f16 : Addr} {od16 an16 : Option Addr} {sl16 : Array (Option Value)} {oc16 kV16 dc16 pm16 cd16 ct16 : Value}
    (a16 : PySem.W.nsIn K mainGlobals "_law_likes" = some (some (.ref f16))) (l16 : K.lookup f16 = some ⟨oc16, od16, .func (PySem.W.fnOf "_law_likes" "_law_likes" (defArgs s__law_likes) (defBody s__law_likes) (defScope s__law_likes) .none kV16 dc16 pm16 an16 cd16 ct16), sl16⟩) (c16 : PySem.W.codeIn K cd16 "_law_likes" = true) (k16 : PySem.W.keepIn K (.ref f16) = true)
    {f17 : Addr} {od17 an17 : Option Addr} {sl17 : Array (Option Value)} {oc17 kV17 dc17 pm17 cd17 ct17 : Value}
    (a17 : PySem.W.nsIn K mainGlobals "_law_bore" = some (some (.ref f17))) (l17 : K.lookup f17 = some ⟨oc17, od17, .func (PySem.W.fnOf "_law_bore" "_law_bore" (defArgs s__law_bore) (defBody s__law_bore) (defScope s__law_bore) .none kV17 dc17 pm17 an17 cd17 ct17), sl17⟩) (c17 : PySem.W.codeIn K cd17 "_law_bore" = true) (k17 : PySem.W.keepIn K (.ref f17) = true)
    {f18 : Addr} {od18 an18 : Option Addr} {sl18 : Array (Option Value)} {oc18 kV18 dc18 pm18 cd18 ct18 : Value}
    (a18 : PySem.W.nsIn K mainGlobals "_law_bores" = some (some (.ref f18))) (l18 : K.lookup f18 = some ⟨oc18, od18, .func (PySem.W.fnOf "_law_bores" "_law_bores" (defArgs s__law_bores) (defBody s__law_bores) (defScope s__law_bores) .none kV18 dc18 pm18 an18 cd18 ct18), sl18⟩) (c18 : PySem.W.codeIn K cd18 "_law_bores" = true) (k18 : PySem.W.keepIn K (.ref f18) = true)
    {f19 : Addr} {od19 an19 : Option Addr} {sl19 : Array (Option Value)} {oc19 kV19 dc19 pm19 cd19 ct19 : Value}
    (a19 : PySem.W.nsIn K mainGlobals "_law_spots" = some (some (.ref f19))) (l19 : K.lookup f19 = some ⟨oc19, od19, .func (PySem.W.fnOf "_law_spots" "_law_spots" (defArgs s__law_spots) (defBody s__law_spots) (defScope s__law_spots) .none kV19 dc19 pm19 an19 cd19 ct19), sl19⟩) (c19 : PySem.W.codeIn K cd19 "_law_spots" = true) (k19 : PySem.W.keepIn K (.ref f19) = true)
    {f20 : Addr} {od20 an20 : Option Addr} {sl20 : Array (Option Value)} {oc20 kV20 dc20 pm20 cd20 ct20 : Value}
    (a20 : PySem.W.nsIn K mainGlobals "_law_records" = some (some (.ref f20))) (l20 : K.lookup f20 = some ⟨oc20, od20, .func (PySem.W.fnOf "_law_records" "_law_records" (defArgs s__law_records) (defBody s__law_records) (defScope s__law_records) .none kV20 dc20 pm20 an20 cd20 ct20), sl20⟩) (c20 : PySem.W.codeIn K cd20 "_law_records" = true) (k20 : PySem.W.keepIn K (.ref f20) = true)
    {f21 : Addr} {od21 an21 : Option Addr} {sl21 : Array (Option Value)} {oc21 kV21 dc21 pm21 cd21 ct21 : Value}
    (a21 : PySem.W.nsIn K mainGlobals "_law_lines" = some (some (.ref f21))) (l21 : K.lookup f21 = some ⟨oc21, od21, .func (PySem.W.fnOf "_law_lines" "_law_lines" (defArgs s__law_lines) (defBody s__law_lines) (defScope s__law_lines) .none kV21 dc21 pm21 an21 cd21 ct21), sl21⟩) (c21 : PySem.W.codeIn K cd21 "_law_lines" = true) (k21 : PySem.W.keepIn K (.ref f21) = true)
    {f22 : Addr} {od22 an22 : Option Addr} {sl22 : Array (Option Value)} {oc22 kV22 dc22 pm22 cd22 ct22 : Value}
    (a22 : PySem.W.nsIn K mainGlobals "_law_same" = some (some (.ref f22))) (l22 : K.lookup f22 = some ⟨oc22, od22, .func (PySem.W.fnOf "_law_same" "_law_same" (defArgs s__law_same) (defBody s__law_same) (defScope s__law_same) .none kV22 dc22 pm22 an22 cd22 ct22), sl22⟩) (c22 : PySem.W.codeIn K cd22 "_law_same" = true) (k22 : PySem.W.keepIn K (.ref f22) = true)
    {f23 : Addr} {od23 an23 : Option Addr} {sl23 : Array (Option Value)} {oc23 kV23 dc23 pm23 cd23 ct23 : Value}
    (a23 : PySem.W.nsIn K mainGlobals "law" = some (some (.ref f23))) (l23 : K.lookup f23 = some ⟨oc23, od23, .func (PySem.W.fnOf "law" "law" (defArgs s_law) (defBody s_law) (defScope s_law) .none kV23 dc23 pm23 an23 cd23 ct23), sl23⟩) (c23 : PySem.W.codeIn K cd23 "law" = true) (k23 : PySem.W.keepIn K (.ref f23) = true)
    (z0 : PySem.W.nsIn K mainGlobals "list" = some none)
    (z1 : PySem.W.nsIn K mainGlobals "range" = some none)
    (z2 : PySem.W.nsIn K mainGlobals "tuple" = some none)
    (z3 : PySem.W.nsIn K mainGlobals "isinstance" = some none)
    (z4 : PySem.W.nsIn K mainGlobals "int" = some none)
    (z5 : PySem.W.nsIn K mainGlobals "len" = some none)
    (z6 : PySem.W.nsIn K mainGlobals "sum" = some none)
    (z7 : PySem.W.nsIn K mainGlobals "all" = some none)
    (z8 : PySem.W.nsIn K mainGlobals "bool" = some none)
    (z9 : PySem.W.nsIn K mainGlobals "sorted" = some none)
    (z10 : PySem.W.nsIn K mainGlobals "zip" = some none)
    : ∃ fd : FuncData, (∀ (s : Shared) (v : Value), BindsTo s fd ⟨[v], []⟩ [("_law_script", v)]) ∧ ∀ base : Heap, K.In base → base.Ns mainGlobals mg → FnOk l.prog w K mg base CX0 7 fa fd ["_law_script"] (spLaw K) := by
  have e := (PySem.W.mg_of X G a23).symm.trans hfa
  injection e with e
  injection e with e
  subst e
  have F0 := fun_mk (st := s_layers_of) l0 c0 k0
  have F1 := fun_mk (st := s_spots_of_bore) l1 c1 k1
  have F2 := fun_mk (st := s_block_ends) l2 c2 k2
  have F3 := fun_mk (st := s_is_bore) l3 c3 k3
  have F4 := fun_mk (st := s_bores_among) l4 c4 k4
  have F5 := fun_mk (st := s_spots_of) l5 c5 k5
  have F6 := fun_mk (st := s_steps_of) l6 c6 k6
  have F7 := fun_mk (st := s_all_numbers) l7 c7 k7
  have F8 := fun_mk (st := s_steps_of_some) l8 c8 k8
  have F9 := fun_mk (st := s_steps_of_record) l9 c9 k9
  have F10 := fun_mk (st := s_row_steps) l10 c10 k10
  have F11 := fun_mk (st := s_begin_of) l11 c11 k11
  have F12 := fun_mk (st := s_end_of) l12 c12 k12
  have F13 := fun_mk (st := s_begin_and_end) l13 c13 k13
  have F14 := fun_mk (st := s__law_draws) l14 c14 k14
  have F15 := fun_mk (st := s__law_names) l15 c15 k15
  have F16 := fun_mk (st := s__law_likes) l16 c16 k16
  have F17 := fun_mk (st := s__law_bore) l17 c17 k17
  have F18 := fun_mk (st := s__law_bores) l18 c18 k18
  have F19 := fun_mk (st := s__law_spots) l19 c19 k19
  have F20 := fun_mk (st := s__law_records) l20 c20 k20
  have F21 := fun_mk (st := s__law_lines) l21 c21 k21
  have F22 := fun_mk (st := s__law_same) l22 c22 k22
  have F23 := fun_mk (st := s_law) l23 c23 k23
  have b0 : Binds K _ ["bore"] [] := F0.binds1 fun _ _ _ _ _ _ _ => rfl
  have b1 : Binds K _ ["bore"] [] := F1.binds1 fun _ _ _ _ _ _ _ => rfl
  have b2 : Binds K _ ["bore"] [] := F2.binds1 fun _ _ _ _ _ _ _ => rfl
  have b3 : Binds K _ ["record"] [] := F3.binds1 fun _ _ _ _ _ _ _ => rfl
  have b4 : Binds K _ ["records"] [] := F4.binds1 fun _ _ _ _ _ _ _ => rfl
  have b5 : Binds K _ ["records"] [] := F5.binds1 fun _ _ _ _ _ _ _ => rfl
  have b6 : Binds K _ ["records"] [] := F6.binds1 fun _ _ _ _ _ _ _ => rfl
  have b7 : Binds K _ ["records"] [] := F7.binds1 fun _ _ _ _ _ _ _ => rfl
  have b8 : Binds K _ ["records", "numbers"] [] := F8.binds2 fun _ _ _ _ _ _ _ _ => rfl
  have b9 : Binds K _ ["record", "number"] [] := F9.binds2 fun _ _ _ _ _ _ _ _ => rfl
  have b10 : Binds K _ ["bore"] [] := F10.binds1 fun _ _ _ _ _ _ _ => rfl
  have b11 : Binds K _ ["records", "step"] [] := F11.binds2 fun _ _ _ _ _ _ _ _ => rfl
  have b12 : Binds K _ ["records", "step"] [] := F12.binds2 fun _ _ _ _ _ _ _ _ => rfl
  have b13 : Binds K _ ["records", "step"] [] := F13.binds2 fun _ _ _ _ _ _ _ _ => rfl
  have b14 : Binds K _ ["_law_script", "_law_k", "_law_sizes"] [] := F14.binds3 fun _ _ _ _ _ _ _ _ _ => rfl
  have b15 : Binds K _ ["_law_script", "_law_k", "_law_many"] [] := F15.binds3 fun _ _ _ _ _ _ _ _ _ => rfl
  have b16 : Binds K _ ["_law_script", "_law_k", "_law_marks"] [] := F16.binds3 fun _ _ _ _ _ _ _ _ _ => rfl
  have b17 : Binds K _ ["_law_script", "_law_k", "_law_name", "_law_place", "_law_marks"] [] := F17.binds5 fun _ _ _ _ _ _ _ _ _ _ _ => rfl
  have b18 : Binds K _ ["_law_script", "_law_most"] [] := F18.binds2 fun _ _ _ _ _ _ _ _ => rfl
  have b19 : Binds K _ ["_law_records_here"] [] := F19.binds1 fun _ _ _ _ _ _ _ => rfl
  have b20 : Binds K _ ["_law_script"] [] := F20.binds1 fun _ _ _ _ _ _ _ => rfl
  have b21 : Binds K _ ["_law_records_here"] [] := F21.binds1 fun _ _ _ _ _ _ _ => rfl
  have b22 : Binds K _ ["_law_found", "_law_due"] [] := F22.binds2 fun _ _ _ _ _ _ _ _ => rfl
  have b23 : Binds K _ ["_law_script"] [] := F23.binds1 fun _ _ _ _ _ _ _ => rfl
  have T : Txt K mg ⟨f0, _, f1, _, f2, _, f3, _, f4, _, f5, _, f6, _, f7, _, f8, _, f9, _, f10, _, f11, _, f12, _, f13, _, f14, _, f15, _, f16, _, f17, _, f18, _, f19, _, f20, _, f21, _, f22, _, f23, _⟩ := ⟨F0, b0, PySem.W.mg_of X G a0, F1, b1, PySem.W.mg_of X G a1, F2, b2, PySem.W.mg_of X G a2, F3, b3, PySem.W.mg_of X G a3, F4, b4, PySem.W.mg_of X G a4, F5, b5, PySem.W.mg_of X G a5, F6, b6, PySem.W.mg_of X G a6, F7, b7, PySem.W.mg_of X G a7, F8, b8, PySem.W.mg_of X G a8, F9, b9, PySem.W.mg_of X G a9, F10, b10, PySem.W.mg_of X G a10, F11, b11, PySem.W.mg_of X G a11, F12, b12, PySem.W.mg_of X G a12, F13, b13, PySem.W.mg_of X G a13, F14, b14, PySem.W.mg_of X G a14, F15, b15, PySem.W.mg_of X G a15, F16, b16, PySem.W.mg_of X G a16, F17, b17, PySem.W.mg_of X G a17, F18, b18, PySem.W.mg_of X G a18, F19, b19, PySem.W.mg_of X G a19, F20, b20, PySem.W.mg_of X G a20, F21, b21, PySem.W.mg_of X G a21, F22, b22, PySem.W.mg_of X G a22, F23, b23, PySem.W.mg_of X G a23, PySem.W.mg_none_of X G z0, PySem.W.mg_none_of X G z1, PySem.W.mg_none_of X G z2, PySem.W.mg_none_of X G z3, PySem.W.mg_none_of X G z4, PySem.W.mg_none_of X G z5, PySem.W.mg_none_of X G z6, PySem.W.mg_none_of X G z7, PySem.W.mg_none_of X G z8, PySem.W.mg_none_of X G z9, PySem.W.mg_none_of X G z10⟩
  exact ⟨_, fun s v => .of_eq rfl, fun base _ _ => ok_law T⟩
theorem walk {l : PySem.W.OpenLaw} {q : Program} {loose : List Str} {XP : (Str → Option Value) → Heap → Prop} {YP : World → Heap → Prop} {d : DefRec} {K : Params → PySem.W.Frag} (hn : l.most = some 63) (hdf : d.params.defaults = [])
    (hY : ∀ (w : World) (h : Heap), YP w h → (K w.params).In h)
    (F : ∀ (w : World) (mg : Str → Option Value) (fa : Addr) (h : Heap), (K w.params).In h → h.Ns mainGlobals mg → mg d.name = some (.ref fa) →
      ∃ fd : FuncData, (∀ (s : Shared) (u : Value), BindsTo s fd ⟨[u], []⟩ [("_law_script", u)]) ∧ ∀ base : Heap, (K w.params).In base → base.Ns mainGlobals mg → FnOk l.prog w (K w.params) mg base CX0 7 fa fd ["_law_script"] (spLaw (K w.params))) :
    PySem.W.WalkO q loose XP YP l.row.toRowW d [] (fun f vs => PySem.call f vs) :=
  L2.walk_of (n := 63) (k := 7) (x := "_law_script") (CX := fun _ => CX0) (sp := fun w => spLaw (K w.params)) hn (by decide) hdf ⟨rfl, by decide, by decide⟩ hY F (fun _ _ a ns hl hO hS => spLaw_of a ns hl hS hO) fun _ _ _ _ _ z => z
end Bo
theorem PySem.W.Fast.te6466399197805937470 : True := trivial
noncomputable def PySem.W.Fast.tw10428395328276967048 : PySem.Program := PySem.Challenge.pw_bores_k46_steps_of_records
theorem PySem.W.Fast.te10428395328276967048 : PySem.Challenge.pw_bores_k46_steps_of_records = PySem.W.Fast.tw10428395328276967048 := rfl
open PySem PySem.W PyProof.Rows
set_option maxRecDepth 100000 in
set_option maxHeartbeats 0 in
theorem PySem.Challenge.cw_bores_k46_steps_of_records_holds : PySem.Challenge.rw_bores_k46_steps_of_records.Holds := by
  w_on; o_law; k_head; (case hw => w_witness2)
  k_fill
  refine Bo.walk (l := PySem.Challenge.rw_bores_k46_steps_of_records) rfl rfl (fun w h Y => PySem.W.kIn_of Y) ?F
  case F =>
    intro w mg fa h KX G hmg
    refine' Bo.all_mk KX G hmg ?a0 ?l0 ?c0 ?k0 ?a1 ?l1 ?c1 ?k1 ?a2 ?l2 ?c2 ?k2 ?a3 ?l3 ?c3 ?k3 ?a4 ?l4 ?c4 ?k4 ?a5 ?l5 ?c5 ?k5 ?a6 ?l6 ?c6 ?k6 ?a7 ?l7 ?c7 ?k7 ?a8 ?l8 ?c8 ?k8 ?a9 ?l9 ?c9 ?k9 ?a10 ?l10 ?c10 ?k10 ?a11 ?l11 ?c11 ?k11 ?a12 ?l12 ?c12 ?k12 ?a13 ?l13 ?c13 ?k13 ?a14 ?l14 ?c14 ?k14 ?a15 ?l15 ?c15 ?k15 ?a16 ?l16 ?c16 ?k16 ?a17 ?l17 ?c17 ?k17 ?a18 ?l18 ?c18 ?k18 ?a19 ?l19 ?c19 ?k19 ?a20 ?l20 ?c20 ?k20 ?a21 ?l21 ?c21 ?k21 ?a22 ?l22 ?c22 ?k22 ?a23 ?l23 ?c23 ?k23 ?z0 ?z1 ?z2 ?z3 ?z4 ?z5 ?z6 ?z7 ?z8 ?z9 ?z10
    (case a0 => k_is); (case l0 => k_is); (case c0 => k_is); (case k0 => k_is); (case a1 => k_is); (case l1 => k_is); (case c1 => k_is); (case k1 => k_is)
    (case a2 => k_is); (case l2 => k_is); (case c2 => k_is); (case k2 => k_is); (case a3 => k_is); (case l3 => k_is); (case c3 => k_is); (case k3 => k_is)
    (case a4 => k_is); (case l4 => k_is); (case c4 => k_is); (case k4 => k_is); (case a5 => k_is); (case l5 => k_is); (case c5 => k_is); (case k5 => k_is)
    (case a6 => k_is); (case l6 => k_is); (case c6 => k_is); (case k6 => k_is); (case a7 => k_is); (case l7 => k_is); (case c7 => k_is); (case k7 => k_is)
    (case a8 => k_is); (case l8 => k_is); (case c8 => k_is); (case k8 => k_is); (case a9 => k_is); (case l9 => k_is); (case c9 => k_is); (case k9 => k_is)
    (case a10 => k_is); (case l10 => k_is); (case c10 => k_is); (case k10 => k_is); (case a11 => k_is); (case l11 => k_is); (case c11 => k_is); (case k11 => k_is)
    (case a12 => k_is); (case l12 => k_is); (case c12 => k_is); (case k12 => k_is); (case a13 => k_is); (case l13 => k_is); (case c13 => k_is); (case k13 => k_is)
    (case a14 => k_is); (case l14 => k_is); (case c14 => k_is); (case k14 => k_is); (case a15 => k_is); (case l15 => k_is); (case c15 => k_is); (case k15 => k_is)
    (case a16 => k_is); (case l16 => k_is); (case c16 => k_is); (case k16 => k_is); (case a17 => k_is); (case l17 => k_is); (case c17 => k_is); (case k17 => k_is)
    (case a18 => k_is); (case l18 => k_is); (case c18 => k_is); (case k18 => k_is); (case a19 => k_is); (case l19 => k_is); (case c19 => k_is); (case k19 => k_is)
    (case a20 => k_is); (case l20 => k_is); (case c20 => k_is); (case k20 => k_is); (case a21 => k_is); (case l21 => k_is); (case c21 => k_is); (case k21 => k_is)
    (case a22 => k_is); (case l22 => k_is); (case c22 => k_is); (case k22 => k_is); (case a23 => k_is); (case l23 => k_is); (case c23 => k_is); (case k23 => k_is)
    (case z0 => k_is); (case z1 => k_is); (case z2 => k_is); (case z3 => k_is); (case z4 => k_is); (case z5 => k_is); (case z6 => k_is); (case z7 => k_is)
    (case z8 => k_is); (case z9 => k_is); (case z10 => k_is)
