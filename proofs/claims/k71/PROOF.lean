import PyProof.Rows.All
import Wide.All
import OpenK.AllK
import Wide.FinOn
import Lean
import PyProof.EqAt
import PyProof.EqKinds
import PyProof.TupleCall
import PyProof.ZipIter
import PyProof.WalksEnum
import PyProof.EnumMake
import PyProof.NeKinds
import OpenK.KTop
import PyProof.Rows.StrWeight2
import PyProof.SumWalk
import PyProof.SliceList
import PyProof.Rows.SortWalk
import PyProof.SeqI3
import PyProof.IsRules
import PySem.Challenge.RW_windchest_k71_whole_any_tick
set_option Elab.async false
set_option linter.all false
set_option maxRecDepth 100000
namespace L2
open PySem PySem.Spec PyProof.Rows

/-- a key: an int or a str -/
abbrev Key := Sum Int Str
def keyIs : Key → Value → Bool
  | .inl k, v => Value.isInt k v
  | .inr x, v => Value.isStrOf x v
def keyH (w : World) : Key → Int
  | .inl k => hashInt k
  | .inr x => hashStr w x
theorem keyIs_shape : ∀ {k : Key} {v : Value}, keyIs k v = true → (∃ i t, k = Sum.inl i ∧ v = Value.int i t) ∨ (∃ x t, k = Sum.inr x ∧ v = Value.str x t)
  | .inl i, v, h => by
    obtain ⟨t, e⟩ := Value.isInt_shape (k := i) (v := v) h
    exact .inl ⟨i, t, rfl, e⟩
  | .inr x, v, h => by
    obtain ⟨t, e⟩ := Value.isStrOf_shape (x := x) (v := v) h
    exact .inr ⟨x, t, rfl, e⟩
theorem key_ll (a b : Int) : decide ((Sum.inl a : Key) = Sum.inl b) = (a == b) := by
  by_cases e : a = b
  · subst e; simp
  · have h : ¬ (Sum.inl a : Key) = Sum.inl b := fun q => e (Sum.inl.inj q)
    rw [decide_eq_false h]
    exact (beq_eq_false_iff_ne.mpr e).symm
theorem key_rr (a b : Str) : decide ((Sum.inr a : Key) = Sum.inr b) = decide (a = b) := by
  by_cases e : a = b
  · subst e; simp
  · have h : ¬ (Sum.inr a : Key) = Sum.inr b := fun q => e (Sum.inr.inj q)
    rw [decide_eq_false h, decide_eq_false e]
theorem key_lr (a : Int) (b : Str) : decide ((Sum.inl a : Key) = Sum.inr b) = false := decide_eq_false (fun q => nomatch q)
theorem key_rl (a : Str) (b : Int) : decide ((Sum.inr a : Key) = Sum.inl b) = false := decide_eq_false (fun q => nomatch q)

def mixKind (prog : Program) (w : World) : PySem.KeyKind prog w Key where
  is := keyIs
  hash := keyH w
  inj := fun v a b ha hb => by
    rcases keyIs_shape ha with ⟨i, t, rfl, rfl⟩ | ⟨x, t, rfl, rfl⟩
    · rcases keyIs_shape hb with ⟨j, u, rfl, e⟩ | ⟨y, u, rfl, e⟩
      · injection e with e1 _; rw [e1]
      · exact nomatch e
    · rcases keyIs_shape hb with ⟨j, u, rfl, e⟩ | ⟨y, u, rfl, e⟩
      · exact nomatch e
      · injection e with e1 _; rw [e1]
  byValue := fun k v h => by
    rcases keyIs_shape h with ⟨i, t, rfl, rfl⟩ | ⟨x, t, rfl, rfl⟩ <;> rfl
  pyHash := fun hv h => by
    rcases keyIs_shape hv with ⟨i, t, rfl, rfl⟩ | ⟨x, t, rfl, rfl⟩
    · exact wpAny_pyHash_int h
    · exact wpAny_pyHash_str h
  eqBool := fun hu hv h => by
    rcases keyIs_shape hu with ⟨i, t, rfl, rfl⟩ | ⟨x, t, rfl, rfl⟩
    · rcases keyIs_shape hv with ⟨j, u, rfl, rfl⟩ | ⟨y, u, rfl, rfl⟩
      · rw [key_ll] at h; exact wpAny_eqBool_int h
      · rw [key_lr] at h; exact SeqAt.EqAt.int_str i t y u _ _ _ _ h
    · rcases keyIs_shape hv with ⟨j, u, rfl, rfl⟩ | ⟨y, u, rfl, rfl⟩
      · rw [key_rl] at h; exact SeqAt.EqAt.str_int x t j u _ _ _ _ h
      · rw [key_rr] at h; exact wpAny_eqBool_str h
  «strs» := fun k x t v h => by
    rcases keyIs_shape h with ⟨i, u, rfl, e⟩ | ⟨y, u, rfl, e⟩
    · exact nomatch e
    · injection e with e1 _
      subst e1
      cases v <;> rfl

end L2

namespace L2
open PySem PySem.Spec PyProof.Rows

/-- a value, without the heap -/
inductive V where
  | non | bl (b : Bool) | int (i : Int) | str (x : Str) | byt (b : Array UInt8) | flt (b : UInt64) | ref (a : Addr) | ty (n : String)
  deriving DecidableEq

def RelV : V → Value → Prop
  | .non, u => u = Value.none
  | .bl b, u => u = Value.bool b
  | .int i, u => ∃ t, u = Value.int i t
  | .str x, u => ∃ t, u = Value.str x t
  | .byt b, u => ∃ t, u = Value.bytes b t
  | .flt b, u => ∃ t, u = Value.float b t
  | .ref a, u => u = Value.ref a
  | .ty n, u => u = Value.type n

abbrev Vals : List V → List Value → Prop := Paired RelV
theorem Vals.length {xs : List V} {us : List Value} (r : Vals xs us) : xs.length = us.length := Paired.length r
theorem Vals.get : ∀ {xs : List V} {us : List Value} {i : Nat} {x : V}, Vals xs us → xs[i]? = some x → ∃ u, us[i]? = some u ∧ RelV x u
  | _, _, _, _, .nil, e => by simp at e
  | _, _, 0, _, .cons r _, e => by simp at e; subst e; exact ⟨_, rfl, r⟩
  | _, _, i + 1, x, .cons _ t, e => by
    obtain ⟨u, h1, h2⟩ := Vals.get (i := i) (x := x) t (by simpa using e)
    exact ⟨u, by simpa using h1, h2⟩
theorem Vals.set {x : V} {u : Value} (r : RelV x u) : ∀ {xs : List V} {us : List Value} (i : Nat), Vals xs us → Vals (xs.set i x) (us.set i u)
  | _, _, _, .nil => .nil
  | _, _, 0, .cons _ t => .cons r t
  | _, _, i + 1, .cons q t => .cons q (Vals.set r i t)
theorem Vals.append : ∀ {xs ys : List V} {us ws : List Value}, Vals xs us → Vals ys ws → Vals (xs ++ ys) (us ++ ws)
  | _, _, _, _, .nil, s => s
  | _, _, _, _, .cons r t, s => .cons r (Vals.append t s)
theorem Vals.take : ∀ {xs : List V} {us : List Value} (n : Nat), Vals xs us → Vals (xs.take n) (us.take n)
  | _, _, 0, _ => .nil
  | _, _, _ + 1, .nil => .nil
  | _, _, n + 1, .cons r t => .cons r (Vals.take n t)
theorem Vals.drop : ∀ {xs : List V} {us : List Value} (n : Nat), Vals xs us → Vals (xs.drop n) (us.drop n)
  | _, _, 0, r => r
  | _, _, _ + 1, .nil => .nil
  | _, _, n + 1, .cons _ t => Vals.drop n t
def RelO : Option V → Option Value → Prop
  | some v, some u => RelV v u
  | none, none => True
  | _, _ => False
def KV {κ : Type} : List (κ × V) → List (κ × Value) → Prop := Paired fun (p : κ × V) (q : κ × Value) => p.1 = q.1 ∧ RelV p.2 q.2

/-- a key of a dict (00_mix): an int or a text -/
def kV : Key → V
  | .inl i => .int i
  | .inr x => .str x

/-- what stands at a tracked address -/
inductive HO where
  /-- a list -/
  | lst (xs : List V)
  /-- a tuple (never changes) -/
  | tup (xs : List V)
  /-- a dict whose keys are ints and texts; one whose keys are tuples of ints and texts (the empty one is both) -/
  | dK (kvs : List (Key × V)) | dT (kvs : List (List Key × V))
  /-- a set of ints: its members, its size -/
  | set (S : Int → Bool) (n : Nat)
  /-- an instance of the class at C, its dict at dx, its attributes -/
  | ins (C dx : Addr) (fs : List (Str × V))
  /-- the dict of the instance at x -/
  | own (x : Addr)
  /-- the dict of an exception -/
  | xd (fs : List (Str × V))
  /-- a bound method, f of x -/
  | met (f x : Addr)
  /-- a range object lo, lo + 1, .. below hi -/
  | rng (lo hi : Int)
  /-- a thing that is known to the object (the script; a dict while a loop walks it): read, never written while it is so -/
  | frz (o : Obj) (u : HO)
  /-- a code object's table -/
  | tbl (ps : Array Value)
  /-- any other thing, by what is true of its one object (a def of one's own: SetO a S n := HO.ext fun h => ..) -/
  | ext (φ : Heap → Prop)

abbrev Hp := Addr → Option HO
def upd (H : Hp) (a : Addr) (o : HO) : Hp := fun b => if b = a then some o else H b
theorem upd_same {H : Hp} {a : Addr} {o : HO} : upd H a o a = some o := by unfold upd; rw [if_pos rfl]
theorem upd_ne {H : Hp} {a b : Addr} {o : HO} (h : b ≠ a) : upd H a o b = H b := by unfold upd; rw [if_neg h]
/-- two objects of different content stand apart -/
theorem ne_of {H : Hp} {a b : Addr} {o u : HO} (h : H a = some o) (h' : H b = some u) (d : o ≠ u) : a ≠ b := by
  intro e; subst e; rw [h] at h'; exact d (Option.some.inj h')
theorem ne_of_none {H : Hp} {a b : Addr} {o : HO} (h : H a = some o) (h' : H b = none) : a ≠ b := by
  intro e; subst e; rw [h] at h'; cases h'

section
variable (P : Program) (w : World)
def ObjOk (H : Hp) (h : Heap) (a : Addr) : HO → Prop
  | .lst xs => xs.length ≤ sizeLine ∧ ∃ (its : List Value) (n : Nat), Vals xs its ∧ h.get? a = some { cls := .type "list", data := .seq its.toArray n }
  | .tup xs => xs.length ≤ sizeLine ∧ ∃ its : List Value, Vals xs its ∧ IsTup h a its.toArray
  | .dK kvs => kvs.length ≤ sizeLine ∧ (a == sysModules) = false ∧ ∃ vs, KV kvs vs ∧ h.DictOf (mixKind P w) a vs
  | .dT kvs => kvs.length ≤ sizeLine ∧ (a == sysModules) = false ∧ ∃ xs : List (List Key × Addr × Value),
      Paired (fun (p : List Key × V) (q : List Key × Addr × Value) => p.1 = q.1 ∧ H q.2.1 = some (.tup (p.1.map kV)) ∧ RelV p.2 q.2.2) kvs xs ∧
      ∃ o es ep, h.get? a = some o ∧ o.ExactDict ∧ o.data = .dict es ep ∧ es.toList = xs.map (entryOfKey (tupleKind (mixKind P w))) ∧ (xs.map (·.1)).Nodup
  | .set S n => h.SetOf (intKind P w) a S n
  | .ins C dx fs => H dx = some (.own a) ∧ fs.length ≤ 1000 ∧ dx ≠ a ∧ h.get? a = some (PySem.W.instObj C dx) ∧
      ∃ mA, h.Ns1 dx mA ∧ (∀ f, RelO (fs.lookup f) (mA f)) ∧ PySem.Within mA (fs.map (·.1))
  | .own _ => ∃ o, h.get? a = some o
  | .xd fs => ∃ mA, h.Ns1 a mA ∧ ∀ f, RelO (fs.lookup f) (mA f)
  | .rng lo hi => ∃ t u v, h.get? a = some { cls := .type "range", data := .fields #[.int lo t, .int hi u, .int 1 v] }
  | .frz o u => h.get? a = some o ∧ ObjOk H h a u
  | .tbl ps => h.get? a = some { cls := .none, data := .fields ps }
  | .met f x => h.get? a = some (PySem.W.methodObj (.ref f) (.ref x))
  | .ext φ => φ h ∧ (∃ o, h.get? a = some o) ∧ ∀ h1 h2 : Heap, φ h1 → (∀ o, h1.get? a = some o → h2.get? a = some o) → φ h2
/-- the abstract heap is held -/
def HOk (H : Hp) (h : Heap) : Prop := ∀ a o, H a = some o → ObjOk P w H h a o
end

section
variable {P : Program} {w : World} {H H' : Hp} {h h' : Heap} {a : Addr} {o : HO}
theorem ObjOk.lt (x : ObjOk P w H h a o) : a < h.objs.size := by
  cases o with
  | lst xs => obtain ⟨_, _, _, _, e⟩ := x; exact Heap.lt_size e
  | tup xs => obtain ⟨_, _, _, p⟩ := x; exact p.lt
  | dK kvs => obtain ⟨_, _, _, _, o, _, _, e, _⟩ := x; exact Heap.lt_size e
  | dT kvs => obtain ⟨_, _, _, _, o, _, _, e, _⟩ := x; exact Heap.lt_size e
  | set S n => obtain ⟨o, _, _, _, e, _⟩ := x; exact Heap.lt_size e
  | ins C dx fs => obtain ⟨_, _, _, e, _⟩ := x; exact Heap.lt_size e
  | own y => obtain ⟨_, e⟩ := x; exact Heap.lt_size e
  | xd fs => obtain ⟨_, ⟨_, _, _, e, _⟩, _⟩ := x; exact Heap.lt_size e
  | rng lo hi => obtain ⟨_, _, _, e⟩ := x; exact Heap.lt_size e
  | frz ob u => obtain ⟨e, _⟩ := x; exact Heap.lt_size e
  | tbl ps => exact Heap.lt_size (show h.get? a = some _ from x)
  | met f y => exact Heap.lt_size (show h.get? a = some _ from x)
  | ext φ => obtain ⟨_, ⟨_, e⟩, _⟩ := x; exact Heap.lt_size e
theorem Paired.mapP {α β : Type} {F G : α → β → Prop} : ∀ {l₁ : List α} {l₂ : List β}, Paired F l₁ l₂ → (∀ a b, F a b → G a b) → Paired G l₁ l₂
  | _, _, .nil, _ => .nil
  | _, _, .cons r t, f => .cons (f _ _ r) (Paired.mapP t f)
/-- what an object's description leans on: its own object, its own dict, the tuples -/
theorem ObjOk.stay (x : ObjOk P w H h a o) (k : ∀ b u, (b = a ∨ H b = some (.own a)) → h.get? b = some u → h'.get? b = some u)
    (ho : ∀ b, H b = some (.own a) → H' b = some (.own a)) (ht : ∀ b xs, H b = some (.tup xs) → H' b = some (.tup xs)) : ObjOk P w H' h' a o := by
  induction o with
  | lst xs => obtain ⟨z, its, n, r, e⟩ := x; exact ⟨z, its, n, r, k _ _ (.inl rfl) e⟩
  | tup xs => obtain ⟨z, its, r, ob, e, c⟩ := x; exact ⟨z, its, r, ob, k _ _ (.inl rfl) e, c⟩
  | dK kvs => obtain ⟨z, y, vs, r, ob, es, ep, e, c⟩ := x; exact ⟨z, y, vs, r, ob, es, ep, k _ _ (.inl rfl) e, c⟩
  | dT kvs =>
    obtain ⟨z, y, xs, r, ob, es, ep, e, c⟩ := x
    exact ⟨z, y, xs, Paired.mapP r fun p q z => ⟨z.1, ht _ _ z.2.1, z.2.2⟩, ob, es, ep, k _ _ (.inl rfl) e, c⟩
  | set S n => obtain ⟨ob, es, ep, t, e, c⟩ := x; exact ⟨ob, es, ep, t, k _ _ (.inl rfl) e, c⟩
  | ins C dx fs =>
    obtain ⟨d, z, ne, e, mA, ⟨od, es, ep, e2, c⟩, r⟩ := x
    exact ⟨ho _ d, z, ne, k _ _ (.inl rfl) e, mA, ⟨od, es, ep, k _ _ (.inr d) e2, c⟩, r⟩
  | own y => obtain ⟨ob, e⟩ := x; exact ⟨ob, k _ _ (.inl rfl) e⟩
  | xd fs => obtain ⟨mA, ⟨od, es, ep, e, c⟩, r⟩ := x; exact ⟨mA, ⟨od, es, ep, k _ _ (.inl rfl) e, c⟩, r⟩
  | rng lo hi => obtain ⟨t, u, v, e⟩ := x; exact ⟨t, u, v, k _ _ (.inl rfl) e⟩
  | frz ob u ih => obtain ⟨e, q⟩ := x; exact ⟨k _ _ (.inl rfl) e, ih q⟩
  | tbl ps =>
    have e : h.get? a = some { cls := .none, data := .fields ps } := x
    show h'.get? a = some { cls := .none, data := .fields ps }
    exact k a _ (.inl rfl) e
  | met f y =>
    have e : h.get? a = some (PySem.W.methodObj (.ref f) (.ref y)) := x
    show h'.get? a = some (PySem.W.methodObj (.ref f) (.ref y))
    exact k a _ (.inl rfl) e
  | ext φ => obtain ⟨p, ⟨o, e⟩, st⟩ := x; exact ⟨st _ _ p fun o q => k _ _ (.inl rfl) q, ⟨o, k _ _ (.inl rfl) e⟩, st⟩
theorem HOk.lt (x : HOk P w H h) (e : H a = some o) : a < h.objs.size := (x a o e).lt
theorem HOk.fresh (x : HOk P w H h) (e : h.objs.size ≤ a) : H a = none := by
  cases q : H a with
  | none => rfl
  | some u => exact absurd (Nat.lt_of_lt_of_le (x.lt q) e) (Nat.lt_irrefl _)
/-- every object of the heap is kept -/
theorem HOk.kept (x : HOk P w H h) (k : ∀ b u, h.get? b = some u → h'.get? b = some u) : HOk P w H h' := fun a o e =>
  (x a o e).stay (fun b u _ q => k b u q) (fun _ q => q) fun _ _ q => q
/-- a new object is laid and tracked -/
theorem HOk.laid (x : HOk P w H h) (k : ∀ b u, h.get? b = some u → h'.get? b = some u) (hp : h.objs.size ≤ a) (new : ObjOk P w (upd H a o) h' a o) : HOk P w (upd H a o) h' := fun b u e => by
  have hn := x.fresh hp
  by_cases hb : b = a
  · subst hb; rw [upd_same] at e; cases e; exact new
  · rw [upd_ne hb] at e
    exact (x b u e).stay (fun c v _ q => k c v q) (fun c q => by rw [upd_ne (ne_of_none q hn)]; exact q) fun c xs q => by rw [upd_ne (ne_of_none q hn)]; exact q
end

/-- what may be read as u: it is u, or a known u -/
def Rd (H : Hp) (a : Addr) (u : HO) : Prop := H a = some u ∨ ∃ o, H a = some (.frz o u)
theorem Rd.ok {P : Program} {w : World} {H : Hp} {h : Heap} {a : Addr} {u : HO} (r : Rd H a u) (x : HOk P w H h) : ObjOk P w H h a u := by
  rcases r with r | ⟨o, r⟩
  · exact x a u r
  · obtain ⟨_, q⟩ := x a _ r
    exact q
/-- what may be written -/
def Mut : Option HO → Prop
  | some (.lst _) => True
  | some (.dK _) => True
  | some (.dT _) => True
  | some (.set _ _) => True
  | some (.ins _ _ _) => True
  | some (.ext _) => True
  | _ => False
section
variable {P : Program} {w : World} {H : Hp} {h h' : Heap} {x e : Addr} {o' : HO}
/-- the object at e is changed: x itself, or the dict of the instance x -/
theorem HOk.write (ok : HOk P w H h) (mu : Mut (H x)) (he : e = x ∨ H e = some (.own x)) (k : ∀ b u, b ≠ e → h.get? b = some u → h'.get? b = some u) (heo : ∃ u, h'.get? e = some u)
    (new : ObjOk P w (upd H x o') h' x o') : HOk P w (upd H x o') h' := fun b u q => by
  have nown : ∀ c y, H c = some (.own y) → c ≠ x := fun c y r z => by subst z; rw [r] at mu; exact mu
  have ntup : ∀ c xs, H c = some (.tup xs) → c ≠ x := fun c xs r z => by subst z; rw [r] at mu; exact mu
  by_cases hb : b = x
  · subst hb; rw [upd_same] at q; cases q; exact new
  · rw [upd_ne hb] at q
    by_cases hbe : b = e
    · have q' : H b = some (.own x) := by
        rcases he with z | z
        · exact absurd (hbe.trans z) hb
        · rw [hbe]; exact z
      rw [q] at q'; cases q'
      obtain ⟨v, hv⟩ := heo
      exact ⟨v, by rw [hbe]; exact hv⟩
    · refine (ok b u q).stay (fun c v hc r => k c v ?_ r) (fun c r => by rw [upd_ne (nown c b r)]; exact r) fun c xs r => by rw [upd_ne (ntup c xs r)]; exact r
      rcases hc with rfl | hc
      · exact hbe
      · rintro rfl
        rcases he with z | z
        · exact nown c b hc z
        · rw [hc] at z; cases z; exact hb rfl
end

structure Un (fs ex : List Addr) (H H' : Hp) (h h' : Heap) : Prop where
  keep : ∀ b o, h.get? b = some o → H b = none → b ∉ fs → b ∉ ex → h'.get? b = some o
  slot : ∀ b o, h.get? b = some o → H b = none → b ∈ fs → b ∉ ex → ∃ sl, h'.get? b = some { o with slots := sl }
  free : ∀ b o, h.get? b = some o → H b = none → b ∉ ex → H' b = none
  there : ∀ b o, h.get? b = some o → b ∉ ex → ∃ o', h'.get? b = some o'
  tups : ∀ b xs, H b = some (.tup xs) → H' b = some (.tup xs)
  frzs : ∀ b o u, H b = some (.frz o u) → H' b = some (.frz o u)
  tbls : ∀ b ps, H b = some (.tbl ps) → ∃ more, H' b = some (.tbl (ps ++ more))
section
variable {fs fs' ex ex' : List Addr} {H H1 H2 : Hp} {h h1 h2 h' : Heap} {a x e : Addr} {o : HO}
theorem Un.any (u : Un fs ex H H1 h h1) {b : Addr} {ob : Obj} (q : h.get? b = some ob) (n : H b = none) (hx : b ∉ ex) : ∃ sl, h1.get? b = some { ob with slots := sl } := by
  by_cases hb : b ∈ fs
  · exact u.slot b ob q n hb hx
  · exact ⟨ob.slots, u.keep b ob q n hb hx⟩
theorem Un.kept (k : ∀ b u, h.get? b = some u → h'.get? b = some u) : Un fs ex H H h h' :=
  ⟨fun b ob q _ _ _ => k b ob q, fun b ob q _ _ _ => ⟨ob.slots, k b ob q⟩, fun _ _ _ n _ => n, fun b ob q _ => ⟨ob, k b ob q⟩, fun _ _ q => q, fun _ _ _ q => q, fun _ ps q => ⟨#[], by rw [q]; simp⟩⟩
theorem Un.refl : Un fs ex H H h h := Un.kept fun _ _ q => q
theorem Un.laid (k : ∀ b u, h.get? b = some u → h'.get? b = some u) (hp : h.objs.size ≤ a) (hn : H a = none) : Un fs ex H (upd H a o) h h' where
  keep := fun b u q _ _ _ => k b u q
  slot := fun b u q _ _ _ => ⟨u.slots, k b u q⟩
  free := fun b u q n _ => by rw [upd_ne (Nat.ne_of_lt (Nat.lt_of_lt_of_le (Heap.lt_size q) hp))]; exact n
  there := fun b u q _ => ⟨u, k b u q⟩
  tups := fun b xs q => by rw [upd_ne (ne_of_none q hn)]; exact q
  frzs := fun b u xs q => by rw [upd_ne (ne_of_none q hn)]; exact q
  tbls := fun b ps q => ⟨#[], by rw [upd_ne (ne_of_none q hn), q]; simp⟩
theorem Un.write (mu : Mut (H x)) (he : e = x ∨ H e = some (.own x)) (k : ∀ b u, b ≠ e → h.get? b = some u → h'.get? b = some u) (heo : ∃ u, h'.get? e = some u) : Un fs ex H (upd H x o) h h' := by
  have hx : ∀ b, H b = none → b ≠ x := fun b n z => by subst z; rw [n] at mu; exact mu
  have hb : ∀ b, H b = none → b ≠ e := fun b n z => by
    subst z
    rcases he with r | r
    · exact hx b n r
    · rw [n] at r; cases r
  have hm : ∀ b u, H b = some u → ¬ Mut (some u) → b ≠ x := fun b u q nm z => by subst z; rw [q] at mu; exact nm mu
  refine ⟨fun b u q n _ _ => k b u (hb b n) q, fun b u q n _ _ => ⟨u.slots, k b u (hb b n) q⟩, fun b u q n _ => by rw [upd_ne (hx b n)]; exact n, fun b u q _ => ?_,
    fun b xs q => by rw [upd_ne (hm b _ q fun z => z)]; exact q, fun b u xs q => by rw [upd_ne (hm b _ q fun z => z)]; exact q, fun b ps q => ⟨#[], by rw [upd_ne (hm b _ q fun z => z), q]; simp⟩⟩
  by_cases hbe : b = e
  · subst hbe; exact heo
  · exact ⟨u, k b u hbe q⟩
end

def trk (h : Heap) (H : Hp) : List Addr := (List.range h.objs.size).filter fun a => (H a).isSome
def hidT (h : Heap) (H : Hp) : Heap := PySem.W.hideAll h (trk h H)
theorem hidT_size (h : Heap) (H : Hp) : (hidT h H).objs.size = h.objs.size := PySem.W.hideAll_size _ _
theorem hidT_get {h : Heap} {H : Hp} {b : Addr} {o : Obj} (e : h.get? b = some o) (n : H b = none) : (hidT h H).get? b = some o :=
  PySem.W.hideAll_get _ e fun hm => by
    have q : (H b).isSome = true := (List.mem_filter.mp hm).2
    rw [n] at q; simp at q
theorem of_hidT {h : Heap} {H : Hp} {b : Addr} {o : Obj} (e : (hidT h H).get? b = some o) : h.get? b = some o ∧ H b = none := by
  have e' : h.get? b = some o := PySem.W.of_hideAll (trk h H) e
  refine ⟨e', ?_⟩
  cases q : H b with
  | none => rfl
  | some x =>
    have hm : b ∈ trk h H := List.mem_filter.mpr ⟨List.mem_range.mpr (Heap.lt_size e'), by simp [q]⟩
    have z : (hidT h H).get? b = none := PySem.W.hideAll_none (trk h H) hm
    rw [z] at e; cases e

def allNews (g h : Heap) (L : Addr) : List (Addr × Obj) := (List.range h.objs.size).filterMap fun a => if a = L ∨ (g.get? a).isSome = true then none else (h.get? a).map fun o => (a, o)
def rest (g h : Heap) (L d : Addr) : List (Addr × Obj) := (allNews g h L).filter fun p => decide (p.1 ≠ d)
end L2

namespace L2
open PySem PySem.Spec PyProof.Rows

/-- the module's facts, over the base: the heap at the law's entry without what is tracked there -/
structure Mod (K : PySem.W.Frag) (mg : Str → Option Value) (base : Heap) : Prop where
  kin : K.In base
  glob : base.Ns mainGlobals mg
  blt : ∃ mb, base.Ns builtinsNs mb ∧ ∀ x : Str, x ≠ "__name__" → mb x = bootBuiltins x
  nolimit : base.NoLimit

/-- the context: a def's body (or a comprehension's block) running. base: fixed through the whole law; s₀, H₀: the entry; outer: the frames whose slots others may change (a def's callers); stack: all frames that run;
   ex: iterators that were made ahead of the entry and are walked here (a comprehension's); fn: the names whose cells were made at the entry (a def: all; a comprehension's block: its own); calm: not within an except suite; pn: pins that every state bears; xe: what is wanted of an exception that leaves the code -/
structure Cx where
  prog : Program
  w : World
  K : PySem.W.Frag
  mg : Str → Option Value
  base : Heap
  A : Around
  N : List Str
  s₀ : Shared
  H₀ : Hp
  env : Env
  outer : List Env
  stack : List Env
  ex : List Addr
  fn : Str → Bool
  calm : Bool
  pn : List (Addr × Obj)
  xe : Value → Shared → Prop
/-- the callers' frames -/
def frs (l : List Env) : List Addr := l.filterMap (·.frame)
abbrev Cx.fs (X : Cx) : List Addr := frs X.outer

def Vis (sc : Scope) (x : Str) : Prop := sc.names.lookup x = some .local ∨ sc.names.lookup x = some .cell ∨ sc.names.lookup x = some .free
def Loc (sc : Scope) (x : Str) : Prop := sc.names.lookup x = some .local ∨ sc.names.lookup x = some .cell
def Look (env : Env) (h : Heap) (m : Str → Option Value) (x : Str) (u : Value) : Prop :=
  (env.kindOf x = some .local ∧ m x = some u) ∨ ((env.kindOf x = some .cell ∨ env.kindOf x = some .free) ∧ ∃ c, env.cells.lookup x = some c ∧ h.IsCell c (some u))

structure Cx.Ok (X : Cx) : Prop where
  mod : Mod X.K X.mg X.base
  kind : X.env.scope.kind = .function
  glob : X.env.globals = mainGlobals
  blt : X.env.builtins = builtinsNs
  above : X.s₀.heap.objs.size ≤ X.env.locals
  inj : ∀ x y c, X.env.cells.lookup x = some c → X.env.cells.lookup y = some c → x = y
  has : ∀ x, (X.env.kindOf x = some .cell ∨ X.env.kindOf x = some .free) → ∃ c, X.env.cells.lookup x = some c
  cab : ∀ x c, X.fn x = true → X.env.cells.lookup x = some c → X.s₀.heap.objs.size ≤ c
  hd : X.calm = true → X.A.handled = none
  frames : X.A.frames = some X.stack
  stk : X.stack = X.outer ∨ (X.stack = X.env :: X.outer ∧ X.env.frame = some X.env.locals)
  exf : ∀ b ∈ X.ex, b ≠ X.env.locals ∧ ∀ x c, X.env.cells.lookup x = some c → c ≠ b
  bs : ∀ b o, X.base.get? b = some o → X.s₀.heap.get? b = some o ∧ X.H₀ b = none
  bsz : X.base.objs.size ≤ X.s₀.heap.objs.size
  noex : ∀ b o, X.base.get? b = some o → b ∉ X.ex
  exfs : ∀ b ∈ X.ex, b ∉ X.fs
  funs : X.s₀.heap.FunFrames X.base X.outer
  frf : ∀ b ∈ X.fs, X.H₀ b = none

structure Inv (X : Cx) (pins : List (Addr × Obj)) (σ : List (Option V)) (H : Hp) (s : Shared) : Prop where
  ok : X.Ok
  os : s.os = X.s₀.os
  bare : AllBare s.gens
  base : Un X.fs X.ex X.H₀ H X.s₀.heap s.heap
  loc : ∃ m, s.heap.Ns X.env.locals m ∧ ∀ (i : Nat) (x : Str) (v : V), X.N[i]? = some x → σ[i]? = some (some v) → Vis X.env.scope x → ∃ u, RelV v u ∧ Look X.env s.heap m x u
  cell : ∀ x c, X.env.cells.lookup x = some c → ∃ v, s.heap.IsCell c v
  free : H X.env.locals = none
  freeC : ∀ x c, X.env.cells.lookup x = some c → H c = none
  pin : ∀ p ∈ X.pn ++ pins, s.heap.get? p.1 = some p.2 ∧ H p.1 = none ∧ p.1 ≠ X.env.locals ∧ p.1 ∉ X.fs ∧ ∀ v, p.2.data ≠ .cell v
  hok : HOk X.prog X.w H s.heap
  len : σ.length = X.N.length

section
variable {X : Cx} {pins : List (Addr × Obj)} {σ : List (Option V)} {H H' : Hp} {s : Shared} {h' : Heap}

theorem Cx.Ok.nofr (ok : X.Ok) {b : Addr} {o : Obj} (e : X.base.get? b = some o) : b ∉ X.fs := fun hb => by
  have := (ok.funs.mem hb).1
  rw [e] at this; cases this
theorem Inv.bs (I : Inv X pins σ H s) : ∀ b o, X.base.get? b = some o → s.heap.get? b = some o ∧ H b = none := fun b o e =>
  ⟨I.base.keep b o (I.ok.bs b o e).1 (I.ok.bs b o e).2 (I.ok.nofr e) (I.ok.noex b o e), I.base.free b o (I.ok.bs b o e).1 (I.ok.bs b o e).2 (I.ok.noex b o e)⟩
theorem Inv.bk (I : Inv X pins σ H s) : ∀ b o, X.base.get? b = some o → s.heap.get? b = some o := fun b o e => (I.bs b o e).1
theorem Inv.mod (I : Inv X pins σ H s) : Mod X.K X.mg X.base := I.ok.mod
theorem Inv.kIn (I : Inv X pins σ H s) : X.K.In s.heap := I.ok.mod.kin.keeps I.bk
theorem Inv.lt (I : Inv X pins σ H s) : X.env.locals < s.heap.objs.size := let ⟨_, hn, _⟩ := I.loc; hn.lt
theorem Inv.sz (I : Inv X pins σ H s) : X.s₀.heap.objs.size ≤ s.heap.objs.size := Nat.le_trans I.ok.above (Nat.le_of_lt I.lt)
theorem Inv.nofs (I : Inv X pins σ H s) {a : Addr} (h : s.heap.objs.size ≤ a) : a ∉ X.fs := fun hb => by
  obtain ⟨_, o, ho, _⟩ := I.ok.funs.mem hb
  exact absurd (Nat.lt_of_lt_of_le (Heap.lt_size ho) (Nat.le_trans I.sz h)) (Nat.lt_irrefl _)
theorem Inv.cne (I : Inv X pins σ H s) : ∀ x c, X.env.cells.lookup x = some c → c ≠ X.env.locals := fun x c e z => by
  obtain ⟨v, o, ho, hd⟩ := I.cell x c e
  obtain ⟨m, ⟨o', es, ep, ho', hd', _⟩, _⟩ := I.loc
  rw [z, ho'] at ho; cases ho; rw [hd'] at hd; cases hd
theorem Inv.funs (I : Inv X pins σ H s) : s.heap.FunFrames X.base X.outer := by
  have all : ∀ (l : List Env), (∀ b ∈ frs l, b ∈ X.fs) → X.s₀.heap.FunFrames X.base l → s.heap.FunFrames X.base l := by
    intro l
    induction l with
    | nil => intro _ _; trivial
    | cons env r ih =>
      intro hs hl
      obtain ⟨hk, ⟨L, o, hf, hn, ho, hd⟩, hr⟩ := hl
      have hL : L ∈ X.fs := hs L (by unfold frs; rw [List.filterMap_cons, hf]; exact List.mem_cons_self)
      obtain ⟨sl, e⟩ := I.base.slot L o ho (I.ok.frf L hL) hL fun z => I.ok.exfs L z hL
      exact ⟨hk, ⟨L, _, hf, hn, e, hd⟩, ih (fun b hb => hs b (by unfold frs; rw [List.filterMap_cons, hf]; exact List.mem_cons_of_mem _ hb)) hr⟩
  exact all X.outer (fun _ hb => hb) I.ok.funs

/-- the frames that run, for a call -/
theorem Inv.stack (I : Inv X pins σ H s) : s.heap.FunFrames X.base X.stack := by
  rcases I.ok.stk with e | ⟨e, hf⟩
  · rw [e]; exact I.funs
  · rw [e]
    obtain ⟨m, hn, _⟩ := I.loc
    refine .cons (by rw [I.ok.kind]; decide) hf hn ?_ I.funs
    exact Heap.get?_none_of_le (Nat.le_trans I.ok.bsz I.ok.above)
theorem Inv.stkSub (I : Inv X pins σ H s) : ∀ b ∈ frs X.stack, b ∈ X.env.locals :: X.fs := fun b hb => by
  rcases I.ok.stk with e | ⟨e, hf⟩
  · rw [e] at hb; exact List.mem_cons_of_mem _ hb
  · rw [e] at hb
    unfold frs at hb
    rw [List.filterMap_cons, hf] at hb
    exact hb
theorem Inv.stkFree (I : Inv X pins σ H s) : ∀ b ∈ frs X.stack, H b = none := fun b hb => by
  rcases List.mem_cons.mp (I.stkSub b hb) with e | hb
  · rw [e]; exact I.free
  · obtain ⟨_, o, ho, _⟩ := I.ok.funs.mem hb
    exact I.base.free b o ho (I.ok.frf b hb) fun z => I.ok.exfs b z hb

/-- THE STEP: the untracked objects but the frame and the records at ch are kept (the callers' frames up to slots), the frame's map is kept, the new abstract heap is held -/
theorem Inv.step {g' : Array GenState} {t' : Nat} {d' : Drawn} {ch : List Addr} (I : Inv X pins σ H s)
    (hch : ∀ b ∈ ch, (b ∈ X.ex ∨ X.s₀.heap.objs.size ≤ b) ∧ b ≠ X.env.locals ∧ (∀ x c, X.env.cells.lookup x = some c → c ≠ b) ∧ ∀ p ∈ X.pn ++ pins, p.1 ≠ b)
    (keep : ∀ b o, b ≠ X.env.locals → b ∉ X.fs → b ∉ ch → s.heap.get? b = some o → H b = none → h'.get? b = some o)
    (slot : ∀ b o, b ≠ X.env.locals → b ∈ X.fs → b ∉ ch → s.heap.get? b = some o → H b = none → ∃ sl, h'.get? b = some { o with slots := sl }) (free : ∀ b o, b ∉ ch → s.heap.get? b = some o → H b = none → H' b = none)
    (there : ∀ b o, b ∉ ch → s.heap.get? b = some o → ∃ o', h'.get? b = some o')
    (tups : ∀ b xs, H b = some (.tup xs) → H' b = some (.tup xs)) (frzs : ∀ b o u, H b = some (.frz o u) → H' b = some (.frz o u)) (tbls : ∀ b ps, H b = some (.tbl ps) → ∃ more, H' b = some (.tbl (ps ++ more)))
    (ns : ∀ m, s.heap.Ns X.env.locals m → h'.Ns X.env.locals m) (hok : HOk X.prog X.w H' h') (hg : AllBare g') :
    Inv X pins σ H' { s with heap := h', gens := g', drawn := d', toks := t' } := by
  have neL : ∀ b o, X.s₀.heap.get? b = some o → b ≠ X.env.locals := fun b o e => Nat.ne_of_lt (Nat.lt_of_lt_of_le (Heap.lt_size e) I.ok.above)
  have neC : ∀ b o, X.s₀.heap.get? b = some o → b ∉ X.ex → b ∉ ch := fun b o e hx hb => by
    rcases (hch b hb).1 with z | z
    · exact hx z
    · exact absurd (Nat.lt_of_lt_of_le (Heap.lt_size e) z) (Nat.lt_irrefl _)
  have cellK : ∀ x c, X.env.cells.lookup x = some c → ∀ v, s.heap.IsCell c v → h'.IsCell c v := fun x c e v ⟨o, ho, hd⟩ => by
    have nch : c ∉ ch := fun z => (hch c z).2.2.1 x c e rfl
    by_cases hc : c ∈ X.fs
    · obtain ⟨sl, q⟩ := slot c o (I.cne x c e) hc nch ho (I.freeC x c e)
      exact ⟨_, q, hd⟩
    · exact ⟨o, keep c o (I.cne x c e) hc nch ho (I.freeC x c e), hd⟩
  refine ⟨I.ok, I.os, hg, ⟨fun b o e n hb hx => ?_, fun b o e n hb hx => ?_, fun b o e n hx => ?_, fun b o e hx => ?_, fun b xs e => tups b xs (I.base.tups b xs e), fun b o xs e => frzs b o xs (I.base.frzs b o xs e), fun b ps e => ?_⟩, ?_, fun x c e => ?_, ?_, fun x c e => ?_, fun p hp => ?_, hok, I.len⟩
  · exact keep b o (neL b o e) hb (neC b o e hx) (I.base.keep b o e n hb hx) (I.base.free b o e n hx)
  · obtain ⟨sl, e1⟩ := I.base.slot b o e n hb hx
    obtain ⟨sl', e2⟩ := slot b _ (neL b o e) hb (neC b o e hx) e1 (I.base.free b o e n hx)
    exact ⟨sl', e2⟩
  · obtain ⟨o', e1⟩ := I.base.there b o e hx
    exact free b o' (neC b o e hx) e1 (I.base.free b o e n hx)
  · obtain ⟨o', e1⟩ := I.base.there b o e hx
    exact there b o' (neC b o e hx) e1
  · obtain ⟨m1, e1⟩ := I.base.tbls b ps e
    obtain ⟨m2, e2⟩ := tbls b _ e1
    exact ⟨m1 ++ m2, by rw [e2, Array.append_assoc]⟩
  · obtain ⟨m, hn, hl⟩ := I.loc
    refine ⟨m, ns m hn, fun i x v e1 e2 e3 => ?_⟩
    obtain ⟨u, r, l⟩ := hl i x v e1 e2 e3
    refine ⟨u, r, ?_⟩
    rcases l with l | ⟨k, c, e, z⟩
    · exact .inl l
    · exact .inr ⟨k, c, e, cellK x c e _ z⟩
  · obtain ⟨v, z⟩ := I.cell x c e
    exact ⟨v, cellK x c e v z⟩
  · obtain ⟨m, ⟨o, _, _, ho, _⟩, _⟩ := I.loc
    exact free _ o (fun z => (hch _ z).2.1 rfl) ho I.free
  · obtain ⟨v, o, ho, hd⟩ := I.cell x c e
    exact free c o (fun z => (hch c z).2.2.1 x c e rfl) ho (I.freeC x c e)
  · obtain ⟨e, n, ne, nf, d⟩ := I.pin p hp
    have nch : p.1 ∉ ch := fun z => (hch p.1 z).2.2.2 p hp rfl
    exact ⟨keep p.1 p.2 ne nf nch e n, free p.1 p.2 nch e n, ne, nf, d⟩
/-- .. where the frame's own object is kept too -/
theorem Inv.un {t' : Nat} (I : Inv X pins σ H s) (u : Un X.fs [] H H' s.heap h') (hok : HOk X.prog X.w H' h') : Inv X pins σ H' { s with heap := h', toks := t' } := by
  obtain ⟨m, ⟨o, es, ep, ho, r⟩, _⟩ := id I.loc
  obtain ⟨sl, hL⟩ := u.any ho I.free (by simp)
  exact I.step (g' := s.gens) (d' := s.drawn) (ch := []) (fun _ z => nomatch z) (fun b o _ hb _ e n => u.keep b o e n hb (by simp)) (fun b o _ hb _ e n => u.slot b o e n hb (by simp)) (fun b o _ e n => u.free b o e n (by simp)) (fun b o _ e => u.there b o e (by simp)) u.tups u.frzs u.tbls (fun m' hm => by
    obtain ⟨o', es', ep', ho', r'⟩ := hm
    rw [ho] at ho'; cases ho'
    exact ⟨_, es', ep', hL, r'⟩) hok I.bare
/-- behind a call (or a comprehension's block): the slots of this frame may have changed too, the records at ch may have turned -/
theorem Inv.call {g' : Array GenState} {t' : Nat} {d' : Drawn} {ch : List Addr} (I : Inv X pins σ H s) (u : Un (frs X.stack) ch H H' s.heap h') (hok : HOk X.prog X.w H' h') (hg : AllBare g')
    (hch : ∀ b ∈ ch, (b ∈ X.ex ∨ X.s₀.heap.objs.size ≤ b) ∧ b ≠ X.env.locals ∧ (∀ x c, X.env.cells.lookup x = some c → c ≠ b) ∧ ∀ p ∈ X.pn ++ pins, p.1 ≠ b) :
    Inv X pins σ H' { s with heap := h', gens := g', drawn := d', toks := t' } := by
  obtain ⟨m, ⟨o, es, ep, ho, r⟩, _⟩ := id I.loc
  obtain ⟨sl, hL⟩ := u.any ho I.free fun z => (hch _ z).2.1 rfl
  exact I.step (ch := ch) hch (fun b o hL hb hc e n => u.keep b o e n (fun z => (List.mem_cons.mp (I.stkSub b z)).elim hL hb) hc) (fun b o _ _ hc e n => u.any e n hc) (fun b o hc e n => u.free b o e n hc) (fun b o hc e => u.there b o e hc) u.tups u.frzs u.tbls (fun m' hm => by
    obtain ⟨o', es', ep', ho', r'⟩ := hm
    rw [ho] at ho'; cases ho'
    exact ⟨_, es', ep', hL, r'⟩) hok hg
/-- an untracked record of ours (an iterator) has turned -/
theorem Inv.turned {t' : Nat} {it : Addr} (I : Inv X pins σ H s) (k : ∀ b o, b ≠ it → s.heap.get? b = some o → h'.get? b = some o) (hn : H it = none) (hL : it ≠ X.env.locals)
    (h1 : it ∈ X.ex ∨ X.s₀.heap.objs.size ≤ it) (h2 : ∀ x c, X.env.cells.lookup x = some c → c ≠ it) (h3 : ∀ p ∈ X.pn ++ pins, p.1 ≠ it) : Inv X pins σ H { s with heap := h', toks := t' } := by
  have nit : ∀ b u, H b = some u → b ≠ it := fun b u e z => by rw [z, hn] at e; cases e
  refine I.step (g' := s.gens) (d' := s.drawn) (ch := [it]) (fun b hb => ?_) (fun b o _ _ hc e _ => k b o (fun z => hc (by simp [z])) e) (fun b o _ _ hc e _ => ⟨o.slots, k b o (fun z => hc (by simp [z])) e⟩) (fun _ _ _ _ n => n)
    (fun b o hc e => ⟨o, k b o (fun z => hc (by simp [z])) e⟩) (fun _ _ e => e) (fun _ _ _ e => e) (fun b ps e => ⟨#[], by rw [e]; simp⟩) (fun m hm => ?_) (fun b u e => ?_) I.bare
  · have e : b = it := by simpa using hb
    subst e
    exact ⟨h1, hL, h2, h3⟩
  · obtain ⟨o, es, ep, ho, r⟩ := hm
    exact ⟨o, es, ep, k _ o (Ne.symm hL) ho, r⟩
  · refine (I.hok b u e).stay (fun c v hc q => k c v ?_ q) (fun _ q => q) fun _ _ q => q
    rcases hc with z | z
    · rw [z]; exact nit b u e
    · exact nit c _ z
theorem Inv.tok (I : Inv X pins σ H s) (t : Nat) : Inv X pins σ H { s with toks := t } := I.un (h' := s.heap) (t' := t) Un.refl I.hok
/-- all objects kept -/
theorem Inv.kept {t' : Nat} (I : Inv X pins σ H s) (k : ∀ b u, s.heap.get? b = some u → h'.get? b = some u) : Inv X pins σ H { s with heap := h', toks := t' } := I.un (Un.kept k) (I.hok.kept k)
/-- a new object laid and tracked -/
theorem Inv.laid {a : Addr} {o : HO} {t' : Nat} (I : Inv X pins σ H s) (k : ∀ b u, s.heap.get? b = some u → h'.get? b = some u) (hp : s.heap.objs.size ≤ a) (new : ObjOk X.prog X.w (upd H a o) h' a o) :
    Inv X pins σ (upd H a o) { s with heap := h', toks := t' } := I.un (Un.laid k hp (I.hok.fresh hp)) (I.hok.laid k hp new)
/-- an object written -/
theorem Inv.write {x e : Addr} {o : HO} {t' : Nat} (I : Inv X pins σ H s) (mu : Mut (H x)) (he : e = x ∨ H e = some (.own x)) (k : ∀ b u, b ≠ e → s.heap.get? b = some u → h'.get? b = some u) (heo : ∃ u, h'.get? e = some u)
    (new : ObjOk X.prog X.w (upd H x o) h' x o) : Inv X pins σ (upd H x o) { s with heap := h', toks := t' } := I.un (Un.write mu he k heo) (I.hok.write mu he k heo new)
theorem Inv.pins_of {pins' : List (Addr × Obj)} (I : Inv X pins σ H s) (h : ∀ p ∈ pins', s.heap.get? p.1 = some p.2 ∧ H p.1 = none ∧ p.1 ≠ X.env.locals ∧ p.1 ∉ X.fs ∧ ∀ v, p.2.data ≠ .cell v) : Inv X pins' σ H s :=
  ⟨I.ok, I.os, I.bare, I.base, I.loc, I.cell, I.free, I.freeC, fun p hp => (List.mem_append.mp hp).elim (fun z => I.pin p (List.mem_append_left _ z)) (h p), I.hok, I.len⟩

theorem nodup_ix {N : List Str} (hN : N.Nodup) {i j : Nat} {x : Str} (a : N[i]? = some x) (b : N[j]? = some x) : i = j := by
  obtain ⟨h1, e1⟩ := List.getElem?_eq_some_iff.mp a
  obtain ⟨h2, e2⟩ := List.getElem?_eq_some_iff.mp b
  exact (List.getElem_inj hN).mp (e1.trans e2.symm)

/-- a name is stored; what changed -/
theorem store_ok2 {M : Model} {A : Around} {E : Value → Shared → Prop} {i : Nat} {x : Str} {v : V} {u : Value} {Q : Unit → Shared → Prop} (I : Inv X pins σ H s) (hN : X.N.Nodup) (hi : X.N[i]? = some x) (hx : Loc X.env.scope x) (r : RelV v u)
    (h : ∀ s', Inv X pins (σ.set i (some v)) H s' → (∃ a, Heap.SameBut a s.heap s'.heap ∧ (a = X.env.locals ∨ X.env.cells.lookup x = some a)) → Q () s') (hf : X.fn x = true ∨ X.env.scope.names.lookup x = some .local := by first | exact .inl rfl | exact .inr rfl | assumption) : wpAny M A (storeName X.env x u) Q E s := by
  obtain ⟨m, hn, hl⟩ := id I.loc
  have hcls : (X.env.scope.kind == .class || (X.env.scope.kind == .module && X.env.locals != X.env.globals)) = false := by rw [I.ok.kind]; rfl
  have hiσ : i < σ.length := by rw [I.len]; exact (List.getElem?_eq_some_iff.mp hi).1
  have cne := I.cne
  have tracked : ∀ {a : Addr} {h' : Heap}, (∃ o, s.heap.get? a = some o ∧ H a = none) → Heap.SameBut a s.heap h' → HOk X.prog X.w H h' := fun {a h'} ha hs b ob e => by
    obtain ⟨_, _, hfree⟩ := ha
    refine (I.hok b ob e).stay (fun c w' hc q => (hs.2 c ?_).trans q) (fun _ q => q) fun _ _ q => q
    rintro rfl
    rcases hc with rfl | hc
    · rw [hfree] at e; cases e
    · rw [hfree] at hc; cases hc
  rcases hx with hk | hk
  · refine wpAny_storeName_local hk hn (fun h' hn' hs => ?_) hcls
    obtain ⟨oL, _, _, hoL, _⟩ := id hn
    refine h _ ⟨I.ok, I.os, I.bare, ⟨fun b o e n hb hx => ?_, fun b o e n hb hx => ?_, I.base.free, fun b o e hx => ?_, I.base.tups, I.base.frzs, I.base.tbls⟩, ⟨_, hn', fun j y v' e1 e2 e3 => ?_⟩, fun y c e => ?_, I.free, I.freeC, fun p hp => ?_, tracked ⟨oL, hoL, I.free⟩ hs, by simpa using I.len⟩ ⟨_, hs, .inl rfl⟩
    · exact (hs.2 b (Nat.ne_of_lt (Nat.lt_of_lt_of_le (Heap.lt_size e) I.ok.above))).trans (I.base.keep b o e n hb hx)
    · obtain ⟨sl, e1⟩ := I.base.slot b o e n hb hx
      exact ⟨sl, (hs.2 b (Nat.ne_of_lt (Nat.lt_of_lt_of_le (Heap.lt_size e) I.ok.above))).trans e1⟩
    · obtain ⟨o', e1⟩ := I.base.there b o e hx
      exact ⟨o', (hs.2 b (Nat.ne_of_lt (Nat.lt_of_lt_of_le (Heap.lt_size e) I.ok.above))).trans e1⟩
    · by_cases hj : j = i
      · subst hj
        rw [hi] at e1; cases e1
        rw [List.getElem?_set_self hiσ] at e2
        cases e2
        exact ⟨u, r, .inl ⟨hk, by simp⟩⟩
      · rw [List.getElem?_set_ne (Ne.symm hj)] at e2
        obtain ⟨u', r', q⟩ := hl j y v' e1 e2 e3
        refine ⟨u', r', ?_⟩
        rcases q with ⟨k, e⟩ | ⟨k, c, e, z⟩
        · refine .inl ⟨k, ?_⟩
          have : y ≠ x := fun e => hj (nodup_ix hN e1 (e ▸ hi))
          simp [this, e]
        · exact .inr ⟨k, c, e, z.sameBut hs (cne y c e)⟩
    · obtain ⟨w', z⟩ := I.cell y c e
      exact ⟨w', z.sameBut hs (cne y c e)⟩
    · obtain ⟨e, n, ne, nf, d⟩ := I.pin p hp
      exact ⟨(hs.2 p.1 ne).trans e, n, ne, nf, d⟩
  · have hfn : X.fn x = true := by
      rcases hf with z | z
      · exact z
      · rw [z] at hk; cases hk
    obtain ⟨c, hc⟩ := I.ok.has x (.inl hk)
    obtain ⟨w', z⟩ := I.cell x c hc
    refine wpAny_storeName_cell I.ok.kind hk hc z (fun h' hc' hs => ?_)
    obtain ⟨oc, hoc, hocd⟩ := id z
    refine h { s with heap := h' } ⟨I.ok, I.os, I.bare, ⟨fun b o e n hb hx => ?_, fun b o e n hb hx => ?_, I.base.free, fun b o e hx => ?_, I.base.tups, I.base.frzs, I.base.tbls⟩, ⟨m, hn.sameBut hs (Ne.symm (cne x c hc)), fun j y v' e1 e2 e3 => ?_⟩, fun y c' e => ?_, I.free, I.freeC, fun p hp => ?_, tracked ⟨oc, hoc, I.freeC x c hc⟩ hs, by simpa using I.len⟩ ⟨c, hs, .inr hc⟩
    · exact (hs.2 b (Nat.ne_of_lt (Nat.lt_of_lt_of_le (Heap.lt_size e) (I.ok.cab x c hfn hc)))).trans (I.base.keep b o e n hb hx)
    · obtain ⟨sl, e1⟩ := I.base.slot b o e n hb hx
      exact ⟨sl, (hs.2 b (Nat.ne_of_lt (Nat.lt_of_lt_of_le (Heap.lt_size e) (I.ok.cab x c hfn hc)))).trans e1⟩
    · obtain ⟨o', e1⟩ := I.base.there b o e hx
      exact ⟨o', (hs.2 b (Nat.ne_of_lt (Nat.lt_of_lt_of_le (Heap.lt_size e) (I.ok.cab x c hfn hc)))).trans e1⟩
    · by_cases hj : j = i
      · subst hj
        rw [hi] at e1; cases e1
        rw [List.getElem?_set_self hiσ] at e2
        cases e2
        exact ⟨u, r, .inr ⟨.inl hk, c, hc, hc'⟩⟩
      · rw [List.getElem?_set_ne (Ne.symm hj)] at e2
        obtain ⟨u', r', q⟩ := hl j y v' e1 e2 e3
        refine ⟨u', r', ?_⟩
        rcases q with q | ⟨k, c', e, z'⟩
        · exact .inl q
        · refine .inr ⟨k, c', e, z'.sameBut hs ?_⟩
          rintro rfl
          exact hj (nodup_ix hN e1 (I.ok.inj _ _ _ e hc ▸ hi))
    · by_cases hcc : c' = c
      · subst hcc; exact ⟨_, hc'⟩
      · obtain ⟨w2, z2⟩ := I.cell y c' e
        exact ⟨w2, z2.sameBut hs hcc⟩
    · obtain ⟨e, n, ne, nf, d⟩ := I.pin p hp
      refine ⟨(hs.2 p.1 ?_).trans e, n, ne, nf, d⟩
      intro q
      rw [q, hoc] at e
      have q' : oc = p.2 := Option.some.inj e
      exact d w' (by rw [← q']; exact hocd)
theorem store_ok {M : Model} {A : Around} {E : Value → Shared → Prop} {i : Nat} {x : Str} {v : V} {u : Value} {Q : Unit → Shared → Prop} (I : Inv X pins σ H s) (hN : X.N.Nodup) (hi : X.N[i]? = some x) (hx : Loc X.env.scope x) (r : RelV v u)
    (h : ∀ s', Inv X pins (σ.set i (some v)) H s' → Q () s') (hf : X.fn x = true ∨ X.env.scope.names.lookup x = some .local := by first | exact .inl rfl | exact .inr rfl | assumption) : wpAny M A (storeName X.env x u) Q E s :=
  store_ok2 I hN hi hx r (fun s' I' _ => h s' I') hf
/-- behind a call or a block, the state as it is -/
theorem Inv.call' {s' : Shared} {ch : List Addr} (I : Inv X pins σ H s) (ho : s'.os = s.os) (u : Un (frs X.stack) ch H H' s.heap s'.heap) (hok : HOk X.prog X.w H' s'.heap) (hg : AllBare s'.gens)
    (hch : ∀ b ∈ ch, (b ∈ X.ex ∨ X.s₀.heap.objs.size ≤ b) ∧ b ≠ X.env.locals ∧ (∀ x c, X.env.cells.lookup x = some c → c ≠ b) ∧ ∀ p ∈ X.pn ++ pins, p.1 ≠ b) : Inv X pins σ H' s' := by
  obtain ⟨h', g', d', t', o'⟩ := s'
  have e : o' = s.os := ho
  subst e
  exact I.call (g' := g') (t' := t') (d' := d') u hok hg hch
end

/-- an exception: its class, its own dict's address (where it has one), the abstract heap behind it -/
abbrev XK := Value → Option Addr → Hp → Prop
abbrev St := List (Option V)
abbrev VK := V → Hp → Prop
/-- an expression's reading; a test's; an argument list's -/
abbrev TE := St → Hp → VK → Prop
abbrev TT := St → Hp → (Bool → Hp → Prop) → Prop
abbrev TA := St → Hp → (List V → Hp → Prop) → Prop
/-- what is wanted behind a statement -/
structure Ends where
  nx : St → Hp → Prop
  rt : VK
  bk : St → Hp → Prop := fun _ _ => False
  ct : St → Hp → Prop := fun _ _ => False
abbrev TS := Ends → St → Hp → Prop

def EP (X : Cx) (pins : List (Addr × Obj)) (σ : St) (Q : VK) (u : Value) (s' : Shared) : Prop := ∃ v H', Inv X pins σ H' s' ∧ RelV v u ∧ Q v H'
def TP (X : Cx) (pins : List (Addr × Obj)) (σ : St) (Q : Bool → Hp → Prop) (b : Bool) (s' : Shared) : Prop := ∃ H', Inv X pins σ H' s' ∧ Q b H'
def AP (X : Cx) (pins : List (Addr × Obj)) (σ : St) (Q : List V → Hp → Prop) (us : List Value) (s' : Shared) : Prop := ∃ vs H', Inv X pins σ H' s' ∧ Vals vs us ∧ Q vs H'
def SP (X : Cx) (pins : List (Addr × Obj)) (D : Ends) (f : Flow) (s' : Shared) : Prop :=
  match f with
  | .next => ∃ σ' H', Inv X pins σ' H' s' ∧ D.nx σ' H'
  | .brk => ∃ σ' H', Inv X pins σ' H' s' ∧ D.bk σ' H'
  | .cont => ∃ σ' H', Inv X pins σ' H' s' ∧ D.ct σ' H'
  | .ret u => ∃ v σ' H', Inv X pins σ' H' s' ∧ RelV v u ∧ D.rt v H'

def PE (X : Cx) (e : Expr) (t : TE) : Prop :=
  ∀ (pins : List (Addr × Obj)) (s : Shared) (σ : St) (H : Hp) (Q : VK), Inv X pins σ H s → t σ H Q → wpAny (model X.prog X.w) X.A (eval e X.env) (EP X pins σ Q) X.xe s
def PT (X : Cx) (e : Expr) (t : TT) : Prop :=
  ∀ (pins : List (Addr × Obj)) (s : Shared) (σ : St) (H : Hp) (Q : Bool → Hp → Prop), Inv X pins σ H s → t σ H Q → wpAny (model X.prog X.w) X.A (isTrue e X.env (eval e X.env)) (TP X pins σ Q) X.xe s
/-- a test whatever its 'whole' is (and, or) -/
def PW (X : Cx) (e : Expr) (t : TT) : Prop :=
  ∀ (whole : Sem Value) (pins : List (Addr × Obj)) (s : Shared) (σ : St) (H : Hp) (Q : Bool → Hp → Prop), Inv X pins σ H s → t σ H Q → wpAny (model X.prog X.w) X.A (isTrue e X.env whole) (TP X pins σ Q) X.xe s
theorem PW.pt {X : Cx} {e : Expr} {t : TT} (h : PW X e t) : PT X e t := h _
/-- an argument list (no star), from the left -/
def PA (X : Cx) (es : List Expr) (t : TA) : Prop :=
  ∀ (pos : Pos) (pins : List (Addr × Obj)) (s : Shared) (σ : St) (H : Hp) (Q : List V → Hp → Prop), Inv X pins σ H s → t σ H Q → wpAny (model X.prog X.w) X.A (spliced (backTo pos (starEach es X.env))) (AP X pins σ Q) X.xe s
def PS (X : Cx) (st : Stmt) (t : TS) : Prop :=
  ∀ (pins : List (Addr × Obj)) (s : Shared) (σ : St) (H : Hp) (D : Ends), Inv X pins σ H s → t D σ H → wpAny (model X.prog X.w) X.A (exec st X.env) (SP X pins D) X.xe s
def PSs (X : Cx) (st : List Stmt) (t : TS) : Prop :=
  ∀ (pins : List (Addr × Obj)) (s : Shared) (σ : St) (H : Hp) (D : Ends), Inv X pins σ H s → t D σ H → wpAny (model X.prog X.w) X.A (execs st X.env) (SP X pins D) X.xe s
/-- weaken the end -/
theorem thn {α : Type} {t : Sem α} {Q Q' : α → Shared → Prop} {M : Model} {A : Around} {E : Value → Shared → Prop} {s : Shared} (h : wpAny M A t Q E s) (hQ : ∀ a s, Q a s → Q' a s) : wpAny M A t Q' E s := wpAny_mono h hQ fun _ _ x => x
end L2

namespace L2
open PySem PySem.Spec PyProof.Rows
section
variable {X : Cx}

def tVar (i : Nat) : TE := fun σ H Q => ∃ v, σ[i]? = some (some v) ∧ Q v H
def tC (v : V) : TE := fun _ H Q => Q v H
theorem pe_var {i : Nat} {x : Str} {pos : Pos} (hN : X.N[i]? = some x) (hv : Vis X.env.scope x) (hd : (x == ("__debug__" : Str)) = false := by decide) (hcd : (x == ("__classdict__" : Str)) = false := by decide) : PE X (.Name x pos) (tVar i) := by
  intro pins s σ H Q I h
  obtain ⟨v, e, h⟩ := h
  obtain ⟨m, hn, hl⟩ := I.loc
  obtain ⟨u, r, l⟩ := hl i x v hN e hv
  have fin : EP X pins σ Q u s := ⟨v, H, I, r, h⟩
  rcases l with ⟨hk, hm⟩ | ⟨hk, c, hc, hcell⟩
  · exact wpAny_Name (wpAny_loadName_local I.ok.kind hk hn hm fin) hd
  · rcases hk with hk | hk
    · exact wpAny_Name (wpAny_loadName_cell I.ok.kind hk hc hcell fin) hd
    · exact wpAny_Name (wpAny_loadName_free I.ok.kind hk hc hcell fin hcd) hd
theorem pe_int {i j pos} : PE X (.Constant (.int i) j pos) (tC (.int i)) := fun _ _ _ H _ I h => wpAny_Constant_int ⟨.int i, H, I.tok _, ⟨_, rfl⟩, h⟩
theorem pe_bl {b j pos} : PE X (.Constant (.bool b) j pos) (tC (.bl b)) := fun _ _ _ H _ I h => Constant_bool ⟨.bl b, H, I, rfl, h⟩
theorem pe_non {j pos} : PE X (.Constant .none j pos) (tC .non) := fun _ _ _ H _ I h => Constant_none ⟨.non, H, I, rfl, h⟩
/-- a global name of the def -/
def Gl (X : Cx) (x : Str) : Prop := X.env.kindOf x = some .globalImplicit
theorem ld_glob {E : Value → Shared → Prop} {pins : List (Addr × Obj)} {s : Shared} {σ : St} {H : Hp} {x : Str} {u : Value} {pos : Pos} {Q : Value → Shared → Prop} (I : Inv X pins σ H s) (hg : Gl X x) (hm : X.mg x = some u) (h : Q u s)
    (hd : (x == ("__debug__" : Str)) = false := by decide) : wpAny (model X.prog X.w) X.A (eval (.Name x pos) X.env) Q E s :=
  Calls.Name_function_global I.ok.kind hg (Calls.loadGlobal_global (by rw [I.ok.glob]; exact I.mod.glob.keeps I.bk) hm h) hd
theorem ld_blt {E : Value → Shared → Prop} {pins : List (Addr × Obj)} {s : Shared} {σ : St} {H : Hp} {x : Str} {u : Value} {pos : Pos} {Q : Value → Shared → Prop} (I : Inv X pins σ H s) (hg : Gl X x) (hm : X.mg x = none) (hv : bootBuiltins x = some u) (h : Q u s)
    (hn : x ≠ "__name__" := by decide) (hd : (x == ("__debug__" : Str)) = false := by decide) : wpAny (model X.prog X.w) X.A (eval (.Name x pos) X.env) Q E s := by
  obtain ⟨mb, h1, h2⟩ := I.mod.blt
  exact Calls.Name_function_global I.ok.kind hg (Calls.loadGlobal_builtin (by rw [I.ok.glob]; exact I.mod.glob.keeps I.bk) hm (by rw [I.ok.blt]; exact h1.keeps I.bk) ((h2 x hn).trans hv) h) hd
theorem pe_bltn {x : Str} {v : V} {u : Value} {pos : Pos} (hg : Gl X x) (hm : X.mg x = none) (hv : bootBuiltins x = some u) (r : RelV v u) (hn : x ≠ "__name__" := by decide) (hd : (x == ("__debug__" : Str)) = false := by decide) : PE X (.Name x pos) (tC v) :=
  fun _ _ _ H _ I h => ld_blt I hg hm hv ⟨v, H, I, r, h⟩ hn hd

variable {a b : Expr} {ta tb : TE} {pos : Pos}
/-- a comparison as a value, as a test -/
def tB (t : TE) : TT := fun σ H Q => t σ H fun x H1 => ∃ c, x = .bl c ∧ Q c H1
/-- an expression whose value is a bool, as a test -/
theorem pt_val {e : Expr} {t : TE} (h : PE X e t) (he : ∀ whole, isTrue e X.env whole = (do let v ← whole; standAt e.pos; holding [v] (truthy v)) := by intro _; rfl) : PT X e (tB t) := by
  intro pins s σ H Q I hw
  refine isTrue_plain (thn (h pins s σ H _ I hw) fun v s1 ⟨x, H1, I1, r1, q1⟩ => ?_) (he _)
  obtain ⟨d, rfl, q⟩ := q1
  cases r1
  exact wpAny_truthy_bool ⟨H1, I1, q⟩

variable {tA tB' : TT} {rest : List Expr}
def tAnd (t u : TT) : TT := fun σ H Q => t σ H fun c H1 => if c = true then u σ H1 Q else Q false H1
def tOr (t u : TT) : TT := fun σ H Q => t σ H fun c H1 => if c = true then Q true H1 else u σ H1 Q
def tNot (t : TT) : TT := fun σ H Q => t σ H fun c H1 => Q (!c) H1
theorem pw_and1 (ha : PT X a tA) : PW X (.BoolOp .And [a] pos) tA := by
  intro wh pins s σ H Q I h
  refine isTrue_and (thn (ha pins s σ H Q I h) fun c s1 e => ?_)
  cases c with
  | true => exact isTrue_and_nil e
  | false => exact e
theorem pw_or1 (ha : PT X a tA) : PW X (.BoolOp .Or [a] pos) tA := by
  intro wh pins s σ H Q I h
  refine isTrue_or (thn (ha pins s σ H Q I h) fun c s1 e => ?_)
  cases c with
  | false => exact isTrue_or_nil e
  | true => exact e
theorem pw_and (ha : PT X a tA) (hb : PW X (.BoolOp .And (b :: rest) pos) tB') : PW X (.BoolOp .And (a :: b :: rest) pos) (tAnd tA tB') := by
  intro wh pins s σ H Q I h
  refine isTrue_and (thn (ha pins s σ H _ I h) fun c s1 ⟨H1, I1, q1⟩ => ?_)
  cases c with
  | true => exact hb wh pins s1 σ H1 Q I1 q1
  | false => exact ⟨H1, I1, q1⟩
theorem pw_or (ha : PT X a tA) (hb : PW X (.BoolOp .Or (b :: rest) pos) tB') : PW X (.BoolOp .Or (a :: b :: rest) pos) (tOr tA tB') := by
  intro wh pins s σ H Q I h
  refine isTrue_or (thn (ha pins s σ H _ I h) fun c s1 ⟨H1, I1, q1⟩ => ?_)
  cases c with
  | true => exact ⟨H1, I1, q1⟩
  | false => exact hb wh pins s1 σ H1 Q I1 q1
theorem pt_not (ha : PT X a tA) : PT X (.UnaryOp .Not a pos) (tNot tA) := by
  intro pins s σ H Q I h
  exact isTrue_not (ha pins s σ H (fun c H1 => Q (!c) H1) I h)
/-- .. as values (bools) -/
def tAndV (ta tb : TE) : TE := fun σ H Q => ta σ H fun x H1 => ∃ c, x = .bl c ∧ if c = true then tb σ H1 Q else Q (.bl false) H1
def tNotV (ta : TE) : TE := fun σ H Q => ta σ H fun x H1 => ∃ c, x = .bl c ∧ Q (.bl (!c)) H1
theorem pe_one {op} {t : TE} (h : PE X a t) : PE X (.BoolOp op [a] pos) t := fun pins s σ H Q I hw => BoolOp_one (h pins s σ H Q I hw)
theorem pe_and (ha : PE X a ta) (hb : PE X (.BoolOp .And (b :: rest) pos) tb) : PE X (.BoolOp .And (a :: b :: rest) pos) (tAndV ta tb) := by
  intro pins s σ H Q I h
  refine BoolOp_and (thn (ha pins s σ H _ I h) fun v s1 ⟨x, H1, I1, r1, q1⟩ => ?_)
  obtain ⟨c, rfl, q1⟩ := q1
  cases r1
  refine wpAny_truthy_bool ?_
  cases c with
  | true => exact hb pins s1 σ H1 Q I1 q1
  | false => exact ⟨.bl false, H1, I1, rfl, q1⟩
theorem pe_not (ha : PE X a ta) : PE X (.UnaryOp .Not a pos) (tNotV ta) := by
  intro pins s σ H Q I h
  refine UnaryOp_ (thn (ha pins s σ H _ I h) fun v s1 ⟨x, H1, I1, r1, q1⟩ => ?_)
  obtain ⟨c, rfl, q1⟩ := q1
  cases r1
  exact not_of (wpAny_truthy_bool ⟨.bl (!c), H1, I1, rfl, q1⟩)
/-- a if t else b -/
def tIf (t : TT) (ta tb : TE) : TE := fun σ H Q => t σ H fun c H1 => if c = true then ta σ H1 Q else tb σ H1 Q
theorem pe_ifExp {c : Expr} (hc : PT X c tA) (ha : PE X a ta) (hb : PE X b tb) : PE X (.IfExp c a b pos) (tIf tA ta tb) := by
  intro pins s σ H Q I h
  refine wpAny_IfExp (thn (hc pins s σ H _ I h) fun d s1 ⟨H1, I1, q1⟩ => ?_)
  cases d with
  | true => exact ha pins s1 σ H1 Q I1 q1
  | false => exact hb pins s1 σ H1 Q I1 q1
end
end L2

namespace L2
open PySem PySem.Spec PyProof.Rows

def SqL (K : PySem.W.Frag) (H : Hp) (a : Addr) (xs : List V) : Prop :=
  Rd H a (.lst xs) ∨
    ∃ (o : Obj) (its : Array Value) (n : Nat), K.lookup a = some o ∧ o.cls = .type "list" ∧ o.dict = none ∧ o.data = .seq its n ∧ its.size ≤ sizeLine ∧ Vals xs its.toList
def SqT (K : PySem.W.Frag) (H : Hp) (a : Addr) (xs : List V) : Prop :=
  Rd H a (.tup xs) ∨
    ∃ (o : Obj) (its : Array Value) (n : Nat), K.lookup a = some o ∧ o.cls = .type "tuple" ∧ o.data = .seq its n ∧ its.size ≤ sizeLine ∧ Vals xs its.toList
def absV : Value → Option V
  | .none => some .non
  | .bool b => some (.bl b)
  | .int i _ => some (.int i)
  | .str x _ => some (.str x)
  | .bytes b _ => some (.byt b)
  | .float b _ => some (.flt b)
  | .ref a => some (.ref a)
  | .type n => some (.ty n)
  | _ => none
theorem RelV.abs {x : V} {u : Value} (r : RelV x u) : absV u = some x := by
  cases x with
  | non => cases r; rfl
  | bl _ => cases r; rfl
  | int _ => obtain ⟨t, rfl⟩ := r; rfl
  | str _ => obtain ⟨t, rfl⟩ := r; rfl
  | byt _ => obtain ⟨t, rfl⟩ := r; rfl
  | flt _ => obtain ⟨t, rfl⟩ := r; rfl
  | ref _ => cases r; rfl
  | ty _ => cases r; rfl
theorem RelV.inj {x y : V} {u : Value} (r : RelV x u) (q : RelV y u) : x = y := Option.some.inj (r.abs.symm.trans q.abs)
theorem Vals.inj : ∀ {xs ys : List V} {us : List Value}, Vals xs us → Vals ys us → xs = ys
  | _, _, _, .nil, .nil => rfl
  | _, _, _, .cons r t, .cons r' t' => by rw [r.inj r', Vals.inj t t']
section
variable {X : Cx} {pins : List (Addr × Obj)} {σ : St} {H : Hp} {s : Shared} {a : Addr} {xs ys : List V}
theorem Inv.list (I : Inv X pins σ H s) (h : SqL X.K H a xs) : ∃ its : List Value, Vals xs its ∧ PlainL s.heap a its.toArray ∧ xs.length ≤ sizeLine := by
  rcases h with h | ⟨o, its, n, hk, hc, hd, hs, hz, r⟩
  · obtain ⟨z, its, n, r, e⟩ := h.ok I.hok
    exact ⟨its, r, ⟨_, n, e, rfl, rfl, rfl⟩, z⟩
  · refine ⟨its.toList, r, ⟨o, n, I.kIn a o hk, hc, hd, by simpa using hs⟩, ?_⟩
    have e := r.length
    simp only [Array.length_toList] at e
    omega
theorem Inv.tuple (I : Inv X pins σ H s) (h : SqT X.K H a xs) : ∃ its : List Value, Vals xs its ∧ IsTup s.heap a its.toArray ∧ xs.length ≤ sizeLine := by
  rcases h with h | ⟨o, its, n, hk, hc, hs, hz, r⟩
  · obtain ⟨z, its, r, p⟩ := h.ok I.hok
    exact ⟨its, r, p, z⟩
  · refine ⟨its.toList, r, ⟨o, I.kIn a o hk, hc, n, by simpa using hs⟩, ?_⟩
    have e := r.length
    simp only [Array.length_toList] at e
    omega
theorem Inv.list_inj (I : Inv X pins σ H s) (h : SqL X.K H a xs) (h' : SqL X.K H a ys) : xs = ys := by
  obtain ⟨its, r, ⟨o, n, e, _, _, d⟩, _⟩ := I.list h
  obtain ⟨its', r', ⟨o', n', e', _, _, d'⟩, _⟩ := I.list h'
  rw [e] at e'; cases e'
  rw [d] at d'
  injection d' with d1 _
  have : its = its' := by simpa using congrArg Array.toList d1
  subst this
  exact r.inj r'
end

abbrev Cx.wish (X : Cx) (E : Value → Shared → Prop) : Cx := { X with xe := E }
/-- no exception leaves -/
abbrev Cx.nox (X : Cx) : Cx := X.wish fun _ _ => False
theorem Cx.Ok.wish {X : Cx} (ok : X.Ok) (E : Value → Shared → Prop) : (X.wish E).Ok :=
  ⟨ok.mod, ok.kind, ok.glob, ok.blt, ok.above, ok.inj, ok.has, ok.cab, ok.hd, ok.frames, ok.stk, ok.exf, ok.bs, ok.bsz, ok.noex, ok.exfs, ok.funs, ok.frf⟩
theorem Cx.Ok.unwish {X : Cx} {E : Value → Shared → Prop} (ok : (X.wish E).Ok) : X.Ok :=
  ⟨ok.mod, ok.kind, ok.glob, ok.blt, ok.above, ok.inj, ok.has, ok.cab, ok.hd, ok.frames, ok.stk, ok.exf, ok.bs, ok.bsz, ok.noex, ok.exfs, ok.funs, ok.frf⟩
section
variable {X : Cx} {pins : List (Addr × Obj)} {σ : St} {H : Hp} {s : Shared} {E : Value → Shared → Prop}
theorem Inv.wish (I : Inv X pins σ H s) (E : Value → Shared → Prop) : Inv (X.wish E) pins σ H s := ⟨I.ok.wish E, I.os, I.bare, I.base, I.loc, I.cell, I.free, I.freeC, I.pin, I.hok, I.len⟩
theorem Inv.unwish (I : Inv (X.wish E) pins σ H s) : Inv X pins σ H s := ⟨I.ok.unwish, I.os, I.bare, I.base, I.loc, I.cell, I.free, I.freeC, I.pin, I.hok, I.len⟩
theorem SP.unwish {D : Ends} {f : Flow} {s' : Shared} (h : SP (X.wish E) pins D f s') : SP X pins D f s' := by
  cases f with
  | next => obtain ⟨σ', H', I, q⟩ := h; exact ⟨σ', H', I.unwish, q⟩
  | brk => obtain ⟨σ', H', I, q⟩ := h; exact ⟨σ', H', I.unwish, q⟩
  | cont => obtain ⟨σ', H', I, q⟩ := h; exact ⟨σ', H', I.unwish, q⟩
  | ret u => obtain ⟨v, σ', H', I, r, q⟩ := h; exact ⟨v, σ', H', I.unwish, r, q⟩
theorem PSs.nox {st : List Stmt} {t : TS} (h : PSs X.nox st t) : PSs X st t := fun pins s σ H D I hw =>
  wpAny_mono (h pins s σ H D (I.wish _) hw) (fun _ _ q => q.unwish) fun _ _ z => False.elim z
end

section
variable {X : Cx} {st : Stmt} {rest : List Stmt} {t u : TS} {e : Expr} {te : TE} {pos : Pos}
def tNext : TS := fun D σ H => D.nx σ H
def tSeq (t u : TS) : TS := fun D σ H => t { D with nx := u D } σ H
theorem pss_nil : PSs X [] tNext := fun _ _ σ H _ I h => wpAny_execs_nil ⟨σ, H, I, h⟩
theorem pss_cons (h1 : PS X st t) (h2 : PSs X rest u) : PSs X (st :: rest) (tSeq t u) := by
  intro pins s σ H D I h
  refine wpAny_execs_cons (thn (h1 pins s σ H { D with nx := u D } I h) fun f s1 q => ?_)
  cases f with
  | next =>
    obtain ⟨σ', H', I', q⟩ := q
    exact h2 pins s1 σ' H' D I' q
  | ret v => exact q
  | brk => exact q
  | cont => exact q
theorem pss_one (h1 : PS X st t) : PSs X [st] t := by
  intro pins s σ H D I h
  refine wpAny_execs_cons (thn (h1 pins s σ H D I h) fun f s1 q => ?_)
  cases f with
  | next => exact wpAny_execs_nil q
  | ret v => exact q
  | brk => exact q
  | cont => exact q
/-- in a def's body nothing is shown -/
theorem Inv.quiet {pins : List (Addr × Obj)} {σ : St} {H : Hp} {s : Shared} (I : Inv X pins σ H s) : interactive X.env = false := by simp [interactive, I.ok.kind]
/-- an expression whose value is dropped -/
def tDrop (te : TE) : TS := fun D σ H => te σ H fun _ H1 => D.nx σ H1
theorem ps_expr (he : PE X e te) (hs : swapsWith e none pos.line X.env = pure false := by rfl) : PS X (.Expr e pos) (tDrop te) := by
  intro pins s σ H D I h
  exact wpAny_Expr_any (thn (he pins s σ H _ I h) fun v s1 ⟨x, H1, I1, r1, q1⟩ => ⟨σ, H1, I1, q1⟩) I.quiet hs
def tRet (te : TE) : TS := fun D σ H => te σ H D.rt
theorem ps_ret (he : PE X e te) : PS X (.Return (some e) pos) (tRet te) := by
  intro pins s σ H D I h
  exact wpAny_Return_some (thn (he pins s σ H _ I h) fun v s1 ⟨x, H1, I1, r1, q1⟩ => ⟨x, σ, H1, I1, r1, q1⟩)
def tIfS (c : TT) (t u : TS) : TS := fun D σ H => c σ H fun b H1 => if b = true then t D σ H1 else u D σ H1
theorem ps_if {c : Expr} {a b : List Stmt} {tc : TT} (hc : PT X c tc) (ha : PSs X a t) (hb : PSs X b u) : PS X (.If c a b pos) (tIfS tc t u) := by
  intro pins s σ H D I h
  refine wpAny_If (thn (hc pins s σ H _ I h) fun d s1 ⟨H1, I1, q1⟩ => ?_)
  cases d with
  | true => exact ha pins s1 σ H1 D I1 q1
  | false => exact hb pins s1 σ H1 D I1 q1
end

abbrev TG := V → St → Hp → (St → Hp → Prop) → Prop
abbrev TGs := List V → St → Hp → (St → Hp → Prop) → Prop
def PG (X : Cx) (target : Expr) (t : TG) : Prop :=
  ∀ (pins : List (Addr × Obj)) (s : Shared) (σ : St) (H : Hp) (v : V) (u : Value) (Q : St → Hp → Prop), Inv X pins σ H s → RelV v u → t v σ H Q →
    wpAny (model X.prog X.w) X.A (assign target X.env u) (fun _ s' => ∃ σ' H', Inv X pins σ' H' s' ∧ Q σ' H') X.xe s
/-- several targets, one after another -/
def PGs (X : Cx) (ts : List Expr) (t : TGs) : Prop :=
  ∀ (pins : List (Addr × Obj)) (s : Shared) (σ : St) (H : Hp) (vs : List V) (us : List Value) (Q : St → Hp → Prop), Inv X pins σ H s → Vals vs us → t vs σ H Q →
    wpAny (model X.prog X.w) X.A (assignInOrder ((assignEach ts X.env).map (·.2)) us) (fun _ s' => ∃ σ' H', Inv X pins σ' H' s' ∧ Q σ' H') X.xe s
/-- o[i] = v, by values -/
abbrev TSet := V → V → V → Hp → (Hp → Prop) → Prop
def PSet (X : Cx) (t : TSet) : Prop :=
  ∀ (pins : List (Addr × Obj)) (s : Shared) (σ : St) (H : Hp) (o i v : V) (ov iv u : Value) (Q : Hp → Prop), Inv X pins σ H s → RelV o ov → RelV i iv → RelV v u → t o i v H Q →
    wpAny (model X.prog X.w) X.A (setItem ov iv u) (fun _ s' => ∃ H', Inv X pins σ H' s' ∧ Q H') X.xe s
section
variable {X : Cx} {pos : Pos}
def gName (i : Nat) : TG := fun v σ H Q => Q (σ.set i (some v)) H
theorem pg_name {i : Nat} {x : Str} (hN : X.N.Nodup) (hi : X.N[i]? = some x) (hx : Loc X.env.scope x) (hf : X.fn x = true ∨ X.env.scope.names.lookup x = some .local := by first | exact .inl rfl | exact .inr rfl | assumption) : PG X (.Name x pos) (gName i) := by
  intro pins s σ H v u Q I r h
  exact wpAny_assign_Name (store_ok I hN hi hx r (fun s' I' => ⟨_, H, I', h⟩) hf)
def gNil : TGs := fun vs σ H Q => vs = [] ∧ Q σ H
def gCons (t : TG) (u : TGs) : TGs := fun vs σ H Q => ∃ v r, vs = v :: r ∧ t v σ H fun σ' H' => u r σ' H' Q
theorem pgs_nil : PGs X [] gNil := by
  intro pins s σ H vs us Q I r h
  obtain ⟨e, h⟩ := h
  subst e
  cases r
  exact assignInOrder_nil ⟨σ, H, I, h⟩
theorem pgs_cons {e : Expr} {es : List Expr} {t : TG} {u : TGs} (h1 : PG X e t) (h2 : PGs X es u)
    (hs : (assignEach (e :: es) X.env).map (·.2) = assign e X.env :: (assignEach es X.env).map (·.2) := by rfl) : PGs X (e :: es) (gCons t u) := by
  intro pins s σ H vs us Q I r h
  obtain ⟨v, vr, e1, h⟩ := h
  subst e1
  cases r with
  | cons r rr =>
    rw [hs]
    refine assignInOrder_cons (thn (h1 pins s σ H _ _ _ I r h) fun _ s1 ⟨σ1, H1, I1, q1⟩ => ?_)
    exact h2 pins s1 σ1 H1 _ _ Q I1 rr q1
/-- (a, b, ..) = a tuple of that length -/
def gTup (K : PySem.W.Frag) (n : Nat) (t : TGs) : TG := fun v σ H Q => ∃ a xs, v = .ref a ∧ SqT K H a xs ∧ xs.length = n ∧ t xs σ H Q
theorem pg_tup {es : List Expr} {k : Nat} {t : TGs} {n : Nat} (hc : X.calm = true) (h : PGs X es t)
    (hn : (assignEach es X.env).length = n := by rfl) (hst : (assignEach es X.env).findIdx? (·.1) = none := by rfl) : PG X (.Tuple es k pos) (gTup X.K n t) := by
  intro pins s σ H v u Q I r hw
  obtain ⟨a, xs, e1, hq, hl, hw⟩ := hw
  subst e1
  cases r
  obtain ⟨its, rv, ht, hz⟩ := I.tuple hq
  refine assign_Tuple_tuple (I.ok.hd hc) ht (by simp [hn, ← hl, rv.length]) hst fun h' hx => ?_
  have I1 : Inv X pins σ H { s with heap := h' } := I.kept (t' := s.toks) fun b o e => hx b o (Nat.ne_of_lt (Heap.lt_size e)) e
  exact h pins _ σ H xs _ Q I1 (by simpa using rv) hw
/-- o[i] = .. -/
def gSub (to ti : TE) (t : TSet) : TG := fun v σ H Q => to σ H fun o H1 => ti σ H1 fun i H2 => t o i v H2 fun H3 => Q σ H3
theorem pg_sub {o i : Expr} {to ti : TE} {t : TSet} (ho : PE X o to) (hi : PE X i ti) (hs : PSet X t)
    (ha : ∀ v, assign (.Subscript o i pos) X.env v = (do
      let ov ← holding [v] (eval o X.env)
      let iv ← holding [v, ov] (eval i X.env)
      standAt pos
      holding [v, ov, iv] (setItem ov iv v)
      release [v, ov, iv] []) := by intro _; rfl) : PG X (.Subscript o i pos) (gSub to ti t) := by
  intro pins s σ H v u Q I r h
  rw [ha]
  refine wpAny_bind (wpAny_holding (thn (ho pins s σ H _ I h) fun ov s1 ⟨x, H1, I1, r1, q1⟩ => ?_))
  refine wpAny_bind (wpAny_holding (thn (hi pins s1 σ H1 _ I1 q1) fun iv s2 ⟨y, H2, I2, r2, q2⟩ => ?_))
  refine wpAny_bind (wpAny_standAt (wpAny_bind (wpAny_holding (thn (hs pins s2 σ H2 x y v ov iv u _ I2 r1 r2 r q2) fun _ s3 ⟨H3, I3, q3⟩ => ?_))))
  exact wpAny_release ⟨σ, H3, I3, q3⟩
/-- target = value -/
def tAsg (te : TE) (g : TG) : TS := fun D σ H => te σ H fun x H1 => g x σ H1 D.nx
theorem ps_asg {tg e : Expr} {te : TE} {g : TG} (he : PE X e te) (hg : PG X tg g) (hs : swapsWithSole [tg] e pos.line X.env = pure false := by rfl) (hw : swappedStores [tg] e X.env = pure none := by rfl)
    (h1 : (assignEach [tg] X.env).map (·.2) = [assign tg X.env] := by rfl) : PS X (.Assign [tg] e pos) (tAsg te g) := by
  intro pins s σ H D I h
  refine wpAny_Assign_stores (thn (he pins s σ H _ I h) fun v s1 ⟨x, H1, I1, r1, q1⟩ => ?_) hs hw
  rw [h1]
  exact thn (hg pins s1 σ H1 x v _ I1 r1 q1) fun _ s2 q => q
/-- name = value -/
theorem ps_set {i : Nat} {x : Str} {e : Expr} {te : TE} {pos' : Pos} (hN : X.N.Nodup) (hi : X.N[i]? = some x) (hx : Loc X.env.scope x) (he : PE X e te) (hs : swapsWith e (some (.Name x pos')) pos.line X.env = pure false := by rfl) (hf : X.fn x = true ∨ X.env.scope.names.lookup x = some .local := by first | exact .inl rfl | exact .inr rfl | assumption) :
    PS X (.Assign [.Name x pos'] e pos) (tAsg te (gName i)) := by
  intro pins s σ H D I h
  refine wpAny_Assign_Name (thn (he pins s σ H _ I h) fun v s1 ⟨y, H1, I1, r1, q1⟩ => ?_) hs
  exact store_ok I1 hN hi hx r1 (fun s2 I2 => ⟨_, H1, I2, q1⟩) hf
end

section
variable {X : Cx} {pos : Pos}
/-- the invariant W with its measure -/
def tWhile (c : TT) (tb : TS) : TS := fun D σ H => ∃ W : Nat → St → Hp → Prop, (∃ m, W m σ H) ∧ ∀ m σ H, W m σ H →
  c σ H fun b H1 => if b = true then ∃ N : St → Hp → Prop, (∀ σ' H', N σ' H' → ∃ m', m' < m ∧ W m' σ' H') ∧ tb { D with nx := N, ct := N, bk := D.nx } σ H1 else D.nx σ H1
theorem ps_while {c : Expr} {body : List Stmt} {tc : TT} {tb : TS} (hp : PassesOwn (model X.prog X.w) X.A X.env X.xe) (hc : PT X c tc) (hb : PSs X body tb) : PS X (.While c body [] pos) (tWhile tc tb) := by
  intro pins s σ H D I h
  obtain ⟨W, ⟨m0, w0⟩, turn⟩ := h
  refine wpAny_While (codeAny_whileLoop (fun n s' => ∃ σ' H', Inv X pins σ' H' s' ∧ W n σ' H') ?_ m0 ⟨σ, H, I, w0⟩)
  rintro n s1 ⟨σ1, H1, I1, w1⟩
  refine wpAny_passesOwn hp (thn (hc pins s1 σ1 H1 _ I1 (turn n σ1 H1 w1)) fun b s2 ⟨H2, I2, q2⟩ => ?_)
  cases b with
  | true =>
    obtain ⟨N, hN, q2⟩ := q2
    rw [if_pos rfl]
    refine wpAny_passesOwn hp (thn (hb pins s2 σ1 H2 _ I2 q2) fun f s3 q3 => ?_)
    cases f with
    | next =>
      obtain ⟨σ3, H3, I3, n3⟩ := q3
      obtain ⟨m', hm, w3⟩ := hN σ3 H3 n3
      exact ⟨m', hm, σ3, H3, I3, w3⟩
    | cont =>
      obtain ⟨σ3, H3, I3, n3⟩ := q3
      obtain ⟨m', hm, w3⟩ := hN σ3 H3 n3
      exact ⟨m', hm, σ3, H3, I3, w3⟩
    | brk => exact q3
    | ret v => exact q3
  | false =>
    rw [if_neg Bool.false_ne_true]
    exact wpAny_execs_nil ⟨σ1, H2, I2, q2⟩
end

/-- at turn i: it yields x (the heap may grow), or it stops -/
structure It where
  go : Nat → Hp → Prop
  yld : Nat → Hp → V → Hp → Prop
  stop : Nat → Hp → Prop
/-- the iterator's own objects may turn: they are not the frame's, not pinned, younger than the entry (or a comprehension's own) -/
def FpOk (X : Cx) (pins : List (Addr × Obj)) (H : Hp) (b : Addr) : Prop :=
  H b = none ∧ b ≠ X.env.locals ∧ b ∉ X.fs ∧ (b ∈ X.ex ∨ X.s₀.heap.objs.size ≤ b) ∧ (∀ x c, X.env.cells.lookup x = some c → c ≠ b) ∧ ∀ p ∈ X.pn ++ pins, p.1 ≠ b
theorem Inv.fpOk {X : Cx} {pins : List (Addr × Obj)} {σ : St} {H H' : Hp} {s : Shared} {b : Addr} (I : Inv X pins σ H s) (hb : s.heap.objs.size ≤ b) (hn : H' b = none) : FpOk X pins H' b := by
  refine ⟨hn, Nat.ne_of_gt (Nat.lt_of_lt_of_le I.lt hb), I.nofs hb, .inr (Nat.le_trans I.sz hb), fun x c e z => ?_, fun p hp z => ?_⟩
  · obtain ⟨v, q⟩ := I.cell x c e
    exact absurd (Nat.lt_of_lt_of_le q.lt (by rw [z]; exact hb)) (Nat.lt_irrefl _)
  · exact absurd (Nat.lt_of_lt_of_le (Heap.lt_size (I.pin p hp).1) (by rw [z]; exact hb)) (Nat.lt_irrefl _)
structure Turn (P : Program) (w : World) (K : PySem.W.Frag) (tg : Expr) (J : It) (fp : List Addr) (it : Addr) (tn : Nat → Heap → Prop) : Prop where
  mem : it ∈ fp
  obj : ∀ i h, tn i h → ∀ b ∈ fp, ∃ o, h.get? b = some o ∧ ∀ v, o.data ≠ .cell v
  keep : ∀ i h h', tn i h → (∀ b ∈ fp, ∀ o, h.get? b = some o → h'.get? b = some o) → tn i h'
  item : ∀ (X : Cx), X.prog = P → X.w = w → X.K = K → X.calm = true → ∀ (i : Nat) (pins : List (Addr × Obj)) (s : Shared) (σ : St) (H : Hp) (E : Value → Shared → Prop), Inv X pins σ H s → (∀ b ∈ fp, FpOk X pins H b) → tn i s.heap → J.go i H →
    wpAny (model P w) X.A (pyNext (.ref it)) (fun r s1 => ∃ u, r = some u ∧
      wpAny (model P w) X.A (letOwnedTupleGo tg (.ref it) u) (fun _ s2 => ∃ x H', Inv X pins σ H' s2 ∧ RelV x u ∧ J.yld i H x H' ∧ tn (i + 1) s2.heap ∧ ∀ b ∈ fp, H' b = none) E s1) E s
  done : ∀ (X : Cx), X.prog = P → X.w = w → X.K = K → X.calm = true → ∀ (i : Nat) (pins : List (Addr × Obj)) (s : Shared) (σ : St) (H : Hp) (E : Value → Shared → Prop), Inv X pins σ H s → (∀ b ∈ fp, FpOk X pins H b) → tn i s.heap → J.stop i H →
    wpAny (model P w) X.A (pyNext (.ref it)) (fun r s1 => r = none ∧ Inv X pins σ H s1) E s
  self : ∀ (A : Around) (i : Nat) (s : Shared) (Q : Value → Shared → Prop) (E : Value → Shared → Prop), tn i s.heap → Q (.ref it) s → wpAny (model P w) A (pyIter (.ref it)) Q E s
abbrev TI := St → Hp → (It → Hp → Prop) → Prop
/-- an iterator has come -/
def PIE (X : Cx) (pins : List (Addr × Obj)) (σ : St) (tg : Expr) (R : It → Hp → Prop) (itv : Value) (s2 : Shared) : Prop :=
  ∃ (it : Addr) (fp : List Addr) (tn : Nat → Heap → Prop) (J : It) (H' : Hp), itv = .ref it ∧ Inv X pins σ H' s2 ∧ Turn X.prog X.w X.K tg J fp it tn ∧ tn 0 s2.heap ∧ (∀ b ∈ fp, FpOk X pins H' b) ∧ R J H'
def PI (X : Cx) (tg iter : Expr) (wi : TI) : Prop :=
  ∀ (pins : List (Addr × Obj)) (s : Shared) (σ : St) (H : Hp) (R : It → Hp → Prop), Inv X pins σ H s → wi σ H R →
    wpAny (model X.prog X.w) X.A (eval iter X.env) (fun v s1 => wpAny (model X.prog X.w) X.A (pyIter v) (PIE X pins σ tg R) X.xe s1) X.xe s

/-- the step ahead of the store is nothing for an iterator that keeps no tuple -/
theorem go_of {M : Model} {A : Around} {E : Value → Shared → Prop} {s : Shared} {tg : Expr} {it : Addr} {u : Value} {o : Obj} {n : String} {vs : Array Value} {Q : Unit → Shared → Prop} (ho : s.heap.get? it = some o) (hc : o.cls = .type n) (hd : o.data = .fields vs)
    (hn : ["enumerate", "zip", "dict_itemiterator", "dict_reverseitemiterator", "odict_iterator", "itertools.zip_longest", "itertools.pairwise"].contains n = false) (hQ : Q () s) : wpAny M A (letOwnedTupleGo tg (.ref it) u) Q E s := by
  unfold letOwnedTupleGo
  cases tg <;> first
    | exact wpAny_pure hQ
    | (cases u <;> first
        | exact wpAny_pure hQ
        | (refine wpAny_bind (wpAny_load ho ?_)
           rw [hc, hd]
           show wpAny M A (if (["enumerate", "zip", "dict_itemiterator", "dict_reverseitemiterator", "odict_iterator", "itertools.zip_longest", "itertools.pairwise"].contains n && vs[0]? == some (rawInt _)) = true then _ else _) Q E s
           rw [if_neg (by intro h; rw [hn, Bool.false_and] at h; cases h)]
           exact wpAny_pure hQ))

/-- the list at a, as it stands at each turn (a loop may append to it) -/
def Itl (K : PySem.W.Frag) (a : Addr) : It :=
  ⟨fun i H => ∃ xs x, SqL K H a xs ∧ xs[i]? = some x, fun i H x H' => H' = H ∧ ∀ xs, SqL K H a xs → xs[i]? = some x, fun i H => ∃ xs, SqL K H a xs ∧ xs.length ≤ i⟩
/-- lo, lo + 1, .. (n of them) -/
def Itr (lo : Int) (n : Nat) : It := ⟨fun i _ => i < n, fun i H x H' => H' = H ∧ x = .int (lo + i), fun i _ => n ≤ i⟩
theorem turn_list {P : Program} {w : World} {K : PySem.W.Frag} {tg : Expr} (a it : Addr) : Turn P w K tg (Itl K a) [it] it (fun i h => h.IsListIter it a i) where
  mem := by simp
  obj := fun i h st b hb => by
    have e : b = it := by simpa using hb
    subst e
    obtain ⟨o, e, c, d⟩ := st
    exact ⟨o, e, fun v z => by rw [d] at z; cases z⟩
  keep := fun i h h' st k => st.at fun o e => k it (by simp) o e
  item := by
    intro X hP hw hK hc i pins s σ H E I hf st hg
    subst hP hw hK
    obtain ⟨xs, x, hq, hx⟩ := hg
    obtain ⟨its, rv, p, hz⟩ := I.list hq
    obtain ⟨u, hu, ru⟩ := rv.get hx
    obtain ⟨f0, f1, f2, f3, f4, f5⟩ := hf it (by simp)
    refine wpAny_pyNext_list_item st p.isList (x := u) (by simpa using hu) fun h' st' sb => ?_
    have I1 : Inv X pins σ H { s with heap := h' } := I.turned (t' := s.toks) (fun b o hb e => (sb.2 b hb).trans e) f0 f1 f3 f4 f5
    obtain ⟨o, e, c, d⟩ := id st'
    exact ⟨u, rfl, go_of (s := { s with heap := h' }) e c d (by decide) ⟨x, H, I1, ru, ⟨rfl, fun ys hy => by rw [I.list_inj hy hq]; exact hx⟩, st', fun b hb => (hf b hb).1⟩⟩
  done := by
    intro X hP hw hK hc i pins s σ H E I hf st hg
    subst hP hw hK
    obtain ⟨xs, hq, hx⟩ := hg
    obtain ⟨its, rv, p, hz⟩ := I.list hq
    obtain ⟨f0, f1, f2, f3, f4, f5⟩ := hf it (by simp)
    have hl := rv.length
    exact wpAny_pyNext_list_end (I.ok.hd hc) st p.isList (by simp; omega) fun h' eb => ⟨rfl, I.turned (t' := s.toks) (fun b o hb e => eb b o hb e) f0 f1 f3 f4 f5⟩
  self := fun _ _ _ _ _ st h => wpAny_pyIter_listiter st h
theorem turn_range {P : Program} {w : World} {K : PySem.W.Frag} {tg : Expr} (it : Addr) (lo : Int) (n : Nat) : Turn P w K tg (Itr lo n) [it] it (fun i h => IsRangeIter h it (lo + (i : Nat) * 1) ((n : Int) - (i : Nat)) 1) where
  mem := by simp
  obj := fun i h st b hb => by
    have e : b = it := by simpa using hb
    subst e
    exact ⟨_, st, fun v z => by
      have z' : Data.fields _ = Data.cell v := z
      cases z'⟩
  keep := fun i h h' st k => k it (by simp) _ st
  item := by
    intro X hP hw hK hc i pins s σ H E I hf st hg
    subst hP hw hK
    obtain ⟨f0, f1, f2, f3, f4, f5⟩ := hf it (by simp)
    have W := Walks.range (prog := X.prog) (w := X.w) (I.ok.hd hc) it lo 1 n
    refine W.item i s _ _ hg st fun v h' tk hv st' kk => ?_
    obtain ⟨t, rfl⟩ := hv
    have I1 : Inv X pins σ H { s with heap := h', toks := tk } := I.turned (fun b o hb e => kk b o (by simpa using hb) e) f0 f1 f3 f4 f5
    refine ⟨_, rfl, go_of (s := { s with heap := h', toks := tk }) (n := "range_iterator") st' rfl rfl (by decide) ⟨.int (lo + i), H, I1, ⟨t, ?_⟩, ⟨rfl, rfl⟩, st', fun b hb => (hf b hb).1⟩⟩
    rw [Int.mul_one]
  done := by
    intro X hP hw hK hc i pins s σ H E I hf st hg
    subst hP hw hK
    obtain ⟨f0, f1, f2, f3, f4, f5⟩ := hf it (by simp)
    exact wpAny_pyNext_range_end (I.ok.hd hc) st (by have : n ≤ i := hg; omega) fun h' eb => ⟨rfl, I.turned (t' := s.toks) (fun b o hb e => eb b o hb e) f0 f1 f3 f4 f5⟩
  self := fun _ _ _ _ _ st h => wpAny_pyIter_rangeiter st h
end L2

namespace L2
open PySem PySem.Spec PyProof.Rows
section
variable {X : Cx} {tg : Expr}
def iList (K : PySem.W.Frag) (tl : TE) : TI := fun σ H R => tl σ H fun x H1 => ∃ a, x = .ref a ∧ (∃ xs, SqL K H1 a xs) ∧ R (Itl K a) H1
theorem pi_list {l : Expr} {tl : TE} (hl : PE X l tl) : PI X tg l (iList X.K tl) := by
  intro pins s σ H R I h
  refine thn (hl pins s σ H _ I h) fun v s1 ⟨x, H1, I1, r1, q1⟩ => ?_
  obtain ⟨a, e, ⟨xs, hq⟩, q⟩ := q1
  subst e
  cases r1
  obtain ⟨its, rv, p, hz⟩ := I1.list hq
  refine wpAny_pyIter_list p.isList ?_
  refine ⟨s1.heap.objs.size, [s1.heap.objs.size], _, _, H1, rfl, I1.kept (t' := s1.toks) fun b o e => Heap.get?_push_of_some _ e, turn_list a _, ⟨_, Heap.get?_push_size _ rfl, rfl, rfl⟩, fun b hb => ?_, q⟩
  have e : b = s1.heap.objs.size := by simpa using hb
  subst e
  exact I1.fpOk (Nat.le_refl _) (I1.hok.fresh (Nat.le_refl _))
/-- a range object just made, walked -/
theorem range_it {pins : List (Addr × Obj)} {σ : St} {H : Hp} {s : Shared} {R : It → Hp → Prop} {E : Value → Shared → Prop} {lo hi : Int} {t u v : Tok} {tk : Nat} (I : Inv X pins σ H s) (h1 : -(2 ^ 62) ≤ lo) (h2 : lo < 2 ^ 62) (h3 : -(2 ^ 62) ≤ hi) (h4 : hi < 2 ^ 62)
    (q : R (Itr lo (hi - lo).toNat) H) : wpAny (model X.prog X.w) X.A (pyIter (.ref s.heap.objs.size)) (PIE X pins σ tg R) E { s with heap := s.heap.push { cls := .type "range", data := .fields #[.int lo t, .int hi u, .int 1 v] }, toks := tk } := by
  refine wpAny_pyIter_range (IsRange.new ..) (small_one h1 h2 h3 h4) ?_
  have I1 : Inv X pins σ H { s with heap := s.heap.push { cls := .type "range", data := .fields #[.int lo t, .int hi u, .int 1 v] }, toks := tk } := I.kept fun b o e => Heap.get?_push_of_some _ e
  refine ⟨(s.heap.push { cls := .type "range", data := .fields #[.int lo t, .int hi u, .int 1 v] }).objs.size, [(s.heap.push { cls := .type "range", data := .fields #[.int lo t, .int hi u, .int 1 v] }).objs.size], _, _, H, rfl,
    I1.kept (t' := tk) fun b o e => Heap.get?_push_of_some _ e, turn_range _ lo (hi - lo).toNat, ?_, fun b hb => ?_, q⟩
  · have e1 : lo + ((0 : Nat) : Int) * 1 = lo := by simp
    have e2 : (((hi - lo).toNat : Nat) : Int) - ((0 : Nat) : Int) = Builtin.Range.rangeSize lo hi 1 := by rw [rangeSize_one]; split <;> omega
    show IsRangeIter _ _ (lo + ((0 : Nat) : Int) * 1) ((((hi - lo).toNat : Nat) : Int) - ((0 : Nat) : Int)) 1
    rw [e1, e2]
    exact Heap.get?_push_size _ rfl
  · have e : b = (s.heap.push { cls := .type "range", data := .fields #[.int lo t, .int hi u, .int 1 v] }).objs.size := by simpa using hb
    subst e
    exact I1.fpOk (Nat.le_refl _) (I1.hok.fresh (Nat.le_refl _))
def iRng1 (ta : TA) : TI := fun σ H R => ta σ H fun vs H1 => ∃ j : Int, vs = [.int j] ∧ -(2 ^ 62) ≤ j ∧ j < 2 ^ 62 ∧ R (Itr 0 j.toNat) H1
theorem pi_range1 {a : Expr} {ta : TA} {p pos : Pos} (hg : Gl X "range") (hm : X.mg "range" = none) (ha : PA X [a] ta) (hs : starEach [a] X.env = [(false, eval a X.env)] := by rfl) : PI X tg (.Call (.Name "range" p) [a] [] pos) (iRng1 ta) := by
  intro pins s σ H R I h
  refine Call_ (ld_blt I hg hm boot_range (PyProof.Rows.callWith_type1 (thn (ha pos pins s σ H _ I h) fun us s1 ⟨vs, H1, I1, r1, q1⟩ => ?_) hs rfl))
  obtain ⟨j, e, q1, q2, q⟩ := q1
  subst e
  cases r1 with
  | cons r rr =>
    cases rr
    obtain ⟨t, rfl⟩ := r
    exact call_range_1 (range_it I1 (by omega) (by omega) q1 q2 (by simpa using q))
/-- W: the invariant by the turn and a measure; N: what the body is to reach -/
def tFor (wi : TI) (g : TG) (tb : TS) : TS := fun D σ H => wi σ H fun J H1 => ∃ W : Nat → Nat → St → Hp → Prop, (∃ m, W 0 m σ H1) ∧ ∀ i m σ H, W i m σ H →
  (J.stop i H ∧ D.nx σ H) ∨ (J.go i H ∧ ∃ N : St → Hp → Prop, (∀ σ' H', N σ' H' → ∃ m', m' < m ∧ W (i + 1) m' σ' H') ∧ ∀ x H', J.yld i H x H' → g x σ H' fun σ2 H2 => tb { D with nx := N, ct := N, bk := D.nx } σ2 H2)
/-- the records at fp as they stand -/
def pinsAt (fp : List Addr) (h : Heap) : List (Addr × Obj) := fp.filterMap fun b => (h.get? b).map fun o => (b, o)
theorem mem_pinsAt {fp : List Addr} {h : Heap} {b : Addr} {o : Obj} (hb : b ∈ fp) (e : h.get? b = some o) : (b, o) ∈ pinsAt fp h := List.mem_filterMap.mpr ⟨b, hb, by rw [e]; rfl⟩
theorem of_pinsAt {fp : List Addr} {h : Heap} {p : Addr × Obj} (hp : p ∈ pinsAt fp h) : p.1 ∈ fp ∧ h.get? p.1 = some p.2 := by
  obtain ⟨b, hb, e⟩ := List.mem_filterMap.mp hp
  cases q : h.get? b with
  | none => rw [q] at e; cases e
  | some o =>
    rw [q] at e
    have e' : (b, o) = p := Option.some.inj e
    subst e'
    exact ⟨hb, q⟩
theorem Inv.pinned {pins : List (Addr × Obj)} {σ : St} {H : Hp} {s : Shared} {fp : List Addr} (I : Inv X pins σ H s) (hf : ∀ b ∈ fp, FpOk X pins H b) (ho : ∀ b ∈ fp, ∃ o, s.heap.get? b = some o ∧ ∀ v, o.data ≠ .cell v) : Inv X (pins ++ pinsAt fp s.heap) σ H s :=
  I.pins_of fun p hp => (List.mem_append.mp hp).elim (fun z => I.pin p (List.mem_append_right _ z)) fun z => by
    obtain ⟨hb, e⟩ := of_pinsAt z
    obtain ⟨f0, f1, f2, _⟩ := hf p.1 hb
    obtain ⟨o, e', d⟩ := ho p.1 hb
    rw [e] at e'; cases e'
    exact ⟨e, f0, f1, f2, d⟩
theorem Inv.unpinned {pins pl : List (Addr × Obj)} {σ : St} {H : Hp} {s : Shared} (I : Inv X (pins ++ pl) σ H s) : Inv X pins σ H s := I.pins_of fun p hp => I.pin p (List.mem_append_right _ (List.mem_append_left _ hp))
theorem ps_for {iter : Expr} {body : List Stmt} {wi : TI} {g : TG} {tb : TS} {pos : Pos} (hp : PassesOwn (model X.prog X.w) X.A X.env X.xe) (hc : X.calm = true) (hi : PI X tg iter wi) (hg : PG X tg g) (hb : PSs X body tb)
    (hs : ∀ x, foldedSetIterable iter X.env x = pure x := by intro _; rfl) : PS X (.For tg iter body [] pos) (tFor wi g tb) := by
  intro pins s σ H D I h
  refine wpAny_For (thn (hi pins s σ H _ I h) fun v s1 h1 => thn h1 fun itv s2 h2 => ?_) hs
  obtain ⟨it, fp, tn, J, H2, e, I2, T, st2, f2, W, ⟨m0, w0⟩, turn⟩ := h2
  subst e
  -- what stays true of the iterator's objects through the loop
  have stat : ∀ {H' : Hp}, (∀ b ∈ fp, H' b = none) → ∀ b ∈ fp, FpOk X pins H' b := fun hn b hb => ⟨hn b hb, (f2 b hb).2⟩
  refine codeAny_forLoop_any (fun n s' => ∃ i σ' H', Inv X pins σ' H' s' ∧ tn i s'.heap ∧ (∀ b ∈ fp, H' b = none) ∧ W i n σ' H') ?_ m0 ⟨0, σ, H2, I2, st2, fun b hb => (f2 b hb).1, w0⟩
  rintro n s3 ⟨i, σ3, H3, I3, st3, fr3, w3⟩
  rcases turn i n σ3 H3 w3 with ⟨stop, qn⟩ | ⟨go, N, hN, step⟩
  · refine wpAny_passesOwn hp (thn (T.done X rfl rfl rfl hc i pins s3 σ3 H3 X.xe I3 (stat fr3) st3 stop) fun r s4 ⟨hr, I4⟩ => ?_)
    subst hr
    exact wpAny_execs_nil ⟨σ3, H3, I4, qn⟩
  · refine wpAny_passesOwn hp (thn (T.item X rfl rfl rfl hc i pins s3 σ3 H3 X.xe I3 (stat fr3) st3 go) fun r s4 ⟨u, hr, h4⟩ => ?_)
    subst hr
    refine wpAny_passesOwn hp (thn h4 fun _ s5 ⟨x, H5, I5, r5, y5, st5, fr5⟩ => ?_)
    have I5' := I5.pinned (stat fr5) (T.obj _ _ st5)
    refine wpAny_passesOwn hp (thn (hg _ s5 σ3 H5 x u _ I5' r5 (step x H5 y5)) fun _ s6 ⟨σ6, H6, I6, q6⟩ => ?_)
    refine wpAny_passesOwn hp (thn (hb _ s6 σ6 H6 _ I6 q6) fun f s7 q7 => ?_)
    have again : ∀ {σ7 : St} {H7 : Hp}, Inv X (pins ++ pinsAt fp s5.heap) σ7 H7 s7 → N σ7 H7 → ∃ m, m < n ∧ ∃ i σ' H', Inv X pins σ' H' s7 ∧ tn i s7.heap ∧ (∀ b ∈ fp, H' b = none) ∧ W i m σ' H' := fun {σ7 H7} I7 n7 => by
      obtain ⟨m', hm, w7⟩ := hN σ7 H7 n7
      refine ⟨m', hm, i + 1, σ7, H7, I7.unpinned, T.keep _ _ _ st5 fun b hb o e => (I7.pin (b, o) (List.mem_append_right _ (List.mem_append_right _ (mem_pinsAt hb e)))).1, fun b hb => ?_, w7⟩
      obtain ⟨o, e, d⟩ := T.obj _ _ st5 b hb
      exact (I7.pin (b, o) (List.mem_append_right _ (List.mem_append_right _ (mem_pinsAt hb e)))).2.1
    cases f with
    | next => obtain ⟨σ7, H7, I7, n7⟩ := q7; exact again I7 n7
    | cont => obtain ⟨σ7, H7, I7, n7⟩ := q7; exact again I7 n7
    | brk => obtain ⟨σ7, H7, I7, q7⟩ := q7; exact ⟨σ7, H7, I7.unpinned, q7⟩
    | ret v => obtain ⟨x7, σ7, H7, I7, r7, q7⟩ := q7; exact ⟨x7, σ7, H7, I7.unpinned, r7, q7⟩
end

/-- over a list that the body leaves as it is -/
theorem for_list {K : PySem.W.Frag} {a : Addr} {xs : List V} {g : TG} {tb : TS} {D : Ends} {σ : St} {H : Hp} (Pv : Nat → St → Hp → Prop) (h0 : Pv 0 σ H) (hl : ∀ i σ H, i ≤ xs.length → Pv i σ H → SqL K H a xs)
    (hs : ∀ i x σ H, xs[i]? = some x → Pv i σ H → g x σ H fun σ2 H2 => tb { D with nx := Pv (i + 1), ct := Pv (i + 1), bk := D.nx } σ2 H2) (hd : ∀ σ H, Pv xs.length σ H → D.nx σ H) :
    ∃ W : Nat → Nat → St → Hp → Prop, (∃ m, W 0 m σ H) ∧ ∀ i m σ H, W i m σ H →
      ((Itl K a).stop i H ∧ D.nx σ H) ∨ ((Itl K a).go i H ∧ ∃ N : St → Hp → Prop, (∀ σ' H', N σ' H' → ∃ m', m' < m ∧ W (i + 1) m' σ' H') ∧ ∀ x H', (Itl K a).yld i H x H' → g x σ H' fun σ2 H2 => tb { D with nx := N, ct := N, bk := D.nx } σ2 H2) := by
  refine ⟨fun i m σ H => m = xs.length - i ∧ i ≤ xs.length ∧ Pv i σ H, ⟨xs.length, by simp, Nat.zero_le _, h0⟩, ?_⟩
  rintro i m σ H ⟨rfl, hi, p⟩
  have q := hl i σ H hi p
  by_cases hlt : i < xs.length
  · refine .inr ⟨⟨xs, xs[i], q, by simp [hlt]⟩, Pv (i + 1), fun σ' H' p' => ⟨xs.length - (i + 1), by omega, rfl, hlt, p'⟩, fun x H' y => ?_⟩
    obtain ⟨e, y⟩ := y
    subst e
    exact hs i x σ _ (y xs q) p
  · have e : i = xs.length := by omega
    subst e
    exact .inl ⟨⟨xs, q, Nat.le_refl _⟩, hd σ H p⟩
theorem for_range {lo : Int} {n : Nat} {g : TG} {tb : TS} {D : Ends} {σ : St} {H : Hp} (Pv : Nat → St → Hp → Prop) (h0 : Pv 0 σ H)
    (hs : ∀ i σ H, i < n → Pv i σ H → g (.int (lo + i)) σ H fun σ2 H2 => tb { D with nx := Pv (i + 1), ct := Pv (i + 1), bk := D.nx } σ2 H2) (hd : ∀ σ H, Pv n σ H → D.nx σ H) :
    ∃ W : Nat → Nat → St → Hp → Prop, (∃ m, W 0 m σ H) ∧ ∀ i m σ H, W i m σ H →
      ((Itr lo n).stop i H ∧ D.nx σ H) ∨ ((Itr lo n).go i H ∧ ∃ N : St → Hp → Prop, (∀ σ' H', N σ' H' → ∃ m', m' < m ∧ W (i + 1) m' σ' H') ∧ ∀ x H', (Itr lo n).yld i H x H' → g x σ H' fun σ2 H2 => tb { D with nx := N, ct := N, bk := D.nx } σ2 H2) := by
  refine ⟨fun i m σ H => m = n - i ∧ i ≤ n ∧ Pv i σ H, ⟨n, by simp, Nat.zero_le _, h0⟩, ?_⟩
  rintro i m σ H ⟨rfl, hi, p⟩
  by_cases hlt : i < n
  · refine .inr ⟨hlt, Pv (i + 1), fun σ' H' p' => ⟨n - (i + 1), by omega, rfl, hlt, p'⟩, fun x H' y => ?_⟩
    obtain ⟨e, y⟩ := y
    subst e y
    exact hs i σ _ hlt p
  · have e : i = n := by omega
    subst e
    exact .inl ⟨Nat.le_refl _, hd σ H p⟩
/-- while, by a word and a measure of the state -/
theorem while_by {c : TT} {tb : TS} {D : Ends} {σ : St} {H : Hp} (Pv : St → Hp → Prop) (μ : St → Hp → Nat) (h0 : Pv σ H)
    (hs : ∀ σ H, Pv σ H → c σ H fun b H1 => if b = true then tb { D with nx := fun σ' H' => Pv σ' H' ∧ μ σ' H' < μ σ H, ct := fun σ' H' => Pv σ' H' ∧ μ σ' H' < μ σ H, bk := D.nx } σ H1 else D.nx σ H1)
    (mono : ∀ σ H Q Q', (∀ b H1, Q b H1 → Q' b H1) → c σ H Q → c σ H Q') : tWhile c tb D σ H := by
  refine ⟨fun m σ H => m = μ σ H ∧ Pv σ H, ⟨_, rfl, h0⟩, ?_⟩
  rintro m σ H ⟨rfl, p⟩
  refine mono σ H _ _ (fun b H1 q => ?_) (hs σ H p)
  cases b with
  | true => exact ⟨_, fun σ' H' ⟨p', l⟩ => ⟨_, l, rfl, p'⟩, q⟩
  | false => exact q
end L2

namespace L2
open PySem PySem.Spec PyProof.Rows

abbrev R2 := V → V → Hp → VK → Prop
/-- a two-place operation on values: f is binaryOp op, inplaceOp op or compareOp op -/
def OpR (X : Cx) (f : Value → Value → Sem Value) (r : R2) : Prop :=
  ∀ (pins : List (Addr × Obj)) (s : Shared) (σ : St) (H : Hp) (x y : V) (v u : Value) (Q : VK), Inv X pins σ H s → RelV x v → RelV y u → r x y H Q →
    wpAny (model X.prog X.w) X.A (f v u) (EP X pins σ Q) X.xe s
/-- a one-place operation -/
def UnR (X : Cx) (f : Value → Sem Value) (r : V → Hp → VK → Prop) : Prop :=
  ∀ (pins : List (Addr × Obj)) (s : Shared) (σ : St) (H : Hp) (x : V) (v : Value) (Q : VK), Inv X pins σ H s → RelV x v → r x H Q →
    wpAny (model X.prog X.w) X.A (f v) (EP X pins σ Q) X.xe s
/-- a call of a value that is known (a builtin, a type) with values -/
def CallR (X : Cx) (f : Value) (r : List V → Hp → VK → Prop) : Prop :=
  ∀ (pins : List (Addr × Obj)) (s : Shared) (σ : St) (H : Hp) (xs : List V) (us : List Value) (Q : VK), Inv X pins σ H s → Vals xs us → r xs H Q →
    wpAny (model X.prog X.w) X.A (call f us) (EP X pins σ Q) X.xe s
/-- a value's truth -/
def TruR (X : Cx) (r : V → Hp → (Bool → Hp → Prop) → Prop) : Prop :=
  ∀ (pins : List (Addr × Obj)) (s : Shared) (σ : St) (H : Hp) (x : V) (v : Value) (Q : Bool → Hp → Prop), Inv X pins σ H s → RelV x v → r x H Q →
    wpAny (model X.prog X.w) X.A (truthy v) (TP X pins σ Q) X.xe s

def tOp (r : R2) (ta tb : TE) : TE := fun σ H Q => ta σ H fun x H1 => tb σ H1 fun y H2 => r x y H2 Q
def tUn (r : V → Hp → VK → Prop) (ta : TE) : TE := fun σ H Q => ta σ H fun x H1 => r x H1 Q
/-- ints in, under C, and a value out -/
def rI (C : Int → Int → Prop) (g : Int → Int → V) : R2 := fun x y H Q => ∃ i j, x = .int i ∧ y = .int j ∧ C i j ∧ Q (g i j) H
def rI0 (g : Int → Int → V) : R2 := fun x y H Q => ∃ i j, x = .int i ∧ y = .int j ∧ Q (g i j) H
def rU (g : Int → V) : V → Hp → VK → Prop := fun x H Q => ∃ i, x = .int i ∧ Q (g i) H

section
variable {X : Cx} {a b c : Expr} {ta tb tc : TE} {pos : Pos}

theorem binT (ha : PE X a ta) (hb : PE X b tb) {pins : List (Addr × Obj)} {s : Shared} {σ : St} {H : Hp} {R : V → V → Hp → Prop} (I : Inv X pins σ H s)
    (h : ta σ H fun x H1 => tb σ H1 fun y H2 => R x y H2) {Q : Value → Shared → Prop} {f : Value → Value → Sem Value}
    (hf : ∀ v u s2 x y H2, Inv X pins σ H2 s2 → RelV x v → RelV y u → R x y H2 → wpAny (model X.prog X.w) X.A (f v u) Q X.xe s2) :
    wpAny (model X.prog X.w) X.A (eval a X.env) (fun v s₁ => wpAny (model X.prog X.w) X.A (eval b X.env) (fun u s₂ => wpAny (model X.prog X.w) X.A (f v u) Q X.xe s₂) X.xe s₁) X.xe s := by
  refine thn (ha pins s σ H _ I h) fun v s1 ⟨x, H1, I1, r1, q1⟩ => ?_
  refine thn (hb pins s1 σ H1 _ I1 q1) fun u s2 ⟨y, H2, I2, r2, q2⟩ => ?_
  exact hf v u s2 x y H2 I2 r1 r2 q2

theorem pe_op {op : Operator} {r : R2} (ho : OpR X (binaryOp op) r) (ha : PE X a ta) (hb : PE X b tb) : PE X (.BinOp a op b pos) (tOp r ta tb) := by
  intro pins s σ H Q I h
  exact wpAny_BinOp (binT ha hb I h fun v u s2 x y H2 I2 rx ry q => ho pins s2 σ H2 x y v u Q I2 rx ry q)
theorem pe_un {op : UnaryOp} {r : V → Hp → VK → Prop} (ho : UnR X (unaryOp op) r) (ha : PE X a ta) : PE X (.UnaryOp op a pos) (tUn r ta) := by
  intro pins s σ H Q I h
  exact UnaryOp_ (thn (ha pins s σ H _ I h) fun v s1 ⟨x, H1, I1, r1, q1⟩ => ho pins s1 σ H1 x v Q I1 r1 q1)
theorem opI {f : Value → Value → Sem Value} {C : Int → Int → Prop} {g : Int → Int → Int}
    (rule : ∀ (i j : Int) (t u : Tok) (s : Shared) (Q : Value → Shared → Prop) (E : Value → Shared → Prop), C i j → Q (.int (g i j) s.toks) { s with toks := s.toks + 1 } → wpAny (model X.prog X.w) X.A (f (.int i t) (.int j u)) Q E s) :
    OpR X f (rI C fun i j => .int (g i j)) := by
  intro pins s σ H x y v u Q I rx ry h
  obtain ⟨i, j, rfl, rfl, hc, q⟩ := h
  obtain ⟨t, rfl⟩ := rx
  obtain ⟨t', rfl⟩ := ry
  exact rule i j t t' s _ _ hc ⟨.int (g i j), H, I.tok _, ⟨_, rfl⟩, q⟩
theorem opI0 {f : Value → Value → Sem Value} {g : Int → Int → Int}
    (rule : ∀ (i j : Int) (t u : Tok) (s : Shared) (Q : Value → Shared → Prop) (E : Value → Shared → Prop), Q (.int (g i j) s.toks) { s with toks := s.toks + 1 } → wpAny (model X.prog X.w) X.A (f (.int i t) (.int j u)) Q E s) :
    OpR X f (rI0 fun i j => .int (g i j)) := by
  intro pins s σ H x y v u Q I rx ry h
  obtain ⟨i, j, rfl, rfl, q⟩ := h
  obtain ⟨t, rfl⟩ := rx
  obtain ⟨t', rfl⟩ := ry
  exact rule i j t t' s _ _ ⟨.int (g i j), H, I.tok _, ⟨_, rfl⟩, q⟩
theorem opB0 {f : Value → Value → Sem Value} {g : Int → Int → Bool}
    (rule : ∀ (i j : Int) (t u : Tok) (s : Shared) (Q : Value → Shared → Prop) (E : Value → Shared → Prop), Q (.bool (g i j)) s → wpAny (model X.prog X.w) X.A (f (.int i t) (.int j u)) Q E s) :
    OpR X f (rI0 fun i j => .bl (g i j)) := by
  intro pins s σ H x y v u Q I rx ry h
  obtain ⟨i, j, rfl, rfl, q⟩ := h
  obtain ⟨t, rfl⟩ := rx
  obtain ⟨t', rfl⟩ := ry
  exact rule i j t t' s _ _ ⟨.bl (g i j), H, I, rfl, q⟩

def CDiv (i j : Int) : Prop := 0 < j ∧ j < 1073741824
def CPow (i j : Int) : Prop := 0 ≤ j ∧ j ≤ 1000000 ∧ i.natAbs < 2 ^ 64
def CMul (i j : Int) : Prop := (-(2 ^ 64) < i ∧ i < 2 ^ 64) ∨ (-(2 ^ 64) < j ∧ j < 2 ^ 64)
theorem CMul.ok {i j : Int} (h : CMul i j) : IntMulOk i j := by
  rcases h with ⟨h1, h2⟩ | ⟨h1, h2⟩
  · exact .of_left (intBits_le_64 h1 h2)
  · exact .of_right (intBits_le_64 h1 h2)
theorem op_add : OpR X (binaryOp .Add) (rI0 fun i j => .int (i + j)) := opI0 fun _ _ _ _ _ _ _ q => add_int q
theorem op_sub : OpR X (binaryOp .Sub) (rI0 fun i j => .int (i - j)) := opI0 fun _ _ _ _ _ _ _ q => sub_int q
theorem op_mul : OpR X (binaryOp .Mult) (rI CMul fun i j => .int (i * j)) := opI fun _ _ _ _ _ _ _ hc q => mul_int q hc.ok
/-- // by a positive divisor -/
theorem op_fdiv : OpR X (binaryOp .FloorDiv) (rI CDiv fun i j => .int (i / j)) := opI fun i j _ _ _ _ _ hc q => by
  have h1 : (0 : Int) < j := hc.1
  have h2 : j < 1073741824 := hc.2
  exact floordiv_int (by omega) (by rw [Int.fdiv_eq_ediv_of_nonneg i (by omega)]; exact q) (.inl (PyProof.noPylong_small (by omega)))
/-- % by a positive divisor of any size -/
theorem op_mod : OpR X (binaryOp .Mod) (rI (fun _ j => 0 < j) fun i j => .int (i % j)) := opI fun i j _ _ _ _ _ hc q => by
  have h1 : (0 : Int) < j := hc
  exact mod_int' (by omega) (by rw [Int.fmod_eq_emod_of_nonneg i (by omega)]; exact q)
theorem op_pow : OpR X (binaryOp .Pow) (rI CPow fun i j => .int (i ^ j.toNat)) := opI fun _ _ _ _ _ _ _ hc q => pow_int_small hc.1 hc.2.1 hc.2.2 q
theorem unI {f : Value → Sem Value} {g : Int → Int}
    (rule : ∀ (i : Int) (t : Tok) (s : Shared) (Q : Value → Shared → Prop) (E : Value → Shared → Prop), Q (.int (g i) s.toks) { s with toks := s.toks + 1 } → wpAny (model X.prog X.w) X.A (f (.int i t)) Q E s) :
    UnR X f (rU fun i => .int (g i)) := by
  intro pins s σ H x v Q I rx h
  obtain ⟨i, rfl, q⟩ := h
  obtain ⟨t, rfl⟩ := rx
  exact rule i t s _ _ ⟨.int (g i), H, I.tok _, ⟨_, rfl⟩, q⟩
theorem un_neg : UnR X (unaryOp .USub) (rU fun i => .int (-i)) := unI fun _ _ _ _ _ q => neg_int q
end

/-- the scalars that == tells apart as data does -/
def scal : V → V → Bool
  | .non, .non => true | .non, .int _ => true | .int _, .non => true | .non, .bl _ => true | .bl _, .non => true | .non, .str _ => true | .str _, .non => true
  | .int _, .int _ => true | .bl _, .bl _ => true | .str _, .str _ => true | .byt _, .byt _ => true
  | .int _, .str _ => true | .str _, .int _ => true | .bl _, .str _ => true | .str _, .bl _ => true
  | _, _ => false
def rEq : R2 := fun x y H Q => scal x y = true ∧ Q (.bl (decide (x = y))) H
theorem dec_int {i j : Int} : decide (V.int i = V.int j) = (i == j) := by
  rw [Bool.eq_iff_iff]
  simp
theorem dec_bl {i j : Bool} : decide (V.bl i = V.bl j) = (i == j) := by
  rw [Bool.eq_iff_iff]
  simp
theorem dec_str {i j : Str} : decide (V.str i = V.str j) = (i == j) := by
  rw [Bool.eq_iff_iff]
  simp
theorem dec_byt {i j : Array UInt8} : decide (V.byt i = V.byt j) = (i.toList == j.toList) := by
  rw [Bool.eq_iff_iff]
  cases i
  cases j
  simp

section
variable {X : Cx} {a b c : Expr} {ta tb tc : TE} {pos : Pos}
theorem fin_bl {pins : List (Addr × Obj)} {σ : St} {H : Hp} {s : Shared} {Q : VK} {k k' : Bool} (I : Inv X pins σ H s) (q : Q (.bl k) H) (e : k = k') : EP X pins σ Q (.bool k') s := by
  subst e
  exact ⟨.bl k, H, I, rfl, q⟩
theorem op_eq : OpR X (compareOp .Eq) rEq := by
  intro pins s σ H x y v u Q I rx ry h
  obtain ⟨hs, q⟩ := h
  cases x with
  | non =>
    cases rx
    cases y with
    | non => cases ry; exact PySem.EqNone.eq_none_none (fin_bl I q (by simp))
    | bl j => cases ry; exact PySem.EqNone.eq_none_bool (fin_bl I q (by simp))
    | int j => obtain ⟨t', rfl⟩ := ry; exact PySem.EqNone.eq_none_int (fin_bl I q (by simp))
    | str j => obtain ⟨t', rfl⟩ := ry; exact PySem.EqNone.eq_none_str (fin_bl I q (by simp))
    | _ => exact absurd (show false = true from hs) Bool.false_ne_true
  | bl i =>
    cases rx
    cases y with
    | non => cases ry; exact PySem.EqNone.eq_bool_none (fin_bl I q (by simp))
    | bl j => cases ry; exact eq_bool (fin_bl I q dec_bl)
    | str j => obtain ⟨t', rfl⟩ := ry; exact PySem.EqMixed.eq_bool_str (fin_bl I q (by simp))
    | _ => exact absurd (show false = true from hs) Bool.false_ne_true
  | int i =>
    obtain ⟨t, rfl⟩ := rx
    cases y with
    | non => cases ry; exact PySem.EqNone.eq_int_none (fin_bl I q (by simp))
    | int j => obtain ⟨t', rfl⟩ := ry; exact eq_int (fin_bl I q dec_int)
    | str j => obtain ⟨t', rfl⟩ := ry; exact PySem.EqMixed.eq_int_str (fin_bl I q (by simp))
    | _ => exact absurd (show false = true from hs) Bool.false_ne_true
  | str i =>
    obtain ⟨t, rfl⟩ := rx
    cases y with
    | non => cases ry; exact PySem.EqNone.eq_str_none (fin_bl I q (by simp))
    | bl j => cases ry; exact PySem.EqMixed.eq_str_bool (fin_bl I q (by simp))
    | int j => obtain ⟨t', rfl⟩ := ry; exact PySem.EqMixed.eq_str_int (fin_bl I q (by simp))
    | str j => obtain ⟨t', rfl⟩ := ry; exact eq_str (fin_bl I q dec_str)
    | _ => exact absurd (show false = true from hs) Bool.false_ne_true
  | byt i =>
    obtain ⟨t, rfl⟩ := rx
    cases y with
    | byt j => obtain ⟨t', rfl⟩ := ry; exact PySem.W.eq_bytes (fin_bl I q dec_byt)
    | _ => exact absurd (show false = true from hs) Bool.false_ne_true
  | _ => cases y <;> exact absurd (show false = true from hs) Bool.false_ne_true
theorem op_lt : OpR X (compareOp .Lt) (rI0 fun i j => .bl (decide (i < j))) := opB0 fun _ _ _ _ _ _ _ q => lt_int q
theorem op_le : OpR X (compareOp .LtE) (rI0 fun i j => .bl (decide (i ≤ j))) := opB0 fun _ _ _ _ _ _ _ q => le_int q
theorem op_gt : OpR X (compareOp .Gt) (rI0 fun i j => .bl (decide (j < i))) := opB0 fun _ _ _ _ _ _ _ q => gt_int q
theorem op_ge : OpR X (compareOp .GtE) (rI0 fun i j => .bl (decide (j ≤ i))) := opB0 fun _ _ _ _ _ _ _ q => ge_int q
/-- is None, is not None: the right side a value none -/
theorem op_isN : OpR X (compareOp .Is) (fun x y H Q => y = .non ∧ Q (.bl (decide (x = .non))) H) := by
  intro pins s σ H x y v u Q I rx ry h
  obtain ⟨rfl, q⟩ := h
  cases ry
  refine is_none_gen (fin_bl I q ?_)
  cases x <;> first
    | (cases rx; rfl)
    | (obtain ⟨t, rfl⟩ := rx; rfl)
theorem op_notN : OpR X (compareOp .IsNot) (fun x y H Q => y = .non ∧ Q (.bl (!decide (x = .non))) H) := by
  intro pins s σ H x y v u Q I rx ry h
  obtain ⟨rfl, q⟩ := h
  cases ry
  refine isnot_none_gen (fin_bl I q ?_)
  cases x <;> first
    | (cases rx; rfl)
    | (obtain ⟨t, rfl⟩ := rx; rfl)

theorem nomark (b : Expr) {op : CmpOp} (h : op ≠ .In := by decide) (h2 : op ≠ .NotIn := by decide) : behindInMarks op b = false := by
  have e1 : (op == CmpOp.In) = false := by cases op <;> first | rfl | exact absurd rfl h
  have e2 : (op == CmpOp.NotIn) = false := by cases op <;> first | rfl | exact absurd rfl h2
  cases b <;> simp [behindInMarks, e1, e2]
/-- a comparison as a value; hm: nomark b, or (for in, not in) by with_unfolding_all rfl -/
theorem pe_cmpR {op : CmpOp} {r : R2} (ho : OpR X (compareOp op) r) (ha : PE X a ta) (hb : PE X b tb) (hm : behindInMarks op b = false) : PE X (.Compare a [op] [b] pos) (tOp r ta tb) := by
  intro pins s σ H Q I h
  exact wpAny_Compare1 (binT ha hb I h fun v u s2 x y H2 I2 rx ry q => ho pins s2 σ H2 x y v u Q I2 rx ry q) hm
/-- a reading of a value as a test -/
def tTest (t : TE) : TT := fun σ H Q => t σ H fun x H' => ∃ k, x = .bl k ∧ Q k H'
theorem pt_cmpR {op : CmpOp} {r : R2} (ho : OpR X (compareOp op) r) (ha : PE X a ta) (hb : PE X b tb) (hm : behindInMarks op b = false) : PT X (.Compare a [op] [b] pos) (tTest (tOp r ta tb)) := by
  intro pins s σ H Q I h
  refine wpAny_isTrue_Compare1 (thn (ha pins s σ H _ I h) fun v s1 ⟨x, H1, I1, r1, q1⟩ => thn (hb pins s1 σ H1 _ I1 q1) fun u s2 ⟨y, H2, I2, r2, q2⟩ =>
    thn (ho pins s2 σ H2 x y v u _ I2 r1 r2 q2) fun c s3 ⟨z, H3, I3, r3, k, e, q3⟩ => ?_) hm
  subst e
  cases r3
  exact wpAny_truthy_bool ⟨H3, I3, q3⟩
/-- a op1 b op2 c -/
def tChain (r r' : R2) (ta tb tc : TE) : TE := fun σ H Q => ta σ H fun x H1 => tb σ H1 fun y H2 => r x y H2 fun z H3 => ∃ k, z = .bl k ∧
  (if k = true then tc σ H3 fun w' H4 => r' y w' H4 Q else Q (.bl false) H3)
theorem pt_chain {op op' : CmpOp} {r r' : R2} (ho : OpR X (compareOp op) r) (ho' : OpR X (compareOp op') r') (ha : PE X a ta) (hb : PE X b tb) (hc : PE X c tc)
    (hm : lastMarks [op, op'] [b, c] = false := by with_unfolding_all rfl) : PT X (.Compare a [op, op'] [b, c] pos) (tTest (tChain r r' ta tb tc)) := by
  intro pins s σ H Q I h
  refine isTrue_chain (thn (ha pins s σ H _ I h) fun v s1 ⟨x, H1, I1, r1, q1⟩ => test_link (thn (hb pins s1 σ H1 _ I1 q1) fun u s2 ⟨y, H2, I2, r2, q2⟩ =>
    thn (ho pins s2 σ H2 x y v u _ I2 r1 r2 q2) fun d s3 ⟨z, H3, I3, r3, k, e, q3⟩ => ?_)) hm
  subst e
  cases r3
  refine wpAny_truthy_bool ?_
  cases k with
  | false =>
    obtain ⟨k', e', q'⟩ := q3
    cases e'
    exact ite_ff ⟨H3, I3, q'⟩
  | true =>
    refine ite_tt (test_last (thn (hc pins s3 σ H3 _ I3 q3) fun w' s4 ⟨z', H4, I4, r4, q4⟩ => thn (ho' pins s4 σ H4 y z' u w' _ I4 r2 r4 q4) fun d' s5 ⟨z2, H5, I5, r5, k2, e2, q5⟩ => ?_))
    subst e2
    cases r5
    exact wpAny_truthy_bool ⟨H5, I5, q5⟩

/-- a value's truth by the abstract heap -/
def TruV (K : PySem.W.Frag) (x : V) (H : Hp) (k : Bool) : Prop :=
  match x with
  | .non => k = false
  | .bl b => k = b
  | .int i => k = (i != 0)
  | .str y => y.length ≤ sizeLine ∧ k = ((y.length : Int) != 0)
  | .byt y => y.size ≤ sizeLine ∧ k = ((y.size : Int) != 0)
  | .ref p => (∃ xs, SqL K H p xs ∧ k = !xs.isEmpty) ∨ (∃ xs, SqT K H p xs ∧ k = !xs.isEmpty) ∨ ∃ kvs, H p = some (.dK kvs) ∧ k = !kvs.isEmpty
  | _ => False
theorem isEmpty_kv {κ : Type} {kvs : List (κ × V)} {vs : List (κ × Value)} (r : KV kvs vs) : (!vs.isEmpty) = !kvs.isEmpty := by
  cases r <;> rfl
theorem isEmpty_of {xs : List V} {its : List Value} (r : Vals xs its) : (!its.toArray.isEmpty) = !xs.isEmpty := by
  cases r <;> simp
theorem line63 : (sizeLine : Nat) < 2 ^ 63 := by rw [sizeLine_eq]; decide
theorem tru_ok : TruR X (fun x H Q => ∃ k, TruV X.K x H k ∧ Q k H) := by
  intro pins s σ H x v Q I rx h
  obtain ⟨k, e, q⟩ := h
  have hl := line63
  have hs : sizeLine = 16777216 := sizeLine_eq
  cases x with
  | non =>
    cases rx
    have e' : k = false := e
    subst e'
    exact truthy_none ⟨H, I, q⟩
  | bl b =>
    cases rx
    have e' : k = b := e
    subst e'
    exact wpAny_truthy_bool ⟨H, I, q⟩
  | int i =>
    obtain ⟨t, rfl⟩ := rx
    have e' : k = (i != 0) := e
    subst e'
    exact PySem.P.truthy_int ⟨H, I, q⟩
  | str y =>
    obtain ⟨t, rfl⟩ := rx
    obtain ⟨hy, e'⟩ : y.length ≤ sizeLine ∧ k = ((y.length : Int) != 0) := e
    subst e'
    exact PySem.P.truthy_str (by omega) ⟨H, I.tok _, q⟩
  | byt y =>
    obtain ⟨t, rfl⟩ := rx
    obtain ⟨hy, e'⟩ : y.size ≤ sizeLine ∧ k = ((y.size : Int) != 0) := e
    subst e'
    exact PySem.W.truthy_bytes (by omega) ⟨H, I.tok _, q⟩
  | ref p =>
    cases rx
    have e' : (∃ xs, SqL X.K H p xs ∧ k = !xs.isEmpty) ∨ (∃ xs, SqT X.K H p xs ∧ k = !xs.isEmpty) ∨ ∃ kvs, H p = some (.dK kvs) ∧ k = !kvs.isEmpty := e
    rcases e' with ⟨xs, hx, e'⟩ | ⟨xs, hx, e'⟩ | ⟨kvs, hx, e'⟩
    · subst e'
      obtain ⟨its, r, pl, hz⟩ := I.list hx
      have hlen := r.length
      exact wpAny_truthy_list pl.isList (by simp only [List.size_toArray]; omega) ⟨H, I.tok _, by rw [isEmpty_of r]; exact q⟩
    · subst e'
      obtain ⟨its, r, pl, hz⟩ := I.tuple hx
      have hlen := r.length
      exact truthy_tuple pl (by simp only [List.size_toArray]; omega) ⟨H, I.tok _, by rw [isEmpty_of r]; exact q⟩
    · subst e'
      obtain ⟨hz, hS, vs, r, m⟩ : kvs.length ≤ sizeLine ∧ (p == sysModules) = false ∧ ∃ vs, KV kvs vs ∧ s.heap.DictOf (mixKind X.prog X.w) p vs := I.hok p _ hx
      have hlen : kvs.length = vs.length := Paired.length r
      exact wpAny_truthy_dict hS m (by omega) ⟨H, I.tok _, by rw [isEmpty_kv r]; exact q⟩
  | _ => exact (show False from e).elim
/-- any expression whose test is its value's truth (a name, a call, a subscript, a field ..: he by fun _ => rfl) -/
theorem pt_truth (ha : PE X a ta) (he : ∀ whole, isTrue a X.env whole = (do let v ← whole; standAt a.pos; holding [v] (truthy v))) :
    PT X a (fun σ H Q => ta σ H fun x H' => ∃ k, TruV X.K x H' k ∧ Q k H') := by
  intro pins s σ H Q I h
  exact isTrue_plain (thn (ha pins s σ H _ I h) fun v s1 ⟨x, H1, I1, r1, q1⟩ => tru_ok pins s1 σ H1 x v Q I1 r1 q1) (he _)

theorem vals1 {x : V} {us : List Value} (r : Vals [x] us) : ∃ u, us = [u] ∧ RelV x u := by
  cases r with
  | cons r1 r2 => cases r2; exact ⟨_, rfl, r1⟩
theorem vals2 {x y : V} {us : List Value} (r : Vals [x, y] us) : ∃ u w', us = [u, w'] ∧ RelV x u ∧ RelV y w' := by
  cases r with
  | cons r1 r2 =>
    cases r2 with
    | cons r3 r4 => cases r4; exact ⟨_, _, rfl, r1, r3⟩
theorem call_abs : CallR X (.builtin "abs") (fun xs H Q => ∃ i, xs = [.int i] ∧ Q (.int (if i < 0 then -i else i)) H) := by
  intro pins s σ H xs us Q I r h
  obtain ⟨i, rfl, q⟩ := h
  obtain ⟨u, rfl, t, rfl⟩ := vals1 r
  exact call_abs_int fun u tk => ⟨.int (if i < 0 then -i else i), H, I.tok _, ⟨_, rfl⟩, q⟩
theorem call_max2 (hc : X.calm = true) : CallR X (.builtin "max") (fun xs H Q => ∃ i j, xs = [.int i, .int j] ∧ Q (.int (if j > i then j else i)) H) := by
  intro pins s σ H xs us Q I r h
  obtain ⟨i, j, rfl, q⟩ := h
  obtain ⟨u, w', rfl, ⟨t, rfl⟩, ⟨t', rfl⟩⟩ := vals2 r
  refine max_two_ints (I.ok.hd hc) fun h' tk k => ⟨_, H, I.kept k, ?_, q⟩
  by_cases hj : j > i
  · rw [if_pos hj, if_pos hj]; exact ⟨_, rfl⟩
  · rw [if_neg hj, if_neg hj]; exact ⟨_, rfl⟩
theorem call_min2 (hc : X.calm = true) : CallR X (.builtin "min") (fun xs H Q => ∃ i j, xs = [.int i, .int j] ∧ Q (.int (if j < i then j else i)) H) := by
  intro pins s σ H xs us Q I r h
  obtain ⟨i, j, rfl, q⟩ := h
  obtain ⟨u, w', rfl, ⟨t, rfl⟩, ⟨t', rfl⟩⟩ := vals2 r
  refine min_two_ints (I.ok.hd hc) fun h' tk k => ⟨_, H, I.kept k, ?_, q⟩
  by_cases hj : j < i
  · rw [if_pos hj, if_pos hj]; exact ⟨_, rfl⟩
  · rw [if_neg hj, if_neg hj]; exact ⟨_, rfl⟩
end
end L2

namespace L2
open PySem PySem.Spec PyProof.Rows

structure ObjM (h : Heap) (x dx C : Addr) (mA : Str → Option Value) : Prop where
  obj : h.get? x = some (PySem.W.instObj C dx)
  ns : h.Ns1 dx mA
  ne : dx ≠ x

theorem lookIn_ns {h : Heap} {dx : Addr} {mA : Str → Option Value} (n : h.Ns1 dx mA) : ∃ od, h.get? dx = some od ∧ ∀ name, PySem.W.lookIn name od = some (mA name) := by
  obtain ⟨o, es, ep, ho, hd, hk, _, hm⟩ := n
  refine ⟨o, ho, fun name => ?_⟩
  have e := hm name
  unfold nsFind findBy at e
  rw [← Array.find?_toList] at e
  unfold PySem.W.lookIn
  rw [hd]
  dsimp only
  split
  · rename_i y q
    rw [q] at e
    exact congrArg some e
  · rename_i q
    rw [q] at e
    have a : es.toList.any (·.refKey) = false := by
      rw [List.any_eq_false]
      intro y hy
      obtain ⟨z, t, hkey⟩ := hk y (Array.mem_toList_iff.mp hy)
      simp [DictEntry.refKey, hkey]
    have a' : ¬ es.toList.any (·.refKey) = true := by rw [a]; exact Bool.false_ne_true
    rw [if_neg a']
    exact congrArg some e

theorem ObjM.look {h : Heap} {x dx C : Addr} {mA : Str → Option Value} (I : ObjM h x dx C mA) : ∃ od, PySem.W.InstAt h x (PySem.W.instObj C dx) C (some od) ∧ ∀ name, PySem.W.lookIn name od = some (mA name) :=
  let ⟨od, ho, hl⟩ := lookIn_ns I.ns
  ⟨od, ⟨I.obj, rfl, rfl, ho⟩, hl⟩

section
variable {prog : Program} {w : World} {A : Around} {E : Value → Shared → Prop} {s : Shared} {K : PySem.W.Frag} {x dx C f : Addr} {mA : Str → Option Value} {name : Str} {v : Value}

end

section
variable {P : Program} {w : World} {H H' : Hp} {h h' : Heap} {a C dx : Addr} {fs fs' : List (Str × V)}
theorem ins_get (hok : HOk P w H h) (e : H a = some (.ins C dx fs)) : ∃ mA, ObjM h a dx C mA ∧ (∀ f, RelO (fs.lookup f) (mA f)) ∧ PySem.Within mA (fs.map (·.1)) ∧ fs.length ≤ 1000 ∧ H dx = some (.own a) := by
  obtain ⟨d, z, ne, ob, mA, n, r, q⟩ := (show ObjOk P w H h a (.ins C dx fs) from hok a _ e)
  exact ⟨mA, ⟨ob, n, ne⟩, r, q, z, d⟩
end

structure Cls (K : PySem.W.Frag) (C : Addr) : Prop where
  pg : PySem.W.plainGet K C Str.empty = true
  hd : PySem.W.hasDictIn K C = true
  po : PySem.W.plainOver K C = true
  sa : PySem.W.findIn K (.ref C) "__setattr__" = some (some (.builtin "object.__setattr__"))
theorem Cls.get {K : PySem.W.Frag} {C : Addr} (c : Cls K C) (f : Str) : PySem.W.plainGet K C f = true := c.pg
section
variable {X : Cx} {pins : List (Addr × Obj)} {σ : St} {H : Hp} {s : Shared} {a C dx : Addr} {fs : List (Str × V)} {f : Str} {v : V} {A : Around} {E : Value → Shared → Prop}

end

section
variable {X : Cx} {o e value : Expr} {f : Str} {pos pos' tpos : Pos} {ta tv : TE}
end

section
variable {X : Cx} {pins : List (Addr × Obj)} {σ : St} {H : Hp} {s : Shared} {A : Around} {E : Value → Shared → Prop} {Q : Value → Shared → Prop} {c : Value} {b : Bool}
/-- the type of a value, as the fragment's deciders take it; for an instance its class -/
inductive TyOf (K : PySem.W.Frag) (H : Hp) : V → Value → Prop where
  | non : TyOf K H .non (.type "NoneType")
  | bl (x : Bool) : TyOf K H (.bl x) (.type "bool")
  | int (i : Int) : TyOf K H (.int i) (.type "int")
  | str (x : Str) : TyOf K H (.str x) (.type "str")
  | flt (x : UInt64) : TyOf K H (.flt x) (.type "float")
  | lst {a : Addr} {xs : List V} (e : H a = some (.lst xs)) : TyOf K H (.ref a) (.type "list")
  | frz {a : Addr} {o : Obj} {xs : List V} (e : H a = some (.frz o (.lst xs))) : TyOf K H (.ref a) (.type "list")
  | tup {a : Addr} {xs : List V} (e : H a = some (.tup xs)) : TyOf K H (.ref a) (.type "tuple")
  | dK {a : Addr} {kvs : List (Key × V)} (e : H a = some (.dK kvs)) : TyOf K H (.ref a) (.type "dict")
  | dT {a : Addr} {kvs : List (List Key × V)} (e : H a = some (.dT kvs)) : TyOf K H (.ref a) (.type "dict")
  | ins {a C dx : Addr} {fs : List (Str × V)} (e : H a = some (.ins C dx fs)) (cl : Cls K C) (ha : PySem.W.findIn K (.ref C) "__class__" = some (some (.builtin "object.__class__")))
      (hn : PySem.W.specialIn K (.builtin "object.__class__") "__get__" = some (some (.builtin "getset_descriptor.__get__"))) (htk : PySem.W.takesIn K (.builtin "object.__class__") = some true)
      (hm : PySem.W.mroIn K C (.type "object") = some true) : TyOf K H (.ref a) (.ref C)
/-- isinstance(x, c) for one class c, a built-in or an own one: kitOne's answer -/
theorem isinst_ok {x : V} {u t : Value} (I : Inv X pins σ H s) (rx : RelV x u) (ty : TyOf X.K H x t) (e : PySem.W.kitOne X.K t c = some b) (h : ∀ tk, Q (.bool b) { s with toks := tk }) :
    wpAny (model X.prog X.w) A (call (.builtin "isinstance") [u, c]) Q E s := by
  cases ty with
  | non => cases (show u = Value.none from rx); exact PySem.W.kia_one PySem.W.kitx_none I.kIn True.intro e (fun z => nomatch z) h
  | bl y => cases (show u = Value.bool y from rx); exact PySem.W.kia_one PySem.W.kitx_bool I.kIn True.intro e (fun z => nomatch z) h
  | int i => obtain ⟨t, q⟩ := (show ∃ t, u = Value.int i t from rx); cases q; exact PySem.W.kia_one PySem.W.kitx_int I.kIn True.intro e (fun z => nomatch z) h
  | str y => obtain ⟨t, q⟩ := (show ∃ t, u = Value.str y t from rx); cases q; exact PySem.W.kia_one PySem.W.kitx_str I.kIn True.intro e (fun z => nomatch z) h
  | flt y => obtain ⟨t, q⟩ := (show ∃ t, u = Value.float y t from rx); cases q; exact PySem.W.kia_one PySem.W.kitx_float I.kIn True.intro e (fun z => nomatch z) h
  | @lst a xs ea =>
    cases (show u = Value.ref a from rx)
    obtain ⟨_, _, n, _, h1⟩ := (show ObjOk X.prog X.w H s.heap a (.lst xs) from I.hok a _ ea)
    exact PySem.W.kia_one PySem.W.kitx_list I.kIn ⟨_, h1, rfl⟩ e (fun z => nomatch z) h
  | @frz a ob xs ea =>
    cases (show u = Value.ref a from rx)
    obtain ⟨_, _, _, n, _, h1⟩ := (show ObjOk X.prog X.w H s.heap a (.frz ob (.lst xs)) from I.hok a _ ea)
    exact PySem.W.kia_one PySem.W.kitx_list I.kIn ⟨_, h1, rfl⟩ e (fun z => nomatch z) h
  | @tup a xs ea =>
    cases (show u = Value.ref a from rx)
    obtain ⟨_, _, _, p⟩ := (show ObjOk X.prog X.w H s.heap a (.tup xs) from I.hok a _ ea)
    obtain ⟨o, h1, h2, _⟩ := p
    exact PySem.W.kia_one PySem.W.kitx_tuple I.kIn ⟨o, h1, h2⟩ e (fun z => nomatch z) h
  | @dK a kvs ea =>
    cases (show u = Value.ref a from rx)
    obtain ⟨_, _, vs, _, p⟩ := (show ObjOk X.prog X.w H s.heap a (.dK kvs) from I.hok a _ ea)
    obtain ⟨o, es, ep, h1, h2, _⟩ := p
    exact PySem.W.kia_one PySem.W.kitx_dict I.kIn ⟨o, h1, h2.1⟩ e (fun z => nomatch z) h
  | @dT a kvs ea =>
    cases (show u = Value.ref a from rx)
    obtain ⟨_, _, xs, _, o, es, ep, h1, h2, _⟩ := (show ObjOk X.prog X.w H s.heap a (.dT kvs) from I.hok a _ ea)
    exact PySem.W.kia_one PySem.W.kitx_dict I.kIn ⟨o, h1, h2.1⟩ e (fun z => nomatch z) h
  | @ins a C dx fs ea cl ha hn htk hm =>
    cases (show u = Value.ref a from rx)
    obtain ⟨mA, O, _⟩ := ins_get I.hok ea
    obtain ⟨od, J, _⟩ := O.look
    exact PySem.W.kia_one (PySem.W.kitx_own (cl.get _) cl.hd ha hn htk hm) I.kIn J e (fun z => nomatch z) h
end
end L2

namespace L2
open PySem PySem.Spec PyProof.Rows

structure Room (k : Nat) (A : Around) : Prop where
  hd : A.handled = none
  dp : A.depth + 3 * k + 5 < recursionLimit
  un : A.units + 16 * k + 200 < cLine
theorem Room.mono {j k : Nat} {A : Around} (r : Room k A) (h : j ≤ k) : Room j A := ⟨r.hd, by have := r.dp; omega, by have := r.un; omega⟩
theorem Room.deeper {k : Nat} {A : Around} (r : Room (k + 1) A) (env : Env) : Room k (A.deeper env) :=
  ⟨r.hd, by have := r.dp; show A.depth + 1 + 3 * k + 5 < _; omega, by have := r.un; show A.units + 3 + 16 * k + 200 < _; omega⟩
theorem Room.depth {k : Nat} {A : Around} (r : Room k A) : A.depth < recursionLimit := by have := r.dp; omega
def tNil : TA := fun _ H Q => Q [] H
def tCons (ta : TE) (tr : TA) : TA := fun σ H Q => ta σ H fun x H1 => tr σ H1 fun xs H2 => Q (x :: xs) H2
section
variable {X : Cx} {e : Expr} {es : List Expr} {te : TE} {t : TA} {pos : Pos}
theorem pa_nil : PA X [] tNil := fun _ _ _ _ H Q I h => Calls.spliced_nil ⟨[], H, I, .nil, h⟩
theorem pa_cons (ha : PE X e te) (hr : PA X es t) (hs : starEach (e :: es) X.env = (false, eval e X.env) :: starEach es X.env := by rfl) : PA X (e :: es) (tCons te t) := by
  intro pos pins s σ H Q I h
  rw [hs]
  show wpAny _ _ (spliced ((false, eval e X.env) :: backTo pos (starEach es X.env))) _ _ s
  refine Calls.spliced_cons (thn (ha pins s σ H _ I h) fun u s1 ⟨x, H1, I1, r1, q1⟩ => ?_)
  exact thn (hr pos pins s1 σ H1 _ I1 q1) fun us s2 ⟨xs, H2, I2, r2, q2⟩ => ⟨x :: xs, H2, I2, .cons r1 r2, q2⟩

/-- a tuple, a list of written items -/
def tTup (t : TA) : TE := fun σ H Q => t σ H fun xs H1 => xs.length ≤ sizeLine ∧ ∀ p, H1 p = none → Q (.ref p) (upd H1 p (.tup xs))
def tLst (t : TA) : TE := fun σ H Q => t σ H fun xs H1 => xs.length ≤ sizeLine ∧ ∀ p, H1 p = none → Q (.ref p) (upd H1 p (.lst xs))
theorem pe_tup {x1} (h : PA X es t) : PE X (.Tuple es x1 pos) (tTup t) := by
  intro pins s σ H Q I hq
  refine wpAny_Tuple_spliced (thn (h pos pins s σ H _ I hq) fun us s1 ⟨xs, H1, I1, r, z, q⟩ => ⟨by rw [← r.length]; exact z, ?_⟩)
  have hf : H1 s1.heap.objs.size = none := I1.hok.fresh (Nat.le_refl _)
  refine ⟨.ref s1.heap.objs.size, upd H1 s1.heap.objs.size (.tup xs), I1.laid (t' := s1.toks) (fun b u e => Heap.get?_push_of_some _ e) (Nat.le_refl _) ?_, rfl, q _ hf⟩
  exact ⟨z, us, r, ⟨_, Heap.get?_push_size _ rfl, rfl, _, rfl⟩⟩
theorem pe_lst (h : PA X es t) : PE X (.List es pos) (tLst t) := by
  intro pins s σ H Q I hq
  refine wpAny_List_spliced (thn (h pos pins s σ H _ I hq) fun us s1 ⟨xs, H1, I1, r, z, q⟩ => ⟨by rw [← r.length]; exact z, ?_⟩)
  have hf : H1 s1.heap.objs.size = none := I1.hok.fresh (Nat.le_refl _)
  refine ⟨.ref s1.heap.objs.size, upd H1 s1.heap.objs.size (.lst xs), I1.laid (t' := s1.toks) (fun b u e => Heap.get?_push_of_some _ e) (Nat.le_refl _) ?_, rfl, q _ hf⟩
  exact ⟨z, us, 0, r, Heap.get?_push_size _ rfl⟩
end

/-- a def's promise: the bound arguments in the parameters' order, the heap, the wanted end, the wanted exception -/
abbrev Sp := List V → Hp → VK → XK → Prop
/-- how an exception lies behind a call (file 08 gives it): the callers' frames, abstract heap and state ahead of the call, the wish, the exception, the state -/
abbrev CXT := List Env → Hp → Shared → XK → Value → Shared → Prop

/-- the state at a call -/
structure Env0 (P : Program) (w : World) (K : PySem.W.Frag) (mg : Str → Option Value) (base : Heap) (A : Around) (outer : List Env) (s : Shared) (H : Hp) : Prop where
  frames : A.frames = some outer
  mod : Mod K mg base
  bs : ∀ b o, base.get? b = some o → s.heap.get? b = some o ∧ H b = none
  bsz : base.objs.size ≤ s.heap.objs.size
  funs : s.heap.FunFrames base outer
  frf : ∀ b ∈ frs outer, H b = none
  hok : HOk P w H s.heap
  bare : AllBare s.gens
/-- a call's end -/
def CE (outer : List Env) (P : Program) (w : World) (H : Hp) (s : Shared) (Q : VK) (u : Value) (s' : Shared) : Prop :=
  ∃ v H', s'.os = s.os ∧ AllBare s'.gens ∧ Un (frs outer) [] H H' s.heap s'.heap ∧ HOk P w H' s'.heap ∧ RelV v u ∧ Q v H'
def CR (CX : CXT) (outer : List Env) (P : Program) (w : World) (H : Hp) (s : Shared) (Q : VK) (E : XK) (r : Result) (s' : Shared) : Prop :=
  match r with
  | .ok (.ret u) => CE outer P w H s Q u s'
  | .ok _ => False
  | .error e => CX outer H s E e s'
structure FnOk (P : Program) (w : World) (K : PySem.W.Frag) (mg : Str → Option Value) (base : Heap) (CX : CXT) (k : Nat) (f : Addr) (fd : FuncData) (ps : List Str) (sp : Sp) : Prop where
  len : ∀ vs H Q E, sp vs H Q E → vs.length = ps.length
  run : ∀ (A : Around) (outer : List Env) (s : Shared) (H : Hp) (args : Args) (us : List Value) (vs : List V) (Q : VK) (E : XK), Room k A → Env0 P w K mg base A outer s H → BindsTo s fd args (ps.zip us) → Vals vs us → sp vs H Q E →
    codeAny (model P w) A (.call (.ref f) args) (CR CX outer P w H s Q E) s
section
variable {X : Cx} {pins : List (Addr × Obj)} {σ : St} {H : Hp} {s s' : Shared}
/-- from a body: what a callee wants -/
theorem Inv.env0 (I : Inv X pins σ H s) : Env0 X.prog X.w X.K X.mg X.base X.A X.stack s H :=
  ⟨I.ok.frames, I.ok.mod, I.bs, Nat.le_trans I.ok.bsz I.sz, I.stack, I.stkFree, I.hok, I.bare⟩
/-- behind a call -/
theorem Inv.after {Q : VK} {u : Value} (I : Inv X pins σ H s) (h : CE X.stack X.prog X.w H s Q u s') : EP X pins σ Q u s' := by
  obtain ⟨v, H', os, bare, un, hok, r, q⟩ := h
  obtain ⟨hh, g, d, t, os'⟩ := s'
  obtain rfl : os' = s.os := os
  exact ⟨v, H', I.call (h' := hh) (g' := g) (d' := d) (t' := t) (ch := []) un hok bare (fun b z => absurd z (by simp)), r, q⟩
end

/-- f(..): the written arguments, then the defaults dvs; E: what is wanted of an exception -/
def tCall (sp : Sp) (dvs : List V) (E : XK) (t : TA) : TE := fun σ H Q => t σ H fun vs H1 => sp (vs ++ dvs) H1 Q E
/-- how the parameters are bound: us the positional arguments, kw the keywords' values by name, ds the defaults that fill up -/
def Binds (K : PySem.W.Frag) (fd : FuncData) (ps : List Str) (ds : List Value) : Prop :=
  ∀ (s : Shared) (us : List Value), K.In s.heap → (us ++ ds).length = ps.length → BindsTo s fd ⟨us, []⟩ (ps.zip (us ++ ds))
/-- every parameter is given -/
theorem Binds.all {K : PySem.W.Frag} {fd : FuncData} {ps : List Str} (h : ∀ us : List Value, us.length = ps.length → bindArgs fd ⟨us, []⟩ = pure (ps.zip us)) : Binds K fd ps [] := fun s us _ hl => by
  rw [List.append_nil] at hl ⊢
  exact .of_eq (h us hl)

/-- an exception of a callee reaches what this body wants of exceptions -/
def Passes (CX : CXT) (X : Cx) (E : XK) : Prop := ∀ (pins : List (Addr × Obj)) (σ : St) (H : Hp) (s : Shared) (e : Value) (s' : Shared), Inv X pins σ H s → CX X.stack H s E e s' → X.xe e s'

section
variable {X : Cx} {CX : CXT} {k : Nat} {f C : Addr} {fd : FuncData} {ps : List Str} {sp : Sp} {dvs : List V} {ds : List Value} {E : XK} {x m : Str} {p pos apos : Pos} {e o : Expr} {es : List Expr} {ta : TE} {t : TA}

/-- the callee runs -/
theorem run_fn {pins : List (Addr × Obj)} {σ : St} {H : Hp} {s : Shared} {Q : VK} {us : List Value} {vs : List V} (F : FnOk X.prog X.w X.K X.mg X.base CX k f fd ps sp) (hr : Room k X.A) (hb : Binds X.K fd ps ds) (hd : Vals dvs ds) (hx : Passes CX X E)
    (I : Inv X pins σ H s) (r : Vals vs us) (h : sp (vs ++ dvs) H Q E) : wpAny (model X.prog X.w) X.A (call (.ref f) us) (EP X pins σ Q) X.xe s := by
  have r2 : Vals (vs ++ dvs) (us ++ ds) := r.append hd
  have hl : (us ++ ds).length = ps.length := by rw [← r2.length]; exact F.len _ _ _ _ h
  refine wpAny_call (codeAny_mono (F.run X.A X.stack s H ⟨us, []⟩ (us ++ ds) (vs ++ dvs) Q E hr I.env0 (hb s us I.kIn hl) r2 h) fun r s' hq => ?_)
  cases r with
  | error e => exact hx pins σ H s e s' I hq
  | ok fl =>
    cases fl with
    | ret u => exact I.after hq
    | next => exact False.elim hq
    | brk => exact False.elim hq
    | cont => exact False.elim hq

theorem pe_call (F : FnOk X.prog X.w X.K X.mg X.base CX k f fd ps sp) (hr : Room k X.A) (hg : Gl X x) (hm : X.mg x = some (.ref f)) (hk : PySem.W.keepIn X.K (.ref f) = true) (hb : Binds X.K fd ps ds) (hd : Vals dvs ds) (hx : Passes CX X E)
    (ha : PA X (e :: es) t) (hdb : (x == ("__debug__" : Str)) = false := by decide) (he : starEach (e :: es) X.env = (false, eval e X.env) :: starEach es X.env := by rfl) (hpl : (backTo pos (starEach es X.env)).any (·.1) = false := by rfl) :
    PE X (.Call (.Name x p) (e :: es) [] pos) (tCall sp dvs E t) := by
  intro pins s σ H Q I h
  refine wpAny_Call_Name_kw (ld_glob I hg hm ?_ hdb)
  refine PySem.W.callWith_K (h₀ := X.base) I.ok.mod.kin hk (thn (ha pos pins s σ H _ I h) fun us s1 ⟨vs, H1, I1, r, q⟩ => ⟨I1.kIn, ?_⟩) he hpl
  exact run_fn F hr hb hd hx I1 r q
end

section
variable {X : Cx} {CX : CXT} {k : Nat} {f C : Addr} {fd : FuncData} {ps ks : List Str} {sp : Sp} {E : XK} {x m : Str} {p pos apos kpos : Pos} {e o : Expr} {es : List Expr} {kws : List Keyword} {te ta : TE} {t tk : TA} {nm : Option Str}
variable {g : List Value → List Value → List Value} {gV : List V → List V → List V}
end

/-- names: the parameters first -/
structure FnScope (N P : List Str) (sc : Scope) : Prop where
  kind : sc.kind = .function
  co : sc.isCoroutine = false
  gen : sc.isGenerator = false
  nd : N.Nodup
  pre : N.take P.length = P
  par : ∀ x ∈ P, sc.names.lookup x = some .local ∨ sc.names.lookup x = some .cell
  nofree : ∀ y ∈ sc.names, y.2 ≠ .free

theorem bindL_out {kindOf : Str → Option NameKind} {x : Str} : ∀ {binds : List (Str × Value)} {m : Str → Option Value}, (∀ v, (x, v) ∉ binds) → bindL kindOf binds m x = m x
  | [], _, _ => rfl
  | (n, v) :: r, m, h => by
    unfold bindL
    rw [bindL_out fun w hw => h w (List.mem_cons_of_mem _ hw)]
    split
    · have : x ≠ n := by rintro rfl; exact h v List.mem_cons_self
      simp [this]
    · rfl
theorem bindC_out {kindOf : Str → Option NameKind} {x : Str} : ∀ {binds : List (Str × Value)} {m : Str → Option Value}, (∀ v, (x, v) ∉ binds) → bindC kindOf binds m x = m x
  | [], _, _ => rfl
  | (n, v) :: r, m, h => by
    unfold bindC
    rw [bindC_out fun w hw => h w (List.mem_cons_of_mem _ hw)]
    split
    · rfl
    · have : x ≠ n := by rintro rfl; exact h v List.mem_cons_self
      simp [this]
theorem bindL_get {kindOf : Str → Option NameKind} {x : Str} {v : Value} : ∀ {P : List Str} {vs : List Value} {i : Nat} {m : Str → Option Value}, P.Nodup → P[i]? = some x → vs[i]? = some v → kindOf x = some .local →
    bindL kindOf (P.zip vs) m x = some v
  | [], _, _, _, _, h, _, _ => by simp at h
  | _ :: _, [], _, _, _, _, h, _ => by simp at h
  | p :: P, w :: vs, 0, m, nd, h1, h2, hk => by
    simp at h1 h2; subst h1; subst h2
    show bindL kindOf ((p, w) :: P.zip vs) m p = _
    unfold bindL
    rw [bindL_out fun v hv => (List.nodup_cons.mp nd).1 (List.of_mem_zip hv).1, if_pos hk]
    simp
  | p :: P, w :: vs, i + 1, m, nd, h1, h2, hk => by
    show bindL kindOf ((p, w) :: P.zip vs) m x = _
    unfold bindL
    exact bindL_get (i := i) (List.nodup_cons.mp nd).2 (by simpa using h1) (by simpa using h2) hk
theorem bindC_get {kindOf : Str → Option NameKind} {x : Str} {v : Value} : ∀ {P : List Str} {vs : List Value} {i : Nat} {m : Str → Option Value}, P.Nodup → P[i]? = some x → vs[i]? = some v → kindOf x ≠ some .local →
    bindC kindOf (P.zip vs) m x = some v
  | [], _, _, _, _, h, _, _ => by simp at h
  | _ :: _, [], _, _, _, _, h, _ => by simp at h
  | p :: P, w :: vs, 0, m, nd, h1, h2, hk => by
    simp at h1 h2; subst h1; subst h2
    show bindC kindOf ((p, w) :: P.zip vs) m p = _
    unfold bindC
    rw [bindC_out fun v hv => (List.nodup_cons.mp nd).1 (List.of_mem_zip hv).1, if_neg hk]
    simp
  | p :: P, w :: vs, i + 1, m, nd, h1, h2, hk => by
    show bindC kindOf ((p, w) :: P.zip vs) m x = _
    unfold bindC
    exact bindC_get (i := i) (List.nodup_cons.mp nd).2 (by simpa using h1) (by simpa using h2) hk

/-- the names' values at the entry -/
def start (N : List Str) (vs : List V) : St := vs.map some ++ List.replicate (N.length - vs.length) none

/-- the context of a def's body, at its entry; an exception leaves the frame, then lies as CX says -/
def cxOf (CX : CXT) (P : Program) (w : World) (K : PySem.W.Frag) (mg : Str → Option Value) (base : Heap) (N : List Str) (qual : Str) (scope : Scope) (f : Addr) (cd : Value) (A : Around) (outer : List Env) (s : Shared) (H : Hp) (E : XK) : Cx where
  prog := P
  w := w
  K := K
  mg := mg
  base := base
  A := A.deeper (envOfC qual scope s.heap.objs.size f cd)
  N := N
  s₀ := s
  H₀ := H
  env := envOfC qual scope s.heap.objs.size f cd
  outer := outer
  stack := envOfC qual scope s.heap.objs.size f cd :: outer
  ex := []
  calm := true
  fn := fun _ => true
  pn := []
  xe := fun e s' => wpAny (model P w) (A.deeper (envOfC qual scope s.heap.objs.size f cd)) (leaving (envOfC qual scope s.heap.objs.size f cd) e) (fun _ s'' => CX outer H s E e s'') (fun e' s'' => CX outer H s E e' s'') s'

theorem cell_has {sc : Scope} {n : Nat} {x : Str} (h : sc.names.lookup x = some .cell) : ∃ c, (cellsFrom n sc.names []).lookup x = some c := by
  have q := PySem.W.cellsFrom_some sc.names n [] (.inl h)
  exact Option.isSome_iff_exists.mp q

theorem inv_start {CX : CXT} {P : Program} {w : World} {K : PySem.W.Frag} {mg : Str → Option Value} {base : Heap} {N ps : List Str} {qual : Str} {scope : Scope} {f : Addr} {cd : Value} {A : Around} {outer : List Env} {s s1 : Shared} {H : Hp} {E : XK} {us : List Value} {vs : List V}
    (S : FnScope N ps scope) (hd : A.handled = none) (e0 : Env0 P w K mg base A outer s H) (hl : vs.length = ps.length) (r : Vals vs us)
    (x : InCallC s s.heap.objs.size (bindL (envOfC qual scope s.heap.objs.size f cd).kindOf (ps.zip us) fun _ => none) (cellsFrom (s.heap.objs.size + 1) scope.names []) (bindC (envOfC qual scope s.heap.objs.size f cd).kindOf (ps.zip us) fun _ => none) s1) :
    Inv (cxOf CX P w K mg base N qual scope f cd A outer s H E) [] (start N vs) H s1 := by
  have hpl : ps.length ≤ N.length := by have := congrArg List.length S.pre; rw [List.length_take] at this; omega
  obtain ⟨h1, tk, rfl, hk⟩ := x.done
  have noA : ∀ b : Addr, b ∉ (cxOf CX P w K mg base N qual scope f cd A outer s H E).ex := fun b z => absurd (show b ∈ ([] : List Addr) from z) (by simp)
  refine ⟨⟨e0.mod, S.kind, rfl, rfl, Nat.le_refl _, fun y z c h1 h2 => ?_, fun y hy => ?_, fun y c _ h => ?_, fun _ => hd, Around.frames_deeper e0.frames, .inr ⟨rfl, rfl⟩, fun b z => absurd z (noA b), e0.bs, e0.bsz, fun b _ _ => noA b, fun b z => absurd z (noA b), e0.funs, e0.frf⟩,
    rfl, e0.bare, Un.kept hk, ⟨_, x.toInCall.ns, fun i y v h1 h2 h3 => ?_⟩, fun y c h => ⟨_, x.cell y c h⟩, e0.hok.fresh (Nat.le_refl _), fun y c h => ?_, fun p hp => absurd (show p ∈ ([] : List (Addr × Obj)) from hp) (by simp), e0.hok.kept hk, ?_⟩
  · exact name_of_addr x.apart (PySem.mem_of_lookup h1) (PySem.mem_of_lookup h2)
  · have hy : scope.names.lookup y = some .cell ∨ scope.names.lookup y = some .free := hy
    rcases hy with hy | hy
    · exact cell_has hy
    · exact absurd rfl (S.nofree _ (PySem.mem_of_lookup hy))
  · exact Nat.le_of_lt (x.above y c (PySem.mem_of_lookup h))
  · have hi : i < vs.length := by
      unfold start at h2
      by_cases hi : i < vs.length
      · exact hi
      · rw [List.getElem?_append_right (by simpa using hi)] at h2
        rw [List.getElem?_replicate] at h2
        split at h2 <;> cases h2
    have ha : vs[i]? = some v := by
      unfold start at h2
      rw [List.getElem?_append_left (by simpa using hi), List.getElem?_map] at h2
      cases e : vs[i]? with
      | none => rw [e] at h2; cases h2
      | some a => rw [e] at h2; cases h2; rfl
    obtain ⟨u, hu, rv⟩ := r.get ha
    have hp : ps[i]? = some y := by
      rw [← S.pre, List.getElem?_take_of_lt (by omega)]; exact h1
    have ndP : ps.Nodup := by rw [← S.pre]; exact S.nd.sublist (List.take_sublist _ _)
    refine ⟨u, rv, ?_⟩
    rcases S.par y (List.mem_of_getElem? hp) with k | k
    · exact .inl ⟨k, bindL_get ndP hp hu k⟩
    · obtain ⟨c, e⟩ := cell_has (n := s.heap.objs.size + 1) k
      refine .inr ⟨.inl k, c, e, ?_⟩
      have q := x.cell y c e
      rw [bindC_get ndP hp hu (by show scope.names.lookup y ≠ _; rw [k]; decide)] at q
      exact q
  · exact e0.hok.fresh (Nat.le_of_lt (x.above y c (PySem.mem_of_lookup h)))
  · unfold start
    show _ = N.length
    rw [List.length_append, List.length_map, List.length_replicate]
    omega

/-- THE RULE: a def (or a method) of the text, by its body. The body's reading t is chosen for each entry; it is run at the parameters' values -/
theorem fn_of {CX : CXT} {P : Program} {w : World} {K : PySem.W.Frag} {mg : Str → Option Value} {base : Heap} {k : Nat} {f : Addr} {name qual : Str} {params : Arguments} {body : List Stmt} {scope : Scope} {dV kV doc pm cdv ct oc : Value} {an od : Option Addr}
    {osl : Array (Option Value)} {N ps : List Str} {sp : Sp} (lk : K.lookup f = some ⟨oc, od, .func (PySem.W.fnOf name qual params body scope dV kV doc pm an cdv ct), osl⟩) (hcd : PySem.W.codeIn K cdv qual = true) (S : FnScope N ps scope)
    (len : ∀ vs H Q E, sp vs H Q E → vs.length = ps.length)
    (hbody : ∀ (A : Around) (outer : List Env) (s : Shared) (H : Hp) (vs : List V) (Q : VK) (E : XK), Room k (A.deeper (envOfC qual scope s.heap.objs.size f cdv)) → sp vs H Q E →
      ∃ t, PSs (cxOf CX P w K mg base N qual scope f cdv A outer s H E) body t ∧ t { nx := fun _ H' => Q .non H', rt := Q } (start N vs) H) :
    FnOk P w K mg base CX (k + 1) f (PySem.W.fnOf name qual params body scope dV kV doc pm an cdv ct) ps sp := by
  refine ⟨len, fun A outer s H args us vs Q E hr e0 hb r hsp => ?_⟩
  have hl := len _ _ _ _ hsp
  have KX : K.In s.heap := e0.mod.kin.keeps fun b o e => (e0.bs b o e).1
  have lim : s.heap.NoLimit := e0.mod.nolimit.keeps fun b o e => (e0.bs b o e).1
  have hkind : ∀ y ∈ ps.zip us, scope.names.lookup y.1 = some .local ∨ (scope.names.lookup y.1 = some .cell ∧ ((cellsFrom (s.heap.objs.size + 1) scope.names []).lookup y.1).isSome = true) := fun ⟨n, v⟩ hy => by
    rcases S.par n (List.of_mem_zip hy).1 with q | q
    · exact .inl q
    · exact .inr ⟨q, PySem.W.cellsFrom_some _ _ _ (.inl q)⟩
  refine codeAny_call_function hr.depth (KX _ _ lk) rfl S.co S.gen rfl (PySem.W.codeRec_of KX hcd) (hb _ _ _ _ ?_)
  refine wpAny_newFunctionEnv_cells S.kind hkind fun env he s1 x => ?_
  subst he
  refine ⟨lim.keeps x.toInCall.keep, codeAny_func ?_⟩
  obtain ⟨t, ht, hq⟩ := hbody A outer s H vs Q E (hr.deeper _) hsp
  have I : Inv (cxOf CX P w K mg base N qual scope f cdv A outer s H E) [] (start N vs) H s1 := inv_start S hr.hd e0 hl r x
  refine wpAny_mono (ht [] s1 (start N vs) H _ I hq) (fun fl s' hs => ?_) fun e s' hs => hs
  have fin : ∀ {σ' : St} {H' : Hp} {v : V} {u : Value}, Inv (cxOf CX P w K mg base N qual scope f cdv A outer s H E) [] σ' H' s' → RelV v u → Q v H' → CE outer P w H s Q u s' :=
    fun {σ' H' v u} J rv q => ⟨v, H', J.os, J.bare, J.base, J.hok, rv, q⟩
  cases fl with
  | ret u =>
    obtain ⟨v, σ', H', J, rv, q⟩ := hs
    exact fin J rv q
  | next =>
    obtain ⟨σ', H', J, q⟩ := hs
    exact fin (v := V.non) (u := Value.none) J rfl q
  | brk =>
    obtain ⟨_, _, _, q⟩ := hs
    exact False.elim q
  | cont =>
    obtain ⟨_, _, _, q⟩ := hs
    exact False.elim q
end L2

namespace L2
open PySem PySem.Spec PyProof.Rows
section
variable {X : Cx} {x : Str} {p pos : Pos} {e : Expr} {es : List Expr} {t : TA} {id T : String} {r : List V → Hp → VK → Prop}

def tCB (r : List V → Hp → VK → Prop) (t : TA) : TE := fun σ H Q => t σ H fun vs H1 => r vs H1 Q
/-- f(e, ..), f a built-in function -/
theorem pe_callB (hc : CallR X (.builtin id) r) (hg : Gl X x) (hm : X.mg x = none) (hv : bootBuiltins x = some (.builtin id)) (ha : PA X (e :: es) t) (hn : x ≠ "__name__" := by decide) (hdb : (x == ("__debug__" : Str)) = false := by decide)
    (he : starEach (e :: es) X.env = (false, eval e X.env) :: starEach es X.env := by rfl) (hpl : (backTo pos (starEach es X.env)).any (·.1) = false := by rfl) : PE X (.Call (.Name x p) (e :: es) [] pos) (tCB r t) := by
  intro pins s σ H Q I h
  refine wpAny_Call_Name_kw (ld_blt I hg hm hv ?_ hn hdb)
  exact PyProof.Rows.callWith_builtin1 (thn (ha pos pins s σ H _ I h) fun us s1 ⟨vs, H1, I1, r1, q1⟩ => hc pins s1 σ H1 vs us Q I1 r1 q1) he hpl
end
end L2

namespace L2
open PySem PySem.Spec PyProof.Rows

section
variable {κ : Type} [DecidableEq κ]
def valV (kvs : List (κ × V)) (k : κ) : Option V := (kvs.find? fun kv => decide (kv.1 = k)).map (·.2)
/-- in its place, or at the end -/
def putK (kvs : List (κ × V)) (k : κ) (v : V) : List (κ × V) :=
  if (kvs.any fun kv => decide (kv.1 = k)) = true then kvs.map (fun kv => if kv.1 = k then (kv.1, v) else kv) else kvs ++ [(k, v)]
def dropK (kvs : List (κ × V)) (k : κ) : List (κ × V) := kvs.filter fun kv => decide (kv.1 ≠ k)

end

/-- raw entries of a dict with tuple keys -/
abbrev KT (H : Hp) : List (List Key × V) → List (List Key × Addr × Value) → Prop := Paired fun p q => p.1 = q.1 ∧ H q.2.1 = some (.tup (p.1.map kV)) ∧ RelV p.2 q.2.2
section
variable {P : Program} {w : World} {H : Hp} {h : Heap} {a : Addr}
end

/-- what the dict at a holds at the key y -/
def DGet (H : Hp) (a : Addr) (y : V) (r : Option V) : Prop :=
  (∃ kvs k, Rd H a (.dK kvs) ∧ y = kV k ∧ r = valV kvs k) ∨ ∃ kvs k b, Rd H a (.dT kvs) ∧ y = .ref b ∧ H b = some (.tup (k.map kV)) ∧ r = valV kvs k
/-- the heap behind a[y] = v -/
def DPut (H : Hp) (a : Addr) (y v : V) (H' : Hp) : Prop :=
  (∃ kvs k, H a = some (.dK kvs) ∧ y = kV k ∧ kvs.length < sizeLine ∧ H' = upd H a (.dK (putK kvs k v))) ∨
  ∃ kvs k b, H a = some (.dT kvs) ∧ y = .ref b ∧ H b = some (.tup (k.map kV)) ∧ kvs.length < sizeLine ∧ H' = upd H a (.dT (putK kvs k v))
section
variable {X : Cx} {pins : List (Addr × Obj)} {σ : St} {H : Hp} {s : Shared} {a : Addr} {y v : V} {u r : Value} {o : Option V} {A : Around} {E : Value → Shared → Prop}

end

section
variable {X : Cx} {pins : List (Addr × Obj)} {σ : St} {H : Hp} {s : Shared} {a : Addr} {kvs : List (Key × V)} {k : Key} {u : Value} {A : Around} {E : Value → Shared → Prop}
end

section
variable {X : Cx} {o i e value : Expr} {pos pos' tpos : Pos} {td ty tv : TE}
end

section
variable {X : Cx} {pos : Pos}
end

section
variable {X : Cx} {pins : List (Addr × Obj)} {σ : St} {H : Hp} {s : Shared} {a : Addr} {y d : V} {u r : Value} {o : Option V} {A : Around} {E : Value → Shared → Prop}
end

section
variable {X : Cx} {o e f : Expr} {apos cpos : Pos} {td ty tx : TE}
end

section
variable {X : Cx} {pins : List (Addr × Obj)} {σ : St} {H : Hp} {s : Shared} {a : Addr} {kvs : List (Key × V)} {A : Around} {E : Value → Shared → Prop}
end

section
variable {X : Cx} {pins : List (Addr × Obj)} {σ : St} {H : Hp} {s : Shared} {a : Addr} {y : V} {u : Value} {A : Around} {E : Value → Shared → Prop}
end
end L2

namespace HT
open PySem PyProof.Rows

section
open PySem.SeqAt
open PySem.AutoSeq1 (wpAny_loadPart')
open PySem.MeetsSeq PySem.MeetsSeq2 PySem.MeetsSeq3

end

section
variable {prog : Program} {w : World} {A : Around} {E : Value → Shared → Prop} {s : Shared}

/-- a slice's bound as a place among n (d where it is left out) -/
def sIx (n d : Nat) : Option Int → Nat
  | none => d
  | some v => if v < 0 then (v + (n : Int)).toNat else min v.toNat n
end
end HT

namespace L2
open PySem PySem.Spec PyProof.Rows

abbrev TO := St → Hp → (Option Int → Hp → Prop) → Prop
/-- a slice's part (left out, or an int) -/
def PO (X : Cx) (e : Option Expr) (t : TO) : Prop :=
  ∀ (pins : List (Addr × Obj)) (s : Shared) (σ : St) (H : Hp) (Q : Option Int → Hp → Prop), Inv X pins σ H s → t σ H Q →
    wpAny (model X.prog X.w) X.A (evalPart e X.env) (fun u s' => ∃ o H', Inv X pins σ H' s' ∧ IsPart u o ∧ Q o H') X.xe s
def tNoPart : TO := fun _ H Q => Q none H
def tPart (t : TE) : TO := fun σ H Q => t σ H fun x H1 => ∃ i, x = .int i ∧ Q (some i) H1

section
variable {X : Cx} {e : Expr} {te : TE} {lo hi : Option Expr} {tl th : TO} {pos p2 : Pos}

theorem po_none : PO X none tNoPart := by
  intro pins s σ H Q I h
  rw [evalPart_none]
  exact wpAny_pure ⟨none, H, I, .none, h⟩
theorem po_some (h : PE X e te) : PO X (some e) (tPart te) := by
  intro pins s σ H Q I hw
  rw [evalPart_some]
  refine thn (h pins s σ H _ I hw) fun u s1 ⟨x, H1, I1, r1, q1⟩ => ?_
  obtain ⟨i, rfl, q⟩ := q1
  obtain ⟨t, rfl⟩ := r1
  exact ⟨some i, H1, I1, .int i t, q⟩

/-- what a slice of a value is, by values: the slice object stands at sl -/
def SlR (X : Cx) (r : V → Option Int → Option Int → Hp → VK → Prop) : Prop :=
  ∀ (pins : List (Addr × Obj)) (s : Shared) (σ : St) (H : Hp) (x : V) (v vl vu : Value) (lo hi : Option Int) (sl : Addr) (Q : VK), Inv X pins σ H s → RelV x v → s.heap.IsSliceOf sl vl vu .none → IsPart vl lo → IsPart vu hi → r x lo hi H Q →
    ∃ T id, typeLookup (.type T) "__getitem__" = pure (some (.builtin id)) ∧ s.TypeIs v T ∧ wpAny (model X.prog X.w) X.A (getItem v (.ref sl)) (EP X pins σ Q) X.xe s
def tSl (r : V → Option Int → Option Int → Hp → VK → Prop) (te : TE) (tl th : TO) : TE := fun σ H Q => te σ H fun x H1 => tl σ H1 fun l H2 => th σ H2 fun u H3 => r x l u H3 Q
/-- a[lo:hi], any a -/
theorem pe_slice {r : V → Option Int → Option Int → Hp → VK → Prop} (hr : SlR X r) (he : PE X e te) (hl : PO X lo tl) (hu : PO X hi th) : PE X (.Subscript e (.Slice lo hi none p2) pos) (tSl r te tl th) := by
  intro pins s σ H Q I h
  refine Subscript_ (thn (he pins s σ H _ I h) fun v s1 ⟨x, H1, I1, r1, q1⟩ => ?_)
  refine wpAny_Slice (thn (hl pins s1 σ H1 _ I1 q1) fun vl s2 ⟨l, H2, I2, pl, q2⟩ => thn (hu pins s2 σ H2 _ I2 q2) fun vu s3 ⟨u, H3, I3, pu, q3⟩ => ?_)
  rw [evalPart_none]
  refine wpAny_pure ?_
  have I4 : Inv X pins σ H3 { s3 with heap := s3.heap.push { cls := .type "slice", data := .fields #[vl, vu, .none] } } := I3.kept (t' := s3.toks) fun b ob q => Heap.get?_push_of_some _ q
  obtain ⟨T, id, hT, ht, hg⟩ := hr pins { s3 with heap := s3.heap.push { cls := .type "slice", data := .fields #[vl, vu, .none] } } σ H3 x v vl vu l u s3.heap.objs.size Q I4 r1 (Heap.IsSliceOf.new ..) pl pu q3
  show wpAny (model X.prog X.w) X.A (subscriptTail e (.Slice lo hi none p2) v (.ref s3.heap.objs.size)) (EP X pins σ Q) X.xe { s3 with heap := s3.heap.push { cls := .type "slice", data := .fields #[vl, vu, .none] } }
  exact tail_any (ops := [.ref s3.heap.objs.size, v]) ht hT hg (by with_unfolding_all rfl)

/-- the items of xs[lo:hi] -/
def cutV (xs : List V) (lo hi : Option Int) : List V := (xs.drop (HT.sIx xs.length 0 lo)).take (HT.sIx xs.length xs.length hi - HT.sIx xs.length 0 lo)
theorem cutV_length (xs : List V) (lo hi : Option Int) : (cutV xs lo hi).length ≤ xs.length := by
  unfold cutV
  rw [List.length_take, List.length_drop]
  omega
end
end L2

namespace L2
open PySem PySem.Spec PyProof.Rows

/-- the place that an index of any sign means -/
def ixN (n : Nat) (i : Int) : Option Nat := if 0 ≤ i then (if i < n then some i.toNat else none) else if -(n : Int) ≤ i then some (i + n).toNat else none
def atI {α : Type} (xs : List α) (i : Int) : Option α := (ixN xs.length i).bind fun j => xs[j]?
theorem ixN_seq {n : Nat} {i : Int} {j : Nat} (h : ixN n i = some j) : seqIndex? i n = some j ∧ j < n ∧ -(n : Int) ≤ i ∧ i < n := by
  unfold ixN at h
  by_cases h0 : 0 ≤ i
  · rw [if_pos h0] at h
    by_cases h1 : i < n
    · rw [if_pos h1] at h
      have e : i.toNat = j := Option.some.inj h
      exact ⟨by rw [seqIndex_of h0 h1, e], by omega, by omega, h1⟩
    · rw [if_neg h1] at h; cases h
  · rw [if_neg h0] at h
    by_cases h1 : -(n : Int) ≤ i
    · rw [if_pos h1] at h
      have e : (i + n).toNat = j := Option.some.inj h
      exact ⟨by rw [seqIndex_neg (by omega) h1, e], by omega, h1, by omega⟩
    · rw [if_neg h1] at h; cases h
theorem atI_get {α : Type} {xs : List α} {i : Int} {v : α} (h : atI xs i = some v) : ∃ j, seqIndex? i xs.length = some j ∧ xs[j]? = some v ∧ j < xs.length ∧ -(xs.length : Int) ≤ i ∧ i < xs.length := by
  unfold atI at h
  cases e : ixN xs.length i with
  | none => rw [e] at h; cases h
  | some j =>
    rw [e] at h
    obtain ⟨h1, h2, h3, h4⟩ := ixN_seq e
    exact ⟨j, h1, h, h2, h3, h4⟩
theorem atI_nat {α : Type} {xs : List α} {j : Nat} {v : α} (h : xs[j]? = some v) : atI xs (j : Int) = some v := by
  have hj : j < xs.length := (List.getElem?_eq_some_iff.mp h).1
  have e : ixN xs.length (j : Int) = some j := by
    unfold ixN
    rw [if_pos (by omega), if_pos (by omega)]; simp
  unfold atI; rw [e]; exact h
/-- what stands as an index of a plain subscript -/
def PlainIx (b : Expr) : Prop := ∀ o i, subscripted b false o i = operate [o, i] (getItem o i)
/-- a subscript by values -/
def IxR (X : Cx) (r : R2) : Prop :=
  ∀ (value slice : Expr) (pins : List (Addr × Obj)) (s : Shared) (σ : St) (H : Hp) (x y : V) (v u : Value) (Q : VK), Inv X pins σ H s → RelV x v → RelV y u → r x y H Q →
    subscripted slice false v u = operate [v, u] (getItem v u) → wpAny (model X.prog X.w) X.A (subscriptTail value slice v u) (EP X pins σ Q) X.xe s
/-- a call of a builtin's method by values: the receiver, the arguments -/
def MtR (X : Cx) (id : String) (r : V → List V → Hp → VK → Prop) : Prop :=
  ∀ (pins : List (Addr × Obj)) (s : Shared) (σ : St) (H : Hp) (x : V) (xs : List V) (v : Value) (us : List Value) (Q : VK), Inv X pins σ H s → RelV x v → Vals xs us → r x xs H Q →
    wpAny (model X.prog X.w) X.A (call (.builtin id) (v :: us)) (EP X pins σ Q) X.xe s
section
variable {X : Cx} {a b : Expr} {ta tb : TE} {pos : Pos}
/-- a[b] -/
theorem pe_ix {r : R2} (hr : IxR X r) (ha : PE X a ta) (hb : PE X b tb) (hs : PlainIx b) : PE X (.Subscript a b pos) (tOp r ta tb) := by
  intro pins s σ H Q I h
  exact Subscript_ (binT ha hb I h fun v u s2 x y H2 I2 rx ry q => hr a b pins s2 σ H2 x y v u Q I2 rx ry q (hs _ _))

def rIxL (K : PySem.W.Frag) : R2 := fun x y H Q => ∃ p xs i v, x = .ref p ∧ y = .int i ∧ SqL K H p xs ∧ atI xs i = some v ∧ Q v H
def rIxT (K : PySem.W.Frag) : R2 := fun x y H Q => ∃ p xs i v, x = .ref p ∧ y = .int i ∧ SqT K H p xs ∧ atI xs i = some v ∧ Q v H
theorem ix_list : IxR X (rIxL X.K) := by
  intro value slice pins s σ H x y v u Q I rx ry h hs
  obtain ⟨p, xs, i, z, rfl, rfl, hq, he, q⟩ := h
  cases rx
  obtain ⟨t, rfl⟩ := ry
  obtain ⟨its, r, pl, hz⟩ := I.list hq
  obtain ⟨j, h1, h2, h3, h4, h5⟩ := atI_get he
  obtain ⟨w, ew, rw'⟩ := r.get h2
  have hl := r.length
  have hn := line63
  have fin : EP X pins σ Q w s := ⟨z, H, I, rw', q⟩
  by_cases h0 : 0 ≤ i
  · have hj : i.toNat = j := by
      rw [seqIndex_of h0 h5] at h1
      exact Option.some.inj h1
    exact item_listR pl.isList h0 (by omega) (by rw [hj]; simpa using ew) fin hs
  · have hj : (i + (its.toArray.size : Int)).toNat = j := by
      rw [seqIndex_neg (by omega) h4] at h1
      rw [List.size_toArray, ← hl]
      exact Option.some.inj h1
    exact subscriptTail_builtinR (x := w) pl.isList.typeIs slot_list_getitem.lookup
      (wpAny_getItem_list_neg (Q := fun r s' => r = w ∧ EP X pins σ Q r s') pl.isList (by omega) (by rw [List.size_toArray] <;> omega) (by omega) (by rw [hj]; simpa using ew) ⟨rfl, fin⟩) hs
theorem ix_tup : IxR X (rIxT X.K) := by
  intro value slice pins s σ H x y v u Q I rx ry h hs
  obtain ⟨p, xs, i, z, rfl, rfl, hq, he, q⟩ := h
  cases rx
  obtain ⟨t, rfl⟩ := ry
  obtain ⟨its, r, pl, hz⟩ := I.tuple hq
  obtain ⟨j, h1, h2, h3, h4, h5⟩ := atI_get he
  obtain ⟨w, ew, rw'⟩ := r.get h2
  have hl := r.length
  have hn := line63
  have fin : EP X pins σ Q w s := ⟨z, H, I, rw', q⟩
  exact subscriptTail_builtinR (x := w) pl.typeIs slot_tuple_getitem.lookup
    (getItem_tuple (j := j) (Q := fun r s' => r = w ∧ EP X pins σ Q r s') pl (by omega) (by omega) (by rw [List.size_toArray, ← hl]; exact h1) (by simpa using ew) ⟨rfl, fin⟩) hs
/-- the list's object behind a store -/
theorem mapSeq_set (its : List Value) (n j : Nat) (u : Value) : Obj.mapSeq (·.setIfInBounds j u) { cls := .type "list", data := .seq its.toArray n } = { cls := .type "list", data := .seq (its.set j u).toArray n } := by
  simp [Obj.mapSeq]
theorem Inv.lst {pins : List (Addr × Obj)} {σ : St} {H : Hp} {s : Shared} {p : Addr} {xs : List V} (I : Inv X pins σ H s) (h : H p = some (.lst xs)) :
    ∃ (its : List Value) (n : Nat), Vals xs its ∧ s.heap.get? p = some { cls := .type "list", data := .seq its.toArray n } ∧ xs.length ≤ sizeLine := by
  obtain ⟨z, its, n, r, e⟩ := I.hok p _ h
  exact ⟨its, n, r, e, z⟩
/-- the list at p is written by an update of its object -/
theorem Inv.lstUpd {pins : List (Addr × Obj)} {σ : St} {H : Hp} {s : Shared} {p : Addr} {xs ys : List V} {its its' : List Value} {n n' : Nat} {f : Obj → Obj} (I : Inv X pins σ H s) (h : H p = some (.lst xs))
    (ho : s.heap.get? p = some { cls := .type "list", data := .seq its.toArray n }) (hf : f { cls := .type "list", data := .seq its.toArray n } = { cls := .type "list", data := .seq its'.toArray n' }) (r : Vals ys its') (hz : ys.length ≤ sizeLine) (t : Nat) :
    Inv X pins σ (upd H p (.lst ys)) { s with heap := s.heap.update p f, toks := t } := by
  have e : (s.heap.update p f).get? p = some { cls := .type "list", data := .seq its'.toArray n' } := by
    rw [Heap.get?_update_self f ho (by rw [hf] <;> rfl), hf]
  refine I.write (x := p) (e := p) (by rw [h]; trivial) (.inl rfl) (fun b u hb q => (Heap.get?_update_other _ _ (Ne.symm hb)).trans q) ⟨_, e⟩ ?_
  exact ⟨hz, its', n', r, e⟩
def rSetL : V → V → V → Hp → (Hp → Prop) → Prop := fun o i v H Q => ∃ p xs k j, o = .ref p ∧ i = .int k ∧ H p = some (.lst xs) ∧ ixN xs.length k = some j ∧ Q (upd H p (.lst (xs.set j v)))
theorem set_list : PSet X rSetL := by
  intro pins s σ H o i v ov iv u Q I ro ri rv h
  obtain ⟨p, xs, k, j, rfl, rfl, hp, hj, q⟩ := h
  cases ro
  obtain ⟨t, rfl⟩ := ri
  obtain ⟨its, n, r, ho, hz⟩ := I.lst hp
  obtain ⟨h1, h2, h3, h4⟩ := ixN_seq hj
  have hl := r.length
  have hn := line63
  have I' : Inv X pins σ (upd H p (.lst (xs.set j v))) { s with heap := s.heap.update p (Obj.mapSeq (·.setIfInBounds j u)) } :=
    I.lstUpd hp ho (mapSeq_set its n j u) (r.set rv j) (by rw [List.length_set]; exact hz) s.toks
  by_cases h0 : 0 ≤ k
  · have hk : k.toNat = j := by
      rw [seqIndex_of h0 h4] at h1
      exact Option.some.inj h1
    exact PySem.W.ki_setAt ho h0 (by omega) (by rw [List.size_toArray, ← hl]; exact h4) (by rw [hk]; exact ⟨_, I', q⟩)
  · have hk : (k + (its.toArray.size : Int)).toNat = j := by
      rw [seqIndex_neg (by omega) h3] at h1
      rw [List.size_toArray, ← hl]
      exact Option.some.inj h1
    exact PySem.W.ki_setBack ho (by omega) (by rw [List.size_toArray, ← hl]; exact h3) (by omega) (by rw [hk]; exact ⟨_, I', q⟩)

theorem slice_bounds (lo hi : Option Int) (n : Nat) : (sliceBounds lo hi none n).1 = ((HT.sIx n 0 lo : Nat) : Int) ∧ (sliceBounds lo hi none n).2.1 = ((HT.sIx n n hi : Nat) : Int) ∧ (sliceBounds lo hi none n).2.2 = 1 := by
  refine ⟨?_, ?_, rfl⟩
  · cases lo with
    | none => simp [sliceBounds, HT.sIx]
    | some i =>
      simp only [sliceBounds, HT.sIx, Option.getD_none, show (1 : Int) > 0 by decide, if_true]
      by_cases h : i < 0
      · simp only [h, if_true] <;> omega
      · simp only [h, if_false] <;> omega
  · cases hi with
    | none => simp [sliceBounds, HT.sIx]
    | some i =>
      simp only [sliceBounds, HT.sIx, Option.getD_none, show (1 : Int) > 0 by decide, if_true]
      by_cases h : i < 0
      · simp only [h, if_true] <;> omega
      · simp only [h, if_false] <;> omega
theorem slicePick_cut (its : List Value) (lo hi : Option Int) : slicePick its.toArray lo hi none = ((its.drop (HT.sIx its.length 0 lo)).take (HT.sIx its.length its.length hi - HT.sIx its.length 0 lo)).toArray := by
  obtain ⟨h1, h2, h3⟩ := slice_bounds lo hi its.toArray.size
  unfold slicePick
  rw [h1, h2, h3]
  simp only [sliceRange_one, pick_run, List.size_toArray] <;> rfl
/-- xs[lo:hi] of a list: a new list -/
def rSlL (K : PySem.W.Frag) : V → Option Int → Option Int → Hp → VK → Prop := fun x lo hi H Q => ∃ a xs, x = .ref a ∧ SqL K H a xs ∧ ∀ p, H p = none → Q (.ref p) (upd H p (.lst (cutV xs lo hi)))
theorem sl_list : SlR X (rSlL X.K) := by
  intro pins s σ H x v vl vu lo hi sl Q I rx hs pl pu h
  obtain ⟨a, xs, rfl, hx, q⟩ := h
  cases rx
  obtain ⟨its, r, ht, hz⟩ := I.list hx
  have hlen := r.length
  refine ⟨"list", _, slot_list_getitem.lookup, ht.isList.typeIs, ?_⟩
  refine wpAny_getItem_list_slice ht.isList hs pl pu .none (by simp) ?_ (by rw [List.size_toArray] <;> omega)
  rw [slicePick_cut, ← hlen]
  refine ⟨.ref s.heap.objs.size, _, I.laid (t' := s.toks) (o := .lst (cutV xs lo hi)) (fun b ob q => Heap.get?_push_of_some _ q) (Nat.le_refl _) ?_, rfl, q _ (I.hok.fresh (Nat.le_refl _))⟩
  exact ⟨Nat.le_trans (cutV_length xs lo hi) hz, _, 0, (r.drop (HT.sIx xs.length 0 lo)).take (HT.sIx xs.length xs.length hi - HT.sIx xs.length 0 lo), Heap.get?_push_size _ rfl⟩

theorem call_len_seq : CallR X (.builtin "len") (fun xs H Q => ∃ p ys, xs = [.ref p] ∧ (SqL X.K H p ys ∨ SqT X.K H p ys) ∧ Q (.int ys.length) H) := by
  intro pins s σ H xs us Q I r h
  obtain ⟨p, ys, rfl, hq, q⟩ := h
  obtain ⟨u, rfl, rx⟩ := vals1 r
  cases rx
  have hn := line63
  rcases hq with hq | hq
  · obtain ⟨its, r', pl, hz⟩ := I.list hq
    have hlen := r'.length
    exact Calls.call_len_list pl.isList (by simp only [List.size_toArray] <;> omega) ⟨.int ys.length, H, I.tok _, ⟨s.toks + 1, by rw [List.size_toArray, hlen]⟩, q⟩
  · obtain ⟨its, r', pl, hz⟩ := I.tuple hq
    have hlen := r'.length
    exact len_tuple pl (by simp only [List.size_toArray] <;> omega) ⟨.int ys.length, H, I.tok _, ⟨s.toks + 1, by rw [List.size_toArray, hlen]⟩, q⟩
/-- the value is of that builtin type -/
def tyV (K : PySem.W.Frag) (T : String) (x : V) (H : Hp) : Prop := match x with
  | .str _ => T = "str"
  | .int _ => T = "int"
  | .ref p => (T = "list" ∧ ∃ xs, SqL K H p xs) ∨ (T = "tuple" ∧ ∃ o, K.lookup p = some o ∧ o.cls = .type "tuple" ∧ o.dict = none) ∨
      (T = "dict" ∧ ((∃ kvs, H p = some (.dK kvs)) ∨ ∃ kvs, H p = some (.dT kvs))) ∨ (T = "set" ∧ ∃ S n, H p = some (.set S n))
  | _ => False
theorem tyV_is {pins : List (Addr × Obj)} {σ : St} {H : Hp} {s : Shared} {T : String} {x : V} {v : Value} (I : Inv X pins σ H s) (r : RelV x v) (ty : tyV X.K T x H) :
    s.TypeIs v T ∧ ∀ a, v = .ref a → ∃ ob, s.heap.get? a = some ob ∧ ob.dict = none := by
  cases x with
  | str z =>
    obtain ⟨t, rfl⟩ := r
    cases (show T = "str" from ty)
    exact ⟨typeIs_str s z t, fun _ e => nomatch e⟩
  | int i =>
    obtain ⟨t, rfl⟩ := r
    cases (show T = "int" from ty)
    exact ⟨typeIs_int s i t, fun _ e => nomatch e⟩
  | ref p =>
    cases r
    rcases ty with ⟨rfl, xs, hq⟩ | ⟨rfl, o, hk, hc, hd⟩ | ⟨rfl, hk⟩ | ⟨rfl, S, n, hk⟩
    · obtain ⟨its, _, pl, _⟩ := I.list hq
      refine ⟨pl.isList.typeIs, fun a e => ?_⟩
      cases e
      obtain ⟨o, n, e, c, hd, _⟩ := pl
      exact ⟨o, e, hd⟩
    · refine ⟨⟨o, I.kIn p o hk, hc⟩, fun a e => ?_⟩
      cases e
      exact ⟨o, I.kIn _ o hk, hd⟩
    · have z : ∃ o, s.heap.get? p = some o ∧ o.ExactDict := by
        rcases hk with ⟨kvs, hk⟩ | ⟨kvs, hk⟩
        · obtain ⟨_, _, _, _, o, _, _, e, ex, _⟩ := I.hok p _ hk
          exact ⟨o, e, ex⟩
        · obtain ⟨_, _, _, _, o, _, _, e, ex, _⟩ := I.hok p _ hk
          exact ⟨o, e, ex⟩
      obtain ⟨o, e, ex⟩ := z
      refine ⟨⟨o, e, ex.1⟩, fun a e2 => ?_⟩
      cases e2
      exact ⟨o, e, ex.2.1⟩
    · obtain ⟨o, _, _, _, e, ex, _⟩ := I.hok p _ hk
      refine ⟨⟨o, e, ex.1⟩, fun a e2 => ?_⟩
      cases e2
      exact ⟨o, e, ex.2.1⟩
  | _ => exact False.elim ty
def tBM (K : PySem.W.Frag) (T : String) (r : V → List V → Hp → VK → Prop) (to : TE) (t : TA) : TE := fun σ H Q => to σ H fun x H1 => tyV K T x H1 ∧ t σ H1 fun xs H2 => r x xs H2 Q
variable {o e : Expr} {es : List Expr} {to : TE} {t : TA} {name : Str} {apos cpos : Pos} {T id : String} {r : V → List V → Hp → VK → Prop}
theorem pe_bm (pa : PlainAttrs T) (slot : Slot T name id) (hty : typeOf (.builtin id) = pure (.type "method_descriptor")) (hm : MtR X id r) (ho : PE X o to) (ha : PA X (e :: es) t)
    (hbase : attributeBase o name X.env (eval o X.env) = eval o X.env := by rfl)
    (hfew : ((backTo cpos (starEach (e :: es) X.env)).all (fun x => !x.1) && (backToKw cpos (keywordEach [] X.env)).all (fun x => x.1.isSome)
      && decide ((e :: es).length + ([] : List Keyword).length + (if ([] : List Keyword).isEmpty then 0 else 1) < 30)) = true := by rfl)
    (hline : (apos.endLine == cpos.line) = true := by rfl) (hs : starEach (e :: es) X.env = (false, eval e X.env) :: starEach es X.env := by rfl) (hplain : (backTo cpos (starEach es X.env)).any (·.1) = false := by rfl) :
    PE X (.Call (.Attribute o name apos) (e :: es) [] cpos) (tBM X.K T r to t) := by
  intro pins s σ H Q I h
  refine wpAny_Call_method_late hbase hfew hline rfl (thn (ho pins s σ H _ I h) fun v s1 ⟨x, H1, I1, r1, ty, q1⟩ => ?_)
  obtain ⟨h1, h2⟩ := tyV_is I1 r1 ty
  refine ⟨T, id, pa, slot, hty, h1, h2, ?_⟩
  have hA := ha cpos pins s1 σ H1 _ I1 q1
  rw [hs] at hA ⊢
  refine Calls.callWith_builtin (by show (false || (backTo cpos (starEach es X.env)).any (·.1)) = false; rw [hplain] <;> rfl) (Calls.evalArgs_plain ?_)
  exact thn hA fun us s2 ⟨vs, H2, I2, r2, q2⟩ => hm pins s2 σ H2 x vs v us Q I2 r1 r2 q2
end
end L2

namespace L2
open PySem PySem.Spec PyProof.Rows

def MtM (X : Cx) (id : String) (r : V → List V → Hp → VK → Prop) : Prop :=
  ∀ (pins : List (Addr × Obj)) (s : Shared) (σ : St) (H : Hp) (x : V) (xs : List V) (v : Value) (us : List Value) (Q : VK), Inv X pins σ H s → RelV x v → Vals xs us → r x xs H Q →
    wpAny (model X.prog X.w) X.A (call (.builtin id) (v :: us)) (EP X pins σ Q) X.xe s

theorem Vals.one : ∀ {x : V} {us : List Value}, Vals [x] us → ∃ u, us = [u] ∧ RelV x u
  | _, _, .cons r .nil => ⟨_, rfl, r⟩
theorem Vals.two : ∀ {x y : V} {us : List Value}, Vals [x, y] us → ∃ u v, us = [u, v] ∧ RelV x u ∧ RelV y v
  | _, _, _, .cons r (.cons q .nil) => ⟨_, _, rfl, r, q⟩
section
variable {X : Cx} {pins : List (Addr × Obj)} {σ : St} {H : Hp} {s : Shared} {l b : Addr} {xs ys zs : List V}

theorem Inv.lset {its its' : List Value} {n : Nat} {f : Array Value → Array Value} {t' : Nat} (I : Inv X pins σ H s) (hH : H l = some (.lst xs))
    (e : s.heap.get? l = some { cls := .type "list", data := .seq its.toArray n }) (hf : f its.toArray = its'.toArray) (hv : Vals ys its') (hz : ys.length ≤ sizeLine) :
    Inv X pins σ (upd H l (.lst ys)) { s with heap := s.heap.update l (Obj.mapSeq f), toks := t' } := by
  have q := PySem.IsL.update e f
  rw [hf] at q
  refine I.write (x := l) (e := l) (by rw [hH]; exact trivial) (.inl rfl) (fun b' u hb hu => (Heap.get?_update_other s.heap (Obj.mapSeq f) (Ne.symm hb)).trans hu) ⟨_, q⟩ ?_
  exact ⟨hz, its', _, hv, q⟩
theorem Inv.lnew {its : List Value} {t' : Nat} (I : Inv X pins σ H s) (hv : Vals ys its) (hz : ys.length ≤ sizeLine) :
    Inv X pins σ (upd H s.heap.objs.size (.lst ys)) { s with heap := s.heap.push { cls := .type "list", data := .seq its.toArray }, toks := t' } :=
  I.laid (fun _ _ q => Heap.get?_push_of_some _ q) (Nat.le_refl _) ⟨hz, its, 0, hv, Heap.get?_push_size _ rfl⟩
theorem Inv.fresh (I : Inv X pins σ H s) : H s.heap.objs.size = none := I.hok.fresh (Nat.le_refl _)
theorem Inv.lstM (I : Inv X pins σ H s) (hH : H l = some (.lst xs)) : xs.length ≤ sizeLine ∧ ∃ (its : List Value) (n : Nat), Vals xs its ∧ xs.length = its.length ∧ s.heap.get? l = some { cls := .type "list", data := .seq its.toArray n } := by
  obtain ⟨z, its, n, r, e⟩ := I.hok l _ hH
  exact ⟨z, its, n, r, r.length, e⟩

end

section
variable {X : Cx}

def rAppend : V → List V → Hp → VK → Prop := fun x vs H Q => ∃ l xs y, x = .ref l ∧ vs = [y] ∧ H l = some (.lst xs) ∧ xs.length < sizeLine ∧ Q .non (upd H l (.lst (xs ++ [y])))
theorem mt_append : MtM X "list.append" rAppend := by
  intro pins s σ H x vs v us Q I rx rv h
  obtain ⟨l, xs, y, rfl, rfl, hH, hz, q⟩ := h
  cases rx
  obtain ⟨u, rfl, ru⟩ := rv.one
  obtain ⟨z, its, n, r, hl, e⟩ := I.lstM hH
  refine call_meets F.slot_list_append ⟨_, e, rfl⟩ F.entry_list_append (F.args_list_append_2 _ _) (PySem.list_append l its.toArray n u (by rw [List.size_toArray]; omega)) ⟨e, ?_⟩
  refine ⟨.non, _, I.lset (its' := its ++ [u]) hH e (by simp) (r.append (.cons ru .nil)) ?_, rfl, q⟩
  rw [List.length_append, List.length_singleton]
  omega

def rCat : R2 := fun x y H Q => ∃ l b xs zs, x = .ref l ∧ y = .ref b ∧ H l = some (.lst xs) ∧ H b = some (.lst zs) ∧ xs.length + zs.length ≤ sizeLine ∧ ∀ p, H p = none → Q (.ref p) (upd H p (.lst (xs ++ zs)))
theorem op_cat : OpR X (binaryOp .Add) rCat := by
  intro pins s σ H x y v u Q I rx ry h
  obtain ⟨l, b, xs, zs, rfl, rfl, hH, hB, hz, q⟩ := h
  cases rx
  cases ry
  obtain ⟨z, its, n, r, hl, e⟩ := I.lstM hH
  obtain ⟨z2, its2, n2, r2, hl2, e2⟩ := I.lstM hB
  refine PySem.P.add_list e e2 ?_ (by rw [List.size_toArray, List.size_toArray]; omega)
  have ea : its.toArray ++ its2.toArray = (its ++ its2).toArray := by simp
  rw [ea]
  exact ⟨.ref _, _, I.lnew (t' := s.toks) (r.append r2) (by rw [List.length_append]; omega), rfl, q _ I.fresh⟩
end

section
variable {prog : Program} {w : World} {A : Around} {E : Value → Shared → Prop} {s : Shared}
end

section
variable {X : Cx}
end
end L2

namespace Att
open PySem PySem.W PySem.Calls PyProof.Rows

theorem ints_of_wellAll {P : Params} {h : Heap} : ∀ (ns : List Int) (vs : List Value), WellAll P h vs (ns.map WData.int) → IntsAre vs ns := by
  intro ns
  induction ns with
  | nil =>
    intro vs w
    rw [List.map_nil] at w
    cases w
    exact .nil
  | cons n ns ih =>
    intro vs w
    rw [List.map_cons] at w
    cases w with
    | cons a b =>
      cases a
      exact .cons _ _ (ih _ b)

theorem script_of {l : OpenLaw} {n : Nat} (hn : l.most = some n) {P : Params} {h : Heap} {args : List WData} {vals : List Value}
    (hpre : l.row.toRowW.claim.pre args = true) (hwl : WellAll P h vals args) :
    ∃ a vs ns, vals = [Value.ref a] ∧ args = [WData.list (ns.map WData.int)] ∧ h.get? a = some { cls := .type "list", data := .seq vs.toArray } ∧ IntsAre vs ns ∧ ns.length ≤ n := by
  have hsh : WShape.hasAll [] args [.list .int] = true := (pre_splitW hpre).1
  have hc : l.pre.holds [] { args := args } = true := (pre_splitW hpre).2
  obtain ⟨d, r, rfl, h1, h2⟩ := hasAllW_cons hsh
  obtain rfl := hasAllW_nil h2
  obtain ⟨xs, rfl, h3⟩ := hasW_list h1
  obtain ⟨ns, rfl⟩ := items_int h3
  have hlen : ns.length ≤ n := by
    unfold OpenLaw.pre at hc
    have h4 : (WTm.not (.lt (.lit (.int (n : Int))) (.len (.arg 0)))).holds [] { args := [.list (ns.map .int)] } = true := by
      have h4 := (holds_andW hc).1
      rw [hn] at h4
      exact h4
    have h5 := condW_of h4 (w_not (w_lt w_lit (w_len_list (w_arg rfl))))
    rw [List.length_map] at h5
    refine Nat.le_of_not_lt fun q => ?_
    have q' : (n : Int) < ((ns.length : Nat) : Int) := by omega
    first
      | (rw [decide_eq_true q'] at h5; exact absurd h5 (by decide))
      | (simp at h5; omega)
  cases hwl with
  | cons w1 w2 =>
    cases w2
    cases w1 with
    | list ho hall => exact ⟨_, _, ns, rfl, rfl, ho, ints_of_wellAll ns _ hall, hlen⟩

theorem post_true (l : OpenLaw) (args : List WData) : l.row.toRowW.claim.post args (.bool true) args = true :=
  postW_of (r := l.row.toRowW) (X := (true == true))
    (show WShape.has [] (.bool true) .bool = true by first | rfl | decide | simp [WShape.has, WShape.arms, WShape.armsAll])
    (show (WTm.eq .res (.lit (.bool true))).value [] { args := args, res := some (.bool true), after := args } = some (.bool (true == true)) from w_eq_bool (w_res rfl) w_lit) rfl

/-- the same from a codeAny of the CALL (for a layer whose function contracts speak of calls) -/
theorem attach_call {l : OpenLaw} {n : Nat} {q : Program} {loose : List Str} {XP : (Str → Option Value) → Heap → Prop} {YP : World → Heap → Prop} {d : DefRec}
    (hn : l.most = some n) (hdf : d.params.defaults = [])
    (call : ∀ (w : World) (s₀ s₁ : Shared) (mg mb : Str → Option Value) (fa : Addr) (o : Obj) (pm cd doc : Value) (a : Addr) (vs : List Value) (ns : List Int),
      Ground q loose [] XP w s₀ mg mb s₁.heap → YP w s₁.heap →
      s₁.heap.get? fa = some o → o.data = .func (docDef d.name d.params d.body d.scope pm cd doc) → s₁.heap.CodeRec cd d.name → mg d.name = some (.ref fa) →
      s₁.heap.get? a = some { cls := .type "list", data := .seq vs.toArray } → IntsAre vs ns → ns.length ≤ n → s₁.gens = #[] →
      codeAny (model l.prog w) callerA (.call (.ref fa) ⟨[.ref a], []⟩) (fun r s' => r = .ok (.ret (.bool true)) ∧ OldK s₁.heap s'.heap ∧ s'.os = s₁.os ∧ AllBare s'.gens) s₁) :
    WalkO q loose XP YP l.row.toRowW d [] (fun f vs => PySem.call f vs) := by
  intro w s₀ s₁ mg mb G Y fa o pm cd doc dV kV ho hd hcd hD hmg hg args vals as hpre hlay hrd hwl hlo
  obtain rfl : dV = .none := Dflts.none hD hdf
  obtain rfl : kV = .none := Dflts.noKw hD
  obtain ⟨a, vs, ns, rfl, rfl, hobj, hints, hlen⟩ := script_of hn hpre hwl
  refine enter_call (codeAny_mono (call w s₀ s₁ mg mb fa o pm cd doc a vs ns G Y ho (fd_plain hd) hcd hmg hobj hints hlen hg) fun r s' hq => ?_)
  obtain ⟨rfl, h2, h3, h4⟩ := hq
  exact ⟨.inl ⟨.bool true, .bool true, [], rfl, fun _ => rfl, .bool true, post_true l _, fun _ => ⟨List.Pairwise.nil, fun _ hm => (nomatch hm)⟩⟩, h2, h3, h4⟩

section
variable {prog : Program} {w : World} {A : Around} {E : Value → Shared → Prop} {s : Shared} {K : Frag}

end
end Att

namespace L2
open PySem PySem.Spec PyProof.Rows

theorem vals_ints : ∀ {vs : List Value} {ns : List Int}, IntsAre vs ns → Vals (ns.map V.int) vs
  | _, _, .nil => .nil
  | _, _, .cons n t h => .cons ⟨t, rfl⟩ (vals_ints h)

/-- nothing is tracked but the script, known to the object (or it is an object of the module) -/
def Only (H : Hp) : Prop := ∀ b, H b = none ∨ ∃ o xs, H b = some (.frz o (.lst xs))

/-- THE HEAD: the law's promise, at the heap behind the top. F, the promise of the law's def, may use that base is part of the heap (so K.In base, base.Ns mainGlobals mg stand in Mod) -/
theorem law_call {P : Program} {w : World} {K : PySem.W.Frag} {mg mb : Str → Option Value} {CX : CXT} {k : Nat} {fa a : Addr} {fd : FuncData} {x : Str} {sp : Sp} {s₁ : Shared} {vs : List Value} {ns : List Int}
    (KX : K.In s₁.heap) (hns : s₁.heap.Ns mainGlobals mg) (hb : s₁.heap.Ns builtinsNs mb) (hbb : ∀ x : Str, x ≠ "__name__" → mb x = bootBuiltins x) (hlim : s₁.heap.NoLimit) (hg : s₁.gens = #[])
    (ha : s₁.heap.get? a = some { cls := .type "list", data := .seq vs.toArray }) (hi : IntsAre vs ns) (hl : ns.length ≤ sizeLine) (hr : Room k callerA)
    (F : ∀ base : Heap, K.In base → base.Ns mainGlobals mg → FnOk P w K mg base CX k fa fd [x] sp) (hbind : ∀ (s : Shared) (u : Value), BindsTo s fd ⟨[u], []⟩ [(x, u)])
    (hsp : ∀ H : Hp, Only H → SqL K H a (ns.map V.int) → sp [.ref a] H (fun v _ => v = .bl true) fun _ _ _ => False)
    (hCX : ∀ H e s', CX [] H s₁ (fun _ _ _ => False) e s' → False) :
    codeAny (model P w) callerA (.call (.ref fa) ⟨[.ref a], []⟩) (fun r s' => r = .ok (.ret (.bool true)) ∧ OldK s₁.heap s'.heap ∧ s'.os = s₁.os ∧ AllBare s'.gens) s₁ := by
  have rv := vals_ints hi
  have lenV := hi.length
  -- from an abstract heap in which nothing but the script may be tracked
  have core : ∀ H : Hp, Only H → SqL K H a (ns.map V.int) → HOk P w H s₁.heap → (∀ b, H b ≠ none → b = a) → (H a ≠ none → K.lookup a = none) →
      codeAny (model P w) callerA (.call (.ref fa) ⟨[.ref a], []⟩) (fun r s' => r = .ok (.ret (.bool true)) ∧ OldK s₁.heap s'.heap ∧ s'.os = s₁.os ∧ AllBare s'.gens) s₁ := by
    intro H hO hS hok hA hK
    have base_of : ∀ {b : Addr} {o : Obj}, s₁.heap.get? b = some o → H b = none → (hidT s₁.heap H).get? b = some o := fun e n => hidT_get e n
    have noA : ∀ {b : Addr} {o : Obj} {es : Array DictEntry} {ep : Nat}, s₁.heap.get? b = some o → o.data = .dict es ep → H b = none := fun {b o es ep} e d => by
      cases q : H b with
      | none => rfl
      | some u =>
        have e' : b = a := hA b (by rw [q]; simp)
        subst e'
        rw [ha] at e; cases e
        have d' : Data.seq vs.toArray _ = Data.dict es ep := d
        cases d'
    have nsK : ∀ {b : Addr} {m : Str → Option Value}, s₁.heap.Ns b m → (hidT s₁.heap H).Ns b m := fun {b m} ⟨o, es, ep, e, d, r⟩ => ⟨o, es, ep, base_of e (noA e d), d, r⟩
    have hKb : K.In (hidT s₁.heap H) := fun b o e => base_of (KX b o e) (by
      cases q : H b with
      | none => rfl
      | some u =>
        have e' : b = a := hA b (by rw [q]; simp)
        subst e'
        rw [hK (by rw [q]; simp)] at e; cases e)
    have hM : Mod K mg (hidT s₁.heap H) := ⟨hKb, nsK hns, ⟨mb, nsK hb, hbb⟩, let ⟨mc, h1, h2⟩ := hlim; ⟨mc, nsK h1, h2⟩⟩
    have e0 : Env0 P w K mg (hidT s₁.heap H) callerA [] s₁ H := ⟨rfl, hM, fun b o e => of_hidT e, Nat.le_of_eq (hidT_size _ _), trivial, fun b hb => absurd (show b ∈ ([] : List Addr) from hb) (by simp), hok, .of_eq hg⟩
    refine codeAny_mono ((F _ hKb (nsK hns)).run callerA [] s₁ H ⟨[.ref a], []⟩ [.ref a] [.ref a] _ _ hr e0 (hbind s₁ (.ref a)) (.cons rfl .nil) (hsp H hO hS)) fun r s' h => ?_
    cases r with
    | error e => exact (hCX H e s' h).elim
    | ok fl =>
      cases fl with
      | next => exact False.elim h
      | brk => exact False.elim h
      | cont => exact False.elim h
      | ret u =>
        obtain ⟨v, H', os, bare, un, hok', r', q⟩ := h
        have q' : v = .bl true := q
        subst q'
        obtain rfl : u = Value.bool true := r'
        refine ⟨rfl, OldK.of_keep fun b o e => ?_, os, bare⟩
        cases q : H b with
        | none => exact un.keep b o e q (by intro z; exact absurd (show b ∈ ([] : List Addr) from z) (by simp)) (by simp)
        | some u =>
          rcases hO b with z | ⟨ob, xs, z⟩
          · rw [q] at z; cases z
          · have z2 := un.frzs b ob _ z
            obtain ⟨e1, _⟩ := hok b _ z
            obtain ⟨e2, _⟩ := hok' b _ z2
            rw [e] at e1; cases e1
            exact e2
  cases hk : K.lookup a with
  | some o =>
    -- the script is one of the module's own objects
    have e := KX a o hk
    rw [ha] at e
    cases e
    refine core (fun _ => none) (fun _ => .inl rfl) (.inr ⟨_, vs.toArray, _, hk, rfl, rfl, rfl, by rw [List.size_toArray, lenV]; exact hl, by simpa using rv⟩) (fun b u z => by have z' : (none : Option HO) = some u := z; cases z') (fun b z => absurd rfl z) fun z => absurd rfl z
  | none =>
    refine core (fun b => if b = a then some (.frz { cls := .type "list", data := .seq vs.toArray } (.lst (ns.map V.int))) else none) (fun b => ?_) (.inl (.inr ⟨{ cls := .type "list", data := .seq vs.toArray }, if_pos rfl⟩)) (fun b u z => ?_) (fun b z => ?_) fun _ => hk
    · by_cases hb : b = a
      · exact .inr ⟨_, _, if_pos hb⟩
      · exact .inl (if_neg hb)
    · by_cases hb : b = a
      · have z' := (if_pos hb).symm.trans z
        cases z'
        subst hb
        exact ⟨ha, by rw [List.length_map]; exact hl, vs, _, rv, ha⟩
      · have z' := (if_neg hb).symm.trans z
        cases z'
    · by_cases hb : b = a
      · exact hb
      · exact absurd (if_neg hb) z
end L2

namespace L2
open PySem PySem.Spec PyProof.Rows

/-- the goal that k_head leaves (case hc), from the law's promise. F gives the function object fd (K's own) once, then the promise over every base -/
theorem walk_of {l : PySem.W.OpenLaw} {n k : Nat} {q : Program} {loose : List Str} {XP : (Str → Option Value) → Heap → Prop} {YP : World → Heap → Prop} {d : DefRec} {K : Params → PySem.W.Frag} {CX : World → CXT} {sp : World → Sp} {x : Str}
    (hn : l.most = some n) (hn2 : n ≤ sizeLine) (hdf : d.params.defaults = []) (hr : Room k callerA)
    (hY : ∀ (w : World) (h : Heap), YP w h → (K w.params).In h)
    (F : ∀ (w : World) (mg : Str → Option Value) (fa : Addr) (h : Heap), (K w.params).In h → h.Ns mainGlobals mg → mg d.name = some (.ref fa) →
      ∃ fd : FuncData, (∀ (s : Shared) (u : Value), BindsTo s fd ⟨[u], []⟩ [(x, u)]) ∧
        ∀ base : Heap, (K w.params).In base → base.Ns mainGlobals mg → FnOk l.prog w (K w.params) mg base (CX w) k fa fd [x] (sp w))
    (hsp : ∀ (w : World) (H : Hp) (a : Addr) (ns : List Int), ns.length ≤ n → Only H → SqL (K w.params) H a (ns.map V.int) → sp w [.ref a] H (fun v _ => v = .bl true) fun _ _ _ => False)
    (hCX : ∀ (w : World) (H : Hp) (s : Shared) (e : Value) (s' : Shared), CX w [] H s (fun _ _ _ => False) e s' → False) :
    PySem.W.WalkO q loose XP YP l.row.toRowW d [] (fun f vs => PySem.call f vs) := by
  refine Att.attach_call hn hdf fun w s₀ s₁ mg mb fa o pm cd doc a vs ns G Y ho hd hcd hmg hobj hints hlen hg => ?_
  have KX := hY w _ Y
  obtain ⟨fd, hb, hF⟩ := F w mg fa _ KX G.T.g hmg
  exact law_call KX G.T.g G.T.b G.T.builtins G.T.nolimit hg hobj hints (Nat.le_trans hlen hn2) hr hF hb (fun H hO hS => hsp w H a ns hlen hO hS) fun H e s' => hCX w H s₁ e s'
end L2

namespace L2
open PySem PySem.Spec PyProof.Rows

def defArgs (s : Stmt) : Arguments := match s with
  | .FunctionDef _ a _ _ _ _ _ _ _ _ => a
  | _ => { posonlyargs := [], args := [], vararg := none, kwonlyargs := [], kw_defaults := [], kwarg := none, defaults := [] }
def defBody (s : Stmt) : List Stmt := match s with
  | .FunctionDef _ _ b _ _ _ _ _ _ _ => b
  | _ => []
def defScope (s : Stmt) : Scope := match s with
  | .FunctionDef _ _ _ _ _ _ sc _ _ _ => sc
  | _ => { kind := .function, names := [], isGenerator := false, isCoroutine := false }

abbrev CX0 : CXT := fun _ _ _ _ _ _ => False
abbrev E0 : XK := fun _ _ _ => False
theorem pass0 {X : Cx} : Passes CX0 X E0 := fun _ _ _ _ _ _ _ h => h.elim

structure Fun (K : PySem.W.Frag) (x qual : Str) (st : Stmt) (f : Addr) (fd : FuncData) : Prop where
  ex : ∃ (oc : Value) (od : Option Addr) (kV doc pm : Value) (an : Option Addr) (cdv ct : Value) (osl : Array (Option Value)),
    fd = PySem.W.fnOf x qual (defArgs st) (defBody st) (defScope st) .none kV doc pm an cdv ct ∧ K.lookup f = some ⟨oc, od, .func fd, osl⟩ ∧ PySem.W.codeIn K cdv qual = true
  kp : PySem.W.keepIn K (.ref f) = true
section
variable {P : Program} {w : World} {K : PySem.W.Frag} {mg : Str → Option Value} {base : Heap}
/-- THE RULE for a def: its body as a term of rules, and the reading of that term -/
theorem Fun.ok {x qual : Str} {st : Stmt} {f : Addr} {fd : FuncData} {N ps : List Str} {k : Nat} {sp : Sp} (F : Fun K x qual st f fd) (S : FnScope N ps (defScope st)) (len : ∀ vs H Q E, sp vs H Q E → vs.length = ps.length)
    (hbody : ∀ (cdv : Value) (A : Around) (outer : List Env) (s : Shared) (H : Hp) (vs : List V) (Q : VK) (E : XK), Room k (A.deeper (envOfC qual (defScope st) s.heap.objs.size f cdv)) → sp vs H Q E →
      ∃ t, PSs (cxOf CX0 P w K mg base N qual (defScope st) f cdv A outer s H E).nox (defBody st) t ∧ t { nx := fun _ H' => Q .non H', rt := Q } (start N vs) H) : FnOk P w K mg base CX0 (k + 1) f fd ps sp := by
  obtain ⟨oc, od, kV, doc, pm, an, cdv, ct, osl, rfl, lk, hcd⟩ := F.ex
  refine fn_of lk hcd S len fun A outer s H vs Q E hr hsp => ?_
  obtain ⟨t, h, q⟩ := hbody cdv A outer s H vs Q E hr hsp
  exact ⟨t, h.nox, q⟩
/-- how its arguments bind (no defaults): h is «fun _ _ _ _ _ _ us hl => match us, hl with | [_, _], _ => rfl», one _ a parameter -/
theorem Fun.binds {x qual : Str} {st : Stmt} {f : Addr} {fd : FuncData} {ps : List Str} (F : Fun K x qual st f fd)
    (h : ∀ (kV doc pm : Value) (an : Option Addr) (cdv ct : Value) (us : List Value), us.length = ps.length → bindArgs (PySem.W.fnOf x qual (defArgs st) (defBody st) (defScope st) .none kV doc pm an cdv ct) ⟨us, []⟩ = pure (ps.zip us)) : Binds K fd ps [] := by
  obtain ⟨oc, od, kV, doc, pm, an, cdv, ct, osl, rfl, lk, hcd⟩ := F.ex
  exact .all (h kV doc pm an cdv ct)
theorem fun_mk {x qual : Str} {st : Stmt} {f : Addr} {oc : Value} {od an : Option Addr} {osl : Array (Option Value)} {kV doc pm cdv ct : Value} (l : K.lookup f = some ⟨oc, od, .func (PySem.W.fnOf x qual (defArgs st) (defBody st) (defScope st) .none kV doc pm an cdv ct), osl⟩)
    (c : PySem.W.codeIn K cdv qual = true) (k : PySem.W.keepIn K (.ref f) = true) : Fun K x qual st f (PySem.W.fnOf x qual (defArgs st) (defBody st) (defScope st) .none kV doc pm an cdv ct) := ⟨⟨oc, od, kV, doc, pm, an, cdv, ct, osl, rfl, l, c⟩, k⟩
end
theorem small1000 {n : Nat} (h : n ≤ 1000) : n < sizeLine := Nat.lt_of_le_of_lt h (by decide)

section
variable {X : Cx}
theorem pv (i : Nat) {x : Str} {pos : Pos} (hN : X.N[i]? = some x := by rfl) (hv : Vis X.env.scope x := by first | exact Or.inl rfl | exact Or.inr (Or.inl rfl) | exact Or.inr (Or.inr rfl)) (hd : (x == ("__debug__" : Str)) = false := by decide)
    (hcd : (x == ("__classdict__" : Str)) = false := by decide) : PE X (.Name x pos) (tVar i) := pe_var hN hv hd hcd
end

theorem iteF {A B : Prop} (h : B) : if false = true then A else B := by
  rw [if_neg Bool.false_ne_true]
  exact h
theorem iteT {A B : Prop} (h : A) : if true = true then A else B := by
  rw [if_pos rfl]
  exact h
theorem ite2 {c A B : Prop} [Decidable c] (h1 : c → A) (h2 : ¬ c → B) : if c then A else B := by
  by_cases h : c
  · rw [if_pos h]
    exact h1 h
  · rw [if_neg h]
    exact h2 h
/-- all that was tracked is as it was -/
def Same (H H' : Hp) : Prop := ∀ b o, H b = some o → H' b = some o
theorem Same.refl (H : Hp) : Same H H := fun _ _ h => h
theorem Same.trans {H H1 H2 : Hp} (a : Same H H1) (b : Same H1 H2) : Same H H2 := fun c o h => b c o (a c o h)
theorem Same.free {H H' : Hp} (e : Same H H') {l : Addr} (h : H' l = Option.none) : H l = Option.none := by
  cases q : H l with
  | none => rfl
  | some o =>
    rw [e l o q] at h
    cases h
theorem Same.seq {K : PySem.W.Frag} {H H' : Hp} {a : Addr} {xs : List V} (e : Same H H') (h : SqL K H a xs) : SqL K H' a xs := by
  rcases h with (h | ⟨o, h⟩) | h
  · exact .inl (.inl (e _ _ h))
  · exact .inl (.inr ⟨o, e _ _ h⟩)
  · exact .inr h

end L2

namespace L2
open PySem PySem.Spec PyProof.Rows
section
variable {X : Cx}
end
section
variable {κ : Type} [DecidableEq κ]
end
end L2

namespace L2
open PySem PySem.Spec PyProof.Rows
section
variable {prog : Program} {w : World} {A : Around} {E : Value → Shared → Prop} {s : Shared}
end
section
variable {prog : Program} {w : World} {A : Around} {E : Value → Shared → Prop} {s : Shared}
end
end L2

namespace L2
open PySem PySem.Spec PyProof.Rows
def cloGo (env : Env) : List (Str × NameKind) → List (Str × Addr) → List (Str × Addr)
  | [], acc => acc
  | (n, k) :: r, acc => if k == .free then (match env.cells.lookup n with | some a => cloGo env r ((n, a) :: acc) | none => cloGo env r acc) else cloGo env r acc
theorem closure_ok {scope : Scope} {env : Env} (h : ∀ y ∈ scope.names, y.2 = .free → ∃ c, env.cells.lookup y.1 = some c) : closureFor scope env = pure (cloGo env scope.names []) := by
  unfold closureFor
  have key : ∀ (l : List (Str × NameKind)) (acc : List (Str × Addr)), (∀ y ∈ l, y.2 = .free → ∃ c, env.cells.lookup y.1 = some c) →
      (forIn l acc fun (x : Str × NameKind) (cs : List (Str × Addr)) => (match x with | (name, kind) => if (kind == NameKind.free) = true then (do let a ← cellOf env name; pure (ForInStep.yield ((name, a) :: cs))) else pure (ForInStep.yield cs) : Sem (ForInStep (List (Str × Addr))))) = (pure (cloGo env l acc) : Sem _) := by
    intro l
    induction l with
    | nil => intro acc _; rfl
    | cons x r ih =>
      intro acc hl
      obtain ⟨n, k⟩ := x
      rw [List.forIn_cons]
      unfold cloGo
      by_cases hk : (k == NameKind.free) = true
      · obtain ⟨c, hc⟩ := hl (n, k) List.mem_cons_self (by simpa using hk)
        have hc' : env.cells.lookup n = some c := hc
        have e : cellOf env n = pure c := by unfold cellOf; rw [hc']
        simp only [hk, if_true, e, hc']
        exact ih _ fun y hy => hl y (List.mem_cons_of_mem _ hy)
      · simp only [hk]
        exact ih _ fun y hy => hl y (List.mem_cons_of_mem _ hy)
  have := key scope.names [] h
  exact (congrArg (fun (m : Sem (List (Str × Addr))) => m >>= fun z => pure z) this).trans rfl
theorem cloGo_sub (env : Env) : ∀ (l : List (Str × NameKind)) (acc : List (Str × Addr)) (y : Str) (c : Addr), (cloGo env l acc).lookup y = some c → acc.lookup y = some c ∨ env.cells.lookup y = some c
  | [], _, _, _, h => .inl h
  | (n, k) :: r, acc, y, c, h => by
    unfold cloGo at h
    split at h
    · split at h
      · rename_i a ha
        rcases cloGo_sub env r _ y c h with z | z
        · rw [List.lookup_cons] at z
          split at z
          · rename_i e
            cases z
            have e' : y = n := by simpa using e
            subst e'
            exact .inr ha
          · exact .inl z
        · exact .inr z
      · exact cloGo_sub env r _ y c h
    · exact cloGo_sub env r _ y c h
theorem cloGo_acc (env : Env) : ∀ (l : List (Str × NameKind)) (acc : List (Str × Addr)) (y : Str), (acc.lookup y).isSome = true → ((cloGo env l acc).lookup y).isSome = true
  | [], _, _, h => h
  | (n, k) :: r, acc, y, h => by
    unfold cloGo
    split
    · split
      · refine cloGo_acc env r _ y ?_
        rw [List.lookup_cons]
        split
        · rfl
        · exact h
      · exact cloGo_acc env r _ y h
    · exact cloGo_acc env r _ y h
theorem cloGo_has (env : Env) : ∀ (l : List (Str × NameKind)) (acc : List (Str × Addr)) (y : Str), (y, NameKind.free) ∈ l → (env.cells.lookup y).isSome = true → ((cloGo env l acc).lookup y).isSome = true
  | [], _, _, h, _ => nomatch h
  | (n, k) :: r, acc, y, h, hc => by
    unfold cloGo
    rcases List.mem_cons.mp h with e | h
    · obtain ⟨e1, e2⟩ := Prod.mk.inj e
      subst e1
      subst e2
      rw [if_pos (by decide)]
      split
      · refine cloGo_acc env r _ y ?_
        rw [List.lookup_cons]
        simp
      · rename_i e
        rw [e] at hc
        cases hc
    · split
      · split
        · exact cloGo_has env r _ y h hc
        · exact cloGo_has env r _ y h hc
      · exact cloGo_has env r _ y h hc
end L2

namespace L2
open PySem PySem.Spec PyProof.Rows
def hideN (x : Str) (N : List Str) : List Str := N.map fun y => if y = x then "" else y
/-- the context of a comprehension's block; its names: the clause's own, then the names of the text around it -/
def cxComp (X : Cx) (x : Str) (scope : Scope) (C : Addr) (s₀ : Shared) (H₀ : Hp) (fp : List Addr) : Cx where
  prog := X.prog
  w := X.w
  K := X.K
  mg := X.mg
  base := X.base
  A := X.A
  N := x :: hideN x X.N
  s₀ := s₀
  H₀ := H₀
  env := compEnvC scope (cloGo X.env scope.names []) C X.env
  outer := X.stack
  stack := X.stack
  ex := fp
  fn := fun _ => false
  calm := X.calm
  pn := []
  xe := fun _ _ => False
theorem relabel_lookup (env : Env) (y : Str) : ∀ names : List (Str × NameKind),
    (names.map fun (n, k) => if (k == NameKind.free && env.scope.kind == .function && env.kindOf n == some .cell) then (n, NameKind.cell) else (n, k)).lookup y =
      (names.lookup y).map fun k => if (k == NameKind.free && env.scope.kind == .function && env.kindOf y == some .cell) then NameKind.cell else k
  | [] => rfl
  | (n, k) :: r => by
    have ih := relabel_lookup env y r
    rw [List.map_cons]
    show List.lookup y ((if (k == NameKind.free && env.scope.kind == .function && env.kindOf n == some .cell) = true then (n, NameKind.cell) else (n, k)) :: _) = _
    have e0 : (if (k == NameKind.free && env.scope.kind == .function && env.kindOf n == some .cell) = true then (n, NameKind.cell) else (n, k)) = (n, if (k == NameKind.free && env.scope.kind == .function && env.kindOf n == some .cell) = true then NameKind.cell else k) := by split <;> rfl
    rw [e0, List.lookup_cons, List.lookup_cons]
    cases hx : y == n with
    | true =>
      have e : y = n := by simpa using hx
      subst e
      rfl
    | false => exact ih
/-- what is asked of the block's scope: all of it is read off the text -/
structure CompScope (X : Cx) (x : Str) (scope : Scope) : Prop where
  kind : scope.kind = .function
  nocell : ∀ y ∈ scope.names, y.2 ≠ .cell
  names : ∀ y ∈ scope.names, y.2 = .local → scope.names.lookup y.1 = some .local
  loc : scope.names.lookup x = some .local
  free : ∀ y ∈ scope.names, y.2 = .free → X.env.kindOf y.1 = some .cell ∨ X.env.kindOf y.1 = some .free
  nd : (x :: hideN x X.N).Nodup
  only : ∀ y ∈ hideN x X.N, scope.names.lookup y ≠ some .local
  noE : scope.names.lookup ("" : Str) = none

section
variable {X : Cx} {pins : List (Addr × Obj)} {σ : St} {H : Hp} {s : Shared} {x : Str} {scope : Scope} {fp : List Addr} {C : Addr}
theorem comp_start {h' : Heap} {tk : Nat} {m : Str → Option Value} (I : Inv X pins σ H s) (S : CompScope X x scope) (hf : ∀ b ∈ fp, FpOk X pins H b) (hlt : ∀ b ∈ fp, b < s.heap.objs.size) (hC : s.heap.objs.size ≤ C) (hn : h'.Ns C m)
    (hk : ∀ b o, s.heap.get? b = some o → h'.get? b = some o) : Inv (cxComp X x scope C s H fp) [] (none :: σ) H { s with heap := h', toks := tk } := by
  have cl : ∀ y c, (cloGo X.env scope.names []).lookup y = some c → X.env.cells.lookup y = some c := fun y c e => by
    rcases cloGo_sub X.env scope.names [] y c e with z | z
    · cases z
    · exact z
  have cellK : ∀ c v, s.heap.IsCell c v → h'.IsCell c v := fun c v ⟨o, ho, hd⟩ => ⟨o, hk c o ho, hd⟩
  have look : ∀ y, (cxComp X x scope C s H fp).env.scope.names.lookup y = (scope.names.lookup y).map fun k => if (k == NameKind.free && X.env.scope.kind == .function && X.env.kindOf y == some .cell) then NameKind.cell else k := fun y => relabel_lookup X.env y scope.names
  refine ⟨⟨I.ok.mod, S.kind, I.ok.glob, I.ok.blt, hC, fun y z c e1 e2 => I.ok.inj y z c (cl y c e1) (cl z c e2), fun y hy => ?_, fun y c e _ => (by cases e), fun h => I.ok.hd h, I.ok.frames, .inl rfl, fun b hb => ?_, I.bs, Nat.le_trans I.ok.bsz I.sz, fun b o e hb => ?_, fun b hb hb' => ?_, I.stack, I.stkFree⟩,
    rfl, I.bare, Un.kept hk, ⟨m, hn, fun i y v h1 h2 h3 => ?_⟩, fun y c e => ?_, I.hok.fresh hC, fun y c e => I.freeC y c (cl y c e), fun p hp => absurd (show p ∈ ([] : List (Addr × Obj)) from hp) (by simp), I.hok.kept hk, ?_⟩
  · -- every cell of the block is there
    have hy' : (cxComp X x scope C s H fp).env.scope.names.lookup y = some .cell ∨ (cxComp X x scope C s H fp).env.scope.names.lookup y = some .free := hy
    rw [look y] at hy'
    cases e : scope.names.lookup y with
    | none => rw [e] at hy'; rcases hy' with z | z <;> cases z
    | some k =>
      have hm := PySem.mem_of_lookup e
      have hfree : k = .free := by
        rw [e] at hy'
        cases k with
        | free => rfl
        | cell => exact absurd rfl (S.nocell _ hm)
        | _ => rcases hy' with z | z <;> simp at z
      subst hfree
      obtain ⟨c, hc⟩ := I.ok.has y (S.free _ hm rfl)
      exact Option.isSome_iff_exists.mp (cloGo_has X.env scope.names [] y hm (by rw [hc]; rfl))
  · obtain ⟨f0, f1, f2, f3, f4, f5⟩ := hf b hb
    exact ⟨Nat.ne_of_lt (Nat.lt_of_lt_of_le (hlt b hb) hC), fun y c e => f4 y c (cl y c e)⟩
  · obtain ⟨f0, f1, f2, f3, f4, f5⟩ := hf b hb
    rcases f3 with z | z
    · exact I.ok.noex b o e z
    · exact absurd (Nat.lt_of_lt_of_le (Heap.lt_size e) (Nat.le_trans I.ok.bsz z)) (Nat.lt_irrefl _)
  · obtain ⟨f0, f1, f2, f3, f4, f5⟩ := hf b hb
    rcases List.mem_cons.mp (I.stkSub b hb') with e | e
    · exact f1 e
    · exact f2 e
  · cases i with
    | zero =>
      have h2' : (some none : Option (Option V)) = some (some v) := h2
      cases h2'
    | succ i =>
      have h1' : (hideN x X.N)[i]? = some y := h1
      have h2' : σ[i]? = some (some v) := h2
      have hmem : y ∈ hideN x X.N := List.mem_of_getElem? h1'
      unfold hideN at h1'
      rw [List.getElem?_map] at h1'
      cases e0 : X.N[i]? with
      | none => rw [e0] at h1'; cases h1'
      | some y0 =>
        rw [e0] at h1'
        have h1'' : (if y0 = x then ("" : Str) else y0) = y := Option.some.inj h1'
        have h3' : (cxComp X x scope C s H fp).env.scope.names.lookup y = some .local ∨ (cxComp X x scope C s H fp).env.scope.names.lookup y = some .cell ∨ (cxComp X x scope C s H fp).env.scope.names.lookup y = some .free := h3
        rw [look y] at h3'
        have hy0 : y0 = y := by
          by_cases q : y0 = x
          · rw [if_pos q] at h1''
            rw [← h1'', S.noE] at h3'
            rcases h3' with z | z | z <;> cases z
          · rw [if_neg q] at h1''
            exact h1''
        subst hy0
        cases e : scope.names.lookup y0 with
        | none => rw [e] at h3'; rcases h3' with z | z | z <;> cases z
        | some k =>
          have hm := PySem.mem_of_lookup e
          have hfree : k = .free := by
            rw [e] at h3'
            cases k with
            | free => rfl
            | cell => exact absurd rfl (S.nocell _ hm)
            | «local» => exact absurd e (S.only y0 hmem)
            | _ => rcases h3' with z | z | z <;> simp at z
          subst hfree
          have kd := S.free _ hm rfl
          obtain ⟨m0, hn0, hl0⟩ := I.loc
          obtain ⟨u, r, l⟩ := hl0 i y0 v e0 h2' (by rcases kd with z | z; exact .inr (.inl z); exact .inr (.inr z))
          refine ⟨u, r, .inr ⟨?_, ?_⟩⟩
          · have hk' : (cxComp X x scope C s H fp).env.scope.names.lookup y0 = some (if (NameKind.free == NameKind.free && X.env.scope.kind == .function && X.env.kindOf y0 == some .cell) then NameKind.cell else NameKind.free) := by
              rw [look y0, e]; rfl
            by_cases c : (NameKind.free == NameKind.free && X.env.scope.kind == .function && X.env.kindOf y0 == some .cell) = true
            · rw [if_pos c] at hk'; exact .inl hk'
            · rw [if_neg c] at hk'; exact .inr hk'
          · rcases l with ⟨lk, _⟩ | ⟨_, c, hc, hcell⟩
            · exfalso
              rcases kd with z | z <;> (rw [show X.env.kindOf y0 = some NameKind.local from lk] at z; cases z)
            · obtain ⟨c', hc'⟩ := Option.isSome_iff_exists.mp (cloGo_has X.env scope.names [] y0 hm (by rw [hc]; rfl))
              have := cl y0 c' hc'
              rw [hc] at this
              cases this
              exact ⟨c, hc', cellK c _ hcell⟩
  · obtain ⟨v, z⟩ := I.cell y c (cl y c e)
    exact ⟨v, cellK c v z⟩
  · show (none :: σ).length = (x :: hideN x X.N).length
    simp [hideN, I.len]
end

/-- the tests of a clause -/
def PIfs (X : Cx) (ifs : List Expr) (t : TT) : Prop :=
  ∀ (pins : List (Addr × Obj)) (s : Shared) (σ : St) (H : Hp) (Q : Bool → Hp → Prop), Inv X pins σ H s → t σ H Q →
    wpAny (model X.prog X.w) X.A (forIn ifs true fun c r => if r = true then do let ok ← isTrue c X.env (eval c X.env); pure (ForInStep.yield ok) else pure (ForInStep.yield r)) (TP X pins σ Q) X.xe s
def tYes : TT := fun _ H Q => Q true H
theorem pf_nil {X : Cx} : PIfs X [] tYes := fun _ _ _ H _ I h => wpAny_tests_nil ⟨H, I, h⟩
theorem pf_one {X : Cx} {c : Expr} {t : TT} (h : PT X c t) : PIfs X [c] t := fun pins s σ H Q I q => wpAny_tests_one (h pins s σ H Q I q)

/-- what a comprehension asks of an iterator. W: the invariant by the turn, a measure, the items so far and the heap -/
def CompOk (J : It) (σ : St) (H1 : Hp) (Q : VK) (tt : TT) (te : TE) : Prop := ∀ D, H1 D = none → ∃ W : Nat → Nat → List V → Hp → Prop, (∃ m, W 0 m [] (upd H1 D (.lst []))) ∧ ∀ i m ys H2, W i m ys H2 →
  (J.stop i H2 ∧ Q (.ref D) H2) ∨ (J.go i H2 ∧ ∀ x H3, J.yld i H2 x H3 → tt (some x :: σ) H3 fun b H4 =>
    if b = true then te (some x :: σ) H4 fun y H5 => H5 D = some (.lst ys) ∧ ys.length < sizeLine ∧ ∃ m', m' < m ∧ W (i + 1) m' (ys ++ [y]) (upd H5 D (.lst (ys ++ [y])))
    else ∃ m', m' < m ∧ W (i + 1) m' ys H4)
def tComp (wi : TI) (tt : TT) (te : TE) : TE := fun σ H Q => wi σ H fun J H1 => CompOk J σ H1 Q tt te
theorem thnF {α : Type} {t : Sem α} {Q Q' : α → Shared → Prop} {M : Model} {A : Around} {E : Value → Shared → Prop} {s : Shared} (h : wpAny M A t Q (fun _ _ => False) s) (hQ : ∀ a s, Q a s → Q' a s) : wpAny M A t Q' E s := wpAny_mono h hQ fun _ _ x => x.elim
theorem Inv.sameBut {X : Cx} {pins : List (Addr × Obj)} {σ : St} {H : Hp} {s : Shared} {h' : Heap} {C : Addr} (I : Inv X pins σ H s) (f : FpOk X pins H C) (sb : Heap.SameBut C s.heap h') : Inv X pins σ H { s with heap := h' } :=
  I.turned (t' := s.toks) (fun b o hb e => (sb.2 b hb).trans e) f.1 f.2.1 f.2.2.2.1 f.2.2.2.2.1 f.2.2.2.2.2
section
variable {X : Cx} {x : Str} {scope : Scope}
/-- the block, from the iterator on; RR: what is wanted of the list's address and the block's frame behind it -/
theorem comp_block {px pos : Pos} {iter elt : Expr} {ifs : List Expr} {tt : TT} {te : TE} {pins : List (Addr × Obj)} {σ : St} {s2 : Shared} {H2 : Hp} {it : Addr} {fp : List Addr} {tn : Nat → Heap → Prop} {J : It} {E : Value → Shared → Prop}
    {RR : Value → Addr → Result → Shared → Prop} {Q : VK}
    (hc : X.calm = true) (S : CompScope X x scope) (ht : ∀ C s₀ H₀ fp, PIfs (cxComp X x scope C s₀ H₀ fp) ifs tt) (he : ∀ C s₀ H₀ fp, PE (cxComp X x scope C s₀ H₀ fp) elt te)
    (I2 : Inv X pins σ H2 s2) (T : Turn X.prog X.w X.K (.Name x px) J fp it tn) (st2 : tn 0 s2.heap) (f2 : ∀ b ∈ fp, FpOk X pins H2 b)
    (q : ∀ D, H2 D = none → ∃ W : Nat → Nat → List V → Hp → Prop, (∃ m, W 0 m [] (upd H2 D (.lst []))) ∧ ∀ i m ys H2, W i m ys H2 →
      (J.stop i H2 ∧ Q (.ref D) H2) ∨ (J.go i H2 ∧ ∀ x H3, J.yld i H2 x H3 → tt (some x :: σ) H3 fun b H4 =>
        if b = true then te (some x :: σ) H4 fun y H5 => H5 D = some (.lst ys) ∧ ys.length < sizeLine ∧ ∃ m', m' < m ∧ W (i + 1) m' (ys ++ [y]) (upd H5 D (.lst (ys ++ [y])))
        else ∃ m', m' < m ∧ W (i + 1) m' ys H4))
    (hRR : ∀ D C s' H' m, s'.heap.Ns C m → FpOk X pins H' C → Inv X pins σ H' s' → Q (.ref D) H' → RR (.ref D) C (.ok .next) s') :
    wpAny (model X.prog X.w) X.A (newList []) (fun acc s₃ => wpAny (model X.prog X.w) X.A (newFunctionEnv scope X.env.globals (cloGo X.env scope.names []) [] X.env.qual none .none (some X.env)) (fun cenv s₄ =>
      codeAny (model X.prog X.w) X.A (.compStart (.ListComp elt [⟨.Name x px, iter, ifs, 0⟩] scope pos) 0 (.ref it) acc { cenv with scope := relabel scope X.env }) (RR acc cenv.locals) s₄) E s₃) E s2 := by
  refine wpAny_newObj_type (wpAny_newFunctionEnv S.nocell (by intro y hy; simp at hy) (fun h₁ hns₁ hsb₁ => ?_) S.kind)
  have I3 := I2.lnew (its := []) (ys := []) (t' := s2.toks) .nil (Nat.zero_le _)
  have hD0 : H2 s2.heap.objs.size = none := I2.fresh
  obtain ⟨W, ⟨m0, w0⟩, turn⟩ := q _ hD0
  generalize hs3 : ({ s2 with heap := s2.heap.push { cls := .type "list", data := .seq ([] : List Value).toArray }, toks := s2.toks } : Shared) = s3 at I3
  have e3 : s3.heap = s2.heap.push { cls := .type "list", data := .seq ([] : List Value).toArray } := by rw [← hs3]
  have hlt : ∀ b ∈ fp, b < s2.heap.objs.size := fun b hb => let ⟨_, e, _⟩ := T.obj _ _ st2 b hb; Heap.lt_size e
  have hlt3 : ∀ b ∈ fp, b < s3.heap.objs.size := fun b hb => by rw [e3, Heap.size_push]; exact Nat.lt_succ_of_lt (hlt b hb)
  have f3 : ∀ b ∈ fp, FpOk X pins (upd H2 s2.heap.objs.size (.lst [])) b := fun b hb => ⟨by rw [upd_ne (Nat.ne_of_lt (hlt b hb))]; exact (f2 b hb).1, (f2 b hb).2⟩
  have hk1 : ∀ b o, s3.heap.get? b = some o → h₁.get? b = some o := fun b o e => by
    have hne : b ≠ s3.heap.objs.size := Nat.ne_of_lt (Heap.lt_size e)
    rw [e3] at e hne
    exact hsb₁.extBut b o hne (Heap.get?_push_of_some _ e)
  have hC : s3.heap.objs.size = (s2.heap.push { cls := .type "list", data := .seq ([] : List Value).toArray }).objs.size := by rw [e3]
  have hns : h₁.Ns s3.heap.objs.size (fun x => ([] : List (Str × Value)).reverse.lookup x) := by rw [hC]; exact hns₁
  have st3 : tn 0 h₁ := T.keep _ _ _ st2 fun b hb o e => hk1 b o (by rw [e3]; exact Heap.get?_push_of_some _ e)
  have hDC : s2.heap.objs.size ≠ s3.heap.objs.size := by rw [e3, Heap.size_push]; exact Nat.ne_of_lt (Nat.lt_succ_self _)
  have start : ∀ tk, Inv (cxComp X x scope s3.heap.objs.size s3 (upd H2 s2.heap.objs.size (.lst [])) fp) [] (none :: σ) (upd H2 s2.heap.objs.size (.lst [])) { s3 with heap := h₁, toks := tk } := fun tk =>
    comp_start I3 S f3 hlt3 (Nat.le_refl _) hns hk1
  generalize hX : cxComp X x scope s3.heap.objs.size s3 (upd H2 s2.heap.objs.size (.lst [])) fp = X' at start
  have eA : X'.A = X.A := by rw [← hX]; rfl
  have eP : X'.prog = X.prog := by rw [← hX]; rfl
  have eW : X'.w = X.w := by rw [← hX]; rfl
  have eK : X'.K = X.K := by rw [← hX]; rfl
  have eC : X'.env.locals = s3.heap.objs.size := by rw [← hX]; rfl
  have loop : ∀ tk, codeAny (model X.prog X.w) X.A (.compLoop (.ListComp elt [⟨.Name x px, iter, ifs, 0⟩] scope pos) 0 (.ref it) (.ref s2.heap.objs.size) (compEnvC scope (cloGo X.env scope.names []) s3.heap.objs.size X.env))
      (RR (.ref s2.heap.objs.size) s3.heap.objs.size) { s3 with heap := h₁, toks := tk } := by
    intro tk
    subst hX
    refine codeAny_compLoop_tests (fun n s' => ∃ i ys v0 H', Inv (cxComp X x scope s3.heap.objs.size s3 (upd H2 s2.heap.objs.size (.lst [])) fp) [] (v0 :: σ) H' s' ∧ tn i s'.heap ∧ (∀ b ∈ fp, H' b = none) ∧ W i n ys H') ?_ m0
      ⟨0, [], none, _, start tk, st3, fun b hb => (f3 b hb).1, w0⟩
    rintro n s4 ⟨i, ys, v0, H4, I4, st4, fr4, w4⟩
    have stat : ∀ {H' : Hp}, (∀ b ∈ fp, H' b = none) → ∀ b ∈ fp, FpOk (cxComp X x scope s3.heap.objs.size s3 (upd H2 s2.heap.objs.size (.lst [])) fp) [] H' b := fun hn b hb => by
      refine ⟨hn b hb, (I4.ok.exf b hb).1, I4.ok.exfs b hb, .inl hb, (I4.ok.exf b hb).2, fun p hp => absurd (show p ∈ ([] : List (Addr × Obj)) from hp) (by simp)⟩
    rcases turn i n ys H4 w4 with ⟨stop, qn⟩ | ⟨go, step⟩
    · refine thn (T.done (cxComp X x scope s3.heap.objs.size s3 (upd H2 s2.heap.objs.size (.lst [])) fp) rfl rfl rfl hc i [] s4 (v0 :: σ) H4 _ I4 (stat fr4) st4 stop) fun r s5 ⟨hr, I5⟩ => ?_
      subst hr
      obtain ⟨m, hn, _⟩ := I5.loc
      refine hRR _ _ s5 H4 m hn (I3.fpOk (Nat.le_refl _) I5.free) (I3.call' (s' := s5) (ch := fp) I5.os I5.base I5.hok I5.bare (fun b hb => ?_)) qn
      obtain ⟨_, g1, _, g3, g4, g5⟩ := f3 b hb
      exact ⟨g3, g1, g4, g5⟩
    · refine thn (T.item (cxComp X x scope s3.heap.objs.size s3 (upd H2 s2.heap.objs.size (.lst [])) fp) rfl rfl rfl hc i [] s4 (v0 :: σ) H4 _ I4 (stat fr4) st4 go) fun r s5 ⟨u, hr, h5⟩ => ?_
      subst hr
      intro Γ p hΓ
      obtain ⟨xv, H6, I6, r6, y6, st6, fr6⟩ := h5 Γ p hΓ
      refine (?_ : wpAny _ _ _ _ _ _) Γ p hΓ
      have I6' := I6.pinned (stat fr6) (T.obj _ _ st6)
      have hloc : (cxComp X x scope s3.heap.objs.size s3 (upd H2 s2.heap.objs.size (.lst [])) fp).env.scope.names.lookup x = some .local := lookup_relabel_local S.loc
      have again : ∀ {s7 : Shared} {H7 : Hp} {ys' : List V}, Inv (cxComp X x scope s3.heap.objs.size s3 (upd H2 s2.heap.objs.size (.lst [])) fp) ([] ++ pinsAt fp s5.heap) (some xv :: σ) H7 s7 → (∃ m', m' < n ∧ W (i + 1) m' ys' H7) →
          ∃ m, m < n ∧ ∃ i ys v0 H', Inv (cxComp X x scope s3.heap.objs.size s3 (upd H2 s2.heap.objs.size (.lst [])) fp) [] (v0 :: σ) H' s7 ∧ tn i s7.heap ∧ (∀ b ∈ fp, H' b = none) ∧ W i m ys H' := fun {s7 H7 ys'} I7 hw => by
        obtain ⟨m', hm, w7⟩ := hw
        refine ⟨m', hm, i + 1, ys', some xv, H7, I7.unpinned, T.keep _ _ _ st6 fun b hb o e => (I7.pin (b, o) (List.mem_append_right _ (List.mem_append_right _ (mem_pinsAt hb e)))).1, fun b hb => ?_, w7⟩
        obtain ⟨o, e, d⟩ := T.obj _ _ st6 b hb
        exact (I7.pin (b, o) (List.mem_append_right _ (List.mem_append_right _ (mem_pinsAt hb e)))).2.1
      refine wpAny_assign_Name (store_ok (X := cxComp X x scope s3.heap.objs.size s3 (upd H2 s2.heap.objs.size (.lst [])) fp) (i := 0) I6' S.nd rfl (.inl hloc) r6 (fun s7 I7 => ?_) (.inr hloc))
      refine thnF (ht _ _ _ _ _ s7 (some xv :: σ) H6 _ I7 (step xv H6 y6)) fun b s8 ⟨H8, I8, q8⟩ => ?_
      cases b with
      | false =>
        rw [if_neg Bool.false_ne_true] at q8 ⊢
        exact again I8 q8
      | true =>
        rw [if_pos rfl] at q8 ⊢
        refine thnF (he _ _ _ _ _ s8 (some xv :: σ) H8 _ I8 q8) fun y s9 ⟨yv, H9, I9, r9, hD9, hz9, q9⟩ => ?_
        refine thnF (mt_append (X := cxComp X x scope s3.heap.objs.size s3 (upd H2 s2.heap.objs.size (.lst [])) fp) _ s9 (some xv :: σ) H9 (.ref s2.heap.objs.size) [yv] (.ref s2.heap.objs.size) [y] (fun _ H' => H' = upd H9 s2.heap.objs.size (.lst (ys ++ [yv]))) I9 rfl (.cons r9 .nil)
          ⟨_, ys, yv, rfl, rfl, hD9, hz9, rfl⟩) fun _ s10 ⟨_, H10, I10, _, e10⟩ => ?_
        subst e10
        exact again I10 q9
  have key := fun tk => codeAny_compStart_list (R := RR (.ref s2.heap.objs.size) s3.heap.objs.size) (loop tk) (T.self X.A 0 { s3 with heap := h₁, toks := tk } (fun it' s' => codeAny (model X.prog X.w) X.A (.compLoop (.ListComp elt [⟨.Name x px, iter, ifs, 0⟩] scope pos) 0 it' (.ref s2.heap.objs.size) (compEnvC scope (cloGo X.env scope.names []) s3.heap.objs.size X.env)) (RR (.ref s2.heap.objs.size) s3.heap.objs.size) s') _ st3 (loop tk))
  subst hs3
  exact key _
/-- [elt for x in iter if ..] as a value -/
theorem pe_comp {px pos : Pos} {iter elt : Expr} {ifs : List Expr} {wi : TI} {tt : TT} {te : TE} (hc : X.calm = true) (S : CompScope X x scope) (hi : PI X (.Name x px) iter wi)
    (ht : ∀ C s₀ H₀ fp, PIfs (cxComp X x scope C s₀ H₀ fp) ifs tt) (he : ∀ C s₀ H₀ fp, PE (cxComp X x scope C s₀ H₀ fp) elt te) (hs : ∀ x, foldedSetIterable iter X.env x = pure x := by intro _; rfl) :
    PE X (.ListComp elt [⟨.Name x px, iter, ifs, 0⟩] scope pos) (tComp wi tt te) := by
  intro pins s σ H Q I h
  rw [eval_ListComp]
  refine wpAny_comprehension_free (use := none) (cl := cloGo X.env scope.names []) rfl hs (closure_ok fun y hy hk => I.ok.has y.1 (S.free y hy hk)) S.kind S.names (thn (hi pins s σ H _ I h) fun v s1 h1 => thn h1 fun itv s2 h2 => ?_)
  obtain ⟨it, fp, tn, J, H2, e, I2, T, st2, f2, q⟩ := h2
  subst e
  refine comp_block (RR := fun acc C => compPost (model X.prog X.w) X.A X.xe none (EP X pins σ Q) acc C) (Q := Q) hc S ht he I2 T st2 f2 q ?_
  intro D C s' H' m hn hf hI hq
  exact ⟨m, hn, fun h' sb => ⟨.ref D, H', hI.sameBut hf sb, rfl, hq⟩⟩
end
end L2

namespace L2
open PySem PySem.Spec PyProof.Rows
section
variable {σ : St} {H1 : Hp} {Q : VK} {tt : TT} {te : TE}
/-- n turns, the i-th yields xs[i]; test p, element f; nothing that stands is changed -/
theorem comp_any {J : It} {xs : List V} (p : V → Bool) (f : V → V) (hz : xs.length < sizeLine)
    (hgo : ∀ i H x, Same H1 H → xs[i]? = some x → J.go i H) (hy : ∀ i H y H', Same H1 H → i < xs.length → J.yld i H y H' → H' = H ∧ xs[i]? = some y) (hstop : ∀ H, Same H1 H → J.stop xs.length H)
    (ht : ∀ x ∈ xs, ∀ H, Same H1 H → ∀ R : Bool → Hp → Prop, (∀ H', Same H H' → R (p x) H') → tt (some x :: σ) H R)
    (he : ∀ x ∈ xs, p x = true → ∀ H, Same H1 H → ∀ R : VK, (∀ H', Same H H' → R (f x) H') → te (some x :: σ) H R)
    (hq : ∀ D H, H1 D = none → Same H1 H → H D = some (.lst ((xs.filter p).map f)) → Q (.ref D) H) : CompOk J σ H1 Q tt te := by
  intro D hD
  have s0 : Same H1 (upd H1 D (.lst [])) := fun b o e => by rw [upd_ne (ne_of_none e hD)]; exact e
  refine ⟨fun i m ys H => m = xs.length - i ∧ i ≤ xs.length ∧ ys = ((xs.take i).filter p).map f ∧ H D = some (.lst ys) ∧ Same H1 H, ⟨xs.length, by simp, Nat.zero_le _, by simp, upd_same, s0⟩, ?_⟩
  rintro i m ys H ⟨rfl, hi, rfl, hd, hs⟩
  by_cases hlt : i < xs.length
  · obtain ⟨x, hx⟩ : ∃ x, xs[i]? = some x := ⟨xs[i], by simp [hlt]⟩
    refine .inr ⟨hgo i H x hs hx, fun y H3 hyl => ?_⟩
    obtain ⟨rfl, hy'⟩ := hy i H y H3 hs hlt hyl
    rw [hx] at hy'
    cases hy'
    have hm : x ∈ xs := List.mem_of_getElem? hx
    have hlen : (((xs.take i).filter p).map f).length < sizeLine := by
      rw [List.length_map]
      refine Nat.lt_of_le_of_lt (List.length_filter_le _ _) (Nat.lt_of_le_of_lt ?_ hz)
      rw [List.length_take]; omega
    refine ht x hm _ hs _ fun H4 s4 => ?_
    by_cases hp : p x = true
    · rw [if_pos hp]
      refine he x hm hp H4 (hs.trans s4) _ fun H5 s5 => ?_
      refine ⟨s5 _ _ (s4 _ _ hd), hlen, xs.length - (i + 1), by omega, rfl, hlt, ?_, upd_same, fun b o e => ?_⟩
      · rw [take_succ_filter p xs i x hx, if_pos hp, List.map_append]; rfl
      · rw [upd_ne (ne_of_none e hD)]; exact s5 _ _ (s4 _ _ (hs _ _ e))
    · rw [if_neg hp]
      refine ⟨xs.length - (i + 1), by omega, rfl, hlt, ?_, s4 _ _ hd, hs.trans s4⟩
      rw [take_succ_filter p xs i x hx, if_neg hp, List.append_nil]
  · have e : i = xs.length := by omega
    subst e
    rw [List.take_length] at hd
    exact .inl ⟨hstop H hs, hq D H hD hs hd⟩
end
section
variable {X : Cx} {tg : Expr}
end
section
variable {σ : St} {H1 : Hp} {Q : VK} {tt : TT} {te : TE}
end

section
variable {X : Cx}
/-- isinstance(x, T) of a built-in type -/
theorem call_isin : CallR X (.builtin "isinstance") (fun xs H Q => ∃ x T t b, xs = [x, V.ty T] ∧ TyOf X.K H x t ∧ PySem.W.kitOne X.K t (.type T) = some b ∧ Q (.bl b) H) := by
  intro pins s σ H xs us Q I r h
  obtain ⟨x, T, t, b, rfl, ty, e, q⟩ := h
  obtain ⟨u, v, rfl, ru, rv⟩ := Vals.two r
  cases rv
  exact isinst_ok I ru ty e fun tk => ⟨.bl b, H, I.tok _, rfl, q⟩
end

def compChk (x : Str) (scope osc : Scope) (N : List Str) : Bool :=
  (scope.kind == .function) && scope.names.all (fun y => y.2 != .cell) && scope.names.all (fun y => y.2 != .local || scope.names.lookup y.1 == some .local) && (scope.names.lookup x == some .local) &&
  scope.names.all (fun y => y.2 != .free || osc.names.lookup y.1 == some .cell || osc.names.lookup y.1 == some .free) && decide ((x :: hideN x N).Nodup) && (hideN x N).all (fun y => scope.names.lookup y != some .local) && (scope.names.lookup ("" : Str) == none)
theorem compScope {X : Cx} {x : Str} {scope osc : Scope} {N : List Str} (hsc : X.env.scope = osc) (hN : X.N = N) (h : compChk x scope osc N = true) : CompScope X x scope := by
  unfold compChk at h
  simp only [Bool.and_eq_true] at h
  obtain ⟨⟨⟨⟨⟨⟨⟨h1, h2⟩, h3⟩, h4⟩, h5⟩, h6⟩, h7⟩, h8⟩ := h
  rw [List.all_eq_true] at h2 h3 h5 h7
  have kd : ∀ y, X.env.kindOf y = osc.names.lookup y := fun y => by rw [← hsc]; rfl
  refine ⟨by simpa using h1, fun y hy => by simpa using h2 y hy, fun y hy e => ?_, by simpa using h4, fun y hy e => ?_, by rw [hN]; exact of_decide_eq_true h6, fun y hy => ?_, by simpa using h8⟩
  · have := h3 y hy
    rw [e] at this
    simpa using this
  · have := h5 y hy
    rw [e] at this
    rw [kd]
    simpa using this
  · rw [hN] at hy
    simpa using h7 y hy
end L2

namespace L2
open PySem PySem.Spec PyProof.Rows
section
variable {X : Cx} {pins : List (Addr × Obj)} {σ : St} {H : Hp} {s : Shared} {h' : Heap}
end
section
variable {X : Cx} {es : List Expr} {k1 : Nat} {tpos : Pos}
end
end L2

namespace L2
open PySem PySem.Spec PyProof.Rows
theorem loop_go {prog : Program} {w : World} {A : Around} {R : Result → Shared → Prop} {s : Shared} {elt tg iter : Expr} {ifs : List Expr} {scope : Scope} {pos : Pos} {it acc : Value} {env : Env} (J : Nat → Shared → Prop) {E : Value → Shared → Prop} (hE : E = notedBy (model prog w) A env fun e s' => R (.error e) s')
    (turn : ∀ n s, J n s → wpAny (model prog w) A (pyNext it) (fun r s1 => match r with
      | none => R (.ok .next) s1
      | some v => wpAny (model prog w) A (letOwnedTupleGo tg it v) (fun _ s2 => wpAny (model prog w) A (assign tg env v) (fun _ s3 =>
          wpAny (model prog w) A (forIn ifs true fun c r => if r = true then do let ok ← isTrue c env (eval c env); pure (ForInStep.yield ok) else pure (ForInStep.yield r)) (fun ok s4 =>
            if ok = true then wpAny (model prog w) A (eval elt env) (fun x s5 => wpAny (model prog w) A (call (.builtin "list.append") [acc, x]) (fun _ s6 => ∃ m, m < n ∧ J m s6) E s5) E s4
            else ∃ m, m < n ∧ J m s4) E s3) E s2) E s1) E s) (n : Nat) (h : J n s) :
    codeAny (model prog w) A (.compLoop (.ListComp elt [⟨tg, iter, ifs, 0⟩] scope pos) 0 it acc env) R s := by
  subst hE
  refine codeAny_loop rfl J (fun n s hJ => (show wpAny _ A ((compTurn (.ListComp elt [⟨tg, iter, ifs, 0⟩] scope pos) 0 it acc env).onRaise (fun x => do noteFrame x env; theTreesLotGoes x)) _ _ s from wpAny_noted ?_)) n h
  rw [compTurn_list]
  refine wpAny_bind (wpAny_standAt (wpAny_bind (wpAny_mono (turn n s hJ) (fun r s1 h1 => ?_) fun _ _ q => q)))
  cases r with
  | none => exact wpAny_pure h1
  | some v =>
    refine wpAny_bind (wpAny_mono h1 (fun _ s2 h2 => wpAny_bind (wpAny_mono h2 (fun _ s3 h3 => wpAny_bind (wpAny_mono h3 (fun ok s4 h4 => ?_) fun _ _ q => q)) fun _ _ q => q)) fun _ _ q => q)
    cases ok with
    | false => exact wpAny_pure ⟨rfl, h4⟩
    | true => exact wpAny_bind (wpAny_bind (wpAny_mono h4 (fun x s5 h5 => wpAny_bind (wpAny_mono h5 (fun _ s6 h6 => wpAny_pure (wpAny_pure ⟨rfl, h6⟩)) fun _ _ q => q)) fun _ _ q => q))
section
variable {X : Cx} {pins : List (Addr × Obj)} {σ : St} {H : Hp} {s : Shared} {x z : Str} {scope : Scope} {fp : List Addr} {C : Addr}
end
section
variable {X : Cx} {x z : Str} {scope : Scope}
end
end L2

namespace L2
open PySem PySem.Spec PySem.Calls PyProof.Rows
/-- y is a tuple of zs -/
def TupAt (H : Hp) (zs : List V) (y : V) : Prop := ∃ T, y = .ref T ∧ H T = some (.tup zs)
theorem TupAt.mono {H H' : Hp} {zs : List V} {y : V} (s : Same H H') (h : TupAt H zs y) : TupAt H' zs y := let ⟨T, e, q⟩ := h; ⟨T, e, s _ _ q⟩
theorem TupAt.upd {H : Hp} {zs ys ws : List V} {y : V} {D : Addr} (h : TupAt H zs y) (hD : H D = some (.lst ys)) : TupAt (upd H D (.lst ws)) zs y := by
  obtain ⟨T, e, q⟩ := h
  refine ⟨T, e, ?_⟩
  rw [upd_ne fun z => by rw [z, hD] at q; cases q]
  exact q
theorem paired_upd {α : Type} {H : Hp} {f : α → List V} {l : List α} {vs ys ws : List V} {D : Addr} (h : Paired (fun a y => TupAt H (f a) y) l vs) (hD : H D = some (.lst ys)) : Paired (fun a y => TupAt (upd H D (.lst ws)) (f a) y) l vs := Paired.mapP h fun _ _ q => q.upd hD
theorem paired_mono {α : Type} {H H' : Hp} {f : α → List V} {l : List α} {vs : List V} (s : Same H H') (h : Paired (fun a y => TupAt H (f a) y) l vs) : Paired (fun a y => TupAt H' (f a) y) l vs := Paired.mapP h fun _ _ q => q.mono s
section
variable {X : Cx} {x z : Str} {scope : Scope}
end
section
variable {σ : St} {H1 : Hp} {Q : VK} {tt : TT} {te : TE}
theorem comp_sq {K : PySem.W.Frag} {a : Addr} {xs : List V} (p : V → Bool) (f : V → V) (hl : SqL K H1 a xs) (hz : xs.length < sizeLine)
    (ht : ∀ x ∈ xs, ∀ H, Same H1 H → ∀ R : Bool → Hp → Prop, (∀ H', Same H H' → R (p x) H') → tt (some x :: σ) H R)
    (he : ∀ x ∈ xs, p x = true → ∀ H, Same H1 H → ∀ R : VK, (∀ H', Same H H' → R (f x) H') → te (some x :: σ) H R)
    (hq : ∀ D H, H1 D = none → Same H1 H → H D = some (.lst ((xs.filter p).map f)) → Q (.ref D) H) : CompOk (Itl K a) σ H1 Q tt te :=
  comp_any p f hz (fun i H x hs hx => ⟨xs, x, hs.seq hl, hx⟩) (fun i H y H' hs _ hy => ⟨hy.1, hy.2 xs (hs.seq hl)⟩) (fun H hs => ⟨xs, hs.seq hl, Nat.le_refl _⟩) ht he hq
end
end L2

namespace L2
open PySem PySem.Spec PySem.Calls PyProof.Rows
section
variable {prog : Program} {w : World} {A : Around} {E : Value → Shared → Prop} {s : Shared} {K : PySem.W.Frag} {x C : Addr} {ox : Obj} {od : Option Obj} {name : Str} {tk : Tok} {R : Result → Shared → Prop}
end
end L2

namespace L2
open PySem PySem.Spec PySem.Calls PyProof.Rows
section
variable {prog : Program} {w : World} {A : Around} {E : Value → Shared → Prop} {K : PySem.W.Frag} {C : Addr} {h : Heap} {g : Array GenState} {d : Drawn} {t : Nat} {os : OsState}
end
end L2

namespace L2
open PySem PySem.Spec PySem.Calls PyProof.Rows
/-- an exception at x of the own class C, its dict at od where it has one; the dict of an exception -/
def ExcO (x C : Addr) (od : Option Addr) : HO := .ext fun h => ∃ (d : Data) (sl : Array (Option Value)), h.get? x = some ⟨.ref C, od, d, sl⟩ ∧ PySem.W.notCls ⟨.ref C, od, d, sl⟩ = true
def XdO (dx : Addr) (fs : List (Str × V)) : HO := .ext fun h => ∃ mA, h.Ns1 dx mA ∧ ∀ f, RelO (fs.lookup f) (mA f)
section
variable {P : Program} {w : World} {H H' : Hp} {h : Heap} {x C dx : Addr} {od : Option Addr} {fs : List (Str × V)}
/-- x is an exception of the class C with the attributes fs -/
inductive IsExc (H : Hp) (x C : Addr) : List (Str × V) → Prop where
  | bare (e : H x = some (ExcO x C none)) : IsExc H x C []
  | full {dx : Addr} {fs : List (Str × V)} (e : H x = some (ExcO x C (some dx))) (d : H dx = some (XdO dx fs)) : IsExc H x C fs
end
section
variable {P : Program} {w : World} {X : Cx} {pins : List (Addr × Obj)} {σ : St} {H : Hp} {s : Shared} {h' : Heap} {a : Addr} {o : HO}
end
section
variable {X : Cx} {C : Addr} {x : Str} {e : Expr} {es : List Expr} {t : TA} {p pos : Pos}
end
section
variable {X : Cx} {e : Expr} {f : Str} {pos : Pos} {ta : TE}
end
section
variable {prog : Program} {w : World} {A : Around} {E : Value → Shared → Prop} {s : Shared} {K : PySem.W.Frag} {x C : Addr} {name : Str} {v : Value} {R : Result → Shared → Prop} {d : Data} {sl : Array (Option Value)}
end
section
variable {X : Cx} {pins : List (Addr × Obj)} {σ : St} {H : Hp} {s : Shared} {h' : Heap} {x C dx : Addr} {f : Str} {y : V} {u : Value}
end
section
variable {X : Cx} {o value : Expr} {f : Str} {pos pos' : Pos} {ta tv : TE}
end
section
variable {X : Cx} {C f : Addr} {fd : FuncData} {ps : List Str} {sp : Sp} {k : Nat} {x : Str} {e : Expr} {es : List Expr} {t : TA} {p pos : Pos}
end
section
variable {X : Cx}
end
end L2

namespace L2
open PySem PySem.Spec PySem.Calls PyProof.Rows
section
variable {X : Cx}
theorem preSum_take (ns : List Int) : ∀ j, j ≤ ns.length → preSum (fun i => (ns[i]?).getD 0) j = (ns.take j).sum
  | 0, _ => rfl
  | j + 1, h => by
    have ih := preSum_take ns j (by omega)
    show preSum _ j + (ns[j]?).getD 0 = _
    rw [ih, List.take_add_one, List.getElem?_eq_getElem (by omega), List.sum_append]
    simp
theorem sum_le (M : Int) : ∀ ns : List Int, (∀ n ∈ ns, 0 ≤ n ∧ n ≤ M) → 0 ≤ ns.sum ∧ ns.sum ≤ ns.length * M
  | [], _ => by simp
  | n :: r, h => by
    have h1 := h n (List.mem_cons_self ..)
    have h2 := sum_le M r fun x hx => h x (List.mem_cons_of_mem _ hx)
    have e : ((n :: r).length : Int) * M = r.length * M + M := by rw [List.length_cons]; push_cast; rw [Int.add_mul, Int.one_mul]
    rw [e, List.sum_cons]
    omega
variable {o i : Expr} {pos : Pos} {td ty : TE}
end
section
variable {X : Cx} {e st : Expr} {lo hi : Option Expr} {te ts : TE} {tl th : TO} {p2 pos : Pos}
end
end L2

namespace Og
open PySem L2
theorem ix_tupK {X : Cx} {K : PySem.W.Frag} (h : X.K = K) : IxR X (rIxT K) := h ▸ ix_tup
structure R where
  w : Str
  nm : Str
  rest : List V
abbrev R.v (r : R) : List V := .str r.w :: .str r.nm :: r.rest
/-- vs are rows, by ρ -/
def Rows (H : Hp) (ρ : V → R) (vs : List V) : Prop := ∀ v ∈ vs, TupAt H (ρ v).v v
abbrev pw (ρ : V → R) (w : Str) (v : V) : Bool := decide (V.str (ρ v).w = V.str w)
abbrev pn (ρ : V → R) (t : Str) (v : V) : Bool := decide (V.str (ρ v).nm = V.str t)
theorem same_upd {H : Hp} {p : Addr} {o : HO} (h : H p = none) : Same H (upd H p o) := fun b u e => by rw [upd_ne (ne_of_none e h)]; exact e
theorem line20 {n : Nat} (h : n ≤ 1000) : n ≤ sizeLine := Nat.le_of_lt (small1000 h)
theorem ty_int {K : PySem.W.Frag} : PySem.W.kitOne K (.type "int") (.type "int") = some true := by kernel_rfl
theorem ty_ib {K : PySem.W.Frag} : PySem.W.kitOne K (.type "int") (.type "bool") = some false := by kernel_rfl
abbrev bV (b : Str × Nat) : List V := [.str b.1, .int (b.2 : Nat)]
abbrev qV (q : Nat × Nat) : List V := [.int (q.1 : Nat), .int (q.2 : Nat)]
/-- the places of all keys -/
def plc (bs : List (Str × Nat)) : List (Nat × Nat) := bs.zipIdx.flatMap fun p => (List.range p.1.2).map fun e => (p.2, e)
theorem paired_get' {α β : Type} {F : α → β → Prop} {l : List α} {vs : List β} (h : Paired F l vs) : ∀ {i : Nat} {v}, vs[i]? = some v → ∃ a, l[i]? = some a ∧ F a v := by
  induction h with
  | nil => intro i a ha; simp at ha
  | cons x y ih =>
    intro i a ha
    cases i with
    | zero =>
      simp at ha
      subst ha
      exact ⟨_, rfl, x⟩
    | succ i => exact ih (by simpa using ha)
theorem paired_of_map {α β γ : Type} {F : γ → β → Prop} (g : α → γ) {l : List α} {vs : List β} (h : Paired (fun a v => F (g a) v) l vs) : Paired F (l.map g) vs := by
  induction h with
  | nil => exact .nil
  | cons x y ih => exact .cons x ih
/-- all but the object at x -/
def SX (x : Addr) (H H' : Hp) : Prop := ∀ b o, H b = some o → b ≠ x → H' b = some o
abbrev meths : List Str := ["ranks", "pipe_count", "pipe", "rank_of", "board_of_knob", "boards", "key_count", "key", "board_of", "coupler", "knobs", "knob_number", "board_number", "stop", "mute", "steps", "rows"]
structure OrgAt (C : Addr) (H : Hp) (x : Addr) (bs : List (Str × Nat)) (ks : List R) : Prop where
  ob : ∃ (dx : Addr) (fs : List (Str × V)) (bl bn kp kr : Addr) (bvs pvs uvs : List V) (kvs : List (Key × V)), H x = some (.ins C dx fs) ∧ fs.lookup ("board_list" : Str) = some (.ref bl) ∧ fs.lookup ("board_numbers" : Str) = some (.ref bn) ∧ fs.lookup ("key_places" : Str) = some (.ref kp) ∧ fs.lookup ("knob_rows" : Str) = some (.ref kr) ∧
    (∀ m ∈ meths, fs.lookup m = none) ∧ H bl = some (.lst bvs) ∧ Paired (fun b y => TupAt H (bV b) y) bs bvs ∧ H bn = some (.dK kvs) ∧ (∀ (i : Nat) b, bs[i]? = some b → valV kvs (Sum.inr b.1) = some (.int (i : Nat))) ∧
    H kp = some (.lst pvs) ∧ Paired (fun q y => TupAt H (qV q) y) (plc bs) pvs ∧ H kr = some (.lst uvs) ∧ Paired (fun (r : R) y => TupAt H r.v y) ks uvs
  nb : bs.length ≤ 5
  sz : ∀ b ∈ bs, b.2 ≤ 61
  nk : ks.length ≤ 200
end Og

namespace L2
open PySem PySem.Spec PyProof.Rows
section
variable {X : Cx}
/-- // by a positive number of any plain size -/
theorem op_fdivG : OpR X (binaryOp .FloorDiv) (rI (fun _ j => 0 < j ∧ j < 2 ^ 200) fun i j => .int (i / j)) := opI fun i j _ _ _ _ _ hc q => by
  have h1 : (0 : Int) < j := hc.1
  have h2 : j < 2 ^ 200 := hc.2
  refine floordiv_int (by omega) (by rw [Int.fdiv_eq_ediv_of_nonneg i (by omega)]; exact q) (.inl (PyProof.noPylong_of_log2 ?_))
  have h3 : j.natAbs < 2 ^ 200 := by omega
  have h4 : j.natAbs ≠ 0 := by omega
  have := (Nat.log2_lt h4).mpr h3
  omega
end
end L2
namespace L2
open PySem PySem.Spec PyProof.Rows
section
variable {σ : St} {H1 : Hp} {Q : VK} {tt : TT} {te : TE}
end
end L2

namespace L2
open PySem PySem.Spec PyProof.Rows
theorem ivals : ∀ {ns : List Int} {us : List Value}, Vals (ns.map V.int) us → IntsAre us ns
  | [], _, r => by cases r; exact .nil
  | n :: ns, _, r => by
    cases r with
    | cons r t =>
      obtain ⟨tk, rfl⟩ := r
      exact .cons n tk (ivals t)
theorem valsI : ∀ {ns : List Int} {us : List Value}, IntsAre us ns → Vals (ns.map V.int) us
  | _, _, .nil => .nil
  | _, _, .cons n t r => .cons ⟨t, rfl⟩ (valsI r)
section
variable {X : Cx}
theorem sortedAll_keep {h : Heap} {vs : List Value} {out : Array Value} : ∀ b o, h.get? b = some o → (sortedAll h vs out).get? b = some o := fun b o e => sortedAll_old e
theorem call_sortedL : CallR X (.builtin "sorted") (fun xs H Q => ∃ (a : Addr) (ns : List Int), xs = [V.ref a] ∧ SqL X.K H a (ns.map V.int) ∧ ns.length < 64 ∧ ∀ (p : Addr) (ms : List Int), H p = none → ms.Perm ns → ms.Pairwise (· ≤ ·) → Q (.ref p) (upd H p (.lst (ms.map V.int)))) := by
  intro pins s σ H xs us Q I r h
  obtain ⟨a, ns, rfl, ha, hz, q⟩ := h
  obtain ⟨u, rfl, ru⟩ := vals1 r
  cases ru
  obtain ⟨its, rv, pl, _⟩ := I.list ha
  have hi := ivals rv
  have hlen : its.length < 64 := by have := rv.length; rw [List.length_map] at this; omega
  refine sorted_ints pl.isList hi hlen fun out ms i1 pm pw => ?_
  obtain ⟨c, e⟩ := sortedAll_at s.heap its out
  have hn : H (s.heap.objs.size + 1) = none := I.hok.fresh (Nat.le_succ _)
  have hl2 : (ms.map V.int).length ≤ sizeLine := by
    rw [List.length_map, pm.length_eq, sizeLine_eq]
    omega
  exact ⟨.ref (s.heap.objs.size + 1), _, I.laid (t' := s.toks) (o := .lst (ms.map V.int)) sortedAll_keep (Nat.le_succ _) ⟨hl2, out.toList, c, valsI i1, e⟩, rfl, q _ ms hn pm pw⟩
theorem call_sumB (hc : X.calm = true) : CallR X (.builtin "sum") (fun xs H Q => ∃ (p : Addr) (ns : List Int), xs = [V.ref p] ∧ SqL X.K H p (ns.map V.int) ∧ (∀ n ∈ ns, 0 ≤ n ∧ n ≤ 4398046511104) ∧ ns.length ≤ 1000 ∧ Q (.int ns.sum) H) := by
  intro pins s σ H xs us Q I r h
  obtain ⟨p, ns, rfl, hp, hb, hl, q⟩ := h
  obtain ⟨u, rfl, ru⟩ := vals1 r
  cases ru
  obtain ⟨its, rv, pl, hz⟩ := I.list hp
  have hlen : ns.length = its.length := by have := rv.length; rw [List.length_map] at this; exact this
  have hlt : p < s.heap.objs.size := by obtain ⟨_, e, _⟩ := pl.isList; exact Heap.lt_size e
  refine call_sum_walk (wpAny_pyIter_list pl.isList ?_)
  refine ⟨s.heap.objs.size, [s.heap.objs.size, p], [s.heap.objs.size], its.toArray.size, _, _, fun i => (ns[i]?).getD 0, rfl, Walks.list (A := X.A.in1) (I.ok.hd hc) _ p (Nat.ne_of_lt hlt) its.toArray,
    ⟨⟨_, Heap.get?_push_size _ rfl, rfl, rfl⟩, pl.isList.push _⟩, fun b hb => ?_, fun i v hP => ?_, fun j hj => ?_, fun h' tk t' hk => ?_⟩
  · rw [Heap.size_push]
    rcases List.mem_cons.mp hb with rfl | hb
    · exact Nat.lt_succ_self _
    · rw [List.mem_singleton.mp hb]
      exact Nat.lt_succ_of_lt hlt
  · have hP' : its[i]? = some v := by simpa using hP
    have hi : i < its.length := (List.getElem?_eq_some_iff.mp hP').1
    have hb : ns[i]? = some ns[i] := by simp [hlen, hi]
    obtain ⟨u, hu, ru⟩ := rv.get (i := i) (x := .int ns[i]) (by rw [List.getElem?_map, hb]; rfl)
    rw [hP'] at hu
    cases hu
    obtain ⟨t, rfl⟩ := ru
    exact ⟨t, by dsimp only; rw [hb]; rfl⟩
  · have hj' : j < ns.length := by rw [hlen]; simpa using hj
    rw [preSum_take ns (j + 1) (by omega)]
    have h1 := hb ns[j] (List.getElem_mem hj')
    have h2 := sum_le 4398046511104 (ns.take (j + 1)) fun n hn => hb n (List.mem_of_mem_take hn)
    have h3 : (ns.take (j + 1)).length ≤ 1000 := by rw [List.length_take]; omega
    unfold InLong
    dsimp only
    rw [List.getElem?_eq_getElem hj']
    rw [Option.getD_some]
    refine ⟨⟨?_, ?_⟩, ⟨?_, ?_⟩⟩ <;> omega
  · have e : preSum (fun i => (ns[i]?).getD 0) its.toArray.size = ns.sum := by rw [List.size_toArray, ← hlen, preSum_take ns _ (Nat.le_refl _), List.take_length]
    rw [e]
    refine ⟨.int ns.sum, H, I.kept (t' := tk) fun b o eb => hk b o (fun hm => ?_) (Heap.get?_push_of_some _ eb), ⟨_, rfl⟩, q⟩
    rw [List.mem_singleton.mp hm] at eb
    exact Nat.lt_irrefl _ (Heap.lt_size eb)
end
end L2

namespace L2
open PySem PySem.Spec PySem.Calls PyProof.Rows
def cxComp4 (X : Cx) (x z y3 : Str) (scope : Scope) (C : Addr) (s₀ : Shared) (H₀ : Hp) (fp : List Addr) : Cx where
  prog := X.prog
  w := X.w
  K := X.K
  mg := X.mg
  base := X.base
  A := X.A
  N := x :: z :: y3 :: X.N
  s₀ := s₀
  H₀ := H₀
  env := compEnvC scope (cloGo X.env scope.names []) C X.env
  outer := X.stack
  stack := X.stack
  ex := fp
  fn := fun _ => false
  calm := X.calm
  pn := []
  xe := fun _ _ => False
structure CompScope4 (X : Cx) (x z y3 : Str) (scope : Scope) : Prop where
  kind : scope.kind = .function
  nocell : ∀ y ∈ scope.names, y.2 ≠ .cell
  names : ∀ y ∈ scope.names, y.2 = .local → scope.names.lookup y.1 = some .local
  loc : scope.names.lookup x = some .local
  loz : scope.names.lookup z = some .local
  lo3 : scope.names.lookup y3 = some .local
  free : ∀ y ∈ scope.names, y.2 = .free → X.env.kindOf y.1 = some .cell ∨ X.env.kindOf y.1 = some .free
  nd : (x :: z :: y3 :: X.N).Nodup
  only : ∀ y ∈ X.N, scope.names.lookup y ≠ some .local
section
variable {X : Cx} {pins : List (Addr × Obj)} {σ : St} {H : Hp} {s : Shared} {x z y3 : Str} {scope : Scope} {fp : List Addr} {C : Addr}
theorem comp_start4 {h' : Heap} {tk : Nat} {m : Str → Option Value} (I : Inv X pins σ H s) (S : CompScope4 X x z y3 scope) (hf : ∀ b ∈ fp, FpOk X pins H b) (hlt : ∀ b ∈ fp, b < s.heap.objs.size) (hC : s.heap.objs.size ≤ C) (hn : h'.Ns C m)
    (hk : ∀ b o, s.heap.get? b = some o → h'.get? b = some o) : Inv (cxComp4 X x z y3 scope C s H fp) [] (none :: none :: none :: σ) H { s with heap := h', toks := tk } := by
  have cl : ∀ y c, (cloGo X.env scope.names []).lookup y = some c → X.env.cells.lookup y = some c := fun y c e => by
    rcases cloGo_sub X.env scope.names [] y c e with z | z
    · cases z
    · exact z
  have cellK : ∀ c v, s.heap.IsCell c v → h'.IsCell c v := fun c v ⟨o, ho, hd⟩ => ⟨o, hk c o ho, hd⟩
  have look : ∀ y, (cxComp4 X x z y3 scope C s H fp).env.scope.names.lookup y = (scope.names.lookup y).map fun k => if (k == NameKind.free && X.env.scope.kind == .function && X.env.kindOf y == some .cell) then NameKind.cell else k := fun y => relabel_lookup X.env y scope.names
  refine ⟨⟨I.ok.mod, S.kind, I.ok.glob, I.ok.blt, hC, fun y z c e1 e2 => I.ok.inj y z c (cl y c e1) (cl z c e2), fun y hy => ?_, fun y c e _ => (by cases e), fun h => I.ok.hd h, I.ok.frames, .inl rfl, fun b hb => ?_, I.bs, Nat.le_trans I.ok.bsz I.sz, fun b o e hb => ?_, fun b hb hb' => ?_, I.stack, I.stkFree⟩,
    rfl, I.bare, Un.kept hk, ⟨m, hn, fun i y v h1 h2 h3 => ?_⟩, fun y c e => ?_, I.hok.fresh hC, fun y c e => I.freeC y c (cl y c e), fun p hp => absurd (show p ∈ ([] : List (Addr × Obj)) from hp) (by simp), I.hok.kept hk, ?_⟩
  · have hy' : (cxComp4 X x z y3 scope C s H fp).env.scope.names.lookup y = some .cell ∨ (cxComp4 X x z y3 scope C s H fp).env.scope.names.lookup y = some .free := hy
    rw [look y] at hy'
    cases e : scope.names.lookup y with
    | none => rw [e] at hy'; rcases hy' with z | z <;> cases z
    | some k =>
      have hm := PySem.mem_of_lookup e
      have hfree : k = .free := by
        rw [e] at hy'
        cases k with
        | free => rfl
        | cell => exact absurd rfl (S.nocell _ hm)
        | _ => rcases hy' with z | z <;> simp at z
      subst hfree
      obtain ⟨c, hc⟩ := I.ok.has y (S.free _ hm rfl)
      exact Option.isSome_iff_exists.mp (cloGo_has X.env scope.names [] y hm (by rw [hc]; rfl))
  · obtain ⟨f0, f1, f2, f3, f4, f5⟩ := hf b hb
    exact ⟨Nat.ne_of_lt (Nat.lt_of_lt_of_le (hlt b hb) hC), fun y c e => f4 y c (cl y c e)⟩
  · obtain ⟨f0, f1, f2, f3, f4, f5⟩ := hf b hb
    rcases f3 with z | z
    · exact I.ok.noex b o e z
    · exact absurd (Nat.lt_of_lt_of_le (Heap.lt_size e) (Nat.le_trans I.ok.bsz z)) (Nat.lt_irrefl _)
  · obtain ⟨f0, f1, f2, f3, f4, f5⟩ := hf b hb
    rcases List.mem_cons.mp (I.stkSub b hb') with e | e
    · exact f1 e
    · exact f2 e
  · match i, h1, h2 with
    | 0, h1, h2 =>
      have h2' : (some none : Option (Option V)) = some (some v) := h2
      cases h2'
    | 1, h1, h2 =>
      have h2' : (some none : Option (Option V)) = some (some v) := h2
      cases h2'
    | 2, h1, h2 =>
      have h2' : (some none : Option (Option V)) = some (some v) := h2
      cases h2'
    | i + 3, h1, h2 =>
      have e0 : X.N[i]? = some y := h1
      have h2' : σ[i]? = some (some v) := h2
      have hmem : y ∈ X.N := List.mem_of_getElem? e0
      have h3' : (cxComp4 X x z y3 scope C s H fp).env.scope.names.lookup y = some .local ∨ (cxComp4 X x z y3 scope C s H fp).env.scope.names.lookup y = some .cell ∨ (cxComp4 X x z y3 scope C s H fp).env.scope.names.lookup y = some .free := h3
      rw [look y] at h3'
      cases e : scope.names.lookup y with
      | none => rw [e] at h3'; rcases h3' with z | z | z <;> cases z
      | some k =>
        have hm := PySem.mem_of_lookup e
        have hfree : k = .free := by
          rw [e] at h3'
          cases k with
          | free => rfl
          | cell => exact absurd rfl (S.nocell _ hm)
          | «local» => exact absurd e (S.only y hmem)
          | _ => rcases h3' with z | z | z <;> simp at z
        subst hfree
        have kd := S.free _ hm rfl
        obtain ⟨m0, hn0, hl0⟩ := I.loc
        obtain ⟨u, r, l⟩ := hl0 i y v e0 h2' (by rcases kd with z | z; exact .inr (.inl z); exact .inr (.inr z))
        refine ⟨u, r, .inr ⟨?_, ?_⟩⟩
        · have hk' : (cxComp4 X x z y3 scope C s H fp).env.scope.names.lookup y = some (if (NameKind.free == NameKind.free && X.env.scope.kind == .function && X.env.kindOf y == some .cell) then NameKind.cell else NameKind.free) := by
            rw [look y, e]; rfl
          by_cases c : (NameKind.free == NameKind.free && X.env.scope.kind == .function && X.env.kindOf y == some .cell) = true
          · rw [if_pos c] at hk'; exact .inl hk'
          · rw [if_neg c] at hk'; exact .inr hk'
        · rcases l with ⟨lk, _⟩ | ⟨_, c, hc, hcell⟩
          · exfalso
            rcases kd with z | z <;> (rw [show X.env.kindOf y = some NameKind.local from lk] at z; cases z)
          · obtain ⟨c', hc'⟩ := Option.isSome_iff_exists.mp (cloGo_has X.env scope.names [] y hm (by rw [hc]; rfl))
            have := cl y c' hc'
            rw [hc] at this
            cases this
            exact ⟨c, hc', cellK c _ hcell⟩
  · obtain ⟨v, z⟩ := I.cell y c (cl y c e)
    exact ⟨v, cellK c v z⟩
  · show (none :: none :: none :: σ).length = (x :: z :: y3 :: X.N).length
    simp [I.len]
end
/-- what such a comprehension asks; g: how the pair is stored -/
def CompOk4 (J : It) (σ : St) (H1 : Hp) (Q : VK) (g : TG) (tt : TT) (te : TE) : Prop := ∀ D, H1 D = none → ∃ W : Nat → Nat → List V → Hp → Prop, (∃ m, W 0 m [] (upd H1 D (.lst []))) ∧ ∀ i m ys H2, W i m ys H2 →
  (J.stop i H2 ∧ Q (.ref D) H2) ∨ (J.go i H2 ∧ ∀ x H3, J.yld i H2 x H3 → ∀ v0 v1 v2, g x (v0 :: v1 :: v2 :: σ) H3 fun σ' H3' => (∃ w0 w1 w2, σ' = w0 :: w1 :: w2 :: σ) ∧ tt σ' H3' fun b H4 =>
    if b = true then te σ' H4 fun y H5 => H5 D = some (.lst ys) ∧ ys.length < sizeLine ∧ ∃ m', m' < m ∧ W (i + 1) m' (ys ++ [y]) (upd H5 D (.lst (ys ++ [y])))
    else ∃ m', m' < m ∧ W (i + 1) m' ys H4)
def tComp4 (wi : TI) (g : TG) (tt : TT) (te : TE) : TE := fun σ H Q => wi σ H fun J H1 => CompOk4 J σ H1 Q g tt te
section
variable {X : Cx} {x z y3 : Str} {scope : Scope}
theorem comp_block4 {tg : Expr} {pos : Pos} {iter elt : Expr} {ifs : List Expr} {g : TG} {tt : TT} {te : TE} {pins : List (Addr × Obj)} {σ : St} {s2 : Shared} {H2 : Hp} {it : Addr} {fp : List Addr} {tn : Nat → Heap → Prop} {J : It} {E : Value → Shared → Prop}
    {RR : Value → Addr → Result → Shared → Prop} {Q : VK}
    (hc : X.calm = true) (S : CompScope4 X x z y3 scope) (hg : ∀ C s₀ H₀ fp, PG (cxComp4 X x z y3 scope C s₀ H₀ fp) tg g) (ht : ∀ C s₀ H₀ fp, PIfs (cxComp4 X x z y3 scope C s₀ H₀ fp) ifs tt) (he : ∀ C s₀ H₀ fp, PE (cxComp4 X x z y3 scope C s₀ H₀ fp) elt te)
    (I2 : Inv X pins σ H2 s2) (T : Turn X.prog X.w X.K tg J fp it tn) (st2 : tn 0 s2.heap) (f2 : ∀ b ∈ fp, FpOk X pins H2 b) (q : CompOk4 J σ H2 Q g tt te)
    (hRR : ∀ D C s' H' m, s'.heap.Ns C m → FpOk X pins H' C → Inv X pins σ H' s' → Q (.ref D) H' → RR (.ref D) C (.ok .next) s') :
    wpAny (model X.prog X.w) X.A (newList []) (fun acc s₃ => wpAny (model X.prog X.w) X.A (newFunctionEnv scope X.env.globals (cloGo X.env scope.names []) [] X.env.qual none .none (some X.env)) (fun cenv s₄ =>
      codeAny (model X.prog X.w) X.A (.compStart (.ListComp elt [⟨tg, iter, ifs, 0⟩] scope pos) 0 (.ref it) acc { cenv with scope := relabel scope X.env }) (RR acc cenv.locals) s₄) E s₃) E s2 := by
  refine wpAny_newObj_type (wpAny_newFunctionEnv S.nocell (by intro y hy; simp at hy) (fun h₁ hns₁ hsb₁ => ?_) S.kind)
  have I3 := I2.lnew (its := []) (ys := []) (t' := s2.toks) .nil (Nat.zero_le _)
  have hD0 : H2 s2.heap.objs.size = none := I2.fresh
  obtain ⟨W, ⟨m0, w0⟩, turn⟩ := q _ hD0
  generalize hs3 : ({ s2 with heap := s2.heap.push { cls := .type "list", data := .seq ([] : List Value).toArray }, toks := s2.toks } : Shared) = s3 at I3
  have e3 : s3.heap = s2.heap.push { cls := .type "list", data := .seq ([] : List Value).toArray } := by rw [← hs3]
  have hlt : ∀ b ∈ fp, b < s2.heap.objs.size := fun b hb => let ⟨_, e, _⟩ := T.obj _ _ st2 b hb; Heap.lt_size e
  have hlt3 : ∀ b ∈ fp, b < s3.heap.objs.size := fun b hb => by rw [e3, Heap.size_push]; exact Nat.lt_succ_of_lt (hlt b hb)
  have f3 : ∀ b ∈ fp, FpOk X pins (upd H2 s2.heap.objs.size (.lst [])) b := fun b hb => ⟨by rw [upd_ne (Nat.ne_of_lt (hlt b hb))]; exact (f2 b hb).1, (f2 b hb).2⟩
  have hk1 : ∀ b o, s3.heap.get? b = some o → h₁.get? b = some o := fun b o e => by
    have hne : b ≠ s3.heap.objs.size := Nat.ne_of_lt (Heap.lt_size e)
    rw [e3] at e hne
    exact hsb₁.extBut b o hne (Heap.get?_push_of_some _ e)
  have hC : s3.heap.objs.size = (s2.heap.push { cls := .type "list", data := .seq ([] : List Value).toArray }).objs.size := by rw [e3]
  have hns : h₁.Ns s3.heap.objs.size (fun x => ([] : List (Str × Value)).reverse.lookup x) := by rw [hC]; exact hns₁
  have st3 : tn 0 h₁ := T.keep _ _ _ st2 fun b hb o e => hk1 b o (by rw [e3]; exact Heap.get?_push_of_some _ e)
  have start : ∀ tk, Inv (cxComp4 X x z y3 scope s3.heap.objs.size s3 (upd H2 s2.heap.objs.size (.lst [])) fp) [] (none :: none :: none :: σ) (upd H2 s2.heap.objs.size (.lst [])) { s3 with heap := h₁, toks := tk } := fun tk =>
    comp_start4 I3 S f3 hlt3 (Nat.le_refl _) hns hk1
  have loop : ∀ tk, codeAny (model X.prog X.w) X.A (.compLoop (.ListComp elt [⟨tg, iter, ifs, 0⟩] scope pos) 0 (.ref it) (.ref s2.heap.objs.size) (compEnvC scope (cloGo X.env scope.names []) s3.heap.objs.size X.env))
      (RR (.ref s2.heap.objs.size) s3.heap.objs.size) { s3 with heap := h₁, toks := tk } := by
    intro tk
    refine loop_go (fun n s' => ∃ i ys v0 v1 v2 H', Inv (cxComp4 X x z y3 scope s3.heap.objs.size s3 (upd H2 s2.heap.objs.size (.lst [])) fp) [] (v0 :: v1 :: v2 :: σ) H' s' ∧ tn i s'.heap ∧ (∀ b ∈ fp, H' b = none) ∧ W i n ys H') rfl ?_ m0
      ⟨0, [], none, none, none, _, start tk, st3, fun b hb => (f3 b hb).1, w0⟩
    rintro n s4 ⟨i, ys, v0, v1, v2, H4, I4, st4, fr4, w4⟩
    have stat : ∀ {H' : Hp}, (∀ b ∈ fp, H' b = none) → ∀ b ∈ fp, FpOk (cxComp4 X x z y3 scope s3.heap.objs.size s3 (upd H2 s2.heap.objs.size (.lst [])) fp) [] H' b := fun hn b hb => by
      refine ⟨hn b hb, (I4.ok.exf b hb).1, I4.ok.exfs b hb, .inl hb, (I4.ok.exf b hb).2, fun p hp => absurd (show p ∈ ([] : List (Addr × Obj)) from hp) (by simp)⟩
    rcases turn i n ys H4 w4 with ⟨stop, qn⟩ | ⟨go, step⟩
    · refine thn (T.done (cxComp4 X x z y3 scope s3.heap.objs.size s3 (upd H2 s2.heap.objs.size (.lst [])) fp) rfl rfl rfl hc i [] s4 (v0 :: v1 :: v2 :: σ) H4 _ I4 (stat fr4) st4 stop) fun r s5 ⟨hr, I5⟩ => ?_
      subst hr
      obtain ⟨m, hn, _⟩ := I5.loc
      refine hRR _ _ s5 H4 m hn (I3.fpOk (Nat.le_refl _) I5.free) (I3.call' (s' := s5) (ch := fp) I5.os I5.base I5.hok I5.bare (fun b hb => ?_)) qn
      obtain ⟨_, g1, _, g3, g4, g5⟩ := f3 b hb
      exact ⟨g3, g1, g4, g5⟩
    · refine thn (T.item (cxComp4 X x z y3 scope s3.heap.objs.size s3 (upd H2 s2.heap.objs.size (.lst [])) fp) rfl rfl rfl hc i [] s4 (v0 :: v1 :: v2 :: σ) H4 _ I4 (stat fr4) st4 go) fun r s5 ⟨u, hr, h5⟩ => ?_
      subst hr
      refine thn h5 fun _ s6 h6 => ?_
      obtain ⟨xv, H6, I6, r6, y6, st6, fr6⟩ := h6
      have I6' := I6.pinned (stat fr6) (T.obj _ _ st6)
      have again : ∀ {s7 : Shared} {H7 : Hp} {ys' : List V} {w0 w1 w2 : Option V}, Inv (cxComp4 X x z y3 scope s3.heap.objs.size s3 (upd H2 s2.heap.objs.size (.lst [])) fp) ([] ++ pinsAt fp s6.heap) (w0 :: w1 :: w2 :: σ) H7 s7 → (∃ m', m' < n ∧ W (i + 1) m' ys' H7) →
          ∃ m, m < n ∧ ∃ i ys v0 v1 v2 H', Inv (cxComp4 X x z y3 scope s3.heap.objs.size s3 (upd H2 s2.heap.objs.size (.lst [])) fp) [] (v0 :: v1 :: v2 :: σ) H' s7 ∧ tn i s7.heap ∧ (∀ b ∈ fp, H' b = none) ∧ W i m ys H' := fun {s7 H7 ys' w0 w1 w2} I7 hw => by
        obtain ⟨m', hm, w7⟩ := hw
        refine ⟨m', hm, i + 1, ys', w0, w1, w2, H7, I7.unpinned, T.keep _ _ _ st6 fun b hb o e => (I7.pin (b, o) (List.mem_append_right _ (List.mem_append_right _ (mem_pinsAt hb e)))).1, fun b hb => ?_, w7⟩
        obtain ⟨o, e, d⟩ := T.obj _ _ st6 b hb
        exact (I7.pin (b, o) (List.mem_append_right _ (List.mem_append_right _ (mem_pinsAt hb e)))).2.1
      refine thnF (hg _ _ _ _ _ s6 (v0 :: v1 :: v2 :: σ) H6 xv u _ I6' r6 (step xv H6 y6 v0 v1 v2)) fun _ s7 ⟨σ7, H7, I7, ⟨w0, w1, w2, e7⟩, q7⟩ => ?_
      subst e7
      refine thnF (ht _ _ _ _ _ s7 (w0 :: w1 :: w2 :: σ) H7 _ I7 q7) fun b s8 ⟨H8, I8, q8⟩ => ?_
      cases b with
      | false =>
        rw [if_neg Bool.false_ne_true] at q8 ⊢
        exact again I8 q8
      | true =>
        rw [if_pos rfl] at q8 ⊢
        refine thnF (he _ _ _ _ _ s8 (w0 :: w1 :: w2 :: σ) H8 _ I8 q8) fun y s9 ⟨yv, H9, I9, r9, hD9, hz9, q9⟩ => ?_
        refine thnF (mt_append (X := cxComp4 X x z y3 scope s3.heap.objs.size s3 (upd H2 s2.heap.objs.size (.lst [])) fp) _ s9 (w0 :: w1 :: w2 :: σ) H9 (.ref s2.heap.objs.size) [yv] (.ref s2.heap.objs.size) [y] (fun _ H' => H' = upd H9 s2.heap.objs.size (.lst (ys ++ [yv]))) I9 rfl (.cons r9 .nil)
          ⟨_, ys, yv, rfl, rfl, hD9, hz9, rfl⟩) fun _ s10 ⟨_, H10, I10, _, e10⟩ => ?_
        subst e10
        exact again I10 q9
  have key := fun tk => codeAny_compStart_list (R := RR (.ref s2.heap.objs.size) s3.heap.objs.size) (loop tk) (T.self X.A 0 { s3 with heap := h₁, toks := tk } (fun it' s' => codeAny (model X.prog X.w) X.A (.compLoop (.ListComp elt [⟨tg, iter, ifs, 0⟩] scope pos) 0 it' (.ref s2.heap.objs.size) (compEnvC scope (cloGo X.env scope.names []) s3.heap.objs.size X.env)) (RR (.ref s2.heap.objs.size) s3.heap.objs.size) s') _ st3 (loop tk))
  subst hs3
  exact key _
end
def compChk4 (x z y3 : Str) (scope osc : Scope) (N : List Str) : Bool :=
  (scope.kind == .function) && scope.names.all (fun y => y.2 != .cell && (y.2 != .local || scope.names.lookup y.1 == some .local) && (y.2 != .free || osc.names.lookup y.1 == some .cell || osc.names.lookup y.1 == some .free)) && (scope.names.lookup x == some .local) && (scope.names.lookup z == some .local) && (scope.names.lookup y3 == some .local) &&
  decide ((x :: z :: y3 :: N).Nodup) && N.all (fun y => scope.names.lookup y != some .local)
theorem compScope4 {X : Cx} {x z y3 : Str} {scope osc : Scope} {N : List Str} (hsc : X.env.scope = osc) (hN : X.N = N) (h : compChk4 x z y3 scope osc N = true) : CompScope4 X x z y3 scope := by
  unfold compChk4 at h
  simp only [Bool.and_eq_true] at h
  obtain ⟨⟨⟨⟨⟨⟨h1, h2⟩, h3⟩, h3'⟩, h3x⟩, h4⟩, h5⟩ := h
  rw [List.all_eq_true] at h2 h5
  have kind : ∀ y, X.env.kindOf y = osc.names.lookup y := fun y => by show X.env.scope.names.lookup y = _; rw [hsc]
  refine ⟨by simpa using h1, fun y hy => ?_, fun y hy hk => ?_, by simpa using h3, by simpa using h3', by simpa using h3x, fun y hy hk => ?_, by rw [hN]; exact of_decide_eq_true h4, fun y hy => ?_⟩
  · have := h2 y hy
    simp only [Bool.and_eq_true, bne_iff_ne] at this
    exact this.1.1
  · have := h2 y hy
    simp only [Bool.and_eq_true] at this
    simpa [hk] using this.1.2
  · have := h2 y hy
    simp only [Bool.and_eq_true] at this
    rw [kind]
    simpa [hk] using this.2
  · have := h5 y (by rw [← hN]; exact hy)
    simpa using this
section
variable {X : Cx} {x z y3 : Str} {scope : Scope}
theorem pg_tri {px pz p3 pos : Pos} {k : Nat} {C : Addr} {s₀ : Shared} {H₀ : Hp} {fp : List Addr} (hc : X.calm = true) (S : CompScope4 X x z y3 scope) :
    PG (cxComp4 X x z y3 scope C s₀ H₀ fp) (.Tuple [.Name x px, .Name z pz, .Name y3 p3] k pos) (gTup X.K 3 (gCons (gName 0) (gCons (gName 1) (gCons (gName 2) gNil)))) := by
  have l1 : (cxComp4 X x z y3 scope C s₀ H₀ fp).env.scope.names.lookup x = some .local := lookup_relabel_local S.loc
  have l2 : (cxComp4 X x z y3 scope C s₀ H₀ fp).env.scope.names.lookup z = some .local := lookup_relabel_local S.loz
  have l3 : (cxComp4 X x z y3 scope C s₀ H₀ fp).env.scope.names.lookup y3 = some .local := lookup_relabel_local S.lo3
  exact pg_tup (X := cxComp4 X x z y3 scope C s₀ H₀ fp) (n := 3) hc (pgs_cons (pg_name (X := cxComp4 X x z y3 scope C s₀ H₀ fp) (i := 0) S.nd rfl (.inl l1) (.inr l1)) (pgs_cons (pg_name (X := cxComp4 X x z y3 scope C s₀ H₀ fp) (i := 1) S.nd rfl (.inl l2) (.inr l2)) (pgs_cons (pg_name (X := cxComp4 X x z y3 scope C s₀ H₀ fp) (i := 2) S.nd rfl (.inl l3) (.inr l3)) pgs_nil)))
end
section
variable {X : Cx} {x z y3 : Str} {scope : Scope}
/-- y = [elt for x in iter if ..] -/
theorem ps_tri {i : Nat} {y : Str} {px pz p3 tpos py pos spos : Pos} {kk : Nat} {iter elt : Expr} {ifs : List Expr} {wi : TI} {tt : TT} {te : TE} (hN : X.N.Nodup) (hi' : X.N[i]? = some y) (hy : X.env.scope.names.lookup y = some .local) (hc : X.calm = true) (S : CompScope4 X x z y3 scope) (hi : PI X (.Tuple [.Name x px, .Name z pz, .Name y3 p3] kk tpos) iter wi)
    (ht : ∀ C s₀ H₀ fp, PIfs (cxComp4 X x z y3 scope C s₀ H₀ fp) ifs tt) (he : ∀ C s₀ H₀ fp, PE (cxComp4 X x z y3 scope C s₀ H₀ fp) elt te) (hsw : swapsWith (.ListComp elt [⟨.Tuple [.Name x px, .Name z pz, .Name y3 p3] kk tpos, iter, ifs, 0⟩] scope pos) (some (.Name y py)) spos.line X.env = pure true := by rfl) (hs : ∀ x, foldedSetIterable iter X.env x = pure x := by intro _; rfl) :
    PS X (.Assign [.Name y py] (.ListComp elt [⟨.Tuple [.Name x px, .Name z pz, .Name y3 p3] kk tpos, iter, ifs, 0⟩] scope pos) spos) (tAsg (tComp4 wi (gTup X.K 3 (gCons (gName 0) (gCons (gName 1) (gCons (gName 2) gNil)))) tt te) (gName i)) := by
  intro pins s σ H D' I h
  rw [exec_Assign_Name_used _ _ _ _ hsw]
  refine wpAny_bind (wpAny_standAt (wpAny_bind ?_))
  show wpAny _ X.A (do let _ ← comprehension (.ListComp elt [⟨.Tuple [.Name x px, .Name z pz, .Name y3 p3] kk tpos, iter, ifs, 0⟩] scope pos) scope X.env _ (newList []) false (eval iter X.env) (some (assign (.Name y py) X.env))) _ _ s
  refine wpAny_bind (wpAny_mono (wpAny_comprehension_free (use := some (assign (.Name y py) X.env)) (cl := cloGo X.env scope.names []) (Q := fun _ s' => SP X pins D' .next s') rfl hs (closure_ok fun y hy hk => I.ok.has y.1 (S.free y hy hk)) S.kind S.names
    (thn (hi pins s σ H _ I h) fun v s1 h1 => thn h1 fun itv s2 h2 => ?_)) (fun _ s' hq => wpAny_pure (wpAny_pure hq)) fun _ _ e => e)
  obtain ⟨it, fp, tn, J, H2, e, I2, T, st2, f2, q⟩ := h2
  subst e
  refine comp_block4 (RR := fun acc C => compPost (model X.prog X.w) X.A X.xe (some (assign (.Name y py) X.env)) (fun _ s' => SP X pins D' .next s') acc C) (Q := fun x H1 => gName i x σ H1 D'.nx) hc S (fun _ _ _ _ => pg_tri hc S) ht he I2 T st2 f2 q ?_
  intro D C s' H' m hn hf hI hq
  show wpAny _ X.A (assign (.Name y py) X.env (.ref D)) _ _ _
  refine wpAny_assign_Name (store_ok2 hI hN hi' (.inl hy) (v := .ref D) rfl (fun s6 I6 hch => ?_) (.inr hy))
  obtain ⟨a, sb, ha⟩ := hch
  have hCa : C ≠ a := by
    rcases ha with z | z
    · rw [z]; exact hf.2.1
    · exact Ne.symm (hf.2.2.2.2.1 y a z)
  exact ⟨m, hn.sameBut sb hCa, fun h' sb' => ⟨_, H', I6.sameBut hf sb', hq⟩⟩
end
section
variable {σ : St} {H1 : Hp} {Q : VK} {tt : TT} {te : TE}
theorem comp_tri {K : PySem.W.Frag} {a : Addr} {α : Type} {l : List α} {vs : List V} (e : α → List V) (p : α → Bool) (f : α → List V) (hl : SqL K H1 a vs) (hp : Paired (fun x v => TupAt H1 (e x) v) l vs) (h3 : ∀ x, ∃ a b c, e x = [a, b, c]) (hz : vs.length < sizeLine)
    (ht : ∀ x ∈ l, ∀ a b c, e x = [a, b, c] → ∀ H, Same H1 H → ∀ R : Bool → Hp → Prop, (∀ H', Same H H' → R (p x) H') → tt (some a :: some b :: some c :: σ) H R)
    (he : ∀ x ∈ l, p x = true → ∀ a b c, e x = [a, b, c] → ∀ H, Same H1 H → ∀ R : VK, (∀ y H', Same H H' → TupAt H' (f x) y → R y H') → te (some a :: some b :: some c :: σ) H R)
    (hq : ∀ D H ys, H1 D = none → Same H1 H → H D = some (.lst ys) → Paired (fun x y => TupAt H (f x) y) (l.filter p) ys → Q (.ref D) H) : CompOk4 (Itl K a) σ H1 Q (gTup K 3 (gCons (gName 0) (gCons (gName 1) (gCons (gName 2) gNil)))) tt te := by
  intro D hD
  have s0 : Same H1 (upd H1 D (.lst [])) := fun b o e => by rw [upd_ne (ne_of_none e hD)]; exact e
  have hll := hp.length
  refine ⟨fun i m ys H => m = vs.length - i ∧ i ≤ vs.length ∧ H D = some (.lst ys) ∧ Paired (fun x y => TupAt H (f x) y) ((l.take i).filter p) ys ∧ Same H1 H, ⟨vs.length, by simp, Nat.zero_le _, upd_same, by simpa using Paired.nil, s0⟩, ?_⟩
  rintro i m ys H ⟨rfl, hi, hd, hpr, hs⟩
  by_cases hlt : i < vs.length
  · obtain ⟨y, hy⟩ : ∃ y, vs[i]? = some y := ⟨vs[i], by simp [hlt]⟩
    obtain ⟨x, hx, T, rfl, hT⟩ := Og.paired_get' hp hy
    obtain ⟨v1, v2, v3, e3⟩ := h3 x
    have hxl := List.mem_of_getElem? hx
    refine .inr ⟨⟨vs, _, hs.seq hl, hy⟩, fun y2 H3 hyl => ?_⟩
    obtain ⟨rfl, hy2⟩ := hyl
    have hy3 := hy2 vs (hs.seq hl)
    rw [hy] at hy3
    cases hy3
    intro u0 u1 u2
    rw [e3] at hT
    refine ⟨T, [v1, v2, v3], rfl, .inl (.inl (hs _ _ hT)), rfl, v1, _, rfl, v2, _, rfl, v3, _, rfl, rfl, ⟨_, _, _, rfl⟩, ?_⟩
    refine ht x hxl v1 v2 v3 e3 H3 hs _ fun H4 s4 => ?_
    have hlen : ys.length ≤ i := by
      rw [← hpr.length]
      exact Nat.le_trans (List.length_filter_le ..) (by rw [List.length_take]; omega)
    have etake : (l.take (i + 1)).filter p = (l.take i).filter p ++ (if p x = true then [x] else []) := by
      rw [List.take_add_one, hx, List.filter_append]
      congr 1
      by_cases hpx : p x = true
      · simp [hpx]
      · simp [hpx]
    by_cases hpx : p x = true
    · rw [if_pos hpx]
      refine he x hxl hpx v1 v2 v3 e3 H4 (hs.trans s4) _ fun y H5 s5 hty => ⟨s5 _ _ (s4 _ _ hd), by omega, vs.length - (i + 1), by omega, rfl, hlt, upd_same, ?_, ?_⟩
      · rw [etake, if_pos hpx]
        exact Paired.snoc (paired_upd (paired_mono (s4.trans s5) hpr) (s5 _ _ (s4 _ _ hd))) (hty.upd (s5 _ _ (s4 _ _ hd)))
      · intro b o eb
        rw [upd_ne (ne_of_none eb hD)]
        exact s5 _ _ (s4 _ _ (hs _ _ eb))
    · rw [if_neg hpx]
      refine ⟨vs.length - (i + 1), by omega, rfl, hlt, s4 _ _ hd, ?_, hs.trans s4⟩
      rw [etake, if_neg hpx, List.append_nil]
      exact paired_mono s4 hpr
  · have e : i = vs.length := by omega
    subst e
    refine .inl ⟨⟨vs, hs.seq hl, Nat.le_refl _⟩, hq D H ys hD hs hd ?_⟩
    rw [List.take_of_length_le (by omega)] at hpr
    exact hpr
end
end L2

namespace Bw
abbrev Tr := Int × Int × Int
abbrev Dr := List Tr
def Chain : Int → Dr → Prop
  | _, [] => True
  | t, x :: r => x.1 = t ∧ x.1 < x.2.1 ∧ Chain x.2.1 r
def cnt (x : Tr) : Nat := (x.2.1 - x.1).toNat
/-- what each tick takes more than the pump gives -/
def tk (P : Int) : Dr → List Int
  | [] => []
  | x :: r => List.replicate (cnt x) (x.2.2 - P) ++ tk P r
theorem tk_app (P : Int) : ∀ (a b : Dr), tk P (a ++ b) = tk P a ++ tk P b
  | [], b => rfl
  | x :: a, b => by
    show List.replicate (cnt x) (x.2.2 - P) ++ tk P (a ++ b) = List.replicate (cnt x) (x.2.2 - P) ++ tk P a ++ tk P b
    rw [tk_app P a b, List.append_assoc]
def stp (e x : Int) : Int := max 0 (e + x)
def EF (e : Int) (W : List Int) : Int := W.foldl stp e
abbrev E (W : List Int) : Int := EF 0 W
theorem EF_app (e : Int) (A B : List Int) : EF e (A ++ B) = EF (EF e A) B := List.foldl_append
theorem EF_nn : ∀ (W : List Int) {e : Int}, 0 ≤ e → 0 ≤ EF e W
  | [], e, h => h
  | x :: r, e, h => EF_nn r (by unfold stp; omega)
theorem EF_rep (x : Int) : ∀ (c : Nat) {e : Int}, 0 ≤ e → EF e (List.replicate c x) = max 0 (e + (c : Int) * x)
  | 0, e, h => by show e = _; simp; omega
  | c + 1, e, h => by
    rw [List.replicate_succ', EF_app, EF_rep x c h]
    show stp _ x = _
    unfold stp
    have e1 : (((c + 1 : Nat) : Int)) * x = (c : Int) * x + x := by
      rw [Int.natCast_add, Int.add_mul]; simp
    rw [e1]
    by_cases hx : 0 ≤ x
    · have := Int.mul_nonneg (Int.natCast_nonneg c) hx
      omega
    · omega
theorem rep_mono {x : Int} {k c : Nat} (h : k ≤ c) (hx : 0 ≤ x) : (k : Int) * x ≤ (c : Int) * x := Int.mul_le_mul_of_nonneg_right (by omega) hx
theorem rep_neg {x : Int} {k : Nat} (hx : x ≤ 0) : (k : Int) * x ≤ 0 := Int.mul_nonpos_of_nonneg_of_nonpos (by omega) hx
theorem sum_rep (x : Int) : ∀ c : Nat, (List.replicate c x).sum = (c : Int) * x
  | 0 => by simp
  | c + 1 => by
    rw [List.replicate_succ, List.sum_cons, sum_rep x c, Int.natCast_add, Int.add_mul]
    simp
    omega
structure LcI (W : List Int) (b0 b1 b2 taken since : Int) : Prop where
  e : E W = max 0 taken
  le : ∀ t, t ≤ W.length → E (W.take t) ≤ b0
  s0 : 0 ≤ since
  s1 : since ≤ W.length
  tk : taken = W.sum - (W.take since.toNat).sum
  b : (b0 = 0 ∧ b1 = 0 ∧ b2 = 0) ∨ (0 < b0 ∧ 0 ≤ b1 ∧ b1 < b2 ∧ b2 ≤ W.length ∧ b0 = (W.take b2.toNat).sum - (W.take b1.toNat).sum ∧ E (W.take b2.toNat) = b0)
theorem LcI.start : LcI [] 0 0 0 0 0 := ⟨rfl, fun t _ => by rw [List.take_nil]; exact Int.le_refl _, Int.le_refl _, Int.le_refl _, rfl, .inl ⟨rfl, rfl, rfl⟩⟩
theorem take_left {W : List Int} (B : List Int) {t : Nat} (h : t ≤ W.length) : (W ++ B).take t = W.take t := List.take_append_of_le_length h
theorem LcI.nn {W : List Int} {b0 b1 b2 taken since : Int} (I : LcI W b0 b1 b2 taken since) : 0 ≤ b0 := by
  rcases I.b with h | h
  · omega
  · omega
theorem LcI.step {W : List Int} {b0 b1 b2 taken since : Int} (I : LcI W b0 b1 b2 taken since) {c : Nat} (hc : 0 < c) {x t0 s0 t1 : Int}
    (h0 : t0 = if taken ≤ 0 then 0 else taken) (hs : s0 = if taken ≤ 0 then (W.length : Int) else since) (h1 : t1 = t0 + (c : Int) * x) :
    (t1 > b0 → LcI (W ++ List.replicate c x) t1 s0 ((W.length : Int) + c) t1 s0) ∧ (¬ t1 > b0 → LcI (W ++ List.replicate c x) b0 b1 b2 t1 s0) := by
  have hb := I.nn
  have he : EF 0 W = max 0 taken := I.e
  have hl : ∀ t, t ≤ W.length → EF 0 (W.take t) ≤ b0 := I.le
  have hE : EF (E W) (List.replicate c x) = max 0 t1 := by
    rw [EF_rep x c (EF_nn W (Int.le_refl 0)), he, h1, h0]
    split <;> omega
  have hEW : E (W ++ List.replicate c x) = max 0 t1 := by rw [show E (W ++ List.replicate c x) = EF (E W) (List.replicate c x) from EF_app 0 _ _, hE]
  have hS : (W ++ List.replicate c x).sum = W.sum + (c : Int) * x := by rw [List.sum_append, sum_rep]
  have hs1 : 0 ≤ s0 ∧ s0 ≤ (W.length : Int) := by
    have := I.s0
    have := I.s1
    rw [hs]; split <;> omega
  have hlen : ((W ++ List.replicate c x).length : Int) = (W.length : Int) + c := by simp
  have hT : t1 = (W ++ List.replicate c x).sum - ((W ++ List.replicate c x).take s0.toNat).sum := by
    rw [hS, take_left _ (by omega), h1, h0, hs]
    split
    · rw [show ((W.length : Int)).toNat = W.length by omega, List.take_length]; omega
    · have := I.tk
      omega
  have hle : ∀ (m : Int), b0 ≤ m → t1 ≤ m → ∀ t, t ≤ (W ++ List.replicate c x).length → E ((W ++ List.replicate c x).take t) ≤ m := by
    intro m hm1 hm2 t ht
    by_cases htl : t ≤ W.length
    · rw [take_left _ htl]
      exact Int.le_trans (hl t htl) hm1
    · have e1 : (W ++ List.replicate c x).take t = W ++ List.replicate (t - W.length) x := by
        rw [List.take_append, List.take_of_length_le (by omega), List.take_replicate]
        congr 2
        rw [List.length_append, List.length_replicate] at ht
        omega
      rw [e1, show E (W ++ List.replicate (t - W.length) x) = EF (E W) (List.replicate (t - W.length) x) from EF_app 0 _ _, EF_rep x _ (EF_nn W (Int.le_refl 0))]
      have hk : t - W.length ≤ c := by
        rw [List.length_append, List.length_replicate] at ht
        omega
      have hEle := hl W.length (Nat.le_refl _)
      rw [List.take_length] at hEle
      by_cases hx : 0 ≤ x
      · have := rep_mono hk hx
        have : t1 = max 0 taken + (c : Int) * x := by rw [h1, h0]; split <;> omega
        omega
      · have := rep_neg (x := x) (k := t - W.length) (by omega)
        omega
  refine ⟨fun hg => ⟨hEW, hle t1 (by omega) (Int.le_refl _), hs1.1, by omega, hT, .inr ⟨by omega, hs1.1, by omega, by omega, ?_, ?_⟩⟩, fun hg => ⟨hEW, hle b0 (Int.le_refl _) (by omega), hs1.1, by omega, hT, ?_⟩⟩
  · rw [show ((W.length : Int) + c).toNat = (W ++ List.replicate c x).length by simp; omega, List.take_length]
    exact hT
  · rw [show ((W.length : Int) + c).toNat = (W ++ List.replicate c x).length by simp; omega, List.take_length, hEW]
    omega
  · rcases I.b with h | ⟨g1, g2, g3, g4, g5, g6⟩
    · exact .inl h
    · refine .inr ⟨g1, g2, g3, by omega, ?_, ?_⟩
      · rw [take_left _ (by omega), take_left _ (by omega)]; exact g5
      · rw [take_left _ (by omega)]; exact g6
theorem Chain.len : ∀ {d : Dr} {t : Int} (P : Int), Chain t d → ∀ {x : Tr} {a : Dr}, d = a ++ [x] → (t + ((tk P d).length : Int) = x.2.1)
  | [], t, P, _, x, a, e => by simp at e
  | y :: r, t, P, ⟨h1, h2, h3⟩, x, a, e => by
    cases a with
    | nil =>
      obtain ⟨rfl, rfl⟩ : y = x ∧ r = [] := by simpa using e
      show t + ((List.replicate (cnt y) (y.2.2 - P) ++ tk P []).length : Int) = _
      simp [tk, cnt]
      omega
    | cons z a =>
      obtain ⟨rfl, rfl⟩ : y = z ∧ r = a ++ [x] := by simpa using e
      have ih := Chain.len P h3 rfl
      show t + ((List.replicate (cnt y) (y.2.2 - P) ++ tk P (a ++ [x])).length : Int) = _
      rw [List.length_append, List.length_replicate]
      unfold cnt
      omega
/-- at each stretch: where it begins -/
theorem Chain.at : ∀ {d : Dr} {t : Int} (P : Int), Chain t d → ∀ {a b : Dr} {x : Tr}, d = a ++ x :: b → x.1 = t + ((tk P a).length : Int) ∧ x.1 < x.2.1
  | [], t, P, _, a, b, x, e => by simp at e
  | y :: r, t, P, ⟨h1, h2, h3⟩, a, b, x, e => by
    cases a with
    | nil =>
      obtain ⟨rfl, rfl⟩ : y = x ∧ r = b := by simpa using e
      exact ⟨by simp [tk]; omega, h2⟩
    | cons z a =>
      obtain ⟨rfl, rfl⟩ : y = z ∧ r = a ++ x :: b := by simpa using e
      have ih := Chain.at P h3 rfl
      refine ⟨?_, ih.2⟩
      show x.1 = t + ((List.replicate (cnt y) (y.2.2 - P) ++ tk P a).length : Int)
      rw [List.length_append, List.length_replicate]
      unfold cnt
      omega
def fl (cap : Int) : Int → List Int → Option Nat
  | _, [] => none
  | e, x :: r => if e + x > cap then some 0 else (fl cap (stp e x) r).map (· + 1)
theorem fl_app (cap : Int) : ∀ (A B : List Int) (e : Int), fl cap e (A ++ B) = match fl cap e A with | some t => some t | none => (fl cap (EF e A) B).map (· + A.length)
  | [], B, e => by
    show fl cap e B = (fl cap e B).map (· + 0)
    cases fl cap e B <;> rfl
  | x :: A, B, e => by
    show (if e + x > cap then some 0 else (fl cap (stp e x) (A ++ B)).map (· + 1)) = match (if e + x > cap then some 0 else (fl cap (stp e x) A).map (· + 1)) with | some t => some t | none => (fl cap (EF (stp e x) A) B).map (· + (A.length + 1))
    rw [fl_app cap A B (stp e x)]
    by_cases h : e + x > cap
    · rw [if_pos h, if_pos h]
    · rw [if_neg h, if_neg h]
      cases fl cap (stp e x) A with
      | some t => rfl
      | none =>
        cases fl cap (EF (stp e x) A) B with
        | none => rfl
        | some t => show some (t + A.length + 1) = some (t + (A.length + 1)); congr 1
def good (cap e x : Int) (c : Nat) : Int := if cap - e - x < 0 then 0 else if -x ≥ 0 then (c : Int) else min (c : Int) ((cap - e) / x)
theorem div_step {a x : Int} (hx : 0 < x) : (a - x) / x = a / x - 1 := by
  have := Int.add_mul_ediv_right a (-1) (show x ≠ 0 by omega)
  rw [show a - x = a + -1 * x by omega, this]
  omega
theorem good_ok {cap x : Int} : ∀ (c : Nat) {e : Int}, 0 ≤ e → e ≤ cap → 0 ≤ good cap e x c ∧ good cap e x c ≤ c ∧ (good cap e x c < c → fl cap e (List.replicate c x) = some (good cap e x c).toNat) ∧ (¬ good cap e x c < c → fl cap e (List.replicate c x) = none)
  | 0, e, h0, h1 => by
    have : 0 ≤ good cap e x 0 ∧ good cap e x 0 ≤ 0 := by
      unfold good
      split
      · simp
      · split
        · simp
        · have := Int.ediv_nonneg (show 0 ≤ cap - e by omega) (show 0 ≤ x by omega)
          omega
    exact ⟨this.1, by simpa using this.2, fun h => by have : good cap e x 0 < 0 := h; omega, fun _ => rfl⟩
  | c + 1, e, h0, h1 => by
    by_cases hg : cap - e - x < 0
    · have eg : good cap e x (c + 1) = 0 := if_pos hg
      rw [eg]
      refine ⟨Int.le_refl _, by omega, fun _ => ?_, fun h => by omega⟩
      show (if e + x > cap then some 0 else _) = _
      rw [if_pos (by omega)]; rfl
    · have hs : 0 ≤ stp e x ∧ stp e x ≤ cap := by unfold stp; omega
      obtain ⟨i1, i2, i3, i4⟩ := good_ok c hs.1 hs.2 (x := x)
      have ef : fl cap e (List.replicate (c + 1) x) = (fl cap (stp e x) (List.replicate c x)).map (· + 1) := by
        show (if e + x > cap then some 0 else _) = _
        rw [if_neg (by omega)]
      have eg : good cap e x (c + 1) = good cap (stp e x) x c + 1 := by
        unfold good
        rw [if_neg hg]
        by_cases hx : -x ≥ 0
        · rw [if_pos hx, if_neg (by omega), if_pos hx]; omega
        · rw [if_neg hx, if_neg hx]
          have es : stp e x = e + x := by unfold stp; omega
          rw [es]
          have ed := div_step (a := cap - e) (x := x) (by omega)
          rw [show cap - (e + x) = cap - e - x by omega, ed]
          have q1 : 1 ≤ (cap - e) / x := by
            refine (Int.le_ediv_iff_mul_le (by omega)).mpr (by omega)
          by_cases hh : cap - e - x - x < 0
          · rw [if_pos hh]
            have q2 : (cap - e) / x < 2 := by
              refine (Int.ediv_lt_iff_lt_mul (by omega)).mpr (by omega)
            omega
          · rw [if_neg hh]
            omega
      rw [eg, ef]
      refine ⟨by omega, by omega, fun h => ?_, fun h => ?_⟩
      · rw [i3 (by omega)]
        show some ((good cap (stp e x) x c).toNat + 1) = _
        congr 1
        omega
      · rw [i4 (by omega)]; rfl
theorem fl_none_le {cap : Int} : ∀ (W : List Int) {e : Int}, e ≤ cap → 0 ≤ cap → fl cap e W = none → EF e W ≤ cap
  | [], e, h, _, _ => h
  | x :: r, e, h, h0, hf => by
    have hf' : (if e + x > cap then some 0 else (fl cap (stp e x) r).map (· + 1)) = none := hf
    by_cases hx : e + x > cap
    · rw [if_pos hx] at hf'; cases hf'
    · rw [if_neg hx] at hf'
      exact fl_none_le r (by unfold stp; omega) h0 (by simpa using hf')
theorem fl_none {cap : Int} (h0 : 0 ≤ cap) : ∀ (W : List Int) {e : Int}, fl cap e W = none ↔ ∀ t, t < W.length → EF e (W.take (t + 1)) ≤ cap
  | [], e => Iff.intro (fun _ t h => absurd h (Nat.not_lt_zero _)) (fun _ => rfl)
  | x :: r, e => by
    have ih := fl_none h0 r (e := stp e x)
    have hd : fl cap e (x :: r) = (if e + x > cap then some 0 else (fl cap (stp e x) r).map (· + 1)) := rfl
    rw [hd]
    by_cases hx : e + x > cap
    · rw [if_pos hx]
      refine ⟨fun h => (by cases h), fun h => ?_⟩
      have := h 0 (by simp)
      have e2 : EF e ((x :: r).take 1) = stp e x := by simp [EF]
      rw [e2] at this
      unfold stp at this
      omega
    · rw [if_neg hx, Option.map_eq_none_iff, ih]
      refine ⟨fun h t ht => ?_, fun h t ht => ?_⟩
      · cases t with
        | zero =>
          have e2 : EF e ((x :: r).take 1) = stp e x := by simp [EF]
          rw [e2]; unfold stp; omega
        | succ t => exact h t (by simpa using ht)
      · exact h (t + 1) (by simpa using ht)
theorem fl_some {cap : Int} (h0 : 0 ≤ cap) : ∀ (W : List Int) {e : Int} {t : Nat}, fl cap e W = some t → t < W.length ∧ cap < EF e (W.take (t + 1)) ∧ ∀ s, s < t → EF e (W.take (s + 1)) ≤ cap
  | [], e, t, h => by cases h
  | x :: r, e, t, h => by
    have hd : fl cap e (x :: r) = (if e + x > cap then some 0 else (fl cap (stp e x) r).map (· + 1)) := rfl
    rw [hd] at h
    have e2 : EF e ((x :: r).take 1) = stp e x := by simp [EF]
    by_cases hx : e + x > cap
    · rw [if_pos hx] at h
      cases h
      refine ⟨by simp, ?_, fun s hs => absurd hs (Nat.not_lt_zero _)⟩
      rw [e2]; unfold stp; omega
    · rw [if_neg hx] at h
      obtain ⟨t', ht', rfl⟩ := Option.map_eq_some_iff.mp h
      obtain ⟨a, b, c⟩ := fl_some h0 r ht'
      refine ⟨by simpa using a, b, fun s hs => ?_⟩
      cases s with
      | zero => rw [e2]; unfold stp; omega
      | succ s => exact c s (by omega)
/-- the ticks up to one -/
def cut (T : Int) (d : Dr) : Dr := (d.filter fun x => decide (x.1 ≤ T)).map fun x => (x.1, min x.2.1 (T + 1), x.2.2)
theorem cut_none {T : Int} : ∀ {d : Dr} {t : Int}, Chain t d → T < t → cut T d = []
  | [], t, _, _ => rfl
  | x :: r, t, ⟨h1, h2, h3⟩, h => by
    have ih := cut_none h3 (show T < x.2.1 by omega)
    unfold cut at ih ⊢
    rw [List.filter_cons, if_neg (by simp; omega)]
    exact ih
theorem cut_ok {T P : Int} : ∀ {d : Dr} {t : Int}, Chain t d → t ≤ T → tk P (cut T d) = (tk P d).take (T + 1 - t).toNat ∧ Chain t (cut T d)
  | [], t, _, _ => by simp [cut, tk, Chain]
  | x :: r, t, ⟨h1, h2, h3⟩, h => by
    have e : cut T (x :: r) = (x.1, min x.2.1 (T + 1), x.2.2) :: cut T r := by
      unfold cut
      rw [List.filter_cons, if_pos (by simp; omega), List.map_cons]
    rw [e]
    by_cases hb : x.2.1 ≤ T
    · obtain ⟨i1, i2⟩ := cut_ok (P := P) h3 hb
      have em : min x.2.1 (T + 1) = x.2.1 := by omega
      rw [em]
      refine ⟨?_, h1, h2, i2⟩
      show List.replicate (cnt x) (x.2.2 - P) ++ tk P (cut T r) = (List.replicate (cnt x) (x.2.2 - P) ++ tk P r).take _
      rw [i1, List.take_append, List.length_replicate, List.take_replicate, show min (T + 1 - t).toNat (cnt x) = cnt x by unfold cnt; omega]
      congr 2
      unfold cnt
      omega
    · have ec : cut T r = [] := cut_none h3 (by omega)
      have em : min x.2.1 (T + 1) = T + 1 := by omega
      rw [ec, em]
      refine ⟨?_, h1, by show x.1 < T + 1; omega, trivial⟩
      show List.replicate (T + 1 - x.1).toNat (x.2.2 - P) ++ [] = (List.replicate (cnt x) (x.2.2 - P) ++ tk P r).take _
      rw [List.append_nil, List.take_append, List.length_replicate, List.take_replicate]
      unfold cnt
      rw [show (T + 1 - t).toNat - (x.2.1 - x.1).toNat = 0 by omega, List.take_zero, List.append_nil]
      congr 1
      omega
theorem cut_last {T : Int} : ∀ {d : Dr} {t : Int}, Chain t d → t ≤ T → (T : Int) < t + ((tk 0 d).length : Int) → ∃ a x, cut T d = a ++ [x] ∧ x.2.1 = T + 1
  | [], t, _, h, h' => by simp [tk] at h'; omega
  | x :: r, t, ⟨h1, h2, h3⟩, h, h' => by
    have e : cut T (x :: r) = (x.1, min x.2.1 (T + 1), x.2.2) :: cut T r := by
      unfold cut
      rw [List.filter_cons, if_pos (by simp; omega), List.map_cons]
    have hl : ((tk 0 (x :: r)).length : Int) = (cnt x : Int) + ((tk 0 r).length : Int) := by
      show ((List.replicate (cnt x) (x.2.2 - 0) ++ tk 0 r).length : Int) = _
      rw [List.length_append, List.length_replicate]; omega
    rw [e]
    by_cases hb : x.2.1 ≤ T
    · obtain ⟨a, y, i1, i2⟩ := cut_last h3 hb (by rw [hl] at h'; unfold cnt at h'; omega)
      exact ⟨_ :: a, y, by rw [i1]; rfl, i2⟩
    · rw [cut_none h3 (by omega)]
      exact ⟨[], _, rfl, by show min x.2.1 (T + 1) = _; omega⟩
theorem tk_len (P Q : Int) : ∀ d : Dr, (tk P d).length = (tk Q d).length
  | [] => rfl
  | x :: r => by
    show (List.replicate (cnt x) (x.2.2 - P) ++ tk P r).length = (List.replicate (cnt x) (x.2.2 - Q) ++ tk Q r).length
    rw [List.length_append, List.length_append, tk_len P Q r, List.length_replicate, List.length_replicate]
theorem Chain.snoc : ∀ {d : Dr} {t : Int} {x : Tr}, Chain t d → x.1 = t + ((tk 0 d).length : Int) → x.1 < x.2.1 → Chain t (d ++ [x])
  | [], t, x, _, e, h => ⟨by simpa [tk] using e, h, trivial⟩
  | y :: r, t, x, ⟨h1, h2, h3⟩, e, h => by
    refine ⟨h1, h2, Chain.snoc h3 ?_ h⟩
    have hl : ((tk 0 (y :: r)).length : Int) = (cnt y : Int) + ((tk 0 r).length : Int) := by
      show ((List.replicate (cnt y) (y.2.2 - 0) ++ tk 0 r).length : Int) = _
      rw [List.length_append, List.length_replicate]; omega
    rw [hl] at e
    unfold cnt at e
    omega
theorem tk_len_snoc (P : Int) (d : Dr) (x : Tr) : (tk P (d ++ [x])).length = (tk P d).length + cnt x := by
  rw [tk_app, List.length_append]
  show _ + (List.replicate (cnt x) (x.2.2 - P) ++ []).length = _
  simp
theorem tk_snoc (P : Int) (d : Dr) (x : Tr) : tk P (d ++ [x]) = tk P d ++ List.replicate (cnt x) (x.2.2 - P) := by
  rw [tk_app]
  show _ ++ (List.replicate (cnt x) (x.2.2 - P) ++ []) = _
  simp
def ps : Int → List Int → List Int
  | s, [] => [s]
  | s, x :: r => s :: ps (s + x) r
structure DueI (W : List Int) (t : Nat) (low due : Int) : Prop where
  e : (W.take t).sum - low = E (W.take t)
  le : ∀ s, s ≤ t → E (W.take s) ≤ due
  ex : ∃ s, s ≤ t ∧ E (W.take s) = due
theorem take_snoc {W : List Int} {t : Nat} {x : Int} (h : W[t]? = some x) : W.take (t + 1) = W.take t ++ [x] := by rw [List.take_add_one, h]; rfl
theorem E_snoc (W : List Int) (x : Int) : E (W ++ [x]) = max 0 (E W + x) := by
  show EF 0 (W ++ [x]) = _
  rw [EF_app]
  rfl
end Bw
namespace Bw
end Bw
namespace Bw
def ov (f b : Int) (x : Tr) : Int := max 0 (min x.2.1 b - max x.1 f)
end Bw
namespace Bw
end Bw
namespace Bw
theorem fl_snoc (cap : Int) (W : List Int) (x : Int) : fl cap 0 (W ++ [x]) = match fl cap 0 W with | some t => some t | none => if E W + x > cap then some W.length else none := by
  rw [fl_app]
  cases fl cap 0 W with
  | some t => rfl
  | none =>
    show Option.map _ (if EF 0 W + x > cap then some 0 else Option.map _ none) = _
    by_cases h : EF 0 W + x > cap
    · rw [if_pos h, if_pos h]
      show some (0 + W.length) = _
      rw [Nat.zero_add]
    · rw [if_neg h, if_neg h]
      rfl
/-- a tick that lacks, with all that follows -/
theorem fl_here {cap : Int} {W : List Int} {t : Nat} {x : Int} (h : W[t]? = some x) (h1 : fl cap 0 (W.take t) = none) (h2 : E (W.take t) + x > cap) : fl cap 0 W = some t := by
  obtain ⟨hi, e⟩ := List.getElem?_eq_some_iff.mp h
  have es : W = (W.take t ++ [x]) ++ W.drop (t + 1) := by
    rw [List.append_assoc, ← e]
    show W = W.take t ++ (W[t] :: W.drop (t + 1))
    rw [← List.drop_eq_getElem_cons hi, List.take_append_drop]
  have hl : (W.take t).length = t := by rw [List.length_take]; omega
  conv => lhs; rw [es]
  rw [fl_app, fl_snoc, h1]
  show (match (if E (W.take t) + x > cap then some (W.take t).length else none) with | some t => some t | none => _) = _
  rw [if_pos h2, hl]
/-- the stretch of a tick -/
theorem tk_cell {P : Int} : ∀ {d : Dr} {t T : Int}, Chain t d → t ≤ T → T < t + ((tk P d).length : Int) → ∃ x ∈ d, (d.filter fun y => decide (y.1 ≤ T) && decide (T < y.2.1)) = [x] ∧ (tk P d)[(T - t).toNat]? = some (x.2.2 - P)
  | [], t, T, _, h, h' => by simp [tk] at h'; omega
  | x :: r, t, T, ⟨h1, h2, h3⟩, h, h' => by
    have hl : ((tk P (x :: r)).length : Int) = (cnt x : Int) + ((tk P r).length : Int) := by
      show ((List.replicate (cnt x) (x.2.2 - P) ++ tk P r).length : Int) = _
      rw [List.length_append, List.length_replicate]; omega
    by_cases hb : T < x.2.1
    · refine ⟨x, List.mem_cons_self .., ?_, ?_⟩
      · rw [List.filter_cons, if_pos (by simp; omega)]
        congr 1
        refine List.filter_eq_nil_iff.mpr fun y hy hyt => ?_
        have key : ∀ {r : Dr} {s : Int}, Chain s r → ∀ z ∈ r, s ≤ z.1 := fun {r} => by
          induction r with
          | nil => intro s _ z hz; cases hz
          | cons w r ih =>
            rintro s ⟨a1, a2, a3⟩ z hz
            rcases List.mem_cons.mp hz with rfl | hz
            · omega
            · have := ih a3 z hz
              omega
        have := key h3 y hy
        simp at hyt
        omega
      · show (List.replicate (cnt x) (x.2.2 - P) ++ tk P r)[(T - t).toNat]? = _
        rw [List.getElem?_append_left (by rw [List.length_replicate]; unfold cnt; omega)]
        rw [List.getElem?_replicate, if_pos (by unfold cnt; omega)]
    · obtain ⟨y, hy, e1, e2⟩ := tk_cell (P := P) h3 (show x.2.1 ≤ T by omega) (by rw [hl] at h'; unfold cnt at h'; omega)
      refine ⟨y, List.mem_cons_of_mem _ hy, ?_, ?_⟩
      · rw [List.filter_cons, if_neg (by simp; omega)]
        exact e1
      · show (List.replicate (cnt x) (x.2.2 - P) ++ tk P r)[(T - t).toNat]? = _
        rw [List.getElem?_append_right (by rw [List.length_replicate]; unfold cnt; omega), List.length_replicate, show (T - t).toNat - cnt x = (T - x.2.1).toNat by unfold cnt; omega]
        exact e2
end Bw
namespace Bw
theorem chain_in {P : Int} {d : Dr} (c : Chain 0 d) {x : Tr} (hx : x ∈ d) : 0 ≤ x.1 ∧ x.1 < x.2.1 ∧ x.2.1 ≤ ((tk P d).length : Int) := by
  obtain ⟨a, b, e⟩ := List.append_of_mem hx
  obtain ⟨h1, h2⟩ := c.at P e
  have hl : (tk P d).length = (tk P a).length + (cnt x + (tk P b).length) := by
    rw [e, tk_app, List.length_append]
    show _ + (List.replicate (cnt x) (x.2.2 - P) ++ tk P b).length = _
    rw [List.length_append, List.length_replicate]
  unfold cnt at hl
  omega
theorem fl_upto {cap : Int} (h0 : 0 ≤ cap) {W : List Int} {t : Nat} (h : fl cap 0 W = some t) : ∃ u, fl cap 0 (W.take (t + 1)) = some u := by
  obtain ⟨h1, h2, h3⟩ := fl_some h0 W h
  cases e : fl cap 0 (W.take (t + 1)) with
  | some u => exact ⟨u, rfl⟩
  | none =>
    have := (fl_none h0 _).mp e t (by rw [List.length_take]; omega)
    rw [List.take_take, Nat.min_self] at this
    omega
end Bw

namespace Bw
open PySem L2 Og
theorem ty_ni {K : PySem.W.Frag} : PySem.W.kitOne K (.type "NoneType") (.type "int") = some false := by kernel_rfl
theorem cut_ints (ns : List Int) (lo hi : Option Int) : ∃ ms : List Int, cutV (ns.map V.int) lo hi = ms.map V.int ∧ ms.length ≤ ns.length := by
  unfold cutV
  refine ⟨(ns.drop (HT.sIx (ns.map V.int).length 0 lo)).take (HT.sIx (ns.map V.int).length (ns.map V.int).length hi - HT.sIx (ns.map V.int).length 0 lo), ?_, ?_⟩
  · rw [← List.map_drop, ← List.map_take]
  · rw [List.length_take, List.length_drop]
    omega
theorem ints_at {ns : List Int} {i : Int} (h0 : 0 ≤ i) (h1 : i < ns.length) : ∃ c, ns[i.toNat]? = some c ∧ c ∈ ns ∧ atI (ns.map V.int) i = some (.int c) := by
  have hlt : i.toNat < ns.length := by omega
  refine ⟨ns[i.toNat], List.getElem?_eq_getElem hlt, List.getElem_mem hlt, ?_⟩
  have e : (ns.map V.int)[i.toNat]? = some (.int ns[i.toNat]) := by rw [List.getElem?_map, List.getElem?_eq_getElem hlt]; rfl
  have := atI_nat e
  rw [show ((i.toNat : Nat) : Int) = i by omega] at this
  exact this
theorem at_last {α : Type} {xs : List α} {v : α} : atI (xs ++ [v]) (-1) = some v := by
  unfold atI ixN
  rw [if_neg (by decide), if_pos (by simp; omega)]
  simp
  rw [show (-1 + ((xs.length : Int) + 1)).toNat = xs.length by omega]
  simp
theorem ixN_of {n : Nat} {i : Int} (h0 : 0 ≤ i) (h1 : i < n) : ixN n i = some i.toNat := by unfold ixN; rw [if_pos h0, if_pos h1]
abbrev triV (x : Tr) : List V := [.int x.1, .int x.2.1, .int x.2.2]
structure DrAt (H : Hp) (a : Addr) (d : Dr) (ys : List V) : Prop where
  l : H a = some (.lst ys)
  p : Paired (fun x v => TupAt H (triV x) v) d ys
theorem DrAt.mono {H H' : Hp} {a : Addr} {d : Dr} {ys : List V} (h : DrAt H a d ys) (s : Same H H') : DrAt H' a d ys := ⟨s _ _ h.l, paired_mono s h.p⟩
theorem DrAt.len {H : Hp} {a : Addr} {d : Dr} {ys : List V} (h : DrAt H a d ys) : d.length = ys.length := h.p.length
theorem DrAt.at {H : Hp} {a : Addr} {d : Dr} {ys : List V} (h : DrAt H a d ys) {i : Nat} {y : V} (hi : ys[i]? = some y) : ∃ x T, d[i]? = some x ∧ x ∈ d ∧ y = .ref T ∧ H T = some (.tup (triV x)) := by
  obtain ⟨x, hx, T, e, q⟩ := Og.paired_get' h.p hi
  exact ⟨x, T, hx, List.mem_of_getElem? hx, e, q⟩
theorem split_at {α : Type} {l : List α} {i : Nat} {x : α} (h : l[i]? = some x) : l = l.take i ++ x :: l.drop (i + 1) ∧ l.take (i + 1) = l.take i ++ [x] := by
  obtain ⟨hi, e⟩ := List.getElem?_eq_some_iff.mp h
  refine ⟨?_, ?_⟩
  · rw [← e, ← List.drop_eq_getElem_cons hi, List.take_append_drop]
  · rw [List.take_add_one, h]; rfl
/-- what the laws' draughts keep to -/
def Bd (d : Dr) : Prop := ∀ x ∈ d, 0 ≤ x.2.2 ∧ x.2.2 < 2 ^ 41 ∧ x.2.1 - x.1 < 2 ^ 35
def DH (H : Hp) (dh pc : Addr) (n : Nat) : Prop := ∃ (cs : List Int) (m r : Int), H dh = some (.lst [.ref pc, .int m, .int r, .int (n : Int)]) ∧ H pc = some (.lst (cs.map V.int)) ∧ dh ≠ pc ∧ (∀ c ∈ cs, 0 ≤ c) ∧ 0 ≤ m ∧ m ≤ cs.length ∧ 0 ≤ r ∧ r < 2147483647 ∧ cs.length ≤ 64
def Fr2 (H H' : Hp) (dh pc : Addr) : Prop := ∀ b, b ≠ dh → b ≠ pc → H' b = H b
theorem Fr2.same {H H' H0 : Hp} {dh pc : Addr} (f : Fr2 H H' dh pc) (s : Same H0 H) (h1 : H0 dh = none) (h2 : H0 pc = none) : Same H0 H' := fun b o e => by
  rw [f b (ne_of_none e h1) (ne_of_none e h2)]
  exact s b o e
theorem iteD {c A B : Prop} [Decidable c] (hc : c) (h : A) : if decide c = true then A else B := by
  rw [decide_eq_true hc]
  exact iteT h
theorem iteND {c A B : Prop} [Decidable c] (hc : ¬ c) (h : B) : if decide c = true then A else B := by
  rw [decide_eq_false hc]
  exact iteF h
theorem iteTr {A B : Prop} {b : Bool} (hb : b = true) (h : A) : if b = true then A else B := by
  rw [hb]
  exact iteT h
theorem iteFa {A B : Prop} {b : Bool} (hb : b = false) (h : B) : if b = true then A else B := by
  rw [hb]
  exact iteF h
theorem DH.same {H H' : Hp} {dh pc : Addr} {n : Nat} (D : DH H dh pc n) (s : Same H H') : DH H' dh pc n := by
  obtain ⟨cs, m, r, e1, e2, e3⟩ := D
  exact ⟨cs, m, r, s _ _ e1, s _ _ e2, e3⟩
theorem DH.upd {H : Hp} {dh pc l : Addr} {n : Nat} {o : HO} (D : DH H dh pc n) (h1 : l ≠ dh) (h2 : l ≠ pc) : DH (upd H l o) dh pc n := by
  obtain ⟨cs, m, r, e1, e2, e3⟩ := D
  exact ⟨cs, m, r, by rw [upd_ne (Ne.symm h1)]; exact e1, by rw [upd_ne (Ne.symm h2)]; exact e2, e3⟩
theorem DrAt.fr {H H' : Hp} {dh pc l : Addr} {k : Nat} {d : Dr} {ys : List V} (A : DrAt H l d ys) (f : Fr2 H H' dh pc) (D : DH H dh pc k) (n1 : l ≠ dh) (n2 : l ≠ pc) : DrAt H' l d ys := by
  obtain ⟨cs, m, r, e1, e2, e3⟩ := D
  refine ⟨by rw [f l n1 n2]; exact A.l, Paired.mapP A.p fun x v ⟨T, ev, hT⟩ => ⟨T, ev, ?_⟩⟩
  rw [f T (ne_of hT e1 (by intro z; cases z)) (ne_of hT e2 (by intro z; cases z))]
  exact hT
theorem DrAt.snoc {H : Hp} {l T : Addr} {d : Dr} {ys : List V} {x : Tr} (A : DrAt H l d ys) (hT : H T = some (.tup (triV x))) : DrAt (L2.upd H l (.lst (ys ++ [.ref T]))) l (d ++ [x]) (ys ++ [.ref T]) :=
  ⟨upd_same, Paired.snoc (paired_upd A.p A.l) (TupAt.upd ⟨T, rfl, hT⟩ A.l)⟩
def spCa (K : PySem.W.Frag) : Sp := fun vs H Q _ => ∃ (a : Addr) (k : Nat) (ns : List Int), vs = [.ref a, .int (k : Nat)] ∧ SqL K H a (ns.map V.int) ∧ ∀ c, Q (.int c) H
def spWh : Sp := fun vs H Q _ => ∃ (x : V) (b : Bool), vs = [x] ∧ ((∃ i, x = .int i ∧ b = true) ∨ (x = .non ∧ b = false)) ∧ Q (.bl b) H
def spDn (K : PySem.W.Frag) : Sp := fun vs H Q _ => ∃ (a : Addr) (st : Int) (ns : List Int), vs = [.ref a, .int st] ∧ SqL K H a (ns.map V.int) ∧ 0 ≤ st ∧ st < 2147483647 ∧ ns.length ≤ 63 ∧ ∀ dh pc H', H dh = none → H pc = none → Same H H' → DH H' dh pc 0 → Q (.ref dh) H'
def spDr : Sp := fun vs H Q _ => ∃ (dh pc : Addr) (n : Nat) (many : Int), vs = [.ref dh, .int many] ∧ DH H dh pc n ∧ n < 1000000 ∧ 0 < many ∧ many < 1073741824 ∧ ∀ (r : Int) H', 0 ≤ r → r < many → DH H' dh pc (n + 1) → Fr2 H H' dh pc → Q (.int r) H'
def spDg (K : PySem.W.Frag) : Sp := fun vs H Q _ => ∃ (a : Addr) (st : Nat) (far : Bool) (ns : List Int), vs = [.ref a, .int (st : Nat), .bl far] ∧ SqL K H a (ns.map V.int) ∧ ns.length ≤ 63 ∧
  ∀ l ys d H', Same H H' → DrAt H' l d ys → Chain 0 d → d ≠ [] → d.length ≤ 20 → Bd d → (far = false → ∀ x ∈ d, x.2.1 - x.1 ≤ 4 ∧ x.2.2 ≤ 10) → Q (.ref l) H'
def spLc : Sp := fun vs H Q _ => ∃ (a : Addr) (d : Dr) (ys : List V) (P : Int), vs = [.ref a, .int P] ∧ DrAt H a d ys ∧ Chain 0 d ∧ Bd d ∧ d.length ≤ 1000 ∧
  ∀ p b0 b1 b2 taken since H', Same H H' → H' p = some (.tup [.int b0, .int b1, .int b2]) → LcI (tk P d) b0 b1 b2 taken since → Q (.ref p) H'
def gd (th ri c : Int) : Int := if th + ri < 0 then 0 else if ri ≥ 0 then c else if th / -ri < c then th / -ri else c
theorem gd_good (cap e P w : Int) (c : Nat) : gd (cap - e) (P - w) c = good cap e (w - P) c := by
  unfold gd good
  rw [show -(P - w) = w - P by omega]
  by_cases h1 : cap - e + (P - w) < 0
  · rw [if_pos h1, if_pos (show cap - e - (w - P) < 0 by omega)]
  · rw [if_neg h1, if_neg (show ¬ cap - e - (w - P) < 0 by omega)]
    by_cases h2 : P - w ≥ 0
    · rw [if_pos h2, if_pos (show -(w - P) ≥ 0 by omega)]
    · rw [if_neg h2, if_neg (show ¬ -(w - P) ≥ 0 by omega)]
      split <;> omega
def coV : Option Nat → Int → List V
  | some t, _ => [.int (t : Int), .non]
  | none, th => [.non, .int th]
def oV : Option Nat → V
  | some t => .int (t : Int)
  | none => .non
def spGt : Sp := fun vs H Q _ => ∃ (th ri c : Int), vs = [.int th, .int ri, .int c] ∧ -ri < 2 ^ 200 ∧ Q (.int (gd th ri c)) H
def spCo : Sp := fun vs H Q _ => ∃ (a : Addr) (d : Dr) (ys : List V) (P cap : Int), vs = [.ref a, .int P, .int cap] ∧ DrAt H a d ys ∧ Chain 0 d ∧ Bd d ∧ 0 ≤ P ∧ 0 ≤ cap ∧
  ∀ p H', Same H H' → H' p = some (.tup (coV (fl cap 0 (tk P d)) (cap - E (tk P d)))) → Q (.ref p) H'
def spFi : Sp := fun vs H Q _ => ∃ (a : Addr) (d : Dr) (ys : List V) (P cap : Int), vs = [.ref a, .int P, .int cap] ∧ DrAt H a d ys ∧ Chain 0 d ∧ Bd d ∧ 0 ≤ P ∧ 0 ≤ cap ∧
  ∀ H', Same H H' → Q (oV (fl cap 0 (tk P d))) H'
def spPu (K : PySem.W.Frag) : Sp := fun vs H Q _ => ∃ (a l : Addr) (ns : List Int) (d : Dr) (ys : List V), vs = [.ref a, .ref l] ∧ SqL K H a (ns.map V.int) ∧ DrAt H l d ys ∧ d ≠ [] ∧ d.length ≤ 20 ∧ Bd d ∧
  ∀ P H', Same H H' → 0 ≤ P → P < 2 ^ 60 → Q (.int P) H'
def wlV : Option Nat → Int → V
  | none, th => .int th
  | some _, _ => .non
/-- what is left behind these ticks -/
def thV (cap : Int) (W : List Int) : V := wlV (fl cap 0 W) (cap - E W)
theorem thV_snoc (cap : Int) (W : List Int) (x : Int) (h0 : 0 ≤ cap) : (∃ t, fl cap 0 W = some t ∧ thV cap W = .non ∧ thV cap (W ++ [x]) = .non) ∨
    (fl cap 0 W = none ∧ thV cap W = .int (cap - EF 0 W) ∧ ((cap - EF 0 W - x < 0 ∧ thV cap (W ++ [x]) = .non) ∨ (¬ cap - EF 0 W - x < 0 ∧ thV cap (W ++ [x]) = .int (min cap (cap - EF 0 W - x))))) := by
  have es := fl_snoc cap W x
  have eE : EF 0 (W ++ [x]) = max 0 (EF 0 W + x) := E_snoc W x
  cases e : fl cap 0 W with
  | some t =>
    rw [e] at es
    refine .inl ⟨t, rfl, ?_, ?_⟩
    · unfold thV; rw [e]; rfl
    · unfold thV; rw [es]; rfl
  | none =>
    rw [e] at es
    refine .inr ⟨rfl, by unfold thV; rw [e]; rfl, ?_⟩
    have es' : fl cap 0 (W ++ [x]) = if EF 0 W + x > cap then some W.length else none := es
    by_cases h : cap - EF 0 W - x < 0
    · refine .inl ⟨h, ?_⟩
      unfold thV
      rw [es', if_pos (by omega)]
      rfl
    · refine .inr ⟨h, ?_⟩
      unfold thV
      rw [es', if_neg (by omega)]
      show V.int (cap - EF 0 (W ++ [x])) = _
      rw [eE]
      congr 1
      omega
def spWl : Sp := fun vs H Q _ => ∃ (a : Addr) (d : Dr) (ys : List V) (P cap T : Int), vs = [.ref a, .int P, .int cap, .int T] ∧ DrAt H a d ys ∧ Chain 0 d ∧ Bd d ∧ d.length ≤ 100 ∧ 0 ≤ P ∧ 0 ≤ cap ∧ 0 ≤ T ∧ T < (tk P d).length ∧
  ∀ H', Same H H' → Q (thV cap ((tk P d).take (T + 1).toNat)) H'
def spCp (K : PySem.W.Frag) : Sp := fun vs H Q _ => ∃ (a l : Addr) (ns : List Int) (d : Dr) (ys : List V) (P : Int), vs = [.ref a, .ref l, .int P] ∧ SqL K H a (ns.map V.int) ∧ DrAt H l d ys ∧ Chain 0 d ∧ Bd d ∧ d.length ≤ 100 ∧ 0 ≤ P ∧
  ∀ cap H', Same H H' → 0 ≤ cap → Q (.int cap) H'
def spSt : Sp := fun vs H Q _ => ∃ (l : Addr) (d : Dr) (ys : List V) (P cap T : Int), vs = [.ref l, .int P, .int cap, .int T] ∧ DrAt H l d ys ∧ Chain 0 d ∧ Bd d ∧ d.length ≤ 100 ∧ 0 ≤ P ∧ P < 2 ^ 60 ∧ 0 ≤ cap ∧ 0 ≤ T ∧ T < (tk P d).length ∧
  ∀ H', Same H H' → Q (.bl true) H'
theorem bd_cut {d : Dr} {T : Int} (h : Bd d) : Bd (cut T d) := fun x hx => by
  unfold cut at hx
  obtain ⟨y, hy, rfl⟩ := List.mem_map.mp hx
  have := h y (List.mem_filter.mp hy).1
  refine ⟨this.1, this.2.1, ?_⟩
  show min y.2.1 (T + 1) - y.1 < 2 ^ 35
  omega
def spLaw (K : PySem.W.Frag) : Sp := fun vs H Q _ => ∃ (a : Addr) (ns : List Int), vs = [.ref a] ∧ SqL K H a (ns.map V.int) ∧ ns.length ≤ 63 ∧ ∀ H', Q (.bl true) H'
theorem go_while {c : TT} {tb u : TS} {D : Ends} {r : VK} {b k : St → Hp → Prop} {σ : St} {H : Hp} (h : tWhile c tb { D with nx := u D } σ H) : ({ nx := tSeq (tWhile c tb) u D, rt := r, bk := b, ct := k } : Ends).nx σ H := h
end Bw

namespace L2
open PySem PySem.Spec PyProof.Rows
section
variable {X : Cx} {o e f : Expr} {apos cpos : Pos} {td ty tx : TE}
end
end L2
namespace L2
open PySem PySem.Spec PyProof.Rows
theorem ps_setE {X : Cx} {x : Str} {e : Expr} {te : TE} {pos' pos : Pos} (i : Nat) (hN : X.N.Nodup) (hi : X.N[i]? = some x) (hx : Loc X.env.scope x) (he : PE X e te) (hs : swapsWith e (some (.Name x pos')) pos.line X.env = pure false) (hf : X.fn x = true ∨ X.env.scope.names.lookup x = some .local) :
    PS X (.Assign [.Name x pos'] e pos) (tAsg te (gName i)) := ps_set hN hi hx he hs hf
end L2
namespace L2
open PySem PySem.Spec PyProof.Rows
theorem pa_c {X : Cx} {e : Expr} {es : List Expr} {te : TE} {t : TA} (h : starEach (e :: es) X.env = (false, eval e X.env) :: starEach es X.env) (he : PE X e te) (ht : PA X es t) : PA X (e :: es) (tCons te t) := pa_cons he ht h
end L2
namespace L2
open PySem PySem.Spec PyProof.Rows
end L2

section PartK71
set_option maxHeartbeats 800000
namespace K71
open PySem L2 Og Bw
def top (i : Nat) : Stmt := PySem.Challenge.pw_windchest_k71_whole_any_tick.main.body.getD i (.Pass ⟨0, 0, 0, 0⟩)
abbrev sGt : Stmt := top 1
abbrev sCo : Stmt := top 2
abbrev sFi : Stmt := top 3
abbrev sWl : Stmt := top 4
abbrev sLc : Stmt := top 5
abbrev sCa : Stmt := top 7
abbrev sLw : Stmt := top 8
abbrev sDn : Stmt := top 9
abbrev sDr : Stmt := top 10
abbrev sDg : Stmt := top 11
abbrev sPu : Stmt := top 12
abbrev sCp : Stmt := top 13
abbrev sSt : Stmt := top 14
abbrev sLaw : Stmt := top 15
structure Txt (K : PySem.W.Frag) (mg : Str → Option Value) : Prop where
  len : mg "len" = none
  isin : mg "isinstance" = none
  int : mg "int" = none
  bool : mg "bool" = none
  range : mg "range" = none
  abs : mg "abs" = none
  max : mg "max" = none
  min : mg "min" = none
  sorted : mg "sorted" = none
  sum : mg "sum" = none
structure Fns (K : PySem.W.Frag) (mg : Str → Option Value) (fGt fCo fFi fWl fLc fCa fLw fDn fDr fDg fPu fCp fSt : Addr) (dGt dCo dFi dWl dLc dCa dLw dDn dDr dDg dPu dCp dSt : FuncData) : Prop where
  FGt : Fun K "good_ticks" "good_ticks" sGt fGt dGt
  FCo : Fun K "course_of" "course_of" sCo fCo dCo
  FFi : Fun K "first_lack" "first_lack" sFi fFi dFi
  FWl : Fun K "wind_left" "wind_left" sWl fWl dWl
  FLc : Fun K "least_cap" "least_cap" sLc fLc dLc
  FCa : Fun K "_law_cell_at" "_law_cell_at" sCa fCa dCa
  FLw : Fun K "_law_whole" "_law_whole" sLw fLw dLw
  FDn : Fun K "_law_drawn" "_law_drawn" sDn fDn dDn
  FDr : Fun K "_law_draw" "_law_draw" sDr fDr dDr
  FDg : Fun K "_law_draught" "_law_draught" sDg fDg dDg
  FPu : Fun K "_law_pump" "_law_pump" sPu fPu dPu
  FCp : Fun K "_law_cap" "_law_cap" sCp fCp dCp
  FSt : Fun K "_law_step" "_law_step" sSt fSt dSt
  bGt : Binds K dGt ["there", "rise", "count"] []
  bCo : Binds K dCo ["draught", "pump", "cap"] []
  bFi : Binds K dFi ["draught", "pump", "cap"] []
  bWl : Binds K dWl ["draught", "pump", "cap", "tick"] []
  bLc : Binds K dLc ["draught", "pump"] []
  bCa : Binds K dCa ["_law_script", "_law_k"] []
  bLw : Binds K dLw ["_law_found"] []
  bDn : Binds K dDn ["_law_script", "_law_start"] []
  bDr : Binds K dDr ["_law_drawn_here", "_law_many"] []
  bDg : Binds K dDg ["_law_script", "_law_start", "_law_far"] []
  bPu : Binds K dPu ["_law_script", "_law_draught_here"] []
  bCp : Binds K dCp ["_law_script", "_law_draught_here", "_law_pump_here"] []
  bSt : Binds K dSt ["_law_draught_here", "_law_pump_here", "_law_cap_here", "_law_tick"] []
  mGt : mg "good_ticks" = some (.ref fGt)
  mCo : mg "course_of" = some (.ref fCo)
  mFi : mg "first_lack" = some (.ref fFi)
  mWl : mg "wind_left" = some (.ref fWl)
  mLc : mg "least_cap" = some (.ref fLc)
  mCa : mg "_law_cell_at" = some (.ref fCa)
  mLw : mg "_law_whole" = some (.ref fLw)
  mDn : mg "_law_drawn" = some (.ref fDn)
  mDr : mg "_law_draw" = some (.ref fDr)
  mDg : mg "_law_draught" = some (.ref fDg)
  mPu : mg "_law_pump" = some (.ref fPu)
  mCp : mg "_law_cap" = some (.ref fCp)
  mSt : mg "_law_step" = some (.ref fSt)
section
variable {P : Program} {w : World} {K : PySem.W.Frag} {mg : Str → Option Value} {base : Heap} {fGt fCo fFi fWl fLc fCa fLw fDn fDr fDg fPu fCp fSt : Addr} {dGt dCo dFi dWl dLc dCa dLw dDn dDr dDg dPu dCp dSt : FuncData}
theorem scCa : FnScope ["_law_script", "_law_k"] ["_law_script", "_law_k"] (defScope sCa) := ⟨rfl, rfl, rfl, by decide +kernel, rfl, by decide +kernel, by decide +kernel⟩
theorem ok_Ca (N : Fns K mg fGt fCo fFi fWl fLc fCa fLw fDn fDr fDg fPu fCp fSt dGt dCo dFi dWl dLc dCa dLw dDn dDr dDg dPu dCp dSt) (T : Txt K mg) : FnOk P w K mg base CX0 1 fCa dCa ["_law_script", "_law_k"] (spCa K) := by
  refine N.FCa.ok scCa (fun vs H Q E h => ?_) (fun cdv A outer s H vs Q E hr h => ?_)
  · obtain ⟨a, k, ns, rfl, _⟩ := h
    rfl
  · obtain ⟨a, k, ns, rfl, hS, q⟩ := h
    refine ⟨_, (@pss_cons _ _ _ _ _ (@ps_if _ _ _ _ _ _ _ _ (pt_cmpR op_lt (pv 1) (pe_callB call_len_seq rfl T.len PySem.boot_len (@pa_c _ _ _ _ _ rfl (pv 0) pa_nil)) (nomark _)) (@pss_one _ _ _ (@ps_ret _ _ _ _ (@pe_ix _ _ _ _ _ _ _ ix_list (pv 0) (pv 1) (fun _ _ => rfl)))) pss_nil)
      (@pss_one _ _ _ (@ps_ret _ _ _ _ pe_int))), ?_⟩
    refine ⟨_, rfl, _, rfl, a, _, rfl, .inl hS, _, _, rfl, rfl, _, rfl, ?_⟩
    refine ite2 (fun h1 => ?_) (fun h1 => ?_)
    · have hlt : k < ns.length := by have := of_decide_eq_true h1; rw [List.length_map] at this; omega
      exact ⟨_, rfl, _, rfl, a, _, _, .int ns[k], rfl, rfl, hS, atI_nat (by rw [List.getElem?_map, List.getElem?_eq_getElem hlt]; rfl), q _⟩
    · exact q 0
theorem scLw : FnScope ["_law_found"] ["_law_found"] (defScope sLw) := ⟨rfl, rfl, rfl, by decide +kernel, rfl, by decide +kernel, by decide +kernel⟩
theorem ok_Lw (N : Fns K mg fGt fCo fFi fWl fLc fCa fLw fDn fDr fDg fPu fCp fSt dGt dCo dFi dWl dLc dCa dLw dDn dDr dDg dPu dCp dSt) (T : Txt K mg) : FnOk P w K mg base CX0 1 fLw dLw ["_law_found"] spWh := by
  refine N.FLw.ok scLw (fun vs H Q E h => ?_) (fun cdv A outer s H vs Q E hr h => ?_)
  · obtain ⟨x, b, rfl, _⟩ := h
    rfl
  · obtain ⟨x, b, rfl, hx, q⟩ := h
    refine ⟨_, (@pss_one _ _ _ (@ps_ret _ _ _ _ (pe_and (pe_callB call_isin rfl T.isin PyProof.Rows.boot_isinstance (@pa_c _ _ _ _ _ rfl (pv 0) (@pa_c _ _ _ _ _ rfl (pe_bltn (v := .ty "int") rfl T.int PyProof.Rows.boot_int rfl) pa_nil))) (pe_one (pe_not (pe_callB call_isin rfl T.isin PyProof.Rows.boot_isinstance (@pa_c _ _ _ _ _ rfl (pv 0) (@pa_c _ _ _ _ _ rfl (pe_bltn (v := .ty "bool") rfl T.bool PyProof.Rows.boot_bool rfl) pa_nil)))))))), ?_⟩
    rcases hx with ⟨i, rfl, rfl⟩ | ⟨rfl, rfl⟩
    · refine ⟨_, rfl, _, "int", _, _, rfl, .int i, ty_int, _, rfl, iteT ?_⟩
      exact ⟨_, rfl, _, "bool", _, _, rfl, .int i, ty_ib, _, rfl, q⟩
    · exact ⟨_, rfl, _, "int", _, _, rfl, .non, ty_ni, _, rfl, iteF q⟩
theorem absl {c : Int} : 0 ≤ (if c < 0 then -c else c) := by split <;> omega
theorem scDn : FnScope ["_law_script", "_law_start", "_law_cells", "_law_number", "_law_k", "_law_mixed"] ["_law_script", "_law_start"] (defScope sDn) := ⟨rfl, rfl, rfl, by decide +kernel, rfl, by decide +kernel, by decide +kernel⟩
theorem ok_Dn (N : Fns K mg fGt fCo fFi fWl fLc fCa fLw fDn fDr fDg fPu fCp fSt dGt dCo dFi dWl dLc dCa dLw dDn dDr dDg dPu dCp dSt) (T : Txt K mg) : FnOk P w K mg base CX0 1 fDn dDn ["_law_script", "_law_start"] (spDn K) := by
  refine N.FDn.ok scDn (fun vs H Q E h => ?_) (fun cdv A outer s H vs Q E hr h => ?_)
  · obtain ⟨a, st, ns, rfl, _⟩ := h
    rfl
  · obtain ⟨a, st, ns, rfl, hS, h0, h1, hz, q⟩ := h
    refine ⟨_, (@pss_cons _ _ _ _ _ (@ps_setE _ _ _ _ _ _ 2 scDn.nd rfl (Or.inl rfl) (pe_op op_cat (pe_comp rfl (compScope (osc := defScope sDn) (N := ["_law_script", "_law_start", "_law_cells", "_law_number", "_law_k", "_law_mixed"]) rfl rfl (by decide +kernel)) (pi_list (pe_slice sl_list (pv 0) po_none (po_some pe_int))) (fun _ _ _ _ => pf_nil) (fun _ _ _ _ => (pe_callB call_abs rfl T.abs PyProof.Rows.boot_abs (@pa_c _ _ _ _ _ rfl (pv 0) pa_nil)))) (@pe_lst _ _ _ _ (@pa_c _ _ _ _ _ rfl pe_int pa_nil))) (by kernel_rfl) (.inl rfl))
      (@pss_cons _ _ _ _ _ (@ps_setE _ _ _ _ _ _ 3 scDn.nd rfl (Or.inl rfl) (pv 1) (by kernel_rfl) (.inl rfl))
      (@pss_cons _ _ _ _ _ (ps_for PassesOwn.never rfl (pi_range1 rfl T.range (@pa_c _ _ _ _ _ rfl (pe_callB call_len_seq rfl T.len PySem.boot_len (@pa_c _ _ _ _ _ rfl (pv 2) pa_nil)) pa_nil)) (pg_name (i := 4) scDn.nd rfl (Or.inl rfl)) (@pss_one _ _ _ (@ps_setE _ _ _ _ _ _ 3 scDn.nd rfl (Or.inl rfl) (pe_op op_mod (pe_op op_add (pe_op op_add (pe_op op_mul (pv 3) pe_int) (pe_op op_mul (pe_op op_mod (@pe_ix _ _ _ _ _ _ _ ix_list (pv 2) (pv 4) (fun _ _ => rfl)) pe_int) (pe_op op_add (pe_op op_mul (pv 4) (pv 4)) pe_int))) pe_int) pe_int) (by kernel_rfl) (.inl rfl))))
      (@pss_cons _ _ _ _ _ (@ps_setE _ _ _ _ _ _ 5 scDn.nd rfl (Or.inl rfl) (pe_op op_mul (pe_op op_mod (@pe_ix _ _ _ _ _ _ _ ix_list (pv 2) pe_int (fun _ _ => rfl)) pe_int) (pe_callB call_len_seq rfl T.len PySem.boot_len (@pa_c _ _ _ _ _ rfl (pv 2) pa_nil))) (by kernel_rfl) (.inl rfl))
      (@pss_cons _ _ _ _ _ (ps_asg (pe_op op_fdiv (@pe_ix _ _ _ _ _ _ _ ix_list (pv 2) pe_int (fun _ _ => rfl)) pe_int) (pg_sub (pv 2) pe_int set_list))
      (@pss_one _ _ _ (@ps_ret _ _ _ _ (@pe_lst _ _ _ _ (@pa_c _ _ _ _ _ rfl (pv 2) (@pa_c _ _ _ _ _ rfl (pv 5) (@pa_c _ _ _ _ _ rfl (pv 3) (@pa_c _ _ _ _ _ rfl pe_int pa_nil)))))))))))), ?_⟩
    refine ⟨_, rfl, _, rfl, a, _, rfl, hS, fun p1 hp1 => ?_⟩
    obtain ⟨ms, em, hm⟩ := cut_ints ns none (some 63)
    rw [em]
    have s1 := same_upd (o := HO.lst (ms.map V.int)) hp1
    have l1 : SqL K (upd H p1 (HO.lst (ms.map V.int))) p1 (ms.map V.int) := .inl (.inl upd_same)
    generalize upd H p1 (HO.lst (ms.map V.int)) = H1 at s1 l1 ⊢
    refine ⟨p1, rfl, ⟨_, l1⟩, comp_sq (K := K) (xs := ms.map V.int) (fun _ => true) (fun v => match v with | .int i => .int (if i < 0 then -i else i) | x => x) l1 (small1000 (by simp; omega)) (fun x hx H' hs R k => k H' (Same.refl H')) (fun x hx _ H' hs R k => ?_) (fun D H2 hD hs hl => ?_)⟩
    · obtain ⟨i, _, rfl⟩ := List.mem_map.mp hx
      exact ⟨_, rfl, i, rfl, k H' (Same.refl H')⟩
    rw [List.filter_eq_self.mpr (fun _ _ => rfl), List.map_map] at hl
    have hl' : H2 D = some (.lst ((ms.map fun i => if i < 0 then -i else i).map V.int)) := by rw [hl, List.map_map]; rfl
    clear hl
    have hnn : ∀ c ∈ ms.map (fun i : Int => if i < 0 then -i else i), (0 : Int) ≤ c := fun c hc => by
      obtain ⟨i, _, rfl⟩ := List.mem_map.mp hc
      exact absl
    have hml : (ms.map fun i : Int => if i < 0 then -i else i).length ≤ 63 := by rw [List.length_map]; omega
    generalize (ms.map fun i : Int => if i < 0 then -i else i) = as at hl' hnn hml
    refine ⟨by show 1 ≤ sizeLine; decide, fun p3 hp3 => ?_⟩
    have s3 := same_upd (o := HO.lst [V.int 0]) hp3
    have l3 : upd H2 p3 (HO.lst [V.int 0]) p3 = some (.lst [V.int 0]) := upd_same
    generalize upd H2 p3 (HO.lst [V.int 0]) = H3 at s3 l3 ⊢
    refine ⟨D, p3, _, _, rfl, rfl, s3 _ _ hl', l3, line20 (by simp; omega), fun pc hpc => ?_⟩
    have s4 := same_upd (o := HO.lst (as.map V.int ++ [V.int 0])) hpc
    have l4 : upd H3 pc (HO.lst (as.map V.int ++ [V.int 0])) pc = some (.lst ((as ++ [0]).map V.int)) := by rw [upd_same, List.map_append]; rfl
    have hn4 : ∀ c ∈ as ++ [0], (0 : Int) ≤ c := fun c hc => by
      rcases List.mem_append.mp hc with h | h
      · exact hnn c h
      · rw [List.mem_singleton.mp h]; exact Int.le_refl _
    have hl4 : 0 < (as ++ [0]).length ∧ (as ++ [(0 : Int)]).length ≤ 64 := by rw [List.length_append, List.length_singleton]; omega
    have hfree : H pc = none := (s1.trans (hs.trans s3)).free hpc
    have s04 := s1.trans (hs.trans (s3.trans s4))
    generalize upd H3 pc (HO.lst (as.map V.int ++ [V.int 0])) = H4 at s4 l4 s04 ⊢
    generalize as ++ [0] = cs at l4 hn4 hl4
    clear s1 l1 hl' hnn hml s3 l3 s4 hpc hp3 hp1 hD hs
    have qc : SqL K H4 pc (cs.map V.int) := .inl (.inl l4)
    have hlen : (cs.map V.int).length = cs.length := List.length_map ..
    refine ⟨_, rfl, ?_⟩
    refine ⟨_, rfl, pc, _, rfl, .inl qc, _, rfl, by omega, by omega, for_range (lo := 0) (n := (((cs.map V.int).length : Nat) : Int).toNat) (fun i σ H5 => H5 = H4 ∧ ∃ (num : Int) (v4 : Option V), 0 ≤ num ∧ num < 2147483647 ∧ σ = [some (.ref a), some (.int st), some (.ref pc), some (.int num), v4, none]) ⟨rfl, st, none, h0, h1, rfl⟩ ?_ ?_⟩
    · rintro i σ H5 hi ⟨rfl, num, v4, hn0, hn1, rfl⟩
      obtain ⟨c, _, hc, hat⟩ := ints_at (ns := cs) (i := (0 : Int) + (i : Int)) (by omega) (by omega)
      have c0 : 0 ≤ c % 2147483647 ∧ c % 2147483647 < 2147483647 := ⟨Int.emod_nonneg _ (by decide), Int.emod_lt_of_pos _ (by decide)⟩
      refine ⟨_, rfl, _, _, rfl, rfl, .inr ⟨by decide, by decide⟩, _, rfl, _, rfl, pc, _, _, _, rfl, rfl, qc, hat, _, _, rfl, rfl, (by show (0 : Int) < 2147483647; decide), _, rfl, _, rfl, _, _, rfl, rfl, .inl ⟨by omega, by omega⟩, _, _, rfl, rfl, _, _, rfl, rfl, .inl ⟨by omega, by omega⟩, _, _, rfl, rfl, _, _, rfl, rfl, _, _, rfl, rfl, (by show (0 : Int) < 2147483629; decide), ?_⟩
      refine ⟨rfl, _, _, Int.emod_nonneg _ (by decide), ?_, rfl⟩
      exact Int.lt_trans (Int.emod_lt_of_pos _ (by decide)) (by decide)
    · rintro σ H5 ⟨rfl, num, v4, hn0, hn1, rfl⟩
      obtain ⟨c, ec, hc, hat⟩ := ints_at (ns := cs) (i := 0) (by decide) (by omega)
      have m2 : 0 ≤ c % 2 ∧ c % 2 < 2 := ⟨Int.emod_nonneg _ (by decide), Int.emod_lt_of_pos _ (by decide)⟩
      refine ⟨_, rfl, pc, _, _, _, rfl, rfl, qc, hat, _, _, rfl, rfl, (by show (0 : Int) < 2; decide), _, rfl, pc, _, rfl, .inl qc, _, _, rfl, rfl, .inl ⟨by omega, by omega⟩, ?_⟩
      have hmx : 0 ≤ c % 2 * ((cs.map V.int).length : Int) ∧ c % 2 * ((cs.map V.int).length : Int) ≤ cs.length := by
        rw [hlen]
        have : c % 2 = 0 ∨ c % 2 = 1 := by omega
        rcases this with e | e <;> rw [e] <;> omega
      show gName 5 (V.int (c % 2 * ((cs.map V.int).length : Int))) _ _ _
      generalize c % 2 * ((cs.map V.int).length : Int) = mx at hmx
      refine ⟨_, rfl, pc, _, _, _, rfl, rfl, qc, hat, _, _, rfl, rfl, ⟨by decide, by decide⟩, _, rfl, pc, _, 0, 0, rfl, rfl, l4, ixN_of (by decide) (by omega), ?_⟩
      have e5 : ((cs.map V.int).set 0 (V.int (c / 2))) = (cs.set 0 (c / 2)).map V.int := by rw [List.map_set]
      have l5 : upd H5 pc (HO.lst ((cs.map V.int).set 0 (V.int (c / 2)))) pc = some (.lst ((cs.set 0 (c / 2)).map V.int)) := by rw [upd_same, e5]
      have s5 : Same H (upd H5 pc (HO.lst ((cs.map V.int).set 0 (V.int (c / 2))))) := fun b o e => by rw [upd_ne (ne_of_none e hfree)]; exact s04 b o e
      generalize upd H5 pc (HO.lst ((cs.map V.int).set 0 (V.int (c / 2)))) = H6 at l5 s5 ⊢
      refine ⟨_, rfl, _, rfl, _, rfl, by show 4 ≤ sizeLine; decide, fun dh hdh => ?_⟩
      refine q dh pc _ (s5.free hdh) hfree (s5.trans (same_upd hdh)) ?_
      refine ⟨cs.set 0 (c / 2), mx, num, upd_same, ?_, ?_, ?_, hmx.1, by rw [List.length_set]; exact hmx.2, hn0, hn1, by rw [List.length_set]; exact hl4.2⟩
      · rw [upd_ne (ne_of_none l5 hdh)]
        exact l5
      · intro e
        rw [e, l5] at hdh
        cases hdh
      · intro x hx
        rcases List.mem_or_eq_of_mem_set hx with h | h
        · exact hn4 x h
        · rw [h]
          have := hn4 c hc
          omega
theorem scDr : FnScope ["_law_drawn_here", "_law_many", "_law_cells", "_law_turn", "_law_digit"] ["_law_drawn_here", "_law_many"] (defScope sDr) := ⟨rfl, rfl, rfl, by decide +kernel, rfl, by decide +kernel, by decide +kernel⟩
theorem ok_Dr (N : Fns K mg fGt fCo fFi fWl fLc fCa fLw fDn fDr fDg fPu fCp fSt dGt dCo dFi dWl dLc dCa dLw dDn dDr dDg dPu dCp dSt) (T : Txt K mg) : FnOk P w K mg base CX0 1 fDr dDr ["_law_drawn_here", "_law_many"] spDr := by
  refine N.FDr.ok scDr (fun vs H Q E h => ?_) (fun cdv A outer s H vs Q E hr h => ?_)
  · obtain ⟨dh, pc, n, many, rfl, _⟩ := h
    rfl
  · obtain ⟨dh, pc, n, many, rfl, ⟨cs, m, r, hd, hp, ne, hn, hm0, hm1, hr0, hr1, hl⟩, hnn, hma, hmb, q⟩ := h
    refine ⟨_, (@pss_cons _ _ _ _ _ (@ps_setE _ _ _ _ _ _ 2 scDr.nd rfl (Or.inl rfl) (@pe_ix _ _ _ _ _ _ _ ix_list (pv 0) pe_int (fun _ _ => rfl)) (by kernel_rfl) (.inl rfl))
      (@pss_cons _ _ _ _ _ (ps_asg (pe_op op_add (@pe_ix _ _ _ _ _ _ _ ix_list (pv 0) pe_int (fun _ _ => rfl)) pe_int) (pg_sub (pv 0) pe_int set_list))
      (@pss_cons _ _ _ _ _ (ps_while PassesOwn.never (PW.pt (pw_and (pt_cmpR op_lt (@pe_ix _ _ _ _ _ _ _ ix_list (pv 0) pe_int (fun _ _ => rfl)) (pe_callB call_len_seq rfl T.len PySem.boot_len (@pa_c _ _ _ _ _ rfl (pv 2) pa_nil)) (nomark _)) (pw_and1 (pt_cmpR op_eq (@pe_ix _ _ _ _ _ _ _ ix_list (pv 2) (@pe_ix _ _ _ _ _ _ _ ix_list (pv 0) pe_int (fun _ _ => rfl)) (fun _ _ => rfl)) pe_int (nomark _))))) (@pss_one _ _ _ (ps_asg (pe_op op_add (@pe_ix _ _ _ _ _ _ _ ix_list (pv 0) pe_int (fun _ _ => rfl)) pe_int) (pg_sub (pv 0) pe_int set_list))))
      (@pss_cons _ _ _ _ _ (@ps_if _ _ _ _ _ _ _ _ (pt_cmpR op_eq (@pe_ix _ _ _ _ _ _ _ ix_list (pv 0) pe_int (fun _ _ => rfl)) (pe_callB call_len_seq rfl T.len PySem.boot_len (@pa_c _ _ _ _ _ rfl (pv 2) pa_nil)) (nomark _)) (@pss_cons _ _ _ _ _ (@ps_setE _ _ _ _ _ _ 3 scDr.nd rfl (Or.inl rfl) (@pe_ix _ _ _ _ _ _ _ ix_list (pv 0) pe_int (fun _ _ => rfl)) (by kernel_rfl) (.inl rfl))
      (@pss_cons _ _ _ _ _ (ps_asg (pe_op op_mod (pe_op op_add (pe_op op_add (pe_op op_mul (@pe_ix _ _ _ _ _ _ _ ix_list (pv 0) pe_int (fun _ _ => rfl)) pe_int) (pe_op op_mul (pe_op op_mul (pv 3) (pv 3)) (pv 3))) pe_int) pe_int) (pg_sub (pv 0) pe_int set_list))
      (@pss_one _ _ _ (@ps_ret _ _ _ _ (pe_op op_mod (pe_op op_fdiv (pe_op op_mod (pe_op op_mul (@pe_ix _ _ _ _ _ _ _ ix_list (pv 0) pe_int (fun _ _ => rfl)) (@pe_ix _ _ _ _ _ _ _ ix_list (pv 0) pe_int (fun _ _ => rfl))) pe_int) pe_int) (pv 1)))))) pss_nil)
      (@pss_cons _ _ _ _ _ (@ps_setE _ _ _ _ _ _ 4 scDr.nd rfl (Or.inl rfl) (pe_op op_mod (@pe_ix _ _ _ _ _ _ _ ix_list (pv 2) (@pe_ix _ _ _ _ _ _ _ ix_list (pv 0) pe_int (fun _ _ => rfl)) (fun _ _ => rfl)) (pv 1)) (by kernel_rfl) (.inl rfl))
      (@pss_cons _ _ _ _ _ (ps_asg (pe_op op_fdiv (@pe_ix _ _ _ _ _ _ _ ix_list (pv 2) (@pe_ix _ _ _ _ _ _ _ ix_list (pv 0) pe_int (fun _ _ => rfl)) (fun _ _ => rfl)) (pv 1)) (pg_sub (pv 2) (@pe_ix _ _ _ _ _ _ _ ix_list (pv 0) pe_int (fun _ _ => rfl)) set_list))
      (@pss_one _ _ _ (@ps_ret _ _ _ _ (pv 4))))))))), ?_⟩
    have qd : SqL K H dh _ := .inl (.inl hd)
    refine ⟨_, rfl, dh, _, _, _, rfl, rfl, qd, atI_nat (j := 0) rfl, ?_⟩
    refine ⟨_, rfl, dh, _, _, _, rfl, rfl, qd, atI_nat (j := 3) rfl, _, _, rfl, rfl, _, rfl, dh, _, 3, 3, rfl, rfl, hd, rfl, ?_⟩
    have d1 : upd H dh (HO.lst ([V.ref pc, V.int m, V.int r, V.int (n : Int)].set 3 (V.int ((n : Int) + 1)))) dh = some (.lst [V.ref pc, V.int m, V.int r, V.int ((n + 1 : Nat) : Int)]) := upd_same
    have f1 : Fr2 H (upd H dh (HO.lst ([V.ref pc, V.int m, V.int r, V.int (n : Int)].set 3 (V.int ((n : Int) + 1))))) dh pc := fun b h1 h2 => upd_ne h1
    have p1 : upd H dh (HO.lst ([V.ref pc, V.int m, V.int r, V.int (n : Int)].set 3 (V.int ((n : Int) + 1)))) pc = some (.lst (cs.map V.int)) := by rw [upd_ne (Ne.symm ne)]; exact hp
    generalize upd H dh (HO.lst ([V.ref pc, V.int m, V.int r, V.int (n : Int)].set 3 (V.int ((n : Int) + 1)))) = H1 at d1 f1 p1 ⊢
    refine go_while ?_
    have hlen : (cs.map V.int).length = cs.length := List.length_map ..
    refine while_by (fun σ H4 => σ = [some (.ref dh), some (.int many), some (.ref pc), none, none] ∧ ∃ m, 0 ≤ m ∧ m ≤ (cs.length : Int) ∧ H4 dh = some (.lst [V.ref pc, V.int m, V.int r, V.int ((n + 1 : Nat) : Int)]) ∧ H4 pc = some (.lst (cs.map V.int)) ∧ Fr2 H H4 dh pc)
      (fun _ H4 => match H4 dh with | some (.lst [_, .int m, _, _]) => ((cs.length : Int) - m).toNat | _ => 0) ⟨rfl, m, hm0, hm1, d1, p1, f1⟩ ?_ ?_
    · rintro σ H4 ⟨rfl, m, hm0, hm1, d4, p4, f4⟩
      have qd : SqL K H4 dh _ := .inl (.inl d4)
      have qc : SqL K H4 pc _ := .inl (.inl p4)
      refine ⟨_, rfl, dh, _, _, _, rfl, rfl, qd, atI_nat (j := 1) rfl, _, rfl, pc, _, rfl, .inl qc, _, _, rfl, rfl, _, rfl, ?_⟩
      refine ite2 (fun h1 => ?_) (fun h1 => ?_)
      · have h1' : m < cs.length := by have := of_decide_eq_true h1; omega
        obtain ⟨c, ec, hc, hat⟩ := ints_at (ns := cs) (i := m) hm0 h1'
        refine ⟨_, rfl, _, rfl, dh, _, _, _, rfl, rfl, qd, atI_nat (j := 1) rfl, pc, _, _, _, rfl, rfl, qc, hat, rfl, _, rfl, ?_⟩
        refine ite2 (fun h2 => ?_) (fun h2 => ?_)
        · refine ⟨_, rfl, dh, _, _, _, rfl, rfl, qd, atI_nat (j := 1) rfl, _, _, rfl, rfl, _, rfl, dh, _, 1, 1, rfl, rfl, d4, rfl, ?_⟩
          have d5 : upd H4 dh (HO.lst ([V.ref pc, V.int m, V.int r, V.int ((n + 1 : Nat) : Int)].set 1 (V.int (m + 1)))) dh = some (.lst [V.ref pc, V.int (m + 1), V.int r, V.int ((n + 1 : Nat) : Int)]) := upd_same
          refine ⟨⟨rfl, m + 1, by omega, by omega, d5, by rw [upd_ne (Ne.symm ne)]; exact p4, fun b h3 h4 => by rw [upd_ne h3]; exact f4 b h3 h4⟩, ?_⟩
          dsimp only
          rw [d4, d5]
          show ((cs.length : Int) - (m + 1)).toNat < ((cs.length : Int) - m).toNat
          omega
        · have hcz : c ≠ 0 := fun z => h2 (by rw [z]; rfl)
          refine ⟨_, rfl, dh, _, _, _, rfl, rfl, qd, atI_nat (j := 1) rfl, _, rfl, pc, _, rfl, .inl qc, rfl, _, rfl, ?_⟩
          refine ite2 (fun h3 => ?_) (fun h3 => ?_)
          · have h3' : V.int m = V.int ((cs.map V.int).length : Int) := of_decide_eq_true h3
            have := V.int.inj h3'
            omega
          · refine ⟨_, rfl, _, rfl, dh, _, _, _, rfl, rfl, qd, atI_nat (j := 1) rfl, pc, _, _, _, rfl, rfl, qc, hat, _, rfl, _, _, rfl, rfl, hma, ?_⟩
            refine ⟨_, rfl, _, rfl, dh, _, _, _, rfl, rfl, qd, atI_nat (j := 1) rfl, pc, _, _, _, rfl, rfl, qc, hat, _, rfl, _, _, rfl, rfl, ⟨hma, hmb⟩, _, rfl, _, rfl, dh, _, _, _, rfl, rfl, qd, atI_nat (j := 1) rfl, pc, _, _, m.toNat, rfl, rfl, p4, ixN_of hm0 (by omega), ?_⟩
            have l5 : upd H4 pc (HO.lst ((cs.map V.int).set m.toNat (V.int (c / many)))) pc = some (.lst ((cs.set m.toNat (c / many)).map V.int)) := by rw [upd_same, List.map_set]
            refine ⟨_, rfl, q (c % many) _ (Int.emod_nonneg _ (by omega)) (Int.emod_lt_of_pos _ hma) ⟨cs.set m.toNat (c / many), m, r, by rw [upd_ne ne]; exact d4, l5, ne, fun x hx => ?_, hm0, by rw [List.length_set]; omega, hr0, hr1, by rw [List.length_set]; exact hl⟩ (fun b h3 h4 => by rw [upd_ne h4]; exact f4 b h3 h4)⟩
            rcases List.mem_or_eq_of_mem_set hx with h | h
            · exact hn x h
            · rw [h]
              exact Int.ediv_nonneg (hn c hc) (by omega)
      · have h1' : ¬ m < cs.length := fun z => h1 (decide_eq_true (by omega))
        have em : m = ((cs.map V.int).length : Int) := by omega
        refine ⟨_, rfl, dh, _, _, _, rfl, rfl, qd, atI_nat (j := 1) rfl, _, rfl, pc, _, rfl, .inl qc, rfl, _, rfl, ?_⟩
        refine ite2 (fun h3 => ?_) (fun h3 => absurd (decide_eq_true (by rw [em])) h3)
        refine ⟨_, rfl, dh, _, _, _, rfl, rfl, qd, atI_nat (j := 3) rfl, ?_⟩
        refine ⟨_, rfl, dh, _, _, _, rfl, rfl, qd, atI_nat (j := 2) rfl, _, _, rfl, rfl, .inr ⟨by decide, by decide⟩, _, rfl, _, rfl, _, _, rfl, rfl, .inl ⟨by omega, by omega⟩, _, rfl, _, _, rfl, rfl, .inr ⟨by omega, by omega⟩, _, _, rfl, rfl, _, _, rfl, rfl, _, _, rfl, rfl, (by show (0 : Int) < 2147483647; decide), _, rfl, dh, _, 2, 2, rfl, rfl, d4, rfl, ?_⟩
        dsimp only
        have hb0 := Int.emod_nonneg (r * 48271 + ((n + 1 : Nat) : Int) * ((n + 1 : Nat) : Int) * ((n + 1 : Nat) : Int) + 1) (show (2147483647 : Int) ≠ 0 by decide)
        have hb1 := Int.emod_lt_of_pos (r * 48271 + ((n + 1 : Nat) : Int) * ((n + 1 : Nat) : Int) * ((n + 1 : Nat) : Int) + 1) (show (0 : Int) < 2147483647 by decide)
        generalize (r * 48271 + ((n + 1 : Nat) : Int) * ((n + 1 : Nat) : Int) * ((n + 1 : Nat) : Int) + 1) % 2147483647 = r2 at hb0 hb1 ⊢
        have d5 : upd H4 dh (HO.lst ([V.ref pc, V.int m, V.int r, V.int ((n + 1 : Nat) : Int)].set 2 (V.int r2))) dh = some (.lst [V.ref pc, V.int m, V.int r2, V.int ((n + 1 : Nat) : Int)]) := upd_same
        have p5 : upd H4 dh (HO.lst ([V.ref pc, V.int m, V.int r, V.int ((n + 1 : Nat) : Int)].set 2 (V.int r2))) pc = some (.lst (cs.map V.int)) := by rw [upd_ne (Ne.symm ne)]; exact p4
        have f5 : Fr2 H (upd H4 dh (HO.lst ([V.ref pc, V.int m, V.int r, V.int ((n + 1 : Nat) : Int)].set 2 (V.int r2)))) dh pc := fun b h3 h4 => by rw [upd_ne h3]; exact f4 b h3 h4
        generalize upd H4 dh (HO.lst ([V.ref pc, V.int m, V.int r, V.int ((n + 1 : Nat) : Int)].set 2 (V.int r2))) = H5 at d5 p5 f5 ⊢
        have qd5 : SqL K H5 dh _ := .inl (.inl d5)
        refine ⟨_, rfl, dh, _, _, _, rfl, rfl, qd5, atI_nat (j := 2) rfl, _, rfl, dh, _, _, _, rfl, rfl, qd5, atI_nat (j := 2) rfl, _, _, rfl, rfl, .inl ⟨by omega, by omega⟩, _, _, rfl, rfl, (by show (0 : Int) < 2147483629; decide), _, _, rfl, rfl, ⟨by decide, by decide⟩, _, rfl, _, _, rfl, rfl, hma, ?_⟩
        exact q _ _ (Int.emod_nonneg _ (by omega)) (Int.emod_lt_of_pos _ hma) ⟨cs, m, r2, d5, p5, ne, hn, hm0, hm1, hb0, hb1, hl⟩ f5
    · rintro σ H4 Q1 Q2 hq ⟨v, e1, p, xs, i, z, e2, e3, hs, ha, v2, e4, p2, ys, e5, hy, i2, j2, e6, e7, k, e8, hh⟩
      refine ⟨v, e1, p, xs, i, z, e2, e3, hs, ha, v2, e4, p2, ys, e5, hy, i2, j2, e6, e7, k, e8, ?_⟩
      cases k with
      | false =>
        rw [if_neg Bool.false_ne_true] at hh
        exact iteF (hq _ _ hh)
      | true =>
        rw [if_pos rfl] at hh
        obtain ⟨v3, f1, v4, f2, p3, xs3, i3, z3, f3, f4, hs3, ha3, p4, xs4, i4, z4, f5, f6, hs4, ha4, f7, k2, f8, hQ⟩ := hh
        exact iteT ⟨v3, f1, v4, f2, p3, xs3, i3, z3, f3, f4, hs3, ha3, p4, xs4, i4, z4, f5, f6, hs4, ha4, f7, k2, f8, hq _ _ hQ⟩
theorem bd_snoc {d : Dr} {x : Tr} (h : Bd d) (hx : 0 ≤ x.2.2 ∧ x.2.2 < 2 ^ 41 ∧ x.2.1 - x.1 < 2 ^ 35) : Bd (d ++ [x]) := fun y hy => by
  rcases List.mem_append.mp hy with h1 | h1
  · exact h y h1
  · rw [List.mem_singleton.mp h1]; exact hx
theorem scDg : FnScope ["_law_script", "_law_start", "_law_far", "_law_drawn_here", "_law_found", "_law_tick", "_law_wind", "_law_k", "_law_more", "_law_long"] ["_law_script", "_law_start", "_law_far"] (defScope sDg) := ⟨rfl, rfl, rfl, by decide +kernel, rfl, by decide +kernel, by decide +kernel⟩
theorem ok_Dg (N : Fns K mg fGt fCo fFi fWl fLc fCa fLw fDn fDr fDg fPu fCp fSt dGt dCo dFi dWl dLc dCa dLw dDn dDr dDg dPu dCp dSt) (T : Txt K mg) : FnOk P w K mg base CX0 2 fDg dDg ["_law_script", "_law_start", "_law_far"] (spDg K) := by
  have GDn : FnOk P w K mg base CX0 1 fDn dDn ["_law_script", "_law_start"] (spDn K) := ok_Dn N T
  have GDr : FnOk P w K mg base CX0 1 fDr dDr ["_law_drawn_here", "_law_many"] spDr := ok_Dr N T
  refine N.FDg.ok scDg (fun vs H Q E h => ?_) (fun cdv A outer s H vs Q E hr h => ?_)
  · obtain ⟨a, st, far, ns, rfl, _⟩ := h
    rfl
  · obtain ⟨a, st, far, ns, rfl, hS, hz, q⟩ := h
    have hrDn : Room 1 _ := hr.mono (by decide)
    have hrDr : Room 1 _ := hr.mono (by decide)
    refine ⟨_, (@pss_cons _ _ _ _ _ (@ps_setE _ _ _ _ _ _ 3 scDg.nd rfl (Or.inl rfl) (pe_call GDn hrDn rfl N.mDn N.FDn.kp N.bDn .nil pass0 (@pa_c _ _ _ _ _ rfl (pe_slice sl_list (pv 0) (po_some (pv 1)) po_none) (@pa_c _ _ _ _ _ rfl pe_int pa_nil))) (by kernel_rfl) (.inl rfl))
      (@pss_cons _ _ _ _ _ (@ps_setE _ _ _ _ _ _ 4 scDg.nd rfl (Or.inl rfl) (@pe_lst _ _ _ _ pa_nil) (by kernel_rfl) (.inl rfl))
      (@pss_cons _ _ _ _ _ (@ps_setE _ _ _ _ _ _ 5 scDg.nd rfl (Or.inl rfl) pe_int (by kernel_rfl) (.inl rfl))
      (@pss_cons _ _ _ _ _ (@ps_setE _ _ _ _ _ _ 6 scDg.nd rfl (Or.inl rfl) (pe_un un_neg pe_int) (by kernel_rfl) (.inl rfl))
      (@pss_cons _ _ _ _ _ (ps_for PassesOwn.never rfl (pi_range1 rfl T.range (@pa_c _ _ _ _ _ rfl (pe_op op_add pe_int (pe_call GDr hrDr rfl N.mDr N.FDr.kp N.bDr .nil pass0 (@pa_c _ _ _ _ _ rfl (pv 3) (@pa_c _ _ _ _ _ rfl pe_int pa_nil)))) pa_nil)) (pg_name (i := 7) scDg.nd rfl (Or.inl rfl)) (@pss_cons _ _ _ _ _ (@ps_setE _ _ _ _ _ _ 8 scDg.nd rfl (Or.inl rfl) (pe_call GDr hrDr rfl N.mDr N.FDr.kp N.bDr .nil pass0 (@pa_c _ _ _ _ _ rfl (pv 3) (@pa_c _ _ _ _ _ rfl pe_int pa_nil))) (by kernel_rfl) (.inl rfl))
      (@pss_cons _ _ _ _ _ (@ps_setE _ _ _ _ _ _ 9 scDg.nd rfl (Or.inl rfl) (pe_op op_add pe_int (pe_call GDr hrDr rfl N.mDr N.FDr.kp N.bDr .nil pass0 (@pa_c _ _ _ _ _ rfl (pv 3) (@pa_c _ _ _ _ _ rfl pe_int pa_nil)))) (by kernel_rfl) (.inl rfl))
      (@pss_cons _ _ _ _ _ (@ps_if _ _ _ _ _ _ _ _ (PW.pt (pw_and (pt_val (pv 2)) (pw_and1 (pt_cmpR op_gt (pe_call GDr hrDr rfl N.mDr N.FDr.kp N.bDr .nil pass0 (@pa_c _ _ _ _ _ rfl (pv 3) (@pa_c _ _ _ _ _ rfl pe_int pa_nil))) pe_int (nomark _))))) (@pss_cons _ _ _ _ _ (@ps_setE _ _ _ _ _ _ 8 scDg.nd rfl (Or.inl rfl) (pe_op op_mul (pe_call GDr hrDr rfl N.mDr N.FDr.kp N.bDr .nil pass0 (@pa_c _ _ _ _ _ rfl (pv 3) (@pa_c _ _ _ _ _ rfl pe_int pa_nil))) pe_int) (by kernel_rfl) (.inl rfl))
      (@pss_one _ _ _ (@ps_setE _ _ _ _ _ _ 9 scDg.nd rfl (Or.inl rfl) (pe_op op_add pe_int (pe_op op_mul (pe_call GDr hrDr rfl N.mDr N.FDr.kp N.bDr .nil pass0 (@pa_c _ _ _ _ _ rfl (pv 3) (@pa_c _ _ _ _ _ rfl pe_int pa_nil))) pe_int)) (by kernel_rfl) (.inl rfl)))) pss_nil)
      (@pss_cons _ _ _ _ _ (@ps_if _ _ _ _ _ _ _ _ (pt_cmpR op_eq (pv 8) (pv 6) (nomark _)) (@pss_one _ _ _ (@ps_setE _ _ _ _ _ _ 8 scDg.nd rfl (Or.inl rfl) (pe_op op_add (pv 8) pe_int) (by kernel_rfl) (.inl rfl))) pss_nil)
      (@pss_cons _ _ _ _ _ (@ps_setE _ _ _ _ _ _ 6 scDg.nd rfl (Or.inl rfl) (pv 8) (by kernel_rfl) (.inl rfl))
      (@pss_cons _ _ _ _ _ (ps_expr (pe_bm PySem.F.plainAttrs_list PySem.F.slot_list_append PySem.F.type_list_append mt_append (pv 4) (@pa_c _ _ _ _ _ rfl (@pe_tup _ _ _ _ _ (@pa_c _ _ _ _ _ rfl (pv 5) (@pa_c _ _ _ _ _ rfl (pe_op op_add (pv 5) (pv 9)) (@pa_c _ _ _ _ _ rfl (pv 6) pa_nil)))) pa_nil)))
      (@pss_one _ _ _ (@ps_setE _ _ _ _ _ _ 5 scDg.nd rfl (Or.inl rfl) (pe_op op_add (pv 5) (pv 9)) (by kernel_rfl) (.inl rfl))))))))))
      (@pss_one _ _ _ (@ps_ret _ _ _ _ (pv 4)))))))), ?_⟩
    refine ⟨_, rfl, _, rfl, _, rfl, a, _, rfl, hS, fun p1 hp1 => ?_⟩
    obtain ⟨ms, em, hm⟩ := cut_ints ns (some (st : Nat)) none
    rw [em]
    have s1 := same_upd (o := HO.lst (ms.map V.int)) hp1
    have l1 : SqL K (upd H p1 (HO.lst (ms.map V.int))) p1 (ms.map V.int) := .inl (.inl upd_same)
    generalize upd H p1 (HO.lst (ms.map V.int)) = H1 at s1 l1 ⊢
    refine ⟨p1, 53, ms, rfl, l1, by decide, by decide, by omega, fun dh pc H2 hd hp s2 D2 => ?_⟩
    have hd0 := s1.free hd
    have hp0 := s1.free hp
    have s02 := s1.trans s2
    clear hd hp s1 s2 l1 hp1
    refine ⟨Nat.zero_le _, fun l hl => ?_⟩
    have s3 := same_upd (o := HO.lst []) hl
    have l3 : upd H2 l (HO.lst []) l = some (.lst []) := upd_same
    have hl0 : H l = none := s02.free hl
    have D3 : DH (upd H2 l (HO.lst [])) dh pc 0 := by
      obtain ⟨cs, m, r, e1, e2, e3⟩ := D2
      exact ⟨cs, m, r, s3 _ _ e1, s3 _ _ e2, e3⟩
    have nl : l ≠ dh ∧ l ≠ pc := by
      obtain ⟨cs, m, r, e1, e2, e3⟩ := D2
      exact ⟨Ne.symm (ne_of_none e1 hl), Ne.symm (ne_of_none e2 hl)⟩
    have s03 := s02.trans s3
    generalize upd H2 l (HO.lst []) = H3 at s3 l3 D3 s03 ⊢
    clear D2 hl s3 s02
    refine ⟨_, rfl, _, rfl, dh, pc, 0, 20, rfl, D3, by decide, by decide, by decide, fun r H4 r0 r1 D4 f4 => ⟨_, _, rfl, rfl, _, rfl, by omega, by omega, ?_⟩⟩
    have s04 := f4.same s03 hd0 hp0
    have l4 : H4 l = some (.lst []) := by rw [f4 l nl.1 nl.2]; exact l3
    refine for_range (lo := 0) (n := (1 + r).toNat) (fun i σ H5 => ∃ (d : Dr) (ys : List V) (tick wd : Int) (n : Nat) (v7 v8 v9 : Option V), σ = [some (.ref a), some (.int (st : Nat)), some (.bl far), some (.ref dh), some (.ref l), some (.int tick), some (.int wd), v7, v8, v9] ∧ Same H H5 ∧ DrAt H5 l d ys ∧ Chain 0 d ∧ tick = ((tk 0 d).length : Int) ∧ d.length = i ∧ Bd d ∧ (far = false → ∀ x ∈ d, x.2.1 - x.1 ≤ 4 ∧ x.2.2 ≤ 10) ∧ DH H5 dh pc n ∧ n ≤ 1 + 5 * i) ?_ ?_ ?_
    · exact ⟨[], [], 0, -1, 1, none, none, none, rfl, s04, ⟨l4, .nil⟩, trivial, rfl, rfl, fun _ h => absurd h (List.not_mem_nil), fun _ _ h => absurd h (List.not_mem_nil), D4, by omega⟩
    · rintro i σ H5 hi ⟨d, ys, tick, wd, n, v7, v8, v9, rfl, s5, A5, c5, rfl, hdl, bd, bs, D5, hn⟩
      refine ⟨_, rfl, dh, pc, n, 10, rfl, D5, by omega, by decide, by decide, fun m1 H6 m10 m11 D6 f6 => ?_⟩
      refine ⟨_, rfl, dh, pc, n + 1, 4, rfl, D6, by omega, by decide, by decide, fun g1 H7 g10 g11 D7 f7 => ⟨_, _, rfl, rfl, ?_⟩⟩
      have A7 := (A5.fr f6 D5 nl.1 nl.2).fr f7 D6 nl.1 nl.2
      have s7 := f7.same (f6.same s5 hd0 hp0) hd0 hp0
      clear f6 f7 D6 A5 D5 s5 s04 l4 f4 D4
      have e1 : 0 ≤ (2 : Int) ^ 41 := by decide
      rcases far with _ | _
      case' false =>
        refine ⟨_, rfl, _, rfl, iteF (iteF ?_)⟩
        dsimp only
        have bm : 0 ≤ m1 ∧ m1 < 1099511627776 ∧ (false = false → m1 ≤ 9) := ⟨m10, by omega, fun _ => by omega⟩
        have bl : 0 < 1 + g1 ∧ 1 + g1 < 34359738368 ∧ (false = false → 1 + g1 ≤ 4) := ⟨by omega, by omega, fun _ => by omega⟩
        have bn : n + 1 + 1 ≤ 1 + 5 * (i + 1) := by omega
        generalize n + 1 + 1 = n8 at D7 bn
        generalize m1 = more at bm ⊢
        generalize 1 + g1 = long at bl ⊢
      case' true =>
        refine ⟨_, rfl, _, rfl, iteT ⟨_, rfl, dh, pc, _, 3, rfl, D7, by omega, by decide, by decide, fun r3 H8 r30 r31 D8 f8 => ⟨_, _, rfl, rfl, _, rfl, ite2 (fun h3 => ?thn) (fun h3 => ?els)⟩⟩⟩
        case' thn =>
          have A8 := A7.fr f8 D7 nl.1 nl.2
          have s8 := f8.same s7 hd0 hp0
          refine ⟨_, rfl, dh, pc, _, 33554432, rfl, D8, by omega, by decide, by decide, fun r4 H9 r40 r41 D9 f9 => ⟨_, _, rfl, rfl, .inr ⟨by decide, by decide⟩, ?_⟩⟩
          have A9 := A8.fr f9 D8 nl.1 nl.2
          have s9 := f9.same s8 hd0 hp0
          refine ⟨_, rfl, dh, pc, _, 33554432, rfl, D9, by omega, by decide, by decide, fun r5 H10 r50 r51 D10 f10 => ⟨_, _, rfl, rfl, .inr ⟨by decide, by decide⟩, _, _, rfl, rfl, ?_⟩⟩
          dsimp only
          have A7 := A9.fr f10 D9 nl.1 nl.2
          have s7 := f10.same s9 hd0 hp0
          have D7 := D10
          clear A8 s8 A9 s9 D8 D9 D10 f8 f9 f10
          have bm : 0 ≤ r4 * 29989 ∧ r4 * 29989 < 1099511627776 ∧ (true = false → r4 * 29989 ≤ 9) := ⟨by omega, by omega, fun h => by cases h⟩
          have bl : 0 < 1 + r5 * 300 ∧ 1 + r5 * 300 < 34359738368 ∧ (true = false → 1 + r5 * 300 ≤ 4) := ⟨by omega, by omega, fun h => by cases h⟩
          have bn : n + 1 + 1 + 1 + 1 + 1 ≤ 1 + 5 * (i + 1) := by omega
          generalize n + 1 + 1 + 1 + 1 + 1 = n8 at D7 bn
          generalize r4 * 29989 = more at bm ⊢
          generalize 1 + r5 * 300 = long at bl ⊢
          generalize H10 = H7 at A7 s7 D7 ⊢
        case' els =>
          dsimp only
          have A7 := A7.fr f8 D7 nl.1 nl.2
          have s7 := f8.same s7 hd0 hp0
          have D7 := D8
          clear D8 f8
          have bm : 0 ≤ m1 ∧ m1 < 1099511627776 ∧ (true = false → m1 ≤ 9) := ⟨m10, by omega, fun h => by cases h⟩
          have bl : 0 < 1 + g1 ∧ 1 + g1 < 34359738368 ∧ (true = false → 1 + g1 ≤ 4) := ⟨by omega, by omega, fun h => by cases h⟩
          have bn : n + 1 + 1 + 1 ≤ 1 + 5 * (i + 1) := by omega
          generalize n + 1 + 1 + 1 = n8 at D7 bn
          generalize m1 = more at bm ⊢
          generalize 1 + g1 = long at bl ⊢
          generalize H8 = H7 at A7 s7 D7 ⊢
      all_goals
        refine ⟨_, rfl, _, rfl, rfl, _, rfl, ?_⟩
        refine ite2 (fun h4 => ?_) (fun h4 => ?_)
        focus
          refine ⟨_, rfl, _, _, rfl, rfl, ?_⟩
          dsimp only
          have bw : 0 ≤ more + 1 ∧ more + 1 < 1099511627777 ∧ (_ = false → more + 1 ≤ 10) := ⟨by omega, by omega, fun h => by have := bm.2.2 h; omega⟩
          generalize more + 1 = more2 at bw ⊢
        rotate_left
        focus
          have bw : 0 ≤ more ∧ more < 1099511627777 ∧ (_ = false → more ≤ 10) := ⟨by omega, by omega, fun h => by have := bm.2.2 h; omega⟩
          generalize more = more2 at bw ⊢
        all_goals
          refine ⟨_, rfl, _, rfl, .inl ⟨rfl, _, .inl (.inl A7.l)⟩, _, rfl, _, rfl, _, rfl, _, _, rfl, rfl, _, rfl, by show 3 ≤ sizeLine; decide, fun t ht => ?_⟩
          dsimp only
          have sT := same_upd (o := HO.tup [V.int ((tk 0 d).length : Int), V.int (((tk 0 d).length : Int) + long), V.int more2]) ht
          have A8 := A7.mono sT
          have D8 := D7.same sT
          have s8 := s7.trans sT
          have hT : upd H7 t (HO.tup [V.int ((tk 0 d).length : Int), V.int (((tk 0 d).length : Int) + long), V.int more2]) t = some (.tup (triV (((tk 0 d).length : Int), ((tk 0 d).length : Int) + long, more2))) := upd_same
          generalize upd H7 t (HO.tup [V.int ((tk 0 d).length : Int), V.int (((tk 0 d).length : Int) + long), V.int more2]) = H8 at A8 D8 s8 hT ⊢
          have hlen : ys.length ≤ 20 := by have := A7.len; omega
          refine ⟨l, _, _, rfl, rfl, A8.l, small1000 (by omega), _, rfl, _, rfl, _, _, rfl, rfl, ?_⟩
          refine ⟨d ++ [(((tk 0 d).length : Int), ((tk 0 d).length : Int) + long, more2)], _, _, more2, n8, _, _, _, rfl, fun b o e => by rw [upd_ne (ne_of_none e hl0)]; exact s8 b o e, A8.snoc hT, c5.snoc (by show ((tk 0 d).length : Int) = 0 + ((tk 0 d).length : Int); omega) (by show ((tk 0 d).length : Int) < ((tk 0 d).length : Int) + long; omega), ?_, by rw [List.length_append, hdl]; rfl, bd_snoc bd ⟨bw.1, by show more2 < 2 ^ 41; omega, by show ((tk 0 d).length : Int) + long - ((tk 0 d).length : Int) < 2 ^ 35; omega⟩, fun h x hx => ?_, D8.upd nl.1 nl.2, bn⟩
          · rw [tk_len_snoc]
            show _ = (((tk 0 d).length + (((tk 0 d).length : Int) + long - ((tk 0 d).length : Int)).toNat : Nat) : Int)
            omega
          · rcases List.mem_append.mp hx with h1 | h1
            · exact bs h x h1
            · rw [List.mem_singleton.mp h1]
              have := bl.2.2 h
              exact ⟨by show ((tk 0 d).length : Int) + long - ((tk 0 d).length : Int) ≤ 4; omega, bw.2.2 h⟩
    · rintro σ H5 ⟨d, ys, tick, wd, n, v7, v8, v9, rfl, s5, A5, c5, rfl, hdl, bd, bs, D5, hn⟩
      exact ⟨_, rfl, q l ys d H5 s5 A5 c5 (fun e => by rw [e] at hdl; simp at hdl; omega) (by omega) bd bs⟩
theorem scLc : FnScope ["draught", "pump", "best", "taken", "since", "first", "behind", "wind"] ["draught", "pump"] (defScope sLc) := ⟨rfl, rfl, rfl, by decide +kernel, rfl, by decide +kernel, by decide +kernel⟩
theorem ok_Lc (N : Fns K mg fGt fCo fFi fWl fLc fCa fLw fDn fDr fDg fPu fCp fSt dGt dCo dFi dWl dLc dCa dLw dDn dDr dDg dPu dCp dSt) (T : Txt K mg) : FnOk P w K mg base CX0 1 fLc dLc ["draught", "pump"] spLc := by
  refine N.FLc.ok scLc (fun vs H Q E h => ?_) (fun cdv A outer s H vs Q E hr h => ?_)
  · obtain ⟨a, d, ys, P, rfl, _⟩ := h
    rfl
  · obtain ⟨a, d, ys, P, rfl, A, c, bd, hz, q⟩ := h
    refine ⟨_, (@pss_cons _ _ _ _ _ (@ps_setE _ _ _ _ _ _ 2 scLc.nd rfl (Or.inl rfl) (@pe_tup _ _ _ _ _ (@pa_c _ _ _ _ _ rfl pe_int (@pa_c _ _ _ _ _ rfl pe_int (@pa_c _ _ _ _ _ rfl pe_int pa_nil)))) (by kernel_rfl) (.inl rfl))
      (@pss_cons _ _ _ _ _ (@ps_setE _ _ _ _ _ _ 3 scLc.nd rfl (Or.inl rfl) pe_int (by kernel_rfl) (.inl rfl))
      (@pss_cons _ _ _ _ _ (@ps_setE _ _ _ _ _ _ 4 scLc.nd rfl (Or.inl rfl) pe_int (by kernel_rfl) (.inl rfl))
      (@pss_cons _ _ _ _ _ (ps_for PassesOwn.never rfl (pi_list (pv 0)) (pg_tup rfl (pgs_cons (pg_name (i := 5) scLc.nd rfl (Or.inl rfl)) (pgs_cons (pg_name (i := 6) scLc.nd rfl (Or.inl rfl)) (pgs_cons (pg_name (i := 7) scLc.nd rfl (Or.inl rfl)) pgs_nil)))) (@pss_cons _ _ _ _ _ (@ps_if _ _ _ _ _ _ _ _ (pt_cmpR op_le (pv 3) pe_int (nomark _)) (@pss_cons _ _ _ _ _ (@ps_setE _ _ _ _ _ _ 3 scLc.nd rfl (Or.inl rfl) pe_int (by kernel_rfl) (.inl rfl))
      (@pss_one _ _ _ (@ps_setE _ _ _ _ _ _ 4 scLc.nd rfl (Or.inl rfl) (pv 5) (by kernel_rfl) (.inl rfl)))) pss_nil)
      (@pss_cons _ _ _ _ _ (@ps_setE _ _ _ _ _ _ 3 scLc.nd rfl (Or.inl rfl) (pe_op op_add (pv 3) (pe_op op_mul (pe_op op_sub (pv 6) (pv 5)) (pe_op op_sub (pv 7) (pv 1)))) (by kernel_rfl) (.inl rfl))
      (@pss_one _ _ _ (@ps_if _ _ _ _ _ _ _ _ (pt_cmpR op_gt (pv 3) (@pe_ix _ _ _ _ _ _ _ (ix_tupK (K := K) rfl) (pv 2) pe_int (fun _ _ => rfl)) (nomark _)) (@pss_one _ _ _ (@ps_setE _ _ _ _ _ _ 2 scLc.nd rfl (Or.inl rfl) (@pe_tup _ _ _ _ _ (@pa_c _ _ _ _ _ rfl (pv 3) (@pa_c _ _ _ _ _ rfl (pv 4) (@pa_c _ _ _ _ _ rfl (pv 6) pa_nil)))) (by kernel_rfl) (.inl rfl))) pss_nil)))))
      (@pss_one _ _ _ (@ps_ret _ _ _ _ (pv 2))))))), ?_⟩
    refine ⟨by show 3 ≤ sizeLine; decide, fun pb hpb => ?_⟩
    have s1 := same_upd (o := HO.tup [V.int 0, V.int 0, V.int 0]) hpb
    have l1 : upd H pb (HO.tup [V.int 0, V.int 0, V.int 0]) pb = some (.tup [V.int 0, V.int 0, V.int 0]) := upd_same
    generalize upd H pb (HO.tup [V.int 0, V.int 0, V.int 0]) = H1 at s1 l1 ⊢
    refine ⟨_, rfl, a, rfl, ⟨_, .inl (.inl (A.mono s1).l)⟩, for_list (K := K) (a := a) (xs := ys) (fun i σ H4 => ∃ (pb : Addr) (b0 b1 b2 tkn sin : Int) (v5 v6 v7 : Option V), σ = [some (.ref a), some (.int P), some (.ref pb), some (.int tkn), some (.int sin), v5, v6, v7] ∧ Same H H4 ∧ H4 pb = some (.tup [.int b0, .int b1, .int b2]) ∧ LcI (tk P (d.take i)) b0 b1 b2 tkn sin) ⟨pb, 0, 0, 0, 0, 0, _, _, _, rfl, s1, l1, LcI.start⟩ (fun i σ H4 _ h => by obtain ⟨_, _, _, _, _, _, _, _, _, _, s, _⟩ := h; exact .inl (.inl (A.mono s).l)) ?_ ?_⟩
    · rintro i y σ H4 hi ⟨pb, b0, b1, b2, tkn, sin, v5, v6, v7, rfl, s4, hpb, L⟩
      obtain ⟨x, T0, hx, hxd, rfl, hT⟩ := (A.mono s4).at hi
      obtain ⟨e1, e2⟩ := split_at hx
      obtain ⟨g1, g2⟩ := c.at P e1
      have bx := bd x hxd
      have hc : ((cnt x : Nat) : Int) = x.2.1 - x.1 := by unfold cnt; omega
      refine ⟨T0, _, rfl, .inl (.inl hT), rfl, _, _, rfl, _, _, rfl, _, _, rfl, rfl, ?_⟩
      have hb : ((tk P (d.take i)).length : Int) + ((cnt x : Nat) : Int) = x.2.1 := by omega
      refine ⟨_, rfl, _, _, rfl, rfl, _, rfl, ?_⟩
      refine ite2 (fun h1 => ?thn) (fun h1 => ?els)
      case' thn =>
        have h1' : tkn ≤ 0 := of_decide_eq_true h1
        have st := L.step (c := cnt x) (by omega) (x := x.2.2 - P) (t0 := 0) (s0 := x.1) (t1 := 0 + (x.2.1 - x.1) * (x.2.2 - P)) (by rw [if_pos h1']) (by rw [if_pos h1']; omega) (by rw [hc])
        refine ⟨_, rfl, ?_⟩
      case' els =>
        have h1' : ¬ tkn ≤ 0 := fun z => h1 (decide_eq_true z)
        have st := L.step (c := cnt x) (by omega) (x := x.2.2 - P) (t0 := tkn) (s0 := sin) (t1 := tkn + (x.2.1 - x.1) * (x.2.2 - P)) (by rw [if_neg h1']) (by rw [if_neg h1']) (by rw [hc])
      all_goals
        rw [hb, ← tk_snoc, ← e2] at st
        refine ⟨_, rfl, _, rfl, _, rfl, _, _, rfl, rfl, _, rfl, _, rfl, _, _, rfl, rfl, _, _, rfl, rfl, .inl ⟨by omega, by omega⟩, _, _, rfl, rfl, ?_⟩
        refine ⟨_, rfl, _, rfl, pb, _, _, _, rfl, rfl, .inl (.inl hpb), atI_nat (j := 0) rfl, _, _, rfl, rfl, _, rfl, ?_⟩
        refine ite2 (fun h2 => ?_) (fun h2 => ?_)
        · refine ⟨_, rfl, _, rfl, _, rfl, by show 3 ≤ sizeLine; decide, fun p hp => ?_⟩
          exact ⟨p, _, _, _, _, _, _, _, _, rfl, s4.trans (same_upd hp), upd_same, st.1 (of_decide_eq_true h2)⟩
        · exact ⟨pb, _, _, _, _, _, _, _, _, rfl, s4, hpb, st.2 fun z => h2 (decide_eq_true z)⟩
    · rintro σ H4 ⟨pb, b0, b1, b2, tkn, sin, v5, v6, v7, rfl, s4, hpb, L⟩
      rw [List.take_of_length_le (by rw [A.len]; exact Nat.le_refl _)] at L
      exact ⟨_, rfl, q pb b0 b1 b2 tkn sin H4 s4 hpb L⟩
theorem scGt : FnScope ["there", "rise", "count"] ["there", "rise", "count"] (defScope sGt) := ⟨rfl, rfl, rfl, by decide +kernel, rfl, by decide +kernel, by decide +kernel⟩
theorem ok_Gt (N : Fns K mg fGt fCo fFi fWl fLc fCa fLw fDn fDr fDg fPu fCp fSt dGt dCo dFi dWl dLc dCa dLw dDn dDr dDg dPu dCp dSt) (T : Txt K mg) : FnOk P w K mg base CX0 1 fGt dGt ["there", "rise", "count"] spGt := by
  refine N.FGt.ok scGt (fun vs H Q E h => ?_) (fun cdv A outer s H vs Q E hr h => ?_)
  · obtain ⟨th, ri, c, rfl, _⟩ := h
    rfl
  · obtain ⟨th, ri, c, rfl, hb, q⟩ := h
    refine ⟨_, (@pss_cons _ _ _ _ _ (@ps_if _ _ _ _ _ _ _ _ (pt_cmpR op_lt (pe_op op_add (pv 0) (pv 1)) pe_int (nomark _)) (@pss_one _ _ _ (@ps_ret _ _ _ _ pe_int)) pss_nil)
      (@pss_one _ _ _ (@ps_ret _ _ _ _ (pe_ifExp (pt_cmpR op_ge (pv 1) pe_int (nomark _)) (pv 2) (pe_callB (call_min2 rfl) rfl T.min PyProof.Rows.boot_min (@pa_c _ _ _ _ _ rfl (pv 2) (@pa_c _ _ _ _ _ rfl (pe_op op_fdivG (pv 0) (pe_un un_neg (pv 1))) pa_nil))))))), ?_⟩
    unfold gd at q
    refine ⟨_, rfl, _, rfl, _, _, rfl, rfl, _, _, rfl, rfl, _, rfl, ?_⟩
    refine ite2 (fun h1 => ?_) (fun h1 => ?_)
    · rw [if_pos (of_decide_eq_true h1)] at q
      exact q
    · rw [if_neg (fun z => h1 (decide_eq_true z))] at q
      refine ⟨_, rfl, _, _, rfl, rfl, _, rfl, ?_⟩
      refine ite2 (fun h2 => ?_) (fun h2 => ?_)
      · rw [if_pos (of_decide_eq_true h2)] at q
        exact ⟨_, rfl, q⟩
      · have h2' : ¬ ri ≥ 0 := fun z => h2 (decide_eq_true z)
        rw [if_neg h2'] at q
        exact ⟨_, rfl, _, rfl, _, rfl, _, rfl, _, _, rfl, rfl, ⟨by show 0 < -ri; omega, hb⟩, _, _, rfl, q⟩
theorem scCo : FnScope ["draught", "pump", "cap", "there", "first", "behind", "wind", "count", "good"] ["draught", "pump", "cap"] (defScope sCo) := ⟨rfl, rfl, rfl, by decide +kernel, rfl, by decide +kernel, by decide +kernel⟩
theorem ok_Co (N : Fns K mg fGt fCo fFi fWl fLc fCa fLw fDn fDr fDg fPu fCp fSt dGt dCo dFi dWl dLc dCa dLw dDn dDr dDg dPu dCp dSt) (T : Txt K mg) : FnOk P w K mg base CX0 2 fCo dCo ["draught", "pump", "cap"] spCo := by
  have GGt : FnOk P w K mg base CX0 1 fGt dGt ["there", "rise", "count"] spGt := ok_Gt N T
  refine N.FCo.ok scCo (fun vs H Q E h => ?_) (fun cdv A outer s H vs Q E hr h => ?_)
  · obtain ⟨a, d, ys, P, cap, rfl, _⟩ := h
    rfl
  · obtain ⟨a, d, ys, P, cap, rfl, A, c, bd, hP, hc0, q⟩ := h
    have hrGt : Room 1 _ := hr.mono (by decide)
    refine ⟨_, (@pss_cons _ _ _ _ _ (@ps_setE _ _ _ _ _ _ 3 scCo.nd rfl (Or.inl rfl) (pv 2) (by kernel_rfl) (.inl rfl))
      (@pss_cons _ _ _ _ _ (ps_for PassesOwn.never rfl (pi_list (pv 0)) (pg_tup rfl (pgs_cons (pg_name (i := 4) scCo.nd rfl (Or.inl rfl)) (pgs_cons (pg_name (i := 5) scCo.nd rfl (Or.inl rfl)) (pgs_cons (pg_name (i := 6) scCo.nd rfl (Or.inl rfl)) pgs_nil)))) (@pss_cons _ _ _ _ _ (@ps_setE _ _ _ _ _ _ 7 scCo.nd rfl (Or.inl rfl) (pe_op op_sub (pv 5) (pv 4)) (by kernel_rfl) (.inl rfl))
      (@pss_cons _ _ _ _ _ (@ps_setE _ _ _ _ _ _ 8 scCo.nd rfl (Or.inl rfl) (pe_call GGt hrGt rfl N.mGt N.FGt.kp N.bGt .nil pass0 (@pa_c _ _ _ _ _ rfl (pv 3) (@pa_c _ _ _ _ _ rfl (pe_op op_sub (pv 1) (pv 6)) (@pa_c _ _ _ _ _ rfl (pv 7) pa_nil)))) (by kernel_rfl) (.inl rfl))
      (@pss_cons _ _ _ _ _ (@ps_if _ _ _ _ _ _ _ _ (pt_cmpR op_lt (pv 8) (pv 7) (nomark _)) (@pss_one _ _ _ (@ps_ret _ _ _ _ (@pe_tup _ _ _ _ _ (@pa_c _ _ _ _ _ rfl (pe_op op_add (pv 4) (pv 8)) (@pa_c _ _ _ _ _ rfl pe_non pa_nil))))) pss_nil)
      (@pss_one _ _ _ (@ps_setE _ _ _ _ _ _ 3 scCo.nd rfl (Or.inl rfl) (pe_callB (call_min2 rfl) rfl T.min PyProof.Rows.boot_min (@pa_c _ _ _ _ _ rfl (pv 2) (@pa_c _ _ _ _ _ rfl (pe_op op_add (pv 3) (pe_op op_mul (pv 7) (pe_op op_sub (pv 1) (pv 6)))) pa_nil))) (by kernel_rfl) (.inl rfl)))))))
      (@pss_one _ _ _ (@ps_ret _ _ _ _ (@pe_tup _ _ _ _ _ (@pa_c _ _ _ _ _ rfl pe_non (@pa_c _ _ _ _ _ rfl (pv 3) pa_nil))))))), ?_⟩
    refine ⟨_, rfl, ?_⟩
    refine ⟨_, rfl, a, rfl, ⟨_, .inl (.inl A.l)⟩, for_list (K := K) (a := a) (xs := ys) (fun i σ H4 => H4 = H ∧ ∃ (v4 v5 v6 v7 v8 : Option V), σ = [some (.ref a), some (.int P), some (.int cap), some (.int (cap - EF 0 (tk P (d.take i)))), v4, v5, v6, v7, v8] ∧ fl cap 0 (tk P (d.take i)) = none) ⟨rfl, _, _, _, _, _, by show _ = [_, _, _, some (V.int (cap - 0)), _, _, _, _, _]; rw [Int.sub_zero]; rfl, rfl⟩ (fun i σ H4 _ h => by rw [h.1]; exact .inl (.inl A.l)) ?_ ?_⟩
    · rintro i y σ H4 hi ⟨rfl, v4, v5, v6, v7, v8, rfl, hf⟩
      obtain ⟨x, T0, hx, hxd, rfl, hT⟩ := A.at hi
      obtain ⟨e1, e2⟩ := split_at hx
      obtain ⟨g1, g2⟩ := c.at P e1
      have bx := bd x hxd
      have hc : ((cnt x : Nat) : Int) = x.2.1 - x.1 := by unfold cnt; omega
      have he0 : 0 ≤ EF 0 (tk P (d.take i)) := EF_nn _ (Int.le_refl 0)
      have he1 : EF 0 (tk P (d.take i)) ≤ cap := fl_none_le _ hc0 hc0 hf
      obtain ⟨k1, k2, k3, k4⟩ := good_ok (x := x.2.2 - P) (cnt x) he0 he1
      have hg := gd_good cap (EF 0 (tk P (d.take i))) P x.2.2 (cnt x)
      rw [hc] at hg
      refine ⟨T0, _, rfl, .inl (.inl hT), rfl, _, _, rfl, _, _, rfl, _, _, rfl, rfl, ?_⟩
      refine ⟨_, rfl, _, rfl, _, _, rfl, rfl, ?_⟩
      refine ⟨_, rfl, _, rfl, _, rfl, _, _, rfl, rfl, _, rfl, _, _, _, rfl, by show -(P - x.2.2) < 2 ^ 200; omega, ?_⟩
      show gName 8 (V.int (gd (cap - EF 0 (tk P (d.take i))) (P - x.2.2) (x.2.1 - x.1))) _ _ _
      rw [hg]
      refine ⟨_, rfl, _, rfl, _, _, rfl, rfl, _, rfl, ?_⟩
      refine ite2 (fun h1 => ?_) (fun h1 => ?_)
      · have h1' : good cap (EF 0 (tk P (d.take i))) (x.2.2 - P) (cnt x) < (cnt x : Int) := by have := of_decide_eq_true h1; omega
        have hF : fl cap 0 (tk P d) = some ((good cap (EF 0 (tk P (d.take i))) (x.2.2 - P) (cnt x)).toNat + (tk P (d.take i)).length) := by
          conv => lhs; rw [e1]
          rw [tk_app, fl_app, hf]
          show Option.map _ (fl cap (EF 0 (tk P (d.take i))) (List.replicate (cnt x) (x.2.2 - P) ++ tk P (d.drop (i + 1)))) = _
          rw [fl_app, k3 h1']
          rfl
        refine ⟨_, rfl, _, rfl, _, _, rfl, rfl, by show 2 ≤ sizeLine; decide, fun p hp => q p _ (same_upd hp) ?_⟩
        rw [hF, upd_same]
        show some (HO.tup [V.int (x.1 + _), V.non]) = some (HO.tup [V.int _, V.non])
        congr 4
        omega
      · have h1' : ¬ good cap (EF 0 (tk P (d.take i))) (x.2.2 - P) (cnt x) < (cnt x : Int) := fun z => h1 (decide_eq_true (by omega))
        refine ⟨_, rfl, _, rfl, _, rfl, _, rfl, _, rfl, _, _, rfl, rfl, _, _, rfl, rfl, .inl ⟨by show -(2 ^ 64) < x.2.1 - x.1; omega, by show x.2.1 - x.1 < 2 ^ 64; omega⟩, _, _, rfl, rfl, _, _, rfl, ?_⟩
        refine ⟨rfl, some (.int x.1), some (.int x.2.1), some (.int x.2.2), some (.int (x.2.1 - x.1)), some (.int (good cap (EF 0 (tk P (d.take i))) (x.2.2 - P) (cnt x))), ?_, ?_⟩
        · have eE : EF 0 (tk P (d.take (i + 1))) = max 0 (EF 0 (tk P (d.take i)) + (x.2.1 - x.1) * (x.2.2 - P)) := by
            rw [e2, tk_snoc, EF_app, EF_rep _ _ he0, hc]
          have eM : (x.2.1 - x.1) * (P - x.2.2) = -((x.2.1 - x.1) * (x.2.2 - P)) := by rw [← Int.mul_neg, Int.neg_sub]
          have eT : (if cap - EF 0 (tk P (d.take i)) + (x.2.1 - x.1) * (P - x.2.2) < cap then cap - EF 0 (tk P (d.take i)) + (x.2.1 - x.1) * (P - x.2.2) else cap) = cap - EF 0 (tk P (d.take (i + 1))) := by
            rw [eE, eM]
            generalize (x.2.1 - x.1) * (x.2.2 - P) = z
            split <;> omega
          show [_, _, _, some (V.int (if cap - EF 0 (tk P (d.take i)) + (x.2.1 - x.1) * (P - x.2.2) < cap then cap - EF 0 (tk P (d.take i)) + (x.2.1 - x.1) * (P - x.2.2) else cap)), _, _, _, _, _] = _
          rw [eT]
        · rw [e2, tk_snoc, fl_app, hf]
          show Option.map _ (fl cap (EF 0 (tk P (d.take i))) (List.replicate (cnt x) (x.2.2 - P))) = none
          rw [k4 h1']
          rfl
    · rintro σ H4 ⟨rfl, v4, v5, v6, v7, v8, rfl, hf⟩
      rw [List.take_of_length_le (by rw [A.len]; exact Nat.le_refl _)] at hf ⊢
      refine ⟨_, rfl, by show 2 ≤ sizeLine; decide, fun p hp => q p _ (same_upd hp) ?_⟩
      rw [hf]
      exact upd_same
theorem scFi : FnScope ["draught", "pump", "cap"] ["draught", "pump", "cap"] (defScope sFi) := ⟨rfl, rfl, rfl, by decide +kernel, rfl, by decide +kernel, by decide +kernel⟩
theorem ok_Fi (N : Fns K mg fGt fCo fFi fWl fLc fCa fLw fDn fDr fDg fPu fCp fSt dGt dCo dFi dWl dLc dCa dLw dDn dDr dDg dPu dCp dSt) (T : Txt K mg) : FnOk P w K mg base CX0 3 fFi dFi ["draught", "pump", "cap"] spFi := by
  have GCo : FnOk P w K mg base CX0 2 fCo dCo ["draught", "pump", "cap"] spCo := ok_Co N T
  refine N.FFi.ok scFi (fun vs H Q E h => ?_) (fun cdv A outer s H vs Q E hr h => ?_)
  · obtain ⟨a, d, ys, P, cap, rfl, _⟩ := h
    rfl
  · obtain ⟨a, d, ys, P, cap, rfl, A, c, bd, hP, hc0, q⟩ := h
    have hrCo : Room 2 _ := hr.mono (by decide)
    refine ⟨_, (@pss_one _ _ _ (@ps_ret _ _ _ _ (@pe_ix _ _ _ _ _ _ _ (ix_tupK (K := K) rfl) (pe_call GCo hrCo rfl N.mCo N.FCo.kp N.bCo .nil pass0 (@pa_c _ _ _ _ _ rfl (pv 0) (@pa_c _ _ _ _ _ rfl (pv 1) (@pa_c _ _ _ _ _ rfl (pv 2) pa_nil)))) pe_int (fun _ _ => rfl)))), ?_⟩
    refine ⟨_, rfl, _, rfl, _, rfl, a, d, ys, P, cap, rfl, A, c, bd, hP, hc0, fun p H1 s1 hp => ?_⟩
    refine ⟨p, _, _, oV (fl cap 0 (tk P d)), rfl, rfl, .inl (.inl hp), ?_, q H1 s1⟩
    cases fl cap 0 (tk P d) with
    | none => exact atI_nat (j := 0) rfl
    | some t => exact atI_nat (j := 0) rfl
theorem sum_nn : ∀ {l : List Int}, (∀ n ∈ l, 0 ≤ n ∧ n ≤ 4398046511104) → 0 ≤ l.sum ∧ l.sum ≤ 4398046511104 * (l.length : Int)
  | [], _ => by simp
  | x :: r, h => by
    have ih := sum_nn fun y hy => h y (List.mem_cons_of_mem _ hy)
    have hx := h x (List.mem_cons_self ..)
    rw [List.sum_cons, List.length_cons]
    omega
theorem scPu : FnScope ["_law_script", "_law_draught_here", "_law_number", "_law_winds", "_law_way"] ["_law_script", "_law_draught_here"] (defScope sPu) := ⟨rfl, rfl, rfl, by decide +kernel, rfl, by decide +kernel, by decide +kernel⟩
theorem ok_Pu (N : Fns K mg fGt fCo fFi fWl fLc fCa fLw fDn fDr fDg fPu fCp fSt dGt dCo dFi dWl dLc dCa dLw dDn dDr dDg dPu dCp dSt) (T : Txt K mg) : FnOk P w K mg base CX0 2 fPu dPu ["_law_script", "_law_draught_here"] (spPu K) := by
  have GCa : FnOk P w K mg base CX0 1 fCa dCa ["_law_script", "_law_k"] (spCa K) := ok_Ca N T
  refine N.FPu.ok scPu (fun vs H Q E h => ?_) (fun cdv A outer s H vs Q E hr h => ?_)
  · obtain ⟨a, l, ns, d, ys, rfl, _⟩ := h
    rfl
  · obtain ⟨a, l, ns, d, ys, rfl, hS, A, hne, hlen, bd, q⟩ := h
    have hrCa : Room 1 _ := hr.mono (by decide)
    refine ⟨_, (@pss_cons _ _ _ _ _ (@ps_setE _ _ _ _ _ _ 2 scPu.nd rfl (Or.inl rfl) (pe_op op_fdiv (pe_op op_mod (pe_op op_mul (pe_call GCa hrCa rfl N.mCa N.FCa.kp N.bCa .nil pass0 (@pa_c _ _ _ _ _ rfl (pv 0) (@pa_c _ _ _ _ _ rfl pe_int pa_nil))) pe_int) pe_int) pe_int) (by kernel_rfl) (.inl rfl))
      (@pss_cons _ _ _ _ _ (@ps_setE _ _ _ _ _ _ 3 scPu.nd rfl (Or.inl rfl) (pe_callB call_sortedL rfl T.sorted PyProof.Rows.boot_sorted (@pa_c _ _ _ _ _ rfl (pe_comp rfl (compScope (osc := defScope sPu) (N := ["_law_script", "_law_draught_here", "_law_number", "_law_winds", "_law_way"]) rfl rfl (by decide +kernel)) (pi_list (pv 1)) (fun _ _ _ _ => pf_nil) (fun _ _ _ _ => (@pe_ix _ _ _ _ _ _ _ (ix_tupK (K := K) rfl) (pv 0) pe_int (fun _ _ => rfl)))) pa_nil)) (by kernel_rfl) (.inl rfl))
      (@pss_cons _ _ _ _ _ (@ps_setE _ _ _ _ _ _ 4 scPu.nd rfl (Or.inl rfl) (pe_op op_mod (pv 2) pe_int) (by kernel_rfl) (.inl rfl))
      (@pss_cons _ _ _ _ _ (@ps_if _ _ _ _ _ _ _ _ (pt_cmpR op_eq (pv 4) pe_int (nomark _)) (@pss_one _ _ _ (@ps_ret _ _ _ _ (pe_op op_mod (pe_op op_fdiv (pv 2) pe_int) pe_int))) pss_nil)
      (@pss_cons _ _ _ _ _ (@ps_if _ _ _ _ _ _ _ _ (pt_cmpR op_eq (pv 4) pe_int (nomark _)) (@pss_one _ _ _ (@ps_ret _ _ _ _ (@pe_ix _ _ _ _ _ _ _ ix_list (pv 3) (pe_op op_mod (pe_op op_fdiv (pv 2) pe_int) (pe_callB call_len_seq rfl T.len PySem.boot_len (@pa_c _ _ _ _ _ rfl (pv 3) pa_nil))) (fun _ _ => rfl)))) pss_nil)
      (@pss_cons _ _ _ _ _ (@ps_if _ _ _ _ _ _ _ _ (pt_cmpR op_eq (pv 4) pe_int (nomark _)) (@pss_one _ _ _ (@ps_ret _ _ _ _ (pe_op op_add (pe_op op_fdiv (pe_callB (call_sumB rfl) rfl T.sum PyProof.Rows.boot_sum (@pa_c _ _ _ _ _ rfl (pv 3) pa_nil)) (pe_callB call_len_seq rfl T.len PySem.boot_len (@pa_c _ _ _ _ _ rfl (pv 3) pa_nil))) (pe_op op_mod (pe_op op_fdiv (pv 2) pe_int) pe_int)))) pss_nil)
      (@pss_cons _ _ _ _ _ (@ps_if _ _ _ _ _ _ _ _ (pt_cmpR op_eq (pv 4) pe_int (nomark _)) (@pss_one _ _ _ (@ps_ret _ _ _ _ (pe_op op_add (@pe_ix _ _ _ _ _ _ _ ix_list (pv 3) (pe_un un_neg pe_int) (fun _ _ => rfl)) (pe_op op_mod (pe_op op_fdiv (pv 2) pe_int) pe_int)))) pss_nil)
      (@pss_one _ _ _ (@ps_ret _ _ _ _ (pe_op op_fdiv (pe_op op_add (@pe_ix _ _ _ _ _ _ _ ix_list (pv 3) pe_int (fun _ _ => rfl)) (@pe_ix _ _ _ _ _ _ _ ix_list (pv 3) (pe_un un_neg pe_int) (fun _ _ => rfl))) pe_int)))))))))), ?_⟩
    refine ⟨_, rfl, a, 0, ns, rfl, hS, fun c => ⟨_, _, rfl, rfl, .inr ⟨by decide, by decide⟩, _, _, rfl, rfl, (by show (0 : Int) < 2147483647; decide), _, _, rfl, rfl, ⟨by decide, by decide⟩, ?_⟩⟩
    have n0 : 0 ≤ c * 950706376 % 2147483647 / 8 ∧ c * 950706376 % 2147483647 / 8 < 2147483647 := by omega
    show gName 2 (V.int (c * 950706376 % 2147483647 / 8)) _ _ _
    generalize c * 950706376 % 2147483647 / 8 = num at n0
    refine ⟨_, rfl, l, rfl, ⟨_, .inl (.inl A.l)⟩, comp_sq (K := K) (xs := ys) (fun _ => true) (fun v => match v with | .ref T => (match H T with | some (.tup [_, _, w]) => w | _ => .non) | x => x) (.inl (.inl A.l)) (small1000 (by have := A.len; omega)) (fun x hx H' hs R k => k H' (Same.refl H')) (fun y hy _ H' hs R k => ?_) (fun D H2 hD hs hl => ?_)⟩
    · obtain ⟨i, hi⟩ := List.getElem?_of_mem hy
      obtain ⟨x, T0, hx, hxd, rfl, hT⟩ := A.at hi
      dsimp only at k
      rw [hT] at k
      exact ⟨_, rfl, T0, _, _, _, rfl, rfl, .inl (.inl (hs _ _ hT)), atI_nat (j := 2) rfl, k H' (Same.refl H')⟩
    have hl' : H2 D = some (.lst ((d.map fun x => x.2.2).map V.int)) := by
      rw [hl, List.filter_eq_self.mpr (fun _ _ => rfl)]
      congr 2
      have key : ∀ {d : Dr} {ys : List V}, Paired (fun x v => TupAt H (triV x) v) d ys → ys.map (fun v => match v with | V.ref T => (match H T with | some (HO.tup [_, _, w]) => w | _ => V.non) | x => x) = (d.map fun x => x.2.2).map V.int := fun {d ys} p => by
        induction p with
        | nil => rfl
        | @cons x v d ys h1 h2 ih =>
          obtain ⟨T0, rfl, hT⟩ := h1
          rw [List.map_cons, List.map_cons, List.map_cons, ih]
          congr 1
          dsimp only
          rw [hT]
      exact key A.p
    have hw : ∀ n ∈ d.map (fun x => x.2.2), (0 : Int) ≤ n ∧ n ≤ 4398046511104 := fun n hn => by
      obtain ⟨x, hx, rfl⟩ := List.mem_map.mp hn
      have := bd x hx
      omega
    have hwl : 0 < (d.map fun x => x.2.2).length ∧ (d.map fun x => x.2.2).length ≤ 20 := by
      rw [List.length_map]
      have : d.length ≠ 0 := fun z => hne (List.length_eq_zero_iff.mp z)
      omega
    generalize (d.map fun x => x.2.2) = ws at hl' hw hwl
    clear hl
    refine ⟨D, ws, rfl, .inl (.inl hl'), by omega, fun p ms hp pm _ => ?_⟩
    have s3 := hs.trans (same_upd (o := HO.lst (ms.map V.int)) hp)
    have l3 : SqL K (upd H2 p (HO.lst (ms.map V.int))) p (ms.map V.int) := .inl (.inl upd_same)
    generalize upd H2 p (HO.lst (ms.map V.int)) = H3 at s3 l3 ⊢
    have hm : ∀ n ∈ ms, (0 : Int) ≤ n ∧ n ≤ 4398046511104 := fun n hn => hw n (pm.mem_iff.mp hn)
    have hml : 0 < ms.length ∧ ms.length ≤ 20 := by rw [pm.length_eq]; exact hwl
    clear hl' hw hwl hD hs hp pm
    have lst : ∃ ini z, ms = ini ++ [z] := ⟨ms.dropLast, ms.getLast (by intro e; rw [e] at hml; simp at hml), (List.dropLast_concat_getLast _).symm⟩
    have last : ∃ z, 0 ≤ z ∧ z ≤ 4398046511104 ∧ atI (ms.map V.int) (-1) = some (.int z) := by
      obtain ⟨ini, z, e⟩ := lst
      have := hm z (by rw [e]; simp)
      exact ⟨z, this.1, this.2, by rw [e, List.map_append]; exact at_last⟩
    obtain ⟨z1, z10, z11, hz1⟩ := last
    have hlm : (ms.map V.int).length = ms.length := List.length_map ..
    refine ⟨_, rfl, _, _, rfl, rfl, (by show (0 : Int) < 5; decide), ?_⟩
    refine ⟨_, rfl, rfl, _, rfl, ?_⟩
    refine ite2 (fun h1 => ?_) (fun h1 => ?_)
    · refine ⟨_, rfl, _, _, rfl, rfl, ⟨by decide, by decide⟩, _, _, rfl, rfl, (by show (0 : Int) < 9; decide), q _ _ s3 ?_ ?_⟩ <;> omega
    refine ⟨_, rfl, rfl, _, rfl, ?_⟩
    refine ite2 (fun h2 => ?_) (fun h2 => ?_)
    · have m0 := Int.emod_nonneg (num / 5) (show ((ms.map V.int).length : Int) ≠ 0 by omega)
      have m1 := Int.emod_lt_of_pos (num / 5) (show 0 < ((ms.map V.int).length : Int) by omega)
      obtain ⟨c2, _, hc2, hat⟩ := ints_at (ns := ms) (i := num / 5 % ((ms.map V.int).length : Int)) m0 (by omega)
      have := hm c2 hc2
      refine ⟨_, rfl, _, rfl, _, _, rfl, rfl, ⟨by decide, by decide⟩, _, rfl, p, _, rfl, .inl l3, _, _, rfl, rfl, (by show 0 < ((ms.map V.int).length : Int); omega), p, _, _, _, rfl, rfl, l3, hat, q _ _ s3 ?_ ?_⟩ <;> omega
    refine ⟨_, rfl, rfl, _, rfl, ?_⟩
    refine ite2 (fun h3 => ?_) (fun h3 => ?_)
    · have hsum := sum_nn hm
      have d0 : 0 ≤ ms.sum / ((ms.map V.int).length : Int) := Int.ediv_nonneg hsum.1 (by omega)
      have d1 : ms.sum / ((ms.map V.int).length : Int) ≤ ms.sum := Int.ediv_le_self _ hsum.1
      refine ⟨_, rfl, p, ms, rfl, l3, hm, by omega, _, rfl, p, _, rfl, .inl l3, _, _, rfl, rfl, ⟨by show 0 < ((ms.map V.int).length : Int); omega, by show ((ms.map V.int).length : Int) < 1073741824; omega⟩, _, rfl, _, _, rfl, rfl, ⟨by decide, by decide⟩, _, _, rfl, rfl, (by show (0 : Int) < 3; decide), _, _, rfl, rfl, q _ _ s3 ?_ ?_⟩ <;> omega
    refine ⟨_, rfl, rfl, _, rfl, ?_⟩
    refine ite2 (fun h4 => ?_) (fun h4 => ?_)
    · refine ⟨_, rfl, _, rfl, p, _, _, _, rfl, rfl, l3, hz1, _, rfl, _, _, rfl, rfl, ⟨by decide, by decide⟩, _, _, rfl, rfl, (by show (0 : Int) < 2; decide), _, _, rfl, rfl, q _ _ s3 ?_ ?_⟩ <;> omega
    · obtain ⟨c0, _, hc0, hat⟩ := ints_at (ns := ms) (i := 0) (by decide) (by omega)
      have := hm c0 hc0
      refine ⟨_, rfl, p, _, _, _, rfl, rfl, l3, hat, _, rfl, _, rfl, p, _, _, _, rfl, rfl, l3, hz1, _, _, rfl, rfl, _, _, rfl, rfl, ⟨by decide, by decide⟩, q _ _ s3 ?_ ?_⟩ <;> omega
theorem scWl : FnScope ["draught", "pump", "cap", "tick", "ahead"] ["draught", "pump", "cap", "tick"] (defScope sWl) := ⟨rfl, rfl, rfl, by decide +kernel, rfl, by decide +kernel, by decide +kernel⟩
theorem ok_Wl (N : Fns K mg fGt fCo fFi fWl fLc fCa fLw fDn fDr fDg fPu fCp fSt dGt dCo dFi dWl dLc dCa dLw dDn dDr dDg dPu dCp dSt) (T : Txt K mg) : FnOk P w K mg base CX0 3 fWl dWl ["draught", "pump", "cap", "tick"] spWl := by
  have GCo : FnOk P w K mg base CX0 2 fCo dCo ["draught", "pump", "cap"] spCo := ok_Co N T
  refine N.FWl.ok scWl (fun vs H Q E h => ?_) (fun cdv A outer s H vs Q E hr h => ?_)
  · obtain ⟨a, d, ys, P, cap, T1, rfl, _⟩ := h
    rfl
  · obtain ⟨a, d, ys, P, cap, T1, rfl, A, c, bd, hz, hP, hc0, hT0, hT1, q⟩ := h
    have hrCo : Room 2 _ := hr.mono (by decide)
    refine ⟨_, (@pss_cons _ _ _ _ _ (ps_tri (i := 4) scWl.nd rfl rfl rfl (compScope4 (osc := defScope sWl) (N := ["draught", "pump", "cap", "tick", "ahead"]) rfl rfl (by decide +kernel)) (pi_list (pv 0)) (fun _ _ _ _ => pf_one (pt_cmpR op_le (pv 0) (pv 6) (nomark _))) (fun _ _ _ _ => (@pe_tup _ _ _ _ _ (@pa_c _ _ _ _ _ rfl (pv 0) (@pa_c _ _ _ _ _ rfl (pe_callB (call_min2 rfl) rfl T.min PyProof.Rows.boot_min (@pa_c _ _ _ _ _ rfl (pv 1) (@pa_c _ _ _ _ _ rfl (pe_op op_add (pv 6) pe_int) pa_nil))) (@pa_c _ _ _ _ _ rfl (pv 2) pa_nil))))))
      (@pss_cons _ _ _ _ _ (@ps_if _ _ _ _ _ _ _ _ (PW.pt (pw_or (pt_not (pt_truth (pv 4) (fun _ => rfl))) (pw_or1 (pt_cmpR op_le (@pe_ix _ _ _ _ _ _ _ (ix_tupK (K := K) rfl) (@pe_ix _ _ _ _ _ _ _ ix_list (pv 4) (pe_un un_neg pe_int) (fun _ _ => rfl)) pe_int (fun _ _ => rfl)) (pv 3) (nomark _))))) (@pss_one _ _ _ (@ps_ret _ _ _ _ pe_non)) pss_nil)
      (@pss_one _ _ _ (@ps_ret _ _ _ _ (@pe_ix _ _ _ _ _ _ _ (ix_tupK (K := K) rfl) (pe_call GCo hrCo rfl N.mCo N.FCo.kp N.bCo .nil pass0 (@pa_c _ _ _ _ _ rfl (pv 4) (@pa_c _ _ _ _ _ rfl (pv 1) (@pa_c _ _ _ _ _ rfl (pv 2) pa_nil)))) pe_int (fun _ _ => rfl)))))), ?_⟩
    refine ⟨_, rfl, a, rfl, ⟨_, .inl (.inl A.l)⟩, comp_tri (K := K) (l := d) (vs := ys) triV (fun x => decide (x.1 ≤ T1)) (fun x => triV (x.1, min x.2.1 (T1 + 1), x.2.2)) (.inl (.inl A.l)) A.p (fun x => ⟨_, _, _, rfl⟩) (small1000 (by have := A.len; omega)) (fun x hx v1 v2 v3 e H' hs R k => ?_) (fun x hx _ v1 v2 v3 e H' hs R k => ?_) (fun D H2 zs hD hs hl hp => ?_)⟩
    · cases e
      exact ⟨_, rfl, _, rfl, _, _, rfl, rfl, _, rfl, k H' (Same.refl H')⟩
    · cases e
      refine ⟨_, rfl, _, rfl, _, rfl, _, _, rfl, rfl, _, _, rfl, _, rfl, by show 3 ≤ sizeLine; decide, fun t ht => k _ _ (same_upd ht) ⟨t, rfl, ?_⟩⟩
      rw [upd_same]
      have em : (if T1 + 1 < x.2.1 then T1 + 1 else x.2.1) = min x.2.1 (T1 + 1) := by split <;> omega
      rw [em]
    have B : DrAt H2 D (cut T1 d) zs := ⟨hl, paired_of_map _ hp⟩
    obtain ⟨k1, k2⟩ := cut_ok (P := P) c hT0
    rw [Int.sub_zero] at k1
    obtain ⟨a1, x1, e1, e2⟩ := cut_last c hT0 (by rw [tk_len 0 P d]; omega)
    have hzs : zs.length = a1.length + 1 := by rw [← B.len, e1]; simp
    obtain ⟨zi, zl, ez⟩ : ∃ zi zl, zs = zi ++ [zl] := ⟨zs.dropLast, zs.getLast (by intro z; rw [z] at hzs; simp at hzs), (List.dropLast_concat_getLast _).symm⟩
    have hzi : zi.length = a1.length := by rw [ez] at hzs; simpa using hzs
    obtain ⟨x2, T2, hx2, hxd2, e3, hT2⟩ := B.at (i := a1.length) (y := zl) (by rw [ez, ← hzi]; simp)
    have ex : x2 = x1 := by
      rw [e1] at hx2
      simpa using hx2.symm
    subst ex
    refine ⟨_, rfl, true, .inl ⟨zs, .inl (.inl hl), by rw [ez]; simp⟩, iteF ?_⟩
    refine ⟨_, rfl, _, rfl, D, _, _, _, rfl, rfl, .inl (.inl hl), by rw [ez, e3]; exact at_last, T2, _, _, _, rfl, rfl, .inl (.inl hT2), atI_nat (j := 1) rfl, _, rfl, _, _, rfl, rfl, _, rfl, iteND (by rw [e2]; omega) ?_⟩
    refine ⟨_, rfl, _, rfl, _, rfl, D, cut T1 d, zs, P, cap, rfl, B, k2, bd_cut bd, hP, hc0, fun p H3 s3 hp3 => ?_⟩
    rw [k1] at hp3
    refine ⟨p, _, _, thV cap ((tk P d).take (T1 + 1).toNat), rfl, rfl, .inl (.inl hp3), ?_, q H3 (hs.trans s3)⟩
    unfold thV
    cases fl cap 0 ((tk P d).take (T1 + 1).toNat) with
    | none => exact atI_nat (j := 1) rfl
    | some t => exact atI_nat (j := 1) rfl
theorem scCp : FnScope ["_law_script", "_law_draught_here", "_law_pump_here", "_law_number", "_law_least", "_law_some"] ["_law_script", "_law_draught_here", "_law_pump_here"] (defScope sCp) := ⟨rfl, rfl, rfl, by decide +kernel, rfl, by decide +kernel, by decide +kernel⟩
theorem ok_Cp (N : Fns K mg fGt fCo fFi fWl fLc fCa fLw fDn fDr fDg fPu fCp fSt dGt dCo dFi dWl dLc dCa dLw dDn dDr dDg dPu dCp dSt) (T : Txt K mg) : FnOk P w K mg base CX0 2 fCp dCp ["_law_script", "_law_draught_here", "_law_pump_here"] (spCp K) := by
  have GCa : FnOk P w K mg base CX0 1 fCa dCa ["_law_script", "_law_k"] (spCa K) := ok_Ca N T
  have GLc : FnOk P w K mg base CX0 1 fLc dLc ["draught", "pump"] spLc := ok_Lc N T
  refine N.FCp.ok scCp (fun vs H Q E h => ?_) (fun cdv A outer s H vs Q E hr h => ?_)
  · obtain ⟨a, l, ns, d, ys, P, rfl, _⟩ := h
    rfl
  · obtain ⟨a, l, ns, d, ys, P, rfl, hS, A, c, bd, hz, hP, q⟩ := h
    have hrCa : Room 1 _ := hr.mono (by decide)
    have hrLc : Room 1 _ := hr.mono (by decide)
    refine ⟨_, (@pss_cons _ _ _ _ _ (@ps_setE _ _ _ _ _ _ 3 scCp.nd rfl (Or.inl rfl) (pe_op op_fdiv (pe_op op_mod (pe_op op_mul (pe_call GCa hrCa rfl N.mCa N.FCa.kp N.bCa .nil pass0 (@pa_c _ _ _ _ _ rfl (pv 0) (@pa_c _ _ _ _ _ rfl pe_int pa_nil))) pe_int) pe_int) pe_int) (by kernel_rfl) (.inl rfl))
      (@pss_cons _ _ _ _ _ (@ps_setE _ _ _ _ _ _ 4 scCp.nd rfl (Or.inl rfl) (@pe_ix _ _ _ _ _ _ _ (ix_tupK (K := K) rfl) (pe_call GLc hrLc rfl N.mLc N.FLc.kp N.bLc .nil pass0 (@pa_c _ _ _ _ _ rfl (pv 1) (@pa_c _ _ _ _ _ rfl (pv 2) pa_nil))) pe_int (fun _ _ => rfl)) (by kernel_rfl) (.inl rfl))
      (@pss_cons _ _ _ _ _ (@ps_setE _ _ _ _ _ _ 5 scCp.nd rfl (Or.inl rfl) (@pe_lst _ _ _ _ (@pa_c _ _ _ _ _ rfl pe_int (@pa_c _ _ _ _ _ rfl (pe_op op_mod (pe_op op_fdiv (pv 3) pe_int) pe_int) (@pa_c _ _ _ _ _ rfl (pe_op op_fdiv (pv 4) pe_int) (@pa_c _ _ _ _ _ rfl (pv 4) (@pa_c _ _ _ _ _ rfl (pe_callB (call_max2 rfl) rfl T.max PyProof.Rows.boot_max (@pa_c _ _ _ _ _ rfl pe_int (@pa_c _ _ _ _ _ rfl (pe_op op_sub (pv 4) pe_int) pa_nil))) (@pa_c _ _ _ _ _ rfl (pe_op op_add (pv 4) (pe_op op_fdiv (pv 3) pe_int)) (@pa_c _ _ _ _ _ rfl (pe_op op_pow pe_int pe_int) pa_nil)))))))) (by kernel_rfl) (.inl rfl))
      (@pss_one _ _ _ (@ps_ret _ _ _ _ (@pe_ix _ _ _ _ _ _ _ ix_list (pv 5) (pe_op op_mod (pv 3) pe_int) (fun _ _ => rfl))))))), ?_⟩
    refine ⟨_, rfl, a, 1, ns, rfl, hS, fun c2 => ⟨_, _, rfl, rfl, .inr ⟨by decide, by decide⟩, _, _, rfl, rfl, (by show (0 : Int) < 2147483647; decide), _, _, rfl, rfl, ⟨by decide, by decide⟩, ?_⟩⟩
    have n0 : 0 ≤ c2 * 397204094 % 2147483647 / 8 := by omega
    show gName 3 (V.int (c2 * 397204094 % 2147483647 / 8)) _ _ _
    generalize c2 * 397204094 % 2147483647 / 8 = num at n0
    refine ⟨_, rfl, _, rfl, l, d, ys, P, rfl, A, c, bd, by omega, fun pb b0 b1 b2 tkn sin H1 s1 hpb L => ?_⟩
    have nb := L.nn
    refine ⟨pb, _, _, _, rfl, rfl, .inl (.inl hpb), atI_nat (j := 0) rfl, ?_⟩
    refine ⟨_, rfl, _, _, rfl, rfl, ⟨by decide, by decide⟩, _, _, rfl, rfl, (by show (0 : Int) < 100; decide), _, rfl, _, _, rfl, rfl, ⟨by decide, by decide⟩, _, rfl, _, rfl, _, _, rfl, rfl, _, _, rfl, _, rfl, _, rfl, _, _, rfl, rfl, ⟨by decide, by decide⟩, _, _, rfl, rfl, _, _, rfl, rfl, ⟨by decide, by decide, by decide⟩, by show 7 ≤ sizeLine; decide, fun p2 hp2 => ?_⟩
    dsimp only
    have t0 : (0 : Int) ≤ 10 ^ (30 : Int).toNat := by decide
    generalize (10 : Int) ^ (30 : Int).toNat = TT at t0 ⊢
    have mx : (0 : Int) ≤ (if b0 - 1 > 0 then b0 - 1 else 0) := by split <;> omega
    generalize (if b0 - 1 > 0 then b0 - 1 else 0) = mx0 at mx ⊢
    have nn : ∀ x ∈ [0, num / 6 % 100, b0 / 2, b0, mx0, b0 + num / 6, TT], (0 : Int) ≤ x := fun x hx => by
      simp only [List.mem_cons, List.not_mem_nil, or_false] at hx
      omega
    have s2 := same_upd (o := HO.lst [V.int 0, V.int (num / 6 % 100), V.int (b0 / 2), V.int b0, V.int mx0, V.int (b0 + num / 6), V.int TT]) hp2
    have l2 : upd H1 p2 (HO.lst [V.int 0, V.int (num / 6 % 100), V.int (b0 / 2), V.int b0, V.int mx0, V.int (b0 + num / 6), V.int TT]) p2 = some (.lst ([0, num / 6 % 100, b0 / 2, b0, mx0, b0 + num / 6, TT].map V.int)) := upd_same
    generalize upd H1 p2 (HO.lst [V.int 0, V.int (num / 6 % 100), V.int (b0 / 2), V.int b0, V.int mx0, V.int (b0 + num / 6), V.int TT]) = H2 at s2 l2 ⊢
    obtain ⟨cc, _, hc, hat⟩ := ints_at (ns := [0, num / 6 % 100, b0 / 2, b0, mx0, b0 + num / 6, TT]) (i := num % 7) (by omega) (by show num % 7 < 7; omega)
    exact ⟨_, rfl, _, rfl, _, _, rfl, rfl, (by show (0 : Int) < 7; decide), p2, _, _, _, rfl, rfl, .inl (.inl l2), hat, q cc H2 (s1.trans s2) (nn cc hc)⟩
theorem comp_cell {K : PySem.W.Frag} {σ : St} {H1 : Hp} {Q : VK} {tt : TT} {te : TE} {l : Addr} {d : Dr} {ys : List V} (p : Tr → Bool) (A : DrAt H1 l d ys) (hz : ys.length < sizeLine)
    (ht : ∀ x ∈ d, ∀ T, H1 T = some (.tup (triV x)) → ∀ H, Same H1 H → ∀ R : Bool → Hp → Prop, (∀ H', Same H H' → R (p x) H') → tt (some (.ref T) :: σ) H R)
    (he : ∀ x ∈ d, ∀ T, H1 T = some (.tup (triV x)) → ∀ H, Same H1 H → ∀ R : VK, (∀ H', Same H H' → R (.int x.2.2) H') → te (some (.ref T) :: σ) H R)
    (hq : ∀ D H, H1 D = none → Same H1 H → H D = some (.lst ((d.filter p).map fun x => V.int x.2.2)) → Q (.ref D) H) : CompOk (Itl K l) σ H1 Q tt te := by
  let rd : V → Tr := fun v => match v with | .ref T => (match H1 T with | some (.tup [.int a, .int b, .int c]) => (a, b, c) | _ => (0, 0, 0)) | _ => (0, 0, 0)
  have hrd : ∀ {x : Tr} {T : Addr}, H1 T = some (.tup (triV x)) → rd (.ref T) = x := fun {x T} h => by
    show (match H1 T with | some (.tup [.int a, .int b, .int c]) => (a, b, c) | _ => (0, 0, 0)) = x
    rw [h]
  refine comp_sq (K := K) (xs := ys) (fun v => p (rd v)) (fun v => V.int (rd v).2.2) (.inl (.inl A.l)) hz (fun y hy H' hs R k => ?_) (fun y hy _ H' hs R k => ?_) (fun D H2 hD hs hl => hq D H2 hD hs ?_)
  · obtain ⟨i, hi⟩ := List.getElem?_of_mem hy
    obtain ⟨x, T0, hx, hxd, rfl, hT⟩ := A.at hi
    rw [hrd hT] at k
    exact ht x hxd T0 hT H' hs R k
  · obtain ⟨i, hi⟩ := List.getElem?_of_mem hy
    obtain ⟨x, T0, hx, hxd, rfl, hT⟩ := A.at hi
    rw [hrd hT] at k
    exact he x hxd T0 hT H' hs R k
  · rw [hl]
    congr 2
    have key : ∀ {d : Dr} {ys : List V}, Paired (fun x v => TupAt H1 (triV x) v) d ys → (ys.filter fun v => p (rd v)).map (fun v => V.int (rd v).2.2) = (d.filter p).map fun x => V.int x.2.2 := fun {d ys} pr => by
      induction pr with
      | nil => rfl
      | @cons x v d ys h1 h2 ih =>
        obtain ⟨T0, rfl, hT⟩ := h1
        have e0 : p (rd (.ref T0)) = p x := by rw [hrd hT]
        rw [List.filter_cons, List.filter_cons, e0]
        by_cases hp : p x = true
        · rw [if_pos hp, if_pos hp, List.map_cons, List.map_cons, ih, hrd hT]
        · rw [if_neg hp, if_neg hp, ih]
    exact key A.p
theorem scSt : FnScope ["_law_draught_here", "_law_pump_here", "_law_cap_here", "_law_tick", "_law_ahead", "_law_behind", "_law_wind", "_law_there"] ["_law_draught_here", "_law_pump_here", "_law_cap_here", "_law_tick"] (defScope sSt) := ⟨rfl, rfl, rfl, by decide +kernel, rfl, by decide +kernel, by decide +kernel⟩
theorem ok_St (N : Fns K mg fGt fCo fFi fWl fLc fCa fLw fDn fDr fDg fPu fCp fSt dGt dCo dFi dWl dLc dCa dLw dDn dDr dDg dPu dCp dSt) (T : Txt K mg) : FnOk P w K mg base CX0 4 fSt dSt ["_law_draught_here", "_law_pump_here", "_law_cap_here", "_law_tick"] spSt := by
  have GLw : FnOk P w K mg base CX0 1 fLw dLw ["_law_found"] spWh := ok_Lw N T
  have GFi : FnOk P w K mg base CX0 3 fFi dFi ["draught", "pump", "cap"] spFi := ok_Fi N T
  have GWl : FnOk P w K mg base CX0 3 fWl dWl ["draught", "pump", "cap", "tick"] spWl := ok_Wl N T
  refine N.FSt.ok scSt (fun vs H Q E h => ?_) (fun cdv A outer s H vs Q E hr h => ?_)
  · obtain ⟨l, d, ys, P, cap, T1, rfl, _⟩ := h
    rfl
  · obtain ⟨l, d, ys, P, cap, T1, rfl, A, c, bd, hz, hP0, hP1, hc0, hT0, hT1, q⟩ := h
    have hrLw : Room 1 _ := hr.mono (by decide)
    have hrFi : Room 3 _ := hr.mono (by decide)
    have hrWl : Room 3 _ := hr.mono (by decide)
    refine ⟨_, (@pss_cons _ _ _ _ _ (@ps_setE _ _ _ _ _ _ 4 scSt.nd rfl (Or.inl rfl) (pv 2) (by kernel_rfl) (.inl rfl))
      (@pss_cons _ _ _ _ _ (@ps_if _ _ _ _ _ _ _ _ (pt_cmpR op_gt (pv 3) pe_int (nomark _)) (@pss_one _ _ _ (@ps_setE _ _ _ _ _ _ 4 scSt.nd rfl (Or.inl rfl) (pe_call GWl hrWl rfl N.mWl N.FWl.kp N.bWl .nil pass0 (@pa_c _ _ _ _ _ rfl (pv 0) (@pa_c _ _ _ _ _ rfl (pv 1) (@pa_c _ _ _ _ _ rfl (pv 2) (@pa_c _ _ _ _ _ rfl (pe_op op_sub (pv 3) pe_int) pa_nil))))) (by kernel_rfl) (.inl rfl))) pss_nil)
      (@pss_cons _ _ _ _ _ (@ps_setE _ _ _ _ _ _ 5 scSt.nd rfl (Or.inl rfl) (pe_call GWl hrWl rfl N.mWl N.FWl.kp N.bWl .nil pass0 (@pa_c _ _ _ _ _ rfl (pv 0) (@pa_c _ _ _ _ _ rfl (pv 1) (@pa_c _ _ _ _ _ rfl (pv 2) (@pa_c _ _ _ _ _ rfl (pv 3) pa_nil))))) (by kernel_rfl) (.inl rfl))
      (@pss_cons _ _ _ _ _ (@ps_if _ _ _ _ _ _ _ _ (pt_cmpR op_isN (pv 4) pe_non (nomark _)) (@pss_one _ _ _ (@ps_ret _ _ _ _ (pe_cmpR op_isN (pv 5) pe_non (nomark _)))) pss_nil)
      (@pss_cons _ _ _ _ _ (@ps_setE _ _ _ _ _ _ 6 scSt.nd rfl (Or.inl rfl) (@pe_ix _ _ _ _ _ _ _ ix_list (pe_comp rfl (compScope (osc := defScope sSt) (N := ["_law_draught_here", "_law_pump_here", "_law_cap_here", "_law_tick", "_law_ahead", "_law_behind", "_law_wind", "_law_there"]) rfl rfl (by decide +kernel)) (pi_list (pv 0)) (fun _ _ _ _ => (pf_one (pt_chain op_le op_lt (@pe_ix _ _ _ _ _ _ _ (ix_tupK (K := K) rfl) (pv 0) pe_int (fun _ _ => rfl)) (pv 4) (@pe_ix _ _ _ _ _ _ _ (ix_tupK (K := K) rfl) (pv 0) pe_int (fun _ _ => rfl))))) (fun _ _ _ _ => (@pe_ix _ _ _ _ _ _ _ (ix_tupK (K := K) rfl) (pv 0) pe_int (fun _ _ => rfl)))) pe_int (fun _ _ => rfl)) (by kernel_rfl) (.inl rfl))
      (@pss_cons _ _ _ _ _ (@ps_setE _ _ _ _ _ _ 7 scSt.nd rfl (Or.inl rfl) (pe_op op_sub (pe_op op_add (pv 4) (pv 1)) (pv 6)) (by kernel_rfl) (.inl rfl))
      (@pss_cons _ _ _ _ _ (@ps_if _ _ _ _ _ _ _ _ (pt_cmpR op_lt (pv 7) pe_int (nomark _)) (@pss_one _ _ _ (@ps_ret _ _ _ _ (pe_and (pe_cmpR op_isN (pv 5) pe_non (nomark _)) (pe_one (pe_cmpR op_eq (pe_call GFi hrFi rfl N.mFi N.FFi.kp N.bFi .nil pass0 (@pa_c _ _ _ _ _ rfl (pv 0) (@pa_c _ _ _ _ _ rfl (pv 1) (@pa_c _ _ _ _ _ rfl (pv 2) pa_nil)))) (pv 3) (nomark _)))))) pss_nil)
      (@pss_one _ _ _ (@ps_ret _ _ _ _ (pe_and (pe_call GLw hrLw rfl N.mLw N.FLw.kp N.bLw .nil pass0 (@pa_c _ _ _ _ _ rfl (pv 5) pa_nil)) (pe_one (pe_cmpR op_eq (pv 5) (pe_callB (call_min2 rfl) rfl T.min PyProof.Rows.boot_min (@pa_c _ _ _ _ _ rfl (pv 2) (@pa_c _ _ _ _ _ rfl (pv 7) pa_nil))) (nomark _))))))))))))), ?_⟩
    obtain ⟨x, hxd, ef, ex⟩ := tk_cell (P := P) c hT0 (by omega)
    rw [Int.sub_zero] at ex
    have et : (tk P d).take (T1 + 1).toNat = (tk P d).take T1.toNat ++ [x.2.2 - P] := by
      rw [show (T1 + 1).toNat = T1.toNat + 1 by omega]
      exact take_snoc ex
    have key := thV_snoc cap ((tk P d).take T1.toNat) (x.2.2 - P) hc0
    refine ⟨_, rfl, ?_⟩
    refine ⟨_, rfl, _, _, rfl, rfl, _, rfl, ?_⟩
    refine ite2 (fun h1 => ?thn) (fun h1 => ?els)
    case' thn =>
      have h1' : T1 > 0 := of_decide_eq_true h1
      refine ⟨_, rfl, _, rfl, _, rfl, _, rfl, _, _, rfl, rfl, l, d, ys, P, cap, T1 - 1, rfl, A, c, bd, hz, hP0, hc0, by omega, by omega, fun H1 s1 => ?_⟩
      rw [show (T1 - 1 + 1).toNat = T1.toNat by omega]
      generalize thV cap ((tk P d).take T1.toNat) = av at key ⊢
    case' els =>
      have h1' : T1 = 0 := by have : ¬ T1 > 0 := fun z => h1 (decide_eq_true z); omega
      have e0 : thV cap ((tk P d).take T1.toNat) = V.int cap := by
        rw [h1']
        show V.int (cap - 0) = V.int cap
        rw [Int.sub_zero]
      rw [e0] at key
      obtain ⟨H1, hH1⟩ : ∃ H1, H1 = H := ⟨H, rfl⟩
      have s1 : Same H H1 := by rw [hH1]; exact Same.refl H
      rw [← hH1]
    all_goals
      have A1 := A.mono s1
      refine ⟨_, rfl, _, rfl, _, rfl, _, rfl, l, d, ys, P, cap, T1, rfl, A1, c, bd, hz, hP0, hc0, hT0, hT1, fun H2 s2 => ?_⟩
      rw [et]
      have A2 := A1.mono s2
      have s02 := s1.trans s2
      rcases key with ⟨t, hf, ha, hb⟩ | ⟨hf, ha, hb⟩
      · refine ⟨_, rfl, rfl, _, rfl, iteTr (decide_eq_true ha) ⟨_, rfl, rfl, ?_⟩⟩
        rw [decide_eq_true hb]
        exact q _ s02
      · refine ⟨_, rfl, rfl, _, rfl, iteFa (decide_eq_false (by rw [ha]; intro z; cases z)) ?_⟩
        refine ⟨_, rfl, l, rfl, ⟨_, .inl (.inl A2.l)⟩, comp_cell (K := K) (fun y => decide (y.1 ≤ T1) && decide (T1 < y.2.1)) A2 (small1000 (by have := A2.len; omega)) (fun y hy Ty hTy H' hs R k => ?_) (fun y hy Ty hTy H' hs R k => ?_) (fun D H3 hD hs hl => ?_)⟩
        · refine ⟨_, rfl, Ty, _, _, _, rfl, rfl, .inl (.inl (hs _ _ hTy)), atI_nat (j := 0) rfl, _, rfl, _, _, rfl, rfl, _, rfl, ?_⟩
          refine ite2 (fun g1 => ?_) (fun g1 => ?_)
          · refine ⟨_, rfl, Ty, _, _, _, rfl, rfl, .inl (.inl (hs _ _ hTy)), atI_nat (j := 1) rfl, _, _, rfl, rfl, _, rfl, ?_⟩
            have := k H' (Same.refl H')
            rw [show decide (y.1 ≤ T1) = true from g1, Bool.true_and] at this
            exact this
          · have := k H' (Same.refl H')
            rw [show decide (y.1 ≤ T1) = false from (Bool.not_eq_true _).mp g1, Bool.false_and] at this
            exact ⟨_, rfl, this⟩
        · exact ⟨_, rfl, Ty, _, _, _, rfl, rfl, .inl (.inl (hs _ _ hTy)), atI_nat (j := 2) rfl, k H' (Same.refl H')⟩
        rw [ef] at hl
        have hl' : H3 D = some (.lst [V.int x.2.2]) := hl
        refine ⟨D, _, _, _, rfl, rfl, .inl (.inl hl'), atI_nat (j := 0) rfl, ?_⟩
        have A3 := A2.mono hs
        refine ⟨_, rfl, _, rfl, _, _, ha, rfl, _, rfl, _, _, rfl, rfl, ?_⟩
        refine ⟨_, rfl, _, _, rfl, rfl, _, rfl, ?_⟩
        have e9 : cap - EF 0 ((tk P d).take T1.toNat) + P - x.2.2 = cap - EF 0 ((tk P d).take T1.toNat) - (x.2.2 - P) := by omega
        rw [e9]
        rcases hb with ⟨hb1, hb2⟩ | ⟨hb1, hb2⟩
        · refine iteD hb1 ?_
          refine ⟨_, rfl, rfl, _, rfl, iteTr (decide_eq_true hb2) ?_⟩
          refine ⟨_, rfl, _, rfl, _, rfl, l, d, ys, P, cap, rfl, A3, c, bd, hP0, hc0, fun H4 s4 => ?_⟩
          rw [fl_here ex hf (by show EF 0 ((tk P d).take T1.toNat) + _ > cap; omega)]
          refine ⟨_, rfl, rfl, ?_⟩
          have e8 : decide (V.int ((T1.toNat : Nat) : Int) = V.int T1) = true := decide_eq_true (by rw [Int.toNat_of_nonneg hT0])
          show Q (V.bl (decide (V.int ((T1.toNat : Nat) : Int) = V.int T1))) _
          rw [e8]
          exact q _ (s02.trans (hs.trans s4))
        · refine iteND hb1 ?_
          refine ⟨_, rfl, _, true, rfl, .inl ⟨_, hb2, rfl⟩, _, rfl, iteT ?_⟩
          refine ⟨_, rfl, _, rfl, _, rfl, _, _, rfl, ?_⟩
          rw [hb2]
          refine ⟨rfl, ?_⟩
          have e6 : decide (V.int (min cap (cap - EF 0 ((tk P d).take T1.toNat) - (x.2.2 - P))) = V.int (if cap - EF 0 ((tk P d).take T1.toNat) + P - x.2.2 < cap then cap - EF 0 ((tk P d).take T1.toNat) + P - x.2.2 else cap)) = true := decide_eq_true (by congr 1; split <;> omega)
          rw [e6]
          exact q _ (s02.trans hs)
theorem last_of {H : Hp} {l : Addr} {d : Dr} {ys : List V} (A : DrAt H l d ys) (c : Chain 0 d) (hne : d ≠ []) (P : Int) : ∃ x T, x ∈ d ∧ x.2.1 = ((tk P d).length : Int) ∧ H T = some (.tup (triV x)) ∧ atI ys (-1) = some (.ref T) := by
  have e : d = d.dropLast ++ [d.getLast hne] := (List.dropLast_concat_getLast _).symm
  have hl := c.len P e
  have hyn : ys ≠ [] := fun z => hne (List.length_eq_zero_iff.mp (by rw [A.len, z]; rfl))
  have ey : ys = ys.dropLast ++ [ys.getLast hyn] := (List.dropLast_concat_getLast _).symm
  have hn : ys.dropLast.length = d.dropLast.length := by rw [List.length_dropLast, List.length_dropLast, A.len]
  have hg : ys[d.dropLast.length]? = some (ys.getLast hyn) := by
    have hlt : ys.length - 1 < ys.length := by have := List.length_pos_iff.mpr hyn; omega
    rw [← hn, List.length_dropLast, List.getLast_eq_getElem, List.getElem?_eq_getElem hlt]
  obtain ⟨x, T, hx, hxd, ey2, hT⟩ := A.at hg
  have hx2 : x = d.getLast hne := by
    have hlt : d.length - 1 < d.length := by have := List.length_pos_iff.mpr hne; omega
    rw [List.length_dropLast, List.getElem?_eq_getElem hlt] at hx
    rw [List.getLast_eq_getElem]
    exact (Option.some.inj hx).symm
  refine ⟨x, T, hxd, by rw [hx2]; omega, hT, ?_⟩
  rw [ey, ey2]
  exact at_last
theorem scLaw : FnScope ["_law_script", "_law_draught_here", "_law_pump_here", "_law_cap_here", "_law_length", "_law_lack", "_law_ticks", "_law_cell", "_law_number", "_law_one", "_law_some", "_law_tick"] ["_law_script"] (defScope sLaw) := ⟨rfl, rfl, rfl, by decide +kernel, rfl, by decide +kernel, by decide +kernel⟩
theorem ok_law {f : Addr} {fd : FuncData} (F : Fun K "law" "law" sLaw f fd) (T : Txt K mg) (N : Fns K mg fGt fCo fFi fWl fLc fCa fLw fDn fDr fDg fPu fCp fSt dGt dCo dFi dWl dLc dCa dLw dDn dDr dDg dPu dCp dSt) : FnOk P w K mg base CX0 5 f fd ["_law_script"] (spLaw K) := by
  have GLw : FnOk P w K mg base CX0 1 fLw dLw ["_law_found"] spWh := ok_Lw N T
  have GDg : FnOk P w K mg base CX0 2 fDg dDg ["_law_script", "_law_start", "_law_far"] (spDg K) := ok_Dg N T
  have GPu : FnOk P w K mg base CX0 2 fPu dPu ["_law_script", "_law_draught_here"] (spPu K) := ok_Pu N T
  have GCp : FnOk P w K mg base CX0 2 fCp dCp ["_law_script", "_law_draught_here", "_law_pump_here"] (spCp K) := ok_Cp N T
  have GFi : FnOk P w K mg base CX0 3 fFi dFi ["draught", "pump", "cap"] spFi := ok_Fi N T
  have GWl : FnOk P w K mg base CX0 3 fWl dWl ["draught", "pump", "cap", "tick"] spWl := ok_Wl N T
  have GSt : FnOk P w K mg base CX0 4 fSt dSt ["_law_draught_here", "_law_pump_here", "_law_cap_here", "_law_tick"] spSt := ok_St N T
  refine F.ok scLaw (fun vs H Q E h => ?_) (fun cdv A outer s H vs Q E hr h => ?_)
  · obtain ⟨a, ns, rfl, _⟩ := h
    rfl
  · obtain ⟨a, ns, rfl, hS, hz, q⟩ := h
    have hrLw : Room 1 _ := hr.mono (by decide)
    have hrDg : Room 2 _ := hr.mono (by decide)
    have hrPu : Room 2 _ := hr.mono (by decide)
    have hrCp : Room 2 _ := hr.mono (by decide)
    have hrFi : Room 3 _ := hr.mono (by decide)
    have hrWl : Room 3 _ := hr.mono (by decide)
    have hrSt : Room 4 _ := hr.mono (by decide)
    refine ⟨_, (@pss_cons _ _ _ _ _ (@ps_setE _ _ _ _ _ _ 1 scLaw.nd rfl (Or.inl rfl) (pe_call GDg hrDg rfl N.mDg N.FDg.kp N.bDg .nil pass0 (@pa_c _ _ _ _ _ rfl (pv 0) (@pa_c _ _ _ _ _ rfl pe_int (@pa_c _ _ _ _ _ rfl pe_bl pa_nil)))) (by kernel_rfl) (.inl rfl))
      (@pss_cons _ _ _ _ _ (@ps_setE _ _ _ _ _ _ 2 scLaw.nd rfl (Or.inl rfl) (pe_call GPu hrPu rfl N.mPu N.FPu.kp N.bPu .nil pass0 (@pa_c _ _ _ _ _ rfl (pv 0) (@pa_c _ _ _ _ _ rfl (pv 1) pa_nil))) (by kernel_rfl) (.inl rfl))
      (@pss_cons _ _ _ _ _ (@ps_setE _ _ _ _ _ _ 3 scLaw.nd rfl (Or.inl rfl) (pe_call GCp hrCp rfl N.mCp N.FCp.kp N.bCp .nil pass0 (@pa_c _ _ _ _ _ rfl (pv 0) (@pa_c _ _ _ _ _ rfl (pv 1) (@pa_c _ _ _ _ _ rfl (pv 2) pa_nil)))) (by kernel_rfl) (.inl rfl))
      (@pss_cons _ _ _ _ _ (@ps_setE _ _ _ _ _ _ 4 scLaw.nd rfl (Or.inl rfl) (@pe_ix _ _ _ _ _ _ _ (ix_tupK (K := K) rfl) (@pe_ix _ _ _ _ _ _ _ ix_list (pv 1) (pe_un un_neg pe_int) (fun _ _ => rfl)) pe_int (fun _ _ => rfl)) (by kernel_rfl) (.inl rfl))
      (@pss_cons _ _ _ _ _ (@ps_setE _ _ _ _ _ _ 5 scLaw.nd rfl (Or.inl rfl) (pe_call GFi hrFi rfl N.mFi N.FFi.kp N.bFi .nil pass0 (@pa_c _ _ _ _ _ rfl (pv 1) (@pa_c _ _ _ _ _ rfl (pv 2) (@pa_c _ _ _ _ _ rfl (pv 3) pa_nil)))) (by kernel_rfl) (.inl rfl))
      (@pss_cons _ _ _ _ _ (@ps_setE _ _ _ _ _ _ 6 scLaw.nd rfl (Or.inl rfl) (@pe_lst _ _ _ _ (@pa_c _ _ _ _ _ rfl pe_int (@pa_c _ _ _ _ _ rfl (pe_op op_sub (pv 4) pe_int) pa_nil))) (by kernel_rfl) (.inl rfl))
      (@pss_cons _ _ _ _ _ (@ps_if _ _ _ _ _ _ _ _ (pt_cmpR op_notN (pv 5) pe_non (nomark _)) (@pss_cons _ _ _ _ _ (@ps_if _ _ _ _ _ _ _ _ (PW.pt (pw_or (pt_not (pt_val (pe_call GLw hrLw rfl N.mLw N.FLw.kp N.bLw .nil pass0 (@pa_c _ _ _ _ _ rfl (pv 5) pa_nil)))) (pw_or (pt_not (pt_chain op_le op_lt pe_int (pv 5) (pv 4))) (pw_or1 (pt_cmpR op_notN (pe_call GWl hrWl rfl N.mWl N.FWl.kp N.bWl .nil pass0 (@pa_c _ _ _ _ _ rfl (pv 1) (@pa_c _ _ _ _ _ rfl (pv 2) (@pa_c _ _ _ _ _ rfl (pv 3) (@pa_c _ _ _ _ _ rfl (pv 5) pa_nil))))) pe_non (nomark _)))))) (@pss_one _ _ _ (@ps_ret _ _ _ _ pe_bl)) pss_nil)
      (@pss_one _ _ _ (@ps_setE _ _ _ _ _ _ 6 scLaw.nd rfl (Or.inl rfl) (pe_op op_cat (pv 6) (@pe_lst _ _ _ _ (@pa_c _ _ _ _ _ rfl (pv 5) (@pa_c _ _ _ _ _ rfl (pe_callB (call_max2 rfl) rfl T.max PyProof.Rows.boot_max (@pa_c _ _ _ _ _ rfl pe_int (@pa_c _ _ _ _ _ rfl (pe_op op_sub (pv 5) pe_int) pa_nil))) pa_nil)))) (by kernel_rfl) (.inl rfl)))) (@pss_one _ _ _ (@ps_if _ _ _ _ _ _ _ _ (pt_cmpR op_isN (pe_call GWl hrWl rfl N.mWl N.FWl.kp N.bWl .nil pass0 (@pa_c _ _ _ _ _ rfl (pv 1) (@pa_c _ _ _ _ _ rfl (pv 2) (@pa_c _ _ _ _ _ rfl (pv 3) (@pa_c _ _ _ _ _ rfl (pe_op op_sub (pv 4) pe_int) pa_nil))))) pe_non (nomark _)) (@pss_one _ _ _ (@ps_ret _ _ _ _ pe_bl)) pss_nil)))
      (@pss_cons _ _ _ _ _ (ps_for PassesOwn.never rfl (pi_list (pe_slice sl_list (pv 0) (po_some pe_int) (po_some pe_int))) (pg_name (i := 7) scLaw.nd rfl (Or.inl rfl)) (@pss_cons _ _ _ _ _ (@ps_setE _ _ _ _ _ _ 8 scLaw.nd rfl (Or.inl rfl) (pe_op op_fdiv (pe_op op_mod (pe_op op_mul (pv 7) pe_int) pe_int) pe_int) (by kernel_rfl) (.inl rfl))
      (@pss_cons _ _ _ _ _ (@ps_setE _ _ _ _ _ _ 9 scLaw.nd rfl (Or.inl rfl) (@pe_ix _ _ _ _ _ _ _ ix_list (pv 1) (pe_op op_mod (pe_op op_fdiv (pv 8) pe_int) (pe_callB call_len_seq rfl T.len PySem.boot_len (@pa_c _ _ _ _ _ rfl (pv 1) pa_nil))) (fun _ _ => rfl)) (by kernel_rfl) (.inl rfl))
      (@pss_cons _ _ _ _ _ (@ps_setE _ _ _ _ _ _ 10 scLaw.nd rfl (Or.inl rfl) (@pe_lst _ _ _ _ (@pa_c _ _ _ _ _ rfl (@pe_ix _ _ _ _ _ _ _ (ix_tupK (K := K) rfl) (pv 9) pe_int (fun _ _ => rfl)) (@pa_c _ _ _ _ _ rfl (pe_op op_sub (@pe_ix _ _ _ _ _ _ _ (ix_tupK (K := K) rfl) (pv 9) pe_int (fun _ _ => rfl)) pe_int) (@pa_c _ _ _ _ _ rfl (pe_op op_add (@pe_ix _ _ _ _ _ _ _ (ix_tupK (K := K) rfl) (pv 9) pe_int (fun _ _ => rfl)) (pe_op op_mod (pe_op op_mul (pv 8) pe_int) (pe_op op_sub (@pe_ix _ _ _ _ _ _ _ (ix_tupK (K := K) rfl) (pv 9) pe_int (fun _ _ => rfl)) (@pe_ix _ _ _ _ _ _ _ (ix_tupK (K := K) rfl) (pv 9) pe_int (fun _ _ => rfl))))) (@pa_c _ _ _ _ _ rfl (pe_op op_fdiv (pe_op op_add (@pe_ix _ _ _ _ _ _ _ (ix_tupK (K := K) rfl) (pv 9) pe_int (fun _ _ => rfl)) (@pe_ix _ _ _ _ _ _ _ (ix_tupK (K := K) rfl) (pv 9) pe_int (fun _ _ => rfl))) pe_int) pa_nil))))) (by kernel_rfl) (.inl rfl))
      (@pss_one _ _ _ (ps_expr (pe_bm PySem.F.plainAttrs_list PySem.F.slot_list_append PySem.F.type_list_append mt_append (pv 6) (@pa_c _ _ _ _ _ rfl (@pe_ix _ _ _ _ _ _ _ ix_list (pv 10) (pe_op op_mod (pv 8) pe_int) (fun _ _ => rfl)) pa_nil))))))))
      (@pss_cons _ _ _ _ _ (ps_for PassesOwn.never rfl (pi_list (pv 6)) (pg_name (i := 11) scLaw.nd rfl (Or.inl rfl)) (@pss_one _ _ _ (@ps_if _ _ _ _ _ _ _ _ (pt_not (pt_val (pe_call GSt hrSt rfl N.mSt N.FSt.kp N.bSt .nil pass0 (@pa_c _ _ _ _ _ rfl (pv 1) (@pa_c _ _ _ _ _ rfl (pv 2) (@pa_c _ _ _ _ _ rfl (pv 3) (@pa_c _ _ _ _ _ rfl (pv 11) pa_nil))))))) (@pss_one _ _ _ (@ps_ret _ _ _ _ pe_bl)) pss_nil)))
      (@pss_one _ _ _ (@ps_ret _ _ _ _ pe_bl))))))))))), ?_⟩
    refine ⟨_, rfl, a, 2, true, ns, rfl, hS, hz, fun l ys d H1 s1 A1 c1 hne hlen bd bs => ?_⟩
    clear bs
    refine ⟨_, rfl, _, rfl, a, l, ns, d, ys, rfl, s1.seq hS, A1, hne, hlen, bd, fun P H2 s2 P0 P1 => ?_⟩
    have A2 := A1.mono s2
    have s12 := s1.trans s2
    refine ⟨_, rfl, _, rfl, _, rfl, a, l, ns, d, ys, P, rfl, s12.seq hS, A2, c1, bd, by omega, P0, fun cap H3 s3 hc0 => ?_⟩
    have A3 := A2.mono s3
    have s13 := s12.trans s3
    clear A1 A2 s1 s2 s12 s3
    obtain ⟨x, T0, hxd, hx2, hT, hat⟩ := last_of A3 c1 hne P
    have hLp : 0 < (tk P d).length := by
      have := chain_in (P := P) c1 hxd
      omega
    refine ⟨_, rfl, _, rfl, l, _, _, _, rfl, rfl, .inl (.inl A3.l), hat, T0, _, _, _, rfl, rfl, .inl (.inl hT), atI_nat (j := 1) rfl, ?_⟩
    show gName 4 (V.int x.2.1) _ _ _
    rw [hx2]
    refine ⟨_, rfl, _, rfl, _, rfl, l, d, ys, P, cap, rfl, A3, c1, bd, P0, hc0, fun H4 s4 => ?_⟩
    have A4 := A3.mono s4
    have s14 := s13.trans s4
    clear A3 s13 s4 hT hat T0
    refine ⟨_, rfl, _, _, rfl, rfl, by show 2 ≤ sizeLine; decide, fun p5 hp5 => ?_⟩
    have s5 := same_upd (o := HO.lst [V.int 0, V.int (((tk P d).length : Int) - 1)]) hp5
    have l5 : upd H4 p5 (HO.lst [V.int 0, V.int (((tk P d).length : Int) - 1)]) p5 = some (.lst ([0, ((tk P d).length : Int) - 1].map V.int)) := upd_same
    have t5 : ∀ t ∈ [0, ((tk P d).length : Int) - 1], 0 ≤ t ∧ t < ((tk P d).length : Int) := fun t ht => by
      simp only [List.mem_cons, List.not_mem_nil, or_false] at ht
      omega
    generalize upd H4 p5 (HO.lst [V.int 0, V.int (((tk P d).length : Int) - 1)]) = H5 at s5 l5 ⊢
    refine ⟨_, rfl, rfl, _, rfl, ?_⟩
    cases hf : fl cap 0 (tk P d) with
    | some t =>
      obtain ⟨f1, f2, f3⟩ := fl_some hc0 _ hf
      obtain ⟨u, hu⟩ := fl_upto hc0 hf
      refine iteTr rfl ?_
      refine ⟨_, rfl, _, true, rfl, .inl ⟨_, rfl, rfl⟩, _, rfl, iteF ?_⟩
      refine ⟨_, rfl, _, _, rfl, rfl, _, rfl, iteD (by omega) ⟨_, rfl, _, _, rfl, rfl, _, rfl, ?_⟩⟩
      have e1 : decide ((t : Int) < ((tk P d).length : Int)) = true := decide_eq_true (by omega)
      rw [e1]
      refine iteF ?_
      refine ⟨_, rfl, _, rfl, _, rfl, _, rfl, l, d, ys, P, cap, (t : Int), rfl, A4.mono s5, c1, bd, by omega, P0, hc0, by omega, by omega, fun H6 s6 => ?_⟩
      have e2 : thV cap ((tk P d).take ((t : Int) + 1).toNat) = V.non := by
        rw [show ((t : Int) + 1).toNat = t + 1 by omega]
        unfold thV
        rw [hu]
        rfl
      rw [e2]
      refine ⟨rfl, _, rfl, iteF ?_⟩
      refine ⟨_, rfl, _, rfl, _, rfl, _, _, rfl, rfl, _, _, rfl, by show 2 ≤ sizeLine; decide, fun p7 hp7 => ?_⟩
      have s7 := same_upd (o := HO.lst [oV (some t), V.int (if (t : Int) - 1 > 0 then (t : Int) - 1 else 0)]) hp7
      have l7 : upd H6 p7 (HO.lst [oV (some t), V.int (if (t : Int) - 1 > 0 then (t : Int) - 1 else 0)]) p7 = some (.lst ([(t : Int), (if (t : Int) - 1 > 0 then (t : Int) - 1 else 0)].map V.int)) := upd_same
      generalize upd H6 p7 (HO.lst [oV (some t), V.int (if (t : Int) - 1 > 0 then (t : Int) - 1 else 0)]) = H7 at s7 l7 ⊢
      refine ⟨p5, p7, _, _, rfl, rfl, s7 _ _ (s6 _ _ l5), l7, line20 (by simp), fun p hp => ?_⟩
      have t8 : ∀ z ∈ [0, ((tk P d).length : Int) - 1] ++ [(t : Int), (if (t : Int) - 1 > 0 then (t : Int) - 1 else 0)], 0 ≤ z ∧ z < ((tk P d).length : Int) := fun z hz => by
        simp only [List.mem_append, List.mem_cons, List.not_mem_nil, or_false] at hz
        rcases hz with (h | h) | h | h
        · omega
        · omega
        · omega
        · rw [h]; split <;> omega
      have l8 : upd H7 p (HO.lst ([0, ((tk P d).length : Int) - 1].map V.int ++ [(t : Int), (if (t : Int) - 1 > 0 then (t : Int) - 1 else 0)].map V.int)) p = some (.lst (([0, ((tk P d).length : Int) - 1] ++ [(t : Int), (if (t : Int) - 1 > 0 then (t : Int) - 1 else 0)]).map V.int)) := by rw [upd_same, List.map_append]
      have hzl : ([0, ((tk P d).length : Int) - 1] ++ [(t : Int), (if (t : Int) - 1 > 0 then (t : Int) - 1 else 0)]).length ≤ 4 := by simp
      have s47 := s5.trans (s6.trans s7)
      have s8 := s47.trans (same_upd (o := HO.lst ([0, ((tk P d).length : Int) - 1].map V.int ++ [(t : Int), (if (t : Int) - 1 > 0 then (t : Int) - 1 else 0)].map V.int)) hp)
      have fr := s47.free hp
      generalize upd H7 p (HO.lst ([0, ((tk P d).length : Int) - 1].map V.int ++ [(t : Int), (if (t : Int) - 1 > 0 then (t : Int) - 1 else 0)].map V.int)) = H8 at l8 s8 ⊢
      generalize [0, ((tk P d).length : Int) - 1] ++ [(t : Int), (if (t : Int) - 1 > 0 then (t : Int) - 1 else 0)] = ts at l8 t8 hzl
      refine ⟨_, rfl, _, rfl, _, rfl, a, _, rfl, (s14.trans s8).seq hS, fun p2 hp2 => ?_⟩
      obtain ⟨ms, em, hml⟩ := cut_ints ns (some 3) (some 33)
      rw [em]
      have npp : p2 ≠ p := Ne.symm (ne_of_none l8 hp2)
      have s9 := same_upd (o := HO.lst (ms.map V.int)) hp2
      have l9 : upd H8 p2 (HO.lst (ms.map V.int)) p2 = some (.lst (ms.map V.int)) := upd_same
      have k9 := s9 _ _ l8
      have s49 := s8.trans s9
      generalize upd H8 p2 (HO.lst (ms.map V.int)) = H9 at s9 l9 k9 s49 ⊢
      refine ⟨p2, rfl, ⟨_, .inl (.inl l9)⟩, for_list (K := K) (a := p2) (xs := ms.map V.int) (fun i σ HH => ∃ (us : List Int) (v7 v8 v9 v10 : Option V), σ = [some (.ref a), some (.ref l), some (.int P), some (.int cap), some (.int ((tk P d).length : Int)), some (V.int (t : Int)), some (.ref p), v7, v8, v9, v10, none] ∧ HH p = some (.lst (us.map V.int)) ∧ (∀ z ∈ us, 0 ≤ z ∧ z < ((tk P d).length : Int)) ∧ us.length ≤ 4 + i ∧ Same H4 HH ∧ HH p2 = some (.lst (ms.map V.int))) ⟨ts, _, _, _, _, rfl, k9, t8, hzl, s49, l9⟩ (fun i σ HH _ h => by obtain ⟨_, _, _, _, _, _, _, _, _, _, h⟩ := h; exact .inl (.inl h)) ?_ ?_⟩
      · rintro i y σ HH hi ⟨us, v7, v8, v9, v10, rfl, lu, tu, hul, sH, l2H⟩
        have hil : i < ms.length := by have := (List.getElem?_eq_some_iff.mp hi).1; rw [List.length_map] at this; exact this
        rw [List.getElem?_map] at hi
        obtain ⟨cell, _, rfl⟩ := Option.map_eq_some_iff.mp hi
        have AH := A4.mono sH
        refine ⟨_, rfl, _, _, rfl, rfl, .inr ⟨by decide, by decide⟩, _, _, rfl, rfl, (by show (0 : Int) < 2147483647; decide), _, _, rfl, rfl, ⟨by decide, by decide⟩, ?_⟩
        have nb : 0 ≤ cell * 764261123 % 2147483647 / 8 ∧ cell * 764261123 % 2147483647 / 8 < 268435456 := by omega
        show gName 8 (V.int (cell * 764261123 % 2147483647 / 8)) _ _ _
        generalize cell * 764261123 % 2147483647 / 8 = num at nb
        have hyl : 0 < ys.length := by
          have := AH.len
          have : d.length ≠ 0 := fun z => hne (List.length_eq_zero_iff.mp z)
          omega
        have m0 := Int.emod_nonneg (num / 4) (show (ys.length : Int) ≠ 0 by omega)
        have m1 := Int.emod_lt_of_pos (num / 4) (show 0 < (ys.length : Int) by omega)
        obtain ⟨yv, hyv⟩ : ∃ yv, ys[(num / 4 % (ys.length : Int)).toNat]? = some yv := ⟨_, List.getElem?_eq_getElem (by omega)⟩
        obtain ⟨x, T0, _, hxd, rfl, hT⟩ := AH.at hyv
        obtain ⟨cx0, cx1, cx2⟩ := chain_in (P := P) c1 hxd
        have hat := atI_nat hyv
        rw [show (((num / 4 % (ys.length : Int)).toNat : Nat) : Int) = num / 4 % (ys.length : Int) by omega] at hat
        refine ⟨_, rfl, _, rfl, _, _, rfl, rfl, ⟨by decide, by decide⟩, _, rfl, l, _, rfl, .inl (.inl (.inl AH.l)), _, _, rfl, rfl, (by show 0 < (ys.length : Int); omega), l, _, _, _, rfl, rfl, .inl (.inl AH.l), hat, ?_⟩
        have qT : SqT K HH T0 (triV x) := .inl (.inl hT)
        refine ⟨_, rfl, T0, _, _, _, rfl, rfl, qT, atI_nat (j := 0) rfl, _, rfl, T0, _, _, _, rfl, rfl, qT, atI_nat (j := 1) rfl, _, _, rfl, rfl, _, rfl, T0, _, _, _, rfl, rfl, qT, atI_nat (j := 0) rfl, _, rfl, _, _, rfl, rfl, .inr ⟨by decide, by decide⟩, _, rfl, T0, _, _, _, rfl, rfl, qT, atI_nat (j := 1) rfl, _, rfl, T0, _, _, _, rfl, rfl, qT, atI_nat (j := 0) rfl, _, _, rfl, rfl, _, _, rfl, rfl, (by show 0 < x.2.1 - x.1; omega), _, _, rfl, rfl, _, rfl, T0, _, _, _, rfl, rfl, qT, atI_nat (j := 0) rfl, _, rfl, T0, _, _, _, rfl, rfl, qT, atI_nat (j := 1) rfl, _, _, rfl, rfl, _, _, rfl, rfl, ⟨by decide, by decide⟩, by show 4 ≤ sizeLine; decide, fun pa hpa => ?_⟩
        have r0 := Int.emod_nonneg (num * 4) (show x.2.1 - x.1 ≠ 0 by omega)
        have r1 := Int.emod_lt_of_pos (num * 4) (show 0 < x.2.1 - x.1 by omega)
        generalize num * 4 % (x.2.1 - x.1) = rr at r0 r1 ⊢
        have ta : ∀ z ∈ [x.1, x.2.1 - 1, x.1 + rr, (x.1 + x.2.1) / 2], 0 ≤ z ∧ z < ((tk P d).length : Int) := fun z hz => by
          simp only [List.mem_cons, List.not_mem_nil, or_false] at hz
          omega
        have sa := same_upd (o := HO.lst [V.int x.1, V.int (x.2.1 - 1), V.int (x.1 + rr), V.int ((x.1 + x.2.1) / 2)]) hpa
        have la : upd HH pa (HO.lst [V.int x.1, V.int (x.2.1 - 1), V.int (x.1 + rr), V.int ((x.1 + x.2.1) / 2)]) pa = some (.lst ([x.1, x.2.1 - 1, x.1 + rr, (x.1 + x.2.1) / 2].map V.int)) := upd_same
        generalize upd HH pa (HO.lst [V.int x.1, V.int (x.2.1 - 1), V.int (x.1 + rr), V.int ((x.1 + x.2.1) / 2)]) = HI at sa la ⊢
        obtain ⟨c, _, hc, hca⟩ := ints_at (ns := [x.1, x.2.1 - 1, x.1 + rr, (x.1 + x.2.1) / 2]) (i := num % 4) (by omega) (by show num % 4 < 4; omega)
        have lu' := sa _ _ lu
        refine ⟨_, rfl, .inl ⟨rfl, _, .inl (.inl lu')⟩, _, rfl, _, rfl, _, _, rfl, rfl, (by show (0 : Int) < 4; decide), pa, _, _, _, rfl, rfl, .inl (.inl la), hca, p, _, _, rfl, rfl, lu', small1000 (by rw [List.length_map]; omega), ?_⟩
        refine ⟨us ++ [c], _, _, _, _, rfl, by rw [upd_same, List.map_append]; rfl, fun z hz => ?_, by rw [List.length_append, List.length_singleton]; omega, fun b o e => by rw [upd_ne (ne_of_none e fr)]; exact sa _ _ (sH b o e), by rw [upd_ne npp]; exact sa _ _ l2H⟩
        rcases List.mem_append.mp hz with h | h
        · exact tu z h
        · rw [List.mem_singleton.mp h]; exact ta c hc
      · rintro σ HH ⟨us, v7, v8, v9, v10, rfl, lu, tu, hul, sH, l2H⟩
        refine ⟨_, rfl, p, rfl, ⟨_, .inl (.inl lu)⟩, for_list (K := K) (a := p) (xs := us.map V.int) (fun i σ HJ => Same HH HJ ∧ ∃ (v11 : Option V), σ = [some (.ref a), some (.ref l), some (.int P), some (.int cap), some (.int ((tk P d).length : Int)), some (V.int (t : Int)), some (.ref p), v7, v8, v9, v10, v11]) ⟨Same.refl _, _, rfl⟩ (fun i σ HJ _ h => .inl (.inl (h.1 _ _ lu))) ?_ ?_⟩
        · rintro i y σ HJ hi ⟨sJ, v11, rfl⟩
          rw [List.getElem?_map] at hi
          obtain ⟨z, hz, rfl⟩ := Option.map_eq_some_iff.mp hi
          have hzb := tu z (List.mem_of_getElem? hz)
          exact ⟨_, rfl, _, rfl, _, rfl, _, rfl, l, d, ys, P, cap, z, rfl, A4.mono (sH.trans sJ), c1, bd, by omega, P0, P1, hc0, hzb.1, hzb.2, fun HK sK => ⟨_, rfl, iteF ⟨sJ.trans sK, _, rfl⟩⟩⟩
        · rintro σ HJ ⟨sJ, v11, rfl⟩
          exact q _
    | none =>
      refine iteFa rfl ?_
      refine ⟨_, rfl, _, rfl, _, rfl, _, rfl, _, _, rfl, rfl, l, d, ys, P, cap, ((tk P d).length : Int) - 1, rfl, A4.mono s5, c1, bd, by omega, P0, hc0, by omega, by omega, fun H6 s6 => ?_⟩
      have e2 : thV cap ((tk P d).take (((tk P d).length : Int) - 1 + 1).toNat) = V.int (cap - EF 0 (tk P d)) := by
        rw [show (((tk P d).length : Int) - 1 + 1).toNat = (tk P d).length by omega, List.take_length]
        unfold thV
        rw [hf]
        rfl
      rw [e2]
      refine ⟨rfl, _, rfl, iteF ?_⟩
      have l8 := s6 _ _ l5
      have t8 := t5
      have hzl : ([0, ((tk P d).length : Int) - 1]).length ≤ 4 := by simp
      have s8 := s5.trans s6
      have fr := hp5
      generalize H6 = H8 at l8 s8 ⊢
      generalize [0, ((tk P d).length : Int) - 1] = ts at l8 t8 hzl
      generalize p5 = p at l8 fr ⊢
      refine ⟨_, rfl, _, rfl, _, rfl, a, _, rfl, (s14.trans s8).seq hS, fun p2 hp2 => ?_⟩
      obtain ⟨ms, em, hml⟩ := cut_ints ns (some 3) (some 33)
      rw [em]
      have npp : p2 ≠ p := Ne.symm (ne_of_none l8 hp2)
      have s9 := same_upd (o := HO.lst (ms.map V.int)) hp2
      have l9 : upd H8 p2 (HO.lst (ms.map V.int)) p2 = some (.lst (ms.map V.int)) := upd_same
      have k9 := s9 _ _ l8
      have s49 := s8.trans s9
      generalize upd H8 p2 (HO.lst (ms.map V.int)) = H9 at s9 l9 k9 s49 ⊢
      refine ⟨p2, rfl, ⟨_, .inl (.inl l9)⟩, for_list (K := K) (a := p2) (xs := ms.map V.int) (fun i σ HH => ∃ (us : List Int) (v7 v8 v9 v10 : Option V), σ = [some (.ref a), some (.ref l), some (.int P), some (.int cap), some (.int ((tk P d).length : Int)), some V.non, some (.ref p), v7, v8, v9, v10, none] ∧ HH p = some (.lst (us.map V.int)) ∧ (∀ z ∈ us, 0 ≤ z ∧ z < ((tk P d).length : Int)) ∧ us.length ≤ 4 + i ∧ Same H4 HH ∧ HH p2 = some (.lst (ms.map V.int))) ⟨ts, _, _, _, _, rfl, k9, t8, hzl, s49, l9⟩ (fun i σ HH _ h => by obtain ⟨_, _, _, _, _, _, _, _, _, _, h⟩ := h; exact .inl (.inl h)) ?_ ?_⟩
      · rintro i y σ HH hi ⟨us, v7, v8, v9, v10, rfl, lu, tu, hul, sH, l2H⟩
        have hil : i < ms.length := by have := (List.getElem?_eq_some_iff.mp hi).1; rw [List.length_map] at this; exact this
        rw [List.getElem?_map] at hi
        obtain ⟨cell, _, rfl⟩ := Option.map_eq_some_iff.mp hi
        have AH := A4.mono sH
        refine ⟨_, rfl, _, _, rfl, rfl, .inr ⟨by decide, by decide⟩, _, _, rfl, rfl, (by show (0 : Int) < 2147483647; decide), _, _, rfl, rfl, ⟨by decide, by decide⟩, ?_⟩
        have nb : 0 ≤ cell * 764261123 % 2147483647 / 8 ∧ cell * 764261123 % 2147483647 / 8 < 268435456 := by omega
        show gName 8 (V.int (cell * 764261123 % 2147483647 / 8)) _ _ _
        generalize cell * 764261123 % 2147483647 / 8 = num at nb
        have hyl : 0 < ys.length := by
          have := AH.len
          have : d.length ≠ 0 := fun z => hne (List.length_eq_zero_iff.mp z)
          omega
        have m0 := Int.emod_nonneg (num / 4) (show (ys.length : Int) ≠ 0 by omega)
        have m1 := Int.emod_lt_of_pos (num / 4) (show 0 < (ys.length : Int) by omega)
        obtain ⟨yv, hyv⟩ : ∃ yv, ys[(num / 4 % (ys.length : Int)).toNat]? = some yv := ⟨_, List.getElem?_eq_getElem (by omega)⟩
        obtain ⟨x, T0, _, hxd, rfl, hT⟩ := AH.at hyv
        obtain ⟨cx0, cx1, cx2⟩ := chain_in (P := P) c1 hxd
        have hat := atI_nat hyv
        rw [show (((num / 4 % (ys.length : Int)).toNat : Nat) : Int) = num / 4 % (ys.length : Int) by omega] at hat
        refine ⟨_, rfl, _, rfl, _, _, rfl, rfl, ⟨by decide, by decide⟩, _, rfl, l, _, rfl, .inl (.inl (.inl AH.l)), _, _, rfl, rfl, (by show 0 < (ys.length : Int); omega), l, _, _, _, rfl, rfl, .inl (.inl AH.l), hat, ?_⟩
        have qT : SqT K HH T0 (triV x) := .inl (.inl hT)
        refine ⟨_, rfl, T0, _, _, _, rfl, rfl, qT, atI_nat (j := 0) rfl, _, rfl, T0, _, _, _, rfl, rfl, qT, atI_nat (j := 1) rfl, _, _, rfl, rfl, _, rfl, T0, _, _, _, rfl, rfl, qT, atI_nat (j := 0) rfl, _, rfl, _, _, rfl, rfl, .inr ⟨by decide, by decide⟩, _, rfl, T0, _, _, _, rfl, rfl, qT, atI_nat (j := 1) rfl, _, rfl, T0, _, _, _, rfl, rfl, qT, atI_nat (j := 0) rfl, _, _, rfl, rfl, _, _, rfl, rfl, (by show 0 < x.2.1 - x.1; omega), _, _, rfl, rfl, _, rfl, T0, _, _, _, rfl, rfl, qT, atI_nat (j := 0) rfl, _, rfl, T0, _, _, _, rfl, rfl, qT, atI_nat (j := 1) rfl, _, _, rfl, rfl, _, _, rfl, rfl, ⟨by decide, by decide⟩, by show 4 ≤ sizeLine; decide, fun pa hpa => ?_⟩
        have r0 := Int.emod_nonneg (num * 4) (show x.2.1 - x.1 ≠ 0 by omega)
        have r1 := Int.emod_lt_of_pos (num * 4) (show 0 < x.2.1 - x.1 by omega)
        generalize num * 4 % (x.2.1 - x.1) = rr at r0 r1 ⊢
        have ta : ∀ z ∈ [x.1, x.2.1 - 1, x.1 + rr, (x.1 + x.2.1) / 2], 0 ≤ z ∧ z < ((tk P d).length : Int) := fun z hz => by
          simp only [List.mem_cons, List.not_mem_nil, or_false] at hz
          omega
        have sa := same_upd (o := HO.lst [V.int x.1, V.int (x.2.1 - 1), V.int (x.1 + rr), V.int ((x.1 + x.2.1) / 2)]) hpa
        have la : upd HH pa (HO.lst [V.int x.1, V.int (x.2.1 - 1), V.int (x.1 + rr), V.int ((x.1 + x.2.1) / 2)]) pa = some (.lst ([x.1, x.2.1 - 1, x.1 + rr, (x.1 + x.2.1) / 2].map V.int)) := upd_same
        generalize upd HH pa (HO.lst [V.int x.1, V.int (x.2.1 - 1), V.int (x.1 + rr), V.int ((x.1 + x.2.1) / 2)]) = HI at sa la ⊢
        obtain ⟨c, _, hc, hca⟩ := ints_at (ns := [x.1, x.2.1 - 1, x.1 + rr, (x.1 + x.2.1) / 2]) (i := num % 4) (by omega) (by show num % 4 < 4; omega)
        have lu' := sa _ _ lu
        refine ⟨_, rfl, .inl ⟨rfl, _, .inl (.inl lu')⟩, _, rfl, _, rfl, _, _, rfl, rfl, (by show (0 : Int) < 4; decide), pa, _, _, _, rfl, rfl, .inl (.inl la), hca, p, _, _, rfl, rfl, lu', small1000 (by rw [List.length_map]; omega), ?_⟩
        refine ⟨us ++ [c], _, _, _, _, rfl, by rw [upd_same, List.map_append]; rfl, fun z hz => ?_, by rw [List.length_append, List.length_singleton]; omega, fun b o e => by rw [upd_ne (ne_of_none e fr)]; exact sa _ _ (sH b o e), by rw [upd_ne npp]; exact sa _ _ l2H⟩
        rcases List.mem_append.mp hz with h | h
        · exact tu z h
        · rw [List.mem_singleton.mp h]; exact ta c hc
      · rintro σ HH ⟨us, v7, v8, v9, v10, rfl, lu, tu, hul, sH, l2H⟩
        refine ⟨_, rfl, p, rfl, ⟨_, .inl (.inl lu)⟩, for_list (K := K) (a := p) (xs := us.map V.int) (fun i σ HJ => Same HH HJ ∧ ∃ (v11 : Option V), σ = [some (.ref a), some (.ref l), some (.int P), some (.int cap), some (.int ((tk P d).length : Int)), some V.non, some (.ref p), v7, v8, v9, v10, v11]) ⟨Same.refl _, _, rfl⟩ (fun i σ HJ _ h => .inl (.inl (h.1 _ _ lu))) ?_ ?_⟩
        · rintro i y σ HJ hi ⟨sJ, v11, rfl⟩
          rw [List.getElem?_map] at hi
          obtain ⟨z, hz, rfl⟩ := Option.map_eq_some_iff.mp hi
          have hzb := tu z (List.mem_of_getElem? hz)
          exact ⟨_, rfl, _, rfl, _, rfl, _, rfl, l, d, ys, P, cap, z, rfl, A4.mono (sH.trans sJ), c1, bd, by omega, P0, P1, hc0, hzb.1, hzb.2, fun HK sK => ⟨_, rfl, iteF ⟨sJ.trans sK, _, rfl⟩⟩⟩
        · rintro σ HJ ⟨sJ, v11, rfl⟩
          exact q _
end
end K71

end PartK71

section PartK71z
set_option maxHeartbeats 4000000
namespace K71
open PySem L2 Og Bw
theorem all_mk {l : PySem.W.OpenLaw} {w : World} {K : PySem.W.Frag} {h : Heap} {mg : Str → Option Value} {fa : Addr} (X : K.In h) (G : h.Ns mainGlobals mg) (hfa : mg "law" = some (.ref fa))
    {fGt fCo fFi fWl fLc fCa fLw fDn fDr fDg fPu fCp fSt fZ : Addr} {odGt anGt odCo anCo odFi anFi odWl anWl odLc anLc odCa anCa odLw anLw odDn anDn odDr anDr odDg anDg odPu anPu odCp anCp odSt anSt odZ anZ : Option Addr} {slGt slCo slFi slWl slLc slCa slLw slDn slDr slDg slPu slCp slSt slZ : Array (Option Value)} {ocGt kVGt dcGt pmGt cdGt ctGt ocCo kVCo dcCo pmCo cdCo ctCo ocFi kVFi dcFi pmFi cdFi ctFi ocWl kVWl dcWl pmWl cdWl ctWl ocLc kVLc dcLc pmLc cdLc ctLc ocCa kVCa dcCa pmCa cdCa ctCa ocLw kVLw dcLw pmLw cdLw ctLw ocDn kVDn dcDn pmDn cdDn ctDn ocDr kVDr dcDr pmDr cdDr ctDr ocDg kVDg dcDg pmDg cdDg ctDg ocPu kVPu dcPu pmPu cdPu ctPu ocCp kVCp dcCp pmCp cdCp ctCp ocSt kVSt dcSt pmSt cdSt ctSt ocZ kVZ dcZ pmZ cdZ ctZ : Value}
    (aGt : PySem.W.nsIn K mainGlobals "good_ticks" = some (some (.ref fGt)))
    (lGt : K.lookup fGt = some ⟨ocGt, odGt, .func (PySem.W.fnOf "good_ticks" "good_ticks" (defArgs sGt) (defBody sGt) (defScope sGt) .none kVGt dcGt pmGt anGt cdGt ctGt), slGt⟩) (cGt : PySem.W.codeIn K cdGt "good_ticks" = true) (kGt : PySem.W.keepIn K (.ref fGt) = true)
    (aCo : PySem.W.nsIn K mainGlobals "course_of" = some (some (.ref fCo)))
    (lCo : K.lookup fCo = some ⟨ocCo, odCo, .func (PySem.W.fnOf "course_of" "course_of" (defArgs sCo) (defBody sCo) (defScope sCo) .none kVCo dcCo pmCo anCo cdCo ctCo), slCo⟩) (cCo : PySem.W.codeIn K cdCo "course_of" = true) (kCo : PySem.W.keepIn K (.ref fCo) = true)
    (aFi : PySem.W.nsIn K mainGlobals "first_lack" = some (some (.ref fFi)))
    (lFi : K.lookup fFi = some ⟨ocFi, odFi, .func (PySem.W.fnOf "first_lack" "first_lack" (defArgs sFi) (defBody sFi) (defScope sFi) .none kVFi dcFi pmFi anFi cdFi ctFi), slFi⟩) (cFi : PySem.W.codeIn K cdFi "first_lack" = true) (kFi : PySem.W.keepIn K (.ref fFi) = true)
    (aWl : PySem.W.nsIn K mainGlobals "wind_left" = some (some (.ref fWl)))
    (lWl : K.lookup fWl = some ⟨ocWl, odWl, .func (PySem.W.fnOf "wind_left" "wind_left" (defArgs sWl) (defBody sWl) (defScope sWl) .none kVWl dcWl pmWl anWl cdWl ctWl), slWl⟩) (cWl : PySem.W.codeIn K cdWl "wind_left" = true) (kWl : PySem.W.keepIn K (.ref fWl) = true)
    (aLc : PySem.W.nsIn K mainGlobals "least_cap" = some (some (.ref fLc)))
    (lLc : K.lookup fLc = some ⟨ocLc, odLc, .func (PySem.W.fnOf "least_cap" "least_cap" (defArgs sLc) (defBody sLc) (defScope sLc) .none kVLc dcLc pmLc anLc cdLc ctLc), slLc⟩) (cLc : PySem.W.codeIn K cdLc "least_cap" = true) (kLc : PySem.W.keepIn K (.ref fLc) = true)
    (aCa : PySem.W.nsIn K mainGlobals "_law_cell_at" = some (some (.ref fCa)))
    (lCa : K.lookup fCa = some ⟨ocCa, odCa, .func (PySem.W.fnOf "_law_cell_at" "_law_cell_at" (defArgs sCa) (defBody sCa) (defScope sCa) .none kVCa dcCa pmCa anCa cdCa ctCa), slCa⟩) (cCa : PySem.W.codeIn K cdCa "_law_cell_at" = true) (kCa : PySem.W.keepIn K (.ref fCa) = true)
    (aLw : PySem.W.nsIn K mainGlobals "_law_whole" = some (some (.ref fLw)))
    (lLw : K.lookup fLw = some ⟨ocLw, odLw, .func (PySem.W.fnOf "_law_whole" "_law_whole" (defArgs sLw) (defBody sLw) (defScope sLw) .none kVLw dcLw pmLw anLw cdLw ctLw), slLw⟩) (cLw : PySem.W.codeIn K cdLw "_law_whole" = true) (kLw : PySem.W.keepIn K (.ref fLw) = true)
    (aDn : PySem.W.nsIn K mainGlobals "_law_drawn" = some (some (.ref fDn)))
    (lDn : K.lookup fDn = some ⟨ocDn, odDn, .func (PySem.W.fnOf "_law_drawn" "_law_drawn" (defArgs sDn) (defBody sDn) (defScope sDn) .none kVDn dcDn pmDn anDn cdDn ctDn), slDn⟩) (cDn : PySem.W.codeIn K cdDn "_law_drawn" = true) (kDn : PySem.W.keepIn K (.ref fDn) = true)
    (aDr : PySem.W.nsIn K mainGlobals "_law_draw" = some (some (.ref fDr)))
    (lDr : K.lookup fDr = some ⟨ocDr, odDr, .func (PySem.W.fnOf "_law_draw" "_law_draw" (defArgs sDr) (defBody sDr) (defScope sDr) .none kVDr dcDr pmDr anDr cdDr ctDr), slDr⟩) (cDr : PySem.W.codeIn K cdDr "_law_draw" = true) (kDr : PySem.W.keepIn K (.ref fDr) = true)
    (aDg : PySem.W.nsIn K mainGlobals "_law_draught" = some (some (.ref fDg)))
    (lDg : K.lookup fDg = some ⟨ocDg, odDg, .func (PySem.W.fnOf "_law_draught" "_law_draught" (defArgs sDg) (defBody sDg) (defScope sDg) .none kVDg dcDg pmDg anDg cdDg ctDg), slDg⟩) (cDg : PySem.W.codeIn K cdDg "_law_draught" = true) (kDg : PySem.W.keepIn K (.ref fDg) = true)
    (aPu : PySem.W.nsIn K mainGlobals "_law_pump" = some (some (.ref fPu)))
    (lPu : K.lookup fPu = some ⟨ocPu, odPu, .func (PySem.W.fnOf "_law_pump" "_law_pump" (defArgs sPu) (defBody sPu) (defScope sPu) .none kVPu dcPu pmPu anPu cdPu ctPu), slPu⟩) (cPu : PySem.W.codeIn K cdPu "_law_pump" = true) (kPu : PySem.W.keepIn K (.ref fPu) = true)
    (aCp : PySem.W.nsIn K mainGlobals "_law_cap" = some (some (.ref fCp)))
    (lCp : K.lookup fCp = some ⟨ocCp, odCp, .func (PySem.W.fnOf "_law_cap" "_law_cap" (defArgs sCp) (defBody sCp) (defScope sCp) .none kVCp dcCp pmCp anCp cdCp ctCp), slCp⟩) (cCp : PySem.W.codeIn K cdCp "_law_cap" = true) (kCp : PySem.W.keepIn K (.ref fCp) = true)
    (aSt : PySem.W.nsIn K mainGlobals "_law_step" = some (some (.ref fSt)))
    (lSt : K.lookup fSt = some ⟨ocSt, odSt, .func (PySem.W.fnOf "_law_step" "_law_step" (defArgs sSt) (defBody sSt) (defScope sSt) .none kVSt dcSt pmSt anSt cdSt ctSt), slSt⟩) (cSt : PySem.W.codeIn K cdSt "_law_step" = true) (kSt : PySem.W.keepIn K (.ref fSt) = true)
    (aZ : PySem.W.nsIn K mainGlobals "law" = some (some (.ref fZ)))
    (lZ : K.lookup fZ = some ⟨ocZ, odZ, .func (PySem.W.fnOf "law" "law" (defArgs sLaw) (defBody sLaw) (defScope sLaw) .none kVZ dcZ pmZ anZ cdZ ctZ), slZ⟩) (cZ : PySem.W.codeIn K cdZ "law" = true) (kZ : PySem.W.keepIn K (.ref fZ) = true)
    (zlen : PySem.W.nsIn K mainGlobals "len" = some none)
    (zisinstance : PySem.W.nsIn K mainGlobals "isinstance" = some none)
    (zint : PySem.W.nsIn K mainGlobals "int" = some none)
    (zbool : PySem.W.nsIn K mainGlobals "bool" = some none)
    (zrange : PySem.W.nsIn K mainGlobals "range" = some none)
    (zabs : PySem.W.nsIn K mainGlobals "abs" = some none)
    (zmax : PySem.W.nsIn K mainGlobals "max" = some none)
    (zmin : PySem.W.nsIn K mainGlobals "min" = some none)
    (zsorted : PySem.W.nsIn K mainGlobals "sorted" = some none)
    (zsum : PySem.W.nsIn K mainGlobals "sum" = some none)
    : ∃ fd : FuncData, (∀ (s : Shared) (v : Value), BindsTo s fd ⟨[v], []⟩ [("_law_script", v)]) ∧ ∀ base : Heap, K.In base → base.Ns mainGlobals mg → FnOk l.prog w K mg base CX0 5 fa fd ["_law_script"] (spLaw K) := by
  have e := hfa.symm.trans (PySem.W.mg_of X G aZ)
  cases e
  have FGt := fun_mk (st := sGt) lGt cGt kGt
  have FCo := fun_mk (st := sCo) lCo cCo kCo
  have FFi := fun_mk (st := sFi) lFi cFi kFi
  have FWl := fun_mk (st := sWl) lWl cWl kWl
  have FLc := fun_mk (st := sLc) lLc cLc kLc
  have FCa := fun_mk (st := sCa) lCa cCa kCa
  have FLw := fun_mk (st := sLw) lLw cLw kLw
  have FDn := fun_mk (st := sDn) lDn cDn kDn
  have FDr := fun_mk (st := sDr) lDr cDr kDr
  have FDg := fun_mk (st := sDg) lDg cDg kDg
  have FPu := fun_mk (st := sPu) lPu cPu kPu
  have FCp := fun_mk (st := sCp) lCp cCp kCp
  have FSt := fun_mk (st := sSt) lSt cSt kSt
  have FZ := fun_mk (st := sLaw) lZ cZ kZ
  have bGt := FGt.binds (ps := ["there", "rise", "count"]) fun _ _ _ _ _ _ us hl => match us, hl with | [_, _, _], _ => rfl
  have bCo := FCo.binds (ps := ["draught", "pump", "cap"]) fun _ _ _ _ _ _ us hl => match us, hl with | [_, _, _], _ => rfl
  have bFi := FFi.binds (ps := ["draught", "pump", "cap"]) fun _ _ _ _ _ _ us hl => match us, hl with | [_, _, _], _ => rfl
  have bWl := FWl.binds (ps := ["draught", "pump", "cap", "tick"]) fun _ _ _ _ _ _ us hl => match us, hl with | [_, _, _, _], _ => rfl
  have bLc := FLc.binds (ps := ["draught", "pump"]) fun _ _ _ _ _ _ us hl => match us, hl with | [_, _], _ => rfl
  have bCa := FCa.binds (ps := ["_law_script", "_law_k"]) fun _ _ _ _ _ _ us hl => match us, hl with | [_, _], _ => rfl
  have bLw := FLw.binds (ps := ["_law_found"]) fun _ _ _ _ _ _ us hl => match us, hl with | [_], _ => rfl
  have bDn := FDn.binds (ps := ["_law_script", "_law_start"]) fun _ _ _ _ _ _ us hl => match us, hl with | [_, _], _ => rfl
  have bDr := FDr.binds (ps := ["_law_drawn_here", "_law_many"]) fun _ _ _ _ _ _ us hl => match us, hl with | [_, _], _ => rfl
  have bDg := FDg.binds (ps := ["_law_script", "_law_start", "_law_far"]) fun _ _ _ _ _ _ us hl => match us, hl with | [_, _, _], _ => rfl
  have bPu := FPu.binds (ps := ["_law_script", "_law_draught_here"]) fun _ _ _ _ _ _ us hl => match us, hl with | [_, _], _ => rfl
  have bCp := FCp.binds (ps := ["_law_script", "_law_draught_here", "_law_pump_here"]) fun _ _ _ _ _ _ us hl => match us, hl with | [_, _, _], _ => rfl
  have bSt := FSt.binds (ps := ["_law_draught_here", "_law_pump_here", "_law_cap_here", "_law_tick"]) fun _ _ _ _ _ _ us hl => match us, hl with | [_, _, _, _], _ => rfl
  have T : Txt K mg := ⟨PySem.W.mg_none_of X G zlen, PySem.W.mg_none_of X G zisinstance, PySem.W.mg_none_of X G zint, PySem.W.mg_none_of X G zbool, PySem.W.mg_none_of X G zrange, PySem.W.mg_none_of X G zabs, PySem.W.mg_none_of X G zmax, PySem.W.mg_none_of X G zmin, PySem.W.mg_none_of X G zsorted, PySem.W.mg_none_of X G zsum⟩
  have N : Fns K mg fGt fCo fFi fWl fLc fCa fLw fDn fDr fDg fPu fCp fSt _ _ _ _ _ _ _ _ _ _ _ _ _ := ⟨FGt, FCo, FFi, FWl, FLc, FCa, FLw, FDn, FDr, FDg, FPu, FCp, FSt, bGt, bCo, bFi, bWl, bLc, bCa, bLw, bDn, bDr, bDg, bPu, bCp, bSt, PySem.W.mg_of X G aGt, PySem.W.mg_of X G aCo, PySem.W.mg_of X G aFi, PySem.W.mg_of X G aWl, PySem.W.mg_of X G aLc, PySem.W.mg_of X G aCa, PySem.W.mg_of X G aLw, PySem.W.mg_of X G aDn, PySem.W.mg_of X G aDr, PySem.W.mg_of X G aDg, PySem.W.mg_of X G aPu, PySem.W.mg_of X G aCp, PySem.W.mg_of X G aSt⟩
  exact ⟨PySem.W.fnOf "law" "law" (defArgs sLaw) (defBody sLaw) (defScope sLaw) .none kVZ dcZ pmZ anZ cdZ ctZ, fun s v => .of_eq rfl, fun base _ _ => ok_law FZ T N⟩
theorem walk {l : PySem.W.OpenLaw} {q : Program} {loose : List Str} {XP : (Str → Option Value) → Heap → Prop} {YP : World → Heap → Prop} {d : DefRec} {K : Params → PySem.W.Frag} (hn : l.most = some 63) (hdf : d.params.defaults = [])
    (hY : ∀ (w : World) (h : Heap), YP w h → (K w.params).In h)
    (F : ∀ (w : World) (mg : Str → Option Value) (fa : Addr) (h : Heap), (K w.params).In h → h.Ns mainGlobals mg → mg d.name = some (.ref fa) →
      ∃ fd : FuncData, (∀ (s : Shared) (u : Value), BindsTo s fd ⟨[u], []⟩ [("_law_script", u)]) ∧ ∀ base : Heap, (K w.params).In base → base.Ns mainGlobals mg → FnOk l.prog w (K w.params) mg base CX0 5 fa fd ["_law_script"] (spLaw (K w.params))) :
    PySem.W.WalkO q loose XP YP l.row.toRowW d [] (fun f vs => PySem.call f vs) :=
  L2.walk_of (n := 63) (k := 5) (x := "_law_script") (CX := fun _ => CX0) (sp := fun w => spLaw (K w.params)) hn (by decide) hdf ⟨rfl, by decide, by decide⟩ hY F (fun _ _ a ns hl _ hS => ⟨a, ns, rfl, hS, hl, fun _ => rfl⟩) fun _ _ _ _ _ z => z
end K71
open PySem PySem.W PyProof.Rows
def PySem.W.Fast.tw5859921013649159712 : Unit := ()
def PySem.W.Fast.tw2762120821996436677 : Unit := ()
def PySem.W.Fast.tw4619820594416346981 : Unit := ()
def PySem.W.Fast.tw9593592043274847497 : Unit := ()
def PySem.W.Fast.tw10955633368694780393 : Unit := ()
def PySem.W.Fast.tw2936945226247359502 : Unit := ()
def PySem.W.Fast.tw2362756009091392914 : Unit := ()
def PySem.W.Fast.tw7120331939335887738 : Unit := ()
def PySem.W.Fast.tw2110074663264622536 : Unit := ()
def PySem.W.Fast.tw15541308701268780669 : Unit := ()
def PySem.W.Fast.tw8107188944060143568 : Unit := ()
def PySem.W.Fast.tw14142729628946486598 : Unit := ()
def PySem.W.Fast.tw5611095206945868279 : Unit := ()
def PySem.W.Fast.tw13259206685306597668 : Unit := ()
def PySem.W.Fast.tw11973770771413882645 : Unit := ()
def PySem.W.Fast.tw8540958524482787517 : Unit := ()
def PySem.W.Fast.tw8727078730838895612 : Unit := ()
def PySem.W.Fast.tw6348425719804944990 : Unit := ()
def PySem.W.Fast.tw18145340502458949417 : Unit := ()
def PySem.W.Fast.tw13855345071770497113 : Unit := ()
def PySem.W.Fast.tw1939742287652500036 : Unit := ()
def PySem.W.Fast.tw4280930289909387331 : Unit := ()
def PySem.W.Fast.tw6203582344055749079 : Unit := ()
def PySem.W.Fast.tw10446888721498630989 : Unit := ()
def PySem.W.Fast.tw13376311708119124114 : Unit := ()
def PySem.W.Fast.tw2802918492416278418 : Unit := ()
def PySem.W.Fast.tw17612797852005883724 : Unit := ()
def PySem.W.Fast.tw7702904401498289678 : Unit := ()
def PySem.W.Fast.tw4352973426085452739 : Unit := ()
def PySem.W.Fast.tw6051687077818132033 : Unit := ()
set_option maxRecDepth 100000 in
set_option maxHeartbeats 0 in
theorem PySem.Challenge.cw_windchest_k71_whole_any_tick_holds : PySem.Challenge.rw_windchest_k71_whole_any_tick.Holds := by
  w_on; o_law; k_head; (case hw => w_witness2)
  k_fill
  refine K71.walk (l := PySem.Challenge.rw_windchest_k71_whole_any_tick) rfl rfl (fun w h Y => PySem.W.kIn_of Y) ?F
  case F =>
    intro w mg fa h KX G hmg
    refine' K71.all_mk KX G hmg ?aGt ?lGt ?cGt ?kGt ?aCo ?lCo ?cCo ?kCo ?aFi ?lFi ?cFi ?kFi ?aWl ?lWl ?cWl ?kWl ?aLc ?lLc ?cLc ?kLc ?aCa ?lCa ?cCa ?kCa ?aLw ?lLw ?cLw ?kLw ?aDn ?lDn ?cDn ?kDn ?aDr ?lDr ?cDr ?kDr ?aDg ?lDg ?cDg ?kDg ?aPu ?lPu ?cPu ?kPu ?aCp ?lCp ?cCp ?kCp ?aSt ?lSt ?cSt ?kSt ?aZ ?lZ ?cZ ?kZ ?zlen ?zisinstance ?zint ?zbool ?zrange ?zabs ?zmax ?zmin ?zsorted ?zsum
    (case aGt => k_is)
    (case lGt => k_is)
    (case cGt => k_is)
    (case kGt => k_is)
    (case aCo => k_is)
    (case lCo => k_is)
    (case cCo => k_is)
    (case kCo => k_is)
    (case aFi => k_is)
    (case lFi => k_is)
    (case cFi => k_is)
    (case kFi => k_is)
    (case aWl => k_is)
    (case lWl => k_is)
    (case cWl => k_is)
    (case kWl => k_is)
    (case aLc => k_is)
    (case lLc => k_is)
    (case cLc => k_is)
    (case kLc => k_is)
    (case aCa => k_is)
    (case lCa => k_is)
    (case cCa => k_is)
    (case kCa => k_is)
    (case aLw => k_is)
    (case lLw => k_is)
    (case cLw => k_is)
    (case kLw => k_is)
    (case aDn => k_is)
    (case lDn => k_is)
    (case cDn => k_is)
    (case kDn => k_is)
    (case aDr => k_is)
    (case lDr => k_is)
    (case cDr => k_is)
    (case kDr => k_is)
    (case aDg => k_is)
    (case lDg => k_is)
    (case cDg => k_is)
    (case kDg => k_is)
    (case aPu => k_is)
    (case lPu => k_is)
    (case cPu => k_is)
    (case kPu => k_is)
    (case aCp => k_is)
    (case lCp => k_is)
    (case cCp => k_is)
    (case kCp => k_is)
    (case aSt => k_is)
    (case lSt => k_is)
    (case cSt => k_is)
    (case kSt => k_is)
    (case aZ => k_is)
    (case lZ => k_is)
    (case cZ => k_is)
    (case kZ => k_is)
    (case zlen => k_is)
    (case zisinstance => k_is)
    (case zint => k_is)
    (case zbool => k_is)
    (case zrange => k_is)
    (case zabs => k_is)
    (case zmax => k_is)
    (case zmin => k_is)
    (case zsorted => k_is)
    (case zsum => k_is)

end PartK71z
