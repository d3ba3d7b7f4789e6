import PyProof.Rows.All
import Wide.All
import OpenK.AllK
import Wide.FinOn
import Lean
import PyProof.EqAt
import PyProof.EqKinds
import PyProof.TupleCall
import PyProof.ZipIter
import PyProof.WalksEnum
import PyProof.EnumMake
import PyProof.NeKinds
import OpenK.KTop
import PyProof.Rows.StrWeight2
import PyProof.SumWalk
import PyProof.SliceList
import PyProof.Rows.SortWalk
import PyProof.SeqI3
import PyProof.Rows.SortRunsK
import KE.KSortAsk
import KE.KSortTup
import PyProof.IsRules
import PySem.Challenge.RW_windchest_k73_whole_least_cap
set_option Elab.async false
set_option linter.all false
set_option maxRecDepth 100000
namespace L2
open PySem PySem.Spec PyProof.Rows

/-- a key: an int or a str -/
abbrev Key := Sum Int Str
def keyIs : Key → Value → Bool
  | .inl k, v => Value.isInt k v
  | .inr x, v => Value.isStrOf x v
def keyH (w : World) : Key → Int
  | .inl k => hashInt k
  | .inr x => hashStr w x
theorem keyIs_shape : ∀ {k : Key} {v : Value}, keyIs k v = true → (∃ i t, k = Sum.inl i ∧ v = Value.int i t) ∨ (∃ x t, k = Sum.inr x ∧ v = Value.str x t)
  | .inl i, v, h => by
    obtain ⟨t, e⟩ := Value.isInt_shape (k := i) (v := v) h
    exact .inl ⟨i, t, rfl, e⟩
  | .inr x, v, h => by
    obtain ⟨t, e⟩ := Value.isStrOf_shape (x := x) (v := v) h
    exact .inr ⟨x, t, rfl, e⟩
theorem key_ll (a b : Int) : decide ((Sum.inl a : Key) = Sum.inl b) = (a == b) := by
  by_cases e : a = b
  · subst e; simp
  · have h : ¬ (Sum.inl a : Key) = Sum.inl b := fun q => e (Sum.inl.inj q)
    rw [decide_eq_false h]
    exact (beq_eq_false_iff_ne.mpr e).symm
theorem key_rr (a b : Str) : decide ((Sum.inr a : Key) = Sum.inr b) = decide (a = b) := by
  by_cases e : a = b
  · subst e; simp
  · have h : ¬ (Sum.inr a : Key) = Sum.inr b := fun q => e (Sum.inr.inj q)
    rw [decide_eq_false h, decide_eq_false e]
theorem key_lr (a : Int) (b : Str) : decide ((Sum.inl a : Key) = Sum.inr b) = false := decide_eq_false (fun q => nomatch q)
theorem key_rl (a : Str) (b : Int) : decide ((Sum.inr a : Key) = Sum.inl b) = false := decide_eq_false (fun q => nomatch q)

def mixKind (prog : Program) (w : World) : PySem.KeyKind prog w Key where
  is := keyIs
  hash := keyH w
  inj := fun v a b ha hb => by
    rcases keyIs_shape ha with ⟨i, t, rfl, rfl⟩ | ⟨x, t, rfl, rfl⟩
    · rcases keyIs_shape hb with ⟨j, u, rfl, e⟩ | ⟨y, u, rfl, e⟩
      · injection e with e1 _; rw [e1]
      · exact nomatch e
    · rcases keyIs_shape hb with ⟨j, u, rfl, e⟩ | ⟨y, u, rfl, e⟩
      · exact nomatch e
      · injection e with e1 _; rw [e1]
  byValue := fun k v h => by
    rcases keyIs_shape h with ⟨i, t, rfl, rfl⟩ | ⟨x, t, rfl, rfl⟩ <;> rfl
  pyHash := fun hv h => by
    rcases keyIs_shape hv with ⟨i, t, rfl, rfl⟩ | ⟨x, t, rfl, rfl⟩
    · exact wpAny_pyHash_int h
    · exact wpAny_pyHash_str h
  eqBool := fun hu hv h => by
    rcases keyIs_shape hu with ⟨i, t, rfl, rfl⟩ | ⟨x, t, rfl, rfl⟩
    · rcases keyIs_shape hv with ⟨j, u, rfl, rfl⟩ | ⟨y, u, rfl, rfl⟩
      · rw [key_ll] at h; exact wpAny_eqBool_int h
      · rw [key_lr] at h; exact SeqAt.EqAt.int_str i t y u _ _ _ _ h
    · rcases keyIs_shape hv with ⟨j, u, rfl, rfl⟩ | ⟨y, u, rfl, rfl⟩
      · rw [key_rl] at h; exact SeqAt.EqAt.str_int x t j u _ _ _ _ h
      · rw [key_rr] at h; exact wpAny_eqBool_str h
  «strs» := fun k x t v h => by
    rcases keyIs_shape h with ⟨i, u, rfl, e⟩ | ⟨y, u, rfl, e⟩
    · exact nomatch e
    · injection e with e1 _
      subst e1
      cases v <;> rfl

end L2

namespace L2
open PySem PySem.Spec PyProof.Rows

/-- a value, without the heap -/
inductive V where
  | non | bl (b : Bool) | int (i : Int) | str (x : Str) | byt (b : Array UInt8) | flt (b : UInt64) | ref (a : Addr) | ty (n : String)
  deriving DecidableEq

def RelV : V → Value → Prop
  | .non, u => u = Value.none
  | .bl b, u => u = Value.bool b
  | .int i, u => ∃ t, u = Value.int i t
  | .str x, u => ∃ t, u = Value.str x t
  | .byt b, u => ∃ t, u = Value.bytes b t
  | .flt b, u => ∃ t, u = Value.float b t
  | .ref a, u => u = Value.ref a
  | .ty n, u => u = Value.type n

abbrev Vals : List V → List Value → Prop := Paired RelV
theorem Vals.length {xs : List V} {us : List Value} (r : Vals xs us) : xs.length = us.length := Paired.length r
theorem Vals.get : ∀ {xs : List V} {us : List Value} {i : Nat} {x : V}, Vals xs us → xs[i]? = some x → ∃ u, us[i]? = some u ∧ RelV x u
  | _, _, _, _, .nil, e => by simp at e
  | _, _, 0, _, .cons r _, e => by simp at e; subst e; exact ⟨_, rfl, r⟩
  | _, _, i + 1, x, .cons _ t, e => by
    obtain ⟨u, h1, h2⟩ := Vals.get (i := i) (x := x) t (by simpa using e)
    exact ⟨u, by simpa using h1, h2⟩
theorem Vals.set {x : V} {u : Value} (r : RelV x u) : ∀ {xs : List V} {us : List Value} (i : Nat), Vals xs us → Vals (xs.set i x) (us.set i u)
  | _, _, _, .nil => .nil
  | _, _, 0, .cons _ t => .cons r t
  | _, _, i + 1, .cons q t => .cons q (Vals.set r i t)
theorem Vals.append : ∀ {xs ys : List V} {us ws : List Value}, Vals xs us → Vals ys ws → Vals (xs ++ ys) (us ++ ws)
  | _, _, _, _, .nil, s => s
  | _, _, _, _, .cons r t, s => .cons r (Vals.append t s)
theorem Vals.take : ∀ {xs : List V} {us : List Value} (n : Nat), Vals xs us → Vals (xs.take n) (us.take n)
  | _, _, 0, _ => .nil
  | _, _, _ + 1, .nil => .nil
  | _, _, n + 1, .cons r t => .cons r (Vals.take n t)
theorem Vals.drop : ∀ {xs : List V} {us : List Value} (n : Nat), Vals xs us → Vals (xs.drop n) (us.drop n)
  | _, _, 0, r => r
  | _, _, _ + 1, .nil => .nil
  | _, _, n + 1, .cons _ t => Vals.drop n t
def RelO : Option V → Option Value → Prop
  | some v, some u => RelV v u
  | none, none => True
  | _, _ => False
def KV {κ : Type} : List (κ × V) → List (κ × Value) → Prop := Paired fun (p : κ × V) (q : κ × Value) => p.1 = q.1 ∧ RelV p.2 q.2

/-- a key of a dict (00_mix): an int or a text -/
def kV : Key → V
  | .inl i => .int i
  | .inr x => .str x

/-- what stands at a tracked address -/
inductive HO where
  /-- a list -/
  | lst (xs : List V)
  /-- a tuple (never changes) -/
  | tup (xs : List V)
  /-- a dict whose keys are ints and texts; one whose keys are tuples of ints and texts (the empty one is both) -/
  | dK (kvs : List (Key × V)) | dT (kvs : List (List Key × V))
  /-- a set of ints: its members, its size -/
  | set (S : Int → Bool) (n : Nat)
  /-- an instance of the class at C, its dict at dx, its attributes -/
  | ins (C dx : Addr) (fs : List (Str × V))
  /-- the dict of the instance at x -/
  | own (x : Addr)
  /-- the dict of an exception -/
  | xd (fs : List (Str × V))
  /-- a bound method, f of x -/
  | met (f x : Addr)
  /-- a range object lo, lo + 1, .. below hi -/
  | rng (lo hi : Int)
  /-- a thing that is known to the object (the script; a dict while a loop walks it): read, never written while it is so -/
  | frz (o : Obj) (u : HO)
  /-- a code object's table -/
  | tbl (ps : Array Value)
  /-- any other thing, by what is true of its one object (a def of one's own: SetO a S n := HO.ext fun h => ..) -/
  | ext (φ : Heap → Prop)

abbrev Hp := Addr → Option HO
def upd (H : Hp) (a : Addr) (o : HO) : Hp := fun b => if b = a then some o else H b
theorem upd_same {H : Hp} {a : Addr} {o : HO} : upd H a o a = some o := by unfold upd; rw [if_pos rfl]
theorem upd_ne {H : Hp} {a b : Addr} {o : HO} (h : b ≠ a) : upd H a o b = H b := by unfold upd; rw [if_neg h]
/-- two objects of different content stand apart -/
theorem ne_of {H : Hp} {a b : Addr} {o u : HO} (h : H a = some o) (h' : H b = some u) (d : o ≠ u) : a ≠ b := by
  intro e; subst e; rw [h] at h'; exact d (Option.some.inj h')
theorem ne_of_none {H : Hp} {a b : Addr} {o : HO} (h : H a = some o) (h' : H b = none) : a ≠ b := by
  intro e; subst e; rw [h] at h'; cases h'

section
variable (P : Program) (w : World)
def ObjOk (H : Hp) (h : Heap) (a : Addr) : HO → Prop
  | .lst xs => xs.length ≤ sizeLine ∧ ∃ (its : List Value) (n : Nat), Vals xs its ∧ h.get? a = some { cls := .type "list", data := .seq its.toArray n }
  | .tup xs => xs.length ≤ sizeLine ∧ ∃ its : List Value, Vals xs its ∧ IsTup h a its.toArray
  | .dK kvs => kvs.length ≤ sizeLine ∧ (a == sysModules) = false ∧ ∃ vs, KV kvs vs ∧ h.DictOf (mixKind P w) a vs
  | .dT kvs => kvs.length ≤ sizeLine ∧ (a == sysModules) = false ∧ ∃ xs : List (List Key × Addr × Value),
      Paired (fun (p : List Key × V) (q : List Key × Addr × Value) => p.1 = q.1 ∧ H q.2.1 = some (.tup (p.1.map kV)) ∧ RelV p.2 q.2.2) kvs xs ∧
      ∃ o es ep, h.get? a = some o ∧ o.ExactDict ∧ o.data = .dict es ep ∧ es.toList = xs.map (entryOfKey (tupleKind (mixKind P w))) ∧ (xs.map (·.1)).Nodup
  | .set S n => h.SetOf (intKind P w) a S n
  | .ins C dx fs => H dx = some (.own a) ∧ fs.length ≤ 1000 ∧ dx ≠ a ∧ h.get? a = some (PySem.W.instObj C dx) ∧
      ∃ mA, h.Ns1 dx mA ∧ (∀ f, RelO (fs.lookup f) (mA f)) ∧ PySem.Within mA (fs.map (·.1))
  | .own _ => ∃ o, h.get? a = some o
  | .xd fs => ∃ mA, h.Ns1 a mA ∧ ∀ f, RelO (fs.lookup f) (mA f)
  | .rng lo hi => ∃ t u v, h.get? a = some { cls := .type "range", data := .fields #[.int lo t, .int hi u, .int 1 v] }
  | .frz o u => h.get? a = some o ∧ ObjOk H h a u
  | .tbl ps => h.get? a = some { cls := .none, data := .fields ps }
  | .met f x => h.get? a = some (PySem.W.methodObj (.ref f) (.ref x))
  | .ext φ => φ h ∧ (∃ o, h.get? a = some o) ∧ ∀ h1 h2 : Heap, φ h1 → (∀ o, h1.get? a = some o → h2.get? a = some o) → φ h2
/-- the abstract heap is held -/
def HOk (H : Hp) (h : Heap) : Prop := ∀ a o, H a = some o → ObjOk P w H h a o
end

section
variable {P : Program} {w : World} {H H' : Hp} {h h' : Heap} {a : Addr} {o : HO}
theorem ObjOk.lt (x : ObjOk P w H h a o) : a < h.objs.size := by
  cases o with
  | lst xs => obtain ⟨_, _, _, _, e⟩ := x; exact Heap.lt_size e
  | tup xs => obtain ⟨_, _, _, p⟩ := x; exact p.lt
  | dK kvs => obtain ⟨_, _, _, _, o, _, _, e, _⟩ := x; exact Heap.lt_size e
  | dT kvs => obtain ⟨_, _, _, _, o, _, _, e, _⟩ := x; exact Heap.lt_size e
  | set S n => obtain ⟨o, _, _, _, e, _⟩ := x; exact Heap.lt_size e
  | ins C dx fs => obtain ⟨_, _, _, e, _⟩ := x; exact Heap.lt_size e
  | own y => obtain ⟨_, e⟩ := x; exact Heap.lt_size e
  | xd fs => obtain ⟨_, ⟨_, _, _, e, _⟩, _⟩ := x; exact Heap.lt_size e
  | rng lo hi => obtain ⟨_, _, _, e⟩ := x; exact Heap.lt_size e
  | frz ob u => obtain ⟨e, _⟩ := x; exact Heap.lt_size e
  | tbl ps => exact Heap.lt_size (show h.get? a = some _ from x)
  | met f y => exact Heap.lt_size (show h.get? a = some _ from x)
  | ext φ => obtain ⟨_, ⟨_, e⟩, _⟩ := x; exact Heap.lt_size e
theorem Paired.mapP {α β : Type} {F G : α → β → Prop} : ∀ {l₁ : List α} {l₂ : List β}, Paired F l₁ l₂ → (∀ a b, F a b → G a b) → Paired G l₁ l₂
  | _, _, .nil, _ => .nil
  | _, _, .cons r t, f => .cons (f _ _ r) (Paired.mapP t f)
/-- what an object's description leans on: its own object, its own dict, the tuples -/
theorem ObjOk.stay (x : ObjOk P w H h a o) (k : ∀ b u, (b = a ∨ H b = some (.own a)) → h.get? b = some u → h'.get? b = some u)
    (ho : ∀ b, H b = some (.own a) → H' b = some (.own a)) (ht : ∀ b xs, H b = some (.tup xs) → H' b = some (.tup xs)) : ObjOk P w H' h' a o := by
  induction o with
  | lst xs => obtain ⟨z, its, n, r, e⟩ := x; exact ⟨z, its, n, r, k _ _ (.inl rfl) e⟩
  | tup xs => obtain ⟨z, its, r, ob, e, c⟩ := x; exact ⟨z, its, r, ob, k _ _ (.inl rfl) e, c⟩
  | dK kvs => obtain ⟨z, y, vs, r, ob, es, ep, e, c⟩ := x; exact ⟨z, y, vs, r, ob, es, ep, k _ _ (.inl rfl) e, c⟩
  | dT kvs =>
    obtain ⟨z, y, xs, r, ob, es, ep, e, c⟩ := x
    exact ⟨z, y, xs, Paired.mapP r fun p q z => ⟨z.1, ht _ _ z.2.1, z.2.2⟩, ob, es, ep, k _ _ (.inl rfl) e, c⟩
  | set S n => obtain ⟨ob, es, ep, t, e, c⟩ := x; exact ⟨ob, es, ep, t, k _ _ (.inl rfl) e, c⟩
  | ins C dx fs =>
    obtain ⟨d, z, ne, e, mA, ⟨od, es, ep, e2, c⟩, r⟩ := x
    exact ⟨ho _ d, z, ne, k _ _ (.inl rfl) e, mA, ⟨od, es, ep, k _ _ (.inr d) e2, c⟩, r⟩
  | own y => obtain ⟨ob, e⟩ := x; exact ⟨ob, k _ _ (.inl rfl) e⟩
  | xd fs => obtain ⟨mA, ⟨od, es, ep, e, c⟩, r⟩ := x; exact ⟨mA, ⟨od, es, ep, k _ _ (.inl rfl) e, c⟩, r⟩
  | rng lo hi => obtain ⟨t, u, v, e⟩ := x; exact ⟨t, u, v, k _ _ (.inl rfl) e⟩
  | frz ob u ih => obtain ⟨e, q⟩ := x; exact ⟨k _ _ (.inl rfl) e, ih q⟩
  | tbl ps =>
    have e : h.get? a = some { cls := .none, data := .fields ps } := x
    show h'.get? a = some { cls := .none, data := .fields ps }
    exact k a _ (.inl rfl) e
  | met f y =>
    have e : h.get? a = some (PySem.W.methodObj (.ref f) (.ref y)) := x
    show h'.get? a = some (PySem.W.methodObj (.ref f) (.ref y))
    exact k a _ (.inl rfl) e
  | ext φ => obtain ⟨p, ⟨o, e⟩, st⟩ := x; exact ⟨st _ _ p fun o q => k _ _ (.inl rfl) q, ⟨o, k _ _ (.inl rfl) e⟩, st⟩
theorem HOk.lt (x : HOk P w H h) (e : H a = some o) : a < h.objs.size := (x a o e).lt
theorem HOk.fresh (x : HOk P w H h) (e : h.objs.size ≤ a) : H a = none := by
  cases q : H a with
  | none => rfl
  | some u => exact absurd (Nat.lt_of_lt_of_le (x.lt q) e) (Nat.lt_irrefl _)
/-- every object of the heap is kept -/
theorem HOk.kept (x : HOk P w H h) (k : ∀ b u, h.get? b = some u → h'.get? b = some u) : HOk P w H h' := fun a o e =>
  (x a o e).stay (fun b u _ q => k b u q) (fun _ q => q) fun _ _ q => q
/-- a new object is laid and tracked -/
theorem HOk.laid (x : HOk P w H h) (k : ∀ b u, h.get? b = some u → h'.get? b = some u) (hp : h.objs.size ≤ a) (new : ObjOk P w (upd H a o) h' a o) : HOk P w (upd H a o) h' := fun b u e => by
  have hn := x.fresh hp
  by_cases hb : b = a
  · subst hb; rw [upd_same] at e; cases e; exact new
  · rw [upd_ne hb] at e
    exact (x b u e).stay (fun c v _ q => k c v q) (fun c q => by rw [upd_ne (ne_of_none q hn)]; exact q) fun c xs q => by rw [upd_ne (ne_of_none q hn)]; exact q
end

/-- what may be read as u: it is u, or a known u -/
def Rd (H : Hp) (a : Addr) (u : HO) : Prop := H a = some u ∨ ∃ o, H a = some (.frz o u)
theorem Rd.ok {P : Program} {w : World} {H : Hp} {h : Heap} {a : Addr} {u : HO} (r : Rd H a u) (x : HOk P w H h) : ObjOk P w H h a u := by
  rcases r with r | ⟨o, r⟩
  · exact x a u r
  · obtain ⟨_, q⟩ := x a _ r
    exact q
/-- what may be written -/
def Mut : Option HO → Prop
  | some (.lst _) => True
  | some (.dK _) => True
  | some (.dT _) => True
  | some (.set _ _) => True
  | some (.ins _ _ _) => True
  | some (.ext _) => True
  | _ => False
section
variable {P : Program} {w : World} {H : Hp} {h h' : Heap} {x e : Addr} {o' : HO}
/-- the object at e is changed: x itself, or the dict of the instance x -/
theorem HOk.write (ok : HOk P w H h) (mu : Mut (H x)) (he : e = x ∨ H e = some (.own x)) (k : ∀ b u, b ≠ e → h.get? b = some u → h'.get? b = some u) (heo : ∃ u, h'.get? e = some u)
    (new : ObjOk P w (upd H x o') h' x o') : HOk P w (upd H x o') h' := fun b u q => by
  have nown : ∀ c y, H c = some (.own y) → c ≠ x := fun c y r z => by subst z; rw [r] at mu; exact mu
  have ntup : ∀ c xs, H c = some (.tup xs) → c ≠ x := fun c xs r z => by subst z; rw [r] at mu; exact mu
  by_cases hb : b = x
  · subst hb; rw [upd_same] at q; cases q; exact new
  · rw [upd_ne hb] at q
    by_cases hbe : b = e
    · have q' : H b = some (.own x) := by
        rcases he with z | z
        · exact absurd (hbe.trans z) hb
        · rw [hbe]; exact z
      rw [q] at q'; cases q'
      obtain ⟨v, hv⟩ := heo
      exact ⟨v, by rw [hbe]; exact hv⟩
    · refine (ok b u q).stay (fun c v hc r => k c v ?_ r) (fun c r => by rw [upd_ne (nown c b r)]; exact r) fun c xs r => by rw [upd_ne (ntup c xs r)]; exact r
      rcases hc with rfl | hc
      · exact hbe
      · rintro rfl
        rcases he with z | z
        · exact nown c b hc z
        · rw [hc] at z; cases z; exact hb rfl
end

structure Un (fs ex : List Addr) (H H' : Hp) (h h' : Heap) : Prop where
  keep : ∀ b o, h.get? b = some o → H b = none → b ∉ fs → b ∉ ex → h'.get? b = some o
  slot : ∀ b o, h.get? b = some o → H b = none → b ∈ fs → b ∉ ex → ∃ sl, h'.get? b = some { o with slots := sl }
  free : ∀ b o, h.get? b = some o → H b = none → b ∉ ex → H' b = none
  there : ∀ b o, h.get? b = some o → b ∉ ex → ∃ o', h'.get? b = some o'
  tups : ∀ b xs, H b = some (.tup xs) → H' b = some (.tup xs)
  frzs : ∀ b o u, H b = some (.frz o u) → H' b = some (.frz o u)
  tbls : ∀ b ps, H b = some (.tbl ps) → ∃ more, H' b = some (.tbl (ps ++ more))
section
variable {fs fs' ex ex' : List Addr} {H H1 H2 : Hp} {h h1 h2 h' : Heap} {a x e : Addr} {o : HO}
theorem Un.any (u : Un fs ex H H1 h h1) {b : Addr} {ob : Obj} (q : h.get? b = some ob) (n : H b = none) (hx : b ∉ ex) : ∃ sl, h1.get? b = some { ob with slots := sl } := by
  by_cases hb : b ∈ fs
  · exact u.slot b ob q n hb hx
  · exact ⟨ob.slots, u.keep b ob q n hb hx⟩
theorem Un.kept (k : ∀ b u, h.get? b = some u → h'.get? b = some u) : Un fs ex H H h h' :=
  ⟨fun b ob q _ _ _ => k b ob q, fun b ob q _ _ _ => ⟨ob.slots, k b ob q⟩, fun _ _ _ n _ => n, fun b ob q _ => ⟨ob, k b ob q⟩, fun _ _ q => q, fun _ _ _ q => q, fun _ ps q => ⟨#[], by rw [q]; simp⟩⟩
theorem Un.refl : Un fs ex H H h h := Un.kept fun _ _ q => q
theorem Un.laid (k : ∀ b u, h.get? b = some u → h'.get? b = some u) (hp : h.objs.size ≤ a) (hn : H a = none) : Un fs ex H (upd H a o) h h' where
  keep := fun b u q _ _ _ => k b u q
  slot := fun b u q _ _ _ => ⟨u.slots, k b u q⟩
  free := fun b u q n _ => by rw [upd_ne (Nat.ne_of_lt (Nat.lt_of_lt_of_le (Heap.lt_size q) hp))]; exact n
  there := fun b u q _ => ⟨u, k b u q⟩
  tups := fun b xs q => by rw [upd_ne (ne_of_none q hn)]; exact q
  frzs := fun b u xs q => by rw [upd_ne (ne_of_none q hn)]; exact q
  tbls := fun b ps q => ⟨#[], by rw [upd_ne (ne_of_none q hn), q]; simp⟩
theorem Un.write (mu : Mut (H x)) (he : e = x ∨ H e = some (.own x)) (k : ∀ b u, b ≠ e → h.get? b = some u → h'.get? b = some u) (heo : ∃ u, h'.get? e = some u) : Un fs ex H (upd H x o) h h' := by
  have hx : ∀ b, H b = none → b ≠ x := fun b n z => by subst z; rw [n] at mu; exact mu
  have hb : ∀ b, H b = none → b ≠ e := fun b n z => by
    subst z
    rcases he with r | r
    · exact hx b n r
    · rw [n] at r; cases r
  have hm : ∀ b u, H b = some u → ¬ Mut (some u) → b ≠ x := fun b u q nm z => by subst z; rw [q] at mu; exact nm mu
  refine ⟨fun b u q n _ _ => k b u (hb b n) q, fun b u q n _ _ => ⟨u.slots, k b u (hb b n) q⟩, fun b u q n _ => by rw [upd_ne (hx b n)]; exact n, fun b u q _ => ?_,
    fun b xs q => by rw [upd_ne (hm b _ q fun z => z)]; exact q, fun b u xs q => by rw [upd_ne (hm b _ q fun z => z)]; exact q, fun b ps q => ⟨#[], by rw [upd_ne (hm b _ q fun z => z), q]; simp⟩⟩
  by_cases hbe : b = e
  · subst hbe; exact heo
  · exact ⟨u, k b u hbe q⟩
end

def trk (h : Heap) (H : Hp) : List Addr := (List.range h.objs.size).filter fun a => (H a).isSome
def hidT (h : Heap) (H : Hp) : Heap := PySem.W.hideAll h (trk h H)
theorem hidT_size (h : Heap) (H : Hp) : (hidT h H).objs.size = h.objs.size := PySem.W.hideAll_size _ _
theorem hidT_get {h : Heap} {H : Hp} {b : Addr} {o : Obj} (e : h.get? b = some o) (n : H b = none) : (hidT h H).get? b = some o :=
  PySem.W.hideAll_get _ e fun hm => by
    have q : (H b).isSome = true := (List.mem_filter.mp hm).2
    rw [n] at q; simp at q
theorem of_hidT {h : Heap} {H : Hp} {b : Addr} {o : Obj} (e : (hidT h H).get? b = some o) : h.get? b = some o ∧ H b = none := by
  have e' : h.get? b = some o := PySem.W.of_hideAll (trk h H) e
  refine ⟨e', ?_⟩
  cases q : H b with
  | none => rfl
  | some x =>
    have hm : b ∈ trk h H := List.mem_filter.mpr ⟨List.mem_range.mpr (Heap.lt_size e'), by simp [q]⟩
    have z : (hidT h H).get? b = none := PySem.W.hideAll_none (trk h H) hm
    rw [z] at e; cases e

def allNews (g h : Heap) (L : Addr) : List (Addr × Obj) := (List.range h.objs.size).filterMap fun a => if a = L ∨ (g.get? a).isSome = true then none else (h.get? a).map fun o => (a, o)
def rest (g h : Heap) (L d : Addr) : List (Addr × Obj) := (allNews g h L).filter fun p => decide (p.1 ≠ d)
end L2

namespace L2
open PySem PySem.Spec PyProof.Rows

/-- the module's facts, over the base: the heap at the law's entry without what is tracked there -/
structure Mod (K : PySem.W.Frag) (mg : Str → Option Value) (base : Heap) : Prop where
  kin : K.In base
  glob : base.Ns mainGlobals mg
  blt : ∃ mb, base.Ns builtinsNs mb ∧ ∀ x : Str, x ≠ "__name__" → mb x = bootBuiltins x
  nolimit : base.NoLimit

/-- the context: a def's body (or a comprehension's block) running. base: fixed through the whole law; s₀, H₀: the entry; outer: the frames whose slots others may change (a def's callers); stack: all frames that run;
   ex: iterators that were made ahead of the entry and are walked here (a comprehension's); fn: the names whose cells were made at the entry (a def: all; a comprehension's block: its own); calm: not within an except suite; pn: pins that every state bears; xe: what is wanted of an exception that leaves the code -/
structure Cx where
  prog : Program
  w : World
  K : PySem.W.Frag
  mg : Str → Option Value
  base : Heap
  A : Around
  N : List Str
  s₀ : Shared
  H₀ : Hp
  env : Env
  outer : List Env
  stack : List Env
  ex : List Addr
  fn : Str → Bool
  calm : Bool
  pn : List (Addr × Obj)
  xe : Value → Shared → Prop
/-- the callers' frames -/
def frs (l : List Env) : List Addr := l.filterMap (·.frame)
abbrev Cx.fs (X : Cx) : List Addr := frs X.outer

def Vis (sc : Scope) (x : Str) : Prop := sc.names.lookup x = some .local ∨ sc.names.lookup x = some .cell ∨ sc.names.lookup x = some .free
def Loc (sc : Scope) (x : Str) : Prop := sc.names.lookup x = some .local ∨ sc.names.lookup x = some .cell
def Look (env : Env) (h : Heap) (m : Str → Option Value) (x : Str) (u : Value) : Prop :=
  (env.kindOf x = some .local ∧ m x = some u) ∨ ((env.kindOf x = some .cell ∨ env.kindOf x = some .free) ∧ ∃ c, env.cells.lookup x = some c ∧ h.IsCell c (some u))

structure Cx.Ok (X : Cx) : Prop where
  mod : Mod X.K X.mg X.base
  kind : X.env.scope.kind = .function
  glob : X.env.globals = mainGlobals
  blt : X.env.builtins = builtinsNs
  above : X.s₀.heap.objs.size ≤ X.env.locals
  inj : ∀ x y c, X.env.cells.lookup x = some c → X.env.cells.lookup y = some c → x = y
  has : ∀ x, (X.env.kindOf x = some .cell ∨ X.env.kindOf x = some .free) → ∃ c, X.env.cells.lookup x = some c
  cab : ∀ x c, X.fn x = true → X.env.cells.lookup x = some c → X.s₀.heap.objs.size ≤ c
  hd : X.calm = true → X.A.handled = none
  frames : X.A.frames = some X.stack
  stk : X.stack = X.outer ∨ (X.stack = X.env :: X.outer ∧ X.env.frame = some X.env.locals)
  exf : ∀ b ∈ X.ex, b ≠ X.env.locals ∧ ∀ x c, X.env.cells.lookup x = some c → c ≠ b
  bs : ∀ b o, X.base.get? b = some o → X.s₀.heap.get? b = some o ∧ X.H₀ b = none
  bsz : X.base.objs.size ≤ X.s₀.heap.objs.size
  noex : ∀ b o, X.base.get? b = some o → b ∉ X.ex
  exfs : ∀ b ∈ X.ex, b ∉ X.fs
  funs : X.s₀.heap.FunFrames X.base X.outer
  frf : ∀ b ∈ X.fs, X.H₀ b = none

structure Inv (X : Cx) (pins : List (Addr × Obj)) (σ : List (Option V)) (H : Hp) (s : Shared) : Prop where
  ok : X.Ok
  os : s.os = X.s₀.os
  bare : AllBare s.gens
  base : Un X.fs X.ex X.H₀ H X.s₀.heap s.heap
  loc : ∃ m, s.heap.Ns X.env.locals m ∧ ∀ (i : Nat) (x : Str) (v : V), X.N[i]? = some x → σ[i]? = some (some v) → Vis X.env.scope x → ∃ u, RelV v u ∧ Look X.env s.heap m x u
  cell : ∀ x c, X.env.cells.lookup x = some c → ∃ v, s.heap.IsCell c v
  free : H X.env.locals = none
  freeC : ∀ x c, X.env.cells.lookup x = some c → H c = none
  pin : ∀ p ∈ X.pn ++ pins, s.heap.get? p.1 = some p.2 ∧ H p.1 = none ∧ p.1 ≠ X.env.locals ∧ p.1 ∉ X.fs ∧ ∀ v, p.2.data ≠ .cell v
  hok : HOk X.prog X.w H s.heap
  len : σ.length = X.N.length

section
variable {X : Cx} {pins : List (Addr × Obj)} {σ : List (Option V)} {H H' : Hp} {s : Shared} {h' : Heap}

theorem Cx.Ok.nofr (ok : X.Ok) {b : Addr} {o : Obj} (e : X.base.get? b = some o) : b ∉ X.fs := fun hb => by
  have := (ok.funs.mem hb).1
  rw [e] at this; cases this
theorem Inv.bs (I : Inv X pins σ H s) : ∀ b o, X.base.get? b = some o → s.heap.get? b = some o ∧ H b = none := fun b o e =>
  ⟨I.base.keep b o (I.ok.bs b o e).1 (I.ok.bs b o e).2 (I.ok.nofr e) (I.ok.noex b o e), I.base.free b o (I.ok.bs b o e).1 (I.ok.bs b o e).2 (I.ok.noex b o e)⟩
theorem Inv.bk (I : Inv X pins σ H s) : ∀ b o, X.base.get? b = some o → s.heap.get? b = some o := fun b o e => (I.bs b o e).1
theorem Inv.mod (I : Inv X pins σ H s) : Mod X.K X.mg X.base := I.ok.mod
theorem Inv.kIn (I : Inv X pins σ H s) : X.K.In s.heap := I.ok.mod.kin.keeps I.bk
theorem Inv.lt (I : Inv X pins σ H s) : X.env.locals < s.heap.objs.size := let ⟨_, hn, _⟩ := I.loc; hn.lt
theorem Inv.sz (I : Inv X pins σ H s) : X.s₀.heap.objs.size ≤ s.heap.objs.size := Nat.le_trans I.ok.above (Nat.le_of_lt I.lt)
theorem Inv.nofs (I : Inv X pins σ H s) {a : Addr} (h : s.heap.objs.size ≤ a) : a ∉ X.fs := fun hb => by
  obtain ⟨_, o, ho, _⟩ := I.ok.funs.mem hb
  exact absurd (Nat.lt_of_lt_of_le (Heap.lt_size ho) (Nat.le_trans I.sz h)) (Nat.lt_irrefl _)
theorem Inv.cne (I : Inv X pins σ H s) : ∀ x c, X.env.cells.lookup x = some c → c ≠ X.env.locals := fun x c e z => by
  obtain ⟨v, o, ho, hd⟩ := I.cell x c e
  obtain ⟨m, ⟨o', es, ep, ho', hd', _⟩, _⟩ := I.loc
  rw [z, ho'] at ho; cases ho; rw [hd'] at hd; cases hd
theorem Inv.funs (I : Inv X pins σ H s) : s.heap.FunFrames X.base X.outer := by
  have all : ∀ (l : List Env), (∀ b ∈ frs l, b ∈ X.fs) → X.s₀.heap.FunFrames X.base l → s.heap.FunFrames X.base l := by
    intro l
    induction l with
    | nil => intro _ _; trivial
    | cons env r ih =>
      intro hs hl
      obtain ⟨hk, ⟨L, o, hf, hn, ho, hd⟩, hr⟩ := hl
      have hL : L ∈ X.fs := hs L (by unfold frs; rw [List.filterMap_cons, hf]; exact List.mem_cons_self)
      obtain ⟨sl, e⟩ := I.base.slot L o ho (I.ok.frf L hL) hL fun z => I.ok.exfs L z hL
      exact ⟨hk, ⟨L, _, hf, hn, e, hd⟩, ih (fun b hb => hs b (by unfold frs; rw [List.filterMap_cons, hf]; exact List.mem_cons_of_mem _ hb)) hr⟩
  exact all X.outer (fun _ hb => hb) I.ok.funs

/-- the frames that run, for a call -/
theorem Inv.stack (I : Inv X pins σ H s) : s.heap.FunFrames X.base X.stack := by
  rcases I.ok.stk with e | ⟨e, hf⟩
  · rw [e]; exact I.funs
  · rw [e]
    obtain ⟨m, hn, _⟩ := I.loc
    refine .cons (by rw [I.ok.kind]; decide) hf hn ?_ I.funs
    exact Heap.get?_none_of_le (Nat.le_trans I.ok.bsz I.ok.above)
theorem Inv.stkSub (I : Inv X pins σ H s) : ∀ b ∈ frs X.stack, b ∈ X.env.locals :: X.fs := fun b hb => by
  rcases I.ok.stk with e | ⟨e, hf⟩
  · rw [e] at hb; exact List.mem_cons_of_mem _ hb
  · rw [e] at hb
    unfold frs at hb
    rw [List.filterMap_cons, hf] at hb
    exact hb
theorem Inv.stkFree (I : Inv X pins σ H s) : ∀ b ∈ frs X.stack, H b = none := fun b hb => by
  rcases List.mem_cons.mp (I.stkSub b hb) with e | hb
  · rw [e]; exact I.free
  · obtain ⟨_, o, ho, _⟩ := I.ok.funs.mem hb
    exact I.base.free b o ho (I.ok.frf b hb) fun z => I.ok.exfs b z hb

/-- THE STEP: the untracked objects but the frame and the records at ch are kept (the callers' frames up to slots), the frame's map is kept, the new abstract heap is held -/
theorem Inv.step {g' : Array GenState} {t' : Nat} {d' : Drawn} {ch : List Addr} (I : Inv X pins σ H s)
    (hch : ∀ b ∈ ch, (b ∈ X.ex ∨ X.s₀.heap.objs.size ≤ b) ∧ b ≠ X.env.locals ∧ (∀ x c, X.env.cells.lookup x = some c → c ≠ b) ∧ ∀ p ∈ X.pn ++ pins, p.1 ≠ b)
    (keep : ∀ b o, b ≠ X.env.locals → b ∉ X.fs → b ∉ ch → s.heap.get? b = some o → H b = none → h'.get? b = some o)
    (slot : ∀ b o, b ≠ X.env.locals → b ∈ X.fs → b ∉ ch → s.heap.get? b = some o → H b = none → ∃ sl, h'.get? b = some { o with slots := sl }) (free : ∀ b o, b ∉ ch → s.heap.get? b = some o → H b = none → H' b = none)
    (there : ∀ b o, b ∉ ch → s.heap.get? b = some o → ∃ o', h'.get? b = some o')
    (tups : ∀ b xs, H b = some (.tup xs) → H' b = some (.tup xs)) (frzs : ∀ b o u, H b = some (.frz o u) → H' b = some (.frz o u)) (tbls : ∀ b ps, H b = some (.tbl ps) → ∃ more, H' b = some (.tbl (ps ++ more)))
    (ns : ∀ m, s.heap.Ns X.env.locals m → h'.Ns X.env.locals m) (hok : HOk X.prog X.w H' h') (hg : AllBare g') :
    Inv X pins σ H' { s with heap := h', gens := g', drawn := d', toks := t' } := by
  have neL : ∀ b o, X.s₀.heap.get? b = some o → b ≠ X.env.locals := fun b o e => Nat.ne_of_lt (Nat.lt_of_lt_of_le (Heap.lt_size e) I.ok.above)
  have neC : ∀ b o, X.s₀.heap.get? b = some o → b ∉ X.ex → b ∉ ch := fun b o e hx hb => by
    rcases (hch b hb).1 with z | z
    · exact hx z
    · exact absurd (Nat.lt_of_lt_of_le (Heap.lt_size e) z) (Nat.lt_irrefl _)
  have cellK : ∀ x c, X.env.cells.lookup x = some c → ∀ v, s.heap.IsCell c v → h'.IsCell c v := fun x c e v ⟨o, ho, hd⟩ => by
    have nch : c ∉ ch := fun z => (hch c z).2.2.1 x c e rfl
    by_cases hc : c ∈ X.fs
    · obtain ⟨sl, q⟩ := slot c o (I.cne x c e) hc nch ho (I.freeC x c e)
      exact ⟨_, q, hd⟩
    · exact ⟨o, keep c o (I.cne x c e) hc nch ho (I.freeC x c e), hd⟩
  refine ⟨I.ok, I.os, hg, ⟨fun b o e n hb hx => ?_, fun b o e n hb hx => ?_, fun b o e n hx => ?_, fun b o e hx => ?_, fun b xs e => tups b xs (I.base.tups b xs e), fun b o xs e => frzs b o xs (I.base.frzs b o xs e), fun b ps e => ?_⟩, ?_, fun x c e => ?_, ?_, fun x c e => ?_, fun p hp => ?_, hok, I.len⟩
  · exact keep b o (neL b o e) hb (neC b o e hx) (I.base.keep b o e n hb hx) (I.base.free b o e n hx)
  · obtain ⟨sl, e1⟩ := I.base.slot b o e n hb hx
    obtain ⟨sl', e2⟩ := slot b _ (neL b o e) hb (neC b o e hx) e1 (I.base.free b o e n hx)
    exact ⟨sl', e2⟩
  · obtain ⟨o', e1⟩ := I.base.there b o e hx
    exact free b o' (neC b o e hx) e1 (I.base.free b o e n hx)
  · obtain ⟨o', e1⟩ := I.base.there b o e hx
    exact there b o' (neC b o e hx) e1
  · obtain ⟨m1, e1⟩ := I.base.tbls b ps e
    obtain ⟨m2, e2⟩ := tbls b _ e1
    exact ⟨m1 ++ m2, by rw [e2, Array.append_assoc]⟩
  · obtain ⟨m, hn, hl⟩ := I.loc
    refine ⟨m, ns m hn, fun i x v e1 e2 e3 => ?_⟩
    obtain ⟨u, r, l⟩ := hl i x v e1 e2 e3
    refine ⟨u, r, ?_⟩
    rcases l with l | ⟨k, c, e, z⟩
    · exact .inl l
    · exact .inr ⟨k, c, e, cellK x c e _ z⟩
  · obtain ⟨v, z⟩ := I.cell x c e
    exact ⟨v, cellK x c e v z⟩
  · obtain ⟨m, ⟨o, _, _, ho, _⟩, _⟩ := I.loc
    exact free _ o (fun z => (hch _ z).2.1 rfl) ho I.free
  · obtain ⟨v, o, ho, hd⟩ := I.cell x c e
    exact free c o (fun z => (hch c z).2.2.1 x c e rfl) ho (I.freeC x c e)
  · obtain ⟨e, n, ne, nf, d⟩ := I.pin p hp
    have nch : p.1 ∉ ch := fun z => (hch p.1 z).2.2.2 p hp rfl
    exact ⟨keep p.1 p.2 ne nf nch e n, free p.1 p.2 nch e n, ne, nf, d⟩
/-- .. where the frame's own object is kept too -/
theorem Inv.un {t' : Nat} (I : Inv X pins σ H s) (u : Un X.fs [] H H' s.heap h') (hok : HOk X.prog X.w H' h') : Inv X pins σ H' { s with heap := h', toks := t' } := by
  obtain ⟨m, ⟨o, es, ep, ho, r⟩, _⟩ := id I.loc
  obtain ⟨sl, hL⟩ := u.any ho I.free (by simp)
  exact I.step (g' := s.gens) (d' := s.drawn) (ch := []) (fun _ z => nomatch z) (fun b o _ hb _ e n => u.keep b o e n hb (by simp)) (fun b o _ hb _ e n => u.slot b o e n hb (by simp)) (fun b o _ e n => u.free b o e n (by simp)) (fun b o _ e => u.there b o e (by simp)) u.tups u.frzs u.tbls (fun m' hm => by
    obtain ⟨o', es', ep', ho', r'⟩ := hm
    rw [ho] at ho'; cases ho'
    exact ⟨_, es', ep', hL, r'⟩) hok I.bare
/-- behind a call (or a comprehension's block): the slots of this frame may have changed too, the records at ch may have turned -/
theorem Inv.call {g' : Array GenState} {t' : Nat} {d' : Drawn} {ch : List Addr} (I : Inv X pins σ H s) (u : Un (frs X.stack) ch H H' s.heap h') (hok : HOk X.prog X.w H' h') (hg : AllBare g')
    (hch : ∀ b ∈ ch, (b ∈ X.ex ∨ X.s₀.heap.objs.size ≤ b) ∧ b ≠ X.env.locals ∧ (∀ x c, X.env.cells.lookup x = some c → c ≠ b) ∧ ∀ p ∈ X.pn ++ pins, p.1 ≠ b) :
    Inv X pins σ H' { s with heap := h', gens := g', drawn := d', toks := t' } := by
  obtain ⟨m, ⟨o, es, ep, ho, r⟩, _⟩ := id I.loc
  obtain ⟨sl, hL⟩ := u.any ho I.free fun z => (hch _ z).2.1 rfl
  exact I.step (ch := ch) hch (fun b o hL hb hc e n => u.keep b o e n (fun z => (List.mem_cons.mp (I.stkSub b z)).elim hL hb) hc) (fun b o _ _ hc e n => u.any e n hc) (fun b o hc e n => u.free b o e n hc) (fun b o hc e => u.there b o e hc) u.tups u.frzs u.tbls (fun m' hm => by
    obtain ⟨o', es', ep', ho', r'⟩ := hm
    rw [ho] at ho'; cases ho'
    exact ⟨_, es', ep', hL, r'⟩) hok hg
/-- an untracked record of ours (an iterator) has turned -/
theorem Inv.turned {t' : Nat} {it : Addr} (I : Inv X pins σ H s) (k : ∀ b o, b ≠ it → s.heap.get? b = some o → h'.get? b = some o) (hn : H it = none) (hL : it ≠ X.env.locals)
    (h1 : it ∈ X.ex ∨ X.s₀.heap.objs.size ≤ it) (h2 : ∀ x c, X.env.cells.lookup x = some c → c ≠ it) (h3 : ∀ p ∈ X.pn ++ pins, p.1 ≠ it) : Inv X pins σ H { s with heap := h', toks := t' } := by
  have nit : ∀ b u, H b = some u → b ≠ it := fun b u e z => by rw [z, hn] at e; cases e
  refine I.step (g' := s.gens) (d' := s.drawn) (ch := [it]) (fun b hb => ?_) (fun b o _ _ hc e _ => k b o (fun z => hc (by simp [z])) e) (fun b o _ _ hc e _ => ⟨o.slots, k b o (fun z => hc (by simp [z])) e⟩) (fun _ _ _ _ n => n)
    (fun b o hc e => ⟨o, k b o (fun z => hc (by simp [z])) e⟩) (fun _ _ e => e) (fun _ _ _ e => e) (fun b ps e => ⟨#[], by rw [e]; simp⟩) (fun m hm => ?_) (fun b u e => ?_) I.bare
  · have e : b = it := by simpa using hb
    subst e
    exact ⟨h1, hL, h2, h3⟩
  · obtain ⟨o, es, ep, ho, r⟩ := hm
    exact ⟨o, es, ep, k _ o (Ne.symm hL) ho, r⟩
  · refine (I.hok b u e).stay (fun c v hc q => k c v ?_ q) (fun _ q => q) fun _ _ q => q
    rcases hc with z | z
    · rw [z]; exact nit b u e
    · exact nit c _ z
theorem Inv.tok (I : Inv X pins σ H s) (t : Nat) : Inv X pins σ H { s with toks := t } := I.un (h' := s.heap) (t' := t) Un.refl I.hok
/-- all objects kept -/
theorem Inv.kept {t' : Nat} (I : Inv X pins σ H s) (k : ∀ b u, s.heap.get? b = some u → h'.get? b = some u) : Inv X pins σ H { s with heap := h', toks := t' } := I.un (Un.kept k) (I.hok.kept k)
/-- a new object laid and tracked -/
theorem Inv.laid {a : Addr} {o : HO} {t' : Nat} (I : Inv X pins σ H s) (k : ∀ b u, s.heap.get? b = some u → h'.get? b = some u) (hp : s.heap.objs.size ≤ a) (new : ObjOk X.prog X.w (upd H a o) h' a o) :
    Inv X pins σ (upd H a o) { s with heap := h', toks := t' } := I.un (Un.laid k hp (I.hok.fresh hp)) (I.hok.laid k hp new)
/-- an object written -/
theorem Inv.write {x e : Addr} {o : HO} {t' : Nat} (I : Inv X pins σ H s) (mu : Mut (H x)) (he : e = x ∨ H e = some (.own x)) (k : ∀ b u, b ≠ e → s.heap.get? b = some u → h'.get? b = some u) (heo : ∃ u, h'.get? e = some u)
    (new : ObjOk X.prog X.w (upd H x o) h' x o) : Inv X pins σ (upd H x o) { s with heap := h', toks := t' } := I.un (Un.write mu he k heo) (I.hok.write mu he k heo new)
theorem Inv.pins_of {pins' : List (Addr × Obj)} (I : Inv X pins σ H s) (h : ∀ p ∈ pins', s.heap.get? p.1 = some p.2 ∧ H p.1 = none ∧ p.1 ≠ X.env.locals ∧ p.1 ∉ X.fs ∧ ∀ v, p.2.data ≠ .cell v) : Inv X pins' σ H s :=
  ⟨I.ok, I.os, I.bare, I.base, I.loc, I.cell, I.free, I.freeC, fun p hp => (List.mem_append.mp hp).elim (fun z => I.pin p (List.mem_append_left _ z)) (h p), I.hok, I.len⟩

theorem nodup_ix {N : List Str} (hN : N.Nodup) {i j : Nat} {x : Str} (a : N[i]? = some x) (b : N[j]? = some x) : i = j := by
  obtain ⟨h1, e1⟩ := List.getElem?_eq_some_iff.mp a
  obtain ⟨h2, e2⟩ := List.getElem?_eq_some_iff.mp b
  exact (List.getElem_inj hN).mp (e1.trans e2.symm)

/-- a name is stored; what changed -/
theorem store_ok2 {M : Model} {A : Around} {E : Value → Shared → Prop} {i : Nat} {x : Str} {v : V} {u : Value} {Q : Unit → Shared → Prop} (I : Inv X pins σ H s) (hN : X.N.Nodup) (hi : X.N[i]? = some x) (hx : Loc X.env.scope x) (r : RelV v u)
    (h : ∀ s', Inv X pins (σ.set i (some v)) H s' → (∃ a, Heap.SameBut a s.heap s'.heap ∧ (a = X.env.locals ∨ X.env.cells.lookup x = some a)) → Q () s') (hf : X.fn x = true ∨ X.env.scope.names.lookup x = some .local := by first | exact .inl rfl | exact .inr rfl | assumption) : wpAny M A (storeName X.env x u) Q E s := by
  obtain ⟨m, hn, hl⟩ := id I.loc
  have hcls : (X.env.scope.kind == .class || (X.env.scope.kind == .module && X.env.locals != X.env.globals)) = false := by rw [I.ok.kind]; rfl
  have hiσ : i < σ.length := by rw [I.len]; exact (List.getElem?_eq_some_iff.mp hi).1
  have cne := I.cne
  have tracked : ∀ {a : Addr} {h' : Heap}, (∃ o, s.heap.get? a = some o ∧ H a = none) → Heap.SameBut a s.heap h' → HOk X.prog X.w H h' := fun {a h'} ha hs b ob e => by
    obtain ⟨_, _, hfree⟩ := ha
    refine (I.hok b ob e).stay (fun c w' hc q => (hs.2 c ?_).trans q) (fun _ q => q) fun _ _ q => q
    rintro rfl
    rcases hc with rfl | hc
    · rw [hfree] at e; cases e
    · rw [hfree] at hc; cases hc
  rcases hx with hk | hk
  · refine wpAny_storeName_local hk hn (fun h' hn' hs => ?_) hcls
    obtain ⟨oL, _, _, hoL, _⟩ := id hn
    refine h _ ⟨I.ok, I.os, I.bare, ⟨fun b o e n hb hx => ?_, fun b o e n hb hx => ?_, I.base.free, fun b o e hx => ?_, I.base.tups, I.base.frzs, I.base.tbls⟩, ⟨_, hn', fun j y v' e1 e2 e3 => ?_⟩, fun y c e => ?_, I.free, I.freeC, fun p hp => ?_, tracked ⟨oL, hoL, I.free⟩ hs, by simpa using I.len⟩ ⟨_, hs, .inl rfl⟩
    · exact (hs.2 b (Nat.ne_of_lt (Nat.lt_of_lt_of_le (Heap.lt_size e) I.ok.above))).trans (I.base.keep b o e n hb hx)
    · obtain ⟨sl, e1⟩ := I.base.slot b o e n hb hx
      exact ⟨sl, (hs.2 b (Nat.ne_of_lt (Nat.lt_of_lt_of_le (Heap.lt_size e) I.ok.above))).trans e1⟩
    · obtain ⟨o', e1⟩ := I.base.there b o e hx
      exact ⟨o', (hs.2 b (Nat.ne_of_lt (Nat.lt_of_lt_of_le (Heap.lt_size e) I.ok.above))).trans e1⟩
    · by_cases hj : j = i
      · subst hj
        rw [hi] at e1; cases e1
        rw [List.getElem?_set_self hiσ] at e2
        cases e2
        exact ⟨u, r, .inl ⟨hk, by simp⟩⟩
      · rw [List.getElem?_set_ne (Ne.symm hj)] at e2
        obtain ⟨u', r', q⟩ := hl j y v' e1 e2 e3
        refine ⟨u', r', ?_⟩
        rcases q with ⟨k, e⟩ | ⟨k, c, e, z⟩
        · refine .inl ⟨k, ?_⟩
          have : y ≠ x := fun e => hj (nodup_ix hN e1 (e ▸ hi))
          simp [this, e]
        · exact .inr ⟨k, c, e, z.sameBut hs (cne y c e)⟩
    · obtain ⟨w', z⟩ := I.cell y c e
      exact ⟨w', z.sameBut hs (cne y c e)⟩
    · obtain ⟨e, n, ne, nf, d⟩ := I.pin p hp
      exact ⟨(hs.2 p.1 ne).trans e, n, ne, nf, d⟩
  · have hfn : X.fn x = true := by
      rcases hf with z | z
      · exact z
      · rw [z] at hk; cases hk
    obtain ⟨c, hc⟩ := I.ok.has x (.inl hk)
    obtain ⟨w', z⟩ := I.cell x c hc
    refine wpAny_storeName_cell I.ok.kind hk hc z (fun h' hc' hs => ?_)
    obtain ⟨oc, hoc, hocd⟩ := id z
    refine h { s with heap := h' } ⟨I.ok, I.os, I.bare, ⟨fun b o e n hb hx => ?_, fun b o e n hb hx => ?_, I.base.free, fun b o e hx => ?_, I.base.tups, I.base.frzs, I.base.tbls⟩, ⟨m, hn.sameBut hs (Ne.symm (cne x c hc)), fun j y v' e1 e2 e3 => ?_⟩, fun y c' e => ?_, I.free, I.freeC, fun p hp => ?_, tracked ⟨oc, hoc, I.freeC x c hc⟩ hs, by simpa using I.len⟩ ⟨c, hs, .inr hc⟩
    · exact (hs.2 b (Nat.ne_of_lt (Nat.lt_of_lt_of_le (Heap.lt_size e) (I.ok.cab x c hfn hc)))).trans (I.base.keep b o e n hb hx)
    · obtain ⟨sl, e1⟩ := I.base.slot b o e n hb hx
      exact ⟨sl, (hs.2 b (Nat.ne_of_lt (Nat.lt_of_lt_of_le (Heap.lt_size e) (I.ok.cab x c hfn hc)))).trans e1⟩
    · obtain ⟨o', e1⟩ := I.base.there b o e hx
      exact ⟨o', (hs.2 b (Nat.ne_of_lt (Nat.lt_of_lt_of_le (Heap.lt_size e) (I.ok.cab x c hfn hc)))).trans e1⟩
    · by_cases hj : j = i
      · subst hj
        rw [hi] at e1; cases e1
        rw [List.getElem?_set_self hiσ] at e2
        cases e2
        exact ⟨u, r, .inr ⟨.inl hk, c, hc, hc'⟩⟩
      · rw [List.getElem?_set_ne (Ne.symm hj)] at e2
        obtain ⟨u', r', q⟩ := hl j y v' e1 e2 e3
        refine ⟨u', r', ?_⟩
        rcases q with q | ⟨k, c', e, z'⟩
        · exact .inl q
        · refine .inr ⟨k, c', e, z'.sameBut hs ?_⟩
          rintro rfl
          exact hj (nodup_ix hN e1 (I.ok.inj _ _ _ e hc ▸ hi))
    · by_cases hcc : c' = c
      · subst hcc; exact ⟨_, hc'⟩
      · obtain ⟨w2, z2⟩ := I.cell y c' e
        exact ⟨w2, z2.sameBut hs hcc⟩
    · obtain ⟨e, n, ne, nf, d⟩ := I.pin p hp
      refine ⟨(hs.2 p.1 ?_).trans e, n, ne, nf, d⟩
      intro q
      rw [q, hoc] at e
      have q' : oc = p.2 := Option.some.inj e
      exact d w' (by rw [← q']; exact hocd)
theorem store_ok {M : Model} {A : Around} {E : Value → Shared → Prop} {i : Nat} {x : Str} {v : V} {u : Value} {Q : Unit → Shared → Prop} (I : Inv X pins σ H s) (hN : X.N.Nodup) (hi : X.N[i]? = some x) (hx : Loc X.env.scope x) (r : RelV v u)
    (h : ∀ s', Inv X pins (σ.set i (some v)) H s' → Q () s') (hf : X.fn x = true ∨ X.env.scope.names.lookup x = some .local := by first | exact .inl rfl | exact .inr rfl | assumption) : wpAny M A (storeName X.env x u) Q E s :=
  store_ok2 I hN hi hx r (fun s' I' _ => h s' I') hf
/-- behind a call or a block, the state as it is -/
theorem Inv.call' {s' : Shared} {ch : List Addr} (I : Inv X pins σ H s) (ho : s'.os = s.os) (u : Un (frs X.stack) ch H H' s.heap s'.heap) (hok : HOk X.prog X.w H' s'.heap) (hg : AllBare s'.gens)
    (hch : ∀ b ∈ ch, (b ∈ X.ex ∨ X.s₀.heap.objs.size ≤ b) ∧ b ≠ X.env.locals ∧ (∀ x c, X.env.cells.lookup x = some c → c ≠ b) ∧ ∀ p ∈ X.pn ++ pins, p.1 ≠ b) : Inv X pins σ H' s' := by
  obtain ⟨h', g', d', t', o'⟩ := s'
  have e : o' = s.os := ho
  subst e
  exact I.call (g' := g') (t' := t') (d' := d') u hok hg hch
end

/-- an exception: its class, its own dict's address (where it has one), the abstract heap behind it -/
abbrev XK := Value → Option Addr → Hp → Prop
abbrev St := List (Option V)
abbrev VK := V → Hp → Prop
/-- an expression's reading; a test's; an argument list's -/
abbrev TE := St → Hp → VK → Prop
abbrev TT := St → Hp → (Bool → Hp → Prop) → Prop
abbrev TA := St → Hp → (List V → Hp → Prop) → Prop
/-- what is wanted behind a statement -/
structure Ends where
  nx : St → Hp → Prop
  rt : VK
  bk : St → Hp → Prop := fun _ _ => False
  ct : St → Hp → Prop := fun _ _ => False
abbrev TS := Ends → St → Hp → Prop

def EP (X : Cx) (pins : List (Addr × Obj)) (σ : St) (Q : VK) (u : Value) (s' : Shared) : Prop := ∃ v H', Inv X pins σ H' s' ∧ RelV v u ∧ Q v H'
def TP (X : Cx) (pins : List (Addr × Obj)) (σ : St) (Q : Bool → Hp → Prop) (b : Bool) (s' : Shared) : Prop := ∃ H', Inv X pins σ H' s' ∧ Q b H'
def AP (X : Cx) (pins : List (Addr × Obj)) (σ : St) (Q : List V → Hp → Prop) (us : List Value) (s' : Shared) : Prop := ∃ vs H', Inv X pins σ H' s' ∧ Vals vs us ∧ Q vs H'
def SP (X : Cx) (pins : List (Addr × Obj)) (D : Ends) (f : Flow) (s' : Shared) : Prop :=
  match f with
  | .next => ∃ σ' H', Inv X pins σ' H' s' ∧ D.nx σ' H'
  | .brk => ∃ σ' H', Inv X pins σ' H' s' ∧ D.bk σ' H'
  | .cont => ∃ σ' H', Inv X pins σ' H' s' ∧ D.ct σ' H'
  | .ret u => ∃ v σ' H', Inv X pins σ' H' s' ∧ RelV v u ∧ D.rt v H'

def PE (X : Cx) (e : Expr) (t : TE) : Prop :=
  ∀ (pins : List (Addr × Obj)) (s : Shared) (σ : St) (H : Hp) (Q : VK), Inv X pins σ H s → t σ H Q → wpAny (model X.prog X.w) X.A (eval e X.env) (EP X pins σ Q) X.xe s
def PT (X : Cx) (e : Expr) (t : TT) : Prop :=
  ∀ (pins : List (Addr × Obj)) (s : Shared) (σ : St) (H : Hp) (Q : Bool → Hp → Prop), Inv X pins σ H s → t σ H Q → wpAny (model X.prog X.w) X.A (isTrue e X.env (eval e X.env)) (TP X pins σ Q) X.xe s
/-- a test whatever its 'whole' is (and, or) -/
def PW (X : Cx) (e : Expr) (t : TT) : Prop :=
  ∀ (whole : Sem Value) (pins : List (Addr × Obj)) (s : Shared) (σ : St) (H : Hp) (Q : Bool → Hp → Prop), Inv X pins σ H s → t σ H Q → wpAny (model X.prog X.w) X.A (isTrue e X.env whole) (TP X pins σ Q) X.xe s
theorem PW.pt {X : Cx} {e : Expr} {t : TT} (h : PW X e t) : PT X e t := h _
/-- an argument list (no star), from the left -/
def PA (X : Cx) (es : List Expr) (t : TA) : Prop :=
  ∀ (pos : Pos) (pins : List (Addr × Obj)) (s : Shared) (σ : St) (H : Hp) (Q : List V → Hp → Prop), Inv X pins σ H s → t σ H Q → wpAny (model X.prog X.w) X.A (spliced (backTo pos (starEach es X.env))) (AP X pins σ Q) X.xe s
def PS (X : Cx) (st : Stmt) (t : TS) : Prop :=
  ∀ (pins : List (Addr × Obj)) (s : Shared) (σ : St) (H : Hp) (D : Ends), Inv X pins σ H s → t D σ H → wpAny (model X.prog X.w) X.A (exec st X.env) (SP X pins D) X.xe s
def PSs (X : Cx) (st : List Stmt) (t : TS) : Prop :=
  ∀ (pins : List (Addr × Obj)) (s : Shared) (σ : St) (H : Hp) (D : Ends), Inv X pins σ H s → t D σ H → wpAny (model X.prog X.w) X.A (execs st X.env) (SP X pins D) X.xe s
/-- weaken the end -/
theorem thn {α : Type} {t : Sem α} {Q Q' : α → Shared → Prop} {M : Model} {A : Around} {E : Value → Shared → Prop} {s : Shared} (h : wpAny M A t Q E s) (hQ : ∀ a s, Q a s → Q' a s) : wpAny M A t Q' E s := wpAny_mono h hQ fun _ _ x => x
end L2

namespace L2
open PySem PySem.Spec PyProof.Rows
section
variable {X : Cx}

def tVar (i : Nat) : TE := fun σ H Q => ∃ v, σ[i]? = some (some v) ∧ Q v H
def tC (v : V) : TE := fun _ H Q => Q v H
theorem pe_var {i : Nat} {x : Str} {pos : Pos} (hN : X.N[i]? = some x) (hv : Vis X.env.scope x) (hd : (x == ("__debug__" : Str)) = false := by decide) (hcd : (x == ("__classdict__" : Str)) = false := by decide) : PE X (.Name x pos) (tVar i) := by
  intro pins s σ H Q I h
  obtain ⟨v, e, h⟩ := h
  obtain ⟨m, hn, hl⟩ := I.loc
  obtain ⟨u, r, l⟩ := hl i x v hN e hv
  have fin : EP X pins σ Q u s := ⟨v, H, I, r, h⟩
  rcases l with ⟨hk, hm⟩ | ⟨hk, c, hc, hcell⟩
  · exact wpAny_Name (wpAny_loadName_local I.ok.kind hk hn hm fin) hd
  · rcases hk with hk | hk
    · exact wpAny_Name (wpAny_loadName_cell I.ok.kind hk hc hcell fin) hd
    · exact wpAny_Name (wpAny_loadName_free I.ok.kind hk hc hcell fin hcd) hd
theorem pe_int {i j pos} : PE X (.Constant (.int i) j pos) (tC (.int i)) := fun _ _ _ H _ I h => wpAny_Constant_int ⟨.int i, H, I.tok _, ⟨_, rfl⟩, h⟩
theorem pe_bl {b j pos} : PE X (.Constant (.bool b) j pos) (tC (.bl b)) := fun _ _ _ H _ I h => Constant_bool ⟨.bl b, H, I, rfl, h⟩
theorem pe_non {j pos} : PE X (.Constant .none j pos) (tC .non) := fun _ _ _ H _ I h => Constant_none ⟨.non, H, I, rfl, h⟩
/-- a global name of the def -/
def Gl (X : Cx) (x : Str) : Prop := X.env.kindOf x = some .globalImplicit
theorem ld_glob {E : Value → Shared → Prop} {pins : List (Addr × Obj)} {s : Shared} {σ : St} {H : Hp} {x : Str} {u : Value} {pos : Pos} {Q : Value → Shared → Prop} (I : Inv X pins σ H s) (hg : Gl X x) (hm : X.mg x = some u) (h : Q u s)
    (hd : (x == ("__debug__" : Str)) = false := by decide) : wpAny (model X.prog X.w) X.A (eval (.Name x pos) X.env) Q E s :=
  Calls.Name_function_global I.ok.kind hg (Calls.loadGlobal_global (by rw [I.ok.glob]; exact I.mod.glob.keeps I.bk) hm h) hd
theorem ld_blt {E : Value → Shared → Prop} {pins : List (Addr × Obj)} {s : Shared} {σ : St} {H : Hp} {x : Str} {u : Value} {pos : Pos} {Q : Value → Shared → Prop} (I : Inv X pins σ H s) (hg : Gl X x) (hm : X.mg x = none) (hv : bootBuiltins x = some u) (h : Q u s)
    (hn : x ≠ "__name__" := by decide) (hd : (x == ("__debug__" : Str)) = false := by decide) : wpAny (model X.prog X.w) X.A (eval (.Name x pos) X.env) Q E s := by
  obtain ⟨mb, h1, h2⟩ := I.mod.blt
  exact Calls.Name_function_global I.ok.kind hg (Calls.loadGlobal_builtin (by rw [I.ok.glob]; exact I.mod.glob.keeps I.bk) hm (by rw [I.ok.blt]; exact h1.keeps I.bk) ((h2 x hn).trans hv) h) hd
theorem pe_bltn {x : Str} {v : V} {u : Value} {pos : Pos} (hg : Gl X x) (hm : X.mg x = none) (hv : bootBuiltins x = some u) (r : RelV v u) (hn : x ≠ "__name__" := by decide) (hd : (x == ("__debug__" : Str)) = false := by decide) : PE X (.Name x pos) (tC v) :=
  fun _ _ _ H _ I h => ld_blt I hg hm hv ⟨v, H, I, r, h⟩ hn hd

variable {a b : Expr} {ta tb : TE} {pos : Pos}
/-- a comparison as a value, as a test -/
def tB (t : TE) : TT := fun σ H Q => t σ H fun x H1 => ∃ c, x = .bl c ∧ Q c H1
/-- an expression whose value is a bool, as a test -/
theorem pt_val {e : Expr} {t : TE} (h : PE X e t) (he : ∀ whole, isTrue e X.env whole = (do let v ← whole; standAt e.pos; holding [v] (truthy v)) := by intro _; rfl) : PT X e (tB t) := by
  intro pins s σ H Q I hw
  refine isTrue_plain (thn (h pins s σ H _ I hw) fun v s1 ⟨x, H1, I1, r1, q1⟩ => ?_) (he _)
  obtain ⟨d, rfl, q⟩ := q1
  cases r1
  exact wpAny_truthy_bool ⟨H1, I1, q⟩

variable {tA tB' : TT} {rest : List Expr}
def tAnd (t u : TT) : TT := fun σ H Q => t σ H fun c H1 => if c = true then u σ H1 Q else Q false H1
def tOr (t u : TT) : TT := fun σ H Q => t σ H fun c H1 => if c = true then Q true H1 else u σ H1 Q
def tNot (t : TT) : TT := fun σ H Q => t σ H fun c H1 => Q (!c) H1
theorem pw_and1 (ha : PT X a tA) : PW X (.BoolOp .And [a] pos) tA := by
  intro wh pins s σ H Q I h
  refine isTrue_and (thn (ha pins s σ H Q I h) fun c s1 e => ?_)
  cases c with
  | true => exact isTrue_and_nil e
  | false => exact e
theorem pw_or1 (ha : PT X a tA) : PW X (.BoolOp .Or [a] pos) tA := by
  intro wh pins s σ H Q I h
  refine isTrue_or (thn (ha pins s σ H Q I h) fun c s1 e => ?_)
  cases c with
  | false => exact isTrue_or_nil e
  | true => exact e
theorem pw_and (ha : PT X a tA) (hb : PW X (.BoolOp .And (b :: rest) pos) tB') : PW X (.BoolOp .And (a :: b :: rest) pos) (tAnd tA tB') := by
  intro wh pins s σ H Q I h
  refine isTrue_and (thn (ha pins s σ H _ I h) fun c s1 ⟨H1, I1, q1⟩ => ?_)
  cases c with
  | true => exact hb wh pins s1 σ H1 Q I1 q1
  | false => exact ⟨H1, I1, q1⟩
theorem pw_or (ha : PT X a tA) (hb : PW X (.BoolOp .Or (b :: rest) pos) tB') : PW X (.BoolOp .Or (a :: b :: rest) pos) (tOr tA tB') := by
  intro wh pins s σ H Q I h
  refine isTrue_or (thn (ha pins s σ H _ I h) fun c s1 ⟨H1, I1, q1⟩ => ?_)
  cases c with
  | true => exact ⟨H1, I1, q1⟩
  | false => exact hb wh pins s1 σ H1 Q I1 q1
theorem pt_not (ha : PT X a tA) : PT X (.UnaryOp .Not a pos) (tNot tA) := by
  intro pins s σ H Q I h
  exact isTrue_not (ha pins s σ H (fun c H1 => Q (!c) H1) I h)
/-- .. as values (bools) -/
def tAndV (ta tb : TE) : TE := fun σ H Q => ta σ H fun x H1 => ∃ c, x = .bl c ∧ if c = true then tb σ H1 Q else Q (.bl false) H1
def tNotV (ta : TE) : TE := fun σ H Q => ta σ H fun x H1 => ∃ c, x = .bl c ∧ Q (.bl (!c)) H1
theorem pe_one {op} {t : TE} (h : PE X a t) : PE X (.BoolOp op [a] pos) t := fun pins s σ H Q I hw => BoolOp_one (h pins s σ H Q I hw)
theorem pe_and (ha : PE X a ta) (hb : PE X (.BoolOp .And (b :: rest) pos) tb) : PE X (.BoolOp .And (a :: b :: rest) pos) (tAndV ta tb) := by
  intro pins s σ H Q I h
  refine BoolOp_and (thn (ha pins s σ H _ I h) fun v s1 ⟨x, H1, I1, r1, q1⟩ => ?_)
  obtain ⟨c, rfl, q1⟩ := q1
  cases r1
  refine wpAny_truthy_bool ?_
  cases c with
  | true => exact hb pins s1 σ H1 Q I1 q1
  | false => exact ⟨.bl false, H1, I1, rfl, q1⟩
theorem pe_not (ha : PE X a ta) : PE X (.UnaryOp .Not a pos) (tNotV ta) := by
  intro pins s σ H Q I h
  refine UnaryOp_ (thn (ha pins s σ H _ I h) fun v s1 ⟨x, H1, I1, r1, q1⟩ => ?_)
  obtain ⟨c, rfl, q1⟩ := q1
  cases r1
  exact not_of (wpAny_truthy_bool ⟨.bl (!c), H1, I1, rfl, q1⟩)
/-- a if t else b -/
def tIf (t : TT) (ta tb : TE) : TE := fun σ H Q => t σ H fun c H1 => if c = true then ta σ H1 Q else tb σ H1 Q
theorem pe_ifExp {c : Expr} (hc : PT X c tA) (ha : PE X a ta) (hb : PE X b tb) : PE X (.IfExp c a b pos) (tIf tA ta tb) := by
  intro pins s σ H Q I h
  refine wpAny_IfExp (thn (hc pins s σ H _ I h) fun d s1 ⟨H1, I1, q1⟩ => ?_)
  cases d with
  | true => exact ha pins s1 σ H1 Q I1 q1
  | false => exact hb pins s1 σ H1 Q I1 q1
end
end L2

namespace L2
open PySem PySem.Spec PyProof.Rows

def SqL (K : PySem.W.Frag) (H : Hp) (a : Addr) (xs : List V) : Prop :=
  Rd H a (.lst xs) ∨
    ∃ (o : Obj) (its : Array Value) (n : Nat), K.lookup a = some o ∧ o.cls = .type "list" ∧ o.dict = none ∧ o.data = .seq its n ∧ its.size ≤ sizeLine ∧ Vals xs its.toList
def SqT (K : PySem.W.Frag) (H : Hp) (a : Addr) (xs : List V) : Prop :=
  Rd H a (.tup xs) ∨
    ∃ (o : Obj) (its : Array Value) (n : Nat), K.lookup a = some o ∧ o.cls = .type "tuple" ∧ o.data = .seq its n ∧ its.size ≤ sizeLine ∧ Vals xs its.toList
def absV : Value → Option V
  | .none => some .non
  | .bool b => some (.bl b)
  | .int i _ => some (.int i)
  | .str x _ => some (.str x)
  | .bytes b _ => some (.byt b)
  | .float b _ => some (.flt b)
  | .ref a => some (.ref a)
  | .type n => some (.ty n)
  | _ => none
theorem RelV.abs {x : V} {u : Value} (r : RelV x u) : absV u = some x := by
  cases x with
  | non => cases r; rfl
  | bl _ => cases r; rfl
  | int _ => obtain ⟨t, rfl⟩ := r; rfl
  | str _ => obtain ⟨t, rfl⟩ := r; rfl
  | byt _ => obtain ⟨t, rfl⟩ := r; rfl
  | flt _ => obtain ⟨t, rfl⟩ := r; rfl
  | ref _ => cases r; rfl
  | ty _ => cases r; rfl
theorem RelV.inj {x y : V} {u : Value} (r : RelV x u) (q : RelV y u) : x = y := Option.some.inj (r.abs.symm.trans q.abs)
theorem Vals.inj : ∀ {xs ys : List V} {us : List Value}, Vals xs us → Vals ys us → xs = ys
  | _, _, _, .nil, .nil => rfl
  | _, _, _, .cons r t, .cons r' t' => by rw [r.inj r', Vals.inj t t']
section
variable {X : Cx} {pins : List (Addr × Obj)} {σ : St} {H : Hp} {s : Shared} {a : Addr} {xs ys : List V}
theorem Inv.list (I : Inv X pins σ H s) (h : SqL X.K H a xs) : ∃ its : List Value, Vals xs its ∧ PlainL s.heap a its.toArray ∧ xs.length ≤ sizeLine := by
  rcases h with h | ⟨o, its, n, hk, hc, hd, hs, hz, r⟩
  · obtain ⟨z, its, n, r, e⟩ := h.ok I.hok
    exact ⟨its, r, ⟨_, n, e, rfl, rfl, rfl⟩, z⟩
  · refine ⟨its.toList, r, ⟨o, n, I.kIn a o hk, hc, hd, by simpa using hs⟩, ?_⟩
    have e := r.length
    simp only [Array.length_toList] at e
    omega
theorem Inv.tuple (I : Inv X pins σ H s) (h : SqT X.K H a xs) : ∃ its : List Value, Vals xs its ∧ IsTup s.heap a its.toArray ∧ xs.length ≤ sizeLine := by
  rcases h with h | ⟨o, its, n, hk, hc, hs, hz, r⟩
  · obtain ⟨z, its, r, p⟩ := h.ok I.hok
    exact ⟨its, r, p, z⟩
  · refine ⟨its.toList, r, ⟨o, I.kIn a o hk, hc, n, by simpa using hs⟩, ?_⟩
    have e := r.length
    simp only [Array.length_toList] at e
    omega
theorem Inv.list_inj (I : Inv X pins σ H s) (h : SqL X.K H a xs) (h' : SqL X.K H a ys) : xs = ys := by
  obtain ⟨its, r, ⟨o, n, e, _, _, d⟩, _⟩ := I.list h
  obtain ⟨its', r', ⟨o', n', e', _, _, d'⟩, _⟩ := I.list h'
  rw [e] at e'; cases e'
  rw [d] at d'
  injection d' with d1 _
  have : its = its' := by simpa using congrArg Array.toList d1
  subst this
  exact r.inj r'
end

abbrev Cx.wish (X : Cx) (E : Value → Shared → Prop) : Cx := { X with xe := E }
/-- no exception leaves -/
abbrev Cx.nox (X : Cx) : Cx := X.wish fun _ _ => False
theorem Cx.Ok.wish {X : Cx} (ok : X.Ok) (E : Value → Shared → Prop) : (X.wish E).Ok :=
  ⟨ok.mod, ok.kind, ok.glob, ok.blt, ok.above, ok.inj, ok.has, ok.cab, ok.hd, ok.frames, ok.stk, ok.exf, ok.bs, ok.bsz, ok.noex, ok.exfs, ok.funs, ok.frf⟩
theorem Cx.Ok.unwish {X : Cx} {E : Value → Shared → Prop} (ok : (X.wish E).Ok) : X.Ok :=
  ⟨ok.mod, ok.kind, ok.glob, ok.blt, ok.above, ok.inj, ok.has, ok.cab, ok.hd, ok.frames, ok.stk, ok.exf, ok.bs, ok.bsz, ok.noex, ok.exfs, ok.funs, ok.frf⟩
section
variable {X : Cx} {pins : List (Addr × Obj)} {σ : St} {H : Hp} {s : Shared} {E : Value → Shared → Prop}
theorem Inv.wish (I : Inv X pins σ H s) (E : Value → Shared → Prop) : Inv (X.wish E) pins σ H s := ⟨I.ok.wish E, I.os, I.bare, I.base, I.loc, I.cell, I.free, I.freeC, I.pin, I.hok, I.len⟩
theorem Inv.unwish (I : Inv (X.wish E) pins σ H s) : Inv X pins σ H s := ⟨I.ok.unwish, I.os, I.bare, I.base, I.loc, I.cell, I.free, I.freeC, I.pin, I.hok, I.len⟩
theorem SP.unwish {D : Ends} {f : Flow} {s' : Shared} (h : SP (X.wish E) pins D f s') : SP X pins D f s' := by
  cases f with
  | next => obtain ⟨σ', H', I, q⟩ := h; exact ⟨σ', H', I.unwish, q⟩
  | brk => obtain ⟨σ', H', I, q⟩ := h; exact ⟨σ', H', I.unwish, q⟩
  | cont => obtain ⟨σ', H', I, q⟩ := h; exact ⟨σ', H', I.unwish, q⟩
  | ret u => obtain ⟨v, σ', H', I, r, q⟩ := h; exact ⟨v, σ', H', I.unwish, r, q⟩
theorem PSs.nox {st : List Stmt} {t : TS} (h : PSs X.nox st t) : PSs X st t := fun pins s σ H D I hw =>
  wpAny_mono (h pins s σ H D (I.wish _) hw) (fun _ _ q => q.unwish) fun _ _ z => False.elim z
end

section
variable {X : Cx} {st : Stmt} {rest : List Stmt} {t u : TS} {e : Expr} {te : TE} {pos : Pos}
def tNext : TS := fun D σ H => D.nx σ H
def tSeq (t u : TS) : TS := fun D σ H => t { D with nx := u D } σ H
theorem pss_nil : PSs X [] tNext := fun _ _ σ H _ I h => wpAny_execs_nil ⟨σ, H, I, h⟩
theorem pss_cons (h1 : PS X st t) (h2 : PSs X rest u) : PSs X (st :: rest) (tSeq t u) := by
  intro pins s σ H D I h
  refine wpAny_execs_cons (thn (h1 pins s σ H { D with nx := u D } I h) fun f s1 q => ?_)
  cases f with
  | next =>
    obtain ⟨σ', H', I', q⟩ := q
    exact h2 pins s1 σ' H' D I' q
  | ret v => exact q
  | brk => exact q
  | cont => exact q
theorem pss_one (h1 : PS X st t) : PSs X [st] t := by
  intro pins s σ H D I h
  refine wpAny_execs_cons (thn (h1 pins s σ H D I h) fun f s1 q => ?_)
  cases f with
  | next => exact wpAny_execs_nil q
  | ret v => exact q
  | brk => exact q
  | cont => exact q
/-- in a def's body nothing is shown -/
theorem Inv.quiet {pins : List (Addr × Obj)} {σ : St} {H : Hp} {s : Shared} (I : Inv X pins σ H s) : interactive X.env = false := by simp [interactive, I.ok.kind]
/-- an expression whose value is dropped -/
def tDrop (te : TE) : TS := fun D σ H => te σ H fun _ H1 => D.nx σ H1
theorem ps_expr (he : PE X e te) (hs : swapsWith e none pos.line X.env = pure false := by rfl) : PS X (.Expr e pos) (tDrop te) := by
  intro pins s σ H D I h
  exact wpAny_Expr_any (thn (he pins s σ H _ I h) fun v s1 ⟨x, H1, I1, r1, q1⟩ => ⟨σ, H1, I1, q1⟩) I.quiet hs
def tRet (te : TE) : TS := fun D σ H => te σ H D.rt
theorem ps_ret (he : PE X e te) : PS X (.Return (some e) pos) (tRet te) := by
  intro pins s σ H D I h
  exact wpAny_Return_some (thn (he pins s σ H _ I h) fun v s1 ⟨x, H1, I1, r1, q1⟩ => ⟨x, σ, H1, I1, r1, q1⟩)
def tIfS (c : TT) (t u : TS) : TS := fun D σ H => c σ H fun b H1 => if b = true then t D σ H1 else u D σ H1
theorem ps_if {c : Expr} {a b : List Stmt} {tc : TT} (hc : PT X c tc) (ha : PSs X a t) (hb : PSs X b u) : PS X (.If c a b pos) (tIfS tc t u) := by
  intro pins s σ H D I h
  refine wpAny_If (thn (hc pins s σ H _ I h) fun d s1 ⟨H1, I1, q1⟩ => ?_)
  cases d with
  | true => exact ha pins s1 σ H1 D I1 q1
  | false => exact hb pins s1 σ H1 D I1 q1
end

abbrev TG := V → St → Hp → (St → Hp → Prop) → Prop
abbrev TGs := List V → St → Hp → (St → Hp → Prop) → Prop
def PG (X : Cx) (target : Expr) (t : TG) : Prop :=
  ∀ (pins : List (Addr × Obj)) (s : Shared) (σ : St) (H : Hp) (v : V) (u : Value) (Q : St → Hp → Prop), Inv X pins σ H s → RelV v u → t v σ H Q →
    wpAny (model X.prog X.w) X.A (assign target X.env u) (fun _ s' => ∃ σ' H', Inv X pins σ' H' s' ∧ Q σ' H') X.xe s
/-- several targets, one after another -/
def PGs (X : Cx) (ts : List Expr) (t : TGs) : Prop :=
  ∀ (pins : List (Addr × Obj)) (s : Shared) (σ : St) (H : Hp) (vs : List V) (us : List Value) (Q : St → Hp → Prop), Inv X pins σ H s → Vals vs us → t vs σ H Q →
    wpAny (model X.prog X.w) X.A (assignInOrder ((assignEach ts X.env).map (·.2)) us) (fun _ s' => ∃ σ' H', Inv X pins σ' H' s' ∧ Q σ' H') X.xe s
/-- o[i] = v, by values -/
abbrev TSet := V → V → V → Hp → (Hp → Prop) → Prop
def PSet (X : Cx) (t : TSet) : Prop :=
  ∀ (pins : List (Addr × Obj)) (s : Shared) (σ : St) (H : Hp) (o i v : V) (ov iv u : Value) (Q : Hp → Prop), Inv X pins σ H s → RelV o ov → RelV i iv → RelV v u → t o i v H Q →
    wpAny (model X.prog X.w) X.A (setItem ov iv u) (fun _ s' => ∃ H', Inv X pins σ H' s' ∧ Q H') X.xe s
section
variable {X : Cx} {pos : Pos}
def gName (i : Nat) : TG := fun v σ H Q => Q (σ.set i (some v)) H
theorem pg_name {i : Nat} {x : Str} (hN : X.N.Nodup) (hi : X.N[i]? = some x) (hx : Loc X.env.scope x) (hf : X.fn x = true ∨ X.env.scope.names.lookup x = some .local := by first | exact .inl rfl | exact .inr rfl | assumption) : PG X (.Name x pos) (gName i) := by
  intro pins s σ H v u Q I r h
  exact wpAny_assign_Name (store_ok I hN hi hx r (fun s' I' => ⟨_, H, I', h⟩) hf)
def gNil : TGs := fun vs σ H Q => vs = [] ∧ Q σ H
def gCons (t : TG) (u : TGs) : TGs := fun vs σ H Q => ∃ v r, vs = v :: r ∧ t v σ H fun σ' H' => u r σ' H' Q
theorem pgs_nil : PGs X [] gNil := by
  intro pins s σ H vs us Q I r h
  obtain ⟨e, h⟩ := h
  subst e
  cases r
  exact assignInOrder_nil ⟨σ, H, I, h⟩
theorem pgs_cons {e : Expr} {es : List Expr} {t : TG} {u : TGs} (h1 : PG X e t) (h2 : PGs X es u)
    (hs : (assignEach (e :: es) X.env).map (·.2) = assign e X.env :: (assignEach es X.env).map (·.2) := by rfl) : PGs X (e :: es) (gCons t u) := by
  intro pins s σ H vs us Q I r h
  obtain ⟨v, vr, e1, h⟩ := h
  subst e1
  cases r with
  | cons r rr =>
    rw [hs]
    refine assignInOrder_cons (thn (h1 pins s σ H _ _ _ I r h) fun _ s1 ⟨σ1, H1, I1, q1⟩ => ?_)
    exact h2 pins s1 σ1 H1 _ _ Q I1 rr q1
/-- (a, b, ..) = a tuple of that length -/
def gTup (K : PySem.W.Frag) (n : Nat) (t : TGs) : TG := fun v σ H Q => ∃ a xs, v = .ref a ∧ SqT K H a xs ∧ xs.length = n ∧ t xs σ H Q
theorem pg_tup {es : List Expr} {k : Nat} {t : TGs} {n : Nat} (hc : X.calm = true) (h : PGs X es t)
    (hn : (assignEach es X.env).length = n := by rfl) (hst : (assignEach es X.env).findIdx? (·.1) = none := by rfl) : PG X (.Tuple es k pos) (gTup X.K n t) := by
  intro pins s σ H v u Q I r hw
  obtain ⟨a, xs, e1, hq, hl, hw⟩ := hw
  subst e1
  cases r
  obtain ⟨its, rv, ht, hz⟩ := I.tuple hq
  refine assign_Tuple_tuple (I.ok.hd hc) ht (by simp [hn, ← hl, rv.length]) hst fun h' hx => ?_
  have I1 : Inv X pins σ H { s with heap := h' } := I.kept (t' := s.toks) fun b o e => hx b o (Nat.ne_of_lt (Heap.lt_size e)) e
  exact h pins _ σ H xs _ Q I1 (by simpa using rv) hw
/-- o[i] = .. -/
def gSub (to ti : TE) (t : TSet) : TG := fun v σ H Q => to σ H fun o H1 => ti σ H1 fun i H2 => t o i v H2 fun H3 => Q σ H3
theorem pg_sub {o i : Expr} {to ti : TE} {t : TSet} (ho : PE X o to) (hi : PE X i ti) (hs : PSet X t)
    (ha : ∀ v, assign (.Subscript o i pos) X.env v = (do
      let ov ← holding [v] (eval o X.env)
      let iv ← holding [v, ov] (eval i X.env)
      standAt pos
      holding [v, ov, iv] (setItem ov iv v)
      release [v, ov, iv] []) := by intro _; rfl) : PG X (.Subscript o i pos) (gSub to ti t) := by
  intro pins s σ H v u Q I r h
  rw [ha]
  refine wpAny_bind (wpAny_holding (thn (ho pins s σ H _ I h) fun ov s1 ⟨x, H1, I1, r1, q1⟩ => ?_))
  refine wpAny_bind (wpAny_holding (thn (hi pins s1 σ H1 _ I1 q1) fun iv s2 ⟨y, H2, I2, r2, q2⟩ => ?_))
  refine wpAny_bind (wpAny_standAt (wpAny_bind (wpAny_holding (thn (hs pins s2 σ H2 x y v ov iv u _ I2 r1 r2 r q2) fun _ s3 ⟨H3, I3, q3⟩ => ?_))))
  exact wpAny_release ⟨σ, H3, I3, q3⟩
/-- target = value -/
def tAsg (te : TE) (g : TG) : TS := fun D σ H => te σ H fun x H1 => g x σ H1 D.nx
theorem ps_asg {tg e : Expr} {te : TE} {g : TG} (he : PE X e te) (hg : PG X tg g) (hs : swapsWithSole [tg] e pos.line X.env = pure false := by rfl) (hw : swappedStores [tg] e X.env = pure none := by rfl)
    (h1 : (assignEach [tg] X.env).map (·.2) = [assign tg X.env] := by rfl) : PS X (.Assign [tg] e pos) (tAsg te g) := by
  intro pins s σ H D I h
  refine wpAny_Assign_stores (thn (he pins s σ H _ I h) fun v s1 ⟨x, H1, I1, r1, q1⟩ => ?_) hs hw
  rw [h1]
  exact thn (hg pins s1 σ H1 x v _ I1 r1 q1) fun _ s2 q => q
/-- name = value -/
theorem ps_set {i : Nat} {x : Str} {e : Expr} {te : TE} {pos' : Pos} (hN : X.N.Nodup) (hi : X.N[i]? = some x) (hx : Loc X.env.scope x) (he : PE X e te) (hs : swapsWith e (some (.Name x pos')) pos.line X.env = pure false := by rfl) (hf : X.fn x = true ∨ X.env.scope.names.lookup x = some .local := by first | exact .inl rfl | exact .inr rfl | assumption) :
    PS X (.Assign [.Name x pos'] e pos) (tAsg te (gName i)) := by
  intro pins s σ H D I h
  refine wpAny_Assign_Name (thn (he pins s σ H _ I h) fun v s1 ⟨y, H1, I1, r1, q1⟩ => ?_) hs
  exact store_ok I1 hN hi hx r1 (fun s2 I2 => ⟨_, H1, I2, q1⟩) hf
end

section
variable {X : Cx} {pos : Pos}
/-- the invariant W with its measure -/
def tWhile (c : TT) (tb : TS) : TS := fun D σ H => ∃ W : Nat → St → Hp → Prop, (∃ m, W m σ H) ∧ ∀ m σ H, W m σ H →
  c σ H fun b H1 => if b = true then ∃ N : St → Hp → Prop, (∀ σ' H', N σ' H' → ∃ m', m' < m ∧ W m' σ' H') ∧ tb { D with nx := N, ct := N, bk := D.nx } σ H1 else D.nx σ H1
theorem ps_while {c : Expr} {body : List Stmt} {tc : TT} {tb : TS} (hp : PassesOwn (model X.prog X.w) X.A X.env X.xe) (hc : PT X c tc) (hb : PSs X body tb) : PS X (.While c body [] pos) (tWhile tc tb) := by
  intro pins s σ H D I h
  obtain ⟨W, ⟨m0, w0⟩, turn⟩ := h
  refine wpAny_While (codeAny_whileLoop (fun n s' => ∃ σ' H', Inv X pins σ' H' s' ∧ W n σ' H') ?_ m0 ⟨σ, H, I, w0⟩)
  rintro n s1 ⟨σ1, H1, I1, w1⟩
  refine wpAny_passesOwn hp (thn (hc pins s1 σ1 H1 _ I1 (turn n σ1 H1 w1)) fun b s2 ⟨H2, I2, q2⟩ => ?_)
  cases b with
  | true =>
    obtain ⟨N, hN, q2⟩ := q2
    rw [if_pos rfl]
    refine wpAny_passesOwn hp (thn (hb pins s2 σ1 H2 _ I2 q2) fun f s3 q3 => ?_)
    cases f with
    | next =>
      obtain ⟨σ3, H3, I3, n3⟩ := q3
      obtain ⟨m', hm, w3⟩ := hN σ3 H3 n3
      exact ⟨m', hm, σ3, H3, I3, w3⟩
    | cont =>
      obtain ⟨σ3, H3, I3, n3⟩ := q3
      obtain ⟨m', hm, w3⟩ := hN σ3 H3 n3
      exact ⟨m', hm, σ3, H3, I3, w3⟩
    | brk => exact q3
    | ret v => exact q3
  | false =>
    rw [if_neg Bool.false_ne_true]
    exact wpAny_execs_nil ⟨σ1, H2, I2, q2⟩
end

/-- at turn i: it yields x (the heap may grow), or it stops -/
structure It where
  go : Nat → Hp → Prop
  yld : Nat → Hp → V → Hp → Prop
  stop : Nat → Hp → Prop
/-- the iterator's own objects may turn: they are not the frame's, not pinned, younger than the entry (or a comprehension's own) -/
def FpOk (X : Cx) (pins : List (Addr × Obj)) (H : Hp) (b : Addr) : Prop :=
  H b = none ∧ b ≠ X.env.locals ∧ b ∉ X.fs ∧ (b ∈ X.ex ∨ X.s₀.heap.objs.size ≤ b) ∧ (∀ x c, X.env.cells.lookup x = some c → c ≠ b) ∧ ∀ p ∈ X.pn ++ pins, p.1 ≠ b
theorem Inv.fpOk {X : Cx} {pins : List (Addr × Obj)} {σ : St} {H H' : Hp} {s : Shared} {b : Addr} (I : Inv X pins σ H s) (hb : s.heap.objs.size ≤ b) (hn : H' b = none) : FpOk X pins H' b := by
  refine ⟨hn, Nat.ne_of_gt (Nat.lt_of_lt_of_le I.lt hb), I.nofs hb, .inr (Nat.le_trans I.sz hb), fun x c e z => ?_, fun p hp z => ?_⟩
  · obtain ⟨v, q⟩ := I.cell x c e
    exact absurd (Nat.lt_of_lt_of_le q.lt (by rw [z]; exact hb)) (Nat.lt_irrefl _)
  · exact absurd (Nat.lt_of_lt_of_le (Heap.lt_size (I.pin p hp).1) (by rw [z]; exact hb)) (Nat.lt_irrefl _)
structure Turn (P : Program) (w : World) (K : PySem.W.Frag) (tg : Expr) (J : It) (fp : List Addr) (it : Addr) (tn : Nat → Heap → Prop) : Prop where
  mem : it ∈ fp
  obj : ∀ i h, tn i h → ∀ b ∈ fp, ∃ o, h.get? b = some o ∧ ∀ v, o.data ≠ .cell v
  keep : ∀ i h h', tn i h → (∀ b ∈ fp, ∀ o, h.get? b = some o → h'.get? b = some o) → tn i h'
  item : ∀ (X : Cx), X.prog = P → X.w = w → X.K = K → X.calm = true → ∀ (i : Nat) (pins : List (Addr × Obj)) (s : Shared) (σ : St) (H : Hp) (E : Value → Shared → Prop), Inv X pins σ H s → (∀ b ∈ fp, FpOk X pins H b) → tn i s.heap → J.go i H →
    wpAny (model P w) X.A (pyNext (.ref it)) (fun r s1 => ∃ u, r = some u ∧
      wpAny (model P w) X.A (letOwnedTupleGo tg (.ref it) u) (fun _ s2 => ∃ x H', Inv X pins σ H' s2 ∧ RelV x u ∧ J.yld i H x H' ∧ tn (i + 1) s2.heap ∧ ∀ b ∈ fp, H' b = none) E s1) E s
  done : ∀ (X : Cx), X.prog = P → X.w = w → X.K = K → X.calm = true → ∀ (i : Nat) (pins : List (Addr × Obj)) (s : Shared) (σ : St) (H : Hp) (E : Value → Shared → Prop), Inv X pins σ H s → (∀ b ∈ fp, FpOk X pins H b) → tn i s.heap → J.stop i H →
    wpAny (model P w) X.A (pyNext (.ref it)) (fun r s1 => r = none ∧ Inv X pins σ H s1) E s
  self : ∀ (A : Around) (i : Nat) (s : Shared) (Q : Value → Shared → Prop) (E : Value → Shared → Prop), tn i s.heap → Q (.ref it) s → wpAny (model P w) A (pyIter (.ref it)) Q E s
abbrev TI := St → Hp → (It → Hp → Prop) → Prop
/-- an iterator has come -/
def PIE (X : Cx) (pins : List (Addr × Obj)) (σ : St) (tg : Expr) (R : It → Hp → Prop) (itv : Value) (s2 : Shared) : Prop :=
  ∃ (it : Addr) (fp : List Addr) (tn : Nat → Heap → Prop) (J : It) (H' : Hp), itv = .ref it ∧ Inv X pins σ H' s2 ∧ Turn X.prog X.w X.K tg J fp it tn ∧ tn 0 s2.heap ∧ (∀ b ∈ fp, FpOk X pins H' b) ∧ R J H'
def PI (X : Cx) (tg iter : Expr) (wi : TI) : Prop :=
  ∀ (pins : List (Addr × Obj)) (s : Shared) (σ : St) (H : Hp) (R : It → Hp → Prop), Inv X pins σ H s → wi σ H R →
    wpAny (model X.prog X.w) X.A (eval iter X.env) (fun v s1 => wpAny (model X.prog X.w) X.A (pyIter v) (PIE X pins σ tg R) X.xe s1) X.xe s

/-- the step ahead of the store is nothing for an iterator that keeps no tuple -/
theorem go_of {M : Model} {A : Around} {E : Value → Shared → Prop} {s : Shared} {tg : Expr} {it : Addr} {u : Value} {o : Obj} {n : String} {vs : Array Value} {Q : Unit → Shared → Prop} (ho : s.heap.get? it = some o) (hc : o.cls = .type n) (hd : o.data = .fields vs)
    (hn : ["enumerate", "zip", "dict_itemiterator", "dict_reverseitemiterator", "odict_iterator", "itertools.zip_longest", "itertools.pairwise"].contains n = false) (hQ : Q () s) : wpAny M A (letOwnedTupleGo tg (.ref it) u) Q E s := by
  unfold letOwnedTupleGo
  cases tg <;> first
    | exact wpAny_pure hQ
    | (cases u <;> first
        | exact wpAny_pure hQ
        | (refine wpAny_bind (wpAny_load ho ?_)
           rw [hc, hd]
           show wpAny M A (if (["enumerate", "zip", "dict_itemiterator", "dict_reverseitemiterator", "odict_iterator", "itertools.zip_longest", "itertools.pairwise"].contains n && vs[0]? == some (rawInt _)) = true then _ else _) Q E s
           rw [if_neg (by intro h; rw [hn, Bool.false_and] at h; cases h)]
           exact wpAny_pure hQ))

/-- the list at a, as it stands at each turn (a loop may append to it) -/
def Itl (K : PySem.W.Frag) (a : Addr) : It :=
  ⟨fun i H => ∃ xs x, SqL K H a xs ∧ xs[i]? = some x, fun i H x H' => H' = H ∧ ∀ xs, SqL K H a xs → xs[i]? = some x, fun i H => ∃ xs, SqL K H a xs ∧ xs.length ≤ i⟩
/-- lo, lo + 1, .. (n of them) -/
def Itr (lo : Int) (n : Nat) : It := ⟨fun i _ => i < n, fun i H x H' => H' = H ∧ x = .int (lo + i), fun i _ => n ≤ i⟩
theorem turn_list {P : Program} {w : World} {K : PySem.W.Frag} {tg : Expr} (a it : Addr) : Turn P w K tg (Itl K a) [it] it (fun i h => h.IsListIter it a i) where
  mem := by simp
  obj := fun i h st b hb => by
    have e : b = it := by simpa using hb
    subst e
    obtain ⟨o, e, c, d⟩ := st
    exact ⟨o, e, fun v z => by rw [d] at z; cases z⟩
  keep := fun i h h' st k => st.at fun o e => k it (by simp) o e
  item := by
    intro X hP hw hK hc i pins s σ H E I hf st hg
    subst hP hw hK
    obtain ⟨xs, x, hq, hx⟩ := hg
    obtain ⟨its, rv, p, hz⟩ := I.list hq
    obtain ⟨u, hu, ru⟩ := rv.get hx
    obtain ⟨f0, f1, f2, f3, f4, f5⟩ := hf it (by simp)
    refine wpAny_pyNext_list_item st p.isList (x := u) (by simpa using hu) fun h' st' sb => ?_
    have I1 : Inv X pins σ H { s with heap := h' } := I.turned (t' := s.toks) (fun b o hb e => (sb.2 b hb).trans e) f0 f1 f3 f4 f5
    obtain ⟨o, e, c, d⟩ := id st'
    exact ⟨u, rfl, go_of (s := { s with heap := h' }) e c d (by decide) ⟨x, H, I1, ru, ⟨rfl, fun ys hy => by rw [I.list_inj hy hq]; exact hx⟩, st', fun b hb => (hf b hb).1⟩⟩
  done := by
    intro X hP hw hK hc i pins s σ H E I hf st hg
    subst hP hw hK
    obtain ⟨xs, hq, hx⟩ := hg
    obtain ⟨its, rv, p, hz⟩ := I.list hq
    obtain ⟨f0, f1, f2, f3, f4, f5⟩ := hf it (by simp)
    have hl := rv.length
    exact wpAny_pyNext_list_end (I.ok.hd hc) st p.isList (by simp; omega) fun h' eb => ⟨rfl, I.turned (t' := s.toks) (fun b o hb e => eb b o hb e) f0 f1 f3 f4 f5⟩
  self := fun _ _ _ _ _ st h => wpAny_pyIter_listiter st h
theorem turn_range {P : Program} {w : World} {K : PySem.W.Frag} {tg : Expr} (it : Addr) (lo : Int) (n : Nat) : Turn P w K tg (Itr lo n) [it] it (fun i h => IsRangeIter h it (lo + (i : Nat) * 1) ((n : Int) - (i : Nat)) 1) where
  mem := by simp
  obj := fun i h st b hb => by
    have e : b = it := by simpa using hb
    subst e
    exact ⟨_, st, fun v z => by
      have z' : Data.fields _ = Data.cell v := z
      cases z'⟩
  keep := fun i h h' st k => k it (by simp) _ st
  item := by
    intro X hP hw hK hc i pins s σ H E I hf st hg
    subst hP hw hK
    obtain ⟨f0, f1, f2, f3, f4, f5⟩ := hf it (by simp)
    have W := Walks.range (prog := X.prog) (w := X.w) (I.ok.hd hc) it lo 1 n
    refine W.item i s _ _ hg st fun v h' tk hv st' kk => ?_
    obtain ⟨t, rfl⟩ := hv
    have I1 : Inv X pins σ H { s with heap := h', toks := tk } := I.turned (fun b o hb e => kk b o (by simpa using hb) e) f0 f1 f3 f4 f5
    refine ⟨_, rfl, go_of (s := { s with heap := h', toks := tk }) (n := "range_iterator") st' rfl rfl (by decide) ⟨.int (lo + i), H, I1, ⟨t, ?_⟩, ⟨rfl, rfl⟩, st', fun b hb => (hf b hb).1⟩⟩
    rw [Int.mul_one]
  done := by
    intro X hP hw hK hc i pins s σ H E I hf st hg
    subst hP hw hK
    obtain ⟨f0, f1, f2, f3, f4, f5⟩ := hf it (by simp)
    exact wpAny_pyNext_range_end (I.ok.hd hc) st (by have : n ≤ i := hg; omega) fun h' eb => ⟨rfl, I.turned (t' := s.toks) (fun b o hb e => eb b o hb e) f0 f1 f3 f4 f5⟩
  self := fun _ _ _ _ _ st h => wpAny_pyIter_rangeiter st h
end L2

namespace L2
open PySem PySem.Spec PyProof.Rows
section
variable {X : Cx} {tg : Expr}
def iList (K : PySem.W.Frag) (tl : TE) : TI := fun σ H R => tl σ H fun x H1 => ∃ a, x = .ref a ∧ (∃ xs, SqL K H1 a xs) ∧ R (Itl K a) H1
theorem pi_list {l : Expr} {tl : TE} (hl : PE X l tl) : PI X tg l (iList X.K tl) := by
  intro pins s σ H R I h
  refine thn (hl pins s σ H _ I h) fun v s1 ⟨x, H1, I1, r1, q1⟩ => ?_
  obtain ⟨a, e, ⟨xs, hq⟩, q⟩ := q1
  subst e
  cases r1
  obtain ⟨its, rv, p, hz⟩ := I1.list hq
  refine wpAny_pyIter_list p.isList ?_
  refine ⟨s1.heap.objs.size, [s1.heap.objs.size], _, _, H1, rfl, I1.kept (t' := s1.toks) fun b o e => Heap.get?_push_of_some _ e, turn_list a _, ⟨_, Heap.get?_push_size _ rfl, rfl, rfl⟩, fun b hb => ?_, q⟩
  have e : b = s1.heap.objs.size := by simpa using hb
  subst e
  exact I1.fpOk (Nat.le_refl _) (I1.hok.fresh (Nat.le_refl _))
/-- a range object just made, walked -/
theorem range_it {pins : List (Addr × Obj)} {σ : St} {H : Hp} {s : Shared} {R : It → Hp → Prop} {E : Value → Shared → Prop} {lo hi : Int} {t u v : Tok} {tk : Nat} (I : Inv X pins σ H s) (h1 : -(2 ^ 62) ≤ lo) (h2 : lo < 2 ^ 62) (h3 : -(2 ^ 62) ≤ hi) (h4 : hi < 2 ^ 62)
    (q : R (Itr lo (hi - lo).toNat) H) : wpAny (model X.prog X.w) X.A (pyIter (.ref s.heap.objs.size)) (PIE X pins σ tg R) E { s with heap := s.heap.push { cls := .type "range", data := .fields #[.int lo t, .int hi u, .int 1 v] }, toks := tk } := by
  refine wpAny_pyIter_range (IsRange.new ..) (small_one h1 h2 h3 h4) ?_
  have I1 : Inv X pins σ H { s with heap := s.heap.push { cls := .type "range", data := .fields #[.int lo t, .int hi u, .int 1 v] }, toks := tk } := I.kept fun b o e => Heap.get?_push_of_some _ e
  refine ⟨(s.heap.push { cls := .type "range", data := .fields #[.int lo t, .int hi u, .int 1 v] }).objs.size, [(s.heap.push { cls := .type "range", data := .fields #[.int lo t, .int hi u, .int 1 v] }).objs.size], _, _, H, rfl,
    I1.kept (t' := tk) fun b o e => Heap.get?_push_of_some _ e, turn_range _ lo (hi - lo).toNat, ?_, fun b hb => ?_, q⟩
  · have e1 : lo + ((0 : Nat) : Int) * 1 = lo := by simp
    have e2 : (((hi - lo).toNat : Nat) : Int) - ((0 : Nat) : Int) = Builtin.Range.rangeSize lo hi 1 := by rw [rangeSize_one]; split <;> omega
    show IsRangeIter _ _ (lo + ((0 : Nat) : Int) * 1) ((((hi - lo).toNat : Nat) : Int) - ((0 : Nat) : Int)) 1
    rw [e1, e2]
    exact Heap.get?_push_size _ rfl
  · have e : b = (s.heap.push { cls := .type "range", data := .fields #[.int lo t, .int hi u, .int 1 v] }).objs.size := by simpa using hb
    subst e
    exact I1.fpOk (Nat.le_refl _) (I1.hok.fresh (Nat.le_refl _))
def iRng1 (ta : TA) : TI := fun σ H R => ta σ H fun vs H1 => ∃ j : Int, vs = [.int j] ∧ -(2 ^ 62) ≤ j ∧ j < 2 ^ 62 ∧ R (Itr 0 j.toNat) H1
theorem pi_range1 {a : Expr} {ta : TA} {p pos : Pos} (hg : Gl X "range") (hm : X.mg "range" = none) (ha : PA X [a] ta) (hs : starEach [a] X.env = [(false, eval a X.env)] := by rfl) : PI X tg (.Call (.Name "range" p) [a] [] pos) (iRng1 ta) := by
  intro pins s σ H R I h
  refine Call_ (ld_blt I hg hm boot_range (PyProof.Rows.callWith_type1 (thn (ha pos pins s σ H _ I h) fun us s1 ⟨vs, H1, I1, r1, q1⟩ => ?_) hs rfl))
  obtain ⟨j, e, q1, q2, q⟩ := q1
  subst e
  cases r1 with
  | cons r rr =>
    cases rr
    obtain ⟨t, rfl⟩ := r
    exact call_range_1 (range_it I1 (by omega) (by omega) q1 q2 (by simpa using q))
/-- W: the invariant by the turn and a measure; N: what the body is to reach -/
def tFor (wi : TI) (g : TG) (tb : TS) : TS := fun D σ H => wi σ H fun J H1 => ∃ W : Nat → Nat → St → Hp → Prop, (∃ m, W 0 m σ H1) ∧ ∀ i m σ H, W i m σ H →
  (J.stop i H ∧ D.nx σ H) ∨ (J.go i H ∧ ∃ N : St → Hp → Prop, (∀ σ' H', N σ' H' → ∃ m', m' < m ∧ W (i + 1) m' σ' H') ∧ ∀ x H', J.yld i H x H' → g x σ H' fun σ2 H2 => tb { D with nx := N, ct := N, bk := D.nx } σ2 H2)
/-- the records at fp as they stand -/
def pinsAt (fp : List Addr) (h : Heap) : List (Addr × Obj) := fp.filterMap fun b => (h.get? b).map fun o => (b, o)
theorem mem_pinsAt {fp : List Addr} {h : Heap} {b : Addr} {o : Obj} (hb : b ∈ fp) (e : h.get? b = some o) : (b, o) ∈ pinsAt fp h := List.mem_filterMap.mpr ⟨b, hb, by rw [e]; rfl⟩
theorem of_pinsAt {fp : List Addr} {h : Heap} {p : Addr × Obj} (hp : p ∈ pinsAt fp h) : p.1 ∈ fp ∧ h.get? p.1 = some p.2 := by
  obtain ⟨b, hb, e⟩ := List.mem_filterMap.mp hp
  cases q : h.get? b with
  | none => rw [q] at e; cases e
  | some o =>
    rw [q] at e
    have e' : (b, o) = p := Option.some.inj e
    subst e'
    exact ⟨hb, q⟩
theorem Inv.pinned {pins : List (Addr × Obj)} {σ : St} {H : Hp} {s : Shared} {fp : List Addr} (I : Inv X pins σ H s) (hf : ∀ b ∈ fp, FpOk X pins H b) (ho : ∀ b ∈ fp, ∃ o, s.heap.get? b = some o ∧ ∀ v, o.data ≠ .cell v) : Inv X (pins ++ pinsAt fp s.heap) σ H s :=
  I.pins_of fun p hp => (List.mem_append.mp hp).elim (fun z => I.pin p (List.mem_append_right _ z)) fun z => by
    obtain ⟨hb, e⟩ := of_pinsAt z
    obtain ⟨f0, f1, f2, _⟩ := hf p.1 hb
    obtain ⟨o, e', d⟩ := ho p.1 hb
    rw [e] at e'; cases e'
    exact ⟨e, f0, f1, f2, d⟩
theorem Inv.unpinned {pins pl : List (Addr × Obj)} {σ : St} {H : Hp} {s : Shared} (I : Inv X (pins ++ pl) σ H s) : Inv X pins σ H s := I.pins_of fun p hp => I.pin p (List.mem_append_right _ (List.mem_append_left _ hp))
theorem ps_for {iter : Expr} {body : List Stmt} {wi : TI} {g : TG} {tb : TS} {pos : Pos} (hp : PassesOwn (model X.prog X.w) X.A X.env X.xe) (hc : X.calm = true) (hi : PI X tg iter wi) (hg : PG X tg g) (hb : PSs X body tb)
    (hs : ∀ x, foldedSetIterable iter X.env x = pure x := by intro _; rfl) : PS X (.For tg iter body [] pos) (tFor wi g tb) := by
  intro pins s σ H D I h
  refine wpAny_For (thn (hi pins s σ H _ I h) fun v s1 h1 => thn h1 fun itv s2 h2 => ?_) hs
  obtain ⟨it, fp, tn, J, H2, e, I2, T, st2, f2, W, ⟨m0, w0⟩, turn⟩ := h2
  subst e
  -- what stays true of the iterator's objects through the loop
  have stat : ∀ {H' : Hp}, (∀ b ∈ fp, H' b = none) → ∀ b ∈ fp, FpOk X pins H' b := fun hn b hb => ⟨hn b hb, (f2 b hb).2⟩
  refine codeAny_forLoop_any (fun n s' => ∃ i σ' H', Inv X pins σ' H' s' ∧ tn i s'.heap ∧ (∀ b ∈ fp, H' b = none) ∧ W i n σ' H') ?_ m0 ⟨0, σ, H2, I2, st2, fun b hb => (f2 b hb).1, w0⟩
  rintro n s3 ⟨i, σ3, H3, I3, st3, fr3, w3⟩
  rcases turn i n σ3 H3 w3 with ⟨stop, qn⟩ | ⟨go, N, hN, step⟩
  · refine wpAny_passesOwn hp (thn (T.done X rfl rfl rfl hc i pins s3 σ3 H3 X.xe I3 (stat fr3) st3 stop) fun r s4 ⟨hr, I4⟩ => ?_)
    subst hr
    exact wpAny_execs_nil ⟨σ3, H3, I4, qn⟩
  · refine wpAny_passesOwn hp (thn (T.item X rfl rfl rfl hc i pins s3 σ3 H3 X.xe I3 (stat fr3) st3 go) fun r s4 ⟨u, hr, h4⟩ => ?_)
    subst hr
    refine wpAny_passesOwn hp (thn h4 fun _ s5 ⟨x, H5, I5, r5, y5, st5, fr5⟩ => ?_)
    have I5' := I5.pinned (stat fr5) (T.obj _ _ st5)
    refine wpAny_passesOwn hp (thn (hg _ s5 σ3 H5 x u _ I5' r5 (step x H5 y5)) fun _ s6 ⟨σ6, H6, I6, q6⟩ => ?_)
    refine wpAny_passesOwn hp (thn (hb _ s6 σ6 H6 _ I6 q6) fun f s7 q7 => ?_)
    have again : ∀ {σ7 : St} {H7 : Hp}, Inv X (pins ++ pinsAt fp s5.heap) σ7 H7 s7 → N σ7 H7 → ∃ m, m < n ∧ ∃ i σ' H', Inv X pins σ' H' s7 ∧ tn i s7.heap ∧ (∀ b ∈ fp, H' b = none) ∧ W i m σ' H' := fun {σ7 H7} I7 n7 => by
      obtain ⟨m', hm, w7⟩ := hN σ7 H7 n7
      refine ⟨m', hm, i + 1, σ7, H7, I7.unpinned, T.keep _ _ _ st5 fun b hb o e => (I7.pin (b, o) (List.mem_append_right _ (List.mem_append_right _ (mem_pinsAt hb e)))).1, fun b hb => ?_, w7⟩
      obtain ⟨o, e, d⟩ := T.obj _ _ st5 b hb
      exact (I7.pin (b, o) (List.mem_append_right _ (List.mem_append_right _ (mem_pinsAt hb e)))).2.1
    cases f with
    | next => obtain ⟨σ7, H7, I7, n7⟩ := q7; exact again I7 n7
    | cont => obtain ⟨σ7, H7, I7, n7⟩ := q7; exact again I7 n7
    | brk => obtain ⟨σ7, H7, I7, q7⟩ := q7; exact ⟨σ7, H7, I7.unpinned, q7⟩
    | ret v => obtain ⟨x7, σ7, H7, I7, r7, q7⟩ := q7; exact ⟨x7, σ7, H7, I7.unpinned, r7, q7⟩
end

/-- over a list that the body leaves as it is -/
theorem for_list {K : PySem.W.Frag} {a : Addr} {xs : List V} {g : TG} {tb : TS} {D : Ends} {σ : St} {H : Hp} (Pv : Nat → St → Hp → Prop) (h0 : Pv 0 σ H) (hl : ∀ i σ H, i ≤ xs.length → Pv i σ H → SqL K H a xs)
    (hs : ∀ i x σ H, xs[i]? = some x → Pv i σ H → g x σ H fun σ2 H2 => tb { D with nx := Pv (i + 1), ct := Pv (i + 1), bk := D.nx } σ2 H2) (hd : ∀ σ H, Pv xs.length σ H → D.nx σ H) :
    ∃ W : Nat → Nat → St → Hp → Prop, (∃ m, W 0 m σ H) ∧ ∀ i m σ H, W i m σ H →
      ((Itl K a).stop i H ∧ D.nx σ H) ∨ ((Itl K a).go i H ∧ ∃ N : St → Hp → Prop, (∀ σ' H', N σ' H' → ∃ m', m' < m ∧ W (i + 1) m' σ' H') ∧ ∀ x H', (Itl K a).yld i H x H' → g x σ H' fun σ2 H2 => tb { D with nx := N, ct := N, bk := D.nx } σ2 H2) := by
  refine ⟨fun i m σ H => m = xs.length - i ∧ i ≤ xs.length ∧ Pv i σ H, ⟨xs.length, by simp, Nat.zero_le _, h0⟩, ?_⟩
  rintro i m σ H ⟨rfl, hi, p⟩
  have q := hl i σ H hi p
  by_cases hlt : i < xs.length
  · refine .inr ⟨⟨xs, xs[i], q, by simp [hlt]⟩, Pv (i + 1), fun σ' H' p' => ⟨xs.length - (i + 1), by omega, rfl, hlt, p'⟩, fun x H' y => ?_⟩
    obtain ⟨e, y⟩ := y
    subst e
    exact hs i x σ _ (y xs q) p
  · have e : i = xs.length := by omega
    subst e
    exact .inl ⟨⟨xs, q, Nat.le_refl _⟩, hd σ H p⟩
theorem for_range {lo : Int} {n : Nat} {g : TG} {tb : TS} {D : Ends} {σ : St} {H : Hp} (Pv : Nat → St → Hp → Prop) (h0 : Pv 0 σ H)
    (hs : ∀ i σ H, i < n → Pv i σ H → g (.int (lo + i)) σ H fun σ2 H2 => tb { D with nx := Pv (i + 1), ct := Pv (i + 1), bk := D.nx } σ2 H2) (hd : ∀ σ H, Pv n σ H → D.nx σ H) :
    ∃ W : Nat → Nat → St → Hp → Prop, (∃ m, W 0 m σ H) ∧ ∀ i m σ H, W i m σ H →
      ((Itr lo n).stop i H ∧ D.nx σ H) ∨ ((Itr lo n).go i H ∧ ∃ N : St → Hp → Prop, (∀ σ' H', N σ' H' → ∃ m', m' < m ∧ W (i + 1) m' σ' H') ∧ ∀ x H', (Itr lo n).yld i H x H' → g x σ H' fun σ2 H2 => tb { D with nx := N, ct := N, bk := D.nx } σ2 H2) := by
  refine ⟨fun i m σ H => m = n - i ∧ i ≤ n ∧ Pv i σ H, ⟨n, by simp, Nat.zero_le _, h0⟩, ?_⟩
  rintro i m σ H ⟨rfl, hi, p⟩
  by_cases hlt : i < n
  · refine .inr ⟨hlt, Pv (i + 1), fun σ' H' p' => ⟨n - (i + 1), by omega, rfl, hlt, p'⟩, fun x H' y => ?_⟩
    obtain ⟨e, y⟩ := y
    subst e y
    exact hs i σ _ hlt p
  · have e : i = n := by omega
    subst e
    exact .inl ⟨Nat.le_refl _, hd σ H p⟩
/-- while, by a word and a measure of the state -/
theorem while_by {c : TT} {tb : TS} {D : Ends} {σ : St} {H : Hp} (Pv : St → Hp → Prop) (μ : St → Hp → Nat) (h0 : Pv σ H)
    (hs : ∀ σ H, Pv σ H → c σ H fun b H1 => if b = true then tb { D with nx := fun σ' H' => Pv σ' H' ∧ μ σ' H' < μ σ H, ct := fun σ' H' => Pv σ' H' ∧ μ σ' H' < μ σ H, bk := D.nx } σ H1 else D.nx σ H1)
    (mono : ∀ σ H Q Q', (∀ b H1, Q b H1 → Q' b H1) → c σ H Q → c σ H Q') : tWhile c tb D σ H := by
  refine ⟨fun m σ H => m = μ σ H ∧ Pv σ H, ⟨_, rfl, h0⟩, ?_⟩
  rintro m σ H ⟨rfl, p⟩
  refine mono σ H _ _ (fun b H1 q => ?_) (hs σ H p)
  cases b with
  | true => exact ⟨_, fun σ' H' ⟨p', l⟩ => ⟨_, l, rfl, p'⟩, q⟩
  | false => exact q
end L2

namespace L2
open PySem PySem.Spec PyProof.Rows

abbrev R2 := V → V → Hp → VK → Prop
/-- a two-place operation on values: f is binaryOp op, inplaceOp op or compareOp op -/
def OpR (X : Cx) (f : Value → Value → Sem Value) (r : R2) : Prop :=
  ∀ (pins : List (Addr × Obj)) (s : Shared) (σ : St) (H : Hp) (x y : V) (v u : Value) (Q : VK), Inv X pins σ H s → RelV x v → RelV y u → r x y H Q →
    wpAny (model X.prog X.w) X.A (f v u) (EP X pins σ Q) X.xe s
/-- a one-place operation -/
def UnR (X : Cx) (f : Value → Sem Value) (r : V → Hp → VK → Prop) : Prop :=
  ∀ (pins : List (Addr × Obj)) (s : Shared) (σ : St) (H : Hp) (x : V) (v : Value) (Q : VK), Inv X pins σ H s → RelV x v → r x H Q →
    wpAny (model X.prog X.w) X.A (f v) (EP X pins σ Q) X.xe s
/-- a call of a value that is known (a builtin, a type) with values -/
def CallR (X : Cx) (f : Value) (r : List V → Hp → VK → Prop) : Prop :=
  ∀ (pins : List (Addr × Obj)) (s : Shared) (σ : St) (H : Hp) (xs : List V) (us : List Value) (Q : VK), Inv X pins σ H s → Vals xs us → r xs H Q →
    wpAny (model X.prog X.w) X.A (call f us) (EP X pins σ Q) X.xe s
def tOp (r : R2) (ta tb : TE) : TE := fun σ H Q => ta σ H fun x H1 => tb σ H1 fun y H2 => r x y H2 Q
def tUn (r : V → Hp → VK → Prop) (ta : TE) : TE := fun σ H Q => ta σ H fun x H1 => r x H1 Q
/-- ints in, under C, and a value out -/
def rI (C : Int → Int → Prop) (g : Int → Int → V) : R2 := fun x y H Q => ∃ i j, x = .int i ∧ y = .int j ∧ C i j ∧ Q (g i j) H
def rI0 (g : Int → Int → V) : R2 := fun x y H Q => ∃ i j, x = .int i ∧ y = .int j ∧ Q (g i j) H
def rU (g : Int → V) : V → Hp → VK → Prop := fun x H Q => ∃ i, x = .int i ∧ Q (g i) H

section
variable {X : Cx} {a b c : Expr} {ta tb tc : TE} {pos : Pos}

theorem binT (ha : PE X a ta) (hb : PE X b tb) {pins : List (Addr × Obj)} {s : Shared} {σ : St} {H : Hp} {R : V → V → Hp → Prop} (I : Inv X pins σ H s)
    (h : ta σ H fun x H1 => tb σ H1 fun y H2 => R x y H2) {Q : Value → Shared → Prop} {f : Value → Value → Sem Value}
    (hf : ∀ v u s2 x y H2, Inv X pins σ H2 s2 → RelV x v → RelV y u → R x y H2 → wpAny (model X.prog X.w) X.A (f v u) Q X.xe s2) :
    wpAny (model X.prog X.w) X.A (eval a X.env) (fun v s₁ => wpAny (model X.prog X.w) X.A (eval b X.env) (fun u s₂ => wpAny (model X.prog X.w) X.A (f v u) Q X.xe s₂) X.xe s₁) X.xe s := by
  refine thn (ha pins s σ H _ I h) fun v s1 ⟨x, H1, I1, r1, q1⟩ => ?_
  refine thn (hb pins s1 σ H1 _ I1 q1) fun u s2 ⟨y, H2, I2, r2, q2⟩ => ?_
  exact hf v u s2 x y H2 I2 r1 r2 q2

theorem pe_op {op : Operator} {r : R2} (ho : OpR X (binaryOp op) r) (ha : PE X a ta) (hb : PE X b tb) : PE X (.BinOp a op b pos) (tOp r ta tb) := by
  intro pins s σ H Q I h
  exact wpAny_BinOp (binT ha hb I h fun v u s2 x y H2 I2 rx ry q => ho pins s2 σ H2 x y v u Q I2 rx ry q)
theorem pe_un {op : UnaryOp} {r : V → Hp → VK → Prop} (ho : UnR X (unaryOp op) r) (ha : PE X a ta) : PE X (.UnaryOp op a pos) (tUn r ta) := by
  intro pins s σ H Q I h
  exact UnaryOp_ (thn (ha pins s σ H _ I h) fun v s1 ⟨x, H1, I1, r1, q1⟩ => ho pins s1 σ H1 x v Q I1 r1 q1)
theorem opI {f : Value → Value → Sem Value} {C : Int → Int → Prop} {g : Int → Int → Int}
    (rule : ∀ (i j : Int) (t u : Tok) (s : Shared) (Q : Value → Shared → Prop) (E : Value → Shared → Prop), C i j → Q (.int (g i j) s.toks) { s with toks := s.toks + 1 } → wpAny (model X.prog X.w) X.A (f (.int i t) (.int j u)) Q E s) :
    OpR X f (rI C fun i j => .int (g i j)) := by
  intro pins s σ H x y v u Q I rx ry h
  obtain ⟨i, j, rfl, rfl, hc, q⟩ := h
  obtain ⟨t, rfl⟩ := rx
  obtain ⟨t', rfl⟩ := ry
  exact rule i j t t' s _ _ hc ⟨.int (g i j), H, I.tok _, ⟨_, rfl⟩, q⟩
theorem opI0 {f : Value → Value → Sem Value} {g : Int → Int → Int}
    (rule : ∀ (i j : Int) (t u : Tok) (s : Shared) (Q : Value → Shared → Prop) (E : Value → Shared → Prop), Q (.int (g i j) s.toks) { s with toks := s.toks + 1 } → wpAny (model X.prog X.w) X.A (f (.int i t) (.int j u)) Q E s) :
    OpR X f (rI0 fun i j => .int (g i j)) := by
  intro pins s σ H x y v u Q I rx ry h
  obtain ⟨i, j, rfl, rfl, q⟩ := h
  obtain ⟨t, rfl⟩ := rx
  obtain ⟨t', rfl⟩ := ry
  exact rule i j t t' s _ _ ⟨.int (g i j), H, I.tok _, ⟨_, rfl⟩, q⟩
theorem opB0 {f : Value → Value → Sem Value} {g : Int → Int → Bool}
    (rule : ∀ (i j : Int) (t u : Tok) (s : Shared) (Q : Value → Shared → Prop) (E : Value → Shared → Prop), Q (.bool (g i j)) s → wpAny (model X.prog X.w) X.A (f (.int i t) (.int j u)) Q E s) :
    OpR X f (rI0 fun i j => .bl (g i j)) := by
  intro pins s σ H x y v u Q I rx ry h
  obtain ⟨i, j, rfl, rfl, q⟩ := h
  obtain ⟨t, rfl⟩ := rx
  obtain ⟨t', rfl⟩ := ry
  exact rule i j t t' s _ _ ⟨.bl (g i j), H, I, rfl, q⟩

def CDiv (i j : Int) : Prop := 0 < j ∧ j < 1073741824
def CPow (i j : Int) : Prop := 0 ≤ j ∧ j ≤ 1000000 ∧ i.natAbs < 2 ^ 64
def CMul (i j : Int) : Prop := (-(2 ^ 64) < i ∧ i < 2 ^ 64) ∨ (-(2 ^ 64) < j ∧ j < 2 ^ 64)
theorem CMul.ok {i j : Int} (h : CMul i j) : IntMulOk i j := by
  rcases h with ⟨h1, h2⟩ | ⟨h1, h2⟩
  · exact .of_left (intBits_le_64 h1 h2)
  · exact .of_right (intBits_le_64 h1 h2)
theorem op_add : OpR X (binaryOp .Add) (rI0 fun i j => .int (i + j)) := opI0 fun _ _ _ _ _ _ _ q => add_int q
theorem op_sub : OpR X (binaryOp .Sub) (rI0 fun i j => .int (i - j)) := opI0 fun _ _ _ _ _ _ _ q => sub_int q
theorem op_mul : OpR X (binaryOp .Mult) (rI CMul fun i j => .int (i * j)) := opI fun _ _ _ _ _ _ _ hc q => mul_int q hc.ok
/-- // by a positive divisor -/
theorem op_fdiv : OpR X (binaryOp .FloorDiv) (rI CDiv fun i j => .int (i / j)) := opI fun i j _ _ _ _ _ hc q => by
  have h1 : (0 : Int) < j := hc.1
  have h2 : j < 1073741824 := hc.2
  exact floordiv_int (by omega) (by rw [Int.fdiv_eq_ediv_of_nonneg i (by omega)]; exact q) (.inl (PyProof.noPylong_small (by omega)))
/-- % by a positive divisor of any size -/
theorem op_mod : OpR X (binaryOp .Mod) (rI (fun _ j => 0 < j) fun i j => .int (i % j)) := opI fun i j _ _ _ _ _ hc q => by
  have h1 : (0 : Int) < j := hc
  exact mod_int' (by omega) (by rw [Int.fmod_eq_emod_of_nonneg i (by omega)]; exact q)
theorem op_pow : OpR X (binaryOp .Pow) (rI CPow fun i j => .int (i ^ j.toNat)) := opI fun _ _ _ _ _ _ _ hc q => pow_int_small hc.1 hc.2.1 hc.2.2 q
theorem unI {f : Value → Sem Value} {g : Int → Int}
    (rule : ∀ (i : Int) (t : Tok) (s : Shared) (Q : Value → Shared → Prop) (E : Value → Shared → Prop), Q (.int (g i) s.toks) { s with toks := s.toks + 1 } → wpAny (model X.prog X.w) X.A (f (.int i t)) Q E s) :
    UnR X f (rU fun i => .int (g i)) := by
  intro pins s σ H x v Q I rx h
  obtain ⟨i, rfl, q⟩ := h
  obtain ⟨t, rfl⟩ := rx
  exact rule i t s _ _ ⟨.int (g i), H, I.tok _, ⟨_, rfl⟩, q⟩
theorem un_neg : UnR X (unaryOp .USub) (rU fun i => .int (-i)) := unI fun _ _ _ _ _ q => neg_int q
end

/-- the scalars that == tells apart as data does -/
def scal : V → V → Bool
  | .non, .non => true | .non, .int _ => true | .int _, .non => true | .non, .bl _ => true | .bl _, .non => true | .non, .str _ => true | .str _, .non => true
  | .int _, .int _ => true | .bl _, .bl _ => true | .str _, .str _ => true | .byt _, .byt _ => true
  | .int _, .str _ => true | .str _, .int _ => true | .bl _, .str _ => true | .str _, .bl _ => true
  | _, _ => false
def rEq : R2 := fun x y H Q => scal x y = true ∧ Q (.bl (decide (x = y))) H
def rNe : R2 := fun x y H Q => scal x y = true ∧ Q (.bl (!decide (x = y))) H

theorem dec_int {i j : Int} : decide (V.int i = V.int j) = (i == j) := by
  rw [Bool.eq_iff_iff]
  simp
theorem dec_bl {i j : Bool} : decide (V.bl i = V.bl j) = (i == j) := by
  rw [Bool.eq_iff_iff]
  simp
theorem dec_str {i j : Str} : decide (V.str i = V.str j) = (i == j) := by
  rw [Bool.eq_iff_iff]
  simp
theorem dec_byt {i j : Array UInt8} : decide (V.byt i = V.byt j) = (i.toList == j.toList) := by
  rw [Bool.eq_iff_iff]
  cases i
  cases j
  simp

section
variable {X : Cx} {a b c : Expr} {ta tb tc : TE} {pos : Pos}
theorem fin_bl {pins : List (Addr × Obj)} {σ : St} {H : Hp} {s : Shared} {Q : VK} {k k' : Bool} (I : Inv X pins σ H s) (q : Q (.bl k) H) (e : k = k') : EP X pins σ Q (.bool k') s := by
  subst e
  exact ⟨.bl k, H, I, rfl, q⟩
theorem op_eq : OpR X (compareOp .Eq) rEq := by
  intro pins s σ H x y v u Q I rx ry h
  obtain ⟨hs, q⟩ := h
  cases x with
  | non =>
    cases rx
    cases y with
    | non => cases ry; exact PySem.EqNone.eq_none_none (fin_bl I q (by simp))
    | bl j => cases ry; exact PySem.EqNone.eq_none_bool (fin_bl I q (by simp))
    | int j => obtain ⟨t', rfl⟩ := ry; exact PySem.EqNone.eq_none_int (fin_bl I q (by simp))
    | str j => obtain ⟨t', rfl⟩ := ry; exact PySem.EqNone.eq_none_str (fin_bl I q (by simp))
    | _ => exact absurd (show false = true from hs) Bool.false_ne_true
  | bl i =>
    cases rx
    cases y with
    | non => cases ry; exact PySem.EqNone.eq_bool_none (fin_bl I q (by simp))
    | bl j => cases ry; exact eq_bool (fin_bl I q dec_bl)
    | str j => obtain ⟨t', rfl⟩ := ry; exact PySem.EqMixed.eq_bool_str (fin_bl I q (by simp))
    | _ => exact absurd (show false = true from hs) Bool.false_ne_true
  | int i =>
    obtain ⟨t, rfl⟩ := rx
    cases y with
    | non => cases ry; exact PySem.EqNone.eq_int_none (fin_bl I q (by simp))
    | int j => obtain ⟨t', rfl⟩ := ry; exact eq_int (fin_bl I q dec_int)
    | str j => obtain ⟨t', rfl⟩ := ry; exact PySem.EqMixed.eq_int_str (fin_bl I q (by simp))
    | _ => exact absurd (show false = true from hs) Bool.false_ne_true
  | str i =>
    obtain ⟨t, rfl⟩ := rx
    cases y with
    | non => cases ry; exact PySem.EqNone.eq_str_none (fin_bl I q (by simp))
    | bl j => cases ry; exact PySem.EqMixed.eq_str_bool (fin_bl I q (by simp))
    | int j => obtain ⟨t', rfl⟩ := ry; exact PySem.EqMixed.eq_str_int (fin_bl I q (by simp))
    | str j => obtain ⟨t', rfl⟩ := ry; exact eq_str (fin_bl I q dec_str)
    | _ => exact absurd (show false = true from hs) Bool.false_ne_true
  | byt i =>
    obtain ⟨t, rfl⟩ := rx
    cases y with
    | byt j => obtain ⟨t', rfl⟩ := ry; exact PySem.W.eq_bytes (fin_bl I q dec_byt)
    | _ => exact absurd (show false = true from hs) Bool.false_ne_true
  | _ => cases y <;> exact absurd (show false = true from hs) Bool.false_ne_true
theorem op_ne : OpR X (compareOp .NotEq) rNe := by
  intro pins s σ H x y v u Q I rx ry h
  obtain ⟨hs, q⟩ := h
  cases x with
  | non =>
    cases rx
    cases y with
    | non => cases ry; exact PySem.EqNone.ne_none_none (fin_bl I q (by simp))
    | bl j => cases ry; exact PySem.EqNone.ne_none_bool (fin_bl I q (by simp))
    | int j => obtain ⟨t', rfl⟩ := ry; exact PySem.EqNone.ne_none_int (fin_bl I q (by simp))
    | str j => obtain ⟨t', rfl⟩ := ry; exact PySem.EqNone.ne_none_str (fin_bl I q (by simp))
    | _ => exact absurd (show false = true from hs) Bool.false_ne_true
  | bl i =>
    cases rx
    cases y with
    | non => cases ry; exact PySem.EqNone.ne_bool_none (fin_bl I q (by simp))
    | bl j => cases ry; exact ne_bool (fin_bl I q (congrArg not dec_bl))
    | str j => obtain ⟨t', rfl⟩ := ry; exact PySem.EqMixed.ne_bool_str (fin_bl I q (by simp))
    | _ => exact absurd (show false = true from hs) Bool.false_ne_true
  | int i =>
    obtain ⟨t, rfl⟩ := rx
    cases y with
    | non => cases ry; exact PySem.EqNone.ne_int_none (fin_bl I q (by simp))
    | int j => obtain ⟨t', rfl⟩ := ry; exact ne_int (fin_bl I q (congrArg not dec_int))
    | str j => obtain ⟨t', rfl⟩ := ry; exact PySem.EqMixed.ne_int_str (fin_bl I q (by simp))
    | _ => exact absurd (show false = true from hs) Bool.false_ne_true
  | str i =>
    obtain ⟨t, rfl⟩ := rx
    cases y with
    | non => cases ry; exact PySem.EqNone.ne_str_none (fin_bl I q (by simp))
    | bl j => cases ry; exact PySem.EqMixed.ne_str_bool (fin_bl I q (by simp))
    | int j => obtain ⟨t', rfl⟩ := ry; exact PySem.EqMixed.ne_str_int (fin_bl I q (by simp))
    | str j => obtain ⟨t', rfl⟩ := ry; exact ne_str (fin_bl I q (congrArg not dec_str))
    | _ => exact absurd (show false = true from hs) Bool.false_ne_true
  | byt i =>
    obtain ⟨t, rfl⟩ := rx
    cases y with
    | byt j => obtain ⟨t', rfl⟩ := ry; exact PySem.W.ne_bytes (fin_bl I q (congrArg not dec_byt))
    | _ => exact absurd (show false = true from hs) Bool.false_ne_true
  | _ => cases y <;> exact absurd (show false = true from hs) Bool.false_ne_true

theorem op_lt : OpR X (compareOp .Lt) (rI0 fun i j => .bl (decide (i < j))) := opB0 fun _ _ _ _ _ _ _ q => lt_int q
theorem op_le : OpR X (compareOp .LtE) (rI0 fun i j => .bl (decide (i ≤ j))) := opB0 fun _ _ _ _ _ _ _ q => le_int q
theorem op_gt : OpR X (compareOp .Gt) (rI0 fun i j => .bl (decide (j < i))) := opB0 fun _ _ _ _ _ _ _ q => gt_int q
theorem op_ge : OpR X (compareOp .GtE) (rI0 fun i j => .bl (decide (j ≤ i))) := opB0 fun _ _ _ _ _ _ _ q => ge_int q
theorem op_notN : OpR X (compareOp .IsNot) (fun x y H Q => y = .non ∧ Q (.bl (!decide (x = .non))) H) := by
  intro pins s σ H x y v u Q I rx ry h
  obtain ⟨rfl, q⟩ := h
  cases ry
  refine isnot_none_gen (fin_bl I q ?_)
  cases x <;> first
    | (cases rx; rfl)
    | (obtain ⟨t, rfl⟩ := rx; rfl)

theorem nomark (b : Expr) {op : CmpOp} (h : op ≠ .In := by decide) (h2 : op ≠ .NotIn := by decide) : behindInMarks op b = false := by
  have e1 : (op == CmpOp.In) = false := by cases op <;> first | rfl | exact absurd rfl h
  have e2 : (op == CmpOp.NotIn) = false := by cases op <;> first | rfl | exact absurd rfl h2
  cases b <;> simp [behindInMarks, e1, e2]
/-- a comparison as a value; hm: nomark b, or (for in, not in) by with_unfolding_all rfl -/
theorem pe_cmpR {op : CmpOp} {r : R2} (ho : OpR X (compareOp op) r) (ha : PE X a ta) (hb : PE X b tb) (hm : behindInMarks op b = false) : PE X (.Compare a [op] [b] pos) (tOp r ta tb) := by
  intro pins s σ H Q I h
  exact wpAny_Compare1 (binT ha hb I h fun v u s2 x y H2 I2 rx ry q => ho pins s2 σ H2 x y v u Q I2 rx ry q) hm
/-- a reading of a value as a test -/
def tTest (t : TE) : TT := fun σ H Q => t σ H fun x H' => ∃ k, x = .bl k ∧ Q k H'
theorem pt_cmpR {op : CmpOp} {r : R2} (ho : OpR X (compareOp op) r) (ha : PE X a ta) (hb : PE X b tb) (hm : behindInMarks op b = false) : PT X (.Compare a [op] [b] pos) (tTest (tOp r ta tb)) := by
  intro pins s σ H Q I h
  refine wpAny_isTrue_Compare1 (thn (ha pins s σ H _ I h) fun v s1 ⟨x, H1, I1, r1, q1⟩ => thn (hb pins s1 σ H1 _ I1 q1) fun u s2 ⟨y, H2, I2, r2, q2⟩ =>
    thn (ho pins s2 σ H2 x y v u _ I2 r1 r2 q2) fun c s3 ⟨z, H3, I3, r3, k, e, q3⟩ => ?_) hm
  subst e
  cases r3
  exact wpAny_truthy_bool ⟨H3, I3, q3⟩
/-- a op1 b op2 c -/
def tChain (r r' : R2) (ta tb tc : TE) : TE := fun σ H Q => ta σ H fun x H1 => tb σ H1 fun y H2 => r x y H2 fun z H3 => ∃ k, z = .bl k ∧
  (if k = true then tc σ H3 fun w' H4 => r' y w' H4 Q else Q (.bl false) H3)
theorem pt_chain {op op' : CmpOp} {r r' : R2} (ho : OpR X (compareOp op) r) (ho' : OpR X (compareOp op') r') (ha : PE X a ta) (hb : PE X b tb) (hc : PE X c tc)
    (hm : lastMarks [op, op'] [b, c] = false := by with_unfolding_all rfl) : PT X (.Compare a [op, op'] [b, c] pos) (tTest (tChain r r' ta tb tc)) := by
  intro pins s σ H Q I h
  refine isTrue_chain (thn (ha pins s σ H _ I h) fun v s1 ⟨x, H1, I1, r1, q1⟩ => test_link (thn (hb pins s1 σ H1 _ I1 q1) fun u s2 ⟨y, H2, I2, r2, q2⟩ =>
    thn (ho pins s2 σ H2 x y v u _ I2 r1 r2 q2) fun d s3 ⟨z, H3, I3, r3, k, e, q3⟩ => ?_)) hm
  subst e
  cases r3
  refine wpAny_truthy_bool ?_
  cases k with
  | false =>
    obtain ⟨k', e', q'⟩ := q3
    cases e'
    exact ite_ff ⟨H3, I3, q'⟩
  | true =>
    refine ite_tt (test_last (thn (hc pins s3 σ H3 _ I3 q3) fun w' s4 ⟨z', H4, I4, r4, q4⟩ => thn (ho' pins s4 σ H4 y z' u w' _ I4 r2 r4 q4) fun d' s5 ⟨z2, H5, I5, r5, k2, e2, q5⟩ => ?_))
    subst e2
    cases r5
    exact wpAny_truthy_bool ⟨H5, I5, q5⟩

theorem line63 : (sizeLine : Nat) < 2 ^ 63 := by rw [sizeLine_eq]; decide
theorem vals1 {x : V} {us : List Value} (r : Vals [x] us) : ∃ u, us = [u] ∧ RelV x u := by
  cases r with
  | cons r1 r2 => cases r2; exact ⟨_, rfl, r1⟩
theorem vals2 {x y : V} {us : List Value} (r : Vals [x, y] us) : ∃ u w', us = [u, w'] ∧ RelV x u ∧ RelV y w' := by
  cases r with
  | cons r1 r2 =>
    cases r2 with
    | cons r3 r4 => cases r4; exact ⟨_, _, rfl, r1, r3⟩
theorem call_abs : CallR X (.builtin "abs") (fun xs H Q => ∃ i, xs = [.int i] ∧ Q (.int (if i < 0 then -i else i)) H) := by
  intro pins s σ H xs us Q I r h
  obtain ⟨i, rfl, q⟩ := h
  obtain ⟨u, rfl, t, rfl⟩ := vals1 r
  exact call_abs_int fun u tk => ⟨.int (if i < 0 then -i else i), H, I.tok _, ⟨_, rfl⟩, q⟩
theorem call_max2 (hc : X.calm = true) : CallR X (.builtin "max") (fun xs H Q => ∃ i j, xs = [.int i, .int j] ∧ Q (.int (if j > i then j else i)) H) := by
  intro pins s σ H xs us Q I r h
  obtain ⟨i, j, rfl, q⟩ := h
  obtain ⟨u, w', rfl, ⟨t, rfl⟩, ⟨t', rfl⟩⟩ := vals2 r
  refine max_two_ints (I.ok.hd hc) fun h' tk k => ⟨_, H, I.kept k, ?_, q⟩
  by_cases hj : j > i
  · rw [if_pos hj, if_pos hj]; exact ⟨_, rfl⟩
  · rw [if_neg hj, if_neg hj]; exact ⟨_, rfl⟩
theorem call_min2 (hc : X.calm = true) : CallR X (.builtin "min") (fun xs H Q => ∃ i j, xs = [.int i, .int j] ∧ Q (.int (if j < i then j else i)) H) := by
  intro pins s σ H xs us Q I r h
  obtain ⟨i, j, rfl, q⟩ := h
  obtain ⟨u, w', rfl, ⟨t, rfl⟩, ⟨t', rfl⟩⟩ := vals2 r
  refine min_two_ints (I.ok.hd hc) fun h' tk k => ⟨_, H, I.kept k, ?_, q⟩
  by_cases hj : j < i
  · rw [if_pos hj, if_pos hj]; exact ⟨_, rfl⟩
  · rw [if_neg hj, if_neg hj]; exact ⟨_, rfl⟩
theorem call_int1 : CallR X (.type "int") (fun xs H Q => (∃ i, xs = [.int i] ∧ Q (.int i) H) ∨ ∃ k, xs = [.bl k] ∧ Q (.int (if k then 1 else 0)) H) := by
  intro pins s σ H xs us Q I r h
  rcases h with ⟨i, rfl, q⟩ | ⟨k, rfl, q⟩
  · obtain ⟨u, rfl, t, rfl⟩ := vals1 r
    exact call_int_int ⟨.int i, H, I, ⟨_, rfl⟩, q⟩
  · obtain ⟨u, rfl, r1⟩ := vals1 r
    cases r1
    exact call_int_bool ⟨.int (if k then 1 else 0), H, I.tok _, ⟨_, rfl⟩, q⟩
end
end L2

namespace L2
open PySem PySem.Spec PyProof.Rows

structure ObjM (h : Heap) (x dx C : Addr) (mA : Str → Option Value) : Prop where
  obj : h.get? x = some (PySem.W.instObj C dx)
  ns : h.Ns1 dx mA
  ne : dx ≠ x

theorem lookIn_ns {h : Heap} {dx : Addr} {mA : Str → Option Value} (n : h.Ns1 dx mA) : ∃ od, h.get? dx = some od ∧ ∀ name, PySem.W.lookIn name od = some (mA name) := by
  obtain ⟨o, es, ep, ho, hd, hk, _, hm⟩ := n
  refine ⟨o, ho, fun name => ?_⟩
  have e := hm name
  unfold nsFind findBy at e
  rw [← Array.find?_toList] at e
  unfold PySem.W.lookIn
  rw [hd]
  dsimp only
  split
  · rename_i y q
    rw [q] at e
    exact congrArg some e
  · rename_i q
    rw [q] at e
    have a : es.toList.any (·.refKey) = false := by
      rw [List.any_eq_false]
      intro y hy
      obtain ⟨z, t, hkey⟩ := hk y (Array.mem_toList_iff.mp hy)
      simp [DictEntry.refKey, hkey]
    have a' : ¬ es.toList.any (·.refKey) = true := by rw [a]; exact Bool.false_ne_true
    rw [if_neg a']
    exact congrArg some e

theorem ObjM.look {h : Heap} {x dx C : Addr} {mA : Str → Option Value} (I : ObjM h x dx C mA) : ∃ od, PySem.W.InstAt h x (PySem.W.instObj C dx) C (some od) ∧ ∀ name, PySem.W.lookIn name od = some (mA name) :=
  let ⟨od, ho, hl⟩ := lookIn_ns I.ns
  ⟨od, ⟨I.obj, rfl, rfl, ho⟩, hl⟩

section
variable {prog : Program} {w : World} {A : Around} {E : Value → Shared → Prop} {s : Shared} {K : PySem.W.Frag} {x dx C f : Addr} {mA : Str → Option Value} {name : Str} {v : Value}

end

section
variable {P : Program} {w : World} {H H' : Hp} {h h' : Heap} {a C dx : Addr} {fs fs' : List (Str × V)}
theorem ins_get (hok : HOk P w H h) (e : H a = some (.ins C dx fs)) : ∃ mA, ObjM h a dx C mA ∧ (∀ f, RelO (fs.lookup f) (mA f)) ∧ PySem.Within mA (fs.map (·.1)) ∧ fs.length ≤ 1000 ∧ H dx = some (.own a) := by
  obtain ⟨d, z, ne, ob, mA, n, r, q⟩ := (show ObjOk P w H h a (.ins C dx fs) from hok a _ e)
  exact ⟨mA, ⟨ob, n, ne⟩, r, q, z, d⟩
end

structure Cls (K : PySem.W.Frag) (C : Addr) : Prop where
  pg : PySem.W.plainGet K C Str.empty = true
  hd : PySem.W.hasDictIn K C = true
  po : PySem.W.plainOver K C = true
  sa : PySem.W.findIn K (.ref C) "__setattr__" = some (some (.builtin "object.__setattr__"))
theorem Cls.get {K : PySem.W.Frag} {C : Addr} (c : Cls K C) (f : Str) : PySem.W.plainGet K C f = true := c.pg
section
variable {X : Cx} {pins : List (Addr × Obj)} {σ : St} {H : Hp} {s : Shared} {a C dx : Addr} {fs : List (Str × V)} {f : Str} {v : V} {A : Around} {E : Value → Shared → Prop}

end

section
variable {X : Cx} {o e value : Expr} {f : Str} {pos pos' tpos : Pos} {ta tv : TE}
end

section
variable {X : Cx} {pins : List (Addr × Obj)} {σ : St} {H : Hp} {s : Shared} {A : Around} {E : Value → Shared → Prop} {Q : Value → Shared → Prop} {c : Value} {b : Bool}
/-- the type of a value, as the fragment's deciders take it; for an instance its class -/
inductive TyOf (K : PySem.W.Frag) (H : Hp) : V → Value → Prop where
  | non : TyOf K H .non (.type "NoneType")
  | bl (x : Bool) : TyOf K H (.bl x) (.type "bool")
  | int (i : Int) : TyOf K H (.int i) (.type "int")
  | str (x : Str) : TyOf K H (.str x) (.type "str")
  | flt (x : UInt64) : TyOf K H (.flt x) (.type "float")
  | lst {a : Addr} {xs : List V} (e : H a = some (.lst xs)) : TyOf K H (.ref a) (.type "list")
  | frz {a : Addr} {o : Obj} {xs : List V} (e : H a = some (.frz o (.lst xs))) : TyOf K H (.ref a) (.type "list")
  | tup {a : Addr} {xs : List V} (e : H a = some (.tup xs)) : TyOf K H (.ref a) (.type "tuple")
  | dK {a : Addr} {kvs : List (Key × V)} (e : H a = some (.dK kvs)) : TyOf K H (.ref a) (.type "dict")
  | dT {a : Addr} {kvs : List (List Key × V)} (e : H a = some (.dT kvs)) : TyOf K H (.ref a) (.type "dict")
  | ins {a C dx : Addr} {fs : List (Str × V)} (e : H a = some (.ins C dx fs)) (cl : Cls K C) (ha : PySem.W.findIn K (.ref C) "__class__" = some (some (.builtin "object.__class__")))
      (hn : PySem.W.specialIn K (.builtin "object.__class__") "__get__" = some (some (.builtin "getset_descriptor.__get__"))) (htk : PySem.W.takesIn K (.builtin "object.__class__") = some true)
      (hm : PySem.W.mroIn K C (.type "object") = some true) : TyOf K H (.ref a) (.ref C)
/-- isinstance(x, c) for one class c, a built-in or an own one: kitOne's answer -/
theorem isinst_ok {x : V} {u t : Value} (I : Inv X pins σ H s) (rx : RelV x u) (ty : TyOf X.K H x t) (e : PySem.W.kitOne X.K t c = some b) (h : ∀ tk, Q (.bool b) { s with toks := tk }) :
    wpAny (model X.prog X.w) A (call (.builtin "isinstance") [u, c]) Q E s := by
  cases ty with
  | non => cases (show u = Value.none from rx); exact PySem.W.kia_one PySem.W.kitx_none I.kIn True.intro e (fun z => nomatch z) h
  | bl y => cases (show u = Value.bool y from rx); exact PySem.W.kia_one PySem.W.kitx_bool I.kIn True.intro e (fun z => nomatch z) h
  | int i => obtain ⟨t, q⟩ := (show ∃ t, u = Value.int i t from rx); cases q; exact PySem.W.kia_one PySem.W.kitx_int I.kIn True.intro e (fun z => nomatch z) h
  | str y => obtain ⟨t, q⟩ := (show ∃ t, u = Value.str y t from rx); cases q; exact PySem.W.kia_one PySem.W.kitx_str I.kIn True.intro e (fun z => nomatch z) h
  | flt y => obtain ⟨t, q⟩ := (show ∃ t, u = Value.float y t from rx); cases q; exact PySem.W.kia_one PySem.W.kitx_float I.kIn True.intro e (fun z => nomatch z) h
  | @lst a xs ea =>
    cases (show u = Value.ref a from rx)
    obtain ⟨_, _, n, _, h1⟩ := (show ObjOk X.prog X.w H s.heap a (.lst xs) from I.hok a _ ea)
    exact PySem.W.kia_one PySem.W.kitx_list I.kIn ⟨_, h1, rfl⟩ e (fun z => nomatch z) h
  | @frz a ob xs ea =>
    cases (show u = Value.ref a from rx)
    obtain ⟨_, _, _, n, _, h1⟩ := (show ObjOk X.prog X.w H s.heap a (.frz ob (.lst xs)) from I.hok a _ ea)
    exact PySem.W.kia_one PySem.W.kitx_list I.kIn ⟨_, h1, rfl⟩ e (fun z => nomatch z) h
  | @tup a xs ea =>
    cases (show u = Value.ref a from rx)
    obtain ⟨_, _, _, p⟩ := (show ObjOk X.prog X.w H s.heap a (.tup xs) from I.hok a _ ea)
    obtain ⟨o, h1, h2, _⟩ := p
    exact PySem.W.kia_one PySem.W.kitx_tuple I.kIn ⟨o, h1, h2⟩ e (fun z => nomatch z) h
  | @dK a kvs ea =>
    cases (show u = Value.ref a from rx)
    obtain ⟨_, _, vs, _, p⟩ := (show ObjOk X.prog X.w H s.heap a (.dK kvs) from I.hok a _ ea)
    obtain ⟨o, es, ep, h1, h2, _⟩ := p
    exact PySem.W.kia_one PySem.W.kitx_dict I.kIn ⟨o, h1, h2.1⟩ e (fun z => nomatch z) h
  | @dT a kvs ea =>
    cases (show u = Value.ref a from rx)
    obtain ⟨_, _, xs, _, o, es, ep, h1, h2, _⟩ := (show ObjOk X.prog X.w H s.heap a (.dT kvs) from I.hok a _ ea)
    exact PySem.W.kia_one PySem.W.kitx_dict I.kIn ⟨o, h1, h2.1⟩ e (fun z => nomatch z) h
  | @ins a C dx fs ea cl ha hn htk hm =>
    cases (show u = Value.ref a from rx)
    obtain ⟨mA, O, _⟩ := ins_get I.hok ea
    obtain ⟨od, J, _⟩ := O.look
    exact PySem.W.kia_one (PySem.W.kitx_own (cl.get _) cl.hd ha hn htk hm) I.kIn J e (fun z => nomatch z) h
end
end L2

namespace L2
open PySem PySem.Spec PyProof.Rows

structure Room (k : Nat) (A : Around) : Prop where
  hd : A.handled = none
  dp : A.depth + 3 * k + 5 < recursionLimit
  un : A.units + 16 * k + 200 < cLine
theorem Room.mono {j k : Nat} {A : Around} (r : Room k A) (h : j ≤ k) : Room j A := ⟨r.hd, by have := r.dp; omega, by have := r.un; omega⟩
theorem Room.deeper {k : Nat} {A : Around} (r : Room (k + 1) A) (env : Env) : Room k (A.deeper env) :=
  ⟨r.hd, by have := r.dp; show A.depth + 1 + 3 * k + 5 < _; omega, by have := r.un; show A.units + 3 + 16 * k + 200 < _; omega⟩
theorem Room.depth {k : Nat} {A : Around} (r : Room k A) : A.depth < recursionLimit := by have := r.dp; omega
theorem Room.units0 {k : Nat} {A : Around} (r : Room k A) : A.units < cLine := by have := r.un; omega

def tNil : TA := fun _ H Q => Q [] H
def tCons (ta : TE) (tr : TA) : TA := fun σ H Q => ta σ H fun x H1 => tr σ H1 fun xs H2 => Q (x :: xs) H2
section
variable {X : Cx} {e : Expr} {es : List Expr} {te : TE} {t : TA} {pos : Pos}
theorem pa_nil : PA X [] tNil := fun _ _ _ _ H Q I h => Calls.spliced_nil ⟨[], H, I, .nil, h⟩
theorem pa_cons (ha : PE X e te) (hr : PA X es t) (hs : starEach (e :: es) X.env = (false, eval e X.env) :: starEach es X.env := by rfl) : PA X (e :: es) (tCons te t) := by
  intro pos pins s σ H Q I h
  rw [hs]
  show wpAny _ _ (spliced ((false, eval e X.env) :: backTo pos (starEach es X.env))) _ _ s
  refine Calls.spliced_cons (thn (ha pins s σ H _ I h) fun u s1 ⟨x, H1, I1, r1, q1⟩ => ?_)
  exact thn (hr pos pins s1 σ H1 _ I1 q1) fun us s2 ⟨xs, H2, I2, r2, q2⟩ => ⟨x :: xs, H2, I2, .cons r1 r2, q2⟩

/-- a tuple, a list of written items -/
def tTup (t : TA) : TE := fun σ H Q => t σ H fun xs H1 => xs.length ≤ sizeLine ∧ ∀ p, H1 p = none → Q (.ref p) (upd H1 p (.tup xs))
def tLst (t : TA) : TE := fun σ H Q => t σ H fun xs H1 => xs.length ≤ sizeLine ∧ ∀ p, H1 p = none → Q (.ref p) (upd H1 p (.lst xs))
theorem pe_tup {x1} (h : PA X es t) : PE X (.Tuple es x1 pos) (tTup t) := by
  intro pins s σ H Q I hq
  refine wpAny_Tuple_spliced (thn (h pos pins s σ H _ I hq) fun us s1 ⟨xs, H1, I1, r, z, q⟩ => ⟨by rw [← r.length]; exact z, ?_⟩)
  have hf : H1 s1.heap.objs.size = none := I1.hok.fresh (Nat.le_refl _)
  refine ⟨.ref s1.heap.objs.size, upd H1 s1.heap.objs.size (.tup xs), I1.laid (t' := s1.toks) (fun b u e => Heap.get?_push_of_some _ e) (Nat.le_refl _) ?_, rfl, q _ hf⟩
  exact ⟨z, us, r, ⟨_, Heap.get?_push_size _ rfl, rfl, _, rfl⟩⟩
theorem pe_lst (h : PA X es t) : PE X (.List es pos) (tLst t) := by
  intro pins s σ H Q I hq
  refine wpAny_List_spliced (thn (h pos pins s σ H _ I hq) fun us s1 ⟨xs, H1, I1, r, z, q⟩ => ⟨by rw [← r.length]; exact z, ?_⟩)
  have hf : H1 s1.heap.objs.size = none := I1.hok.fresh (Nat.le_refl _)
  refine ⟨.ref s1.heap.objs.size, upd H1 s1.heap.objs.size (.lst xs), I1.laid (t' := s1.toks) (fun b u e => Heap.get?_push_of_some _ e) (Nat.le_refl _) ?_, rfl, q _ hf⟩
  exact ⟨z, us, 0, r, Heap.get?_push_size _ rfl⟩
end

/-- a def's promise: the bound arguments in the parameters' order, the heap, the wanted end, the wanted exception -/
abbrev Sp := List V → Hp → VK → XK → Prop
/-- how an exception lies behind a call (file 08 gives it): the callers' frames, abstract heap and state ahead of the call, the wish, the exception, the state -/
abbrev CXT := List Env → Hp → Shared → XK → Value → Shared → Prop

/-- the state at a call -/
structure Env0 (P : Program) (w : World) (K : PySem.W.Frag) (mg : Str → Option Value) (base : Heap) (A : Around) (outer : List Env) (s : Shared) (H : Hp) : Prop where
  frames : A.frames = some outer
  mod : Mod K mg base
  bs : ∀ b o, base.get? b = some o → s.heap.get? b = some o ∧ H b = none
  bsz : base.objs.size ≤ s.heap.objs.size
  funs : s.heap.FunFrames base outer
  frf : ∀ b ∈ frs outer, H b = none
  hok : HOk P w H s.heap
  bare : AllBare s.gens
/-- a call's end -/
def CE (outer : List Env) (P : Program) (w : World) (H : Hp) (s : Shared) (Q : VK) (u : Value) (s' : Shared) : Prop :=
  ∃ v H', s'.os = s.os ∧ AllBare s'.gens ∧ Un (frs outer) [] H H' s.heap s'.heap ∧ HOk P w H' s'.heap ∧ RelV v u ∧ Q v H'
def CR (CX : CXT) (outer : List Env) (P : Program) (w : World) (H : Hp) (s : Shared) (Q : VK) (E : XK) (r : Result) (s' : Shared) : Prop :=
  match r with
  | .ok (.ret u) => CE outer P w H s Q u s'
  | .ok _ => False
  | .error e => CX outer H s E e s'
structure FnOk (P : Program) (w : World) (K : PySem.W.Frag) (mg : Str → Option Value) (base : Heap) (CX : CXT) (k : Nat) (f : Addr) (fd : FuncData) (ps : List Str) (sp : Sp) : Prop where
  len : ∀ vs H Q E, sp vs H Q E → vs.length = ps.length
  run : ∀ (A : Around) (outer : List Env) (s : Shared) (H : Hp) (args : Args) (us : List Value) (vs : List V) (Q : VK) (E : XK), Room k A → Env0 P w K mg base A outer s H → BindsTo s fd args (ps.zip us) → Vals vs us → sp vs H Q E →
    codeAny (model P w) A (.call (.ref f) args) (CR CX outer P w H s Q E) s
section
variable {X : Cx} {pins : List (Addr × Obj)} {σ : St} {H : Hp} {s s' : Shared}
/-- from a body: what a callee wants -/
theorem Inv.env0 (I : Inv X pins σ H s) : Env0 X.prog X.w X.K X.mg X.base X.A X.stack s H :=
  ⟨I.ok.frames, I.ok.mod, I.bs, Nat.le_trans I.ok.bsz I.sz, I.stack, I.stkFree, I.hok, I.bare⟩
/-- behind a call -/
theorem Inv.after {Q : VK} {u : Value} (I : Inv X pins σ H s) (h : CE X.stack X.prog X.w H s Q u s') : EP X pins σ Q u s' := by
  obtain ⟨v, H', os, bare, un, hok, r, q⟩ := h
  obtain ⟨hh, g, d, t, os'⟩ := s'
  obtain rfl : os' = s.os := os
  exact ⟨v, H', I.call (h' := hh) (g' := g) (d' := d) (t' := t) (ch := []) un hok bare (fun b z => absurd z (by simp)), r, q⟩
end

/-- f(..): the written arguments, then the defaults dvs; E: what is wanted of an exception -/
def tCall (sp : Sp) (dvs : List V) (E : XK) (t : TA) : TE := fun σ H Q => t σ H fun vs H1 => sp (vs ++ dvs) H1 Q E
/-- how the parameters are bound: us the positional arguments, kw the keywords' values by name, ds the defaults that fill up -/
def Binds (K : PySem.W.Frag) (fd : FuncData) (ps : List Str) (ds : List Value) : Prop :=
  ∀ (s : Shared) (us : List Value), K.In s.heap → (us ++ ds).length = ps.length → BindsTo s fd ⟨us, []⟩ (ps.zip (us ++ ds))
/-- every parameter is given -/
theorem Binds.all {K : PySem.W.Frag} {fd : FuncData} {ps : List Str} (h : ∀ us : List Value, us.length = ps.length → bindArgs fd ⟨us, []⟩ = pure (ps.zip us)) : Binds K fd ps [] := fun s us _ hl => by
  rw [List.append_nil] at hl ⊢
  exact .of_eq (h us hl)

/-- an exception of a callee reaches what this body wants of exceptions -/
def Passes (CX : CXT) (X : Cx) (E : XK) : Prop := ∀ (pins : List (Addr × Obj)) (σ : St) (H : Hp) (s : Shared) (e : Value) (s' : Shared), Inv X pins σ H s → CX X.stack H s E e s' → X.xe e s'

section
variable {X : Cx} {CX : CXT} {k : Nat} {f C : Addr} {fd : FuncData} {ps : List Str} {sp : Sp} {dvs : List V} {ds : List Value} {E : XK} {x m : Str} {p pos apos : Pos} {e o : Expr} {es : List Expr} {ta : TE} {t : TA}

/-- the callee runs -/
theorem run_fn {pins : List (Addr × Obj)} {σ : St} {H : Hp} {s : Shared} {Q : VK} {us : List Value} {vs : List V} (F : FnOk X.prog X.w X.K X.mg X.base CX k f fd ps sp) (hr : Room k X.A) (hb : Binds X.K fd ps ds) (hd : Vals dvs ds) (hx : Passes CX X E)
    (I : Inv X pins σ H s) (r : Vals vs us) (h : sp (vs ++ dvs) H Q E) : wpAny (model X.prog X.w) X.A (call (.ref f) us) (EP X pins σ Q) X.xe s := by
  have r2 : Vals (vs ++ dvs) (us ++ ds) := r.append hd
  have hl : (us ++ ds).length = ps.length := by rw [← r2.length]; exact F.len _ _ _ _ h
  refine wpAny_call (codeAny_mono (F.run X.A X.stack s H ⟨us, []⟩ (us ++ ds) (vs ++ dvs) Q E hr I.env0 (hb s us I.kIn hl) r2 h) fun r s' hq => ?_)
  cases r with
  | error e => exact hx pins σ H s e s' I hq
  | ok fl =>
    cases fl with
    | ret u => exact I.after hq
    | next => exact False.elim hq
    | brk => exact False.elim hq
    | cont => exact False.elim hq

theorem pe_call (F : FnOk X.prog X.w X.K X.mg X.base CX k f fd ps sp) (hr : Room k X.A) (hg : Gl X x) (hm : X.mg x = some (.ref f)) (hk : PySem.W.keepIn X.K (.ref f) = true) (hb : Binds X.K fd ps ds) (hd : Vals dvs ds) (hx : Passes CX X E)
    (ha : PA X (e :: es) t) (hdb : (x == ("__debug__" : Str)) = false := by decide) (he : starEach (e :: es) X.env = (false, eval e X.env) :: starEach es X.env := by rfl) (hpl : (backTo pos (starEach es X.env)).any (·.1) = false := by rfl) :
    PE X (.Call (.Name x p) (e :: es) [] pos) (tCall sp dvs E t) := by
  intro pins s σ H Q I h
  refine wpAny_Call_Name_kw (ld_glob I hg hm ?_ hdb)
  refine PySem.W.callWith_K (h₀ := X.base) I.ok.mod.kin hk (thn (ha pos pins s σ H _ I h) fun us s1 ⟨vs, H1, I1, r, q⟩ => ⟨I1.kIn, ?_⟩) he hpl
  exact run_fn F hr hb hd hx I1 r q
end

section
variable {X : Cx} {CX : CXT} {k : Nat} {f C : Addr} {fd : FuncData} {ps ks : List Str} {sp : Sp} {E : XK} {x m : Str} {p pos apos kpos : Pos} {e o : Expr} {es : List Expr} {kws : List Keyword} {te ta : TE} {t tk : TA} {nm : Option Str}
variable {g : List Value → List Value → List Value} {gV : List V → List V → List V}
end

/-- names: the parameters first -/
structure FnScope (N P : List Str) (sc : Scope) : Prop where
  kind : sc.kind = .function
  co : sc.isCoroutine = false
  gen : sc.isGenerator = false
  nd : N.Nodup
  pre : N.take P.length = P
  par : ∀ x ∈ P, sc.names.lookup x = some .local ∨ sc.names.lookup x = some .cell
  nofree : ∀ y ∈ sc.names, y.2 ≠ .free

theorem bindL_out {kindOf : Str → Option NameKind} {x : Str} : ∀ {binds : List (Str × Value)} {m : Str → Option Value}, (∀ v, (x, v) ∉ binds) → bindL kindOf binds m x = m x
  | [], _, _ => rfl
  | (n, v) :: r, m, h => by
    unfold bindL
    rw [bindL_out fun w hw => h w (List.mem_cons_of_mem _ hw)]
    split
    · have : x ≠ n := by rintro rfl; exact h v List.mem_cons_self
      simp [this]
    · rfl
theorem bindC_out {kindOf : Str → Option NameKind} {x : Str} : ∀ {binds : List (Str × Value)} {m : Str → Option Value}, (∀ v, (x, v) ∉ binds) → bindC kindOf binds m x = m x
  | [], _, _ => rfl
  | (n, v) :: r, m, h => by
    unfold bindC
    rw [bindC_out fun w hw => h w (List.mem_cons_of_mem _ hw)]
    split
    · rfl
    · have : x ≠ n := by rintro rfl; exact h v List.mem_cons_self
      simp [this]
theorem bindL_get {kindOf : Str → Option NameKind} {x : Str} {v : Value} : ∀ {P : List Str} {vs : List Value} {i : Nat} {m : Str → Option Value}, P.Nodup → P[i]? = some x → vs[i]? = some v → kindOf x = some .local →
    bindL kindOf (P.zip vs) m x = some v
  | [], _, _, _, _, h, _, _ => by simp at h
  | _ :: _, [], _, _, _, _, h, _ => by simp at h
  | p :: P, w :: vs, 0, m, nd, h1, h2, hk => by
    simp at h1 h2; subst h1; subst h2
    show bindL kindOf ((p, w) :: P.zip vs) m p = _
    unfold bindL
    rw [bindL_out fun v hv => (List.nodup_cons.mp nd).1 (List.of_mem_zip hv).1, if_pos hk]
    simp
  | p :: P, w :: vs, i + 1, m, nd, h1, h2, hk => by
    show bindL kindOf ((p, w) :: P.zip vs) m x = _
    unfold bindL
    exact bindL_get (i := i) (List.nodup_cons.mp nd).2 (by simpa using h1) (by simpa using h2) hk
theorem bindC_get {kindOf : Str → Option NameKind} {x : Str} {v : Value} : ∀ {P : List Str} {vs : List Value} {i : Nat} {m : Str → Option Value}, P.Nodup → P[i]? = some x → vs[i]? = some v → kindOf x ≠ some .local →
    bindC kindOf (P.zip vs) m x = some v
  | [], _, _, _, _, h, _, _ => by simp at h
  | _ :: _, [], _, _, _, _, h, _ => by simp at h
  | p :: P, w :: vs, 0, m, nd, h1, h2, hk => by
    simp at h1 h2; subst h1; subst h2
    show bindC kindOf ((p, w) :: P.zip vs) m p = _
    unfold bindC
    rw [bindC_out fun v hv => (List.nodup_cons.mp nd).1 (List.of_mem_zip hv).1, if_neg hk]
    simp
  | p :: P, w :: vs, i + 1, m, nd, h1, h2, hk => by
    show bindC kindOf ((p, w) :: P.zip vs) m x = _
    unfold bindC
    exact bindC_get (i := i) (List.nodup_cons.mp nd).2 (by simpa using h1) (by simpa using h2) hk

/-- the names' values at the entry -/
def start (N : List Str) (vs : List V) : St := vs.map some ++ List.replicate (N.length - vs.length) none

/-- the context of a def's body, at its entry; an exception leaves the frame, then lies as CX says -/
def cxOf (CX : CXT) (P : Program) (w : World) (K : PySem.W.Frag) (mg : Str → Option Value) (base : Heap) (N : List Str) (qual : Str) (scope : Scope) (f : Addr) (cd : Value) (A : Around) (outer : List Env) (s : Shared) (H : Hp) (E : XK) : Cx where
  prog := P
  w := w
  K := K
  mg := mg
  base := base
  A := A.deeper (envOfC qual scope s.heap.objs.size f cd)
  N := N
  s₀ := s
  H₀ := H
  env := envOfC qual scope s.heap.objs.size f cd
  outer := outer
  stack := envOfC qual scope s.heap.objs.size f cd :: outer
  ex := []
  calm := true
  fn := fun _ => true
  pn := []
  xe := fun e s' => wpAny (model P w) (A.deeper (envOfC qual scope s.heap.objs.size f cd)) (leaving (envOfC qual scope s.heap.objs.size f cd) e) (fun _ s'' => CX outer H s E e s'') (fun e' s'' => CX outer H s E e' s'') s'

theorem cell_has {sc : Scope} {n : Nat} {x : Str} (h : sc.names.lookup x = some .cell) : ∃ c, (cellsFrom n sc.names []).lookup x = some c := by
  have q := PySem.W.cellsFrom_some sc.names n [] (.inl h)
  exact Option.isSome_iff_exists.mp q

theorem inv_start {CX : CXT} {P : Program} {w : World} {K : PySem.W.Frag} {mg : Str → Option Value} {base : Heap} {N ps : List Str} {qual : Str} {scope : Scope} {f : Addr} {cd : Value} {A : Around} {outer : List Env} {s s1 : Shared} {H : Hp} {E : XK} {us : List Value} {vs : List V}
    (S : FnScope N ps scope) (hd : A.handled = none) (e0 : Env0 P w K mg base A outer s H) (hl : vs.length = ps.length) (r : Vals vs us)
    (x : InCallC s s.heap.objs.size (bindL (envOfC qual scope s.heap.objs.size f cd).kindOf (ps.zip us) fun _ => none) (cellsFrom (s.heap.objs.size + 1) scope.names []) (bindC (envOfC qual scope s.heap.objs.size f cd).kindOf (ps.zip us) fun _ => none) s1) :
    Inv (cxOf CX P w K mg base N qual scope f cd A outer s H E) [] (start N vs) H s1 := by
  have hpl : ps.length ≤ N.length := by have := congrArg List.length S.pre; rw [List.length_take] at this; omega
  obtain ⟨h1, tk, rfl, hk⟩ := x.done
  have noA : ∀ b : Addr, b ∉ (cxOf CX P w K mg base N qual scope f cd A outer s H E).ex := fun b z => absurd (show b ∈ ([] : List Addr) from z) (by simp)
  refine ⟨⟨e0.mod, S.kind, rfl, rfl, Nat.le_refl _, fun y z c h1 h2 => ?_, fun y hy => ?_, fun y c _ h => ?_, fun _ => hd, Around.frames_deeper e0.frames, .inr ⟨rfl, rfl⟩, fun b z => absurd z (noA b), e0.bs, e0.bsz, fun b _ _ => noA b, fun b z => absurd z (noA b), e0.funs, e0.frf⟩,
    rfl, e0.bare, Un.kept hk, ⟨_, x.toInCall.ns, fun i y v h1 h2 h3 => ?_⟩, fun y c h => ⟨_, x.cell y c h⟩, e0.hok.fresh (Nat.le_refl _), fun y c h => ?_, fun p hp => absurd (show p ∈ ([] : List (Addr × Obj)) from hp) (by simp), e0.hok.kept hk, ?_⟩
  · exact name_of_addr x.apart (PySem.mem_of_lookup h1) (PySem.mem_of_lookup h2)
  · have hy : scope.names.lookup y = some .cell ∨ scope.names.lookup y = some .free := hy
    rcases hy with hy | hy
    · exact cell_has hy
    · exact absurd rfl (S.nofree _ (PySem.mem_of_lookup hy))
  · exact Nat.le_of_lt (x.above y c (PySem.mem_of_lookup h))
  · have hi : i < vs.length := by
      unfold start at h2
      by_cases hi : i < vs.length
      · exact hi
      · rw [List.getElem?_append_right (by simpa using hi)] at h2
        rw [List.getElem?_replicate] at h2
        split at h2 <;> cases h2
    have ha : vs[i]? = some v := by
      unfold start at h2
      rw [List.getElem?_append_left (by simpa using hi), List.getElem?_map] at h2
      cases e : vs[i]? with
      | none => rw [e] at h2; cases h2
      | some a => rw [e] at h2; cases h2; rfl
    obtain ⟨u, hu, rv⟩ := r.get ha
    have hp : ps[i]? = some y := by
      rw [← S.pre, List.getElem?_take_of_lt (by omega)]; exact h1
    have ndP : ps.Nodup := by rw [← S.pre]; exact S.nd.sublist (List.take_sublist _ _)
    refine ⟨u, rv, ?_⟩
    rcases S.par y (List.mem_of_getElem? hp) with k | k
    · exact .inl ⟨k, bindL_get ndP hp hu k⟩
    · obtain ⟨c, e⟩ := cell_has (n := s.heap.objs.size + 1) k
      refine .inr ⟨.inl k, c, e, ?_⟩
      have q := x.cell y c e
      rw [bindC_get ndP hp hu (by show scope.names.lookup y ≠ _; rw [k]; decide)] at q
      exact q
  · exact e0.hok.fresh (Nat.le_of_lt (x.above y c (PySem.mem_of_lookup h)))
  · unfold start
    show _ = N.length
    rw [List.length_append, List.length_map, List.length_replicate]
    omega

/-- THE RULE: a def (or a method) of the text, by its body. The body's reading t is chosen for each entry; it is run at the parameters' values -/
theorem fn_of {CX : CXT} {P : Program} {w : World} {K : PySem.W.Frag} {mg : Str → Option Value} {base : Heap} {k : Nat} {f : Addr} {name qual : Str} {params : Arguments} {body : List Stmt} {scope : Scope} {dV kV doc pm cdv ct oc : Value} {an od : Option Addr}
    {osl : Array (Option Value)} {N ps : List Str} {sp : Sp} (lk : K.lookup f = some ⟨oc, od, .func (PySem.W.fnOf name qual params body scope dV kV doc pm an cdv ct), osl⟩) (hcd : PySem.W.codeIn K cdv qual = true) (S : FnScope N ps scope)
    (len : ∀ vs H Q E, sp vs H Q E → vs.length = ps.length)
    (hbody : ∀ (A : Around) (outer : List Env) (s : Shared) (H : Hp) (vs : List V) (Q : VK) (E : XK), Room k (A.deeper (envOfC qual scope s.heap.objs.size f cdv)) → sp vs H Q E →
      ∃ t, PSs (cxOf CX P w K mg base N qual scope f cdv A outer s H E) body t ∧ t { nx := fun _ H' => Q .non H', rt := Q } (start N vs) H) :
    FnOk P w K mg base CX (k + 1) f (PySem.W.fnOf name qual params body scope dV kV doc pm an cdv ct) ps sp := by
  refine ⟨len, fun A outer s H args us vs Q E hr e0 hb r hsp => ?_⟩
  have hl := len _ _ _ _ hsp
  have KX : K.In s.heap := e0.mod.kin.keeps fun b o e => (e0.bs b o e).1
  have lim : s.heap.NoLimit := e0.mod.nolimit.keeps fun b o e => (e0.bs b o e).1
  have hkind : ∀ y ∈ ps.zip us, scope.names.lookup y.1 = some .local ∨ (scope.names.lookup y.1 = some .cell ∧ ((cellsFrom (s.heap.objs.size + 1) scope.names []).lookup y.1).isSome = true) := fun ⟨n, v⟩ hy => by
    rcases S.par n (List.of_mem_zip hy).1 with q | q
    · exact .inl q
    · exact .inr ⟨q, PySem.W.cellsFrom_some _ _ _ (.inl q)⟩
  refine codeAny_call_function hr.depth (KX _ _ lk) rfl S.co S.gen rfl (PySem.W.codeRec_of KX hcd) (hb _ _ _ _ ?_)
  refine wpAny_newFunctionEnv_cells S.kind hkind fun env he s1 x => ?_
  subst he
  refine ⟨lim.keeps x.toInCall.keep, codeAny_func ?_⟩
  obtain ⟨t, ht, hq⟩ := hbody A outer s H vs Q E (hr.deeper _) hsp
  have I : Inv (cxOf CX P w K mg base N qual scope f cdv A outer s H E) [] (start N vs) H s1 := inv_start S hr.hd e0 hl r x
  refine wpAny_mono (ht [] s1 (start N vs) H _ I hq) (fun fl s' hs => ?_) fun e s' hs => hs
  have fin : ∀ {σ' : St} {H' : Hp} {v : V} {u : Value}, Inv (cxOf CX P w K mg base N qual scope f cdv A outer s H E) [] σ' H' s' → RelV v u → Q v H' → CE outer P w H s Q u s' :=
    fun {σ' H' v u} J rv q => ⟨v, H', J.os, J.bare, J.base, J.hok, rv, q⟩
  cases fl with
  | ret u =>
    obtain ⟨v, σ', H', J, rv, q⟩ := hs
    exact fin J rv q
  | next =>
    obtain ⟨σ', H', J, q⟩ := hs
    exact fin (v := V.non) (u := Value.none) J rfl q
  | brk =>
    obtain ⟨_, _, _, q⟩ := hs
    exact False.elim q
  | cont =>
    obtain ⟨_, _, _, q⟩ := hs
    exact False.elim q
end L2

namespace L2
open PySem PySem.Spec PyProof.Rows
section
variable {X : Cx} {x : Str} {p pos : Pos} {e : Expr} {es : List Expr} {t : TA} {id T : String} {r : List V → Hp → VK → Prop}

def tCB (r : List V → Hp → VK → Prop) (t : TA) : TE := fun σ H Q => t σ H fun vs H1 => r vs H1 Q
/-- f(e, ..), f a built-in function -/
theorem pe_callB (hc : CallR X (.builtin id) r) (hg : Gl X x) (hm : X.mg x = none) (hv : bootBuiltins x = some (.builtin id)) (ha : PA X (e :: es) t) (hn : x ≠ "__name__" := by decide) (hdb : (x == ("__debug__" : Str)) = false := by decide)
    (he : starEach (e :: es) X.env = (false, eval e X.env) :: starEach es X.env := by rfl) (hpl : (backTo pos (starEach es X.env)).any (·.1) = false := by rfl) : PE X (.Call (.Name x p) (e :: es) [] pos) (tCB r t) := by
  intro pins s σ H Q I h
  refine wpAny_Call_Name_kw (ld_blt I hg hm hv ?_ hn hdb)
  exact PyProof.Rows.callWith_builtin1 (thn (ha pos pins s σ H _ I h) fun us s1 ⟨vs, H1, I1, r1, q1⟩ => hc pins s1 σ H1 vs us Q I1 r1 q1) he hpl
/-- T(e, ..), T a built-in type -/
theorem pe_callTy (hc : CallR X (.type T) r) (hg : Gl X x) (hm : X.mg x = none) (hv : bootBuiltins x = some (.type T)) (ha : PA X (e :: es) t) (hn : x ≠ "__name__" := by decide) (hdb : (x == ("__debug__" : Str)) = false := by decide)
    (he : starEach (e :: es) X.env = (false, eval e X.env) :: starEach es X.env := by rfl) (hpl : (backTo pos (starEach es X.env)).any (·.1) = false := by rfl) : PE X (.Call (.Name x p) (e :: es) [] pos) (tCB r t) := by
  intro pins s σ H Q I h
  refine wpAny_Call_Name_kw (ld_blt I hg hm hv ?_ hn hdb)
  exact PyProof.Rows.callWith_type1 (thn (ha pos pins s σ H _ I h) fun us s1 ⟨vs, H1, I1, r1, q1⟩ => hc pins s1 σ H1 vs us Q I1 r1 q1) he hpl
end
end L2

namespace L2
open PySem PySem.Spec PyProof.Rows

section
variable {κ : Type} [DecidableEq κ]
def valV (kvs : List (κ × V)) (k : κ) : Option V := (kvs.find? fun kv => decide (kv.1 = k)).map (·.2)
/-- in its place, or at the end -/
def putK (kvs : List (κ × V)) (k : κ) (v : V) : List (κ × V) :=
  if (kvs.any fun kv => decide (kv.1 = k)) = true then kvs.map (fun kv => if kv.1 = k then (kv.1, v) else kv) else kvs ++ [(k, v)]
def dropK (kvs : List (κ × V)) (k : κ) : List (κ × V) := kvs.filter fun kv => decide (kv.1 ≠ k)

end

/-- raw entries of a dict with tuple keys -/
abbrev KT (H : Hp) : List (List Key × V) → List (List Key × Addr × Value) → Prop := Paired fun p q => p.1 = q.1 ∧ H q.2.1 = some (.tup (p.1.map kV)) ∧ RelV p.2 q.2.2
section
variable {P : Program} {w : World} {H : Hp} {h : Heap} {a : Addr}
end

/-- what the dict at a holds at the key y -/
def DGet (H : Hp) (a : Addr) (y : V) (r : Option V) : Prop :=
  (∃ kvs k, Rd H a (.dK kvs) ∧ y = kV k ∧ r = valV kvs k) ∨ ∃ kvs k b, Rd H a (.dT kvs) ∧ y = .ref b ∧ H b = some (.tup (k.map kV)) ∧ r = valV kvs k
/-- the heap behind a[y] = v -/
def DPut (H : Hp) (a : Addr) (y v : V) (H' : Hp) : Prop :=
  (∃ kvs k, H a = some (.dK kvs) ∧ y = kV k ∧ kvs.length < sizeLine ∧ H' = upd H a (.dK (putK kvs k v))) ∨
  ∃ kvs k b, H a = some (.dT kvs) ∧ y = .ref b ∧ H b = some (.tup (k.map kV)) ∧ kvs.length < sizeLine ∧ H' = upd H a (.dT (putK kvs k v))
section
variable {X : Cx} {pins : List (Addr × Obj)} {σ : St} {H : Hp} {s : Shared} {a : Addr} {y v : V} {u r : Value} {o : Option V} {A : Around} {E : Value → Shared → Prop}

end

section
variable {X : Cx} {pins : List (Addr × Obj)} {σ : St} {H : Hp} {s : Shared} {a : Addr} {kvs : List (Key × V)} {k : Key} {u : Value} {A : Around} {E : Value → Shared → Prop}
end

section
variable {X : Cx} {o i e value : Expr} {pos pos' tpos : Pos} {td ty tv : TE}
end

section
variable {X : Cx} {pos : Pos}
end

section
variable {X : Cx} {pins : List (Addr × Obj)} {σ : St} {H : Hp} {s : Shared} {a : Addr} {y d : V} {u r : Value} {o : Option V} {A : Around} {E : Value → Shared → Prop}
end

section
variable {X : Cx} {o e f : Expr} {apos cpos : Pos} {td ty tx : TE}
end

section
variable {X : Cx} {pins : List (Addr × Obj)} {σ : St} {H : Hp} {s : Shared} {a : Addr} {kvs : List (Key × V)} {A : Around} {E : Value → Shared → Prop}
end

section
variable {X : Cx} {pins : List (Addr × Obj)} {σ : St} {H : Hp} {s : Shared} {a : Addr} {y : V} {u : Value} {A : Around} {E : Value → Shared → Prop}
end
end L2

namespace HT
open PySem PyProof.Rows

section
open PySem.SeqAt
open PySem.AutoSeq1 (wpAny_loadPart')
open PySem.MeetsSeq PySem.MeetsSeq2 PySem.MeetsSeq3

end

section
variable {prog : Program} {w : World} {A : Around} {E : Value → Shared → Prop} {s : Shared}

/-- a slice's bound as a place among n (d where it is left out) -/
def sIx (n d : Nat) : Option Int → Nat
  | none => d
  | some v => if v < 0 then (v + (n : Int)).toNat else min v.toNat n
theorem sIx_none (n d : Nat) : sIx n d none = d := rfl
theorem sIx_nat (n d k : Nat) : sIx n d (some (k : Int)) = min k n := by
  show (if (k : Int) < 0 then ((k : Int) + (n : Int)).toNat else min (k : Int).toNat n) = min k n
  rw [if_neg (by omega), Int.toNat_natCast]
end
end HT

namespace L2
open PySem PySem.Spec PyProof.Rows

abbrev TO := St → Hp → (Option Int → Hp → Prop) → Prop
/-- a slice's part (left out, or an int) -/
def PO (X : Cx) (e : Option Expr) (t : TO) : Prop :=
  ∀ (pins : List (Addr × Obj)) (s : Shared) (σ : St) (H : Hp) (Q : Option Int → Hp → Prop), Inv X pins σ H s → t σ H Q →
    wpAny (model X.prog X.w) X.A (evalPart e X.env) (fun u s' => ∃ o H', Inv X pins σ H' s' ∧ IsPart u o ∧ Q o H') X.xe s
def tNoPart : TO := fun _ H Q => Q none H
def tPart (t : TE) : TO := fun σ H Q => t σ H fun x H1 => ∃ i, x = .int i ∧ Q (some i) H1

section
variable {X : Cx} {e : Expr} {te : TE} {lo hi : Option Expr} {tl th : TO} {pos p2 : Pos}

theorem po_none : PO X none tNoPart := by
  intro pins s σ H Q I h
  rw [evalPart_none]
  exact wpAny_pure ⟨none, H, I, .none, h⟩
theorem po_some (h : PE X e te) : PO X (some e) (tPart te) := by
  intro pins s σ H Q I hw
  rw [evalPart_some]
  refine thn (h pins s σ H _ I hw) fun u s1 ⟨x, H1, I1, r1, q1⟩ => ?_
  obtain ⟨i, rfl, q⟩ := q1
  obtain ⟨t, rfl⟩ := r1
  exact ⟨some i, H1, I1, .int i t, q⟩

/-- what a slice of a value is, by values: the slice object stands at sl -/
def SlR (X : Cx) (r : V → Option Int → Option Int → Hp → VK → Prop) : Prop :=
  ∀ (pins : List (Addr × Obj)) (s : Shared) (σ : St) (H : Hp) (x : V) (v vl vu : Value) (lo hi : Option Int) (sl : Addr) (Q : VK), Inv X pins σ H s → RelV x v → s.heap.IsSliceOf sl vl vu .none → IsPart vl lo → IsPart vu hi → r x lo hi H Q →
    ∃ T id, typeLookup (.type T) "__getitem__" = pure (some (.builtin id)) ∧ s.TypeIs v T ∧ wpAny (model X.prog X.w) X.A (getItem v (.ref sl)) (EP X pins σ Q) X.xe s
def tSl (r : V → Option Int → Option Int → Hp → VK → Prop) (te : TE) (tl th : TO) : TE := fun σ H Q => te σ H fun x H1 => tl σ H1 fun l H2 => th σ H2 fun u H3 => r x l u H3 Q
/-- a[lo:hi], any a -/
theorem pe_slice {r : V → Option Int → Option Int → Hp → VK → Prop} (hr : SlR X r) (he : PE X e te) (hl : PO X lo tl) (hu : PO X hi th) : PE X (.Subscript e (.Slice lo hi none p2) pos) (tSl r te tl th) := by
  intro pins s σ H Q I h
  refine Subscript_ (thn (he pins s σ H _ I h) fun v s1 ⟨x, H1, I1, r1, q1⟩ => ?_)
  refine wpAny_Slice (thn (hl pins s1 σ H1 _ I1 q1) fun vl s2 ⟨l, H2, I2, pl, q2⟩ => thn (hu pins s2 σ H2 _ I2 q2) fun vu s3 ⟨u, H3, I3, pu, q3⟩ => ?_)
  rw [evalPart_none]
  refine wpAny_pure ?_
  have I4 : Inv X pins σ H3 { s3 with heap := s3.heap.push { cls := .type "slice", data := .fields #[vl, vu, .none] } } := I3.kept (t' := s3.toks) fun b ob q => Heap.get?_push_of_some _ q
  obtain ⟨T, id, hT, ht, hg⟩ := hr pins { s3 with heap := s3.heap.push { cls := .type "slice", data := .fields #[vl, vu, .none] } } σ H3 x v vl vu l u s3.heap.objs.size Q I4 r1 (Heap.IsSliceOf.new ..) pl pu q3
  show wpAny (model X.prog X.w) X.A (subscriptTail e (.Slice lo hi none p2) v (.ref s3.heap.objs.size)) (EP X pins σ Q) X.xe { s3 with heap := s3.heap.push { cls := .type "slice", data := .fields #[vl, vu, .none] } }
  exact tail_any (ops := [.ref s3.heap.objs.size, v]) ht hT hg (by with_unfolding_all rfl)

/-- the items of xs[lo:hi] -/
def cutV (xs : List V) (lo hi : Option Int) : List V := (xs.drop (HT.sIx xs.length 0 lo)).take (HT.sIx xs.length xs.length hi - HT.sIx xs.length 0 lo)
theorem cutV_length (xs : List V) (lo hi : Option Int) : (cutV xs lo hi).length ≤ xs.length := by
  unfold cutV
  rw [List.length_take, List.length_drop]
  omega
end
end L2

namespace L2
open PySem PySem.Spec PyProof.Rows

/-- the place that an index of any sign means -/
def ixN (n : Nat) (i : Int) : Option Nat := if 0 ≤ i then (if i < n then some i.toNat else none) else if -(n : Int) ≤ i then some (i + n).toNat else none
def atI {α : Type} (xs : List α) (i : Int) : Option α := (ixN xs.length i).bind fun j => xs[j]?
theorem ixN_seq {n : Nat} {i : Int} {j : Nat} (h : ixN n i = some j) : seqIndex? i n = some j ∧ j < n ∧ -(n : Int) ≤ i ∧ i < n := by
  unfold ixN at h
  by_cases h0 : 0 ≤ i
  · rw [if_pos h0] at h
    by_cases h1 : i < n
    · rw [if_pos h1] at h
      have e : i.toNat = j := Option.some.inj h
      exact ⟨by rw [seqIndex_of h0 h1, e], by omega, by omega, h1⟩
    · rw [if_neg h1] at h; cases h
  · rw [if_neg h0] at h
    by_cases h1 : -(n : Int) ≤ i
    · rw [if_pos h1] at h
      have e : (i + n).toNat = j := Option.some.inj h
      exact ⟨by rw [seqIndex_neg (by omega) h1, e], by omega, h1, by omega⟩
    · rw [if_neg h1] at h; cases h
theorem atI_get {α : Type} {xs : List α} {i : Int} {v : α} (h : atI xs i = some v) : ∃ j, seqIndex? i xs.length = some j ∧ xs[j]? = some v ∧ j < xs.length ∧ -(xs.length : Int) ≤ i ∧ i < xs.length := by
  unfold atI at h
  cases e : ixN xs.length i with
  | none => rw [e] at h; cases h
  | some j =>
    rw [e] at h
    obtain ⟨h1, h2, h3, h4⟩ := ixN_seq e
    exact ⟨j, h1, h, h2, h3, h4⟩
theorem atI_nat {α : Type} {xs : List α} {j : Nat} {v : α} (h : xs[j]? = some v) : atI xs (j : Int) = some v := by
  have hj : j < xs.length := (List.getElem?_eq_some_iff.mp h).1
  have e : ixN xs.length (j : Int) = some j := by
    unfold ixN
    rw [if_pos (by omega), if_pos (by omega)]; simp
  unfold atI; rw [e]; exact h
/-- what stands as an index of a plain subscript -/
def PlainIx (b : Expr) : Prop := ∀ o i, subscripted b false o i = operate [o, i] (getItem o i)
/-- a subscript by values -/
def IxR (X : Cx) (r : R2) : Prop :=
  ∀ (value slice : Expr) (pins : List (Addr × Obj)) (s : Shared) (σ : St) (H : Hp) (x y : V) (v u : Value) (Q : VK), Inv X pins σ H s → RelV x v → RelV y u → r x y H Q →
    subscripted slice false v u = operate [v, u] (getItem v u) → wpAny (model X.prog X.w) X.A (subscriptTail value slice v u) (EP X pins σ Q) X.xe s
/-- a call of a builtin's method by values: the receiver, the arguments -/
def MtR (X : Cx) (id : String) (r : V → List V → Hp → VK → Prop) : Prop :=
  ∀ (pins : List (Addr × Obj)) (s : Shared) (σ : St) (H : Hp) (x : V) (xs : List V) (v : Value) (us : List Value) (Q : VK), Inv X pins σ H s → RelV x v → Vals xs us → r x xs H Q →
    wpAny (model X.prog X.w) X.A (call (.builtin id) (v :: us)) (EP X pins σ Q) X.xe s
section
variable {X : Cx} {a b : Expr} {ta tb : TE} {pos : Pos}
/-- a[b] -/
theorem pe_ix {r : R2} (hr : IxR X r) (ha : PE X a ta) (hb : PE X b tb) (hs : PlainIx b) : PE X (.Subscript a b pos) (tOp r ta tb) := by
  intro pins s σ H Q I h
  exact Subscript_ (binT ha hb I h fun v u s2 x y H2 I2 rx ry q => hr a b pins s2 σ H2 x y v u Q I2 rx ry q (hs _ _))

def rIxL (K : PySem.W.Frag) : R2 := fun x y H Q => ∃ p xs i v, x = .ref p ∧ y = .int i ∧ SqL K H p xs ∧ atI xs i = some v ∧ Q v H
def rIxT (K : PySem.W.Frag) : R2 := fun x y H Q => ∃ p xs i v, x = .ref p ∧ y = .int i ∧ SqT K H p xs ∧ atI xs i = some v ∧ Q v H
theorem ix_list : IxR X (rIxL X.K) := by
  intro value slice pins s σ H x y v u Q I rx ry h hs
  obtain ⟨p, xs, i, z, rfl, rfl, hq, he, q⟩ := h
  cases rx
  obtain ⟨t, rfl⟩ := ry
  obtain ⟨its, r, pl, hz⟩ := I.list hq
  obtain ⟨j, h1, h2, h3, h4, h5⟩ := atI_get he
  obtain ⟨w, ew, rw'⟩ := r.get h2
  have hl := r.length
  have hn := line63
  have fin : EP X pins σ Q w s := ⟨z, H, I, rw', q⟩
  by_cases h0 : 0 ≤ i
  · have hj : i.toNat = j := by
      rw [seqIndex_of h0 h5] at h1
      exact Option.some.inj h1
    exact item_listR pl.isList h0 (by omega) (by rw [hj]; simpa using ew) fin hs
  · have hj : (i + (its.toArray.size : Int)).toNat = j := by
      rw [seqIndex_neg (by omega) h4] at h1
      rw [List.size_toArray, ← hl]
      exact Option.some.inj h1
    exact subscriptTail_builtinR (x := w) pl.isList.typeIs slot_list_getitem.lookup
      (wpAny_getItem_list_neg (Q := fun r s' => r = w ∧ EP X pins σ Q r s') pl.isList (by omega) (by rw [List.size_toArray] <;> omega) (by omega) (by rw [hj]; simpa using ew) ⟨rfl, fin⟩) hs
theorem ix_tup : IxR X (rIxT X.K) := by
  intro value slice pins s σ H x y v u Q I rx ry h hs
  obtain ⟨p, xs, i, z, rfl, rfl, hq, he, q⟩ := h
  cases rx
  obtain ⟨t, rfl⟩ := ry
  obtain ⟨its, r, pl, hz⟩ := I.tuple hq
  obtain ⟨j, h1, h2, h3, h4, h5⟩ := atI_get he
  obtain ⟨w, ew, rw'⟩ := r.get h2
  have hl := r.length
  have hn := line63
  have fin : EP X pins σ Q w s := ⟨z, H, I, rw', q⟩
  exact subscriptTail_builtinR (x := w) pl.typeIs slot_tuple_getitem.lookup
    (getItem_tuple (j := j) (Q := fun r s' => r = w ∧ EP X pins σ Q r s') pl (by omega) (by omega) (by rw [List.size_toArray, ← hl]; exact h1) (by simpa using ew) ⟨rfl, fin⟩) hs
/-- the list's object behind a store -/
theorem mapSeq_set (its : List Value) (n j : Nat) (u : Value) : Obj.mapSeq (·.setIfInBounds j u) { cls := .type "list", data := .seq its.toArray n } = { cls := .type "list", data := .seq (its.set j u).toArray n } := by
  simp [Obj.mapSeq]
theorem Inv.lst {pins : List (Addr × Obj)} {σ : St} {H : Hp} {s : Shared} {p : Addr} {xs : List V} (I : Inv X pins σ H s) (h : H p = some (.lst xs)) :
    ∃ (its : List Value) (n : Nat), Vals xs its ∧ s.heap.get? p = some { cls := .type "list", data := .seq its.toArray n } ∧ xs.length ≤ sizeLine := by
  obtain ⟨z, its, n, r, e⟩ := I.hok p _ h
  exact ⟨its, n, r, e, z⟩
/-- the list at p is written by an update of its object -/
theorem Inv.lstUpd {pins : List (Addr × Obj)} {σ : St} {H : Hp} {s : Shared} {p : Addr} {xs ys : List V} {its its' : List Value} {n n' : Nat} {f : Obj → Obj} (I : Inv X pins σ H s) (h : H p = some (.lst xs))
    (ho : s.heap.get? p = some { cls := .type "list", data := .seq its.toArray n }) (hf : f { cls := .type "list", data := .seq its.toArray n } = { cls := .type "list", data := .seq its'.toArray n' }) (r : Vals ys its') (hz : ys.length ≤ sizeLine) (t : Nat) :
    Inv X pins σ (upd H p (.lst ys)) { s with heap := s.heap.update p f, toks := t } := by
  have e : (s.heap.update p f).get? p = some { cls := .type "list", data := .seq its'.toArray n' } := by
    rw [Heap.get?_update_self f ho (by rw [hf] <;> rfl), hf]
  refine I.write (x := p) (e := p) (by rw [h]; trivial) (.inl rfl) (fun b u hb q => (Heap.get?_update_other _ _ (Ne.symm hb)).trans q) ⟨_, e⟩ ?_
  exact ⟨hz, its', n', r, e⟩
def rSetL : V → V → V → Hp → (Hp → Prop) → Prop := fun o i v H Q => ∃ p xs k j, o = .ref p ∧ i = .int k ∧ H p = some (.lst xs) ∧ ixN xs.length k = some j ∧ Q (upd H p (.lst (xs.set j v)))
theorem set_list : PSet X rSetL := by
  intro pins s σ H o i v ov iv u Q I ro ri rv h
  obtain ⟨p, xs, k, j, rfl, rfl, hp, hj, q⟩ := h
  cases ro
  obtain ⟨t, rfl⟩ := ri
  obtain ⟨its, n, r, ho, hz⟩ := I.lst hp
  obtain ⟨h1, h2, h3, h4⟩ := ixN_seq hj
  have hl := r.length
  have hn := line63
  have I' : Inv X pins σ (upd H p (.lst (xs.set j v))) { s with heap := s.heap.update p (Obj.mapSeq (·.setIfInBounds j u)) } :=
    I.lstUpd hp ho (mapSeq_set its n j u) (r.set rv j) (by rw [List.length_set]; exact hz) s.toks
  by_cases h0 : 0 ≤ k
  · have hk : k.toNat = j := by
      rw [seqIndex_of h0 h4] at h1
      exact Option.some.inj h1
    exact PySem.W.ki_setAt ho h0 (by omega) (by rw [List.size_toArray, ← hl]; exact h4) (by rw [hk]; exact ⟨_, I', q⟩)
  · have hk : (k + (its.toArray.size : Int)).toNat = j := by
      rw [seqIndex_neg (by omega) h3] at h1
      rw [List.size_toArray, ← hl]
      exact Option.some.inj h1
    exact PySem.W.ki_setBack ho (by omega) (by rw [List.size_toArray, ← hl]; exact h3) (by omega) (by rw [hk]; exact ⟨_, I', q⟩)

theorem slice_bounds (lo hi : Option Int) (n : Nat) : (sliceBounds lo hi none n).1 = ((HT.sIx n 0 lo : Nat) : Int) ∧ (sliceBounds lo hi none n).2.1 = ((HT.sIx n n hi : Nat) : Int) ∧ (sliceBounds lo hi none n).2.2 = 1 := by
  refine ⟨?_, ?_, rfl⟩
  · cases lo with
    | none => simp [sliceBounds, HT.sIx]
    | some i =>
      simp only [sliceBounds, HT.sIx, Option.getD_none, show (1 : Int) > 0 by decide, if_true]
      by_cases h : i < 0
      · simp only [h, if_true] <;> omega
      · simp only [h, if_false] <;> omega
  · cases hi with
    | none => simp [sliceBounds, HT.sIx]
    | some i =>
      simp only [sliceBounds, HT.sIx, Option.getD_none, show (1 : Int) > 0 by decide, if_true]
      by_cases h : i < 0
      · simp only [h, if_true] <;> omega
      · simp only [h, if_false] <;> omega
theorem slicePick_cut (its : List Value) (lo hi : Option Int) : slicePick its.toArray lo hi none = ((its.drop (HT.sIx its.length 0 lo)).take (HT.sIx its.length its.length hi - HT.sIx its.length 0 lo)).toArray := by
  obtain ⟨h1, h2, h3⟩ := slice_bounds lo hi its.toArray.size
  unfold slicePick
  rw [h1, h2, h3]
  simp only [sliceRange_one, pick_run, List.size_toArray] <;> rfl
/-- xs[lo:hi] of a list: a new list -/
def rSlL (K : PySem.W.Frag) : V → Option Int → Option Int → Hp → VK → Prop := fun x lo hi H Q => ∃ a xs, x = .ref a ∧ SqL K H a xs ∧ ∀ p, H p = none → Q (.ref p) (upd H p (.lst (cutV xs lo hi)))
theorem sl_list : SlR X (rSlL X.K) := by
  intro pins s σ H x v vl vu lo hi sl Q I rx hs pl pu h
  obtain ⟨a, xs, rfl, hx, q⟩ := h
  cases rx
  obtain ⟨its, r, ht, hz⟩ := I.list hx
  have hlen := r.length
  refine ⟨"list", _, slot_list_getitem.lookup, ht.isList.typeIs, ?_⟩
  refine wpAny_getItem_list_slice ht.isList hs pl pu .none (by simp) ?_ (by rw [List.size_toArray] <;> omega)
  rw [slicePick_cut, ← hlen]
  refine ⟨.ref s.heap.objs.size, _, I.laid (t' := s.toks) (o := .lst (cutV xs lo hi)) (fun b ob q => Heap.get?_push_of_some _ q) (Nat.le_refl _) ?_, rfl, q _ (I.hok.fresh (Nat.le_refl _))⟩
  exact ⟨Nat.le_trans (cutV_length xs lo hi) hz, _, 0, (r.drop (HT.sIx xs.length 0 lo)).take (HT.sIx xs.length xs.length hi - HT.sIx xs.length 0 lo), Heap.get?_push_size _ rfl⟩

def flatV : V → Bool
  | .non => true
  | .bl _ => true
  | .int _ => true
  | .str _ => true
  | _ => false
/-- == of flat values -/
def eqV : V → V → Bool
  | .non, .non => true
  | .bl a, .bl b => a == b
  | .bl a, .int b => (if a then 1 else 0) == b
  | .int a, .bl b => a == (if b then 1 else 0)
  | .int a, .int b => a == b
  | .str a, .str b => a == b
  | _, _ => false
theorem eqAt_V {A : Around} {s : Shared} {y x : V} {u v : Value} (ry : RelV y u) (rx : RelV x v) (fy : flatV y = true) (fx : flatV x = true) : SeqAt.EqAt A s u v (eqV y x) := by
  cases y with
  | non =>
    cases ry
    cases x with
    | non => cases rx; exact SeqAt.EqAt.same _
    | bl b => cases rx; exact SeqAt.EqAt.none_bool b
    | int b => obtain ⟨t, rfl⟩ := rx; exact SeqAt.EqAt.none_int b t
    | str b => obtain ⟨t, rfl⟩ := rx; exact SeqAt.EqAt.none_str b t
    | _ => exact absurd (show false = true from fx) Bool.false_ne_true
  | bl a =>
    cases ry
    cases x with
    | non => cases rx; exact SeqAt.EqAt.bool_none a
    | bl b => cases rx; exact SeqAt.EqAt.bool_bool a b
    | int b => obtain ⟨t, rfl⟩ := rx; exact SeqAt.EqAt.bool_int a b t
    | str b => obtain ⟨t, rfl⟩ := rx; exact SeqAt.EqAt.bool_str a b t
    | _ => exact absurd (show false = true from fx) Bool.false_ne_true
  | int a =>
    obtain ⟨t', rfl⟩ := ry
    cases x with
    | non => cases rx; exact SeqAt.EqAt.int_none a t'
    | bl b => cases rx; exact SeqAt.EqAt.int_bool a t' b
    | int b => obtain ⟨t, rfl⟩ := rx; exact SeqAt.EqAt.int_int a t' b t
    | str b => obtain ⟨t, rfl⟩ := rx; exact SeqAt.EqAt.int_str a t' b t
    | _ => exact absurd (show false = true from fx) Bool.false_ne_true
  | str a =>
    obtain ⟨t', rfl⟩ := ry
    cases x with
    | non => cases rx; exact SeqAt.EqAt.str_none a t'
    | bl b => cases rx; exact SeqAt.EqAt.str_bool a t' b
    | int b => obtain ⟨t, rfl⟩ := rx; exact SeqAt.EqAt.str_int a t' b t
    | str b => obtain ⟨t, rfl⟩ := rx; exact SeqAt.EqAt.str_str a t' b t
    | _ => exact absurd (show false = true from fx) Bool.false_ne_true
  | _ => exact absurd (show false = true from fy) Bool.false_ne_true
theorem call_len_seq : CallR X (.builtin "len") (fun xs H Q => ∃ p ys, xs = [.ref p] ∧ (SqL X.K H p ys ∨ SqT X.K H p ys) ∧ Q (.int ys.length) H) := by
  intro pins s σ H xs us Q I r h
  obtain ⟨p, ys, rfl, hq, q⟩ := h
  obtain ⟨u, rfl, rx⟩ := vals1 r
  cases rx
  have hn := line63
  rcases hq with hq | hq
  · obtain ⟨its, r', pl, hz⟩ := I.list hq
    have hlen := r'.length
    exact Calls.call_len_list pl.isList (by simp only [List.size_toArray] <;> omega) ⟨.int ys.length, H, I.tok _, ⟨s.toks + 1, by rw [List.size_toArray, hlen]⟩, q⟩
  · obtain ⟨its, r', pl, hz⟩ := I.tuple hq
    have hlen := r'.length
    exact len_tuple pl (by simp only [List.size_toArray] <;> omega) ⟨.int ys.length, H, I.tok _, ⟨s.toks + 1, by rw [List.size_toArray, hlen]⟩, q⟩
/-- the value is of that builtin type -/
def tyV (K : PySem.W.Frag) (T : String) (x : V) (H : Hp) : Prop := match x with
  | .str _ => T = "str"
  | .int _ => T = "int"
  | .ref p => (T = "list" ∧ ∃ xs, SqL K H p xs) ∨ (T = "tuple" ∧ ∃ o, K.lookup p = some o ∧ o.cls = .type "tuple" ∧ o.dict = none) ∨
      (T = "dict" ∧ ((∃ kvs, H p = some (.dK kvs)) ∨ ∃ kvs, H p = some (.dT kvs))) ∨ (T = "set" ∧ ∃ S n, H p = some (.set S n))
  | _ => False
theorem tyV_is {pins : List (Addr × Obj)} {σ : St} {H : Hp} {s : Shared} {T : String} {x : V} {v : Value} (I : Inv X pins σ H s) (r : RelV x v) (ty : tyV X.K T x H) :
    s.TypeIs v T ∧ ∀ a, v = .ref a → ∃ ob, s.heap.get? a = some ob ∧ ob.dict = none := by
  cases x with
  | str z =>
    obtain ⟨t, rfl⟩ := r
    cases (show T = "str" from ty)
    exact ⟨typeIs_str s z t, fun _ e => nomatch e⟩
  | int i =>
    obtain ⟨t, rfl⟩ := r
    cases (show T = "int" from ty)
    exact ⟨typeIs_int s i t, fun _ e => nomatch e⟩
  | ref p =>
    cases r
    rcases ty with ⟨rfl, xs, hq⟩ | ⟨rfl, o, hk, hc, hd⟩ | ⟨rfl, hk⟩ | ⟨rfl, S, n, hk⟩
    · obtain ⟨its, _, pl, _⟩ := I.list hq
      refine ⟨pl.isList.typeIs, fun a e => ?_⟩
      cases e
      obtain ⟨o, n, e, c, hd, _⟩ := pl
      exact ⟨o, e, hd⟩
    · refine ⟨⟨o, I.kIn p o hk, hc⟩, fun a e => ?_⟩
      cases e
      exact ⟨o, I.kIn _ o hk, hd⟩
    · have z : ∃ o, s.heap.get? p = some o ∧ o.ExactDict := by
        rcases hk with ⟨kvs, hk⟩ | ⟨kvs, hk⟩
        · obtain ⟨_, _, _, _, o, _, _, e, ex, _⟩ := I.hok p _ hk
          exact ⟨o, e, ex⟩
        · obtain ⟨_, _, _, _, o, _, _, e, ex, _⟩ := I.hok p _ hk
          exact ⟨o, e, ex⟩
      obtain ⟨o, e, ex⟩ := z
      refine ⟨⟨o, e, ex.1⟩, fun a e2 => ?_⟩
      cases e2
      exact ⟨o, e, ex.2.1⟩
    · obtain ⟨o, _, _, _, e, ex, _⟩ := I.hok p _ hk
      refine ⟨⟨o, e, ex.1⟩, fun a e2 => ?_⟩
      cases e2
      exact ⟨o, e, ex.2.1⟩
  | _ => exact False.elim ty
def tBM (K : PySem.W.Frag) (T : String) (r : V → List V → Hp → VK → Prop) (to : TE) (t : TA) : TE := fun σ H Q => to σ H fun x H1 => tyV K T x H1 ∧ t σ H1 fun xs H2 => r x xs H2 Q
variable {o e : Expr} {es : List Expr} {to : TE} {t : TA} {name : Str} {apos cpos : Pos} {T id : String} {r : V → List V → Hp → VK → Prop}
theorem pe_bm (pa : PlainAttrs T) (slot : Slot T name id) (hty : typeOf (.builtin id) = pure (.type "method_descriptor")) (hm : MtR X id r) (ho : PE X o to) (ha : PA X (e :: es) t)
    (hbase : attributeBase o name X.env (eval o X.env) = eval o X.env := by rfl)
    (hfew : ((backTo cpos (starEach (e :: es) X.env)).all (fun x => !x.1) && (backToKw cpos (keywordEach [] X.env)).all (fun x => x.1.isSome)
      && decide ((e :: es).length + ([] : List Keyword).length + (if ([] : List Keyword).isEmpty then 0 else 1) < 30)) = true := by rfl)
    (hline : (apos.endLine == cpos.line) = true := by rfl) (hs : starEach (e :: es) X.env = (false, eval e X.env) :: starEach es X.env := by rfl) (hplain : (backTo cpos (starEach es X.env)).any (·.1) = false := by rfl) :
    PE X (.Call (.Attribute o name apos) (e :: es) [] cpos) (tBM X.K T r to t) := by
  intro pins s σ H Q I h
  refine wpAny_Call_method_late hbase hfew hline rfl (thn (ho pins s σ H _ I h) fun v s1 ⟨x, H1, I1, r1, ty, q1⟩ => ?_)
  obtain ⟨h1, h2⟩ := tyV_is I1 r1 ty
  refine ⟨T, id, pa, slot, hty, h1, h2, ?_⟩
  have hA := ha cpos pins s1 σ H1 _ I1 q1
  rw [hs] at hA ⊢
  refine Calls.callWith_builtin (by show (false || (backTo cpos (starEach es X.env)).any (·.1)) = false; rw [hplain] <;> rfl) (Calls.evalArgs_plain ?_)
  exact thn hA fun us s2 ⟨vs, H2, I2, r2, q2⟩ => hm pins s2 σ H2 x vs v us Q I2 r1 r2 q2
end
end L2

namespace L2
open PySem PySem.Spec PyProof.Rows

def MtM (X : Cx) (id : String) (r : V → List V → Hp → VK → Prop) : Prop :=
  ∀ (pins : List (Addr × Obj)) (s : Shared) (σ : St) (H : Hp) (x : V) (xs : List V) (v : Value) (us : List Value) (Q : VK), Inv X pins σ H s → RelV x v → Vals xs us → r x xs H Q →
    wpAny (model X.prog X.w) X.A (call (.builtin id) (v :: us)) (EP X pins σ Q) X.xe s

theorem Vals.one : ∀ {x : V} {us : List Value}, Vals [x] us → ∃ u, us = [u] ∧ RelV x u
  | _, _, .cons r .nil => ⟨_, rfl, r⟩
theorem Vals.two : ∀ {x y : V} {us : List Value}, Vals [x, y] us → ∃ u v, us = [u, v] ∧ RelV x u ∧ RelV y v
  | _, _, _, .cons r (.cons q .nil) => ⟨_, _, rfl, r, q⟩
section
variable {X : Cx} {pins : List (Addr × Obj)} {σ : St} {H : Hp} {s : Shared} {l b : Addr} {xs ys zs : List V}

theorem Inv.lset {its its' : List Value} {n : Nat} {f : Array Value → Array Value} {t' : Nat} (I : Inv X pins σ H s) (hH : H l = some (.lst xs))
    (e : s.heap.get? l = some { cls := .type "list", data := .seq its.toArray n }) (hf : f its.toArray = its'.toArray) (hv : Vals ys its') (hz : ys.length ≤ sizeLine) :
    Inv X pins σ (upd H l (.lst ys)) { s with heap := s.heap.update l (Obj.mapSeq f), toks := t' } := by
  have q := PySem.IsL.update e f
  rw [hf] at q
  refine I.write (x := l) (e := l) (by rw [hH]; exact trivial) (.inl rfl) (fun b' u hb hu => (Heap.get?_update_other s.heap (Obj.mapSeq f) (Ne.symm hb)).trans hu) ⟨_, q⟩ ?_
  exact ⟨hz, its', _, hv, q⟩
theorem Inv.lnew {its : List Value} {t' : Nat} (I : Inv X pins σ H s) (hv : Vals ys its) (hz : ys.length ≤ sizeLine) :
    Inv X pins σ (upd H s.heap.objs.size (.lst ys)) { s with heap := s.heap.push { cls := .type "list", data := .seq its.toArray }, toks := t' } :=
  I.laid (fun _ _ q => Heap.get?_push_of_some _ q) (Nat.le_refl _) ⟨hz, its, 0, hv, Heap.get?_push_size _ rfl⟩
theorem Inv.fresh (I : Inv X pins σ H s) : H s.heap.objs.size = none := I.hok.fresh (Nat.le_refl _)
theorem Inv.lstM (I : Inv X pins σ H s) (hH : H l = some (.lst xs)) : xs.length ≤ sizeLine ∧ ∃ (its : List Value) (n : Nat), Vals xs its ∧ xs.length = its.length ∧ s.heap.get? l = some { cls := .type "list", data := .seq its.toArray n } := by
  obtain ⟨z, its, n, r, e⟩ := I.hok l _ hH
  exact ⟨z, its, n, r, r.length, e⟩

end

section
variable {X : Cx}

def rAppend : V → List V → Hp → VK → Prop := fun x vs H Q => ∃ l xs y, x = .ref l ∧ vs = [y] ∧ H l = some (.lst xs) ∧ xs.length < sizeLine ∧ Q .non (upd H l (.lst (xs ++ [y])))
theorem mt_append : MtM X "list.append" rAppend := by
  intro pins s σ H x vs v us Q I rx rv h
  obtain ⟨l, xs, y, rfl, rfl, hH, hz, q⟩ := h
  cases rx
  obtain ⟨u, rfl, ru⟩ := rv.one
  obtain ⟨z, its, n, r, hl, e⟩ := I.lstM hH
  refine call_meets F.slot_list_append ⟨_, e, rfl⟩ F.entry_list_append (F.args_list_append_2 _ _) (PySem.list_append l its.toArray n u (by rw [List.size_toArray]; omega)) ⟨e, ?_⟩
  refine ⟨.non, _, I.lset (its' := its ++ [u]) hH e (by simp) (r.append (.cons ru .nil)) ?_, rfl, q⟩
  rw [List.length_append, List.length_singleton]
  omega

def rCat : R2 := fun x y H Q => ∃ l b xs zs, x = .ref l ∧ y = .ref b ∧ H l = some (.lst xs) ∧ H b = some (.lst zs) ∧ xs.length + zs.length ≤ sizeLine ∧ ∀ p, H p = none → Q (.ref p) (upd H p (.lst (xs ++ zs)))
theorem op_cat : OpR X (binaryOp .Add) rCat := by
  intro pins s σ H x y v u Q I rx ry h
  obtain ⟨l, b, xs, zs, rfl, rfl, hH, hB, hz, q⟩ := h
  cases rx
  cases ry
  obtain ⟨z, its, n, r, hl, e⟩ := I.lstM hH
  obtain ⟨z2, its2, n2, r2, hl2, e2⟩ := I.lstM hB
  refine PySem.P.add_list e e2 ?_ (by rw [List.size_toArray, List.size_toArray]; omega)
  have ea : its.toArray ++ its2.toArray = (its ++ its2).toArray := by simp
  rw [ea]
  exact ⟨.ref _, _, I.lnew (t' := s.toks) (r.append r2) (by rw [List.length_append]; omega), rfl, q _ I.fresh⟩
end

section
variable {prog : Program} {w : World} {A : Around} {E : Value → Shared → Prop} {s : Shared}
end

section
variable {X : Cx}
end
end L2

namespace Att
open PySem PySem.W PySem.Calls PyProof.Rows

theorem ints_of_wellAll {P : Params} {h : Heap} : ∀ (ns : List Int) (vs : List Value), WellAll P h vs (ns.map WData.int) → IntsAre vs ns := by
  intro ns
  induction ns with
  | nil =>
    intro vs w
    rw [List.map_nil] at w
    cases w
    exact .nil
  | cons n ns ih =>
    intro vs w
    rw [List.map_cons] at w
    cases w with
    | cons a b =>
      cases a
      exact .cons _ _ (ih _ b)

theorem script_of {l : OpenLaw} {n : Nat} (hn : l.most = some n) {P : Params} {h : Heap} {args : List WData} {vals : List Value}
    (hpre : l.row.toRowW.claim.pre args = true) (hwl : WellAll P h vals args) :
    ∃ a vs ns, vals = [Value.ref a] ∧ args = [WData.list (ns.map WData.int)] ∧ h.get? a = some { cls := .type "list", data := .seq vs.toArray } ∧ IntsAre vs ns ∧ ns.length ≤ n := by
  have hsh : WShape.hasAll [] args [.list .int] = true := (pre_splitW hpre).1
  have hc : l.pre.holds [] { args := args } = true := (pre_splitW hpre).2
  obtain ⟨d, r, rfl, h1, h2⟩ := hasAllW_cons hsh
  obtain rfl := hasAllW_nil h2
  obtain ⟨xs, rfl, h3⟩ := hasW_list h1
  obtain ⟨ns, rfl⟩ := items_int h3
  have hlen : ns.length ≤ n := by
    unfold OpenLaw.pre at hc
    have h4 : (WTm.not (.lt (.lit (.int (n : Int))) (.len (.arg 0)))).holds [] { args := [.list (ns.map .int)] } = true := by
      have h4 := (holds_andW hc).1
      rw [hn] at h4
      exact h4
    have h5 := condW_of h4 (w_not (w_lt w_lit (w_len_list (w_arg rfl))))
    rw [List.length_map] at h5
    refine Nat.le_of_not_lt fun q => ?_
    have q' : (n : Int) < ((ns.length : Nat) : Int) := by omega
    first
      | (rw [decide_eq_true q'] at h5; exact absurd h5 (by decide))
      | (simp at h5; omega)
  cases hwl with
  | cons w1 w2 =>
    cases w2
    cases w1 with
    | list ho hall => exact ⟨_, _, ns, rfl, rfl, ho, ints_of_wellAll ns _ hall, hlen⟩

theorem post_true (l : OpenLaw) (args : List WData) : l.row.toRowW.claim.post args (.bool true) args = true :=
  postW_of (r := l.row.toRowW) (X := (true == true))
    (show WShape.has [] (.bool true) .bool = true by first | rfl | decide | simp [WShape.has, WShape.arms, WShape.armsAll])
    (show (WTm.eq .res (.lit (.bool true))).value [] { args := args, res := some (.bool true), after := args } = some (.bool (true == true)) from w_eq_bool (w_res rfl) w_lit) rfl

/-- the same from a codeAny of the CALL (for a layer whose function contracts speak of calls) -/
theorem attach_call {l : OpenLaw} {n : Nat} {q : Program} {loose : List Str} {XP : (Str → Option Value) → Heap → Prop} {YP : World → Heap → Prop} {d : DefRec}
    (hn : l.most = some n) (hdf : d.params.defaults = [])
    (call : ∀ (w : World) (s₀ s₁ : Shared) (mg mb : Str → Option Value) (fa : Addr) (o : Obj) (pm cd doc : Value) (a : Addr) (vs : List Value) (ns : List Int),
      Ground q loose [] XP w s₀ mg mb s₁.heap → YP w s₁.heap →
      s₁.heap.get? fa = some o → o.data = .func (docDef d.name d.params d.body d.scope pm cd doc) → s₁.heap.CodeRec cd d.name → mg d.name = some (.ref fa) →
      s₁.heap.get? a = some { cls := .type "list", data := .seq vs.toArray } → IntsAre vs ns → ns.length ≤ n → s₁.gens = #[] →
      codeAny (model l.prog w) callerA (.call (.ref fa) ⟨[.ref a], []⟩) (fun r s' => r = .ok (.ret (.bool true)) ∧ OldK s₁.heap s'.heap ∧ s'.os = s₁.os ∧ AllBare s'.gens) s₁) :
    WalkO q loose XP YP l.row.toRowW d [] (fun f vs => PySem.call f vs) := by
  intro w s₀ s₁ mg mb G Y fa o pm cd doc dV kV ho hd hcd hD hmg hg args vals as hpre hlay hrd hwl hlo
  obtain rfl : dV = .none := Dflts.none hD hdf
  obtain rfl : kV = .none := Dflts.noKw hD
  obtain ⟨a, vs, ns, rfl, rfl, hobj, hints, hlen⟩ := script_of hn hpre hwl
  refine enter_call (codeAny_mono (call w s₀ s₁ mg mb fa o pm cd doc a vs ns G Y ho (fd_plain hd) hcd hmg hobj hints hlen hg) fun r s' hq => ?_)
  obtain ⟨rfl, h2, h3, h4⟩ := hq
  exact ⟨.inl ⟨.bool true, .bool true, [], rfl, fun _ => rfl, .bool true, post_true l _, fun _ => ⟨List.Pairwise.nil, fun _ hm => (nomatch hm)⟩⟩, h2, h3, h4⟩

section
variable {prog : Program} {w : World} {A : Around} {E : Value → Shared → Prop} {s : Shared} {K : Frag}

end
end Att

namespace L2
open PySem PySem.Spec PyProof.Rows

theorem vals_ints : ∀ {vs : List Value} {ns : List Int}, IntsAre vs ns → Vals (ns.map V.int) vs
  | _, _, .nil => .nil
  | _, _, .cons n t h => .cons ⟨t, rfl⟩ (vals_ints h)

/-- nothing is tracked but the script, known to the object (or it is an object of the module) -/
def Only (H : Hp) : Prop := ∀ b, H b = none ∨ ∃ o xs, H b = some (.frz o (.lst xs))

/-- THE HEAD: the law's promise, at the heap behind the top. F, the promise of the law's def, may use that base is part of the heap (so K.In base, base.Ns mainGlobals mg stand in Mod) -/
theorem law_call {P : Program} {w : World} {K : PySem.W.Frag} {mg mb : Str → Option Value} {CX : CXT} {k : Nat} {fa a : Addr} {fd : FuncData} {x : Str} {sp : Sp} {s₁ : Shared} {vs : List Value} {ns : List Int}
    (KX : K.In s₁.heap) (hns : s₁.heap.Ns mainGlobals mg) (hb : s₁.heap.Ns builtinsNs mb) (hbb : ∀ x : Str, x ≠ "__name__" → mb x = bootBuiltins x) (hlim : s₁.heap.NoLimit) (hg : s₁.gens = #[])
    (ha : s₁.heap.get? a = some { cls := .type "list", data := .seq vs.toArray }) (hi : IntsAre vs ns) (hl : ns.length ≤ sizeLine) (hr : Room k callerA)
    (F : ∀ base : Heap, K.In base → base.Ns mainGlobals mg → FnOk P w K mg base CX k fa fd [x] sp) (hbind : ∀ (s : Shared) (u : Value), BindsTo s fd ⟨[u], []⟩ [(x, u)])
    (hsp : ∀ H : Hp, Only H → SqL K H a (ns.map V.int) → sp [.ref a] H (fun v _ => v = .bl true) fun _ _ _ => False)
    (hCX : ∀ H e s', CX [] H s₁ (fun _ _ _ => False) e s' → False) :
    codeAny (model P w) callerA (.call (.ref fa) ⟨[.ref a], []⟩) (fun r s' => r = .ok (.ret (.bool true)) ∧ OldK s₁.heap s'.heap ∧ s'.os = s₁.os ∧ AllBare s'.gens) s₁ := by
  have rv := vals_ints hi
  have lenV := hi.length
  -- from an abstract heap in which nothing but the script may be tracked
  have core : ∀ H : Hp, Only H → SqL K H a (ns.map V.int) → HOk P w H s₁.heap → (∀ b, H b ≠ none → b = a) → (H a ≠ none → K.lookup a = none) →
      codeAny (model P w) callerA (.call (.ref fa) ⟨[.ref a], []⟩) (fun r s' => r = .ok (.ret (.bool true)) ∧ OldK s₁.heap s'.heap ∧ s'.os = s₁.os ∧ AllBare s'.gens) s₁ := by
    intro H hO hS hok hA hK
    have base_of : ∀ {b : Addr} {o : Obj}, s₁.heap.get? b = some o → H b = none → (hidT s₁.heap H).get? b = some o := fun e n => hidT_get e n
    have noA : ∀ {b : Addr} {o : Obj} {es : Array DictEntry} {ep : Nat}, s₁.heap.get? b = some o → o.data = .dict es ep → H b = none := fun {b o es ep} e d => by
      cases q : H b with
      | none => rfl
      | some u =>
        have e' : b = a := hA b (by rw [q]; simp)
        subst e'
        rw [ha] at e; cases e
        have d' : Data.seq vs.toArray _ = Data.dict es ep := d
        cases d'
    have nsK : ∀ {b : Addr} {m : Str → Option Value}, s₁.heap.Ns b m → (hidT s₁.heap H).Ns b m := fun {b m} ⟨o, es, ep, e, d, r⟩ => ⟨o, es, ep, base_of e (noA e d), d, r⟩
    have hKb : K.In (hidT s₁.heap H) := fun b o e => base_of (KX b o e) (by
      cases q : H b with
      | none => rfl
      | some u =>
        have e' : b = a := hA b (by rw [q]; simp)
        subst e'
        rw [hK (by rw [q]; simp)] at e; cases e)
    have hM : Mod K mg (hidT s₁.heap H) := ⟨hKb, nsK hns, ⟨mb, nsK hb, hbb⟩, let ⟨mc, h1, h2⟩ := hlim; ⟨mc, nsK h1, h2⟩⟩
    have e0 : Env0 P w K mg (hidT s₁.heap H) callerA [] s₁ H := ⟨rfl, hM, fun b o e => of_hidT e, Nat.le_of_eq (hidT_size _ _), trivial, fun b hb => absurd (show b ∈ ([] : List Addr) from hb) (by simp), hok, .of_eq hg⟩
    refine codeAny_mono ((F _ hKb (nsK hns)).run callerA [] s₁ H ⟨[.ref a], []⟩ [.ref a] [.ref a] _ _ hr e0 (hbind s₁ (.ref a)) (.cons rfl .nil) (hsp H hO hS)) fun r s' h => ?_
    cases r with
    | error e => exact (hCX H e s' h).elim
    | ok fl =>
      cases fl with
      | next => exact False.elim h
      | brk => exact False.elim h
      | cont => exact False.elim h
      | ret u =>
        obtain ⟨v, H', os, bare, un, hok', r', q⟩ := h
        have q' : v = .bl true := q
        subst q'
        obtain rfl : u = Value.bool true := r'
        refine ⟨rfl, OldK.of_keep fun b o e => ?_, os, bare⟩
        cases q : H b with
        | none => exact un.keep b o e q (by intro z; exact absurd (show b ∈ ([] : List Addr) from z) (by simp)) (by simp)
        | some u =>
          rcases hO b with z | ⟨ob, xs, z⟩
          · rw [q] at z; cases z
          · have z2 := un.frzs b ob _ z
            obtain ⟨e1, _⟩ := hok b _ z
            obtain ⟨e2, _⟩ := hok' b _ z2
            rw [e] at e1; cases e1
            exact e2
  cases hk : K.lookup a with
  | some o =>
    -- the script is one of the module's own objects
    have e := KX a o hk
    rw [ha] at e
    cases e
    refine core (fun _ => none) (fun _ => .inl rfl) (.inr ⟨_, vs.toArray, _, hk, rfl, rfl, rfl, by rw [List.size_toArray, lenV]; exact hl, by simpa using rv⟩) (fun b u z => by have z' : (none : Option HO) = some u := z; cases z') (fun b z => absurd rfl z) fun z => absurd rfl z
  | none =>
    refine core (fun b => if b = a then some (.frz { cls := .type "list", data := .seq vs.toArray } (.lst (ns.map V.int))) else none) (fun b => ?_) (.inl (.inr ⟨{ cls := .type "list", data := .seq vs.toArray }, if_pos rfl⟩)) (fun b u z => ?_) (fun b z => ?_) fun _ => hk
    · by_cases hb : b = a
      · exact .inr ⟨_, _, if_pos hb⟩
      · exact .inl (if_neg hb)
    · by_cases hb : b = a
      · have z' := (if_pos hb).symm.trans z
        cases z'
        subst hb
        exact ⟨ha, by rw [List.length_map]; exact hl, vs, _, rv, ha⟩
      · have z' := (if_neg hb).symm.trans z
        cases z'
    · by_cases hb : b = a
      · exact hb
      · exact absurd (if_neg hb) z
end L2

namespace L2
open PySem PySem.Spec PyProof.Rows

/-- the goal that k_head leaves (case hc), from the law's promise. F gives the function object fd (K's own) once, then the promise over every base -/
theorem walk_of {l : PySem.W.OpenLaw} {n k : Nat} {q : Program} {loose : List Str} {XP : (Str → Option Value) → Heap → Prop} {YP : World → Heap → Prop} {d : DefRec} {K : Params → PySem.W.Frag} {CX : World → CXT} {sp : World → Sp} {x : Str}
    (hn : l.most = some n) (hn2 : n ≤ sizeLine) (hdf : d.params.defaults = []) (hr : Room k callerA)
    (hY : ∀ (w : World) (h : Heap), YP w h → (K w.params).In h)
    (F : ∀ (w : World) (mg : Str → Option Value) (fa : Addr) (h : Heap), (K w.params).In h → h.Ns mainGlobals mg → mg d.name = some (.ref fa) →
      ∃ fd : FuncData, (∀ (s : Shared) (u : Value), BindsTo s fd ⟨[u], []⟩ [(x, u)]) ∧
        ∀ base : Heap, (K w.params).In base → base.Ns mainGlobals mg → FnOk l.prog w (K w.params) mg base (CX w) k fa fd [x] (sp w))
    (hsp : ∀ (w : World) (H : Hp) (a : Addr) (ns : List Int), ns.length ≤ n → Only H → SqL (K w.params) H a (ns.map V.int) → sp w [.ref a] H (fun v _ => v = .bl true) fun _ _ _ => False)
    (hCX : ∀ (w : World) (H : Hp) (s : Shared) (e : Value) (s' : Shared), CX w [] H s (fun _ _ _ => False) e s' → False) :
    PySem.W.WalkO q loose XP YP l.row.toRowW d [] (fun f vs => PySem.call f vs) := by
  refine Att.attach_call hn hdf fun w s₀ s₁ mg mb fa o pm cd doc a vs ns G Y ho hd hcd hmg hobj hints hlen hg => ?_
  have KX := hY w _ Y
  obtain ⟨fd, hb, hF⟩ := F w mg fa _ KX G.T.g hmg
  exact law_call KX G.T.g G.T.b G.T.builtins G.T.nolimit hg hobj hints (Nat.le_trans hlen hn2) hr hF hb (fun H hO hS => hsp w H a ns hlen hO hS) fun H e s' => hCX w H s₁ e s'
end L2

namespace L2
open PySem PySem.Spec PyProof.Rows

def defArgs (s : Stmt) : Arguments := match s with
  | .FunctionDef _ a _ _ _ _ _ _ _ _ => a
  | _ => { posonlyargs := [], args := [], vararg := none, kwonlyargs := [], kw_defaults := [], kwarg := none, defaults := [] }
def defBody (s : Stmt) : List Stmt := match s with
  | .FunctionDef _ _ b _ _ _ _ _ _ _ => b
  | _ => []
def defScope (s : Stmt) : Scope := match s with
  | .FunctionDef _ _ _ _ _ _ sc _ _ _ => sc
  | _ => { kind := .function, names := [], isGenerator := false, isCoroutine := false }

abbrev CX0 : CXT := fun _ _ _ _ _ _ => False
abbrev E0 : XK := fun _ _ _ => False
theorem pass0 {X : Cx} : Passes CX0 X E0 := fun _ _ _ _ _ _ _ h => h.elim

structure Fun (K : PySem.W.Frag) (x qual : Str) (st : Stmt) (f : Addr) (fd : FuncData) : Prop where
  ex : ∃ (oc : Value) (od : Option Addr) (kV doc pm : Value) (an : Option Addr) (cdv ct : Value) (osl : Array (Option Value)),
    fd = PySem.W.fnOf x qual (defArgs st) (defBody st) (defScope st) .none kV doc pm an cdv ct ∧ K.lookup f = some ⟨oc, od, .func fd, osl⟩ ∧ PySem.W.codeIn K cdv qual = true
  kp : PySem.W.keepIn K (.ref f) = true
section
variable {P : Program} {w : World} {K : PySem.W.Frag} {mg : Str → Option Value} {base : Heap}
/-- THE RULE for a def: its body as a term of rules, and the reading of that term -/
theorem Fun.ok {x qual : Str} {st : Stmt} {f : Addr} {fd : FuncData} {N ps : List Str} {k : Nat} {sp : Sp} (F : Fun K x qual st f fd) (S : FnScope N ps (defScope st)) (len : ∀ vs H Q E, sp vs H Q E → vs.length = ps.length)
    (hbody : ∀ (cdv : Value) (A : Around) (outer : List Env) (s : Shared) (H : Hp) (vs : List V) (Q : VK) (E : XK), Room k (A.deeper (envOfC qual (defScope st) s.heap.objs.size f cdv)) → sp vs H Q E →
      ∃ t, PSs (cxOf CX0 P w K mg base N qual (defScope st) f cdv A outer s H E).nox (defBody st) t ∧ t { nx := fun _ H' => Q .non H', rt := Q } (start N vs) H) : FnOk P w K mg base CX0 (k + 1) f fd ps sp := by
  obtain ⟨oc, od, kV, doc, pm, an, cdv, ct, osl, rfl, lk, hcd⟩ := F.ex
  refine fn_of lk hcd S len fun A outer s H vs Q E hr hsp => ?_
  obtain ⟨t, h, q⟩ := hbody cdv A outer s H vs Q E hr hsp
  exact ⟨t, h.nox, q⟩
/-- how its arguments bind (no defaults): h is «fun _ _ _ _ _ _ us hl => match us, hl with | [_, _], _ => rfl», one _ a parameter -/
theorem Fun.binds {x qual : Str} {st : Stmt} {f : Addr} {fd : FuncData} {ps : List Str} (F : Fun K x qual st f fd)
    (h : ∀ (kV doc pm : Value) (an : Option Addr) (cdv ct : Value) (us : List Value), us.length = ps.length → bindArgs (PySem.W.fnOf x qual (defArgs st) (defBody st) (defScope st) .none kV doc pm an cdv ct) ⟨us, []⟩ = pure (ps.zip us)) : Binds K fd ps [] := by
  obtain ⟨oc, od, kV, doc, pm, an, cdv, ct, osl, rfl, lk, hcd⟩ := F.ex
  exact .all (h kV doc pm an cdv ct)
theorem fun_mk {x qual : Str} {st : Stmt} {f : Addr} {oc : Value} {od an : Option Addr} {osl : Array (Option Value)} {kV doc pm cdv ct : Value} (l : K.lookup f = some ⟨oc, od, .func (PySem.W.fnOf x qual (defArgs st) (defBody st) (defScope st) .none kV doc pm an cdv ct), osl⟩)
    (c : PySem.W.codeIn K cdv qual = true) (k : PySem.W.keepIn K (.ref f) = true) : Fun K x qual st f (PySem.W.fnOf x qual (defArgs st) (defBody st) (defScope st) .none kV doc pm an cdv ct) := ⟨⟨oc, od, kV, doc, pm, an, cdv, ct, osl, rfl, l, c⟩, k⟩
end
theorem small1000 {n : Nat} (h : n ≤ 1000) : n < sizeLine := Nat.lt_of_le_of_lt h (by decide)

section
variable {X : Cx}
theorem pv (i : Nat) {x : Str} {pos : Pos} (hN : X.N[i]? = some x := by rfl) (hv : Vis X.env.scope x := by first | exact Or.inl rfl | exact Or.inr (Or.inl rfl) | exact Or.inr (Or.inr rfl)) (hd : (x == ("__debug__" : Str)) = false := by decide)
    (hcd : (x == ("__classdict__" : Str)) = false := by decide) : PE X (.Name x pos) (tVar i) := pe_var hN hv hd hcd
end

theorem iteF {A B : Prop} (h : B) : if false = true then A else B := by
  rw [if_neg Bool.false_ne_true]
  exact h
theorem iteT {A B : Prop} (h : A) : if true = true then A else B := by
  rw [if_pos rfl]
  exact h
theorem ite2 {c A B : Prop} [Decidable c] (h1 : c → A) (h2 : ¬ c → B) : if c then A else B := by
  by_cases h : c
  · rw [if_pos h]
    exact h1 h
  · rw [if_neg h]
    exact h2 h
theorem iteNS {c A B : Prop} [Decidable c] (hc : c) (h : B) : if (!decide c) = true then A else B := by
  rw [decide_eq_true hc]
  exact iteF h

/-- all that was tracked is as it was -/
def Same (H H' : Hp) : Prop := ∀ b o, H b = some o → H' b = some o
theorem Same.refl (H : Hp) : Same H H := fun _ _ h => h
theorem Same.trans {H H1 H2 : Hp} (a : Same H H1) (b : Same H1 H2) : Same H H2 := fun c o h => b c o (a c o h)
theorem Same.free {H H' : Hp} (e : Same H H') {l : Addr} (h : H' l = Option.none) : H l = Option.none := by
  cases q : H l with
  | none => rfl
  | some o =>
    rw [e l o q] at h
    cases h
theorem Same.seq {K : PySem.W.Frag} {H H' : Hp} {a : Addr} {xs : List V} (e : Same H H') (h : SqL K H a xs) : SqL K H' a xs := by
  rcases h with (h | ⟨o, h⟩) | h
  · exact .inl (.inl (e _ _ h))
  · exact .inl (.inr ⟨o, e _ _ h⟩)
  · exact .inr h

end L2

namespace L2
open PySem PySem.Spec PyProof.Rows
section
variable {X : Cx}
end
section
variable {κ : Type} [DecidableEq κ]
end
end L2

namespace L2
open PySem PySem.Spec PyProof.Rows
section
variable {prog : Program} {w : World} {A : Around} {E : Value → Shared → Prop} {s : Shared}
end
section
variable {prog : Program} {w : World} {A : Around} {E : Value → Shared → Prop} {s : Shared}
end
end L2

namespace L2
open PySem PySem.Spec PyProof.Rows
def cloGo (env : Env) : List (Str × NameKind) → List (Str × Addr) → List (Str × Addr)
  | [], acc => acc
  | (n, k) :: r, acc => if k == .free then (match env.cells.lookup n with | some a => cloGo env r ((n, a) :: acc) | none => cloGo env r acc) else cloGo env r acc
theorem closure_ok {scope : Scope} {env : Env} (h : ∀ y ∈ scope.names, y.2 = .free → ∃ c, env.cells.lookup y.1 = some c) : closureFor scope env = pure (cloGo env scope.names []) := by
  unfold closureFor
  have key : ∀ (l : List (Str × NameKind)) (acc : List (Str × Addr)), (∀ y ∈ l, y.2 = .free → ∃ c, env.cells.lookup y.1 = some c) →
      (forIn l acc fun (x : Str × NameKind) (cs : List (Str × Addr)) => (match x with | (name, kind) => if (kind == NameKind.free) = true then (do let a ← cellOf env name; pure (ForInStep.yield ((name, a) :: cs))) else pure (ForInStep.yield cs) : Sem (ForInStep (List (Str × Addr))))) = (pure (cloGo env l acc) : Sem _) := by
    intro l
    induction l with
    | nil => intro acc _; rfl
    | cons x r ih =>
      intro acc hl
      obtain ⟨n, k⟩ := x
      rw [List.forIn_cons]
      unfold cloGo
      by_cases hk : (k == NameKind.free) = true
      · obtain ⟨c, hc⟩ := hl (n, k) List.mem_cons_self (by simpa using hk)
        have hc' : env.cells.lookup n = some c := hc
        have e : cellOf env n = pure c := by unfold cellOf; rw [hc']
        simp only [hk, if_true, e, hc']
        exact ih _ fun y hy => hl y (List.mem_cons_of_mem _ hy)
      · simp only [hk]
        exact ih _ fun y hy => hl y (List.mem_cons_of_mem _ hy)
  have := key scope.names [] h
  exact (congrArg (fun (m : Sem (List (Str × Addr))) => m >>= fun z => pure z) this).trans rfl
theorem cloGo_sub (env : Env) : ∀ (l : List (Str × NameKind)) (acc : List (Str × Addr)) (y : Str) (c : Addr), (cloGo env l acc).lookup y = some c → acc.lookup y = some c ∨ env.cells.lookup y = some c
  | [], _, _, _, h => .inl h
  | (n, k) :: r, acc, y, c, h => by
    unfold cloGo at h
    split at h
    · split at h
      · rename_i a ha
        rcases cloGo_sub env r _ y c h with z | z
        · rw [List.lookup_cons] at z
          split at z
          · rename_i e
            cases z
            have e' : y = n := by simpa using e
            subst e'
            exact .inr ha
          · exact .inl z
        · exact .inr z
      · exact cloGo_sub env r _ y c h
    · exact cloGo_sub env r _ y c h
theorem cloGo_acc (env : Env) : ∀ (l : List (Str × NameKind)) (acc : List (Str × Addr)) (y : Str), (acc.lookup y).isSome = true → ((cloGo env l acc).lookup y).isSome = true
  | [], _, _, h => h
  | (n, k) :: r, acc, y, h => by
    unfold cloGo
    split
    · split
      · refine cloGo_acc env r _ y ?_
        rw [List.lookup_cons]
        split
        · rfl
        · exact h
      · exact cloGo_acc env r _ y h
    · exact cloGo_acc env r _ y h
theorem cloGo_has (env : Env) : ∀ (l : List (Str × NameKind)) (acc : List (Str × Addr)) (y : Str), (y, NameKind.free) ∈ l → (env.cells.lookup y).isSome = true → ((cloGo env l acc).lookup y).isSome = true
  | [], _, _, h, _ => nomatch h
  | (n, k) :: r, acc, y, h, hc => by
    unfold cloGo
    rcases List.mem_cons.mp h with e | h
    · obtain ⟨e1, e2⟩ := Prod.mk.inj e
      subst e1
      subst e2
      rw [if_pos (by decide)]
      split
      · refine cloGo_acc env r _ y ?_
        rw [List.lookup_cons]
        simp
      · rename_i e
        rw [e] at hc
        cases hc
    · split
      · split
        · exact cloGo_has env r _ y h hc
        · exact cloGo_has env r _ y h hc
      · exact cloGo_has env r _ y h hc
end L2

namespace L2
open PySem PySem.Spec PyProof.Rows
def hideN (x : Str) (N : List Str) : List Str := N.map fun y => if y = x then "" else y
/-- the context of a comprehension's block; its names: the clause's own, then the names of the text around it -/
def cxComp (X : Cx) (x : Str) (scope : Scope) (C : Addr) (s₀ : Shared) (H₀ : Hp) (fp : List Addr) : Cx where
  prog := X.prog
  w := X.w
  K := X.K
  mg := X.mg
  base := X.base
  A := X.A
  N := x :: hideN x X.N
  s₀ := s₀
  H₀ := H₀
  env := compEnvC scope (cloGo X.env scope.names []) C X.env
  outer := X.stack
  stack := X.stack
  ex := fp
  fn := fun _ => false
  calm := X.calm
  pn := []
  xe := fun _ _ => False
theorem relabel_lookup (env : Env) (y : Str) : ∀ names : List (Str × NameKind),
    (names.map fun (n, k) => if (k == NameKind.free && env.scope.kind == .function && env.kindOf n == some .cell) then (n, NameKind.cell) else (n, k)).lookup y =
      (names.lookup y).map fun k => if (k == NameKind.free && env.scope.kind == .function && env.kindOf y == some .cell) then NameKind.cell else k
  | [] => rfl
  | (n, k) :: r => by
    have ih := relabel_lookup env y r
    rw [List.map_cons]
    show List.lookup y ((if (k == NameKind.free && env.scope.kind == .function && env.kindOf n == some .cell) = true then (n, NameKind.cell) else (n, k)) :: _) = _
    have e0 : (if (k == NameKind.free && env.scope.kind == .function && env.kindOf n == some .cell) = true then (n, NameKind.cell) else (n, k)) = (n, if (k == NameKind.free && env.scope.kind == .function && env.kindOf n == some .cell) = true then NameKind.cell else k) := by split <;> rfl
    rw [e0, List.lookup_cons, List.lookup_cons]
    cases hx : y == n with
    | true =>
      have e : y = n := by simpa using hx
      subst e
      rfl
    | false => exact ih
/-- what is asked of the block's scope: all of it is read off the text -/
structure CompScope (X : Cx) (x : Str) (scope : Scope) : Prop where
  kind : scope.kind = .function
  nocell : ∀ y ∈ scope.names, y.2 ≠ .cell
  names : ∀ y ∈ scope.names, y.2 = .local → scope.names.lookup y.1 = some .local
  loc : scope.names.lookup x = some .local
  free : ∀ y ∈ scope.names, y.2 = .free → X.env.kindOf y.1 = some .cell ∨ X.env.kindOf y.1 = some .free
  nd : (x :: hideN x X.N).Nodup
  only : ∀ y ∈ hideN x X.N, scope.names.lookup y ≠ some .local
  noE : scope.names.lookup ("" : Str) = none

section
variable {X : Cx} {pins : List (Addr × Obj)} {σ : St} {H : Hp} {s : Shared} {x : Str} {scope : Scope} {fp : List Addr} {C : Addr}
theorem comp_start {h' : Heap} {tk : Nat} {m : Str → Option Value} (I : Inv X pins σ H s) (S : CompScope X x scope) (hf : ∀ b ∈ fp, FpOk X pins H b) (hlt : ∀ b ∈ fp, b < s.heap.objs.size) (hC : s.heap.objs.size ≤ C) (hn : h'.Ns C m)
    (hk : ∀ b o, s.heap.get? b = some o → h'.get? b = some o) : Inv (cxComp X x scope C s H fp) [] (none :: σ) H { s with heap := h', toks := tk } := by
  have cl : ∀ y c, (cloGo X.env scope.names []).lookup y = some c → X.env.cells.lookup y = some c := fun y c e => by
    rcases cloGo_sub X.env scope.names [] y c e with z | z
    · cases z
    · exact z
  have cellK : ∀ c v, s.heap.IsCell c v → h'.IsCell c v := fun c v ⟨o, ho, hd⟩ => ⟨o, hk c o ho, hd⟩
  have look : ∀ y, (cxComp X x scope C s H fp).env.scope.names.lookup y = (scope.names.lookup y).map fun k => if (k == NameKind.free && X.env.scope.kind == .function && X.env.kindOf y == some .cell) then NameKind.cell else k := fun y => relabel_lookup X.env y scope.names
  refine ⟨⟨I.ok.mod, S.kind, I.ok.glob, I.ok.blt, hC, fun y z c e1 e2 => I.ok.inj y z c (cl y c e1) (cl z c e2), fun y hy => ?_, fun y c e _ => (by cases e), fun h => I.ok.hd h, I.ok.frames, .inl rfl, fun b hb => ?_, I.bs, Nat.le_trans I.ok.bsz I.sz, fun b o e hb => ?_, fun b hb hb' => ?_, I.stack, I.stkFree⟩,
    rfl, I.bare, Un.kept hk, ⟨m, hn, fun i y v h1 h2 h3 => ?_⟩, fun y c e => ?_, I.hok.fresh hC, fun y c e => I.freeC y c (cl y c e), fun p hp => absurd (show p ∈ ([] : List (Addr × Obj)) from hp) (by simp), I.hok.kept hk, ?_⟩
  · -- every cell of the block is there
    have hy' : (cxComp X x scope C s H fp).env.scope.names.lookup y = some .cell ∨ (cxComp X x scope C s H fp).env.scope.names.lookup y = some .free := hy
    rw [look y] at hy'
    cases e : scope.names.lookup y with
    | none => rw [e] at hy'; rcases hy' with z | z <;> cases z
    | some k =>
      have hm := PySem.mem_of_lookup e
      have hfree : k = .free := by
        rw [e] at hy'
        cases k with
        | free => rfl
        | cell => exact absurd rfl (S.nocell _ hm)
        | _ => rcases hy' with z | z <;> simp at z
      subst hfree
      obtain ⟨c, hc⟩ := I.ok.has y (S.free _ hm rfl)
      exact Option.isSome_iff_exists.mp (cloGo_has X.env scope.names [] y hm (by rw [hc]; rfl))
  · obtain ⟨f0, f1, f2, f3, f4, f5⟩ := hf b hb
    exact ⟨Nat.ne_of_lt (Nat.lt_of_lt_of_le (hlt b hb) hC), fun y c e => f4 y c (cl y c e)⟩
  · obtain ⟨f0, f1, f2, f3, f4, f5⟩ := hf b hb
    rcases f3 with z | z
    · exact I.ok.noex b o e z
    · exact absurd (Nat.lt_of_lt_of_le (Heap.lt_size e) (Nat.le_trans I.ok.bsz z)) (Nat.lt_irrefl _)
  · obtain ⟨f0, f1, f2, f3, f4, f5⟩ := hf b hb
    rcases List.mem_cons.mp (I.stkSub b hb') with e | e
    · exact f1 e
    · exact f2 e
  · cases i with
    | zero =>
      have h2' : (some none : Option (Option V)) = some (some v) := h2
      cases h2'
    | succ i =>
      have h1' : (hideN x X.N)[i]? = some y := h1
      have h2' : σ[i]? = some (some v) := h2
      have hmem : y ∈ hideN x X.N := List.mem_of_getElem? h1'
      unfold hideN at h1'
      rw [List.getElem?_map] at h1'
      cases e0 : X.N[i]? with
      | none => rw [e0] at h1'; cases h1'
      | some y0 =>
        rw [e0] at h1'
        have h1'' : (if y0 = x then ("" : Str) else y0) = y := Option.some.inj h1'
        have h3' : (cxComp X x scope C s H fp).env.scope.names.lookup y = some .local ∨ (cxComp X x scope C s H fp).env.scope.names.lookup y = some .cell ∨ (cxComp X x scope C s H fp).env.scope.names.lookup y = some .free := h3
        rw [look y] at h3'
        have hy0 : y0 = y := by
          by_cases q : y0 = x
          · rw [if_pos q] at h1''
            rw [← h1'', S.noE] at h3'
            rcases h3' with z | z | z <;> cases z
          · rw [if_neg q] at h1''
            exact h1''
        subst hy0
        cases e : scope.names.lookup y0 with
        | none => rw [e] at h3'; rcases h3' with z | z | z <;> cases z
        | some k =>
          have hm := PySem.mem_of_lookup e
          have hfree : k = .free := by
            rw [e] at h3'
            cases k with
            | free => rfl
            | cell => exact absurd rfl (S.nocell _ hm)
            | «local» => exact absurd e (S.only y0 hmem)
            | _ => rcases h3' with z | z | z <;> simp at z
          subst hfree
          have kd := S.free _ hm rfl
          obtain ⟨m0, hn0, hl0⟩ := I.loc
          obtain ⟨u, r, l⟩ := hl0 i y0 v e0 h2' (by rcases kd with z | z; exact .inr (.inl z); exact .inr (.inr z))
          refine ⟨u, r, .inr ⟨?_, ?_⟩⟩
          · have hk' : (cxComp X x scope C s H fp).env.scope.names.lookup y0 = some (if (NameKind.free == NameKind.free && X.env.scope.kind == .function && X.env.kindOf y0 == some .cell) then NameKind.cell else NameKind.free) := by
              rw [look y0, e]; rfl
            by_cases c : (NameKind.free == NameKind.free && X.env.scope.kind == .function && X.env.kindOf y0 == some .cell) = true
            · rw [if_pos c] at hk'; exact .inl hk'
            · rw [if_neg c] at hk'; exact .inr hk'
          · rcases l with ⟨lk, _⟩ | ⟨_, c, hc, hcell⟩
            · exfalso
              rcases kd with z | z <;> (rw [show X.env.kindOf y0 = some NameKind.local from lk] at z; cases z)
            · obtain ⟨c', hc'⟩ := Option.isSome_iff_exists.mp (cloGo_has X.env scope.names [] y0 hm (by rw [hc]; rfl))
              have := cl y0 c' hc'
              rw [hc] at this
              cases this
              exact ⟨c, hc', cellK c _ hcell⟩
  · obtain ⟨v, z⟩ := I.cell y c (cl y c e)
    exact ⟨v, cellK c v z⟩
  · show (none :: σ).length = (x :: hideN x X.N).length
    simp [hideN, I.len]
end

/-- the tests of a clause -/
def PIfs (X : Cx) (ifs : List Expr) (t : TT) : Prop :=
  ∀ (pins : List (Addr × Obj)) (s : Shared) (σ : St) (H : Hp) (Q : Bool → Hp → Prop), Inv X pins σ H s → t σ H Q →
    wpAny (model X.prog X.w) X.A (forIn ifs true fun c r => if r = true then do let ok ← isTrue c X.env (eval c X.env); pure (ForInStep.yield ok) else pure (ForInStep.yield r)) (TP X pins σ Q) X.xe s
def tYes : TT := fun _ H Q => Q true H
theorem pf_nil {X : Cx} : PIfs X [] tYes := fun _ _ _ H _ I h => wpAny_tests_nil ⟨H, I, h⟩
/-- what a comprehension asks of an iterator. W: the invariant by the turn, a measure, the items so far and the heap -/
def CompOk (J : It) (σ : St) (H1 : Hp) (Q : VK) (tt : TT) (te : TE) : Prop := ∀ D, H1 D = none → ∃ W : Nat → Nat → List V → Hp → Prop, (∃ m, W 0 m [] (upd H1 D (.lst []))) ∧ ∀ i m ys H2, W i m ys H2 →
  (J.stop i H2 ∧ Q (.ref D) H2) ∨ (J.go i H2 ∧ ∀ x H3, J.yld i H2 x H3 → tt (some x :: σ) H3 fun b H4 =>
    if b = true then te (some x :: σ) H4 fun y H5 => H5 D = some (.lst ys) ∧ ys.length < sizeLine ∧ ∃ m', m' < m ∧ W (i + 1) m' (ys ++ [y]) (upd H5 D (.lst (ys ++ [y])))
    else ∃ m', m' < m ∧ W (i + 1) m' ys H4)
def tComp (wi : TI) (tt : TT) (te : TE) : TE := fun σ H Q => wi σ H fun J H1 => CompOk J σ H1 Q tt te
theorem thnF {α : Type} {t : Sem α} {Q Q' : α → Shared → Prop} {M : Model} {A : Around} {E : Value → Shared → Prop} {s : Shared} (h : wpAny M A t Q (fun _ _ => False) s) (hQ : ∀ a s, Q a s → Q' a s) : wpAny M A t Q' E s := wpAny_mono h hQ fun _ _ x => x.elim
theorem Inv.sameBut {X : Cx} {pins : List (Addr × Obj)} {σ : St} {H : Hp} {s : Shared} {h' : Heap} {C : Addr} (I : Inv X pins σ H s) (f : FpOk X pins H C) (sb : Heap.SameBut C s.heap h') : Inv X pins σ H { s with heap := h' } :=
  I.turned (t' := s.toks) (fun b o hb e => (sb.2 b hb).trans e) f.1 f.2.1 f.2.2.2.1 f.2.2.2.2.1 f.2.2.2.2.2
section
variable {X : Cx} {x : Str} {scope : Scope}
/-- the block, from the iterator on; RR: what is wanted of the list's address and the block's frame behind it -/
theorem comp_block {px pos : Pos} {iter elt : Expr} {ifs : List Expr} {tt : TT} {te : TE} {pins : List (Addr × Obj)} {σ : St} {s2 : Shared} {H2 : Hp} {it : Addr} {fp : List Addr} {tn : Nat → Heap → Prop} {J : It} {E : Value → Shared → Prop}
    {RR : Value → Addr → Result → Shared → Prop} {Q : VK}
    (hc : X.calm = true) (S : CompScope X x scope) (ht : ∀ C s₀ H₀ fp, PIfs (cxComp X x scope C s₀ H₀ fp) ifs tt) (he : ∀ C s₀ H₀ fp, PE (cxComp X x scope C s₀ H₀ fp) elt te)
    (I2 : Inv X pins σ H2 s2) (T : Turn X.prog X.w X.K (.Name x px) J fp it tn) (st2 : tn 0 s2.heap) (f2 : ∀ b ∈ fp, FpOk X pins H2 b)
    (q : ∀ D, H2 D = none → ∃ W : Nat → Nat → List V → Hp → Prop, (∃ m, W 0 m [] (upd H2 D (.lst []))) ∧ ∀ i m ys H2, W i m ys H2 →
      (J.stop i H2 ∧ Q (.ref D) H2) ∨ (J.go i H2 ∧ ∀ x H3, J.yld i H2 x H3 → tt (some x :: σ) H3 fun b H4 =>
        if b = true then te (some x :: σ) H4 fun y H5 => H5 D = some (.lst ys) ∧ ys.length < sizeLine ∧ ∃ m', m' < m ∧ W (i + 1) m' (ys ++ [y]) (upd H5 D (.lst (ys ++ [y])))
        else ∃ m', m' < m ∧ W (i + 1) m' ys H4))
    (hRR : ∀ D C s' H' m, s'.heap.Ns C m → FpOk X pins H' C → Inv X pins σ H' s' → Q (.ref D) H' → RR (.ref D) C (.ok .next) s') :
    wpAny (model X.prog X.w) X.A (newList []) (fun acc s₃ => wpAny (model X.prog X.w) X.A (newFunctionEnv scope X.env.globals (cloGo X.env scope.names []) [] X.env.qual none .none (some X.env)) (fun cenv s₄ =>
      codeAny (model X.prog X.w) X.A (.compStart (.ListComp elt [⟨.Name x px, iter, ifs, 0⟩] scope pos) 0 (.ref it) acc { cenv with scope := relabel scope X.env }) (RR acc cenv.locals) s₄) E s₃) E s2 := by
  refine wpAny_newObj_type (wpAny_newFunctionEnv S.nocell (by intro y hy; simp at hy) (fun h₁ hns₁ hsb₁ => ?_) S.kind)
  have I3 := I2.lnew (its := []) (ys := []) (t' := s2.toks) .nil (Nat.zero_le _)
  have hD0 : H2 s2.heap.objs.size = none := I2.fresh
  obtain ⟨W, ⟨m0, w0⟩, turn⟩ := q _ hD0
  generalize hs3 : ({ s2 with heap := s2.heap.push { cls := .type "list", data := .seq ([] : List Value).toArray }, toks := s2.toks } : Shared) = s3 at I3
  have e3 : s3.heap = s2.heap.push { cls := .type "list", data := .seq ([] : List Value).toArray } := by rw [← hs3]
  have hlt : ∀ b ∈ fp, b < s2.heap.objs.size := fun b hb => let ⟨_, e, _⟩ := T.obj _ _ st2 b hb; Heap.lt_size e
  have hlt3 : ∀ b ∈ fp, b < s3.heap.objs.size := fun b hb => by rw [e3, Heap.size_push]; exact Nat.lt_succ_of_lt (hlt b hb)
  have f3 : ∀ b ∈ fp, FpOk X pins (upd H2 s2.heap.objs.size (.lst [])) b := fun b hb => ⟨by rw [upd_ne (Nat.ne_of_lt (hlt b hb))]; exact (f2 b hb).1, (f2 b hb).2⟩
  have hk1 : ∀ b o, s3.heap.get? b = some o → h₁.get? b = some o := fun b o e => by
    have hne : b ≠ s3.heap.objs.size := Nat.ne_of_lt (Heap.lt_size e)
    rw [e3] at e hne
    exact hsb₁.extBut b o hne (Heap.get?_push_of_some _ e)
  have hC : s3.heap.objs.size = (s2.heap.push { cls := .type "list", data := .seq ([] : List Value).toArray }).objs.size := by rw [e3]
  have hns : h₁.Ns s3.heap.objs.size (fun x => ([] : List (Str × Value)).reverse.lookup x) := by rw [hC]; exact hns₁
  have st3 : tn 0 h₁ := T.keep _ _ _ st2 fun b hb o e => hk1 b o (by rw [e3]; exact Heap.get?_push_of_some _ e)
  have hDC : s2.heap.objs.size ≠ s3.heap.objs.size := by rw [e3, Heap.size_push]; exact Nat.ne_of_lt (Nat.lt_succ_self _)
  have start : ∀ tk, Inv (cxComp X x scope s3.heap.objs.size s3 (upd H2 s2.heap.objs.size (.lst [])) fp) [] (none :: σ) (upd H2 s2.heap.objs.size (.lst [])) { s3 with heap := h₁, toks := tk } := fun tk =>
    comp_start I3 S f3 hlt3 (Nat.le_refl _) hns hk1
  generalize hX : cxComp X x scope s3.heap.objs.size s3 (upd H2 s2.heap.objs.size (.lst [])) fp = X' at start
  have eA : X'.A = X.A := by rw [← hX]; rfl
  have eP : X'.prog = X.prog := by rw [← hX]; rfl
  have eW : X'.w = X.w := by rw [← hX]; rfl
  have eK : X'.K = X.K := by rw [← hX]; rfl
  have eC : X'.env.locals = s3.heap.objs.size := by rw [← hX]; rfl
  have loop : ∀ tk, codeAny (model X.prog X.w) X.A (.compLoop (.ListComp elt [⟨.Name x px, iter, ifs, 0⟩] scope pos) 0 (.ref it) (.ref s2.heap.objs.size) (compEnvC scope (cloGo X.env scope.names []) s3.heap.objs.size X.env))
      (RR (.ref s2.heap.objs.size) s3.heap.objs.size) { s3 with heap := h₁, toks := tk } := by
    intro tk
    subst hX
    refine codeAny_compLoop_tests (fun n s' => ∃ i ys v0 H', Inv (cxComp X x scope s3.heap.objs.size s3 (upd H2 s2.heap.objs.size (.lst [])) fp) [] (v0 :: σ) H' s' ∧ tn i s'.heap ∧ (∀ b ∈ fp, H' b = none) ∧ W i n ys H') ?_ m0
      ⟨0, [], none, _, start tk, st3, fun b hb => (f3 b hb).1, w0⟩
    rintro n s4 ⟨i, ys, v0, H4, I4, st4, fr4, w4⟩
    have stat : ∀ {H' : Hp}, (∀ b ∈ fp, H' b = none) → ∀ b ∈ fp, FpOk (cxComp X x scope s3.heap.objs.size s3 (upd H2 s2.heap.objs.size (.lst [])) fp) [] H' b := fun hn b hb => by
      refine ⟨hn b hb, (I4.ok.exf b hb).1, I4.ok.exfs b hb, .inl hb, (I4.ok.exf b hb).2, fun p hp => absurd (show p ∈ ([] : List (Addr × Obj)) from hp) (by simp)⟩
    rcases turn i n ys H4 w4 with ⟨stop, qn⟩ | ⟨go, step⟩
    · refine thn (T.done (cxComp X x scope s3.heap.objs.size s3 (upd H2 s2.heap.objs.size (.lst [])) fp) rfl rfl rfl hc i [] s4 (v0 :: σ) H4 _ I4 (stat fr4) st4 stop) fun r s5 ⟨hr, I5⟩ => ?_
      subst hr
      obtain ⟨m, hn, _⟩ := I5.loc
      refine hRR _ _ s5 H4 m hn (I3.fpOk (Nat.le_refl _) I5.free) (I3.call' (s' := s5) (ch := fp) I5.os I5.base I5.hok I5.bare (fun b hb => ?_)) qn
      obtain ⟨_, g1, _, g3, g4, g5⟩ := f3 b hb
      exact ⟨g3, g1, g4, g5⟩
    · refine thn (T.item (cxComp X x scope s3.heap.objs.size s3 (upd H2 s2.heap.objs.size (.lst [])) fp) rfl rfl rfl hc i [] s4 (v0 :: σ) H4 _ I4 (stat fr4) st4 go) fun r s5 ⟨u, hr, h5⟩ => ?_
      subst hr
      intro Γ p hΓ
      obtain ⟨xv, H6, I6, r6, y6, st6, fr6⟩ := h5 Γ p hΓ
      refine (?_ : wpAny _ _ _ _ _ _) Γ p hΓ
      have I6' := I6.pinned (stat fr6) (T.obj _ _ st6)
      have hloc : (cxComp X x scope s3.heap.objs.size s3 (upd H2 s2.heap.objs.size (.lst [])) fp).env.scope.names.lookup x = some .local := lookup_relabel_local S.loc
      have again : ∀ {s7 : Shared} {H7 : Hp} {ys' : List V}, Inv (cxComp X x scope s3.heap.objs.size s3 (upd H2 s2.heap.objs.size (.lst [])) fp) ([] ++ pinsAt fp s5.heap) (some xv :: σ) H7 s7 → (∃ m', m' < n ∧ W (i + 1) m' ys' H7) →
          ∃ m, m < n ∧ ∃ i ys v0 H', Inv (cxComp X x scope s3.heap.objs.size s3 (upd H2 s2.heap.objs.size (.lst [])) fp) [] (v0 :: σ) H' s7 ∧ tn i s7.heap ∧ (∀ b ∈ fp, H' b = none) ∧ W i m ys H' := fun {s7 H7 ys'} I7 hw => by
        obtain ⟨m', hm, w7⟩ := hw
        refine ⟨m', hm, i + 1, ys', some xv, H7, I7.unpinned, T.keep _ _ _ st6 fun b hb o e => (I7.pin (b, o) (List.mem_append_right _ (List.mem_append_right _ (mem_pinsAt hb e)))).1, fun b hb => ?_, w7⟩
        obtain ⟨o, e, d⟩ := T.obj _ _ st6 b hb
        exact (I7.pin (b, o) (List.mem_append_right _ (List.mem_append_right _ (mem_pinsAt hb e)))).2.1
      refine wpAny_assign_Name (store_ok (X := cxComp X x scope s3.heap.objs.size s3 (upd H2 s2.heap.objs.size (.lst [])) fp) (i := 0) I6' S.nd rfl (.inl hloc) r6 (fun s7 I7 => ?_) (.inr hloc))
      refine thnF (ht _ _ _ _ _ s7 (some xv :: σ) H6 _ I7 (step xv H6 y6)) fun b s8 ⟨H8, I8, q8⟩ => ?_
      cases b with
      | false =>
        rw [if_neg Bool.false_ne_true] at q8 ⊢
        exact again I8 q8
      | true =>
        rw [if_pos rfl] at q8 ⊢
        refine thnF (he _ _ _ _ _ s8 (some xv :: σ) H8 _ I8 q8) fun y s9 ⟨yv, H9, I9, r9, hD9, hz9, q9⟩ => ?_
        refine thnF (mt_append (X := cxComp X x scope s3.heap.objs.size s3 (upd H2 s2.heap.objs.size (.lst [])) fp) _ s9 (some xv :: σ) H9 (.ref s2.heap.objs.size) [yv] (.ref s2.heap.objs.size) [y] (fun _ H' => H' = upd H9 s2.heap.objs.size (.lst (ys ++ [yv]))) I9 rfl (.cons r9 .nil)
          ⟨_, ys, yv, rfl, rfl, hD9, hz9, rfl⟩) fun _ s10 ⟨_, H10, I10, _, e10⟩ => ?_
        subst e10
        exact again I10 q9
  have key := fun tk => codeAny_compStart_list (R := RR (.ref s2.heap.objs.size) s3.heap.objs.size) (loop tk) (T.self X.A 0 { s3 with heap := h₁, toks := tk } (fun it' s' => codeAny (model X.prog X.w) X.A (.compLoop (.ListComp elt [⟨.Name x px, iter, ifs, 0⟩] scope pos) 0 it' (.ref s2.heap.objs.size) (compEnvC scope (cloGo X.env scope.names []) s3.heap.objs.size X.env)) (RR (.ref s2.heap.objs.size) s3.heap.objs.size) s') _ st3 (loop tk))
  subst hs3
  exact key _
/-- [elt for x in iter if ..] as a value -/
theorem pe_comp {px pos : Pos} {iter elt : Expr} {ifs : List Expr} {wi : TI} {tt : TT} {te : TE} (hc : X.calm = true) (S : CompScope X x scope) (hi : PI X (.Name x px) iter wi)
    (ht : ∀ C s₀ H₀ fp, PIfs (cxComp X x scope C s₀ H₀ fp) ifs tt) (he : ∀ C s₀ H₀ fp, PE (cxComp X x scope C s₀ H₀ fp) elt te) (hs : ∀ x, foldedSetIterable iter X.env x = pure x := by intro _; rfl) :
    PE X (.ListComp elt [⟨.Name x px, iter, ifs, 0⟩] scope pos) (tComp wi tt te) := by
  intro pins s σ H Q I h
  rw [eval_ListComp]
  refine wpAny_comprehension_free (use := none) (cl := cloGo X.env scope.names []) rfl hs (closure_ok fun y hy hk => I.ok.has y.1 (S.free y hy hk)) S.kind S.names (thn (hi pins s σ H _ I h) fun v s1 h1 => thn h1 fun itv s2 h2 => ?_)
  obtain ⟨it, fp, tn, J, H2, e, I2, T, st2, f2, q⟩ := h2
  subst e
  refine comp_block (RR := fun acc C => compPost (model X.prog X.w) X.A X.xe none (EP X pins σ Q) acc C) (Q := Q) hc S ht he I2 T st2 f2 q ?_
  intro D C s' H' m hn hf hI hq
  exact ⟨m, hn, fun h' sb => ⟨.ref D, H', hI.sameBut hf sb, rfl, hq⟩⟩
end
end L2

namespace L2
open PySem PySem.Spec PyProof.Rows
section
variable {σ : St} {H1 : Hp} {Q : VK} {tt : TT} {te : TE}
/-- n turns, the i-th yields xs[i]; test p, element f; nothing that stands is changed -/
theorem comp_any {J : It} {xs : List V} (p : V → Bool) (f : V → V) (hz : xs.length < sizeLine)
    (hgo : ∀ i H x, Same H1 H → xs[i]? = some x → J.go i H) (hy : ∀ i H y H', Same H1 H → i < xs.length → J.yld i H y H' → H' = H ∧ xs[i]? = some y) (hstop : ∀ H, Same H1 H → J.stop xs.length H)
    (ht : ∀ x ∈ xs, ∀ H, Same H1 H → ∀ R : Bool → Hp → Prop, (∀ H', Same H H' → R (p x) H') → tt (some x :: σ) H R)
    (he : ∀ x ∈ xs, p x = true → ∀ H, Same H1 H → ∀ R : VK, (∀ H', Same H H' → R (f x) H') → te (some x :: σ) H R)
    (hq : ∀ D H, H1 D = none → Same H1 H → H D = some (.lst ((xs.filter p).map f)) → Q (.ref D) H) : CompOk J σ H1 Q tt te := by
  intro D hD
  have s0 : Same H1 (upd H1 D (.lst [])) := fun b o e => by rw [upd_ne (ne_of_none e hD)]; exact e
  refine ⟨fun i m ys H => m = xs.length - i ∧ i ≤ xs.length ∧ ys = ((xs.take i).filter p).map f ∧ H D = some (.lst ys) ∧ Same H1 H, ⟨xs.length, by simp, Nat.zero_le _, by simp, upd_same, s0⟩, ?_⟩
  rintro i m ys H ⟨rfl, hi, rfl, hd, hs⟩
  by_cases hlt : i < xs.length
  · obtain ⟨x, hx⟩ : ∃ x, xs[i]? = some x := ⟨xs[i], by simp [hlt]⟩
    refine .inr ⟨hgo i H x hs hx, fun y H3 hyl => ?_⟩
    obtain ⟨rfl, hy'⟩ := hy i H y H3 hs hlt hyl
    rw [hx] at hy'
    cases hy'
    have hm : x ∈ xs := List.mem_of_getElem? hx
    have hlen : (((xs.take i).filter p).map f).length < sizeLine := by
      rw [List.length_map]
      refine Nat.lt_of_le_of_lt (List.length_filter_le _ _) (Nat.lt_of_le_of_lt ?_ hz)
      rw [List.length_take]; omega
    refine ht x hm _ hs _ fun H4 s4 => ?_
    by_cases hp : p x = true
    · rw [if_pos hp]
      refine he x hm hp H4 (hs.trans s4) _ fun H5 s5 => ?_
      refine ⟨s5 _ _ (s4 _ _ hd), hlen, xs.length - (i + 1), by omega, rfl, hlt, ?_, upd_same, fun b o e => ?_⟩
      · rw [take_succ_filter p xs i x hx, if_pos hp, List.map_append]; rfl
      · rw [upd_ne (ne_of_none e hD)]; exact s5 _ _ (s4 _ _ (hs _ _ e))
    · rw [if_neg hp]
      refine ⟨xs.length - (i + 1), by omega, rfl, hlt, ?_, s4 _ _ hd, hs.trans s4⟩
      rw [take_succ_filter p xs i x hx, if_neg hp, List.append_nil]
  · have e : i = xs.length := by omega
    subst e
    rw [List.take_length] at hd
    exact .inl ⟨hstop H hs, hq D H hD hs hd⟩
end
section
variable {X : Cx} {tg : Expr}
end
section
variable {σ : St} {H1 : Hp} {Q : VK} {tt : TT} {te : TE}
end

section
variable {X : Cx}
/-- isinstance(x, T) of a built-in type -/
theorem call_isin : CallR X (.builtin "isinstance") (fun xs H Q => ∃ x T t b, xs = [x, V.ty T] ∧ TyOf X.K H x t ∧ PySem.W.kitOne X.K t (.type T) = some b ∧ Q (.bl b) H) := by
  intro pins s σ H xs us Q I r h
  obtain ⟨x, T, t, b, rfl, ty, e, q⟩ := h
  obtain ⟨u, v, rfl, ru, rv⟩ := Vals.two r
  cases rv
  exact isinst_ok I ru ty e fun tk => ⟨.bl b, H, I.tok _, rfl, q⟩
end

def compChk (x : Str) (scope osc : Scope) (N : List Str) : Bool :=
  (scope.kind == .function) && scope.names.all (fun y => y.2 != .cell) && scope.names.all (fun y => y.2 != .local || scope.names.lookup y.1 == some .local) && (scope.names.lookup x == some .local) &&
  scope.names.all (fun y => y.2 != .free || osc.names.lookup y.1 == some .cell || osc.names.lookup y.1 == some .free) && decide ((x :: hideN x N).Nodup) && (hideN x N).all (fun y => scope.names.lookup y != some .local) && (scope.names.lookup ("" : Str) == none)
theorem compScope {X : Cx} {x : Str} {scope osc : Scope} {N : List Str} (hsc : X.env.scope = osc) (hN : X.N = N) (h : compChk x scope osc N = true) : CompScope X x scope := by
  unfold compChk at h
  simp only [Bool.and_eq_true] at h
  obtain ⟨⟨⟨⟨⟨⟨⟨h1, h2⟩, h3⟩, h4⟩, h5⟩, h6⟩, h7⟩, h8⟩ := h
  rw [List.all_eq_true] at h2 h3 h5 h7
  have kd : ∀ y, X.env.kindOf y = osc.names.lookup y := fun y => by rw [← hsc]; rfl
  refine ⟨by simpa using h1, fun y hy => by simpa using h2 y hy, fun y hy e => ?_, by simpa using h4, fun y hy e => ?_, by rw [hN]; exact of_decide_eq_true h6, fun y hy => ?_, by simpa using h8⟩
  · have := h3 y hy
    rw [e] at this
    simpa using this
  · have := h5 y hy
    rw [e] at this
    rw [kd]
    simpa using this
  · rw [hN] at hy
    simpa using h7 y hy
end L2

namespace L2
open PySem PySem.Spec PyProof.Rows
section
variable {X : Cx} {pins : List (Addr × Obj)} {σ : St} {H : Hp} {s : Shared} {h' : Heap}
end
section
variable {X : Cx} {es : List Expr} {k1 : Nat} {tpos : Pos}
end
end L2

namespace L2
open PySem PySem.Spec PyProof.Rows
section
variable {X : Cx} {pins : List (Addr × Obj)} {σ : St} {H : Hp} {s : Shared} {x z : Str} {scope : Scope} {fp : List Addr} {C : Addr}
end
section
variable {X : Cx} {x z : Str} {scope : Scope}
end
end L2

namespace L2
open PySem PySem.Spec PySem.Calls PyProof.Rows
/-- y is a tuple of zs -/
def TupAt (H : Hp) (zs : List V) (y : V) : Prop := ∃ T, y = .ref T ∧ H T = some (.tup zs)
theorem TupAt.mono {H H' : Hp} {zs : List V} {y : V} (s : Same H H') (h : TupAt H zs y) : TupAt H' zs y := let ⟨T, e, q⟩ := h; ⟨T, e, s _ _ q⟩
theorem TupAt.upd {H : Hp} {zs ys ws : List V} {y : V} {D : Addr} (h : TupAt H zs y) (hD : H D = some (.lst ys)) : TupAt (upd H D (.lst ws)) zs y := by
  obtain ⟨T, e, q⟩ := h
  refine ⟨T, e, ?_⟩
  rw [upd_ne fun z => by rw [z, hD] at q; cases q]
  exact q
theorem paired_upd {α : Type} {H : Hp} {f : α → List V} {l : List α} {vs ys ws : List V} {D : Addr} (h : Paired (fun a y => TupAt H (f a) y) l vs) (hD : H D = some (.lst ys)) : Paired (fun a y => TupAt (upd H D (.lst ws)) (f a) y) l vs := Paired.mapP h fun _ _ q => q.upd hD
theorem paired_mono {α : Type} {H H' : Hp} {f : α → List V} {l : List α} {vs : List V} (s : Same H H') (h : Paired (fun a y => TupAt H (f a) y) l vs) : Paired (fun a y => TupAt H' (f a) y) l vs := Paired.mapP h fun _ _ q => q.mono s
section
variable {X : Cx} {x z : Str} {scope : Scope}
end
section
variable {σ : St} {H1 : Hp} {Q : VK} {tt : TT} {te : TE}
theorem comp_sq {K : PySem.W.Frag} {a : Addr} {xs : List V} (p : V → Bool) (f : V → V) (hl : SqL K H1 a xs) (hz : xs.length < sizeLine)
    (ht : ∀ x ∈ xs, ∀ H, Same H1 H → ∀ R : Bool → Hp → Prop, (∀ H', Same H H' → R (p x) H') → tt (some x :: σ) H R)
    (he : ∀ x ∈ xs, p x = true → ∀ H, Same H1 H → ∀ R : VK, (∀ H', Same H H' → R (f x) H') → te (some x :: σ) H R)
    (hq : ∀ D H, H1 D = none → Same H1 H → H D = some (.lst ((xs.filter p).map f)) → Q (.ref D) H) : CompOk (Itl K a) σ H1 Q tt te :=
  comp_any p f hz (fun i H x hs hx => ⟨xs, x, hs.seq hl, hx⟩) (fun i H y H' hs _ hy => ⟨hy.1, hy.2 xs (hs.seq hl)⟩) (fun H hs => ⟨xs, hs.seq hl, Nat.le_refl _⟩) ht he hq
end
end L2

namespace L2
open PySem PySem.Spec PySem.Calls PyProof.Rows
section
variable {prog : Program} {w : World} {A : Around} {E : Value → Shared → Prop} {s : Shared} {K : PySem.W.Frag} {x C : Addr} {ox : Obj} {od : Option Obj} {name : Str} {tk : Tok} {R : Result → Shared → Prop}
end
end L2

namespace L2
open PySem PySem.Spec PySem.Calls PyProof.Rows
section
variable {prog : Program} {w : World} {A : Around} {E : Value → Shared → Prop} {K : PySem.W.Frag} {C : Addr} {h : Heap} {g : Array GenState} {d : Drawn} {t : Nat} {os : OsState}
end
end L2

namespace L2
open PySem PySem.Spec PySem.Calls PyProof.Rows
/-- an exception at x of the own class C, its dict at od where it has one; the dict of an exception -/
def ExcO (x C : Addr) (od : Option Addr) : HO := .ext fun h => ∃ (d : Data) (sl : Array (Option Value)), h.get? x = some ⟨.ref C, od, d, sl⟩ ∧ PySem.W.notCls ⟨.ref C, od, d, sl⟩ = true
def XdO (dx : Addr) (fs : List (Str × V)) : HO := .ext fun h => ∃ mA, h.Ns1 dx mA ∧ ∀ f, RelO (fs.lookup f) (mA f)
section
variable {P : Program} {w : World} {H H' : Hp} {h : Heap} {x C dx : Addr} {od : Option Addr} {fs : List (Str × V)}
/-- x is an exception of the class C with the attributes fs -/
inductive IsExc (H : Hp) (x C : Addr) : List (Str × V) → Prop where
  | bare (e : H x = some (ExcO x C none)) : IsExc H x C []
  | full {dx : Addr} {fs : List (Str × V)} (e : H x = some (ExcO x C (some dx))) (d : H dx = some (XdO dx fs)) : IsExc H x C fs
end
section
variable {P : Program} {w : World} {X : Cx} {pins : List (Addr × Obj)} {σ : St} {H : Hp} {s : Shared} {h' : Heap} {a : Addr} {o : HO}
end
section
variable {X : Cx} {C : Addr} {x : Str} {e : Expr} {es : List Expr} {t : TA} {p pos : Pos}
end
section
variable {X : Cx} {e : Expr} {f : Str} {pos : Pos} {ta : TE}
end
section
variable {prog : Program} {w : World} {A : Around} {E : Value → Shared → Prop} {s : Shared} {K : PySem.W.Frag} {x C : Addr} {name : Str} {v : Value} {R : Result → Shared → Prop} {d : Data} {sl : Array (Option Value)}
end
section
variable {X : Cx} {pins : List (Addr × Obj)} {σ : St} {H : Hp} {s : Shared} {h' : Heap} {x C dx : Addr} {f : Str} {y : V} {u : Value}
end
section
variable {X : Cx} {o value : Expr} {f : Str} {pos pos' : Pos} {ta tv : TE}
end
section
variable {X : Cx} {C f : Addr} {fd : FuncData} {ps : List Str} {sp : Sp} {k : Nat} {x : Str} {e : Expr} {es : List Expr} {t : TA} {p pos : Pos}
end
def eqL : List V → List V → Bool
  | [], [] => true
  | x :: xs, y :: ys => eqV x y && eqL xs ys
  | _, _ => false
theorem range_eqL : ∀ (xs ys : List V), xs.length = ys.length → ((List.range xs.length).all fun j => eqV (xs.getD j .non) (ys.getD j .non)) = eqL xs ys
  | [], [], _ => rfl
  | x :: xs, y :: ys, h => by
    have ih := range_eqL xs ys (by simpa using h)
    rw [List.length_cons, List.range_succ_eq_map, List.all_cons, List.all_map]
    show (eqV x y && _) = (eqV x y && eqL xs ys)
    rw [← ih]
    rfl
  | [], _ :: _, h => by simp at h
  | _ :: _, [], h => by simp at h
theorem eqL_len : ∀ (xs ys : List V), xs.length ≠ ys.length → eqL xs ys = false
  | [], [], h => absurd rfl h
  | x :: xs, y :: ys, h => by
    show (eqV x y && eqL xs ys) = false
    rw [eqL_len xs ys (fun e => h (by simp [e])), Bool.and_false]
  | [], _ :: _, _ => rfl
  | _ :: _, [], _ => rfl
section
variable {X : Cx}
theorem flat_at {xs : List V} {j : Nat} (h : xs.all flatV = true) (hj : j < xs.length) : flatV (xs.getD j .non) = true := by
  have e : xs.getD j .non = xs[j] := by simp [hj]
  rw [e]
  exact List.all_eq_true.mp h _ (List.getElem_mem hj)
theorem rel_at {xs : List V} {us : List Value} {j : Nat} (r : Vals xs us) (hj : j < us.length) : RelV (xs.getD j .non) us[j] := by
  have hl := r.length
  have hx : xs[j]? = some xs[j] := by simp [hl, hj]
  obtain ⟨u, hu, ru⟩ := r.get hx
  rw [List.getElem?_eq_getElem hj] at hu
  cases hu
  have e : xs.getD j .non = xs[j] := by simp [hl, hj]
  rw [e]
  exact ru
end
end L2

namespace L2
open PySem PySem.Spec PySem.Calls PyProof.Rows
section
variable {X : Cx}
theorem preSum_take (ns : List Int) : ∀ j, j ≤ ns.length → preSum (fun i => (ns[i]?).getD 0) j = (ns.take j).sum
  | 0, _ => rfl
  | j + 1, h => by
    have ih := preSum_take ns j (by omega)
    show preSum _ j + (ns[j]?).getD 0 = _
    rw [ih, List.take_add_one, List.getElem?_eq_getElem (by omega), List.sum_append]
    simp
theorem sum_le (M : Int) : ∀ ns : List Int, (∀ n ∈ ns, 0 ≤ n ∧ n ≤ M) → 0 ≤ ns.sum ∧ ns.sum ≤ ns.length * M
  | [], _ => by simp
  | n :: r, h => by
    have h1 := h n (List.mem_cons_self ..)
    have h2 := sum_le M r fun x hx => h x (List.mem_cons_of_mem _ hx)
    have e : ((n :: r).length : Int) * M = r.length * M + M := by rw [List.length_cons]; push_cast; rw [Int.add_mul, Int.one_mul]
    rw [e, List.sum_cons]
    omega
variable {o i : Expr} {pos : Pos} {td ty : TE}
end
section
variable {X : Cx} {e st : Expr} {lo hi : Option Expr} {te ts : TE} {tl th : TO} {p2 pos : Pos}
end
end L2

namespace Og
open PySem L2
theorem ix_tupK {X : Cx} {K : PySem.W.Frag} (h : X.K = K) : IxR X (rIxT K) := h ▸ ix_tup
structure R where
  w : Str
  nm : Str
  rest : List V
abbrev R.v (r : R) : List V := .str r.w :: .str r.nm :: r.rest
/-- vs are rows, by ρ -/
def Rows (H : Hp) (ρ : V → R) (vs : List V) : Prop := ∀ v ∈ vs, TupAt H (ρ v).v v
abbrev pw (ρ : V → R) (w : Str) (v : V) : Bool := decide (V.str (ρ v).w = V.str w)
abbrev pn (ρ : V → R) (t : Str) (v : V) : Bool := decide (V.str (ρ v).nm = V.str t)
theorem same_upd {H : Hp} {p : Addr} {o : HO} (h : H p = none) : Same H (upd H p o) := fun b u e => by rw [upd_ne (ne_of_none e h)]; exact e
theorem line20 {n : Nat} (h : n ≤ 1000) : n ≤ sizeLine := Nat.le_of_lt (small1000 h)
theorem ty_int {K : PySem.W.Frag} : PySem.W.kitOne K (.type "int") (.type "int") = some true := by kernel_rfl
theorem ty_ib {K : PySem.W.Frag} : PySem.W.kitOne K (.type "int") (.type "bool") = some false := by kernel_rfl
abbrev bV (b : Str × Nat) : List V := [.str b.1, .int (b.2 : Nat)]
abbrev qV (q : Nat × Nat) : List V := [.int (q.1 : Nat), .int (q.2 : Nat)]
/-- the places of all keys -/
def plc (bs : List (Str × Nat)) : List (Nat × Nat) := bs.zipIdx.flatMap fun p => (List.range p.1.2).map fun e => (p.2, e)
theorem paired_get' {α β : Type} {F : α → β → Prop} {l : List α} {vs : List β} (h : Paired F l vs) : ∀ {i : Nat} {v}, vs[i]? = some v → ∃ a, l[i]? = some a ∧ F a v := by
  induction h with
  | nil => intro i a ha; simp at ha
  | cons x y ih =>
    intro i a ha
    cases i with
    | zero =>
      simp at ha
      subst ha
      exact ⟨_, rfl, x⟩
    | succ i => exact ih (by simpa using ha)
/-- all but the object at x -/
def SX (x : Addr) (H H' : Hp) : Prop := ∀ b o, H b = some o → b ≠ x → H' b = some o
abbrev meths : List Str := ["ranks", "pipe_count", "pipe", "rank_of", "board_of_knob", "boards", "key_count", "key", "board_of", "coupler", "knobs", "knob_number", "board_number", "stop", "mute", "steps", "rows"]
structure OrgAt (C : Addr) (H : Hp) (x : Addr) (bs : List (Str × Nat)) (ks : List R) : Prop where
  ob : ∃ (dx : Addr) (fs : List (Str × V)) (bl bn kp kr : Addr) (bvs pvs uvs : List V) (kvs : List (Key × V)), H x = some (.ins C dx fs) ∧ fs.lookup ("board_list" : Str) = some (.ref bl) ∧ fs.lookup ("board_numbers" : Str) = some (.ref bn) ∧ fs.lookup ("key_places" : Str) = some (.ref kp) ∧ fs.lookup ("knob_rows" : Str) = some (.ref kr) ∧
    (∀ m ∈ meths, fs.lookup m = none) ∧ H bl = some (.lst bvs) ∧ Paired (fun b y => TupAt H (bV b) y) bs bvs ∧ H bn = some (.dK kvs) ∧ (∀ (i : Nat) b, bs[i]? = some b → valV kvs (Sum.inr b.1) = some (.int (i : Nat))) ∧
    H kp = some (.lst pvs) ∧ Paired (fun q y => TupAt H (qV q) y) (plc bs) pvs ∧ H kr = some (.lst uvs) ∧ Paired (fun (r : R) y => TupAt H r.v y) ks uvs
  nb : bs.length ≤ 5
  sz : ∀ b ∈ bs, b.2 ≤ 61
  nk : ks.length ≤ 200
end Og

namespace L2
open PySem PySem.Spec PyProof.Rows
section
variable {X : Cx}
theorem min_eqL (xs ys : List V) : ((List.range (min xs.length ys.length)).all (fun j => eqV (xs.getD j .non) (ys.getD j .non)) && xs.length == ys.length) = eqL xs ys := by
  by_cases h : xs.length = ys.length
  · rw [show min xs.length ys.length = xs.length by omega, range_eqL xs ys h, beq_iff_eq.mpr h, Bool.and_true]
  · rw [eqL_len xs ys h, beq_eq_false_iff_ne.mpr h, Bool.and_false]
def rEqT (K : PySem.W.Frag) (neg : Bool) : R2 := fun x y H Q => ∃ p q xs ys, x = .ref p ∧ y = .ref q ∧ SqT K H p xs ∧ SqT K H q ys ∧ xs.all flatV = true ∧ ys.all flatV = true ∧ Q (.bl (if neg then !eqL xs ys else eqL xs ys)) H
theorem op_eq_tup (hu : X.A.units < cLine) : OpR X (compareOp .Eq) (rEqT X.K false) := by
  intro pins s σ H x y v u Q I rx ry h
  obtain ⟨p, q, xs, ys, rfl, rfl, hp, hq, fx, fy, k⟩ := h
  cases rx
  cases ry
  obtain ⟨its, r, pl, hz⟩ := I.tuple hp
  obtain ⟨its2, r2, pl2, hz2⟩ := I.tuple hq
  have l1 := r.length
  have l2 := r2.length
  refine SeqAt.eq_tupleAt (e := fun j => eqV (xs.getD j .non) (ys.getD j .non)) pl pl2 hu (fun j h1 h2 => ?_) ⟨.bl (eqL xs ys), H, I, ?_, k⟩
  · have h1' : j < its.length := by simpa using h1
    have h2' : j < its2.length := by simpa using h2
    simp only [List.getElem_toArray]
    exact eqAt_V (rel_at r h1') (rel_at r2 h2') (flat_at fx (by omega)) (flat_at fy (by omega))
  · rw [List.size_toArray, List.size_toArray, ← l1, ← l2, min_eqL xs ys]
    exact rfl
/-- // by a positive number of any plain size -/
theorem op_fdivG : OpR X (binaryOp .FloorDiv) (rI (fun _ j => 0 < j ∧ j < 2 ^ 200) fun i j => .int (i / j)) := opI fun i j _ _ _ _ _ hc q => by
  have h1 : (0 : Int) < j := hc.1
  have h2 : j < 2 ^ 200 := hc.2
  refine floordiv_int (by omega) (by rw [Int.fdiv_eq_ediv_of_nonneg i (by omega)]; exact q) (.inl (PyProof.noPylong_of_log2 ?_))
  have h3 : j.natAbs < 2 ^ 200 := by omega
  have h4 : j.natAbs ≠ 0 := by omega
  have := (Nat.log2_lt h4).mpr h3
  omega
end
end L2
namespace L2
open PySem PySem.Spec PyProof.Rows
section
variable {σ : St} {H1 : Hp} {Q : VK} {tt : TT} {te : TE}
end
end L2

namespace L2
open PySem PySem.Spec PyProof.Rows
theorem ivals : ∀ {ns : List Int} {us : List Value}, Vals (ns.map V.int) us → IntsAre us ns
  | [], _, r => by cases r; exact .nil
  | n :: ns, _, r => by
    cases r with
    | cons r t =>
      obtain ⟨tk, rfl⟩ := r
      exact .cons n tk (ivals t)
theorem valsI : ∀ {ns : List Int} {us : List Value}, IntsAre us ns → Vals (ns.map V.int) us
  | _, _, .nil => .nil
  | _, _, .cons n t r => .cons ⟨t, rfl⟩ (valsI r)
section
variable {X : Cx}
theorem call_sumB (hc : X.calm = true) : CallR X (.builtin "sum") (fun xs H Q => ∃ (p : Addr) (ns : List Int), xs = [V.ref p] ∧ SqL X.K H p (ns.map V.int) ∧ (∀ n ∈ ns, 0 ≤ n ∧ n ≤ 4398046511104) ∧ ns.length ≤ 1000 ∧ Q (.int ns.sum) H) := by
  intro pins s σ H xs us Q I r h
  obtain ⟨p, ns, rfl, hp, hb, hl, q⟩ := h
  obtain ⟨u, rfl, ru⟩ := vals1 r
  cases ru
  obtain ⟨its, rv, pl, hz⟩ := I.list hp
  have hlen : ns.length = its.length := by have := rv.length; rw [List.length_map] at this; exact this
  have hlt : p < s.heap.objs.size := by obtain ⟨_, e, _⟩ := pl.isList; exact Heap.lt_size e
  refine call_sum_walk (wpAny_pyIter_list pl.isList ?_)
  refine ⟨s.heap.objs.size, [s.heap.objs.size, p], [s.heap.objs.size], its.toArray.size, _, _, fun i => (ns[i]?).getD 0, rfl, Walks.list (A := X.A.in1) (I.ok.hd hc) _ p (Nat.ne_of_lt hlt) its.toArray,
    ⟨⟨_, Heap.get?_push_size _ rfl, rfl, rfl⟩, pl.isList.push _⟩, fun b hb => ?_, fun i v hP => ?_, fun j hj => ?_, fun h' tk t' hk => ?_⟩
  · rw [Heap.size_push]
    rcases List.mem_cons.mp hb with rfl | hb
    · exact Nat.lt_succ_self _
    · rw [List.mem_singleton.mp hb]
      exact Nat.lt_succ_of_lt hlt
  · have hP' : its[i]? = some v := by simpa using hP
    have hi : i < its.length := (List.getElem?_eq_some_iff.mp hP').1
    have hb : ns[i]? = some ns[i] := by simp [hlen, hi]
    obtain ⟨u, hu, ru⟩ := rv.get (i := i) (x := .int ns[i]) (by rw [List.getElem?_map, hb]; rfl)
    rw [hP'] at hu
    cases hu
    obtain ⟨t, rfl⟩ := ru
    exact ⟨t, by dsimp only; rw [hb]; rfl⟩
  · have hj' : j < ns.length := by rw [hlen]; simpa using hj
    rw [preSum_take ns (j + 1) (by omega)]
    have h1 := hb ns[j] (List.getElem_mem hj')
    have h2 := sum_le 4398046511104 (ns.take (j + 1)) fun n hn => hb n (List.mem_of_mem_take hn)
    have h3 : (ns.take (j + 1)).length ≤ 1000 := by rw [List.length_take]; omega
    unfold InLong
    dsimp only
    rw [List.getElem?_eq_getElem hj']
    rw [Option.getD_some]
    refine ⟨⟨?_, ?_⟩, ⟨?_, ?_⟩⟩ <;> omega
  · have e : preSum (fun i => (ns[i]?).getD 0) its.toArray.size = ns.sum := by rw [List.size_toArray, ← hlen, preSum_take ns _ (Nat.le_refl _), List.take_length]
    rw [e]
    refine ⟨.int ns.sum, H, I.kept (t' := tk) fun b o eb => hk b o (fun hm => ?_) (Heap.get?_push_of_some _ eb), ⟨_, rfl⟩, q⟩
    rw [List.mem_singleton.mp hm] at eb
    exact Nat.lt_irrefl _ (Heap.lt_size eb)
end
end L2

namespace L2
open PySem PySem.Spec PySem.Calls PyProof.Rows
section
variable {X : Cx} {pins : List (Addr × Obj)} {σ : St} {H : Hp} {s : Shared} {x z y3 : Str} {scope : Scope} {fp : List Addr} {C : Addr}
end
section
variable {X : Cx} {x z y3 : Str} {scope : Scope}
end
section
variable {X : Cx} {x z y3 : Str} {scope : Scope}
end
section
variable {X : Cx} {x z y3 : Str} {scope : Scope}
end
section
variable {σ : St} {H1 : Hp} {Q : VK} {tt : TT} {te : TE}
end
end L2

namespace Bw
abbrev Tr := Int × Int × Int
abbrev Dr := List Tr
def Chain : Int → Dr → Prop
  | _, [] => True
  | t, x :: r => x.1 = t ∧ x.1 < x.2.1 ∧ Chain x.2.1 r
def cnt (x : Tr) : Nat := (x.2.1 - x.1).toNat
/-- what each tick takes more than the pump gives -/
def tk (P : Int) : Dr → List Int
  | [] => []
  | x :: r => List.replicate (cnt x) (x.2.2 - P) ++ tk P r
theorem tk_app (P : Int) : ∀ (a b : Dr), tk P (a ++ b) = tk P a ++ tk P b
  | [], b => rfl
  | x :: a, b => by
    show List.replicate (cnt x) (x.2.2 - P) ++ tk P (a ++ b) = List.replicate (cnt x) (x.2.2 - P) ++ tk P a ++ tk P b
    rw [tk_app P a b, List.append_assoc]
def stp (e x : Int) : Int := max 0 (e + x)
def EF (e : Int) (W : List Int) : Int := W.foldl stp e
abbrev E (W : List Int) : Int := EF 0 W
theorem EF_app (e : Int) (A B : List Int) : EF e (A ++ B) = EF (EF e A) B := List.foldl_append
theorem EF_nn : ∀ (W : List Int) {e : Int}, 0 ≤ e → 0 ≤ EF e W
  | [], e, h => h
  | x :: r, e, h => EF_nn r (by unfold stp; omega)
theorem EF_rep (x : Int) : ∀ (c : Nat) {e : Int}, 0 ≤ e → EF e (List.replicate c x) = max 0 (e + (c : Int) * x)
  | 0, e, h => by show e = _; simp; omega
  | c + 1, e, h => by
    rw [List.replicate_succ', EF_app, EF_rep x c h]
    show stp _ x = _
    unfold stp
    have e1 : (((c + 1 : Nat) : Int)) * x = (c : Int) * x + x := by
      rw [Int.natCast_add, Int.add_mul]; simp
    rw [e1]
    by_cases hx : 0 ≤ x
    · have := Int.mul_nonneg (Int.natCast_nonneg c) hx
      omega
    · omega
theorem rep_mono {x : Int} {k c : Nat} (h : k ≤ c) (hx : 0 ≤ x) : (k : Int) * x ≤ (c : Int) * x := Int.mul_le_mul_of_nonneg_right (by omega) hx
theorem rep_neg {x : Int} {k : Nat} (hx : x ≤ 0) : (k : Int) * x ≤ 0 := Int.mul_nonpos_of_nonneg_of_nonpos (by omega) hx
theorem sum_rep (x : Int) : ∀ c : Nat, (List.replicate c x).sum = (c : Int) * x
  | 0 => by simp
  | c + 1 => by
    rw [List.replicate_succ, List.sum_cons, sum_rep x c, Int.natCast_add, Int.add_mul]
    simp
    omega
structure LcI (W : List Int) (b0 b1 b2 taken since : Int) : Prop where
  e : E W = max 0 taken
  le : ∀ t, t ≤ W.length → E (W.take t) ≤ b0
  s0 : 0 ≤ since
  s1 : since ≤ W.length
  tk : taken = W.sum - (W.take since.toNat).sum
  b : (b0 = 0 ∧ b1 = 0 ∧ b2 = 0) ∨ (0 < b0 ∧ 0 ≤ b1 ∧ b1 < b2 ∧ b2 ≤ W.length ∧ b0 = (W.take b2.toNat).sum - (W.take b1.toNat).sum ∧ E (W.take b2.toNat) = b0)
theorem LcI.start : LcI [] 0 0 0 0 0 := ⟨rfl, fun t _ => by rw [List.take_nil]; exact Int.le_refl _, Int.le_refl _, Int.le_refl _, rfl, .inl ⟨rfl, rfl, rfl⟩⟩
theorem take_left {W : List Int} (B : List Int) {t : Nat} (h : t ≤ W.length) : (W ++ B).take t = W.take t := List.take_append_of_le_length h
theorem LcI.nn {W : List Int} {b0 b1 b2 taken since : Int} (I : LcI W b0 b1 b2 taken since) : 0 ≤ b0 := by
  rcases I.b with h | h
  · omega
  · omega
theorem LcI.step {W : List Int} {b0 b1 b2 taken since : Int} (I : LcI W b0 b1 b2 taken since) {c : Nat} (hc : 0 < c) {x t0 s0 t1 : Int}
    (h0 : t0 = if taken ≤ 0 then 0 else taken) (hs : s0 = if taken ≤ 0 then (W.length : Int) else since) (h1 : t1 = t0 + (c : Int) * x) :
    (t1 > b0 → LcI (W ++ List.replicate c x) t1 s0 ((W.length : Int) + c) t1 s0) ∧ (¬ t1 > b0 → LcI (W ++ List.replicate c x) b0 b1 b2 t1 s0) := by
  have hb := I.nn
  have he : EF 0 W = max 0 taken := I.e
  have hl : ∀ t, t ≤ W.length → EF 0 (W.take t) ≤ b0 := I.le
  have hE : EF (E W) (List.replicate c x) = max 0 t1 := by
    rw [EF_rep x c (EF_nn W (Int.le_refl 0)), he, h1, h0]
    split <;> omega
  have hEW : E (W ++ List.replicate c x) = max 0 t1 := by rw [show E (W ++ List.replicate c x) = EF (E W) (List.replicate c x) from EF_app 0 _ _, hE]
  have hS : (W ++ List.replicate c x).sum = W.sum + (c : Int) * x := by rw [List.sum_append, sum_rep]
  have hs1 : 0 ≤ s0 ∧ s0 ≤ (W.length : Int) := by
    have := I.s0
    have := I.s1
    rw [hs]; split <;> omega
  have hlen : ((W ++ List.replicate c x).length : Int) = (W.length : Int) + c := by simp
  have hT : t1 = (W ++ List.replicate c x).sum - ((W ++ List.replicate c x).take s0.toNat).sum := by
    rw [hS, take_left _ (by omega), h1, h0, hs]
    split
    · rw [show ((W.length : Int)).toNat = W.length by omega, List.take_length]; omega
    · have := I.tk
      omega
  have hle : ∀ (m : Int), b0 ≤ m → t1 ≤ m → ∀ t, t ≤ (W ++ List.replicate c x).length → E ((W ++ List.replicate c x).take t) ≤ m := by
    intro m hm1 hm2 t ht
    by_cases htl : t ≤ W.length
    · rw [take_left _ htl]
      exact Int.le_trans (hl t htl) hm1
    · have e1 : (W ++ List.replicate c x).take t = W ++ List.replicate (t - W.length) x := by
        rw [List.take_append, List.take_of_length_le (by omega), List.take_replicate]
        congr 2
        rw [List.length_append, List.length_replicate] at ht
        omega
      rw [e1, show E (W ++ List.replicate (t - W.length) x) = EF (E W) (List.replicate (t - W.length) x) from EF_app 0 _ _, EF_rep x _ (EF_nn W (Int.le_refl 0))]
      have hk : t - W.length ≤ c := by
        rw [List.length_append, List.length_replicate] at ht
        omega
      have hEle := hl W.length (Nat.le_refl _)
      rw [List.take_length] at hEle
      by_cases hx : 0 ≤ x
      · have := rep_mono hk hx
        have : t1 = max 0 taken + (c : Int) * x := by rw [h1, h0]; split <;> omega
        omega
      · have := rep_neg (x := x) (k := t - W.length) (by omega)
        omega
  refine ⟨fun hg => ⟨hEW, hle t1 (by omega) (Int.le_refl _), hs1.1, by omega, hT, .inr ⟨by omega, hs1.1, by omega, by omega, ?_, ?_⟩⟩, fun hg => ⟨hEW, hle b0 (Int.le_refl _) (by omega), hs1.1, by omega, hT, ?_⟩⟩
  · rw [show ((W.length : Int) + c).toNat = (W ++ List.replicate c x).length by simp; omega, List.take_length]
    exact hT
  · rw [show ((W.length : Int) + c).toNat = (W ++ List.replicate c x).length by simp; omega, List.take_length, hEW]
    omega
  · rcases I.b with h | ⟨g1, g2, g3, g4, g5, g6⟩
    · exact .inl h
    · refine .inr ⟨g1, g2, g3, by omega, ?_, ?_⟩
      · rw [take_left _ (by omega), take_left _ (by omega)]; exact g5
      · rw [take_left _ (by omega)]; exact g6
theorem Chain.len : ∀ {d : Dr} {t : Int} (P : Int), Chain t d → ∀ {x : Tr} {a : Dr}, d = a ++ [x] → (t + ((tk P d).length : Int) = x.2.1)
  | [], t, P, _, x, a, e => by simp at e
  | y :: r, t, P, ⟨h1, h2, h3⟩, x, a, e => by
    cases a with
    | nil =>
      obtain ⟨rfl, rfl⟩ : y = x ∧ r = [] := by simpa using e
      show t + ((List.replicate (cnt y) (y.2.2 - P) ++ tk P []).length : Int) = _
      simp [tk, cnt]
      omega
    | cons z a =>
      obtain ⟨rfl, rfl⟩ : y = z ∧ r = a ++ [x] := by simpa using e
      have ih := Chain.len P h3 rfl
      show t + ((List.replicate (cnt y) (y.2.2 - P) ++ tk P (a ++ [x])).length : Int) = _
      rw [List.length_append, List.length_replicate]
      unfold cnt
      omega
/-- at each stretch: where it begins -/
theorem Chain.at : ∀ {d : Dr} {t : Int} (P : Int), Chain t d → ∀ {a b : Dr} {x : Tr}, d = a ++ x :: b → x.1 = t + ((tk P a).length : Int) ∧ x.1 < x.2.1
  | [], t, P, _, a, b, x, e => by simp at e
  | y :: r, t, P, ⟨h1, h2, h3⟩, a, b, x, e => by
    cases a with
    | nil =>
      obtain ⟨rfl, rfl⟩ : y = x ∧ r = b := by simpa using e
      exact ⟨by simp [tk]; omega, h2⟩
    | cons z a =>
      obtain ⟨rfl, rfl⟩ : y = z ∧ r = a ++ x :: b := by simpa using e
      have ih := Chain.at P h3 rfl
      refine ⟨?_, ih.2⟩
      show x.1 = t + ((List.replicate (cnt y) (y.2.2 - P) ++ tk P a).length : Int)
      rw [List.length_append, List.length_replicate]
      unfold cnt
      omega
def fl (cap : Int) : Int → List Int → Option Nat
  | _, [] => none
  | e, x :: r => if e + x > cap then some 0 else (fl cap (stp e x) r).map (· + 1)
theorem fl_app (cap : Int) : ∀ (A B : List Int) (e : Int), fl cap e (A ++ B) = match fl cap e A with | some t => some t | none => (fl cap (EF e A) B).map (· + A.length)
  | [], B, e => by
    show fl cap e B = (fl cap e B).map (· + 0)
    cases fl cap e B <;> rfl
  | x :: A, B, e => by
    show (if e + x > cap then some 0 else (fl cap (stp e x) (A ++ B)).map (· + 1)) = match (if e + x > cap then some 0 else (fl cap (stp e x) A).map (· + 1)) with | some t => some t | none => (fl cap (EF (stp e x) A) B).map (· + (A.length + 1))
    rw [fl_app cap A B (stp e x)]
    by_cases h : e + x > cap
    · rw [if_pos h, if_pos h]
    · rw [if_neg h, if_neg h]
      cases fl cap (stp e x) A with
      | some t => rfl
      | none =>
        cases fl cap (EF (stp e x) A) B with
        | none => rfl
        | some t => show some (t + A.length + 1) = some (t + (A.length + 1)); congr 1
def good (cap e x : Int) (c : Nat) : Int := if cap - e - x < 0 then 0 else if -x ≥ 0 then (c : Int) else min (c : Int) ((cap - e) / x)
theorem div_step {a x : Int} (hx : 0 < x) : (a - x) / x = a / x - 1 := by
  have := Int.add_mul_ediv_right a (-1) (show x ≠ 0 by omega)
  rw [show a - x = a + -1 * x by omega, this]
  omega
theorem good_ok {cap x : Int} : ∀ (c : Nat) {e : Int}, 0 ≤ e → e ≤ cap → 0 ≤ good cap e x c ∧ good cap e x c ≤ c ∧ (good cap e x c < c → fl cap e (List.replicate c x) = some (good cap e x c).toNat) ∧ (¬ good cap e x c < c → fl cap e (List.replicate c x) = none)
  | 0, e, h0, h1 => by
    have : 0 ≤ good cap e x 0 ∧ good cap e x 0 ≤ 0 := by
      unfold good
      split
      · simp
      · split
        · simp
        · have := Int.ediv_nonneg (show 0 ≤ cap - e by omega) (show 0 ≤ x by omega)
          omega
    exact ⟨this.1, by simpa using this.2, fun h => by have : good cap e x 0 < 0 := h; omega, fun _ => rfl⟩
  | c + 1, e, h0, h1 => by
    by_cases hg : cap - e - x < 0
    · have eg : good cap e x (c + 1) = 0 := if_pos hg
      rw [eg]
      refine ⟨Int.le_refl _, by omega, fun _ => ?_, fun h => by omega⟩
      show (if e + x > cap then some 0 else _) = _
      rw [if_pos (by omega)]; rfl
    · have hs : 0 ≤ stp e x ∧ stp e x ≤ cap := by unfold stp; omega
      obtain ⟨i1, i2, i3, i4⟩ := good_ok c hs.1 hs.2 (x := x)
      have ef : fl cap e (List.replicate (c + 1) x) = (fl cap (stp e x) (List.replicate c x)).map (· + 1) := by
        show (if e + x > cap then some 0 else _) = _
        rw [if_neg (by omega)]
      have eg : good cap e x (c + 1) = good cap (stp e x) x c + 1 := by
        unfold good
        rw [if_neg hg]
        by_cases hx : -x ≥ 0
        · rw [if_pos hx, if_neg (by omega), if_pos hx]; omega
        · rw [if_neg hx, if_neg hx]
          have es : stp e x = e + x := by unfold stp; omega
          rw [es]
          have ed := div_step (a := cap - e) (x := x) (by omega)
          rw [show cap - (e + x) = cap - e - x by omega, ed]
          have q1 : 1 ≤ (cap - e) / x := by
            refine (Int.le_ediv_iff_mul_le (by omega)).mpr (by omega)
          by_cases hh : cap - e - x - x < 0
          · rw [if_pos hh]
            have q2 : (cap - e) / x < 2 := by
              refine (Int.ediv_lt_iff_lt_mul (by omega)).mpr (by omega)
            omega
          · rw [if_neg hh]
            omega
      rw [eg, ef]
      refine ⟨by omega, by omega, fun h => ?_, fun h => ?_⟩
      · rw [i3 (by omega)]
        show some ((good cap (stp e x) x c).toNat + 1) = _
        congr 1
        omega
      · rw [i4 (by omega)]; rfl
theorem fl_none_le {cap : Int} : ∀ (W : List Int) {e : Int}, e ≤ cap → 0 ≤ cap → fl cap e W = none → EF e W ≤ cap
  | [], e, h, _, _ => h
  | x :: r, e, h, h0, hf => by
    have hf' : (if e + x > cap then some 0 else (fl cap (stp e x) r).map (· + 1)) = none := hf
    by_cases hx : e + x > cap
    · rw [if_pos hx] at hf'; cases hf'
    · rw [if_neg hx] at hf'
      exact fl_none_le r (by unfold stp; omega) h0 (by simpa using hf')
theorem fl_none {cap : Int} (h0 : 0 ≤ cap) : ∀ (W : List Int) {e : Int}, fl cap e W = none ↔ ∀ t, t < W.length → EF e (W.take (t + 1)) ≤ cap
  | [], e => Iff.intro (fun _ t h => absurd h (Nat.not_lt_zero _)) (fun _ => rfl)
  | x :: r, e => by
    have ih := fl_none h0 r (e := stp e x)
    have hd : fl cap e (x :: r) = (if e + x > cap then some 0 else (fl cap (stp e x) r).map (· + 1)) := rfl
    rw [hd]
    by_cases hx : e + x > cap
    · rw [if_pos hx]
      refine ⟨fun h => (by cases h), fun h => ?_⟩
      have := h 0 (by simp)
      have e2 : EF e ((x :: r).take 1) = stp e x := by simp [EF]
      rw [e2] at this
      unfold stp at this
      omega
    · rw [if_neg hx, Option.map_eq_none_iff, ih]
      refine ⟨fun h t ht => ?_, fun h t ht => ?_⟩
      · cases t with
        | zero =>
          have e2 : EF e ((x :: r).take 1) = stp e x := by simp [EF]
          rw [e2]; unfold stp; omega
        | succ t => exact h t (by simpa using ht)
      · exact h (t + 1) (by simpa using ht)
theorem fl_some {cap : Int} (h0 : 0 ≤ cap) : ∀ (W : List Int) {e : Int} {t : Nat}, fl cap e W = some t → t < W.length ∧ cap < EF e (W.take (t + 1)) ∧ ∀ s, s < t → EF e (W.take (s + 1)) ≤ cap
  | [], e, t, h => by cases h
  | x :: r, e, t, h => by
    have hd : fl cap e (x :: r) = (if e + x > cap then some 0 else (fl cap (stp e x) r).map (· + 1)) := rfl
    rw [hd] at h
    have e2 : EF e ((x :: r).take 1) = stp e x := by simp [EF]
    by_cases hx : e + x > cap
    · rw [if_pos hx] at h
      cases h
      refine ⟨by simp, ?_, fun s hs => absurd hs (Nat.not_lt_zero _)⟩
      rw [e2]; unfold stp; omega
    · rw [if_neg hx] at h
      obtain ⟨t', ht', rfl⟩ := Option.map_eq_some_iff.mp h
      obtain ⟨a, b, c⟩ := fl_some h0 r ht'
      refine ⟨by simpa using a, b, fun s hs => ?_⟩
      cases s with
      | zero => rw [e2]; unfold stp; omega
      | succ s => exact c s (by omega)
theorem Chain.snoc : ∀ {d : Dr} {t : Int} {x : Tr}, Chain t d → x.1 = t + ((tk 0 d).length : Int) → x.1 < x.2.1 → Chain t (d ++ [x])
  | [], t, x, _, e, h => ⟨by simpa [tk] using e, h, trivial⟩
  | y :: r, t, x, ⟨h1, h2, h3⟩, e, h => by
    refine ⟨h1, h2, Chain.snoc h3 ?_ h⟩
    have hl : ((tk 0 (y :: r)).length : Int) = (cnt y : Int) + ((tk 0 r).length : Int) := by
      show ((List.replicate (cnt y) (y.2.2 - 0) ++ tk 0 r).length : Int) = _
      rw [List.length_append, List.length_replicate]; omega
    rw [hl] at e
    unfold cnt at e
    omega
theorem tk_len_snoc (P : Int) (d : Dr) (x : Tr) : (tk P (d ++ [x])).length = (tk P d).length + cnt x := by
  rw [tk_app, List.length_append]
  show _ + (List.replicate (cnt x) (x.2.2 - P) ++ []).length = _
  simp
theorem tk_snoc (P : Int) (d : Dr) (x : Tr) : tk P (d ++ [x]) = tk P d ++ List.replicate (cnt x) (x.2.2 - P) := by
  rw [tk_app]
  show _ ++ (List.replicate (cnt x) (x.2.2 - P) ++ []) = _
  simp
theorem tk_le {m : Nat} (P : Int) : ∀ {d : Dr}, (∀ x ∈ d, x.2.1 - x.1 ≤ m) → (tk P d).length ≤ m * d.length
  | [], _ => by simp [tk]
  | x :: r, h => by
    have ih := tk_le P (fun y hy => h y (List.mem_cons_of_mem _ hy))
    have hx := h x (List.mem_cons_self ..)
    show (List.replicate (cnt x) (x.2.2 - P) ++ tk P r).length ≤ _
    rw [List.length_append, List.length_replicate, List.length_cons, Nat.mul_succ]
    unfold cnt
    omega
def ps : Int → List Int → List Int
  | s, [] => [s]
  | s, x :: r => s :: ps (s + x) r
structure DueI (W : List Int) (t : Nat) (low due : Int) : Prop where
  e : (W.take t).sum - low = E (W.take t)
  le : ∀ s, s ≤ t → E (W.take s) ≤ due
  ex : ∃ s, s ≤ t ∧ E (W.take s) = due
end Bw
namespace Bw
theorem EF_take_le {W : List Int} {m : Int} (h : ∀ t, t ≤ W.length → E (W.take t) ≤ m) (t : Nat) : E (W.take t) ≤ m := by
  by_cases ht : t ≤ W.length
  · exact h t ht
  · rw [List.take_of_length_le (by omega)]
    have := h W.length (Nat.le_refl _)
    rw [List.take_length] at this
    exact this
theorem fl_enough {W : List Int} {cap m : Int} (h : ∀ t, t ≤ W.length → E (W.take t) ≤ m) (h0 : 0 ≤ cap) (hc : m ≤ cap) : fl cap 0 W = none :=
  (fl_none h0 W).mpr fun t ht => Int.le_trans (EF_take_le h (t + 1)) hc
theorem E0 : E [] = 0 := rfl
/-- with less than what is told some tick lacks, none behind it -/
theorem fl_less {W : List Int} {cap : Int} (h0 : 0 ≤ cap) {b : Nat} (hb : b ≤ W.length) (hE : cap < E (W.take b)) : ∃ t, fl cap 0 W = some t ∧ t < b := by
  cases b with
  | zero =>
    rw [List.take_zero, E0] at hE
    omega
  | succ b =>
    cases hf : fl cap 0 W with
    | none =>
      have := (fl_none h0 W).mp hf b (by omega)
      have : E (W.take (b + 1)) ≤ cap := this
      omega
    | some t =>
      obtain ⟨h1, h2, h3⟩ := fl_some h0 W hf
      refine ⟨t, rfl, Nat.lt_of_not_le fun hle => ?_⟩
      have := h3 b (by omega)
      have : E (W.take (b + 1)) ≤ cap := this
      omega
/-- a sum of a stretch is no greater than what is held at its end -/
theorem EF_sum : ∀ (B : List Int) {e : Int}, 0 ≤ e → B.sum ≤ EF e B
  | [], e, h => h
  | x :: r, e, h => by
    have h2 : ∀ (r : List Int) (a b : Int), a ≤ b → EF a r ≤ EF b r := fun r => by
      induction r with
      | nil => intro a b h; exact h
      | cons y r ih => intro a b h; exact ih _ _ (by unfold stp; omega)
    have h3 : ∀ (r : List Int) (a : Int), a + r.sum ≤ EF a r := fun r => by
      induction r with
      | nil => intro a; show a + 0 ≤ a; omega
      | cons y r ih =>
        intro a
        have := ih (stp a y)
        rw [List.sum_cons]
        show a + (y + r.sum) ≤ EF (stp a y) r
        unfold stp at this ⊢
        omega
    have := h3 (x :: r) e
    omega
end Bw
namespace Bw
def ov (f b : Int) (x : Tr) : Int := max 0 (min x.2.1 b - max x.1 f)
def byS (P f b : Int) (x : Tr) : Int := (x.2.2 - P) * ov f b x
theorem take_rep (c n : Nat) (y : Int) (R : List Int) : ((List.replicate c y ++ R).take n).sum = ((min n c : Nat) : Int) * y + (R.take (n - c)).sum := by
  rw [List.take_append, List.take_replicate, List.length_replicate, List.sum_append, sum_rep]
theorem by_ok (P f b : Int) (hfb : f ≤ b) : ∀ {d : Dr} {t : Int}, Chain t d → (d.map (byS P f b)).sum = ((tk P d).take (b - t).toNat).sum - ((tk P d).take (f - t).toNat).sum
  | [], t, _ => by simp [tk]
  | x :: r, t, ⟨h1, h2, h3⟩ => by
    rw [List.map_cons, List.sum_cons, by_ok P f b hfb h3]
    show _ = ((List.replicate (cnt x) (x.2.2 - P) ++ tk P r).take (b - t).toNat).sum - ((List.replicate (cnt x) (x.2.2 - P) ++ tk P r).take (f - t).toNat).sum
    rw [take_rep, take_rep]
    have e1 : (b - t).toNat - cnt x = (b - x.2.1).toNat := by unfold cnt; omega
    have e2 : (f - t).toNat - cnt x = (f - x.2.1).toNat := by unfold cnt; omega
    rw [e1, e2]
    have e3 : ov f b x = ((min (b - t).toNat (cnt x) : Nat) : Int) - ((min (f - t).toNat (cnt x) : Nat) : Int) := by
      unfold ov cnt
      omega
    unfold byS
    rw [e3, Int.mul_sub, Int.mul_comm (x.2.2 - P), Int.mul_comm (x.2.2 - P)]
    omega
theorem tk_mem {P : Int} : ∀ {d : Dr} {y : Int}, y ∈ tk P d → ∃ x ∈ d, y = x.2.2 - P
  | [], y, h => by simp [tk] at h
  | x :: r, y, h => by
    have h' : y ∈ List.replicate (cnt x) (x.2.2 - P) ++ tk P r := h
    rcases List.mem_append.mp h' with h1 | h1
    · exact ⟨x, List.mem_cons_self .., (List.mem_replicate.mp h1).2⟩
    · obtain ⟨z, hz, e⟩ := tk_mem h1
      exact ⟨z, List.mem_cons_of_mem _ hz, e⟩
theorem tk_sum1 (P : Int) {x : Tr} (h : x.1 ≤ x.2.1) : (List.replicate (cnt x) (x.2.2 - P)).sum = (x.2.2 - P) * (x.2.1 - x.1) := by
  rw [sum_rep, Int.mul_comm]
  congr 1
  unfold cnt
  omega
/-- no stretch takes more than what is told -/
theorem lc_all {P : Int} {d : Dr} {b0 b1 b2 t s : Int} (L : LcI (tk P d) b0 b1 b2 t s) (k j : Nat) : (tk P ((d.drop k).take j)).sum ≤ b0 := by
  have e : tk P d = tk P (d.take k) ++ (tk P ((d.drop k).take j) ++ tk P ((d.drop k).drop j)) := by
    rw [← tk_app, List.take_append_drop, ← tk_app, List.take_append_drop]
  have h := L.le (tk P (d.take k) ++ tk P ((d.drop k).take j)).length (by rw [e]; simp)
  rw [e, ← List.append_assoc, List.take_append_of_le_length (Nat.le_refl _), List.take_length] at h
  have h' : EF (EF 0 (tk P (d.take k))) (tk P ((d.drop k).take j)) ≤ b0 := by rw [← EF_app]; exact h
  exact Int.le_trans (EF_sum _ (EF_nn _ (Int.le_refl 0))) h'
end Bw
namespace Bw
theorem EF_big {M : Int} (hM : 0 ≤ M) : ∀ (W : List Int) {e : Int}, 0 ≤ e → (∀ x ∈ W, x ≤ M) → EF e W ≤ e + M * (W.length : Int)
  | [], e, h, _ => by show e ≤ e + M * 0; omega
  | x :: r, e, h, hx => by
    have h1 := hx x (List.mem_cons_self ..)
    have ih := EF_big hM r (e := stp e x) (by unfold stp; omega) fun y hy => hx y (List.mem_cons_of_mem _ hy)
    have e1 : M * (((x :: r).length : Nat) : Int) = M * (r.length : Int) + M := by
      rw [List.length_cons, Int.natCast_add, Int.mul_add]; simp
    rw [e1]
    show EF (stp e x) r ≤ _
    have : stp e x ≤ e + M := by unfold stp; omega
    omega
theorem lc_big {P : Int} (hP : 0 ≤ P) {d : Dr} (hd : d.length ≤ 110) (hb : ∀ x ∈ d, 0 ≤ x.2.2 ∧ x.2.2 < 2 ^ 41 ∧ x.2.1 - x.1 < 2 ^ 35) {b0 b1 b2 t s : Int} (L : LcI (tk P d) b0 b1 b2 t s) : b0 ≤ 10 ^ 30 := by
  rcases L.b with h | ⟨g1, g2, g3, g4, g5, g6⟩
  · have : (0 : Int) ≤ 10 ^ 30 := by decide
    omega
  · have hl := tk_le (m := 34359738368) P (d := d) fun x hx => by have := hb x hx; omega
    have h1 := EF_big (M := 2199023255552) (by decide) ((tk P d).take b2.toNat) (e := 0) (Int.le_refl _) fun x hx => by
      obtain ⟨y, hy, rfl⟩ := tk_mem (List.mem_of_mem_take hx)
      have := hb y hy
      omega
    have h2 : ((tk P d).take b2.toNat).length ≤ 3779571220480 := by rw [List.length_take]; omega
    have h3 : E ((tk P d).take b2.toNat) ≤ 0 + 2199023255552 * (((tk P d).take b2.toNat).length : Int) := h1
    omega
end Bw
namespace Bw
end Bw
namespace Bw
end Bw

namespace Bw
open PySem L2 Og
theorem ty_ni {K : PySem.W.Frag} : PySem.W.kitOne K (.type "NoneType") (.type "int") = some false := by kernel_rfl
theorem cut_ints (ns : List Int) (lo hi : Option Int) : ∃ ms : List Int, cutV (ns.map V.int) lo hi = ms.map V.int ∧ ms.length ≤ ns.length := by
  unfold cutV
  refine ⟨(ns.drop (HT.sIx (ns.map V.int).length 0 lo)).take (HT.sIx (ns.map V.int).length (ns.map V.int).length hi - HT.sIx (ns.map V.int).length 0 lo), ?_, ?_⟩
  · rw [← List.map_drop, ← List.map_take]
  · rw [List.length_take, List.length_drop]
    omega
theorem ints_at {ns : List Int} {i : Int} (h0 : 0 ≤ i) (h1 : i < ns.length) : ∃ c, ns[i.toNat]? = some c ∧ c ∈ ns ∧ atI (ns.map V.int) i = some (.int c) := by
  have hlt : i.toNat < ns.length := by omega
  refine ⟨ns[i.toNat], List.getElem?_eq_getElem hlt, List.getElem_mem hlt, ?_⟩
  have e : (ns.map V.int)[i.toNat]? = some (.int ns[i.toNat]) := by rw [List.getElem?_map, List.getElem?_eq_getElem hlt]; rfl
  have := atI_nat e
  rw [show ((i.toNat : Nat) : Int) = i by omega] at this
  exact this
theorem at_last {α : Type} {xs : List α} {v : α} : atI (xs ++ [v]) (-1) = some v := by
  unfold atI ixN
  rw [if_neg (by decide), if_pos (by simp; omega)]
  simp
  rw [show (-1 + ((xs.length : Int) + 1)).toNat = xs.length by omega]
  simp
theorem ixN_of {n : Nat} {i : Int} (h0 : 0 ≤ i) (h1 : i < n) : ixN n i = some i.toNat := by unfold ixN; rw [if_pos h0, if_pos h1]
abbrev triV (x : Tr) : List V := [.int x.1, .int x.2.1, .int x.2.2]
structure DrAt (H : Hp) (a : Addr) (d : Dr) (ys : List V) : Prop where
  l : H a = some (.lst ys)
  p : Paired (fun x v => TupAt H (triV x) v) d ys
theorem DrAt.mono {H H' : Hp} {a : Addr} {d : Dr} {ys : List V} (h : DrAt H a d ys) (s : Same H H') : DrAt H' a d ys := ⟨s _ _ h.l, paired_mono s h.p⟩
theorem DrAt.len {H : Hp} {a : Addr} {d : Dr} {ys : List V} (h : DrAt H a d ys) : d.length = ys.length := h.p.length
theorem DrAt.at {H : Hp} {a : Addr} {d : Dr} {ys : List V} (h : DrAt H a d ys) {i : Nat} {y : V} (hi : ys[i]? = some y) : ∃ x T, d[i]? = some x ∧ x ∈ d ∧ y = .ref T ∧ H T = some (.tup (triV x)) := by
  obtain ⟨x, hx, T, e, q⟩ := Og.paired_get' h.p hi
  exact ⟨x, T, hx, List.mem_of_getElem? hx, e, q⟩
theorem split_at {α : Type} {l : List α} {i : Nat} {x : α} (h : l[i]? = some x) : l = l.take i ++ x :: l.drop (i + 1) ∧ l.take (i + 1) = l.take i ++ [x] := by
  obtain ⟨hi, e⟩ := List.getElem?_eq_some_iff.mp h
  refine ⟨?_, ?_⟩
  · rw [← e, ← List.drop_eq_getElem_cons hi, List.take_append_drop]
  · rw [List.take_add_one, h]; rfl
/-- what the laws' draughts keep to -/
def Bd (d : Dr) : Prop := ∀ x ∈ d, 0 ≤ x.2.2 ∧ x.2.2 < 2 ^ 41 ∧ x.2.1 - x.1 < 2 ^ 35
def DH (H : Hp) (dh pc : Addr) (n : Nat) : Prop := ∃ (cs : List Int) (m r : Int), H dh = some (.lst [.ref pc, .int m, .int r, .int (n : Int)]) ∧ H pc = some (.lst (cs.map V.int)) ∧ dh ≠ pc ∧ (∀ c ∈ cs, 0 ≤ c) ∧ 0 ≤ m ∧ m ≤ cs.length ∧ 0 ≤ r ∧ r < 2147483647 ∧ cs.length ≤ 64
def Fr2 (H H' : Hp) (dh pc : Addr) : Prop := ∀ b, b ≠ dh → b ≠ pc → H' b = H b
theorem Fr2.same {H H' H0 : Hp} {dh pc : Addr} (f : Fr2 H H' dh pc) (s : Same H0 H) (h1 : H0 dh = none) (h2 : H0 pc = none) : Same H0 H' := fun b o e => by
  rw [f b (ne_of_none e h1) (ne_of_none e h2)]
  exact s b o e
theorem iteD {c A B : Prop} [Decidable c] (hc : c) (h : A) : if decide c = true then A else B := by
  rw [decide_eq_true hc]
  exact iteT h
theorem iteND {c A B : Prop} [Decidable c] (hc : ¬ c) (h : B) : if decide c = true then A else B := by
  rw [decide_eq_false hc]
  exact iteF h
theorem DH.same {H H' : Hp} {dh pc : Addr} {n : Nat} (D : DH H dh pc n) (s : Same H H') : DH H' dh pc n := by
  obtain ⟨cs, m, r, e1, e2, e3⟩ := D
  exact ⟨cs, m, r, s _ _ e1, s _ _ e2, e3⟩
theorem DH.upd {H : Hp} {dh pc l : Addr} {n : Nat} {o : HO} (D : DH H dh pc n) (h1 : l ≠ dh) (h2 : l ≠ pc) : DH (upd H l o) dh pc n := by
  obtain ⟨cs, m, r, e1, e2, e3⟩ := D
  exact ⟨cs, m, r, by rw [upd_ne (Ne.symm h1)]; exact e1, by rw [upd_ne (Ne.symm h2)]; exact e2, e3⟩
theorem DrAt.fr {H H' : Hp} {dh pc l : Addr} {k : Nat} {d : Dr} {ys : List V} (A : DrAt H l d ys) (f : Fr2 H H' dh pc) (D : DH H dh pc k) (n1 : l ≠ dh) (n2 : l ≠ pc) : DrAt H' l d ys := by
  obtain ⟨cs, m, r, e1, e2, e3⟩ := D
  refine ⟨by rw [f l n1 n2]; exact A.l, Paired.mapP A.p fun x v ⟨T, ev, hT⟩ => ⟨T, ev, ?_⟩⟩
  rw [f T (ne_of hT e1 (by intro z; cases z)) (ne_of hT e2 (by intro z; cases z))]
  exact hT
theorem DrAt.snoc {H : Hp} {l T : Addr} {d : Dr} {ys : List V} {x : Tr} (A : DrAt H l d ys) (hT : H T = some (.tup (triV x))) : DrAt (L2.upd H l (.lst (ys ++ [.ref T]))) l (d ++ [x]) (ys ++ [.ref T]) :=
  ⟨upd_same, Paired.snoc (paired_upd A.p A.l) (TupAt.upd ⟨T, rfl, hT⟩ A.l)⟩
def spCa (K : PySem.W.Frag) : Sp := fun vs H Q _ => ∃ (a : Addr) (k : Nat) (ns : List Int), vs = [.ref a, .int (k : Nat)] ∧ SqL K H a (ns.map V.int) ∧ ∀ c, Q (.int c) H
def spWh : Sp := fun vs H Q _ => ∃ (x : V) (b : Bool), vs = [x] ∧ ((∃ i, x = .int i ∧ b = true) ∨ (x = .non ∧ b = false)) ∧ Q (.bl b) H
def spDn (K : PySem.W.Frag) : Sp := fun vs H Q _ => ∃ (a : Addr) (st : Int) (ns : List Int), vs = [.ref a, .int st] ∧ SqL K H a (ns.map V.int) ∧ 0 ≤ st ∧ st < 2147483647 ∧ ns.length ≤ 63 ∧ ∀ dh pc H', H dh = none → H pc = none → Same H H' → DH H' dh pc 0 → Q (.ref dh) H'
def spDr : Sp := fun vs H Q _ => ∃ (dh pc : Addr) (n : Nat) (many : Int), vs = [.ref dh, .int many] ∧ DH H dh pc n ∧ n < 1000000 ∧ 0 < many ∧ many < 1073741824 ∧ ∀ (r : Int) H', 0 ≤ r → r < many → DH H' dh pc (n + 1) → Fr2 H H' dh pc → Q (.int r) H'
def spDg (K : PySem.W.Frag) : Sp := fun vs H Q _ => ∃ (a : Addr) (st : Nat) (far : Bool) (ns : List Int), vs = [.ref a, .int (st : Nat), .bl far] ∧ SqL K H a (ns.map V.int) ∧ ns.length ≤ 63 ∧
  ∀ l ys d H', Same H H' → DrAt H' l d ys → Chain 0 d → d ≠ [] → d.length ≤ 110 → Bd d → (far = false → ∀ x ∈ d, x.2.1 - x.1 ≤ 4 ∧ x.2.2 ≤ 10) → Q (.ref l) H'
def spLc : Sp := fun vs H Q _ => ∃ (a : Addr) (d : Dr) (ys : List V) (P : Int), vs = [.ref a, .int P] ∧ DrAt H a d ys ∧ Chain 0 d ∧ Bd d ∧ d.length ≤ 1000 ∧
  ∀ p b0 b1 b2 taken since H', Same H H' → H' p = some (.tup [.int b0, .int b1, .int b2]) → LcI (tk P d) b0 b1 b2 taken since → Q (.ref p) H'
def gd (th ri c : Int) : Int := if th + ri < 0 then 0 else if ri ≥ 0 then c else if th / -ri < c then th / -ri else c
theorem gd_good (cap e P w : Int) (c : Nat) : gd (cap - e) (P - w) c = good cap e (w - P) c := by
  unfold gd good
  rw [show -(P - w) = w - P by omega]
  by_cases h1 : cap - e + (P - w) < 0
  · rw [if_pos h1, if_pos (show cap - e - (w - P) < 0 by omega)]
  · rw [if_neg h1, if_neg (show ¬ cap - e - (w - P) < 0 by omega)]
    by_cases h2 : P - w ≥ 0
    · rw [if_pos h2, if_pos (show -(w - P) ≥ 0 by omega)]
    · rw [if_neg h2, if_neg (show ¬ -(w - P) ≥ 0 by omega)]
      split <;> omega
def coV : Option Nat → Int → List V
  | some t, _ => [.int (t : Int), .non]
  | none, th => [.non, .int th]
def oV : Option Nat → V
  | some t => .int (t : Int)
  | none => .non
def spGt : Sp := fun vs H Q _ => ∃ (th ri c : Int), vs = [.int th, .int ri, .int c] ∧ -ri < 2 ^ 200 ∧ Q (.int (gd th ri c)) H
def spCo : Sp := fun vs H Q _ => ∃ (a : Addr) (d : Dr) (ys : List V) (P cap : Int), vs = [.ref a, .int P, .int cap] ∧ DrAt H a d ys ∧ Chain 0 d ∧ Bd d ∧ 0 ≤ P ∧ 0 ≤ cap ∧
  ∀ p H', Same H H' → H' p = some (.tup (coV (fl cap 0 (tk P d)) (cap - E (tk P d)))) → Q (.ref p) H'
def spFi : Sp := fun vs H Q _ => ∃ (a : Addr) (d : Dr) (ys : List V) (P cap : Int), vs = [.ref a, .int P, .int cap] ∧ DrAt H a d ys ∧ Chain 0 d ∧ Bd d ∧ 0 ≤ P ∧ 0 ≤ cap ∧
  ∀ H', Same H H' → Q (oV (fl cap 0 (tk P d))) H'
def spPu (K : PySem.W.Frag) : Sp := fun vs H Q _ => ∃ (a l : Addr) (ns : List Int) (d : Dr) (ys : List V), vs = [.ref a, .ref l] ∧ SqL K H a (ns.map V.int) ∧ DrAt H l d ys ∧ d ≠ [] ∧ d.length ≤ 110 ∧ Bd d ∧
  ∀ P H', Same H H' → 0 ≤ P → P < 2 ^ 60 → Q (.int P) H'
def spBy : Sp := fun vs H Q _ => ∃ (l : Addr) (d : Dr) (ys : List V) (P f b : Int), vs = [.ref l, .int P, .int f, .int b] ∧ DrAt H l d ys ∧ Bd d ∧ 0 ≤ P ∧ P < 2 ^ 60 ∧ Q (.int (d.map (byS P f b)).sum) H
def spLaw (K : PySem.W.Frag) : Sp := fun vs H Q _ => ∃ (a : Addr) (ns : List Int), vs = [.ref a] ∧ SqL K H a (ns.map V.int) ∧ ns.length ≤ 63 ∧ ∀ H', Q (.bl true) H'
theorem go_while {c : TT} {tb u : TS} {D : Ends} {r : VK} {b k : St → Hp → Prop} {σ : St} {H : Hp} (h : tWhile c tb { D with nx := u D } σ H) : ({ nx := tSeq (tWhile c tb) u D, rt := r, bk := b, ct := k } : Ends).nx σ H := h
end Bw

namespace Sm
open PySem PyProof.Rows
def gallop' : Bool → Keyed → Array Keyed → Nat → Nat → Nat → StateT SortSt Sem (Option Nat) := sortPriv% PySem.Builtin.gallop
def mergeLo' : Array Keyed → Array Keyed → StateT SortSt Sem (Array Keyed) := sortPriv% PySem.Builtin.mergeLo
def mergeHi' : Array Keyed → Array Keyed → StateT SortSt Sem (Array Keyed) := sortPriv% PySem.Builtin.mergeHi
def setG' : Nat → StateT SortSt Sem Unit := sortPriv% PySem.Builtin.setMinGallop
theorem elem_fold : (sortPriv% PySem.Builtin.elem) = elem' := rfl
theorem lt_fold : (sortPriv% PySem.Builtin.lt) = lt' := rfl
theorem gallop_fold : (sortPriv% PySem.Builtin.gallop) = gallop' := rfl
theorem setG_fold : (sortPriv% PySem.Builtin.setMinGallop) = setG' := rfl
theorem mergeLo_fold : (sortPriv% PySem.Builtin.mergeLo) = mergeLo' := rfl
theorem mergeHi_fold : (sortPriv% PySem.Builtin.mergeHi) = mergeHi' := rfl
-- `delta gallopOpen` opens the library's gallop, which is private there
local macro_rules | `(tactic| delta gallopOpen) => `(tactic| delta $(Lean.mkCIdent (Lean.mkPrivateNameCore `PySem.Builtin.List.W1All `PySem.Builtin.gallop)))
section
variable {prog : Program} {w : World} {A : Around} {E : Value → Shared → Prop} {s : Shared}
/-- the question of two items is answered by L, and nothing else is touched -/
def LtOk (prog : Program) (w : World) (A : Around) (E : Value → Shared → Prop) (s : Shared) (S : Keyed → Prop) (L : Keyed → Keyed → Bool) (κ : SortKind) : Prop :=
  ∀ (x y : Keyed) (st : SortSt) (Q : Option Bool → SortSt → Prop), S x → S y → kindOf st = κ → Q (some (L x y)) st → wpS (model prog w) A E s (lt' x y) Q st
theorem wpS_gallop {S : Keyed → Prop} {L : Keyed → Keyed → Bool} {κ : SortKind} {left : Bool} {key : Keyed} {arr : Array Keyed} {base n hint : Nat} {st : SortSt} {Q : Option Nat → SortSt → Prop} {b : Nat → Bool}
    (hL : LtOk prog w A E s S L κ) (hk : kindOf st = κ) (hh : hint < n) (hsz : base + n ≤ arr.size) (hS : ∀ (i : Nat) x, arr[i]? = some x → S x) (hkey : S key)
    (hb : ∀ i x, i < n → arr[base + i]? = some x → (if left then L x key else !L key x) = b i) (mono : ∀ i j, i ≤ j → j < n → b j = true → b i = true)
    (h : ∀ k, k ≤ n → (∀ i, i < k → b i = true) → (∀ i, k ≤ i → i < n → b i = false) → Q (some k) st) : wpS (model prog w) A E s (gallop' left key arr base n hint) Q st := by
  delta gallop'
  delta gallopOpen
  dsimp only [elem_fold, lt_fold]
  have bey : ∀ i, i < n → ∀ Q : Option Bool → SortSt → Prop, Q (some (b i)) st → wpS (model prog w) A E s (do
      let x ← elem' arr (base + i)
      if left then lt' x key else return (← lt' key x).map (!·)) Q st := by
    intro i hi Q q
    obtain ⟨x, hx⟩ : ∃ x, arr[base + i]? = some x := ⟨_, Array.getElem?_eq_getElem (by omega)⟩
    rw [elem'_eq, hx]
    refine wpS_bind (wpS_pure ?_)
    have e := hb i x hi hx
    cases left with
    | true =>
      rw [if_pos rfl] at e ⊢
      exact hL x key st Q (hS _ _ hx) hkey hk (by rw [e]; exact q)
    | false =>
      rw [if_neg Bool.false_ne_true] at e ⊢
      exact wpS_bind (hL key x st _ hkey (hS _ _ hx) hk (wpS_pure (by show Q (some (!L key x)) st; rw [e]; exact q)))
  refine wpS_bind (bey hint hh _ ?_)
  dsimp only
  have no : ∀ i j, i ≤ j → j < n → b i = false → b j = false := fun i j hij hj hf => by
    cases hbj : b j with
    | false => rfl
    | true => rw [mono i j hij hj hbj] at hf; cases hf
  cases hq : b hint with
  | true =>
    rw [if_pos rfl]
    refine wpS_bind (wpS_mono (wpS_forRange (I := fun i c st' => st' = st ∧ ∃ la o, c = (none, la, o) ∧ la < o ∧ hint + la < n ∧ b (hint + la) = true ∧ i < o)
      (Q := fun c st' => st' = st ∧ ∃ la o, c = (none, la, o) ∧ la < o ∧ hint + la < n ∧ b (hint + la) = true ∧ (n - hint ≤ o ∨ b (hint + o) = false)) ?st1 ?en1 ⟨rfl, 0, 1, rfl, by omega, by omega, hq, by omega⟩) ?po1)
    case en1 =>
      rintro c st' ⟨rfl, la, o, rfl, h1, h2, h3, h4⟩
      exact ⟨rfl, la, o, rfl, h1, h2, h3, .inl (by omega)⟩
    case st1 =>
      rintro i c st' _ hi ⟨rfl, la, o, rfl, h1, h2, h3, h4⟩
      dsimp only
      by_cases hge : o ≥ n - hint
      · rw [if_pos hge]
        exact wpS_pure ⟨rfl, la, o, rfl, h1, h2, h3, .inl hge⟩
      · rw [if_neg hge]
        refine wpS_bind (bey (hint + o) (by omega) _ ?_)
        cases hbo : b (hint + o) with
        | true => exact wpS_pure ⟨rfl, o, 2 * o + 1, rfl, by omega, by omega, hbo, by omega⟩
        | false => exact wpS_pure ⟨rfl, la, o, rfl, h1, h2, h3, .inr hbo⟩
    case po1 =>
      rintro c st' ⟨rfl, la, o, rfl, h1, h2, h3, h4⟩
      dsimp only
      have f1 : hint + la + 1 ≤ hint + min o (n - hint) := by omega
      have f2 : hint + min o (n - hint) ≤ n := by omega
      have f3 : ∀ i, i < hint + la + 1 → b i = true := fun i hi => mono i (hint + la) (by omega) h2 h3
      have f4 : ∀ i, hint + min o (n - hint) ≤ i → i < n → b i = false := fun i hi hin => by
        rcases h4 with h4 | h4
        · omega
        · by_cases ho : o ≤ n - hint
          · exact no (hint + o) i (by omega) hin h4
          · omega
      generalize hint + la + 1 = lo at f1 f3 ⊢
      generalize hint + min o (n - hint) = hi at f1 f2 f4 ⊢
      clear h1 h2 h3 h4
      refine wpS_bind (wpS_mono (wpS_forRange (I := fun i c st'' => st'' = st' ∧ ∃ lo hi, c = (none, lo, hi) ∧ lo ≤ hi ∧ hi ≤ n ∧ hi - lo + i ≤ n ∧ (∀ i, i < lo → b i = true) ∧ ∀ i, hi ≤ i → i < n → b i = false)
        (Q := fun c st'' => st'' = st' ∧ ∃ k, c = (none, k, k) ∧ k ≤ n ∧ (∀ i, i < k → b i = true) ∧ ∀ i, k ≤ i → i < n → b i = false) ?st2 ?en2 ⟨rfl, lo, hi, rfl, f1, f2, by omega, f3, f4⟩) ?po2)
      case en2 =>
        rintro c st'' ⟨rfl, lo, hi, rfl, g1, g2, g3, g4, g5⟩
        obtain rfl : lo = hi := by omega
        exact ⟨rfl, lo, rfl, g2, g4, g5⟩
      case st2 =>
        rintro i c st'' _ hin ⟨rfl, lo, hi, rfl, g1, g2, g3, g4, g5⟩
        dsimp only
        by_cases hge : lo ≥ hi
        · rw [if_pos hge]
          obtain rfl : lo = hi := by omega
          exact wpS_pure ⟨rfl, lo, rfl, g2, g4, g5⟩
        · rw [if_neg hge]
          refine wpS_bind (bey (lo + (hi - lo) / 2) (by omega) _ ?_)
          cases hbo : b (lo + (hi - lo) / 2) with
          | true => exact wpS_pure ⟨rfl, lo + (hi - lo) / 2 + 1, hi, rfl, by omega, g2, by omega, fun j hj => mono j _ (by omega) (by omega) hbo, g5⟩
          | false => exact wpS_pure ⟨rfl, lo, lo + (hi - lo) / 2, rfl, by omega, by omega, by omega, g4, fun j hj hjn => no _ j hj hjn hbo⟩
      case po2 =>
        rintro c st'' ⟨rfl, k, rfl, g2, g4, g5⟩
        exact wpS_pure (h k g2 g4 g5)
  | false =>
    rw [if_neg Bool.false_ne_true]
    refine wpS_bind (wpS_mono (wpS_forRange (I := fun i c st' => st' = st ∧ ∃ la o, c = (none, la, o) ∧ la < o ∧ la ≤ hint ∧ b (hint - la) = false ∧ i < o)
      (Q := fun c st' => st' = st ∧ ∃ la o, c = (none, la, o) ∧ la < o ∧ la ≤ hint ∧ b (hint - la) = false ∧ (hint + 1 ≤ o ∨ b (hint - o) = true)) ?st1 ?en1 ⟨rfl, 0, 1, rfl, by omega, by omega, hq, by omega⟩) ?po1)
    case en1 =>
      rintro c st' ⟨rfl, la, o, rfl, h1, h2, h3, h4⟩
      exact ⟨rfl, la, o, rfl, h1, h2, h3, .inl (by omega)⟩
    case st1 =>
      rintro i c st' _ hi ⟨rfl, la, o, rfl, h1, h2, h3, h4⟩
      dsimp only
      by_cases hge : o ≥ hint + 1
      · rw [if_pos hge]
        exact wpS_pure ⟨rfl, la, o, rfl, h1, h2, h3, .inl hge⟩
      · rw [if_neg hge]
        refine wpS_bind (bey (hint - o) (by omega) _ ?_)
        cases hbo : b (hint - o) with
        | true => exact wpS_pure ⟨rfl, la, o, rfl, h1, h2, h3, .inr hbo⟩
        | false => exact wpS_pure ⟨rfl, o, 2 * o + 1, rfl, by omega, by omega, hbo, by omega⟩
    case po1 =>
      rintro c st' ⟨rfl, la, o, rfl, h1, h2, h3, h4⟩
      dsimp only
      have f1 : hint + 1 - min o (hint + 1) ≤ hint - la := by omega
      have f2 : hint - la ≤ n := by omega
      have f3 : ∀ i, i < hint + 1 - min o (hint + 1) → b i = true := fun i hi => by
        rcases h4 with h4 | h4
        · omega
        · by_cases ho : o ≤ hint
          · exact mono i (hint - o) (by omega) (by omega) h4
          · omega
      have f4 : ∀ i, hint - la ≤ i → i < n → b i = false := fun i hi hin => no (hint - la) i hi hin h3
      generalize hint + 1 - min o (hint + 1) = lo at f1 f3 ⊢
      generalize hint - la = hi at f1 f2 f4 ⊢
      clear h1 h2 h4
      refine wpS_bind (wpS_mono (wpS_forRange (I := fun i c st'' => st'' = st' ∧ ∃ lo hi, c = (none, lo, hi) ∧ lo ≤ hi ∧ hi ≤ n ∧ hi - lo + i ≤ n ∧ (∀ i, i < lo → b i = true) ∧ ∀ i, hi ≤ i → i < n → b i = false)
        (Q := fun c st'' => st'' = st' ∧ ∃ k, c = (none, k, k) ∧ k ≤ n ∧ (∀ i, i < k → b i = true) ∧ ∀ i, k ≤ i → i < n → b i = false) ?st2 ?en2 ⟨rfl, lo, hi, rfl, f1, f2, by omega, f3, f4⟩) ?po2)
      case en2 =>
        rintro c st'' ⟨rfl, lo, hi, rfl, g1, g2, g3, g4, g5⟩
        obtain rfl : lo = hi := by omega
        exact ⟨rfl, lo, rfl, g2, g4, g5⟩
      case st2 =>
        rintro i c st'' _ hin ⟨rfl, lo, hi, rfl, g1, g2, g3, g4, g5⟩
        dsimp only
        by_cases hge : lo ≥ hi
        · rw [if_pos hge]
          obtain rfl : lo = hi := by omega
          exact wpS_pure ⟨rfl, lo, rfl, g2, g4, g5⟩
        · rw [if_neg hge]
          refine wpS_bind (bey (lo + (hi - lo) / 2) (by omega) _ ?_)
          cases hbo : b (lo + (hi - lo) / 2) with
          | true => exact wpS_pure ⟨rfl, lo + (hi - lo) / 2 + 1, hi, rfl, by omega, g2, by omega, fun j hj => mono j _ (by omega) (by omega) hbo, g5⟩
          | false => exact wpS_pure ⟨rfl, lo, lo + (hi - lo) / 2, rfl, by omega, by omega, by omega, g4, fun j hj hjn => no _ j hj hjn hbo⟩
      case po2 =>
        rintro c st'' ⟨rfl, k, rfl, g2, g4, g5⟩
        exact wpS_pure (h k g2 g4 g5)
end
section
variable {α : Type} {L : α → α → Bool} {A B : List α}
structure Swo (L : α → α → Bool) : Prop where
  asym : ∀ x y, L x y = true → L y x = false
  co : ∀ x y z, L x z = true → L x y = true ∨ L y z = true
def Risen (L : α → α → Bool) (l : List α) : Prop := l.Pairwise fun x y => L y x = false
structure Jm (L : α → α → Bool) (A B out : List α) (ia ib : Nat) : Prop where
  la : ia ≤ A.length
  lb : ib ≤ B.length
  pm : out.Perm (A.take ia ++ B.take ib)
  rs : Risen L out
  lo : ∀ x ∈ out, ∀ y, y ∈ A.drop ia ∨ y ∈ B.drop ib → L y x = false
def Good (L : α → α → Bool) (A B r : List α) : Prop := r.Perm (A ++ B) ∧ Risen L r
theorem Risen.snoc {l : List α} {x : α} (h : Risen L l) (hx : ∀ y ∈ l, L x y = false) : Risen L (l ++ [x]) :=
  List.pairwise_append.mpr ⟨h, List.pairwise_singleton .., fun a ha b hb => by rw [List.mem_singleton] at hb; rw [hb]; exact hx a ha⟩
theorem drop_at {l : List α} {i : Nat} {x : α} (h : l[i]? = some x) : l.drop i = x :: l.drop (i + 1) := by
  obtain ⟨hi, e⟩ := List.getElem?_eq_some_iff.mp h
  rw [List.drop_eq_getElem_cons hi, e]
theorem take_at {l : List α} {i : Nat} {x : α} (h : l[i]? = some x) : l.take (i + 1) = l.take i ++ [x] := by
  obtain ⟨hi, e⟩ := List.getElem?_eq_some_iff.mp h
  rw [List.take_succ_eq_append_getElem hi, e]
theorem Risen.tail {l : List α} {i : Nat} {x y : α} (hl : Risen L l) (h : l[i]? = some x) (hy : y ∈ l.drop (i + 1)) : L y x = false := by
  have h1 : Risen L (l.drop i) := hl.sublist (List.drop_sublist ..)
  rw [drop_at h] at h1
  exact (List.pairwise_cons.mp h1).1 y hy
theorem Jm.pushA {out : List α} {ia ib : Nat} {x : α} (J : Jm L A B out ia ib) (rA : Risen L A) (hx : A[ia]? = some x) (hl : ∀ y ∈ B.drop ib, L y x = false) : Jm L A B (out ++ [x]) (ia + 1) ib := by
  have hi := (List.getElem?_eq_some_iff.mp hx).1
  refine ⟨hi, J.lb, ?_, J.rs.snoc fun y hy => J.lo y hy x (.inl (by rw [drop_at hx]; exact List.mem_cons_self ..)), fun z hz y hy => ?_⟩
  · rw [take_at hx, List.append_assoc]
    exact (J.pm.append_right [x]).trans (by
      rw [List.append_assoc]
      exact List.Perm.append_left _ List.perm_append_comm)
  · rcases List.mem_append.mp hz with hz | hz
    · exact J.lo z hz y (hy.imp (fun h => by rw [drop_at hx]; exact List.mem_cons_of_mem _ h) id)
    · rw [List.mem_singleton] at hz
      subst hz
      rcases hy with hy | hy
      · exact rA.tail hx hy
      · exact hl y hy
theorem Jm.pushB {out : List α} {ia ib : Nat} {x : α} (J : Jm L A B out ia ib) (rB : Risen L B) (hx : B[ib]? = some x) (hl : ∀ y ∈ A.drop ia, L y x = false) : Jm L A B (out ++ [x]) ia (ib + 1) := by
  have hi := (List.getElem?_eq_some_iff.mp hx).1
  refine ⟨J.la, hi, ?_, J.rs.snoc fun y hy => J.lo y hy x (.inr (by rw [drop_at hx]; exact List.mem_cons_self ..)), fun z hz y hy => ?_⟩
  · rw [take_at hx, ← List.append_assoc]
    exact J.pm.append_right [x]
  · rcases List.mem_append.mp hz with hz | hz
    · exact J.lo z hz y (hy.imp id (fun h => by rw [drop_at hx]; exact List.mem_cons_of_mem _ h))
    · rw [List.mem_singleton] at hz
      subst hz
      rcases hy with hy | hy
      · exact hl y hy
      · exact rB.tail hx hy
theorem Jm.runA {out : List α} {ib : Nat} (rA : Risen L A) : ∀ (k ia : Nat) (out : List α), Jm L A B out ia ib → ia + k ≤ A.length → (∀ i x, ia ≤ i → i < ia + k → A[i]? = some x → ∀ y ∈ B.drop ib, L y x = false) → Jm L A B (out ++ (A.drop ia).take k) (ia + k) ib
  | 0, ia, out, J, _, _ => by rw [List.take_zero, List.append_nil]; exact J
  | k + 1, ia, out, J, hk, hl => by
    have hx : A[ia]? = some A[ia] := List.getElem?_eq_getElem (by omega)
    have J1 := J.pushA rA hx (hl ia _ (Nat.le_refl _) (by omega) hx)
    have := Jm.runA (out := out) rA k (ia + 1) _ J1 (by omega) fun i x h1 h2 => hl i x (by omega) (by omega)
    rw [drop_at hx, List.take_succ_cons, show out ++ A[ia] :: (A.drop (ia + 1)).take k = (out ++ [A[ia]]) ++ (A.drop (ia + 1)).take k by simp, show ia + (k + 1) = ia + 1 + k by omega]
    exact this
theorem Jm.runB {out : List α} {ia : Nat} (rB : Risen L B) : ∀ (k ib : Nat) (out : List α), Jm L A B out ia ib → ib + k ≤ B.length → (∀ i x, ib ≤ i → i < ib + k → B[i]? = some x → ∀ y ∈ A.drop ia, L y x = false) → Jm L A B (out ++ (B.drop ib).take k) ia (ib + k)
  | 0, ib, out, J, _, _ => by rw [List.take_zero, List.append_nil]; exact J
  | k + 1, ib, out, J, hk, hl => by
    have hx : B[ib]? = some B[ib] := List.getElem?_eq_getElem (by omega)
    have J1 := J.pushB rB hx (hl ib _ (Nat.le_refl _) (by omega) hx)
    have := Jm.runB (out := out) rB k (ib + 1) _ J1 (by omega) fun i x h1 h2 => hl i x (by omega) (by omega)
    rw [drop_at hx, List.take_succ_cons, show out ++ B[ib] :: (B.drop (ib + 1)).take k = (out ++ [B[ib]]) ++ (B.drop (ib + 1)).take k by simp, show ib + (k + 1) = ib + 1 + k by omega]
    exact this
theorem Jm.fin {out : List α} {ia ib : Nat} (J : Jm L A B out ia ib) (rA : Risen L A) (rB : Risen L B) (h : ia = A.length ∨ ib = B.length) : Good L A B (out ++ A.drop ia ++ B.drop ib) := by
  constructor
  · have e : (A ++ B).Perm ((A.take ia ++ B.take ib) ++ (A.drop ia ++ B.drop ib)) := by
      have e1 : A ++ B = (A.take ia ++ A.drop ia) ++ (B.take ib ++ B.drop ib) := by rw [List.take_append_drop, List.take_append_drop]
      rw [e1, List.append_assoc, List.append_assoc]
      refine List.Perm.append_left _ ?_
      rw [← List.append_assoc, ← List.append_assoc]
      exact List.Perm.append_right _ List.perm_append_comm
    rw [List.append_assoc]
    exact (List.Perm.append_right _ J.pm).trans e.symm
  · rw [List.append_assoc]
    refine List.pairwise_append.mpr ⟨J.rs, ?_, fun x hx y hy => J.lo x hx y (List.mem_append.mp hy)⟩
    rcases h with h | h
    · rw [h, List.drop_length, List.nil_append]
      exact rB.sublist (List.drop_sublist ..)
    · rw [h, List.drop_length, List.append_nil]
      exact rA.sublist (List.drop_sublist ..)
theorem Jm.lastA {out : List α} {ia ib : Nat} {x : α} (J : Jm L A B out ia ib) (rB : Risen L B) (hi : ia + 1 = A.length) (hx : A[ia]? = some x) (hl : ∀ y ∈ B, L x y = false) : Good L A B (out ++ B.drop ib ++ A.drop ia) := by
  have ed : A.drop ia = [x] := by rw [drop_at hx, hi, List.drop_length]
  constructor
  · have e : (A ++ B).Perm ((A.take ia ++ B.take ib) ++ (B.drop ib ++ A.drop ia)) := by
      have e1 : A ++ B = (A.take ia ++ A.drop ia) ++ (B.take ib ++ B.drop ib) := by rw [List.take_append_drop, List.take_append_drop]
      rw [e1, List.append_assoc, List.append_assoc]
      refine List.Perm.append_left _ ?_
      rw [← List.append_assoc (B.take ib)]
      exact List.perm_append_comm
    rw [List.append_assoc]
    exact (List.Perm.append_right _ J.pm).trans e.symm
  · rw [List.append_assoc]
    refine List.pairwise_append.mpr ⟨J.rs, ?_, fun z hz y hy => J.lo z hz y (List.mem_append.mp hy).symm⟩
    rw [ed]
    exact Risen.snoc (rB.sublist (List.drop_sublist ..)) fun y hy => hl y (List.mem_of_mem_drop hy)
end
section
variable {α : Type} {L : α → α → Bool} {A B : List α}
theorem Swo.lowB (hw : Swo L) (rA : Risen L A) {ia : Nat} {x z : α} (hx : A[ia]? = some x) (h : L z x = true) : ∀ y ∈ A.drop ia, L y z = false := fun y hy => by
  rw [drop_at hx] at hy
  rcases List.mem_cons.mp hy with rfl | hy
  · exact hw.asym _ _ h
  · rcases hw.co z y x h with h1 | h1
    · exact hw.asym _ _ h1
    · rw [rA.tail hx hy] at h1; cases h1
theorem Swo.lowA (hw : Swo L) (rB : Risen L B) {ib : Nat} {x z : α} (hz : B[ib]? = some z) (h : L z x = false) : ∀ y ∈ B.drop ib, L y x = false := fun y hy => by
  rw [drop_at hz] at hy
  rcases List.mem_cons.mp hy with rfl | hy
  · exact h
  · cases e : L y x with
    | false => rfl
    | true =>
      rcases hw.co y z x e with h1 | h1
      · rw [rB.tail hz hy] at h1; cases h1
      · rw [h] at h1; cases h1
theorem Risen.at {l : List α} (hl : Risen L l) {i j : Nat} {x y : α} (hij : i < j) (hx : l[i]? = some x) (hy : l[j]? = some y) : L y x = false := by
  refine hl.tail hx ?_
  refine List.mem_of_getElem? (i := j - (i + 1)) ?_
  rw [List.getElem?_drop, show i + 1 + (j - (i + 1)) = j by omega]
  exact hy
end
theorem ext_all {a : Array Keyed} {i : Nat} : (a.extract i a.size).toList = a.toList.drop i := by
  rw [Array.toList_extract, List.extract_eq_take_drop, List.take_of_length_le (by rw [List.length_drop, Array.length_toList]; exact Nat.le_refl _)]
theorem ext_run {a : Array Keyed} {i k : Nat} : (a.extract i (i + k)).toList = (a.toList.drop i).take k := by
  rw [Array.toList_extract, List.extract_eq_take_drop, show i + k - i = k by omega]
abbrev setGal (st : SortSt) (g : Nat) : SortSt := SortSt.mk' (kindOf st) (arrOf st) (pendingOf st) g (failedOf st)
theorem setG'_eq (g : Nat) : setG' g = modify (fun st => setGal st g) := rfl
end Sm

section PartSortM2
set_option maxHeartbeats 800000
namespace Sm
open PySem PyProof.Rows
local macro_rules | `(tactic| delta mergeLoOpen) => `(tactic| delta $(Lean.mkCIdent (Lean.mkPrivateNameCore `PySem.Builtin.List.W1All `PySem.Builtin.mergeLo)))
section
variable {prog : Program} {w : World} {A : Around} {E : Value → Shared → Prop} {s : Shared}
theorem wpS_mergeLo {S : Keyed → Prop} {L : Keyed → Keyed → Bool} {κ : SortKind} {a b : Array Keyed} {st : SortSt} {Q : Array Keyed → SortSt → Prop}
    (hw : Swo L) (hL : LtOk prog w A E s S L κ) (hk : kindOf st = κ) (ha : 1 ≤ a.size) (hb : 1 ≤ b.size) (hSa : ∀ x ∈ a.toList, S x) (hSb : ∀ x ∈ b.toList, S x) (rA : Risen L a.toList) (rB : Risen L b.toList)
    (h0 : ∀ x ∈ a.toList, ∀ y, b[0]? = some y → L x y = false) (h9 : ∀ x, a[a.size - 1]? = some x → ∀ y ∈ b.toList, L x y = false)
    (h : ∀ r g, Good L a.toList b.toList r.toList → Q r (setGal st g)) : wpS (model prog w) A E s (mergeLo' a b) Q st := by
  delta mergeLo'
  delta mergeLoOpen
  dsimp only [elem_fold, lt_fold, gallop_fold, setG_fold]
  refine wpS_bind (wpS_lift (wpAny_rule ⟨rfl, ?_⟩))
  obtain ⟨b0, hb0⟩ : ∃ x, b[0]? = some x := ⟨_, Array.getElem?_eq_getElem (by omega)⟩
  rw [elem'_eq, hb0]
  refine wpS_bind (wpS_pure ?_)
  have eA : ∀ i x, a[i]? = some x → a.toList[i]? = some x := fun i x e => by rw [Array.getElem?_toList]; exact e
  have eB : ∀ i x, b[i]? = some x → b.toList[i]? = some x := fun i x e => by rw [Array.getElem?_toList]; exact e
  have mA : ∀ i x, a[i]? = some x → S x := fun i x e => hSa x (List.mem_of_getElem? (eA i x e))
  have mB : ∀ i x, b[i]? = some x → S x := fun i x e => hSb x (List.mem_of_getElem? (eB i x e))
  have dn : ∀ (out : Array Keyed) ia ib, Jm L a.toList b.toList out.toList ia ib → (ia = a.size ∨ ib = b.size) → Good L a.toList b.toList (out ++ a.extract ia a.size ++ b.extract ib b.size).toList := fun out ia ib J e => by
    rw [Array.toList_append, Array.toList_append, ext_all, ext_all]
    exact J.fin rA rB (by rw [Array.length_toList, Array.length_toList]; exact e)
  have ls : ∀ (out : Array Keyed) ia ib, Jm L a.toList b.toList out.toList ia ib → ia + 1 = a.size → Good L a.toList b.toList (out ++ b.extract ib b.size ++ a.extract ia a.size).toList := fun out ia ib J e => by
    obtain ⟨x, hx⟩ : ∃ x, a[ia]? = some x := ⟨_, Array.getElem?_eq_getElem (by omega)⟩
    rw [Array.toList_append, Array.toList_append, ext_all, ext_all]
    exact J.lastA rB (by rw [Array.length_toList]; exact e) (eA _ _ hx) (h9 x (by rw [show a.size - 1 = ia by omega]; exact hx))
  have pA : ∀ (out : Array Keyed) ia ib xa xb, Jm L a.toList b.toList out.toList ia ib → a[ia]? = some xa → b[ib]? = some xb → L xb xa = false → Jm L a.toList b.toList (out.push xa).toList (ia + 1) ib := fun out ia ib xa xb J ha hb hl => by
    rw [Array.toList_push]
    exact J.pushA rA (eA _ _ ha) (hw.lowA rB (eB _ _ hb) hl)
  have pB : ∀ (out : Array Keyed) ia ib xa xb, Jm L a.toList b.toList out.toList ia ib → a[ia]? = some xa → b[ib]? = some xb → L xb xa = true → Jm L a.toList b.toList (out.push xb).toList ia (ib + 1) := fun out ia ib xa xb J ha hb hl => by
    rw [Array.toList_push]
    exact J.pushB rB (eB _ _ hb) (hw.lowB rA (eA _ _ ha) hl)
  have J0 : Jm L a.toList b.toList (#[b0] : Array Keyed).toList 0 1 := by
    have : Jm L a.toList b.toList [] 0 0 := ⟨Nat.zero_le _, Nat.zero_le _, .refl _, .nil, fun x hx => absurd hx List.not_mem_nil⟩
    exact this.pushB rB (eB _ _ hb0) fun y hy => h0 y hy b0 hb0
  by_cases hb1 : (1 == b.size) = true
  · rw [if_pos hb1]
    exact wpS_pure (h _ (gallopOf st) (dn _ _ _ J0 (.inr (beq_iff_eq.mp hb1))))
  rw [if_neg hb1]
  by_cases ha1 : (0 + 1 == a.size) = true
  · rw [if_pos ha1]
    exact wpS_pure (h _ (gallopOf st) (ls _ _ _ J0 (beq_iff_eq.mp ha1)))
  rw [if_neg ha1]
  rw [beq_iff_eq] at hb1 ha1
  refine wpS_bind (wpS_get (wpS_bind ?_))
  refine wpS_mono (wpS_forRange (I := fun i c st' => (∃ g, st' = setGal st g) ∧ ∃ out ia ib mg, c = (none, out, ia, ib, mg) ∧ Jm L a.toList b.toList out.toList ia ib ∧ ia + 1 < a.size ∧ ib < b.size ∧ i ≤ ia + ib)
    (Q := fun c st' => (∃ g, st' = setGal st g) ∧ ∃ r x, c = (some r, x) ∧ Good L a.toList b.toList r.toList) ?st ?en ⟨⟨_, rfl⟩, _, _, _, _, rfl, J0, by omega, by omega, by omega⟩) ?po
  case po =>
    rintro c st' ⟨⟨g, rfl⟩, r, x, rfl, hG⟩
    exact wpS_pure (h r g hG)
  case en =>
    rintro c st' ⟨_, out, ia, ib, mg, rfl, _, h1, h2, h3⟩
    omega
  case st =>
    rintro i c st' _ hi ⟨⟨g, rfl⟩, out, ia, ib, mg, rfl, J, hia, hib, hin⟩
    dsimp only
    refine wpS_bind (wpS_mono (wpS_forRange (I := fun j c st' => (∃ g, st' = setGal st g) ∧ ∃ out ia' ib' ac bc, c = (none, out, ia', ib', ac, bc) ∧ Jm L a.toList b.toList out.toList ia' ib' ∧ ia' + 1 < a.size ∧ ib' < b.size ∧ ia + ib + j ≤ ia' + ib')
      (Q := fun c st' => (∃ g, st' = setGal st g) ∧ ((∃ out ia' ib' ac bc, c = (none, out, ia', ib', ac, bc) ∧ Jm L a.toList b.toList out.toList ia' ib' ∧ ia' + 1 < a.size ∧ ib' < b.size ∧ ia + ib + 1 ≤ ia' + ib') ∨ ∃ r x, c = (some r, x) ∧ Good L a.toList b.toList r.toList)) ?st1 ?en1 ⟨⟨_, rfl⟩, _, _, _, _, _, rfl, J, hia, hib, Nat.le_refl _⟩) ?po1)
    case en1 =>
      rintro c st' ⟨hg, out, ia', ib', ac, bc, rfl, J, h1, h2, h3⟩
      exact ⟨hg, .inl ⟨_, _, _, _, _, rfl, J, h1, h2, by omega⟩⟩
    case st1 =>
      rintro j c st' _ hj ⟨hg, out, ia', ib', ac, bc, rfl, J, h1, h2, h3⟩
      obtain ⟨xa, hxa⟩ : ∃ x, a[ia']? = some x := ⟨_, Array.getElem?_eq_getElem (by omega)⟩
      obtain ⟨xb, hxb⟩ : ∃ x, b[ib']? = some x := ⟨_, Array.getElem?_eq_getElem h2⟩
      dsimp only
      rw [elem'_eq, hxb, elem'_eq, hxa]
      refine wpS_bind (wpS_pure (wpS_bind (wpS_pure (wpS_bind (hL xb xa st' _ (mB _ _ hxb) (mA _ _ hxa) (by obtain ⟨g, rfl⟩ := hg; exact hk) ?_)))))
      dsimp only
      cases hl : L xb xa with
      | true =>
        rw [if_pos rfl]
        refine wpS_bind (wpS_pure ?_)
        have J1 := pB out ia' ib' xa xb J hxa hxb hl
        by_cases e1 : (ib' + 1 == b.size) = true
        · rw [if_pos e1]
          exact wpS_pure ⟨hg, .inr ⟨_, _, rfl, dn _ _ _ J1 (.inr (beq_iff_eq.mp e1))⟩⟩
        · rw [if_neg e1]
          rw [beq_iff_eq] at e1
          by_cases e2 : bc + 1 ≥ mg
          · rw [if_pos e2]
            exact wpS_pure ⟨hg, .inl ⟨_, _, _, _, _, rfl, J1, h1, by omega, by omega⟩⟩
          · rw [if_neg e2]
            exact wpS_pure ⟨hg, _, _, _, _, _, rfl, J1, h1, by omega, by omega⟩
      | false =>
        rw [if_neg Bool.false_ne_true]
        refine wpS_bind (wpS_pure ?_)
        have J1 := pA out ia' ib' xa xb J hxa hxb hl
        by_cases e1 : (ia' + 1 + 1 == a.size) = true
        · rw [if_pos e1]
          exact wpS_pure ⟨hg, .inr ⟨_, _, rfl, ls _ _ _ J1 (beq_iff_eq.mp e1)⟩⟩
        · rw [if_neg e1]
          rw [beq_iff_eq] at e1
          by_cases e2 : ac + 1 ≥ mg
          · rw [if_pos e2]
            exact wpS_pure ⟨hg, .inl ⟨_, _, _, _, _, rfl, J1, by omega, h2, by omega⟩⟩
          · rw [if_neg e2]
            exact wpS_pure ⟨hg, _, _, _, _, _, rfl, J1, by omega, h2, by omega⟩
    case po1 =>
      rintro c st' ⟨hg, h⟩
      rcases h with ⟨out, ia', ib', ac, bc, rfl, J, h1, h2, h3⟩ | ⟨r, x, rfl, hG⟩
      · dsimp only
        refine wpS_bind (wpS_lift (wpAny_rule ⟨rfl, ?_⟩))
        refine wpS_bind (wpS_mono (wpS_forRange (I := fun j c st' => (∃ g, st' = setGal st g) ∧ ∃ out ia2 ib2 mg ac bc, c = (none, out, ia2, ib2, mg, ac, bc) ∧ Jm L a.toList b.toList out.toList ia2 ib2 ∧ ia2 + 1 < a.size ∧ ib2 < b.size ∧ ia' + ib' + j ≤ ia2 + ib2)
          (Q := fun c st' => (∃ g, st' = setGal st g) ∧ ((∃ out ia2 ib2 mg ac bc, c = (none, out, ia2, ib2, mg, ac, bc) ∧ Jm L a.toList b.toList out.toList ia2 ib2 ∧ ia2 + 1 < a.size ∧ ib2 < b.size ∧ ia' + ib' ≤ ia2 + ib2) ∨ ∃ r x, c = (some r, x) ∧ Good L a.toList b.toList r.toList)) ?st2 ?en2 ⟨hg, _, _, _, _, _, _, rfl, J, h1, h2, Nat.le_refl _⟩) ?po2)
        case en2 =>
          rintro c st' ⟨hg, out, ia2, ib2, mg, ac, bc, rfl, J, g1, g2, g3⟩
          exact ⟨hg, .inl ⟨_, _, _, _, _, _, rfl, J, g1, g2, by omega⟩⟩
        case po2 =>
          rintro c st' ⟨hg, h⟩
          rcases h with ⟨out, ia2, ib2, mg, ac, bc, rfl, J, g1, g2, g3⟩ | ⟨r, x, rfl, hG⟩
          · dsimp only
            rw [setG'_eq]
            refine wpS_bind (wpS_modify (wpS_pure ⟨?_, _, _, _, _, rfl, J, g1, g2, by omega⟩))
            obtain ⟨g, rfl⟩ := hg
            exact ⟨_, rfl⟩
          · exact wpS_pure ⟨hg, r, _, rfl, hG⟩
        case st2 =>
          clear hg h1 h2 h3 J
          rintro j c st' _ hj ⟨⟨g, rfl⟩, out, ia2, ib2, mg, ac, bc, rfl, J, g1, g2, g3⟩
          obtain ⟨xb, hxb⟩ : ∃ x, b[ib2]? = some x := ⟨_, Array.getElem?_eq_getElem g2⟩
          dsimp only
          have mo1 : ∀ i j, i ≤ j → j < a.size - ia2 → (match a[ia2 + j]? with | some x => !L xb x | none => false) = true → (match a[ia2 + i]? with | some x => !L xb x | none => false) = true := fun i j hij hj h => by
            obtain ⟨xi, hxi⟩ : ∃ x, a[ia2 + i]? = some x := ⟨_, Array.getElem?_eq_getElem (by omega)⟩
            obtain ⟨xj, hxj⟩ : ∃ x, a[ia2 + j]? = some x := ⟨_, Array.getElem?_eq_getElem (by omega)⟩
            rw [hxj] at h
            rw [hxi]
            dsimp only at h ⊢
            rcases Nat.lt_or_ge i j with hlt | hge
            · cases e : L xb xi with
              | false => rfl
              | true =>
                rcases hw.co xb xj xi e with h1 | h1
                · rw [h1] at h; cases h
                · rw [rA.at (show ia2 + i < ia2 + j by omega) (eA _ _ hxi) (eA _ _ hxj)] at h1; cases h1
            · obtain rfl : i = j := by omega
              rw [hxi] at hxj; cases hxj; exact h
          by_cases hm : mg > 1
          case' pos => rw [if_pos hm, setG'_eq]
          case' neg => rw [if_neg hm, setG'_eq]
          all_goals
            refine wpS_bind (wpS_modify ?_)
            rw [elem'_eq, hxb]
            refine wpS_bind (wpS_pure (wpS_bind (wpS_gallop (b := fun i => match a[ia2 + i]? with | some x => !L xb x | none => false) hL hk (by omega) (by omega) mA (mB _ _ hxb) ?_ mo1 ?_)))
            · intro i x hi hx
              rw [hx]; rfl
            intro k hkn kt kf
            have kt' : ∀ i x, ia2 ≤ i → i < ia2 + k → a.toList[i]? = some x → L xb x = false := fun i x h1 h2 hx => by
              have := kt (i - ia2) (by omega)
              rw [Array.getElem?_toList] at hx
              rw [show ia2 + (i - ia2) = i by omega, hx] at this
              dsimp only at this
              rw [← Bool.not_not (L xb x), this]; rfl
            have kf' : ∀ x, a[ia2 + k]? = some x → L xb x = true := fun x hx => by
              have hlt : ia2 + k < a.size := (Array.getElem?_eq_some_iff.mp hx).1
              have := kf k (Nat.le_refl _) (by omega)
              rw [hx] at this
              dsimp only at this
              rw [← Bool.not_not (L xb x), this]; rfl
            dsimp only
            by_cases hk0 : k > 0
            case' pos =>
              rw [if_pos hk0]
              have J1 : Jm L a.toList b.toList (out ++ a.extract ia2 (ia2 + k)).toList (ia2 + k) ib2 := by
                rw [Array.toList_append, ext_run]
                exact Jm.runA (out := out.toList) rA k ia2 _ J (by rw [Array.length_toList]; omega) fun i x h1 h2 hx => hw.lowA rB (eB _ _ hxb) (kt' i x h1 h2 hx)
              generalize out ++ a.extract ia2 (ia2 + k) = out1 at J1 ⊢
              have hie : ia2 ≤ ia2 + k := by omega
              have hil : ia2 + k ≤ a.size := by omega
              generalize ia2 + k = ia1 at J1 kf' hie hil ⊢
              by_cases e1 : (ia1 + 1 == a.size) = true
              · rw [if_pos e1]
                exact wpS_pure ⟨⟨_, rfl⟩, .inr ⟨_, _, rfl, ls _ _ _ J1 (beq_iff_eq.mp e1)⟩⟩
              rw [if_neg e1]
              by_cases e2 : (ia1 == a.size) = true
              · rw [if_pos e2]
                exact wpS_pure ⟨⟨_, rfl⟩, .inr ⟨_, _, rfl, dn _ _ _ J1 (.inl (beq_iff_eq.mp e2))⟩⟩
              rw [if_neg e2]
              rw [beq_iff_eq] at e1 e2
              have hi1 : ia1 + 1 < a.size := by omega
            case' neg =>
              rw [if_neg hk0]
              have J1 := J
              have hk1 : ia2 + k = ia2 := by omega
              rw [hk1] at kf'
              have hi1 : ia2 + 1 < a.size := g1
              clear kt kf kt'
              generalize hiq : ia2 = ia1 at J1 kf' hi1 ⊢
              have hie : ia2 ≤ ia1 := by omega
              clear hiq
              generalize out = out1 at J1 ⊢
            all_goals
              obtain ⟨xa, hxa⟩ : ∃ x, a[ia1]? = some x := ⟨_, Array.getElem?_eq_getElem (by omega)⟩
              have hl := kf' xa hxa
              have J2 := pB out1 ia1 ib2 xa xb J1 hxa hxb hl
              have mo2 : ∀ i j, i ≤ j → j < b.size - (ib2 + 1) → (match b[ib2 + 1 + j]? with | some x => L x xa | none => false) = true → (match b[ib2 + 1 + i]? with | some x => L x xa | none => false) = true := fun i j hij hj h => by
                obtain ⟨xi, hxi⟩ : ∃ x, b[ib2 + 1 + i]? = some x := ⟨_, Array.getElem?_eq_getElem (by omega)⟩
                obtain ⟨xj, hxj⟩ : ∃ x, b[ib2 + 1 + j]? = some x := ⟨_, Array.getElem?_eq_getElem (by omega)⟩
                rw [hxj] at h
                rw [hxi]
                dsimp only at h ⊢
                rcases Nat.lt_or_ge i j with hlt | hge
                · rcases hw.co xj xi xa h with h1 | h1
                  · rw [rB.at (show ib2 + 1 + i < ib2 + 1 + j by omega) (eB _ _ hxi) (eB _ _ hxj)] at h1; cases h1
                  · exact h1
                · obtain rfl : i = j := by omega
                  rw [hxi] at hxj; cases hxj; exact h
              refine wpS_bind (wpS_pure ?_)
              generalize out1.push xb = out2 at J2 ⊢
              by_cases e3 : (ib2 + 1 == b.size) = true
              · rw [if_pos e3]
                exact wpS_pure ⟨⟨_, rfl⟩, .inr ⟨_, _, rfl, dn _ _ _ J2 (.inr (beq_iff_eq.mp e3))⟩⟩
              rw [if_neg e3]
              rw [beq_iff_eq] at e3
              rw [elem'_eq, hxa]
              refine wpS_bind (wpS_pure (wpS_bind (wpS_gallop (b := fun i => match b[ib2 + 1 + i]? with | some x => L x xa | none => false) hL hk (by omega) (by omega) mB (mA _ _ hxa) ?_ mo2 ?_)))
              · intro i x hi hx
                rw [hx]; rfl
              intro k2 hkn2 kt2 kf2
              have kt2' : ∀ i x, ib2 + 1 ≤ i → i < ib2 + 1 + k2 → b.toList[i]? = some x → L x xa = true := fun i x h1 h2 hx => by
                have := kt2 (i - (ib2 + 1)) (by omega)
                rw [Array.getElem?_toList] at hx
                rw [show ib2 + 1 + (i - (ib2 + 1)) = i by omega, hx] at this
                exact this
              have kf2' : ∀ x, b[ib2 + 1 + k2]? = some x → L x xa = false := fun x hx => by
                have hlt : ib2 + 1 + k2 < b.size := (Array.getElem?_eq_some_iff.mp hx).1
                have := kf2 k2 (Nat.le_refl _) (by omega)
                rw [hx] at this
                exact this
              dsimp only
              by_cases hk2 : k2 > 0
              case' pos =>
                rw [if_pos hk2]
                have J3 : Jm L a.toList b.toList (out2 ++ b.extract (ib2 + 1) (ib2 + 1 + k2)).toList ia1 (ib2 + 1 + k2) := by
                  rw [Array.toList_append, ext_run]
                  exact Jm.runB (out := out2.toList) rB k2 (ib2 + 1) _ J2 (by rw [Array.length_toList]; omega) fun i x h1 h2 hx => hw.lowB rA (eA _ _ hxa) (kt2' i x h1 h2 hx)
                generalize out2 ++ b.extract (ib2 + 1) (ib2 + 1 + k2) = out3 at J3 ⊢
                have hje : ib2 + 1 ≤ ib2 + 1 + k2 := by omega
                have hjl : ib2 + 1 + k2 ≤ b.size := by omega
                generalize ib2 + 1 + k2 = ib3 at J3 kf2' hje hjl ⊢
                by_cases e4 : (ib3 == b.size) = true
                · rw [if_pos e4]
                  exact wpS_pure ⟨⟨_, rfl⟩, .inr ⟨_, _, rfl, dn _ _ _ J3 (.inr (beq_iff_eq.mp e4))⟩⟩
                rw [if_neg e4]
                rw [beq_iff_eq] at e4
                have hj1 : ib3 < b.size := by omega
              case' neg =>
                rw [if_neg hk2]
                have J3 := J2
                have hk1 : ib2 + 1 + k2 = ib2 + 1 := by omega
                rw [hk1] at kf2'
                have hj1 : ib2 + 1 < b.size := by omega
                clear kt2 kf2 kt2'
                generalize hiq : ib2 + 1 = ib3 at J3 kf2' hj1 ⊢
                have hje : ib2 + 1 ≤ ib3 := by omega
                clear hiq
                generalize out2 = out3 at J3 ⊢
              all_goals
                obtain ⟨x3, hx3⟩ : ∃ x, b[ib3]? = some x := ⟨_, Array.getElem?_eq_getElem hj1⟩
                have J4 := pA out3 ia1 ib3 xa x3 J3 hxa hx3 (kf2' x3 hx3)
                refine wpS_bind (wpS_pure ?_)
                by_cases e5 : (ia1 + 1 + 1 == a.size) = true
                · rw [if_pos e5]
                  exact wpS_pure ⟨⟨_, rfl⟩, .inr ⟨_, _, rfl, ls _ _ _ J4 (beq_iff_eq.mp e5)⟩⟩
                rw [if_neg e5]
                rw [beq_iff_eq] at e5
                split
                · exact wpS_pure ⟨⟨_, rfl⟩, .inl ⟨_, _, _, _, _, _, rfl, J4, by omega, hj1, by omega⟩⟩
                · exact wpS_pure ⟨⟨_, rfl⟩, _, _, _, _, _, _, rfl, J4, by omega, hj1, by omega⟩
      · exact wpS_pure ⟨hg, r, _, rfl, hG⟩
end
end Sm

end PartSortM2

section PartSortM3
set_option maxHeartbeats 800000
namespace Sm
open PySem PyProof.Rows
local macro_rules | `(tactic| delta mergeHiOpen) => `(tactic| delta $(Lean.mkCIdent (Lean.mkPrivateNameCore `PySem.Builtin.List.W1All `PySem.Builtin.mergeHi)))
section
variable {α : Type} {L : α → α → Bool} {A B : List α}
abbrev Fl (L : α → α → Bool) : α → α → Bool := fun x y => L y x
theorem Swo.fl (h : Swo L) : Swo (Fl L) := ⟨fun x y e => h.asym y x e, fun x y z e => (h.co z y x e).symm⟩
theorem Risen.fl (h : Risen L A) : Risen (Fl L) A.reverse := List.pairwise_reverse.mpr h
theorem Good.fl {r : List α} (h : Good (Fl L) B.reverse A.reverse r.reverse) : Good L A B r := by
  refine ⟨?_, List.pairwise_reverse.mp h.2⟩
  have h1 := (List.reverse_perm r).symm.trans h.1
  refine h1.trans ?_
  rw [← List.reverse_append]
  exact List.reverse_perm _
theorem rev_drop {l : List α} {n : Nat} (h : n ≤ l.length) : l.reverse.drop (l.length - n) = (l.take n).reverse := by
  rw [List.drop_reverse, show l.length - (l.length - n) = n by omega]
theorem rev_at {l : List α} {n : Nat} (h : n ≤ l.length) (h1 : 1 ≤ n) : l.reverse[l.length - n]? = l[n - 1]? := by
  rw [List.getElem?_reverse (by omega), show l.length - 1 - (l.length - n) = n - 1 by omega]
theorem rev_run {l : List α} {n m : Nat} (h : n ≤ l.length) (hm : m ≤ n) : (l.reverse.drop (l.length - n)).take (n - m) = ((l.take n).drop m).reverse := by
  rw [rev_drop h, List.take_reverse, List.length_take, Nat.min_eq_left h, show n - (n - m) = m by omega]
end
theorem ext_to {a : Array Keyed} {i : Nat} : (a.extract 0 i).toList = a.toList.take i := by
  rw [Array.toList_extract, List.extract_eq_take_drop, List.drop_zero, Nat.sub_zero]
theorem ext_mid {a : Array Keyed} {i j : Nat} : (a.extract i j).toList = (a.toList.take j).drop i := by
  rw [Array.toList_extract, List.extract_eq_take_drop, List.drop_take]
section
variable {prog : Program} {w : World} {A : Around} {E : Value → Shared → Prop} {s : Shared}
theorem wpS_mergeHi {S : Keyed → Prop} {L : Keyed → Keyed → Bool} {κ : SortKind} {a b : Array Keyed} {st : SortSt} {Q : Array Keyed → SortSt → Prop}
    (hw : Swo L) (hL : LtOk prog w A E s S L κ) (hk : kindOf st = κ) (ha : 1 ≤ a.size) (hb : 1 ≤ b.size) (hSa : ∀ x ∈ a.toList, S x) (hSb : ∀ x ∈ b.toList, S x) (rA : Risen L a.toList) (rB : Risen L b.toList)
    (h0 : ∀ x ∈ a.toList, ∀ y, b[0]? = some y → L x y = false) (h9 : ∀ x, a[a.size - 1]? = some x → ∀ y ∈ b.toList, L x y = false)
    (h : ∀ r g, Good L a.toList b.toList r.toList → Q r (setGal st g)) : wpS (model prog w) A E s (mergeHi' a b) Q st := by
  delta mergeHi'
  delta mergeHiOpen
  dsimp only [elem_fold, lt_fold, gallop_fold, setG_fold]
  refine wpS_bind (wpS_lift (wpAny_rule ⟨rfl, ?_⟩))
  obtain ⟨a9, ha9⟩ : ∃ x, a[a.size - 1]? = some x := ⟨_, Array.getElem?_eq_getElem (by omega)⟩
  rw [elem'_eq, ha9]
  refine wpS_bind (wpS_pure ?_)
  have la := Array.length_toList (xs := a)
  have lb := Array.length_toList (xs := b)
  have hw' := hw.fl
  have rA' := rA.fl
  have rB' := rB.fl
  have eA : ∀ n x, 1 ≤ n → n ≤ a.size → a[n - 1]? = some x → a.toList.reverse[a.size - n]? = some x := fun n x h1 h2 e => by
    have := rev_at (l := a.toList) (n := n) (by omega) h1
    rw [la] at this
    rw [this, Array.getElem?_toList]; exact e
  have eB : ∀ n x, 1 ≤ n → n ≤ b.size → b[n - 1]? = some x → b.toList.reverse[b.size - n]? = some x := fun n x h1 h2 e => by
    have := rev_at (l := b.toList) (n := n) (by omega) h1
    rw [lb] at this
    rw [this, Array.getElem?_toList]; exact e
  have fA : ∀ i x, a[i]? = some x → a.toList[i]? = some x := fun i x e => by rw [Array.getElem?_toList]; exact e
  have fB : ∀ i x, b[i]? = some x → b.toList[i]? = some x := fun i x e => by rw [Array.getElem?_toList]; exact e
  have mA : ∀ i x, a[i]? = some x → S x := fun i x e => hSa x (List.mem_of_getElem? (fA i x e))
  have mB : ∀ i x, b[i]? = some x → S x := fun i x e => hSb x (List.mem_of_getElem? (fB i x e))
  let J := fun (out : Array Keyed) na nb => Jm (Fl L) b.toList.reverse a.toList.reverse out.toList (b.size - nb) (a.size - na)
  have dn : ∀ (out : Array Keyed) na nb, J out na nb → na ≤ a.size → nb ≤ b.size → (na = 0 ∨ nb = 0) → Good L a.toList b.toList (a.extract 0 na ++ b.extract 0 nb ++ out.reverse).toList := fun out na nb j l1 l2 e => by
    have := j.fin rB' rA' (by rw [List.length_reverse, List.length_reverse, la, lb]; omega)
    have d1 := rev_drop (l := a.toList) (n := na) (by omega)
    have d2 := rev_drop (l := b.toList) (n := nb) (by omega)
    rw [la] at d1
    rw [lb] at d2
    rw [d1, d2] at this
    refine Good.fl ?_
    rw [Array.toList_append, Array.toList_append, ext_to, ext_to, Array.toList_reverse, List.reverse_append, List.reverse_append, List.reverse_reverse, ← List.append_assoc]
    exact this
  have ls : ∀ (out : Array Keyed) na nb, J out na nb → na ≤ a.size → nb = 1 → Good L a.toList b.toList (b.extract 0 nb ++ a.extract 0 na ++ out.reverse).toList := fun out na nb j l1 e => by
    subst e
    obtain ⟨x, hx⟩ : ∃ x, b[0]? = some x := ⟨_, Array.getElem?_eq_getElem (by omega)⟩
    have := j.lastA rA' (by rw [List.length_reverse, lb]; omega) (eB 1 x (Nat.le_refl _) hb hx) fun y hy => h0 y (List.mem_reverse.mp hy) x hx
    have d1 := rev_drop (l := a.toList) (n := na) (by omega)
    have d2 := rev_drop (l := b.toList) (n := 1) (by omega)
    rw [la] at d1
    rw [lb] at d2
    rw [d1, d2] at this
    refine Good.fl ?_
    rw [Array.toList_append, Array.toList_append, ext_to, ext_to, Array.toList_reverse, List.reverse_append, List.reverse_append, List.reverse_reverse, ← List.append_assoc]
    exact this
  have pB : ∀ (out : Array Keyed) na nb xa xb, J out na nb → 1 ≤ na → na ≤ a.size → 1 ≤ nb → nb ≤ b.size → a[na - 1]? = some xa → b[nb - 1]? = some xb → L xb xa = true → J (out.push xa) (na - 1) nb := fun out na nb xa xb j l1 l2 l3 l4 ha hb hl => by
    show Jm _ _ _ (out.push xa).toList _ (a.size - (na - 1))
    rw [Array.toList_push, show a.size - (na - 1) = a.size - na + 1 by omega]
    exact j.pushB rA' (eA _ _ l1 l2 ha) (hw'.lowB rB' (eB _ _ l3 l4 hb) hl)
  have pA : ∀ (out : Array Keyed) na nb xa xb, J out na nb → 1 ≤ na → na ≤ a.size → 1 ≤ nb → nb ≤ b.size → a[na - 1]? = some xa → b[nb - 1]? = some xb → L xb xa = false → J (out.push xb) na (nb - 1) := fun out na nb xa xb j l1 l2 l3 l4 ha hb hl => by
    show Jm _ _ _ (out.push xb).toList (b.size - (nb - 1)) _
    rw [Array.toList_push, show b.size - (nb - 1) = b.size - nb + 1 by omega]
    exact j.pushA rB' (eB _ _ l3 l4 hb) (hw'.lowA rA' (eA _ _ l1 l2 ha) hl)
  have rnB : ∀ (out : Array Keyed) na nb at_ xb, J out na nb → na ≤ a.size → 1 ≤ nb → nb ≤ b.size → at_ ≤ na → b[nb - 1]? = some xb → (∀ i x, at_ ≤ i → i < na → a[i]? = some x → L xb x = true) → J (out ++ (a.extract at_ na).reverse) at_ nb := fun out na nb at_ xb j l2 l3 l4 l5 hb hl => by
    show Jm _ _ _ (out ++ (a.extract at_ na).reverse).toList _ (a.size - at_)
    have d1 := rev_run (l := a.toList) (n := na) (m := at_) (by omega) l5
    rw [la] at d1
    rw [Array.toList_append, Array.toList_reverse, ext_mid, ← d1, show a.size - at_ = a.size - na + (na - at_) by omega]
    refine Jm.runB (out := out.toList) rA' _ _ _ j (by rw [List.length_reverse, la]; omega) fun i x h1 h2 hx => hw'.lowB rB' (eB _ _ l3 l4 hb) ?_
    rw [List.getElem?_reverse (by omega), Array.getElem?_toList, la] at hx
    exact hl (a.size - 1 - i) x (by omega) (by omega) hx
  have rnA : ∀ (out : Array Keyed) na nb at_ xa, J out na nb → 1 ≤ na → na ≤ a.size → nb ≤ b.size → at_ ≤ nb → a[na - 1]? = some xa → (∀ i x, at_ ≤ i → i < nb → b[i]? = some x → L x xa = false) → J (out ++ (b.extract at_ nb).reverse) na at_ := fun out na nb at_ xa j l2 l3 l4 l5 ha hl => by
    show Jm _ _ _ (out ++ (b.extract at_ nb).reverse).toList (b.size - at_) _
    have d1 := rev_run (l := b.toList) (n := nb) (m := at_) (by omega) l5
    rw [lb] at d1
    rw [Array.toList_append, Array.toList_reverse, ext_mid, ← d1, show b.size - at_ = b.size - nb + (nb - at_) by omega]
    refine Jm.runA (out := out.toList) rB' _ _ _ j (by rw [List.length_reverse, lb]; omega) fun i x h1 h2 hx => hw'.lowA rA' (eA _ _ l2 l3 ha) ?_
    rw [List.getElem?_reverse (by omega), Array.getElem?_toList, lb] at hx
    exact hl (b.size - 1 - i) x (by omega) (by omega) hx
  have J0 : J #[a9] (a.size - 1) b.size := by
    have : Jm (Fl L) b.toList.reverse a.toList.reverse [] 0 0 := ⟨Nat.zero_le _, Nat.zero_le _, .refl _, .nil, fun x hx => absurd hx List.not_mem_nil⟩
    have j := this.pushB rA' (x := a9) (by have := eA a.size a9 ha (Nat.le_refl _) ha9; rwa [Nat.sub_self] at this) fun y hy => h9 a9 ha9 y (List.mem_reverse.mp hy)
    show Jm _ _ _ _ (b.size - b.size) (a.size - (a.size - 1))
    rw [Nat.sub_self, show a.size - (a.size - 1) = 0 + 1 by omega]
    exact j
  by_cases hb1 : (a.size - 1 == 0) = true
  · rw [if_pos hb1]
    exact wpS_pure (h _ (gallopOf st) (dn _ _ _ J0 (by omega) (Nat.le_refl _) (.inl (beq_iff_eq.mp hb1))))
  rw [if_neg hb1]
  by_cases ha1 : (b.size == 1) = true
  · rw [if_pos ha1]
    exact wpS_pure (h _ (gallopOf st) (ls _ _ _ J0 (by omega) (beq_iff_eq.mp ha1)))
  rw [if_neg ha1]
  rw [beq_iff_eq] at hb1 ha1
  refine wpS_bind (wpS_get (wpS_bind ?_))
  refine wpS_mono (wpS_forRange (I := fun i c st' => (∃ g, st' = setGal st g) ∧ ∃ na nb out mg, c = (none, na, nb, out, mg) ∧ J out na nb ∧ 1 ≤ na ∧ na ≤ a.size ∧ 2 ≤ nb ∧ nb ≤ b.size ∧ i + na + nb ≤ a.size + b.size)
    (Q := fun c st' => (∃ g, st' = setGal st g) ∧ ∃ r x, c = (some r, x) ∧ Good L a.toList b.toList r.toList) ?st ?en ⟨⟨_, rfl⟩, _, _, _, _, rfl, J0, by omega, by omega, by omega, by omega, by omega⟩) ?po
  case po =>
    rintro c st' ⟨⟨g, rfl⟩, r, x, rfl, hG⟩
    exact wpS_pure (h r g hG)
  case en =>
    rintro c st' ⟨_, na, nb, out, mg, rfl, _, h1, h2, h3, h4, h5⟩
    omega
  case st =>
    rintro i c st' _ hi ⟨⟨g, rfl⟩, na, nb, out, mg, rfl, j, h1, h2, h3, h4, h5⟩
    dsimp only
    clear_value J
    refine wpS_bind (wpS_mono (wpS_forRange (I := fun t c st' => (∃ g, st' = setGal st g) ∧ ∃ na' nb' out ac bc, c = (none, na', nb', out, ac, bc) ∧ J out na' nb' ∧ 1 ≤ na' ∧ na' ≤ a.size ∧ 2 ≤ nb' ∧ nb' ≤ b.size ∧ t + na' + nb' ≤ na + nb)
      (Q := fun c st' => (∃ g, st' = setGal st g) ∧ ((∃ na' nb' out ac bc, c = (none, na', nb', out, ac, bc) ∧ J out na' nb' ∧ 1 ≤ na' ∧ na' ≤ a.size ∧ 2 ≤ nb' ∧ nb' ≤ b.size ∧ 1 + na' + nb' ≤ na + nb) ∨ ∃ r x, c = (some r, x) ∧ Good L a.toList b.toList r.toList)) ?st1 ?en1 ⟨⟨_, rfl⟩, _, _, _, _, _, rfl, j, h1, h2, h3, h4, by omega⟩) ?po1)
    case en1 =>
      rintro c st' ⟨hg, na', nb', out, ac, bc, rfl, J, h1, h2, h3, h4, h5⟩
      exact ⟨hg, .inl ⟨_, _, _, _, _, rfl, J, h1, h2, h3, h4, by omega⟩⟩
    case st1 =>
      clear j h1 h2 h3 h4 h5
      rintro t c st' _ hj ⟨hg, na', nb', out, ac, bc, rfl, j, h1, h2, h3, h4, h5⟩
      obtain ⟨xa, hxa⟩ : ∃ x, a[na' - 1]? = some x := ⟨_, Array.getElem?_eq_getElem (by omega)⟩
      obtain ⟨xb, hxb⟩ : ∃ x, b[nb' - 1]? = some x := ⟨_, Array.getElem?_eq_getElem (by omega)⟩
      dsimp only
      rw [elem'_eq, hxb, elem'_eq, hxa]
      refine wpS_bind (wpS_pure (wpS_bind (wpS_pure (wpS_bind (hL xb xa st' _ (mB _ _ hxb) (mA _ _ hxa) (by obtain ⟨g, rfl⟩ := hg; exact hk) ?_)))))
      dsimp only
      cases hl : L xb xa with
      | true =>
        rw [if_pos rfl]
        refine wpS_bind (wpS_pure ?_)
        have J1 := pB out na' nb' xa xb j h1 h2 (by omega) h4 hxa hxb hl
        by_cases e1 : (na' - 1 == 0) = true
        · rw [if_pos e1]
          exact wpS_pure ⟨hg, .inr ⟨_, _, rfl, dn _ _ _ J1 (by omega) h4 (.inl (beq_iff_eq.mp e1))⟩⟩
        · rw [if_neg e1]
          rw [beq_iff_eq] at e1
          by_cases e2 : ac + 1 ≥ mg
          · rw [if_pos e2]
            exact wpS_pure ⟨hg, .inl ⟨_, _, _, _, _, rfl, J1, by omega, by omega, h3, h4, by omega⟩⟩
          · rw [if_neg e2]
            exact wpS_pure ⟨hg, _, _, _, _, _, rfl, J1, by omega, by omega, h3, h4, by omega⟩
      | false =>
        rw [if_neg Bool.false_ne_true]
        refine wpS_bind (wpS_pure ?_)
        have J1 := pA out na' nb' xa xb j h1 h2 (by omega) h4 hxa hxb hl
        by_cases e1 : (nb' - 1 == 1) = true
        · rw [if_pos e1]
          exact wpS_pure ⟨hg, .inr ⟨_, _, rfl, ls _ _ _ J1 h2 (beq_iff_eq.mp e1)⟩⟩
        · rw [if_neg e1]
          rw [beq_iff_eq] at e1
          by_cases e2 : bc + 1 ≥ mg
          · rw [if_pos e2]
            exact wpS_pure ⟨hg, .inl ⟨_, _, _, _, _, rfl, J1, h1, h2, by omega, by omega, by omega⟩⟩
          · rw [if_neg e2]
            exact wpS_pure ⟨hg, _, _, _, _, _, rfl, J1, h1, h2, by omega, by omega, by omega⟩
    case po1 =>
      clear j h1 h2 h3 h4
      rintro c st' ⟨hg, h⟩
      rcases h with ⟨na', nb', out, ac, bc, rfl, j, h1, h2, h3, h4, h6⟩ | ⟨r, x, rfl, hG⟩
      rotate_left
      · exact wpS_pure ⟨hg, r, _, rfl, hG⟩
      · dsimp only
        refine wpS_bind (wpS_lift (wpAny_rule ⟨rfl, ?_⟩))
        refine wpS_bind (wpS_mono (wpS_forRange (I := fun t c st' => (∃ g, st' = setGal st g) ∧ ∃ na2 nb2 out mg ac bc, c = (none, na2, nb2, out, mg, ac, bc) ∧ J out na2 nb2 ∧ 1 ≤ na2 ∧ na2 ≤ a.size ∧ 2 ≤ nb2 ∧ nb2 ≤ b.size ∧ t + na2 + nb2 ≤ na' + nb')
          (Q := fun c st' => (∃ g, st' = setGal st g) ∧ ((∃ na2 nb2 out mg ac bc, c = (none, na2, nb2, out, mg, ac, bc) ∧ J out na2 nb2 ∧ 1 ≤ na2 ∧ na2 ≤ a.size ∧ 2 ≤ nb2 ∧ nb2 ≤ b.size ∧ na2 + nb2 ≤ na' + nb') ∨ ∃ r x, c = (some r, x) ∧ Good L a.toList b.toList r.toList)) ?st2 ?en2 ⟨hg, _, _, _, _, _, _, rfl, j, h1, h2, h3, h4, by omega⟩) ?po2)
        case en2 =>
          rintro c st' ⟨hg, na2, nb2, out, mg, ac, bc, rfl, J, g1, g2, g3, g4, g5⟩
          exact ⟨hg, .inl ⟨_, _, _, _, _, _, rfl, J, g1, g2, g3, g4, by omega⟩⟩
        case po2 =>
          rintro c st' ⟨hg, h⟩
          rcases h with ⟨na2, nb2, out, mg, ac, bc, rfl, J, g1, g2, g3, g4, g5⟩ | ⟨r, x, rfl, hG⟩
          · dsimp only
            rw [setG'_eq]
            refine wpS_bind (wpS_modify (wpS_pure ⟨?_, _, _, _, _, rfl, J, g1, g2, g3, g4, by omega⟩))
            obtain ⟨g, rfl⟩ := hg
            exact ⟨_, rfl⟩
          · exact wpS_pure ⟨hg, r, _, rfl, hG⟩
        case st2 =>
          clear hg h1 h2 h3 h4 h5 h6 j
          rintro t c st' _ hj ⟨⟨g, rfl⟩, na2, nb2, out, mg, ac, bc, rfl, j, g1, g2, g3, g4, g5⟩
          obtain ⟨xb, hxb⟩ : ∃ x, b[nb2 - 1]? = some x := ⟨_, Array.getElem?_eq_getElem (by omega)⟩
          dsimp only
          have mo1 : ∀ i j, i ≤ j → j < na2 → (match a[0 + j]? with | some x => !L xb x | none => false) = true → (match a[0 + i]? with | some x => !L xb x | none => false) = true := fun i j hij hj h => by
            obtain ⟨xi, hxi⟩ : ∃ x, a[0 + i]? = some x := ⟨_, Array.getElem?_eq_getElem (by omega)⟩
            obtain ⟨xj, hxj⟩ : ∃ x, a[0 + j]? = some x := ⟨_, Array.getElem?_eq_getElem (by omega)⟩
            rw [hxj] at h
            rw [hxi]
            dsimp only at h ⊢
            rcases Nat.lt_or_ge i j with hlt | hge
            · cases e : L xb xi with
              | false => rfl
              | true =>
                rcases hw.co xb xj xi e with h1 | h1
                · rw [h1] at h; cases h
                · rw [rA.at (show 0 + i < 0 + j by omega) (fA _ _ hxi) (fA _ _ hxj)] at h1; cases h1
            · obtain rfl : i = j := by omega
              rw [hxi] at hxj; cases hxj; exact h
          by_cases hm : mg > 1
          case' pos => rw [if_pos hm, setG'_eq]
          case' neg => rw [if_neg hm, setG'_eq]
          all_goals
            refine wpS_bind (wpS_modify ?_)
            rw [elem'_eq, hxb]
            refine wpS_bind (wpS_pure (wpS_bind (wpS_gallop (b := fun i => match a[0 + i]? with | some x => !L xb x | none => false) hL hk (by omega) (by omega) mA (mB _ _ hxb) ?_ mo1 ?_)))
            · intro i x hi hx
              rw [hx]; rfl
            intro k hkn kt kf
            have kt' : ∀ i x, i < k → a[i]? = some x → L xb x = false := fun i x h2 hx => by
              have := kt i h2
              rw [Nat.zero_add, hx] at this
              dsimp only at this
              rw [← Bool.not_not (L xb x), this]; rfl
            have kf' : ∀ i x, k ≤ i → i < na2 → a[i]? = some x → L xb x = true := fun i x h1 h2 hx => by
              have := kf i h1 h2
              rw [Nat.zero_add, hx] at this
              dsimp only at this
              rw [← Bool.not_not (L xb x), this]; rfl
            dsimp only
            by_cases hk0 : na2 - k > 0
            case' pos =>
              rw [if_pos hk0]
              have J1 := rnB out na2 nb2 k xb j g2 (by omega) g4 (by omega) hxb kf'
              generalize out ++ (a.extract k na2).reverse = out1 at J1 ⊢
              generalize na2 - k = ac1
              by_cases e1 : (k == 0) = true
              · rw [if_pos e1]
                exact wpS_pure ⟨⟨_, rfl⟩, .inr ⟨_, _, rfl, dn _ _ _ J1 (by omega) g4 (.inl (beq_iff_eq.mp e1))⟩⟩
              rw [if_neg e1]
              rw [beq_iff_eq] at e1
              have hi1 : 1 ≤ k := by omega
              have hi2 : k ≤ na2 := by omega
              have kt3 : ∀ x, a[k - 1]? = some x → L xb x = false := fun x hx => kt' (k - 1) x (by omega) hx
              clear kt kf kt' kf' hkn e1
              generalize k = na1 at J1 hi1 hi2 kt3 ⊢
            case' neg =>
              rw [if_neg hk0]
              have J1 := j
              have kt3 : ∀ x, a[na2 - 1]? = some x → L xb x = false := fun x hx => kt' (na2 - 1) x (by omega) hx
              generalize na2 - k = ac1
              clear kt kf kt' kf' hkn hk0
              have hi1 : 1 ≤ na2 := g1
              generalize hiq : na2 = na1 at J1 kt3 hi1 ⊢
              have hi2 : na1 ≤ na2 := by omega
              clear hiq
              generalize out = out1 at J1 ⊢
            all_goals
              obtain ⟨xa, hxa⟩ : ∃ x, a[na1 - 1]? = some x := ⟨_, Array.getElem?_eq_getElem (by omega)⟩
              have hl := kt3 xa hxa
              have J2 := pA out1 na1 nb2 xa xb J1 hi1 (by omega) (by omega) g4 hxa hxb hl
              have mo2 : ∀ i j, i ≤ j → j < nb2 - 1 → (match b[0 + j]? with | some x => L x xa | none => false) = true → (match b[0 + i]? with | some x => L x xa | none => false) = true := fun i j hij hj h => by
                obtain ⟨xi, hxi⟩ : ∃ x, b[0 + i]? = some x := ⟨_, Array.getElem?_eq_getElem (by omega)⟩
                obtain ⟨xj, hxj⟩ : ∃ x, b[0 + j]? = some x := ⟨_, Array.getElem?_eq_getElem (by omega)⟩
                rw [hxj] at h
                rw [hxi]
                dsimp only at h ⊢
                rcases Nat.lt_or_ge i j with hlt | hge
                · rcases hw.co xj xi xa h with h1 | h1
                  · rw [rB.at (show 0 + i < 0 + j by omega) (fB _ _ hxi) (fB _ _ hxj)] at h1; cases h1
                  · exact h1
                · obtain rfl : i = j := by omega
                  rw [hxi] at hxj; cases hxj; exact h
              refine wpS_bind (wpS_pure ?_)
              generalize out1.push xb = out2 at J2 ⊢
              by_cases e3 : (nb2 - 1 == 1) = true
              · rw [if_pos e3]
                exact wpS_pure ⟨⟨_, rfl⟩, .inr ⟨_, _, rfl, ls _ _ _ J2 (by omega) (beq_iff_eq.mp e3)⟩⟩
              rw [if_neg e3]
              rw [beq_iff_eq] at e3
              rw [elem'_eq, hxa]
              refine wpS_bind (wpS_pure (wpS_bind (wpS_gallop (b := fun i => match b[0 + i]? with | some x => L x xa | none => false) hL hk (by omega) (by omega) mB (mA _ _ hxa) ?_ mo2 ?_)))
              · intro i x hi hx
                rw [hx]; rfl
              intro k2 hkn2 kt2 kf2
              have kt2' : ∀ i x, i < k2 → b[i]? = some x → L x xa = true := fun i x h2 hx => by
                have := kt2 i h2
                rw [Nat.zero_add, hx] at this
                exact this
              have kf2' : ∀ i x, k2 ≤ i → i < nb2 - 1 → b[i]? = some x → L x xa = false := fun i x h1 h2 hx => by
                have := kf2 i h1 h2
                rw [Nat.zero_add, hx] at this
                exact this
              dsimp only
              by_cases hk2 : nb2 - 1 - k2 > 0
              case' pos =>
                rw [if_pos hk2]
                have J3 := rnA out2 na1 (nb2 - 1) k2 xa J2 hi1 (by omega) (by omega) hkn2 hxa kf2'
                generalize out2 ++ (b.extract k2 (nb2 - 1)).reverse = out3 at J3 ⊢
                generalize nb2 - 1 - k2 = bc1
                by_cases e4 : (k2 == 1) = true
                · rw [if_pos e4]
                  exact wpS_pure ⟨⟨_, rfl⟩, .inr ⟨_, _, rfl, ls _ _ _ J3 (by omega) (beq_iff_eq.mp e4)⟩⟩
                rw [if_neg e4]
                by_cases e6 : (k2 == 0) = true
                · rw [if_pos e6]
                  exact wpS_pure ⟨⟨_, rfl⟩, .inr ⟨_, _, rfl, dn _ _ _ J3 (by omega) (by omega) (.inr (beq_iff_eq.mp e6))⟩⟩
                rw [if_neg e6]
                rw [beq_iff_eq] at e4 e6
                have hj1 : 2 ≤ k2 := by omega
                have hj2 : k2 ≤ nb2 - 1 := by omega
                have kt4 : ∀ x, b[k2 - 1]? = some x → L x xa = true := fun x hx => kt2' (k2 - 1) x (by omega) hx
                clear kt2 kf2 kt2' kf2' hkn2 e4 e6
                generalize k2 = nb3 at J3 kt4 hj1 hj2 ⊢
              case' neg =>
                rw [if_neg hk2]
                have J3 := J2
                have kt4 : ∀ x, b[nb2 - 1 - 1]? = some x → L x xa = true := fun x hx => kt2' (nb2 - 1 - 1) x (by omega) hx
                generalize nb2 - 1 - k2 = bc1
                have hj1 : 2 ≤ nb2 - 1 := by omega
                clear kt2 kf2 kt2' kf2' hkn2 hk2
                generalize hiq : nb2 - 1 = nb3 at J3 kt4 hj1 ⊢
                have hj2 : nb3 ≤ nb2 - 1 := by omega
                clear hiq
                generalize out2 = out3 at J3 ⊢
              all_goals
                obtain ⟨x3, hx3⟩ : ∃ x, b[nb3 - 1]? = some x := ⟨_, Array.getElem?_eq_getElem (by omega)⟩
                have J4 := pB out3 na1 nb3 xa x3 J3 hi1 (by omega) (by omega) (by omega) hxa hx3 (kt4 x3 hx3)
                refine wpS_bind (wpS_pure ?_)
                by_cases e5 : (na1 - 1 == 0) = true
                · rw [if_pos e5]
                  exact wpS_pure ⟨⟨_, rfl⟩, .inr ⟨_, _, rfl, dn _ _ _ J4 (by omega) (by omega) (.inl (beq_iff_eq.mp e5))⟩⟩
                rw [if_neg e5]
                rw [beq_iff_eq] at e5
                split
                · exact wpS_pure ⟨⟨_, rfl⟩, .inl ⟨_, _, _, _, _, _, rfl, J4, by omega, by omega, hj1, by omega, by omega⟩⟩
                · exact wpS_pure ⟨⟨_, rfl⟩, _, _, _, _, _, _, rfl, J4, by omega, by omega, hj1, by omega, by omega⟩
end
end Sm

end PartSortM3

section PartSortN
set_option maxHeartbeats 800000
namespace Sm
open PySem PyProof.Rows
section
variable {prog : Program} {w : World} {A : Around} {E : Value → Shared → Prop} {s : Shared} {ρ : Keyed → Nat} {S : Keyed → Prop} {κ : SortKind} {p0 : Array (Nat × Nat × Nat)} {a0 : Array Keyed} {lo : Nat}
abbrev Lr (ρ : Keyed → Nat) (x y : Keyed) : Bool := decide (ρ x < ρ y)
theorem Lr_swo : Swo (Lr ρ) := ⟨fun x y h => by simp at h ⊢; omega, fun x y z h => by simp at h ⊢; omega⟩
def R (ρ : Keyed → Nat) (xs : Array Keyed) (i : Nat) : Nat := match xs[i]? with
  | some x => ρ x
  | none => 0
theorem R_of {xs ys : Array Keyed} {i j : Nat} (h : xs[i]? = ys[j]?) : R ρ xs i = R ρ ys j := by unfold R; rw [h]
theorem R_at {xs : Array Keyed} {i : Nat} {x : Keyed} (h : xs[i]? = some x) : R ρ xs i = ρ x := by unfold R; rw [h]
structure Bs (κ : SortKind) (p0 : Array (Nat × Nat × Nat)) (a0 : Array Keyed) (lo : Nat) (st : SortSt) : Prop where
  kind : kindOf st = κ
  pend : pendingOf st = p0
  fail : failedOf st = none
  perm : (arrOf st).Perm a0
  pre : ∀ i, i < lo → (arrOf st)[i]? = a0[i]?
theorem Bs.size {st : SortSt} (h : Bs κ p0 a0 lo st) : (arrOf st).size = a0.size := h.perm.size_eq
theorem Bs.set {st : SortSt} {xs : Array Keyed} (h : Bs κ p0 a0 lo st) (hp : xs.Perm (arrOf st)) (hq : ∀ i, i < lo → xs[i]? = (arrOf st)[i]?) : Bs κ p0 a0 lo (setArr st xs) :=
  ⟨h.kind, h.pend, h.fail, hp.trans h.perm, fun i hi => (hq i hi).trans (h.pre i hi)⟩
theorem Bs.mem {st : SortSt} (h : Bs κ p0 a0 lo st) (hS : ∀ x ∈ a0.toList, S x) : ∀ x ∈ (arrOf st).toList, S x := fun x hx => hS x ((Array.perm_iff_toList_perm.mp h.perm).mem_iff.mp hx)
theorem wpS_at {st : SortSt} {i j : Nat} {Q : Option Bool → SortSt → Prop} (hL : LtOk prog w A E s S (Lr ρ) κ) (hS : ∀ x ∈ a0.toList, S x) (hB : Bs κ p0 a0 lo st) (hi : i < a0.size) (hj : j < a0.size)
    (h : Q (some (decide (R ρ (arrOf st) i < R ρ (arrOf st) j))) st) : wpS (model prog w) A E s (ltAt' i j) Q st := by
  rw [ltAt'_eq]
  refine wpS_bind (wpS_get ?_)
  have sz := hB.size
  obtain ⟨x, hx⟩ : ∃ x, (arrOf st)[i]? = some x := ⟨_, Array.getElem?_eq_getElem (by omega)⟩
  obtain ⟨y, hy⟩ : ∃ x, (arrOf st)[j]? = some x := ⟨_, Array.getElem?_eq_getElem (by omega)⟩
  show wpS _ _ _ _ (do let u ← elem' (arrOf st) i; let v ← elem' (arrOf st) j; lt' u v) Q st
  rw [elem'_eq, elem'_eq, hx, hy]
  have m := hB.mem hS
  refine wpS_bind (wpS_pure (wpS_bind (wpS_pure (hL x y st Q (m x (List.mem_of_getElem? (by rw [Array.getElem?_toList]; exact hx))) (m y (List.mem_of_getElem? (by rw [Array.getElem?_toList]; exact hy))) hB.kind ?_))))
  rw [R_at hx, R_at hy] at h
  exact h
def Up (ρ : Keyed → Nat) (xs : Array Keyed) (a b : Nat) : Prop := ∀ i j, a ≤ i → i ≤ j → j < b → R ρ xs i ≤ R ρ xs j
def Dn (ρ : Keyed → Nat) (xs : Array Keyed) (a b : Nat) : Prop := ∀ i j, a ≤ i → i ≤ j → j < b → R ρ xs j ≤ R ρ xs i
theorem R_mir {xs : Array Keyed} {i j : Nat} (hj : j ≤ xs.size) (k : Nat) : R ρ (mirror xs i j ((j - i) / 2)) k = if i ≤ k ∧ k < j then R ρ xs (i + j - 1 - k) else R ρ xs k := by
  have e := getElem?_mirror_all (i := i) hj k
  split
  · rename_i h; rw [if_pos h] at e; exact R_of e
  · rename_i h; rw [if_neg h] at e; exact R_of e
theorem mir_pre {xs : Array Keyed} {i j : Nat} (hj : j ≤ xs.size) (k : Nat) (hk : k < i) : (mirror xs i j ((j - i) / 2))[k]? = xs[k]? := by
  have e := getElem?_mirror_all (i := i) hj k
  rw [if_neg (by omega)] at e
  exact e
theorem R_mir_eq {xs : Array Keyed} {i j c : Nat} (hj : j ≤ xs.size) (he : ∀ k, i ≤ k → k < j → R ρ xs k = c) (k : Nat) : R ρ (mirror xs i j ((j - i) / 2)) k = R ρ xs k := by
  rw [R_mir hj]
  split
  · rw [he k (by omega) (by omega), he _ (by omega) (by omega)]
  · rfl
theorem Bs.mir {st : SortSt} {i j : Nat} (h : Bs κ p0 a0 lo st) (hi : lo ≤ i) (hj : j ≤ a0.size) : Bs κ p0 a0 lo (setArr st (mirror (arrOf st) i j ((j - i) / 2))) :=
  h.set (mirror_perm _ _ _ _) fun k hk => mir_pre (by rw [h.size]; exact hj) k (by omega)
theorem wpS_countG {nrem : Nat} {st : SortSt} {Q : Option Nat → SortSt → Prop} (hL : LtOk prog w A E s S (Lr ρ) κ) (hS : ∀ x ∈ a0.toList, S x) (hB : Bs κ p0 a0 lo st) (h1 : 1 ≤ nrem) (hn : lo + nrem ≤ a0.size)
    (h : ∀ m st', Bs κ p0 a0 lo st' → 1 ≤ m → m ≤ nrem → Up ρ (arrOf st') lo (lo + m) → Q (some m) st') : wpS (model prog w) A E s (countRun' lo nrem) Q st := by
  rw [countRun'_eq]
  dsimp only
  refine wpS_bind (wpS_mono (wpS_forRange (I := fun x c st' => st' = st ∧ c = (none, x) ∧ Up ρ (arrOf st) lo (lo + x))
    (Q := fun c st' => st' = st ∧ ∃ n, c = (none, n) ∧ 1 ≤ n ∧ n ≤ nrem ∧ Up ρ (arrOf st) lo (lo + n) ∧ (n = nrem ∨ R ρ (arrOf st) (lo + n) < R ρ (arrOf st) (lo + n - 1))) ?st1 ?en1 ⟨rfl, rfl, fun i j h1 h2 h3 => Nat.le_of_eq (by rw [show i = j by omega])⟩) ?po1)
  case en1 =>
    rintro c st' ⟨rfl, rfl, hu⟩
    rw [Nat.max_eq_right h1] at hu ⊢
    exact ⟨rfl, nrem, rfl, h1, Nat.le_refl _, hu, .inl rfl⟩
  case st1 =>
    rintro x c st' hx1 hx2 ⟨rfl, rfl, hu⟩
    refine wpS_bind (wpS_at hL hS hB (by omega) (by omega) ?_)
    by_cases hl : R ρ (arrOf st') (lo + x) < R ρ (arrOf st') (lo + x - 1)
    · simp only [hl, decide_true, if_true]
      exact wpS_pure ⟨rfl, x, rfl, hx1, by omega, hu, .inr hl⟩
    · simp only [hl, decide_false, Bool.false_eq_true, if_false]
      refine wpS_pure ⟨rfl, rfl, fun i j h1 h2 h3 => ?_⟩
      by_cases hj : j < lo + x
      · exact hu i j h1 h2 hj
      · obtain rfl : j = lo + x := by omega
        by_cases hi : i = lo + x
        · rw [hi]; exact Nat.le_refl _
        · have := hu i (lo + x - 1) h1 (by omega) (by omega)
          omega
  case po1 =>
    rintro c st' ⟨rfl, n, rfl, n1, n2, hu, hor⟩
    dsimp only
    by_cases e1 : (n == nrem) = true
    · rw [if_pos e1]
      exact wpS_pure (h n st' hB n1 n2 hu)
    rw [if_neg e1]
    rw [beq_iff_eq] at e1
    have hlt := hor.resolve_left e1
    have sz := hB.size
    have dn1 : ∀ ys : Array Keyed, (∀ k, R ρ ys k = R ρ (arrOf st') k) → (∀ k, lo ≤ k → k < lo + n → R ρ (arrOf st') k = R ρ (arrOf st') (lo + n - 1)) → Dn ρ ys lo (lo + (n + 1)) := fun ys e he i j h1 h2 h3 => by
      rw [e, e]
      by_cases hj : j < lo + n
      · rw [he i h1 (by omega), he j (by omega) hj]; exact Nat.le_refl _
      · obtain rfl : j = lo + n := by omega
        by_cases hi : i = lo + n
        · rw [hi]; exact Nat.le_refl _
        · rw [he i h1 (by omega)]; omega
    by_cases e2 : n > 1
    case' pos =>
      rw [if_pos e2]
      refine wpS_bind (wpS_at hL hS hB (by omega) (by omega) ?_)
      by_cases hl : R ρ (arrOf st') lo < R ρ (arrOf st') (lo + n - 1)
      · simp only [hl, decide_true, if_true]
        exact wpS_pure (h n st' hB n1 n2 hu)
      simp only [hl, decide_false, Bool.false_eq_true, if_false]
      have hq : ∀ k, lo ≤ k → k < lo + n → R ρ (arrOf st') k = R ρ (arrOf st') (lo + n - 1) := fun k k1 k2 => by
        have a1 := hu lo k (Nat.le_refl _) k1 k2
        have a2 := hu k (lo + n - 1) k1 (by omega) (by omega)
        omega
      have hd : Dn ρ (arrOf (setArr st' (mirror (arrOf st') lo (lo + n) ((lo + n - lo) / 2)))) lo (lo + (n + 1)) := dn1 _ (R_mir_eq (by omega) hq) hq
      have hB2 := hB.mir (i := lo) (j := lo + n) (Nat.le_refl _) (by omega)
      refine wpS_bind (wpS_reverse ?_)
      generalize setArr st' (mirror (arrOf st') lo (lo + n) ((lo + n - lo) / 2)) = st2 at hB2 hd ⊢
    case' neg =>
      rw [if_neg e2]
      have hB2 := hB
      have hd : Dn ρ (arrOf st') lo (lo + (n + 1)) := dn1 _ (fun _ => rfl) fun k k1 k2 => by rw [show k = lo + n - 1 by omega]
      clear hu hor dn1 hlt sz hB
      generalize st' = st2 at hB2 hd ⊢
    all_goals
      refine wpS_bind (wpS_lift (wpAny_rule ⟨rfl, ?_⟩))
      refine wpS_bind (wpS_mono (wpS_forRange (I := fun x c st' => ∃ q, c = (none, x, q) ∧ Bs κ p0 a0 lo st' ∧ Dn ρ (arrOf st') lo (lo + x) ∧ q + 1 ≤ x ∧ ∀ k, lo + x - (q + 1) ≤ k → k < lo + x → R ρ (arrOf st') k = R ρ (arrOf st') (lo + x - 1))
        (Q := fun c st' => ∃ m q, c = (none, m, q) ∧ Bs κ p0 a0 lo st' ∧ Dn ρ (arrOf st') lo (lo + m) ∧ q + 1 ≤ m ∧ 1 ≤ m ∧ m ≤ nrem ∧ ∀ k, lo + m - (q + 1) ≤ k → k < lo + m → R ρ (arrOf st') k = R ρ (arrOf st') (lo + m - 1)) ?st2 ?en2 ⟨0, rfl, hB2, hd, by omega, fun k k1 k2 => by rw [show k = lo + (n + 1) - 1 by omega]⟩) ?po2)
      case en2 =>
        rintro c st3 ⟨q, rfl, b1, b2, b3, b4⟩
        rw [Nat.max_eq_right (by omega)] at b2 b3 b4 ⊢
        exact ⟨nrem, q, rfl, b1, b2, b3, by omega, Nat.le_refl _, b4⟩
      case st2 =>
        rintro x c st3 x1 x2 ⟨q, rfl, b1, b2, b3, b4⟩
        have sz3 := b1.size
        have szl := hn
        dsimp only
        refine wpS_bind (wpS_at hL hS b1 (by omega) (by omega) ?_)
        by_cases hl : R ρ (arrOf st3) (lo + x) < R ρ (arrOf st3) (lo + x - 1)
        · simp only [hl, decide_true, if_true]
          have nx : ∀ ys : Array Keyed, (∀ k, R ρ ys k = R ρ (arrOf st3) k) → Dn ρ ys lo (lo + (x + 1)) := fun ys e i j h1 h2 h3 => by
            rw [e, e]
            by_cases hj : j < lo + x
            · exact b2 i j h1 h2 hj
            · obtain rfl : j = lo + x := by omega
              by_cases hi : i = lo + x
              · rw [hi]; exact Nat.le_refl _
              · have := b2 i (lo + x - 1) h1 (by omega) (by omega)
                omega
          by_cases hq : q > 0
          · rw [if_pos hq]
            exact wpS_bind (wpS_reverse (wpS_pure ⟨0, rfl, b1.mir (by omega) (by omega), nx _ (R_mir_eq (by omega) b4), by omega, fun k k1 k2 => by rw [show k = lo + (x + 1) - 1 by omega]⟩))
          · rw [if_neg hq]
            exact wpS_pure ⟨0, rfl, b1, nx _ (fun _ => rfl), by omega, fun k k1 k2 => by rw [show k = lo + (x + 1) - 1 by omega]⟩
        · simp only [hl, decide_false, Bool.false_eq_true, if_false]
          refine wpS_bind (wpS_at hL hS b1 (by omega) (by omega) ?_)
          by_cases hg : R ρ (arrOf st3) (lo + x - 1) < R ρ (arrOf st3) (lo + x)
          · simp only [hg, decide_true, if_true]
            exact wpS_pure ⟨x, q, rfl, b1, b2, b3, by omega, by omega, b4⟩
          · simp only [hg, decide_false, Bool.false_eq_true, if_false]
            refine wpS_pure ⟨q + 1, rfl, b1, fun i j h1 h2 h3 => ?_, by omega, fun k k1 k2 => ?_⟩
            · by_cases hj : j < lo + x
              · exact b2 i j h1 h2 hj
              · obtain rfl : j = lo + x := by omega
                by_cases hi : i = lo + x
                · rw [hi]; exact Nat.le_refl _
                · have := b2 i (lo + x - 1) h1 (by omega) (by omega)
                  omega
            · rw [show lo + (x + 1) - 1 = lo + x by omega]
              by_cases hk : k = lo + x
              · rw [hk]
              · have := b4 k (by omega) (by omega)
                omega
      case po2 =>
        rintro c st3 ⟨m, q, rfl, b1, b2, b3, m1, m2, b4⟩
        have sz3 := b1.size
        dsimp only
        by_cases hq : q > 0
        case' pos =>
          rw [if_pos hq]
          refine wpS_bind (wpS_reverse ?_)
          have c1 := b1.mir (i := lo + m - (q + 1)) (j := lo + m) (by omega) (by omega)
          have c2 : Dn ρ (arrOf (setArr st3 (mirror (arrOf st3) (lo + m - (q + 1)) (lo + m) ((lo + m - (lo + m - (q + 1))) / 2)))) lo (lo + m) := fun i j h1 h2 h3 => by
            have e := R_mir_eq (ρ := ρ) (xs := arrOf st3) (i := lo + m - (q + 1)) (j := lo + m) (by omega) b4
            show R ρ (mirror _ _ _ _) j ≤ R ρ (mirror _ _ _ _) i
            rw [e, e]
            exact b2 i j h1 h2 h3
          generalize setArr st3 (mirror (arrOf st3) (lo + m - (q + 1)) (lo + m) ((lo + m - (lo + m - (q + 1))) / 2)) = st4 at c1 c2 ⊢
        case' neg =>
          rw [if_neg hq]
          have c1 := b1
          have c2 := b2
          clear b4 sz3 b1 b2
          generalize st3 = st4 at c1 c2 ⊢
        all_goals
          have sz4 := c1.size
          refine wpS_bind (wpS_reverse ?_)
          have d1 := c1.mir (i := lo) (j := lo + m) (Nat.le_refl _) (by omega)
          have d2 : Up ρ (arrOf (setArr st4 (mirror (arrOf st4) lo (lo + m) ((lo + m - lo) / 2)))) lo (lo + m) := fun i j h1 h2 h3 => by
            have e := R_mir (ρ := ρ) (xs := arrOf st4) (i := lo) (j := lo + m) (by omega)
            show R ρ (mirror _ _ _ _) i ≤ R ρ (mirror _ _ _ _) j
            rw [e, e, if_pos ⟨h1, by omega⟩, if_pos ⟨by omega, h3⟩]
            exact c2 _ _ (by omega) (by omega) (by omega)
          generalize setArr st4 (mirror (arrOf st4) lo (lo + m) ((lo + m - lo) / 2)) = st5 at d1 d2 ⊢
          refine wpS_bind (wpS_mono (wpS_forRange (I := fun x c st' => st' = st5 ∧ c = (none, x) ∧ Up ρ (arrOf st5) lo (lo + x)) (Q := fun c st' => st' = st5 ∧ ∃ k, c = (none, k) ∧ 1 ≤ k ∧ k ≤ nrem ∧ Up ρ (arrOf st5) lo (lo + k)) ?st3 ?en3 ⟨rfl, rfl, d2⟩) ?po3)
          case en3 =>
            rintro c st' ⟨rfl, rfl, hu⟩
            rw [Nat.max_eq_right m2] at hu ⊢
            exact ⟨rfl, nrem, rfl, h1, Nat.le_refl _, hu⟩
          case st3 =>
            rintro x c st' hx1 hx2 ⟨rfl, rfl, hu⟩
            refine wpS_bind (wpS_at hL hS d1 (by omega) (by omega) ?_)
            by_cases hl : R ρ (arrOf st') (lo + x) < R ρ (arrOf st') (lo + x - 1)
            · simp only [hl, decide_true, if_true]
              exact wpS_pure ⟨rfl, x, rfl, by omega, by omega, hu⟩
            · simp only [hl, decide_false, Bool.false_eq_true, if_false]
              refine wpS_pure ⟨rfl, rfl, fun i j h1 h2 h3 => ?_⟩
              by_cases hj : j < lo + x
              · exact hu i j h1 h2 hj
              · obtain rfl : j = lo + x := by omega
                by_cases hi : i = lo + x
                · rw [hi]; exact Nat.le_refl _
                · have := hu i (lo + x - 1) h1 (by omega) (by omega)
                  omega
          case po3 =>
            rintro c st' ⟨rfl, k, rfl, k1, k2, hu⟩
            exact wpS_pure (h k st' d1 k1 k2 hu)
theorem R_bub {xs : Array Keyed} {z d : Nat} (hz : z < xs.size) (hd : d ≤ z) (k : Nat) : R ρ (bubble xs z d) k = if k = z - d then R ρ xs z else if z - d < k ∧ k ≤ z then R ρ xs (k - 1) else R ρ xs k := by
  have e := getElem?_bubble hz d hd k
  split
  · rename_i h; rw [if_pos h] at e; exact R_of e
  · rename_i h
    rw [if_neg h] at e
    split
    · rename_i g; rw [if_pos g] at e; exact R_of e
    · rename_i g; rw [if_neg g] at e; exact R_of e
theorem bub_pre {xs : Array Keyed} {z d : Nat} (hz : z < xs.size) (hd : d ≤ z) (k : Nat) (hk : k < z - d) : (bubble xs z d)[k]? = xs[k]? := by
  have e := getElem?_bubble hz d hd k
  rw [if_neg (by omega), if_neg (by omega)] at e
  exact e
theorem wpS_binG {n ok : Nat} {st : SortSt} {Q : Bool → SortSt → Prop} (hL : LtOk prog w A E s S (Lr ρ) κ) (hS : ∀ x ∈ a0.toList, S x) (hB : Bs κ p0 a0 lo st) (h1 : 1 ≤ ok) (hok : ok ≤ n) (hn : lo + n ≤ a0.size) (hu : Up ρ (arrOf st) lo (lo + ok))
    (h : ∀ st', Bs κ p0 a0 lo st' → Up ρ (arrOf st') lo (lo + n) → Q true st') : wpS (model prog w) A E s (binarySort' lo n ok) Q st := by
  rw [binarySort'_eq]
  refine wpS_bind (wpS_mono (wpS_forRange (I := fun k c st' => c = (none, ()) ∧ Bs κ p0 a0 lo st' ∧ Up ρ (arrOf st') lo (lo + k))
    (Q := fun c st' => c = (none, ()) ∧ Bs κ p0 a0 lo st' ∧ Up ρ (arrOf st') lo (lo + n)) ?sa ?ea ⟨rfl, hB, by rw [Nat.max_eq_left h1]; exact hu⟩) ?pa)
  case pa =>
    rintro c st' ⟨rfl, b1, b2⟩
    exact wpS_pure (h st' b1 b2)
  case ea =>
    rintro c st' ⟨e, b1, b2⟩
    rw [show max (max ok 1) n = n by omega] at b2
    exact ⟨e, b1, b2⟩
  case sa =>
    rintro k c st' k1 k2 ⟨rfl, b1, b2⟩
    have sz := b1.size
    refine wpS_bind (wpS_mono (wpS_forRange (I := fun x c st2 => st2 = st' ∧ ∃ l r, c = (none, l, r) ∧ l ≤ r ∧ r ≤ k ∧ r - l + x ≤ k ∧ (∀ i, lo ≤ i → i < lo + l → R ρ (arrOf st') i ≤ R ρ (arrOf st') (lo + k)) ∧ ∀ i, lo + r ≤ i → i < lo + k → R ρ (arrOf st') (lo + k) < R ρ (arrOf st') i)
      (Q := fun c st2 => st2 = st' ∧ ∃ l r, c = (none, l, r) ∧ l ≤ k ∧ (∀ i, lo ≤ i → i < lo + l → R ρ (arrOf st') i ≤ R ρ (arrOf st') (lo + k)) ∧ ∀ i, lo + l ≤ i → i < lo + k → R ρ (arrOf st') (lo + k) < R ρ (arrOf st') i) ?sb ?eb ⟨rfl, 0, k, rfl, by omega, by omega, by omega, fun i _ _ => by omega, fun i _ _ => by omega⟩) ?pb)
    case eb =>
      rintro c st2 ⟨rfl, l, r, rfl, l1, l2, l3, l4, l5⟩
      obtain rfl : l = r := by omega
      exact ⟨rfl, l, l, rfl, l2, l4, l5⟩
    case sb =>
      rintro x c st2 _ hx ⟨rfl, l, r, rfl, l1, l2, l3, l4, l5⟩
      dsimp only
      by_cases hge : l ≥ r
      · rw [if_pos hge]
        obtain rfl : l = r := by omega
        exact wpS_pure ⟨rfl, l, l, rfl, l2, l4, l5⟩
      · rw [if_neg hge]
        refine wpS_bind (wpS_at hL hS b1 (by omega) (by omega) ?_)
        by_cases hl : R ρ (arrOf st2) (lo + k) < R ρ (arrOf st2) (lo + (l + r) / 2)
        · simp only [hl, decide_true, if_true]
          refine wpS_pure ⟨rfl, l, (l + r) / 2, rfl, by omega, by omega, by omega, l4, fun i i1 i2 => ?_⟩
          have := b2 (lo + (l + r) / 2) i (by omega) i1 i2
          omega
        · simp only [hl, decide_false, Bool.false_eq_true, if_false]
          refine wpS_pure ⟨rfl, (l + r) / 2 + 1, r, rfl, by omega, by omega, by omega, fun i i1 i2 => ?_, l5⟩
          have := b2 i (lo + (l + r) / 2) i1 (by omega) (by omega)
          omega
    case pb =>
      rintro c st2 ⟨rfl, l, r, rfl, l1, l4, l5⟩
      show wpS _ _ _ _ (do moveDown' (lo + k) (lo + l); pure (ForInStep.yield (none, ()))) _ _
      rw [moveDown'_eq]
      have hks : lo + k < (arrOf st2).size := by omega
      refine wpS_bind (wpS_modify (wpS_pure ⟨rfl, b1.set (bubble_perm _ _ _) fun i hi => bub_pre hks (by omega) i (by omega), fun i j h1 h2 h3 => ?_⟩))
      show R ρ (bubble (arrOf st2) (lo + k) (lo + k - (lo + l))) i ≤ R ρ (bubble (arrOf st2) (lo + k) (lo + k - (lo + l))) j
      rw [R_bub hks (by omega), R_bub hks (by omega), show lo + k - (lo + k - (lo + l)) = lo + l by omega]
      by_cases hi : i = lo + l
      · rw [if_pos hi]
        by_cases hj : j = lo + l
        · rw [if_pos hj]; exact Nat.le_refl _
        · rw [if_neg hj, if_pos (by omega)]
          exact Nat.le_of_lt (l5 _ (by omega) (by omega))
      · rw [if_neg hi]
        by_cases hi2 : lo + l < i ∧ i ≤ lo + k
        · rw [if_pos hi2, if_neg (by omega), if_pos (by omega)]
          exact b2 _ _ (by omega) (by omega) (by omega)
        · rw [if_neg hi2]
          by_cases hj : j = lo + l
          · rw [if_pos hj]
            exact l4 _ h1 (by omega)
          · rw [if_neg hj]
            split
            · exact b2 _ _ h1 (by omega) (by omega)
            · exact b2 _ _ h1 (by omega) (by omega)
end
end Sm

end PartSortN

section PartSortO
set_option maxHeartbeats 800000
namespace Sm
open PySem PyProof.Rows
local macro_rules | `(tactic| delta mergeAtOpen) => `(tactic| delta $(Lean.mkCIdent (Lean.mkPrivateNameCore `PySem.Builtin.List.W1All `PySem.Builtin.mergeAt)))
section
variable {prog : Program} {w : World} {A : Around} {E : Value → Shared → Prop} {s : Shared} {ρ : Keyed → Nat} {S : Keyed → Prop} {κ : SortKind}
theorem wpS_set {σ : Type} {M : Model} {v : σ} {Q : PUnit → σ → Prop} {st : σ} (h : Q ⟨⟩ v) : wpS M A E s (set v : StateT σ Sem PUnit) Q st := by
  unfold wpS
  show wpAny M A ((MonadStateOf.set v : StateT σ Sem PUnit).run st) _ E s
  rw [StateT.run_set]
  exact wpAny_pure ⟨rfl, h⟩
/-- put back: the run of a list written over an array from a place on -/
theorem put_back : ∀ (r : List Keyed) (k n : Nat) (a : Array Keyed), n + k + r.length ≤ a.size → ((r.zipIdx k).foldl (fun a (p : Keyed × Nat) => a.setIfInBounds (n + p.2) p.1) a).toList = a.toList.take (n + k) ++ r ++ a.toList.drop (n + k + r.length)
  | [], k, n, a, _ => by simp
  | x :: r, k, n, a, h => by
    rw [List.length_cons] at h
    rw [List.zipIdx_cons, List.foldl_cons, put_back r (k + 1) n _ (by rw [Array.size_setIfInBounds]; omega), Array.toList_setIfInBounds]
    have l := Array.length_toList (xs := a)
    rw [show n + (k + 1) = n + k + 1 by omega, List.take_succ_eq_append_getElem (by rw [List.length_set]; omega), List.getElem_set_self, List.take_set_of_le (Nat.le_refl _), List.drop_set_of_lt (by omega), List.length_cons, show n + k + 1 + r.length = n + k + (r.length + 1) by omega]
    simp
theorem mem_ext {a : Array Keyed} {i j : Nat} {x : Keyed} (h : x ∈ (a.extract i j).toList) : ∃ t, i ≤ t ∧ t < j ∧ a[t]? = some x := by
  obtain ⟨k, hk⟩ := List.mem_iff_getElem?.mp h
  rw [ext_mid, List.getElem?_drop] at hk
  rw [List.getElem?_take] at hk
  split at hk
  · exact ⟨i + k, by omega, by assumption, by rw [← Array.getElem?_toList]; exact hk⟩
  · cases hk
theorem ext_at {a : Array Keyed} {i j k : Nat} {x : Keyed} (h : (a.extract i j)[k]? = some x) : a[i + k]? = some x ∧ i + k < j := by
  rw [← Array.getElem?_toList, ext_mid, List.getElem?_drop, List.getElem?_take] at h
  split at h
  · exact ⟨by rw [← Array.getElem?_toList]; exact h, by assumption⟩
  · cases h
theorem risen_ext {a : Array Keyed} {i j : Nat} (hu : Up ρ a i j) : Risen (Lr ρ) (a.extract i j).toList := by
  refine List.pairwise_iff_getElem.mpr fun p q hp hq hpq => ?_
  have e1 := ext_at (a := a) (i := i) (j := j) (k := p) (by rw [← Array.getElem?_toList]; exact List.getElem?_eq_getElem hp)
  have e2 := ext_at (a := a) (i := i) (j := j) (k := q) (by rw [← Array.getElem?_toList]; exact List.getElem?_eq_getElem hq)
  have := hu (i + p) (i + q) (by omega) (by omega) e2.2
  rw [R_at e1.1, R_at e2.1] at this
  exact decide_eq_false (by omega)
theorem pend_one {α : Type} {x y z : α} {r : List α} : ∀ l : List α, ((l ++ x :: y :: r).set l.length z).eraseIdx (l.length + 1) = l ++ z :: r
  | [] => rfl
  | a :: l => congrArg (a :: ·) (pend_one l)
theorem wpS_mergeAt {l r : List (Nat × Nat × Nat)} {sa na pw sb nb qw : Nat} {st : SortSt} {Q : Bool → SortSt → Prop} (hL : LtOk prog w A E s S (Lr ρ) κ) (hS : ∀ x ∈ (arrOf st).toList, S x) (hk : kindOf st = κ) (hf : failedOf st = none)
    (hp : pendingOf st = (l ++ (sa, na, pw) :: (sb, nb, qw) :: r).toArray) (e0 : sb = sa + na) (na1 : 1 ≤ na) (nb1 : 1 ≤ nb) (hz : sb + nb ≤ (arrOf st).size) (ua : Up ρ (arrOf st) sa sb) (ub : Up ρ (arrOf st) sb (sb + nb))
    (h : ∀ xs g, xs.Perm (arrOf st) → (∀ i, i < sa ∨ sb + nb ≤ i → xs[i]? = (arrOf st)[i]?) → Up ρ xs sa (sb + nb) → Q true (SortSt.mk' κ xs (l ++ (sa, na + nb, pw) :: r).toArray g none)) : wpS (model prog w) A E s (mergeAt' l.length) Q st := by
  delta mergeAt'
  delta mergeAtOpen
  dsimp only [elem_fold, gallop_fold, mergeLo_fold, mergeHi_fold]
  refine wpS_bind (wpS_get ?_)
  have g1 : (pendingOf st)[l.length]? = some (sa, na, pw) := by rw [hp]; simp
  have g2 : (pendingOf st)[l.length + 1]? = some (sb, nb, qw) := by rw [hp]; simp
  rw [g1, g2]
  dsimp only
  refine wpS_bind (wpS_set ?_)
  have ep : ((pendingOf st).setIfInBounds l.length (sa, na + nb, pw)).eraseIdxIfInBounds (l.length + 1) = (l ++ (sa, na + nb, pw) :: r).toArray := by
    rw [hp]
    apply Array.toList_inj.mp
    have hl : l.length + 1 < ((l ++ (sa, na, pw) :: (sb, nb, qw) :: r).toArray.setIfInBounds l.length (sa, na + nb, pw)).size := by simp
    unfold Array.eraseIdxIfInBounds
    rw [dif_pos hl, Array.toList_eraseIdx, Array.toList_setIfInBounds]
    exact pend_one l
  rw [ep]
  have hS' : ∀ (i : Nat) x, (arrOf st)[i]? = some x → S x := fun i x e => hS x (List.mem_of_getElem? (by rw [Array.getElem?_toList]; exact e))
  obtain ⟨xb, hxb⟩ : ∃ x, (arrOf st)[sb]? = some x := ⟨_, Array.getElem?_eq_getElem (by omega)⟩
  have rb := R_at (ρ := ρ) hxb
  rw [elem'_eq, hxb]
  refine wpS_bind (wpS_pure (wpS_bind (wpS_gallop (arr := arrOf st) (b := fun i => !decide (ρ xb < R ρ (arrOf st) (sa + i))) hL hk (by omega) (by omega) hS' (hS' _ _ hxb) ?_ ?_ ?_)))
  · intro i x hi hx
    rw [R_at hx]; rfl
  · intro i j hij hj
    have := ua (sa + i) (sa + j) (by omega) (by omega) (by omega)
    simp
    omega
  intro k hkn kt kf
  have kt' : ∀ i, sa ≤ i → i < sa + k → R ρ (arrOf st) i ≤ ρ xb := fun i h1 h2 => by
    have := kt (i - sa) (by omega)
    rw [show sa + (i - sa) = i by omega] at this
    simpa using this
  have kf' : ∀ i, sa + k ≤ i → i < sb → ρ xb < R ρ (arrOf st) i := fun i h1 h2 => by
    have := kf (i - sa) (by omega) (by omega)
    rw [show sa + (i - sa) = i by omega] at this
    simpa using this
  clear kt kf
  dsimp only
  by_cases e1 : (na - k == 0) = true
  · rw [if_pos e1]
    rw [beq_iff_eq] at e1
    have := h (arrOf st) (gallopOf st) (Array.Perm.refl _) (fun _ _ => rfl) fun i j h1 h2 h3 => by
      by_cases hi : i < sb
      · by_cases hj : j < sb
        · exact ua i j h1 h2 hj
        · have a1 := kt' i h1 (by omega)
          have a2 := ub sb j (Nat.le_refl _) (by omega) h3
          omega
      · exact ub i j (by omega) h2 h3
    refine wpS_pure ?_
    rw [← hk, ← hf] at this
    exact this
  rw [if_neg e1]
  rw [beq_iff_eq] at e1
  obtain ⟨xa, hxa⟩ : ∃ x, (arrOf st)[sa + k + (na - k) - 1]? = some x := ⟨_, Array.getElem?_eq_getElem (by omega)⟩
  have ra : R ρ (arrOf st) (sb - 1) = ρ xa := by rw [show sb - 1 = sa + k + (na - k) - 1 by omega]; exact R_at hxa
  rw [elem'_eq, hxa]
  refine wpS_bind (wpS_pure (wpS_bind (wpS_gallop (arr := arrOf st) (b := fun i => decide (R ρ (arrOf st) (sb + i) < ρ xa)) hL hk (by omega) (by omega) hS' (hS' _ _ hxa) ?_ ?_ ?_)))
  · intro i x hi hx
    rw [R_at hx]; rfl
  · intro i j hij hj
    have := ub (sb + i) (sb + j) (by omega) (by omega) (by omega)
    simp
    omega
  intro m hmn mt mf
  have mt' : ∀ i, sb ≤ i → i < sb + m → R ρ (arrOf st) i < ρ xa := fun i h1 h2 => by
    have := mt (i - sb) (by omega)
    rw [show sb + (i - sb) = i by omega] at this
    simpa using this
  have mf' : ∀ i, sb + m ≤ i → i < sb + nb → ρ xa ≤ R ρ (arrOf st) i := fun i h1 h2 => by
    have := mf (i - sb) (by omega) (by omega)
    rw [show sb + (i - sb) = i by omega] at this
    simpa using this
  clear mt mf
  dsimp only
  by_cases e2 : (m == 0) = true
  · rw [if_pos e2]
    rw [beq_iff_eq] at e2
    have := h (arrOf st) (gallopOf st) (Array.Perm.refl _) (fun _ _ => rfl) fun i j h1 h2 h3 => by
      by_cases hi : i < sb
      · by_cases hj : j < sb
        · exact ua i j h1 h2 hj
        · have a1 := ua i (sb - 1) h1 (by omega) (by omega)
          have a2 := mf' j (by omega) h3
          omega
      · exact ub i j (by omega) h2 h3
    refine wpS_pure ?_
    rw [← hk, ← hf] at this
    exact this
  rw [if_neg e2]
  rw [beq_iff_eq] at e2
  have ua' : Up ρ (arrOf st) (sa + k) sb := fun i j h1 h2 h3 => ua i j (by omega) h2 h3
  have ub' : Up ρ (arrOf st) sb (sb + m) := fun i j h1 h2 h3 => ub i j h1 h2 (by omega)
  have z1 : ((arrOf st).extract (sa + k) sb).size = na - k := by rw [Array.size_extract]; omega
  have z2 : ((arrOf st).extract sb (sb + m)).size = m := by rw [Array.size_extract]; omega
  have mr : ∀ M, M = mergeLo' ((arrOf st).extract (sa + k) sb) ((arrOf st).extract sb (sb + m)) ∨ M = mergeHi' ((arrOf st).extract (sa + k) sb) ((arrOf st).extract sb (sb + m)) → ∀ Q : Array Keyed → SortSt → Prop, (∀ y g, Good (Lr ρ) ((arrOf st).extract (sa + k) sb).toList ((arrOf st).extract sb (sb + m)).toList y.toList → Q y (setGal (setPending st (l ++ (sa, na + nb, pw) :: r).toArray) g)) → wpS (model prog w) A E s M Q (setPending st (l ++ (sa, na + nb, pw) :: r).toArray) := by
    intro M hM Q q
    have s1 : ∀ x ∈ ((arrOf st).extract (sa + k) sb).toList, S x := fun x hx => by
      obtain ⟨t, _, _, e⟩ := mem_ext hx
      exact hS' t x e
    have s2 : ∀ x ∈ ((arrOf st).extract sb (sb + m)).toList, S x := fun x hx => by
      obtain ⟨t, _, _, e⟩ := mem_ext hx
      exact hS' t x e
    have q1 : ∀ x ∈ ((arrOf st).extract (sa + k) sb).toList, ∀ y, ((arrOf st).extract sb (sb + m))[0]? = some y → Lr ρ x y = false := fun x hx y hy => by
      obtain ⟨t, t1, t2, e⟩ := mem_ext hx
      have e3 := (ext_at hy).1
      rw [Nat.add_zero, hxb] at e3
      cases e3
      have := kf' t t1 t2
      rw [R_at e] at this
      exact decide_eq_false (by omega)
    have q2 : ∀ x, ((arrOf st).extract (sa + k) sb)[((arrOf st).extract (sa + k) sb).size - 1]? = some x → ∀ y ∈ ((arrOf st).extract sb (sb + m)).toList, Lr ρ x y = false := fun x hx y hy => by
      obtain ⟨t, t1, t2, e⟩ := mem_ext hy
      have e3 := (ext_at hx).1
      rw [z1, show sa + k + (na - k - 1) = sa + k + (na - k) - 1 by omega, hxa] at e3
      cases e3
      have := mt' t t1 t2
      rw [R_at e] at this
      exact decide_eq_false (by omega)
    rcases hM with rfl | rfl
    · exact wpS_mergeLo Lr_swo hL hk (by omega) (by omega) s1 s2 (risen_ext ua') (risen_ext ub') q1 q2 q
    · exact wpS_mergeHi Lr_swo hL hk (by omega) (by omega) s1 s2 (risen_ext ua') (risen_ext ub') q1 q2 q
  by_cases hc : na - k ≤ m
  case' pos =>
    rw [if_pos hc]
    refine wpS_bind (mr _ (.inl rfl) _ fun y g hg => ?_)
  case' neg =>
    rw [if_neg hc]
    refine wpS_bind (mr _ (.inr rfl) _ fun y g hg => ?_)
  all_goals
    clear mr
    refine wpS_bind (wpS_modify (wpS_bind (wpS_get ?_)))
    have ly : y.toList.length = na - k + m := by rw [hg.1.length_eq, List.length_append, Array.length_toList, Array.length_toList, z1, z2]
    have pb := put_back y.toList 0 (sa + k) (arrOf st) (by rw [ly]; omega)
    rw [ly, Nat.add_zero] at pb
    have lT := Array.length_toList (xs := arrOf st)
    have eT : (arrOf st).toList = (arrOf st).toList.take (sa + k) ++ (((arrOf st).extract (sa + k) sb).toList ++ ((arrOf st).extract sb (sb + m)).toList) ++ (arrOf st).toList.drop (sa + k + (na - k + m)) := by
      have d1 : ((arrOf st).toList.take sb).drop (sa + k) ++ ((arrOf st).toList.take (sb + m)).drop sb = ((arrOf st).toList.drop (sa + k)).take (na - k + m) := by
        rw [List.drop_take, List.drop_take, show sb + m - sb = m by omega, show sb - (sa + k) = na - k by omega, List.take_add, List.drop_drop, show sa + k + (na - k) = sb by omega]
      have d2 : (arrOf st).toList.drop (sa + k + (na - k + m)) = ((arrOf st).toList.drop (sa + k)).drop (na - k + m) := by rw [List.drop_drop]
      rw [ext_mid, ext_mid, d1, d2, List.append_assoc, List.take_append_drop, List.take_append_drop]
    have hx : ∀ xs : Array Keyed, xs.toList = (arrOf st).toList.take (sa + k) ++ y.toList ++ (arrOf st).toList.drop (sa + k + (na - k + m)) → Q true (SortSt.mk' κ xs (l ++ (sa, na + nb, pw) :: r).toArray g none) := fun xs ex => by
      have lk : ((arrOf st).toList.take (sa + k)).length = sa + k := by rw [List.length_take, lT]; omega
      have old : ∀ i, i < sa + k ∨ sb + m ≤ i → xs[i]? = (arrOf st)[i]? := fun i hi => by
        rw [← Array.getElem?_toList, ← Array.getElem?_toList, ex]
        rcases hi with hi | hi
        · rw [List.append_assoc, List.getElem?_append_left (by omega), List.getElem?_take, if_pos hi]
        · rw [List.getElem?_append_right (by rw [List.length_append, lk, ly]; omega), List.length_append, lk, ly, List.getElem?_drop]
          congr 1; omega
      have mid : ∀ i, sa + k ≤ i → i < sb + m → ∃ x, xs[i]? = some x ∧ y.toList[i - (sa + k)]? = some x := fun i h1 h2 => by
        have e : xs[i]? = y.toList[i - (sa + k)]? := by
          rw [← Array.getElem?_toList, ex, List.getElem?_append_left (by rw [List.length_append, lk, ly]; omega), List.getElem?_append_right (by omega), lk]
        have hl : i - (sa + k) < y.toList.length := by omega
        exact ⟨_, e.trans (List.getElem?_eq_getElem hl), List.getElem?_eq_getElem hl⟩
      have val : ∀ x ∈ y.toList, (∃ t, sa + k ≤ t ∧ t < sb ∧ R ρ (arrOf st) t = ρ x) ∨ ∃ t, sb ≤ t ∧ t < sb + m ∧ R ρ (arrOf st) t = ρ x := fun x hx => by
        rcases List.mem_append.mp (hg.1.mem_iff.mp hx) with hx | hx
        · obtain ⟨t, t1, t2, e⟩ := mem_ext hx
          exact .inl ⟨t, t1, t2, R_at e⟩
        · obtain ⟨t, t1, t2, e⟩ := mem_ext hx
          exact .inr ⟨t, t1, t2, R_at e⟩
      refine h xs g ?_ (fun i hi => old i (by omega)) fun i j h1 h2 h3 => ?_
      · refine Array.perm_iff_toList_perm.mpr ?_
        have pp := ((hg.1.append_left ((arrOf st).toList.take (sa + k))).append_right ((arrOf st).toList.drop (sa + k + (na - k + m))))
        rw [← eT, ← ex] at pp
        exact pp
      · by_cases hi : i < sa + k
        · rw [R_of (old i (.inl hi))]
          have a1 := kt' i h1 hi
          by_cases hj : j < sa + k
          · rw [R_of (old j (.inl hj))]
            exact ua i j h1 h2 (by omega)
          · by_cases hj2 : j < sb + m
            · obtain ⟨x, ex1, ex2⟩ := mid j (by omega) hj2
              rw [R_at ex1]
              rcases val x (List.mem_of_getElem? ex2) with ⟨t, t1, t2, t3⟩ | ⟨t, t1, t2, t3⟩
              · have := ua i t h1 (by omega) t2
                omega
              · have := ub sb t (Nat.le_refl _) t1 (by omega)
                omega
            · rw [R_of (old j (.inr (by omega)))]
              have := ub sb j (Nat.le_refl _) (by omega) h3
              omega
        · by_cases hi2 : i < sb + m
          · obtain ⟨x, ex1, ex2⟩ := mid i (by omega) hi2
            rw [R_at ex1]
            by_cases hj2 : j < sb + m
            · obtain ⟨z, ez1, ez2⟩ := mid j (by omega) hj2
              rw [R_at ez1]
              rcases Nat.lt_or_ge i j with hij | hij
              · have := of_decide_eq_false (hg.2.at (show i - (sa + k) < j - (sa + k) by omega) ex2 ez2)
                omega
              · obtain rfl : i = j := by omega
                rw [ex1] at ez1; cases ez1; exact Nat.le_refl _
            · rw [R_of (old j (.inr (by omega)))]
              rcases val x (List.mem_of_getElem? ex2) with ⟨t, t1, t2, t3⟩ | ⟨t, t1, t2, t3⟩
              · have a2 := ua t (sb - 1) (by omega) (by omega) (by omega)
                have a3 := mf' j (by omega) h3
                omega
              · have := ub t j t1 (by omega) h3
                omega
          · rw [R_of (old i (.inr (by omega))), R_of (old j (.inr (by omega)))]
            exact ub i j (by omega) h2 h3
    have fin := hx _ pb
    refine wpS_pure ?_
    have en : (failedOf st).isNone = true := by rw [hf]; rfl
    show Q (failedOf st).isNone _
    rw [en]
    rw [← hk, ← hf] at fin
    exact fin
end
end Sm

end PartSortO

section PartSortP
set_option maxHeartbeats 800000
namespace Sm
open PySem PyProof.Rows
section
variable {prog : Program} {w : World} {A : Around} {E : Value → Shared → Prop} {s : Shared} {ρ : Keyed → Nat} {S : Keyed → Prop} {κ : SortKind}
def Adj (ρ : Keyed → Nat) (xs : Array Keyed) : Nat → List (Nat × Nat × Nat) → Nat → Prop
  | a, [], b => a = b
  | a, (p, n, _) :: r, b => p = a ∧ 1 ≤ n ∧ Up ρ xs a (a + n) ∧ Adj ρ xs (a + n) r b
theorem Adj.le {xs : Array Keyed} : ∀ {a b : Nat} (ps : List (Nat × Nat × Nat)), Adj ρ xs a ps b → a + ps.length ≤ b
  | a, b, [], h => Nat.le_of_eq h
  | a, b, (p, n, q) :: r, h => by
    have := Adj.le r h.2.2.2
    have := h.2.1
    rw [List.length_cons]; omega
theorem Adj.congr {xs ys : Array Keyed} : ∀ {a b : Nat} (ps : List (Nat × Nat × Nat)), (∀ i, a ≤ i → i < b → ys[i]? = xs[i]?) → Adj ρ xs a ps b → Adj ρ ys a ps b
  | a, b, [], _, h => h
  | a, b, (p, n, q) :: r, e, h => by
    have l := Adj.le r h.2.2.2
    refine ⟨h.1, h.2.1, fun i j h1 h2 h3 => ?_, Adj.congr r (fun i h1 h2 => e i (by omega) h2) h.2.2.2⟩
    rw [R_of (e i h1 (by omega)), R_of (e j (by omega) (by omega))]
    exact h.2.2.1 i j h1 h2 h3
theorem Adj.split {xs : Array Keyed} : ∀ {a b : Nat} (l r : List (Nat × Nat × Nat)), Adj ρ xs a (l ++ r) b → ∃ c, Adj ρ xs a l c ∧ Adj ρ xs c r b
  | a, b, [], r, h => ⟨a, rfl, h⟩
  | a, b, (p, n, q) :: l, r, h => by
    obtain ⟨c, h1, h2⟩ := Adj.split l r h.2.2.2
    exact ⟨c, ⟨h.1, h.2.1, h.2.2.1, h1⟩, h2⟩
theorem Adj.join {xs : Array Keyed} : ∀ {a b c : Nat} (l r : List (Nat × Nat × Nat)), Adj ρ xs a l c → Adj ρ xs c r b → Adj ρ xs a (l ++ r) b
  | a, b, c, [], r, h, g => by cases h; exact g
  | a, b, c, (p, n, q) :: l, r, h, g => ⟨h.1, h.2.1, h.2.2.1, Adj.join l r h.2.2.2 g⟩
theorem Adj.modify {xs : Array Keyed} {f : Nat × Nat × Nat → Nat × Nat × Nat} (hf : ∀ x, (f x).1 = x.1 ∧ (f x).2.1 = x.2.1) : ∀ {a b : Nat} (ps : List (Nat × Nat × Nat)) (i : Nat), Adj ρ xs a ps b → Adj ρ xs a (ps.modify i f) b
  | a, b, [], i, h => by rw [List.modify_nil]; exact h
  | a, b, (p, n, q) :: r, 0, h => by
    rw [List.modify_zero_cons]
    have e := hf (p, n, q)
    revert e
    generalize f (p, n, q) = y
    obtain ⟨p', n', q'⟩ := y
    rintro ⟨e1, e2⟩
    have e1 : p' = p := e1
    have e2 : n' = n := e2
    subst e1 e2
    exact h
  | a, b, (p, n, q) :: r, i + 1, h => by
    rw [List.modify_succ_cons]
    exact ⟨h.1, h.2.1, h.2.2.1, Adj.modify hf r i h.2.2.2⟩
structure Gs (ρ : Keyed → Nat) (κ : SortKind) (a0 : Array Keyed) (ps : List (Nat × Nat × Nat)) (hi : Nat) (st : SortSt) : Prop where
  kind : kindOf st = κ
  pend : pendingOf st = ps.toArray
  fail : failedOf st = none
  perm : (arrOf st).Perm a0
  adj : Adj ρ (arrOf st) 0 ps hi
theorem Gs.size {a0 : Array Keyed} {ps : List (Nat × Nat × Nat)} {hi : Nat} {st : SortSt} (h : Gs ρ κ a0 ps hi st) : (arrOf st).size = a0.size := h.perm.size_eq
theorem Gs.push {a0 : Array Keyed} {ps : List (Nat × Nat × Nat)} {lo n : Nat} {st : SortSt} (h : Gs ρ κ a0 ps lo st) (u : Up ρ (arrOf st) lo (lo + n)) (n1 : 1 ≤ n) : Gs ρ κ a0 (ps ++ [(lo, n, 0)]) (lo + n) (setPending st ((pendingOf st).push (lo, n, 0))) :=
  ⟨h.kind, by show (pendingOf st).push _ = _; rw [h.pend, List.push_toArray], h.fail, h.perm, Adj.join ps _ h.adj ⟨rfl, n1, u, rfl⟩⟩
theorem Gs.mod {a0 : Array Keyed} {ps : List (Nat × Nat × Nat)} {lo i pw : Nat} {st : SortSt} (h : Gs ρ κ a0 ps lo st) : Gs ρ κ a0 (ps.modify i fun x => (x.1, x.2.1, pw)) lo (setPending st ((pendingOf st).modify i fun x => (x.1, x.2.1, pw))) :=
  ⟨h.kind, by
    show (pendingOf st).modify i (fun x => (x.1, x.2.1, pw)) = _
    rw [h.pend]
    apply Array.toList_inj.mp
    rw [Array.toList_modify], h.fail, h.perm, Adj.modify (f := fun x : Nat × Nat × Nat => (x.1, x.2.1, pw)) (fun _ => ⟨rfl, rfl⟩) ps i h.adj⟩
theorem wpS_mergeP {a0 : Array Keyed} {ps : List (Nat × Nat × Nat)} {hi i : Nat} {st : SortSt} {Q : Bool → SortSt → Prop} (hL : LtOk prog w A E s S (Lr ρ) κ) (hS : ∀ x ∈ a0.toList, S x) (G : Gs ρ κ a0 ps hi st) (hz : hi ≤ a0.size) (hi2 : i + 1 < ps.length)
    (h : ∀ st' ps', Gs ρ κ a0 ps' hi st' → ps'.length + 1 = ps.length → (∀ i, hi ≤ i → (arrOf st')[i]? = (arrOf st)[i]?) → Q true st') : wpS (model prog w) A E s (mergeAt' i) Q st := by
  have e1 : ps = ps.take i ++ ps.drop i := (List.take_append_drop ..).symm
  have l1 : (ps.take i).length = i := by rw [List.length_take]; omega
  obtain ⟨⟨sa, na, pw⟩, t, e2⟩ : ∃ x t, ps.drop i = x :: t := by
    cases hd : ps.drop i with
    | nil => have := congrArg List.length hd; rw [List.length_drop, List.length_nil] at this; omega
    | cons x t => exact ⟨x, t, rfl⟩
  obtain ⟨⟨sb, nb, qw⟩, r, rfl⟩ : ∃ x r, t = x :: r := by
    cases t with
    | nil => have := congrArg List.length e2; rw [List.length_drop, List.length_cons, List.length_nil] at this; omega
    | cons x r => exact ⟨x, r, rfl⟩
  rw [e2] at e1
  generalize ps.take i = l at e1 l1
  subst e1 l1
  clear e2
  obtain ⟨c, a1, rfl, n1, u1, rfl, n2, u2, a2⟩ := Adj.split l _ G.adj
  have l2 := Adj.le r a2
  refine wpS_mergeAt hL (fun x hx => hS x ((Array.perm_iff_toList_perm.mp G.perm).mem_iff.mp hx)) G.kind G.fail G.pend rfl n1 n2 (by rw [G.size]; omega) u1 u2 fun xs g pm old up => ?_
  refine h _ _ ⟨rfl, rfl, rfl, pm.trans G.perm, ?_⟩ ?_ fun i hi => old i (.inr (by omega))
  · refine Adj.join l _ (Adj.congr l (fun i _ h2 => old i (.inl h2)) a1) ⟨rfl, by omega, by rw [← Nat.add_assoc]; exact up, ?_⟩
    rw [← Nat.add_assoc]
    exact Adj.congr r (fun i h1 _ => old i (.inr h1)) a2
  · rw [List.length_append, List.length_append]
    rfl
theorem wpS_sortAll {a0 : Array Keyed} {st : SortSt} {Q : Unit → SortSt → Prop} (hL : LtOk prog w A E s S (Lr ρ) κ) (hS : ∀ x ∈ a0.toList, S x) (hk : kindOf st = κ) (hp : pendingOf st = #[]) (hf : failedOf st = none) (ha : arrOf st = a0)
    (h : ∀ st', (arrOf st').Perm a0 → failedOf st' = none → Up ρ (arrOf st') 0 a0.size → Q () st') : wpS (model prog w) A E s sortRuns' Q st := by
  rw [sortRuns'_eq]
  refine wpS_bind (wpS_get ?_)
  dsimp only
  rw [ha]
  generalize minRun' a0.size a0.size 0 = mr
  refine wpS_bind (wpS_mono (wpS_forRange (I := fun x c st' => ∃ lo ps, c = (none, lo) ∧ Gs ρ κ a0 ps lo st' ∧ x ≤ lo ∧ lo ≤ a0.size)
    (Q := fun c st' => ∃ ps, c = (none, a0.size) ∧ Gs ρ κ a0 ps a0.size st') ?sa ?ea ⟨0, [], rfl, ⟨hk, hp, hf, by rw [ha], rfl⟩, Nat.le_refl _, Nat.zero_le _⟩) ?pa)
  case ea =>
    rintro c st' ⟨lo, ps, rfl, G, h1, h2⟩
    obtain rfl : lo = a0.size := by omega
    exact ⟨ps, rfl, G⟩
  case pa =>
    rintro c st' ⟨ps, rfl, G⟩
    dsimp only
    have l0 := Adj.le ps G.adj
    refine wpS_bind (wpS_mono (wpS_forRange (I := fun x c st' => ∃ ps, c = (none, ()) ∧ Gs ρ κ a0 ps a0.size st' ∧ (ps.length ≤ 1 ∨ ps.length + x ≤ a0.size)) (Q := fun c st' => ∃ ps, c = (none, ()) ∧ Gs ρ κ a0 ps a0.size st' ∧ ps.length ≤ 1) ?sb ?eb ⟨ps, rfl, G, .inr (by omega)⟩) ?pb)
    case eb =>
      rintro c st' ⟨ps, rfl, G, h1⟩
      exact ⟨ps, rfl, G, by omega⟩
    case pb =>
      rintro c st' ⟨ps, rfl, G, h1⟩
      refine wpS_pure (h st' G.perm G.fail ?_)
      have ad := G.adj
      match ps, h1, ad with
      | [], _, ad => exact fun i j h1 h2 h3 => by have : 0 = a0.size := ad; omega
      | [(p, n, q)], _, ad =>
        obtain ⟨rfl, n1, u, e⟩ := ad
        have e : 0 + n = a0.size := e
        rw [e] at u
        exact u
      | _ :: _ :: _, h1, _ => simp at h1
    case sb =>
      rintro x c st' _ hx ⟨ps, rfl, G, h1⟩
      refine wpS_bind (wpS_get ?_)
      have sz : (pendingOf st').size = ps.length := by rw [G.pend, List.size_toArray]
      rw [sz]
      by_cases hc : ps.length ≤ 1
      · rw [if_pos hc]
        exact wpS_pure ⟨ps, rfl, G, hc⟩
      · rw [if_neg hc]
        refine wpS_bind (wpS_mergeP hL hS G (Nat.le_refl _) ?ix fun st2 ps' G' l' _ => ?_)
        case ix =>
          generalize Option.any _ _ = b
          cases b
          · rw [if_neg Bool.false_ne_true]; omega
          · rw [if_pos rfl]; omega
        exact wpS_pure ⟨ps', rfl, G', by omega⟩
  case sa =>
    rintro x c st' _ hx ⟨lo, ps, rfl, G, h1, h2⟩
    dsimp only
    by_cases hc : lo ≥ a0.size
    · rw [if_pos hc]
      obtain rfl : lo = a0.size := by omega
      exact wpS_pure ⟨ps, rfl, G⟩
    rw [if_neg hc]
    have B0 : Bs κ ps.toArray (arrOf st') lo st' := ⟨G.kind, G.pend, G.fail, Array.Perm.refl _, fun _ _ => rfl⟩
    have sz := G.size
    have hS1 : ∀ x ∈ (arrOf st').toList, S x := fun x hx => hS x ((Array.perm_iff_toList_perm.mp G.perm).mem_iff.mp hx)
    refine wpS_bind (wpS_countG hL hS1 B0 (by omega) (by omega) fun m st2 B1 m1 m2 u1 => ?_)
    dsimp only
    have nx : ∀ n st3, Bs κ ps.toArray (arrOf st') lo st3 → Up ρ (arrOf st3) lo (lo + n) → Gs ρ κ a0 ps lo st3 := fun n st3 B u => ⟨B.kind, B.pend, B.fail, B.perm.trans G.perm, Adj.congr ps (fun i _ h2 => B.pre i h2) G.adj⟩
    by_cases hm : m < mr
    case' pos =>
      rw [if_pos hm]
      refine wpS_bind (wpS_lift (wpAny_rule ⟨rfl, ?_⟩))
      refine wpS_bind (wpS_binG hL hS1 B1 m1 (by omega) (by omega) u1 fun st3 B2 u2 => ?_)
      simp only [Bool.not_true, Bool.false_eq_true, if_false]
      have n1 : 1 ≤ min (a0.size - lo) mr := by omega
      have n2 : lo + min (a0.size - lo) mr ≤ a0.size := by omega
      have G2 := nx _ st3 B2 u2
      generalize min (a0.size - lo) mr = n at u2 n1 n2 ⊢
    case' neg =>
      rw [if_neg hm]
      have G2 := nx _ st2 B1 u1
      have u2 := u1
      have n1 := m1
      have n2 : lo + m ≤ a0.size := by omega
      clear u1 m1 m2 hm
      generalize m = n at u2 n1 n2 ⊢
      clear B1
      generalize st2 = st3 at G2 u2 ⊢
    all_goals
      refine wpS_bind (wpS_get ?_)
      generalize (pendingOf st3).back? = bk
      match bk with
      | none => exact wpS_bind (wpS_modify (wpS_pure ⟨_, _, rfl, G2.push u2 n1, by omega, n2⟩))
      | some (s1, k1, q1) =>
        dsimp only
        generalize power' a0.size (2 * s1 + k1) (2 * s1 + k1 + k1 + n) a0.size = pw
        refine wpS_bind (wpS_mono (wpS_forRange (I := fun x c st' => c = (none, ()) ∧ ∃ ps, Gs ρ κ a0 ps lo st' ∧ Up ρ (arrOf st') lo (lo + n)) (Q := fun c st' => c = (none, ()) ∧ ∃ ps, Gs ρ κ a0 ps lo st' ∧ Up ρ (arrOf st') lo (lo + n)) ?sc ?ec ⟨rfl, ps, G2, u2⟩) ?pc)
        case ec => exact fun c st' h => h
        case pc =>
          rintro c st4 ⟨rfl, ps4, G4, u4⟩
          exact wpS_bind (wpS_modify (wpS_bind (wpS_modify (wpS_pure ⟨_, _, rfl, Gs.push G4.mod u4 n1, by omega, n2⟩))))
        case sc =>
          rintro t c st4 _ ht ⟨rfl, ps4, G4, u4⟩
          refine wpS_bind (wpS_get ?_)
          have sz4 : (pendingOf st4).size = ps4.length := by rw [G4.pend, List.size_toArray]
          rw [sz4]
          by_cases hl : ps4.length > 1
          · rw [if_pos hl]
            obtain ⟨⟨f1, f2, older⟩, hf⟩ : ∃ y, (pendingOf st4)[ps4.length - 2]? = some y := ⟨_, Array.getElem?_eq_getElem (by omega)⟩
            rw [hf]
            dsimp only
            by_cases ho : older ≤ pw
            · rw [if_pos ho]
              exact wpS_pure ⟨rfl, ps4, G4, u4⟩
            · rw [if_neg ho]
              refine wpS_bind (wpS_mergeP hL hS G4 h2 (by omega) fun st5 ps5 G5 l5 old => ?_)
              refine wpS_pure ⟨rfl, ps5, G5, fun i j i1 i2 i3 => ?_⟩
              rw [R_of (old i i1), R_of (old j (by omega))]
              exact u4 i j i1 i2 i3
          · rw [if_neg hl]
            exact wpS_pure ⟨rfl, ps4, G4, u4⟩
end
end Sm

end PartSortP

namespace Sq
open PySem PySem.W PyProof.Rows
structure Ord (lt : Nat → Nat → Bool) : Prop where
  irr : ∀ a, lt a a = false
  asy : ∀ a b, lt a b = true → lt b a = false
  tr : ∀ a b c, lt b a = false → lt c b = false → lt c a = false
def run {α : Type} (lt : Nat → Nat → Bool) : KasT α → α
  | .ret a => a
  | .ask i j k => run lt (k (lt i j))
def K (p : Array Nat) (i : Nat) : Nat := (p[i]?).getD 0
section
variable {lt : Nat → Nat → Bool} (O : Ord lt)
include O
def Up (lt : Nat → Nat → Bool) (p : Array Nat) (n : Nat) : Prop := ∀ i j, i ≤ j → j < n → lt (K p j) (K p i) = false
def Dn (lt : Nat → Nat → Bool) (p : Array Nat) (n : Nat) : Prop := ∀ i j, i ≤ j → j < n → lt (K p i) (K p j) = false
end
end Sq

namespace Sq
open PySem PySem.W PyProof.Rows
def Rn {α : Type} (N : Nat) : KasT α → (α → Prop) → Prop
  | .ret a, P => P a
  | .ask i j k, P => i < N ∧ j < N ∧ ∀ b, Rn N (k b) P
def Bd (N : Nat) (p : Array Nat) : Prop := 0 < N ∧ ∀ x ∈ p.toList, x < N
section
variable {N : Nat}
end
end Sq

namespace Sq
open PySem PySem.W PyProof.Rows
abbrev T3 := Int × Int × Int
/-- at v there is a tuple of the three ints -/
def TrAt (h : Heap) (v : Value) (t : T3) : Prop := ∃ (x : Addr) (o : Obj) (k1 k2 k3 : Tok) (n : Nat), v = .ref x ∧ h.get? x = some o ∧ o.cls = .type "tuple" ∧ o.data = .seq #[.int t.1 k1, .int t.2.1 k2, .int t.2.2 k3] n
section
variable {prog : Program} {w : World} {A : Around} {E : Value → Shared → Prop} {s : Shared}
end
end Sq

namespace Sq
open PySem PySem.W PySem.Calls PyProof.Rows
section
variable {prog : Program} {w : World} {A : Around} {E : Value → Shared → Prop} {s : Shared}
theorem pick_id (vs : List Value) : (List.range vs.length).map (fun i => vs.getD i Value.none) = vs := by
  refine List.ext_getElem (by simp) fun i h1 h2 => ?_
  simp [List.getD_eq_getElem?_getD, h2]
end
end Sq

namespace Sq
open PySem PySem.W PySem.Calls PyProof.Rows
abbrev T2 := Int × Int
def PrAt (h : Heap) (v : Value) (t : T2) : Prop := ∃ (x : Addr) (o : Obj) (k1 k2 : Tok) (n : Nat), v = .ref x ∧ h.get? x = some o ∧ o.cls = .type "tuple" ∧ o.data = .seq #[.int t.1 k1, .int t.2 k2] n
section
variable {prog : Program} {w : World} {A : Around} {E : Value → Shared → Prop} {s : Shared}
end
end Sq

namespace Sq
open PySem PySem.W PySem.Calls PyProof.Rows
section
variable {prog : Program} {w : World} {A : Around} {E : Value → Shared → Prop} {s : Shared}
end
end Sq

section PartSortX
set_option maxHeartbeats 800000
namespace Sx
open PySem PySem.W PySem.Calls PyProof.Rows Sm Sq
section
variable {β : Type} {blt : β → β → Bool}
structure Or (blt : β → β → Bool) : Prop where
  irr : ∀ a, blt a a = false
  asy : ∀ a b, blt a b = true → blt b a = false
  tr : ∀ a b c, blt b a = false → blt c b = false → blt c a = false
theorem cnt_le {p q : β → Bool} (h : ∀ z, p z = true → q z = true) : ∀ l : List β, l.countP p ≤ l.countP q
  | [] => Nat.le_refl _
  | z :: l => by
    have := cnt_le h l
    rw [List.countP_cons, List.countP_cons]
    cases hp : p z with
    | false => simp; omega
    | true => rw [h z hp]; simp; omega
theorem cnt_lt {p q : β → Bool} (h : ∀ z, p z = true → q z = true) {a : β} (ha : q a = true) (hb : p a = false) : ∀ l : List β, a ∈ l → l.countP p < l.countP q
  | z :: l, hm => by
    rw [List.countP_cons, List.countP_cons]
    rcases List.mem_cons.mp hm with rfl | hm
    · have := cnt_le h l
      rw [ha, hb]; simp; omega
    · have := cnt_lt h ha hb l hm
      cases hp : p z with
      | false => simp; omega
      | true => rw [h z hp]; simp; omega
def rk (blt : β → β → Bool) (ts : List β) (c : β) : Nat := ts.countP fun z => blt z c
theorem rk_lt (O : Or blt) {ts : List β} {a b : β} (ha : a ∈ ts) : decide (rk blt ts a < rk blt ts b) = blt a b := by
  cases h : blt a b with
  | true =>
    refine decide_eq_true (cnt_lt (p := fun z => blt z a) (q := fun z => blt z b) (fun z hz => ?_) h (O.irr a) ts ha)
    cases hq : blt z b with
    | true => rfl
    | false => rw [O.tr a b z (O.asy a b h) hq] at hz; cases hz
  | false =>
    refine decide_eq_false (Nat.not_lt.mpr (cnt_le (p := fun z => blt z b) (q := fun z => blt z a) (fun z hz => ?_) ts))
    cases hq : blt z a with
    | true => rfl
    | false => rw [O.tr b a z h hq] at hz; cases hz
theorem perm_map {α γ : Type} {f : α → γ} : ∀ (l : List γ) (r : List α), l.Perm (r.map f) → ∃ ix : List α, ix.Perm r ∧ l = ix.map f
  | [], r, h => by
    have := h.symm.eq_nil
    rw [List.map_eq_nil_iff] at this
    subst this
    exact ⟨[], .refl _, rfl⟩
  | x :: l, r, h => by
    obtain ⟨i, hi, rfl⟩ := List.mem_map.mp (h.mem_iff.mp (List.mem_cons_self ..))
    obtain ⟨r1, r2, rfl⟩ := List.append_of_mem hi
    have h1 : (f i :: l).Perm (f i :: (r1 ++ r2).map f) := h.trans (by rw [← List.map_cons]; exact List.perm_middle.map f)
    obtain ⟨ix, p, e⟩ := perm_map l (r1 ++ r2) (List.perm_cons _ |>.mp h1)
    exact ⟨i :: ix, (p.cons i).trans List.perm_middle.symm, by rw [e]; rfl⟩
end
section
variable {prog : Program} {w : World} {A : Around} {E : Value → Shared → Prop} {s : Shared} {β : Type} {blt : β → β → Bool} {d : β}
theorem run_any {κ : SortKind} {ks vs : List Value} {ts : List β} {Q : Unit × SortSt → Shared → Prop} (O : Or blt) (hk : ks.length = vs.length) (hl : ks.length = ts.length) (fn : ∀ (i j : Nat) v a b, ks[i]? = some v → ks[j]? = some v → ts[i]? = some a → ts[j]? = some b → a = b)
    (cmp : ∀ (i j : Nat) u v a b, ks[i]? = some u → ks[j]? = some v → ts[i]? = some a → ts[j]? = some b → ∀ C : Bool → Shared → Prop, C (blt a b) s → wpAny (model prog w) A (keyLt' κ u v) C (fun _ _ => False) s)
    (h : ∀ (st : SortSt) (ix : List Nat), (arrOf st).map (·.2) = (ix.map fun i => vs.getD i Value.none).toArray → failedOf st = none → ix.Perm (List.range vs.length) → ix.Pairwise (fun i j => blt (ts.getD j d) (ts.getD i d) = false) → Q ((), st) s) :
    wpAny (model prog w) A (sortRuns'.run (SortSt.mk' κ (ks.toArray.zip vs.toArray) #[] 7 none)) Q E s := by
  have ex : ∀ v, (∃ i : Nat, ks[i]? = some v) → ∃ c, ∀ (i : Nat) a, ks[i]? = some v → ts[i]? = some a → c = a := fun v ⟨i, hi⟩ => by
    have li := (List.getElem?_eq_some_iff.mp hi).1
    exact ⟨ts[i]'(by omega), fun j a hj ha => fn i j v _ _ hi hj (List.getElem?_eq_getElem (by omega)) ha⟩
  obtain ⟨val, hval⟩ : ∃ val : Value → β, ∀ (i : Nat) v a, ks[i]? = some v → ts[i]? = some a → val v = a := by
    refine ⟨fun v => by
      classical
      exact if g : ∃ i : Nat, ks[i]? = some v then Classical.choose (ex v g) else d, fun i v a hv ha => ?_⟩
    dsimp only
    rw [dif_pos ⟨i, hv⟩]
    exact Classical.choose_spec (ex v ⟨i, hv⟩) i a hv ha
  have za : ∀ i : Nat, (ks.toArray.zip vs.toArray).toList[i]? = (ks.zip vs)[i]? := fun i => by rw [Array.toList_zip]
  have hL : LtOk prog w A E s (fun x => ∃ i : Nat, ks[i]? = some x.1) (Lr fun x => rk blt ts (val x.1)) κ := by
    rintro x y st Q ⟨i, hi⟩ ⟨j, hj⟩ kd q
    have li := (List.getElem?_eq_some_iff.mp hi).1
    have lj := (List.getElem?_eq_some_iff.mp hj).1
    have ti : ts[i]? = some (ts[i]'(by omega)) := List.getElem?_eq_getElem (by omega)
    have tj : ts[j]? = some (ts[j]'(by omega)) := List.getElem?_eq_getElem (by omega)
    rw [lt'_eq]
    refine wpS_bind (wpS_get ?_)
    rw [kd]
    refine wpS_bind (wpS_lift (wpAny_attempt (wpAny_mono (cmp i j _ _ _ _ hi hj ti tj (fun b s' => s' = s ∧ b = blt (ts[i]'(by omega)) (ts[j]'(by omega))) ⟨rfl, rfl⟩) (fun b s' z => ?_) fun _ _ z => z.elim)))
    obtain ⟨rfl, rfl⟩ := z
    refine ⟨rfl, wpS_pure ?_⟩
    have e := rk_lt O (b := ts[j]'(by omega)) (show ts[i]'(by omega) ∈ ts from List.getElem_mem _)
    rw [← e, ← hval i _ _ hi ti, ← hval j _ _ hj tj]
    exact q
  have hS : ∀ x ∈ (ks.toArray.zip vs.toArray).toList, ∃ i : Nat, ks[i]? = some x.1 := fun x hx => by
    rw [Array.toList_zip] at hx
    have := (List.of_mem_zip (show (x.1, x.2) ∈ ks.zip vs from hx)).1
    exact List.mem_iff_getElem?.mp this
  refine wpAny_mono (wpS_sortAll (Q := fun _ st' => ∃ ix : List Nat, (arrOf st').map (·.2) = (ix.map fun i => vs.getD i Value.none).toArray ∧ failedOf st' = none ∧ ix.Perm (List.range vs.length) ∧ ix.Pairwise (fun i j => blt (ts.getD j d) (ts.getD i d) = false)) hL hS rfl rfl rfl rfl fun st' pm ff up => ?_) ?_ fun _ _ z => z
  · have el : (ks.toArray.zip vs.toArray).toList = (List.range vs.length).map fun i => (ks.getD i Value.none, vs.getD i Value.none) := by
      rw [Array.toList_zip]
      refine List.ext_getElem (by simp [hk]) fun i h1 h2 => ?_
      have a1 : i < ks.length := by simp at h1; omega
      have a2 : i < vs.length := by simp at h1; omega
      simp [List.getD_eq_getElem?_getD, a1, a2]
    have pl := Array.perm_iff_toList_perm.mp pm
    rw [el] at pl
    obtain ⟨ix, pi, ei⟩ := perm_map _ _ pl
    refine ⟨ix, ?_, ff, pi, ?_⟩
    · apply Array.toList_inj.mp
      rw [Array.toList_map, ei, List.map_map]
      rfl
    · rw [List.pairwise_iff_getElem]
      intro p q hp hq hpq
      have zx : (ks.toArray.zip vs.toArray).size = vs.length := by rw [Array.size_zip, List.size_toArray, List.size_toArray, hk, Nat.min_self]
      have lx : ix.length = vs.length := by rw [pi.length_eq, List.length_range]
      have u := up p q (Nat.zero_le _) (by omega) (by omega)
      have g : ∀ p (hp : p < ix.length), R (fun x => rk blt ts (val x.1)) (arrOf st') p = rk blt ts (ts.getD ix[p] d) := fun p hp => by
        have e1 : (arrOf st')[p]? = some (ks.getD ix[p] Value.none, vs.getD ix[p] Value.none) := by
          rw [← Array.getElem?_toList, ei, List.getElem?_map, List.getElem?_eq_getElem hp]
          rfl
        have hb : ix[p] < vs.length := List.mem_range.mp (pi.mem_iff.mp (List.getElem_mem hp))
        have t1 : ts[ix[p]]? = some (ts.getD ix[p] d) := by
          have : ix[p] < ts.length := by omega
          simp [List.getD_eq_getElem?_getD, this]
        have k1 : ks[ix[p]]? = some (ks.getD ix[p] Value.none) := by
          have : ix[p] < ks.length := by omega
          simp [List.getD_eq_getElem?_getD, this]
        rw [R_at e1]
        dsimp only
        rw [hval _ _ _ k1 t1]
      rw [g p hp, g q hq] at u
      have hb : ix[q] < vs.length := List.mem_range.mp (pi.mem_iff.mp (List.getElem_mem hq))
      have tm : ts.getD ix[q] d ∈ ts := by
        have : ix[q] < ts.length := by omega
        simp [List.getD_eq_getElem?_getD, this]
      rw [← rk_lt O tm]
      exact decide_eq_false (by omega)
  · rintro ⟨⟨⟩, st'⟩ s' ⟨rfl, ix, e1, e2, e3, e4⟩
    exact h st' ix e1 e2 e3 e4
end
end Sx

end PartSortX

section PartSortY
set_option maxHeartbeats 800000
namespace Sx
open PySem PySem.W PySem.Calls PyProof.Rows Sm Sq
section
variable {prog : Program} {w : World} {A : Around} {E : Value → Shared → Prop} {s : Shared} {β : Type} {blt : β → β → Bool} {d : β}
theorem sort_G {a : Addr} {vs : List Value} {ts : List β} {κ : SortKind} {n : Nat} {P : PySem.Fin → Shared → Prop} (O : Or blt) (gA : s.heap.get? a = some (seqObj "list" vs.toArray n)) (zl : vs.length ≤ sizeLine) (hl : vs.length = ts.length)
    (fn : ∀ (i j : Nat) v a b, vs[i]? = some v → vs[j]? = some v → ts[i]? = some a → ts[j]? = some b → a = b)
    (kd : ∀ h6 : Heap, (∀ b o, b ≠ a → s.heap.get? b = some o → h6.get? b = some o) → 2 ≤ vs.length → ∀ Q : SortKind → Shared → Prop, Q κ (Shared.mk h6 s.gens s.drawn s.toks s.os) → wpAny (model prog w) A (keyKind' vs.toArray) Q E (Shared.mk h6 s.gens s.drawn s.toks s.os))
    (cmp : ∀ h6 : Heap, (∀ b o, b ≠ a → s.heap.get? b = some o → h6.get? b = some o) → ∀ (i j : Nat) u v a b, vs[i]? = some u → vs[j]? = some v → ts[i]? = some a → ts[j]? = some b → ∀ C : Bool → Shared → Prop, C (blt a b) (Shared.mk h6 s.gens s.drawn s.toks s.os) → wpAny (model prog w) A (keyLt' κ u v) C (fun _ _ => False) (Shared.mk h6 s.gens s.drawn s.toks s.os))
    (h : ∀ ix : List Nat, ix.Perm (List.range vs.length) → ix.Pairwise (fun i j => blt (ts.getD j d) (ts.getD i d) = false) → P (.done (.ret .none)) { s with heap := sortedHeap s.heap a vs (ix.map fun i => vs.getD i Value.none).toArray }) :
    wpAny (model prog w) A (Builtin.«list.sort» ⟨[.ref a], []⟩) P E s := by
  obtain ⟨e1, g1⟩ : ∃ e1, (s.heap.update a (Obj.mapSeq fun _ => (#[] : Array Value))).get? a = some (seqObj "list" #[] e1) := ⟨_, get?_update_seq gA fun _ => #[]⟩
  have oth : ∀ b o, b ≠ a → s.heap.get? b = some o → (((s.heap.update a (Obj.mapSeq fun _ => (#[] : Array Value))).push (seqObj "tuple" vs.toArray 0)).push (seqObj "list" #[] 0)).get? b = some o := fun b o hb e => Heap.get?_push_of_some _ (Heap.get?_push_of_some _ ((Heap.get?_update_other _ _ (Ne.symm hb)).trans e))
  have g6 : (((s.heap.update a (Obj.mapSeq fun _ => (#[] : Array Value))).push (seqObj "tuple" vs.toArray 0)).push (seqObj "list" #[] 0)).get? a = some (seqObj "list" #[] e1) := Heap.get?_push_of_some _ (Heap.get?_push_of_some _ g1)
  have kd' := kd _ oth
  have cmp' := cmp _ oth
  clear kd cmp
  rw [list_sort_plain]
  refine wpAny_bind (listItems_at gA rfl ?_)
  refine wpAny_bind (listUpdate_at gA rfl ?_ (by simpa using zl) (Nat.zero_le _))
  refine wpAny_bind (seqEpoch_at g1 rfl (wpAny_bind (wpAny_newTuple ?_ zl)))
  refine wpAny_bind (wpAny_newList (wpAny_holding ?_) (Nat.zero_le _))
  show wpAny (model prog w) A _ P E (Shared.mk (((s.heap.update a (Obj.mapSeq fun _ => (#[] : Array Value))).push (seqObj "tuple" vs.toArray 0)).push (seqObj "list" #[] 0)) s.gens s.drawn s.toks s.os)
  dsimp only
  by_cases h2 : vs.toArray.size < 2
  · have h2' : vs.length < 2 := by simpa using h2
    rw [if_pos h2, if_pos h2]
    refine wpAny_bind (wpAny_pure (a := general') ?_)
    rw [StateT.run_pure]
    refine wpAny_bind (wpAny_pure (wpAny_bind (seqEpoch_at g6 rfl ?_)))
    have eo : (vs.toArray.zip vs.toArray).map (·.2) = ((List.range vs.length).map fun i => vs.getD i Value.none).toArray := by
      rw [pick_id]
      apply Array.toList_inj.mp
      rw [Array.toList_map, Array.toList_zip]
      exact List.map_snd_zip (Nat.le_refl _)
    have q := h (List.range vs.length) (List.Perm.refl _) (by
      rw [List.pairwise_iff_getElem]
      intro i j hi hj hij
      simp at hi hj
      omega)
    rw [← eo] at q
    refine wpAny_bind (listUpdate_at g6 rfl ?_ (Nat.zero_le _) (by show ((vs.toArray.zip vs.toArray).map (fun x => x.2)).size ≤ _; rw [Array.size_map, Array.size_zip, List.size_toArray]; omega))
    simp only [bne_self_eq_false, Bool.false_eq_true, if_false]
    exact wpAny_pure q
  · have h2' : 2 ≤ vs.length := by have : ¬ vs.length < 2 := by simpa using h2
                                   omega
    rw [if_neg h2, if_neg h2]
    refine wpAny_bind (kd' h2' _ ?_)
    refine wpAny_bind (run_any (d := d) O rfl hl fn cmp' fun st ix eo ef pm pw => ?_)
    have q := h ix pm pw
    have eo' : (arrOf st).map (fun x => x.2) = (ix.map fun i => vs.getD i Value.none).toArray := eo
    refine wpAny_bind (seqEpoch_at g6 rfl ?_)
    have zi : ix.length = vs.length := by rw [pm.length_eq, List.length_range]
    rw [← eo'] at q
    refine wpAny_bind (listUpdate_at g6 rfl ?_ (Nat.zero_le _) (by show ((arrOf st).map (fun x => x.2)).size ≤ _; rw [eo']; simp [zi]; omega))
    dsimp only
    rw [ef]
    simp only [bne_self_eq_false, Bool.false_eq_true, if_false]
    exact wpAny_pure q
theorem sorted_G {l : Addr} {vs : List Value} {ts : List β} {κ : SortKind} {Q : Value → Shared → Prop} (O : Or blt) (hL : s.heap.IsList l vs.toArray) (zl : vs.length ≤ sizeLine) (hl : vs.length = ts.length)
    (fn : ∀ (i j : Nat) v a b, vs[i]? = some v → vs[j]? = some v → ts[i]? = some a → ts[j]? = some b → a = b)
    (kd : ∀ (A : Around) (E : Value → Shared → Prop) (h6 : Heap), (∀ b o, s.heap.get? b = some o → h6.get? b = some o) → 2 ≤ vs.length → ∀ Q : SortKind → Shared → Prop, Q κ (Shared.mk h6 s.gens s.drawn s.toks s.os) → wpAny (model prog w) A (keyKind' vs.toArray) Q E (Shared.mk h6 s.gens s.drawn s.toks s.os))
    (cmp : ∀ (A : Around) (h6 : Heap), (∀ b o, s.heap.get? b = some o → h6.get? b = some o) → ∀ (i j : Nat) u v a b, vs[i]? = some u → vs[j]? = some v → ts[i]? = some a → ts[j]? = some b → ∀ C : Bool → Shared → Prop, C (blt a b) (Shared.mk h6 s.gens s.drawn s.toks s.os) → wpAny (model prog w) A (keyLt' κ u v) C (fun _ _ => False) (Shared.mk h6 s.gens s.drawn s.toks s.os))
    (h : ∀ D h' c ix, s.heap.objs.size ≤ D → (∀ b o, s.heap.get? b = some o → h'.get? b = some o) → h'.get? D = some { cls := .type "list", data := .seq (List.map (fun i => vs.getD i Value.none) ix).toArray c } → ix.Perm (List.range vs.length) → ix.Pairwise (fun i j => blt (ts.getD j d) (ts.getD i d) = false) → Q (.ref D) { s with heap := h' }) :
    wpAny (model prog w) A (call (.builtin "sorted") [.ref l]) Q E s := by
  refine Calls.call_function_entry kind_sorted plain_sorted entry_sorted (args_sorted1 _) ?_
  unfold Builtin.«sorted»
  refine wpAny_bind (m := checkCount "sorted" 1 1 _) (wpAny_pure (wpAny_bind (collect_list hL (wpAny_bind (wpAny_newList ?_ zl)) zl)))
  have k0 : ∀ b o, s.heap.get? b = some o → ((s.heap.push (seqObj "list" #[] 0)).update s.heap.objs.size (Obj.mapSeq (· ++ vs.toArray))).get? b = some o := fun b o e => (Heap.get?_update_other _ _ (Nat.ne_of_gt (Heap.lt_size e))).trans (Heap.get?_push_of_some _ e)
  have z0 : s.heap.objs.size ≤ ((s.heap.push (seqObj "list" #[] 0)).update s.heap.objs.size (Obj.mapSeq (· ++ vs.toArray))).objs.size := by rw [Heap.size_update, size_push']; exact Nat.le_succ _
  generalize (s.heap.push (seqObj "list" #[] 0)).update s.heap.objs.size (Obj.mapSeq (· ++ vs.toArray)) = h0 at k0 z0 ⊢
  have e1 : (h0.push (seqObj "list" vs.toArray 0)).get? h0.objs.size = some (seqObj "list" vs.toArray 0) := Heap.get?_push_size _ rfl
  have up : ∀ h6 : Heap, (∀ b o, b ≠ h0.objs.size → (h0.push (seqObj "list" vs.toArray 0)).get? b = some o → h6.get? b = some o) → ∀ b o, s.heap.get? b = some o → h6.get? b = some o := fun h6 k b o e => k b o (Nat.ne_of_lt (Nat.lt_of_lt_of_le (Heap.lt_size e) z0)) (Heap.get?_push_of_some _ (k0 b o e))
  refine wpAny_bind (wpAny_holding (wpAny_call_entry slot_list_sort ⟨_, e1, rfl⟩ entry_list_sort (sort_G (d := d) O e1 zl hl fn (fun h6 k => kd _ _ h6 (up h6 k)) (fun h6 k => cmp _ h6 (up h6 k)) fun ix pm pw => ⟨_, rfl, ?_⟩) (args_list_sort _)))
  obtain ⟨c, e2⟩ := sortedHeap_at (out := (List.map (fun i => vs.getD i Value.none) ix).toArray) e1
  refine wpAny_pure ⟨_, rfl, h h0.objs.size _ c ix z0 (fun b o e => ?_) e2 pm pw⟩
  have lb := Heap.lt_size (k0 b o e)
  rw [sortedHeap_old (Nat.ne_of_lt lb) (by rw [size_push']; exact Nat.lt_succ_of_lt lb)]
  exact Heap.get?_push_of_some _ (k0 b o e)
def ilt (a b : Int) : Bool := decide (a < b)
theorem ilt_or : Or ilt := ⟨fun a => decide_eq_false (by omega), fun a b h => by have := of_decide_eq_true h; exact decide_eq_false (by omega), fun a b c h1 h2 => by
  have := of_decide_eq_false h1
  have := of_decide_eq_false h2
  exact decide_eq_false (by omega)⟩
theorem ints_at : ∀ {vs : List Value} {ns : List Int}, IntsAre vs ns → ∀ (i : Nat) v n, vs[i]? = some v → ns[i]? = some n → ∃ t, v = .int n t
  | _, _, .nil, i, v, n, hv, _ => by simp at hv
  | _, _, .cons m t r, 0, v, n, hv, hn => by
    simp at hv hn
    subst hv hn
    exact ⟨t, rfl⟩
  | _, _, .cons m t r, i + 1, v, n, hv, hn => ints_at r i v n (by simpa using hv) (by simpa using hn)
theorem ints_len : ∀ {vs : List Value} {ns : List Int}, IntsAre vs ns → vs.length = ns.length
  | _, _, .nil => rfl
  | _, _, .cons m t r => congrArg (· + 1) (ints_len r)
theorem ints_of : ∀ {vs : List Value} {ns : List Int}, vs.length = ns.length → (∀ (i : Nat) v n, vs[i]? = some v → ns[i]? = some n → ∃ t, v = .int n t) → IntsAre vs ns
  | [], [], _, _ => .nil
  | [], _ :: _, h, _ => by simp at h
  | _ :: _, [], h, _ => by simp at h
  | v :: vs, n :: ns, h, g => by
    obtain ⟨t, rfl⟩ := g 0 v n rfl rfl
    exact .cons n t (ints_of (by simpa using h) fun i v m hv hm => g (i + 1) v m (by simpa using hv) (by simpa using hm))
theorem sorted_I {l : Addr} {vs : List Value} {ns : List Int} {Q : Value → Shared → Prop} (hL : s.heap.IsList l vs.toArray) (hI : IntsAre vs ns) (zl : vs.length ≤ sizeLine)
    (h : ∀ D h' c us ms, s.heap.objs.size ≤ D → (∀ b o, s.heap.get? b = some o → h'.get? b = some o) → h'.get? D = some { cls := .type "list", data := .seq (List.toArray us) c } → IntsAre us ms → ms.Perm ns → ms.Pairwise (· ≤ ·) → Q (.ref D) { s with heap := h' }) :
    wpAny (model prog w) A (call (.builtin "sorted") [.ref l]) Q E s := by
  have ll := ints_len hI
  have at' := ints_at hI
  refine sorted_G (blt := ilt) (d := 0) (ts := ns) (κ := oneType') ilt_or hL zl ll (fun i j v a b hv hu ha hb => ?_) (fun A E h6 k h2 Q q => ?_) (fun A h6 k i j u v a b hu hv ha hb C c => ?_) fun D h' c ix hD kk g pm pw => ?_
  · obtain ⟨t, rfl⟩ := at' i v a hv ha
    obtain ⟨t', e⟩ := at' j _ b hu hb
    cases e
    rfl
  · match vs, hI, h2 with
    | [], _, h2 => simp at h2
    | [_], _, h2 => simp at h2
    | v₁ :: v₂ :: rest, hI, _ =>
      rw [keyKind_ints hI]
      exact wpAny_pure q
  · obtain ⟨t, rfl⟩ := at' i u a hu ha
    obtain ⟨t', rfl⟩ := at' j v b hv hb
    rw [keyLt'_oneType]
    exact oneLt_int c
  · refine h D h' c _ (ix.map fun i => ns.getD i 0) hD kk g (ints_of (by simp) fun i v n hv hn => ?_) ?_ ?_
    · rw [List.getElem?_map] at hv hn
      cases hi : ix[i]? with
      | none => rw [hi] at hv; cases hv
      | some z =>
        rw [hi] at hv hn
        have hz : z < vs.length := List.mem_range.mp (pm.mem_iff.mp (List.mem_of_getElem? hi))
        have hz' : z < ns.length := by omega
        have e1 : vs.getD z Value.none = vs[z] := by simp [List.getD_eq_getElem?_getD, hz]
        have e2 : ns.getD z 0 = ns[z] := by simp [List.getD_eq_getElem?_getD, hz']
        simp only [Option.map_some, Option.some.injEq] at hv hn
        rw [e1] at hv
        rw [e2] at hn
        exact at' z v n (by rw [← hv]; exact List.getElem?_eq_getElem hz) (by rw [← hn]; exact List.getElem?_eq_getElem hz')
    · have : (List.range vs.length).map (fun i => ns.getD i 0) = ns := by
        refine List.ext_getElem (by simp [ll]) fun i h1 h2 => ?_
        simp [List.getD_eq_getElem?_getD, h2]
      have q := pm.map (fun i => ns.getD i 0)
      rw [this] at q
      exact q
    · rw [List.pairwise_map]
      exact pw.imp fun {i j} e => Int.not_lt.mp (of_decide_eq_false e)
end
end Sx

end PartSortY

namespace L2
open PySem PySem.Spec PyProof.Rows
section
variable {X : Cx}
theorem call_sortedA : CallR X (.builtin "sorted") (fun xs H Q => ∃ (a : Addr) (ns : List Int), xs = [V.ref a] ∧ SqL X.K H a (ns.map V.int) ∧ ∀ (p : Addr) (ms : List Int), H p = none → ms.Perm ns → ms.Pairwise (· ≤ ·) → Q (.ref p) (upd H p (.lst (ms.map V.int)))) := by
  intro pins s σ H xs us Q I r h
  obtain ⟨a, ns, rfl, ha, q⟩ := h
  obtain ⟨u, rfl, ru⟩ := vals1 r
  cases ru
  obtain ⟨its, rv, pl, hz⟩ := I.list ha
  have hi := ivals rv
  have hlen : its.length ≤ sizeLine := by have := rv.length; omega
  refine Sx.sorted_I pl.isList hi hlen fun D h' c us ms hD kk e i1 pm pw => ?_
  have hn : H D = none := I.hok.fresh hD
  have hl2 : (ms.map V.int).length ≤ sizeLine := by
    rw [List.length_map, pm.length_eq]
    have := rv.length
    rw [List.length_map] at this
    omega
  exact ⟨.ref D, _, I.laid (t' := s.toks) (o := .lst (ms.map V.int)) kk hD ⟨hl2, us, c, valsI i1, e⟩, rfl, q _ ms hn pm pw⟩
end
end L2

namespace L2
open PySem PySem.Spec PyProof.Rows
section
variable {X : Cx} {o e f : Expr} {apos cpos : Pos} {td ty tx : TE}
end
end L2
namespace L2
open PySem PySem.Spec PyProof.Rows
theorem ps_setE {X : Cx} {x : Str} {e : Expr} {te : TE} {pos' pos : Pos} (i : Nat) (hN : X.N.Nodup) (hi : X.N[i]? = some x) (hx : Loc X.env.scope x) (he : PE X e te) (hs : swapsWith e (some (.Name x pos')) pos.line X.env = pure false) (hf : X.fn x = true ∨ X.env.scope.names.lookup x = some .local) :
    PS X (.Assign [.Name x pos'] e pos) (tAsg te (gName i)) := ps_set hN hi hx he hs hf
end L2
namespace L2
open PySem PySem.Spec PyProof.Rows
theorem pa_c {X : Cx} {e : Expr} {es : List Expr} {te : TE} {t : TA} (h : starEach (e :: es) X.env = (false, eval e X.env) :: starEach es X.env) (he : PE X e te) (ht : PA X es t) : PA X (e :: es) (tCons te t) := pa_cons he ht h
end L2
namespace L2
open PySem PySem.Spec PyProof.Rows
end L2

section PartK73
set_option maxHeartbeats 800000
namespace K73
open PySem L2 Og Bw
def top (i : Nat) : Stmt := PySem.Challenge.pw_windchest_k73_whole_least_cap.main.body.getD i (.Pass ⟨0, 0, 0, 0⟩)
abbrev sGt : Stmt := top 1
abbrev sCo : Stmt := top 2
abbrev sFi : Stmt := top 3
abbrev sLc : Stmt := top 4
abbrev sCa : Stmt := top 6
abbrev sLw : Stmt := top 7
abbrev sDn : Stmt := top 8
abbrev sDr : Stmt := top 9
abbrev sDg : Stmt := top 10
abbrev sPu : Stmt := top 11
abbrev sBy : Stmt := top 12
abbrev sLaw : Stmt := top 13
structure Txt (K : PySem.W.Frag) (mg : Str → Option Value) : Prop where
  len : mg "len" = none
  isin : mg "isinstance" = none
  int : mg "int" = none
  bool : mg "bool" = none
  range : mg "range" = none
  abs : mg "abs" = none
  max : mg "max" = none
  min : mg "min" = none
  sorted : mg "sorted" = none
  sum : mg "sum" = none
structure Fns (K : PySem.W.Frag) (mg : Str → Option Value) (fGt fCo fFi fLc fCa fLw fDn fDr fDg fPu fBy : Addr) (dGt dCo dFi dLc dCa dLw dDn dDr dDg dPu dBy : FuncData) : Prop where
  FGt : Fun K "good_ticks" "good_ticks" sGt fGt dGt
  FCo : Fun K "course_of" "course_of" sCo fCo dCo
  FFi : Fun K "first_lack" "first_lack" sFi fFi dFi
  FLc : Fun K "least_cap" "least_cap" sLc fLc dLc
  FCa : Fun K "_law_cell_at" "_law_cell_at" sCa fCa dCa
  FLw : Fun K "_law_whole" "_law_whole" sLw fLw dLw
  FDn : Fun K "_law_drawn" "_law_drawn" sDn fDn dDn
  FDr : Fun K "_law_draw" "_law_draw" sDr fDr dDr
  FDg : Fun K "_law_draught" "_law_draught" sDg fDg dDg
  FPu : Fun K "_law_pump" "_law_pump" sPu fPu dPu
  FBy : Fun K "_law_beyond" "_law_beyond" sBy fBy dBy
  bGt : Binds K dGt ["there", "rise", "count"] []
  bCo : Binds K dCo ["draught", "pump", "cap"] []
  bFi : Binds K dFi ["draught", "pump", "cap"] []
  bLc : Binds K dLc ["draught", "pump"] []
  bCa : Binds K dCa ["_law_script", "_law_k"] []
  bLw : Binds K dLw ["_law_found"] []
  bDn : Binds K dDn ["_law_script", "_law_start"] []
  bDr : Binds K dDr ["_law_drawn_here", "_law_many"] []
  bDg : Binds K dDg ["_law_script", "_law_start", "_law_far"] []
  bPu : Binds K dPu ["_law_script", "_law_draught_here"] []
  bBy : Binds K dBy ["_law_draught_here", "_law_pump_here", "_law_first", "_law_behind"] []
  mGt : mg "good_ticks" = some (.ref fGt)
  mCo : mg "course_of" = some (.ref fCo)
  mFi : mg "first_lack" = some (.ref fFi)
  mLc : mg "least_cap" = some (.ref fLc)
  mCa : mg "_law_cell_at" = some (.ref fCa)
  mLw : mg "_law_whole" = some (.ref fLw)
  mDn : mg "_law_drawn" = some (.ref fDn)
  mDr : mg "_law_draw" = some (.ref fDr)
  mDg : mg "_law_draught" = some (.ref fDg)
  mPu : mg "_law_pump" = some (.ref fPu)
  mBy : mg "_law_beyond" = some (.ref fBy)
section
variable {P : Program} {w : World} {K : PySem.W.Frag} {mg : Str → Option Value} {base : Heap} {fGt fCo fFi fLc fCa fLw fDn fDr fDg fPu fBy : Addr} {dGt dCo dFi dLc dCa dLw dDn dDr dDg dPu dBy : FuncData}
theorem scCa : FnScope ["_law_script", "_law_k"] ["_law_script", "_law_k"] (defScope sCa) := ⟨rfl, rfl, rfl, by decide +kernel, rfl, by decide +kernel, by decide +kernel⟩
theorem ok_Ca (N : Fns K mg fGt fCo fFi fLc fCa fLw fDn fDr fDg fPu fBy dGt dCo dFi dLc dCa dLw dDn dDr dDg dPu dBy) (T : Txt K mg) : FnOk P w K mg base CX0 1 fCa dCa ["_law_script", "_law_k"] (spCa K) := by
  refine N.FCa.ok scCa (fun vs H Q E h => ?_) (fun cdv A outer s H vs Q E hr h => ?_)
  · obtain ⟨a, k, ns, rfl, _⟩ := h
    rfl
  · obtain ⟨a, k, ns, rfl, hS, q⟩ := h
    refine ⟨_, (@pss_cons _ _ _ _ _ (@ps_if _ _ _ _ _ _ _ _ (pt_cmpR op_lt (pv 1) (pe_callB call_len_seq rfl T.len PySem.boot_len (@pa_c _ _ _ _ _ rfl (pv 0) pa_nil)) (nomark _)) (@pss_one _ _ _ (@ps_ret _ _ _ _ (@pe_ix _ _ _ _ _ _ _ ix_list (pv 0) (pv 1) (fun _ _ => rfl)))) pss_nil)
      (@pss_one _ _ _ (@ps_ret _ _ _ _ pe_int))), ?_⟩
    refine ⟨_, rfl, _, rfl, a, _, rfl, .inl hS, _, _, rfl, rfl, _, rfl, ?_⟩
    refine ite2 (fun h1 => ?_) (fun h1 => ?_)
    · have hlt : k < ns.length := by have := of_decide_eq_true h1; rw [List.length_map] at this; omega
      exact ⟨_, rfl, _, rfl, a, _, _, .int ns[k], rfl, rfl, hS, atI_nat (by rw [List.getElem?_map, List.getElem?_eq_getElem hlt]; rfl), q _⟩
    · exact q 0
theorem scLw : FnScope ["_law_found"] ["_law_found"] (defScope sLw) := ⟨rfl, rfl, rfl, by decide +kernel, rfl, by decide +kernel, by decide +kernel⟩
theorem ok_Lw (N : Fns K mg fGt fCo fFi fLc fCa fLw fDn fDr fDg fPu fBy dGt dCo dFi dLc dCa dLw dDn dDr dDg dPu dBy) (T : Txt K mg) : FnOk P w K mg base CX0 1 fLw dLw ["_law_found"] spWh := by
  refine N.FLw.ok scLw (fun vs H Q E h => ?_) (fun cdv A outer s H vs Q E hr h => ?_)
  · obtain ⟨x, b, rfl, _⟩ := h
    rfl
  · obtain ⟨x, b, rfl, hx, q⟩ := h
    refine ⟨_, (@pss_one _ _ _ (@ps_ret _ _ _ _ (pe_and (pe_callB call_isin rfl T.isin PyProof.Rows.boot_isinstance (@pa_c _ _ _ _ _ rfl (pv 0) (@pa_c _ _ _ _ _ rfl (pe_bltn (v := .ty "int") rfl T.int PyProof.Rows.boot_int rfl) pa_nil))) (pe_one (pe_not (pe_callB call_isin rfl T.isin PyProof.Rows.boot_isinstance (@pa_c _ _ _ _ _ rfl (pv 0) (@pa_c _ _ _ _ _ rfl (pe_bltn (v := .ty "bool") rfl T.bool PyProof.Rows.boot_bool rfl) pa_nil)))))))), ?_⟩
    rcases hx with ⟨i, rfl, rfl⟩ | ⟨rfl, rfl⟩
    · refine ⟨_, rfl, _, "int", _, _, rfl, .int i, ty_int, _, rfl, iteT ?_⟩
      exact ⟨_, rfl, _, "bool", _, _, rfl, .int i, ty_ib, _, rfl, q⟩
    · exact ⟨_, rfl, _, "int", _, _, rfl, .non, ty_ni, _, rfl, iteF q⟩
theorem absl {c : Int} : 0 ≤ (if c < 0 then -c else c) := by split <;> omega
theorem scDn : FnScope ["_law_script", "_law_start", "_law_cells", "_law_number", "_law_k", "_law_mixed"] ["_law_script", "_law_start"] (defScope sDn) := ⟨rfl, rfl, rfl, by decide +kernel, rfl, by decide +kernel, by decide +kernel⟩
theorem ok_Dn (N : Fns K mg fGt fCo fFi fLc fCa fLw fDn fDr fDg fPu fBy dGt dCo dFi dLc dCa dLw dDn dDr dDg dPu dBy) (T : Txt K mg) : FnOk P w K mg base CX0 1 fDn dDn ["_law_script", "_law_start"] (spDn K) := by
  refine N.FDn.ok scDn (fun vs H Q E h => ?_) (fun cdv A outer s H vs Q E hr h => ?_)
  · obtain ⟨a, st, ns, rfl, _⟩ := h
    rfl
  · obtain ⟨a, st, ns, rfl, hS, h0, h1, hz, q⟩ := h
    refine ⟨_, (@pss_cons _ _ _ _ _ (@ps_setE _ _ _ _ _ _ 2 scDn.nd rfl (Or.inl rfl) (pe_op op_cat (pe_comp rfl (compScope (osc := defScope sDn) (N := ["_law_script", "_law_start", "_law_cells", "_law_number", "_law_k", "_law_mixed"]) rfl rfl (by decide +kernel)) (pi_list (pe_slice sl_list (pv 0) po_none (po_some pe_int))) (fun _ _ _ _ => pf_nil) (fun _ _ _ _ => (pe_callB call_abs rfl T.abs PyProof.Rows.boot_abs (@pa_c _ _ _ _ _ rfl (pv 0) pa_nil)))) (@pe_lst _ _ _ _ (@pa_c _ _ _ _ _ rfl pe_int pa_nil))) (by kernel_rfl) (.inl rfl))
      (@pss_cons _ _ _ _ _ (@ps_setE _ _ _ _ _ _ 3 scDn.nd rfl (Or.inl rfl) (pv 1) (by kernel_rfl) (.inl rfl))
      (@pss_cons _ _ _ _ _ (ps_for PassesOwn.never rfl (pi_range1 rfl T.range (@pa_c _ _ _ _ _ rfl (pe_callB call_len_seq rfl T.len PySem.boot_len (@pa_c _ _ _ _ _ rfl (pv 2) pa_nil)) pa_nil)) (pg_name (i := 4) scDn.nd rfl (Or.inl rfl)) (@pss_one _ _ _ (@ps_setE _ _ _ _ _ _ 3 scDn.nd rfl (Or.inl rfl) (pe_op op_mod (pe_op op_add (pe_op op_add (pe_op op_mul (pv 3) pe_int) (pe_op op_mul (pe_op op_mod (@pe_ix _ _ _ _ _ _ _ ix_list (pv 2) (pv 4) (fun _ _ => rfl)) pe_int) (pe_op op_add (pe_op op_mul (pv 4) (pv 4)) pe_int))) pe_int) pe_int) (by kernel_rfl) (.inl rfl))))
      (@pss_cons _ _ _ _ _ (@ps_setE _ _ _ _ _ _ 5 scDn.nd rfl (Or.inl rfl) (pe_op op_mul (pe_op op_mod (@pe_ix _ _ _ _ _ _ _ ix_list (pv 2) pe_int (fun _ _ => rfl)) pe_int) (pe_callB call_len_seq rfl T.len PySem.boot_len (@pa_c _ _ _ _ _ rfl (pv 2) pa_nil))) (by kernel_rfl) (.inl rfl))
      (@pss_cons _ _ _ _ _ (ps_asg (pe_op op_fdiv (@pe_ix _ _ _ _ _ _ _ ix_list (pv 2) pe_int (fun _ _ => rfl)) pe_int) (pg_sub (pv 2) pe_int set_list))
      (@pss_one _ _ _ (@ps_ret _ _ _ _ (@pe_lst _ _ _ _ (@pa_c _ _ _ _ _ rfl (pv 2) (@pa_c _ _ _ _ _ rfl (pv 5) (@pa_c _ _ _ _ _ rfl (pv 3) (@pa_c _ _ _ _ _ rfl pe_int pa_nil)))))))))))), ?_⟩
    refine ⟨_, rfl, _, rfl, a, _, rfl, hS, fun p1 hp1 => ?_⟩
    obtain ⟨ms, em, hm⟩ := cut_ints ns none (some 63)
    rw [em]
    have s1 := same_upd (o := HO.lst (ms.map V.int)) hp1
    have l1 : SqL K (upd H p1 (HO.lst (ms.map V.int))) p1 (ms.map V.int) := .inl (.inl upd_same)
    generalize upd H p1 (HO.lst (ms.map V.int)) = H1 at s1 l1 ⊢
    refine ⟨p1, rfl, ⟨_, l1⟩, comp_sq (K := K) (xs := ms.map V.int) (fun _ => true) (fun v => match v with | .int i => .int (if i < 0 then -i else i) | x => x) l1 (small1000 (by simp; omega)) (fun x hx H' hs R k => k H' (Same.refl H')) (fun x hx _ H' hs R k => ?_) (fun D H2 hD hs hl => ?_)⟩
    · obtain ⟨i, _, rfl⟩ := List.mem_map.mp hx
      exact ⟨_, rfl, i, rfl, k H' (Same.refl H')⟩
    rw [List.filter_eq_self.mpr (fun _ _ => rfl), List.map_map] at hl
    have hl' : H2 D = some (.lst ((ms.map fun i => if i < 0 then -i else i).map V.int)) := by rw [hl, List.map_map]; rfl
    clear hl
    have hnn : ∀ c ∈ ms.map (fun i : Int => if i < 0 then -i else i), (0 : Int) ≤ c := fun c hc => by
      obtain ⟨i, _, rfl⟩ := List.mem_map.mp hc
      exact absl
    have hml : (ms.map fun i : Int => if i < 0 then -i else i).length ≤ 63 := by rw [List.length_map]; omega
    generalize (ms.map fun i : Int => if i < 0 then -i else i) = as at hl' hnn hml
    refine ⟨by show 1 ≤ sizeLine; decide, fun p3 hp3 => ?_⟩
    have s3 := same_upd (o := HO.lst [V.int 0]) hp3
    have l3 : upd H2 p3 (HO.lst [V.int 0]) p3 = some (.lst [V.int 0]) := upd_same
    generalize upd H2 p3 (HO.lst [V.int 0]) = H3 at s3 l3 ⊢
    refine ⟨D, p3, _, _, rfl, rfl, s3 _ _ hl', l3, line20 (by simp; omega), fun pc hpc => ?_⟩
    have s4 := same_upd (o := HO.lst (as.map V.int ++ [V.int 0])) hpc
    have l4 : upd H3 pc (HO.lst (as.map V.int ++ [V.int 0])) pc = some (.lst ((as ++ [0]).map V.int)) := by rw [upd_same, List.map_append]; rfl
    have hn4 : ∀ c ∈ as ++ [0], (0 : Int) ≤ c := fun c hc => by
      rcases List.mem_append.mp hc with h | h
      · exact hnn c h
      · rw [List.mem_singleton.mp h]; exact Int.le_refl _
    have hl4 : 0 < (as ++ [0]).length ∧ (as ++ [(0 : Int)]).length ≤ 64 := by rw [List.length_append, List.length_singleton]; omega
    have hfree : H pc = none := (s1.trans (hs.trans s3)).free hpc
    have s04 := s1.trans (hs.trans (s3.trans s4))
    generalize upd H3 pc (HO.lst (as.map V.int ++ [V.int 0])) = H4 at s4 l4 s04 ⊢
    generalize as ++ [0] = cs at l4 hn4 hl4
    clear s1 l1 hl' hnn hml s3 l3 s4 hpc hp3 hp1 hD hs
    have qc : SqL K H4 pc (cs.map V.int) := .inl (.inl l4)
    have hlen : (cs.map V.int).length = cs.length := List.length_map ..
    refine ⟨_, rfl, ?_⟩
    refine ⟨_, rfl, pc, _, rfl, .inl qc, _, rfl, by omega, by omega, for_range (lo := 0) (n := (((cs.map V.int).length : Nat) : Int).toNat) (fun i σ H5 => H5 = H4 ∧ ∃ (num : Int) (v4 : Option V), 0 ≤ num ∧ num < 2147483647 ∧ σ = [some (.ref a), some (.int st), some (.ref pc), some (.int num), v4, none]) ⟨rfl, st, none, h0, h1, rfl⟩ ?_ ?_⟩
    · rintro i σ H5 hi ⟨rfl, num, v4, hn0, hn1, rfl⟩
      obtain ⟨c, _, hc, hat⟩ := ints_at (ns := cs) (i := (0 : Int) + (i : Int)) (by omega) (by omega)
      have c0 : 0 ≤ c % 2147483647 ∧ c % 2147483647 < 2147483647 := ⟨Int.emod_nonneg _ (by decide), Int.emod_lt_of_pos _ (by decide)⟩
      refine ⟨_, rfl, _, _, rfl, rfl, .inr ⟨by decide, by decide⟩, _, rfl, _, rfl, pc, _, _, _, rfl, rfl, qc, hat, _, _, rfl, rfl, (by show (0 : Int) < 2147483647; decide), _, rfl, _, rfl, _, _, rfl, rfl, .inl ⟨by omega, by omega⟩, _, _, rfl, rfl, _, _, rfl, rfl, .inl ⟨by omega, by omega⟩, _, _, rfl, rfl, _, _, rfl, rfl, _, _, rfl, rfl, (by show (0 : Int) < 2147483629; decide), ?_⟩
      refine ⟨rfl, _, _, Int.emod_nonneg _ (by decide), ?_, rfl⟩
      exact Int.lt_trans (Int.emod_lt_of_pos _ (by decide)) (by decide)
    · rintro σ H5 ⟨rfl, num, v4, hn0, hn1, rfl⟩
      obtain ⟨c, ec, hc, hat⟩ := ints_at (ns := cs) (i := 0) (by decide) (by omega)
      have m2 : 0 ≤ c % 2 ∧ c % 2 < 2 := ⟨Int.emod_nonneg _ (by decide), Int.emod_lt_of_pos _ (by decide)⟩
      refine ⟨_, rfl, pc, _, _, _, rfl, rfl, qc, hat, _, _, rfl, rfl, (by show (0 : Int) < 2; decide), _, rfl, pc, _, rfl, .inl qc, _, _, rfl, rfl, .inl ⟨by omega, by omega⟩, ?_⟩
      have hmx : 0 ≤ c % 2 * ((cs.map V.int).length : Int) ∧ c % 2 * ((cs.map V.int).length : Int) ≤ cs.length := by
        rw [hlen]
        have : c % 2 = 0 ∨ c % 2 = 1 := by omega
        rcases this with e | e <;> rw [e] <;> omega
      show gName 5 (V.int (c % 2 * ((cs.map V.int).length : Int))) _ _ _
      generalize c % 2 * ((cs.map V.int).length : Int) = mx at hmx
      refine ⟨_, rfl, pc, _, _, _, rfl, rfl, qc, hat, _, _, rfl, rfl, ⟨by decide, by decide⟩, _, rfl, pc, _, 0, 0, rfl, rfl, l4, ixN_of (by decide) (by omega), ?_⟩
      have e5 : ((cs.map V.int).set 0 (V.int (c / 2))) = (cs.set 0 (c / 2)).map V.int := by rw [List.map_set]
      have l5 : upd H5 pc (HO.lst ((cs.map V.int).set 0 (V.int (c / 2)))) pc = some (.lst ((cs.set 0 (c / 2)).map V.int)) := by rw [upd_same, e5]
      have s5 : Same H (upd H5 pc (HO.lst ((cs.map V.int).set 0 (V.int (c / 2))))) := fun b o e => by rw [upd_ne (ne_of_none e hfree)]; exact s04 b o e
      generalize upd H5 pc (HO.lst ((cs.map V.int).set 0 (V.int (c / 2)))) = H6 at l5 s5 ⊢
      refine ⟨_, rfl, _, rfl, _, rfl, by show 4 ≤ sizeLine; decide, fun dh hdh => ?_⟩
      refine q dh pc _ (s5.free hdh) hfree (s5.trans (same_upd hdh)) ?_
      refine ⟨cs.set 0 (c / 2), mx, num, upd_same, ?_, ?_, ?_, hmx.1, by rw [List.length_set]; exact hmx.2, hn0, hn1, by rw [List.length_set]; exact hl4.2⟩
      · rw [upd_ne (ne_of_none l5 hdh)]
        exact l5
      · intro e
        rw [e, l5] at hdh
        cases hdh
      · intro x hx
        rcases List.mem_or_eq_of_mem_set hx with h | h
        · exact hn4 x h
        · rw [h]
          have := hn4 c hc
          omega
theorem scDr : FnScope ["_law_drawn_here", "_law_many", "_law_cells", "_law_turn", "_law_digit"] ["_law_drawn_here", "_law_many"] (defScope sDr) := ⟨rfl, rfl, rfl, by decide +kernel, rfl, by decide +kernel, by decide +kernel⟩
theorem ok_Dr (N : Fns K mg fGt fCo fFi fLc fCa fLw fDn fDr fDg fPu fBy dGt dCo dFi dLc dCa dLw dDn dDr dDg dPu dBy) (T : Txt K mg) : FnOk P w K mg base CX0 1 fDr dDr ["_law_drawn_here", "_law_many"] spDr := by
  refine N.FDr.ok scDr (fun vs H Q E h => ?_) (fun cdv A outer s H vs Q E hr h => ?_)
  · obtain ⟨dh, pc, n, many, rfl, _⟩ := h
    rfl
  · obtain ⟨dh, pc, n, many, rfl, ⟨cs, m, r, hd, hp, ne, hn, hm0, hm1, hr0, hr1, hl⟩, hnn, hma, hmb, q⟩ := h
    refine ⟨_, (@pss_cons _ _ _ _ _ (@ps_setE _ _ _ _ _ _ 2 scDr.nd rfl (Or.inl rfl) (@pe_ix _ _ _ _ _ _ _ ix_list (pv 0) pe_int (fun _ _ => rfl)) (by kernel_rfl) (.inl rfl))
      (@pss_cons _ _ _ _ _ (ps_asg (pe_op op_add (@pe_ix _ _ _ _ _ _ _ ix_list (pv 0) pe_int (fun _ _ => rfl)) pe_int) (pg_sub (pv 0) pe_int set_list))
      (@pss_cons _ _ _ _ _ (ps_while PassesOwn.never (PW.pt (pw_and (pt_cmpR op_lt (@pe_ix _ _ _ _ _ _ _ ix_list (pv 0) pe_int (fun _ _ => rfl)) (pe_callB call_len_seq rfl T.len PySem.boot_len (@pa_c _ _ _ _ _ rfl (pv 2) pa_nil)) (nomark _)) (pw_and1 (pt_cmpR op_eq (@pe_ix _ _ _ _ _ _ _ ix_list (pv 2) (@pe_ix _ _ _ _ _ _ _ ix_list (pv 0) pe_int (fun _ _ => rfl)) (fun _ _ => rfl)) pe_int (nomark _))))) (@pss_one _ _ _ (ps_asg (pe_op op_add (@pe_ix _ _ _ _ _ _ _ ix_list (pv 0) pe_int (fun _ _ => rfl)) pe_int) (pg_sub (pv 0) pe_int set_list))))
      (@pss_cons _ _ _ _ _ (@ps_if _ _ _ _ _ _ _ _ (pt_cmpR op_eq (@pe_ix _ _ _ _ _ _ _ ix_list (pv 0) pe_int (fun _ _ => rfl)) (pe_callB call_len_seq rfl T.len PySem.boot_len (@pa_c _ _ _ _ _ rfl (pv 2) pa_nil)) (nomark _)) (@pss_cons _ _ _ _ _ (@ps_setE _ _ _ _ _ _ 3 scDr.nd rfl (Or.inl rfl) (@pe_ix _ _ _ _ _ _ _ ix_list (pv 0) pe_int (fun _ _ => rfl)) (by kernel_rfl) (.inl rfl))
      (@pss_cons _ _ _ _ _ (ps_asg (pe_op op_mod (pe_op op_add (pe_op op_add (pe_op op_mul (@pe_ix _ _ _ _ _ _ _ ix_list (pv 0) pe_int (fun _ _ => rfl)) pe_int) (pe_op op_mul (pe_op op_mul (pv 3) (pv 3)) (pv 3))) pe_int) pe_int) (pg_sub (pv 0) pe_int set_list))
      (@pss_one _ _ _ (@ps_ret _ _ _ _ (pe_op op_mod (pe_op op_fdiv (pe_op op_mod (pe_op op_mul (@pe_ix _ _ _ _ _ _ _ ix_list (pv 0) pe_int (fun _ _ => rfl)) (@pe_ix _ _ _ _ _ _ _ ix_list (pv 0) pe_int (fun _ _ => rfl))) pe_int) pe_int) (pv 1)))))) pss_nil)
      (@pss_cons _ _ _ _ _ (@ps_setE _ _ _ _ _ _ 4 scDr.nd rfl (Or.inl rfl) (pe_op op_mod (@pe_ix _ _ _ _ _ _ _ ix_list (pv 2) (@pe_ix _ _ _ _ _ _ _ ix_list (pv 0) pe_int (fun _ _ => rfl)) (fun _ _ => rfl)) (pv 1)) (by kernel_rfl) (.inl rfl))
      (@pss_cons _ _ _ _ _ (ps_asg (pe_op op_fdiv (@pe_ix _ _ _ _ _ _ _ ix_list (pv 2) (@pe_ix _ _ _ _ _ _ _ ix_list (pv 0) pe_int (fun _ _ => rfl)) (fun _ _ => rfl)) (pv 1)) (pg_sub (pv 2) (@pe_ix _ _ _ _ _ _ _ ix_list (pv 0) pe_int (fun _ _ => rfl)) set_list))
      (@pss_one _ _ _ (@ps_ret _ _ _ _ (pv 4))))))))), ?_⟩
    have qd : SqL K H dh _ := .inl (.inl hd)
    refine ⟨_, rfl, dh, _, _, _, rfl, rfl, qd, atI_nat (j := 0) rfl, ?_⟩
    refine ⟨_, rfl, dh, _, _, _, rfl, rfl, qd, atI_nat (j := 3) rfl, _, _, rfl, rfl, _, rfl, dh, _, 3, 3, rfl, rfl, hd, rfl, ?_⟩
    have d1 : upd H dh (HO.lst ([V.ref pc, V.int m, V.int r, V.int (n : Int)].set 3 (V.int ((n : Int) + 1)))) dh = some (.lst [V.ref pc, V.int m, V.int r, V.int ((n + 1 : Nat) : Int)]) := upd_same
    have f1 : Fr2 H (upd H dh (HO.lst ([V.ref pc, V.int m, V.int r, V.int (n : Int)].set 3 (V.int ((n : Int) + 1))))) dh pc := fun b h1 h2 => upd_ne h1
    have p1 : upd H dh (HO.lst ([V.ref pc, V.int m, V.int r, V.int (n : Int)].set 3 (V.int ((n : Int) + 1)))) pc = some (.lst (cs.map V.int)) := by rw [upd_ne (Ne.symm ne)]; exact hp
    generalize upd H dh (HO.lst ([V.ref pc, V.int m, V.int r, V.int (n : Int)].set 3 (V.int ((n : Int) + 1)))) = H1 at d1 f1 p1 ⊢
    refine go_while ?_
    have hlen : (cs.map V.int).length = cs.length := List.length_map ..
    refine while_by (fun σ H4 => σ = [some (.ref dh), some (.int many), some (.ref pc), none, none] ∧ ∃ m, 0 ≤ m ∧ m ≤ (cs.length : Int) ∧ H4 dh = some (.lst [V.ref pc, V.int m, V.int r, V.int ((n + 1 : Nat) : Int)]) ∧ H4 pc = some (.lst (cs.map V.int)) ∧ Fr2 H H4 dh pc)
      (fun _ H4 => match H4 dh with | some (.lst [_, .int m, _, _]) => ((cs.length : Int) - m).toNat | _ => 0) ⟨rfl, m, hm0, hm1, d1, p1, f1⟩ ?_ ?_
    · rintro σ H4 ⟨rfl, m, hm0, hm1, d4, p4, f4⟩
      have qd : SqL K H4 dh _ := .inl (.inl d4)
      have qc : SqL K H4 pc _ := .inl (.inl p4)
      refine ⟨_, rfl, dh, _, _, _, rfl, rfl, qd, atI_nat (j := 1) rfl, _, rfl, pc, _, rfl, .inl qc, _, _, rfl, rfl, _, rfl, ?_⟩
      refine ite2 (fun h1 => ?_) (fun h1 => ?_)
      · have h1' : m < cs.length := by have := of_decide_eq_true h1; omega
        obtain ⟨c, ec, hc, hat⟩ := ints_at (ns := cs) (i := m) hm0 h1'
        refine ⟨_, rfl, _, rfl, dh, _, _, _, rfl, rfl, qd, atI_nat (j := 1) rfl, pc, _, _, _, rfl, rfl, qc, hat, rfl, _, rfl, ?_⟩
        refine ite2 (fun h2 => ?_) (fun h2 => ?_)
        · refine ⟨_, rfl, dh, _, _, _, rfl, rfl, qd, atI_nat (j := 1) rfl, _, _, rfl, rfl, _, rfl, dh, _, 1, 1, rfl, rfl, d4, rfl, ?_⟩
          have d5 : upd H4 dh (HO.lst ([V.ref pc, V.int m, V.int r, V.int ((n + 1 : Nat) : Int)].set 1 (V.int (m + 1)))) dh = some (.lst [V.ref pc, V.int (m + 1), V.int r, V.int ((n + 1 : Nat) : Int)]) := upd_same
          refine ⟨⟨rfl, m + 1, by omega, by omega, d5, by rw [upd_ne (Ne.symm ne)]; exact p4, fun b h3 h4 => by rw [upd_ne h3]; exact f4 b h3 h4⟩, ?_⟩
          dsimp only
          rw [d4, d5]
          show ((cs.length : Int) - (m + 1)).toNat < ((cs.length : Int) - m).toNat
          omega
        · have hcz : c ≠ 0 := fun z => h2 (by rw [z]; rfl)
          refine ⟨_, rfl, dh, _, _, _, rfl, rfl, qd, atI_nat (j := 1) rfl, _, rfl, pc, _, rfl, .inl qc, rfl, _, rfl, ?_⟩
          refine ite2 (fun h3 => ?_) (fun h3 => ?_)
          · have h3' : V.int m = V.int ((cs.map V.int).length : Int) := of_decide_eq_true h3
            have := V.int.inj h3'
            omega
          · refine ⟨_, rfl, _, rfl, dh, _, _, _, rfl, rfl, qd, atI_nat (j := 1) rfl, pc, _, _, _, rfl, rfl, qc, hat, _, rfl, _, _, rfl, rfl, hma, ?_⟩
            refine ⟨_, rfl, _, rfl, dh, _, _, _, rfl, rfl, qd, atI_nat (j := 1) rfl, pc, _, _, _, rfl, rfl, qc, hat, _, rfl, _, _, rfl, rfl, ⟨hma, hmb⟩, _, rfl, _, rfl, dh, _, _, _, rfl, rfl, qd, atI_nat (j := 1) rfl, pc, _, _, m.toNat, rfl, rfl, p4, ixN_of hm0 (by omega), ?_⟩
            have l5 : upd H4 pc (HO.lst ((cs.map V.int).set m.toNat (V.int (c / many)))) pc = some (.lst ((cs.set m.toNat (c / many)).map V.int)) := by rw [upd_same, List.map_set]
            refine ⟨_, rfl, q (c % many) _ (Int.emod_nonneg _ (by omega)) (Int.emod_lt_of_pos _ hma) ⟨cs.set m.toNat (c / many), m, r, by rw [upd_ne ne]; exact d4, l5, ne, fun x hx => ?_, hm0, by rw [List.length_set]; omega, hr0, hr1, by rw [List.length_set]; exact hl⟩ (fun b h3 h4 => by rw [upd_ne h4]; exact f4 b h3 h4)⟩
            rcases List.mem_or_eq_of_mem_set hx with h | h
            · exact hn x h
            · rw [h]
              exact Int.ediv_nonneg (hn c hc) (by omega)
      · have h1' : ¬ m < cs.length := fun z => h1 (decide_eq_true (by omega))
        have em : m = ((cs.map V.int).length : Int) := by omega
        refine ⟨_, rfl, dh, _, _, _, rfl, rfl, qd, atI_nat (j := 1) rfl, _, rfl, pc, _, rfl, .inl qc, rfl, _, rfl, ?_⟩
        refine ite2 (fun h3 => ?_) (fun h3 => absurd (decide_eq_true (by rw [em])) h3)
        refine ⟨_, rfl, dh, _, _, _, rfl, rfl, qd, atI_nat (j := 3) rfl, ?_⟩
        refine ⟨_, rfl, dh, _, _, _, rfl, rfl, qd, atI_nat (j := 2) rfl, _, _, rfl, rfl, .inr ⟨by decide, by decide⟩, _, rfl, _, rfl, _, _, rfl, rfl, .inl ⟨by omega, by omega⟩, _, rfl, _, _, rfl, rfl, .inr ⟨by omega, by omega⟩, _, _, rfl, rfl, _, _, rfl, rfl, _, _, rfl, rfl, (by show (0 : Int) < 2147483647; decide), _, rfl, dh, _, 2, 2, rfl, rfl, d4, rfl, ?_⟩
        dsimp only
        have hb0 := Int.emod_nonneg (r * 48271 + ((n + 1 : Nat) : Int) * ((n + 1 : Nat) : Int) * ((n + 1 : Nat) : Int) + 1) (show (2147483647 : Int) ≠ 0 by decide)
        have hb1 := Int.emod_lt_of_pos (r * 48271 + ((n + 1 : Nat) : Int) * ((n + 1 : Nat) : Int) * ((n + 1 : Nat) : Int) + 1) (show (0 : Int) < 2147483647 by decide)
        generalize (r * 48271 + ((n + 1 : Nat) : Int) * ((n + 1 : Nat) : Int) * ((n + 1 : Nat) : Int) + 1) % 2147483647 = r2 at hb0 hb1 ⊢
        have d5 : upd H4 dh (HO.lst ([V.ref pc, V.int m, V.int r, V.int ((n + 1 : Nat) : Int)].set 2 (V.int r2))) dh = some (.lst [V.ref pc, V.int m, V.int r2, V.int ((n + 1 : Nat) : Int)]) := upd_same
        have p5 : upd H4 dh (HO.lst ([V.ref pc, V.int m, V.int r, V.int ((n + 1 : Nat) : Int)].set 2 (V.int r2))) pc = some (.lst (cs.map V.int)) := by rw [upd_ne (Ne.symm ne)]; exact p4
        have f5 : Fr2 H (upd H4 dh (HO.lst ([V.ref pc, V.int m, V.int r, V.int ((n + 1 : Nat) : Int)].set 2 (V.int r2)))) dh pc := fun b h3 h4 => by rw [upd_ne h3]; exact f4 b h3 h4
        generalize upd H4 dh (HO.lst ([V.ref pc, V.int m, V.int r, V.int ((n + 1 : Nat) : Int)].set 2 (V.int r2))) = H5 at d5 p5 f5 ⊢
        have qd5 : SqL K H5 dh _ := .inl (.inl d5)
        refine ⟨_, rfl, dh, _, _, _, rfl, rfl, qd5, atI_nat (j := 2) rfl, _, rfl, dh, _, _, _, rfl, rfl, qd5, atI_nat (j := 2) rfl, _, _, rfl, rfl, .inl ⟨by omega, by omega⟩, _, _, rfl, rfl, (by show (0 : Int) < 2147483629; decide), _, _, rfl, rfl, ⟨by decide, by decide⟩, _, rfl, _, _, rfl, rfl, hma, ?_⟩
        exact q _ _ (Int.emod_nonneg _ (by omega)) (Int.emod_lt_of_pos _ hma) ⟨cs, m, r2, d5, p5, ne, hn, hm0, hm1, hb0, hb1, hl⟩ f5
    · rintro σ H4 Q1 Q2 hq ⟨v, e1, p, xs, i, z, e2, e3, hs, ha, v2, e4, p2, ys, e5, hy, i2, j2, e6, e7, k, e8, hh⟩
      refine ⟨v, e1, p, xs, i, z, e2, e3, hs, ha, v2, e4, p2, ys, e5, hy, i2, j2, e6, e7, k, e8, ?_⟩
      cases k with
      | false =>
        rw [if_neg Bool.false_ne_true] at hh
        exact iteF (hq _ _ hh)
      | true =>
        rw [if_pos rfl] at hh
        obtain ⟨v3, f1, v4, f2, p3, xs3, i3, z3, f3, f4, hs3, ha3, p4, xs4, i4, z4, f5, f6, hs4, ha4, f7, k2, f8, hQ⟩ := hh
        exact iteT ⟨v3, f1, v4, f2, p3, xs3, i3, z3, f3, f4, hs3, ha3, p4, xs4, i4, z4, f5, f6, hs4, ha4, f7, k2, f8, hq _ _ hQ⟩
theorem bd_snoc {d : Dr} {x : Tr} (h : Bd d) (hx : 0 ≤ x.2.2 ∧ x.2.2 < 2 ^ 41 ∧ x.2.1 - x.1 < 2 ^ 35) : Bd (d ++ [x]) := fun y hy => by
  rcases List.mem_append.mp hy with h1 | h1
  · exact h y h1
  · rw [List.mem_singleton.mp h1]; exact hx
theorem scDg : FnScope ["_law_script", "_law_start", "_law_far", "_law_drawn_here", "_law_found", "_law_tick", "_law_wind", "_law_most", "_law_k", "_law_more", "_law_long"] ["_law_script", "_law_start", "_law_far"] (defScope sDg) := ⟨rfl, rfl, rfl, by decide +kernel, rfl, by decide +kernel, by decide +kernel⟩
theorem ok_Dg (N : Fns K mg fGt fCo fFi fLc fCa fLw fDn fDr fDg fPu fBy dGt dCo dFi dLc dCa dLw dDn dDr dDg dPu dBy) (T : Txt K mg) : FnOk P w K mg base CX0 2 fDg dDg ["_law_script", "_law_start", "_law_far"] (spDg K) := by
  have GDn : FnOk P w K mg base CX0 1 fDn dDn ["_law_script", "_law_start"] (spDn K) := ok_Dn N T
  have GDr : FnOk P w K mg base CX0 1 fDr dDr ["_law_drawn_here", "_law_many"] spDr := ok_Dr N T
  refine N.FDg.ok scDg (fun vs H Q E h => ?_) (fun cdv A outer s H vs Q E hr h => ?_)
  · obtain ⟨a, st, far, ns, rfl, _⟩ := h
    rfl
  · obtain ⟨a, st, far, ns, rfl, hS, hz, q⟩ := h
    have hrDn : Room 1 _ := hr.mono (by decide)
    have hrDr : Room 1 _ := hr.mono (by decide)
    refine ⟨_, (@pss_cons _ _ _ _ _ (@ps_setE _ _ _ _ _ _ 3 scDg.nd rfl (Or.inl rfl) (pe_call GDn hrDn rfl N.mDn N.FDn.kp N.bDn .nil pass0 (@pa_c _ _ _ _ _ rfl (pe_slice sl_list (pv 0) (po_some (pv 1)) po_none) (@pa_c _ _ _ _ _ rfl pe_int pa_nil))) (by kernel_rfl) (.inl rfl))
      (@pss_cons _ _ _ _ _ (@ps_setE _ _ _ _ _ _ 4 scDg.nd rfl (Or.inl rfl) (@pe_lst _ _ _ _ pa_nil) (by kernel_rfl) (.inl rfl))
      (@pss_cons _ _ _ _ _ (@ps_setE _ _ _ _ _ _ 5 scDg.nd rfl (Or.inl rfl) pe_int (by kernel_rfl) (.inl rfl))
      (@pss_cons _ _ _ _ _ (@ps_setE _ _ _ _ _ _ 6 scDg.nd rfl (Or.inl rfl) (pe_un un_neg pe_int) (by kernel_rfl) (.inl rfl))
      (@pss_cons _ _ _ _ _ (@ps_setE _ _ _ _ _ _ 7 scDg.nd rfl (Or.inl rfl) (@pe_ix _ _ _ _ _ _ _ ix_list (@pe_lst _ _ _ _ (@pa_c _ _ _ _ _ rfl pe_int (@pa_c _ _ _ _ _ rfl pe_int pa_nil))) (pe_callTy call_int1 rfl T.int PyProof.Rows.boot_int (@pa_c _ _ _ _ _ rfl (pe_cmpR op_eq (pe_call GDr hrDr rfl N.mDr N.FDr.kp N.bDr .nil pass0 (@pa_c _ _ _ _ _ rfl (pv 3) (@pa_c _ _ _ _ _ rfl pe_int pa_nil))) pe_int (nomark _)) pa_nil)) (fun _ _ => rfl)) (by kernel_rfl) (.inl rfl))
      (@pss_cons _ _ _ _ _ (ps_for PassesOwn.never rfl (pi_range1 rfl T.range (@pa_c _ _ _ _ _ rfl (pe_op op_add pe_int (pe_call GDr hrDr rfl N.mDr N.FDr.kp N.bDr .nil pass0 (@pa_c _ _ _ _ _ rfl (pv 3) (@pa_c _ _ _ _ _ rfl (pv 7) pa_nil)))) pa_nil)) (pg_name (i := 8) scDg.nd rfl (Or.inl rfl)) (@pss_cons _ _ _ _ _ (@ps_setE _ _ _ _ _ _ 9 scDg.nd rfl (Or.inl rfl) (pe_call GDr hrDr rfl N.mDr N.FDr.kp N.bDr .nil pass0 (@pa_c _ _ _ _ _ rfl (pv 3) (@pa_c _ _ _ _ _ rfl pe_int pa_nil))) (by kernel_rfl) (.inl rfl))
      (@pss_cons _ _ _ _ _ (@ps_setE _ _ _ _ _ _ 10 scDg.nd rfl (Or.inl rfl) (pe_op op_add pe_int (pe_call GDr hrDr rfl N.mDr N.FDr.kp N.bDr .nil pass0 (@pa_c _ _ _ _ _ rfl (pv 3) (@pa_c _ _ _ _ _ rfl pe_int pa_nil)))) (by kernel_rfl) (.inl rfl))
      (@pss_cons _ _ _ _ _ (@ps_if _ _ _ _ _ _ _ _ (PW.pt (pw_and (pt_val (pv 2)) (pw_and1 (pt_cmpR op_gt (pe_call GDr hrDr rfl N.mDr N.FDr.kp N.bDr .nil pass0 (@pa_c _ _ _ _ _ rfl (pv 3) (@pa_c _ _ _ _ _ rfl pe_int pa_nil))) pe_int (nomark _))))) (@pss_cons _ _ _ _ _ (@ps_setE _ _ _ _ _ _ 9 scDg.nd rfl (Or.inl rfl) (pe_op op_mul (pe_call GDr hrDr rfl N.mDr N.FDr.kp N.bDr .nil pass0 (@pa_c _ _ _ _ _ rfl (pv 3) (@pa_c _ _ _ _ _ rfl pe_int pa_nil))) pe_int) (by kernel_rfl) (.inl rfl))
      (@pss_one _ _ _ (@ps_setE _ _ _ _ _ _ 10 scDg.nd rfl (Or.inl rfl) (pe_op op_add pe_int (pe_op op_mul (pe_call GDr hrDr rfl N.mDr N.FDr.kp N.bDr .nil pass0 (@pa_c _ _ _ _ _ rfl (pv 3) (@pa_c _ _ _ _ _ rfl pe_int pa_nil))) pe_int)) (by kernel_rfl) (.inl rfl)))) pss_nil)
      (@pss_cons _ _ _ _ _ (@ps_if _ _ _ _ _ _ _ _ (pt_cmpR op_eq (pv 9) (pv 6) (nomark _)) (@pss_one _ _ _ (@ps_setE _ _ _ _ _ _ 9 scDg.nd rfl (Or.inl rfl) (pe_op op_add (pv 9) pe_int) (by kernel_rfl) (.inl rfl))) pss_nil)
      (@pss_cons _ _ _ _ _ (@ps_setE _ _ _ _ _ _ 6 scDg.nd rfl (Or.inl rfl) (pv 9) (by kernel_rfl) (.inl rfl))
      (@pss_cons _ _ _ _ _ (ps_expr (pe_bm PySem.F.plainAttrs_list PySem.F.slot_list_append PySem.F.type_list_append mt_append (pv 4) (@pa_c _ _ _ _ _ rfl (@pe_tup _ _ _ _ _ (@pa_c _ _ _ _ _ rfl (pv 5) (@pa_c _ _ _ _ _ rfl (pe_op op_add (pv 5) (pv 10)) (@pa_c _ _ _ _ _ rfl (pv 6) pa_nil)))) pa_nil)))
      (@pss_one _ _ _ (@ps_setE _ _ _ _ _ _ 5 scDg.nd rfl (Or.inl rfl) (pe_op op_add (pv 5) (pv 10)) (by kernel_rfl) (.inl rfl))))))))))
      (@pss_one _ _ _ (@ps_ret _ _ _ _ (pv 4))))))))), ?_⟩
    refine ⟨_, rfl, _, rfl, _, rfl, a, _, rfl, hS, fun p1 hp1 => ?_⟩
    obtain ⟨ms, em, hm⟩ := cut_ints ns (some (st : Nat)) none
    rw [em]
    have s1 := same_upd (o := HO.lst (ms.map V.int)) hp1
    have l1 : SqL K (upd H p1 (HO.lst (ms.map V.int))) p1 (ms.map V.int) := .inl (.inl upd_same)
    generalize upd H p1 (HO.lst (ms.map V.int)) = H1 at s1 l1 ⊢
    refine ⟨p1, 53, ms, rfl, l1, by decide, by decide, by omega, fun dh pc H2 hd hp s2 D2 => ?_⟩
    have hd0 := s1.free hd
    have hp0 := s1.free hp
    have s02 := s1.trans s2
    clear hd hp s1 s2 l1 hp1
    refine ⟨Nat.zero_le _, fun l hl => ?_⟩
    have s3 := same_upd (o := HO.lst []) hl
    have l3 : upd H2 l (HO.lst []) l = some (.lst []) := upd_same
    have hl0 : H l = none := s02.free hl
    have D3 : DH (upd H2 l (HO.lst [])) dh pc 0 := by
      obtain ⟨cs, m, r, e1, e2, e3⟩ := D2
      exact ⟨cs, m, r, s3 _ _ e1, s3 _ _ e2, e3⟩
    have nl : l ≠ dh ∧ l ≠ pc := by
      obtain ⟨cs, m, r, e1, e2, e3⟩ := D2
      exact ⟨Ne.symm (ne_of_none e1 hl), Ne.symm (ne_of_none e2 hl)⟩
    have s03 := s02.trans s3
    generalize upd H2 l (HO.lst []) = H3 at s3 l3 D3 s03 ⊢
    clear D2 hl s3 s02
    refine ⟨_, rfl, by show 2 ≤ sizeLine; decide, fun pm hpm => ?_⟩
    have npm : pm ≠ dh ∧ pm ≠ pc := by
      obtain ⟨cs, m, r, e1, e2, e3⟩ := D3
      exact ⟨Ne.symm (ne_of_none e1 hpm), Ne.symm (ne_of_none e2 hpm)⟩
    have s3m := same_upd (o := HO.lst [V.int 20, V.int 110]) hpm
    have lm : upd H3 pm (HO.lst [V.int 20, V.int 110]) pm = some (.lst [V.int 20, V.int 110]) := upd_same
    have D3 := D3.same s3m
    have l3 := s3m _ _ l3
    have s03 := s03.trans s3m
    generalize upd H3 pm (HO.lst [V.int 20, V.int 110]) = H3 at s3m lm D3 l3 s03 ⊢
    refine ⟨_, rfl, dh, pc, 0, 16, rfl, D3, by decide, by decide, by decide, fun r16 H35 _ _ D35 f35 => ?_⟩
    have s03 := f35.same s03 hd0 hp0
    have l3 : H35 l = some (.lst []) := by rw [f35 l nl.1 nl.2]; exact l3
    have lm : H35 pm = some (.lst [V.int 20, V.int 110]) := by rw [f35 pm npm.1 npm.2]; exact lm
    obtain ⟨mo, hmo, hat⟩ : ∃ mo : Int, (mo = 20 ∨ mo = 110) ∧ atI [V.int 20, V.int 110] (if decide (V.int r16 = V.int 3) = true then 1 else 0) = some (V.int mo) := by
      by_cases h : decide (V.int r16 = V.int 3) = true
      · rw [if_pos h]; exact ⟨110, .inr rfl, rfl⟩
      · rw [if_neg h]; exact ⟨20, .inl rfl, rfl⟩
    refine ⟨rfl, .inr ⟨_, rfl, pm, _, _, _, rfl, rfl, .inl (.inl lm), hat, ?_⟩⟩
    refine ⟨_, rfl, _, rfl, dh, pc, 0 + 1, mo, rfl, D35, by decide, by omega, by omega, fun r H4 r0 r1 D4 f4 => ⟨_, _, rfl, rfl, _, rfl, by omega, by omega, ?_⟩⟩
    have s04 := f4.same s03 hd0 hp0
    have l4 : H4 l = some (.lst []) := by rw [f4 l nl.1 nl.2]; exact l3
    refine for_range (lo := 0) (n := (1 + r).toNat) (fun i σ H5 => ∃ (d : Dr) (ys : List V) (tick wd : Int) (n : Nat) (v7 v8 v9 : Option V), σ = [some (.ref a), some (.int (st : Nat)), some (.bl far), some (.ref dh), some (.ref l), some (.int tick), some (.int wd), some (.int mo), v7, v8, v9] ∧ Same H H5 ∧ DrAt H5 l d ys ∧ Chain 0 d ∧ tick = ((tk 0 d).length : Int) ∧ d.length = i ∧ Bd d ∧ (far = false → ∀ x ∈ d, x.2.1 - x.1 ≤ 4 ∧ x.2.2 ≤ 10) ∧ DH H5 dh pc n ∧ n ≤ 2 + 5 * i) ?_ ?_ ?_
    · exact ⟨[], [], 0, -1, 2, none, none, none, rfl, s04, ⟨l4, .nil⟩, trivial, rfl, rfl, fun _ h => absurd h (List.not_mem_nil), fun _ _ h => absurd h (List.not_mem_nil), D4, by omega⟩
    · rintro i σ H5 hi ⟨d, ys, tick, wd, n, v7, v8, v9, rfl, s5, A5, c5, rfl, hdl, bd, bs, D5, hn⟩
      refine ⟨_, rfl, dh, pc, n, 10, rfl, D5, by omega, by decide, by decide, fun m1 H6 m10 m11 D6 f6 => ?_⟩
      refine ⟨_, rfl, dh, pc, n + 1, 4, rfl, D6, by omega, by decide, by decide, fun g1 H7 g10 g11 D7 f7 => ⟨_, _, rfl, rfl, ?_⟩⟩
      have A7 := (A5.fr f6 D5 nl.1 nl.2).fr f7 D6 nl.1 nl.2
      have s7 := f7.same (f6.same s5 hd0 hp0) hd0 hp0
      clear f6 f7 D6 A5 D5 s5 s04 l4 f4 D4
      have e1 : 0 ≤ (2 : Int) ^ 41 := by decide
      rcases far with _ | _
      case' false =>
        refine ⟨_, rfl, _, rfl, iteF (iteF ?_)⟩
        dsimp only
        have bm : 0 ≤ m1 ∧ m1 < 1099511627776 ∧ (false = false → m1 ≤ 9) := ⟨m10, by omega, fun _ => by omega⟩
        have bl : 0 < 1 + g1 ∧ 1 + g1 < 34359738368 ∧ (false = false → 1 + g1 ≤ 4) := ⟨by omega, by omega, fun _ => by omega⟩
        have bn : n + 1 + 1 ≤ 2 + 5 * (i + 1) := by omega
        generalize n + 1 + 1 = n8 at D7 bn
        generalize m1 = more at bm ⊢
        generalize 1 + g1 = long at bl ⊢
      case' true =>
        refine ⟨_, rfl, _, rfl, iteT ⟨_, rfl, dh, pc, _, 3, rfl, D7, by omega, by decide, by decide, fun r3 H8 r30 r31 D8 f8 => ⟨_, _, rfl, rfl, _, rfl, ite2 (fun h3 => ?thn) (fun h3 => ?els)⟩⟩⟩
        case' thn =>
          have A8 := A7.fr f8 D7 nl.1 nl.2
          have s8 := f8.same s7 hd0 hp0
          refine ⟨_, rfl, dh, pc, _, 33554432, rfl, D8, by omega, by decide, by decide, fun r4 H9 r40 r41 D9 f9 => ⟨_, _, rfl, rfl, .inr ⟨by decide, by decide⟩, ?_⟩⟩
          have A9 := A8.fr f9 D8 nl.1 nl.2
          have s9 := f9.same s8 hd0 hp0
          refine ⟨_, rfl, dh, pc, _, 33554432, rfl, D9, by omega, by decide, by decide, fun r5 H10 r50 r51 D10 f10 => ⟨_, _, rfl, rfl, .inr ⟨by decide, by decide⟩, _, _, rfl, rfl, ?_⟩⟩
          dsimp only
          have A7 := A9.fr f10 D9 nl.1 nl.2
          have s7 := f10.same s9 hd0 hp0
          have D7 := D10
          clear A8 s8 A9 s9 D8 D9 D10 f8 f9 f10
          have bm : 0 ≤ r4 * 29989 ∧ r4 * 29989 < 1099511627776 ∧ (true = false → r4 * 29989 ≤ 9) := ⟨by omega, by omega, fun h => by cases h⟩
          have bl : 0 < 1 + r5 * 300 ∧ 1 + r5 * 300 < 34359738368 ∧ (true = false → 1 + r5 * 300 ≤ 4) := ⟨by omega, by omega, fun h => by cases h⟩
          have bn : n + 1 + 1 + 1 + 1 + 1 ≤ 2 + 5 * (i + 1) := by omega
          generalize n + 1 + 1 + 1 + 1 + 1 = n8 at D7 bn
          generalize r4 * 29989 = more at bm ⊢
          generalize 1 + r5 * 300 = long at bl ⊢
          generalize H10 = H7 at A7 s7 D7 ⊢
        case' els =>
          dsimp only
          have A7 := A7.fr f8 D7 nl.1 nl.2
          have s7 := f8.same s7 hd0 hp0
          have D7 := D8
          clear D8 f8
          have bm : 0 ≤ m1 ∧ m1 < 1099511627776 ∧ (true = false → m1 ≤ 9) := ⟨m10, by omega, fun h => by cases h⟩
          have bl : 0 < 1 + g1 ∧ 1 + g1 < 34359738368 ∧ (true = false → 1 + g1 ≤ 4) := ⟨by omega, by omega, fun h => by cases h⟩
          have bn : n + 1 + 1 + 1 ≤ 2 + 5 * (i + 1) := by omega
          generalize n + 1 + 1 + 1 = n8 at D7 bn
          generalize m1 = more at bm ⊢
          generalize 1 + g1 = long at bl ⊢
          generalize H8 = H7 at A7 s7 D7 ⊢
      all_goals
        refine ⟨_, rfl, _, rfl, rfl, _, rfl, ?_⟩
        refine ite2 (fun h4 => ?_) (fun h4 => ?_)
        focus
          refine ⟨_, rfl, _, _, rfl, rfl, ?_⟩
          dsimp only
          have bw : 0 ≤ more + 1 ∧ more + 1 < 1099511627777 ∧ (_ = false → more + 1 ≤ 10) := ⟨by omega, by omega, fun h => by have := bm.2.2 h; omega⟩
          generalize more + 1 = more2 at bw ⊢
        rotate_left
        focus
          have bw : 0 ≤ more ∧ more < 1099511627777 ∧ (_ = false → more ≤ 10) := ⟨by omega, by omega, fun h => by have := bm.2.2 h; omega⟩
          generalize more = more2 at bw ⊢
        all_goals
          refine ⟨_, rfl, _, rfl, .inl ⟨rfl, _, .inl (.inl A7.l)⟩, _, rfl, _, rfl, _, rfl, _, _, rfl, rfl, _, rfl, by show 3 ≤ sizeLine; decide, fun t ht => ?_⟩
          dsimp only
          have sT := same_upd (o := HO.tup [V.int ((tk 0 d).length : Int), V.int (((tk 0 d).length : Int) + long), V.int more2]) ht
          have A8 := A7.mono sT
          have D8 := D7.same sT
          have s8 := s7.trans sT
          have hT : upd H7 t (HO.tup [V.int ((tk 0 d).length : Int), V.int (((tk 0 d).length : Int) + long), V.int more2]) t = some (.tup (triV (((tk 0 d).length : Int), ((tk 0 d).length : Int) + long, more2))) := upd_same
          generalize upd H7 t (HO.tup [V.int ((tk 0 d).length : Int), V.int (((tk 0 d).length : Int) + long), V.int more2]) = H8 at A8 D8 s8 hT ⊢
          have hlen : ys.length ≤ 110 := by have := A7.len; omega
          refine ⟨l, _, _, rfl, rfl, A8.l, small1000 (by omega), _, rfl, _, rfl, _, _, rfl, rfl, ?_⟩
          refine ⟨d ++ [(((tk 0 d).length : Int), ((tk 0 d).length : Int) + long, more2)], _, _, more2, n8, _, _, _, rfl, fun b o e => by rw [upd_ne (ne_of_none e hl0)]; exact s8 b o e, A8.snoc hT, c5.snoc (by show ((tk 0 d).length : Int) = 0 + ((tk 0 d).length : Int); omega) (by show ((tk 0 d).length : Int) < ((tk 0 d).length : Int) + long; omega), ?_, by rw [List.length_append, hdl]; rfl, bd_snoc bd ⟨bw.1, by show more2 < 2 ^ 41; omega, by show ((tk 0 d).length : Int) + long - ((tk 0 d).length : Int) < 2 ^ 35; omega⟩, fun h x hx => ?_, D8.upd nl.1 nl.2, bn⟩
          · rw [tk_len_snoc]
            show _ = (((tk 0 d).length + (((tk 0 d).length : Int) + long - ((tk 0 d).length : Int)).toNat : Nat) : Int)
            omega
          · rcases List.mem_append.mp hx with h1 | h1
            · exact bs h x h1
            · rw [List.mem_singleton.mp h1]
              have := bl.2.2 h
              exact ⟨by show ((tk 0 d).length : Int) + long - ((tk 0 d).length : Int) ≤ 4; omega, bw.2.2 h⟩
    · rintro σ H5 ⟨d, ys, tick, wd, n, v7, v8, v9, rfl, s5, A5, c5, rfl, hdl, bd, bs, D5, hn⟩
      exact ⟨_, rfl, q l ys d H5 s5 A5 c5 (fun e => by rw [e] at hdl; simp at hdl; omega) (by omega) bd bs⟩
theorem scLc : FnScope ["draught", "pump", "best", "taken", "since", "first", "behind", "wind"] ["draught", "pump"] (defScope sLc) := ⟨rfl, rfl, rfl, by decide +kernel, rfl, by decide +kernel, by decide +kernel⟩
theorem ok_Lc (N : Fns K mg fGt fCo fFi fLc fCa fLw fDn fDr fDg fPu fBy dGt dCo dFi dLc dCa dLw dDn dDr dDg dPu dBy) (T : Txt K mg) : FnOk P w K mg base CX0 1 fLc dLc ["draught", "pump"] spLc := by
  refine N.FLc.ok scLc (fun vs H Q E h => ?_) (fun cdv A outer s H vs Q E hr h => ?_)
  · obtain ⟨a, d, ys, P, rfl, _⟩ := h
    rfl
  · obtain ⟨a, d, ys, P, rfl, A, c, bd, hz, q⟩ := h
    refine ⟨_, (@pss_cons _ _ _ _ _ (@ps_setE _ _ _ _ _ _ 2 scLc.nd rfl (Or.inl rfl) (@pe_tup _ _ _ _ _ (@pa_c _ _ _ _ _ rfl pe_int (@pa_c _ _ _ _ _ rfl pe_int (@pa_c _ _ _ _ _ rfl pe_int pa_nil)))) (by kernel_rfl) (.inl rfl))
      (@pss_cons _ _ _ _ _ (@ps_setE _ _ _ _ _ _ 3 scLc.nd rfl (Or.inl rfl) pe_int (by kernel_rfl) (.inl rfl))
      (@pss_cons _ _ _ _ _ (@ps_setE _ _ _ _ _ _ 4 scLc.nd rfl (Or.inl rfl) pe_int (by kernel_rfl) (.inl rfl))
      (@pss_cons _ _ _ _ _ (ps_for PassesOwn.never rfl (pi_list (pv 0)) (pg_tup rfl (pgs_cons (pg_name (i := 5) scLc.nd rfl (Or.inl rfl)) (pgs_cons (pg_name (i := 6) scLc.nd rfl (Or.inl rfl)) (pgs_cons (pg_name (i := 7) scLc.nd rfl (Or.inl rfl)) pgs_nil)))) (@pss_cons _ _ _ _ _ (@ps_if _ _ _ _ _ _ _ _ (pt_cmpR op_le (pv 3) pe_int (nomark _)) (@pss_cons _ _ _ _ _ (@ps_setE _ _ _ _ _ _ 3 scLc.nd rfl (Or.inl rfl) pe_int (by kernel_rfl) (.inl rfl))
      (@pss_one _ _ _ (@ps_setE _ _ _ _ _ _ 4 scLc.nd rfl (Or.inl rfl) (pv 5) (by kernel_rfl) (.inl rfl)))) pss_nil)
      (@pss_cons _ _ _ _ _ (@ps_setE _ _ _ _ _ _ 3 scLc.nd rfl (Or.inl rfl) (pe_op op_add (pv 3) (pe_op op_mul (pe_op op_sub (pv 6) (pv 5)) (pe_op op_sub (pv 7) (pv 1)))) (by kernel_rfl) (.inl rfl))
      (@pss_one _ _ _ (@ps_if _ _ _ _ _ _ _ _ (pt_cmpR op_gt (pv 3) (@pe_ix _ _ _ _ _ _ _ (ix_tupK (K := K) rfl) (pv 2) pe_int (fun _ _ => rfl)) (nomark _)) (@pss_one _ _ _ (@ps_setE _ _ _ _ _ _ 2 scLc.nd rfl (Or.inl rfl) (@pe_tup _ _ _ _ _ (@pa_c _ _ _ _ _ rfl (pv 3) (@pa_c _ _ _ _ _ rfl (pv 4) (@pa_c _ _ _ _ _ rfl (pv 6) pa_nil)))) (by kernel_rfl) (.inl rfl))) pss_nil)))))
      (@pss_one _ _ _ (@ps_ret _ _ _ _ (pv 2))))))), ?_⟩
    refine ⟨by show 3 ≤ sizeLine; decide, fun pb hpb => ?_⟩
    have s1 := same_upd (o := HO.tup [V.int 0, V.int 0, V.int 0]) hpb
    have l1 : upd H pb (HO.tup [V.int 0, V.int 0, V.int 0]) pb = some (.tup [V.int 0, V.int 0, V.int 0]) := upd_same
    generalize upd H pb (HO.tup [V.int 0, V.int 0, V.int 0]) = H1 at s1 l1 ⊢
    refine ⟨_, rfl, a, rfl, ⟨_, .inl (.inl (A.mono s1).l)⟩, for_list (K := K) (a := a) (xs := ys) (fun i σ H4 => ∃ (pb : Addr) (b0 b1 b2 tkn sin : Int) (v5 v6 v7 : Option V), σ = [some (.ref a), some (.int P), some (.ref pb), some (.int tkn), some (.int sin), v5, v6, v7] ∧ Same H H4 ∧ H4 pb = some (.tup [.int b0, .int b1, .int b2]) ∧ LcI (tk P (d.take i)) b0 b1 b2 tkn sin) ⟨pb, 0, 0, 0, 0, 0, _, _, _, rfl, s1, l1, LcI.start⟩ (fun i σ H4 _ h => by obtain ⟨_, _, _, _, _, _, _, _, _, _, s, _⟩ := h; exact .inl (.inl (A.mono s).l)) ?_ ?_⟩
    · rintro i y σ H4 hi ⟨pb, b0, b1, b2, tkn, sin, v5, v6, v7, rfl, s4, hpb, L⟩
      obtain ⟨x, T0, hx, hxd, rfl, hT⟩ := (A.mono s4).at hi
      obtain ⟨e1, e2⟩ := split_at hx
      obtain ⟨g1, g2⟩ := c.at P e1
      have bx := bd x hxd
      have hc : ((cnt x : Nat) : Int) = x.2.1 - x.1 := by unfold cnt; omega
      refine ⟨T0, _, rfl, .inl (.inl hT), rfl, _, _, rfl, _, _, rfl, _, _, rfl, rfl, ?_⟩
      have hb : ((tk P (d.take i)).length : Int) + ((cnt x : Nat) : Int) = x.2.1 := by omega
      refine ⟨_, rfl, _, _, rfl, rfl, _, rfl, ?_⟩
      refine ite2 (fun h1 => ?thn) (fun h1 => ?els)
      case' thn =>
        have h1' : tkn ≤ 0 := of_decide_eq_true h1
        have st := L.step (c := cnt x) (by omega) (x := x.2.2 - P) (t0 := 0) (s0 := x.1) (t1 := 0 + (x.2.1 - x.1) * (x.2.2 - P)) (by rw [if_pos h1']) (by rw [if_pos h1']; omega) (by rw [hc])
        refine ⟨_, rfl, ?_⟩
      case' els =>
        have h1' : ¬ tkn ≤ 0 := fun z => h1 (decide_eq_true z)
        have st := L.step (c := cnt x) (by omega) (x := x.2.2 - P) (t0 := tkn) (s0 := sin) (t1 := tkn + (x.2.1 - x.1) * (x.2.2 - P)) (by rw [if_neg h1']) (by rw [if_neg h1']) (by rw [hc])
      all_goals
        rw [hb, ← tk_snoc, ← e2] at st
        refine ⟨_, rfl, _, rfl, _, rfl, _, _, rfl, rfl, _, rfl, _, rfl, _, _, rfl, rfl, _, _, rfl, rfl, .inl ⟨by omega, by omega⟩, _, _, rfl, rfl, ?_⟩
        refine ⟨_, rfl, _, rfl, pb, _, _, _, rfl, rfl, .inl (.inl hpb), atI_nat (j := 0) rfl, _, _, rfl, rfl, _, rfl, ?_⟩
        refine ite2 (fun h2 => ?_) (fun h2 => ?_)
        · refine ⟨_, rfl, _, rfl, _, rfl, by show 3 ≤ sizeLine; decide, fun p hp => ?_⟩
          exact ⟨p, _, _, _, _, _, _, _, _, rfl, s4.trans (same_upd hp), upd_same, st.1 (of_decide_eq_true h2)⟩
        · exact ⟨pb, _, _, _, _, _, _, _, _, rfl, s4, hpb, st.2 fun z => h2 (decide_eq_true z)⟩
    · rintro σ H4 ⟨pb, b0, b1, b2, tkn, sin, v5, v6, v7, rfl, s4, hpb, L⟩
      rw [List.take_of_length_le (by rw [A.len]; exact Nat.le_refl _)] at L
      exact ⟨_, rfl, q pb b0 b1 b2 tkn sin H4 s4 hpb L⟩
theorem scGt : FnScope ["there", "rise", "count"] ["there", "rise", "count"] (defScope sGt) := ⟨rfl, rfl, rfl, by decide +kernel, rfl, by decide +kernel, by decide +kernel⟩
theorem ok_Gt (N : Fns K mg fGt fCo fFi fLc fCa fLw fDn fDr fDg fPu fBy dGt dCo dFi dLc dCa dLw dDn dDr dDg dPu dBy) (T : Txt K mg) : FnOk P w K mg base CX0 1 fGt dGt ["there", "rise", "count"] spGt := by
  refine N.FGt.ok scGt (fun vs H Q E h => ?_) (fun cdv A outer s H vs Q E hr h => ?_)
  · obtain ⟨th, ri, c, rfl, _⟩ := h
    rfl
  · obtain ⟨th, ri, c, rfl, hb, q⟩ := h
    refine ⟨_, (@pss_cons _ _ _ _ _ (@ps_if _ _ _ _ _ _ _ _ (pt_cmpR op_lt (pe_op op_add (pv 0) (pv 1)) pe_int (nomark _)) (@pss_one _ _ _ (@ps_ret _ _ _ _ pe_int)) pss_nil)
      (@pss_one _ _ _ (@ps_ret _ _ _ _ (pe_ifExp (pt_cmpR op_ge (pv 1) pe_int (nomark _)) (pv 2) (pe_callB (call_min2 rfl) rfl T.min PyProof.Rows.boot_min (@pa_c _ _ _ _ _ rfl (pv 2) (@pa_c _ _ _ _ _ rfl (pe_op op_fdivG (pv 0) (pe_un un_neg (pv 1))) pa_nil))))))), ?_⟩
    unfold gd at q
    refine ⟨_, rfl, _, rfl, _, _, rfl, rfl, _, _, rfl, rfl, _, rfl, ?_⟩
    refine ite2 (fun h1 => ?_) (fun h1 => ?_)
    · rw [if_pos (of_decide_eq_true h1)] at q
      exact q
    · rw [if_neg (fun z => h1 (decide_eq_true z))] at q
      refine ⟨_, rfl, _, _, rfl, rfl, _, rfl, ?_⟩
      refine ite2 (fun h2 => ?_) (fun h2 => ?_)
      · rw [if_pos (of_decide_eq_true h2)] at q
        exact ⟨_, rfl, q⟩
      · have h2' : ¬ ri ≥ 0 := fun z => h2 (decide_eq_true z)
        rw [if_neg h2'] at q
        exact ⟨_, rfl, _, rfl, _, rfl, _, rfl, _, _, rfl, rfl, ⟨by show 0 < -ri; omega, hb⟩, _, _, rfl, q⟩
theorem scCo : FnScope ["draught", "pump", "cap", "there", "first", "behind", "wind", "count", "good"] ["draught", "pump", "cap"] (defScope sCo) := ⟨rfl, rfl, rfl, by decide +kernel, rfl, by decide +kernel, by decide +kernel⟩
theorem ok_Co (N : Fns K mg fGt fCo fFi fLc fCa fLw fDn fDr fDg fPu fBy dGt dCo dFi dLc dCa dLw dDn dDr dDg dPu dBy) (T : Txt K mg) : FnOk P w K mg base CX0 2 fCo dCo ["draught", "pump", "cap"] spCo := by
  have GGt : FnOk P w K mg base CX0 1 fGt dGt ["there", "rise", "count"] spGt := ok_Gt N T
  refine N.FCo.ok scCo (fun vs H Q E h => ?_) (fun cdv A outer s H vs Q E hr h => ?_)
  · obtain ⟨a, d, ys, P, cap, rfl, _⟩ := h
    rfl
  · obtain ⟨a, d, ys, P, cap, rfl, A, c, bd, hP, hc0, q⟩ := h
    have hrGt : Room 1 _ := hr.mono (by decide)
    refine ⟨_, (@pss_cons _ _ _ _ _ (@ps_setE _ _ _ _ _ _ 3 scCo.nd rfl (Or.inl rfl) (pv 2) (by kernel_rfl) (.inl rfl))
      (@pss_cons _ _ _ _ _ (ps_for PassesOwn.never rfl (pi_list (pv 0)) (pg_tup rfl (pgs_cons (pg_name (i := 4) scCo.nd rfl (Or.inl rfl)) (pgs_cons (pg_name (i := 5) scCo.nd rfl (Or.inl rfl)) (pgs_cons (pg_name (i := 6) scCo.nd rfl (Or.inl rfl)) pgs_nil)))) (@pss_cons _ _ _ _ _ (@ps_setE _ _ _ _ _ _ 7 scCo.nd rfl (Or.inl rfl) (pe_op op_sub (pv 5) (pv 4)) (by kernel_rfl) (.inl rfl))
      (@pss_cons _ _ _ _ _ (@ps_setE _ _ _ _ _ _ 8 scCo.nd rfl (Or.inl rfl) (pe_call GGt hrGt rfl N.mGt N.FGt.kp N.bGt .nil pass0 (@pa_c _ _ _ _ _ rfl (pv 3) (@pa_c _ _ _ _ _ rfl (pe_op op_sub (pv 1) (pv 6)) (@pa_c _ _ _ _ _ rfl (pv 7) pa_nil)))) (by kernel_rfl) (.inl rfl))
      (@pss_cons _ _ _ _ _ (@ps_if _ _ _ _ _ _ _ _ (pt_cmpR op_lt (pv 8) (pv 7) (nomark _)) (@pss_one _ _ _ (@ps_ret _ _ _ _ (@pe_tup _ _ _ _ _ (@pa_c _ _ _ _ _ rfl (pe_op op_add (pv 4) (pv 8)) (@pa_c _ _ _ _ _ rfl pe_non pa_nil))))) pss_nil)
      (@pss_one _ _ _ (@ps_setE _ _ _ _ _ _ 3 scCo.nd rfl (Or.inl rfl) (pe_callB (call_min2 rfl) rfl T.min PyProof.Rows.boot_min (@pa_c _ _ _ _ _ rfl (pv 2) (@pa_c _ _ _ _ _ rfl (pe_op op_add (pv 3) (pe_op op_mul (pv 7) (pe_op op_sub (pv 1) (pv 6)))) pa_nil))) (by kernel_rfl) (.inl rfl)))))))
      (@pss_one _ _ _ (@ps_ret _ _ _ _ (@pe_tup _ _ _ _ _ (@pa_c _ _ _ _ _ rfl pe_non (@pa_c _ _ _ _ _ rfl (pv 3) pa_nil))))))), ?_⟩
    refine ⟨_, rfl, ?_⟩
    refine ⟨_, rfl, a, rfl, ⟨_, .inl (.inl A.l)⟩, for_list (K := K) (a := a) (xs := ys) (fun i σ H4 => H4 = H ∧ ∃ (v4 v5 v6 v7 v8 : Option V), σ = [some (.ref a), some (.int P), some (.int cap), some (.int (cap - EF 0 (tk P (d.take i)))), v4, v5, v6, v7, v8] ∧ fl cap 0 (tk P (d.take i)) = none) ⟨rfl, _, _, _, _, _, by show _ = [_, _, _, some (V.int (cap - 0)), _, _, _, _, _]; rw [Int.sub_zero]; rfl, rfl⟩ (fun i σ H4 _ h => by rw [h.1]; exact .inl (.inl A.l)) ?_ ?_⟩
    · rintro i y σ H4 hi ⟨rfl, v4, v5, v6, v7, v8, rfl, hf⟩
      obtain ⟨x, T0, hx, hxd, rfl, hT⟩ := A.at hi
      obtain ⟨e1, e2⟩ := split_at hx
      obtain ⟨g1, g2⟩ := c.at P e1
      have bx := bd x hxd
      have hc : ((cnt x : Nat) : Int) = x.2.1 - x.1 := by unfold cnt; omega
      have he0 : 0 ≤ EF 0 (tk P (d.take i)) := EF_nn _ (Int.le_refl 0)
      have he1 : EF 0 (tk P (d.take i)) ≤ cap := fl_none_le _ hc0 hc0 hf
      obtain ⟨k1, k2, k3, k4⟩ := good_ok (x := x.2.2 - P) (cnt x) he0 he1
      have hg := gd_good cap (EF 0 (tk P (d.take i))) P x.2.2 (cnt x)
      rw [hc] at hg
      refine ⟨T0, _, rfl, .inl (.inl hT), rfl, _, _, rfl, _, _, rfl, _, _, rfl, rfl, ?_⟩
      refine ⟨_, rfl, _, rfl, _, _, rfl, rfl, ?_⟩
      refine ⟨_, rfl, _, rfl, _, rfl, _, _, rfl, rfl, _, rfl, _, _, _, rfl, by show -(P - x.2.2) < 2 ^ 200; omega, ?_⟩
      show gName 8 (V.int (gd (cap - EF 0 (tk P (d.take i))) (P - x.2.2) (x.2.1 - x.1))) _ _ _
      rw [hg]
      refine ⟨_, rfl, _, rfl, _, _, rfl, rfl, _, rfl, ?_⟩
      refine ite2 (fun h1 => ?_) (fun h1 => ?_)
      · have h1' : good cap (EF 0 (tk P (d.take i))) (x.2.2 - P) (cnt x) < (cnt x : Int) := by have := of_decide_eq_true h1; omega
        have hF : fl cap 0 (tk P d) = some ((good cap (EF 0 (tk P (d.take i))) (x.2.2 - P) (cnt x)).toNat + (tk P (d.take i)).length) := by
          conv => lhs; rw [e1]
          rw [tk_app, fl_app, hf]
          show Option.map _ (fl cap (EF 0 (tk P (d.take i))) (List.replicate (cnt x) (x.2.2 - P) ++ tk P (d.drop (i + 1)))) = _
          rw [fl_app, k3 h1']
          rfl
        refine ⟨_, rfl, _, rfl, _, _, rfl, rfl, by show 2 ≤ sizeLine; decide, fun p hp => q p _ (same_upd hp) ?_⟩
        rw [hF, upd_same]
        show some (HO.tup [V.int (x.1 + _), V.non]) = some (HO.tup [V.int _, V.non])
        congr 4
        omega
      · have h1' : ¬ good cap (EF 0 (tk P (d.take i))) (x.2.2 - P) (cnt x) < (cnt x : Int) := fun z => h1 (decide_eq_true (by omega))
        refine ⟨_, rfl, _, rfl, _, rfl, _, rfl, _, rfl, _, _, rfl, rfl, _, _, rfl, rfl, .inl ⟨by show -(2 ^ 64) < x.2.1 - x.1; omega, by show x.2.1 - x.1 < 2 ^ 64; omega⟩, _, _, rfl, rfl, _, _, rfl, ?_⟩
        refine ⟨rfl, some (.int x.1), some (.int x.2.1), some (.int x.2.2), some (.int (x.2.1 - x.1)), some (.int (good cap (EF 0 (tk P (d.take i))) (x.2.2 - P) (cnt x))), ?_, ?_⟩
        · have eE : EF 0 (tk P (d.take (i + 1))) = max 0 (EF 0 (tk P (d.take i)) + (x.2.1 - x.1) * (x.2.2 - P)) := by
            rw [e2, tk_snoc, EF_app, EF_rep _ _ he0, hc]
          have eM : (x.2.1 - x.1) * (P - x.2.2) = -((x.2.1 - x.1) * (x.2.2 - P)) := by rw [← Int.mul_neg, Int.neg_sub]
          have eT : (if cap - EF 0 (tk P (d.take i)) + (x.2.1 - x.1) * (P - x.2.2) < cap then cap - EF 0 (tk P (d.take i)) + (x.2.1 - x.1) * (P - x.2.2) else cap) = cap - EF 0 (tk P (d.take (i + 1))) := by
            rw [eE, eM]
            generalize (x.2.1 - x.1) * (x.2.2 - P) = z
            split <;> omega
          show [_, _, _, some (V.int (if cap - EF 0 (tk P (d.take i)) + (x.2.1 - x.1) * (P - x.2.2) < cap then cap - EF 0 (tk P (d.take i)) + (x.2.1 - x.1) * (P - x.2.2) else cap)), _, _, _, _, _] = _
          rw [eT]
        · rw [e2, tk_snoc, fl_app, hf]
          show Option.map _ (fl cap (EF 0 (tk P (d.take i))) (List.replicate (cnt x) (x.2.2 - P))) = none
          rw [k4 h1']
          rfl
    · rintro σ H4 ⟨rfl, v4, v5, v6, v7, v8, rfl, hf⟩
      rw [List.take_of_length_le (by rw [A.len]; exact Nat.le_refl _)] at hf ⊢
      refine ⟨_, rfl, by show 2 ≤ sizeLine; decide, fun p hp => q p _ (same_upd hp) ?_⟩
      rw [hf]
      exact upd_same
theorem scFi : FnScope ["draught", "pump", "cap"] ["draught", "pump", "cap"] (defScope sFi) := ⟨rfl, rfl, rfl, by decide +kernel, rfl, by decide +kernel, by decide +kernel⟩
theorem ok_Fi (N : Fns K mg fGt fCo fFi fLc fCa fLw fDn fDr fDg fPu fBy dGt dCo dFi dLc dCa dLw dDn dDr dDg dPu dBy) (T : Txt K mg) : FnOk P w K mg base CX0 3 fFi dFi ["draught", "pump", "cap"] spFi := by
  have GCo : FnOk P w K mg base CX0 2 fCo dCo ["draught", "pump", "cap"] spCo := ok_Co N T
  refine N.FFi.ok scFi (fun vs H Q E h => ?_) (fun cdv A outer s H vs Q E hr h => ?_)
  · obtain ⟨a, d, ys, P, cap, rfl, _⟩ := h
    rfl
  · obtain ⟨a, d, ys, P, cap, rfl, A, c, bd, hP, hc0, q⟩ := h
    have hrCo : Room 2 _ := hr.mono (by decide)
    refine ⟨_, (@pss_one _ _ _ (@ps_ret _ _ _ _ (@pe_ix _ _ _ _ _ _ _ (ix_tupK (K := K) rfl) (pe_call GCo hrCo rfl N.mCo N.FCo.kp N.bCo .nil pass0 (@pa_c _ _ _ _ _ rfl (pv 0) (@pa_c _ _ _ _ _ rfl (pv 1) (@pa_c _ _ _ _ _ rfl (pv 2) pa_nil)))) pe_int (fun _ _ => rfl)))), ?_⟩
    refine ⟨_, rfl, _, rfl, _, rfl, a, d, ys, P, cap, rfl, A, c, bd, hP, hc0, fun p H1 s1 hp => ?_⟩
    refine ⟨p, _, _, oV (fl cap 0 (tk P d)), rfl, rfl, .inl (.inl hp), ?_, q H1 s1⟩
    cases fl cap 0 (tk P d) with
    | none => exact atI_nat (j := 0) rfl
    | some t => exact atI_nat (j := 0) rfl
theorem sum_nn : ∀ {l : List Int}, (∀ n ∈ l, 0 ≤ n ∧ n ≤ 4398046511104) → 0 ≤ l.sum ∧ l.sum ≤ 4398046511104 * (l.length : Int)
  | [], _ => by simp
  | x :: r, h => by
    have ih := sum_nn fun y hy => h y (List.mem_cons_of_mem _ hy)
    have hx := h x (List.mem_cons_self ..)
    rw [List.sum_cons, List.length_cons]
    omega
theorem scPu : FnScope ["_law_script", "_law_draught_here", "_law_number", "_law_winds", "_law_way"] ["_law_script", "_law_draught_here"] (defScope sPu) := ⟨rfl, rfl, rfl, by decide +kernel, rfl, by decide +kernel, by decide +kernel⟩
theorem ok_Pu (N : Fns K mg fGt fCo fFi fLc fCa fLw fDn fDr fDg fPu fBy dGt dCo dFi dLc dCa dLw dDn dDr dDg dPu dBy) (T : Txt K mg) : FnOk P w K mg base CX0 2 fPu dPu ["_law_script", "_law_draught_here"] (spPu K) := by
  have GCa : FnOk P w K mg base CX0 1 fCa dCa ["_law_script", "_law_k"] (spCa K) := ok_Ca N T
  refine N.FPu.ok scPu (fun vs H Q E h => ?_) (fun cdv A outer s H vs Q E hr h => ?_)
  · obtain ⟨a, l, ns, d, ys, rfl, _⟩ := h
    rfl
  · obtain ⟨a, l, ns, d, ys, rfl, hS, A, hne, hlen, bd, q⟩ := h
    have hrCa : Room 1 _ := hr.mono (by decide)
    refine ⟨_, (@pss_cons _ _ _ _ _ (@ps_setE _ _ _ _ _ _ 2 scPu.nd rfl (Or.inl rfl) (pe_op op_fdiv (pe_op op_mod (pe_op op_mul (pe_call GCa hrCa rfl N.mCa N.FCa.kp N.bCa .nil pass0 (@pa_c _ _ _ _ _ rfl (pv 0) (@pa_c _ _ _ _ _ rfl pe_int pa_nil))) pe_int) pe_int) pe_int) (by kernel_rfl) (.inl rfl))
      (@pss_cons _ _ _ _ _ (@ps_setE _ _ _ _ _ _ 3 scPu.nd rfl (Or.inl rfl) (pe_callB call_sortedA rfl T.sorted PyProof.Rows.boot_sorted (@pa_c _ _ _ _ _ rfl (pe_comp rfl (compScope (osc := defScope sPu) (N := ["_law_script", "_law_draught_here", "_law_number", "_law_winds", "_law_way"]) rfl rfl (by decide +kernel)) (pi_list (pv 1)) (fun _ _ _ _ => pf_nil) (fun _ _ _ _ => (@pe_ix _ _ _ _ _ _ _ (ix_tupK (K := K) rfl) (pv 0) pe_int (fun _ _ => rfl)))) pa_nil)) (by kernel_rfl) (.inl rfl))
      (@pss_cons _ _ _ _ _ (@ps_setE _ _ _ _ _ _ 4 scPu.nd rfl (Or.inl rfl) (pe_op op_mod (pv 2) pe_int) (by kernel_rfl) (.inl rfl))
      (@pss_cons _ _ _ _ _ (@ps_if _ _ _ _ _ _ _ _ (pt_cmpR op_eq (pv 4) pe_int (nomark _)) (@pss_one _ _ _ (@ps_ret _ _ _ _ (pe_op op_mod (pe_op op_fdiv (pv 2) pe_int) pe_int))) pss_nil)
      (@pss_cons _ _ _ _ _ (@ps_if _ _ _ _ _ _ _ _ (pt_cmpR op_eq (pv 4) pe_int (nomark _)) (@pss_one _ _ _ (@ps_ret _ _ _ _ (@pe_ix _ _ _ _ _ _ _ ix_list (pv 3) (pe_op op_mod (pe_op op_fdiv (pv 2) pe_int) (pe_callB call_len_seq rfl T.len PySem.boot_len (@pa_c _ _ _ _ _ rfl (pv 3) pa_nil))) (fun _ _ => rfl)))) pss_nil)
      (@pss_cons _ _ _ _ _ (@ps_if _ _ _ _ _ _ _ _ (pt_cmpR op_eq (pv 4) pe_int (nomark _)) (@pss_one _ _ _ (@ps_ret _ _ _ _ (pe_op op_add (pe_op op_fdiv (pe_callB (call_sumB rfl) rfl T.sum PyProof.Rows.boot_sum (@pa_c _ _ _ _ _ rfl (pv 3) pa_nil)) (pe_callB call_len_seq rfl T.len PySem.boot_len (@pa_c _ _ _ _ _ rfl (pv 3) pa_nil))) (pe_op op_mod (pe_op op_fdiv (pv 2) pe_int) pe_int)))) pss_nil)
      (@pss_cons _ _ _ _ _ (@ps_if _ _ _ _ _ _ _ _ (pt_cmpR op_eq (pv 4) pe_int (nomark _)) (@pss_one _ _ _ (@ps_ret _ _ _ _ (pe_op op_add (@pe_ix _ _ _ _ _ _ _ ix_list (pv 3) (pe_un un_neg pe_int) (fun _ _ => rfl)) (pe_op op_mod (pe_op op_fdiv (pv 2) pe_int) pe_int)))) pss_nil)
      (@pss_one _ _ _ (@ps_ret _ _ _ _ (pe_op op_fdiv (pe_op op_add (@pe_ix _ _ _ _ _ _ _ ix_list (pv 3) pe_int (fun _ _ => rfl)) (@pe_ix _ _ _ _ _ _ _ ix_list (pv 3) (pe_un un_neg pe_int) (fun _ _ => rfl))) pe_int)))))))))), ?_⟩
    refine ⟨_, rfl, a, 0, ns, rfl, hS, fun c => ⟨_, _, rfl, rfl, .inr ⟨by decide, by decide⟩, _, _, rfl, rfl, (by show (0 : Int) < 2147483647; decide), _, _, rfl, rfl, ⟨by decide, by decide⟩, ?_⟩⟩
    have n0 : 0 ≤ c * 950706376 % 2147483647 / 8 ∧ c * 950706376 % 2147483647 / 8 < 2147483647 := by omega
    show gName 2 (V.int (c * 950706376 % 2147483647 / 8)) _ _ _
    generalize c * 950706376 % 2147483647 / 8 = num at n0
    refine ⟨_, rfl, l, rfl, ⟨_, .inl (.inl A.l)⟩, comp_sq (K := K) (xs := ys) (fun _ => true) (fun v => match v with | .ref T => (match H T with | some (.tup [_, _, w]) => w | _ => .non) | x => x) (.inl (.inl A.l)) (small1000 (by have := A.len; omega)) (fun x hx H' hs R k => k H' (Same.refl H')) (fun y hy _ H' hs R k => ?_) (fun D H2 hD hs hl => ?_)⟩
    · obtain ⟨i, hi⟩ := List.getElem?_of_mem hy
      obtain ⟨x, T0, hx, hxd, rfl, hT⟩ := A.at hi
      dsimp only at k
      rw [hT] at k
      exact ⟨_, rfl, T0, _, _, _, rfl, rfl, .inl (.inl (hs _ _ hT)), atI_nat (j := 2) rfl, k H' (Same.refl H')⟩
    have hl' : H2 D = some (.lst ((d.map fun x => x.2.2).map V.int)) := by
      rw [hl, List.filter_eq_self.mpr (fun _ _ => rfl)]
      congr 2
      have key : ∀ {d : Dr} {ys : List V}, Paired (fun x v => TupAt H (triV x) v) d ys → ys.map (fun v => match v with | V.ref T => (match H T with | some (HO.tup [_, _, w]) => w | _ => V.non) | x => x) = (d.map fun x => x.2.2).map V.int := fun {d ys} p => by
        induction p with
        | nil => rfl
        | @cons x v d ys h1 h2 ih =>
          obtain ⟨T0, rfl, hT⟩ := h1
          rw [List.map_cons, List.map_cons, List.map_cons, ih]
          congr 1
          dsimp only
          rw [hT]
      exact key A.p
    have hw : ∀ n ∈ d.map (fun x => x.2.2), (0 : Int) ≤ n ∧ n ≤ 4398046511104 := fun n hn => by
      obtain ⟨x, hx, rfl⟩ := List.mem_map.mp hn
      have := bd x hx
      omega
    have hwl : 0 < (d.map fun x => x.2.2).length ∧ (d.map fun x => x.2.2).length ≤ 110 := by
      rw [List.length_map]
      have : d.length ≠ 0 := fun z => hne (List.length_eq_zero_iff.mp z)
      omega
    generalize (d.map fun x => x.2.2) = ws at hl' hw hwl
    clear hl
    refine ⟨D, ws, rfl,   .inl (.inl hl'), fun p ms hp pm _ => ?_⟩
    have s3 := hs.trans (same_upd (o := HO.lst (ms.map V.int)) hp)
    have l3 : SqL K (upd H2 p (HO.lst (ms.map V.int))) p (ms.map V.int) := .inl (.inl upd_same)
    generalize upd H2 p (HO.lst (ms.map V.int)) = H3 at s3 l3 ⊢
    have hm : ∀ n ∈ ms, (0 : Int) ≤ n ∧ n ≤ 4398046511104 := fun n hn => hw n (pm.mem_iff.mp hn)
    have hml : 0 < ms.length ∧ ms.length ≤ 110 := by rw [pm.length_eq]; exact hwl
    clear hl' hw hwl hD hs hp pm
    have lst : ∃ ini z, ms = ini ++ [z] := ⟨ms.dropLast, ms.getLast (by intro e; rw [e] at hml; simp at hml), (List.dropLast_concat_getLast _).symm⟩
    have last : ∃ z, 0 ≤ z ∧ z ≤ 4398046511104 ∧ atI (ms.map V.int) (-1) = some (.int z) := by
      obtain ⟨ini, z, e⟩ := lst
      have := hm z (by rw [e]; simp)
      exact ⟨z, this.1, this.2, by rw [e, List.map_append]; exact at_last⟩
    obtain ⟨z1, z10, z11, hz1⟩ := last
    have hlm : (ms.map V.int).length = ms.length := List.length_map ..
    refine ⟨_, rfl, _, _, rfl, rfl, (by show (0 : Int) < 5; decide), ?_⟩
    refine ⟨_, rfl, rfl, _, rfl, ?_⟩
    refine ite2 (fun h1 => ?_) (fun h1 => ?_)
    · refine ⟨_, rfl, _, _, rfl, rfl, ⟨by decide, by decide⟩, _, _, rfl, rfl, (by show (0 : Int) < 9; decide), q _ _ s3 ?_ ?_⟩ <;> omega
    refine ⟨_, rfl, rfl, _, rfl, ?_⟩
    refine ite2 (fun h2 => ?_) (fun h2 => ?_)
    · have m0 := Int.emod_nonneg (num / 5) (show ((ms.map V.int).length : Int) ≠ 0 by omega)
      have m1 := Int.emod_lt_of_pos (num / 5) (show 0 < ((ms.map V.int).length : Int) by omega)
      obtain ⟨c2, _, hc2, hat⟩ := ints_at (ns := ms) (i := num / 5 % ((ms.map V.int).length : Int)) m0 (by omega)
      have := hm c2 hc2
      refine ⟨_, rfl, _, rfl, _, _, rfl, rfl, ⟨by decide, by decide⟩, _, rfl, p, _, rfl, .inl l3, _, _, rfl, rfl, (by show 0 < ((ms.map V.int).length : Int); omega), p, _, _, _, rfl, rfl, l3, hat, q _ _ s3 ?_ ?_⟩ <;> omega
    refine ⟨_, rfl, rfl, _, rfl, ?_⟩
    refine ite2 (fun h3 => ?_) (fun h3 => ?_)
    · have hsum := sum_nn hm
      have d0 : 0 ≤ ms.sum / ((ms.map V.int).length : Int) := Int.ediv_nonneg hsum.1 (by omega)
      have d1 : ms.sum / ((ms.map V.int).length : Int) ≤ ms.sum := Int.ediv_le_self _ hsum.1
      refine ⟨_, rfl, p, ms, rfl, l3, hm, by omega, _, rfl, p, _, rfl, .inl l3, _, _, rfl, rfl, ⟨by show 0 < ((ms.map V.int).length : Int); omega, by show ((ms.map V.int).length : Int) < 1073741824; omega⟩, _, rfl, _, _, rfl, rfl, ⟨by decide, by decide⟩, _, _, rfl, rfl, (by show (0 : Int) < 3; decide), _, _, rfl, rfl, q _ _ s3 ?_ ?_⟩ <;> omega
    refine ⟨_, rfl, rfl, _, rfl, ?_⟩
    refine ite2 (fun h4 => ?_) (fun h4 => ?_)
    · refine ⟨_, rfl, _, rfl, p, _, _, _, rfl, rfl, l3, hz1, _, rfl, _, _, rfl, rfl, ⟨by decide, by decide⟩, _, _, rfl, rfl, (by show (0 : Int) < 2; decide), _, _, rfl, rfl, q _ _ s3 ?_ ?_⟩ <;> omega
    · obtain ⟨c0, _, hc0, hat⟩ := ints_at (ns := ms) (i := 0) (by decide) (by omega)
      have := hm c0 hc0
      refine ⟨_, rfl, p, _, _, _, rfl, rfl, l3, hat, _, rfl, _, rfl, p, _, _, _, rfl, rfl, l3, hz1, _, _, rfl, rfl, _, _, rfl, rfl, ⟨by decide, by decide⟩, q _ _ s3 ?_ ?_⟩ <;> omega
theorem scBy : FnScope ["_law_draught_here", "_law_pump_here", "_law_first", "_law_behind", "_law_total", "_law_begin", "_law_end", "_law_wind"] ["_law_draught_here", "_law_pump_here", "_law_first", "_law_behind"] (defScope sBy) := ⟨rfl, rfl, rfl, by decide +kernel, rfl, by decide +kernel, by decide +kernel⟩
theorem ok_By (N : Fns K mg fGt fCo fFi fLc fCa fLw fDn fDr fDg fPu fBy dGt dCo dFi dLc dCa dLw dDn dDr dDg dPu dBy) (T : Txt K mg) : FnOk P w K mg base CX0 1 fBy dBy ["_law_draught_here", "_law_pump_here", "_law_first", "_law_behind"] spBy := by
  refine N.FBy.ok scBy (fun vs H Q E h => ?_) (fun cdv A outer s H vs Q E hr h => ?_)
  · obtain ⟨l, d, ys, P, f, b, rfl, _⟩ := h
    rfl
  · obtain ⟨l, d, ys, P, f, b, rfl, A, bd, hP0, hP1, q⟩ := h
    refine ⟨_, (@pss_cons _ _ _ _ _ (@ps_setE _ _ _ _ _ _ 4 scBy.nd rfl (Or.inl rfl) pe_int (by kernel_rfl) (.inl rfl))
      (@pss_cons _ _ _ _ _ (ps_for PassesOwn.never rfl (pi_list (pv 0)) (pg_tup rfl (pgs_cons (pg_name (i := 5) scBy.nd rfl (Or.inl rfl)) (pgs_cons (pg_name (i := 6) scBy.nd rfl (Or.inl rfl)) (pgs_cons (pg_name (i := 7) scBy.nd rfl (Or.inl rfl)) pgs_nil)))) (@pss_one _ _ _ (@ps_setE _ _ _ _ _ _ 4 scBy.nd rfl (Or.inl rfl) (pe_op op_add (pv 4) (pe_op op_mul (pe_op op_sub (pv 7) (pv 1)) (pe_callB (call_max2 rfl) rfl T.max PyProof.Rows.boot_max (@pa_c _ _ _ _ _ rfl pe_int (@pa_c _ _ _ _ _ rfl (pe_op op_sub (pe_callB (call_min2 rfl) rfl T.min PyProof.Rows.boot_min (@pa_c _ _ _ _ _ rfl (pv 6) (@pa_c _ _ _ _ _ rfl (pv 3) pa_nil))) (pe_callB (call_max2 rfl) rfl T.max PyProof.Rows.boot_max (@pa_c _ _ _ _ _ rfl (pv 5) (@pa_c _ _ _ _ _ rfl (pv 2) pa_nil)))) pa_nil))))) (by kernel_rfl) (.inl rfl))))
      (@pss_one _ _ _ (@ps_ret _ _ _ _ (pv 4))))), ?_⟩
    refine ⟨_, rfl, l, rfl, ⟨_, .inl (.inl A.l)⟩, for_list (K := K) (a := l) (xs := ys) (fun i σ H4 => H4 = H ∧ ∃ (v5 v6 v7 : Option V), σ = [some (.ref l), some (.int P), some (.int f), some (.int b), some (.int ((d.take i).map (byS P f b)).sum), v5, v6, v7]) ⟨rfl, _, _, _, rfl⟩ (fun i σ H4 _ h => by rw [h.1]; exact .inl (.inl A.l)) ?_ ?_⟩
    · rintro i y σ H4 hi ⟨rfl, v5, v6, v7, rfl⟩
      obtain ⟨x, T0, hx, hxd, rfl, hT⟩ := A.at hi
      obtain ⟨e1, e2⟩ := split_at hx
      have bx := bd x hxd
      refine ⟨T0, _, rfl, .inl (.inl hT), rfl, _, _, rfl, _, _, rfl, _, _, rfl, rfl, ?_⟩
      refine ⟨_, rfl, _, rfl, _, rfl, _, _, rfl, rfl, _, rfl, _, rfl, _, _, rfl, _, rfl, _, rfl, _, _, rfl, _, _, rfl, rfl, _, _, rfl, _, _, rfl, rfl, .inl ⟨by show -(2 ^ 64) < x.2.2 - P; omega, by show x.2.2 - P < 2 ^ 64; omega⟩, _, _, rfl, rfl, ?_⟩
      refine ⟨rfl, some (.int x.1), some (.int x.2.1), some (.int x.2.2), ?_⟩
      have e : byS P f b x = (x.2.2 - P) * (if (if b < x.2.1 then b else x.2.1) - (if f > x.1 then f else x.1) > 0 then (if b < x.2.1 then b else x.2.1) - (if f > x.1 then f else x.1) else 0) := by
        unfold byS ov
        congr 1
        split <;> split <;> split <;> omega
      rw [e2, List.map_append, List.sum_append, List.map_singleton, List.sum_singleton, e]
      rfl
    · rintro σ H4 ⟨rfl, v5, v6, v7, rfl⟩
      rw [List.take_of_length_le (by rw [A.len]; exact Nat.le_refl _)]
      exact ⟨_, rfl, q⟩
theorem cut_drop (vs : List V) (k : Nat) (h : k ≤ vs.length) : cutV vs (some (k : Int)) none = vs.drop k := by
  unfold cutV
  rw [HT.sIx_nat, HT.sIx_none, show min k vs.length = k by omega, List.take_of_length_le (by rw [List.length_drop]; exact Nat.le_refl _)]
theorem drAt_drop {H : Hp} {l : Addr} {d : Dr} {ys : List V} (A : DrAt H l d ys) (k : Nat) : Paired (fun x v => TupAt H (triV x) v) (d.drop k) (ys.drop k) := by
  have key : ∀ {d : Dr} {ys : List V}, Paired (fun x v => TupAt H (triV x) v) d ys → ∀ k, Paired (fun x v => TupAt H (triV x) v) (d.drop k) (ys.drop k) := fun {d ys} p => by
    induction p with
    | nil => intro k; rw [List.drop_nil, List.drop_nil]; exact .nil
    | cons a b ih =>
      intro k
      cases k with
      | zero => exact .cons a b
      | succ k => exact ih k
  exact key A.p k
theorem last_of {H : Hp} {l : Addr} {d : Dr} {ys : List V} (A : DrAt H l d ys) (c : Chain 0 d) (hne : d ≠ []) (P : Int) : ∃ x T, x ∈ d ∧ x.2.1 = ((tk P d).length : Int) ∧ H T = some (.tup (triV x)) ∧ atI ys (-1) = some (.ref T) := by
  have e : d = d.dropLast ++ [d.getLast hne] := (List.dropLast_concat_getLast _).symm
  have hl := c.len P e
  have hyn : ys ≠ [] := fun z => hne (List.length_eq_zero_iff.mp (by rw [A.len, z]; rfl))
  have ey : ys = ys.dropLast ++ [ys.getLast hyn] := (List.dropLast_concat_getLast _).symm
  have hn : ys.dropLast.length = d.dropLast.length := by rw [List.length_dropLast, List.length_dropLast, A.len]
  have hg : ys[d.dropLast.length]? = some (ys.getLast hyn) := by
    have hlt : ys.length - 1 < ys.length := by have := List.length_pos_iff.mpr hyn; omega
    rw [← hn, List.length_dropLast, List.getLast_eq_getElem, List.getElem?_eq_getElem hlt]
  obtain ⟨x, T, hx, hxd, ey2, hT⟩ := A.at hg
  have hx2 : x = d.getLast hne := by
    have hlt : d.length - 1 < d.length := by have := List.length_pos_iff.mpr hne; omega
    rw [List.length_dropLast, List.getElem?_eq_getElem hlt] at hx
    rw [List.getLast_eq_getElem]
    exact (Option.some.inj hx).symm
  refine ⟨x, T, hxd, by rw [hx2]; omega, hT, ?_⟩
  rw [ey, ey2]
  exact at_last
theorem scLaw : FnScope ["_law_script", "_law_draught_here", "_law_pump_here", "_law_cap", "_law_first", "_law_behind", "_law_one", "_law_more", "_law_k", "_law_total", "_law_begin", "_law_end", "_law_wind", "_law_lack"] ["_law_script"] (defScope sLaw) := ⟨rfl, rfl, rfl, by decide +kernel, rfl, by decide +kernel, by decide +kernel⟩
theorem ok_law {f : Addr} {fd : FuncData} (F : Fun K "law" "law" sLaw f fd) (T : Txt K mg) (N : Fns K mg fGt fCo fFi fLc fCa fLw fDn fDr fDg fPu fBy dGt dCo dFi dLc dCa dLw dDn dDr dDg dPu dBy) : FnOk P w K mg base CX0 4 f fd ["_law_script"] (spLaw K) := by
  have GLw : FnOk P w K mg base CX0 1 fLw dLw ["_law_found"] spWh := ok_Lw N T
  have GDg : FnOk P w K mg base CX0 2 fDg dDg ["_law_script", "_law_start", "_law_far"] (spDg K) := ok_Dg N T
  have GLc : FnOk P w K mg base CX0 1 fLc dLc ["draught", "pump"] spLc := ok_Lc N T
  have GPu : FnOk P w K mg base CX0 2 fPu dPu ["_law_script", "_law_draught_here"] (spPu K) := ok_Pu N T
  have GBy : FnOk P w K mg base CX0 1 fBy dBy ["_law_draught_here", "_law_pump_here", "_law_first", "_law_behind"] spBy := ok_By N T
  have GFi : FnOk P w K mg base CX0 3 fFi dFi ["draught", "pump", "cap"] spFi := ok_Fi N T
  refine F.ok scLaw (fun vs H Q E h => ?_) (fun cdv A outer s H vs Q E hr h => ?_)
  · obtain ⟨a, ns, rfl, _⟩ := h
    rfl
  · obtain ⟨a, ns, rfl, hS, hz, q⟩ := h
    have hrLw : Room 1 _ := hr.mono (by decide)
    have hrDg : Room 2 _ := hr.mono (by decide)
    have hrLc : Room 1 _ := hr.mono (by decide)
    have hrPu : Room 2 _ := hr.mono (by decide)
    have hrBy : Room 1 _ := hr.mono (by decide)
    have hrFi : Room 3 _ := hr.mono (by decide)
    refine ⟨_, (@pss_cons _ _ _ _ _ (@ps_setE _ _ _ _ _ _ 1 scLaw.nd rfl (Or.inl rfl) (pe_call GDg hrDg rfl N.mDg N.FDg.kp N.bDg .nil pass0 (@pa_c _ _ _ _ _ rfl (pv 0) (@pa_c _ _ _ _ _ rfl pe_int (@pa_c _ _ _ _ _ rfl pe_bl pa_nil)))) (by kernel_rfl) (.inl rfl))
      (@pss_cons _ _ _ _ _ (@ps_setE _ _ _ _ _ _ 2 scLaw.nd rfl (Or.inl rfl) (pe_call GPu hrPu rfl N.mPu N.FPu.kp N.bPu .nil pass0 (@pa_c _ _ _ _ _ rfl (pv 0) (@pa_c _ _ _ _ _ rfl (pv 1) pa_nil))) (by kernel_rfl) (.inl rfl))
      (@pss_cons _ _ _ _ _ (ps_asg (pe_call GLc hrLc rfl N.mLc N.FLc.kp N.bLc .nil pass0 (@pa_c _ _ _ _ _ rfl (pv 1) (@pa_c _ _ _ _ _ rfl (pv 2) pa_nil))) (pg_tup rfl (pgs_cons (pg_name (i := 3) scLaw.nd rfl (Or.inl rfl)) (pgs_cons (pg_name (i := 4) scLaw.nd rfl (Or.inl rfl)) (pgs_cons (pg_name (i := 5) scLaw.nd rfl (Or.inl rfl)) pgs_nil)))))
      (@pss_cons _ _ _ _ _ (ps_for PassesOwn.never rfl (pi_list (@pe_lst _ _ _ _ (@pa_c _ _ _ _ _ rfl (pv 3) (@pa_c _ _ _ _ _ rfl (pv 4) (@pa_c _ _ _ _ _ rfl (pv 5) pa_nil))))) (pg_name (i := 6) scLaw.nd rfl (Or.inl rfl)) (@pss_one _ _ _ (@ps_if _ _ _ _ _ _ _ _ (PW.pt (pw_or (pt_not (pt_val (pe_call GLw hrLw rfl N.mLw N.FLw.kp N.bLw .nil pass0 (@pa_c _ _ _ _ _ rfl (pv 6) pa_nil)))) (pw_or1 (pt_cmpR op_lt (pv 6) pe_int (nomark _))))) (@pss_one _ _ _ (@ps_ret _ _ _ _ pe_bl)) pss_nil)))
      (@pss_cons _ _ _ _ _ (ps_for PassesOwn.never rfl (pi_list (@pe_lst _ _ _ _ (@pa_c _ _ _ _ _ rfl pe_int (@pa_c _ _ _ _ _ rfl pe_int (@pa_c _ _ _ _ _ rfl (pe_op op_sub (pe_op op_pow pe_int pe_int) (pv 3)) pa_nil))))) (pg_name (i := 7) scLaw.nd rfl (Or.inl rfl)) (@pss_one _ _ _ (@ps_if _ _ _ _ _ _ _ _ (pt_cmpR op_notN (pe_call GFi hrFi rfl N.mFi N.FFi.kp N.bFi .nil pass0 (@pa_c _ _ _ _ _ rfl (pv 1) (@pa_c _ _ _ _ _ rfl (pv 2) (@pa_c _ _ _ _ _ rfl (pe_op op_add (pv 3) (pv 7)) pa_nil)))) pe_non (nomark _)) (@pss_one _ _ _ (@ps_ret _ _ _ _ pe_bl)) pss_nil)))
      (@pss_cons _ _ _ _ _ (ps_for PassesOwn.never rfl (pi_range1 rfl T.range (@pa_c _ _ _ _ _ rfl (pe_callB call_len_seq rfl T.len PySem.boot_len (@pa_c _ _ _ _ _ rfl (pv 1) pa_nil)) pa_nil)) (pg_name (i := 8) scLaw.nd rfl (Or.inl rfl)) (@pss_cons _ _ _ _ _ (@ps_setE _ _ _ _ _ _ 9 scLaw.nd rfl (Or.inl rfl) pe_int (by kernel_rfl) (.inl rfl))
      (@pss_one _ _ _ (ps_for PassesOwn.never rfl (pi_list (pe_slice sl_list (pv 1) (po_some (pv 8)) po_none)) (pg_tup rfl (pgs_cons (pg_name (i := 10) scLaw.nd rfl (Or.inl rfl)) (pgs_cons (pg_name (i := 11) scLaw.nd rfl (Or.inl rfl)) (pgs_cons (pg_name (i := 12) scLaw.nd rfl (Or.inl rfl)) pgs_nil)))) (@pss_cons _ _ _ _ _ (@ps_setE _ _ _ _ _ _ 9 scLaw.nd rfl (Or.inl rfl) (pe_op op_add (pv 9) (pe_op op_mul (pe_op op_sub (pv 12) (pv 2)) (pe_op op_sub (pv 11) (pv 10)))) (by kernel_rfl) (.inl rfl))
      (@pss_one _ _ _ (@ps_if _ _ _ _ _ _ _ _ (pt_cmpR op_gt (pv 9) (pv 3) (nomark _)) (@pss_one _ _ _ (@ps_ret _ _ _ _ pe_bl)) pss_nil)))))))
      (@pss_cons _ _ _ _ _ (@ps_if _ _ _ _ _ _ _ _ (pt_cmpR op_eq (pv 3) pe_int (nomark _)) (@pss_one _ _ _ (@ps_ret _ _ _ _ (pe_cmpR (op_eq_tup hr.units0) (@pe_tup _ _ _ _ _ (@pa_c _ _ _ _ _ rfl (pv 4) (@pa_c _ _ _ _ _ rfl (pv 5) pa_nil))) (@pe_tup _ _ _ _ _ (@pa_c _ _ _ _ _ rfl pe_int (@pa_c _ _ _ _ _ rfl pe_int pa_nil))) (nomark _)))) pss_nil)
      (@pss_cons _ _ _ _ _ (@ps_if _ _ _ _ _ _ _ _ (PW.pt (pw_or (pt_not (pt_chain op_lt op_le (pv 4) (pv 5) (@pe_ix _ _ _ _ _ _ _ (ix_tupK (K := K) rfl) (@pe_ix _ _ _ _ _ _ _ ix_list (pv 1) (pe_un un_neg pe_int) (fun _ _ => rfl)) pe_int (fun _ _ => rfl)))) (pw_or1 (pt_cmpR op_ne (pe_call GBy hrBy rfl N.mBy N.FBy.kp N.bBy .nil pass0 (@pa_c _ _ _ _ _ rfl (pv 1) (@pa_c _ _ _ _ _ rfl (pv 2) (@pa_c _ _ _ _ _ rfl (pv 4) (@pa_c _ _ _ _ _ rfl (pv 5) pa_nil))))) (pv 3) (nomark _))))) (@pss_one _ _ _ (@ps_ret _ _ _ _ pe_bl)) pss_nil)
      (@pss_cons _ _ _ _ _ (@ps_setE _ _ _ _ _ _ 13 scLaw.nd rfl (Or.inl rfl) (pe_call GFi hrFi rfl N.mFi N.FFi.kp N.bFi .nil pass0 (@pa_c _ _ _ _ _ rfl (pv 1) (@pa_c _ _ _ _ _ rfl (pv 2) (@pa_c _ _ _ _ _ rfl (pe_op op_sub (pv 3) pe_int) pa_nil)))) (by kernel_rfl) (.inl rfl))
      (@pss_one _ _ _ (@ps_ret _ _ _ _ (pe_and (pe_cmpR op_notN (pv 13) pe_non (nomark _)) (pe_and (pe_cmpR op_lt (pv 13) (pv 5) (nomark _)) (pe_one (pe_cmpR op_notN (pe_call GFi hrFi rfl N.mFi N.FFi.kp N.bFi .nil pass0 (@pa_c _ _ _ _ _ rfl (pv 1) (@pa_c _ _ _ _ _ rfl (pv 2) (@pa_c _ _ _ _ _ rfl (pe_op op_fdiv (pv 3) pe_int) pa_nil)))) pe_non (nomark _)))))))))))))))), ?_⟩
    refine ⟨_, rfl, a, 1, true, ns, rfl, hS, hz, fun l ys d H1 s1 A1 c1 hne hlen bd bs => ?_⟩
    clear bs
    refine ⟨_, rfl, _, rfl, a, l, ns, d, ys, rfl, s1.seq hS, A1, hne, hlen, bd, fun P H2 s2 P0 P1 => ?_⟩
    have A2 := A1.mono s2
    refine ⟨_, rfl, _, rfl, l, d, ys, P, rfl, A2, c1, bd, by omega, fun pb b0 b1 b2 tkn sin H3 s3 hpb L => ?_⟩
    have A3 := A2.mono s3
    have nb := L.nn
    have hb : 0 ≤ b1 ∧ 0 ≤ b2 := by
      rcases L.b with h | h
      · omega
      · omega
    refine ⟨pb, _, rfl, .inl (.inl hpb), rfl, _, _, rfl, _, _, rfl, _, _, rfl, rfl, ?_⟩
    refine ⟨_, rfl, _, rfl, _, rfl, by show 3 ≤ sizeLine; decide, fun p4 hp4 => ?_⟩
    have s4 := same_upd (o := HO.lst [V.int b0, V.int b1, V.int b2]) hp4
    have l4 : SqL K (upd H3 p4 (HO.lst [V.int b0, V.int b1, V.int b2])) p4 [V.int b0, V.int b1, V.int b2] := .inl (.inl upd_same)
    have A4 := A3.mono s4
    generalize upd H3 p4 (HO.lst [V.int b0, V.int b1, V.int b2]) = H4 at s4 l4 A4 ⊢
    refine ⟨p4, rfl, ⟨_, l4⟩, for_list (K := K) (a := p4) (xs := [V.int b0, V.int b1, V.int b2]) (fun i σ H5 => H5 = H4 ∧ ∃ (v6 : Option V), σ = [some (.ref a), some (.ref l), some (.int P), some (.int b0), some (.int b1), some (.int b2), v6, none, none, none, none, none, none, none]) ⟨rfl, _, rfl⟩ (fun i σ H5 _ h => by rw [h.1]; exact l4) ?_ ?_⟩
    · rintro i y σ H5 hi ⟨rfl, v6, rfl⟩
      have hy : ∃ z, y = V.int z ∧ 0 ≤ z := by
        have := List.mem_of_getElem? hi
        simp only [List.mem_cons, List.not_mem_nil, or_false] at this
        rcases this with h | h | h
        · exact ⟨_, h, nb⟩
        · exact ⟨_, h, hb.1⟩
        · exact ⟨_, h, hb.2⟩
      obtain ⟨z, rfl, hz0⟩ := hy
      exact ⟨_, rfl, _, true, rfl, .inl ⟨_, rfl, rfl⟩, _, rfl, iteF ⟨_, rfl, _, _, rfl, rfl, _, rfl, iteND (by omega) ⟨rfl, _, rfl⟩⟩⟩
    rintro σ H5 ⟨rfl, v6, rfl⟩
    refine ⟨_, _, rfl, rfl, ⟨by decide, by decide, by decide⟩, _, rfl, _, _, rfl, rfl, by show 3 ≤ sizeLine; decide, fun p6 hp6 => ?_⟩
    have s6 := same_upd (o := HO.lst [V.int 0, V.int 1, V.int (10 ^ (30 : Int).toNat - b0)]) hp6
    have l6 : upd H5 p6 (HO.lst [V.int 0, V.int 1, V.int (10 ^ (30 : Int).toNat - b0)]) p6 = some (.lst [V.int 0, V.int 1, V.int (10 ^ (30 : Int).toNat - b0)]) := upd_same
    have A6 := A4.mono s6
    generalize upd H5 p6 (HO.lst [V.int 0, V.int 1, V.int (10 ^ (30 : Int).toNat - b0)]) = H6 at s6 l6 A6 ⊢
    have big : b0 ≤ 10 ^ (30 : Int).toNat := lc_big P0 hlen bd L
    refine ⟨p6, rfl, ⟨_, .inl (.inl l6)⟩, for_list (K := K) (a := p6) (xs := [V.int 0, V.int 1, V.int (10 ^ (30 : Int).toNat - b0)]) (fun i σ H7 => Same H6 H7 ∧ ∃ (v6 v7 : Option V), σ = [some (.ref a), some (.ref l), some (.int P), some (.int b0), some (.int b1), some (.int b2), v6, v7, none, none, none, none, none, none]) ⟨Same.refl _, _, _, rfl⟩ (fun i σ H7 _ h => .inl (.inl (h.1 _ _ l6))) ?_ ?_⟩
    · rintro i y σ H7 hi ⟨s7, v6, v7, rfl⟩
      have hy : ∃ z, y = V.int z ∧ 0 ≤ z := by
        have := List.mem_of_getElem? hi
        simp only [List.mem_cons, List.not_mem_nil, or_false] at this
        rcases this with h | h | h
        · exact ⟨_, h, by decide⟩
        · exact ⟨_, h, by decide⟩
        · exact ⟨_, h, by omega⟩
      obtain ⟨z, rfl, hz0⟩ := hy
      refine ⟨_, rfl, _, rfl, _, rfl, _, rfl, _, _, rfl, rfl, l, d, ys, P, _, rfl, A6.mono s7, c1, bd, P0, by show 0 ≤ b0 + z; omega, fun H8 s8 => ?_⟩
      rw [fl_enough L.le (show 0 ≤ b0 + z by omega) (by omega)]
      exact ⟨rfl, _, rfl, iteNS rfl ⟨s7.trans s8, _, _, rfl⟩⟩
    rintro σ H7 ⟨s7, v6, v7, rfl⟩
    have A7 := A6.mono s7
    have hyl : ys.length ≤ 110 := by have := A7.len; omega
    refine ⟨_, rfl, l, _, rfl, .inl (.inl (.inl A7.l)), _, rfl, by omega, by omega, for_range (lo := 0) (n := ((ys.length : Nat) : Int).toNat) (fun i σ H8 => Same H7 H8 ∧ ∃ (v8 v9 v10 v11 v12 : Option V), σ = [some (.ref a), some (.ref l), some (.int P), some (.int b0), some (.int b1), some (.int b2), v6, v7, v8, v9, v10, v11, v12, none]) ⟨Same.refl _, _, _, _, _, _, rfl⟩ ?_ ?_⟩
    · rintro k σ H8 hk ⟨s8, v8, v9, v10, v11, v12, rfl⟩
      have A8 := A7.mono s8
      have ek : ((0 : Int) + (k : Int)) = ((k : Nat) : Int) := by omega
      refine ⟨_, rfl, _, rfl, _, rfl, l, _, rfl, .inl (.inl A8.l), fun p9 hp9 => ?_⟩
      rw [ek, cut_drop ys k (by omega)]
      have s9 := same_upd (o := HO.lst (ys.drop k)) hp9
      have A9 : DrAt (upd H8 p9 (HO.lst (ys.drop k))) p9 (d.drop k) (ys.drop k) := ⟨upd_same, paired_mono s9 (drAt_drop A8 k)⟩
      generalize upd H8 p9 (HO.lst (ys.drop k)) = H9 at s9 A9 ⊢
      refine ⟨p9, rfl, ⟨_, .inl (.inl A9.l)⟩, for_list (K := K) (a := p9) (xs := ys.drop k) (fun j σ H10 => H10 = H9 ∧ ∃ (v10 v11 v12 : Option V), σ = [some (.ref a), some (.ref l), some (.int P), some (.int b0), some (.int b1), some (.int b2), v6, v7, some (.int ((k : Nat) : Int)), some (.int (tk P ((d.drop k).take j)).sum), v10, v11, v12, none]) ⟨rfl, _, _, _, rfl⟩ (fun j σ H10 _ h => by rw [h.1]; exact .inl (.inl A9.l)) ?_ ?_⟩
      · rintro j y σ H10 hj ⟨rfl, v10, v11, v12, rfl⟩
        obtain ⟨x, T0, hx, hxd, rfl, hT⟩ := A9.at hj
        obtain ⟨e1, e2⟩ := split_at hx
        have hxd' : x ∈ d := List.mem_of_mem_drop hxd
        have bx := bd x hxd'
        have hx1 : x.1 ≤ x.2.1 := by
          obtain ⟨a1, b1', e3⟩ := List.append_of_mem hxd'
          have := (c1.at P e3).2
          omega
        refine ⟨T0, _, rfl, .inl (.inl hT), rfl, _, _, rfl, _, _, rfl, _, _, rfl, rfl, ?_⟩
        refine ⟨_, rfl, _, rfl, _, rfl, _, _, rfl, rfl, _, rfl, _, rfl, _, _, rfl, rfl, _, _, rfl, rfl, .inl ⟨by show -(2 ^ 64) < x.2.2 - P; omega, by show x.2.2 - P < 2 ^ 64; omega⟩, _, _, rfl, rfl, ?_⟩
        have eS : (tk P ((d.drop k).take j)).sum + (x.2.2 - P) * (x.2.1 - x.1) = (tk P ((d.drop k).take (j + 1))).sum := by
          rw [e2, tk_snoc, List.sum_append, tk_sum1 P hx1]
        have hle := lc_all L k (j + 1)
        show gName 9 (V.int ((tk P ((d.drop k).take j)).sum + (x.2.2 - P) * (x.2.1 - x.1))) _ _ _
        rw [eS]
        exact ⟨_, rfl, _, rfl, _, _, rfl, rfl, _, rfl, iteND (by omega) ⟨rfl, _, _, _, rfl⟩⟩
      · rintro σ H10 ⟨rfl, v10, v11, v12, rfl⟩
        exact ⟨s8.trans s9, _, _, _, _, _, rfl⟩
    rintro σ H8 ⟨s8, v8, v9, v10, v11, v12, rfl⟩
    have A8 := A7.mono s8
    refine ⟨_, rfl, rfl, _, rfl, ?_⟩
    refine ite2 (fun h1 => ?_) (fun h1 => ?_)
    · have e0 : b0 = 0 := V.int.inj (of_decide_eq_true h1)
      obtain ⟨e1, e2⟩ : b1 = 0 ∧ b2 = 0 := by
        rcases L.b with h | h
        · exact ⟨h.2.1, h.2.2⟩
        · omega
      subst e1
      subst e2
      refine ⟨_, rfl, _, rfl, by show 2 ≤ sizeLine; decide, fun t1 ht1 => ⟨by show 2 ≤ sizeLine; decide, fun t2 ht2 => ?_⟩⟩
      have s9 := same_upd (o := HO.tup [V.int 0, V.int 0]) ht2
      exact ⟨t1, t2, _, _, rfl, rfl, .inl (.inl (s9 _ _ upd_same)), .inl (.inl upd_same), rfl, rfl, q _⟩
    · have hne0 : b0 ≠ 0 := fun z => h1 (by rw [z]; rfl)
      obtain ⟨g1, g2, g3, g4, g5, g6⟩ : 0 < b0 ∧ 0 ≤ b1 ∧ b1 < b2 ∧ b2 ≤ (tk P d).length ∧ b0 = ((tk P d).take b2.toNat).sum - ((tk P d).take b1.toNat).sum ∧ EF 0 ((tk P d).take b2.toNat) = b0 := by
        rcases L.b with h | h
        · exact absurd h.1 hne0
        · exact h
      obtain ⟨x, T0, hxd, hx2, hT, hat⟩ := last_of A8 c1 hne P
      refine ⟨_, rfl, _, rfl, _, _, rfl, rfl, _, rfl, iteD g3 ⟨_, rfl, _, rfl, l, _, _, _, rfl, rfl, .inl (.inl A8.l), hat, T0, _, _, _, rfl, rfl, .inl (.inl hT), atI_nat (j := 1) rfl, _, _, rfl, rfl, _, rfl, ?_⟩⟩
      have e9 : decide (b2 ≤ x.2.1) = true := decide_eq_true (by omega)
      rw [e9]
      refine iteF ?_
      refine ⟨_, rfl, _, rfl, _, rfl, _, rfl, l, d, ys, P, b1, b2, rfl, A8, bd, P0, P1, _, rfl, rfl, _, rfl, ?_⟩
      have eb := by_ok P b1 b2 (by omega) c1
      rw [Int.sub_zero, Int.sub_zero, ← g5] at eb
      refine iteNS (by rw [eb]) ?_
      refine ⟨_, rfl, _, rfl, _, rfl, _, _, rfl, rfl, l, d, ys, P, _, rfl, A8, c1, bd, P0, by show 0 ≤ b0 - 1; omega, fun H9 s9 => ?_⟩
      obtain ⟨t, ht, htb⟩ := fl_less (W := tk P d) (cap := b0 - 1) (by omega) (b := b2.toNat) (by omega) (by show b0 - 1 < EF 0 ((tk P d).take b2.toNat); omega)
      rw [ht]
      refine ⟨_, rfl, rfl, _, rfl, iteT ⟨_, rfl, _, rfl, _, _, rfl, rfl, _, rfl, iteD (by omega) ?_⟩⟩
      refine ⟨_, rfl, _, rfl, _, rfl, _, _, rfl, rfl, ⟨by decide, by decide⟩, l, d, ys, P, _, rfl, A8.mono s9, c1, bd, P0, by show 0 ≤ b0 / 2; omega, fun H10 s10 => ?_⟩
      obtain ⟨t2, ht2, htb2⟩ := fl_less (W := tk P d) (cap := b0 / 2) (by omega) (b := b2.toNat) (by omega) (by show b0 / 2 < EF 0 ((tk P d).take b2.toNat); omega)
      rw [ht2]
      exact ⟨rfl, q _⟩
end
end K73

end PartK73

section PartK73z
set_option maxHeartbeats 4000000
namespace K73
open PySem L2 Og Bw
theorem all_mk {l : PySem.W.OpenLaw} {w : World} {K : PySem.W.Frag} {h : Heap} {mg : Str → Option Value} {fa : Addr} (X : K.In h) (G : h.Ns mainGlobals mg) (hfa : mg "law" = some (.ref fa))
    {fGt fCo fFi fLc fCa fLw fDn fDr fDg fPu fBy fZ : Addr} {odGt anGt odCo anCo odFi anFi odLc anLc odCa anCa odLw anLw odDn anDn odDr anDr odDg anDg odPu anPu odBy anBy odZ anZ : Option Addr} {slGt slCo slFi slLc slCa slLw slDn slDr slDg slPu slBy slZ : Array (Option Value)} {ocGt kVGt dcGt pmGt cdGt ctGt ocCo kVCo dcCo pmCo cdCo ctCo ocFi kVFi dcFi pmFi cdFi ctFi ocLc kVLc dcLc pmLc cdLc ctLc ocCa kVCa dcCa pmCa cdCa ctCa ocLw kVLw dcLw pmLw cdLw ctLw ocDn kVDn dcDn pmDn cdDn ctDn ocDr kVDr dcDr pmDr cdDr ctDr ocDg kVDg dcDg pmDg cdDg ctDg ocPu kVPu dcPu pmPu cdPu ctPu ocBy kVBy dcBy pmBy cdBy ctBy ocZ kVZ dcZ pmZ cdZ ctZ : Value}
    (aGt : PySem.W.nsIn K mainGlobals "good_ticks" = some (some (.ref fGt)))
    (lGt : K.lookup fGt = some ⟨ocGt, odGt, .func (PySem.W.fnOf "good_ticks" "good_ticks" (defArgs sGt) (defBody sGt) (defScope sGt) .none kVGt dcGt pmGt anGt cdGt ctGt), slGt⟩) (cGt : PySem.W.codeIn K cdGt "good_ticks" = true) (kGt : PySem.W.keepIn K (.ref fGt) = true)
    (aCo : PySem.W.nsIn K mainGlobals "course_of" = some (some (.ref fCo)))
    (lCo : K.lookup fCo = some ⟨ocCo, odCo, .func (PySem.W.fnOf "course_of" "course_of" (defArgs sCo) (defBody sCo) (defScope sCo) .none kVCo dcCo pmCo anCo cdCo ctCo), slCo⟩) (cCo : PySem.W.codeIn K cdCo "course_of" = true) (kCo : PySem.W.keepIn K (.ref fCo) = true)
    (aFi : PySem.W.nsIn K mainGlobals "first_lack" = some (some (.ref fFi)))
    (lFi : K.lookup fFi = some ⟨ocFi, odFi, .func (PySem.W.fnOf "first_lack" "first_lack" (defArgs sFi) (defBody sFi) (defScope sFi) .none kVFi dcFi pmFi anFi cdFi ctFi), slFi⟩) (cFi : PySem.W.codeIn K cdFi "first_lack" = true) (kFi : PySem.W.keepIn K (.ref fFi) = true)
    (aLc : PySem.W.nsIn K mainGlobals "least_cap" = some (some (.ref fLc)))
    (lLc : K.lookup fLc = some ⟨ocLc, odLc, .func (PySem.W.fnOf "least_cap" "least_cap" (defArgs sLc) (defBody sLc) (defScope sLc) .none kVLc dcLc pmLc anLc cdLc ctLc), slLc⟩) (cLc : PySem.W.codeIn K cdLc "least_cap" = true) (kLc : PySem.W.keepIn K (.ref fLc) = true)
    (aCa : PySem.W.nsIn K mainGlobals "_law_cell_at" = some (some (.ref fCa)))
    (lCa : K.lookup fCa = some ⟨ocCa, odCa, .func (PySem.W.fnOf "_law_cell_at" "_law_cell_at" (defArgs sCa) (defBody sCa) (defScope sCa) .none kVCa dcCa pmCa anCa cdCa ctCa), slCa⟩) (cCa : PySem.W.codeIn K cdCa "_law_cell_at" = true) (kCa : PySem.W.keepIn K (.ref fCa) = true)
    (aLw : PySem.W.nsIn K mainGlobals "_law_whole" = some (some (.ref fLw)))
    (lLw : K.lookup fLw = some ⟨ocLw, odLw, .func (PySem.W.fnOf "_law_whole" "_law_whole" (defArgs sLw) (defBody sLw) (defScope sLw) .none kVLw dcLw pmLw anLw cdLw ctLw), slLw⟩) (cLw : PySem.W.codeIn K cdLw "_law_whole" = true) (kLw : PySem.W.keepIn K (.ref fLw) = true)
    (aDn : PySem.W.nsIn K mainGlobals "_law_drawn" = some (some (.ref fDn)))
    (lDn : K.lookup fDn = some ⟨ocDn, odDn, .func (PySem.W.fnOf "_law_drawn" "_law_drawn" (defArgs sDn) (defBody sDn) (defScope sDn) .none kVDn dcDn pmDn anDn cdDn ctDn), slDn⟩) (cDn : PySem.W.codeIn K cdDn "_law_drawn" = true) (kDn : PySem.W.keepIn K (.ref fDn) = true)
    (aDr : PySem.W.nsIn K mainGlobals "_law_draw" = some (some (.ref fDr)))
    (lDr : K.lookup fDr = some ⟨ocDr, odDr, .func (PySem.W.fnOf "_law_draw" "_law_draw" (defArgs sDr) (defBody sDr) (defScope sDr) .none kVDr dcDr pmDr anDr cdDr ctDr), slDr⟩) (cDr : PySem.W.codeIn K cdDr "_law_draw" = true) (kDr : PySem.W.keepIn K (.ref fDr) = true)
    (aDg : PySem.W.nsIn K mainGlobals "_law_draught" = some (some (.ref fDg)))
    (lDg : K.lookup fDg = some ⟨ocDg, odDg, .func (PySem.W.fnOf "_law_draught" "_law_draught" (defArgs sDg) (defBody sDg) (defScope sDg) .none kVDg dcDg pmDg anDg cdDg ctDg), slDg⟩) (cDg : PySem.W.codeIn K cdDg "_law_draught" = true) (kDg : PySem.W.keepIn K (.ref fDg) = true)
    (aPu : PySem.W.nsIn K mainGlobals "_law_pump" = some (some (.ref fPu)))
    (lPu : K.lookup fPu = some ⟨ocPu, odPu, .func (PySem.W.fnOf "_law_pump" "_law_pump" (defArgs sPu) (defBody sPu) (defScope sPu) .none kVPu dcPu pmPu anPu cdPu ctPu), slPu⟩) (cPu : PySem.W.codeIn K cdPu "_law_pump" = true) (kPu : PySem.W.keepIn K (.ref fPu) = true)
    (aBy : PySem.W.nsIn K mainGlobals "_law_beyond" = some (some (.ref fBy)))
    (lBy : K.lookup fBy = some ⟨ocBy, odBy, .func (PySem.W.fnOf "_law_beyond" "_law_beyond" (defArgs sBy) (defBody sBy) (defScope sBy) .none kVBy dcBy pmBy anBy cdBy ctBy), slBy⟩) (cBy : PySem.W.codeIn K cdBy "_law_beyond" = true) (kBy : PySem.W.keepIn K (.ref fBy) = true)
    (aZ : PySem.W.nsIn K mainGlobals "law" = some (some (.ref fZ)))
    (lZ : K.lookup fZ = some ⟨ocZ, odZ, .func (PySem.W.fnOf "law" "law" (defArgs sLaw) (defBody sLaw) (defScope sLaw) .none kVZ dcZ pmZ anZ cdZ ctZ), slZ⟩) (cZ : PySem.W.codeIn K cdZ "law" = true) (kZ : PySem.W.keepIn K (.ref fZ) = true)
    (zlen : PySem.W.nsIn K mainGlobals "len" = some none)
    (zisinstance : PySem.W.nsIn K mainGlobals "isinstance" = some none)
    (zint : PySem.W.nsIn K mainGlobals "int" = some none)
    (zbool : PySem.W.nsIn K mainGlobals "bool" = some none)
    (zrange : PySem.W.nsIn K mainGlobals "range" = some none)
    (zabs : PySem.W.nsIn K mainGlobals "abs" = some none)
    (zmax : PySem.W.nsIn K mainGlobals "max" = some none)
    (zmin : PySem.W.nsIn K mainGlobals "min" = some none)
    (zsorted : PySem.W.nsIn K mainGlobals "sorted" = some none)
    (zsum : PySem.W.nsIn K mainGlobals "sum" = some none)
    : ∃ fd : FuncData, (∀ (s : Shared) (v : Value), BindsTo s fd ⟨[v], []⟩ [("_law_script", v)]) ∧ ∀ base : Heap, K.In base → base.Ns mainGlobals mg → FnOk l.prog w K mg base CX0 4 fa fd ["_law_script"] (spLaw K) := by
  have e := hfa.symm.trans (PySem.W.mg_of X G aZ)
  cases e
  have FGt := fun_mk (st := sGt) lGt cGt kGt
  have FCo := fun_mk (st := sCo) lCo cCo kCo
  have FFi := fun_mk (st := sFi) lFi cFi kFi
  have FLc := fun_mk (st := sLc) lLc cLc kLc
  have FCa := fun_mk (st := sCa) lCa cCa kCa
  have FLw := fun_mk (st := sLw) lLw cLw kLw
  have FDn := fun_mk (st := sDn) lDn cDn kDn
  have FDr := fun_mk (st := sDr) lDr cDr kDr
  have FDg := fun_mk (st := sDg) lDg cDg kDg
  have FPu := fun_mk (st := sPu) lPu cPu kPu
  have FBy := fun_mk (st := sBy) lBy cBy kBy
  have FZ := fun_mk (st := sLaw) lZ cZ kZ
  have bGt := FGt.binds (ps := ["there", "rise", "count"]) fun _ _ _ _ _ _ us hl => match us, hl with | [_, _, _], _ => rfl
  have bCo := FCo.binds (ps := ["draught", "pump", "cap"]) fun _ _ _ _ _ _ us hl => match us, hl with | [_, _, _], _ => rfl
  have bFi := FFi.binds (ps := ["draught", "pump", "cap"]) fun _ _ _ _ _ _ us hl => match us, hl with | [_, _, _], _ => rfl
  have bLc := FLc.binds (ps := ["draught", "pump"]) fun _ _ _ _ _ _ us hl => match us, hl with | [_, _], _ => rfl
  have bCa := FCa.binds (ps := ["_law_script", "_law_k"]) fun _ _ _ _ _ _ us hl => match us, hl with | [_, _], _ => rfl
  have bLw := FLw.binds (ps := ["_law_found"]) fun _ _ _ _ _ _ us hl => match us, hl with | [_], _ => rfl
  have bDn := FDn.binds (ps := ["_law_script", "_law_start"]) fun _ _ _ _ _ _ us hl => match us, hl with | [_, _], _ => rfl
  have bDr := FDr.binds (ps := ["_law_drawn_here", "_law_many"]) fun _ _ _ _ _ _ us hl => match us, hl with | [_, _], _ => rfl
  have bDg := FDg.binds (ps := ["_law_script", "_law_start", "_law_far"]) fun _ _ _ _ _ _ us hl => match us, hl with | [_, _, _], _ => rfl
  have bPu := FPu.binds (ps := ["_law_script", "_law_draught_here"]) fun _ _ _ _ _ _ us hl => match us, hl with | [_, _], _ => rfl
  have bBy := FBy.binds (ps := ["_law_draught_here", "_law_pump_here", "_law_first", "_law_behind"]) fun _ _ _ _ _ _ us hl => match us, hl with | [_, _, _, _], _ => rfl
  have T : Txt K mg := ⟨PySem.W.mg_none_of X G zlen, PySem.W.mg_none_of X G zisinstance, PySem.W.mg_none_of X G zint, PySem.W.mg_none_of X G zbool, PySem.W.mg_none_of X G zrange, PySem.W.mg_none_of X G zabs, PySem.W.mg_none_of X G zmax, PySem.W.mg_none_of X G zmin, PySem.W.mg_none_of X G zsorted, PySem.W.mg_none_of X G zsum⟩
  have N : Fns K mg fGt fCo fFi fLc fCa fLw fDn fDr fDg fPu fBy _ _ _ _ _ _ _ _ _ _ _ := ⟨FGt, FCo, FFi, FLc, FCa, FLw, FDn, FDr, FDg, FPu, FBy, bGt, bCo, bFi, bLc, bCa, bLw, bDn, bDr, bDg, bPu, bBy, PySem.W.mg_of X G aGt, PySem.W.mg_of X G aCo, PySem.W.mg_of X G aFi, PySem.W.mg_of X G aLc, PySem.W.mg_of X G aCa, PySem.W.mg_of X G aLw, PySem.W.mg_of X G aDn, PySem.W.mg_of X G aDr, PySem.W.mg_of X G aDg, PySem.W.mg_of X G aPu, PySem.W.mg_of X G aBy⟩
  exact ⟨PySem.W.fnOf "law" "law" (defArgs sLaw) (defBody sLaw) (defScope sLaw) .none kVZ dcZ pmZ anZ cdZ ctZ, fun s v => .of_eq rfl, fun base _ _ => ok_law FZ T N⟩
theorem walk {l : PySem.W.OpenLaw} {q : Program} {loose : List Str} {XP : (Str → Option Value) → Heap → Prop} {YP : World → Heap → Prop} {d : DefRec} {K : Params → PySem.W.Frag} (hn : l.most = some 63) (hdf : d.params.defaults = [])
    (hY : ∀ (w : World) (h : Heap), YP w h → (K w.params).In h)
    (F : ∀ (w : World) (mg : Str → Option Value) (fa : Addr) (h : Heap), (K w.params).In h → h.Ns mainGlobals mg → mg d.name = some (.ref fa) →
      ∃ fd : FuncData, (∀ (s : Shared) (u : Value), BindsTo s fd ⟨[u], []⟩ [("_law_script", u)]) ∧ ∀ base : Heap, (K w.params).In base → base.Ns mainGlobals mg → FnOk l.prog w (K w.params) mg base CX0 4 fa fd ["_law_script"] (spLaw (K w.params))) :
    PySem.W.WalkO q loose XP YP l.row.toRowW d [] (fun f vs => PySem.call f vs) :=
  L2.walk_of (n := 63) (k := 4) (x := "_law_script") (CX := fun _ => CX0) (sp := fun w => spLaw (K w.params)) hn (by decide) hdf ⟨rfl, by decide, by decide⟩ hY F (fun _ _ a ns hl _ hS => ⟨a, ns, rfl, hS, hl, fun _ => rfl⟩) fun _ _ _ _ _ z => z
end K73
open PySem PySem.W PyProof.Rows
def PySem.W.Fast.tw375028530799051453 : Unit := ()
def PySem.W.Fast.tw15449321635920969562 : Unit := ()
def PySem.W.Fast.tw15720676205174883352 : Unit := ()
def PySem.W.Fast.tw1027048925737238652 : Unit := ()
def PySem.W.Fast.tw14751353670547892697 : Unit := ()
def PySem.W.Fast.tw11611681436930798661 : Unit := ()
def PySem.W.Fast.tw13808643527321972953 : Unit := ()
def PySem.W.Fast.tw7034962564204531469 : Unit := ()
def PySem.W.Fast.tw15735448491641942664 : Unit := ()
def PySem.W.Fast.tw2956044089121294055 : Unit := ()
def PySem.W.Fast.tw15798062721936007771 : Unit := ()
def PySem.W.Fast.tw8589302976311629818 : Unit := ()
def PySem.W.Fast.tw5788131299337829722 : Unit := ()
def PySem.W.Fast.tw14055029481712412417 : Unit := ()
def PySem.W.Fast.tw11873228213707501840 : Unit := ()
def PySem.W.Fast.tw18230348441812573174 : Unit := ()
def PySem.W.Fast.tw5404541927025814736 : Unit := ()
def PySem.W.Fast.tw10734290099444917174 : Unit := ()
def PySem.W.Fast.tw17963938148427321569 : Unit := ()
def PySem.W.Fast.tw6561384226806354991 : Unit := ()
def PySem.W.Fast.tw9548965261113553286 : Unit := ()
def PySem.W.Fast.tw17795111396255949087 : Unit := ()
def PySem.W.Fast.tw561230155993744521 : Unit := ()
def PySem.W.Fast.tw12435526621544889917 : Unit := ()
def PySem.W.Fast.tw3472737131794358728 : Unit := ()
def PySem.W.Fast.tw565678133956880332 : Unit := ()
set_option maxRecDepth 100000 in
set_option maxHeartbeats 0 in
theorem PySem.Challenge.cw_windchest_k73_whole_least_cap_holds : PySem.Challenge.rw_windchest_k73_whole_least_cap.Holds := by
  w_on; o_law; k_head; (case hw => w_witness2)
  k_fill
  refine K73.walk (l := PySem.Challenge.rw_windchest_k73_whole_least_cap) rfl rfl (fun w h Y => PySem.W.kIn_of Y) ?F
  case F =>
    intro w mg fa h KX G hmg
    refine' K73.all_mk KX G hmg ?aGt ?lGt ?cGt ?kGt ?aCo ?lCo ?cCo ?kCo ?aFi ?lFi ?cFi ?kFi ?aLc ?lLc ?cLc ?kLc ?aCa ?lCa ?cCa ?kCa ?aLw ?lLw ?cLw ?kLw ?aDn ?lDn ?cDn ?kDn ?aDr ?lDr ?cDr ?kDr ?aDg ?lDg ?cDg ?kDg ?aPu ?lPu ?cPu ?kPu ?aBy ?lBy ?cBy ?kBy ?aZ ?lZ ?cZ ?kZ ?zlen ?zisinstance ?zint ?zbool ?zrange ?zabs ?zmax ?zmin ?zsorted ?zsum
    (case aGt => k_is)
    (case lGt => k_is)
    (case cGt => k_is)
    (case kGt => k_is)
    (case aCo => k_is)
    (case lCo => k_is)
    (case cCo => k_is)
    (case kCo => k_is)
    (case aFi => k_is)
    (case lFi => k_is)
    (case cFi => k_is)
    (case kFi => k_is)
    (case aLc => k_is)
    (case lLc => k_is)
    (case cLc => k_is)
    (case kLc => k_is)
    (case aCa => k_is)
    (case lCa => k_is)
    (case cCa => k_is)
    (case kCa => k_is)
    (case aLw => k_is)
    (case lLw => k_is)
    (case cLw => k_is)
    (case kLw => k_is)
    (case aDn => k_is)
    (case lDn => k_is)
    (case cDn => k_is)
    (case kDn => k_is)
    (case aDr => k_is)
    (case lDr => k_is)
    (case cDr => k_is)
    (case kDr => k_is)
    (case aDg => k_is)
    (case lDg => k_is)
    (case cDg => k_is)
    (case kDg => k_is)
    (case aPu => k_is)
    (case lPu => k_is)
    (case cPu => k_is)
    (case kPu => k_is)
    (case aBy => k_is)
    (case lBy => k_is)
    (case cBy => k_is)
    (case kBy => k_is)
    (case aZ => k_is)
    (case lZ => k_is)
    (case cZ => k_is)
    (case kZ => k_is)
    (case zlen => k_is)
    (case zisinstance => k_is)
    (case zint => k_is)
    (case zbool => k_is)
    (case zrange => k_is)
    (case zabs => k_is)
    (case zmax => k_is)
    (case zmin => k_is)
    (case zsorted => k_is)
    (case zsum => k_is)

end PartK73z
