import PyProof.Rows.All
import Wide.All
import OpenK.AllK
import Wide.FinOn
import Lean
import PyProof.EqAt
import PyProof.EqKinds
import PyProof.TupleCall
import PyProof.ZipIter
import PyProof.WalksEnum
import PyProof.EnumMake
import PyProof.NeKinds
import KE.KDictList
import PyProof.Rows.SetFrom
import PyProof.StrWalks
import PyProof.CollectWalk
import PyProof.Rows.SortWalk
import PyProof.Rows.BitMore
import PyProof.Rows.IntCalls
import KE.KRevIter
import PyProof.SetRoads
import OpenK.KTop
import PyProof.Rows.StrWeight2
import PyProof.SumWalk
import PyProof.SliceList
import PyProof.Rows.StrClose
import PyProof.Rows.CatFin
import KE.KUnpack
import PyProof.Rows.Range3
import PyProof.Rows.ChunkEnd
import PySem.Challenge.RW_windchest_k25_whole_put_together
set_option Elab.async false
set_option linter.all false
set_option maxRecDepth 100000
namespace L2
open PySem PySem.Spec PyProof.Rows
abbrev Key := Sum Int Str
def keyIs : Key -> Value -> Bool
 | .inl k, v => Value.isInt k v
 | .inr x, v => Value.isStrOf x v
def keyH (w : World) : Key -> Int
 | .inl k => hashInt k
 | .inr x => hashStr w x
theorem keyIs_shape : ∀ {k : Key} {v : Value}, keyIs k v = true -> (∃ i t, k = Sum.inl i /\ v = Value.int i t) \/ (∃ x t, k = Sum.inr x /\ v = Value.str x t)
 | .inl i, v, h => by
  obtain ⟨t, e⟩ := Value.isInt_shape (k := i) (v := v) h
  exact .inl ⟨i, t, rfl, e⟩
 | .inr x, v, h => by
  obtain ⟨t, e⟩ := Value.isStrOf_shape (x := x) (v := v) h
  exact .inr ⟨x, t, rfl, e⟩
theorem keyIs_int (i : Int) (t : Tok) : keyIs (.inl i) (.int i t) = true := by simp [keyIs, Value.isInt]
theorem keyIs_str (x : Str) (t : Tok) : keyIs (.inr x) (.str x t) = true := by simp [keyIs, Value.isStrOf]
theorem key_ll (a b : Int) : decide ((Sum.inl a : Key) = Sum.inl b) = (a == b) := by
 by_cases e : a = b
 ·subst e; simp
 ·have h : ¬ (Sum.inl a : Key) = Sum.inl b := fun q => e (Sum.inl.inj q)
  rw [decide_eq_false h]
  exact (beq_eq_false_iff_ne.mpr e).symm
theorem key_rr (a b : Str) : decide ((Sum.inr a : Key) = Sum.inr b) = decide (a = b) := by
 by_cases e : a = b
 ·subst e; simp
 ·have h : ¬ (Sum.inr a : Key) = Sum.inr b := fun q => e (Sum.inr.inj q)
  rw [decide_eq_false h, decide_eq_false e]
theorem key_lr (a : Int) (b : Str) : decide ((Sum.inl a : Key) = Sum.inr b) = false := decide_eq_false (fun q => nomatch q)
theorem key_rl (a : Str) (b : Int) : decide ((Sum.inr a : Key) = Sum.inl b) = false := decide_eq_false (fun q => nomatch q)
def mixKind (prog : Program) (w : World) : PySem.KeyKind prog w Key where
 is := keyIs
 hash := keyH w
 inj := fun v a b ha hb => by
  rcases keyIs_shape ha with ⟨i, t, rfl, rfl⟩ | ⟨x, t, rfl, rfl⟩
  ·rcases keyIs_shape hb with ⟨j, u, rfl, e⟩ | ⟨y, u, rfl, e⟩
   ·injection e with e1 _; rw [e1]
   ·exact nomatch e
  ·rcases keyIs_shape hb with ⟨j, u, rfl, e⟩ | ⟨y, u, rfl, e⟩
   ·exact nomatch e
   ·injection e with e1 _; rw [e1]
 byValue := fun k v h => by
  rcases keyIs_shape h with ⟨i, t, rfl, rfl⟩ | ⟨x, t, rfl, rfl⟩ <;> rfl
 pyHash := fun hv h => by
  rcases keyIs_shape hv with ⟨i, t, rfl, rfl⟩ | ⟨x, t, rfl, rfl⟩
  ·exact wpAny_pyHash_int h
  ·exact wpAny_pyHash_str h
 eqBool := fun hu hv h => by
  rcases keyIs_shape hu with ⟨i, t, rfl, rfl⟩ | ⟨x, t, rfl, rfl⟩
  ·rcases keyIs_shape hv with ⟨j, u, rfl, rfl⟩ | ⟨y, u, rfl, rfl⟩
   ·rw [key_ll] at h; exact wpAny_eqBool_int h
   ·rw [key_lr] at h; exact SeqAt.EqAt.int_str i t y u _ _ _ _ h
  ·rcases keyIs_shape hv with ⟨j, u, rfl, rfl⟩ | ⟨y, u, rfl, rfl⟩
   ·rw [key_rl] at h; exact SeqAt.EqAt.str_int x t j u _ _ _ _ h
   ·rw [key_rr] at h; exact wpAny_eqBool_str h
 «strs» := fun k x t v h => by
  rcases keyIs_shape h with ⟨i, u, rfl, e⟩ | ⟨y, u, rfl, e⟩
  ·exact nomatch e
  ·injection e with e1 _
   subst e1
   cases v <;> rfl
theorem mixKind_int (prog : Program) (w : World) (i : Int) (t : Tok) : (mixKind prog w).is (.inl i) (.int i t) = true := keyIs_int i t
theorem mixKind_str (prog : Program) (w : World) (x : Str) (t : Tok) : (mixKind prog w).is (.inr x) (.str x t) = true := keyIs_str x t
end L2
namespace L2
open PySem PySem.Spec PyProof.Rows
inductive V where
 | non | bl (b : Bool) | int (i : Int) | str (x : Str) | byt (b : Array UInt8) | flt (b : UInt64) | ref (a : Addr) | ty (n : String)
 deriving DecidableEq
def RelV : V -> Value -> Prop
 | .non, u => u = Value.none
 | .bl b, u => u = Value.bool b
 | .int i, u => ∃ t, u = Value.int i t
 | .str x, u => ∃ t, u = Value.str x t
 | .byt b, u => ∃ t, u = Value.bytes b t
 | .flt b, u => ∃ t, u = Value.float b t
 | .ref a, u => u = Value.ref a
 | .ty n, u => u = Value.type n
abbrev Vals : List V -> List Value -> Prop := Paired RelV
theorem Vals.length {xs : List V} {us : List Value} (r : Vals xs us) : xs.length = us.length := Paired.length r
theorem Vals.get : ∀ {xs : List V} {us : List Value} {i : Nat} {x : V}, Vals xs us -> xs[i]? = some x -> ∃ u, us[i]? = some u /\ RelV x u
 | _, _, _, _, .nil, e => by simp at e
 | _, _, 0, _, .cons r _, e => by simp at e; subst e; exact ⟨_, rfl, r⟩
 | _, _, i + 1, x, .cons _ t, e => by
  obtain ⟨u, h1, h2⟩ := Vals.get (i := i) (x := x) t (by simpa using e)
  exact ⟨u, by simpa using h1, h2⟩
theorem Vals.set {x : V} {u : Value} (r : RelV x u) : ∀ {xs : List V} {us : List Value} (i : Nat), Vals xs us -> Vals (xs.set i x) (us.set i u)
 | _, _, _, .nil => .nil
 | _, _, 0, .cons _ t => .cons r t
 | _, _, i + 1, .cons q t => .cons q (Vals.set r i t)
theorem Vals.append : ∀ {xs ys : List V} {us ws : List Value}, Vals xs us -> Vals ys ws -> Vals (xs ++ ys) (us ++ ws)
 | _, _, _, _, .nil, s => s
 | _, _, _, _, .cons r t, s => .cons r (Vals.append t s)
theorem Vals.take : ∀ {xs : List V} {us : List Value} (n : Nat), Vals xs us -> Vals (xs.take n) (us.take n)
 | _, _, 0, _ => .nil
 | _, _, _ + 1, .nil => .nil
 | _, _, n + 1, .cons r t => .cons r (Vals.take n t)
theorem Vals.drop : ∀ {xs : List V} {us : List Value} (n : Nat), Vals xs us -> Vals (xs.drop n) (us.drop n)
 | _, _, 0, r => r
 | _, _, _ + 1, .nil => .nil
 | _, _, n + 1, .cons _ t => Vals.drop n t
def RelO : Option V -> Option Value -> Prop
 | some v, some u => RelV v u
 | none, none => True
 | _, _ => False
def KV {κ : Type} : List (κ × V) -> List (κ × Value) -> Prop := Paired fun (p : κ × V) (q : κ × Value) => p.1 = q.1 /\ RelV p.2 q.2
def kV : Key -> V
 | .inl i => .int i
 | .inr x => .str x
inductive HO where
 | lst (xs : List V)
 | tup (xs : List V)
 | dK (kvs : List (Key × V)) | dT (kvs : List (List Key × V))
 | set (S : Int -> Bool) (n : Nat)
 | ins (C dx : Addr) (fs : List (Str × V))
 | own (x : Addr)
 | xd (fs : List (Str × V))
 | met (f x : Addr)
 | rng (lo hi : Int)
 | frz (o : Obj) (u : HO)
 | tbl (ps : Array Value)
 | ext (φ : Heap -> Prop)
abbrev Hp := Addr -> Option HO
def upd (H : Hp) (a : Addr) (o : HO) : Hp := fun b => if b = a then some o else H b
theorem upd_same {H : Hp} {a : Addr} {o : HO} : upd H a o a = some o := by unfold upd; rw [if_pos rfl]
theorem upd_ne {H : Hp} {a b : Addr} {o : HO} (h : b ≠ a) : upd H a o b = H b := by unfold upd; rw [if_neg h]
theorem ne_of {H : Hp} {a b : Addr} {o u : HO} (h : H a = some o) (h' : H b = some u) (d : o ≠ u) : a ≠ b := by
 intro e; subst e; rw [h] at h'; exact d (Option.some.inj h')
theorem ne_of_none {H : Hp} {a b : Addr} {o : HO} (h : H a = some o) (h' : H b = none) : a ≠ b := by
 intro e; subst e; rw [h] at h'; cases h'
section
variable (P : Program) (w : World)
def ObjOk (H : Hp) (h : Heap) (a : Addr) : HO -> Prop
 | .lst xs => xs.length <= sizeLine /\ ∃ (its : List Value) (n : Nat), Vals xs its /\ h.get? a = some { cls := .type "list", data := .seq its.toArray n }
 | .tup xs => xs.length <= sizeLine /\ ∃ its : List Value, Vals xs its /\ IsTup h a its.toArray
 | .dK kvs => kvs.length <= sizeLine /\ (a == sysModules) = false /\ ∃ vs, KV kvs vs /\ h.DictOf (mixKind P w) a vs
 | .dT kvs => kvs.length <= sizeLine /\ (a == sysModules) = false /\ ∃ xs : List (List Key × Addr × Value),
   Paired (fun (p : List Key × V) (q : List Key × Addr × Value) => p.1 = q.1 /\ H q.2.1 = some (.tup (p.1.map kV)) /\ RelV p.2 q.2.2) kvs xs /\
   ∃ o es ep, h.get? a = some o /\ o.ExactDict /\ o.data = .dict es ep /\ es.toList = xs.map (entryOfKey (tupleKind (mixKind P w))) /\ (xs.map (·.1)).Nodup
 | .set S n => h.SetOf (intKind P w) a S n
 | .ins C dx fs => H dx = some (.own a) /\ fs.length <= 1000 /\ dx ≠ a /\ h.get? a = some (PySem.W.instObj C dx) /\
   ∃ mA, h.Ns1 dx mA /\ (∀ f, RelO (fs.lookup f) (mA f)) /\ PySem.Within mA (fs.map (·.1))
 | .own _ => ∃ o, h.get? a = some o
 | .xd fs => ∃ mA, h.Ns1 a mA /\ ∀ f, RelO (fs.lookup f) (mA f)
 | .rng lo hi => ∃ t u v, h.get? a = some { cls := .type "range", data := .fields #[.int lo t, .int hi u, .int 1 v] }
 | .frz o u => h.get? a = some o /\ ObjOk H h a u
 | .tbl ps => h.get? a = some { cls := .none, data := .fields ps }
 | .met f x => h.get? a = some (PySem.W.methodObj (.ref f) (.ref x))
 | .ext φ => φ h /\ (∃ o, h.get? a = some o) /\ ∀ h1 h2 : Heap, φ h1 -> (∀ o, h1.get? a = some o -> h2.get? a = some o) -> φ h2
def HOk (H : Hp) (h : Heap) : Prop := ∀ a o, H a = some o -> ObjOk P w H h a o
end
section
variable {P : Program} {w : World} {H H' : Hp} {h h' : Heap} {a : Addr} {o : HO}
theorem ObjOk.lt (x : ObjOk P w H h a o) : a < h.objs.size := by
 cases o with
 | lst xs => obtain ⟨_, _, _, _, e⟩ := x; exact Heap.lt_size e
 | tup xs => obtain ⟨_, _, _, p⟩ := x; exact p.lt
 | dK kvs => obtain ⟨_, _, _, _, o, _, _, e, _⟩ := x; exact Heap.lt_size e
 | dT kvs => obtain ⟨_, _, _, _, o, _, _, e, _⟩ := x; exact Heap.lt_size e
 | set S n => obtain ⟨o, _, _, _, e, _⟩ := x; exact Heap.lt_size e
 | ins C dx fs => obtain ⟨_, _, _, e, _⟩ := x; exact Heap.lt_size e
 | own y => obtain ⟨_, e⟩ := x; exact Heap.lt_size e
 | xd fs => obtain ⟨_, ⟨_, _, _, e, _⟩, _⟩ := x; exact Heap.lt_size e
 | rng lo hi => obtain ⟨_, _, _, e⟩ := x; exact Heap.lt_size e
 | frz ob u => obtain ⟨e, _⟩ := x; exact Heap.lt_size e
 | tbl ps => exact Heap.lt_size (show h.get? a = some _ from x)
 | met f y => exact Heap.lt_size (show h.get? a = some _ from x)
 | ext φ => obtain ⟨_, ⟨_, e⟩, _⟩ := x; exact Heap.lt_size e
theorem Paired.mapP {α β : Type} {F G : α -> β -> Prop} : ∀ {l₁ : List α} {l₂ : List β}, Paired F l₁ l₂ -> (∀ a b, F a b -> G a b) -> Paired G l₁ l₂
 | _, _, .nil, _ => .nil
 | _, _, .cons r t, f => .cons (f _ _ r) (Paired.mapP t f)
theorem ObjOk.stay (x : ObjOk P w H h a o) (k : ∀ b u, (b = a \/ H b = some (.own a)) -> h.get? b = some u -> h'.get? b = some u)
  (ho : ∀ b, H b = some (.own a) -> H' b = some (.own a)) (ht : ∀ b xs, H b = some (.tup xs) -> H' b = some (.tup xs)) : ObjOk P w H' h' a o := by
 induction o with
 | lst xs => obtain ⟨z, its, n, r, e⟩ := x; exact ⟨z, its, n, r, k _ _ (.inl rfl) e⟩
 | tup xs => obtain ⟨z, its, r, ob, e, c⟩ := x; exact ⟨z, its, r, ob, k _ _ (.inl rfl) e, c⟩
 | dK kvs => obtain ⟨z, y, vs, r, ob, es, ep, e, c⟩ := x; exact ⟨z, y, vs, r, ob, es, ep, k _ _ (.inl rfl) e, c⟩
 | dT kvs =>
  obtain ⟨z, y, xs, r, ob, es, ep, e, c⟩ := x
  exact ⟨z, y, xs, Paired.mapP r fun p q z => ⟨z.1, ht _ _ z.2.1, z.2.2⟩, ob, es, ep, k _ _ (.inl rfl) e, c⟩
 | set S n => obtain ⟨ob, es, ep, t, e, c⟩ := x; exact ⟨ob, es, ep, t, k _ _ (.inl rfl) e, c⟩
 | ins C dx fs =>
  obtain ⟨d, z, ne, e, mA, ⟨od, es, ep, e2, c⟩, r⟩ := x
  exact ⟨ho _ d, z, ne, k _ _ (.inl rfl) e, mA, ⟨od, es, ep, k _ _ (.inr d) e2, c⟩, r⟩
 | own y => obtain ⟨ob, e⟩ := x; exact ⟨ob, k _ _ (.inl rfl) e⟩
 | xd fs => obtain ⟨mA, ⟨od, es, ep, e, c⟩, r⟩ := x; exact ⟨mA, ⟨od, es, ep, k _ _ (.inl rfl) e, c⟩, r⟩
 | rng lo hi => obtain ⟨t, u, v, e⟩ := x; exact ⟨t, u, v, k _ _ (.inl rfl) e⟩
 | frz ob u ih => obtain ⟨e, q⟩ := x; exact ⟨k _ _ (.inl rfl) e, ih q⟩
 | tbl ps =>
  have e : h.get? a = some { cls := .none, data := .fields ps } := x
  show h'.get? a = some { cls := .none, data := .fields ps }
  exact k a _ (.inl rfl) e
 | met f y =>
  have e : h.get? a = some (PySem.W.methodObj (.ref f) (.ref y)) := x
  show h'.get? a = some (PySem.W.methodObj (.ref f) (.ref y))
  exact k a _ (.inl rfl) e
 | ext φ => obtain ⟨p, ⟨o, e⟩, st⟩ := x; exact ⟨st _ _ p fun o q => k _ _ (.inl rfl) q, ⟨o, k _ _ (.inl rfl) e⟩, st⟩
theorem HOk.lt (x : HOk P w H h) (e : H a = some o) : a < h.objs.size := (x a o e).lt
theorem HOk.fresh (x : HOk P w H h) (e : h.objs.size <= a) : H a = none := by
 cases q : H a with
 | none => rfl
 | some u => exact absurd (Nat.lt_of_lt_of_le (x.lt q) e) (Nat.lt_irrefl _)
theorem HOk.kept (x : HOk P w H h) (k : ∀ b u, h.get? b = some u -> h'.get? b = some u) : HOk P w H h' := fun a o e =>
 (x a o e).stay (fun b u _ q => k b u q) (fun _ q => q) fun _ _ q => q
theorem HOk.laid (x : HOk P w H h) (k : ∀ b u, h.get? b = some u -> h'.get? b = some u) (hp : h.objs.size <= a) (new : ObjOk P w (upd H a o) h' a o) : HOk P w (upd H a o) h' := fun b u e => by
 have hn := x.fresh hp
 by_cases hb : b = a
 ·subst hb; rw [upd_same] at e; cases e; exact new
 ·rw [upd_ne hb] at e
  exact (x b u e).stay (fun c v _ q => k c v q) (fun c q => by rw [upd_ne (ne_of_none q hn)]; exact q) fun c xs q => by rw [upd_ne (ne_of_none q hn)]; exact q
end
def Rd (H : Hp) (a : Addr) (u : HO) : Prop := H a = some u \/ ∃ o, H a = some (.frz o u)
theorem Rd.ok {P : Program} {w : World} {H : Hp} {h : Heap} {a : Addr} {u : HO} (r : Rd H a u) (x : HOk P w H h) : ObjOk P w H h a u := by
 rcases r with r | ⟨o, r⟩
 ·exact x a u r
 ·obtain ⟨_, q⟩ := x a _ r
  exact q
def Mut : Option HO -> Prop
 | some (.lst _) => True
 | some (.dK _) => True
 | some (.dT _) => True
 | some (.set _ _) => True
 | some (.ins _ _ _) => True
 | some (.ext _) => True
 | _ => False
section
variable {P : Program} {w : World} {H : Hp} {h h' : Heap} {x e : Addr} {o' : HO}
theorem HOk.write (ok : HOk P w H h) (mu : Mut (H x)) (he : e = x \/ H e = some (.own x)) (k : ∀ b u, b ≠ e -> h.get? b = some u -> h'.get? b = some u) (heo : ∃ u, h'.get? e = some u)
  (new : ObjOk P w (upd H x o') h' x o') : HOk P w (upd H x o') h' := fun b u q => by
 have nown : ∀ c y, H c = some (.own y) -> c ≠ x := fun c y r z => by subst z; rw [r] at mu; exact mu
 have ntup : ∀ c xs, H c = some (.tup xs) -> c ≠ x := fun c xs r z => by subst z; rw [r] at mu; exact mu
 by_cases hb : b = x
 ·subst hb; rw [upd_same] at q; cases q; exact new
 ·rw [upd_ne hb] at q
  by_cases hbe : b = e
  ·have q' : H b = some (.own x) := by
    rcases he with z | z
    ·exact absurd (hbe.trans z) hb
    ·rw [hbe]; exact z
   rw [q] at q'; cases q'
   obtain ⟨v, hv⟩ := heo
   exact ⟨v, by rw [hbe]; exact hv⟩
  ·refine (ok b u q).stay (fun c v hc r => k c v ?_ r) (fun c r => by rw [upd_ne (nown c b r)]; exact r) fun c xs r => by rw [upd_ne (ntup c xs r)]; exact r
   rcases hc with rfl | hc
   ·exact hbe
   ·rintro rfl
    rcases he with z | z
    ·exact nown c b hc z
    ·rw [hc] at z; cases z; exact hb rfl
end
structure Un (fs ex : List Addr) (H H' : Hp) (h h' : Heap) : Prop where
 keep : ∀ b o, h.get? b = some o -> H b = none -> b ∉ fs -> b ∉ ex -> h'.get? b = some o
 slot : ∀ b o, h.get? b = some o -> H b = none -> b ∈ fs -> b ∉ ex -> ∃ sl, h'.get? b = some { o with slots := sl }
 free : ∀ b o, h.get? b = some o -> H b = none -> b ∉ ex -> H' b = none
 there : ∀ b o, h.get? b = some o -> b ∉ ex -> ∃ o', h'.get? b = some o'
 tups : ∀ b xs, H b = some (.tup xs) -> H' b = some (.tup xs)
 frzs : ∀ b o u, H b = some (.frz o u) -> H' b = some (.frz o u)
 tbls : ∀ b ps, H b = some (.tbl ps) -> ∃ more, H' b = some (.tbl (ps ++ more))
section
variable {fs fs' ex ex' : List Addr} {H H1 H2 : Hp} {h h1 h2 h' : Heap} {a x e : Addr} {o : HO}
theorem Un.any (u : Un fs ex H H1 h h1) {b : Addr} {ob : Obj} (q : h.get? b = some ob) (n : H b = none) (hx : b ∉ ex) : ∃ sl, h1.get? b = some { ob with slots := sl } := by
 by_cases hb : b ∈ fs
 ·exact u.slot b ob q n hb hx
 ·exact ⟨ob.slots, u.keep b ob q n hb hx⟩
theorem Un.kept (k : ∀ b u, h.get? b = some u -> h'.get? b = some u) : Un fs ex H H h h' :=
 ⟨fun b ob q _ _ _ => k b ob q, fun b ob q _ _ _ => ⟨ob.slots, k b ob q⟩, fun _ _ _ n _ => n, fun b ob q _ => ⟨ob, k b ob q⟩, fun _ _ q => q, fun _ _ _ q => q, fun _ ps q => ⟨#[], by rw [q]; simp⟩⟩
theorem Un.refl : Un fs ex H H h h := Un.kept fun _ _ q => q
theorem Un.laid (k : ∀ b u, h.get? b = some u -> h'.get? b = some u) (hp : h.objs.size <= a) (hn : H a = none) : Un fs ex H (upd H a o) h h' where
 keep := fun b u q _ _ _ => k b u q
 slot := fun b u q _ _ _ => ⟨u.slots, k b u q⟩
 free := fun b u q n _ => by rw [upd_ne (Nat.ne_of_lt (Nat.lt_of_lt_of_le (Heap.lt_size q) hp))]; exact n
 there := fun b u q _ => ⟨u, k b u q⟩
 tups := fun b xs q => by rw [upd_ne (ne_of_none q hn)]; exact q
 frzs := fun b u xs q => by rw [upd_ne (ne_of_none q hn)]; exact q
 tbls := fun b ps q => ⟨#[], by rw [upd_ne (ne_of_none q hn), q]; simp⟩
theorem Un.write (mu : Mut (H x)) (he : e = x \/ H e = some (.own x)) (k : ∀ b u, b ≠ e -> h.get? b = some u -> h'.get? b = some u) (heo : ∃ u, h'.get? e = some u) : Un fs ex H (upd H x o) h h' := by
 have hx : ∀ b, H b = none -> b ≠ x := fun b n z => by subst z; rw [n] at mu; exact mu
 have hb : ∀ b, H b = none -> b ≠ e := fun b n z => by
  subst z
  rcases he with r | r
  ·exact hx b n r
  ·rw [n] at r; cases r
 have hm : ∀ b u, H b = some u -> ¬ Mut (some u) -> b ≠ x := fun b u q nm z => by subst z; rw [q] at mu; exact nm mu
 refine ⟨fun b u q n _ _ => k b u (hb b n) q, fun b u q n _ _ => ⟨u.slots, k b u (hb b n) q⟩, fun b u q n _ => by rw [upd_ne (hx b n)]; exact n, fun b u q _ => ?_,
  fun b xs q => by rw [upd_ne (hm b _ q fun z => z)]; exact q, fun b u xs q => by rw [upd_ne (hm b _ q fun z => z)]; exact q, fun b ps q => ⟨#[], by rw [upd_ne (hm b _ q fun z => z), q]; simp⟩⟩
 by_cases hbe : b = e
 ·subst hbe; exact heo
 ·exact ⟨u, k b u hbe q⟩
end
def trk (h : Heap) (H : Hp) : List Addr := (List.range h.objs.size).filter fun a => (H a).isSome
def hidT (h : Heap) (H : Hp) : Heap := PySem.W.hideAll h (trk h H)
theorem hidT_size (h : Heap) (H : Hp) : (hidT h H).objs.size = h.objs.size := PySem.W.hideAll_size _ _
theorem hidT_get {h : Heap} {H : Hp} {b : Addr} {o : Obj} (e : h.get? b = some o) (n : H b = none) : (hidT h H).get? b = some o :=
 PySem.W.hideAll_get _ e fun hm => by
  have q : (H b).isSome = true := (List.mem_filter.mp hm).2
  rw [n] at q; simp at q
theorem of_hidT {h : Heap} {H : Hp} {b : Addr} {o : Obj} (e : (hidT h H).get? b = some o) : h.get? b = some o /\ H b = none := by
 have e' : h.get? b = some o := PySem.W.of_hideAll (trk h H) e
 refine ⟨e', ?_⟩
 cases q : H b with
 | none => rfl
 | some x =>
  have hm : b ∈ trk h H := List.mem_filter.mpr ⟨List.mem_range.mpr (Heap.lt_size e'), by simp [q]⟩
  have z : (hidT h H).get? b = none := PySem.W.hideAll_none (trk h H) hm
  rw [z] at e; cases e
def allNews (g h : Heap) (L : Addr) : List (Addr × Obj) := (List.range h.objs.size).filterMap fun a => if a = L \/ (g.get? a).isSome = true then none else (h.get? a).map fun o => (a, o)
def rest (g h : Heap) (L d : Addr) : List (Addr × Obj) := (allNews g h L).filter fun p => decide (p.1 ≠ d)
end L2
namespace L2
open PySem PySem.Spec PyProof.Rows
structure Mod (K : PySem.W.Frag) (mg : Str -> Option Value) (base : Heap) : Prop where
 kin : K.In base
 glob : base.Ns mainGlobals mg
 blt : ∃ mb, base.Ns builtinsNs mb /\ ∀ x : Str, x ≠ "__name__" -> mb x = bootBuiltins x
 nolimit : base.NoLimit
structure Cx where
 prog : Program
 w : World
 K : PySem.W.Frag
 mg : Str -> Option Value
 base : Heap
 A : Around
 N : List Str
 s₀ : Shared
 H₀ : Hp
 env : Env
 outer : List Env
 stack : List Env
 ex : List Addr
 fn : Str -> Bool
 calm : Bool
 pn : List (Addr × Obj)
 xe : Value -> Shared -> Prop
def frs (l : List Env) : List Addr := l.filterMap (·.frame)
abbrev Cx.fs (X : Cx) : List Addr := frs X.outer
def Vis (sc : Scope) (x : Str) : Prop := sc.names.lookup x = some .local \/ sc.names.lookup x = some .cell \/ sc.names.lookup x = some .free
def Loc (sc : Scope) (x : Str) : Prop := sc.names.lookup x = some .local \/ sc.names.lookup x = some .cell
def Look (env : Env) (h : Heap) (m : Str -> Option Value) (x : Str) (u : Value) : Prop :=
 (env.kindOf x = some .local /\ m x = some u) \/ ((env.kindOf x = some .cell \/ env.kindOf x = some .free) /\ ∃ c, env.cells.lookup x = some c /\ h.IsCell c (some u))
structure Cx.Ok (X : Cx) : Prop where
 mod : Mod X.K X.mg X.base
 kind : X.env.scope.kind = .function
 glob : X.env.globals = mainGlobals
 blt : X.env.builtins = builtinsNs
 above : X.s₀.heap.objs.size <= X.env.locals
 inj : ∀ x y c, X.env.cells.lookup x = some c -> X.env.cells.lookup y = some c -> x = y
 has : ∀ x, (X.env.kindOf x = some .cell \/ X.env.kindOf x = some .free) -> ∃ c, X.env.cells.lookup x = some c
 cab : ∀ x c, X.fn x = true -> X.env.cells.lookup x = some c -> X.s₀.heap.objs.size <= c
 hd : X.calm = true -> X.A.handled = none
 frames : X.A.frames = some X.stack
 stk : X.stack = X.outer \/ (X.stack = X.env :: X.outer /\ X.env.frame = some X.env.locals)
 exf : ∀ b ∈ X.ex, b ≠ X.env.locals /\ ∀ x c, X.env.cells.lookup x = some c -> c ≠ b
 bs : ∀ b o, X.base.get? b = some o -> X.s₀.heap.get? b = some o /\ X.H₀ b = none
 bsz : X.base.objs.size <= X.s₀.heap.objs.size
 noex : ∀ b o, X.base.get? b = some o -> b ∉ X.ex
 exfs : ∀ b ∈ X.ex, b ∉ X.fs
 funs : X.s₀.heap.FunFrames X.base X.outer
 frf : ∀ b ∈ X.fs, X.H₀ b = none
structure Inv (X : Cx) (pins : List (Addr × Obj)) (σ : List (Option V)) (H : Hp) (s : Shared) : Prop where
 ok : X.Ok
 os : s.os = X.s₀.os
 bare : AllBare s.gens
 base : Un X.fs X.ex X.H₀ H X.s₀.heap s.heap
 loc : ∃ m, s.heap.Ns X.env.locals m /\ ∀ (i : Nat) (x : Str) (v : V), X.N[i]? = some x -> σ[i]? = some (some v) -> Vis X.env.scope x -> ∃ u, RelV v u /\ Look X.env s.heap m x u
 cell : ∀ x c, X.env.cells.lookup x = some c -> ∃ v, s.heap.IsCell c v
 free : H X.env.locals = none
 freeC : ∀ x c, X.env.cells.lookup x = some c -> H c = none
 pin : ∀ p ∈ X.pn ++ pins, s.heap.get? p.1 = some p.2 /\ H p.1 = none /\ p.1 ≠ X.env.locals /\ p.1 ∉ X.fs /\ ∀ v, p.2.data ≠ .cell v
 hok : HOk X.prog X.w H s.heap
 len : σ.length = X.N.length
section
variable {X : Cx} {pins : List (Addr × Obj)} {σ : List (Option V)} {H H' : Hp} {s : Shared} {h' : Heap}
theorem Cx.Ok.nofr (ok : X.Ok) {b : Addr} {o : Obj} (e : X.base.get? b = some o) : b ∉ X.fs := fun hb => by
 have := (ok.funs.mem hb).1
 rw [e] at this; cases this
theorem Inv.bs (I : Inv X pins σ H s) : ∀ b o, X.base.get? b = some o -> s.heap.get? b = some o /\ H b = none := fun b o e =>
 ⟨I.base.keep b o (I.ok.bs b o e).1 (I.ok.bs b o e).2 (I.ok.nofr e) (I.ok.noex b o e), I.base.free b o (I.ok.bs b o e).1 (I.ok.bs b o e).2 (I.ok.noex b o e)⟩
theorem Inv.bk (I : Inv X pins σ H s) : ∀ b o, X.base.get? b = some o -> s.heap.get? b = some o := fun b o e => (I.bs b o e).1
theorem Inv.mod (I : Inv X pins σ H s) : Mod X.K X.mg X.base := I.ok.mod
theorem Inv.kIn (I : Inv X pins σ H s) : X.K.In s.heap := I.ok.mod.kin.keeps I.bk
theorem Inv.lt (I : Inv X pins σ H s) : X.env.locals < s.heap.objs.size := let ⟨_, hn, _⟩ := I.loc; hn.lt
theorem Inv.sz (I : Inv X pins σ H s) : X.s₀.heap.objs.size <= s.heap.objs.size := Nat.le_trans I.ok.above (Nat.le_of_lt I.lt)
theorem Inv.nofs (I : Inv X pins σ H s) {a : Addr} (h : s.heap.objs.size <= a) : a ∉ X.fs := fun hb => by
 obtain ⟨_, o, ho, _⟩ := I.ok.funs.mem hb
 exact absurd (Nat.lt_of_lt_of_le (Heap.lt_size ho) (Nat.le_trans I.sz h)) (Nat.lt_irrefl _)
theorem Inv.cne (I : Inv X pins σ H s) : ∀ x c, X.env.cells.lookup x = some c -> c ≠ X.env.locals := fun x c e z => by
 obtain ⟨v, o, ho, hd⟩ := I.cell x c e
 obtain ⟨m, ⟨o', es, ep, ho', hd', _⟩, _⟩ := I.loc
 rw [z, ho'] at ho; cases ho; rw [hd'] at hd; cases hd
theorem Inv.funs (I : Inv X pins σ H s) : s.heap.FunFrames X.base X.outer := by
 have all : ∀ (l : List Env), (∀ b ∈ frs l, b ∈ X.fs) -> X.s₀.heap.FunFrames X.base l -> s.heap.FunFrames X.base l := by
  intro l
  induction l with
  | nil => intro _ _; trivial
  | cons env r ih =>
   intro hs hl
   obtain ⟨hk, ⟨L, o, hf, hn, ho, hd⟩, hr⟩ := hl
   have hL : L ∈ X.fs := hs L (by unfold frs; rw [List.filterMap_cons, hf]; exact List.mem_cons_self)
   obtain ⟨sl, e⟩ := I.base.slot L o ho (I.ok.frf L hL) hL fun z => I.ok.exfs L z hL
   exact ⟨hk, ⟨L, _, hf, hn, e, hd⟩, ih (fun b hb => hs b (by unfold frs; rw [List.filterMap_cons, hf]; exact List.mem_cons_of_mem _ hb)) hr⟩
 exact all X.outer (fun _ hb => hb) I.ok.funs
theorem Inv.stack (I : Inv X pins σ H s) : s.heap.FunFrames X.base X.stack := by
 rcases I.ok.stk with e | ⟨e, hf⟩
 ·rw [e]; exact I.funs
 ·rw [e]
  obtain ⟨m, hn, _⟩ := I.loc
  refine .cons (by rw [I.ok.kind]; decide) hf hn ?_ I.funs
  exact Heap.get?_none_of_le (Nat.le_trans I.ok.bsz I.ok.above)
theorem Inv.stkSub (I : Inv X pins σ H s) : ∀ b ∈ frs X.stack, b ∈ X.env.locals :: X.fs := fun b hb => by
 rcases I.ok.stk with e | ⟨e, hf⟩
 ·rw [e] at hb; exact List.mem_cons_of_mem _ hb
 ·rw [e] at hb
  unfold frs at hb
  rw [List.filterMap_cons, hf] at hb
  exact hb
theorem Inv.stkFree (I : Inv X pins σ H s) : ∀ b ∈ frs X.stack, H b = none := fun b hb => by
 rcases List.mem_cons.mp (I.stkSub b hb) with e | hb
 ·rw [e]; exact I.free
 ·obtain ⟨_, o, ho, _⟩ := I.ok.funs.mem hb
  exact I.base.free b o ho (I.ok.frf b hb) fun z => I.ok.exfs b z hb
theorem Inv.step {g' : Array GenState} {t' : Nat} {d' : Drawn} {ch : List Addr} (I : Inv X pins σ H s)
  (hch : ∀ b ∈ ch, (b ∈ X.ex \/ X.s₀.heap.objs.size <= b) /\ b ≠ X.env.locals /\ (∀ x c, X.env.cells.lookup x = some c -> c ≠ b) /\ ∀ p ∈ X.pn ++ pins, p.1 ≠ b)
  (keep : ∀ b o, b ≠ X.env.locals -> b ∉ X.fs -> b ∉ ch -> s.heap.get? b = some o -> H b = none -> h'.get? b = some o)
  (slot : ∀ b o, b ≠ X.env.locals -> b ∈ X.fs -> b ∉ ch -> s.heap.get? b = some o -> H b = none -> ∃ sl, h'.get? b = some { o with slots := sl }) (free : ∀ b o, b ∉ ch -> s.heap.get? b = some o -> H b = none -> H' b = none)
  (there : ∀ b o, b ∉ ch -> s.heap.get? b = some o -> ∃ o', h'.get? b = some o')
  (tups : ∀ b xs, H b = some (.tup xs) -> H' b = some (.tup xs)) (frzs : ∀ b o u, H b = some (.frz o u) -> H' b = some (.frz o u)) (tbls : ∀ b ps, H b = some (.tbl ps) -> ∃ more, H' b = some (.tbl (ps ++ more)))
  (ns : ∀ m, s.heap.Ns X.env.locals m -> h'.Ns X.env.locals m) (hok : HOk X.prog X.w H' h') (hg : AllBare g') :
  Inv X pins σ H' { s with heap := h', gens := g', drawn := d', toks := t' } := by
 have neL : ∀ b o, X.s₀.heap.get? b = some o -> b ≠ X.env.locals := fun b o e => Nat.ne_of_lt (Nat.lt_of_lt_of_le (Heap.lt_size e) I.ok.above)
 have neC : ∀ b o, X.s₀.heap.get? b = some o -> b ∉ X.ex -> b ∉ ch := fun b o e hx hb => by
  rcases (hch b hb).1 with z | z
  ·exact hx z
  ·exact absurd (Nat.lt_of_lt_of_le (Heap.lt_size e) z) (Nat.lt_irrefl _)
 have cellK : ∀ x c, X.env.cells.lookup x = some c -> ∀ v, s.heap.IsCell c v -> h'.IsCell c v := fun x c e v ⟨o, ho, hd⟩ => by
  have nch : c ∉ ch := fun z => (hch c z).2.2.1 x c e rfl
  by_cases hc : c ∈ X.fs
  ·obtain ⟨sl, q⟩ := slot c o (I.cne x c e) hc nch ho (I.freeC x c e)
   exact ⟨_, q, hd⟩
  ·exact ⟨o, keep c o (I.cne x c e) hc nch ho (I.freeC x c e), hd⟩
 refine ⟨I.ok, I.os, hg, ⟨fun b o e n hb hx => ?_, fun b o e n hb hx => ?_, fun b o e n hx => ?_, fun b o e hx => ?_, fun b xs e => tups b xs (I.base.tups b xs e), fun b o xs e => frzs b o xs (I.base.frzs b o xs e), fun b ps e => ?_⟩, ?_, fun x c e => ?_, ?_, fun x c e => ?_, fun p hp => ?_, hok, I.len⟩
 ·exact keep b o (neL b o e) hb (neC b o e hx) (I.base.keep b o e n hb hx) (I.base.free b o e n hx)
 ·obtain ⟨sl, e1⟩ := I.base.slot b o e n hb hx
  obtain ⟨sl', e2⟩ := slot b _ (neL b o e) hb (neC b o e hx) e1 (I.base.free b o e n hx)
  exact ⟨sl', e2⟩
 ·obtain ⟨o', e1⟩ := I.base.there b o e hx
  exact free b o' (neC b o e hx) e1 (I.base.free b o e n hx)
 ·obtain ⟨o', e1⟩ := I.base.there b o e hx
  exact there b o' (neC b o e hx) e1
 ·obtain ⟨m1, e1⟩ := I.base.tbls b ps e
  obtain ⟨m2, e2⟩ := tbls b _ e1
  exact ⟨m1 ++ m2, by rw [e2, Array.append_assoc]⟩
 ·obtain ⟨m, hn, hl⟩ := I.loc
  refine ⟨m, ns m hn, fun i x v e1 e2 e3 => ?_⟩
  obtain ⟨u, r, l⟩ := hl i x v e1 e2 e3
  refine ⟨u, r, ?_⟩
  rcases l with l | ⟨k, c, e, z⟩
  ·exact .inl l
  ·exact .inr ⟨k, c, e, cellK x c e _ z⟩
 ·obtain ⟨v, z⟩ := I.cell x c e
  exact ⟨v, cellK x c e v z⟩
 ·obtain ⟨m, ⟨o, _, _, ho, _⟩, _⟩ := I.loc
  exact free _ o (fun z => (hch _ z).2.1 rfl) ho I.free
 ·obtain ⟨v, o, ho, hd⟩ := I.cell x c e
  exact free c o (fun z => (hch c z).2.2.1 x c e rfl) ho (I.freeC x c e)
 ·obtain ⟨e, n, ne, nf, d⟩ := I.pin p hp
  have nch : p.1 ∉ ch := fun z => (hch p.1 z).2.2.2 p hp rfl
  exact ⟨keep p.1 p.2 ne nf nch e n, free p.1 p.2 nch e n, ne, nf, d⟩
theorem Inv.un {t' : Nat} (I : Inv X pins σ H s) (u : Un X.fs [] H H' s.heap h') (hok : HOk X.prog X.w H' h') : Inv X pins σ H' { s with heap := h', toks := t' } := by
 obtain ⟨m, ⟨o, es, ep, ho, r⟩, _⟩ := id I.loc
 obtain ⟨sl, hL⟩ := u.any ho I.free (by simp)
 exact I.step (g' := s.gens) (d' := s.drawn) (ch := []) (fun _ z => nomatch z) (fun b o _ hb _ e n => u.keep b o e n hb (by simp)) (fun b o _ hb _ e n => u.slot b o e n hb (by simp)) (fun b o _ e n => u.free b o e n (by simp)) (fun b o _ e => u.there b o e (by simp)) u.tups u.frzs u.tbls (fun m' hm => by
  obtain ⟨o', es', ep', ho', r'⟩ := hm
  rw [ho] at ho'; cases ho'
  exact ⟨_, es', ep', hL, r'⟩) hok I.bare
theorem Inv.call {g' : Array GenState} {t' : Nat} {d' : Drawn} {ch : List Addr} (I : Inv X pins σ H s) (u : Un (frs X.stack) ch H H' s.heap h') (hok : HOk X.prog X.w H' h') (hg : AllBare g')
  (hch : ∀ b ∈ ch, (b ∈ X.ex \/ X.s₀.heap.objs.size <= b) /\ b ≠ X.env.locals /\ (∀ x c, X.env.cells.lookup x = some c -> c ≠ b) /\ ∀ p ∈ X.pn ++ pins, p.1 ≠ b) :
  Inv X pins σ H' { s with heap := h', gens := g', drawn := d', toks := t' } := by
 obtain ⟨m, ⟨o, es, ep, ho, r⟩, _⟩ := id I.loc
 obtain ⟨sl, hL⟩ := u.any ho I.free fun z => (hch _ z).2.1 rfl
 exact I.step (ch := ch) hch (fun b o hL hb hc e n => u.keep b o e n (fun z => (List.mem_cons.mp (I.stkSub b z)).elim hL hb) hc) (fun b o _ _ hc e n => u.any e n hc) (fun b o hc e n => u.free b o e n hc) (fun b o hc e => u.there b o e hc) u.tups u.frzs u.tbls (fun m' hm => by
  obtain ⟨o', es', ep', ho', r'⟩ := hm
  rw [ho] at ho'; cases ho'
  exact ⟨_, es', ep', hL, r'⟩) hok hg
theorem Inv.turned {t' : Nat} {it : Addr} (I : Inv X pins σ H s) (k : ∀ b o, b ≠ it -> s.heap.get? b = some o -> h'.get? b = some o) (hn : H it = none) (hL : it ≠ X.env.locals)
  (h1 : it ∈ X.ex \/ X.s₀.heap.objs.size <= it) (h2 : ∀ x c, X.env.cells.lookup x = some c -> c ≠ it) (h3 : ∀ p ∈ X.pn ++ pins, p.1 ≠ it) : Inv X pins σ H { s with heap := h', toks := t' } := by
 have nit : ∀ b u, H b = some u -> b ≠ it := fun b u e z => by rw [z, hn] at e; cases e
 refine I.step (g' := s.gens) (d' := s.drawn) (ch := [it]) (fun b hb => ?_) (fun b o _ _ hc e _ => k b o (fun z => hc (by simp [z])) e) (fun b o _ _ hc e _ => ⟨o.slots, k b o (fun z => hc (by simp [z])) e⟩) (fun _ _ _ _ n => n)
  (fun b o hc e => ⟨o, k b o (fun z => hc (by simp [z])) e⟩) (fun _ _ e => e) (fun _ _ _ e => e) (fun b ps e => ⟨#[], by rw [e]; simp⟩) (fun m hm => ?_) (fun b u e => ?_) I.bare
 ·have e : b = it := by simpa using hb
  subst e
  exact ⟨h1, hL, h2, h3⟩
 ·obtain ⟨o, es, ep, ho, r⟩ := hm
  exact ⟨o, es, ep, k _ o (Ne.symm hL) ho, r⟩
 ·refine (I.hok b u e).stay (fun c v hc q => k c v ?_ q) (fun _ q => q) fun _ _ q => q
  rcases hc with z | z
  ·rw [z]; exact nit b u e
  ·exact nit c _ z
theorem Inv.tok (I : Inv X pins σ H s) (t : Nat) : Inv X pins σ H { s with toks := t } := I.un (h' := s.heap) (t' := t) Un.refl I.hok
theorem Inv.kept {t' : Nat} (I : Inv X pins σ H s) (k : ∀ b u, s.heap.get? b = some u -> h'.get? b = some u) : Inv X pins σ H { s with heap := h', toks := t' } := I.un (Un.kept k) (I.hok.kept k)
theorem Inv.laid {a : Addr} {o : HO} {t' : Nat} (I : Inv X pins σ H s) (k : ∀ b u, s.heap.get? b = some u -> h'.get? b = some u) (hp : s.heap.objs.size <= a) (new : ObjOk X.prog X.w (upd H a o) h' a o) :
  Inv X pins σ (upd H a o) { s with heap := h', toks := t' } := I.un (Un.laid k hp (I.hok.fresh hp)) (I.hok.laid k hp new)
theorem Inv.write {x e : Addr} {o : HO} {t' : Nat} (I : Inv X pins σ H s) (mu : Mut (H x)) (he : e = x \/ H e = some (.own x)) (k : ∀ b u, b ≠ e -> s.heap.get? b = some u -> h'.get? b = some u) (heo : ∃ u, h'.get? e = some u)
  (new : ObjOk X.prog X.w (upd H x o) h' x o) : Inv X pins σ (upd H x o) { s with heap := h', toks := t' } := I.un (Un.write mu he k heo) (I.hok.write mu he k heo new)
theorem Inv.pins_of {pins' : List (Addr × Obj)} (I : Inv X pins σ H s) (h : ∀ p ∈ pins', s.heap.get? p.1 = some p.2 /\ H p.1 = none /\ p.1 ≠ X.env.locals /\ p.1 ∉ X.fs /\ ∀ v, p.2.data ≠ .cell v) : Inv X pins' σ H s :=
 ⟨I.ok, I.os, I.bare, I.base, I.loc, I.cell, I.free, I.freeC, fun p hp => (List.mem_append.mp hp).elim (fun z => I.pin p (List.mem_append_left _ z)) (h p), I.hok, I.len⟩
theorem nodup_ix {N : List Str} (hN : N.Nodup) {i j : Nat} {x : Str} (a : N[i]? = some x) (b : N[j]? = some x) : i = j := by
 obtain ⟨h1, e1⟩ := List.getElem?_eq_some_iff.mp a
 obtain ⟨h2, e2⟩ := List.getElem?_eq_some_iff.mp b
 exact (List.getElem_inj hN).mp (e1.trans e2.symm)
theorem store_ok2 {M : Model} {A : Around} {E : Value -> Shared -> Prop} {i : Nat} {x : Str} {v : V} {u : Value} {Q : Unit -> Shared -> Prop} (I : Inv X pins σ H s) (hN : X.N.Nodup) (hi : X.N[i]? = some x) (hx : Loc X.env.scope x) (r : RelV v u)
  (h : ∀ s', Inv X pins (σ.set i (some v)) H s' -> (∃ a, Heap.SameBut a s.heap s'.heap /\ (a = X.env.locals \/ X.env.cells.lookup x = some a)) -> Q () s') (hf : X.fn x = true \/ X.env.scope.names.lookup x = some .local := by first | exact .inl rfl | exact .inr rfl | assumption) : wpAny M A (storeName X.env x u) Q E s := by
 obtain ⟨m, hn, hl⟩ := id I.loc
 have hcls : (X.env.scope.kind == .class || (X.env.scope.kind == .module && X.env.locals != X.env.globals)) = false := by rw [I.ok.kind]; rfl
 have hiσ : i < σ.length := by rw [I.len]; exact (List.getElem?_eq_some_iff.mp hi).1
 have cne := I.cne
 have tracked : ∀ {a : Addr} {h' : Heap}, (∃ o, s.heap.get? a = some o /\ H a = none) -> Heap.SameBut a s.heap h' -> HOk X.prog X.w H h' := fun {a h'} ha hs b ob e => by
  obtain ⟨_, _, hfree⟩ := ha
  refine (I.hok b ob e).stay (fun c w' hc q => (hs.2 c ?_).trans q) (fun _ q => q) fun _ _ q => q
  rintro rfl
  rcases hc with rfl | hc
  ·rw [hfree] at e; cases e
  ·rw [hfree] at hc; cases hc
 rcases hx with hk | hk
 ·refine wpAny_storeName_local hk hn (fun h' hn' hs => ?_) hcls
  obtain ⟨oL, _, _, hoL, _⟩ := id hn
  refine h _ ⟨I.ok, I.os, I.bare, ⟨fun b o e n hb hx => ?_, fun b o e n hb hx => ?_, I.base.free, fun b o e hx => ?_, I.base.tups, I.base.frzs, I.base.tbls⟩, ⟨_, hn', fun j y v' e1 e2 e3 => ?_⟩, fun y c e => ?_, I.free, I.freeC, fun p hp => ?_, tracked ⟨oL, hoL, I.free⟩ hs, by simpa using I.len⟩ ⟨_, hs, .inl rfl⟩
  ·exact (hs.2 b (Nat.ne_of_lt (Nat.lt_of_lt_of_le (Heap.lt_size e) I.ok.above))).trans (I.base.keep b o e n hb hx)
  ·obtain ⟨sl, e1⟩ := I.base.slot b o e n hb hx
   exact ⟨sl, (hs.2 b (Nat.ne_of_lt (Nat.lt_of_lt_of_le (Heap.lt_size e) I.ok.above))).trans e1⟩
  ·obtain ⟨o', e1⟩ := I.base.there b o e hx
   exact ⟨o', (hs.2 b (Nat.ne_of_lt (Nat.lt_of_lt_of_le (Heap.lt_size e) I.ok.above))).trans e1⟩
  ·by_cases hj : j = i
   ·subst hj
    rw [hi] at e1; cases e1
    rw [List.getElem?_set_self hiσ] at e2
    cases e2
    exact ⟨u, r, .inl ⟨hk, by simp⟩⟩
   ·rw [List.getElem?_set_ne (Ne.symm hj)] at e2
    obtain ⟨u', r', q⟩ := hl j y v' e1 e2 e3
    refine ⟨u', r', ?_⟩
    rcases q with ⟨k, e⟩ | ⟨k, c, e, z⟩
    ·refine .inl ⟨k, ?_⟩
     have : y ≠ x := fun e => hj (nodup_ix hN e1 (e ▸ hi))
     simp [this, e]
    ·exact .inr ⟨k, c, e, z.sameBut hs (cne y c e)⟩
  ·obtain ⟨w', z⟩ := I.cell y c e
   exact ⟨w', z.sameBut hs (cne y c e)⟩
  ·obtain ⟨e, n, ne, nf, d⟩ := I.pin p hp
   exact ⟨(hs.2 p.1 ne).trans e, n, ne, nf, d⟩
 ·have hfn : X.fn x = true := by
   rcases hf with z | z
   ·exact z
   ·rw [z] at hk; cases hk
  obtain ⟨c, hc⟩ := I.ok.has x (.inl hk)
  obtain ⟨w', z⟩ := I.cell x c hc
  refine wpAny_storeName_cell I.ok.kind hk hc z (fun h' hc' hs => ?_)
  obtain ⟨oc, hoc, hocd⟩ := id z
  refine h { s with heap := h' } ⟨I.ok, I.os, I.bare, ⟨fun b o e n hb hx => ?_, fun b o e n hb hx => ?_, I.base.free, fun b o e hx => ?_, I.base.tups, I.base.frzs, I.base.tbls⟩, ⟨m, hn.sameBut hs (Ne.symm (cne x c hc)), fun j y v' e1 e2 e3 => ?_⟩, fun y c' e => ?_, I.free, I.freeC, fun p hp => ?_, tracked ⟨oc, hoc, I.freeC x c hc⟩ hs, by simpa using I.len⟩ ⟨c, hs, .inr hc⟩
  ·exact (hs.2 b (Nat.ne_of_lt (Nat.lt_of_lt_of_le (Heap.lt_size e) (I.ok.cab x c hfn hc)))).trans (I.base.keep b o e n hb hx)
  ·obtain ⟨sl, e1⟩ := I.base.slot b o e n hb hx
   exact ⟨sl, (hs.2 b (Nat.ne_of_lt (Nat.lt_of_lt_of_le (Heap.lt_size e) (I.ok.cab x c hfn hc)))).trans e1⟩
  ·obtain ⟨o', e1⟩ := I.base.there b o e hx
   exact ⟨o', (hs.2 b (Nat.ne_of_lt (Nat.lt_of_lt_of_le (Heap.lt_size e) (I.ok.cab x c hfn hc)))).trans e1⟩
  ·by_cases hj : j = i
   ·subst hj
    rw [hi] at e1; cases e1
    rw [List.getElem?_set_self hiσ] at e2
    cases e2
    exact ⟨u, r, .inr ⟨.inl hk, c, hc, hc'⟩⟩
   ·rw [List.getElem?_set_ne (Ne.symm hj)] at e2
    obtain ⟨u', r', q⟩ := hl j y v' e1 e2 e3
    refine ⟨u', r', ?_⟩
    rcases q with q | ⟨k, c', e, z'⟩
    ·exact .inl q
    ·refine .inr ⟨k, c', e, z'.sameBut hs ?_⟩
     rintro rfl
     exact hj (nodup_ix hN e1 (I.ok.inj _ _ _ e hc ▸ hi))
  ·by_cases hcc : c' = c
   ·subst hcc; exact ⟨_, hc'⟩
   ·obtain ⟨w2, z2⟩ := I.cell y c' e
    exact ⟨w2, z2.sameBut hs hcc⟩
  ·obtain ⟨e, n, ne, nf, d⟩ := I.pin p hp
   refine ⟨(hs.2 p.1 ?_).trans e, n, ne, nf, d⟩
   intro q
   rw [q, hoc] at e
   have q' : oc = p.2 := Option.some.inj e
   exact d w' (by rw [← q']; exact hocd)
theorem store_ok {M : Model} {A : Around} {E : Value -> Shared -> Prop} {i : Nat} {x : Str} {v : V} {u : Value} {Q : Unit -> Shared -> Prop} (I : Inv X pins σ H s) (hN : X.N.Nodup) (hi : X.N[i]? = some x) (hx : Loc X.env.scope x) (r : RelV v u)
  (h : ∀ s', Inv X pins (σ.set i (some v)) H s' -> Q () s') (hf : X.fn x = true \/ X.env.scope.names.lookup x = some .local := by first | exact .inl rfl | exact .inr rfl | assumption) : wpAny M A (storeName X.env x u) Q E s :=
 store_ok2 I hN hi hx r (fun s' I' _ => h s' I') hf
theorem Inv.call' {s' : Shared} {ch : List Addr} (I : Inv X pins σ H s) (ho : s'.os = s.os) (u : Un (frs X.stack) ch H H' s.heap s'.heap) (hok : HOk X.prog X.w H' s'.heap) (hg : AllBare s'.gens)
  (hch : ∀ b ∈ ch, (b ∈ X.ex \/ X.s₀.heap.objs.size <= b) /\ b ≠ X.env.locals /\ (∀ x c, X.env.cells.lookup x = some c -> c ≠ b) /\ ∀ p ∈ X.pn ++ pins, p.1 ≠ b) : Inv X pins σ H' s' := by
 obtain ⟨h', g', d', t', o'⟩ := s'
 have e : o' = s.os := ho
 subst e
 exact I.call (g' := g') (t' := t') (d' := d') u hok hg hch
end
abbrev XK := Value -> Option Addr -> Hp -> Prop
abbrev St := List (Option V)
abbrev VK := V -> Hp -> Prop
abbrev TE := St -> Hp -> VK -> Prop
abbrev TT := St -> Hp -> (Bool -> Hp -> Prop) -> Prop
abbrev TA := St -> Hp -> (List V -> Hp -> Prop) -> Prop
structure Ends where
 nx : St -> Hp -> Prop
 rt : VK
 bk : St -> Hp -> Prop := fun _ _ => False
 ct : St -> Hp -> Prop := fun _ _ => False
abbrev TS := Ends -> St -> Hp -> Prop
def EP (X : Cx) (pins : List (Addr × Obj)) (σ : St) (Q : VK) (u : Value) (s' : Shared) : Prop := ∃ v H', Inv X pins σ H' s' /\ RelV v u /\ Q v H'
def TP (X : Cx) (pins : List (Addr × Obj)) (σ : St) (Q : Bool -> Hp -> Prop) (b : Bool) (s' : Shared) : Prop := ∃ H', Inv X pins σ H' s' /\ Q b H'
def AP (X : Cx) (pins : List (Addr × Obj)) (σ : St) (Q : List V -> Hp -> Prop) (us : List Value) (s' : Shared) : Prop := ∃ vs H', Inv X pins σ H' s' /\ Vals vs us /\ Q vs H'
def SP (X : Cx) (pins : List (Addr × Obj)) (D : Ends) (f : Flow) (s' : Shared) : Prop :=
 match f with
 | .next => ∃ σ' H', Inv X pins σ' H' s' /\ D.nx σ' H'
 | .brk => ∃ σ' H', Inv X pins σ' H' s' /\ D.bk σ' H'
 | .cont => ∃ σ' H', Inv X pins σ' H' s' /\ D.ct σ' H'
 | .ret u => ∃ v σ' H', Inv X pins σ' H' s' /\ RelV v u /\ D.rt v H'
def PE (X : Cx) (e : Expr) (t : TE) : Prop :=
 ∀ (pins : List (Addr × Obj)) (s : Shared) (σ : St) (H : Hp) (Q : VK), Inv X pins σ H s -> t σ H Q -> wpAny (model X.prog X.w) X.A (eval e X.env) (EP X pins σ Q) X.xe s
def PT (X : Cx) (e : Expr) (t : TT) : Prop :=
 ∀ (pins : List (Addr × Obj)) (s : Shared) (σ : St) (H : Hp) (Q : Bool -> Hp -> Prop), Inv X pins σ H s -> t σ H Q -> wpAny (model X.prog X.w) X.A (isTrue e X.env (eval e X.env)) (TP X pins σ Q) X.xe s
def PW (X : Cx) (e : Expr) (t : TT) : Prop :=
 ∀ (whole : Sem Value) (pins : List (Addr × Obj)) (s : Shared) (σ : St) (H : Hp) (Q : Bool -> Hp -> Prop), Inv X pins σ H s -> t σ H Q -> wpAny (model X.prog X.w) X.A (isTrue e X.env whole) (TP X pins σ Q) X.xe s
theorem PW.pt {X : Cx} {e : Expr} {t : TT} (h : PW X e t) : PT X e t := h _
def PA (X : Cx) (es : List Expr) (t : TA) : Prop :=
 ∀ (pos : Pos) (pins : List (Addr × Obj)) (s : Shared) (σ : St) (H : Hp) (Q : List V -> Hp -> Prop), Inv X pins σ H s -> t σ H Q -> wpAny (model X.prog X.w) X.A (spliced (backTo pos (starEach es X.env))) (AP X pins σ Q) X.xe s
def PS (X : Cx) (st : Stmt) (t : TS) : Prop :=
 ∀ (pins : List (Addr × Obj)) (s : Shared) (σ : St) (H : Hp) (D : Ends), Inv X pins σ H s -> t D σ H -> wpAny (model X.prog X.w) X.A (exec st X.env) (SP X pins D) X.xe s
def PSs (X : Cx) (st : List Stmt) (t : TS) : Prop :=
 ∀ (pins : List (Addr × Obj)) (s : Shared) (σ : St) (H : Hp) (D : Ends), Inv X pins σ H s -> t D σ H -> wpAny (model X.prog X.w) X.A (execs st X.env) (SP X pins D) X.xe s
theorem thn {α : Type} {t : Sem α} {Q Q' : α -> Shared -> Prop} {M : Model} {A : Around} {E : Value -> Shared -> Prop} {s : Shared} (h : wpAny M A t Q E s) (hQ : ∀ a s, Q a s -> Q' a s) : wpAny M A t Q' E s := wpAny_mono h hQ fun _ _ x => x
end L2
namespace L2
open PySem PySem.Spec PyProof.Rows
section
variable {X : Cx}
def tVar (i : Nat) : TE := fun σ H Q => ∃ v, σ[i]? = some (some v) /\ Q v H
def tC (v : V) : TE := fun _ H Q => Q v H
theorem pe_var {i : Nat} {x : Str} {pos : Pos} (hN : X.N[i]? = some x) (hv : Vis X.env.scope x) (hd : (x == ("__debug__" : Str)) = false := by decide) (hcd : (x == ("__classdict__" : Str)) = false := by decide) : PE X (.Name x pos) (tVar i) := by
 intro pins s σ H Q I h
 obtain ⟨v, e, h⟩ := h
 obtain ⟨m, hn, hl⟩ := I.loc
 obtain ⟨u, r, l⟩ := hl i x v hN e hv
 have fin : EP X pins σ Q u s := ⟨v, H, I, r, h⟩
 rcases l with ⟨hk, hm⟩ | ⟨hk, c, hc, hcell⟩
 ·exact wpAny_Name (wpAny_loadName_local I.ok.kind hk hn hm fin) hd
 ·rcases hk with hk | hk
  ·exact wpAny_Name (wpAny_loadName_cell I.ok.kind hk hc hcell fin) hd
  ·exact wpAny_Name (wpAny_loadName_free I.ok.kind hk hc hcell fin hcd) hd
theorem pe_int {i j pos} : PE X (.Constant (.int i) j pos) (tC (.int i)) := fun _ _ _ H _ I h => wpAny_Constant_int ⟨.int i, H, I.tok _, ⟨_, rfl⟩, h⟩
theorem pe_bl {b j pos} : PE X (.Constant (.bool b) j pos) (tC (.bl b)) := fun _ _ _ H _ I h => Constant_bool ⟨.bl b, H, I, rfl, h⟩
theorem pe_non {j pos} : PE X (.Constant .none j pos) (tC .non) := fun _ _ _ H _ I h => Constant_none ⟨.non, H, I, rfl, h⟩
theorem pe_str {x j pos} : PE X (.Constant (.str x) j pos) (tC (.str x)) := fun _ _ _ H _ I h => Calls.Constant_str ⟨.str x, H, I.tok _, ⟨_, rfl⟩, h⟩
def Gl (X : Cx) (x : Str) : Prop := X.env.kindOf x = some .globalImplicit
theorem ld_glob {E : Value -> Shared -> Prop} {pins : List (Addr × Obj)} {s : Shared} {σ : St} {H : Hp} {x : Str} {u : Value} {pos : Pos} {Q : Value -> Shared -> Prop} (I : Inv X pins σ H s) (hg : Gl X x) (hm : X.mg x = some u) (h : Q u s)
  (hd : (x == ("__debug__" : Str)) = false := by decide) : wpAny (model X.prog X.w) X.A (eval (.Name x pos) X.env) Q E s :=
 Calls.Name_function_global I.ok.kind hg (Calls.loadGlobal_global (by rw [I.ok.glob]; exact I.mod.glob.keeps I.bk) hm h) hd
theorem ld_blt {E : Value -> Shared -> Prop} {pins : List (Addr × Obj)} {s : Shared} {σ : St} {H : Hp} {x : Str} {u : Value} {pos : Pos} {Q : Value -> Shared -> Prop} (I : Inv X pins σ H s) (hg : Gl X x) (hm : X.mg x = none) (hv : bootBuiltins x = some u) (h : Q u s)
  (hn : x ≠ "__name__" := by decide) (hd : (x == ("__debug__" : Str)) = false := by decide) : wpAny (model X.prog X.w) X.A (eval (.Name x pos) X.env) Q E s := by
 obtain ⟨mb, h1, h2⟩ := I.mod.blt
 exact Calls.Name_function_global I.ok.kind hg (Calls.loadGlobal_builtin (by rw [I.ok.glob]; exact I.mod.glob.keeps I.bk) hm (by rw [I.ok.blt]; exact h1.keeps I.bk) ((h2 x hn).trans hv) h) hd
theorem pe_glob {x : Str} {v : V} {u : Value} {pos : Pos} (hg : Gl X x) (hm : X.mg x = some u) (r : RelV v u) (hd : (x == ("__debug__" : Str)) = false := by decide) : PE X (.Name x pos) (tC v) :=
 fun _ _ _ H _ I h => ld_glob I hg hm ⟨v, H, I, r, h⟩ hd
theorem pe_bltn {x : Str} {v : V} {u : Value} {pos : Pos} (hg : Gl X x) (hm : X.mg x = none) (hv : bootBuiltins x = some u) (r : RelV v u) (hn : x ≠ "__name__" := by decide) (hd : (x == ("__debug__" : Str)) = false := by decide) : PE X (.Name x pos) (tC v) :=
 fun _ _ _ H _ I h => ld_blt I hg hm hv ⟨v, H, I, r, h⟩ hn hd
variable {a b : Expr} {ta tb : TE} {pos : Pos}
def PC (X : Cx) (op : CmpOp) (a b : Expr) (t : TE) : Prop :=
 ∀ (pins : List (Addr × Obj)) (s : Shared) (σ : St) (H : Hp) (Q : VK), Inv X pins σ H s -> t σ H Q ->
  wpAny (model X.prog X.w) X.A (eval a X.env) (fun v s₁ => wpAny (model X.prog X.w) X.A (eval b X.env) (fun u s₂ => wpAny (model X.prog X.w) X.A (compareOp op v u) (EP X pins σ Q) X.xe s₂) X.xe s₁) X.xe s
def tB (t : TE) : TT := fun σ H Q => t σ H fun x H1 => ∃ c, x = .bl c /\ Q c H1
theorem pe_cmp {op : CmpOp} {t : TE} (h : PC X op a b t) (h1 : behindInMarks op b = false := by first | exact nobehind _ (by decide) (by decide) | rfl) : PE X (.Compare a [op] [b] pos) t := fun pins s σ H Q I hw => wpAny_Compare1 (h pins s σ H Q I hw) h1
theorem pt_cmp {op : CmpOp} {t : TE} (h : PC X op a b t) (h1 : behindInMarks op b = false := by first | exact nobehind _ (by decide) (by decide) | rfl) : PT X (.Compare a [op] [b] pos) (tB t) := by
 intro pins s σ H Q I hw
 refine wpAny_isTrue_Compare1 (thn (h pins s σ H _ I hw) fun v s1 h1 => thn h1 fun u s2 h2 => thn h2 fun c s3 ⟨x, H1, I1, r1, q1⟩ => ?_) h1
 obtain ⟨d, rfl, q⟩ := q1
 cases r1
 exact wpAny_truthy_bool ⟨H1, I1, q⟩
theorem pt_val {e : Expr} {t : TE} (h : PE X e t) (he : ∀ whole, isTrue e X.env whole = (do let v ← whole; standAt e.pos; holding [v] (truthy v)) := by intro _; rfl) : PT X e (tB t) := by
 intro pins s σ H Q I hw
 refine isTrue_plain (thn (h pins s σ H _ I hw) fun v s1 ⟨x, H1, I1, r1, q1⟩ => ?_) (he _)
 obtain ⟨d, rfl, q⟩ := q1
 cases r1
 exact wpAny_truthy_bool ⟨H1, I1, q⟩
variable {tA tB' : TT} {rest : List Expr}
def tAnd (t u : TT) : TT := fun σ H Q => t σ H fun c H1 => if c = true then u σ H1 Q else Q false H1
def tOr (t u : TT) : TT := fun σ H Q => t σ H fun c H1 => if c = true then Q true H1 else u σ H1 Q
def tNot (t : TT) : TT := fun σ H Q => t σ H fun c H1 => Q (!c) H1
theorem pw_and1 (ha : PT X a tA) : PW X (.BoolOp .And [a] pos) tA := by
 intro wh pins s σ H Q I h
 refine isTrue_and (thn (ha pins s σ H Q I h) fun c s1 e => ?_)
 cases c with
 | true => exact isTrue_and_nil e
 | false => exact e
theorem pw_or1 (ha : PT X a tA) : PW X (.BoolOp .Or [a] pos) tA := by
 intro wh pins s σ H Q I h
 refine isTrue_or (thn (ha pins s σ H Q I h) fun c s1 e => ?_)
 cases c with
 | false => exact isTrue_or_nil e
 | true => exact e
theorem pw_and (ha : PT X a tA) (hb : PW X (.BoolOp .And (b :: rest) pos) tB') : PW X (.BoolOp .And (a :: b :: rest) pos) (tAnd tA tB') := by
 intro wh pins s σ H Q I h
 refine isTrue_and (thn (ha pins s σ H _ I h) fun c s1 ⟨H1, I1, q1⟩ => ?_)
 cases c with
 | true => exact hb wh pins s1 σ H1 Q I1 q1
 | false => exact ⟨H1, I1, q1⟩
theorem pw_or (ha : PT X a tA) (hb : PW X (.BoolOp .Or (b :: rest) pos) tB') : PW X (.BoolOp .Or (a :: b :: rest) pos) (tOr tA tB') := by
 intro wh pins s σ H Q I h
 refine isTrue_or (thn (ha pins s σ H _ I h) fun c s1 ⟨H1, I1, q1⟩ => ?_)
 cases c with
 | true => exact ⟨H1, I1, q1⟩
 | false => exact hb wh pins s1 σ H1 Q I1 q1
theorem pt_not (ha : PT X a tA) : PT X (.UnaryOp .Not a pos) (tNot tA) := by
 intro pins s σ H Q I h
 exact isTrue_not (ha pins s σ H (fun c H1 => Q (!c) H1) I h)
def tAndV (ta tb : TE) : TE := fun σ H Q => ta σ H fun x H1 => ∃ c, x = .bl c /\ if c = true then tb σ H1 Q else Q (.bl false) H1
def tOrV (ta tb : TE) : TE := fun σ H Q => ta σ H fun x H1 => ∃ c, x = .bl c /\ if c = true then Q (.bl true) H1 else tb σ H1 Q
def tNotV (ta : TE) : TE := fun σ H Q => ta σ H fun x H1 => ∃ c, x = .bl c /\ Q (.bl (!c)) H1
theorem pe_one {op} {t : TE} (h : PE X a t) : PE X (.BoolOp op [a] pos) t := fun pins s σ H Q I hw => BoolOp_one (h pins s σ H Q I hw)
theorem pe_and (ha : PE X a ta) (hb : PE X (.BoolOp .And (b :: rest) pos) tb) : PE X (.BoolOp .And (a :: b :: rest) pos) (tAndV ta tb) := by
 intro pins s σ H Q I h
 refine BoolOp_and (thn (ha pins s σ H _ I h) fun v s1 ⟨x, H1, I1, r1, q1⟩ => ?_)
 obtain ⟨c, rfl, q1⟩ := q1
 cases r1
 refine wpAny_truthy_bool ?_
 cases c with
 | true => exact hb pins s1 σ H1 Q I1 q1
 | false => exact ⟨.bl false, H1, I1, rfl, q1⟩
theorem pe_or (ha : PE X a ta) (hb : PE X (.BoolOp .Or (b :: rest) pos) tb) : PE X (.BoolOp .Or (a :: b :: rest) pos) (tOrV ta tb) := by
 intro pins s σ H Q I h
 refine BoolOp_or (thn (ha pins s σ H _ I h) fun v s1 ⟨x, H1, I1, r1, q1⟩ => ?_)
 obtain ⟨c, rfl, q1⟩ := q1
 cases r1
 refine wpAny_truthy_bool ?_
 cases c with
 | false => exact hb pins s1 σ H1 Q I1 q1
 | true => exact ⟨.bl true, H1, I1, rfl, q1⟩
theorem pe_not (ha : PE X a ta) : PE X (.UnaryOp .Not a pos) (tNotV ta) := by
 intro pins s σ H Q I h
 refine UnaryOp_ (thn (ha pins s σ H _ I h) fun v s1 ⟨x, H1, I1, r1, q1⟩ => ?_)
 obtain ⟨c, rfl, q1⟩ := q1
 cases r1
 exact not_of (wpAny_truthy_bool ⟨.bl (!c), H1, I1, rfl, q1⟩)
def tIf (t : TT) (ta tb : TE) : TE := fun σ H Q => t σ H fun c H1 => if c = true then ta σ H1 Q else tb σ H1 Q
theorem pe_ifExp {c : Expr} (hc : PT X c tA) (ha : PE X a ta) (hb : PE X b tb) : PE X (.IfExp c a b pos) (tIf tA ta tb) := by
 intro pins s σ H Q I h
 refine wpAny_IfExp (thn (hc pins s σ H _ I h) fun d s1 ⟨H1, I1, q1⟩ => ?_)
 cases d with
 | true => exact ha pins s1 σ H1 Q I1 q1
 | false => exact hb pins s1 σ H1 Q I1 q1
end
end L2
namespace L2
open PySem PySem.Spec PyProof.Rows
def SqL (K : PySem.W.Frag) (H : Hp) (a : Addr) (xs : List V) : Prop :=
 Rd H a (.lst xs) \/
  ∃ (o : Obj) (its : Array Value) (n : Nat), K.lookup a = some o /\ o.cls = .type "list" /\ o.dict = none /\ o.data = .seq its n /\ its.size <= sizeLine /\ Vals xs its.toList
def SqT (K : PySem.W.Frag) (H : Hp) (a : Addr) (xs : List V) : Prop :=
 Rd H a (.tup xs) \/
  ∃ (o : Obj) (its : Array Value) (n : Nat), K.lookup a = some o /\ o.cls = .type "tuple" /\ o.data = .seq its n /\ its.size <= sizeLine /\ Vals xs its.toList
def absV : Value -> Option V
 | .none => some .non
 | .bool b => some (.bl b)
 | .int i _ => some (.int i)
 | .str x _ => some (.str x)
 | .bytes b _ => some (.byt b)
 | .float b _ => some (.flt b)
 | .ref a => some (.ref a)
 | .type n => some (.ty n)
 | _ => none
theorem RelV.abs {x : V} {u : Value} (r : RelV x u) : absV u = some x := by
 cases x with
 | non => cases r; rfl
 | bl _ => cases r; rfl
 | int _ => obtain ⟨t, rfl⟩ := r; rfl
 | str _ => obtain ⟨t, rfl⟩ := r; rfl
 | byt _ => obtain ⟨t, rfl⟩ := r; rfl
 | flt _ => obtain ⟨t, rfl⟩ := r; rfl
 | ref _ => cases r; rfl
 | ty _ => cases r; rfl
theorem RelV.inj {x y : V} {u : Value} (r : RelV x u) (q : RelV y u) : x = y := Option.some.inj (r.abs.symm.trans q.abs)
theorem Vals.inj : ∀ {xs ys : List V} {us : List Value}, Vals xs us -> Vals ys us -> xs = ys
 | _, _, _, .nil, .nil => rfl
 | _, _, _, .cons r t, .cons r' t' => by rw [r.inj r', Vals.inj t t']
section
variable {X : Cx} {pins : List (Addr × Obj)} {σ : St} {H : Hp} {s : Shared} {a : Addr} {xs ys : List V}
theorem Inv.list (I : Inv X pins σ H s) (h : SqL X.K H a xs) : ∃ its : List Value, Vals xs its /\ PlainL s.heap a its.toArray /\ xs.length <= sizeLine := by
 rcases h with h | ⟨o, its, n, hk, hc, hd, hs, hz, r⟩
 ·obtain ⟨z, its, n, r, e⟩ := h.ok I.hok
  exact ⟨its, r, ⟨_, n, e, rfl, rfl, rfl⟩, z⟩
 ·refine ⟨its.toList, r, ⟨o, n, I.kIn a o hk, hc, hd, by simpa using hs⟩, ?_⟩
  have e := r.length
  simp only [Array.length_toList] at e
  omega
theorem Inv.tuple (I : Inv X pins σ H s) (h : SqT X.K H a xs) : ∃ its : List Value, Vals xs its /\ IsTup s.heap a its.toArray /\ xs.length <= sizeLine := by
 rcases h with h | ⟨o, its, n, hk, hc, hs, hz, r⟩
 ·obtain ⟨z, its, r, p⟩ := h.ok I.hok
  exact ⟨its, r, p, z⟩
 ·refine ⟨its.toList, r, ⟨o, I.kIn a o hk, hc, n, by simpa using hs⟩, ?_⟩
  have e := r.length
  simp only [Array.length_toList] at e
  omega
theorem Inv.list_inj (I : Inv X pins σ H s) (h : SqL X.K H a xs) (h' : SqL X.K H a ys) : xs = ys := by
 obtain ⟨its, r, ⟨o, n, e, _, _, d⟩, _⟩ := I.list h
 obtain ⟨its', r', ⟨o', n', e', _, _, d'⟩, _⟩ := I.list h'
 rw [e] at e'; cases e'
 rw [d] at d'
 injection d' with d1 _
 have : its = its' := by simpa using congrArg Array.toList d1
 subst this
 exact r.inj r'
theorem Inv.tuple_inj (I : Inv X pins σ H s) (h : SqT X.K H a xs) (h' : SqT X.K H a ys) : xs = ys := by
 obtain ⟨its, r, ⟨o, e, _, n, d⟩, _⟩ := I.tuple h
 obtain ⟨its', r', ⟨o', e', _, n', d'⟩, _⟩ := I.tuple h'
 rw [e] at e'; cases e'
 rw [d] at d'
 injection d' with d1 _
 have : its = its' := by simpa using congrArg Array.toList d1
 subst this
 exact r.inj r'
end
abbrev Cx.wish (X : Cx) (E : Value -> Shared -> Prop) : Cx := { X with xe := E }
abbrev Cx.nox (X : Cx) : Cx := X.wish fun _ _ => False
theorem Cx.Ok.wish {X : Cx} (ok : X.Ok) (E : Value -> Shared -> Prop) : (X.wish E).Ok :=
 ⟨ok.mod, ok.kind, ok.glob, ok.blt, ok.above, ok.inj, ok.has, ok.cab, ok.hd, ok.frames, ok.stk, ok.exf, ok.bs, ok.bsz, ok.noex, ok.exfs, ok.funs, ok.frf⟩
theorem Cx.Ok.unwish {X : Cx} {E : Value -> Shared -> Prop} (ok : (X.wish E).Ok) : X.Ok :=
 ⟨ok.mod, ok.kind, ok.glob, ok.blt, ok.above, ok.inj, ok.has, ok.cab, ok.hd, ok.frames, ok.stk, ok.exf, ok.bs, ok.bsz, ok.noex, ok.exfs, ok.funs, ok.frf⟩
section
variable {X : Cx} {pins : List (Addr × Obj)} {σ : St} {H : Hp} {s : Shared} {E : Value -> Shared -> Prop}
theorem Inv.wish (I : Inv X pins σ H s) (E : Value -> Shared -> Prop) : Inv (X.wish E) pins σ H s := ⟨I.ok.wish E, I.os, I.bare, I.base, I.loc, I.cell, I.free, I.freeC, I.pin, I.hok, I.len⟩
theorem Inv.unwish (I : Inv (X.wish E) pins σ H s) : Inv X pins σ H s := ⟨I.ok.unwish, I.os, I.bare, I.base, I.loc, I.cell, I.free, I.freeC, I.pin, I.hok, I.len⟩
theorem SP.unwish {D : Ends} {f : Flow} {s' : Shared} (h : SP (X.wish E) pins D f s') : SP X pins D f s' := by
 cases f with
 | next => obtain ⟨σ', H', I, q⟩ := h; exact ⟨σ', H', I.unwish, q⟩
 | brk => obtain ⟨σ', H', I, q⟩ := h; exact ⟨σ', H', I.unwish, q⟩
 | cont => obtain ⟨σ', H', I, q⟩ := h; exact ⟨σ', H', I.unwish, q⟩
 | ret u => obtain ⟨v, σ', H', I, r, q⟩ := h; exact ⟨v, σ', H', I.unwish, r, q⟩
theorem PSs.nox {st : List Stmt} {t : TS} (h : PSs X.nox st t) : PSs X st t := fun pins s σ H D I hw =>
 wpAny_mono (h pins s σ H D (I.wish _) hw) (fun _ _ q => q.unwish) fun _ _ z => False.elim z
end
section
variable {X : Cx} {st : Stmt} {rest : List Stmt} {t u : TS} {e : Expr} {te : TE} {pos : Pos}
def tNext : TS := fun D σ H => D.nx σ H
def tSeq (t u : TS) : TS := fun D σ H => t { D with nx := u D } σ H
theorem pss_nil : PSs X [] tNext := fun _ _ σ H _ I h => wpAny_execs_nil ⟨σ, H, I, h⟩
theorem pss_cons (h1 : PS X st t) (h2 : PSs X rest u) : PSs X (st :: rest) (tSeq t u) := by
 intro pins s σ H D I h
 refine wpAny_execs_cons (thn (h1 pins s σ H { D with nx := u D } I h) fun f s1 q => ?_)
 cases f with
 | next =>
  obtain ⟨σ', H', I', q⟩ := q
  exact h2 pins s1 σ' H' D I' q
 | ret v => exact q
 | brk => exact q
 | cont => exact q
theorem pss_one (h1 : PS X st t) : PSs X [st] t := by
 intro pins s σ H D I h
 refine wpAny_execs_cons (thn (h1 pins s σ H D I h) fun f s1 q => ?_)
 cases f with
 | next => exact wpAny_execs_nil q
 | ret v => exact q
 | brk => exact q
 | cont => exact q
def tBreak : TS := fun D σ H => D.bk σ H
theorem ps_break : PS X (.Break pos) tBreak := fun _ _ σ H _ I h => wpAny_Break ⟨σ, H, I, h⟩
theorem Inv.quiet {pins : List (Addr × Obj)} {σ : St} {H : Hp} {s : Shared} (I : Inv X pins σ H s) : interactive X.env = false := by simp [interactive, I.ok.kind]
def tDrop (te : TE) : TS := fun D σ H => te σ H fun _ H1 => D.nx σ H1
theorem ps_expr (he : PE X e te) (hs : swapsWith e none pos.line X.env = pure false := by rfl) : PS X (.Expr e pos) (tDrop te) := by
 intro pins s σ H D I h
 exact wpAny_Expr_any (thn (he pins s σ H _ I h) fun v s1 ⟨x, H1, I1, r1, q1⟩ => ⟨σ, H1, I1, q1⟩) I.quiet hs
def tRet (te : TE) : TS := fun D σ H => te σ H D.rt
theorem ps_ret (he : PE X e te) : PS X (.Return (some e) pos) (tRet te) := by
 intro pins s σ H D I h
 exact wpAny_Return_some (thn (he pins s σ H _ I h) fun v s1 ⟨x, H1, I1, r1, q1⟩ => ⟨x, σ, H1, I1, r1, q1⟩)
def tIfS (c : TT) (t u : TS) : TS := fun D σ H => c σ H fun b H1 => if b = true then t D σ H1 else u D σ H1
theorem ps_if {c : Expr} {a b : List Stmt} {tc : TT} (hc : PT X c tc) (ha : PSs X a t) (hb : PSs X b u) : PS X (.If c a b pos) (tIfS tc t u) := by
 intro pins s σ H D I h
 refine wpAny_If (thn (hc pins s σ H _ I h) fun d s1 ⟨H1, I1, q1⟩ => ?_)
 cases d with
 | true => exact ha pins s1 σ H1 D I1 q1
 | false => exact hb pins s1 σ H1 D I1 q1
def tNever : TS := fun _ _ _ => False
theorem ps_never : PS X st tNever := fun _ _ _ _ _ _ h => h.elim
end
abbrev TG := V -> St -> Hp -> (St -> Hp -> Prop) -> Prop
abbrev TGs := List V -> St -> Hp -> (St -> Hp -> Prop) -> Prop
def PG (X : Cx) (target : Expr) (t : TG) : Prop :=
 ∀ (pins : List (Addr × Obj)) (s : Shared) (σ : St) (H : Hp) (v : V) (u : Value) (Q : St -> Hp -> Prop), Inv X pins σ H s -> RelV v u -> t v σ H Q ->
  wpAny (model X.prog X.w) X.A (assign target X.env u) (fun _ s' => ∃ σ' H', Inv X pins σ' H' s' /\ Q σ' H') X.xe s
def PGs (X : Cx) (ts : List Expr) (t : TGs) : Prop :=
 ∀ (pins : List (Addr × Obj)) (s : Shared) (σ : St) (H : Hp) (vs : List V) (us : List Value) (Q : St -> Hp -> Prop), Inv X pins σ H s -> Vals vs us -> t vs σ H Q ->
  wpAny (model X.prog X.w) X.A (assignInOrder ((assignEach ts X.env).map (·.2)) us) (fun _ s' => ∃ σ' H', Inv X pins σ' H' s' /\ Q σ' H') X.xe s
section
variable {X : Cx} {pos : Pos}
def gName (i : Nat) : TG := fun v σ H Q => Q (σ.set i (some v)) H
theorem pg_name {i : Nat} {x : Str} (hN : X.N.Nodup) (hi : X.N[i]? = some x) (hx : Loc X.env.scope x) (hf : X.fn x = true \/ X.env.scope.names.lookup x = some .local := by first | exact .inl rfl | exact .inr rfl | assumption) : PG X (.Name x pos) (gName i) := by
 intro pins s σ H v u Q I r h
 exact wpAny_assign_Name (store_ok I hN hi hx r (fun s' I' => ⟨_, H, I', h⟩) hf)
def gNil : TGs := fun vs σ H Q => vs = [] /\ Q σ H
def gCons (t : TG) (u : TGs) : TGs := fun vs σ H Q => ∃ v r, vs = v :: r /\ t v σ H fun σ' H' => u r σ' H' Q
theorem pgs_nil : PGs X [] gNil := by
 intro pins s σ H vs us Q I r h
 obtain ⟨e, h⟩ := h
 subst e
 cases r
 exact assignInOrder_nil ⟨σ, H, I, h⟩
theorem pgs_cons {e : Expr} {es : List Expr} {t : TG} {u : TGs} (h1 : PG X e t) (h2 : PGs X es u)
  (hs : (assignEach (e :: es) X.env).map (·.2) = assign e X.env :: (assignEach es X.env).map (·.2) := by rfl) : PGs X (e :: es) (gCons t u) := by
 intro pins s σ H vs us Q I r h
 obtain ⟨v, vr, e1, h⟩ := h
 subst e1
 cases r with
 | cons r rr =>
  rw [hs]
  refine assignInOrder_cons (thn (h1 pins s σ H _ _ _ I r h) fun _ s1 ⟨σ1, H1, I1, q1⟩ => ?_)
  exact h2 pins s1 σ1 H1 _ _ Q I1 rr q1
def gTup (K : PySem.W.Frag) (n : Nat) (t : TGs) : TG := fun v σ H Q => ∃ a xs, v = .ref a /\ SqT K H a xs /\ xs.length = n /\ t xs σ H Q
theorem pg_tup {es : List Expr} {k : Nat} {t : TGs} {n : Nat} (hc : X.calm = true) (h : PGs X es t)
  (hn : (assignEach es X.env).length = n := by rfl) (hst : (assignEach es X.env).findIdx? (·.1) = none := by rfl) : PG X (.Tuple es k pos) (gTup X.K n t) := by
 intro pins s σ H v u Q I r hw
 obtain ⟨a, xs, e1, hq, hl, hw⟩ := hw
 subst e1
 cases r
 obtain ⟨its, rv, ht, hz⟩ := I.tuple hq
 refine assign_Tuple_tuple (I.ok.hd hc) ht (by simp [hn, ← hl, rv.length]) hst fun h' hx => ?_
 have I1 : Inv X pins σ H { s with heap := h' } := I.kept (t' := s.toks) fun b o e => hx b o (Nat.ne_of_lt (Heap.lt_size e)) e
 exact h pins _ σ H xs _ Q I1 (by simpa using rv) hw
def tAsg (te : TE) (g : TG) : TS := fun D σ H => te σ H fun x H1 => g x σ H1 D.nx
theorem ps_set {i : Nat} {x : Str} {e : Expr} {te : TE} {pos' : Pos} (hN : X.N.Nodup) (hi : X.N[i]? = some x) (hx : Loc X.env.scope x) (he : PE X e te) (hs : swapsWith e (some (.Name x pos')) pos.line X.env = pure false := by rfl) (hf : X.fn x = true \/ X.env.scope.names.lookup x = some .local := by first | exact .inl rfl | exact .inr rfl | assumption) :
  PS X (.Assign [.Name x pos'] e pos) (tAsg te (gName i)) := by
 intro pins s σ H D I h
 refine wpAny_Assign_Name (thn (he pins s σ H _ I h) fun v s1 ⟨y, H1, I1, r1, q1⟩ => ?_) hs
 exact store_ok I1 hN hi hx r1 (fun s2 I2 => ⟨_, H1, I2, q1⟩) hf
end
section
variable {X : Cx} {pos : Pos}
def tWhile (c : TT) (tb : TS) : TS := fun D σ H => ∃ W : Nat -> St -> Hp -> Prop, (∃ m, W m σ H) /\ ∀ m σ H, W m σ H ->
 c σ H fun b H1 => if b = true then ∃ N : St -> Hp -> Prop, (∀ σ' H', N σ' H' -> ∃ m', m' < m /\ W m' σ' H') /\ tb { D with nx := N, ct := N, bk := D.nx } σ H1 else D.nx σ H1
theorem ps_while {c : Expr} {body : List Stmt} {tc : TT} {tb : TS} (hp : PassesOwn (model X.prog X.w) X.A X.env X.xe) (hc : PT X c tc) (hb : PSs X body tb) : PS X (.While c body [] pos) (tWhile tc tb) := by
 intro pins s σ H D I h
 obtain ⟨W, ⟨m0, w0⟩, turn⟩ := h
 refine wpAny_While (codeAny_whileLoop (fun n s' => ∃ σ' H', Inv X pins σ' H' s' /\ W n σ' H') ?_ m0 ⟨σ, H, I, w0⟩)
 rintro n s1 ⟨σ1, H1, I1, w1⟩
 refine wpAny_passesOwn hp (thn (hc pins s1 σ1 H1 _ I1 (turn n σ1 H1 w1)) fun b s2 ⟨H2, I2, q2⟩ => ?_)
 cases b with
 | true =>
  obtain ⟨N, hN, q2⟩ := q2
  rw [if_pos rfl]
  refine wpAny_passesOwn hp (thn (hb pins s2 σ1 H2 _ I2 q2) fun f s3 q3 => ?_)
  cases f with
  | next =>
   obtain ⟨σ3, H3, I3, n3⟩ := q3
   obtain ⟨m', hm, w3⟩ := hN σ3 H3 n3
   exact ⟨m', hm, σ3, H3, I3, w3⟩
  | cont =>
   obtain ⟨σ3, H3, I3, n3⟩ := q3
   obtain ⟨m', hm, w3⟩ := hN σ3 H3 n3
   exact ⟨m', hm, σ3, H3, I3, w3⟩
  | brk => exact q3
  | ret v => exact q3
 | false =>
  rw [if_neg Bool.false_ne_true]
  exact wpAny_execs_nil ⟨σ1, H2, I2, q2⟩
end
structure It where
 go : Nat -> Hp -> Prop
 yld : Nat -> Hp -> V -> Hp -> Prop
 stop : Nat -> Hp -> Prop
def FpOk (X : Cx) (pins : List (Addr × Obj)) (H : Hp) (b : Addr) : Prop :=
 H b = none /\ b ≠ X.env.locals /\ b ∉ X.fs /\ (b ∈ X.ex \/ X.s₀.heap.objs.size <= b) /\ (∀ x c, X.env.cells.lookup x = some c -> c ≠ b) /\ ∀ p ∈ X.pn ++ pins, p.1 ≠ b
theorem Inv.fpOk {X : Cx} {pins : List (Addr × Obj)} {σ : St} {H H' : Hp} {s : Shared} {b : Addr} (I : Inv X pins σ H s) (hb : s.heap.objs.size <= b) (hn : H' b = none) : FpOk X pins H' b := by
 refine ⟨hn, Nat.ne_of_gt (Nat.lt_of_lt_of_le I.lt hb), I.nofs hb, .inr (Nat.le_trans I.sz hb), fun x c e z => ?_, fun p hp z => ?_⟩
 ·obtain ⟨v, q⟩ := I.cell x c e
  exact absurd (Nat.lt_of_lt_of_le q.lt (by rw [z]; exact hb)) (Nat.lt_irrefl _)
 ·exact absurd (Nat.lt_of_lt_of_le (Heap.lt_size (I.pin p hp).1) (by rw [z]; exact hb)) (Nat.lt_irrefl _)
structure Turn (P : Program) (w : World) (K : PySem.W.Frag) (tg : Expr) (J : It) (fp : List Addr) (it : Addr) (tn : Nat -> Heap -> Prop) : Prop where
 mem : it ∈ fp
 obj : ∀ i h, tn i h -> ∀ b ∈ fp, ∃ o, h.get? b = some o /\ ∀ v, o.data ≠ .cell v
 keep : ∀ i h h', tn i h -> (∀ b ∈ fp, ∀ o, h.get? b = some o -> h'.get? b = some o) -> tn i h'
 item : ∀ (X : Cx), X.prog = P -> X.w = w -> X.K = K -> X.calm = true -> ∀ (i : Nat) (pins : List (Addr × Obj)) (s : Shared) (σ : St) (H : Hp) (E : Value -> Shared -> Prop), Inv X pins σ H s -> (∀ b ∈ fp, FpOk X pins H b) -> tn i s.heap -> J.go i H ->
  wpAny (model P w) X.A (pyNext (.ref it)) (fun r s1 => ∃ u, r = some u /\
   wpAny (model P w) X.A (letOwnedTupleGo tg (.ref it) u) (fun _ s2 => ∃ x H', Inv X pins σ H' s2 /\ RelV x u /\ J.yld i H x H' /\ tn (i + 1) s2.heap /\ ∀ b ∈ fp, H' b = none) E s1) E s
 done : ∀ (X : Cx), X.prog = P -> X.w = w -> X.K = K -> X.calm = true -> ∀ (i : Nat) (pins : List (Addr × Obj)) (s : Shared) (σ : St) (H : Hp) (E : Value -> Shared -> Prop), Inv X pins σ H s -> (∀ b ∈ fp, FpOk X pins H b) -> tn i s.heap -> J.stop i H ->
  wpAny (model P w) X.A (pyNext (.ref it)) (fun r s1 => r = none /\ Inv X pins σ H s1) E s
 self : ∀ (A : Around) (i : Nat) (s : Shared) (Q : Value -> Shared -> Prop) (E : Value -> Shared -> Prop), tn i s.heap -> Q (.ref it) s -> wpAny (model P w) A (pyIter (.ref it)) Q E s
abbrev TI := St -> Hp -> (It -> Hp -> Prop) -> Prop
def PIE (X : Cx) (pins : List (Addr × Obj)) (σ : St) (tg : Expr) (R : It -> Hp -> Prop) (itv : Value) (s2 : Shared) : Prop :=
 ∃ (it : Addr) (fp : List Addr) (tn : Nat -> Heap -> Prop) (J : It) (H' : Hp), itv = .ref it /\ Inv X pins σ H' s2 /\ Turn X.prog X.w X.K tg J fp it tn /\ tn 0 s2.heap /\ (∀ b ∈ fp, FpOk X pins H' b) /\ R J H'
def PI (X : Cx) (tg iter : Expr) (wi : TI) : Prop :=
 ∀ (pins : List (Addr × Obj)) (s : Shared) (σ : St) (H : Hp) (R : It -> Hp -> Prop), Inv X pins σ H s -> wi σ H R ->
  wpAny (model X.prog X.w) X.A (eval iter X.env) (fun v s1 => wpAny (model X.prog X.w) X.A (pyIter v) (PIE X pins σ tg R) X.xe s1) X.xe s
theorem go_of {M : Model} {A : Around} {E : Value -> Shared -> Prop} {s : Shared} {tg : Expr} {it : Addr} {u : Value} {o : Obj} {n : String} {vs : Array Value} {Q : Unit -> Shared -> Prop} (ho : s.heap.get? it = some o) (hc : o.cls = .type n) (hd : o.data = .fields vs)
  (hn : ["enumerate", "zip", "dict_itemiterator", "dict_reverseitemiterator", "odict_iterator", "itertools.zip_longest", "itertools.pairwise"].contains n = false) (hQ : Q () s) : wpAny M A (letOwnedTupleGo tg (.ref it) u) Q E s := by
 unfold letOwnedTupleGo
 cases tg <;> first
  | exact wpAny_pure hQ
  | (cases u <;> first
    | exact wpAny_pure hQ
    | (refine wpAny_bind (wpAny_load ho ?_)
       rw [hc, hd]
       show wpAny M A (if (["enumerate", "zip", "dict_itemiterator", "dict_reverseitemiterator", "odict_iterator", "itertools.zip_longest", "itertools.pairwise"].contains n && vs[0]? == some (rawInt _)) = true then _ else _) Q E s
       rw [if_neg (by intro h; rw [hn, Bool.false_and] at h; cases h)]
       exact wpAny_pure hQ))
def Itl (K : PySem.W.Frag) (a : Addr) : It :=
 ⟨fun i H => ∃ xs x, SqL K H a xs /\ xs[i]? = some x, fun i H x H' => H' = H /\ ∀ xs, SqL K H a xs -> xs[i]? = some x, fun i H => ∃ xs, SqL K H a xs /\ xs.length <= i⟩
def Itt (K : PySem.W.Frag) (a : Addr) : It :=
 ⟨fun i H => ∃ xs x, SqT K H a xs /\ xs[i]? = some x, fun i H x H' => H' = H /\ ∀ xs, SqT K H a xs -> xs[i]? = some x, fun i H => ∃ xs, SqT K H a xs /\ xs.length <= i⟩
def Itr (lo : Int) (n : Nat) : It := ⟨fun i _ => i < n, fun i H x H' => H' = H /\ x = .int (lo + i), fun i _ => n <= i⟩
theorem turn_list {P : Program} {w : World} {K : PySem.W.Frag} {tg : Expr} (a it : Addr) : Turn P w K tg (Itl K a) [it] it (fun i h => h.IsListIter it a i) where
 mem := by simp
 obj := fun i h st b hb => by
  have e : b = it := by simpa using hb
  subst e
  obtain ⟨o, e, c, d⟩ := st
  exact ⟨o, e, fun v z => by rw [d] at z; cases z⟩
 keep := fun i h h' st k => st.at fun o e => k it (by simp) o e
 item := by
  intro X hP hw hK hc i pins s σ H E I hf st hg
  subst hP hw hK
  obtain ⟨xs, x, hq, hx⟩ := hg
  obtain ⟨its, rv, p, hz⟩ := I.list hq
  obtain ⟨u, hu, ru⟩ := rv.get hx
  obtain ⟨f0, f1, f2, f3, f4, f5⟩ := hf it (by simp)
  refine wpAny_pyNext_list_item st p.isList (x := u) (by simpa using hu) fun h' st' sb => ?_
  have I1 : Inv X pins σ H { s with heap := h' } := I.turned (t' := s.toks) (fun b o hb e => (sb.2 b hb).trans e) f0 f1 f3 f4 f5
  obtain ⟨o, e, c, d⟩ := id st'
  exact ⟨u, rfl, go_of (s := { s with heap := h' }) e c d (by decide) ⟨x, H, I1, ru, ⟨rfl, fun ys hy => by rw [I.list_inj hy hq]; exact hx⟩, st', fun b hb => (hf b hb).1⟩⟩
 done := by
  intro X hP hw hK hc i pins s σ H E I hf st hg
  subst hP hw hK
  obtain ⟨xs, hq, hx⟩ := hg
  obtain ⟨its, rv, p, hz⟩ := I.list hq
  obtain ⟨f0, f1, f2, f3, f4, f5⟩ := hf it (by simp)
  have hl := rv.length
  exact wpAny_pyNext_list_end (I.ok.hd hc) st p.isList (by simp; omega) fun h' eb => ⟨rfl, I.turned (t' := s.toks) (fun b o hb e => eb b o hb e) f0 f1 f3 f4 f5⟩
 self := fun _ _ _ _ _ st h => wpAny_pyIter_listiter st h
theorem turn_tuple {P : Program} {w : World} {K : PySem.W.Frag} {tg : Expr} (a it : Addr) : Turn P w K tg (Itt K a) [it] it (fun i h => h.IsTupleIter it a i) where
 mem := by simp
 obj := fun i h st b hb => by
  have e : b = it := by simpa using hb
  subst e
  obtain ⟨o, e, c, d⟩ := st
  exact ⟨o, e, fun v z => by rw [d] at z; cases z⟩
 keep := fun i h h' st k => st.at fun o e => k it (by simp) o e
 item := by
  intro X hP hw hK hc i pins s σ H E I hf st hg
  subst hP hw hK
  obtain ⟨xs, x, hq, hx⟩ := hg
  obtain ⟨its, rv, p, hz⟩ := I.tuple hq
  obtain ⟨u, hu, ru⟩ := rv.get hx
  obtain ⟨f0, f1, f2, f3, f4, f5⟩ := hf it (by simp)
  refine wpAny_pyNext_tuple_item st (show s.heap.IsTuple a its.toArray from p) (x := u) (by simpa using hu) fun h' st' sb => ?_
  have I1 : Inv X pins σ H { s with heap := h' } := I.turned (t' := s.toks) (fun b o hb e => (sb.2 b hb).trans e) f0 f1 f3 f4 f5
  obtain ⟨o, e, c, d⟩ := id st'
  exact ⟨u, rfl, go_of (s := { s with heap := h' }) e c d (by decide) ⟨x, H, I1, ru, ⟨rfl, fun ys hy => by rw [I.tuple_inj hy hq]; exact hx⟩, st', fun b hb => (hf b hb).1⟩⟩
 done := by
  intro X hP hw hK hc i pins s σ H E I hf st hg
  subst hP hw hK
  obtain ⟨xs, hq, hx⟩ := hg
  obtain ⟨its, rv, p, hz⟩ := I.tuple hq
  obtain ⟨f0, f1, f2, f3, f4, f5⟩ := hf it (by simp)
  have hl := rv.length
  exact wpAny_pyNext_tuple_end (I.ok.hd hc) st (show s.heap.IsTuple a its.toArray from p) (by simp; omega) fun h' eb => ⟨rfl, I.turned (t' := s.toks) (fun b o hb e => eb b o hb e) f0 f1 f3 f4 f5⟩
 self := fun _ _ _ _ _ st h => wpAny_pyIter_tupleiter st h
theorem turn_range {P : Program} {w : World} {K : PySem.W.Frag} {tg : Expr} (it : Addr) (lo : Int) (n : Nat) : Turn P w K tg (Itr lo n) [it] it (fun i h => IsRangeIter h it (lo + (i : Nat) * 1) ((n : Int) - (i : Nat)) 1) where
 mem := by simp
 obj := fun i h st b hb => by
  have e : b = it := by simpa using hb
  subst e
  exact ⟨_, st, fun v z => by
   have z' : Data.fields _ = Data.cell v := z
   cases z'⟩
 keep := fun i h h' st k => k it (by simp) _ st
 item := by
  intro X hP hw hK hc i pins s σ H E I hf st hg
  subst hP hw hK
  obtain ⟨f0, f1, f2, f3, f4, f5⟩ := hf it (by simp)
  have W := Walks.range (prog := X.prog) (w := X.w) (I.ok.hd hc) it lo 1 n
  refine W.item i s _ _ hg st fun v h' tk hv st' kk => ?_
  obtain ⟨t, rfl⟩ := hv
  have I1 : Inv X pins σ H { s with heap := h', toks := tk } := I.turned (fun b o hb e => kk b o (by simpa using hb) e) f0 f1 f3 f4 f5
  refine ⟨_, rfl, go_of (s := { s with heap := h', toks := tk }) (n := "range_iterator") st' rfl rfl (by decide) ⟨.int (lo + i), H, I1, ⟨t, ?_⟩, ⟨rfl, rfl⟩, st', fun b hb => (hf b hb).1⟩⟩
  rw [Int.mul_one]
 done := by
  intro X hP hw hK hc i pins s σ H E I hf st hg
  subst hP hw hK
  obtain ⟨f0, f1, f2, f3, f4, f5⟩ := hf it (by simp)
  exact wpAny_pyNext_range_end (I.ok.hd hc) st (by have : n <= i := hg; omega) fun h' eb => ⟨rfl, I.turned (t' := s.toks) (fun b o hb e => eb b o hb e) f0 f1 f3 f4 f5⟩
 self := fun _ _ _ _ _ st h => wpAny_pyIter_rangeiter st h
end L2
namespace L2
open PySem PySem.Spec PyProof.Rows
section
variable {X : Cx} {tg : Expr}
def iList (K : PySem.W.Frag) (tl : TE) : TI := fun σ H R => tl σ H fun x H1 => ∃ a, x = .ref a /\ (∃ xs, SqL K H1 a xs) /\ R (Itl K a) H1
def iTup (K : PySem.W.Frag) (tl : TE) : TI := fun σ H R => tl σ H fun x H1 => ∃ a, x = .ref a /\ (∃ xs, SqT K H1 a xs) /\ R (Itt K a) H1
theorem pi_list {l : Expr} {tl : TE} (hl : PE X l tl) : PI X tg l (iList X.K tl) := by
 intro pins s σ H R I h
 refine thn (hl pins s σ H _ I h) fun v s1 ⟨x, H1, I1, r1, q1⟩ => ?_
 obtain ⟨a, e, ⟨xs, hq⟩, q⟩ := q1
 subst e
 cases r1
 obtain ⟨its, rv, p, hz⟩ := I1.list hq
 refine wpAny_pyIter_list p.isList ?_
 refine ⟨s1.heap.objs.size, [s1.heap.objs.size], _, _, H1, rfl, I1.kept (t' := s1.toks) fun b o e => Heap.get?_push_of_some _ e, turn_list a _, ⟨_, Heap.get?_push_size _ rfl, rfl, rfl⟩, fun b hb => ?_, q⟩
 have e : b = s1.heap.objs.size := by simpa using hb
 subst e
 exact I1.fpOk (Nat.le_refl _) (I1.hok.fresh (Nat.le_refl _))
theorem pi_tup {l : Expr} {tl : TE} (hl : PE X l tl) : PI X tg l (iTup X.K tl) := by
 intro pins s σ H R I h
 refine thn (hl pins s σ H _ I h) fun v s1 ⟨x, H1, I1, r1, q1⟩ => ?_
 obtain ⟨a, e, ⟨xs, hq⟩, q⟩ := q1
 subst e
 cases r1
 obtain ⟨its, rv, p, hz⟩ := I1.tuple hq
 refine wpAny_pyIter_tuple (show s1.heap.IsTuple a its.toArray from p) ?_
 refine ⟨s1.heap.objs.size, [s1.heap.objs.size], _, _, H1, rfl, I1.kept (t' := s1.toks) fun b o e => Heap.get?_push_of_some _ e, turn_tuple a _, ⟨_, Heap.get?_push_size _ rfl, rfl, rfl⟩, fun b hb => ?_, q⟩
 have e : b = s1.heap.objs.size := by simpa using hb
 subst e
 exact I1.fpOk (Nat.le_refl _) (I1.hok.fresh (Nat.le_refl _))
theorem range_it {pins : List (Addr × Obj)} {σ : St} {H : Hp} {s : Shared} {R : It -> Hp -> Prop} {E : Value -> Shared -> Prop} {lo hi : Int} {t u v : Tok} {tk : Nat} (I : Inv X pins σ H s) (h1 : -(2 ^ 62) <= lo) (h2 : lo < 2 ^ 62) (h3 : -(2 ^ 62) <= hi) (h4 : hi < 2 ^ 62)
  (q : R (Itr lo (hi - lo).toNat) H) : wpAny (model X.prog X.w) X.A (pyIter (.ref s.heap.objs.size)) (PIE X pins σ tg R) E { s with heap := s.heap.push { cls := .type "range", data := .fields #[.int lo t, .int hi u, .int 1 v] }, toks := tk } := by
 refine wpAny_pyIter_range (IsRange.new ..) (small_one h1 h2 h3 h4) ?_
 have I1 : Inv X pins σ H { s with heap := s.heap.push { cls := .type "range", data := .fields #[.int lo t, .int hi u, .int 1 v] }, toks := tk } := I.kept fun b o e => Heap.get?_push_of_some _ e
 refine ⟨(s.heap.push { cls := .type "range", data := .fields #[.int lo t, .int hi u, .int 1 v] }).objs.size, [(s.heap.push { cls := .type "range", data := .fields #[.int lo t, .int hi u, .int 1 v] }).objs.size], _, _, H, rfl,
  I1.kept (t' := tk) fun b o e => Heap.get?_push_of_some _ e, turn_range _ lo (hi - lo).toNat, ?_, fun b hb => ?_, q⟩
 ·have e1 : lo + ((0 : Nat) : Int) * 1 = lo := by simp
  have e2 : (((hi - lo).toNat : Nat) : Int) - ((0 : Nat) : Int) = Builtin.Range.rangeSize lo hi 1 := by rw [rangeSize_one]; split <;> omega
  show IsRangeIter _ _ (lo + ((0 : Nat) : Int) * 1) ((((hi - lo).toNat : Nat) : Int) - ((0 : Nat) : Int)) 1
  rw [e1, e2]
  exact Heap.get?_push_size _ rfl
 ·have e : b = (s.heap.push { cls := .type "range", data := .fields #[.int lo t, .int hi u, .int 1 v] }).objs.size := by simpa using hb
  subst e
  exact I1.fpOk (Nat.le_refl _) (I1.hok.fresh (Nat.le_refl _))
def iRng1 (ta : TA) : TI := fun σ H R => ta σ H fun vs H1 => ∃ j : Int, vs = [.int j] /\ -(2 ^ 62) <= j /\ j < 2 ^ 62 /\ R (Itr 0 j.toNat) H1
theorem pi_range1 {a : Expr} {ta : TA} {p pos : Pos} (hg : Gl X "range") (hm : X.mg "range" = none) (ha : PA X [a] ta) (hs : starEach [a] X.env = [(false, eval a X.env)] := by rfl) : PI X tg (.Call (.Name "range" p) [a] [] pos) (iRng1 ta) := by
 intro pins s σ H R I h
 refine Call_ (ld_blt I hg hm boot_range (PyProof.Rows.callWith_type1 (thn (ha pos pins s σ H _ I h) fun us s1 ⟨vs, H1, I1, r1, q1⟩ => ?_) hs rfl))
 obtain ⟨j, e, q1, q2, q⟩ := q1
 subst e
 cases r1 with
 | cons r rr =>
  cases rr
  obtain ⟨t, rfl⟩ := r
  exact call_range_1 (range_it I1 (by omega) (by omega) q1 q2 (by simpa using q))
def tFor (wi : TI) (g : TG) (tb : TS) : TS := fun D σ H => wi σ H fun J H1 => ∃ W : Nat -> Nat -> St -> Hp -> Prop, (∃ m, W 0 m σ H1) /\ ∀ i m σ H, W i m σ H ->
 (J.stop i H /\ D.nx σ H) \/ (J.go i H /\ ∃ N : St -> Hp -> Prop, (∀ σ' H', N σ' H' -> ∃ m', m' < m /\ W (i + 1) m' σ' H') /\ ∀ x H', J.yld i H x H' -> g x σ H' fun σ2 H2 => tb { D with nx := N, ct := N, bk := D.nx } σ2 H2)
def pinsAt (fp : List Addr) (h : Heap) : List (Addr × Obj) := fp.filterMap fun b => (h.get? b).map fun o => (b, o)
theorem mem_pinsAt {fp : List Addr} {h : Heap} {b : Addr} {o : Obj} (hb : b ∈ fp) (e : h.get? b = some o) : (b, o) ∈ pinsAt fp h := List.mem_filterMap.mpr ⟨b, hb, by rw [e]; rfl⟩
theorem of_pinsAt {fp : List Addr} {h : Heap} {p : Addr × Obj} (hp : p ∈ pinsAt fp h) : p.1 ∈ fp /\ h.get? p.1 = some p.2 := by
 obtain ⟨b, hb, e⟩ := List.mem_filterMap.mp hp
 cases q : h.get? b with
 | none => rw [q] at e; cases e
 | some o =>
  rw [q] at e
  have e' : (b, o) = p := Option.some.inj e
  subst e'
  exact ⟨hb, q⟩
theorem Inv.pinned {pins : List (Addr × Obj)} {σ : St} {H : Hp} {s : Shared} {fp : List Addr} (I : Inv X pins σ H s) (hf : ∀ b ∈ fp, FpOk X pins H b) (ho : ∀ b ∈ fp, ∃ o, s.heap.get? b = some o /\ ∀ v, o.data ≠ .cell v) : Inv X (pins ++ pinsAt fp s.heap) σ H s :=
 I.pins_of fun p hp => (List.mem_append.mp hp).elim (fun z => I.pin p (List.mem_append_right _ z)) fun z => by
  obtain ⟨hb, e⟩ := of_pinsAt z
  obtain ⟨f0, f1, f2, _⟩ := hf p.1 hb
  obtain ⟨o, e', d⟩ := ho p.1 hb
  rw [e] at e'; cases e'
  exact ⟨e, f0, f1, f2, d⟩
theorem Inv.unpinned {pins pl : List (Addr × Obj)} {σ : St} {H : Hp} {s : Shared} (I : Inv X (pins ++ pl) σ H s) : Inv X pins σ H s := I.pins_of fun p hp => I.pin p (List.mem_append_right _ (List.mem_append_left _ hp))
theorem ps_for {iter : Expr} {body : List Stmt} {wi : TI} {g : TG} {tb : TS} {pos : Pos} (hp : PassesOwn (model X.prog X.w) X.A X.env X.xe) (hc : X.calm = true) (hi : PI X tg iter wi) (hg : PG X tg g) (hb : PSs X body tb)
  (hs : ∀ x, foldedSetIterable iter X.env x = pure x := by intro _; rfl) : PS X (.For tg iter body [] pos) (tFor wi g tb) := by
 intro pins s σ H D I h
 refine wpAny_For (thn (hi pins s σ H _ I h) fun v s1 h1 => thn h1 fun itv s2 h2 => ?_) hs
 obtain ⟨it, fp, tn, J, H2, e, I2, T, st2, f2, W, ⟨m0, w0⟩, turn⟩ := h2
 subst e
 have stat : ∀ {H' : Hp}, (∀ b ∈ fp, H' b = none) -> ∀ b ∈ fp, FpOk X pins H' b := fun hn b hb => ⟨hn b hb, (f2 b hb).2⟩
 refine codeAny_forLoop_any (fun n s' => ∃ i σ' H', Inv X pins σ' H' s' /\ tn i s'.heap /\ (∀ b ∈ fp, H' b = none) /\ W i n σ' H') ?_ m0 ⟨0, σ, H2, I2, st2, fun b hb => (f2 b hb).1, w0⟩
 rintro n s3 ⟨i, σ3, H3, I3, st3, fr3, w3⟩
 rcases turn i n σ3 H3 w3 with ⟨stop, qn⟩ | ⟨go, N, hN, step⟩
 ·refine wpAny_passesOwn hp (thn (T.done X rfl rfl rfl hc i pins s3 σ3 H3 X.xe I3 (stat fr3) st3 stop) fun r s4 ⟨hr, I4⟩ => ?_)
  subst hr
  exact wpAny_execs_nil ⟨σ3, H3, I4, qn⟩
 ·refine wpAny_passesOwn hp (thn (T.item X rfl rfl rfl hc i pins s3 σ3 H3 X.xe I3 (stat fr3) st3 go) fun r s4 ⟨u, hr, h4⟩ => ?_)
  subst hr
  refine wpAny_passesOwn hp (thn h4 fun _ s5 ⟨x, H5, I5, r5, y5, st5, fr5⟩ => ?_)
  have I5' := I5.pinned (stat fr5) (T.obj _ _ st5)
  refine wpAny_passesOwn hp (thn (hg _ s5 σ3 H5 x u _ I5' r5 (step x H5 y5)) fun _ s6 ⟨σ6, H6, I6, q6⟩ => ?_)
  refine wpAny_passesOwn hp (thn (hb _ s6 σ6 H6 _ I6 q6) fun f s7 q7 => ?_)
  have again : ∀ {σ7 : St} {H7 : Hp}, Inv X (pins ++ pinsAt fp s5.heap) σ7 H7 s7 -> N σ7 H7 -> ∃ m, m < n /\ ∃ i σ' H', Inv X pins σ' H' s7 /\ tn i s7.heap /\ (∀ b ∈ fp, H' b = none) /\ W i m σ' H' := fun {σ7 H7} I7 n7 => by
   obtain ⟨m', hm, w7⟩ := hN σ7 H7 n7
   refine ⟨m', hm, i + 1, σ7, H7, I7.unpinned, T.keep _ _ _ st5 fun b hb o e => (I7.pin (b, o) (List.mem_append_right _ (List.mem_append_right _ (mem_pinsAt hb e)))).1, fun b hb => ?_, w7⟩
   obtain ⟨o, e, d⟩ := T.obj _ _ st5 b hb
   exact (I7.pin (b, o) (List.mem_append_right _ (List.mem_append_right _ (mem_pinsAt hb e)))).2.1
  cases f with
  | next => obtain ⟨σ7, H7, I7, n7⟩ := q7; exact again I7 n7
  | cont => obtain ⟨σ7, H7, I7, n7⟩ := q7; exact again I7 n7
  | brk => obtain ⟨σ7, H7, I7, q7⟩ := q7; exact ⟨σ7, H7, I7.unpinned, q7⟩
  | ret v => obtain ⟨x7, σ7, H7, I7, r7, q7⟩ := q7; exact ⟨x7, σ7, H7, I7.unpinned, r7, q7⟩
end
theorem for_list {K : PySem.W.Frag} {a : Addr} {xs : List V} {g : TG} {tb : TS} {D : Ends} {σ : St} {H : Hp} (Pv : Nat -> St -> Hp -> Prop) (h0 : Pv 0 σ H) (hl : ∀ i σ H, i <= xs.length -> Pv i σ H -> SqL K H a xs)
  (hs : ∀ i x σ H, xs[i]? = some x -> Pv i σ H -> g x σ H fun σ2 H2 => tb { D with nx := Pv (i + 1), ct := Pv (i + 1), bk := D.nx } σ2 H2) (hd : ∀ σ H, Pv xs.length σ H -> D.nx σ H) :
  ∃ W : Nat -> Nat -> St -> Hp -> Prop, (∃ m, W 0 m σ H) /\ ∀ i m σ H, W i m σ H ->
   ((Itl K a).stop i H /\ D.nx σ H) \/ ((Itl K a).go i H /\ ∃ N : St -> Hp -> Prop, (∀ σ' H', N σ' H' -> ∃ m', m' < m /\ W (i + 1) m' σ' H') /\ ∀ x H', (Itl K a).yld i H x H' -> g x σ H' fun σ2 H2 => tb { D with nx := N, ct := N, bk := D.nx } σ2 H2) := by
 refine ⟨fun i m σ H => m = xs.length - i /\ i <= xs.length /\ Pv i σ H, ⟨xs.length, by simp, Nat.zero_le _, h0⟩, ?_⟩
 rintro i m σ H ⟨rfl, hi, p⟩
 have q := hl i σ H hi p
 by_cases hlt : i < xs.length
 ·refine .inr ⟨⟨xs, xs[i], q, by simp [hlt]⟩, Pv (i + 1), fun σ' H' p' => ⟨xs.length - (i + 1), by omega, rfl, hlt, p'⟩, fun x H' y => ?_⟩
  obtain ⟨e, y⟩ := y
  subst e
  exact hs i x σ _ (y xs q) p
 ·have e : i = xs.length := by omega
  subst e
  exact .inl ⟨⟨xs, q, Nat.le_refl _⟩, hd σ H p⟩
theorem for_range {lo : Int} {n : Nat} {g : TG} {tb : TS} {D : Ends} {σ : St} {H : Hp} (Pv : Nat -> St -> Hp -> Prop) (h0 : Pv 0 σ H)
  (hs : ∀ i σ H, i < n -> Pv i σ H -> g (.int (lo + i)) σ H fun σ2 H2 => tb { D with nx := Pv (i + 1), ct := Pv (i + 1), bk := D.nx } σ2 H2) (hd : ∀ σ H, Pv n σ H -> D.nx σ H) :
  ∃ W : Nat -> Nat -> St -> Hp -> Prop, (∃ m, W 0 m σ H) /\ ∀ i m σ H, W i m σ H ->
   ((Itr lo n).stop i H /\ D.nx σ H) \/ ((Itr lo n).go i H /\ ∃ N : St -> Hp -> Prop, (∀ σ' H', N σ' H' -> ∃ m', m' < m /\ W (i + 1) m' σ' H') /\ ∀ x H', (Itr lo n).yld i H x H' -> g x σ H' fun σ2 H2 => tb { D with nx := N, ct := N, bk := D.nx } σ2 H2) := by
 refine ⟨fun i m σ H => m = n - i /\ i <= n /\ Pv i σ H, ⟨n, by simp, Nat.zero_le _, h0⟩, ?_⟩
 rintro i m σ H ⟨rfl, hi, p⟩
 by_cases hlt : i < n
 ·refine .inr ⟨hlt, Pv (i + 1), fun σ' H' p' => ⟨n - (i + 1), by omega, rfl, hlt, p'⟩, fun x H' y => ?_⟩
  obtain ⟨e, y⟩ := y
  subst e y
  exact hs i σ _ hlt p
 ·have e : i = n := by omega
  subst e
  exact .inl ⟨Nat.le_refl _, hd σ H p⟩
theorem while_by {c : TT} {tb : TS} {D : Ends} {σ : St} {H : Hp} (Pv : St -> Hp -> Prop) (μ : St -> Hp -> Nat) (h0 : Pv σ H)
  (hs : ∀ σ H, Pv σ H -> c σ H fun b H1 => if b = true then tb { D with nx := fun σ' H' => Pv σ' H' /\ μ σ' H' < μ σ H, ct := fun σ' H' => Pv σ' H' /\ μ σ' H' < μ σ H, bk := D.nx } σ H1 else D.nx σ H1)
  (mono : ∀ σ H Q Q', (∀ b H1, Q b H1 -> Q' b H1) -> c σ H Q -> c σ H Q') : tWhile c tb D σ H := by
 refine ⟨fun m σ H => m = μ σ H /\ Pv σ H, ⟨_, rfl, h0⟩, ?_⟩
 rintro m σ H ⟨rfl, p⟩
 refine mono σ H _ _ (fun b H1 q => ?_) (hs σ H p)
 cases b with
 | true => exact ⟨_, fun σ' H' ⟨p', l⟩ => ⟨_, l, rfl, p'⟩, q⟩
 | false => exact q
end L2
namespace L2
open PySem PySem.Spec PyProof.Rows
abbrev R2 := V -> V -> Hp -> VK -> Prop
def OpR (X : Cx) (f : Value -> Value -> Sem Value) (r : R2) : Prop :=
 ∀ (pins : List (Addr × Obj)) (s : Shared) (σ : St) (H : Hp) (x y : V) (v u : Value) (Q : VK), Inv X pins σ H s -> RelV x v -> RelV y u -> r x y H Q ->
  wpAny (model X.prog X.w) X.A (f v u) (EP X pins σ Q) X.xe s
def UnR (X : Cx) (f : Value -> Sem Value) (r : V -> Hp -> VK -> Prop) : Prop :=
 ∀ (pins : List (Addr × Obj)) (s : Shared) (σ : St) (H : Hp) (x : V) (v : Value) (Q : VK), Inv X pins σ H s -> RelV x v -> r x H Q ->
  wpAny (model X.prog X.w) X.A (f v) (EP X pins σ Q) X.xe s
def CallR (X : Cx) (f : Value) (r : List V -> Hp -> VK -> Prop) : Prop :=
 ∀ (pins : List (Addr × Obj)) (s : Shared) (σ : St) (H : Hp) (xs : List V) (us : List Value) (Q : VK), Inv X pins σ H s -> Vals xs us -> r xs H Q ->
  wpAny (model X.prog X.w) X.A (call f us) (EP X pins σ Q) X.xe s
def TruR (X : Cx) (r : V -> Hp -> (Bool -> Hp -> Prop) -> Prop) : Prop :=
 ∀ (pins : List (Addr × Obj)) (s : Shared) (σ : St) (H : Hp) (x : V) (v : Value) (Q : Bool -> Hp -> Prop), Inv X pins σ H s -> RelV x v -> r x H Q ->
  wpAny (model X.prog X.w) X.A (truthy v) (TP X pins σ Q) X.xe s
def tOp (r : R2) (ta tb : TE) : TE := fun σ H Q => ta σ H fun x H1 => tb σ H1 fun y H2 => r x y H2 Q
def tUn (r : V -> Hp -> VK -> Prop) (ta : TE) : TE := fun σ H Q => ta σ H fun x H1 => r x H1 Q
def rI (C : Int -> Int -> Prop) (g : Int -> Int -> V) : R2 := fun x y H Q => ∃ i j, x = .int i /\ y = .int j /\ C i j /\ Q (g i j) H
def rI0 (g : Int -> Int -> V) : R2 := fun x y H Q => ∃ i j, x = .int i /\ y = .int j /\ Q (g i j) H
def rU (g : Int -> V) : V -> Hp -> VK -> Prop := fun x H Q => ∃ i, x = .int i /\ Q (g i) H
section
variable {X : Cx} {a b c : Expr} {ta tb tc : TE} {pos : Pos}
theorem binT (ha : PE X a ta) (hb : PE X b tb) {pins : List (Addr × Obj)} {s : Shared} {σ : St} {H : Hp} {R : V -> V -> Hp -> Prop} (I : Inv X pins σ H s)
  (h : ta σ H fun x H1 => tb σ H1 fun y H2 => R x y H2) {Q : Value -> Shared -> Prop} {f : Value -> Value -> Sem Value}
  (hf : ∀ v u s2 x y H2, Inv X pins σ H2 s2 -> RelV x v -> RelV y u -> R x y H2 -> wpAny (model X.prog X.w) X.A (f v u) Q X.xe s2) :
  wpAny (model X.prog X.w) X.A (eval a X.env) (fun v s₁ => wpAny (model X.prog X.w) X.A (eval b X.env) (fun u s₂ => wpAny (model X.prog X.w) X.A (f v u) Q X.xe s₂) X.xe s₁) X.xe s := by
 refine thn (ha pins s σ H _ I h) fun v s1 ⟨x, H1, I1, r1, q1⟩ => ?_
 refine thn (hb pins s1 σ H1 _ I1 q1) fun u s2 ⟨y, H2, I2, r2, q2⟩ => ?_
 exact hf v u s2 x y H2 I2 r1 r2 q2
theorem pe_op {op : Operator} {r : R2} (ho : OpR X (binaryOp op) r) (ha : PE X a ta) (hb : PE X b tb) : PE X (.BinOp a op b pos) (tOp r ta tb) := by
 intro pins s σ H Q I h
 exact wpAny_BinOp (binT ha hb I h fun v u s2 x y H2 I2 rx ry q => ho pins s2 σ H2 x y v u Q I2 rx ry q)
theorem pe_un {op : UnaryOp} {r : V -> Hp -> VK -> Prop} (ho : UnR X (unaryOp op) r) (ha : PE X a ta) : PE X (.UnaryOp op a pos) (tUn r ta) := by
 intro pins s σ H Q I h
 exact UnaryOp_ (thn (ha pins s σ H _ I h) fun v s1 ⟨x, H1, I1, r1, q1⟩ => ho pins s1 σ H1 x v Q I1 r1 q1)
theorem opI {f : Value -> Value -> Sem Value} {C : Int -> Int -> Prop} {g : Int -> Int -> Int}
  (rule : ∀ (i j : Int) (t u : Tok) (s : Shared) (Q : Value -> Shared -> Prop) (E : Value -> Shared -> Prop), C i j -> Q (.int (g i j) s.toks) { s with toks := s.toks + 1 } -> wpAny (model X.prog X.w) X.A (f (.int i t) (.int j u)) Q E s) :
  OpR X f (rI C fun i j => .int (g i j)) := by
 intro pins s σ H x y v u Q I rx ry h
 obtain ⟨i, j, rfl, rfl, hc, q⟩ := h
 obtain ⟨t, rfl⟩ := rx
 obtain ⟨t', rfl⟩ := ry
 exact rule i j t t' s _ _ hc ⟨.int (g i j), H, I.tok _, ⟨_, rfl⟩, q⟩
theorem opI0 {f : Value -> Value -> Sem Value} {g : Int -> Int -> Int}
  (rule : ∀ (i j : Int) (t u : Tok) (s : Shared) (Q : Value -> Shared -> Prop) (E : Value -> Shared -> Prop), Q (.int (g i j) s.toks) { s with toks := s.toks + 1 } -> wpAny (model X.prog X.w) X.A (f (.int i t) (.int j u)) Q E s) :
  OpR X f (rI0 fun i j => .int (g i j)) := by
 intro pins s σ H x y v u Q I rx ry h
 obtain ⟨i, j, rfl, rfl, q⟩ := h
 obtain ⟨t, rfl⟩ := rx
 obtain ⟨t', rfl⟩ := ry
 exact rule i j t t' s _ _ ⟨.int (g i j), H, I.tok _, ⟨_, rfl⟩, q⟩
theorem opB0 {f : Value -> Value -> Sem Value} {g : Int -> Int -> Bool}
  (rule : ∀ (i j : Int) (t u : Tok) (s : Shared) (Q : Value -> Shared -> Prop) (E : Value -> Shared -> Prop), Q (.bool (g i j)) s -> wpAny (model X.prog X.w) X.A (f (.int i t) (.int j u)) Q E s) :
  OpR X f (rI0 fun i j => .bl (g i j)) := by
 intro pins s σ H x y v u Q I rx ry h
 obtain ⟨i, j, rfl, rfl, q⟩ := h
 obtain ⟨t, rfl⟩ := rx
 obtain ⟨t', rfl⟩ := ry
 exact rule i j t t' s _ _ ⟨.bl (g i j), H, I, rfl, q⟩
def CDiv (i j : Int) : Prop := 0 < j /\ j < 1073741824
def CPow (i j : Int) : Prop := 0 <= j /\ j <= 1000000 /\ i.natAbs < 2 ^ 64
def CMul (i j : Int) : Prop := (-(2 ^ 64) < i /\ i < 2 ^ 64) \/ (-(2 ^ 64) < j /\ j < 2 ^ 64)
theorem CMul.ok {i j : Int} (h : CMul i j) : IntMulOk i j := by
 rcases h with ⟨h1, h2⟩ | ⟨h1, h2⟩
 ·exact .of_left (intBits_le_64 h1 h2)
 ·exact .of_right (intBits_le_64 h1 h2)
theorem two_pow_nn (k : Nat) : (0 : Int) <= 2 ^ k := by
 rw [two_pow_cast]
 exact Int.natCast_nonneg _
theorem op_add : OpR X (binaryOp .Add) (rI0 fun i j => .int (i + j)) := opI0 fun _ _ _ _ _ _ _ q => add_int q
theorem op_sub : OpR X (binaryOp .Sub) (rI0 fun i j => .int (i - j)) := opI0 fun _ _ _ _ _ _ _ q => sub_int q
theorem op_mul : OpR X (binaryOp .Mult) (rI CMul fun i j => .int (i * j)) := opI fun _ _ _ _ _ _ _ hc q => mul_int q hc.ok
theorem op_fdiv : OpR X (binaryOp .FloorDiv) (rI CDiv fun i j => .int (i / j)) := opI fun i j _ _ _ _ _ hc q => by
 have h1 : (0 : Int) < j := hc.1
 have h2 : j < 1073741824 := hc.2
 exact floordiv_int (by omega) (by rw [Int.fdiv_eq_ediv_of_nonneg i (by omega)]; exact q) (.inl (PyProof.noPylong_small (by omega)))
theorem op_mod : OpR X (binaryOp .Mod) (rI (fun _ j => 0 < j) fun i j => .int (i % j)) := opI fun i j _ _ _ _ _ hc q => by
 have h1 : (0 : Int) < j := hc
 exact mod_int' (by omega) (by rw [Int.fmod_eq_emod_of_nonneg i (by omega)]; exact q)
theorem op_pow : OpR X (binaryOp .Pow) (rI CPow fun i j => .int (i ^ j.toNat)) := opI fun _ _ _ _ _ _ _ hc q => pow_int_small hc.1 hc.2.1 hc.2.2 q
theorem op_shl : OpR X (binaryOp .LShift) (rI CPow fun i j => .int (i * 2 ^ j.toNat)) := opI fun _ _ _ _ _ _ _ hc q => lshift_int_small hc.1 hc.2.1 hc.2.2 q
theorem op_shr : OpR X (binaryOp .RShift) (rI (fun _ j => 0 <= j) fun i j => .int (i / 2 ^ j.toNat)) := opI fun i j _ _ _ _ _ hc q =>
 rshift_int hc (by rw [Int.fdiv_eq_ediv_of_nonneg i (two_pow_nn _)]; exact q)
theorem op_and : OpR X (binaryOp .BitAnd) (rI0 fun i j => .int (Builtin.bitAnd i j)) := opI0 fun _ _ _ _ _ _ _ q => and_int q
theorem op_or : OpR X (binaryOp .BitOr) (rI0 fun i j => .int (Builtin.bitOr i j)) := opI0 fun _ _ _ _ _ _ _ q => or_int q
theorem unI {f : Value -> Sem Value} {g : Int -> Int}
  (rule : ∀ (i : Int) (t : Tok) (s : Shared) (Q : Value -> Shared -> Prop) (E : Value -> Shared -> Prop), Q (.int (g i) s.toks) { s with toks := s.toks + 1 } -> wpAny (model X.prog X.w) X.A (f (.int i t)) Q E s) :
  UnR X f (rU fun i => .int (g i)) := by
 intro pins s σ H x v Q I rx h
 obtain ⟨i, rfl, q⟩ := h
 obtain ⟨t, rfl⟩ := rx
 exact rule i t s _ _ ⟨.int (g i), H, I.tok _, ⟨_, rfl⟩, q⟩
theorem un_neg : UnR X (unaryOp .USub) (rU fun i => .int (-i)) := unI fun _ _ _ _ _ q => neg_int q
end
def scal : V -> V -> Bool
 | .non, .non => true | .non, .int _ => true | .int _, .non => true | .non, .bl _ => true | .bl _, .non => true | .non, .str _ => true | .str _, .non => true
 | .int _, .int _ => true | .bl _, .bl _ => true | .str _, .str _ => true | .byt _, .byt _ => true
 | .int _, .str _ => true | .str _, .int _ => true | .bl _, .str _ => true | .str _, .bl _ => true
 | _, _ => false
def rEq : R2 := fun x y H Q => scal x y = true /\ Q (.bl (decide (x = y))) H
def rNe : R2 := fun x y H Q => scal x y = true /\ Q (.bl (!decide (x = y))) H
theorem dec_int {i j : Int} : decide (V.int i = V.int j) = (i == j) := by
 rw [Bool.eq_iff_iff]
 simp
theorem dec_bl {i j : Bool} : decide (V.bl i = V.bl j) = (i == j) := by
 rw [Bool.eq_iff_iff]
 simp
theorem dec_str {i j : Str} : decide (V.str i = V.str j) = (i == j) := by
 rw [Bool.eq_iff_iff]
 simp
theorem dec_byt {i j : Array UInt8} : decide (V.byt i = V.byt j) = (i.toList == j.toList) := by
 rw [Bool.eq_iff_iff]
 cases i
 cases j
 simp
section
variable {X : Cx} {a b c : Expr} {ta tb tc : TE} {pos : Pos}
theorem fin_bl {pins : List (Addr × Obj)} {σ : St} {H : Hp} {s : Shared} {Q : VK} {k k' : Bool} (I : Inv X pins σ H s) (q : Q (.bl k) H) (e : k = k') : EP X pins σ Q (.bool k') s := by
 subst e
 exact ⟨.bl k, H, I, rfl, q⟩
theorem op_eq : OpR X (compareOp .Eq) rEq := by
 intro pins s σ H x y v u Q I rx ry h
 obtain ⟨hs, q⟩ := h
 cases x with
 | non =>
  cases rx
  cases y with
  | non => cases ry; exact PySem.EqNone.eq_none_none (fin_bl I q (by simp))
  | bl j => cases ry; exact PySem.EqNone.eq_none_bool (fin_bl I q (by simp))
  | int j => obtain ⟨t', rfl⟩ := ry; exact PySem.EqNone.eq_none_int (fin_bl I q (by simp))
  | str j => obtain ⟨t', rfl⟩ := ry; exact PySem.EqNone.eq_none_str (fin_bl I q (by simp))
  | _ => exact absurd (show false = true from hs) Bool.false_ne_true
 | bl i =>
  cases rx
  cases y with
  | non => cases ry; exact PySem.EqNone.eq_bool_none (fin_bl I q (by simp))
  | bl j => cases ry; exact eq_bool (fin_bl I q dec_bl)
  | str j => obtain ⟨t', rfl⟩ := ry; exact PySem.EqMixed.eq_bool_str (fin_bl I q (by simp))
  | _ => exact absurd (show false = true from hs) Bool.false_ne_true
 | int i =>
  obtain ⟨t, rfl⟩ := rx
  cases y with
  | non => cases ry; exact PySem.EqNone.eq_int_none (fin_bl I q (by simp))
  | int j => obtain ⟨t', rfl⟩ := ry; exact eq_int (fin_bl I q dec_int)
  | str j => obtain ⟨t', rfl⟩ := ry; exact PySem.EqMixed.eq_int_str (fin_bl I q (by simp))
  | _ => exact absurd (show false = true from hs) Bool.false_ne_true
 | str i =>
  obtain ⟨t, rfl⟩ := rx
  cases y with
  | non => cases ry; exact PySem.EqNone.eq_str_none (fin_bl I q (by simp))
  | bl j => cases ry; exact PySem.EqMixed.eq_str_bool (fin_bl I q (by simp))
  | int j => obtain ⟨t', rfl⟩ := ry; exact PySem.EqMixed.eq_str_int (fin_bl I q (by simp))
  | str j => obtain ⟨t', rfl⟩ := ry; exact eq_str (fin_bl I q dec_str)
  | _ => exact absurd (show false = true from hs) Bool.false_ne_true
 | byt i =>
  obtain ⟨t, rfl⟩ := rx
  cases y with
  | byt j => obtain ⟨t', rfl⟩ := ry; exact PySem.W.eq_bytes (fin_bl I q dec_byt)
  | _ => exact absurd (show false = true from hs) Bool.false_ne_true
 | _ => cases y <;> exact absurd (show false = true from hs) Bool.false_ne_true
theorem op_ne : OpR X (compareOp .NotEq) rNe := by
 intro pins s σ H x y v u Q I rx ry h
 obtain ⟨hs, q⟩ := h
 cases x with
 | non =>
  cases rx
  cases y with
  | non => cases ry; exact PySem.EqNone.ne_none_none (fin_bl I q (by simp))
  | bl j => cases ry; exact PySem.EqNone.ne_none_bool (fin_bl I q (by simp))
  | int j => obtain ⟨t', rfl⟩ := ry; exact PySem.EqNone.ne_none_int (fin_bl I q (by simp))
  | str j => obtain ⟨t', rfl⟩ := ry; exact PySem.EqNone.ne_none_str (fin_bl I q (by simp))
  | _ => exact absurd (show false = true from hs) Bool.false_ne_true
 | bl i =>
  cases rx
  cases y with
  | non => cases ry; exact PySem.EqNone.ne_bool_none (fin_bl I q (by simp))
  | bl j => cases ry; exact ne_bool (fin_bl I q (congrArg not dec_bl))
  | str j => obtain ⟨t', rfl⟩ := ry; exact PySem.EqMixed.ne_bool_str (fin_bl I q (by simp))
  | _ => exact absurd (show false = true from hs) Bool.false_ne_true
 | int i =>
  obtain ⟨t, rfl⟩ := rx
  cases y with
  | non => cases ry; exact PySem.EqNone.ne_int_none (fin_bl I q (by simp))
  | int j => obtain ⟨t', rfl⟩ := ry; exact ne_int (fin_bl I q (congrArg not dec_int))
  | str j => obtain ⟨t', rfl⟩ := ry; exact PySem.EqMixed.ne_int_str (fin_bl I q (by simp))
  | _ => exact absurd (show false = true from hs) Bool.false_ne_true
 | str i =>
  obtain ⟨t, rfl⟩ := rx
  cases y with
  | non => cases ry; exact PySem.EqNone.ne_str_none (fin_bl I q (by simp))
  | bl j => cases ry; exact PySem.EqMixed.ne_str_bool (fin_bl I q (by simp))
  | int j => obtain ⟨t', rfl⟩ := ry; exact PySem.EqMixed.ne_str_int (fin_bl I q (by simp))
  | str j => obtain ⟨t', rfl⟩ := ry; exact ne_str (fin_bl I q (congrArg not dec_str))
  | _ => exact absurd (show false = true from hs) Bool.false_ne_true
 | byt i =>
  obtain ⟨t, rfl⟩ := rx
  cases y with
  | byt j => obtain ⟨t', rfl⟩ := ry; exact PySem.W.ne_bytes (fin_bl I q (congrArg not dec_byt))
  | _ => exact absurd (show false = true from hs) Bool.false_ne_true
 | _ => cases y <;> exact absurd (show false = true from hs) Bool.false_ne_true
theorem op_lt : OpR X (compareOp .Lt) (rI0 fun i j => .bl (decide (i < j))) := opB0 fun _ _ _ _ _ _ _ q => lt_int q
theorem op_le : OpR X (compareOp .LtE) (rI0 fun i j => .bl (decide (i <= j))) := opB0 fun _ _ _ _ _ _ _ q => le_int q
theorem op_gt : OpR X (compareOp .Gt) (rI0 fun i j => .bl (decide (j < i))) := opB0 fun _ _ _ _ _ _ _ q => gt_int q
theorem op_ge : OpR X (compareOp .GtE) (rI0 fun i j => .bl (decide (j <= i))) := opB0 fun _ _ _ _ _ _ _ q => ge_int q
theorem op_in_str : OpR X (compareOp .In) (fun x y H Q => ∃ i j, x = .str i /\ y = .str j /\ Q (.bl (!(Builtin.Str.occurrences j i 0 j.length 1).isEmpty)) H) := by
 intro pins s σ H x y v u Q I rx ry h
 obtain ⟨i, j, rfl, rfl, q⟩ := h
 obtain ⟨t, rfl⟩ := rx
 obtain ⟨t', rfl⟩ := ry
 exact in_str (fin_bl I q rfl)
theorem op_notN : OpR X (compareOp .IsNot) (fun x y H Q => y = .non /\ Q (.bl (!decide (x = .non))) H) := by
 intro pins s σ H x y v u Q I rx ry h
 obtain ⟨rfl, q⟩ := h
 cases ry
 refine isnot_none_gen (fin_bl I q ?_)
 cases x <;> first
  | (cases rx; rfl)
  | (obtain ⟨t, rfl⟩ := rx; rfl)
theorem nomark (b : Expr) {op : CmpOp} (h : op ≠ .In := by decide) (h2 : op ≠ .NotIn := by decide) : behindInMarks op b = false := by
 have e1 : (op == CmpOp.In) = false := by cases op <;> first | rfl | exact absurd rfl h
 have e2 : (op == CmpOp.NotIn) = false := by cases op <;> first | rfl | exact absurd rfl h2
 cases b <;> simp [behindInMarks, e1, e2]
theorem pe_cmpR {op : CmpOp} {r : R2} (ho : OpR X (compareOp op) r) (ha : PE X a ta) (hb : PE X b tb) (hm : behindInMarks op b = false) : PE X (.Compare a [op] [b] pos) (tOp r ta tb) := by
 intro pins s σ H Q I h
 exact wpAny_Compare1 (binT ha hb I h fun v u s2 x y H2 I2 rx ry q => ho pins s2 σ H2 x y v u Q I2 rx ry q) hm
def tTest (t : TE) : TT := fun σ H Q => t σ H fun x H' => ∃ k, x = .bl k /\ Q k H'
theorem pt_cmpR {op : CmpOp} {r : R2} (ho : OpR X (compareOp op) r) (ha : PE X a ta) (hb : PE X b tb) (hm : behindInMarks op b = false) : PT X (.Compare a [op] [b] pos) (tTest (tOp r ta tb)) := by
 intro pins s σ H Q I h
 refine wpAny_isTrue_Compare1 (thn (ha pins s σ H _ I h) fun v s1 ⟨x, H1, I1, r1, q1⟩ => thn (hb pins s1 σ H1 _ I1 q1) fun u s2 ⟨y, H2, I2, r2, q2⟩ =>
  thn (ho pins s2 σ H2 x y v u _ I2 r1 r2 q2) fun c s3 ⟨z, H3, I3, r3, k, e, q3⟩ => ?_) hm
 subst e
 cases r3
 exact wpAny_truthy_bool ⟨H3, I3, q3⟩
def tChain (r r' : R2) (ta tb tc : TE) : TE := fun σ H Q => ta σ H fun x H1 => tb σ H1 fun y H2 => r x y H2 fun z H3 => ∃ k, z = .bl k /\
 (if k = true then tc σ H3 fun w' H4 => r' y w' H4 Q else Q (.bl false) H3)
theorem pe_chain {op op' : CmpOp} {r r' : R2} (ho : OpR X (compareOp op) r) (ho' : OpR X (compareOp op') r') (ha : PE X a ta) (hb : PE X b tb) (hc : PE X c tc)
  (hm : lastMarks [op, op'] [b, c] = false := by with_unfolding_all rfl) : PE X (.Compare a [op, op'] [b, c] pos) (tChain r r' ta tb tc) := by
 intro pins s σ H Q I h
 refine Compare_chain (thn (ha pins s σ H _ I h) fun v s1 ⟨x, H1, I1, r1, q1⟩ => chain_link (thn (hb pins s1 σ H1 _ I1 q1) fun u s2 ⟨y, H2, I2, r2, q2⟩ =>
  thn (ho pins s2 σ H2 x y v u _ I2 r1 r2 q2) fun d s3 ⟨z, H3, I3, r3, k, e, q3⟩ => ?_)) hm
 subst e
 cases r3
 refine wpAny_truthy_bool ?_
 cases k with
 | false => exact ite_ff ⟨.bl false, H3, I3, rfl, q3⟩
 | true => exact ite_tt (chain_last (thn (hc pins s3 σ H3 _ I3 q3) fun w' s4 ⟨z', H4, I4, r4, q4⟩ => ho' pins s4 σ H4 y z' u w' Q I4 r2 r4 q4))
theorem pt_chain {op op' : CmpOp} {r r' : R2} (ho : OpR X (compareOp op) r) (ho' : OpR X (compareOp op') r') (ha : PE X a ta) (hb : PE X b tb) (hc : PE X c tc)
  (hm : lastMarks [op, op'] [b, c] = false := by with_unfolding_all rfl) : PT X (.Compare a [op, op'] [b, c] pos) (tTest (tChain r r' ta tb tc)) := by
 intro pins s σ H Q I h
 refine isTrue_chain (thn (ha pins s σ H _ I h) fun v s1 ⟨x, H1, I1, r1, q1⟩ => test_link (thn (hb pins s1 σ H1 _ I1 q1) fun u s2 ⟨y, H2, I2, r2, q2⟩ =>
  thn (ho pins s2 σ H2 x y v u _ I2 r1 r2 q2) fun d s3 ⟨z, H3, I3, r3, k, e, q3⟩ => ?_)) hm
 subst e
 cases r3
 refine wpAny_truthy_bool ?_
 cases k with
 | false =>
  obtain ⟨k', e', q'⟩ := q3
  cases e'
  exact ite_ff ⟨H3, I3, q'⟩
 | true =>
  refine ite_tt (test_last (thn (hc pins s3 σ H3 _ I3 q3) fun w' s4 ⟨z', H4, I4, r4, q4⟩ => thn (ho' pins s4 σ H4 y z' u w' _ I4 r2 r4 q4) fun d' s5 ⟨z2, H5, I5, r5, k2, e2, q5⟩ => ?_))
  subst e2
  cases r5
  exact wpAny_truthy_bool ⟨H5, I5, q5⟩
def TruV (K : PySem.W.Frag) (x : V) (H : Hp) (k : Bool) : Prop :=
 match x with
 | .non => k = false
 | .bl b => k = b
 | .int i => k = (i != 0)
 | .str y => y.length <= sizeLine /\ k = ((y.length : Int) != 0)
 | .byt y => y.size <= sizeLine /\ k = ((y.size : Int) != 0)
 | .ref p => (∃ xs, SqL K H p xs /\ k = !xs.isEmpty) \/ (∃ xs, SqT K H p xs /\ k = !xs.isEmpty) \/ ∃ kvs, H p = some (.dK kvs) /\ k = !kvs.isEmpty
 | _ => False
theorem isEmpty_kv {κ : Type} {kvs : List (κ × V)} {vs : List (κ × Value)} (r : KV kvs vs) : (!vs.isEmpty) = !kvs.isEmpty := by
 cases r <;> rfl
theorem isEmpty_of {xs : List V} {its : List Value} (r : Vals xs its) : (!its.toArray.isEmpty) = !xs.isEmpty := by
 cases r <;> simp
theorem line63 : (sizeLine : Nat) < 2 ^ 63 := by rw [sizeLine_eq]; decide
theorem tru_ok : TruR X (fun x H Q => ∃ k, TruV X.K x H k /\ Q k H) := by
 intro pins s σ H x v Q I rx h
 obtain ⟨k, e, q⟩ := h
 have hl := line63
 have hs : sizeLine = 16777216 := sizeLine_eq
 cases x with
 | non =>
  cases rx
  have e' : k = false := e
  subst e'
  exact truthy_none ⟨H, I, q⟩
 | bl b =>
  cases rx
  have e' : k = b := e
  subst e'
  exact wpAny_truthy_bool ⟨H, I, q⟩
 | int i =>
  obtain ⟨t, rfl⟩ := rx
  have e' : k = (i != 0) := e
  subst e'
  exact PySem.P.truthy_int ⟨H, I, q⟩
 | str y =>
  obtain ⟨t, rfl⟩ := rx
  obtain ⟨hy, e'⟩ : y.length <= sizeLine /\ k = ((y.length : Int) != 0) := e
  subst e'
  exact PySem.P.truthy_str (by omega) ⟨H, I.tok _, q⟩
 | byt y =>
  obtain ⟨t, rfl⟩ := rx
  obtain ⟨hy, e'⟩ : y.size <= sizeLine /\ k = ((y.size : Int) != 0) := e
  subst e'
  exact PySem.W.truthy_bytes (by omega) ⟨H, I.tok _, q⟩
 | ref p =>
  cases rx
  have e' : (∃ xs, SqL X.K H p xs /\ k = !xs.isEmpty) \/ (∃ xs, SqT X.K H p xs /\ k = !xs.isEmpty) \/ ∃ kvs, H p = some (.dK kvs) /\ k = !kvs.isEmpty := e
  rcases e' with ⟨xs, hx, e'⟩ | ⟨xs, hx, e'⟩ | ⟨kvs, hx, e'⟩
  ·subst e'
   obtain ⟨its, r, pl, hz⟩ := I.list hx
   have hlen := r.length
   exact wpAny_truthy_list pl.isList (by simp only [List.size_toArray]; omega) ⟨H, I.tok _, by rw [isEmpty_of r]; exact q⟩
  ·subst e'
   obtain ⟨its, r, pl, hz⟩ := I.tuple hx
   have hlen := r.length
   exact truthy_tuple pl (by simp only [List.size_toArray]; omega) ⟨H, I.tok _, by rw [isEmpty_of r]; exact q⟩
  ·subst e'
   obtain ⟨hz, hS, vs, r, m⟩ : kvs.length <= sizeLine /\ (p == sysModules) = false /\ ∃ vs, KV kvs vs /\ s.heap.DictOf (mixKind X.prog X.w) p vs := I.hok p _ hx
   have hlen : kvs.length = vs.length := Paired.length r
   exact wpAny_truthy_dict hS m (by omega) ⟨H, I.tok _, by rw [isEmpty_kv r]; exact q⟩
 | _ => exact (show False from e).elim
theorem pt_truth (ha : PE X a ta) (he : ∀ whole, isTrue a X.env whole = (do let v ← whole; standAt a.pos; holding [v] (truthy v))) :
  PT X a (fun σ H Q => ta σ H fun x H' => ∃ k, TruV X.K x H' k /\ Q k H') := by
 intro pins s σ H Q I h
 exact isTrue_plain (thn (ha pins s σ H _ I h) fun v s1 ⟨x, H1, I1, r1, q1⟩ => tru_ok pins s1 σ H1 x v Q I1 r1 q1) (he _)
theorem op_add_str : OpR X (binaryOp .Add) (fun x y H Q => ∃ i j, x = .str i /\ y = .str j /\ i.length + j.length <= sizeLine /\ Q (.str (i ++ j)) H) := by
 intro pins s σ H x y v u Q I rx ry h
 obtain ⟨i, j, rfl, rfl, hz, q⟩ := h
 obtain ⟨t, rfl⟩ := rx
 obtain ⟨t', rfl⟩ := ry
 exact add_str (fun t' tk => ⟨.str (i ++ j), H, I.tok _, ⟨_, rfl⟩, q⟩) hz
theorem vals1 {x : V} {us : List Value} (r : Vals [x] us) : ∃ u, us = [u] /\ RelV x u := by
 cases r with
 | cons r1 r2 => cases r2; exact ⟨_, rfl, r1⟩
theorem vals2 {x y : V} {us : List Value} (r : Vals [x, y] us) : ∃ u w', us = [u, w'] /\ RelV x u /\ RelV y w' := by
 cases r with
 | cons r1 r2 =>
  cases r2 with
  | cons r3 r4 => cases r4; exact ⟨_, _, rfl, r1, r3⟩
theorem call_max2 (hc : X.calm = true) : CallR X (.builtin "max") (fun xs H Q => ∃ i j, xs = [.int i, .int j] /\ Q (.int (if j > i then j else i)) H) := by
 intro pins s σ H xs us Q I r h
 obtain ⟨i, j, rfl, q⟩ := h
 obtain ⟨u, w', rfl, ⟨t, rfl⟩, ⟨t', rfl⟩⟩ := vals2 r
 refine max_two_ints (I.ok.hd hc) fun h' tk k => ⟨_, H, I.kept k, ?_, q⟩
 by_cases hj : j > i
 ·rw [if_pos hj, if_pos hj]; exact ⟨_, rfl⟩
 ·rw [if_neg hj, if_neg hj]; exact ⟨_, rfl⟩
theorem call_int1 : CallR X (.type "int") (fun xs H Q => (∃ i, xs = [.int i] /\ Q (.int i) H) \/ ∃ k, xs = [.bl k] /\ Q (.int (if k then 1 else 0)) H) := by
 intro pins s σ H xs us Q I r h
 rcases h with ⟨i, rfl, q⟩ | ⟨k, rfl, q⟩
 ·obtain ⟨u, rfl, t, rfl⟩ := vals1 r
  exact call_int_int ⟨.int i, H, I, ⟨_, rfl⟩, q⟩
 ·obtain ⟨u, rfl, r1⟩ := vals1 r
  cases r1
  exact call_int_bool ⟨.int (if k then 1 else 0), H, I.tok _, ⟨_, rfl⟩, q⟩
end
end L2
namespace L2
open PySem PySem.Spec PyProof.Rows
structure ObjM (h : Heap) (x dx C : Addr) (mA : Str -> Option Value) : Prop where
 obj : h.get? x = some (PySem.W.instObj C dx)
 ns : h.Ns1 dx mA
 ne : dx ≠ x
theorem lookIn_ns {h : Heap} {dx : Addr} {mA : Str -> Option Value} (n : h.Ns1 dx mA) : ∃ od, h.get? dx = some od /\ ∀ name, PySem.W.lookIn name od = some (mA name) := by
 obtain ⟨o, es, ep, ho, hd, hk, _, hm⟩ := n
 refine ⟨o, ho, fun name => ?_⟩
 have e := hm name
 unfold nsFind findBy at e
 rw [← Array.find?_toList] at e
 unfold PySem.W.lookIn
 rw [hd]
 dsimp only
 split
 ·rename_i y q
  rw [q] at e
  exact congrArg some e
 ·rename_i q
  rw [q] at e
  have a : es.toList.any (·.refKey) = false := by
   rw [List.any_eq_false]
   intro y hy
   obtain ⟨z, t, hkey⟩ := hk y (Array.mem_toList_iff.mp hy)
   simp [DictEntry.refKey, hkey]
  have a' : ¬ es.toList.any (·.refKey) = true := by rw [a]; exact Bool.false_ne_true
  rw [if_neg a']
  exact congrArg some e
theorem ObjM.look {h : Heap} {x dx C : Addr} {mA : Str -> Option Value} (I : ObjM h x dx C mA) : ∃ od, PySem.W.InstAt h x (PySem.W.instObj C dx) C (some od) /\ ∀ name, PySem.W.lookIn name od = some (mA name) :=
 let ⟨od, ho, hl⟩ := lookIn_ns I.ns
 ⟨od, ⟨I.obj, rfl, rfl, ho⟩, hl⟩
section
variable {prog : Program} {w : World} {A : Around} {E : Value -> Shared -> Prop} {s : Shared} {K : PySem.W.Frag} {x dx C f : Addr} {mA : Str -> Option Value} {name : Str} {v : Value}
theorem get_map {expr : Bool} {Q : Value -> Shared -> Prop} (X : K.In s.heap) (I : ObjM s.heap x dx C mA) (hg : PySem.W.plainGet K C name = true) (hh : PySem.W.hasDictIn K C = true)
  (ha : PySem.W.findIn K (.ref C) name = some none) (hv : mA name = some v) (hv' : PySem.W.handedIn v = true) (h : Q v { s with toks := s.toks + 1 }) :
  wpAny (model prog w) A (getAttr (.ref x) name expr) Q E s := by
 obtain ⟨od, J, hl⟩ := I.look
 exact PySem.W.get_value X J (PySem.W.plainGet_of hg).1 (PySem.W.findObj_own hh ha rfl (by rw [hl, hv])) hv' h
theorem get_meth {pl : Sem Bool} {Q : Value × List Value -> Shared -> Prop} (X : K.In s.heap) (I : ObjM s.heap x dx C mA) (hg : PySem.W.plainGet K C name = true)
  (hf : PySem.W.findIn K (.ref C) name = some (some (.ref f))) (ht : PySem.W.isFn K (.ref f) = true) (hv : mA name = none) (h : Q (.ref f, [.ref x]) s) :
  wpAny (model prog w) A (getMethod (.ref x) name pl) Q E s := by
 obtain ⟨od, J, hl⟩ := I.look
 exact PySem.W.method_fn X J (PySem.W.plainGet_of hg).1 (PySem.W.plainGet_of hg).2 hf (beq_iff_eq.mp ht) (by show (PySem.W.lookIn name od).map (·.isSome) = some false; rw [hl, hv]; rfl) h
theorem set_map {ns : List Str} {Q : Unit -> Shared -> Prop} (X : K.In s.heap) (I : ObjM s.heap x dx C mA)
  (hs : PySem.W.findIn K (.ref C) "__setattr__" = some (some (.builtin "object.__setattr__"))) (hp : PySem.W.plainOver K C = true) (ht : PySem.W.takerIn K C name = some none) (hh : PySem.W.hasDictIn K C = true)
  (hw : PySem.Within mA ns) (hsz : ns.length <= sizeLine)
  (h : ∀ h', ObjM h' x dx C (fun y => if y = name then some v else mA y) -> Heap.SameBut dx s.heap h' -> Q () { s with heap := h', toks := s.toks + 2 }) :
  wpAny (model prog w) A (setAttr (.ref x) name v) Q E s := by
 obtain ⟨od, J, hl⟩ := I.look
 refine PySem.W.set_plain X J hs (PySem.W.osa_open (s := { s with toks := s.toks + 1 }) (r := none) X J hp ht fun b => ?_)
 obtain ⟨cd, hc, hd'⟩ := PySem.W.any_some hh
 have hx : s.heap.get? x = some ⟨.ref C, some dx, .plain, #[]⟩ := I.obj
 refine wpAny_bind (wpAny_pure (wpAny_bind (wpAny_bind (wpAny_loadPart hx (wpAny_bind (PySem.W.Looks.here (s := { s with toks := s.toks + 1 }) (PySem.W.looks_clsIn X hc) ?_))))))
 rw [hd']
 refine wpAny_pure (a := some dx) (wpAny_bind (wpAny_pure (wpAny_bind ?_)))
 refine wpAny_nsSet1 (s := { s with toks := s.toks + 1 }) I.ns fun h' hn2 hs2 => ?_
 obtain ⟨oD, esD, epD, hoD, hdD, hcD⟩ := hn2.count (PySem.Within.cons name v hw)
 refine wpAny_bind (wpAny_lookBehind hoD (by rw [hdD]; exact pastItsLine_dict (Nat.le_trans hcD (by rw [List.length_cons]; omega))) ?_)
 exact wpAny_pure (h _ ⟨(hs2.2 _ (Ne.symm I.ne)).trans I.obj, hn2, I.ne⟩ hs2)
theorem make_map {R : Result -> Shared -> Prop} {vs : List Value} {kw : List (Str × Value)} (X : K.In s.heap) (hm : PySem.W.makesIn K C = true)
  (hi : PySem.W.findIn K (.ref C) "__init__" = some (some (.ref f))) (hf : PySem.W.typeIn K (.ref f) = some (.type "function"))
  (h : codeAny (model prog w) (A.under (.builtin "type.__call__" ⟨.ref C :: vs, kw⟩)) (.call (.ref f) ⟨.ref (s.heap.objs.size + 1) :: vs, kw⟩) (PySem.W.InitBack (s.heap.objs.size + 1) R)
   { s with heap := (s.heap.push PySem.W.emptyDict).push (PySem.W.instObj C s.heap.objs.size) }) :
  codeAny (model prog w) A (.call (.ref C) ⟨vs, kw⟩) R s := by
 obtain ⟨hh, g, d, t, os⟩ := s
 exact PySem.W.make_core (PySem.W.makes_of X hm) (PySem.W.looks_findIn X hi) (fun self => PySem.W.bind_fn X self hf) (.inl rfl) h
end
def putF (f : Str) (v : V) : List (Str × V) -> List (Str × V)
 | [] => [(f, v)]
 | (g, x) :: r => if g = f then (g, v) :: r else (g, x) :: putF f v r
theorem lookup_putF (f g : Str) (v : V) : ∀ fs : List (Str × V), (putF f v fs).lookup g = if g = f then some v else fs.lookup g
 | [] => by
  show List.lookup g [(f, v)] = _
  by_cases h : g = f
  ·have hb : (g == f) = true := beq_iff_eq.mpr h
   simp only [List.lookup, hb, if_pos h]
  ·have hb : (g == f) = false := beq_eq_false_iff_ne.mpr h
   simp only [List.lookup, hb, if_neg h]
 | (k, x) :: r => by
  have ih := lookup_putF f g v r
  rw [show putF f v ((k, x) :: r) = (if k = f then (k, v) :: r else (k, x) :: putF f v r) from rfl]
  by_cases hk : k = f
  ·rw [if_pos hk]
   by_cases h : g = k
   ·have hb : (g == k) = true := beq_iff_eq.mpr h
    simp only [List.lookup, hb, if_pos (h.trans hk)]
   ·have hb : (g == k) = false := beq_eq_false_iff_ne.mpr h
    simp only [List.lookup, hb, if_neg (fun e : g = f => h (e.trans hk.symm))]
  ·rw [if_neg hk]
   by_cases h : g = k
   ·have hb : (g == k) = true := beq_iff_eq.mpr h
    simp only [List.lookup, hb, if_neg (fun e : g = f => hk (h.symm.trans e))]
   ·have hb : (g == k) = false := beq_eq_false_iff_ne.mpr h
    simp only [List.lookup, hb]
    exact ih
theorem keys_putF (f : Str) (v : V) : ∀ fs : List (Str × V), f ∈ (putF f v fs).map (·.1) /\ ∀ g, g ∈ fs.map (·.1) -> g ∈ (putF f v fs).map (·.1)
 | [] => ⟨by simp [putF], fun g h => by simp at h⟩
 | (k, x) :: r => by
  obtain ⟨i1, i2⟩ := keys_putF f v r
  rw [show putF f v ((k, x) :: r) = (if k = f then (k, v) :: r else (k, x) :: putF f v r) from rfl]
  by_cases hk : k = f
  ·rw [if_pos hk]
   subst hk
   exact ⟨by simp, fun g h => by simpa using h⟩
  ·rw [if_neg hk]
   refine ⟨?_, fun g h => ?_⟩
   ·rw [List.map_cons]
    exact List.mem_cons_of_mem _ i1
   ·rw [List.map_cons] at h ⊢
    rcases List.mem_cons.mp h with e | e
    ·exact List.mem_cons.mpr (.inl e)
    ·exact List.mem_cons_of_mem _ (i2 g e)
theorem length_putF (f : Str) (v : V) : ∀ fs : List (Str × V), (putF f v fs).length <= fs.length + 1
 | [] => by simp [putF]
 | (k, x) :: r => by
  have ih := length_putF f v r
  rw [show putF f v ((k, x) :: r) = (if k = f then (k, v) :: r else (k, x) :: putF f v r) from rfl]
  by_cases hk : k = f
  ·rw [if_pos hk, List.length_cons, List.length_cons]; omega
  ·rw [if_neg hk, List.length_cons, List.length_cons]; omega
theorem RelO.some_of {v : V} {o : Option Value} (r : RelO (some v) o) : ∃ u, o = some u /\ RelV v u := by
 cases o with
 | none => exact (show False from r).elim
 | some u => exact ⟨u, rfl, r⟩
theorem RelO.none_of {o : Option Value} (r : RelO none o) : o = none := by
 cases o with
 | none => rfl
 | some u => exact (show False from r).elim
theorem handed_of {v : V} {u : Value} (r : RelV v u) : PySem.W.handedIn u = true := by
 cases v with
 | non => cases (show u = Value.none from r); rfl
 | bl b => cases (show u = Value.bool b from r); rfl
 | int i => obtain ⟨t, e⟩ := (show ∃ t, u = Value.int i t from r); cases e; rfl
 | str x => obtain ⟨t, e⟩ := (show ∃ t, u = Value.str x t from r); cases e; rfl
 | byt b => obtain ⟨t, e⟩ := (show ∃ t, u = Value.bytes b t from r); cases e; rfl
 | flt b => obtain ⟨t, e⟩ := (show ∃ t, u = Value.float b t from r); cases e; rfl
 | ref a => cases (show u = Value.ref a from r); rfl
 | ty n => cases (show u = Value.type n from r); rfl
section
variable {P : Program} {w : World} {H H' : Hp} {h h' : Heap} {a C dx : Addr} {fs fs' : List (Str × V)}
theorem ins_get (hok : HOk P w H h) (e : H a = some (.ins C dx fs)) : ∃ mA, ObjM h a dx C mA /\ (∀ f, RelO (fs.lookup f) (mA f)) /\ PySem.Within mA (fs.map (·.1)) /\ fs.length <= 1000 /\ H dx = some (.own a) := by
 obtain ⟨d, z, ne, ob, mA, n, r, q⟩ := (show ObjOk P w H h a (.ins C dx fs) from hok a _ e)
 exact ⟨mA, ⟨ob, n, ne⟩, r, q, z, d⟩
end
structure Cls (K : PySem.W.Frag) (C : Addr) : Prop where
 pg : PySem.W.plainGet K C Str.empty = true
 hd : PySem.W.hasDictIn K C = true
 po : PySem.W.plainOver K C = true
 sa : PySem.W.findIn K (.ref C) "__setattr__" = some (some (.builtin "object.__setattr__"))
theorem Cls.get {K : PySem.W.Frag} {C : Addr} (c : Cls K C) (f : Str) : PySem.W.plainGet K C f = true := c.pg
def NoAttr (K : PySem.W.Frag) (C : Addr) (f : Str) : Prop := PySem.W.findIn K (.ref C) f = some none
theorem NoAttr.taker {K : PySem.W.Frag} {C : Addr} {f : Str} (n : NoAttr K C f) : PySem.W.takerIn K C f = some none := by
 unfold PySem.W.takerIn
 rw [show PySem.W.findIn K (.ref C) f = some none from n]
 rfl
structure Meth (K : PySem.W.Frag) (C : Addr) (m : Str) (f : Addr) : Prop where
 at_ : PySem.W.findIn K (.ref C) m = some (some (.ref f))
 fn : PySem.W.isFn K (.ref f) = true
 kp : PySem.W.keepIn K (.ref f) = true
section
variable {X : Cx} {pins : List (Addr × Obj)} {σ : St} {H : Hp} {s : Shared} {a C dx : Addr} {fs : List (Str × V)} {f : Str} {v : V} {A : Around} {E : Value -> Shared -> Prop}
theorem getattr_ok {b : Bool} {Q : Value -> Shared -> Prop} (I : Inv X pins σ H s) (e : H a = some (.ins C dx fs)) (c : Cls X.K C) (n : NoAttr X.K C f) (l : fs.lookup f = some v)
  (h : ∀ u s', Inv X pins σ H s' -> RelV v u -> Q u s') : wpAny (model X.prog X.w) A (getAttr (.ref a) f b) Q E s := by
 obtain ⟨mA, O, r, _, _, _⟩ := ins_get I.hok e
 obtain ⟨u, hu, ru⟩ := RelO.some_of (v := v) (o := mA f) (by rw [← l]; exact r f)
 exact get_map I.kIn O (c.get f) c.hd n hu (handed_of ru) (h u _ (I.tok _) ru)
theorem getmeth_ok {m : Str} {g : Addr} {pl : Sem Bool} {Q : Value × List Value -> Shared -> Prop} (I : Inv X pins σ H s) (e : H a = some (.ins C dx fs)) (c : Cls X.K C) (k : Meth X.K C m g) (l : fs.lookup m = none)
  (h : Q (.ref g, [.ref a]) s) : wpAny (model X.prog X.w) A (getMethod (.ref a) m pl) Q E s := by
 obtain ⟨mA, O, r, _, _, _⟩ := ins_get I.hok e
 have hn : mA m = none := RelO.none_of (by rw [← l]; exact r m)
 exact get_meth I.kIn O (c.get m) k.at_ k.fn hn h
theorem setattr_ok {y : V} {u : Value} {Q : Unit -> Shared -> Prop} (I : Inv X pins σ H s) (e : H a = some (.ins C dx fs)) (c : Cls X.K C) (n : NoAttr X.K C f) (hl : fs.length < 1000) (ry : RelV y u)
  (h : ∀ s', Inv X pins σ (upd H a (.ins C dx (putF f y fs))) s' -> Q () s') : wpAny (model X.prog X.w) A (setAttr (.ref a) f u) Q E s := by
 obtain ⟨mA, O, r, wi, _, ho⟩ := ins_get I.hok e
 have hz : (fs.map (·.1)).length <= sizeLine := by rw [List.length_map, sizeLine_eq]; omega
 refine set_map I.kIn O c.sa c.po n.taker c.hd wi hz fun h' O' sb => h _ ?_
 have hd : ∃ o, h'.get? dx = some o := let ⟨o, _, _, e', _⟩ := O'.ns; ⟨o, e'⟩
 refine I.write (x := a) (e := dx) (by rw [e]; exact True.intro) (.inr ho) (fun b q hb z => (sb.2 b hb).trans z) hd ?_
 refine ⟨by rw [upd_ne O.ne]; exact ho, ?_, O.ne, O'.obj, _, O'.ns, fun g => ?_, fun g hg => ?_⟩
 ·have := length_putF f y fs; omega
 ·show RelO ((putF f y fs).lookup g) (if g = f then some u else mA g)
  rw [lookup_putF]
  by_cases q : g = f
  ·rw [if_pos q, if_pos q]; exact ry
  ·rw [if_neg q, if_neg q]; exact r g
 ·by_cases q : g = f
  ·rw [q]; exact (keys_putF f y fs).1
  ·refine (keys_putF f y fs).2 g (wi g fun z => hg ?_)
   show (if g = f then some u else mA g) = none
   rw [if_neg q]; exact z
theorem Inv.made (I : Inv X pins σ H s) : Inv X pins σ (upd (upd H s.heap.objs.size (.own (s.heap.objs.size + 1))) (s.heap.objs.size + 1) (.ins C s.heap.objs.size []))
  { s with heap := (s.heap.push PySem.W.emptyDict).push (PySem.W.instObj C s.heap.objs.size) } := by
 have e1 : (s.heap.push PySem.W.emptyDict).get? s.heap.objs.size = some PySem.W.emptyDict := Heap.get?_push_size s.heap rfl
 have e2 : ((s.heap.push PySem.W.emptyDict).push (PySem.W.instObj C s.heap.objs.size)).get? (s.heap.objs.size + 1) = some (PySem.W.instObj C s.heap.objs.size) := by
  have := Heap.get?_push_size (s.heap.push PySem.W.emptyDict) (o := PySem.W.instObj C s.heap.objs.size) rfl
  rwa [Heap.size_push] at this
 have e3 : (s.heap.push PySem.W.emptyDict).Ns s.heap.objs.size (fun _ => none) := ⟨PySem.W.emptyDict, #[], _, e1, rfl, (fun e he => absurd he (by simp)), fun _ => rfl⟩
 have I1 := I.laid (a := s.heap.objs.size) (o := .own (s.heap.objs.size + 1)) (h' := s.heap.push PySem.W.emptyDict) (t' := s.toks) (fun b u q => Heap.get?_push_of_some _ q) (Nat.le_refl _) ⟨_, e1⟩
 refine I1.laid (a := s.heap.objs.size + 1) (o := .ins C s.heap.objs.size []) (t' := s.toks) (fun b u q => Heap.get?_push_of_some _ q) (Nat.le_of_eq (Heap.size_push _ _)) ?_
 have ne : s.heap.objs.size ≠ s.heap.objs.size + 1 := Nat.ne_of_lt (Nat.lt_succ_self _)
 refine ⟨by rw [upd_ne ne, upd_same], Nat.zero_le _, ne, e2, fun _ => none, (Heap.Ns1.of_empty e3).at fun o q => Heap.get?_push_of_some _ q, fun _ => True.intro, fun y hy => absurd rfl hy⟩
theorem attr_of {prog : Program} {w : World} {env : Env} {e : Expr} {f : Str} {pos : Pos} {s : Shared} {Q : Value -> Shared -> Prop} (hb : attributeBase e f env (eval e env) = eval e env)
  (h : wpAny (model prog w) A (eval e env) (fun o s₁ => wpAny (model prog w) A (getAttr o f true) Q E s₁) E s) : wpAny (model prog w) A (eval (.Attribute e f pos) env) Q E s :=
 Attribute_any_ h (by rw [arm_eval_Attribute, hb])
end
def tFld (K : PySem.W.Frag) (ta : TE) (f : Str) : TE := fun σ H Q => ta σ H fun x H1 => ∃ a C dx fs v, x = .ref a /\ H1 a = some (.ins C dx fs) /\ Cls K C /\ NoAttr K C f /\ fs.lookup f = some v /\ Q v H1
def sFld (K : PySem.W.Frag) (ta tv : TE) (f : Str) : TS := fun D σ H => tv σ H fun y H1 => ta σ H1 fun x H2 => ∃ a C dx fs, x = .ref a /\ H2 a = some (.ins C dx fs) /\ Cls K C /\ NoAttr K C f /\ fs.length < 1000 /\
 D.nx σ (upd H2 a (.ins C dx (putF f y fs)))
section
variable {X : Cx} {o e value : Expr} {f : Str} {pos pos' tpos : Pos} {ta tv : TE}
theorem pe_fld (he : PE X e ta) (hb : attributeBase e f X.env (eval e X.env) = eval e X.env) : PE X (.Attribute e f pos) (tFld X.K ta f) := by
 intro pins s σ H Q I h
 refine attr_of hb (thn (he pins s σ H _ I h) fun u s1 ⟨x, H1, I1, rx, a, C, dx, fs, v, ex, ea, c, n, l, q⟩ => ?_)
 subst ex
 obtain rfl : u = Value.ref a := rx
 exact getattr_ok I1 ea c n l fun u' s2 I2 ru => ⟨v, H1, I2, ru, q⟩
theorem ps_fld (ha : PE X o ta) (hv : PE X value tv) (hs : swapsWith value (some (.Attribute o f pos')) pos.line X.env = pure false) : PS X (.Assign [.Attribute o f pos'] value pos) (sFld X.K ta tv f) := by
 intro pins s σ H D I h
 refine plainObj_wpAny_Assign_Attribute (thn (hv pins s σ H _ I h) fun u s1 ⟨y, H1, I1, ry, q⟩ => thn (ha pins s1 σ H1 _ I1 q) fun ov s2 ⟨x, H2, I2, rx, a, C, dx, fs, ex, ea, c, n, l, q2⟩ => ?_) hs
 subst ex
 obtain rfl : ov = Value.ref a := rx
 exact setattr_ok I2 ea c n l ry fun s3 I3 => ⟨σ, _, I3, q2⟩
end
section
variable {X : Cx} {pins : List (Addr × Obj)} {σ : St} {H : Hp} {s : Shared} {A : Around} {E : Value -> Shared -> Prop} {Q : Value -> Shared -> Prop} {c : Value} {b : Bool}
inductive TyOf (K : PySem.W.Frag) (H : Hp) : V -> Value -> Prop where
 | non : TyOf K H .non (.type "NoneType")
 | bl (x : Bool) : TyOf K H (.bl x) (.type "bool")
 | int (i : Int) : TyOf K H (.int i) (.type "int")
 | str (x : Str) : TyOf K H (.str x) (.type "str")
 | flt (x : UInt64) : TyOf K H (.flt x) (.type "float")
 | lst {a : Addr} {xs : List V} (e : H a = some (.lst xs)) : TyOf K H (.ref a) (.type "list")
 | frz {a : Addr} {o : Obj} {xs : List V} (e : H a = some (.frz o (.lst xs))) : TyOf K H (.ref a) (.type "list")
 | tup {a : Addr} {xs : List V} (e : H a = some (.tup xs)) : TyOf K H (.ref a) (.type "tuple")
 | dK {a : Addr} {kvs : List (Key × V)} (e : H a = some (.dK kvs)) : TyOf K H (.ref a) (.type "dict")
 | dT {a : Addr} {kvs : List (List Key × V)} (e : H a = some (.dT kvs)) : TyOf K H (.ref a) (.type "dict")
 | ins {a C dx : Addr} {fs : List (Str × V)} (e : H a = some (.ins C dx fs)) (cl : Cls K C) (ha : PySem.W.findIn K (.ref C) "__class__" = some (some (.builtin "object.__class__")))
   (hn : PySem.W.specialIn K (.builtin "object.__class__") "__get__" = some (some (.builtin "getset_descriptor.__get__"))) (htk : PySem.W.takesIn K (.builtin "object.__class__") = some true)
   (hm : PySem.W.mroIn K C (.type "object") = some true) : TyOf K H (.ref a) (.ref C)
theorem isinst_ok {x : V} {u t : Value} (I : Inv X pins σ H s) (rx : RelV x u) (ty : TyOf X.K H x t) (e : PySem.W.kitOne X.K t c = some b) (h : ∀ tk, Q (.bool b) { s with toks := tk }) :
  wpAny (model X.prog X.w) A (call (.builtin "isinstance") [u, c]) Q E s := by
 cases ty with
 | non => cases (show u = Value.none from rx); exact PySem.W.kia_one PySem.W.kitx_none I.kIn True.intro e (fun z => nomatch z) h
 | bl y => cases (show u = Value.bool y from rx); exact PySem.W.kia_one PySem.W.kitx_bool I.kIn True.intro e (fun z => nomatch z) h
 | int i => obtain ⟨t, q⟩ := (show ∃ t, u = Value.int i t from rx); cases q; exact PySem.W.kia_one PySem.W.kitx_int I.kIn True.intro e (fun z => nomatch z) h
 | str y => obtain ⟨t, q⟩ := (show ∃ t, u = Value.str y t from rx); cases q; exact PySem.W.kia_one PySem.W.kitx_str I.kIn True.intro e (fun z => nomatch z) h
 | flt y => obtain ⟨t, q⟩ := (show ∃ t, u = Value.float y t from rx); cases q; exact PySem.W.kia_one PySem.W.kitx_float I.kIn True.intro e (fun z => nomatch z) h
 | @lst a xs ea =>
  cases (show u = Value.ref a from rx)
  obtain ⟨_, _, n, _, h1⟩ := (show ObjOk X.prog X.w H s.heap a (.lst xs) from I.hok a _ ea)
  exact PySem.W.kia_one PySem.W.kitx_list I.kIn ⟨_, h1, rfl⟩ e (fun z => nomatch z) h
 | @frz a ob xs ea =>
  cases (show u = Value.ref a from rx)
  obtain ⟨_, _, _, n, _, h1⟩ := (show ObjOk X.prog X.w H s.heap a (.frz ob (.lst xs)) from I.hok a _ ea)
  exact PySem.W.kia_one PySem.W.kitx_list I.kIn ⟨_, h1, rfl⟩ e (fun z => nomatch z) h
 | @tup a xs ea =>
  cases (show u = Value.ref a from rx)
  obtain ⟨_, _, _, p⟩ := (show ObjOk X.prog X.w H s.heap a (.tup xs) from I.hok a _ ea)
  obtain ⟨o, h1, h2, _⟩ := p
  exact PySem.W.kia_one PySem.W.kitx_tuple I.kIn ⟨o, h1, h2⟩ e (fun z => nomatch z) h
 | @dK a kvs ea =>
  cases (show u = Value.ref a from rx)
  obtain ⟨_, _, vs, _, p⟩ := (show ObjOk X.prog X.w H s.heap a (.dK kvs) from I.hok a _ ea)
  obtain ⟨o, es, ep, h1, h2, _⟩ := p
  exact PySem.W.kia_one PySem.W.kitx_dict I.kIn ⟨o, h1, h2.1⟩ e (fun z => nomatch z) h
 | @dT a kvs ea =>
  cases (show u = Value.ref a from rx)
  obtain ⟨_, _, xs, _, o, es, ep, h1, h2, _⟩ := (show ObjOk X.prog X.w H s.heap a (.dT kvs) from I.hok a _ ea)
  exact PySem.W.kia_one PySem.W.kitx_dict I.kIn ⟨o, h1, h2.1⟩ e (fun z => nomatch z) h
 | @ins a C dx fs ea cl ha hn htk hm =>
  cases (show u = Value.ref a from rx)
  obtain ⟨mA, O, _⟩ := ins_get I.hok ea
  obtain ⟨od, J, _⟩ := O.look
  exact PySem.W.kia_one (PySem.W.kitx_own (cl.get _) cl.hd ha hn htk hm) I.kIn J e (fun z => nomatch z) h
end
end L2
namespace L2
open PySem PySem.Spec PyProof.Rows
structure Room (k : Nat) (A : Around) : Prop where
 hd : A.handled = none
 dp : A.depth + 3 * k + 5 < recursionLimit
 un : A.units + 16 * k + 200 < cLine
theorem Room.mono {j k : Nat} {A : Around} (r : Room k A) (h : j <= k) : Room j A := ⟨r.hd, by have := r.dp; omega, by have := r.un; omega⟩
theorem Room.deeper {k : Nat} {A : Around} (r : Room (k + 1) A) (env : Env) : Room k (A.deeper env) :=
 ⟨r.hd, by have := r.dp; show A.depth + 1 + 3 * k + 5 < _; omega, by have := r.un; show A.units + 3 + 16 * k + 200 < _; omega⟩
theorem make_depth {A : Around} {C : Addr} {us : List Value} {kw : List (Str × Value)} : (A.under (.builtin "type.__call__" ⟨.ref C :: us, kw⟩)).depth = A.depth + 1 := by
 first | rfl | simp [Around.under, Code.weight, Code.isCreation, Code.isGuard, Code.isCaller, Code.frames, Code.isFrame, guardIds]
theorem make_units {A : Around} {C : Addr} {us : List Value} {kw : List (Str × Value)} : (A.under (.builtin "type.__call__" ⟨.ref C :: us, kw⟩)).units = A.units + 1 := by
 first | rfl | simp [Around.under, Code.cUnits, Code.frames, Code.isFrame]
theorem Room.make {k : Nat} {A : Around} (r : Room (k + 1) A) (C : Addr) (us : List Value) (kw : List (Str × Value)) : Room k (A.under (.builtin "type.__call__" ⟨.ref C :: us, kw⟩)) :=
 ⟨r.hd, by have := r.dp; rw [make_depth]; omega, by have := r.un; rw [make_units]; omega⟩
theorem Room.depth {k : Nat} {A : Around} (r : Room k A) : A.depth < recursionLimit := by have := r.dp; omega
theorem Room.units {k : Nat} {A : Around} (r : Room k A) : A.units + 64 < cLine := by have := r.un; omega
def tNil : TA := fun _ H Q => Q [] H
def tCons (ta : TE) (tr : TA) : TA := fun σ H Q => ta σ H fun x H1 => tr σ H1 fun xs H2 => Q (x :: xs) H2
section
variable {X : Cx} {e : Expr} {es : List Expr} {te : TE} {t : TA} {pos : Pos}
theorem pa_nil : PA X [] tNil := fun _ _ _ _ H Q I h => Calls.spliced_nil ⟨[], H, I, .nil, h⟩
theorem pa_cons (ha : PE X e te) (hr : PA X es t) (hs : starEach (e :: es) X.env = (false, eval e X.env) :: starEach es X.env := by rfl) : PA X (e :: es) (tCons te t) := by
 intro pos pins s σ H Q I h
 rw [hs]
 show wpAny _ _ (spliced ((false, eval e X.env) :: backTo pos (starEach es X.env))) _ _ s
 refine Calls.spliced_cons (thn (ha pins s σ H _ I h) fun u s1 ⟨x, H1, I1, r1, q1⟩ => ?_)
 exact thn (hr pos pins s1 σ H1 _ I1 q1) fun us s2 ⟨xs, H2, I2, r2, q2⟩ => ⟨x :: xs, H2, I2, .cons r1 r2, q2⟩
def tTup (t : TA) : TE := fun σ H Q => t σ H fun xs H1 => xs.length <= sizeLine /\ ∀ p, H1 p = none -> Q (.ref p) (upd H1 p (.tup xs))
def tLst (t : TA) : TE := fun σ H Q => t σ H fun xs H1 => xs.length <= sizeLine /\ ∀ p, H1 p = none -> Q (.ref p) (upd H1 p (.lst xs))
theorem pe_tup {x1} (h : PA X es t) : PE X (.Tuple es x1 pos) (tTup t) := by
 intro pins s σ H Q I hq
 refine wpAny_Tuple_spliced (thn (h pos pins s σ H _ I hq) fun us s1 ⟨xs, H1, I1, r, z, q⟩ => ⟨by rw [← r.length]; exact z, ?_⟩)
 have hf : H1 s1.heap.objs.size = none := I1.hok.fresh (Nat.le_refl _)
 refine ⟨.ref s1.heap.objs.size, upd H1 s1.heap.objs.size (.tup xs), I1.laid (t' := s1.toks) (fun b u e => Heap.get?_push_of_some _ e) (Nat.le_refl _) ?_, rfl, q _ hf⟩
 exact ⟨z, us, r, ⟨_, Heap.get?_push_size _ rfl, rfl, _, rfl⟩⟩
theorem pe_lst (h : PA X es t) : PE X (.List es pos) (tLst t) := by
 intro pins s σ H Q I hq
 refine wpAny_List_spliced (thn (h pos pins s σ H _ I hq) fun us s1 ⟨xs, H1, I1, r, z, q⟩ => ⟨by rw [← r.length]; exact z, ?_⟩)
 have hf : H1 s1.heap.objs.size = none := I1.hok.fresh (Nat.le_refl _)
 refine ⟨.ref s1.heap.objs.size, upd H1 s1.heap.objs.size (.lst xs), I1.laid (t' := s1.toks) (fun b u e => Heap.get?_push_of_some _ e) (Nat.le_refl _) ?_, rfl, q _ hf⟩
 exact ⟨z, us, 0, r, Heap.get?_push_size _ rfl⟩
end
abbrev Sp := List V -> Hp -> VK -> XK -> Prop
abbrev CXT := List Env -> Hp -> Shared -> XK -> Value -> Shared -> Prop
structure Env0 (P : Program) (w : World) (K : PySem.W.Frag) (mg : Str -> Option Value) (base : Heap) (A : Around) (outer : List Env) (s : Shared) (H : Hp) : Prop where
 frames : A.frames = some outer
 mod : Mod K mg base
 bs : ∀ b o, base.get? b = some o -> s.heap.get? b = some o /\ H b = none
 bsz : base.objs.size <= s.heap.objs.size
 funs : s.heap.FunFrames base outer
 frf : ∀ b ∈ frs outer, H b = none
 hok : HOk P w H s.heap
 bare : AllBare s.gens
def CE (outer : List Env) (P : Program) (w : World) (H : Hp) (s : Shared) (Q : VK) (u : Value) (s' : Shared) : Prop :=
 ∃ v H', s'.os = s.os /\ AllBare s'.gens /\ Un (frs outer) [] H H' s.heap s'.heap /\ HOk P w H' s'.heap /\ RelV v u /\ Q v H'
def CR (CX : CXT) (outer : List Env) (P : Program) (w : World) (H : Hp) (s : Shared) (Q : VK) (E : XK) (r : Result) (s' : Shared) : Prop :=
 match r with
 | .ok (.ret u) => CE outer P w H s Q u s'
 | .ok _ => False
 | .error e => CX outer H s E e s'
structure FnOk (P : Program) (w : World) (K : PySem.W.Frag) (mg : Str -> Option Value) (base : Heap) (CX : CXT) (k : Nat) (f : Addr) (fd : FuncData) (ps : List Str) (sp : Sp) : Prop where
 len : ∀ vs H Q E, sp vs H Q E -> vs.length = ps.length
 run : ∀ (A : Around) (outer : List Env) (s : Shared) (H : Hp) (args : Args) (us : List Value) (vs : List V) (Q : VK) (E : XK), Room k A -> Env0 P w K mg base A outer s H -> BindsTo s fd args (ps.zip us) -> Vals vs us -> sp vs H Q E ->
  codeAny (model P w) A (.call (.ref f) args) (CR CX outer P w H s Q E) s
theorem Env0.make {P : Program} {w : World} {K : PySem.W.Frag} {mg : Str -> Option Value} {base : Heap} {A : Around} {outer : List Env} {s : Shared} {H : Hp} (e : Env0 P w K mg base A outer s H) (C : Addr) (us : List Value) (kw : List (Str × Value)) :
  Env0 P w K mg base (A.under (.builtin "type.__call__" ⟨.ref C :: us, kw⟩)) outer s H := ⟨by first | exact e.frames | (simpa [Around.under, Code.envs, Code.isFrame, pushEnvs] using e.frames), e.mod, e.bs, e.bsz, e.funs, e.frf, e.hok, e.bare⟩
section
variable {X : Cx} {pins : List (Addr × Obj)} {σ : St} {H : Hp} {s s' : Shared}
theorem Inv.env0 (I : Inv X pins σ H s) : Env0 X.prog X.w X.K X.mg X.base X.A X.stack s H :=
 ⟨I.ok.frames, I.ok.mod, I.bs, Nat.le_trans I.ok.bsz I.sz, I.stack, I.stkFree, I.hok, I.bare⟩
theorem Inv.after {Q : VK} {u : Value} (I : Inv X pins σ H s) (h : CE X.stack X.prog X.w H s Q u s') : EP X pins σ Q u s' := by
 obtain ⟨v, H', os, bare, un, hok, r, q⟩ := h
 obtain ⟨hh, g, d, t, os'⟩ := s'
 obtain rfl : os' = s.os := os
 exact ⟨v, H', I.call (h' := hh) (g' := g) (d' := d) (t' := t) (ch := []) un hok bare (fun b z => absurd z (by simp)), r, q⟩
end
def tCall (sp : Sp) (dvs : List V) (E : XK) (t : TA) : TE := fun σ H Q => t σ H fun vs H1 => sp (vs ++ dvs) H1 Q E
def tMeth (C : Addr) (m : Str) (sp : Sp) (dvs : List V) (E : XK) (ta : TE) (t : TA) : TE := fun σ H Q => ta σ H fun x H1 => ∃ a dx fs, x = .ref a /\ H1 a = some (.ins C dx fs) /\ fs.lookup m = none /\
 t σ H1 fun vs H2 => sp (x :: (vs ++ dvs)) H2 Q E
def tMake (C : Addr) (sp : Sp) (dvs : List V) (E : XK) (t : TA) : TE := fun σ H Q => t σ H fun vs H1 => ∀ x dx, H1 x = none -> H1 dx = none -> dx ≠ x ->
 sp (.ref x :: (vs ++ dvs)) (upd (upd H1 dx (.own x)) x (.ins C dx [])) (fun v H2 => v = .non /\ Q (.ref x) H2) E
def Binds (K : PySem.W.Frag) (fd : FuncData) (ps : List Str) (ds : List Value) : Prop :=
 ∀ (s : Shared) (us : List Value), K.In s.heap -> (us ++ ds).length = ps.length -> BindsTo s fd ⟨us, []⟩ (ps.zip (us ++ ds))
theorem Binds.all {K : PySem.W.Frag} {fd : FuncData} {ps : List Str} (h : ∀ us : List Value, us.length = ps.length -> bindArgs fd ⟨us, []⟩ = pure (ps.zip us)) : Binds K fd ps [] := fun s us _ hl => by
 rw [List.append_nil] at hl ⊢
 exact .of_eq (h us hl)
def Passes (CX : CXT) (X : Cx) (E : XK) : Prop := ∀ (pins : List (Addr × Obj)) (σ : St) (H : Hp) (s : Shared) (e : Value) (s' : Shared), Inv X pins σ H s -> CX X.stack H s E e s' -> X.xe e s'
section
variable {X : Cx} {CX : CXT} {k : Nat} {f C : Addr} {fd : FuncData} {ps : List Str} {sp : Sp} {dvs : List V} {ds : List Value} {E : XK} {x m : Str} {p pos apos : Pos} {e o : Expr} {es : List Expr} {ta : TE} {t : TA}
theorem run_fn {pins : List (Addr × Obj)} {σ : St} {H : Hp} {s : Shared} {Q : VK} {us : List Value} {vs : List V} (F : FnOk X.prog X.w X.K X.mg X.base CX k f fd ps sp) (hr : Room k X.A) (hb : Binds X.K fd ps ds) (hd : Vals dvs ds) (hx : Passes CX X E)
  (I : Inv X pins σ H s) (r : Vals vs us) (h : sp (vs ++ dvs) H Q E) : wpAny (model X.prog X.w) X.A (call (.ref f) us) (EP X pins σ Q) X.xe s := by
 have r2 : Vals (vs ++ dvs) (us ++ ds) := r.append hd
 have hl : (us ++ ds).length = ps.length := by rw [← r2.length]; exact F.len _ _ _ _ h
 refine wpAny_call (codeAny_mono (F.run X.A X.stack s H ⟨us, []⟩ (us ++ ds) (vs ++ dvs) Q E hr I.env0 (hb s us I.kIn hl) r2 h) fun r s' hq => ?_)
 cases r with
 | error e => exact hx pins σ H s e s' I hq
 | ok fl =>
  cases fl with
  | ret u => exact I.after hq
  | next => exact False.elim hq
  | brk => exact False.elim hq
  | cont => exact False.elim hq
theorem pe_call (F : FnOk X.prog X.w X.K X.mg X.base CX k f fd ps sp) (hr : Room k X.A) (hg : Gl X x) (hm : X.mg x = some (.ref f)) (hk : PySem.W.keepIn X.K (.ref f) = true) (hb : Binds X.K fd ps ds) (hd : Vals dvs ds) (hx : Passes CX X E)
  (ha : PA X (e :: es) t) (hdb : (x == ("__debug__" : Str)) = false := by decide) (he : starEach (e :: es) X.env = (false, eval e X.env) :: starEach es X.env := by rfl) (hpl : (backTo pos (starEach es X.env)).any (·.1) = false := by rfl) :
  PE X (.Call (.Name x p) (e :: es) [] pos) (tCall sp dvs E t) := by
 intro pins s σ H Q I h
 refine wpAny_Call_Name_kw (ld_glob I hg hm ?_ hdb)
 refine PySem.W.callWith_K (h₀ := X.base) I.ok.mod.kin hk (thn (ha pos pins s σ H _ I h) fun us s1 ⟨vs, H1, I1, r, q⟩ => ⟨I1.kIn, ?_⟩) he hpl
 exact run_fn F hr hb hd hx I1 r q
theorem pe_meth {pl : Sem Bool} (he : PE X o ta) (c : Cls X.K C) (hm : Meth X.K C m f) (F : FnOk X.prog X.w X.K X.mg X.base CX k f fd ps sp) (hr : Room k X.A) (hb : Binds X.K fd ps ds) (hd : Vals dvs ds) (hx : Passes CX X E) (ha : PA X (e :: es) t)
  (hst : starEach (e :: es) X.env = (false, eval e X.env) :: starEach es X.env := by rfl) (hpl : (backTo pos (starEach es X.env)).any (·.1) = false := by rfl)
  (ht : eval (.Call (.Attribute o m apos) (e :: es) [] pos) X.env = (do
   let ov ← eval o X.env
   standAt apos.atName
   let (f, first) ← holding [ov] (getMethod ov m pl)
   callWith pos f first (backTo pos (starEach (e :: es) X.env)) (backToKw pos (keywordEach [] X.env))) := by rfl) :
  PE X (.Call (.Attribute o m apos) (e :: es) [] pos) (tMeth C m sp dvs E ta t) := by
 intro pins s σ H Q I h
 refine PySem.W.methodCall_KW (pl := pl) (thn (he pins s σ H _ I h) fun u s1 ⟨x, H1, I1, rx, a, dx, fs, ex, ea, l, q⟩ => ?_) ht
 subst ex
 obtain rfl : u = Value.ref a := rx
 refine getmeth_ok I1 ea c hm l ?_
 refine PySem.W.callWith_K (first := [.ref a]) (h₀ := X.base) I.ok.mod.kin hm.kp (thn (ha pos pins s1 σ H1 _ I1 q) fun us s2 ⟨vs, H2, I2, r, q2⟩ => ⟨I2.kIn, ?_⟩) hst hpl
 exact run_fn (us := .ref a :: us) (vs := .ref a :: vs) F hr hb hd hx I2 (.cons rfl r) q2
theorem pe_meth0 {pl : Sem Bool} (he : PE X o ta) (c : Cls X.K C) (hm : Meth X.K C m f) (F : FnOk X.prog X.w X.K X.mg X.base CX k f fd ps sp) (hr : Room k X.A) (hb : Binds X.K fd ps ds) (hd : Vals dvs ds) (hx : Passes CX X E)
  (ht : eval (.Call (.Attribute o m apos) [] [] pos) X.env = (do
   let ov ← eval o X.env
   standAt apos.atName
   let (f, first) ← holding [ov] (getMethod ov m pl)
   callWith pos f first (backTo pos (starEach [] X.env)) (backToKw pos (keywordEach [] X.env))) := by rfl) :
  PE X (.Call (.Attribute o m apos) [] [] pos) (tMeth C m sp dvs E ta tNil) := by
 intro pins s σ H Q I h
 refine PySem.W.methodCall_KW (pl := pl) (thn (he pins s σ H _ I h) fun u s1 ⟨x, H1, I1, rx, a, dx, fs, ex, ea, l, q⟩ => ?_) ht
 subst ex
 obtain rfl : u = Value.ref a := rx
 refine getmeth_ok I1 ea c hm l ?_
 exact PySem.W.callWith_K0 (first := [.ref a]) I1.kIn hm.kp (run_fn (us := [.ref a]) (vs := [.ref a]) F hr hb hd hx I1 (.cons rfl .nil) q)
structure Mk (K : PySem.W.Frag) (C f : Addr) : Prop where
 makes : PySem.W.makesIn K C = true
 init : PySem.W.findIn K (.ref C) "__init__" = some (some (.ref f))
 fn : PySem.W.isFn K (.ref f) = true
 kp : PySem.W.keepIn K (.ref C) = true
theorem run_make {pins : List (Addr × Obj)} {σ : St} {H : Hp} {s : Shared} {Q : VK} {us : List Value} {vs : List V} (M : Mk X.K C f) (F : FnOk X.prog X.w X.K X.mg X.base CX k f fd ps sp) (hr : Room (k + 1) X.A) (hb : Binds X.K fd ps ds) (hd : Vals dvs ds)
  (hx : Passes CX X E) (I : Inv X pins σ H s) (r : Vals vs us)
  (h : ∀ x dx, H x = none -> H dx = none -> dx ≠ x -> sp (.ref x :: (vs ++ dvs)) (upd (upd H dx (.own x)) x (.ins C dx [])) (fun v H2 => v = .non /\ Q (.ref x) H2) E) :
  wpAny (model X.prog X.w) X.A (call (.ref C) us) (EP X pins σ Q) X.xe s := by
 have hq := h (s.heap.objs.size + 1) s.heap.objs.size (I.hok.fresh (Nat.le_succ _)) (I.hok.fresh (Nat.le_refl _)) (Nat.ne_of_lt (Nat.lt_succ_self _))
 have I2 := Inv.made (C := C) I
 have r2 : Vals (V.ref (s.heap.objs.size + 1) :: (vs ++ dvs)) (Value.ref (s.heap.objs.size + 1) :: (us ++ ds)) := .cons rfl (r.append hd)
 have hl : (Value.ref (s.heap.objs.size + 1) :: us ++ ds).length = ps.length := by
  have e := r2.length
  rw [F.len _ _ _ _ hq] at e
  exact e.symm
 refine wpAny_call (make_map (f := f) I.kIn M.makes M.init (beq_iff_eq.mp M.fn) (codeAny_mono (F.run _ X.stack _ _ ⟨Value.ref (s.heap.objs.size + 1) :: us, []⟩ (Value.ref (s.heap.objs.size + 1) :: (us ++ ds)) _ _ E (hr.make C us [])
  (I2.env0.make C us []) (hb _ (Value.ref (s.heap.objs.size + 1) :: us) I2.kIn hl) r2 hq) fun r s' hq' => ?_))
 cases r with
 | error e => exact hx pins σ _ _ e s' I2 hq'
 | ok fl =>
  cases fl with
  | ret u =>
   obtain ⟨v, H', I3, rv, ev, q3⟩ := I2.after hq'
   subst ev
   exact ⟨rv, ⟨V.ref (s.heap.objs.size + 1), H', I3, rfl, q3⟩⟩
  | next => exact False.elim hq'
  | brk => exact False.elim hq'
  | cont => exact False.elim hq'
theorem pe_make (M : Mk X.K C f) (F : FnOk X.prog X.w X.K X.mg X.base CX k f fd ps sp) (hr : Room (k + 1) X.A) (hg : Gl X x) (hm : X.mg x = some (.ref C)) (hb : Binds X.K fd ps ds) (hd : Vals dvs ds) (hx : Passes CX X E)
  (ha : PA X (e :: es) t) (hdb : (x == ("__debug__" : Str)) = false := by decide) (he : starEach (e :: es) X.env = (false, eval e X.env) :: starEach es X.env := by rfl) (hpl : (backTo pos (starEach es X.env)).any (·.1) = false := by rfl) :
  PE X (.Call (.Name x p) (e :: es) [] pos) (tMake C sp dvs E t) := by
 intro pins s σ H Q I h
 refine wpAny_Call_Name_kw (ld_glob I hg hm ?_ hdb)
 refine PySem.W.callWith_K (h₀ := X.base) I.ok.mod.kin M.kp (thn (ha pos pins s σ H _ I h) fun us s1 ⟨vs, H1, I1, r, q⟩ => ⟨I1.kIn, ?_⟩) he hpl
 exact run_make M F hr hb hd hx I1 r q
end
section
variable {X : Cx} {CX : CXT} {k : Nat} {f C : Addr} {fd : FuncData} {ps ks : List Str} {sp : Sp} {E : XK} {x m : Str} {p pos apos kpos : Pos} {e o : Expr} {es : List Expr} {kws : List Keyword} {te ta : TE} {t tk : TA} {nm : Option Str}
variable {g : List Value -> List Value -> List Value} {gV : List V -> List V -> List V}
end
structure FnScope (N P : List Str) (sc : Scope) : Prop where
 kind : sc.kind = .function
 co : sc.isCoroutine = false
 gen : sc.isGenerator = false
 nd : N.Nodup
 pre : N.take P.length = P
 par : ∀ x ∈ P, sc.names.lookup x = some .local \/ sc.names.lookup x = some .cell
 nofree : ∀ y ∈ sc.names, y.2 ≠ .free
theorem bindL_out {kindOf : Str -> Option NameKind} {x : Str} : ∀ {binds : List (Str × Value)} {m : Str -> Option Value}, (∀ v, (x, v) ∉ binds) -> bindL kindOf binds m x = m x
 | [], _, _ => rfl
 | (n, v) :: r, m, h => by
  unfold bindL
  rw [bindL_out fun w hw => h w (List.mem_cons_of_mem _ hw)]
  split
  ·have : x ≠ n := by rintro rfl; exact h v List.mem_cons_self
   simp [this]
  ·rfl
theorem bindC_out {kindOf : Str -> Option NameKind} {x : Str} : ∀ {binds : List (Str × Value)} {m : Str -> Option Value}, (∀ v, (x, v) ∉ binds) -> bindC kindOf binds m x = m x
 | [], _, _ => rfl
 | (n, v) :: r, m, h => by
  unfold bindC
  rw [bindC_out fun w hw => h w (List.mem_cons_of_mem _ hw)]
  split
  ·rfl
  ·have : x ≠ n := by rintro rfl; exact h v List.mem_cons_self
   simp [this]
theorem bindL_get {kindOf : Str -> Option NameKind} {x : Str} {v : Value} : ∀ {P : List Str} {vs : List Value} {i : Nat} {m : Str -> Option Value}, P.Nodup -> P[i]? = some x -> vs[i]? = some v -> kindOf x = some .local ->
  bindL kindOf (P.zip vs) m x = some v
 | [], _, _, _, _, h, _, _ => by simp at h
 | _ :: _, [], _, _, _, _, h, _ => by simp at h
 | p :: P, w :: vs, 0, m, nd, h1, h2, hk => by
  simp at h1 h2; subst h1; subst h2
  show bindL kindOf ((p, w) :: P.zip vs) m p = _
  unfold bindL
  rw [bindL_out fun v hv => (List.nodup_cons.mp nd).1 (List.of_mem_zip hv).1, if_pos hk]
  simp
 | p :: P, w :: vs, i + 1, m, nd, h1, h2, hk => by
  show bindL kindOf ((p, w) :: P.zip vs) m x = _
  unfold bindL
  exact bindL_get (i := i) (List.nodup_cons.mp nd).2 (by simpa using h1) (by simpa using h2) hk
theorem bindC_get {kindOf : Str -> Option NameKind} {x : Str} {v : Value} : ∀ {P : List Str} {vs : List Value} {i : Nat} {m : Str -> Option Value}, P.Nodup -> P[i]? = some x -> vs[i]? = some v -> kindOf x ≠ some .local ->
  bindC kindOf (P.zip vs) m x = some v
 | [], _, _, _, _, h, _, _ => by simp at h
 | _ :: _, [], _, _, _, _, h, _ => by simp at h
 | p :: P, w :: vs, 0, m, nd, h1, h2, hk => by
  simp at h1 h2; subst h1; subst h2
  show bindC kindOf ((p, w) :: P.zip vs) m p = _
  unfold bindC
  rw [bindC_out fun v hv => (List.nodup_cons.mp nd).1 (List.of_mem_zip hv).1, if_neg hk]
  simp
 | p :: P, w :: vs, i + 1, m, nd, h1, h2, hk => by
  show bindC kindOf ((p, w) :: P.zip vs) m x = _
  unfold bindC
  exact bindC_get (i := i) (List.nodup_cons.mp nd).2 (by simpa using h1) (by simpa using h2) hk
def start (N : List Str) (vs : List V) : St := vs.map some ++ List.replicate (N.length - vs.length) none
def cxOf (CX : CXT) (P : Program) (w : World) (K : PySem.W.Frag) (mg : Str -> Option Value) (base : Heap) (N : List Str) (qual : Str) (scope : Scope) (f : Addr) (cd : Value) (A : Around) (outer : List Env) (s : Shared) (H : Hp) (E : XK) : Cx where
 prog := P
 w := w
 K := K
 mg := mg
 base := base
 A := A.deeper (envOfC qual scope s.heap.objs.size f cd)
 N := N
 s₀ := s
 H₀ := H
 env := envOfC qual scope s.heap.objs.size f cd
 outer := outer
 stack := envOfC qual scope s.heap.objs.size f cd :: outer
 ex := []
 calm := true
 fn := fun _ => true
 pn := []
 xe := fun e s' => wpAny (model P w) (A.deeper (envOfC qual scope s.heap.objs.size f cd)) (leaving (envOfC qual scope s.heap.objs.size f cd) e) (fun _ s'' => CX outer H s E e s'') (fun e' s'' => CX outer H s E e' s'') s'
theorem cell_has {sc : Scope} {n : Nat} {x : Str} (h : sc.names.lookup x = some .cell) : ∃ c, (cellsFrom n sc.names []).lookup x = some c := by
 have q := PySem.W.cellsFrom_some sc.names n [] (.inl h)
 exact Option.isSome_iff_exists.mp q
theorem inv_start {CX : CXT} {P : Program} {w : World} {K : PySem.W.Frag} {mg : Str -> Option Value} {base : Heap} {N ps : List Str} {qual : Str} {scope : Scope} {f : Addr} {cd : Value} {A : Around} {outer : List Env} {s s1 : Shared} {H : Hp} {E : XK} {us : List Value} {vs : List V}
  (S : FnScope N ps scope) (hd : A.handled = none) (e0 : Env0 P w K mg base A outer s H) (hl : vs.length = ps.length) (r : Vals vs us)
  (x : InCallC s s.heap.objs.size (bindL (envOfC qual scope s.heap.objs.size f cd).kindOf (ps.zip us) fun _ => none) (cellsFrom (s.heap.objs.size + 1) scope.names []) (bindC (envOfC qual scope s.heap.objs.size f cd).kindOf (ps.zip us) fun _ => none) s1) :
  Inv (cxOf CX P w K mg base N qual scope f cd A outer s H E) [] (start N vs) H s1 := by
 have hpl : ps.length <= N.length := by have := congrArg List.length S.pre; rw [List.length_take] at this; omega
 obtain ⟨h1, tk, rfl, hk⟩ := x.done
 have noA : ∀ b : Addr, b ∉ (cxOf CX P w K mg base N qual scope f cd A outer s H E).ex := fun b z => absurd (show b ∈ ([] : List Addr) from z) (by simp)
 refine ⟨⟨e0.mod, S.kind, rfl, rfl, Nat.le_refl _, fun y z c h1 h2 => ?_, fun y hy => ?_, fun y c _ h => ?_, fun _ => hd, Around.frames_deeper e0.frames, .inr ⟨rfl, rfl⟩, fun b z => absurd z (noA b), e0.bs, e0.bsz, fun b _ _ => noA b, fun b z => absurd z (noA b), e0.funs, e0.frf⟩,
  rfl, e0.bare, Un.kept hk, ⟨_, x.toInCall.ns, fun i y v h1 h2 h3 => ?_⟩, fun y c h => ⟨_, x.cell y c h⟩, e0.hok.fresh (Nat.le_refl _), fun y c h => ?_, fun p hp => absurd (show p ∈ ([] : List (Addr × Obj)) from hp) (by simp), e0.hok.kept hk, ?_⟩
 ·exact name_of_addr x.apart (PySem.mem_of_lookup h1) (PySem.mem_of_lookup h2)
 ·have hy : scope.names.lookup y = some .cell \/ scope.names.lookup y = some .free := hy
  rcases hy with hy | hy
  ·exact cell_has hy
  ·exact absurd rfl (S.nofree _ (PySem.mem_of_lookup hy))
 ·exact Nat.le_of_lt (x.above y c (PySem.mem_of_lookup h))
 ·have hi : i < vs.length := by
   unfold start at h2
   by_cases hi : i < vs.length
   ·exact hi
   ·rw [List.getElem?_append_right (by simpa using hi)] at h2
    rw [List.getElem?_replicate] at h2
    split at h2 <;> cases h2
  have ha : vs[i]? = some v := by
   unfold start at h2
   rw [List.getElem?_append_left (by simpa using hi), List.getElem?_map] at h2
   cases e : vs[i]? with
   | none => rw [e] at h2; cases h2
   | some a => rw [e] at h2; cases h2; rfl
  obtain ⟨u, hu, rv⟩ := r.get ha
  have hp : ps[i]? = some y := by
   rw [← S.pre, List.getElem?_take_of_lt (by omega)]; exact h1
  have ndP : ps.Nodup := by rw [← S.pre]; exact S.nd.sublist (List.take_sublist _ _)
  refine ⟨u, rv, ?_⟩
  rcases S.par y (List.mem_of_getElem? hp) with k | k
  ·exact .inl ⟨k, bindL_get ndP hp hu k⟩
  ·obtain ⟨c, e⟩ := cell_has (n := s.heap.objs.size + 1) k
   refine .inr ⟨.inl k, c, e, ?_⟩
   have q := x.cell y c e
   rw [bindC_get ndP hp hu (by show scope.names.lookup y ≠ _; rw [k]; decide)] at q
   exact q
 ·exact e0.hok.fresh (Nat.le_of_lt (x.above y c (PySem.mem_of_lookup h)))
 ·unfold start
  show _ = N.length
  rw [List.length_append, List.length_map, List.length_replicate]
  omega
theorem fn_of {CX : CXT} {P : Program} {w : World} {K : PySem.W.Frag} {mg : Str -> Option Value} {base : Heap} {k : Nat} {f : Addr} {name qual : Str} {params : Arguments} {body : List Stmt} {scope : Scope} {dV kV doc pm cdv ct oc : Value} {an od : Option Addr}
  {osl : Array (Option Value)} {N ps : List Str} {sp : Sp} (lk : K.lookup f = some ⟨oc, od, .func (PySem.W.fnOf name qual params body scope dV kV doc pm an cdv ct), osl⟩) (hcd : PySem.W.codeIn K cdv qual = true) (S : FnScope N ps scope)
  (len : ∀ vs H Q E, sp vs H Q E -> vs.length = ps.length)
  (hbody : ∀ (A : Around) (outer : List Env) (s : Shared) (H : Hp) (vs : List V) (Q : VK) (E : XK), Room k (A.deeper (envOfC qual scope s.heap.objs.size f cdv)) -> sp vs H Q E ->
   ∃ t, PSs (cxOf CX P w K mg base N qual scope f cdv A outer s H E) body t /\ t { nx := fun _ H' => Q .non H', rt := Q } (start N vs) H) :
  FnOk P w K mg base CX (k + 1) f (PySem.W.fnOf name qual params body scope dV kV doc pm an cdv ct) ps sp := by
 refine ⟨len, fun A outer s H args us vs Q E hr e0 hb r hsp => ?_⟩
 have hl := len _ _ _ _ hsp
 have KX : K.In s.heap := e0.mod.kin.keeps fun b o e => (e0.bs b o e).1
 have lim : s.heap.NoLimit := e0.mod.nolimit.keeps fun b o e => (e0.bs b o e).1
 have hkind : ∀ y ∈ ps.zip us, scope.names.lookup y.1 = some .local \/ (scope.names.lookup y.1 = some .cell /\ ((cellsFrom (s.heap.objs.size + 1) scope.names []).lookup y.1).isSome = true) := fun ⟨n, v⟩ hy => by
  rcases S.par n (List.of_mem_zip hy).1 with q | q
  ·exact .inl q
  ·exact .inr ⟨q, PySem.W.cellsFrom_some _ _ _ (.inl q)⟩
 refine codeAny_call_function hr.depth (KX _ _ lk) rfl S.co S.gen rfl (PySem.W.codeRec_of KX hcd) (hb _ _ _ _ ?_)
 refine wpAny_newFunctionEnv_cells S.kind hkind fun env he s1 x => ?_
 subst he
 refine ⟨lim.keeps x.toInCall.keep, codeAny_func ?_⟩
 obtain ⟨t, ht, hq⟩ := hbody A outer s H vs Q E (hr.deeper _) hsp
 have I : Inv (cxOf CX P w K mg base N qual scope f cdv A outer s H E) [] (start N vs) H s1 := inv_start S hr.hd e0 hl r x
 refine wpAny_mono (ht [] s1 (start N vs) H _ I hq) (fun fl s' hs => ?_) fun e s' hs => hs
 have fin : ∀ {σ' : St} {H' : Hp} {v : V} {u : Value}, Inv (cxOf CX P w K mg base N qual scope f cdv A outer s H E) [] σ' H' s' -> RelV v u -> Q v H' -> CE outer P w H s Q u s' :=
  fun {σ' H' v u} J rv q => ⟨v, H', J.os, J.bare, J.base, J.hok, rv, q⟩
 cases fl with
 | ret u =>
  obtain ⟨v, σ', H', J, rv, q⟩ := hs
  exact fin J rv q
 | next =>
  obtain ⟨σ', H', J, q⟩ := hs
  exact fin (v := V.non) (u := Value.none) J rfl q
 | brk =>
  obtain ⟨_, _, _, q⟩ := hs
  exact False.elim q
 | cont =>
  obtain ⟨_, _, _, q⟩ := hs
  exact False.elim q
end L2
namespace L2
open PySem PySem.Spec PyProof.Rows
section
variable {X : Cx} {x : Str} {p pos : Pos} {e : Expr} {es : List Expr} {t : TA} {id T : String} {r : List V -> Hp -> VK -> Prop}
def tCB (r : List V -> Hp -> VK -> Prop) (t : TA) : TE := fun σ H Q => t σ H fun vs H1 => r vs H1 Q
theorem pe_callB (hc : CallR X (.builtin id) r) (hg : Gl X x) (hm : X.mg x = none) (hv : bootBuiltins x = some (.builtin id)) (ha : PA X (e :: es) t) (hn : x ≠ "__name__" := by decide) (hdb : (x == ("__debug__" : Str)) = false := by decide)
  (he : starEach (e :: es) X.env = (false, eval e X.env) :: starEach es X.env := by rfl) (hpl : (backTo pos (starEach es X.env)).any (·.1) = false := by rfl) : PE X (.Call (.Name x p) (e :: es) [] pos) (tCB r t) := by
 intro pins s σ H Q I h
 refine wpAny_Call_Name_kw (ld_blt I hg hm hv ?_ hn hdb)
 exact PyProof.Rows.callWith_builtin1 (thn (ha pos pins s σ H _ I h) fun us s1 ⟨vs, H1, I1, r1, q1⟩ => hc pins s1 σ H1 vs us Q I1 r1 q1) he hpl
theorem pe_callTy (hc : CallR X (.type T) r) (hg : Gl X x) (hm : X.mg x = none) (hv : bootBuiltins x = some (.type T)) (ha : PA X (e :: es) t) (hn : x ≠ "__name__" := by decide) (hdb : (x == ("__debug__" : Str)) = false := by decide)
  (he : starEach (e :: es) X.env = (false, eval e X.env) :: starEach es X.env := by rfl) (hpl : (backTo pos (starEach es X.env)).any (·.1) = false := by rfl) : PE X (.Call (.Name x p) (e :: es) [] pos) (tCB r t) := by
 intro pins s σ H Q I h
 refine wpAny_Call_Name_kw (ld_blt I hg hm hv ?_ hn hdb)
 exact PyProof.Rows.callWith_type1 (thn (ha pos pins s σ H _ I h) fun us s1 ⟨vs, H1, I1, r1, q1⟩ => hc pins s1 σ H1 vs us Q I1 r1 q1) he hpl
end
end L2
namespace L2
open PySem PySem.Spec PyProof.Rows
section
variable {κ : Type} [DecidableEq κ]
def valV (kvs : List (κ × V)) (k : κ) : Option V := (kvs.find? fun kv => decide (kv.1 = k)).map (·.2)
def putK (kvs : List (κ × V)) (k : κ) (v : V) : List (κ × V) :=
 if (kvs.any fun kv => decide (kv.1 = k)) = true then kvs.map (fun kv => if kv.1 = k then (kv.1, v) else kv) else kvs ++ [(k, v)]
def dropK (kvs : List (κ × V)) (k : κ) : List (κ × V) := kvs.filter fun kv => decide (kv.1 ≠ k)
theorem valV_pos {p : κ × V} {r : List (κ × V)} {k : κ} (e : p.1 = k) : valV (p :: r) k = some p.2 := by simp [valV, List.find?_cons, e]
theorem valV_neg {p : κ × V} {r : List (κ × V)} {k : κ} (e : ¬ p.1 = k) : valV (p :: r) k = valV r k := by simp [valV, List.find?_cons, e]
theorem valV_any (k : κ) : ∀ kvs : List (κ × V), (kvs.any fun kv => decide (kv.1 = k)) = (valV kvs k).isSome
 | [] => rfl
 | p :: r => by
  rw [List.any_cons]
  by_cases e : p.1 = k
  ·simp only [valV_pos e, decide_eq_true e, Bool.true_or, Option.isSome_some]
  ·rw [valV_neg e, decide_eq_false e, Bool.false_or]; exact valV_any k r
theorem valV_map (k j : κ) (y : V) : ∀ kvs : List (κ × V), valV (kvs.map fun kv => if kv.1 = k then (kv.1, y) else kv) j = (valV kvs j).map fun x => if j = k then y else x
 | [] => rfl
 | p :: r => by
  have ih := valV_map k j y r
  rw [List.map_cons]
  by_cases h : p.1 = k
  ·rw [if_pos h]
   by_cases e : p.1 = j
   ·rw [valV_pos (p := (p.1, y)) e, valV_pos e, Option.map_some, if_pos (e.symm.trans h)]
   ·rw [valV_neg (p := (p.1, y)) e, valV_neg e, ih]
  ·rw [if_neg h]
   by_cases e : p.1 = j
   ·rw [valV_pos (p := p) e, valV_pos e, Option.map_some, if_neg (fun z => h (e.trans z))]
   ·rw [valV_neg (p := p) e, valV_neg e, ih]
theorem valV_snoc (k j : κ) (y : V) : ∀ kvs : List (κ × V), valV kvs k = none -> valV (kvs ++ [(k, y)]) j = if j = k then some y else valV kvs j
 | [], _ => by
  by_cases e : k = j
  ·rw [if_pos e.symm]; exact valV_pos (p := (k, y)) e
  ·rw [if_neg (fun z => e z.symm)]; exact valV_neg (p := (k, y)) e
 | p :: r, hn => by
  rw [List.cons_append]
  have hk : ¬ p.1 = k := fun z => by rw [valV_pos z] at hn; cases hn
  rw [valV_neg hk] at hn
  have ih := valV_snoc k j y r hn
  by_cases e : p.1 = j
  ·rw [valV_pos e, valV_pos e, if_neg (fun z => hk (e.trans z))]
  ·rw [valV_neg e, valV_neg e, ih]
theorem valV_put (kvs : List (κ × V)) (k j : κ) (y : V) : valV (putK kvs k y) j = if j = k then some y else valV kvs j := by
 unfold putK
 by_cases a : (kvs.any fun kv => decide (kv.1 = k)) = true
 ·rw [if_pos a, valV_map]
  rw [valV_any] at a
  by_cases e : j = k
  ·obtain ⟨x, hx⟩ := Option.isSome_iff_exists.mp a
   rw [if_pos e, e, hx, Option.map_some, if_pos rfl]
  ·rw [if_neg e]
   cases valV kvs j with
   | none => rfl
   | some x => rw [Option.map_some, if_neg e]
 ·rw [if_neg a]
  refine valV_snoc k j y kvs ?_
  rw [valV_any] at a
  cases q : valV kvs k with
  | none => rfl
  | some x => rw [q] at a; exact (a rfl).elim
theorem length_putK (kvs : List (κ × V)) (k : κ) (v : V) : (putK kvs k v).length <= kvs.length + 1 := by
 unfold putK
 split
 ·rw [List.length_map]; omega
 ·rw [List.length_append, List.length_cons, List.length_nil]; omega
theorem putK_new {kvs : List (κ × V)} {k : κ} (v : V) (h : valV kvs k = none) : putK kvs k v = kvs ++ [(k, v)] := by
 unfold putK
 rw [valV_any, h]
 exact if_neg (by decide)
theorem RelO.isSome_eq {o : Option V} {u : Option Value} (r : RelO o u) : o.isSome = u.isSome := by
 cases o with
 | none => cases u with
  | none => rfl
  | some _ => exact (show False from r).elim
 | some _ => cases u with
  | none => exact (show False from r).elim
  | some _ => rfl
theorem KV.val {kvs : List (κ × V)} {vs : List (κ × Value)} (r : KV kvs vs) (k : κ) : RelO (valV kvs k) (valueAt vs k) := by
 unfold KV at r
 induction r with
 | nil => exact True.intro
 | @cons p q ps qs h t ih =>
  obtain ⟨h1, h2⟩ := h
  by_cases e : p.1 = k
  ·have e' : q.1 = k := h1.symm.trans e
   have b : valueAt (q :: qs) k = some q.2 := by simp [valueAt, List.find?_cons, e']
   rw [valV_pos e, b]; exact h2
  ·have e' : ¬ q.1 = k := fun z => e (h1.trans z)
   have b : valueAt (q :: qs) k = valueAt qs k := by simp [valueAt, List.find?_cons, e']
   rw [valV_neg e, b]; exact ih
theorem KV.any {kvs : List (κ × V)} {vs : List (κ × Value)} (r : KV kvs vs) (k : κ) : (kvs.any fun kv => decide (kv.1 = k)) = vs.any fun kv => decide (kv.1 = k) := by
 unfold KV at r
 induction r with
 | nil => rfl
 | cons h t ih => rw [List.any_cons, List.any_cons, ih, h.1]
theorem KV.repl {kvs : List (κ × V)} {vs : List (κ × Value)} (r : KV kvs vs) (k : κ) {y : V} {u : Value} (ry : RelV y u) :
  KV (kvs.map fun kv => if kv.1 = k then (kv.1, y) else kv) (vs.map fun kv => if kv.1 = k then (kv.1, u) else kv) := by
 unfold KV at r ⊢
 induction r with
 | nil => exact .nil
 | @cons p q ps qs h t ih =>
  rw [List.map_cons, List.map_cons]
  refine .cons ?_ ih
  obtain ⟨h1, h2⟩ := h
  by_cases e : p.1 = k
  ·rw [if_pos e, if_pos (h1.symm.trans e)]; exact ⟨h1, ry⟩
  ·rw [if_neg e, if_neg (fun z => e (h1.trans z))]; exact ⟨h1, h2⟩
theorem KV.put {kvs : List (κ × V)} {vs : List (κ × Value)} (r : KV kvs vs) (k : κ) {y : V} {u : Value} (ry : RelV y u) : KV (putK kvs k y) (stored vs k u) := by
 unfold putK stored
 rw [r.any k]
 by_cases e : (vs.any fun kv => decide (kv.1 = k)) = true
 ·rw [if_pos e, if_pos e]; exact r.repl k ry
 ·rw [if_neg e, if_neg e]; exact Paired.snoc r ⟨rfl, ry⟩
theorem KV.length {kvs : List (κ × V)} {vs : List (κ × Value)} (r : KV kvs vs) : kvs.length = vs.length := Paired.length r
end
theorem kV_is {P : Program} {w : World} {k : Key} {u : Value} (r : RelV (kV k) u) : (mixKind P w).is k u = true := by
 cases k with
 | inl i => obtain ⟨t, e⟩ := (show ∃ t, u = Value.int i t from r); subst e; exact mixKind_int P w i t
 | inr x => obtain ⟨t, e⟩ := (show ∃ t, u = Value.str x t from r); subst e; exact mixKind_str P w x t
theorem items_are {P : Program} {w : World} : ∀ {ks : List Key} {us : List Value}, Vals (ks.map kV) us -> ItemsAre (mixKind P w) ks us
 | [], _, r => by rw [List.map_nil] at r; cases r; exact .nil
 | k :: ks, _, r => by
  rw [List.map_cons] at r
  cases r with
  | cons h t => exact .cons (kV_is h) (items_are t)
abbrev KT (H : Hp) : List (List Key × V) -> List (List Key × Addr × Value) -> Prop := Paired fun p q => p.1 = q.1 /\ H q.2.1 = some (.tup (p.1.map kV)) /\ RelV p.2 q.2.2
theorem KT.val {H : Hp} {kvs : List (List Key × V)} {xs : List (List Key × Addr × Value)} (r : KT H kvs xs) (k : List Key) : RelO (valV kvs k) ((atKey xs k).map (·.2)) := by
 induction r with
 | nil => exact True.intro
 | @cons p q ps qs h t ih =>
  obtain ⟨h1, _, h2⟩ := h
  by_cases e : p.1 = k
  ·have e' : q.1 = k := h1.symm.trans e
   have b : atKey (q :: qs) k = some q.2 := by simp [atKey, List.find?_cons, e']
   rw [valV_pos e, b]; exact h2
  ·have e' : ¬ q.1 = k := fun z => e (h1.trans z)
   have b : atKey (q :: qs) k = atKey qs k := by simp [atKey, List.find?_cons, e']
   rw [valV_neg e, b]; exact ih
theorem KT.repl {H : Hp} {kvs : List (List Key × V)} {xs : List (List Key × Addr × Value)} (r : KT H kvs xs) (k : List Key) {y : V} {u : Value} (ry : RelV y u) :
  KT H (kvs.map fun kv => if kv.1 = k then (kv.1, y) else kv) (xs.map (putAt k u)) := by
 induction r with
 | nil => exact .nil
 | @cons p q ps qs h t ih =>
  rw [List.map_cons, List.map_cons]
  refine .cons ?_ ih
  obtain ⟨h1, h2, h3⟩ := h
  unfold putAt
  by_cases e : p.1 = k
  ·rw [if_pos e, if_pos (h1.symm.trans e)]; exact ⟨h1, h2, ry⟩
  ·rw [if_neg e, if_neg (fun z => e (h1.trans z))]; exact ⟨h1, h2, h3⟩
theorem KT.put {H : Hp} {kvs : List (List Key × V)} {xs : List (List Key × Addr × Value)} (r : KT H kvs xs) (k : List Key) {b : Addr} {y : V} {u : Value} (hb : H b = some (.tup (k.map kV))) (ry : RelV y u) :
  KT H (putK kvs k y) (storedH xs k b u) := by
 have e : (kvs.any fun kv => decide (kv.1 = k)) = (atKey xs k).isSome := by
  rw [valV_any, (r.val k).isSome_eq, Option.isSome_map]
 unfold putK storedH
 rw [e]
 by_cases q : (atKey xs k).isSome = true
 ·rw [if_pos q, if_pos q]; exact r.repl k ry
 ·rw [if_neg q, if_neg q]; exact Paired.snoc r ⟨rfl, hb, ry⟩
theorem KT.keeps {H H' : Hp} {kvs : List (List Key × V)} {xs : List (List Key × Addr × Value)} (r : KT H kvs xs) (ht : ∀ b ys, H b = some (.tup ys) -> H' b = some (.tup ys)) : KT H' kvs xs :=
 Paired.mapP r fun _ _ z => ⟨z.1, ht _ _ z.2.1, z.2.2⟩
section
variable {P : Program} {w : World} {H : Hp} {h : Heap} {a : Addr}
theorem rd_of {u : HO} (ok : HOk P w H h) (e : Rd H a u) : ObjOk P w H h a u := e.ok ok
theorem dk_rd {kvs : List (Key × V)} (ok : HOk P w H h) (e : Rd H a (.dK kvs)) : kvs.length <= sizeLine /\ (a == sysModules) = false /\ ∃ vs, KV kvs vs /\ h.DictOf (mixKind P w) a vs :=
 show ObjOk P w H h a (.dK kvs) from rd_of ok e
theorem dk_of {kvs : List (Key × V)} (ok : HOk P w H h) (e : H a = some (.dK kvs)) : kvs.length <= sizeLine /\ (a == sysModules) = false /\ ∃ vs, KV kvs vs /\ h.DictOf (mixKind P w) a vs := dk_rd ok (.inl e)
theorem key_of {ks : List Key} (ok : HOk P w H h) (e : H a = some (.tup (ks.map kV))) : (tupleKind (mixKind P w)).is h ks a := by
 obtain ⟨_, its, r, o, h1, h2, n, h3⟩ := (show ObjOk P w H h a (.tup (ks.map kV)) from ok a _ e)
 exact ⟨o, its.toArray, n, h1, h2, h3, by simpa using items_are r⟩
theorem dt_rd {kvs : List (List Key × V)} (ok : HOk P w H h) (e : Rd H a (.dT kvs)) : kvs.length <= sizeLine /\ (a == sysModules) = false /\
  ∃ xs, KT H kvs xs /\ h.DictOfH (tupleKind (mixKind P w)) a xs := by
 obtain ⟨z, y, xs, r, o, es, ep, h1, h2, h3, h4, h5⟩ := (show ObjOk P w H h a (.dT kvs) from rd_of ok e)
 refine ⟨z, y, xs, r, o, es, ep, h1, h2, h3, h4, fun x hx => ?_, h5⟩
 have all : ∀ {l : List (List Key × V)} {m : List (List Key × Addr × Value)}, KT H l m -> ∀ x ∈ m, (tupleKind (mixKind P w)).is h x.1 x.2.1 := by
  intro l m q
  induction q with
  | nil => intro x hx; exact nomatch hx
  | @cons p q ps qs hq t ih =>
   intro x hx
   rcases List.mem_cons.mp hx with e | hx
   ·subst e
    exact key_of ok (by rw [← hq.1]; exact hq.2.1)
   ·exact ih x hx
 exact all r x hx
theorem dt_of {kvs : List (List Key × V)} (ok : HOk P w H h) (e : H a = some (.dT kvs)) : kvs.length <= sizeLine /\ (a == sysModules) = false /\
  ∃ xs, KT H kvs xs /\ h.DictOfH (tupleKind (mixKind P w)) a xs := dt_rd ok (.inl e)
end
def DGet (H : Hp) (a : Addr) (y : V) (r : Option V) : Prop :=
 (∃ kvs k, Rd H a (.dK kvs) /\ y = kV k /\ r = valV kvs k) \/ ∃ kvs k b, Rd H a (.dT kvs) /\ y = .ref b /\ H b = some (.tup (k.map kV)) /\ r = valV kvs k
def DPut (H : Hp) (a : Addr) (y v : V) (H' : Hp) : Prop :=
 (∃ kvs k, H a = some (.dK kvs) /\ y = kV k /\ kvs.length < sizeLine /\ H' = upd H a (.dK (putK kvs k v))) \/
 ∃ kvs k b, H a = some (.dT kvs) /\ y = .ref b /\ H b = some (.tup (k.map kV)) /\ kvs.length < sizeLine /\ H' = upd H a (.dT (putK kvs k v))
theorem DGet.k {H : Hp} {a : Addr} {kvs : List (Key × V)} {k : Key} (e : H a = some (.dK kvs)) : DGet H a (kV k) (valV kvs k) := .inl ⟨kvs, k, .inl e, rfl, rfl⟩
theorem DPut.k {H : Hp} {a : Addr} {kvs : List (Key × V)} {k : Key} {v : V} (e : H a = some (.dK kvs)) (hl : kvs.length < sizeLine) : DPut H a (kV k) v (upd H a (.dK (putK kvs k v))) := .inl ⟨kvs, k, e, rfl, hl, rfl⟩
section
variable {X : Cx} {pins : List (Addr × Obj)} {σ : St} {H : Hp} {s : Shared} {a : Addr} {y v : V} {u r : Value} {o : Option V} {A : Around} {E : Value -> Shared -> Prop}
theorem Inv.big (I : Inv X pins σ H s) : sysModules < s.heap.objs.size := by
 have h : mainGlobals < s.heap.objs.size := (I.mod.glob.keeps I.bk).lt
 exact Nat.lt_trans (by decide) h
theorem d_getItem {Q : Value -> Shared -> Prop} (hu : A.units + 1 < cLine) (I : Inv X pins σ H s) (g : DGet H a y (some v)) (ry : RelV y u) (h : ∀ w' s', Inv X pins σ H s' -> RelV v w' -> Q w' s') :
  wpAny (model X.prog X.w) A (getItem (.ref a) u) Q E s := by
 rcases g with ⟨kvs, k, e, ey, l⟩ | ⟨kvs, k, b, e, ey, eb, l⟩
 ·subst ey
  obtain ⟨z, hd, vs, rel, dd⟩ := dk_rd I.hok e
  obtain ⟨w', hw, rw'⟩ := RelO.some_of (v := v) (o := valueAt vs k) (by rw [l]; exact rel.val k)
  exact wpAny_getItem_of (kV_is ry) dd.mapOf hw (h w' _ (I.tok _) rw')
 ·subst ey
  cases (show u = Value.ref b from ry)
  obtain ⟨z, hd, xs, rel, dd⟩ := dt_rd I.hok e
  obtain ⟨w', hw, rw'⟩ := RelO.some_of (v := v) (o := (atKey xs k).map (·.2)) (by rw [l]; exact rel.val k)
  obtain ⟨p, hp, hp2⟩ := Option.map_eq_some_iff.mp hw
  refine wpAny_getItem_heap (tupleKind_room_in1 hu) (key_of I.hok eb) dd hp ?_
  rw [hp2]
  exact h w' _ (I.tok _) rw'
theorem d_notIn {Q : Value -> Shared -> Prop} (hu : A.units + 1 < cLine) (I : Inv X pins σ H s) (g : DGet H a y o) (ry : RelV y u) (h : ∀ s', Inv X pins σ H s' -> Q (.bool (!o.isSome)) s') :
  wpAny (model X.prog X.w) A (compareOp .NotIn u (.ref a)) Q E s := by
 rcases g with ⟨kvs, k, e, ey, l⟩ | ⟨kvs, k, b, e, ey, eb, l⟩
 ·subst ey
  obtain ⟨z, hd, vs, rel, dd⟩ := dk_rd I.hok e
  refine wpAny_notIn_of (kV_is ry) hd dd.mapOf ?_
  rw [← (rel.val k).isSome_eq, ← l]
  exact h _ (I.tok _)
 ·subst ey
  cases (show u = Value.ref b from ry)
  obtain ⟨z, hd, xs, rel, dd⟩ := dt_rd I.hok e
  refine wpAny_notIn_heap (tupleKind_room_in1 hu) (key_of I.hok eb) hd dd ?_
  have q := (rel.val k).isSome_eq
  rw [Option.isSome_map] at q
  rw [← q, ← l]
  exact h _ (I.tok _)
theorem d_write {h' : Heap} {t' : Nat} {ob : HO} (I : Inv X pins σ H s) (mu : Mut (H a)) (hs : Heap.SameBut a s.heap h') (he : ∃ q, h'.get? a = some q) (new : ObjOk X.prog X.w (upd H a ob) h' a ob) :
  Inv X pins σ (upd H a ob) { s with heap := h', toks := t' } :=
 I.write (x := a) (e := a) mu (.inl rfl) (fun b q hb z => (hs.2 b hb).trans z) he new
theorem dk_new {P : Program} {w : World} {H' : Hp} {h' : Heap} {kvs : List (Key × V)} {vs : List (Key × Value)} (z : kvs.length <= sizeLine) (hd : (a == sysModules) = false) (rel : KV kvs vs) (dd : h'.DictOf (mixKind P w) a vs) :
  ObjOk P w H' h' a (.dK kvs) := ⟨z, hd, vs, rel, dd⟩
theorem d_setItem {H' : Hp} {Q : Unit -> Shared -> Prop} (hu : A.units + 1 < cLine) (I : Inv X pins σ H s) (g : DPut H a y v H') (ry : RelV y u) (rv : RelV v r) (h : ∀ s', Inv X pins σ H' s' -> Q () s') :
  wpAny (model X.prog X.w) A (setItem (.ref a) u r) Q E s := by
 rcases g with ⟨kvs, k, e, ey, l, eH⟩ | ⟨kvs, k, b, e, ey, eb, l, eH⟩
 ·subst ey eH
  obtain ⟨z, hd, vs, rel, dd⟩ := dk_of I.hok e
  have hz : vs.length <= sizeLine := by rw [← rel.length]; exact z
  have hl : (putK kvs k v).length <= sizeLine := by have := length_putK kvs k v; omega
  refine wpAny_setItem_pairs (hsz := hz) (kV_is ry) dd fun h' dd' hs => h _ ?_
  have he : ∃ q, h'.get? a = some q := let ⟨q, _, _, hq, _⟩ := dd'; ⟨q, hq⟩
  exact d_write I (by rw [e]; exact True.intro) hs he (dk_new hl hd (rel.put k rv) dd')
 ·subst ey eH
  cases (show u = Value.ref b from ry)
  obtain ⟨z, hd, xs, rel, dd⟩ := dt_of I.hok e
  have hz : xs.length <= sizeLine := by rw [← Paired.length rel]; exact z
  have hl : (putK kvs k v).length <= sizeLine := by have := length_putK kvs k v; omega
  refine wpAny_setItem_heap (hsz := hz) (tupleKind_room_in1 hu) (key_of I.hok eb) dd fun h' dd' hs => h _ ?_
  obtain ⟨q, es, ep, hq, h2, h3, h4, _, h5⟩ := dd'
  refine d_write I (by rw [e]; exact True.intro) hs ⟨q, hq⟩ ⟨hl, hd, _, (rel.put k eb rv).keeps fun c ys ec => ?_, q, es, ep, hq, h2, h3, h4, h5⟩
  rw [upd_ne (ne_of ec e (fun z => nomatch z))]
  exact ec
end
section
variable {X : Cx} {pins : List (Addr × Obj)} {σ : St} {H : Hp} {s : Shared} {a : Addr} {kvs : List (Key × V)} {k : Key} {u : Value} {A : Around} {E : Value -> Shared -> Prop}
end
def NoSl (i : Expr) : Prop := ∀ ov iv, subscripted i false ov iv = operate [ov, iv] (getItem ov iv)
theorem subD_of {prog : Program} {w : World} {A : Around} {E : Value -> Shared -> Prop} {s : Shared} {env : Env} {value slice : Expr} {pos : Pos} {T id : String} {Q : Value -> Shared -> Prop}
  (hl : typeLookup (.type T) "__getitem__" = pure (some (.builtin id))) (hs : NoSl slice)
  (h : wpAny (model prog w) A (eval value env) (fun o s₁ => wpAny (model prog w) A (eval slice env) (fun i s₂ => s₂.TypeIs o T /\ wpAny (model prog w) A (getItem o i) Q E s₂) E s₁) E s) :
  wpAny (model prog w) A (eval (.Subscript value slice pos) env) Q E s := by
 refine Subscript_ (wpAny_mono h (fun o s₁ h₁ => wpAny_mono h₁ (fun i s₂ h₂ => ?_) fun _ _ x => x) fun _ _ x => x)
 obtain ⟨hT, h₂⟩ := h₂
 unfold subscriptTail
 refine wpAny_bind ?_
 rw [getitemInPython_of_ne hT.not_modules]
 refine wpAny_bind (wpAny_specialOf hT hl ?_)
 have fin : wpAny (model prog w) A (subscripted slice false o i) (fun r s₃ => wpAny (model prog w) A (letTemporaryGo value o r >>= fun _ => pure r) Q E s₃) E s₂ := by
  rw [hs o i]
  exact wpAny_operating (wpAny_mono h₂ (fun r s₃ h₃ => wpAny_bind (wpAny_letTemporaryGo (wpAny_pure h₃))) fun _ _ x => x)
 first
  | exact wpAny_pure (wpAny_bind fin)
  | exact wpAny_bind (wpAny_pure (wpAny_bind fin))
  | exact wpAny_bind fin
theorem dict_typeIs {X : Cx} {pins : List (Addr × Obj)} {σ : St} {H : Hp} {s : Shared} {a : Addr} {y : V} {o : Option V} (I : Inv X pins σ H s) (g : DGet H a y o) : s.TypeIs (.ref a) "dict" := by
 rcases g with ⟨kvs, k, e, _, _⟩ | ⟨kvs, k, b, e, _, _, _⟩
 ·obtain ⟨_, _, vs, _, dd⟩ := dk_rd I.hok e
  exact dd.typeIs
 ·obtain ⟨_, _, xs, _, dd⟩ := dt_rd I.hok e
  exact dd.typeIs
def tDGet (td ty : TE) : TE := fun σ H Q => td σ H fun x H1 => ty σ H1 fun y H2 => ∃ a v, x = .ref a /\ DGet H2 a y (some v) /\ Q v H2
def tDNotIn (ty td : TE) : TE := fun σ H Q => ty σ H fun y H1 => td σ H1 fun x H2 => ∃ a o, x = .ref a /\ DGet H2 a y o /\ Q (.bl (!o.isSome)) H2
def sDPut (td ty tv : TE) : TS := fun D σ H => tv σ H fun v H1 => td σ H1 fun x H2 => ty σ H2 fun y H3 => ∃ a H4, x = .ref a /\ DPut H3 a y v H4 /\ D.nx σ H4
section
variable {X : Cx} {o i e value : Expr} {pos pos' tpos : Pos} {td ty tv : TE}
theorem pe_dget (hu : X.A.units + 1 < cLine) (ho : PE X o td) (hi : PE X i ty) (hs : NoSl i) : PE X (.Subscript o i pos) (tDGet td ty) := by
 intro pins s σ H Q I h
 refine subD_of PySem.F.slot_dict_getitem.lookup hs (thn (ho pins s σ H _ I h) fun u s1 ⟨x, H1, I1, rx, q1⟩ => thn (hi pins s1 σ H1 _ I1 q1) fun iv s2 ⟨y, H2, I2, ry, a, v, ex, g, q2⟩ => ?_)
 subst ex
 obtain rfl : u = Value.ref a := rx
 exact ⟨dict_typeIs I2 g, d_getItem hu I2 g ry fun w' s3 I3 rw' => ⟨v, H2, I3, rw', q2⟩⟩
theorem pc_dnotin (hu : X.A.units + 1 < cLine) (hi : PE X i ty) (ho : PE X o td) : PC X .NotIn i o (tDNotIn ty td) := by
 intro pins s σ H Q I h
 refine thn (hi pins s σ H _ I h) fun iv s1 ⟨y, H1, I1, ry, q1⟩ => thn (ho pins s1 σ H1 _ I1 q1) fun u s2 ⟨x, H2, I2, rx, a, ov, ex, g, q2⟩ => ?_
 subst ex
 obtain rfl : u = Value.ref a := rx
 exact d_notIn hu I2 g ry fun s3 I3 => ⟨.bl (!ov.isSome), H2, I3, rfl, q2⟩
theorem ps_dput (hu : X.A.units + 1 < cLine) (ho : PE X o td) (hi : PE X i ty) (hv : PE X value tv) (hs : swapsWith value (some (.Subscript o i pos')) pos.line X.env = pure false) :
  PS X (.Assign [.Subscript o i pos'] value pos) (sDPut td ty tv) := by
 intro pins s σ H D I h
 refine wpAny_Assign_Subscript (thn (hv pins s σ H _ I h) fun r s1 ⟨v, H1, I1, rv, q1⟩ => thn (ho pins s1 σ H1 _ I1 q1) fun u s2 ⟨x, H2, I2, rx, q2⟩ => thn (hi pins s2 σ H2 _ I2 q2) fun iv s3 ⟨y, H3, I3, ry, a, H4, ex, g, q3⟩ => ?_) hs
 subst ex
 obtain rfl : u = Value.ref a := rx
 exact d_setItem hu I3 g ry rv fun s4 I4 => ⟨σ, H4, I4, q3⟩
end
theorem dk_empty {P : Program} {w : World} {H : Hp} (h : Heap) (hb : sysModules < h.objs.size) : ObjOk P w H (h.push { cls := .type "dict", data := .dict #[] }) h.objs.size (.dK []) :=
 ⟨Nat.zero_le _, beq_eq_false_iff_ne.mpr (Ne.symm (Nat.ne_of_lt hb)), [], .nil, Heap.DictOf.new h⟩
def tDNewK : TE := fun _ H Q => ∀ p, H p = none -> Q (.ref p) (upd H p (.dK []))
section
variable {X : Cx} {pos : Pos}
theorem pe_dnewK : PE X (.Dict [] [] pos) tDNewK := fun pins s σ H Q I h =>
 wpAny_Dict_empty ⟨.ref s.heap.objs.size, _, I.laid (a := s.heap.objs.size) (o := .dK []) (t' := s.toks) (fun _ _ q => Heap.get?_push_of_some _ q) (Nat.le_refl _) (dk_empty s.heap I.big), rfl, h _ (I.hok.fresh (Nat.le_refl _))⟩
end
def tPairs : List (TE × TE) -> St -> Hp -> (List (V × V) -> Hp -> Prop) -> Prop
 | [], _, H, Q => Q [] H
 | (tk, tv) :: r, σ, H, Q => tk σ H fun x H1 => tv σ H1 fun y H2 => tPairs r σ H2 fun ps H3 => Q ((x, y) :: ps) H3
abbrev VV : List (V × V) -> List (Value × Value) -> Prop := Paired fun p q => RelV p.1 q.1 /\ RelV p.2 q.2
def PPs (X : Cx) (pos : Pos) (keys : List (Option Expr)) (values : List Expr) (trs : List (TE × TE)) : Prop :=
 ∀ (pins : List (Addr × Obj)) (s : Shared) (σ : St) (H : Hp) (Q : List (V × V) -> Hp -> Prop), Inv X pins σ H s -> tPairs trs σ H Q ->
  wpAny (model X.prog X.w) X.A (evalPairs (pairTrees keys values X.env pos)) (fun vs s' => ∃ ps H', Inv X pins σ H' s' /\ VV ps vs /\ Q ps H') X.xe s
theorem pps_nil {X : Cx} {pos : Pos} : PPs X pos [] [] [] := fun pins s σ H Q I h => pairTrees_nil_walk ⟨[], H, I, .nil, h⟩
theorem pps_cons {X : Cx} {pos : Pos} {k v : Expr} {ks : List (Option Expr)} {vs : List Expr} {tk tv : TE} {trs : List (TE × TE)} (hk : PE X k tk) (hv : PE X v tv) (hr : PPs X pos ks vs trs) :
  PPs X pos (some k :: ks) (v :: vs) ((tk, tv) :: trs) := fun pins s σ H Q I h =>
 pairTrees_cons_walk (thn (hk pins s σ H _ I h) fun u s1 ⟨x, H1, I1, rx, q1⟩ => thn (hv pins s1 σ H1 _ I1 q1) fun w2 s2 ⟨y, H2, I2, ry, q2⟩ =>
  thn (hr pins s2 σ H2 _ I2 q2) fun ws s3 ⟨ps, H3, I3, rel, q3⟩ => ⟨(x, y) :: ps, H3, I3, .cons ⟨rx, ry⟩ rel, q3⟩)
def mergeK (kvs more : List (Key × V)) : List (Key × V) := more.foldl (fun acc kv => putK acc kv.1 kv.2) kvs
theorem KV.merge : ∀ {more : List (Key × V)} {rs : List (Key × Value)} {kvs : List (Key × V)} {vs : List (Key × Value)}, KV more rs -> KV kvs vs -> KV (mergeK kvs more) (merged vs rs) := by
 intro more rs kvs vs r
 unfold KV at r
 induction r generalizing kvs vs with
 | nil => intro q; exact q
 | @cons p q ps qs h t ih =>
  intro r0
  have e : KV (putK kvs p.1 p.2) (stored vs q.1 q.2) := by
   have := r0.put p.1 h.2
   rw [← h.1]; exact this
  exact ih e
theorem length_mergeK : ∀ (more kvs : List (Key × V)), (mergeK kvs more).length <= kvs.length + more.length
 | [], kvs => by show kvs.length <= kvs.length + 0; omega
 | p :: r, kvs => by
  have h1 := length_mergeK r (putK kvs p.1 p.2)
  have h2 := length_putK kvs p.1 p.2
  show (mergeK (putK kvs p.1 p.2) r).length <= _
  rw [List.length_cons]; omega
theorem carries_of {P : Program} {w : World} : ∀ {kvs : List (Key × V)} {ws : List (Value × Value)}, VV (kvs.map fun kv => (kV kv.1, kv.2)) ws -> ∃ rs, Carries (mixKind P w) ws rs /\ KV kvs rs
 | [], _, r => by rw [List.map_nil] at r; cases r; exact ⟨[], True.intro, .nil⟩
 | p :: kvs, _, r => by
  rw [List.map_cons] at r
  cases r with
  | @cons a b as bs h t =>
   obtain ⟨rs, c, q⟩ := carries_of (P := P) (w := w) t
   obtain ⟨b1, b2⟩ := b
   exact ⟨(p.1, b2) :: rs, ⟨kV_is h.1, rfl, c⟩, .cons ⟨rfl, h.2⟩ q⟩
def tDisp (trs : List (TE × TE)) : TE := fun σ H Q => ∀ p, H p = none -> tPairs trs σ (upd H p (.dK [])) fun ps H2 => H2 p = some (.dK []) /\ ∃ kvs : List (Key × V), ps = kvs.map (fun kv => (kV kv.1, kv.2)) /\ kvs.length <= 15 /\ Q (.ref p) (upd H2 p (.dK (mergeK [] kvs)))
theorem pe_disp {X : Cx} {pos : Pos} {keys : List (Option Expr)} {values : List Expr} {trs : List (TE × TE)} (h : PPs X pos keys values trs) (hall : keys.all (·.isSome) = true) (hl : keys.length = values.length) (h0 : keys ≠ [])
  (h15 : keys.length <= 15) : PE X (.Dict keys values pos) (tDisp trs) := by
 intro pins s σ H Q I q
 have hn := I.hok.fresh (Nat.le_refl s.heap.objs.size)
 have I1 := I.laid (a := s.heap.objs.size) (o := .dK []) (h' := s.heap.push { cls := .type "dict", data := .dict #[] }) (t' := s.toks) (fun _ _ q => Heap.get?_push_of_some _ q) (Nat.le_refl _) (dk_empty s.heap I.big)
 refine wpAny_Dict_walk (knd := mixKind X.prog X.w) hall hl h0 h15 (thn (h pins _ σ _ _ I1 (q _ hn)) fun ws s2 ⟨ps, H2, I2, rel, e, kvs, ep, lk, q2⟩ => ?_)
 subst ep
 obtain ⟨rs, c, rk⟩ := carries_of (P := X.prog) (w := X.w) rel
 obtain ⟨z, hd, vs0, r0, dd⟩ := dk_of I2.hok e
 cases r0
 refine ⟨rs, c, dd, fun h' dd' hs => ⟨.ref s.heap.objs.size, _, ?_, rfl, q2⟩⟩
 have hz : (mergeK [] kvs).length <= sizeLine := by
  have h1 := length_mergeK kvs []
  rw [List.length_nil] at h1
  rw [sizeLine_eq]; omega
 have he : ∃ q, h'.get? s.heap.objs.size = some q := let ⟨q, _, _, hq, _⟩ := dd'; ⟨q, hq⟩
 exact d_write I2 (by rw [e]; exact True.intro) hs he (dk_new hz hd (rk.merge .nil) dd')
section
variable {X : Cx} {pins : List (Addr × Obj)} {σ : St} {H : Hp} {s : Shared} {a : Addr} {y d : V} {u r : Value} {o : Option V} {A : Around} {E : Value -> Shared -> Prop}
end
section
variable {X : Cx} {o e f : Expr} {apos cpos : Pos} {td ty tx : TE}
end
section
variable {X : Cx} {pins : List (Addr × Obj)} {σ : St} {H : Hp} {s : Shared} {a : Addr} {kvs : List (Key × V)} {A : Around} {E : Value -> Shared -> Prop}
end
section
variable {X : Cx} {pins : List (Addr × Obj)} {σ : St} {H : Hp} {s : Shared} {a : Addr} {y : V} {u : Value} {A : Around} {E : Value -> Shared -> Prop}
end
end L2
namespace HT
open PySem PyProof.Rows
section
open PySem.SeqAt
open PySem.AutoSeq1 (wpAny_loadPart')
open PySem.MeetsSeq PySem.MeetsSeq2 PySem.MeetsSeq3
end
section
variable {prog : Program} {w : World} {A : Around} {E : Value -> Shared -> Prop} {s : Shared}
def sIx (n d : Nat) : Option Int -> Nat
 | none => d
 | some v => if v < 0 then (v + (n : Int)).toNat else min v.toNat n
theorem sIx_none (n d : Nat) : sIx n d none = d := rfl
theorem sIx_nat (n d k : Nat) : sIx n d (some (k : Int)) = min k n := by
 show (if (k : Int) < 0 then ((k : Int) + (n : Int)).toNat else min (k : Int).toNat n) = min k n
 rw [if_neg (by omega), Int.toNat_natCast]
theorem sIx_le (n d : Nat) (hd : d <= n) (o : Option Int) : sIx n d o <= n := by
 cases o with
 | none => exact hd
 | some v =>
  show (if v < 0 then (v + (n : Int)).toNat else min v.toNat n) <= n
  by_cases hv : v < 0
  ·rw [if_pos hv]; omega
  ·rw [if_neg hv]; exact Nat.min_le_right _ _
theorem clip_eq (v : Int) (n d : Nat) : (if v < 0 then max (v + (n : Int)) 0 else min v (n : Int)) = ((sIx n d (some v) : Nat) : Int) := by
 show (if v < 0 then max (v + (n : Int)) 0 else min v (n : Int)) = (((if v < 0 then (v + (n : Int)).toNat else min v.toNat n) : Nat) : Int)
 by_cases hv : v < 0
 ·simp only [if_pos hv]; omega
 ·simp only [if_neg hv]; omega
theorem adjust_gen (lo hi : Option Int) (n : Nat) : Builtin.Slice.sliceAdjust lo hi 1 (n : Int) = (((sIx n 0 lo : Nat) : Int), ((sIx n n hi : Nat) : Int)) := by
 have h1 : ¬ ((1 : Int) < 0) := by omega
 unfold Builtin.Slice.sliceAdjust
 simp only [h1, if_false]
 refine Prod.ext ?_ ?_
 ·cases lo with
  | none => rfl
  | some v => exact clip_eq v n 0
 ·cases hi with
  | none => rfl
  | some v => exact clip_eq v n n
theorem places_gen (i j : Nat) : Builtin.Slice.slicePlaces (i : Int) (j : Int) 1 = j - i := by
 unfold Builtin.Slice.slicePlaces
 have h1 : (1 : Int) > 0 := by omega
 simp only [h1, if_true, Int.ediv_one]
 split <;> omega
theorem slicePart_ {v : Value} {o : Option Int} {Q : Option Int -> Shared -> Prop} (p : IsPart v o) (h : Q o s) : wpAny (model prog w) A (Builtin.Slice.slicePartIndex v) Q E s := by
 cases p with
 | none => exact slicePart_none h
 | int i t => exact slicePart_int h
theorem sliceApplied_gen {sl : Addr} {vl vu : Value} {lo hi : Option Int} {n : Nat} {Q : Int × Int × Nat -> Shared -> Prop} (hs : s.heap.IsSliceOf sl vl vu .none) (pl : IsPart vl lo) (pu : IsPart vu hi)
  (h : Q (((sIx n 0 lo : Nat) : Int), 1, sIx n n hi - sIx n 0 lo) s) : wpAny (model prog w) A (Builtin.Slice.sliceApplied (.ref sl) (pure (n : Int))) Q E s := by
 obtain ⟨os, hos, hcs, hds⟩ := id hs
 unfold Builtin.Slice.sliceApplied Builtin.Slice.sliceFields
 refine wpAny_bind (wpAny_bind (wpAny_field hos hds (x := vl) rfl (wpAny_bind (wpAny_field hos hds (x := vu) rfl (wpAny_bind (wpAny_field hos hds (x := .none) rfl (wpAny_pure ?_)))))))
 refine wpAny_bind (slicePart_none ?_)
 show wpAny _ _ (if ((1 : Int) == 0) = true then _ else _) _ _ s
 rw [if_neg (by decide)]
 refine wpAny_bind (slicePart_ pl (wpAny_bind (slicePart_ pu (wpAny_bind (wpAny_pure ?_)))))
 show wpAny _ _ (match Builtin.Slice.sliceAdjust lo hi 1 (n : Int) with | (lo, hi) => pure (lo, (1 : Int), Builtin.Slice.slicePlaces lo hi 1)) _ _ s
 rw [adjust_gen lo hi n]
 show wpAny _ _ (pure (((sIx n 0 lo : Nat) : Int), (1 : Int), Builtin.Slice.slicePlaces ((sIx n 0 lo : Nat) : Int) ((sIx n n hi : Nat) : Int) 1)) _ _ s
 rw [places_gen]
 exact wpAny_pure h
theorem pick_gen (xs : Array Value) (i k : Nat) : ((List.range k).filterMap fun (m : Nat) => xs[((i : Int) + (m : Int) * 1).toNat]?).toArray = ((xs.toList.drop i).take k).toArray := by
 have e : (fun (m : Nat) => xs[((i : Int) + (m : Int) * 1).toNat]?) = fun m => xs[i + m]? := by
  funext m
  have : ((i : Int) + (m : Int) * 1).toNat = i + m := by omega
  rw [this]
 rw [e]
 have := pick_run xs i k
 rw [List.filterMap_map] at this
 have e2 : ((fun x => xs[x]?) ∘ fun x => i + x) = fun m => xs[i + m]? := rfl
 rw [e2] at this
 rw [this]
theorem getItem_tuple_cut {t sl : Addr} {items : Array Value} {vl vu : Value} {lo hi : Option Int} {Q : Value -> Shared -> Prop} (ht : IsTup s.heap t items) (hs : s.heap.IsSliceOf sl vl vu .none) (pl : IsPart vl lo) (pu : IsPart vu hi)
  (hw : ¬ (sIx items.size 0 lo = 0 /\ sIx items.size items.size hi = items.size))
  (h : Q (.ref s.heap.objs.size) { s with heap := s.heap.push { cls := .type "tuple", data := .seq ((items.toList.drop (sIx items.size 0 lo)).take (sIx items.size items.size hi - sIx items.size 0 lo)).toArray } })
  (hsz : items.size <= sizeLine) : wpAny (model prog w) A (getItem (.ref t) (.ref sl)) Q E s := by
 have htake : sizeOk (.seq ((items.toList.drop (sIx items.size 0 lo)).take (sIx items.size items.size hi - sIx items.size 0 lo)).toArray) := by
  show ((items.toList.drop (sIx items.size 0 lo)).take (sIx items.size items.size hi - sIx items.size 0 lo)).toArray.size <= sizeLine
  rw [List.size_toArray, List.length_take, List.length_drop, Array.length_toList]
  omega
 have hj : sIx items.size items.size hi <= items.size := sIx_le _ _ (Nat.le_refl _) hi
 obtain ⟨os, hos, hcs, hds⟩ := id hs
 have hTs : s.TypeIs (.ref sl) "slice" := ⟨os, hos, hcs⟩
 unfold getItem
 try with_reducible refine wpAny_holding ?_
 first | refine wpAny_bind (wpAny_pure ?_) | skip
 refine wpAny_bind (wpAny_sequenceKey ht.typeIs (by decide) ?_)
 refine wpAny_bind (wpAny_callSpecial?_slot (name := Str.ofString "__getitem__") ht.typeIs PyProof.Rows.slot_tuple_getitem
  (wpAny_call_entry PyProof.Rows.slot_tuple_getitem ht.typeIs entry_tuple_getitem ?_ (args_tuple_getitem _ _)))
 show wpAny _ _ (Builtin.Tuple.tupleItemsOf (.ref t) >>= _) _ _ s
 refine wpAny_bind (tupleItemsOf_ ht ?_)
 refine wpAny_bind (wpAny_typeOf hTs ?_)
 rw [if_pos (by decide)]
 refine wpAny_bind (sliceApplied_gen hs pl pu ?_)
 have hno : ¬ ((((sIx items.size 0 lo : Nat) : Int) == 0 && (1 : Int) == 1 && (sIx items.size items.size hi - sIx items.size 0 lo) == items.size) = true) := by
  intro q
  rw [Bool.and_eq_true, Bool.and_eq_true] at q
  have q1 : ((sIx items.size 0 lo : Nat) : Int) = 0 := eq_of_beq q.1.1
  have q2 : sIx items.size items.size hi - sIx items.size 0 lo = items.size := eq_of_beq q.2
  exact hw ⟨by omega, by omega⟩
 show wpAny _ _ (if (((sIx items.size 0 lo : Nat) : Int) == 0 && (1 : Int) == 1 && (sIx items.size items.size hi - sIx items.size 0 lo) == items.size) = true then _ else _) _ _ s
 rw [if_neg hno, pick_gen]
 first
  | exact wpAny_bind (m := Builtin.Tuple.tupleExact _) (wpAny_newObj_type (wpAny_pure ⟨_, rfl, wpAny_pure h⟩) htake)
  | exact wpAny_bind (m := Builtin.Tuple.tupleExact _) (wpAny_newObj_type (wpAny_bind (wpAny_pure (wpAny_pure ⟨_, rfl, wpAny_pure h⟩))) htake)
  | exact wpAny_bind (wpAny_bind (m := Builtin.Tuple.tupleExact _) (wpAny_newObj_type (wpAny_pure (wpAny_pure ⟨_, rfl, wpAny_pure h⟩)) htake))
  | exact wpAny_bind (wpAny_bind (m := Builtin.Tuple.tupleExact _) (wpAny_newObj_type (wpAny_pure ⟨_, rfl, wpAny_pure h⟩) htake))
end
end HT
namespace L2
open PySem PySem.Spec PyProof.Rows
abbrev TO := St -> Hp -> (Option Int -> Hp -> Prop) -> Prop
def PO (X : Cx) (e : Option Expr) (t : TO) : Prop :=
 ∀ (pins : List (Addr × Obj)) (s : Shared) (σ : St) (H : Hp) (Q : Option Int -> Hp -> Prop), Inv X pins σ H s -> t σ H Q ->
  wpAny (model X.prog X.w) X.A (evalPart e X.env) (fun u s' => ∃ o H', Inv X pins σ H' s' /\ IsPart u o /\ Q o H') X.xe s
def tNoPart : TO := fun _ H Q => Q none H
def tPart (t : TE) : TO := fun σ H Q => t σ H fun x H1 => ∃ i, x = .int i /\ Q (some i) H1
section
variable {X : Cx} {e : Expr} {te : TE} {lo hi : Option Expr} {tl th : TO} {pos p2 : Pos}
theorem po_none : PO X none tNoPart := by
 intro pins s σ H Q I h
 rw [evalPart_none]
 exact wpAny_pure ⟨none, H, I, .none, h⟩
theorem po_some (h : PE X e te) : PO X (some e) (tPart te) := by
 intro pins s σ H Q I hw
 rw [evalPart_some]
 refine thn (h pins s σ H _ I hw) fun u s1 ⟨x, H1, I1, r1, q1⟩ => ?_
 obtain ⟨i, rfl, q⟩ := q1
 obtain ⟨t, rfl⟩ := r1
 exact ⟨some i, H1, I1, .int i t, q⟩
def SlR (X : Cx) (r : V -> Option Int -> Option Int -> Hp -> VK -> Prop) : Prop :=
 ∀ (pins : List (Addr × Obj)) (s : Shared) (σ : St) (H : Hp) (x : V) (v vl vu : Value) (lo hi : Option Int) (sl : Addr) (Q : VK), Inv X pins σ H s -> RelV x v -> s.heap.IsSliceOf sl vl vu .none -> IsPart vl lo -> IsPart vu hi -> r x lo hi H Q ->
  ∃ T id, typeLookup (.type T) "__getitem__" = pure (some (.builtin id)) /\ s.TypeIs v T /\ wpAny (model X.prog X.w) X.A (getItem v (.ref sl)) (EP X pins σ Q) X.xe s
def tSl (r : V -> Option Int -> Option Int -> Hp -> VK -> Prop) (te : TE) (tl th : TO) : TE := fun σ H Q => te σ H fun x H1 => tl σ H1 fun l H2 => th σ H2 fun u H3 => r x l u H3 Q
theorem pe_slice {r : V -> Option Int -> Option Int -> Hp -> VK -> Prop} (hr : SlR X r) (he : PE X e te) (hl : PO X lo tl) (hu : PO X hi th) : PE X (.Subscript e (.Slice lo hi none p2) pos) (tSl r te tl th) := by
 intro pins s σ H Q I h
 refine Subscript_ (thn (he pins s σ H _ I h) fun v s1 ⟨x, H1, I1, r1, q1⟩ => ?_)
 refine wpAny_Slice (thn (hl pins s1 σ H1 _ I1 q1) fun vl s2 ⟨l, H2, I2, pl, q2⟩ => thn (hu pins s2 σ H2 _ I2 q2) fun vu s3 ⟨u, H3, I3, pu, q3⟩ => ?_)
 rw [evalPart_none]
 refine wpAny_pure ?_
 have I4 : Inv X pins σ H3 { s3 with heap := s3.heap.push { cls := .type "slice", data := .fields #[vl, vu, .none] } } := I3.kept (t' := s3.toks) fun b ob q => Heap.get?_push_of_some _ q
 obtain ⟨T, id, hT, ht, hg⟩ := hr pins { s3 with heap := s3.heap.push { cls := .type "slice", data := .fields #[vl, vu, .none] } } σ H3 x v vl vu l u s3.heap.objs.size Q I4 r1 (Heap.IsSliceOf.new ..) pl pu q3
 show wpAny (model X.prog X.w) X.A (subscriptTail e (.Slice lo hi none p2) v (.ref s3.heap.objs.size)) (EP X pins σ Q) X.xe { s3 with heap := s3.heap.push { cls := .type "slice", data := .fields #[vl, vu, .none] } }
 exact tail_any (ops := [.ref s3.heap.objs.size, v]) ht hT hg (by with_unfolding_all rfl)
def cutV (xs : List V) (lo hi : Option Int) : List V := (xs.drop (HT.sIx xs.length 0 lo)).take (HT.sIx xs.length xs.length hi - HT.sIx xs.length 0 lo)
theorem cutV_length (xs : List V) (lo hi : Option Int) : (cutV xs lo hi).length <= xs.length := by
 unfold cutV
 rw [List.length_take, List.length_drop]
 omega
def rSlT (K : PySem.W.Frag) : V -> Option Int -> Option Int -> Hp -> VK -> Prop := fun x lo hi H Q => ∃ a xs, x = .ref a /\ SqT K H a xs /\
 ¬ (HT.sIx xs.length 0 lo = 0 /\ HT.sIx xs.length xs.length hi = xs.length) /\ ∀ p, H p = none -> Q (.ref p) (upd H p (.tup (cutV xs lo hi)))
theorem sl_tup : SlR X (rSlT X.K) := by
 intro pins s σ H x v vl vu lo hi sl Q I rx hs pl pu h
 obtain ⟨a, xs, rfl, hx, hw, q⟩ := h
 cases rx
 obtain ⟨its, r, ht, hz⟩ := I.tuple hx
 have hlen : its.toArray.size = xs.length := by rw [List.size_toArray]; exact r.length.symm
 refine ⟨"tuple", _, PyProof.Rows.slot_tuple_getitem.lookup, ht.typeIs, ?_⟩
 refine HT.getItem_tuple_cut ht hs pl pu (by rw [hlen]; exact hw) ?_ (by rw [hlen]; exact hz)
 rw [hlen]
 refine ⟨.ref s.heap.objs.size, _, I.laid (t' := s.toks) (o := .tup (cutV xs lo hi)) (fun b ob q => Heap.get?_push_of_some _ q) (Nat.le_refl _) ?_, rfl, q _ (I.hok.fresh (Nat.le_refl _))⟩
 exact ⟨Nat.le_trans (cutV_length xs lo hi) hz, _, (r.drop (HT.sIx xs.length 0 lo)).take (HT.sIx xs.length xs.length hi - HT.sIx xs.length 0 lo), IsTup.new _ _⟩
end
end L2
namespace L2
open PySem PySem.Spec PyProof.Rows
def ixN (n : Nat) (i : Int) : Option Nat := if 0 <= i then (if i < n then some i.toNat else none) else if -(n : Int) <= i then some (i + n).toNat else none
def atI {α : Type} (xs : List α) (i : Int) : Option α := (ixN xs.length i).bind fun j => xs[j]?
theorem ixN_seq {n : Nat} {i : Int} {j : Nat} (h : ixN n i = some j) : seqIndex? i n = some j /\ j < n /\ -(n : Int) <= i /\ i < n := by
 unfold ixN at h
 by_cases h0 : 0 <= i
 ·rw [if_pos h0] at h
  by_cases h1 : i < n
  ·rw [if_pos h1] at h
   have e : i.toNat = j := Option.some.inj h
   exact ⟨by rw [seqIndex_of h0 h1, e], by omega, by omega, h1⟩
  ·rw [if_neg h1] at h; cases h
 ·rw [if_neg h0] at h
  by_cases h1 : -(n : Int) <= i
  ·rw [if_pos h1] at h
   have e : (i + n).toNat = j := Option.some.inj h
   exact ⟨by rw [seqIndex_neg (by omega) h1, e], by omega, h1, by omega⟩
  ·rw [if_neg h1] at h; cases h
theorem atI_get {α : Type} {xs : List α} {i : Int} {v : α} (h : atI xs i = some v) : ∃ j, seqIndex? i xs.length = some j /\ xs[j]? = some v /\ j < xs.length /\ -(xs.length : Int) <= i /\ i < xs.length := by
 unfold atI at h
 cases e : ixN xs.length i with
 | none => rw [e] at h; cases h
 | some j =>
  rw [e] at h
  obtain ⟨h1, h2, h3, h4⟩ := ixN_seq e
  exact ⟨j, h1, h, h2, h3, h4⟩
theorem atI_nat {α : Type} {xs : List α} {j : Nat} {v : α} (h : xs[j]? = some v) : atI xs (j : Int) = some v := by
 have hj : j < xs.length := (List.getElem?_eq_some_iff.mp h).1
 have e : ixN xs.length (j : Int) = some j := by
  unfold ixN
  rw [if_pos (by omega), if_pos (by omega)]; simp
 unfold atI; rw [e]; exact h
def PlainIx (b : Expr) : Prop := ∀ o i, subscripted b false o i = operate [o, i] (getItem o i)
def IxR (X : Cx) (r : R2) : Prop :=
 ∀ (value slice : Expr) (pins : List (Addr × Obj)) (s : Shared) (σ : St) (H : Hp) (x y : V) (v u : Value) (Q : VK), Inv X pins σ H s -> RelV x v -> RelV y u -> r x y H Q ->
  subscripted slice false v u = operate [v, u] (getItem v u) -> wpAny (model X.prog X.w) X.A (subscriptTail value slice v u) (EP X pins σ Q) X.xe s
def MtR (X : Cx) (id : String) (r : V -> List V -> Hp -> VK -> Prop) : Prop :=
 ∀ (pins : List (Addr × Obj)) (s : Shared) (σ : St) (H : Hp) (x : V) (xs : List V) (v : Value) (us : List Value) (Q : VK), Inv X pins σ H s -> RelV x v -> Vals xs us -> r x xs H Q ->
  wpAny (model X.prog X.w) X.A (call (.builtin id) (v :: us)) (EP X pins σ Q) X.xe s
section
variable {X : Cx} {a b : Expr} {ta tb : TE} {pos : Pos}
theorem pe_ix {r : R2} (hr : IxR X r) (ha : PE X a ta) (hb : PE X b tb) (hs : PlainIx b) : PE X (.Subscript a b pos) (tOp r ta tb) := by
 intro pins s σ H Q I h
 exact Subscript_ (binT ha hb I h fun v u s2 x y H2 I2 rx ry q => hr a b pins s2 σ H2 x y v u Q I2 rx ry q (hs _ _))
def rIxL (K : PySem.W.Frag) : R2 := fun x y H Q => ∃ p xs i v, x = .ref p /\ y = .int i /\ SqL K H p xs /\ atI xs i = some v /\ Q v H
def rIxT (K : PySem.W.Frag) : R2 := fun x y H Q => ∃ p xs i v, x = .ref p /\ y = .int i /\ SqT K H p xs /\ atI xs i = some v /\ Q v H
def rIxS : R2 := fun x y H Q => ∃ z i c, x = .str z /\ y = .int i /\ z.length <= sizeLine /\ atI z.cps.toList i = some c /\ Q (.str ⟨#[c]⟩) H
theorem ix_list : IxR X (rIxL X.K) := by
 intro value slice pins s σ H x y v u Q I rx ry h hs
 obtain ⟨p, xs, i, z, rfl, rfl, hq, he, q⟩ := h
 cases rx
 obtain ⟨t, rfl⟩ := ry
 obtain ⟨its, r, pl, hz⟩ := I.list hq
 obtain ⟨j, h1, h2, h3, h4, h5⟩ := atI_get he
 obtain ⟨w, ew, rw'⟩ := r.get h2
 have hl := r.length
 have hn := line63
 have fin : EP X pins σ Q w s := ⟨z, H, I, rw', q⟩
 by_cases h0 : 0 <= i
 ·have hj : i.toNat = j := by
   rw [seqIndex_of h0 h5] at h1
   exact Option.some.inj h1
  exact item_listR pl.isList h0 (by omega) (by rw [hj]; simpa using ew) fin hs
 ·have hj : (i + (its.toArray.size : Int)).toNat = j := by
   rw [seqIndex_neg (by omega) h4] at h1
   rw [List.size_toArray, ← hl]
   exact Option.some.inj h1
  exact subscriptTail_builtinR (x := w) pl.isList.typeIs slot_list_getitem.lookup
   (wpAny_getItem_list_neg (Q := fun r s' => r = w /\ EP X pins σ Q r s') pl.isList (by omega) (by rw [List.size_toArray] <;> omega) (by omega) (by rw [hj]; simpa using ew) ⟨rfl, fin⟩) hs
theorem ix_tup : IxR X (rIxT X.K) := by
 intro value slice pins s σ H x y v u Q I rx ry h hs
 obtain ⟨p, xs, i, z, rfl, rfl, hq, he, q⟩ := h
 cases rx
 obtain ⟨t, rfl⟩ := ry
 obtain ⟨its, r, pl, hz⟩ := I.tuple hq
 obtain ⟨j, h1, h2, h3, h4, h5⟩ := atI_get he
 obtain ⟨w, ew, rw'⟩ := r.get h2
 have hl := r.length
 have hn := line63
 have fin : EP X pins σ Q w s := ⟨z, H, I, rw', q⟩
 exact subscriptTail_builtinR (x := w) pl.typeIs slot_tuple_getitem.lookup
  (getItem_tuple (j := j) (Q := fun r s' => r = w /\ EP X pins σ Q r s') pl (by omega) (by omega) (by rw [List.size_toArray, ← hl]; exact h1) (by simpa using ew) ⟨rfl, fin⟩) hs
theorem ix_str : IxR X rIxS := by
 intro value slice pins s σ H x y v u Q I rx ry h hs
 obtain ⟨z, i, c, rfl, rfl, hz, he, q⟩ := h
 obtain ⟨t, rfl⟩ := rx
 obtain ⟨t', rfl⟩ := ry
 obtain ⟨j, h1, h2, h3, h4, h5⟩ := atI_get he
 have hl : z.cps.toList.length = z.length := by simp [Str.length]
 rw [hl] at h1 h4 h5
 have hn := line63
 exact tail_any (typeIs_str s z t) slot_str_getitem.lookup (getItem_str (c := c) (by
  have e1 : decide (i < -(2 ^ 63 : Int)) = false := decide_eq_false (by omega)
  have e2 : decide (i ≥ 2 ^ 63) = false := decide_eq_false (by omega)
  rw [e1, e2, Bool.or_false]) (by rw [h1]; simpa using h2) ⟨.str ⟨#[c]⟩, H, I.tok _, ⟨_, rfl⟩, q⟩) hs
theorem slice_bounds (lo hi : Option Int) (n : Nat) : (sliceBounds lo hi none n).1 = ((HT.sIx n 0 lo : Nat) : Int) /\ (sliceBounds lo hi none n).2.1 = ((HT.sIx n n hi : Nat) : Int) /\ (sliceBounds lo hi none n).2.2 = 1 := by
 refine ⟨?_, ?_, rfl⟩
 ·cases lo with
  | none => simp [sliceBounds, HT.sIx]
  | some i =>
   simp only [sliceBounds, HT.sIx, Option.getD_none, show (1 : Int) > 0 by decide, if_true]
   by_cases h : i < 0
   ·simp only [h, if_true] <;> omega
   ·simp only [h, if_false] <;> omega
 ·cases hi with
  | none => simp [sliceBounds, HT.sIx]
  | some i =>
   simp only [sliceBounds, HT.sIx, Option.getD_none, show (1 : Int) > 0 by decide, if_true]
   by_cases h : i < 0
   ·simp only [h, if_true] <;> omega
   ·simp only [h, if_false] <;> omega
theorem slicePick_cut (its : List Value) (lo hi : Option Int) : slicePick its.toArray lo hi none = ((its.drop (HT.sIx its.length 0 lo)).take (HT.sIx its.length its.length hi - HT.sIx its.length 0 lo)).toArray := by
 obtain ⟨h1, h2, h3⟩ := slice_bounds lo hi its.toArray.size
 unfold slicePick
 rw [h1, h2, h3]
 simp only [sliceRange_one, pick_run, List.size_toArray] <;> rfl
def rSlL (K : PySem.W.Frag) : V -> Option Int -> Option Int -> Hp -> VK -> Prop := fun x lo hi H Q => ∃ a xs, x = .ref a /\ SqL K H a xs /\ ∀ p, H p = none -> Q (.ref p) (upd H p (.lst (cutV xs lo hi)))
theorem sl_list : SlR X (rSlL X.K) := by
 intro pins s σ H x v vl vu lo hi sl Q I rx hs pl pu h
 obtain ⟨a, xs, rfl, hx, q⟩ := h
 cases rx
 obtain ⟨its, r, ht, hz⟩ := I.list hx
 have hlen := r.length
 refine ⟨"list", _, slot_list_getitem.lookup, ht.isList.typeIs, ?_⟩
 refine wpAny_getItem_list_slice ht.isList hs pl pu .none (by simp) ?_ (by rw [List.size_toArray] <;> omega)
 rw [slicePick_cut, ← hlen]
 refine ⟨.ref s.heap.objs.size, _, I.laid (t' := s.toks) (o := .lst (cutV xs lo hi)) (fun b ob q => Heap.get?_push_of_some _ q) (Nat.le_refl _) ?_, rfl, q _ (I.hok.fresh (Nat.le_refl _))⟩
 exact ⟨Nat.le_trans (cutV_length xs lo hi) hz, _, 0, (r.drop (HT.sIx xs.length 0 lo)).take (HT.sIx xs.length xs.length hi - HT.sIx xs.length 0 lo), Heap.get?_push_size _ rfl⟩
def flatV : V -> Bool
 | .non => true
 | .bl _ => true
 | .int _ => true
 | .str _ => true
 | _ => false
def eqV : V -> V -> Bool
 | .non, .non => true
 | .bl a, .bl b => a == b
 | .bl a, .int b => (if a then 1 else 0) == b
 | .int a, .bl b => a == (if b then 1 else 0)
 | .int a, .int b => a == b
 | .str a, .str b => a == b
 | _, _ => false
theorem eqAt_V {A : Around} {s : Shared} {y x : V} {u v : Value} (ry : RelV y u) (rx : RelV x v) (fy : flatV y = true) (fx : flatV x = true) : SeqAt.EqAt A s u v (eqV y x) := by
 cases y with
 | non =>
  cases ry
  cases x with
  | non => cases rx; exact SeqAt.EqAt.same _
  | bl b => cases rx; exact SeqAt.EqAt.none_bool b
  | int b => obtain ⟨t, rfl⟩ := rx; exact SeqAt.EqAt.none_int b t
  | str b => obtain ⟨t, rfl⟩ := rx; exact SeqAt.EqAt.none_str b t
  | _ => exact absurd (show false = true from fx) Bool.false_ne_true
 | bl a =>
  cases ry
  cases x with
  | non => cases rx; exact SeqAt.EqAt.bool_none a
  | bl b => cases rx; exact SeqAt.EqAt.bool_bool a b
  | int b => obtain ⟨t, rfl⟩ := rx; exact SeqAt.EqAt.bool_int a b t
  | str b => obtain ⟨t, rfl⟩ := rx; exact SeqAt.EqAt.bool_str a b t
  | _ => exact absurd (show false = true from fx) Bool.false_ne_true
 | int a =>
  obtain ⟨t', rfl⟩ := ry
  cases x with
  | non => cases rx; exact SeqAt.EqAt.int_none a t'
  | bl b => cases rx; exact SeqAt.EqAt.int_bool a t' b
  | int b => obtain ⟨t, rfl⟩ := rx; exact SeqAt.EqAt.int_int a t' b t
  | str b => obtain ⟨t, rfl⟩ := rx; exact SeqAt.EqAt.int_str a t' b t
  | _ => exact absurd (show false = true from fx) Bool.false_ne_true
 | str a =>
  obtain ⟨t', rfl⟩ := ry
  cases x with
  | non => cases rx; exact SeqAt.EqAt.str_none a t'
  | bl b => cases rx; exact SeqAt.EqAt.str_bool a t' b
  | int b => obtain ⟨t, rfl⟩ := rx; exact SeqAt.EqAt.str_int a t' b t
  | str b => obtain ⟨t, rfl⟩ := rx; exact SeqAt.EqAt.str_str a t' b t
  | _ => exact absurd (show false = true from fx) Bool.false_ne_true
 | _ => exact absurd (show false = true from fy) Bool.false_ne_true
def eqU (x : V) (u : Value) : Bool := match u with
 | .none => eqV .non x
 | .bool b => eqV (.bl b) x
 | .int i _ => eqV (.int i) x
 | .str z _ => eqV (.str z) x
 | _ => false
theorem eqU_of {x y : V} {u : Value} (r : RelV y u) (f : flatV y = true) : eqU x u = eqV y x := by
 cases y with
 | non => cases r; rfl
 | bl b => cases r; rfl
 | int i => obtain ⟨t, rfl⟩ := r; rfl
 | str z => obtain ⟨t, rfl⟩ := r; rfl
 | _ => exact absurd (show false = true from f) Bool.false_ne_true
theorem any_eqU {x : V} : ∀ {xs : List V} {us : List Value}, Vals xs us -> xs.all flatV = true -> us.any (eqU x) = xs.any fun y => eqV y x
 | _, _, .nil, _ => rfl
 | y :: xs, u :: us, .cons r t, f => by
  rw [List.all_cons, Bool.and_eq_true] at f
  rw [List.any_cons, List.any_cons, eqU_of r f.1, any_eqU t f.2]
theorem mem_eqAt {A : Around} {s : Shared} {x : V} {v : Value} (rx : RelV x v) (fx : flatV x = true) : ∀ {xs : List V} {us : List Value}, Vals xs us -> xs.all flatV = true -> ∀ u ∈ us, SeqAt.EqAt A s u v (eqU x u)
 | _, _, .nil, _ => fun u hu => by cases hu
 | y :: xs, u :: us, .cons r t, f => fun u' hu => by
  rw [List.all_cons, Bool.and_eq_true] at f
  rcases List.mem_cons.mp hu with rfl | hu
  ·rw [eqU_of r f.1]; exact eqAt_V r rx f.1 fx
  ·exact mem_eqAt rx fx t f.2 u' hu
def inV (x : V) (xs : List V) : Bool := xs.any fun y => eqV y x
def rIn (K : PySem.W.Frag) (neg : Bool) : R2 := fun x y H Q => ∃ p xs, y = .ref p /\ (SqL K H p xs \/ SqT K H p xs) /\ flatV x = true /\ xs.all flatV = true /\ Q (.bl (if neg then !inV x xs else inV x xs)) H
theorem op_in_seq : OpR X (compareOp .In) (rIn X.K false) := by
 intro pins s σ H x y v u Q I rx ry h
 obtain ⟨p, xs, rfl, hq, fx, fs, q⟩ := h
 cases ry
 rcases hq with hq | hq
 ·obtain ⟨its, r, pl, hz⟩ := I.list hq
  refine SeqAt.in_listAt (eqU x) pl.isList (fun w hw => mem_eqAt rx fx r fs w (by simpa using hw)) ⟨.bl _, H, I, rfl, ?_⟩
  rw [show its.toArray.any (eqU x) = its.any (eqU x) by simp, any_eqU r fs]
  exact q
 ·obtain ⟨its, r, pl, hz⟩ := I.tuple hq
  refine SeqAt.in_tupleAt (eqU x) pl (fun w hw => mem_eqAt rx fx r fs w (by simpa using hw)) ⟨.bl _, H, I, rfl, ?_⟩
  rw [show its.toArray.any (eqU x) = its.any (eqU x) by simp, any_eqU r fs]
  exact q
theorem op_notIn_seq : OpR X (compareOp .NotIn) (rIn X.K true) := by
 intro pins s σ H x y v u Q I rx ry h
 obtain ⟨p, xs, rfl, hq, fx, fs, q⟩ := h
 cases ry
 rcases hq with hq | hq
 ·obtain ⟨its, r, pl, hz⟩ := I.list hq
  refine SeqAt.notIn_listAt (eqU x) pl.isList (fun w hw => mem_eqAt rx fx r fs w (by simpa using hw)) ⟨.bl _, H, I, rfl, ?_⟩
  rw [show its.toArray.any (eqU x) = its.any (eqU x) by simp, any_eqU r fs]
  exact q
 ·obtain ⟨its, r, pl, hz⟩ := I.tuple hq
  refine SeqAt.notIn_tupleAt (eqU x) pl (fun w hw => mem_eqAt rx fx r fs w (by simpa using hw)) ⟨.bl _, H, I, rfl, ?_⟩
  rw [show its.toArray.any (eqU x) = its.any (eqU x) by simp, any_eqU r fs]
  exact q
theorem call_len_seq : CallR X (.builtin "len") (fun xs H Q => ∃ p ys, xs = [.ref p] /\ (SqL X.K H p ys \/ SqT X.K H p ys) /\ Q (.int ys.length) H) := by
 intro pins s σ H xs us Q I r h
 obtain ⟨p, ys, rfl, hq, q⟩ := h
 obtain ⟨u, rfl, rx⟩ := vals1 r
 cases rx
 have hn := line63
 rcases hq with hq | hq
 ·obtain ⟨its, r', pl, hz⟩ := I.list hq
  have hlen := r'.length
  exact Calls.call_len_list pl.isList (by simp only [List.size_toArray] <;> omega) ⟨.int ys.length, H, I.tok _, ⟨s.toks + 1, by rw [List.size_toArray, hlen]⟩, q⟩
 ·obtain ⟨its, r', pl, hz⟩ := I.tuple hq
  have hlen := r'.length
  exact len_tuple pl (by simp only [List.size_toArray] <;> omega) ⟨.int ys.length, H, I.tok _, ⟨s.toks + 1, by rw [List.size_toArray, hlen]⟩, q⟩
theorem call_len_str : CallR X (.builtin "len") (fun xs H Q => ∃ z, xs = [.str z] /\ z.length <= sizeLine /\ Q (.int z.length) H) := by
 intro pins s σ H xs us Q I r h
 obtain ⟨z, rfl, hz, q⟩ := h
 obtain ⟨u, rfl, t, rfl⟩ := vals1 r
 have hn := line63
 exact len_str (by omega) ⟨.int z.length, H, I.tok _, ⟨_, rfl⟩, q⟩
theorem call_list_of : CallR X (.type "list") (fun xs H Q => ∃ p ys, xs = [.ref p] /\ (SqL X.K H p ys \/ SqT X.K H p ys) /\ ∀ l, H l = none -> Q (.ref l) (upd H l (.lst ys))) := by
 intro pins s σ H xs us Q I r h
 obtain ⟨p, ys, rfl, hq, q⟩ := h
 obtain ⟨u, rfl, rx⟩ := vals1 r
 cases rx
 have fin : ∀ (its : List Value), Vals ys its -> ys.length <= sizeLine -> ∀ (h' : Heap) (c' : Nat), (∀ b o', s.heap.get? b = some o' -> h'.get? b = some o') ->
   h'.get? s.heap.objs.size = some { cls := .type "list", dict := none, data := .seq its.toArray c', slots := #[] } -> EP X pins σ Q (.ref s.heap.objs.size) { s with heap := h' } := fun its r' hz h' c' kp e =>
  ⟨.ref s.heap.objs.size, _, I.laid (t' := s.toks) kp (Nat.le_refl _) (show ObjOk X.prog X.w _ h' _ (.lst ys) from ⟨hz, its, c', r', e⟩), rfl, q _ (I.hok.fresh (Nat.le_refl _))⟩
 rcases hq with hq | hq
 ·obtain ⟨its, r', pl, hz⟩ := I.list hq
  have hlen := r'.length
  obtain ⟨o, ho, hc, n, hd⟩ := pl.isList
  exact call_list_seq p (.inl rfl) ho hc hd (fun h' c' kp e => fin its r' hz h' c' kp e) (by simp only [List.size_toArray] <;> omega)
 ·obtain ⟨its, r', pl, hz⟩ := I.tuple hq
  have hlen := r'.length
  obtain ⟨o, ho, hc, n, hd⟩ := pl
  exact call_list_seq p (.inr rfl) ho hc hd (fun h' c' kp e => fin its r' hz h' c' kp e) (by simp only [List.size_toArray] <;> omega)
def tyV (K : PySem.W.Frag) (T : String) (x : V) (H : Hp) : Prop := match x with
 | .str _ => T = "str"
 | .int _ => T = "int"
 | .ref p => (T = "list" /\ ∃ xs, SqL K H p xs) \/ (T = "tuple" /\ ∃ o, K.lookup p = some o /\ o.cls = .type "tuple" /\ o.dict = none) \/
   (T = "dict" /\ ((∃ kvs, H p = some (.dK kvs)) \/ ∃ kvs, H p = some (.dT kvs))) \/ (T = "set" /\ ∃ S n, H p = some (.set S n))
 | _ => False
theorem tyV_is {pins : List (Addr × Obj)} {σ : St} {H : Hp} {s : Shared} {T : String} {x : V} {v : Value} (I : Inv X pins σ H s) (r : RelV x v) (ty : tyV X.K T x H) :
  s.TypeIs v T /\ ∀ a, v = .ref a -> ∃ ob, s.heap.get? a = some ob /\ ob.dict = none := by
 cases x with
 | str z =>
  obtain ⟨t, rfl⟩ := r
  cases (show T = "str" from ty)
  exact ⟨typeIs_str s z t, fun _ e => nomatch e⟩
 | int i =>
  obtain ⟨t, rfl⟩ := r
  cases (show T = "int" from ty)
  exact ⟨typeIs_int s i t, fun _ e => nomatch e⟩
 | ref p =>
  cases r
  rcases ty with ⟨rfl, xs, hq⟩ | ⟨rfl, o, hk, hc, hd⟩ | ⟨rfl, hk⟩ | ⟨rfl, S, n, hk⟩
  ·obtain ⟨its, _, pl, _⟩ := I.list hq
   refine ⟨pl.isList.typeIs, fun a e => ?_⟩
   cases e
   obtain ⟨o, n, e, c, hd, _⟩ := pl
   exact ⟨o, e, hd⟩
  ·refine ⟨⟨o, I.kIn p o hk, hc⟩, fun a e => ?_⟩
   cases e
   exact ⟨o, I.kIn _ o hk, hd⟩
  ·have z : ∃ o, s.heap.get? p = some o /\ o.ExactDict := by
    rcases hk with ⟨kvs, hk⟩ | ⟨kvs, hk⟩
    ·obtain ⟨_, _, _, _, o, _, _, e, ex, _⟩ := I.hok p _ hk
     exact ⟨o, e, ex⟩
    ·obtain ⟨_, _, _, _, o, _, _, e, ex, _⟩ := I.hok p _ hk
     exact ⟨o, e, ex⟩
   obtain ⟨o, e, ex⟩ := z
   refine ⟨⟨o, e, ex.1⟩, fun a e2 => ?_⟩
   cases e2
   exact ⟨o, e, ex.2.1⟩
  ·obtain ⟨o, _, _, _, e, ex, _⟩ := I.hok p _ hk
   refine ⟨⟨o, e, ex.1⟩, fun a e2 => ?_⟩
   cases e2
   exact ⟨o, e, ex.2.1⟩
 | _ => exact False.elim ty
def tBM0 (K : PySem.W.Frag) (T : String) (r : V -> List V -> Hp -> VK -> Prop) (to : TE) : TE := fun σ H Q => to σ H fun x H1 => tyV K T x H1 /\ r x [] H1 Q
def tBM (K : PySem.W.Frag) (T : String) (r : V -> List V -> Hp -> VK -> Prop) (to : TE) (t : TA) : TE := fun σ H Q => to σ H fun x H1 => tyV K T x H1 /\ t σ H1 fun xs H2 => r x xs H2 Q
variable {o e : Expr} {es : List Expr} {to : TE} {t : TA} {name : Str} {apos cpos : Pos} {T id : String} {r : V -> List V -> Hp -> VK -> Prop}
theorem pe_bm0 (pa : PlainAttrs T) (slot : Slot T name id) (hty : typeOf (.builtin id) = pure (.type "method_descriptor")) (hm : MtR X id r) (ho : PE X o to)
  (hbase : attributeBase o name X.env (eval o X.env) = eval o X.env := by rfl) (hline : (apos.endLine == cpos.line) = true := by rfl) : PE X (.Call (.Attribute o name apos) [] [] cpos) (tBM0 X.K T r to) := by
 intro pins s σ H Q I h
 refine wpAny_Call_method0_late hbase hline (thn (ho pins s σ H _ I h) fun v s1 ⟨x, H1, I1, r1, ty, q1⟩ => ?_)
 obtain ⟨h1, h2⟩ := tyV_is I1 r1 ty
 exact ⟨T, id, pa, slot, hty, h1, h2, Calls.callWith_builtin rfl (PySem.evalArgs_none (hm pins s1 σ H1 x [] v [] Q I1 r1 .nil q1))⟩
theorem pe_bm (pa : PlainAttrs T) (slot : Slot T name id) (hty : typeOf (.builtin id) = pure (.type "method_descriptor")) (hm : MtR X id r) (ho : PE X o to) (ha : PA X (e :: es) t)
  (hbase : attributeBase o name X.env (eval o X.env) = eval o X.env := by rfl)
  (hfew : ((backTo cpos (starEach (e :: es) X.env)).all (fun x => !x.1) && (backToKw cpos (keywordEach [] X.env)).all (fun x => x.1.isSome)
   && decide ((e :: es).length + ([] : List Keyword).length + (if ([] : List Keyword).isEmpty then 0 else 1) < 30)) = true := by rfl)
  (hline : (apos.endLine == cpos.line) = true := by rfl) (hs : starEach (e :: es) X.env = (false, eval e X.env) :: starEach es X.env := by rfl) (hplain : (backTo cpos (starEach es X.env)).any (·.1) = false := by rfl) :
  PE X (.Call (.Attribute o name apos) (e :: es) [] cpos) (tBM X.K T r to t) := by
 intro pins s σ H Q I h
 refine wpAny_Call_method_late hbase hfew hline rfl (thn (ho pins s σ H _ I h) fun v s1 ⟨x, H1, I1, r1, ty, q1⟩ => ?_)
 obtain ⟨h1, h2⟩ := tyV_is I1 r1 ty
 refine ⟨T, id, pa, slot, hty, h1, h2, ?_⟩
 have hA := ha cpos pins s1 σ H1 _ I1 q1
 rw [hs] at hA ⊢
 refine Calls.callWith_builtin (by show (false || (backTo cpos (starEach es X.env)).any (·.1)) = false; rw [hplain] <;> rfl) (Calls.evalArgs_plain ?_)
 exact thn hA fun us s2 ⟨vs, H2, I2, r2, q2⟩ => hm pins s2 σ H2 x vs v us Q I2 r1 r2 q2
end
end L2
namespace L2
open PySem PySem.Spec PyProof.Rows
def MtM (X : Cx) (id : String) (r : V -> List V -> Hp -> VK -> Prop) : Prop :=
 ∀ (pins : List (Addr × Obj)) (s : Shared) (σ : St) (H : Hp) (x : V) (xs : List V) (v : Value) (us : List Value) (Q : VK), Inv X pins σ H s -> RelV x v -> Vals xs us -> r x xs H Q ->
  wpAny (model X.prog X.w) X.A (call (.builtin id) (v :: us)) (EP X pins σ Q) X.xe s
theorem Vals.one : ∀ {x : V} {us : List Value}, Vals [x] us -> ∃ u, us = [u] /\ RelV x u
 | _, _, .cons r .nil => ⟨_, rfl, r⟩
theorem Vals.two : ∀ {x y : V} {us : List Value}, Vals [x, y] us -> ∃ u v, us = [u, v] /\ RelV x u /\ RelV y v
 | _, _, _, .cons r (.cons q .nil) => ⟨_, _, rfl, r, q⟩
theorem Vals.eraseIdx : ∀ {xs : List V} {us : List Value} (i : Nat), Vals xs us -> Vals (xs.eraseIdx i) (us.eraseIdx i)
 | _, _, _, .nil => .nil
 | _, _, 0, .cons _ t => t
 | _, _, i + 1, .cons r t => .cons r (Vals.eraseIdx i t)
theorem len_erase {α : Type} : ∀ (l : List α) (i : Nat), (l.eraseIdx i).length <= l.length
 | [], _ => Nat.le_refl _
 | _ :: _, 0 => Nat.le_succ _
 | _ :: r, i + 1 => Nat.succ_le_succ (len_erase r i)
section
variable {X : Cx} {pins : List (Addr × Obj)} {σ : St} {H : Hp} {s : Shared} {l b : Addr} {xs ys zs : List V}
theorem Inv.lset {its its' : List Value} {n : Nat} {f : Array Value -> Array Value} {t' : Nat} (I : Inv X pins σ H s) (hH : H l = some (.lst xs))
  (e : s.heap.get? l = some { cls := .type "list", data := .seq its.toArray n }) (hf : f its.toArray = its'.toArray) (hv : Vals ys its') (hz : ys.length <= sizeLine) :
  Inv X pins σ (upd H l (.lst ys)) { s with heap := s.heap.update l (Obj.mapSeq f), toks := t' } := by
 have q := PySem.IsL.update e f
 rw [hf] at q
 refine I.write (x := l) (e := l) (by rw [hH]; exact trivial) (.inl rfl) (fun b' u hb hu => (Heap.get?_update_other s.heap (Obj.mapSeq f) (Ne.symm hb)).trans hu) ⟨_, q⟩ ?_
 exact ⟨hz, its', _, hv, q⟩
theorem Inv.lnew {its : List Value} {t' : Nat} (I : Inv X pins σ H s) (hv : Vals ys its) (hz : ys.length <= sizeLine) :
  Inv X pins σ (upd H s.heap.objs.size (.lst ys)) { s with heap := s.heap.push { cls := .type "list", data := .seq its.toArray }, toks := t' } :=
 I.laid (fun _ _ q => Heap.get?_push_of_some _ q) (Nat.le_refl _) ⟨hz, its, 0, hv, Heap.get?_push_size _ rfl⟩
theorem Inv.fresh (I : Inv X pins σ H s) : H s.heap.objs.size = none := I.hok.fresh (Nat.le_refl _)
theorem Inv.lstM (I : Inv X pins σ H s) (hH : H l = some (.lst xs)) : xs.length <= sizeLine /\ ∃ (its : List Value) (n : Nat), Vals xs its /\ xs.length = its.length /\ s.heap.get? l = some { cls := .type "list", data := .seq its.toArray n } := by
 obtain ⟨z, its, n, r, e⟩ := I.hok l _ hH
 exact ⟨z, its, n, r, r.length, e⟩
theorem notLongL {n : Nat} (h : n <= sizeLine) : Builtin.List.listTooLong n = false := by
 unfold Builtin.List.listTooLong
 exact decide_eq_false (by omega)
end
section
variable {X : Cx}
def rAppend : V -> List V -> Hp -> VK -> Prop := fun x vs H Q => ∃ l xs y, x = .ref l /\ vs = [y] /\ H l = some (.lst xs) /\ xs.length < sizeLine /\ Q .non (upd H l (.lst (xs ++ [y])))
theorem mt_append : MtM X "list.append" rAppend := by
 intro pins s σ H x vs v us Q I rx rv h
 obtain ⟨l, xs, y, rfl, rfl, hH, hz, q⟩ := h
 cases rx
 obtain ⟨u, rfl, ru⟩ := rv.one
 obtain ⟨z, its, n, r, hl, e⟩ := I.lstM hH
 refine call_meets F.slot_list_append ⟨_, e, rfl⟩ F.entry_list_append (F.args_list_append_2 _ _) (PySem.list_append l its.toArray n u (by rw [List.size_toArray]; omega)) ⟨e, ?_⟩
 refine ⟨.non, _, I.lset (its' := its ++ [u]) hH e (by simp) (r.append (.cons ru .nil)) ?_, rfl, q⟩
 rw [List.length_append, List.length_singleton]
 omega
def rExtend : V -> List V -> Hp -> VK -> Prop := fun x vs H Q => ∃ l b xs zs, x = .ref l /\ vs = [.ref b] /\ H l = some (.lst xs) /\ H b = some (.lst zs) /\ xs.length + zs.length <= sizeLine /\ Q .non (upd H l (.lst (xs ++ zs)))
theorem mt_extend : MtM X "list.extend" rExtend := by
 intro pins s σ H x vs v us Q I rx rv h
 obtain ⟨l, b, xs, zs, rfl, rfl, hH, hB, hz, q⟩ := h
 cases rx
 obtain ⟨u, rfl, ru⟩ := rv.one
 cases ru
 obtain ⟨z, its, n, r, hl, e⟩ := I.lstM hH
 obtain ⟨z2, its2, n2, r2, hl2, e2⟩ := I.lstM hB
 have hsz : its.toArray.size + its2.toArray.size <= sizeLine := by rw [List.size_toArray, List.size_toArray]; omega
 have hlong : ¬ (!its.toArray.isEmpty && Builtin.List.listTooLong (its.toArray.size + its2.toArray.size)) = true := by
  rw [notLongL hsz, Bool.and_false]
  exact Bool.false_ne_true
 refine call_meets F.slot_list_extend ⟨_, e, rfl⟩ F.entry_list_extend (F.args_list_extend_2 _ _)
  (AutoSeq1.list_extend_list_list_0 l its.toArray n b its2.toArray n2 hlong (by rw [List.size_toArray]; omega) (by omega)) ⟨e, e2, ?_⟩
 refine ⟨.non, _, I.lset (its' := its ++ its2) hH e (by simp) (r.append r2) ?_, rfl, q⟩
 rw [List.length_append]
 omega
def rPopAt : V -> List V -> Hp -> VK -> Prop := fun x vs H Q => ∃ l xs i k y, x = .ref l /\ vs = [.int i] /\ H l = some (.lst xs) /\ -(2 ^ 63) <= i /\ i < 2 ^ 63 /\ seqIndex? i xs.length = some k /\ xs[k]? = some y /\ Q y (upd H l (.lst (xs.eraseIdx k)))
theorem mt_popAt : MtM X "list.pop" rPopAt := by
 intro pins s σ H x vs v us Q I rx rv h
 obtain ⟨l, xs, i, k, y, rfl, rfl, hH, h1, h2, hk, hy, q⟩ := h
 cases rx
 obtain ⟨u, rfl, ru⟩ := rv.one
 obtain ⟨t, rfl⟩ := ru
 obtain ⟨z, its, n, r, hl, e⟩ := I.lstM hH
 obtain ⟨w, hw, rw'⟩ := r.get hy
 refine call_meets F.slot_list_pop ⟨_, e, rfl⟩ F.entry_list_pop (F.args_list_pop_2 _ _)
  (MeetsSeq.list_pop_at l its.toArray n i t k w (fitsIndex_both h1 h2) (by rw [List.size_toArray, ← hl]; exact hk) (by rw [← Array.getElem?_toList]; exact hw) (by rw [List.size_toArray]; omega)) ⟨e, ?_⟩
 refine ⟨y, _, I.lset (its' := its.eraseIdx k) hH e ?_ (r.eraseIdx k) ?_, rw', q⟩
 ·show its.toArray.eraseIdxIfInBounds k = (its.eraseIdx k).toArray
  rw [List.eraseIdxIfInBounds_toArray]
 ·have := len_erase xs k
  omega
def rCat : R2 := fun x y H Q => ∃ l b xs zs, x = .ref l /\ y = .ref b /\ H l = some (.lst xs) /\ H b = some (.lst zs) /\ xs.length + zs.length <= sizeLine /\ ∀ p, H p = none -> Q (.ref p) (upd H p (.lst (xs ++ zs)))
theorem op_cat : OpR X (binaryOp .Add) rCat := by
 intro pins s σ H x y v u Q I rx ry h
 obtain ⟨l, b, xs, zs, rfl, rfl, hH, hB, hz, q⟩ := h
 cases rx
 cases ry
 obtain ⟨z, its, n, r, hl, e⟩ := I.lstM hH
 obtain ⟨z2, its2, n2, r2, hl2, e2⟩ := I.lstM hB
 refine PySem.P.add_list e e2 ?_ (by rw [List.size_toArray, List.size_toArray]; omega)
 have ea : its.toArray ++ its2.toArray = (its ++ its2).toArray := by simp
 rw [ea]
 exact ⟨.ref _, _, I.lnew (t' := s.toks) (r.append r2) (by rw [List.length_append]; omega), rfl, q _ I.fresh⟩
end
section
variable {prog : Program} {w : World} {A : Around} {E : Value -> Shared -> Prop} {s : Shared}
end
section
variable {X : Cx}
end
end L2
namespace Att
open PySem PySem.W PySem.Calls PyProof.Rows
theorem ints_of_wellAll {P : Params} {h : Heap} : ∀ (ns : List Int) (vs : List Value), WellAll P h vs (ns.map WData.int) -> IntsAre vs ns := by
 intro ns
 induction ns with
 | nil =>
  intro vs w
  rw [List.map_nil] at w
  cases w
  exact .nil
 | cons n ns ih =>
  intro vs w
  rw [List.map_cons] at w
  cases w with
  | cons a b =>
   cases a
   exact .cons _ _ (ih _ b)
theorem script_of {l : OpenLaw} {n : Nat} (hn : l.most = some n) {P : Params} {h : Heap} {args : List WData} {vals : List Value}
  (hpre : l.row.toRowW.claim.pre args = true) (hwl : WellAll P h vals args) :
  ∃ a vs ns, vals = [Value.ref a] /\ args = [WData.list (ns.map WData.int)] /\ h.get? a = some { cls := .type "list", data := .seq vs.toArray } /\ IntsAre vs ns /\ ns.length <= n := by
 have hsh : WShape.hasAll [] args [.list .int] = true := (pre_splitW hpre).1
 have hc : l.pre.holds [] { args := args } = true := (pre_splitW hpre).2
 obtain ⟨d, r, rfl, h1, h2⟩ := hasAllW_cons hsh
 obtain rfl := hasAllW_nil h2
 obtain ⟨xs, rfl, h3⟩ := hasW_list h1
 obtain ⟨ns, rfl⟩ := items_int h3
 have hlen : ns.length <= n := by
  unfold OpenLaw.pre at hc
  have h4 : (WTm.not (.lt (.lit (.int (n : Int))) (.len (.arg 0)))).holds [] { args := [.list (ns.map .int)] } = true := by
   have h4 := (holds_andW hc).1
   rw [hn] at h4
   exact h4
  have h5 := condW_of h4 (w_not (w_lt w_lit (w_len_list (w_arg rfl))))
  rw [List.length_map] at h5
  refine Nat.le_of_not_lt fun q => ?_
  have q' : (n : Int) < ((ns.length : Nat) : Int) := by omega
  first
   | (rw [decide_eq_true q'] at h5; exact absurd h5 (by decide))
   | (simp at h5; omega)
 cases hwl with
 | cons w1 w2 =>
  cases w2
  cases w1 with
  | list ho hall => exact ⟨_, _, ns, rfl, rfl, ho, ints_of_wellAll ns _ hall, hlen⟩
theorem post_true (l : OpenLaw) (args : List WData) : l.row.toRowW.claim.post args (.bool true) args = true :=
 postW_of (r := l.row.toRowW) (X := (true == true))
  (show WShape.has [] (.bool true) .bool = true by first | rfl | decide | simp [WShape.has, WShape.arms, WShape.armsAll])
  (show (WTm.eq .res (.lit (.bool true))).value [] { args := args, res := some (.bool true), after := args } = some (.bool (true == true)) from w_eq_bool (w_res rfl) w_lit) rfl
theorem attach_call {l : OpenLaw} {n : Nat} {q : Program} {loose : List Str} {XP : (Str -> Option Value) -> Heap -> Prop} {YP : World -> Heap -> Prop} {d : DefRec}
  (hn : l.most = some n) (hdf : d.params.defaults = [])
  (call : ∀ (w : World) (s₀ s₁ : Shared) (mg mb : Str -> Option Value) (fa : Addr) (o : Obj) (pm cd doc : Value) (a : Addr) (vs : List Value) (ns : List Int),
   Ground q loose [] XP w s₀ mg mb s₁.heap -> YP w s₁.heap ->
   s₁.heap.get? fa = some o -> o.data = .func (docDef d.name d.params d.body d.scope pm cd doc) -> s₁.heap.CodeRec cd d.name -> mg d.name = some (.ref fa) ->
   s₁.heap.get? a = some { cls := .type "list", data := .seq vs.toArray } -> IntsAre vs ns -> ns.length <= n -> s₁.gens = #[] ->
   codeAny (model l.prog w) callerA (.call (.ref fa) ⟨[.ref a], []⟩) (fun r s' => r = .ok (.ret (.bool true)) /\ OldK s₁.heap s'.heap /\ s'.os = s₁.os /\ AllBare s'.gens) s₁) :
  WalkO q loose XP YP l.row.toRowW d [] (fun f vs => PySem.call f vs) := by
 intro w s₀ s₁ mg mb G Y fa o pm cd doc dV kV ho hd hcd hD hmg hg args vals as hpre hlay hrd hwl hlo
 obtain rfl : dV = .none := Dflts.none hD hdf
 obtain rfl : kV = .none := Dflts.noKw hD
 obtain ⟨a, vs, ns, rfl, rfl, hobj, hints, hlen⟩ := script_of hn hpre hwl
 refine enter_call (codeAny_mono (call w s₀ s₁ mg mb fa o pm cd doc a vs ns G Y ho (fd_plain hd) hcd hmg hobj hints hlen hg) fun r s' hq => ?_)
 obtain ⟨rfl, h2, h3, h4⟩ := hq
 exact ⟨.inl ⟨.bool true, .bool true, [], rfl, fun _ => rfl, .bool true, post_true l _, fun _ => ⟨List.Pairwise.nil, fun _ hm => (nomatch hm)⟩⟩, h2, h3, h4⟩
section
variable {prog : Program} {w : World} {A : Around} {E : Value -> Shared -> Prop} {s : Shared} {K : Frag}
end
end Att
namespace L2
open PySem PySem.Spec PyProof.Rows
theorem vals_ints : ∀ {vs : List Value} {ns : List Int}, IntsAre vs ns -> Vals (ns.map V.int) vs
 | _, _, .nil => .nil
 | _, _, .cons n t h => .cons ⟨t, rfl⟩ (vals_ints h)
def Only (H : Hp) : Prop := ∀ b, H b = none \/ ∃ o xs, H b = some (.frz o (.lst xs))
theorem law_call {P : Program} {w : World} {K : PySem.W.Frag} {mg mb : Str -> Option Value} {CX : CXT} {k : Nat} {fa a : Addr} {fd : FuncData} {x : Str} {sp : Sp} {s₁ : Shared} {vs : List Value} {ns : List Int}
  (KX : K.In s₁.heap) (hns : s₁.heap.Ns mainGlobals mg) (hb : s₁.heap.Ns builtinsNs mb) (hbb : ∀ x : Str, x ≠ "__name__" -> mb x = bootBuiltins x) (hlim : s₁.heap.NoLimit) (hg : s₁.gens = #[])
  (ha : s₁.heap.get? a = some { cls := .type "list", data := .seq vs.toArray }) (hi : IntsAre vs ns) (hl : ns.length <= sizeLine) (hr : Room k callerA)
  (F : ∀ base : Heap, K.In base -> base.Ns mainGlobals mg -> FnOk P w K mg base CX k fa fd [x] sp) (hbind : ∀ (s : Shared) (u : Value), BindsTo s fd ⟨[u], []⟩ [(x, u)])
  (hsp : ∀ H : Hp, Only H -> SqL K H a (ns.map V.int) -> sp [.ref a] H (fun v _ => v = .bl true) fun _ _ _ => False)
  (hCX : ∀ H e s', CX [] H s₁ (fun _ _ _ => False) e s' -> False) :
  codeAny (model P w) callerA (.call (.ref fa) ⟨[.ref a], []⟩) (fun r s' => r = .ok (.ret (.bool true)) /\ OldK s₁.heap s'.heap /\ s'.os = s₁.os /\ AllBare s'.gens) s₁ := by
 have rv := vals_ints hi
 have lenV := hi.length
 have core : ∀ H : Hp, Only H -> SqL K H a (ns.map V.int) -> HOk P w H s₁.heap -> (∀ b, H b ≠ none -> b = a) -> (H a ≠ none -> K.lookup a = none) ->
   codeAny (model P w) callerA (.call (.ref fa) ⟨[.ref a], []⟩) (fun r s' => r = .ok (.ret (.bool true)) /\ OldK s₁.heap s'.heap /\ s'.os = s₁.os /\ AllBare s'.gens) s₁ := by
  intro H hO hS hok hA hK
  have base_of : ∀ {b : Addr} {o : Obj}, s₁.heap.get? b = some o -> H b = none -> (hidT s₁.heap H).get? b = some o := fun e n => hidT_get e n
  have noA : ∀ {b : Addr} {o : Obj} {es : Array DictEntry} {ep : Nat}, s₁.heap.get? b = some o -> o.data = .dict es ep -> H b = none := fun {b o es ep} e d => by
   cases q : H b with
   | none => rfl
   | some u =>
    have e' : b = a := hA b (by rw [q]; simp)
    subst e'
    rw [ha] at e; cases e
    have d' : Data.seq vs.toArray _ = Data.dict es ep := d
    cases d'
  have nsK : ∀ {b : Addr} {m : Str -> Option Value}, s₁.heap.Ns b m -> (hidT s₁.heap H).Ns b m := fun {b m} ⟨o, es, ep, e, d, r⟩ => ⟨o, es, ep, base_of e (noA e d), d, r⟩
  have hKb : K.In (hidT s₁.heap H) := fun b o e => base_of (KX b o e) (by
   cases q : H b with
   | none => rfl
   | some u =>
    have e' : b = a := hA b (by rw [q]; simp)
    subst e'
    rw [hK (by rw [q]; simp)] at e; cases e)
  have hM : Mod K mg (hidT s₁.heap H) := ⟨hKb, nsK hns, ⟨mb, nsK hb, hbb⟩, let ⟨mc, h1, h2⟩ := hlim; ⟨mc, nsK h1, h2⟩⟩
  have e0 : Env0 P w K mg (hidT s₁.heap H) callerA [] s₁ H := ⟨rfl, hM, fun b o e => of_hidT e, Nat.le_of_eq (hidT_size _ _), trivial, fun b hb => absurd (show b ∈ ([] : List Addr) from hb) (by simp), hok, .of_eq hg⟩
  refine codeAny_mono ((F _ hKb (nsK hns)).run callerA [] s₁ H ⟨[.ref a], []⟩ [.ref a] [.ref a] _ _ hr e0 (hbind s₁ (.ref a)) (.cons rfl .nil) (hsp H hO hS)) fun r s' h => ?_
  cases r with
  | error e => exact (hCX H e s' h).elim
  | ok fl =>
   cases fl with
   | next => exact False.elim h
   | brk => exact False.elim h
   | cont => exact False.elim h
   | ret u =>
    obtain ⟨v, H', os, bare, un, hok', r', q⟩ := h
    have q' : v = .bl true := q
    subst q'
    obtain rfl : u = Value.bool true := r'
    refine ⟨rfl, OldK.of_keep fun b o e => ?_, os, bare⟩
    cases q : H b with
    | none => exact un.keep b o e q (by intro z; exact absurd (show b ∈ ([] : List Addr) from z) (by simp)) (by simp)
    | some u =>
     rcases hO b with z | ⟨ob, xs, z⟩
     ·rw [q] at z; cases z
     ·have z2 := un.frzs b ob _ z
      obtain ⟨e1, _⟩ := hok b _ z
      obtain ⟨e2, _⟩ := hok' b _ z2
      rw [e] at e1; cases e1
      exact e2
 cases hk : K.lookup a with
 | some o =>
  have e := KX a o hk
  rw [ha] at e
  cases e
  refine core (fun _ => none) (fun _ => .inl rfl) (.inr ⟨_, vs.toArray, _, hk, rfl, rfl, rfl, by rw [List.size_toArray, lenV]; exact hl, by simpa using rv⟩) (fun b u z => by have z' : (none : Option HO) = some u := z; cases z') (fun b z => absurd rfl z) fun z => absurd rfl z
 | none =>
  refine core (fun b => if b = a then some (.frz { cls := .type "list", data := .seq vs.toArray } (.lst (ns.map V.int))) else none) (fun b => ?_) (.inl (.inr ⟨{ cls := .type "list", data := .seq vs.toArray }, if_pos rfl⟩)) (fun b u z => ?_) (fun b z => ?_) fun _ => hk
  ·by_cases hb : b = a
   ·exact .inr ⟨_, _, if_pos hb⟩
   ·exact .inl (if_neg hb)
  ·by_cases hb : b = a
   ·have z' := (if_pos hb).symm.trans z
    cases z'
    subst hb
    exact ⟨ha, by rw [List.length_map]; exact hl, vs, _, rv, ha⟩
   ·have z' := (if_neg hb).symm.trans z
    cases z'
  ·by_cases hb : b = a
   ·exact hb
   ·exact absurd (if_neg hb) z
end L2
namespace L2
open PySem PySem.Spec PyProof.Rows
theorem walk_of {l : PySem.W.OpenLaw} {n k : Nat} {q : Program} {loose : List Str} {XP : (Str -> Option Value) -> Heap -> Prop} {YP : World -> Heap -> Prop} {d : DefRec} {K : Params -> PySem.W.Frag} {CX : World -> CXT} {sp : World -> Sp} {x : Str}
  (hn : l.most = some n) (hn2 : n <= sizeLine) (hdf : d.params.defaults = []) (hr : Room k callerA)
  (hY : ∀ (w : World) (h : Heap), YP w h -> (K w.params).In h)
  (F : ∀ (w : World) (mg : Str -> Option Value) (fa : Addr) (h : Heap), (K w.params).In h -> h.Ns mainGlobals mg -> mg d.name = some (.ref fa) ->
   ∃ fd : FuncData, (∀ (s : Shared) (u : Value), BindsTo s fd ⟨[u], []⟩ [(x, u)]) /\
    ∀ base : Heap, (K w.params).In base -> base.Ns mainGlobals mg -> FnOk l.prog w (K w.params) mg base (CX w) k fa fd [x] (sp w))
  (hsp : ∀ (w : World) (H : Hp) (a : Addr) (ns : List Int), ns.length <= n -> Only H -> SqL (K w.params) H a (ns.map V.int) -> sp w [.ref a] H (fun v _ => v = .bl true) fun _ _ _ => False)
  (hCX : ∀ (w : World) (H : Hp) (s : Shared) (e : Value) (s' : Shared), CX w [] H s (fun _ _ _ => False) e s' -> False) :
  PySem.W.WalkO q loose XP YP l.row.toRowW d [] (fun f vs => PySem.call f vs) := by
 refine Att.attach_call hn hdf fun w s₀ s₁ mg mb fa o pm cd doc a vs ns G Y ho hd hcd hmg hobj hints hlen hg => ?_
 have KX := hY w _ Y
 obtain ⟨fd, hb, hF⟩ := F w mg fa _ KX G.T.g hmg
 exact law_call KX G.T.g G.T.b G.T.builtins G.T.nolimit hg hobj hints (Nat.le_trans hlen hn2) hr hF hb (fun H hO hS => hsp w H a ns hlen hO hS) fun H e s' => hCX w H s₁ e s'
end L2
namespace L2
open PySem PySem.Spec PyProof.Rows
def inClass (s : Stmt) (j : Nat) : Stmt := match s with
 | .ClassDef _ _ _ body _ _ _ _ _ _ _ => body.getD j (.Pass ⟨0, 0, 0, 0⟩)
 | _ => .Pass ⟨0, 0, 0, 0⟩
def defArgs (s : Stmt) : Arguments := match s with
 | .FunctionDef _ a _ _ _ _ _ _ _ _ => a
 | _ => { posonlyargs := [], args := [], vararg := none, kwonlyargs := [], kw_defaults := [], kwarg := none, defaults := [] }
def defBody (s : Stmt) : List Stmt := match s with
 | .FunctionDef _ _ b _ _ _ _ _ _ _ => b
 | _ => []
def defScope (s : Stmt) : Scope := match s with
 | .FunctionDef _ _ _ _ _ _ sc _ _ _ => sc
 | _ => { kind := .function, names := [], isGenerator := false, isCoroutine := false }
abbrev CX0 : CXT := fun _ _ _ _ _ _ => False
abbrev E0 : XK := fun _ _ _ => False
theorem pass0 {X : Cx} : Passes CX0 X E0 := fun _ _ _ _ _ _ _ h => h.elim
structure Fun (K : PySem.W.Frag) (x qual : Str) (st : Stmt) (f : Addr) (fd : FuncData) : Prop where
 ex : ∃ (oc : Value) (od : Option Addr) (kV doc pm : Value) (an : Option Addr) (cdv ct : Value) (osl : Array (Option Value)),
  fd = PySem.W.fnOf x qual (defArgs st) (defBody st) (defScope st) .none kV doc pm an cdv ct /\ K.lookup f = some ⟨oc, od, .func fd, osl⟩ /\ PySem.W.codeIn K cdv qual = true
 kp : PySem.W.keepIn K (.ref f) = true
section
variable {P : Program} {w : World} {K : PySem.W.Frag} {mg : Str -> Option Value} {base : Heap}
theorem Fun.ok {x qual : Str} {st : Stmt} {f : Addr} {fd : FuncData} {N ps : List Str} {k : Nat} {sp : Sp} (F : Fun K x qual st f fd) (S : FnScope N ps (defScope st)) (len : ∀ vs H Q E, sp vs H Q E -> vs.length = ps.length)
  (hbody : ∀ (cdv : Value) (A : Around) (outer : List Env) (s : Shared) (H : Hp) (vs : List V) (Q : VK) (E : XK), Room k (A.deeper (envOfC qual (defScope st) s.heap.objs.size f cdv)) -> sp vs H Q E ->
   ∃ t, PSs (cxOf CX0 P w K mg base N qual (defScope st) f cdv A outer s H E).nox (defBody st) t /\ t { nx := fun _ H' => Q .non H', rt := Q } (start N vs) H) : FnOk P w K mg base CX0 (k + 1) f fd ps sp := by
 obtain ⟨oc, od, kV, doc, pm, an, cdv, ct, osl, rfl, lk, hcd⟩ := F.ex
 refine fn_of lk hcd S len fun A outer s H vs Q E hr hsp => ?_
 obtain ⟨t, h, q⟩ := hbody cdv A outer s H vs Q E hr hsp
 exact ⟨t, h.nox, q⟩
theorem Fun.binds {x qual : Str} {st : Stmt} {f : Addr} {fd : FuncData} {ps : List Str} (F : Fun K x qual st f fd)
  (h : ∀ (kV doc pm : Value) (an : Option Addr) (cdv ct : Value) (us : List Value), us.length = ps.length -> bindArgs (PySem.W.fnOf x qual (defArgs st) (defBody st) (defScope st) .none kV doc pm an cdv ct) ⟨us, []⟩ = pure (ps.zip us)) : Binds K fd ps [] := by
 obtain ⟨oc, od, kV, doc, pm, an, cdv, ct, osl, rfl, lk, hcd⟩ := F.ex
 exact .all (h kV doc pm an cdv ct)
theorem fun_mk {x qual : Str} {st : Stmt} {f : Addr} {oc : Value} {od an : Option Addr} {osl : Array (Option Value)} {kV doc pm cdv ct : Value} (l : K.lookup f = some ⟨oc, od, .func (PySem.W.fnOf x qual (defArgs st) (defBody st) (defScope st) .none kV doc pm an cdv ct), osl⟩)
  (c : PySem.W.codeIn K cdv qual = true) (k : PySem.W.keepIn K (.ref f) = true) : Fun K x qual st f (PySem.W.fnOf x qual (defArgs st) (defBody st) (defScope st) .none kV doc pm an cdv ct) := ⟨⟨oc, od, kV, doc, pm, an, cdv, ct, osl, rfl, l, c⟩, k⟩
end
theorem hu_of {A : Around} {k : Nat} (hr : Room k A) : A.units + 1 < cLine := Nat.lt_of_le_of_lt (Nat.add_le_add_left (by decide : 1 <= 64) _) hr.units
theorem small1000 {n : Nat} (h : n <= 1000) : n < sizeLine := Nat.lt_of_le_of_lt h (by decide)
section
variable {X : Cx}
theorem pv (i : Nat) {x : Str} {pos : Pos} (hN : X.N[i]? = some x := by rfl) (hv : Vis X.env.scope x := by first | exact Or.inl rfl | exact Or.inr (Or.inl rfl) | exact Or.inr (Or.inr rfl)) (hd : (x == ("__debug__" : Str)) = false := by decide)
  (hcd : (x == ("__classdict__" : Str)) = false := by decide) : PE X (.Name x pos) (tVar i) := pe_var hN hv hd hcd
end
theorem iteF {A B : Prop} (h : B) : if false = true then A else B := by
 rw [if_neg Bool.false_ne_true]
 exact h
theorem iteT {A B : Prop} (h : A) : if true = true then A else B := by
 rw [if_pos rfl]
 exact h
theorem ite2 {c A B : Prop} [Decidable c] (h1 : c -> A) (h2 : ¬ c -> B) : if c then A else B := by
 by_cases h : c
 ·rw [if_pos h]
  exact h1 h
 ·rw [if_neg h]
  exact h2 h
theorem iteNS {c A B : Prop} [Decidable c] (hc : c) (h : B) : if (!decide c) = true then A else B := by
 rw [decide_eq_true hc]
 exact iteF h
def Same (H H' : Hp) : Prop := ∀ b o, H b = some o -> H' b = some o
theorem Same.refl (H : Hp) : Same H H := fun _ _ h => h
theorem Same.trans {H H1 H2 : Hp} (a : Same H H1) (b : Same H1 H2) : Same H H2 := fun c o h => b c o (a c o h)
theorem Same.free {H H' : Hp} (e : Same H H') {l : Addr} (h : H' l = Option.none) : H l = Option.none := by
 cases q : H l with
 | none => rfl
 | some o =>
  rw [e l o q] at h
  cases h
theorem Same.seq {K : PySem.W.Frag} {H H' : Hp} {a : Addr} {xs : List V} (e : Same H H') (h : SqL K H a xs) : SqL K H' a xs := by
 rcases h with (h | ⟨o, h⟩) | h
 ·exact .inl (.inl (e _ _ h))
 ·exact .inl (.inr ⟨o, e _ _ h⟩)
 ·exact .inr h
end L2
namespace L2
open PySem PySem.Spec PyProof.Rows
section
variable {X : Cx}
end
section
variable {κ : Type} [DecidableEq κ]
theorem nd_snoc : ∀ {l : List κ} {k : κ}, l.Nodup -> ¬ k ∈ l -> (l ++ [k]).Nodup
 | [], k, _, _ => by simp
 | a :: r, k, h, hk => by
  obtain ⟨h1, h2⟩ := List.nodup_cons.mp h
  show (a :: (r ++ [k])).Nodup
  refine List.nodup_cons.mpr ⟨fun m => ?_, nd_snoc h2 fun m => hk (List.mem_cons.mpr (Or.inr m))⟩
  rcases List.mem_append.mp m with q | q
  ·exact h1 q
  ·exact hk (List.mem_cons.mpr (Or.inl (List.mem_singleton.mp q).symm))
end
end L2
namespace L2
open PySem PySem.Spec PyProof.Rows
section
variable {prog : Program} {w : World} {A : Around} {E : Value -> Shared -> Prop} {s : Shared}
theorem nextOf_tup {it a : Addr} {i : Nat} {items : Array Value} {x : Value} {Q : Value -> Shared -> Prop} (j : s.heap.IsTupleIter it a i) (ht : s.heap.IsTuple a items) (hx : items[i]? = some x)
  (q : ∀ h', h'.IsTupleIter it a (i + 1) -> Heap.SameBut it s.heap h' -> Q x { s with heap := h' }) : wpAny (model prog w) A (Builtin.SmallTypes.nextOf (.ref it)) Q E s := by
 have j0 := j
 obtain ⟨o, e, c, d⟩ := j
 obtain ⟨oa, ea, _, n, da⟩ := ht
 unfold Builtin.SmallTypes.nextOf
 refine wpAny_bind (wpAny_callSpecial?_slot (name := Str.ofString "__next__") j0.typeIs F.slot_tuple_iterator_next (wpAny_call_entry F.slot_tuple_iterator_next j0.typeIs F.entry_tuple_iterator_next ?_ (F.args_tuple_iterator_next_1 _)))
 refine (show wpAny _ _ (field (.ref it) 0 >>= _) _ _ s from wpAny_bind (wpAny_field e d (x := .ref a) rfl ?_))
 refine (show wpAny _ _ (if (Value.ref a == Value.none) = true then _ else _) _ _ s from ?_)
 rw [if_neg (by exact Bool.false_ne_true)]
 refine (show wpAny _ _ (field (.ref it) 1 >>= _) _ _ s from wpAny_bind (wpAny_field e d (x := .int i 0) rfl ?_))
 refine (show wpAny _ _ (seqItems? (.ref a) >>= _) _ _ s from wpAny_bind (wpAny_seqItems ea da ?_))
 simp only [Int.toNat_natCast, hx]
 exact wpAny_bind (wpAny_setField e d (by simp) (wpAny_pure ⟨x, rfl, wpAny_pure (q _ ⟨_, Heap.get?_update_self _ e (Obj.isFreed_of_fields (Obj.data_mapFields d _)), (Obj.cls_mapFields ..).trans c, by rw [Obj.data_mapFields d]; simp [rawInt]⟩ (Heap.SameBut.update ..))⟩))
theorem nextOf_tup_end {it a : Addr} {i : Nat} {items : Array Value} {Q : Value -> Shared -> Prop} (hh : A.handled = none) (j : s.heap.IsTupleIter it a i) (ht : s.heap.IsTuple a items) (hx : items[i]? = none)
  (q : ∀ h' e, Heap.ExtBut it s.heap h' -> (∃ o, h'.get? e = some o /\ o.cls = .type "StopIteration") -> E (.ref e) { s with heap := h' }) : wpAny (model prog w) A (Builtin.SmallTypes.nextOf (.ref it)) Q E s := by
 have j0 := j
 obtain ⟨o, e, c, d⟩ := j
 obtain ⟨oa, ea, _, n, da⟩ := ht
 unfold Builtin.SmallTypes.nextOf
 refine wpAny_bind (wpAny_callSpecial?_slot (name := Str.ofString "__next__") j0.typeIs F.slot_tuple_iterator_next (wpAny_call_entry F.slot_tuple_iterator_next j0.typeIs F.entry_tuple_iterator_next ?_ (F.args_tuple_iterator_next_1 _)))
 refine (show wpAny _ _ (field (.ref it) 0 >>= _) _ _ s from wpAny_bind (wpAny_field e d (x := .ref a) rfl ?_))
 refine (show wpAny _ _ (if (Value.ref a == Value.none) = true then _ else _) _ _ s from ?_)
 rw [if_neg (by exact Bool.false_ne_true)]
 refine (show wpAny _ _ (field (.ref it) 1 >>= _) _ _ s from wpAny_bind (wpAny_field e d (x := .int i 0) rfl ?_))
 refine (show wpAny _ _ (seqItems? (.ref a) >>= _) _ _ s from wpAny_bind (wpAny_seqItems ea da ?_))
 simp only [Int.toNat_natCast, hx]
 refine wpAny_bind (wpAny_rule (wpAny_bind (wpAny_setField e d (by simp) (show wpAny _ _ (newExc (.type "StopIteration") [] >>= _) _ _ _ from wpAny_bind ?_))))
 simp only [newExc, newTuple]
 refine wpAny_bind (wpAny_newObj_type (wpAny_bind (m := firstArgMember _ _) (wpAny_of_eq (a := Value.none) (by first | rfl | (simp only [firstArgMember]; rfl)) (wpAny_newObj_type ?_ (by size_fits)))) (by size_fits))
 simp only [raiseNew]
 refine wpAny_bind (wpAny_handled ?_)
 first | rw [show A.in1.handled = none from hh] | rw [hh]
 exact wpAny_bind (wpAny_pure (wpAny_throw (q _ _ (((Heap.SameBut.update ..).extBut.push _).push _) ⟨_, Heap.get?_push_size _ rfl, rfl⟩)))
theorem zipT_item {z TI TO i1 i2 a1 a2 : Addr} {k : Nat} {xs ys : Array Value} {x y a b : Value} {Q : Value -> Shared -> Prop} (D : ZipApart z TI TO i1 i2 a1 a2)
  (hz : IsZip s.heap z TI TO .none) (hI : IsPair s.heap TI (.ref i1) (.ref i2)) (hO : IsPair s.heap TO a b)
  (j1 : s.heap.IsTupleIter i1 a1 k) (j2 : s.heap.IsTupleIter i2 a2 k) (t1 : s.heap.IsTuple a1 xs) (t2 : s.heap.IsTuple a2 ys) (hx : xs[k]? = some x) (hy : ys[k]? = some y)
  (q : ∀ h', IsZip h' z TI TO (rawInt s.heap.objs.size) -> IsPair h' TO x y -> h'.IsTupleIter i1 a1 (k + 1) -> h'.IsTupleIter i2 a2 (k + 1) -> IsPair h' s.heap.objs.size x y -> h'.objs.size = s.heap.objs.size + 1 ->
   (∀ c o, c ≠ z -> c ≠ TO -> c ≠ i1 -> c ≠ i2 -> s.heap.get? c = some o -> h'.get? c = some o) -> Q (.ref s.heap.objs.size) { s with heap := h' }) :
  wpAny (model prog w) A (Builtin.«zip.__next__» ⟨[.ref z], []⟩) (fun fin s' => ∃ v, fin = .done (.ret v) /\ Q v s') E s := by
 refine (show wpAny _ _ (field (.ref z) 2 >>= _) _ _ _ from wpAny_bind (wpAny_field hz rfl (x := .bool false) rfl (show wpAny _ _ (field (.ref z) 3 >>= _) _ _ _ from wpAny_bind (wpAny_field hz rfl (x := .ref TI) rfl (wpAny_bind (wpAny_seqItems hI rfl ?_))))))
 refine (show wpAny _ _ (Builtin.SmallTypes.ownedTupleIsFree (.ref z) >>= _) _ _ _ from wpAny_bind ?_)
 unfold Builtin.SmallTypes.ownedTupleIsFree
 refine wpAny_bind (wpAny_field hz rfl (x := .none) rfl (wpAny_pure ?_))
 simp only [if_true]
 refine wpAny_bind (wpAny_rule (wpAny_bind (wpAny_field hz rfl (x := .ref TO) rfl (wpAny_bind (wpAny_setField_rec hz (by simp) fun h1 z1 s1 => ?_)))))
 have y1 : IsZip h1 z TI TO .ellipsis := z1
 refine wpAny_bind ?_
 simp only [List.zipIdx_cons, List.zipIdx_nil, List.forIn_cons, List.forIn_nil]
 refine wpAny_bind (wpAny_bind (wpAny_onRaise (show wpAny _ _ (Builtin.SmallTypes.nextOf (.ref i1) >>= _) _ _ _ from wpAny_bind (nextOf_tup (j1.at fun o e => s1.extBut _ _ D.i1z e) (t1.at fun o e => s1.extBut _ _ D.l1z e) hx fun h2 n1 s2 => wpAny_pure ?_))))
 have o2 : IsPair h2 TO a b := s2.extBut _ _ D.TOi1 (s1.extBut _ _ D.TOz hO)
 refine wpAny_bind (wpAny_seqItems o2 rfl (wpAny_bind (wpAny_updateSeq_pair o2 fun h3 p3 s3 => ?_)))
 have o3 : IsPair h3 TO x b := p3
 refine wpAny_bind (wpAny_letGo (wpAny_pure ?_))
 refine wpAny_bind (wpAny_bind (wpAny_onRaise (show wpAny _ _ (Builtin.SmallTypes.nextOf (.ref i2) >>= _) _ _ _ from wpAny_bind (nextOf_tup (j2.at fun o e => s3.extBut _ _ D.TOi2.symm (s2.extBut _ _ D.i12.symm (s1.extBut _ _ D.i2z e)))
  (t2.at fun o e => s3.extBut _ _ D.l2TO (s2.extBut _ _ D.l2i1 (s1.extBut _ _ D.l2z e))) hy fun h4 n2 s4 => wpAny_pure ?_))))
 have o4 : IsPair h4 TO x b := s4.extBut _ _ D.TOi2 o3
 refine wpAny_bind (wpAny_seqItems o4 rfl (wpAny_bind (wpAny_updateSeq_pair o4 fun h5 p5 s5 => ?_)))
 have o5 : IsPair h5 TO x y := p5
 refine wpAny_bind (wpAny_letGo (wpAny_pure (wpAny_pure (wpAny_bind (wpAny_seqItems o5 rfl (wpAny_bind (wpAny_newTuple ?_)))))))
 have zs : h5.objs.size = s.heap.objs.size := by rw [s5.1, s4.1, s3.1, s2.1, s1.1]
 have y5 : IsZip h5 z TI TO .ellipsis := s5.extBut _ _ D.TOz.symm (s4.extBut _ _ D.i2z.symm (s3.extBut _ _ D.TOz.symm (s2.extBut _ _ D.i1z.symm y1)))
 have k5 : ∀ c o, c ≠ z -> c ≠ TO -> c ≠ i1 -> c ≠ i2 -> s.heap.get? c = some o -> h5.get? c = some o := fun c o c1 c2 c3 c4 e => s5.extBut _ _ c2 (s4.extBut _ _ c4 (s3.extBut _ _ c2 (s2.extBut _ _ c3 (s1.extBut _ _ c1 e))))
 have m1 : h5.IsTupleIter i1 a1 (k + 1) := n1.at fun o e => s5.extBut _ _ D.TOi1.symm (s4.extBut _ _ D.i12 (s3.extBut _ _ D.TOi1.symm e))
 have m2 : h5.IsTupleIter i2 a2 (k + 1) := n2.at fun o e => s5.extBut _ _ D.TOi2.symm e
 have lz : z < h5.objs.size := Heap.lt_size y5
 refine (show wpAny _ _ (Builtin.SmallTypes.ownedTupleHandOut (.ref z) (.ref h5.objs.size) >>= _) _ _ _ from wpAny_bind ?_)
 unfold Builtin.SmallTypes.ownedTupleHandOut
 have y6 : IsZip (h5.push { cls := .type "tuple", data := .seq #[x, y] }) z TI TO .ellipsis := Heap.get?_push_of_some _ y5
 refine wpAny_bind (wpAny_setField_rec y6 (by simp) fun h7 p7 s7 => ?_)
 have y7 : IsZip h7 z TI TO (rawInt h5.objs.size) := p7
 refine wpAny_setField_rec y7 (by simp) fun h8 p8 s8 => ?_
 have y8 : IsZip h8 z TI TO (rawInt h5.objs.size) := p8
 have up : ∀ c o, c ≠ z -> h5.get? c = some o -> h8.get? c = some o := fun c o c1 e => s8.extBut _ _ c1 (s7.extBut _ _ c1 (Heap.get?_push_of_some _ e))
 have t8 : IsPair h8 h5.objs.size x y := s8.extBut _ _ (Nat.ne_of_gt lz) (s7.extBut _ _ (Nat.ne_of_gt lz) (Heap.get?_push_size _ rfl))
 have z8 : h8.objs.size = h5.objs.size + 1 := by rw [s8.1, s7.1, Heap.size_push]
 rw [zs] at y8 t8 z8
 refine wpAny_pure ⟨_, rfl, ?_⟩
 show Q (.ref h5.objs.size) _
 rw [zs]
 exact q h8 y8 (up _ _ D.TOz o5) (m1.at fun o e => up _ o D.i1z e) (m2.at fun o e => up _ o D.i2z e) t8 z8 fun c o c1 c2 c3 c4 e => up c o c1 (k5 c o c1 c2 c3 c4 e)
theorem zipT_end {z TI TO i1 i2 a1 a2 : Addr} {k : Nat} {xs : Array Value} {a b : Value} {Q : Fin -> Shared -> Prop} (hh : A.handled = none) (D : ZipApart z TI TO i1 i2 a1 a2)
  (hz : IsZip s.heap z TI TO .none) (hI : IsPair s.heap TI (.ref i1) (.ref i2)) (hO : IsPair s.heap TO a b)
  (j1 : s.heap.IsTupleIter i1 a1 k) (t1 : s.heap.IsTuple a1 xs) (hx : xs[k]? = none)
  (q : ∀ h' e, (∀ c o, c ≠ z -> c ≠ TO -> c ≠ i1 -> c ≠ i2 -> s.heap.get? c = some o -> h'.get? c = some o) -> (∃ o, h'.get? e = some o /\ o.cls = .type "StopIteration") -> E (.ref e) { s with heap := h' }) :
  wpAny (model prog w) A (Builtin.«zip.__next__» ⟨[.ref z], []⟩) Q E s := by
 refine (show wpAny _ _ (field (.ref z) 2 >>= _) _ _ _ from wpAny_bind (wpAny_field hz rfl (x := .bool false) rfl (show wpAny _ _ (field (.ref z) 3 >>= _) _ _ _ from wpAny_bind (wpAny_field hz rfl (x := .ref TI) rfl (wpAny_bind (wpAny_seqItems hI rfl ?_))))))
 refine (show wpAny _ _ (Builtin.SmallTypes.ownedTupleIsFree (.ref z) >>= _) _ _ _ from wpAny_bind ?_)
 unfold Builtin.SmallTypes.ownedTupleIsFree
 refine wpAny_bind (wpAny_field hz rfl (x := .none) rfl (wpAny_pure ?_))
 simp only [if_true]
 refine wpAny_bind (wpAny_rule (wpAny_bind (wpAny_field hz rfl (x := .ref TO) rfl (wpAny_bind (wpAny_setField_rec hz (by simp) fun h1 z1 s1 => ?_)))))
 have y1 : IsZip h1 z TI TO .ellipsis := z1
 refine wpAny_bind ?_
 simp only [List.zipIdx_cons, List.zipIdx_nil, List.forIn_cons, List.forIn_nil]
 refine wpAny_bind (wpAny_bind (wpAny_onRaise (show wpAny _ _ (Builtin.SmallTypes.nextOf (.ref i1) >>= _) _ _ _ from wpAny_bind (nextOf_tup_end hh (j1.at fun o e => s1.extBut _ _ D.i1z e) (t1.at fun o e => s1.extBut _ _ D.l1z e) hx fun h2 x s2 hx2 => ?_))))
 obtain ⟨ox, ex, cx⟩ := hx2
 have y2 : IsZip h2 z TI TO .ellipsis := s2 _ _ D.i1z.symm y1
 have nz : x ≠ z := fun u => by subst u; rw [y2] at ex; cases ex; simp at cx
 exact wpAny_setField_rec y2 (by simp) fun h3 _ s3 => q h3 x (fun c o c1 _ c3 _ e => s3.extBut _ _ c1 (s2 _ _ c3 (s1.extBut _ _ c1 e))) ⟨ox, s3.extBut _ _ nz ex, cx⟩
end
abbrev zT1 (h : Heap) (a1 : Addr) : Heap := h.push { cls := .type "tuple_iterator", data := .fields #[.ref a1, .int 0 0] }
abbrev zT2 (h : Heap) (a1 a2 : Addr) : Heap := (zT1 h a1).push { cls := .type "tuple_iterator", data := .fields #[.ref a2, .int 0 0] }
abbrev zT3 (h : Heap) (a1 a2 : Addr) : Heap := (zT2 h a1 a2).push { cls := .type "tuple", data := .seq #[.ref h.objs.size, .ref (zT1 h a1).objs.size] }
abbrev zT4 (h : Heap) (a1 a2 : Addr) : Heap := (zT3 h a1 a2).push { cls := .type "tuple", data := .seq #[.none, .none] }
abbrev zT5 (h : Heap) (a1 a2 : Addr) : Heap := (zT4 h a1 a2).push { cls := .type "zip", data := .fields #[.none, .bool false, .bool false, .ref (zT2 h a1 a2).objs.size, .ref (zT3 h a1 a2).objs.size] }
theorem zipT_new (a1 a2 : Addr) (xs ys : Array Value) : Meets (Builtin.«zip.__new__» ⟨[.type "zip", .ref a1, .ref a2], []⟩) (fun _ R s => s.heap.IsTuple a1 xs /\ s.heap.IsTuple a2 ys /\
   R (.ok (.ret (.ref (zT4 s.heap a1 a2).objs.size))) { s with heap := zT5 s.heap a1 a2 }) :=
 .of_wp fun prog w A R s h => by
  obtain ⟨hp, g, d, tk, os⟩ := s
  obtain ⟨t1, t2, h⟩ := h
  have hsub := sub_zip
  have u1 : Heap.IsTuple (Shared.heap ⟨hp, g, d, tk, os⟩) a1 xs := t1
  have u2 : Heap.IsTuple (Shared.heap ⟨hp.push { cls := .type "tuple_iterator", data := .fields #[.ref a1, .int 0 0] }, g, d, tk, os⟩) a2 ys := Heap.IsTuple.at t2 fun o e => Heap.get?_push_of_some _ e
  wp_walk using wpAny_pyIter_tuple u1, wpAny_pyIter_tuple u2
  exact ⟨_, rfl, h⟩
section
variable {prog : Program} {w : World} {A : Around} {E : Value -> Shared -> Prop} {s : Shared}
theorem call_zipT {a1 a2 : Addr} {xs ys : Array Value} {Q : Value -> Shared -> Prop} (t1 : s.heap.IsTuple a1 xs) (t2 : s.heap.IsTuple a2 ys)
  (q : ∀ h' n, n = s.heap.objs.size -> IsZip h' (n + 4) (n + 2) (n + 3) .none -> IsPair h' (n + 2) (.ref n) (.ref (n + 1)) -> IsPair h' (n + 3) .none .none -> h'.IsTupleIter n a1 0 -> h'.IsTupleIter (n + 1) a2 0 -> h'.objs.size = n + 5 ->
   (∀ c o, s.heap.get? c = some o -> h'.get? c = some o) -> Q (.ref (n + 4)) { s with heap := h' }) : wpAny (model prog w) A (call (.type "zip") [.ref a1, .ref a2]) Q E s := by
 refine callType_new F.called_zip (by decide) (F.typeCall_zip_2 _ _) (F.newCall_zip_2 _ _) (fun obj => F.args_object_init_3 obj _ _) F.entry_zip_new (zipT_new a1 a2 xs ys) ⟨t1, t2, ?_⟩
 have z1 : (zT1 s.heap a1).objs.size = s.heap.objs.size + 1 := Heap.size_push ..
 have z2 : (zT2 s.heap a1 a2).objs.size = s.heap.objs.size + 2 := by rw [Heap.size_push, z1]
 have z3 : (zT3 s.heap a1 a2).objs.size = s.heap.objs.size + 3 := by rw [Heap.size_push, z2]
 have z4 : (zT4 s.heap a1 a2).objs.size = s.heap.objs.size + 4 := by rw [Heap.size_push, z3]
 have z5 : (zT5 s.heap a1 a2).objs.size = s.heap.objs.size + 5 := by rw [Heap.size_push, z4]
 have g5 : (zT5 s.heap a1 a2).get? (zT4 s.heap a1 a2).objs.size = some _ := Heap.get?_push_size _ rfl
 have g4 : (zT5 s.heap a1 a2).get? (zT3 s.heap a1 a2).objs.size = some _ := Heap.get?_push_of_some _ (Heap.get?_push_size _ rfl)
 have g3 : (zT5 s.heap a1 a2).get? (zT2 s.heap a1 a2).objs.size = some _ := Heap.get?_push_of_some _ (Heap.get?_push_of_some _ (Heap.get?_push_size _ rfl))
 have g2 : (zT5 s.heap a1 a2).get? (zT1 s.heap a1).objs.size = some _ := Heap.get?_push_of_some _ (Heap.get?_push_of_some _ (Heap.get?_push_of_some _ (Heap.get?_push_size _ rfl)))
 have g1 : (zT5 s.heap a1 a2).get? s.heap.objs.size = some _ := Heap.get?_push_of_some _ (Heap.get?_push_of_some _ (Heap.get?_push_of_some _ (Heap.get?_push_of_some _ (Heap.get?_push_size _ rfl))))
 refine (show _ /\ _ from ?_)
 rw [z2, z3, z4] at g5
 rw [z1, z2] at g3
 rw [z3] at g4
 rw [z1] at g2
 rw [z4]
 exact ⟨⟨_, g5, rfl⟩, q _ _ rfl g5 g3 g4 ⟨_, g1, rfl, rfl⟩ ⟨_, g2, rfl, rfl⟩ z5 fun c o e => Heap.get?_push_of_some _ (Heap.get?_push_of_some _ (Heap.get?_push_of_some _ (Heap.get?_push_of_some _ (Heap.get?_push_of_some _ e))))⟩
end
end L2
namespace L2
open PySem PySem.Spec PyProof.Rows
def cloGo (env : Env) : List (Str × NameKind) -> List (Str × Addr) -> List (Str × Addr)
 | [], acc => acc
 | (n, k) :: r, acc => if k == .free then (match env.cells.lookup n with | some a => cloGo env r ((n, a) :: acc) | none => cloGo env r acc) else cloGo env r acc
theorem closure_ok {scope : Scope} {env : Env} (h : ∀ y ∈ scope.names, y.2 = .free -> ∃ c, env.cells.lookup y.1 = some c) : closureFor scope env = pure (cloGo env scope.names []) := by
 unfold closureFor
 have key : ∀ (l : List (Str × NameKind)) (acc : List (Str × Addr)), (∀ y ∈ l, y.2 = .free -> ∃ c, env.cells.lookup y.1 = some c) ->
   (forIn l acc fun (x : Str × NameKind) (cs : List (Str × Addr)) => (match x with | (name, kind) => if (kind == NameKind.free) = true then (do let a ← cellOf env name; pure (ForInStep.yield ((name, a) :: cs))) else pure (ForInStep.yield cs) : Sem (ForInStep (List (Str × Addr))))) = (pure (cloGo env l acc) : Sem _) := by
  intro l
  induction l with
  | nil => intro acc _; rfl
  | cons x r ih =>
   intro acc hl
   obtain ⟨n, k⟩ := x
   rw [List.forIn_cons]
   unfold cloGo
   by_cases hk : (k == NameKind.free) = true
   ·obtain ⟨c, hc⟩ := hl (n, k) List.mem_cons_self (by simpa using hk)
    have hc' : env.cells.lookup n = some c := hc
    have e : cellOf env n = pure c := by unfold cellOf; rw [hc']
    simp only [hk, if_true, e, hc']
    exact ih _ fun y hy => hl y (List.mem_cons_of_mem _ hy)
   ·simp only [hk]
    exact ih _ fun y hy => hl y (List.mem_cons_of_mem _ hy)
 have := key scope.names [] h
 exact (congrArg (fun (m : Sem (List (Str × Addr))) => m >>= fun z => pure z) this).trans rfl
theorem cloGo_sub (env : Env) : ∀ (l : List (Str × NameKind)) (acc : List (Str × Addr)) (y : Str) (c : Addr), (cloGo env l acc).lookup y = some c -> acc.lookup y = some c \/ env.cells.lookup y = some c
 | [], _, _, _, h => .inl h
 | (n, k) :: r, acc, y, c, h => by
  unfold cloGo at h
  split at h
  ·split at h
   ·rename_i a ha
    rcases cloGo_sub env r _ y c h with z | z
    ·rw [List.lookup_cons] at z
     split at z
     ·rename_i e
      cases z
      have e' : y = n := by simpa using e
      subst e'
      exact .inr ha
     ·exact .inl z
    ·exact .inr z
   ·exact cloGo_sub env r _ y c h
  ·exact cloGo_sub env r _ y c h
theorem cloGo_acc (env : Env) : ∀ (l : List (Str × NameKind)) (acc : List (Str × Addr)) (y : Str), (acc.lookup y).isSome = true -> ((cloGo env l acc).lookup y).isSome = true
 | [], _, _, h => h
 | (n, k) :: r, acc, y, h => by
  unfold cloGo
  split
  ·split
   ·refine cloGo_acc env r _ y ?_
    rw [List.lookup_cons]
    split
    ·rfl
    ·exact h
   ·exact cloGo_acc env r _ y h
  ·exact cloGo_acc env r _ y h
theorem cloGo_has (env : Env) : ∀ (l : List (Str × NameKind)) (acc : List (Str × Addr)) (y : Str), (y, NameKind.free) ∈ l -> (env.cells.lookup y).isSome = true -> ((cloGo env l acc).lookup y).isSome = true
 | [], _, _, h, _ => nomatch h
 | (n, k) :: r, acc, y, h, hc => by
  unfold cloGo
  rcases List.mem_cons.mp h with e | h
  ·obtain ⟨e1, e2⟩ := Prod.mk.inj e
   subst e1
   subst e2
   rw [if_pos (by decide)]
   split
   ·refine cloGo_acc env r _ y ?_
    rw [List.lookup_cons]
    simp
   ·rename_i e
    rw [e] at hc
    cases hc
  ·split
   ·split
    ·exact cloGo_has env r _ y h hc
    ·exact cloGo_has env r _ y h hc
   ·exact cloGo_has env r _ y h hc
end L2
namespace L2
open PySem PySem.Spec PyProof.Rows
def hideN (x : Str) (N : List Str) : List Str := N.map fun y => if y = x then "" else y
def cxComp (X : Cx) (x : Str) (scope : Scope) (C : Addr) (s₀ : Shared) (H₀ : Hp) (fp : List Addr) : Cx where
 prog := X.prog
 w := X.w
 K := X.K
 mg := X.mg
 base := X.base
 A := X.A
 N := x :: hideN x X.N
 s₀ := s₀
 H₀ := H₀
 env := compEnvC scope (cloGo X.env scope.names []) C X.env
 outer := X.stack
 stack := X.stack
 ex := fp
 fn := fun _ => false
 calm := X.calm
 pn := []
 xe := fun _ _ => False
theorem relabel_lookup (env : Env) (y : Str) : ∀ names : List (Str × NameKind),
  (names.map fun (n, k) => if (k == NameKind.free && env.scope.kind == .function && env.kindOf n == some .cell) then (n, NameKind.cell) else (n, k)).lookup y =
   (names.lookup y).map fun k => if (k == NameKind.free && env.scope.kind == .function && env.kindOf y == some .cell) then NameKind.cell else k
 | [] => rfl
 | (n, k) :: r => by
  have ih := relabel_lookup env y r
  rw [List.map_cons]
  show List.lookup y ((if (k == NameKind.free && env.scope.kind == .function && env.kindOf n == some .cell) = true then (n, NameKind.cell) else (n, k)) :: _) = _
  have e0 : (if (k == NameKind.free && env.scope.kind == .function && env.kindOf n == some .cell) = true then (n, NameKind.cell) else (n, k)) = (n, if (k == NameKind.free && env.scope.kind == .function && env.kindOf n == some .cell) = true then NameKind.cell else k) := by split <;> rfl
  rw [e0, List.lookup_cons, List.lookup_cons]
  cases hx : y == n with
  | true =>
   have e : y = n := by simpa using hx
   subst e
   rfl
  | false => exact ih
structure CompScope (X : Cx) (x : Str) (scope : Scope) : Prop where
 kind : scope.kind = .function
 nocell : ∀ y ∈ scope.names, y.2 ≠ .cell
 names : ∀ y ∈ scope.names, y.2 = .local -> scope.names.lookup y.1 = some .local
 loc : scope.names.lookup x = some .local
 free : ∀ y ∈ scope.names, y.2 = .free -> X.env.kindOf y.1 = some .cell \/ X.env.kindOf y.1 = some .free
 nd : (x :: hideN x X.N).Nodup
 only : ∀ y ∈ hideN x X.N, scope.names.lookup y ≠ some .local
 noE : scope.names.lookup ("" : Str) = none
section
variable {X : Cx} {pins : List (Addr × Obj)} {σ : St} {H : Hp} {s : Shared} {x : Str} {scope : Scope} {fp : List Addr} {C : Addr}
theorem comp_start {h' : Heap} {tk : Nat} {m : Str -> Option Value} (I : Inv X pins σ H s) (S : CompScope X x scope) (hf : ∀ b ∈ fp, FpOk X pins H b) (hlt : ∀ b ∈ fp, b < s.heap.objs.size) (hC : s.heap.objs.size <= C) (hn : h'.Ns C m)
  (hk : ∀ b o, s.heap.get? b = some o -> h'.get? b = some o) : Inv (cxComp X x scope C s H fp) [] (none :: σ) H { s with heap := h', toks := tk } := by
 have cl : ∀ y c, (cloGo X.env scope.names []).lookup y = some c -> X.env.cells.lookup y = some c := fun y c e => by
  rcases cloGo_sub X.env scope.names [] y c e with z | z
  ·cases z
  ·exact z
 have cellK : ∀ c v, s.heap.IsCell c v -> h'.IsCell c v := fun c v ⟨o, ho, hd⟩ => ⟨o, hk c o ho, hd⟩
 have look : ∀ y, (cxComp X x scope C s H fp).env.scope.names.lookup y = (scope.names.lookup y).map fun k => if (k == NameKind.free && X.env.scope.kind == .function && X.env.kindOf y == some .cell) then NameKind.cell else k := fun y => relabel_lookup X.env y scope.names
 refine ⟨⟨I.ok.mod, S.kind, I.ok.glob, I.ok.blt, hC, fun y z c e1 e2 => I.ok.inj y z c (cl y c e1) (cl z c e2), fun y hy => ?_, fun y c e _ => (by cases e), fun h => I.ok.hd h, I.ok.frames, .inl rfl, fun b hb => ?_, I.bs, Nat.le_trans I.ok.bsz I.sz, fun b o e hb => ?_, fun b hb hb' => ?_, I.stack, I.stkFree⟩,
  rfl, I.bare, Un.kept hk, ⟨m, hn, fun i y v h1 h2 h3 => ?_⟩, fun y c e => ?_, I.hok.fresh hC, fun y c e => I.freeC y c (cl y c e), fun p hp => absurd (show p ∈ ([] : List (Addr × Obj)) from hp) (by simp), I.hok.kept hk, ?_⟩
 ·-- every cell of the block is there
  have hy' : (cxComp X x scope C s H fp).env.scope.names.lookup y = some .cell \/ (cxComp X x scope C s H fp).env.scope.names.lookup y = some .free := hy
  rw [look y] at hy'
  cases e : scope.names.lookup y with
  | none => rw [e] at hy'; rcases hy' with z | z <;> cases z
  | some k =>
   have hm := PySem.mem_of_lookup e
   have hfree : k = .free := by
    rw [e] at hy'
    cases k with
    | free => rfl
    | cell => exact absurd rfl (S.nocell _ hm)
    | _ => rcases hy' with z | z <;> simp at z
   subst hfree
   obtain ⟨c, hc⟩ := I.ok.has y (S.free _ hm rfl)
   exact Option.isSome_iff_exists.mp (cloGo_has X.env scope.names [] y hm (by rw [hc]; rfl))
 ·obtain ⟨f0, f1, f2, f3, f4, f5⟩ := hf b hb
  exact ⟨Nat.ne_of_lt (Nat.lt_of_lt_of_le (hlt b hb) hC), fun y c e => f4 y c (cl y c e)⟩
 ·obtain ⟨f0, f1, f2, f3, f4, f5⟩ := hf b hb
  rcases f3 with z | z
  ·exact I.ok.noex b o e z
  ·exact absurd (Nat.lt_of_lt_of_le (Heap.lt_size e) (Nat.le_trans I.ok.bsz z)) (Nat.lt_irrefl _)
 ·obtain ⟨f0, f1, f2, f3, f4, f5⟩ := hf b hb
  rcases List.mem_cons.mp (I.stkSub b hb') with e | e
  ·exact f1 e
  ·exact f2 e
 ·cases i with
  | zero =>
   have h2' : (some none : Option (Option V)) = some (some v) := h2
   cases h2'
  | succ i =>
   have h1' : (hideN x X.N)[i]? = some y := h1
   have h2' : σ[i]? = some (some v) := h2
   have hmem : y ∈ hideN x X.N := List.mem_of_getElem? h1'
   unfold hideN at h1'
   rw [List.getElem?_map] at h1'
   cases e0 : X.N[i]? with
   | none => rw [e0] at h1'; cases h1'
   | some y0 =>
    rw [e0] at h1'
    have h1'' : (if y0 = x then ("" : Str) else y0) = y := Option.some.inj h1'
    have h3' : (cxComp X x scope C s H fp).env.scope.names.lookup y = some .local \/ (cxComp X x scope C s H fp).env.scope.names.lookup y = some .cell \/ (cxComp X x scope C s H fp).env.scope.names.lookup y = some .free := h3
    rw [look y] at h3'
    have hy0 : y0 = y := by
     by_cases q : y0 = x
     ·rw [if_pos q] at h1''
      rw [← h1'', S.noE] at h3'
      rcases h3' with z | z | z <;> cases z
     ·rw [if_neg q] at h1''
      exact h1''
    subst hy0
    cases e : scope.names.lookup y0 with
    | none => rw [e] at h3'; rcases h3' with z | z | z <;> cases z
    | some k =>
     have hm := PySem.mem_of_lookup e
     have hfree : k = .free := by
      rw [e] at h3'
      cases k with
      | free => rfl
      | cell => exact absurd rfl (S.nocell _ hm)
      | «local» => exact absurd e (S.only y0 hmem)
      | _ => rcases h3' with z | z | z <;> simp at z
     subst hfree
     have kd := S.free _ hm rfl
     obtain ⟨m0, hn0, hl0⟩ := I.loc
     obtain ⟨u, r, l⟩ := hl0 i y0 v e0 h2' (by rcases kd with z | z; exact .inr (.inl z); exact .inr (.inr z))
     refine ⟨u, r, .inr ⟨?_, ?_⟩⟩
     ·have hk' : (cxComp X x scope C s H fp).env.scope.names.lookup y0 = some (if (NameKind.free == NameKind.free && X.env.scope.kind == .function && X.env.kindOf y0 == some .cell) then NameKind.cell else NameKind.free) := by
       rw [look y0, e]; rfl
      by_cases c : (NameKind.free == NameKind.free && X.env.scope.kind == .function && X.env.kindOf y0 == some .cell) = true
      ·rw [if_pos c] at hk'; exact .inl hk'
      ·rw [if_neg c] at hk'; exact .inr hk'
     ·rcases l with ⟨lk, _⟩ | ⟨_, c, hc, hcell⟩
      ·exfalso
       rcases kd with z | z <;> (rw [show X.env.kindOf y0 = some NameKind.local from lk] at z; cases z)
      ·obtain ⟨c', hc'⟩ := Option.isSome_iff_exists.mp (cloGo_has X.env scope.names [] y0 hm (by rw [hc]; rfl))
       have := cl y0 c' hc'
       rw [hc] at this
       cases this
       exact ⟨c, hc', cellK c _ hcell⟩
 ·obtain ⟨v, z⟩ := I.cell y c (cl y c e)
  exact ⟨v, cellK c v z⟩
 ·show (none :: σ).length = (x :: hideN x X.N).length
  simp [hideN, I.len]
end
def PIfs (X : Cx) (ifs : List Expr) (t : TT) : Prop :=
 ∀ (pins : List (Addr × Obj)) (s : Shared) (σ : St) (H : Hp) (Q : Bool -> Hp -> Prop), Inv X pins σ H s -> t σ H Q ->
  wpAny (model X.prog X.w) X.A (forIn ifs true fun c r => if r = true then do let ok ← isTrue c X.env (eval c X.env); pure (ForInStep.yield ok) else pure (ForInStep.yield r)) (TP X pins σ Q) X.xe s
def tYes : TT := fun _ H Q => Q true H
theorem pf_nil {X : Cx} : PIfs X [] tYes := fun _ _ _ H _ I h => wpAny_tests_nil ⟨H, I, h⟩
theorem pf_one {X : Cx} {c : Expr} {t : TT} (h : PT X c t) : PIfs X [c] t := fun pins s σ H Q I q => wpAny_tests_one (h pins s σ H Q I q)
def CompOk (J : It) (σ : St) (H1 : Hp) (Q : VK) (tt : TT) (te : TE) : Prop := ∀ D, H1 D = none -> ∃ W : Nat -> Nat -> List V -> Hp -> Prop, (∃ m, W 0 m [] (upd H1 D (.lst []))) /\ ∀ i m ys H2, W i m ys H2 ->
 (J.stop i H2 /\ Q (.ref D) H2) \/ (J.go i H2 /\ ∀ x H3, J.yld i H2 x H3 -> tt (some x :: σ) H3 fun b H4 =>
  if b = true then te (some x :: σ) H4 fun y H5 => H5 D = some (.lst ys) /\ ys.length < sizeLine /\ ∃ m', m' < m /\ W (i + 1) m' (ys ++ [y]) (upd H5 D (.lst (ys ++ [y])))
  else ∃ m', m' < m /\ W (i + 1) m' ys H4)
def tComp (wi : TI) (tt : TT) (te : TE) : TE := fun σ H Q => wi σ H fun J H1 => CompOk J σ H1 Q tt te
theorem thnF {α : Type} {t : Sem α} {Q Q' : α -> Shared -> Prop} {M : Model} {A : Around} {E : Value -> Shared -> Prop} {s : Shared} (h : wpAny M A t Q (fun _ _ => False) s) (hQ : ∀ a s, Q a s -> Q' a s) : wpAny M A t Q' E s := wpAny_mono h hQ fun _ _ x => x.elim
theorem Inv.sameBut {X : Cx} {pins : List (Addr × Obj)} {σ : St} {H : Hp} {s : Shared} {h' : Heap} {C : Addr} (I : Inv X pins σ H s) (f : FpOk X pins H C) (sb : Heap.SameBut C s.heap h') : Inv X pins σ H { s with heap := h' } :=
 I.turned (t' := s.toks) (fun b o hb e => (sb.2 b hb).trans e) f.1 f.2.1 f.2.2.2.1 f.2.2.2.2.1 f.2.2.2.2.2
section
variable {X : Cx} {x : Str} {scope : Scope}
theorem comp_block {px pos : Pos} {iter elt : Expr} {ifs : List Expr} {tt : TT} {te : TE} {pins : List (Addr × Obj)} {σ : St} {s2 : Shared} {H2 : Hp} {it : Addr} {fp : List Addr} {tn : Nat -> Heap -> Prop} {J : It} {E : Value -> Shared -> Prop}
  {RR : Value -> Addr -> Result -> Shared -> Prop} {Q : VK}
  (hc : X.calm = true) (S : CompScope X x scope) (ht : ∀ C s₀ H₀ fp, PIfs (cxComp X x scope C s₀ H₀ fp) ifs tt) (he : ∀ C s₀ H₀ fp, PE (cxComp X x scope C s₀ H₀ fp) elt te)
  (I2 : Inv X pins σ H2 s2) (T : Turn X.prog X.w X.K (.Name x px) J fp it tn) (st2 : tn 0 s2.heap) (f2 : ∀ b ∈ fp, FpOk X pins H2 b)
  (q : ∀ D, H2 D = none -> ∃ W : Nat -> Nat -> List V -> Hp -> Prop, (∃ m, W 0 m [] (upd H2 D (.lst []))) /\ ∀ i m ys H2, W i m ys H2 ->
   (J.stop i H2 /\ Q (.ref D) H2) \/ (J.go i H2 /\ ∀ x H3, J.yld i H2 x H3 -> tt (some x :: σ) H3 fun b H4 =>
    if b = true then te (some x :: σ) H4 fun y H5 => H5 D = some (.lst ys) /\ ys.length < sizeLine /\ ∃ m', m' < m /\ W (i + 1) m' (ys ++ [y]) (upd H5 D (.lst (ys ++ [y])))
    else ∃ m', m' < m /\ W (i + 1) m' ys H4))
  (hRR : ∀ D C s' H' m, s'.heap.Ns C m -> FpOk X pins H' C -> Inv X pins σ H' s' -> Q (.ref D) H' -> RR (.ref D) C (.ok .next) s') :
  wpAny (model X.prog X.w) X.A (newList []) (fun acc s₃ => wpAny (model X.prog X.w) X.A (newFunctionEnv scope X.env.globals (cloGo X.env scope.names []) [] X.env.qual none .none (some X.env)) (fun cenv s₄ =>
   codeAny (model X.prog X.w) X.A (.compStart (.ListComp elt [⟨.Name x px, iter, ifs, 0⟩] scope pos) 0 (.ref it) acc { cenv with scope := relabel scope X.env }) (RR acc cenv.locals) s₄) E s₃) E s2 := by
 refine wpAny_newObj_type (wpAny_newFunctionEnv S.nocell (by intro y hy; simp at hy) (fun h₁ hns₁ hsb₁ => ?_) S.kind)
 have I3 := I2.lnew (its := []) (ys := []) (t' := s2.toks) .nil (Nat.zero_le _)
 have hD0 : H2 s2.heap.objs.size = none := I2.fresh
 obtain ⟨W, ⟨m0, w0⟩, turn⟩ := q _ hD0
 generalize hs3 : ({ s2 with heap := s2.heap.push { cls := .type "list", data := .seq ([] : List Value).toArray }, toks := s2.toks } : Shared) = s3 at I3
 have e3 : s3.heap = s2.heap.push { cls := .type "list", data := .seq ([] : List Value).toArray } := by rw [← hs3]
 have hlt : ∀ b ∈ fp, b < s2.heap.objs.size := fun b hb => let ⟨_, e, _⟩ := T.obj _ _ st2 b hb; Heap.lt_size e
 have hlt3 : ∀ b ∈ fp, b < s3.heap.objs.size := fun b hb => by rw [e3, Heap.size_push]; exact Nat.lt_succ_of_lt (hlt b hb)
 have f3 : ∀ b ∈ fp, FpOk X pins (upd H2 s2.heap.objs.size (.lst [])) b := fun b hb => ⟨by rw [upd_ne (Nat.ne_of_lt (hlt b hb))]; exact (f2 b hb).1, (f2 b hb).2⟩
 have hk1 : ∀ b o, s3.heap.get? b = some o -> h₁.get? b = some o := fun b o e => by
  have hne : b ≠ s3.heap.objs.size := Nat.ne_of_lt (Heap.lt_size e)
  rw [e3] at e hne
  exact hsb₁.extBut b o hne (Heap.get?_push_of_some _ e)
 have hC : s3.heap.objs.size = (s2.heap.push { cls := .type "list", data := .seq ([] : List Value).toArray }).objs.size := by rw [e3]
 have hns : h₁.Ns s3.heap.objs.size (fun x => ([] : List (Str × Value)).reverse.lookup x) := by rw [hC]; exact hns₁
 have st3 : tn 0 h₁ := T.keep _ _ _ st2 fun b hb o e => hk1 b o (by rw [e3]; exact Heap.get?_push_of_some _ e)
 have hDC : s2.heap.objs.size ≠ s3.heap.objs.size := by rw [e3, Heap.size_push]; exact Nat.ne_of_lt (Nat.lt_succ_self _)
 have start : ∀ tk, Inv (cxComp X x scope s3.heap.objs.size s3 (upd H2 s2.heap.objs.size (.lst [])) fp) [] (none :: σ) (upd H2 s2.heap.objs.size (.lst [])) { s3 with heap := h₁, toks := tk } := fun tk =>
  comp_start I3 S f3 hlt3 (Nat.le_refl _) hns hk1
 generalize hX : cxComp X x scope s3.heap.objs.size s3 (upd H2 s2.heap.objs.size (.lst [])) fp = X' at start
 have eA : X'.A = X.A := by rw [← hX]; rfl
 have eP : X'.prog = X.prog := by rw [← hX]; rfl
 have eW : X'.w = X.w := by rw [← hX]; rfl
 have eK : X'.K = X.K := by rw [← hX]; rfl
 have eC : X'.env.locals = s3.heap.objs.size := by rw [← hX]; rfl
 have loop : ∀ tk, codeAny (model X.prog X.w) X.A (.compLoop (.ListComp elt [⟨.Name x px, iter, ifs, 0⟩] scope pos) 0 (.ref it) (.ref s2.heap.objs.size) (compEnvC scope (cloGo X.env scope.names []) s3.heap.objs.size X.env))
   (RR (.ref s2.heap.objs.size) s3.heap.objs.size) { s3 with heap := h₁, toks := tk } := by
  intro tk
  subst hX
  refine codeAny_compLoop_tests (fun n s' => ∃ i ys v0 H', Inv (cxComp X x scope s3.heap.objs.size s3 (upd H2 s2.heap.objs.size (.lst [])) fp) [] (v0 :: σ) H' s' /\ tn i s'.heap /\ (∀ b ∈ fp, H' b = none) /\ W i n ys H') ?_ m0
   ⟨0, [], none, _, start tk, st3, fun b hb => (f3 b hb).1, w0⟩
  rintro n s4 ⟨i, ys, v0, H4, I4, st4, fr4, w4⟩
  have stat : ∀ {H' : Hp}, (∀ b ∈ fp, H' b = none) -> ∀ b ∈ fp, FpOk (cxComp X x scope s3.heap.objs.size s3 (upd H2 s2.heap.objs.size (.lst [])) fp) [] H' b := fun hn b hb => by
   refine ⟨hn b hb, (I4.ok.exf b hb).1, I4.ok.exfs b hb, .inl hb, (I4.ok.exf b hb).2, fun p hp => absurd (show p ∈ ([] : List (Addr × Obj)) from hp) (by simp)⟩
  rcases turn i n ys H4 w4 with ⟨stop, qn⟩ | ⟨go, step⟩
  ·refine thn (T.done (cxComp X x scope s3.heap.objs.size s3 (upd H2 s2.heap.objs.size (.lst [])) fp) rfl rfl rfl hc i [] s4 (v0 :: σ) H4 _ I4 (stat fr4) st4 stop) fun r s5 ⟨hr, I5⟩ => ?_
   subst hr
   obtain ⟨m, hn, _⟩ := I5.loc
   refine hRR _ _ s5 H4 m hn (I3.fpOk (Nat.le_refl _) I5.free) (I3.call' (s' := s5) (ch := fp) I5.os I5.base I5.hok I5.bare (fun b hb => ?_)) qn
   obtain ⟨_, g1, _, g3, g4, g5⟩ := f3 b hb
   exact ⟨g3, g1, g4, g5⟩
  ·refine thn (T.item (cxComp X x scope s3.heap.objs.size s3 (upd H2 s2.heap.objs.size (.lst [])) fp) rfl rfl rfl hc i [] s4 (v0 :: σ) H4 _ I4 (stat fr4) st4 go) fun r s5 ⟨u, hr, h5⟩ => ?_
   subst hr
   intro Γ p hΓ
   obtain ⟨xv, H6, I6, r6, y6, st6, fr6⟩ := h5 Γ p hΓ
   refine (?_ : wpAny _ _ _ _ _ _) Γ p hΓ
   have I6' := I6.pinned (stat fr6) (T.obj _ _ st6)
   have hloc : (cxComp X x scope s3.heap.objs.size s3 (upd H2 s2.heap.objs.size (.lst [])) fp).env.scope.names.lookup x = some .local := lookup_relabel_local S.loc
   have again : ∀ {s7 : Shared} {H7 : Hp} {ys' : List V}, Inv (cxComp X x scope s3.heap.objs.size s3 (upd H2 s2.heap.objs.size (.lst [])) fp) ([] ++ pinsAt fp s5.heap) (some xv :: σ) H7 s7 -> (∃ m', m' < n /\ W (i + 1) m' ys' H7) ->
     ∃ m, m < n /\ ∃ i ys v0 H', Inv (cxComp X x scope s3.heap.objs.size s3 (upd H2 s2.heap.objs.size (.lst [])) fp) [] (v0 :: σ) H' s7 /\ tn i s7.heap /\ (∀ b ∈ fp, H' b = none) /\ W i m ys H' := fun {s7 H7 ys'} I7 hw => by
    obtain ⟨m', hm, w7⟩ := hw
    refine ⟨m', hm, i + 1, ys', some xv, H7, I7.unpinned, T.keep _ _ _ st6 fun b hb o e => (I7.pin (b, o) (List.mem_append_right _ (List.mem_append_right _ (mem_pinsAt hb e)))).1, fun b hb => ?_, w7⟩
    obtain ⟨o, e, d⟩ := T.obj _ _ st6 b hb
    exact (I7.pin (b, o) (List.mem_append_right _ (List.mem_append_right _ (mem_pinsAt hb e)))).2.1
   refine wpAny_assign_Name (store_ok (X := cxComp X x scope s3.heap.objs.size s3 (upd H2 s2.heap.objs.size (.lst [])) fp) (i := 0) I6' S.nd rfl (.inl hloc) r6 (fun s7 I7 => ?_) (.inr hloc))
   refine thnF (ht _ _ _ _ _ s7 (some xv :: σ) H6 _ I7 (step xv H6 y6)) fun b s8 ⟨H8, I8, q8⟩ => ?_
   cases b with
   | false =>
    rw [if_neg Bool.false_ne_true] at q8 ⊢
    exact again I8 q8
   | true =>
    rw [if_pos rfl] at q8 ⊢
    refine thnF (he _ _ _ _ _ s8 (some xv :: σ) H8 _ I8 q8) fun y s9 ⟨yv, H9, I9, r9, hD9, hz9, q9⟩ => ?_
    refine thnF (mt_append (X := cxComp X x scope s3.heap.objs.size s3 (upd H2 s2.heap.objs.size (.lst [])) fp) _ s9 (some xv :: σ) H9 (.ref s2.heap.objs.size) [yv] (.ref s2.heap.objs.size) [y] (fun _ H' => H' = upd H9 s2.heap.objs.size (.lst (ys ++ [yv]))) I9 rfl (.cons r9 .nil)
     ⟨_, ys, yv, rfl, rfl, hD9, hz9, rfl⟩) fun _ s10 ⟨_, H10, I10, _, e10⟩ => ?_
    subst e10
    exact again I10 q9
 have key := fun tk => codeAny_compStart_list (R := RR (.ref s2.heap.objs.size) s3.heap.objs.size) (loop tk) (T.self X.A 0 { s3 with heap := h₁, toks := tk } (fun it' s' => codeAny (model X.prog X.w) X.A (.compLoop (.ListComp elt [⟨.Name x px, iter, ifs, 0⟩] scope pos) 0 it' (.ref s2.heap.objs.size) (compEnvC scope (cloGo X.env scope.names []) s3.heap.objs.size X.env)) (RR (.ref s2.heap.objs.size) s3.heap.objs.size) s') _ st3 (loop tk))
 subst hs3
 exact key _
theorem pe_comp {px pos : Pos} {iter elt : Expr} {ifs : List Expr} {wi : TI} {tt : TT} {te : TE} (hc : X.calm = true) (S : CompScope X x scope) (hi : PI X (.Name x px) iter wi)
  (ht : ∀ C s₀ H₀ fp, PIfs (cxComp X x scope C s₀ H₀ fp) ifs tt) (he : ∀ C s₀ H₀ fp, PE (cxComp X x scope C s₀ H₀ fp) elt te) (hs : ∀ x, foldedSetIterable iter X.env x = pure x := by intro _; rfl) :
  PE X (.ListComp elt [⟨.Name x px, iter, ifs, 0⟩] scope pos) (tComp wi tt te) := by
 intro pins s σ H Q I h
 rw [eval_ListComp]
 refine wpAny_comprehension_free (use := none) (cl := cloGo X.env scope.names []) rfl hs (closure_ok fun y hy hk => I.ok.has y.1 (S.free y hy hk)) S.kind S.names (thn (hi pins s σ H _ I h) fun v s1 h1 => thn h1 fun itv s2 h2 => ?_)
 obtain ⟨it, fp, tn, J, H2, e, I2, T, st2, f2, q⟩ := h2
 subst e
 refine comp_block (RR := fun acc C => compPost (model X.prog X.w) X.A X.xe none (EP X pins σ Q) acc C) (Q := Q) hc S ht he I2 T st2 f2 q ?_
 intro D C s' H' m hn hf hI hq
 exact ⟨m, hn, fun h' sb => ⟨.ref D, H', hI.sameBut hf sb, rfl, hq⟩⟩
theorem ps_comp {i : Nat} {y : Str} {px py pos spos : Pos} {iter elt : Expr} {ifs : List Expr} {wi : TI} {tt : TT} {te : TE} (hN : X.N.Nodup) (hi' : X.N[i]? = some y) (hy : X.env.scope.names.lookup y = some .local) (hc : X.calm = true) (S : CompScope X x scope) (hi : PI X (.Name x px) iter wi)
  (ht : ∀ C s₀ H₀ fp, PIfs (cxComp X x scope C s₀ H₀ fp) ifs tt) (he : ∀ C s₀ H₀ fp, PE (cxComp X x scope C s₀ H₀ fp) elt te) (hsw : swapsWith (.ListComp elt [⟨.Name x px, iter, ifs, 0⟩] scope pos) (some (.Name y py)) spos.line X.env = pure true := by rfl) (hs : ∀ x, foldedSetIterable iter X.env x = pure x := by intro _; rfl) :
  PS X (.Assign [.Name y py] (.ListComp elt [⟨.Name x px, iter, ifs, 0⟩] scope pos) spos) (tAsg (tComp wi tt te) (gName i)) := by
 intro pins s σ H D' I h
 rw [exec_Assign_Name_used _ _ _ _ hsw]
 refine wpAny_bind (wpAny_standAt (wpAny_bind ?_))
 show wpAny _ X.A (do let _ ← comprehension (.ListComp elt [⟨.Name x px, iter, ifs, 0⟩] scope pos) scope X.env _ (newList []) false (eval iter X.env) (some (assign (.Name y py) X.env))) _ _ s
 refine wpAny_bind (wpAny_mono (wpAny_comprehension_free (use := some (assign (.Name y py) X.env)) (cl := cloGo X.env scope.names []) (Q := fun _ s' => SP X pins D' .next s') rfl hs (closure_ok fun y hy hk => I.ok.has y.1 (S.free y hy hk)) S.kind S.names
  (thn (hi pins s σ H _ I h) fun v s1 h1 => thn h1 fun itv s2 h2 => ?_)) (fun _ s' hq => wpAny_pure (wpAny_pure hq)) fun _ _ e => e)
 obtain ⟨it, fp, tn, J, H2, e, I2, T, st2, f2, q⟩ := h2
 subst e
 refine comp_block (RR := fun acc C => compPost (model X.prog X.w) X.A X.xe (some (assign (.Name y py) X.env)) (fun _ s' => SP X pins D' .next s') acc C) (Q := fun x H1 => gName i x σ H1 D'.nx) hc S ht he I2 T st2 f2 q ?_
 intro D C s' H' m hn hf hI hq
 show wpAny _ X.A (assign (.Name y py) X.env (.ref D)) _ _ _
 refine wpAny_assign_Name (store_ok2 hI hN hi' (.inl hy) (v := .ref D) rfl (fun s6 I6 hch => ?_) (.inr hy))
 obtain ⟨a, sb, ha⟩ := hch
 have hCa : C ≠ a := by
  rcases ha with z | z
  ·rw [z]; exact hf.2.1
  ·exact Ne.symm (hf.2.2.2.2.1 y a z)
 exact ⟨m, hn.sameBut sb hCa, fun h' sb' => ⟨_, H', I6.sameBut hf sb', hq⟩⟩
end
end L2
namespace L2
open PySem PySem.Spec PyProof.Rows
section
variable {σ : St} {H1 : Hp} {Q : VK} {tt : TT} {te : TE}
theorem comp_any {J : It} {xs : List V} (p : V -> Bool) (f : V -> V) (hz : xs.length < sizeLine)
  (hgo : ∀ i H x, Same H1 H -> xs[i]? = some x -> J.go i H) (hy : ∀ i H y H', Same H1 H -> i < xs.length -> J.yld i H y H' -> H' = H /\ xs[i]? = some y) (hstop : ∀ H, Same H1 H -> J.stop xs.length H)
  (ht : ∀ x ∈ xs, ∀ H, Same H1 H -> ∀ R : Bool -> Hp -> Prop, (∀ H', Same H H' -> R (p x) H') -> tt (some x :: σ) H R)
  (he : ∀ x ∈ xs, p x = true -> ∀ H, Same H1 H -> ∀ R : VK, (∀ H', Same H H' -> R (f x) H') -> te (some x :: σ) H R)
  (hq : ∀ D H, H1 D = none -> Same H1 H -> H D = some (.lst ((xs.filter p).map f)) -> Q (.ref D) H) : CompOk J σ H1 Q tt te := by
 intro D hD
 have s0 : Same H1 (upd H1 D (.lst [])) := fun b o e => by rw [upd_ne (ne_of_none e hD)]; exact e
 refine ⟨fun i m ys H => m = xs.length - i /\ i <= xs.length /\ ys = ((xs.take i).filter p).map f /\ H D = some (.lst ys) /\ Same H1 H, ⟨xs.length, by simp, Nat.zero_le _, by simp, upd_same, s0⟩, ?_⟩
 rintro i m ys H ⟨rfl, hi, rfl, hd, hs⟩
 by_cases hlt : i < xs.length
 ·obtain ⟨x, hx⟩ : ∃ x, xs[i]? = some x := ⟨xs[i], by simp [hlt]⟩
  refine .inr ⟨hgo i H x hs hx, fun y H3 hyl => ?_⟩
  obtain ⟨rfl, hy'⟩ := hy i H y H3 hs hlt hyl
  rw [hx] at hy'
  cases hy'
  have hm : x ∈ xs := List.mem_of_getElem? hx
  have hlen : (((xs.take i).filter p).map f).length < sizeLine := by
   rw [List.length_map]
   refine Nat.lt_of_le_of_lt (List.length_filter_le _ _) (Nat.lt_of_le_of_lt ?_ hz)
   rw [List.length_take]; omega
  refine ht x hm _ hs _ fun H4 s4 => ?_
  by_cases hp : p x = true
  ·rw [if_pos hp]
   refine he x hm hp H4 (hs.trans s4) _ fun H5 s5 => ?_
   refine ⟨s5 _ _ (s4 _ _ hd), hlen, xs.length - (i + 1), by omega, rfl, hlt, ?_, upd_same, fun b o e => ?_⟩
   ·rw [take_succ_filter p xs i x hx, if_pos hp, List.map_append]; rfl
   ·rw [upd_ne (ne_of_none e hD)]; exact s5 _ _ (s4 _ _ (hs _ _ e))
  ·rw [if_neg hp]
   refine ⟨xs.length - (i + 1), by omega, rfl, hlt, ?_, s4 _ _ hd, hs.trans s4⟩
   rw [take_succ_filter p xs i x hx, if_neg hp, List.append_nil]
 ·have e : i = xs.length := by omega
  subst e
  rw [List.take_length] at hd
  exact .inl ⟨hstop H hs, hq D H hD hs hd⟩
theorem comp_range {lo : Int} {n : Nat} (p : Int -> Bool) (f : Int -> V) (hz : n < sizeLine)
  (ht : ∀ i : Nat, i < n -> ∀ H, Same H1 H -> ∀ R : Bool -> Hp -> Prop, (∀ H', Same H H' -> R (p (lo + i)) H') -> tt (some (.int (lo + i)) :: σ) H R)
  (he : ∀ i : Nat, i < n -> p (lo + i) = true -> ∀ H, Same H1 H -> ∀ R : VK, (∀ H', Same H H' -> R (f (lo + i)) H') -> te (some (.int (lo + i)) :: σ) H R)
  (hq : ∀ D H, H1 D = none -> Same H1 H -> H D = some (.lst ((((List.range n).map fun (i : Nat) => lo + (i : Int)).filter p).map f)) -> Q (.ref D) H) : CompOk (Itr lo n) σ H1 Q tt te := by
 let g : V -> Int := fun v => match v with | .int i => i | _ => 0
 have hxs : ∀ i : Nat, i < n -> ((List.range n).map fun (i : Nat) => V.int (lo + (i : Int)))[i]? = some (.int (lo + i)) := fun i hi => by simp [hi]
 refine comp_any (xs := (List.range n).map fun (i : Nat) => V.int (lo + (i : Int))) (fun v => p (g v)) (fun v => f (g v)) (by simpa using hz) (fun i H x _ hx => ?_) (fun i H y H' _ hi hy => ?_) (fun H _ => ?_) (fun x hx => ?_) (fun x hx => ?_) (fun D H h1 h2 h3 => ?_)
 ·have : i < ((List.range n).map fun (i : Nat) => V.int (lo + (i : Int))).length := (List.getElem?_eq_some_iff.mp hx).1
  show i < n
  simpa using this
 ·have hi' : i < n := by simpa using hi
  obtain ⟨e1, e2⟩ := hy
  subst e2
  exact ⟨e1, hxs i hi'⟩
 ·show n <= _
  simp
 ·obtain ⟨i, hi, rfl⟩ := List.mem_map.mp hx
  exact ht i (List.mem_range.mp hi)
 ·obtain ⟨i, hi, rfl⟩ := List.mem_map.mp hx
  exact he i (List.mem_range.mp hi)
 ·refine hq D H h1 h2 ?_
  rw [h3, List.filter_map, List.map_map, List.filter_map, List.map_map]
  rfl
def Its (z : Str) : It := ⟨fun i _ => i < z.cps.size, fun i H x H' => H' = H /\ ∃ c, z.cps[i]? = some c /\ x = .str ⟨#[c]⟩, fun i _ => z.cps.size <= i⟩
theorem turn_str {P : Program} {w : World} {K : PySem.W.Frag} {tg : Expr} {z : Str} {t0 : Tok} {it : Addr} {ty : String} (hty : ty = "str_ascii_iterator" \/ ty = "str_iterator") : Turn P w K tg (Its z) [it] it (fun i h => h.IsStrIter it ty z t0 i) where
 mem := by simp
 obj := fun i h st b hb => by
  have e : b = it := by simpa using hb
  subst e
  obtain ⟨o, ho, hc, hd⟩ := st
  exact ⟨o, ho, fun v q => by rw [hd] at q; cases q⟩
 keep := fun i h h' st k => let ⟨o, ho, r⟩ := st; ⟨o, k it (by simp) o ho, r⟩
 item := by
  intro X hP hw hK hc i pins s σ H E I hf st hg
  subst hP hw hK
  obtain ⟨f0, f1, f2, f3, f4, f5⟩ := hf it (by simp)
  have hg' : i < z.cps.size := hg
  have hx : z.cps[i]? = some z.cps[i] := Array.getElem?_eq_getElem hg'
  have fin : ∀ h', h'.IsStrIter it ty z t0 (i + 1) -> Heap.SameBut it s.heap h' -> ∃ u, some (Value.str ⟨#[z.cps[i]]⟩ s.toks) = some u /\
    wpAny (model X.prog X.w) X.A (letOwnedTupleGo tg (.ref it) u) (fun _ s2 => ∃ x H', Inv X pins σ H' s2 /\ RelV x u /\ (Its z).yld i H x H' /\ s2.heap.IsStrIter it ty z t0 (i + 1) /\ ∀ b ∈ [it], H' b = none) E { s with heap := h', toks := s.toks + 1 } := fun h' st' sb => by
   have I1 : Inv X pins σ H { s with heap := h', toks := s.toks + 1 } := I.turned (fun b o hb e => (sb.2 b hb).trans e) f0 f1 f3 f4 f5
   obtain ⟨o, e, c, d⟩ := id st'
   refine ⟨_, rfl, go_of (s := { s with heap := h', toks := s.toks + 1 }) e c d (by rcases hty with rfl | rfl <;> decide) ⟨.str ⟨#[z.cps[i]]⟩, H, I1, ⟨_, rfl⟩, ⟨rfl, _, hx, rfl⟩, st', fun b hb => (hf b hb).1⟩⟩
  rcases hty with rfl | rfl
  ·exact wpAny_pyNext_ascii_item st hx fin
  ·exact wpAny_pyNext_wide_item st hx fin
 done := by
  intro X hP hw hK hc i pins s σ H E I hf st hg
  subst hP hw hK
  obtain ⟨f0, f1, f2, f3, f4, f5⟩ := hf it (by simp)
  have hx : z.cps[i]? = none := by
   have hg' : z.cps.size <= i := hg
   simpa using hg'
  rcases hty with rfl | rfl
  ·exact wpAny_pyNext_ascii_end (I.ok.hd hc) st hx fun h' eb => ⟨rfl, I.turned (t' := s.toks) (fun b o hb e => eb b o hb e) f0 f1 f3 f4 f5⟩
  ·exact wpAny_pyNext_wide_end (I.ok.hd hc) st hx fun h' eb => ⟨rfl, I.turned (t' := s.toks) (fun b o hb e => eb b o hb e) f0 f1 f3 f4 f5⟩
 self := fun A i s Q E st h => by
  rcases hty with rfl | rfl
  ·exact wpAny_pyIter_striter_ascii st h
  ·exact wpAny_pyIter_striter_wide st h
end
section
variable {X : Cx} {tg : Expr}
def iStr (tl : TE) : TI := fun σ H R => tl σ H fun x H1 => ∃ z, x = .str z /\ R (Its z) H1
theorem pi_str {l : Expr} {tl : TE} (hl : PE X l tl) : PI X tg l (iStr tl) := by
 intro pins s σ H R I h
 refine thn (hl pins s σ H _ I h) fun v s1 ⟨x, H1, I1, r1, q1⟩ => ?_
 obtain ⟨z, e, q⟩ := q1
 subst e
 obtain ⟨t, rfl⟩ := r1
 have fin : ∀ ty, (ty = "str_ascii_iterator" \/ ty = "str_iterator") -> PIE X pins σ tg R (.ref s1.heap.objs.size) { s1 with heap := s1.heap.push { cls := .type ty, data := .fields #[.str z t, .int 0 0] } } := fun ty hty => by
  refine ⟨s1.heap.objs.size, [s1.heap.objs.size], _, _, H1, rfl, I1.kept (t' := s1.toks) fun b o e => Heap.get?_push_of_some _ e, turn_str (z := z) (t0 := t) hty, ⟨_, Heap.get?_push_size _ rfl, rfl, rfl⟩, fun b hb => ?_, q⟩
  have e : b = s1.heap.objs.size := by simpa using hb
  subst e
  exact I1.fpOk (Nat.le_refl _) (I1.hok.fresh (Nat.le_refl _))
 cases ha : z.cps.all (· < 128)
 ·exact wpAny_pyIter_wide ha (fin _ (.inr rfl))
 ·exact wpAny_pyIter_ascii ha (fin _ (.inl rfl))
end
section
variable {σ : St} {H1 : Hp} {Q : VK} {tt : TT} {te : TE}
def sgn (c : Nat) : V := .str ⟨#[c]⟩
theorem comp_str {z : Str} (p : Nat -> Bool) (f : Nat -> V) (hz : z.length < sizeLine)
  (ht : ∀ c ∈ z.cps.toList, ∀ H, Same H1 H -> ∀ R : Bool -> Hp -> Prop, (∀ H', Same H H' -> R (p c) H') -> tt (some (sgn c) :: σ) H R)
  (he : ∀ c ∈ z.cps.toList, p c = true -> ∀ H, Same H1 H -> ∀ R : VK, (∀ H', Same H H' -> R (f c) H') -> te (some (sgn c) :: σ) H R)
  (hq : ∀ D H, H1 D = none -> Same H1 H -> H D = some (.lst ((z.cps.toList.filter p).map f)) -> Q (.ref D) H) : CompOk (Its z) σ H1 Q tt te := by
 let g : V -> Nat := fun v => match v with | .str y => y.cps.getD 0 0 | _ => 0
 refine comp_any (xs := z.cps.toList.map sgn) (fun v => p (g v)) (fun v => f (g v)) (by simpa [Str.length] using hz) (fun i H x _ hx => ?_) (fun i H y H' _ hi hy => ?_) (fun H _ => ?_) (fun x hx => ?_) (fun x hx => ?_) (fun D H h1 h2 h3 => ?_)
 ·have : i < (z.cps.toList.map sgn).length := (List.getElem?_eq_some_iff.mp hx).1
  show i < z.cps.size
  simpa using this
 ·obtain ⟨e1, c, hc, rfl⟩ := hy
  refine ⟨e1, ?_⟩
  rw [List.getElem?_map, Array.getElem?_toList, hc]; rfl
 ·show z.cps.size <= _
  simp
 ·obtain ⟨c, hc, rfl⟩ := List.mem_map.mp hx
  exact ht c hc
 ·obtain ⟨c, hc, rfl⟩ := List.mem_map.mp hx
  exact he c hc
 ·refine hq D H h1 h2 ?_
  rw [h3, List.filter_map, List.map_map]
  rfl
end
section
variable {X : Cx}
theorem range_all (bs : List Bool) : ((List.range bs.length).all fun i => (bs[i]?).getD true) = bs.all id := by
 rw [Bool.eq_iff_iff, List.all_eq_true, List.all_eq_true]
 constructor
 ·intro h b hb
  obtain ⟨i, hi, e⟩ := List.mem_iff_getElem.mp hb
  have := h i (List.mem_range.mpr hi)
  rw [List.getElem?_eq_getElem hi, e] at this
  exact this
 ·intro h i hi
  have hi' := List.mem_range.mp hi
  rw [List.getElem?_eq_getElem hi']
  exact h _ (List.getElem_mem hi')
theorem call_all (hc : X.calm = true) : CallR X (.builtin "all") (fun xs H Q => ∃ (p : Addr) (bs : List Bool), xs = [V.ref p] /\ SqL X.K H p (bs.map V.bl) /\ Q (.bl (bs.all id)) H) := by
 intro pins s σ H xs us Q I r h
 obtain ⟨p, bs, rfl, hp, q⟩ := h
 obtain ⟨u, rfl, ru⟩ := vals1 r
 cases ru
 obtain ⟨its, rv, pl, hz⟩ := I.list hp
 have hlen : bs.length = its.length := by have := rv.length; rw [List.length_map] at this; exact this
 have hlt : p < s.heap.objs.size := by obtain ⟨_, e, _⟩ := pl.isList; exact Heap.lt_size e
 refine call_all_walk (wpAny_pyIter_list pl.isList ?_)
 refine ⟨s.heap.objs.size, [s.heap.objs.size, p], [s.heap.objs.size], its.toArray.size, _, _, fun i => (bs[i]?).getD true, rfl, Walks.list (A := X.A.in1) (I.ok.hd hc) _ p (Nat.ne_of_lt hlt) its.toArray,
  ⟨⟨_, Heap.get?_push_size _ rfl, rfl, rfl⟩, pl.isList.push _⟩, fun i v s' Q' E' hP hQ => ?_, fun h' tk hk => ?_⟩
 ·have hP' : its[i]? = some v := by simpa using hP
  have hi : i < its.length := (List.getElem?_eq_some_iff.mp hP').1
  have hb : bs[i]? = some bs[i] := by simp [hlen, hi]
  obtain ⟨u, hu, ru⟩ := rv.get (i := i) (x := .bl bs[i]) (by rw [List.getElem?_map, hb]; rfl)
  rw [hP'] at hu
  cases hu
  cases ru
  dsimp only at hQ
  rw [hb] at hQ
  exact wpAny_truthy_bool hQ
 ·have e : ((List.range its.toArray.size).all fun i => (bs[i]?).getD true) = bs.all id := by rw [List.size_toArray, ← hlen]; exact range_all bs
  rw [e]
  refine ⟨.bl (bs.all id), H, I.kept (t' := tk) fun b o eb => hk b o (fun hm => ?_) (Heap.get?_push_of_some _ eb), rfl, q⟩
  rw [List.mem_singleton.mp hm] at eb
  exact Nat.lt_irrefl _ (Heap.lt_size eb)
theorem call_isin : CallR X (.builtin "isinstance") (fun xs H Q => ∃ x T t b, xs = [x, V.ty T] /\ TyOf X.K H x t /\ PySem.W.kitOne X.K t (.type T) = some b /\ Q (.bl b) H) := by
 intro pins s σ H xs us Q I r h
 obtain ⟨x, T, t, b, rfl, ty, e, q⟩ := h
 obtain ⟨u, v, rfl, ru, rv⟩ := Vals.two r
 cases rv
 exact isinst_ok I ru ty e fun tk => ⟨.bl b, H, I.tok _, rfl, q⟩
theorem sl_str : SlR X (fun x lo hi H Q => ∃ z, x = .str z /\ z.length <= sizeLine /\ Q (.str (Txt.slice z lo hi)) H) := by
 intro pins s σ H x v vl vu lo hi sl Q I rx hs pl pu h
 obtain ⟨z, rfl, hz, q⟩ := h
 obtain ⟨t, rfl⟩ := rx
 refine ⟨"str", _, F.slot_str_getitem.lookup, typeIs_str _ _ _, ?_⟩
 have fin : ∀ t' k, EP X pins σ Q (.str (Txt.slice z lo hi) t') { s with toks := k } := fun t' k => ⟨.str _, H, I.tok _, ⟨_, rfl⟩, q⟩
 cases pl with
 | none =>
  cases pu with
  | none => exact wpAny_getItem_str_slice (l := none) (u := none) (st := none) hs rfl (post_val_or_str ⟨Nat.le_trans (Txt.slice_le z _ _) hz, fin⟩)
  | int j uj => exact wpAny_getItem_str_slice (l := none) (u := some (j, uj)) (st := none) hs rfl (post_val_or_str ⟨Nat.le_trans (Txt.slice_le z _ _) hz, fin⟩)
 | int i ui =>
  cases pu with
  | none => exact wpAny_getItem_str_slice (l := some (i, ui)) (u := none) (st := none) hs rfl (post_val_or_str ⟨Nat.le_trans (Txt.slice_le z _ _) hz, fin⟩)
  | int j uj => exact wpAny_getItem_str_slice (l := some (i, ui)) (u := some (j, uj)) (st := none) hs rfl (post_val_or_str ⟨Nat.le_trans (Txt.slice_le z _ _) hz, fin⟩)
end
def compChk (x : Str) (scope osc : Scope) (N : List Str) : Bool :=
 (scope.kind == .function) && scope.names.all (fun y => y.2 != .cell) && scope.names.all (fun y => y.2 != .local || scope.names.lookup y.1 == some .local) && (scope.names.lookup x == some .local) &&
 scope.names.all (fun y => y.2 != .free || osc.names.lookup y.1 == some .cell || osc.names.lookup y.1 == some .free) && decide ((x :: hideN x N).Nodup) && (hideN x N).all (fun y => scope.names.lookup y != some .local) && (scope.names.lookup ("" : Str) == none)
theorem compScope {X : Cx} {x : Str} {scope osc : Scope} {N : List Str} (hsc : X.env.scope = osc) (hN : X.N = N) (h : compChk x scope osc N = true) : CompScope X x scope := by
 unfold compChk at h
 simp only [Bool.and_eq_true] at h
 obtain ⟨⟨⟨⟨⟨⟨⟨h1, h2⟩, h3⟩, h4⟩, h5⟩, h6⟩, h7⟩, h8⟩ := h
 rw [List.all_eq_true] at h2 h3 h5 h7
 have kd : ∀ y, X.env.kindOf y = osc.names.lookup y := fun y => by rw [← hsc]; rfl
 refine ⟨by simpa using h1, fun y hy => by simpa using h2 y hy, fun y hy e => ?_, by simpa using h4, fun y hy e => ?_, by rw [hN]; exact of_decide_eq_true h6, fun y hy => ?_, by simpa using h8⟩
 ·have := h3 y hy
  rw [e] at this
  simpa using this
 ·have := h5 y hy
  rw [e] at this
  rw [kd]
  simpa using this
 ·rw [hN] at hy
  simpa using h7 y hy
theorem atI_in {α : Type} {xs : List α} {i : Int} (h0 : 0 <= i) (h1 : i < xs.length) : ∃ v, atI xs i = some v /\ v ∈ xs := by
 have hj : i.toNat < xs.length := by omega
 refine ⟨xs[i.toNat], ?_, List.getElem_mem hj⟩
 have := atI_nat (xs := xs) (j := i.toNat) (v := xs[i.toNat]) (by simp [hj])
 have e : ((i.toNat : Nat) : Int) = i := by omega
 rw [e] at this
 exact this
end L2
namespace L2
open PySem PySem.Spec PyProof.Rows
section
variable {X : Cx} {pins : List (Addr × Obj)} {σ : St} {H : Hp} {s : Shared} {h' : Heap}
theorem Inv.turnLaid {ch : List Addr} {a : Addr} {o : HO} {t' : Nat} (I : Inv X pins σ H s) (hf : ∀ b ∈ ch, FpOk X pins H b) (k : ∀ b u, b ∉ ch -> s.heap.get? b = some u -> h'.get? b = some u) (hp : s.heap.objs.size <= a)
  (new : ObjOk X.prog X.w (upd H a o) h' a o) : Inv X pins σ (upd H a o) { s with heap := h', toks := t' } := by
 have hn : H a = none := I.hok.fresh hp
 have up : ∀ b u, H b = some u -> upd H a o b = some u := fun b u e => by rw [upd_ne (ne_of_none e hn)]; exact e
 refine I.step (g' := s.gens) (d' := s.drawn) (ch := ch) (fun b hb => ?_) (fun b u _ _ hc e _ => k b u hc e) (fun b u _ _ hc e _ => ⟨u.slots, k b u hc e⟩) (fun b u _ e n => ?_)
  (fun b u hc e => ⟨u, k b u hc e⟩) (fun b xs e => up _ _ e) (fun b u x e => up _ _ e) (fun b ps e => ⟨#[], by rw [up _ _ e]; simp⟩) (fun m hm => ?_) (fun b u e => ?_) I.bare
 ·obtain ⟨f0, f1, f2, f3, f4, f5⟩ := hf b hb
  exact ⟨f3, f1, f4, f5⟩
 ·rw [upd_ne (Nat.ne_of_lt (Nat.lt_of_lt_of_le (Heap.lt_size e) hp))]
  exact n
 ·obtain ⟨u, es, ep, ho, r⟩ := hm
  exact ⟨u, es, ep, k _ u (fun z => (hf _ z).2.1 rfl) ho, r⟩
 ·by_cases hb : b = a
  ·subst hb
   rw [upd_same] at e
   cases e
   exact new
  ·rw [upd_ne hb] at e
   refine (I.hok b u e).stay (fun c v hc q => k c v (fun z => ?_) q) (fun _ q => up _ _ q) fun _ _ q => up _ _ q
   have z1 := (hf c z).1
   rcases hc with hc | hc
   ·rw [hc, e] at z1
    cases z1
   ·rw [hc] at z1
    cases z1
theorem Inv.turnAll {ch : List Addr} {t' : Nat} (I : Inv X pins σ H s) (hf : ∀ b ∈ ch, FpOk X pins H b) (k : ∀ b u, b ∉ ch -> s.heap.get? b = some u -> h'.get? b = some u) : Inv X pins σ H { s with heap := h', toks := t' } := by
 refine I.step (g' := s.gens) (d' := s.drawn) (ch := ch) (fun b hb => ?_) (fun b u _ _ hc e _ => k b u hc e) (fun b u _ _ hc e _ => ⟨u.slots, k b u hc e⟩) (fun b u _ e n => n)
  (fun b u hc e => ⟨u, k b u hc e⟩) (fun b xs e => e) (fun b u x e => e) (fun b ps e => ⟨#[], by rw [e]; simp⟩) (fun m hm => ?_) (fun b u e => ?_) I.bare
 ·obtain ⟨f0, f1, f2, f3, f4, f5⟩ := hf b hb
  exact ⟨f3, f1, f4, f5⟩
 ·obtain ⟨u, es, ep, ho, r⟩ := hm
  exact ⟨u, es, ep, k _ u (fun z => (hf _ z).2.1 rfl) ho, r⟩
 ·refine (I.hok b u e).stay (fun c v hc q => k c v (fun z => ?_) q) (fun _ q => q) fun _ _ q => q
  have z1 := (hf c z).1
  rcases hc with hc | hc
  ·rw [hc, e] at z1
   cases z1
  ·rw [hc] at z1
   cases z1
end
def Itn (K : PySem.W.Frag) (a : Addr) : It :=
 ⟨fun i H => ∃ xs x, SqL K H a xs /\ xs[i]? = some x, fun i H v H' => ∃ T, H T = none /\ v = .ref T /\ ∀ xs, SqL K H a xs -> ∃ x, xs[i]? = some x /\ H' = upd H T (.tup [.int (i : Int), x]), fun i H => ∃ xs, SqL K H a xs /\ xs.length <= i⟩
def Itz (K : PySem.W.Frag) (a b : Addr) : It :=
 ⟨fun i H => ∃ xs ys x y, SqT K H a xs /\ SqT K H b ys /\ xs[i]? = some x /\ ys[i]? = some y, fun i H v H' => ∃ T, H T = none /\ v = .ref T /\ ∀ xs ys, SqT K H a xs -> SqT K H b ys -> ∃ x y, xs[i]? = some x /\ ys[i]? = some y /\ H' = upd H T (.tup [x, y]),
  fun i H => ∃ xs, SqT K H a xs /\ xs.length <= i⟩
theorem turn_enum {P : Program} {w : World} {K : PySem.W.Frag} {es : List Expr} {k1 : Nat} {pos : Pos} (a e it : Addr) (hne : e ≠ it) :
  Turn P w K (.Tuple es k1 pos) (Itn K a) [e, it] e (fun i h => (∃ old, IsEnum h e it i old) /\ h.IsListIter it a i) where
 mem := by simp
 obj := fun i h st b hb => by
  obtain ⟨⟨old, he⟩, o, ho, c, d⟩ := st
  rcases List.mem_cons.mp hb with rfl | hb
  ·exact ⟨_, he, fun v z => by
    have z' : Data.fields _ = Data.cell v := z
    cases z'⟩
  ·have q : b = it := by simpa using hb
   subst q
   exact ⟨o, ho, fun v z => by rw [d] at z; cases z⟩
 keep := fun i h h' st k => by
  obtain ⟨⟨old, he⟩, hi⟩ := st
  exact ⟨⟨old, k e (by simp) _ he⟩, hi.at fun o q => k it (by simp) o q⟩
 item := by
  intro X hP hw hK hc i pins s σ H E I hf st hg
  subst hP hw hK
  obtain ⟨xs, x, hq, hx⟩ := hg
  obtain ⟨its, rv, p, hz⟩ := I.list hq
  obtain ⟨u, hu, ru⟩ := rv.get hx
  obtain ⟨⟨old, he⟩, hi⟩ := st
  refine wpAny_pyNext_enum_item he hi p.isList (x := u) (by simpa using hu) hne fun h1 n1 n2 n3 n4 n5 => ?_
  refine ⟨_, rfl, wpAny_letOwnedTupleGo_enum (s := { s with heap := h1, toks := s.toks + 1 }) n1 fun h2 m1 m2 => ?_⟩
  have hT : s.heap.objs.size ≠ e := Nat.ne_of_gt (Heap.lt_size he)
  have hI : s.heap.objs.size ≠ it := by obtain ⟨_, q, _⟩ := hi; exact Nat.ne_of_gt (Heap.lt_size q)
  have fr : H s.heap.objs.size = none := I.hok.fresh (Nat.le_refl _)
  have nw : ObjOk X.prog X.w (upd H s.heap.objs.size (.tup [.int (i : Int), x])) h2 s.heap.objs.size (.tup [.int (i : Int), x]) :=
   ⟨by show 2 <= sizeLine; decide, [.int i s.toks, u], .cons ⟨_, rfl⟩ (.cons ru .nil), _, m2.extBut _ _ hT n3, rfl, _, rfl⟩
  refine ⟨.ref s.heap.objs.size, _, I.turnLaid (t' := s.toks + 1) (ch := [e, it]) hf (fun b o hb q => ?_) (Nat.le_refl _) nw, rfl, ⟨_, fr, rfl, fun ys hy => ⟨x, by rw [I.list_inj hy hq]; exact hx, rfl⟩⟩, ⟨⟨u, ?_⟩, n2.at fun o q => m2.extBut _ _ (Ne.symm hne) q⟩, fun b hb => ?_⟩
  ·exact m2.extBut _ _ (fun z => hb (by simp [z])) (n5 b o (fun z => hb (by simp [z])) (fun z => hb (by simp [z])) q)
  ·have e1 : ((i : Int) + 1) = ((i + 1 : Nat) : Int) := by omega
   rw [← e1]
   exact m1
  ·have hb' := hb
   rcases List.mem_cons.mp hb with rfl | hb
   ·rw [upd_ne (Ne.symm hT)]
    exact (hf _ hb').1
   ·have q : b = it := by simpa using hb
    subst q
    rw [upd_ne (Ne.symm hI)]
    exact (hf _ hb').1
 done := by
  intro X hP hw hK hc i pins s σ H E I hf st hg
  subst hP hw hK
  obtain ⟨xs, hq, hx⟩ := hg
  obtain ⟨its, rv, p, hz⟩ := I.list hq
  obtain ⟨⟨old, he⟩, hi⟩ := st
  have hl := rv.length
  exact wpAny_pyNext_enum_end (I.ok.hd hc) he hi p.isList (by simp; omega) fun h1 eb => ⟨rfl, I.turnAll (t' := s.toks) (ch := [e, it]) hf fun b o hb q => eb b o (fun z => hb (by simp [z])) q⟩
 self := fun _ _ _ _ _ st h => by
  obtain ⟨⟨old, he⟩, _⟩ := st
  exact wpAny_pyIter_enum he h
theorem apart5 {n a b : Nat} (ha : a < n) (hb : b < n) : ZipApart (n + 4) (n + 2) (n + 3) n (n + 1) a b := by
 constructor <;> (refine (show @Ne Nat _ _ from ?_); omega)
theorem mem5 {n b : Nat} {P : Nat -> Prop} (h0 : P n) (h1 : P (n + 1)) (h2 : P (n + 2)) (h3 : P (n + 3)) (h4 : P (n + 4)) (hb : b ∈ [n, n + 1, n + 2, n + 3, n + 4]) : P b := by
 simp at hb
 rcases hb with rfl | rfl | rfl | rfl | rfl <;> assumption
theorem turn_zipT {P : Program} {w : World} {K : PySem.W.Frag} {es : List Expr} {k1 : Nat} {pos : Pos} (a b n : Nat) (ha : a < n) (hb : b < n) :
  Turn P w K (.Tuple es k1 pos) (Itz K a b) [n, n + 1, n + 2, n + 3, n + 4] (n + 4) (fun i h => IsZip h (n + 4) (n + 2) (n + 3) .none /\ IsPair h (n + 2) (.ref n) (.ref (n + 1)) /\ (∃ x y, IsPair h (n + 3) x y) /\ h.IsTupleIter n a i /\ h.IsTupleIter (n + 1) b i) where
 mem := by simp
 obj := fun i h st c hc => by
  obtain ⟨hz, hI, ⟨x, y, hO⟩, ⟨o1, e1, _, d1⟩, ⟨o2, e2, _, d2⟩⟩ := st
  refine mem5 (P := fun c => ∃ o, h.get? c = some o /\ ∀ v, o.data ≠ .cell v) ⟨_, e1, fun v z => ?_⟩ ⟨_, e2, fun v z => ?_⟩ ⟨_, hI, fun v z => ?_⟩ ⟨_, hO, fun v z => ?_⟩ ⟨_, hz, fun v z => ?_⟩ hc
  ·rw [d1] at z; cases z
  ·rw [d2] at z; cases z
  ·have z' : Data.seq _ _ = Data.cell v := z
   cases z'
  ·have z' : Data.seq _ _ = Data.cell v := z
   cases z'
  ·have z' : Data.fields _ = Data.cell v := z
   cases z'
 keep := fun i h h' st k => by
  obtain ⟨hz, hI, ⟨x, y, hO⟩, j1, j2⟩ := st
  exact ⟨k _ (by simp) _ hz, k _ (by simp) _ hI, ⟨x, y, k _ (by simp) _ hO⟩, j1.at fun o q => k _ (by simp) o q, j2.at fun o q => k _ (by simp) o q⟩
 item := by
  intro X hP hw hK hc i pins s σ H E I hf st hg
  subst hP hw hK
  obtain ⟨xs, ys, x, y, q1, q2, hx, hy⟩ := hg
  obtain ⟨it1, r1, p1, _⟩ := I.tuple q1
  obtain ⟨it2, r2, p2, _⟩ := I.tuple q2
  obtain ⟨u, hu, ru⟩ := r1.get hx
  obtain ⟨v, hv, rv⟩ := r2.get hy
  obtain ⟨hz, hI, ⟨x0, y0, hO⟩, j1, j2⟩ := st
  have D := apart5 ha hb
  have hT : s.TypeIs (.ref (n + 4)) "zip" := ⟨_, hz, rfl⟩
  have sz : n + 4 < s.heap.objs.size := Heap.lt_size hz
  unfold pyNext
  refine wpAny_bind (wpAny_attempt (wpAny_callSpecial?_slot (name := Str.ofString "__next__") hT F.slot_zip_next (wpAny_call_entry F.slot_zip_next hT F.entry_zip_next
   (zipT_item D hz hI hO j1 j2 (show s.heap.IsTuple a it1.toArray from p1) (show s.heap.IsTuple b it2.toArray from p2) (x := u) (y := v) (by simpa using hu) (by simpa using hv) fun h1 n1 n2 n3 n4 n5 n6 n7 => wpAny_pure ?_) (F.args_zip_next_1 _))))
  refine ⟨_, rfl, wpAny_letOwnedTupleGo_zip (s := { s with heap := h1 }) n1 fun h2 m1 m2 => ?_⟩
  have fr : H s.heap.objs.size = none := I.hok.fresh (Nat.le_refl _)
  have nw : ObjOk X.prog X.w (upd H s.heap.objs.size (.tup [x, y])) h2 s.heap.objs.size (.tup [x, y]) :=
   ⟨by show 2 <= sizeLine; decide, [u, v], .cons ru (.cons rv .nil), _, m2.extBut _ _ (Nat.ne_of_gt sz) n5, rfl, _, rfl⟩
  have hI2 : IsPair h1 (n + 2) (.ref n) (.ref (n + 1)) := n7 _ _ D.TIz D.TITO D.TIi1 D.TIi2 hI
  refine ⟨.ref s.heap.objs.size, _, I.turnLaid (t' := s.toks) (ch := [n, n + 1, n + 2, n + 3, n + 4]) hf (fun c o hc q => ?_) (Nat.le_refl _) nw, rfl, ⟨_, fr, rfl, fun xs' ys' h1 h2 => ⟨x, y, by rw [I.tuple_inj h1 q1]; exact hx, by rw [I.tuple_inj h2 q2]; exact hy, rfl⟩⟩,
   ⟨m1, m2.extBut _ _ D.TIz hI2, ⟨u, v, m2.extBut _ _ D.TOz n2⟩, n3.at fun o q => m2.extBut _ _ D.i1z q, n4.at fun o q => m2.extBut _ _ D.i2z q⟩, fun c hc => ?_⟩
  ·have z : ∀ d, d ∈ [n, n + 1, n + 2, n + 3, n + 4] -> c ≠ d := fun d hd q => hc (q ▸ hd)
   exact m2.extBut _ _ (z _ (by simp)) (n7 c o (z _ (by simp)) (z _ (by simp)) (z _ (by simp)) (z _ (by simp)) q)
  ·rw [upd_ne ?_]
   ·exact (hf c hc).1
   ·have lt : c <= n + 4 := mem5 (P := fun c => c <= n + 4) (by omega) (by omega) (by omega) (by omega) (Nat.le_refl _) hc
    exact Nat.ne_of_lt (Nat.lt_of_le_of_lt lt sz)
 done := by
  intro X hP hw hK hc i pins s σ H E I hf st hg
  subst hP hw hK
  obtain ⟨xs, q1, hx⟩ := hg
  obtain ⟨it1, r1, p1, _⟩ := I.tuple q1
  obtain ⟨hz, hI, ⟨x0, y0, hO⟩, j1, j2⟩ := st
  have D := apart5 ha hb
  have hT : s.TypeIs (.ref (n + 4)) "zip" := ⟨_, hz, rfl⟩
  have hl := r1.length
  unfold pyNext
  refine wpAny_bind (wpAny_attempt (wpAny_callSpecial?_slot (name := Str.ofString "__next__") hT F.slot_zip_next (wpAny_call_entry F.slot_zip_next hT F.entry_zip_next
   (zipT_end (I.ok.hd hc) D hz hI hO j1 (show s.heap.IsTuple a it1.toArray from p1) (by simp; omega) fun h1 x k1 hx1 => ?_) (F.args_zip_next_1 _))))
  obtain ⟨o, ho, hco⟩ := hx1
  refine wpAny_bind (wpAny_isInstance (T := "StopIteration") (b := true) ⟨o, ho, hco⟩ isSubtype_stop (wpAny_pure ?_))
  refine ⟨rfl, I.turnAll (t' := s.toks) (ch := [n, n + 1, n + 2, n + 3, n + 4]) hf fun c o hc q => ?_⟩
  have z : ∀ d, d ∈ [n, n + 1, n + 2, n + 3, n + 4] -> c ≠ d := fun d hd q => hc (q ▸ hd)
  exact k1 c o (z _ (by simp)) (z _ (by simp)) (z _ (by simp)) (z _ (by simp)) q
 self := fun _ _ _ _ _ st h => wpAny_pyIter_zip st.1 h
section
variable {X : Cx} {es : List Expr} {k1 : Nat} {tpos : Pos}
def iEnum (K : PySem.W.Frag) (ta : TA) : TI := fun σ H R => ta σ H fun vs H1 => ∃ a, vs = [.ref a] /\ (∃ xs, SqL K H1 a xs) /\ R (Itn K a) H1
def iZip (K : PySem.W.Frag) (ta : TA) : TI := fun σ H R => ta σ H fun vs H1 => ∃ a b, vs = [.ref a, .ref b] /\ (∃ xs, SqT K H1 a xs) /\ (∃ ys, SqT K H1 b ys) /\ R (Itz K a b) H1
theorem pi_enum {l : Expr} {ta : TA} {p pos : Pos} (hg : Gl X "enumerate") (hm : X.mg "enumerate" = none) (ha : PA X [l] ta) (hs : starEach [l] X.env = [(false, eval l X.env)] := by rfl) :
  PI X (.Tuple es k1 tpos) (.Call (.Name "enumerate" p) [l] [] pos) (iEnum X.K ta) := by
 intro pins s σ H R I h
 refine Call_ (ld_blt I hg hm boot_enumerate (PyProof.Rows.callWith_type1 (thn (ha pos pins s σ H _ I h) fun us s1 ⟨vs, H1, I1, r1, q1⟩ => ?_) hs rfl))
 obtain ⟨a, e, ⟨xs, hq⟩, q⟩ := q1
 subst e
 obtain ⟨u, rfl, ru⟩ := vals1 r1
 cases ru
 obtain ⟨its, rv, pl, hz⟩ := I1.list hq
 refine call_enumerate_list pl.isList fun h1 n1 n2 n3 n4 => ?_
 refine wpAny_pyIter_enum (s := { s1 with heap := h1 }) n1 ?_
 refine ⟨_, [s1.heap.objs.size + 1, s1.heap.objs.size], _, _, H1, rfl, I1.kept (t' := s1.toks) n4, turn_enum a _ _ (Nat.succ_ne_self _), ⟨⟨_, n1⟩, n2⟩, fun b hb => ?_, q⟩
 have lt : s1.heap.objs.size <= b := by
  rcases List.mem_cons.mp hb with rfl | hb
  ·exact Nat.le_succ _
  ·exact Nat.le_of_eq ((List.mem_singleton.mp hb).symm)
 exact I1.fpOk lt (I1.hok.fresh lt)
theorem pi_zipT {x y : Expr} {ta : TA} {p pos : Pos} (hg : Gl X "zip") (hm : X.mg "zip" = none) (ha : PA X [x, y] ta) (hs : starEach [x, y] X.env = [(false, eval x X.env), (false, eval y X.env)] := by rfl) (hs2 : starEach [y] X.env = [(false, eval y X.env)] := by rfl) :
  PI X (.Tuple es k1 tpos) (.Call (.Name "zip" p) [x, y] [] pos) (iZip X.K ta) := by
 intro pins s σ H R I h
 refine Call_ (ld_blt I hg hm boot_zip (PyProof.Rows.callWith_type1 (thn (ha pos pins s σ H _ I h) fun us s1 ⟨vs, H1, I1, r1, q1⟩ => ?_) (by rw [hs, hs2]) (by rw [hs2]; rfl)))
 obtain ⟨a, b, e, ⟨xs, q1⟩, ⟨ys, q2⟩, q⟩ := q1
 subst e
 obtain ⟨u, v, rfl, ru, rv⟩ := Vals.two r1
 cases ru
 cases rv
 obtain ⟨it1, r1, p1, _⟩ := I1.tuple q1
 obtain ⟨it2, r2, p2, _⟩ := I1.tuple q2
 refine call_zipT (show s1.heap.IsTuple a it1.toArray from p1) (show s1.heap.IsTuple b it2.toArray from p2) fun h1 n hn n1 n2 n3 n4 n5 n6 n7 => ?_
 refine wpAny_pyIter_zip (s := { s1 with heap := h1 }) n1 ?_
 have la : a < n := by rw [hn]; exact p1.lt
 have lb : b < n := by rw [hn]; exact p2.lt
 refine ⟨_, [n, n + 1, n + 2, n + 3, n + 4], _, _, H1, rfl, I1.kept (t' := s1.toks) n7, turn_zipT a b n la lb, ⟨n1, n2, ⟨_, _, n3⟩, n4, n5⟩, fun c hc => ?_, q⟩
 have lt : s1.heap.objs.size <= c := by
  rw [← hn]
  exact mem5 (P := fun c => n <= c) (by omega) (by omega) (by omega) (by omega) (by omega) hc
 exact I1.fpOk lt (I1.hok.fresh lt)
end
end L2
namespace L2
open PySem PySem.Spec PyProof.Rows
theorem loop_go {prog : Program} {w : World} {A : Around} {R : Result -> Shared -> Prop} {s : Shared} {elt tg iter : Expr} {ifs : List Expr} {scope : Scope} {pos : Pos} {it acc : Value} {env : Env} (J : Nat -> Shared -> Prop) {E : Value -> Shared -> Prop} (hE : E = notedBy (model prog w) A env fun e s' => R (.error e) s')
  (turn : ∀ n s, J n s -> wpAny (model prog w) A (pyNext it) (fun r s1 => match r with
   | none => R (.ok .next) s1
   | some v => wpAny (model prog w) A (letOwnedTupleGo tg it v) (fun _ s2 => wpAny (model prog w) A (assign tg env v) (fun _ s3 =>
     wpAny (model prog w) A (forIn ifs true fun c r => if r = true then do let ok ← isTrue c env (eval c env); pure (ForInStep.yield ok) else pure (ForInStep.yield r)) (fun ok s4 =>
      if ok = true then wpAny (model prog w) A (eval elt env) (fun x s5 => wpAny (model prog w) A (call (.builtin "list.append") [acc, x]) (fun _ s6 => ∃ m, m < n /\ J m s6) E s5) E s4
      else ∃ m, m < n /\ J m s4) E s3) E s2) E s1) E s) (n : Nat) (h : J n s) :
  codeAny (model prog w) A (.compLoop (.ListComp elt [⟨tg, iter, ifs, 0⟩] scope pos) 0 it acc env) R s := by
 subst hE
 refine codeAny_loop rfl J (fun n s hJ => (show wpAny _ A ((compTurn (.ListComp elt [⟨tg, iter, ifs, 0⟩] scope pos) 0 it acc env).onRaise (fun x => do noteFrame x env; theTreesLotGoes x)) _ _ s from wpAny_noted ?_)) n h
 rw [compTurn_list]
 refine wpAny_bind (wpAny_standAt (wpAny_bind (wpAny_mono (turn n s hJ) (fun r s1 h1 => ?_) fun _ _ q => q)))
 cases r with
 | none => exact wpAny_pure h1
 | some v =>
  refine wpAny_bind (wpAny_mono h1 (fun _ s2 h2 => wpAny_bind (wpAny_mono h2 (fun _ s3 h3 => wpAny_bind (wpAny_mono h3 (fun ok s4 h4 => ?_) fun _ _ q => q)) fun _ _ q => q)) fun _ _ q => q)
  cases ok with
  | false => exact wpAny_pure ⟨rfl, h4⟩
  | true => exact wpAny_bind (wpAny_bind (wpAny_mono h4 (fun x s5 h5 => wpAny_bind (wpAny_mono h5 (fun _ s6 h6 => wpAny_pure (wpAny_pure ⟨rfl, h6⟩)) fun _ _ q => q)) fun _ _ q => q))
def cxComp2 (X : Cx) (x z : Str) (scope : Scope) (C : Addr) (s₀ : Shared) (H₀ : Hp) (fp : List Addr) : Cx where
 prog := X.prog
 w := X.w
 K := X.K
 mg := X.mg
 base := X.base
 A := X.A
 N := x :: z :: X.N
 s₀ := s₀
 H₀ := H₀
 env := compEnvC scope (cloGo X.env scope.names []) C X.env
 outer := X.stack
 stack := X.stack
 ex := fp
 fn := fun _ => false
 calm := X.calm
 pn := []
 xe := fun _ _ => False
structure CompScope2 (X : Cx) (x z : Str) (scope : Scope) : Prop where
 kind : scope.kind = .function
 nocell : ∀ y ∈ scope.names, y.2 ≠ .cell
 names : ∀ y ∈ scope.names, y.2 = .local -> scope.names.lookup y.1 = some .local
 loc : scope.names.lookup x = some .local
 loz : scope.names.lookup z = some .local
 free : ∀ y ∈ scope.names, y.2 = .free -> X.env.kindOf y.1 = some .cell \/ X.env.kindOf y.1 = some .free
 nd : (x :: z :: X.N).Nodup
 only : ∀ y ∈ X.N, scope.names.lookup y ≠ some .local
section
variable {X : Cx} {pins : List (Addr × Obj)} {σ : St} {H : Hp} {s : Shared} {x z : Str} {scope : Scope} {fp : List Addr} {C : Addr}
theorem comp_start2 {h' : Heap} {tk : Nat} {m : Str -> Option Value} (I : Inv X pins σ H s) (S : CompScope2 X x z scope) (hf : ∀ b ∈ fp, FpOk X pins H b) (hlt : ∀ b ∈ fp, b < s.heap.objs.size) (hC : s.heap.objs.size <= C) (hn : h'.Ns C m)
  (hk : ∀ b o, s.heap.get? b = some o -> h'.get? b = some o) : Inv (cxComp2 X x z scope C s H fp) [] (none :: none :: σ) H { s with heap := h', toks := tk } := by
 have cl : ∀ y c, (cloGo X.env scope.names []).lookup y = some c -> X.env.cells.lookup y = some c := fun y c e => by
  rcases cloGo_sub X.env scope.names [] y c e with z | z
  ·cases z
  ·exact z
 have cellK : ∀ c v, s.heap.IsCell c v -> h'.IsCell c v := fun c v ⟨o, ho, hd⟩ => ⟨o, hk c o ho, hd⟩
 have look : ∀ y, (cxComp2 X x z scope C s H fp).env.scope.names.lookup y = (scope.names.lookup y).map fun k => if (k == NameKind.free && X.env.scope.kind == .function && X.env.kindOf y == some .cell) then NameKind.cell else k := fun y => relabel_lookup X.env y scope.names
 refine ⟨⟨I.ok.mod, S.kind, I.ok.glob, I.ok.blt, hC, fun y z c e1 e2 => I.ok.inj y z c (cl y c e1) (cl z c e2), fun y hy => ?_, fun y c e _ => (by cases e), fun h => I.ok.hd h, I.ok.frames, .inl rfl, fun b hb => ?_, I.bs, Nat.le_trans I.ok.bsz I.sz, fun b o e hb => ?_, fun b hb hb' => ?_, I.stack, I.stkFree⟩,
  rfl, I.bare, Un.kept hk, ⟨m, hn, fun i y v h1 h2 h3 => ?_⟩, fun y c e => ?_, I.hok.fresh hC, fun y c e => I.freeC y c (cl y c e), fun p hp => absurd (show p ∈ ([] : List (Addr × Obj)) from hp) (by simp), I.hok.kept hk, ?_⟩
 ·have hy' : (cxComp2 X x z scope C s H fp).env.scope.names.lookup y = some .cell \/ (cxComp2 X x z scope C s H fp).env.scope.names.lookup y = some .free := hy
  rw [look y] at hy'
  cases e : scope.names.lookup y with
  | none => rw [e] at hy'; rcases hy' with z | z <;> cases z
  | some k =>
   have hm := PySem.mem_of_lookup e
   have hfree : k = .free := by
    rw [e] at hy'
    cases k with
    | free => rfl
    | cell => exact absurd rfl (S.nocell _ hm)
    | _ => rcases hy' with z | z <;> simp at z
   subst hfree
   obtain ⟨c, hc⟩ := I.ok.has y (S.free _ hm rfl)
   exact Option.isSome_iff_exists.mp (cloGo_has X.env scope.names [] y hm (by rw [hc]; rfl))
 ·obtain ⟨f0, f1, f2, f3, f4, f5⟩ := hf b hb
  exact ⟨Nat.ne_of_lt (Nat.lt_of_lt_of_le (hlt b hb) hC), fun y c e => f4 y c (cl y c e)⟩
 ·obtain ⟨f0, f1, f2, f3, f4, f5⟩ := hf b hb
  rcases f3 with z | z
  ·exact I.ok.noex b o e z
  ·exact absurd (Nat.lt_of_lt_of_le (Heap.lt_size e) (Nat.le_trans I.ok.bsz z)) (Nat.lt_irrefl _)
 ·obtain ⟨f0, f1, f2, f3, f4, f5⟩ := hf b hb
  rcases List.mem_cons.mp (I.stkSub b hb') with e | e
  ·exact f1 e
  ·exact f2 e
 ·match i, h1, h2 with
  | 0, h1, h2 =>
   have h2' : (some none : Option (Option V)) = some (some v) := h2
   cases h2'
  | 1, h1, h2 =>
   have h2' : (some none : Option (Option V)) = some (some v) := h2
   cases h2'
  | i + 2, h1, h2 =>
   have e0 : X.N[i]? = some y := h1
   have h2' : σ[i]? = some (some v) := h2
   have hmem : y ∈ X.N := List.mem_of_getElem? e0
   have h3' : (cxComp2 X x z scope C s H fp).env.scope.names.lookup y = some .local \/ (cxComp2 X x z scope C s H fp).env.scope.names.lookup y = some .cell \/ (cxComp2 X x z scope C s H fp).env.scope.names.lookup y = some .free := h3
   rw [look y] at h3'
   cases e : scope.names.lookup y with
   | none => rw [e] at h3'; rcases h3' with z | z | z <;> cases z
   | some k =>
    have hm := PySem.mem_of_lookup e
    have hfree : k = .free := by
     rw [e] at h3'
     cases k with
     | free => rfl
     | cell => exact absurd rfl (S.nocell _ hm)
     | «local» => exact absurd e (S.only y hmem)
     | _ => rcases h3' with z | z | z <;> simp at z
    subst hfree
    have kd := S.free _ hm rfl
    obtain ⟨m0, hn0, hl0⟩ := I.loc
    obtain ⟨u, r, l⟩ := hl0 i y v e0 h2' (by rcases kd with z | z; exact .inr (.inl z); exact .inr (.inr z))
    refine ⟨u, r, .inr ⟨?_, ?_⟩⟩
    ·have hk' : (cxComp2 X x z scope C s H fp).env.scope.names.lookup y = some (if (NameKind.free == NameKind.free && X.env.scope.kind == .function && X.env.kindOf y == some .cell) then NameKind.cell else NameKind.free) := by
      rw [look y, e]; rfl
     by_cases c : (NameKind.free == NameKind.free && X.env.scope.kind == .function && X.env.kindOf y == some .cell) = true
     ·rw [if_pos c] at hk'; exact .inl hk'
     ·rw [if_neg c] at hk'; exact .inr hk'
    ·rcases l with ⟨lk, _⟩ | ⟨_, c, hc, hcell⟩
     ·exfalso
      rcases kd with z | z <;> (rw [show X.env.kindOf y = some NameKind.local from lk] at z; cases z)
     ·obtain ⟨c', hc'⟩ := Option.isSome_iff_exists.mp (cloGo_has X.env scope.names [] y hm (by rw [hc]; rfl))
      have := cl y c' hc'
      rw [hc] at this
      cases this
      exact ⟨c, hc', cellK c _ hcell⟩
 ·obtain ⟨v, z⟩ := I.cell y c (cl y c e)
  exact ⟨v, cellK c v z⟩
 ·show (none :: none :: σ).length = (x :: z :: X.N).length
  simp [I.len]
end
def CompOk2 (J : It) (σ : St) (H1 : Hp) (Q : VK) (g : TG) (tt : TT) (te : TE) : Prop := ∀ D, H1 D = none -> ∃ W : Nat -> Nat -> List V -> Hp -> Prop, (∃ m, W 0 m [] (upd H1 D (.lst []))) /\ ∀ i m ys H2, W i m ys H2 ->
 (J.stop i H2 /\ Q (.ref D) H2) \/ (J.go i H2 /\ ∀ x H3, J.yld i H2 x H3 -> ∀ v0 v1, g x (v0 :: v1 :: σ) H3 fun σ' H3' => (∃ w0 w1, σ' = w0 :: w1 :: σ) /\ tt σ' H3' fun b H4 =>
  if b = true then te σ' H4 fun y H5 => H5 D = some (.lst ys) /\ ys.length < sizeLine /\ ∃ m', m' < m /\ W (i + 1) m' (ys ++ [y]) (upd H5 D (.lst (ys ++ [y])))
  else ∃ m', m' < m /\ W (i + 1) m' ys H4)
def tComp2 (wi : TI) (g : TG) (tt : TT) (te : TE) : TE := fun σ H Q => wi σ H fun J H1 => CompOk2 J σ H1 Q g tt te
section
variable {X : Cx} {x z : Str} {scope : Scope}
theorem comp_block2 {tg : Expr} {pos : Pos} {iter elt : Expr} {ifs : List Expr} {g : TG} {tt : TT} {te : TE} {pins : List (Addr × Obj)} {σ : St} {s2 : Shared} {H2 : Hp} {it : Addr} {fp : List Addr} {tn : Nat -> Heap -> Prop} {J : It} {E : Value -> Shared -> Prop}
  {RR : Value -> Addr -> Result -> Shared -> Prop} {Q : VK}
  (hc : X.calm = true) (S : CompScope2 X x z scope) (hg : ∀ C s₀ H₀ fp, PG (cxComp2 X x z scope C s₀ H₀ fp) tg g) (ht : ∀ C s₀ H₀ fp, PIfs (cxComp2 X x z scope C s₀ H₀ fp) ifs tt) (he : ∀ C s₀ H₀ fp, PE (cxComp2 X x z scope C s₀ H₀ fp) elt te)
  (I2 : Inv X pins σ H2 s2) (T : Turn X.prog X.w X.K tg J fp it tn) (st2 : tn 0 s2.heap) (f2 : ∀ b ∈ fp, FpOk X pins H2 b) (q : CompOk2 J σ H2 Q g tt te)
  (hRR : ∀ D C s' H' m, s'.heap.Ns C m -> FpOk X pins H' C -> Inv X pins σ H' s' -> Q (.ref D) H' -> RR (.ref D) C (.ok .next) s') :
  wpAny (model X.prog X.w) X.A (newList []) (fun acc s₃ => wpAny (model X.prog X.w) X.A (newFunctionEnv scope X.env.globals (cloGo X.env scope.names []) [] X.env.qual none .none (some X.env)) (fun cenv s₄ =>
   codeAny (model X.prog X.w) X.A (.compStart (.ListComp elt [⟨tg, iter, ifs, 0⟩] scope pos) 0 (.ref it) acc { cenv with scope := relabel scope X.env }) (RR acc cenv.locals) s₄) E s₃) E s2 := by
 refine wpAny_newObj_type (wpAny_newFunctionEnv S.nocell (by intro y hy; simp at hy) (fun h₁ hns₁ hsb₁ => ?_) S.kind)
 have I3 := I2.lnew (its := []) (ys := []) (t' := s2.toks) .nil (Nat.zero_le _)
 have hD0 : H2 s2.heap.objs.size = none := I2.fresh
 obtain ⟨W, ⟨m0, w0⟩, turn⟩ := q _ hD0
 generalize hs3 : ({ s2 with heap := s2.heap.push { cls := .type "list", data := .seq ([] : List Value).toArray }, toks := s2.toks } : Shared) = s3 at I3
 have e3 : s3.heap = s2.heap.push { cls := .type "list", data := .seq ([] : List Value).toArray } := by rw [← hs3]
 have hlt : ∀ b ∈ fp, b < s2.heap.objs.size := fun b hb => let ⟨_, e, _⟩ := T.obj _ _ st2 b hb; Heap.lt_size e
 have hlt3 : ∀ b ∈ fp, b < s3.heap.objs.size := fun b hb => by rw [e3, Heap.size_push]; exact Nat.lt_succ_of_lt (hlt b hb)
 have f3 : ∀ b ∈ fp, FpOk X pins (upd H2 s2.heap.objs.size (.lst [])) b := fun b hb => ⟨by rw [upd_ne (Nat.ne_of_lt (hlt b hb))]; exact (f2 b hb).1, (f2 b hb).2⟩
 have hk1 : ∀ b o, s3.heap.get? b = some o -> h₁.get? b = some o := fun b o e => by
  have hne : b ≠ s3.heap.objs.size := Nat.ne_of_lt (Heap.lt_size e)
  rw [e3] at e hne
  exact hsb₁.extBut b o hne (Heap.get?_push_of_some _ e)
 have hC : s3.heap.objs.size = (s2.heap.push { cls := .type "list", data := .seq ([] : List Value).toArray }).objs.size := by rw [e3]
 have hns : h₁.Ns s3.heap.objs.size (fun x => ([] : List (Str × Value)).reverse.lookup x) := by rw [hC]; exact hns₁
 have st3 : tn 0 h₁ := T.keep _ _ _ st2 fun b hb o e => hk1 b o (by rw [e3]; exact Heap.get?_push_of_some _ e)
 have start : ∀ tk, Inv (cxComp2 X x z scope s3.heap.objs.size s3 (upd H2 s2.heap.objs.size (.lst [])) fp) [] (none :: none :: σ) (upd H2 s2.heap.objs.size (.lst [])) { s3 with heap := h₁, toks := tk } := fun tk =>
  comp_start2 I3 S f3 hlt3 (Nat.le_refl _) hns hk1
 have loop : ∀ tk, codeAny (model X.prog X.w) X.A (.compLoop (.ListComp elt [⟨tg, iter, ifs, 0⟩] scope pos) 0 (.ref it) (.ref s2.heap.objs.size) (compEnvC scope (cloGo X.env scope.names []) s3.heap.objs.size X.env))
   (RR (.ref s2.heap.objs.size) s3.heap.objs.size) { s3 with heap := h₁, toks := tk } := by
  intro tk
  refine loop_go (fun n s' => ∃ i ys v0 v1 H', Inv (cxComp2 X x z scope s3.heap.objs.size s3 (upd H2 s2.heap.objs.size (.lst [])) fp) [] (v0 :: v1 :: σ) H' s' /\ tn i s'.heap /\ (∀ b ∈ fp, H' b = none) /\ W i n ys H') rfl ?_ m0
   ⟨0, [], none, none, _, start tk, st3, fun b hb => (f3 b hb).1, w0⟩
  rintro n s4 ⟨i, ys, v0, v1, H4, I4, st4, fr4, w4⟩
  have stat : ∀ {H' : Hp}, (∀ b ∈ fp, H' b = none) -> ∀ b ∈ fp, FpOk (cxComp2 X x z scope s3.heap.objs.size s3 (upd H2 s2.heap.objs.size (.lst [])) fp) [] H' b := fun hn b hb => by
   refine ⟨hn b hb, (I4.ok.exf b hb).1, I4.ok.exfs b hb, .inl hb, (I4.ok.exf b hb).2, fun p hp => absurd (show p ∈ ([] : List (Addr × Obj)) from hp) (by simp)⟩
  rcases turn i n ys H4 w4 with ⟨stop, qn⟩ | ⟨go, step⟩
  ·refine thn (T.done (cxComp2 X x z scope s3.heap.objs.size s3 (upd H2 s2.heap.objs.size (.lst [])) fp) rfl rfl rfl hc i [] s4 (v0 :: v1 :: σ) H4 _ I4 (stat fr4) st4 stop) fun r s5 ⟨hr, I5⟩ => ?_
   subst hr
   obtain ⟨m, hn, _⟩ := I5.loc
   refine hRR _ _ s5 H4 m hn (I3.fpOk (Nat.le_refl _) I5.free) (I3.call' (s' := s5) (ch := fp) I5.os I5.base I5.hok I5.bare (fun b hb => ?_)) qn
   obtain ⟨_, g1, _, g3, g4, g5⟩ := f3 b hb
   exact ⟨g3, g1, g4, g5⟩
  ·refine thn (T.item (cxComp2 X x z scope s3.heap.objs.size s3 (upd H2 s2.heap.objs.size (.lst [])) fp) rfl rfl rfl hc i [] s4 (v0 :: v1 :: σ) H4 _ I4 (stat fr4) st4 go) fun r s5 ⟨u, hr, h5⟩ => ?_
   subst hr
   refine thn h5 fun _ s6 h6 => ?_
   obtain ⟨xv, H6, I6, r6, y6, st6, fr6⟩ := h6
   have I6' := I6.pinned (stat fr6) (T.obj _ _ st6)
   have again : ∀ {s7 : Shared} {H7 : Hp} {ys' : List V} {w0 w1 : Option V}, Inv (cxComp2 X x z scope s3.heap.objs.size s3 (upd H2 s2.heap.objs.size (.lst [])) fp) ([] ++ pinsAt fp s6.heap) (w0 :: w1 :: σ) H7 s7 -> (∃ m', m' < n /\ W (i + 1) m' ys' H7) ->
     ∃ m, m < n /\ ∃ i ys v0 v1 H', Inv (cxComp2 X x z scope s3.heap.objs.size s3 (upd H2 s2.heap.objs.size (.lst [])) fp) [] (v0 :: v1 :: σ) H' s7 /\ tn i s7.heap /\ (∀ b ∈ fp, H' b = none) /\ W i m ys H' := fun {s7 H7 ys' w0 w1} I7 hw => by
    obtain ⟨m', hm, w7⟩ := hw
    refine ⟨m', hm, i + 1, ys', w0, w1, H7, I7.unpinned, T.keep _ _ _ st6 fun b hb o e => (I7.pin (b, o) (List.mem_append_right _ (List.mem_append_right _ (mem_pinsAt hb e)))).1, fun b hb => ?_, w7⟩
    obtain ⟨o, e, d⟩ := T.obj _ _ st6 b hb
    exact (I7.pin (b, o) (List.mem_append_right _ (List.mem_append_right _ (mem_pinsAt hb e)))).2.1
   refine thnF (hg _ _ _ _ _ s6 (v0 :: v1 :: σ) H6 xv u _ I6' r6 (step xv H6 y6 v0 v1)) fun _ s7 ⟨σ7, H7, I7, ⟨w0, w1, e7⟩, q7⟩ => ?_
   subst e7
   refine thnF (ht _ _ _ _ _ s7 (w0 :: w1 :: σ) H7 _ I7 q7) fun b s8 ⟨H8, I8, q8⟩ => ?_
   cases b with
   | false =>
    rw [if_neg Bool.false_ne_true] at q8 ⊢
    exact again I8 q8
   | true =>
    rw [if_pos rfl] at q8 ⊢
    refine thnF (he _ _ _ _ _ s8 (w0 :: w1 :: σ) H8 _ I8 q8) fun y s9 ⟨yv, H9, I9, r9, hD9, hz9, q9⟩ => ?_
    refine thnF (mt_append (X := cxComp2 X x z scope s3.heap.objs.size s3 (upd H2 s2.heap.objs.size (.lst [])) fp) _ s9 (w0 :: w1 :: σ) H9 (.ref s2.heap.objs.size) [yv] (.ref s2.heap.objs.size) [y] (fun _ H' => H' = upd H9 s2.heap.objs.size (.lst (ys ++ [yv]))) I9 rfl (.cons r9 .nil)
     ⟨_, ys, yv, rfl, rfl, hD9, hz9, rfl⟩) fun _ s10 ⟨_, H10, I10, _, e10⟩ => ?_
    subst e10
    exact again I10 q9
 have key := fun tk => codeAny_compStart_list (R := RR (.ref s2.heap.objs.size) s3.heap.objs.size) (loop tk) (T.self X.A 0 { s3 with heap := h₁, toks := tk } (fun it' s' => codeAny (model X.prog X.w) X.A (.compLoop (.ListComp elt [⟨tg, iter, ifs, 0⟩] scope pos) 0 it' (.ref s2.heap.objs.size) (compEnvC scope (cloGo X.env scope.names []) s3.heap.objs.size X.env)) (RR (.ref s2.heap.objs.size) s3.heap.objs.size) s') _ st3 (loop tk))
 subst hs3
 exact key _
theorem pe_comp2 {tg : Expr} {pos : Pos} {iter elt : Expr} {ifs : List Expr} {wi : TI} {g : TG} {tt : TT} {te : TE} (hc : X.calm = true) (S : CompScope2 X x z scope) (hi : PI X tg iter wi) (hg : ∀ C s₀ H₀ fp, PG (cxComp2 X x z scope C s₀ H₀ fp) tg g)
  (ht : ∀ C s₀ H₀ fp, PIfs (cxComp2 X x z scope C s₀ H₀ fp) ifs tt) (he : ∀ C s₀ H₀ fp, PE (cxComp2 X x z scope C s₀ H₀ fp) elt te) (hs : ∀ x, foldedSetIterable iter X.env x = pure x := by intro _; rfl) :
  PE X (.ListComp elt [⟨tg, iter, ifs, 0⟩] scope pos) (tComp2 wi g tt te) := by
 intro pins s σ H Q I h
 rw [eval_ListComp]
 refine wpAny_comprehension_free (use := none) (cl := cloGo X.env scope.names []) rfl hs (closure_ok fun y hy hk => I.ok.has y.1 (S.free y hy hk)) S.kind S.names (thn (hi pins s σ H _ I h) fun v s1 h1 => thn h1 fun itv s2 h2 => ?_)
 obtain ⟨it, fp, tn, J, H2, e, I2, T, st2, f2, q⟩ := h2
 subst e
 refine comp_block2 (RR := fun acc C => compPost (model X.prog X.w) X.A X.xe none (EP X pins σ Q) acc C) (Q := Q) hc S hg ht he I2 T st2 f2 q ?_
 intro D C s' H' m hn hf hI hq
 exact ⟨m, hn, fun h' sb => ⟨.ref D, H', hI.sameBut hf sb, rfl, hq⟩⟩
end
end L2
namespace L2
open PySem PySem.Spec PySem.Calls PyProof.Rows
theorem Same.tup {K : PySem.W.Frag} {H H' : Hp} {a : Addr} {xs : List V} (e : Same H H') (h : SqT K H a xs) : SqT K H' a xs := by
 rcases h with (h | ⟨o, h⟩) | h
 ·exact .inl (.inl (e _ _ h))
 ·exact .inl (.inr ⟨o, e _ _ h⟩)
 ·exact .inr h
def TupAt (H : Hp) (zs : List V) (y : V) : Prop := ∃ T, y = .ref T /\ H T = some (.tup zs)
theorem TupAt.mono {H H' : Hp} {zs : List V} {y : V} (s : Same H H') (h : TupAt H zs y) : TupAt H' zs y := let ⟨T, e, q⟩ := h; ⟨T, e, s _ _ q⟩
theorem TupAt.upd {H : Hp} {zs ys ws : List V} {y : V} {D : Addr} (h : TupAt H zs y) (hD : H D = some (.lst ys)) : TupAt (upd H D (.lst ws)) zs y := by
 obtain ⟨T, e, q⟩ := h
 refine ⟨T, e, ?_⟩
 rw [upd_ne fun z => by rw [z, hD] at q; cases q]
 exact q
theorem paired_upd {α : Type} {H : Hp} {f : α -> List V} {l : List α} {vs ys ws : List V} {D : Addr} (h : Paired (fun a y => TupAt H (f a) y) l vs) (hD : H D = some (.lst ys)) : Paired (fun a y => TupAt (upd H D (.lst ws)) (f a) y) l vs := Paired.mapP h fun _ _ q => q.upd hD
theorem paired_mono {α : Type} {H H' : Hp} {f : α -> List V} {l : List α} {vs : List V} (s : Same H H') (h : Paired (fun a y => TupAt H (f a) y) l vs) : Paired (fun a y => TupAt H' (f a) y) l vs := Paired.mapP h fun _ _ q => q.mono s
def compChk2 (x z : Str) (scope osc : Scope) (N : List Str) : Bool :=
 (scope.kind == .function) && scope.names.all (fun y => y.2 != .cell && (y.2 != .local || scope.names.lookup y.1 == some .local) && (y.2 != .free || osc.names.lookup y.1 == some .cell || osc.names.lookup y.1 == some .free)) && (scope.names.lookup x == some .local) && (scope.names.lookup z == some .local) &&
 decide ((x :: z :: N).Nodup) && N.all (fun y => scope.names.lookup y != some .local)
theorem compScope2 {X : Cx} {x z : Str} {scope osc : Scope} {N : List Str} (hsc : X.env.scope = osc) (hN : X.N = N) (h : compChk2 x z scope osc N = true) : CompScope2 X x z scope := by
 unfold compChk2 at h
 simp only [Bool.and_eq_true] at h
 obtain ⟨⟨⟨⟨⟨h1, h2⟩, h3⟩, h3'⟩, h4⟩, h5⟩ := h
 rw [List.all_eq_true] at h2 h5
 have kind : ∀ y, X.env.kindOf y = osc.names.lookup y := fun y => by show X.env.scope.names.lookup y = _; rw [hsc]
 refine ⟨by simpa using h1, fun y hy => ?_, fun y hy hk => ?_, by simpa using h3, by simpa using h3', fun y hy hk => ?_, by rw [hN]; exact of_decide_eq_true h4, fun y hy => ?_⟩
 ·have := h2 y hy
  simp only [Bool.and_eq_true, bne_iff_ne] at this
  exact this.1.1
 ·have := h2 y hy
  simp only [Bool.and_eq_true] at this
  simpa [hk] using this.1.2
 ·have := h2 y hy
  simp only [Bool.and_eq_true] at this
  rw [kind]
  simpa [hk] using this.2
 ·have := h5 y (by rw [← hN]; exact hy)
  simpa using this
section
variable {X : Cx} {x z : Str} {scope : Scope}
theorem pg_pair {px pz pos : Pos} {k : Nat} {C : Addr} {s₀ : Shared} {H₀ : Hp} {fp : List Addr} (hc : X.calm = true) (S : CompScope2 X x z scope) :
  PG (cxComp2 X x z scope C s₀ H₀ fp) (.Tuple [.Name x px, .Name z pz] k pos) (gTup X.K 2 (gCons (gName 0) (gCons (gName 1) gNil))) := by
 have l1 : (cxComp2 X x z scope C s₀ H₀ fp).env.scope.names.lookup x = some .local := lookup_relabel_local S.loc
 have l2 : (cxComp2 X x z scope C s₀ H₀ fp).env.scope.names.lookup z = some .local := lookup_relabel_local S.loz
 exact pg_tup (X := cxComp2 X x z scope C s₀ H₀ fp) (n := 2) hc (pgs_cons (pg_name (X := cxComp2 X x z scope C s₀ H₀ fp) (i := 0) S.nd rfl (.inl l1) (.inr l1)) (pgs_cons (pg_name (X := cxComp2 X x z scope C s₀ H₀ fp) (i := 1) S.nd rfl (.inl l2) (.inr l2)) pgs_nil))
theorem pe_pair {px pz tpos : Pos} {k : Nat} {pos : Pos} {iter elt : Expr} {ifs : List Expr} {wi : TI} {tt : TT} {te : TE} (hc : X.calm = true) (S : CompScope2 X x z scope) (hi : PI X (.Tuple [.Name x px, .Name z pz] k tpos) iter wi)
  (ht : ∀ C s₀ H₀ fp, PIfs (cxComp2 X x z scope C s₀ H₀ fp) ifs tt) (he : ∀ C s₀ H₀ fp, PE (cxComp2 X x z scope C s₀ H₀ fp) elt te) (hs : ∀ x, foldedSetIterable iter X.env x = pure x := by intro _; rfl) :
  PE X (.ListComp elt [⟨.Tuple [.Name x px, .Name z pz] k tpos, iter, ifs, 0⟩] scope pos) (tComp2 wi (gTup X.K 2 (gCons (gName 0) (gCons (gName 1) gNil))) tt te) :=
 pe_comp2 hc S hi (fun _ _ _ _ => pg_pair hc S) ht he hs
end
section
variable {σ : St} {H1 : Hp} {Q : VK} {tt : TT} {te : TE}
theorem comp_sq {K : PySem.W.Frag} {a : Addr} {xs : List V} (p : V -> Bool) (f : V -> V) (hl : SqL K H1 a xs) (hz : xs.length < sizeLine)
  (ht : ∀ x ∈ xs, ∀ H, Same H1 H -> ∀ R : Bool -> Hp -> Prop, (∀ H', Same H H' -> R (p x) H') -> tt (some x :: σ) H R)
  (he : ∀ x ∈ xs, p x = true -> ∀ H, Same H1 H -> ∀ R : VK, (∀ H', Same H H' -> R (f x) H') -> te (some x :: σ) H R)
  (hq : ∀ D H, H1 D = none -> Same H1 H -> H D = some (.lst ((xs.filter p).map f)) -> Q (.ref D) H) : CompOk (Itl K a) σ H1 Q tt te :=
 comp_any p f hz (fun i H x hs hx => ⟨xs, x, hs.seq hl, hx⟩) (fun i H y H' hs _ hy => ⟨hy.1, hy.2 xs (hs.seq hl)⟩) (fun H hs => ⟨xs, hs.seq hl, Nat.le_refl _⟩) ht he hq
theorem comp_tupA {J : It} {xs : List V} (p : V -> Bool) (f : V -> List V) (hz : xs.length < sizeLine)
  (hgo : ∀ i H x, Same H1 H -> xs[i]? = some x -> J.go i H) (hy : ∀ i H y H', Same H1 H -> i < xs.length -> J.yld i H y H' -> H' = H /\ xs[i]? = some y) (hstop : ∀ H, Same H1 H -> J.stop xs.length H)
  (ht : ∀ x ∈ xs, ∀ H, Same H1 H -> ∀ R : Bool -> Hp -> Prop, (∀ H', Same H H' -> R (p x) H') -> tt (some x :: σ) H R)
  (he : ∀ x ∈ xs, p x = true -> ∀ H, Same H1 H -> ∀ R : VK, (∀ y H', Same H H' -> TupAt H' (f x) y -> R y H') -> te (some x :: σ) H R)
  (hq : ∀ D H ys, H1 D = none -> Same H1 H -> H D = some (.lst ys) -> Paired (fun x y => TupAt H (f x) y) (xs.filter p) ys -> Q (.ref D) H) : CompOk J σ H1 Q tt te := by
 intro D hD
 have s0 : Same H1 (upd H1 D (.lst [])) := fun b o e => by rw [upd_ne (ne_of_none e hD)]; exact e
 refine ⟨fun i m ys H => m = xs.length - i /\ i <= xs.length /\ H D = some (.lst ys) /\ Paired (fun x y => TupAt H (f x) y) ((xs.take i).filter p) ys /\ Same H1 H, ⟨xs.length, by simp, Nat.zero_le _, upd_same, by simpa using Paired.nil, s0⟩, ?_⟩
 rintro i m ys H ⟨rfl, hi, hd, hp, hs⟩
 by_cases hlt : i < xs.length
 ·obtain ⟨x, hx⟩ : ∃ x, xs[i]? = some x := ⟨xs[i], by simp [hlt]⟩
  refine .inr ⟨hgo i H x hs hx, fun y H3 hyl => ?_⟩
  obtain ⟨rfl, hy'⟩ := hy i H y H3 hs hlt hyl
  rw [hx] at hy'
  cases hy'
  have hm : x ∈ xs := List.mem_of_getElem? hx
  have hlen : ys.length < sizeLine := by
   rw [← hp.length]
   refine Nat.lt_of_le_of_lt (List.length_filter_le _ _) (Nat.lt_of_le_of_lt ?_ hz)
   rw [List.length_take]; omega
  refine ht x hm _ hs _ fun H4 s4 => ?_
  by_cases hpx : p x = true
  ·rw [if_pos hpx]
   refine he x hm hpx H4 (hs.trans s4) _ fun y H5 s5 hφ => ?_
   refine ⟨s5 _ _ (s4 _ _ hd), hlen, xs.length - (i + 1), by omega, rfl, hlt, upd_same, ?_, fun b o e => ?_⟩
   ·rw [take_succ_filter p xs i x hx, if_pos hpx]
    exact (paired_upd (paired_mono (s4.trans s5) hp) (s5 _ _ (s4 _ _ hd))).snoc (hφ.upd (s5 _ _ (s4 _ _ hd)))
   ·rw [upd_ne (ne_of_none e hD)]; exact s5 _ _ (s4 _ _ (hs _ _ e))
  ·rw [if_neg hpx]
   refine ⟨xs.length - (i + 1), by omega, rfl, hlt, s4 _ _ hd, ?_, hs.trans s4⟩
   rw [take_succ_filter p xs i x hx, if_neg hpx, List.append_nil]
   exact paired_mono s4 hp
 ·have e : i = xs.length := by omega
  subst e
  rw [List.take_length] at hp
  exact .inl ⟨hstop H hs, hq D H ys hD hs hd hp⟩
theorem comp_tup {K : PySem.W.Frag} {a : Addr} {xs : List V} (p : V -> Bool) (f : V -> List V) (hl : SqL K H1 a xs) (hz : xs.length < sizeLine)
  (ht : ∀ x ∈ xs, ∀ H, Same H1 H -> ∀ R : Bool -> Hp -> Prop, (∀ H', Same H H' -> R (p x) H') -> tt (some x :: σ) H R)
  (he : ∀ x ∈ xs, p x = true -> ∀ H, Same H1 H -> ∀ R : VK, (∀ y H', Same H H' -> TupAt H' (f x) y -> R y H') -> te (some x :: σ) H R)
  (hq : ∀ D H ys, H1 D = none -> Same H1 H -> H D = some (.lst ys) -> Paired (fun x y => TupAt H (f x) y) (xs.filter p) ys -> Q (.ref D) H) : CompOk (Itl K a) σ H1 Q tt te :=
 comp_tupA p f hz (fun i H x hs hx => ⟨xs, x, hs.seq hl, hx⟩) (fun i H y H' hs _ hy => ⟨hy.1, hy.2 xs (hs.seq hl)⟩) (fun H hs => ⟨xs, hs.seq hl, Nat.le_refl _⟩) ht he hq
theorem paired_range {α β : Type} {F : α -> β -> Prop} (g : Nat -> α) : ∀ {n : Nat} {l : List α} {ys : List β}, Paired F l ys -> l = (List.range n).map g -> Paired (fun i y => F (g i) y) (List.range n) ys := by
 intro n
 have key : ∀ (js : List Nat) (ys : List β), Paired F (js.map g) ys -> Paired (fun i y => F (g i) y) js ys := by
  intro js
  induction js with
  | nil => intro ys h; cases h; exact .nil
  | cons j js ih =>
   intro ys h
   cases h with
   | cons a b => exact .cons a (ih _ b)
 intro l ys h e
 subst e
 exact key _ _ h
theorem comp_tupR {n : Nat} (f : Nat -> List V) (hz : n < sizeLine)
  (he : ∀ i : Nat, i < n -> ∀ H, Same H1 H -> ∀ R : VK, (∀ y H', Same H H' -> TupAt H' (f i) y -> R y H') -> te (some (.int (i : Int)) :: σ) H R)
  (hq : ∀ D H ys, H1 D = none -> Same H1 H -> H D = some (.lst ys) -> Paired (fun i y => TupAt H (f i) y) (List.range n) ys -> Q (.ref D) H) : CompOk (Itr 0 n) σ H1 Q tYes te := by
 let g : V -> Nat := fun v => match v with | .int i => i.toNat | _ => 0
 have hxs : ∀ i : Nat, i < n -> ((List.range n).map fun (i : Nat) => V.int (i : Int))[i]? = some (.int i) := fun i hi => by simp [hi]
 refine comp_tupA (xs := (List.range n).map fun (i : Nat) => V.int (i : Int)) (fun _ => true) (fun v => f (g v)) (by simpa using hz) (fun i H x _ hx => ?_) (fun i H y H' _ hi hy => ?_) (fun H _ => ?_) (fun x hx H hs R k => k H (Same.refl H)) (fun x hx _ H hs R k => ?_) (fun D H ys h1 h2 h3 h4 => ?_)
 ·have : i < ((List.range n).map fun (i : Nat) => V.int (i : Int)).length := (List.getElem?_eq_some_iff.mp hx).1
  show i < n
  simpa using this
 ·obtain ⟨e1, e2⟩ := hy
  have hi' : i < n := by simpa using hi
  refine ⟨e1, ?_⟩
  rw [hxs i hi', e2, Int.zero_add]
 ·show n <= _
  simp
 ·obtain ⟨i, hi, rfl⟩ := List.mem_map.mp hx
  exact he i (List.mem_range.mp hi) H hs R k
 ·rw [List.filter_eq_self.mpr (fun _ _ => rfl)] at h4
  exact hq D H ys h1 h2 h3 (paired_range (F := fun x y => TupAt H (f (g x)) y) (fun i => V.int (i : Int)) h4 rfl)
theorem comp_zip {K : PySem.W.Frag} {a b : Addr} {xs ys : List V} (f : V -> V -> V) (hx : SqT K H1 a xs) (hy : SqT K H1 b ys) (hl : xs.length = ys.length) (hz : xs.length < sizeLine)
  (he : ∀ (i : Nat) x y, xs[i]? = some x -> ys[i]? = some y -> ∀ H, Same H1 H -> ∀ R : VK, (∀ H', Same H H' -> R (f x y) H') -> te (some x :: some y :: σ) H R)
  (hq : ∀ D H, H1 D = none -> Same H1 H -> H D = some (.lst (List.zipWith f xs ys)) -> Q (.ref D) H) : CompOk2 (Itz K a b) σ H1 Q (gTup K 2 (gCons (gName 0) (gCons (gName 1) gNil))) tYes te := by
 intro D hD
 have s0 : Same H1 (upd H1 D (.lst [])) := fun b o e => by rw [upd_ne (ne_of_none e hD)]; exact e
 refine ⟨fun i m zs H => m = xs.length - i /\ i <= xs.length /\ zs = (List.zipWith f xs ys).take i /\ H D = some (.lst zs) /\ Same H1 H, ⟨xs.length, by simp, Nat.zero_le _, by simp, upd_same, s0⟩, ?_⟩
 rintro i m zs H ⟨rfl, hi, rfl, hd, hs⟩
 have hzl : (List.zipWith f xs ys).length = xs.length := by rw [List.length_zipWith]; omega
 by_cases hlt : i < xs.length
 ·have ex : xs[i]? = some xs[i] := List.getElem?_eq_getElem hlt
  have ey : ys[i]? = some ys[i] := List.getElem?_eq_getElem (hl ▸ hlt)
  refine .inr ⟨⟨xs, ys, _, _, hs.tup hx, hs.tup hy, ex, ey⟩, fun v H3 hv v0 v1 => ?_⟩
  obtain ⟨T, hT, rfl, hv⟩ := hv
  obtain ⟨x, y, qx, qy, rfl⟩ := hv xs ys (hs.tup hx) (hs.tup hy)
  have s3 : Same H (upd H T (.tup [x, y])) := fun b o e => by rw [upd_ne (ne_of_none e hT)]; exact e
  refine ⟨T, [x, y], rfl, .inl (.inl upd_same), rfl, x, [y], rfl, y, [], rfl, rfl, ⟨_, _, rfl⟩, ?_⟩
  unfold tYes
  dsimp only
  rw [if_pos rfl]
  refine he i x y qx qy _ (hs.trans s3) _ fun H5 s5 => ?_
  refine ⟨s5 _ _ (s3 _ _ hd), ?_, xs.length - (i + 1), by omega, rfl, hlt, ?_, upd_same, fun b o e => ?_⟩
  ·rw [List.length_take, hzl]
   omega
  ·rw [List.take_add_one, List.getElem?_zipWith, qx, qy]
   rfl
  ·rw [upd_ne (ne_of_none e hD)]
   exact s5 _ _ (s3 _ _ (hs _ _ e))
 ·have e : i = xs.length := by omega
  subst e
  rw [← hzl, List.take_length] at hd
  exact .inl ⟨⟨xs, hs.tup hx, Nat.le_refl _⟩, hq D H hD hs hd⟩
theorem comp_enum {K : PySem.W.Frag} {a : Addr} {xs : List V} (p : Nat -> V -> Bool) (f : Nat -> V -> V) (hx : SqL K H1 a xs) (hz : xs.length < sizeLine)
  (ht : ∀ (i : Nat) x, xs[i]? = some x -> ∀ H, Same H1 H -> ∀ R : Bool -> Hp -> Prop, (∀ H', Same H H' -> R (p i x) H') -> tt (some (.int (i : Int)) :: some x :: σ) H R)
  (he : ∀ (i : Nat) x, xs[i]? = some x -> p i x = true -> ∀ H, Same H1 H -> ∀ R : VK, (∀ H', Same H H' -> R (f i x) H') -> te (some (.int (i : Int)) :: some x :: σ) H R)
  (hq : ∀ D H, H1 D = none -> Same H1 H -> H D = some (.lst ((xs.zipIdx.filter fun q => p q.2 q.1).map fun q => f q.2 q.1)) -> Q (.ref D) H) : CompOk2 (Itn K a) σ H1 Q (gTup K 2 (gCons (gName 0) (gCons (gName 1) gNil))) tt te := by
 intro D hD
 have s0 : Same H1 (upd H1 D (.lst [])) := fun b o e => by rw [upd_ne (ne_of_none e hD)]; exact e
 refine ⟨fun i m zs H => m = xs.length - i /\ i <= xs.length /\ zs = (((xs.zipIdx.take i).filter fun q => p q.2 q.1).map fun q => f q.2 q.1) /\ H D = some (.lst zs) /\ Same H1 H, ⟨xs.length, by simp, Nat.zero_le _, by simp, upd_same, s0⟩, ?_⟩
 rintro i m zs H ⟨rfl, hi, rfl, hd, hs⟩
 by_cases hlt : i < xs.length
 ·have ex : xs[i]? = some xs[i] := List.getElem?_eq_getElem hlt
  refine .inr ⟨⟨xs, _, hs.seq hx, ex⟩, fun v H3 hv v0 v1 => ?_⟩
  obtain ⟨T, hT, rfl, hv⟩ := hv
  obtain ⟨x, qx, rfl⟩ := hv xs (hs.seq hx)
  have s3 : Same H (upd H T (.tup [.int (i : Int), x])) := fun b o e => by rw [upd_ne (ne_of_none e hT)]; exact e
  have ez : xs.zipIdx[i]? = some (x, i) := by rw [List.getElem?_zipIdx, qx]; simp
  have hlen : (((xs.zipIdx.take i).filter fun q => p q.2 q.1).map fun q => f q.2 q.1).length < sizeLine := by
   rw [List.length_map]
   refine Nat.lt_of_le_of_lt (List.length_filter_le _ _) (Nat.lt_of_le_of_lt ?_ hz)
   rw [List.length_take, List.length_zipIdx]; omega
  refine ⟨T, [.int (i : Int), x], rfl, .inl (.inl upd_same), rfl, _, [x], rfl, x, [], rfl, rfl, ⟨_, _, rfl⟩, ?_⟩
  refine ht i x qx _ (hs.trans s3) _ fun H4 s4 => ?_
  by_cases hp : p i x = true
  ·rw [if_pos hp]
   refine he i x qx hp _ (hs.trans (s3.trans s4)) _ fun H5 s5 => ?_
   refine ⟨s5 _ _ (s4 _ _ (s3 _ _ hd)), hlen, xs.length - (i + 1), by omega, rfl, hlt, ?_, upd_same, fun b o e => ?_⟩
   ·rw [take_succ_filter (fun q : V × Nat => p q.2 q.1) xs.zipIdx i (x, i) ez, if_pos hp, List.map_append]
    rfl
   ·rw [upd_ne (ne_of_none e hD)]
    exact s5 _ _ (s4 _ _ (s3 _ _ (hs _ _ e)))
  ·rw [if_neg hp]
   refine ⟨xs.length - (i + 1), by omega, rfl, hlt, ?_, s4 _ _ (s3 _ _ hd), hs.trans (s3.trans s4)⟩
   rw [take_succ_filter (fun q : V × Nat => p q.2 q.1) xs.zipIdx i (x, i) ez, if_neg hp, List.append_nil]
 ·have e : i = xs.length := by omega
  subst e
  rw [List.take_of_length_le (by simp)] at hd
  exact .inl ⟨⟨xs, hs.seq hx, Nat.le_refl _⟩, hq D H hD hs hd⟩
end
theorem for_enum {K : PySem.W.Frag} {a : Addr} {xs : List V} {g : TG} {tb : TS} {D : Ends} {σ : St} {H : Hp} (Pv : Nat -> St -> Hp -> Prop) (h0 : Pv 0 σ H) (hl : ∀ i σ H, i <= xs.length -> Pv i σ H -> SqL K H a xs)
  (hb : ∀ (i : Nat) x σ H T, xs[i]? = some x -> Pv i σ H -> H T = none -> g (.ref T) σ (upd H T (.tup [.int (i : Int), x])) fun σ' H' => tb { D with nx := Pv (i + 1), ct := Pv (i + 1), bk := D.nx } σ' H')
  (hn : ∀ σ H, Pv xs.length σ H -> D.nx σ H) : ∃ W : Nat -> Nat -> St -> Hp -> Prop, (∃ m, W 0 m σ H) /\ ∀ i m σ H, W i m σ H ->
   ((Itn K a).stop i H /\ D.nx σ H) \/ ((Itn K a).go i H /\ ∃ N : St -> Hp -> Prop, (∀ σ H, N σ H -> ∃ m', m' < m /\ W (i + 1) m' σ H) /\ ∀ x H', (Itn K a).yld i H x H' -> g x σ H' fun σ' H'' => tb { D with nx := N, ct := N, bk := D.nx } σ' H'') := by
 refine ⟨fun i m σ H => m = xs.length - i /\ i <= xs.length /\ Pv i σ H, ⟨_, rfl, Nat.zero_le _, h0⟩, ?_⟩
 rintro i m σ H ⟨rfl, hi, hp⟩
 by_cases hlt : i < xs.length
 ·refine .inr ⟨⟨xs, _, hl i σ H hi hp, List.getElem?_eq_getElem hlt⟩, Pv (i + 1), fun σ' H' h => ⟨xs.length - (i + 1), by omega, rfl, hlt, h⟩, fun v H' hv => ?_⟩
  obtain ⟨T, hT, rfl, hv⟩ := hv
  obtain ⟨x, qx, rfl⟩ := hv xs (hl i σ H hi hp)
  exact hb i x σ H T qx hp hT
 ·have e : i = xs.length := by omega
  subst e
  exact .inl ⟨⟨xs, hl _ σ H hi hp, Nat.le_refl _⟩, hn σ H hp⟩
end L2
namespace L2
open PySem PySem.Spec PySem.Calls PyProof.Rows
section
variable {prog : Program} {w : World} {A : Around} {E : Value -> Shared -> Prop} {s : Shared} {K : PySem.W.Frag} {x C : Addr} {ox : Obj} {od : Option Obj} {name : Str} {tk : Tok} {R : Result -> Shared -> Prop}
end
end L2
namespace L2
open PySem PySem.Spec PySem.Calls PyProof.Rows
section
variable {prog : Program} {w : World} {A : Around} {E : Value -> Shared -> Prop} {K : PySem.W.Frag} {C : Addr} {h : Heap} {g : Array GenState} {d : Drawn} {t : Nat} {os : OsState}
end
end L2
namespace L2
open PySem PySem.Spec PySem.Calls PyProof.Rows
def ExcO (x C : Addr) (od : Option Addr) : HO := .ext fun h => ∃ (d : Data) (sl : Array (Option Value)), h.get? x = some ⟨.ref C, od, d, sl⟩ /\ PySem.W.notCls ⟨.ref C, od, d, sl⟩ = true
def XdO (dx : Addr) (fs : List (Str × V)) : HO := .ext fun h => ∃ mA, h.Ns1 dx mA /\ ∀ f, RelO (fs.lookup f) (mA f)
section
variable {P : Program} {w : World} {H H' : Hp} {h : Heap} {x C dx : Addr} {od : Option Addr} {fs : List (Str × V)}
inductive IsExc (H : Hp) (x C : Addr) : List (Str × V) -> Prop where
 | bare (e : H x = some (ExcO x C none)) : IsExc H x C []
 | full {dx : Addr} {fs : List (Str × V)} (e : H x = some (ExcO x C (some dx))) (d : H dx = some (XdO dx fs)) : IsExc H x C fs
end
section
variable {P : Program} {w : World} {X : Cx} {pins : List (Addr × Obj)} {σ : St} {H : Hp} {s : Shared} {h' : Heap} {a : Addr} {o : HO}
end
section
variable {X : Cx} {C : Addr} {x : Str} {e : Expr} {es : List Expr} {t : TA} {p pos : Pos}
end
section
variable {X : Cx} {e : Expr} {f : Str} {pos : Pos} {ta : TE}
end
section
variable {prog : Program} {w : World} {A : Around} {E : Value -> Shared -> Prop} {s : Shared} {K : PySem.W.Frag} {x C : Addr} {name : Str} {v : Value} {R : Result -> Shared -> Prop} {d : Data} {sl : Array (Option Value)}
end
section
variable {X : Cx} {pins : List (Addr × Obj)} {σ : St} {H : Hp} {s : Shared} {h' : Heap} {x C dx : Addr} {f : Str} {y : V} {u : Value}
end
section
variable {X : Cx} {o value : Expr} {f : Str} {pos pos' : Pos} {ta tv : TE}
end
section
variable {X : Cx} {C f : Addr} {fd : FuncData} {ps : List Str} {sp : Sp} {k : Nat} {x : Str} {e : Expr} {es : List Expr} {t : TA} {p pos : Pos}
end
section
variable {X : Cx}
end
end L2
namespace Wd
def mk (l : List Nat) : Nat := l.foldl (fun s n => s ||| 2 ^ n) 0
theorem foldl_bit (l : List Nat) : ∀ (s i : Nat), (l.foldl (fun s n => s ||| 2 ^ n) s).testBit i = (s.testBit i || decide (i ∈ l)) := by
 induction l with
 | nil => intro s i; simp
 | cons n l ih =>
  intro s i
  rw [List.foldl_cons, ih, Nat.testBit_or, Nat.testBit_two_pow]
  by_cases h : n = i
  ·subst h; simp
  ·have h' : ¬ i = n := fun e => h e.symm
   simp [h, h']
theorem mk_bit (l : List Nat) (i : Nat) : (mk l).testBit i = decide (i ∈ l) := by
 unfold mk; rw [foldl_bit]; simp
def len (n : Nat) : Nat := if n = 0 then 0 else n.log2 + 1
theorem lt_len {n i : Nat} (h : n.testBit i = true) : i < len n := by
 unfold len
 have h0 : n ≠ 0 := by intro e; subst e; simp at h
 rw [if_neg h0]
 have h1 : 2 ^ i <= n := Nat.ge_two_pow_of_testBit h
 have h2 : i <= n.log2 := (Nat.le_log2 h0).mpr h1
 omega
def mem (n : Nat) : List Nat := (List.range (len n)).filter n.testBit
theorem mem_iff {n i : Nat} : i ∈ mem n ↔ n.testBit i = true := by
 unfold mem
 rw [List.mem_filter, List.mem_range]
 exact ⟨fun h => h.2, fun h => ⟨lt_len h, h⟩⟩
theorem len_le {n k : Nat} (h : n < 2 ^ k) : len n <= k := by
 unfold len
 split
 ·omega
 ·rename_i h0
  have : n.log2 < k := (Nat.log2_lt h0).mpr h
  omega
def mv (n : Nat) (k : Int) (c : Nat) : Nat := (if 0 < k then n * 2 ^ k.toNat else n / 2 ^ (-k).toNat) % 2 ^ c
theorem mv_bit (n : Nat) (k : Int) (c i : Nat) : (mv n k c).testBit i = (decide (i < c) && (decide (0 <= (i : Int) - k) && n.testBit ((i : Int) - k).toNat)) := by
 unfold mv
 rw [Nat.testBit_mod_two_pow]
 congr 1
 split
 ·rename_i h
  rw [Nat.testBit_mul_two_pow]
  by_cases h1 : k.toNat <= i
  ·have e : ((i : Int) - k).toNat = i - k.toNat := by omega
   have e2 : (0 : Int) <= i - k := by omega
   rw [decide_eq_true e2, e]; simp [h1]
  ·have e2 : ¬ (0 : Int) <= i - k := by omega
   rw [decide_eq_false e2]; simp [h1]
 ·rename_i h
  rw [Nat.testBit_div_two_pow]
  have e : ((i : Int) - k).toNat = i + (-k).toNat := by omega
  have e2 : (0 : Int) <= i - k := by omega
  rw [decide_eq_true e2, e]; simp
def stay (l : List Nat) (k : Int) (c : Nat) : List Nat := l.filter fun n => decide (0 <= (n : Int) + k) && decide ((n : Int) + k < c)
theorem mk_lt {l : List Nat} (hb : ∀ n ∈ l, n < 1200) : mk l < 2 ^ 1200 := by
 refine Nat.lt_pow_two_of_testBit _ fun i hi => ?_
 rw [mk_bit]
 exact decide_eq_false fun h => absurd (hb i h) (by omega)
theorem mk_snoc (l : List Nat) (n : Nat) : mk (l ++ [n]) = mk l ||| 2 ^ n := by
 unfold mk; rw [List.foldl_append]; rfl
end Wd
namespace L2
open PySem PySem.Spec PySem.Calls PyProof.Rows
theorem vals_by : ∀ {xs : List V} {us : List Value}, xs.length = us.length -> (∀ (j : Nat) x u, xs[j]? = some x -> us[j]? = some u -> RelV x u) -> Vals xs us
 | [], [], _, _ => .nil
 | [], _ :: _, h, _ => by simp at h
 | _ :: _, [], h, _ => by simp at h
 | x :: xs, u :: us, h, f => .cons (f 0 x u rfl rfl) (vals_by (by simpa using h) fun j y v hy hv => f (j + 1) y v (by simpa using hy) (by simpa using hv))
def Itzl (K : PySem.W.Frag) (a b : Addr) : It :=
 ⟨fun i H => ∃ xs ys x y, SqL K H a xs /\ SqL K H b ys /\ xs[i]? = some x /\ ys[i]? = some y, fun i H v H' => ∃ T, H T = none /\ v = .ref T /\ ∀ xs ys, SqL K H a xs -> SqL K H b ys -> ∃ x y, xs[i]? = some x /\ ys[i]? = some y /\ H' = upd H T (.tup [x, y]),
  fun i H => ∃ xs ys, SqL K H a xs /\ SqL K H b ys /\ (xs.length <= i \/ ys.length <= i)⟩
theorem turn_zipL {P : Program} {w : World} {K : PySem.W.Frag} {es : List Expr} {k1 : Nat} {pos : Pos} (a b n : Nat) (ha : a < n) (hb : b < n) :
  Turn P w K (.Tuple es k1 pos) (Itzl K a b) [n, n + 1, n + 2, n + 3, n + 4] (n + 4) (fun i h => IsZip h (n + 4) (n + 2) (n + 3) .none /\ IsPair h (n + 2) (.ref n) (.ref (n + 1)) /\ (∃ x y, IsPair h (n + 3) x y) /\ h.IsListIter n a i /\ h.IsListIter (n + 1) b i) where
 mem := by simp
 obj := fun i h st c hc => by
  obtain ⟨hz, hI, ⟨x, y, hO⟩, ⟨o1, e1, _, d1⟩, ⟨o2, e2, _, d2⟩⟩ := st
  refine mem5 (P := fun c => ∃ o, h.get? c = some o /\ ∀ v, o.data ≠ .cell v) ⟨_, e1, fun v z => ?_⟩ ⟨_, e2, fun v z => ?_⟩ ⟨_, hI, fun v z => ?_⟩ ⟨_, hO, fun v z => ?_⟩ ⟨_, hz, fun v z => ?_⟩ hc
  ·rw [d1] at z; cases z
  ·rw [d2] at z; cases z
  ·have z' : Data.seq _ _ = Data.cell v := z
   cases z'
  ·have z' : Data.seq _ _ = Data.cell v := z
   cases z'
  ·have z' : Data.fields _ = Data.cell v := z
   cases z'
 keep := fun i h h' st k => by
  obtain ⟨hz, hI, ⟨x, y, hO⟩, j1, j2⟩ := st
  exact ⟨k _ (by simp) _ hz, k _ (by simp) _ hI, ⟨x, y, k _ (by simp) _ hO⟩, j1.at fun o q => k _ (by simp) o q, j2.at fun o q => k _ (by simp) o q⟩
 item := by
  intro X hP hw hK hc i pins s σ H E I hf st hg
  subst hP hw hK
  obtain ⟨xs, ys, x, y, q1, q2, hx, hy⟩ := hg
  obtain ⟨it1, r1, p1, _⟩ := I.list q1
  obtain ⟨it2, r2, p2, _⟩ := I.list q2
  obtain ⟨u, hu, ru⟩ := r1.get hx
  obtain ⟨v, hv, rv⟩ := r2.get hy
  obtain ⟨hz, hI, ⟨x0, y0, hO⟩, j1, j2⟩ := st
  have D := apart5 ha hb
  have sz : n + 4 < s.heap.objs.size := Heap.lt_size hz
  refine wpAny_pyNext_zip_item D hz hI hO j1 j2 p1.isList p2.isList (x := u) (y := v) (by simpa using hu) (by simpa using hv) fun h1 n1 n2 n3 n4 n5 n6 n7 => ?_
  refine ⟨_, rfl, wpAny_letOwnedTupleGo_zip (s := { s with heap := h1 }) n1 fun h2 m1 m2 => ?_⟩
  have fr : H s.heap.objs.size = none := I.hok.fresh (Nat.le_refl _)
  have nw : ObjOk X.prog X.w (upd H s.heap.objs.size (.tup [x, y])) h2 s.heap.objs.size (.tup [x, y]) :=
   ⟨by show 2 <= sizeLine; decide, [u, v], .cons ru (.cons rv .nil), _, m2.extBut _ _ (Nat.ne_of_gt sz) n5, rfl, _, rfl⟩
  have hI2 : IsPair h1 (n + 2) (.ref n) (.ref (n + 1)) := n7 _ _ D.TIz D.TITO D.TIi1 D.TIi2 hI
  refine ⟨.ref s.heap.objs.size, _, I.turnLaid (t' := s.toks) (ch := [n, n + 1, n + 2, n + 3, n + 4]) hf (fun c o hc q => ?_) (Nat.le_refl _) nw, rfl, ⟨_, fr, rfl, fun xs' ys' h1 h2 => ⟨x, y, by rw [I.list_inj h1 q1]; exact hx, by rw [I.list_inj h2 q2]; exact hy, rfl⟩⟩,
   ⟨m1, m2.extBut _ _ D.TIz hI2, ⟨u, v, m2.extBut _ _ D.TOz n2⟩, n3.at fun o q => m2.extBut _ _ D.i1z q, n4.at fun o q => m2.extBut _ _ D.i2z q⟩, fun c hc => ?_⟩
  ·have z : ∀ d, d ∈ [n, n + 1, n + 2, n + 3, n + 4] -> c ≠ d := fun d hd q => hc (q ▸ hd)
   exact m2.extBut _ _ (z _ (by simp)) (n7 c o (z _ (by simp)) (z _ (by simp)) (z _ (by simp)) (z _ (by simp)) q)
  ·rw [upd_ne ?_]
   ·exact (hf c hc).1
   ·have lt : c <= n + 4 := mem5 (P := fun c => c <= n + 4) (by omega) (by omega) (by omega) (by omega) (Nat.le_refl _) hc
    exact Nat.ne_of_lt (Nat.lt_of_le_of_lt lt sz)
 done := by
  intro X hP hw hK hc i pins s σ H E I hf st hg
  subst hP hw hK
  obtain ⟨xs, ys, q1, q2, hx⟩ := hg
  obtain ⟨it1, r1, p1, _⟩ := I.list q1
  obtain ⟨it2, r2, p2, _⟩ := I.list q2
  obtain ⟨hz, hI, ⟨x0, y0, hO⟩, j1, j2⟩ := st
  have D := apart5 ha hb
  have l1 := r1.length
  have l2 := r2.length
  refine wpAny_pyNext_zip_end (I.ok.hd hc) D hz hI hO j1 j2 p1.isList p2.isList (by rcases hx with h | h; exact .inl (by simp; omega); exact .inr (by simp; omega)) fun h1 k1 => ?_
  refine ⟨rfl, I.turnAll (t' := s.toks) (ch := [n, n + 1, n + 2, n + 3, n + 4]) hf fun c o hc q => ?_⟩
  have z : ∀ d, d ∈ [n, n + 1, n + 2, n + 3, n + 4] -> c ≠ d := fun d hd q => hc (q ▸ hd)
  exact k1 c o (z _ (by simp)) (z _ (by simp)) (z _ (by simp)) (z _ (by simp)) q
 self := fun _ _ _ _ _ st h => wpAny_pyIter_zip st.1 h
section
variable {X : Cx} {es : List Expr} {k1 : Nat} {tpos : Pos}
def iZipL (K : PySem.W.Frag) (ta : TA) : TI := fun σ H R => ta σ H fun vs H1 => ∃ a b, vs = [.ref a, .ref b] /\ (∃ xs, SqL K H1 a xs) /\ (∃ ys, SqL K H1 b ys) /\ R (Itzl K a b) H1
theorem pi_zipL {x y : Expr} {ta : TA} {p pos : Pos} (hg : Gl X "zip") (hm : X.mg "zip" = none) (ha : PA X [x, y] ta) (hs : starEach [x, y] X.env = [(false, eval x X.env), (false, eval y X.env)] := by rfl) (hs2 : starEach [y] X.env = [(false, eval y X.env)] := by rfl) :
  PI X (.Tuple es k1 tpos) (.Call (.Name "zip" p) [x, y] [] pos) (iZipL X.K ta) := by
 intro pins s σ H R I h
 refine Call_ (ld_blt I hg hm boot_zip (PyProof.Rows.callWith_type1 (thn (ha pos pins s σ H _ I h) fun us s1 ⟨vs, H1, I1, r1, q1⟩ => ?_) (by rw [hs, hs2]) (by rw [hs2]; rfl)))
 obtain ⟨a, b, e, ⟨xs, q1⟩, ⟨ys, q2⟩, q⟩ := q1
 subst e
 obtain ⟨u, v, rfl, ru, rv⟩ := Vals.two r1
 cases ru
 cases rv
 obtain ⟨it1, r1, p1, _⟩ := I1.list q1
 obtain ⟨it2, r2, p2, _⟩ := I1.list q2
 have l1 : a < s1.heap.objs.size := by obtain ⟨_, e, _⟩ := p1.isList; exact Heap.lt_size e
 have l2 : b < s1.heap.objs.size := by obtain ⟨_, e, _⟩ := p2.isList; exact Heap.lt_size e
 refine call_zip_2 p1.isList p2.isList fun h1 n1 n2 n3 n4 n5 n6 n7 => ?_
 refine wpAny_pyIter_zip (s := { s1 with heap := h1 }) n1 ?_
 refine ⟨_, [s1.heap.objs.size, s1.heap.objs.size + 1, s1.heap.objs.size + 2, s1.heap.objs.size + 3, s1.heap.objs.size + 4], _, _, H1, rfl, I1.kept (t' := s1.toks) n7, turn_zipL a b s1.heap.objs.size l1 l2, ⟨n1, n2, ⟨_, _, n3⟩, n4, n5⟩, fun c hc => ?_, q⟩
 have lt : s1.heap.objs.size <= c := mem5 (P := fun c => s1.heap.objs.size <= c) (by omega) (by omega) (by omega) (by omega) (by omega) hc
 exact I1.fpOk lt (I1.hok.fresh lt)
theorem for_zipL {K : PySem.W.Frag} {a b : Addr} {xs ys : List V} {g : TG} {tb : TS} {D : Ends} {σ : St} {H : Hp} (Pv : Nat -> St -> Hp -> Prop) (h0 : Pv 0 σ H) (hl : ∀ i σ H, i <= xs.length -> Pv i σ H -> SqL K H a xs /\ SqL K H b ys)
  (hb : ∀ (i : Nat) x y σ H T, xs[i]? = some x -> ys[i]? = some y -> Pv i σ H -> H T = none -> g (.ref T) σ (upd H T (.tup [x, y])) fun σ' H' => tb { D with nx := Pv (i + 1), ct := Pv (i + 1), bk := D.nx } σ' H')
  (hn : ∀ i σ H, Pv i σ H -> D.nx σ H) : ∃ W : Nat -> Nat -> St -> Hp -> Prop, (∃ m, W 0 m σ H) /\ ∀ i m σ H, W i m σ H ->
   ((Itzl K a b).stop i H /\ D.nx σ H) \/ ((Itzl K a b).go i H /\ ∃ N : St -> Hp -> Prop, (∀ σ H, N σ H -> ∃ m', m' < m /\ W (i + 1) m' σ H) /\ ∀ x H', (Itzl K a b).yld i H x H' -> g x σ H' fun σ' H'' => tb { D with nx := N, ct := N, bk := D.nx } σ' H'') := by
 refine ⟨fun i m σ H => m = xs.length - i /\ i <= xs.length /\ Pv i σ H, ⟨_, rfl, Nat.zero_le _, h0⟩, ?_⟩
 rintro i m σ H ⟨rfl, hi, hp⟩
 obtain ⟨q1, q2⟩ := hl i σ H hi hp
 by_cases hlt : i < xs.length /\ i < ys.length
 ·refine .inr ⟨⟨xs, ys, _, _, q1, q2, List.getElem?_eq_getElem hlt.1, List.getElem?_eq_getElem hlt.2⟩, Pv (i + 1), fun σ' H' h => ⟨xs.length - (i + 1), by omega, rfl, hlt.1, h⟩, fun v H' hv => ?_⟩
  obtain ⟨T, hT, rfl, hv⟩ := hv
  obtain ⟨x, y, qx, qy, rfl⟩ := hv xs ys q1 q2
  exact hb i x y σ H T qx qy hp hT
 ·exact .inl ⟨⟨xs, ys, q1, q2, by omega⟩, hn i σ H hp⟩
theorem call_list_dict (hc : X.calm = true) : CallR X (.type "list") (fun xs H Q => ∃ (a : Addr) (kvs : List (Key × V)) (js : List Int), xs = [V.ref a] /\ H a = some (.dK kvs) /\ kvs.map (·.1) = js.map Sum.inl /\ ∀ l, H l = none -> Q (.ref l) (upd H l (.lst (js.map V.int)))) := by
 intro pins s σ H xs us Q I r h
 obtain ⟨a, kvs, js, rfl, ha, hj, q⟩ := h
 obtain ⟨u, rfl, ru⟩ := vals1 r
 cases ru
 obtain ⟨hz, lo, vs, rel, o, es, ep, e1, e2, e3, e4, e5, e6⟩ := I.hok a _ ha
 have hl : kvs.length = vs.length := Paired.length rel
 have hda : s.heap.DictAt (mixKind X.prog X.w) a vs ep := ⟨o, es, e1, e2, e3, e4, e5, e6⟩
 refine PySem.W.kdl_call (PySem.W.kdl_dict (knd := mixKind X.prog X.w) (kvs := vs) (ep := ep) lo) (I.ok.hd hc) hda (by omega) ?_
 intro h' tk acc' c' hk hD hacc
 have hjl : js.length = vs.length := by
  have := congrArg List.length hj
  rw [List.length_map, List.length_map] at this
  omega
 have hv : Vals (js.map V.int) acc'.toList := by
  refine vals_by (by have h1 : acc'.toList.length = acc'.size := Array.length_toList; have h2 := hacc.1; rw [List.length_map]; omega) fun j x u hx hu => ?_
  rw [Array.getElem?_toList] at hu
  obtain ⟨k, y, hk1, hk2⟩ := hacc.2 j u hu
  rw [List.getElem?_map] at hx
  obtain ⟨i, hi, rfl⟩ := Option.map_eq_some_iff.mp hx
  have e1 : (kvs.map (·.1))[j]? = some (Sum.inl i) := by rw [hj, List.getElem?_map, hi]; rfl
  rw [List.getElem?_map] at e1
  obtain ⟨kv, hkv, ekv⟩ := Option.map_eq_some_iff.mp e1
  have rel' : ∀ {l : List (Key × V)} {m : List (Key × Value)}, KV l m -> ∀ {j : Nat} {p q}, l[j]? = some p -> m[j]? = some q -> p.1 = q.1 := by
   intro l m h
   unfold KV at h
   induction h with
   | nil => intro j p q hp; simp at hp
   | cons a b ih =>
    intro j p q hp hq
    cases j with
    | zero =>
     simp at hp hq
     subst hp hq
     exact a.1
    | succ j => exact ih (by simpa using hp) (by simpa using hq)
  have e2 := rel' rel hkv hk1
  rw [ekv] at e2
  have e3 : k = Sum.inl i := e2.symm
  subst e3
  rcases keyIs_shape (show keyIs (Sum.inl i) u = true from hk2) with ⟨i', t, e, rfl⟩ | ⟨x, t, e, _⟩
  ·cases e
   exact ⟨t, rfl⟩
  ·cases e
 refine ⟨.ref s.heap.objs.size, _, I.laid (t' := tk) (o := .lst (js.map V.int)) hk (Nat.le_refl _) ⟨by rw [List.length_map]; omega, acc'.toList, c', hv, by simpa using hD⟩, rfl, q _ (I.hok.fresh (Nat.le_refl _))⟩
theorem mt_bits' : MtR X "int.bit_length" (fun x xs H Q => ∃ i, x = V.int i /\ xs = [] /\ Q (.int (Builtin.Int.intBits i)) H) := by
 intro pins s σ H x xs v us Q I rx r h
 obtain ⟨i, rfl, rfl, q⟩ := h
 obtain ⟨t, rfl⟩ := rx
 cases r
 exact PyProof.Rows.call_int_bit_length ⟨.int _, H, I.tok _, ⟨_, rfl⟩, q⟩
end
theorem or_nat' (a b : Nat) : Builtin.bitOr (a : Int) (b : Int) = ((a ||| b : Nat) : Int) := by
 have h1 : ¬ 0 <= Builtin.bitNot (a : Int) := by unfold Builtin.bitNot; omega
 have h2 : ¬ 0 <= Builtin.bitNot (b : Int) := by unfold Builtin.bitNot; omega
 have nn : ∀ x : Int, Builtin.bitNot (Builtin.bitNot x) = x := fun x => by unfold Builtin.bitNot; omega
 unfold Builtin.bitOr
 rw [bitAnd_nn h1 h2, nn, nn, nn]
 simp
theorem and_nat' (a b : Nat) : Builtin.bitAnd (a : Int) (b : Int) = ((a &&& b : Nat) : Int) := by
 rw [bitAnd_pp (Int.natCast_nonneg a) (Int.natCast_nonneg b)]
 simp
theorem bits_nat' (n : Nat) : Builtin.Int.intBits (n : Int) = Wd.len n := by
 unfold Builtin.Int.intBits Wd.len
 by_cases h : n = 0
 ·subst h; rfl
 ·have h' : ((n : Int) == 0) = false := by simpa using h
  rw [h', if_neg h]
  simp
theorem pow_nat' (k : Nat) : (2 : Int) ^ k = ((2 ^ k : Nat) : Int) := by simp
end L2
namespace Wd
open PySem
abbrev Ris (xs : Array Nat) : Prop := xs.toList.Pairwise (· < ·)
structure Good (t : SetTable) (led : Bool) : Prop where
 led : t.led = led
 ris : t.plain = true -> Ris t.place
end Wd
namespace Wd
open PySem PySem.Spec PyProof.Rows
def SetG (prog : Program) (w : World) (h : Heap) (a : Addr) (led : Bool) (σ : List Int) : Prop :=
 ∃ es ep t, h.get? a = some { cls := .type "set", dict := none, data := .set es ep t } /\ ElemsOf (intKind prog w) es.toList /\ (∀ k, k ∈ σ ↔ ∃ e ∈ es.toList, (intKind prog w).is k e.2 = true) /\ es.size = σ.length /\ σ.Nodup /\
  σ.length < scanBound /\ t.fits es.size = true /\ Good t led
section
variable {prog : Program} {w : World} {A : Around} {E : Value -> Shared -> Prop} {s : Shared} {a : Addr} {led : Bool} {σ : List Int} {k : Int} {tk : Tok}
end
end Wd
namespace Wd
open PySem PySem.Spec PyProof.Rows
section
variable {prog : Program} {w : World} {A : Around} {R : Result -> Shared -> Prop} {I : Addr} {fp wr : List Addr} {G : Array GenState -> Array GenState -> Prop} {n : Nat} {P : Nat -> Value -> Prop} {St : Nat -> Shared -> Prop} {led : Bool}
end
section
variable {prog : Program} {w : World} {A : Around} {E : Value -> Shared -> Prop} {s : Shared}
abbrev ledOf (w : World) : Bool := !w.params.followText "set-order"
end
end Wd
namespace Wd
open PySem PySem.Spec PyProof.Rows
end Wd
namespace Wd
open PySem PySem.Spec PyProof.Rows
section
variable {M : Model} {A : Around} {E : Value -> Shared -> Prop}
end
inductive Way (w : World) (a : Addr) (es : Array (Int × Value)) (ep : Nat) (t : SetTable) (h : Heap) : (Nat -> Value) -> List Value -> List Addr -> Prop where
 | text (hb : w.params.followText "set-order" = true) : Way w a es ep t h (fun _ => rawInt 0) ((pickOrder (w.params.setOrder a ep) es).toList.map (·.2)) []
 | drawn {tp : Addr} {ps : List Nat} (hb : w.params.followText "set-order" = false) (hp : ps.Perm (List.range es.size)) (ht : ∃ n, h.get? tp = some { cls := .type "tuple", data := .seq (ps.map fun (i : Nat) => rawInt i).toArray n }) :
   Way w a es ep t h (fun _ => .ref tp) (ps.map fun i => (es.getD i (0, .none)).2) [tp]
 | plain (hb : w.params.followText "set-order" = false) (hd : (!t.plain && decide (es.size > 1)) = false) (hl : t.led = true) (hr : Ris t.place) (hs : t.place.size = es.size) :
   Way w a es ep t h (fun i => rawInt (if i = 0 then 0 else t.place.getD (i - 1) 0 + 1 : Nat)) (es.toList.map (·.2)) []
section
variable {prog : Program} {w : World} {A : Around} {E : Value -> Shared -> Prop} {s : Shared} {a it : Addr} {es : Array (Int × Value)} {ep : Nat} {t : SetTable} {first : Nat -> Value} {vs : List Value} {more : List Addr}
end
end Wd
section PartSetJ
set_option maxHeartbeats 1000000
namespace Wd
open PySem PySem.Spec PyProof.Rows
section
variable {prog : Program} {w : World} {A : Around} {E : Value -> Shared -> Prop} {s : Shared} {a : Addr} {σ : List Int}
end
end Wd
end PartSetJ
section PartSetK
set_option maxHeartbeats 1000000
namespace Wd
open PySem PySem.Spec PyProof.Rows
section
variable {prog : Program} {w : World} {A : Around} {E : Value -> Shared -> Prop} {s : Shared} {a : Addr} {σ : List Int}
end
end Wd
end PartSetK
namespace L2
open PySem PySem.Spec PyProof.Rows
def SetO (P : Program) (w : World) (a : Addr) (τ : List Int) : HO := .ext fun h => Wd.SetG P w h a (Wd.ledOf w) τ
section
variable {X : Cx} {pins : List (Addr × Obj)} {σ : St} {H : Hp} {s : Shared} {h' : Heap} {a : Addr} {o : HO}
theorem op_shlB : OpR X (binaryOp .LShift) (rI (fun i j => 0 <= j /\ (Builtin.Int.intBits i : Int) + j <= 2 ^ 27) fun i j => .int (i * 2 ^ j.toNat)) := opI fun _ _ _ _ _ _ _ hc q => lshift_int hc.1 hc.2 q
end
theorem or_nat (a b : Nat) : Builtin.bitOr (a : Int) (b : Int) = ((a ||| b : Nat) : Int) := by
 have h1 : ¬ 0 <= Builtin.bitNot (a : Int) := by unfold Builtin.bitNot; omega
 have h2 : ¬ 0 <= Builtin.bitNot (b : Int) := by unfold Builtin.bitNot; omega
 have nn : ∀ x : Int, Builtin.bitNot (Builtin.bitNot x) = x := fun x => by unfold Builtin.bitNot; omega
 unfold Builtin.bitOr
 rw [bitAnd_nn h1 h2, nn, nn, nn]
 simp
end L2
namespace L2
open PySem PySem.Spec PyProof.Rows
section
variable {X : Cx}
end
section
variable {prog : Program} {w : World} {A : Around} {E : Value -> Shared -> Prop} {s : Shared} {r l : Addr}
end
section
variable {X : Cx} {p1 p2 q1 q2 : Pos} {e : Expr} {te : TE}
end
end L2
namespace L2
open PySem PySem.Spec PyProof.Rows
def Itv (K : PySem.W.Frag) (a : Addr) (xs : List V) : It :=
 ⟨fun i H => SqL K H a xs /\ i < xs.length, fun i H x H' => H' = H /\ xs[xs.length - 1 - i]? = some x, fun i H => SqL K H a xs /\ i = xs.length⟩
theorem turn_rev {P : Program} {w : World} {K : PySem.W.Frag} {tg : Expr} (a it : Addr) (xs : List V) : Turn P w K tg (Itv K a xs) [it] it (fun i h => h.IsRevIter it a ((xs.length : Int) - 1 - (i : Nat))) where
 mem := by simp
 obj := fun i h st b hb => by
  have e : b = it := by simpa using hb
  subst e
  obtain ⟨o, e, c, d⟩ := st
  exact ⟨o, e, fun v z => by rw [d] at z; cases z⟩
 keep := fun i h h' st k => st.at fun o e => k it (by simp) o e
 item := by
  intro X hP hw hK hc i pins s σ H E I hf st hg
  subst hP hw hK
  obtain ⟨hq, hlt⟩ := hg
  obtain ⟨its, rv, p, hz⟩ := I.list hq
  have hx : xs[xs.length - 1 - i]? = some (xs[xs.length - 1 - i]'(by omega)) := List.getElem?_eq_getElem (by omega)
  obtain ⟨u, hu, ru⟩ := rv.get hx
  obtain ⟨f0, f1, f2, f3, f4, f5⟩ := hf it (by simp)
  have e : (xs.length : Int) - 1 - ((i : Nat) : Int) = ((xs.length - 1 - i : Nat) : Int) := by omega
  rw [e] at st
  refine wpAny_pyNext_rev_item st p.isList (x := u) (by simpa using hu) fun h' st' sb => ?_
  have I1 : Inv X pins σ H { s with heap := h' } := I.turned (t' := s.toks) (fun b o hb e => (sb.2 b hb).trans e) f0 f1 f3 f4 f5
  have e2 : ((xs.length - 1 - i : Nat) : Int) - 1 = (xs.length : Int) - 1 - ((i + 1 : Nat) : Int) := by omega
  rw [e2] at st'
  obtain ⟨o, eo, c, d⟩ := id st'
  exact ⟨u, rfl, go_of (s := { s with heap := h' }) eo c d (by decide) ⟨_, H, I1, ru, ⟨rfl, hx⟩, st', fun b hb => (hf b hb).1⟩⟩
 done := by
  intro X hP hw hK hc i pins s σ H E I hf st hg
  subst hP hw hK
  obtain ⟨hq, rfl⟩ := hg
  obtain ⟨f0, f1, f2, f3, f4, f5⟩ := hf it (by simp)
  have e : (xs.length : Int) - 1 - ((xs.length : Nat) : Int) = -1 := by omega
  rw [e] at st
  exact wpAny_pyNext_rev_end (I.ok.hd hc) st fun h' eb => ⟨rfl, I.turned (t' := s.toks) (fun b o hb e => eb b o hb e) f0 f1 f3 f4 f5⟩
 self := fun _ _ _ _ _ st h => wpAny_pyIter_revIter st h
section
variable {X : Cx} {tg : Expr}
def iRev (K : PySem.W.Frag) (ta : TA) : TI := fun σ H R => ta σ H fun vs H1 => ∃ a xs, vs = [.ref a] /\ SqL K H1 a xs /\ R (Itv K a xs) H1
theorem pi_rev {l : Expr} {ta : TA} {p pos : Pos} (hg : Gl X "reversed") (hm : X.mg "reversed" = none) (ha : PA X [l] ta) (hs : starEach [l] X.env = [(false, eval l X.env)] := by rfl) : PI X tg (.Call (.Name "reversed" p) [l] [] pos) (iRev X.K ta) := by
 intro pins s σ H R I h
 refine Call_ (ld_blt I hg hm PyProof.Rows.boot_reversed (PyProof.Rows.callWith_type1 (thn (ha pos pins s σ H _ I h) fun us s1 ⟨vs, H1, I1, r1, q1⟩ => ?_) hs rfl))
 obtain ⟨a, xs, e, hq, q⟩ := q1
 subst e
 obtain ⟨u, rfl, ru⟩ := vals1 r1
 cases ru
 obtain ⟨its, rv, pl, hz⟩ := I1.list hq
 refine call_reversed_list pl.isList ?_
 have hit : (s1.heap.push (revObj a ((its.toArray.size : Int) - 1))).IsRevIter s1.heap.objs.size a ((its.toArray.size : Int) - 1) := ⟨_, Heap.get?_push_size _ rfl, rfl, rfl⟩
 refine wpAny_pyIter_revIter (s := { s1 with heap := s1.heap.push (revObj a ((its.toArray.size : Int) - 1)) }) hit ?_
 refine ⟨s1.heap.objs.size, [s1.heap.objs.size], _, _, H1, rfl, I1.kept (t' := s1.toks) fun b o e => Heap.get?_push_of_some _ e, turn_rev a _ xs, ?_, fun b hb => ?_, q⟩
 ·have hl := rv.length
  have e2 : ((its.toArray.size : Nat) : Int) - 1 = (xs.length : Int) - 1 - ((0 : Nat) : Int) := by
   rw [List.size_toArray]
   omega
  show (s1.heap.push (revObj a ((its.toArray.size : Int) - 1))).IsRevIter s1.heap.objs.size a ((xs.length : Int) - 1 - ((0 : Nat) : Int))
  rw [← e2]
  exact hit
 ·have e : b = s1.heap.objs.size := by simpa using hb
  subst e
  exact I1.fpOk (Nat.le_refl _) (I1.hok.fresh (Nat.le_refl _))
theorem for_rev {K : PySem.W.Frag} {a : Addr} {xs : List V} {g : TG} {tb : TS} {D : Ends} {σ : St} {H : Hp} (Pv : Nat -> St -> Hp -> Prop) (h0 : Pv 0 σ H) (hl : ∀ i σ H, i <= xs.length -> Pv i σ H -> SqL K H a xs)
  (hs : ∀ i x σ H, i < xs.length -> xs[xs.length - 1 - i]? = some x -> Pv i σ H -> g x σ H fun σ2 H2 => tb { D with nx := Pv (i + 1), ct := Pv (i + 1), bk := D.nx } σ2 H2) (hd : ∀ σ H, Pv xs.length σ H -> D.nx σ H) :
  ∃ W : Nat -> Nat -> St -> Hp -> Prop, (∃ m, W 0 m σ H) /\ ∀ i m σ H, W i m σ H ->
   ((Itv K a xs).stop i H /\ D.nx σ H) \/ ((Itv K a xs).go i H /\ ∃ N : St -> Hp -> Prop, (∀ σ' H', N σ' H' -> ∃ m', m' < m /\ W (i + 1) m' σ' H') /\ ∀ x H', (Itv K a xs).yld i H x H' -> g x σ H' fun σ2 H2 => tb { D with nx := N, ct := N, bk := D.nx } σ2 H2) := by
 refine ⟨fun i m σ H => m = xs.length - i /\ i <= xs.length /\ Pv i σ H, ⟨xs.length, by simp, Nat.zero_le _, h0⟩, ?_⟩
 rintro i m σ H ⟨rfl, hi, p⟩
 have q := hl i σ H hi p
 by_cases hlt : i < xs.length
 ·refine .inr ⟨⟨q, hlt⟩, Pv (i + 1), fun σ' H' p' => ⟨xs.length - (i + 1), by omega, rfl, by omega, p'⟩, ?_⟩
  rintro x H' ⟨rfl, hx⟩
  exact hs i x σ H' hlt hx p
 ·have e : i = xs.length := by omega
  subst e
  exact .inl ⟨⟨q, rfl⟩, hd σ H p⟩
end
end L2
namespace L2
open PySem PySem.Spec PySem.Calls PyProof.Rows
section
variable {X : Cx}
theorem range_any (bs : List Bool) : ((List.range bs.length).any fun i => (bs[i]?).getD false) = bs.any id := by
 rw [Bool.eq_iff_iff, List.any_eq_true, List.any_eq_true]
 constructor
 ·rintro ⟨i, hi, e⟩
  have hi' := List.mem_range.mp hi
  rw [List.getElem?_eq_getElem hi'] at e
  exact ⟨_, List.getElem_mem hi', e⟩
 ·rintro ⟨b, hb, e⟩
  obtain ⟨i, hi, q⟩ := List.mem_iff_getElem.mp hb
  refine ⟨i, List.mem_range.mpr hi, ?_⟩
  rw [List.getElem?_eq_getElem hi, q]
  exact e
theorem call_any (hc : X.calm = true) : CallR X (.builtin "any") (fun xs H Q => ∃ (p : Addr) (bs : List Bool), xs = [V.ref p] /\ SqL X.K H p (bs.map V.bl) /\ Q (.bl (bs.any id)) H) := by
 intro pins s σ H xs us Q I r h
 obtain ⟨p, bs, rfl, hp, q⟩ := h
 obtain ⟨u, rfl, ru⟩ := vals1 r
 cases ru
 obtain ⟨its, rv, pl, hz⟩ := I.list hp
 have hlen : bs.length = its.length := by have := rv.length; rw [List.length_map] at this; exact this
 have hlt : p < s.heap.objs.size := by obtain ⟨_, e, _⟩ := pl.isList; exact Heap.lt_size e
 refine call_any_walk (wpAny_pyIter_list pl.isList ?_)
 refine ⟨s.heap.objs.size, [s.heap.objs.size, p], [s.heap.objs.size], its.toArray.size, _, _, fun i => (bs[i]?).getD false, rfl, Walks.list (A := X.A.in1) (I.ok.hd hc) _ p (Nat.ne_of_lt hlt) its.toArray,
  ⟨⟨_, Heap.get?_push_size _ rfl, rfl, rfl⟩, pl.isList.push _⟩, fun i v s' Q' E' hP hQ => ?_, fun h' tk hk => ?_⟩
 ·have hP' : its[i]? = some v := by simpa using hP
  have hi : i < its.length := (List.getElem?_eq_some_iff.mp hP').1
  have hb : bs[i]? = some bs[i] := by simp [hlen, hi]
  obtain ⟨u, hu, ru⟩ := rv.get (i := i) (x := .bl bs[i]) (by rw [List.getElem?_map, hb]; rfl)
  rw [hP'] at hu
  cases hu
  cases ru
  dsimp only at hQ
  rw [hb] at hQ
  exact wpAny_truthy_bool hQ
 ·have e : ((List.range its.toArray.size).any fun i => (bs[i]?).getD false) = bs.any id := by rw [List.size_toArray, ← hlen]; exact range_any bs
  rw [e]
  refine ⟨.bl (bs.any id), H, I.kept (t' := tk) fun b o eb => hk b o (fun hm => ?_) (Heap.get?_push_of_some _ eb), rfl, q⟩
  rw [List.mem_singleton.mp hm] at eb
  exact Nat.lt_irrefl _ (Heap.lt_size eb)
theorem preSum_take (ns : List Int) : ∀ j, j <= ns.length -> preSum (fun i => (ns[i]?).getD 0) j = (ns.take j).sum
 | 0, _ => rfl
 | j + 1, h => by
  have ih := preSum_take ns j (by omega)
  show preSum _ j + (ns[j]?).getD 0 = _
  rw [ih, List.take_add_one, List.getElem?_eq_getElem (by omega), List.sum_append]
  simp
theorem sum_le (M : Int) : ∀ ns : List Int, (∀ n ∈ ns, 0 <= n /\ n <= M) -> 0 <= ns.sum /\ ns.sum <= ns.length * M
 | [], _ => by simp
 | n :: r, h => by
  have h1 := h n (List.mem_cons_self ..)
  have h2 := sum_le M r fun x hx => h x (List.mem_cons_of_mem _ hx)
  have e : ((n :: r).length : Int) * M = r.length * M + M := by rw [List.length_cons]; push_cast; rw [Int.add_mul, Int.one_mul]
  rw [e, List.sum_cons]
  omega
theorem call_sum (hc : X.calm = true) : CallR X (.builtin "sum") (fun xs H Q => ∃ (p : Addr) (ns : List Int), xs = [V.ref p] /\ SqL X.K H p (ns.map V.int) /\ (∀ n ∈ ns, 0 <= n /\ n <= 100000) /\ ns.length <= 1000 /\ Q (.int ns.sum) H) := by
 intro pins s σ H xs us Q I r h
 obtain ⟨p, ns, rfl, hp, hb, hl, q⟩ := h
 obtain ⟨u, rfl, ru⟩ := vals1 r
 cases ru
 obtain ⟨its, rv, pl, hz⟩ := I.list hp
 have hlen : ns.length = its.length := by have := rv.length; rw [List.length_map] at this; exact this
 have hlt : p < s.heap.objs.size := by obtain ⟨_, e, _⟩ := pl.isList; exact Heap.lt_size e
 refine call_sum_walk (wpAny_pyIter_list pl.isList ?_)
 refine ⟨s.heap.objs.size, [s.heap.objs.size, p], [s.heap.objs.size], its.toArray.size, _, _, fun i => (ns[i]?).getD 0, rfl, Walks.list (A := X.A.in1) (I.ok.hd hc) _ p (Nat.ne_of_lt hlt) its.toArray,
  ⟨⟨_, Heap.get?_push_size _ rfl, rfl, rfl⟩, pl.isList.push _⟩, fun b hb => ?_, fun i v hP => ?_, fun j hj => ?_, fun h' tk t' hk => ?_⟩
 ·rw [Heap.size_push]
  rcases List.mem_cons.mp hb with rfl | hb
  ·exact Nat.lt_succ_self _
  ·rw [List.mem_singleton.mp hb]
   exact Nat.lt_succ_of_lt hlt
 ·have hP' : its[i]? = some v := by simpa using hP
  have hi : i < its.length := (List.getElem?_eq_some_iff.mp hP').1
  have hb : ns[i]? = some ns[i] := by simp [hlen, hi]
  obtain ⟨u, hu, ru⟩ := rv.get (i := i) (x := .int ns[i]) (by rw [List.getElem?_map, hb]; rfl)
  rw [hP'] at hu
  cases hu
  obtain ⟨t, rfl⟩ := ru
  exact ⟨t, by dsimp only; rw [hb]; rfl⟩
 ·have hj' : j < ns.length := by rw [hlen]; simpa using hj
  rw [preSum_take ns (j + 1) (by omega)]
  have h1 := hb ns[j] (List.getElem_mem hj')
  have h2 := sum_le 100000 (ns.take (j + 1)) fun n hn => hb n (List.mem_of_mem_take hn)
  have h3 : (ns.take (j + 1)).length <= 1000 := by rw [List.length_take]; omega
  unfold InLong
  dsimp only
  rw [List.getElem?_eq_getElem hj']
  rw [Option.getD_some]
  refine ⟨⟨?_, ?_⟩, ⟨?_, ?_⟩⟩ <;> omega
 ·have e : preSum (fun i => (ns[i]?).getD 0) its.toArray.size = ns.sum := by rw [List.size_toArray, ← hlen, preSum_take ns _ (Nat.le_refl _), List.take_length]
  rw [e]
  refine ⟨.int ns.sum, H, I.kept (t' := tk) fun b o eb => hk b o (fun hm => ?_) (Heap.get?_push_of_some _ eb), ⟨_, rfl⟩, q⟩
  rw [List.mem_singleton.mp hm] at eb
  exact Nat.lt_irrefl _ (Heap.lt_size eb)
theorem texts_of : ∀ {ts : List Str} {its : List Value}, Vals (ts.map V.str) its -> ∃ l : List (Str × Tok), its = strValues l /\ l.map (·.1) = ts
 | [], _, h => by
  cases h
  exact ⟨[], rfl, rfl⟩
 | t :: ts, _, h => by
  cases h with
  | cons a b =>
   obtain ⟨k, rfl⟩ := a
   obtain ⟨l, rfl, rfl⟩ := texts_of b
   exact ⟨(t, k) :: l, rfl, rfl⟩
theorem mt_join : MtR X "str.join" (fun x xs H Q => ∃ (z : Str) (p : Addr) (ts : List Str), x = V.str z /\ xs = [V.ref p] /\ SqL X.K H p (ts.map V.str) /\ JoinOk z ts = true /\ Q (.str (Txt.join z ts)) H) := by
 intro pins s σ H x xs v us Q I rx r h
 obtain ⟨z, p, ts, rfl, rfl, hp, hj, q⟩ := h
 obtain ⟨t, rfl⟩ := rx
 obtain ⟨w, rfl, rw'⟩ := Vals.one r
 cases rw'
 obtain ⟨its, rv, pl, hz⟩ := I.list hp
 obtain ⟨l, rfl, el⟩ := texts_of rv
 exact SC.join pl.isList el hj fun t' k => ⟨.str _, H, I.tok _, ⟨_, rfl⟩, q⟩
structure KDict (K : PySem.W.Frag) (P : Params) (a : Addr) : Prop where
 is : ∃ es n, K.lookup a = some ⟨.type "dict", none, .dict es n, #[]⟩ /\ PySem.W.KeysLit P es.toList
 lo : (a == sysModules) = false
def tKGet (K : PySem.W.Frag) (P : Params) (td ty : TE) : TE := fun σ H Q => td σ H fun x H1 => ty σ H1 fun y H2 => ∃ a z v u, x = .ref a /\ y = .str z /\ KDict K P a /\ PySem.W.nsIn K a z = some (some u) /\ RelV v u /\ Q v H2
def tKIn (K : PySem.W.Frag) (P : Params) (neg : Bool) (ty td : TE) : TE := fun σ H Q => ty σ H fun y H1 => td σ H1 fun x H2 => ∃ a z r, x = .ref a /\ y = .str z /\ KDict K P a /\ PySem.W.nsIn K a z = some r /\ Q (.bl (if neg then !r.isSome else r.isSome)) H2
variable {o i : Expr} {pos : Pos} {td ty : TE}
theorem pe_kget (ho : PE X o td) (hi : PE X i ty) (hs : NoSl i) : PE X (.Subscript o i pos) (tKGet X.K X.w.params td ty) := by
 intro pins s σ H Q I h
 refine subD_of PySem.F.slot_dict_getitem.lookup hs (thn (ho pins s σ H _ I h) fun u s1 ⟨x, H1, I1, rx, q1⟩ => thn (hi pins s1 σ H1 _ I1 q1) fun iv s2 ⟨y, H2, I2, ry, a, z, v, w, ex, ey, kd, hw, rw', q2⟩ => ?_)
 subst ex ey
 cases rx
 obtain ⟨t, rfl⟩ := ry
 obtain ⟨⟨es, n, hl, hk⟩, lo⟩ := kd
 have hm := PySem.W.mapOf_K (prog := X.prog) I2.kIn hl hk
 exact ⟨hm.typeIs, wpAny_getItem_of (strKind_is X.prog X.w z t) hm (PySem.W.find_K hl hw) ⟨v, H2, I2.tok _, rw', q2⟩⟩
theorem pc_kin (hi : PE X i ty) (ho : PE X o td) : PC X .In i o (tKIn X.K X.w.params false ty td) := by
 intro pins s σ H Q I h
 refine thn (hi pins s σ H _ I h) fun iv s1 ⟨y, H1, I1, ry, q1⟩ => thn (ho pins s1 σ H1 _ I1 q1) fun u s2 ⟨x, H2, I2, rx, a, z, r, ex, ey, kd, hw, q2⟩ => ?_
 subst ex ey
 cases rx
 obtain ⟨t, rfl⟩ := ry
 obtain ⟨⟨es, n, hl, hk⟩, lo⟩ := kd
 refine wpAny_in_of (strKind_is X.prog X.w z t) lo (PySem.W.mapOf_K (prog := X.prog) I2.kIn hl hk) ?_
 rw [PySem.W.find_K hl hw]
 exact ⟨.bl r.isSome, H2, I2.tok _, rfl, q2⟩
theorem pc_knotin (hi : PE X i ty) (ho : PE X o td) : PC X .NotIn i o (tKIn X.K X.w.params true ty td) := by
 intro pins s σ H Q I h
 refine thn (hi pins s σ H _ I h) fun iv s1 ⟨y, H1, I1, ry, q1⟩ => thn (ho pins s1 σ H1 _ I1 q1) fun u s2 ⟨x, H2, I2, rx, a, z, r, ex, ey, kd, hw, q2⟩ => ?_
 subst ex ey
 cases rx
 obtain ⟨t, rfl⟩ := ry
 obtain ⟨⟨es, n, hl, hk⟩, lo⟩ := kd
 refine wpAny_notIn_of (strKind_is X.prog X.w z t) lo (PySem.W.mapOf_K (prog := X.prog) I2.kIn hl hk) ?_
 rw [PySem.W.find_K hl hw]
 exact ⟨.bl (!r.isSome), H2, I2.tok _, rfl, q2⟩
end
def stepV (xs : List V) (lo hi : Option Int) (k : Int) : List V := (sliceRange (sliceBounds lo hi (some k) xs.length).1 (sliceBounds lo hi (some k) xs.length).2.1 (sliceBounds lo hi (some k) xs.length).2.2).filterMap (xs[·]?)
theorem stepV_mem {xs : List V} {lo hi : Option Int} {k : Int} {y : V} (h : y ∈ stepV xs lo hi k) : y ∈ xs := by
 obtain ⟨j, _, e⟩ := List.mem_filterMap.mp h
 exact List.mem_of_getElem? e
theorem vals_pick : ∀ {xs : List V} {us : List Value}, Vals xs us -> ∀ js : List Nat, Vals (js.filterMap (xs[·]?)) (js.filterMap (us[·]?)) := by
 intro xs us h js
 induction js with
 | nil => exact .nil
 | cons j js ih =>
  rw [List.filterMap_cons, List.filterMap_cons]
  by_cases hj : j < xs.length
  ·have ex : xs[j]? = some xs[j] := List.getElem?_eq_getElem hj
   obtain ⟨u, hu, ru⟩ := h.get ex
   rw [ex, hu]
   exact .cons ru ih
  ·have hl := h.length
   rw [List.getElem?_eq_none (by omega), List.getElem?_eq_none (by omega)]
   exact ih
def tStep (K : PySem.W.Frag) (te : TE) (tl th : TO) (ts : TE) : TE := fun σ H Q => te σ H fun x H1 => tl σ H1 fun lo H2 => th σ H2 fun hi H3 => ts σ H3 fun k H4 => ∃ j, k = .int j /\ 0 < j /\ ∃ a xs, x = .ref a /\ SqL K H4 a xs /\ ∀ p, H4 p = none -> (stepV xs lo hi j).length <= xs.length -> Q (.ref p) (upd H4 p (.lst (stepV xs lo hi j)))
section
variable {X : Cx} {e st : Expr} {lo hi : Option Expr} {te ts : TE} {tl th : TO} {p2 pos : Pos}
theorem pe_step (he : PE X e te) (hl : PO X lo tl) (hu : PO X hi th) (hst : PE X st ts) : PE X (.Subscript e (.Slice lo hi (some st) p2) pos) (tStep X.K te tl th ts) := by
 intro pins s σ H Q I h
 refine Subscript_ (thn (he pins s σ H _ I h) fun v s1 ⟨x, H1, I1, r1, q1⟩ => ?_)
 refine wpAny_Slice (thn (hl pins s1 σ H1 _ I1 q1) fun vl s2 ⟨l, H2, I2, rl, q2⟩ => thn (hu pins s2 σ H2 _ I2 q2) fun vu s3 ⟨u, H3, I3, ru, q3⟩ => ?_)
 rw [evalPart_some]
 refine thn (hst pins s3 σ H3 _ I3 q3) fun vk s4 ⟨k, H4, I4, rk, j, ek, hj, a, xs, ex, hx, q⟩ => ?_
 subst ek ex
 obtain ⟨t, rfl⟩ := rk
 cases r1
 have I5 : Inv X pins σ H4 { s4 with heap := s4.heap.push { cls := .type "slice", data := .fields #[vl, vu, .int j t] } } := I4.kept (t' := s4.toks) fun b ob q => Heap.get?_push_of_some _ q
 obtain ⟨its, r, ht, hz⟩ := I5.list hx
 have hlen := r.length
 show wpAny (model X.prog X.w) X.A (subscriptTail e (.Slice lo hi (some st) p2) (.ref a) (.ref s4.heap.objs.size)) (EP X pins σ Q) X.xe { s4 with heap := s4.heap.push { cls := .type "slice", data := .fields #[vl, vu, .int j t] } }
 refine tail_any (ops := [.ref a, .ref s4.heap.objs.size]) ht.isList.typeIs slot_list_getitem.lookup ?_ (by with_unfolding_all rfl)
 refine wpAny_getItem_list_slice ht.isList (Heap.IsSliceOf.new ..) rl ru (.int j t) (by intro z; cases z; omega) ?_ (by rw [List.size_toArray] <;> omega)
 have ep : slicePick its.toArray l u (some j) = ((sliceRange (sliceBounds l u (some j) xs.length).1 (sliceBounds l u (some j) xs.length).2.1 (sliceBounds l u (some j) xs.length).2.2).filterMap (its[·]?)).toArray := by
  unfold slicePick
  rw [List.size_toArray, hlen]
  simp only [List.getElem?_toArray]
 have hv : Vals (stepV xs l u j) ((sliceRange (sliceBounds l u (some j) xs.length).1 (sliceBounds l u (some j) xs.length).2.1 (sliceBounds l u (some j) xs.length).2.2).filterMap (its[·]?)) := vals_pick r _
 have hsz : (stepV xs l u j).length <= xs.length := by
  have := slicePick_size_le its.toArray l u (some j)
  rw [ep, List.size_toArray, List.size_toArray, ← hv.length] at this
  omega
 rw [ep]
 exact ⟨.ref _, _, I5.laid (t' := s4.toks) (o := .lst (stepV xs l u j)) (fun b ob q => Heap.get?_push_of_some _ q) (Nat.le_refl _) ⟨Nat.le_trans hsz hz, _, 0, hv, Heap.get?_push_size _ rfl⟩, rfl, q _ (I5.hok.fresh (Nat.le_refl _)) hsz⟩
end
end L2
namespace Og
open PySem L2
theorem ix_tupK {X : Cx} {K : PySem.W.Frag} (h : X.K = K) : IxR X (rIxT K) := h ▸ ix_tup
theorem ix_listK {X : Cx} {K : PySem.W.Frag} (h : X.K = K) : IxR X (rIxL K) := h ▸ ix_list
theorem op_in_seqK {X : Cx} {K : PySem.W.Frag} (h : X.K = K) : OpR X (compareOp .In) (rIn K false) := h ▸ op_in_seq
theorem pe_never {X : Cx} {e : Expr} : PE X e (fun _ _ _ => False) := fun _ _ _ _ _ _ h => h.elim
structure R where
 w : Str
 nm : Str
 rest : List V
abbrev R.v (r : R) : List V := .str r.w :: .str r.nm :: r.rest
def isNm (z : Str) : Prop := 1 <= z.length /\ z.length <= 8 /\ ∀ c ∈ z.cps.toList, 97 <= c /\ c <= 122
def Rows (H : Hp) (ρ : V -> R) (vs : List V) : Prop := ∀ v ∈ vs, TupAt H (ρ v).v v
theorem Rows.mono {H H' : Hp} {ρ : V -> R} {vs : List V} (s : Same H H') (h : Rows H ρ vs) : Rows H' ρ vs := fun v hv => (h v hv).mono s
theorem Rows.sub {H : Hp} {ρ : V -> R} {vs us : List V} (h : Rows H ρ vs) (hs : ∀ v ∈ us, v ∈ vs) : Rows H ρ us := fun v hv => h v (hs v hv)
abbrev pw (ρ : V -> R) (w : Str) (v : V) : Bool := decide (V.str (ρ v).w = V.str w)
abbrev pn (ρ : V -> R) (t : Str) (v : V) : Bool := decide (V.str (ρ v).nm = V.str t)
def tld (ρ : V -> R) (vs : List V) (w t : Str) : Bool := (vs.filter (pw ρ w)).any (pn ρ t)
def KTup (K : PySem.W.Frag) (a : Addr) (xs : List V) : Prop := ∃ (o : Obj) (its : Array Value) (n : Nat), K.lookup a = some o /\ o.cls = .type "tuple" /\ o.data = .seq its n /\ its.size <= sizeLine /\ Vals xs its.toList
theorem KTup.sq {K : PySem.W.Frag} {a : Addr} {xs : List V} (h : KTup K a xs) (H : Hp) : SqT K H a xs := .inr h
abbrev named : List Str := ["board", "rank", "stop", "coupler", "mute"]
def PartOk (K : PySem.W.Frag) (aB : Addr) (ρ : V -> R) (vs : List V) (x : V) (part : Str) : Prop :=
 (∃ (i lo hi : Int) (b : Addr), x = .int i /\ PySem.W.nsIn K aB part = some (some (.ref b)) /\ KTup K b [.int lo, .int hi] /\ lo <= i /\ i <= hi) \/
 (PySem.W.nsIn K aB part = some none /\ part = "new" /\ ∃ t, x = .str t /\ isNm t /\ ∀ w ∈ named, tld ρ vs w t = false) \/
 (PySem.W.nsIn K aB part = some none /\ ¬ part = "new" /\ ∃ t, x = .str t /\ isNm t /\ tld ρ vs part t = true)
structure RowOk (K : PySem.W.Frag) (aB aP aM : Addr) (ρ : V -> R) (vs : List V) (r : R) : Prop where
 ns : ¬ r.w = "step"
 nl : ¬ r.w = "line"
 parts : ∃ (ap : Addr) (ps : List Str), PySem.W.nsIn K aP r.w = some (some (.ref ap)) /\ KTup K ap (ps.map V.str) /\ (V.str r.nm :: r.rest).length = ps.length /\ ps.length <= 10 /\
  ∀ (i : Nat) x y, (V.str r.nm :: r.rest)[i]? = some x -> ps[i]? = some y -> PartOk K aB ρ vs x y
 room : ∃ (m : Int) (t : Tok), PySem.W.nsIn K aM r.w = some (some (.int m t)) /\ (((vs.filter (pw ρ r.w)).length : Nat) : Int) < m
def letters : Str := "abcdefghijklmnopqrstuvwxyz"
abbrev inS (y : Str) (c : Nat) : Bool := !(Builtin.Str.occurrences y ⟨#[c]⟩ 0 y.length 1).isEmpty
theorem inS_all : ∀ c < 128, inS letters c = decide (97 <= c /\ c <= 122) := by decide +kernel
theorem same_upd {H : Hp} {p : Addr} {o : HO} (h : H p = none) : Same H (upd H p o) := fun b u e => by rw [upd_ne (ne_of_none e h)]; exact e
theorem line20 {n : Nat} (h : n <= 1000) : n <= sizeLine := Nat.le_of_lt (small1000 h)
theorem ty_int {K : PySem.W.Frag} : PySem.W.kitOne K (.type "int") (.type "int") = some true := by kernel_rfl
theorem ty_ib {K : PySem.W.Frag} : PySem.W.kitOne K (.type "int") (.type "bool") = some false := by kernel_rfl
theorem ty_ll {K : PySem.W.Frag} : PySem.W.kitOne K (.type "list") (.type "list") = some true := by kernel_rfl
theorem ty_tt {K : PySem.W.Frag} : PySem.W.kitOne K (.type "tuple") (.type "tuple") = some true := by kernel_rfl
theorem ty_ss {K : PySem.W.Frag} : PySem.W.kitOne K (.type "str") (.type "str") = some true := by kernel_rfl
theorem cut_take (vs : List V) (n : Nat) (h : n <= vs.length) : cutV vs none (some (n : Int)) = vs.take n := by
 unfold cutV
 have e1 : HT.sIx vs.length 0 none = 0 := rfl
 have e2 : HT.sIx vs.length vs.length (some (n : Int)) = n := by
  rw [HT.sIx_nat]
  omega
 rw [e1, e2]
 simp
theorem filter_len_le {α : Type} (p : α -> Bool) (l : List α) : (l.filter p).length <= l.length := List.length_filter_le _ _
abbrev bV (b : Str × Nat) : List V := [.str b.1, .int (b.2 : Nat)]
abbrev brow (b : Str × Nat) : R := ⟨"board", b.1, [.int (b.2 : Nat)]⟩
abbrev qV (q : Nat × Nat) : List V := [.int (q.1 : Nat), .int (q.2 : Nat)]
def plc (bs : List (Str × Nat)) : List (Nat × Nat) := bs.zipIdx.flatMap fun p => (List.range p.1.2).map fun e => (p.2, e)
theorem plc_snoc (bs : List (Str × Nat)) (b : Str × Nat) : plc (bs ++ [b]) = plc bs ++ (List.range b.2).map fun e => (bs.length, e) := by
 unfold plc
 rw [List.zipIdx_append]
 simp
theorem plc_take {bs : List (Str × Nat)} {i : Nat} {b : Str × Nat} (h : bs[i]? = some b) : plc (bs.take (i + 1)) = plc (bs.take i) ++ (List.range b.2).map fun e => (i, e) := by
 have hi : i < bs.length := (List.getElem?_eq_some_iff.mp h).1
 rw [List.take_add_one, h]
 show plc (bs.take i ++ [b]) = _
 rw [plc_snoc, List.length_take, Nat.min_eq_left (by omega)]
theorem plc_len (bs : List (Str × Nat)) (M : Nat) : (∀ b ∈ bs, b.2 <= M) -> (plc bs).length <= bs.length * M := by
 intro h
 have key : ∀ i, i <= bs.length -> (plc (bs.take i)).length <= i * M := by
  intro i
  induction i with
  | zero => intro _; simp [plc]
  | succ i ih =>
   intro hi
   have hlt : i < bs.length := by omega
   rw [plc_take (List.getElem?_eq_getElem hlt), List.length_append, List.length_map, List.length_range]
   have h1 := ih (by omega)
   have h2 := h bs[i] (List.getElem_mem hlt)
   have : (i + 1) * M = i * M + M := by rw [Nat.add_mul, Nat.one_mul]
   omega
 have := key bs.length (Nat.le_refl _)
 rw [List.take_length] at this
 exact this
theorem paired_mem {α β : Type} {F : α -> β -> Prop} {l : List α} {vs : List β} (h : Paired F l vs) : ∀ {v}, v ∈ vs -> ∃ a ∈ l, F a v := by
 induction h with
 | nil => intro v hv; cases hv
 | cons a b ih =>
  intro v hv
  rcases List.mem_cons.mp hv with rfl | hv
  ·exact ⟨_, List.mem_cons_self .., a⟩
  ·obtain ⟨x, hx, q⟩ := ih hv
   exact ⟨x, List.mem_cons_of_mem _ hx, q⟩
theorem paired_get {α β : Type} {F : α -> β -> Prop} {l : List α} {vs : List β} (h : Paired F l vs) : ∀ {i : Nat} {a}, l[i]? = some a -> ∃ v, vs[i]? = some v /\ F a v := by
 induction h with
 | nil => intro i a ha; simp at ha
 | cons x y ih =>
  intro i a ha
  cases i with
  | zero =>
   simp at ha
   subst ha
   exact ⟨_, rfl, x⟩
  | succ i => exact ih (by simpa using ha)
theorem paired_get' {α β : Type} {F : α -> β -> Prop} {l : List α} {vs : List β} (h : Paired F l vs) : ∀ {i : Nat} {v}, vs[i]? = some v -> ∃ a, l[i]? = some a /\ F a v := by
 induction h with
 | nil => intro i a ha; simp at ha
 | cons x y ih =>
  intro i a ha
  cases i with
  | zero =>
   simp at ha
   subst ha
   exact ⟨_, rfl, x⟩
  | succ i => exact ih (by simpa using ha)
theorem paired_take {α β : Type} {F : α -> β -> Prop} {l : List α} {vs : List β} (h : Paired F l vs) : ∀ n : Nat, Paired F (l.take n) (vs.take n) := by
 induction h with
 | nil => intro n; simp; exact .nil
 | cons x y ih =>
  intro n
  cases n with
  | zero => exact .nil
  | succ n => exact .cons x (ih n)
theorem paired_app {α β : Type} {F : α -> β -> Prop} {l l' : List α} {vs vs' : List β} (h : Paired F l vs) (h' : Paired F l' vs') : Paired F (l ++ l') (vs ++ vs') := by
 induction h with
 | nil => exact h'
 | cons x y ih => exact .cons x ih
theorem paired_of_map {α β γ : Type} {F : γ -> β -> Prop} (g : α -> γ) {l : List α} {vs : List β} (h : Paired (fun a v => F (g a) v) l vs) : Paired F (l.map g) vs := by
 induction h with
 | nil => exact .nil
 | cons x y ih => exact .cons x ih
theorem paired_map_of {α β γ : Type} {F : γ -> β -> Prop} (g : α -> γ) : ∀ {l : List α} {vs : List β}, Paired F (l.map g) vs -> Paired (fun a v => F (g a) v) l vs
 | [], _, h => by cases h; exact .nil
 | a :: l, _, h => by
  cases h with
  | cons x y => exact .cons x (paired_map_of g y)
def nthV (H : Hp) (k : Nat) : V -> V
 | .ref T => match H T with
  | some (.tup xs) => xs.getD k .non
  | _ => .non
 | _ => .non
theorem nthV_at {H : Hp} {zs : List V} {v : V} (h : TupAt H zs v) (k : Nat) : nthV H k v = zs.getD k .non := by
 obtain ⟨T, rfl, e⟩ := h
 show (match H T with | some (.tup xs) => xs.getD k V.non | _ => V.non) = _
 rw [e]
theorem nth_map {α : Type} {H : Hp} {g : α -> List V} (k : Nat) {l : List α} {vs : List V} (h : Paired (fun a v => TupAt H (g a) v) l vs) : vs.map (nthV H k) = l.map fun a => (g a).getD k .non := by
 induction h with
 | nil => rfl
 | cons x y ih => rw [List.map_cons, List.map_cons, ih, nthV_at x]
def SX (x : Addr) (H H' : Hp) : Prop := ∀ b o, H b = some o -> b ≠ x -> H' b = some o
theorem SX.trans {x : Addr} {H H1 H2 : Hp} (a : SX x H H1) (b : SX x H1 H2) : SX x H H2 := fun c o h n => b c o (a c o h n) n
theorem SX.of {x : Addr} {H H' : Hp} (s : Same H H') : SX x H H' := fun b o h _ => s b o h
theorem SX.up {x : Addr} {H : Hp} {o : HO} : SX x H (upd H x o) := fun b u h n => by rw [upd_ne n]; exact h
theorem SX.tup {x : Addr} {H H' : Hp} {zs : List V} {y : V} {C dx : Addr} {fs : List (Str × V)} (s : SX x H H') (hx : H x = some (.ins C dx fs)) (h : TupAt H zs y) : TupAt H' zs y := by
 obtain ⟨T, e, q⟩ := h
 exact ⟨T, e, s _ _ q fun z => by rw [z, hx] at q; cases q⟩
theorem SX.pair {α : Type} {x : Addr} {H H' : Hp} {f : α -> List V} {l : List α} {vs : List V} {C dx : Addr} {fs : List (Str × V)} (s : SX x H H') (hx : H x = some (.ins C dx fs)) (h : Paired (fun a y => TupAt H (f a) y) l vs) : Paired (fun a y => TupAt H' (f a) y) l vs := Paired.mapP h fun _ _ q => s.tup hx q
theorem SX.lst {x a : Addr} {H H' : Hp} {xs : List V} {C dx : Addr} {fs : List (Str × V)} (s : SX x H H') (hx : H x = some (.ins C dx fs)) (h : H a = some (.lst xs)) : H' a = some (.lst xs) := s _ _ h fun z => by rw [z, hx] at h; cases h
theorem SX.dk {x a : Addr} {H H' : Hp} {kvs : List (Key × V)} {C dx : Addr} {fs : List (Str × V)} (s : SX x H H') (hx : H x = some (.ins C dx fs)) (h : H a = some (.dK kvs)) : H' a = some (.dK kvs) := s _ _ h fun z => by rw [z, hx] at h; cases h
abbrev meths : List Str := ["ranks", "pipe_count", "pipe", "rank_of", "board_of_knob", "boards", "key_count", "key", "board_of", "coupler", "knobs", "knob_number", "board_number", "stop", "mute", "steps", "rows"]
structure OrgAt (C : Addr) (H : Hp) (x : Addr) (bs : List (Str × Nat)) (ks : List R) : Prop where
 ob : ∃ (dx : Addr) (fs : List (Str × V)) (bl bn kp kr : Addr) (bvs pvs uvs : List V) (kvs : List (Key × V)), H x = some (.ins C dx fs) /\ fs.lookup ("board_list" : Str) = some (.ref bl) /\ fs.lookup ("board_numbers" : Str) = some (.ref bn) /\ fs.lookup ("key_places" : Str) = some (.ref kp) /\ fs.lookup ("knob_rows" : Str) = some (.ref kr) /\
  (∀ m ∈ meths, fs.lookup m = none) /\ H bl = some (.lst bvs) /\ Paired (fun b y => TupAt H (bV b) y) bs bvs /\ H bn = some (.dK kvs) /\ (∀ (i : Nat) b, bs[i]? = some b -> valV kvs (Sum.inr b.1) = some (.int (i : Nat))) /\
  H kp = some (.lst pvs) /\ Paired (fun q y => TupAt H (qV q) y) (plc bs) pvs /\ H kr = some (.lst uvs) /\ Paired (fun (r : R) y => TupAt H r.v y) ks uvs
 nb : bs.length <= 5
 sz : ∀ b ∈ bs, b.2 <= 61
 nk : ks.length <= 200
theorem OrgAt.mono {C : Addr} {H H' : Hp} {x : Addr} {bs : List (Str × Nat)} {ks : List R} (s : Same H H') (h : OrgAt C H x bs ks) : OrgAt C H' x bs ks := by
 obtain ⟨⟨dx, fs, bl, bn, kp, kr, bvs, pvs, uvs, kvs, h1, l1, l2, l3, l4, lm, h2, h3, h4, h5, h6, h7, h8, h9⟩, a, b, c⟩ := h
 exact ⟨⟨dx, fs, bl, bn, kp, kr, bvs, pvs, uvs, kvs, s _ _ h1, l1, l2, l3, l4, lm, s _ _ h2, paired_mono s h3, s _ _ h4, h5, s _ _ h6, paired_mono s h7, s _ _ h8, paired_mono s h9⟩, a, b, c⟩
end Og
namespace Og
open PySem L2 PyProof.Rows
inductive Kb where
 | cp (i j : Nat) (s : Int)
 | pl (w : Str) (i : Nat)
def Kb.w : Kb -> Str
 | .cp _ _ _ => "coupler"
 | .pl w _ => w
def Kb.v : Kb -> List V
 | .cp i j s => [.str "coupler", .int (i : Nat), .int (j : Nat), .int s]
 | .pl w i => [.str w, .int (i : Nat)]
def Kb.ok (n : Nat) : Kb -> Prop
 | .cp i j s => i < n /\ j < n /\ -60 <= s /\ s <= 60
 | .pl w i => i < n /\ (w = "mute" \/ w = "stop")
theorem Kb.wo {n : Nat} {k : Kb} (h : k.ok n) : k.w = "stop" \/ k.w = "coupler" \/ k.w = "mute" := by
 cases k with
 | cp i j s => exact .inr (.inl rfl)
 | pl w i => rcases h.2 with e | e; exact .inr (.inr e); exact .inl e
theorem Kb.v0 (k : Kb) : ∃ r, k.v = .str k.w :: r := by cases k <;> exact ⟨_, rfl⟩
def mostN (w : Str) : Nat := if w = "coupler" then 12 else if w = "mute" then 5 else 24
abbrev sameW (w : Str) (z : Kb) : Bool := decide (V.str z.w = V.str w)
structure Kbs (n : Nat) (kbs : List Kb) : Prop where
 ok : ∀ k ∈ kbs, k.ok n
 room : ∀ (i : Nat) k, kbs[i]? = some k -> ((kbs.take i).filter (sameW k.w)).length < mostN k.w
 len : kbs.length <= 70
def kRow (c : Nat -> Str) (k : Nat) : Kb -> R
 | .cp i j s => ⟨"coupler", c (30 + k), [.str (c i), .str (c j), .int s]⟩
 | .pl w i => ⟨w, c (30 + k), [.str (c i)]⟩
theorem kRow_w (c : Nat -> Str) (k : Nat) (z : Kb) : (kRow c k z).w = z.w := by cases z <;> rfl
theorem kRow_nm (c : Nat -> Str) (k : Nat) (z : Kb) : (kRow c k z).nm = c (30 + k) := by cases z <;> rfl
def bsOf (c : Nat -> Str) (sz : List Nat) : List (Str × Nat) := sz.zipIdx.map fun p => (c p.2, p.1)
def ksOf (c : Nat -> Str) (kbs : List Kb) : List R := kbs.zipIdx.map fun p => kRow c p.2 p.1
theorem bsOf_get {c : Nat -> Str} {sz : List Nat} {i z : Nat} (h : sz[i]? = some z) : (bsOf c sz)[i]? = some (c i, z) := by
 unfold bsOf
 rw [List.getElem?_map, List.getElem?_zipIdx, h]
 simp
theorem bsOf_get' {c : Nat -> Str} {sz : List Nat} {i : Nat} {b : Str × Nat} (h : (bsOf c sz)[i]? = some b) : ∃ z, sz[i]? = some z /\ b = (c i, z) := by
 have hi : i < (bsOf c sz).length := (List.getElem?_eq_some_iff.mp h).1
 have hi' : i < sz.length := by simpa [bsOf] using hi
 refine ⟨sz[i], List.getElem?_eq_getElem hi', ?_⟩
 rw [bsOf_get (List.getElem?_eq_getElem hi')] at h
 exact (Option.some.inj h).symm
theorem bsOf_len (c : Nat -> Str) (sz : List Nat) : (bsOf c sz).length = sz.length := by simp [bsOf]
theorem bsOf_szs (c : Nat -> Str) (sz : List Nat) : (bsOf c sz).map (·.2) = sz := by
 unfold bsOf
 rw [List.map_map]
 refine List.ext_getElem? fun i => ?_
 rw [List.getElem?_map, List.getElem?_zipIdx]
 cases sz[i]? <;> simp
theorem ksOf_get {c : Nat -> Str} {kbs : List Kb} {i : Nat} {z : Kb} (h : kbs[i]? = some z) : (ksOf c kbs)[i]? = some (kRow c i z) := by
 unfold ksOf
 rw [List.getElem?_map, List.getElem?_zipIdx, h]
 simp
theorem ksOf_get' {c : Nat -> Str} {kbs : List Kb} {i : Nat} {r : R} (h : (ksOf c kbs)[i]? = some r) : ∃ z, kbs[i]? = some z /\ r = kRow c i z := by
 have hi : i < (ksOf c kbs).length := (List.getElem?_eq_some_iff.mp h).1
 have hi' : i < kbs.length := by simpa [ksOf] using hi
 refine ⟨kbs[i], List.getElem?_eq_getElem hi', ?_⟩
 rw [ksOf_get (List.getElem?_eq_getElem hi')] at h
 exact (Option.some.inj h).symm
theorem ksOf_len (c : Nat -> Str) (kbs : List Kb) : (ksOf c kbs).length = kbs.length := by simp [ksOf]
structure KF (K : PySem.W.Frag) (aB aP aM : Addr) : Prop where
 pB : ∃ a, PySem.W.nsIn K aP "board" = some (some (.ref a)) /\ KTup K a (["new", "keys"].map fun s : String => V.str s)
 pS : ∃ a, PySem.W.nsIn K aP "stop" = some (some (.ref a)) /\ KTup K a (["new", "board"].map fun s : String => V.str s)
 pM : ∃ a, PySem.W.nsIn K aP "mute" = some (some (.ref a)) /\ KTup K a (["new", "board"].map fun s : String => V.str s)
 pC : ∃ a, PySem.W.nsIn K aP "coupler" = some (some (.ref a)) /\ KTup K a (["new", "board", "board", "leap"].map fun s : String => V.str s)
 bK : ∃ a, PySem.W.nsIn K aB "keys" = some (some (.ref a)) /\ KTup K a [.int 1, .int 61]
 bL : ∃ a, PySem.W.nsIn K aB "leap" = some (some (.ref a)) /\ KTup K a [.int (-60), .int 60]
 bN : PySem.W.nsIn K aB "new" = some none
 bB : PySem.W.nsIn K aB "board" = some none
 mB : ∃ t, PySem.W.nsIn K aM "board" = some (some (.int 5 t))
 mS : ∃ t, PySem.W.nsIn K aM "stop" = some (some (.int 24 t))
 mC : ∃ t, PySem.W.nsIn K aM "coupler" = some (some (.int 12 t))
 mM : ∃ t, PySem.W.nsIn K aM "mute" = some (some (.int 5 t))
def rho (H : Hp) : V -> R
 | .ref T => match H T with
  | some (.tup (.str w :: .str n :: r)) => ⟨w, n, r⟩
  | _ => ⟨"", "", []⟩
 | _ => ⟨"", "", []⟩
theorem rho_at {H : Hp} {r : R} {v : V} (h : TupAt H r.v v) : rho H v = r := by
 obtain ⟨T, rfl, e⟩ := h
 show (match H T with | some (.tup (.str w :: .str n :: r)) => (⟨w, n, r⟩ : R) | _ => ⟨"", "", []⟩) = r
 rw [e]
theorem rho_map {H : Hp} {rs : List R} {vs : List V} (h : Paired (fun (r : R) v => TupAt H r.v v) rs vs) : vs.map (rho H) = rs := by
 induction h with
 | nil => rfl
 | cons x y ih => rw [List.map_cons, ih, rho_at x]
theorem len_putF (f : Str) (v : V) : ∀ l : List (Str × V), (putF f v l).length <= l.length + 1
 | [] => Nat.le_refl _
 | p :: r => by
  unfold putF
  split
  ·simp
  ·have := len_putF f v r
   simp only [List.length_cons]
   omega
abbrev inK (s : Str) : Bool := inV (.str s) [.str "stop", .str "coupler", .str "mute"]
structure Ok3 (K : PySem.W.Frag) (aB aP aM : Addr) (ρ : V -> R) (us : List V) (bs : List (Str × Nat)) (ks : List R) : Prop where
 kinds : ∀ v ∈ us, (ρ v).w = "board" \/ (ρ v).w = "stop" \/ (ρ v).w = "coupler" \/ (ρ v).w = "mute"
 eb : (us.filter (pw ρ "board")).map ρ = bs.map brow
 ek : (us.filter (fun v => inK (ρ v).w)).map ρ = ks
 b0 : 1 <= bs.length
 b5 : bs.length <= 5
 sz : ∀ b ∈ bs, b.2 <= 61
 nk : ks.length <= 100
 nb : (bs.map (·.1)).Nodup
 nn : (ks.map (·.nm)).Nodup
 len : us.length <= 105
 ok : ∀ (i : Nat) v, us[i]? = some v -> RowOk K aB aP aM ρ (us.take i) (ρ v)
def wnOf (ρ : V -> R) (vs : List V) : List (Str × Str) := vs.map fun v => ((ρ v).w, (ρ v).nm)
abbrev wnT (wn : List (Str × Str)) (w t : Str) : Bool := (wn.filter fun p => decide (p.1 = w)).any fun p => decide (p.2 = t)
abbrev wnC (wn : List (Str × Str)) (w : Str) : Nat := (wn.filter fun p => decide (p.1 = w)).length
theorem dec_str (a b : Str) : decide (V.str a = V.str b) = decide (a = b) := by
 rw [Bool.eq_iff_iff, decide_eq_true_eq, decide_eq_true_eq]
 exact ⟨V.str.inj, congrArg V.str⟩
theorem tld_wn (ρ : V -> R) (vs : List V) (w t : Str) : tld ρ vs w t = wnT (wnOf ρ vs) w t := by
 unfold tld wnOf
 show _ = ((vs.map fun v => ((ρ v).w, (ρ v).nm)).filter fun p => decide (p.1 = w)).any fun p => decide (p.2 = t)
 rw [List.filter_map, List.any_map]
 have e1 : pw ρ w = (fun p : Str × Str => decide (p.1 = w)) ∘ fun v => ((ρ v).w, (ρ v).nm) := by
  funext v
  exact dec_str _ _
 have e2 : pn ρ t = (fun p : Str × Str => decide (p.2 = t)) ∘ fun v => ((ρ v).w, (ρ v).nm) := by
  funext v
  exact dec_str _ _
 rw [e1, e2]
theorem cnt_wn (ρ : V -> R) (vs : List V) (w : Str) : (vs.filter (pw ρ w)).length = wnC (wnOf ρ vs) w := by
 unfold wnOf
 show _ = ((vs.map fun v => ((ρ v).w, (ρ v).nm)).filter fun p => decide (p.1 = w)).length
 rw [List.filter_map, List.length_map]
 have e1 : pw ρ w = (fun p : Str × Str => decide (p.1 = w)) ∘ fun v => ((ρ v).w, (ρ v).nm) := by
  funext v
  exact dec_str _ _
 rw [e1]
section
variable {K : PySem.W.Frag} {aB aP aM : Addr} {ρ : V -> R} {vs : List V} {wn : List (Str × Str)} {t : Str}
theorem part_new (F : KF K aB aP aM) (e : wnOf ρ vs = wn) (ht : isNm t) (h : ∀ w ∈ named, wnT wn w t = false) : PartOk K aB ρ vs (.str t) "new" :=
 .inr (.inl ⟨F.bN, rfl, _, rfl, ht, fun w hw => by rw [tld_wn, e]; exact h w hw⟩)
theorem part_board (F : KF K aB aP aM) (e : wnOf ρ vs = wn) (ht : isNm t) (h : wnT wn "board" t = true) : PartOk K aB ρ vs (.str t) "board" :=
 .inr (.inr ⟨F.bB, by decide +kernel, _, rfl, ht, by rw [tld_wn, e]; exact h⟩)
theorem row_board (F : KF K aB aP aM) (e : wnOf ρ vs = wn) (ht : isNm t) (h : ∀ w ∈ named, wnT wn w t = false) (hc : wnC wn "board" < 5) {n : Nat} (h1 : 1 <= n) (h2 : n <= 61) : RowOk K aB aP aM ρ vs (brow (t, n)) := by
 obtain ⟨ap, g1, g2⟩ := F.pB
 obtain ⟨ab, g3, g4⟩ := F.bK
 obtain ⟨tk, g5⟩ := F.mB
 refine ⟨by show ¬ ("board" : Str) = "step"; decide +kernel, by show ¬ ("board" : Str) = "line"; decide +kernel, ⟨ap, ["new", "keys"], g1, g2, rfl, by decide, fun j x y hx hy => ?_⟩, ⟨5, tk, g5, ?_⟩⟩
 ·match j, hx, hy with
  | 0, hx, hy =>
   cases (Option.some.inj hx)
   cases (Option.some.inj hy)
   exact part_new F e ht h
  | 1, hx, hy =>
   cases (Option.some.inj hx)
   cases (Option.some.inj hy)
   exact .inl ⟨_, 1, 61, ab, rfl, g3, g4, by omega, by omega⟩
  | j + 2, hx, hy => simp at hy
 ·rw [cnt_wn, e]
  show ((wnC wn "board" : Nat) : Int) < 5
  omega
theorem row_coupler (F : KF K aB aP aM) (e : wnOf ρ vs = wn) (ht : isNm t) (h : ∀ w ∈ named, wnT wn w t = false) (hc : wnC wn "coupler" < 12) {a b : Str} (ha : isNm a) (ha' : wnT wn "board" a = true) (hb : isNm b) (hb' : wnT wn "board" b = true) {s : Int} (h1 : -60 <= s) (h2 : s <= 60) : RowOk K aB aP aM ρ vs ⟨"coupler", t, [.str a, .str b, .int s]⟩ := by
 obtain ⟨ap, g1, g2⟩ := F.pC
 obtain ⟨ab, g3, g4⟩ := F.bL
 obtain ⟨tk, g5⟩ := F.mC
 refine ⟨by show ¬ ("coupler" : Str) = "step"; decide +kernel, by show ¬ ("coupler" : Str) = "line"; decide +kernel, ⟨ap, ["new", "board", "board", "leap"], g1, g2, rfl, by decide, fun j x y hx hy => ?_⟩, ⟨12, tk, g5, ?_⟩⟩
 ·match j, hx, hy with
  | 0, hx, hy =>
   cases (Option.some.inj hx)
   cases (Option.some.inj hy)
   exact part_new F e ht h
  | 1, hx, hy =>
   cases (Option.some.inj hx)
   cases (Option.some.inj hy)
   exact part_board F e ha ha'
  | 2, hx, hy =>
   cases (Option.some.inj hx)
   cases (Option.some.inj hy)
   exact part_board F e hb hb'
  | 3, hx, hy =>
   cases (Option.some.inj hx)
   cases (Option.some.inj hy)
   exact .inl ⟨_, -60, 60, ab, rfl, g3, g4, h1, h2⟩
  | j + 4, hx, hy => simp at hy
 ·rw [cnt_wn, e]
  show ((wnC wn "coupler" : Nat) : Int) < 12
  omega
end
theorem nodup_get {α : Type} {l : List α} (h : ∀ (i j : Nat) x, l[i]? = some x -> l[j]? = some x -> i = j) : l.Nodup := by
 refine List.pairwise_iff_getElem.mpr fun i j hi hj hij e => ?_
 have := h i j l[i] (List.getElem?_eq_getElem hi) (by rw [e]; exact List.getElem?_eq_getElem hj)
 omega
theorem plc_get {bs : List (Str × Nat)} : ∀ {i a n : Nat}, (plc bs)[i]? = some (a, n) -> ∃ b, bs[a]? = some b /\ n < b.2 /\ i = ((bs.map (·.2)).take a).sum + n := by
 have key : ∀ m, m <= bs.length -> ∀ {i a n : Nat}, (plc (bs.take m))[i]? = some (a, n) -> ∃ b, bs[a]? = some b /\ n < b.2 /\ i = ((bs.map (·.2)).take a).sum + n := by
  intro m
  induction m with
  | zero =>
   intro _ i a n h
   simp [plc] at h
  | succ m ih =>
   intro hm i a n h
   have hlt : m < bs.length := by omega
   have hb := List.getElem?_eq_getElem hlt
   rw [plc_take hb] at h
   have hlen : (plc (bs.take m)).length = ((bs.map (·.2)).take m).sum := by
    have g : ∀ m, m <= bs.length -> (plc (bs.take m)).length = ((bs.map (·.2)).take m).sum := by
     intro m
     induction m with
     | zero => intro _; simp [plc]
     | succ m ih =>
      intro hm
      have hlt : m < bs.length := by omega
      rw [plc_take (List.getElem?_eq_getElem hlt), List.length_append, ih (by omega), List.length_map, List.length_range, List.take_add_one, List.getElem?_map, List.getElem?_eq_getElem hlt, List.sum_append]
      simp
    exact g m (by omega)
   by_cases hi : i < (plc (bs.take m)).length
   ·rw [List.getElem?_append_left hi] at h
    exact ih (by omega) h
   ·rw [List.getElem?_append_right (by omega), List.getElem?_map] at h
    obtain ⟨e, he, q⟩ := Option.map_eq_some_iff.mp h
    have he' : i - (plc (bs.take m)).length < bs[m].2 /\ e = i - (plc (bs.take m)).length := by
     obtain ⟨h1, h2⟩ := List.getElem?_eq_some_iff.mp he
     rw [List.length_range] at h1
     rw [List.getElem_range] at h2
     exact ⟨h1, h2.symm⟩
    obtain ⟨q1, q2⟩ := Prod.mk.inj q
    subst q1 q2
    refine ⟨bs[m], hb, by omega, ?_⟩
    rw [← hlen]
    omega
 intro i a n h
 refine key bs.length (Nat.le_refl _) ?_
 rw [List.take_length]
 exact h
theorem plc_sum (bs : List (Str × Nat)) : (plc bs).length = (bs.map (·.2)).sum := by
 unfold plc
 rw [List.length_flatMap]
 have : (bs.zipIdx.map fun p => ((List.range p.1.2).map fun e => (p.2, e)).length) = bs.map (·.2) := by
  refine List.ext_getElem? fun i => ?_
  rw [List.getElem?_map, List.getElem?_map, List.getElem?_zipIdx]
  cases bs[i]? <;> simp
 rw [this]
end Og
namespace Og
open PySem L2
def ledV (bs : List (Str × Nat)) (j1 j2 : Nat) (s : Int) (qd : Nat × Nat) (z2 : Nat) : V :=
 if qd.1 = j1 /\ 0 <= (qd.2 : Int) + s /\ (qd.2 : Int) + s < z2 then .int ((((bs.take j2).map (·.2)).sum : Nat) + ((qd.2 : Int) + s)) else .non
def gl (bs : List (Str × Nat)) : Kb -> Nat -> Option Nat
 | .cp j1 j2 s, i => match (plc bs)[i]?, bs[j2]? with
  | some qd, some b2 => match ledV bs j1 j2 s qd b2.2 with
   | .int v => some v.toNat
   | _ => none
  | _, _ => none
 | .pl _ _, _ => none
theorem sum_take_le' (l : List Nat) : ∀ {a b : Nat}, a <= b -> (l.take a).sum <= (l.take b).sum := by
 intro a b h
 have e : l.take a = (l.take b).take a := by rw [List.take_take, Nat.min_eq_left h]
 rw [e]
 have := congrArg List.sum (List.take_append_drop a (l.take b))
 rw [List.sum_append] at this
 omega
theorem led_gl {bs : List (Str × Nat)} {j1 j2 i : Nat} {s : Int} {qd : Nat × Nat} {b2 : Str × Nat} (hq : (plc bs)[i]? = some qd) (hb : bs[j2]? = some b2) :
  (ledV bs j1 j2 s qd b2.2 = .non /\ gl bs (.cp j1 j2 s) i = none) \/ ∃ j : Nat, ledV bs j1 j2 s qd b2.2 = .int (j : Nat) /\ gl bs (.cp j1 j2 s) i = some j /\ j < (bs.map (·.2)).sum := by
 have e : gl bs (.cp j1 j2 s) i = match ledV bs j1 j2 s qd b2.2 with | .int v => some v.toNat | _ => none := by
  simp only [gl, hq, hb]
 rw [e]
 unfold ledV
 by_cases h : qd.1 = j1 /\ 0 <= (qd.2 : Int) + s /\ (qd.2 : Int) + s < b2.2
 ·rw [if_pos h]
  obtain ⟨h1, h2, h3⟩ := h
  have hs : ((bs.map (·.2)).take (j2 + 1)).sum = (((bs.take j2).map (·.2)).sum + b2.2) := by
   rw [List.take_add_one, List.getElem?_map, hb, List.sum_append, List.map_take]
   simp
  have hle : ((bs.map (·.2)).take (j2 + 1)).sum <= (bs.map (·.2)).sum := by
   have := congrArg List.sum (List.take_append_drop (j2 + 1) (bs.map (·.2)))
   rw [List.sum_append] at this
   omega
  refine .inr ⟨((((bs.take j2).map (·.2)).sum : Nat) + ((qd.2 : Int) + s)).toNat, ?_, rfl, by omega⟩
  rw [Int.toNat_of_nonneg (by omega)]
 ·rw [if_neg h]
  exact .inl ⟨rfl, rfl⟩
theorem gl_lt {bs : List (Str × Nat)} {z : Kb} {i j : Nat} (h : gl bs z i = some j) : j < (bs.map (·.2)).sum := by
 cases z with
 | pl w a => cases h
 | cp j1 j2 s =>
  cases hq : (plc bs)[i]? with
  | none =>
   simp only [gl, hq] at h
   cases h
  | some qd =>
   cases hb : bs[j2]? with
   | none =>
    simp only [gl, hq, hb] at h
    cases h
   | some b2 =>
    rcases led_gl (j1 := j1) (s := s) hq hb with ⟨_, e⟩ | ⟨j', _, e, lt⟩
    ·rw [e] at h
     cases h
    ·rw [e] at h
     cases h
     exact lt
abbrev isCp (z : Kb) : Bool := decide (V.str z.w = V.str "coupler")
theorem gl_cp {bs : List (Str × Nat)} {z : Kb} {i j : Nat} (h : gl bs z i = some j) : isCp z = true := by
 cases z with
 | pl w a => cases h
 | cp j1 j2 s => exact decide_eq_true rfl
theorem isCp_cp {n : Nat} {z : Kb} (ho : z.ok n) (h : isCp z = true) : ∃ i j s, z = .cp i j s := by
 cases z with
 | cp i j s => exact ⟨i, j, s, rfl⟩
 | pl w i =>
  exfalso
  have h' := V.str.inj (of_decide_eq_true h)
  rcases ho.2 with rfl | rfl
  ·exact absurd h' (by show ¬ ("mute" : Str) = "coupler"; decide +kernel)
  ·exact absurd h' (by show ¬ ("stop" : Str) = "coupler"; decide +kernel)
def stp (bs : List (Str × Nat)) (kbs : List Kb) (D : Nat) (i j : Nat) : Prop := ∃ k z, D.testBit k = true /\ kbs[k]? = some z /\ gl bs z i = some j
inductive Rch (st : Nat -> Nat -> Prop) (hd : Nat -> Prop) : Nat -> Prop
 | one {i j : Nat} : hd i -> st i j -> Rch st hd j
 | more {i j : Nat} : Rch st hd i -> st i j -> Rch st hd j
theorem Rch.mono {s1 s2 : Nat -> Nat -> Prop} {h1 h2 : Nat -> Prop} {j : Nat} (h : Rch s1 h1 j) (hs : ∀ i j, s1 i j -> s2 i j) (hh : ∀ i, h1 i -> h2 i) : Rch s2 h2 j := by
 induction h with
 | one a b => exact .one (hh _ a) (hs _ _ b)
 | more a b ih => exact .more ih (hs _ _ b)
theorem Rch.or {st : Nat -> Nat -> Prop} {h1 h2 : Nat -> Prop} {j : Nat} : Rch st (fun i => h1 i \/ h2 i) j ↔ Rch st h1 j \/ Rch st h2 j := by
 constructor
 ·intro h
  induction h with
  | one a b =>
   rcases a with a | a
   ·exact .inl (.one a b)
   ·exact .inr (.one a b)
  | more a b ih =>
   rcases ih with ih | ih
   ·exact .inl (.more ih b)
   ·exact .inr (.more ih b)
 ·rintro (h | h)
  ·exact h.mono (fun _ _ z => z) fun _ z => .inl z
  ·exact h.mono (fun _ _ z => z) fun _ z => .inr z
theorem Rch.iff {st : Nat -> Nat -> Prop} {h1 h2 : Nat -> Prop} {j : Nat} (hh : ∀ i, h1 i ↔ h2 i) : Rch st h1 j ↔ Rch st h2 j := ⟨fun h => h.mono (fun _ _ z => z) fun i => (hh i).mp, fun h => h.mono (fun _ _ z => z) fun i => (hh i).mpr⟩
theorem Rch.lt {bs : List (Str × Nat)} {kbs : List Kb} {D : Nat} {h : Nat -> Prop} {j : Nat} (r : Rch (stp bs kbs D) h j) : j < (bs.map (·.2)).sum := by
 cases r with
 | one a b => obtain ⟨k, z, _, _, e⟩ := b; exact gl_lt e
 | more a b => obtain ⟨k, z, _, _, e⟩ := b; exact gl_lt e
theorem Rch.all {st : Nat -> Nat -> Prop} {hd : Nat -> Prop} {W : Nat -> Prop} (h1 : ∀ j, W j -> Rch st hd j) (h2 : ∀ i, (hd i \/ W i) -> ∀ j, st i j -> W j) (j : Nat) : W j ↔ Rch st hd j := by
 refine ⟨h1 j, fun h => ?_⟩
 induction h with
 | one a b => exact h2 _ (.inl a) _ b
 | more a b ih => exact h2 _ (.inr ih) _ b
theorem nodup_len : ∀ (T : Nat) {l : List Nat}, l.Nodup -> (∀ x ∈ l, x < T) -> l.length <= T
 | 0, l, _, h => by
  cases l with
  | nil => exact Nat.le_refl _
  | cons a l => exact absurd (h a (List.mem_cons_self ..)) (Nat.not_lt_zero _)
 | T + 1, l, nd, h => by
  have ih := nodup_len T (l := l.erase T) (nd.erase T) fun x hx => by
   have h1 := h x (List.mem_of_mem_erase hx)
   have h2 : x ≠ T := fun z => by
    subst z
    exact nd.not_mem_erase hx
   omega
  have := List.length_erase (a := T) (l := l)
  split at this <;> omega
theorem or_bit (a b i : Nat) : (a ||| b).testBit i = true ↔ a.testBit i = true \/ b.testBit i = true := by
 rw [Nat.testBit_or, Bool.or_eq_true]
theorem nat_ext {a b : Nat} (h : ∀ i, a.testBit i = true ↔ b.testBit i = true) : a = b := Nat.eq_of_testBit_eq fun i => Bool.eq_iff_iff.mpr (h i)
end Og
namespace Og
open PySem L2 PyProof.Rows
abbrev Th := Str × Nat × List V
abbrev tV (a : Th) : List V := .str a.1 :: .int (a.2.1 : Nat) :: a.2.2
abbrev tN (a : Th) : Str × Nat := (a.1, a.2.1)
abbrev rk3 (r : Str × Nat × Int) : Th := (r.1, r.2.1, [.int r.2.2])
abbrev bd2 (b : Str × Nat) : Th := (b.1, b.2, [])
abbrev rkN (r : Str × Nat × Int) : Str × Nat := (r.1, r.2.1)
abbrev rrow (r : Str × Nat × Int) : R := ⟨"rank", r.1, [.int (r.2.1 : Nat), .int r.2.2]⟩
structure Ln where
 r : Nat
 sh : Int
 lo : Int
 hi : Int
abbrev lnV (l : Ln) : List V := [.int (l.r : Nat), .int l.sh, .int l.lo, .int l.hi]
def LineAt (H : Hp) (l : List Ln) (v : V) : Prop := ∃ (A : Addr) (ts : List V), v = .ref A /\ H A = some (.lst ts) /\ Paired (fun x y => TupAt H (lnV x) y) l ts
def LinesAt (H : Hp) (D : Addr) (ls : List (List Ln)) : Prop := ∃ lv, H D = some (.lst lv) /\ Paired (fun l v => LineAt H l v) ls lv
theorem LineAt.mono {H H' : Hp} {l : List Ln} {v : V} (s : Same H H') (h : LineAt H l v) : LineAt H' l v := by
 obtain ⟨A, ts, e, h1, h2⟩ := h
 exact ⟨A, ts, e, s _ _ h1, paired_mono s h2⟩
theorem LinesAt.mono {H H' : Hp} {D : Addr} {ls : List (List Ln)} (s : Same H H') (h : LinesAt H D ls) : LinesAt H' D ls := by
 obtain ⟨lv, h1, h2⟩ := h
 exact ⟨lv, s _ _ h1, Paired.mapP h2 fun _ _ q => q.mono s⟩
structure OrgAt2 (C : Addr) (H : Hp) (x : Addr) (bs : List (Str × Nat)) (rk : List (Str × Nat × Int)) (ks : List R) (ls : List (List Ln)) : Prop where
 o : OrgAt C H x bs ks
 r : ∃ (dx : Addr) (fs : List (Str × V)) (rl rn pp kl : Addr) (rvs pvs : List V) (kvs : List (Key × V)), H x = some (.ins C dx fs) /\ fs.lookup ("rank_list" : Str) = some (.ref rl) /\ fs.lookup ("rank_numbers" : Str) = some (.ref rn) /\ fs.lookup ("pipe_places" : Str) = some (.ref pp) /\ fs.lookup ("knob_lines" : Str) = some (.ref kl) /\
  H rl = some (.lst rvs) /\ Paired (fun (a : Th) y => TupAt H (tV a) y) (rk.map rk3) rvs /\ H rn = some (.dK kvs) /\ (∀ (i : Nat) r, rk[i]? = some r -> valV kvs (Sum.inr r.1) = some (.int (i : Nat))) /\
  H pp = some (.lst pvs) /\ Paired (fun q y => TupAt H (qV q) y) (plc (rk.map rkN)) pvs /\ LinesAt H kl ls
 nr : rk.length <= 12
 nz : ∀ r ∈ rk, r.2.1 <= 97
 nl : ls.length = ks.length
theorem OrgAt2.mono {C : Addr} {H H' : Hp} {x : Addr} {bs : List (Str × Nat)} {rk : List (Str × Nat × Int)} {ks : List R} {ls : List (List Ln)} (s : Same H H') (h : OrgAt2 C H x bs rk ks ls) : OrgAt2 C H' x bs rk ks ls := by
 obtain ⟨o, ⟨dx, fs, rl, rn, pp, kl, rvs, pvs, kvs, h1, l1, l2, l3, l4, h2, h3, h4, h5, h6, h7, h8⟩, a, b, c⟩ := h
 exact ⟨o.mono s, ⟨dx, fs, rl, rn, pp, kl, rvs, pvs, kvs, s _ _ h1, l1, l2, l3, l4, s _ _ h2, paired_mono s h3, s _ _ h4, h5, s _ _ h6, paired_mono s h7, h8.mono s⟩, a, b, c⟩
structure LastL (ρ : V -> R) (us : List V) (i : Nat) : Prop where
 all : ∀ j, j < i -> ∃ v, us[us.length - 1 - j]? = some v /\ (ρ v).w = "line"
 lt : i < us.length
 no : ∃ v, us[us.length - 1 - i]? = some v /\ ¬ (ρ v).w = "line"
def szR (r : R) : Int := match r.rest with
 | [.int m] => m
 | _ => 0
abbrev keyOf (ρ : V -> R) (us : List V) (bd : Str) (n : Int) : Bool := (us.filter (pw ρ "board")).any fun v => pn ρ bd v && decide (n < szR (ρ v))
structure LineOk (ρ : V -> R) (us : List V) (ro : R) : Prop where
 ex : ∃ (cnt : Nat) (v : V) (sh lo hi : Int) (bd : Str) (rs : List V), ro.rest = [.int sh, .int lo, .int hi] /\ LastL ρ us cnt /\ cnt < 4 /\ us[us.length - 1 - cnt]? = some v /\ (ρ v).w = "stop" /\ (ρ v).rest = .str bd :: rs /\ lo <= hi /\ keyOf ρ us bd hi = true
abbrev BoardsOk (ρ : V -> R) (us : List V) : Prop := ∀ v ∈ us, (ρ v).w = "board" -> ∃ m, (ρ v).rest = [.int m]
structure RowOk2 (K : PySem.W.Frag) (aB aP aM : Addr) (ρ : V -> R) (vs : List V) (r : R) : Prop where
 ns : ¬ r.w = "step"
 parts : ∃ (ap : Addr) (ps : List Str), PySem.W.nsIn K aP r.w = some (some (.ref ap)) /\ KTup K ap (ps.map V.str) /\ (V.str r.nm :: r.rest).length = ps.length /\ ps.length <= 10 /\
  ∀ (i : Nat) x y, (V.str r.nm :: r.rest)[i]? = some x -> ps[i]? = some y -> PartOk K aB ρ vs x y
 room : (r.w = "line" /\ PySem.W.nsIn K aM r.w = some none) \/ ∃ (m : Int) (t : Tok), PySem.W.nsIn K aM r.w = some (some (.int m t)) /\ (((vs.filter (pw ρ r.w)).length : Nat) : Int) < m
 line : r.w = "line" -> LineOk ρ vs r
 bds : BoardsOk ρ vs
def lnOf (rk : List (Str × Nat × Int)) (r : R) : Ln := match r.rest with
 | [.int sh, .int lo, .int hi] => ⟨(rk.map (·.1)).idxOf r.nm, sh, lo, hi⟩
 | _ => ⟨0, 0, 0, 0⟩
def putL (acc : List (List Ln)) (l : Ln) : List (List Ln) := match acc.getLast? with
 | some z => acc.dropLast ++ [z ++ [l]]
 | none => []
def lnStep (rk : List (Str × Nat × Int)) (acc : List (List Ln)) (r : R) : List (List Ln) := if inK r.w = true then acc ++ [[]] else if r.w = "line" then putL acc (lnOf rk r) else acc
def linesOf (rk : List (Str × Nat × Int)) (rs : List R) : List (List Ln) := rs.foldl (lnStep rk) []
theorem linesOf_snoc (rk : List (Str × Nat × Int)) (rs : List R) (r : R) : linesOf rk (rs ++ [r]) = lnStep rk (linesOf rk rs) r := by
 unfold linesOf
 rw [List.foldl_append]
 rfl
theorem putL_snoc (acc : List (List Ln)) (z : List Ln) (l : Ln) : putL (acc ++ [z]) l = acc ++ [z ++ [l]] := by
 unfold putL
 rw [List.getLast?_concat, List.dropLast_concat]
structure Ok4 (K : PySem.W.Frag) (aB aP aM : Addr) (ρ : V -> R) (us : List V) (bs : List (Str × Nat)) (rk : List (Str × Nat × Int)) (ks : List R) : Prop where
 kinds : ∀ v ∈ us, (ρ v).w = "board" \/ (ρ v).w = "rank" \/ (ρ v).w = "line" \/ (ρ v).w = "stop" \/ (ρ v).w = "coupler" \/ (ρ v).w = "mute"
 eb : (us.filter (pw ρ "board")).map ρ = bs.map brow
 er : (us.filter (pw ρ "rank")).map ρ = rk.map rrow
 ek : (us.filter (fun v => inK (ρ v).w)).map ρ = ks
 ln : ∀ (i : Nat) v, us[i]? = some v -> (ρ v).w = "line" -> (∃ (j : Nat) (r : Str × Nat × Int) (sh lo hi : Int), rk[j]? = some r /\ r.1 = (ρ v).nm /\ (ρ v).rest = [.int sh, .int lo, .int hi]) /\ ∃ u ∈ us.take i, inK (ρ u).w = true
 b0 : 1 <= bs.length
 b5 : bs.length <= 5
 sz : ∀ b ∈ bs, b.2 <= 61
 nr : rk.length <= 12
 nz : ∀ r ∈ rk, r.2.1 <= 97
 nk : ks.length <= 100
 nb : (bs.map (·.1)).Nodup
 nrr : (rk.map (·.1)).Nodup
 nn : (ks.map (·.nm)).Nodup
 len : us.length <= 150
 ok : ∀ (i : Nat) v, us[i]? = some v -> RowOk2 K aB aP aM ρ (us.take i) (ρ v)
theorem Ok4.none {K : PySem.W.Frag} {aB aP aM : Addr} {ρ : V -> R} {us : List V} {bs : List (Str × Nat)} {rk : List (Str × Nat × Int)} {ks : List R} (h : Ok4 K aB aP aM ρ us bs rk ks) : us.filter (pw ρ "step") = [] := by
 refine List.filter_eq_nil_iff.mpr fun v hv => ?_
 unfold pw
 rcases h.kinds v hv with e | e | e | e | e | e <;> rw [e] <;> decide +kernel
end Og
namespace Og
open PySem L2
abbrev Pt := Nat × Nat
def Wlk (nx : Pt -> Option Pt) (p0 : Pt) (ps : List Pt) : Prop := ∀ (i : Nat) (p q : Pt), (p0 :: ps)[i]? = some p -> (p0 :: ps)[i + 1]? = some q -> nx p = some q
def szB (s0 s1 b : Nat) : Nat := if b = 0 then s0 else s1
def enc (s0 : Nat) (p : Pt) : Nat := p.1 * s0 + p.2
abbrev Way := Option (Nat × Int)
def wy (w0 w1 : Way) (b : Nat) : Way := if b = 0 then w0 else w1
def nxt (s0 s1 : Nat) (w0 w1 : Way) (p : Pt) : Option Pt := match wy w0 w1 p.1 with
 | none => none
 | some (g, s) => if 0 <= (p.2 : Int) + s /\ (p.2 : Int) + s < (szB s0 s1 g : Nat) then some (g, ((p.2 : Int) + s).toNat) else none
structure OnB (s0 s1 : Nat) (p : Pt) : Prop where
 b : p.1 < 2
 n : p.2 < szB s0 s1 p.1
structure Fit (kbs : List Kb) (D : Nat) (w0 w1 : Way) : Prop where
 out : ∀ k z, D.testBit k = true -> kbs[k]? = some z -> ∃ j1 j2 s, z = .cp j1 j2 s /\ wy w0 w1 j1 = some (j2, s) /\ j2 < 2
 back : ∀ b g s, b < 2 -> wy w0 w1 b = some (g, s) -> ∃ k, D.testBit k = true /\ kbs[k]? = some (.cp b g s)
end Og
namespace Og
open PySem L2
inductive RchP (nx : Pt -> Option Pt) (hd : Pt -> Prop) : Pt -> Prop
 | one {p q : Pt} : hd p -> nx p = some q -> RchP nx hd q
 | more {p q : Pt} : RchP nx hd p -> nx p = some q -> RchP nx hd q
structure Fit2 (kbs : List Kb) (D : Nat) (w0 w1 : Way) : Prop where
 out : ∀ (k : Nat) (z : Kb), D.testBit k = true -> kbs[k]? = some z -> (∃ w i, z = .pl w i) \/ ∃ j1 j2 s, z = .cp j1 j2 s /\ wy w0 w1 j1 = some (j2, s) /\ j2 < 2
 back : ∀ b g s, b < 2 -> wy w0 w1 b = some (g, s) -> ∃ k : Nat, D.testBit k = true /\ kbs[k]? = some (.cp b g s)
end Og
namespace L2
open PySem PySem.Spec PySem.Calls PyProof.Rows
section
variable {X : Cx}
end
end L2
namespace L2
open PySem PySem.Spec PySem.Calls PyProof.Rows
section
variable {X : Cx}
end
end L2
namespace Og
open PySem L2 PyProof.Rows
variable {K : PySem.W.Frag}
structure KF2 (K : PySem.W.Frag) (aB aP aM : Addr) : Prop where
 f : KF K aB aP aM
 pR : ∃ a, PySem.W.nsIn K aP "rank" = some (some (.ref a)) /\ KTup K a (["new", "pipes", "wind"].map fun s : String => V.str s)
 pL : ∃ a, PySem.W.nsIn K aP "line" = some (some (.ref a)) /\ KTup K a (["rank", "shift", "low", "high"].map fun s : String => V.str s)
 bP : ∃ a, PySem.W.nsIn K aB "pipes" = some (some (.ref a)) /\ KTup K a [.int 1, .int 97]
 bW : ∃ a, PySem.W.nsIn K aB "wind" = some (some (.ref a)) /\ KTup K a [.int 0, .int 1000000000]
 bS : ∃ a, PySem.W.nsIn K aB "shift" = some (some (.ref a)) /\ KTup K a [.int (-200), .int 200]
 bLo : ∃ a, PySem.W.nsIn K aB "low" = some (some (.ref a)) /\ KTup K a [.int 0, .int 60]
 bHi : ∃ a, PySem.W.nsIn K aB "high" = some (some (.ref a)) /\ KTup K a [.int 0, .int 60]
 bR : PySem.W.nsIn K aB "rank" = some none
 mR : ∃ t, PySem.W.nsIn K aM "rank" = some (some (.int 12 t))
 mL : PySem.W.nsIn K aM "line" = some none
section
variable {aB aP aM : Addr} {ρ : V -> R} {vs : List V} {wn : List (Str × Str)} {t : Str}
theorem row2_of {r : R} (h : RowOk K aB aP aM ρ vs r) (hb : BoardsOk ρ vs) : RowOk2 K aB aP aM ρ vs r := ⟨h.ns, h.parts, .inr h.room, fun z => absurd z h.nl, hb⟩
theorem row_plain (F : KF K aB aP aM) {wd : Str} (hw : wd = "stop" \/ wd = "mute") (e : wnOf ρ vs = wn) (ht : isNm t) (h : ∀ w ∈ named, wnT wn w t = false) (hc : wnC wn wd < mostN wd) {a : Str} (ha : isNm a) (ha' : wnT wn "board" a = true) : RowOk K aB aP aM ρ vs ⟨wd, t, [.str a]⟩ := by
 have parts : ∀ (j : Nat) x (y : Str), [V.str t, .str a][j]? = some x -> (["new", "board"] : List Str)[j]? = some y -> PartOk K aB ρ vs x y := fun j x y hx hy => by
  match j, hx, hy with
  | 0, hx, hy =>
   cases (Option.some.inj hx)
   cases (Option.some.inj hy)
   exact part_new F e ht h
  | 1, hx, hy =>
   cases (Option.some.inj hx)
   cases (Option.some.inj hy)
   exact part_board F e ha ha'
  | j + 2, hx, hy => simp at hy
 have hcnt := cnt_wn ρ vs wd
 rw [e] at hcnt
 rcases hw with rfl | rfl
 ·obtain ⟨ap, g1, g2⟩ := F.pS
  obtain ⟨tk, g5⟩ := F.mS
  have hm : mostN "stop" = 24 := by decide +kernel
  refine ⟨by show ¬ ("stop" : Str) = "step"; decide +kernel, by show ¬ ("stop" : Str) = "line"; decide +kernel, ⟨ap, ["new", "board"], g1, g2, rfl, by decide, parts⟩, ⟨24, tk, g5, ?_⟩⟩
  show (((vs.filter (pw ρ "stop")).length : Nat) : Int) < 24
  omega
 ·obtain ⟨ap, g1, g2⟩ := F.pM
  obtain ⟨tk, g5⟩ := F.mM
  have hm : mostN "mute" = 5 := by decide +kernel
  refine ⟨by show ¬ ("mute" : Str) = "step"; decide +kernel, by show ¬ ("mute" : Str) = "line"; decide +kernel, ⟨ap, ["new", "board"], g1, g2, rfl, by decide, parts⟩, ⟨5, tk, g5, ?_⟩⟩
  show (((vs.filter (pw ρ "mute")).length : Nat) : Int) < 5
  omega
theorem row2_rank (F : KF2 K aB aP aM) (e : wnOf ρ vs = wn) (ht : isNm t) (h : ∀ w ∈ named, wnT wn w t = false) (hc : wnC wn "rank" < 12) {n : Nat} {wi : Int} (h1 : 1 <= n) (h2 : n <= 97) (h3 : 0 <= wi) (h4 : wi <= 1000000000) (hb : BoardsOk ρ vs) : RowOk2 K aB aP aM ρ vs (rrow (t, n, wi)) := by
 obtain ⟨ap, g1, g2⟩ := F.pR
 obtain ⟨ab, g3, g4⟩ := F.bP
 obtain ⟨aw, g6, g7⟩ := F.bW
 obtain ⟨tk, g5⟩ := F.mR
 refine ⟨by show ¬ ("rank" : Str) = "step"; decide +kernel, ⟨ap, ["new", "pipes", "wind"], g1, g2, rfl, by decide, fun j x y hx hy => ?_⟩, .inr ⟨12, tk, g5, ?_⟩, fun z => absurd z (by show ¬ ("rank" : Str) = "line"; decide +kernel), hb⟩
 ·match j, hx, hy with
  | 0, hx, hy =>
   cases (Option.some.inj hx)
   cases (Option.some.inj hy)
   exact part_new F.f e ht h
  | 1, hx, hy =>
   cases (Option.some.inj hx)
   cases (Option.some.inj hy)
   exact .inl ⟨((n : Nat) : Int), 1, 97, ab, rfl, g3, g4, by omega, by omega⟩
  | 2, hx, hy =>
   cases (Option.some.inj hx)
   cases (Option.some.inj hy)
   exact .inl ⟨_, 0, 1000000000, aw, rfl, g6, g7, h3, h4⟩
  | j + 3, hx, hy => simp at hy
 ·rw [cnt_wn, e]
  show ((wnC wn "rank" : Nat) : Int) < 12
  omega
theorem row2_line (F : KF2 K aB aP aM) (e : wnOf ρ vs = wn) (ht : isNm t) (h : wnT wn "rank" t = true) {sh lo hi : Int} (b1 : -200 <= sh) (b2 : sh <= 200) (b3 : 0 <= lo) (b4 : lo <= 60) (b5 : 0 <= hi) (b6 : hi <= 60) (hb : BoardsOk ρ vs) (hl : LineOk ρ vs ⟨"line", t, [.int sh, .int lo, .int hi]⟩) : RowOk2 K aB aP aM ρ vs ⟨"line", t, [.int sh, .int lo, .int hi]⟩ := by
 obtain ⟨ap, g1, g2⟩ := F.pL
 obtain ⟨a1, g3, g4⟩ := F.bS
 obtain ⟨a2, g5, g6⟩ := F.bLo
 obtain ⟨a3, g7, g8⟩ := F.bHi
 refine ⟨by show ¬ ("line" : Str) = "step"; decide +kernel, ⟨ap, ["rank", "shift", "low", "high"], g1, g2, rfl, by decide, fun j x y hx hy => ?_⟩, .inl ⟨rfl, F.mL⟩, fun _ => hl, hb⟩
 match j, hx, hy with
 | 0, hx, hy =>
  cases (Option.some.inj hx)
  cases (Option.some.inj hy)
  exact .inr (.inr ⟨F.bR, by decide +kernel, _, rfl, ht, by rw [tld_wn, e]; exact h⟩)
 | 1, hx, hy =>
  cases (Option.some.inj hx)
  cases (Option.some.inj hy)
  exact .inl ⟨_, -200, 200, a1, rfl, g3, g4, b1, b2⟩
 | 2, hx, hy =>
  cases (Option.some.inj hx)
  cases (Option.some.inj hy)
  exact .inl ⟨_, 0, 60, a2, rfl, g5, g6, b3, b4⟩
 | 3, hx, hy =>
  cases (Option.some.inj hx)
  cases (Option.some.inj hy)
  exact .inl ⟨_, 0, 60, a3, rfl, g7, g8, b5, b6⟩
 | j + 4, hx, hy => simp at hy
end
structure Ok5 (K : PySem.W.Frag) (aB aP aM : Addr) (ρ : V -> R) (us : List V) (bs : List (Str × Nat)) (rk : List (Str × Nat × Int)) (ks : List R) : Prop where
 kinds : ∀ v ∈ us, (ρ v).w = "board" \/ (ρ v).w = "rank" \/ (ρ v).w = "line" \/ (ρ v).w = "stop" \/ (ρ v).w = "coupler" \/ (ρ v).w = "mute"
 eb : (us.filter (pw ρ "board")).map ρ = bs.map brow
 er : (us.filter (pw ρ "rank")).map ρ = rk.map rrow
 ek : (us.filter (fun v => inK (ρ v).w)).map ρ = ks
 ln : ∀ (i : Nat) v, us[i]? = some v -> (ρ v).w = "line" -> (∃ (j : Nat) (r : Str × Nat × Int) (sh lo hi : Int), rk[j]? = some r /\ r.1 = (ρ v).nm /\ (ρ v).rest = [.int sh, .int lo, .int hi]) /\ ∃ u ∈ us.take i, inK (ρ u).w = true
 ok : ∀ (i : Nat) v, us[i]? = some v -> RowOk2 K aB aP aM ρ (us.take i) (ρ v)
section
variable {aB aP aM : Addr} {ρ : V -> R} {us : List V} {v : V} {bs bs' : List (Str × Nat)} {rk rk' : List (Str × Nat × Int)} {ks ks' : List R}
theorem tld_iff {w t : Str} : tld ρ us w t = true ↔ ∃ v ∈ us, (ρ v).w = w /\ (ρ v).nm = t := by
 unfold tld
 rw [List.any_eq_true]
 constructor
 ·rintro ⟨v, hv, hn⟩
  obtain ⟨h1, h2⟩ := List.mem_filter.mp hv
  exact ⟨v, h1, V.str.inj (of_decide_eq_true h2), V.str.inj (of_decide_eq_true hn)⟩
 ·rintro ⟨v, hv, h1, h2⟩
  exact ⟨v, List.mem_filter.mpr ⟨hv, decide_eq_true (congrArg V.str h1)⟩, decide_eq_true (congrArg V.str h2)⟩
theorem Ok5.nil : Ok5 K aB aP aM ρ [] [] [] [] := ⟨(fun _ h => nomatch h), rfl, rfl, rfl, (fun i v h => by simp at h), (fun i v h => by simp at h)⟩
theorem Ok5.mem_b (h : Ok5 K aB aP aM ρ us bs rk ks) (hv : v ∈ us) (hw : (ρ v).w = "board") : ∃ b ∈ bs, brow b = ρ v := by
 have : ρ v ∈ (us.filter (pw ρ "board")).map ρ := List.mem_map_of_mem (List.mem_filter.mpr ⟨hv, decide_eq_true (congrArg V.str hw)⟩)
 rw [h.eb] at this
 exact List.mem_map.mp this
theorem Ok5.mem_r (h : Ok5 K aB aP aM ρ us bs rk ks) (hv : v ∈ us) (hw : (ρ v).w = "rank") : ∃ b ∈ rk, rrow b = ρ v := by
 have : ρ v ∈ (us.filter (pw ρ "rank")).map ρ := List.mem_map_of_mem (List.mem_filter.mpr ⟨hv, decide_eq_true (congrArg V.str hw)⟩)
 rw [h.er] at this
 exact List.mem_map.mp this
theorem Ok5.mem_k (h : Ok5 K aB aP aM ρ us bs rk ks) (hv : v ∈ us) (hw : inK (ρ v).w = true) : ρ v ∈ ks := by
 have : ρ v ∈ (us.filter (fun v => inK (ρ v).w)).map ρ := List.mem_map_of_mem (List.mem_filter.mpr ⟨hv, hw⟩)
 rw [h.ek] at this
 exact this
theorem Ok5.bds (h : Ok5 K aB aP aM ρ us bs rk ks) : BoardsOk ρ us := fun v hv hw => by
 obtain ⟨b, _, e⟩ := h.mem_b hv hw
 exact ⟨_, by rw [← e]⟩
theorem Ok5.has_b (h : Ok5 K aB aP aM ρ us bs rk ks) {b : Str × Nat} (hb : b ∈ bs) : ∃ v ∈ us, ρ v = brow b := by
 have : brow b ∈ (us.filter (pw ρ "board")).map ρ := by rw [h.eb]; exact List.mem_map_of_mem hb
 obtain ⟨v, hv, e⟩ := List.mem_map.mp this
 exact ⟨v, (List.mem_filter.mp hv).1, e⟩
theorem Ok5.has_r (h : Ok5 K aB aP aM ρ us bs rk ks) {r : Str × Nat × Int} (hr : r ∈ rk) : ∃ v ∈ us, ρ v = rrow r := by
 have : rrow r ∈ (us.filter (pw ρ "rank")).map ρ := by rw [h.er]; exact List.mem_map_of_mem hr
 obtain ⟨v, hv, e⟩ := List.mem_map.mp this
 exact ⟨v, (List.mem_filter.mp hv).1, e⟩
theorem Ok5.told_b (h : Ok5 K aB aP aM ρ us bs rk ks) {b : Str × Nat} (hb : b ∈ bs) : wnT (wnOf ρ us) "board" b.1 = true := by
 obtain ⟨v, hv, e⟩ := h.has_b hb
 rw [← tld_wn, tld_iff]
 exact ⟨v, hv, by rw [e], by rw [e]⟩
theorem Ok5.told_r (h : Ok5 K aB aP aM ρ us bs rk ks) {r : Str × Nat × Int} (hr : r ∈ rk) : wnT (wnOf ρ us) "rank" r.1 = true := by
 obtain ⟨v, hv, e⟩ := h.has_r hr
 rw [← tld_wn, tld_iff]
 exact ⟨v, hv, by rw [e], by rw [e]⟩
theorem inK_of {w : Str} (h : w = "stop" \/ w = "coupler" \/ w = "mute") : inK w = true := by rcases h with rfl | rfl | rfl <;> decide +kernel
theorem Ok5.fresh (h : Ok5 K aB aP aM ρ us bs rk ks) {t : Str} (hb : ∀ b ∈ bs, b.1 ≠ t) (hr : ∀ r ∈ rk, r.1 ≠ t) (hk : ∀ k ∈ ks, k.nm ≠ t) : ∀ w ∈ named, wnT (wnOf ρ us) w t = false := by
 intro w hw
 rw [← tld_wn, ← Bool.not_eq_true, tld_iff]
 rintro ⟨v, hv, hw', hn⟩
 simp only [List.mem_cons, List.mem_singleton, List.not_mem_nil, or_false] at hw
 rcases hw with rfl | rfl | rfl | rfl | rfl
 ·obtain ⟨b, hb', e⟩ := h.mem_b hv hw'
  exact hb b hb' (by rw [← hn, ← e])
 ·obtain ⟨b, hb', e⟩ := h.mem_r hv hw'
  exact hr b hb' (by rw [← hn, ← e])
 ·exact hk _ (h.mem_k hv (inK_of (.inl hw'))) hn
 ·exact hk _ (h.mem_k hv (inK_of (.inr (.inl hw')))) hn
 ·exact hk _ (h.mem_k hv (inK_of (.inr (.inr hw')))) hn
theorem Ok5.cnt_b (h : Ok5 K aB aP aM ρ us bs rk ks) : wnC (wnOf ρ us) "board" = bs.length := by
 rw [← cnt_wn, ← List.length_map (f := ρ), h.eb, List.length_map]
theorem Ok5.cnt_r (h : Ok5 K aB aP aM ρ us bs rk ks) : wnC (wnOf ρ us) "rank" = rk.length := by
 rw [← cnt_wn, ← List.length_map (f := ρ), h.er, List.length_map]
theorem Ok5.cnt_k (h : Ok5 K aB aP aM ρ us bs rk ks) {w : Str} (hw : w = "stop" \/ w = "coupler" \/ w = "mute") : wnC (wnOf ρ us) w = (ks.filter fun r => decide (V.str r.w = V.str w)).length := by
 rw [← cnt_wn, ← h.ek, List.filter_map, List.length_map, List.filter_filter]
 refine congrArg List.length (List.filter_congr fun v _ => ?_)
 show pw ρ w v = (pw ρ w v && inK (ρ v).w)
 by_cases e : (ρ v).w = w
 ·rw [inK_of (by rw [e]; exact hw), Bool.and_true]
 ·have : pw ρ w v = false := decide_eq_false fun z => e (V.str.inj z)
  rw [this, Bool.false_and]
theorem Ok5.snoc (h : Ok5 K aB aP aM ρ us bs rk ks) (hk : (ρ v).w = "board" \/ (ρ v).w = "rank" \/ (ρ v).w = "line" \/ (ρ v).w = "stop" \/ (ρ v).w = "coupler" \/ (ρ v).w = "mute")
  (eb : ((us ++ [v]).filter (pw ρ "board")).map ρ = bs'.map brow) (er : ((us ++ [v]).filter (pw ρ "rank")).map ρ = rk'.map rrow) (ek : ((us ++ [v]).filter (fun v => inK (ρ v).w)).map ρ = ks')
  (hr : ∀ (j : Nat) r, rk[j]? = some r -> rk'[j]? = some r)
  (hl : (ρ v).w = "line" -> (∃ (j : Nat) (r : Str × Nat × Int) (sh lo hi : Int), rk'[j]? = some r /\ r.1 = (ρ v).nm /\ (ρ v).rest = [.int sh, .int lo, .int hi]) /\ ∃ u ∈ us, inK (ρ u).w = true)
  (ok : RowOk2 K aB aP aM ρ us (ρ v)) : Ok5 K aB aP aM ρ (us ++ [v]) bs' rk' ks' := by
 have at_ : ∀ {i : Nat} {u : V}, (us ++ [v])[i]? = some u -> us[i]? = some u /\ (us ++ [v]).take i = us.take i \/ u = v /\ (us ++ [v]).take i = us := fun {i u} hi => by
  by_cases hlt : i < us.length
  ·rw [List.getElem?_append_left hlt] at hi
   exact .inl ⟨hi, List.take_append_of_le_length (Nat.le_of_lt hlt)⟩
  ·have h2 := (List.getElem?_eq_some_iff.mp hi).1
   rw [List.length_append, List.length_singleton] at h2
   have hil : i = us.length := by omega
   subst hil
   rw [List.getElem?_append_right (Nat.le_refl _), Nat.sub_self] at hi
   exact .inr ⟨(Option.some.inj hi).symm, by rw [List.take_append_of_le_length (Nat.le_refl _), List.take_length]⟩
 refine ⟨fun u hu => ?_, eb, er, ek, fun i u hi hw => ?_, fun i u hi => ?_⟩
 ·rcases List.mem_append.mp hu with h' | h'
  ·exact h.kinds u h'
  ·rw [List.mem_singleton.mp h']
   exact hk
 ·rcases at_ hi with ⟨h1, h2⟩ | ⟨rfl, h2⟩
  ·rw [h2]
   obtain ⟨⟨j, r, sh, lo, hi', g1, g2, g3⟩, g4⟩ := h.ln i u h1 hw
   exact ⟨⟨j, r, sh, lo, hi', hr j r g1, g2, g3⟩, g4⟩
  ·rw [h2]
   exact hl hw
 ·rcases at_ hi with ⟨h1, h2⟩ | ⟨rfl, h2⟩
  ·rw [h2]
   exact h.ok i u h1
  ·rw [h2]
   exact ok
theorem filt_yes {p : V -> Bool} (h : p v = true) : (us ++ [v]).filter p = us.filter p ++ [v] := by
 rw [List.filter_append, List.filter_cons, if_pos h]
 rfl
theorem filt_no {p : V -> Bool} (h : p v = false) : (us ++ [v]).filter p = us.filter p := by
 rw [List.filter_append, List.filter_cons, if_neg (by rw [h]; decide)]
 simp
end
structure Bld (K : PySem.W.Frag) (aB aP aM : Addr) (rows : List R) (bs : List (Str × Nat)) (rk : List (Str × Nat × Int)) (ks : List R) (ls : List (List Ln)) : Prop where
 ok : ∀ (ρ : V -> R) (us : List V), us.map ρ = rows -> Ok5 K aB aP aM ρ us bs rk ks
 ln0 : ks = [] -> ∀ rk', linesOf rk' rows = []
 ln : linesOf rk rows = ls
section
variable {aB aP aM : Addr} {rows : List R} {bs : List (Str × Nat)} {rk : List (Str × Nat × Int)} {ks : List R} {ls : List (List Ln)}
theorem Bld.nil : Bld K aB aP aM [] [] [] [] [] := ⟨fun ρ us e => by rw [List.map_eq_nil_iff.mp e]; exact Ok5.nil, fun _ _ => rfl, rfl⟩
theorem snoc_of {ρ : V -> R} {us : List V} {r : R} (e : us.map ρ = rows ++ [r]) : ∃ us' v, us = us' ++ [v] /\ us'.map ρ = rows /\ ρ v = r := by
 obtain ⟨a, b, rfl, h1, h2⟩ := List.map_eq_append_iff.mp e
 obtain ⟨v, l, rfl, h3, h4⟩ := List.map_eq_cons_iff.mp h2
 rw [List.map_eq_nil_iff.mp h4]
 exact ⟨a, v, rfl, h1, h3⟩
theorem Bld.board (F : KF2 K aB aP aM) (h : Bld K aB aP aM rows bs [] [] []) {t : Str} {n : Nat} (ht : isNm t) (hf : ∀ b ∈ bs, b.1 ≠ t) (hb : bs.length < 5) (h1 : 1 <= n) (h2 : n <= 61) : Bld K aB aP aM (rows ++ [brow (t, n)]) (bs ++ [(t, n)]) [] [] [] := by
 refine ⟨fun ρ us e => ?_, fun _ rk' => ?_, ?_⟩
 ·obtain ⟨us', v, rfl, e', hv⟩ := snoc_of e
  have O := h.ok ρ us' e'
  refine O.snoc (.inl (by rw [hv])) ?_ ?_ ?_ (fun _ _ h => h) (fun z => absurd (hv ▸ z) (by show ¬ ("board" : Str) = "line"; decide +kernel)) ?_
  ·rw [filt_yes (by unfold pw; rw [hv]; exact decide_eq_true rfl), List.map_append, O.eb, List.map_append, List.map_singleton, hv]
   rfl
  ·rw [filt_no (by unfold pw; rw [hv]; show decide (V.str "board" = V.str "rank") = false; decide +kernel), O.er]
  ·rw [filt_no (by rw [hv]; show inK "board" = false; decide +kernel), O.ek]
  ·rw [hv]
   exact row2_of (row_board F.f rfl ht (O.fresh hf (fun _ z => nomatch z) (fun _ z => nomatch z)) (by rw [O.cnt_b]; exact hb) h1 h2) O.bds
 ·rw [linesOf_snoc, h.ln0 rfl rk']
  rfl
 ·rw [linesOf_snoc, h.ln0 rfl []]
  rfl
theorem Bld.rank (F : KF2 K aB aP aM) (h : Bld K aB aP aM rows bs rk [] []) {t : Str} {n : Nat} {wi : Int} (ht : isNm t) (hf : ∀ b ∈ bs, b.1 ≠ t) (hr : ∀ r ∈ rk, r.1 ≠ t) (hc : rk.length < 12) (h1 : 1 <= n) (h2 : n <= 97) (h3 : 0 <= wi) (h4 : wi <= 1000000000) : Bld K aB aP aM (rows ++ [rrow (t, n, wi)]) bs (rk ++ [(t, n, wi)]) [] [] := by
 refine ⟨fun ρ us e => ?_, fun _ rk' => ?_, ?_⟩
 ·obtain ⟨us', v, rfl, e', hv⟩ := snoc_of e
  have O := h.ok ρ us' e'
  refine O.snoc (.inr (.inl (by rw [hv]))) ?_ ?_ ?_ (fun j r h => by rw [List.getElem?_append_left (List.getElem?_eq_some_iff.mp h).1]; exact h) (fun z => absurd (hv ▸ z) (by show ¬ ("rank" : Str) = "line"; decide +kernel)) ?_
  ·rw [filt_no (by unfold pw; rw [hv]; show decide (V.str "rank" = V.str "board") = false; decide +kernel), O.eb]
  ·rw [filt_yes (by unfold pw; rw [hv]; exact decide_eq_true rfl), List.map_append, O.er, List.map_append, List.map_singleton, hv]
   rfl
  ·rw [filt_no (by rw [hv]; show inK "rank" = false; decide +kernel), O.ek]
  ·rw [hv]
   exact row2_rank F rfl ht (O.fresh hf hr (fun _ z => nomatch z)) (by rw [O.cnt_r]; exact hc) h1 h2 h3 h4 O.bds
 ·rw [linesOf_snoc, h.ln0 rfl rk']
  rfl
 ·rw [linesOf_snoc, h.ln0 rfl _]
  rfl
theorem Bld.knobG (h : Bld K aB aP aM rows bs rk ks ls) {r : R} (hw : r.w = "stop" \/ r.w = "coupler" \/ r.w = "mute") (hr : ∀ (ρ : V -> R) (us : List V), us.map ρ = rows -> RowOk K aB aP aM ρ us r) : Bld K aB aP aM (rows ++ [r]) bs rk (ks ++ [r]) (ls ++ [[]]) := by
 have hK := inK_of hw
 refine ⟨fun ρ us e => ?_, fun z => by simp at z, ?_⟩
 ·obtain ⟨us', v, rfl, e', hv⟩ := snoc_of e
  have O := h.ok ρ us' e'
  refine O.snoc (.inr (.inr (.inr (by rw [hv]; exact hw)))) ?_ ?_ ?_ (fun _ _ h => h) (fun z => ?_) ?_
  ·rw [filt_no (by unfold pw; rw [hv]; rcases hw with e | e | e <;> rw [e] <;> decide +kernel), O.eb]
  ·rw [filt_no (by unfold pw; rw [hv]; rcases hw with e | e | e <;> rw [e] <;> decide +kernel), O.er]
  ·rw [filt_yes (by rw [hv]; exact hK), List.map_append, O.ek, List.map_singleton, hv]
  ·rw [hv] at z
   rcases hw with e | e | e <;> rw [e] at z <;> exact absurd z (by decide +kernel)
  ·rw [hv]
   exact row2_of (hr ρ us' e') O.bds
 ·rw [linesOf_snoc, h.ln]
  unfold lnStep
  rw [if_pos hK]
theorem Bld.coupler (F : KF2 K aB aP aM) (h : Bld K aB aP aM rows bs rk ks ls) {t a b : Str} {n m : Nat} {s : Int} (ht : isNm t) (hb : ∀ b ∈ bs, b.1 ≠ t) (hr : ∀ r ∈ rk, r.1 ≠ t) (hk : ∀ k ∈ ks, k.nm ≠ t) (hc : (ks.filter fun r => decide (V.str r.w = V.str "coupler")).length < 12) (ha : isNm a) (ha' : (a, n) ∈ bs) (hb1 : isNm b) (hb' : (b, m) ∈ bs) (h1 : -60 <= s) (h2 : s <= 60) :
  Bld K aB aP aM (rows ++ [⟨"coupler", t, [.str a, .str b, .int s]⟩]) bs rk (ks ++ [⟨"coupler", t, [.str a, .str b, .int s]⟩]) (ls ++ [[]]) :=
 h.knobG (.inr (.inl rfl)) fun ρ us e => by
  have O := h.ok ρ us e
  exact row_coupler F.f rfl ht (O.fresh hb hr hk) (by rw [O.cnt_k (.inr (.inl rfl))]; exact hc) ha (O.told_b ha') hb1 (O.told_b hb') h1 h2
theorem Bld.plain (F : KF2 K aB aP aM) (h : Bld K aB aP aM rows bs rk ks ls) {wd t a : Str} {n : Nat} (hw : wd = "stop" \/ wd = "mute") (ht : isNm t) (hb : ∀ b ∈ bs, b.1 ≠ t) (hr : ∀ r ∈ rk, r.1 ≠ t) (hk : ∀ k ∈ ks, k.nm ≠ t) (hc : (ks.filter fun r => decide (V.str r.w = V.str wd)).length < mostN wd) (ha : isNm a) (ha' : (a, n) ∈ bs) :
  Bld K aB aP aM (rows ++ [⟨wd, t, [.str a]⟩]) bs rk (ks ++ [⟨wd, t, [.str a]⟩]) (ls ++ [[]]) := by
 have hw3 : wd = "stop" \/ wd = "coupler" \/ wd = "mute" := by rcases hw with e | e; exact .inl e; exact .inr (.inr e)
 exact h.knobG hw3 fun ρ us e => by
  have O := h.ok ρ us e
  exact row_plain F.f hw rfl ht (O.fresh hb hr hk) (by rw [O.cnt_k hw3]; exact hc) ha (O.told_b ha')
def Tl (rows : List R) (bd : Str) (cnt : Nat) : Prop := ∃ (r0 : List R) (st : R) (lr : List R), rows = r0 ++ st :: lr /\ st.w = "stop" /\ st.rest = [.str bd] /\ lr.length = cnt /\ ∀ r ∈ lr, r.w = "line"
theorem Tl.stop (rows : List R) (t bd : Str) : Tl (rows ++ [⟨"stop", t, [.str bd]⟩]) bd 0 := ⟨rows, _, [], rfl, rfl, rfl, rfl, fun _ h => nomatch h⟩
theorem Tl.line {bd : Str} {cnt : Nat} {r : R} (h : Tl rows bd cnt) (hw : r.w = "line") : Tl (rows ++ [r]) bd (cnt + 1) := by
 obtain ⟨r0, st, lr, rfl, h1, h2, h3, h4⟩ := h
 refine ⟨r0, st, lr ++ [r], by simp, h1, h2, by simp [h3], fun x hx => ?_⟩
 rcases List.mem_append.mp hx with g | g
 ·exact h4 x g
 ·rw [List.mem_singleton.mp g]
  exact hw
theorem Bld.line (F : KF2 K aB aP aM) {l0 : List Ln} (h : Bld K aB aP aM rows bs rk ks (ls ++ [l0])) {bd : Str} {cnt : Nat} (T : Tl rows bd cnt) (hc : cnt < 4) {j n m : Nat} {t : Str} {wi sh lo hi : Int} (hj : rk[j]? = some (t, m, wi)) (hnd : (rk.map (·.1)).Nodup) (ht : isNm t) (hbd : (bd, n) ∈ bs) (hle : lo <= hi) (hn : hi < (n : Int)) (b1 : -200 <= sh) (b2 : sh <= 200) (b3 : 0 <= lo) (b6 : hi <= 60) :
  Bld K aB aP aM (rows ++ [⟨"line", t, [.int sh, .int lo, .int hi]⟩]) bs rk ks (ls ++ [l0 ++ [⟨j, sh, lo, hi⟩]]) := by
 obtain ⟨r0, st, lr, er, g1, g2, g3, g4⟩ := T
 have nK : inK "line" = false := by decide +kernel
 refine ⟨fun ρ us e => ?_, fun z => ?_, ?_⟩
 ·obtain ⟨us', v, rfl, e', hv⟩ := snoc_of e
  have O := h.ok ρ us' e'
  obtain ⟨u0, u1, eu, m1, m2⟩ := List.map_eq_append_iff.mp (e'.trans er)
  obtain ⟨sv, lv, e1, m3, m4⟩ := List.map_eq_cons_iff.mp m2
  subst e1
  have hsv : sv ∈ us' := by rw [eu]; simp
  have hlv : lv.length = cnt := by rw [← g3, ← m4, List.length_map]
  have hus : us'.length = u0.length + (cnt + 1) := by rw [eu, List.length_append, List.length_cons, hlv]
  refine O.snoc (.inr (.inr (.inl (by rw [hv])))) ?_ ?_ ?_ (fun _ _ h => h) (fun _ => ⟨⟨j, _, sh, lo, hi, hj, by rw [hv], by rw [hv]⟩, sv, hsv, by rw [m3, g1]; decide +kernel⟩) ?_
  ·rw [filt_no (by unfold pw; rw [hv]; show decide (V.str "line" = V.str "board") = false; decide +kernel), O.eb]
  ·rw [filt_no (by unfold pw; rw [hv]; show decide (V.str "line" = V.str "rank") = false; decide +kernel), O.er]
  ·rw [filt_no (by rw [hv]; exact nK), O.ek]
  ·rw [hv]
   have hst : us'[us'.length - 1 - cnt]? = some sv := by
    have : us'.length - 1 - cnt = u0.length := by omega
    rw [this, eu, List.getElem?_append_right (Nat.le_refl _), Nat.sub_self]
    rfl
   refine row2_line F rfl ht (O.told_r (List.mem_of_getElem? hj)) b1 b2 b3 (by omega) (by omega) b6 O.bds ⟨cnt, sv, sh, lo, hi, bd, [], rfl, ⟨fun i hi' => ?_, by omega, sv, hst, by rw [m3, g1]; decide +kernel⟩, hc, hst, by rw [m3, g1], by rw [m3, g2], hle, ?_⟩
   ·have hi2 : cnt - 1 - i < lv.length := by omega
    refine ⟨lv[cnt - 1 - i], ?_, ?_⟩
    ·have : us'.length - 1 - i = u0.length + ((cnt - 1 - i) + 1) := by omega
     rw [this, eu, List.getElem?_append_right (Nat.le_add_right _ _), Nat.add_sub_cancel_left, List.getElem?_cons_succ]
     exact List.getElem?_eq_getElem hi2
    ·refine g4 _ ?_
     rw [← m4]
     exact List.mem_map_of_mem (List.getElem_mem hi2)
   ·obtain ⟨u, hu, hub⟩ := O.has_b hbd
    rw [List.any_eq_true]
    refine ⟨u, List.mem_filter.mpr ⟨hu, ?_⟩, ?_⟩
    ·unfold pw
     rw [hub]
     exact decide_eq_true rfl
    ·show (pn ρ bd u && decide (hi < szR (ρ u))) = true
     unfold pn
     rw [hub, Bool.and_eq_true]
     exact ⟨decide_eq_true rfl, decide_eq_true hn⟩
 ·subst z
  have := h.ln0 rfl rk
  rw [h.ln] at this
  simp at this
 ·rw [linesOf_snoc, h.ln]
  unfold lnStep
  rw [if_neg (by show ¬ inK "line" = true; rw [nK]; decide), if_pos rfl, putL_snoc]
  have hjl := (List.getElem?_eq_some_iff.mp hj).1
  have : (rk.map (·.1)).idxOf t = j := by
   have hl : j < (rk.map (·.1)).length := by rw [List.length_map]; exact hjl
   have e2 : (rk.map (·.1))[j] = t := by
    rw [List.getElem_map]
    have := (List.getElem?_eq_some_iff.mp hj).2
    rw [this]
   rw [← e2]
   exact hnd.idxOf_getElem j hl
  show ls ++ [l0 ++ [⟨(rk.map (·.1)).idxOf t, sh, lo, hi⟩]] = _
  rw [this]
theorem Bld.fin {H : Hp} {vs : List V} (h : Bld K aB aP aM rows bs rk ks ls) (hv : Paired (fun (r : R) v => TupAt H r.v v) rows vs) (b0 : 1 <= bs.length) (b5 : bs.length <= 5) (sz : ∀ b ∈ bs, b.2 <= 61) (nr : rk.length <= 12) (nz : ∀ r ∈ rk, r.2.1 <= 97) (nk : ks.length <= 100) (nb : (bs.map (·.1)).Nodup) (nrr : (rk.map (·.1)).Nodup) (nn : (ks.map (·.nm)).Nodup) (len : rows.length <= 150) :
  Rows H (rho H) vs /\ Ok4 K aB aP aM (rho H) vs bs rk ks /\ linesOf rk (vs.map (rho H)) = ls := by
 have em := rho_map hv
 have O := h.ok (rho H) vs em
 refine ⟨fun v hv' => ?_, ⟨O.kinds, O.eb, O.er, O.ek, O.ln, b0, b5, sz, nr, nz, nk, nb, nrr, nn, by rw [← hv.length]; exact len, O.ok⟩, by rw [em]; exact h.ln⟩
 obtain ⟨r, _, hr⟩ := paired_mem hv hv'
 rw [rho_at hr]
 exact hr
end
end Og
namespace Og
open PySem L2 PyProof.Rows
def mixO (c k : Int) : Int := ((c % 1000003 + 7919 * k * k + k + 1) * 48271 % 2147483629) * ((c % 1000003 + 7919 * k * k + k + 1) * 48271 % 2147483629) % 2147483587
def mixX (c k : Int) : Int := if (decide ((10 : Int) ^ (18 : Int).toNat <= c) && decide (0 < c / 2 ^ (31 * k).toNat)) = true then c / 2 ^ (31 * k).toNat % 2147483587 else mixO c k
theorem str_ext {a b : Str} (h : a.cps.toList = b.cps.toList) : a = b := by
 cases a; cases b; simp at h; simp [h]
theorem let_at : ∀ n < 26, letters.cps.toList[n]? = some (97 + n) := by decide +kernel
theorem let_ix {i : Int} (h0 : 0 <= i) (h1 : i < 26) : atI letters.cps.toList i = some (97 + i.toNat) := by
 have h := atI_nat (let_at i.toNat (by omega))
 have e : ((i.toNat : Nat) : Int) = i := by omega
 rw [e] at h
 exact h
theorem nil_cps : (("" : Str)).cps = #[] := by decide +kernel
theorem join_chars (cs : List Nat) : (Txt.join ("" : Str) (cs.map fun c => (⟨#[c]⟩ : Str))).cps.toList = cs := by
 have key : ∀ (l : List Nat) (acc : Array Nat), ((l.map fun c => (⟨#[c]⟩ : Str)).foldl (fun acc p => acc ++ ("" : Str).cps ++ p.cps) acc).toList = acc.toList ++ l := by
  intro l
  induction l with
  | nil => intro acc; simp
  | cons c l ih =>
   intro acc
   rw [List.map_cons, List.foldl_cons, ih, nil_cps]
   simp
 unfold Txt.join Builtin.Str.glued
 cases cs with
 | nil => decide +kernel
 | cons c l =>
  show (((((c :: l).map fun c => (⟨#[c]⟩ : Str)).drop 1)).foldl (fun acc p => acc ++ ("" : Str).cps ++ p.cps) #[c]).toList = _
  rw [List.map_cons, List.drop_succ_cons, List.drop_zero, key]
  rfl
theorem slice_take {z : Str} {n : Nat} (h : n <= z.length) : (Txt.slice z none (some (n : Int))).cps.toList = z.cps.toList.take n := by
 have hl : z.length = z.cps.toList.length := by simp [Str.length]
 have e := beq_iff_eq.mp (slice_closes_to (x := z) (j := (n : Int)) ⟨by omega, by omega⟩)
 rw [e, List.toList_toArray]
 simp
theorem slice_drop {z : Str} {n : Nat} (h : n <= z.length) : (Txt.slice z (some (n : Int)) none).cps.toList = z.cps.toList.drop n := by
 have hl : z.length = z.cps.toList.length := by simp [Str.length]
 rw [slice_from_eq (x := z) (i := (n : Int)) (b := (z.length : Int)) (by omega) (by omega) rfl, List.toList_toArray, Int.toNat_natCast]
 refine List.take_of_length_le ?_
 rw [List.length_drop]
 omega
def szN (c : Int) : Nat := (2 + c % 7).toNat
theorem szN_le (c : Int) : 2 <= szN c /\ szN c <= 8 := by unfold szN; omega
def baseL (c : Int) : List Nat := (List.range (szN c)).map fun (j : Nat) => 97 + (mixX (c / 7) (j : Nat) % 26).toNat
theorem base_len (c : Int) : (baseL c).length = szN c := by simp [baseL]
theorem base_in {c : Int} {x : Nat} (h : x ∈ baseL c) : 97 <= x /\ x <= 122 := by
 obtain ⟨j, _, rfl⟩ := List.mem_map.mp h
 have h1 : 0 <= mixX (c / 7) (j : Nat) % 26 := Int.emod_nonneg _ (by decide)
 have h2 : mixX (c / 7) (j : Nat) % 26 < 26 := Int.emod_lt_of_pos _ (by decide)
 omega
def atN (c : Int) : Nat := (c / 49 % (2 + c % 7 - 1)).toNat
theorem atN_le (c : Int) : atN c + 2 <= szN c := by
 unfold atN szN
 have h1 : 0 <= c / 49 % (2 + c % 7 - 1) := Int.emod_nonneg _ (by omega)
 have h2 : c / 49 % (2 + c % 7 - 1) < 2 + c % 7 - 1 := Int.emod_lt_of_pos _ (by omega)
 omega
def nameL (c : Int) (k : Nat) : List Nat := (baseL c).take (atN c) ++ [97 + k / 26, 97 + k % 26] ++ (baseL c).drop (atN c + 2)
def nmS (c : Int) (k : Nat) : Str := ⟨(nameL c k).toArray⟩
theorem nm_len (c : Int) (k : Nat) : (nameL c k).length = szN c := by
 have := atN_le c
 have := base_len c
 simp [nameL]
 omega
theorem nm_ok (c : Int) {k : Nat} (h : k < 676) : isNm (nmS c k) := by
 have := szN_le c
 have e : (nmS c k).length = szN c := by simp [nmS, Str.length, nm_len]
 refine ⟨by omega, by omega, fun x hx => ?_⟩
 have hx' : x ∈ nameL c k := by simpa [nmS] using hx
 unfold nameL at hx'
 rcases List.mem_append.mp hx' with hx' | hx'
 ·rcases List.mem_append.mp hx' with hx' | hx'
  ·exact base_in (List.mem_of_mem_take hx')
  ·have : k / 26 < 26 := by omega
   have : k % 26 < 26 := Nat.mod_lt _ (by decide)
   rcases List.mem_cons.mp hx' with rfl | hx'
   ·omega
   ·rw [List.mem_singleton.mp hx']
    omega
 ·exact base_in (List.mem_of_mem_drop hx')
theorem nm_inj {c : Int} {k l : Nat} (h : nmS c k = nmS c l) : k = l := by
 have h1 : nameL c k = nameL c l := by
  have := congrArg (fun s : Str => s.cps.toList) h
  simpa [nmS] using this
 unfold nameL at h1
 rw [List.append_assoc, List.append_assoc] at h1
 have h2 := List.append_cancel_left h1
 have e1 : 97 + k / 26 = 97 + l / 26 := by
  have := congrArg (fun t => t.head?) h2
  simpa using this
 have e2 : 97 + k % 26 = 97 + l % 26 := by
  have := congrArg (fun t => t[1]?) h2
  simpa using this
 omega
end Og
namespace Og
open PySem L2 PyProof.Rows
theorem most_val {w : Str} (h : w = "stop" \/ w = "coupler" \/ w = "mute") : valV (mergeK [] [(Sum.inr "coupler", V.int 12), (Sum.inr "mute", .int 5), (Sum.inr "stop", .int 24)]) (Sum.inr w : Key) = some (.int (mostN w : Nat)) := by
 rcases h with rfl | rfl | rfl <;> decide +kernel
theorem Kbs.snoc {n : Nat} {kbs : List Kb} {k : Kb} (h : ∀ z ∈ kbs, z.ok n) (hr : ∀ (i : Nat) z, kbs[i]? = some z -> ((kbs.take i).filter (sameW z.w)).length < mostN z.w) (ho : k.ok n) (hk : (kbs.filter (sameW k.w)).length < mostN k.w) :
  (∀ z ∈ kbs ++ [k], z.ok n) /\ ∀ (i : Nat) z, (kbs ++ [k])[i]? = some z -> (((kbs ++ [k]).take i).filter (sameW z.w)).length < mostN z.w := by
 refine ⟨fun z hz => ?_, fun i z hz => ?_⟩
 ·rcases List.mem_append.mp hz with q | q
  ·exact h z q
  ·rw [List.mem_singleton.mp q]
   exact ho
 ·by_cases hi : i < kbs.length
  ·rw [List.getElem?_append_left hi] at hz
   rw [List.take_append_of_le_length (by omega)]
   exact hr i z hz
  ·have : i = kbs.length := by
    have := (List.getElem?_eq_some_iff.mp hz).1
    rw [List.length_append, List.length_singleton] at this
    omega
   subst this
   rw [List.getElem?_append_right (Nat.le_refl _)] at hz
   simp at hz
   subst hz
   rw [List.take_append_of_le_length (Nat.le_refl _), List.take_length]
   exact hk
structure LnW (s : Nat) (pz : List Nat) (l : Ln) : Prop where
 r : l.r < pz.length
 lo : 0 <= l.lo
 le : l.lo <= l.hi
 hi : l.hi < (s : Int)
 s1 : -200 <= l.sh
 s2 : l.sh <= 200
abbrev Kl := Kb × List Ln
def Kb.bd : Kb -> Nat
 | .cp i _ _ => i
 | .pl _ i => i
def Kb.bd_lt {n : Nat} {k : Kb} (h : k.ok n) : k.bd < n := by
 cases k with
 | cp i j s => exact h.1
 | pl w i => exact h.1
def KnAt (Dx : Addr) (H : Hp) (z : Kl) (y : V) : Prop := ∃ ex, TupAt H (z.1.v ++ ex) y /\ ((ex = [] /\ z.2 = [] /\ ¬ z.1.w = "stop") \/ (z.1.w = "stop" /\ ∃ A ts, ex = [.ref A] /\ ¬ A = Dx /\ H A = some (.lst ts) /\ Paired (fun x y => TupAt H (lnV x) y) z.2 ts))
theorem KnAt.mono {Dx : Addr} {H H' : Hp} {z : Kl} {y : V} (s : Same H H') (h : KnAt Dx H z y) : KnAt Dx H' z y := by
 obtain ⟨ex, h1, h2⟩ := h
 refine ⟨ex, h1.mono s, ?_⟩
 rcases h2 with h2 | ⟨h3, A, ts, e, hn, ha, hp⟩
 ·exact .inl h2
 ·exact .inr ⟨h3, A, ts, e, hn, s _ _ ha, paired_mono s hp⟩
theorem KnAt.upd {Dx : Addr} {H : Hp} {z : Kl} {y : V} {ys ws : List V} (h : KnAt Dx H z y) (hD : H Dx = some (.lst ys)) : KnAt Dx (upd H Dx (.lst ws)) z y := by
 obtain ⟨ex, h1, h2⟩ := h
 refine ⟨ex, h1.upd hD, ?_⟩
 rcases h2 with h2 | ⟨h3, A, ts, e, hn, ha, hp⟩
 ·exact .inl h2
 ·exact .inr ⟨h3, A, ts, e, hn, by rw [upd_ne hn]; exact ha, paired_upd hp hD⟩
theorem KnAt.w0 {Dx : Addr} {H : Hp} {z : Kl} {y : V} (h : KnAt Dx H z y) : ∃ T r, y = .ref T /\ H T = some (.tup (.str z.1.w :: r)) := by
 obtain ⟨ex, ⟨T, e, ht⟩, _⟩ := h
 obtain ⟨r, e2⟩ := z.1.v0
 rw [e2] at ht
 exact ⟨T, _, e, ht⟩
theorem count_kl {Dx : Addr} {H : Hp} {kls : List Kl} {us : List V} (w : Str) (h : Paired (fun z y => KnAt Dx H z y) kls us) : (us.filter fun v => decide (nthV H 0 v = V.str w)).length = ((kls.map (·.1)).filter (sameW w)).length := by
 induction h with
 | nil => rfl
 | @cons a b l m x y ih =>
  have e : nthV H 0 b = V.str a.1.w := by
   obtain ⟨ex, h1, _⟩ := x
   rw [nthV_at h1 0]
   obtain ⟨r, e⟩ := a.1.v0
   rw [e]
   rfl
  rw [List.map_cons, List.filter_cons, List.filter_cons]
  have e2 : decide (nthV H 0 b = V.str w) = sameW w a.1 := by rw [e]
  rw [e2]
  cases sameW w a.1 <;> simp [ih]
structure Kls (sz pz : List Nat) (kls : List Kl) : Prop where
 ok : ∀ k ∈ kls.map (·.1), k.ok sz.length
 room : ∀ (i : Nat) k, (kls.map (·.1))[i]? = some k -> (((kls.map (·.1)).take i).filter (sameW k.w)).length < mostN k.w
 ln : ∀ z ∈ kls, z.2.length <= 4 /\ (∀ x ∈ z.2, LnW (sz.getD z.1.bd 0) pz x) /\ (¬ z.1.w = "stop" -> z.2 = [])
theorem Kls.nil {sz pz : List Nat} : Kls sz pz [] := ⟨(fun _ h => nomatch h), (fun i k h => by simp at h), (fun _ h => nomatch h)⟩
theorem Kls.snoc {sz pz : List Nat} {kls : List Kl} {z : Kl} (h : Kls sz pz kls) (ho : z.1.ok sz.length) (hk : ((kls.map (·.1)).filter (sameW z.1.w)).length < mostN z.1.w) (hl : z.2.length <= 4 /\ (∀ x ∈ z.2, LnW (sz.getD z.1.bd 0) pz x) /\ (¬ z.1.w = "stop" -> z.2 = [])) : Kls sz pz (kls ++ [z]) := by
 obtain ⟨a, b⟩ := Kbs.snoc h.ok h.room ho hk
 refine ⟨by rw [List.map_append]; exact a, by rw [List.map_append]; exact b, fun x hx => ?_⟩
 rcases List.mem_append.mp hx with g | g
 ·exact h.ln x g
 ·rw [List.mem_singleton.mp g]
  exact hl
end Og
namespace L2
open PySem PySem.Spec PyProof.Rows
end L2
namespace L2
open PySem PySem.Spec PyProof.Rows
section
variable {X : Cx} {pins : List (Addr × Obj)} {σ : St} {H : Hp} {s : Shared} {x z : Str} {scope : Scope} {fp : List Addr} {C : Addr}
end
section
variable {X : Cx} {x z : Str} {scope : Scope}
end
section
variable {X : Cx} {x z : Str} {scope : Scope}
end
end L2
namespace L2
open PySem PySem.Spec PyProof.Rows
section
variable {X : Cx}
end
end L2
namespace L2
open PySem PySem.Spec PyProof.Rows
def ItrS (lo c : Int) (n : Nat) : It := ⟨fun i _ => i < n, fun i H x H' => H' = H /\ x = .int (lo + (i : Nat) * c), fun i _ => n <= i⟩
theorem turn_rangeS {P : Program} {w : World} {K : PySem.W.Frag} {tg : Expr} (it : Addr) (lo c : Int) (n : Nat) : Turn P w K tg (ItrS lo c n) [it] it (fun i h => IsRangeIter h it (lo + (i : Nat) * c) ((n : Int) - (i : Nat)) c) where
 mem := by simp
 obj := fun i h st b hb => by
  have e : b = it := by simpa using hb
  subst e
  exact ⟨_, st, fun v z => by
   have z' : Data.fields _ = Data.cell v := z
   cases z'⟩
 keep := fun i h h' st k => k it (by simp) _ st
 item := by
  intro X hP hw hK hc i pins s σ H E I hf st hg
  subst hP hw hK
  obtain ⟨f0, f1, f2, f3, f4, f5⟩ := hf it (by simp)
  have W := Walks.range (prog := X.prog) (w := X.w) (I.ok.hd hc) it lo c n
  refine W.item i s _ _ hg st fun v h' tk hv st' kk => ?_
  obtain ⟨t, rfl⟩ := hv
  have I1 : Inv X pins σ H { s with heap := h', toks := tk } := I.turned (fun b o hb e => kk b o (by simpa using hb) e) f0 f1 f3 f4 f5
  exact ⟨_, rfl, go_of (s := { s with heap := h', toks := tk }) (n := "range_iterator") st' rfl rfl (by decide) ⟨.int (lo + (i : Nat) * c), H, I1, ⟨t, rfl⟩, ⟨rfl, rfl⟩, st', fun b hb => (hf b hb).1⟩⟩
 done := by
  intro X hP hw hK hc i pins s σ H E I hf st hg
  subst hP hw hK
  obtain ⟨f0, f1, f2, f3, f4, f5⟩ := hf it (by simp)
  exact wpAny_pyNext_range_end (I.ok.hd hc) st (by have : n <= i := hg; omega) fun h' eb => ⟨rfl, I.turned (t' := s.toks) (fun b o hb e => eb b o hb e) f0 f1 f3 f4 f5⟩
 self := fun _ _ _ _ _ st h => wpAny_pyIter_rangeiter st h
section
variable {X : Cx} {tg : Expr}
theorem range_itS {pins : List (Addr × Obj)} {σ : St} {H : Hp} {s : Shared} {R : It -> Hp -> Prop} {E : Value -> Shared -> Prop} {m c : Nat} {t u v : Tok} {tk : Nat} (I : Inv X pins σ H s) (h1 : 1 <= c) (h2 : c <= 1000) (h3 : m <= 1000)
  (q : R (ItrS 0 c ((m + c - 1) / c)) H) : wpAny (model X.prog X.w) X.A (pyIter (.ref s.heap.objs.size)) (PIE X pins σ tg R) E { s with heap := s.heap.push { cls := .type "range", data := .fields #[.int 0 t, .int (m : Nat) u, .int (c : Nat) v] }, toks := tk } := by
 have es : Builtin.Range.rangeSize 0 (m : Nat) (c : Nat) = (((m + c - 1) / c : Nat) : Int) := by
  rw [rangeSize_pos (by omega) (by omega)]
  have : ((m : Nat) : Int) + (c : Nat) - 1 = ((m + c - 1 : Nat) : Int) := by omega
  rw [this]
  rfl
 have hn : (m + c - 1) / c <= 2000 := Nat.le_trans (Nat.div_le_self _ _) (by omega)
 refine wpAny_pyIter_range (IsRange.new ..) ?_ ?_
 ·unfold Builtin.Range.small
  rw [es]
  clear es q
  generalize (m + c - 1) / c = n at hn ⊢
  simp only [Builtin.Range.rangeFitsLong, Bool.and_eq_true, Bool.or_eq_true, decide_eq_true_eq, beq_iff_eq, show ((c : Nat) : Int) > 0 by omega, if_true]
  omega
 have I1 : Inv X pins σ H { s with heap := s.heap.push { cls := .type "range", data := .fields #[.int 0 t, .int (m : Nat) u, .int (c : Nat) v] }, toks := tk } := I.kept fun b o e => Heap.get?_push_of_some _ e
 refine ⟨(s.heap.push { cls := .type "range", data := .fields #[.int 0 t, .int (m : Nat) u, .int (c : Nat) v] }).objs.size, [(s.heap.push { cls := .type "range", data := .fields #[.int 0 t, .int (m : Nat) u, .int (c : Nat) v] }).objs.size], _, _, H, rfl,
  I1.kept (t' := tk) fun b o e => Heap.get?_push_of_some _ e, turn_rangeS _ 0 c ((m + c - 1) / c), ?_, fun b hb => ?_, q⟩
 ·have e1 : (0 : Int) + ((0 : Nat) : Int) * (c : Nat) = 0 := by simp
  have e2 : (((m + c - 1) / c : Nat) : Int) - ((0 : Nat) : Int) = Builtin.Range.rangeSize 0 (m : Nat) (c : Nat) := by rw [es]; omega
  show IsRangeIter _ _ ((0 : Int) + ((0 : Nat) : Int) * (c : Nat)) ((((m + c - 1) / c : Nat) : Int) - ((0 : Nat) : Int)) (c : Nat)
  rw [e1, e2]
  exact Heap.get?_push_size _ rfl
 ·have e : b = (s.heap.push { cls := .type "range", data := .fields #[.int 0 t, .int (m : Nat) u, .int (c : Nat) v] }).objs.size := by simpa using hb
  subst e
  exact I1.fpOk (Nat.le_refl _) (I1.hok.fresh (Nat.le_refl _))
def iRng3 (ta : TA) : TI := fun σ H R => ta σ H fun vs H1 => ∃ m c : Nat, vs = [.int 0, .int (m : Nat), .int (c : Nat)] /\ 1 <= c /\ c <= 1000 /\ m <= 1000 /\ R (ItrS 0 c ((m + c - 1) / c)) H1
theorem pi_range3 {a b d : Expr} {ta : TA} {p pos : Pos} (hg : Gl X "range") (hm : X.mg "range" = none) (ha : PA X [a, b, d] ta) (hs : starEach [a, b, d] X.env = [(false, eval a X.env), (false, eval b X.env), (false, eval d X.env)] := by rfl) (hs2 : starEach [b, d] X.env = [(false, eval b X.env), (false, eval d X.env)] := by rfl) :
  PI X tg (.Call (.Name "range" p) [a, b, d] [] pos) (iRng3 ta) := by
 intro pins s σ H R I h
 refine Call_ (ld_blt I hg hm boot_range (PyProof.Rows.callWith_type1 (thn (ha pos pins s σ H _ I h) fun us s1 ⟨vs, H1, I1, r1, q1⟩ => ?_) (by rw [hs, hs2]) (by rw [hs2]; rfl)))
 obtain ⟨m, c, e, q1, q2, q3, q⟩ := q1
 subst e
 cases r1 with
 | cons r rr =>
  cases rr with
  | cons r' rr =>
   cases rr with
   | cons r'' rr =>
    cases rr
    obtain ⟨t, rfl⟩ := r
    obtain ⟨t', rfl⟩ := r'
    obtain ⟨t'', rfl⟩ := r''
    refine call_range_3 (by omega) (range_itS I1 q1 q2 q3 q) (.inl (PyProof.noPylong_small ?_))
    omega
theorem for_rangeS {lo c : Int} {n : Nat} {g : TG} {tb : TS} {D : Ends} {σ : St} {H : Hp} (Pv : Nat -> St -> Hp -> Prop) (h0 : Pv 0 σ H)
  (hs : ∀ i σ H, i < n -> Pv i σ H -> g (.int (lo + (i : Nat) * c)) σ H fun σ2 H2 => tb { D with nx := Pv (i + 1), ct := Pv (i + 1), bk := D.nx } σ2 H2) (hd : ∀ σ H, Pv n σ H -> D.nx σ H) :
  ∃ W : Nat -> Nat -> St -> Hp -> Prop, (∃ m, W 0 m σ H) /\ ∀ i m σ H, W i m σ H ->
   ((ItrS lo c n).stop i H /\ D.nx σ H) \/ ((ItrS lo c n).go i H /\ ∃ N : St -> Hp -> Prop, (∀ σ' H', N σ' H' -> ∃ m', m' < m /\ W (i + 1) m' σ' H') /\ ∀ x H', (ItrS lo c n).yld i H x H' -> g x σ H' fun σ2 H2 => tb { D with nx := N, ct := N, bk := D.nx } σ2 H2) := by
 refine ⟨fun i m σ H => m = n - i /\ i <= n /\ Pv i σ H, ⟨n, by simp, Nat.zero_le _, h0⟩, ?_⟩
 rintro i m σ H ⟨rfl, hi, p⟩
 by_cases hlt : i < n
 ·refine .inr ⟨hlt, Pv (i + 1), fun σ' H' p' => ⟨n - (i + 1), by omega, rfl, hlt, p'⟩, fun x H' y => ?_⟩
  obtain ⟨e, y⟩ := y
  subst e y
  exact hs i σ _ hlt p
 ·have e : i = n := by omega
  subst e
  exact .inl ⟨Nat.le_refl _, hd σ H p⟩
end
end L2
section PartK25a
set_option maxHeartbeats 4000000
namespace K25
open PySem L2 Og
def top (i : Nat) : Stmt := PySem.Challenge.pw_windchest_k25_whole_put_together.main.body.getD i (.Pass ⟨0, 0, 0, 0⟩)
abbrev sWh : Stmt := top 8
abbrev sMd : Stmt := top 9
abbrev sNm : Stmt := top 10
abbrev sRo : Stmt := top 41
abbrev sTo : Stmt := top 42
abbrev sWi : Stmt := top 43
abbrev sPa : Stmt := top 44
abbrev sHp : Stmt := top 45
abbrev sCl : Stmt := top 46
abbrev sIk : Stmt := top 47
abbrev sSb : Stmt := top 48
abbrev sWm : Stmt := top 50
abbrev sHr : Stmt := top 51
abbrev sIr : Stmt := top 52
abbrev sCk : Stmt := top 53
abbrev sNu : Stmt := top 56
abbrev sCa : Stmt := top 57
abbrev sPl : Stmt := top 58
abbrev sLi : Stmt := top 59
abbrev sMy : Stmt := top 13
abbrev sSt : Stmt := top 14
abbrev sHa : Stmt := top 15
abbrev sMe : Stmt := top 16
abbrev sSh : Stmt := top 17
abbrev sUn : Stmt := top 18
abbrev sLe : Stmt := top 20
abbrev sDc : Stmt := top 21
abbrev sHk : Stmt := top 22
abbrev sWa : Stmt := top 23
abbrev sCq : Stmt := top 24
abbrev sMu : Stmt := top 26
abbrev sUk : Stmt := top 27
abbrev sSk : Stmt := top 28
abbrev sNb : Stmt := top 29
abbrev sLl : Stmt := top 30
abbrev sBs : Stmt := top 31
abbrev sBa : Stmt := top 32
abbrev sSo : Stmt := top 33
abbrev sCe : Stmt := top 63
abbrev sLw : Stmt := top 64
abbrev sMx : Stmt := top 65
abbrev sBi : Stmt := top 66
abbrev sNa : Stmt := top 67
abbrev sSz : Stmt := top 68
abbrev sLn : Stmt := top 69
abbrev sKn : Stmt := top 70
abbrev sKs : Stmt := top 71
abbrev sRw : Stmt := top 72
abbrev sWd : Stmt := top 76
abbrev sDr : Stmt := top 74
abbrev sHd : Stmt := top 75
abbrev sSn : Stmt := top 77
abbrev sOi : Stmt := inClass (top 61) 0
abbrev sOb : Stmt := inClass (top 61) 2
abbrev sOc : Stmt := inClass (top 61) 5
abbrev sOk : Stmt := inClass (top 61) 7
abbrev sOo : Stmt := inClass (top 61) 8
abbrev sBk : Stmt := inClass (top 61) 13
abbrev sOp : Stmt := inClass (top 61) 15
abbrev sOr : Stmt := inClass (top 61) 3
abbrev sOq : Stmt := inClass (top 61) 6
abbrev sOe : Stmt := inClass (top 61) 9
abbrev sOs : Stmt := inClass (top 61) 14
abbrev sOm : Stmt := inClass (top 61) 16
abbrev sOz : Stmt := inClass (top 61) 4
abbrev sLaw : Stmt := top 78
structure Txt (K : PySem.W.Frag) (P : Params) (mg : Str -> Option Value) (C aN aK aB aP aM : Addr) : Prop where
 len : mg "len" = none
 isin : mg "isinstance" = none
 int : mg "int" = none
 bool : mg "bool" = none
 str : mg "str" = none
 list : mg "list" = none
 tuple : mg "tuple" = none
 all : mg "all" = none
 any : mg "any" = none
 sum : mg "sum" = none
 range : mg "range" = none
 zip : mg "zip" = none
 enumerate : mg "enumerate" = none
 max : mg "max" = none
 reversed : mg "reversed" = none
 letters : ∃ t, mg "LETTERS" = some (.str letters t)
 mostL : ∃ t, mg "MOST_LETTERS" = some (.int 8 t)
 mostR : ∃ t, mg "MOST_ROWS" = some (.int 150 t)
 mostLn : ∃ t, mg "MOST_LINES" = some (.int 4 t)
 below : ∃ t, mg "MEMBERS_BELOW" = some (.int 1200 t)
 mN : mg "NAMED" = some (.ref aN)
 mK : mg "KNOBS" = some (.ref aK)
 mB : mg "BOUNDS" = some (.ref aB)
 mP : mg "PARTS" = some (.ref aP)
 mM : mg "MOST_OF" = some (.ref aM)
 tN : KTup K aN (named.map V.str)
 tK : KTup K aK [.str "stop", .str "coupler", .str "mute"]
 dB : KDict K P aB
 dP : KDict K P aP
 dM : KDict K P aM
 cl : Cls K C
 mC : mg "Organ" = some (.ref C)
 n_row_list : NoAttr K C "row_list"
 n_board_list : NoAttr K C "board_list"
 n_rank_list : NoAttr K C "rank_list"
 n_knob_rows : NoAttr K C "knob_rows"
 n_board_numbers : NoAttr K C "board_numbers"
 n_rank_numbers : NoAttr K C "rank_numbers"
 n_knob_numbers : NoAttr K C "knob_numbers"
 n_key_places : NoAttr K C "key_places"
 n_pipe_places : NoAttr K C "pipe_places"
 n_knob_lines : NoAttr K C "knob_lines"
 n_step_sets : NoAttr K C "step_sets"
structure Fns (K : PySem.W.Frag) (mg : Str -> Option Value) (C fWh fMd fNm fRo fTo fWi fPa fHp fCl fIk fSb fWm fHr fIr fCk fNu fCa fPl fLi fMy fSt fHa fMe fSh fUn fLe fDc fHk fWa fCq fMu fUk fSk fNb fLl fBs fBa fSo fCe fLw fMx fBi fNa fSz fLn fKn fKs fRw fWd fDr fHd fSn fOi fOb fOc fOk fOo fBk fOp fOr fOq fOe fOs fOm fOz : Addr) (dWh dMd dNm dRo dTo dWi dPa dHp dCl dIk dSb dWm dHr dIr dCk dNu dCa dPl dLi dMy dSt dHa dMe dSh dUn dLe dDc dHk dWa dCq dMu dUk dSk dNb dLl dBs dBa dSo dCe dLw dMx dBi dNa dSz dLn dKn dKs dRw dWd dDr dHd dSn dOi dOb dOc dOk dOo dBk dOp dOr dOq dOe dOs dOm dOz : FuncData) : Prop where
 FWh : Fun K "is_whole" "is_whole" sWh fWh dWh
 FMd : Fun K "is_made_of" "is_made_of" sMd fMd dMd
 FNm : Fun K "is_name" "is_name" sNm fNm dNm
 FRo : Fun K "rows_of" "rows_of" sRo fRo dRo
 FTo : Fun K "is_told" "is_told" sTo fTo dTo
 FWi : Fun K "is_within" "is_within" sWi fWi dWi
 FPa : Fun K "is_part" "is_part" sPa fPa dPa
 FHp : Fun K "has_parts" "has_parts" sHp fHp dHp
 FCl : Fun K "count_of_last_lines" "count_of_last_lines" sCl fCl dCl
 FIk : Fun K "is_key_of" "is_key_of" sIk fIk dIk
 FSb : Fun K "stands_behind_stop" "stands_behind_stop" sSb fSb dSb
 FWm : Fun K "is_well_made" "is_well_made" sWm fWm dWm
 FHr : Fun K "has_room" "has_room" sHr fHr dHr
 FIr : Fun K "is_row" "is_row" sIr fIr dIr
 FCk : Fun K "check_rows" "check_rows" sCk fCk dCk
 FNu : Fun K "numbers_of" "numbers_of" sNu fNu dNu
 FCa : Fun K "count_in_all" "count_in_all" sCa fCa dCa
 FPl : Fun K "places_of" "places_of" sPl fPl dPl
 FLi : Fun K "lines_by_knob" "lines_by_knob" sLi fLi dLi
 FMy : Fun K "may_be_member" "may_be_member" sMy fMy dMy
 FSt : Fun K "set_of" "set_of" sSt fSt dSt
 FHa : Fun K "has_member" "has_member" sHa fHa dHa
 FMe : Fun K "members_of" "members_of" sMe fMe dMe
 FSh : Fun K "shifted" "shifted" sSh fSh dSh
 FUn : Fun K "union_of" "union_of" sUn fUn dUn
 FLe : Fun K "led_to" "led_to" sLe fLe dLe
 FDc : Fun K "drawn_of" "drawn_of" sDc fDc dDc
 FHk : Fun K "held_keys" "held_keys" sHk fHk dHk
 FWa : Fun K "coupled_ways" "coupled_ways" sWa fWa dWa
 FCq : Fun K "coupled_keys" "coupled_keys" sCq fCq dCq
 FMu : Fun K "muted_boards" "muted_boards" sMu fMu dMu
 FUk : Fun K "unmuted_keys" "unmuted_keys" sUk fUk dUk
 FSk : Fun K "speaking_keys" "speaking_keys" sSk fSk dSk
 FNb : Fun K "numbers_on_board" "numbers_on_board" sNb fNb dNb
 FLl : Fun K "led_by_line" "led_by_line" sLl fLl dLl
 FBs : Fun K "brought_by_stop" "brought_by_stop" sBs fBs dBs
 FBa : Fun K "brought_in_all" "brought_in_all" sBa fBa dBa
 FSo : Fun K "sounding_pipes" "sounding_pipes" sSo fSo dSo
 FCe : Fun K "_law_cell_at" "_law_cell_at" sCe fCe dCe
 FLw : Fun K "_law_whole" "_law_whole" sLw fLw dLw
 FMx : Fun K "_law_mixed" "_law_mixed" sMx fMx dMx
 FBi : Fun K "_law_bits" "_law_bits" sBi fBi dBi
 FNa : Fun K "_law_name" "_law_name" sNa fNa dNa
 FSz : Fun K "_law_sizes" "_law_sizes" sSz fSz dSz
 FLn : Fun K "_law_lines" "_law_lines" sLn fLn dLn
 FKn : Fun K "_law_knob" "_law_knob" sKn fKn dKn
 FKs : Fun K "_law_knobs" "_law_knobs" sKs fKs dKs
 FRw : Fun K "_law_rows" "_law_rows" sRw fRw dRw
 FWd : Fun K "_law_world" "_law_world" sWd fWd dWd
 FDr : Fun K "_law_drawn" "_law_drawn" sDr fDr dDr
 FHd : Fun K "_law_held" "_law_held" sHd fHd dHd
 FSn : Fun K "_law_sound" "_law_sound" sSn fSn dSn
 FOi : Fun K "__init__" "Organ.__init__" sOi fOi dOi
 FOb : Fun K "boards" "Organ.boards" sOb fOb dOb
 FOc : Fun K "key_count" "Organ.key_count" sOc fOc dOc
 FOk : Fun K "key" "Organ.key" sOk fOk dOk
 FOo : Fun K "board_of" "Organ.board_of" sOo fOo dOo
 FBk : Fun K "board_of_knob" "Organ.board_of_knob" sBk fBk dBk
 FOp : Fun K "coupler" "Organ.coupler" sOp fOp dOp
 FOr : Fun K "ranks" "Organ.ranks" sOr fOr dOr
 FOq : Fun K "pipe_count" "Organ.pipe_count" sOq fOq dOq
 FOe : Fun K "pipe" "Organ.pipe" sOe fOe dOe
 FOs : Fun K "stop" "Organ.stop" sOs fOs dOs
 FOm : Fun K "mute" "Organ.mute" sOm fOm dOm
 FOz : Fun K "knobs" "Organ.knobs" sOz fOz dOz
 bWh : Binds K dWh ["thing"] []
 bMd : Binds K dMd ["text", "signs", "most"] []
 bNm : Binds K dNm ["thing"] []
 bRo : Binds K dRo ["rows", "word"] []
 bTo : Binds K dTo ["rows", "word", "thing"] []
 bWi : Binds K dWi ["thing", "bounds"] []
 bPa : Binds K dPa ["thing", "part", "ahead"] []
 bHp : Binds K dHp ["row", "ahead"] []
 bCl : Binds K dCl ["rows"] []
 bIk : Binds K dIk ["number", "board", "ahead"] []
 bSb : Binds K dSb ["line", "ahead"] []
 bWm : Binds K dWm ["row", "ahead"] []
 bHr : Binds K dHr ["word", "ahead"] []
 bIr : Binds K dIr ["thing", "ahead"] []
 bCk : Binds K dCk ["rows"] []
 bNu : Binds K dNu ["names"] []
 bCa : Binds K dCa ["things"] []
 bPl : Binds K dPl ["things"] []
 bLi : Binds K dLi ["rows", "rank_numbers"] []
 bMy : Binds K dMy ["thing"] []
 bSt : Binds K dSt ["numbers"] []
 bHa : Binds K dHa ["some", "number"] []
 bMe : Binds K dMe ["some"] []
 bSh : Binds K dSh ["some", "steps", "count"] []
 bUn : Binds K dUn ["sets"] []
 bLe : Binds K dLe ["organ", "knob", "key"] []
 bDc : Binds K dDc ["organ", "knobs", "word"] []
 bHk : Binds K dHk ["organ", "held"] []
 bWa : Binds K dWa ["organ", "knobs", "held"] []
 bCq : Binds K dCq ["organ", "knobs", "held"] []
 bMu : Binds K dMu ["organ", "knobs"] []
 bUk : Binds K dUk ["organ", "knobs", "keys"] []
 bSk : Binds K dSk ["organ", "knobs", "held"] []
 bNb : Binds K dNb ["organ", "board", "keys"] []
 bLl : Binds K dLl ["organ", "line", "numbers"] []
 bBs : Binds K dBs ["organ", "knob", "keys"] []
 bBa : Binds K dBa ["organ", "knobs", "keys"] []
 bSo : Binds K dSo ["organ", "knobs", "held"] []
 bCe : Binds K dCe ["_law_script", "_law_k"] []
 bLw : Binds K dLw ["_law_found"] []
 bMx : Binds K dMx ["_law_cell", "_law_k"] []
 bBi : Binds K dBi ["_law_numbers"] []
 bNa : Binds K dNa ["_law_cell", "_law_k"] []
 bSz : Binds K dSz ["_law_cell", "_law_many", "_law_most"] []
 bLn : Binds K dLn ["_law_cell", "_law_size", "_law_pipes"] []
 bKn : Binds K dKn ["_law_cell", "_law_sizes_here", "_law_pipes"] []
 bKs : Binds K dKs ["_law_cells", "_law_sizes_here", "_law_pipes"] []
 bRw : Binds K dRw ["_law_cell", "_law_sizes_here", "_law_pipes", "_law_knobs_here"] []
 bWd : Binds K dWd ["_law_script"] []
 bDr : Binds K dDr ["_law_cell", "_law_count"] []
 bHd : Binds K dHd ["_law_cell", "_law_count"] []
 bSn : Binds K dSn ["_law_organ", "_law_drawn_here", "_law_held_here"] []
 bOi : Binds K dOi ["self", "rows"] []
 bOb : Binds K dOb ["self"] []
 bOc : Binds K dOc ["self"] []
 bOk : Binds K dOk ["self", "board", "number"] []
 bOo : Binds K dOo ["self", "key"] []
 bBk : Binds K dBk ["self", "knob"] []
 bOp : Binds K dOp ["self", "knob"] []
 bOr : Binds K dOr ["self"] []
 bOq : Binds K dOq ["self"] []
 bOe : Binds K dOe ["self", "rank", "number"] []
 bOs : Binds K dOs ["self", "knob"] []
 bOm : Binds K dOm ["self", "knob"] []
 bOz : Binds K dOz ["self"] []
 mWh : mg "is_whole" = some (.ref fWh)
 mMd : mg "is_made_of" = some (.ref fMd)
 mNm : mg "is_name" = some (.ref fNm)
 mRo : mg "rows_of" = some (.ref fRo)
 mTo : mg "is_told" = some (.ref fTo)
 mWi : mg "is_within" = some (.ref fWi)
 mPa : mg "is_part" = some (.ref fPa)
 mHp : mg "has_parts" = some (.ref fHp)
 mCl : mg "count_of_last_lines" = some (.ref fCl)
 mIk : mg "is_key_of" = some (.ref fIk)
 mSb : mg "stands_behind_stop" = some (.ref fSb)
 mWm : mg "is_well_made" = some (.ref fWm)
 mHr : mg "has_room" = some (.ref fHr)
 mIr : mg "is_row" = some (.ref fIr)
 mCk : mg "check_rows" = some (.ref fCk)
 mNu : mg "numbers_of" = some (.ref fNu)
 mCa : mg "count_in_all" = some (.ref fCa)
 mPl : mg "places_of" = some (.ref fPl)
 mLi : mg "lines_by_knob" = some (.ref fLi)
 mMy : mg "may_be_member" = some (.ref fMy)
 mSt : mg "set_of" = some (.ref fSt)
 mHa : mg "has_member" = some (.ref fHa)
 mMe : mg "members_of" = some (.ref fMe)
 mSh : mg "shifted" = some (.ref fSh)
 mUn : mg "union_of" = some (.ref fUn)
 mLe : mg "led_to" = some (.ref fLe)
 mDc : mg "drawn_of" = some (.ref fDc)
 mHk : mg "held_keys" = some (.ref fHk)
 mWa : mg "coupled_ways" = some (.ref fWa)
 mCq : mg "coupled_keys" = some (.ref fCq)
 mMu : mg "muted_boards" = some (.ref fMu)
 mUk : mg "unmuted_keys" = some (.ref fUk)
 mSk : mg "speaking_keys" = some (.ref fSk)
 mNb : mg "numbers_on_board" = some (.ref fNb)
 mLl : mg "led_by_line" = some (.ref fLl)
 mBs : mg "brought_by_stop" = some (.ref fBs)
 mBa : mg "brought_in_all" = some (.ref fBa)
 mSo : mg "sounding_pipes" = some (.ref fSo)
 mCe : mg "_law_cell_at" = some (.ref fCe)
 mLw : mg "_law_whole" = some (.ref fLw)
 mMx : mg "_law_mixed" = some (.ref fMx)
 mBi : mg "_law_bits" = some (.ref fBi)
 mNa : mg "_law_name" = some (.ref fNa)
 mSz : mg "_law_sizes" = some (.ref fSz)
 mLn : mg "_law_lines" = some (.ref fLn)
 mKn : mg "_law_knob" = some (.ref fKn)
 mKs : mg "_law_knobs" = some (.ref fKs)
 mRw : mg "_law_rows" = some (.ref fRw)
 mWd : mg "_law_world" = some (.ref fWd)
 mDr : mg "_law_drawn" = some (.ref fDr)
 mHd : mg "_law_held" = some (.ref fHd)
 mSn : mg "_law_sound" = some (.ref fSn)
 tOb : Meth K C "boards" fOb
 tOc : Meth K C "key_count" fOc
 tOk : Meth K C "key" fOk
 tOo : Meth K C "board_of" fOo
 tBk : Meth K C "board_of_knob" fBk
 tOp : Meth K C "coupler" fOp
 tOr : Meth K C "ranks" fOr
 tOq : Meth K C "pipe_count" fOq
 tOe : Meth K C "pipe" fOe
 tOs : Meth K C "stop" fOs
 tOm : Meth K C "mute" fOm
 tOz : Meth K C "knobs" fOz
 made : Mk K C fOi
section
variable {P : Program} {w : World} {K : PySem.W.Frag} {mg : Str -> Option Value} {base : Heap} {C aN aK aB aP aM : Addr} {fWh fMd fNm fRo fTo fWi fPa fHp fCl fIk fSb fWm fHr fIr fCk fNu fCa fPl fLi fMy fSt fHa fMe fSh fUn fLe fDc fHk fWa fCq fMu fUk fSk fNb fLl fBs fBa fSo fCe fLw fMx fBi fNa fSz fLn fKn fKs fRw fWd fDr fHd fSn fOi fOb fOc fOk fOo fBk fOp fOr fOq fOe fOs fOm fOz : Addr} {dWh dMd dNm dRo dTo dWi dPa dHp dCl dIk dSb dWm dHr dIr dCk dNu dCa dPl dLi dMy dSt dHa dMe dSh dUn dLe dDc dHk dWa dCq dMu dUk dSk dNb dLl dBs dBa dSo dCe dLw dMx dBi dNa dSz dLn dKn dKs dRw dWd dDr dHd dSn dOi dOb dOc dOk dOo dBk dOp dOr dOq dOe dOs dOm dOz : FuncData}
variable (N : Fns K mg C fWh fMd fNm fRo fTo fWi fPa fHp fCl fIk fSb fWm fHr fIr fCk fNu fCa fPl fLi fMy fSt fHa fMe fSh fUn fLe fDc fHk fWa fCq fMu fUk fSk fNb fLl fBs fBa fSo fCe fLw fMx fBi fNa fSz fLn fKn fKs fRw fWd fDr fHd fSn fOi fOb fOc fOk fOo fBk fOp fOr fOq fOe fOs fOm fOz dWh dMd dNm dRo dTo dWi dPa dHp dCl dIk dSb dWm dHr dIr dCk dNu dCa dPl dLi dMy dSt dHa dMe dSh dUn dLe dDc dHk dWa dCq dMu dUk dSk dNb dLl dBs dBa dSo dCe dLw dMx dBi dNa dSz dLn dKn dKs dRw dWd dDr dHd dSn dOi dOb dOc dOk dOo dBk dOp dOr dOq dOe dOs dOm dOz) (T : Txt K w.params mg C aN aK aB aP aM)
def spWh : Sp := fun vs H Q _ => ∃ i : Int, vs = [.int i] /\ Q (.bl true) H
theorem scWh : FnScope ["thing"] ["thing"] (defScope sWh) := ⟨rfl, rfl, rfl, by decide +kernel, rfl, by decide +kernel, by decide +kernel⟩
include N T in
theorem ok_Wh : FnOk P w K mg base CX0 1 fWh dWh ["thing"] spWh := by
 refine N.FWh.ok scWh (fun vs H Q E h => ?_) (fun cdv A outer s H vs Q E hr h => ?_)
 ·obtain ⟨i, rfl, _⟩ := h
  rfl
 ·obtain ⟨i, rfl, q⟩ := h
  refine ⟨_, (pss_one (ps_ret (pe_and (pe_callB call_isin rfl T.isin PyProof.Rows.boot_isinstance (pa_cons (pv 0) (pa_cons (pe_bltn (v := .ty "int") rfl T.int PyProof.Rows.boot_int rfl) pa_nil))) (pe_one (pe_not (pe_callB call_isin rfl T.isin PyProof.Rows.boot_isinstance (pa_cons (pv 0) (pa_cons (pe_bltn (v := .ty "bool") rfl T.bool PyProof.Rows.boot_bool rfl) pa_nil)))))))), ?_⟩
  refine ⟨_, rfl, _, "int", _, _, rfl, .int i, ty_int, _, rfl, iteT ?_⟩
  exact ⟨_, rfl, _, "bool", _, _, rfl, .int i, ty_ib, _, rfl, q⟩
def spMd : Sp := fun vs H Q _ => ∃ z : Str, vs = [.str z, .str letters, .int 8] /\ isNm z /\ ∀ H', Same H H' -> Q (.bl true) H'
theorem scMd : FnScope ["text", "signs", "most"] ["text", "signs", "most"] (defScope sMd) := ⟨rfl, rfl, rfl, by decide +kernel, rfl, by decide +kernel, by decide +kernel⟩
include N T in
theorem ok_Md : FnOk P w K mg base CX0 1 fMd dMd ["text", "signs", "most"] spMd := by
 refine N.FMd.ok scMd (fun vs H Q E h => ?_) (fun cdv A outer s H vs Q E hr h => ?_)
 ·obtain ⟨z, rfl, _⟩ := h
  rfl
 ·obtain ⟨z, rfl, hz, q⟩ := h
  refine ⟨_, (pss_one (ps_ret (pe_and (pe_chain op_le op_le pe_int (pe_callB call_len_str rfl T.len PySem.boot_len (pa_cons (pv 0) pa_nil)) (pv 2)) (pe_one (pe_callB (call_all rfl) rfl T.all PyProof.Rows.boot_all (pa_cons (pe_comp rfl (compScope (osc := defScope sMd) (N := ["text", "signs", "most"]) rfl rfl (by decide +kernel)) (pi_str (pv 0)) (fun _ _ _ _ => pf_nil) (fun _ _ _ _ => (pe_cmpR op_in_str (pv 0) (pv 2) rfl))) pa_nil)))))), ?_⟩
  have hzl : z.length < sizeLine := small1000 (by have := hz.2.1; omega)
  refine ⟨_, rfl, z, rfl, Nat.le_of_lt hzl, _, _, rfl, rfl, _, rfl, ?_⟩
  refine ite2 (fun h1 => ?_) (fun h1 => absurd (decide_eq_true (by have := hz.1; omega)) h1)
  refine ⟨_, rfl, _, _, rfl, rfl, _, rfl, ?_⟩
  refine ite2 (fun h2 => ?_) (fun h2 => absurd (decide_eq_true (by have := hz.2.1; omega)) h2)
  refine ⟨_, rfl, z, rfl, comp_str (fun _ => true) (fun c => .bl (inS letters c)) hzl (fun c hc H' hs R k => k H' (Same.refl H')) (fun c hc _ H' hs R k => ⟨_, rfl, _, rfl, _, _, rfl, rfl, k H' (Same.refl H')⟩) (fun D H' hD hs hl => ?_)⟩
  refine ⟨D, z.cps.toList.map (inS letters), rfl, .inl (.inl ?_), ?_⟩
  ·rw [hl, List.filter_eq_self.mpr (fun _ _ => rfl), List.map_map]
   rfl
  ·have e : (z.cps.toList.map (inS letters)).all id = true := by
    rw [List.all_map, List.all_eq_true]
    intro c hc
    have := hz.2.2 c hc
    show inS letters c = true
    rw [inS_all c (by omega)]
    exact decide_eq_true this
   rw [e]
   exact q H' hs
def spNm : Sp := fun vs H Q _ => ∃ z : Str, vs = [.str z] /\ isNm z /\ ∀ H', Same H H' -> Q (.bl true) H'
theorem scNm : FnScope ["thing"] ["thing"] (defScope sNm) := ⟨rfl, rfl, rfl, by decide +kernel, rfl, by decide +kernel, by decide +kernel⟩
include N T in
theorem ok_Nm : FnOk P w K mg base CX0 2 fNm dNm ["thing"] spNm := by
 have GMd : FnOk P w K mg base CX0 1 fMd dMd ["text", "signs", "most"] spMd := ok_Md N T
 refine N.FNm.ok scNm (fun vs H Q E h => ?_) (fun cdv A outer s H vs Q E hr h => ?_)
 ·obtain ⟨z, rfl, _⟩ := h
  rfl
 ·obtain ⟨z, rfl, hz, q⟩ := h
  have hrMd : Room 1 _ := hr.mono (by decide)
  obtain ⟨tLET, hLET⟩ := T.letters
  obtain ⟨tML, hML⟩ := T.mostL
  refine ⟨_, (pss_one (ps_ret (pe_and (pe_callB call_isin rfl T.isin PyProof.Rows.boot_isinstance (pa_cons (pv 0) (pa_cons (pe_bltn (v := .ty "str") rfl T.str PyProof.Rows.boot_str rfl) pa_nil))) (pe_one (pe_call GMd hrMd rfl N.mMd N.FMd.kp N.bMd .nil pass0 (pa_cons (pv 0) (pa_cons (pe_glob (v := .str letters) rfl hLET ⟨tLET, rfl⟩) (pa_cons (pe_glob (v := .int 8) rfl hML ⟨tML, rfl⟩) pa_nil)))))))), ?_⟩
  refine ⟨_, rfl, _, "str", _, _, rfl, .str z, ty_ss, _, rfl, iteT ?_⟩
  exact ⟨_, rfl, z, rfl, hz, q⟩
def spRo : Sp := fun vs H Q _ => ∃ (p : Addr) (us : List V) (w : Str) (ρ : V -> R), vs = [.ref p, .str w] /\ H p = some (.lst us) /\ Rows H ρ us /\ us.length <= 500 /\ ∀ D H', H D = none -> Same H H' -> H' D = some (.lst (us.filter (pw ρ w))) -> Q (.ref D) H'
theorem scRo : FnScope ["rows", "word"] ["rows", "word"] (defScope sRo) := ⟨rfl, rfl, rfl, by decide +kernel, rfl, by decide +kernel, by decide +kernel⟩
include N T in
theorem ok_Ro : FnOk P w K mg base CX0 1 fRo dRo ["rows", "word"] spRo := by
 refine N.FRo.ok scRo (fun vs H Q E h => ?_) (fun cdv A outer s H vs Q E hr h => ?_)
 ·obtain ⟨p, us, w, ρ, rfl, _⟩ := h
  rfl
 ·obtain ⟨p, us, w, ρ, rfl, hp, hR, hl, q⟩ := h
  refine ⟨_, (pss_one (ps_ret (pe_comp rfl (compScope (osc := defScope sRo) (N := ["rows", "word"]) rfl rfl (by decide +kernel)) (pi_list (pv 0)) (fun _ _ _ _ => (pf_one (pt_cmpR op_eq (pe_ix (ix_tupK (K := K) rfl) (pv 0) pe_int (fun _ _ => rfl)) (pv 2) (nomark _)))) (fun _ _ _ _ => (pv 0))))), ?_⟩
  have hS : SqL K H p us := .inl (.inl hp)
  refine ⟨_, rfl, p, rfl, ⟨_, hS⟩, comp_sq (K := K) (xs := us) (pw ρ w) id hS (small1000 (by omega)) (fun x hx H' hs R k => ?_) (fun x hx _ H' hs R k => ⟨_, rfl, k H' (Same.refl H')⟩) (fun D H' hD hs hl' => ?_)⟩
  ·obtain ⟨T0, rfl, hT⟩ := (hR x hx).mono hs
   exact ⟨_, rfl, T0, _, _, _, rfl, rfl, .inl (.inl hT), atI_nat (j := 0) rfl, _, rfl, rfl, _, rfl, k H' (Same.refl H')⟩
  ·rw [List.map_id] at hl'
   exact q D H' hD hs hl'
def spTo : Sp := fun vs H Q _ => ∃ (p : Addr) (us : List V) (w t : Str) (ρ : V -> R), vs = [.ref p, .str w, .str t] /\ H p = some (.lst us) /\ Rows H ρ us /\ us.length <= 500 /\ isNm t /\ ∀ H', Same H H' -> Q (.bl (tld ρ us w t)) H'
theorem scTo : FnScope ["rows", "word", "thing"] ["rows", "word", "thing"] (defScope sTo) := ⟨rfl, rfl, rfl, by decide +kernel, rfl, by decide +kernel, by decide +kernel⟩
include N T in
theorem ok_To : FnOk P w K mg base CX0 3 fTo dTo ["rows", "word", "thing"] spTo := by
 have GNm : FnOk P w K mg base CX0 2 fNm dNm ["thing"] spNm := ok_Nm N T
 have GRo : FnOk P w K mg base CX0 1 fRo dRo ["rows", "word"] spRo := ok_Ro N T
 refine N.FTo.ok scTo (fun vs H Q E h => ?_) (fun cdv A outer s H vs Q E hr h => ?_)
 ·obtain ⟨p, us, w, t, ρ, rfl, _⟩ := h
  rfl
 ·obtain ⟨p, us, w, t, ρ, rfl, hp, hR, hl, ht, q⟩ := h
  have hrNm : Room 2 _ := hr.mono (by decide)
  have hrRo : Room 1 _ := hr.mono (by decide)
  refine ⟨_, (pss_one (ps_ret (pe_and (pe_call GNm hrNm rfl N.mNm N.FNm.kp N.bNm .nil pass0 (pa_cons (pv 2) pa_nil)) (pe_one (pe_callB (call_any rfl) rfl T.any PyProof.Rows.boot_any (pa_cons (pe_comp rfl (compScope (osc := defScope sTo) (N := ["rows", "word", "thing"]) rfl rfl (by decide +kernel)) (pi_list (pe_call GRo hrRo rfl N.mRo N.FRo.kp N.bRo .nil pass0 (pa_cons (pv 0) (pa_cons (pv 1) pa_nil)))) (fun _ _ _ _ => pf_nil) (fun _ _ _ _ => (pe_cmpR op_eq (pe_ix (ix_tupK (K := K) rfl) (pv 0) pe_int (fun _ _ => rfl)) (pv 3) (nomark _)))) pa_nil)))))), ?_⟩
  refine ⟨_, rfl, t, rfl, ht, fun H1 s1 => ⟨_, rfl, iteT ?_⟩⟩
  refine ⟨_, rfl, _, rfl, p, us, w, ρ, rfl, s1 _ _ hp, hR.mono s1, hl, fun D H2 hD s2 hl2 => ?_⟩
  have hS : SqL K H2 D (us.filter (pw ρ w)) := .inl (.inl hl2)
  refine ⟨D, rfl, ⟨_, hS⟩, comp_sq (K := K) (xs := us.filter (pw ρ w)) (fun _ => true) (fun v => .bl (pn ρ t v)) hS (small1000 (by have := filter_len_le (pw ρ w) us; omega)) (fun x hx H' hs R k => k H' (Same.refl H')) (fun x hx _ H' hs R k => ?_) (fun D3 H3 hD3 s3 hl3 => ?_)⟩
  ·obtain ⟨T0, rfl, hT⟩ := (((hR.mono s1).mono s2).mono hs) x (List.mem_filter.mp hx).1
   exact ⟨_, rfl, T0, _, _, _, rfl, rfl, .inl (.inl hT), atI_nat (j := 1) rfl, _, rfl, rfl, k H' (Same.refl H')⟩
  ·refine ⟨D3, (us.filter (pw ρ w)).map (pn ρ t), rfl, .inl (.inl ?_), ?_⟩
   ·rw [hl3, List.filter_eq_self.mpr (fun _ _ => rfl), List.map_map]
    rfl
   ·have e : ((us.filter (pw ρ w)).map (pn ρ t)).any id = tld ρ us w t := by
     rw [List.any_map]
     rfl
    rw [e]
    exact q H3 ((s1.trans s2).trans s3)
def spWi (K : PySem.W.Frag) : Sp := fun vs H Q _ => ∃ (i lo hi : Int) (b : Addr), vs = [.int i, .ref b] /\ KTup K b [.int lo, .int hi] /\ lo <= i /\ i <= hi /\ Q (.bl true) H
theorem scWi : FnScope ["thing", "bounds"] ["thing", "bounds"] (defScope sWi) := ⟨rfl, rfl, rfl, by decide +kernel, rfl, by decide +kernel, by decide +kernel⟩
include N T in
theorem ok_Wi : FnOk P w K mg base CX0 2 fWi dWi ["thing", "bounds"] (spWi K) := by
 have GWh : FnOk P w K mg base CX0 1 fWh dWh ["thing"] spWh := ok_Wh N T
 refine N.FWi.ok scWi (fun vs H Q E h => ?_) (fun cdv A outer s H vs Q E hr h => ?_)
 ·obtain ⟨i, lo, hi, b, rfl, _⟩ := h
  rfl
 ·obtain ⟨i, lo, hi, b, rfl, hb, h1, h2, q⟩ := h
  have hrWh : Room 1 _ := hr.mono (by decide)
  refine ⟨_, (pss_one (ps_ret (pe_and (pe_call GWh hrWh rfl N.mWh N.FWh.kp N.bWh .nil pass0 (pa_cons (pv 0) pa_nil)) (pe_one (pe_chain op_le op_le (pe_ix (ix_tupK (K := K) rfl) (pv 1) pe_int (fun _ _ => rfl)) (pv 0) (pe_ix (ix_tupK (K := K) rfl) (pv 1) pe_int (fun _ _ => rfl))))))), ?_⟩
  refine ⟨_, rfl, i, rfl, _, rfl, iteT ?_⟩
  refine ⟨_, rfl, b, _, _, _, rfl, rfl, hb.sq _, atI_nat (j := 0) rfl, _, rfl, _, _, rfl, rfl, _, rfl, ?_⟩
  refine ite2 (fun _ => ?_) (fun z => absurd (decide_eq_true h1) z)
  refine ⟨_, rfl, b, _, _, _, rfl, rfl, hb.sq _, atI_nat (j := 1) rfl, _, _, rfl, rfl, ?_⟩
  show Q (.bl (decide (i <= hi))) H
  rw [decide_eq_true h2]
  exact q
def spPa (K : PySem.W.Frag) (aB : Addr) : Sp := fun vs H Q _ => ∃ (x : V) (part : Str) (p : Addr) (us : List V) (ρ : V -> R), vs = [x, .str part, .ref p] /\ H p = some (.lst us) /\ Rows H ρ us /\ us.length <= 500 /\ PartOk K aB ρ us x part /\ ∀ H', Same H H' -> Q (.bl true) H'
theorem scPa : FnScope ["thing", "part", "ahead"] ["thing", "part", "ahead"] (defScope sPa) := ⟨rfl, rfl, rfl, by decide +kernel, rfl, by decide +kernel, by decide +kernel⟩
include N T in
theorem ok_Pa : FnOk P w K mg base CX0 4 fPa dPa ["thing", "part", "ahead"] (spPa K aB) := by
 have GNm : FnOk P w K mg base CX0 2 fNm dNm ["thing"] spNm := ok_Nm N T
 have GTo : FnOk P w K mg base CX0 3 fTo dTo ["rows", "word", "thing"] spTo := ok_To N T
 have GWi : FnOk P w K mg base CX0 2 fWi dWi ["thing", "bounds"] (spWi K) := ok_Wi N T
 refine N.FPa.ok scPa (fun vs H Q E h => ?_) (fun cdv A outer s H vs Q E hr h => ?_)
 ·obtain ⟨x, part, p, us, ρ, rfl, _⟩ := h
  rfl
 ·obtain ⟨x, part, p, us, ρ, rfl, hp, hR, hl, hok, q⟩ := h
  have hrNm : Room 2 _ := hr.mono (by decide)
  have hrTo : Room 3 _ := hr.mono (by decide)
  have hrWi : Room 2 _ := hr.mono (by decide)
  refine ⟨_, (pss_cons (ps_if (pt_cmp (pc_kin (pv 1) (pe_glob (v := .ref aB) rfl T.mB rfl))) (pss_one (ps_ret (pe_call GWi hrWi rfl N.mWi N.FWi.kp N.bWi .nil pass0 (pa_cons (pv 0) (pa_cons (pe_kget (pe_glob (v := .ref aB) rfl T.mB rfl) (pv 1) (fun _ _ => rfl)) pa_nil))))) pss_nil)
   (pss_cons (ps_if (pt_cmpR op_eq (pv 1) pe_str (nomark _)) (pss_one (ps_ret (pe_and (pe_call GNm hrNm rfl N.mNm N.FNm.kp N.bNm .nil pass0 (pa_cons (pv 0) pa_nil)) (pe_one (pe_not (pe_callB (call_any rfl) rfl T.any PyProof.Rows.boot_any (pa_cons (pe_comp rfl (compScope (osc := defScope sPa) (N := ["thing", "part", "ahead"]) rfl rfl (by decide +kernel)) (pi_tup (pe_glob (v := .ref aN) rfl T.mN rfl)) (fun _ _ _ _ => pf_nil) (fun _ _ _ _ => (pe_call GTo hrTo rfl N.mTo N.FTo.kp N.bTo .nil pass0 (pa_cons (pv 3) (pa_cons (pv 0) (pa_cons (pv 1) pa_nil)))))) pa_nil))))))) pss_nil)
   (pss_one (ps_ret (pe_call GTo hrTo rfl N.mTo N.FTo.kp N.bTo .nil pass0 (pa_cons (pv 2) (pa_cons (pv 1) (pa_cons (pv 0) pa_nil)))))))), ?_⟩
  rcases hok with ⟨i, lo, hi, b, rfl, hn, hb, h1, h2⟩ | ⟨hn, rfl, t, rfl, ht, hno⟩ | ⟨hn, hne, t, rfl, ht, hyes⟩
  ·refine ⟨_, rfl, aB, part, _, rfl, rfl, T.dB, hn, _, rfl, iteT ?_⟩
   exact ⟨_, rfl, _, rfl, aB, part, .ref b, _, rfl, rfl, T.dB, hn, rfl, i, lo, hi, b, rfl, hb, h1, h2, q H (Same.refl H)⟩
  ·refine ⟨_, rfl, aB, _, _, rfl, rfl, T.dB, hn, _, rfl, iteF ?_⟩
   refine ⟨_, rfl, rfl, _, rfl, iteT ?_⟩
   refine ⟨_, rfl, t, rfl, ht, fun H1 s1 => ⟨_, rfl, iteT ?_⟩⟩
   have hS : SqT K H1 aN (named.map V.str) := T.tN.sq _
   refine ⟨aN, rfl, ⟨_, hS⟩, comp_any (xs := named.map V.str) (fun _ => true) (fun _ => .bl false) (by show 5 < sizeLine; decide) (fun i H2 x hs hx => ⟨_, x, hs.tup hS, hx⟩) (fun i H2 y H3 hs _ hy => ⟨hy.1, hy.2 _ (hs.tup hS)⟩) (fun H2 hs => ⟨_, hs.tup hS, Nat.le_refl _⟩)
    (fun x hx H' hs R k => k H' (Same.refl H')) (fun x hx _ H' hs R k => ?_) (fun D H2 hD s2 hl2 => ?_)⟩
   ·obtain ⟨w0, hw0, rfl⟩ := List.mem_map.mp hx
    refine ⟨_, rfl, _, rfl, _, rfl, p, us, w0, t, ρ, rfl, hs _ _ (s1 _ _ hp), (hR.mono s1).mono hs, hl, ht, fun H'' s'' => ?_⟩
    rw [hno w0 hw0]
    exact k H'' s''
   ·refine ⟨D, [false, false, false, false, false], rfl, .inl (.inl hl2), _, rfl, ?_⟩
    exact q H2 (s1.trans s2)
  ·refine ⟨_, rfl, aB, _, _, rfl, rfl, T.dB, hn, _, rfl, iteF ?_⟩
   refine ⟨_, rfl, rfl, _, rfl, ?_⟩
   refine ite2 (fun z => absurd (V.str.inj (of_decide_eq_true z)) hne) (fun _ => ?_)
   refine ⟨_, rfl, _, rfl, _, rfl, p, us, part, t, ρ, rfl, hp, hR, hl, ht, fun H' hs => ?_⟩
   rw [hyes]
   exact q H' hs
def spHp (K : PySem.W.Frag) (aB aP : Addr) : Sp := fun vs H Q _ => ∃ (r p : Addr) (w : Str) (xs : List V) (us : List V) (ρ : V -> R) (ap : Addr) (ps : List Str), vs = [.ref r, .ref p] /\ H r = some (.tup (.str w :: xs)) /\ H p = some (.lst us) /\ Rows H ρ us /\ us.length <= 500 /\
 PySem.W.nsIn K aP w = some (some (.ref ap)) /\ KTup K ap (ps.map V.str) /\ xs.length = ps.length /\ ps.length <= 10 /\ (∀ (i : Nat) x y, xs[i]? = some x -> ps[i]? = some y -> PartOk K aB ρ us x y) /\ ∀ H', Same H H' -> Q (.bl true) H'
theorem scHp : FnScope ["row", "ahead", "parts"] ["row", "ahead"] (defScope sHp) := ⟨rfl, rfl, rfl, by decide +kernel, rfl, by decide +kernel, by decide +kernel⟩
include N T in
theorem ok_Hp : FnOk P w K mg base CX0 5 fHp dHp ["row", "ahead"] (spHp K aB aP) := by
 have GPa : FnOk P w K mg base CX0 4 fPa dPa ["thing", "part", "ahead"] (spPa K aB) := ok_Pa N T
 refine N.FHp.ok scHp (fun vs H Q E h => ?_) (fun cdv A outer s H vs Q E hr h => ?_)
 ·obtain ⟨r, p, w, xs, us, ρ, ap, ps, rfl, _⟩ := h
  rfl
 ·obtain ⟨r, p, w, xs, us, ρ, ap, ps, rfl, hr0, hp, hR, hl, hn, hap, hlen, hps, hok, q⟩ := h
  have hrPa : Room 4 _ := hr.mono (by decide)
  refine ⟨_, (pss_cons (ps_set (i := 2) scHp.nd rfl (Or.inl rfl) (pe_kget (pe_glob (v := .ref aP) rfl T.mP rfl) (pe_ix (ix_tupK (K := K) rfl) (pv 0) pe_int (fun _ _ => rfl)) (fun _ _ => rfl)))
   (pss_cons (ps_if (pt_cmpR op_ne (pe_callB call_len_seq rfl T.len PySem.boot_len (pa_cons (pv 0) pa_nil)) (pe_op op_add pe_int (pe_callB call_len_seq rfl T.len PySem.boot_len (pa_cons (pv 2) pa_nil))) (nomark _)) (pss_one (ps_ret pe_bl)) pss_nil)
   (pss_one (ps_ret (pe_callB (call_all rfl) rfl T.all PyProof.Rows.boot_all (pa_cons (pe_pair rfl (compScope2 (osc := defScope sHp) (N := ["row", "ahead", "parts"]) rfl rfl (by decide +kernel)) (pi_zipT rfl T.zip (pa_cons (pe_slice sl_tup (pv 0) (po_some pe_int) po_none) (pa_cons (pv 2) pa_nil))) (fun _ _ _ _ => pf_nil) (fun _ _ _ _ => (pe_call GPa hrPa rfl N.mPa N.FPa.kp N.bPa .nil pass0 (pa_cons (pv 0) (pa_cons (pv 1) (pa_cons (pv 3) pa_nil)))))) pa_nil)))))), ?_⟩
  refine ⟨_, rfl, r, _, _, _, rfl, rfl, .inl (.inl hr0), atI_nat (j := 0) rfl, aP, w, .ref ap, _, rfl, rfl, T.dP, hn, rfl, ?_⟩
  refine ⟨_, rfl, r, _, rfl, .inr (.inl (.inl hr0)), _, rfl, ap, _, rfl, .inr (hap.sq _), _, _, rfl, rfl, rfl, _, rfl, ?_⟩
  refine ite2 (fun z => ?_) (fun _ => ?_)
  ·exfalso
   have e : (((V.str w :: xs).length : Nat) : Int) = 1 + (((ps.map V.str).length : Nat) : Int) := by
    rw [List.length_cons, List.length_map, hlen]
    omega
   rw [e] at z
   simp at z
  ·have hcut : cutV (V.str w :: xs) (some 1) none = xs := by
    unfold cutV
    have e1 : HT.sIx (V.str w :: xs).length 0 (some ((1 : Nat) : Int)) = 1 := by rw [HT.sIx_nat, List.length_cons]; omega
    have e1' : HT.sIx (V.str w :: xs).length 0 (some (1 : Int)) = 1 := e1
    rw [e1', HT.sIx_none, List.drop_succ_cons, List.drop_zero]
    exact List.take_of_length_le (by rw [List.length_cons]; omega)
   refine ⟨_, rfl, _, rfl, r, _, rfl, .inl (.inl hr0), (fun z => ?_), fun p2 hp2 => ?_⟩
   ·have e1 : HT.sIx (V.str w :: xs).length 0 (some ((1 : Nat) : Int)) = 1 := by rw [HT.sIx_nat, List.length_cons]; omega
    have := z.1.symm.trans e1
    cases this
   rw [hcut]
   have s2 := same_upd (o := HO.tup xs) hp2
   have a2 : upd H p2 (HO.tup xs) p2 = some (.tup xs) := upd_same
   generalize upd H p2 (HO.tup xs) = H2 at s2 a2 ⊢
   have h1 : SqT K H2 p2 xs := .inl (.inl a2)
   refine ⟨_, rfl, p2, ap, rfl, ⟨_, h1⟩, ⟨_, hap.sq _⟩, comp_zip (K := K) (xs := xs) (ys := ps.map V.str) (fun _ _ => .bl true) h1 (hap.sq _) (by rw [List.length_map]; exact hlen) (small1000 (by omega)) (fun i x y hx hy H3 s3 R k => ?_) (fun D H3 hD s3 hl3 => ?_)⟩
   ·rw [List.getElem?_map] at hy
    obtain ⟨part, hpart, rfl⟩ := Option.map_eq_some_iff.mp hy
    exact ⟨_, rfl, _, rfl, _, rfl, x, part, p, us, ρ, rfl, s3 _ _ (s2 _ _ hp), (hR.mono s2).mono s3, hl, hok i x part hx hpart, fun H4 s4 => k H4 s4⟩
   ·have e : List.zipWith (fun _ _ => V.bl true) xs (ps.map V.str) = (List.replicate xs.length true).map V.bl := by
     rw [List.map_replicate]
     refine List.ext_getElem? fun i => ?_
     rw [List.getElem?_zipWith]
     by_cases hi : i < xs.length
     ·rw [List.getElem?_eq_getElem hi, List.getElem?_eq_getElem (by rw [List.length_map]; omega), List.getElem?_eq_getElem (by rw [List.length_replicate]; exact hi)]
      simp
     ·rw [List.getElem?_eq_none (by omega), List.getElem?_eq_none (l := List.replicate _ _) (by rw [List.length_replicate]; omega)]
    rw [e] at hl3
    refine ⟨D, List.replicate xs.length true, rfl, .inl (.inl hl3), ?_⟩
    have e2 : (List.replicate xs.length true).all id = true := by simp
    rw [e2]
    exact q H3 (s2.trans s3)
def spCl : Sp := fun vs H Q _ => ∃ (p : Addr) (us : List V) (ρ : V -> R) (c : Nat), vs = [.ref p] /\ H p = some (.lst us) /\ Rows H ρ us /\ us.length <= 500 /\ LastL ρ us c /\ Q (.int (c : Nat)) H
theorem scCl : FnScope ["rows", "count", "row"] ["rows"] (defScope sCl) := ⟨rfl, rfl, rfl, by decide +kernel, rfl, by decide +kernel, by decide +kernel⟩
include N T in
theorem ok_Cl : FnOk P w K mg base CX0 1 fCl dCl ["rows"] spCl := by
 refine N.FCl.ok scCl (fun vs H Q E h => ?_) (fun cdv A outer s H vs Q E hr h => ?_)
 ·obtain ⟨p, us, ρ, c, rfl, _⟩ := h
  rfl
 ·obtain ⟨p, us, ρ, c, rfl, hp, hR, hl, hc, q⟩ := h
  refine ⟨_, (pss_cons (ps_set (i := 1) scCl.nd rfl (Or.inl rfl) pe_int)
   (pss_cons (ps_for PassesOwn.never rfl (pi_rev rfl T.reversed (pa_cons (pv 0) pa_nil)) (pg_name (i := 2) scCl.nd rfl (Or.inl rfl)) (pss_cons (ps_if (pt_cmpR op_ne (pe_ix (ix_tupK (K := K) rfl) (pv 2) pe_int (fun _ _ => rfl)) pe_str (nomark _)) (pss_one ps_break) pss_nil)
   (pss_one (ps_set (i := 1) scCl.nd rfl (Or.inl rfl) (pe_op op_add (pv 1) pe_int)))))
   (pss_one (ps_ret (pv 1))))), ?_⟩
  have hS : SqL K H p us := .inl (.inl hp)
  refine ⟨_, rfl, p, us, rfl, hS, for_rev (K := K) (a := p) (xs := us) (fun i σ H4 => H4 = H /\ i <= c /\ ∃ v2, σ = [some (.ref p), some (.int (i : Nat)), v2]) ⟨rfl, Nat.zero_le _, _, rfl⟩ (fun i σ H4 _ h => by rw [h.1]; exact hS) ?_ ?_⟩
  ·rintro i x σ H4 hi hx ⟨rfl, hic, v2, rfl⟩
   obtain ⟨r, rfl, hr0⟩ := hR x (List.mem_of_getElem? hx)
   refine ⟨_, rfl, r, _, _, _, rfl, rfl, .inl (.inl hr0), atI_nat (j := 0) rfl, rfl, _, rfl, ?_⟩
   by_cases e : (ρ (.ref r)).w = "line"
   ·have hne : i ≠ c := fun z => by
     obtain ⟨v, hv, hno⟩ := hc.no
     rw [← z, hx] at hv
     cases hv
     exact hno e
    refine iteNS (congrArg V.str e) ?_
    exact ⟨_, rfl, _, _, rfl, rfl, rfl, by omega, _, rfl⟩
   ·have hic' : i = c := by
     refine Classical.byContradiction fun z => ?_
     obtain ⟨v, hv, hyes⟩ := hc.all i (by omega)
     rw [hx] at hv
     cases hv
     exact e hyes
    subst hic'
    rw [decide_eq_false fun z => e (V.str.inj z)]
    refine iteT ?_
    exact ⟨_, rfl, q⟩
  ·rintro σ H4 ⟨rfl, hic, v2, rfl⟩
   have := hc.lt
   omega
def spIk : Sp := fun vs H Q _ => ∃ (n : Int) (bd : Str) (p : Addr) (us : List V) (ρ : V -> R), vs = [.int n, .str bd, .ref p] /\ H p = some (.lst us) /\ Rows H ρ us /\ us.length <= 500 /\ BoardsOk ρ us /\ ∀ H', Same H H' -> Q (.bl (keyOf ρ us bd n)) H'
theorem scIk : FnScope ["number", "board", "ahead"] ["number", "board", "ahead"] (defScope sIk) := ⟨rfl, rfl, rfl, by decide +kernel, rfl, by decide +kernel, by decide +kernel⟩
include N T in
theorem ok_Ik : FnOk P w K mg base CX0 2 fIk dIk ["number", "board", "ahead"] spIk := by
 have GRo : FnOk P w K mg base CX0 1 fRo dRo ["rows", "word"] spRo := ok_Ro N T
 refine N.FIk.ok scIk (fun vs H Q E h => ?_) (fun cdv A outer s H vs Q E hr h => ?_)
 ·obtain ⟨n, bd, p, us, ρ, rfl, _⟩ := h
  rfl
 ·obtain ⟨n, bd, p, us, ρ, rfl, hp, hR, hl, hB, q⟩ := h
  have hrRo : Room 1 _ := hr.mono (by decide)
  refine ⟨_, (pss_one (ps_ret (pe_callB (call_any rfl) rfl T.any PyProof.Rows.boot_any (pa_cons (pe_comp rfl (compScope (osc := defScope sIk) (N := ["number", "board", "ahead"]) rfl rfl (by decide +kernel)) (pi_list (pe_call GRo hrRo rfl N.mRo N.FRo.kp N.bRo .nil pass0 (pa_cons (pv 2) (pa_cons pe_str pa_nil)))) (fun _ _ _ _ => pf_nil) (fun _ _ _ _ => (pe_and (pe_cmpR op_eq (pe_ix (ix_tupK (K := K) rfl) (pv 0) pe_int (fun _ _ => rfl)) (pv 2) (nomark _)) (pe_one (pe_cmpR op_lt (pv 1) (pe_ix (ix_tupK (K := K) rfl) (pv 0) pe_int (fun _ _ => rfl)) (nomark _)))))) pa_nil)))), ?_⟩
  refine ⟨_, rfl, p, us, "board", ρ, rfl, hp, hR, hl, fun D H2 hD s2 hl2 => ?_⟩
  have hS : SqL K H2 D (us.filter (pw ρ "board")) := .inl (.inl hl2)
  refine ⟨D, rfl, ⟨_, hS⟩, comp_sq (K := K) (xs := us.filter (pw ρ "board")) (fun _ => true) (fun v => .bl (pn ρ bd v && decide (n < szR (ρ v)))) hS (small1000 (by have := filter_len_le (pw ρ "board") us; omega)) (fun x hx H' hs R k => k H' (Same.refl H')) (fun x hx _ H' hs R k => ?_) (fun D3 H3 hD3 s3 hl3 => ?_)⟩
  ·have hx' := List.mem_filter.mp hx
   obtain ⟨m, em⟩ := hB x hx'.1 (V.str.inj (of_decide_eq_true hx'.2))
   have hz : szR (ρ x) = m := by unfold szR; rw [em]
   have hT := ((hR.mono s2).mono hs) x hx'.1
   have kk := k H' (Same.refl H')
   rw [hz] at kk
   obtain ⟨T0, rfl, hT⟩ := hT
   have kk : R (.bl (decide (V.str (ρ (.ref T0)).nm = V.str bd) && decide (n < m))) H' := kk
   have hT' : H' T0 = some (.tup (.str (ρ (.ref T0)).w :: .str (ρ (.ref T0)).nm :: (ρ (.ref T0)).rest)) := hT
   rw [em] at hT'
   refine ⟨_, rfl, T0, _, _, _, rfl, rfl, .inl (.inl hT'), atI_nat (j := 1) rfl, _, rfl, rfl, _, rfl, ?_⟩
   refine ite2 (fun g => ?_) (fun g => ?_)
   ·rw [g, Bool.true_and] at kk
    exact ⟨_, rfl, _, rfl, T0, _, _, _, rfl, rfl, .inl (.inl hT'), atI_nat (j := 2) rfl, _, _, rfl, rfl, kk⟩
   ·rw [(Bool.not_eq_true _).mp g, Bool.false_and] at kk
    exact kk
  ·refine ⟨D3, (us.filter (pw ρ "board")).map (fun v => pn ρ bd v && decide (n < szR (ρ v))), rfl, .inl (.inl ?_), ?_⟩
   ·rw [hl3, List.filter_eq_self.mpr (fun _ _ => rfl), List.map_map]
    rfl
   ·have e : ((us.filter (pw ρ "board")).map (fun v => pn ρ bd v && decide (n < szR (ρ v)))).any id = keyOf ρ us bd n := by
     rw [List.any_map]
     rfl
    rw [e]
    exact q H3 (s2.trans s3)
def spSb : Sp := fun vs H Q _ => ∃ (r p : Addr) (ro : R) (us : List V) (ρ : V -> R), vs = [.ref r, .ref p] /\ H r = some (.tup ro.v) /\ H p = some (.lst us) /\ Rows H ρ us /\ us.length <= 500 /\ LineOk ρ us ro /\ BoardsOk ρ us /\ ∀ H', Same H H' -> Q (.bl true) H'
theorem scSb : FnScope ["line", "ahead", "count", "row"] ["line", "ahead"] (defScope sSb) := ⟨rfl, rfl, rfl, by decide +kernel, rfl, by decide +kernel, by decide +kernel⟩
include N T in
theorem ok_Sb : FnOk P w K mg base CX0 3 fSb dSb ["line", "ahead"] spSb := by
 have GCl : FnOk P w K mg base CX0 1 fCl dCl ["rows"] spCl := ok_Cl N T
 have GIk : FnOk P w K mg base CX0 2 fIk dIk ["number", "board", "ahead"] spIk := ok_Ik N T
 refine N.FSb.ok scSb (fun vs H Q E h => ?_) (fun cdv A outer s H vs Q E hr h => ?_)
 ·obtain ⟨r, p, ro, us, ρ, rfl, _⟩ := h
  rfl
 ·obtain ⟨r, p, ro, us, ρ, rfl, hr0, hp, hR, hl, hL, hB, q⟩ := h
  have hrCl : Room 1 _ := hr.mono (by decide)
  have hrIk : Room 2 _ := hr.mono (by decide)
  obtain ⟨tML4, hML4⟩ := T.mostLn
  refine ⟨_, (pss_cons (ps_set (i := 2) scSb.nd rfl (Or.inl rfl) (pe_call GCl hrCl rfl N.mCl N.FCl.kp N.bCl .nil pass0 (pa_cons (pv 1) pa_nil)))
   (pss_cons (ps_set (i := 3) scSb.nd rfl (Or.inl rfl) (pe_ix ix_list (pv 1) (pe_op op_sub (pe_op op_sub (pe_callB call_len_seq rfl T.len PySem.boot_len (pa_cons (pv 1) pa_nil)) pe_int) (pv 2)) (fun _ _ => rfl)))
   (pss_cons (ps_if (PW.pt (pw_or (pt_cmpR op_ne (pe_ix (ix_tupK (K := K) rfl) (pv 3) pe_int (fun _ _ => rfl)) pe_str (nomark _)) (pw_or1 (pt_cmpR op_ge (pv 2) (pe_glob (v := .int 4) rfl hML4 ⟨tML4, rfl⟩) (nomark _))))) (pss_one (ps_ret pe_bl)) pss_nil)
   (pss_one (ps_ret (pe_and (pe_cmpR op_le (pe_ix (ix_tupK (K := K) rfl) (pv 0) pe_int (fun _ _ => rfl)) (pe_ix (ix_tupK (K := K) rfl) (pv 0) pe_int (fun _ _ => rfl)) (nomark _)) (pe_one (pe_call GIk hrIk rfl N.mIk N.FIk.kp N.bIk .nil pass0 (pa_cons (pe_ix (ix_tupK (K := K) rfl) (pv 0) pe_int (fun _ _ => rfl)) (pa_cons (pe_ix (ix_tupK (K := K) rfl) (pv 3) pe_int (fun _ _ => rfl)) (pa_cons (pv 1) pa_nil))))))))))), ?_⟩
  obtain ⟨cnt, v, sh, lo, hi, bd, rs, er, hc, h4, hv, hw, hrest, hle, hk⟩ := hL.ex
  have hr1 : H r = some (.tup [.str ro.w, .str ro.nm, .int sh, .int lo, .int hi]) := by rw [hr0, ← er]
  obtain ⟨r2, rfl, hr2⟩ := hR v (List.mem_of_getElem? hv)
  have hr2' : H r2 = some (.tup (.str (ρ (.ref r2)).w :: .str (ρ (.ref r2)).nm :: .str bd :: rs)) := by rw [hr2, ← hrest]
  have hlt := hc.lt
  have ei : ((us.length : Nat) : Int) - 1 - ((cnt : Nat) : Int) = ((us.length - 1 - cnt : Nat) : Int) := by omega
  have hS : SqL K H p us := .inl (.inl hp)
  refine ⟨_, rfl, p, us, ρ, cnt, rfl, hp, hR, hl, hc, ?_⟩
  refine ⟨_, rfl, _, rfl, p, us, rfl, .inl hS, _, _, rfl, rfl, _, rfl, _, _, rfl, rfl, p, us, _, _, rfl, rfl, hS, (by rw [ei]; exact atI_nat hv), ?_⟩
  refine ⟨_, rfl, r2, _, _, _, rfl, rfl, .inl (.inl hr2'), atI_nat (j := 0) rfl, rfl, _, rfl, iteNS (congrArg V.str hw) ?_⟩
  refine ⟨_, rfl, _, _, rfl, rfl, _, rfl, ?_⟩
  refine ite2 (fun z => ?_) (fun _ => ?_)
  ·have := of_decide_eq_true z
   omega
  refine ⟨_, rfl, r, _, _, _, rfl, rfl, .inl (.inl hr1), atI_nat (j := 3) rfl, _, rfl, r, _, _, _, rfl, rfl, .inl (.inl hr1), atI_nat (j := 4) rfl, _, _, rfl, rfl, _, rfl, ?_⟩
  refine ite2 (fun _ => ?_) (fun z => absurd (decide_eq_true hle) z)
  refine ⟨_, rfl, r, _, _, _, rfl, rfl, .inl (.inl hr1), atI_nat (j := 4) rfl, _, rfl, r2, _, _, _, rfl, rfl, .inl (.inl hr2'), atI_nat (j := 2) rfl, _, rfl, hi, bd, p, us, ρ, rfl, hp, hR, hl, hB, fun H' s' => ?_⟩
  rw [hk]
  exact q H' s'
def spWm (K : PySem.W.Frag) (aB aP aM : Addr) : Sp := fun vs H Q _ => ∃ (r p : Addr) (ro : R) (us : List V) (ρ : V -> R), vs = [.ref r, .ref p] /\ H r = some (.tup ro.v) /\ H p = some (.lst us) /\ Rows H ρ us /\ us.length <= 500 /\ RowOk2 K aB aP aM ρ us ro /\ ∀ H', Same H H' -> Q (.bl true) H'
theorem scWm : FnScope ["row", "ahead"] ["row", "ahead"] (defScope sWm) := ⟨rfl, rfl, rfl, by decide +kernel, rfl, by decide +kernel, by decide +kernel⟩
include N T in
theorem ok_Wm : FnOk P w K mg base CX0 6 fWm dWm ["row", "ahead"] (spWm K aB aP aM) := by
 have GHp : FnOk P w K mg base CX0 5 fHp dHp ["row", "ahead"] (spHp K aB aP) := ok_Hp N T
 have GSb : FnOk P w K mg base CX0 3 fSb dSb ["line", "ahead"] spSb := ok_Sb N T
 refine N.FWm.ok scWm (fun vs H Q E h => ?_) (fun cdv A outer s H vs Q E hr h => ?_)
 ·obtain ⟨r, p, ro, us, ρ, rfl, _⟩ := h
  rfl
 ·obtain ⟨r, p, ro, us, ρ, rfl, hr0, hp, hR, hl, ok, q⟩ := h
  have hrHp : Room 5 _ := hr.mono (by decide)
  have hrSb : Room 3 _ := hr.mono (by decide)
  refine ⟨_, (pss_cons (ps_if (pt_cmpR op_eq (pe_ix (ix_tupK (K := K) rfl) (pv 0) pe_int (fun _ _ => rfl)) pe_str (nomark _)) (pss_one ps_never) pss_nil)
   (pss_cons (ps_if (pt_cmpR op_eq (pe_ix (ix_tupK (K := K) rfl) (pv 0) pe_int (fun _ _ => rfl)) pe_str (nomark _)) (pss_one (ps_ret (pe_and (pe_call GHp hrHp rfl N.mHp N.FHp.kp N.bHp .nil pass0 (pa_cons (pv 0) (pa_cons (pv 1) pa_nil))) (pe_one (pe_call GSb hrSb rfl N.mSb N.FSb.kp N.bSb .nil pass0 (pa_cons (pv 0) (pa_cons (pv 1) pa_nil))))))) pss_nil)
   (pss_one (ps_ret (pe_and (pe_cmp (pc_kin (pe_ix (ix_tupK (K := K) rfl) (pv 0) pe_int (fun _ _ => rfl)) (pe_glob (v := .ref aP) rfl T.mP rfl))) (pe_one (pe_call GHp hrHp rfl N.mHp N.FHp.kp N.bHp .nil pass0 (pa_cons (pv 0) (pa_cons (pv 1) pa_nil))))))))), ?_⟩
  obtain ⟨ap, ps, hn, hap, hlen, hps, hok⟩ := ok.parts
  refine ⟨_, rfl, r, _, _, _, rfl, rfl, .inl (.inl hr0), atI_nat (j := 0) rfl, rfl, _, rfl, ?_⟩
  refine ite2 (fun z => absurd (V.str.inj (of_decide_eq_true z)) ok.ns) (fun _ => ?_)
  refine ⟨_, rfl, r, _, _, _, rfl, rfl, .inl (.inl hr0), atI_nat (j := 0) rfl, rfl, _, rfl, ?_⟩
  refine ite2 (fun z => ?_) (fun _ => ?_)
  ·have hline := ok.line (V.str.inj (of_decide_eq_true z))
   refine ⟨_, rfl, _, rfl, r, p, ro.w, _, us, ρ, ap, ps, rfl, hr0, hp, hR, hl, hn, hap, hlen, hps, hok, fun H1 s1 => ⟨_, rfl, iteT ?_⟩⟩
   exact ⟨_, rfl, _, rfl, r, p, ro, us, ρ, rfl, s1 _ _ hr0, s1 _ _ hp, hR.mono s1, hl, hline, ok.bds, fun H2 s2 => q H2 (s1.trans s2)⟩
  refine ⟨_, rfl, r, _, _, _, rfl, rfl, .inl (.inl hr0), atI_nat (j := 0) rfl, aP, _, _, rfl, rfl, T.dP, hn, _, rfl, iteT ?_⟩
  exact ⟨_, rfl, _, rfl, r, p, ro.w, _, us, ρ, ap, ps, rfl, hr0, hp, hR, hl, hn, hap, hlen, hps, hok, q⟩
def spHr (K : PySem.W.Frag) (aM : Addr) : Sp := fun vs H Q _ => ∃ (p : Addr) (w : Str) (us : List V) (ρ : V -> R), vs = [.str w, .ref p] /\ H p = some (.lst us) /\ Rows H ρ us /\ us.length <= 500 /\ (PySem.W.nsIn K aM w = some none \/ ∃ (m : Int) (t : Tok), PySem.W.nsIn K aM w = some (some (.int m t)) /\ (((us.filter (pw ρ w)).length : Nat) : Int) < m) /\ ∀ H', Same H H' -> Q (.bl true) H'
theorem scHr : FnScope ["word", "ahead"] ["word", "ahead"] (defScope sHr) := ⟨rfl, rfl, rfl, by decide +kernel, rfl, by decide +kernel, by decide +kernel⟩
include N T in
theorem ok_Hr : FnOk P w K mg base CX0 2 fHr dHr ["word", "ahead"] (spHr K aM) := by
 have GRo : FnOk P w K mg base CX0 1 fRo dRo ["rows", "word"] spRo := ok_Ro N T
 refine N.FHr.ok scHr (fun vs H Q E h => ?_) (fun cdv A outer s H vs Q E hr h => ?_)
 ·obtain ⟨p, w, us, ρ, rfl, _⟩ := h
  rfl
 ·obtain ⟨p, w, us, ρ, rfl, hp, hR, hl, hroom, q⟩ := h
  have hrRo : Room 1 _ := hr.mono (by decide)
  refine ⟨_, (pss_one (ps_ret (pe_or (pe_cmp (pc_knotin (pv 0) (pe_glob (v := .ref aM) rfl T.mM rfl))) (pe_one (pe_cmpR op_lt (pe_callB call_len_seq rfl T.len PySem.boot_len (pa_cons (pe_call GRo hrRo rfl N.mRo N.FRo.kp N.bRo .nil pass0 (pa_cons (pv 1) (pa_cons (pv 0) pa_nil))) pa_nil)) (pe_kget (pe_glob (v := .ref aM) rfl T.mM rfl) (pv 0) (fun _ _ => rfl)) (nomark _)))))), ?_⟩
  rcases hroom with hn | ⟨m, t, hn, hm⟩
  ·refine ⟨_, rfl, aM, w, _, rfl, rfl, T.dM, hn, _, rfl, iteT ?_⟩
   exact q H (Same.refl H)
  refine ⟨_, rfl, aM, w, _, rfl, rfl, T.dM, hn, _, rfl, iteF ?_⟩
  refine ⟨_, rfl, _, rfl, p, us, w, ρ, rfl, hp, hR, hl, fun D H2 hD s2 hl2 => ?_⟩
  refine ⟨D, _, rfl, .inl (.inl (.inl hl2)), _, rfl, aM, w, .int m, _, rfl, rfl, T.dM, hn, ⟨t, rfl⟩, _, _, rfl, rfl, ?_⟩
  show Q (.bl (decide ((((us.filter (pw ρ w)).length : Nat) : Int) < m))) H2
  rw [decide_eq_true hm]
  exact q H2 s2
def spIr (K : PySem.W.Frag) (aB aP aM : Addr) : Sp := spWm K aB aP aM
theorem scIr : FnScope ["thing", "ahead"] ["thing", "ahead"] (defScope sIr) := ⟨rfl, rfl, rfl, by decide +kernel, rfl, by decide +kernel, by decide +kernel⟩
include N T in
theorem ok_Ir : FnOk P w K mg base CX0 7 fIr dIr ["thing", "ahead"] (spIr K aB aP aM) := by
 have GWm : FnOk P w K mg base CX0 6 fWm dWm ["row", "ahead"] (spWm K aB aP aM) := ok_Wm N T
 have GHr : FnOk P w K mg base CX0 2 fHr dHr ["word", "ahead"] (spHr K aM) := ok_Hr N T
 refine N.FIr.ok scIr (fun vs H Q E h => ?_) (fun cdv A outer s H vs Q E hr h => ?_)
 ·obtain ⟨r, p, ro, us, ρ, rfl, _⟩ := h
  rfl
 ·obtain ⟨r, p, ro, us, ρ, rfl, hr0, hp, hR, hl, ok, q⟩ := h
  have hrWm : Room 6 _ := hr.mono (by decide)
  have hrHr : Room 2 _ := hr.mono (by decide)
  refine ⟨_, (pss_cons (ps_if (PW.pt (pw_or (pt_not (pt_val (pe_callB call_isin rfl T.isin PyProof.Rows.boot_isinstance (pa_cons (pv 0) (pa_cons (pe_bltn (v := .ty "tuple") rfl T.tuple PyProof.Rows.boot_tuple rfl) pa_nil))))) (pw_or (pt_cmpR op_eq (pe_callB call_len_seq rfl T.len PySem.boot_len (pa_cons (pv 0) pa_nil)) pe_int (nomark _)) (pw_or1 (pt_not (pt_val (pe_callB call_isin rfl T.isin PyProof.Rows.boot_isinstance (pa_cons (pe_ix (ix_tupK (K := K) rfl) (pv 0) pe_int (fun _ _ => rfl)) (pa_cons (pe_bltn (v := .ty "str") rfl T.str PyProof.Rows.boot_str rfl) pa_nil))))))))) (pss_one (ps_ret pe_bl)) pss_nil)
   (pss_one (ps_ret (pe_and (pe_call GWm hrWm rfl N.mWm N.FWm.kp N.bWm .nil pass0 (pa_cons (pv 0) (pa_cons (pv 1) pa_nil))) (pe_one (pe_call GHr hrHr rfl N.mHr N.FHr.kp N.bHr .nil pass0 (pa_cons (pe_ix (ix_tupK (K := K) rfl) (pv 0) pe_int (fun _ _ => rfl)) (pa_cons (pv 1) pa_nil)))))))), ?_⟩
  have hroom : PySem.W.nsIn K aM ro.w = some none \/ ∃ (m : Int) (t : Tok), PySem.W.nsIn K aM ro.w = some (some (.int m t)) /\ (((us.filter (pw ρ ro.w)).length : Nat) : Int) < m := ok.room.elim (fun z => .inl z.2) .inr
  refine ⟨_, rfl, _, "tuple", _, _, rfl, .tup hr0, ty_tt, _, rfl, iteF ?_⟩
  refine ⟨_, rfl, r, _, rfl, .inr (.inl (.inl hr0)), rfl, _, rfl, ?_⟩
  refine ite2 (fun z => ?_) (fun _ => ?_)
  ·exfalso
   have := of_decide_eq_true z
   have := V.int.inj this
   simp at this
   omega
  refine ⟨_, rfl, r, _, _, _, rfl, rfl, .inl (.inl hr0), atI_nat (j := 0) rfl, _, "str", _, _, rfl, .str _, ty_ss, _, rfl, iteF ?_⟩
  refine ⟨_, rfl, _, rfl, r, p, ro, us, ρ, rfl, hr0, hp, hR, hl, ok, fun H1 s1 => ⟨_, rfl, iteT ?_⟩⟩
  exact ⟨_, rfl, r, _, _, _, rfl, rfl, .inl (.inl (s1 _ _ hr0)), atI_nat (j := 0) rfl, _, rfl, p, ro.w, us, ρ, rfl, s1 _ _ hp, hR.mono s1, hl, hroom, fun H2 s2 => q H2 (s1.trans s2)⟩
def spCk (K : PySem.W.Frag) (aB aP aM : Addr) : Sp := fun vs H Q _ => ∃ (p : Addr) (us : List V) (ρ : V -> R), vs = [.ref p] /\ H p = some (.lst us) /\ Rows H ρ us /\ 1 <= us.length /\ us.length <= 150 /\ (∀ (i : Nat) v, us[i]? = some v -> RowOk2 K aB aP aM ρ (us.take i) (ρ v)) /\ (us.filter (pw ρ "board")).isEmpty = false /\ ∀ H', Same H H' -> Q .non H'
theorem scCk : FnScope ["rows", "at", "row"] ["rows"] (defScope sCk) := ⟨rfl, rfl, rfl, by decide +kernel, rfl, by decide +kernel, by decide +kernel⟩
include N T in
theorem ok_Ck : FnOk P w K mg base CX0 8 fCk dCk ["rows"] (spCk K aB aP aM) := by
 have GIr : FnOk P w K mg base CX0 7 fIr dIr ["thing", "ahead"] (spIr K aB aP aM) := ok_Ir N T
 have GRo : FnOk P w K mg base CX0 1 fRo dRo ["rows", "word"] spRo := ok_Ro N T
 refine N.FCk.ok scCk (fun vs H Q E h => ?_) (fun cdv A outer s H vs Q E hr h => ?_)
 ·obtain ⟨p, us, ρ, rfl, _⟩ := h
  rfl
 ·obtain ⟨p, us, ρ, rfl, hp, hR, h1, h2, hok, hb, q⟩ := h
  have hrIr : Room 7 _ := hr.mono (by decide)
  have hrRo : Room 1 _ := hr.mono (by decide)
  obtain ⟨tMR, hMR⟩ := T.mostR
  refine ⟨_, (pss_cons (ps_if (PW.pt (pw_or (pt_not (pt_val (pe_callB call_isin rfl T.isin PyProof.Rows.boot_isinstance (pa_cons (pv 0) (pa_cons (pe_bltn (v := .ty "list") rfl T.list PyProof.Rows.boot_list rfl) pa_nil))))) (pw_or1 (pt_not (pt_chain op_le op_le pe_int (pe_callB call_len_seq rfl T.len PySem.boot_len (pa_cons (pv 0) pa_nil)) (pe_glob (v := .int 150) rfl hMR ⟨tMR, rfl⟩)))))) (pss_one ps_never) pss_nil)
   (pss_cons (ps_for PassesOwn.never rfl (pi_enum rfl T.enumerate (pa_cons (pv 0) pa_nil)) (pg_tup rfl (pgs_cons (pg_name (i := 1) scCk.nd rfl (Or.inl rfl)) (pgs_cons (pg_name (i := 2) scCk.nd rfl (Or.inl rfl)) pgs_nil))) (pss_one (ps_if (pt_not (pt_val (pe_call GIr hrIr rfl N.mIr N.FIr.kp N.bIr .nil pass0 (pa_cons (pv 2) (pa_cons (pe_slice sl_list (pv 0) po_none (po_some (pv 1))) pa_nil))))) (pss_one ps_never) pss_nil)))
   (pss_one (ps_if (pt_not (pt_truth (pe_call GRo hrRo rfl N.mRo N.FRo.kp N.bRo .nil pass0 (pa_cons (pv 0) (pa_cons pe_str pa_nil))) (fun _ => rfl))) (pss_one ps_never) pss_nil)))), ?_⟩
  have hS : SqL K H p us := .inl (.inl hp)
  refine ⟨_, rfl, _, "list", _, _, rfl, .lst hp, ty_ll, _, rfl, iteF ?_⟩
  refine ⟨_, rfl, p, _, rfl, .inl hS, _, _, rfl, rfl, _, rfl, ?_⟩
  refine ite2 (fun _ => ?_) (fun z => absurd (decide_eq_true (by omega)) z)
  refine ⟨_, _, rfl, rfl, _, rfl, ?_⟩
  have e150 : decide ((us.length : Int) <= 150) = true := decide_eq_true (by omega)
  rw [e150]
  refine iteF ?_
  refine ⟨_, rfl, p, rfl, ⟨_, hS⟩, for_enum (K := K) (a := p) (xs := us) (fun i σ H4 => Same H H4 /\ ∃ v1 v2, σ = [some (.ref p), v1, v2]) ⟨Same.refl H, _, _, rfl⟩ (fun i σ H4 _ h => h.1.seq hS) ?_ ?_⟩
  ·rintro i x σ H4 T0 hx ⟨s4, v1, v2, rfl⟩ hT
   have s5 := same_upd (o := HO.tup [.int (i : Int), x]) hT
   refine ⟨T0, _, rfl, .inl (.inl upd_same), rfl, _, _, rfl, _, _, rfl, rfl, ?_⟩
   generalize upd H4 T0 (HO.tup [.int (i : Int), x]) = H5 at s5 ⊢
   have s05 := s4.trans s5
   have hi : i < us.length := (List.getElem?_eq_some_iff.mp hx).1
   obtain ⟨r, rfl, hr0⟩ := (hR.mono s05) x (List.mem_of_getElem? hx)
   refine ⟨_, rfl, _, rfl, _, rfl, _, rfl, p, _, rfl, s05.seq hS, fun p6 hp6 => ?_⟩
   have s6 := same_upd (o := HO.lst (cutV us none (some (i : Int)))) hp6
   have a6 : upd H5 p6 (HO.lst (cutV us none (some (i : Int)))) p6 = _ := upd_same
   generalize upd H5 p6 (HO.lst (cutV us none (some (i : Int)))) = H6 at s6 a6 ⊢
   rw [cut_take us i (by omega)] at a6
   have s06 := s05.trans s6
   refine ⟨r, p6, ρ (.ref r), us.take i, ρ, rfl, s6 _ _ hr0, a6, (hR.mono s06).sub fun v hv => List.mem_of_mem_take hv, by rw [List.length_take]; omega, hok i _ hx, fun H7 s7 => ⟨_, rfl, iteF ?_⟩⟩
   exact ⟨s06.trans s7, _, _, rfl⟩
  ·rintro σ H4 ⟨s4, v1, v2, rfl⟩
   refine ⟨_, rfl, p, us, "board", ρ, rfl, s4 _ _ hp, hR.mono s4, by omega, fun D H5 hD s5 hl5 => ?_⟩
   refine ⟨_, .inl ⟨_, .inl (.inl hl5), rfl⟩, ?_⟩
   rw [hb]
   exact iteF (q H5 (s4.trans s5))
def spNu : Sp := fun vs H Q _ => ∃ (p : Addr) (ts : List Str), vs = [.ref p] /\ H p = some (.lst (ts.map V.str)) /\ ts.length <= 300 /\ ts.Nodup /\ ∀ D (kvs : List (Key × V)) H', H D = none -> Same H H' -> H' D = some (.dK kvs) -> (∀ (i : Nat) t, ts[i]? = some t -> valV kvs (Sum.inr t) = some (.int (i : Nat))) -> Q (.ref D) H'
theorem scNu : FnScope ["names", "numbers", "number", "name"] ["names"] (defScope sNu) := ⟨rfl, rfl, rfl, by decide +kernel, rfl, by decide +kernel, by decide +kernel⟩
include N T in
theorem ok_Nu : FnOk P w K mg base CX0 1 fNu dNu ["names"] spNu := by
 refine N.FNu.ok scNu (fun vs H Q E h => ?_) (fun cdv A outer s H vs Q E hr h => ?_)
 ·obtain ⟨p, ts, rfl, _⟩ := h
  rfl
 ·obtain ⟨p, ts, rfl, hp, hl, nd, q⟩ := h
  have hu := hu_of hr
  refine ⟨_, (pss_cons (ps_set (i := 1) scNu.nd rfl (Or.inl rfl) pe_dnewK)
   (pss_cons (ps_for PassesOwn.never rfl (pi_enum rfl T.enumerate (pa_cons (pv 0) pa_nil)) (pg_tup rfl (pgs_cons (pg_name (i := 2) scNu.nd rfl (Or.inl rfl)) (pgs_cons (pg_name (i := 3) scNu.nd rfl (Or.inl rfl)) pgs_nil))) (pss_one (ps_dput hu (pv 1) (pv 3) (pv 2) rfl)))
   (pss_one (ps_ret (pv 1))))), ?_⟩
  intro D hD
  have s0 := same_upd (o := HO.dK []) hD
  have hS : SqL K H p (ts.map V.str) := .inl (.inl hp)
  refine ⟨_, rfl, p, rfl, ⟨_, s0.seq hS⟩, for_enum (K := K) (a := p) (xs := ts.map V.str) (fun i σ H4 => Same H H4 /\ ∃ (kvs : List (Key × V)), H4 D = some (.dK kvs) /\ kvs.length <= i /\ (∀ (j : Nat) t, j < i -> ts[j]? = some t -> valV kvs (Sum.inr t) = some (.int (j : Nat))) /\ ∃ v2 v3, σ = [some (.ref p), some (.ref D), v2, v3])
   ⟨s0, [], upd_same, Nat.le_refl _, fun j t hj => absurd hj (Nat.not_lt_zero _), _, _, rfl⟩ (fun i σ H4 _ h => h.1.seq hS) ?_ ?_⟩
  ·rintro i x σ H4 T0 hx ⟨s4, kvs, hd, hk, hv, v2, v3, rfl⟩ hT
   rw [List.getElem?_map] at hx
   obtain ⟨t, ht, rfl⟩ := Option.map_eq_some_iff.mp hx
   have hi : i < ts.length := (List.getElem?_eq_some_iff.mp ht).1
   have s5 := same_upd (o := HO.tup [.int (i : Int), .str t]) hT
   refine ⟨T0, _, rfl, .inl (.inl upd_same), rfl, _, _, rfl, _, _, rfl, rfl, ?_⟩
   generalize upd H4 T0 (HO.tup [.int (i : Int), .str t]) = H5 at s5 ⊢
   refine ⟨_, rfl, _, rfl, _, rfl, D, _, rfl, DPut.k (k := Sum.inr t) (s5 _ _ hd) (small1000 (by omega)), ?_⟩
   refine ⟨fun b u e => ?_, putK kvs (Sum.inr t) (.int (i : Int)), upd_same, Nat.le_trans (length_putK _ _ _) (by omega), fun j t' hj ht' => ?_, _, _, rfl⟩
   ·rw [upd_ne (ne_of_none e hD)]
    exact s5 _ _ (s4 _ _ e)
   ·rw [valV_put]
    by_cases e : t' = t
    ·subst e
     have : j = i := by
      obtain ⟨h1, e1⟩ := List.getElem?_eq_some_iff.mp ht'
      obtain ⟨h2, e2⟩ := List.getElem?_eq_some_iff.mp ht
      exact (List.getElem_inj nd).mp (e1.trans e2.symm)
     subst this
     rw [if_pos rfl]
    ·rw [if_neg fun z => e (Sum.inr.inj z)]
     refine hv j t' ?_ ht'
     rcases Nat.lt_succ_iff_lt_or_eq.mp hj with z | z
     ·exact z
     ·subst z
      rw [ht] at ht'
      exact absurd (Option.some.inj ht').symm e
  ·rintro σ H4 ⟨s4, kvs, hd, hk, hv, v2, v3, rfl⟩
   refine ⟨_, rfl, q D kvs H4 hD s4 hd fun i t ht => hv i t ?_ ht⟩
   rw [List.length_map]
   exact (List.getElem?_eq_some_iff.mp ht).1
def spCa : Sp := fun vs H Q _ => ∃ (p : Addr) (as : List Th) (us : List V), vs = [.ref p] /\ H p = some (.lst us) /\ Paired (fun (a : Th) y => TupAt H (tV a) y) as us /\ as.length <= 500 /\ (∀ a ∈ as, a.2.1 <= 100) /\ ∀ H', Same H H' -> Q (.int ((as.map fun a => a.2.1).sum : Nat)) H'
theorem sum_nat : ∀ l : List Nat, (l.map fun n : Nat => (n : Int)).sum = ((l.sum : Nat) : Int)
 | [] => rfl
 | n :: l => by
  rw [List.map_cons, List.sum_cons, List.sum_cons, sum_nat l]
  omega
theorem scCa : FnScope ["things"] ["things"] (defScope sCa) := ⟨rfl, rfl, rfl, by decide +kernel, rfl, by decide +kernel, by decide +kernel⟩
include N T in
theorem ok_Ca : FnOk P w K mg base CX0 1 fCa dCa ["things"] spCa := by
 refine N.FCa.ok scCa (fun vs H Q E h => ?_) (fun cdv A outer s H vs Q E hr h => ?_)
 ·obtain ⟨p, as, us, rfl, _⟩ := h
  rfl
 ·obtain ⟨p, as, us, rfl, hp, hb, hl, hz, q⟩ := h
  refine ⟨_, (pss_one (ps_ret (pe_callB (call_sum rfl) rfl T.sum PyProof.Rows.boot_sum (pa_cons (pe_comp rfl (compScope (osc := defScope sCa) (N := ["things"]) rfl rfl (by decide +kernel)) (pi_list (pv 0)) (fun _ _ _ _ => pf_nil) (fun _ _ _ _ => (pe_ix (ix_tupK (K := K) rfl) (pv 0) pe_int (fun _ _ => rfl)))) pa_nil)))), ?_⟩
  have hS : SqL K H p us := .inl (.inl hp)
  have hul := hb.length
  refine ⟨_, rfl, p, rfl, ⟨_, hS⟩, comp_sq (K := K) (xs := us) (fun _ => true) (nthV H 1) hS (small1000 (by omega)) (fun x hx H' hs R k => k H' (Same.refl H')) (fun x hx _ H' hs R k => ?_) (fun D H' hD hs hl' => ?_)⟩
  ·obtain ⟨b, _, hx'⟩ := paired_mem hb hx
   have e := nthV_at hx' 1
   obtain ⟨T0, rfl, hT⟩ := hx'.mono hs
   refine ⟨_, rfl, T0, _, _, _, rfl, rfl, .inl (.inl hT), atI_nat (j := 1) rfl, ?_⟩
   have := k H' (Same.refl H')
   rw [e] at this
   exact this
  ·rw [List.filter_eq_self.mpr (fun _ _ => rfl), nth_map 1 hb] at hl'
   have e : (as.map fun a => (tV a).getD 1 V.non) = ((as.map fun a => a.2.1).map fun n : Nat => (n : Int)).map V.int := by
    rw [List.map_map, List.map_map]
    rfl
   rw [e] at hl'
   refine ⟨D, _, rfl, .inl (.inl hl'), fun n hn => ?_, by simp; omega, ?_⟩
   ·obtain ⟨m, hm, rfl⟩ := List.mem_map.mp hn
    obtain ⟨b, hb', rfl⟩ := List.mem_map.mp hm
    have := hz b hb'
    omega
   ·rw [sum_nat]
    exact q H' hs
theorem line3 {n : Nat} (h : n <= 3000) : n < sizeLine := Nat.lt_of_le_of_lt h (by decide)
def spPl : Sp := fun vs H Q _ => ∃ (p : Addr) (as : List Th) (us : List V), vs = [.ref p] /\ H p = some (.lst us) /\ Paired (fun (a : Th) y => TupAt H (tV a) y) as us /\ as.length <= 12 /\ (∀ a ∈ as, a.2.1 <= 97) /\ ∀ D ys H', H D = none -> Same H H' -> H' D = some (.lst ys) -> Paired (fun q y => TupAt H' (qV q) y) (plc (as.map tN)) ys -> Q (.ref D) H'
theorem scPl : FnScope ["things", "places", "number", "thing"] ["things"] (defScope sPl) := ⟨rfl, rfl, rfl, by decide +kernel, rfl, by decide +kernel, by decide +kernel⟩
include N T in
theorem ok_Pl : FnOk P w K mg base CX0 1 fPl dPl ["things"] spPl := by
 refine N.FPl.ok scPl (fun vs H Q E h => ?_) (fun cdv A outer s H vs Q E hr h => ?_)
 ·obtain ⟨p, as, us, rfl, _⟩ := h
  rfl
 ·obtain ⟨p, as, us, rfl, hp, hb, hl, hz, q⟩ := h
  refine ⟨_, (pss_cons (ps_set (i := 1) scPl.nd rfl (Or.inl rfl) (pe_lst pa_nil))
   (pss_cons (ps_for PassesOwn.never rfl (pi_enum rfl T.enumerate (pa_cons (pv 0) pa_nil)) (pg_tup rfl (pgs_cons (pg_name (i := 2) scPl.nd rfl (Or.inr rfl)) (pgs_cons (pg_name (i := 3) scPl.nd rfl (Or.inl rfl)) pgs_nil))) (pss_one (ps_expr (pe_bm PySem.F.plainAttrs_list PySem.F.slot_list_extend PySem.F.type_list_extend mt_extend (pv 1) (pa_cons (pe_comp rfl (compScope (osc := defScope sPl) (N := ["things", "places", "number", "thing"]) rfl rfl (by decide +kernel)) (pi_range1 rfl T.range (pa_cons (pe_ix (ix_tupK (K := K) rfl) (pv 3) pe_int (fun _ _ => rfl)) pa_nil)) (fun _ _ _ _ => pf_nil) (fun _ _ _ _ => (pe_tup (pa_cons (pv 3) (pa_cons (pv 0) pa_nil))))) pa_nil)))))
   (pss_one (ps_ret (pv 1))))), ?_⟩
  refine ⟨line20 (by simp), fun D hD => ?_⟩
  have s0 := same_upd (o := HO.lst []) hD
  have hS : SqL K H p us := .inl (.inl hp)
  have hul := hb.length
  refine ⟨_, rfl, p, rfl, ⟨_, s0.seq hS⟩, for_enum (K := K) (a := p) (xs := us) (fun i σ H4 => Same H H4 /\ ∃ ys, H4 D = some (.lst ys) /\ Paired (fun q y => TupAt H4 (qV q) y) (plc ((as.map tN).take i)) ys /\ ∃ v2 v3, σ = [some (.ref p), some (.ref D), v2, v3])
   ⟨s0, [], upd_same, .nil, _, _, rfl⟩ (fun i σ H4 _ h => h.1.seq hS) ?_ ?_⟩
  ·rintro i x σ H4 T0 hx ⟨s4, ys, hd, hpr, v2, v3, rfl⟩ hT
   obtain ⟨b, hbi, hxb⟩ := paired_get' hb hx
   have hi : i < as.length := (List.getElem?_eq_some_iff.mp hbi).1
   have hb97 := hz b (List.mem_of_getElem? hbi)
   have hbi' : (as.map tN)[i]? = some (tN b) := by rw [List.getElem?_map, hbi]; rfl
   have s5 := same_upd (o := HO.tup [.int (i : Int), x]) hT
   refine ⟨T0, _, rfl, .inl (.inl upd_same), rfl, _, _, rfl, _, _, rfl, rfl, ?_⟩
   generalize upd H4 T0 (HO.tup [.int (i : Int), x]) = H5 at s5 ⊢
   obtain ⟨r, rfl, hr0⟩ := hxb.mono (s4.trans s5)
   have p5 := paired_mono s5 hpr
   have d5 := s5 _ _ hd
   refine ⟨_, rfl, .inl ⟨rfl, _, .inl (.inl d5)⟩, _, rfl, r, _, _, _, rfl, rfl, .inl (.inl hr0), atI_nat (j := 1) rfl, _, rfl, by omega, by omega, ?_⟩
   rw [Int.toNat_natCast]
   refine comp_tupR (n := b.2.1) (fun e => qV (i, e)) (small1000 (by omega)) (fun e he H6 s6 R k => ?_) (fun D6 H6 zs hD6 s6 hl6 hz6 => ?_)
   ·refine ⟨_, rfl, _, rfl, by show 2 <= sizeLine; decide, fun T6 hT6 => ?_⟩
    exact k _ _ (same_upd hT6) ⟨T6, rfl, upd_same⟩
   ·have ly := (paired_mono s6 p5).length
    have lz := hz6.length
    have lp := plc_len ((as.map tN).take i) 97 fun b hb => by
     obtain ⟨a, ha, rfl⟩ := List.mem_map.mp (List.mem_of_mem_take hb)
     exact hz a ha
    rw [List.length_take, List.length_map] at lp
    rw [List.length_range] at lz
    have : min i as.length * 97 <= 12 * 97 := Nat.mul_le_mul_right _ (by omega)
    refine ⟨D, D6, ys, zs, rfl, rfl, s6 _ _ d5, hl6, Nat.le_of_lt (line3 (by omega)), ?_⟩
    refine ⟨fun b u e => ?_, ys ++ zs, upd_same, ?_, _, _, rfl⟩
    ·rw [upd_ne (ne_of_none e hD)]
     exact s6 _ _ (s5 _ _ (s4 _ _ e))
    ·rw [plc_take hbi']
     exact paired_app (paired_upd (paired_mono s6 p5) (s6 _ _ d5)) (paired_of_map (F := fun q y => TupAt _ (qV q) y) (fun e => (i, e)) (paired_upd hz6 (s6 _ _ d5)))
  ·rintro σ H4 ⟨s4, ys, hd, hpr, v2, v3, rfl⟩
   rw [← hul, List.take_of_length_le (by rw [List.length_map]; exact Nat.le_refl _)] at hpr
   exact ⟨_, rfl, q D ys H4 hD s4 hd hpr⟩
theorem at_last {α : Type} (l : List α) (x : α) : atI (l ++ [x]) (-1) = some x := by
 unfold atI ixN
 rw [if_neg (by decide), if_pos (by rw [List.length_append, List.length_singleton]; omega)]
 show (l ++ [x])[(-1 + (((l ++ [x]).length : Nat) : Int)).toNat]? = some x
 have e : (-1 + (((l ++ [x]).length : Nat) : Int)).toNat = l.length := by
  rw [List.length_append, List.length_singleton]
  omega
 rw [e, List.getElem?_append_right (Nat.le_refl _), Nat.sub_self]
 rfl
theorem lineAt_put {H : Hp} {l : List Ln} {v : V} {A : Addr} {xs ys : List V} (h : LineAt H l v) (hA : H A = some (.lst xs)) (hv : v ≠ .ref A) : LineAt (upd H A (.lst ys)) l v := by
 obtain ⟨B, ts, rfl, h1, h2⟩ := h
 have : B ≠ A := fun z => hv (by rw [z])
 exact ⟨B, ts, rfl, by rw [upd_ne this]; exact h1, paired_upd h2 hA⟩
theorem paired_map2 {α β : Type} {F G : α -> β -> Prop} : ∀ {l : List α} {vs : List β}, Paired F l vs -> (∀ a b, b ∈ vs -> F a b -> G a b) -> Paired G l vs
 | [], _, h, _ => by cases h; exact .nil
 | a :: l, _, h, k => by
  cases h with
  | cons x y => exact .cons (k _ _ (List.mem_cons_self ..) x) (paired_map2 y fun a b hb => k a b (List.mem_cons_of_mem _ hb))
theorem paired_split {α β : Type} {F : α -> β -> Prop} : ∀ {l : List α} {z : α} {vs : List β}, Paired F (l ++ [z]) vs -> ∃ us u, vs = us ++ [u] /\ Paired F l us /\ F z u
 | [], z, _, h => by
  cases h with
  | cons x y => cases y; exact ⟨[], _, rfl, .nil, x⟩
 | a :: l, z, _, h => by
  cases h with
  | cons x y =>
   obtain ⟨us, u, rfl, h1, h2⟩ := paired_split y
   exact ⟨_ :: us, u, rfl, .cons x h1, h2⟩
theorem exists_snoc {α : Type} {l : List α} (h : l ≠ []) : ∃ a z, l = a ++ [z] := ⟨l.dropLast, l.getLast h, (List.dropLast_concat_getLast h).symm⟩
theorem lines_ne {rk : List (Str × Nat × Int)} : ∀ {rs : List R}, (∃ r ∈ rs, inK r.w = true) -> linesOf rk rs ≠ [] := by
 have key : ∀ (n : Nat) (rs : List R), rs.length = n -> (∃ r ∈ rs, inK r.w = true) -> linesOf rk rs ≠ [] := by
  intro n
  induction n with
  | zero =>
   rintro rs hl ⟨r, hr, _⟩
   cases rs with
   | nil => cases hr
   | cons a b => cases hl
  | succ n ih =>
   rintro rs hl ⟨r, hr, hk⟩
   obtain ⟨a, z, rfl⟩ := exists_snoc (l := rs) (by intro e; rw [e] at hl; cases hl)
   rw [linesOf_snoc]
   rw [List.length_append, List.length_singleton] at hl
   unfold lnStep
   by_cases hz : inK z.w = true
   ·rw [if_pos hz]
    simp
   ·rw [if_neg hz]
    have hr' : r ∈ a := by
     rcases List.mem_append.mp hr with h | h
     ·exact h
     ·rw [List.mem_singleton.mp h] at hk
      exact absurd hk hz
    have ih' := ih a (by omega) ⟨r, hr', hk⟩
    split
    ·obtain ⟨b, y, e⟩ := exists_snoc ih'
     rw [e, putL_snoc]
     simp
    ·exact ih'
 exact fun {rs} h => key rs.length rs rfl h
def spLi : Sp := fun vs H Q _ => ∃ (p d : Addr) (us : List V) (ρ : V -> R) (rk : List (Str × Nat × Int)) (kvs : List (Key × V)), vs = [.ref p, .ref d] /\ H p = some (.lst us) /\ Rows H ρ us /\ us.length <= 500 /\ H d = some (.dK kvs) /\ (∀ (i : Nat) r, rk[i]? = some r -> valV kvs (Sum.inr r.1) = some (.int (i : Nat))) /\ (rk.map (·.1)).Nodup /\
 (∀ (i : Nat) v, us[i]? = some v -> (ρ v).w = "line" -> (∃ (j : Nat) (r : Str × Nat × Int) (sh lo hi : Int), rk[j]? = some r /\ r.1 = (ρ v).nm /\ (ρ v).rest = [.int sh, .int lo, .int hi]) /\ ∃ u ∈ us.take i, inK (ρ u).w = true) /\ ∀ D H', H D = none -> Same H H' -> LinesAt H' D (linesOf rk (us.map ρ)) -> Q (.ref D) H'
theorem idx_of {rk : List (Str × Nat × Int)} {j : Nat} {r : Str × Nat × Int} (nd : (rk.map (·.1)).Nodup) (h : rk[j]? = some r) : (rk.map (·.1)).idxOf r.1 = j := by
 have hj : j < (rk.map (·.1)).length := by rw [List.length_map]; exact (List.getElem?_eq_some_iff.mp h).1
 have e : (rk.map (·.1))[j] = r.1 := by
  rw [List.getElem_map]
  exact congrArg (·.1) (List.getElem?_eq_some_iff.mp h).2
 rw [← e]
 exact List.Nodup.idxOf_getElem nd j hj
theorem scLi : FnScope ["rows", "rank_numbers", "lines", "row"] ["rows", "rank_numbers"] (defScope sLi) := ⟨rfl, rfl, rfl, by decide +kernel, rfl, by decide +kernel, by decide +kernel⟩
include N T in
theorem ok_Li : FnOk P w K mg base CX0 1 fLi dLi ["rows", "rank_numbers"] spLi := by
 refine N.FLi.ok scLi (fun vs H Q E h => ?_) (fun cdv A outer s H vs Q E hr h => ?_)
 ·obtain ⟨p, d, us, ρ, rk, kvs, rfl, _⟩ := h
  rfl
 ·obtain ⟨p, d, us, ρ, rk, kvs, rfl, hp, hR, hl, hdk, hval, hnd, hln, q⟩ := h
  have hu := hu_of hr
  refine ⟨_, (pss_cons (ps_set (i := 2) scLi.nd rfl (Or.inl rfl) (pe_lst pa_nil))
   (pss_cons (ps_for PassesOwn.never rfl (pi_list (pv 0)) (pg_name (i := 3) scLi.nd rfl (Or.inl rfl)) (pss_cons (ps_if (pt_cmpR (op_in_seqK (K := K) rfl) (pe_ix (ix_tupK (K := K) rfl) (pv 3) pe_int (fun _ _ => rfl)) (pe_glob (v := .ref aK) rfl T.mK rfl) rfl) (pss_one (ps_expr (pe_bm PySem.F.plainAttrs_list PySem.F.slot_list_append PySem.F.type_list_append mt_append (pv 2) (pa_cons (pe_lst pa_nil) pa_nil)))) pss_nil)
   (pss_one (ps_if (pt_cmpR op_eq (pe_ix (ix_tupK (K := K) rfl) (pv 3) pe_int (fun _ _ => rfl)) pe_str (nomark _)) (pss_one (ps_expr (pe_bm PySem.F.plainAttrs_list PySem.F.slot_list_append PySem.F.type_list_append mt_append (pe_ix (ix_listK (K := K) rfl) (pv 2) (pe_un un_neg pe_int) (fun _ _ => rfl)) (pa_cons (pe_tup (pa_cons (pe_dget hu (pv 1) (pe_ix (ix_tupK (K := K) rfl) (pv 3) pe_int (fun _ _ => rfl)) (fun _ _ => rfl)) (pa_cons (pe_ix (ix_tupK (K := K) rfl) (pv 3) pe_int (fun _ _ => rfl)) (pa_cons (pe_ix (ix_tupK (K := K) rfl) (pv 3) pe_int (fun _ _ => rfl)) (pa_cons (pe_ix (ix_tupK (K := K) rfl) (pv 3) pe_int (fun _ _ => rfl)) pa_nil))))) pa_nil)))) pss_nil))))
   (pss_one (ps_ret (pv 2))))), ?_⟩
  refine ⟨line20 (by simp), fun D hD => ?_⟩
  have s0 := same_upd (o := HO.lst []) hD
  have hS : SqL K H p us := .inl (.inl hp)
  refine ⟨_, rfl, p, rfl, ⟨_, s0.seq hS⟩, for_list (K := K) (a := p) (xs := us) (fun i σ H4 => Same H H4 /\ ∃ lv, H4 D = some (.lst lv) /\ Paired (fun l v => LineAt H4 l v) (linesOf rk ((us.take i).map ρ)) lv /\ lv.Nodup /\ (∀ v ∈ lv, v ≠ .ref D) /\ (∀ v ∈ lv, ∃ A, v = .ref A /\ H A = none) /\ lv.length <= i /\ (∀ l ∈ linesOf rk ((us.take i).map ρ), l.length <= i) /\ ∃ v3, σ = [some (.ref p), some (.ref d), some (.ref D), v3])
   ⟨s0, [], upd_same, .nil, List.nodup_nil, (fun v hv => nomatch hv), (fun v hv => nomatch hv), Nat.le_refl _, (fun l hl => nomatch hl), _, rfl⟩ (fun i σ H4 _ h => h.1.seq hS) ?_ ?_⟩
  ·rintro i x σ H4 hx ⟨s4, lv, hd, hpr, nd, hne, hA0, hlv, hll, v3, rfl⟩
   have hm := List.mem_of_getElem? hx
   have hi : i < us.length := (List.getElem?_eq_some_iff.mp hx).1
   obtain ⟨r, rfl, hr0⟩ := (hR.mono s4) x hm
   have etake : (us.take (i + 1)).map ρ = (us.take i).map ρ ++ [ρ (.ref r)] := by
    rw [List.take_add_one, hx, List.map_append]
    rfl
   have est : linesOf rk ((us.take (i + 1)).map ρ) = lnStep rk (linesOf rk ((us.take i).map ρ)) (ρ (.ref r)) := by rw [etake, linesOf_snoc]
   have lvl : (linesOf rk ((us.take i).map ρ)).length = lv.length := hpr.length
   by_cases hk : inK (ρ (.ref r)).w = true
   ·have hnl : ¬ (ρ (.ref r)).w = "line" := fun z => by rw [z] at hk; exact absurd hk (by decide +kernel)
    have est2 : linesOf rk ((us.take (i + 1)).map ρ) = linesOf rk ((us.take i).map ρ) ++ [[]] := by rw [est]; unfold lnStep; rw [if_pos hk]
    refine ⟨_, rfl, r, _, _, _, rfl, rfl, .inl (.inl hr0), atI_nat (j := 0) rfl, aK, _, rfl, .inr (T.tK.sq _), rfl, rfl, _, rfl, ?_⟩
    refine ite2 (fun _ => ?_) (fun z => absurd hk z)
    refine ⟨_, rfl, .inl ⟨rfl, _, .inl (.inl hd)⟩, line20 (by simp), fun p5 hp5 => ?_⟩
    have s5 := same_upd (o := HO.lst []) hp5
    have u5 : upd H4 p5 (HO.lst []) p5 = some (.lst []) := upd_same
    generalize upd H4 p5 (HO.lst []) = H5 at s5 u5 ⊢
    have hd5 := s5 _ _ hd
    refine ⟨D, lv, _, rfl, rfl, hd5, small1000 (by omega), ?_⟩
    have hrD : r ≠ D := ne_of (s5 _ _ hr0) hd5 (by intro z; cases z)
    have hpD : p5 ≠ D := fun z => by rw [z, hd] at hp5; cases hp5
    refine ⟨_, rfl, r, _, _, _, rfl, rfl, .inl (.inl (by rw [upd_ne hrD]; exact s5 _ _ hr0)), atI_nat (j := 0) rfl, rfl, _, rfl, ?_⟩
    refine ite2 (fun z => absurd (V.str.inj (of_decide_eq_true z)) hnl) (fun _ => ?_)
    refine ⟨fun b u e => ?_, lv ++ [.ref p5], upd_same, ?_, ?_, ?_, ?_, by simp; omega, ?_, _, rfl⟩
    ·rw [upd_ne (ne_of_none e hD)]
     exact s5 _ _ (s4 _ _ e)
    ·rw [est2]
     refine paired_app (paired_map2 hpr fun l v hv h => lineAt_put (h.mono s5) hd5 (hne v hv)) (.cons ⟨p5, [], rfl, by rw [upd_ne hpD]; exact u5, .nil⟩ .nil)
    ·refine nd_snoc nd fun hm => ?_
     obtain ⟨l, _, hA⟩ := paired_mem hpr hm
     obtain ⟨A, ts, e, h1, _⟩ := hA
     cases e
     rw [h1] at hp5
     cases hp5
    ·intro v hv
     rcases List.mem_append.mp hv with h | h
     ·exact hne v h
     ·rw [List.mem_singleton.mp h]
      intro z
      exact hpD (V.ref.inj z)
    ·intro v hv
     rcases List.mem_append.mp hv with h | h
     ·exact hA0 v h
     ·exact ⟨p5, List.mem_singleton.mp h, s4.free hp5⟩
    ·intro l hl'
     rw [est2] at hl'
     rcases List.mem_append.mp hl' with h | h
     ·exact Nat.le_succ_of_le (hll l h)
     ·rw [List.mem_singleton.mp h]
      exact Nat.zero_le _
   ·refine ⟨_, rfl, r, _, _, _, rfl, rfl, .inl (.inl hr0), atI_nat (j := 0) rfl, aK, _, rfl, .inr (T.tK.sq _), rfl, rfl, _, rfl, ?_⟩
    refine ite2 (fun z => absurd z hk) (fun _ => ?_)
    refine ⟨_, rfl, r, _, _, _, rfl, rfl, .inl (.inl hr0), atI_nat (j := 0) rfl, rfl, _, rfl, ?_⟩
    by_cases hwl : (ρ (.ref r)).w = "line"
    ·refine ite2 (fun _ => ?_) (fun z => absurd (decide_eq_true (congrArg V.str hwl)) z)
     obtain ⟨⟨j, rr, sh, lo, hi', hj, hnm, hrest⟩, u, hu, hku⟩ := hln i _ hx hwl
     have hne0 : linesOf rk ((us.take i).map ρ) ≠ [] := lines_ne ⟨ρ u, List.mem_map_of_mem hu, hku⟩
     obtain ⟨ac, z, eac⟩ := exists_snoc hne0
     rw [eac] at hpr
     obtain ⟨lv', v, rfl, hpr', hz⟩ := paired_split hpr
     obtain ⟨A, ts, rfl, hA, htp⟩ := hz
     have est2 : linesOf rk ((us.take (i + 1)).map ρ) = ac ++ [z ++ [⟨j, sh, lo, hi'⟩]] := by
      rw [est]
      unfold lnStep
      rw [if_neg hk, if_pos hwl, eac, putL_snoc]
      unfold lnOf
      rw [hrest, ← hnm, idx_of hnd hj]
     have hr1 : H4 r = some (.tup [.str (ρ (.ref r)).w, .str (ρ (.ref r)).nm, .int sh, .int lo, .int hi']) := by rw [hr0, ← hrest]
     have g := DGet.k (k := Sum.inr rr.1) (s4 _ _ hdk)
     rw [hval j rr hj, hnm] at g
     have hAD : A ≠ D := fun e => hne (.ref A) (by simp) (by rw [e])
     have hzl : z.length <= i := hll z (by rw [eac]; simp)
     have htl := htp.length
     refine ⟨_, rfl, _, rfl, D, _, _, _, rfl, rfl, .inl (.inl hd), at_last lv' (V.ref A), .inl ⟨rfl, _, .inl (.inl hA)⟩, _, rfl, _, rfl, r, _, _, _, rfl, rfl, .inl (.inl hr1), atI_nat (j := 1) rfl, d, _, rfl, g, _, rfl, r, _, _, _, rfl, rfl, .inl (.inl hr1), atI_nat (j := 2) rfl, _, rfl, r, _, _, _, rfl, rfl, .inl (.inl hr1), atI_nat (j := 3) rfl, _, rfl, r, _, _, _, rfl, rfl, .inl (.inl hr1), atI_nat (j := 4) rfl, by show 4 <= sizeLine; decide, fun T5 hT5 => ?_⟩
     have s5 := same_upd (o := HO.tup [.int (j : Nat), .int sh, .int lo, .int hi']) hT5
     have u5 : upd H4 T5 (HO.tup [.int (j : Nat), .int sh, .int lo, .int hi']) T5 = some (.tup [.int (j : Nat), .int sh, .int lo, .int hi']) := upd_same
     generalize upd H4 T5 (HO.tup [.int (j : Nat), .int sh, .int lo, .int hi']) = H5 at s5 u5 ⊢
     have hA5 := s5 _ _ hA
     have hTA : T5 ≠ A := fun e => by rw [e, hA] at hT5; cases hT5
     have hdj : D ≠ A := fun e => hAD e.symm
     obtain ⟨nd1, _, hdisj⟩ := List.nodup_append.mp nd
     refine ⟨A, ts, _, rfl, rfl, hA5, small1000 (by omega), ?_⟩
     refine ⟨fun b u e => ?_, lv' ++ [.ref A], by rw [upd_ne hdj]; exact s5 _ _ hd, ?_, nd, hne, hA0, by omega, ?_, _, rfl⟩
     ·obtain ⟨A', eA, hA'⟩ := hA0 (.ref A) (by simp)
      cases eA
      rw [upd_ne (ne_of_none e hA')]
      exact s5 _ _ (s4 _ _ e)
     ·rw [est2]
      refine paired_app (paired_map2 hpr' fun l v hv h => lineAt_put (h.mono s5) hA5 (fun e => hdisj v hv _ (List.mem_singleton.mpr rfl) e)) (.cons ⟨A, ts ++ [.ref T5], rfl, upd_same, paired_app (paired_upd (paired_mono s5 htp) hA5) (.cons ⟨T5, rfl, by rw [upd_ne hTA]; exact u5⟩ .nil)⟩ .nil)
     ·intro l hl'
      rw [est2] at hl'
      rcases List.mem_append.mp hl' with h | h
      ·exact Nat.le_succ_of_le (hll l (by rw [eac]; exact List.mem_append_left _ h))
      ·rw [List.mem_singleton.mp h, List.length_append, List.length_singleton]
       omega
    ·refine ite2 (fun z => absurd (V.str.inj (of_decide_eq_true z)) hwl) (fun _ => ?_)
     have est2 : linesOf rk ((us.take (i + 1)).map ρ) = linesOf rk ((us.take i).map ρ) := by rw [est]; unfold lnStep; rw [if_neg hk, if_neg hwl]
     rw [← est2] at hpr hll
     exact ⟨s4, lv, hd, hpr, nd, hne, hA0, by omega, fun l hl' => Nat.le_succ_of_le (hll l hl'), _, rfl⟩
  ·rintro σ H4 ⟨s4, lv, hd, hpr, nd, hne, hA0, hlv, hll, v3, rfl⟩
   rw [List.take_length] at hpr
   exact ⟨_, rfl, q D H4 hD s4 ⟨lv, hd, hpr⟩⟩
abbrev fieldsL : List Str := ["row_list", "board_list", "rank_list", "knob_rows", "board_numbers", "rank_numbers", "knob_numbers", "key_places", "pipe_places", "knob_lines", "step_sets"]
theorem no_meth : ∀ m ∈ meths, ∀ f ∈ fieldsL, ¬ m = f := by decide +kernel
theorem lines_sx {H H' : Hp} {D x C dx : Addr} {fs : List (Str × V)} {ls : List (List Ln)} (h : LinesAt H D ls) (s : SX x H H') (hx : H x = some (.ins C dx fs)) : LinesAt H' D ls := by
 obtain ⟨lv, h1, h2⟩ := h
 refine ⟨lv, s.lst hx h1, Paired.mapP h2 fun _ _ q => ?_⟩
 obtain ⟨A, ts, e, h3, h4⟩ := q
 exact ⟨A, ts, e, s.lst hx h3, s.pair hx h4⟩
theorem lines_len {rk : List (Str × Nat × Int)} {ρ : V -> R} {us : List V} {P1 : Nat -> V -> Prop} (h : ∀ (i : Nat) v, us[i]? = some v -> (ρ v).w = "line" -> P1 i v /\ ∃ u ∈ us.take i, inK (ρ u).w = true) : (linesOf rk (us.map ρ)).length = (us.filter (fun v => inK (ρ v).w)).length := by
 have key : ∀ n, n <= us.length -> (linesOf rk ((us.take n).map ρ)).length = ((us.take n).filter (fun v => inK (ρ v).w)).length := by
  intro n
  induction n with
  | zero => intro _; rfl
  | succ n ih =>
   intro hn
   have hx := List.getElem?_eq_getElem (l := us) (i := n) (by omega)
   rw [List.take_add_one, hx, List.map_append]
   show (linesOf rk ((us.take n).map ρ ++ [ρ us[n]])).length = ((us.take n ++ [us[n]]).filter _).length
   rw [linesOf_snoc, List.filter_append, List.length_append, ← ih (by omega)]
   unfold lnStep
   by_cases hk : inK (ρ us[n]).w = true
   ·rw [if_pos hk, List.filter_cons, if_pos hk]
    simp
   ·rw [if_neg hk, List.filter_cons, if_neg hk]
    by_cases hl : (ρ us[n]).w = "line"
    ·rw [if_pos hl]
     obtain ⟨_, u, hu, hku⟩ := h n _ hx hl
     obtain ⟨a, z, e⟩ := exists_snoc (lines_ne (rk := rk) ⟨ρ u, List.mem_map_of_mem hu, hku⟩)
     rw [e, putL_snoc]
     simp
    ·rw [if_neg hl]
     simp
 have := key us.length (Nat.le_refl _)
 rw [List.take_length] at this
 exact this
def spOi (K : PySem.W.Frag) (aB aP aM C : Addr) : Sp := fun vs H Q _ => ∃ (x dx p : Addr) (us : List V) (ρ : V -> R) (bs : List (Str × Nat)) (rk : List (Str × Nat × Int)) (ks : List R), vs = [.ref x, .ref p] /\ H x = some (.ins C dx []) /\ H p = some (.lst us) /\ Rows H ρ us /\ Ok4 K aB aP aM ρ us bs rk ks /\ ∀ H', OrgAt2 C H' x bs rk ks (linesOf rk (us.map ρ)) -> SX x H H' -> Q .non H'
theorem scOi : FnScope ["self", "rows"] ["self", "rows"] (defScope sOi) := ⟨rfl, rfl, rfl, by decide +kernel, rfl, by decide +kernel, by decide +kernel⟩
include N T in
theorem ok_Oi : FnOk P w K mg base CX0 9 fOi dOi ["self", "rows"] (spOi K aB aP aM C) := by
 have GCk : FnOk P w K mg base CX0 8 fCk dCk ["rows"] (spCk K aB aP aM) := ok_Ck N T
 have GRo : FnOk P w K mg base CX0 1 fRo dRo ["rows", "word"] spRo := ok_Ro N T
 have GNu : FnOk P w K mg base CX0 1 fNu dNu ["names"] spNu := ok_Nu N T
 have GPl : FnOk P w K mg base CX0 1 fPl dPl ["things"] spPl := ok_Pl N T
 have GLi : FnOk P w K mg base CX0 1 fLi dLi ["rows", "rank_numbers"] spLi := ok_Li N T
 refine N.FOi.ok scOi (fun vs H Q E h => ?_) (fun cdv A outer s H vs Q E hr h => ?_)
 ·obtain ⟨x, dx, p, us, ρ, bs, rk, ks, rfl, _⟩ := h
  rfl
 ·obtain ⟨x, dx, p, us, ρ, bs, rk, ks, rfl, hx, hp, hR, O, q⟩ := h
  have hrCk : Room 8 _ := hr.mono (by decide)
  have hrRo : Room 1 _ := hr.mono (by decide)
  have hrNu : Room 1 _ := hr.mono (by decide)
  have hrPl : Room 1 _ := hr.mono (by decide)
  have hrLi : Room 1 _ := hr.mono (by decide)
  refine ⟨_, (pss_cons (ps_expr (pe_call GCk hrCk rfl N.mCk N.FCk.kp N.bCk .nil pass0 (pa_cons (pv 1) pa_nil)))
   (pss_cons (ps_fld (pv 0) (pe_callTy call_list_of rfl T.list PyProof.Rows.boot_list (pa_cons (pv 1) pa_nil)) rfl)
   (pss_cons (ps_fld (pv 0) (pe_comp rfl (compScope (osc := defScope sOi) (N := ["self", "rows"]) rfl rfl (by decide +kernel)) (pi_list (pe_call GRo hrRo rfl N.mRo N.FRo.kp N.bRo .nil pass0 (pa_cons (pv 1) (pa_cons pe_str pa_nil)))) (fun _ _ _ _ => pf_nil) (fun _ _ _ _ => (pe_tup (pa_cons (pe_ix (ix_tupK (K := K) rfl) (pv 0) pe_int (fun _ _ => rfl)) (pa_cons (pe_ix (ix_tupK (K := K) rfl) (pv 0) pe_int (fun _ _ => rfl)) pa_nil))))) rfl)
   (pss_cons (ps_fld (pv 0) (pe_comp rfl (compScope (osc := defScope sOi) (N := ["self", "rows"]) rfl rfl (by decide +kernel)) (pi_list (pe_call GRo hrRo rfl N.mRo N.FRo.kp N.bRo .nil pass0 (pa_cons (pv 1) (pa_cons pe_str pa_nil)))) (fun _ _ _ _ => pf_nil) (fun _ _ _ _ => (pe_tup (pa_cons (pe_ix (ix_tupK (K := K) rfl) (pv 0) pe_int (fun _ _ => rfl)) (pa_cons (pe_ix (ix_tupK (K := K) rfl) (pv 0) pe_int (fun _ _ => rfl)) (pa_cons (pe_ix (ix_tupK (K := K) rfl) (pv 0) pe_int (fun _ _ => rfl)) pa_nil)))))) rfl)
   (pss_cons (ps_fld (pv 0) (pe_comp rfl (compScope (osc := defScope sOi) (N := ["self", "rows"]) rfl rfl (by decide +kernel)) (pi_list (pv 1)) (fun _ _ _ _ => (pf_one (pt_cmpR (op_in_seqK (K := K) rfl) (pe_ix (ix_tupK (K := K) rfl) (pv 0) pe_int (fun _ _ => rfl)) (pe_glob (v := .ref aK) rfl T.mK rfl) rfl))) (fun _ _ _ _ => (pv 0))) rfl)
   (pss_cons (ps_fld (pv 0) (pe_call GNu hrNu rfl N.mNu N.FNu.kp N.bNu .nil pass0 (pa_cons (pe_comp rfl (compScope (osc := defScope sOi) (N := ["self", "rows"]) rfl rfl (by decide +kernel)) (pi_list (pe_fld (pv 0) rfl)) (fun _ _ _ _ => pf_nil) (fun _ _ _ _ => (pe_ix (ix_tupK (K := K) rfl) (pv 0) pe_int (fun _ _ => rfl)))) pa_nil)) rfl)
   (pss_cons (ps_fld (pv 0) (pe_call GNu hrNu rfl N.mNu N.FNu.kp N.bNu .nil pass0 (pa_cons (pe_comp rfl (compScope (osc := defScope sOi) (N := ["self", "rows"]) rfl rfl (by decide +kernel)) (pi_list (pe_fld (pv 0) rfl)) (fun _ _ _ _ => pf_nil) (fun _ _ _ _ => (pe_ix (ix_tupK (K := K) rfl) (pv 0) pe_int (fun _ _ => rfl)))) pa_nil)) rfl)
   (pss_cons (ps_fld (pv 0) (pe_call GNu hrNu rfl N.mNu N.FNu.kp N.bNu .nil pass0 (pa_cons (pe_comp rfl (compScope (osc := defScope sOi) (N := ["self", "rows"]) rfl rfl (by decide +kernel)) (pi_list (pe_fld (pv 0) rfl)) (fun _ _ _ _ => pf_nil) (fun _ _ _ _ => (pe_ix (ix_tupK (K := K) rfl) (pv 0) pe_int (fun _ _ => rfl)))) pa_nil)) rfl)
   (pss_cons (ps_fld (pv 0) (pe_call GPl hrPl rfl N.mPl N.FPl.kp N.bPl .nil pass0 (pa_cons (pe_fld (pv 0) rfl) pa_nil)) rfl)
   (pss_cons (ps_fld (pv 0) (pe_call GPl hrPl rfl N.mPl N.FPl.kp N.bPl .nil pass0 (pa_cons (pe_fld (pv 0) rfl) pa_nil)) rfl)
   (pss_cons (ps_fld (pv 0) (pe_call GLi hrLi rfl N.mLi N.FLi.kp N.bLi .nil pass0 (pa_cons (pv 1) (pa_cons (pe_fld (pv 0) rfl) pa_nil))) rfl)
   (pss_one (ps_fld (pv 0) (pe_comp rfl (compScope (osc := defScope sOi) (N := ["self", "rows"]) rfl rfl (by decide +kernel)) (pi_list (pe_call GRo hrRo rfl N.mRo N.FRo.kp N.bRo .nil pass0 (pa_cons (pv 1) (pa_cons pe_str pa_nil)))) (fun _ _ _ _ => pf_nil) (fun _ _ _ _ => pe_never)) rfl))))))))))))), ?_⟩
  have hlen := O.len
  obtain ⟨ur, hur⟩ : ∃ ur, us.filter (pw ρ "rank") = ur := ⟨_, rfl⟩
  have er : ur.map ρ = rk.map rrow := by rw [← hur]; exact O.er
  have lr : ur.length = rk.length := by have := congrArg List.length er; simpa using this
  have inR : ∀ {v}, v ∈ ur -> v ∈ us := fun {v} hv => by rw [← hur] at hv; exact (List.mem_filter.mp hv).1
  have ofR : ∀ {v}, v ∈ ur -> ∃ b ∈ rk, ρ v = rrow b := fun {v} hv => by
   have : ρ v ∈ rk.map rrow := by rw [← er]; exact List.mem_map_of_mem hv
   obtain ⟨b, hb, e⟩ := List.mem_map.mp this
   exact ⟨b, hb, e.symm⟩
  obtain ⟨ub, hub⟩ : ∃ ub, us.filter (pw ρ "board") = ub := ⟨_, rfl⟩
  obtain ⟨uk, huk⟩ : ∃ uk, us.filter (fun v => inK (ρ v).w) = uk := ⟨_, rfl⟩
  have eb : ub.map ρ = bs.map brow := by rw [← hub]; exact O.eb
  have ek : uk.map ρ = ks := by rw [← huk]; exact O.ek
  have lb : ub.length = bs.length := by have := congrArg List.length eb; simpa using this
  have lku : uk.length = ks.length := by have := congrArg List.length ek; simpa using this
  have inB : ∀ {v}, v ∈ ub -> v ∈ us := fun {v} hv => by rw [← hub] at hv; exact (List.mem_filter.mp hv).1
  have inKn : ∀ {v}, v ∈ uk -> v ∈ us := fun {v} hv => by rw [← huk] at hv; exact (List.mem_filter.mp hv).1
  have ofB : ∀ {v}, v ∈ ub -> ∃ b ∈ bs, ρ v = brow b := fun {v} hv => by
   have : ρ v ∈ bs.map brow := by rw [← eb]; exact List.mem_map_of_mem hv
   obtain ⟨b, hb, e⟩ := List.mem_map.mp this
   exact ⟨b, hb, e.symm⟩
  have l1us : 1 <= us.length := by
   have h1 := O.b0
   have h2 : ub.length <= us.length := by rw [← hub]; exact List.length_filter_le _ _
   omega
  refine ⟨_, rfl, p, us, ρ, rfl, hp, hR, l1us, by omega, O.ok, ?_, fun H1 s1 => ?_⟩
  ·rw [hub]
   cases ub with
   | nil =>
    have := O.b0
    simp at lb
    omega
   | cons a b => rfl
  have c1 : SX x H H1 := SX.of s1
  have x1 := s1 _ _ hx
  refine ⟨_, rfl, p, _, rfl, .inl (.inl (.inl (s1 _ _ hp))), fun l1 hl1 => ?_⟩
  have s2 := same_upd (o := HO.lst us) hl1
  generalize upd H1 l1 (HO.lst us) = H2 at s2 ⊢
  refine ⟨_, rfl, x, C, dx, _, rfl, s2 _ _ x1, T.cl, T.n_row_list, (by show 0 < 1000; decide), ?_⟩
  have c2 : SX x H _ := (c1.trans (SX.of s2)).trans (SX.up (o := HO.ins C dx (putF "row_list" (.ref l1) [])))
  have x2 : upd H2 x (HO.ins C dx (putF "row_list" (.ref l1) [])) x = _ := upd_same
  generalize upd H2 x (HO.ins C dx (putF "row_list" (.ref l1) [])) = H3 at c2 x2 ⊢
  have R3 : Rows H3 ρ us := fun v hv => c2.tup hx (hR v hv)
  refine ⟨_, rfl, p, _, "board", ρ, rfl, c2.lst hx hp, R3, by omega, fun D4 H4 hD4 s4 hl4 => ?_⟩
  rw [hub] at hl4
  have hS4 : SqL K H4 D4 ub := .inl (.inl hl4)
  refine ⟨D4, rfl, ⟨_, hS4⟩, comp_tup (K := K) (xs := ub) (fun _ => true) (fun v => [.str (ρ v).nm, (ρ v).rest.getD 0 .non]) hS4 (small1000 (by have := O.b5; omega)) (fun y hy H' hs R k => k H' (Same.refl H')) (fun y hy _ H' hs R k => ?_) (fun D5 H5 bvs hD5 s5 hl5 hb5 => ?_)⟩
  ·obtain ⟨b, _, e⟩ := ofB hy
   have hT := (R3 y (inB hy)).mono (s4.trans hs)
   rw [e] at hT k
   obtain ⟨T0, rfl, hT⟩ := hT
   exact ⟨_, rfl, T0, _, _, _, rfl, rfl, .inl (.inl hT), atI_nat (j := 1) rfl, _, rfl, T0, _, _, _, rfl, rfl, .inl (.inl hT), atI_nat (j := 2) rfl, by show 2 <= sizeLine; decide, fun T6 hT6 => k _ _ (same_upd hT6) ⟨T6, rfl, upd_same⟩⟩
  rw [List.filter_eq_self.mpr (fun _ _ => rfl)] at hb5
  have hb5' : Paired (fun b y => TupAt H5 (bV b) y) bs bvs := by
   have h1 := paired_of_map (F := fun (r : R) y => TupAt H5 [.str r.nm, r.rest.getD 0 .non] y) ρ hb5
   rw [eb] at h1
   exact paired_map_of brow h1
  clear hb5
  refine ⟨_, rfl, x, C, dx, _, rfl, s5 _ _ (s4 _ _ x2), T.cl, T.n_board_list, Nat.lt_of_le_of_lt (len_putF _ _ _) (by show 1 < 1000; decide), ?_⟩
  have u6 : SX x H5 _ := SX.up (o := HO.ins C dx (putF "board_list" (.ref D5) (putF "row_list" (.ref l1) [])))
  have x5 := s5 _ _ (s4 _ _ x2)
  have c6 : SX x H _ := (c2.trans (SX.of (s4.trans s5))).trans u6
  have x6 : upd H5 x (HO.ins C dx (putF "board_list" (.ref D5) (putF "row_list" (.ref l1) []))) x = _ := upd_same
  have hl6 := u6.lst x5 hl5
  have hb6 := u6.pair x5 hb5'
  generalize upd H5 x (HO.ins C dx (putF "board_list" (.ref D5) (putF "row_list" (.ref l1) []))) = H6 at c6 x6 hl6 hb6 ⊢
  clear u6
  have R6 : Rows H6 ρ us := fun v hv => c6.tup hx (hR v hv)
  refine ⟨_, rfl, p, _, "rank", ρ, rfl, c6.lst hx hp, R6, by omega, fun D7 H7 hD7 s7 hl7 => ?_⟩
  rw [hur] at hl7
  have hS7 : SqL K H7 D7 ur := .inl (.inl hl7)
  refine ⟨D7, rfl, ⟨_, hS7⟩, comp_tup (K := K) (xs := ur) (fun _ => true) (fun v => [.str (ρ v).nm, (ρ v).rest.getD 0 .non, (ρ v).rest.getD 1 .non]) hS7 (small1000 (by have := O.nr; omega)) (fun y hy H' hs R k => k H' (Same.refl H')) (fun y hy _ H' hs R k => ?_) (fun D8 H8 rvs hD8 s8 hl8 hr8 => ?_)⟩
  ·obtain ⟨b, _, e⟩ := ofR hy
   have hT := (R6 y (inR hy)).mono (s7.trans hs)
   rw [e] at hT k
   obtain ⟨T0, rfl, hT⟩ := hT
   exact ⟨_, rfl, T0, _, _, _, rfl, rfl, .inl (.inl hT), atI_nat (j := 1) rfl, _, rfl, T0, _, _, _, rfl, rfl, .inl (.inl hT), atI_nat (j := 2) rfl, _, rfl, T0, _, _, _, rfl, rfl, .inl (.inl hT), atI_nat (j := 3) rfl, by show 3 <= sizeLine; decide, fun T6 hT6 => k _ _ (same_upd hT6) ⟨T6, rfl, upd_same⟩⟩
  rw [List.filter_eq_self.mpr (fun _ _ => rfl)] at hr8
  have hr8' : Paired (fun (a : Th) y => TupAt H8 (tV a) y) (rk.map rk3) rvs := by
   have h1 := paired_of_map (F := fun (r : R) y => TupAt H8 [.str r.nm, r.rest.getD 0 .non, r.rest.getD 1 .non] y) ρ hr8
   rw [er] at h1
   exact paired_of_map (F := fun (a : Th) y => TupAt H8 (tV a) y) rk3 (paired_map_of rrow h1)
  clear hr8
  refine ⟨_, rfl, x, C, dx, _, rfl, s8 _ _ (s7 _ _ x6), T.cl, T.n_rank_list, Nat.lt_of_le_of_lt (Nat.le_trans (len_putF _ _ _) (Nat.succ_le_succ (len_putF _ _ _))) (by show 2 < 1000; decide), ?_⟩
  have s68 := s7.trans s8
  have x8 := s68 _ _ x6
  have c8 : SX x H H8 := c6.trans (SX.of s68)
  have hl8b := s68 _ _ hl6
  have hb8 := paired_mono s68 hb6
  have u9 : SX x H8 _ := SX.up (o := HO.ins C dx (putF "rank_list" (.ref D8) (putF "board_list" (.ref D5) (putF "row_list" (.ref l1) []))))
  have x9 : upd H8 x (HO.ins C dx (putF "rank_list" (.ref D8) (putF "board_list" (.ref D5) (putF "row_list" (.ref l1) [])))) x = _ := upd_same
  have c9 := c8.trans u9
  have bl9 := u9.lst x8 hl8b
  have bp9 := u9.pair x8 hb8
  have rl9 := u9.lst x8 hl8
  have rp9 := u9.pair x8 hr8'
  generalize hf9 : putF "rank_list" (.ref D8) (putF "board_list" (.ref D5) (putF "row_list" (.ref l1) [])) = f9 at x9 c9 bl9 bp9 rl9 rp9 u9 ⊢
  generalize upd H8 x (HO.ins C dx f9) = H9 at x9 c9 bl9 bp9 rl9 rp9 ⊢
  have n9 : f9.length <= 3 := by rw [← hf9]; exact Nat.le_trans (len_putF _ _ _) (Nat.succ_le_succ (Nat.le_trans (len_putF _ _ _) (Nat.succ_le_succ (len_putF _ _ _))))
  have lb9 : f9.lookup ("board_list" : Str) = some (.ref D5) := by rw [← hf9, lookup_putF, if_neg (by decide +kernel), lookup_putF, if_pos rfl]
  have lr9 : f9.lookup ("rank_list" : Str) = some (.ref D8) := by rw [← hf9, lookup_putF, if_pos rfl]
  have no9 : ∀ m ∈ meths, f9.lookup m = none := fun m hm => by
   rw [← hf9, lookup_putF, if_neg (no_meth m hm _ (by decide +kernel)), lookup_putF, if_neg (no_meth m hm _ (by decide +kernel)), lookup_putF, if_neg (no_meth m hm _ (by decide +kernel))]
   rfl
  clear u9 hf9
  have R9 : Rows H9 ρ us := fun v hv => c9.tup hx (hR v hv)
  have hS9 : SqL K H9 p us := .inl (.inl (c9.lst hx hp))
  refine ⟨_, rfl, p, rfl, ⟨_, hS9⟩, comp_sq (K := K) (xs := us) (fun v => inK (ρ v).w) id hS9 (small1000 (by omega)) (fun y hy H' hs R k => ?_) (fun y hy _ H' hs R k => ⟨_, rfl, k H' (Same.refl H')⟩) (fun D10 H10 hD10 s10 hl10 => ?_)⟩
  ·obtain ⟨T0, rfl, hT⟩ := (R9.mono hs) y hy
   exact ⟨_, rfl, T0, _, _, _, rfl, rfl, .inl (.inl hT), atI_nat (j := 0) rfl, aK, _, rfl, .inr (T.tK.sq _), rfl, rfl, _, rfl, k H' (Same.refl H')⟩
  rw [List.map_id, huk] at hl10
  refine ⟨_, rfl, x, C, dx, _, rfl, s10 _ _ x9, T.cl, T.n_knob_rows, by omega, ?_⟩
  have x10 := s10 _ _ x9
  have u11 : SX x H10 _ := SX.up (o := HO.ins C dx (putF "knob_rows" (.ref D10) f9))
  have x11 : upd H10 x (HO.ins C dx (putF "knob_rows" (.ref D10) f9)) x = _ := upd_same
  have c11 := (c9.trans (SX.of s10)).trans u11
  have bl11 := u11.lst x10 (s10 _ _ bl9)
  have bp11 := u11.pair x10 (paired_mono s10 bp9)
  have rl11 := u11.lst x10 (s10 _ _ rl9)
  have rp11 := u11.pair x10 (paired_mono s10 rp9)
  have kr11 := u11.lst x10 hl10
  generalize upd H10 x (HO.ins C dx (putF "knob_rows" (.ref D10) f9)) = H11 at x11 c11 bl11 bp11 rl11 rp11 kr11 ⊢
  clear u11
  have hul := bp11.length
  have hS11 : SqL K H11 D5 bvs := .inl (.inl bl11)
  refine ⟨_, rfl, x, C, dx, _, _, rfl, x11, T.cl, T.n_board_list, (by rw [lookup_putF, if_neg (by decide +kernel)]; exact lb9), D5, rfl, ⟨_, hS11⟩, comp_sq (K := K) (xs := bvs) (fun _ => true) (nthV H11 0) hS11 (small1000 (by have := O.b5; omega)) (fun y hy H' hs R k => k H' (Same.refl H')) (fun y hy _ H' hs R k => ?_) (fun D12 H12 hD12 s12 hl12 => ?_)⟩
  ·obtain ⟨b, _, hx'⟩ := paired_mem bp11 hy
   have e := nthV_at hx' 0
   obtain ⟨T0, rfl, hT⟩ := hx'.mono hs
   refine ⟨_, rfl, T0, _, _, _, rfl, rfl, .inl (.inl hT), atI_nat (j := 0) rfl, ?_⟩
   have := k H' (Same.refl H')
   rw [e] at this
   exact this
  rw [List.filter_eq_self.mpr (fun _ _ => rfl), nth_map 0 bp11] at hl12
  have e12 : (bs.map fun b => (bV b).getD 0 V.non) = (bs.map (·.1)).map V.str := by
   rw [List.map_map]
   rfl
  rw [e12] at hl12
  refine ⟨D12, _, rfl, hl12, by rw [List.length_map]; have := O.b5; omega, O.nb, fun D13 kvs H13 hD13 s13 hl13 hv13 => ?_⟩
  have s1113 := s12.trans s13
  have x13 := s1113 _ _ x11
  refine ⟨_, rfl, x, C, dx, _, rfl, x13, T.cl, T.n_board_numbers, Nat.lt_of_le_of_lt (len_putF _ _ _) (by omega), ?_⟩
  have u14 : SX x H13 _ := SX.up (o := HO.ins C dx (putF "board_numbers" (.ref D13) (putF "knob_rows" (.ref D10) f9)))
  have x14 : upd H13 x (HO.ins C dx (putF "board_numbers" (.ref D13) (putF "knob_rows" (.ref D10) f9))) x = _ := upd_same
  have c14 := (c11.trans (SX.of s1113)).trans u14
  have bl14 := u14.lst x13 (s1113 _ _ bl11)
  have bp14 := u14.pair x13 (paired_mono s1113 bp11)
  have rl14 := u14.lst x13 (s1113 _ _ rl11)
  have rp14 := u14.pair x13 (paired_mono s1113 rp11)
  have kr14 := u14.lst x13 (s1113 _ _ kr11)
  have bn14 := u14.dk x13 hl13
  generalize upd H13 x (HO.ins C dx (putF "board_numbers" (.ref D13) (putF "knob_rows" (.ref D10) f9))) = H14 at x14 c14 bl14 bp14 rl14 rp14 kr14 bn14 ⊢
  clear u14
  have hrl := rp14.length
  rw [List.length_map] at hrl
  have hS14 : SqL K H14 D8 rvs := .inl (.inl rl14)
  refine ⟨_, rfl, x, C, dx, _, _, rfl, x14, T.cl, T.n_rank_list, (by rw [lookup_putF, if_neg (by decide +kernel), lookup_putF, if_neg (by decide +kernel)]; exact lr9), D8, rfl, ⟨_, hS14⟩, comp_sq (K := K) (xs := rvs) (fun _ => true) (nthV H14 0) hS14 (small1000 (by have := O.nr; omega)) (fun y hy H' hs R k => k H' (Same.refl H')) (fun y hy _ H' hs R k => ?_) (fun D15 H15 hD15 s15 hl15 => ?_)⟩
  ·obtain ⟨b, _, hx'⟩ := paired_mem rp14 hy
   have e := nthV_at hx' 0
   obtain ⟨T0, rfl, hT⟩ := hx'.mono hs
   refine ⟨_, rfl, T0, _, _, _, rfl, rfl, .inl (.inl hT), atI_nat (j := 0) rfl, ?_⟩
   have := k H' (Same.refl H')
   rw [e] at this
   exact this
  rw [List.filter_eq_self.mpr (fun _ _ => rfl), nth_map 0 rp14] at hl15
  have e15 : ((rk.map rk3).map fun b => (tV b).getD 0 V.non) = (rk.map (·.1)).map V.str := by
   rw [List.map_map, List.map_map]
   rfl
  rw [e15] at hl15
  refine ⟨D15, _, rfl, hl15, by rw [List.length_map]; have := O.nr; omega, O.nrr, fun D16 kvs16 H16 hD16 s16 hl16 hv16 => ?_⟩
  have s1416 := s15.trans s16
  have x16 := s1416 _ _ x14
  refine ⟨_, rfl, x, C, dx, _, rfl, x16, T.cl, T.n_rank_numbers, Nat.lt_of_le_of_lt (Nat.le_trans (len_putF _ _ _) (Nat.succ_le_succ (len_putF _ _ _))) (by omega), ?_⟩
  have u17 : SX x H16 _ := SX.up (o := HO.ins C dx (putF "rank_numbers" (.ref D16) (putF "board_numbers" (.ref D13) (putF "knob_rows" (.ref D10) f9))))
  have x17 : upd H16 x (HO.ins C dx (putF "rank_numbers" (.ref D16) (putF "board_numbers" (.ref D13) (putF "knob_rows" (.ref D10) f9)))) x = _ := upd_same
  have c17 := (c14.trans (SX.of s1416)).trans u17
  have bl17 := u17.lst x16 (s1416 _ _ bl14)
  have bp17 := u17.pair x16 (paired_mono s1416 bp14)
  have rl17 := u17.lst x16 (s1416 _ _ rl14)
  have rp17 := u17.pair x16 (paired_mono s1416 rp14)
  have kr17 := u17.lst x16 (s1416 _ _ kr14)
  have bn17 := u17.dk x16 (s1416 _ _ bn14)
  have rn17 := u17.dk x16 hl16
  generalize hf17 : putF "rank_numbers" (.ref D16) (putF "board_numbers" (.ref D13) (putF "knob_rows" (.ref D10) f9)) = f17 at x17 c17 bl17 bp17 rl17 rp17 kr17 bn17 rn17 u17 ⊢
  generalize upd H16 x (HO.ins C dx f17) = H17 at x17 c17 bl17 bp17 rl17 rp17 kr17 bn17 rn17 ⊢
  have n17 : f17.length <= 6 := by rw [← hf17]; exact Nat.le_trans (len_putF _ _ _) (Nat.succ_le_succ (Nat.le_trans (len_putF _ _ _) (Nat.succ_le_succ (Nat.le_trans (len_putF _ _ _) (Nat.succ_le_succ n9)))))
  have lb17 : f17.lookup ("board_list" : Str) = some (.ref D5) := by rw [← hf17, lookup_putF, if_neg (by decide +kernel), lookup_putF, if_neg (by decide +kernel), lookup_putF, if_neg (by decide +kernel)]; exact lb9
  have lr17 : f17.lookup ("rank_list" : Str) = some (.ref D8) := by rw [← hf17, lookup_putF, if_neg (by decide +kernel), lookup_putF, if_neg (by decide +kernel), lookup_putF, if_neg (by decide +kernel)]; exact lr9
  have lrn17 : f17.lookup ("rank_numbers" : Str) = some (.ref D16) := by rw [← hf17, lookup_putF, if_pos rfl]
  have lbn17 : f17.lookup ("board_numbers" : Str) = some (.ref D13) := by rw [← hf17, lookup_putF, if_neg (by decide +kernel), lookup_putF, if_pos rfl]
  have lkr17 : f17.lookup ("knob_rows" : Str) = some (.ref D10) := by rw [← hf17, lookup_putF, if_neg (by decide +kernel), lookup_putF, if_neg (by decide +kernel), lookup_putF, if_pos rfl]
  have no17 : ∀ m ∈ meths, f17.lookup m = none := fun m hm => by
   rw [← hf17, lookup_putF, if_neg (no_meth m hm _ (by decide +kernel)), lookup_putF, if_neg (no_meth m hm _ (by decide +kernel)), lookup_putF, if_neg (no_meth m hm _ (by decide +kernel))]
   exact no9 m hm
  clear u17 hf17
  have hS17 : SqL K H17 D10 uk := .inl (.inl kr17)
  have R17 : Rows H17 ρ us := fun v hv => c17.tup hx (hR v hv)
  refine ⟨_, rfl, x, C, dx, _, _, rfl, x17, T.cl, T.n_knob_rows, lkr17, D10, rfl, ⟨_, hS17⟩, comp_sq (K := K) (xs := uk) (fun _ => true) (fun v => .str (ρ v).nm) hS17 (small1000 (by have := O.nk; omega)) (fun y hy H' hs R k => k H' (Same.refl H')) (fun y hy _ H' hs R k => ?_) (fun D18 H18 hD18 s18 hl18 => ?_)⟩
  ·obtain ⟨T0, rfl, hT⟩ := (R17.mono hs) y (inKn hy)
   exact ⟨_, rfl, T0, _, _, _, rfl, rfl, .inl (.inl hT), atI_nat (j := 1) rfl, k H' (Same.refl H')⟩
  rw [List.filter_eq_self.mpr (fun _ _ => rfl)] at hl18
  have e18 : (uk.map fun v => V.str (ρ v).nm) = (ks.map (·.nm)).map V.str := by
   rw [← ek, List.map_map, List.map_map]
   rfl
  rw [e18] at hl18
  refine ⟨D18, _, rfl, hl18, by rw [List.length_map]; have := O.nk; omega, O.nn, fun D19 kvs19 H19 hD19 s19 hl19 hv19 => ?_⟩
  have s1719 := s18.trans s19
  have x19 := s1719 _ _ x17
  refine ⟨_, rfl, x, C, dx, _, rfl, x19, T.cl, T.n_knob_numbers, by omega, ?_⟩
  have u20 : SX x H19 _ := SX.up (o := HO.ins C dx (putF "knob_numbers" (.ref D19) f17))
  have x20 : upd H19 x (HO.ins C dx (putF "knob_numbers" (.ref D19) f17)) x = _ := upd_same
  have c20 := (c17.trans (SX.of s1719)).trans u20
  have bl20 := u20.lst x19 (s1719 _ _ bl17)
  have bp20 := u20.pair x19 (paired_mono s1719 bp17)
  have rl20 := u20.lst x19 (s1719 _ _ rl17)
  have rp20 := u20.pair x19 (paired_mono s1719 rp17)
  have kr20 := u20.lst x19 (s1719 _ _ kr17)
  have bn20 := u20.dk x19 (s1719 _ _ bn17)
  have rn20 := u20.dk x19 (s1719 _ _ rn17)
  generalize upd H19 x (HO.ins C dx (putF "knob_numbers" (.ref D19) f17)) = H20 at x20 c20 bl20 bp20 rl20 rp20 kr20 bn20 rn20 ⊢
  clear u20
  refine ⟨_, rfl, x, C, dx, _, _, rfl, x20, T.cl, T.n_board_list, (by rw [lookup_putF, if_neg (by decide +kernel)]; exact lb17), D5, bs.map bd2, bvs, rfl, bl20, paired_of_map (F := fun (a : Th) y => TupAt H20 (tV a) y) bd2 bp20, (by rw [List.length_map]; have := O.b5; omega), (fun a ha => by obtain ⟨b, hb, rfl⟩ := List.mem_map.mp ha; have := O.sz b hb; show b.2 <= 97; omega), fun D21 pvs H21 hD21 s21 hl21 hp21 => ?_⟩
  have e21 : (bs.map bd2).map tN = bs := by
   rw [List.map_map]
   exact List.map_id bs
  rw [e21] at hp21
  have x21 := s21 _ _ x20
  refine ⟨_, rfl, x, C, dx, _, rfl, x21, T.cl, T.n_key_places, Nat.lt_of_le_of_lt (len_putF _ _ _) (by omega), ?_⟩
  have u22 : SX x H21 _ := SX.up (o := HO.ins C dx (putF "key_places" (.ref D21) (putF "knob_numbers" (.ref D19) f17)))
  have x22 : upd H21 x (HO.ins C dx (putF "key_places" (.ref D21) (putF "knob_numbers" (.ref D19) f17))) x = _ := upd_same
  have c22 := (c20.trans (SX.of s21)).trans u22
  have bl22 := u22.lst x21 (s21 _ _ bl20)
  have bp22 := u22.pair x21 (paired_mono s21 bp20)
  have rl22 := u22.lst x21 (s21 _ _ rl20)
  have rp22 := u22.pair x21 (paired_mono s21 rp20)
  have kr22 := u22.lst x21 (s21 _ _ kr20)
  have bn22 := u22.dk x21 (s21 _ _ bn20)
  have rn22 := u22.dk x21 (s21 _ _ rn20)
  have kp22 := u22.lst x21 hl21
  have kq22 := u22.pair x21 hp21
  generalize upd H21 x (HO.ins C dx (putF "key_places" (.ref D21) (putF "knob_numbers" (.ref D19) f17))) = H22 at x22 c22 bl22 bp22 rl22 rp22 kr22 bn22 rn22 kp22 kq22 ⊢
  clear u22
  refine ⟨_, rfl, x, C, dx, _, _, rfl, x22, T.cl, T.n_rank_list, (by rw [lookup_putF, if_neg (by decide +kernel), lookup_putF, if_neg (by decide +kernel)]; exact lr17), D8, rk.map rk3, rvs, rfl, rl22, rp22, (by rw [List.length_map]; exact O.nr), (fun a ha => by obtain ⟨r, hr, rfl⟩ := List.mem_map.mp ha; exact O.nz r hr), fun D23 qvs H23 hD23 s23 hl23 hp23 => ?_⟩
  have e23 : (rk.map rk3).map tN = rk.map rkN := by
   rw [List.map_map]
   rfl
  rw [e23] at hp23
  have x23 := s23 _ _ x22
  refine ⟨_, rfl, x, C, dx, _, rfl, x23, T.cl, T.n_pipe_places, Nat.lt_of_le_of_lt (Nat.le_trans (len_putF _ _ _) (Nat.succ_le_succ (len_putF _ _ _))) (by omega), ?_⟩
  have u24 : SX x H23 _ := SX.up (o := HO.ins C dx (putF "pipe_places" (.ref D23) (putF "key_places" (.ref D21) (putF "knob_numbers" (.ref D19) f17))))
  have x24 : upd H23 x (HO.ins C dx (putF "pipe_places" (.ref D23) (putF "key_places" (.ref D21) (putF "knob_numbers" (.ref D19) f17)))) x = _ := upd_same
  have c24 := (c22.trans (SX.of s23)).trans u24
  have bl24 := u24.lst x23 (s23 _ _ bl22)
  have bp24 := u24.pair x23 (paired_mono s23 bp22)
  have kr24 := u24.lst x23 (s23 _ _ kr22)
  have rl24 := u24.lst x23 (s23 _ _ rl22)
  have rp24 := u24.pair x23 (paired_mono s23 rp22)
  have pp24 := u24.lst x23 hl23
  have pq24 := u24.pair x23 hp23
  have bn24 := u24.dk x23 (s23 _ _ bn22)
  have rn24 := u24.dk x23 (s23 _ _ rn22)
  have kp24 := u24.lst x23 (s23 _ _ kp22)
  have kq24 := u24.pair x23 (paired_mono s23 kq22)
  generalize hf24 : putF "pipe_places" (.ref D23) (putF "key_places" (.ref D21) (putF "knob_numbers" (.ref D19) f17)) = f24 at x24 c24 bl24 bp24 kr24 rl24 rp24 pp24 pq24 bn24 rn24 kp24 kq24 u24 ⊢
  generalize upd H23 x (HO.ins C dx f24) = H24 at x24 c24 bl24 bp24 kr24 rl24 rp24 pp24 pq24 bn24 rn24 kp24 kq24 ⊢
  have n24 : f24.length <= 9 := by rw [← hf24]; exact Nat.le_trans (len_putF _ _ _) (Nat.succ_le_succ (Nat.le_trans (len_putF _ _ _) (Nat.succ_le_succ (Nat.le_trans (len_putF _ _ _) (Nat.succ_le_succ n17)))))
  have old24 : ∀ {f : Str} {v : V}, ¬ f = "pipe_places" -> ¬ f = "key_places" -> ¬ f = "knob_numbers" -> f17.lookup f = some v -> f24.lookup f = some v := fun h1 h2 h3 h => by
   rw [← hf24, lookup_putF, if_neg h1, lookup_putF, if_neg h2, lookup_putF, if_neg h3]; exact h
  have lb24 := old24 (by decide +kernel) (by decide +kernel) (by decide +kernel) lb17
  have lbn24 := old24 (by decide +kernel) (by decide +kernel) (by decide +kernel) lbn17
  have lr24 := old24 (by decide +kernel) (by decide +kernel) (by decide +kernel) lr17
  have lpp24 : f24.lookup ("pipe_places" : Str) = some (.ref D23) := by rw [← hf24, lookup_putF, if_pos rfl]
  have lrn24 := old24 (by decide +kernel) (by decide +kernel) (by decide +kernel) lrn17
  have lkr24 := old24 (by decide +kernel) (by decide +kernel) (by decide +kernel) lkr17
  have lkp24 : f24.lookup ("key_places" : Str) = some (.ref D21) := by rw [← hf24, lookup_putF, if_neg (by decide +kernel), lookup_putF, if_pos rfl]
  have no24 : ∀ m ∈ meths, f24.lookup m = none := fun m hm => by
   rw [← hf24, lookup_putF, if_neg (no_meth m hm _ (by decide +kernel)), lookup_putF, if_neg (no_meth m hm _ (by decide +kernel)), lookup_putF, if_neg (no_meth m hm _ (by decide +kernel))]
   exact no17 m hm
  clear u24 hf24 old24
  have R24 : Rows H24 ρ us := fun v hv => c24.tup hx (hR v hv)
  refine ⟨_, rfl, _, rfl, x, C, dx, _, _, rfl, x24, T.cl, T.n_rank_numbers, lrn24, p, D16, us, ρ, rk, kvs16, rfl, c24.lst hx hp, R24, by omega, rn24, (fun i r hr => hv16 i r.1 (by rw [List.getElem?_map, hr]; rfl)), O.nrr, O.ln, fun D25 H25 hD25 s25 hl25 => ?_⟩
  have x25 := s25 _ _ x24
  refine ⟨_, rfl, x, C, dx, _, rfl, x25, T.cl, T.n_knob_lines, by omega, ?_⟩
  have u26 : SX x H25 _ := SX.up (o := HO.ins C dx (putF "knob_lines" (.ref D25) f24))
  have x26 : upd H25 x (HO.ins C dx (putF "knob_lines" (.ref D25) f24)) x = _ := upd_same
  have c26 := (c24.trans (SX.of s25)).trans u26
  have bl26 := u26.lst x25 (s25 _ _ bl24)
  have bp26 := u26.pair x25 (paired_mono s25 bp24)
  have kr26 := u26.lst x25 (s25 _ _ kr24)
  have rl26 := u26.lst x25 (s25 _ _ rl24)
  have rp26 := u26.pair x25 (paired_mono s25 rp24)
  have pp26 := u26.lst x25 (s25 _ _ pp24)
  have pq26 := u26.pair x25 (paired_mono s25 pq24)
  have ln26 := lines_sx hl25 u26 x25
  have bn26 := u26.dk x25 (s25 _ _ bn24)
  have rn26 := u26.dk x25 (s25 _ _ rn24)
  have kp26 := u26.lst x25 (s25 _ _ kp24)
  have kq26 := u26.pair x25 (paired_mono s25 kq24)
  generalize upd H25 x (HO.ins C dx (putF "knob_lines" (.ref D25) f24)) = H26 at x26 c26 bl26 bp26 kr26 rl26 rp26 pp26 pq26 ln26 bn26 rn26 kp26 kq26 ⊢
  clear u26
  have R26 : Rows H26 ρ us := fun v hv => c26.tup hx (hR v hv)
  refine ⟨_, rfl, p, _, "step", ρ, rfl, c26.lst hx hp, R26, by omega, fun D27 H27 hD27 s27 hl27 => ?_⟩
  rw [O.none] at hl27
  have hS27 : SqL K H27 D27 [] := .inl (.inl hl27)
  refine ⟨D27, rfl, ⟨_, hS27⟩, comp_sq (K := K) (xs := []) (fun _ => true) id hS27 (small1000 (by simp)) (fun y hy => nomatch hy) (fun y hy => nomatch hy) (fun D28 H28 hD28 s28 hl28 => ?_)⟩
  have s2628 := s27.trans s28
  have x28 := s2628 _ _ x26
  refine ⟨_, rfl, x, C, dx, _, rfl, x28, T.cl, T.n_step_sets, Nat.lt_of_le_of_lt (len_putF _ _ _) (by omega), ?_⟩
  have u29 : SX x H28 _ := SX.up (o := HO.ins C dx (putF "step_sets" (.ref D28) (putF "knob_lines" (.ref D25) f24)))
  have old : ∀ {f : Str}, ¬ f = "step_sets" -> ¬ f = "knob_lines" -> (putF "step_sets" (.ref D28) (putF "knob_lines" (.ref D25) f24)).lookup f = f24.lookup f := fun h1 h2 => by rw [lookup_putF, if_neg h1, lookup_putF, if_neg h2]
  refine q _ ⟨⟨⟨dx, _, D5, D13, D21, D10, bvs, pvs, uk, kvs, upd_same, (old (by decide +kernel) (by decide +kernel)).trans lb24, (old (by decide +kernel) (by decide +kernel)).trans lbn24, (old (by decide +kernel) (by decide +kernel)).trans lkp24, (old (by decide +kernel) (by decide +kernel)).trans lkr24,
   fun m hm => (old (no_meth m hm _ (by decide +kernel)) (no_meth m hm _ (by decide +kernel))).trans (no24 m hm), u29.lst x28 (s2628 _ _ bl26), u29.pair x28 (paired_mono s2628 bp26), u29.dk x28 (s2628 _ _ bn26), fun i b hb => hv13 i b.1 (by rw [List.getElem?_map, hb]; rfl), u29.lst x28 (s2628 _ _ kp26), u29.pair x28 (paired_mono s2628 kq26), u29.lst x28 (s2628 _ _ kr26), ?_⟩, O.b5, O.sz, by have := O.nk; omega⟩, ⟨dx, _, D8, D16, D23, D25, rvs, qvs, kvs16, upd_same, (old (by decide +kernel) (by decide +kernel)).trans lr24, (old (by decide +kernel) (by decide +kernel)).trans lrn24, (old (by decide +kernel) (by decide +kernel)).trans lpp24, (by rw [lookup_putF, if_neg (by decide +kernel), lookup_putF, if_pos rfl]), u29.lst x28 (s2628 _ _ rl26), u29.pair x28 (paired_mono s2628 rp26), u29.dk x28 (s2628 _ _ rn26), (fun i r hr => hv16 i r.1 (by rw [List.getElem?_map, hr]; rfl)), u29.lst x28 (s2628 _ _ pp26), u29.pair x28 (paired_mono s2628 pq26), lines_sx (ln26.mono s2628) u29 x28⟩, O.nr, O.nz, ?_⟩ ((c26.trans (SX.of s2628)).trans u29)
  case refine_2 => rw [lines_len O.ln, ← ek, List.length_map, huk]
  rw [← ek]
  refine paired_of_map (F := fun (r : R) y => TupAt _ r.v y) ρ ?_
  have R29 : Rows _ ρ uk := fun v hv => u29.tup x28 ((R26.mono s2628) v (inKn hv))
  generalize upd H28 x _ = H29 at R29 ⊢
  have key : ∀ l : List V, (∀ v ∈ l, TupAt H29 (ρ v).v v) -> Paired (fun v y => TupAt H29 (ρ v).v y) l l := by
   intro l
   induction l with
   | nil => intro _; exact .nil
   | cons a b ih => intro h; exact .cons (h a (List.mem_cons_self ..)) (ih fun v hv => h v (List.mem_cons_of_mem _ hv))
  exact key uk R29
def spOb (C : Addr) : Sp := fun vs H Q _ => ∃ (x : Addr) (bs : List (Str × Nat)) (ks : List R), vs = [.ref x] /\ OrgAt C H x bs ks /\ ∀ D bvs H', H D = none -> Same H H' -> H' D = some (.lst bvs) -> Paired (fun b y => TupAt H' (bV b) y) bs bvs -> Q (.ref D) H'
theorem scOb : FnScope ["self"] ["self"] (defScope sOb) := ⟨rfl, rfl, rfl, by decide +kernel, rfl, by decide +kernel, by decide +kernel⟩
include N T in
theorem ok_Ob : FnOk P w K mg base CX0 1 fOb dOb ["self"] (spOb C) := by
 refine N.FOb.ok scOb (fun vs H Q E h => ?_) (fun cdv A outer s H vs Q E hr h => ?_)
 ·obtain ⟨x, bs, ks, rfl, _⟩ := h
  rfl
 ·obtain ⟨x, bs, ks, rfl, O, q⟩ := h
  refine ⟨_, (pss_one (ps_ret (pe_callTy call_list_of rfl T.list PyProof.Rows.boot_list (pa_cons (pe_fld (pv 0) rfl) pa_nil)))), ?_⟩
  obtain ⟨⟨dx, fs, bl, bn, kp, kr, bvs, pvs, uvs, kvs, h1, l1, l2, l3, l4, lm, h2, h3, h4, h5, h6, h7, h8, h9⟩, ob5, osz, onk⟩ := id O
  exact ⟨_, rfl, x, C, dx, _, _, rfl, h1, T.cl, T.n_board_list, l1, bl, bvs, rfl, .inl (.inl (.inl h2)), fun l hl => q l bvs _ hl (same_upd hl) upd_same (paired_mono (same_upd hl) h3)⟩
def spOc (C : Addr) : Sp := fun vs H Q _ => ∃ (x : Addr) (bs : List (Str × Nat)) (ks : List R), vs = [.ref x] /\ OrgAt C H x bs ks /\ Q (.int ((plc bs).length : Nat)) H
theorem scOc : FnScope ["self"] ["self"] (defScope sOc) := ⟨rfl, rfl, rfl, by decide +kernel, rfl, by decide +kernel, by decide +kernel⟩
include N T in
theorem ok_Oc : FnOk P w K mg base CX0 1 fOc dOc ["self"] (spOc C) := by
 refine N.FOc.ok scOc (fun vs H Q E h => ?_) (fun cdv A outer s H vs Q E hr h => ?_)
 ·obtain ⟨x, bs, ks, rfl, _⟩ := h
  rfl
 ·obtain ⟨x, bs, ks, rfl, O, q⟩ := h
  refine ⟨_, (pss_one (ps_ret (pe_callB call_len_seq rfl T.len PySem.boot_len (pa_cons (pe_fld (pv 0) rfl) pa_nil)))), ?_⟩
  obtain ⟨⟨dx, fs, bl, bn, kp, kr, bvs, pvs, uvs, kvs, h1, l1, l2, l3, l4, lm, h2, h3, h4, h5, h6, h7, h8, h9⟩, ob5, osz, onk⟩ := id O
  refine ⟨_, rfl, x, C, dx, _, _, rfl, h1, T.cl, T.n_key_places, l3, kp, pvs, rfl, .inl (.inl (.inl h6)), ?_⟩
  rw [← h7.length]
  exact q
def spOk (C : Addr) : Sp := fun vs H Q _ => ∃ (x : Addr) (bs : List (Str × Nat)) (ks : List R) (j : Nat) (b : Str × Nat) (n : Int), vs = [.ref x, .str b.1, .int n] /\ OrgAt C H x bs ks /\ bs[j]? = some b /\ ∀ H', Same H H' -> Q (.int ((((bs.take j).map (·.2)).sum : Nat) + n)) H'
theorem scOk : FnScope ["self", "board", "number"] ["self", "board", "number"] (defScope sOk) := ⟨rfl, rfl, rfl, by decide +kernel, rfl, by decide +kernel, by decide +kernel⟩
include N T in
theorem ok_Ok : FnOk P w K mg base CX0 2 fOk dOk ["self", "board", "number"] (spOk C) := by
 have GCa : FnOk P w K mg base CX0 1 fCa dCa ["things"] spCa := ok_Ca N T
 refine N.FOk.ok scOk (fun vs H Q E h => ?_) (fun cdv A outer s H vs Q E hr h => ?_)
 ·obtain ⟨x, bs, ks, j, b, n, rfl, _⟩ := h
  rfl
 ·obtain ⟨x, bs, ks, j, b, n, rfl, O, hb, q⟩ := h
  have hrCa : Room 1 _ := hr.mono (by decide)
  have hu := hu_of hr
  refine ⟨_, (pss_one (ps_ret (pe_op op_add (pe_call GCa hrCa rfl N.mCa N.FCa.kp N.bCa .nil pass0 (pa_cons (pe_slice sl_list (pe_fld (pv 0) rfl) po_none (po_some (pe_dget hu (pe_fld (pv 0) rfl) (pv 1) (fun _ _ => rfl)))) pa_nil)) (pv 2)))), ?_⟩
  obtain ⟨⟨dx, fs, bl, bn, kp, kr, bvs, pvs, uvs, kvs, h1, l1, l2, l3, l4, lm, h2, h3, h4, h5, h6, h7, h8, h9⟩, ob5, osz, onk⟩ := id O
  have hj : j < bs.length := (List.getElem?_eq_some_iff.mp hb).1
  have hl := h3.length
  have g := DGet.k (k := Sum.inr b.1) h4
  rw [h5 j b hb] at g
  refine ⟨_, rfl, x, C, dx, _, _, rfl, h1, T.cl, T.n_board_list, l1, _, rfl, x, C, dx, _, _, rfl, h1, T.cl, T.n_board_numbers, l2, _, rfl, bn, _, rfl, g, _, rfl, bl, bvs, rfl, .inl (.inl h2), fun p6 hp6 => ?_⟩
  have s6 := same_upd (o := HO.lst (cutV bvs none (some (j : Int)))) hp6
  have a6 : upd H p6 (HO.lst (cutV bvs none (some (j : Int)))) p6 = _ := upd_same
  generalize upd H p6 (HO.lst (cutV bvs none (some (j : Int)))) = H6 at s6 a6 ⊢
  rw [cut_take bvs j (by omega)] at a6
  refine ⟨p6, (bs.take j).map bd2, bvs.take j, rfl, a6, paired_of_map (F := fun (a : Th) y => TupAt H6 (tV a) y) bd2 (paired_take (paired_mono s6 h3) j), (by rw [List.length_map, List.length_take]; omega), (fun a ha => by obtain ⟨b', hb', rfl⟩ := List.mem_map.mp ha; exact Nat.le_trans (osz b' (List.mem_of_mem_take hb')) (by show 61 <= 100; decide)), fun H7 s7 => ?_⟩
  have e7 : ((bs.take j).map bd2).map (fun a => a.2.1) = (bs.take j).map (·.2) := by
   rw [List.map_map]
   rfl
  rw [e7]
  exact ⟨_, rfl, _, _, rfl, rfl, q H7 (s6.trans s7)⟩
def spOo (C : Addr) : Sp := fun vs H Q _ => ∃ (x : Addr) (bs : List (Str × Nat)) (ks : List R) (i : Nat) (qd : Nat × Nat), vs = [.ref x, .int (i : Nat)] /\ OrgAt C H x bs ks /\ (plc bs)[i]? = some qd /\ ∀ y, TupAt H (qV qd) y -> Q y H
theorem scOo : FnScope ["self", "key"] ["self", "key"] (defScope sOo) := ⟨rfl, rfl, rfl, by decide +kernel, rfl, by decide +kernel, by decide +kernel⟩
include N T in
theorem ok_Oo : FnOk P w K mg base CX0 1 fOo dOo ["self", "key"] (spOo C) := by
 refine N.FOo.ok scOo (fun vs H Q E h => ?_) (fun cdv A outer s H vs Q E hr h => ?_)
 ·obtain ⟨x, bs, ks, i, qd, rfl, _⟩ := h
  rfl
 ·obtain ⟨x, bs, ks, i, qd, rfl, O, hq, q⟩ := h
  refine ⟨_, (pss_one (ps_ret (pe_ix ix_list (pe_fld (pv 0) rfl) (pv 1) (fun _ _ => rfl)))), ?_⟩
  obtain ⟨⟨dx, fs, bl, bn, kp, kr, bvs, pvs, uvs, kvs, h1, l1, l2, l3, l4, lm, h2, h3, h4, h5, h6, h7, h8, h9⟩, ob5, osz, onk⟩ := id O
  obtain ⟨y, hy, ht⟩ := paired_get h7 hq
  exact ⟨_, rfl, x, C, dx, _, _, rfl, h1, T.cl, T.n_key_places, l3, _, rfl, kp, pvs, _, _, rfl, rfl, .inl (.inl h6), atI_nat hy, q y ht⟩
def spOp (C : Addr) : Sp := fun vs H Q _ => ∃ (x : Addr) (bs : List (Str × Nat)) (ks : List R) (k j1 j2 : Nat) (b1 b2 : Str × Nat) (nm : Str) (s : Int), vs = [.ref x, .int (k : Nat)] /\ OrgAt C H x bs ks /\ ks[k]? = some ⟨"coupler", nm, [.str b1.1, .str b2.1, .int s]⟩ /\ bs[j1]? = some b1 /\ bs[j2]? = some b2 /\ ∀ y H', Same H H' -> TupAt H' [.int (j1 : Nat), .int (j2 : Nat), .int s] y -> Q y H'
def spBk (C : Addr) : Sp := fun vs H Q _ => ∃ (x : Addr) (bs : List (Str × Nat)) (ks : List R) (k j1 : Nat) (b1 : Str × Nat) (wd nm : Str) (rs : List V), vs = [.ref x, .int (k : Nat)] /\ OrgAt C H x bs ks /\ ks[k]? = some ⟨wd, nm, .str b1.1 :: rs⟩ /\ bs[j1]? = some b1 /\ Q (.int (j1 : Nat)) H
theorem scBk : FnScope ["self", "knob"] ["self", "knob"] (defScope sBk) := ⟨rfl, rfl, rfl, by decide +kernel, rfl, by decide +kernel, by decide +kernel⟩
include N T in
theorem ok_Bk : FnOk P w K mg base CX0 1 fBk dBk ["self", "knob"] (spBk C) := by
 refine N.FBk.ok scBk (fun vs H Q E h => ?_) (fun cdv A outer s H vs Q E hr h => ?_)
 ·obtain ⟨x, bs, ks, k, j1, b1, wd, nm, rs, rfl, _⟩ := h
  rfl
 ·obtain ⟨x, bs, ks, k, j1, b1, wd, nm, rs, rfl, O, hk, hb1, q⟩ := h
  have hu := hu_of hr
  refine ⟨_, (pss_one (ps_ret (pe_dget hu (pe_fld (pv 0) rfl) (pe_ix (ix_tupK (K := K) rfl) (pe_ix ix_list (pe_fld (pv 0) rfl) (pv 1) (fun _ _ => rfl)) pe_int (fun _ _ => rfl)) (fun _ _ => rfl)))), ?_⟩
  obtain ⟨⟨dx, fs, bl, bn, kp, kr, bvs, pvs, uvs, kvs, h1, l1, l2, l3, l4, lm, h2, h3, h4, h5, h6, h7, h8, h9⟩, ob5, osz, onk⟩ := id O
  obtain ⟨y, hy, T0, rfl, ht⟩ := paired_get h9 hk
  have g1 := DGet.k (k := Sum.inr b1.1) h4
  rw [h5 j1 b1 hb1] at g1
  exact ⟨_, rfl, x, C, dx, _, _, rfl, h1, T.cl, T.n_board_numbers, l2, _, rfl, x, C, dx, _, _, rfl, h1, T.cl, T.n_knob_rows, l4, _, rfl, kr, uvs, _, _, rfl, rfl, .inl (.inl h8), atI_nat hy, T0, _, _, _, rfl, rfl, .inl (.inl ht), atI_nat (j := 2) rfl, bn, _, rfl, g1, q⟩
theorem scOp : FnScope ["self", "knob", "row"] ["self", "knob"] (defScope sOp) := ⟨rfl, rfl, rfl, by decide +kernel, rfl, by decide +kernel, by decide +kernel⟩
include N T in
theorem ok_Op : FnOk P w K mg base CX0 2 fOp dOp ["self", "knob"] (spOp C) := by
 have GBk : FnOk P w K mg base CX0 1 fBk dBk ["self", "knob"] (spBk C) := ok_Bk N T
 refine N.FOp.ok scOp (fun vs H Q E h => ?_) (fun cdv A outer s H vs Q E hr h => ?_)
 ·obtain ⟨x, bs, ks, k, j1, j2, b1, b2, nm, s0, rfl, _⟩ := h
  rfl
 ·obtain ⟨x, bs, ks, k, j1, j2, b1, b2, nm, s0, rfl, O, hk, hb1, hb2, q⟩ := h
  have hrBk : Room 1 _ := hr.mono (by decide)
  have hu := hu_of hr
  refine ⟨_, (pss_cons (ps_set (i := 2) scOp.nd rfl (Or.inl rfl) (pe_ix ix_list (pe_fld (pv 0) rfl) (pv 1) (fun _ _ => rfl)))
   (pss_one (ps_ret (pe_tup (pa_cons (pe_meth (pv 0) T.cl N.tBk GBk hrBk N.bBk .nil pass0 (pa_cons (pv 1) pa_nil)) (pa_cons (pe_dget hu (pe_fld (pv 0) rfl) (pe_ix (ix_tupK (K := K) rfl) (pv 2) pe_int (fun _ _ => rfl)) (fun _ _ => rfl)) (pa_cons (pe_ix (ix_tupK (K := K) rfl) (pv 2) pe_int (fun _ _ => rfl)) pa_nil))))))), ?_⟩
  obtain ⟨⟨dx, fs, bl, bn, kp, kr, bvs, pvs, uvs, kvs, h1, l1, l2, l3, l4, lm, h2, h3, h4, h5, h6, h7, h8, h9⟩, ob5, osz, onk⟩ := id O
  obtain ⟨y, hy, T0, rfl, ht⟩ := paired_get h9 hk
  have g1 := DGet.k (k := Sum.inr b1.1) h4
  rw [h5 j1 b1 hb1] at g1
  have g2 := DGet.k (k := Sum.inr b2.1) h4
  rw [h5 j2 b2 hb2] at g2
  refine ⟨_, rfl, x, C, dx, _, _, rfl, h1, T.cl, T.n_knob_rows, l4, _, rfl, kr, uvs, _, _, rfl, rfl, .inl (.inl h8), atI_nat hy, ?_⟩
  refine ⟨_, rfl, x, dx, fs, rfl, h1, lm _ (by decide +kernel), _, rfl, x, bs, ks, k, j1, b1, _, _, _, rfl, O, hk, hb1, ?_⟩
  refine ⟨_, rfl, x, C, dx, _, _, rfl, h1, T.cl, T.n_board_numbers, l2, _, rfl, T0, _, _, _, rfl, rfl, .inl (.inl ht), atI_nat (j := 3) rfl, bn, _, rfl, g2, ?_⟩
  exact ⟨_, rfl, T0, _, _, _, rfl, rfl, .inl (.inl ht), atI_nat (j := 4) rfl, by show 3 <= sizeLine; decide, fun p hp => q _ _ (same_upd hp) ⟨p, rfl, upd_same⟩⟩
def spLe (C : Addr) : Sp := fun vs H Q _ => ∃ (x : Addr) (bs : List (Str × Nat)) (ks : List R) (k i j1 j2 : Nat) (b1 b2 : Str × Nat) (qd : Nat × Nat) (nm : Str) (s : Int), vs = [.ref x, .int (k : Nat), .int (i : Nat)] /\ OrgAt C H x bs ks /\ (plc bs)[i]? = some qd /\ ks[k]? = some ⟨"coupler", nm, [.str b1.1, .str b2.1, .int s]⟩ /\ bs[j1]? = some b1 /\ bs[j2]? = some b2 /\
 ∀ H', Same H H' -> Q (ledV bs j1 j2 s qd b2.2) H'
theorem scLe : FnScope ["organ", "knob", "key", "coupler", "place", "second", "number"] ["organ", "knob", "key"] (defScope sLe) := ⟨rfl, rfl, rfl, by decide +kernel, rfl, by decide +kernel, by decide +kernel⟩
include N T in
theorem ok_Le : FnOk P w K mg base CX0 3 fLe dLe ["organ", "knob", "key"] (spLe C) := by
 have GOc : FnOk P w K mg base CX0 1 fOc dOc ["self"] (spOc C) := ok_Oc N T
 have GOp : FnOk P w K mg base CX0 2 fOp dOp ["self", "knob"] (spOp C) := ok_Op N T
 have GOo : FnOk P w K mg base CX0 1 fOo dOo ["self", "key"] (spOo C) := ok_Oo N T
 have GOb : FnOk P w K mg base CX0 1 fOb dOb ["self"] (spOb C) := ok_Ob N T
 have GOk : FnOk P w K mg base CX0 2 fOk dOk ["self", "board", "number"] (spOk C) := ok_Ok N T
 refine N.FLe.ok scLe (fun vs H Q E h => ?_) (fun cdv A outer s H vs Q E hr h => ?_)
 ·obtain ⟨x, bs, ks, k, i, j1, j2, b1, b2, qd, nm, s0, rfl, _⟩ := h
  rfl
 ·obtain ⟨x, bs, ks, k, i, j1, j2, b1, b2, qd, nm, s0, rfl, O, hq, hk, hb1, hb2, q⟩ := h
  have hrOc : Room 1 _ := hr.mono (by decide)
  have hrOp : Room 2 _ := hr.mono (by decide)
  have hrOo : Room 1 _ := hr.mono (by decide)
  have hrOb : Room 1 _ := hr.mono (by decide)
  have hrOk : Room 2 _ := hr.mono (by decide)
  refine ⟨_, (pss_cons (ps_if (pt_not (pt_chain op_le op_lt pe_int (pv 2) (pe_meth0 (pv 0) T.cl N.tOc GOc hrOc N.bOc .nil pass0))) (pss_one (ps_ret pe_non)) pss_nil)
   (pss_cons (ps_set (i := 3) scLe.nd rfl (Or.inl rfl) (pe_meth (pv 0) T.cl N.tOp GOp hrOp N.bOp .nil pass0 (pa_cons (pv 1) pa_nil)))
   (pss_cons (ps_set (i := 4) scLe.nd rfl (Or.inl rfl) (pe_meth (pv 0) T.cl N.tOo GOo hrOo N.bOo .nil pass0 (pa_cons (pv 2) pa_nil)))
   (pss_cons (ps_set (i := 5) scLe.nd rfl (Or.inl rfl) (pe_ix (ix_listK (K := K) rfl) (pe_meth0 (pv 0) T.cl N.tOb GOb hrOb N.bOb .nil pass0) (pe_ix (ix_tupK (K := K) rfl) (pv 3) pe_int (fun _ _ => rfl)) (fun _ _ => rfl)))
   (pss_cons (ps_set (i := 6) scLe.nd rfl (Or.inl rfl) (pe_op op_add (pe_ix (ix_tupK (K := K) rfl) (pv 4) pe_int (fun _ _ => rfl)) (pe_ix (ix_tupK (K := K) rfl) (pv 3) pe_int (fun _ _ => rfl))))
   (pss_cons (ps_if (PW.pt (pw_or (pt_cmpR op_ne (pe_ix (ix_tupK (K := K) rfl) (pv 4) pe_int (fun _ _ => rfl)) (pe_ix (ix_tupK (K := K) rfl) (pv 3) pe_int (fun _ _ => rfl)) (nomark _)) (pw_or1 (pt_not (pt_chain op_le op_lt pe_int (pv 6) (pe_ix (ix_tupK (K := K) rfl) (pv 5) pe_int (fun _ _ => rfl))))))) (pss_one (ps_ret pe_non)) pss_nil)
   (pss_one (ps_ret (pe_meth (pv 0) T.cl N.tOk GOk hrOk N.bOk .nil pass0 (pa_cons (pe_ix (ix_tupK (K := K) rfl) (pv 5) pe_int (fun _ _ => rfl)) (pa_cons (pv 6) pa_nil))))))))))), ?_⟩
  have hi : i < (plc bs).length := (List.getElem?_eq_some_iff.mp hq).1
  have meth : ∀ {H' : Hp}, OrgAt C H' x bs ks -> ∃ dx fs, H' x = some (.ins C dx fs) /\ ∀ m ∈ meths, fs.lookup m = none := fun O' => by
   obtain ⟨⟨dx, fs, _, _, _, _, _, _, _, _, h1, _, _, _, _, lm, _⟩, _⟩ := O'
   exact ⟨dx, fs, h1, lm⟩
  obtain ⟨dx, fs, hx, lm⟩ := meth O
  refine ⟨_, rfl, _, _, rfl, rfl, _, rfl, ?_⟩
  refine ite2 (fun _ => ?_) (fun z => absurd (decide_eq_true (by omega)) z)
  refine ⟨_, rfl, x, dx, fs, rfl, hx, lm _ (by decide +kernel), x, bs, ks, rfl, O, _, _, rfl, rfl, _, rfl, ?_⟩
  rw [decide_eq_true (by omega : (i : Int) < ((plc bs).length : Nat))]
  refine iteF ?_
  refine ⟨_, rfl, x, dx, fs, rfl, hx, lm _ (by decide +kernel), _, rfl, x, bs, ks, k, j1, j2, b1, b2, nm, s0, rfl, O, hk, hb1, hb2, fun y1 H1 s1 hy1 => ?_⟩
  have O1 := O.mono s1
  obtain ⟨dx1, fs1, hx1, lm1⟩ := meth O1
  refine ⟨_, rfl, x, dx1, fs1, rfl, hx1, lm1 _ (by decide +kernel), _, rfl, x, bs, ks, i, qd, rfl, O1, hq, fun y2 hy2 => ?_⟩
  refine ⟨_, rfl, x, dx1, fs1, rfl, hx1, lm1 _ (by decide +kernel), x, bs, ks, rfl, O1, fun D bvs H2 hD s2 hl2 hb2' => ?_⟩
  obtain ⟨T1, rfl, ht1⟩ := hy1.mono s2
  obtain ⟨T2, rfl, ht2⟩ := hy2.mono s2
  obtain ⟨v3, hv3, T3, rfl, ht3⟩ := paired_get hb2' hb2
  refine ⟨_, rfl, T1, _, _, _, rfl, rfl, .inl (.inl ht1), atI_nat (j := 1) rfl, D, bvs, _, _, rfl, rfl, .inl (.inl hl2), atI_nat hv3, ?_⟩
  refine ⟨_, rfl, T2, _, _, _, rfl, rfl, .inl (.inl ht2), atI_nat (j := 1) rfl, _, rfl, T1, _, _, _, rfl, rfl, .inl (.inl ht1), atI_nat (j := 2) rfl, _, _, rfl, rfl, ?_⟩
  refine ⟨_, rfl, T2, _, _, _, rfl, rfl, .inl (.inl ht2), atI_nat (j := 0) rfl, _, rfl, T1, _, _, _, rfl, rfl, .inl (.inl ht1), atI_nat (j := 0) rfl, rfl, _, rfl, ?_⟩
  have fin := q H2 (s1.trans s2)
  unfold ledV at fin
  by_cases e1 : qd.1 = j1
  ·have z : (!decide (V.int (qd.1 : Nat) = V.int (j1 : Nat))) = false := by rw [e1]; simp
   rw [z]
   refine iteF ?_
   refine ⟨_, rfl, _, _, rfl, rfl, _, rfl, ?_⟩
   refine ite2 (fun g1 => ?_) (fun g1 => ?_)
   ·refine ⟨_, rfl, T3, _, _, _, rfl, rfl, .inl (.inl ht3), atI_nat (j := 1) rfl, _, _, rfl, rfl, _, rfl, ?_⟩
    have g1' : 0 <= (qd.2 : Int) + s0 := of_decide_eq_true g1
    by_cases g2 : (qd.2 : Int) + s0 < (b2.2 : Nat)
    ·have z2 : decide ((qd.2 : Int) + s0 < (b2.2 : Nat)) = true := decide_eq_true g2
     rw [z2]
     refine iteF ?_
     rw [if_pos ⟨e1, g1', g2⟩] at fin
     obtain ⟨dx2, fs2, hx2, lm2⟩ := meth (O1.mono s2)
     refine ⟨_, rfl, x, dx2, fs2, rfl, hx2, lm2 _ (by decide +kernel), _, rfl, T3, _, _, _, rfl, rfl, .inl (.inl ht3), atI_nat (j := 0) rfl, _, rfl, x, bs, ks, j2, b2, _, rfl, O1.mono s2, hb2, fun H3 s3 => ?_⟩
     have fin3 := q H3 ((s1.trans s2).trans s3)
     unfold ledV at fin3
     rw [if_pos ⟨e1, g1', g2⟩] at fin3
     exact fin3
    ·have z2 : decide ((qd.2 : Int) + s0 < (b2.2 : Nat)) = false := decide_eq_false g2
     rw [z2]
     refine iteT ?_
     rw [if_neg fun z => g2 z.2.2] at fin
     exact fin
   ·refine ⟨_, rfl, ?_⟩
    have g1' : decide (0 <= (qd.2 : Int) + s0) = false := (Bool.not_eq_true _).mp g1
    rw [if_neg fun z => absurd (decide_eq_true z.2.1) g1] at fin
    exact iteT fin
  ·have z : (!decide (V.int (qd.1 : Nat) = V.int (j1 : Nat))) = true := by
    rw [decide_eq_false fun z => e1 (by have := V.int.inj z; omega)]
    rfl
   rw [z]
   refine iteT ?_
   rw [if_neg fun z => e1 z.1] at fin
   exact fin
abbrev nV (l : List Nat) : List V := l.map fun n : Nat => V.int (n : Int)
def spMy : Sp := fun vs H Q _ => ∃ i : Int, vs = [.int i] /\ Q (.bl (decide (0 <= i) && decide (i < 1200))) H
theorem scMy : FnScope ["thing"] ["thing"] (defScope sMy) := ⟨rfl, rfl, rfl, by decide +kernel, rfl, by decide +kernel, by decide +kernel⟩
include N T in
theorem ok_My : FnOk P w K mg base CX0 2 fMy dMy ["thing"] spMy := by
 have GWh : FnOk P w K mg base CX0 1 fWh dWh ["thing"] spWh := ok_Wh N T
 refine N.FMy.ok scMy (fun vs H Q E h => ?_) (fun cdv A outer s H vs Q E hr h => ?_)
 ·obtain ⟨i, rfl, _⟩ := h
  rfl
 ·obtain ⟨i, rfl, q⟩ := h
  have hrWh : Room 1 _ := hr.mono (by decide)
  obtain ⟨tMB, hMB⟩ := T.below
  refine ⟨_, (pss_one (ps_ret (pe_and (pe_call GWh hrWh rfl N.mWh N.FWh.kp N.bWh .nil pass0 (pa_cons (pv 0) pa_nil)) (pe_one (pe_chain op_le op_lt pe_int (pv 0) (pe_glob (v := .int 1200) rfl hMB ⟨tMB, rfl⟩)))))), ?_⟩
  refine ⟨_, rfl, i, rfl, _, rfl, iteT ?_⟩
  refine ⟨_, rfl, _, _, rfl, rfl, _, rfl, ?_⟩
  refine ite2 (fun h1 => ?_) (fun h1 => ?_)
  ·rw [h1, Bool.true_and] at q
   exact ⟨_, _, rfl, rfl, q⟩
  ·rw [(Bool.not_eq_true _).mp h1, Bool.false_and] at q
   exact q
def spSt : Sp := fun vs H Q _ => ∃ (p : Addr) (l : List Nat), vs = [.ref p] /\ H p = some (.lst (nV l)) /\ l.length <= 500 /\ (∀ n ∈ l, n < 1200) /\ ∀ H', Same H H' -> Q (.int (Wd.mk l : Nat)) H'
theorem mk_or (l : List Nat) (n : Nat) : Builtin.bitOr ((Wd.mk l : Nat) : Int) (1 * 2 ^ ((n : Nat) : Int).toNat) = ((Wd.mk (l ++ [n]) : Nat) : Int) := by
 rw [Int.one_mul, Int.toNat_natCast, pow_nat', or_nat', Wd.mk_snoc]
theorem scSt : FnScope ["numbers", "some", "number"] ["numbers"] (defScope sSt) := ⟨rfl, rfl, rfl, by decide +kernel, rfl, by decide +kernel, by decide +kernel⟩
include N T in
theorem ok_St : FnOk P w K mg base CX0 3 fSt dSt ["numbers"] spSt := by
 have GMy : FnOk P w K mg base CX0 2 fMy dMy ["thing"] spMy := ok_My N T
 refine N.FSt.ok scSt (fun vs H Q E h => ?_) (fun cdv A outer s H vs Q E hr h => ?_)
 ·obtain ⟨p, l, rfl, _⟩ := h
  rfl
 ·obtain ⟨p, l, rfl, hp, hz, hb, q⟩ := h
  have hrMy : Room 2 _ := hr.mono (by decide)
  refine ⟨_, (pss_cons (ps_if (PW.pt (pw_or (pt_not (pt_val (pe_callB call_isin rfl T.isin PyProof.Rows.boot_isinstance (pa_cons (pv 0) (pa_cons (pe_bltn (v := .ty "list") rfl T.list PyProof.Rows.boot_list rfl) pa_nil))))) (pw_or1 (pt_not (pt_val (pe_callB (call_all rfl) rfl T.all PyProof.Rows.boot_all (pa_cons (pe_comp rfl (compScope (osc := defScope sSt) (N := ["numbers", "some", "number"]) rfl rfl (by decide +kernel)) (pi_list (pv 0)) (fun _ _ _ _ => pf_nil) (fun _ _ _ _ => (pe_call GMy hrMy rfl N.mMy N.FMy.kp N.bMy .nil pass0 (pa_cons (pv 0) pa_nil)))) pa_nil))))))) (pss_one ps_never) pss_nil)
   (pss_cons (ps_set (i := 1) scSt.nd rfl (Or.inl rfl) pe_int)
   (pss_cons (ps_for PassesOwn.never rfl (pi_list (pv 0)) (pg_name (i := 2) scSt.nd rfl (Or.inl rfl)) (pss_one (ps_set (i := 1) scSt.nd rfl (Or.inl rfl) (pe_op op_or (pv 1) (pe_op op_shl pe_int (pv 2))))))
   (pss_one (ps_ret (pv 1)))))), ?_⟩
  have hS : SqL K H p (nV l) := .inl (.inl hp)
  refine ⟨_, rfl, _, "list", _, _, rfl, .lst hp, ty_ll, _, rfl, iteF ?_⟩
  have hzl : (nV l).length < sizeLine := small1000 (by simp; omega)
  refine ⟨_, rfl, p, rfl, ⟨_, hS⟩, comp_sq (K := K) (xs := nV l) (fun _ => true) (fun _ => .bl true) hS hzl (fun x hx H' hs R k => k H' (Same.refl H')) (fun x hx _ H' hs R k => ?_) (fun D H' hD hs hl => ?_)⟩
  ·obtain ⟨n, hn, rfl⟩ := List.mem_map.mp hx
   refine ⟨_, rfl, (n : Int), rfl, ?_⟩
   have e : (decide ((0 : Int) <= (n : Int)) && decide ((n : Int) < 1200)) = true := by
    have := hb n hn
    simp
    omega
   rw [e]
   exact k H' (Same.refl H')
  ·refine ⟨D, (nV l).map fun _ => true, rfl, .inl (.inl ?_), ?_⟩
   ·rw [hl, List.filter_eq_self.mpr (fun _ _ => rfl)]
    simp
   ·have e : ((nV l).map fun _ => true).all id = true := by simp
    rw [e]
    refine ⟨_, rfl, iteF ?_⟩
    refine ⟨_, rfl, p, rfl, ⟨_, hs.seq hS⟩, for_list (K := K) (a := p) (xs := nV l) (fun i σ H4 => H4 = H' /\ ∃ v2, σ = [some (.ref p), some (.int (Wd.mk (l.take i) : Nat)), v2]) ⟨rfl, _, rfl⟩ (fun i σ H4 _ h => by rw [h.1]; exact hs.seq hS) ?_ ?_⟩
    ·rintro i y σ H4 hi ⟨rfl, v2, rfl⟩
     rw [List.getElem?_map] at hi
     obtain ⟨n, hn, rfl⟩ := Option.map_eq_some_iff.mp hi
     have hn' := hb n (List.mem_of_getElem? hn)
     refine ⟨_, rfl, _, rfl, _, _, rfl, rfl, ⟨by omega, by omega, by decide⟩, _, _, rfl, rfl, ?_⟩
     refine ⟨rfl, some (.int (n : Int)), ?_⟩
     dsimp only
     rw [mk_or, List.take_add_one, hn]
     rfl
    ·rintro σ H4 ⟨rfl, v2, rfl⟩
     have el : l.take (nV l).length = l := List.take_of_length_le (by simp)
     rw [el]
     exact ⟨_, rfl, q _ hs⟩
def spHa : Sp := fun vs H Q _ => ∃ (n : Nat) (i : Int), vs = [.int n, .int i] /\ Q (.bl (decide (0 <= i) && n.testBit i.toNat)) H
theorem bit_at (n : Nat) (i : Int) : decide (V.int (Builtin.bitAnd ((n : Int) / 2 ^ i.toNat) 1) = V.int 1) = n.testBit i.toNat := by
 rw [pow_nat', show (1 : Int) = ((1 : Nat) : Int) from rfl, ← Int.natCast_ediv, and_nat', Bool.eq_iff_iff]
 rw [Nat.testBit_eq_decide_div_mod_eq, Nat.and_one_is_mod]
 simp only [decide_eq_true_eq, V.int.injEq]
 exact Int.ofNat_inj
theorem scHa : FnScope ["some", "number"] ["some", "number"] (defScope sHa) := ⟨rfl, rfl, rfl, by decide +kernel, rfl, by decide +kernel, by decide +kernel⟩
include N T in
theorem ok_Ha : FnOk P w K mg base CX0 1 fHa dHa ["some", "number"] spHa := by
 refine N.FHa.ok scHa (fun vs H Q E h => ?_) (fun cdv A outer s H vs Q E hr h => ?_)
 ·obtain ⟨n, i, rfl, _⟩ := h
  rfl
 ·obtain ⟨n, i, rfl, q⟩ := h
  refine ⟨_, (pss_one (ps_ret (pe_and (pe_chain op_le op_lt pe_int (pv 1) (pe_bm0 PySem.F.plainAttrs_int PySem.F.slot_int_bit_length PySem.F.type_int_bit_length mt_bits' (pv 0))) (pe_one (pe_cmpR op_eq (pe_op op_and (pe_op op_shr (pv 0) (pv 1)) pe_int) pe_int (nomark _)))))), ?_⟩
  refine ⟨_, rfl, _, _, rfl, rfl, _, rfl, ?_⟩
  refine ite2 (fun h1 => ?_) (fun h1 => ?_)
  ·have hi : 0 <= i := of_decide_eq_true h1
   refine ⟨_, rfl, rfl, (n : Int), rfl, rfl, _, _, rfl, rfl, _, rfl, ?_⟩
   rw [bits_nat']
   refine ite2 (fun h2 => ?_) (fun h2 => ?_)
   ·refine ⟨_, rfl, _, rfl, _, _, rfl, rfl, hi, _, _, rfl, rfl, rfl, ?_⟩
    dsimp only
    rw [bit_at]
    rw [h1, Bool.true_and] at q
    exact q
   ·have e : n.testBit i.toNat = false := by
     cases hb : n.testBit i.toNat with
     | false => rfl
     | true =>
      have := Wd.lt_len hb
      exact absurd (decide_eq_true (by omega : i < (Wd.len n : Int))) h2
    rw [e, Bool.and_false] at q
    exact q
  ·rw [(Bool.not_eq_true _).mp h1, Bool.false_and] at q
   exact ⟨_, rfl, iteF q⟩
def spMe : Sp := fun vs H Q _ => ∃ n : Nat, vs = [.int n] /\ n < 2 ^ 1200 /\ ∀ p H', H p = none -> Same H H' -> H' p = some (.lst (nV (Wd.mem n))) -> Q (.ref p) H'
theorem mem_list (n : Nat) : ((((List.range (Wd.len n)).map fun (i : Nat) => (0 : Int) + (i : Int)).filter fun i => decide (0 <= i) && n.testBit i.toNat).map fun i => V.int i) = nV (Wd.mem n) := by
 unfold Wd.mem
 rw [List.filter_map, List.map_map]
 have e : ((fun i : Int => decide (0 <= i) && n.testBit i.toNat) ∘ fun (i : Nat) => (0 : Int) + (i : Int)) = n.testBit := by
  funext i
  show (decide (0 <= (0 : Int) + (i : Int)) && n.testBit ((0 : Int) + (i : Int)).toNat) = n.testBit i
  have h1 : (0 : Int) <= 0 + (i : Int) := by omega
  have h2 : ((0 : Int) + (i : Int)).toNat = i := by omega
  rw [decide_eq_true h1, h2, Bool.true_and]
 rw [e]
 refine List.map_congr_left fun i _ => ?_
 show V.int ((0 : Int) + (i : Int)) = V.int (i : Int)
 rw [Int.zero_add]
theorem scMe : FnScope ["some"] ["some"] (defScope sMe) := ⟨rfl, rfl, rfl, by decide +kernel, rfl, by decide +kernel, by decide +kernel⟩
include N T in
theorem ok_Me : FnOk P w K mg base CX0 2 fMe dMe ["some"] spMe := by
 have GHa : FnOk P w K mg base CX0 1 fHa dHa ["some", "number"] spHa := ok_Ha N T
 refine N.FMe.ok scMe (fun vs H Q E h => ?_) (fun cdv A outer s H vs Q E hr h => ?_)
 ·obtain ⟨n, rfl, _⟩ := h
  rfl
 ·obtain ⟨n, rfl, hn, q⟩ := h
  have hrHa : Room 1 _ := hr.mono (by decide)
  refine ⟨_, (pss_one (ps_ret (pe_comp rfl (compScope (osc := defScope sMe) (N := ["some"]) rfl rfl (by decide +kernel)) (pi_range1 rfl T.range (pa_cons (pe_bm0 PySem.F.plainAttrs_int PySem.F.slot_int_bit_length PySem.F.type_int_bit_length mt_bits' (pv 0)) pa_nil)) (fun _ _ _ _ => (pf_one (pt_val (pe_call GHa hrHa rfl N.mHa N.FHa.kp N.bHa .nil pass0 (pa_cons (pv 1) (pa_cons (pv 0) pa_nil)))))) (fun _ _ _ _ => (pv 0))))), ?_⟩
  have hlen : Wd.len n <= 1200 := Wd.len_le hn
  refine ⟨_, rfl, rfl, (n : Int), rfl, rfl, ?_⟩
  rw [bits_nat']
  refine ⟨_, rfl, by omega, by omega, ?_⟩
  rw [Int.toNat_natCast]
  refine comp_range (lo := 0) (n := Wd.len n) (fun i => decide (0 <= i) && n.testBit i.toNat) (fun i => .int i) (Nat.lt_of_le_of_lt hlen (by decide)) (fun i hi H' hs R k => ?_) (fun i hi _ H' hs R k => ⟨_, rfl, k H' (Same.refl H')⟩) (fun D H' hD hs hl => ?_)
  ·exact ⟨_, rfl, _, rfl, n, _, rfl, _, rfl, k H' (Same.refl H')⟩
  ·rw [mem_list] at hl
   exact q D H' hD hs hl
def spSh : Sp := fun vs H Q _ => ∃ (n : Nat) (k : Int) (c : Nat), vs = [.int n, .int k, .int c] /\ n < 2 ^ 1200 /\ -1200 <= k /\ k <= 1200 /\ c <= 1200 /\ Q (.int (Wd.mv n k c : Nat)) H
theorem mask_at (m c : Nat) : Builtin.bitAnd (m : Int) (1 * 2 ^ ((if (0 : Int) > (c : Int) then (0 : Int) else (c : Int))).toNat - 1) = ((m % 2 ^ c : Nat) : Int) := by
 have h : ¬ (0 : Int) > (c : Int) := by omega
 rw [if_neg h, Int.one_mul, Int.toNat_natCast, pow_nat']
 have hp : 1 <= 2 ^ c := Nat.one_le_two_pow
 have e : ((2 ^ c : Nat) : Int) - 1 = ((2 ^ c - 1 : Nat) : Int) := by omega
 rw [e, and_nat', Nat.and_two_pow_sub_one_eq_mod]
theorem scSh : FnScope ["some", "steps", "count", "moved"] ["some", "steps", "count"] (defScope sSh) := ⟨rfl, rfl, rfl, by decide +kernel, rfl, by decide +kernel, by decide +kernel⟩
include N T in
theorem ok_Sh : FnOk P w K mg base CX0 1 fSh dSh ["some", "steps", "count"] spSh := by
 refine N.FSh.ok scSh (fun vs H Q E h => ?_) (fun cdv A outer s H vs Q E hr h => ?_)
 ·obtain ⟨n, k, c, rfl, _⟩ := h
  rfl
 ·obtain ⟨n, k, c, rfl, hn, k1, k2, hc, q⟩ := h
  refine ⟨_, (pss_cons (ps_set (i := 3) scSh.nd rfl (Or.inl rfl) (pe_ifExp (pt_cmpR op_gt (pv 1) pe_int (nomark _)) (pe_op op_shlB (pv 0) (pv 1)) (pe_op op_shr (pv 0) (pe_un un_neg (pv 1)))))
   (pss_one (ps_ret (pe_op op_and (pv 3) (pe_op op_sub (pe_op op_shl pe_int (pe_callB (call_max2 rfl) rfl T.max PyProof.Rows.boot_max (pa_cons (pv 2) (pa_cons pe_int pa_nil)))) pe_int))))), ?_⟩
  have hlen : Wd.len n <= 1200 := Wd.len_le hn
  have p1 : (2 : Int) ^ 27 = 134217728 := by decide
  refine ⟨_, rfl, _, _, rfl, rfl, _, rfl, ?_⟩
  refine ite2 (fun h1 => ?_) (fun h1 => ?_)
  ·have hk : 0 < k := of_decide_eq_true h1
   refine ⟨_, rfl, _, rfl, _, _, rfl, rfl, ⟨by omega, by rw [bits_nat', p1]; omega⟩, ?_⟩
   refine ⟨_, rfl, _, rfl, _, _, rfl, ⟨_, _, rfl, rfl, ⟨by split <;> omega, by split <;> omega, by decide⟩, _, _, rfl, rfl, _, _, rfl, rfl, ?_⟩⟩
   dsimp only
   have e : ((n : Int) * 2 ^ k.toNat) = ((n * 2 ^ k.toNat : Nat) : Int) := by rw [pow_nat']; simp
   rw [e, mask_at]
   unfold Wd.mv at q
   rw [if_pos hk] at q
   exact q
  ·have hk : ¬ 0 < k := fun z => h1 (decide_eq_true z)
   refine ⟨_, rfl, _, rfl, _, rfl, _, _, rfl, rfl, by omega, ?_⟩
   refine ⟨_, rfl, _, rfl, _, _, rfl, ⟨_, _, rfl, rfl, ⟨by split <;> omega, by split <;> omega, by decide⟩, _, _, rfl, rfl, _, _, rfl, rfl, ?_⟩⟩
   dsimp only
   have e : ((n : Int) / 2 ^ (-k).toNat) = ((n / 2 ^ (-k).toNat : Nat) : Int) := by rw [pow_nat']; simp
   rw [e, mask_at]
   unfold Wd.mv at q
   rw [if_neg hk] at q
   exact q
def spOz (C : Addr) : Sp := fun vs H Q _ => ∃ (x : Addr) (bs : List (Str × Nat)) (ks : List R), vs = [.ref x] /\ OrgAt C H x bs ks /\ ∀ D ys H', H D = none -> Same H H' -> H' D = some (.lst ys) -> Paired (fun (r : R) y => TupAt H' [.str r.w, .str r.nm] y) ks ys -> Q (.ref D) H'
theorem scOz : FnScope ["self"] ["self"] (defScope sOz) := ⟨rfl, rfl, rfl, by decide +kernel, rfl, by decide +kernel, by decide +kernel⟩
include N T in
theorem ok_Oz : FnOk P w K mg base CX0 1 fOz dOz ["self"] (spOz C) := by
 refine N.FOz.ok scOz (fun vs H Q E h => ?_) (fun cdv A outer s H vs Q E hr h => ?_)
 ·obtain ⟨x, bs, ks, rfl, _⟩ := h
  rfl
 ·obtain ⟨x, bs, ks, rfl, O, q⟩ := h
  refine ⟨_, (pss_one (ps_ret (pe_comp rfl (compScope (osc := defScope sOz) (N := ["self"]) rfl rfl (by decide +kernel)) (pi_list (pe_fld (pv 0) rfl)) (fun _ _ _ _ => pf_nil) (fun _ _ _ _ => (pe_tup (pa_cons (pe_ix (ix_tupK (K := K) rfl) (pv 0) pe_int (fun _ _ => rfl)) (pa_cons (pe_ix (ix_tupK (K := K) rfl) (pv 0) pe_int (fun _ _ => rfl)) pa_nil))))))), ?_⟩
  obtain ⟨⟨dx, fs, bl, bn, kp, kr, bvs, pvs, uvs, kvs, h1, l1, l2, l3, l4, lm, h2, h3, h4, h5, h6, h7, h8, h9⟩, ob5, osz, onk⟩ := id O
  have hS : SqL K H kr uvs := .inl (.inl h8)
  have hul := h9.length
  refine ⟨_, rfl, x, C, dx, _, _, rfl, h1, T.cl, T.n_knob_rows, l4, kr, rfl, ⟨_, hS⟩, comp_tup (K := K) (xs := uvs) (fun _ => true) (fun v => [.str (rho H v).w, .str (rho H v).nm]) hS (small1000 (by omega)) (fun y hy H' hs R k => k H' (Same.refl H')) (fun y hy _ H' hs R k => ?_) (fun D H' ys hD hs hl hv => ?_)⟩
  ·obtain ⟨r, _, hr0⟩ := paired_mem h9 hy
   have e := rho_at hr0
   rw [e] at k
   obtain ⟨T0, rfl, hT⟩ := hr0.mono hs
   exact ⟨_, rfl, T0, _, _, _, rfl, rfl, .inl (.inl hT), atI_nat (j := 0) rfl, _, rfl, T0, _, _, _, rfl, rfl, .inl (.inl hT), atI_nat (j := 1) rfl, by show 2 <= sizeLine; decide, fun T6 hT6 => k _ _ (same_upd hT6) ⟨T6, rfl, upd_same⟩⟩
  ·rw [List.filter_eq_self.mpr (fun _ _ => rfl)] at hv
   have h := paired_of_map (F := fun (r : R) y => TupAt H' [.str r.w, .str r.nm] y) (rho H) hv
   rw [rho_map h9] at h
   exact q D ys H' hD hs hl h
def spDc (C : Addr) : Sp := fun vs H Q _ => ∃ (x : Addr) (bs : List (Str × Nat)) (ks : List R) (wd : Str) (D : Nat), vs = [.ref x, .int (D : Nat), .str wd] /\ OrgAt C H x bs ks /\ ∀ L (cl : List Nat) H', H L = none -> Same H H' -> H' L = some (.lst (nV cl)) -> (∀ k, k ∈ cl ↔ ∃ r, ks[k]? = some r /\ r.w = wd /\ D.testBit k = true) -> cl.length <= 200 -> Q (.ref L) H'
theorem scDc : FnScope ["organ", "knobs", "word", "words"] ["organ", "knobs", "word"] (defScope sDc) := ⟨rfl, rfl, rfl, by decide +kernel, rfl, by decide +kernel, by decide +kernel⟩
include N T in
theorem ok_Dc : FnOk P w K mg base CX0 2 fDc dDc ["organ", "knobs", "word"] (spDc C) := by
 have GOz : FnOk P w K mg base CX0 1 fOz dOz ["self"] (spOz C) := ok_Oz N T
 have GHa : FnOk P w K mg base CX0 1 fHa dHa ["some", "number"] spHa := ok_Ha N T
 refine N.FDc.ok scDc (fun vs H Q E h => ?_) (fun cdv A outer s H vs Q E hr h => ?_)
 ·obtain ⟨x, bs, ks, wd, D, rfl, _⟩ := h
  rfl
 ·obtain ⟨x, bs, ks, wd, D, rfl, O, q⟩ := h
  have hrOz : Room 1 _ := hr.mono (by decide)
  have hrHa : Room 1 _ := hr.mono (by decide)
  refine ⟨_, (pss_cons (ps_comp (i := 3) scDc.nd rfl rfl rfl (compScope (osc := defScope sDc) (N := ["organ", "knobs", "word", "words"]) rfl rfl (by decide +kernel)) (pi_list (pe_meth0 (pv 0) T.cl N.tOz GOz hrOz N.bOz .nil pass0)) (fun _ _ _ _ => pf_nil) (fun _ _ _ _ => (pe_ix (ix_tupK (K := K) rfl) (pv 0) pe_int (fun _ _ => rfl))))
   (pss_one (ps_ret (pe_pair rfl (compScope2 (osc := defScope sDc) (N := ["organ", "knobs", "word", "words"]) rfl rfl (by decide +kernel)) (pi_enum rfl T.enumerate (pa_cons (pv 3) pa_nil)) (fun _ _ _ _ => pf_one (PW.pt (pw_and (pt_cmpR op_eq (pv 1) (pv 4) (nomark _)) (pw_and1 (pt_val (pe_call GHa hrHa rfl N.mHa N.FHa.kp N.bHa .nil pass0 (pa_cons (pv 3) (pa_cons (pv 0) pa_nil)))))))) (fun _ _ _ _ => (pv 0)))))), ?_⟩
  obtain ⟨⟨dx, fs, bl, bn, kp, kr, bvs, pvs, uvs, kvs, h1, l1, l2, l3, l4, lm, h2, h3, h4, h5, h6, h7, h8, h9⟩, ob5, osz, onk⟩ := id O
  refine ⟨_, rfl, x, dx, fs, rfl, h1, lm _ (by decide +kernel), x, _, _, rfl, O, fun D1 ys H1 hD1 s1 hl1 hv1 => ?_⟩
  have hS1 : SqL K H1 D1 ys := .inl (.inl hl1)
  have hyl := hv1.length
  refine ⟨D1, rfl, ⟨_, hS1⟩, comp_sq (K := K) (xs := ys) (fun _ => true) (nthV H1 0) hS1 (small1000 (by omega)) (fun y hy H' hs R k => k H' (Same.refl H')) (fun y hy _ H' hs R k => ?_) (fun D2 H2 hD2 s2 hl2 => ?_)⟩
  ·obtain ⟨r, _, hr0⟩ := paired_mem hv1 hy
   have e := nthV_at hr0 0
   obtain ⟨T0, rfl, hT⟩ := hr0.mono hs
   have kk := k H' (Same.refl H')
   rw [e] at kk
   exact ⟨_, rfl, T0, _, _, _, rfl, rfl, .inl (.inl hT), atI_nat (j := 0) rfl, kk⟩
  rw [List.filter_eq_self.mpr (fun _ _ => rfl), nth_map 0 hv1] at hl2
  have e2 : (ks.map fun r => ([V.str r.w, V.str r.nm] : List V).getD 0 .non) = ks.map fun r => V.str r.w := rfl
  rw [e2] at hl2
  have hS2 : SqL K H2 D2 (ks.map fun r => V.str r.w) := .inl (.inl hl2)
  refine ⟨_, rfl, D2, rfl, ⟨_, hS2⟩, comp_enum (K := K) (xs := ks.map fun r => V.str r.w) (fun i v => decide (v = .str wd) && D.testBit i) (fun i _ => .int (i : Nat)) hS2 (small1000 (by rw [List.length_map]; omega)) (fun i v hv H' hs R k => ?_) (fun i v hv _ H' hs R k => ⟨_, rfl, k H' (Same.refl H')⟩) (fun D3 H3 hD3 s3 hl3 => ?_)⟩
  ·rw [List.getElem?_map] at hv
   obtain ⟨z, hz, rfl⟩ := Option.map_eq_some_iff.mp hv
   have kk := k H' (Same.refl H')
   refine ⟨_, rfl, _, rfl, rfl, _, rfl, ?_⟩
   refine ite2 (fun g => ?_) (fun g => ?_)
   ·rw [g, Bool.true_and] at kk
    refine ⟨_, rfl, _, rfl, D, _, rfl, _, rfl, ?_⟩
    rw [decide_eq_true (by omega : (0 : Int) <= (i : Nat)), Bool.true_and, Int.toNat_natCast]
    exact kk
   ·rw [(Bool.not_eq_true _).mp g, Bool.false_and] at kk
    exact kk
  ·refine q D3 (((ks.map fun r => V.str r.w).zipIdx.filter fun p => decide (p.1 = V.str wd) && D.testBit p.2).map (·.2)) H3 ((s1.trans s2).free hD3) ((s1.trans s2).trans s3) ?_ (fun k => ?_) ?_
   ·rw [hl3]
    refine congrArg (fun l => some (HO.lst l)) ?_
    unfold nV
    rw [List.map_map]
    rfl
   ·constructor
    ·intro hk
     obtain ⟨⟨v, k'⟩, hm, rfl⟩ := List.mem_map.mp hk
     obtain ⟨h1, h2⟩ := List.mem_filter.mp hm
     have h3 := List.mem_zipIdx' h1
     rw [List.getElem_map] at h3
     obtain ⟨hlt, h3⟩ := h3
     rw [Bool.and_eq_true] at h2
     have hlt' : k' < ks.length := by simpa using hlt
     refine ⟨ks[k'], List.getElem?_eq_getElem hlt', ?_, h2.2⟩
     have := h2.1
     rw [h3] at this
     exact V.str.inj (of_decide_eq_true this)
    ·rintro ⟨z, hz, hc, hd⟩
     refine List.mem_map.mpr ⟨(V.str z.w, k), List.mem_filter.mpr ⟨?_, ?_⟩, rfl⟩
     ·rw [List.mem_zipIdx_iff_getElem?, List.getElem?_map, hz]
      rfl
     ·show (decide (V.str z.w = V.str wd) && D.testBit k) = true
      rw [hc, hd, decide_eq_true rfl]
      rfl
   ·rw [List.length_map]
    refine Nat.le_trans (List.length_filter_le _ _) ?_
    rw [List.length_zipIdx, List.length_map]
    omega
def spHk (C : Addr) : Sp := fun vs H Q _ => ∃ (x : Addr) (bs : List (Str × Nat)) (ks : List R) (n : Nat), vs = [.ref x, .int (n : Nat)] /\ OrgAt C H x bs ks /\ n < 2 ^ 1200 /\ Q (.int (Wd.mv n 0 (bs.map (·.2)).sum : Nat)) H
theorem plc_305 {C : Addr} {H : Hp} {x : Addr} {bs : List (Str × Nat)} {ks : List R} (O : OrgAt C H x bs ks) : (bs.map (·.2)).sum <= 305 := by
 have h := plc_len bs 61 O.sz
 rw [plc_sum] at h
 have := O.nb
 have : bs.length * 61 <= 5 * 61 := Nat.mul_le_mul_right _ this
 omega
theorem scHk : FnScope ["organ", "held"] ["organ", "held"] (defScope sHk) := ⟨rfl, rfl, rfl, by decide +kernel, rfl, by decide +kernel, by decide +kernel⟩
include N T in
theorem ok_Hk : FnOk P w K mg base CX0 2 fHk dHk ["organ", "held"] (spHk C) := by
 have GSh : FnOk P w K mg base CX0 1 fSh dSh ["some", "steps", "count"] spSh := ok_Sh N T
 have GOc : FnOk P w K mg base CX0 1 fOc dOc ["self"] (spOc C) := ok_Oc N T
 refine N.FHk.ok scHk (fun vs H Q E h => ?_) (fun cdv A outer s H vs Q E hr h => ?_)
 ·obtain ⟨x, bs, ks, n, rfl, _⟩ := h
  rfl
 ·obtain ⟨x, bs, ks, n, rfl, O, hn, q⟩ := h
  have hrSh : Room 1 _ := hr.mono (by decide)
  have hrOc : Room 1 _ := hr.mono (by decide)
  refine ⟨_, (pss_one (ps_ret (pe_call GSh hrSh rfl N.mSh N.FSh.kp N.bSh .nil pass0 (pa_cons (pv 1) (pa_cons pe_int (pa_cons (pe_meth0 (pv 0) T.cl N.tOc GOc hrOc N.bOc .nil pass0) pa_nil)))))), ?_⟩
  obtain ⟨⟨dx, fs, bl, bn, kp, kr, bvs, pvs, uvs, kvs, h1, l1, l2, l3, l4, lm, _⟩, _⟩ := id O
  have h305 := plc_305 O
  refine ⟨_, rfl, _, rfl, x, dx, fs, rfl, h1, lm _ (by decide +kernel), x, bs, ks, rfl, O, n, 0, (plc bs).length, rfl, hn, by decide, by decide, by rw [plc_sum]; omega, ?_⟩
  rw [plc_sum]
  exact q
theorem line20' {n : Nat} (h : n <= 3000) : n < sizeLine := Nat.lt_of_le_of_lt h (by decide)
theorem gName_eq {i : Nat} {v : V} {σ : St} {H : Hp} {Q : St -> Hp -> Prop} : gName i v σ H Q = Q (σ.set i (some v)) H := rfl
theorem go_while {c : TT} {tb u : TS} {D : Ends} {r : VK} {b k : St -> Hp -> Prop} {σ : St} {H : Hp} (h : tWhile c tb { D with nx := u D } σ H) : ({ nx := tSeq (tWhile c tb) u D, rt := r, bk := b, ct := k } : Ends).nx σ H := h
def lenL : Option HO -> Nat
 | some (.lst xs) => xs.length
 | _ => 0
def lenD : Option HO -> Nat
 | some (.dK kvs) => kvs.length
 | _ => 0
abbrev kI (j : Nat) : Key := Sum.inl ((j : Nat) : Int)
theorem val_in {kvs : List (Key × V)} {js : List Nat} (h : kvs.map (·.1) = js.map kI) (j : Nat) : (valV kvs (kI j)).isSome = decide (j ∈ js) := by
 rw [← valV_any]
 rw [Bool.eq_iff_iff, List.any_eq_true, decide_eq_true_eq]
 constructor
 ·rintro ⟨p, hp, e⟩
  have : p.1 ∈ js.map kI := by rw [← h]; exact List.mem_map_of_mem hp
  obtain ⟨j', hj', e'⟩ := List.mem_map.mp this
  have e2 : kI j' = kI j := e'.trans (of_decide_eq_true e)
  have : ((j' : Nat) : Int) = (j : Nat) := Sum.inl.inj e2
  have : j' = j := by omega
  subst this
  exact hj'
 ·intro hj
  have : kI j ∈ kvs.map (·.1) := by rw [h]; exact List.mem_map_of_mem hj
  obtain ⟨p, hp, e⟩ := List.mem_map.mp this
  exact ⟨p, hp, decide_eq_true e⟩
def Par (H : Hp) (bs : List (Str × Nat)) (kbs : List Kb) (D n : Nat) (kvs : List (Key × V)) (js : List Nat) : Prop := ∀ (m j : Nat), js[m]? = some j -> ∃ (k i : Nat) (T : Addr) (z : Kb), valV kvs (kI j) = some (.ref T) /\ H T = some (.tup [V.int (k : Nat), V.int (i : Nat)]) /\ D.testBit k = true /\ kbs[k]? = some z /\ gl bs z i = some j /\ (n.testBit i = true \/ i ∈ js.take m)
theorem Par.by' {H H' : Hp} {bs : List (Str × Nat)} {kbs : List Kb} {D n : Nat} {kvs : List (Key × V)} {js : List Nat} (h : Par H bs kbs D n kvs js) (hs : ∀ T xs, H T = some (.tup xs) -> H' T = some (.tup xs)) : Par H' bs kbs D n kvs js := fun m j hm => by
 obtain ⟨k, i, T, z, h1, h2, h3⟩ := h m j hm
 exact ⟨k, i, T, z, h1, hs _ _ h2, h3⟩
theorem Par.mono {H H' : Hp} {bs : List (Str × Nat)} {kbs : List Kb} {D n : Nat} {kvs : List (Key × V)} {js : List Nat} (h : Par H bs kbs D n kvs js) (s : Same H H') : Par H' bs kbs D n kvs js := h.by' fun T xs e => s _ _ e
theorem Par.upd {H : Hp} {bs : List (Str × Nat)} {kbs : List Kb} {D n : Nat} {kvs : List (Key × V)} {js : List Nat} {A : Addr} {o u : HO} (h : Par H bs kbs D n kvs js) (ha : H A = some u) (hu : ∀ xs, u ≠ .tup xs) : Par (L2.upd H A o) bs kbs D n kvs js := h.by' fun T xs e => by
 rw [upd_ne (fun z => by rw [z, ha] at e; exact hu xs (Option.some.inj e))]
 exact e
theorem Par.snoc {H : Hp} {bs : List (Str × Nat)} {kbs : List Kb} {D n : Nat} {kvs : List (Key × V)} {js : List Nat} {k i0 j : Nat} {T : Addr} {z : Kb} (h : Par H bs kbs D n kvs js) (nv : valV kvs (kI j) = none) (hT : H T = some (.tup [V.int (k : Nat), V.int (i0 : Nat)])) (hk : D.testBit k = true) (hz : kbs[k]? = some z) (hg : gl bs z i0 = some j) (hi : n.testBit i0 = true \/ i0 ∈ js) :
  Par H bs kbs D n (kvs ++ [(kI j, .ref T)]) (js ++ [j]) := fun m j' hm => by
 by_cases hlt : m < js.length
 ·rw [List.getElem?_append_left hlt] at hm
  obtain ⟨k', i', T', z', h1, h2, h3, h4, h5, h6⟩ := h m j' hm
  refine ⟨k', i', T', z', ?_, h2, h3, h4, h5, ?_⟩
  ·rw [valV_snoc _ _ _ _ nv]
   by_cases e : kI j' = kI j
   ·rw [e, nv] at h1
    cases h1
   ·rw [if_neg e]
    exact h1
  ·rw [List.take_append_of_le_length (Nat.le_of_lt hlt)]
   exact h6
 ·have hm' := (List.getElem?_eq_some_iff.mp hm).1
  rw [List.length_append, List.length_singleton] at hm'
  have em : m = js.length := by omega
  subst em
  rw [List.getElem?_append_right (Nat.le_refl _), Nat.sub_self] at hm
  have ej : j = j' := by simpa using hm
  subst ej
  refine ⟨k, i0, T, z, ?_, hT, hk, hz, hg, ?_⟩
  ·rw [valV_snoc _ _ _ _ nv, if_pos rfl]
  ·rw [List.take_append_of_le_length (Nat.le_refl _), List.take_length]
   exact hi
def spWa (C : Addr) : Sp := fun vs H Q _ => ∃ (x : Addr) (c : Nat -> Str) (sz : List Nat) (kbs : List Kb) (D n : Nat), vs = [.ref x, .int (D : Nat), .int (n : Nat)] /\ OrgAt C H x (bsOf c sz) (ksOf c kbs) /\ Kbs sz.length kbs /\ n < 2 ^ 1200 /\ (∀ i, n.testBit i = true -> i < sz.sum) /\
 ∀ W (kvs : List (Key × V)) (js : List Nat) H', H W = none -> Same H H' -> H' W = some (.dK kvs) -> kvs.map (·.1) = js.map kI -> js.Nodup -> Par H' (bsOf c sz) kbs D n kvs js -> (∀ j, j ∈ js ↔ Rch (stp (bsOf c sz) kbs D) (fun i => n.testBit i = true) j) -> Q (.ref W) H'
theorem scWa : FnScope ["organ", "knobs", "held", "couplers", "ways", "left", "ahead", "knob", "key"] ["organ", "knobs", "held"] (defScope sWa) := ⟨rfl, rfl, rfl, by decide +kernel, rfl, by decide +kernel, by decide +kernel⟩
include N T in
theorem ok_Wa : FnOk P w K mg base CX0 4 fWa dWa ["organ", "knobs", "held"] (spWa C) := by
 have GDc : FnOk P w K mg base CX0 2 fDc dDc ["organ", "knobs", "word"] (spDc C) := ok_Dc N T
 have GMe : FnOk P w K mg base CX0 2 fMe dMe ["some"] spMe := ok_Me N T
 have GLe : FnOk P w K mg base CX0 3 fLe dLe ["organ", "knob", "key"] (spLe C) := ok_Le N T
 have GHa : FnOk P w K mg base CX0 1 fHa dHa ["some", "number"] spHa := ok_Ha N T
 refine N.FWa.ok scWa (fun vs H Q E h => ?_) (fun cdv A outer s H vs Q E hr h => ?_)
 ·obtain ⟨x, c, sz, kbs, D, n, rfl, _⟩ := h
  rfl
 ·obtain ⟨x, c, sz, kbs, D, n, rfl, O, hkb, hn, hnt, q⟩ := h
  have hrDc : Room 2 _ := hr.mono (by decide)
  have hrMe : Room 2 _ := hr.mono (by decide)
  have hrLe : Room 3 _ := hr.mono (by decide)
  have hrHa : Room 1 _ := hr.mono (by decide)
  have hu := hu_of hr
  refine ⟨_, (pss_cons (ps_set (i := 3) scWa.nd rfl (Or.inl rfl) (pe_call GDc hrDc rfl N.mDc N.FDc.kp N.bDc .nil pass0 (pa_cons (pv 0) (pa_cons (pv 1) (pa_cons pe_str pa_nil)))))
   (pss_cons (ps_set (i := 4) scWa.nd rfl (Or.inl rfl) pe_dnewK)
   (pss_cons (ps_set (i := 5) scWa.nd rfl (Or.inl rfl) (pe_call GMe hrMe rfl N.mMe N.FMe.kp N.bMe .nil pass0 (pa_cons (pv 2) pa_nil)))
   (pss_cons (ps_while PassesOwn.never (pt_truth (pv 5) (fun _ => rfl)) (pss_cons (ps_set (i := 6) scWa.nd rfl (Or.inl rfl) (pe_bm PySem.F.plainAttrs_list PySem.F.slot_list_pop PySem.F.type_list_pop mt_popAt (pv 5) (pa_cons pe_int pa_nil)))
   (pss_one (ps_for PassesOwn.never rfl (pi_list (pv 3)) (pg_name (i := 7) scWa.nd rfl (Or.inl rfl)) (pss_cons (ps_set (i := 8) scWa.nd rfl (Or.inl rfl) (pe_call GLe hrLe rfl N.mLe N.FLe.kp N.bLe .nil pass0 (pa_cons (pv 0) (pa_cons (pv 7) (pa_cons (pv 6) pa_nil)))))
   (pss_one (ps_if (PW.pt (pw_and (pt_cmpR op_notN (pv 8) pe_non (nomark _)) (pw_and1 (pt_cmp (pc_dnotin hu (pv 8) (pv 4)))))) (pss_cons (ps_dput hu (pv 4) (pv 8) (pe_tup (pa_cons (pv 7) (pa_cons (pv 6) pa_nil))) rfl)
   (pss_one (ps_if (pt_not (pt_val (pe_call GHa hrHa rfl N.mHa N.FHa.kp N.bHa .nil pass0 (pa_cons (pv 2) (pa_cons (pv 8) pa_nil))))) (pss_one (ps_expr (pe_bm PySem.F.plainAttrs_list PySem.F.slot_list_append PySem.F.type_list_append mt_append (pv 5) (pa_cons (pv 8) pa_nil)))) pss_nil))) pss_nil)))))))
   (pss_one (ps_ret (pv 4))))))), ?_⟩
  have hsum : ((bsOf c sz).map (·.2)).sum = sz.sum := by rw [bsOf_szs]
  generalize hst : stp (bsOf c sz) kbs D = st
  have hR : ∀ {j}, Rch st (fun i => n.testBit i = true) j -> j < sz.sum := fun {j} r => by
   rw [← hst] at r
   have := r.lt
   rw [hsum] at this
   exact this
  refine ⟨_, rfl, _, rfl, x, bsOf c sz, ksOf c kbs, "coupler", D, rfl, O, fun CL cl H1 hCL s1 hl1 hcl0 hcll => ?_⟩
  have hcl : ∀ k, k ∈ cl ↔ ∃ z, kbs[k]? = some z /\ isCp z = true /\ D.testBit k = true := fun k => by
   rw [hcl0]
   constructor
   ·rintro ⟨r, hr, hw, hd⟩
    obtain ⟨z, hz, rfl⟩ := ksOf_get' hr
    rw [kRow_w] at hw
    exact ⟨z, hz, decide_eq_true (congrArg V.str hw), hd⟩
   ·rintro ⟨z, hz, hc, hd⟩
    exact ⟨_, ksOf_get hz, (kRow_w _ _ _).trans (V.str.inj (of_decide_eq_true hc)), hd⟩
  intro W hW
  have t2 := same_upd (o := HO.dK []) hW
  have u2 : upd H1 W (HO.dK []) W = some (.dK []) := upd_same
  generalize upd H1 W (HO.dK []) = H2 at t2 u2 ⊢
  refine ⟨_, rfl, n, rfl, hn, fun L H3 hL s3 hl3 => ?_⟩
  have s13 := t2.trans s3
  have s03 := s1.trans s13
  have hW0 : H W = none := s1.free hW
  have hL0 : H L = none := (s1.trans t2).free hL
  have hWL : W ≠ L := fun z => by rw [← z, s3 _ _ u2] at hl3; cases hl3
  have c3 := s13 _ _ hl1
  have hS3 : SqL K H3 CL (nV cl) := .inl (.inl c3)
  have hCW : CL ≠ W := fun z => by rw [z, s3 _ _ u2] at c3; cases c3
  have hCL' : CL ≠ L := fun z => by rw [z] at hl1; rw [t2 _ _ hl1] at hL; cases hL
  show gName 5 _ _ _ _
  rw [gName_eq]
  refine go_while ?_
  refine while_by (fun σ H4 => Same H H4 /\ H4 CL = some (.lst (nV cl)) /\ ∃ (kvs : List (Key × V)) (js ls : List Nat), H4 W = some (.dK kvs) /\ H4 L = some (.lst (nV ls)) /\ kvs.map (·.1) = js.map kI /\ js.Nodup /\ Par H4 (bsOf c sz) kbs D n kvs js /\ (∀ j ∈ js, Rch st (fun i => n.testBit i = true) j) /\ (∀ i ∈ ls, n.testBit i = true \/ i ∈ js) /\ (∀ i, (n.testBit i = true \/ i ∈ js) -> i ∈ ls \/ ∀ j, st i j -> j ∈ js) /\ ls.length + (sz.sum - js.length) <= 1600 /\ ∃ v6 v7 v8, σ = [some (.ref x), some (.int (D : Nat)), some (.int (n : Nat)), some (.ref CL), some (.ref W), some (.ref L), v6, v7, v8])
   (fun _ H4 => lenL (H4 L) + (sz.sum - lenD (H4 W))) ⟨s03, c3, [], [], Wd.mem n, s3 _ _ u2, hl3, rfl, List.nodup_nil, (fun m j hm => by simp at hm), (fun j hj => nomatch hj), (fun i hi => .inl (Wd.mem_iff.mp hi)), (fun i hi => .inl (Wd.mem_iff.mpr (hi.resolve_right (by simp)))), ?_, _, _, _, rfl⟩ ?_ ?_
  ·have := Wd.len_le hn
   have : (Wd.mem n).length <= Wd.len n := by unfold Wd.mem; exact Nat.le_trans (List.length_filter_le _ _) (by simp)
   have h305 := plc_305 O
   rw [hsum] at h305
   simp
   omega
  ·rintro σ H4 ⟨s4, c4, kvs, js, ls, hw, hl, hkv, nd, hpar, hj, hls, hcl4, hbig, v6, v7, v8, rfl⟩
   refine ⟨_, rfl, _, .inl ⟨_, .inl (.inl hl), rfl⟩, ?_⟩
   have hjl : js.length <= sz.sum := nodup_len sz.sum nd fun j h => hR (hj j h)
   have hkl : kvs.length = js.length := by have := congrArg List.length hkv; simpa using this
   cases ls with
   | nil =>
    refine iteF ?_
    refine ⟨_, rfl, q W kvs js H4 hW0 s4 hw hkv nd hpar fun j => ?_⟩
    rw [hst]
    exact Rch.all (W := fun j => j ∈ js) hj (fun i hi => (hcl4 i hi).resolve_left (by simp)) j
   | cons i0 ls =>
    refine iteT ?_
    refine ⟨_, rfl, .inl ⟨rfl, _, .inl (.inl hl)⟩, L, _, 0, 0, .int (i0 : Nat), rfl, rfl, hl, by decide, by decide, seqIndex_of (by decide) (by simp), rfl, ?_⟩
    have w5 : upd H4 L (.lst ((nV (i0 :: ls)).eraseIdx 0)) W = some (.dK kvs) := by rw [upd_ne hWL]; exact hw
    have l5 : upd H4 L (.lst ((nV (i0 :: ls)).eraseIdx 0)) L = some (.lst (nV ls)) := upd_same
    have c5 : upd H4 L (.lst ((nV (i0 :: ls)).eraseIdx 0)) CL = some (.lst (nV cl)) := by rw [upd_ne hCL']; exact c4
    have s5 : Same H (upd H4 L (.lst ((nV (i0 :: ls)).eraseIdx 0))) := fun b o e => by rw [upd_ne (ne_of_none e hL0)]; exact s4 _ _ e
    have em : lenL (H4 L) + (sz.sum - lenD (H4 W)) = ls.length + 1 + (sz.sum - js.length) := by
     rw [hl, hw]
     show (nV (i0 :: ls)).length + (sz.sum - kvs.length) = _
     rw [hkl]
     simp
    rw [em]
    have par5 : Par (upd H4 L (.lst ((nV (i0 :: ls)).eraseIdx 0))) (bsOf c sz) kbs D n kvs js := hpar.upd hl (fun xs z => by cases z)
    generalize upd H4 L (.lst ((nV (i0 :: ls)).eraseIdx 0)) = H5 at w5 l5 c5 s5 par5 ⊢
    have hi0 : i0 < sz.sum := by
     rcases hls i0 (List.mem_cons_self ..) with h | h
     ·exact hnt i0 h
     ·exact hR (hj i0 h)
    have hi0R : ∀ j, st i0 j -> Rch st (fun i => n.testBit i = true) j := fun j h => by
     rcases hls i0 (List.mem_cons_self ..) with g | g
     ·exact .one g h
     ·exact .more (hj i0 g) h
    obtain ⟨qd, hq⟩ : ∃ qd, (plc (bsOf c sz))[i0]? = some qd := ⟨_, List.getElem?_eq_getElem (by rw [plc_sum, hsum]; exact hi0)⟩
    have M : ls.length + (sz.sum - js.length) < ls.length + 1 + (sz.sum - js.length) := by omega
    refine ⟨_, rfl, CL, rfl, ⟨_, .inl (.inl c5)⟩, for_list (K := K) (a := CL) (xs := nV cl) (fun m σ H6 => Same H H6 /\ H6 CL = some (.lst (nV cl)) /\ ∃ (kvs6 : List (Key × V)) (js6 ls6 : List Nat), H6 W = some (.dK kvs6) /\ H6 L = some (.lst (nV ls6)) /\ kvs6.map (·.1) = js6.map kI /\ js6.Nodup /\ Par H6 (bsOf c sz) kbs D n kvs6 js6 /\ (∀ j ∈ js6, Rch st (fun i => n.testBit i = true) j) /\ (∀ i ∈ ls6, n.testBit i = true \/ i ∈ js6) /\ (∀ i, (n.testBit i = true \/ i ∈ js6) -> i = i0 \/ i ∈ ls6 \/ ∀ j, st i j -> j ∈ js6) /\ (∀ k ∈ cl.take m, ∀ z j, kbs[k]? = some z -> gl (bsOf c sz) z i0 = some j -> j ∈ js6) /\ (n.testBit i0 = true \/ i0 ∈ js6) /\ ls6.length + (sz.sum - js6.length) <= ls.length + (sz.sum - js.length) /\ ∃ v7 v8, σ = [some (.ref x), some (.int (D : Nat)), some (.int (n : Nat)), some (.ref CL), some (.ref W), some (.ref L), some (.int (i0 : Nat)), v7, v8])
     ⟨s5, c5, kvs, js, ls, w5, l5, hkv, nd, par5, hj, (fun i hi => hls i (List.mem_cons_of_mem _ hi)), (fun i hi => ?_), (fun k hk => by simp at hk), hls i0 (List.mem_cons_self ..), Nat.le_refl _, _, _, rfl⟩ (fun m σ H6 _ h => .inl (.inl h.2.1)) ?_ ?_⟩
    ·rcases hcl4 i hi with h | h
     ·rcases List.mem_cons.mp h with rfl | h
      ·exact .inl rfl
      ·exact .inr (.inl h)
     ·exact .inr (.inr h)
    ·rintro m y σ H6 hm ⟨s6, c6, kvs6, js6, ls6, w6, l6, kv6, nd6, par6, hj6, hls6, hcl6, hdone, hi06, hmeas, v7, v8, rfl⟩
     rw [List.getElem?_map] at hm
     obtain ⟨k, hk, rfl⟩ := Option.map_eq_some_iff.mp hm
     obtain ⟨z, hz, hzc, hzd⟩ := (hcl k).mp (List.mem_of_getElem? hk)
     have zok := hkb.ok z (List.mem_of_getElem? hz)
     obtain ⟨j1, j2, s0, rfl⟩ := isCp_cp zok hzc
     obtain ⟨hj1, hj2, _, _⟩ := zok
     have hbj1 : (bsOf c sz)[j1]? = some (c j1, sz[j1]) := bsOf_get (List.getElem?_eq_getElem hj1)
     have hbj2 : (bsOf c sz)[j2]? = some (c j2, sz[j2]) := bsOf_get (List.getElem?_eq_getElem hj2)
     have hkrow : (ksOf c kbs)[k]? = some ⟨"coupler", c (30 + k), [.str (c j1), .str (c j2), .int s0]⟩ := ksOf_get hz
     have hjl6 : js6.length <= sz.sum := nodup_len sz.sum nd6 fun j h => hR (hj6 j h)
     have hkl6 : kvs6.length = js6.length := by have := congrArg List.length kv6; simpa using this
     have h305 := plc_305 O
     rw [hsum] at h305
     refine ⟨_, rfl, _, rfl, _, rfl, x, bsOf c sz, ksOf c kbs, k, i0, j1, j2, (c j1, sz[j1]), (c j2, sz[j2]), qd, c (30 + k), s0, rfl, O.mono s6, hq, hkrow, hbj1, hbj2, fun H7 s7 => ?_⟩
     have done' : ∀ {js' : List Nat}, (∀ j ∈ js6, j ∈ js') -> (∀ j, gl (bsOf c sz) (.cp j1 j2 s0) i0 = some j -> j ∈ js') -> ∀ k' ∈ cl.take (m + 1), ∀ z j, kbs[k']? = some z -> gl (bsOf c sz) z i0 = some j -> j ∈ js' := fun {js'} hsub hnew k' hk' z' j hz' hg => by
      rw [List.take_add_one, hk] at hk'
      rcases List.mem_append.mp hk' with h | h
      ·exact hsub j (hdone k' h z' j hz' hg)
      ·have : k' = k := by simpa using h
       subst this
       rw [hz] at hz'
       cases hz'
       exact hnew j hg
     rcases led_gl (j1 := j1) (s := s0) hq hbj2 with ⟨e, eg⟩ | ⟨j, e, eg, hjt⟩
     ·rw [e]
      refine ⟨_, rfl, rfl, _, rfl, iteF (iteF ?_)⟩
      exact ⟨s6.trans s7, s7 _ _ c6, kvs6, js6, ls6, s7 _ _ w6, s7 _ _ l6, kv6, nd6, par6.mono s7, hj6, hls6, hcl6, done' (fun j h => h) (fun j h => by rw [eg] at h; cases h), hi06, hmeas, _, _, rfl⟩
     ·rw [e]
      have hstj : st i0 j := by rw [← hst]; exact ⟨k, _, hzd, hz, eg⟩
      refine ⟨_, rfl, rfl, _, rfl, iteT ?_⟩
      refine ⟨_, rfl, _, rfl, W, _, rfl, DGet.k (k := kI j) (s7 _ _ w6), _, rfl, ?_⟩
      rw [val_in kv6 j]
      by_cases hin : j ∈ js6
      ·rw [decide_eq_true hin]
       refine iteF ?_
       exact ⟨s6.trans s7, s7 _ _ c6, kvs6, js6, ls6, s7 _ _ w6, s7 _ _ l6, kv6, nd6, par6.mono s7, hj6, hls6, hcl6, done' (fun j h => h) (fun j' h => by rw [eg] at h; cases h; exact hin), hi06, hmeas, _, _, rfl⟩
      ·rw [decide_eq_false hin]
       refine iteT ?_
       have nv : valV kvs6 (kI j) = none := by
        have := val_in kv6 j
        rw [decide_eq_false hin] at this
        exact Option.not_isSome_iff_eq_none.mp (by rw [this]; decide)
       have nd7 : (js6 ++ [j]).Nodup := List.nodup_append.mpr ⟨nd6, by simp, fun a ha b hb => by rw [List.mem_singleton.mp hb]; intro z; exact hin (z ▸ ha)⟩
       have hj7 : ∀ j' ∈ js6 ++ [j], Rch st (fun i => n.testBit i = true) j' := fun j' h => by
        rcases List.mem_append.mp h with h | h
        ·exact hj6 j' h
        ·rw [List.mem_singleton.mp h]
         exact hi0R j hstj
       have hjl7 : (js6 ++ [j]).length <= sz.sum := nodup_len sz.sum nd7 fun j h => hR (hj7 j h)
       rw [List.length_append, List.length_singleton] at hjl7
       refine ⟨_, rfl, _, rfl, by show 2 <= sizeLine; decide, fun T8 hT8 => ?_⟩
       have t8 := same_upd (o := HO.tup [V.int (k : Nat), V.int (i0 : Nat)]) hT8
       have uT8 : upd H7 T8 (HO.tup [V.int (k : Nat), V.int (i0 : Nat)]) T8 = some (.tup [V.int (k : Nat), V.int (i0 : Nat)]) := upd_same
       generalize upd H7 T8 (HO.tup [V.int (k : Nat), V.int (i0 : Nat)]) = H8 at t8 uT8 ⊢
       have w8 := t8 _ _ (s7 _ _ w6)
       refine ⟨_, rfl, _, rfl, W, _, rfl, DPut.k (k := kI j) w8 (small1000 (by omega)), ?_⟩
       have u9 : upd H8 W (.dK (putK kvs6 (kI j) (.ref T8))) W = some (.dK (kvs6 ++ [(kI j, .ref T8)])) := by rw [← putK_new _ nv]; exact upd_same
       have l9 : upd H8 W (.dK (putK kvs6 (kI j) (.ref T8))) L = some (.lst (nV ls6)) := by rw [upd_ne hWL.symm]; exact t8 _ _ (s7 _ _ l6)
       have c9 : upd H8 W (.dK (putK kvs6 (kI j) (.ref T8))) CL = some (.lst (nV cl)) := by rw [upd_ne hCW]; exact t8 _ _ (s7 _ _ c6)
       have s9 : Same H (upd H8 W (.dK (putK kvs6 (kI j) (.ref T8)))) := fun b o e => by rw [upd_ne (ne_of_none e hW0)]; exact t8 _ _ (s7 _ _ (s6 _ _ e))
       have par9 : Par (upd H8 W (.dK (putK kvs6 (kI j) (.ref T8)))) (bsOf c sz) kbs D n (kvs6 ++ [(kI j, .ref T8)]) (js6 ++ [j]) := by
        have p8 := ((par6.mono s7).mono t8).upd (o := .dK (putK kvs6 (kI j) (.ref T8))) w8 (fun xs z => by cases z)
        exact p8.snoc nv (by rw [upd_ne (fun z => by rw [z, w8] at uT8; cases uT8)]; exact uT8) hzd hz eg hi06
       generalize upd H8 W (.dK (putK kvs6 (kI j) (.ref T8))) = H9 at u9 l9 c9 s9 par9 ⊢
       have kv9 : (kvs6 ++ [(kI j, V.ref T8)]).map (·.1) = (js6 ++ [j]).map kI := by rw [List.map_append, List.map_append, kv6]; rfl
       refine ⟨_, rfl, _, rfl, n, _, rfl, _, rfl, ?_⟩
       have eb : (decide ((0 : Int) <= (j : Nat)) && n.testBit ((j : Nat) : Int).toNat) = n.testBit j := by rw [decide_eq_true (by omega), Bool.true_and, Int.toNat_natCast]
       rw [eb]
       cases hb : n.testBit j with
       | true =>
        refine iteF ?_
        refine ⟨s9, c9, _, js6 ++ [j], ls6, u9, l9, kv9, nd7, par9, hj7, (fun i h => (hls6 i h).imp id (List.mem_append_left _)), (fun i h => ?_), done' (fun j h => List.mem_append_left _ h) (fun j' h => by rw [eg] at h; cases h; simp), hi06.imp id (List.mem_append_left _), ?_, _, _, rfl⟩
        ·have h' : n.testBit i = true \/ i ∈ js6 := by
          rcases h with h | h
          ·exact .inl h
          ·rcases List.mem_append.mp h with h | h
           ·exact .inr h
           ·rw [List.mem_singleton.mp h]
            exact .inl hb
         rcases hcl6 i h' with g | g | g
         ·exact .inl g
         ·exact .inr (.inl g)
         ·exact .inr (.inr fun j' hj' => List.mem_append_left _ (g j' hj'))
        ·rw [List.length_append, List.length_singleton]
         omega
       | false =>
        refine iteT ?_
        refine ⟨_, rfl, .inl ⟨rfl, _, .inl (.inl l9)⟩, _, rfl, L, _, _, rfl, rfl, l9, line20' (by simp only [List.length_cons] at hbig; rw [List.length_map]; omega), ?_⟩
        have l10 : upd H9 L (.lst (nV ls6 ++ [V.int (j : Nat)])) L = some (.lst (nV (ls6 ++ [j]))) := by
         have e9 : nV (ls6 ++ [j]) = nV ls6 ++ [V.int (j : Nat)] := List.map_append
         rw [e9]
         exact upd_same
        have w10 : upd H9 L (.lst (nV ls6 ++ [V.int (j : Nat)])) W = some (.dK (kvs6 ++ [(kI j, .ref T8)])) := by rw [upd_ne hWL]; exact u9
        have c10 : upd H9 L (.lst (nV ls6 ++ [V.int (j : Nat)])) CL = some (.lst (nV cl)) := by rw [upd_ne hCL']; exact c9
        have s10 : Same H (upd H9 L (.lst (nV ls6 ++ [V.int (j : Nat)]))) := fun b o e => by rw [upd_ne (ne_of_none e hL0)]; exact s9 _ _ e
        refine ⟨s10, c10, _, js6 ++ [j], ls6 ++ [j], w10, l10, kv9, nd7, par9.upd l9 (fun xs z => by cases z), hj7, (fun i h => ?_), (fun i h => ?_), done' (fun j h => List.mem_append_left _ h) (fun j' h => by rw [eg] at h; cases h; simp), hi06.imp id (List.mem_append_left _), ?_, _, _, rfl⟩
        ·rcases List.mem_append.mp h with h | h
         ·exact (hls6 i h).imp id (List.mem_append_left _)
         ·exact .inr (List.mem_append_right _ h)
        ·have h' : (n.testBit i = true \/ i ∈ js6) \/ i = j := by
          rcases h with h | h
          ·exact .inl (.inl h)
          ·rcases List.mem_append.mp h with h | h
           ·exact .inl (.inr h)
           ·exact .inr (List.mem_singleton.mp h)
         rcases h' with h' | rfl
         ·rcases hcl6 i h' with g | g | g
          ·exact .inl g
          ·exact .inr (.inl (List.mem_append_left _ g))
          ·exact .inr (.inr fun j' hj' => List.mem_append_left _ (g j' hj'))
         ·exact .inr (.inl (by simp))
        ·rw [List.length_append, List.length_append, List.length_singleton]
         omega
    ·rintro σ H6 ⟨s6, c6, kvs6, js6, ls6, w6, l6, kv6, nd6, par6, hj6, hls6, hcl6, hdone, hi06, hmeas, v7, v8, rfl⟩
     have hkl6 : kvs6.length = js6.length := by have := congrArg List.length kv6; simpa using this
     refine ⟨⟨s6, c6, kvs6, js6, ls6, w6, l6, kv6, nd6, par6, hj6, hls6, (fun i hi => ?_), by simp only [List.length_cons] at hbig; omega, _, _, _, rfl⟩, ?_⟩
     ·rcases hcl6 i hi with rfl | g | g
      ·refine .inr fun j hij => ?_
       rw [← hst] at hij
       obtain ⟨k, z, hkd, hkz, hg⟩ := hij
       refine hdone k ?_ z j hkz hg
       rw [List.take_of_length_le (by simp)]
       exact (hcl k).mpr ⟨z, hkz, gl_cp hg, hkd⟩
      ·exact .inl g
      ·exact .inr g
     ·show lenL (H6 L) + (sz.sum - lenD (H6 W)) < _
      rw [l6, w6]
      show (nV ls6).length + (sz.sum - kvs6.length) < _
      rw [List.length_map, hkl6]
      omega
  ·rintro σ H' Q1 Q2 hm ⟨v, hv, k, hk, h⟩
   exact ⟨v, hv, k, hk, hm _ _ h⟩
def spCq (C : Addr) : Sp := fun vs H Q _ => ∃ (x : Addr) (c : Nat -> Str) (sz : List Nat) (kbs : List Kb) (D n : Nat), vs = [.ref x, .int (D : Nat), .int (n : Nat)] /\ OrgAt C H x (bsOf c sz) (ksOf c kbs) /\ Kbs sz.length kbs /\ n < 2 ^ 1200 /\ (∀ i, n.testBit i = true -> i < sz.sum) /\
 ∀ (m : Nat) H', Same H H' -> (∀ j, m.testBit j = true ↔ Rch (stp (bsOf c sz) kbs D) (fun i => n.testBit i = true) j) -> Q (.int (m : Nat)) H'
theorem mv_same {n T : Nat} (h : ∀ i, n.testBit i = true -> i < T) : Wd.mv n 0 T = n := by
 refine nat_ext fun i => ?_
 rw [Wd.mv_bit]
 simp
 intro hi
 exact h i hi
theorem scCq : FnScope ["organ", "knobs", "held"] ["organ", "knobs", "held"] (defScope sCq) := ⟨rfl, rfl, rfl, by decide +kernel, rfl, by decide +kernel, by decide +kernel⟩
include N T in
theorem ok_Cq : FnOk P w K mg base CX0 5 fCq dCq ["organ", "knobs", "held"] (spCq C) := by
 have GSt : FnOk P w K mg base CX0 3 fSt dSt ["numbers"] spSt := ok_St N T
 have GWa : FnOk P w K mg base CX0 4 fWa dWa ["organ", "knobs", "held"] (spWa C) := ok_Wa N T
 have GHk : FnOk P w K mg base CX0 2 fHk dHk ["organ", "held"] (spHk C) := ok_Hk N T
 refine N.FCq.ok scCq (fun vs H Q E h => ?_) (fun cdv A outer s H vs Q E hr h => ?_)
 ·obtain ⟨x, c, sz, kbs, D, n, rfl, _⟩ := h
  rfl
 ·obtain ⟨x, c, sz, kbs, D, n, rfl, O, hkb, hn, hnt, q⟩ := h
  have hrSt : Room 3 _ := hr.mono (by decide)
  have hrWa : Room 4 _ := hr.mono (by decide)
  have hrHk : Room 2 _ := hr.mono (by decide)
  refine ⟨_, (pss_one (ps_ret (pe_call GSt hrSt rfl N.mSt N.FSt.kp N.bSt .nil pass0 (pa_cons (pe_callTy (call_list_dict rfl) rfl T.list PyProof.Rows.boot_list (pa_cons (pe_call GWa hrWa rfl N.mWa N.FWa.kp N.bWa .nil pass0 (pa_cons (pv 0) (pa_cons (pv 1) (pa_cons (pe_call GHk hrHk rfl N.mHk N.FHk.kp N.bHk .nil pass0 (pa_cons (pv 0) (pa_cons (pv 2) pa_nil))) pa_nil)))) pa_nil)) pa_nil)))), ?_⟩
  have hsum : ((bsOf c sz).map (·.2)).sum = sz.sum := by rw [bsOf_szs]
  have h305 := plc_305 O
  rw [hsum] at h305
  refine ⟨_, rfl, _, rfl, _, rfl, _, rfl, x, bsOf c sz, ksOf c kbs, n, rfl, O, hn, ?_⟩
  rw [hsum, mv_same hnt]
  refine ⟨x, c, sz, kbs, D, n, rfl, O, hkb, hn, hnt, fun W kvs js H1 hW s1 hw hkv nd _ hj => ?_⟩
  have hlt : ∀ j ∈ js, j < sz.sum := fun j h => by
   have := ((hj j).mp h).lt
   rw [hsum] at this
   exact this
  have hjl := nodup_len sz.sum nd hlt
  have hkv' : kvs.map (·.1) = (js.map fun j : Nat => (j : Int)).map Sum.inl := by rw [hkv, List.map_map]; rfl
  refine ⟨W, kvs, _, rfl, hw, hkv', fun l hl => ?_⟩
  have ev : (js.map fun j : Nat => (j : Int)).map V.int = nV js := by rw [List.map_map]; rfl
  rw [ev]
  refine ⟨l, js, rfl, upd_same, by omega, fun j h => by have := hlt j h; omega, fun H2 s2 => ?_⟩
  refine q (Wd.mk js) H2 ((s1.trans (same_upd hl)).trans s2) fun j => ?_
  rw [Wd.mk_bit, decide_eq_true_eq]
  exact hj j
def spBi : Sp := fun vs H Q _ => ∃ (p : Addr) (l : List Nat), vs = [.ref p] /\ H p = some (.lst (nV l)) /\ l.length <= 500 /\ (∀ n ∈ l, n < 1200) /\ Q (.int (Wd.mk l : Nat)) H
theorem scBi : FnScope ["_law_numbers", "_law_found", "_law_number"] ["_law_numbers"] (defScope sBi) := ⟨rfl, rfl, rfl, by decide +kernel, rfl, by decide +kernel, by decide +kernel⟩
include N T in
theorem ok_Bi : FnOk P w K mg base CX0 1 fBi dBi ["_law_numbers"] spBi := by
 refine N.FBi.ok scBi (fun vs H Q E h => ?_) (fun cdv A outer s H vs Q E hr h => ?_)
 ·obtain ⟨p, l, rfl, _⟩ := h
  rfl
 ·obtain ⟨p, l, rfl, hp, hz, hb, q⟩ := h
  refine ⟨_, (pss_cons (ps_set (i := 1) scBi.nd rfl (Or.inl rfl) pe_int)
   (pss_cons (ps_for PassesOwn.never rfl (pi_list (pv 0)) (pg_name (i := 2) scBi.nd rfl (Or.inl rfl)) (pss_one (ps_set (i := 1) scBi.nd rfl (Or.inl rfl) (pe_op op_or (pv 1) (pe_op op_shl pe_int (pv 2))))))
   (pss_one (ps_ret (pv 1))))), ?_⟩
  have hS : SqL K H p (nV l) := .inl (.inl hp)
  refine ⟨_, rfl, p, rfl, ⟨_, hS⟩, for_list (K := K) (a := p) (xs := nV l) (fun i σ H4 => H4 = H /\ ∃ v2, σ = [some (.ref p), some (.int (Wd.mk (l.take i) : Nat)), v2]) ⟨rfl, _, rfl⟩ (fun i σ H4 _ h => by rw [h.1]; exact hS) ?_ ?_⟩
  ·rintro i y σ H4 hi ⟨rfl, v2, rfl⟩
   rw [List.getElem?_map] at hi
   obtain ⟨n, hn, rfl⟩ := Option.map_eq_some_iff.mp hi
   have hn' := hb n (List.mem_of_getElem? hn)
   refine ⟨_, rfl, _, rfl, _, _, rfl, rfl, ⟨by omega, by omega, by decide⟩, _, _, rfl, rfl, ?_⟩
   refine ⟨rfl, some (.int (n : Int)), ?_⟩
   dsimp only
   rw [mk_or, List.take_add_one, hn]
   rfl
  ·rintro σ H4 ⟨rfl, v2, rfl⟩
   have el : l.take (nV l).length = l := List.take_of_length_le (by simp)
   rw [el]
   exact ⟨_, rfl, q⟩
theorem op_notIn_seqK {X : Cx} {K : PySem.W.Frag} (h : X.K = K) : OpR X (compareOp .NotIn) (rIn K true) := h ▸ op_notIn_seq
theorem nV_flat' (l : List Nat) : (nV l).all flatV = true := List.all_eq_true.mpr fun v hv => by
 obtain ⟨n, _, rfl⟩ := List.mem_map.mp hv
 rfl
theorem inV_nat (j : Nat) (js : List Nat) : inV (.int (j : Nat)) (nV js) = decide (j ∈ js) := by
 rw [Bool.eq_iff_iff, decide_eq_true_eq]
 unfold inV
 rw [List.any_eq_true]
 constructor
 ·rintro ⟨y, hy, e⟩
  obtain ⟨n, hn, rfl⟩ := List.mem_map.mp hy
  have e' : (((n : Nat) : Int) == ((j : Nat) : Int)) = true := e
  have e2 : ((n : Nat) : Int) = (j : Nat) := eq_of_beq e'
  have : n = j := by omega
  subst this
  exact hn
 ·intro h
  exact ⟨_, List.mem_map_of_mem h, by show (((j : Nat) : Int) == ((j : Nat) : Int)) = true; exact beq_self_eq_true _⟩
theorem scOm : FnScope ["self", "knob"] ["self", "knob"] (defScope sOm) := ⟨rfl, rfl, rfl, by decide +kernel, rfl, by decide +kernel, by decide +kernel⟩
include N T in
theorem ok_Om : FnOk P w K mg base CX0 2 fOm dOm ["self", "knob"] (spBk C) := by
 have GBk : FnOk P w K mg base CX0 1 fBk dBk ["self", "knob"] (spBk C) := ok_Bk N T
 refine N.FOm.ok scOm (fun vs H Q E h => ?_) (fun cdv A outer s H vs Q E hr h => ?_)
 ·obtain ⟨x, bs, ks, k, j1, b1, wd, nm, rs, rfl, _⟩ := h
  rfl
 ·obtain ⟨x, bs, ks, k, j1, b1, wd, nm, rs, rfl, O, hk, hb1, q⟩ := h
  have hrBk : Room 1 _ := hr.mono (by decide)
  refine ⟨_, (pss_one (ps_ret (pe_meth (pv 0) T.cl N.tBk GBk hrBk N.bBk .nil pass0 (pa_cons (pv 1) pa_nil)))), ?_⟩
  obtain ⟨⟨dx, fs, bl, bn, kp, kr, bvs, pvs, uvs, kvs, h1, l1, l2, l3, l4, lm, h2, h3, h4, h5, h6, h7, h8, h9⟩, ob5, osz, onk⟩ := id O
  exact ⟨_, rfl, x, dx, fs, rfl, h1, lm _ (by decide +kernel), _, rfl, x, bs, ks, k, j1, b1, wd, nm, rs, rfl, O, hk, hb1, q⟩
def spOs (C : Addr) : Sp := fun vs H Q _ => ∃ (x : Addr) (bs : List (Str × Nat)) (rk : List (Str × Nat × Int)) (ks : List R) (ls : List (List Ln)) (k j1 : Nat) (b1 : Str × Nat) (wd nm : Str) (rs : List V) (l : List Ln), vs = [.ref x, .int (k : Nat)] /\ OrgAt2 C H x bs rk ks ls /\ ks[k]? = some ⟨wd, nm, .str b1.1 :: rs⟩ /\ bs[j1]? = some b1 /\ ls[k]? = some l /\
 ∀ (T0 L0 : Addr) (ts : List V) H', Same H H' -> H' T0 = some (.tup [.int (j1 : Nat), .ref L0]) -> H' L0 = some (.lst ts) -> Paired (fun x y => TupAt H' (lnV x) y) l ts -> Q (.ref T0) H'
theorem scOs : FnScope ["self", "knob"] ["self", "knob"] (defScope sOs) := ⟨rfl, rfl, rfl, by decide +kernel, rfl, by decide +kernel, by decide +kernel⟩
include N T in
theorem ok_Os : FnOk P w K mg base CX0 2 fOs dOs ["self", "knob"] (spOs C) := by
 have GBk : FnOk P w K mg base CX0 1 fBk dBk ["self", "knob"] (spBk C) := ok_Bk N T
 refine N.FOs.ok scOs (fun vs H Q E h => ?_) (fun cdv A outer s H vs Q E hr h => ?_)
 ·obtain ⟨x, bs, rk, ks, ls, k, j1, b1, wd, nm, rs, l, rfl, _⟩ := h
  rfl
 ·obtain ⟨x, bs, rk, ks, ls, k, j1, b1, wd, nm, rs, l, rfl, O, hk, hb1, hl, q⟩ := h
  have hrBk : Room 1 _ := hr.mono (by decide)
  refine ⟨_, (pss_one (ps_ret (pe_tup (pa_cons (pe_meth (pv 0) T.cl N.tBk GBk hrBk N.bBk .nil pass0 (pa_cons (pv 1) pa_nil)) (pa_cons (pe_callTy call_list_of rfl T.list PyProof.Rows.boot_list (pa_cons (pe_ix (ix_listK (K := K) rfl) (pe_fld (pv 0) rfl) (pv 1) (fun _ _ => rfl)) pa_nil)) pa_nil))))), ?_⟩
  obtain ⟨⟨dx, fs, bl, bn, kp, kr, bvs, pvs, uvs, kvs, h1, l1, l2, l3, l4, lm, h2, h3, h4, h5, h6, h7, h8, h9⟩, ob5, osz, onk⟩ := id O.o
  obtain ⟨dx', fs', rl, rn, pp, kl, rvs, qvs, kvs', g1, m1, m2, m3, m4, g2, g3, g4, g5, g6, g7, lv, g8, g9⟩ := id O.r
  obtain ⟨e1, e2⟩ : dx' = dx /\ fs' = fs := by rw [h1] at g1; cases g1; exact ⟨rfl, rfl⟩
  subst e1 e2
  obtain ⟨y, hy, A, ts, rfl, hA, htp⟩ := paired_get g9 hl
  refine ⟨_, rfl, x, _, _, rfl, h1, lm _ (by decide +kernel), _, rfl, x, bs, ks, k, j1, b1, wd, nm, rs, rfl, O.o, hk, hb1, ?_⟩
  refine ⟨_, rfl, x, C, _, _, _, rfl, h1, T.cl, T.n_knob_lines, m4, _, rfl, kl, lv, _, _, rfl, rfl, .inl (.inl g8), atI_nat hy, A, ts, rfl, .inl (.inl (.inl hA)), fun L0 hL0 => ?_⟩
  have t1 := same_upd (o := HO.lst ts) hL0
  have u1 : upd H L0 (HO.lst ts) L0 = some (.lst ts) := upd_same
  generalize upd H L0 (HO.lst ts) = H1 at t1 u1 ⊢
  refine ⟨by show 2 <= sizeLine; decide, fun T0 hT0 => ?_⟩
  have t2 := same_upd (o := HO.tup [.int (j1 : Nat), .ref L0]) hT0
  exact q T0 L0 ts _ (t1.trans t2) upd_same (t2 _ _ u1) (paired_mono (t1.trans t2) htp)
def spOr (C : Addr) : Sp := fun vs H Q _ => ∃ (x : Addr) (bs : List (Str × Nat)) (rk : List (Str × Nat × Int)) (ks : List R) (ls : List (List Ln)), vs = [.ref x] /\ OrgAt2 C H x bs rk ks ls /\ ∀ D rvs H', H D = none -> Same H H' -> H' D = some (.lst rvs) -> Paired (fun (a : Th) y => TupAt H' (tV a) y) (rk.map rk3) rvs -> Q (.ref D) H'
theorem scOr : FnScope ["self"] ["self"] (defScope sOr) := ⟨rfl, rfl, rfl, by decide +kernel, rfl, by decide +kernel, by decide +kernel⟩
include N T in
theorem ok_Or : FnOk P w K mg base CX0 1 fOr dOr ["self"] (spOr C) := by
 refine N.FOr.ok scOr (fun vs H Q E h => ?_) (fun cdv A outer s H vs Q E hr h => ?_)
 ·obtain ⟨x, bs, rk, ks, ls, rfl, _⟩ := h
  rfl
 ·obtain ⟨x, bs, rk, ks, ls, rfl, O, q⟩ := h
  refine ⟨_, (pss_one (ps_ret (pe_callTy call_list_of rfl T.list PyProof.Rows.boot_list (pa_cons (pe_fld (pv 0) rfl) pa_nil)))), ?_⟩
  obtain ⟨⟨dx, fs, bl, bn, kp, kr, bvs, pvs, uvs, kvs, h1, l1, l2, l3, l4, lm, h2, h3, h4, h5, h6, h7, h8, h9⟩, ob5, osz, onk⟩ := id O.o
  obtain ⟨dx', fs', rl, rn, pp, kl, rvs, qvs, kvs', g1, m1, m2, m3, m4, g2, g3, g4, g5, g6, g7, lv, g8, g9⟩ := id O.r
  obtain ⟨e1, e2⟩ : dx' = dx /\ fs' = fs := by rw [h1] at g1; cases g1; exact ⟨rfl, rfl⟩
  subst e1 e2
  exact ⟨_, rfl, x, C, _, _, _, rfl, h1, T.cl, T.n_rank_list, m1, rl, rvs, rfl, .inl (.inl (.inl g2)), fun l hl => q l rvs _ hl (same_upd hl) upd_same (paired_mono (same_upd hl) g3)⟩
def spOq (C : Addr) : Sp := fun vs H Q _ => ∃ (x : Addr) (bs : List (Str × Nat)) (rk : List (Str × Nat × Int)) (ks : List R) (ls : List (List Ln)), vs = [.ref x] /\ OrgAt2 C H x bs rk ks ls /\ Q (.int ((plc (rk.map rkN)).length : Nat)) H
theorem scOq : FnScope ["self"] ["self"] (defScope sOq) := ⟨rfl, rfl, rfl, by decide +kernel, rfl, by decide +kernel, by decide +kernel⟩
include N T in
theorem ok_Oq : FnOk P w K mg base CX0 1 fOq dOq ["self"] (spOq C) := by
 refine N.FOq.ok scOq (fun vs H Q E h => ?_) (fun cdv A outer s H vs Q E hr h => ?_)
 ·obtain ⟨x, bs, rk, ks, ls, rfl, _⟩ := h
  rfl
 ·obtain ⟨x, bs, rk, ks, ls, rfl, O, q⟩ := h
  refine ⟨_, (pss_one (ps_ret (pe_callB call_len_seq rfl T.len PySem.boot_len (pa_cons (pe_fld (pv 0) rfl) pa_nil)))), ?_⟩
  obtain ⟨⟨dx, fs, bl, bn, kp, kr, bvs, pvs, uvs, kvs, h1, l1, l2, l3, l4, lm, h2, h3, h4, h5, h6, h7, h8, h9⟩, ob5, osz, onk⟩ := id O.o
  obtain ⟨dx', fs', rl, rn, pp, kl, rvs, qvs, kvs', g1, m1, m2, m3, m4, g2, g3, g4, g5, g6, g7, lv, g8, g9⟩ := id O.r
  obtain ⟨e1, e2⟩ : dx' = dx /\ fs' = fs := by rw [h1] at g1; cases g1; exact ⟨rfl, rfl⟩
  subst e1 e2
  refine ⟨_, rfl, x, C, _, _, _, rfl, h1, T.cl, T.n_pipe_places, m3, pp, qvs, rfl, .inl (.inl (.inl g6)), ?_⟩
  rw [← g7.length]
  exact q
def spOe (C : Addr) : Sp := fun vs H Q _ => ∃ (x : Addr) (bs : List (Str × Nat)) (rk : List (Str × Nat × Int)) (ks : List R) (ls : List (List Ln)) (j : Nat) (r : Str × Nat × Int) (n : Int), vs = [.ref x, .str r.1, .int n] /\ OrgAt2 C H x bs rk ks ls /\ rk[j]? = some r /\ ∀ H', Same H H' -> Q (.int ((((rk.take j).map (fun r => r.2.1)).sum : Nat) + n)) H'
theorem scOe : FnScope ["self", "rank", "number"] ["self", "rank", "number"] (defScope sOe) := ⟨rfl, rfl, rfl, by decide +kernel, rfl, by decide +kernel, by decide +kernel⟩
include N T in
theorem ok_Oe : FnOk P w K mg base CX0 2 fOe dOe ["self", "rank", "number"] (spOe C) := by
 have GCa : FnOk P w K mg base CX0 1 fCa dCa ["things"] spCa := ok_Ca N T
 refine N.FOe.ok scOe (fun vs H Q E h => ?_) (fun cdv A outer s H vs Q E hr h => ?_)
 ·obtain ⟨x, bs, rk, ks, ls, j, r, n, rfl, _⟩ := h
  rfl
 ·obtain ⟨x, bs, rk, ks, ls, j, r, n, rfl, O, hb, q⟩ := h
  have hrCa : Room 1 _ := hr.mono (by decide)
  have hu := hu_of hr
  refine ⟨_, (pss_one (ps_ret (pe_op op_add (pe_call GCa hrCa rfl N.mCa N.FCa.kp N.bCa .nil pass0 (pa_cons (pe_slice sl_list (pe_fld (pv 0) rfl) po_none (po_some (pe_dget hu (pe_fld (pv 0) rfl) (pv 1) (fun _ _ => rfl)))) pa_nil)) (pv 2)))), ?_⟩
  obtain ⟨⟨dx, fs, bl, bn, kp, kr, bvs, pvs, uvs, kvs, h1, l1, l2, l3, l4, lm, h2, h3, h4, h5, h6, h7, h8, h9⟩, ob5, osz, onk⟩ := id O.o
  obtain ⟨dx', fs', rl, rn, pp, kl, rvs, qvs, kvs', g1, m1, m2, m3, m4, g2, g3, g4, g5, g6, g7, lv, g8, g9⟩ := id O.r
  obtain ⟨e1, e2⟩ : dx' = dx /\ fs' = fs := by rw [h1] at g1; cases g1; exact ⟨rfl, rfl⟩
  subst e1 e2
  have hj : j < rk.length := (List.getElem?_eq_some_iff.mp hb).1
  have hl := g3.length
  rw [List.length_map] at hl
  have g := DGet.k (k := Sum.inr r.1) g4
  rw [g5 j r hb] at g
  refine ⟨_, rfl, x, C, _, _, _, rfl, h1, T.cl, T.n_rank_list, m1, _, rfl, x, C, _, _, _, rfl, h1, T.cl, T.n_rank_numbers, m2, _, rfl, rn, _, rfl, g, _, rfl, rl, rvs, rfl, .inl (.inl g2), fun p6 hp6 => ?_⟩
  have s6 := same_upd (o := HO.lst (cutV rvs none (some (j : Int)))) hp6
  have a6 : upd H p6 (HO.lst (cutV rvs none (some (j : Int)))) p6 = _ := upd_same
  generalize upd H p6 (HO.lst (cutV rvs none (some (j : Int)))) = H6 at s6 a6 ⊢
  rw [cut_take rvs j (by omega)] at a6
  refine ⟨p6, (rk.map rk3).take j, rvs.take j, rfl, a6, paired_take (paired_mono s6 g3) j, (by rw [List.length_take, List.length_map]; have := O.nr; omega), (fun a ha => by obtain ⟨r', hr', rfl⟩ := List.mem_map.mp (List.mem_of_mem_take ha); exact Nat.le_trans (O.nz r' hr') (by decide)), fun H7 s7 => ?_⟩
  have e7 : (((rk.map rk3).take j).map fun a => a.2.1) = (rk.take j).map (fun r => r.2.1) := by
   rw [← List.map_take, List.map_map]
   rfl
  rw [e7]
  exact ⟨_, rfl, _, _, rfl, rfl, q H7 (s6.trans s7)⟩
def orL (l : List Nat) : Nat := l.foldl (· ||| ·) 0
theorem orL_snoc (l : List Nat) (n : Nat) : orL (l ++ [n]) = orL l ||| n := by
 unfold orL
 rw [List.foldl_append]
 rfl
theorem orL_bit : ∀ (l : List Nat) (i : Nat), (orL l).testBit i = true ↔ ∃ n ∈ l, n.testBit i = true := by
 have key : ∀ (k : Nat) (l : List Nat) (i : Nat), l.length = k -> ((orL l).testBit i = true ↔ ∃ n ∈ l, n.testBit i = true) := by
  intro k
  induction k with
  | zero =>
   intro l i h
   cases l with
   | nil => exact ⟨fun z => absurd z (by unfold orL; rw [List.foldl_nil, Nat.zero_testBit]; decide), fun ⟨n, hn, _⟩ => nomatch hn⟩
   | cons a b => cases h
  | succ k ih =>
   intro l i h
   obtain ⟨a, z, rfl⟩ := exists_snoc (l := l) (by intro e; rw [e] at h; cases h)
   rw [List.length_append, List.length_singleton] at h
   rw [orL_snoc, or_bit, ih a i (by omega)]
   constructor
   ·rintro (⟨n, hn, hb⟩ | hb)
    ·exact ⟨n, List.mem_append_left _ hn, hb⟩
    ·exact ⟨z, by simp, hb⟩
   ·rintro ⟨n, hn, hb⟩
    rcases List.mem_append.mp hn with h | h
    ·exact .inl ⟨n, h, hb⟩
    ·rw [List.mem_singleton.mp h] at hb
     exact .inr hb
 exact fun l i => key l.length l i rfl
def spUn : Sp := fun vs H Q _ => ∃ (p : Addr) (l : List Nat), vs = [.ref p] /\ H p = some (.lst (nV l)) /\ l.length <= 500 /\ Q (.int (orL l : Nat)) H
theorem scUn : FnScope ["sets", "some", "each"] ["sets"] (defScope sUn) := ⟨rfl, rfl, rfl, by decide +kernel, rfl, by decide +kernel, by decide +kernel⟩
include N T in
theorem ok_Un : FnOk P w K mg base CX0 1 fUn dUn ["sets"] spUn := by
 refine N.FUn.ok scUn (fun vs H Q E h => ?_) (fun cdv A outer s H vs Q E hr h => ?_)
 ·obtain ⟨p, l, rfl, _⟩ := h
  rfl
 ·obtain ⟨p, l, rfl, hp, hz, q⟩ := h
  refine ⟨_, (pss_cons (ps_set (i := 1) scUn.nd rfl (Or.inl rfl) pe_int)
   (pss_cons (ps_for PassesOwn.never rfl (pi_list (pv 0)) (pg_name (i := 2) scUn.nd rfl (Or.inl rfl)) (pss_one (ps_set (i := 1) scUn.nd rfl (Or.inl rfl) (pe_op op_or (pv 1) (pv 2)))))
   (pss_one (ps_ret (pv 1))))), ?_⟩
  have hS : SqL K H p (nV l) := .inl (.inl hp)
  refine ⟨_, rfl, p, rfl, ⟨_, hS⟩, for_list (K := K) (a := p) (xs := nV l) (fun i σ H4 => H4 = H /\ ∃ v2, σ = [some (.ref p), some (.int (orL (l.take i) : Nat)), v2]) ⟨rfl, _, rfl⟩ (fun i σ H4 _ h => by rw [h.1]; exact hS) ?_ ?_⟩
  ·rintro i y σ H4 hi ⟨rfl, v2, rfl⟩
   rw [List.getElem?_map] at hi
   obtain ⟨n, hn, rfl⟩ := Option.map_eq_some_iff.mp hi
   refine ⟨_, rfl, _, rfl, _, _, rfl, rfl, ?_⟩
   refine ⟨rfl, some (.int (n : Int)), ?_⟩
   dsimp only
   rw [or_nat', List.take_add_one, hn]
   show _ = [some (V.ref p), some (V.int ((orL (l.take i ++ [n]) : Nat) : Int)), _]
   rw [orL_snoc]
   rfl
  ·rintro σ H4 ⟨rfl, v2, rfl⟩
   have el : l.take (nV l).length = l := List.take_of_length_le (by simp)
   rw [el]
   exact ⟨_, rfl, q⟩
def bdN (kbs : List Kb) (k : Nat) : Nat := match kbs[k]? with
 | some (.pl _ b) => b
 | some (.cp b _ _) => b
 | none => 0
theorem kRow_bd {c : Nat -> Str} {kbs : List Kb} {k : Nat} {r : R} (h : (ksOf c kbs)[k]? = some r) : ∃ rs, r = ⟨r.w, r.nm, .str (c (bdN kbs k)) :: rs⟩ := by
 obtain ⟨z, hz, rfl⟩ := ksOf_get' h
 unfold bdN
 rw [hz]
 cases z with
 | cp i j s => exact ⟨_, rfl⟩
 | pl w i => exact ⟨_, rfl⟩
theorem bdN_lt {n : Nat} {kbs : List Kb} {k : Nat} {z : Kb} (h : Kbs n kbs) (hz : kbs[k]? = some z) : bdN kbs k < n := by
 have ho := h.ok z (List.mem_of_getElem? hz)
 unfold bdN
 rw [hz]
 cases z with
 | cp i j s => exact ho.1
 | pl w i => exact ho.1
def Muted (kbs : List Kb) (D b : Nat) : Prop := ∃ (k : Nat) (z : Kb), kbs[k]? = some z /\ z.w = "mute" /\ D.testBit k = true /\ bdN kbs k = b
def spMu (C : Addr) : Sp := fun vs H Q _ => ∃ (x : Addr) (c : Nat -> Str) (sz : List Nat) (kbs : List Kb) (D : Nat), vs = [.ref x, .int (D : Nat)] /\ OrgAt C H x (bsOf c sz) (ksOf c kbs) /\ Kbs sz.length kbs /\ ∀ L (ml : List Nat) H', H L = none -> Same H H' -> H' L = some (.lst (nV ml)) -> (∀ b, b ∈ ml ↔ Muted kbs D b) -> ml.length <= 200 -> Q (.ref L) H'
theorem scMu : FnScope ["organ", "knobs"] ["organ", "knobs"] (defScope sMu) := ⟨rfl, rfl, rfl, by decide +kernel, rfl, by decide +kernel, by decide +kernel⟩
include N T in
theorem ok_Mu : FnOk P w K mg base CX0 3 fMu dMu ["organ", "knobs"] (spMu C) := by
 have GDc : FnOk P w K mg base CX0 2 fDc dDc ["organ", "knobs", "word"] (spDc C) := ok_Dc N T
 have GOm : FnOk P w K mg base CX0 2 fOm dOm ["self", "knob"] (spBk C) := ok_Om N T
 refine N.FMu.ok scMu (fun vs H Q E h => ?_) (fun cdv A outer s H vs Q E hr h => ?_)
 ·obtain ⟨x, c, sz, kbs, D, rfl, _⟩ := h
  rfl
 ·obtain ⟨x, c, sz, kbs, D, rfl, O, hkb, q⟩ := h
  have hrDc : Room 2 _ := hr.mono (by decide)
  have hrOm : Room 2 _ := hr.mono (by decide)
  refine ⟨_, (pss_one (ps_ret (pe_comp rfl (compScope (osc := defScope sMu) (N := ["organ", "knobs"]) rfl rfl (by decide +kernel)) (pi_list (pe_call GDc hrDc rfl N.mDc N.FDc.kp N.bDc .nil pass0 (pa_cons (pv 0) (pa_cons (pv 1) (pa_cons pe_str pa_nil))))) (fun _ _ _ _ => pf_nil) (fun _ _ _ _ => (pe_meth (pv 1) T.cl N.tOm GOm hrOm N.bOm .nil pass0 (pa_cons (pv 0) pa_nil)))))), ?_⟩
  refine ⟨_, rfl, _, rfl, x, bsOf c sz, ksOf c kbs, "mute", D, rfl, O, fun CL cl H1 hCL s1 hl1 hcl hcll => ?_⟩
  have hS1 : SqL K H1 CL (nV cl) := .inl (.inl hl1)
  have O1 := O.mono s1
  let g : V -> V := fun v => match v with | .int k => .int (bdN kbs k.toNat : Nat) | _ => .non
  refine ⟨CL, rfl, ⟨_, hS1⟩, comp_sq (K := K) (xs := nV cl) (fun _ => true) g hS1 (small1000 (by rw [List.length_map]; omega)) (fun y hy H' hs R k => k H' (Same.refl H')) (fun y hy _ H' hs R k => ?_) (fun D2 H2 hD2 s2 hl2 => ?_)⟩
  ·obtain ⟨i, hi, rfl⟩ := List.mem_map.mp hy
   obtain ⟨r, hr, hw, hd⟩ := (hcl i).mp hi
   obtain ⟨rs, er⟩ := kRow_bd hr
   rw [er] at hr
   obtain ⟨z, hz, _⟩ := ksOf_get' hr
   have hb := bdN_lt hkb hz
   obtain ⟨⟨dx, fs, bl, bn, kp, kr, bvs, pvs, uvs, kvs, h1, l1, l2, l3, l4, lm, _⟩, _⟩ := id (O1.mono hs)
   have kk := k H' (Same.refl H')
   refine ⟨_, rfl, x, dx, fs, rfl, h1, lm _ (by decide +kernel), _, rfl, x, bsOf c sz, ksOf c kbs, i, bdN kbs i, (c (bdN kbs i), sz[bdN kbs i]), _, _, rs, rfl, O1.mono hs, hr, bsOf_get (List.getElem?_eq_getElem hb), kk⟩
  ·rw [List.filter_eq_self.mpr (fun _ _ => rfl)] at hl2
   have e : (nV cl).map g = nV (cl.map (bdN kbs)) := by
    unfold nV
    rw [List.map_map, List.map_map]
    rfl
   rw [e] at hl2
   refine q D2 _ H2 (s1.free hD2) (s1.trans s2) hl2 (fun b => ?_) (by rw [List.length_map]; exact hcll)
   rw [List.mem_map]
   constructor
   ·rintro ⟨k, hk, rfl⟩
    obtain ⟨r, hr, hw, hd⟩ := (hcl k).mp hk
    obtain ⟨z, hz, rfl⟩ := ksOf_get' hr
    exact ⟨k, z, hz, (kRow_w _ _ _).symm.trans hw, hd, rfl⟩
   ·rintro ⟨k, z, hz, hw, hd, rfl⟩
    exact ⟨k, (hcl k).mpr ⟨_, ksOf_get hz, (kRow_w _ _ _).trans hw, hd⟩, rfl⟩
def brd (sz : List Nat) (i b : Nat) : Prop := ∃ n, n < sz.getD b 0 /\ b < sz.length /\ i = (sz.take b).sum + n
theorem brd_of {c : Nat -> Str} {sz : List Nat} {i a n : Nat} (h : (plc (bsOf c sz))[i]? = some (a, n)) : brd sz i a := by
 obtain ⟨b, hb, hn, hi⟩ := plc_get h
 obtain ⟨z, hz, rfl⟩ := bsOf_get' hb
 rw [bsOf_szs] at hi
 refine ⟨n, ?_, (List.getElem?_eq_some_iff.mp hz).1, hi⟩
 rw [List.getD_eq_getElem?_getD, hz]
 exact hn
theorem brd_uniq {sz : List Nat} {i a b : Nat} (h1 : brd sz i a) (h2 : brd sz i b) : a = b := by
 obtain ⟨n, hn, ha, rfl⟩ := h1
 obtain ⟨m, hm, hb, e⟩ := h2
 have key : ∀ {a b n m : Nat}, a < b -> b < sz.length -> n < sz.getD a 0 -> (sz.take a).sum + n ≠ (sz.take b).sum + m := fun {a b n m} hab hb hn e => by
  have h1 : (sz.take (a + 1)).sum <= (sz.take b).sum := sum_take_le' sz (by omega)
  have ha : a < sz.length := by omega
  rw [List.take_add_one, List.getElem?_eq_getElem ha, List.sum_append] at h1
  rw [List.getD_eq_getElem?_getD, List.getElem?_eq_getElem ha] at hn
  have hn' : n < sz[a] := hn
  simp at h1
  omega
 rcases Nat.lt_trichotomy a b with h | h | h
 ·exact absurd e (key h hb hn)
 ·exact h
 ·exact absurd e.symm (key h ha hm)
def spUk (C : Addr) : Sp := fun vs H Q _ => ∃ (x : Addr) (c : Nat -> Str) (sz : List Nat) (kbs : List Kb) (D n : Nat), vs = [.ref x, .int (D : Nat), .int (n : Nat)] /\ OrgAt C H x (bsOf c sz) (ksOf c kbs) /\ Kbs sz.length kbs /\ n < 2 ^ 1200 /\ (∀ i, n.testBit i = true -> i < sz.sum) /\ sz.sum <= 305 /\
 ∀ (m : Nat) H', Same H H' -> (∀ j, m.testBit j = true ↔ n.testBit j = true /\ ∀ b, brd sz j b -> ¬ Muted kbs D b) -> Q (.int (m : Nat)) H'
theorem scUk : FnScope ["organ", "knobs", "keys", "muted"] ["organ", "knobs", "keys"] (defScope sUk) := ⟨rfl, rfl, rfl, by decide +kernel, rfl, by decide +kernel, by decide +kernel⟩
include N T in
theorem ok_Uk : FnOk P w K mg base CX0 4 fUk dUk ["organ", "knobs", "keys"] (spUk C) := by
 have GMu : FnOk P w K mg base CX0 3 fMu dMu ["organ", "knobs"] (spMu C) := ok_Mu N T
 have GMe : FnOk P w K mg base CX0 2 fMe dMe ["some"] spMe := ok_Me N T
 have GOo : FnOk P w K mg base CX0 1 fOo dOo ["self", "key"] (spOo C) := ok_Oo N T
 have GSt : FnOk P w K mg base CX0 3 fSt dSt ["numbers"] spSt := ok_St N T
 refine N.FUk.ok scUk (fun vs H Q E h => ?_) (fun cdv A outer s H vs Q E hr h => ?_)
 ·obtain ⟨x, c, sz, kbs, D, n, rfl, _⟩ := h
  rfl
 ·obtain ⟨x, c, sz, kbs, D, n, rfl, O, hkb, hn, hnt, h305, q⟩ := h
  have hrMu : Room 3 _ := hr.mono (by decide)
  have hrMe : Room 2 _ := hr.mono (by decide)
  have hrOo : Room 1 _ := hr.mono (by decide)
  have hrSt : Room 3 _ := hr.mono (by decide)
  refine ⟨_, (pss_cons (ps_set (i := 3) scUk.nd rfl (Or.inr rfl) (pe_call GMu hrMu rfl N.mMu N.FMu.kp N.bMu .nil pass0 (pa_cons (pv 0) (pa_cons (pv 1) pa_nil))))
   (pss_one (ps_ret (pe_call GSt hrSt rfl N.mSt N.FSt.kp N.bSt .nil pass0 (pa_cons (pe_comp rfl (compScope (osc := defScope sUk) (N := ["organ", "knobs", "keys", "muted"]) rfl rfl (by decide +kernel)) (pi_list (pe_call GMe hrMe rfl N.mMe N.FMe.kp N.bMe .nil pass0 (pa_cons (pv 2) pa_nil))) (fun _ _ _ _ => (pf_one (pt_cmpR (op_notIn_seqK (K := K) rfl) (pe_ix (ix_tupK (K := K) rfl) (pe_meth (pv 1) T.cl N.tOo GOo hrOo N.bOo .nil pass0 (pa_cons (pv 0) pa_nil)) pe_int (fun _ _ => rfl)) (pv 4) rfl))) (fun _ _ _ _ => (pv 0))) pa_nil))))), ?_⟩
  refine ⟨_, rfl, _, rfl, x, c, sz, kbs, D, rfl, O, hkb, fun ML ml H1 hML s1 hl1 hml hmll => ?_⟩
  refine ⟨_, rfl, n, rfl, hn, fun P1 H2 hP1 s2 hl2 => ?_⟩
  have hS2 : SqL K H2 P1 (nV (Wd.mem n)) := .inl (.inl hl2)
  have O2 := O.mono (s1.trans s2)
  have hlen := Wd.len_le hn
  have hml1 : (Wd.mem n).length <= 305 := by
   have nd : (Wd.mem n).Nodup := by unfold Wd.mem; exact List.Pairwise.filter _ List.nodup_range
   refine Nat.le_trans (nodup_len sz.sum nd fun i hi => hnt i (Wd.mem_iff.mp hi)) h305
  have place : ∀ {i}, i ∈ Wd.mem n -> ∃ a m, (plc (bsOf c sz))[i]? = some (a, m) := fun {i} hi => by
   have hlt : i < (plc (bsOf c sz)).length := by rw [plc_sum, bsOf_szs]; exact hnt i (Wd.mem_iff.mp hi)
   exact ⟨_, _, List.getElem?_eq_getElem hlt⟩
  let p : V -> Bool := fun v => match v with | .int i => (match (plc (bsOf c sz))[i.toNat]? with | some (a, _) => !decide (a ∈ ml) | none => true) | _ => true
  refine ⟨P1, rfl, ⟨_, hS2⟩, comp_sq (K := K) (xs := nV (Wd.mem n)) p id hS2 (small1000 (by rw [List.length_map]; omega)) (fun y hy H' hs R k => ?_) (fun y hy _ H' hs R k => ⟨_, rfl, k H' (Same.refl H')⟩) (fun D3 H3 hD3 s3 hl3 => ?_)⟩
  ·obtain ⟨i, hi, rfl⟩ := List.mem_map.mp hy
   obtain ⟨a, m, hpl⟩ := place hi
   have ep : p (V.int (i : Nat)) = !decide (a ∈ ml) := by
    show (match (plc (bsOf c sz))[((i : Nat) : Int).toNat]? with | some (a, _) => !decide (a ∈ ml) | none => true) = _
    rw [Int.toNat_natCast, hpl]
   have kk := k H' (Same.refl H')
   rw [ep] at kk
   obtain ⟨⟨dx, fs, bl, bn, kp, kr, bvs, pvs, uvs, kvs, h1, l1, l2, l3, l4, lm, _⟩, _⟩ := id (O2.mono hs)
   refine ⟨_, rfl, x, dx, fs, rfl, h1, lm _ (by decide +kernel), _, rfl, x, bsOf c sz, ksOf c kbs, i, (a, m), rfl, O2.mono hs, hpl, fun yv hyv => ?_⟩
   obtain ⟨T0, rfl, hT⟩ := hyv
   refine ⟨T0, _, _, _, rfl, rfl, .inl (.inl hT), atI_nat (j := 0) rfl, _, rfl, ML, _, rfl, .inl (.inl (.inl (hs _ _ (s2 _ _ hl1)))), rfl, nV_flat' ml, _, rfl, ?_⟩
   have ein : inV (V.int (a : Nat)) (nV ml) = decide (a ∈ ml) := inV_nat a ml
   rw [ein]
   exact kk
  ·rw [List.map_id] at hl3
   have e3 : (nV (Wd.mem n)).filter p = nV ((Wd.mem n).filter fun i => p (.int (i : Nat))) := by
    unfold nV
    rw [List.filter_map]
    rfl
   rw [e3] at hl3
   have hsub : ∀ i ∈ (Wd.mem n).filter (fun i => p (.int (i : Nat))), i < sz.sum := fun i hi => hnt i (Wd.mem_iff.mp (List.mem_filter.mp hi).1)
   refine ⟨D3, _, rfl, hl3, Nat.le_trans (List.length_filter_le _ _) (by omega), fun i hi => by have := hsub i hi; omega, fun H4 s4 => ?_⟩
   refine q _ H4 (s1.trans (s2.trans (s3.trans s4))) fun j => ?_
   rw [Wd.mk_bit, decide_eq_true_eq, List.mem_filter, Wd.mem_iff]
   constructor
   ·rintro ⟨h1, h2⟩
    refine ⟨h1, fun b hb hm => ?_⟩
    obtain ⟨a, m, hpl⟩ := place (Wd.mem_iff.mpr h1)
    have ep : p (V.int (j : Nat)) = !decide (a ∈ ml) := by
     show (match (plc (bsOf c sz))[((j : Nat) : Int).toNat]? with | some (a, _) => !decide (a ∈ ml) | none => true) = _
     rw [Int.toNat_natCast, hpl]
    rw [ep] at h2
    have hba := brd_uniq hb (brd_of hpl)
    subst hba
    rw [decide_eq_true ((hml b).mpr hm)] at h2
    cases h2
   ·rintro ⟨h1, h2⟩
    refine ⟨h1, ?_⟩
    obtain ⟨a, m, hpl⟩ := place (Wd.mem_iff.mpr h1)
    have ep : p (V.int (j : Nat)) = !decide (a ∈ ml) := by
     show (match (plc (bsOf c sz))[((j : Nat) : Int).toNat]? with | some (a, _) => !decide (a ∈ ml) | none => true) = _
     rw [Int.toNat_natCast, hpl]
    rw [ep, decide_eq_false fun z => h2 a (brd_of hpl) ((hml a).mp z)]
    rfl
def Speaks (c : Nat -> Str) (sz : List Nat) (kbs : List Kb) (D n j : Nat) : Prop := Rch (stp (bsOf c sz) kbs D) (fun i => n.testBit i = true) j \/ (n.testBit j = true /\ ∀ b, brd sz j b -> ¬ Muted kbs D b)
def spSk (C : Addr) : Sp := fun vs H Q _ => ∃ (x : Addr) (c : Nat -> Str) (sz : List Nat) (kbs : List Kb) (D n : Nat), vs = [.ref x, .int (D : Nat), .int (n : Nat)] /\ OrgAt C H x (bsOf c sz) (ksOf c kbs) /\ Kbs sz.length kbs /\ n < 2 ^ 1200 /\ (∀ i, n.testBit i = true -> i < sz.sum) /\
 ∀ (m : Nat) H', Same H H' -> (∀ j, m.testBit j = true ↔ Speaks c sz kbs D n j) -> Q (.int (m : Nat)) H'
theorem scSk : FnScope ["organ", "knobs", "held"] ["organ", "knobs", "held"] (defScope sSk) := ⟨rfl, rfl, rfl, by decide +kernel, rfl, by decide +kernel, by decide +kernel⟩
include N T in
theorem ok_Sk : FnOk P w K mg base CX0 6 fSk dSk ["organ", "knobs", "held"] (spSk C) := by
 have GCq : FnOk P w K mg base CX0 5 fCq dCq ["organ", "knobs", "held"] (spCq C) := ok_Cq N T
 have GUk : FnOk P w K mg base CX0 4 fUk dUk ["organ", "knobs", "keys"] (spUk C) := ok_Uk N T
 have GHk : FnOk P w K mg base CX0 2 fHk dHk ["organ", "held"] (spHk C) := ok_Hk N T
 refine N.FSk.ok scSk (fun vs H Q E h => ?_) (fun cdv A outer s H vs Q E hr h => ?_)
 ·obtain ⟨x, c, sz, kbs, D, n, rfl, _⟩ := h
  rfl
 ·obtain ⟨x, c, sz, kbs, D, n, rfl, O, hkb, hn, hnt, q⟩ := h
  have hrCq : Room 5 _ := hr.mono (by decide)
  have hrUk : Room 4 _ := hr.mono (by decide)
  have hrHk : Room 2 _ := hr.mono (by decide)
  refine ⟨_, (pss_one (ps_ret (pe_op op_or (pe_call GCq hrCq rfl N.mCq N.FCq.kp N.bCq .nil pass0 (pa_cons (pv 0) (pa_cons (pv 1) (pa_cons (pv 2) pa_nil)))) (pe_call GUk hrUk rfl N.mUk N.FUk.kp N.bUk .nil pass0 (pa_cons (pv 0) (pa_cons (pv 1) (pa_cons (pe_call GHk hrHk rfl N.mHk N.FHk.kp N.bHk .nil pass0 (pa_cons (pv 0) (pa_cons (pv 2) pa_nil))) pa_nil))))))), ?_⟩
  have hsum : ((bsOf c sz).map (·.2)).sum = sz.sum := by rw [bsOf_szs]
  have h305 := plc_305 O
  rw [hsum] at h305
  refine ⟨_, rfl, _, rfl, _, rfl, x, c, sz, kbs, D, n, rfl, O, hkb, hn, hnt, fun m1 H1 s1 hm1 => ?_⟩
  refine ⟨_, rfl, _, rfl, _, rfl, _, rfl, x, bsOf c sz, ksOf c kbs, n, rfl, O.mono s1, hn, ?_⟩
  rw [hsum, mv_same hnt]
  refine ⟨x, c, sz, kbs, D, n, rfl, O.mono s1, hkb, hn, hnt, h305, fun m2 H2 s2 hm2 => ?_⟩
  refine ⟨_, _, rfl, rfl, ?_⟩
  show Q (.int (Builtin.bitOr (m1 : Int) (m2 : Int))) H2
  rw [or_nat']
  refine q (m1 ||| m2) H2 (s1.trans s2) fun j => ?_
  rw [or_bit, hm1, hm2]
  rfl
def nbP (sz : List Nat) (b n : Nat) : Nat := Wd.mv n (-((sz.take b).sum : Int)) (sz.getD b 0)
theorem mv_lt (n : Nat) (k : Int) (c : Nat) : Wd.mv n k c < 2 ^ c := by
 unfold Wd.mv
 exact Nat.mod_lt _ (Nat.two_pow_pos _)
def spNb (C : Addr) : Sp := fun vs H Q _ => ∃ (x : Addr) (c : Nat -> Str) (sz : List Nat) (ks : List R) (b n : Nat), vs = [.ref x, .int (b : Nat), .int (n : Nat)] /\ OrgAt C H x (bsOf c sz) ks /\ b < sz.length /\ n < 2 ^ 1200 /\ ∀ H', Same H H' -> Q (.int (nbP sz b n : Nat)) H'
theorem scNb : FnScope ["organ", "board", "keys", "told"] ["organ", "board", "keys"] (defScope sNb) := ⟨rfl, rfl, rfl, by decide +kernel, rfl, by decide +kernel, by decide +kernel⟩
include N T in
theorem ok_Nb : FnOk P w K mg base CX0 3 fNb dNb ["organ", "board", "keys"] (spNb C) := by
 have GOb : FnOk P w K mg base CX0 1 fOb dOb ["self"] (spOb C) := ok_Ob N T
 have GOk : FnOk P w K mg base CX0 2 fOk dOk ["self", "board", "number"] (spOk C) := ok_Ok N T
 have GSh : FnOk P w K mg base CX0 1 fSh dSh ["some", "steps", "count"] spSh := ok_Sh N T
 refine N.FNb.ok scNb (fun vs H Q E h => ?_) (fun cdv A outer s H vs Q E hr h => ?_)
 ·obtain ⟨x, c, sz, ks, b, n, rfl, _⟩ := h
  rfl
 ·obtain ⟨x, c, sz, ks, b, n, rfl, O, hb, hn, q⟩ := h
  have hrOb : Room 1 _ := hr.mono (by decide)
  have hrOk : Room 2 _ := hr.mono (by decide)
  have hrSh : Room 1 _ := hr.mono (by decide)
  refine ⟨_, (pss_cons (ps_set (i := 3) scNb.nd rfl (Or.inl rfl) (pe_ix (ix_listK (K := K) rfl) (pe_meth0 (pv 0) T.cl N.tOb GOb hrOb N.bOb .nil pass0) (pv 1) (fun _ _ => rfl)))
   (pss_one (ps_ret (pe_call GSh hrSh rfl N.mSh N.FSh.kp N.bSh .nil pass0 (pa_cons (pv 2) (pa_cons (pe_un un_neg (pe_meth (pv 0) T.cl N.tOk GOk hrOk N.bOk .nil pass0 (pa_cons (pe_ix (ix_tupK (K := K) rfl) (pv 3) pe_int (fun _ _ => rfl)) (pa_cons pe_int pa_nil)))) (pa_cons (pe_ix (ix_tupK (K := K) rfl) (pv 3) pe_int (fun _ _ => rfl)) pa_nil))))))), ?_⟩
  have h305 := plc_305 O
  rw [bsOf_szs] at h305
  have hst : (sz.take b).sum <= sz.sum := by
   have := congrArg List.sum (List.take_append_drop b sz)
   rw [List.sum_append] at this
   omega
  have hbs : (bsOf c sz)[b]? = some (c b, sz[b]) := bsOf_get (List.getElem?_eq_getElem hb)
  have h61 := O.sz (c b, sz[b]) (List.mem_of_getElem? hbs)
  have h61' : sz[b] <= 61 := h61
  have esum : (((bsOf c sz).take b).map (·.2)).sum = (sz.take b).sum := by rw [List.map_take, bsOf_szs]
  have egd : sz.getD b 0 = sz[b] := by rw [List.getD_eq_getElem?_getD, List.getElem?_eq_getElem hb]; rfl
  have meth : ∀ {H' : Hp}, OrgAt C H' x (bsOf c sz) ks -> ∃ dx fs, H' x = some (.ins C dx fs) /\ ∀ m ∈ meths, fs.lookup m = none := fun O' => by
   obtain ⟨⟨dx, fs, _, _, _, _, _, _, _, _, h1, _, _, _, _, lm, _⟩, _⟩ := O'
   exact ⟨dx, fs, h1, lm⟩
  obtain ⟨dx, fs, hx, lm⟩ := meth O
  refine ⟨_, rfl, x, dx, fs, rfl, hx, lm _ (by decide +kernel), x, bsOf c sz, ks, rfl, O, fun D bvs H2 hD s2 hl2 hb2 => ?_⟩
  obtain ⟨v3, hv3, T3, rfl, ht3⟩ := paired_get hb2 hbs
  refine ⟨_, rfl, D, bvs, _, _, rfl, rfl, .inl (.inl hl2), atI_nat hv3, ?_⟩
  obtain ⟨dx2, fs2, hx2, lm2⟩ := meth (O.mono s2)
  refine ⟨_, rfl, _, rfl, x, dx2, fs2, rfl, hx2, lm2 _ (by decide +kernel), _, rfl, T3, _, _, _, rfl, rfl, .inl (.inl ht3), atI_nat (j := 0) rfl, x, bsOf c sz, ks, b, (c b, sz[b]), 0, rfl, O.mono s2, hbs, fun H3 s3 => ?_⟩
  refine ⟨_, rfl, _, rfl, T3, _, _, _, rfl, rfl, .inl (.inl (s3 _ _ ht3)), atI_nat (j := 1) rfl, n, _, sz[b], rfl, hn, ?_, ?_, by omega, ?_⟩
  ·rw [esum]
   omega
  ·rw [esum]
   omega
  ·have fin := q H3 (s2.trans s3)
   unfold nbP at fin
   rw [egd] at fin
   rw [esum, Int.add_zero]
   exact fin
def stR (rk : List (Str × Nat × Int)) (r : Nat) : Nat := ((rk.take r).map (fun r => r.2.1)).sum
def szRk (rk : List (Str × Nat × Int)) (r : Nat) : Nat := (rk.map (fun r => r.2.1)).getD r 0
def toR (rk : List (Str × Nat × Int)) : Nat := (rk.map (fun r => r.2.1)).sum
structure LnG (rk : List (Str × Nat × Int)) (l : Ln) : Prop where
 r : l.r < rk.length
 lo : 0 <= l.lo
 le : l.lo <= l.hi
 hi : l.hi <= 60
 s1 : -200 <= l.sh
 s2 : l.sh <= 200
def ledP (rk : List (Str × Nat × Int)) (l : Ln) (n : Nat) : Nat := Wd.mv (Wd.mv (Wd.mv n (-l.lo) (l.hi - l.lo + 1).toNat) (l.lo + l.sh) (szRk rk l.r)) (stR rk l.r : Nat) (toR rk)
theorem stR_to {rk : List (Str × Nat × Int)} {r : Nat} (h : r < rk.length) : stR rk r + szRk rk r <= toR rk := by
 unfold stR szRk toR
 have e : ((rk.map (fun r => r.2.1)).take (r + 1)).sum = ((rk.take r).map (fun r => r.2.1)).sum + (rk.map (fun r => r.2.1)).getD r 0 := by
  rw [List.take_add_one, List.getElem?_eq_getElem (by rw [List.length_map]; exact h), List.sum_append, List.map_take, List.getD_eq_getElem?_getD, List.getElem?_eq_getElem (by rw [List.length_map]; exact h)]
  simp
 have := congrArg List.sum (List.take_append_drop (r + 1) (rk.map (fun r => r.2.1)))
 rw [List.sum_append] at this
 omega
theorem toR_le {rk : List (Str × Nat × Int)} (h1 : rk.length <= 12) (h2 : ∀ r ∈ rk, r.2.1 <= 97) : toR rk <= 1164 := by
 have h := plc_len (rk.map rkN) 97 fun b hb => by
  obtain ⟨r, hr, rfl⟩ := List.mem_map.mp hb
  exact h2 r hr
 rw [plc_sum, List.map_map, List.length_map] at h
 have : rk.length * 97 <= 12 * 97 := Nat.mul_le_mul_right _ h1
 have e : toR rk = (rk.map ((·.2) ∘ rkN)).sum := rfl
 omega
def spLl (C : Addr) : Sp := fun vs H Q _ => ∃ (x : Addr) (bs : List (Str × Nat)) (rk : List (Str × Nat × Int)) (ks : List R) (ls : List (List Ln)) (y : V) (l : Ln) (n : Nat), vs = [.ref x, y, .int (n : Nat)] /\ OrgAt2 C H x bs rk ks ls /\ TupAt H (lnV l) y /\ LnG rk l /\ n < 2 ^ 1200 /\ ∀ H', Same H H' -> Q (.int (ledP rk l n : Nat)) H'
theorem scLl : FnScope ["organ", "line", "numbers", "rank", "from_low", "on_rank"] ["organ", "line", "numbers"] (defScope sLl) := ⟨rfl, rfl, rfl, by decide +kernel, rfl, by decide +kernel, by decide +kernel⟩
include N T in
theorem ok_Ll : FnOk P w K mg base CX0 3 fLl dLl ["organ", "line", "numbers"] (spLl C) := by
 have GOr : FnOk P w K mg base CX0 1 fOr dOr ["self"] (spOr C) := ok_Or N T
 have GSh : FnOk P w K mg base CX0 1 fSh dSh ["some", "steps", "count"] spSh := ok_Sh N T
 have GOe : FnOk P w K mg base CX0 2 fOe dOe ["self", "rank", "number"] (spOe C) := ok_Oe N T
 have GOq : FnOk P w K mg base CX0 1 fOq dOq ["self"] (spOq C) := ok_Oq N T
 refine N.FLl.ok scLl (fun vs H Q E h => ?_) (fun cdv A outer s H vs Q E hr h => ?_)
 ·obtain ⟨x, bs, rk, ks, ls, y, l, n, rfl, _⟩ := h
  rfl
 ·obtain ⟨x, bs, rk, ks, ls, y, l, n, rfl, O, hy, hg, hn, q⟩ := h
  have hrOr : Room 1 _ := hr.mono (by decide)
  have hrSh : Room 1 _ := hr.mono (by decide)
  have hrOe : Room 2 _ := hr.mono (by decide)
  have hrOq : Room 1 _ := hr.mono (by decide)
  refine ⟨_, (pss_cons (ps_set (i := 3) scLl.nd rfl (Or.inl rfl) (pe_ix (ix_listK (K := K) rfl) (pe_meth0 (pv 0) T.cl N.tOr GOr hrOr N.bOr .nil pass0) (pe_ix (ix_tupK (K := K) rfl) (pv 1) pe_int (fun _ _ => rfl)) (fun _ _ => rfl)))
   (pss_cons (ps_set (i := 4) scLl.nd rfl (Or.inl rfl) (pe_call GSh hrSh rfl N.mSh N.FSh.kp N.bSh .nil pass0 (pa_cons (pv 2) (pa_cons (pe_un un_neg (pe_ix (ix_tupK (K := K) rfl) (pv 1) pe_int (fun _ _ => rfl))) (pa_cons (pe_op op_add (pe_op op_sub (pe_ix (ix_tupK (K := K) rfl) (pv 1) pe_int (fun _ _ => rfl)) (pe_ix (ix_tupK (K := K) rfl) (pv 1) pe_int (fun _ _ => rfl))) pe_int) pa_nil)))))
   (pss_cons (ps_set (i := 5) scLl.nd rfl (Or.inl rfl) (pe_call GSh hrSh rfl N.mSh N.FSh.kp N.bSh .nil pass0 (pa_cons (pv 4) (pa_cons (pe_op op_add (pe_ix (ix_tupK (K := K) rfl) (pv 1) pe_int (fun _ _ => rfl)) (pe_ix (ix_tupK (K := K) rfl) (pv 1) pe_int (fun _ _ => rfl))) (pa_cons (pe_ix (ix_tupK (K := K) rfl) (pv 3) pe_int (fun _ _ => rfl)) pa_nil)))))
   (pss_one (ps_ret (pe_call GSh hrSh rfl N.mSh N.FSh.kp N.bSh .nil pass0 (pa_cons (pv 5) (pa_cons (pe_meth (pv 0) T.cl N.tOe GOe hrOe N.bOe .nil pass0 (pa_cons (pe_ix (ix_tupK (K := K) rfl) (pv 3) pe_int (fun _ _ => rfl)) (pa_cons pe_int pa_nil))) (pa_cons (pe_meth0 (pv 0) T.cl N.tOq GOq hrOq N.bOq .nil pass0) pa_nil))))))))), ?_⟩
  obtain ⟨T0, rfl, hT⟩ := hy
  have hto := toR_le O.nr O.nz
  have hlr : l.r < rk.length := hg.r
  have hst := stR_to hlr
  have hrk := List.getElem?_eq_getElem hlr
  have h97 : rk[l.r].2.1 <= 97 := O.nz _ (List.getElem_mem hg.r)
  have esz : szRk rk l.r = rk[l.r].2.1 := by
   unfold szRk
   rw [List.getD_eq_getElem?_getD, List.getElem?_map, hrk]
   rfl
  have etot : (plc (rk.map rkN)).length = toR rk := by
   rw [plc_sum, List.map_map]
   rfl
  have h1 := hg.lo
  have h2 := hg.le
  have h3 := hg.hi
  have h4 := hg.s1
  have h5 := hg.s2
  have meth : ∀ {H' : Hp}, OrgAt2 C H' x bs rk ks ls -> ∃ dx fs, H' x = some (.ins C dx fs) /\ ∀ m ∈ meths, fs.lookup m = none := fun O' => by
   obtain ⟨⟨dx, fs, _, _, _, _, _, _, _, _, h1, _, _, _, _, lm, _⟩, _⟩ := O'.o
   exact ⟨dx, fs, h1, lm⟩
  obtain ⟨dx, fs, hx, lm⟩ := meth O
  refine ⟨_, rfl, x, dx, fs, rfl, hx, lm _ (by decide +kernel), x, bs, rk, ks, ls, rfl, O, fun D rvs H2 hD s2 hl2 hb2 => ?_⟩
  have hT2 := s2 _ _ hT
  have hrk3 : (rk.map rk3)[l.r]? = some (rk3 rk[l.r]) := by rw [List.getElem?_map, hrk]; rfl
  obtain ⟨v3, hv3, T3, rfl, ht3⟩ := paired_get hb2 hrk3
  refine ⟨_, rfl, T0, _, _, _, rfl, rfl, .inl (.inl hT2), atI_nat (j := 0) rfl, D, rvs, _, _, rfl, rfl, .inl (.inl hl2), atI_nat hv3, ?_⟩
  have e1 : l.hi - l.lo + 1 = (((l.hi - l.lo + 1).toNat : Nat) : Int) := by omega
  refine ⟨_, rfl, _, rfl, T0, _, _, _, rfl, rfl, .inl (.inl hT2), atI_nat (j := 2) rfl, _, rfl, _, rfl, T0, _, _, _, rfl, rfl, .inl (.inl hT2), atI_nat (j := 3) rfl, _, rfl, T0, _, _, _, rfl, rfl, .inl (.inl hT2), atI_nat (j := 2) rfl, _, _, rfl, rfl, _, _, rfl, rfl, n, -l.lo, (l.hi - l.lo + 1).toNat, (by rw [← e1] <;> rfl), hn, by omega, by omega, by omega, ?_⟩
  have n1 := mv_lt n (-l.lo) (l.hi - l.lo + 1).toNat
  generalize hn1 : Wd.mv n (-l.lo) (l.hi - l.lo + 1).toNat = a1 at n1 ⊢
  have n1' : a1 < 2 ^ 1200 := Nat.lt_of_lt_of_le n1 (Nat.pow_le_pow_right (by decide) (by omega))
  refine ⟨_, rfl, _, rfl, T0, _, _, _, rfl, rfl, .inl (.inl hT2), atI_nat (j := 2) rfl, _, rfl, T0, _, _, _, rfl, rfl, .inl (.inl hT2), atI_nat (j := 1) rfl, _, _, rfl, rfl, _, rfl, T3, _, _, _, rfl, rfl, .inl (.inl ht3), atI_nat (j := 1) rfl, a1, l.lo + l.sh, rk[l.r].2.1, rfl, n1', by omega, by omega, by omega, ?_⟩
  have n2 := mv_lt a1 (l.lo + l.sh) rk[l.r].2.1
  generalize hn2 : Wd.mv a1 (l.lo + l.sh) rk[l.r].2.1 = a2 at n2 ⊢
  have n2' : a2 < 2 ^ 1200 := Nat.lt_of_lt_of_le n2 (Nat.pow_le_pow_right (by decide) (by omega))
  obtain ⟨dx2, fs2, hx2, lm2⟩ := meth (O.mono s2)
  refine ⟨_, rfl, _, rfl, x, dx2, fs2, rfl, hx2, lm2 _ (by decide +kernel), _, rfl, T3, _, _, _, rfl, rfl, .inl (.inl ht3), atI_nat (j := 0) rfl, x, bs, rk, ks, ls, l.r, rk[l.r], 0, rfl, O.mono s2, hrk, fun H3 s3 => ?_⟩
  obtain ⟨dx3, fs3, hx3, lm3⟩ := meth ((O.mono s2).mono s3)
  refine ⟨_, rfl, x, dx3, fs3, rfl, hx3, lm3 _ (by decide +kernel), x, bs, rk, ks, ls, rfl, (O.mono s2).mono s3, a2, _, (plc (rk.map rkN)).length, rfl, n2', ?_, ?_, ?_, ?_⟩
  ·omega
  ·have : ((rk.take l.r).map (fun r => r.2.1)).sum = stR rk l.r := rfl
   omega
  ·omega
  ·have fin := q H3 (s2.trans s3)
   unfold ledP at fin
   rw [hn1, esz, hn2] at fin
   rw [etot, Int.add_zero]
   exact fin
def lnH (H : Hp) : V -> Ln
 | .ref T => match H T with
  | some (.tup [.int r, .int sh, .int lo, .int hi]) => ⟨r.toNat, sh, lo, hi⟩
  | _ => ⟨0, 0, 0, 0⟩
 | _ => ⟨0, 0, 0, 0⟩
theorem lnH_at {H : Hp} {l : Ln} {v : V} (h : TupAt H (lnV l) v) : lnH H v = l := by
 obtain ⟨T, rfl, e⟩ := h
 show (match H T with | some (.tup [.int r, .int sh, .int lo, .int hi]) => (⟨r.toNat, sh, lo, hi⟩ : Ln) | _ => ⟨0, 0, 0, 0⟩) = l
 rw [e]
 show (⟨((l.r : Nat) : Int).toNat, l.sh, l.lo, l.hi⟩ : Ln) = l
 rw [Int.toNat_natCast]
theorem lnH_map {H : Hp} {l : List Ln} {vs : List V} (h : Paired (fun x y => TupAt H (lnV x) y) l vs) : vs.map (lnH H) = l := by
 induction h with
 | nil => rfl
 | cons x y ih => rw [List.map_cons, ih, lnH_at x]
def bsP (sz : List Nat) (rk : List (Str × Nat × Int)) (b : Nat) (l : List Ln) (n : Nat) : Nat := orL (l.map fun ln => ledP rk ln (nbP sz b n))
def spBs (C : Addr) : Sp := fun vs H Q _ => ∃ (x : Addr) (c : Nat -> Str) (sz : List Nat) (rk : List (Str × Nat × Int)) (kbs : List Kb) (ls : List (List Ln)) (k n : Nat) (z : Kb) (l : List Ln), vs = [.ref x, .int (k : Nat), .int (n : Nat)] /\ OrgAt2 C H x (bsOf c sz) rk (ksOf c kbs) ls /\ Kbs sz.length kbs /\ kbs[k]? = some z /\ ls[k]? = some l /\ l.length <= 100 /\ (∀ ln ∈ l, LnG rk ln) /\ n < 2 ^ 1200 /\ ∀ H', Same H H' -> Q (.int (bsP sz rk (bdN kbs k) l n : Nat)) H'
theorem scBs : FnScope ["organ", "knob", "keys", "stop", "numbers"] ["organ", "knob", "keys"] (defScope sBs) := ⟨rfl, rfl, rfl, by decide +kernel, rfl, by decide +kernel, by decide +kernel⟩
include N T in
theorem ok_Bs : FnOk P w K mg base CX0 4 fBs dBs ["organ", "knob", "keys"] (spBs C) := by
 have GOs : FnOk P w K mg base CX0 2 fOs dOs ["self", "knob"] (spOs C) := ok_Os N T
 have GNb : FnOk P w K mg base CX0 3 fNb dNb ["organ", "board", "keys"] (spNb C) := ok_Nb N T
 have GLl : FnOk P w K mg base CX0 3 fLl dLl ["organ", "line", "numbers"] (spLl C) := ok_Ll N T
 have GUn : FnOk P w K mg base CX0 1 fUn dUn ["sets"] spUn := ok_Un N T
 refine N.FBs.ok scBs (fun vs H Q E h => ?_) (fun cdv A outer s H vs Q E hr h => ?_)
 ·obtain ⟨x, c, sz, rk, kbs, ls, k, n, z, l, rfl, _⟩ := h
  rfl
 ·obtain ⟨x, c, sz, rk, kbs, ls, k, n, z, l, rfl, O, hkb, hz, hl, hl100, hg, hn, q⟩ := h
  have hrOs : Room 2 _ := hr.mono (by decide)
  have hrNb : Room 3 _ := hr.mono (by decide)
  have hrLl : Room 3 _ := hr.mono (by decide)
  have hrUn : Room 1 _ := hr.mono (by decide)
  refine ⟨_, (pss_cons (ps_set (i := 3) scBs.nd rfl (Or.inl rfl) (pe_meth (pv 0) T.cl N.tOs GOs hrOs N.bOs .nil pass0 (pa_cons (pv 1) pa_nil)))
   (pss_cons (ps_set (i := 4) scBs.nd rfl (Or.inr rfl) (pe_call GNb hrNb rfl N.mNb N.FNb.kp N.bNb .nil pass0 (pa_cons (pv 0) (pa_cons (pe_ix (ix_tupK (K := K) rfl) (pv 3) pe_int (fun _ _ => rfl)) (pa_cons (pv 2) pa_nil)))))
   (pss_one (ps_ret (pe_call GUn hrUn rfl N.mUn N.FUn.kp N.bUn .nil pass0 (pa_cons (pe_comp rfl (compScope (osc := defScope sBs) (N := ["organ", "knob", "keys", "stop", "numbers"]) rfl rfl (by decide +kernel)) (pi_list (pe_ix (ix_tupK (K := K) rfl) (pv 3) pe_int (fun _ _ => rfl))) (fun _ _ _ _ => pf_nil) (fun _ _ _ _ => (pe_call GLl hrLl rfl N.mLl N.FLl.kp N.bLl .nil pass0 (pa_cons (pv 1) (pa_cons (pv 0) (pa_cons (pv 5) pa_nil)))))) pa_nil)))))), ?_⟩
  have hr := ksOf_get (c := c) hz
  obtain ⟨rs, er⟩ := kRow_bd hr
  rw [er] at hr
  have hb := bdN_lt hkb hz
  have hbs : (bsOf c sz)[bdN kbs k]? = some (c (bdN kbs k), sz[bdN kbs k]) := bsOf_get (List.getElem?_eq_getElem hb)
  have meth : ∀ {H' : Hp}, OrgAt2 C H' x (bsOf c sz) rk (ksOf c kbs) ls -> ∃ dx fs, H' x = some (.ins C dx fs) /\ ∀ m ∈ meths, fs.lookup m = none := fun O' => by
   obtain ⟨⟨dx, fs, _, _, _, _, _, _, _, _, h1, _, _, _, _, lm, _⟩, _⟩ := O'.o
   exact ⟨dx, fs, h1, lm⟩
  obtain ⟨dx, fs, hx, lm⟩ := meth O
  refine ⟨_, rfl, x, dx, fs, rfl, hx, lm _ (by decide +kernel), _, rfl, x, bsOf c sz, rk, ksOf c kbs, ls, k, bdN kbs k, (c (bdN kbs k), sz[bdN kbs k]), _, _, rs, l, rfl, O, hr, hbs, hl, fun T0 L0 ts H1 s1 hT0 hL0 htp => ?_⟩
  have O1 := O.mono s1
  refine ⟨_, rfl, _, rfl, T0, _, _, _, rfl, rfl, .inl (.inl hT0), atI_nat (j := 0) rfl, _, rfl, x, c, sz, ksOf c kbs, bdN kbs k, n, rfl, O1.o, hb, hn, fun H2 s2 => ?_⟩
  have O2 := O1.mono s2
  have nlt := mv_lt n (-((sz.take (bdN kbs k)).sum : Int)) (sz.getD (bdN kbs k) 0)
  have h61 : sz.getD (bdN kbs k) 0 <= 61 := by
   rw [List.getD_eq_getElem?_getD, List.getElem?_eq_getElem hb]
   exact O.o.sz _ (List.mem_of_getElem? hbs)
  have nlt' : nbP sz (bdN kbs k) n < 2 ^ 1200 := Nat.lt_of_lt_of_le nlt (Nat.pow_le_pow_right (by decide) (by omega))
  have hL2 := s2 _ _ hL0
  have htp2 := paired_mono s2 htp
  have hlt := htp2.length
  have hS2 : SqL K H2 L0 ts := .inl (.inl hL2)
  refine ⟨_, rfl, T0, _, _, _, rfl, rfl, .inl (.inl (s2 _ _ hT0)), atI_nat (j := 1) rfl, L0, rfl, ⟨_, hS2⟩, comp_sq (K := K) (xs := ts) (fun _ => true) (fun v => .int (ledP rk (lnH H2 v) (nbP sz (bdN kbs k) n) : Nat)) hS2 (small1000 (by omega)) (fun y hy H' hs R k => k H' (Same.refl H')) (fun y hy _ H' hs R k' => ?_) (fun D3 H3 hD3 s3 hl3 => ?_)⟩
  ·obtain ⟨ln, hln, hyt⟩ := paired_mem htp2 hy
   have e := lnH_at hyt
   rw [e] at k'
   exact ⟨_, rfl, _, rfl, _, rfl, x, bsOf c sz, rk, ksOf c kbs, ls, y, ln, _, rfl, O2.mono hs, hyt.mono hs, hg ln hln, nlt', fun H4 s4 => k' H4 s4⟩
  ·rw [List.filter_eq_self.mpr (fun _ _ => rfl)] at hl3
   have e3 : (ts.map fun v => V.int (ledP rk (lnH H2 v) (nbP sz (bdN kbs k) n) : Nat)) = nV (l.map fun ln => ledP rk ln (nbP sz (bdN kbs k) n)) := by
    rw [← lnH_map htp2]
    unfold nV
    rw [List.map_map, List.map_map]
    rfl
   rw [e3] at hl3
   exact ⟨D3, _, rfl, hl3, (by rw [List.length_map]; omega), q H3 (s1.trans (s2.trans s3))⟩
def baP (sz : List Nat) (rk : List (Str × Nat × Int)) (kbs : List Kb) (ls : List (List Ln)) (cl : List Nat) (n : Nat) : Nat := orL (cl.map fun k => bsP sz rk (bdN kbs k) (ls.getD k []) n)
abbrev LsG (rk : List (Str × Nat × Int)) (ls : List (List Ln)) : Prop := ∀ l ∈ ls, l.length <= 100 /\ ∀ ln ∈ l, LnG rk ln
def spBa (C : Addr) : Sp := fun vs H Q _ => ∃ (x : Addr) (c : Nat -> Str) (sz : List Nat) (rk : List (Str × Nat × Int)) (kbs : List Kb) (ls : List (List Ln)) (D n : Nat), vs = [.ref x, .int (D : Nat), .int (n : Nat)] /\ OrgAt2 C H x (bsOf c sz) rk (ksOf c kbs) ls /\ Kbs sz.length kbs /\ LsG rk ls /\ n < 2 ^ 1200 /\
 ∀ (cl : List Nat) H', Same H H' -> (∀ k, k ∈ cl ↔ ∃ z, kbs[k]? = some z /\ z.w = "stop" /\ D.testBit k = true) -> Q (.int (baP sz rk kbs ls cl n : Nat)) H'
theorem scBa : FnScope ["organ", "knobs", "keys"] ["organ", "knobs", "keys"] (defScope sBa) := ⟨rfl, rfl, rfl, by decide +kernel, rfl, by decide +kernel, by decide +kernel⟩
include N T in
theorem ok_Ba : FnOk P w K mg base CX0 5 fBa dBa ["organ", "knobs", "keys"] (spBa C) := by
 have GDc : FnOk P w K mg base CX0 2 fDc dDc ["organ", "knobs", "word"] (spDc C) := ok_Dc N T
 have GBs : FnOk P w K mg base CX0 4 fBs dBs ["organ", "knob", "keys"] (spBs C) := ok_Bs N T
 have GUn : FnOk P w K mg base CX0 1 fUn dUn ["sets"] spUn := ok_Un N T
 refine N.FBa.ok scBa (fun vs H Q E h => ?_) (fun cdv A outer s H vs Q E hr h => ?_)
 ·obtain ⟨x, c, sz, rk, kbs, ls, D, n, rfl, _⟩ := h
  rfl
 ·obtain ⟨x, c, sz, rk, kbs, ls, D, n, rfl, O, hkb, hls, hn, q⟩ := h
  have hrDc : Room 2 _ := hr.mono (by decide)
  have hrBs : Room 4 _ := hr.mono (by decide)
  have hrUn : Room 1 _ := hr.mono (by decide)
  refine ⟨_, (pss_one (ps_ret (pe_call GUn hrUn rfl N.mUn N.FUn.kp N.bUn .nil pass0 (pa_cons (pe_comp rfl (compScope (osc := defScope sBa) (N := ["organ", "knobs", "keys"]) rfl rfl (by decide +kernel)) (pi_list (pe_call GDc hrDc rfl N.mDc N.FDc.kp N.bDc .nil pass0 (pa_cons (pv 0) (pa_cons (pv 1) (pa_cons pe_str pa_nil))))) (fun _ _ _ _ => pf_nil) (fun _ _ _ _ => (pe_call GBs hrBs rfl N.mBs N.FBs.kp N.bBs .nil pass0 (pa_cons (pv 1) (pa_cons (pv 0) (pa_cons (pv 3) pa_nil)))))) pa_nil)))), ?_⟩
  refine ⟨_, rfl, _, rfl, x, bsOf c sz, ksOf c kbs, "stop", D, rfl, O.o, fun CL cl H1 hCL s1 hl1 hcl0 hcll => ?_⟩
  have hcl : ∀ k, k ∈ cl ↔ ∃ z, kbs[k]? = some z /\ z.w = "stop" /\ D.testBit k = true := fun k => by
   rw [hcl0]
   constructor
   ·rintro ⟨r, hr, hw, hd⟩
    obtain ⟨z, hz, rfl⟩ := ksOf_get' hr
    exact ⟨z, hz, (kRow_w _ _ _).symm.trans hw, hd⟩
   ·rintro ⟨z, hz, hw, hd⟩
    exact ⟨_, ksOf_get hz, (kRow_w _ _ _).trans hw, hd⟩
  have hS1 : SqL K H1 CL (nV cl) := .inl (.inl hl1)
  have O1 := O.mono s1
  let g : V -> V := fun v => match v with | .int k => .int (bsP sz rk (bdN kbs k.toNat) (ls.getD k.toNat []) n : Nat) | _ => .non
  refine ⟨CL, rfl, ⟨_, hS1⟩, comp_sq (K := K) (xs := nV cl) (fun _ => true) g hS1 (small1000 (by rw [List.length_map]; omega)) (fun y hy H' hs R k => k H' (Same.refl H')) (fun y hy _ H' hs R k => ?_) (fun D2 H2 hD2 s2 hl2 => ?_)⟩
  ·obtain ⟨i, hi, rfl⟩ := List.mem_map.mp hy
   obtain ⟨z, hz, hw, hd⟩ := (hcl i).mp hi
   have hik : i < ls.length := by
    rw [O.nl, ksOf_len]
    exact (List.getElem?_eq_some_iff.mp hz).1
   have hli := List.getElem?_eq_getElem hik
   have egd : ls.getD i [] = ls[i] := by rw [List.getD_eq_getElem?_getD, hli]; rfl
   have hg := hls ls[i] (List.getElem_mem hik)
   refine ⟨_, rfl, _, rfl, _, rfl, x, c, sz, rk, kbs, ls, i, n, z, ls[i], rfl, O1.mono hs, hkb, hz, hli, hg.1, hg.2, hn, fun H4 s4 => ?_⟩
   have kk : R (.int (bsP sz rk (bdN kbs i) (ls.getD i []) n : Nat)) H4 := k H4 s4
   rw [egd] at kk
   exact kk
  ·rw [List.filter_eq_self.mpr (fun _ _ => rfl)] at hl2
   have e : (nV cl).map g = nV (cl.map fun k => bsP sz rk (bdN kbs k) (ls.getD k []) n) := by
    unfold nV
    rw [List.map_map, List.map_map]
    rfl
   rw [e] at hl2
   exact ⟨D2, _, rfl, hl2, (by rw [List.length_map]; omega), q cl H2 (s1.trans s2) hcl⟩
def spSo (C : Addr) : Sp := fun vs H Q _ => ∃ (x : Addr) (c : Nat -> Str) (sz : List Nat) (rk : List (Str × Nat × Int)) (kbs : List Kb) (ls : List (List Ln)) (D n : Nat), vs = [.ref x, .int (D : Nat), .int (n : Nat)] /\ OrgAt2 C H x (bsOf c sz) rk (ksOf c kbs) ls /\ Kbs sz.length kbs /\ LsG rk ls /\ n < 2 ^ 1200 /\ (∀ i, n.testBit i = true -> i < sz.sum) /\
 ∀ (cl : List Nat) (m : Nat) H', Same H H' -> (∀ k, k ∈ cl ↔ ∃ z, kbs[k]? = some z /\ z.w = "stop" /\ D.testBit k = true) -> (∀ j, m.testBit j = true ↔ Speaks c sz kbs D n j) -> Q (.int (baP sz rk kbs ls cl m : Nat)) H'
theorem scSo : FnScope ["organ", "knobs", "held"] ["organ", "knobs", "held"] (defScope sSo) := ⟨rfl, rfl, rfl, by decide +kernel, rfl, by decide +kernel, by decide +kernel⟩
include N T in
theorem ok_So : FnOk P w K mg base CX0 7 fSo dSo ["organ", "knobs", "held"] (spSo C) := by
 have GSk : FnOk P w K mg base CX0 6 fSk dSk ["organ", "knobs", "held"] (spSk C) := ok_Sk N T
 have GBa : FnOk P w K mg base CX0 5 fBa dBa ["organ", "knobs", "keys"] (spBa C) := ok_Ba N T
 refine N.FSo.ok scSo (fun vs H Q E h => ?_) (fun cdv A outer s H vs Q E hr h => ?_)
 ·obtain ⟨x, c, sz, rk, kbs, ls, D, n, rfl, _⟩ := h
  rfl
 ·obtain ⟨x, c, sz, rk, kbs, ls, D, n, rfl, O, hkb, hls, hn, hnt, q⟩ := h
  have hrSk : Room 6 _ := hr.mono (by decide)
  have hrBa : Room 5 _ := hr.mono (by decide)
  refine ⟨_, (pss_one (ps_ret (pe_call GBa hrBa rfl N.mBa N.FBa.kp N.bBa .nil pass0 (pa_cons (pv 0) (pa_cons (pv 1) (pa_cons (pe_call GSk hrSk rfl N.mSk N.FSk.kp N.bSk .nil pass0 (pa_cons (pv 0) (pa_cons (pv 1) (pa_cons (pv 2) pa_nil)))) pa_nil)))))), ?_⟩
  have h305 := plc_305 O.o
  rw [bsOf_szs] at h305
  refine ⟨_, rfl, _, rfl, _, rfl, _, rfl, _, rfl, x, c, sz, kbs, D, n, rfl, O.o, hkb, hn, hnt, fun m H1 s1 hm => ?_⟩
  have hm12 : m < 2 ^ 1200 := by
   refine Nat.lt_pow_two_of_testBit m fun i hi => ?_
   rw [← Bool.not_eq_true]
   intro hb
   rcases (hm i).mp hb with h | h
   ·have := h.lt
    rw [bsOf_szs] at this
    omega
   ·have := hnt i h.1
    omega
  exact ⟨x, c, sz, rk, kbs, ls, D, m, rfl, O.mono s1, hkb, hls, hm12, fun cl H2 s2 hcl => q cl m H2 (s1.trans s2) hcl hm⟩
theorem nb_bit (sz : List Nat) (b n i : Nat) : (nbP sz b n).testBit i = true ↔ i < sz.getD b 0 /\ n.testBit ((sz.take b).sum + i) = true := by
 unfold nbP
 rw [Wd.mv_bit]
 have e : ((i : Int) - -(((sz.take b).sum : Nat) : Int)).toNat = (sz.take b).sum + i := by omega
 rw [e, Bool.and_eq_true, Bool.and_eq_true, decide_eq_true_eq, decide_eq_true_eq]
 exact ⟨fun h => ⟨h.1, h.2.2⟩, fun h => ⟨h.1, by omega, h.2⟩⟩
theorem led_bit {rk : List (Str × Nat × Int)} {l : Ln} (g : LnG rk l) (n p : Nat) : (ledP rk l n).testBit p = true ↔ ∃ i : Nat, n.testBit i = true /\ l.lo <= (i : Int) /\ (i : Int) <= l.hi /\ 0 <= (i : Int) + l.sh /\ (i : Int) + l.sh < (szRk rk l.r : Nat) /\ (p : Int) = (stR rk l.r : Nat) + ((i : Int) + l.sh) := by
 have h1 := g.lo
 have h2 := g.le
 have h3 := stR_to g.r
 unfold ledP
 rw [Wd.mv_bit, Wd.mv_bit, Wd.mv_bit]
 simp only [Bool.and_eq_true, decide_eq_true_eq]
 constructor
 ·rintro ⟨a1, a2, b1, b2, c1, c2, hn⟩
  exact ⟨_, hn, by omega, by omega, by omega, by omega, by omega⟩
 ·rintro ⟨i, hn, a1, a2, a3, a4, e⟩
  have ei : (((((((p : Int) - ((stR rk l.r : Nat) : Int)).toNat : Nat) : Int) - (l.lo + l.sh)).toNat : Nat) : Int) - -l.lo = (i : Int) := by omega
  refine ⟨by omega, by omega, by omega, by omega, by omega, by omega, ?_⟩
  rw [ei, Int.toNat_natCast]
  exact hn
theorem bs_bit {sz : List Nat} {rk : List (Str × Nat × Int)} {b : Nat} {l : List Ln} {n p : Nat} (g : ∀ ln ∈ l, LnG rk ln) : (bsP sz rk b l n).testBit p = true ↔ ∃ ln ∈ l, ∃ i : Nat, i < sz.getD b 0 /\ n.testBit ((sz.take b).sum + i) = true /\ ln.lo <= (i : Int) /\ (i : Int) <= ln.hi /\ 0 <= (i : Int) + ln.sh /\ (i : Int) + ln.sh < (szRk rk ln.r : Nat) /\ (p : Int) = (stR rk ln.r : Nat) + ((i : Int) + ln.sh) := by
 unfold bsP
 rw [orL_bit]
 constructor
 ·rintro ⟨m, hm, hb⟩
  obtain ⟨ln, hl, rfl⟩ := List.mem_map.mp hm
  obtain ⟨i, hi, r⟩ := (led_bit (g ln hl) _ _).mp hb
  obtain ⟨x, y⟩ := (nb_bit _ _ _ _).mp hi
  exact ⟨ln, hl, i, x, y, r⟩
 ·rintro ⟨ln, hl, i, x, y, r⟩
  exact ⟨_, List.mem_map_of_mem hl, (led_bit (g ln hl) _ _).mpr ⟨i, (nb_bit _ _ _ _).mpr ⟨x, y⟩, r⟩⟩
theorem ba_bit {sz : List Nat} {rk : List (Str × Nat × Int)} {kbs : List Kb} {ls : List (List Ln)} {cl : List Nat} {n p : Nat} : (baP sz rk kbs ls cl n).testBit p = true ↔ ∃ k ∈ cl, (bsP sz rk (bdN kbs k) (ls.getD k []) n).testBit p = true := by
 unfold baP
 rw [orL_bit]
 constructor
 ·rintro ⟨m, hm, hb⟩
  obtain ⟨k, hk, rfl⟩ := List.mem_map.mp hm
  exact ⟨k, hk, hb⟩
 ·rintro ⟨k, hk, hb⟩
  exact ⟨_, List.mem_map_of_mem hk, hb⟩
def spCe (K : PySem.W.Frag) : Sp := fun vs H Q _ => ∃ (a : Addr) (k : Nat) (ns : List Int), vs = [.ref a, .int (k : Nat)] /\ SqL K H a (ns.map V.int) /\ ∀ i : Int, Q (.int i) H
theorem scCe : FnScope ["_law_script", "_law_k"] ["_law_script", "_law_k"] (defScope sCe) := ⟨rfl, rfl, rfl, by decide +kernel, rfl, by decide +kernel, by decide +kernel⟩
include N T in
theorem ok_Ce : FnOk P w K mg base CX0 1 fCe dCe ["_law_script", "_law_k"] (spCe K) := by
 refine N.FCe.ok scCe (fun vs H Q E h => ?_) (fun cdv A outer s H vs Q E hr h => ?_)
 ·obtain ⟨a, k, ns, rfl, _⟩ := h
  rfl
 ·obtain ⟨a, k, ns, rfl, hS, q⟩ := h
  refine ⟨_, (pss_cons (ps_if (pt_cmpR op_lt (pv 1) (pe_callB call_len_seq rfl T.len PySem.boot_len (pa_cons (pv 0) pa_nil)) (nomark _)) (pss_one (ps_ret (pe_ix ix_list (pv 0) (pv 1) (fun _ _ => rfl)))) pss_nil)
   (pss_one (ps_ret pe_int))), ?_⟩
  refine ⟨_, rfl, _, rfl, a, _, rfl, .inl hS, _, _, rfl, rfl, _, rfl, ?_⟩
  refine ite2 (fun h1 => ?_) (fun _ => q 0)
  have hlt : k < ns.length := by have := of_decide_eq_true h1; rw [List.length_map] at this; omega
  exact ⟨_, rfl, _, rfl, a, _, _, .int ns[k], rfl, rfl, hS, atI_nat (by rw [List.getElem?_map, List.getElem?_eq_getElem hlt]; rfl), q _⟩
theorem scLw : FnScope ["_law_found"] ["_law_found"] (defScope sLw) := ⟨rfl, rfl, rfl, by decide +kernel, rfl, by decide +kernel, by decide +kernel⟩
include N T in
theorem ok_Lw : FnOk P w K mg base CX0 1 fLw dLw ["_law_found"] spWh := by
 refine N.FLw.ok scLw (fun vs H Q E h => ?_) (fun cdv A outer s H vs Q E hr h => ?_)
 ·obtain ⟨i, rfl, _⟩ := h
  rfl
 ·obtain ⟨i, rfl, q⟩ := h
  refine ⟨_, (pss_one (ps_ret (pe_and (pe_callB call_isin rfl T.isin PyProof.Rows.boot_isinstance (pa_cons (pv 0) (pa_cons (pe_bltn (v := .ty "int") rfl T.int PyProof.Rows.boot_int rfl) pa_nil))) (pe_one (pe_not (pe_callB call_isin rfl T.isin PyProof.Rows.boot_isinstance (pa_cons (pv 0) (pa_cons (pe_bltn (v := .ty "bool") rfl T.bool PyProof.Rows.boot_bool rfl) pa_nil)))))))), ?_⟩
  refine ⟨_, rfl, _, "int", _, _, rfl, .int i, ty_int, _, rfl, iteT ?_⟩
  exact ⟨_, rfl, _, "bool", _, _, rfl, .int i, ty_ib, _, rfl, q⟩
def spMx : Sp := fun vs H Q _ => ∃ (c k : Int), vs = [.int c, .int k] /\ 0 <= k /\ k <= 1000 /\ Q (.int (mixX c k)) H
theorem scMx : FnScope ["_law_cell", "_law_k", "_law_number"] ["_law_cell", "_law_k"] (defScope sMx) := ⟨rfl, rfl, rfl, by decide +kernel, rfl, by decide +kernel, by decide +kernel⟩
include N T in
theorem ok_Mx : FnOk P w K mg base CX0 1 fMx dMx ["_law_cell", "_law_k"] spMx := by
 refine N.FMx.ok scMx (fun vs H Q E h => ?_) (fun cdv A outer s H vs Q E hr h => ?_)
 ·obtain ⟨c, k, rfl, _⟩ := h
  rfl
 ·obtain ⟨c, k, rfl, h0, h1, q⟩ := h
  refine ⟨_, (pss_cons (ps_if (PW.pt (pw_and (pt_cmpR op_ge (pv 0) (pe_op op_pow pe_int pe_int) (nomark _)) (pw_and1 (pt_cmpR op_gt (pe_op op_shr (pv 0) (pe_op op_mul pe_int (pv 1))) pe_int (nomark _))))) (pss_one (ps_ret (pe_op op_mod (pe_op op_shr (pv 0) (pe_op op_mul pe_int (pv 1))) pe_int))) pss_nil)
   (pss_cons (ps_set (i := 2) scMx.nd rfl (Or.inl rfl) (pe_op op_mod (pe_op op_mul (pe_op op_add (pe_op op_add (pe_op op_add (pe_op op_mod (pv 0) pe_int) (pe_op op_mul (pe_op op_mul pe_int (pv 1)) (pv 1))) (pv 1)) pe_int) pe_int) pe_int))
   (pss_one (ps_ret (pe_op op_mod (pe_op op_mul (pv 2) (pv 2)) pe_int))))), ?_⟩
  have rest : (decide ((10 : Int) ^ (18 : Int).toNat <= c) && decide (0 < c / 2 ^ (31 * k).toNat)) = false -> tSeq (tAsg (tOp (rI (fun _ j => 0 < j) fun i j => .int (i % j)) (tOp (rI CMul fun i j => .int (i * j)) (tOp (rI0 fun i j => .int (i + j)) (tOp (rI0 fun i j => .int (i + j)) (tOp (rI0 fun i j => .int (i + j)) (tOp (rI (fun _ j => 0 < j) fun i j => .int (i % j)) (tVar 0) (tC (.int 1000003))) (tOp (rI CMul fun i j => .int (i * j)) (tOp (rI CMul fun i j => .int (i * j)) (tC (.int 7919)) (tVar 1)) (tVar 1))) (tVar 1)) (tC (.int 1))) (tC (.int 48271))) (tC (.int 2147483629))) (gName 2)) (tRet (tOp (rI (fun _ j => 0 < j) fun i j => .int (i % j)) (tOp (rI CMul fun i j => .int (i * j)) (tVar 2) (tVar 2)) (tC (.int 2147483587)))) { nx := fun _ H' => Q .non H', rt := Q } [some (.int c), some (.int k), none] H := fun g => by
   refine ⟨_, rfl, _, _, rfl, rfl, (by show (0 : Int) < 1000003; decide), _, rfl, _, _, rfl, rfl, .inl ⟨by decide, by decide⟩, _, rfl, _, _, rfl, rfl, .inl ⟨by omega, by omega⟩, _, _, rfl, rfl, _, rfl, _, _, rfl, rfl, _, _, rfl, rfl, _, _, rfl, rfl, .inr ⟨by decide, by decide⟩, _, _, rfl, rfl, (by show (0 : Int) < 2147483629; decide), ?_⟩
   have g1 : 0 <= (c % 1000003 + 7919 * k * k + k + 1) * 48271 % 2147483629 := Int.emod_nonneg _ (by decide)
   have g2 : (c % 1000003 + 7919 * k * k + k + 1) * 48271 % 2147483629 < 2147483629 := Int.emod_lt_of_pos _ (by decide)
   have q' := q
   unfold mixX mixO at q'
   rw [g, if_neg Bool.false_ne_true] at q'
   exact ⟨_, rfl, _, rfl, _, _, rfl, rfl, .inl ⟨by omega, by omega⟩, _, _, rfl, rfl, (by show (0 : Int) < 2147483587; decide), q'⟩
  refine ⟨_, rfl, _, _, rfl, rfl, ⟨by decide, by decide, by decide⟩, _, _, rfl, rfl, _, rfl, ?_⟩
  refine ite2 (fun ga => ?_) (fun ga => ?_)
  ·refine ⟨_, rfl, _, rfl, _, _, rfl, rfl, .inl ⟨by decide, by decide⟩, _, _, rfl, rfl, (by show (0 : Int) <= 31 * k; omega), _, _, rfl, rfl, _, rfl, ?_⟩
   refine ite2 (fun gb => ?_) (fun gb => ?_)
   ·refine ⟨_, rfl, _, rfl, _, _, rfl, rfl, .inl ⟨by decide, by decide⟩, _, _, rfl, rfl, (by show (0 : Int) <= 31 * k; omega), _, _, rfl, rfl, (by show (0 : Int) < 2147483587; decide), ?_⟩
    have q' := q
    unfold mixX at q'
    rw [if_pos (by rw [Bool.and_eq_true]; exact ⟨ga, gb⟩)] at q'
    exact q'
   ·exact rest (by rw [(Bool.not_eq_true _).mp gb, Bool.and_false])
  ·refine iteF (rest (by rw [(Bool.not_eq_true _).mp ga, Bool.false_and]))
def spNa : Sp := fun vs H Q _ => ∃ (c : Int) (k : Nat), vs = [.int c, .int (k : Nat)] /\ k < 676 /\ ∀ H', Same H H' -> Q (.str (nmS c k)) H'
theorem scNa : FnScope ["_law_cell", "_law_k", "_law_letters", "_law_size", "_law_name_here", "_law_at", "_law_two"] ["_law_cell", "_law_k"] (defScope sNa) := ⟨rfl, rfl, rfl, by decide +kernel, rfl, by decide +kernel, by decide +kernel⟩
include N T in
theorem ok_Na : FnOk P w K mg base CX0 2 fNa dNa ["_law_cell", "_law_k"] spNa := by
 have GMx : FnOk P w K mg base CX0 1 fMx dMx ["_law_cell", "_law_k"] spMx := ok_Mx N T
 refine N.FNa.ok scNa (fun vs H Q E h => ?_) (fun cdv A outer s H vs Q E hr h => ?_)
 ·obtain ⟨c, k, rfl, _⟩ := h
  rfl
 ·obtain ⟨c, k, rfl, hk, q⟩ := h
  have hrMx : Room 1 _ := hr.mono (by decide)
  refine ⟨_, (pss_cons (ps_set (i := 2) scNa.nd rfl (Or.inr rfl) pe_str)
   (pss_cons (ps_set (i := 3) scNa.nd rfl (Or.inl rfl) (pe_op op_add pe_int (pe_op op_mod (pv 0) pe_int)))
   (pss_cons (ps_set (i := 4) scNa.nd rfl (Or.inl rfl) (pe_bm PySem.F.plainAttrs_str PySem.F.slot_str_join PySem.F.type_str_join mt_join pe_str (pa_cons (pe_comp rfl (compScope (osc := defScope sNa) (N := ["_law_cell", "_law_k", "_law_letters", "_law_size", "_law_name_here", "_law_at", "_law_two"]) rfl rfl (by decide +kernel)) (pi_range1 rfl T.range (pa_cons (pv 3) pa_nil)) (fun _ _ _ _ => pf_nil) (fun _ _ _ _ => (pe_ix ix_str (pv 3) (pe_op op_mod (pe_call GMx hrMx rfl N.mMx N.FMx.kp N.bMx .nil pass0 (pa_cons (pe_op op_fdiv (pv 1) pe_int) (pa_cons (pv 0) pa_nil))) pe_int) (fun _ _ => rfl)))) pa_nil)))
   (pss_cons (ps_set (i := 5) scNa.nd rfl (Or.inl rfl) (pe_op op_mod (pe_op op_fdiv (pv 0) pe_int) (pe_op op_sub (pv 3) pe_int)))
   (pss_cons (ps_set (i := 6) scNa.nd rfl (Or.inl rfl) (pe_op op_add_str (pe_ix ix_str (pv 2) (pe_op op_fdiv (pv 1) pe_int) (fun _ _ => rfl)) (pe_ix ix_str (pv 2) (pe_op op_mod (pv 1) pe_int) (fun _ _ => rfl))))
   (pss_one (ps_ret (pe_op op_add_str (pe_op op_add_str (pe_slice sl_str (pv 4) po_none (po_some (pv 5))) (pv 6)) (pe_slice sl_str (pv 4) (po_some (pe_op op_add (pv 5) pe_int)) po_none))))))))), ?_⟩
  have zl := szN_le c
  have ez : 2 + c % 7 = ((szN c : Nat) : Int) := by unfold szN; omega
  refine ⟨_, rfl, _, _, rfl, rfl, (by show (0 : Int) < 7; decide), _, _, rfl, rfl, rfl, ?_⟩
  refine ⟨_, rfl, 2 + c % 7, rfl, by omega, by omega, ?_⟩
  refine comp_range (lo := 0) (n := szN c) (fun _ => true) (fun i => .str ⟨#[97 + (mixX (c / 7) i % 26).toNat]⟩) (Nat.lt_of_le_of_lt zl.2 (by decide)) (fun i hi H' hs R k => k H' (Same.refl H')) (fun i hi _ H' hs R k => ?_) (fun D H1 hD s1 hl1 => ?_)
  ·have m0 : 0 <= mixX (c / 7) (0 + (i : Nat)) % 26 := Int.emod_nonneg _ (by decide)
   have m1 : mixX (c / 7) (0 + (i : Nat)) % 26 < 26 := Int.emod_lt_of_pos _ (by decide)
   exact ⟨_, rfl, _, rfl, _, _, rfl, rfl, ⟨by decide, by decide⟩, _, rfl, _, _, rfl, by omega, by omega, _, _, rfl, rfl, (by show (0 : Int) < 26; decide), letters, _, _, rfl, rfl, line20 (by decide +kernel), let_ix m0 m1, k H' (Same.refl H')⟩
  have e1 : ((((List.range (szN c)).map fun (i : Nat) => (0 : Int) + (i : Int)).filter fun _ => true).map fun i => V.str ⟨#[97 + (mixX (c / 7) i % 26).toNat]⟩) = ((baseL c).map fun x => (⟨#[x]⟩ : Str)).map V.str := by
   rw [List.filter_eq_self.mpr (fun _ _ => rfl)]
   unfold baseL
   rw [List.map_map, List.map_map, List.map_map]
   refine List.map_congr_left fun i _ => ?_
   show V.str ⟨#[97 + (mixX (c / 7) (0 + (i : Nat)) % 26).toNat]⟩ = V.str ⟨#[97 + (mixX (c / 7) (i : Nat) % 26).toNat]⟩
   rw [Int.zero_add]
  rw [e1] at hl1
  have hj : JoinOk ("" : Str) ((baseL c).map fun x => (⟨#[x]⟩ : Str)) = true := by
   refine PyProof.Rows.joinOk_of_weight ?_ (by decide +kernel)
   rw [List.map_map, List.length_map, base_len]
   have e2 : ((baseL c).map ((fun x : Str => x.length) ∘ fun x => (⟨#[x]⟩ : Str))).sum = (baseL c).length := by
    generalize baseL c = l
    induction l with
    | nil => rfl
    | cons a l ih =>
     rw [List.map_cons, List.sum_cons, ih, List.length_cons]
     show 1 + l.length = l.length + 1
     omega
   rw [e2, base_len]
   omega
  refine ⟨("" : Str), D, _, rfl, rfl, .inl (.inl hl1), hj, ?_⟩
  have ej := join_chars (baseL c)
  generalize Txt.join ("" : Str) ((baseL c).map fun x => (⟨#[x]⟩ : Str)) = z at ej ⊢
  have lz : z.length = szN c := by
   have : z.length = z.cps.toList.length := by simp [Str.length]
   rw [this, ej, base_len]
  have la := atN_le c
  have ea : c / 49 % (2 + c % 7 - 1) = ((atN c : Nat) : Int) := by
   have h1 : 0 <= c / 49 % (2 + c % 7 - 1) := Int.emod_nonneg _ (by omega)
   unfold atN
   omega
  refine ⟨_, rfl, _, _, rfl, rfl, ⟨by decide, by decide⟩, _, rfl, _, _, rfl, rfl, _, _, rfl, rfl, (by show (0 : Int) < 2 + c % 7 - 1; omega), ?_⟩
  refine ⟨_, rfl, _, rfl, _, _, rfl, rfl, ⟨by decide, by decide⟩, letters, _, _, rfl, rfl, line20 (by decide +kernel), let_ix (by omega) (by omega), _, rfl, _, rfl, _, _, rfl, rfl, (by show (0 : Int) < 26; decide), letters, _, _, rfl, rfl, line20 (by decide +kernel), let_ix (by omega) (by omega), _, _, rfl, rfl, line20 (by show 1 + 1 <= 1000; decide), ?_⟩
  have s1e := slice_take (z := z) (n := atN c) (by omega)
  have s2e := slice_drop (z := z) (n := atN c + 2) (by omega)
  rw [ej] at s1e s2e
  have l1 : (Txt.slice z none (some ((atN c : Nat) : Int))).length = atN c := by
   have : (Txt.slice z none (some ((atN c : Nat) : Int))).length = (Txt.slice z none (some ((atN c : Nat) : Int))).cps.toList.length := by simp [Str.length]
   rw [this, s1e, List.length_take, base_len]
   omega
  have l2 : (Txt.slice z (some ((atN c + 2 : Nat) : Int)) none).length <= szN c := by
   have : (Txt.slice z (some ((atN c + 2 : Nat) : Int)) none).length = (Txt.slice z (some ((atN c + 2 : Nat) : Int)) none).cps.toList.length := by simp [Str.length]
   rw [this, s2e, List.length_drop, base_len]
   omega
  have ea2 : c / 49 % (2 + c % 7 - 1) + 2 = ((atN c + 2 : Nat) : Int) := by rw [ea]; rfl
  have la2 : ∀ a b : Str, (a ++ b).length = a.length + b.length := fun a b => by
   show (a.cps ++ b.cps).size = a.cps.size + b.cps.size
   simp
  have lt : ((⟨#[97 + ((k : Int) / 26).toNat]⟩ : Str) ++ (⟨#[97 + ((k : Int) % 26).toNat]⟩ : Str)).length = 2 := by rw [la2]; rfl
  refine ⟨_, rfl, _, rfl, _, rfl, z, rfl, line20 (by omega), _, rfl, _, _, rfl, rfl, line20 (by show (Txt.slice z none (some (c / 49 % (2 + c % 7 - 1)))).length + ((⟨#[97 + ((k : Int) / 26).toNat]⟩ : Str) ++ (⟨#[97 + ((k : Int) % 26).toNat]⟩ : Str)).length <= 1000; rw [ea, l1, lt]; omega), _, rfl, _, rfl, _, _, rfl, rfl, _, rfl, z, rfl, line20 (by omega), _, _, rfl, rfl, line20 (by
   show (Txt.slice z none (some (c / 49 % (2 + c % 7 - 1))) ++ ((⟨#[97 + ((k : Int) / 26).toNat]⟩ : Str) ++ (⟨#[97 + ((k : Int) % 26).toNat]⟩ : Str))).length + (Txt.slice z (some (c / 49 % (2 + c % 7 - 1) + 2)) none).length <= 1000
   rw [la2, lt, ea2, ea, l1]
   omega), ?_⟩
  have fin := q H1 s1
  have e9 : (Txt.slice z none (some (c / 49 % (2 + c % 7 - 1))) ++ ((⟨#[97 + ((k : Int) / 26).toNat]⟩ : Str) ++ (⟨#[97 + ((k : Int) % 26).toNat]⟩ : Str))) ++ Txt.slice z (some (c / 49 % (2 + c % 7 - 1) + 2)) none = nmS c k := by
   rw [ea2, ea]
   refine str_ext ?_
   have la3 : ∀ a b : Str, (a ++ b).cps.toList = a.cps.toList ++ b.cps.toList := fun a b => by
    show (a.cps ++ b.cps).toList = _
    simp
   rw [la3, la3, la3, s1e, s2e]
   have k1 : ((k : Int) / 26).toNat = k / 26 := by omega
   have k2 : ((k : Int) % 26).toNat = k % 26 := by omega
   rw [k1, k2]
   simp [nmS, nameL]
  rw [← e9] at fin
  exact fin
def spSz : Sp := fun vs H Q _ => ∃ (c : Int) (m mx : Nat), vs = [.int c, .int (m : Nat), .int (mx : Nat)] /\ 1 <= m /\ m <= 5 /\ 1 <= mx /\ mx <= 61 /\ ∀ D (sz : List Nat) H', H D = none -> Same H H' -> H' D = some (.lst (sz.map fun n : Nat => V.int (n : Nat))) -> sz.length = m -> (∀ s ∈ sz, 1 <= s /\ s <= mx) -> Q (.ref D) H'
theorem scSz : FnScope ["_law_cell", "_law_many", "_law_most"] ["_law_cell", "_law_many", "_law_most"] (defScope sSz) := ⟨rfl, rfl, rfl, by decide +kernel, rfl, by decide +kernel, by decide +kernel⟩
include N T in
theorem ok_Sz : FnOk P w K mg base CX0 2 fSz dSz ["_law_cell", "_law_many", "_law_most"] spSz := by
 have GMx : FnOk P w K mg base CX0 1 fMx dMx ["_law_cell", "_law_k"] spMx := ok_Mx N T
 refine N.FSz.ok scSz (fun vs H Q E h => ?_) (fun cdv A outer s H vs Q E hr h => ?_)
 ·obtain ⟨c, m, mx, rfl, _⟩ := h
  rfl
 ·obtain ⟨c, m, mx, rfl, hm0, hm, hx0, hx, q⟩ := h
  have hrMx : Room 1 _ := hr.mono (by decide)
  refine ⟨_, (pss_one (ps_ret (pe_comp rfl (compScope (osc := defScope sSz) (N := ["_law_cell", "_law_many", "_law_most"]) rfl rfl (by decide +kernel)) (pi_range1 rfl T.range (pa_cons (pv 1) pa_nil)) (fun _ _ _ _ => pf_nil) (fun _ _ _ _ => (pe_op op_add pe_int (pe_op op_mod (pe_call GMx hrMx rfl N.mMx N.FMx.kp N.bMx .nil pass0 (pa_cons (pv 1) (pa_cons (pe_op op_add pe_int (pv 0)) pa_nil))) (pv 3))))))), ?_⟩
  refine ⟨_, rfl, _, rfl, by omega, by omega, ?_⟩
  rw [Int.toNat_natCast]
  refine comp_range (lo := 0) (n := m) (fun _ => true) (fun i => .int (1 + mixX c (50 + i) % (mx : Nat))) (Nat.lt_of_le_of_lt hm (by decide)) (fun i hi H' hs R k => k H' (Same.refl H')) (fun i hi _ H' hs R k => ?_) (fun D H1 hD s1 hl1 => ?_)
  ·exact ⟨_, rfl, _, rfl, _, _, rfl, rfl, _, _, rfl, by omega, by omega, _, rfl, _, _, rfl, rfl, (by show (0 : Int) < (mx : Nat); omega), _, _, rfl, rfl, k H' (Same.refl H')⟩
  ·refine q D ((List.range m).map fun (i : Nat) => (1 + mixX c (50 + (0 + (i : Nat))) % (mx : Nat)).toNat) H1 hD s1 ?_ (by simp) (fun s hs => ?_)
   ·rw [hl1, List.filter_eq_self.mpr (fun _ _ => rfl), List.map_map, List.map_map]
    refine congrArg (fun l => some (HO.lst l)) (List.map_congr_left fun i _ => ?_)
    have h1 : 0 <= mixX c (50 + (0 + (i : Int))) % (mx : Nat) := Int.emod_nonneg _ (by omega)
    show V.int (1 + mixX c (50 + (0 + (i : Int))) % (mx : Nat)) = V.int (((1 + mixX c (50 + (0 + (i : Int))) % (mx : Nat)).toNat : Nat) : Int)
    rw [Int.toNat_of_nonneg (by omega)]
   ·obtain ⟨i, _, rfl⟩ := List.mem_map.mp hs
    have h1 : 0 <= mixX c (50 + (0 + (i : Int))) % (mx : Nat) := Int.emod_nonneg _ (by omega)
    have h2 : mixX c (50 + (0 + (i : Int))) % (mx : Nat) < (mx : Nat) := Int.emod_lt_of_pos _ (by omega)
    omega
def spLn : Sp := fun vs H Q _ => ∃ (c : Int) (s : Nat) (p : Addr) (pz : List Nat), vs = [.int c, .int (s : Nat), .ref p] /\ H p = some (.lst (pz.map fun n : Nat => V.int (n : Nat))) /\ 1 <= pz.length /\ pz.length <= 4 /\ (∀ z ∈ pz, 1 <= z /\ z <= 97) /\ 1 <= s /\ s <= 61 /\ ∀ A (l : List Ln) ts H', H A = none -> Same H H' -> H' A = some (.lst ts) -> Paired (fun x y => TupAt H' (lnV x) y) l ts -> l.length <= 4 -> (∀ x ∈ l, LnW s pz x) -> Q (.ref A) H'
theorem scLn : FnScope ["_law_cell", "_law_size", "_law_pipes", "_law_lines_here", "_law_k", "_law_rank", "_law_low", "_law_high", "_law_number", "_law_shift"] ["_law_cell", "_law_size", "_law_pipes"] (defScope sLn) := ⟨rfl, rfl, rfl, by decide +kernel, rfl, by decide +kernel, by decide +kernel⟩
include N T in
theorem ok_Ln : FnOk P w K mg base CX0 2 fLn dLn ["_law_cell", "_law_size", "_law_pipes"] spLn := by
 have GMx : FnOk P w K mg base CX0 1 fMx dMx ["_law_cell", "_law_k"] spMx := ok_Mx N T
 refine N.FLn.ok scLn (fun vs H Q E h => ?_) (fun cdv A outer s H vs Q E hr h => ?_)
 ·obtain ⟨c, s0, p, pz, rfl, _⟩ := h
  rfl
 ·obtain ⟨c, s0, p, pz, rfl, hp, h0, h4, hz, hs0, hs1, q⟩ := h
  have hrMx : Room 1 _ := hr.mono (by decide)
  refine ⟨_, (pss_cons (ps_set (i := 3) scLn.nd rfl (Or.inl rfl) (pe_lst pa_nil))
   (pss_cons (ps_for PassesOwn.never rfl (pi_range1 rfl T.range (pa_cons (pe_op op_add (pe_op op_mod (pe_call GMx hrMx rfl N.mMx N.FMx.kp N.bMx .nil pass0 (pa_cons (pv 0) (pa_cons pe_int pa_nil))) pe_int) (pe_callTy call_int1 rfl T.int PyProof.Rows.boot_int (pa_cons (pe_cmpR op_eq (pe_op op_mod (pe_call GMx hrMx rfl N.mMx N.FMx.kp N.bMx .nil pass0 (pa_cons (pv 0) (pa_cons pe_int pa_nil))) pe_int) pe_int (nomark _)) pa_nil))) pa_nil)) (pg_name (i := 4) scLn.nd rfl (Or.inl rfl)) (pss_cons (ps_set (i := 5) scLn.nd rfl (Or.inl rfl) (pe_op op_mod (pe_call GMx hrMx rfl N.mMx N.FMx.kp N.bMx .nil pass0 (pa_cons (pv 0) (pa_cons (pe_op op_add pe_int (pv 4)) pa_nil))) (pe_callB call_len_seq rfl T.len PySem.boot_len (pa_cons (pv 2) pa_nil))))
   (pss_cons (ps_set (i := 6) scLn.nd rfl (Or.inl rfl) (pe_op op_mod (pe_call GMx hrMx rfl N.mMx N.FMx.kp N.bMx .nil pass0 (pa_cons (pv 0) (pa_cons (pe_op op_add pe_int (pv 4)) pa_nil))) (pv 1)))
   (pss_cons (ps_set (i := 7) scLn.nd rfl (Or.inl rfl) (pe_op op_add (pv 6) (pe_op op_mod (pe_call GMx hrMx rfl N.mMx N.FMx.kp N.bMx .nil pass0 (pa_cons (pv 0) (pa_cons (pe_op op_add pe_int (pv 4)) pa_nil))) (pe_op op_sub (pv 1) (pv 6)))))
   (pss_cons (ps_set (i := 8) scLn.nd rfl (Or.inl rfl) (pe_call GMx hrMx rfl N.mMx N.FMx.kp N.bMx .nil pass0 (pa_cons (pv 0) (pa_cons (pe_op op_add pe_int (pv 4)) pa_nil))))
   (pss_cons (ps_set (i := 9) scLn.nd rfl (Or.inl rfl) (pe_ix ix_list (pe_lst (pa_cons pe_int (pa_cons (pe_op op_sub (pe_op op_mod (pe_op op_fdiv (pv 8) pe_int) pe_int) pe_int) (pa_cons (pe_op op_sub (pe_op op_sub (pe_ix (ix_listK (K := K) rfl) (pv 2) (pv 5) (fun _ _ => rfl)) pe_int) (pv 7)) (pa_cons (pe_op op_sub (pe_op op_mod (pe_op op_fdiv (pv 8) pe_int) pe_int) pe_int) pa_nil))))) (pe_op op_mod (pv 8) pe_int) (fun _ _ => rfl)))
   (pss_one (ps_expr (pe_bm PySem.F.plainAttrs_list PySem.F.slot_list_append PySem.F.type_list_append mt_append (pv 3) (pa_cons (pe_tup (pa_cons (pv 5) (pa_cons (pv 9) (pa_cons (pv 6) (pa_cons (pv 7) pa_nil))))) pa_nil))))))))))
   (pss_one (ps_ret (pv 3))))), ?_⟩
  have hlen : (((pz.map fun n : Nat => V.int (n : Nat)).length : Nat) : Int) = ((pz.length : Nat) : Int) := by rw [List.length_map]
  refine ⟨line20 (by simp), fun D hD => ?_⟩
  have t0 := same_upd (o := HO.lst []) hD
  have u0 : upd H D (HO.lst []) D = some (.lst []) := upd_same
  generalize upd H D (HO.lst []) = H0 at t0 u0 ⊢
  have m4 : 0 <= mixX c 21 % 4 /\ mixX c 21 % 4 < 4 := ⟨Int.emod_nonneg _ (by decide), Int.emod_lt_of_pos _ (by decide)⟩
  have bl : ∀ b : Bool, 0 <= (if b = true then (1 : Int) else 0) /\ (if b = true then (1 : Int) else 0) <= 1 := fun b => by cases b <;> decide
  refine ⟨_, rfl, _, _, rfl, by decide, by decide, _, _, rfl, rfl, (by show (0 : Int) < 4; decide), _, rfl, _, _, rfl, by decide, by decide, _, _, rfl, rfl, (by show (0 : Int) < 8; decide), rfl, .inr ⟨_, rfl, ?_⟩⟩
  have bb := bl (decide (V.int (mixX c 22 % 8) = V.int 0))
  generalize (if decide (V.int (mixX c 22 % 8) = V.int 0) = true then (1 : Int) else 0) = b0 at bb ⊢
  obtain ⟨n, en, hn⟩ : ∃ n : Nat, mixX c 21 % 4 + b0 = (n : Int) /\ n <= 4 := ⟨(mixX c 21 % 4 + b0).toNat, by omega, by omega⟩
  refine ⟨_, _, rfl, rfl, _, rfl, (by rw [en]; omega), (by rw [en]; omega), ?_⟩
  rw [en, Int.toNat_natCast]
  refine for_range (lo := 0) (n := n) (fun i σ H4 => Same H H4 /\ ∃ (l : List Ln) (ts : List V), H4 D = some (.lst ts) /\ Paired (fun x y => TupAt H4 (lnV x) y) l ts /\ l.length = i /\ (∀ x ∈ l, LnW s0 pz x) /\ ∃ v4 v5 v6 v7 v8 v9, σ = [some (.int c), some (.int (s0 : Nat)), some (.ref p), some (.ref D), v4, v5, v6, v7, v8, v9])
   ⟨t0, [], [], u0, .nil, rfl, (fun x hx => nomatch hx), _, _, _, _, _, _, rfl⟩ ?_ ?_
  ·rintro i σ H4 hi ⟨s4, l, ts, hd, hpr, hll, hg, v4, v5, v6, v7, v8, v9, rfl⟩
   have hp4 := s4 _ _ hp
   refine ⟨_, rfl, _, rfl, _, _, rfl, rfl, _, _, rfl, by omega, by omega, _, rfl, p, _, rfl, .inl (.inl (.inl hp4)), _, _, rfl, rfl, (by show (0 : Int) < (((pz.map fun n : Nat => V.int (n : Nat)).length : Nat) : Int); rw [hlen]; omega), ?_⟩
   rw [hlen]
   show gName 5 (V.int (mixX c (23 + (0 + (i : Int))) % ((pz.length : Nat) : Int))) _ _ _
   obtain ⟨r, er, hr⟩ : ∃ r : Nat, mixX c (23 + (0 + (i : Int))) % ((pz.length : Nat) : Int) = (r : Int) /\ r < pz.length := by
    have g1 : 0 <= mixX c (23 + (0 + (i : Int))) % ((pz.length : Nat) : Int) := Int.emod_nonneg _ (by omega)
    have g2 : mixX c (23 + (0 + (i : Int))) % ((pz.length : Nat) : Int) < ((pz.length : Nat) : Int) := Int.emod_lt_of_pos _ (by omega)
    exact ⟨(mixX c (23 + (0 + (i : Int))) % ((pz.length : Nat) : Int)).toNat, by omega, by omega⟩
   rw [er]
   refine ⟨_, rfl, _, rfl, _, _, rfl, rfl, _, _, rfl, by omega, by omega, _, rfl, _, _, rfl, rfl, (by show (0 : Int) < ((s0 : Nat) : Int); omega), ?_⟩
   show gName 6 (V.int (mixX c (28 + (0 + (i : Int))) % ((s0 : Nat) : Int))) _ _ _
   have lo0 : 0 <= mixX c (28 + (0 + (i : Int))) % ((s0 : Nat) : Int) := Int.emod_nonneg _ (by omega)
   have lo1 : mixX c (28 + (0 + (i : Int))) % ((s0 : Nat) : Int) < ((s0 : Nat) : Int) := Int.emod_lt_of_pos _ (by omega)
   generalize mixX c (28 + (0 + (i : Int))) % ((s0 : Nat) : Int) = lo at lo0 lo1 ⊢
   refine ⟨_, rfl, _, rfl, _, rfl, _, _, rfl, rfl, _, _, rfl, by omega, by omega, _, rfl, _, rfl, _, _, rfl, rfl, _, _, rfl, rfl, (by show (0 : Int) < ((s0 : Nat) : Int) - lo; omega), _, _, rfl, rfl, ?_⟩
   show gName 7 (V.int (lo + mixX c (33 + (0 + (i : Int))) % (((s0 : Nat) : Int) - lo))) _ _ _
   have hi0 : 0 <= mixX c (33 + (0 + (i : Int))) % (((s0 : Nat) : Int) - lo) := Int.emod_nonneg _ (by omega)
   have hi1 : mixX c (33 + (0 + (i : Int))) % (((s0 : Nat) : Int) - lo) < ((s0 : Nat) : Int) - lo := Int.emod_lt_of_pos _ (by omega)
   generalize mixX c (33 + (0 + (i : Int))) % (((s0 : Nat) : Int) - lo) = hx at hi0 hi1 ⊢
   refine ⟨_, rfl, _, rfl, _, _, rfl, rfl, _, _, rfl, by omega, by omega, ?_⟩
   show gName 8 (V.int (mixX c (38 + (0 + (i : Int))))) _ _ _
   generalize mixX c (38 + (0 + (i : Int))) = nu
   have hpr4 : atI (pz.map fun n : Nat => V.int (n : Nat)) (r : Int) = some (.int (pz[r] : Nat)) := atI_nat (by rw [List.getElem?_map, List.getElem?_eq_getElem hr]; rfl)
   have hzr := hz pz[r] (List.getElem_mem hr)
   have m5 : 0 <= nu / 8 % 5 /\ nu / 8 % 5 < 5 := ⟨Int.emod_nonneg _ (by decide), Int.emod_lt_of_pos _ (by decide)⟩
   have m401 : 0 <= nu / 8 % 401 /\ nu / 8 % 401 < 401 := ⟨Int.emod_nonneg _ (by decide), Int.emod_lt_of_pos _ (by decide)⟩
   have mm4 : 0 <= nu % 4 /\ nu % 4 < 4 := ⟨Int.emod_nonneg _ (by decide), Int.emod_lt_of_pos _ (by decide)⟩
   obtain ⟨v, hv, hm⟩ := atI_in (xs := [V.int 0, V.int (nu / 8 % 5 - 2), V.int (((pz[r] : Nat) : Int) - 1 - (lo + hx)), V.int (nu / 8 % 401 - 200)]) (i := nu % 4) mm4.1 mm4.2
   obtain ⟨sh, rfl, hsh0, hsh1⟩ : ∃ sh : Int, v = .int sh /\ -200 <= sh /\ sh <= 200 := by
    simp only [List.mem_cons, List.mem_singleton, List.not_mem_nil, or_false] at hm
    rcases hm with rfl | rfl | rfl | rfl
    ·exact ⟨_, rfl, by decide, by decide⟩
    ·exact ⟨_, rfl, by omega, by omega⟩
    ·exact ⟨_, rfl, by omega, by omega⟩
    ·exact ⟨_, rfl, by omega, by omega⟩
   refine ⟨_, rfl, _, _, rfl, rfl, ⟨by decide, by decide⟩, _, _, rfl, rfl, (by show (0 : Int) < 5; decide), _, _, rfl, rfl, _, rfl, _, rfl, p, _, _, _, rfl, rfl, .inl (.inl hp4), hpr4, _, _, rfl, rfl, _, rfl, _, _, rfl, rfl, _, rfl, _, _, rfl, rfl, ⟨by decide, by decide⟩, _, _, rfl, rfl, (by show (0 : Int) < 401; decide), _, _, rfl, rfl, by show 4 <= sizeLine; decide, fun L5 hL5 => ?_⟩
   have t5 := same_upd (o := HO.lst [V.int 0, V.int (nu / 8 % 5 - 2), V.int (((pz[r] : Nat) : Int) - 1 - (lo + hx)), V.int (nu / 8 % 401 - 200)]) hL5
   have u5 : upd H4 L5 (HO.lst [V.int 0, V.int (nu / 8 % 5 - 2), V.int (((pz[r] : Nat) : Int) - 1 - (lo + hx)), V.int (nu / 8 % 401 - 200)]) L5 = some (.lst [V.int 0, V.int (nu / 8 % 5 - 2), V.int (((pz[r] : Nat) : Int) - 1 - (lo + hx)), V.int (nu / 8 % 401 - 200)]) := upd_same
   generalize upd H4 L5 (HO.lst [V.int 0, V.int (nu / 8 % 5 - 2), V.int (((pz[r] : Nat) : Int) - 1 - (lo + hx)), V.int (nu / 8 % 401 - 200)]) = H5 at t5 u5 ⊢
   refine ⟨_, rfl, _, _, rfl, rfl, (by show (0 : Int) < 4; decide), L5, _, _, _, rfl, rfl, .inl (.inl u5), hv, ?_⟩
   have hd5 := t5 _ _ hd
   refine ⟨_, rfl, .inl ⟨rfl, _, .inl (.inl hd5)⟩, _, rfl, _, rfl, _, rfl, _, rfl, by show 4 <= sizeLine; decide, fun T6 hT6 => ?_⟩
   have t6 := same_upd (o := HO.tup [V.int (r : Nat), V.int sh, V.int lo, V.int (lo + hx)]) hT6
   have u6 : upd H5 T6 (HO.tup [V.int (r : Nat), V.int sh, V.int lo, V.int (lo + hx)]) T6 = some (.tup (lnV ⟨r, sh, lo, lo + hx⟩)) := upd_same
   generalize upd H5 T6 (HO.tup [V.int (r : Nat), V.int sh, V.int lo, V.int (lo + hx)]) = H6 at t6 u6 ⊢
   have hd6 := t6 _ _ hd5
   have hlt := hpr.length
   refine ⟨D, ts, _, rfl, rfl, hd6, small1000 (by omega), ?_⟩
   refine ⟨fun b o e => ?_, l ++ [⟨r, sh, lo, lo + hx⟩], ts ++ [V.ref T6], upd_same, (paired_upd (paired_mono (t5.trans t6) hpr) hd6).snoc (TupAt.upd ⟨T6, rfl, u6⟩ hd6), by rw [List.length_append, List.length_singleton, hll], fun x hx' => ?_, _, _, _, _, _, _, rfl⟩
   ·rw [upd_ne (ne_of_none e hD)]
    exact t6 _ _ (t5 _ _ (s4 _ _ e))
   ·rcases List.mem_append.mp hx' with g | g
    ·exact hg x g
    ·rw [List.mem_singleton.mp g]
     exact ⟨hr, lo0, by show lo <= lo + hx; omega, by show lo + hx < ((s0 : Nat) : Int); omega, hsh0, hsh1⟩
  ·rintro σ H4 ⟨s4, l, ts, hd, hpr, hll, hg, v4, v5, v6, v7, v8, v9, rfl⟩
   exact ⟨_, rfl, q D l ts H4 hD s4 hd hpr (by omega) hg⟩
abbrev LnsW (sz pz : List Nat) (z : Kl) : Prop := z.2.length <= 4 /\ (∀ x ∈ z.2, LnW (sz.getD z.1.bd 0) pz x) /\ (¬ z.1.w = "stop" -> z.2 = [])
def spKn : Sp := fun vs H Q _ => ∃ (c : Int) (p pp : Addr) (sz pz : List Nat), vs = [.int c, .ref p, .ref pp] /\ H p = some (.lst (sz.map fun n : Nat => V.int (n : Nat))) /\ H pp = some (.lst (pz.map fun n : Nat => V.int (n : Nat))) /\ 1 <= sz.length /\ sz.length <= 5 /\ (∀ s ∈ sz, 1 <= s /\ s <= 61) /\ 1 <= pz.length /\ pz.length <= 4 /\ (∀ z ∈ pz, 1 <= z /\ z <= 97) /\ ∀ (z : Kl) y H', Same H H' -> z.1.ok sz.length -> LnsW sz pz z -> (c % 8 = 4 -> z.1.w = "stop") -> (∀ Dx o, H Dx = some o -> KnAt Dx H' z y) -> Q y H'
theorem scKn : FnScope ["_law_cell", "_law_sizes_here", "_law_pipes", "_law_many", "_law_one", "_law_other", "_law_shift"] ["_law_cell", "_law_sizes_here", "_law_pipes"] (defScope sKn) := ⟨rfl, rfl, rfl, by decide +kernel, rfl, by decide +kernel, by decide +kernel⟩
include N T in
theorem ok_Kn : FnOk P w K mg base CX0 3 fKn dKn ["_law_cell", "_law_sizes_here", "_law_pipes"] spKn := by
 have GMx : FnOk P w K mg base CX0 1 fMx dMx ["_law_cell", "_law_k"] spMx := ok_Mx N T
 have GLn : FnOk P w K mg base CX0 2 fLn dLn ["_law_cell", "_law_size", "_law_pipes"] spLn := ok_Ln N T
 refine N.FKn.ok scKn (fun vs H Q E h => ?_) (fun cdv A outer s H vs Q E hr h => ?_)
 ·obtain ⟨c, p, pp, sz, pz, rfl, _⟩ := h
  rfl
 ·obtain ⟨c, p, pp, sz, pz, rfl, hp, hpp, h0, h5, hsz, g0, g4, hpz, q⟩ := h
  have hrMx : Room 1 _ := hr.mono (by decide)
  have hrLn : Room 2 _ := hr.mono (by decide)
  refine ⟨_, (pss_cons (ps_set (i := 3) scKn.nd rfl (Or.inl rfl) (pe_callB call_len_seq rfl T.len PySem.boot_len (pa_cons (pv 1) pa_nil)))
   (pss_cons (ps_set (i := 4) scKn.nd rfl (Or.inl rfl) (pe_op op_mod (pe_call GMx hrMx rfl N.mMx N.FMx.kp N.bMx .nil pass0 (pa_cons (pe_op op_fdiv (pv 0) pe_int) (pa_cons pe_int pa_nil))) (pv 3)))
   (pss_cons (ps_set (i := 5) scKn.nd rfl (Or.inl rfl) (pe_op op_mod (pe_call GMx hrMx rfl N.mMx N.FMx.kp N.bMx .nil pass0 (pa_cons (pe_op op_fdiv (pv 0) pe_int) (pa_cons pe_int pa_nil))) (pv 3)))
   (pss_cons (ps_if (pt_cmpR op_lt (pe_op op_mod (pv 0) pe_int) pe_int (nomark _)) (pss_cons (ps_set (i := 6) scKn.nd rfl (Or.inl rfl) (pe_lst (pa_cons pe_int (pa_cons pe_int (pa_cons (pe_un un_neg pe_int) (pa_cons pe_int (pa_cons (pe_op op_sub (pe_op op_mod (pe_call GMx hrMx rfl N.mMx N.FMx.kp N.bMx .nil pass0 (pa_cons (pe_op op_fdiv (pv 0) pe_int) (pa_cons pe_int pa_nil))) pe_int) pe_int) (pa_cons (pe_op op_sub (pe_op op_mod (pe_call GMx hrMx rfl N.mMx N.FMx.kp N.bMx .nil pass0 (pa_cons (pe_op op_fdiv (pv 0) pe_int) (pa_cons pe_int pa_nil))) pe_int) pe_int) pa_nil))))))))
   (pss_one (ps_ret (pe_tup (pa_cons pe_str (pa_cons (pv 4) (pa_cons (pv 5) (pa_cons (pe_ix ix_list (pv 6) (pe_op op_mod (pe_call GMx hrMx rfl N.mMx N.FMx.kp N.bMx .nil pass0 (pa_cons (pe_op op_fdiv (pv 0) pe_int) (pa_cons pe_int pa_nil))) pe_int) (fun _ _ => rfl)) pa_nil)))))))) pss_nil)
   (pss_cons (ps_if (pt_cmpR op_eq (pe_op op_mod (pv 0) pe_int) pe_int (nomark _)) (pss_one (ps_ret (pe_tup (pa_cons pe_str (pa_cons (pv 4) pa_nil))))) pss_nil)
   (pss_one (ps_ret (pe_tup (pa_cons pe_str (pa_cons (pv 4) (pa_cons (pe_call GLn hrLn rfl N.mLn N.FLn.kp N.bLn .nil pass0 (pa_cons (pe_op op_fdiv (pv 0) pe_int) (pa_cons (pe_ix (ix_listK (K := K) rfl) (pv 1) (pv 4) (fun _ _ => rfl)) (pa_cons (pv 2) pa_nil)))) pa_nil))))))))))), ?_⟩
  have hlen : (((sz.map fun n : Nat => V.int (n : Nat)).length : Nat) : Int) = ((sz.length : Nat) : Int) := by rw [List.length_map]
  have hpos : (0 : Int) < ((sz.length : Nat) : Int) := by omega
  refine ⟨_, rfl, p, _, rfl, .inl (.inl (.inl hp)), ?_⟩
  rw [hlen]
  obtain ⟨a, ea, ha⟩ : ∃ a : Nat, mixX (c / 8) 11 % ((sz.length : Nat) : Int) = (a : Int) /\ a < sz.length := by
   have g1 : 0 <= mixX (c / 8) 11 % ((sz.length : Nat) : Int) := Int.emod_nonneg _ (by omega)
   have g2 : mixX (c / 8) 11 % ((sz.length : Nat) : Int) < ((sz.length : Nat) : Int) := Int.emod_lt_of_pos _ hpos
   exact ⟨(mixX (c / 8) 11 % ((sz.length : Nat) : Int)).toNat, by omega, by omega⟩
  obtain ⟨b, eb, hb⟩ : ∃ b : Nat, mixX (c / 8) 12 % ((sz.length : Nat) : Int) = (b : Int) /\ b < sz.length := by
   have g1 : 0 <= mixX (c / 8) 12 % ((sz.length : Nat) : Int) := Int.emod_nonneg _ (by omega)
   have g2 : mixX (c / 8) 12 % ((sz.length : Nat) : Int) < ((sz.length : Nat) : Int) := Int.emod_lt_of_pos _ hpos
   exact ⟨(mixX (c / 8) 12 % ((sz.length : Nat) : Int)).toNat, by omega, by omega⟩
  refine ⟨_, rfl, _, _, rfl, rfl, ⟨by decide, by decide⟩, _, _, rfl, by decide, by decide, _, rfl, _, _, rfl, rfl, hpos, ?_⟩
  show gName 4 (V.int (mixX (c / 8) 11 % ((sz.length : Nat) : Int))) _ _ _
  rw [ea]
  refine ⟨_, rfl, _, _, rfl, rfl, ⟨by decide, by decide⟩, _, _, rfl, by decide, by decide, _, rfl, _, _, rfl, rfl, hpos, ?_⟩
  show gName 5 (V.int (mixX (c / 8) 12 % ((sz.length : Nat) : Int))) _ _ _
  rw [eb]
  refine ⟨_, rfl, _, _, rfl, rfl, (by show (0 : Int) < 8; decide), _, _, rfl, rfl, _, rfl, ?_⟩
  refine ite2 (fun g => ?_) (fun g => ?_)
  ·refine ⟨_, rfl, _, rfl, _, _, rfl, rfl, ⟨by decide, by decide⟩, _, _, rfl, by decide, by decide, _, _, rfl, rfl, (by show (0 : Int) < 17; decide), _, _, rfl, rfl, _, rfl, _, _, rfl, rfl, ⟨by decide, by decide⟩, _, _, rfl, by decide, by decide, _, _, rfl, rfl, (by show (0 : Int) < 121; decide), _, _, rfl, rfl, by show 6 <= sizeLine; decide, fun l hl => ?_⟩
   have m1 : 0 <= mixX (c / 8) 13 % 17 /\ mixX (c / 8) 13 % 17 < 17 := ⟨Int.emod_nonneg _ (by decide), Int.emod_lt_of_pos _ (by decide)⟩
   have m2 : 0 <= mixX (c / 8) 13 % 121 /\ mixX (c / 8) 13 % 121 < 121 := ⟨Int.emod_nonneg _ (by decide), Int.emod_lt_of_pos _ (by decide)⟩
   have m3 : 0 <= mixX (c / 8) 14 % 6 /\ mixX (c / 8) 14 % 6 < 6 := ⟨Int.emod_nonneg _ (by decide), Int.emod_lt_of_pos _ (by decide)⟩
   obtain ⟨v, hv, hm⟩ := atI_in (xs := [V.int 0, V.int 1, V.int (-1), V.int 2, V.int (mixX (c / 8) 13 % 17 - 8), V.int (mixX (c / 8) 13 % 121 - 60)]) (i := mixX (c / 8) 14 % 6) m3.1 m3.2
   obtain ⟨s0, rfl, hs0, hs1⟩ : ∃ s0 : Int, v = .int s0 /\ -60 <= s0 /\ s0 <= 60 := by
    simp only [List.mem_cons, List.mem_singleton, List.not_mem_nil, or_false] at hm
    rcases hm with rfl | rfl | rfl | rfl | rfl | rfl
    ·exact ⟨_, rfl, by decide, by decide⟩
    ·exact ⟨_, rfl, by decide, by decide⟩
    ·exact ⟨_, rfl, by decide, by decide⟩
    ·exact ⟨_, rfl, by decide, by decide⟩
    ·exact ⟨_, rfl, by omega, by omega⟩
    ·exact ⟨_, rfl, by omega, by omega⟩
   refine ⟨_, rfl, _, rfl, _, rfl, _, rfl, _, _, rfl, rfl, ⟨by decide, by decide⟩, _, _, rfl, by decide, by decide, _, _, rfl, rfl, (by show (0 : Int) < 6; decide), l, _, _, _, rfl, rfl, .inl (.inl upd_same), hv, by show 4 <= sizeLine; decide, fun T6 hT6 => ?_⟩
   exact q (.cp a b s0, []) _ _ ((same_upd hl).trans (same_upd hT6)) ⟨ha, hb, hs0, hs1⟩ ⟨by show 0 <= 4; decide, (fun x hx => nomatch hx), fun _ => rfl⟩ (fun z => absurd (of_decide_eq_true g) (by omega)) fun Dx o hDx => ⟨[], ⟨T6, rfl, upd_same⟩, .inl ⟨rfl, rfl, by show ¬ ("coupler" : Str) = "stop"; decide +kernel⟩⟩
  ·refine ⟨_, rfl, _, _, rfl, rfl, (by show (0 : Int) < 8; decide), rfl, _, rfl, ?_⟩
   refine ite2 (fun g2 => ?_) (fun g2 => ?_)
   ·refine ⟨_, rfl, by show 2 <= sizeLine; decide, fun T6 hT6 => ?_⟩
    exact q (.pl "mute" a, []) _ _ (same_upd hT6) ⟨ha, .inl rfl⟩ ⟨by show 0 <= 4; decide, (fun x hx => nomatch hx), fun _ => rfl⟩ (fun z => absurd (V.int.inj (of_decide_eq_true g2)) (by omega)) fun Dx o hDx => ⟨[], ⟨T6, rfl, upd_same⟩, .inl ⟨rfl, rfl, by show ¬ ("mute" : Str) = "stop"; decide +kernel⟩⟩
   ·have hat : atI (sz.map fun n : Nat => V.int (n : Nat)) (a : Int) = some (.int (sz[a] : Nat)) := atI_nat (by rw [List.getElem?_map, List.getElem?_eq_getElem ha]; rfl)
    have hsa := hsz sz[a] (List.getElem_mem ha)
    refine ⟨_, rfl, _, rfl, _, _, rfl, rfl, ⟨by decide, by decide⟩, _, rfl, _, rfl, p, _, _, _, rfl, rfl, .inl (.inl hp), hat, _, rfl, c / 8, sz[a], pp, pz, rfl, hpp, g0, g4, hpz, hsa.1, hsa.2, fun A0 l ts H5 hA s5 hA5 hp5 hl4 hg => ?_⟩
    refine ⟨by show 3 <= sizeLine; decide, fun T6 hT6 => ?_⟩
    have t6 := same_upd (o := HO.tup [V.str "stop", V.int (a : Nat), V.ref A0]) hT6
    refine q (.pl "stop" a, l) _ _ (s5.trans t6) ⟨ha, .inr rfl⟩ ⟨hl4, fun x hx => ?_, fun z => absurd rfl z⟩ (fun _ => rfl) fun Dx o hDx => ⟨[.ref A0], ⟨T6, rfl, upd_same⟩, .inr ⟨rfl, A0, ts, rfl, (fun z => by rw [z, hDx] at hA; cases hA), t6 _ _ hA5, paired_mono t6 hp5⟩⟩
    have : sz.getD a 0 = sz[a] := by rw [List.getD_eq_getElem?_getD, List.getElem?_eq_getElem ha]; rfl
    show LnW (sz.getD a 0) pz x
    rw [this]
    exact hg x hx
def spKs : Sp := fun vs H Q _ => ∃ (q0 p pp : Addr) (cs : List Int) (sz pz : List Nat), vs = [.ref q0, .ref p, .ref pp] /\ H q0 = some (.lst (cs.map V.int)) /\ cs.length <= 21 /\ H p = some (.lst (sz.map fun n : Nat => V.int (n : Nat))) /\ H pp = some (.lst (pz.map fun n : Nat => V.int (n : Nat))) /\ 1 <= sz.length /\ sz.length <= 5 /\ (∀ s ∈ sz, 1 <= s /\ s <= 61) /\ 1 <= pz.length /\ pz.length <= 4 /\ (∀ z ∈ pz, 1 <= z /\ z <= 97) /\ ∀ D (kls : List Kl) us H', H D = none -> Same H H' -> H' D = some (.lst us) -> Paired (fun z y => KnAt D H' z y) kls us -> Kls sz pz kls -> kls.length <= 21 -> ((∃ c ∈ cs, c % 8 = 4) -> ∃ z ∈ kls, z.1.w = "stop") -> Q (.ref D) H'
theorem scKs : FnScope ["_law_cells", "_law_sizes_here", "_law_pipes", "_law_knobs_here", "_law_cell", "_law_knob_here", "_law_most"] ["_law_cells", "_law_sizes_here", "_law_pipes"] (defScope sKs) := ⟨rfl, rfl, rfl, by decide +kernel, rfl, by decide +kernel, by decide +kernel⟩
include N T in
theorem ok_Ks : FnOk P w K mg base CX0 4 fKs dKs ["_law_cells", "_law_sizes_here", "_law_pipes"] spKs := by
 have GKn : FnOk P w K mg base CX0 3 fKn dKn ["_law_cell", "_law_sizes_here", "_law_pipes"] spKn := ok_Kn N T
 refine N.FKs.ok scKs (fun vs H Q E h => ?_) (fun cdv A outer s H vs Q E hr h => ?_)
 ·obtain ⟨q0, p, pp, cs, sz, pz, rfl, _⟩ := h
  rfl
 ·obtain ⟨q0, p, pp, cs, sz, pz, rfl, hq, hc, hp, hpp, h0, h5, hsz, g0, g4, hpz, q⟩ := h
  have hrKn : Room 3 _ := hr.mono (by decide)
  have hu := hu_of hr
  refine ⟨_, (pss_cons (ps_set (i := 3) scKs.nd rfl (Or.inl rfl) (pe_lst pa_nil))
   (pss_cons (ps_for PassesOwn.never rfl (pi_list (pv 0)) (pg_name (i := 4) scKs.nd rfl (Or.inl rfl)) (pss_cons (ps_set (i := 5) scKs.nd rfl (Or.inr rfl) (pe_call GKn hrKn rfl N.mKn N.FKn.kp N.bKn .nil pass0 (pa_cons (pv 4) (pa_cons (pv 1) (pa_cons (pv 2) pa_nil)))))
   (pss_cons (ps_set (i := 6) scKs.nd rfl (Or.inl rfl) (pe_dget hu (pe_disp (pps_cons pe_str pe_int (pps_cons pe_str pe_int (pps_cons pe_str pe_int pps_nil))) rfl rfl (by intro h; cases h) (by decide)) (pe_ix (ix_tupK (K := K) rfl) (pv 5) pe_int (fun _ _ => rfl)) (fun _ _ => rfl)))
   (pss_one (ps_if (pt_cmpR op_lt (pe_callB call_len_seq rfl T.len PySem.boot_len (pa_cons (pe_comp rfl (compScope (osc := defScope sKs) (N := ["_law_cells", "_law_sizes_here", "_law_pipes", "_law_knobs_here", "_law_cell", "_law_knob_here", "_law_most"]) rfl rfl (by decide +kernel)) (pi_list (pv 3)) (fun _ _ _ _ => (pf_one (pt_cmpR op_eq (pe_ix (ix_tupK (K := K) rfl) (pv 0) pe_int (fun _ _ => rfl)) (pe_ix (ix_tupK (K := K) rfl) (pv 6) pe_int (fun _ _ => rfl)) (nomark _)))) (fun _ _ _ _ => (pv 0))) pa_nil)) (pv 6) (nomark _)) (pss_one (ps_expr (pe_bm PySem.F.plainAttrs_list PySem.F.slot_list_append PySem.F.type_list_append mt_append (pv 3) (pa_cons (pv 5) pa_nil)))) pss_nil)))))
   (pss_one (ps_ret (pv 3))))), ?_⟩
  refine ⟨line20 (by simp), fun D hD => ?_⟩
  have s0 := same_upd (o := HO.lst []) hD
  have hS : SqL K H q0 (cs.map V.int) := .inl (.inl hq)
  refine ⟨_, rfl, q0, rfl, ⟨_, s0.seq hS⟩, for_list (K := K) (a := q0) (xs := cs.map V.int) (fun i σ H4 => Same H H4 /\ ∃ (kls : List Kl) (us : List V), H4 D = some (.lst us) /\ Paired (fun z y => KnAt D H4 z y) kls us /\ Kls sz pz kls /\ kls.length <= i /\ (∀ (j : Nat) c, j < i -> cs[j]? = some c -> c % 8 = 4 -> ∃ z ∈ kls, z.1.w = "stop") /\ ∃ v3 v4 v5, σ = [some (.ref q0), some (.ref p), some (.ref pp), some (.ref D), v3, v4, v5])
   ⟨s0, [], [], upd_same, .nil, Kls.nil, Nat.le_refl _, (fun j c hj => absurd hj (Nat.not_lt_zero _)), _, _, _, rfl⟩ (fun i σ H4 _ h => h.1.seq hS) ?_ ?_⟩
  ·rintro i x σ H4 hx ⟨s4, kls, us, hd, hpr, hok, hlen, hst, v3, v4, v5, rfl⟩
   rw [List.getElem?_map] at hx
   obtain ⟨c, hci, rfl⟩ := Option.map_eq_some_iff.mp hx
   have hi : i < cs.length := (List.getElem?_eq_some_iff.mp hci).1
   refine ⟨_, rfl, _, rfl, _, rfl, c, p, pp, sz, pz, rfl, s4 _ _ hp, s4 _ _ hpp, h0, h5, hsz, g0, g4, hpz, fun kb y H5 s5 ho hlw hs4 hy => ?_⟩
   have hy := hy D _ hd
   obtain ⟨T5, r5, rfl, ht5'⟩ := hy.w0
   refine fun p6 hp6 => ⟨upd_same, [(Sum.inr "coupler", .int 12), (Sum.inr "mute", .int 5), (Sum.inr "stop", .int 24)], rfl, by decide, ?_⟩
   have s6 : Same H5 (upd (upd H5 p6 (.dK [])) p6 (.dK (mergeK [] [(Sum.inr "coupler", .int 12), (Sum.inr "mute", .int 5), (Sum.inr "stop", .int 24)]))) := fun b u e => by rw [upd_ne (ne_of_none e hp6), upd_ne (ne_of_none e hp6)]; exact e
   have a6 : upd (upd H5 p6 (.dK [])) p6 (.dK (mergeK [] [(Sum.inr "coupler", .int 12), (Sum.inr "mute", .int 5), (Sum.inr "stop", .int 24)])) p6 = some (.dK (mergeK [] [(Sum.inr "coupler", .int 12), (Sum.inr "mute", .int 5), (Sum.inr "stop", .int 24)])) := upd_same
   generalize upd (upd H5 p6 (.dK [])) p6 (.dK (mergeK [] [(Sum.inr "coupler", .int 12), (Sum.inr "mute", .int 5), (Sum.inr "stop", .int 24)])) = H6 at s6 a6 ⊢
   have g := DGet.k (k := Sum.inr kb.1.w) a6
   rw [most_val (Kb.wo ho)] at g
   refine ⟨_, rfl, T5, _, _, _, rfl, rfl, .inl (.inl (s6 _ _ ht5')), atI_nat (j := 0) rfl, p6, _, rfl, g, ?_⟩
   have s46 := s5.trans s6
   have d6 := s46 _ _ hd
   have pr6 : Paired (fun z y => KnAt D H6 z y) kls us := Paired.mapP hpr fun _ _ q => q.mono s46
   have hS6 : SqL K H6 D us := .inl (.inl d6)
   have hlu := pr6.length
   refine ⟨_, rfl, D, rfl, ⟨_, hS6⟩, comp_sq (K := K) (xs := us) (fun v => decide (nthV H6 0 v = V.str kb.1.w)) id hS6 (small1000 (by omega)) (fun x hx H' hs R k => ?_) (fun x hx _ H' hs R k => ⟨_, rfl, k H' (Same.refl H')⟩) (fun D7 H7 hD7 s7 hl7 => ?_)⟩
   ·obtain ⟨k1, _, hk1⟩ := paired_mem pr6 hx
    obtain ⟨T1, r1, rfl, ht1⟩ := hk1.w0
    have e1 : nthV H6 0 (.ref T1) = V.str k1.1.w := by rw [nthV_at ⟨T1, rfl, ht1⟩ 0]; rfl
    have ht1 := hs _ _ ht1
    have kk := k H' (Same.refl H')
    rw [e1] at kk
    exact ⟨_, rfl, T1, _, _, _, rfl, rfl, .inl (.inl ht1), atI_nat (j := 0) rfl, _, rfl, T5, _, _, _, rfl, rfl, .inl (.inl (hs _ _ (s6 _ _ ht5'))), atI_nat (j := 0) rfl, rfl, _, rfl, kk⟩
   rw [List.map_id] at hl7
   have cnt := count_kl kb.1.w pr6
   refine ⟨D7, _, rfl, .inl (.inl (.inl hl7)), _, rfl, _, _, rfl, rfl, _, rfl, ?_⟩
   have d7 := s7 _ _ d6
   have pr7 : Paired (fun z y => KnAt D H7 z y) kls us := Paired.mapP pr6 fun _ _ q => q.mono s7
   refine ite2 (fun g1 => ?_) (fun g1 => ?_)
   ·have g2 := of_decide_eq_true g1
    rw [cnt] at g2
    have n1 := Kls.snoc hok ho (by omega) hlw
    refine ⟨_, rfl, .inl ⟨rfl, _, .inl (.inl d7)⟩, _, rfl, D, us, _, rfl, rfl, d7, small1000 (by omega), ?_⟩
    refine ⟨fun b u e => ?_, kls ++ [kb], us ++ [.ref T5], upd_same, (Paired.mapP pr7 fun _ _ q => q.upd d7).snoc (((hy.mono s6).mono s7).upd d7), n1, by rw [List.length_append, List.length_singleton]; omega, (fun j c' hj hc' h4 => ?_), _, _, _, rfl⟩
    rotate_left
    ·rcases Nat.lt_succ_iff_lt_or_eq.mp hj with h | rfl
     ·obtain ⟨z, hz, hw⟩ := hst j c' h hc' h4
      exact ⟨z, List.mem_append_left _ hz, hw⟩
     ·rw [hci] at hc'
      cases hc'
      exact ⟨kb, by simp, hs4 h4⟩
    rw [upd_ne (ne_of_none e hD)]
    exact s7 _ _ (s46 _ _ (s4 _ _ e))
   ·exact ⟨(s4.trans s46).trans s7, kls, us, d7, pr7, hok, by omega, (fun j c' hj hc' h4 => by
     rcases Nat.lt_succ_iff_lt_or_eq.mp hj with h | rfl
     ·exact hst j c' h hc' h4
     ·rw [hci] at hc'
      cases hc'
      exfalso
      refine g1 (decide_eq_true ?_)
      rw [cnt, hs4 h4]
      have hm : mostN "stop" = 24 := by decide +kernel
      have hle := List.length_filter_le (sameW "stop") (kls.map (·.1))
      rw [List.length_map] at hle
      rw [hm]
      omega), _, _, _, rfl⟩
  ·rintro σ H4 ⟨s4, kls, us, hd, hpr, hok, hlen, hst, v3, v4, v5, rfl⟩
   rw [List.length_map] at hlen
   exact ⟨_, rfl, q D kls us H4 hD s4 hd hpr hok (by omega) fun ⟨c, hc', h4⟩ => by
    obtain ⟨j, hj, e⟩ := List.getElem_of_mem hc'
    exact hst j c (by rw [List.length_map]; exact hj) (by rw [← e]; exact List.getElem?_eq_getElem hj) h4⟩
abbrev rkW (c : Nat -> Str) (pz : List Nat) (wi : Nat -> Int) : List (Str × Nat × Int) := pz.zipIdx.map fun p => (c (10 + p.2), p.1, wi p.2)
theorem rkW_len (c : Nat -> Str) (pz : List Nat) (wi : Nat -> Int) : (rkW c pz wi).length = pz.length := by simp [rkW]
theorem rkW_get {c : Nat -> Str} {pz : List Nat} {wi : Nat -> Int} {i z : Nat} (h : pz[i]? = some z) : (rkW c pz wi)[i]? = some (c (10 + i), z, wi i) := by
 rw [List.getElem?_map, List.getElem?_zipIdx, h]
 simp
theorem rkW_get' {c : Nat -> Str} {pz : List Nat} {wi : Nat -> Int} {i : Nat} {r : Str × Nat × Int} (h : (rkW c pz wi)[i]? = some r) : ∃ z, pz[i]? = some z /\ r = (c (10 + i), z, wi i) := by
 have hi : i < pz.length := by
  have := (List.getElem?_eq_some_iff.mp h).1
  rw [rkW_len] at this
  exact this
 rw [rkW_get (List.getElem?_eq_getElem hi)] at h
 exact ⟨_, List.getElem?_eq_getElem hi, (Option.some.inj h).symm⟩
theorem rkW_take {c : Nat -> Str} {pz : List Nat} {wi : Nat -> Int} {i z : Nat} (h : pz[i]? = some z) : (rkW c pz wi).take (i + 1) = (rkW c pz wi).take i ++ [(c (10 + i), z, wi i)] := by
 rw [List.take_add_one, rkW_get h]
 rfl
theorem bsOf_take {c : Nat -> Str} {sz : List Nat} {i z : Nat} (h : sz[i]? = some z) : (bsOf c sz).take (i + 1) = (bsOf c sz).take i ++ [(c i, z)] := by
 rw [List.take_add_one, bsOf_get h]
 rfl
theorem ksOf_take {c : Nat -> Str} {kbs : List Kb} {i : Nat} {z : Kb} (h : kbs[i]? = some z) : (ksOf c kbs).take (i + 1) = (ksOf c kbs).take i ++ [kRow c i z] := by
 rw [List.take_add_one, ksOf_get h]
 rfl
theorem bsOf_mem_take {c : Nat -> Str} {sz : List Nat} {i : Nat} {b : Str × Nat} (h : b ∈ (bsOf c sz).take i) : ∃ j, j < i /\ j < sz.length /\ b.1 = c j := by
 obtain ⟨j, hj, e⟩ := List.mem_take_iff_getElem.mp h
 have hj2 : (bsOf c sz)[j]? = some b := by rw [← e]; exact List.getElem?_eq_getElem _
 obtain ⟨z, hz, rfl⟩ := bsOf_get' hj2
 exact ⟨j, by omega, (List.getElem?_eq_some_iff.mp hz).1, rfl⟩
theorem rkW_mem_take {c : Nat -> Str} {pz : List Nat} {wi : Nat -> Int} {i : Nat} {r : Str × Nat × Int} (h : r ∈ (rkW c pz wi).take i) : ∃ j, j < i /\ j < pz.length /\ r.1 = c (10 + j) := by
 obtain ⟨j, hj, e⟩ := List.mem_take_iff_getElem.mp h
 have hj2 : (rkW c pz wi)[j]? = some r := by rw [← e]; exact List.getElem?_eq_getElem _
 obtain ⟨z, hz, rfl⟩ := rkW_get' hj2
 exact ⟨j, by omega, (List.getElem?_eq_some_iff.mp hz).1, rfl⟩
theorem ksOf_mem_take {c : Nat -> Str} {kbs : List Kb} {i : Nat} {r : R} (h : r ∈ (ksOf c kbs).take i) : ∃ j, j < i /\ j < kbs.length /\ r.nm = c (30 + j) := by
 obtain ⟨j, hj, e⟩ := List.mem_take_iff_getElem.mp h
 have hj2 : (ksOf c kbs)[j]? = some r := by rw [← e]; exact List.getElem?_eq_getElem _
 obtain ⟨z, hz, rfl⟩ := ksOf_get' hj2
 exact ⟨j, by omega, (List.getElem?_eq_some_iff.mp hz).1, kRow_nm _ _ _⟩
theorem mem_of_take {α : Type} {l : List α} {x : α} (h : x ∈ l) : x ∈ l.take l.length := by rw [List.take_length]; exact h
section
variable {c : Nat -> Str} {sz pz : List Nat} {wi : Nat -> Int} {aB aP aM : Addr}
theorem bld_boards (F : KF2 K aB aP aM) (hn : ∀ k, k < 100 -> isNm (c k)) (hi : ∀ k l, c k = c l -> k = l) (h5 : sz.length <= 5) (hs : ∀ s ∈ sz, 1 <= s /\ s <= 61) : ∀ i, i <= sz.length -> Bld K aB aP aM (((bsOf c sz).take i).map brow) ((bsOf c sz).take i) [] [] [] := by
 intro i
 induction i with
 | zero => exact fun _ => Bld.nil
 | succ i ih =>
  intro hl
  have hz := List.getElem?_eq_getElem (l := sz) (i := i) (by omega)
  have g := hs _ (List.getElem_mem (l := sz) (n := i) (by omega))
  rw [bsOf_take hz, List.map_append]
  refine (ih (by omega)).board F (hn _ (by omega)) (fun b hb e => ?_) (by rw [List.length_take, bsOf_len]; omega) g.1 g.2
  obtain ⟨j, hj, _, e2⟩ := bsOf_mem_take hb
  have := hi _ _ (e2.symm.trans e)
  omega
theorem bld_rank (F : KF2 K aB aP aM) (hn : ∀ k, k < 100 -> isNm (c k)) (hi : ∀ k l, c k = c l -> k = l) (h5 : sz.length <= 5) (h4 : pz.length <= 4) (hp : ∀ z ∈ pz, 1 <= z /\ z <= 97) (hw : ∀ i, 0 <= wi i /\ wi i <= 1000000000) {rows : List R} {i z : Nat} (hz : pz[i]? = some z) (B : Bld K aB aP aM rows (bsOf c sz) ((rkW c pz wi).take i) [] []) : Bld K aB aP aM (rows ++ [rrow (c (10 + i), z, wi i)]) (bsOf c sz) ((rkW c pz wi).take (i + 1)) [] [] := by
 have hl := (List.getElem?_eq_some_iff.mp hz).1
 have g := hp z (List.mem_of_getElem? hz)
 rw [rkW_take hz]
 refine B.rank F (hn _ (by omega)) (fun b hb e => ?_) (fun r hr e => ?_) (by rw [List.length_take, rkW_len]; omega) g.1 g.2 (hw i).1 (hw i).2
 ·obtain ⟨j, _, hj, e2⟩ := bsOf_mem_take (mem_of_take hb)
  have := hi _ _ (e2.symm.trans e)
  omega
 ·obtain ⟨j, hj, _, e2⟩ := rkW_mem_take hr
  have := hi _ _ (e2.symm.trans e)
  omega
theorem ks_cnt {kls : List Kl} (w : Str) (i : Nat) : (((ksOf c (kls.map (·.1))).take i).filter fun r => decide (V.str r.w = V.str w)).length = (((kls.map (·.1)).take i).filter (sameW w)).length := by
 have e : (ksOf c (kls.map (·.1))).map (·.w) = (kls.map (·.1)).map (·.w) := by
  refine List.ext_getElem? fun j => ?_
  rw [List.getElem?_map, List.getElem?_map]
  cases h : (kls.map (·.1))[j]? with
  | none => rw [List.getElem?_eq_none (by rw [ksOf_len]; exact List.getElem?_eq_none_iff.mp h)]; rfl
  | some z => rw [ksOf_get h]; exact congrArg some (kRow_w _ _ _)
 have f : ∀ {α : Type} (g : α -> Str) (l : List α), (l.filter fun r => decide (V.str (g r) = V.str w)).length = ((l.map g).filter fun s => decide (V.str s = V.str w)).length := fun g l => by
  rw [List.filter_map, List.length_map]
  rfl
 rw [f (fun r : R => r.w), f (fun z : Kb => z.w), List.map_take, List.map_take, e]
theorem bld_knob (F : KF2 K aB aP aM) (hn : ∀ k, k < 100 -> isNm (c k)) (hi : ∀ k l, c k = c l -> k = l) (h5 : sz.length <= 5) (h4 : pz.length <= 4) {kls : List Kl} (hk : Kls sz pz kls) (hkl : kls.length <= 21) {rows : List R} {ls : List (List Ln)} {i : Nat} {z : Kb} (hz : (kls.map (·.1))[i]? = some z) (B : Bld K aB aP aM rows (bsOf c sz) (rkW c pz wi) ((ksOf c (kls.map (·.1))).take i) ls) : Bld K aB aP aM (rows ++ [kRow c i z]) (bsOf c sz) (rkW c pz wi) ((ksOf c (kls.map (·.1))).take (i + 1)) (ls ++ [[]]) := by
 have hl := (List.getElem?_eq_some_iff.mp hz).1
 rw [List.length_map] at hl
 have ho := hk.ok z (List.mem_of_getElem? hz)
 have hroom := hk.room i z hz
 rw [← ks_cnt (c := c)] at hroom
 rw [ksOf_take hz]
 have f1 : ∀ b ∈ bsOf c sz, b.1 ≠ c (30 + i) := fun b hb e => by
  obtain ⟨j, _, hj, e2⟩ := bsOf_mem_take (mem_of_take hb)
  have := hi _ _ (e2.symm.trans e)
  omega
 have f2 : ∀ r ∈ rkW c pz wi, r.1 ≠ c (30 + i) := fun r hr e => by
  obtain ⟨j, _, hj, e2⟩ := rkW_mem_take (mem_of_take hr)
  have := hi _ _ (e2.symm.trans e)
  omega
 have f3 : ∀ k ∈ (ksOf c (kls.map (·.1))).take i, k.nm ≠ c (30 + i) := fun r hr e => by
  obtain ⟨j, hj, _, e2⟩ := ksOf_mem_take hr
  have := hi _ _ (e2.symm.trans e)
  omega
 have mb : ∀ {a : Nat} (ha : a < sz.length), (c a, sz[a]) ∈ bsOf c sz := fun ha => List.mem_of_getElem? (bsOf_get (List.getElem?_eq_getElem ha))
 cases z with
 | cp a b s0 =>
  obtain ⟨ha, hb, hs0, hs1⟩ := ho
  have hm : mostN "coupler" = 12 := by decide +kernel
  have hroom' : (((ksOf c (kls.map (·.1))).take i).filter fun r => decide (V.str r.w = V.str "coupler")).length < mostN "coupler" := hroom
  exact B.coupler F (hn _ (by omega)) f1 f2 f3 (by omega) (hn _ (by omega)) (mb ha) (hn _ (by omega)) (mb hb) hs0 hs1
 | pl w0 a =>
  obtain ⟨ha, hw⟩ := ho
  exact B.plain F (by rcases hw with e | e; exact .inr e; exact .inl e) (hn _ (by omega)) f1 f2 f3 hroom (hn _ (by omega)) (mb ha)
end
theorem bsOf_range (c : Nat -> Str) (sz : List Nat) : (bsOf c sz).map brow = (List.range sz.length).map fun i => brow (c i, sz.getD i 0) := by
 refine List.ext_getElem? fun i => ?_
 rw [List.getElem?_map, List.getElem?_map]
 by_cases hi : i < sz.length
 ·rw [bsOf_get (List.getElem?_eq_getElem hi), List.getElem?_range hi]
  show some (brow (c i, sz[i])) = some (brow (c i, sz.getD i 0))
  rw [List.getD_eq_getElem?_getD, List.getElem?_eq_getElem hi]
  rfl
 ·rw [List.getElem?_eq_none (by rw [bsOf_len]; omega), List.getElem?_eq_none (l := List.range _) (by rw [List.length_range]; omega)]
  rfl
abbrev wiW (c : Int) (i : Nat) : Int := mixX c (i : Int) % 10 ^ (9 : Int).toNat
theorem wiW_b (c : Int) (i : Nat) : 0 <= wiW c i /\ wiW c i <= 1000000000 := by
 have h1 : 0 <= wiW c i := Int.emod_nonneg _ (by decide)
 have h2 : wiW c i < 10 ^ (9 : Int).toNat := Int.emod_lt_of_pos _ (by decide)
 have e : (10 : Int) ^ (9 : Int).toNat = 1000000000 := by decide
 rw [e] at h2
 omega
def spRw (K : PySem.W.Frag) (aB aP aM : Addr) : Sp := fun vs H Q _ => ∃ (c : Int) (p pp q0 Dx : Addr) (sz pz : List Nat) (kls : List Kl) (us : List V), vs = [.int c, .ref p, .ref pp, .ref q0] /\ H p = some (.lst (sz.map fun n : Nat => V.int (n : Nat))) /\ H pp = some (.lst (pz.map fun n : Nat => V.int (n : Nat))) /\ 1 <= sz.length /\ sz.length <= 5 /\ (∀ s ∈ sz, 1 <= s /\ s <= 61) /\ 1 <= pz.length /\ pz.length <= 4 /\ (∀ z ∈ pz, 1 <= z /\ z <= 97) /\ H q0 = some (.lst us) /\ Paired (fun z y => KnAt Dx H z y) kls us /\ Kls sz pz kls /\ kls.length <= 21 /\ KF2 K aB aP aM /\
 ∀ D rows vs' H', H D = none -> Same H H' -> H' D = some (.lst vs') -> Paired (fun (r : R) v => TupAt H' r.v v) rows vs' -> Bld K aB aP aM rows (bsOf (nmS c) sz) (rkW (nmS c) pz (wiW c)) (ksOf (nmS c) (kls.map (·.1))) (kls.map (·.2)) -> rows.length <= 150 -> Q (.ref D) H'
theorem scRw : FnScope ["_law_cell", "_law_sizes_here", "_law_pipes", "_law_knobs_here", "_law_rows_here", "_law_k", "_law_name_here", "_law_board", "_law_rank", "_law_shift", "_law_low", "_law_high"] ["_law_cell", "_law_sizes_here", "_law_pipes", "_law_knobs_here"] (defScope sRw) := ⟨rfl, rfl, rfl, by decide +kernel, rfl, by decide +kernel, by decide +kernel⟩
include N T in
theorem ok_Rw : FnOk P w K mg base CX0 3 fRw dRw ["_law_cell", "_law_sizes_here", "_law_pipes", "_law_knobs_here"] (spRw K aB aP aM) := by
 have GNa : FnOk P w K mg base CX0 2 fNa dNa ["_law_cell", "_law_k"] spNa := ok_Na N T
 have GMx : FnOk P w K mg base CX0 1 fMx dMx ["_law_cell", "_law_k"] spMx := ok_Mx N T
 refine N.FRw.ok scRw (fun vs H Q E h => ?_) (fun cdv A outer s H vs Q E hr h => ?_)
 ·obtain ⟨c, p, pp, q0, Dx, sz, pz, kls, us, rfl, _⟩ := h
  rfl
 ·obtain ⟨c, p, pp, q0, Dx, sz, pz, kls, us, rfl, hp, hpp, h0, h5, hsz, g0, g4, hpz, hq, hpr, hk, hkl, F0, q⟩ := h
  have hrNa : Room 2 _ := hr.mono (by decide)
  have hrMx : Room 1 _ := hr.mono (by decide)
  refine ⟨_, (pss_cons (ps_comp (i := 4) scRw.nd rfl rfl rfl (compScope (osc := defScope sRw) (N := ["_law_cell", "_law_sizes_here", "_law_pipes", "_law_knobs_here", "_law_rows_here", "_law_k", "_law_name_here", "_law_board", "_law_rank", "_law_shift", "_law_low", "_law_high"]) rfl rfl (by decide +kernel)) (pi_range1 rfl T.range (pa_cons (pe_callB call_len_seq rfl T.len PySem.boot_len (pa_cons (pv 1) pa_nil)) pa_nil)) (fun _ _ _ _ => pf_nil) (fun _ _ _ _ => (pe_tup (pa_cons pe_str (pa_cons (pe_call GNa hrNa rfl N.mNa N.FNa.kp N.bNa .nil pass0 (pa_cons (pv 1) (pa_cons (pv 0) pa_nil))) (pa_cons (pe_ix (ix_listK (K := K) rfl) (pv 2) (pv 0) (fun _ _ => rfl)) pa_nil))))))
   (pss_cons (ps_for PassesOwn.never rfl (pi_range1 rfl T.range (pa_cons (pe_callB call_len_seq rfl T.len PySem.boot_len (pa_cons (pv 2) pa_nil)) pa_nil)) (pg_name (i := 5) scRw.nd rfl (Or.inl rfl)) (pss_one (ps_expr (pe_bm PySem.F.plainAttrs_list PySem.F.slot_list_append PySem.F.type_list_append mt_append (pv 4) (pa_cons (pe_tup (pa_cons pe_str (pa_cons (pe_call GNa hrNa rfl N.mNa N.FNa.kp N.bNa .nil pass0 (pa_cons (pv 0) (pa_cons (pe_op op_add pe_int (pv 5)) pa_nil))) (pa_cons (pe_ix (ix_listK (K := K) rfl) (pv 2) (pv 5) (fun _ _ => rfl)) (pa_cons (pe_op op_mod (pe_call GMx hrMx rfl N.mMx N.FMx.kp N.bMx .nil pass0 (pa_cons (pv 0) (pa_cons (pv 5) pa_nil))) (pe_op op_pow pe_int pe_int)) pa_nil))))) pa_nil)))))
   (pss_cons (ps_for PassesOwn.never rfl (pi_range1 rfl T.range (pa_cons (pe_callB call_len_seq rfl T.len PySem.boot_len (pa_cons (pv 3) pa_nil)) pa_nil)) (pg_name (i := 5) scRw.nd rfl (Or.inl rfl)) (pss_cons (ps_set (i := 6) scRw.nd rfl (Or.inl rfl) (pe_call GNa hrNa rfl N.mNa N.FNa.kp N.bNa .nil pass0 (pa_cons (pv 0) (pa_cons (pe_op op_add pe_int (pv 5)) pa_nil))))
   (pss_cons (ps_set (i := 7) scRw.nd rfl (Or.inl rfl) (pe_call GNa hrNa rfl N.mNa N.FNa.kp N.bNa .nil pass0 (pa_cons (pv 0) (pa_cons (pe_ix (ix_tupK (K := K) rfl) (pe_ix (ix_listK (K := K) rfl) (pv 3) (pv 5) (fun _ _ => rfl)) pe_int (fun _ _ => rfl)) pa_nil))))
   (pss_cons (ps_if (pt_cmpR op_eq (pe_ix (ix_tupK (K := K) rfl) (pe_ix (ix_listK (K := K) rfl) (pv 3) (pv 5) (fun _ _ => rfl)) pe_int (fun _ _ => rfl)) pe_str (nomark _)) (pss_one (ps_expr (pe_bm PySem.F.plainAttrs_list PySem.F.slot_list_append PySem.F.type_list_append mt_append (pv 4) (pa_cons (pe_tup (pa_cons pe_str (pa_cons (pv 6) (pa_cons (pv 7) (pa_cons (pe_call GNa hrNa rfl N.mNa N.FNa.kp N.bNa .nil pass0 (pa_cons (pv 0) (pa_cons (pe_ix (ix_tupK (K := K) rfl) (pe_ix (ix_listK (K := K) rfl) (pv 3) (pv 5) (fun _ _ => rfl)) pe_int (fun _ _ => rfl)) pa_nil))) (pa_cons (pe_ix (ix_tupK (K := K) rfl) (pe_ix (ix_listK (K := K) rfl) (pv 3) (pv 5) (fun _ _ => rfl)) pe_int (fun _ _ => rfl)) pa_nil)))))) pa_nil)))) (pss_one (ps_expr (pe_bm PySem.F.plainAttrs_list PySem.F.slot_list_append PySem.F.type_list_append mt_append (pv 4) (pa_cons (pe_tup (pa_cons (pe_ix (ix_tupK (K := K) rfl) (pe_ix (ix_listK (K := K) rfl) (pv 3) (pv 5) (fun _ _ => rfl)) pe_int (fun _ _ => rfl)) (pa_cons (pv 6) (pa_cons (pv 7) pa_nil)))) pa_nil)))))
   (pss_one (ps_if (pt_cmpR op_eq (pe_ix (ix_tupK (K := K) rfl) (pe_ix (ix_listK (K := K) rfl) (pv 3) (pv 5) (fun _ _ => rfl)) pe_int (fun _ _ => rfl)) pe_str (nomark _)) (pss_one (ps_for PassesOwn.never rfl (pi_list (pe_ix (ix_tupK (K := K) rfl) (pe_ix (ix_listK (K := K) rfl) (pv 3) (pv 5) (fun _ _ => rfl)) pe_int (fun _ _ => rfl))) (pg_tup rfl (pgs_cons (pg_name (i := 8) scRw.nd rfl (Or.inl rfl)) (pgs_cons (pg_name (i := 9) scRw.nd rfl (Or.inl rfl)) (pgs_cons (pg_name (i := 10) scRw.nd rfl (Or.inl rfl)) (pgs_cons (pg_name (i := 11) scRw.nd rfl (Or.inl rfl)) pgs_nil))))) (pss_one (ps_expr (pe_bm PySem.F.plainAttrs_list PySem.F.slot_list_append PySem.F.type_list_append mt_append (pv 4) (pa_cons (pe_tup (pa_cons pe_str (pa_cons (pe_call GNa hrNa rfl N.mNa N.FNa.kp N.bNa .nil pass0 (pa_cons (pv 0) (pa_cons (pe_op op_add pe_int (pv 8)) pa_nil))) (pa_cons (pv 9) (pa_cons (pv 10) (pa_cons (pv 11) pa_nil)))))) pa_nil)))))) pss_nil))))))
   (pss_one (ps_ret (pv 4)))))), ?_⟩
  have hlen : ((sz.map fun n : Nat => V.int (n : Nat)).length : Nat) = sz.length := by rw [List.length_map]
  have hlenp : ((pz.map fun n : Nat => V.int (n : Nat)).length : Nat) = pz.length := by rw [List.length_map]
  have hnm : ∀ k, k < 100 -> isNm (nmS c k) := fun k h => nm_ok c (by omega)
  have hin : ∀ k l, nmS c k = nmS c l -> k = l := fun k l h => nm_inj h
  refine ⟨_, rfl, p, _, rfl, .inl (.inl (.inl hp)), _, rfl, by omega, by omega, ?_⟩
  rw [Int.toNat_natCast]
  refine comp_tupR (n := (sz.map fun n : Nat => V.int (n : Nat)).length) (fun i => (brow (nmS c i, sz.getD i 0)).v) (small1000 (by omega)) (fun i hi H1 s1 R k => ?_) (fun D H1 vs1 hD s1 hl1 hv1 => ?_)
  ·rw [hlen] at hi
   refine ⟨_, rfl, _, rfl, c, i, rfl, by omega, fun H2 s2 => ?_⟩
   refine ⟨_, rfl, _, rfl, p, _, _, .int (sz.getD i 0 : Nat), rfl, rfl, .inl (.inl (s2 _ _ (s1 _ _ hp))), atI_nat (by rw [List.getElem?_map, List.getElem?_eq_getElem hi, List.getD_eq_getElem?_getD, List.getElem?_eq_getElem hi]; rfl), by show 3 <= sizeLine; decide, fun T6 hT6 => ?_⟩
   exact k _ _ (s2.trans (same_upd hT6)) ⟨T6, rfl, upd_same⟩
  rw [hlen] at hv1
  have hv1' : Paired (fun (r : R) v => TupAt H1 r.v v) ((bsOf (nmS c) sz).map brow) vs1 := by
   rw [bsOf_range]
   exact paired_of_map (F := fun (r : R) v => TupAt H1 r.v v) (fun i => brow (nmS c i, sz.getD i 0)) hv1
  clear hv1
  have B0 := bld_boards (K := K) (aB := aB) (aP := aP) (aM := aM) F0 hnm hin h5 hsz sz.length (Nat.le_refl _)
  rw [List.take_of_length_le (by rw [bsOf_len]; exact Nat.le_refl _)] at B0
  refine ⟨_, rfl, pp, _, rfl, .inl (.inl (.inl (s1 _ _ hpp))), _, rfl, by omega, by omega, ?_⟩
  rw [Int.toNat_natCast]
  refine for_range (lo := 0) (n := (pz.map fun n : Nat => V.int (n : Nat)).length) (fun i σ H4 => Same H H4 /\ ∃ (rows : List R) (vs4 : List V), H4 D = some (.lst vs4) /\ Paired (fun (r : R) v => TupAt H4 r.v v) rows vs4 /\ Bld K aB aP aM rows (bsOf (nmS c) sz) ((rkW (nmS c) pz (wiW c)).take i) [] [] /\ rows.length = sz.length + i /\ ∃ v5 v6 v7 v8 v9 v10 v11, σ = [some (.int c), some (.ref p), some (.ref pp), some (.ref q0), some (.ref D), v5, v6, v7, v8, v9, v10, v11])
   ⟨s1, _, vs1, hl1, hv1', B0, by rw [List.length_map, bsOf_len, Nat.add_zero], _, _, _, _, _, _, _, rfl⟩ ?_ ?_
  ·rintro i σ H4 hi ⟨s4, rows, vs4, hd, hv4, B, hrl, v5, v6, v7, v8, v9, v10, v11, rfl⟩
   rw [hlenp] at hi
   have ei : ((0 : Int) + (i : Int)) = (i : Int) := Int.zero_add _
   have hz := List.getElem?_eq_getElem hi
   refine ⟨_, rfl, .inl ⟨rfl, _, .inl (.inl hd)⟩, _, rfl, _, rfl, _, _, rfl, rfl, c, 10 + i, ?_, by omega, fun H5 s5 => ?_⟩
   ·rw [ei]
    rfl
   refine ⟨_, rfl, _, rfl, pp, _, _, .int (pz[i] : Nat), rfl, rfl, .inl (.inl (s5 _ _ (s4 _ _ hpp))), (by rw [ei]; exact atI_nat (by rw [List.getElem?_map, hz]; rfl)), _, rfl, _, rfl, _, _, rfl, by omega, by omega, _, _, rfl, rfl, ⟨by decide, by decide, by decide⟩, _, _, rfl, rfl, (by show (0 : Int) < 10 ^ (9 : Int).toNat; decide), by show 4 <= sizeLine; decide, fun T6 hT6 => ?_⟩
   have t6 := same_upd (o := HO.tup [V.str "rank", V.str (nmS c (10 + i)), V.int (pz[i] : Nat), V.int (mixX c (0 + (i : Int)) % 10 ^ (9 : Int).toNat)]) hT6
   have u6 : upd H5 T6 (HO.tup [V.str "rank", V.str (nmS c (10 + i)), V.int (pz[i] : Nat), V.int (mixX c (0 + (i : Int)) % 10 ^ (9 : Int).toNat)]) T6 = some (.tup (rrow (nmS c (10 + i), pz[i], wiW c i)).v) := by rw [upd_same, ei]
   generalize upd H5 T6 (HO.tup [V.str "rank", V.str (nmS c (10 + i)), V.int (pz[i] : Nat), V.int (mixX c (0 + (i : Int)) % 10 ^ (9 : Int).toNat)]) = H6 at t6 u6 ⊢
   have hd6 := t6 _ _ (s5 _ _ hd)
   have hvl := hv4.length
   refine ⟨D, vs4, _, rfl, rfl, hd6, small1000 (by omega), ?_⟩
   refine ⟨fun b o e => ?_, _, vs4 ++ [V.ref T6], upd_same, (paired_upd (paired_mono (s5.trans t6) hv4) hd6).snoc (TupAt.upd ⟨T6, rfl, u6⟩ hd6), bld_rank F0 hnm hin h5 g4 hpz (wiW_b c) hz B, by rw [List.length_append, List.length_singleton]; omega, _, _, _, _, _, _, _, rfl⟩
   rw [upd_ne (ne_of_none e hD)]
   exact t6 _ _ (s5 _ _ (s4 _ _ e))
  rintro σ H3 ⟨s3, rows0, vs3, hd3, hv3, B3, hrl3, v5, v6, v7, v8, v9, v10, v11, rfl⟩
  rw [hlenp, List.take_of_length_le (by rw [rkW_len]; exact Nat.le_refl _)] at B3
  rw [hlenp] at hrl3
  have hlu := hpr.length
  refine ⟨_, rfl, q0, _, rfl, .inl (.inl (.inl (s3 _ _ hq))), _, rfl, by omega, by omega, ?_⟩
  rw [Int.toNat_natCast]
  have hnd : ((rkW (nmS c) pz (wiW c)).map (·.1)).Nodup := by
   refine nodup_get fun i j x hi hj => ?_
   rw [List.getElem?_map] at hi hj
   obtain ⟨a, ha, e1⟩ := Option.map_eq_some_iff.mp hi
   obtain ⟨b, hb, e2⟩ := Option.map_eq_some_iff.mp hj
   obtain ⟨_, _, rfl⟩ := rkW_get' ha
   obtain ⟨_, _, rfl⟩ := rkW_get' hb
   have := nm_inj (e1.trans e2.symm)
   omega
  refine for_range (lo := 0) (n := us.length) (fun i σ H4 => Same H H4 /\ ∃ (rows : List R) (vs4 : List V), H4 D = some (.lst vs4) /\ Paired (fun (r : R) v => TupAt H4 r.v v) rows vs4 /\ Bld K aB aP aM rows (bsOf (nmS c) sz) (rkW (nmS c) pz (wiW c)) ((ksOf (nmS c) (kls.map (·.1))).take i) ((kls.map (·.2)).take i) /\ rows.length <= 9 + 5 * i /\ ∃ v5 v6 v7 v8 v9 v10 v11, σ = [some (.int c), some (.ref p), some (.ref pp), some (.ref q0), some (.ref D), v5, v6, v7, v8, v9, v10, v11])
   ⟨s3, rows0, vs3, hd3, hv3, B3, by omega, _, _, _, _, _, _, _, rfl⟩ ?_ ?_
  ·rintro i σ H4 hi ⟨s4, rows, vs4, hd, hv4, B, hrl, w5, w6, w7, w8, w9, w10, w11, rfl⟩
   have hik : i < kls.length := by omega
   have hkb := List.getElem?_eq_getElem hik
   obtain ⟨y, hy, hty⟩ := paired_get hpr hkb
   have hz1 : (kls.map (·.1))[i]? = some (kls[i]).1 := by rw [List.getElem?_map, hkb]; rfl
   have hz2 : (kls.map (·.2))[i]? = some (kls[i]).2 := by rw [List.getElem?_map, hkb]; rfl
   have hok := hk.ok _ (List.mem_of_getElem? hz1)
   have hlw := hk.ln _ (List.mem_of_getElem? hkb)
   have BK := bld_knob F0 hnm hin h5 g4 hk hkl hz1 B
   generalize kls[i] = kb at hkb hty hok hz1 hz2 hlw BK
   have etk : ∀ {l : List Ln}, l = kb.2 -> (kls.map (·.2)).take i ++ [l] = (kls.map (·.2)).take (i + 1) := fun e => by rw [List.take_add_one, hz2, e]; rfl
   have ei : ((0 : Int) + (i : Int)) = (i : Int) := Int.zero_add _
   have hy' : ∀ {H5 : Hp}, Same H H5 -> SqL K H5 q0 us /\ atI us (0 + (i : Int)) = some y := fun s5 => ⟨.inl (.inl (s5 _ _ hq)), by rw [ei]; exact atI_nat hy⟩
   obtain ⟨ex, ⟨T1, rfl, ht1⟩, hex⟩ := hty
   have hvl := hv4.length
   refine ⟨_, rfl, _, rfl, _, _, rfl, rfl, c, 30 + i, ?_, by omega, fun H5 s5 => ?_⟩
   ·rw [ei]
    rfl
   have s05 := s4.trans s5
   obtain ⟨kb, ll⟩ := kb
   cases kb with
   | cp a b s0 =>
    obtain ⟨ha, hb, _, _⟩ := hok
    obtain ⟨rfl, hl0⟩ : ex = [] /\ ll = [] := by
     rcases hex with ⟨e1, e2, _⟩ | ⟨e, _⟩
     ·exact ⟨e1, e2⟩
     ·exact absurd (show ("coupler" : Str) = "stop" from e) (by decide +kernel)
    refine ⟨_, rfl, _, rfl, _, rfl, q0, us, _, _, rfl, rfl, (hy' s05).1, (hy' s05).2, T1, _, _, _, rfl, rfl, .inl (.inl (s05 _ _ ht1)), atI_nat (j := 1) rfl, c, a, rfl, by omega, fun H6 s6 => ?_⟩
    have s06 := s05.trans s6
    refine ⟨_, rfl, _, rfl, q0, us, _, _, rfl, rfl, (hy' s06).1, (hy' s06).2, T1, _, _, _, rfl, rfl, .inl (.inl (s06 _ _ ht1)), atI_nat (j := 0) rfl, rfl, _, rfl, iteT ?_⟩
    have hd6 := s6 _ _ (s5 _ _ hd)
    refine ⟨_, rfl, .inl ⟨rfl, _, .inl (.inl hd6)⟩, _, rfl, _, rfl, _, rfl, _, rfl, _, rfl, q0, us, _, _, rfl, rfl, (hy' s06).1, (hy' s06).2, T1, _, _, _, rfl, rfl, .inl (.inl (s06 _ _ ht1)), atI_nat (j := 2) rfl, c, b, rfl, by omega, fun H7 s7 => ?_⟩
    have s07 := s06.trans s7
    refine ⟨_, rfl, _, rfl, q0, us, _, _, rfl, rfl, (hy' s07).1, (hy' s07).2, T1, _, _, _, rfl, rfl, .inl (.inl (s07 _ _ ht1)), atI_nat (j := 3) rfl, by show 5 <= sizeLine; decide, fun T8 hT8 => ?_⟩
    have t8 := same_upd (o := HO.tup (kRow (nmS c) i (Kb.cp a b s0)).v) hT8
    have u8 : upd H7 T8 (HO.tup (kRow (nmS c) i (Kb.cp a b s0)).v) T8 = some (.tup (kRow (nmS c) i (Kb.cp a b s0)).v) := upd_same
    refine ⟨D, vs4, _, rfl, rfl, t8 _ _ (s7 _ _ hd6), small1000 (by omega), ?_⟩
    have s48 := s5.trans (s6.trans (s7.trans t8))
    have hd8 := s48 _ _ hd
    have s09 : Same H (upd (upd H7 T8 (HO.tup (kRow (nmS c) i (Kb.cp a b s0)).v)) D (.lst (vs4 ++ [V.ref T8]))) := fun b o e => by
     rw [upd_ne (ne_of_none e hD)]
     exact s48 _ _ (s4 _ _ e)
    refine ⟨_, rfl, _, rfl, q0, us, _, _, rfl, rfl, (hy' s09).1, (hy' s09).2, T1, _, _, _, rfl, rfl, .inl (.inl (s09 _ _ ht1)), atI_nat (j := 0) rfl, rfl, _, rfl, iteF ?_⟩
    exact ⟨s09, _, _, upd_same, (paired_upd (paired_mono s48 hv4) hd8).snoc (TupAt.upd ⟨T8, rfl, u8⟩ hd8), by rw [← etk hl0.symm]; exact BK, by rw [List.length_append, List.length_singleton]; omega, _, _, _, _, _, _, _, rfl⟩
   | pl w0 a =>
    obtain ⟨ha, hw⟩ := hok
    have nw : ¬ V.str w0 = V.str "coupler" := by rcases hw with rfl | rfl <;> decide +kernel
    have T1e : ∀ {H' : Hp}, Same H H' -> H' T1 = some (.tup (V.str w0 :: V.int (a : Nat) :: ex)) := fun s => s _ _ ht1
    refine ⟨_, rfl, _, rfl, _, rfl, q0, us, _, _, rfl, rfl, (hy' s05).1, (hy' s05).2, T1, _, _, _, rfl, rfl, .inl (.inl (T1e s05)), atI_nat (j := 1) rfl, c, a, rfl, by omega, fun H6 s6 => ?_⟩
    have s06 := s05.trans s6
    refine ⟨_, rfl, _, rfl, q0, us, _, _, rfl, rfl, (hy' s06).1, (hy' s06).2, T1, _, _, _, rfl, rfl, .inl (.inl (T1e s06)), atI_nat (j := 0) rfl, rfl, _, rfl, ?_⟩
    rw [decide_eq_false nw]
    refine iteF ?_
    have hd6 := s6 _ _ (s5 _ _ hd)
    refine ⟨_, rfl, .inl ⟨rfl, _, .inl (.inl hd6)⟩, _, rfl, _, rfl, q0, us, _, _, rfl, rfl, (hy' s06).1, (hy' s06).2, T1, _, _, _, rfl, rfl, .inl (.inl (T1e s06)), atI_nat (j := 0) rfl, _, rfl, _, rfl, by show 3 <= sizeLine; decide, fun T8 hT8 => ?_⟩
    have t8 := same_upd (o := HO.tup [V.str w0, V.str (nmS c (30 + i)), V.str (nmS c a)]) hT8
    have u8 : upd H6 T8 (HO.tup [V.str w0, V.str (nmS c (30 + i)), V.str (nmS c a)]) T8 = some (.tup (kRow (nmS c) i (Kb.pl w0 a)).v) := upd_same
    refine ⟨D, vs4, _, rfl, rfl, t8 _ _ hd6, small1000 (by omega), ?_⟩
    have s48 := s5.trans (s6.trans t8)
    have hd8 := s48 _ _ hd
    have s09 : Same H (upd (upd H6 T8 (HO.tup [V.str w0, V.str (nmS c (30 + i)), V.str (nmS c a)])) D (.lst (vs4 ++ [V.ref T8]))) := fun b o e => by
     rw [upd_ne (ne_of_none e hD)]
     exact s48 _ _ (s4 _ _ e)
    have hv9 := (paired_upd (ws := vs4 ++ [V.ref T8]) (paired_mono s48 hv4) hd8).snoc (TupAt.upd (ws := vs4 ++ [V.ref T8]) (D := D) ⟨T8, rfl, u8⟩ hd8)
    have hd9 : upd (upd H6 T8 (HO.tup [V.str w0, V.str (nmS c (30 + i)), V.str (nmS c a)])) D (.lst (vs4 ++ [V.ref T8])) D = some (.lst (vs4 ++ [V.ref T8])) := upd_same
    clear u8 t8 s48 hd8 hd6
    generalize upd (upd H6 T8 (HO.tup [V.str w0, V.str (nmS c (30 + i)), V.str (nmS c a)])) D (.lst (vs4 ++ [V.ref T8])) = H9 at s09 hv9 hd9 ⊢
    refine ⟨_, rfl, _, rfl, q0, us, _, _, rfl, rfl, (hy' s09).1, (hy' s09).2, T1, _, _, _, rfl, rfl, .inl (.inl (T1e s09)), atI_nat (j := 0) rfl, rfl, _, rfl, ?_⟩
    rcases hex with ⟨rfl, hl0, hns⟩ | ⟨hst, A, ts, rfl, _, hA, hts⟩
    ·have hns' : ¬ V.str w0 = V.str "stop" := fun e => hns (V.str.inj e)
     rw [decide_eq_false hns']
     refine iteF ?_
     exact ⟨s09, _, _, hd9, hv9, by rw [← etk (show ([] : List Ln) = ll from hl0.symm)]; exact BK, by rw [List.length_append, List.length_singleton]; omega, _, _, _, _, _, _, _, rfl⟩
    ·have hst' : w0 = "stop" := hst
     subst hst'
     rw [decide_eq_true rfl]
     refine iteT ?_
     have hA9 := s09 _ _ hA
     have hS9 : SqL K H9 A ts := .inl (.inl hA9)
     have hAD : ¬ A = D := fun z => by rw [z, hD] at hA; cases hA
     have hl4 := hlw.1
     have hlw2 := hlw.2.1
     have htl := hts.length
     have hsa : sz.getD a 0 = sz[a] := by rw [List.getD_eq_getElem?_getD, List.getElem?_eq_getElem ha]; rfl
     have hs61 := hsz sz[a] (List.getElem_mem ha)
     have mb : (nmS c a, sz[a]) ∈ bsOf (nmS c) sz := List.mem_of_getElem? (bsOf_get (List.getElem?_eq_getElem ha))
     refine ⟨_, rfl, _, rfl, q0, us, _, _, rfl, rfl, (hy' s09).1, (hy' s09).2, T1, _, _, _, rfl, rfl, .inl (.inl (T1e s09)), atI_nat (j := 2) rfl, A, rfl, ⟨_, hS9⟩, for_list (K := K) (a := A) (xs := ts) (fun j σ H4 => Same H H4 /\ ∃ (rows : List R) (vs4 : List V), H4 D = some (.lst vs4) /\ Paired (fun (r : R) v => TupAt H4 r.v v) rows vs4 /\ Bld K aB aP aM rows (bsOf (nmS c) sz) (rkW (nmS c) pz (wiW c)) ((ksOf (nmS c) (kls.map (·.1))).take (i + 1)) ((kls.map (·.2)).take i ++ [ll.take j]) /\ Tl rows (nmS c a) j /\ rows.length <= 9 + 5 * i + 1 + j /\ ∃ v8 v9 v10 v11, σ = [some (.int c), some (.ref p), some (.ref pp), some (.ref q0), some (.ref D), some (.int (0 + (i : Int))), some (.str (nmS c (30 + i))), some (.str (nmS c a)), v8, v9, v10, v11])
      ⟨s09, _, _, hd9, hv9, BK, Tl.stop rows _ _, by rw [List.length_append, List.length_singleton]; omega, _, _, _, _, rfl⟩ (fun j σ H4 _ h => .inl (.inl (h.1 _ _ hA))) ?_ ?_⟩
     ·rintro j x σ H10 hj ⟨s10, rows', vs10, hd10, hv10, B10, T10, hr10, v8, v9, v10, v11, rfl⟩
      obtain ⟨ln, hln, T2, rfl, ht2⟩ := paired_get' hts hj
      have hg := hlw2 ln (List.mem_of_getElem? hln)
      have hg1 := hg.r
      have hg2 := hg.lo
      have hg3 := hg.le
      have hg4 := hg.hi
      have hjl := (List.getElem?_eq_some_iff.mp hln).1
      have hjl4 : j < 4 := by omega
      rw [show sz.getD (Kb.pl "stop" a).bd 0 = sz[a] from hsa] at hg4
      refine ⟨T2, _, rfl, .inl (.inl (s10 _ _ ht2)), rfl, _, _, rfl, _, _, rfl, _, _, rfl, _, _, rfl, rfl, ?_⟩
      refine ⟨_, rfl, .inl ⟨rfl, _, .inl (.inl hd10)⟩, _, rfl, _, rfl, _, _, rfl, rfl, c, 10 + ln.r, rfl, by omega, fun H11 s11 => ?_⟩
      refine ⟨_, rfl, _, rfl, _, rfl, by show 5 <= sizeLine; decide, fun T12 hT12 => ?_⟩
      have t12 := same_upd (o := HO.tup [V.str "line", V.str (nmS c (10 + ln.r)), V.int ln.sh, V.int ln.lo, V.int ln.hi]) hT12
      have u12 : upd H11 T12 (HO.tup [V.str "line", V.str (nmS c (10 + ln.r)), V.int ln.sh, V.int ln.lo, V.int ln.hi]) T12 = some (.tup (R.v ⟨"line", nmS c (10 + ln.r), [.int ln.sh, .int ln.lo, .int ln.hi]⟩)) := upd_same
      generalize upd H11 T12 (HO.tup [V.str "line", V.str (nmS c (10 + ln.r)), V.int ln.sh, V.int ln.lo, V.int ln.hi]) = H12 at t12 u12 ⊢
      have hd12 := t12 _ _ (s11 _ _ hd10)
      have hvl10 := hv10.length
      refine ⟨D, vs10, _, rfl, rfl, hd12, small1000 (by omega), ?_⟩
      refine ⟨fun b o e => ?_, _, vs10 ++ [V.ref T12], upd_same, (paired_upd (paired_mono (s11.trans t12) hv10) hd12).snoc (TupAt.upd ⟨T12, rfl, u12⟩ hd12), ?_, T10.line rfl, by rw [List.length_append, List.length_singleton]; omega, _, _, _, _, rfl⟩
      ·rw [upd_ne (ne_of_none e hD)]
       exact t12 _ _ (s11 _ _ (s10 _ _ e))
      ·have e11 : ll.take (j + 1) = ll.take j ++ [ln] := by
        rw [List.take_add_one, show ll[j]? = some ln from hln]
        rfl
       rw [e11]
       exact B10.line F0 T10 hjl4 (rkW_get (List.getElem?_eq_getElem hg1)) hnd (hnm _ (by omega)) mb hg3 hg4 hg.s1 hg.s2 hg2 (by omega)
     ·rintro σ H10 ⟨s10, rows', vs10, hd10, hv10, B10, T10, hr10, v8, v9, v10, v11, rfl⟩
      rw [etk (List.take_of_length_le (by omega))] at B10
      exact ⟨s10, _, _, hd10, hv10, B10, by omega, _, _, _, _, _, _, _, rfl⟩
  ·rintro σ H4 ⟨s4, rows, vs4, hd, hv4, B, hrl, w5, w6, w7, w8, w9, w10, w11, rfl⟩
   rw [List.take_of_length_le (by rw [ksOf_len, List.length_map]; omega), List.take_of_length_le (by rw [List.length_map]; omega)] at B
   exact ⟨_, rfl, q D rows vs4 H4 hD s4 hd hv4 B (by omega)⟩
def OrgW (K : PySem.W.Frag) (aB aP aM : Addr) (H : Hp) (DS DP DK DR : Addr) (c : Int) (sz pz : List Nat) (kls : List Kl) (us : List V) (rows : List R) (vs : List V) : Prop := H DS = some (.lst (sz.map fun n : Nat => V.int (n : Nat))) /\ H DP = some (.lst (pz.map fun n : Nat => V.int (n : Nat))) /\ (1 <= sz.length /\ sz.length <= 5 /\ (∀ s ∈ sz, 1 <= s /\ s <= 61) /\ 1 <= pz.length /\ pz.length <= 4 /\ (∀ z ∈ pz, 1 <= z /\ z <= 97)) /\ H DK = some (.lst us) /\ Paired (fun z y => KnAt DK H z y) kls us /\ Kls sz pz kls /\ kls.length <= 21 /\ (∃ z ∈ kls, z.1.w = "stop") /\ H DR = some (.lst vs) /\ Paired (fun (r : R) v => TupAt H r.v v) rows vs /\ Bld K aB aP aM rows (bsOf (nmS c) sz) (rkW (nmS c) pz (wiW c)) (ksOf (nmS c) (kls.map (·.1))) (kls.map (·.2)) /\ rows.length <= 150
def spWd (K : PySem.W.Frag) (aB aP aM : Addr) : Sp := fun vs H Q _ => ∃ (a : Addr) (ns : List Int), vs = [.ref a] /\ SqL K H a (ns.map V.int) /\ ns.length <= 63 /\ KF2 K aB aP aM /\ ∀ (W DS DP DK DR : Addr) (c : Int) (sz pz : List Nat) (kls : List Kl) (us : List V) (rows : List R) (vs' : List V) H', Same H H' -> H' W = some (.lst [.ref DS, .ref DP, .ref DK, .ref DR]) -> OrgW K aB aP aM H' DS DP DK DR c sz pz kls us rows vs' -> Q (.ref W) H'
theorem ints_of : ∀ {xs : List V}, (∀ y ∈ xs, ∃ c : Int, y = .int c) -> ∃ cs : List Int, xs = cs.map V.int
 | [], _ => ⟨[], rfl⟩
 | y :: xs, h => by
  obtain ⟨c, rfl⟩ := h y (List.mem_cons_self ..)
  obtain ⟨cs, rfl⟩ := ints_of fun z hz => h z (List.mem_cons_of_mem _ hz)
  exact ⟨c :: cs, rfl⟩
theorem step_ints {ns : List Int} {lo hi : Option Int} {k : Int} : ∀ y ∈ stepV (ns.map V.int) lo hi k, ∃ c : Int, y = .int c := fun y hy => by
 obtain ⟨c, _, e⟩ := List.mem_map.mp (stepV_mem hy)
 exact ⟨c, e.symm⟩
theorem stepV_20 {ns : List Int} (h : ns.length <= 63) : (stepV (ns.map V.int) (some 3) (some 63) 3).length <= 20 := by
 unfold stepV
 refine Nat.le_trans (List.length_filterMap_le _ _) ?_
 have e : sliceBounds (some 3) (some 63) (some 3) (ns.map V.int).length = (max 0 (min 3 ((ns.length : Nat) : Int)), max 0 (min 63 ((ns.length : Nat) : Int)), 3) := by rw [List.length_map]; rfl
 rw [e]
 show (sliceRange (max 0 (min 3 ((ns.length : Nat) : Int))) (max 0 (min 63 ((ns.length : Nat) : Int))) 3).length <= 20
 unfold sliceRange
 rw [List.length_map, List.length_range]
 show (if (3 : Int) > 0 then (if max 0 (min 3 ((ns.length : Nat) : Int)) < max 0 (min 63 ((ns.length : Nat) : Int)) then (max 0 (min 63 ((ns.length : Nat) : Int)) - max 0 (min 3 ((ns.length : Nat) : Int)) + 3 - 1) / 3 else 0) else _).toNat <= 20
 rw [if_pos (by decide)]
 split <;> omega
theorem scWd : FnScope ["_law_script", "_law_first", "_law_second", "_law_sizes_here", "_law_pipes", "_law_knobs_here"] ["_law_script"] (defScope sWd) := ⟨rfl, rfl, rfl, by decide +kernel, rfl, by decide +kernel, by decide +kernel⟩
include N T in
theorem ok_Wd : FnOk P w K mg base CX0 6 fWd dWd ["_law_script"] (spWd K aB aP aM) := by
 have GCe : FnOk P w K mg base CX0 1 fCe dCe ["_law_script", "_law_k"] (spCe K) := ok_Ce N T
 have GSz : FnOk P w K mg base CX0 2 fSz dSz ["_law_cell", "_law_many", "_law_most"] spSz := ok_Sz N T
 have GMx : FnOk P w K mg base CX0 1 fMx dMx ["_law_cell", "_law_k"] spMx := ok_Mx N T
 have GKs : FnOk P w K mg base CX0 4 fKs dKs ["_law_cells", "_law_sizes_here", "_law_pipes"] spKs := ok_Ks N T
 have GRw : FnOk P w K mg base CX0 3 fRw dRw ["_law_cell", "_law_sizes_here", "_law_pipes", "_law_knobs_here"] (spRw K aB aP aM) := ok_Rw N T
 refine N.FWd.ok scWd (fun vs H Q E h => ?_) (fun cdv A outer s H vs Q E hr h => ?_)
 ·obtain ⟨a, ns, rfl, _⟩ := h
  rfl
 ·obtain ⟨a, ns, rfl, hS, hlen, F0, q⟩ := h
  have hrCe : Room 1 _ := hr.mono (by decide)
  have hrSz : Room 2 _ := hr.mono (by decide)
  have hrMx : Room 1 _ := hr.mono (by decide)
  have hrKs : Room 4 _ := hr.mono (by decide)
  have hrRw : Room 3 _ := hr.mono (by decide)
  refine ⟨_, (pss_cons (ps_set (i := 1) scWd.nd rfl (Or.inr rfl) (pe_call GCe hrCe rfl N.mCe N.FCe.kp N.bCe .nil pass0 (pa_cons (pv 0) (pa_cons pe_int pa_nil))))
   (pss_cons (ps_set (i := 2) scWd.nd rfl (Or.inr rfl) (pe_call GCe hrCe rfl N.mCe N.FCe.kp N.bCe .nil pass0 (pa_cons (pv 0) (pa_cons pe_int pa_nil))))
   (pss_cons (ps_set (i := 3) scWd.nd rfl (Or.inl rfl) (pe_call GSz hrSz rfl N.mSz N.FSz.kp N.bSz .nil pass0 (pa_cons (pv 2) (pa_cons (pe_ix ix_list (pe_lst (pa_cons pe_int (pa_cons pe_int (pa_cons pe_int (pa_cons pe_int (pa_cons pe_int pa_nil)))))) (pe_op op_mod (pv 1) pe_int) (fun _ _ => rfl)) (pa_cons pe_int pa_nil)))))
   (pss_cons (ps_comp (i := 4) scWd.nd rfl rfl rfl (compScope (osc := defScope sWd) (N := ["_law_script", "_law_first", "_law_second", "_law_sizes_here", "_law_pipes", "_law_knobs_here"]) rfl rfl (by decide +kernel)) (pi_range1 rfl T.range (pa_cons (pe_op op_add pe_int (pe_op op_mod (pe_op op_fdiv (pv 1) pe_int) pe_int)) pa_nil)) (fun _ _ _ _ => pf_nil) (fun _ _ _ _ => (pe_op op_add pe_int (pe_op op_mod (pe_call GMx hrMx rfl N.mMx N.FMx.kp N.bMx .nil pass0 (pa_cons (pv 3) (pa_cons (pe_op op_add pe_int (pv 0)) pa_nil))) (pe_ix (ix_listK (K := K) rfl) (pe_lst (pa_cons pe_int (pa_cons pe_int (pa_cons pe_int (pa_cons pe_int pa_nil))))) (pe_op op_mod (pe_op op_fdiv (pv 2) pe_int) pe_int) (fun _ _ => rfl))))))
   (pss_cons (ps_set (i := 5) scWd.nd rfl (Or.inl rfl) (pe_call GKs hrKs rfl N.mKs N.FKs.kp N.bKs .nil pass0 (pa_cons (pe_op op_cat (pe_step (pv 0) (po_some pe_int) (po_some pe_int) pe_int) (pe_lst (pa_cons (pe_op op_add (pe_op op_mul pe_int (pv 1)) pe_int) pa_nil))) (pa_cons (pv 3) (pa_cons (pv 4) pa_nil)))))
   (pss_one (ps_ret (pe_lst (pa_cons (pv 3) (pa_cons (pv 4) (pa_cons (pv 5) (pa_cons (pe_call GRw hrRw rfl N.mRw N.FRw.kp N.bRw .nil pass0 (pa_cons (pe_call GCe hrCe rfl N.mCe N.FCe.kp N.bCe .nil pass0 (pa_cons (pv 0) (pa_cons pe_int pa_nil))) (pa_cons (pv 3) (pa_cons (pv 4) (pa_cons (pv 5) pa_nil))))) pa_nil)))))))))))), ?_⟩
  refine ⟨_, rfl, a, 0, ns, rfl, hS, fun first => ?_⟩
  refine ⟨_, rfl, a, 1, ns, rfl, hS, fun c1 => ?_⟩
  refine ⟨_, rfl, by show 5 <= sizeLine; decide, fun l1 hl1 => ?_⟩
  have t1 := same_upd (o := HO.lst [V.int 1, V.int 2, V.int 2, V.int 3, V.int 5]) hl1
  have u1 : upd H l1 (HO.lst [V.int 1, V.int 2, V.int 2, V.int 3, V.int 5]) l1 = some (.lst [V.int 1, V.int 2, V.int 2, V.int 3, V.int 5]) := upd_same
  generalize upd H l1 (HO.lst [V.int 1, V.int 2, V.int 2, V.int 3, V.int 5]) = H1 at t1 u1 ⊢
  have f0 : 0 <= first % 5 /\ first % 5 < 5 := ⟨Int.emod_nonneg _ (by decide), Int.emod_lt_of_pos _ (by decide)⟩
  obtain ⟨v, hv, hm⟩ := atI_in (xs := [V.int 1, V.int 2, V.int 2, V.int 3, V.int 5]) (i := first % 5) f0.1 f0.2
  obtain ⟨m, rfl, hm0, hm5⟩ : ∃ m : Nat, v = .int (m : Nat) /\ 1 <= m /\ m <= 5 := by
   simp only [List.mem_cons, List.mem_singleton, List.not_mem_nil, or_false] at hm
   rcases hm with rfl | rfl | rfl | rfl | rfl
   ·exact ⟨1, rfl, by decide, by decide⟩
   ·exact ⟨2, rfl, by decide, by decide⟩
   ·exact ⟨2, rfl, by decide, by decide⟩
   ·exact ⟨3, rfl, by decide, by decide⟩
   ·exact ⟨5, rfl, by decide, by decide⟩
  refine ⟨_, rfl, _, _, rfl, rfl, (by show (0 : Int) < 5; decide), l1, _, _, _, rfl, rfl, .inl (.inl u1), hv, ?_⟩
  refine ⟨c1, m, 5, rfl, hm0, hm5, by decide, by decide, fun DS sz H3 hDS s3 hl3 hsl hsb => ?_⟩
  have s03 := t1.trans s3
  obtain ⟨n, en, hn1, hn4⟩ : ∃ n : Nat, 1 + first / 20 % 4 = (n : Int) /\ 1 <= n /\ n <= 4 := ⟨(1 + first / 20 % 4).toNat, by omega, by omega, by omega⟩
  refine ⟨_, rfl, _, _, rfl, rfl, ⟨by decide, by decide⟩, _, _, rfl, rfl, (by show (0 : Int) < 4; decide), _, _, rfl, rfl, _, rfl, (by rw [en]; omega), (by rw [en]; omega), ?_⟩
  rw [en, Int.toNat_natCast]
  have f4 : 0 <= first / 5 % 4 /\ first / 5 % 4 < 4 := ⟨Int.emod_nonneg _ (by decide), Int.emod_lt_of_pos _ (by decide)⟩
  obtain ⟨v4, hv4, hm4⟩ := atI_in (xs := [V.int 12, V.int 12, V.int 12, V.int 97]) (i := first / 5 % 4) f4.1 f4.2
  obtain ⟨mp, rfl, hmp0, hmp1⟩ : ∃ m : Nat, v4 = .int (m : Nat) /\ 1 <= m /\ m <= 97 := by
   simp only [List.mem_cons, List.mem_singleton, List.not_mem_nil, or_false] at hm4
   rcases hm4 with rfl | rfl | rfl | rfl
   ·exact ⟨12, rfl, by decide, by decide⟩
   ·exact ⟨12, rfl, by decide, by decide⟩
   ·exact ⟨12, rfl, by decide, by decide⟩
   ·exact ⟨97, rfl, by decide, by decide⟩
  refine comp_range (lo := 0) (n := n) (fun _ => true) (fun i => .int (1 + mixX c1 (60 + i) % (mp : Nat))) (small1000 (by omega)) (fun i hi H' hs R k => k H' (Same.refl H')) (fun i hi _ H' hs R k => ?_) (fun DP H4 hDP s4 hl4 => ?_)
  ·refine ⟨_, rfl, _, rfl, _, _, rfl, rfl, _, _, rfl, by omega, by omega, by show 4 <= sizeLine; decide, fun l5 hl5 => ?_⟩
   refine ⟨_, rfl, _, _, rfl, rfl, ⟨by decide, by decide⟩, _, _, rfl, rfl, (by show (0 : Int) < 4; decide), l5, _, _, _, rfl, rfl, .inl (.inl upd_same), hv4, _, _, rfl, rfl, (by show (0 : Int) < (mp : Nat); omega), _, _, rfl, rfl, k _ (same_upd hl5)⟩
  obtain ⟨pz, epz, hpzl, hpz⟩ : ∃ pz : List Nat, (((((List.range n).map fun (i : Nat) => (0 : Int) + (i : Int)).filter fun _ => true).map fun i => V.int (1 + mixX c1 (60 + i) % (mp : Nat)))) = (pz.map fun n : Nat => V.int (n : Nat)) /\ pz.length = n /\ ∀ z ∈ pz, 1 <= z /\ z <= 97 := by
   refine ⟨(List.range n).map fun (i : Nat) => (1 + mixX c1 (60 + (0 + (i : Nat))) % (mp : Nat)).toNat, ?_, by simp, fun z hz => ?_⟩
   ·rw [List.filter_eq_self.mpr (fun _ _ => rfl), List.map_map, List.map_map]
    refine List.map_congr_left fun i _ => ?_
    have h1 : 0 <= mixX c1 (60 + (0 + (i : Int))) % (mp : Nat) := Int.emod_nonneg _ (by omega)
    show V.int (1 + mixX c1 (60 + (0 + (i : Int))) % (mp : Nat)) = V.int (((1 + mixX c1 (60 + (0 + (i : Int))) % (mp : Nat)).toNat : Nat) : Int)
    rw [Int.toNat_of_nonneg (by omega)]
   ·obtain ⟨i, _, rfl⟩ := List.mem_map.mp hz
    have h1 : 0 <= mixX c1 (60 + (0 + (i : Int))) % (mp : Nat) := Int.emod_nonneg _ (by omega)
    have h2 : mixX c1 (60 + (0 + (i : Int))) % (mp : Nat) < (mp : Nat) := Int.emod_lt_of_pos _ (by omega)
    omega
  rw [epz] at hl4
  clear epz
  have s04 := s03.trans s4
  have hS4 := s4 _ _ hl3
  refine ⟨_, rfl, _, rfl, _, rfl, 3, rfl, by decide, a, _, rfl, s04.seq hS, fun p5 hp5 hl5 => ?_⟩
  have t5 := same_upd (o := HO.lst (stepV (ns.map V.int) (some 3) (some 63) 3)) hp5
  have u5 : upd H4 p5 (HO.lst (stepV (ns.map V.int) (some 3) (some 63) 3)) p5 = _ := upd_same
  obtain ⟨cs, ecs⟩ := ints_of (step_ints (ns := ns) (lo := some 3) (hi := some 63) (k := 3))
  have hcs : cs.length <= 20 := by
   have := stepV_20 (ns := ns) hlen
   rw [ecs, List.length_map] at this
   exact this
  generalize upd H4 p5 (HO.lst (stepV (ns.map V.int) (some 3) (some 63) 3)) = H5 at t5 u5 ⊢
  rw [ecs] at u5
  refine ⟨_, rfl, _, _, rfl, rfl, .inl ⟨by decide, by decide⟩, _, _, rfl, rfl, by show 1 <= sizeLine; decide, fun p6 hp6 => ?_⟩
  have t6 := same_upd (o := HO.lst [V.int (8 * first + 4)]) hp6
  have u6 : upd H5 p6 (HO.lst [V.int (8 * first + 4)]) p6 = some (.lst [V.int (8 * first + 4)]) := upd_same
  refine ⟨p5, p6, _, _, rfl, rfl, t6 _ _ u5, u6, line20 (by rw [List.length_map]; show cs.length + 1 <= 1000; omega), fun p7 hp7 => ?_⟩
  have t7 := same_upd (o := HO.lst (cs.map V.int ++ [V.int (8 * first + 4)])) hp7
  have u7 : upd (upd H5 p6 (HO.lst [V.int (8 * first + 4)])) p7 (HO.lst (cs.map V.int ++ [V.int (8 * first + 4)])) p7 = some (.lst ((cs ++ [8 * first + 4]).map V.int)) := by rw [List.map_append]; exact upd_same
  have s47 := t5.trans (t6.trans t7)
  have l7 := s47 _ _ hS4
  have lp7 := s47 _ _ hl4
  have wh : 1 <= sz.length /\ sz.length <= 5 /\ (∀ s ∈ sz, 1 <= s /\ s <= 61) /\ 1 <= pz.length /\ pz.length <= 4 /\ (∀ z ∈ pz, 1 <= z /\ z <= 97) := ⟨by omega, by omega, fun s hs => ⟨(hsb s hs).1, by have := (hsb s hs).2; omega⟩, by omega, by omega, hpz⟩
  obtain ⟨w1, w2, w3, w4, w5, w6⟩ := id wh
  refine ⟨_, rfl, _, rfl, p7, DS, DP, cs ++ [8 * first + 4], sz, pz, rfl, u7, by rw [List.length_append, List.length_singleton]; omega, l7, lp7, w1, w2, w3, w4, w5, w6, fun DK kls us H8 hDK s8 hl8 hp8 hkb hkl hst => ?_⟩
  have hst := hst ⟨8 * first + 4, by simp, by omega⟩
  have s08 := s04.trans (s47.trans s8)
  have l8 := s8 _ _ l7
  have lp8 := s8 _ _ lp7
  clear u7 t7 u6 t6 u5 t5 l7 lp7
  refine ⟨_, rfl, _, rfl, _, rfl, _, rfl, a, 2, ns, rfl, s08.seq hS, fun c2 => ?_⟩
  refine ⟨_, rfl, _, rfl, _, rfl, c2, DS, DP, DK, DK, sz, pz, kls, us, rfl, l8, lp8, w1, w2, w3, w4, w5, w6, hl8, hp8, hkb, hkl, F0, fun DR rows vs9 H9 hDR s9 hl9 hv9 B9 hr9 => ?_⟩
  refine ⟨by show 4 <= sizeLine; decide, fun W hW => ?_⟩
  have t10 := same_upd (o := HO.lst [V.ref DS, V.ref DP, V.ref DK, V.ref DR]) hW
  have s910 := s9.trans t10
  exact q W DS DP DK DR c2 sz pz kls us rows vs9 _ (s08.trans s910) upd_same ⟨s910 _ _ l8, s910 _ _ lp8, wh, s910 _ _ hl8, Paired.mapP hp8 (fun _ _ z => z.mono s910), hkb, hkl, hst, t10 _ _ hl9, paired_mono t10 hv9, B9, hr9⟩
def spDr : Sp := fun vs H Q _ => ∃ (c : Int) (m : Nat), vs = [.int c, .int (m : Nat)] /\ m <= 100 /\ ∀ D (l : List Nat) H', H D = none -> Same H H' -> H' D = some (.lst (nV l)) -> (∀ k ∈ l, k < m) -> l.length <= 100 -> Q (.ref D) H'
theorem scDr : FnScope ["_law_cell", "_law_count"] ["_law_cell", "_law_count"] (defScope sDr) := ⟨rfl, rfl, rfl, by decide +kernel, rfl, by decide +kernel, by decide +kernel⟩
include N T in
theorem ok_Dr : FnOk P w K mg base CX0 2 fDr dDr ["_law_cell", "_law_count"] spDr := by
 have GMx : FnOk P w K mg base CX0 1 fMx dMx ["_law_cell", "_law_k"] spMx := ok_Mx N T
 refine N.FDr.ok scDr (fun vs H Q E h => ?_) (fun cdv A outer s H vs Q E hr h => ?_)
 ·obtain ⟨c, m, rfl, _⟩ := h
  rfl
 ·obtain ⟨c, m, rfl, hm, q⟩ := h
  have hrMx : Room 1 _ := hr.mono (by decide)
  refine ⟨_, (pss_one (ps_ret (pe_comp rfl (compScope (osc := defScope sDr) (N := ["_law_cell", "_law_count"]) rfl rfl (by decide +kernel)) (pi_range1 rfl T.range (pa_cons (pv 1) pa_nil)) (fun _ _ _ _ => (pf_one (pt_cmpR op_le (pe_op op_mod (pe_op op_fdiv (pe_call GMx hrMx rfl N.mMx N.FMx.kp N.bMx .nil pass0 (pa_cons (pe_op op_fdiv (pv 1) pe_int) (pa_cons (pe_op op_add pe_int (pv 0)) pa_nil))) pe_int) pe_int) (pe_op op_mod (pv 1) pe_int) (nomark _)))) (fun _ _ _ _ => (pv 0))))), ?_⟩
  refine ⟨_, rfl, _, rfl, by omega, by omega, ?_⟩
  rw [Int.toNat_natCast]
  refine comp_range (lo := 0) (n := m) (fun i => decide (mixX (c / 4) (70 + i) / 16 % 4 <= c % 4)) (fun i => .int i) (small1000 (by omega)) (fun i hi H' hs R k => ?_) (fun i hi _ H' hs R k => ⟨_, rfl, k H' (Same.refl H')⟩) (fun D H' hD hs hl => ?_)
  ·exact ⟨_, rfl, _, _, rfl, rfl, ⟨by decide, by decide⟩, _, rfl, _, _, rfl, rfl, _, _, rfl, by omega, by omega, _, _, rfl, rfl, ⟨by decide, by decide⟩, _, _, rfl, rfl, (by show (0 : Int) < 4; decide), _, rfl, _, _, rfl, rfl, (by show (0 : Int) < 4; decide), _, _, rfl, rfl, _, rfl, k H' (Same.refl H')⟩
  ·refine q D ((List.range m).filter fun (i : Nat) => decide (mixX (c / 4) (70 + (0 + (i : Int))) / 16 % 4 <= c % 4)) H' hD hs ?_ (fun k hk => List.mem_range.mp (List.mem_filter.mp hk).1) ?_
   ·rw [hl, List.filter_map, List.map_map]
    refine congrArg (fun l => some (HO.lst l)) (List.map_congr_left fun i _ => ?_)
    show V.int ((0 : Int) + (i : Int)) = V.int (i : Int)
    rw [Int.zero_add]
   ·refine Nat.le_trans (List.length_filter_le _ _) ?_
    rw [List.length_range]
    exact hm
def spHd : Sp := fun vs H Q _ => ∃ (c : Int) (m : Nat), vs = [.int c, .int (m : Nat)] /\ 1 <= m /\ ∀ D (l : List Nat) H', H D = none -> Same H H' -> H' D = some (.lst (nV l)) -> (∀ k ∈ l, k < m) -> l.length <= 4 -> Q (.ref D) H'
theorem scHd : FnScope ["_law_cell", "_law_count"] ["_law_cell", "_law_count"] (defScope sHd) := ⟨rfl, rfl, rfl, by decide +kernel, rfl, by decide +kernel, by decide +kernel⟩
include N T in
theorem ok_Hd : FnOk P w K mg base CX0 2 fHd dHd ["_law_cell", "_law_count"] spHd := by
 have GMx : FnOk P w K mg base CX0 1 fMx dMx ["_law_cell", "_law_k"] spMx := ok_Mx N T
 refine N.FHd.ok scHd (fun vs H Q E h => ?_) (fun cdv A outer s H vs Q E hr h => ?_)
 ·obtain ⟨c, m, rfl, _⟩ := h
  rfl
 ·obtain ⟨c, m, rfl, hm, q⟩ := h
  have hrMx : Room 1 _ := hr.mono (by decide)
  refine ⟨_, (pss_one (ps_ret (pe_comp rfl (compScope (osc := defScope sHd) (N := ["_law_cell", "_law_count"]) rfl rfl (by decide +kernel)) (pi_range1 rfl T.range (pa_cons (pe_op op_mod (pv 0) pe_int) pa_nil)) (fun _ _ _ _ => pf_nil) (fun _ _ _ _ => (pe_op op_mod (pe_call GMx hrMx rfl N.mMx N.FMx.kp N.bMx .nil pass0 (pa_cons (pe_op op_fdiv (pv 1) pe_int) (pa_cons (pe_op op_add pe_int (pv 0)) pa_nil))) (pv 2)))))), ?_⟩
  have c0 : 0 <= c % 5 /\ c % 5 < 5 := ⟨Int.emod_nonneg _ (by decide), Int.emod_lt_of_pos _ (by decide)⟩
  refine ⟨_, rfl, _, _, rfl, rfl, (by show (0 : Int) < 5; decide), c % 5, rfl, by omega, by omega, ?_⟩
  refine comp_range (lo := 0) (n := (c % 5).toNat) (fun _ => true) (fun i => .int (mixX (c / 5) (100 + i) % (m : Nat))) (small1000 (by omega)) (fun i hi H' hs R k => k H' (Same.refl H')) (fun i hi _ H' hs R k => ?_) (fun D H' hD hs hl => ?_)
  ·exact ⟨_, rfl, _, _, rfl, rfl, ⟨by decide, by decide⟩, _, rfl, _, _, rfl, rfl, _, _, rfl, by omega, by omega, _, rfl, _, _, rfl, rfl, (by show (0 : Int) < (m : Nat); omega), k H' (Same.refl H')⟩
  ·have nn : ∀ i : Int, 0 <= mixX (c / 5) (100 + i) % (m : Nat) /\ mixX (c / 5) (100 + i) % (m : Nat) < (m : Nat) := fun i => ⟨Int.emod_nonneg _ (by omega), Int.emod_lt_of_pos _ (by omega)⟩
   refine q D ((List.range (c % 5).toNat).map fun (i : Nat) => (mixX (c / 5) (100 + (0 + (i : Int))) % (m : Nat)).toNat) H' hD hs ?_ (fun k hk => ?_) (by simp; omega)
   ·rw [hl, List.filter_eq_self.mpr (fun _ _ => rfl), List.map_map]
    unfold nV
    rw [List.map_map]
    refine congrArg (fun l => some (HO.lst l)) (List.map_congr_left fun i _ => ?_)
    have := nn (0 + (i : Int))
    show V.int (mixX (c / 5) (100 + (0 + (i : Int))) % (m : Nat)) = V.int (((mixX (c / 5) (100 + (0 + (i : Int))) % (m : Nat)).toNat : Nat) : Int)
    rw [Int.toNat_of_nonneg this.1]
   ·obtain ⟨i, _, rfl⟩ := List.mem_map.mp hk
    have := nn (0 + (i : Int))
    omega
def Bq (sz : List Nat) (rk : List (Str × Nat × Int)) (kbs : List Kb) (ls : List (List Ln)) (k j p : Nat) : Prop := ∃ ln ∈ ls.getD k [], ∃ i : Nat, i < sz.getD (bdN kbs k) 0 /\ j = (sz.take (bdN kbs k)).sum + i /\ ln.lo <= (i : Int) /\ (i : Int) <= ln.hi /\ 0 <= (i : Int) + ln.sh /\ (i : Int) + ln.sh < (szRk rk ln.r : Nat) /\ (p : Int) = (stR rk ln.r : Nat) + ((i : Int) + ln.sh)
def SpkL (c : Nat -> Str) (sz : List Nat) (kbs : List Kb) (dl hl : List Nat) (j : Nat) : Prop := Rch (stp (bsOf c sz) kbs (Wd.mk dl)) (fun i => i ∈ hl) j \/ (j ∈ hl /\ ∀ b, brd sz j b -> ¬ Muted kbs (Wd.mk dl) b)
def SndL (c : Nat -> Str) (sz : List Nat) (rk : List (Str × Nat × Int)) (kbs : List Kb) (ls : List (List Ln)) (dl hl : List Nat) (p : Nat) : Prop := ∃ k ∈ dl, (∃ z, kbs[k]? = some z /\ z.w = "stop") /\ ∃ j, SpkL c sz kbs dl hl j /\ Bq sz rk kbs ls k j p
def spSn (C : Addr) : Sp := fun vs H Q _ => ∃ (x DD DH : Addr) (c : Nat -> Str) (sz : List Nat) (rk : List (Str × Nat × Int)) (kbs : List Kb) (ls : List (List Ln)) (dl hl : List Nat), vs = [.ref x, .ref DD, .ref DH] /\ OrgAt2 C H x (bsOf c sz) rk (ksOf c kbs) ls /\ Kbs sz.length kbs /\ LsG rk ls /\ H DD = some (.lst (nV dl)) /\ dl.length <= 500 /\ (∀ k ∈ dl, k < 1200) /\ H DH = some (.lst (nV hl)) /\ hl.length <= 500 /\ (∀ k ∈ hl, k < sz.sum) /\
 ∀ (v : Nat) H', Same H H' -> (∀ p, v.testBit p = true ↔ SndL c sz rk kbs ls dl hl p) -> Q (.int (v : Nat)) H'
theorem scSn : FnScope ["_law_organ", "_law_drawn_here", "_law_held_here"] ["_law_organ", "_law_drawn_here", "_law_held_here"] (defScope sSn) := ⟨rfl, rfl, rfl, by decide +kernel, rfl, by decide +kernel, by decide +kernel⟩
include N T in
theorem ok_Sn : FnOk P w K mg base CX0 8 fSn dSn ["_law_organ", "_law_drawn_here", "_law_held_here"] (spSn C) := by
 have GSo : FnOk P w K mg base CX0 7 fSo dSo ["organ", "knobs", "held"] (spSo C) := ok_So N T
 have GBi : FnOk P w K mg base CX0 1 fBi dBi ["_law_numbers"] spBi := ok_Bi N T
 refine N.FSn.ok scSn (fun vs H Q E h => ?_) (fun cdv A outer s H vs Q E hr h => ?_)
 ·obtain ⟨x, DD, DH, c, sz, rk, kbs, ls, dl, hl, rfl, _⟩ := h
  rfl
 ·obtain ⟨x, DD, DH, c, sz, rk, kbs, ls, dl, hl, rfl, O, hkb, hls, hd, hdl, hdb, hh, hhl, hhb, q⟩ := h
  have hrSo : Room 7 _ := hr.mono (by decide)
  have hrBi : Room 1 _ := hr.mono (by decide)
  refine ⟨_, (pss_one (ps_ret (pe_call GSo hrSo rfl N.mSo N.FSo.kp N.bSo .nil pass0 (pa_cons (pv 0) (pa_cons (pe_call GBi hrBi rfl N.mBi N.FBi.kp N.bBi .nil pass0 (pa_cons (pv 1) pa_nil)) (pa_cons (pe_call GBi hrBi rfl N.mBi N.FBi.kp N.bBi .nil pass0 (pa_cons (pv 2) pa_nil)) pa_nil)))))), ?_⟩
  have h305 := plc_305 O.o
  rw [bsOf_szs] at h305
  have hhb' : ∀ k ∈ hl, k < 1200 := fun k hk => by have := hhb k hk; omega
  have bitL : ∀ (l : List Nat) k, (Wd.mk l).testBit k = true ↔ k ∈ l := fun l k => by rw [Wd.mk_bit, decide_eq_true_eq]
  have hht : ∀ i, (Wd.mk hl).testBit i = true -> i < sz.sum := fun i hi => hhb i ((bitL hl i).mp hi)
  refine ⟨_, rfl, _, rfl, DD, dl, rfl, hd, hdl, hdb, _, rfl, DH, hl, rfl, hh, hhl, hhb', x, c, sz, rk, kbs, ls, Wd.mk dl, Wd.mk hl, rfl, O, hkb, hls, Wd.mk_lt hhb', hht, fun cl m H1 s1 hcl hm => ?_⟩
  refine q _ H1 s1 fun p => ?_
  rw [ba_bit]
  have spk : ∀ j, m.testBit j = true ↔ SpkL c sz kbs dl hl j := fun j => by
   rw [hm]
   unfold Speaks SpkL
   exact or_congr (Rch.iff (bitL hl)) (and_congr (bitL hl j) Iff.rfl)
  have key : ∀ {k : Nat} {z : Kb}, kbs[k]? = some z -> ((bsP sz rk (bdN kbs k) (ls.getD k []) m).testBit p = true ↔ ∃ j, SpkL c sz kbs dl hl j /\ Bq sz rk kbs ls k j p) := fun {k z} hz => by
   have hg : ∀ ln ∈ ls.getD k [], LnG rk ln := fun ln hln => by
    rw [List.getD_eq_getElem?_getD] at hln
    cases e : ls[k]? with
    | none => rw [e] at hln; cases hln
    | some l => rw [e] at hln; exact (hls l (List.mem_of_getElem? e)).2 ln hln
   rw [bs_bit hg]
   constructor
   ·rintro ⟨ln, hl', i, h1, h2, r⟩
    exact ⟨_, (spk _).mp h2, ln, hl', i, h1, rfl, r⟩
   ·rintro ⟨j, hj, ln, hl', i, h1, rfl, r⟩
    exact ⟨ln, hl', i, h1, (spk _).mpr hj, r⟩
  constructor
  ·rintro ⟨k, hk, hb⟩
   obtain ⟨z, hz, hw, hd'⟩ := (hcl k).mp hk
   exact ⟨k, (bitL dl k).mp hd', ⟨z, hz, hw⟩, (key hz).mp hb⟩
  ·rintro ⟨k, hk, ⟨z, hz, hw⟩, h⟩
   exact ⟨k, (hcl k).mpr ⟨z, hz, hw, (bitL dl k).mpr hk⟩, (key hz).mpr h⟩
section
variable {c : Nat -> Str} {sz : List Nat} {rk : List (Str × Nat × Int)} {kbs : List Kb} {ls : List (List Ln)}
theorem mk_bitL (l : List Nat) (k : Nat) : (Wd.mk l).testBit k = true ↔ k ∈ l := by rw [Wd.mk_bit, decide_eq_true_eq]
theorem spk_or {dl h1 h2 : List Nat} {j : Nat} : SpkL c sz kbs dl (h1 ++ h2) j ↔ SpkL c sz kbs dl h1 j \/ SpkL c sz kbs dl h2 j := by
 unfold SpkL
 have e : Rch (stp (bsOf c sz) kbs (Wd.mk dl)) (fun i => i ∈ h1 ++ h2) j ↔ Rch (stp (bsOf c sz) kbs (Wd.mk dl)) (fun i => i ∈ h1) j \/ Rch (stp (bsOf c sz) kbs (Wd.mk dl)) (fun i => i ∈ h2) j := (Rch.iff fun i => List.mem_append).trans Rch.or
 rw [e, List.mem_append]
 constructor
 ·rintro ((h | h) | ⟨h | h, m⟩)
  ·exact .inl (.inl h)
  ·exact .inr (.inl h)
  ·exact .inl (.inr ⟨h, m⟩)
  ·exact .inr (.inr ⟨h, m⟩)
 ·rintro ((h | ⟨h, m⟩) | (h | ⟨h, m⟩))
  ·exact .inl (.inl h)
  ·exact .inr ⟨.inl h, m⟩
  ·exact .inl (.inr h)
  ·exact .inr ⟨.inr h, m⟩
theorem snd_or {dl h1 h2 : List Nat} {p : Nat} : SndL c sz rk kbs ls dl (h1 ++ h2) p ↔ SndL c sz rk kbs ls dl h1 p \/ SndL c sz rk kbs ls dl h2 p := by
 constructor
 ·rintro ⟨k, hk, hs, j, hj, hb⟩
  rcases spk_or.mp hj with h | h
  ·exact .inl ⟨k, hk, hs, j, h, hb⟩
  ·exact .inr ⟨k, hk, hs, j, h, hb⟩
 ·rintro (⟨k, hk, hs, j, hj, hb⟩ | ⟨k, hk, hs, j, hj, hb⟩)
  ·exact ⟨k, hk, hs, j, spk_or.mpr (.inl hj), hb⟩
  ·exact ⟨k, hk, hs, j, spk_or.mpr (.inr hj), hb⟩
theorem spk_mono {d1 d2 hl : List Nat} {j : Nat} (hc : ∀ (k : Nat) (z : Kb), kbs[k]? = some z -> z.w = "coupler" -> k ∈ d1 -> k ∈ d2) (hm : ∀ (k : Nat) (z : Kb), kbs[k]? = some z -> z.w = "mute" -> k ∈ d2 -> k ∈ d1) (hw : ∀ z ∈ kbs, ∀ i j, gl (bsOf c sz) z i = some j -> z.w = "coupler") (h : SpkL c sz kbs d1 hl j) : SpkL c sz kbs d2 hl j := by
 rcases h with h | ⟨h, m⟩
 ·refine .inl (h.mono (fun i j ⟨k, z, hd, hz, hg⟩ => ⟨k, z, ?_, hz, hg⟩) fun _ z => z)
  rw [mk_bitL] at hd ⊢
  exact hc k z hz (hw z (List.mem_of_getElem? hz) i j hg) hd
 ·refine .inr ⟨h, fun b hb ⟨k, z, hz, hw', hd, e⟩ => m b hb ⟨k, z, hz, hw', ?_, e⟩⟩
  rw [mk_bitL] at hd ⊢
  exact hm k z hz hw' hd
theorem snd_mono {d1 d2 hl : List Nat} {p : Nat} (hs : ∀ (k : Nat) (z : Kb), kbs[k]? = some z -> z.w = "stop" -> k ∈ d1 -> k ∈ d2) (hc : ∀ (k : Nat) (z : Kb), kbs[k]? = some z -> z.w = "coupler" -> k ∈ d1 -> k ∈ d2) (hm : ∀ (k : Nat) (z : Kb), kbs[k]? = some z -> z.w = "mute" -> k ∈ d2 -> k ∈ d1) (hw : ∀ z ∈ kbs, ∀ i j, gl (bsOf c sz) z i = some j -> z.w = "coupler") (h : SndL c sz rk kbs ls d1 hl p) : SndL c sz rk kbs ls d2 hl p := by
 obtain ⟨k, hk, ⟨z, hz, hzw⟩, j, hj, hb⟩ := h
 exact ⟨k, hs k z hz hzw hk, ⟨z, hz, hzw⟩, j, spk_mono hc hm hw hj, hb⟩
theorem gl_cp {bs : List (Str × Nat)} {n : Nat} {z : Kb} (ho : z.ok n) {i j : Nat} (h : gl bs z i = some j) : z.w = "coupler" := by
 cases z with
 | cp a b s => rfl
 | pl w a => cases h
end
def spLaw (K : PySem.W.Frag) : Sp := fun vs H Q _ => ∃ (a : Addr) (ns : List Int), vs = [.ref a] /\ SqL K H a (ns.map V.int) /\ ns.length <= 63 /\ ∀ H', Q (.bl true) H'
theorem sum_pos {l : List Nat} (h : 1 <= l.length) (hs : ∀ s ∈ l, 1 <= s) : 1 <= l.sum := by
 cases l with
 | nil => simp at h
 | cons a l =>
  have := hs a (List.mem_cons_self ..)
  rw [List.sum_cons]
  omega
theorem nat_ext {a b : Nat} (h : ∀ p, a.testBit p = true ↔ b.testBit p = true) : a = b := Nat.eq_of_testBit_eq fun p => Bool.eq_iff_iff.mpr (h p)
theorem op_notInK {X : Cx} {K : PySem.W.Frag} (h : X.K = K) : OpR X (compareOp .NotIn) (rIn K true) := h ▸ op_notIn_seq
theorem in_nV (k : Nat) (l : List Nat) : inV (.int (k : Nat)) (nV l) = decide (k ∈ l) := by
 unfold inV nV
 rw [List.any_map, Bool.eq_iff_iff, List.any_eq_true, decide_eq_true_eq]
 constructor
 ·rintro ⟨y, hy, e⟩
  have e' : decide (((y : Nat) : Int) = (k : Nat)) = true := e
  have := of_decide_eq_true e'
  have : y = k := by omega
  subst this
  exact hy
 ·intro h
  refine ⟨k, h, ?_⟩
  show decide (((k : Nat) : Int) = (k : Nat)) = true
  exact decide_eq_true rfl
theorem flat_nV (l : List Nat) : (nV l).all flatV = true := by unfold nV; rw [List.all_map]; exact List.all_eq_true.mpr fun _ _ => rfl
theorem cut_nV (l : List Nat) (a b : Nat) : cutV (nV l) (some (a : Nat)) (some (b : Nat)) = nV ((l.drop (min a l.length)).take (min b l.length - min a l.length)) := by
 unfold cutV nV
 rw [HT.sIx_nat, HT.sIx_nat, List.length_map, ← List.map_drop, ← List.map_take]
theorem cut_nV1 (l : List Nat) : cutV (nV l) none (some (1 : Int)) = nV (l.take (min 1 l.length)) := by
 unfold cutV nV
 have e : HT.sIx (List.map (fun i : Nat => V.int (i : Nat)) l).length (List.map (fun i : Nat => V.int (i : Nat)) l).length (some (1 : Int)) = min 1 l.length := by
  rw [List.length_map]
  exact HT.sIx_nat _ _ 1
 rw [HT.sIx_none]
 show List.take (HT.sIx _ _ _ - 0) _ = _
 rw [e, List.drop_zero, ← List.map_take, Nat.sub_zero]
def pbN (kls : List Kl) (wd : Str) (neg : Bool) (k : Nat) : Bool := match kls[k]? with | some z => (if neg then !decide (V.str z.1.w = V.str wd) else decide (V.str z.1.w = V.str wd)) | none => false
def pbV (kls : List Kl) (wd : Str) (neg : Bool) : V -> Bool := fun v => match v with | .int k => pbN kls wd neg k.toNat | _ => false
theorem pb_filter (kls : List Kl) (wd : Str) (neg : Bool) (l : List Nat) : (nV l).filter (pbV kls wd neg) = nV (l.filter (pbN kls wd neg)) := by
 unfold nV
 rw [List.filter_map]
 refine congrArg _ (List.filter_congr fun i _ => ?_)
 show pbN kls wd neg ((i : Nat) : Int).toNat = _
 rw [Int.toNat_natCast]
theorem pb_eq {kls : List Kl} {wd : Str} {neg : Bool} {k : Nat} {z : Kl} (h : kls[k]? = some z) : pbV kls wd neg (.int (k : Nat)) = (if neg then !decide (V.str z.1.w = V.str wd) else decide (V.str z.1.w = V.str wd)) := by
 show pbN kls wd neg ((k : Nat) : Int).toNat = _
 rw [Int.toNat_natCast]
 unfold pbN
 rw [h]
theorem pb_memF {kls : List Kl} {wd : Str} {k : Nat} {z : Kl} {l : List Nat} (h : kls[k]? = some z) : k ∈ l.filter (pbN kls wd false) ↔ k ∈ l /\ z.1.w = wd := by
 rw [List.mem_filter]
 unfold pbN
 rw [h]
 refine and_congr Iff.rfl ?_
 show decide _ = true ↔ _
 rw [decide_eq_true_eq]
 exact ⟨fun e => V.str.inj e, fun e => congrArg V.str e⟩
theorem pb_memT {kls : List Kl} {wd : Str} {k : Nat} {z : Kl} {l : List Nat} (h : kls[k]? = some z) : k ∈ l.filter (pbN kls wd true) ↔ k ∈ l /\ ¬ z.1.w = wd := by
 rw [List.mem_filter]
 unfold pbN
 rw [h]
 refine and_congr Iff.rfl ?_
 show (!decide _) = true ↔ _
 rw [Bool.not_eq_true', decide_eq_false_iff_not]
 exact ⟨fun e e' => e (congrArg V.str e'), fun e e' => e (V.str.inj e')⟩
theorem in_filt {l : List Nat} {f : Nat -> Bool} {k : Nat} (h : k ∈ l.filter f) : k ∈ l := (List.mem_filter.mp h).1
def chk (l : List Nat) (c j : Nat) : List Nat := (l.drop (min (j * c) l.length)).take (min (j * c + c) l.length - min (j * c) l.length)
theorem chk_mem {l : List Nat} {c j k : Nat} (h : k ∈ chk l c j) : k ∈ l := List.mem_of_mem_drop (List.mem_of_mem_take h)
theorem chk_has {l : List Nat} {c k : Nat} (hc : 1 <= c) (h : k ∈ l) : ∃ j, j < (l.length + c - 1) / c /\ k ∈ chk l c j := by
 obtain ⟨i, hi⟩ := List.mem_iff_getElem?.mp h
 have hl : i < l.length := (List.getElem?_eq_some_iff.mp hi).1
 have h1 := Nat.div_add_mod i c
 have h2 := Nat.mod_lt i (Nat.lt_of_lt_of_le Nat.zero_lt_one hc)
 have h3 : i / c * c = c * (i / c) := Nat.mul_comm _ _
 refine ⟨i / c, ?_, ?_⟩
 ·have : i / c + 1 <= (l.length + c - 1) / c := (Nat.le_div_iff_mul_le (by omega)).mpr (by rw [Nat.add_mul, Nat.one_mul]; omega)
  omega
 ·unfold chk
  refine List.mem_iff_getElem?.mpr ⟨i - i / c * c, ?_⟩
  rw [List.getElem?_take, if_pos (by omega), List.getElem?_drop]
  have e : min (i / c * c) l.length + (i - i / c * c) = i := by omega
  rw [e]
  exact hi
theorem chk_len {l : List Nat} {c j : Nat} : (chk l c j).length <= l.length := by
 unfold chk
 rw [List.length_take, List.length_drop]
 omega
theorem scLaw : FnScope ["_law_script", "_law_world_here", "_law_knobs_here", "_law_organ", "_law_one", "_law_two", "_law_drawn_here", "_law_held_here", "_law_more", "_law_whole_here", "_law_apart", "_law_stops", "_law_others", "_law_found", "_law_step", "_law_at", "_law_loud", "_law_couplers", "_law_fewer"] ["_law_script"] (defScope sLaw) := ⟨rfl, rfl, rfl, by decide +kernel, rfl, by decide +kernel, by decide +kernel⟩
theorem ok_law {f : Addr} {fd : FuncData} (F : Fun K "law" "law" sLaw f fd) (N : Fns K mg C fWh fMd fNm fRo fTo fWi fPa fHp fCl fIk fSb fWm fHr fIr fCk fNu fCa fPl fLi fMy fSt fHa fMe fSh fUn fLe fDc fHk fWa fCq fMu fUk fSk fNb fLl fBs fBa fSo fCe fLw fMx fBi fNa fSz fLn fKn fKs fRw fWd fDr fHd fSn fOi fOb fOc fOk fOo fBk fOp fOr fOq fOe fOs fOm fOz dWh dMd dNm dRo dTo dWi dPa dHp dCl dIk dSb dWm dHr dIr dCk dNu dCa dPl dLi dMy dSt dHa dMe dSh dUn dLe dDc dHk dWa dCq dMu dUk dSk dNb dLl dBs dBa dSo dCe dLw dMx dBi dNa dSz dLn dKn dKs dRw dWd dDr dHd dSn dOi dOb dOc dOk dOo dBk dOp dOr dOq dOe dOs dOm dOz) (T : Txt K w.params mg C aN aK aB aP aM) (F0 : KF2 K aB aP aM) : FnOk P w K mg base CX0 11 f fd ["_law_script"] (spLaw K) := by
 have GWd : FnOk P w K mg base CX0 6 fWd dWd ["_law_script"] (spWd K aB aP aM) := ok_Wd N T
 have GOi : FnOk P w K mg base CX0 9 fOi dOi ["self", "rows"] (spOi K aB aP aM C) := ok_Oi N T
 have GDr : FnOk P w K mg base CX0 2 fDr dDr ["_law_cell", "_law_count"] spDr := ok_Dr N T
 have GHd : FnOk P w K mg base CX0 2 fHd dHd ["_law_cell", "_law_count"] spHd := ok_Hd N T
 have GLw : FnOk P w K mg base CX0 1 fLw dLw ["_law_found"] spWh := ok_Lw N T
 have GSn : FnOk P w K mg base CX0 8 fSn dSn ["_law_organ", "_law_drawn_here", "_law_held_here"] (spSn C) := ok_Sn N T
 refine F.ok scLaw (fun vs H Q E h => ?_) (fun cdv A outer s H vs Q E hr h => ?_)
 ·obtain ⟨a, ns, rfl, _⟩ := h
  rfl
 ·obtain ⟨a, ns, rfl, hS, hlen, q⟩ := h
  have hrWd : Room 6 _ := hr.mono (by decide)
  have hrOi : Room 9 _ := hr.mono (by decide)
  have hrDr : Room 2 _ := hr.mono (by decide)
  have hrHd : Room 2 _ := hr.mono (by decide)
  have hrLw : Room 1 _ := hr.mono (by decide)
  have hrSn : Room 8 _ := hr.mono (by decide)
  refine ⟨_, (pss_cons (ps_set (i := 1) scLaw.nd rfl (Or.inl rfl) (pe_call GWd hrWd rfl N.mWd N.FWd.kp N.bWd .nil pass0 (pa_cons (pv 0) pa_nil)))
   (pss_cons (ps_set (i := 2) scLaw.nd rfl (Or.inr rfl) (pe_ix (ix_listK (K := K) rfl) (pv 1) pe_int (fun _ _ => rfl)))
   (pss_cons (ps_set (i := 3) scLaw.nd rfl (Or.inl rfl) (pe_make N.made GOi hr rfl T.mC N.bOi .nil pass0 (pa_cons (pe_ix (ix_listK (K := K) rfl) (pv 1) pe_int (fun _ _ => rfl)) pa_nil)))
   (pss_cons (ps_for PassesOwn.never rfl (pi_zipL rfl T.zip (pa_cons (pe_step (pv 0) (po_some pe_int) (po_some pe_int) pe_int) (pa_cons (pe_step (pv 0) (po_some pe_int) (po_some pe_int) pe_int) pa_nil))) (pg_tup rfl (pgs_cons (pg_name (i := 4) scLaw.nd rfl (Or.inl rfl)) (pgs_cons (pg_name (i := 5) scLaw.nd rfl (Or.inl rfl)) pgs_nil))) (pss_cons (ps_set (i := 6) scLaw.nd rfl (Or.inl rfl) (pe_call GDr hrDr rfl N.mDr N.FDr.kp N.bDr .nil pass0 (pa_cons (pv 4) (pa_cons (pe_callB call_len_seq rfl T.len PySem.boot_len (pa_cons (pv 2) pa_nil)) pa_nil))))
   (pss_cons (ps_set (i := 7) scLaw.nd rfl (Or.inl rfl) (pe_call GHd hrHd rfl N.mHd N.FHd.kp N.bHd .nil pass0 (pa_cons (pv 5) (pa_cons (pe_callB (call_sum rfl) rfl T.sum PyProof.Rows.boot_sum (pa_cons (pe_ix (ix_listK (K := K) rfl) (pv 1) pe_int (fun _ _ => rfl)) pa_nil)) pa_nil))))
   (pss_cons (ps_set (i := 8) scLaw.nd rfl (Or.inl rfl) (pe_call GHd hrHd rfl N.mHd N.FHd.kp N.bHd .nil pass0 (pa_cons (pe_op op_fdiv (pv 5) pe_int) (pa_cons (pe_callB (call_sum rfl) rfl T.sum PyProof.Rows.boot_sum (pa_cons (pe_ix (ix_listK (K := K) rfl) (pv 1) pe_int (fun _ _ => rfl)) pa_nil)) pa_nil))))
   (pss_cons (ps_set (i := 9) scLaw.nd rfl (Or.inl rfl) (pe_call GSn hrSn rfl N.mSn N.FSn.kp N.bSn .nil pass0 (pa_cons (pv 3) (pa_cons (pv 6) (pa_cons (pe_op op_cat (pv 7) (pv 8)) pa_nil)))))
   (pss_cons (ps_set (i := 10) scLaw.nd rfl (Or.inl rfl) (pe_op op_or (pe_call GSn hrSn rfl N.mSn N.FSn.kp N.bSn .nil pass0 (pa_cons (pv 3) (pa_cons (pv 6) (pa_cons (pv 7) pa_nil)))) (pe_call GSn hrSn rfl N.mSn N.FSn.kp N.bSn .nil pass0 (pa_cons (pv 3) (pa_cons (pv 6) (pa_cons (pv 8) pa_nil))))))
   (pss_cons (ps_if (PW.pt (pw_or (pt_not (pt_val (pe_call GLw hrLw rfl N.mLw N.FLw.kp N.bLw .nil pass0 (pa_cons (pv 9) pa_nil)))) (pw_or1 (pt_cmpR op_ne (pv 9) (pv 10) (nomark _))))) (pss_one (ps_ret pe_bl)) pss_nil)
   (pss_cons (ps_comp (i := 11) scLaw.nd rfl rfl rfl (compScope (osc := defScope sLaw) (N := ["_law_script", "_law_world_here", "_law_knobs_here", "_law_organ", "_law_one", "_law_two", "_law_drawn_here", "_law_held_here", "_law_more", "_law_whole_here", "_law_apart", "_law_stops", "_law_others", "_law_found", "_law_step", "_law_at", "_law_loud", "_law_couplers", "_law_fewer"]) rfl rfl (by decide +kernel)) (pi_list (pv 6)) (fun _ _ _ _ => (pf_one (pt_cmpR op_eq (pe_ix (ix_tupK (K := K) rfl) (pe_ix (ix_listK (K := K) rfl) (pv 3) (pv 0) (fun _ _ => rfl)) pe_int (fun _ _ => rfl)) pe_str (nomark _)))) (fun _ _ _ _ => (pv 0)))
   (pss_cons (ps_comp (i := 12) scLaw.nd rfl rfl rfl (compScope (osc := defScope sLaw) (N := ["_law_script", "_law_world_here", "_law_knobs_here", "_law_organ", "_law_one", "_law_two", "_law_drawn_here", "_law_held_here", "_law_more", "_law_whole_here", "_law_apart", "_law_stops", "_law_others", "_law_found", "_law_step", "_law_at", "_law_loud", "_law_couplers", "_law_fewer"]) rfl rfl (by decide +kernel)) (pi_list (pv 6)) (fun _ _ _ _ => (pf_one (pt_cmpR op_ne (pe_ix (ix_tupK (K := K) rfl) (pe_ix (ix_listK (K := K) rfl) (pv 3) (pv 0) (fun _ _ => rfl)) pe_int (fun _ _ => rfl)) pe_str (nomark _)))) (fun _ _ _ _ => (pv 0)))
   (pss_cons (ps_set (i := 13) scLaw.nd rfl (Or.inl rfl) pe_int)
   (pss_cons (ps_set (i := 14) scLaw.nd rfl (Or.inl rfl) (pe_op op_add pe_int (pe_op op_fdiv (pe_callB call_len_seq rfl T.len PySem.boot_len (pa_cons (pv 11) pa_nil)) pe_int)))
   (pss_cons (ps_for PassesOwn.never rfl (pi_range3 rfl T.range (pa_cons pe_int (pa_cons (pe_callB call_len_seq rfl T.len PySem.boot_len (pa_cons (pv 11) pa_nil)) (pa_cons (pv 14) pa_nil)))) (pg_name (i := 15) scLaw.nd rfl (Or.inl rfl)) (pss_one (ps_set (i := 13) scLaw.nd rfl (Or.inl rfl) (pe_op op_or (pv 13) (pe_call GSn hrSn rfl N.mSn N.FSn.kp N.bSn .nil pass0 (pa_cons (pv 3) (pa_cons (pe_op op_cat (pv 12) (pe_slice sl_list (pv 11) (po_some (pv 15)) (po_some (pe_op op_add (pv 15) (pv 14))))) (pa_cons (pe_op op_cat (pv 7) (pv 8)) pa_nil))))))))
   (pss_cons (ps_if (pt_cmpR op_ne (pv 13) (pv 9) (nomark _)) (pss_one (ps_ret pe_bl)) pss_nil)
   (pss_cons (ps_set (i := 16) scLaw.nd rfl (Or.inl rfl) (pe_call GSn hrSn rfl N.mSn N.FSn.kp N.bSn .nil pass0 (pa_cons (pv 3) (pa_cons (pe_comp rfl (compScope (osc := defScope sLaw) (N := ["_law_script", "_law_world_here", "_law_knobs_here", "_law_organ", "_law_one", "_law_two", "_law_drawn_here", "_law_held_here", "_law_more", "_law_whole_here", "_law_apart", "_law_stops", "_law_others", "_law_found", "_law_step", "_law_at", "_law_loud", "_law_couplers", "_law_fewer"]) rfl rfl (by decide +kernel)) (pi_list (pv 6)) (fun _ _ _ _ => (pf_one (pt_cmpR op_ne (pe_ix (ix_tupK (K := K) rfl) (pe_ix (ix_listK (K := K) rfl) (pv 3) (pv 0) (fun _ _ => rfl)) pe_int (fun _ _ => rfl)) pe_str (nomark _)))) (fun _ _ _ _ => (pv 0))) (pa_cons (pe_op op_cat (pv 7) (pv 8)) pa_nil)))))
   (pss_cons (ps_set (i := 17) scLaw.nd rfl (Or.inr rfl) (pe_slice sl_list (pe_comp rfl (compScope (osc := defScope sLaw) (N := ["_law_script", "_law_world_here", "_law_knobs_here", "_law_organ", "_law_one", "_law_two", "_law_drawn_here", "_law_held_here", "_law_more", "_law_whole_here", "_law_apart", "_law_stops", "_law_others", "_law_found", "_law_step", "_law_at", "_law_loud", "_law_couplers", "_law_fewer"]) rfl rfl (by decide +kernel)) (pi_list (pv 6)) (fun _ _ _ _ => (pf_one (pt_cmpR op_eq (pe_ix (ix_tupK (K := K) rfl) (pe_ix (ix_listK (K := K) rfl) (pv 3) (pv 0) (fun _ _ => rfl)) pe_int (fun _ _ => rfl)) pe_str (nomark _)))) (fun _ _ _ _ => (pv 0))) po_none (po_some pe_int)))
   (pss_cons (ps_set (i := 18) scLaw.nd rfl (Or.inl rfl) (pe_call GSn hrSn rfl N.mSn N.FSn.kp N.bSn .nil pass0 (pa_cons (pv 3) (pa_cons (pe_comp rfl (compScope (osc := defScope sLaw) (N := ["_law_script", "_law_world_here", "_law_knobs_here", "_law_organ", "_law_one", "_law_two", "_law_drawn_here", "_law_held_here", "_law_more", "_law_whole_here", "_law_apart", "_law_stops", "_law_others", "_law_found", "_law_step", "_law_at", "_law_loud", "_law_couplers", "_law_fewer"]) rfl rfl (by decide +kernel)) (pi_list (pv 6)) (fun _ _ _ _ => (pf_one (pt_cmpR (op_notInK (K := K) rfl) (pv 0) (pv 18) rfl))) (fun _ _ _ _ => (pv 0))) (pa_cons (pe_op op_cat (pv 7) (pv 8)) pa_nil)))))
   (pss_one (ps_if (PW.pt (pw_or (pt_cmpR op_ne (pe_op op_or (pv 16) (pv 9)) (pv 16) (nomark _)) (pw_or1 (pt_cmpR op_ne (pe_op op_or (pv 18) (pv 9)) (pv 9) (nomark _))))) (pss_one (ps_ret pe_bl)) pss_nil))))))))))))))))))
   (pss_one (ps_ret pe_bl)))))), ?_⟩
  refine ⟨_, rfl, a, ns, rfl, hS, hlen, F0, fun W DS DP DK DR c2 sz pz kls us rows vs9 H9 s09 hW OW => ?_⟩
  obtain ⟨l9, lp9, ⟨w1, w2, w3, w4, w5, w6⟩, k9, kp9, hkls, hkl, hst, hl9, hv9, B, hrl⟩ := OW
  refine ⟨_, rfl, W, _, _, _, rfl, rfl, .inl (.inl hW), atI_nat (j := 2) rfl, ?_⟩
  have hbl : (bsOf (nmS c2) sz).length = sz.length := bsOf_len _ sz
  have hbz : (bsOf (nmS c2) sz).map (·.2) = sz := bsOf_szs _ sz
  have ndb : ((bsOf (nmS c2) sz).map (·.1)).Nodup := by
   refine nodup_get fun i j x hi hj => ?_
   rw [List.getElem?_map] at hi hj
   obtain ⟨b1, hb1, e1⟩ := Option.map_eq_some_iff.mp hi
   obtain ⟨b2, hb2, e2⟩ := Option.map_eq_some_iff.mp hj
   obtain ⟨_, _, rfl⟩ := bsOf_get' hb1
   obtain ⟨_, _, rfl⟩ := bsOf_get' hb2
   exact nm_inj (e1.trans e2.symm)
  have ndr : ((rkW (nmS c2) pz (wiW c2)).map (·.1)).Nodup := by
   refine nodup_get fun i j x hi hj => ?_
   rw [List.getElem?_map] at hi hj
   obtain ⟨b1, hb1, e1⟩ := Option.map_eq_some_iff.mp hi
   obtain ⟨b2, hb2, e2⟩ := Option.map_eq_some_iff.mp hj
   obtain ⟨_, _, rfl⟩ := rkW_get' hb1
   obtain ⟨_, _, rfl⟩ := rkW_get' hb2
   have := nm_inj (e1.trans e2.symm)
   omega
  have ndk : ((ksOf (nmS c2) (kls.map (·.1))).map (·.nm)).Nodup := by
   refine nodup_get fun i j x hi hj => ?_
   rw [List.getElem?_map] at hi hj
   obtain ⟨b1, hb1, e1⟩ := Option.map_eq_some_iff.mp hi
   obtain ⟨b2, hb2, e2⟩ := Option.map_eq_some_iff.mp hj
   obtain ⟨_, _, rfl⟩ := ksOf_get' hb1
   obtain ⟨_, _, rfl⟩ := ksOf_get' hb2
   rw [kRow_nm] at e1 e2
   have := nm_inj (e1.trans e2.symm)
   omega
  obtain ⟨R9, O9, eL⟩ := B.fin hv9 (by omega) (by omega) (fun b hb => by
   obtain ⟨j, hj⟩ := List.mem_iff_getElem?.mp hb
   obtain ⟨z, hz, rfl⟩ := bsOf_get' hj
   exact (w3 z (List.mem_of_getElem? hz)).2) (by rw [rkW_len]; omega) (fun r hr' => by
   obtain ⟨j, hj⟩ := List.mem_iff_getElem?.mp hr'
   obtain ⟨z, hz, rfl⟩ := rkW_get' hj
   exact (w6 z (List.mem_of_getElem? hz)).2) (by rw [ksOf_len, List.length_map]; omega) ndb ndr ndk hrl
  refine ⟨_, rfl, W, _, _, _, rfl, rfl, .inl (.inl hW), atI_nat (j := 3) rfl, ?_⟩
  intro x dx nx ndx nex
  have sx : Same H9 (upd (upd H9 dx (.own x)) x (.ins C dx [])) := fun b o e => by
   rw [upd_ne (ne_of_none e nx), upd_ne (ne_of_none e ndx)]
   exact e
  refine ⟨x, dx, DR, vs9, rho H9, bsOf (nmS c2) sz, rkW (nmS c2) pz (wiW c2), ksOf (nmS c2) (kls.map (·.1)), rfl, upd_same, sx _ _ hl9, R9.mono sx, O9, fun H10 OA SXh => ⟨rfl, ?_⟩⟩
  rw [eL] at OA
  have s910 : Same H9 H10 := fun b o e => SXh b o (sx b o e) (ne_of_none e nx)
  have s010 := s09.trans s910
  have l10 := s910 _ _ l9
  have lp10 := s910 _ _ lp9
  have k10 := s910 _ _ k9
  have W10 := s910 _ _ hW
  have kp10 : Paired (fun z y => KnAt DK H10 z y) kls us := Paired.mapP kp9 fun _ _ z => z.mono s910
  clear SXh sx nx ndx nex R9 O9 hv9 hl9 eL
  have hul := kp10.length
  have hkbs : Kbs sz.length (kls.map (·.1)) := ⟨hkls.ok, hkls.room, by rw [List.length_map]; omega⟩
  have h305 := plc_305 OA.o
  rw [hbz] at h305
  have hsum : 1 <= sz.sum := sum_pos (by omega) fun s hs => (w3 s hs).1
  have hLs : LsG (rkW (nmS c2) pz (wiW c2)) (kls.map (·.2)) := fun l hl => by
   obtain ⟨z, hz, rfl⟩ := List.mem_map.mp hl
   have hlw := hkls.ln z hz
   have hb := Kb.bd_lt (hkls.ok z.1 (List.mem_map_of_mem hz))
   have hsa : sz.getD z.1.bd 0 <= 61 := by
    rw [List.getD_eq_getElem?_getD, List.getElem?_eq_getElem hb]
    exact (w3 _ (List.getElem_mem hb)).2
   refine ⟨by have := hlw.1; omega, fun ln hln => ?_⟩
   have g := hlw.2.1 ln hln
   have g4 := g.hi
   exact ⟨by rw [rkW_len]; exact g.r, g.lo, g.le, by omega, g.s1, g.s2⟩
  refine ⟨_, rfl, _, rfl, _, rfl, 3, rfl, by decide, a, _, rfl, s010.seq hS, fun p13 hp13 hl13 => ?_⟩
  have t13 := same_upd (o := HO.lst (stepV (ns.map V.int) (some 4) (some 28) 3)) hp13
  have u13 : upd H10 p13 (HO.lst (stepV (ns.map V.int) (some 4) (some 28) 3)) p13 = _ := upd_same
  generalize upd H10 p13 (HO.lst (stepV (ns.map V.int) (some 4) (some 28) 3)) = H13 at t13 u13 ⊢
  refine ⟨_, rfl, _, rfl, _, rfl, 3, rfl, by decide, a, _, rfl, (s010.trans t13).seq hS, fun p14 hp14 hl14 => ?_⟩
  have t14 := same_upd (o := HO.lst (stepV (ns.map V.int) (some 5) (some 29) 3)) hp14
  have u14 : upd H13 p14 (HO.lst (stepV (ns.map V.int) (some 5) (some 29) 3)) p14 = _ := upd_same
  generalize upd H13 p14 (HO.lst (stepV (ns.map V.int) (some 5) (some 29) 3)) = H15 at t14 u14 ⊢
  have int1 := step_ints (ns := ns) (lo := some 4) (hi := some 28) (k := 3)
  have int2 := step_ints (ns := ns) (lo := some 5) (hi := some 29) (k := 3)
  have u13' := t14 _ _ u13
  generalize stepV (ns.map V.int) (some 4) (some 28) 3 = xs at u13' int1
  generalize stepV (ns.map V.int) (some 5) (some 29) 3 = ys at u14 int2
  have s1015 := t13.trans t14
  have OA15 := OA.mono s1015
  have l15 := s1015 _ _ l10
  have W15 := s1015 _ _ W10
  have kn15 : Paired (fun z y => KnAt DK H15 z y) kls us := Paired.mapP kp10 fun _ _ z => z.mono s1015
  have k15 := s1015 _ _ k10
  have hS1 : SqL K H15 p13 xs := .inl (.inl u13')
  have hS2 : SqL K H15 p14 ys := .inl (.inl u14)
  have hw : ∀ z ∈ kls.map (·.1), ∀ i j, gl (bsOf (nmS c2) sz) z i = some j -> z.w = "coupler" := fun z hz i j h => gl_cp (hkls.ok z hz) h
  refine ⟨p13, p14, rfl, ⟨_, hS1⟩, ⟨_, hS2⟩, for_zipL (K := K) (a := p13) (b := p14) (xs := xs) (ys := ys) (fun i σ H16 => Same H15 H16 /\ ∃ v4 v5 v6 v7 v8 v9 v10 v11 v12 v13 v14 v15 v16 v17 v18, σ = [some (.ref a), some (.ref W), some (.ref DK), some (.ref x), v4, v5, v6, v7, v8, v9, v10, v11, v12, v13, v14, v15, v16, v17, v18]) ⟨Same.refl _, _, _, _, _, _, _, _, _, _, _, _, _, _, _, _, rfl⟩ (fun i σ H16 _ h => ⟨h.1.seq hS1, h.1.seq hS2⟩) ?_ ?_⟩
  ·rintro i y1 y2 σ H16 T0 hy1 hy2 ⟨s16, v4, v5, v6, v7, v8, v9, v10, v11, v12, v13, v14, v15, v16, v17, v18, rfl⟩ hT
   obtain ⟨o1, rfl⟩ := int1 _ (List.mem_of_getElem? hy1)
   obtain ⟨o2, rfl⟩ := int2 _ (List.mem_of_getElem? hy2)
   have tT := same_upd (o := HO.tup [V.int o1, V.int o2]) hT
   refine ⟨T0, _, rfl, .inl (.inl upd_same), rfl, _, _, rfl, _, _, rfl, rfl, ?_⟩
   generalize upd H16 T0 (HO.tup [V.int o1, V.int o2]) = H17 at tT ⊢
   have s17 := s16.trans tT
   clear s16 tT hT
   refine ⟨_, rfl, _, rfl, DK, _, rfl, .inl (.inl (.inl (s17 _ _ k15))), o1, us.length, rfl, by omega, fun DD dl H18 hDD s18 hd18 hdb hdl => ?_⟩
   have s1518 := s17.trans s18
   have szi : (sz.map fun n : Nat => V.int (n : Nat)) = (sz.map fun n : Nat => (n : Int)).map V.int := by rw [List.map_map]; rfl
   have bnd : ∀ n ∈ sz.map (fun n : Nat => (n : Int)), 0 <= n /\ n <= 100000 := fun n hn => by
    obtain ⟨m, hm, rfl⟩ := List.mem_map.mp hn
    have := (w3 m hm).2
    omega
   have lS : ∀ {H' : Hp}, Same H15 H' -> SqL K H' DS ((sz.map fun n : Nat => (n : Int)).map V.int) := fun s' => by rw [← szi]; exact .inl (.inl (s' _ _ l15))
   refine ⟨_, rfl, _, rfl, W, _, _, _, rfl, rfl, .inl (.inl (s1518 _ _ W15)), atI_nat (j := 0) rfl, DS, _, rfl, lS s1518, bnd, by simp; omega, ?_⟩
   rw [sum_nat]
   refine ⟨o2, sz.sum, rfl, hsum, fun DH hl H19 hDH s19 hh19 hhb hhl => ?_⟩
   have s1519 := s1518.trans s19
   refine ⟨_, rfl, _, _, rfl, rfl, ⟨by decide, by decide⟩, _, rfl, W, _, _, _, rfl, rfl, .inl (.inl (s1519 _ _ W15)), atI_nat (j := 0) rfl, DS, _, rfl, lS s1519, bnd, by simp; omega, ?_⟩
   rw [sum_nat]
   refine ⟨_, sz.sum, rfl, hsum, fun DM ml H20 hDM s20 hm20 hmb hml => ?_⟩
   have s1520 := s1519.trans s20
   have d20 := s20 _ _ (s19 _ _ hd18)
   have h20 := s20 _ _ hh19
   have hdb' : ∀ k ∈ dl, k < 1200 := fun k hk => by have := hdb k hk; omega
   have hcb : ∀ k ∈ hl ++ ml, k < sz.sum := fun k hk => (List.mem_append.mp hk).elim (hhb k) (hmb k)
   have hcl : (hl ++ ml).length <= 8 := by rw [List.length_append]; omega
   have enV : ∀ l1 l2 : List Nat, nV l1 ++ nV l2 = nV (l1 ++ l2) := fun l1 l2 => by unfold nV; rw [List.map_append]
   have cat : ∀ {H' : Hp} (s' : Same H20 H') (R : VK), (∀ DC H2, Same H' H2 -> H2 DC = some (.lst (nV (hl ++ ml))) -> R (.ref DC) H2) -> rCat (.ref DH) (.ref DM) H' R := fun {H'} s' R k => by
    refine ⟨DH, DM, _, _, rfl, rfl, s' _ _ h20, s' _ _ hm20, line20 (by rw [List.length_map, List.length_map]; omega), fun p hp => ?_⟩
    rw [enV]
    exact k p _ (same_upd hp) upd_same
   have hdl5 : dl.length <= 500 := by omega
   refine ⟨_, rfl, _, rfl, _, rfl, _, rfl, cat (Same.refl _) _ fun DC H21 s21 hc21 => ⟨x, _, _, nmS c2, sz, rkW (nmS c2) pz (wiW c2), kls.map (·.1), kls.map (·.2), _, _, rfl, OA15.mono (s1520.trans s21), hkbs, hLs, (s21 _ _ d20), hdl5, hdb', hc21, (by omega), hcb, fun v0 H22 s22 hv0 => ?_⟩⟩
   have s2022 := s21.trans s22
   have s1522 := s1520.trans s2022
   clear s21 s22 hc21
   have d22 := s2022 _ _ d20
   refine ⟨_, rfl, _, rfl, _, rfl, ⟨x, _, _, nmS c2, sz, rkW (nmS c2) pz (wiW c2), kls.map (·.1), kls.map (·.2), _, _, rfl, OA15.mono s1522, hkbs, hLs, d22, hdl5, hdb', (s2022 _ _ h20), (by omega), hhb, fun v1 H23 s23 hv1 => ⟨_, rfl, _, rfl, _, rfl, ⟨x, _, _, nmS c2, sz, rkW (nmS c2) pz (wiW c2), kls.map (·.1), kls.map (·.2), _, _, rfl, OA15.mono (s1522.trans s23), hkbs, hLs, (s23 _ _ d22), hdl5, hdb', (s23 _ _ (s2022 _ _ hm20)), (by omega), hmb, fun v2 H24 s24 hv2 => ⟨_, _, rfl, rfl, ?_⟩⟩⟩⟩⟩
   have s2024 := s2022.trans (s23.trans s24)
   have s1524 := s1520.trans s2024
   have d24 := s2024 _ _ d20
   clear s23 s24 s2022 s1522 d22
   refine ⟨_, rfl, _, rfl, _, rfl, iteF ?_⟩
   refine ⟨_, rfl, _, rfl, rfl, _, rfl, ?_⟩
   refine iteNS ?_ ?_
   ·show V.int _ = V.int (Builtin.bitOr ((v1 : Nat) : Int) ((v2 : Nat) : Int))
    rw [or_nat]
    refine congrArg (fun z : Nat => V.int (z : Int)) (nat_ext fun p => ?_)
    rw [hv0, Nat.testBit_or, Bool.or_eq_true, hv1, hv2]
    exact snd_or
   refine ⟨_, rfl, DD, rfl, ⟨_, .inl (.inl d24)⟩, comp_sq (K := K) (xs := nV dl) (pbV kls "stop" false) id (.inl (.inl d24)) (small1000 (by rw [List.length_map]; omega)) (fun v hv H' hs R k => ?_) (fun v hv _ H' hs R k => ⟨_, rfl, k H' (Same.refl H')⟩) (fun DSt H25 _ s25 ht25 => ?_)⟩
   ·obtain ⟨kk, hkk, rfl⟩ := List.mem_map.mp hv
    have hik : kk < kls.length := by have := hdb kk hkk; omega
    obtain ⟨y, hy, hyk⟩ := paired_get kn15 (List.getElem?_eq_getElem hik)
    obtain ⟨T1, r1, rfl, ht1⟩ := (hyk.mono (s1524.trans hs)).w0
    have q1 := k H' (Same.refl H')
    rw [pb_eq (List.getElem?_eq_getElem hik)] at q1
    exact ⟨_, rfl, _, rfl, DK, us, _, _, rfl, rfl, .inl (.inl (hs _ _ (s1524 _ _ k15))), atI_nat hy, T1, _, _, _, rfl, rfl, .inl (.inl ht1), atI_nat (j := 0) rfl, rfl, _, rfl, q1⟩
   rw [List.map_id, pb_filter] at ht25
   have s2025 := s2024.trans s25
   have s1525 := s1520.trans s2025
   have d25 := s2025 _ _ d20
   refine ⟨_, rfl, DD, rfl, ⟨_, .inl (.inl d25)⟩, comp_sq (K := K) (xs := nV dl) (pbV kls "stop" true) id (.inl (.inl d25)) (small1000 (by rw [List.length_map]; omega)) (fun v hv H' hs R k => ?_) (fun v hv _ H' hs R k => ⟨_, rfl, k H' (Same.refl H')⟩) (fun DOt H26 _ s26 ho26 => ?_)⟩
   ·obtain ⟨kk, hkk, rfl⟩ := List.mem_map.mp hv
    have hik : kk < kls.length := by have := hdb kk hkk; omega
    obtain ⟨y, hy, hyk⟩ := paired_get kn15 (List.getElem?_eq_getElem hik)
    obtain ⟨T1, r1, rfl, ht1⟩ := (hyk.mono (s1525.trans hs)).w0
    have q1 := k H' (Same.refl H')
    rw [pb_eq (List.getElem?_eq_getElem hik)] at q1
    exact ⟨_, rfl, _, rfl, DK, us, _, _, rfl, rfl, .inl (.inl (hs _ _ (s1525 _ _ k15))), atI_nat hy, T1, _, _, _, rfl, rfl, .inl (.inl ht1), atI_nat (j := 0) rfl, rfl, _, rfl, q1⟩
   rw [List.map_id, pb_filter] at ho26
   have s2026 := s2025.trans s26
   have s1526 := s1520.trans s2026
   have d26 := s2026 _ _ d20
   have ht26 := s26 _ _ ht25
   clear s25 s26 s2025 s1525 d25 d24 s2024 s1524 ht25
   have hsb : ∀ k ∈ dl.filter (pbN kls "stop" false), k ∈ dl := fun k hk => in_filt hk
   have hob : ∀ k ∈ dl.filter (pbN kls "stop" true), k ∈ dl := fun k hk => in_filt hk
   have hsl := List.length_filter_le (pbN kls "stop" false) dl
   have hol := List.length_filter_le (pbN kls "stop" true) dl
   have hsm : ∀ {k : Nat} {z : Kl}, kls[k]? = some z -> (k ∈ dl.filter (pbN kls "stop" false) ↔ k ∈ dl /\ z.1.w = "stop") := fun h => pb_memF h
   have hom : ∀ {k : Nat} {z : Kl}, kls[k]? = some z -> (k ∈ dl.filter (pbN kls "stop" true) ↔ k ∈ dl /\ ¬ z.1.w = "stop") := fun h => pb_memT h
   generalize dl.filter (pbN kls "stop" false) = sl at ht26 hsb hsl hsm
   generalize dl.filter (pbN kls "stop" true) = ol at ho26 hob hol hom
   have nvl : (nV sl).length = sl.length := List.length_map ..
   refine ⟨_, rfl, DSt, _, rfl, .inl (.inl (.inl ht26)), _, _, rfl, rfl, ⟨by decide, by decide⟩, _, _, rfl, rfl, ?_⟩
   show gName 14 (V.int ((1 : Int) + (((nV sl).length : Nat) : Int) / 4)) _ _ _
   have est : (1 : Int) + (((nV sl).length : Nat) : Int) / 4 = ((1 + sl.length / 4 : Nat) : Int) := by rw [nvl]; omega
   rw [est]
   have hc1 : 1 <= 1 + sl.length / 4 := by omega
   have hc2 : 1 + sl.length / 4 <= 500 := by omega
   generalize 1 + sl.length / 4 = cc at hc1 hc2 ⊢
   have kk1 : ∀ (k : Nat) (z : Kb), (kls.map (·.1))[k]? = some z -> ∃ z', kls[k]? = some z' /\ z'.1 = z := fun k z hz => by
    rw [List.getElem?_map] at hz
    exact Option.map_eq_some_iff.mp hz
   have hS3 : ∀ p, SndL (nmS c2) sz (rkW (nmS c2) pz (wiW c2)) (kls.map (·.1)) (kls.map (·.2)) dl (hl ++ ml) p ↔ ∃ j, j < (sl.length + cc - 1) / cc /\ SndL (nmS c2) sz (rkW (nmS c2) pz (wiW c2)) (kls.map (·.1)) (kls.map (·.2)) (ol ++ chk sl cc j) (hl ++ ml) p := fun p => by
    have hcp : ∀ (j k : Nat) (z : Kb), (kls.map (·.1))[k]? = some z -> ¬ z.w = "stop" -> (k ∈ dl ↔ k ∈ ol ++ chk sl cc j) := fun j k z hz hw' => by
     obtain ⟨z', hz', rfl⟩ := kk1 k z hz
     rw [List.mem_append, hom hz']
     constructor
     ·intro h
      exact .inl ⟨h, hw'⟩
     ·rintro (h | h)
      ·exact h.1
      ·exact hsb k (chk_mem h)
    constructor
    ·rintro ⟨k, hk, ⟨z, hz, hzw⟩, jj, hj, hbq⟩
     obtain ⟨z', hz', rfl⟩ := kk1 k z hz
     obtain ⟨j, hj1, hj2⟩ := chk_has hc1 ((hsm hz').mpr ⟨hk, hzw⟩)
     refine ⟨j, hj1, k, List.mem_append_right _ hj2, ⟨_, hz, hzw⟩, jj, spk_mono (fun k z hz hw' h => (hcp j k z hz (by rw [hw']; decide)).mp h) (fun k z hz hw' h => (hcp j k z hz (by rw [hw']; decide)).mpr h) hw hj, hbq⟩
    ·rintro ⟨j, hj1, h⟩
     refine snd_mono (fun k z hz hw' h => ?_) (fun k z hz hw' h => (hcp j k z hz (by rw [hw']; decide)).mpr h) (fun k z hz hw' h => (hcp j k z hz (by rw [hw']; decide)).mp h) hw h
     rcases List.mem_append.mp h with h | h
     ·exact hob k h
     ·exact hsb k (chk_mem h)
   refine ⟨_, rfl, DSt, _, rfl, .inl (.inl (.inl ht26)), _, rfl, sl.length, cc, (by rw [nvl]), hc1, by omega, by omega, ?_⟩
   refine for_rangeS (lo := 0) (c := (cc : Nat)) (n := (sl.length + cc - 1) / cc) (fun n σ H27 => Same H26 H27 /\ ∃ f : Nat, (∀ p, f.testBit p = true ↔ ∃ j, j < n /\ SndL (nmS c2) sz (rkW (nmS c2) pz (wiW c2)) (kls.map (·.1)) (kls.map (·.2)) (ol ++ chk sl cc j) (hl ++ ml) p) /\ ∃ v15, σ = [some (.ref a), some (.ref W), some (.ref DK), some (.ref x), some (.int o1), some (.int o2), some (.ref DD), some (.ref DH), some (.ref DM), some (.int (v0 : Nat)), some (.int (Builtin.bitOr ((v1 : Nat) : Int) ((v2 : Nat) : Int))), some (.ref DSt), some (.ref DOt), some (.int (f : Nat)), some (.int (cc : Nat)), v15, v16, v17, v18]) ⟨Same.refl _, 0, (fun p => by rw [Nat.zero_testBit]; exact ⟨fun h => by (cases h), fun ⟨j, hj, _⟩ => absurd hj (Nat.not_lt_zero _)⟩), _, rfl⟩ ?_ ?_
   ·rintro n σ H27 hn ⟨s27, f, hf, v15, rfl⟩
    have ea : (0 : Int) + ((n : Nat) : Int) * ((cc : Nat) : Int) = ((n * cc : Nat) : Int) := by rw [Int.zero_add]; rfl
    rw [ea]
    have s2027 := s2026.trans s27
    have s1527 := s1520.trans s2027
    refine ⟨_, rfl, _, rfl, _, rfl, _, rfl, _, rfl, _, rfl, _, rfl, _, rfl, _, _, rfl, rfl, _, rfl, DSt, _, rfl, .inl (.inl (s27 _ _ ht26)), fun p5 hp5 => ?_⟩
    have ec : cutV (nV sl) (some ((n * cc : Nat) : Int)) (some (((n * cc : Nat) : Int) + ((cc : Nat) : Int))) = nV (chk sl cc n) := by
     have e5 : ((n * cc : Nat) : Int) + ((cc : Nat) : Int) = ((n * cc + cc : Nat) : Int) := by omega
     rw [e5, cut_nV]
     rfl
    have t5 := same_upd (o := HO.lst (cutV (nV sl) (some ((n * cc : Nat) : Int)) (some (((n * cc : Nat) : Int) + ((cc : Nat) : Int))))) hp5
    have a5 : upd H27 p5 (HO.lst (cutV (nV sl) (some ((n * cc : Nat) : Int)) (some (((n * cc : Nat) : Int) + ((cc : Nat) : Int))))) p5 = some (.lst (nV (chk sl cc n))) := by rw [upd_same, ec]
    generalize upd H27 p5 (HO.lst (cutV (nV sl) (some ((n * cc : Nat) : Int)) (some (((n * cc : Nat) : Int) + ((cc : Nat) : Int))))) = H28 at t5 a5 ⊢
    have hkl' := chk_len (l := sl) (c := cc) (j := n)
    refine ⟨DOt, p5, _, _, rfl, rfl, t5 _ _ (s27 _ _ ho26), a5, line20 (by rw [List.length_map, List.length_map]; omega), fun p6 hp6 => ?_⟩
    have t6 := same_upd (o := HO.lst (nV ol ++ nV (chk sl cc n))) hp6
    have a6 : upd H28 p6 (HO.lst (nV ol ++ nV (chk sl cc n))) p6 = some (.lst (nV (ol ++ chk sl cc n))) := by rw [upd_same, enV]
    generalize upd H28 p6 (HO.lst (nV ol ++ nV (chk sl cc n))) = H29 at t6 a6 ⊢
    have s2029 := s2027.trans (t5.trans t6)
    refine ⟨_, rfl, _, rfl, cat s2029 _ fun DC H30 s30 hc30 => ⟨x, _, _, nmS c2, sz, rkW (nmS c2) pz (wiW c2), kls.map (·.1), kls.map (·.2), _, _, rfl, OA15.mono (s1520.trans (s2029.trans s30)), hkbs, hLs, s30 _ _ a6, (by rw [List.length_append]; omega), (fun k hk => hdb' k ((List.mem_append.mp hk).elim (hob k) fun h => hsb k (chk_mem h))), hc30, (by omega), hcb, fun v5 H31 s31 hv5 => ⟨_, _, rfl, rfl, ?_⟩⟩⟩
    refine ⟨s27.trans (t5.trans (t6.trans (s30.trans s31))), f ||| v5, fun p => ?_, some (V.int ((n * cc : Nat) : Int)), ?_⟩
    ·rw [Nat.testBit_or, Bool.or_eq_true, hf, hv5]
     constructor
     ·rintro (⟨j, hj, h⟩ | h)
      ·exact ⟨j, by omega, h⟩
      ·exact ⟨n, by omega, h⟩
     ·rintro ⟨j, hj, h⟩
      by_cases hjn : j = n
      ·subst hjn
       exact .inr h
      ·exact .inl ⟨j, by omega, h⟩
    ·show _ = _
     rw [← or_nat]
     rfl
   ·rintro σ H27 ⟨s27, f, hf, v15, rfl⟩
    have s2027 := s2026.trans s27
    have s1527 := s1520.trans s2027
    have ef : f = v0 := nat_ext fun p => by rw [hf, hv0]; exact (hS3 p).symm
    subst ef
    refine ⟨_, rfl, _, rfl, rfl, _, rfl, ?_⟩
    refine iteNS rfl ?_
    have d27 := s2027 _ _ d20
    refine ⟨_, rfl, _, rfl, DD, rfl, ⟨_, .inl (.inl d27)⟩, comp_sq (K := K) (xs := nV dl) (pbV kls "mute" true) id (.inl (.inl d27)) (small1000 (by rw [List.length_map]; omega)) (fun v hv H' hs R k => ?_) (fun v hv _ H' hs R k => ⟨_, rfl, k H' (Same.refl H')⟩) (fun DL H28 _ s28 hl28 => ?_)⟩
    ·obtain ⟨kk, hkk, rfl⟩ := List.mem_map.mp hv
     have hik : kk < kls.length := by have := hdb kk hkk; omega
     obtain ⟨y, hy, hyk⟩ := paired_get kn15 (List.getElem?_eq_getElem hik)
     obtain ⟨T1, r1, rfl, ht1⟩ := (hyk.mono (s1527.trans hs)).w0
     have q1 := k H' (Same.refl H')
     rw [pb_eq (List.getElem?_eq_getElem hik)] at q1
     exact ⟨_, rfl, _, rfl, DK, us, _, _, rfl, rfl, .inl (.inl (hs _ _ (s1527 _ _ k15))), atI_nat hy, T1, _, _, _, rfl, rfl, .inl (.inl ht1), atI_nat (j := 0) rfl, rfl, _, rfl, q1⟩
    rw [List.map_id, pb_filter] at hl28
    have s2028 := s2027.trans s28
    have hll := List.length_filter_le (pbN kls "mute" true) dl
    refine ⟨_, rfl, _, rfl, cat s2028 _ fun DC H29 s29 hc29 => ⟨x, _, _, nmS c2, sz, rkW (nmS c2) pz (wiW c2), kls.map (·.1), kls.map (·.2), _, _, rfl, OA15.mono (s1520.trans (s2028.trans s29)), hkbs, hLs, s29 _ _ hl28, (by omega), (fun k hk => hdb' k (in_filt hk)), hc29, (by omega), hcb, fun v6 H30 s30 hv6 => ?_⟩⟩
    have s2030 := s2028.trans (s29.trans s30)
    have s1530 := s1520.trans s2030
    have d30 := s2030 _ _ d20
    refine ⟨_, rfl, DD, rfl, ⟨_, .inl (.inl d30)⟩, comp_sq (K := K) (xs := nV dl) (pbV kls "coupler" false) id (.inl (.inl d30)) (small1000 (by rw [List.length_map]; omega)) (fun v hv H' hs R k => ?_) (fun v hv _ H' hs R k => ⟨_, rfl, k H' (Same.refl H')⟩) (fun DQ H31 _ s31 hq31 => ?_)⟩
    ·obtain ⟨kk, hkk, rfl⟩ := List.mem_map.mp hv
     have hik : kk < kls.length := by have := hdb kk hkk; omega
     obtain ⟨y, hy, hyk⟩ := paired_get kn15 (List.getElem?_eq_getElem hik)
     obtain ⟨T1, r1, rfl, ht1⟩ := (hyk.mono (s1530.trans hs)).w0
     have q1 := k H' (Same.refl H')
     rw [pb_eq (List.getElem?_eq_getElem hik)] at q1
     exact ⟨_, rfl, _, rfl, DK, us, _, _, rfl, rfl, .inl (.inl (hs _ _ (s1530 _ _ k15))), atI_nat hy, T1, _, _, _, rfl, rfl, .inl (.inl ht1), atI_nat (j := 0) rfl, rfl, _, rfl, q1⟩
    rw [List.map_id, pb_filter] at hq31
    refine ⟨_, rfl, DQ, _, rfl, .inl (.inl hq31), fun p7 hp7 => ?_⟩
    rw [cut_nV1]
    have t7 := same_upd (o := HO.lst (nV ((dl.filter (pbN kls "coupler" false)).take (min 1 (dl.filter (pbN kls "coupler" false)).length)))) hp7
    have a7 := upd_same (H := H31) (a := p7) (o := HO.lst (nV ((dl.filter (pbN kls "coupler" false)).take (min 1 (dl.filter (pbN kls "coupler" false)).length))))
    have hqc : ∀ k ∈ (dl.filter (pbN kls "coupler" false)).take (min 1 (dl.filter (pbN kls "coupler" false)).length), k ∈ dl.filter (pbN kls "coupler" false) := fun k hk => List.mem_of_mem_take hk
    generalize (dl.filter (pbN kls "coupler" false)).take (min 1 (dl.filter (pbN kls "coupler" false)).length) = ql at t7 a7 hqc ⊢
    generalize upd H31 p7 (HO.lst (nV ql)) = H32 at t7 a7 ⊢
    have s2032 := s2030.trans (s31.trans t7)
    have s1532 := s1520.trans s2032
    have d32 := s2032 _ _ d20
    have efl : (nV dl).filter (fun v => !inV v (nV ql)) = nV (dl.filter fun k => !decide (k ∈ ql)) := by
     unfold nV
     rw [List.filter_map]
     refine congrArg _ (List.filter_congr fun k _ => ?_)
     show (!inV (V.int (k : Nat)) (nV ql)) = _
     rw [in_nV]
    refine ⟨_, rfl, _, rfl, DD, rfl, ⟨_, .inl (.inl d32)⟩, comp_sq (K := K) (xs := nV dl) (fun v => !inV v (nV ql)) id (.inl (.inl d32)) (small1000 (by rw [List.length_map]; omega)) (fun v hv H' hs R k => ?_) (fun v hv _ H' hs R k => ⟨_, rfl, k H' (Same.refl H')⟩) (fun DF H33 _ s33 hf33 => ?_)⟩
    ·obtain ⟨kk, hkk, rfl⟩ := List.mem_map.mp hv
     exact ⟨_, rfl, _, rfl, p7, _, rfl, .inl (.inl (.inl (hs _ _ a7))), rfl, flat_nV ql, _, rfl, k H' (Same.refl H')⟩
    rw [List.map_id, efl] at hf33
    have s2033 := s2032.trans s33
    have hfl := List.length_filter_le (fun k => !decide (k ∈ ql)) dl
    refine ⟨_, rfl, _, rfl, cat s2033 _ fun DC H34 s34 hc34 => ⟨x, _, _, nmS c2, sz, rkW (nmS c2) pz (wiW c2), kls.map (·.1), kls.map (·.2), _, _, rfl, OA15.mono (s1520.trans (s2033.trans s34)), hkbs, hLs, s34 _ _ hf33, (by omega), (fun k hk => hdb' k (in_filt hk)), hc34, (by omega), hcb, fun v7 H35 s35 hv7 => ?_⟩⟩
    have s1535 := s1520.trans (s2033.trans (s34.trans s35))
    refine ⟨_, rfl, _, rfl, _, _, rfl, rfl, _, rfl, rfl, _, rfl, ?_⟩
    refine iteNS ?_ ?_
    ·show V.int (Builtin.bitOr ((v6 : Nat) : Int) ((f : Nat) : Int)) = V.int ((v6 : Nat) : Int)
     rw [or_nat]
     refine congrArg (fun z : Nat => V.int (z : Int)) (nat_ext fun p => ?_)
     rw [Nat.testBit_or, Bool.or_eq_true, hv6, hv0]
     refine ⟨fun h => h.elim id fun h => ?_, .inl⟩
     have key : ∀ (k : Nat) (z : Kb), (kls.map (·.1))[k]? = some z -> ¬ z.w = "mute" -> k ∈ dl -> k ∈ dl.filter (pbN kls "mute" true) := fun k z hz hw' hk => by
      obtain ⟨z', hz', rfl⟩ := kk1 k z hz
      exact (pb_memT hz').mpr ⟨hk, hw'⟩
     exact snd_mono (fun k z hz hw' hk => key k z hz (by rw [hw']; decide) hk) (fun k z hz hw' hk => key k z hz (by rw [hw']; decide) hk) (fun k z hz hw' hk => in_filt hk) hw h
    refine ⟨_, rfl, _, rfl, _, _, rfl, rfl, _, rfl, rfl, _, rfl, ?_⟩
    refine iteNS ?_ ?_
    ·show V.int (Builtin.bitOr ((v7 : Nat) : Int) ((f : Nat) : Int)) = V.int ((f : Nat) : Int)
     rw [or_nat]
     refine congrArg (fun z : Nat => V.int (z : Int)) (nat_ext fun p => ?_)
     rw [Nat.testBit_or, Bool.or_eq_true, hv7, hv0]
     refine ⟨fun h => h.elim (fun h => ?_) id, .inr⟩
     refine snd_mono (fun k z hz hw' hk => in_filt hk) (fun k z hz hw' hk => in_filt hk) (fun k z hz hw' hk => ?_) hw h
     obtain ⟨z', hz', rfl⟩ := kk1 k z hz
     refine List.mem_filter.mpr ⟨hk, ?_⟩
     show (!decide (k ∈ ql)) = true
     rw [Bool.not_eq_true', decide_eq_false_iff_not]
     intro hq
     have := ((pb_memF hz').mp (hqc k hq)).2
     rw [hw'] at this
     exact absurd this (by decide)
    exact ⟨s1535, _, _, _, _, _, _, _, _, _, _, _, _, _, _, _, rfl⟩
  ·rintro i σ H16 ⟨s16, v4, v5, v6, v7, v8, v9, v10, v11, v12, v13, v14, v15, v16, v17, v18, rfl⟩
   exact q H16
end
end K25
end PartK25a
section PartK25z
set_option maxHeartbeats 4000000
namespace K25
open PySem L2 Og
theorem all_mk {l : PySem.W.OpenLaw} {w : World} {K : PySem.W.Frag} {h : Heap} {mg : Str -> Option Value} {fa : Addr} (X : K.In h) (G : h.Ns mainGlobals mg) (hfa : mg "law" = some (.ref fa))
  {C aN aK aB aP aM p1 p2 p3 p4 p5 p6 b1 b2 b3 b4 b5 b6 b7 fWh fMd fNm fRo fTo fWi fPa fHp fCl fIk fSb fWm fHr fIr fCk fNu fCa fPl fLi fMy fSt fHa fMe fSh fUn fLe fDc fHk fWa fCq fMu fUk fSk fNb fLl fBs fBa fSo fCe fLw fMx fBi fNa fSz fLn fKn fKs fRw fWd fDr fHd fSn fOi fOb fOc fOk fOo fBk fOp fOr fOq fOe fOs fOm fOz fZ : Addr} {odWh anWh odMd anMd odNm anNm odRo anRo odTo anTo odWi anWi odPa anPa odHp anHp odCl anCl odIk anIk odSb anSb odWm anWm odHr anHr odIr anIr odCk anCk odNu anNu odCa anCa odPl anPl odLi anLi odMy anMy odSt anSt odHa anHa odMe anMe odSh anSh odUn anUn odLe anLe odDc anDc odHk anHk odWa anWa odCq anCq odMu anMu odUk anUk odSk anSk odNb anNb odLl anLl odBs anBs odBa anBa odSo anSo odCe anCe odLw anLw odMx anMx odBi anBi odNa anNa odSz anSz odLn anLn odKn anKn odKs anKs odRw anRw odWd anWd odDr anDr odHd anHd odSn anSn odOi anOi odOb anOb odOc anOc odOk anOk odOo anOo odBk anBk odOp anOp odOr anOr odOq anOq odOe anOe odOs anOs odOm anOm odOz anOz odZ anZ : Option Addr} {slWh slMd slNm slRo slTo slWi slPa slHp slCl slIk slSb slWm slHr slIr slCk slNu slCa slPl slLi slMy slSt slHa slMe slSh slUn slLe slDc slHk slWa slCq slMu slUk slSk slNb slLl slBs slBa slSo slCe slLw slMx slBi slNa slSz slLn slKn slKs slRw slWd slDr slHd slSn slOi slOb slOc slOk slOo slBk slOp slOr slOq slOe slOs slOm slOz slZ : Array (Option Value)} {ocWh kVWh dcWh pmWh cdWh ctWh ocMd kVMd dcMd pmMd cdMd ctMd ocNm kVNm dcNm pmNm cdNm ctNm ocRo kVRo dcRo pmRo cdRo ctRo ocTo kVTo dcTo pmTo cdTo ctTo ocWi kVWi dcWi pmWi cdWi ctWi ocPa kVPa dcPa pmPa cdPa ctPa ocHp kVHp dcHp pmHp cdHp ctHp ocCl kVCl dcCl pmCl cdCl ctCl ocIk kVIk dcIk pmIk cdIk ctIk ocSb kVSb dcSb pmSb cdSb ctSb ocWm kVWm dcWm pmWm cdWm ctWm ocHr kVHr dcHr pmHr cdHr ctHr ocIr kVIr dcIr pmIr cdIr ctIr ocCk kVCk dcCk pmCk cdCk ctCk ocNu kVNu dcNu pmNu cdNu ctNu ocCa kVCa dcCa pmCa cdCa ctCa ocPl kVPl dcPl pmPl cdPl ctPl ocLi kVLi dcLi pmLi cdLi ctLi ocMy kVMy dcMy pmMy cdMy ctMy ocSt kVSt dcSt pmSt cdSt ctSt ocHa kVHa dcHa pmHa cdHa ctHa ocMe kVMe dcMe pmMe cdMe ctMe ocSh kVSh dcSh pmSh cdSh ctSh ocUn kVUn dcUn pmUn cdUn ctUn ocLe kVLe dcLe pmLe cdLe ctLe ocDc kVDc dcDc pmDc cdDc ctDc ocHk kVHk dcHk pmHk cdHk ctHk ocWa kVWa dcWa pmWa cdWa ctWa ocCq kVCq dcCq pmCq cdCq ctCq ocMu kVMu dcMu pmMu cdMu ctMu ocUk kVUk dcUk pmUk cdUk ctUk ocSk kVSk dcSk pmSk cdSk ctSk ocNb kVNb dcNb pmNb cdNb ctNb ocLl kVLl dcLl pmLl cdLl ctLl ocBs kVBs dcBs pmBs cdBs ctBs ocBa kVBa dcBa pmBa cdBa ctBa ocSo kVSo dcSo pmSo cdSo ctSo ocCe kVCe dcCe pmCe cdCe ctCe ocLw kVLw dcLw pmLw cdLw ctLw ocMx kVMx dcMx pmMx cdMx ctMx ocBi kVBi dcBi pmBi cdBi ctBi ocNa kVNa dcNa pmNa cdNa ctNa ocSz kVSz dcSz pmSz cdSz ctSz ocLn kVLn dcLn pmLn cdLn ctLn ocKn kVKn dcKn pmKn cdKn ctKn ocKs kVKs dcKs pmKs cdKs ctKs ocRw kVRw dcRw pmRw cdRw ctRw ocWd kVWd dcWd pmWd cdWd ctWd ocDr kVDr dcDr pmDr cdDr ctDr ocHd kVHd dcHd pmHd cdHd ctHd ocSn kVSn dcSn pmSn cdSn ctSn ocOi kVOi dcOi pmOi cdOi ctOi ocOb kVOb dcOb pmOb cdOb ctOb ocOc kVOc dcOc pmOc cdOc ctOc ocOk kVOk dcOk pmOk cdOk ctOk ocOo kVOo dcOo pmOo cdOo ctOo ocBk kVBk dcBk pmBk cdBk ctBk ocOp kVOp dcOp pmOp cdOp ctOp ocOr kVOr dcOr pmOr cdOr ctOr ocOq kVOq dcOq pmOq cdOq ctOq ocOe kVOe dcOe pmOe cdOe ctOe ocOs kVOs dcOs pmOs cdOs ctOs ocOm kVOm dcOm pmOm cdOm ctOm ocOz kVOz dcOz pmOz cdOz ctOz ocZ kVZ dcZ pmZ cdZ ctZ : Value}
  {tLET tML tMR tMLn tMB tm1 tm2 tm3 tm4 tm5 ttN_0 ttN_1 ttN_2 ttN_3 ttN_4 ttK_0 ttK_1 ttK_2 ttp1_0 ttp1_1 ttp2_0 ttp2_1 ttp3_0 ttp3_1 ttp4_0 ttp4_1 ttp4_2 ttp4_3 ttp5_0 ttp5_1 ttp5_2 ttp6_0 ttp6_1 ttp6_2 ttp6_3 ttb1_0 ttb1_1 ttb2_0 ttb2_1 ttb3_0 ttb3_1 ttb4_0 ttb4_1 ttb5_0 ttb5_1 ttb6_0 ttb6_1 ttb7_0 ttb7_1 : Tok} {od_N od_K od_p1 od_p2 od_p3 od_p4 od_p5 od_p6 od_b1 od_b2 od_b3 od_b4 od_b5 od_b6 od_b7 : Option Addr} {sl_N sl_K sl_p1 sl_p2 sl_p3 sl_p4 sl_p5 sl_p6 sl_b1 sl_b2 sl_b3 sl_b4 sl_b5 sl_b6 sl_b7 : Array (Option Value)} {n_N n_K n_p1 n_p2 n_p3 n_p4 n_p5 n_p6 n_b1 n_b2 n_b3 n_b4 n_b5 n_b6 n_b7 nB nP nM : Nat} {eB eP eM : Array DictEntry}
  (aWh : PySem.W.nsIn K mainGlobals "is_whole" = some (some (.ref fWh)))
  (lWh : K.lookup fWh = some ⟨ocWh, odWh, .func (PySem.W.fnOf "is_whole" "is_whole" (defArgs sWh) (defBody sWh) (defScope sWh) .none kVWh dcWh pmWh anWh cdWh ctWh), slWh⟩) (cWh : PySem.W.codeIn K cdWh "is_whole" = true) (kWh : PySem.W.keepIn K (.ref fWh) = true)
  (aMd : PySem.W.nsIn K mainGlobals "is_made_of" = some (some (.ref fMd)))
  (lMd : K.lookup fMd = some ⟨ocMd, odMd, .func (PySem.W.fnOf "is_made_of" "is_made_of" (defArgs sMd) (defBody sMd) (defScope sMd) .none kVMd dcMd pmMd anMd cdMd ctMd), slMd⟩) (cMd : PySem.W.codeIn K cdMd "is_made_of" = true) (kMd : PySem.W.keepIn K (.ref fMd) = true)
  (aNm : PySem.W.nsIn K mainGlobals "is_name" = some (some (.ref fNm)))
  (lNm : K.lookup fNm = some ⟨ocNm, odNm, .func (PySem.W.fnOf "is_name" "is_name" (defArgs sNm) (defBody sNm) (defScope sNm) .none kVNm dcNm pmNm anNm cdNm ctNm), slNm⟩) (cNm : PySem.W.codeIn K cdNm "is_name" = true) (kNm : PySem.W.keepIn K (.ref fNm) = true)
  (aRo : PySem.W.nsIn K mainGlobals "rows_of" = some (some (.ref fRo)))
  (lRo : K.lookup fRo = some ⟨ocRo, odRo, .func (PySem.W.fnOf "rows_of" "rows_of" (defArgs sRo) (defBody sRo) (defScope sRo) .none kVRo dcRo pmRo anRo cdRo ctRo), slRo⟩) (cRo : PySem.W.codeIn K cdRo "rows_of" = true) (kRo : PySem.W.keepIn K (.ref fRo) = true)
  (aTo : PySem.W.nsIn K mainGlobals "is_told" = some (some (.ref fTo)))
  (lTo : K.lookup fTo = some ⟨ocTo, odTo, .func (PySem.W.fnOf "is_told" "is_told" (defArgs sTo) (defBody sTo) (defScope sTo) .none kVTo dcTo pmTo anTo cdTo ctTo), slTo⟩) (cTo : PySem.W.codeIn K cdTo "is_told" = true) (kTo : PySem.W.keepIn K (.ref fTo) = true)
  (aWi : PySem.W.nsIn K mainGlobals "is_within" = some (some (.ref fWi)))
  (lWi : K.lookup fWi = some ⟨ocWi, odWi, .func (PySem.W.fnOf "is_within" "is_within" (defArgs sWi) (defBody sWi) (defScope sWi) .none kVWi dcWi pmWi anWi cdWi ctWi), slWi⟩) (cWi : PySem.W.codeIn K cdWi "is_within" = true) (kWi : PySem.W.keepIn K (.ref fWi) = true)
  (aPa : PySem.W.nsIn K mainGlobals "is_part" = some (some (.ref fPa)))
  (lPa : K.lookup fPa = some ⟨ocPa, odPa, .func (PySem.W.fnOf "is_part" "is_part" (defArgs sPa) (defBody sPa) (defScope sPa) .none kVPa dcPa pmPa anPa cdPa ctPa), slPa⟩) (cPa : PySem.W.codeIn K cdPa "is_part" = true) (kPa : PySem.W.keepIn K (.ref fPa) = true)
  (aHp : PySem.W.nsIn K mainGlobals "has_parts" = some (some (.ref fHp)))
  (lHp : K.lookup fHp = some ⟨ocHp, odHp, .func (PySem.W.fnOf "has_parts" "has_parts" (defArgs sHp) (defBody sHp) (defScope sHp) .none kVHp dcHp pmHp anHp cdHp ctHp), slHp⟩) (cHp : PySem.W.codeIn K cdHp "has_parts" = true) (kHp : PySem.W.keepIn K (.ref fHp) = true)
  (aCl : PySem.W.nsIn K mainGlobals "count_of_last_lines" = some (some (.ref fCl)))
  (lCl : K.lookup fCl = some ⟨ocCl, odCl, .func (PySem.W.fnOf "count_of_last_lines" "count_of_last_lines" (defArgs sCl) (defBody sCl) (defScope sCl) .none kVCl dcCl pmCl anCl cdCl ctCl), slCl⟩) (cCl : PySem.W.codeIn K cdCl "count_of_last_lines" = true) (kCl : PySem.W.keepIn K (.ref fCl) = true)
  (aIk : PySem.W.nsIn K mainGlobals "is_key_of" = some (some (.ref fIk)))
  (lIk : K.lookup fIk = some ⟨ocIk, odIk, .func (PySem.W.fnOf "is_key_of" "is_key_of" (defArgs sIk) (defBody sIk) (defScope sIk) .none kVIk dcIk pmIk anIk cdIk ctIk), slIk⟩) (cIk : PySem.W.codeIn K cdIk "is_key_of" = true) (kIk : PySem.W.keepIn K (.ref fIk) = true)
  (aSb : PySem.W.nsIn K mainGlobals "stands_behind_stop" = some (some (.ref fSb)))
  (lSb : K.lookup fSb = some ⟨ocSb, odSb, .func (PySem.W.fnOf "stands_behind_stop" "stands_behind_stop" (defArgs sSb) (defBody sSb) (defScope sSb) .none kVSb dcSb pmSb anSb cdSb ctSb), slSb⟩) (cSb : PySem.W.codeIn K cdSb "stands_behind_stop" = true) (kSb : PySem.W.keepIn K (.ref fSb) = true)
  (aWm : PySem.W.nsIn K mainGlobals "is_well_made" = some (some (.ref fWm)))
  (lWm : K.lookup fWm = some ⟨ocWm, odWm, .func (PySem.W.fnOf "is_well_made" "is_well_made" (defArgs sWm) (defBody sWm) (defScope sWm) .none kVWm dcWm pmWm anWm cdWm ctWm), slWm⟩) (cWm : PySem.W.codeIn K cdWm "is_well_made" = true) (kWm : PySem.W.keepIn K (.ref fWm) = true)
  (aHr : PySem.W.nsIn K mainGlobals "has_room" = some (some (.ref fHr)))
  (lHr : K.lookup fHr = some ⟨ocHr, odHr, .func (PySem.W.fnOf "has_room" "has_room" (defArgs sHr) (defBody sHr) (defScope sHr) .none kVHr dcHr pmHr anHr cdHr ctHr), slHr⟩) (cHr : PySem.W.codeIn K cdHr "has_room" = true) (kHr : PySem.W.keepIn K (.ref fHr) = true)
  (aIr : PySem.W.nsIn K mainGlobals "is_row" = some (some (.ref fIr)))
  (lIr : K.lookup fIr = some ⟨ocIr, odIr, .func (PySem.W.fnOf "is_row" "is_row" (defArgs sIr) (defBody sIr) (defScope sIr) .none kVIr dcIr pmIr anIr cdIr ctIr), slIr⟩) (cIr : PySem.W.codeIn K cdIr "is_row" = true) (kIr : PySem.W.keepIn K (.ref fIr) = true)
  (aCk : PySem.W.nsIn K mainGlobals "check_rows" = some (some (.ref fCk)))
  (lCk : K.lookup fCk = some ⟨ocCk, odCk, .func (PySem.W.fnOf "check_rows" "check_rows" (defArgs sCk) (defBody sCk) (defScope sCk) .none kVCk dcCk pmCk anCk cdCk ctCk), slCk⟩) (cCk : PySem.W.codeIn K cdCk "check_rows" = true) (kCk : PySem.W.keepIn K (.ref fCk) = true)
  (aNu : PySem.W.nsIn K mainGlobals "numbers_of" = some (some (.ref fNu)))
  (lNu : K.lookup fNu = some ⟨ocNu, odNu, .func (PySem.W.fnOf "numbers_of" "numbers_of" (defArgs sNu) (defBody sNu) (defScope sNu) .none kVNu dcNu pmNu anNu cdNu ctNu), slNu⟩) (cNu : PySem.W.codeIn K cdNu "numbers_of" = true) (kNu : PySem.W.keepIn K (.ref fNu) = true)
  (aCa : PySem.W.nsIn K mainGlobals "count_in_all" = some (some (.ref fCa)))
  (lCa : K.lookup fCa = some ⟨ocCa, odCa, .func (PySem.W.fnOf "count_in_all" "count_in_all" (defArgs sCa) (defBody sCa) (defScope sCa) .none kVCa dcCa pmCa anCa cdCa ctCa), slCa⟩) (cCa : PySem.W.codeIn K cdCa "count_in_all" = true) (kCa : PySem.W.keepIn K (.ref fCa) = true)
  (aPl : PySem.W.nsIn K mainGlobals "places_of" = some (some (.ref fPl)))
  (lPl : K.lookup fPl = some ⟨ocPl, odPl, .func (PySem.W.fnOf "places_of" "places_of" (defArgs sPl) (defBody sPl) (defScope sPl) .none kVPl dcPl pmPl anPl cdPl ctPl), slPl⟩) (cPl : PySem.W.codeIn K cdPl "places_of" = true) (kPl : PySem.W.keepIn K (.ref fPl) = true)
  (aLi : PySem.W.nsIn K mainGlobals "lines_by_knob" = some (some (.ref fLi)))
  (lLi : K.lookup fLi = some ⟨ocLi, odLi, .func (PySem.W.fnOf "lines_by_knob" "lines_by_knob" (defArgs sLi) (defBody sLi) (defScope sLi) .none kVLi dcLi pmLi anLi cdLi ctLi), slLi⟩) (cLi : PySem.W.codeIn K cdLi "lines_by_knob" = true) (kLi : PySem.W.keepIn K (.ref fLi) = true)
  (aMy : PySem.W.nsIn K mainGlobals "may_be_member" = some (some (.ref fMy)))
  (lMy : K.lookup fMy = some ⟨ocMy, odMy, .func (PySem.W.fnOf "may_be_member" "may_be_member" (defArgs sMy) (defBody sMy) (defScope sMy) .none kVMy dcMy pmMy anMy cdMy ctMy), slMy⟩) (cMy : PySem.W.codeIn K cdMy "may_be_member" = true) (kMy : PySem.W.keepIn K (.ref fMy) = true)
  (aSt : PySem.W.nsIn K mainGlobals "set_of" = some (some (.ref fSt)))
  (lSt : K.lookup fSt = some ⟨ocSt, odSt, .func (PySem.W.fnOf "set_of" "set_of" (defArgs sSt) (defBody sSt) (defScope sSt) .none kVSt dcSt pmSt anSt cdSt ctSt), slSt⟩) (cSt : PySem.W.codeIn K cdSt "set_of" = true) (kSt : PySem.W.keepIn K (.ref fSt) = true)
  (aHa : PySem.W.nsIn K mainGlobals "has_member" = some (some (.ref fHa)))
  (lHa : K.lookup fHa = some ⟨ocHa, odHa, .func (PySem.W.fnOf "has_member" "has_member" (defArgs sHa) (defBody sHa) (defScope sHa) .none kVHa dcHa pmHa anHa cdHa ctHa), slHa⟩) (cHa : PySem.W.codeIn K cdHa "has_member" = true) (kHa : PySem.W.keepIn K (.ref fHa) = true)
  (aMe : PySem.W.nsIn K mainGlobals "members_of" = some (some (.ref fMe)))
  (lMe : K.lookup fMe = some ⟨ocMe, odMe, .func (PySem.W.fnOf "members_of" "members_of" (defArgs sMe) (defBody sMe) (defScope sMe) .none kVMe dcMe pmMe anMe cdMe ctMe), slMe⟩) (cMe : PySem.W.codeIn K cdMe "members_of" = true) (kMe : PySem.W.keepIn K (.ref fMe) = true)
  (aSh : PySem.W.nsIn K mainGlobals "shifted" = some (some (.ref fSh)))
  (lSh : K.lookup fSh = some ⟨ocSh, odSh, .func (PySem.W.fnOf "shifted" "shifted" (defArgs sSh) (defBody sSh) (defScope sSh) .none kVSh dcSh pmSh anSh cdSh ctSh), slSh⟩) (cSh : PySem.W.codeIn K cdSh "shifted" = true) (kSh : PySem.W.keepIn K (.ref fSh) = true)
  (aUn : PySem.W.nsIn K mainGlobals "union_of" = some (some (.ref fUn)))
  (lUn : K.lookup fUn = some ⟨ocUn, odUn, .func (PySem.W.fnOf "union_of" "union_of" (defArgs sUn) (defBody sUn) (defScope sUn) .none kVUn dcUn pmUn anUn cdUn ctUn), slUn⟩) (cUn : PySem.W.codeIn K cdUn "union_of" = true) (kUn : PySem.W.keepIn K (.ref fUn) = true)
  (aLe : PySem.W.nsIn K mainGlobals "led_to" = some (some (.ref fLe)))
  (lLe : K.lookup fLe = some ⟨ocLe, odLe, .func (PySem.W.fnOf "led_to" "led_to" (defArgs sLe) (defBody sLe) (defScope sLe) .none kVLe dcLe pmLe anLe cdLe ctLe), slLe⟩) (cLe : PySem.W.codeIn K cdLe "led_to" = true) (kLe : PySem.W.keepIn K (.ref fLe) = true)
  (aDc : PySem.W.nsIn K mainGlobals "drawn_of" = some (some (.ref fDc)))
  (lDc : K.lookup fDc = some ⟨ocDc, odDc, .func (PySem.W.fnOf "drawn_of" "drawn_of" (defArgs sDc) (defBody sDc) (defScope sDc) .none kVDc dcDc pmDc anDc cdDc ctDc), slDc⟩) (cDc : PySem.W.codeIn K cdDc "drawn_of" = true) (kDc : PySem.W.keepIn K (.ref fDc) = true)
  (aHk : PySem.W.nsIn K mainGlobals "held_keys" = some (some (.ref fHk)))
  (lHk : K.lookup fHk = some ⟨ocHk, odHk, .func (PySem.W.fnOf "held_keys" "held_keys" (defArgs sHk) (defBody sHk) (defScope sHk) .none kVHk dcHk pmHk anHk cdHk ctHk), slHk⟩) (cHk : PySem.W.codeIn K cdHk "held_keys" = true) (kHk : PySem.W.keepIn K (.ref fHk) = true)
  (aWa : PySem.W.nsIn K mainGlobals "coupled_ways" = some (some (.ref fWa)))
  (lWa : K.lookup fWa = some ⟨ocWa, odWa, .func (PySem.W.fnOf "coupled_ways" "coupled_ways" (defArgs sWa) (defBody sWa) (defScope sWa) .none kVWa dcWa pmWa anWa cdWa ctWa), slWa⟩) (cWa : PySem.W.codeIn K cdWa "coupled_ways" = true) (kWa : PySem.W.keepIn K (.ref fWa) = true)
  (aCq : PySem.W.nsIn K mainGlobals "coupled_keys" = some (some (.ref fCq)))
  (lCq : K.lookup fCq = some ⟨ocCq, odCq, .func (PySem.W.fnOf "coupled_keys" "coupled_keys" (defArgs sCq) (defBody sCq) (defScope sCq) .none kVCq dcCq pmCq anCq cdCq ctCq), slCq⟩) (cCq : PySem.W.codeIn K cdCq "coupled_keys" = true) (kCq : PySem.W.keepIn K (.ref fCq) = true)
  (aMu : PySem.W.nsIn K mainGlobals "muted_boards" = some (some (.ref fMu)))
  (lMu : K.lookup fMu = some ⟨ocMu, odMu, .func (PySem.W.fnOf "muted_boards" "muted_boards" (defArgs sMu) (defBody sMu) (defScope sMu) .none kVMu dcMu pmMu anMu cdMu ctMu), slMu⟩) (cMu : PySem.W.codeIn K cdMu "muted_boards" = true) (kMu : PySem.W.keepIn K (.ref fMu) = true)
  (aUk : PySem.W.nsIn K mainGlobals "unmuted_keys" = some (some (.ref fUk)))
  (lUk : K.lookup fUk = some ⟨ocUk, odUk, .func (PySem.W.fnOf "unmuted_keys" "unmuted_keys" (defArgs sUk) (defBody sUk) (defScope sUk) .none kVUk dcUk pmUk anUk cdUk ctUk), slUk⟩) (cUk : PySem.W.codeIn K cdUk "unmuted_keys" = true) (kUk : PySem.W.keepIn K (.ref fUk) = true)
  (aSk : PySem.W.nsIn K mainGlobals "speaking_keys" = some (some (.ref fSk)))
  (lSk : K.lookup fSk = some ⟨ocSk, odSk, .func (PySem.W.fnOf "speaking_keys" "speaking_keys" (defArgs sSk) (defBody sSk) (defScope sSk) .none kVSk dcSk pmSk anSk cdSk ctSk), slSk⟩) (cSk : PySem.W.codeIn K cdSk "speaking_keys" = true) (kSk : PySem.W.keepIn K (.ref fSk) = true)
  (aNb : PySem.W.nsIn K mainGlobals "numbers_on_board" = some (some (.ref fNb)))
  (lNb : K.lookup fNb = some ⟨ocNb, odNb, .func (PySem.W.fnOf "numbers_on_board" "numbers_on_board" (defArgs sNb) (defBody sNb) (defScope sNb) .none kVNb dcNb pmNb anNb cdNb ctNb), slNb⟩) (cNb : PySem.W.codeIn K cdNb "numbers_on_board" = true) (kNb : PySem.W.keepIn K (.ref fNb) = true)
  (aLl : PySem.W.nsIn K mainGlobals "led_by_line" = some (some (.ref fLl)))
  (lLl : K.lookup fLl = some ⟨ocLl, odLl, .func (PySem.W.fnOf "led_by_line" "led_by_line" (defArgs sLl) (defBody sLl) (defScope sLl) .none kVLl dcLl pmLl anLl cdLl ctLl), slLl⟩) (cLl : PySem.W.codeIn K cdLl "led_by_line" = true) (kLl : PySem.W.keepIn K (.ref fLl) = true)
  (aBs : PySem.W.nsIn K mainGlobals "brought_by_stop" = some (some (.ref fBs)))
  (lBs : K.lookup fBs = some ⟨ocBs, odBs, .func (PySem.W.fnOf "brought_by_stop" "brought_by_stop" (defArgs sBs) (defBody sBs) (defScope sBs) .none kVBs dcBs pmBs anBs cdBs ctBs), slBs⟩) (cBs : PySem.W.codeIn K cdBs "brought_by_stop" = true) (kBs : PySem.W.keepIn K (.ref fBs) = true)
  (aBa : PySem.W.nsIn K mainGlobals "brought_in_all" = some (some (.ref fBa)))
  (lBa : K.lookup fBa = some ⟨ocBa, odBa, .func (PySem.W.fnOf "brought_in_all" "brought_in_all" (defArgs sBa) (defBody sBa) (defScope sBa) .none kVBa dcBa pmBa anBa cdBa ctBa), slBa⟩) (cBa : PySem.W.codeIn K cdBa "brought_in_all" = true) (kBa : PySem.W.keepIn K (.ref fBa) = true)
  (aSo : PySem.W.nsIn K mainGlobals "sounding_pipes" = some (some (.ref fSo)))
  (lSo : K.lookup fSo = some ⟨ocSo, odSo, .func (PySem.W.fnOf "sounding_pipes" "sounding_pipes" (defArgs sSo) (defBody sSo) (defScope sSo) .none kVSo dcSo pmSo anSo cdSo ctSo), slSo⟩) (cSo : PySem.W.codeIn K cdSo "sounding_pipes" = true) (kSo : PySem.W.keepIn K (.ref fSo) = true)
  (aCe : PySem.W.nsIn K mainGlobals "_law_cell_at" = some (some (.ref fCe)))
  (lCe : K.lookup fCe = some ⟨ocCe, odCe, .func (PySem.W.fnOf "_law_cell_at" "_law_cell_at" (defArgs sCe) (defBody sCe) (defScope sCe) .none kVCe dcCe pmCe anCe cdCe ctCe), slCe⟩) (cCe : PySem.W.codeIn K cdCe "_law_cell_at" = true) (kCe : PySem.W.keepIn K (.ref fCe) = true)
  (aLw : PySem.W.nsIn K mainGlobals "_law_whole" = some (some (.ref fLw)))
  (lLw : K.lookup fLw = some ⟨ocLw, odLw, .func (PySem.W.fnOf "_law_whole" "_law_whole" (defArgs sLw) (defBody sLw) (defScope sLw) .none kVLw dcLw pmLw anLw cdLw ctLw), slLw⟩) (cLw : PySem.W.codeIn K cdLw "_law_whole" = true) (kLw : PySem.W.keepIn K (.ref fLw) = true)
  (aMx : PySem.W.nsIn K mainGlobals "_law_mixed" = some (some (.ref fMx)))
  (lMx : K.lookup fMx = some ⟨ocMx, odMx, .func (PySem.W.fnOf "_law_mixed" "_law_mixed" (defArgs sMx) (defBody sMx) (defScope sMx) .none kVMx dcMx pmMx anMx cdMx ctMx), slMx⟩) (cMx : PySem.W.codeIn K cdMx "_law_mixed" = true) (kMx : PySem.W.keepIn K (.ref fMx) = true)
  (aBi : PySem.W.nsIn K mainGlobals "_law_bits" = some (some (.ref fBi)))
  (lBi : K.lookup fBi = some ⟨ocBi, odBi, .func (PySem.W.fnOf "_law_bits" "_law_bits" (defArgs sBi) (defBody sBi) (defScope sBi) .none kVBi dcBi pmBi anBi cdBi ctBi), slBi⟩) (cBi : PySem.W.codeIn K cdBi "_law_bits" = true) (kBi : PySem.W.keepIn K (.ref fBi) = true)
  (aNa : PySem.W.nsIn K mainGlobals "_law_name" = some (some (.ref fNa)))
  (lNa : K.lookup fNa = some ⟨ocNa, odNa, .func (PySem.W.fnOf "_law_name" "_law_name" (defArgs sNa) (defBody sNa) (defScope sNa) .none kVNa dcNa pmNa anNa cdNa ctNa), slNa⟩) (cNa : PySem.W.codeIn K cdNa "_law_name" = true) (kNa : PySem.W.keepIn K (.ref fNa) = true)
  (aSz : PySem.W.nsIn K mainGlobals "_law_sizes" = some (some (.ref fSz)))
  (lSz : K.lookup fSz = some ⟨ocSz, odSz, .func (PySem.W.fnOf "_law_sizes" "_law_sizes" (defArgs sSz) (defBody sSz) (defScope sSz) .none kVSz dcSz pmSz anSz cdSz ctSz), slSz⟩) (cSz : PySem.W.codeIn K cdSz "_law_sizes" = true) (kSz : PySem.W.keepIn K (.ref fSz) = true)
  (aLn : PySem.W.nsIn K mainGlobals "_law_lines" = some (some (.ref fLn)))
  (lLn : K.lookup fLn = some ⟨ocLn, odLn, .func (PySem.W.fnOf "_law_lines" "_law_lines" (defArgs sLn) (defBody sLn) (defScope sLn) .none kVLn dcLn pmLn anLn cdLn ctLn), slLn⟩) (cLn : PySem.W.codeIn K cdLn "_law_lines" = true) (kLn : PySem.W.keepIn K (.ref fLn) = true)
  (aKn : PySem.W.nsIn K mainGlobals "_law_knob" = some (some (.ref fKn)))
  (lKn : K.lookup fKn = some ⟨ocKn, odKn, .func (PySem.W.fnOf "_law_knob" "_law_knob" (defArgs sKn) (defBody sKn) (defScope sKn) .none kVKn dcKn pmKn anKn cdKn ctKn), slKn⟩) (cKn : PySem.W.codeIn K cdKn "_law_knob" = true) (kKn : PySem.W.keepIn K (.ref fKn) = true)
  (aKs : PySem.W.nsIn K mainGlobals "_law_knobs" = some (some (.ref fKs)))
  (lKs : K.lookup fKs = some ⟨ocKs, odKs, .func (PySem.W.fnOf "_law_knobs" "_law_knobs" (defArgs sKs) (defBody sKs) (defScope sKs) .none kVKs dcKs pmKs anKs cdKs ctKs), slKs⟩) (cKs : PySem.W.codeIn K cdKs "_law_knobs" = true) (kKs : PySem.W.keepIn K (.ref fKs) = true)
  (aRw : PySem.W.nsIn K mainGlobals "_law_rows" = some (some (.ref fRw)))
  (lRw : K.lookup fRw = some ⟨ocRw, odRw, .func (PySem.W.fnOf "_law_rows" "_law_rows" (defArgs sRw) (defBody sRw) (defScope sRw) .none kVRw dcRw pmRw anRw cdRw ctRw), slRw⟩) (cRw : PySem.W.codeIn K cdRw "_law_rows" = true) (kRw : PySem.W.keepIn K (.ref fRw) = true)
  (aWd : PySem.W.nsIn K mainGlobals "_law_world" = some (some (.ref fWd)))
  (lWd : K.lookup fWd = some ⟨ocWd, odWd, .func (PySem.W.fnOf "_law_world" "_law_world" (defArgs sWd) (defBody sWd) (defScope sWd) .none kVWd dcWd pmWd anWd cdWd ctWd), slWd⟩) (cWd : PySem.W.codeIn K cdWd "_law_world" = true) (kWd : PySem.W.keepIn K (.ref fWd) = true)
  (aDr : PySem.W.nsIn K mainGlobals "_law_drawn" = some (some (.ref fDr)))
  (lDr : K.lookup fDr = some ⟨ocDr, odDr, .func (PySem.W.fnOf "_law_drawn" "_law_drawn" (defArgs sDr) (defBody sDr) (defScope sDr) .none kVDr dcDr pmDr anDr cdDr ctDr), slDr⟩) (cDr : PySem.W.codeIn K cdDr "_law_drawn" = true) (kDr : PySem.W.keepIn K (.ref fDr) = true)
  (aHd : PySem.W.nsIn K mainGlobals "_law_held" = some (some (.ref fHd)))
  (lHd : K.lookup fHd = some ⟨ocHd, odHd, .func (PySem.W.fnOf "_law_held" "_law_held" (defArgs sHd) (defBody sHd) (defScope sHd) .none kVHd dcHd pmHd anHd cdHd ctHd), slHd⟩) (cHd : PySem.W.codeIn K cdHd "_law_held" = true) (kHd : PySem.W.keepIn K (.ref fHd) = true)
  (aSn : PySem.W.nsIn K mainGlobals "_law_sound" = some (some (.ref fSn)))
  (lSn : K.lookup fSn = some ⟨ocSn, odSn, .func (PySem.W.fnOf "_law_sound" "_law_sound" (defArgs sSn) (defBody sSn) (defScope sSn) .none kVSn dcSn pmSn anSn cdSn ctSn), slSn⟩) (cSn : PySem.W.codeIn K cdSn "_law_sound" = true) (kSn : PySem.W.keepIn K (.ref fSn) = true)
  (aZ : PySem.W.nsIn K mainGlobals "law" = some (some (.ref fZ)))
  (lZ : K.lookup fZ = some ⟨ocZ, odZ, .func (PySem.W.fnOf "law" "law" (defArgs sLaw) (defBody sLaw) (defScope sLaw) .none kVZ dcZ pmZ anZ cdZ ctZ), slZ⟩) (cZ : PySem.W.codeIn K cdZ "law" = true) (kZ : PySem.W.keepIn K (.ref fZ) = true)
  (aC : PySem.W.nsIn K mainGlobals "Organ" = some (some (.ref C)))
  (aOi : PySem.W.findIn K (.ref C) "__init__" = some (some (.ref fOi)))
  (iOi : PySem.W.isFn K (.ref fOi) = true)
  (lOi : K.lookup fOi = some ⟨ocOi, odOi, .func (PySem.W.fnOf "__init__" "Organ.__init__" (defArgs sOi) (defBody sOi) (defScope sOi) .none kVOi dcOi pmOi anOi cdOi ctOi), slOi⟩) (cOi : PySem.W.codeIn K cdOi "Organ.__init__" = true) (kOi : PySem.W.keepIn K (.ref fOi) = true)
  (aOb : PySem.W.findIn K (.ref C) "boards" = some (some (.ref fOb)))
  (iOb : PySem.W.isFn K (.ref fOb) = true)
  (lOb : K.lookup fOb = some ⟨ocOb, odOb, .func (PySem.W.fnOf "boards" "Organ.boards" (defArgs sOb) (defBody sOb) (defScope sOb) .none kVOb dcOb pmOb anOb cdOb ctOb), slOb⟩) (cOb : PySem.W.codeIn K cdOb "Organ.boards" = true) (kOb : PySem.W.keepIn K (.ref fOb) = true)
  (aOc : PySem.W.findIn K (.ref C) "key_count" = some (some (.ref fOc)))
  (iOc : PySem.W.isFn K (.ref fOc) = true)
  (lOc : K.lookup fOc = some ⟨ocOc, odOc, .func (PySem.W.fnOf "key_count" "Organ.key_count" (defArgs sOc) (defBody sOc) (defScope sOc) .none kVOc dcOc pmOc anOc cdOc ctOc), slOc⟩) (cOc : PySem.W.codeIn K cdOc "Organ.key_count" = true) (kOc : PySem.W.keepIn K (.ref fOc) = true)
  (aOk : PySem.W.findIn K (.ref C) "key" = some (some (.ref fOk)))
  (iOk : PySem.W.isFn K (.ref fOk) = true)
  (lOk : K.lookup fOk = some ⟨ocOk, odOk, .func (PySem.W.fnOf "key" "Organ.key" (defArgs sOk) (defBody sOk) (defScope sOk) .none kVOk dcOk pmOk anOk cdOk ctOk), slOk⟩) (cOk : PySem.W.codeIn K cdOk "Organ.key" = true) (kOk : PySem.W.keepIn K (.ref fOk) = true)
  (aOo : PySem.W.findIn K (.ref C) "board_of" = some (some (.ref fOo)))
  (iOo : PySem.W.isFn K (.ref fOo) = true)
  (lOo : K.lookup fOo = some ⟨ocOo, odOo, .func (PySem.W.fnOf "board_of" "Organ.board_of" (defArgs sOo) (defBody sOo) (defScope sOo) .none kVOo dcOo pmOo anOo cdOo ctOo), slOo⟩) (cOo : PySem.W.codeIn K cdOo "Organ.board_of" = true) (kOo : PySem.W.keepIn K (.ref fOo) = true)
  (aBk : PySem.W.findIn K (.ref C) "board_of_knob" = some (some (.ref fBk)))
  (iBk : PySem.W.isFn K (.ref fBk) = true)
  (lBk : K.lookup fBk = some ⟨ocBk, odBk, .func (PySem.W.fnOf "board_of_knob" "Organ.board_of_knob" (defArgs sBk) (defBody sBk) (defScope sBk) .none kVBk dcBk pmBk anBk cdBk ctBk), slBk⟩) (cBk : PySem.W.codeIn K cdBk "Organ.board_of_knob" = true) (kBk : PySem.W.keepIn K (.ref fBk) = true)
  (aOp : PySem.W.findIn K (.ref C) "coupler" = some (some (.ref fOp)))
  (iOp : PySem.W.isFn K (.ref fOp) = true)
  (lOp : K.lookup fOp = some ⟨ocOp, odOp, .func (PySem.W.fnOf "coupler" "Organ.coupler" (defArgs sOp) (defBody sOp) (defScope sOp) .none kVOp dcOp pmOp anOp cdOp ctOp), slOp⟩) (cOp : PySem.W.codeIn K cdOp "Organ.coupler" = true) (kOp : PySem.W.keepIn K (.ref fOp) = true)
  (aOr : PySem.W.findIn K (.ref C) "ranks" = some (some (.ref fOr)))
  (iOr : PySem.W.isFn K (.ref fOr) = true)
  (lOr : K.lookup fOr = some ⟨ocOr, odOr, .func (PySem.W.fnOf "ranks" "Organ.ranks" (defArgs sOr) (defBody sOr) (defScope sOr) .none kVOr dcOr pmOr anOr cdOr ctOr), slOr⟩) (cOr : PySem.W.codeIn K cdOr "Organ.ranks" = true) (kOr : PySem.W.keepIn K (.ref fOr) = true)
  (aOq : PySem.W.findIn K (.ref C) "pipe_count" = some (some (.ref fOq)))
  (iOq : PySem.W.isFn K (.ref fOq) = true)
  (lOq : K.lookup fOq = some ⟨ocOq, odOq, .func (PySem.W.fnOf "pipe_count" "Organ.pipe_count" (defArgs sOq) (defBody sOq) (defScope sOq) .none kVOq dcOq pmOq anOq cdOq ctOq), slOq⟩) (cOq : PySem.W.codeIn K cdOq "Organ.pipe_count" = true) (kOq : PySem.W.keepIn K (.ref fOq) = true)
  (aOe : PySem.W.findIn K (.ref C) "pipe" = some (some (.ref fOe)))
  (iOe : PySem.W.isFn K (.ref fOe) = true)
  (lOe : K.lookup fOe = some ⟨ocOe, odOe, .func (PySem.W.fnOf "pipe" "Organ.pipe" (defArgs sOe) (defBody sOe) (defScope sOe) .none kVOe dcOe pmOe anOe cdOe ctOe), slOe⟩) (cOe : PySem.W.codeIn K cdOe "Organ.pipe" = true) (kOe : PySem.W.keepIn K (.ref fOe) = true)
  (aOs : PySem.W.findIn K (.ref C) "stop" = some (some (.ref fOs)))
  (iOs : PySem.W.isFn K (.ref fOs) = true)
  (lOs : K.lookup fOs = some ⟨ocOs, odOs, .func (PySem.W.fnOf "stop" "Organ.stop" (defArgs sOs) (defBody sOs) (defScope sOs) .none kVOs dcOs pmOs anOs cdOs ctOs), slOs⟩) (cOs : PySem.W.codeIn K cdOs "Organ.stop" = true) (kOs : PySem.W.keepIn K (.ref fOs) = true)
  (aOm : PySem.W.findIn K (.ref C) "mute" = some (some (.ref fOm)))
  (iOm : PySem.W.isFn K (.ref fOm) = true)
  (lOm : K.lookup fOm = some ⟨ocOm, odOm, .func (PySem.W.fnOf "mute" "Organ.mute" (defArgs sOm) (defBody sOm) (defScope sOm) .none kVOm dcOm pmOm anOm cdOm ctOm), slOm⟩) (cOm : PySem.W.codeIn K cdOm "Organ.mute" = true) (kOm : PySem.W.keepIn K (.ref fOm) = true)
  (aOz : PySem.W.findIn K (.ref C) "knobs" = some (some (.ref fOz)))
  (iOz : PySem.W.isFn K (.ref fOz) = true)
  (lOz : K.lookup fOz = some ⟨ocOz, odOz, .func (PySem.W.fnOf "knobs" "Organ.knobs" (defArgs sOz) (defBody sOz) (defScope sOz) .none kVOz dcOz pmOz anOz cdOz ctOz), slOz⟩) (cOz : PySem.W.codeIn K cdOz "Organ.knobs" = true) (kOz : PySem.W.keepIn K (.ref fOz) = true)
  (pg : PySem.W.plainGet K C Str.empty = true)
  (hd : PySem.W.hasDictIn K C = true)
  (po : PySem.W.plainOver K C = true)
  (sa : PySem.W.findIn K (.ref C) "__setattr__" = some (some (.builtin "object.__setattr__")))
  (mkC : PySem.W.makesIn K C = true)
  (kc : PySem.W.keepIn K (.ref C) = true)
  (n_row_list_ : PySem.W.findIn K (.ref C) "row_list" = some none)
  (n_board_list_ : PySem.W.findIn K (.ref C) "board_list" = some none)
  (n_rank_list_ : PySem.W.findIn K (.ref C) "rank_list" = some none)
  (n_knob_rows_ : PySem.W.findIn K (.ref C) "knob_rows" = some none)
  (n_board_numbers_ : PySem.W.findIn K (.ref C) "board_numbers" = some none)
  (n_rank_numbers_ : PySem.W.findIn K (.ref C) "rank_numbers" = some none)
  (n_knob_numbers_ : PySem.W.findIn K (.ref C) "knob_numbers" = some none)
  (n_key_places_ : PySem.W.findIn K (.ref C) "key_places" = some none)
  (n_pipe_places_ : PySem.W.findIn K (.ref C) "pipe_places" = some none)
  (n_knob_lines_ : PySem.W.findIn K (.ref C) "knob_lines" = some none)
  (n_step_sets_ : PySem.W.findIn K (.ref C) "step_sets" = some none)
  (zlen : PySem.W.nsIn K mainGlobals "len" = some none)
  (zisinstance : PySem.W.nsIn K mainGlobals "isinstance" = some none)
  (zint : PySem.W.nsIn K mainGlobals "int" = some none)
  (zbool : PySem.W.nsIn K mainGlobals "bool" = some none)
  (zstr : PySem.W.nsIn K mainGlobals "str" = some none)
  (zlist : PySem.W.nsIn K mainGlobals "list" = some none)
  (ztuple : PySem.W.nsIn K mainGlobals "tuple" = some none)
  (zall : PySem.W.nsIn K mainGlobals "all" = some none)
  (zany : PySem.W.nsIn K mainGlobals "any" = some none)
  (zsum : PySem.W.nsIn K mainGlobals "sum" = some none)
  (zrange : PySem.W.nsIn K mainGlobals "range" = some none)
  (zzip : PySem.W.nsIn K mainGlobals "zip" = some none)
  (zenumerate : PySem.W.nsIn K mainGlobals "enumerate" = some none)
  (zmax : PySem.W.nsIn K mainGlobals "max" = some none)
  (zreversed : PySem.W.nsIn K mainGlobals "reversed" = some none)
  (zLET : PySem.W.nsIn K mainGlobals "LETTERS" = some (some (.str letters tLET)))
  (zML : PySem.W.nsIn K mainGlobals "MOST_LETTERS" = some (some (.int 8 tML)))
  (zMR : PySem.W.nsIn K mainGlobals "MOST_ROWS" = some (some (.int 150 tMR)))
  (zMLn : PySem.W.nsIn K mainGlobals "MOST_LINES" = some (some (.int 4 tMLn)))
  (zMB : PySem.W.nsIn K mainGlobals "MEMBERS_BELOW" = some (some (.int 1200 tMB)))
  (rN : PySem.W.nsIn K mainGlobals "NAMED" = some (some (.ref aN)))
  (rK : PySem.W.nsIn K mainGlobals "KNOBS" = some (some (.ref aK)))
  (rB : PySem.W.nsIn K mainGlobals "BOUNDS" = some (some (.ref aB)))
  (rP : PySem.W.nsIn K mainGlobals "PARTS" = some (some (.ref aP)))
  (rM : PySem.W.nsIn K mainGlobals "MOST_OF" = some (some (.ref aM)))
  (dB : K.lookup aB = some ⟨.type "dict", none, .dict eB nB, #[]⟩)
  (kB : PySem.W.KeysLit w.params eB.toList)
  (oB : (aB == sysModules) = false)
  (dP : K.lookup aP = some ⟨.type "dict", none, .dict eP nP, #[]⟩)
  (kP : PySem.W.KeysLit w.params eP.toList)
  (oP : (aP == sysModules) = false)
  (dM : K.lookup aM = some ⟨.type "dict", none, .dict eM nM, #[]⟩)
  (kM : PySem.W.KeysLit w.params eM.toList)
  (oM : (aM == sysModules) = false)
  (qp1 : PySem.W.nsIn K aP "board" = some (some (.ref p1)))
  (qp2 : PySem.W.nsIn K aP "stop" = some (some (.ref p2)))
  (qp3 : PySem.W.nsIn K aP "mute" = some (some (.ref p3)))
  (qp4 : PySem.W.nsIn K aP "coupler" = some (some (.ref p4)))
  (qp5 : PySem.W.nsIn K aP "rank" = some (some (.ref p5)))
  (qp6 : PySem.W.nsIn K aP "line" = some (some (.ref p6)))
  (qb1 : PySem.W.nsIn K aB "keys" = some (some (.ref b1)))
  (qb2 : PySem.W.nsIn K aB "leap" = some (some (.ref b2)))
  (qb3 : PySem.W.nsIn K aB "pipes" = some (some (.ref b3)))
  (qb4 : PySem.W.nsIn K aB "wind" = some (some (.ref b4)))
  (qb5 : PySem.W.nsIn K aB "shift" = some (some (.ref b5)))
  (qb6 : PySem.W.nsIn K aB "low" = some (some (.ref b6)))
  (qb7 : PySem.W.nsIn K aB "high" = some (some (.ref b7)))
  (qn : PySem.W.nsIn K aB "new" = some none)
  (qb : PySem.W.nsIn K aB "board" = some none)
  (qr : PySem.W.nsIn K aB "rank" = some none)
  (ql : PySem.W.nsIn K aM "line" = some none)
  (qm1 : PySem.W.nsIn K aM "board" = some (some (.int 5 tm1)))
  (qm2 : PySem.W.nsIn K aM "stop" = some (some (.int 24 tm2)))
  (qm3 : PySem.W.nsIn K aM "coupler" = some (some (.int 12 tm3)))
  (qm4 : PySem.W.nsIn K aM "mute" = some (some (.int 5 tm4)))
  (qm5 : PySem.W.nsIn K aM "rank" = some (some (.int 12 tm5)))
  (uN : K.lookup aN = some ⟨.type "tuple", od_N, .seq #[.str "board" ttN_0, .str "rank" ttN_1, .str "stop" ttN_2, .str "coupler" ttN_3, .str "mute" ttN_4] n_N, sl_N⟩)
  (uK : K.lookup aK = some ⟨.type "tuple", od_K, .seq #[.str "stop" ttK_0, .str "coupler" ttK_1, .str "mute" ttK_2] n_K, sl_K⟩)
  (up1 : K.lookup p1 = some ⟨.type "tuple", od_p1, .seq #[.str "new" ttp1_0, .str "keys" ttp1_1] n_p1, sl_p1⟩)
  (up2 : K.lookup p2 = some ⟨.type "tuple", od_p2, .seq #[.str "new" ttp2_0, .str "board" ttp2_1] n_p2, sl_p2⟩)
  (up3 : K.lookup p3 = some ⟨.type "tuple", od_p3, .seq #[.str "new" ttp3_0, .str "board" ttp3_1] n_p3, sl_p3⟩)
  (up4 : K.lookup p4 = some ⟨.type "tuple", od_p4, .seq #[.str "new" ttp4_0, .str "board" ttp4_1, .str "board" ttp4_2, .str "leap" ttp4_3] n_p4, sl_p4⟩)
  (up5 : K.lookup p5 = some ⟨.type "tuple", od_p5, .seq #[.str "new" ttp5_0, .str "pipes" ttp5_1, .str "wind" ttp5_2] n_p5, sl_p5⟩)
  (up6 : K.lookup p6 = some ⟨.type "tuple", od_p6, .seq #[.str "rank" ttp6_0, .str "shift" ttp6_1, .str "low" ttp6_2, .str "high" ttp6_3] n_p6, sl_p6⟩)
  (ub1 : K.lookup b1 = some ⟨.type "tuple", od_b1, .seq #[.int (1) ttb1_0, .int (61) ttb1_1] n_b1, sl_b1⟩)
  (ub2 : K.lookup b2 = some ⟨.type "tuple", od_b2, .seq #[.int (-60) ttb2_0, .int (60) ttb2_1] n_b2, sl_b2⟩)
  (ub3 : K.lookup b3 = some ⟨.type "tuple", od_b3, .seq #[.int (1) ttb3_0, .int (97) ttb3_1] n_b3, sl_b3⟩)
  (ub4 : K.lookup b4 = some ⟨.type "tuple", od_b4, .seq #[.int (0) ttb4_0, .int (1000000000) ttb4_1] n_b4, sl_b4⟩)
  (ub5 : K.lookup b5 = some ⟨.type "tuple", od_b5, .seq #[.int (-200) ttb5_0, .int (200) ttb5_1] n_b5, sl_b5⟩)
  (ub6 : K.lookup b6 = some ⟨.type "tuple", od_b6, .seq #[.int (0) ttb6_0, .int (60) ttb6_1] n_b6, sl_b6⟩)
  (ub7 : K.lookup b7 = some ⟨.type "tuple", od_b7, .seq #[.int (0) ttb7_0, .int (60) ttb7_1] n_b7, sl_b7⟩)
  : ∃ fd : FuncData, (∀ (s : Shared) (v : Value), BindsTo s fd ⟨[v], []⟩ [("_law_script", v)]) /\ ∀ base : Heap, K.In base -> base.Ns mainGlobals mg -> FnOk l.prog w K mg base CX0 11 fa fd ["_law_script"] (spLaw K) := by
 have e := hfa.symm.trans (PySem.W.mg_of X G aZ)
 cases e
 have FWh := fun_mk (st := sWh) lWh cWh kWh
 have FMd := fun_mk (st := sMd) lMd cMd kMd
 have FNm := fun_mk (st := sNm) lNm cNm kNm
 have FRo := fun_mk (st := sRo) lRo cRo kRo
 have FTo := fun_mk (st := sTo) lTo cTo kTo
 have FWi := fun_mk (st := sWi) lWi cWi kWi
 have FPa := fun_mk (st := sPa) lPa cPa kPa
 have FHp := fun_mk (st := sHp) lHp cHp kHp
 have FCl := fun_mk (st := sCl) lCl cCl kCl
 have FIk := fun_mk (st := sIk) lIk cIk kIk
 have FSb := fun_mk (st := sSb) lSb cSb kSb
 have FWm := fun_mk (st := sWm) lWm cWm kWm
 have FHr := fun_mk (st := sHr) lHr cHr kHr
 have FIr := fun_mk (st := sIr) lIr cIr kIr
 have FCk := fun_mk (st := sCk) lCk cCk kCk
 have FNu := fun_mk (st := sNu) lNu cNu kNu
 have FCa := fun_mk (st := sCa) lCa cCa kCa
 have FPl := fun_mk (st := sPl) lPl cPl kPl
 have FLi := fun_mk (st := sLi) lLi cLi kLi
 have FMy := fun_mk (st := sMy) lMy cMy kMy
 have FSt := fun_mk (st := sSt) lSt cSt kSt
 have FHa := fun_mk (st := sHa) lHa cHa kHa
 have FMe := fun_mk (st := sMe) lMe cMe kMe
 have FSh := fun_mk (st := sSh) lSh cSh kSh
 have FUn := fun_mk (st := sUn) lUn cUn kUn
 have FLe := fun_mk (st := sLe) lLe cLe kLe
 have FDc := fun_mk (st := sDc) lDc cDc kDc
 have FHk := fun_mk (st := sHk) lHk cHk kHk
 have FWa := fun_mk (st := sWa) lWa cWa kWa
 have FCq := fun_mk (st := sCq) lCq cCq kCq
 have FMu := fun_mk (st := sMu) lMu cMu kMu
 have FUk := fun_mk (st := sUk) lUk cUk kUk
 have FSk := fun_mk (st := sSk) lSk cSk kSk
 have FNb := fun_mk (st := sNb) lNb cNb kNb
 have FLl := fun_mk (st := sLl) lLl cLl kLl
 have FBs := fun_mk (st := sBs) lBs cBs kBs
 have FBa := fun_mk (st := sBa) lBa cBa kBa
 have FSo := fun_mk (st := sSo) lSo cSo kSo
 have FCe := fun_mk (st := sCe) lCe cCe kCe
 have FLw := fun_mk (st := sLw) lLw cLw kLw
 have FMx := fun_mk (st := sMx) lMx cMx kMx
 have FBi := fun_mk (st := sBi) lBi cBi kBi
 have FNa := fun_mk (st := sNa) lNa cNa kNa
 have FSz := fun_mk (st := sSz) lSz cSz kSz
 have FLn := fun_mk (st := sLn) lLn cLn kLn
 have FKn := fun_mk (st := sKn) lKn cKn kKn
 have FKs := fun_mk (st := sKs) lKs cKs kKs
 have FRw := fun_mk (st := sRw) lRw cRw kRw
 have FWd := fun_mk (st := sWd) lWd cWd kWd
 have FDr := fun_mk (st := sDr) lDr cDr kDr
 have FHd := fun_mk (st := sHd) lHd cHd kHd
 have FSn := fun_mk (st := sSn) lSn cSn kSn
 have FOi := fun_mk (st := sOi) lOi cOi kOi
 have FOb := fun_mk (st := sOb) lOb cOb kOb
 have FOc := fun_mk (st := sOc) lOc cOc kOc
 have FOk := fun_mk (st := sOk) lOk cOk kOk
 have FOo := fun_mk (st := sOo) lOo cOo kOo
 have FBk := fun_mk (st := sBk) lBk cBk kBk
 have FOp := fun_mk (st := sOp) lOp cOp kOp
 have FOr := fun_mk (st := sOr) lOr cOr kOr
 have FOq := fun_mk (st := sOq) lOq cOq kOq
 have FOe := fun_mk (st := sOe) lOe cOe kOe
 have FOs := fun_mk (st := sOs) lOs cOs kOs
 have FOm := fun_mk (st := sOm) lOm cOm kOm
 have FOz := fun_mk (st := sOz) lOz cOz kOz
 have FZ := fun_mk (st := sLaw) lZ cZ kZ
 have bWh := FWh.binds (ps := ["thing"]) fun _ _ _ _ _ _ us hl => match us, hl with | [_], _ => rfl
 have bMd := FMd.binds (ps := ["text", "signs", "most"]) fun _ _ _ _ _ _ us hl => match us, hl with | [_, _, _], _ => rfl
 have bNm := FNm.binds (ps := ["thing"]) fun _ _ _ _ _ _ us hl => match us, hl with | [_], _ => rfl
 have bRo := FRo.binds (ps := ["rows", "word"]) fun _ _ _ _ _ _ us hl => match us, hl with | [_, _], _ => rfl
 have bTo := FTo.binds (ps := ["rows", "word", "thing"]) fun _ _ _ _ _ _ us hl => match us, hl with | [_, _, _], _ => rfl
 have bWi := FWi.binds (ps := ["thing", "bounds"]) fun _ _ _ _ _ _ us hl => match us, hl with | [_, _], _ => rfl
 have bPa := FPa.binds (ps := ["thing", "part", "ahead"]) fun _ _ _ _ _ _ us hl => match us, hl with | [_, _, _], _ => rfl
 have bHp := FHp.binds (ps := ["row", "ahead"]) fun _ _ _ _ _ _ us hl => match us, hl with | [_, _], _ => rfl
 have bCl := FCl.binds (ps := ["rows"]) fun _ _ _ _ _ _ us hl => match us, hl with | [_], _ => rfl
 have bIk := FIk.binds (ps := ["number", "board", "ahead"]) fun _ _ _ _ _ _ us hl => match us, hl with | [_, _, _], _ => rfl
 have bSb := FSb.binds (ps := ["line", "ahead"]) fun _ _ _ _ _ _ us hl => match us, hl with | [_, _], _ => rfl
 have bWm := FWm.binds (ps := ["row", "ahead"]) fun _ _ _ _ _ _ us hl => match us, hl with | [_, _], _ => rfl
 have bHr := FHr.binds (ps := ["word", "ahead"]) fun _ _ _ _ _ _ us hl => match us, hl with | [_, _], _ => rfl
 have bIr := FIr.binds (ps := ["thing", "ahead"]) fun _ _ _ _ _ _ us hl => match us, hl with | [_, _], _ => rfl
 have bCk := FCk.binds (ps := ["rows"]) fun _ _ _ _ _ _ us hl => match us, hl with | [_], _ => rfl
 have bNu := FNu.binds (ps := ["names"]) fun _ _ _ _ _ _ us hl => match us, hl with | [_], _ => rfl
 have bCa := FCa.binds (ps := ["things"]) fun _ _ _ _ _ _ us hl => match us, hl with | [_], _ => rfl
 have bPl := FPl.binds (ps := ["things"]) fun _ _ _ _ _ _ us hl => match us, hl with | [_], _ => rfl
 have bLi := FLi.binds (ps := ["rows", "rank_numbers"]) fun _ _ _ _ _ _ us hl => match us, hl with | [_, _], _ => rfl
 have bMy := FMy.binds (ps := ["thing"]) fun _ _ _ _ _ _ us hl => match us, hl with | [_], _ => rfl
 have bSt := FSt.binds (ps := ["numbers"]) fun _ _ _ _ _ _ us hl => match us, hl with | [_], _ => rfl
 have bHa := FHa.binds (ps := ["some", "number"]) fun _ _ _ _ _ _ us hl => match us, hl with | [_, _], _ => rfl
 have bMe := FMe.binds (ps := ["some"]) fun _ _ _ _ _ _ us hl => match us, hl with | [_], _ => rfl
 have bSh := FSh.binds (ps := ["some", "steps", "count"]) fun _ _ _ _ _ _ us hl => match us, hl with | [_, _, _], _ => rfl
 have bUn := FUn.binds (ps := ["sets"]) fun _ _ _ _ _ _ us hl => match us, hl with | [_], _ => rfl
 have bLe := FLe.binds (ps := ["organ", "knob", "key"]) fun _ _ _ _ _ _ us hl => match us, hl with | [_, _, _], _ => rfl
 have bDc := FDc.binds (ps := ["organ", "knobs", "word"]) fun _ _ _ _ _ _ us hl => match us, hl with | [_, _, _], _ => rfl
 have bHk := FHk.binds (ps := ["organ", "held"]) fun _ _ _ _ _ _ us hl => match us, hl with | [_, _], _ => rfl
 have bWa := FWa.binds (ps := ["organ", "knobs", "held"]) fun _ _ _ _ _ _ us hl => match us, hl with | [_, _, _], _ => rfl
 have bCq := FCq.binds (ps := ["organ", "knobs", "held"]) fun _ _ _ _ _ _ us hl => match us, hl with | [_, _, _], _ => rfl
 have bMu := FMu.binds (ps := ["organ", "knobs"]) fun _ _ _ _ _ _ us hl => match us, hl with | [_, _], _ => rfl
 have bUk := FUk.binds (ps := ["organ", "knobs", "keys"]) fun _ _ _ _ _ _ us hl => match us, hl with | [_, _, _], _ => rfl
 have bSk := FSk.binds (ps := ["organ", "knobs", "held"]) fun _ _ _ _ _ _ us hl => match us, hl with | [_, _, _], _ => rfl
 have bNb := FNb.binds (ps := ["organ", "board", "keys"]) fun _ _ _ _ _ _ us hl => match us, hl with | [_, _, _], _ => rfl
 have bLl := FLl.binds (ps := ["organ", "line", "numbers"]) fun _ _ _ _ _ _ us hl => match us, hl with | [_, _, _], _ => rfl
 have bBs := FBs.binds (ps := ["organ", "knob", "keys"]) fun _ _ _ _ _ _ us hl => match us, hl with | [_, _, _], _ => rfl
 have bBa := FBa.binds (ps := ["organ", "knobs", "keys"]) fun _ _ _ _ _ _ us hl => match us, hl with | [_, _, _], _ => rfl
 have bSo := FSo.binds (ps := ["organ", "knobs", "held"]) fun _ _ _ _ _ _ us hl => match us, hl with | [_, _, _], _ => rfl
 have bCe := FCe.binds (ps := ["_law_script", "_law_k"]) fun _ _ _ _ _ _ us hl => match us, hl with | [_, _], _ => rfl
 have bLw := FLw.binds (ps := ["_law_found"]) fun _ _ _ _ _ _ us hl => match us, hl with | [_], _ => rfl
 have bMx := FMx.binds (ps := ["_law_cell", "_law_k"]) fun _ _ _ _ _ _ us hl => match us, hl with | [_, _], _ => rfl
 have bBi := FBi.binds (ps := ["_law_numbers"]) fun _ _ _ _ _ _ us hl => match us, hl with | [_], _ => rfl
 have bNa := FNa.binds (ps := ["_law_cell", "_law_k"]) fun _ _ _ _ _ _ us hl => match us, hl with | [_, _], _ => rfl
 have bSz := FSz.binds (ps := ["_law_cell", "_law_many", "_law_most"]) fun _ _ _ _ _ _ us hl => match us, hl with | [_, _, _], _ => rfl
 have bLn := FLn.binds (ps := ["_law_cell", "_law_size", "_law_pipes"]) fun _ _ _ _ _ _ us hl => match us, hl with | [_, _, _], _ => rfl
 have bKn := FKn.binds (ps := ["_law_cell", "_law_sizes_here", "_law_pipes"]) fun _ _ _ _ _ _ us hl => match us, hl with | [_, _, _], _ => rfl
 have bKs := FKs.binds (ps := ["_law_cells", "_law_sizes_here", "_law_pipes"]) fun _ _ _ _ _ _ us hl => match us, hl with | [_, _, _], _ => rfl
 have bRw := FRw.binds (ps := ["_law_cell", "_law_sizes_here", "_law_pipes", "_law_knobs_here"]) fun _ _ _ _ _ _ us hl => match us, hl with | [_, _, _, _], _ => rfl
 have bWd := FWd.binds (ps := ["_law_script"]) fun _ _ _ _ _ _ us hl => match us, hl with | [_], _ => rfl
 have bDr := FDr.binds (ps := ["_law_cell", "_law_count"]) fun _ _ _ _ _ _ us hl => match us, hl with | [_, _], _ => rfl
 have bHd := FHd.binds (ps := ["_law_cell", "_law_count"]) fun _ _ _ _ _ _ us hl => match us, hl with | [_, _], _ => rfl
 have bSn := FSn.binds (ps := ["_law_organ", "_law_drawn_here", "_law_held_here"]) fun _ _ _ _ _ _ us hl => match us, hl with | [_, _, _], _ => rfl
 have bOi := FOi.binds (ps := ["self", "rows"]) fun _ _ _ _ _ _ us hl => match us, hl with | [_, _], _ => rfl
 have bOb := FOb.binds (ps := ["self"]) fun _ _ _ _ _ _ us hl => match us, hl with | [_], _ => rfl
 have bOc := FOc.binds (ps := ["self"]) fun _ _ _ _ _ _ us hl => match us, hl with | [_], _ => rfl
 have bOk := FOk.binds (ps := ["self", "board", "number"]) fun _ _ _ _ _ _ us hl => match us, hl with | [_, _, _], _ => rfl
 have bOo := FOo.binds (ps := ["self", "key"]) fun _ _ _ _ _ _ us hl => match us, hl with | [_, _], _ => rfl
 have bBk := FBk.binds (ps := ["self", "knob"]) fun _ _ _ _ _ _ us hl => match us, hl with | [_, _], _ => rfl
 have bOp := FOp.binds (ps := ["self", "knob"]) fun _ _ _ _ _ _ us hl => match us, hl with | [_, _], _ => rfl
 have bOr := FOr.binds (ps := ["self"]) fun _ _ _ _ _ _ us hl => match us, hl with | [_], _ => rfl
 have bOq := FOq.binds (ps := ["self"]) fun _ _ _ _ _ _ us hl => match us, hl with | [_], _ => rfl
 have bOe := FOe.binds (ps := ["self", "rank", "number"]) fun _ _ _ _ _ _ us hl => match us, hl with | [_, _, _], _ => rfl
 have bOs := FOs.binds (ps := ["self", "knob"]) fun _ _ _ _ _ _ us hl => match us, hl with | [_, _], _ => rfl
 have bOm := FOm.binds (ps := ["self", "knob"]) fun _ _ _ _ _ _ us hl => match us, hl with | [_, _], _ => rfl
 have bOz := FOz.binds (ps := ["self"]) fun _ _ _ _ _ _ us hl => match us, hl with | [_], _ => rfl
 have gN : KTup K aN [.str "board", .str "rank", .str "stop", .str "coupler", .str "mute"] := (⟨_, _, _, uN, rfl, rfl, by show 5 <= sizeLine; decide, .cons ⟨_, rfl⟩ (.cons ⟨_, rfl⟩ (.cons ⟨_, rfl⟩ (.cons ⟨_, rfl⟩ (.cons ⟨_, rfl⟩ (.nil)))))⟩)
 have gK : KTup K aK [.str "stop", .str "coupler", .str "mute"] := (⟨_, _, _, uK, rfl, rfl, by show 3 <= sizeLine; decide, .cons ⟨_, rfl⟩ (.cons ⟨_, rfl⟩ (.cons ⟨_, rfl⟩ (.nil)))⟩)
 have gp1 : KTup K p1 [.str "new", .str "keys"] := (⟨_, _, _, up1, rfl, rfl, by show 2 <= sizeLine; decide, .cons ⟨_, rfl⟩ (.cons ⟨_, rfl⟩ (.nil))⟩)
 have gp2 : KTup K p2 [.str "new", .str "board"] := (⟨_, _, _, up2, rfl, rfl, by show 2 <= sizeLine; decide, .cons ⟨_, rfl⟩ (.cons ⟨_, rfl⟩ (.nil))⟩)
 have gp3 : KTup K p3 [.str "new", .str "board"] := (⟨_, _, _, up3, rfl, rfl, by show 2 <= sizeLine; decide, .cons ⟨_, rfl⟩ (.cons ⟨_, rfl⟩ (.nil))⟩)
 have gp4 : KTup K p4 [.str "new", .str "board", .str "board", .str "leap"] := (⟨_, _, _, up4, rfl, rfl, by show 4 <= sizeLine; decide, .cons ⟨_, rfl⟩ (.cons ⟨_, rfl⟩ (.cons ⟨_, rfl⟩ (.cons ⟨_, rfl⟩ (.nil))))⟩)
 have gp5 : KTup K p5 [.str "new", .str "pipes", .str "wind"] := (⟨_, _, _, up5, rfl, rfl, by show 3 <= sizeLine; decide, .cons ⟨_, rfl⟩ (.cons ⟨_, rfl⟩ (.cons ⟨_, rfl⟩ (.nil)))⟩)
 have gp6 : KTup K p6 [.str "rank", .str "shift", .str "low", .str "high"] := (⟨_, _, _, up6, rfl, rfl, by show 4 <= sizeLine; decide, .cons ⟨_, rfl⟩ (.cons ⟨_, rfl⟩ (.cons ⟨_, rfl⟩ (.cons ⟨_, rfl⟩ (.nil))))⟩)
 have gb1 : KTup K b1 [.int (1), .int (61)] := (⟨_, _, _, ub1, rfl, rfl, by show 2 <= sizeLine; decide, .cons ⟨_, rfl⟩ (.cons ⟨_, rfl⟩ (.nil))⟩)
 have gb2 : KTup K b2 [.int (-60), .int (60)] := (⟨_, _, _, ub2, rfl, rfl, by show 2 <= sizeLine; decide, .cons ⟨_, rfl⟩ (.cons ⟨_, rfl⟩ (.nil))⟩)
 have gb3 : KTup K b3 [.int (1), .int (97)] := (⟨_, _, _, ub3, rfl, rfl, by show 2 <= sizeLine; decide, .cons ⟨_, rfl⟩ (.cons ⟨_, rfl⟩ (.nil))⟩)
 have gb4 : KTup K b4 [.int (0), .int (1000000000)] := (⟨_, _, _, ub4, rfl, rfl, by show 2 <= sizeLine; decide, .cons ⟨_, rfl⟩ (.cons ⟨_, rfl⟩ (.nil))⟩)
 have gb5 : KTup K b5 [.int (-200), .int (200)] := (⟨_, _, _, ub5, rfl, rfl, by show 2 <= sizeLine; decide, .cons ⟨_, rfl⟩ (.cons ⟨_, rfl⟩ (.nil))⟩)
 have gb6 : KTup K b6 [.int (0), .int (60)] := (⟨_, _, _, ub6, rfl, rfl, by show 2 <= sizeLine; decide, .cons ⟨_, rfl⟩ (.cons ⟨_, rfl⟩ (.nil))⟩)
 have gb7 : KTup K b7 [.int (0), .int (60)] := (⟨_, _, _, ub7, rfl, rfl, by show 2 <= sizeLine; decide, .cons ⟨_, rfl⟩ (.cons ⟨_, rfl⟩ (.nil))⟩)
 have F0 : KF2 K aB aP aM := ⟨⟨⟨_, qp1, gp1⟩, ⟨_, qp2, gp2⟩, ⟨_, qp3, gp3⟩, ⟨_, qp4, gp4⟩, ⟨_, qb1, gb1⟩, ⟨_, qb2, gb2⟩, qn, qb, ⟨_, qm1⟩, ⟨_, qm2⟩, ⟨_, qm3⟩, ⟨_, qm4⟩⟩, ⟨_, qp5, gp5⟩, ⟨_, qp6, gp6⟩, ⟨_, qb3, gb3⟩, ⟨_, qb4, gb4⟩, ⟨_, qb5, gb5⟩, ⟨_, qb6, gb6⟩, ⟨_, qb7, gb7⟩, qr, ⟨_, qm5⟩, ql⟩
 have T : Txt K w.params mg C aN aK aB aP aM := ⟨PySem.W.mg_none_of X G zlen, PySem.W.mg_none_of X G zisinstance, PySem.W.mg_none_of X G zint, PySem.W.mg_none_of X G zbool, PySem.W.mg_none_of X G zstr, PySem.W.mg_none_of X G zlist, PySem.W.mg_none_of X G ztuple, PySem.W.mg_none_of X G zall, PySem.W.mg_none_of X G zany, PySem.W.mg_none_of X G zsum, PySem.W.mg_none_of X G zrange, PySem.W.mg_none_of X G zzip, PySem.W.mg_none_of X G zenumerate, PySem.W.mg_none_of X G zmax, PySem.W.mg_none_of X G zreversed, ⟨_, PySem.W.mg_of X G zLET⟩, ⟨_, PySem.W.mg_of X G zML⟩, ⟨_, PySem.W.mg_of X G zMR⟩, ⟨_, PySem.W.mg_of X G zMLn⟩, ⟨_, PySem.W.mg_of X G zMB⟩, PySem.W.mg_of X G rN, PySem.W.mg_of X G rK, PySem.W.mg_of X G rB, PySem.W.mg_of X G rP, PySem.W.mg_of X G rM, gN, gK, ⟨⟨_, _, dB, kB⟩, oB⟩, ⟨⟨_, _, dP, kP⟩, oP⟩, ⟨⟨_, _, dM, kM⟩, oM⟩, ⟨pg, hd, po, sa⟩, PySem.W.mg_of X G aC, n_row_list_, n_board_list_, n_rank_list_, n_knob_rows_, n_board_numbers_, n_rank_numbers_, n_knob_numbers_, n_key_places_, n_pipe_places_, n_knob_lines_, n_step_sets_⟩
 have N : Fns K mg C fWh fMd fNm fRo fTo fWi fPa fHp fCl fIk fSb fWm fHr fIr fCk fNu fCa fPl fLi fMy fSt fHa fMe fSh fUn fLe fDc fHk fWa fCq fMu fUk fSk fNb fLl fBs fBa fSo fCe fLw fMx fBi fNa fSz fLn fKn fKs fRw fWd fDr fHd fSn fOi fOb fOc fOk fOo fBk fOp fOr fOq fOe fOs fOm fOz _ _ _ _ _ _ _ _ _ _ _ _ _ _ _ _ _ _ _ _ _ _ _ _ _ _ _ _ _ _ _ _ _ _ _ _ _ _ _ _ _ _ _ _ _ _ _ _ _ _ _ _ _ _ _ _ _ _ _ _ _ _ _ _ _ := ⟨FWh, FMd, FNm, FRo, FTo, FWi, FPa, FHp, FCl, FIk, FSb, FWm, FHr, FIr, FCk, FNu, FCa, FPl, FLi, FMy, FSt, FHa, FMe, FSh, FUn, FLe, FDc, FHk, FWa, FCq, FMu, FUk, FSk, FNb, FLl, FBs, FBa, FSo, FCe, FLw, FMx, FBi, FNa, FSz, FLn, FKn, FKs, FRw, FWd, FDr, FHd, FSn, FOi, FOb, FOc, FOk, FOo, FBk, FOp, FOr, FOq, FOe, FOs, FOm, FOz, bWh, bMd, bNm, bRo, bTo, bWi, bPa, bHp, bCl, bIk, bSb, bWm, bHr, bIr, bCk, bNu, bCa, bPl, bLi, bMy, bSt, bHa, bMe, bSh, bUn, bLe, bDc, bHk, bWa, bCq, bMu, bUk, bSk, bNb, bLl, bBs, bBa, bSo, bCe, bLw, bMx, bBi, bNa, bSz, bLn, bKn, bKs, bRw, bWd, bDr, bHd, bSn, bOi, bOb, bOc, bOk, bOo, bBk, bOp, bOr, bOq, bOe, bOs, bOm, bOz, PySem.W.mg_of X G aWh, PySem.W.mg_of X G aMd, PySem.W.mg_of X G aNm, PySem.W.mg_of X G aRo, PySem.W.mg_of X G aTo, PySem.W.mg_of X G aWi, PySem.W.mg_of X G aPa, PySem.W.mg_of X G aHp, PySem.W.mg_of X G aCl, PySem.W.mg_of X G aIk, PySem.W.mg_of X G aSb, PySem.W.mg_of X G aWm, PySem.W.mg_of X G aHr, PySem.W.mg_of X G aIr, PySem.W.mg_of X G aCk, PySem.W.mg_of X G aNu, PySem.W.mg_of X G aCa, PySem.W.mg_of X G aPl, PySem.W.mg_of X G aLi, PySem.W.mg_of X G aMy, PySem.W.mg_of X G aSt, PySem.W.mg_of X G aHa, PySem.W.mg_of X G aMe, PySem.W.mg_of X G aSh, PySem.W.mg_of X G aUn, PySem.W.mg_of X G aLe, PySem.W.mg_of X G aDc, PySem.W.mg_of X G aHk, PySem.W.mg_of X G aWa, PySem.W.mg_of X G aCq, PySem.W.mg_of X G aMu, PySem.W.mg_of X G aUk, PySem.W.mg_of X G aSk, PySem.W.mg_of X G aNb, PySem.W.mg_of X G aLl, PySem.W.mg_of X G aBs, PySem.W.mg_of X G aBa, PySem.W.mg_of X G aSo, PySem.W.mg_of X G aCe, PySem.W.mg_of X G aLw, PySem.W.mg_of X G aMx, PySem.W.mg_of X G aBi, PySem.W.mg_of X G aNa, PySem.W.mg_of X G aSz, PySem.W.mg_of X G aLn, PySem.W.mg_of X G aKn, PySem.W.mg_of X G aKs, PySem.W.mg_of X G aRw, PySem.W.mg_of X G aWd, PySem.W.mg_of X G aDr, PySem.W.mg_of X G aHd, PySem.W.mg_of X G aSn, ⟨aOb, iOb, kOb⟩, ⟨aOc, iOc, kOc⟩, ⟨aOk, iOk, kOk⟩, ⟨aOo, iOo, kOo⟩, ⟨aBk, iBk, kBk⟩, ⟨aOp, iOp, kOp⟩, ⟨aOr, iOr, kOr⟩, ⟨aOq, iOq, kOq⟩, ⟨aOe, iOe, kOe⟩, ⟨aOs, iOs, kOs⟩, ⟨aOm, iOm, kOm⟩, ⟨aOz, iOz, kOz⟩, ⟨mkC, aOi, iOi, kc⟩⟩
 exact ⟨PySem.W.fnOf "law" "law" (defArgs sLaw) (defBody sLaw) (defScope sLaw) .none kVZ dcZ pmZ anZ cdZ ctZ, fun s v => .of_eq rfl, fun base _ _ => ok_law FZ N T F0⟩
theorem walk {l : PySem.W.OpenLaw} {q : Program} {loose : List Str} {XP : (Str -> Option Value) -> Heap -> Prop} {YP : World -> Heap -> Prop} {d : DefRec} {K : Params -> PySem.W.Frag} (hn : l.most = some 63) (hdf : d.params.defaults = [])
  (hY : ∀ (w : World) (h : Heap), YP w h -> (K w.params).In h)
  (F : ∀ (w : World) (mg : Str -> Option Value) (fa : Addr) (h : Heap), (K w.params).In h -> h.Ns mainGlobals mg -> mg d.name = some (.ref fa) ->
   ∃ fd : FuncData, (∀ (s : Shared) (u : Value), BindsTo s fd ⟨[u], []⟩ [("_law_script", u)]) /\ ∀ base : Heap, (K w.params).In base -> base.Ns mainGlobals mg -> FnOk l.prog w (K w.params) mg base CX0 11 fa fd ["_law_script"] (spLaw (K w.params))) :
  PySem.W.WalkO q loose XP YP l.row.toRowW d [] (fun f vs => PySem.call f vs) :=
 L2.walk_of (n := 63) (k := 11) (x := "_law_script") (CX := fun _ => CX0) (sp := fun w => spLaw (K w.params)) hn (by decide) hdf ⟨rfl, by decide, by decide⟩ hY F (fun _ _ a ns hl _ hS => ⟨a, ns, rfl, hS, hl, fun _ => rfl⟩) fun _ _ _ _ _ z => z
end K25
open PySem PySem.W PyProof.Rows
def PySem.W.Fast.tw12856382484087694969 : Unit := ()
def PySem.W.Fast.tw13599469346595076504 : Unit := ()
def PySem.W.Fast.tw15439999105797016137 : Unit := ()
def PySem.W.Fast.tw46117168841029408 : Unit := ()
def PySem.W.Fast.tw1479093545038238657 : Unit := ()
def PySem.W.Fast.tw7916996657941674045 : Unit := ()
def PySem.W.Fast.tw11317813375765287377 : Unit := ()
def PySem.W.Fast.tw17906682454204868442 : Unit := ()
def PySem.W.Fast.tw12805779688560155375 : Unit := ()
def PySem.W.Fast.tw17966594631783258164 : Unit := ()
def PySem.W.Fast.tw503379802045442386 : Unit := ()
def PySem.W.Fast.tw9738265530536941631 : Unit := ()
def PySem.W.Fast.tw10494245792076069542 : Unit := ()
def PySem.W.Fast.tw9826116135608899093 : Unit := ()
def PySem.W.Fast.tw5071253614122510773 : Unit := ()
def PySem.W.Fast.tw16428286706212962538 : Unit := ()
def PySem.W.Fast.tw18246000990140848210 : Unit := ()
def PySem.W.Fast.tw4930309285991389479 : Unit := ()
def PySem.W.Fast.tw14012062352233202843 : Unit := ()
def PySem.W.Fast.tw15456046708066186615 : Unit := ()
def PySem.W.Fast.tw13219976949043562833 : Unit := ()
def PySem.W.Fast.tw4480692113642592884 : Unit := ()
def PySem.W.Fast.tw12292926918021305303 : Unit := ()
def PySem.W.Fast.tw6513711932751585066 : Unit := ()
def PySem.W.Fast.tw11871376518895180818 : Unit := ()
def PySem.W.Fast.tw7325547521430970295 : Unit := ()
def PySem.W.Fast.tw58303521684730960 : Unit := ()
def PySem.W.Fast.tw2681547210836868327 : Unit := ()
def PySem.W.Fast.tw17411907736107412078 : Unit := ()
def PySem.W.Fast.tw17703950154053526278 : Unit := ()
def PySem.W.Fast.tw11070844789613639350 : Unit := ()
def PySem.W.Fast.tw3126058173478208956 : Unit := ()
def PySem.W.Fast.tw7330617829353709909 : Unit := ()
def PySem.W.Fast.tw8963008638754957402 : Unit := ()
def PySem.W.Fast.tw5061011761599697499 : Unit := ()
def PySem.W.Fast.tw3063974056247189504 : Unit := ()
def PySem.W.Fast.tw2632438455170918076 : Unit := ()
def PySem.W.Fast.tw14722891467069012677 : Unit := ()
def PySem.W.Fast.tw6080842663523984561 : Unit := ()
def PySem.W.Fast.tw15533698498805837608 : Unit := ()
def PySem.W.Fast.tw1226988149614701065 : Unit := ()
def PySem.W.Fast.tw14725983473530210239 : Unit := ()
def PySem.W.Fast.tw7975096974693894409 : Unit := ()
def PySem.W.Fast.tw6613576522061594838 : Unit := ()
def PySem.W.Fast.tw14899553919027761644 : Unit := ()
def PySem.W.Fast.tw12896187472294590771 : Unit := ()
def PySem.W.Fast.tw9458045045351692890 : Unit := ()
def PySem.W.Fast.tw11755979791907872343 : Unit := ()
def PySem.W.Fast.tw9987610568021927966 : Unit := ()
def PySem.W.Fast.tw3874885195134261275 : Unit := ()
def PySem.W.Fast.tw7628796628965691699 : Unit := ()
def PySem.W.Fast.tw16145071656497164661 : Unit := ()
def PySem.W.Fast.tw4974775930531277478 : Unit := ()
def PySem.W.Fast.tw6306005905416978203 : Unit := ()
def PySem.W.Fast.tw6069465151541308647 : Unit := ()
def PySem.W.Fast.tw4659301014616880039 : Unit := ()
def PySem.W.Fast.tw12671890196406189484 : Unit := ()
def PySem.W.Fast.tw2291403870349497765 : Unit := ()
def PySem.W.Fast.tw1968923254660168371 : Unit := ()
def PySem.W.Fast.tw16884324153579874587 : Unit := ()
def PySem.W.Fast.tw1512509979190336659 : Unit := ()
def PySem.W.Fast.tw15626931434644047671 : Unit := ()
def PySem.W.Fast.tw7664184979094513788 : Unit := ()
def PySem.W.Fast.tw14092381534352217649 : Unit := ()
def PySem.W.Fast.tw1950082149927018012 : Unit := ()
def PySem.W.Fast.tw10575238944111410090 : Unit := ()
def PySem.W.Fast.tw2961208671510749944 : Unit := ()
def PySem.W.Fast.tw16986841786089448049 : Unit := ()
def PySem.W.Fast.tw10621525239853952636 : Unit := ()
def PySem.W.Fast.tw13140892653776366379 : Unit := ()
def PySem.W.Fast.tw5940615388207290572 : Unit := ()
def PySem.W.Fast.tw5452844964906635047 : Unit := ()
def PySem.W.Fast.tw1075606655715801025 : Unit := ()
def PySem.W.Fast.tw11344622846751531048 : Unit := ()
def PySem.W.Fast.tw10978574675693679636 : Unit := ()
def PySem.W.Fast.tw17135373689662319388 : Unit := ()
def PySem.W.Fast.tw8026976104988007455 : Unit := ()
def PySem.W.Fast.tw13581244883415049590 : Unit := ()
def PySem.W.Fast.tw8327713767810133167 : Unit := ()
def PySem.W.Fast.tw18389578025047628882 : Unit := ()
def PySem.W.Fast.tw16835949113673535452 : Unit := ()
def PySem.W.Fast.tw207610944268197572 : Unit := ()
def PySem.W.Fast.tw7952832673972568917 : Unit := ()
def PySem.W.Fast.tw13220452012555773738 : Unit := ()
def PySem.W.Fast.tw9652312673633248051 : Unit := ()
set_option maxRecDepth 100000 in
set_option maxHeartbeats 0 in
theorem PySem.Challenge.cw_windchest_k25_whole_put_together_holds : PySem.Challenge.rw_windchest_k25_whole_put_together.Holds := by
 w_on; o_law; k_head; (case hw => w_witness2)
 k_fill
 refine K25.walk (l := PySem.Challenge.rw_windchest_k25_whole_put_together) rfl rfl (fun w h Y => PySem.W.kIn_of Y) ?F
 case F =>
  intro w mg fa h KX G hmg
  refine' K25.all_mk KX G hmg ?aWh ?lWh ?cWh ?kWh ?aMd ?lMd ?cMd ?kMd ?aNm ?lNm ?cNm ?kNm ?aRo ?lRo ?cRo ?kRo ?aTo ?lTo ?cTo ?kTo ?aWi ?lWi ?cWi ?kWi ?aPa ?lPa ?cPa ?kPa ?aHp ?lHp ?cHp ?kHp ?aCl ?lCl ?cCl ?kCl ?aIk ?lIk ?cIk ?kIk ?aSb ?lSb ?cSb ?kSb ?aWm ?lWm ?cWm ?kWm ?aHr ?lHr ?cHr ?kHr ?aIr ?lIr ?cIr ?kIr ?aCk ?lCk ?cCk ?kCk ?aNu ?lNu ?cNu ?kNu ?aCa ?lCa ?cCa ?kCa ?aPl ?lPl ?cPl ?kPl ?aLi ?lLi ?cLi ?kLi ?aMy ?lMy ?cMy ?kMy ?aSt ?lSt ?cSt ?kSt ?aHa ?lHa ?cHa ?kHa ?aMe ?lMe ?cMe ?kMe ?aSh ?lSh ?cSh ?kSh ?aUn ?lUn ?cUn ?kUn ?aLe ?lLe ?cLe ?kLe ?aDc ?lDc ?cDc ?kDc ?aHk ?lHk ?cHk ?kHk ?aWa ?lWa ?cWa ?kWa ?aCq ?lCq ?cCq ?kCq ?aMu ?lMu ?cMu ?kMu ?aUk ?lUk ?cUk ?kUk ?aSk ?lSk ?cSk ?kSk ?aNb ?lNb ?cNb ?kNb ?aLl ?lLl ?cLl ?kLl ?aBs ?lBs ?cBs ?kBs ?aBa ?lBa ?cBa ?kBa ?aSo ?lSo ?cSo ?kSo ?aCe ?lCe ?cCe ?kCe ?aLw ?lLw ?cLw ?kLw ?aMx ?lMx ?cMx ?kMx ?aBi ?lBi ?cBi ?kBi ?aNa ?lNa ?cNa ?kNa ?aSz ?lSz ?cSz ?kSz ?aLn ?lLn ?cLn ?kLn ?aKn ?lKn ?cKn ?kKn ?aKs ?lKs ?cKs ?kKs ?aRw ?lRw ?cRw ?kRw ?aWd ?lWd ?cWd ?kWd ?aDr ?lDr ?cDr ?kDr ?aHd ?lHd ?cHd ?kHd ?aSn ?lSn ?cSn ?kSn ?aZ ?lZ ?cZ ?kZ ?aC ?aOi ?iOi ?lOi ?cOi ?kOi ?aOb ?iOb ?lOb ?cOb ?kOb ?aOc ?iOc ?lOc ?cOc ?kOc ?aOk ?iOk ?lOk ?cOk ?kOk ?aOo ?iOo ?lOo ?cOo ?kOo ?aBk ?iBk ?lBk ?cBk ?kBk ?aOp ?iOp ?lOp ?cOp ?kOp ?aOr ?iOr ?lOr ?cOr ?kOr ?aOq ?iOq ?lOq ?cOq ?kOq ?aOe ?iOe ?lOe ?cOe ?kOe ?aOs ?iOs ?lOs ?cOs ?kOs ?aOm ?iOm ?lOm ?cOm ?kOm ?aOz ?iOz ?lOz ?cOz ?kOz ?pg ?hd ?po ?sa ?mkC ?kc ?n_row_list_ ?n_board_list_ ?n_rank_list_ ?n_knob_rows_ ?n_board_numbers_ ?n_rank_numbers_ ?n_knob_numbers_ ?n_key_places_ ?n_pipe_places_ ?n_knob_lines_ ?n_step_sets_ ?zlen ?zisinstance ?zint ?zbool ?zstr ?zlist ?ztuple ?zall ?zany ?zsum ?zrange ?zzip ?zenumerate ?zmax ?zreversed ?zLET ?zML ?zMR ?zMLn ?zMB ?rN ?rK ?rB ?rP ?rM ?dB ?kB ?oB ?dP ?kP ?oP ?dM ?kM ?oM ?qp1 ?qp2 ?qp3 ?qp4 ?qp5 ?qp6 ?qb1 ?qb2 ?qb3 ?qb4 ?qb5 ?qb6 ?qb7 ?qn ?qb ?qr ?ql ?qm1 ?qm2 ?qm3 ?qm4 ?qm5 ?uN ?uK ?up1 ?up2 ?up3 ?up4 ?up5 ?up6 ?ub1 ?ub2 ?ub3 ?ub4 ?ub5 ?ub6 ?ub7
  (case aWh => k_is)
  (case lWh => k_is)
  (case cWh => k_is)
  (case kWh => k_is)
  (case aMd => k_is)
  (case lMd => k_is)
  (case cMd => k_is)
  (case kMd => k_is)
  (case aNm => k_is)
  (case lNm => k_is)
  (case cNm => k_is)
  (case kNm => k_is)
  (case aRo => k_is)
  (case lRo => k_is)
  (case cRo => k_is)
  (case kRo => k_is)
  (case aTo => k_is)
  (case lTo => k_is)
  (case cTo => k_is)
  (case kTo => k_is)
  (case aWi => k_is)
  (case lWi => k_is)
  (case cWi => k_is)
  (case kWi => k_is)
  (case aPa => k_is)
  (case lPa => k_is)
  (case cPa => k_is)
  (case kPa => k_is)
  (case aHp => k_is)
  (case lHp => k_is)
  (case cHp => k_is)
  (case kHp => k_is)
  (case aCl => k_is)
  (case lCl => k_is)
  (case cCl => k_is)
  (case kCl => k_is)
  (case aIk => k_is)
  (case lIk => k_is)
  (case cIk => k_is)
  (case kIk => k_is)
  (case aSb => k_is)
  (case lSb => k_is)
  (case cSb => k_is)
  (case kSb => k_is)
  (case aWm => k_is)
  (case lWm => k_is)
  (case cWm => k_is)
  (case kWm => k_is)
  (case aHr => k_is)
  (case lHr => k_is)
  (case cHr => k_is)
  (case kHr => k_is)
  (case aIr => k_is)
  (case lIr => k_is)
  (case cIr => k_is)
  (case kIr => k_is)
  (case aCk => k_is)
  (case lCk => k_is)
  (case cCk => k_is)
  (case kCk => k_is)
  (case aNu => k_is)
  (case lNu => k_is)
  (case cNu => k_is)
  (case kNu => k_is)
  (case aCa => k_is)
  (case lCa => k_is)
  (case cCa => k_is)
  (case kCa => k_is)
  (case aPl => k_is)
  (case lPl => k_is)
  (case cPl => k_is)
  (case kPl => k_is)
  (case aLi => k_is)
  (case lLi => k_is)
  (case cLi => k_is)
  (case kLi => k_is)
  (case aMy => k_is)
  (case lMy => k_is)
  (case cMy => k_is)
  (case kMy => k_is)
  (case aSt => k_is)
  (case lSt => k_is)
  (case cSt => k_is)
  (case kSt => k_is)
  (case aHa => k_is)
  (case lHa => k_is)
  (case cHa => k_is)
  (case kHa => k_is)
  (case aMe => k_is)
  (case lMe => k_is)
  (case cMe => k_is)
  (case kMe => k_is)
  (case aSh => k_is)
  (case lSh => k_is)
  (case cSh => k_is)
  (case kSh => k_is)
  (case aUn => k_is)
  (case lUn => k_is)
  (case cUn => k_is)
  (case kUn => k_is)
  (case aLe => k_is)
  (case lLe => k_is)
  (case cLe => k_is)
  (case kLe => k_is)
  (case aDc => k_is)
  (case lDc => k_is)
  (case cDc => k_is)
  (case kDc => k_is)
  (case aHk => k_is)
  (case lHk => k_is)
  (case cHk => k_is)
  (case kHk => k_is)
  (case aWa => k_is)
  (case lWa => k_is)
  (case cWa => k_is)
  (case kWa => k_is)
  (case aCq => k_is)
  (case lCq => k_is)
  (case cCq => k_is)
  (case kCq => k_is)
  (case aMu => k_is)
  (case lMu => k_is)
  (case cMu => k_is)
  (case kMu => k_is)
  (case aUk => k_is)
  (case lUk => k_is)
  (case cUk => k_is)
  (case kUk => k_is)
  (case aSk => k_is)
  (case lSk => k_is)
  (case cSk => k_is)
  (case kSk => k_is)
  (case aNb => k_is)
  (case lNb => k_is)
  (case cNb => k_is)
  (case kNb => k_is)
  (case aLl => k_is)
  (case lLl => k_is)
  (case cLl => k_is)
  (case kLl => k_is)
  (case aBs => k_is)
  (case lBs => k_is)
  (case cBs => k_is)
  (case kBs => k_is)
  (case aBa => k_is)
  (case lBa => k_is)
  (case cBa => k_is)
  (case kBa => k_is)
  (case aSo => k_is)
  (case lSo => k_is)
  (case cSo => k_is)
  (case kSo => k_is)
  (case aCe => k_is)
  (case lCe => k_is)
  (case cCe => k_is)
  (case kCe => k_is)
  (case aLw => k_is)
  (case lLw => k_is)
  (case cLw => k_is)
  (case kLw => k_is)
  (case aMx => k_is)
  (case lMx => k_is)
  (case cMx => k_is)
  (case kMx => k_is)
  (case aBi => k_is)
  (case lBi => k_is)
  (case cBi => k_is)
  (case kBi => k_is)
  (case aNa => k_is)
  (case lNa => k_is)
  (case cNa => k_is)
  (case kNa => k_is)
  (case aSz => k_is)
  (case lSz => k_is)
  (case cSz => k_is)
  (case kSz => k_is)
  (case aLn => k_is)
  (case lLn => k_is)
  (case cLn => k_is)
  (case kLn => k_is)
  (case aKn => k_is)
  (case lKn => k_is)
  (case cKn => k_is)
  (case kKn => k_is)
  (case aKs => k_is)
  (case lKs => k_is)
  (case cKs => k_is)
  (case kKs => k_is)
  (case aRw => k_is)
  (case lRw => k_is)
  (case cRw => k_is)
  (case kRw => k_is)
  (case aWd => k_is)
  (case lWd => k_is)
  (case cWd => k_is)
  (case kWd => k_is)
  (case aDr => k_is)
  (case lDr => k_is)
  (case cDr => k_is)
  (case kDr => k_is)
  (case aHd => k_is)
  (case lHd => k_is)
  (case cHd => k_is)
  (case kHd => k_is)
  (case aSn => k_is)
  (case lSn => k_is)
  (case cSn => k_is)
  (case kSn => k_is)
  (case aZ => k_is)
  (case lZ => k_is)
  (case cZ => k_is)
  (case kZ => k_is)
  (case aC => k_is)
  (case aOi => k_is)
  (case iOi => k_is)
  (case lOi => k_is)
  (case cOi => k_is)
  (case kOi => k_is)
  (case aOb => k_is)
  (case iOb => k_is)
  (case lOb => k_is)
  (case cOb => k_is)
  (case kOb => k_is)
  (case aOc => k_is)
  (case iOc => k_is)
  (case lOc => k_is)
  (case cOc => k_is)
  (case kOc => k_is)
  (case aOk => k_is)
  (case iOk => k_is)
  (case lOk => k_is)
  (case cOk => k_is)
  (case kOk => k_is)
  (case aOo => k_is)
  (case iOo => k_is)
  (case lOo => k_is)
  (case cOo => k_is)
  (case kOo => k_is)
  (case aBk => k_is)
  (case iBk => k_is)
  (case lBk => k_is)
  (case cBk => k_is)
  (case kBk => k_is)
  (case aOp => k_is)
  (case iOp => k_is)
  (case lOp => k_is)
  (case cOp => k_is)
  (case kOp => k_is)
  (case aOr => k_is)
  (case iOr => k_is)
  (case lOr => k_is)
  (case cOr => k_is)
  (case kOr => k_is)
  (case aOq => k_is)
  (case iOq => k_is)
  (case lOq => k_is)
  (case cOq => k_is)
  (case kOq => k_is)
  (case aOe => k_is)
  (case iOe => k_is)
  (case lOe => k_is)
  (case cOe => k_is)
  (case kOe => k_is)
  (case aOs => k_is)
  (case iOs => k_is)
  (case lOs => k_is)
  (case cOs => k_is)
  (case kOs => k_is)
  (case aOm => k_is)
  (case iOm => k_is)
  (case lOm => k_is)
  (case cOm => k_is)
  (case kOm => k_is)
  (case aOz => k_is)
  (case iOz => k_is)
  (case lOz => k_is)
  (case cOz => k_is)
  (case kOz => k_is)
  (case pg => k_is)
  (case hd => k_is)
  (case po => k_is)
  (case sa => k_is)
  (case mkC => k_is)
  (case kc => k_is)
  (case n_row_list_ => k_is)
  (case n_board_list_ => k_is)
  (case n_rank_list_ => k_is)
  (case n_knob_rows_ => k_is)
  (case n_board_numbers_ => k_is)
  (case n_rank_numbers_ => k_is)
  (case n_knob_numbers_ => k_is)
  (case n_key_places_ => k_is)
  (case n_pipe_places_ => k_is)
  (case n_knob_lines_ => k_is)
  (case n_step_sets_ => k_is)
  (case zlen => k_is)
  (case zisinstance => k_is)
  (case zint => k_is)
  (case zbool => k_is)
  (case zstr => k_is)
  (case zlist => k_is)
  (case ztuple => k_is)
  (case zall => k_is)
  (case zany => k_is)
  (case zsum => k_is)
  (case zrange => k_is)
  (case zzip => k_is)
  (case zenumerate => k_is)
  (case zmax => k_is)
  (case zreversed => k_is)
  (case zLET => k_is)
  (case zML => k_is)
  (case zMR => k_is)
  (case zMLn => k_is)
  (case zMB => k_is)
  (case rN => k_is)
  (case rK => k_is)
  (case rB => k_is)
  (case rP => k_is)
  (case rM => k_is)
  (case dB => k_is)
  (case kB => k_keys)
  (case oB => decide)
  (case dP => k_is)
  (case kP => k_keys)
  (case oP => decide)
  (case dM => k_is)
  (case kM => k_keys)
  (case oM => decide)
  (case qp1 => k_is)
  (case qp2 => k_is)
  (case qp3 => k_is)
  (case qp4 => k_is)
  (case qp5 => k_is)
  (case qp6 => k_is)
  (case qb1 => k_is)
  (case qb2 => k_is)
  (case qb3 => k_is)
  (case qb4 => k_is)
  (case qb5 => k_is)
  (case qb6 => k_is)
  (case qb7 => k_is)
  (case qn => k_is)
  (case qb => k_is)
  (case qr => k_is)
  (case ql => k_is)
  (case qm1 => k_is)
  (case qm2 => k_is)
  (case qm3 => k_is)
  (case qm4 => k_is)
  (case qm5 => k_is)
  (case uN => k_is)
  (case uK => k_is)
  (case up1 => k_is)
  (case up2 => k_is)
  (case up3 => k_is)
  (case up4 => k_is)
  (case up5 => k_is)
  (case up6 => k_is)
  (case ub1 => k_is)
  (case ub2 => k_is)
  (case ub3 => k_is)
  (case ub4 => k_is)
  (case ub5 => k_is)
  (case ub6 => k_is)
  (case ub7 => k_is)
end PartK25z
