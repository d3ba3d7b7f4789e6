import PyProof.Rows.All
import Wide.All
import OpenK.AllK
import Wide.FinOn
import Lean
import PyProof.EqAt
import PyProof.EqKinds
import PyProof.TupleCall
import KE.KSortAsk
import KE.KSortTup
import PyProof.ZipIter
import PyProof.WalksEnum
import PyProof.EnumMake
import PyProof.NeKinds
import OpenK.KTop
import PyProof.Rows.StrWeight2
import PyProof.SumWalk
import PyProof.SliceList
import PyProof.Rows.SetFrom
import PyProof.StrWalks
import PyProof.CollectWalk
import PyProof.Rows.SortWalk
import PyProof.Rows.BitMore
import PyProof.Rows.IntCalls
import PyProof.Rows.SortRunsK
import PyProof.SeqI3
import KE.KLam
import PyProof.Rows.CallKwBuiltin
import PyProof.StationsW
import PyProof.NsDelKeeps
import KE.KDictList
import KE.KRevIter
import PyProof.SetRoads
import KE.KUnpack
import PyProof.IsRules
import PySem.Challenge.RW_windchest_k57_whole_rolls
set_option Elab.async false
set_option linter.all false
set_option maxRecDepth 100000
namespace Sq
open PySem PySem.W PyProof.Rows
structure Ord (lt : Nat → Nat → Bool) : Prop where
  irr : ∀ a, lt a a = false
  asy : ∀ a b, lt a b = true → lt b a = false
  tr : ∀ a b c, lt b a = false → lt c b = false → lt c a = false
def run {α : Type} (lt : Nat → Nat → Bool) : KasT α → α
  | .ret a => a
  | .ask i j k => run lt (k (lt i j))
def K (p : Array Nat) (i : Nat) : Nat := (p[i]?).getD 0
section
variable {lt : Nat → Nat → Bool} (O : Ord lt)
include O
def Up (lt : Nat → Nat → Bool) (p : Array Nat) (n : Nat) : Prop := ∀ i j, i ≤ j → j < n → lt (K p j) (K p i) = false
def Dn (lt : Nat → Nat → Bool) (p : Array Nat) (n : Nat) : Prop := ∀ i j, i ≤ j → j < n → lt (K p i) (K p j) = false
/-- non-rising to n, the last q + 1 alike -/
structure De (lt : Nat → Nat → Bool) (p : Array Nat) (n q : Nat) : Prop where
  dn : Dn lt p n
  hq : q + 1 ≤ n
  eq : ∀ i, n - (q + 1) ≤ i → i < n → lt (K p i) (K p (n - 1)) = false ∧ lt (K p (n - 1)) (K p i) = false
end
end Sq

namespace Sq
open PySem PySem.W PyProof.Rows
def Rn {α : Type} (N : Nat) : KasT α → (α → Prop) → Prop
  | .ret a, P => P a
  | .ask i j k, P => i < N ∧ j < N ∧ ∀ b, Rn N (k b) P
def Bd (N : Nat) (p : Array Nat) : Prop := 0 < N ∧ ∀ x ∈ p.toList, x < N
section
variable {N : Nat}
end
end Sq

namespace Sq
open PySem PySem.W PyProof.Rows
abbrev T3 := Int × Int × Int
def t3lt (a b : T3) : Bool := decide (a.1 < b.1) || (decide (a.1 = b.1) && (decide (a.2.1 < b.2.1) || (decide (a.2.1 = b.2.1) && decide (a.2.2 < b.2.2))))
theorem t3_iff {a b : T3} : t3lt a b = true ↔ a.1 < b.1 ∨ (a.1 = b.1 ∧ (a.2.1 < b.2.1 ∨ (a.2.1 = b.2.1 ∧ a.2.2 < b.2.2))) := by
  unfold t3lt
  simp
theorem t3_not {a b : T3} : t3lt a b = false ↔ ¬ (a.1 < b.1 ∨ (a.1 = b.1 ∧ (a.2.1 < b.2.1 ∨ (a.2.1 = b.2.1 ∧ a.2.2 < b.2.2)))) := by rw [← t3_iff]; simp
theorem t3_irr (a : T3) : t3lt a a = false := by rw [t3_not]; omega
theorem t3_asy (a b : T3) (h : t3lt a b = true) : t3lt b a = false := by rw [t3_not]; rw [t3_iff] at h; omega
theorem t3_tr (a b c : T3) (h1 : t3lt b a = false) (h2 : t3lt c b = false) : t3lt c a = false := by rw [t3_not] at *; omega
/-- at v there is a tuple of the three ints -/
def TrAt (h : Heap) (v : Value) (t : T3) : Prop := ∃ (x : Addr) (o : Obj) (k1 k2 k3 : Tok) (n : Nat), v = .ref x ∧ h.get? x = some o ∧ o.cls = .type "tuple" ∧ o.data = .seq #[.int t.1 k1, .int t.2.1 k2, .int t.2.2 k3] n
section
variable {prog : Program} {w : World} {A : Around} {E : Value → Shared → Prop} {s : Shared}
theorem key_lt {v u : Value} {a b : T3} {Q : Bool → Shared → Prop} (hv : TrAt s.heap v a) (hu : TrAt s.heap u b) (q : Q (t3lt a b) s) : wpAny (model prog w) A (keyLt' (tuples' true) v u) Q E s := by
  obtain ⟨x, ox, k1, k2, k3, n, rfl, hx, _, dx⟩ := hv
  obtain ⟨y, oy, l1, l2, l3, m, rfl, hy, _, dy⟩ := hu
  refine kat_lt hx dx hy dy ?_
  show KatLex prog w A true _ Q [(Value.int a.1 k1, Value.int b.1 l1), (Value.int a.2.1 k2, Value.int b.2.1 l2), (Value.int a.2.2 k3, Value.int b.2.2 l3)] 0 s
  refine kat_cons (wpAny_eqBool_int ?_)
  refine kat_go (fun e1 => kat_yes ?_) (fun e1 => kat_no ?_)
  · have e1 : a.1 = b.1 := by simpa using e1
    refine kat_cons (wpAny_eqBool_int ?_)
    refine kat_go (fun e2 => kat_yes ?_) (fun e2 => kat_no ?_)
    · have e2 : a.2.1 = b.2.1 := by simpa using e2
      refine kat_cons (wpAny_eqBool_int ?_)
      refine kat_go (fun e3 => kat_yes ?_) (fun e3 => kat_no ?_)
      · have e3 : a.2.2 = b.2.2 := by simpa using e3
        refine kat_nil ?_
        have z : t3lt a b = false := by rw [t3_not]; omega
        rw [z] at q
        exact q
      · have z : t3lt a b = decide (a.2.2 < b.2.2) := by rw [Bool.eq_iff_iff, t3_iff, decide_eq_true_eq]; omega
        rw [z] at q
        exact kat_one _ _ (lt_int q)
    · have e2 : ¬ a.2.1 = b.2.1 := by simpa using e2
      have z : t3lt a b = decide (a.2.1 < b.2.1) := by rw [Bool.eq_iff_iff, t3_iff, decide_eq_true_eq]; omega
      rw [z] at q
      exact kat_one _ _ (lt_int q)
  · have e1 : ¬ a.1 = b.1 := by simpa using e1
    have z : t3lt a b = decide (a.1 < b.1) := by rw [Bool.eq_iff_iff, t3_iff, decide_eq_true_eq]; omega
    rw [z] at q
    exact oneLt_int q
end
end Sq

namespace Sq
open PySem PySem.W PySem.Calls PyProof.Rows
section
variable {prog : Program} {w : World} {A : Around} {E : Value → Shared → Prop} {s : Shared}
theorem TrAt.keep {h h' : Heap} {v : Value} {t : T3} (r : TrAt h v t) (k : ∀ b o, h.get? b = some o → o.cls = .type "tuple" → h'.get? b = some o) : TrAt h' v t := by
  obtain ⟨x, o, k1, k2, k3, n, e, g, c, d⟩ := r
  exact ⟨x, o, k1, k2, k3, n, e, k x o g c, c, d⟩
theorem katTups {h : Heap} : ∀ (vs : List Value) (ts : List T3), vs.length = ts.length → (∀ (i : Nat) v t, vs[i]? = some v → ts[i]? = some t → TrAt h v t) → ∃ fs, KatTups h vs fs ∧ fs.length = vs.length ∧ ∀ f ∈ fs, ∃ i k, f = Value.int i k
  | [], [], _, _ => ⟨[], KatTups.nil, rfl, fun f hf => by cases hf⟩
  | [], _ :: _, l, _ => by simp at l
  | _ :: _, [], l, _ => by simp at l
  | v :: vs, t :: ts, l, r => by
    obtain ⟨fs, a, b, c⟩ := katTups vs ts (by simpa using l) fun i u z hu hz => r (i + 1) u z (by simpa using hu) (by simpa using hz)
    obtain ⟨x, o, k1, k2, k3, n, e, g, cl, d⟩ := r 0 v t rfl rfl
    subst e
    refine ⟨Value.int t.1 k1 :: fs, KatTups.cons g cl d rfl a, by simp [b], fun f hf => ?_⟩
    rcases List.mem_cons.mp hf with rfl | hf
    · exact ⟨_, _, rfl⟩
    · exact c f hf
theorem pick_id (vs : List Value) : (List.range vs.length).map (fun i => vs.getD i Value.none) = vs := by
  refine List.ext_getElem (by simp) fun i h1 h2 => ?_
  simp [List.getD_eq_getElem?_getD, h2]
end
end Sq

namespace Sq
open PySem PySem.W PySem.Calls PyProof.Rows
abbrev T2 := Int × Int
def t2lt (a b : T2) : Bool := decide (a.1 < b.1) || (decide (a.1 = b.1) && decide (a.2 < b.2))
theorem t2_iff {a b : T2} : t2lt a b = true ↔ a.1 < b.1 ∨ (a.1 = b.1 ∧ a.2 < b.2) := by
  unfold t2lt
  simp
theorem t2_not {a b : T2} : t2lt a b = false ↔ ¬ (a.1 < b.1 ∨ (a.1 = b.1 ∧ a.2 < b.2)) := by rw [← t2_iff]; simp
theorem t2_irr (a : T2) : t2lt a a = false := by rw [t2_not]; omega
theorem t2_asy (a b : T2) (h : t2lt a b = true) : t2lt b a = false := by rw [t2_not]; rw [t2_iff] at h; omega
theorem t2_tr (a b c : T2) (h1 : t2lt b a = false) (h2 : t2lt c b = false) : t2lt c a = false := by rw [t2_not] at *; omega
def PrAt (h : Heap) (v : Value) (t : T2) : Prop := ∃ (x : Addr) (o : Obj) (k1 k2 : Tok) (n : Nat), v = .ref x ∧ h.get? x = some o ∧ o.cls = .type "tuple" ∧ o.data = .seq #[.int t.1 k1, .int t.2 k2] n
theorem PrAt.keep {h h' : Heap} {v : Value} {t : T2} (r : PrAt h v t) (k : ∀ b o, h.get? b = some o → o.cls = .type "tuple" → h'.get? b = some o) : PrAt h' v t := by
  obtain ⟨x, o, k1, k2, n, e, g, c, d⟩ := r
  exact ⟨x, o, k1, k2, n, e, k x o g c, c, d⟩
section
variable {prog : Program} {w : World} {A : Around} {E : Value → Shared → Prop} {s : Shared}
theorem key_lt2 {v u : Value} {a b : T2} {Q : Bool → Shared → Prop} (hv : PrAt s.heap v a) (hu : PrAt s.heap u b) (q : Q (t2lt a b) s) : wpAny (model prog w) A (keyLt' (tuples' true) v u) Q E s := by
  obtain ⟨x, ox, k1, k2, n, rfl, hx, _, dx⟩ := hv
  obtain ⟨y, oy, l1, l2, m, rfl, hy, _, dy⟩ := hu
  refine kat_lt hx dx hy dy ?_
  show KatLex prog w A true _ Q [(Value.int a.1 k1, Value.int b.1 l1), (Value.int a.2 k2, Value.int b.2 l2)] 0 s
  refine kat_cons (wpAny_eqBool_int ?_)
  refine kat_go (fun e1 => kat_yes ?_) (fun e1 => kat_no ?_)
  · have e1 : a.1 = b.1 := by simpa using e1
    refine kat_cons (wpAny_eqBool_int ?_)
    refine kat_go (fun e2 => kat_yes ?_) (fun e2 => kat_no ?_)
    · have e2 : a.2 = b.2 := by simpa using e2
      refine kat_nil ?_
      have z : t2lt a b = false := by rw [t2_not]; omega
      rw [z] at q
      exact q
    · have z : t2lt a b = decide (a.2 < b.2) := by rw [Bool.eq_iff_iff, t2_iff, decide_eq_true_eq]; omega
      rw [z] at q
      exact kat_one _ _ (lt_int q)
  · have e1 : ¬ a.1 = b.1 := by simpa using e1
    have z : t2lt a b = decide (a.1 < b.1) := by rw [Bool.eq_iff_iff, t2_iff, decide_eq_true_eq]; omega
    rw [z] at q
    exact oneLt_int q
theorem katPrs {h : Heap} : ∀ (vs : List Value) (ts : List T2), vs.length = ts.length → (∀ (i : Nat) v t, vs[i]? = some v → ts[i]? = some t → PrAt h v t) → ∃ fs, KatTups h vs fs ∧ fs.length = vs.length ∧ ∀ f ∈ fs, ∃ i k, f = Value.int i k
  | [], [], _, _ => ⟨[], KatTups.nil, rfl, fun f hf => by cases hf⟩
  | [], _ :: _, l, _ => by simp at l
  | _ :: _, [], l, _ => by simp at l
  | v :: vs, t :: ts, l, r => by
    obtain ⟨fs, a, b, c⟩ := katPrs vs ts (by simpa using l) fun i u z hu hz => r (i + 1) u z (by simpa using hu) (by simpa using hz)
    obtain ⟨x, o, k1, k2, n, e, g, cl, d⟩ := r 0 v t rfl rfl
    subst e
    refine ⟨Value.int t.1 k1 :: fs, KatTups.cons g cl d rfl a, by simp [b], fun f hf => ?_⟩
    rcases List.mem_cons.mp hf with rfl | hf
    · exact ⟨_, _, rfl⟩
    · exact c f hf
end
end Sq

namespace Sq
open PySem PySem.W PySem.Calls PyProof.Rows
/-- what a call of the key does, wherever all but the store of keys is kept -/
def KeyOk (prog : Program) (w : World) (A : Around) (f : Value) (s : Shared) (kS : Addr) (v : Value) (t : T2) : Prop :=
  ∀ (h1 : Heap) (tk1 : Nat), (∀ b o, b ≠ kS → s.heap.get? b = some o → h1.get? b = some o) → s.heap.objs.size ≤ h1.objs.size → ∀ R : Value → Shared → Prop,
    (∀ k h2 tk2, PrAt h2 k t → (∀ b o, h1.get? b = some o → h2.get? b = some o) → h1.objs.size ≤ h2.objs.size → R k { s with heap := h2, toks := tk2 }) → wpAny (model prog w) A (call f [v]) R (fun _ _ => False) { s with heap := h1, toks := tk1 }
section
variable {prog : Program} {w : World} {A : Around} {E : Value → Shared → Prop} {s : Shared}
end
end Sq

namespace L2
open PySem PySem.Spec PyProof.Rows

/-- a key: an int or a str -/
abbrev Key := Sum Int Str
def keyIs : Key → Value → Bool
  | .inl k, v => Value.isInt k v
  | .inr x, v => Value.isStrOf x v
def keyH (w : World) : Key → Int
  | .inl k => hashInt k
  | .inr x => hashStr w x
theorem keyIs_shape : ∀ {k : Key} {v : Value}, keyIs k v = true → (∃ i t, k = Sum.inl i ∧ v = Value.int i t) ∨ (∃ x t, k = Sum.inr x ∧ v = Value.str x t)
  | .inl i, v, h => by
    obtain ⟨t, e⟩ := Value.isInt_shape (k := i) (v := v) h
    exact .inl ⟨i, t, rfl, e⟩
  | .inr x, v, h => by
    obtain ⟨t, e⟩ := Value.isStrOf_shape (x := x) (v := v) h
    exact .inr ⟨x, t, rfl, e⟩
theorem key_ll (a b : Int) : decide ((Sum.inl a : Key) = Sum.inl b) = (a == b) := by
  by_cases e : a = b
  · subst e; simp
  · have h : ¬ (Sum.inl a : Key) = Sum.inl b := fun q => e (Sum.inl.inj q)
    rw [decide_eq_false h]
    exact (beq_eq_false_iff_ne.mpr e).symm
theorem key_rr (a b : Str) : decide ((Sum.inr a : Key) = Sum.inr b) = decide (a = b) := by
  by_cases e : a = b
  · subst e; simp
  · have h : ¬ (Sum.inr a : Key) = Sum.inr b := fun q => e (Sum.inr.inj q)
    rw [decide_eq_false h, decide_eq_false e]
theorem key_lr (a : Int) (b : Str) : decide ((Sum.inl a : Key) = Sum.inr b) = false := decide_eq_false (fun q => nomatch q)
theorem key_rl (a : Str) (b : Int) : decide ((Sum.inr a : Key) = Sum.inl b) = false := decide_eq_false (fun q => nomatch q)

def mixKind (prog : Program) (w : World) : PySem.KeyKind prog w Key where
  is := keyIs
  hash := keyH w
  inj := fun v a b ha hb => by
    rcases keyIs_shape ha with ⟨i, t, rfl, rfl⟩ | ⟨x, t, rfl, rfl⟩
    · rcases keyIs_shape hb with ⟨j, u, rfl, e⟩ | ⟨y, u, rfl, e⟩
      · injection e with e1 _; rw [e1]
      · exact nomatch e
    · rcases keyIs_shape hb with ⟨j, u, rfl, e⟩ | ⟨y, u, rfl, e⟩
      · exact nomatch e
      · injection e with e1 _; rw [e1]
  byValue := fun k v h => by
    rcases keyIs_shape h with ⟨i, t, rfl, rfl⟩ | ⟨x, t, rfl, rfl⟩ <;> rfl
  pyHash := fun hv h => by
    rcases keyIs_shape hv with ⟨i, t, rfl, rfl⟩ | ⟨x, t, rfl, rfl⟩
    · exact wpAny_pyHash_int h
    · exact wpAny_pyHash_str h
  eqBool := fun hu hv h => by
    rcases keyIs_shape hu with ⟨i, t, rfl, rfl⟩ | ⟨x, t, rfl, rfl⟩
    · rcases keyIs_shape hv with ⟨j, u, rfl, rfl⟩ | ⟨y, u, rfl, rfl⟩
      · rw [key_ll] at h; exact wpAny_eqBool_int h
      · rw [key_lr] at h; exact SeqAt.EqAt.int_str i t y u _ _ _ _ h
    · rcases keyIs_shape hv with ⟨j, u, rfl, rfl⟩ | ⟨y, u, rfl, rfl⟩
      · rw [key_rl] at h; exact SeqAt.EqAt.str_int x t j u _ _ _ _ h
      · rw [key_rr] at h; exact wpAny_eqBool_str h
  «strs» := fun k x t v h => by
    rcases keyIs_shape h with ⟨i, u, rfl, e⟩ | ⟨y, u, rfl, e⟩
    · exact nomatch e
    · injection e with e1 _
      subst e1
      cases v <;> rfl

end L2

namespace L2
open PySem PySem.Spec PyProof.Rows

/-- a value, without the heap -/
inductive V where
  | non | bl (b : Bool) | int (i : Int) | str (x : Str) | byt (b : Array UInt8) | flt (b : UInt64) | ref (a : Addr) | ty (n : String)
  deriving DecidableEq

def RelV : V → Value → Prop
  | .non, u => u = Value.none
  | .bl b, u => u = Value.bool b
  | .int i, u => ∃ t, u = Value.int i t
  | .str x, u => ∃ t, u = Value.str x t
  | .byt b, u => ∃ t, u = Value.bytes b t
  | .flt b, u => ∃ t, u = Value.float b t
  | .ref a, u => u = Value.ref a
  | .ty n, u => u = Value.type n

abbrev Vals : List V → List Value → Prop := Paired RelV
theorem Vals.length {xs : List V} {us : List Value} (r : Vals xs us) : xs.length = us.length := Paired.length r
theorem Vals.get : ∀ {xs : List V} {us : List Value} {i : Nat} {x : V}, Vals xs us → xs[i]? = some x → ∃ u, us[i]? = some u ∧ RelV x u
  | _, _, _, _, .nil, e => by simp at e
  | _, _, 0, _, .cons r _, e => by simp at e; subst e; exact ⟨_, rfl, r⟩
  | _, _, i + 1, x, .cons _ t, e => by
    obtain ⟨u, h1, h2⟩ := Vals.get (i := i) (x := x) t (by simpa using e)
    exact ⟨u, by simpa using h1, h2⟩
theorem Vals.append : ∀ {xs ys : List V} {us ws : List Value}, Vals xs us → Vals ys ws → Vals (xs ++ ys) (us ++ ws)
  | _, _, _, _, .nil, s => s
  | _, _, _, _, .cons r t, s => .cons r (Vals.append t s)
theorem Vals.take : ∀ {xs : List V} {us : List Value} (n : Nat), Vals xs us → Vals (xs.take n) (us.take n)
  | _, _, 0, _ => .nil
  | _, _, _ + 1, .nil => .nil
  | _, _, n + 1, .cons r t => .cons r (Vals.take n t)
theorem Vals.drop : ∀ {xs : List V} {us : List Value} (n : Nat), Vals xs us → Vals (xs.drop n) (us.drop n)
  | _, _, 0, r => r
  | _, _, _ + 1, .nil => .nil
  | _, _, n + 1, .cons _ t => Vals.drop n t
def RelO : Option V → Option Value → Prop
  | some v, some u => RelV v u
  | none, none => True
  | _, _ => False
def KV {κ : Type} : List (κ × V) → List (κ × Value) → Prop := Paired fun (p : κ × V) (q : κ × Value) => p.1 = q.1 ∧ RelV p.2 q.2

/-- a key of a dict (00_mix): an int or a text -/
def kV : Key → V
  | .inl i => .int i
  | .inr x => .str x

/-- what stands at a tracked address -/
inductive HO where
  /-- a list -/
  | lst (xs : List V)
  /-- a tuple (never changes) -/
  | tup (xs : List V)
  /-- a dict whose keys are ints and texts; one whose keys are tuples of ints and texts (the empty one is both) -/
  | dK (kvs : List (Key × V)) | dT (kvs : List (List Key × V))
  /-- a set of ints: its members, its size -/
  | set (S : Int → Bool) (n : Nat)
  /-- an instance of the class at C, its dict at dx, its attributes -/
  | ins (C dx : Addr) (fs : List (Str × V))
  /-- the dict of the instance at x -/
  | own (x : Addr)
  /-- the dict of an exception -/
  | xd (fs : List (Str × V))
  /-- a bound method, f of x -/
  | met (f x : Addr)
  /-- a range object lo, lo + 1, .. below hi -/
  | rng (lo hi : Int)
  /-- a thing that is known to the object (the script; a dict while a loop walks it): read, never written while it is so -/
  | frz (o : Obj) (u : HO)
  /-- a code object's table -/
  | tbl (ps : Array Value)
  /-- any other thing, by what is true of its one object (a def of one's own: SetO a S n := HO.ext fun h => ..) -/
  | ext (φ : Heap → Prop)

abbrev Hp := Addr → Option HO
def upd (H : Hp) (a : Addr) (o : HO) : Hp := fun b => if b = a then some o else H b
theorem upd_same {H : Hp} {a : Addr} {o : HO} : upd H a o a = some o := by unfold upd; rw [if_pos rfl]
theorem upd_ne {H : Hp} {a b : Addr} {o : HO} (h : b ≠ a) : upd H a o b = H b := by unfold upd; rw [if_neg h]
/-- two objects of different content stand apart -/
theorem ne_of {H : Hp} {a b : Addr} {o u : HO} (h : H a = some o) (h' : H b = some u) (d : o ≠ u) : a ≠ b := by
  intro e; subst e; rw [h] at h'; exact d (Option.some.inj h')
theorem ne_of_none {H : Hp} {a b : Addr} {o : HO} (h : H a = some o) (h' : H b = none) : a ≠ b := by
  intro e; subst e; rw [h] at h'; cases h'

section
variable (P : Program) (w : World)
def ObjOk (H : Hp) (h : Heap) (a : Addr) : HO → Prop
  | .lst xs => xs.length ≤ sizeLine ∧ ∃ (its : List Value) (n : Nat), Vals xs its ∧ h.get? a = some { cls := .type "list", data := .seq its.toArray n }
  | .tup xs => xs.length ≤ sizeLine ∧ ∃ its : List Value, Vals xs its ∧ IsTup h a its.toArray
  | .dK kvs => kvs.length ≤ sizeLine ∧ (a == sysModules) = false ∧ ∃ vs, KV kvs vs ∧ h.DictOf (mixKind P w) a vs
  | .dT kvs => kvs.length ≤ sizeLine ∧ (a == sysModules) = false ∧ ∃ xs : List (List Key × Addr × Value),
      Paired (fun (p : List Key × V) (q : List Key × Addr × Value) => p.1 = q.1 ∧ H q.2.1 = some (.tup (p.1.map kV)) ∧ RelV p.2 q.2.2) kvs xs ∧
      ∃ o es ep, h.get? a = some o ∧ o.ExactDict ∧ o.data = .dict es ep ∧ es.toList = xs.map (entryOfKey (tupleKind (mixKind P w))) ∧ (xs.map (·.1)).Nodup
  | .set S n => h.SetOf (intKind P w) a S n
  | .ins C dx fs => H dx = some (.own a) ∧ fs.length ≤ 1000 ∧ dx ≠ a ∧ h.get? a = some (PySem.W.instObj C dx) ∧
      ∃ mA, h.Ns1 dx mA ∧ (∀ f, RelO (fs.lookup f) (mA f)) ∧ PySem.Within mA (fs.map (·.1))
  | .own _ => ∃ o, h.get? a = some o
  | .xd fs => ∃ mA, h.Ns1 a mA ∧ ∀ f, RelO (fs.lookup f) (mA f)
  | .rng lo hi => ∃ t u v, h.get? a = some { cls := .type "range", data := .fields #[.int lo t, .int hi u, .int 1 v] }
  | .frz o u => h.get? a = some o ∧ ObjOk H h a u
  | .tbl ps => h.get? a = some { cls := .none, data := .fields ps }
  | .met f x => h.get? a = some (PySem.W.methodObj (.ref f) (.ref x))
  | .ext φ => φ h ∧ (∃ o, h.get? a = some o) ∧ ∀ h1 h2 : Heap, φ h1 → (∀ o, h1.get? a = some o → h2.get? a = some o) → φ h2
/-- the abstract heap is held -/
def HOk (H : Hp) (h : Heap) : Prop := ∀ a o, H a = some o → ObjOk P w H h a o
end

section
variable {P : Program} {w : World} {H H' : Hp} {h h' : Heap} {a : Addr} {o : HO}
theorem ObjOk.lt (x : ObjOk P w H h a o) : a < h.objs.size := by
  cases o with
  | lst xs => obtain ⟨_, _, _, _, e⟩ := x; exact Heap.lt_size e
  | tup xs => obtain ⟨_, _, _, p⟩ := x; exact p.lt
  | dK kvs => obtain ⟨_, _, _, _, o, _, _, e, _⟩ := x; exact Heap.lt_size e
  | dT kvs => obtain ⟨_, _, _, _, o, _, _, e, _⟩ := x; exact Heap.lt_size e
  | set S n => obtain ⟨o, _, _, _, e, _⟩ := x; exact Heap.lt_size e
  | ins C dx fs => obtain ⟨_, _, _, e, _⟩ := x; exact Heap.lt_size e
  | own y => obtain ⟨_, e⟩ := x; exact Heap.lt_size e
  | xd fs => obtain ⟨_, ⟨_, _, _, e, _⟩, _⟩ := x; exact Heap.lt_size e
  | rng lo hi => obtain ⟨_, _, _, e⟩ := x; exact Heap.lt_size e
  | frz ob u => obtain ⟨e, _⟩ := x; exact Heap.lt_size e
  | tbl ps => exact Heap.lt_size (show h.get? a = some _ from x)
  | met f y => exact Heap.lt_size (show h.get? a = some _ from x)
  | ext φ => obtain ⟨_, ⟨_, e⟩, _⟩ := x; exact Heap.lt_size e
theorem Paired.mapP {α β : Type} {F G : α → β → Prop} : ∀ {l₁ : List α} {l₂ : List β}, Paired F l₁ l₂ → (∀ a b, F a b → G a b) → Paired G l₁ l₂
  | _, _, .nil, _ => .nil
  | _, _, .cons r t, f => .cons (f _ _ r) (Paired.mapP t f)
/-- what an object's description leans on: its own object, its own dict, the tuples -/
theorem ObjOk.stay (x : ObjOk P w H h a o) (k : ∀ b u, (b = a ∨ H b = some (.own a)) → h.get? b = some u → h'.get? b = some u)
    (ho : ∀ b, H b = some (.own a) → H' b = some (.own a)) (ht : ∀ b xs, H b = some (.tup xs) → H' b = some (.tup xs)) : ObjOk P w H' h' a o := by
  induction o with
  | lst xs => obtain ⟨z, its, n, r, e⟩ := x; exact ⟨z, its, n, r, k _ _ (.inl rfl) e⟩
  | tup xs => obtain ⟨z, its, r, ob, e, c⟩ := x; exact ⟨z, its, r, ob, k _ _ (.inl rfl) e, c⟩
  | dK kvs => obtain ⟨z, y, vs, r, ob, es, ep, e, c⟩ := x; exact ⟨z, y, vs, r, ob, es, ep, k _ _ (.inl rfl) e, c⟩
  | dT kvs =>
    obtain ⟨z, y, xs, r, ob, es, ep, e, c⟩ := x
    exact ⟨z, y, xs, Paired.mapP r fun p q z => ⟨z.1, ht _ _ z.2.1, z.2.2⟩, ob, es, ep, k _ _ (.inl rfl) e, c⟩
  | set S n => obtain ⟨ob, es, ep, t, e, c⟩ := x; exact ⟨ob, es, ep, t, k _ _ (.inl rfl) e, c⟩
  | ins C dx fs =>
    obtain ⟨d, z, ne, e, mA, ⟨od, es, ep, e2, c⟩, r⟩ := x
    exact ⟨ho _ d, z, ne, k _ _ (.inl rfl) e, mA, ⟨od, es, ep, k _ _ (.inr d) e2, c⟩, r⟩
  | own y => obtain ⟨ob, e⟩ := x; exact ⟨ob, k _ _ (.inl rfl) e⟩
  | xd fs => obtain ⟨mA, ⟨od, es, ep, e, c⟩, r⟩ := x; exact ⟨mA, ⟨od, es, ep, k _ _ (.inl rfl) e, c⟩, r⟩
  | rng lo hi => obtain ⟨t, u, v, e⟩ := x; exact ⟨t, u, v, k _ _ (.inl rfl) e⟩
  | frz ob u ih => obtain ⟨e, q⟩ := x; exact ⟨k _ _ (.inl rfl) e, ih q⟩
  | tbl ps =>
    have e : h.get? a = some { cls := .none, data := .fields ps } := x
    show h'.get? a = some { cls := .none, data := .fields ps }
    exact k a _ (.inl rfl) e
  | met f y =>
    have e : h.get? a = some (PySem.W.methodObj (.ref f) (.ref y)) := x
    show h'.get? a = some (PySem.W.methodObj (.ref f) (.ref y))
    exact k a _ (.inl rfl) e
  | ext φ => obtain ⟨p, ⟨o, e⟩, st⟩ := x; exact ⟨st _ _ p fun o q => k _ _ (.inl rfl) q, ⟨o, k _ _ (.inl rfl) e⟩, st⟩
theorem HOk.lt (x : HOk P w H h) (e : H a = some o) : a < h.objs.size := (x a o e).lt
theorem HOk.fresh (x : HOk P w H h) (e : h.objs.size ≤ a) : H a = none := by
  cases q : H a with
  | none => rfl
  | some u => exact absurd (Nat.lt_of_lt_of_le (x.lt q) e) (Nat.lt_irrefl _)
/-- every object of the heap is kept -/
theorem HOk.kept (x : HOk P w H h) (k : ∀ b u, h.get? b = some u → h'.get? b = some u) : HOk P w H h' := fun a o e =>
  (x a o e).stay (fun b u _ q => k b u q) (fun _ q => q) fun _ _ q => q
/-- a new object is laid and tracked -/
theorem HOk.laid (x : HOk P w H h) (k : ∀ b u, h.get? b = some u → h'.get? b = some u) (hp : h.objs.size ≤ a) (new : ObjOk P w (upd H a o) h' a o) : HOk P w (upd H a o) h' := fun b u e => by
  have hn := x.fresh hp
  by_cases hb : b = a
  · subst hb; rw [upd_same] at e; cases e; exact new
  · rw [upd_ne hb] at e
    exact (x b u e).stay (fun c v _ q => k c v q) (fun c q => by rw [upd_ne (ne_of_none q hn)]; exact q) fun c xs q => by rw [upd_ne (ne_of_none q hn)]; exact q
end

/-- what may be read as u: it is u, or a known u -/
def Rd (H : Hp) (a : Addr) (u : HO) : Prop := H a = some u ∨ ∃ o, H a = some (.frz o u)
theorem Rd.ok {P : Program} {w : World} {H : Hp} {h : Heap} {a : Addr} {u : HO} (r : Rd H a u) (x : HOk P w H h) : ObjOk P w H h a u := by
  rcases r with r | ⟨o, r⟩
  · exact x a u r
  · obtain ⟨_, q⟩ := x a _ r
    exact q
/-- what may be written -/
def Mut : Option HO → Prop
  | some (.lst _) => True
  | some (.dK _) => True
  | some (.dT _) => True
  | some (.set _ _) => True
  | some (.ins _ _ _) => True
  | some (.ext _) => True
  | _ => False
section
variable {P : Program} {w : World} {H : Hp} {h h' : Heap} {x e : Addr} {o' : HO}
/-- the object at e is changed: x itself, or the dict of the instance x -/
theorem HOk.write (ok : HOk P w H h) (mu : Mut (H x)) (he : e = x ∨ H e = some (.own x)) (k : ∀ b u, b ≠ e → h.get? b = some u → h'.get? b = some u) (heo : ∃ u, h'.get? e = some u)
    (new : ObjOk P w (upd H x o') h' x o') : HOk P w (upd H x o') h' := fun b u q => by
  have nown : ∀ c y, H c = some (.own y) → c ≠ x := fun c y r z => by subst z; rw [r] at mu; exact mu
  have ntup : ∀ c xs, H c = some (.tup xs) → c ≠ x := fun c xs r z => by subst z; rw [r] at mu; exact mu
  by_cases hb : b = x
  · subst hb; rw [upd_same] at q; cases q; exact new
  · rw [upd_ne hb] at q
    by_cases hbe : b = e
    · have q' : H b = some (.own x) := by
        rcases he with z | z
        · exact absurd (hbe.trans z) hb
        · rw [hbe]; exact z
      rw [q] at q'; cases q'
      obtain ⟨v, hv⟩ := heo
      exact ⟨v, by rw [hbe]; exact hv⟩
    · refine (ok b u q).stay (fun c v hc r => k c v ?_ r) (fun c r => by rw [upd_ne (nown c b r)]; exact r) fun c xs r => by rw [upd_ne (ntup c xs r)]; exact r
      rcases hc with rfl | hc
      · exact hbe
      · rintro rfl
        rcases he with z | z
        · exact nown c b hc z
        · rw [hc] at z; cases z; exact hb rfl
end

structure Un (fs ex : List Addr) (H H' : Hp) (h h' : Heap) : Prop where
  keep : ∀ b o, h.get? b = some o → H b = none → b ∉ fs → b ∉ ex → h'.get? b = some o
  slot : ∀ b o, h.get? b = some o → H b = none → b ∈ fs → b ∉ ex → ∃ sl, h'.get? b = some { o with slots := sl }
  free : ∀ b o, h.get? b = some o → H b = none → b ∉ ex → H' b = none
  there : ∀ b o, h.get? b = some o → b ∉ ex → ∃ o', h'.get? b = some o'
  tups : ∀ b xs, H b = some (.tup xs) → H' b = some (.tup xs)
  frzs : ∀ b o u, H b = some (.frz o u) → H' b = some (.frz o u)
  tbls : ∀ b ps, H b = some (.tbl ps) → ∃ more, H' b = some (.tbl (ps ++ more))
section
variable {fs fs' ex ex' : List Addr} {H H1 H2 : Hp} {h h1 h2 h' : Heap} {a x e : Addr} {o : HO}
theorem Un.any (u : Un fs ex H H1 h h1) {b : Addr} {ob : Obj} (q : h.get? b = some ob) (n : H b = none) (hx : b ∉ ex) : ∃ sl, h1.get? b = some { ob with slots := sl } := by
  by_cases hb : b ∈ fs
  · exact u.slot b ob q n hb hx
  · exact ⟨ob.slots, u.keep b ob q n hb hx⟩
theorem Un.trans (a : Un fs ex H H1 h h1) (b : Un fs ex H1 H2 h1 h2) : Un fs ex H H2 h h2 where
  keep := fun c ob q n hc hx => b.keep c ob (a.keep c ob q n hc hx) (a.free c ob q n hx) hc hx
  slot := fun c ob q n hc hx => by
    obtain ⟨sl, e1⟩ := a.slot c ob q n hc hx
    obtain ⟨sl', e2⟩ := b.slot c _ e1 (a.free c ob q n hx) hc hx
    exact ⟨sl', e2⟩
  free := fun c ob q n hx => by
    obtain ⟨o', e1⟩ := a.there c ob q hx
    exact b.free c o' e1 (a.free c ob q n hx) hx
  there := fun c ob q hx => by
    obtain ⟨o', e1⟩ := a.there c ob q hx
    exact b.there c o' e1 hx
  tups := fun c xs q => b.tups c xs (a.tups c xs q)
  frzs := fun c ob xs q => b.frzs c ob xs (a.frzs c ob xs q)
  tbls := fun c ps q => by
    obtain ⟨m1, e1⟩ := a.tbls c ps q
    obtain ⟨m2, e2⟩ := b.tbls c _ e1
    exact ⟨m1 ++ m2, by rw [e2, Array.append_assoc]⟩
theorem Un.kept (k : ∀ b u, h.get? b = some u → h'.get? b = some u) : Un fs ex H H h h' :=
  ⟨fun b ob q _ _ _ => k b ob q, fun b ob q _ _ _ => ⟨ob.slots, k b ob q⟩, fun _ _ _ n _ => n, fun b ob q _ => ⟨ob, k b ob q⟩, fun _ _ q => q, fun _ _ _ q => q, fun _ ps q => ⟨#[], by rw [q]; simp⟩⟩
theorem Un.refl : Un fs ex H H h h := Un.kept fun _ _ q => q
theorem Un.laid (k : ∀ b u, h.get? b = some u → h'.get? b = some u) (hp : h.objs.size ≤ a) (hn : H a = none) : Un fs ex H (upd H a o) h h' where
  keep := fun b u q _ _ _ => k b u q
  slot := fun b u q _ _ _ => ⟨u.slots, k b u q⟩
  free := fun b u q n _ => by rw [upd_ne (Nat.ne_of_lt (Nat.lt_of_lt_of_le (Heap.lt_size q) hp))]; exact n
  there := fun b u q _ => ⟨u, k b u q⟩
  tups := fun b xs q => by rw [upd_ne (ne_of_none q hn)]; exact q
  frzs := fun b u xs q => by rw [upd_ne (ne_of_none q hn)]; exact q
  tbls := fun b ps q => ⟨#[], by rw [upd_ne (ne_of_none q hn), q]; simp⟩
theorem Un.write (mu : Mut (H x)) (he : e = x ∨ H e = some (.own x)) (k : ∀ b u, b ≠ e → h.get? b = some u → h'.get? b = some u) (heo : ∃ u, h'.get? e = some u) : Un fs ex H (upd H x o) h h' := by
  have hx : ∀ b, H b = none → b ≠ x := fun b n z => by subst z; rw [n] at mu; exact mu
  have hb : ∀ b, H b = none → b ≠ e := fun b n z => by
    subst z
    rcases he with r | r
    · exact hx b n r
    · rw [n] at r; cases r
  have hm : ∀ b u, H b = some u → ¬ Mut (some u) → b ≠ x := fun b u q nm z => by subst z; rw [q] at mu; exact nm mu
  refine ⟨fun b u q n _ _ => k b u (hb b n) q, fun b u q n _ _ => ⟨u.slots, k b u (hb b n) q⟩, fun b u q n _ => by rw [upd_ne (hx b n)]; exact n, fun b u q _ => ?_,
    fun b xs q => by rw [upd_ne (hm b _ q fun z => z)]; exact q, fun b u xs q => by rw [upd_ne (hm b _ q fun z => z)]; exact q, fun b ps q => ⟨#[], by rw [upd_ne (hm b _ q fun z => z), q]; simp⟩⟩
  by_cases hbe : b = e
  · subst hbe; exact heo
  · exact ⟨u, k b u hbe q⟩
end

def trk (h : Heap) (H : Hp) : List Addr := (List.range h.objs.size).filter fun a => (H a).isSome
def hidT (h : Heap) (H : Hp) : Heap := PySem.W.hideAll h (trk h H)
theorem hidT_size (h : Heap) (H : Hp) : (hidT h H).objs.size = h.objs.size := PySem.W.hideAll_size _ _
theorem hidT_get {h : Heap} {H : Hp} {b : Addr} {o : Obj} (e : h.get? b = some o) (n : H b = none) : (hidT h H).get? b = some o :=
  PySem.W.hideAll_get _ e fun hm => by
    have q : (H b).isSome = true := (List.mem_filter.mp hm).2
    rw [n] at q; simp at q
theorem of_hidT {h : Heap} {H : Hp} {b : Addr} {o : Obj} (e : (hidT h H).get? b = some o) : h.get? b = some o ∧ H b = none := by
  have e' : h.get? b = some o := PySem.W.of_hideAll (trk h H) e
  refine ⟨e', ?_⟩
  cases q : H b with
  | none => rfl
  | some x =>
    have hm : b ∈ trk h H := List.mem_filter.mpr ⟨List.mem_range.mpr (Heap.lt_size e'), by simp [q]⟩
    have z : (hidT h H).get? b = none := PySem.W.hideAll_none (trk h H) hm
    rw [z] at e; cases e

def allNews (g h : Heap) (L : Addr) : List (Addr × Obj) := (List.range h.objs.size).filterMap fun a => if a = L ∨ (g.get? a).isSome = true then none else (h.get? a).map fun o => (a, o)
def rest (g h : Heap) (L d : Addr) : List (Addr × Obj) := (allNews g h L).filter fun p => decide (p.1 ≠ d)
end L2

namespace L2
open PySem PySem.Spec PyProof.Rows

/-- the module's facts, over the base: the heap at the law's entry without what is tracked there -/
structure Mod (K : PySem.W.Frag) (mg : Str → Option Value) (base : Heap) : Prop where
  kin : K.In base
  glob : base.Ns mainGlobals mg
  blt : ∃ mb, base.Ns builtinsNs mb ∧ ∀ x : Str, x ≠ "__name__" → mb x = bootBuiltins x
  nolimit : base.NoLimit

/-- the context: a def's body (or a comprehension's block) running. base: fixed through the whole law; s₀, H₀: the entry; outer: the frames whose slots others may change (a def's callers); stack: all frames that run;
   ex: iterators that were made ahead of the entry and are walked here (a comprehension's); fn: the names whose cells were made at the entry (a def: all; a comprehension's block: its own); calm: not within an except suite; pn: pins that every state bears; xe: what is wanted of an exception that leaves the code -/
structure Cx where
  prog : Program
  w : World
  K : PySem.W.Frag
  mg : Str → Option Value
  base : Heap
  A : Around
  N : List Str
  s₀ : Shared
  H₀ : Hp
  env : Env
  outer : List Env
  stack : List Env
  ex : List Addr
  fn : Str → Bool
  calm : Bool
  pn : List (Addr × Obj)
  xe : Value → Shared → Prop
/-- the callers' frames -/
def frs (l : List Env) : List Addr := l.filterMap (·.frame)
abbrev Cx.fs (X : Cx) : List Addr := frs X.outer

def Vis (sc : Scope) (x : Str) : Prop := sc.names.lookup x = some .local ∨ sc.names.lookup x = some .cell ∨ sc.names.lookup x = some .free
def Loc (sc : Scope) (x : Str) : Prop := sc.names.lookup x = some .local ∨ sc.names.lookup x = some .cell
def Look (env : Env) (h : Heap) (m : Str → Option Value) (x : Str) (u : Value) : Prop :=
  (env.kindOf x = some .local ∧ m x = some u) ∨ ((env.kindOf x = some .cell ∨ env.kindOf x = some .free) ∧ ∃ c, env.cells.lookup x = some c ∧ h.IsCell c (some u))

structure Cx.Ok (X : Cx) : Prop where
  mod : Mod X.K X.mg X.base
  kind : X.env.scope.kind = .function
  glob : X.env.globals = mainGlobals
  blt : X.env.builtins = builtinsNs
  above : X.s₀.heap.objs.size ≤ X.env.locals
  inj : ∀ x y c, X.env.cells.lookup x = some c → X.env.cells.lookup y = some c → x = y
  has : ∀ x, (X.env.kindOf x = some .cell ∨ X.env.kindOf x = some .free) → ∃ c, X.env.cells.lookup x = some c
  cab : ∀ x c, X.fn x = true → X.env.cells.lookup x = some c → X.s₀.heap.objs.size ≤ c
  hd : X.calm = true → X.A.handled = none
  frames : X.A.frames = some X.stack
  stk : X.stack = X.outer ∨ (X.stack = X.env :: X.outer ∧ X.env.frame = some X.env.locals)
  exf : ∀ b ∈ X.ex, b ≠ X.env.locals ∧ ∀ x c, X.env.cells.lookup x = some c → c ≠ b
  bs : ∀ b o, X.base.get? b = some o → X.s₀.heap.get? b = some o ∧ X.H₀ b = none
  bsz : X.base.objs.size ≤ X.s₀.heap.objs.size
  noex : ∀ b o, X.base.get? b = some o → b ∉ X.ex
  exfs : ∀ b ∈ X.ex, b ∉ X.fs
  funs : X.s₀.heap.FunFrames X.base X.outer
  frf : ∀ b ∈ X.fs, X.H₀ b = none

structure Inv (X : Cx) (pins : List (Addr × Obj)) (σ : List (Option V)) (H : Hp) (s : Shared) : Prop where
  ok : X.Ok
  os : s.os = X.s₀.os
  bare : AllBare s.gens
  base : Un X.fs X.ex X.H₀ H X.s₀.heap s.heap
  loc : ∃ m, s.heap.Ns X.env.locals m ∧ ∀ (i : Nat) (x : Str) (v : V), X.N[i]? = some x → σ[i]? = some (some v) → Vis X.env.scope x → ∃ u, RelV v u ∧ Look X.env s.heap m x u
  cell : ∀ x c, X.env.cells.lookup x = some c → ∃ v, s.heap.IsCell c v
  free : H X.env.locals = none
  freeC : ∀ x c, X.env.cells.lookup x = some c → H c = none
  pin : ∀ p ∈ X.pn ++ pins, s.heap.get? p.1 = some p.2 ∧ H p.1 = none ∧ p.1 ≠ X.env.locals ∧ p.1 ∉ X.fs ∧ ∀ v, p.2.data ≠ .cell v
  hok : HOk X.prog X.w H s.heap
  len : σ.length = X.N.length

section
variable {X : Cx} {pins : List (Addr × Obj)} {σ : List (Option V)} {H H' : Hp} {s : Shared} {h' : Heap}

theorem Cx.Ok.nofr (ok : X.Ok) {b : Addr} {o : Obj} (e : X.base.get? b = some o) : b ∉ X.fs := fun hb => by
  have := (ok.funs.mem hb).1
  rw [e] at this; cases this
theorem Inv.bs (I : Inv X pins σ H s) : ∀ b o, X.base.get? b = some o → s.heap.get? b = some o ∧ H b = none := fun b o e =>
  ⟨I.base.keep b o (I.ok.bs b o e).1 (I.ok.bs b o e).2 (I.ok.nofr e) (I.ok.noex b o e), I.base.free b o (I.ok.bs b o e).1 (I.ok.bs b o e).2 (I.ok.noex b o e)⟩
theorem Inv.bk (I : Inv X pins σ H s) : ∀ b o, X.base.get? b = some o → s.heap.get? b = some o := fun b o e => (I.bs b o e).1
theorem Inv.mod (I : Inv X pins σ H s) : Mod X.K X.mg X.base := I.ok.mod
theorem Inv.kIn (I : Inv X pins σ H s) : X.K.In s.heap := I.ok.mod.kin.keeps I.bk
theorem Inv.nolimit (I : Inv X pins σ H s) : s.heap.NoLimit := I.ok.mod.nolimit.keeps I.bk
theorem Inv.lt (I : Inv X pins σ H s) : X.env.locals < s.heap.objs.size := let ⟨_, hn, _⟩ := I.loc; hn.lt
theorem Inv.sz (I : Inv X pins σ H s) : X.s₀.heap.objs.size ≤ s.heap.objs.size := Nat.le_trans I.ok.above (Nat.le_of_lt I.lt)
theorem Inv.nofs (I : Inv X pins σ H s) {a : Addr} (h : s.heap.objs.size ≤ a) : a ∉ X.fs := fun hb => by
  obtain ⟨_, o, ho, _⟩ := I.ok.funs.mem hb
  exact absurd (Nat.lt_of_lt_of_le (Heap.lt_size ho) (Nat.le_trans I.sz h)) (Nat.lt_irrefl _)
theorem Inv.cne (I : Inv X pins σ H s) : ∀ x c, X.env.cells.lookup x = some c → c ≠ X.env.locals := fun x c e z => by
  obtain ⟨v, o, ho, hd⟩ := I.cell x c e
  obtain ⟨m, ⟨o', es, ep, ho', hd', _⟩, _⟩ := I.loc
  rw [z, ho'] at ho; cases ho; rw [hd'] at hd; cases hd
theorem Inv.funs (I : Inv X pins σ H s) : s.heap.FunFrames X.base X.outer := by
  have all : ∀ (l : List Env), (∀ b ∈ frs l, b ∈ X.fs) → X.s₀.heap.FunFrames X.base l → s.heap.FunFrames X.base l := by
    intro l
    induction l with
    | nil => intro _ _; trivial
    | cons env r ih =>
      intro hs hl
      obtain ⟨hk, ⟨L, o, hf, hn, ho, hd⟩, hr⟩ := hl
      have hL : L ∈ X.fs := hs L (by unfold frs; rw [List.filterMap_cons, hf]; exact List.mem_cons_self)
      obtain ⟨sl, e⟩ := I.base.slot L o ho (I.ok.frf L hL) hL fun z => I.ok.exfs L z hL
      exact ⟨hk, ⟨L, _, hf, hn, e, hd⟩, ih (fun b hb => hs b (by unfold frs; rw [List.filterMap_cons, hf]; exact List.mem_cons_of_mem _ hb)) hr⟩
  exact all X.outer (fun _ hb => hb) I.ok.funs

/-- the frames that run, for a call -/
theorem Inv.stack (I : Inv X pins σ H s) : s.heap.FunFrames X.base X.stack := by
  rcases I.ok.stk with e | ⟨e, hf⟩
  · rw [e]; exact I.funs
  · rw [e]
    obtain ⟨m, hn, _⟩ := I.loc
    refine .cons (by rw [I.ok.kind]; decide) hf hn ?_ I.funs
    exact Heap.get?_none_of_le (Nat.le_trans I.ok.bsz I.ok.above)
theorem Inv.stkSub (I : Inv X pins σ H s) : ∀ b ∈ frs X.stack, b ∈ X.env.locals :: X.fs := fun b hb => by
  rcases I.ok.stk with e | ⟨e, hf⟩
  · rw [e] at hb; exact List.mem_cons_of_mem _ hb
  · rw [e] at hb
    unfold frs at hb
    rw [List.filterMap_cons, hf] at hb
    exact hb
theorem Inv.stkFree (I : Inv X pins σ H s) : ∀ b ∈ frs X.stack, H b = none := fun b hb => by
  rcases List.mem_cons.mp (I.stkSub b hb) with e | hb
  · rw [e]; exact I.free
  · obtain ⟨_, o, ho, _⟩ := I.ok.funs.mem hb
    exact I.base.free b o ho (I.ok.frf b hb) fun z => I.ok.exfs b z hb

/-- THE STEP: the untracked objects but the frame and the records at ch are kept (the callers' frames up to slots), the frame's map is kept, the new abstract heap is held -/
theorem Inv.step {g' : Array GenState} {t' : Nat} {d' : Drawn} {ch : List Addr} (I : Inv X pins σ H s)
    (hch : ∀ b ∈ ch, (b ∈ X.ex ∨ X.s₀.heap.objs.size ≤ b) ∧ b ≠ X.env.locals ∧ (∀ x c, X.env.cells.lookup x = some c → c ≠ b) ∧ ∀ p ∈ X.pn ++ pins, p.1 ≠ b)
    (keep : ∀ b o, b ≠ X.env.locals → b ∉ X.fs → b ∉ ch → s.heap.get? b = some o → H b = none → h'.get? b = some o)
    (slot : ∀ b o, b ≠ X.env.locals → b ∈ X.fs → b ∉ ch → s.heap.get? b = some o → H b = none → ∃ sl, h'.get? b = some { o with slots := sl }) (free : ∀ b o, b ∉ ch → s.heap.get? b = some o → H b = none → H' b = none)
    (there : ∀ b o, b ∉ ch → s.heap.get? b = some o → ∃ o', h'.get? b = some o')
    (tups : ∀ b xs, H b = some (.tup xs) → H' b = some (.tup xs)) (frzs : ∀ b o u, H b = some (.frz o u) → H' b = some (.frz o u)) (tbls : ∀ b ps, H b = some (.tbl ps) → ∃ more, H' b = some (.tbl (ps ++ more)))
    (ns : ∀ m, s.heap.Ns X.env.locals m → h'.Ns X.env.locals m) (hok : HOk X.prog X.w H' h') (hg : AllBare g') :
    Inv X pins σ H' { s with heap := h', gens := g', drawn := d', toks := t' } := by
  have neL : ∀ b o, X.s₀.heap.get? b = some o → b ≠ X.env.locals := fun b o e => Nat.ne_of_lt (Nat.lt_of_lt_of_le (Heap.lt_size e) I.ok.above)
  have neC : ∀ b o, X.s₀.heap.get? b = some o → b ∉ X.ex → b ∉ ch := fun b o e hx hb => by
    rcases (hch b hb).1 with z | z
    · exact hx z
    · exact absurd (Nat.lt_of_lt_of_le (Heap.lt_size e) z) (Nat.lt_irrefl _)
  have cellK : ∀ x c, X.env.cells.lookup x = some c → ∀ v, s.heap.IsCell c v → h'.IsCell c v := fun x c e v ⟨o, ho, hd⟩ => by
    have nch : c ∉ ch := fun z => (hch c z).2.2.1 x c e rfl
    by_cases hc : c ∈ X.fs
    · obtain ⟨sl, q⟩ := slot c o (I.cne x c e) hc nch ho (I.freeC x c e)
      exact ⟨_, q, hd⟩
    · exact ⟨o, keep c o (I.cne x c e) hc nch ho (I.freeC x c e), hd⟩
  refine ⟨I.ok, I.os, hg, ⟨fun b o e n hb hx => ?_, fun b o e n hb hx => ?_, fun b o e n hx => ?_, fun b o e hx => ?_, fun b xs e => tups b xs (I.base.tups b xs e), fun b o xs e => frzs b o xs (I.base.frzs b o xs e), fun b ps e => ?_⟩, ?_, fun x c e => ?_, ?_, fun x c e => ?_, fun p hp => ?_, hok, I.len⟩
  · exact keep b o (neL b o e) hb (neC b o e hx) (I.base.keep b o e n hb hx) (I.base.free b o e n hx)
  · obtain ⟨sl, e1⟩ := I.base.slot b o e n hb hx
    obtain ⟨sl', e2⟩ := slot b _ (neL b o e) hb (neC b o e hx) e1 (I.base.free b o e n hx)
    exact ⟨sl', e2⟩
  · obtain ⟨o', e1⟩ := I.base.there b o e hx
    exact free b o' (neC b o e hx) e1 (I.base.free b o e n hx)
  · obtain ⟨o', e1⟩ := I.base.there b o e hx
    exact there b o' (neC b o e hx) e1
  · obtain ⟨m1, e1⟩ := I.base.tbls b ps e
    obtain ⟨m2, e2⟩ := tbls b _ e1
    exact ⟨m1 ++ m2, by rw [e2, Array.append_assoc]⟩
  · obtain ⟨m, hn, hl⟩ := I.loc
    refine ⟨m, ns m hn, fun i x v e1 e2 e3 => ?_⟩
    obtain ⟨u, r, l⟩ := hl i x v e1 e2 e3
    refine ⟨u, r, ?_⟩
    rcases l with l | ⟨k, c, e, z⟩
    · exact .inl l
    · exact .inr ⟨k, c, e, cellK x c e _ z⟩
  · obtain ⟨v, z⟩ := I.cell x c e
    exact ⟨v, cellK x c e v z⟩
  · obtain ⟨m, ⟨o, _, _, ho, _⟩, _⟩ := I.loc
    exact free _ o (fun z => (hch _ z).2.1 rfl) ho I.free
  · obtain ⟨v, o, ho, hd⟩ := I.cell x c e
    exact free c o (fun z => (hch c z).2.2.1 x c e rfl) ho (I.freeC x c e)
  · obtain ⟨e, n, ne, nf, d⟩ := I.pin p hp
    have nch : p.1 ∉ ch := fun z => (hch p.1 z).2.2.2 p hp rfl
    exact ⟨keep p.1 p.2 ne nf nch e n, free p.1 p.2 nch e n, ne, nf, d⟩
/-- .. where the frame's own object is kept too -/
theorem Inv.un {t' : Nat} (I : Inv X pins σ H s) (u : Un X.fs [] H H' s.heap h') (hok : HOk X.prog X.w H' h') : Inv X pins σ H' { s with heap := h', toks := t' } := by
  obtain ⟨m, ⟨o, es, ep, ho, r⟩, _⟩ := id I.loc
  obtain ⟨sl, hL⟩ := u.any ho I.free (by simp)
  exact I.step (g' := s.gens) (d' := s.drawn) (ch := []) (fun _ z => nomatch z) (fun b o _ hb _ e n => u.keep b o e n hb (by simp)) (fun b o _ hb _ e n => u.slot b o e n hb (by simp)) (fun b o _ e n => u.free b o e n (by simp)) (fun b o _ e => u.there b o e (by simp)) u.tups u.frzs u.tbls (fun m' hm => by
    obtain ⟨o', es', ep', ho', r'⟩ := hm
    rw [ho] at ho'; cases ho'
    exact ⟨_, es', ep', hL, r'⟩) hok I.bare
/-- behind a call (or a comprehension's block): the slots of this frame may have changed too, the records at ch may have turned -/
theorem Inv.call {g' : Array GenState} {t' : Nat} {d' : Drawn} {ch : List Addr} (I : Inv X pins σ H s) (u : Un (frs X.stack) ch H H' s.heap h') (hok : HOk X.prog X.w H' h') (hg : AllBare g')
    (hch : ∀ b ∈ ch, (b ∈ X.ex ∨ X.s₀.heap.objs.size ≤ b) ∧ b ≠ X.env.locals ∧ (∀ x c, X.env.cells.lookup x = some c → c ≠ b) ∧ ∀ p ∈ X.pn ++ pins, p.1 ≠ b) :
    Inv X pins σ H' { s with heap := h', gens := g', drawn := d', toks := t' } := by
  obtain ⟨m, ⟨o, es, ep, ho, r⟩, _⟩ := id I.loc
  obtain ⟨sl, hL⟩ := u.any ho I.free fun z => (hch _ z).2.1 rfl
  exact I.step (ch := ch) hch (fun b o hL hb hc e n => u.keep b o e n (fun z => (List.mem_cons.mp (I.stkSub b z)).elim hL hb) hc) (fun b o _ _ hc e n => u.any e n hc) (fun b o hc e n => u.free b o e n hc) (fun b o hc e => u.there b o e hc) u.tups u.frzs u.tbls (fun m' hm => by
    obtain ⟨o', es', ep', ho', r'⟩ := hm
    rw [ho] at ho'; cases ho'
    exact ⟨_, es', ep', hL, r'⟩) hok hg
/-- an untracked record of ours (an iterator) has turned -/
theorem Inv.turned {t' : Nat} {it : Addr} (I : Inv X pins σ H s) (k : ∀ b o, b ≠ it → s.heap.get? b = some o → h'.get? b = some o) (hn : H it = none) (hL : it ≠ X.env.locals)
    (h1 : it ∈ X.ex ∨ X.s₀.heap.objs.size ≤ it) (h2 : ∀ x c, X.env.cells.lookup x = some c → c ≠ it) (h3 : ∀ p ∈ X.pn ++ pins, p.1 ≠ it) : Inv X pins σ H { s with heap := h', toks := t' } := by
  have nit : ∀ b u, H b = some u → b ≠ it := fun b u e z => by rw [z, hn] at e; cases e
  refine I.step (g' := s.gens) (d' := s.drawn) (ch := [it]) (fun b hb => ?_) (fun b o _ _ hc e _ => k b o (fun z => hc (by simp [z])) e) (fun b o _ _ hc e _ => ⟨o.slots, k b o (fun z => hc (by simp [z])) e⟩) (fun _ _ _ _ n => n)
    (fun b o hc e => ⟨o, k b o (fun z => hc (by simp [z])) e⟩) (fun _ _ e => e) (fun _ _ _ e => e) (fun b ps e => ⟨#[], by rw [e]; simp⟩) (fun m hm => ?_) (fun b u e => ?_) I.bare
  · have e : b = it := by simpa using hb
    subst e
    exact ⟨h1, hL, h2, h3⟩
  · obtain ⟨o, es, ep, ho, r⟩ := hm
    exact ⟨o, es, ep, k _ o (Ne.symm hL) ho, r⟩
  · refine (I.hok b u e).stay (fun c v hc q => k c v ?_ q) (fun _ q => q) fun _ _ q => q
    rcases hc with z | z
    · rw [z]; exact nit b u e
    · exact nit c _ z
theorem Inv.tok (I : Inv X pins σ H s) (t : Nat) : Inv X pins σ H { s with toks := t } := I.un (h' := s.heap) (t' := t) Un.refl I.hok
/-- all objects kept -/
theorem Inv.kept {t' : Nat} (I : Inv X pins σ H s) (k : ∀ b u, s.heap.get? b = some u → h'.get? b = some u) : Inv X pins σ H { s with heap := h', toks := t' } := I.un (Un.kept k) (I.hok.kept k)
/-- a new object laid and tracked -/
theorem Inv.laid {a : Addr} {o : HO} {t' : Nat} (I : Inv X pins σ H s) (k : ∀ b u, s.heap.get? b = some u → h'.get? b = some u) (hp : s.heap.objs.size ≤ a) (new : ObjOk X.prog X.w (upd H a o) h' a o) :
    Inv X pins σ (upd H a o) { s with heap := h', toks := t' } := I.un (Un.laid k hp (I.hok.fresh hp)) (I.hok.laid k hp new)
/-- an object written -/
theorem Inv.write {x e : Addr} {o : HO} {t' : Nat} (I : Inv X pins σ H s) (mu : Mut (H x)) (he : e = x ∨ H e = some (.own x)) (k : ∀ b u, b ≠ e → s.heap.get? b = some u → h'.get? b = some u) (heo : ∃ u, h'.get? e = some u)
    (new : ObjOk X.prog X.w (upd H x o) h' x o) : Inv X pins σ (upd H x o) { s with heap := h', toks := t' } := I.un (Un.write mu he k heo) (I.hok.write mu he k heo new)
theorem Inv.pins_of {pins' : List (Addr × Obj)} (I : Inv X pins σ H s) (h : ∀ p ∈ pins', s.heap.get? p.1 = some p.2 ∧ H p.1 = none ∧ p.1 ≠ X.env.locals ∧ p.1 ∉ X.fs ∧ ∀ v, p.2.data ≠ .cell v) : Inv X pins' σ H s :=
  ⟨I.ok, I.os, I.bare, I.base, I.loc, I.cell, I.free, I.freeC, fun p hp => (List.mem_append.mp hp).elim (fun z => I.pin p (List.mem_append_left _ z)) (h p), I.hok, I.len⟩

theorem nodup_ix {N : List Str} (hN : N.Nodup) {i j : Nat} {x : Str} (a : N[i]? = some x) (b : N[j]? = some x) : i = j := by
  obtain ⟨h1, e1⟩ := List.getElem?_eq_some_iff.mp a
  obtain ⟨h2, e2⟩ := List.getElem?_eq_some_iff.mp b
  exact (List.getElem_inj hN).mp (e1.trans e2.symm)

/-- a name is stored; what changed -/
theorem store_ok2 {M : Model} {A : Around} {E : Value → Shared → Prop} {i : Nat} {x : Str} {v : V} {u : Value} {Q : Unit → Shared → Prop} (I : Inv X pins σ H s) (hN : X.N.Nodup) (hi : X.N[i]? = some x) (hx : Loc X.env.scope x) (r : RelV v u)
    (h : ∀ s', Inv X pins (σ.set i (some v)) H s' → (∃ a, Heap.SameBut a s.heap s'.heap ∧ (a = X.env.locals ∨ X.env.cells.lookup x = some a)) → Q () s') (hf : X.fn x = true ∨ X.env.scope.names.lookup x = some .local := by first | exact .inl rfl | exact .inr rfl | assumption) : wpAny M A (storeName X.env x u) Q E s := by
  obtain ⟨m, hn, hl⟩ := id I.loc
  have hcls : (X.env.scope.kind == .class || (X.env.scope.kind == .module && X.env.locals != X.env.globals)) = false := by rw [I.ok.kind]; rfl
  have hiσ : i < σ.length := by rw [I.len]; exact (List.getElem?_eq_some_iff.mp hi).1
  have cne := I.cne
  have tracked : ∀ {a : Addr} {h' : Heap}, (∃ o, s.heap.get? a = some o ∧ H a = none) → Heap.SameBut a s.heap h' → HOk X.prog X.w H h' := fun {a h'} ha hs b ob e => by
    obtain ⟨_, _, hfree⟩ := ha
    refine (I.hok b ob e).stay (fun c w' hc q => (hs.2 c ?_).trans q) (fun _ q => q) fun _ _ q => q
    rintro rfl
    rcases hc with rfl | hc
    · rw [hfree] at e; cases e
    · rw [hfree] at hc; cases hc
  rcases hx with hk | hk
  · refine wpAny_storeName_local hk hn (fun h' hn' hs => ?_) hcls
    obtain ⟨oL, _, _, hoL, _⟩ := id hn
    refine h _ ⟨I.ok, I.os, I.bare, ⟨fun b o e n hb hx => ?_, fun b o e n hb hx => ?_, I.base.free, fun b o e hx => ?_, I.base.tups, I.base.frzs, I.base.tbls⟩, ⟨_, hn', fun j y v' e1 e2 e3 => ?_⟩, fun y c e => ?_, I.free, I.freeC, fun p hp => ?_, tracked ⟨oL, hoL, I.free⟩ hs, by simpa using I.len⟩ ⟨_, hs, .inl rfl⟩
    · exact (hs.2 b (Nat.ne_of_lt (Nat.lt_of_lt_of_le (Heap.lt_size e) I.ok.above))).trans (I.base.keep b o e n hb hx)
    · obtain ⟨sl, e1⟩ := I.base.slot b o e n hb hx
      exact ⟨sl, (hs.2 b (Nat.ne_of_lt (Nat.lt_of_lt_of_le (Heap.lt_size e) I.ok.above))).trans e1⟩
    · obtain ⟨o', e1⟩ := I.base.there b o e hx
      exact ⟨o', (hs.2 b (Nat.ne_of_lt (Nat.lt_of_lt_of_le (Heap.lt_size e) I.ok.above))).trans e1⟩
    · by_cases hj : j = i
      · subst hj
        rw [hi] at e1; cases e1
        rw [List.getElem?_set_self hiσ] at e2
        cases e2
        exact ⟨u, r, .inl ⟨hk, by simp⟩⟩
      · rw [List.getElem?_set_ne (Ne.symm hj)] at e2
        obtain ⟨u', r', q⟩ := hl j y v' e1 e2 e3
        refine ⟨u', r', ?_⟩
        rcases q with ⟨k, e⟩ | ⟨k, c, e, z⟩
        · refine .inl ⟨k, ?_⟩
          have : y ≠ x := fun e => hj (nodup_ix hN e1 (e ▸ hi))
          simp [this, e]
        · exact .inr ⟨k, c, e, z.sameBut hs (cne y c e)⟩
    · obtain ⟨w', z⟩ := I.cell y c e
      exact ⟨w', z.sameBut hs (cne y c e)⟩
    · obtain ⟨e, n, ne, nf, d⟩ := I.pin p hp
      exact ⟨(hs.2 p.1 ne).trans e, n, ne, nf, d⟩
  · have hfn : X.fn x = true := by
      rcases hf with z | z
      · exact z
      · rw [z] at hk; cases hk
    obtain ⟨c, hc⟩ := I.ok.has x (.inl hk)
    obtain ⟨w', z⟩ := I.cell x c hc
    refine wpAny_storeName_cell I.ok.kind hk hc z (fun h' hc' hs => ?_)
    obtain ⟨oc, hoc, hocd⟩ := id z
    refine h { s with heap := h' } ⟨I.ok, I.os, I.bare, ⟨fun b o e n hb hx => ?_, fun b o e n hb hx => ?_, I.base.free, fun b o e hx => ?_, I.base.tups, I.base.frzs, I.base.tbls⟩, ⟨m, hn.sameBut hs (Ne.symm (cne x c hc)), fun j y v' e1 e2 e3 => ?_⟩, fun y c' e => ?_, I.free, I.freeC, fun p hp => ?_, tracked ⟨oc, hoc, I.freeC x c hc⟩ hs, by simpa using I.len⟩ ⟨c, hs, .inr hc⟩
    · exact (hs.2 b (Nat.ne_of_lt (Nat.lt_of_lt_of_le (Heap.lt_size e) (I.ok.cab x c hfn hc)))).trans (I.base.keep b o e n hb hx)
    · obtain ⟨sl, e1⟩ := I.base.slot b o e n hb hx
      exact ⟨sl, (hs.2 b (Nat.ne_of_lt (Nat.lt_of_lt_of_le (Heap.lt_size e) (I.ok.cab x c hfn hc)))).trans e1⟩
    · obtain ⟨o', e1⟩ := I.base.there b o e hx
      exact ⟨o', (hs.2 b (Nat.ne_of_lt (Nat.lt_of_lt_of_le (Heap.lt_size e) (I.ok.cab x c hfn hc)))).trans e1⟩
    · by_cases hj : j = i
      · subst hj
        rw [hi] at e1; cases e1
        rw [List.getElem?_set_self hiσ] at e2
        cases e2
        exact ⟨u, r, .inr ⟨.inl hk, c, hc, hc'⟩⟩
      · rw [List.getElem?_set_ne (Ne.symm hj)] at e2
        obtain ⟨u', r', q⟩ := hl j y v' e1 e2 e3
        refine ⟨u', r', ?_⟩
        rcases q with q | ⟨k, c', e, z'⟩
        · exact .inl q
        · refine .inr ⟨k, c', e, z'.sameBut hs ?_⟩
          rintro rfl
          exact hj (nodup_ix hN e1 (I.ok.inj _ _ _ e hc ▸ hi))
    · by_cases hcc : c' = c
      · subst hcc; exact ⟨_, hc'⟩
      · obtain ⟨w2, z2⟩ := I.cell y c' e
        exact ⟨w2, z2.sameBut hs hcc⟩
    · obtain ⟨e, n, ne, nf, d⟩ := I.pin p hp
      refine ⟨(hs.2 p.1 ?_).trans e, n, ne, nf, d⟩
      intro q
      rw [q, hoc] at e
      have q' : oc = p.2 := Option.some.inj e
      exact d w' (by rw [← q']; exact hocd)
theorem store_ok {M : Model} {A : Around} {E : Value → Shared → Prop} {i : Nat} {x : Str} {v : V} {u : Value} {Q : Unit → Shared → Prop} (I : Inv X pins σ H s) (hN : X.N.Nodup) (hi : X.N[i]? = some x) (hx : Loc X.env.scope x) (r : RelV v u)
    (h : ∀ s', Inv X pins (σ.set i (some v)) H s' → Q () s') (hf : X.fn x = true ∨ X.env.scope.names.lookup x = some .local := by first | exact .inl rfl | exact .inr rfl | assumption) : wpAny M A (storeName X.env x u) Q E s :=
  store_ok2 I hN hi hx r (fun s' I' _ => h s' I') hf
/-- behind a call or a block, the state as it is -/
theorem Inv.call' {s' : Shared} {ch : List Addr} (I : Inv X pins σ H s) (ho : s'.os = s.os) (u : Un (frs X.stack) ch H H' s.heap s'.heap) (hok : HOk X.prog X.w H' s'.heap) (hg : AllBare s'.gens)
    (hch : ∀ b ∈ ch, (b ∈ X.ex ∨ X.s₀.heap.objs.size ≤ b) ∧ b ≠ X.env.locals ∧ (∀ x c, X.env.cells.lookup x = some c → c ≠ b) ∧ ∀ p ∈ X.pn ++ pins, p.1 ≠ b) : Inv X pins σ H' s' := by
  obtain ⟨h', g', d', t', o'⟩ := s'
  have e : o' = s.os := ho
  subst e
  exact I.call (g' := g') (t' := t') (d' := d') u hok hg hch
end

/-- an exception: its class, its own dict's address (where it has one), the abstract heap behind it -/
abbrev XK := Value → Option Addr → Hp → Prop
abbrev St := List (Option V)
abbrev VK := V → Hp → Prop
/-- an expression's reading; a test's; an argument list's -/
abbrev TE := St → Hp → VK → Prop
abbrev TT := St → Hp → (Bool → Hp → Prop) → Prop
abbrev TA := St → Hp → (List V → Hp → Prop) → Prop
/-- what is wanted behind a statement -/
structure Ends where
  nx : St → Hp → Prop
  rt : VK
  bk : St → Hp → Prop := fun _ _ => False
  ct : St → Hp → Prop := fun _ _ => False
abbrev TS := Ends → St → Hp → Prop

def EP (X : Cx) (pins : List (Addr × Obj)) (σ : St) (Q : VK) (u : Value) (s' : Shared) : Prop := ∃ v H', Inv X pins σ H' s' ∧ RelV v u ∧ Q v H'
def TP (X : Cx) (pins : List (Addr × Obj)) (σ : St) (Q : Bool → Hp → Prop) (b : Bool) (s' : Shared) : Prop := ∃ H', Inv X pins σ H' s' ∧ Q b H'
def AP (X : Cx) (pins : List (Addr × Obj)) (σ : St) (Q : List V → Hp → Prop) (us : List Value) (s' : Shared) : Prop := ∃ vs H', Inv X pins σ H' s' ∧ Vals vs us ∧ Q vs H'
def SP (X : Cx) (pins : List (Addr × Obj)) (D : Ends) (f : Flow) (s' : Shared) : Prop :=
  match f with
  | .next => ∃ σ' H', Inv X pins σ' H' s' ∧ D.nx σ' H'
  | .brk => ∃ σ' H', Inv X pins σ' H' s' ∧ D.bk σ' H'
  | .cont => ∃ σ' H', Inv X pins σ' H' s' ∧ D.ct σ' H'
  | .ret u => ∃ v σ' H', Inv X pins σ' H' s' ∧ RelV v u ∧ D.rt v H'

def PE (X : Cx) (e : Expr) (t : TE) : Prop :=
  ∀ (pins : List (Addr × Obj)) (s : Shared) (σ : St) (H : Hp) (Q : VK), Inv X pins σ H s → t σ H Q → wpAny (model X.prog X.w) X.A (eval e X.env) (EP X pins σ Q) X.xe s
def PT (X : Cx) (e : Expr) (t : TT) : Prop :=
  ∀ (pins : List (Addr × Obj)) (s : Shared) (σ : St) (H : Hp) (Q : Bool → Hp → Prop), Inv X pins σ H s → t σ H Q → wpAny (model X.prog X.w) X.A (isTrue e X.env (eval e X.env)) (TP X pins σ Q) X.xe s
/-- a test whatever its 'whole' is (and, or) -/
def PW (X : Cx) (e : Expr) (t : TT) : Prop :=
  ∀ (whole : Sem Value) (pins : List (Addr × Obj)) (s : Shared) (σ : St) (H : Hp) (Q : Bool → Hp → Prop), Inv X pins σ H s → t σ H Q → wpAny (model X.prog X.w) X.A (isTrue e X.env whole) (TP X pins σ Q) X.xe s
theorem PW.pt {X : Cx} {e : Expr} {t : TT} (h : PW X e t) : PT X e t := h _
/-- an argument list (no star), from the left -/
def PA (X : Cx) (es : List Expr) (t : TA) : Prop :=
  ∀ (pos : Pos) (pins : List (Addr × Obj)) (s : Shared) (σ : St) (H : Hp) (Q : List V → Hp → Prop), Inv X pins σ H s → t σ H Q → wpAny (model X.prog X.w) X.A (spliced (backTo pos (starEach es X.env))) (AP X pins σ Q) X.xe s
def PS (X : Cx) (st : Stmt) (t : TS) : Prop :=
  ∀ (pins : List (Addr × Obj)) (s : Shared) (σ : St) (H : Hp) (D : Ends), Inv X pins σ H s → t D σ H → wpAny (model X.prog X.w) X.A (exec st X.env) (SP X pins D) X.xe s
def PSs (X : Cx) (st : List Stmt) (t : TS) : Prop :=
  ∀ (pins : List (Addr × Obj)) (s : Shared) (σ : St) (H : Hp) (D : Ends), Inv X pins σ H s → t D σ H → wpAny (model X.prog X.w) X.A (execs st X.env) (SP X pins D) X.xe s
/-- weaken the end -/
theorem thn {α : Type} {t : Sem α} {Q Q' : α → Shared → Prop} {M : Model} {A : Around} {E : Value → Shared → Prop} {s : Shared} (h : wpAny M A t Q E s) (hQ : ∀ a s, Q a s → Q' a s) : wpAny M A t Q' E s := wpAny_mono h hQ fun _ _ x => x
end L2

namespace L2
open PySem PySem.Spec PyProof.Rows
section
variable {X : Cx}

def tVar (i : Nat) : TE := fun σ H Q => ∃ v, σ[i]? = some (some v) ∧ Q v H
def tC (v : V) : TE := fun _ H Q => Q v H
theorem pe_var {i : Nat} {x : Str} {pos : Pos} (hN : X.N[i]? = some x) (hv : Vis X.env.scope x) (hd : (x == ("__debug__" : Str)) = false := by decide) (hcd : (x == ("__classdict__" : Str)) = false := by decide) : PE X (.Name x pos) (tVar i) := by
  intro pins s σ H Q I h
  obtain ⟨v, e, h⟩ := h
  obtain ⟨m, hn, hl⟩ := I.loc
  obtain ⟨u, r, l⟩ := hl i x v hN e hv
  have fin : EP X pins σ Q u s := ⟨v, H, I, r, h⟩
  rcases l with ⟨hk, hm⟩ | ⟨hk, c, hc, hcell⟩
  · exact wpAny_Name (wpAny_loadName_local I.ok.kind hk hn hm fin) hd
  · rcases hk with hk | hk
    · exact wpAny_Name (wpAny_loadName_cell I.ok.kind hk hc hcell fin) hd
    · exact wpAny_Name (wpAny_loadName_free I.ok.kind hk hc hcell fin hcd) hd
theorem pe_int {i j pos} : PE X (.Constant (.int i) j pos) (tC (.int i)) := fun _ _ _ H _ I h => wpAny_Constant_int ⟨.int i, H, I.tok _, ⟨_, rfl⟩, h⟩
theorem pe_bl {b j pos} : PE X (.Constant (.bool b) j pos) (tC (.bl b)) := fun _ _ _ H _ I h => Constant_bool ⟨.bl b, H, I, rfl, h⟩
theorem pe_non {j pos} : PE X (.Constant .none j pos) (tC .non) := fun _ _ _ H _ I h => Constant_none ⟨.non, H, I, rfl, h⟩
theorem pe_str {x j pos} : PE X (.Constant (.str x) j pos) (tC (.str x)) := fun _ _ _ H _ I h => Calls.Constant_str ⟨.str x, H, I.tok _, ⟨_, rfl⟩, h⟩

/-- a global name of the def -/
def Gl (X : Cx) (x : Str) : Prop := X.env.kindOf x = some .globalImplicit
theorem ld_glob {E : Value → Shared → Prop} {pins : List (Addr × Obj)} {s : Shared} {σ : St} {H : Hp} {x : Str} {u : Value} {pos : Pos} {Q : Value → Shared → Prop} (I : Inv X pins σ H s) (hg : Gl X x) (hm : X.mg x = some u) (h : Q u s)
    (hd : (x == ("__debug__" : Str)) = false := by decide) : wpAny (model X.prog X.w) X.A (eval (.Name x pos) X.env) Q E s :=
  Calls.Name_function_global I.ok.kind hg (Calls.loadGlobal_global (by rw [I.ok.glob]; exact I.mod.glob.keeps I.bk) hm h) hd
theorem ld_blt {E : Value → Shared → Prop} {pins : List (Addr × Obj)} {s : Shared} {σ : St} {H : Hp} {x : Str} {u : Value} {pos : Pos} {Q : Value → Shared → Prop} (I : Inv X pins σ H s) (hg : Gl X x) (hm : X.mg x = none) (hv : bootBuiltins x = some u) (h : Q u s)
    (hn : x ≠ "__name__" := by decide) (hd : (x == ("__debug__" : Str)) = false := by decide) : wpAny (model X.prog X.w) X.A (eval (.Name x pos) X.env) Q E s := by
  obtain ⟨mb, h1, h2⟩ := I.mod.blt
  exact Calls.Name_function_global I.ok.kind hg (Calls.loadGlobal_builtin (by rw [I.ok.glob]; exact I.mod.glob.keeps I.bk) hm (by rw [I.ok.blt]; exact h1.keeps I.bk) ((h2 x hn).trans hv) h) hd
/-- a module's constant, a class, a function, as a value -/
theorem pe_glob {x : Str} {v : V} {u : Value} {pos : Pos} (hg : Gl X x) (hm : X.mg x = some u) (r : RelV v u) (hd : (x == ("__debug__" : Str)) = false := by decide) : PE X (.Name x pos) (tC v) :=
  fun _ _ _ H _ I h => ld_glob I hg hm ⟨v, H, I, r, h⟩ hd
theorem pe_bltn {x : Str} {v : V} {u : Value} {pos : Pos} (hg : Gl X x) (hm : X.mg x = none) (hv : bootBuiltins x = some u) (r : RelV v u) (hn : x ≠ "__name__" := by decide) (hd : (x == ("__debug__" : Str)) = false := by decide) : PE X (.Name x pos) (tC v) :=
  fun _ _ _ H _ I h => ld_blt I hg hm hv ⟨v, H, I, r, h⟩ hn hd

variable {a b : Expr} {ta tb : TE} {pos : Pos}
/-- a comparison as a value, as a test -/
def tB (t : TE) : TT := fun σ H Q => t σ H fun x H1 => ∃ c, x = .bl c ∧ Q c H1
/-- an expression whose value is a bool, as a test -/
theorem pt_val {e : Expr} {t : TE} (h : PE X e t) (he : ∀ whole, isTrue e X.env whole = (do let v ← whole; standAt e.pos; holding [v] (truthy v)) := by intro _; rfl) : PT X e (tB t) := by
  intro pins s σ H Q I hw
  refine isTrue_plain (thn (h pins s σ H _ I hw) fun v s1 ⟨x, H1, I1, r1, q1⟩ => ?_) (he _)
  obtain ⟨d, rfl, q⟩ := q1
  cases r1
  exact wpAny_truthy_bool ⟨H1, I1, q⟩

variable {tA tB' : TT} {rest : List Expr}
def tAnd (t u : TT) : TT := fun σ H Q => t σ H fun c H1 => if c = true then u σ H1 Q else Q false H1
def tOr (t u : TT) : TT := fun σ H Q => t σ H fun c H1 => if c = true then Q true H1 else u σ H1 Q
def tNot (t : TT) : TT := fun σ H Q => t σ H fun c H1 => Q (!c) H1
theorem pw_and1 (ha : PT X a tA) : PW X (.BoolOp .And [a] pos) tA := by
  intro wh pins s σ H Q I h
  refine isTrue_and (thn (ha pins s σ H Q I h) fun c s1 e => ?_)
  cases c with
  | true => exact isTrue_and_nil e
  | false => exact e
theorem pw_or1 (ha : PT X a tA) : PW X (.BoolOp .Or [a] pos) tA := by
  intro wh pins s σ H Q I h
  refine isTrue_or (thn (ha pins s σ H Q I h) fun c s1 e => ?_)
  cases c with
  | false => exact isTrue_or_nil e
  | true => exact e
theorem pw_and (ha : PT X a tA) (hb : PW X (.BoolOp .And (b :: rest) pos) tB') : PW X (.BoolOp .And (a :: b :: rest) pos) (tAnd tA tB') := by
  intro wh pins s σ H Q I h
  refine isTrue_and (thn (ha pins s σ H _ I h) fun c s1 ⟨H1, I1, q1⟩ => ?_)
  cases c with
  | true => exact hb wh pins s1 σ H1 Q I1 q1
  | false => exact ⟨H1, I1, q1⟩
theorem pw_or (ha : PT X a tA) (hb : PW X (.BoolOp .Or (b :: rest) pos) tB') : PW X (.BoolOp .Or (a :: b :: rest) pos) (tOr tA tB') := by
  intro wh pins s σ H Q I h
  refine isTrue_or (thn (ha pins s σ H _ I h) fun c s1 ⟨H1, I1, q1⟩ => ?_)
  cases c with
  | true => exact ⟨H1, I1, q1⟩
  | false => exact hb wh pins s1 σ H1 Q I1 q1
theorem pt_not (ha : PT X a tA) : PT X (.UnaryOp .Not a pos) (tNot tA) := by
  intro pins s σ H Q I h
  exact isTrue_not (ha pins s σ H (fun c H1 => Q (!c) H1) I h)
/-- .. as values (bools) -/
def tAndV (ta tb : TE) : TE := fun σ H Q => ta σ H fun x H1 => ∃ c, x = .bl c ∧ if c = true then tb σ H1 Q else Q (.bl false) H1
def tNotV (ta : TE) : TE := fun σ H Q => ta σ H fun x H1 => ∃ c, x = .bl c ∧ Q (.bl (!c)) H1
theorem pe_one {op} {t : TE} (h : PE X a t) : PE X (.BoolOp op [a] pos) t := fun pins s σ H Q I hw => BoolOp_one (h pins s σ H Q I hw)
theorem pe_and (ha : PE X a ta) (hb : PE X (.BoolOp .And (b :: rest) pos) tb) : PE X (.BoolOp .And (a :: b :: rest) pos) (tAndV ta tb) := by
  intro pins s σ H Q I h
  refine BoolOp_and (thn (ha pins s σ H _ I h) fun v s1 ⟨x, H1, I1, r1, q1⟩ => ?_)
  obtain ⟨c, rfl, q1⟩ := q1
  cases r1
  refine wpAny_truthy_bool ?_
  cases c with
  | true => exact hb pins s1 σ H1 Q I1 q1
  | false => exact ⟨.bl false, H1, I1, rfl, q1⟩
theorem pe_not (ha : PE X a ta) : PE X (.UnaryOp .Not a pos) (tNotV ta) := by
  intro pins s σ H Q I h
  refine UnaryOp_ (thn (ha pins s σ H _ I h) fun v s1 ⟨x, H1, I1, r1, q1⟩ => ?_)
  obtain ⟨c, rfl, q1⟩ := q1
  cases r1
  exact not_of (wpAny_truthy_bool ⟨.bl (!c), H1, I1, rfl, q1⟩)
end
end L2

namespace L2
open PySem PySem.Spec PyProof.Rows

def SqL (K : PySem.W.Frag) (H : Hp) (a : Addr) (xs : List V) : Prop :=
  Rd H a (.lst xs) ∨
    ∃ (o : Obj) (its : Array Value) (n : Nat), K.lookup a = some o ∧ o.cls = .type "list" ∧ o.dict = none ∧ o.data = .seq its n ∧ its.size ≤ sizeLine ∧ Vals xs its.toList
def SqT (K : PySem.W.Frag) (H : Hp) (a : Addr) (xs : List V) : Prop :=
  Rd H a (.tup xs) ∨
    ∃ (o : Obj) (its : Array Value) (n : Nat), K.lookup a = some o ∧ o.cls = .type "tuple" ∧ o.data = .seq its n ∧ its.size ≤ sizeLine ∧ Vals xs its.toList
def absV : Value → Option V
  | .none => some .non
  | .bool b => some (.bl b)
  | .int i _ => some (.int i)
  | .str x _ => some (.str x)
  | .bytes b _ => some (.byt b)
  | .float b _ => some (.flt b)
  | .ref a => some (.ref a)
  | .type n => some (.ty n)
  | _ => none
theorem RelV.abs {x : V} {u : Value} (r : RelV x u) : absV u = some x := by
  cases x with
  | non => cases r; rfl
  | bl _ => cases r; rfl
  | int _ => obtain ⟨t, rfl⟩ := r; rfl
  | str _ => obtain ⟨t, rfl⟩ := r; rfl
  | byt _ => obtain ⟨t, rfl⟩ := r; rfl
  | flt _ => obtain ⟨t, rfl⟩ := r; rfl
  | ref _ => cases r; rfl
  | ty _ => cases r; rfl
theorem RelV.inj {x y : V} {u : Value} (r : RelV x u) (q : RelV y u) : x = y := Option.some.inj (r.abs.symm.trans q.abs)
theorem Vals.inj : ∀ {xs ys : List V} {us : List Value}, Vals xs us → Vals ys us → xs = ys
  | _, _, _, .nil, .nil => rfl
  | _, _, _, .cons r t, .cons r' t' => by rw [r.inj r', Vals.inj t t']
section
variable {X : Cx} {pins : List (Addr × Obj)} {σ : St} {H : Hp} {s : Shared} {a : Addr} {xs ys : List V}
theorem Inv.list (I : Inv X pins σ H s) (h : SqL X.K H a xs) : ∃ its : List Value, Vals xs its ∧ PlainL s.heap a its.toArray ∧ xs.length ≤ sizeLine := by
  rcases h with h | ⟨o, its, n, hk, hc, hd, hs, hz, r⟩
  · obtain ⟨z, its, n, r, e⟩ := h.ok I.hok
    exact ⟨its, r, ⟨_, n, e, rfl, rfl, rfl⟩, z⟩
  · refine ⟨its.toList, r, ⟨o, n, I.kIn a o hk, hc, hd, by simpa using hs⟩, ?_⟩
    have e := r.length
    simp only [Array.length_toList] at e
    omega
theorem Inv.tuple (I : Inv X pins σ H s) (h : SqT X.K H a xs) : ∃ its : List Value, Vals xs its ∧ IsTup s.heap a its.toArray ∧ xs.length ≤ sizeLine := by
  rcases h with h | ⟨o, its, n, hk, hc, hs, hz, r⟩
  · obtain ⟨z, its, r, p⟩ := h.ok I.hok
    exact ⟨its, r, p, z⟩
  · refine ⟨its.toList, r, ⟨o, I.kIn a o hk, hc, n, by simpa using hs⟩, ?_⟩
    have e := r.length
    simp only [Array.length_toList] at e
    omega
theorem Inv.list_inj (I : Inv X pins σ H s) (h : SqL X.K H a xs) (h' : SqL X.K H a ys) : xs = ys := by
  obtain ⟨its, r, ⟨o, n, e, _, _, d⟩, _⟩ := I.list h
  obtain ⟨its', r', ⟨o', n', e', _, _, d'⟩, _⟩ := I.list h'
  rw [e] at e'; cases e'
  rw [d] at d'
  injection d' with d1 _
  have : its = its' := by simpa using congrArg Array.toList d1
  subst this
  exact r.inj r'
theorem Inv.tuple_inj (I : Inv X pins σ H s) (h : SqT X.K H a xs) (h' : SqT X.K H a ys) : xs = ys := by
  obtain ⟨its, r, ⟨o, e, _, n, d⟩, _⟩ := I.tuple h
  obtain ⟨its', r', ⟨o', e', _, n', d'⟩, _⟩ := I.tuple h'
  rw [e] at e'; cases e'
  rw [d] at d'
  injection d' with d1 _
  have : its = its' := by simpa using congrArg Array.toList d1
  subst this
  exact r.inj r'
end

abbrev Cx.wish (X : Cx) (E : Value → Shared → Prop) : Cx := { X with xe := E }
/-- no exception leaves -/
abbrev Cx.nox (X : Cx) : Cx := X.wish fun _ _ => False
theorem Cx.Ok.wish {X : Cx} (ok : X.Ok) (E : Value → Shared → Prop) : (X.wish E).Ok :=
  ⟨ok.mod, ok.kind, ok.glob, ok.blt, ok.above, ok.inj, ok.has, ok.cab, ok.hd, ok.frames, ok.stk, ok.exf, ok.bs, ok.bsz, ok.noex, ok.exfs, ok.funs, ok.frf⟩
theorem Cx.Ok.unwish {X : Cx} {E : Value → Shared → Prop} (ok : (X.wish E).Ok) : X.Ok :=
  ⟨ok.mod, ok.kind, ok.glob, ok.blt, ok.above, ok.inj, ok.has, ok.cab, ok.hd, ok.frames, ok.stk, ok.exf, ok.bs, ok.bsz, ok.noex, ok.exfs, ok.funs, ok.frf⟩
section
variable {X : Cx} {pins : List (Addr × Obj)} {σ : St} {H : Hp} {s : Shared} {E : Value → Shared → Prop}
theorem Inv.wish (I : Inv X pins σ H s) (E : Value → Shared → Prop) : Inv (X.wish E) pins σ H s := ⟨I.ok.wish E, I.os, I.bare, I.base, I.loc, I.cell, I.free, I.freeC, I.pin, I.hok, I.len⟩
theorem Inv.unwish (I : Inv (X.wish E) pins σ H s) : Inv X pins σ H s := ⟨I.ok.unwish, I.os, I.bare, I.base, I.loc, I.cell, I.free, I.freeC, I.pin, I.hok, I.len⟩
theorem SP.unwish {D : Ends} {f : Flow} {s' : Shared} (h : SP (X.wish E) pins D f s') : SP X pins D f s' := by
  cases f with
  | next => obtain ⟨σ', H', I, q⟩ := h; exact ⟨σ', H', I.unwish, q⟩
  | brk => obtain ⟨σ', H', I, q⟩ := h; exact ⟨σ', H', I.unwish, q⟩
  | cont => obtain ⟨σ', H', I, q⟩ := h; exact ⟨σ', H', I.unwish, q⟩
  | ret u => obtain ⟨v, σ', H', I, r, q⟩ := h; exact ⟨v, σ', H', I.unwish, r, q⟩
theorem PT.nox {e : Expr} {t : TT} (h : PT X.nox e t) : PT X e t := fun pins s σ H Q I hw =>
  wpAny_mono (h pins s σ H Q (I.wish _) hw) (fun _ _ ⟨H', I', q⟩ => ⟨H', I'.unwish, q⟩) fun _ _ z => False.elim z
theorem PSs.nox {st : List Stmt} {t : TS} (h : PSs X.nox st t) : PSs X st t := fun pins s σ H D I hw =>
  wpAny_mono (h pins s σ H D (I.wish _) hw) (fun _ _ q => q.unwish) fun _ _ z => False.elim z
end

section
variable {X : Cx} {st : Stmt} {rest : List Stmt} {t u : TS} {e : Expr} {te : TE} {pos : Pos}
def tNext : TS := fun D σ H => D.nx σ H
def tSeq (t u : TS) : TS := fun D σ H => t { D with nx := u D } σ H
theorem pss_nil : PSs X [] tNext := fun _ _ σ H _ I h => wpAny_execs_nil ⟨σ, H, I, h⟩
theorem pss_cons (h1 : PS X st t) (h2 : PSs X rest u) : PSs X (st :: rest) (tSeq t u) := by
  intro pins s σ H D I h
  refine wpAny_execs_cons (thn (h1 pins s σ H { D with nx := u D } I h) fun f s1 q => ?_)
  cases f with
  | next =>
    obtain ⟨σ', H', I', q⟩ := q
    exact h2 pins s1 σ' H' D I' q
  | ret v => exact q
  | brk => exact q
  | cont => exact q
theorem pss_one (h1 : PS X st t) : PSs X [st] t := by
  intro pins s σ H D I h
  refine wpAny_execs_cons (thn (h1 pins s σ H D I h) fun f s1 q => ?_)
  cases f with
  | next => exact wpAny_execs_nil q
  | ret v => exact q
  | brk => exact q
  | cont => exact q
/-- in a def's body nothing is shown -/
theorem Inv.quiet {pins : List (Addr × Obj)} {σ : St} {H : Hp} {s : Shared} (I : Inv X pins σ H s) : interactive X.env = false := by simp [interactive, I.ok.kind]
/-- an expression whose value is dropped -/
def tDrop (te : TE) : TS := fun D σ H => te σ H fun _ H1 => D.nx σ H1
theorem ps_expr (he : PE X e te) (hs : swapsWith e none pos.line X.env = pure false := by rfl) : PS X (.Expr e pos) (tDrop te) := by
  intro pins s σ H D I h
  exact wpAny_Expr_any (thn (he pins s σ H _ I h) fun v s1 ⟨x, H1, I1, r1, q1⟩ => ⟨σ, H1, I1, q1⟩) I.quiet hs
def tRet (te : TE) : TS := fun D σ H => te σ H D.rt
theorem ps_ret (he : PE X e te) : PS X (.Return (some e) pos) (tRet te) := by
  intro pins s σ H D I h
  exact wpAny_Return_some (thn (he pins s σ H _ I h) fun v s1 ⟨x, H1, I1, r1, q1⟩ => ⟨x, σ, H1, I1, r1, q1⟩)
def tIfS (c : TT) (t u : TS) : TS := fun D σ H => c σ H fun b H1 => if b = true then t D σ H1 else u D σ H1
theorem ps_if {c : Expr} {a b : List Stmt} {tc : TT} (hc : PT X c tc) (ha : PSs X a t) (hb : PSs X b u) : PS X (.If c a b pos) (tIfS tc t u) := by
  intro pins s σ H D I h
  refine wpAny_If (thn (hc pins s σ H _ I h) fun d s1 ⟨H1, I1, q1⟩ => ?_)
  cases d with
  | true => exact ha pins s1 σ H1 D I1 q1
  | false => exact hb pins s1 σ H1 D I1 q1
/-- code that the proof never comes to -/
def tNever : TS := fun _ _ _ => False
theorem ps_never : PS X st tNever := fun _ _ _ _ _ _ h => h.elim
end

abbrev TG := V → St → Hp → (St → Hp → Prop) → Prop
abbrev TGs := List V → St → Hp → (St → Hp → Prop) → Prop
def PG (X : Cx) (target : Expr) (t : TG) : Prop :=
  ∀ (pins : List (Addr × Obj)) (s : Shared) (σ : St) (H : Hp) (v : V) (u : Value) (Q : St → Hp → Prop), Inv X pins σ H s → RelV v u → t v σ H Q →
    wpAny (model X.prog X.w) X.A (assign target X.env u) (fun _ s' => ∃ σ' H', Inv X pins σ' H' s' ∧ Q σ' H') X.xe s
/-- several targets, one after another -/
def PGs (X : Cx) (ts : List Expr) (t : TGs) : Prop :=
  ∀ (pins : List (Addr × Obj)) (s : Shared) (σ : St) (H : Hp) (vs : List V) (us : List Value) (Q : St → Hp → Prop), Inv X pins σ H s → Vals vs us → t vs σ H Q →
    wpAny (model X.prog X.w) X.A (assignInOrder ((assignEach ts X.env).map (·.2)) us) (fun _ s' => ∃ σ' H', Inv X pins σ' H' s' ∧ Q σ' H') X.xe s
section
variable {X : Cx} {pos : Pos}
def gName (i : Nat) : TG := fun v σ H Q => Q (σ.set i (some v)) H
theorem pg_name {i : Nat} {x : Str} (hN : X.N.Nodup) (hi : X.N[i]? = some x) (hx : Loc X.env.scope x) (hf : X.fn x = true ∨ X.env.scope.names.lookup x = some .local := by first | exact .inl rfl | exact .inr rfl | assumption) : PG X (.Name x pos) (gName i) := by
  intro pins s σ H v u Q I r h
  exact wpAny_assign_Name (store_ok I hN hi hx r (fun s' I' => ⟨_, H, I', h⟩) hf)
def gNil : TGs := fun vs σ H Q => vs = [] ∧ Q σ H
def gCons (t : TG) (u : TGs) : TGs := fun vs σ H Q => ∃ v r, vs = v :: r ∧ t v σ H fun σ' H' => u r σ' H' Q
theorem pgs_nil : PGs X [] gNil := by
  intro pins s σ H vs us Q I r h
  obtain ⟨e, h⟩ := h
  subst e
  cases r
  exact assignInOrder_nil ⟨σ, H, I, h⟩
theorem pgs_cons {e : Expr} {es : List Expr} {t : TG} {u : TGs} (h1 : PG X e t) (h2 : PGs X es u)
    (hs : (assignEach (e :: es) X.env).map (·.2) = assign e X.env :: (assignEach es X.env).map (·.2) := by rfl) : PGs X (e :: es) (gCons t u) := by
  intro pins s σ H vs us Q I r h
  obtain ⟨v, vr, e1, h⟩ := h
  subst e1
  cases r with
  | cons r rr =>
    rw [hs]
    refine assignInOrder_cons (thn (h1 pins s σ H _ _ _ I r h) fun _ s1 ⟨σ1, H1, I1, q1⟩ => ?_)
    exact h2 pins s1 σ1 H1 _ _ Q I1 rr q1
/-- (a, b, ..) = a tuple of that length -/
def gTup (K : PySem.W.Frag) (n : Nat) (t : TGs) : TG := fun v σ H Q => ∃ a xs, v = .ref a ∧ SqT K H a xs ∧ xs.length = n ∧ t xs σ H Q
theorem pg_tup {es : List Expr} {k : Nat} {t : TGs} {n : Nat} (hc : X.calm = true) (h : PGs X es t)
    (hn : (assignEach es X.env).length = n := by rfl) (hst : (assignEach es X.env).findIdx? (·.1) = none := by rfl) : PG X (.Tuple es k pos) (gTup X.K n t) := by
  intro pins s σ H v u Q I r hw
  obtain ⟨a, xs, e1, hq, hl, hw⟩ := hw
  subst e1
  cases r
  obtain ⟨its, rv, ht, hz⟩ := I.tuple hq
  refine assign_Tuple_tuple (I.ok.hd hc) ht (by simp [hn, ← hl, rv.length]) hst fun h' hx => ?_
  have I1 : Inv X pins σ H { s with heap := h' } := I.kept (t' := s.toks) fun b o e => hx b o (Nat.ne_of_lt (Heap.lt_size e)) e
  exact h pins _ σ H xs _ Q I1 (by simpa using rv) hw
/-- target = value -/
def tAsg (te : TE) (g : TG) : TS := fun D σ H => te σ H fun x H1 => g x σ H1 D.nx
theorem ps_asg {tg e : Expr} {te : TE} {g : TG} (he : PE X e te) (hg : PG X tg g) (hs : swapsWithSole [tg] e pos.line X.env = pure false := by rfl) (hw : swappedStores [tg] e X.env = pure none := by rfl)
    (h1 : (assignEach [tg] X.env).map (·.2) = [assign tg X.env] := by rfl) : PS X (.Assign [tg] e pos) (tAsg te g) := by
  intro pins s σ H D I h
  refine wpAny_Assign_stores (thn (he pins s σ H _ I h) fun v s1 ⟨x, H1, I1, r1, q1⟩ => ?_) hs hw
  rw [h1]
  exact thn (hg pins s1 σ H1 x v _ I1 r1 q1) fun _ s2 q => q
/-- name = value -/
theorem ps_set {i : Nat} {x : Str} {e : Expr} {te : TE} {pos' : Pos} (hN : X.N.Nodup) (hi : X.N[i]? = some x) (hx : Loc X.env.scope x) (he : PE X e te) (hs : swapsWith e (some (.Name x pos')) pos.line X.env = pure false := by rfl) (hf : X.fn x = true ∨ X.env.scope.names.lookup x = some .local := by first | exact .inl rfl | exact .inr rfl | assumption) :
    PS X (.Assign [.Name x pos'] e pos) (tAsg te (gName i)) := by
  intro pins s σ H D I h
  refine wpAny_Assign_Name (thn (he pins s σ H _ I h) fun v s1 ⟨y, H1, I1, r1, q1⟩ => ?_) hs
  exact store_ok I1 hN hi hx r1 (fun s2 I2 => ⟨_, H1, I2, q1⟩) hf
end

section
variable {X : Cx} {pos : Pos}
end

/-- at turn i: it yields x (the heap may grow), or it stops -/
structure It where
  go : Nat → Hp → Prop
  yld : Nat → Hp → V → Hp → Prop
  stop : Nat → Hp → Prop
/-- the iterator's own objects may turn: they are not the frame's, not pinned, younger than the entry (or a comprehension's own) -/
def FpOk (X : Cx) (pins : List (Addr × Obj)) (H : Hp) (b : Addr) : Prop :=
  H b = none ∧ b ≠ X.env.locals ∧ b ∉ X.fs ∧ (b ∈ X.ex ∨ X.s₀.heap.objs.size ≤ b) ∧ (∀ x c, X.env.cells.lookup x = some c → c ≠ b) ∧ ∀ p ∈ X.pn ++ pins, p.1 ≠ b
theorem Inv.fpOk {X : Cx} {pins : List (Addr × Obj)} {σ : St} {H H' : Hp} {s : Shared} {b : Addr} (I : Inv X pins σ H s) (hb : s.heap.objs.size ≤ b) (hn : H' b = none) : FpOk X pins H' b := by
  refine ⟨hn, Nat.ne_of_gt (Nat.lt_of_lt_of_le I.lt hb), I.nofs hb, .inr (Nat.le_trans I.sz hb), fun x c e z => ?_, fun p hp z => ?_⟩
  · obtain ⟨v, q⟩ := I.cell x c e
    exact absurd (Nat.lt_of_lt_of_le q.lt (by rw [z]; exact hb)) (Nat.lt_irrefl _)
  · exact absurd (Nat.lt_of_lt_of_le (Heap.lt_size (I.pin p hp).1) (by rw [z]; exact hb)) (Nat.lt_irrefl _)
structure Turn (P : Program) (w : World) (K : PySem.W.Frag) (tg : Expr) (J : It) (fp : List Addr) (it : Addr) (tn : Nat → Heap → Prop) : Prop where
  mem : it ∈ fp
  obj : ∀ i h, tn i h → ∀ b ∈ fp, ∃ o, h.get? b = some o ∧ ∀ v, o.data ≠ .cell v
  keep : ∀ i h h', tn i h → (∀ b ∈ fp, ∀ o, h.get? b = some o → h'.get? b = some o) → tn i h'
  item : ∀ (X : Cx), X.prog = P → X.w = w → X.K = K → X.calm = true → ∀ (i : Nat) (pins : List (Addr × Obj)) (s : Shared) (σ : St) (H : Hp) (E : Value → Shared → Prop), Inv X pins σ H s → (∀ b ∈ fp, FpOk X pins H b) → tn i s.heap → J.go i H →
    wpAny (model P w) X.A (pyNext (.ref it)) (fun r s1 => ∃ u, r = some u ∧
      wpAny (model P w) X.A (letOwnedTupleGo tg (.ref it) u) (fun _ s2 => ∃ x H', Inv X pins σ H' s2 ∧ RelV x u ∧ J.yld i H x H' ∧ tn (i + 1) s2.heap ∧ ∀ b ∈ fp, H' b = none) E s1) E s
  done : ∀ (X : Cx), X.prog = P → X.w = w → X.K = K → X.calm = true → ∀ (i : Nat) (pins : List (Addr × Obj)) (s : Shared) (σ : St) (H : Hp) (E : Value → Shared → Prop), Inv X pins σ H s → (∀ b ∈ fp, FpOk X pins H b) → tn i s.heap → J.stop i H →
    wpAny (model P w) X.A (pyNext (.ref it)) (fun r s1 => r = none ∧ Inv X pins σ H s1) E s
  self : ∀ (A : Around) (i : Nat) (s : Shared) (Q : Value → Shared → Prop) (E : Value → Shared → Prop), tn i s.heap → Q (.ref it) s → wpAny (model P w) A (pyIter (.ref it)) Q E s
abbrev TI := St → Hp → (It → Hp → Prop) → Prop
/-- an iterator has come -/
def PIE (X : Cx) (pins : List (Addr × Obj)) (σ : St) (tg : Expr) (R : It → Hp → Prop) (itv : Value) (s2 : Shared) : Prop :=
  ∃ (it : Addr) (fp : List Addr) (tn : Nat → Heap → Prop) (J : It) (H' : Hp), itv = .ref it ∧ Inv X pins σ H' s2 ∧ Turn X.prog X.w X.K tg J fp it tn ∧ tn 0 s2.heap ∧ (∀ b ∈ fp, FpOk X pins H' b) ∧ R J H'
def PI (X : Cx) (tg iter : Expr) (wi : TI) : Prop :=
  ∀ (pins : List (Addr × Obj)) (s : Shared) (σ : St) (H : Hp) (R : It → Hp → Prop), Inv X pins σ H s → wi σ H R →
    wpAny (model X.prog X.w) X.A (eval iter X.env) (fun v s1 => wpAny (model X.prog X.w) X.A (pyIter v) (PIE X pins σ tg R) X.xe s1) X.xe s

/-- the step ahead of the store is nothing for an iterator that keeps no tuple -/
theorem go_of {M : Model} {A : Around} {E : Value → Shared → Prop} {s : Shared} {tg : Expr} {it : Addr} {u : Value} {o : Obj} {n : String} {vs : Array Value} {Q : Unit → Shared → Prop} (ho : s.heap.get? it = some o) (hc : o.cls = .type n) (hd : o.data = .fields vs)
    (hn : ["enumerate", "zip", "dict_itemiterator", "dict_reverseitemiterator", "odict_iterator", "itertools.zip_longest", "itertools.pairwise"].contains n = false) (hQ : Q () s) : wpAny M A (letOwnedTupleGo tg (.ref it) u) Q E s := by
  unfold letOwnedTupleGo
  cases tg <;> first
    | exact wpAny_pure hQ
    | (cases u <;> first
        | exact wpAny_pure hQ
        | (refine wpAny_bind (wpAny_load ho ?_)
           rw [hc, hd]
           show wpAny M A (if (["enumerate", "zip", "dict_itemiterator", "dict_reverseitemiterator", "odict_iterator", "itertools.zip_longest", "itertools.pairwise"].contains n && vs[0]? == some (rawInt _)) = true then _ else _) Q E s
           rw [if_neg (by intro h; rw [hn, Bool.false_and] at h; cases h)]
           exact wpAny_pure hQ))

/-- the list at a, as it stands at each turn (a loop may append to it) -/
def Itl (K : PySem.W.Frag) (a : Addr) : It :=
  ⟨fun i H => ∃ xs x, SqL K H a xs ∧ xs[i]? = some x, fun i H x H' => H' = H ∧ ∀ xs, SqL K H a xs → xs[i]? = some x, fun i H => ∃ xs, SqL K H a xs ∧ xs.length ≤ i⟩
def Itt (K : PySem.W.Frag) (a : Addr) : It :=
  ⟨fun i H => ∃ xs x, SqT K H a xs ∧ xs[i]? = some x, fun i H x H' => H' = H ∧ ∀ xs, SqT K H a xs → xs[i]? = some x, fun i H => ∃ xs, SqT K H a xs ∧ xs.length ≤ i⟩
/-- lo, lo + 1, .. (n of them) -/
def Itr (lo : Int) (n : Nat) : It := ⟨fun i _ => i < n, fun i H x H' => H' = H ∧ x = .int (lo + i), fun i _ => n ≤ i⟩
theorem turn_list {P : Program} {w : World} {K : PySem.W.Frag} {tg : Expr} (a it : Addr) : Turn P w K tg (Itl K a) [it] it (fun i h => h.IsListIter it a i) where
  mem := by simp
  obj := fun i h st b hb => by
    have e : b = it := by simpa using hb
    subst e
    obtain ⟨o, e, c, d⟩ := st
    exact ⟨o, e, fun v z => by rw [d] at z; cases z⟩
  keep := fun i h h' st k => st.at fun o e => k it (by simp) o e
  item := by
    intro X hP hw hK hc i pins s σ H E I hf st hg
    subst hP hw hK
    obtain ⟨xs, x, hq, hx⟩ := hg
    obtain ⟨its, rv, p, hz⟩ := I.list hq
    obtain ⟨u, hu, ru⟩ := rv.get hx
    obtain ⟨f0, f1, f2, f3, f4, f5⟩ := hf it (by simp)
    refine wpAny_pyNext_list_item st p.isList (x := u) (by simpa using hu) fun h' st' sb => ?_
    have I1 : Inv X pins σ H { s with heap := h' } := I.turned (t' := s.toks) (fun b o hb e => (sb.2 b hb).trans e) f0 f1 f3 f4 f5
    obtain ⟨o, e, c, d⟩ := id st'
    exact ⟨u, rfl, go_of (s := { s with heap := h' }) e c d (by decide) ⟨x, H, I1, ru, ⟨rfl, fun ys hy => by rw [I.list_inj hy hq]; exact hx⟩, st', fun b hb => (hf b hb).1⟩⟩
  done := by
    intro X hP hw hK hc i pins s σ H E I hf st hg
    subst hP hw hK
    obtain ⟨xs, hq, hx⟩ := hg
    obtain ⟨its, rv, p, hz⟩ := I.list hq
    obtain ⟨f0, f1, f2, f3, f4, f5⟩ := hf it (by simp)
    have hl := rv.length
    exact wpAny_pyNext_list_end (I.ok.hd hc) st p.isList (by simp; omega) fun h' eb => ⟨rfl, I.turned (t' := s.toks) (fun b o hb e => eb b o hb e) f0 f1 f3 f4 f5⟩
  self := fun _ _ _ _ _ st h => wpAny_pyIter_listiter st h
theorem turn_tuple {P : Program} {w : World} {K : PySem.W.Frag} {tg : Expr} (a it : Addr) : Turn P w K tg (Itt K a) [it] it (fun i h => h.IsTupleIter it a i) where
  mem := by simp
  obj := fun i h st b hb => by
    have e : b = it := by simpa using hb
    subst e
    obtain ⟨o, e, c, d⟩ := st
    exact ⟨o, e, fun v z => by rw [d] at z; cases z⟩
  keep := fun i h h' st k => st.at fun o e => k it (by simp) o e
  item := by
    intro X hP hw hK hc i pins s σ H E I hf st hg
    subst hP hw hK
    obtain ⟨xs, x, hq, hx⟩ := hg
    obtain ⟨its, rv, p, hz⟩ := I.tuple hq
    obtain ⟨u, hu, ru⟩ := rv.get hx
    obtain ⟨f0, f1, f2, f3, f4, f5⟩ := hf it (by simp)
    refine wpAny_pyNext_tuple_item st (show s.heap.IsTuple a its.toArray from p) (x := u) (by simpa using hu) fun h' st' sb => ?_
    have I1 : Inv X pins σ H { s with heap := h' } := I.turned (t' := s.toks) (fun b o hb e => (sb.2 b hb).trans e) f0 f1 f3 f4 f5
    obtain ⟨o, e, c, d⟩ := id st'
    exact ⟨u, rfl, go_of (s := { s with heap := h' }) e c d (by decide) ⟨x, H, I1, ru, ⟨rfl, fun ys hy => by rw [I.tuple_inj hy hq]; exact hx⟩, st', fun b hb => (hf b hb).1⟩⟩
  done := by
    intro X hP hw hK hc i pins s σ H E I hf st hg
    subst hP hw hK
    obtain ⟨xs, hq, hx⟩ := hg
    obtain ⟨its, rv, p, hz⟩ := I.tuple hq
    obtain ⟨f0, f1, f2, f3, f4, f5⟩ := hf it (by simp)
    have hl := rv.length
    exact wpAny_pyNext_tuple_end (I.ok.hd hc) st (show s.heap.IsTuple a its.toArray from p) (by simp; omega) fun h' eb => ⟨rfl, I.turned (t' := s.toks) (fun b o hb e => eb b o hb e) f0 f1 f3 f4 f5⟩
  self := fun _ _ _ _ _ st h => wpAny_pyIter_tupleiter st h
theorem turn_range {P : Program} {w : World} {K : PySem.W.Frag} {tg : Expr} (it : Addr) (lo : Int) (n : Nat) : Turn P w K tg (Itr lo n) [it] it (fun i h => IsRangeIter h it (lo + (i : Nat) * 1) ((n : Int) - (i : Nat)) 1) where
  mem := by simp
  obj := fun i h st b hb => by
    have e : b = it := by simpa using hb
    subst e
    exact ⟨_, st, fun v z => by
      have z' : Data.fields _ = Data.cell v := z
      cases z'⟩
  keep := fun i h h' st k => k it (by simp) _ st
  item := by
    intro X hP hw hK hc i pins s σ H E I hf st hg
    subst hP hw hK
    obtain ⟨f0, f1, f2, f3, f4, f5⟩ := hf it (by simp)
    have W := Walks.range (prog := X.prog) (w := X.w) (I.ok.hd hc) it lo 1 n
    refine W.item i s _ _ hg st fun v h' tk hv st' kk => ?_
    obtain ⟨t, rfl⟩ := hv
    have I1 : Inv X pins σ H { s with heap := h', toks := tk } := I.turned (fun b o hb e => kk b o (by simpa using hb) e) f0 f1 f3 f4 f5
    refine ⟨_, rfl, go_of (s := { s with heap := h', toks := tk }) (n := "range_iterator") st' rfl rfl (by decide) ⟨.int (lo + i), H, I1, ⟨t, ?_⟩, ⟨rfl, rfl⟩, st', fun b hb => (hf b hb).1⟩⟩
    rw [Int.mul_one]
  done := by
    intro X hP hw hK hc i pins s σ H E I hf st hg
    subst hP hw hK
    obtain ⟨f0, f1, f2, f3, f4, f5⟩ := hf it (by simp)
    exact wpAny_pyNext_range_end (I.ok.hd hc) st (by have : n ≤ i := hg; omega) fun h' eb => ⟨rfl, I.turned (t' := s.toks) (fun b o hb e => eb b o hb e) f0 f1 f3 f4 f5⟩
  self := fun _ _ _ _ _ st h => wpAny_pyIter_rangeiter st h
end L2

namespace L2
open PySem PySem.Spec PyProof.Rows
section
variable {X : Cx} {tg : Expr}
def iList (K : PySem.W.Frag) (tl : TE) : TI := fun σ H R => tl σ H fun x H1 => ∃ a, x = .ref a ∧ (∃ xs, SqL K H1 a xs) ∧ R (Itl K a) H1
def iTup (K : PySem.W.Frag) (tl : TE) : TI := fun σ H R => tl σ H fun x H1 => ∃ a, x = .ref a ∧ (∃ xs, SqT K H1 a xs) ∧ R (Itt K a) H1
theorem pi_list {l : Expr} {tl : TE} (hl : PE X l tl) : PI X tg l (iList X.K tl) := by
  intro pins s σ H R I h
  refine thn (hl pins s σ H _ I h) fun v s1 ⟨x, H1, I1, r1, q1⟩ => ?_
  obtain ⟨a, e, ⟨xs, hq⟩, q⟩ := q1
  subst e
  cases r1
  obtain ⟨its, rv, p, hz⟩ := I1.list hq
  refine wpAny_pyIter_list p.isList ?_
  refine ⟨s1.heap.objs.size, [s1.heap.objs.size], _, _, H1, rfl, I1.kept (t' := s1.toks) fun b o e => Heap.get?_push_of_some _ e, turn_list a _, ⟨_, Heap.get?_push_size _ rfl, rfl, rfl⟩, fun b hb => ?_, q⟩
  have e : b = s1.heap.objs.size := by simpa using hb
  subst e
  exact I1.fpOk (Nat.le_refl _) (I1.hok.fresh (Nat.le_refl _))
theorem pi_tup {l : Expr} {tl : TE} (hl : PE X l tl) : PI X tg l (iTup X.K tl) := by
  intro pins s σ H R I h
  refine thn (hl pins s σ H _ I h) fun v s1 ⟨x, H1, I1, r1, q1⟩ => ?_
  obtain ⟨a, e, ⟨xs, hq⟩, q⟩ := q1
  subst e
  cases r1
  obtain ⟨its, rv, p, hz⟩ := I1.tuple hq
  refine wpAny_pyIter_tuple (show s1.heap.IsTuple a its.toArray from p) ?_
  refine ⟨s1.heap.objs.size, [s1.heap.objs.size], _, _, H1, rfl, I1.kept (t' := s1.toks) fun b o e => Heap.get?_push_of_some _ e, turn_tuple a _, ⟨_, Heap.get?_push_size _ rfl, rfl, rfl⟩, fun b hb => ?_, q⟩
  have e : b = s1.heap.objs.size := by simpa using hb
  subst e
  exact I1.fpOk (Nat.le_refl _) (I1.hok.fresh (Nat.le_refl _))
/-- a range object just made, walked -/
theorem range_it {pins : List (Addr × Obj)} {σ : St} {H : Hp} {s : Shared} {R : It → Hp → Prop} {E : Value → Shared → Prop} {lo hi : Int} {t u v : Tok} {tk : Nat} (I : Inv X pins σ H s) (h1 : -(2 ^ 62) ≤ lo) (h2 : lo < 2 ^ 62) (h3 : -(2 ^ 62) ≤ hi) (h4 : hi < 2 ^ 62)
    (q : R (Itr lo (hi - lo).toNat) H) : wpAny (model X.prog X.w) X.A (pyIter (.ref s.heap.objs.size)) (PIE X pins σ tg R) E { s with heap := s.heap.push { cls := .type "range", data := .fields #[.int lo t, .int hi u, .int 1 v] }, toks := tk } := by
  refine wpAny_pyIter_range (IsRange.new ..) (small_one h1 h2 h3 h4) ?_
  have I1 : Inv X pins σ H { s with heap := s.heap.push { cls := .type "range", data := .fields #[.int lo t, .int hi u, .int 1 v] }, toks := tk } := I.kept fun b o e => Heap.get?_push_of_some _ e
  refine ⟨(s.heap.push { cls := .type "range", data := .fields #[.int lo t, .int hi u, .int 1 v] }).objs.size, [(s.heap.push { cls := .type "range", data := .fields #[.int lo t, .int hi u, .int 1 v] }).objs.size], _, _, H, rfl,
    I1.kept (t' := tk) fun b o e => Heap.get?_push_of_some _ e, turn_range _ lo (hi - lo).toNat, ?_, fun b hb => ?_, q⟩
  · have e1 : lo + ((0 : Nat) : Int) * 1 = lo := by simp
    have e2 : (((hi - lo).toNat : Nat) : Int) - ((0 : Nat) : Int) = Builtin.Range.rangeSize lo hi 1 := by rw [rangeSize_one]; split <;> omega
    show IsRangeIter _ _ (lo + ((0 : Nat) : Int) * 1) ((((hi - lo).toNat : Nat) : Int) - ((0 : Nat) : Int)) 1
    rw [e1, e2]
    exact Heap.get?_push_size _ rfl
  · have e : b = (s.heap.push { cls := .type "range", data := .fields #[.int lo t, .int hi u, .int 1 v] }).objs.size := by simpa using hb
    subst e
    exact I1.fpOk (Nat.le_refl _) (I1.hok.fresh (Nat.le_refl _))
def iRng1 (ta : TA) : TI := fun σ H R => ta σ H fun vs H1 => ∃ j : Int, vs = [.int j] ∧ -(2 ^ 62) ≤ j ∧ j < 2 ^ 62 ∧ R (Itr 0 j.toNat) H1
theorem pi_range1 {a : Expr} {ta : TA} {p pos : Pos} (hg : Gl X "range") (hm : X.mg "range" = none) (ha : PA X [a] ta) (hs : starEach [a] X.env = [(false, eval a X.env)] := by rfl) : PI X tg (.Call (.Name "range" p) [a] [] pos) (iRng1 ta) := by
  intro pins s σ H R I h
  refine Call_ (ld_blt I hg hm boot_range (PyProof.Rows.callWith_type1 (thn (ha pos pins s σ H _ I h) fun us s1 ⟨vs, H1, I1, r1, q1⟩ => ?_) hs rfl))
  obtain ⟨j, e, q1, q2, q⟩ := q1
  subst e
  cases r1 with
  | cons r rr =>
    cases rr
    obtain ⟨t, rfl⟩ := r
    exact call_range_1 (range_it I1 (by omega) (by omega) q1 q2 (by simpa using q))
/-- W: the invariant by the turn and a measure; N: what the body is to reach -/
def tFor (wi : TI) (g : TG) (tb : TS) : TS := fun D σ H => wi σ H fun J H1 => ∃ W : Nat → Nat → St → Hp → Prop, (∃ m, W 0 m σ H1) ∧ ∀ i m σ H, W i m σ H →
  (J.stop i H ∧ D.nx σ H) ∨ (J.go i H ∧ ∃ N : St → Hp → Prop, (∀ σ' H', N σ' H' → ∃ m', m' < m ∧ W (i + 1) m' σ' H') ∧ ∀ x H', J.yld i H x H' → g x σ H' fun σ2 H2 => tb { D with nx := N, ct := N, bk := D.nx } σ2 H2)
/-- the records at fp as they stand -/
def pinsAt (fp : List Addr) (h : Heap) : List (Addr × Obj) := fp.filterMap fun b => (h.get? b).map fun o => (b, o)
theorem mem_pinsAt {fp : List Addr} {h : Heap} {b : Addr} {o : Obj} (hb : b ∈ fp) (e : h.get? b = some o) : (b, o) ∈ pinsAt fp h := List.mem_filterMap.mpr ⟨b, hb, by rw [e]; rfl⟩
theorem of_pinsAt {fp : List Addr} {h : Heap} {p : Addr × Obj} (hp : p ∈ pinsAt fp h) : p.1 ∈ fp ∧ h.get? p.1 = some p.2 := by
  obtain ⟨b, hb, e⟩ := List.mem_filterMap.mp hp
  cases q : h.get? b with
  | none => rw [q] at e; cases e
  | some o =>
    rw [q] at e
    have e' : (b, o) = p := Option.some.inj e
    subst e'
    exact ⟨hb, q⟩
theorem Inv.pinned {pins : List (Addr × Obj)} {σ : St} {H : Hp} {s : Shared} {fp : List Addr} (I : Inv X pins σ H s) (hf : ∀ b ∈ fp, FpOk X pins H b) (ho : ∀ b ∈ fp, ∃ o, s.heap.get? b = some o ∧ ∀ v, o.data ≠ .cell v) : Inv X (pins ++ pinsAt fp s.heap) σ H s :=
  I.pins_of fun p hp => (List.mem_append.mp hp).elim (fun z => I.pin p (List.mem_append_right _ z)) fun z => by
    obtain ⟨hb, e⟩ := of_pinsAt z
    obtain ⟨f0, f1, f2, _⟩ := hf p.1 hb
    obtain ⟨o, e', d⟩ := ho p.1 hb
    rw [e] at e'; cases e'
    exact ⟨e, f0, f1, f2, d⟩
theorem Inv.unpinned {pins pl : List (Addr × Obj)} {σ : St} {H : Hp} {s : Shared} (I : Inv X (pins ++ pl) σ H s) : Inv X pins σ H s := I.pins_of fun p hp => I.pin p (List.mem_append_right _ (List.mem_append_left _ hp))
theorem ps_for {iter : Expr} {body : List Stmt} {wi : TI} {g : TG} {tb : TS} {pos : Pos} (hp : PassesOwn (model X.prog X.w) X.A X.env X.xe) (hc : X.calm = true) (hi : PI X tg iter wi) (hg : PG X tg g) (hb : PSs X body tb)
    (hs : ∀ x, foldedSetIterable iter X.env x = pure x := by intro _; rfl) : PS X (.For tg iter body [] pos) (tFor wi g tb) := by
  intro pins s σ H D I h
  refine wpAny_For (thn (hi pins s σ H _ I h) fun v s1 h1 => thn h1 fun itv s2 h2 => ?_) hs
  obtain ⟨it, fp, tn, J, H2, e, I2, T, st2, f2, W, ⟨m0, w0⟩, turn⟩ := h2
  subst e
  -- what stays true of the iterator's objects through the loop
  have stat : ∀ {H' : Hp}, (∀ b ∈ fp, H' b = none) → ∀ b ∈ fp, FpOk X pins H' b := fun hn b hb => ⟨hn b hb, (f2 b hb).2⟩
  refine codeAny_forLoop_any (fun n s' => ∃ i σ' H', Inv X pins σ' H' s' ∧ tn i s'.heap ∧ (∀ b ∈ fp, H' b = none) ∧ W i n σ' H') ?_ m0 ⟨0, σ, H2, I2, st2, fun b hb => (f2 b hb).1, w0⟩
  rintro n s3 ⟨i, σ3, H3, I3, st3, fr3, w3⟩
  rcases turn i n σ3 H3 w3 with ⟨stop, qn⟩ | ⟨go, N, hN, step⟩
  · refine wpAny_passesOwn hp (thn (T.done X rfl rfl rfl hc i pins s3 σ3 H3 X.xe I3 (stat fr3) st3 stop) fun r s4 ⟨hr, I4⟩ => ?_)
    subst hr
    exact wpAny_execs_nil ⟨σ3, H3, I4, qn⟩
  · refine wpAny_passesOwn hp (thn (T.item X rfl rfl rfl hc i pins s3 σ3 H3 X.xe I3 (stat fr3) st3 go) fun r s4 ⟨u, hr, h4⟩ => ?_)
    subst hr
    refine wpAny_passesOwn hp (thn h4 fun _ s5 ⟨x, H5, I5, r5, y5, st5, fr5⟩ => ?_)
    have I5' := I5.pinned (stat fr5) (T.obj _ _ st5)
    refine wpAny_passesOwn hp (thn (hg _ s5 σ3 H5 x u _ I5' r5 (step x H5 y5)) fun _ s6 ⟨σ6, H6, I6, q6⟩ => ?_)
    refine wpAny_passesOwn hp (thn (hb _ s6 σ6 H6 _ I6 q6) fun f s7 q7 => ?_)
    have again : ∀ {σ7 : St} {H7 : Hp}, Inv X (pins ++ pinsAt fp s5.heap) σ7 H7 s7 → N σ7 H7 → ∃ m, m < n ∧ ∃ i σ' H', Inv X pins σ' H' s7 ∧ tn i s7.heap ∧ (∀ b ∈ fp, H' b = none) ∧ W i m σ' H' := fun {σ7 H7} I7 n7 => by
      obtain ⟨m', hm, w7⟩ := hN σ7 H7 n7
      refine ⟨m', hm, i + 1, σ7, H7, I7.unpinned, T.keep _ _ _ st5 fun b hb o e => (I7.pin (b, o) (List.mem_append_right _ (List.mem_append_right _ (mem_pinsAt hb e)))).1, fun b hb => ?_, w7⟩
      obtain ⟨o, e, d⟩ := T.obj _ _ st5 b hb
      exact (I7.pin (b, o) (List.mem_append_right _ (List.mem_append_right _ (mem_pinsAt hb e)))).2.1
    cases f with
    | next => obtain ⟨σ7, H7, I7, n7⟩ := q7; exact again I7 n7
    | cont => obtain ⟨σ7, H7, I7, n7⟩ := q7; exact again I7 n7
    | brk => obtain ⟨σ7, H7, I7, q7⟩ := q7; exact ⟨σ7, H7, I7.unpinned, q7⟩
    | ret v => obtain ⟨x7, σ7, H7, I7, r7, q7⟩ := q7; exact ⟨x7, σ7, H7, I7.unpinned, r7, q7⟩
end

/-- over a list that the body leaves as it is -/
theorem for_list {K : PySem.W.Frag} {a : Addr} {xs : List V} {g : TG} {tb : TS} {D : Ends} {σ : St} {H : Hp} (Pv : Nat → St → Hp → Prop) (h0 : Pv 0 σ H) (hl : ∀ i σ H, i ≤ xs.length → Pv i σ H → SqL K H a xs)
    (hs : ∀ i x σ H, xs[i]? = some x → Pv i σ H → g x σ H fun σ2 H2 => tb { D with nx := Pv (i + 1), ct := Pv (i + 1), bk := D.nx } σ2 H2) (hd : ∀ σ H, Pv xs.length σ H → D.nx σ H) :
    ∃ W : Nat → Nat → St → Hp → Prop, (∃ m, W 0 m σ H) ∧ ∀ i m σ H, W i m σ H →
      ((Itl K a).stop i H ∧ D.nx σ H) ∨ ((Itl K a).go i H ∧ ∃ N : St → Hp → Prop, (∀ σ' H', N σ' H' → ∃ m', m' < m ∧ W (i + 1) m' σ' H') ∧ ∀ x H', (Itl K a).yld i H x H' → g x σ H' fun σ2 H2 => tb { D with nx := N, ct := N, bk := D.nx } σ2 H2) := by
  refine ⟨fun i m σ H => m = xs.length - i ∧ i ≤ xs.length ∧ Pv i σ H, ⟨xs.length, by simp, Nat.zero_le _, h0⟩, ?_⟩
  rintro i m σ H ⟨rfl, hi, p⟩
  have q := hl i σ H hi p
  by_cases hlt : i < xs.length
  · refine .inr ⟨⟨xs, xs[i], q, by simp [hlt]⟩, Pv (i + 1), fun σ' H' p' => ⟨xs.length - (i + 1), by omega, rfl, hlt, p'⟩, fun x H' y => ?_⟩
    obtain ⟨e, y⟩ := y
    subst e
    exact hs i x σ _ (y xs q) p
  · have e : i = xs.length := by omega
    subst e
    exact .inl ⟨⟨xs, q, Nat.le_refl _⟩, hd σ H p⟩
theorem for_range {lo : Int} {n : Nat} {g : TG} {tb : TS} {D : Ends} {σ : St} {H : Hp} (Pv : Nat → St → Hp → Prop) (h0 : Pv 0 σ H)
    (hs : ∀ i σ H, i < n → Pv i σ H → g (.int (lo + i)) σ H fun σ2 H2 => tb { D with nx := Pv (i + 1), ct := Pv (i + 1), bk := D.nx } σ2 H2) (hd : ∀ σ H, Pv n σ H → D.nx σ H) :
    ∃ W : Nat → Nat → St → Hp → Prop, (∃ m, W 0 m σ H) ∧ ∀ i m σ H, W i m σ H →
      ((Itr lo n).stop i H ∧ D.nx σ H) ∨ ((Itr lo n).go i H ∧ ∃ N : St → Hp → Prop, (∀ σ' H', N σ' H' → ∃ m', m' < m ∧ W (i + 1) m' σ' H') ∧ ∀ x H', (Itr lo n).yld i H x H' → g x σ H' fun σ2 H2 => tb { D with nx := N, ct := N, bk := D.nx } σ2 H2) := by
  refine ⟨fun i m σ H => m = n - i ∧ i ≤ n ∧ Pv i σ H, ⟨n, by simp, Nat.zero_le _, h0⟩, ?_⟩
  rintro i m σ H ⟨rfl, hi, p⟩
  by_cases hlt : i < n
  · refine .inr ⟨hlt, Pv (i + 1), fun σ' H' p' => ⟨n - (i + 1), by omega, rfl, hlt, p'⟩, fun x H' y => ?_⟩
    obtain ⟨e, y⟩ := y
    subst e y
    exact hs i σ _ hlt p
  · have e : i = n := by omega
    subst e
    exact .inl ⟨Nat.le_refl _, hd σ H p⟩
end L2

namespace L2
open PySem PySem.Spec PyProof.Rows

abbrev R2 := V → V → Hp → VK → Prop
/-- a two-place operation on values: f is binaryOp op, inplaceOp op or compareOp op -/
def OpR (X : Cx) (f : Value → Value → Sem Value) (r : R2) : Prop :=
  ∀ (pins : List (Addr × Obj)) (s : Shared) (σ : St) (H : Hp) (x y : V) (v u : Value) (Q : VK), Inv X pins σ H s → RelV x v → RelV y u → r x y H Q →
    wpAny (model X.prog X.w) X.A (f v u) (EP X pins σ Q) X.xe s
/-- a one-place operation -/
def UnR (X : Cx) (f : Value → Sem Value) (r : V → Hp → VK → Prop) : Prop :=
  ∀ (pins : List (Addr × Obj)) (s : Shared) (σ : St) (H : Hp) (x : V) (v : Value) (Q : VK), Inv X pins σ H s → RelV x v → r x H Q →
    wpAny (model X.prog X.w) X.A (f v) (EP X pins σ Q) X.xe s
/-- a call of a value that is known (a builtin, a type) with values -/
def CallR (X : Cx) (f : Value) (r : List V → Hp → VK → Prop) : Prop :=
  ∀ (pins : List (Addr × Obj)) (s : Shared) (σ : St) (H : Hp) (xs : List V) (us : List Value) (Q : VK), Inv X pins σ H s → Vals xs us → r xs H Q →
    wpAny (model X.prog X.w) X.A (call f us) (EP X pins σ Q) X.xe s
/-- a value's truth -/
def TruR (X : Cx) (r : V → Hp → (Bool → Hp → Prop) → Prop) : Prop :=
  ∀ (pins : List (Addr × Obj)) (s : Shared) (σ : St) (H : Hp) (x : V) (v : Value) (Q : Bool → Hp → Prop), Inv X pins σ H s → RelV x v → r x H Q →
    wpAny (model X.prog X.w) X.A (truthy v) (TP X pins σ Q) X.xe s

def tOp (r : R2) (ta tb : TE) : TE := fun σ H Q => ta σ H fun x H1 => tb σ H1 fun y H2 => r x y H2 Q
def tUn (r : V → Hp → VK → Prop) (ta : TE) : TE := fun σ H Q => ta σ H fun x H1 => r x H1 Q
/-- ints in, under C, and a value out -/
def rI (C : Int → Int → Prop) (g : Int → Int → V) : R2 := fun x y H Q => ∃ i j, x = .int i ∧ y = .int j ∧ C i j ∧ Q (g i j) H
def rI0 (g : Int → Int → V) : R2 := fun x y H Q => ∃ i j, x = .int i ∧ y = .int j ∧ Q (g i j) H
def rU (g : Int → V) : V → Hp → VK → Prop := fun x H Q => ∃ i, x = .int i ∧ Q (g i) H

section
variable {X : Cx} {a b c : Expr} {ta tb tc : TE} {pos : Pos}

theorem binT (ha : PE X a ta) (hb : PE X b tb) {pins : List (Addr × Obj)} {s : Shared} {σ : St} {H : Hp} {R : V → V → Hp → Prop} (I : Inv X pins σ H s)
    (h : ta σ H fun x H1 => tb σ H1 fun y H2 => R x y H2) {Q : Value → Shared → Prop} {f : Value → Value → Sem Value}
    (hf : ∀ v u s2 x y H2, Inv X pins σ H2 s2 → RelV x v → RelV y u → R x y H2 → wpAny (model X.prog X.w) X.A (f v u) Q X.xe s2) :
    wpAny (model X.prog X.w) X.A (eval a X.env) (fun v s₁ => wpAny (model X.prog X.w) X.A (eval b X.env) (fun u s₂ => wpAny (model X.prog X.w) X.A (f v u) Q X.xe s₂) X.xe s₁) X.xe s := by
  refine thn (ha pins s σ H _ I h) fun v s1 ⟨x, H1, I1, r1, q1⟩ => ?_
  refine thn (hb pins s1 σ H1 _ I1 q1) fun u s2 ⟨y, H2, I2, r2, q2⟩ => ?_
  exact hf v u s2 x y H2 I2 r1 r2 q2

theorem pe_op {op : Operator} {r : R2} (ho : OpR X (binaryOp op) r) (ha : PE X a ta) (hb : PE X b tb) : PE X (.BinOp a op b pos) (tOp r ta tb) := by
  intro pins s σ H Q I h
  exact wpAny_BinOp (binT ha hb I h fun v u s2 x y H2 I2 rx ry q => ho pins s2 σ H2 x y v u Q I2 rx ry q)
theorem pe_un {op : UnaryOp} {r : V → Hp → VK → Prop} (ho : UnR X (unaryOp op) r) (ha : PE X a ta) : PE X (.UnaryOp op a pos) (tUn r ta) := by
  intro pins s σ H Q I h
  exact UnaryOp_ (thn (ha pins s σ H _ I h) fun v s1 ⟨x, H1, I1, r1, q1⟩ => ho pins s1 σ H1 x v Q I1 r1 q1)
theorem opI {f : Value → Value → Sem Value} {C : Int → Int → Prop} {g : Int → Int → Int}
    (rule : ∀ (i j : Int) (t u : Tok) (s : Shared) (Q : Value → Shared → Prop) (E : Value → Shared → Prop), C i j → Q (.int (g i j) s.toks) { s with toks := s.toks + 1 } → wpAny (model X.prog X.w) X.A (f (.int i t) (.int j u)) Q E s) :
    OpR X f (rI C fun i j => .int (g i j)) := by
  intro pins s σ H x y v u Q I rx ry h
  obtain ⟨i, j, rfl, rfl, hc, q⟩ := h
  obtain ⟨t, rfl⟩ := rx
  obtain ⟨t', rfl⟩ := ry
  exact rule i j t t' s _ _ hc ⟨.int (g i j), H, I.tok _, ⟨_, rfl⟩, q⟩
theorem opI0 {f : Value → Value → Sem Value} {g : Int → Int → Int}
    (rule : ∀ (i j : Int) (t u : Tok) (s : Shared) (Q : Value → Shared → Prop) (E : Value → Shared → Prop), Q (.int (g i j) s.toks) { s with toks := s.toks + 1 } → wpAny (model X.prog X.w) X.A (f (.int i t) (.int j u)) Q E s) :
    OpR X f (rI0 fun i j => .int (g i j)) := by
  intro pins s σ H x y v u Q I rx ry h
  obtain ⟨i, j, rfl, rfl, q⟩ := h
  obtain ⟨t, rfl⟩ := rx
  obtain ⟨t', rfl⟩ := ry
  exact rule i j t t' s _ _ ⟨.int (g i j), H, I.tok _, ⟨_, rfl⟩, q⟩
theorem opB0 {f : Value → Value → Sem Value} {g : Int → Int → Bool}
    (rule : ∀ (i j : Int) (t u : Tok) (s : Shared) (Q : Value → Shared → Prop) (E : Value → Shared → Prop), Q (.bool (g i j)) s → wpAny (model X.prog X.w) X.A (f (.int i t) (.int j u)) Q E s) :
    OpR X f (rI0 fun i j => .bl (g i j)) := by
  intro pins s σ H x y v u Q I rx ry h
  obtain ⟨i, j, rfl, rfl, q⟩ := h
  obtain ⟨t, rfl⟩ := rx
  obtain ⟨t', rfl⟩ := ry
  exact rule i j t t' s _ _ ⟨.bl (g i j), H, I, rfl, q⟩

def CDiv (i j : Int) : Prop := 0 < j ∧ j < 1073741824
def CPow (i j : Int) : Prop := 0 ≤ j ∧ j ≤ 1000000 ∧ i.natAbs < 2 ^ 64
def CMul (i j : Int) : Prop := (-(2 ^ 64) < i ∧ i < 2 ^ 64) ∨ (-(2 ^ 64) < j ∧ j < 2 ^ 64)
theorem CMul.ok {i j : Int} (h : CMul i j) : IntMulOk i j := by
  rcases h with ⟨h1, h2⟩ | ⟨h1, h2⟩
  · exact .of_left (intBits_le_64 h1 h2)
  · exact .of_right (intBits_le_64 h1 h2)
theorem op_add : OpR X (binaryOp .Add) (rI0 fun i j => .int (i + j)) := opI0 fun _ _ _ _ _ _ _ q => add_int q
theorem op_sub : OpR X (binaryOp .Sub) (rI0 fun i j => .int (i - j)) := opI0 fun _ _ _ _ _ _ _ q => sub_int q
theorem op_mul : OpR X (binaryOp .Mult) (rI CMul fun i j => .int (i * j)) := opI fun _ _ _ _ _ _ _ hc q => mul_int q hc.ok
/-- // by a positive divisor -/
theorem op_fdiv : OpR X (binaryOp .FloorDiv) (rI CDiv fun i j => .int (i / j)) := opI fun i j _ _ _ _ _ hc q => by
  have h1 : (0 : Int) < j := hc.1
  have h2 : j < 1073741824 := hc.2
  exact floordiv_int (by omega) (by rw [Int.fdiv_eq_ediv_of_nonneg i (by omega)]; exact q) (.inl (PyProof.noPylong_small (by omega)))
/-- % by a positive divisor of any size -/
theorem op_mod : OpR X (binaryOp .Mod) (rI (fun _ j => 0 < j) fun i j => .int (i % j)) := opI fun i j _ _ _ _ _ hc q => by
  have h1 : (0 : Int) < j := hc
  exact mod_int' (by omega) (by rw [Int.fmod_eq_emod_of_nonneg i (by omega)]; exact q)
theorem op_pow : OpR X (binaryOp .Pow) (rI CPow fun i j => .int (i ^ j.toNat)) := opI fun _ _ _ _ _ _ _ hc q => pow_int_small hc.1 hc.2.1 hc.2.2 q
theorem unI {f : Value → Sem Value} {g : Int → Int}
    (rule : ∀ (i : Int) (t : Tok) (s : Shared) (Q : Value → Shared → Prop) (E : Value → Shared → Prop), Q (.int (g i) s.toks) { s with toks := s.toks + 1 } → wpAny (model X.prog X.w) X.A (f (.int i t)) Q E s) :
    UnR X f (rU fun i => .int (g i)) := by
  intro pins s σ H x v Q I rx h
  obtain ⟨i, rfl, q⟩ := h
  obtain ⟨t, rfl⟩ := rx
  exact rule i t s _ _ ⟨.int (g i), H, I.tok _, ⟨_, rfl⟩, q⟩
theorem un_neg : UnR X (unaryOp .USub) (rU fun i => .int (-i)) := unI fun _ _ _ _ _ q => neg_int q
end

/-- the scalars that == tells apart as data does -/
def scal : V → V → Bool
  | .non, .non => true | .non, .int _ => true | .int _, .non => true | .non, .bl _ => true | .bl _, .non => true | .non, .str _ => true | .str _, .non => true
  | .int _, .int _ => true | .bl _, .bl _ => true | .str _, .str _ => true | .byt _, .byt _ => true
  | .int _, .str _ => true | .str _, .int _ => true | .bl _, .str _ => true | .str _, .bl _ => true
  | _, _ => false
def rEq : R2 := fun x y H Q => scal x y = true ∧ Q (.bl (decide (x = y))) H
def rNe : R2 := fun x y H Q => scal x y = true ∧ Q (.bl (!decide (x = y))) H

theorem dec_int {i j : Int} : decide (V.int i = V.int j) = (i == j) := by
  rw [Bool.eq_iff_iff]
  simp
theorem dec_bl {i j : Bool} : decide (V.bl i = V.bl j) = (i == j) := by
  rw [Bool.eq_iff_iff]
  simp
theorem dec_str {i j : Str} : decide (V.str i = V.str j) = (i == j) := by
  rw [Bool.eq_iff_iff]
  simp
theorem dec_byt {i j : Array UInt8} : decide (V.byt i = V.byt j) = (i.toList == j.toList) := by
  rw [Bool.eq_iff_iff]
  cases i
  cases j
  simp

section
variable {X : Cx} {a b c : Expr} {ta tb tc : TE} {pos : Pos}
theorem fin_bl {pins : List (Addr × Obj)} {σ : St} {H : Hp} {s : Shared} {Q : VK} {k k' : Bool} (I : Inv X pins σ H s) (q : Q (.bl k) H) (e : k = k') : EP X pins σ Q (.bool k') s := by
  subst e
  exact ⟨.bl k, H, I, rfl, q⟩
theorem op_eq : OpR X (compareOp .Eq) rEq := by
  intro pins s σ H x y v u Q I rx ry h
  obtain ⟨hs, q⟩ := h
  cases x with
  | non =>
    cases rx
    cases y with
    | non => cases ry; exact PySem.EqNone.eq_none_none (fin_bl I q (by simp))
    | bl j => cases ry; exact PySem.EqNone.eq_none_bool (fin_bl I q (by simp))
    | int j => obtain ⟨t', rfl⟩ := ry; exact PySem.EqNone.eq_none_int (fin_bl I q (by simp))
    | str j => obtain ⟨t', rfl⟩ := ry; exact PySem.EqNone.eq_none_str (fin_bl I q (by simp))
    | _ => exact absurd (show false = true from hs) Bool.false_ne_true
  | bl i =>
    cases rx
    cases y with
    | non => cases ry; exact PySem.EqNone.eq_bool_none (fin_bl I q (by simp))
    | bl j => cases ry; exact eq_bool (fin_bl I q dec_bl)
    | str j => obtain ⟨t', rfl⟩ := ry; exact PySem.EqMixed.eq_bool_str (fin_bl I q (by simp))
    | _ => exact absurd (show false = true from hs) Bool.false_ne_true
  | int i =>
    obtain ⟨t, rfl⟩ := rx
    cases y with
    | non => cases ry; exact PySem.EqNone.eq_int_none (fin_bl I q (by simp))
    | int j => obtain ⟨t', rfl⟩ := ry; exact eq_int (fin_bl I q dec_int)
    | str j => obtain ⟨t', rfl⟩ := ry; exact PySem.EqMixed.eq_int_str (fin_bl I q (by simp))
    | _ => exact absurd (show false = true from hs) Bool.false_ne_true
  | str i =>
    obtain ⟨t, rfl⟩ := rx
    cases y with
    | non => cases ry; exact PySem.EqNone.eq_str_none (fin_bl I q (by simp))
    | bl j => cases ry; exact PySem.EqMixed.eq_str_bool (fin_bl I q (by simp))
    | int j => obtain ⟨t', rfl⟩ := ry; exact PySem.EqMixed.eq_str_int (fin_bl I q (by simp))
    | str j => obtain ⟨t', rfl⟩ := ry; exact eq_str (fin_bl I q dec_str)
    | _ => exact absurd (show false = true from hs) Bool.false_ne_true
  | byt i =>
    obtain ⟨t, rfl⟩ := rx
    cases y with
    | byt j => obtain ⟨t', rfl⟩ := ry; exact PySem.W.eq_bytes (fin_bl I q dec_byt)
    | _ => exact absurd (show false = true from hs) Bool.false_ne_true
  | _ => cases y <;> exact absurd (show false = true from hs) Bool.false_ne_true
theorem op_ne : OpR X (compareOp .NotEq) rNe := by
  intro pins s σ H x y v u Q I rx ry h
  obtain ⟨hs, q⟩ := h
  cases x with
  | non =>
    cases rx
    cases y with
    | non => cases ry; exact PySem.EqNone.ne_none_none (fin_bl I q (by simp))
    | bl j => cases ry; exact PySem.EqNone.ne_none_bool (fin_bl I q (by simp))
    | int j => obtain ⟨t', rfl⟩ := ry; exact PySem.EqNone.ne_none_int (fin_bl I q (by simp))
    | str j => obtain ⟨t', rfl⟩ := ry; exact PySem.EqNone.ne_none_str (fin_bl I q (by simp))
    | _ => exact absurd (show false = true from hs) Bool.false_ne_true
  | bl i =>
    cases rx
    cases y with
    | non => cases ry; exact PySem.EqNone.ne_bool_none (fin_bl I q (by simp))
    | bl j => cases ry; exact ne_bool (fin_bl I q (congrArg not dec_bl))
    | str j => obtain ⟨t', rfl⟩ := ry; exact PySem.EqMixed.ne_bool_str (fin_bl I q (by simp))
    | _ => exact absurd (show false = true from hs) Bool.false_ne_true
  | int i =>
    obtain ⟨t, rfl⟩ := rx
    cases y with
    | non => cases ry; exact PySem.EqNone.ne_int_none (fin_bl I q (by simp))
    | int j => obtain ⟨t', rfl⟩ := ry; exact ne_int (fin_bl I q (congrArg not dec_int))
    | str j => obtain ⟨t', rfl⟩ := ry; exact PySem.EqMixed.ne_int_str (fin_bl I q (by simp))
    | _ => exact absurd (show false = true from hs) Bool.false_ne_true
  | str i =>
    obtain ⟨t, rfl⟩ := rx
    cases y with
    | non => cases ry; exact PySem.EqNone.ne_str_none (fin_bl I q (by simp))
    | bl j => cases ry; exact PySem.EqMixed.ne_str_bool (fin_bl I q (by simp))
    | int j => obtain ⟨t', rfl⟩ := ry; exact PySem.EqMixed.ne_str_int (fin_bl I q (by simp))
    | str j => obtain ⟨t', rfl⟩ := ry; exact ne_str (fin_bl I q (congrArg not dec_str))
    | _ => exact absurd (show false = true from hs) Bool.false_ne_true
  | byt i =>
    obtain ⟨t, rfl⟩ := rx
    cases y with
    | byt j => obtain ⟨t', rfl⟩ := ry; exact PySem.W.ne_bytes (fin_bl I q (congrArg not dec_byt))
    | _ => exact absurd (show false = true from hs) Bool.false_ne_true
  | _ => cases y <;> exact absurd (show false = true from hs) Bool.false_ne_true

theorem op_lt : OpR X (compareOp .Lt) (rI0 fun i j => .bl (decide (i < j))) := opB0 fun _ _ _ _ _ _ _ q => lt_int q
theorem op_le : OpR X (compareOp .LtE) (rI0 fun i j => .bl (decide (i ≤ j))) := opB0 fun _ _ _ _ _ _ _ q => le_int q
theorem op_gt : OpR X (compareOp .Gt) (rI0 fun i j => .bl (decide (j < i))) := opB0 fun _ _ _ _ _ _ _ q => gt_int q
theorem op_ge : OpR X (compareOp .GtE) (rI0 fun i j => .bl (decide (j ≤ i))) := opB0 fun _ _ _ _ _ _ _ q => ge_int q
/-- is None, is not None: the right side a value none -/
theorem op_isN : OpR X (compareOp .Is) (fun x y H Q => y = .non ∧ Q (.bl (decide (x = .non))) H) := by
  intro pins s σ H x y v u Q I rx ry h
  obtain ⟨rfl, q⟩ := h
  cases ry
  refine is_none_gen (fin_bl I q ?_)
  cases x <;> first
    | (cases rx; rfl)
    | (obtain ⟨t, rfl⟩ := rx; rfl)
theorem op_notN : OpR X (compareOp .IsNot) (fun x y H Q => y = .non ∧ Q (.bl (!decide (x = .non))) H) := by
  intro pins s σ H x y v u Q I rx ry h
  obtain ⟨rfl, q⟩ := h
  cases ry
  refine isnot_none_gen (fin_bl I q ?_)
  cases x <;> first
    | (cases rx; rfl)
    | (obtain ⟨t, rfl⟩ := rx; rfl)

theorem nomark (b : Expr) {op : CmpOp} (h : op ≠ .In := by decide) (h2 : op ≠ .NotIn := by decide) : behindInMarks op b = false := by
  have e1 : (op == CmpOp.In) = false := by cases op <;> first | rfl | exact absurd rfl h
  have e2 : (op == CmpOp.NotIn) = false := by cases op <;> first | rfl | exact absurd rfl h2
  cases b <;> simp [behindInMarks, e1, e2]
/-- a comparison as a value; hm: nomark b, or (for in, not in) by with_unfolding_all rfl -/
theorem pe_cmpR {op : CmpOp} {r : R2} (ho : OpR X (compareOp op) r) (ha : PE X a ta) (hb : PE X b tb) (hm : behindInMarks op b = false) : PE X (.Compare a [op] [b] pos) (tOp r ta tb) := by
  intro pins s σ H Q I h
  exact wpAny_Compare1 (binT ha hb I h fun v u s2 x y H2 I2 rx ry q => ho pins s2 σ H2 x y v u Q I2 rx ry q) hm
/-- a reading of a value as a test -/
def tTest (t : TE) : TT := fun σ H Q => t σ H fun x H' => ∃ k, x = .bl k ∧ Q k H'
theorem pt_cmpR {op : CmpOp} {r : R2} (ho : OpR X (compareOp op) r) (ha : PE X a ta) (hb : PE X b tb) (hm : behindInMarks op b = false) : PT X (.Compare a [op] [b] pos) (tTest (tOp r ta tb)) := by
  intro pins s σ H Q I h
  refine wpAny_isTrue_Compare1 (thn (ha pins s σ H _ I h) fun v s1 ⟨x, H1, I1, r1, q1⟩ => thn (hb pins s1 σ H1 _ I1 q1) fun u s2 ⟨y, H2, I2, r2, q2⟩ =>
    thn (ho pins s2 σ H2 x y v u _ I2 r1 r2 q2) fun c s3 ⟨z, H3, I3, r3, k, e, q3⟩ => ?_) hm
  subst e
  cases r3
  exact wpAny_truthy_bool ⟨H3, I3, q3⟩
/-- a op1 b op2 c -/
def tChain (r r' : R2) (ta tb tc : TE) : TE := fun σ H Q => ta σ H fun x H1 => tb σ H1 fun y H2 => r x y H2 fun z H3 => ∃ k, z = .bl k ∧
  (if k = true then tc σ H3 fun w' H4 => r' y w' H4 Q else Q (.bl false) H3)
theorem pe_chain {op op' : CmpOp} {r r' : R2} (ho : OpR X (compareOp op) r) (ho' : OpR X (compareOp op') r') (ha : PE X a ta) (hb : PE X b tb) (hc : PE X c tc)
    (hm : lastMarks [op, op'] [b, c] = false := by with_unfolding_all rfl) : PE X (.Compare a [op, op'] [b, c] pos) (tChain r r' ta tb tc) := by
  intro pins s σ H Q I h
  refine Compare_chain (thn (ha pins s σ H _ I h) fun v s1 ⟨x, H1, I1, r1, q1⟩ => chain_link (thn (hb pins s1 σ H1 _ I1 q1) fun u s2 ⟨y, H2, I2, r2, q2⟩ =>
    thn (ho pins s2 σ H2 x y v u _ I2 r1 r2 q2) fun d s3 ⟨z, H3, I3, r3, k, e, q3⟩ => ?_)) hm
  subst e
  cases r3
  refine wpAny_truthy_bool ?_
  cases k with
  | false => exact ite_ff ⟨.bl false, H3, I3, rfl, q3⟩
  | true => exact ite_tt (chain_last (thn (hc pins s3 σ H3 _ I3 q3) fun w' s4 ⟨z', H4, I4, r4, q4⟩ => ho' pins s4 σ H4 y z' u w' Q I4 r2 r4 q4))
theorem pt_chain {op op' : CmpOp} {r r' : R2} (ho : OpR X (compareOp op) r) (ho' : OpR X (compareOp op') r') (ha : PE X a ta) (hb : PE X b tb) (hc : PE X c tc)
    (hm : lastMarks [op, op'] [b, c] = false := by with_unfolding_all rfl) : PT X (.Compare a [op, op'] [b, c] pos) (tTest (tChain r r' ta tb tc)) := by
  intro pins s σ H Q I h
  refine isTrue_chain (thn (ha pins s σ H _ I h) fun v s1 ⟨x, H1, I1, r1, q1⟩ => test_link (thn (hb pins s1 σ H1 _ I1 q1) fun u s2 ⟨y, H2, I2, r2, q2⟩ =>
    thn (ho pins s2 σ H2 x y v u _ I2 r1 r2 q2) fun d s3 ⟨z, H3, I3, r3, k, e, q3⟩ => ?_)) hm
  subst e
  cases r3
  refine wpAny_truthy_bool ?_
  cases k with
  | false =>
    obtain ⟨k', e', q'⟩ := q3
    cases e'
    exact ite_ff ⟨H3, I3, q'⟩
  | true =>
    refine ite_tt (test_last (thn (hc pins s3 σ H3 _ I3 q3) fun w' s4 ⟨z', H4, I4, r4, q4⟩ => thn (ho' pins s4 σ H4 y z' u w' _ I4 r2 r4 q4) fun d' s5 ⟨z2, H5, I5, r5, k2, e2, q5⟩ => ?_))
    subst e2
    cases r5
    exact wpAny_truthy_bool ⟨H5, I5, q5⟩

/-- a value's truth by the abstract heap -/
def TruV (K : PySem.W.Frag) (x : V) (H : Hp) (k : Bool) : Prop :=
  match x with
  | .non => k = false
  | .bl b => k = b
  | .int i => k = (i != 0)
  | .str y => y.length ≤ sizeLine ∧ k = ((y.length : Int) != 0)
  | .byt y => y.size ≤ sizeLine ∧ k = ((y.size : Int) != 0)
  | .ref p => (∃ xs, SqL K H p xs ∧ k = !xs.isEmpty) ∨ (∃ xs, SqT K H p xs ∧ k = !xs.isEmpty) ∨ ∃ kvs, H p = some (.dK kvs) ∧ k = !kvs.isEmpty
  | _ => False
theorem isEmpty_kv {κ : Type} {kvs : List (κ × V)} {vs : List (κ × Value)} (r : KV kvs vs) : (!vs.isEmpty) = !kvs.isEmpty := by
  cases r <;> rfl
theorem isEmpty_of {xs : List V} {its : List Value} (r : Vals xs its) : (!its.toArray.isEmpty) = !xs.isEmpty := by
  cases r <;> simp
theorem line63 : (sizeLine : Nat) < 2 ^ 63 := by rw [sizeLine_eq]; decide
theorem tru_ok : TruR X (fun x H Q => ∃ k, TruV X.K x H k ∧ Q k H) := by
  intro pins s σ H x v Q I rx h
  obtain ⟨k, e, q⟩ := h
  have hl := line63
  have hs : sizeLine = 16777216 := sizeLine_eq
  cases x with
  | non =>
    cases rx
    have e' : k = false := e
    subst e'
    exact truthy_none ⟨H, I, q⟩
  | bl b =>
    cases rx
    have e' : k = b := e
    subst e'
    exact wpAny_truthy_bool ⟨H, I, q⟩
  | int i =>
    obtain ⟨t, rfl⟩ := rx
    have e' : k = (i != 0) := e
    subst e'
    exact PySem.P.truthy_int ⟨H, I, q⟩
  | str y =>
    obtain ⟨t, rfl⟩ := rx
    obtain ⟨hy, e'⟩ : y.length ≤ sizeLine ∧ k = ((y.length : Int) != 0) := e
    subst e'
    exact PySem.P.truthy_str (by omega) ⟨H, I.tok _, q⟩
  | byt y =>
    obtain ⟨t, rfl⟩ := rx
    obtain ⟨hy, e'⟩ : y.size ≤ sizeLine ∧ k = ((y.size : Int) != 0) := e
    subst e'
    exact PySem.W.truthy_bytes (by omega) ⟨H, I.tok _, q⟩
  | ref p =>
    cases rx
    have e' : (∃ xs, SqL X.K H p xs ∧ k = !xs.isEmpty) ∨ (∃ xs, SqT X.K H p xs ∧ k = !xs.isEmpty) ∨ ∃ kvs, H p = some (.dK kvs) ∧ k = !kvs.isEmpty := e
    rcases e' with ⟨xs, hx, e'⟩ | ⟨xs, hx, e'⟩ | ⟨kvs, hx, e'⟩
    · subst e'
      obtain ⟨its, r, pl, hz⟩ := I.list hx
      have hlen := r.length
      exact wpAny_truthy_list pl.isList (by simp only [List.size_toArray]; omega) ⟨H, I.tok _, by rw [isEmpty_of r]; exact q⟩
    · subst e'
      obtain ⟨its, r, pl, hz⟩ := I.tuple hx
      have hlen := r.length
      exact truthy_tuple pl (by simp only [List.size_toArray]; omega) ⟨H, I.tok _, by rw [isEmpty_of r]; exact q⟩
    · subst e'
      obtain ⟨hz, hS, vs, r, m⟩ : kvs.length ≤ sizeLine ∧ (p == sysModules) = false ∧ ∃ vs, KV kvs vs ∧ s.heap.DictOf (mixKind X.prog X.w) p vs := I.hok p _ hx
      have hlen : kvs.length = vs.length := Paired.length r
      exact wpAny_truthy_dict hS m (by omega) ⟨H, I.tok _, by rw [isEmpty_kv r]; exact q⟩
  | _ => exact (show False from e).elim
/-- any expression whose test is its value's truth (a name, a call, a subscript, a field ..: he by fun _ => rfl) -/
theorem pt_truth (ha : PE X a ta) (he : ∀ whole, isTrue a X.env whole = (do let v ← whole; standAt a.pos; holding [v] (truthy v))) :
    PT X a (fun σ H Q => ta σ H fun x H' => ∃ k, TruV X.K x H' k ∧ Q k H') := by
  intro pins s σ H Q I h
  exact isTrue_plain (thn (ha pins s σ H _ I h) fun v s1 ⟨x, H1, I1, r1, q1⟩ => tru_ok pins s1 σ H1 x v Q I1 r1 q1) (he _)

theorem vals1 {x : V} {us : List Value} (r : Vals [x] us) : ∃ u, us = [u] ∧ RelV x u := by
  cases r with
  | cons r1 r2 => cases r2; exact ⟨_, rfl, r1⟩
theorem vals2 {x y : V} {us : List Value} (r : Vals [x, y] us) : ∃ u w', us = [u, w'] ∧ RelV x u ∧ RelV y w' := by
  cases r with
  | cons r1 r2 =>
    cases r2 with
    | cons r3 r4 => cases r4; exact ⟨_, _, rfl, r1, r3⟩
theorem call_max2 (hc : X.calm = true) : CallR X (.builtin "max") (fun xs H Q => ∃ i j, xs = [.int i, .int j] ∧ Q (.int (if j > i then j else i)) H) := by
  intro pins s σ H xs us Q I r h
  obtain ⟨i, j, rfl, q⟩ := h
  obtain ⟨u, w', rfl, ⟨t, rfl⟩, ⟨t', rfl⟩⟩ := vals2 r
  refine max_two_ints (I.ok.hd hc) fun h' tk k => ⟨_, H, I.kept k, ?_, q⟩
  by_cases hj : j > i
  · rw [if_pos hj, if_pos hj]; exact ⟨_, rfl⟩
  · rw [if_neg hj, if_neg hj]; exact ⟨_, rfl⟩
theorem call_min2 (hc : X.calm = true) : CallR X (.builtin "min") (fun xs H Q => ∃ i j, xs = [.int i, .int j] ∧ Q (.int (if j < i then j else i)) H) := by
  intro pins s σ H xs us Q I r h
  obtain ⟨i, j, rfl, q⟩ := h
  obtain ⟨u, w', rfl, ⟨t, rfl⟩, ⟨t', rfl⟩⟩ := vals2 r
  refine min_two_ints (I.ok.hd hc) fun h' tk k => ⟨_, H, I.kept k, ?_, q⟩
  by_cases hj : j < i
  · rw [if_pos hj, if_pos hj]; exact ⟨_, rfl⟩
  · rw [if_neg hj, if_neg hj]; exact ⟨_, rfl⟩
end
end L2

namespace L2
open PySem PySem.Spec PyProof.Rows

structure ObjM (h : Heap) (x dx C : Addr) (mA : Str → Option Value) : Prop where
  obj : h.get? x = some (PySem.W.instObj C dx)
  ns : h.Ns1 dx mA
  ne : dx ≠ x

theorem lookIn_ns {h : Heap} {dx : Addr} {mA : Str → Option Value} (n : h.Ns1 dx mA) : ∃ od, h.get? dx = some od ∧ ∀ name, PySem.W.lookIn name od = some (mA name) := by
  obtain ⟨o, es, ep, ho, hd, hk, _, hm⟩ := n
  refine ⟨o, ho, fun name => ?_⟩
  have e := hm name
  unfold nsFind findBy at e
  rw [← Array.find?_toList] at e
  unfold PySem.W.lookIn
  rw [hd]
  dsimp only
  split
  · rename_i y q
    rw [q] at e
    exact congrArg some e
  · rename_i q
    rw [q] at e
    have a : es.toList.any (·.refKey) = false := by
      rw [List.any_eq_false]
      intro y hy
      obtain ⟨z, t, hkey⟩ := hk y (Array.mem_toList_iff.mp hy)
      simp [DictEntry.refKey, hkey]
    have a' : ¬ es.toList.any (·.refKey) = true := by rw [a]; exact Bool.false_ne_true
    rw [if_neg a']
    exact congrArg some e

theorem ObjM.look {h : Heap} {x dx C : Addr} {mA : Str → Option Value} (I : ObjM h x dx C mA) : ∃ od, PySem.W.InstAt h x (PySem.W.instObj C dx) C (some od) ∧ ∀ name, PySem.W.lookIn name od = some (mA name) :=
  let ⟨od, ho, hl⟩ := lookIn_ns I.ns
  ⟨od, ⟨I.obj, rfl, rfl, ho⟩, hl⟩

section
variable {prog : Program} {w : World} {A : Around} {E : Value → Shared → Prop} {s : Shared} {K : PySem.W.Frag} {x dx C f : Addr} {mA : Str → Option Value} {name : Str} {v : Value}

end

section
variable {P : Program} {w : World} {H H' : Hp} {h h' : Heap} {a C dx : Addr} {fs fs' : List (Str × V)}
theorem ins_get (hok : HOk P w H h) (e : H a = some (.ins C dx fs)) : ∃ mA, ObjM h a dx C mA ∧ (∀ f, RelO (fs.lookup f) (mA f)) ∧ PySem.Within mA (fs.map (·.1)) ∧ fs.length ≤ 1000 ∧ H dx = some (.own a) := by
  obtain ⟨d, z, ne, ob, mA, n, r, q⟩ := (show ObjOk P w H h a (.ins C dx fs) from hok a _ e)
  exact ⟨mA, ⟨ob, n, ne⟩, r, q, z, d⟩
end

structure Cls (K : PySem.W.Frag) (C : Addr) : Prop where
  pg : PySem.W.plainGet K C Str.empty = true
  hd : PySem.W.hasDictIn K C = true
  po : PySem.W.plainOver K C = true
  sa : PySem.W.findIn K (.ref C) "__setattr__" = some (some (.builtin "object.__setattr__"))
theorem Cls.get {K : PySem.W.Frag} {C : Addr} (c : Cls K C) (f : Str) : PySem.W.plainGet K C f = true := c.pg
section
variable {X : Cx} {pins : List (Addr × Obj)} {σ : St} {H : Hp} {s : Shared} {a C dx : Addr} {fs : List (Str × V)} {f : Str} {v : V} {A : Around} {E : Value → Shared → Prop}

end

section
variable {X : Cx} {o e value : Expr} {f : Str} {pos pos' tpos : Pos} {ta tv : TE}
end

section
variable {X : Cx} {pins : List (Addr × Obj)} {σ : St} {H : Hp} {s : Shared} {A : Around} {E : Value → Shared → Prop} {Q : Value → Shared → Prop} {c : Value} {b : Bool}
/-- the type of a value, as the fragment's deciders take it; for an instance its class -/
inductive TyOf (K : PySem.W.Frag) (H : Hp) : V → Value → Prop where
  | non : TyOf K H .non (.type "NoneType")
  | bl (x : Bool) : TyOf K H (.bl x) (.type "bool")
  | int (i : Int) : TyOf K H (.int i) (.type "int")
  | str (x : Str) : TyOf K H (.str x) (.type "str")
  | flt (x : UInt64) : TyOf K H (.flt x) (.type "float")
  | lst {a : Addr} {xs : List V} (e : H a = some (.lst xs)) : TyOf K H (.ref a) (.type "list")
  | frz {a : Addr} {o : Obj} {xs : List V} (e : H a = some (.frz o (.lst xs))) : TyOf K H (.ref a) (.type "list")
  | tup {a : Addr} {xs : List V} (e : H a = some (.tup xs)) : TyOf K H (.ref a) (.type "tuple")
  | dK {a : Addr} {kvs : List (Key × V)} (e : H a = some (.dK kvs)) : TyOf K H (.ref a) (.type "dict")
  | dT {a : Addr} {kvs : List (List Key × V)} (e : H a = some (.dT kvs)) : TyOf K H (.ref a) (.type "dict")
  | ins {a C dx : Addr} {fs : List (Str × V)} (e : H a = some (.ins C dx fs)) (cl : Cls K C) (ha : PySem.W.findIn K (.ref C) "__class__" = some (some (.builtin "object.__class__")))
      (hn : PySem.W.specialIn K (.builtin "object.__class__") "__get__" = some (some (.builtin "getset_descriptor.__get__"))) (htk : PySem.W.takesIn K (.builtin "object.__class__") = some true)
      (hm : PySem.W.mroIn K C (.type "object") = some true) : TyOf K H (.ref a) (.ref C)
/-- isinstance(x, c) for one class c, a built-in or an own one: kitOne's answer -/
theorem isinst_ok {x : V} {u t : Value} (I : Inv X pins σ H s) (rx : RelV x u) (ty : TyOf X.K H x t) (e : PySem.W.kitOne X.K t c = some b) (h : ∀ tk, Q (.bool b) { s with toks := tk }) :
    wpAny (model X.prog X.w) A (call (.builtin "isinstance") [u, c]) Q E s := by
  cases ty with
  | non => cases (show u = Value.none from rx); exact PySem.W.kia_one PySem.W.kitx_none I.kIn True.intro e (fun z => nomatch z) h
  | bl y => cases (show u = Value.bool y from rx); exact PySem.W.kia_one PySem.W.kitx_bool I.kIn True.intro e (fun z => nomatch z) h
  | int i => obtain ⟨t, q⟩ := (show ∃ t, u = Value.int i t from rx); cases q; exact PySem.W.kia_one PySem.W.kitx_int I.kIn True.intro e (fun z => nomatch z) h
  | str y => obtain ⟨t, q⟩ := (show ∃ t, u = Value.str y t from rx); cases q; exact PySem.W.kia_one PySem.W.kitx_str I.kIn True.intro e (fun z => nomatch z) h
  | flt y => obtain ⟨t, q⟩ := (show ∃ t, u = Value.float y t from rx); cases q; exact PySem.W.kia_one PySem.W.kitx_float I.kIn True.intro e (fun z => nomatch z) h
  | @lst a xs ea =>
    cases (show u = Value.ref a from rx)
    obtain ⟨_, _, n, _, h1⟩ := (show ObjOk X.prog X.w H s.heap a (.lst xs) from I.hok a _ ea)
    exact PySem.W.kia_one PySem.W.kitx_list I.kIn ⟨_, h1, rfl⟩ e (fun z => nomatch z) h
  | @frz a ob xs ea =>
    cases (show u = Value.ref a from rx)
    obtain ⟨_, _, _, n, _, h1⟩ := (show ObjOk X.prog X.w H s.heap a (.frz ob (.lst xs)) from I.hok a _ ea)
    exact PySem.W.kia_one PySem.W.kitx_list I.kIn ⟨_, h1, rfl⟩ e (fun z => nomatch z) h
  | @tup a xs ea =>
    cases (show u = Value.ref a from rx)
    obtain ⟨_, _, _, p⟩ := (show ObjOk X.prog X.w H s.heap a (.tup xs) from I.hok a _ ea)
    obtain ⟨o, h1, h2, _⟩ := p
    exact PySem.W.kia_one PySem.W.kitx_tuple I.kIn ⟨o, h1, h2⟩ e (fun z => nomatch z) h
  | @dK a kvs ea =>
    cases (show u = Value.ref a from rx)
    obtain ⟨_, _, vs, _, p⟩ := (show ObjOk X.prog X.w H s.heap a (.dK kvs) from I.hok a _ ea)
    obtain ⟨o, es, ep, h1, h2, _⟩ := p
    exact PySem.W.kia_one PySem.W.kitx_dict I.kIn ⟨o, h1, h2.1⟩ e (fun z => nomatch z) h
  | @dT a kvs ea =>
    cases (show u = Value.ref a from rx)
    obtain ⟨_, _, xs, _, o, es, ep, h1, h2, _⟩ := (show ObjOk X.prog X.w H s.heap a (.dT kvs) from I.hok a _ ea)
    exact PySem.W.kia_one PySem.W.kitx_dict I.kIn ⟨o, h1, h2.1⟩ e (fun z => nomatch z) h
  | @ins a C dx fs ea cl ha hn htk hm =>
    cases (show u = Value.ref a from rx)
    obtain ⟨mA, O, _⟩ := ins_get I.hok ea
    obtain ⟨od, J, _⟩ := O.look
    exact PySem.W.kia_one (PySem.W.kitx_own (cl.get _) cl.hd ha hn htk hm) I.kIn J e (fun z => nomatch z) h
end
end L2

namespace L2
open PySem PySem.Spec PyProof.Rows

structure Room (k : Nat) (A : Around) : Prop where
  hd : A.handled = none
  dp : A.depth + 3 * k + 5 < recursionLimit
  un : A.units + 16 * k + 200 < cLine
theorem Room.mono {j k : Nat} {A : Around} (r : Room k A) (h : j ≤ k) : Room j A := ⟨r.hd, by have := r.dp; omega, by have := r.un; omega⟩
theorem Room.deeper {k : Nat} {A : Around} (r : Room (k + 1) A) (env : Env) : Room k (A.deeper env) :=
  ⟨r.hd, by have := r.dp; show A.depth + 1 + 3 * k + 5 < _; omega, by have := r.un; show A.units + 3 + 16 * k + 200 < _; omega⟩
theorem Room.depth {k : Nat} {A : Around} (r : Room k A) : A.depth < recursionLimit := by have := r.dp; omega
theorem Room.units {k : Nat} {A : Around} (r : Room k A) : A.units + 64 < cLine := by have := r.un; omega
theorem Room.units0 {k : Nat} {A : Around} (r : Room k A) : A.units < cLine := by have := r.un; omega

def tNil : TA := fun _ H Q => Q [] H
def tCons (ta : TE) (tr : TA) : TA := fun σ H Q => ta σ H fun x H1 => tr σ H1 fun xs H2 => Q (x :: xs) H2
section
variable {X : Cx} {e : Expr} {es : List Expr} {te : TE} {t : TA} {pos : Pos}
theorem pa_nil : PA X [] tNil := fun _ _ _ _ H Q I h => Calls.spliced_nil ⟨[], H, I, .nil, h⟩
theorem pa_cons (ha : PE X e te) (hr : PA X es t) (hs : starEach (e :: es) X.env = (false, eval e X.env) :: starEach es X.env := by rfl) : PA X (e :: es) (tCons te t) := by
  intro pos pins s σ H Q I h
  rw [hs]
  show wpAny _ _ (spliced ((false, eval e X.env) :: backTo pos (starEach es X.env))) _ _ s
  refine Calls.spliced_cons (thn (ha pins s σ H _ I h) fun u s1 ⟨x, H1, I1, r1, q1⟩ => ?_)
  exact thn (hr pos pins s1 σ H1 _ I1 q1) fun us s2 ⟨xs, H2, I2, r2, q2⟩ => ⟨x :: xs, H2, I2, .cons r1 r2, q2⟩

/-- a tuple, a list of written items -/
def tTup (t : TA) : TE := fun σ H Q => t σ H fun xs H1 => xs.length ≤ sizeLine ∧ ∀ p, H1 p = none → Q (.ref p) (upd H1 p (.tup xs))
def tLst (t : TA) : TE := fun σ H Q => t σ H fun xs H1 => xs.length ≤ sizeLine ∧ ∀ p, H1 p = none → Q (.ref p) (upd H1 p (.lst xs))
theorem pe_tup {x1} (h : PA X es t) : PE X (.Tuple es x1 pos) (tTup t) := by
  intro pins s σ H Q I hq
  refine wpAny_Tuple_spliced (thn (h pos pins s σ H _ I hq) fun us s1 ⟨xs, H1, I1, r, z, q⟩ => ⟨by rw [← r.length]; exact z, ?_⟩)
  have hf : H1 s1.heap.objs.size = none := I1.hok.fresh (Nat.le_refl _)
  refine ⟨.ref s1.heap.objs.size, upd H1 s1.heap.objs.size (.tup xs), I1.laid (t' := s1.toks) (fun b u e => Heap.get?_push_of_some _ e) (Nat.le_refl _) ?_, rfl, q _ hf⟩
  exact ⟨z, us, r, ⟨_, Heap.get?_push_size _ rfl, rfl, _, rfl⟩⟩
theorem pe_lst (h : PA X es t) : PE X (.List es pos) (tLst t) := by
  intro pins s σ H Q I hq
  refine wpAny_List_spliced (thn (h pos pins s σ H _ I hq) fun us s1 ⟨xs, H1, I1, r, z, q⟩ => ⟨by rw [← r.length]; exact z, ?_⟩)
  have hf : H1 s1.heap.objs.size = none := I1.hok.fresh (Nat.le_refl _)
  refine ⟨.ref s1.heap.objs.size, upd H1 s1.heap.objs.size (.lst xs), I1.laid (t' := s1.toks) (fun b u e => Heap.get?_push_of_some _ e) (Nat.le_refl _) ?_, rfl, q _ hf⟩
  exact ⟨z, us, 0, r, Heap.get?_push_size _ rfl⟩
end

/-- a def's promise: the bound arguments in the parameters' order, the heap, the wanted end, the wanted exception -/
abbrev Sp := List V → Hp → VK → XK → Prop
/-- how an exception lies behind a call (file 08 gives it): the callers' frames, abstract heap and state ahead of the call, the wish, the exception, the state -/
abbrev CXT := List Env → Hp → Shared → XK → Value → Shared → Prop

/-- the state at a call -/
structure Env0 (P : Program) (w : World) (K : PySem.W.Frag) (mg : Str → Option Value) (base : Heap) (A : Around) (outer : List Env) (s : Shared) (H : Hp) : Prop where
  frames : A.frames = some outer
  mod : Mod K mg base
  bs : ∀ b o, base.get? b = some o → s.heap.get? b = some o ∧ H b = none
  bsz : base.objs.size ≤ s.heap.objs.size
  funs : s.heap.FunFrames base outer
  frf : ∀ b ∈ frs outer, H b = none
  hok : HOk P w H s.heap
  bare : AllBare s.gens
/-- a call's end -/
def CE (outer : List Env) (P : Program) (w : World) (H : Hp) (s : Shared) (Q : VK) (u : Value) (s' : Shared) : Prop :=
  ∃ v H', s'.os = s.os ∧ AllBare s'.gens ∧ Un (frs outer) [] H H' s.heap s'.heap ∧ HOk P w H' s'.heap ∧ RelV v u ∧ Q v H'
def CR (CX : CXT) (outer : List Env) (P : Program) (w : World) (H : Hp) (s : Shared) (Q : VK) (E : XK) (r : Result) (s' : Shared) : Prop :=
  match r with
  | .ok (.ret u) => CE outer P w H s Q u s'
  | .ok _ => False
  | .error e => CX outer H s E e s'
structure FnOk (P : Program) (w : World) (K : PySem.W.Frag) (mg : Str → Option Value) (base : Heap) (CX : CXT) (k : Nat) (f : Addr) (fd : FuncData) (ps : List Str) (sp : Sp) : Prop where
  len : ∀ vs H Q E, sp vs H Q E → vs.length = ps.length
  run : ∀ (A : Around) (outer : List Env) (s : Shared) (H : Hp) (args : Args) (us : List Value) (vs : List V) (Q : VK) (E : XK), Room k A → Env0 P w K mg base A outer s H → BindsTo s fd args (ps.zip us) → Vals vs us → sp vs H Q E →
    codeAny (model P w) A (.call (.ref f) args) (CR CX outer P w H s Q E) s
section
variable {X : Cx} {pins : List (Addr × Obj)} {σ : St} {H : Hp} {s s' : Shared}
/-- from a body: what a callee wants -/
theorem Inv.env0 (I : Inv X pins σ H s) : Env0 X.prog X.w X.K X.mg X.base X.A X.stack s H :=
  ⟨I.ok.frames, I.ok.mod, I.bs, Nat.le_trans I.ok.bsz I.sz, I.stack, I.stkFree, I.hok, I.bare⟩
/-- behind a call -/
theorem Inv.after {Q : VK} {u : Value} (I : Inv X pins σ H s) (h : CE X.stack X.prog X.w H s Q u s') : EP X pins σ Q u s' := by
  obtain ⟨v, H', os, bare, un, hok, r, q⟩ := h
  obtain ⟨hh, g, d, t, os'⟩ := s'
  obtain rfl : os' = s.os := os
  exact ⟨v, H', I.call (h' := hh) (g' := g) (d' := d) (t' := t) (ch := []) un hok bare (fun b z => absurd z (by simp)), r, q⟩
end

/-- f(..): the written arguments, then the defaults dvs; E: what is wanted of an exception -/
def tCall (sp : Sp) (dvs : List V) (E : XK) (t : TA) : TE := fun σ H Q => t σ H fun vs H1 => sp (vs ++ dvs) H1 Q E
/-- how the parameters are bound: us the positional arguments, kw the keywords' values by name, ds the defaults that fill up -/
def Binds (K : PySem.W.Frag) (fd : FuncData) (ps : List Str) (ds : List Value) : Prop :=
  ∀ (s : Shared) (us : List Value), K.In s.heap → (us ++ ds).length = ps.length → BindsTo s fd ⟨us, []⟩ (ps.zip (us ++ ds))
/-- every parameter is given -/
theorem Binds.all {K : PySem.W.Frag} {fd : FuncData} {ps : List Str} (h : ∀ us : List Value, us.length = ps.length → bindArgs fd ⟨us, []⟩ = pure (ps.zip us)) : Binds K fd ps [] := fun s us _ hl => by
  rw [List.append_nil] at hl ⊢
  exact .of_eq (h us hl)

/-- an exception of a callee reaches what this body wants of exceptions -/
def Passes (CX : CXT) (X : Cx) (E : XK) : Prop := ∀ (pins : List (Addr × Obj)) (σ : St) (H : Hp) (s : Shared) (e : Value) (s' : Shared), Inv X pins σ H s → CX X.stack H s E e s' → X.xe e s'

section
variable {X : Cx} {CX : CXT} {k : Nat} {f C : Addr} {fd : FuncData} {ps : List Str} {sp : Sp} {dvs : List V} {ds : List Value} {E : XK} {x m : Str} {p pos apos : Pos} {e o : Expr} {es : List Expr} {ta : TE} {t : TA}

/-- the callee runs -/
theorem run_fn {pins : List (Addr × Obj)} {σ : St} {H : Hp} {s : Shared} {Q : VK} {us : List Value} {vs : List V} (F : FnOk X.prog X.w X.K X.mg X.base CX k f fd ps sp) (hr : Room k X.A) (hb : Binds X.K fd ps ds) (hd : Vals dvs ds) (hx : Passes CX X E)
    (I : Inv X pins σ H s) (r : Vals vs us) (h : sp (vs ++ dvs) H Q E) : wpAny (model X.prog X.w) X.A (call (.ref f) us) (EP X pins σ Q) X.xe s := by
  have r2 : Vals (vs ++ dvs) (us ++ ds) := r.append hd
  have hl : (us ++ ds).length = ps.length := by rw [← r2.length]; exact F.len _ _ _ _ h
  refine wpAny_call (codeAny_mono (F.run X.A X.stack s H ⟨us, []⟩ (us ++ ds) (vs ++ dvs) Q E hr I.env0 (hb s us I.kIn hl) r2 h) fun r s' hq => ?_)
  cases r with
  | error e => exact hx pins σ H s e s' I hq
  | ok fl =>
    cases fl with
    | ret u => exact I.after hq
    | next => exact False.elim hq
    | brk => exact False.elim hq
    | cont => exact False.elim hq

theorem pe_call (F : FnOk X.prog X.w X.K X.mg X.base CX k f fd ps sp) (hr : Room k X.A) (hg : Gl X x) (hm : X.mg x = some (.ref f)) (hk : PySem.W.keepIn X.K (.ref f) = true) (hb : Binds X.K fd ps ds) (hd : Vals dvs ds) (hx : Passes CX X E)
    (ha : PA X (e :: es) t) (hdb : (x == ("__debug__" : Str)) = false := by decide) (he : starEach (e :: es) X.env = (false, eval e X.env) :: starEach es X.env := by rfl) (hpl : (backTo pos (starEach es X.env)).any (·.1) = false := by rfl) :
    PE X (.Call (.Name x p) (e :: es) [] pos) (tCall sp dvs E t) := by
  intro pins s σ H Q I h
  refine wpAny_Call_Name_kw (ld_glob I hg hm ?_ hdb)
  refine PySem.W.callWith_K (h₀ := X.base) I.ok.mod.kin hk (thn (ha pos pins s σ H _ I h) fun us s1 ⟨vs, H1, I1, r, q⟩ => ⟨I1.kIn, ?_⟩) he hpl
  exact run_fn F hr hb hd hx I1 r q
end

section
variable {X : Cx} {CX : CXT} {k : Nat} {f C : Addr} {fd : FuncData} {ps ks : List Str} {sp : Sp} {E : XK} {x m : Str} {p pos apos kpos : Pos} {e o : Expr} {es : List Expr} {kws : List Keyword} {te ta : TE} {t tk : TA} {nm : Option Str}
variable {g : List Value → List Value → List Value} {gV : List V → List V → List V}
end

/-- names: the parameters first -/
structure FnScope (N P : List Str) (sc : Scope) : Prop where
  kind : sc.kind = .function
  co : sc.isCoroutine = false
  gen : sc.isGenerator = false
  nd : N.Nodup
  pre : N.take P.length = P
  par : ∀ x ∈ P, sc.names.lookup x = some .local ∨ sc.names.lookup x = some .cell
  nofree : ∀ y ∈ sc.names, y.2 ≠ .free

theorem bindL_out {kindOf : Str → Option NameKind} {x : Str} : ∀ {binds : List (Str × Value)} {m : Str → Option Value}, (∀ v, (x, v) ∉ binds) → bindL kindOf binds m x = m x
  | [], _, _ => rfl
  | (n, v) :: r, m, h => by
    unfold bindL
    rw [bindL_out fun w hw => h w (List.mem_cons_of_mem _ hw)]
    split
    · have : x ≠ n := by rintro rfl; exact h v List.mem_cons_self
      simp [this]
    · rfl
theorem bindC_out {kindOf : Str → Option NameKind} {x : Str} : ∀ {binds : List (Str × Value)} {m : Str → Option Value}, (∀ v, (x, v) ∉ binds) → bindC kindOf binds m x = m x
  | [], _, _ => rfl
  | (n, v) :: r, m, h => by
    unfold bindC
    rw [bindC_out fun w hw => h w (List.mem_cons_of_mem _ hw)]
    split
    · rfl
    · have : x ≠ n := by rintro rfl; exact h v List.mem_cons_self
      simp [this]
theorem bindL_get {kindOf : Str → Option NameKind} {x : Str} {v : Value} : ∀ {P : List Str} {vs : List Value} {i : Nat} {m : Str → Option Value}, P.Nodup → P[i]? = some x → vs[i]? = some v → kindOf x = some .local →
    bindL kindOf (P.zip vs) m x = some v
  | [], _, _, _, _, h, _, _ => by simp at h
  | _ :: _, [], _, _, _, _, h, _ => by simp at h
  | p :: P, w :: vs, 0, m, nd, h1, h2, hk => by
    simp at h1 h2; subst h1; subst h2
    show bindL kindOf ((p, w) :: P.zip vs) m p = _
    unfold bindL
    rw [bindL_out fun v hv => (List.nodup_cons.mp nd).1 (List.of_mem_zip hv).1, if_pos hk]
    simp
  | p :: P, w :: vs, i + 1, m, nd, h1, h2, hk => by
    show bindL kindOf ((p, w) :: P.zip vs) m x = _
    unfold bindL
    exact bindL_get (i := i) (List.nodup_cons.mp nd).2 (by simpa using h1) (by simpa using h2) hk
theorem bindC_get {kindOf : Str → Option NameKind} {x : Str} {v : Value} : ∀ {P : List Str} {vs : List Value} {i : Nat} {m : Str → Option Value}, P.Nodup → P[i]? = some x → vs[i]? = some v → kindOf x ≠ some .local →
    bindC kindOf (P.zip vs) m x = some v
  | [], _, _, _, _, h, _, _ => by simp at h
  | _ :: _, [], _, _, _, _, h, _ => by simp at h
  | p :: P, w :: vs, 0, m, nd, h1, h2, hk => by
    simp at h1 h2; subst h1; subst h2
    show bindC kindOf ((p, w) :: P.zip vs) m p = _
    unfold bindC
    rw [bindC_out fun v hv => (List.nodup_cons.mp nd).1 (List.of_mem_zip hv).1, if_neg hk]
    simp
  | p :: P, w :: vs, i + 1, m, nd, h1, h2, hk => by
    show bindC kindOf ((p, w) :: P.zip vs) m x = _
    unfold bindC
    exact bindC_get (i := i) (List.nodup_cons.mp nd).2 (by simpa using h1) (by simpa using h2) hk

/-- the names' values at the entry -/
def start (N : List Str) (vs : List V) : St := vs.map some ++ List.replicate (N.length - vs.length) none

/-- the context of a def's body, at its entry; an exception leaves the frame, then lies as CX says -/
def cxOf (CX : CXT) (P : Program) (w : World) (K : PySem.W.Frag) (mg : Str → Option Value) (base : Heap) (N : List Str) (qual : Str) (scope : Scope) (f : Addr) (cd : Value) (A : Around) (outer : List Env) (s : Shared) (H : Hp) (E : XK) : Cx where
  prog := P
  w := w
  K := K
  mg := mg
  base := base
  A := A.deeper (envOfC qual scope s.heap.objs.size f cd)
  N := N
  s₀ := s
  H₀ := H
  env := envOfC qual scope s.heap.objs.size f cd
  outer := outer
  stack := envOfC qual scope s.heap.objs.size f cd :: outer
  ex := []
  calm := true
  fn := fun _ => true
  pn := []
  xe := fun e s' => wpAny (model P w) (A.deeper (envOfC qual scope s.heap.objs.size f cd)) (leaving (envOfC qual scope s.heap.objs.size f cd) e) (fun _ s'' => CX outer H s E e s'') (fun e' s'' => CX outer H s E e' s'') s'

theorem cell_has {sc : Scope} {n : Nat} {x : Str} (h : sc.names.lookup x = some .cell) : ∃ c, (cellsFrom n sc.names []).lookup x = some c := by
  have q := PySem.W.cellsFrom_some sc.names n [] (.inl h)
  exact Option.isSome_iff_exists.mp q

theorem inv_start {CX : CXT} {P : Program} {w : World} {K : PySem.W.Frag} {mg : Str → Option Value} {base : Heap} {N ps : List Str} {qual : Str} {scope : Scope} {f : Addr} {cd : Value} {A : Around} {outer : List Env} {s s1 : Shared} {H : Hp} {E : XK} {us : List Value} {vs : List V}
    (S : FnScope N ps scope) (hd : A.handled = none) (e0 : Env0 P w K mg base A outer s H) (hl : vs.length = ps.length) (r : Vals vs us)
    (x : InCallC s s.heap.objs.size (bindL (envOfC qual scope s.heap.objs.size f cd).kindOf (ps.zip us) fun _ => none) (cellsFrom (s.heap.objs.size + 1) scope.names []) (bindC (envOfC qual scope s.heap.objs.size f cd).kindOf (ps.zip us) fun _ => none) s1) :
    Inv (cxOf CX P w K mg base N qual scope f cd A outer s H E) [] (start N vs) H s1 := by
  have hpl : ps.length ≤ N.length := by have := congrArg List.length S.pre; rw [List.length_take] at this; omega
  obtain ⟨h1, tk, rfl, hk⟩ := x.done
  have noA : ∀ b : Addr, b ∉ (cxOf CX P w K mg base N qual scope f cd A outer s H E).ex := fun b z => absurd (show b ∈ ([] : List Addr) from z) (by simp)
  refine ⟨⟨e0.mod, S.kind, rfl, rfl, Nat.le_refl _, fun y z c h1 h2 => ?_, fun y hy => ?_, fun y c _ h => ?_, fun _ => hd, Around.frames_deeper e0.frames, .inr ⟨rfl, rfl⟩, fun b z => absurd z (noA b), e0.bs, e0.bsz, fun b _ _ => noA b, fun b z => absurd z (noA b), e0.funs, e0.frf⟩,
    rfl, e0.bare, Un.kept hk, ⟨_, x.toInCall.ns, fun i y v h1 h2 h3 => ?_⟩, fun y c h => ⟨_, x.cell y c h⟩, e0.hok.fresh (Nat.le_refl _), fun y c h => ?_, fun p hp => absurd (show p ∈ ([] : List (Addr × Obj)) from hp) (by simp), e0.hok.kept hk, ?_⟩
  · exact name_of_addr x.apart (PySem.mem_of_lookup h1) (PySem.mem_of_lookup h2)
  · have hy : scope.names.lookup y = some .cell ∨ scope.names.lookup y = some .free := hy
    rcases hy with hy | hy
    · exact cell_has hy
    · exact absurd rfl (S.nofree _ (PySem.mem_of_lookup hy))
  · exact Nat.le_of_lt (x.above y c (PySem.mem_of_lookup h))
  · have hi : i < vs.length := by
      unfold start at h2
      by_cases hi : i < vs.length
      · exact hi
      · rw [List.getElem?_append_right (by simpa using hi)] at h2
        rw [List.getElem?_replicate] at h2
        split at h2 <;> cases h2
    have ha : vs[i]? = some v := by
      unfold start at h2
      rw [List.getElem?_append_left (by simpa using hi), List.getElem?_map] at h2
      cases e : vs[i]? with
      | none => rw [e] at h2; cases h2
      | some a => rw [e] at h2; cases h2; rfl
    obtain ⟨u, hu, rv⟩ := r.get ha
    have hp : ps[i]? = some y := by
      rw [← S.pre, List.getElem?_take_of_lt (by omega)]; exact h1
    have ndP : ps.Nodup := by rw [← S.pre]; exact S.nd.sublist (List.take_sublist _ _)
    refine ⟨u, rv, ?_⟩
    rcases S.par y (List.mem_of_getElem? hp) with k | k
    · exact .inl ⟨k, bindL_get ndP hp hu k⟩
    · obtain ⟨c, e⟩ := cell_has (n := s.heap.objs.size + 1) k
      refine .inr ⟨.inl k, c, e, ?_⟩
      have q := x.cell y c e
      rw [bindC_get ndP hp hu (by show scope.names.lookup y ≠ _; rw [k]; decide)] at q
      exact q
  · exact e0.hok.fresh (Nat.le_of_lt (x.above y c (PySem.mem_of_lookup h)))
  · unfold start
    show _ = N.length
    rw [List.length_append, List.length_map, List.length_replicate]
    omega

/-- THE RULE: a def (or a method) of the text, by its body. The body's reading t is chosen for each entry; it is run at the parameters' values -/
theorem fn_of {CX : CXT} {P : Program} {w : World} {K : PySem.W.Frag} {mg : Str → Option Value} {base : Heap} {k : Nat} {f : Addr} {name qual : Str} {params : Arguments} {body : List Stmt} {scope : Scope} {dV kV doc pm cdv ct oc : Value} {an od : Option Addr}
    {osl : Array (Option Value)} {N ps : List Str} {sp : Sp} (lk : K.lookup f = some ⟨oc, od, .func (PySem.W.fnOf name qual params body scope dV kV doc pm an cdv ct), osl⟩) (hcd : PySem.W.codeIn K cdv qual = true) (S : FnScope N ps scope)
    (len : ∀ vs H Q E, sp vs H Q E → vs.length = ps.length)
    (hbody : ∀ (A : Around) (outer : List Env) (s : Shared) (H : Hp) (vs : List V) (Q : VK) (E : XK), Room k (A.deeper (envOfC qual scope s.heap.objs.size f cdv)) → sp vs H Q E →
      ∃ t, PSs (cxOf CX P w K mg base N qual scope f cdv A outer s H E) body t ∧ t { nx := fun _ H' => Q .non H', rt := Q } (start N vs) H) :
    FnOk P w K mg base CX (k + 1) f (PySem.W.fnOf name qual params body scope dV kV doc pm an cdv ct) ps sp := by
  refine ⟨len, fun A outer s H args us vs Q E hr e0 hb r hsp => ?_⟩
  have hl := len _ _ _ _ hsp
  have KX : K.In s.heap := e0.mod.kin.keeps fun b o e => (e0.bs b o e).1
  have lim : s.heap.NoLimit := e0.mod.nolimit.keeps fun b o e => (e0.bs b o e).1
  have hkind : ∀ y ∈ ps.zip us, scope.names.lookup y.1 = some .local ∨ (scope.names.lookup y.1 = some .cell ∧ ((cellsFrom (s.heap.objs.size + 1) scope.names []).lookup y.1).isSome = true) := fun ⟨n, v⟩ hy => by
    rcases S.par n (List.of_mem_zip hy).1 with q | q
    · exact .inl q
    · exact .inr ⟨q, PySem.W.cellsFrom_some _ _ _ (.inl q)⟩
  refine codeAny_call_function hr.depth (KX _ _ lk) rfl S.co S.gen rfl (PySem.W.codeRec_of KX hcd) (hb _ _ _ _ ?_)
  refine wpAny_newFunctionEnv_cells S.kind hkind fun env he s1 x => ?_
  subst he
  refine ⟨lim.keeps x.toInCall.keep, codeAny_func ?_⟩
  obtain ⟨t, ht, hq⟩ := hbody A outer s H vs Q E (hr.deeper _) hsp
  have I : Inv (cxOf CX P w K mg base N qual scope f cdv A outer s H E) [] (start N vs) H s1 := inv_start S hr.hd e0 hl r x
  refine wpAny_mono (ht [] s1 (start N vs) H _ I hq) (fun fl s' hs => ?_) fun e s' hs => hs
  have fin : ∀ {σ' : St} {H' : Hp} {v : V} {u : Value}, Inv (cxOf CX P w K mg base N qual scope f cdv A outer s H E) [] σ' H' s' → RelV v u → Q v H' → CE outer P w H s Q u s' :=
    fun {σ' H' v u} J rv q => ⟨v, H', J.os, J.bare, J.base, J.hok, rv, q⟩
  cases fl with
  | ret u =>
    obtain ⟨v, σ', H', J, rv, q⟩ := hs
    exact fin J rv q
  | next =>
    obtain ⟨σ', H', J, q⟩ := hs
    exact fin (v := V.non) (u := Value.none) J rfl q
  | brk =>
    obtain ⟨_, _, _, q⟩ := hs
    exact False.elim q
  | cont =>
    obtain ⟨_, _, _, q⟩ := hs
    exact False.elim q
end L2

namespace L2
open PySem PySem.Spec PyProof.Rows
section
variable {X : Cx} {x : Str} {p pos : Pos} {e : Expr} {es : List Expr} {t : TA} {id T : String} {r : List V → Hp → VK → Prop}

def tCB (r : List V → Hp → VK → Prop) (t : TA) : TE := fun σ H Q => t σ H fun vs H1 => r vs H1 Q
/-- f(e, ..), f a built-in function -/
theorem pe_callB (hc : CallR X (.builtin id) r) (hg : Gl X x) (hm : X.mg x = none) (hv : bootBuiltins x = some (.builtin id)) (ha : PA X (e :: es) t) (hn : x ≠ "__name__" := by decide) (hdb : (x == ("__debug__" : Str)) = false := by decide)
    (he : starEach (e :: es) X.env = (false, eval e X.env) :: starEach es X.env := by rfl) (hpl : (backTo pos (starEach es X.env)).any (·.1) = false := by rfl) : PE X (.Call (.Name x p) (e :: es) [] pos) (tCB r t) := by
  intro pins s σ H Q I h
  refine wpAny_Call_Name_kw (ld_blt I hg hm hv ?_ hn hdb)
  exact PyProof.Rows.callWith_builtin1 (thn (ha pos pins s σ H _ I h) fun us s1 ⟨vs, H1, I1, r1, q1⟩ => hc pins s1 σ H1 vs us Q I1 r1 q1) he hpl
/-- T(e, ..), T a built-in type -/
theorem pe_callTy (hc : CallR X (.type T) r) (hg : Gl X x) (hm : X.mg x = none) (hv : bootBuiltins x = some (.type T)) (ha : PA X (e :: es) t) (hn : x ≠ "__name__" := by decide) (hdb : (x == ("__debug__" : Str)) = false := by decide)
    (he : starEach (e :: es) X.env = (false, eval e X.env) :: starEach es X.env := by rfl) (hpl : (backTo pos (starEach es X.env)).any (·.1) = false := by rfl) : PE X (.Call (.Name x p) (e :: es) [] pos) (tCB r t) := by
  intro pins s σ H Q I h
  refine wpAny_Call_Name_kw (ld_blt I hg hm hv ?_ hn hdb)
  exact PyProof.Rows.callWith_type1 (thn (ha pos pins s σ H _ I h) fun us s1 ⟨vs, H1, I1, r1, q1⟩ => hc pins s1 σ H1 vs us Q I1 r1 q1) he hpl
end
end L2

namespace L2
open PySem PySem.Spec PyProof.Rows

section
variable {κ : Type} [DecidableEq κ]
def valV (kvs : List (κ × V)) (k : κ) : Option V := (kvs.find? fun kv => decide (kv.1 = k)).map (·.2)
/-- in its place, or at the end -/
def putK (kvs : List (κ × V)) (k : κ) (v : V) : List (κ × V) :=
  if (kvs.any fun kv => decide (kv.1 = k)) = true then kvs.map (fun kv => if kv.1 = k then (kv.1, v) else kv) else kvs ++ [(k, v)]
def dropK (kvs : List (κ × V)) (k : κ) : List (κ × V) := kvs.filter fun kv => decide (kv.1 ≠ k)

end

/-- raw entries of a dict with tuple keys -/
abbrev KT (H : Hp) : List (List Key × V) → List (List Key × Addr × Value) → Prop := Paired fun p q => p.1 = q.1 ∧ H q.2.1 = some (.tup (p.1.map kV)) ∧ RelV p.2 q.2.2
section
variable {P : Program} {w : World} {H : Hp} {h : Heap} {a : Addr}
end

/-- what the dict at a holds at the key y -/
def DGet (H : Hp) (a : Addr) (y : V) (r : Option V) : Prop :=
  (∃ kvs k, Rd H a (.dK kvs) ∧ y = kV k ∧ r = valV kvs k) ∨ ∃ kvs k b, Rd H a (.dT kvs) ∧ y = .ref b ∧ H b = some (.tup (k.map kV)) ∧ r = valV kvs k
/-- the heap behind a[y] = v -/
def DPut (H : Hp) (a : Addr) (y v : V) (H' : Hp) : Prop :=
  (∃ kvs k, H a = some (.dK kvs) ∧ y = kV k ∧ kvs.length < sizeLine ∧ H' = upd H a (.dK (putK kvs k v))) ∨
  ∃ kvs k b, H a = some (.dT kvs) ∧ y = .ref b ∧ H b = some (.tup (k.map kV)) ∧ kvs.length < sizeLine ∧ H' = upd H a (.dT (putK kvs k v))
section
variable {X : Cx} {pins : List (Addr × Obj)} {σ : St} {H : Hp} {s : Shared} {a : Addr} {y v : V} {u r : Value} {o : Option V} {A : Around} {E : Value → Shared → Prop}

end

section
variable {X : Cx} {pins : List (Addr × Obj)} {σ : St} {H : Hp} {s : Shared} {a : Addr} {kvs : List (Key × V)} {k : Key} {u : Value} {A : Around} {E : Value → Shared → Prop}
end

section
variable {X : Cx} {o i e value : Expr} {pos pos' tpos : Pos} {td ty tv : TE}
end

section
variable {X : Cx} {pos : Pos}
end

section
variable {X : Cx} {pins : List (Addr × Obj)} {σ : St} {H : Hp} {s : Shared} {a : Addr} {y d : V} {u r : Value} {o : Option V} {A : Around} {E : Value → Shared → Prop}
end

section
variable {X : Cx} {o e f : Expr} {apos cpos : Pos} {td ty tx : TE}
end

section
variable {X : Cx} {pins : List (Addr × Obj)} {σ : St} {H : Hp} {s : Shared} {a : Addr} {kvs : List (Key × V)} {A : Around} {E : Value → Shared → Prop}
end

section
variable {X : Cx} {pins : List (Addr × Obj)} {σ : St} {H : Hp} {s : Shared} {a : Addr} {y : V} {u : Value} {A : Around} {E : Value → Shared → Prop}
end
end L2

namespace HT
open PySem PyProof.Rows

section
open PySem.SeqAt
open PySem.AutoSeq1 (wpAny_loadPart')
open PySem.MeetsSeq PySem.MeetsSeq2 PySem.MeetsSeq3

end

section
variable {prog : Program} {w : World} {A : Around} {E : Value → Shared → Prop} {s : Shared}

/-- t + u, t not empty -/
theorem cat_tup {t b : Addr} {vs ws : List Value} {Q : Value → Shared → Prop} (ht : IsTup s.heap t vs.toArray) (hb : IsTup s.heap b ws.toArray) (hv : vs ≠ [])
    (h1 : ws = [] → Q (.ref t) s) (h2 : ws ≠ [] → Q (.ref s.heap.objs.size) { s with heap := s.heap.push { cls := .type "tuple", data := .seq (vs ++ ws).toArray } })
    (hsz : vs.length + ws.length ≤ sizeLine) : wpAny (model prog w) A (binaryOp .Add (.ref t) (.ref b)) Q E s := by
  obtain ⟨⟨cls, dd, data, sl⟩, ho, hc, n, hd⟩ := id ht
  obtain ⟨⟨cls2, dd2, data2, sl2⟩, ho2, hc2, n2, hd2⟩ := id hb
  simp only at hc hd hc2 hd2
  subst hc hd hc2 hd2
  have e : vs.toArray ++ ws.toArray = (vs ++ ws).toArray := by simp
  by_cases hw : ws = []
  · exact concat_meets ⟨_, ho, rfl⟩ ⟨_, ho2, rfl⟩ noFill_tuple_add seq_tuple_add PySem.F.slot_tuple_add PySem.F.entry_tuple_add (PySem.F.args_tuple_add_2 _ _)
      (tuple_addW1 t b vs.toArray ws.toArray n n2 dd dd2 sl sl2 (by simpa using hv) (by simp [hw])) ⟨ho, ho2, h1 hw⟩
  · refine concat_meets ⟨_, ho, rfl⟩ ⟨_, ho2, rfl⟩ noFill_tuple_add seq_tuple_add PySem.F.slot_tuple_add PySem.F.entry_tuple_add (PySem.F.args_tuple_add_2 _ _)
      (tuple_addW2 t b vs.toArray ws.toArray n n2 dd dd2 sl sl2 (by simpa using hv) (by simpa using hw) (by rw [List.size_toArray, List.size_toArray]; exact hsz)) ⟨ho, ho2, ?_⟩
    rw [e]
    exact h2 hw

/-- a slice's bound as a place among n (d where it is left out) -/
def sIx (n d : Nat) : Option Int → Nat
  | none => d
  | some v => if v < 0 then (v + (n : Int)).toNat else min v.toNat n
end
end HT

namespace L2
open PySem PySem.Spec PyProof.Rows

abbrev TO := St → Hp → (Option Int → Hp → Prop) → Prop
/-- a slice's part (left out, or an int) -/
def PO (X : Cx) (e : Option Expr) (t : TO) : Prop :=
  ∀ (pins : List (Addr × Obj)) (s : Shared) (σ : St) (H : Hp) (Q : Option Int → Hp → Prop), Inv X pins σ H s → t σ H Q →
    wpAny (model X.prog X.w) X.A (evalPart e X.env) (fun u s' => ∃ o H', Inv X pins σ H' s' ∧ IsPart u o ∧ Q o H') X.xe s
def tNoPart : TO := fun _ H Q => Q none H
def tPart (t : TE) : TO := fun σ H Q => t σ H fun x H1 => ∃ i, x = .int i ∧ Q (some i) H1

section
variable {X : Cx} {e : Expr} {te : TE} {lo hi : Option Expr} {tl th : TO} {pos p2 : Pos}

theorem po_none : PO X none tNoPart := by
  intro pins s σ H Q I h
  rw [evalPart_none]
  exact wpAny_pure ⟨none, H, I, .none, h⟩
theorem po_some (h : PE X e te) : PO X (some e) (tPart te) := by
  intro pins s σ H Q I hw
  rw [evalPart_some]
  refine thn (h pins s σ H _ I hw) fun u s1 ⟨x, H1, I1, r1, q1⟩ => ?_
  obtain ⟨i, rfl, q⟩ := q1
  obtain ⟨t, rfl⟩ := r1
  exact ⟨some i, H1, I1, .int i t, q⟩

/-- what a slice of a value is, by values: the slice object stands at sl -/
def SlR (X : Cx) (r : V → Option Int → Option Int → Hp → VK → Prop) : Prop :=
  ∀ (pins : List (Addr × Obj)) (s : Shared) (σ : St) (H : Hp) (x : V) (v vl vu : Value) (lo hi : Option Int) (sl : Addr) (Q : VK), Inv X pins σ H s → RelV x v → s.heap.IsSliceOf sl vl vu .none → IsPart vl lo → IsPart vu hi → r x lo hi H Q →
    ∃ T id, typeLookup (.type T) "__getitem__" = pure (some (.builtin id)) ∧ s.TypeIs v T ∧ wpAny (model X.prog X.w) X.A (getItem v (.ref sl)) (EP X pins σ Q) X.xe s
def tSl (r : V → Option Int → Option Int → Hp → VK → Prop) (te : TE) (tl th : TO) : TE := fun σ H Q => te σ H fun x H1 => tl σ H1 fun l H2 => th σ H2 fun u H3 => r x l u H3 Q
/-- a[lo:hi], any a -/
theorem pe_slice {r : V → Option Int → Option Int → Hp → VK → Prop} (hr : SlR X r) (he : PE X e te) (hl : PO X lo tl) (hu : PO X hi th) : PE X (.Subscript e (.Slice lo hi none p2) pos) (tSl r te tl th) := by
  intro pins s σ H Q I h
  refine Subscript_ (thn (he pins s σ H _ I h) fun v s1 ⟨x, H1, I1, r1, q1⟩ => ?_)
  refine wpAny_Slice (thn (hl pins s1 σ H1 _ I1 q1) fun vl s2 ⟨l, H2, I2, pl, q2⟩ => thn (hu pins s2 σ H2 _ I2 q2) fun vu s3 ⟨u, H3, I3, pu, q3⟩ => ?_)
  rw [evalPart_none]
  refine wpAny_pure ?_
  have I4 : Inv X pins σ H3 { s3 with heap := s3.heap.push { cls := .type "slice", data := .fields #[vl, vu, .none] } } := I3.kept (t' := s3.toks) fun b ob q => Heap.get?_push_of_some _ q
  obtain ⟨T, id, hT, ht, hg⟩ := hr pins { s3 with heap := s3.heap.push { cls := .type "slice", data := .fields #[vl, vu, .none] } } σ H3 x v vl vu l u s3.heap.objs.size Q I4 r1 (Heap.IsSliceOf.new ..) pl pu q3
  show wpAny (model X.prog X.w) X.A (subscriptTail e (.Slice lo hi none p2) v (.ref s3.heap.objs.size)) (EP X pins σ Q) X.xe { s3 with heap := s3.heap.push { cls := .type "slice", data := .fields #[vl, vu, .none] } }
  exact tail_any (ops := [.ref s3.heap.objs.size, v]) ht hT hg (by with_unfolding_all rfl)

/-- the items of xs[lo:hi] -/
def cutV (xs : List V) (lo hi : Option Int) : List V := (xs.drop (HT.sIx xs.length 0 lo)).take (HT.sIx xs.length xs.length hi - HT.sIx xs.length 0 lo)
theorem cutV_length (xs : List V) (lo hi : Option Int) : (cutV xs lo hi).length ≤ xs.length := by
  unfold cutV
  rw [List.length_take, List.length_drop]
  omega
/-- t + u, t not empty: u empty gives t itself -/
def rCatT (K : PySem.W.Frag) : R2 := fun x y H Q => ∃ a b xs ys, x = .ref a ∧ y = .ref b ∧ SqT K H a xs ∧ SqT K H b ys ∧ xs ≠ [] ∧ xs.length + ys.length ≤ sizeLine ∧
  (ys = [] → Q (.ref a) H) ∧ (ys ≠ [] → ∀ p, H p = none → Q (.ref p) (upd H p (.tup (xs ++ ys))))
theorem Vals.nil_iff {xs : List V} {us : List Value} (r : Vals xs us) : us = [] ↔ xs = [] := by
  cases r with
  | nil => simp
  | cons _ _ => simp
theorem op_catT : OpR X (binaryOp .Add) (rCatT X.K) := by
  intro pins s σ H x y v u Q I rx ry h
  obtain ⟨a, b, xs, ys, rfl, rfl, ha, hb, hx, hz, q1, q2⟩ := h
  cases rx
  cases ry
  obtain ⟨its, r1, p1, _⟩ := I.tuple ha
  obtain ⟨its2, r2, p2, _⟩ := I.tuple hb
  refine HT.cat_tup p1 p2 (fun z => hx (r1.nil_iff.mp z)) (fun z => ⟨.ref a, H, I, rfl, q1 (r2.nil_iff.mp z)⟩) (fun z => ?_) (by rw [← r1.length, ← r2.length]; exact hz)
  refine ⟨.ref s.heap.objs.size, _, I.laid (t' := s.toks) (o := .tup (xs ++ ys)) (fun b ob q => Heap.get?_push_of_some _ q) (Nat.le_refl _) ?_, rfl, q2 (fun w => z (r2.nil_iff.mpr w)) _ (I.hok.fresh (Nat.le_refl _))⟩
  exact ⟨by rw [List.length_append]; exact hz, _, r1.append r2, IsTup.new _ _⟩
end
end L2

namespace L2
open PySem PySem.Spec PyProof.Rows

/-- the place that an index of any sign means -/
def ixN (n : Nat) (i : Int) : Option Nat := if 0 ≤ i then (if i < n then some i.toNat else none) else if -(n : Int) ≤ i then some (i + n).toNat else none
def atI {α : Type} (xs : List α) (i : Int) : Option α := (ixN xs.length i).bind fun j => xs[j]?
theorem ixN_seq {n : Nat} {i : Int} {j : Nat} (h : ixN n i = some j) : seqIndex? i n = some j ∧ j < n ∧ -(n : Int) ≤ i ∧ i < n := by
  unfold ixN at h
  by_cases h0 : 0 ≤ i
  · rw [if_pos h0] at h
    by_cases h1 : i < n
    · rw [if_pos h1] at h
      have e : i.toNat = j := Option.some.inj h
      exact ⟨by rw [seqIndex_of h0 h1, e], by omega, by omega, h1⟩
    · rw [if_neg h1] at h; cases h
  · rw [if_neg h0] at h
    by_cases h1 : -(n : Int) ≤ i
    · rw [if_pos h1] at h
      have e : (i + n).toNat = j := Option.some.inj h
      exact ⟨by rw [seqIndex_neg (by omega) h1, e], by omega, h1, by omega⟩
    · rw [if_neg h1] at h; cases h
theorem atI_get {α : Type} {xs : List α} {i : Int} {v : α} (h : atI xs i = some v) : ∃ j, seqIndex? i xs.length = some j ∧ xs[j]? = some v ∧ j < xs.length ∧ -(xs.length : Int) ≤ i ∧ i < xs.length := by
  unfold atI at h
  cases e : ixN xs.length i with
  | none => rw [e] at h; cases h
  | some j =>
    rw [e] at h
    obtain ⟨h1, h2, h3, h4⟩ := ixN_seq e
    exact ⟨j, h1, h, h2, h3, h4⟩
theorem atI_nat {α : Type} {xs : List α} {j : Nat} {v : α} (h : xs[j]? = some v) : atI xs (j : Int) = some v := by
  have hj : j < xs.length := (List.getElem?_eq_some_iff.mp h).1
  have e : ixN xs.length (j : Int) = some j := by
    unfold ixN
    rw [if_pos (by omega), if_pos (by omega)]; simp
  unfold atI; rw [e]; exact h
/-- what stands as an index of a plain subscript -/
def PlainIx (b : Expr) : Prop := ∀ o i, subscripted b false o i = operate [o, i] (getItem o i)
/-- a subscript by values -/
def IxR (X : Cx) (r : R2) : Prop :=
  ∀ (value slice : Expr) (pins : List (Addr × Obj)) (s : Shared) (σ : St) (H : Hp) (x y : V) (v u : Value) (Q : VK), Inv X pins σ H s → RelV x v → RelV y u → r x y H Q →
    subscripted slice false v u = operate [v, u] (getItem v u) → wpAny (model X.prog X.w) X.A (subscriptTail value slice v u) (EP X pins σ Q) X.xe s
/-- a call of a builtin's method by values: the receiver, the arguments -/
def MtR (X : Cx) (id : String) (r : V → List V → Hp → VK → Prop) : Prop :=
  ∀ (pins : List (Addr × Obj)) (s : Shared) (σ : St) (H : Hp) (x : V) (xs : List V) (v : Value) (us : List Value) (Q : VK), Inv X pins σ H s → RelV x v → Vals xs us → r x xs H Q →
    wpAny (model X.prog X.w) X.A (call (.builtin id) (v :: us)) (EP X pins σ Q) X.xe s
section
variable {X : Cx} {a b : Expr} {ta tb : TE} {pos : Pos}
/-- a[b] -/
theorem pe_ix {r : R2} (hr : IxR X r) (ha : PE X a ta) (hb : PE X b tb) (hs : PlainIx b) : PE X (.Subscript a b pos) (tOp r ta tb) := by
  intro pins s σ H Q I h
  exact Subscript_ (binT ha hb I h fun v u s2 x y H2 I2 rx ry q => hr a b pins s2 σ H2 x y v u Q I2 rx ry q (hs _ _))

def rIxL (K : PySem.W.Frag) : R2 := fun x y H Q => ∃ p xs i v, x = .ref p ∧ y = .int i ∧ SqL K H p xs ∧ atI xs i = some v ∧ Q v H
def rIxT (K : PySem.W.Frag) : R2 := fun x y H Q => ∃ p xs i v, x = .ref p ∧ y = .int i ∧ SqT K H p xs ∧ atI xs i = some v ∧ Q v H
theorem ix_list : IxR X (rIxL X.K) := by
  intro value slice pins s σ H x y v u Q I rx ry h hs
  obtain ⟨p, xs, i, z, rfl, rfl, hq, he, q⟩ := h
  cases rx
  obtain ⟨t, rfl⟩ := ry
  obtain ⟨its, r, pl, hz⟩ := I.list hq
  obtain ⟨j, h1, h2, h3, h4, h5⟩ := atI_get he
  obtain ⟨w, ew, rw'⟩ := r.get h2
  have hl := r.length
  have hn := line63
  have fin : EP X pins σ Q w s := ⟨z, H, I, rw', q⟩
  by_cases h0 : 0 ≤ i
  · have hj : i.toNat = j := by
      rw [seqIndex_of h0 h5] at h1
      exact Option.some.inj h1
    exact item_listR pl.isList h0 (by omega) (by rw [hj]; simpa using ew) fin hs
  · have hj : (i + (its.toArray.size : Int)).toNat = j := by
      rw [seqIndex_neg (by omega) h4] at h1
      rw [List.size_toArray, ← hl]
      exact Option.some.inj h1
    exact subscriptTail_builtinR (x := w) pl.isList.typeIs slot_list_getitem.lookup
      (wpAny_getItem_list_neg (Q := fun r s' => r = w ∧ EP X pins σ Q r s') pl.isList (by omega) (by rw [List.size_toArray] <;> omega) (by omega) (by rw [hj]; simpa using ew) ⟨rfl, fin⟩) hs
theorem ix_tup : IxR X (rIxT X.K) := by
  intro value slice pins s σ H x y v u Q I rx ry h hs
  obtain ⟨p, xs, i, z, rfl, rfl, hq, he, q⟩ := h
  cases rx
  obtain ⟨t, rfl⟩ := ry
  obtain ⟨its, r, pl, hz⟩ := I.tuple hq
  obtain ⟨j, h1, h2, h3, h4, h5⟩ := atI_get he
  obtain ⟨w, ew, rw'⟩ := r.get h2
  have hl := r.length
  have hn := line63
  have fin : EP X pins σ Q w s := ⟨z, H, I, rw', q⟩
  exact subscriptTail_builtinR (x := w) pl.typeIs slot_tuple_getitem.lookup
    (getItem_tuple (j := j) (Q := fun r s' => r = w ∧ EP X pins σ Q r s') pl (by omega) (by omega) (by rw [List.size_toArray, ← hl]; exact h1) (by simpa using ew) ⟨rfl, fin⟩) hs
theorem slice_bounds (lo hi : Option Int) (n : Nat) : (sliceBounds lo hi none n).1 = ((HT.sIx n 0 lo : Nat) : Int) ∧ (sliceBounds lo hi none n).2.1 = ((HT.sIx n n hi : Nat) : Int) ∧ (sliceBounds lo hi none n).2.2 = 1 := by
  refine ⟨?_, ?_, rfl⟩
  · cases lo with
    | none => simp [sliceBounds, HT.sIx]
    | some i =>
      simp only [sliceBounds, HT.sIx, Option.getD_none, show (1 : Int) > 0 by decide, if_true]
      by_cases h : i < 0
      · simp only [h, if_true] <;> omega
      · simp only [h, if_false] <;> omega
  · cases hi with
    | none => simp [sliceBounds, HT.sIx]
    | some i =>
      simp only [sliceBounds, HT.sIx, Option.getD_none, show (1 : Int) > 0 by decide, if_true]
      by_cases h : i < 0
      · simp only [h, if_true] <;> omega
      · simp only [h, if_false] <;> omega
theorem slicePick_cut (its : List Value) (lo hi : Option Int) : slicePick its.toArray lo hi none = ((its.drop (HT.sIx its.length 0 lo)).take (HT.sIx its.length its.length hi - HT.sIx its.length 0 lo)).toArray := by
  obtain ⟨h1, h2, h3⟩ := slice_bounds lo hi its.toArray.size
  unfold slicePick
  rw [h1, h2, h3]
  simp only [sliceRange_one, pick_run, List.size_toArray] <;> rfl
/-- xs[lo:hi] of a list: a new list -/
def rSlL (K : PySem.W.Frag) : V → Option Int → Option Int → Hp → VK → Prop := fun x lo hi H Q => ∃ a xs, x = .ref a ∧ SqL K H a xs ∧ ∀ p, H p = none → Q (.ref p) (upd H p (.lst (cutV xs lo hi)))
theorem sl_list : SlR X (rSlL X.K) := by
  intro pins s σ H x v vl vu lo hi sl Q I rx hs pl pu h
  obtain ⟨a, xs, rfl, hx, q⟩ := h
  cases rx
  obtain ⟨its, r, ht, hz⟩ := I.list hx
  have hlen := r.length
  refine ⟨"list", _, slot_list_getitem.lookup, ht.isList.typeIs, ?_⟩
  refine wpAny_getItem_list_slice ht.isList hs pl pu .none (by simp) ?_ (by rw [List.size_toArray] <;> omega)
  rw [slicePick_cut, ← hlen]
  refine ⟨.ref s.heap.objs.size, _, I.laid (t' := s.toks) (o := .lst (cutV xs lo hi)) (fun b ob q => Heap.get?_push_of_some _ q) (Nat.le_refl _) ?_, rfl, q _ (I.hok.fresh (Nat.le_refl _))⟩
  exact ⟨Nat.le_trans (cutV_length xs lo hi) hz, _, 0, (r.drop (HT.sIx xs.length 0 lo)).take (HT.sIx xs.length xs.length hi - HT.sIx xs.length 0 lo), Heap.get?_push_size _ rfl⟩

def flatV : V → Bool
  | .non => true
  | .bl _ => true
  | .int _ => true
  | .str _ => true
  | _ => false
/-- == of flat values -/
def eqV : V → V → Bool
  | .non, .non => true
  | .bl a, .bl b => a == b
  | .bl a, .int b => (if a then 1 else 0) == b
  | .int a, .bl b => a == (if b then 1 else 0)
  | .int a, .int b => a == b
  | .str a, .str b => a == b
  | _, _ => false
theorem eqAt_V {A : Around} {s : Shared} {y x : V} {u v : Value} (ry : RelV y u) (rx : RelV x v) (fy : flatV y = true) (fx : flatV x = true) : SeqAt.EqAt A s u v (eqV y x) := by
  cases y with
  | non =>
    cases ry
    cases x with
    | non => cases rx; exact SeqAt.EqAt.same _
    | bl b => cases rx; exact SeqAt.EqAt.none_bool b
    | int b => obtain ⟨t, rfl⟩ := rx; exact SeqAt.EqAt.none_int b t
    | str b => obtain ⟨t, rfl⟩ := rx; exact SeqAt.EqAt.none_str b t
    | _ => exact absurd (show false = true from fx) Bool.false_ne_true
  | bl a =>
    cases ry
    cases x with
    | non => cases rx; exact SeqAt.EqAt.bool_none a
    | bl b => cases rx; exact SeqAt.EqAt.bool_bool a b
    | int b => obtain ⟨t, rfl⟩ := rx; exact SeqAt.EqAt.bool_int a b t
    | str b => obtain ⟨t, rfl⟩ := rx; exact SeqAt.EqAt.bool_str a b t
    | _ => exact absurd (show false = true from fx) Bool.false_ne_true
  | int a =>
    obtain ⟨t', rfl⟩ := ry
    cases x with
    | non => cases rx; exact SeqAt.EqAt.int_none a t'
    | bl b => cases rx; exact SeqAt.EqAt.int_bool a t' b
    | int b => obtain ⟨t, rfl⟩ := rx; exact SeqAt.EqAt.int_int a t' b t
    | str b => obtain ⟨t, rfl⟩ := rx; exact SeqAt.EqAt.int_str a t' b t
    | _ => exact absurd (show false = true from fx) Bool.false_ne_true
  | str a =>
    obtain ⟨t', rfl⟩ := ry
    cases x with
    | non => cases rx; exact SeqAt.EqAt.str_none a t'
    | bl b => cases rx; exact SeqAt.EqAt.str_bool a t' b
    | int b => obtain ⟨t, rfl⟩ := rx; exact SeqAt.EqAt.str_int a t' b t
    | str b => obtain ⟨t, rfl⟩ := rx; exact SeqAt.EqAt.str_str a t' b t
    | _ => exact absurd (show false = true from fx) Bool.false_ne_true
  | _ => exact absurd (show false = true from fy) Bool.false_ne_true
theorem call_len_seq : CallR X (.builtin "len") (fun xs H Q => ∃ p ys, xs = [.ref p] ∧ (SqL X.K H p ys ∨ SqT X.K H p ys) ∧ Q (.int ys.length) H) := by
  intro pins s σ H xs us Q I r h
  obtain ⟨p, ys, rfl, hq, q⟩ := h
  obtain ⟨u, rfl, rx⟩ := vals1 r
  cases rx
  have hn := line63
  rcases hq with hq | hq
  · obtain ⟨its, r', pl, hz⟩ := I.list hq
    have hlen := r'.length
    exact Calls.call_len_list pl.isList (by simp only [List.size_toArray] <;> omega) ⟨.int ys.length, H, I.tok _, ⟨s.toks + 1, by rw [List.size_toArray, hlen]⟩, q⟩
  · obtain ⟨its, r', pl, hz⟩ := I.tuple hq
    have hlen := r'.length
    exact len_tuple pl (by simp only [List.size_toArray] <;> omega) ⟨.int ys.length, H, I.tok _, ⟨s.toks + 1, by rw [List.size_toArray, hlen]⟩, q⟩
theorem call_list_of : CallR X (.type "list") (fun xs H Q => ∃ p ys, xs = [.ref p] ∧ (SqL X.K H p ys ∨ SqT X.K H p ys) ∧ ∀ l, H l = none → Q (.ref l) (upd H l (.lst ys))) := by
  intro pins s σ H xs us Q I r h
  obtain ⟨p, ys, rfl, hq, q⟩ := h
  obtain ⟨u, rfl, rx⟩ := vals1 r
  cases rx
  have fin : ∀ (its : List Value), Vals ys its → ys.length ≤ sizeLine → ∀ (h' : Heap) (c' : Nat), (∀ b o', s.heap.get? b = some o' → h'.get? b = some o') →
      h'.get? s.heap.objs.size = some { cls := .type "list", dict := none, data := .seq its.toArray c', slots := #[] } → EP X pins σ Q (.ref s.heap.objs.size) { s with heap := h' } := fun its r' hz h' c' kp e =>
    ⟨.ref s.heap.objs.size, _, I.laid (t' := s.toks) kp (Nat.le_refl _) (show ObjOk X.prog X.w _ h' _ (.lst ys) from ⟨hz, its, c', r', e⟩), rfl, q _ (I.hok.fresh (Nat.le_refl _))⟩
  rcases hq with hq | hq
  · obtain ⟨its, r', pl, hz⟩ := I.list hq
    have hlen := r'.length
    obtain ⟨o, ho, hc, n, hd⟩ := pl.isList
    exact call_list_seq p (.inl rfl) ho hc hd (fun h' c' kp e => fin its r' hz h' c' kp e) (by simp only [List.size_toArray] <;> omega)
  · obtain ⟨its, r', pl, hz⟩ := I.tuple hq
    have hlen := r'.length
    obtain ⟨o, ho, hc, n, hd⟩ := pl
    exact call_list_seq p (.inr rfl) ho hc hd (fun h' c' kp e => fin its r' hz h' c' kp e) (by simp only [List.size_toArray] <;> omega)
/-- the value is of that builtin type -/
def tyV (K : PySem.W.Frag) (T : String) (x : V) (H : Hp) : Prop := match x with
  | .str _ => T = "str"
  | .int _ => T = "int"
  | .ref p => (T = "list" ∧ ∃ xs, SqL K H p xs) ∨ (T = "tuple" ∧ ∃ o, K.lookup p = some o ∧ o.cls = .type "tuple" ∧ o.dict = none) ∨
      (T = "dict" ∧ ((∃ kvs, H p = some (.dK kvs)) ∨ ∃ kvs, H p = some (.dT kvs))) ∨ (T = "set" ∧ ∃ S n, H p = some (.set S n))
  | _ => False
theorem tyV_is {pins : List (Addr × Obj)} {σ : St} {H : Hp} {s : Shared} {T : String} {x : V} {v : Value} (I : Inv X pins σ H s) (r : RelV x v) (ty : tyV X.K T x H) :
    s.TypeIs v T ∧ ∀ a, v = .ref a → ∃ ob, s.heap.get? a = some ob ∧ ob.dict = none := by
  cases x with
  | str z =>
    obtain ⟨t, rfl⟩ := r
    cases (show T = "str" from ty)
    exact ⟨typeIs_str s z t, fun _ e => nomatch e⟩
  | int i =>
    obtain ⟨t, rfl⟩ := r
    cases (show T = "int" from ty)
    exact ⟨typeIs_int s i t, fun _ e => nomatch e⟩
  | ref p =>
    cases r
    rcases ty with ⟨rfl, xs, hq⟩ | ⟨rfl, o, hk, hc, hd⟩ | ⟨rfl, hk⟩ | ⟨rfl, S, n, hk⟩
    · obtain ⟨its, _, pl, _⟩ := I.list hq
      refine ⟨pl.isList.typeIs, fun a e => ?_⟩
      cases e
      obtain ⟨o, n, e, c, hd, _⟩ := pl
      exact ⟨o, e, hd⟩
    · refine ⟨⟨o, I.kIn p o hk, hc⟩, fun a e => ?_⟩
      cases e
      exact ⟨o, I.kIn _ o hk, hd⟩
    · have z : ∃ o, s.heap.get? p = some o ∧ o.ExactDict := by
        rcases hk with ⟨kvs, hk⟩ | ⟨kvs, hk⟩
        · obtain ⟨_, _, _, _, o, _, _, e, ex, _⟩ := I.hok p _ hk
          exact ⟨o, e, ex⟩
        · obtain ⟨_, _, _, _, o, _, _, e, ex, _⟩ := I.hok p _ hk
          exact ⟨o, e, ex⟩
      obtain ⟨o, e, ex⟩ := z
      refine ⟨⟨o, e, ex.1⟩, fun a e2 => ?_⟩
      cases e2
      exact ⟨o, e, ex.2.1⟩
    · obtain ⟨o, _, _, _, e, ex, _⟩ := I.hok p _ hk
      refine ⟨⟨o, e, ex.1⟩, fun a e2 => ?_⟩
      cases e2
      exact ⟨o, e, ex.2.1⟩
  | _ => exact False.elim ty
def tBM0 (K : PySem.W.Frag) (T : String) (r : V → List V → Hp → VK → Prop) (to : TE) : TE := fun σ H Q => to σ H fun x H1 => tyV K T x H1 ∧ r x [] H1 Q
def tBM (K : PySem.W.Frag) (T : String) (r : V → List V → Hp → VK → Prop) (to : TE) (t : TA) : TE := fun σ H Q => to σ H fun x H1 => tyV K T x H1 ∧ t σ H1 fun xs H2 => r x xs H2 Q
variable {o e : Expr} {es : List Expr} {to : TE} {t : TA} {name : Str} {apos cpos : Pos} {T id : String} {r : V → List V → Hp → VK → Prop}
theorem pe_bm0 (pa : PlainAttrs T) (slot : Slot T name id) (hty : typeOf (.builtin id) = pure (.type "method_descriptor")) (hm : MtR X id r) (ho : PE X o to)
    (hbase : attributeBase o name X.env (eval o X.env) = eval o X.env := by rfl) (hline : (apos.endLine == cpos.line) = true := by rfl) : PE X (.Call (.Attribute o name apos) [] [] cpos) (tBM0 X.K T r to) := by
  intro pins s σ H Q I h
  refine wpAny_Call_method0_late hbase hline (thn (ho pins s σ H _ I h) fun v s1 ⟨x, H1, I1, r1, ty, q1⟩ => ?_)
  obtain ⟨h1, h2⟩ := tyV_is I1 r1 ty
  exact ⟨T, id, pa, slot, hty, h1, h2, Calls.callWith_builtin rfl (PySem.evalArgs_none (hm pins s1 σ H1 x [] v [] Q I1 r1 .nil q1))⟩
theorem pe_bm (pa : PlainAttrs T) (slot : Slot T name id) (hty : typeOf (.builtin id) = pure (.type "method_descriptor")) (hm : MtR X id r) (ho : PE X o to) (ha : PA X (e :: es) t)
    (hbase : attributeBase o name X.env (eval o X.env) = eval o X.env := by rfl)
    (hfew : ((backTo cpos (starEach (e :: es) X.env)).all (fun x => !x.1) && (backToKw cpos (keywordEach [] X.env)).all (fun x => x.1.isSome)
      && decide ((e :: es).length + ([] : List Keyword).length + (if ([] : List Keyword).isEmpty then 0 else 1) < 30)) = true := by rfl)
    (hline : (apos.endLine == cpos.line) = true := by rfl) (hs : starEach (e :: es) X.env = (false, eval e X.env) :: starEach es X.env := by rfl) (hplain : (backTo cpos (starEach es X.env)).any (·.1) = false := by rfl) :
    PE X (.Call (.Attribute o name apos) (e :: es) [] cpos) (tBM X.K T r to t) := by
  intro pins s σ H Q I h
  refine wpAny_Call_method_late hbase hfew hline rfl (thn (ho pins s σ H _ I h) fun v s1 ⟨x, H1, I1, r1, ty, q1⟩ => ?_)
  obtain ⟨h1, h2⟩ := tyV_is I1 r1 ty
  refine ⟨T, id, pa, slot, hty, h1, h2, ?_⟩
  have hA := ha cpos pins s1 σ H1 _ I1 q1
  rw [hs] at hA ⊢
  refine Calls.callWith_builtin (by show (false || (backTo cpos (starEach es X.env)).any (·.1)) = false; rw [hplain] <;> rfl) (Calls.evalArgs_plain ?_)
  exact thn hA fun us s2 ⟨vs, H2, I2, r2, q2⟩ => hm pins s2 σ H2 x vs v us Q I2 r1 r2 q2
end
end L2

namespace L2
open PySem PySem.Spec PyProof.Rows

def MtM (X : Cx) (id : String) (r : V → List V → Hp → VK → Prop) : Prop :=
  ∀ (pins : List (Addr × Obj)) (s : Shared) (σ : St) (H : Hp) (x : V) (xs : List V) (v : Value) (us : List Value) (Q : VK), Inv X pins σ H s → RelV x v → Vals xs us → r x xs H Q →
    wpAny (model X.prog X.w) X.A (call (.builtin id) (v :: us)) (EP X pins σ Q) X.xe s

theorem Vals.one : ∀ {x : V} {us : List Value}, Vals [x] us → ∃ u, us = [u] ∧ RelV x u
  | _, _, .cons r .nil => ⟨_, rfl, r⟩
theorem Vals.two : ∀ {x y : V} {us : List Value}, Vals [x, y] us → ∃ u v, us = [u, v] ∧ RelV x u ∧ RelV y v
  | _, _, _, .cons r (.cons q .nil) => ⟨_, _, rfl, r, q⟩
theorem Vals.zero : ∀ {us : List Value}, Vals [] us → us = []
  | _, .nil => rfl
theorem Vals.dropLast {xs : List V} {us : List Value} (h : Vals xs us) : Vals xs.dropLast us.dropLast := by
  induction h with
  | nil => exact .nil
  | cons r t ih =>
    cases t with
    | nil => exact .nil
    | cons q t' => exact .cons r ih
theorem erase_last {α : Type} (l : List α) : l.eraseIdx (l.length - 1) = l.dropLast := by
  induction l with
  | nil => rfl
  | cons a r ih =>
    cases r with
    | nil => rfl
    | cons b r =>
      have e : (a :: b :: r).length - 1 = ((b :: r).length - 1) + 1 := by
        have h1 : (a :: b :: r).length = r.length + 2 := rfl
        have h2 : (b :: r).length = r.length + 1 := rfl
        omega
      rw [e, List.eraseIdx_cons_succ, ih]
      all_goals rfl
section
variable {X : Cx} {pins : List (Addr × Obj)} {σ : St} {H : Hp} {s : Shared} {l b : Addr} {xs ys zs : List V}

theorem Inv.lset {its its' : List Value} {n : Nat} {f : Array Value → Array Value} {t' : Nat} (I : Inv X pins σ H s) (hH : H l = some (.lst xs))
    (e : s.heap.get? l = some { cls := .type "list", data := .seq its.toArray n }) (hf : f its.toArray = its'.toArray) (hv : Vals ys its') (hz : ys.length ≤ sizeLine) :
    Inv X pins σ (upd H l (.lst ys)) { s with heap := s.heap.update l (Obj.mapSeq f), toks := t' } := by
  have q := PySem.IsL.update e f
  rw [hf] at q
  refine I.write (x := l) (e := l) (by rw [hH]; exact trivial) (.inl rfl) (fun b' u hb hu => (Heap.get?_update_other s.heap (Obj.mapSeq f) (Ne.symm hb)).trans hu) ⟨_, q⟩ ?_
  exact ⟨hz, its', _, hv, q⟩
theorem Inv.lnew {its : List Value} {t' : Nat} (I : Inv X pins σ H s) (hv : Vals ys its) (hz : ys.length ≤ sizeLine) :
    Inv X pins σ (upd H s.heap.objs.size (.lst ys)) { s with heap := s.heap.push { cls := .type "list", data := .seq its.toArray }, toks := t' } :=
  I.laid (fun _ _ q => Heap.get?_push_of_some _ q) (Nat.le_refl _) ⟨hz, its, 0, hv, Heap.get?_push_size _ rfl⟩
theorem Inv.fresh (I : Inv X pins σ H s) : H s.heap.objs.size = none := I.hok.fresh (Nat.le_refl _)
theorem Inv.lstM (I : Inv X pins σ H s) (hH : H l = some (.lst xs)) : xs.length ≤ sizeLine ∧ ∃ (its : List Value) (n : Nat), Vals xs its ∧ xs.length = its.length ∧ s.heap.get? l = some { cls := .type "list", data := .seq its.toArray n } := by
  obtain ⟨z, its, n, r, e⟩ := I.hok l _ hH
  exact ⟨z, its, n, r, r.length, e⟩

end

section
variable {X : Cx}

def rAppend : V → List V → Hp → VK → Prop := fun x vs H Q => ∃ l xs y, x = .ref l ∧ vs = [y] ∧ H l = some (.lst xs) ∧ xs.length < sizeLine ∧ Q .non (upd H l (.lst (xs ++ [y])))
theorem mt_append : MtM X "list.append" rAppend := by
  intro pins s σ H x vs v us Q I rx rv h
  obtain ⟨l, xs, y, rfl, rfl, hH, hz, q⟩ := h
  cases rx
  obtain ⟨u, rfl, ru⟩ := rv.one
  obtain ⟨z, its, n, r, hl, e⟩ := I.lstM hH
  refine call_meets F.slot_list_append ⟨_, e, rfl⟩ F.entry_list_append (F.args_list_append_2 _ _) (PySem.list_append l its.toArray n u (by rw [List.size_toArray]; omega)) ⟨e, ?_⟩
  refine ⟨.non, _, I.lset (its' := its ++ [u]) hH e (by simp) (r.append (.cons ru .nil)) ?_, rfl, q⟩
  rw [List.length_append, List.length_singleton]
  omega

def rPop : V → List V → Hp → VK → Prop := fun x vs H Q => ∃ l xs y, x = .ref l ∧ vs = [] ∧ H l = some (.lst xs) ∧ xs[xs.length - 1]? = some y ∧ Q y (upd H l (.lst xs.dropLast))
theorem mt_pop : MtM X "list.pop" rPop := by
  intro pins s σ H x vs v us Q I rx rv h
  obtain ⟨l, xs, y, rfl, rfl, hH, hy, q⟩ := h
  cases rx
  have hus := rv.zero
  subst hus
  obtain ⟨z, its, n, r, hl, e⟩ := I.lstM hH
  obtain ⟨u, hu, ru⟩ := r.get hy
  have hy' : its.toArray[its.toArray.size - 1]? = some u := by
    show its.toArray[its.length - 1]? = some u
    rw [← Array.getElem?_toList, ← hl]
    exact hu
  refine call_meets F.slot_list_pop ⟨_, e, rfl⟩ F.entry_list_pop (F.args_list_pop_1 _) (MeetsSeq.list_pop_last l its.toArray n u hy' (by rw [List.size_toArray]; omega)) ⟨e, ?_⟩
  refine ⟨y, _, I.lset (its' := its.dropLast) hH e ?_ r.dropLast ?_, ru, q⟩
  · show its.toArray.eraseIdxIfInBounds (its.toArray.size - 1) = its.dropLast.toArray
    rw [List.size_toArray, List.eraseIdxIfInBounds_toArray, erase_last]
  · rw [List.length_dropLast]
    omega

def rCat : R2 := fun x y H Q => ∃ l b xs zs, x = .ref l ∧ y = .ref b ∧ H l = some (.lst xs) ∧ H b = some (.lst zs) ∧ xs.length + zs.length ≤ sizeLine ∧ ∀ p, H p = none → Q (.ref p) (upd H p (.lst (xs ++ zs)))
theorem op_cat : OpR X (binaryOp .Add) rCat := by
  intro pins s σ H x y v u Q I rx ry h
  obtain ⟨l, b, xs, zs, rfl, rfl, hH, hB, hz, q⟩ := h
  cases rx
  cases ry
  obtain ⟨z, its, n, r, hl, e⟩ := I.lstM hH
  obtain ⟨z2, its2, n2, r2, hl2, e2⟩ := I.lstM hB
  refine PySem.P.add_list e e2 ?_ (by rw [List.size_toArray, List.size_toArray]; omega)
  have ea : its.toArray ++ its2.toArray = (its ++ its2).toArray := by simp
  rw [ea]
  exact ⟨.ref _, _, I.lnew (t' := s.toks) (r.append r2) (by rw [List.length_append]; omega), rfl, q _ I.fresh⟩
end

section
variable {prog : Program} {w : World} {A : Around} {E : Value → Shared → Prop} {s : Shared}
end

section
variable {X : Cx}
end
end L2

namespace Att
open PySem PySem.W PySem.Calls PyProof.Rows

theorem ints_of_wellAll {P : Params} {h : Heap} : ∀ (ns : List Int) (vs : List Value), WellAll P h vs (ns.map WData.int) → IntsAre vs ns := by
  intro ns
  induction ns with
  | nil =>
    intro vs w
    rw [List.map_nil] at w
    cases w
    exact .nil
  | cons n ns ih =>
    intro vs w
    rw [List.map_cons] at w
    cases w with
    | cons a b =>
      cases a
      exact .cons _ _ (ih _ b)

theorem script_of {l : OpenLaw} {n : Nat} (hn : l.most = some n) {P : Params} {h : Heap} {args : List WData} {vals : List Value}
    (hpre : l.row.toRowW.claim.pre args = true) (hwl : WellAll P h vals args) :
    ∃ a vs ns, vals = [Value.ref a] ∧ args = [WData.list (ns.map WData.int)] ∧ h.get? a = some { cls := .type "list", data := .seq vs.toArray } ∧ IntsAre vs ns ∧ ns.length ≤ n := by
  have hsh : WShape.hasAll [] args [.list .int] = true := (pre_splitW hpre).1
  have hc : l.pre.holds [] { args := args } = true := (pre_splitW hpre).2
  obtain ⟨d, r, rfl, h1, h2⟩ := hasAllW_cons hsh
  obtain rfl := hasAllW_nil h2
  obtain ⟨xs, rfl, h3⟩ := hasW_list h1
  obtain ⟨ns, rfl⟩ := items_int h3
  have hlen : ns.length ≤ n := by
    unfold OpenLaw.pre at hc
    have h4 : (WTm.not (.lt (.lit (.int (n : Int))) (.len (.arg 0)))).holds [] { args := [.list (ns.map .int)] } = true := by
      have h4 := (holds_andW hc).1
      rw [hn] at h4
      exact h4
    have h5 := condW_of h4 (w_not (w_lt w_lit (w_len_list (w_arg rfl))))
    rw [List.length_map] at h5
    refine Nat.le_of_not_lt fun q => ?_
    have q' : (n : Int) < ((ns.length : Nat) : Int) := by omega
    first
      | (rw [decide_eq_true q'] at h5; exact absurd h5 (by decide))
      | (simp at h5; omega)
  cases hwl with
  | cons w1 w2 =>
    cases w2
    cases w1 with
    | list ho hall => exact ⟨_, _, ns, rfl, rfl, ho, ints_of_wellAll ns _ hall, hlen⟩

theorem post_true (l : OpenLaw) (args : List WData) : l.row.toRowW.claim.post args (.bool true) args = true :=
  postW_of (r := l.row.toRowW) (X := (true == true))
    (show WShape.has [] (.bool true) .bool = true by first | rfl | decide | simp [WShape.has, WShape.arms, WShape.armsAll])
    (show (WTm.eq .res (.lit (.bool true))).value [] { args := args, res := some (.bool true), after := args } = some (.bool (true == true)) from w_eq_bool (w_res rfl) w_lit) rfl

/-- the same from a codeAny of the CALL (for a layer whose function contracts speak of calls) -/
theorem attach_call {l : OpenLaw} {n : Nat} {q : Program} {loose : List Str} {XP : (Str → Option Value) → Heap → Prop} {YP : World → Heap → Prop} {d : DefRec}
    (hn : l.most = some n) (hdf : d.params.defaults = [])
    (call : ∀ (w : World) (s₀ s₁ : Shared) (mg mb : Str → Option Value) (fa : Addr) (o : Obj) (pm cd doc : Value) (a : Addr) (vs : List Value) (ns : List Int),
      Ground q loose [] XP w s₀ mg mb s₁.heap → YP w s₁.heap →
      s₁.heap.get? fa = some o → o.data = .func (docDef d.name d.params d.body d.scope pm cd doc) → s₁.heap.CodeRec cd d.name → mg d.name = some (.ref fa) →
      s₁.heap.get? a = some { cls := .type "list", data := .seq vs.toArray } → IntsAre vs ns → ns.length ≤ n → s₁.gens = #[] →
      codeAny (model l.prog w) callerA (.call (.ref fa) ⟨[.ref a], []⟩) (fun r s' => r = .ok (.ret (.bool true)) ∧ OldK s₁.heap s'.heap ∧ s'.os = s₁.os ∧ AllBare s'.gens) s₁) :
    WalkO q loose XP YP l.row.toRowW d [] (fun f vs => PySem.call f vs) := by
  intro w s₀ s₁ mg mb G Y fa o pm cd doc dV kV ho hd hcd hD hmg hg args vals as hpre hlay hrd hwl hlo
  obtain rfl : dV = .none := Dflts.none hD hdf
  obtain rfl : kV = .none := Dflts.noKw hD
  obtain ⟨a, vs, ns, rfl, rfl, hobj, hints, hlen⟩ := script_of hn hpre hwl
  refine enter_call (codeAny_mono (call w s₀ s₁ mg mb fa o pm cd doc a vs ns G Y ho (fd_plain hd) hcd hmg hobj hints hlen hg) fun r s' hq => ?_)
  obtain ⟨rfl, h2, h3, h4⟩ := hq
  exact ⟨.inl ⟨.bool true, .bool true, [], rfl, fun _ => rfl, .bool true, post_true l _, fun _ => ⟨List.Pairwise.nil, fun _ hm => (nomatch hm)⟩⟩, h2, h3, h4⟩

section
variable {prog : Program} {w : World} {A : Around} {E : Value → Shared → Prop} {s : Shared} {K : Frag}

end
end Att

namespace L2
open PySem PySem.Spec PyProof.Rows

theorem vals_ints : ∀ {vs : List Value} {ns : List Int}, IntsAre vs ns → Vals (ns.map V.int) vs
  | _, _, .nil => .nil
  | _, _, .cons n t h => .cons ⟨t, rfl⟩ (vals_ints h)

end L2

namespace L2
open PySem PySem.Spec PyProof.Rows

end L2

namespace L2
open PySem PySem.Spec PyProof.Rows

def defArgs (s : Stmt) : Arguments := match s with
  | .FunctionDef _ a _ _ _ _ _ _ _ _ => a
  | _ => { posonlyargs := [], args := [], vararg := none, kwonlyargs := [], kw_defaults := [], kwarg := none, defaults := [] }
def defBody (s : Stmt) : List Stmt := match s with
  | .FunctionDef _ _ b _ _ _ _ _ _ _ => b
  | _ => []
def defScope (s : Stmt) : Scope := match s with
  | .FunctionDef _ _ _ _ _ _ sc _ _ _ => sc
  | _ => { kind := .function, names := [], isGenerator := false, isCoroutine := false }

abbrev CX0 : CXT := fun _ _ _ _ _ _ => False
abbrev E0 : XK := fun _ _ _ => False
theorem pass0 {X : Cx} : Passes CX0 X E0 := fun _ _ _ _ _ _ _ h => h.elim

structure Fun (K : PySem.W.Frag) (x qual : Str) (st : Stmt) (f : Addr) (fd : FuncData) : Prop where
  ex : ∃ (oc : Value) (od : Option Addr) (kV doc pm : Value) (an : Option Addr) (cdv ct : Value) (osl : Array (Option Value)),
    fd = PySem.W.fnOf x qual (defArgs st) (defBody st) (defScope st) .none kV doc pm an cdv ct ∧ K.lookup f = some ⟨oc, od, .func fd, osl⟩ ∧ PySem.W.codeIn K cdv qual = true
  kp : PySem.W.keepIn K (.ref f) = true
section
variable {P : Program} {w : World} {K : PySem.W.Frag} {mg : Str → Option Value} {base : Heap}
/-- THE RULE for a def: its body as a term of rules, and the reading of that term -/
theorem Fun.ok {x qual : Str} {st : Stmt} {f : Addr} {fd : FuncData} {N ps : List Str} {k : Nat} {sp : Sp} (F : Fun K x qual st f fd) (S : FnScope N ps (defScope st)) (len : ∀ vs H Q E, sp vs H Q E → vs.length = ps.length)
    (hbody : ∀ (cdv : Value) (A : Around) (outer : List Env) (s : Shared) (H : Hp) (vs : List V) (Q : VK) (E : XK), Room k (A.deeper (envOfC qual (defScope st) s.heap.objs.size f cdv)) → sp vs H Q E →
      ∃ t, PSs (cxOf CX0 P w K mg base N qual (defScope st) f cdv A outer s H E).nox (defBody st) t ∧ t { nx := fun _ H' => Q .non H', rt := Q } (start N vs) H) : FnOk P w K mg base CX0 (k + 1) f fd ps sp := by
  obtain ⟨oc, od, kV, doc, pm, an, cdv, ct, osl, rfl, lk, hcd⟩ := F.ex
  refine fn_of lk hcd S len fun A outer s H vs Q E hr hsp => ?_
  obtain ⟨t, h, q⟩ := hbody cdv A outer s H vs Q E hr hsp
  exact ⟨t, h.nox, q⟩
/-- how its arguments bind (no defaults): h is «fun _ _ _ _ _ _ us hl => match us, hl with | [_, _], _ => rfl», one _ a parameter -/
theorem Fun.binds {x qual : Str} {st : Stmt} {f : Addr} {fd : FuncData} {ps : List Str} (F : Fun K x qual st f fd)
    (h : ∀ (kV doc pm : Value) (an : Option Addr) (cdv ct : Value) (us : List Value), us.length = ps.length → bindArgs (PySem.W.fnOf x qual (defArgs st) (defBody st) (defScope st) .none kV doc pm an cdv ct) ⟨us, []⟩ = pure (ps.zip us)) : Binds K fd ps [] := by
  obtain ⟨oc, od, kV, doc, pm, an, cdv, ct, osl, rfl, lk, hcd⟩ := F.ex
  exact .all (h kV doc pm an cdv ct)
theorem fun_mk {x qual : Str} {st : Stmt} {f : Addr} {oc : Value} {od an : Option Addr} {osl : Array (Option Value)} {kV doc pm cdv ct : Value} (l : K.lookup f = some ⟨oc, od, .func (PySem.W.fnOf x qual (defArgs st) (defBody st) (defScope st) .none kV doc pm an cdv ct), osl⟩)
    (c : PySem.W.codeIn K cdv qual = true) (k : PySem.W.keepIn K (.ref f) = true) : Fun K x qual st f (PySem.W.fnOf x qual (defArgs st) (defBody st) (defScope st) .none kV doc pm an cdv ct) := ⟨⟨oc, od, kV, doc, pm, an, cdv, ct, osl, rfl, l, c⟩, k⟩
end
theorem small1000 {n : Nat} (h : n ≤ 1000) : n < sizeLine := Nat.lt_of_le_of_lt h (by decide)

section
variable {X : Cx}
theorem pv (i : Nat) {x : Str} {pos : Pos} (hN : X.N[i]? = some x := by rfl) (hv : Vis X.env.scope x := by first | exact Or.inl rfl | exact Or.inr (Or.inl rfl) | exact Or.inr (Or.inr rfl)) (hd : (x == ("__debug__" : Str)) = false := by decide)
    (hcd : (x == ("__classdict__" : Str)) = false := by decide) : PE X (.Name x pos) (tVar i) := pe_var hN hv hd hcd
end

theorem iteF {A B : Prop} (h : B) : if false = true then A else B := by
  rw [if_neg Bool.false_ne_true]
  exact h
theorem iteT {A B : Prop} (h : A) : if true = true then A else B := by
  rw [if_pos rfl]
  exact h
theorem ite2 {c A B : Prop} [Decidable c] (h1 : c → A) (h2 : ¬ c → B) : if c then A else B := by
  by_cases h : c
  · rw [if_pos h]
    exact h1 h
  · rw [if_neg h]
    exact h2 h
theorem iteNS {c A B : Prop} [Decidable c] (hc : c) (h : B) : if (!decide c) = true then A else B := by
  rw [decide_eq_true hc]
  exact iteF h

/-- all that was tracked is as it was -/
def Same (H H' : Hp) : Prop := ∀ b o, H b = some o → H' b = some o
theorem Same.refl (H : Hp) : Same H H := fun _ _ h => h
theorem Same.trans {H H1 H2 : Hp} (a : Same H H1) (b : Same H1 H2) : Same H H2 := fun c o h => b c o (a c o h)
theorem Same.free {H H' : Hp} (e : Same H H') {l : Addr} (h : H' l = Option.none) : H l = Option.none := by
  cases q : H l with
  | none => rfl
  | some o =>
    rw [e l o q] at h
    cases h
theorem Same.seq {K : PySem.W.Frag} {H H' : Hp} {a : Addr} {xs : List V} (e : Same H H') (h : SqL K H a xs) : SqL K H' a xs := by
  rcases h with (h | ⟨o, h⟩) | h
  · exact .inl (.inl (e _ _ h))
  · exact .inl (.inr ⟨o, e _ _ h⟩)
  · exact .inr h

end L2

namespace L2
open PySem PySem.Spec PyProof.Rows
section
variable {X : Cx}
end
section
variable {κ : Type} [DecidableEq κ]
end
end L2

namespace L2
open PySem PySem.Spec PyProof.Rows
section
variable {prog : Program} {w : World} {A : Around} {E : Value → Shared → Prop} {s : Shared}
end
section
variable {prog : Program} {w : World} {A : Around} {E : Value → Shared → Prop} {s : Shared}
end
end L2

namespace L2
open PySem PySem.Spec PyProof.Rows
def cloGo (env : Env) : List (Str × NameKind) → List (Str × Addr) → List (Str × Addr)
  | [], acc => acc
  | (n, k) :: r, acc => if k == .free then (match env.cells.lookup n with | some a => cloGo env r ((n, a) :: acc) | none => cloGo env r acc) else cloGo env r acc
theorem closure_ok {scope : Scope} {env : Env} (h : ∀ y ∈ scope.names, y.2 = .free → ∃ c, env.cells.lookup y.1 = some c) : closureFor scope env = pure (cloGo env scope.names []) := by
  unfold closureFor
  have key : ∀ (l : List (Str × NameKind)) (acc : List (Str × Addr)), (∀ y ∈ l, y.2 = .free → ∃ c, env.cells.lookup y.1 = some c) →
      (forIn l acc fun (x : Str × NameKind) (cs : List (Str × Addr)) => (match x with | (name, kind) => if (kind == NameKind.free) = true then (do let a ← cellOf env name; pure (ForInStep.yield ((name, a) :: cs))) else pure (ForInStep.yield cs) : Sem (ForInStep (List (Str × Addr))))) = (pure (cloGo env l acc) : Sem _) := by
    intro l
    induction l with
    | nil => intro acc _; rfl
    | cons x r ih =>
      intro acc hl
      obtain ⟨n, k⟩ := x
      rw [List.forIn_cons]
      unfold cloGo
      by_cases hk : (k == NameKind.free) = true
      · obtain ⟨c, hc⟩ := hl (n, k) List.mem_cons_self (by simpa using hk)
        have hc' : env.cells.lookup n = some c := hc
        have e : cellOf env n = pure c := by unfold cellOf; rw [hc']
        simp only [hk, if_true, e, hc']
        exact ih _ fun y hy => hl y (List.mem_cons_of_mem _ hy)
      · simp only [hk]
        exact ih _ fun y hy => hl y (List.mem_cons_of_mem _ hy)
  have := key scope.names [] h
  exact (congrArg (fun (m : Sem (List (Str × Addr))) => m >>= fun z => pure z) this).trans rfl
theorem cloGo_sub (env : Env) : ∀ (l : List (Str × NameKind)) (acc : List (Str × Addr)) (y : Str) (c : Addr), (cloGo env l acc).lookup y = some c → acc.lookup y = some c ∨ env.cells.lookup y = some c
  | [], _, _, _, h => .inl h
  | (n, k) :: r, acc, y, c, h => by
    unfold cloGo at h
    split at h
    · split at h
      · rename_i a ha
        rcases cloGo_sub env r _ y c h with z | z
        · rw [List.lookup_cons] at z
          split at z
          · rename_i e
            cases z
            have e' : y = n := by simpa using e
            subst e'
            exact .inr ha
          · exact .inl z
        · exact .inr z
      · exact cloGo_sub env r _ y c h
    · exact cloGo_sub env r _ y c h
theorem cloGo_acc (env : Env) : ∀ (l : List (Str × NameKind)) (acc : List (Str × Addr)) (y : Str), (acc.lookup y).isSome = true → ((cloGo env l acc).lookup y).isSome = true
  | [], _, _, h => h
  | (n, k) :: r, acc, y, h => by
    unfold cloGo
    split
    · split
      · refine cloGo_acc env r _ y ?_
        rw [List.lookup_cons]
        split
        · rfl
        · exact h
      · exact cloGo_acc env r _ y h
    · exact cloGo_acc env r _ y h
theorem cloGo_has (env : Env) : ∀ (l : List (Str × NameKind)) (acc : List (Str × Addr)) (y : Str), (y, NameKind.free) ∈ l → (env.cells.lookup y).isSome = true → ((cloGo env l acc).lookup y).isSome = true
  | [], _, _, h, _ => nomatch h
  | (n, k) :: r, acc, y, h, hc => by
    unfold cloGo
    rcases List.mem_cons.mp h with e | h
    · obtain ⟨e1, e2⟩ := Prod.mk.inj e
      subst e1
      subst e2
      rw [if_pos (by decide)]
      split
      · refine cloGo_acc env r _ y ?_
        rw [List.lookup_cons]
        simp
      · rename_i e
        rw [e] at hc
        cases hc
    · split
      · split
        · exact cloGo_has env r _ y h hc
        · exact cloGo_has env r _ y h hc
      · exact cloGo_has env r _ y h hc
end L2

namespace L2
open PySem PySem.Spec PyProof.Rows
def hideN (x : Str) (N : List Str) : List Str := N.map fun y => if y = x then "" else y
/-- the context of a comprehension's block; its names: the clause's own, then the names of the text around it -/
def cxComp (X : Cx) (x : Str) (scope : Scope) (C : Addr) (s₀ : Shared) (H₀ : Hp) (fp : List Addr) : Cx where
  prog := X.prog
  w := X.w
  K := X.K
  mg := X.mg
  base := X.base
  A := X.A
  N := x :: hideN x X.N
  s₀ := s₀
  H₀ := H₀
  env := compEnvC scope (cloGo X.env scope.names []) C X.env
  outer := X.stack
  stack := X.stack
  ex := fp
  fn := fun _ => false
  calm := X.calm
  pn := []
  xe := fun _ _ => False
theorem relabel_lookup (env : Env) (y : Str) : ∀ names : List (Str × NameKind),
    (names.map fun (n, k) => if (k == NameKind.free && env.scope.kind == .function && env.kindOf n == some .cell) then (n, NameKind.cell) else (n, k)).lookup y =
      (names.lookup y).map fun k => if (k == NameKind.free && env.scope.kind == .function && env.kindOf y == some .cell) then NameKind.cell else k
  | [] => rfl
  | (n, k) :: r => by
    have ih := relabel_lookup env y r
    rw [List.map_cons]
    show List.lookup y ((if (k == NameKind.free && env.scope.kind == .function && env.kindOf n == some .cell) = true then (n, NameKind.cell) else (n, k)) :: _) = _
    have e0 : (if (k == NameKind.free && env.scope.kind == .function && env.kindOf n == some .cell) = true then (n, NameKind.cell) else (n, k)) = (n, if (k == NameKind.free && env.scope.kind == .function && env.kindOf n == some .cell) = true then NameKind.cell else k) := by split <;> rfl
    rw [e0, List.lookup_cons, List.lookup_cons]
    cases hx : y == n with
    | true =>
      have e : y = n := by simpa using hx
      subst e
      rfl
    | false => exact ih
/-- what is asked of the block's scope: all of it is read off the text -/
structure CompScope (X : Cx) (x : Str) (scope : Scope) : Prop where
  kind : scope.kind = .function
  nocell : ∀ y ∈ scope.names, y.2 ≠ .cell
  names : ∀ y ∈ scope.names, y.2 = .local → scope.names.lookup y.1 = some .local
  loc : scope.names.lookup x = some .local
  free : ∀ y ∈ scope.names, y.2 = .free → X.env.kindOf y.1 = some .cell ∨ X.env.kindOf y.1 = some .free
  nd : (x :: hideN x X.N).Nodup
  only : ∀ y ∈ hideN x X.N, scope.names.lookup y ≠ some .local
  noE : scope.names.lookup ("" : Str) = none

section
variable {X : Cx} {pins : List (Addr × Obj)} {σ : St} {H : Hp} {s : Shared} {x : Str} {scope : Scope} {fp : List Addr} {C : Addr}
theorem comp_start {h' : Heap} {tk : Nat} {m : Str → Option Value} (I : Inv X pins σ H s) (S : CompScope X x scope) (hf : ∀ b ∈ fp, FpOk X pins H b) (hlt : ∀ b ∈ fp, b < s.heap.objs.size) (hC : s.heap.objs.size ≤ C) (hn : h'.Ns C m)
    (hk : ∀ b o, s.heap.get? b = some o → h'.get? b = some o) : Inv (cxComp X x scope C s H fp) [] (none :: σ) H { s with heap := h', toks := tk } := by
  have cl : ∀ y c, (cloGo X.env scope.names []).lookup y = some c → X.env.cells.lookup y = some c := fun y c e => by
    rcases cloGo_sub X.env scope.names [] y c e with z | z
    · cases z
    · exact z
  have cellK : ∀ c v, s.heap.IsCell c v → h'.IsCell c v := fun c v ⟨o, ho, hd⟩ => ⟨o, hk c o ho, hd⟩
  have look : ∀ y, (cxComp X x scope C s H fp).env.scope.names.lookup y = (scope.names.lookup y).map fun k => if (k == NameKind.free && X.env.scope.kind == .function && X.env.kindOf y == some .cell) then NameKind.cell else k := fun y => relabel_lookup X.env y scope.names
  refine ⟨⟨I.ok.mod, S.kind, I.ok.glob, I.ok.blt, hC, fun y z c e1 e2 => I.ok.inj y z c (cl y c e1) (cl z c e2), fun y hy => ?_, fun y c e _ => (by cases e), fun h => I.ok.hd h, I.ok.frames, .inl rfl, fun b hb => ?_, I.bs, Nat.le_trans I.ok.bsz I.sz, fun b o e hb => ?_, fun b hb hb' => ?_, I.stack, I.stkFree⟩,
    rfl, I.bare, Un.kept hk, ⟨m, hn, fun i y v h1 h2 h3 => ?_⟩, fun y c e => ?_, I.hok.fresh hC, fun y c e => I.freeC y c (cl y c e), fun p hp => absurd (show p ∈ ([] : List (Addr × Obj)) from hp) (by simp), I.hok.kept hk, ?_⟩
  · -- every cell of the block is there
    have hy' : (cxComp X x scope C s H fp).env.scope.names.lookup y = some .cell ∨ (cxComp X x scope C s H fp).env.scope.names.lookup y = some .free := hy
    rw [look y] at hy'
    cases e : scope.names.lookup y with
    | none => rw [e] at hy'; rcases hy' with z | z <;> cases z
    | some k =>
      have hm := PySem.mem_of_lookup e
      have hfree : k = .free := by
        rw [e] at hy'
        cases k with
        | free => rfl
        | cell => exact absurd rfl (S.nocell _ hm)
        | _ => rcases hy' with z | z <;> simp at z
      subst hfree
      obtain ⟨c, hc⟩ := I.ok.has y (S.free _ hm rfl)
      exact Option.isSome_iff_exists.mp (cloGo_has X.env scope.names [] y hm (by rw [hc]; rfl))
  · obtain ⟨f0, f1, f2, f3, f4, f5⟩ := hf b hb
    exact ⟨Nat.ne_of_lt (Nat.lt_of_lt_of_le (hlt b hb) hC), fun y c e => f4 y c (cl y c e)⟩
  · obtain ⟨f0, f1, f2, f3, f4, f5⟩ := hf b hb
    rcases f3 with z | z
    · exact I.ok.noex b o e z
    · exact absurd (Nat.lt_of_lt_of_le (Heap.lt_size e) (Nat.le_trans I.ok.bsz z)) (Nat.lt_irrefl _)
  · obtain ⟨f0, f1, f2, f3, f4, f5⟩ := hf b hb
    rcases List.mem_cons.mp (I.stkSub b hb') with e | e
    · exact f1 e
    · exact f2 e
  · cases i with
    | zero =>
      have h2' : (some none : Option (Option V)) = some (some v) := h2
      cases h2'
    | succ i =>
      have h1' : (hideN x X.N)[i]? = some y := h1
      have h2' : σ[i]? = some (some v) := h2
      have hmem : y ∈ hideN x X.N := List.mem_of_getElem? h1'
      unfold hideN at h1'
      rw [List.getElem?_map] at h1'
      cases e0 : X.N[i]? with
      | none => rw [e0] at h1'; cases h1'
      | some y0 =>
        rw [e0] at h1'
        have h1'' : (if y0 = x then ("" : Str) else y0) = y := Option.some.inj h1'
        have h3' : (cxComp X x scope C s H fp).env.scope.names.lookup y = some .local ∨ (cxComp X x scope C s H fp).env.scope.names.lookup y = some .cell ∨ (cxComp X x scope C s H fp).env.scope.names.lookup y = some .free := h3
        rw [look y] at h3'
        have hy0 : y0 = y := by
          by_cases q : y0 = x
          · rw [if_pos q] at h1''
            rw [← h1'', S.noE] at h3'
            rcases h3' with z | z | z <;> cases z
          · rw [if_neg q] at h1''
            exact h1''
        subst hy0
        cases e : scope.names.lookup y0 with
        | none => rw [e] at h3'; rcases h3' with z | z | z <;> cases z
        | some k =>
          have hm := PySem.mem_of_lookup e
          have hfree : k = .free := by
            rw [e] at h3'
            cases k with
            | free => rfl
            | cell => exact absurd rfl (S.nocell _ hm)
            | «local» => exact absurd e (S.only y0 hmem)
            | _ => rcases h3' with z | z | z <;> simp at z
          subst hfree
          have kd := S.free _ hm rfl
          obtain ⟨m0, hn0, hl0⟩ := I.loc
          obtain ⟨u, r, l⟩ := hl0 i y0 v e0 h2' (by rcases kd with z | z; exact .inr (.inl z); exact .inr (.inr z))
          refine ⟨u, r, .inr ⟨?_, ?_⟩⟩
          · have hk' : (cxComp X x scope C s H fp).env.scope.names.lookup y0 = some (if (NameKind.free == NameKind.free && X.env.scope.kind == .function && X.env.kindOf y0 == some .cell) then NameKind.cell else NameKind.free) := by
              rw [look y0, e]; rfl
            by_cases c : (NameKind.free == NameKind.free && X.env.scope.kind == .function && X.env.kindOf y0 == some .cell) = true
            · rw [if_pos c] at hk'; exact .inl hk'
            · rw [if_neg c] at hk'; exact .inr hk'
          · rcases l with ⟨lk, _⟩ | ⟨_, c, hc, hcell⟩
            · exfalso
              rcases kd with z | z <;> (rw [show X.env.kindOf y0 = some NameKind.local from lk] at z; cases z)
            · obtain ⟨c', hc'⟩ := Option.isSome_iff_exists.mp (cloGo_has X.env scope.names [] y0 hm (by rw [hc]; rfl))
              have := cl y0 c' hc'
              rw [hc] at this
              cases this
              exact ⟨c, hc', cellK c _ hcell⟩
  · obtain ⟨v, z⟩ := I.cell y c (cl y c e)
    exact ⟨v, cellK c v z⟩
  · show (none :: σ).length = (x :: hideN x X.N).length
    simp [hideN, I.len]
end

/-- the tests of a clause -/
def PIfs (X : Cx) (ifs : List Expr) (t : TT) : Prop :=
  ∀ (pins : List (Addr × Obj)) (s : Shared) (σ : St) (H : Hp) (Q : Bool → Hp → Prop), Inv X pins σ H s → t σ H Q →
    wpAny (model X.prog X.w) X.A (forIn ifs true fun c r => if r = true then do let ok ← isTrue c X.env (eval c X.env); pure (ForInStep.yield ok) else pure (ForInStep.yield r)) (TP X pins σ Q) X.xe s
def tYes : TT := fun _ H Q => Q true H
theorem pf_nil {X : Cx} : PIfs X [] tYes := fun _ _ _ H _ I h => wpAny_tests_nil ⟨H, I, h⟩
theorem pf_one {X : Cx} {c : Expr} {t : TT} (h : PT X c t) : PIfs X [c] t := fun pins s σ H Q I q => wpAny_tests_one (h pins s σ H Q I q)

/-- what a comprehension asks of an iterator. W: the invariant by the turn, a measure, the items so far and the heap -/
def CompOk (J : It) (σ : St) (H1 : Hp) (Q : VK) (tt : TT) (te : TE) : Prop := ∀ D, H1 D = none → ∃ W : Nat → Nat → List V → Hp → Prop, (∃ m, W 0 m [] (upd H1 D (.lst []))) ∧ ∀ i m ys H2, W i m ys H2 →
  (J.stop i H2 ∧ Q (.ref D) H2) ∨ (J.go i H2 ∧ ∀ x H3, J.yld i H2 x H3 → tt (some x :: σ) H3 fun b H4 =>
    if b = true then te (some x :: σ) H4 fun y H5 => H5 D = some (.lst ys) ∧ ys.length < sizeLine ∧ ∃ m', m' < m ∧ W (i + 1) m' (ys ++ [y]) (upd H5 D (.lst (ys ++ [y])))
    else ∃ m', m' < m ∧ W (i + 1) m' ys H4)
def tComp (wi : TI) (tt : TT) (te : TE) : TE := fun σ H Q => wi σ H fun J H1 => CompOk J σ H1 Q tt te
theorem thnF {α : Type} {t : Sem α} {Q Q' : α → Shared → Prop} {M : Model} {A : Around} {E : Value → Shared → Prop} {s : Shared} (h : wpAny M A t Q (fun _ _ => False) s) (hQ : ∀ a s, Q a s → Q' a s) : wpAny M A t Q' E s := wpAny_mono h hQ fun _ _ x => x.elim
theorem Inv.sameBut {X : Cx} {pins : List (Addr × Obj)} {σ : St} {H : Hp} {s : Shared} {h' : Heap} {C : Addr} (I : Inv X pins σ H s) (f : FpOk X pins H C) (sb : Heap.SameBut C s.heap h') : Inv X pins σ H { s with heap := h' } :=
  I.turned (t' := s.toks) (fun b o hb e => (sb.2 b hb).trans e) f.1 f.2.1 f.2.2.2.1 f.2.2.2.2.1 f.2.2.2.2.2
section
variable {X : Cx} {x : Str} {scope : Scope}
/-- the block, from the iterator on; RR: what is wanted of the list's address and the block's frame behind it -/
theorem comp_block {px pos : Pos} {iter elt : Expr} {ifs : List Expr} {tt : TT} {te : TE} {pins : List (Addr × Obj)} {σ : St} {s2 : Shared} {H2 : Hp} {it : Addr} {fp : List Addr} {tn : Nat → Heap → Prop} {J : It} {E : Value → Shared → Prop}
    {RR : Value → Addr → Result → Shared → Prop} {Q : VK}
    (hc : X.calm = true) (S : CompScope X x scope) (ht : ∀ C s₀ H₀ fp, PIfs (cxComp X x scope C s₀ H₀ fp) ifs tt) (he : ∀ C s₀ H₀ fp, PE (cxComp X x scope C s₀ H₀ fp) elt te)
    (I2 : Inv X pins σ H2 s2) (T : Turn X.prog X.w X.K (.Name x px) J fp it tn) (st2 : tn 0 s2.heap) (f2 : ∀ b ∈ fp, FpOk X pins H2 b)
    (q : ∀ D, H2 D = none → ∃ W : Nat → Nat → List V → Hp → Prop, (∃ m, W 0 m [] (upd H2 D (.lst []))) ∧ ∀ i m ys H2, W i m ys H2 →
      (J.stop i H2 ∧ Q (.ref D) H2) ∨ (J.go i H2 ∧ ∀ x H3, J.yld i H2 x H3 → tt (some x :: σ) H3 fun b H4 =>
        if b = true then te (some x :: σ) H4 fun y H5 => H5 D = some (.lst ys) ∧ ys.length < sizeLine ∧ ∃ m', m' < m ∧ W (i + 1) m' (ys ++ [y]) (upd H5 D (.lst (ys ++ [y])))
        else ∃ m', m' < m ∧ W (i + 1) m' ys H4))
    (hRR : ∀ D C s' H' m, s'.heap.Ns C m → FpOk X pins H' C → Inv X pins σ H' s' → Q (.ref D) H' → RR (.ref D) C (.ok .next) s') :
    wpAny (model X.prog X.w) X.A (newList []) (fun acc s₃ => wpAny (model X.prog X.w) X.A (newFunctionEnv scope X.env.globals (cloGo X.env scope.names []) [] X.env.qual none .none (some X.env)) (fun cenv s₄ =>
      codeAny (model X.prog X.w) X.A (.compStart (.ListComp elt [⟨.Name x px, iter, ifs, 0⟩] scope pos) 0 (.ref it) acc { cenv with scope := relabel scope X.env }) (RR acc cenv.locals) s₄) E s₃) E s2 := by
  refine wpAny_newObj_type (wpAny_newFunctionEnv S.nocell (by intro y hy; simp at hy) (fun h₁ hns₁ hsb₁ => ?_) S.kind)
  have I3 := I2.lnew (its := []) (ys := []) (t' := s2.toks) .nil (Nat.zero_le _)
  have hD0 : H2 s2.heap.objs.size = none := I2.fresh
  obtain ⟨W, ⟨m0, w0⟩, turn⟩ := q _ hD0
  generalize hs3 : ({ s2 with heap := s2.heap.push { cls := .type "list", data := .seq ([] : List Value).toArray }, toks := s2.toks } : Shared) = s3 at I3
  have e3 : s3.heap = s2.heap.push { cls := .type "list", data := .seq ([] : List Value).toArray } := by rw [← hs3]
  have hlt : ∀ b ∈ fp, b < s2.heap.objs.size := fun b hb => let ⟨_, e, _⟩ := T.obj _ _ st2 b hb; Heap.lt_size e
  have hlt3 : ∀ b ∈ fp, b < s3.heap.objs.size := fun b hb => by rw [e3, Heap.size_push]; exact Nat.lt_succ_of_lt (hlt b hb)
  have f3 : ∀ b ∈ fp, FpOk X pins (upd H2 s2.heap.objs.size (.lst [])) b := fun b hb => ⟨by rw [upd_ne (Nat.ne_of_lt (hlt b hb))]; exact (f2 b hb).1, (f2 b hb).2⟩
  have hk1 : ∀ b o, s3.heap.get? b = some o → h₁.get? b = some o := fun b o e => by
    have hne : b ≠ s3.heap.objs.size := Nat.ne_of_lt (Heap.lt_size e)
    rw [e3] at e hne
    exact hsb₁.extBut b o hne (Heap.get?_push_of_some _ e)
  have hC : s3.heap.objs.size = (s2.heap.push { cls := .type "list", data := .seq ([] : List Value).toArray }).objs.size := by rw [e3]
  have hns : h₁.Ns s3.heap.objs.size (fun x => ([] : List (Str × Value)).reverse.lookup x) := by rw [hC]; exact hns₁
  have st3 : tn 0 h₁ := T.keep _ _ _ st2 fun b hb o e => hk1 b o (by rw [e3]; exact Heap.get?_push_of_some _ e)
  have hDC : s2.heap.objs.size ≠ s3.heap.objs.size := by rw [e3, Heap.size_push]; exact Nat.ne_of_lt (Nat.lt_succ_self _)
  have start : ∀ tk, Inv (cxComp X x scope s3.heap.objs.size s3 (upd H2 s2.heap.objs.size (.lst [])) fp) [] (none :: σ) (upd H2 s2.heap.objs.size (.lst [])) { s3 with heap := h₁, toks := tk } := fun tk =>
    comp_start I3 S f3 hlt3 (Nat.le_refl _) hns hk1
  generalize hX : cxComp X x scope s3.heap.objs.size s3 (upd H2 s2.heap.objs.size (.lst [])) fp = X' at start
  have eA : X'.A = X.A := by rw [← hX]; rfl
  have eP : X'.prog = X.prog := by rw [← hX]; rfl
  have eW : X'.w = X.w := by rw [← hX]; rfl
  have eK : X'.K = X.K := by rw [← hX]; rfl
  have eC : X'.env.locals = s3.heap.objs.size := by rw [← hX]; rfl
  have loop : ∀ tk, codeAny (model X.prog X.w) X.A (.compLoop (.ListComp elt [⟨.Name x px, iter, ifs, 0⟩] scope pos) 0 (.ref it) (.ref s2.heap.objs.size) (compEnvC scope (cloGo X.env scope.names []) s3.heap.objs.size X.env))
      (RR (.ref s2.heap.objs.size) s3.heap.objs.size) { s3 with heap := h₁, toks := tk } := by
    intro tk
    subst hX
    refine codeAny_compLoop_tests (fun n s' => ∃ i ys v0 H', Inv (cxComp X x scope s3.heap.objs.size s3 (upd H2 s2.heap.objs.size (.lst [])) fp) [] (v0 :: σ) H' s' ∧ tn i s'.heap ∧ (∀ b ∈ fp, H' b = none) ∧ W i n ys H') ?_ m0
      ⟨0, [], none, _, start tk, st3, fun b hb => (f3 b hb).1, w0⟩
    rintro n s4 ⟨i, ys, v0, H4, I4, st4, fr4, w4⟩
    have stat : ∀ {H' : Hp}, (∀ b ∈ fp, H' b = none) → ∀ b ∈ fp, FpOk (cxComp X x scope s3.heap.objs.size s3 (upd H2 s2.heap.objs.size (.lst [])) fp) [] H' b := fun hn b hb => by
      refine ⟨hn b hb, (I4.ok.exf b hb).1, I4.ok.exfs b hb, .inl hb, (I4.ok.exf b hb).2, fun p hp => absurd (show p ∈ ([] : List (Addr × Obj)) from hp) (by simp)⟩
    rcases turn i n ys H4 w4 with ⟨stop, qn⟩ | ⟨go, step⟩
    · refine thn (T.done (cxComp X x scope s3.heap.objs.size s3 (upd H2 s2.heap.objs.size (.lst [])) fp) rfl rfl rfl hc i [] s4 (v0 :: σ) H4 _ I4 (stat fr4) st4 stop) fun r s5 ⟨hr, I5⟩ => ?_
      subst hr
      obtain ⟨m, hn, _⟩ := I5.loc
      refine hRR _ _ s5 H4 m hn (I3.fpOk (Nat.le_refl _) I5.free) (I3.call' (s' := s5) (ch := fp) I5.os I5.base I5.hok I5.bare (fun b hb => ?_)) qn
      obtain ⟨_, g1, _, g3, g4, g5⟩ := f3 b hb
      exact ⟨g3, g1, g4, g5⟩
    · refine thn (T.item (cxComp X x scope s3.heap.objs.size s3 (upd H2 s2.heap.objs.size (.lst [])) fp) rfl rfl rfl hc i [] s4 (v0 :: σ) H4 _ I4 (stat fr4) st4 go) fun r s5 ⟨u, hr, h5⟩ => ?_
      subst hr
      intro Γ p hΓ
      obtain ⟨xv, H6, I6, r6, y6, st6, fr6⟩ := h5 Γ p hΓ
      refine (?_ : wpAny _ _ _ _ _ _) Γ p hΓ
      have I6' := I6.pinned (stat fr6) (T.obj _ _ st6)
      have hloc : (cxComp X x scope s3.heap.objs.size s3 (upd H2 s2.heap.objs.size (.lst [])) fp).env.scope.names.lookup x = some .local := lookup_relabel_local S.loc
      have again : ∀ {s7 : Shared} {H7 : Hp} {ys' : List V}, Inv (cxComp X x scope s3.heap.objs.size s3 (upd H2 s2.heap.objs.size (.lst [])) fp) ([] ++ pinsAt fp s5.heap) (some xv :: σ) H7 s7 → (∃ m', m' < n ∧ W (i + 1) m' ys' H7) →
          ∃ m, m < n ∧ ∃ i ys v0 H', Inv (cxComp X x scope s3.heap.objs.size s3 (upd H2 s2.heap.objs.size (.lst [])) fp) [] (v0 :: σ) H' s7 ∧ tn i s7.heap ∧ (∀ b ∈ fp, H' b = none) ∧ W i m ys H' := fun {s7 H7 ys'} I7 hw => by
        obtain ⟨m', hm, w7⟩ := hw
        refine ⟨m', hm, i + 1, ys', some xv, H7, I7.unpinned, T.keep _ _ _ st6 fun b hb o e => (I7.pin (b, o) (List.mem_append_right _ (List.mem_append_right _ (mem_pinsAt hb e)))).1, fun b hb => ?_, w7⟩
        obtain ⟨o, e, d⟩ := T.obj _ _ st6 b hb
        exact (I7.pin (b, o) (List.mem_append_right _ (List.mem_append_right _ (mem_pinsAt hb e)))).2.1
      refine wpAny_assign_Name (store_ok (X := cxComp X x scope s3.heap.objs.size s3 (upd H2 s2.heap.objs.size (.lst [])) fp) (i := 0) I6' S.nd rfl (.inl hloc) r6 (fun s7 I7 => ?_) (.inr hloc))
      refine thnF (ht _ _ _ _ _ s7 (some xv :: σ) H6 _ I7 (step xv H6 y6)) fun b s8 ⟨H8, I8, q8⟩ => ?_
      cases b with
      | false =>
        rw [if_neg Bool.false_ne_true] at q8 ⊢
        exact again I8 q8
      | true =>
        rw [if_pos rfl] at q8 ⊢
        refine thnF (he _ _ _ _ _ s8 (some xv :: σ) H8 _ I8 q8) fun y s9 ⟨yv, H9, I9, r9, hD9, hz9, q9⟩ => ?_
        refine thnF (mt_append (X := cxComp X x scope s3.heap.objs.size s3 (upd H2 s2.heap.objs.size (.lst [])) fp) _ s9 (some xv :: σ) H9 (.ref s2.heap.objs.size) [yv] (.ref s2.heap.objs.size) [y] (fun _ H' => H' = upd H9 s2.heap.objs.size (.lst (ys ++ [yv]))) I9 rfl (.cons r9 .nil)
          ⟨_, ys, yv, rfl, rfl, hD9, hz9, rfl⟩) fun _ s10 ⟨_, H10, I10, _, e10⟩ => ?_
        subst e10
        exact again I10 q9
  have key := fun tk => codeAny_compStart_list (R := RR (.ref s2.heap.objs.size) s3.heap.objs.size) (loop tk) (T.self X.A 0 { s3 with heap := h₁, toks := tk } (fun it' s' => codeAny (model X.prog X.w) X.A (.compLoop (.ListComp elt [⟨.Name x px, iter, ifs, 0⟩] scope pos) 0 it' (.ref s2.heap.objs.size) (compEnvC scope (cloGo X.env scope.names []) s3.heap.objs.size X.env)) (RR (.ref s2.heap.objs.size) s3.heap.objs.size) s') _ st3 (loop tk))
  subst hs3
  exact key _
/-- [elt for x in iter if ..] as a value -/
theorem pe_comp {px pos : Pos} {iter elt : Expr} {ifs : List Expr} {wi : TI} {tt : TT} {te : TE} (hc : X.calm = true) (S : CompScope X x scope) (hi : PI X (.Name x px) iter wi)
    (ht : ∀ C s₀ H₀ fp, PIfs (cxComp X x scope C s₀ H₀ fp) ifs tt) (he : ∀ C s₀ H₀ fp, PE (cxComp X x scope C s₀ H₀ fp) elt te) (hs : ∀ x, foldedSetIterable iter X.env x = pure x := by intro _; rfl) :
    PE X (.ListComp elt [⟨.Name x px, iter, ifs, 0⟩] scope pos) (tComp wi tt te) := by
  intro pins s σ H Q I h
  rw [eval_ListComp]
  refine wpAny_comprehension_free (use := none) (cl := cloGo X.env scope.names []) rfl hs (closure_ok fun y hy hk => I.ok.has y.1 (S.free y hy hk)) S.kind S.names (thn (hi pins s σ H _ I h) fun v s1 h1 => thn h1 fun itv s2 h2 => ?_)
  obtain ⟨it, fp, tn, J, H2, e, I2, T, st2, f2, q⟩ := h2
  subst e
  refine comp_block (RR := fun acc C => compPost (model X.prog X.w) X.A X.xe none (EP X pins σ Q) acc C) (Q := Q) hc S ht he I2 T st2 f2 q ?_
  intro D C s' H' m hn hf hI hq
  exact ⟨m, hn, fun h' sb => ⟨.ref D, H', hI.sameBut hf sb, rfl, hq⟩⟩
/-- y = [elt for x in iter if ..] -/
theorem ps_comp {i : Nat} {y : Str} {px py pos spos : Pos} {iter elt : Expr} {ifs : List Expr} {wi : TI} {tt : TT} {te : TE} (hN : X.N.Nodup) (hi' : X.N[i]? = some y) (hy : X.env.scope.names.lookup y = some .local) (hc : X.calm = true) (S : CompScope X x scope) (hi : PI X (.Name x px) iter wi)
    (ht : ∀ C s₀ H₀ fp, PIfs (cxComp X x scope C s₀ H₀ fp) ifs tt) (he : ∀ C s₀ H₀ fp, PE (cxComp X x scope C s₀ H₀ fp) elt te) (hsw : swapsWith (.ListComp elt [⟨.Name x px, iter, ifs, 0⟩] scope pos) (some (.Name y py)) spos.line X.env = pure true := by rfl) (hs : ∀ x, foldedSetIterable iter X.env x = pure x := by intro _; rfl) :
    PS X (.Assign [.Name y py] (.ListComp elt [⟨.Name x px, iter, ifs, 0⟩] scope pos) spos) (tAsg (tComp wi tt te) (gName i)) := by
  intro pins s σ H D' I h
  rw [exec_Assign_Name_used _ _ _ _ hsw]
  refine wpAny_bind (wpAny_standAt (wpAny_bind ?_))
  show wpAny _ X.A (do let _ ← comprehension (.ListComp elt [⟨.Name x px, iter, ifs, 0⟩] scope pos) scope X.env _ (newList []) false (eval iter X.env) (some (assign (.Name y py) X.env))) _ _ s
  refine wpAny_bind (wpAny_mono (wpAny_comprehension_free (use := some (assign (.Name y py) X.env)) (cl := cloGo X.env scope.names []) (Q := fun _ s' => SP X pins D' .next s') rfl hs (closure_ok fun y hy hk => I.ok.has y.1 (S.free y hy hk)) S.kind S.names
    (thn (hi pins s σ H _ I h) fun v s1 h1 => thn h1 fun itv s2 h2 => ?_)) (fun _ s' hq => wpAny_pure (wpAny_pure hq)) fun _ _ e => e)
  obtain ⟨it, fp, tn, J, H2, e, I2, T, st2, f2, q⟩ := h2
  subst e
  refine comp_block (RR := fun acc C => compPost (model X.prog X.w) X.A X.xe (some (assign (.Name y py) X.env)) (fun _ s' => SP X pins D' .next s') acc C) (Q := fun x H1 => gName i x σ H1 D'.nx) hc S ht he I2 T st2 f2 q ?_
  intro D C s' H' m hn hf hI hq
  show wpAny _ X.A (assign (.Name y py) X.env (.ref D)) _ _ _
  refine wpAny_assign_Name (store_ok2 hI hN hi' (.inl hy) (v := .ref D) rfl (fun s6 I6 hch => ?_) (.inr hy))
  obtain ⟨a, sb, ha⟩ := hch
  have hCa : C ≠ a := by
    rcases ha with z | z
    · rw [z]; exact hf.2.1
    · exact Ne.symm (hf.2.2.2.2.1 y a z)
  exact ⟨m, hn.sameBut sb hCa, fun h' sb' => ⟨_, H', I6.sameBut hf sb', hq⟩⟩
end
end L2

namespace L2
open PySem PySem.Spec PyProof.Rows
section
variable {σ : St} {H1 : Hp} {Q : VK} {tt : TT} {te : TE}
/-- n turns, the i-th yields xs[i]; test p, element f; nothing that stands is changed -/
theorem comp_any {J : It} {xs : List V} (p : V → Bool) (f : V → V) (hz : xs.length < sizeLine)
    (hgo : ∀ i H x, Same H1 H → xs[i]? = some x → J.go i H) (hy : ∀ i H y H', Same H1 H → i < xs.length → J.yld i H y H' → H' = H ∧ xs[i]? = some y) (hstop : ∀ H, Same H1 H → J.stop xs.length H)
    (ht : ∀ x ∈ xs, ∀ H, Same H1 H → ∀ R : Bool → Hp → Prop, (∀ H', Same H H' → R (p x) H') → tt (some x :: σ) H R)
    (he : ∀ x ∈ xs, p x = true → ∀ H, Same H1 H → ∀ R : VK, (∀ H', Same H H' → R (f x) H') → te (some x :: σ) H R)
    (hq : ∀ D H, H1 D = none → Same H1 H → H D = some (.lst ((xs.filter p).map f)) → Q (.ref D) H) : CompOk J σ H1 Q tt te := by
  intro D hD
  have s0 : Same H1 (upd H1 D (.lst [])) := fun b o e => by rw [upd_ne (ne_of_none e hD)]; exact e
  refine ⟨fun i m ys H => m = xs.length - i ∧ i ≤ xs.length ∧ ys = ((xs.take i).filter p).map f ∧ H D = some (.lst ys) ∧ Same H1 H, ⟨xs.length, by simp, Nat.zero_le _, by simp, upd_same, s0⟩, ?_⟩
  rintro i m ys H ⟨rfl, hi, rfl, hd, hs⟩
  by_cases hlt : i < xs.length
  · obtain ⟨x, hx⟩ : ∃ x, xs[i]? = some x := ⟨xs[i], by simp [hlt]⟩
    refine .inr ⟨hgo i H x hs hx, fun y H3 hyl => ?_⟩
    obtain ⟨rfl, hy'⟩ := hy i H y H3 hs hlt hyl
    rw [hx] at hy'
    cases hy'
    have hm : x ∈ xs := List.mem_of_getElem? hx
    have hlen : (((xs.take i).filter p).map f).length < sizeLine := by
      rw [List.length_map]
      refine Nat.lt_of_le_of_lt (List.length_filter_le _ _) (Nat.lt_of_le_of_lt ?_ hz)
      rw [List.length_take]; omega
    refine ht x hm _ hs _ fun H4 s4 => ?_
    by_cases hp : p x = true
    · rw [if_pos hp]
      refine he x hm hp H4 (hs.trans s4) _ fun H5 s5 => ?_
      refine ⟨s5 _ _ (s4 _ _ hd), hlen, xs.length - (i + 1), by omega, rfl, hlt, ?_, upd_same, fun b o e => ?_⟩
      · rw [take_succ_filter p xs i x hx, if_pos hp, List.map_append]; rfl
      · rw [upd_ne (ne_of_none e hD)]; exact s5 _ _ (s4 _ _ (hs _ _ e))
    · rw [if_neg hp]
      refine ⟨xs.length - (i + 1), by omega, rfl, hlt, ?_, s4 _ _ hd, hs.trans s4⟩
      rw [take_succ_filter p xs i x hx, if_neg hp, List.append_nil]
  · have e : i = xs.length := by omega
    subst e
    rw [List.take_length] at hd
    exact .inl ⟨hstop H hs, hq D H hD hs hd⟩
end
section
variable {X : Cx} {tg : Expr}
end
section
variable {σ : St} {H1 : Hp} {Q : VK} {tt : TT} {te : TE}
end

section
variable {X : Cx}
theorem range_all (bs : List Bool) : ((List.range bs.length).all fun i => (bs[i]?).getD true) = bs.all id := by
  rw [Bool.eq_iff_iff, List.all_eq_true, List.all_eq_true]
  constructor
  · intro h b hb
    obtain ⟨i, hi, e⟩ := List.mem_iff_getElem.mp hb
    have := h i (List.mem_range.mpr hi)
    rw [List.getElem?_eq_getElem hi, e] at this
    exact this
  · intro h i hi
    have hi' := List.mem_range.mp hi
    rw [List.getElem?_eq_getElem hi']
    exact h _ (List.getElem_mem hi')
/-- all of a list of bools -/
theorem call_all (hc : X.calm = true) : CallR X (.builtin "all") (fun xs H Q => ∃ (p : Addr) (bs : List Bool), xs = [V.ref p] ∧ SqL X.K H p (bs.map V.bl) ∧ Q (.bl (bs.all id)) H) := by
  intro pins s σ H xs us Q I r h
  obtain ⟨p, bs, rfl, hp, q⟩ := h
  obtain ⟨u, rfl, ru⟩ := vals1 r
  cases ru
  obtain ⟨its, rv, pl, hz⟩ := I.list hp
  have hlen : bs.length = its.length := by have := rv.length; rw [List.length_map] at this; exact this
  have hlt : p < s.heap.objs.size := by obtain ⟨_, e, _⟩ := pl.isList; exact Heap.lt_size e
  refine call_all_walk (wpAny_pyIter_list pl.isList ?_)
  refine ⟨s.heap.objs.size, [s.heap.objs.size, p], [s.heap.objs.size], its.toArray.size, _, _, fun i => (bs[i]?).getD true, rfl, Walks.list (A := X.A.in1) (I.ok.hd hc) _ p (Nat.ne_of_lt hlt) its.toArray,
    ⟨⟨_, Heap.get?_push_size _ rfl, rfl, rfl⟩, pl.isList.push _⟩, fun i v s' Q' E' hP hQ => ?_, fun h' tk hk => ?_⟩
  · have hP' : its[i]? = some v := by simpa using hP
    have hi : i < its.length := (List.getElem?_eq_some_iff.mp hP').1
    have hb : bs[i]? = some bs[i] := by simp [hlen, hi]
    obtain ⟨u, hu, ru⟩ := rv.get (i := i) (x := .bl bs[i]) (by rw [List.getElem?_map, hb]; rfl)
    rw [hP'] at hu
    cases hu
    cases ru
    dsimp only at hQ
    rw [hb] at hQ
    exact wpAny_truthy_bool hQ
  · have e : ((List.range its.toArray.size).all fun i => (bs[i]?).getD true) = bs.all id := by rw [List.size_toArray, ← hlen]; exact range_all bs
    rw [e]
    refine ⟨.bl (bs.all id), H, I.kept (t' := tk) fun b o eb => hk b o (fun hm => ?_) (Heap.get?_push_of_some _ eb), rfl, q⟩
    rw [List.mem_singleton.mp hm] at eb
    exact Nat.lt_irrefl _ (Heap.lt_size eb)
/-- isinstance(x, T) of a built-in type -/
theorem call_isin : CallR X (.builtin "isinstance") (fun xs H Q => ∃ x T t b, xs = [x, V.ty T] ∧ TyOf X.K H x t ∧ PySem.W.kitOne X.K t (.type T) = some b ∧ Q (.bl b) H) := by
  intro pins s σ H xs us Q I r h
  obtain ⟨x, T, t, b, rfl, ty, e, q⟩ := h
  obtain ⟨u, v, rfl, ru, rv⟩ := Vals.two r
  cases rv
  exact isinst_ok I ru ty e fun tk => ⟨.bl b, H, I.tok _, rfl, q⟩
end

def compChk (x : Str) (scope osc : Scope) (N : List Str) : Bool :=
  (scope.kind == .function) && scope.names.all (fun y => y.2 != .cell) && scope.names.all (fun y => y.2 != .local || scope.names.lookup y.1 == some .local) && (scope.names.lookup x == some .local) &&
  scope.names.all (fun y => y.2 != .free || osc.names.lookup y.1 == some .cell || osc.names.lookup y.1 == some .free) && decide ((x :: hideN x N).Nodup) && (hideN x N).all (fun y => scope.names.lookup y != some .local) && (scope.names.lookup ("" : Str) == none)
theorem compScope {X : Cx} {x : Str} {scope osc : Scope} {N : List Str} (hsc : X.env.scope = osc) (hN : X.N = N) (h : compChk x scope osc N = true) : CompScope X x scope := by
  unfold compChk at h
  simp only [Bool.and_eq_true] at h
  obtain ⟨⟨⟨⟨⟨⟨⟨h1, h2⟩, h3⟩, h4⟩, h5⟩, h6⟩, h7⟩, h8⟩ := h
  rw [List.all_eq_true] at h2 h3 h5 h7
  have kd : ∀ y, X.env.kindOf y = osc.names.lookup y := fun y => by rw [← hsc]; rfl
  refine ⟨by simpa using h1, fun y hy => by simpa using h2 y hy, fun y hy e => ?_, by simpa using h4, fun y hy e => ?_, by rw [hN]; exact of_decide_eq_true h6, fun y hy => ?_, by simpa using h8⟩
  · have := h3 y hy
    rw [e] at this
    simpa using this
  · have := h5 y hy
    rw [e] at this
    rw [kd]
    simpa using this
  · rw [hN] at hy
    simpa using h7 y hy
end L2

namespace L2
open PySem PySem.Spec PyProof.Rows
section
variable {X : Cx} {pins : List (Addr × Obj)} {σ : St} {H : Hp} {s : Shared} {h' : Heap}
end
section
variable {X : Cx} {es : List Expr} {k1 : Nat} {tpos : Pos}
end
end L2

namespace L2
open PySem PySem.Spec PyProof.Rows
theorem loop_go {prog : Program} {w : World} {A : Around} {R : Result → Shared → Prop} {s : Shared} {elt tg iter : Expr} {ifs : List Expr} {scope : Scope} {pos : Pos} {it acc : Value} {env : Env} (J : Nat → Shared → Prop) {E : Value → Shared → Prop} (hE : E = notedBy (model prog w) A env fun e s' => R (.error e) s')
    (turn : ∀ n s, J n s → wpAny (model prog w) A (pyNext it) (fun r s1 => match r with
      | none => R (.ok .next) s1
      | some v => wpAny (model prog w) A (letOwnedTupleGo tg it v) (fun _ s2 => wpAny (model prog w) A (assign tg env v) (fun _ s3 =>
          wpAny (model prog w) A (forIn ifs true fun c r => if r = true then do let ok ← isTrue c env (eval c env); pure (ForInStep.yield ok) else pure (ForInStep.yield r)) (fun ok s4 =>
            if ok = true then wpAny (model prog w) A (eval elt env) (fun x s5 => wpAny (model prog w) A (call (.builtin "list.append") [acc, x]) (fun _ s6 => ∃ m, m < n ∧ J m s6) E s5) E s4
            else ∃ m, m < n ∧ J m s4) E s3) E s2) E s1) E s) (n : Nat) (h : J n s) :
    codeAny (model prog w) A (.compLoop (.ListComp elt [⟨tg, iter, ifs, 0⟩] scope pos) 0 it acc env) R s := by
  subst hE
  refine codeAny_loop rfl J (fun n s hJ => (show wpAny _ A ((compTurn (.ListComp elt [⟨tg, iter, ifs, 0⟩] scope pos) 0 it acc env).onRaise (fun x => do noteFrame x env; theTreesLotGoes x)) _ _ s from wpAny_noted ?_)) n h
  rw [compTurn_list]
  refine wpAny_bind (wpAny_standAt (wpAny_bind (wpAny_mono (turn n s hJ) (fun r s1 h1 => ?_) fun _ _ q => q)))
  cases r with
  | none => exact wpAny_pure h1
  | some v =>
    refine wpAny_bind (wpAny_mono h1 (fun _ s2 h2 => wpAny_bind (wpAny_mono h2 (fun _ s3 h3 => wpAny_bind (wpAny_mono h3 (fun ok s4 h4 => ?_) fun _ _ q => q)) fun _ _ q => q)) fun _ _ q => q)
    cases ok with
    | false => exact wpAny_pure ⟨rfl, h4⟩
    | true => exact wpAny_bind (wpAny_bind (wpAny_mono h4 (fun x s5 h5 => wpAny_bind (wpAny_mono h5 (fun _ s6 h6 => wpAny_pure (wpAny_pure ⟨rfl, h6⟩)) fun _ _ q => q)) fun _ _ q => q))
section
variable {X : Cx} {pins : List (Addr × Obj)} {σ : St} {H : Hp} {s : Shared} {x z : Str} {scope : Scope} {fp : List Addr} {C : Addr}
end
section
variable {X : Cx} {x z : Str} {scope : Scope}
end
end L2

namespace L2
open PySem PySem.Spec PySem.Calls PyProof.Rows
theorem Same.tup {K : PySem.W.Frag} {H H' : Hp} {a : Addr} {xs : List V} (e : Same H H') (h : SqT K H a xs) : SqT K H' a xs := by
  rcases h with (h | ⟨o, h⟩) | h
  · exact .inl (.inl (e _ _ h))
  · exact .inl (.inr ⟨o, e _ _ h⟩)
  · exact .inr h
/-- y is a tuple of zs -/
def TupAt (H : Hp) (zs : List V) (y : V) : Prop := ∃ T, y = .ref T ∧ H T = some (.tup zs)
theorem TupAt.mono {H H' : Hp} {zs : List V} {y : V} (s : Same H H') (h : TupAt H zs y) : TupAt H' zs y := let ⟨T, e, q⟩ := h; ⟨T, e, s _ _ q⟩
theorem TupAt.upd {H : Hp} {zs ys ws : List V} {y : V} {D : Addr} (h : TupAt H zs y) (hD : H D = some (.lst ys)) : TupAt (upd H D (.lst ws)) zs y := by
  obtain ⟨T, e, q⟩ := h
  refine ⟨T, e, ?_⟩
  rw [upd_ne fun z => by rw [z, hD] at q; cases q]
  exact q
theorem paired_upd {α : Type} {H : Hp} {f : α → List V} {l : List α} {vs ys ws : List V} {D : Addr} (h : Paired (fun a y => TupAt H (f a) y) l vs) (hD : H D = some (.lst ys)) : Paired (fun a y => TupAt (upd H D (.lst ws)) (f a) y) l vs := Paired.mapP h fun _ _ q => q.upd hD
theorem paired_mono {α : Type} {H H' : Hp} {f : α → List V} {l : List α} {vs : List V} (s : Same H H') (h : Paired (fun a y => TupAt H (f a) y) l vs) : Paired (fun a y => TupAt H' (f a) y) l vs := Paired.mapP h fun _ _ q => q.mono s
section
variable {X : Cx} {x z : Str} {scope : Scope}
end
section
variable {σ : St} {H1 : Hp} {Q : VK} {tt : TT} {te : TE}
theorem comp_sq {K : PySem.W.Frag} {a : Addr} {xs : List V} (p : V → Bool) (f : V → V) (hl : SqL K H1 a xs) (hz : xs.length < sizeLine)
    (ht : ∀ x ∈ xs, ∀ H, Same H1 H → ∀ R : Bool → Hp → Prop, (∀ H', Same H H' → R (p x) H') → tt (some x :: σ) H R)
    (he : ∀ x ∈ xs, p x = true → ∀ H, Same H1 H → ∀ R : VK, (∀ H', Same H H' → R (f x) H') → te (some x :: σ) H R)
    (hq : ∀ D H, H1 D = none → Same H1 H → H D = some (.lst ((xs.filter p).map f)) → Q (.ref D) H) : CompOk (Itl K a) σ H1 Q tt te :=
  comp_any p f hz (fun i H x hs hx => ⟨xs, x, hs.seq hl, hx⟩) (fun i H y H' hs _ hy => ⟨hy.1, hy.2 xs (hs.seq hl)⟩) (fun H hs => ⟨xs, hs.seq hl, Nat.le_refl _⟩) ht he hq
end
end L2

namespace L2
open PySem PySem.Spec PySem.Calls PyProof.Rows
section
variable {prog : Program} {w : World} {A : Around} {E : Value → Shared → Prop} {s : Shared} {K : PySem.W.Frag} {x C : Addr} {ox : Obj} {od : Option Obj} {name : Str} {tk : Tok} {R : Result → Shared → Prop}
end
end L2

namespace L2
open PySem PySem.Spec PySem.Calls PyProof.Rows
abbrev bmV : List Value := [.type "ValueError", .type "Exception", .type "BaseException", .type "object"]
section
variable {prog : Program} {w : World} {A : Around} {E : Value → Shared → Prop} {K : PySem.W.Frag} {C : Addr} {h : Heap} {g : Array GenState} {d : Drawn} {t : Nat} {os : OsState}
end
end L2

namespace L2
open PySem PySem.Spec PySem.Calls PyProof.Rows
/-- an exception at x of the own class C, its dict at od where it has one; the dict of an exception -/
def ExcO (x C : Addr) (od : Option Addr) : HO := .ext fun h => ∃ (d : Data) (sl : Array (Option Value)), h.get? x = some ⟨.ref C, od, d, sl⟩ ∧ PySem.W.notCls ⟨.ref C, od, d, sl⟩ = true
def XdO (dx : Addr) (fs : List (Str × V)) : HO := .ext fun h => ∃ mA, h.Ns1 dx mA ∧ ∀ f, RelO (fs.lookup f) (mA f)
section
variable {P : Program} {w : World} {H H' : Hp} {h : Heap} {x C dx : Addr} {od : Option Addr} {fs : List (Str × V)}
/-- x is an exception of the class C with the attributes fs -/
inductive IsExc (H : Hp) (x C : Addr) : List (Str × V) → Prop where
  | bare (e : H x = some (ExcO x C none)) : IsExc H x C []
  | full {dx : Addr} {fs : List (Str × V)} (e : H x = some (ExcO x C (some dx))) (d : H dx = some (XdO dx fs)) : IsExc H x C fs
end
section
variable {P : Program} {w : World} {X : Cx} {pins : List (Addr × Obj)} {σ : St} {H : Hp} {s : Shared} {h' : Heap} {a : Addr} {o : HO}
theorem HOk.none_of {h : Heap} (x : HOk P w H h) (e : h.get? a = none) : H a = none := by
  cases q : H a with
  | none => rfl
  | some u =>
    exfalso
    obtain ⟨o, ho⟩ : ∃ o, h.get? a = some o := by
      have z := x a u q
      cases u with
      | lst xs => obtain ⟨_, _, _, _, e⟩ := z; exact ⟨_, e⟩
      | tup xs => obtain ⟨_, _, _, o, e, _⟩ := z; exact ⟨_, e⟩
      | dK kvs => obtain ⟨_, _, _, _, o, _, _, e, _⟩ := z; exact ⟨_, e⟩
      | dT kvs => obtain ⟨_, _, _, _, o, _, _, e, _⟩ := z; exact ⟨_, e⟩
      | set S n => obtain ⟨o, _, _, _, e, _⟩ := z; exact ⟨_, e⟩
      | ins C dx fs => obtain ⟨_, _, _, e, _⟩ := z; exact ⟨_, e⟩
      | own y => obtain ⟨_, e⟩ := z; exact ⟨_, e⟩
      | xd fs => obtain ⟨_, ⟨_, _, _, e, _⟩, _⟩ := z; exact ⟨_, e⟩
      | rng lo hi => obtain ⟨_, _, _, e⟩ := z; exact ⟨_, e⟩
      | frz ob u => obtain ⟨e, _⟩ := z; exact ⟨_, e⟩
      | tbl ps => exact ⟨_, (show h.get? a = some _ from z)⟩
      | met f y => exact ⟨_, (show h.get? a = some _ from z)⟩
      | ext φ => obtain ⟨_, ⟨_, e⟩, _⟩ := z; exact ⟨_, e⟩
    rw [e] at ho; cases ho
end
theorem exc_own {K : PySem.W.Frag} {h : Heap} {C : Addr} (X : K.In h) (q : PySem.W.excIn K C bmV "ValueError.__new__" = true) :
    ∃ bm N nm qn bs hdct sn sub ab col dd k0 k1 k2 k3 k5 mN, h.get? C = some (excClassObj nm qn C N bs bm hdct sn sub ab col dd k0 k1 k2 k3 k5 "ValueError.__new__") ∧ h.Ns N mN ∧ mN "__init__" = none ∧ OwnTail h bmV bm := by
  unfold PySem.W.excIn at q
  split at q
  · rename_i dd cd sl ho
    split at q
    · rename_i C' bm k0 k1 k2 k3 n k5 hm hs
      simp only [Bool.and_eq_true, beq_iff_eq, Bool.not_eq_true'] at q
      obtain ⟨⟨⟨⟨⟨rfl, rfl⟩, hdel⟩, ht⟩, hok⟩, hni⟩ := q
      obtain ⟨nm, bs, mro, ns, qn, hd, sn, sub, ab, col, del⟩ := cd
      dsimp only at hm hdel hok hni
      subst hm hdel
      have hsl : sl = #[k0, k1, k2, k3, some (.builtin "ValueError.__new__"), k5] := by
        obtain ⟨l⟩ := sl
        simp only at hs
        rw [hs]
      subst hsl
      exact ⟨bm, ns, nm, qn, bs, hd, sn, sub, ab, col, dd, k0, k1, k2, k3, k5, _, X _ _ ho, .of_isNs (PySem.W.isNs_of_in X hok), PySem.W.nsMap_none_of_in X hok hni, PySem.W.tail_of_in X ht⟩
    · cases q
  · cases q
section
variable {X : Cx} {C : Addr} {x : Str} {e : Expr} {es : List Expr} {t : TA} {p pos : Pos}
end
section
variable {X : Cx} {e : Expr} {f : Str} {pos : Pos} {ta : TE}
end
section
variable {prog : Program} {w : World} {A : Around} {E : Value → Shared → Prop} {s : Shared} {K : PySem.W.Frag} {x C : Addr} {name : Str} {v : Value} {R : Result → Shared → Prop} {d : Data} {sl : Array (Option Value)}
end
section
variable {X : Cx} {pins : List (Addr × Obj)} {σ : St} {H : Hp} {s : Shared} {h' : Heap} {x C dx : Addr} {f : Str} {y : V} {u : Value}
end
section
variable {X : Cx} {o value : Expr} {f : Str} {pos pos' : Pos} {ta tv : TE}
end
section
variable {X : Cx} {C f : Addr} {fd : FuncData} {ps : List Str} {sp : Sp} {k : Nat} {x : Str} {e : Expr} {es : List Expr} {t : TA} {p pos : Pos}
end
def eqL : List V → List V → Bool
  | [], [] => true
  | x :: xs, y :: ys => eqV x y && eqL xs ys
  | _, _ => false
theorem range_eqL : ∀ (xs ys : List V), xs.length = ys.length → ((List.range xs.length).all fun j => eqV (xs.getD j .non) (ys.getD j .non)) = eqL xs ys
  | [], [], _ => rfl
  | x :: xs, y :: ys, h => by
    have ih := range_eqL xs ys (by simpa using h)
    rw [List.length_cons, List.range_succ_eq_map, List.all_cons, List.all_map]
    show (eqV x y && _) = (eqV x y && eqL xs ys)
    rw [← ih]
    rfl
  | [], _ :: _, h => by simp at h
  | _ :: _, [], h => by simp at h
theorem eqL_len : ∀ (xs ys : List V), xs.length ≠ ys.length → eqL xs ys = false
  | [], [], h => absurd rfl h
  | x :: xs, y :: ys, h => by
    show (eqV x y && eqL xs ys) = false
    rw [eqL_len xs ys (fun e => h (by simp [e])), Bool.and_false]
  | [], _ :: _, _ => rfl
  | _ :: _, [], _ => rfl
theorem eqV_self {x : V} (h : flatV x = true) : eqV x x = true := by
  cases x with
  | non => rfl
  | bl b => simp [eqV]
  | int i => simp [eqV]
  | str z => simp [eqV]
  | _ => exact absurd (show false = true from h) Bool.false_ne_true
theorem eqL_self : ∀ {xs : List V}, xs.all flatV = true → eqL xs xs = true
  | [], _ => rfl
  | x :: xs, h => by
    rw [List.all_cons, Bool.and_eq_true] at h
    show (eqV x x && eqL xs xs) = true
    rw [eqV_self h.1, eqL_self h.2]
    rfl
theorem eqL_ints : ∀ (xs ys : List Int), eqL (xs.map V.int) (ys.map V.int) = decide (xs = ys)
  | [], [] => rfl
  | x :: xs, y :: ys => by
    show (x == y && eqL (xs.map V.int) (ys.map V.int)) = _
    rw [eqL_ints xs ys, Bool.eq_iff_iff]
    simp
  | [], _ :: _ => rfl
  | _ :: _, [] => rfl
section
variable {X : Cx}
theorem flat_at {xs : List V} {j : Nat} (h : xs.all flatV = true) (hj : j < xs.length) : flatV (xs.getD j .non) = true := by
  have e : xs.getD j .non = xs[j] := by simp [hj]
  rw [e]
  exact List.all_eq_true.mp h _ (List.getElem_mem hj)
theorem rel_at {xs : List V} {us : List Value} {j : Nat} (r : Vals xs us) (hj : j < us.length) : RelV (xs.getD j .non) us[j] := by
  have hl := r.length
  have hx : xs[j]? = some xs[j] := by simp [hl, hj]
  obtain ⟨u, hu, ru⟩ := r.get hx
  rw [List.getElem?_eq_getElem hj] at hu
  cases hu
  have e : xs.getD j .non = xs[j] := by simp [hl, hj]
  rw [e]
  exact ru
def rEqL (K : PySem.W.Frag) (neg : Bool) : R2 := fun x y H Q => ∃ p q xs ys, x = .ref p ∧ y = .ref q ∧ SqL K H p xs ∧ SqL K H q ys ∧ xs.all flatV = true ∧ ys.all flatV = true ∧ Q (.bl (if neg then !eqL xs ys else eqL xs ys)) H
theorem op_ne_list (hu : X.A.units < cLine) : OpR X (compareOp .NotEq) (rEqL X.K true) := by
  intro pins s σ H x y v u Q I rx ry h
  obtain ⟨p, q, xs, ys, rfl, rfl, hp, hq, fx, fy, k⟩ := h
  cases rx
  cases ry
  obtain ⟨its, r, pl, hz⟩ := I.list hp
  obtain ⟨its2, r2, pl2, hz2⟩ := I.list hq
  have l1 := r.length
  have l2 := r2.length
  by_cases hl : xs.length = ys.length
  · refine SeqAt.RcNeAt.lists (e := fun j => eqV (xs.getD j .non) (ys.getD j .non)) pl.isList pl2.isList (by simp; omega) hu (fun j h1 h2 => ?_) _ _ _ _ ⟨.bl (!eqL xs ys), H, I, ?_, k⟩
    · have h1' : j < its.length := by simpa using h1
      have h2' : j < its2.length := by simpa using h2
      simp only [List.getElem_toArray]
      exact eqAt_V (rel_at r h1') (rel_at r2 h2') (flat_at fx (by omega)) (flat_at fy (by omega))
    · rw [List.size_toArray, ← l1, range_eqL xs ys hl]
      exact rfl
  · refine SeqAt.RcNeAt.lists_lengths pl.isList pl2.isList (by simp; omega) hu _ _ _ _ ⟨.bl (!eqL xs ys), H, I, ?_, k⟩
    rw [eqL_len xs ys hl]
    exact rfl
end
end L2

namespace L2
open PySem PySem.Spec PySem.Calls PyProof.Rows
section
variable {X : Cx}
variable {o i : Expr} {pos : Pos} {td ty : TE}
end
def stepV (xs : List V) (lo hi : Option Int) (k : Int) : List V := (sliceRange (sliceBounds lo hi (some k) xs.length).1 (sliceBounds lo hi (some k) xs.length).2.1 (sliceBounds lo hi (some k) xs.length).2.2).filterMap (xs[·]?)
theorem stepV_mem {xs : List V} {lo hi : Option Int} {k : Int} {y : V} (h : y ∈ stepV xs lo hi k) : y ∈ xs := by
  obtain ⟨j, _, e⟩ := List.mem_filterMap.mp h
  exact List.mem_of_getElem? e
theorem vals_pick : ∀ {xs : List V} {us : List Value}, Vals xs us → ∀ js : List Nat, Vals (js.filterMap (xs[·]?)) (js.filterMap (us[·]?)) := by
  intro xs us h js
  induction js with
  | nil => exact .nil
  | cons j js ih =>
    rw [List.filterMap_cons, List.filterMap_cons]
    by_cases hj : j < xs.length
    · have ex : xs[j]? = some xs[j] := List.getElem?_eq_getElem hj
      obtain ⟨u, hu, ru⟩ := h.get ex
      rw [ex, hu]
      exact .cons ru ih
    · have hl := h.length
      rw [List.getElem?_eq_none (by omega), List.getElem?_eq_none (by omega)]
      exact ih
def tStep (K : PySem.W.Frag) (te : TE) (tl th : TO) (ts : TE) : TE := fun σ H Q => te σ H fun x H1 => tl σ H1 fun lo H2 => th σ H2 fun hi H3 => ts σ H3 fun k H4 => ∃ j, k = .int j ∧ 0 < j ∧ ∃ a xs, x = .ref a ∧ SqL K H4 a xs ∧ ∀ p, H4 p = none → (stepV xs lo hi j).length ≤ xs.length → Q (.ref p) (upd H4 p (.lst (stepV xs lo hi j)))
section
variable {X : Cx} {e st : Expr} {lo hi : Option Expr} {te ts : TE} {tl th : TO} {p2 pos : Pos}
theorem pe_step (he : PE X e te) (hl : PO X lo tl) (hu : PO X hi th) (hst : PE X st ts) : PE X (.Subscript e (.Slice lo hi (some st) p2) pos) (tStep X.K te tl th ts) := by
  intro pins s σ H Q I h
  refine Subscript_ (thn (he pins s σ H _ I h) fun v s1 ⟨x, H1, I1, r1, q1⟩ => ?_)
  refine wpAny_Slice (thn (hl pins s1 σ H1 _ I1 q1) fun vl s2 ⟨l, H2, I2, rl, q2⟩ => thn (hu pins s2 σ H2 _ I2 q2) fun vu s3 ⟨u, H3, I3, ru, q3⟩ => ?_)
  rw [evalPart_some]
  refine thn (hst pins s3 σ H3 _ I3 q3) fun vk s4 ⟨k, H4, I4, rk, j, ek, hj, a, xs, ex, hx, q⟩ => ?_
  subst ek ex
  obtain ⟨t, rfl⟩ := rk
  cases r1
  have I5 : Inv X pins σ H4 { s4 with heap := s4.heap.push { cls := .type "slice", data := .fields #[vl, vu, .int j t] } } := I4.kept (t' := s4.toks) fun b ob q => Heap.get?_push_of_some _ q
  obtain ⟨its, r, ht, hz⟩ := I5.list hx
  have hlen := r.length
  show wpAny (model X.prog X.w) X.A (subscriptTail e (.Slice lo hi (some st) p2) (.ref a) (.ref s4.heap.objs.size)) (EP X pins σ Q) X.xe { s4 with heap := s4.heap.push { cls := .type "slice", data := .fields #[vl, vu, .int j t] } }
  refine tail_any (ops := [.ref a, .ref s4.heap.objs.size]) ht.isList.typeIs slot_list_getitem.lookup ?_ (by with_unfolding_all rfl)
  refine wpAny_getItem_list_slice ht.isList (Heap.IsSliceOf.new ..) rl ru (.int j t) (by intro z; cases z; omega) ?_ (by rw [List.size_toArray] <;> omega)
  have ep : slicePick its.toArray l u (some j) = ((sliceRange (sliceBounds l u (some j) xs.length).1 (sliceBounds l u (some j) xs.length).2.1 (sliceBounds l u (some j) xs.length).2.2).filterMap (its[·]?)).toArray := by
    unfold slicePick
    rw [List.size_toArray, hlen]
    simp only [List.getElem?_toArray]
  have hv : Vals (stepV xs l u j) ((sliceRange (sliceBounds l u (some j) xs.length).1 (sliceBounds l u (some j) xs.length).2.1 (sliceBounds l u (some j) xs.length).2.2).filterMap (its[·]?)) := vals_pick r _
  have hsz : (stepV xs l u j).length ≤ xs.length := by
    have := slicePick_size_le its.toArray l u (some j)
    rw [ep, List.size_toArray, List.size_toArray, ← hv.length] at this
    omega
  rw [ep]
  exact ⟨.ref _, _, I5.laid (t' := s4.toks) (o := .lst (stepV xs l u j)) (fun b ob q => Heap.get?_push_of_some _ q) (Nat.le_refl _) ⟨Nat.le_trans hsz hz, _, 0, hv, Heap.get?_push_size _ rfl⟩, rfl, q _ (I5.hok.fresh (Nat.le_refl _)) hsz⟩
end
end L2

namespace Og
open PySem L2
theorem ix_tupK {X : Cx} {K : PySem.W.Frag} (h : X.K = K) : IxR X (rIxT K) := h ▸ ix_tup
structure R where
  w : Str
  nm : Str
  rest : List V
abbrev R.v (r : R) : List V := .str r.w :: .str r.nm :: r.rest
/-- vs are rows, by ρ -/
def Rows (H : Hp) (ρ : V → R) (vs : List V) : Prop := ∀ v ∈ vs, TupAt H (ρ v).v v
abbrev pw (ρ : V → R) (w : Str) (v : V) : Bool := decide (V.str (ρ v).w = V.str w)
abbrev pn (ρ : V → R) (t : Str) (v : V) : Bool := decide (V.str (ρ v).nm = V.str t)
def KTup (K : PySem.W.Frag) (a : Addr) (xs : List V) : Prop := ∃ (o : Obj) (its : Array Value) (n : Nat), K.lookup a = some o ∧ o.cls = .type "tuple" ∧ o.data = .seq its n ∧ its.size ≤ sizeLine ∧ Vals xs its.toList
theorem same_upd {H : Hp} {p : Addr} {o : HO} (h : H p = none) : Same H (upd H p o) := fun b u e => by rw [upd_ne (ne_of_none e h)]; exact e
theorem line20 {n : Nat} (h : n ≤ 1000) : n ≤ sizeLine := Nat.le_of_lt (small1000 h)
theorem ty_int {K : PySem.W.Frag} : PySem.W.kitOne K (.type "int") (.type "int") = some true := by kernel_rfl
theorem ty_ib {K : PySem.W.Frag} : PySem.W.kitOne K (.type "int") (.type "bool") = some false := by kernel_rfl
theorem ty_tt {K : PySem.W.Frag} : PySem.W.kitOne K (.type "tuple") (.type "tuple") = some true := by kernel_rfl
abbrev bV (b : Str × Nat) : List V := [.str b.1, .int (b.2 : Nat)]
abbrev qV (q : Nat × Nat) : List V := [.int (q.1 : Nat), .int (q.2 : Nat)]
/-- the places of all keys -/
def plc (bs : List (Str × Nat)) : List (Nat × Nat) := bs.zipIdx.flatMap fun p => (List.range p.1.2).map fun e => (p.2, e)
theorem paired_get {α β : Type} {F : α → β → Prop} {l : List α} {vs : List β} (h : Paired F l vs) : ∀ {i : Nat} {a}, l[i]? = some a → ∃ v, vs[i]? = some v ∧ F a v := by
  induction h with
  | nil => intro i a ha; simp at ha
  | cons x y ih =>
    intro i a ha
    cases i with
    | zero =>
      simp at ha
      subst ha
      exact ⟨_, rfl, x⟩
    | succ i => exact ih (by simpa using ha)
theorem paired_get' {α β : Type} {F : α → β → Prop} {l : List α} {vs : List β} (h : Paired F l vs) : ∀ {i : Nat} {v}, vs[i]? = some v → ∃ a, l[i]? = some a ∧ F a v := by
  induction h with
  | nil => intro i a ha; simp at ha
  | cons x y ih =>
    intro i a ha
    cases i with
    | zero =>
      simp at ha
      subst ha
      exact ⟨_, rfl, x⟩
    | succ i => exact ih (by simpa using ha)
theorem paired_take {α β : Type} {F : α → β → Prop} {l : List α} {vs : List β} (h : Paired F l vs) : ∀ n : Nat, Paired F (l.take n) (vs.take n) := by
  induction h with
  | nil => intro n; simp; exact .nil
  | cons x y ih =>
    intro n
    cases n with
    | zero => exact .nil
    | succ n => exact .cons x (ih n)
theorem paired_app {α β : Type} {F : α → β → Prop} {l l' : List α} {vs vs' : List β} (h : Paired F l vs) (h' : Paired F l' vs') : Paired F (l ++ l') (vs ++ vs') := by
  induction h with
  | nil => exact h'
  | cons x y ih => exact .cons x ih
theorem paired_of_map {α β γ : Type} {F : γ → β → Prop} (g : α → γ) {l : List α} {vs : List β} (h : Paired (fun a v => F (g a) v) l vs) : Paired F (l.map g) vs := by
  induction h with
  | nil => exact .nil
  | cons x y ih => exact .cons x ih
/-- all but the object at x -/
def SX (x : Addr) (H H' : Hp) : Prop := ∀ b o, H b = some o → b ≠ x → H' b = some o
abbrev meths : List Str := ["ranks", "pipe_count", "pipe", "rank_of", "board_of_knob", "boards", "key_count", "key", "board_of", "coupler", "knobs", "knob_number", "board_number", "stop", "mute", "steps", "rows"]
structure OrgAt (C : Addr) (H : Hp) (x : Addr) (bs : List (Str × Nat)) (ks : List R) : Prop where
  ob : ∃ (dx : Addr) (fs : List (Str × V)) (bl bn kp kr : Addr) (bvs pvs uvs : List V) (kvs : List (Key × V)), H x = some (.ins C dx fs) ∧ fs.lookup ("board_list" : Str) = some (.ref bl) ∧ fs.lookup ("board_numbers" : Str) = some (.ref bn) ∧ fs.lookup ("key_places" : Str) = some (.ref kp) ∧ fs.lookup ("knob_rows" : Str) = some (.ref kr) ∧
    (∀ m ∈ meths, fs.lookup m = none) ∧ H bl = some (.lst bvs) ∧ Paired (fun b y => TupAt H (bV b) y) bs bvs ∧ H bn = some (.dK kvs) ∧ (∀ (i : Nat) b, bs[i]? = some b → valV kvs (Sum.inr b.1) = some (.int (i : Nat))) ∧
    H kp = some (.lst pvs) ∧ Paired (fun q y => TupAt H (qV q) y) (plc bs) pvs ∧ H kr = some (.lst uvs) ∧ Paired (fun (r : R) y => TupAt H r.v y) ks uvs
  nb : bs.length ≤ 5
  sz : ∀ b ∈ bs, b.2 ≤ 61
  nk : ks.length ≤ 200
end Og

namespace Wd
open PySem
abbrev Ris (xs : Array Nat) : Prop := xs.toList.Pairwise (· < ·)
theorem ris_lt {xs : Array Nat} (r : Ris xs) {i k : Nat} (h : i < k) (hk : k < xs.size) : xs.getD i 0 < xs.getD k 0 := by
  have hi : i < xs.size := Nat.lt_trans h hk
  have := (List.pairwise_iff_getElem.mp r) i k (by simpa using hi) (by simpa using hk) h
  simpa [Array.getD, hi, hk] using this
structure Cut (xs : Array Nat) (j p : Nat) : Prop where
  le : p ≤ xs.size
  lo : ∀ i, i < p → xs.getD i 0 < j
  hi : ∀ i, p ≤ i → i < xs.size → j ≤ xs.getD i 0
theorem below_go {xs : Array Nat} (r : Ris xs) (j : Nat) : ∀ (fuel lo hi : Nat), hi ≤ xs.size → hi - lo ≤ fuel → lo ≤ hi → (∀ i, i < lo → xs.getD i 0 < j) → (∀ i, hi ≤ i → i < xs.size → j ≤ xs.getD i 0) → Cut xs j (SetTable.below.go xs j fuel lo hi)
  | 0, lo, hi, h1, h2, h3, a, b => by
    have e : lo = hi := by omega
    subst e
    exact ⟨h1, a, b⟩
  | fuel + 1, lo, hi, h1, h2, h3, a, b => by
    unfold SetTable.below.go
    split
    · rename_i hlt
      have hm : (lo + hi) / 2 < xs.size := by omega
      have e : xs.getD ((lo + hi) / 2) j = xs.getD ((lo + hi) / 2) 0 := by simp [Array.getD, hm]
      dsimp only
      rw [e]
      by_cases hj : xs.getD ((lo + hi) / 2) 0 < j
      · rw [if_pos hj]
        refine below_go r j fuel ((lo + hi) / 2 + 1) hi h1 (by omega) (by omega) (fun i hi' => ?_) b
        by_cases q : i = (lo + hi) / 2
        · rw [q]; exact hj
        · have := ris_lt r (i := i) (k := (lo + hi) / 2) (by omega) hm
          omega
      · rw [if_neg hj]
        refine below_go r j fuel lo ((lo + hi) / 2) (by omega) (by omega) (by omega) a fun i hi' hs => ?_
        by_cases q : i = (lo + hi) / 2
        · rw [q]; omega
        · have := ris_lt r (i := (lo + hi) / 2) (k := i) (by omega) hs
          omega
    · have e : lo = hi := by omega
      subst e
      exact ⟨h1, a, b⟩
theorem below_cut {xs : Array Nat} (r : Ris xs) (j : Nat) : Cut xs j (SetTable.below xs j) :=
  below_go r j xs.size 0 xs.size (Nat.le_refl _) (by omega) (Nat.zero_le _) (fun i h => absurd h (Nat.not_lt_zero _)) (fun i h1 h2 => absurd h2 (by omega))
theorem not_mem_of {xs : Array Nat} {j : Nat} (r : Ris xs) (h : xs[SetTable.below xs j]? ≠ some j) : j ∉ xs.toList := fun hm => by
  have c := below_cut r j
  obtain ⟨i, hi, e⟩ := List.mem_iff_getElem.mp hm
  have hi' : i < xs.size := by simpa using hi
  have ei : xs.getD i 0 = j := by simpa [Array.getD, hi'] using e
  have h1 : SetTable.below xs j ≤ i := by
    rcases Nat.lt_or_ge i (SetTable.below xs j) with q | q
    · have := c.lo i q; omega
    · exact q
  have h2 : SetTable.below xs j < xs.size := Nat.lt_of_le_of_lt h1 hi'
  have h3 := c.hi _ (Nat.le_refl _) h2
  have h4 : SetTable.below xs j = i := by
    rcases Nat.lt_or_ge (SetTable.below xs j) i with q | q
    · have := ris_lt r q hi'; omega
    · omega
  refine h ?_
  have e' : xs[i] = j := by simpa [Array.getD, hi'] using ei
  rw [h4, Array.getElem?_eq_getElem hi', e']
theorem ris_insert {xs : Array Nat} {j : Nat} (r : Ris xs) (h : xs[SetTable.below xs j]? ≠ some j) : Ris (SetTable.insertAt xs (SetTable.below xs j) j) := by
  have c := below_cut r j
  have nm := not_mem_of r h
  show (SetTable.insertAt xs (SetTable.below xs j) j).toList.Pairwise _
  rw [SetTable.toList_insertAt, List.pairwise_append, List.pairwise_cons]
  have lt1 : ∀ a ∈ xs.toList.take (SetTable.below xs j), a < j := fun a ha => by
    obtain ⟨i, hi, e⟩ := List.mem_iff_getElem.mp ha
    rw [List.length_take] at hi
    have hi2 : i < xs.size := by simp at hi; omega
    have := c.lo i (by omega)
    simp [Array.getD, hi2] at this
    rw [List.getElem_take] at e
    rw [← e]
    simpa using this
  have lt2 : ∀ a ∈ xs.toList.drop (SetTable.below xs j), j < a := fun a ha => by
    obtain ⟨i, hi, e⟩ := List.mem_iff_getElem.mp ha
    rw [List.length_drop] at hi
    have hi2 : SetTable.below xs j + i < xs.size := by simp at hi; omega
    have := c.hi (SetTable.below xs j + i) (Nat.le_add_right _ _) hi2
    simp [Array.getD, hi2] at this
    rw [List.getElem_drop] at e
    have hle : j ≤ a := by rw [← e]; simpa using this
    have hne : j ≠ a := fun z => nm (by rw [z]; exact List.mem_of_mem_drop ha)
    omega
  exact ⟨r.sublist (List.take_sublist _ _), ⟨lt2, r.sublist (List.drop_sublist _ _)⟩, fun a ha b hb => by
    rcases List.mem_cons.mp hb with e | hb
    · rw [e]; exact lt1 a ha
    · have := lt1 a ha; have := lt2 b hb; omega⟩
/-- a slot that is not taken -/
theorem slot_free {t : SetTable} {j : Nat} (h : ∀ i, t.slot j ≠ .live i) : t.place[SetTable.below t.place j]? ≠ some j := fun e => by
  refine h (SetTable.below t.place j) ?_
  unfold SetTable.slot
  dsimp only
  rw [e]
  simp
theorem advance_dummy (t : SetTable) (p : SetTable.Probe) : (t.advance p).dummy = p.dummy := by
  unfold SetTable.advance
  split <;> rfl
theorem probe_free {t : SetTable} {f : Nat → Int} {h : Int} : ∀ (fuel : Nat) (p : SetTable.Probe) (j : Nat) (dm : Option Nat), (∀ d, p.dummy = some d → t.slot d = .dummy) → SetTable.probe.go t f h fuel p = some (.empty j dm) →
    t.slot j = .empty ∧ ∀ d, dm = some d → t.slot d = .dummy
  | 0, p, j, dm, hd, e => by unfold SetTable.probe.go at e; cases e
  | fuel + 1, p, j, dm, hd, e => by
    unfold SetTable.probe.go at e
    split at e
    · rename_i hs
      cases e
      exact ⟨hs, hd⟩
    · rename_i hs
      refine probe_free fuel _ j dm (fun d q => ?_) e
      rw [advance_dummy] at q
      cases q
      exact hs
    · split at e
      · cases e
      · refine probe_free fuel _ j dm (fun d q => ?_) e
        rw [advance_dummy] at q
        exact hd d q
theorem free_slot {t : SetTable} {h : Int} {j : Nat} {d : Bool} (e : t.freeSlot h = some (j, d)) : ∀ i, t.slot j ≠ .live i := by
  unfold SetTable.freeSlot at e
  split at e
  · rename_i j' dm q
    unfold SetTable.probe at q
    obtain ⟨h1, h2⟩ := probe_free _ _ _ _ (fun d hd => by simp [SetTable.probeStart] at hd) q
    cases dm with
    | none => cases e; intro i z; rw [show (none : Option Nat).getD j' = j' from rfl, h1] at z; cases z
    | some d' =>
      cases e
      intro i z
      rw [show (some d').getD j' = d' from rfl, h2 d' rfl] at z
      cases z
  · cases e
/-- what is kept of a table -/
structure Good (t : SetTable) (led : Bool) : Prop where
  led : t.led = led
  ris : t.plain = true → Ris t.place
theorem good_fresh (led : Bool) : Good (.fresh 0 0 led) led := ⟨rfl, fun _ => by simp [SetTable.fresh, Ris]⟩
theorem good_stand {t : SetTable} {led : Bool} (g : Good t led) (n : Nat) : Good (t.standIn n) led := ⟨g.led, fun h => by simp [SetTable.standIn] at h⟩
theorem good_or {t : SetTable} {led : Bool} (g : Good t led) (n : Nat) : Good (t.orStandIn n) led := by
  unfold SetTable.orStandIn
  split
  · exact g
  · exact good_stand g n
theorem good_new {t : SetTable} {led : Bool} (g : Good t led) (es : Array (Int × Value)) (h : Int) (x : Value) : Good (layNew t es h x).2.1 led := by
  unfold layNew
  split
  · rename_i slot wd e
    refine good_or (t := (t.put slot).1) ⟨g.led, fun hp => ?_⟩ _
    exact ris_insert (g.ris hp) (slot_free (free_slot e))
  · exact good_stand g _
theorem good_laid {mask finger moves : Nat} {led plain : Bool} {hs : Array Int} {t : SetTable} {o : Array Nat} (e : SetTable.laid mask finger moves led plain hs = some (t, o)) : Good t led ∧ t.plain = plain := by
  unfold SetTable.laid at e
  simp only [Option.bind_eq_bind, Option.bind_eq_some_iff] at e
  obtain ⟨owner, _, e⟩ := e
  cases e
  refine ⟨⟨rfl, fun _ => ?_⟩, rfl⟩
  show List.Pairwise _ ((List.map _ _).toArray).toList
  rw [List.pairwise_map, List.pairwise_filterMap]
  refine List.pairwise_lt_range.imp fun {a b} hab x hx y hy => ?_
  obtain ⟨u, _, rfl⟩ := Option.map_eq_some_iff.mp hx
  obtain ⟨v, _, rfl⟩ := Option.map_eq_some_iff.mp hy
  exact hab
theorem good_relay {t : SetTable} {led : Bool} (g : Good t led) (es : Array (Int × Value)) (n : Nat) : Good (relayAll t es n).2.1 led := by
  unfold relayAll
  split
  · rename_i t' order e
    dsimp only
    split
    · have := good_laid e
      rw [g.led] at this
      exact this.1
    · exact good_stand g _
  · exact good_stand g _
/-- the same members, none twice -/
theorem perm_of {α : Type} [DecidableEq α] : ∀ {l m : List α}, l.Nodup → (∀ x ∈ l, x ∈ m) → m.length ≤ l.length → l.Perm m
  | [], m, _, _, h => by
    have : m = [] := List.eq_nil_of_length_eq_zero (by simpa using h)
    rw [this]
  | a :: l, m, nd, hs, h => by
    obtain ⟨n1, n2⟩ := List.nodup_cons.mp nd
    have ha := hs a List.mem_cons_self
    have p := List.perm_cons_erase ha
    have hl := p.length_eq
    refine (List.Perm.cons a (perm_of n2 (fun x hx => ?_) ?_)).trans p.symm
    · have hx' := p.mem_iff.mp (hs x (List.mem_cons_of_mem _ hx))
      rcases List.mem_cons.mp hx' with e | e
      · exact absurd (e ▸ hx) n1
      · exact e
    · simp only [List.length_cons] at hl h
      omega
end Wd

namespace Wd
open PySem PySem.Spec PyProof.Rows
/-- a set of ints at a: its members, each once -/
def SetG (prog : Program) (w : World) (h : Heap) (a : Addr) (led : Bool) (σ : List Int) : Prop :=
  ∃ es ep t, h.get? a = some { cls := .type "set", dict := none, data := .set es ep t } ∧ ElemsOf (intKind prog w) es.toList ∧ (∀ k, k ∈ σ ↔ ∃ e ∈ es.toList, (intKind prog w).is k e.2 = true) ∧ es.size = σ.length ∧ σ.Nodup ∧
    σ.length < scanBound ∧ t.fits es.size = true ∧ Good t led
def addI (σ : List Int) (k : Int) : List Int := if k ∈ σ then σ else σ ++ [k]
section
variable {prog : Program} {w : World} {A : Around} {E : Value → Shared → Prop} {s : Shared} {a : Addr} {led : Bool} {σ : List Int} {k : Int} {tk : Tok}
theorem put_get {h : Heap} {es es' : Array (Int × Value)} {ep : Nat} {t t' : SetTable} (ho : h.get? a = some { cls := .type "set", dict := none, data := .set es ep t }) :
    (h.update a (Obj.putSet es' t')).get? a = some { cls := .type "set", dict := none, data := .set es' (ep + 1) t' } :=
  (Heap.get?_update_self (Obj.putSet es' t') ho (by rw [putSet_of es' t' rfl]; rfl)).trans (by rw [putSet_of es' t' rfl])
theorem add_G {Q : Bool → Shared → Prop} (hS : SetG prog w s.heap a led σ) (room : σ.length + 1 < scanBound)
    (h : ∀ b h', Heap.SameBut a s.heap h' → SetG prog w h' a led (addI σ k) → Q b { s with heap := h' }) : wpAny (model prog w) A (setAddHashed a (.int k tk) ((intKind prog w).hash k)) Q E s := by
  obtain ⟨es, ep, t, ho, hel, hmem, hn, nd, hb, hf, g⟩ := hS
  have hkey : (intKind prog w).is k (.int k tk) = true := intKind_is _ _ _ _
  have hbe : es.size < scanBound := by rw [hn]; exact hb
  unfold setAddHashed setAddHashedIn
  refine wpAny_holding (wpAny_bind (wpAny_setState_of ho rfl hf ?_))
  dsimp only
  rw [byScan_of rfl hbe hel, if_pos rfl]
  unfold setAddByScan
  refine wpAny_bind (wpAny_bind (wpAny_rule (wpAny_bind (wpAny_setScan_of hkey ho rfl hf hel ?_))))
  cases hr : List.findIdx? (fun e => (intKind prog w).is k e.2) es.toList with
  | some j =>
    obtain ⟨hj, hpj, _⟩ := List.findIdx?_eq_some_iff_getElem.mp hr
    have hk : k ∈ σ := (hmem k).mpr ⟨_, List.getElem_mem hj, hpj⟩
    refine wpAny_pure (wpAny_pure ?_)
    have := h false s.heap (Heap.SameBut.refl a s.heap) (by unfold addI; rw [if_pos hk]; exact ⟨es, ep, t, ho, hel, hmem, hn, nd, hb, hf, g⟩)
    exact this
  | none =>
    have hk : k ∉ σ := fun q => by
      obtain ⟨e, he, hp⟩ := (hmem k).mp q
      have := List.findIdx?_eq_none_iff.mp hr e he
      rw [hp] at this
      cases this
    dsimp only
    have hperm := layNew_perm t es ((intKind prog w).hash k) (.int k tk)
    have hfits := layNew_fits t es ((intKind prog w).hash k) (.int k tk)
    have hgood := good_new g es ((intKind prog w).hash k) (.int k tk)
    generalize layNew t es ((intKind prog w).hash k) (.int k tk) = L at hperm hfits hgood ⊢
    obtain ⟨es1, t1, wd, gave⟩ := L
    dsimp only at hperm hfits hgood ⊢
    rw [Array.toList_push] at hperm
    have hel1 : ElemsOf (intKind prog w) es1.toList := (hel.push hkey rfl).perm hperm
    have sz1 : es1.size = (σ ++ [k]).length := by
      have := hperm.length_eq
      simp only [List.length_append, Array.length_toList, List.length_singleton] at this
      simp only [List.length_append, List.length_singleton]
      omega
    have mem1 : ∀ k', k' ∈ σ ++ [k] ↔ ∃ e ∈ es1.toList, (intKind prog w).is k' e.2 = true := fun k' => by
      have := mem_push_iff (knd := intKind prog w) (S := fun k' => decide (k' ∈ σ)) hkey (fun k' => by rw [decide_eq_true_eq]; exact hmem k') hperm k'
      rw [← this]
      simp
    have nd1 : (σ ++ [k]).Nodup := List.nodup_append.mpr ⟨nd, by simp, fun x hx y hy => by
      rw [List.mem_singleton.mp hy]
      intro q
      exact hk (q ▸ hx)⟩
    have hb1 : (σ ++ [k]).length < scanBound := by simp only [List.length_append, List.length_singleton]; exact room
    have hb1' : es1.size < scanBound := by rw [sz1]; exact hb1
    have fin : ∀ (es2 : Array (Int × Value)) (t2 : SetTable) (ep2 : Nat) (h2 : Heap), Heap.SameBut a s.heap h2 → h2.get? a = some { cls := .type "set", dict := none, data := .set es2 ep2 t2 } → es2.toList.Perm es1.toList → t2.fits es2.size = true → Good t2 led →
        Q true { s with heap := h2 } := fun es2 t2 ep2 h2 sb e2 p2 f2 g2 => by
      refine h true h2 sb ?_
      unfold addI
      rw [if_neg hk]
      refine ⟨es2, ep2, t2, e2, hel1.perm p2, fun k' => (mem1 k').trans ⟨fun ⟨e, he, q⟩ => ⟨e, p2.mem_iff.mpr he, q⟩, fun ⟨e, he, q⟩ => ⟨e, p2.mem_iff.mp he, q⟩⟩, ?_, nd1, hb1, f2, g2⟩
      rw [← Array.length_toList, p2.length_eq, Array.length_toList, sz1]
    have tail : ∀ (t2 : SetTable), t2.fits es1.size = true → Good t2 led → wpAny (model prog w) A (do
        storeSet a es1 t2
        if (!wd && t2.tooFull) = true then do
            (match (relayAll t2 es1 (SetTable.grown es1.size)).2.2 with | true => rule "set.scan.the-table-gave-way" | false => pure ())
            storeSet a (relayAll t2 es1 (SetTable.grown es1.size)).1 (relayAll t2 es1 (SetTable.grown es1.size)).2.1
            pure (some true)
          else pure (some true)) (fun r s' => match r with | some b => Q b s' | none => False) E s := fun t2 f2 g2 => by
      refine wpAny_bind (wpAny_storeSet_of ho rfl ?_ (fits_of_scanBound hb1'))
      have sb1 := Heap.SameBut.update s.heap a (Obj.putSet es1 t2)
      have e1 := put_get (es' := es1) (t' := t2) ho
      split
      · have hp := relayAll_perm t2 es1 (SetTable.grown es1.size)
        have hq := relayAll_fits t2 es1 (SetTable.grown es1.size)
        have hg := good_relay g2 es1 (SetTable.grown es1.size)
        generalize relayAll t2 es1 (SetTable.grown es1.size) = R at hp hq hg ⊢
        obtain ⟨es2, t3, gv⟩ := R
        dsimp only at hp hq hg ⊢
        have hb2 : es2.size < scanBound := by rw [← Array.length_toList, hp.length_eq, Array.length_toList]; exact hb1'
        have last : wpAny (model prog w) A (do storeSet a es2 t3; pure (some true)) (fun r s' => match r with | some b => Q b s' | none => False) E { s with heap := s.heap.update a (Obj.putSet es1 t2) } := by
          refine wpAny_bind (wpAny_storeSet_of e1 rfl ?_ (fits_of_scanBound hb2))
          exact wpAny_pure (fin es2 t3 _ _ (sb1.trans (Heap.SameBut.update _ a _)) (put_get e1) hp hq hg)
        cases gv
        · exact wpAny_bind (wpAny_pure last)
        · exact wpAny_bind (wpAny_rule last)
      · exact wpAny_pure (fin es1 t2 _ _ sb1 e1 (List.Perm.refl _) f2 g2)
    have tail' : ∀ (t2 : SetTable), t2.fits es1.size = true → Good t2 led → wpAny (model prog w) A (do
        storeSet a es1 t2
        if (!wd && t2.tooFull) = true then do
            (match (relayAll t2 es1 (SetTable.grown es1.size)).2.2 with | true => rule "set.scan.the-table-gave-way" | false => pure ())
            storeSet a (relayAll t2 es1 (SetTable.grown es1.size)).1 (relayAll t2 es1 (SetTable.grown es1.size)).2.1
            pure (some true)
          else pure (some true)) (fun r s' => wpAny (model prog w) A (match r with | some added => pure added | none => setAddHashedIn a (.int k tk) ((intKind prog w).hash k) 99999) Q E s') E s := fun t2 f2 g2 =>
      wpAny_mono (tail t2 f2 g2) (fun r s' q => by
        cases r with
        | none => exact q.elim
        | some b => exact wpAny_pure q) fun _ _ e => e
    have mid : wpAny (model prog w) A (do
        let byValue ← if t1.plain then hashByValue 8 (.int k tk) else pure true
        let t2 := if byValue = true then t1 else { t1 with plain := false }
        storeSet a es1 t2
        if (!wd && t2.tooFull) = true then do
            (match (relayAll t2 es1 (SetTable.grown es1.size)).2.2 with | true => rule "set.scan.the-table-gave-way" | false => pure ())
            storeSet a (relayAll t2 es1 (SetTable.grown es1.size)).1 (relayAll t2 es1 (SetTable.grown es1.size)).2.1
            pure (some true)
          else pure (some true)) (fun r s' => wpAny (model prog w) A (match r with | some added => pure added | none => setAddHashedIn a (.int k tk) ((intKind prog w).hash k) 99999) Q E s') E s := by
      split
      · rw [hashByValue_scannable 8 rfl]
        exact wpAny_bind (wpAny_pure (tail' t1 hfits hgood))
      · exact wpAny_bind (wpAny_pure (tail' t1 hfits hgood))
    cases gave
    · exact wpAny_bind (wpAny_pure mid)
    · exact wpAny_bind (wpAny_rule mid)
end
end Wd

namespace Wd
open PySem PySem.Spec PyProof.Rows
theorem SetG.keep {prog : Program} {w : World} {h h' : Heap} {a : Addr} {led : Bool} {σ : List Int} (g : SetG prog w h a led σ) (k : ∀ o, h.get? a = some o → h'.get? a = some o) : SetG prog w h' a led σ :=
  let ⟨es, ep, t, e, r⟩ := g; ⟨es, ep, t, k _ e, r⟩
theorem addI_len (σ : List Int) (k : Int) : (addI σ k).length ≤ σ.length + 1 := by
  unfold addI
  split
  · omega
  · simp
theorem foldI_len : ∀ (ns : List Int) (σ : List Int), (ns.foldl addI σ).length ≤ σ.length + ns.length
  | [], σ => by simp
  | k :: ns, σ => by
    have h1 := foldI_len ns (addI σ k)
    have h2 := addI_len σ k
    simp only [List.foldl_cons, List.length_cons]
    omega
theorem foldI_mem : ∀ (ns : List Int) (σ : List Int) (x : Int), x ∈ ns.foldl addI σ ↔ x ∈ σ ∨ x ∈ ns
  | [], σ, x => by simp
  | k :: ns, σ, x => by
    rw [List.foldl_cons, foldI_mem ns (addI σ k) x]
    unfold addI
    split
    · rename_i h
      simp only [List.mem_cons]
      constructor
      · rintro (q | q)
        · exact .inl q
        · exact .inr (.inr q)
      · rintro (q | q | q)
        · exact .inl q
        · exact .inl (q ▸ h)
        · exact .inr q
    · simp [or_assoc]
section
variable {prog : Program} {w : World} {A : Around} {R : Result → Shared → Prop} {I : Addr} {fp wr : List Addr} {G : Array GenState → Array GenState → Prop} {n : Nat} {P : Nat → Value → Prop} {St : Nat → Shared → Prop} {led : Bool}
theorem loop_G (W : WalksS prog w A.in1 I fp wr G n P St) (S : Addr) (hSf : S ∉ fp) (ns : List Int) (hn : ns.length = n) (hval : ∀ i v, P i v → ∃ t, v = .int (ns.getD i 0) t) (hb : n + 1 < scanBound) :
    ∀ (k i : Nat) (s : Shared), n - i = k → i ≤ n → St i s → SetG prog w s.heap S led ((ns.take i).foldl addI []) →
      (∀ s', Moved (S :: wr) G s s' → SetG prog w s'.heap S led (ns.foldl addI []) → R (.ok (.ret .none)) s') → codeAny (model prog w) A (.builtin "set.update.loop" ⟨[.ref S, .ref I], []⟩) R s := by
  have nw : S ∉ wr := fun z => hSf (W.sub _ z)
  have up : ∀ b ∈ wr, b ∈ S :: wr := fun b z => List.mem_cons_of_mem _ z
  intro k
  induction k with
  | zero =>
    intro i s hk hi st g hR
    obtain rfl : i = n := by omega
    refine codeAny_builtin F.entry_set_update_loop ?_
    rw [Around.under_plainId F.plain_set_update_loop _]
    refine wpAny_bind (W.done s _ _ st fun s' m => wpAny_pure (hR s' (m.mono up) ?_))
    rw [List.take_of_length_le (by omega)] at g
    exact g.keep fun o e => m.heap S o nw e
  | succ k ih =>
    intro i s hk hi st g hR
    have lt : i < n := by omega
    refine codeAny_builtin F.entry_set_update_loop ?_
    rw [Around.under_plainId F.plain_set_update_loop _]
    refine wpAny_bind (W.item i s _ _ lt st fun v s' p st' m => ?_)
    obtain ⟨t, rfl⟩ := hval i v p
    have g' := g.keep (h' := s'.heap) fun o e => m.heap S o nw e
    refine wpAny_bind (wpAny_holding (wpAny_holding (wpAny_bind ((intKind prog w).pyHash (k := ns.getD i 0) (intKind_is _ _ _ _) ?_))))
    have room : ((ns.take i).foldl addI []).length + 1 < scanBound := by
      have := foldI_len (ns.take i) []
      rw [List.length_take] at this
      simp at this
      omega
    have tk : ns.take (i + 1) = ns.take i ++ [ns.getD i 0] := by
      have hl : i < ns.length := by omega
      rw [List.take_add_one, List.getElem?_eq_getElem hl]
      simp [hl]
    refine add_G (s := { s' with toks := s'.toks + 1 }) g' room fun b h' sb g2 => ?_
    have g3 : SetG prog w h' S led ((ns.take (i + 1)).foldl addI []) := by
      rw [tk, List.foldl_append]
      exact g2
    refine wpAny_pure ⟨plainId_quiet F.plain_set_update_loop _, ih (i + 1) _ (by omega) lt (W.frame _ s' _ _ st' (Nat.le_succ _) fun b hb o e => ?_) g3 fun s'' m2 g4 => ?_⟩
    · rw [sb.2 b (fun z : b = S => hSf (z ▸ hb))]
      exact e
    · refine hR s'' (Moved.trans W.gtrans ((m.mono up).then_heap (Nat.le_succ _) fun b o hb e => ?_) m2) g4
      rw [sb.2 b (fun z : b = S => hb (by rw [z]; exact List.mem_cons_self))]
      exact e
end
section
variable {prog : Program} {w : World} {A : Around} {E : Value → Shared → Prop} {s : Shared}
abbrev ledOf (w : World) : Bool := !w.params.followText "set-order"
theorem fresh_G (h : Heap) : SetG prog w (h.push { cls := .type "set", dict := none, data := .set #[] 0 (.fresh 0 0 (ledOf w)) }) h.objs.size (ledOf w) [] :=
  ⟨#[], 0, _, Heap.get?_push_size _ rfl, fun e he => by simp at he, fun k => by simp, rfl, .nil, by decide, by rfl, good_fresh _⟩
theorem new_G (a : Value) {Q1 : Value → Shared → Prop} (h : Q1 (.ref s.heap.objs.size) { s with heap := s.heap.push { cls := .type "set", dict := none, data := .set #[] 0 (.fresh 0 0 (ledOf w)) } }) :
    codeAny (model prog w) A (.call (.builtin "set.__new__") ⟨[.type "set", a], []⟩) (wants Q1 E) s := by
  refine codeAny_of_tree ?_
  show wpAny _ A.in1 (do checkBuiltinCall "set.__new__" ⟨[.type "set", a], []⟩; again (.builtin "set.__new__" ⟨[.type "set", a], []⟩)) _ _ s
  refine wpAny_bind (wpAny_of_eq (F.newCall_set_1 a) (wpAny_pure ⟨plainId_quiet F.plain_set_new _, codeAny_builtin F.entry_set_new ?_⟩))
  rw [Around.under_plainId F.plain_set_new _]
  unfold Builtin.«set.__new__» Builtin.Frozenset.newClass
  have hsub := sub_set_self
  obtain ⟨hp, g, d, tk, os⟩ := s
  dsimp only
  wp_walk
  refine wpAny_askSetting (wpAny_pure ?_)
  dsimp only
  simp only [newObj]
  exact wpAny_bind (wpAny_alloc (wpAny_pure (wpAny_pure h)))
set_option maxHeartbeats 4000000 in
theorem set_G {l : Addr} {items : Array Value} {ns : List Int} {Q : Value → Shared → Prop} (hh : A.handled = none) (hl : s.heap.IsList l items) (hi : IntsAre items.toList ns) (hb : ns.length + 1 < scanBound)
    (h : ∀ h' tk, SetG prog w h' s.heap.objs.size (ledOf w) (ns.foldl addI []) → (∀ b o, s.heap.get? b = some o → h'.get? b = some o) → Q (.ref s.heap.objs.size) { s with heap := h', toks := tk }) :
    wpAny (model prog w) A (call (.type "set") [.ref l]) Q E s := by
  obtain ⟨c, tl, hmro⟩ := F.called_set.mro
  have hmade := F.called_set.made
  have hsub := F.called_set.sub
  have hlen : items.size = ns.length := by rw [← IntsAre.length hi]; simp
  refine wpAny_call (codeAny_of_tree ?_)
  show wpAny _ _ (callAny (.type "set") _) _ _ _
  refine wpAny_pure ⟨Code.quiet_builtin _ (by decide +kernel), codeAny_builtin F.entry_type_call ?_⟩
  rw [Around.under_plain (weight_type_call_type "set" [.ref l] []) rfl]
  have h1 := F.called_set.notType
  have h2 := F.called_set.canCreate
  have hct := F.typeCall_set_1 (.ref l)
  repeat (any_goals (first | assumption | wp_step))
  refine codeAny_mono (new_G (.ref l) (E := E) (Q1 := fun obj s1 => obj = .ref s.heap.objs.size ∧ s1 = { s with heap := s.heap.push { cls := .type "set", dict := none, data := .set #[] 0 (.fresh 0 0 (ledOf w)) } }) ⟨rfl, rfl⟩) fun r s1 hr => ?_
  rcases r with e | fl
  · exact hr
  obtain ⟨obj, rfl, hr⟩ : ∃ obj, fl = .ret obj ∧ (obj = .ref s.heap.objs.size ∧ s1 = { s with heap := s.heap.push { cls := .type "set", dict := none, data := .set #[] 0 (.fresh 0 0 (ledOf w)) } }) := by
    cases fl with
    | ret v => exact ⟨v, rfl, hr⟩
    | _ => exact hr.elim
  obtain ⟨rfl, rfl⟩ := hr
  have hS : (s.heap.push { cls := .type "set", dict := none, data := .set #[] 0 (.fresh 0 0 (ledOf w)) }).get? s.heap.objs.size = some { cls := .type "set", dict := none, data := .set #[] 0 (.fresh 0 0 (ledOf w)) } := Heap.get?_push_size _ rfl
  have hT : Shared.TypeIs { s with heap := s.heap.push { cls := .type "set", dict := none, data := .set #[] 0 (.fresh 0 0 (ledOf w)) } } (.ref s.heap.objs.size) "set" := ⟨_, hS, rfl⟩
  have hli := F.called_set.init.lookup
  have hbi := F.called_set.init.bind (.ref s.heap.objs.size)
  repeat (any_goals (first | assumption | wp_step))
  refine codeAny_mono (codeAny_call_builtin (R := wants (fun r s2 => r = .none ∧ ∃ h' tk, s2 = { s with heap := h', toks := tk } ∧ SetG prog w h' s.heap.objs.size (ledOf w) (ns.foldl addI []) ∧ ∀ b o, s.heap.get? b = some o → h'.get? b = some o) E)
    F.called_set.init.plain F.entry_set_init (check_set_init_1 hT ?_)) fun r2 s2 hr2 => ?_
  · obtain ⟨ol, hol, hcl, nl, hdl⟩ := hl
    obtain ⟨ocls, odict, odata, oslots⟩ := ol
    simp only at hcl hdl
    subst hcl; subst hdl
    have hol' : (s.heap.push { cls := .type "set", dict := none, data := .set #[] 0 (.fresh 0 0 (ledOf w)) }).get? l = some { cls := .type "list", dict := odict, data := .seq items nl, slots := oslots } := Heap.get?_push_of_some _ hol
    have hsls := F.sub_list_set
    have hslf := F.sub_list_frozenset
    have hne : (Value.type "list" == Value.type "dict") = false := by decide
    have hl1 : (s.heap.push { cls := .type "set", dict := none, data := .set #[] 0 (.fresh 0 0 (ledOf w)) }).IsList l items := ⟨_, hol', rfl, nl, rfl⟩
    unfold Builtin.«set.__init__» noKeywords Builtin.Frozenset.updateFrom
    generalize hPI : pyIter = PI
    wp_walk
    subst hPI
    refine wpAny_pyIter_list hl1 (wpAny_bind (wpAny_runValue ?_))
    have lS : l < s.heap.objs.size := Heap.lt_size hol
    have h3 : A.in1.in1.in1.handled = none := by simp [hh]
    have nI : l ≠ (s.heap.push { cls := .type "set", dict := none, data := .set #[] 0 (.fresh 0 0 (ledOf w)) }).objs.size := by
      rw [Heap.size_push]
      exact Nat.ne_of_lt (Nat.lt_succ_of_lt lS)
    have nf : s.heap.objs.size ∉ [(s.heap.push { cls := .type "set", dict := none, data := .set #[] 0 (.fresh 0 0 (ledOf w)) }).objs.size, l] := by
      rw [Heap.size_push]
      intro z
      rcases List.mem_cons.mp z with q | q
      · exact absurd q (Nat.ne_of_lt (Nat.lt_succ_self _))
      · exact absurd (List.mem_singleton.mp q) (Nat.ne_of_gt lS)
    refine loop_G ((Walks.list h3 _ l nI items).toS) s.heap.objs.size nf ns hlen.symm (fun i v hv => IntsAre.int_at hi i v (by rw [Array.getElem?_toList]; exact hv)) (by rw [hlen]; exact hb) (items.size - 0) 0 _ rfl (Nat.zero_le _)
      ⟨⟨_, Heap.get?_push_size _ rfl, rfl, rfl⟩, (hl1.push _)⟩ ((fresh_G s.heap).keep fun o e => Heap.get?_push_of_some _ e) fun s' m g => ?_
    obtain ⟨h', g', d', tk', os'⟩ := s'
    obtain rfl : g' = s.gens := m.gens
    obtain rfl : d' = s.drawn := m.drawn
    obtain rfl : os' = s.os := m.os
    show wpAny _ _ _ _ _ _
    refine wpAny_pure ?_
    show wpAny _ _ (ret Value.none) _ _ _
    refine wpAny_pure ⟨rfl, h', tk', rfl, g, fun b o e => ?_⟩
    have b1 := Heap.lt_size e
    refine m.heap b o (fun z => ?_) (Heap.get?_push_of_some _ (Heap.get?_push_of_some _ e))
    rcases List.mem_cons.mp z with q | q
    · exact absurd q (Nat.ne_of_lt b1)
    · have := List.mem_singleton.mp q
      rw [Heap.size_push] at this
      exact absurd this (Nat.ne_of_lt (Nat.lt_succ_of_lt b1))
  · rcases r2 with e | fl2
    · exact hr2
    obtain ⟨r, rfl, hr2⟩ : ∃ r, fl2 = .ret r ∧ (r = .none ∧ ∃ h' tk, s2 = { s with heap := h', toks := tk } ∧ SetG prog w h' s.heap.objs.size (ledOf w) (ns.foldl addI []) ∧ ∀ b o, s.heap.get? b = some o → h'.get? b = some o) := by
      cases fl2 with
      | ret v => exact ⟨v, rfl, hr2⟩
      | _ => exact hr2.elim
    obtain ⟨rfl, h', tk, rfl, g, hk⟩ := hr2
    repeat (any_goals (first | assumption | wp_step))
    exact h _ _ g hk
end
end Wd

namespace Wd
open PySem PySem.Spec PyProof.Rows
theorem it_next : Slot "set_iterator" "__next__" "set_iterator.__next__" :=
  .of (owner := "set_iterator") (n := "__next__") (by rw [typeLookup_type, builtinLookup_eq_fast]; kernel_rfl) (by decide +kernel) (by decide +kernel) (by decide +kernel) (by first | exact .inl (by decide +kernel) | exact .inr (by decide +kernel)) (by rw [isSubtype_type]; kernel_rfl)
theorem it_next_entry : entryFor table "set_iterator.__next__" = some Builtin.«set_iterator.__next__» := entryFor_of_tree (by kernel_rfl)
theorem it_next_args (a : Value) : argsOk "set_iterator.__next__" ⟨[a], []⟩ := by
  unfold argsOk
  kernel_rfl
theorem it_iter : Slot "set_iterator" "__iter__" "set_iterator.__iter__" :=
  .of (owner := "set_iterator") (n := "__iter__") (by rw [typeLookup_type, builtinLookup_eq_fast]; kernel_rfl) (by decide +kernel) (by decide +kernel) (by decide +kernel) (by first | exact .inl (by decide +kernel) | exact .inr (by decide +kernel)) (by rw [isSubtype_type]; kernel_rfl)
theorem it_iter_entry : entryFor table "set_iterator.__iter__" = some Builtin.«dict_keyiterator.__iter__» := entryFor_alias (id' := "dict_keyiterator.__iter__") (by kernel_rfl) rfl (by decide +kernel) (by kernel_rfl)
theorem it_iter_args (a : Value) : argsOk "set_iterator.__iter__" ⟨[a], []⟩ := by
  unfold argsOk
  kernel_rfl
theorem set_iter_entry : entryFor table "set.__iter__" = some Builtin.«frozenset.__iter__» := entryFor_alias (id' := "frozenset.__iter__") (by kernel_rfl) rfl (by decide +kernel) (by kernel_rfl)
end Wd

namespace Wd
open PySem PySem.Spec PyProof.Rows
section
variable {M : Model} {A : Around} {E : Value → Shared → Prop}
theorem wp_draw {src : Source} {n : Nat} {s : Shared} {Q : Nat → Shared → Prop} (hn : n ≠ 0) (h : ∀ i d, i < n → Q i { s with drawn := d }) : wpAny M A (choose src n) Q E s :=
  fun _ _ _ => ⟨hn, h _ _ (Nat.mod_lt _ (Nat.pos_of_ne_zero hn))⟩
theorem perm_at {α : Type} : ∀ {l : List α} {i : Nat} {x : α}, l[i]? = some x → (x :: l.eraseIdx i).Perm l
  | [], _, _, h => by simp at h
  | a :: l, 0, x, h => by
    simp at h
    subst h
    exact List.Perm.refl _
  | a :: l, i + 1, x, h => by
    have ih := perm_at (l := l) (i := i) (x := x) (by simpa using h)
    exact (List.Perm.swap a x _).trans (ih.cons a)
theorem wp_order {α : Type} : ∀ (n : Nat) (xs : List α) (s : Shared) (Q : List α → Shared → Prop), xs.length = n → (∀ r d, r.Perm xs → Q r { s with drawn := d }) → wpAny M A (drawOrder n xs) Q E s
  | 0, xs, s, Q, hn, h => by
    have e : xs = [] := List.eq_nil_of_length_eq_zero hn
    subst e
    exact wpAny_pure (h [] s.drawn (List.Perm.refl _))
  | n + 1, [], s, Q, hn, h => by simp at hn
  | n + 1, x :: xs, s, Q, hn, h => by
    unfold drawOrder
    refine wpAny_bind (wp_draw (by simp) fun i d hi => ?_)
    have hx : (x :: xs)[i]? = some (x :: xs)[i] := List.getElem?_eq_getElem hi
    rw [hx]
    dsimp only
    have p := perm_at hx
    refine wpAny_bind (wp_order n ((x :: xs).eraseIdx i) _ _ (by have := p.length_eq; simp only [List.length_cons] at this hn ⊢; omega) fun r d2 pr => ?_)
    exact wpAny_pure (h _ d2 ((pr.cons _).trans p))
end
theorem pick_go {α : Type} (next : Nat → Nat) : ∀ (fuel k : Nat) (left : List α) (out : Array α), left.length = fuel → (pickOrder.go next fuel k left out).toList.Perm (out.toList ++ left)
  | 0, k, left, out, h => by
    have e : left = [] := List.eq_nil_of_length_eq_zero h
    subst e
    unfold pickOrder.go
    simp
  | fuel + 1, k, left, out, h => by
    have hi : next k % left.length < left.length := Nat.mod_lt _ (by omega)
    have hx : left[next k % left.length]? = some left[next k % left.length] := List.getElem?_eq_getElem hi
    unfold pickOrder.go
    rw [hx]
    dsimp only
    have p := perm_at hx
    refine (pick_go next fuel (k + 1) _ _ (by have := p.length_eq; simp only [List.length_cons] at this; omega)).trans ?_
    rw [Array.toList_push, List.append_assoc]
    exact List.Perm.append_left _ p
theorem pick_perm {α : Type} (next : Nat → Nat) (xs : Array α) : (pickOrder next xs).toList.Perm xs.toList := by
  have := pick_go next xs.size 0 xs.toList #[] (by simp)
  simpa [pickOrder] using this
def ItObj (first : Value) (i : Nat) (a : Addr) (n ep : Nat) : Obj := { cls := .type "set_iterator", data := .fields #[first, rawInt i, .ref a, rawInt n, rawInt ep] }
/-- how a set is walked: what stands first in the iterator at each turn, the values in their order, what else stays -/
inductive Way (w : World) (a : Addr) (es : Array (Int × Value)) (ep : Nat) (t : SetTable) (h : Heap) : (Nat → Value) → List Value → List Addr → Prop where
  | text (hb : w.params.followText "set-order" = true) : Way w a es ep t h (fun _ => rawInt 0) ((pickOrder (w.params.setOrder a ep) es).toList.map (·.2)) []
  | drawn {tp : Addr} {ps : List Nat} (hb : w.params.followText "set-order" = false) (hp : ps.Perm (List.range es.size)) (ht : ∃ n, h.get? tp = some { cls := .type "tuple", data := .seq (ps.map fun (i : Nat) => rawInt i).toArray n }) :
      Way w a es ep t h (fun _ => .ref tp) (ps.map fun i => (es.getD i (0, .none)).2) [tp]
  | plain (hb : w.params.followText "set-order" = false) (hd : (!t.plain && decide (es.size > 1)) = false) (hl : t.led = true) (hr : Ris t.place) (hs : t.place.size = es.size) :
      Way w a es ep t h (fun i => rawInt (if i = 0 then 0 else t.place.getD (i - 1) 0 + 1 : Nat)) (es.toList.map (·.2)) []

section
variable {prog : Program} {w : World} {A : Around} {E : Value → Shared → Prop} {s : Shared} {a it : Addr} {es : Array (Int × Value)} {ep : Nat} {t : SetTable} {first : Nat → Value} {vs : List Value} {more : List Addr}
theorem walk_text (hb : w.params.followText "set-order" = true) {Q : Array (Int × Value) → Shared → Prop} (ha : s.heap.get? a = some { cls := .type "set", dict := none, data := .set es ep t }) (hf : t.fits es.size = true)
    (h : Q (pickOrder (w.params.setOrder a ep) es) s) : wpAny (model prog w) A (setWalk a) Q E s := by
  unfold setWalk setsByText
  refine wpAny_bind (wpAny_setState_of ha rfl hf (wpAny_bind (wpAny_bind (wpAny_askSetting (wpAny_pure ?_)))))
  have hb' : (model prog w).w.params.followText "set-order" = true := hb
  dsimp only
  rw [hb', if_pos rfl]
  exact wpAny_bind (wpAny_askSetting (wpAny_pure h))
theorem next_text (hb : w.params.followText "set-order" = true) {slot i : Nat} {Q : Option (Value × Nat) → Shared → Prop} (ha : s.heap.get? a = some { cls := .type "set", dict := none, data := .set es ep t }) (hf : t.fits es.size = true)
    (h : Q (((pickOrder (w.params.setOrder a ep) es)[i]?).map fun e => (e.2, slot)) s) : wpAny (model prog w) A (setNext a slot i ep) Q E s := by
  unfold setNext setsByText
  refine wpAny_bind (wpAny_setState_of ha rfl hf (wpAny_bind (wpAny_bind (wpAny_askSetting (wpAny_pure ?_)))))
  have hb' : (model prog w).w.params.followText "set-order" = true := hb
  dsimp only
  rw [hb', if_pos rfl, if_neg (by simp)]
  exact wpAny_bind (walk_text hb ha hf (wpAny_pure h))
theorem next_plain (hb : w.params.followText "set-order" = false) (hd : (!t.plain && decide (es.size > 1)) = false) (hl : t.led = true) {slot i : Nat} {Q : Option (Value × Nat) → Shared → Prop} (ha : s.heap.get? a = some { cls := .type "set", dict := none, data := .set es ep t })
    (hf : t.fits es.size = true) (h : Q (match es[SetTable.below t.place slot]?, t.place[SetTable.below t.place slot]? with | some (_, x), some j => some (x, j + 1) | _, _ => none) s) : wpAny (model prog w) A (setNext a slot i ep) Q E s := by
  unfold setNext setsByText
  refine wpAny_bind (wpAny_setState_of ha rfl hf (wpAny_bind (wpAny_bind (wpAny_askSetting (wpAny_pure ?_)))))
  have hb' : (model prog w).w.params.followText "set-order" = false := hb
  dsimp only
  rw [hb', if_neg (by simp)]
  refine wpAny_ite_split (fun hc => absurd (show (!t.plain && decide (es.size > 1)) = true from hc) (by rw [hd]; simp)) (fun _ => wpAny_bind ?_)
  show wpAny _ _ (if (!t.led && !es.isEmpty) = true then unsupported _ else pure ()) _ _ _
  rw [hl]
  exact wpAny_pure (wpAny_pure h)
theorem next_drawn {place : Nat} {x : Int × Value} {Q : Value → Shared → Prop} (ha : s.heap.get? a = some { cls := .type "set", dict := none, data := .set es ep t }) (hf : t.fits es.size = true) (hx : es[place]? = some x) (h : Q x.2 s) :
    wpAny (model prog w) A (setNextDrawn a place ep) Q E s := by
  unfold setNextDrawn
  refine wpAny_bind (wpAny_setState_of ha rfl hf ?_)
  dsimp only
  rw [if_neg (by simp), hx]
  exact wpAny_pure h
theorem it_set {first' : Value} {i n : Nat} {h : Heap} (first : Value) (hit : h.get? it = some (ItObj first i a n ep)) :
    ((h.update it (Obj.mapFields (·.setIfInBounds 0 first'))).update it (Obj.mapFields (·.setIfInBounds 1 (rawInt ((i : Int) + 1))))).get? it = some (ItObj first' (i + 1) a n ep) := by
  have h1 := Heap.get?_update_self (Obj.mapFields (·.setIfInBounds 0 first')) hit rfl
  have h2 := Heap.get?_update_self (Obj.mapFields (·.setIfInBounds 1 (rawInt ((i : Int) + 1)))) h1 rfl
  refine h2.trans ?_
  unfold ItObj
  simp [Obj.mapFields]
theorem it_set1 {i n : Nat} {h : Heap} {first : Value} (hit : h.get? it = some (ItObj first i a n ep)) :
    (h.update it (Obj.mapFields (·.setIfInBounds 1 (rawInt ((i : Int) + 1))))).get? it = some (ItObj first (i + 1) a n ep) := by
  have h2 := Heap.get?_update_self (Obj.mapFields (·.setIfInBounds 1 (rawInt ((i : Int) + 1)))) hit rfl
  refine h2.trans ?_
  unfold ItObj
  simp [Obj.mapFields]
theorem below_at {xs : Array Nat} (r : Ris xs) {i : Nat} (h : i ≤ xs.size) : SetTable.below xs (if i = 0 then 0 else xs.getD (i - 1) 0 + 1) = i := by
  have c := below_cut r (if i = 0 then 0 else xs.getD (i - 1) 0 + 1)
  generalize SetTable.below xs (if i = 0 then 0 else xs.getD (i - 1) 0 + 1) = p at c
  by_cases h0 : i = 0
  · rw [if_pos h0] at c
    by_cases hp : p = 0
    · omega
    · have := c.lo 0 (by omega)
      omega
  · rw [if_neg h0] at c
    rcases Nat.lt_trichotomy p i with q | q | q
    · have h1 := c.hi (i - 1) (by omega) (by omega)
      omega
    · exact q
    · have h1 := c.lo i q
      have h2 := ris_lt r (i := i - 1) (k := i) (by omega) (by have := c.le; omega)
      omega
theorem pynext_item {i : Nat} {v : Value} {Q : Option Value → Shared → Prop} (W : Way w a es ep t s.heap first vs more) (hit : s.heap.get? it = some (ItObj (first i) i a es.size ep)) (ha : s.heap.get? a = some { cls := .type "set", dict := none, data := .set es ep t })
    (hf : t.fits es.size = true) (hv : vs[i]? = some v) (hQ : ∀ h', h'.get? it = some (ItObj (first (i + 1)) (i + 1) a es.size ep) → Heap.SameBut it s.heap h' → Q (some v) { s with heap := h' }) : wpAny (model prog w) A (pyNext (.ref it)) Q E s := by
  have hT : s.TypeIs (.ref it) "set_iterator" := ⟨_, hit, rfl⟩
  unfold pyNext
  refine wpAny_bind (wpAny_attempt (wpAny_callSpecial?_slot (name := Str.ofString "__next__") hT it_next (wpAny_call_entry it_next hT it_next_entry ?_ (it_next_args _))))
  unfold Builtin.«set_iterator.__next__»
  refine wpAny_bind (m := slotArgs _ _ _) (wpAny_pure (wpAny_bind ?_))
  unfold fieldsOf
  refine wpAny_bind (wpAny_load hit (wpAny_pure ?_))
  refine wpAny_bind (wpAny_setEntries_of ha rfl hf ?_)
  rw [if_neg (by simp)]
  cases W with
  | text hb =>
    dsimp only [rawInt]
    rw [Int.toNat_natCast, Int.toNat_natCast]
    refine wpAny_bind (next_text hb ha hf ?_)
    rw [List.getElem?_map, Array.getElem?_toList] at hv
    obtain ⟨x, hx, rfl⟩ := Option.map_eq_some_iff.mp hv
    rw [hx]
    refine wpAny_bind (wpAny_setField hit rfl (by simp) ?_)
    refine wpAny_bind (wpAny_setField (Heap.get?_update_self _ hit rfl) rfl (by simp) ?_)
    exact wpAny_pure ⟨_, rfl, wpAny_pure (hQ _ (it_set _ hit) ((Heap.SameBut.update ..).trans (Heap.SameBut.update ..)))⟩
  | @drawn tp ps hb hp ht =>
    obtain ⟨n, ht⟩ := ht
    rw [List.getElem?_map] at hv
    obtain ⟨p, hx, rfl⟩ := Option.map_eq_some_iff.mp hv
    have e : ((i : Int)).toNat = i := Int.toNat_natCast i
    have hp' : p < es.size := List.mem_range.mp (hp.mem_iff.mp (List.mem_of_getElem? hx))
    have hes : es[p]? = some (es.getD p (0, .none)) := by simp [Array.getD, hp']
    have hpl : ((List.map (fun (i : Nat) => rawInt i) ps).toArray)[i]? = some (rawInt p) := by
      rw [List.getElem?_toArray, List.getElem?_map, hx]
      rfl
    have sq : ∀ (Q' : Option (Array Value) → Shared → Prop) (E' : Value → Shared → Prop), Q' (some (List.map (fun (i : Nat) => rawInt i) ps).toArray) s → wpAny (model prog w) A.in1 (seqItems? (.ref tp)) Q' E' s := fun Q' E' q => by
      exact wpAny_seqItems ht rfl q
    refine wpAny_bind (sq _ _ ?_)
    dsimp only
    rw [e, hpl]
    dsimp only [rawInt]
    rw [Int.toNat_natCast, Int.toNat_natCast]
    refine wpAny_bind (next_drawn ha hf hes ?_)
    refine wpAny_bind (wpAny_setField hit rfl (by simp) ?_)
    exact wpAny_pure ⟨_, rfl, wpAny_pure (hQ _ (it_set1 hit) (Heap.SameBut.update ..))⟩
  | plain hb hd hl hr hs =>
    have hi : i < es.size := by
      have := (List.getElem?_eq_some_iff.mp hv).1
      simpa using this
    rw [List.getElem?_map, Array.getElem?_toList, Array.getElem?_eq_getElem hi] at hv
    cases hv
    have hb' : SetTable.below t.place (if i = 0 then 0 else t.place.getD (i - 1) 0 + 1) = i := below_at hr (by omega)
    dsimp only [rawInt]
    rw [Int.toNat_natCast, Int.toNat_natCast, Int.toNat_natCast]
    refine wpAny_bind (next_plain hb hd hl ha hf ?_)
    rw [hb', Array.getElem?_eq_getElem hi, Array.getElem?_eq_getElem (by omega : i < t.place.size)]
    refine wpAny_bind (wpAny_setField hit rfl (by simp) ?_)
    refine wpAny_bind (wpAny_setField (Heap.get?_update_self _ hit rfl) rfl (by simp) ?_)
    refine wpAny_pure ⟨_, rfl, wpAny_pure (hQ _ ?_ ((Heap.SameBut.update ..).trans (Heap.SameBut.update ..)))⟩
    have e2 : t.place.getD i 0 = t.place[i]'(by omega) := by simp [Array.getD, (by omega : i < t.place.size)]
    have := it_set (first' := rawInt ((t.place[i]'(by omega) : Nat) + 1 : Nat)) _ hit
    show _ = some (ItObj (rawInt ((if i + 1 = 0 then 0 else t.place.getD (i + 1 - 1) 0 + 1 : Nat))) (i + 1) a es.size ep)
    rw [if_neg (Nat.succ_ne_zero i), Nat.add_sub_cancel, e2]
    exact this
/-- the walk's end -/
theorem stop_x {s0 : Shared} {Q : Option Value → Shared → Prop} (hh : A.handled = none) (hQ : ∀ h', (∀ b o, s0.heap.get? b = some o → h'.get? b = some o) → Q none { s0 with heap := h' }) :
    wpAny (model prog w) A.in1 (newExc (.type "StopIteration") [] >>= fun e => (raiseNew e : Sem Fin)) (fun fin s' => ∃ v, fin = Fin.done (Flow.ret v) ∧ wpAny (model prog w) A (match (Except.ok (some v) : Except Value (Option Value)) with | Except.ok (some v) => pure (some v) | Except.ok none => unsupported "iter:the-iterator's-class-has-lost-its-__next__-amid-the-walk" | Except.error e => do
        if ← isInstance e (.type "StopIteration") then pure none else throw e) Q E s')
      (fun e s' => wpAny (model prog w) A (match (Except.error e : Except Value (Option Value)) with | Except.ok (some v) => pure (some v) | Except.ok none => unsupported "iter:the-iterator's-class-has-lost-its-__next__-amid-the-walk" | Except.error e => do
        if ← isInstance e (.type "StopIteration") then pure none else throw e) Q E s') s0 := by
  refine wpAny_bind ?_
  simp only [newExc, newTuple]
  refine wpAny_bind (wpAny_newObj_type ?_ (by size_fits))
  refine wpAny_bind (m := firstArgMember _ _) (wpAny_of_eq (a := Value.none) (by first | rfl | (simp only [firstArgMember]; rfl)) ?_)
  refine wpAny_newObj_type ?_ (by size_fits)
  simp only [raiseNew]
  refine wpAny_bind (wpAny_handled ?_)
  rw [show A.in1.handled = none from hh]
  refine wpAny_bind (wpAny_pure (wpAny_throw ?_))
  refine wpAny_bind (wpAny_isInstance (T := "StopIteration") (b := true) ⟨_, Heap.get?_push_size _ rfl, rfl⟩ isSubtype_stop ?_)
  exact wpAny_pure (hQ _ fun b o e => Heap.get?_push_of_some _ (Heap.get?_push_of_some _ e))
theorem pynext_done {Q : Option Value → Shared → Prop} (hh : A.handled = none) (W : Way w a es ep t s.heap first vs more) (hit : s.heap.get? it = some (ItObj (first es.size) es.size a es.size ep)) (ha : s.heap.get? a = some { cls := .type "set", dict := none, data := .set es ep t })
    (hf : t.fits es.size = true) (hQ : ∀ h', (∀ b o, b ≠ it → s.heap.get? b = some o → h'.get? b = some o) → Q none { s with heap := h' }) : wpAny (model prog w) A (pyNext (.ref it)) Q E s := by
  have hT : s.TypeIs (.ref it) "set_iterator" := ⟨_, hit, rfl⟩
  unfold pyNext
  refine wpAny_bind (wpAny_attempt (wpAny_callSpecial?_slot (name := Str.ofString "__next__") hT it_next (wpAny_call_entry it_next hT it_next_entry ?_ (it_next_args _))))
  unfold Builtin.«set_iterator.__next__»
  refine wpAny_bind (m := slotArgs _ _ _) (wpAny_pure (wpAny_bind ?_))
  unfold fieldsOf
  refine wpAny_bind (wpAny_load hit (wpAny_pure ?_))
  refine wpAny_bind (wpAny_setEntries_of ha rfl hf ?_)
  rw [if_neg (by simp)]
  have fin : ∀ {f g : Array Value → Array Value} (b : Addr) (o : Obj), b ≠ it → s.heap.get? b = some o → (s.heap.update it (Obj.mapFields f)).get? b = some o := fun b o hb e => (Heap.get?_update_other _ _ (Ne.symm hb)).trans e
  cases W with
  | text hb =>
    dsimp only [rawInt]
    rw [Int.toNat_natCast, Int.toNat_natCast]
    refine wpAny_bind (next_text hb ha hf ?_)
    have hx : (pickOrder (w.params.setOrder a ep) es)[es.size]? = none := by
      have := (pick_perm (w.params.setOrder a ep) es).length_eq
      simp only [Array.length_toList] at this
      rw [Array.getElem?_eq_none (by omega)]
    rw [hx]
    refine wpAny_bind (wpAny_setField hit rfl (by simp) (stop_x hh fun h' k => hQ h' fun b o hb e => k b o ?_))
    exact (Heap.get?_update_other _ _ (Ne.symm hb)).trans e
  | @drawn tp ps hb hp ht =>
    obtain ⟨n, ht⟩ := ht
    have hlen : ps.length = es.size := by have := hp.length_eq; simpa using this
    have hpl : ((List.map (fun (i : Nat) => rawInt i) ps).toArray)[((es.size : Nat) : Int).toNat]? = none := by
      rw [Int.toNat_natCast, List.getElem?_toArray, List.getElem?_map, List.getElem?_eq_none (by omega)]
      rfl
    refine wpAny_bind (wpAny_seqItems ht rfl ?_)
    dsimp only
    rw [hpl]
    refine wpAny_bind (wpAny_setField hit rfl (by simp) (wpAny_bind (wpAny_setField (Heap.get?_update_self _ hit rfl) rfl (by simp) (stop_x hh fun h' k => hQ h' fun b o hb e => k b o ?_))))
    exact (Heap.get?_update_other _ _ (Ne.symm hb)).trans ((Heap.get?_update_other _ _ (Ne.symm hb)).trans e)
  | plain hb hd hl hr hs =>
    have hb' : SetTable.below t.place (if es.size = 0 then 0 else t.place.getD (es.size - 1) 0 + 1) = es.size := below_at hr (by omega)
    dsimp only [rawInt]
    rw [Int.toNat_natCast, Int.toNat_natCast, Int.toNat_natCast]
    refine wpAny_bind (next_plain hb hd hl ha hf ?_)
    rw [hb', Array.getElem?_eq_none (Nat.le_refl _)]
    refine wpAny_bind (wpAny_setField hit rfl (by simp) (stop_x hh fun h' k => hQ h' fun b o hb e => k b o ?_))
    exact (Heap.get?_update_other _ _ (Ne.symm hb)).trans e
end
end Wd

section PartSetJ
set_option maxHeartbeats 1000000
namespace Wd
open PySem PySem.Spec PyProof.Rows
theorem Way.keep {w : World} {a : Addr} {es : Array (Int × Value)} {ep : Nat} {t : SetTable} {h h' : Heap} {first : Nat → Value} {vs : List Value} {more : List Addr} (W : Way w a es ep t h first vs more) (k : ∀ b ∈ more, ∀ o, h.get? b = some o → h'.get? b = some o) : Way w a es ep t h' first vs more := by
  cases W with
  | text hb => exact .text hb
  | drawn hb hp ht =>
    obtain ⟨n, ht⟩ := ht
    exact .drawn hb hp ⟨n, k _ (by simp) _ ht⟩
  | plain hb hd hl hr hs => exact .plain hb hd hl hr hs
theorem Way.perm {w : World} {a : Addr} {es : Array (Int × Value)} {ep : Nat} {t : SetTable} {h : Heap} {first : Nat → Value} {vs : List Value} {more : List Addr} (W : Way w a es ep t h first vs more) : vs.Perm (es.toList.map (·.2)) := by
  cases W with
  | text hb => exact (pick_perm _ es).map _
  | @drawn tp ps hb hp ht =>
    refine (hp.map _).trans ?_
    have e : (List.range es.size).map (fun i => (es.getD i (0, Value.none)).2) = es.toList.map (·.2) := by
      refine List.ext_getElem (by simp) fun i h1 h2 => ?_
      have hi : i < es.size := by simpa using h1
      simp [Array.getD, hi]
    rw [e]
  | plain hb hd hl hr hs => exact List.Perm.refl _
theorem ints_of {prog : Program} {w : World} {es : Array (Int × Value)} {σ : List Int} {vs : List Value} (hel : ElemsOf (intKind prog w) es.toList) (hmem : ∀ k, k ∈ σ ↔ ∃ e ∈ es.toList, (intKind prog w).is k e.2 = true) (hn : es.size = σ.length) (nd : σ.Nodup)
    (p : vs.Perm (es.toList.map (·.2))) : IntsAre vs (vs.map numOf) ∧ (vs.map numOf).Perm σ := by
  have isI : ∀ e ∈ es.toList, ∃ n t, e.2 = Value.int n t := fun e he => by
    obtain ⟨⟨k, hk, _⟩, _⟩ := hel e he
    obtain ⟨t, q⟩ := Value.isInt_shape (k := k) (v := e.2) hk
    exact ⟨k, t, q⟩
  refine ⟨intsAre_map vs fun v hv => ?_, (p.map numOf).trans ?_⟩
  · obtain ⟨e, he, rfl⟩ := List.mem_map.mp (p.mem_iff.mp hv)
    exact isI e he
  · refine (perm_of nd (fun x hx => ?_) (by simp [hn])).symm
    obtain ⟨e, he, hk⟩ := (hmem x).mp hx
    obtain ⟨t, q⟩ := Value.isInt_shape (k := x) (v := e.2) hk
    rw [List.map_map]
    refine List.mem_map.mpr ⟨e, he, ?_⟩
    show numOf e.2 = x
    rw [q]
    rfl
section
variable {prog : Program} {w : World} {A : Around} {E : Value → Shared → Prop} {s : Shared} {a : Addr} {σ : List Int}
theorem drawn_q {es : Array (Int × Value)} {ep : Nat} {t : SetTable} {Q : Bool → Shared → Prop} (ha : s.heap.get? a = some { cls := .type "set", dict := none, data := .set es ep t }) (hf : t.fits es.size = true)
    (h : Q (!w.params.followText "set-order" && (!t.plain && decide (es.size > 1))) s) : wpAny (model prog w) A (setDrawn a) Q E s := by
  unfold setDrawn setsByText
  exact wpAny_bind (wpAny_setState_of ha rfl hf (wpAny_bind (wpAny_bind (wpAny_askSetting (wpAny_pure (wpAny_pure h))))))
theorem iter_G {Q : Value → Shared → Prop} (hS : SetG prog w s.heap a (ledOf w) σ)
    (h : ∀ es ep t d h' it first vs more, s.heap.get? a = some { cls := .type "set", dict := none, data := .set es ep t } → t.fits es.size = true → es.size = σ.length → Way w a es ep t h' first vs more → h'.get? it = some (ItObj (first 0) 0 a es.size ep) →
      (∀ b o, s.heap.get? b = some o → h'.get? b = some o) → s.heap.objs.size ≤ it → it ∉ more → (∀ b ∈ more, s.heap.objs.size ≤ b) → IntsAre vs (vs.map numOf) → (vs.map numOf).Perm σ → Q (.ref it) { s with heap := h', drawn := d }) :
    wpAny (model prog w) A (pyIter (.ref a)) Q E s := by
  obtain ⟨es, ep, t, ha, hel, hmem, hn, nd, hb, hf, g⟩ := hS
  have hT : s.TypeIs (.ref a) "set" := ⟨_, ha, rfl⟩
  have sz : es.size ≤ sizeLine := by rw [hn]; exact fits_of_scanBound hb
  refine wpAny_pyIter_slot hT F.slot_set_iter (wpAny_call_entry F.slot_set_iter hT set_iter_entry ?_ (F.args_set_iter_1 _))
  unfold Builtin.«frozenset.__iter__» Builtin.Frozenset.slot0
  refine wpAny_bind (wpAny_bind (m := slotArgs _ _ _) (wpAny_pure (wpAny_pure ?_)))
  unfold Builtin.Frozenset.sizeOf
  refine wpAny_bind (wpAny_bind (wpAny_setEntries_of ha rfl hf (wpAny_pure (wpAny_bind (drawn_q ha hf ?_)))))
  have fits' : t.place.size = es.size := by
    simp only [SetTable.fits, Bool.and_eq_true, beq_iff_eq] at hf
    exact hf.1
  by_cases hd : (!w.params.followText "set-order" && (!t.plain && decide (es.size > 1))) = true
  · rw [hd]
    have hb0 : w.params.followText "set-order" = false := by simp at hd; exact hd.1
    refine wpAny_bind (wp_order es.size (List.range es.size) _ _ (by simp) fun ps d hp => ?_)
    have hl : ps.length = es.size := by have := hp.length_eq; simpa using this
    simp only [newTuple]
    refine wpAny_bind (wpAny_newObj_type ?_ (by show (List.map (fun (i : Nat) => rawInt i) ps).toArray.size ≤ sizeLine; simp; omega))
    have ha1 : (s.heap.push { cls := .type "tuple", data := .seq (ps.map fun (i : Nat) => rawInt i).toArray }).get? a = some { cls := .type "set", dict := none, data := .set es ep t } := Heap.get?_push_of_some _ ha
    refine wpAny_bind (m := setEpoch a) (wpAny_setEpoch_of ha1 rfl hf ?_)
    unfold newFields
    refine wpAny_bind (wpAny_newObj_type ?_ (by size_fits))
    have W : Way w a es ep t ((s.heap.push { cls := .type "tuple", data := .seq (ps.map fun (i : Nat) => rawInt i).toArray }).push (ItObj (.ref s.heap.objs.size) 0 a es.size ep)) (fun _ => .ref s.heap.objs.size) (ps.map fun i => (es.getD i (0, .none)).2) [s.heap.objs.size] :=
      .drawn hb0 hp ⟨0, Heap.get?_push_of_some _ (Heap.get?_push_size _ rfl)⟩
    obtain ⟨i1, i2⟩ := ints_of hel hmem hn nd W.perm
    have e2 : (s.heap.push { cls := .type "tuple", data := .seq (ps.map fun (i : Nat) => rawInt i).toArray }).objs.size = s.heap.objs.size + 1 := Heap.size_push _ _
    refine wpAny_pure ⟨_, rfl, "set_iterator", _, ⟨_, Heap.get?_push_size _ rfl, rfl⟩, it_next.lookup, ?_⟩
    refine h es ep t d _ _ _ _ _ ha hf hn W (Heap.get?_push_size _ rfl) (fun b o e => Heap.get?_push_of_some _ (Heap.get?_push_of_some _ e)) ?_ ?_ (fun b hb => ?_) i1 i2
    · rw [e2]; exact Nat.le_succ _
    · rw [e2]
      intro z
      exact absurd (List.mem_singleton.mp z) (Nat.succ_ne_self _)
    · rw [List.mem_singleton.mp hb]
      exact Nat.le_refl _
  · have hd' : (!w.params.followText "set-order" && (!t.plain && decide (es.size > 1))) = false := (Bool.not_eq_true _).mp hd
    rw [hd']
    refine wpAny_bind (wpAny_pure ?_)
    refine wpAny_bind (m := setEpoch a) (wpAny_setEpoch_of ha rfl hf ?_)
    unfold newFields
    refine wpAny_bind (wpAny_newObj_type ?_ (by size_fits))
    refine wpAny_pure ⟨_, rfl, "set_iterator", _, ⟨_, Heap.get?_push_size _ rfl, rfl⟩, it_next.lookup, ?_⟩
    cases hb0 : w.params.followText "set-order" with
    | true =>
      have W : Way w a es ep t (s.heap.push (ItObj (rawInt 0) 0 a es.size ep)) (fun _ => rawInt 0) ((pickOrder (w.params.setOrder a ep) es).toList.map (·.2)) [] := .text hb0
      obtain ⟨i1, i2⟩ := ints_of hel hmem hn nd W.perm
      exact h es ep t s.drawn _ _ _ _ _ ha hf hn W (Heap.get?_push_size _ rfl) (fun b o e => Heap.get?_push_of_some _ e) (Nat.le_refl _) (by simp) (by simp) i1 i2
    | false =>
      rw [hb0] at hd'
      have hd2 : (!t.plain && decide (es.size > 1)) = false := hd'
      have hr : Ris t.place := by
        cases hp : t.plain with
        | true => exact g.ris hp
        | false =>
          rw [hp] at hd2
          have : es.size ≤ 1 := by simpa using hd2
          show t.place.toList.Pairwise _
          have hl : t.place.toList.length ≤ 1 := by simp; omega
          match hq : t.place.toList, hl with
          | [], _ => exact .nil
          | [x], _ => exact List.pairwise_singleton _ _
          | _ :: _ :: _, hl => simp at hl
      have W : Way w a es ep t (s.heap.push (ItObj (rawInt 0) 0 a es.size ep)) (fun i => rawInt (if i = 0 then 0 else t.place.getD (i - 1) 0 + 1 : Nat)) (es.toList.map (·.2)) [] := .plain hb0 hd2 (by rw [g.led]; simp [ledOf, hb0]) hr fits'
      obtain ⟨i1, i2⟩ := ints_of hel hmem hn nd W.perm
      exact h es ep t s.drawn _ _ _ _ _ ha hf hn W (Heap.get?_push_size _ rfl) (fun b o e => Heap.get?_push_of_some _ e) (Nat.le_refl _) (by simp) (by simp) i1 i2
theorem self_it {it : Addr} {first : Value} {i n ep : Nat} {Q : Value → Shared → Prop} (hit : s.heap.get? it = some (ItObj first i a n ep)) (h : Q (.ref it) s) : wpAny (model prog w) A (pyIter (.ref it)) Q E s := by
  have hT : s.TypeIs (.ref it) "set_iterator" := ⟨_, hit, rfl⟩
  refine wpAny_pyIter_slot hT it_iter (wpAny_call_entry it_iter hT it_iter_entry ?_ (it_iter_args _))
  exact wpAny_pure ⟨_, rfl, "set_iterator", _, hT, it_next.lookup, h⟩
theorem walks_G (hh : A.handled = none) {it : Addr} {es : Array (Int × Value)} {ep : Nat} {t : SetTable} {first : Nat → Value} {vs : List Value} {more : List Addr} (hf : t.fits es.size = true) (hl : vs.length = es.size) (n1 : it ≠ a) (n2 : it ∉ more) :
    Walks prog w A it (it :: a :: more) [it] es.size (fun i v => vs[i]? = some v) (fun i h => h.get? it = some (ItObj (first i) i a es.size ep) ∧ h.get? a = some { cls := .type "set", dict := none, data := .set es ep t } ∧ Way w a es ep t h first vs more) where
  sub := fun b hb => by rw [List.mem_singleton.mp hb]; exact List.mem_cons_self
  frame := fun i h h' ⟨s1, s2, s3⟩ k => ⟨k it List.mem_cons_self _ s1, k a (List.mem_cons_of_mem _ List.mem_cons_self) _ s2, s3.keep fun b hb o e => k b (List.mem_cons_of_mem _ (List.mem_cons_of_mem _ hb)) o e⟩
  item := fun i s Q E hi ⟨s1, s2, s3⟩ hQ => by
    have hv : vs[i]? = some (vs[i]'(by omega)) := List.getElem?_eq_getElem _
    refine pynext_item s3 s1 s2 hf hv fun h' e sb => ?_
    have := hQ _ h' s.toks hv ⟨e, (sb.2 a (Ne.symm n1)).trans s2, s3.keep fun b hb o q => (sb.2 b (fun z => n2 (z ▸ hb))).trans q⟩ fun b o hb q => (sb.2 b (fun z => hb (by rw [z]; simp))).trans q
    exact this
  done := fun s Q E ⟨s1, s2, s3⟩ hQ => by
    refine pynext_done hh s3 s1 s2 hf fun h' k => ?_
    have := hQ h' s.toks fun b o hb q => k b o (fun z => hb (by rw [z]; simp)) q
    exact this
  self := fun i s Q E ⟨s1, s2, s3⟩ h => self_it s1 h
theorem set_hint {Q : Bool → Shared → Prop} (hT : s.TypeIs (.ref a) "set") (h : Q false s) : wpAny (model prog w) A (Builtin.List.listLengthHint (.ref a)) Q E s := by
  unfold Builtin.List.listLengthHint
  refine wpAny_bind (wpAny_specialOf hT F.slot_set_len.lookup ?_)
  generalize hid : ("set.__len__" : String) = id0
  wp_delta
  rw [show splitId id0 = some ("set", "__len__") from by subst hid; decide +kernel]
  subst hid
  refine wpAny_bind (wpAny_isInstance (T := "set") (b := true) hT sub_set_self ?_)
  refine wpAny_ite_split (fun hab => absurd hab (by decide)) (fun _ => wpAny_ite_split (fun _ => wpAny_bind (wpAny_typeOf hT (wpAny_pure h))) (fun hab => absurd (by decide +kernel) hab))
end
end Wd

end PartSetJ

section PartSetK
set_option maxHeartbeats 1000000
namespace Wd
open PySem PySem.Spec PyProof.Rows
section
variable {prog : Program} {w : World} {A : Around} {E : Value → Shared → Prop} {s : Shared} {a : Addr} {σ : List Int}
theorem extend_G {R : Result → Shared → Prop} {S : Addr} {c0 : Nat} (hh : A.handled = none) (hS : SetG prog w s.heap a (ledOf w) σ) (hL : s.heap.get? S = some { cls := .type "list", data := .seq #[] c0 })
    (hR : ∀ h' tk d acc c, (∀ b o, b ≠ S → s.heap.get? b = some o → h'.get? b = some o) → h'.get? S = some { cls := .type "list", dict := none, data := .seq acc c, slots := #[] } → (∃ ks, IntsAre acc.toList ks ∧ ks.Perm σ) → R (.ok (.ret (.ref S))) { s with heap := h', toks := tk, drawn := d }) :
    wpAny (model prog w) A.in1 (Builtin.List.listExtendWith (.ref S) (.ref a) (.ref S))
      (fun fin s' => match fin with | .done f => R (.ok f) s' | .again c' => c'.quiet = true ∧ codeAny (model prog w) A c' R s') (fun e s' => R (.error e) s') s := by
  obtain ⟨es0, ep0, t0, ha0, rest0⟩ := id hS
  have hT : s.TypeIs (.ref a) "set" := ⟨_, ha0, rfl⟩
  have nSa : S ≠ a := fun z => by rw [z, ha0] at hL; simp at hL
  unfold Builtin.List.listExtendWith
  refine wpAny_bind (wpAny_typeOf (T := "set") hT ?_)
  have h1 : Builtin.List.listSameRef (.ref S) (.ref a) = false := by simp [Builtin.List.listSameRef, nSa]
  have h2 : (Value.type "set" == Value.type "list") = false := by decide
  have h3 : (Value.type "set" == Value.type "tuple") = false := by decide
  simp only [h1, h2, h3, Bool.or_false, Bool.false_eq_true, if_false]
  refine wpAny_bind (iter_G hS fun es ep t d h' it first vs more ha hf hn W e0 hk g1 g2 g3 i1 i2 => ?_)
  have sz : es.size ≤ sizeLine := by
    obtain ⟨_, _, _, _, hb, _⟩ := rest0
    rw [hn]
    exact fits_of_scanBound hb
  have hl : vs.length = es.size := by have := i2.length_eq; rw [List.length_map] at this; omega
  have lt := Heap.lt_size ha
  have ltS := Heap.lt_size hL
  have nSf : S ∉ it :: a :: more := fun z => by
    rcases List.mem_cons.mp z with q | z
    · rw [q] at ltS; exact absurd (Nat.lt_of_lt_of_le ltS g1) (Nat.lt_irrefl _)
    rcases List.mem_cons.mp z with q | z
    · exact nSa q
    · exact absurd (Nat.lt_of_lt_of_le ltS (g3 _ z)) (Nat.lt_irrefl _)
  have n1 : it ≠ a := fun z => by rw [← z] at lt; exact absurd (Nat.lt_of_lt_of_le lt g1) (Nat.lt_irrefl _)
  have Wk := walks_G (prog := prog) (w := w) (A := A.in1) (a := a) (it := it) (es := es) (ep := ep) (t := t) (first := first) (vs := vs) (more := more) (by simpa using hh) hf hl n1 g2
  have hL1 := hk _ _ hL
  have st0 : h'.get? it = some (ItObj (first 0) 0 a es.size ep) ∧ h'.get? a = some { cls := .type "set", dict := none, data := .set es ep t } ∧ Way w a es ep t h' first vs more := ⟨e0, hk _ _ ha, W⟩
  have key : ∀ (h2 : Heap) (c1 tk : Nat), (h2.get? it = some (ItObj (first 0) 0 a es.size ep) ∧ h2.get? a = some { cls := .type "set", dict := none, data := .set es ep t } ∧ Way w a es ep t h2 first vs more) → (∀ b o, b ≠ S → s.heap.get? b = some o → h2.get? b = some o) →
      h2.get? S = some { cls := .type "list", data := .seq #[] c1 } → codeAny (model prog w) A (.builtin "list.extend.loop" ⟨[.ref S, .ref it, .ref S], []⟩) R { s with heap := h2, toks := tk, drawn := d } := by
    intro h2 c1 tk st k2 e2
    refine codeAny_extend_loopS Wk.toS sz S nSf (.ref S) es.size 0 _ #[] c1 rfl (Nat.zero_le _) st e2 (ItemsOf.nil _) fun s' acc c m e3 hacc => ?_
    obtain ⟨h3, g', d', tk', os'⟩ := s'
    obtain rfl : g' = s.gens := m.gens
    obtain rfl : d' = d := m.drawn
    obtain rfl : os' = s.os := m.os
    refine hR h3 tk' d' acc c (fun b o hb e => m.heap b o (fun z => ?_) (k2 b o hb e)) e3 ?_
    · rcases List.mem_cons.mp z with q | z
      · exact hb q
      · have lb := Heap.lt_size e
        rw [List.mem_singleton.mp z] at lb
        exact absurd (Nat.lt_of_lt_of_le lb g1) (Nat.lt_irrefl _)
    · have ev : acc.toList = vs := by
        refine List.ext_getElem? fun j => ?_
        by_cases hj : j < acc.size
        · have q : acc[j]? = some acc[j] := Array.getElem?_eq_getElem hj
          rw [Array.getElem?_toList, q, hacc.2 j _ q]
        · rw [List.getElem?_eq_none (by simp; omega), List.getElem?_eq_none (by rw [hl, ← hacc.1]; omega)]
      rw [ev]
      exact ⟨_, i1, i2⟩
  refine wpAny_bind (wpAny_holding (set_hint ⟨_, hk _ _ ha, rfl⟩ ?_))
  refine wpAny_ite_split (fun _ => ?_) (fun _ => wpAny_pure ⟨plainId_quiet PySem.F.plain_extend_loop _, key _ c0 _ st0 (fun b o _ e => hk b o e) hL1⟩)
  refine wpAny_bind (wpAny_rule (wpAny_bind ?_))
  show wpAny _ _ (updateSeq S (·.push .none) >>= fun _ => updateSeq S (·.pop)) _ _ _
  refine wpAny_bind (wpAny_updateSeq hL1 rfl ?_)
  have hL2 := Heap.get?_update_self (Obj.mapSeq (·.push Value.none)) hL1 rfl
  refine wpAny_updateSeq (hz := by seq_fits) hL2 rfl ?_
  have hL3 := Heap.get?_update_self (Obj.mapSeq (·.pop)) hL2 rfl
  have oth : ∀ b o, b ≠ S → h'.get? b = some o → ((h'.update S (Obj.mapSeq (·.push Value.none))).update S (Obj.mapSeq (·.pop))).get? b = some o := fun b o hb e => (Heap.get?_update_other _ _ (Ne.symm hb)).trans ((Heap.get?_update_other _ _ (Ne.symm hb)).trans e)
  refine wpAny_pure ⟨plainId_quiet PySem.F.plain_extend_loop _, key _ _ _ (Wk.frame 0 _ _ st0 fun b hb o e => oth b o (fun z => nSf (z ▸ hb)) e) (fun b o hb e => oth b o hb (hk b o e)) hL3⟩
theorem collect_G {R : List Value → Shared → Prop} (hh : A.handled = none) (hS : SetG prog w s.heap a (ledOf w) σ)
    (h : ∀ h' tk d acc ks, (∀ b o, s.heap.get? b = some o → h'.get? b = some o) → s.heap.objs.size < h'.objs.size → IntsAre acc ks → ks.Perm σ → R acc { s with heap := h', toks := tk, drawn := d }) : wpAny (model prog w) A (collect (.ref a)) R E s := by
  unfold collect
  refine wpAny_bind (wpAny_runValue (codeAny_builtin PySem.F.entry_proto_collect ?_))
  rw [Around.under_plainId PySem.F.plain_proto_collect _]
  show wpAny _ A.in1 (newList [] >>= fun l => again (.builtin "list.__iadd__" ⟨[l, .ref a], []⟩)) _ _ s
  refine wpAny_bind (wpAny_newObj_type (wpAny_pure ⟨plainId_quiet PySem.F.plain_list_iadd _, codeAny_builtin PySem.F.entry_list_iadd ?_⟩))
  rw [Around.under_plainId PySem.F.plain_list_iadd _]
  have e1 : (s.heap.push { cls := .type "list", data := .seq ([] : List Value).toArray }).get? s.heap.objs.size = some { cls := .type "list", data := .seq #[] } := Heap.get?_push_size _ rfl
  show wpAny _ A.in1 (Builtin.List.listExtendWith (.ref s.heap.objs.size) (.ref a) (.ref s.heap.objs.size)) _ _ _
  have key := extend_G (A := A) (s := { s with heap := s.heap.push { cls := .type "list", data := .seq ([] : List Value).toArray } }) (S := s.heap.objs.size) (R := fun q s' => ∃ h' tk d acc c, q = .ok (.ret (.ref s.heap.objs.size)) ∧ s' = { s with heap := h', toks := tk, drawn := d } ∧
      (∀ b o, s.heap.get? b = some o → h'.get? b = some o) ∧ h'.get? s.heap.objs.size = some { cls := .type "list", dict := none, data := .seq acc c, slots := #[] } ∧ ∃ ks, IntsAre acc.toList ks ∧ ks.Perm σ) hh (hS.keep fun o e => Heap.get?_push_of_some _ e) e1
    fun h' tk d acc c k e2 hx => ⟨h', tk, d, acc, c, rfl, rfl, fun b o e => k b o (Nat.ne_of_lt (Heap.lt_size e)) (Heap.get?_push_of_some _ e), e2, hx⟩
  refine wpAny_mono key (fun fin s' x => ?_) fun e s' x => ?_
  · cases fin with
    | done f =>
      obtain ⟨h', tk, d, acc, c, e, rfl, k, e2, ks, i1, i2⟩ := x
      cases e
      exact wpAny_bind (wpAny_load e2 (wpAny_pure (h h' tk d acc.toList ks k (Heap.lt_size e2) i1 i2)))
    | again c1 =>
      refine ⟨x.1, codeAny_mono x.2 fun q s2 y => ?_⟩
      obtain ⟨h', tk, d, acc, c, rfl, rfl, k, e2, ks, i1, i2⟩ := y
      exact wpAny_bind (wpAny_load e2 (wpAny_pure (h h' tk d acc.toList ks k (Heap.lt_size e2) i1 i2)))
  · obtain ⟨_, _, _, _, _, e', _⟩ := x
    cases e'
theorem sorted_G {Q : Value → Shared → Prop} (hh : A.handled = none) (hS : SetG prog w s.heap a (ledOf w) σ) (h64 : σ.length < 64)
    (h : ∀ D h' tk d out c ns, s.heap.objs.size ≤ D → (∀ b o, s.heap.get? b = some o → h'.get? b = some o) → h'.get? D = some { cls := .type "list", data := .seq out c } → IntsAre out.toList ns → ns.Perm σ → ns.Pairwise (· ≤ ·) → Q (.ref D) { s with heap := h', toks := tk, drawn := d }) :
    wpAny (model prog w) A (call (.builtin "sorted") [.ref a]) Q E s := by
  refine Calls.call_function_entry kind_sorted plain_sorted entry_sorted (args_sorted1 _) ?_
  unfold Builtin.«sorted»
  refine wpAny_bind (m := checkCount "sorted" 1 1 _) (wpAny_pure (wpAny_bind (collect_G (A := A.in1) (by simpa using hh) hS fun h' tk d acc ks k lt i1 i2 => ?_)))
  have len : acc.length < 64 := by rw [IntsAre.length i1, i2.length_eq]; exact h64
  refine wpAny_bind (wpAny_newList ?_ (by rw [sizeLine_eq]; omega))
  have e1 : (h'.push (seqObj "list" acc.toArray 0)).get? h'.objs.size = some (seqObj "list" acc.toArray 0) := Heap.get?_push_size _ rfl
  refine wpAny_bind (wpAny_holding (wpAny_call_entry slot_list_sort ⟨_, e1, rfl⟩ entry_list_sort (list_sort_tree e1 i1 len fun out ns a1 a2 a3 => ⟨_, rfl, ?_⟩) (args_list_sort _)))
  obtain ⟨c, e2⟩ := sortedHeap_at (out := out) e1
  refine wpAny_pure ⟨_, rfl, h h'.objs.size _ tk d out c ns (Nat.le_of_lt lt) (fun b o e => ?_) e2 a1 (a2.trans i2) a3⟩
  have lb := Heap.lt_size (k b o e)
  rw [sortedHeap_old (Nat.ne_of_lt lb) (by rw [size_push']; exact Nat.lt_succ_of_lt lb)]
  exact Heap.get?_push_of_some _ (k b o e)
end
end Wd

end PartSetK

namespace Wd
/-- the set of a list -/
def mk (l : List Nat) : Nat := l.foldl (fun s n => s ||| 2 ^ n) 0
/-- its length in bits -/
def len (n : Nat) : Nat := if n = 0 then 0 else n.log2 + 1
/-- the members -/
def mem (n : Nat) : List Nat := (List.range (len n)).filter n.testBit
/-- moved by steps within a count -/
def mv (n : Nat) (k : Int) (c : Nat) : Nat := (if 0 < k then n * 2 ^ k.toNat else n / 2 ^ (-k).toNat) % 2 ^ c
def stay (l : List Nat) (k : Int) (c : Nat) : List Nat := l.filter fun n => decide (0 ≤ (n : Int) + k) && decide ((n : Int) + k < c)
end Wd

namespace L2
open PySem PySem.Spec PyProof.Rows
def SetO (P : Program) (w : World) (a : Addr) (τ : List Int) : HO := .ext fun h => Wd.SetG P w h a (Wd.ledOf w) τ
theorem setO_ok {P : Program} {w : World} {H : Hp} {h : Heap} {a : Addr} {τ : List Int} (g : Wd.SetG P w h a (Wd.ledOf w) τ) : ObjOk P w H h a (SetO P w a τ) :=
  ⟨g, (let ⟨_, _, _, e, _⟩ := g; ⟨_, e⟩), fun _ _ g k => g.keep k⟩
theorem ints_vals : ∀ {ns : List Int} {us : List Value}, Vals (ns.map V.int) us → IntsAre us ns
  | [], _, r => by cases r; exact .nil
  | n :: ns, _, r => by
    cases r with
    | cons r t =>
      obtain ⟨tk, rfl⟩ := r
      exact .cons n tk (ints_vals t)
theorem vals_of_ints : ∀ {ns : List Int} {us : List Value}, IntsAre us ns → Vals (ns.map V.int) us
  | _, _, .nil => .nil
  | _, _, .cons n t r => .cons ⟨t, rfl⟩ (vals_of_ints r)
section
variable {X : Cx} {pins : List (Addr × Obj)} {σ : St} {H : Hp} {s : Shared} {h' : Heap} {a : Addr} {o : HO}
theorem Inv.laidD {t' : Nat} {d' : Drawn} (I : Inv X pins σ H s) (k : ∀ b u, s.heap.get? b = some u → h'.get? b = some u) (hp : s.heap.objs.size ≤ a) (new : ObjOk X.prog X.w (upd H a o) h' a o) :
    Inv X pins σ (upd H a o) { s with heap := h', drawn := d', toks := t' } :=
  I.call (g' := s.gens) (d' := d') (t' := t') (ch := []) (Un.laid k hp (I.hok.fresh hp)) (I.hok.laid k hp new) I.bare fun b z => absurd z (by simp)
theorem call_set (hc : X.calm = true) : CallR X (.type "set") (fun xs H Q => ∃ (l : Addr) (ns : List Int), xs = [V.ref l] ∧ SqL X.K H l (ns.map V.int) ∧ ns.length ≤ 1000 ∧ ∀ p, H p = none → Q (.ref p) (upd H p (SetO X.prog X.w p (ns.foldl Wd.addI [])))) := by
  intro pins s σ H xs us Q I r h
  obtain ⟨l, ns, rfl, hl, hz, q⟩ := h
  obtain ⟨u, rfl, ru⟩ := vals1 r
  cases ru
  obtain ⟨its, rv, pl, _⟩ := I.list hl
  have hn : H s.heap.objs.size = none := I.hok.fresh (Nat.le_refl _)
  refine Wd.set_G (I.ok.hd hc) pl.isList (by simpa using ints_vals rv) (by unfold scanBound; omega) fun h' tk g k => ?_
  exact ⟨.ref s.heap.objs.size, _, I.laid (t' := tk) k (Nat.le_refl _) (setO_ok g), rfl, q _ hn⟩
theorem call_sorted (hc : X.calm = true) : CallR X (.builtin "sorted") (fun xs H Q => ∃ (a : Addr) (τ : List Int), xs = [V.ref a] ∧ H a = some (SetO X.prog X.w a τ) ∧ τ.length < 64 ∧ ∀ (p : Addr) (ns : List Int), H p = none → ns.Perm τ → ns.Pairwise (· ≤ ·) → Q (.ref p) (upd H p (.lst (ns.map V.int)))) := by
  intro pins s σ H xs us Q I r h
  obtain ⟨a, τ, rfl, ha, hz, q⟩ := h
  obtain ⟨u, rfl, ru⟩ := vals1 r
  cases ru
  obtain ⟨g, _, _⟩ := (show ObjOk X.prog X.w H s.heap a (SetO X.prog X.w a τ) from I.hok a _ ha)
  refine Wd.sorted_G (I.ok.hd hc) g hz fun D h' tk d out c ns le k e i1 p o => ?_
  have hn : H D = none := I.hok.fresh le
  have hlen : (ns.map V.int).length ≤ sizeLine := by
    rw [List.length_map, p.length_eq, sizeLine_eq]
    omega
  exact ⟨.ref D, _, I.laidD (o := .lst (ns.map V.int)) (t' := tk) (d' := d) k le ⟨hlen, out.toList, c, vals_of_ints i1, e⟩, rfl, q D ns hn p o⟩
end
end L2

namespace Sm
open PySem PyProof.Rows
def gallop' : Bool → Keyed → Array Keyed → Nat → Nat → Nat → StateT SortSt Sem (Option Nat) := sortPriv% PySem.Builtin.gallop
def mergeLo' : Array Keyed → Array Keyed → StateT SortSt Sem (Array Keyed) := sortPriv% PySem.Builtin.mergeLo
def mergeHi' : Array Keyed → Array Keyed → StateT SortSt Sem (Array Keyed) := sortPriv% PySem.Builtin.mergeHi
def setG' : Nat → StateT SortSt Sem Unit := sortPriv% PySem.Builtin.setMinGallop
theorem elem_fold : (sortPriv% PySem.Builtin.elem) = elem' := rfl
theorem lt_fold : (sortPriv% PySem.Builtin.lt) = lt' := rfl
theorem gallop_fold : (sortPriv% PySem.Builtin.gallop) = gallop' := rfl
theorem setG_fold : (sortPriv% PySem.Builtin.setMinGallop) = setG' := rfl
theorem mergeLo_fold : (sortPriv% PySem.Builtin.mergeLo) = mergeLo' := rfl
theorem mergeHi_fold : (sortPriv% PySem.Builtin.mergeHi) = mergeHi' := rfl
-- `delta gallopOpen` opens the library's gallop, which is private there
local macro_rules | `(tactic| delta gallopOpen) => `(tactic| delta $(Lean.mkCIdent (Lean.mkPrivateNameCore `PySem.Builtin.List.W1All `PySem.Builtin.gallop)))
section
variable {prog : Program} {w : World} {A : Around} {E : Value → Shared → Prop} {s : Shared}
/-- the question of two items is answered by L, and nothing else is touched -/
def LtOk (prog : Program) (w : World) (A : Around) (E : Value → Shared → Prop) (s : Shared) (S : Keyed → Prop) (L : Keyed → Keyed → Bool) (κ : SortKind) : Prop :=
  ∀ (x y : Keyed) (st : SortSt) (Q : Option Bool → SortSt → Prop), S x → S y → kindOf st = κ → Q (some (L x y)) st → wpS (model prog w) A E s (lt' x y) Q st
theorem wpS_gallop {S : Keyed → Prop} {L : Keyed → Keyed → Bool} {κ : SortKind} {left : Bool} {key : Keyed} {arr : Array Keyed} {base n hint : Nat} {st : SortSt} {Q : Option Nat → SortSt → Prop} {b : Nat → Bool}
    (hL : LtOk prog w A E s S L κ) (hk : kindOf st = κ) (hh : hint < n) (hsz : base + n ≤ arr.size) (hS : ∀ (i : Nat) x, arr[i]? = some x → S x) (hkey : S key)
    (hb : ∀ i x, i < n → arr[base + i]? = some x → (if left then L x key else !L key x) = b i) (mono : ∀ i j, i ≤ j → j < n → b j = true → b i = true)
    (h : ∀ k, k ≤ n → (∀ i, i < k → b i = true) → (∀ i, k ≤ i → i < n → b i = false) → Q (some k) st) : wpS (model prog w) A E s (gallop' left key arr base n hint) Q st := by
  delta gallop'
  delta gallopOpen
  dsimp only [elem_fold, lt_fold]
  have bey : ∀ i, i < n → ∀ Q : Option Bool → SortSt → Prop, Q (some (b i)) st → wpS (model prog w) A E s (do
      let x ← elem' arr (base + i)
      if left then lt' x key else return (← lt' key x).map (!·)) Q st := by
    intro i hi Q q
    obtain ⟨x, hx⟩ : ∃ x, arr[base + i]? = some x := ⟨_, Array.getElem?_eq_getElem (by omega)⟩
    rw [elem'_eq, hx]
    refine wpS_bind (wpS_pure ?_)
    have e := hb i x hi hx
    cases left with
    | true =>
      rw [if_pos rfl] at e ⊢
      exact hL x key st Q (hS _ _ hx) hkey hk (by rw [e]; exact q)
    | false =>
      rw [if_neg Bool.false_ne_true] at e ⊢
      exact wpS_bind (hL key x st _ hkey (hS _ _ hx) hk (wpS_pure (by show Q (some (!L key x)) st; rw [e]; exact q)))
  refine wpS_bind (bey hint hh _ ?_)
  dsimp only
  have no : ∀ i j, i ≤ j → j < n → b i = false → b j = false := fun i j hij hj hf => by
    cases hbj : b j with
    | false => rfl
    | true => rw [mono i j hij hj hbj] at hf; cases hf
  cases hq : b hint with
  | true =>
    rw [if_pos rfl]
    refine wpS_bind (wpS_mono (wpS_forRange (I := fun i c st' => st' = st ∧ ∃ la o, c = (none, la, o) ∧ la < o ∧ hint + la < n ∧ b (hint + la) = true ∧ i < o)
      (Q := fun c st' => st' = st ∧ ∃ la o, c = (none, la, o) ∧ la < o ∧ hint + la < n ∧ b (hint + la) = true ∧ (n - hint ≤ o ∨ b (hint + o) = false)) ?st1 ?en1 ⟨rfl, 0, 1, rfl, by omega, by omega, hq, by omega⟩) ?po1)
    case en1 =>
      rintro c st' ⟨rfl, la, o, rfl, h1, h2, h3, h4⟩
      exact ⟨rfl, la, o, rfl, h1, h2, h3, .inl (by omega)⟩
    case st1 =>
      rintro i c st' _ hi ⟨rfl, la, o, rfl, h1, h2, h3, h4⟩
      dsimp only
      by_cases hge : o ≥ n - hint
      · rw [if_pos hge]
        exact wpS_pure ⟨rfl, la, o, rfl, h1, h2, h3, .inl hge⟩
      · rw [if_neg hge]
        refine wpS_bind (bey (hint + o) (by omega) _ ?_)
        cases hbo : b (hint + o) with
        | true => exact wpS_pure ⟨rfl, o, 2 * o + 1, rfl, by omega, by omega, hbo, by omega⟩
        | false => exact wpS_pure ⟨rfl, la, o, rfl, h1, h2, h3, .inr hbo⟩
    case po1 =>
      rintro c st' ⟨rfl, la, o, rfl, h1, h2, h3, h4⟩
      dsimp only
      have f1 : hint + la + 1 ≤ hint + min o (n - hint) := by omega
      have f2 : hint + min o (n - hint) ≤ n := by omega
      have f3 : ∀ i, i < hint + la + 1 → b i = true := fun i hi => mono i (hint + la) (by omega) h2 h3
      have f4 : ∀ i, hint + min o (n - hint) ≤ i → i < n → b i = false := fun i hi hin => by
        rcases h4 with h4 | h4
        · omega
        · by_cases ho : o ≤ n - hint
          · exact no (hint + o) i (by omega) hin h4
          · omega
      generalize hint + la + 1 = lo at f1 f3 ⊢
      generalize hint + min o (n - hint) = hi at f1 f2 f4 ⊢
      clear h1 h2 h3 h4
      refine wpS_bind (wpS_mono (wpS_forRange (I := fun i c st'' => st'' = st' ∧ ∃ lo hi, c = (none, lo, hi) ∧ lo ≤ hi ∧ hi ≤ n ∧ hi - lo + i ≤ n ∧ (∀ i, i < lo → b i = true) ∧ ∀ i, hi ≤ i → i < n → b i = false)
        (Q := fun c st'' => st'' = st' ∧ ∃ k, c = (none, k, k) ∧ k ≤ n ∧ (∀ i, i < k → b i = true) ∧ ∀ i, k ≤ i → i < n → b i = false) ?st2 ?en2 ⟨rfl, lo, hi, rfl, f1, f2, by omega, f3, f4⟩) ?po2)
      case en2 =>
        rintro c st'' ⟨rfl, lo, hi, rfl, g1, g2, g3, g4, g5⟩
        obtain rfl : lo = hi := by omega
        exact ⟨rfl, lo, rfl, g2, g4, g5⟩
      case st2 =>
        rintro i c st'' _ hin ⟨rfl, lo, hi, rfl, g1, g2, g3, g4, g5⟩
        dsimp only
        by_cases hge : lo ≥ hi
        · rw [if_pos hge]
          obtain rfl : lo = hi := by omega
          exact wpS_pure ⟨rfl, lo, rfl, g2, g4, g5⟩
        · rw [if_neg hge]
          refine wpS_bind (bey (lo + (hi - lo) / 2) (by omega) _ ?_)
          cases hbo : b (lo + (hi - lo) / 2) with
          | true => exact wpS_pure ⟨rfl, lo + (hi - lo) / 2 + 1, hi, rfl, by omega, g2, by omega, fun j hj => mono j _ (by omega) (by omega) hbo, g5⟩
          | false => exact wpS_pure ⟨rfl, lo, lo + (hi - lo) / 2, rfl, by omega, by omega, by omega, g4, fun j hj hjn => no _ j hj hjn hbo⟩
      case po2 =>
        rintro c st'' ⟨rfl, k, rfl, g2, g4, g5⟩
        exact wpS_pure (h k g2 g4 g5)
  | false =>
    rw [if_neg Bool.false_ne_true]
    refine wpS_bind (wpS_mono (wpS_forRange (I := fun i c st' => st' = st ∧ ∃ la o, c = (none, la, o) ∧ la < o ∧ la ≤ hint ∧ b (hint - la) = false ∧ i < o)
      (Q := fun c st' => st' = st ∧ ∃ la o, c = (none, la, o) ∧ la < o ∧ la ≤ hint ∧ b (hint - la) = false ∧ (hint + 1 ≤ o ∨ b (hint - o) = true)) ?st1 ?en1 ⟨rfl, 0, 1, rfl, by omega, by omega, hq, by omega⟩) ?po1)
    case en1 =>
      rintro c st' ⟨rfl, la, o, rfl, h1, h2, h3, h4⟩
      exact ⟨rfl, la, o, rfl, h1, h2, h3, .inl (by omega)⟩
    case st1 =>
      rintro i c st' _ hi ⟨rfl, la, o, rfl, h1, h2, h3, h4⟩
      dsimp only
      by_cases hge : o ≥ hint + 1
      · rw [if_pos hge]
        exact wpS_pure ⟨rfl, la, o, rfl, h1, h2, h3, .inl hge⟩
      · rw [if_neg hge]
        refine wpS_bind (bey (hint - o) (by omega) _ ?_)
        cases hbo : b (hint - o) with
        | true => exact wpS_pure ⟨rfl, la, o, rfl, h1, h2, h3, .inr hbo⟩
        | false => exact wpS_pure ⟨rfl, o, 2 * o + 1, rfl, by omega, by omega, hbo, by omega⟩
    case po1 =>
      rintro c st' ⟨rfl, la, o, rfl, h1, h2, h3, h4⟩
      dsimp only
      have f1 : hint + 1 - min o (hint + 1) ≤ hint - la := by omega
      have f2 : hint - la ≤ n := by omega
      have f3 : ∀ i, i < hint + 1 - min o (hint + 1) → b i = true := fun i hi => by
        rcases h4 with h4 | h4
        · omega
        · by_cases ho : o ≤ hint
          · exact mono i (hint - o) (by omega) (by omega) h4
          · omega
      have f4 : ∀ i, hint - la ≤ i → i < n → b i = false := fun i hi hin => no (hint - la) i hi hin h3
      generalize hint + 1 - min o (hint + 1) = lo at f1 f3 ⊢
      generalize hint - la = hi at f1 f2 f4 ⊢
      clear h1 h2 h4
      refine wpS_bind (wpS_mono (wpS_forRange (I := fun i c st'' => st'' = st' ∧ ∃ lo hi, c = (none, lo, hi) ∧ lo ≤ hi ∧ hi ≤ n ∧ hi - lo + i ≤ n ∧ (∀ i, i < lo → b i = true) ∧ ∀ i, hi ≤ i → i < n → b i = false)
        (Q := fun c st'' => st'' = st' ∧ ∃ k, c = (none, k, k) ∧ k ≤ n ∧ (∀ i, i < k → b i = true) ∧ ∀ i, k ≤ i → i < n → b i = false) ?st2 ?en2 ⟨rfl, lo, hi, rfl, f1, f2, by omega, f3, f4⟩) ?po2)
      case en2 =>
        rintro c st'' ⟨rfl, lo, hi, rfl, g1, g2, g3, g4, g5⟩
        obtain rfl : lo = hi := by omega
        exact ⟨rfl, lo, rfl, g2, g4, g5⟩
      case st2 =>
        rintro i c st'' _ hin ⟨rfl, lo, hi, rfl, g1, g2, g3, g4, g5⟩
        dsimp only
        by_cases hge : lo ≥ hi
        · rw [if_pos hge]
          obtain rfl : lo = hi := by omega
          exact wpS_pure ⟨rfl, lo, rfl, g2, g4, g5⟩
        · rw [if_neg hge]
          refine wpS_bind (bey (lo + (hi - lo) / 2) (by omega) _ ?_)
          cases hbo : b (lo + (hi - lo) / 2) with
          | true => exact wpS_pure ⟨rfl, lo + (hi - lo) / 2 + 1, hi, rfl, by omega, g2, by omega, fun j hj => mono j _ (by omega) (by omega) hbo, g5⟩
          | false => exact wpS_pure ⟨rfl, lo, lo + (hi - lo) / 2, rfl, by omega, by omega, by omega, g4, fun j hj hjn => no _ j hj hjn hbo⟩
      case po2 =>
        rintro c st'' ⟨rfl, k, rfl, g2, g4, g5⟩
        exact wpS_pure (h k g2 g4 g5)
end
section
variable {α : Type} {L : α → α → Bool} {A B : List α}
structure Swo (L : α → α → Bool) : Prop where
  asym : ∀ x y, L x y = true → L y x = false
  co : ∀ x y z, L x z = true → L x y = true ∨ L y z = true
def Risen (L : α → α → Bool) (l : List α) : Prop := l.Pairwise fun x y => L y x = false
structure Jm (L : α → α → Bool) (A B out : List α) (ia ib : Nat) : Prop where
  la : ia ≤ A.length
  lb : ib ≤ B.length
  pm : out.Perm (A.take ia ++ B.take ib)
  rs : Risen L out
  lo : ∀ x ∈ out, ∀ y, y ∈ A.drop ia ∨ y ∈ B.drop ib → L y x = false
def Good (L : α → α → Bool) (A B r : List α) : Prop := r.Perm (A ++ B) ∧ Risen L r
theorem Risen.snoc {l : List α} {x : α} (h : Risen L l) (hx : ∀ y ∈ l, L x y = false) : Risen L (l ++ [x]) :=
  List.pairwise_append.mpr ⟨h, List.pairwise_singleton .., fun a ha b hb => by rw [List.mem_singleton] at hb; rw [hb]; exact hx a ha⟩
theorem drop_at {l : List α} {i : Nat} {x : α} (h : l[i]? = some x) : l.drop i = x :: l.drop (i + 1) := by
  obtain ⟨hi, e⟩ := List.getElem?_eq_some_iff.mp h
  rw [List.drop_eq_getElem_cons hi, e]
theorem take_at {l : List α} {i : Nat} {x : α} (h : l[i]? = some x) : l.take (i + 1) = l.take i ++ [x] := by
  obtain ⟨hi, e⟩ := List.getElem?_eq_some_iff.mp h
  rw [List.take_succ_eq_append_getElem hi, e]
theorem Risen.tail {l : List α} {i : Nat} {x y : α} (hl : Risen L l) (h : l[i]? = some x) (hy : y ∈ l.drop (i + 1)) : L y x = false := by
  have h1 : Risen L (l.drop i) := hl.sublist (List.drop_sublist ..)
  rw [drop_at h] at h1
  exact (List.pairwise_cons.mp h1).1 y hy
theorem Jm.pushA {out : List α} {ia ib : Nat} {x : α} (J : Jm L A B out ia ib) (rA : Risen L A) (hx : A[ia]? = some x) (hl : ∀ y ∈ B.drop ib, L y x = false) : Jm L A B (out ++ [x]) (ia + 1) ib := by
  have hi := (List.getElem?_eq_some_iff.mp hx).1
  refine ⟨hi, J.lb, ?_, J.rs.snoc fun y hy => J.lo y hy x (.inl (by rw [drop_at hx]; exact List.mem_cons_self ..)), fun z hz y hy => ?_⟩
  · rw [take_at hx, List.append_assoc]
    exact (J.pm.append_right [x]).trans (by
      rw [List.append_assoc]
      exact List.Perm.append_left _ List.perm_append_comm)
  · rcases List.mem_append.mp hz with hz | hz
    · exact J.lo z hz y (hy.imp (fun h => by rw [drop_at hx]; exact List.mem_cons_of_mem _ h) id)
    · rw [List.mem_singleton] at hz
      subst hz
      rcases hy with hy | hy
      · exact rA.tail hx hy
      · exact hl y hy
theorem Jm.pushB {out : List α} {ia ib : Nat} {x : α} (J : Jm L A B out ia ib) (rB : Risen L B) (hx : B[ib]? = some x) (hl : ∀ y ∈ A.drop ia, L y x = false) : Jm L A B (out ++ [x]) ia (ib + 1) := by
  have hi := (List.getElem?_eq_some_iff.mp hx).1
  refine ⟨J.la, hi, ?_, J.rs.snoc fun y hy => J.lo y hy x (.inr (by rw [drop_at hx]; exact List.mem_cons_self ..)), fun z hz y hy => ?_⟩
  · rw [take_at hx, ← List.append_assoc]
    exact J.pm.append_right [x]
  · rcases List.mem_append.mp hz with hz | hz
    · exact J.lo z hz y (hy.imp id (fun h => by rw [drop_at hx]; exact List.mem_cons_of_mem _ h))
    · rw [List.mem_singleton] at hz
      subst hz
      rcases hy with hy | hy
      · exact hl y hy
      · exact rB.tail hx hy
theorem Jm.runA {out : List α} {ib : Nat} (rA : Risen L A) : ∀ (k ia : Nat) (out : List α), Jm L A B out ia ib → ia + k ≤ A.length → (∀ i x, ia ≤ i → i < ia + k → A[i]? = some x → ∀ y ∈ B.drop ib, L y x = false) → Jm L A B (out ++ (A.drop ia).take k) (ia + k) ib
  | 0, ia, out, J, _, _ => by rw [List.take_zero, List.append_nil]; exact J
  | k + 1, ia, out, J, hk, hl => by
    have hx : A[ia]? = some A[ia] := List.getElem?_eq_getElem (by omega)
    have J1 := J.pushA rA hx (hl ia _ (Nat.le_refl _) (by omega) hx)
    have := Jm.runA (out := out) rA k (ia + 1) _ J1 (by omega) fun i x h1 h2 => hl i x (by omega) (by omega)
    rw [drop_at hx, List.take_succ_cons, show out ++ A[ia] :: (A.drop (ia + 1)).take k = (out ++ [A[ia]]) ++ (A.drop (ia + 1)).take k by simp, show ia + (k + 1) = ia + 1 + k by omega]
    exact this
theorem Jm.runB {out : List α} {ia : Nat} (rB : Risen L B) : ∀ (k ib : Nat) (out : List α), Jm L A B out ia ib → ib + k ≤ B.length → (∀ i x, ib ≤ i → i < ib + k → B[i]? = some x → ∀ y ∈ A.drop ia, L y x = false) → Jm L A B (out ++ (B.drop ib).take k) ia (ib + k)
  | 0, ib, out, J, _, _ => by rw [List.take_zero, List.append_nil]; exact J
  | k + 1, ib, out, J, hk, hl => by
    have hx : B[ib]? = some B[ib] := List.getElem?_eq_getElem (by omega)
    have J1 := J.pushB rB hx (hl ib _ (Nat.le_refl _) (by omega) hx)
    have := Jm.runB (out := out) rB k (ib + 1) _ J1 (by omega) fun i x h1 h2 => hl i x (by omega) (by omega)
    rw [drop_at hx, List.take_succ_cons, show out ++ B[ib] :: (B.drop (ib + 1)).take k = (out ++ [B[ib]]) ++ (B.drop (ib + 1)).take k by simp, show ib + (k + 1) = ib + 1 + k by omega]
    exact this
theorem Jm.fin {out : List α} {ia ib : Nat} (J : Jm L A B out ia ib) (rA : Risen L A) (rB : Risen L B) (h : ia = A.length ∨ ib = B.length) : Good L A B (out ++ A.drop ia ++ B.drop ib) := by
  constructor
  · have e : (A ++ B).Perm ((A.take ia ++ B.take ib) ++ (A.drop ia ++ B.drop ib)) := by
      have e1 : A ++ B = (A.take ia ++ A.drop ia) ++ (B.take ib ++ B.drop ib) := by rw [List.take_append_drop, List.take_append_drop]
      rw [e1, List.append_assoc, List.append_assoc]
      refine List.Perm.append_left _ ?_
      rw [← List.append_assoc, ← List.append_assoc]
      exact List.Perm.append_right _ List.perm_append_comm
    rw [List.append_assoc]
    exact (List.Perm.append_right _ J.pm).trans e.symm
  · rw [List.append_assoc]
    refine List.pairwise_append.mpr ⟨J.rs, ?_, fun x hx y hy => J.lo x hx y (List.mem_append.mp hy)⟩
    rcases h with h | h
    · rw [h, List.drop_length, List.nil_append]
      exact rB.sublist (List.drop_sublist ..)
    · rw [h, List.drop_length, List.append_nil]
      exact rA.sublist (List.drop_sublist ..)
theorem Jm.lastA {out : List α} {ia ib : Nat} {x : α} (J : Jm L A B out ia ib) (rB : Risen L B) (hi : ia + 1 = A.length) (hx : A[ia]? = some x) (hl : ∀ y ∈ B, L x y = false) : Good L A B (out ++ B.drop ib ++ A.drop ia) := by
  have ed : A.drop ia = [x] := by rw [drop_at hx, hi, List.drop_length]
  constructor
  · have e : (A ++ B).Perm ((A.take ia ++ B.take ib) ++ (B.drop ib ++ A.drop ia)) := by
      have e1 : A ++ B = (A.take ia ++ A.drop ia) ++ (B.take ib ++ B.drop ib) := by rw [List.take_append_drop, List.take_append_drop]
      rw [e1, List.append_assoc, List.append_assoc]
      refine List.Perm.append_left _ ?_
      rw [← List.append_assoc (B.take ib)]
      exact List.perm_append_comm
    rw [List.append_assoc]
    exact (List.Perm.append_right _ J.pm).trans e.symm
  · rw [List.append_assoc]
    refine List.pairwise_append.mpr ⟨J.rs, ?_, fun z hz y hy => J.lo z hz y (List.mem_append.mp hy).symm⟩
    rw [ed]
    exact Risen.snoc (rB.sublist (List.drop_sublist ..)) fun y hy => hl y (List.mem_of_mem_drop hy)
end
section
variable {α : Type} {L : α → α → Bool} {A B : List α}
theorem Swo.lowB (hw : Swo L) (rA : Risen L A) {ia : Nat} {x z : α} (hx : A[ia]? = some x) (h : L z x = true) : ∀ y ∈ A.drop ia, L y z = false := fun y hy => by
  rw [drop_at hx] at hy
  rcases List.mem_cons.mp hy with rfl | hy
  · exact hw.asym _ _ h
  · rcases hw.co z y x h with h1 | h1
    · exact hw.asym _ _ h1
    · rw [rA.tail hx hy] at h1; cases h1
theorem Swo.lowA (hw : Swo L) (rB : Risen L B) {ib : Nat} {x z : α} (hz : B[ib]? = some z) (h : L z x = false) : ∀ y ∈ B.drop ib, L y x = false := fun y hy => by
  rw [drop_at hz] at hy
  rcases List.mem_cons.mp hy with rfl | hy
  · exact h
  · cases e : L y x with
    | false => rfl
    | true =>
      rcases hw.co y z x e with h1 | h1
      · rw [rB.tail hz hy] at h1; cases h1
      · rw [h] at h1; cases h1
theorem Risen.at {l : List α} (hl : Risen L l) {i j : Nat} {x y : α} (hij : i < j) (hx : l[i]? = some x) (hy : l[j]? = some y) : L y x = false := by
  refine hl.tail hx ?_
  refine List.mem_of_getElem? (i := j - (i + 1)) ?_
  rw [List.getElem?_drop, show i + 1 + (j - (i + 1)) = j by omega]
  exact hy
end
theorem ext_all {a : Array Keyed} {i : Nat} : (a.extract i a.size).toList = a.toList.drop i := by
  rw [Array.toList_extract, List.extract_eq_take_drop, List.take_of_length_le (by rw [List.length_drop, Array.length_toList]; exact Nat.le_refl _)]
theorem ext_run {a : Array Keyed} {i k : Nat} : (a.extract i (i + k)).toList = (a.toList.drop i).take k := by
  rw [Array.toList_extract, List.extract_eq_take_drop, show i + k - i = k by omega]
abbrev setGal (st : SortSt) (g : Nat) : SortSt := SortSt.mk' (kindOf st) (arrOf st) (pendingOf st) g (failedOf st)
theorem setG'_eq (g : Nat) : setG' g = modify (fun st => setGal st g) := rfl
end Sm

section PartSortM2
set_option maxHeartbeats 800000
namespace Sm
open PySem PyProof.Rows
local macro_rules | `(tactic| delta mergeLoOpen) => `(tactic| delta $(Lean.mkCIdent (Lean.mkPrivateNameCore `PySem.Builtin.List.W1All `PySem.Builtin.mergeLo)))
section
variable {prog : Program} {w : World} {A : Around} {E : Value → Shared → Prop} {s : Shared}
theorem wpS_mergeLo {S : Keyed → Prop} {L : Keyed → Keyed → Bool} {κ : SortKind} {a b : Array Keyed} {st : SortSt} {Q : Array Keyed → SortSt → Prop}
    (hw : Swo L) (hL : LtOk prog w A E s S L κ) (hk : kindOf st = κ) (ha : 1 ≤ a.size) (hb : 1 ≤ b.size) (hSa : ∀ x ∈ a.toList, S x) (hSb : ∀ x ∈ b.toList, S x) (rA : Risen L a.toList) (rB : Risen L b.toList)
    (h0 : ∀ x ∈ a.toList, ∀ y, b[0]? = some y → L x y = false) (h9 : ∀ x, a[a.size - 1]? = some x → ∀ y ∈ b.toList, L x y = false)
    (h : ∀ r g, Good L a.toList b.toList r.toList → Q r (setGal st g)) : wpS (model prog w) A E s (mergeLo' a b) Q st := by
  delta mergeLo'
  delta mergeLoOpen
  dsimp only [elem_fold, lt_fold, gallop_fold, setG_fold]
  refine wpS_bind (wpS_lift (wpAny_rule ⟨rfl, ?_⟩))
  obtain ⟨b0, hb0⟩ : ∃ x, b[0]? = some x := ⟨_, Array.getElem?_eq_getElem (by omega)⟩
  rw [elem'_eq, hb0]
  refine wpS_bind (wpS_pure ?_)
  have eA : ∀ i x, a[i]? = some x → a.toList[i]? = some x := fun i x e => by rw [Array.getElem?_toList]; exact e
  have eB : ∀ i x, b[i]? = some x → b.toList[i]? = some x := fun i x e => by rw [Array.getElem?_toList]; exact e
  have mA : ∀ i x, a[i]? = some x → S x := fun i x e => hSa x (List.mem_of_getElem? (eA i x e))
  have mB : ∀ i x, b[i]? = some x → S x := fun i x e => hSb x (List.mem_of_getElem? (eB i x e))
  have dn : ∀ (out : Array Keyed) ia ib, Jm L a.toList b.toList out.toList ia ib → (ia = a.size ∨ ib = b.size) → Good L a.toList b.toList (out ++ a.extract ia a.size ++ b.extract ib b.size).toList := fun out ia ib J e => by
    rw [Array.toList_append, Array.toList_append, ext_all, ext_all]
    exact J.fin rA rB (by rw [Array.length_toList, Array.length_toList]; exact e)
  have ls : ∀ (out : Array Keyed) ia ib, Jm L a.toList b.toList out.toList ia ib → ia + 1 = a.size → Good L a.toList b.toList (out ++ b.extract ib b.size ++ a.extract ia a.size).toList := fun out ia ib J e => by
    obtain ⟨x, hx⟩ : ∃ x, a[ia]? = some x := ⟨_, Array.getElem?_eq_getElem (by omega)⟩
    rw [Array.toList_append, Array.toList_append, ext_all, ext_all]
    exact J.lastA rB (by rw [Array.length_toList]; exact e) (eA _ _ hx) (h9 x (by rw [show a.size - 1 = ia by omega]; exact hx))
  have pA : ∀ (out : Array Keyed) ia ib xa xb, Jm L a.toList b.toList out.toList ia ib → a[ia]? = some xa → b[ib]? = some xb → L xb xa = false → Jm L a.toList b.toList (out.push xa).toList (ia + 1) ib := fun out ia ib xa xb J ha hb hl => by
    rw [Array.toList_push]
    exact J.pushA rA (eA _ _ ha) (hw.lowA rB (eB _ _ hb) hl)
  have pB : ∀ (out : Array Keyed) ia ib xa xb, Jm L a.toList b.toList out.toList ia ib → a[ia]? = some xa → b[ib]? = some xb → L xb xa = true → Jm L a.toList b.toList (out.push xb).toList ia (ib + 1) := fun out ia ib xa xb J ha hb hl => by
    rw [Array.toList_push]
    exact J.pushB rB (eB _ _ hb) (hw.lowB rA (eA _ _ ha) hl)
  have J0 : Jm L a.toList b.toList (#[b0] : Array Keyed).toList 0 1 := by
    have : Jm L a.toList b.toList [] 0 0 := ⟨Nat.zero_le _, Nat.zero_le _, .refl _, .nil, fun x hx => absurd hx List.not_mem_nil⟩
    exact this.pushB rB (eB _ _ hb0) fun y hy => h0 y hy b0 hb0
  by_cases hb1 : (1 == b.size) = true
  · rw [if_pos hb1]
    exact wpS_pure (h _ (gallopOf st) (dn _ _ _ J0 (.inr (beq_iff_eq.mp hb1))))
  rw [if_neg hb1]
  by_cases ha1 : (0 + 1 == a.size) = true
  · rw [if_pos ha1]
    exact wpS_pure (h _ (gallopOf st) (ls _ _ _ J0 (beq_iff_eq.mp ha1)))
  rw [if_neg ha1]
  rw [beq_iff_eq] at hb1 ha1
  refine wpS_bind (wpS_get (wpS_bind ?_))
  refine wpS_mono (wpS_forRange (I := fun i c st' => (∃ g, st' = setGal st g) ∧ ∃ out ia ib mg, c = (none, out, ia, ib, mg) ∧ Jm L a.toList b.toList out.toList ia ib ∧ ia + 1 < a.size ∧ ib < b.size ∧ i ≤ ia + ib)
    (Q := fun c st' => (∃ g, st' = setGal st g) ∧ ∃ r x, c = (some r, x) ∧ Good L a.toList b.toList r.toList) ?st ?en ⟨⟨_, rfl⟩, _, _, _, _, rfl, J0, by omega, by omega, by omega⟩) ?po
  case po =>
    rintro c st' ⟨⟨g, rfl⟩, r, x, rfl, hG⟩
    exact wpS_pure (h r g hG)
  case en =>
    rintro c st' ⟨_, out, ia, ib, mg, rfl, _, h1, h2, h3⟩
    omega
  case st =>
    rintro i c st' _ hi ⟨⟨g, rfl⟩, out, ia, ib, mg, rfl, J, hia, hib, hin⟩
    dsimp only
    refine wpS_bind (wpS_mono (wpS_forRange (I := fun j c st' => (∃ g, st' = setGal st g) ∧ ∃ out ia' ib' ac bc, c = (none, out, ia', ib', ac, bc) ∧ Jm L a.toList b.toList out.toList ia' ib' ∧ ia' + 1 < a.size ∧ ib' < b.size ∧ ia + ib + j ≤ ia' + ib')
      (Q := fun c st' => (∃ g, st' = setGal st g) ∧ ((∃ out ia' ib' ac bc, c = (none, out, ia', ib', ac, bc) ∧ Jm L a.toList b.toList out.toList ia' ib' ∧ ia' + 1 < a.size ∧ ib' < b.size ∧ ia + ib + 1 ≤ ia' + ib') ∨ ∃ r x, c = (some r, x) ∧ Good L a.toList b.toList r.toList)) ?st1 ?en1 ⟨⟨_, rfl⟩, _, _, _, _, _, rfl, J, hia, hib, Nat.le_refl _⟩) ?po1)
    case en1 =>
      rintro c st' ⟨hg, out, ia', ib', ac, bc, rfl, J, h1, h2, h3⟩
      exact ⟨hg, .inl ⟨_, _, _, _, _, rfl, J, h1, h2, by omega⟩⟩
    case st1 =>
      rintro j c st' _ hj ⟨hg, out, ia', ib', ac, bc, rfl, J, h1, h2, h3⟩
      obtain ⟨xa, hxa⟩ : ∃ x, a[ia']? = some x := ⟨_, Array.getElem?_eq_getElem (by omega)⟩
      obtain ⟨xb, hxb⟩ : ∃ x, b[ib']? = some x := ⟨_, Array.getElem?_eq_getElem h2⟩
      dsimp only
      rw [elem'_eq, hxb, elem'_eq, hxa]
      refine wpS_bind (wpS_pure (wpS_bind (wpS_pure (wpS_bind (hL xb xa st' _ (mB _ _ hxb) (mA _ _ hxa) (by obtain ⟨g, rfl⟩ := hg; exact hk) ?_)))))
      dsimp only
      cases hl : L xb xa with
      | true =>
        rw [if_pos rfl]
        refine wpS_bind (wpS_pure ?_)
        have J1 := pB out ia' ib' xa xb J hxa hxb hl
        by_cases e1 : (ib' + 1 == b.size) = true
        · rw [if_pos e1]
          exact wpS_pure ⟨hg, .inr ⟨_, _, rfl, dn _ _ _ J1 (.inr (beq_iff_eq.mp e1))⟩⟩
        · rw [if_neg e1]
          rw [beq_iff_eq] at e1
          by_cases e2 : bc + 1 ≥ mg
          · rw [if_pos e2]
            exact wpS_pure ⟨hg, .inl ⟨_, _, _, _, _, rfl, J1, h1, by omega, by omega⟩⟩
          · rw [if_neg e2]
            exact wpS_pure ⟨hg, _, _, _, _, _, rfl, J1, h1, by omega, by omega⟩
      | false =>
        rw [if_neg Bool.false_ne_true]
        refine wpS_bind (wpS_pure ?_)
        have J1 := pA out ia' ib' xa xb J hxa hxb hl
        by_cases e1 : (ia' + 1 + 1 == a.size) = true
        · rw [if_pos e1]
          exact wpS_pure ⟨hg, .inr ⟨_, _, rfl, ls _ _ _ J1 (beq_iff_eq.mp e1)⟩⟩
        · rw [if_neg e1]
          rw [beq_iff_eq] at e1
          by_cases e2 : ac + 1 ≥ mg
          · rw [if_pos e2]
            exact wpS_pure ⟨hg, .inl ⟨_, _, _, _, _, rfl, J1, by omega, h2, by omega⟩⟩
          · rw [if_neg e2]
            exact wpS_pure ⟨hg, _, _, _, _, _, rfl, J1, by omega, h2, by omega⟩
    case po1 =>
      rintro c st' ⟨hg, h⟩
      rcases h with ⟨out, ia', ib', ac, bc, rfl, J, h1, h2, h3⟩ | ⟨r, x, rfl, hG⟩
      · dsimp only
        refine wpS_bind (wpS_lift (wpAny_rule ⟨rfl, ?_⟩))
        refine wpS_bind (wpS_mono (wpS_forRange (I := fun j c st' => (∃ g, st' = setGal st g) ∧ ∃ out ia2 ib2 mg ac bc, c = (none, out, ia2, ib2, mg, ac, bc) ∧ Jm L a.toList b.toList out.toList ia2 ib2 ∧ ia2 + 1 < a.size ∧ ib2 < b.size ∧ ia' + ib' + j ≤ ia2 + ib2)
          (Q := fun c st' => (∃ g, st' = setGal st g) ∧ ((∃ out ia2 ib2 mg ac bc, c = (none, out, ia2, ib2, mg, ac, bc) ∧ Jm L a.toList b.toList out.toList ia2 ib2 ∧ ia2 + 1 < a.size ∧ ib2 < b.size ∧ ia' + ib' ≤ ia2 + ib2) ∨ ∃ r x, c = (some r, x) ∧ Good L a.toList b.toList r.toList)) ?st2 ?en2 ⟨hg, _, _, _, _, _, _, rfl, J, h1, h2, Nat.le_refl _⟩) ?po2)
        case en2 =>
          rintro c st' ⟨hg, out, ia2, ib2, mg, ac, bc, rfl, J, g1, g2, g3⟩
          exact ⟨hg, .inl ⟨_, _, _, _, _, _, rfl, J, g1, g2, by omega⟩⟩
        case po2 =>
          rintro c st' ⟨hg, h⟩
          rcases h with ⟨out, ia2, ib2, mg, ac, bc, rfl, J, g1, g2, g3⟩ | ⟨r, x, rfl, hG⟩
          · dsimp only
            rw [setG'_eq]
            refine wpS_bind (wpS_modify (wpS_pure ⟨?_, _, _, _, _, rfl, J, g1, g2, by omega⟩))
            obtain ⟨g, rfl⟩ := hg
            exact ⟨_, rfl⟩
          · exact wpS_pure ⟨hg, r, _, rfl, hG⟩
        case st2 =>
          clear hg h1 h2 h3 J
          rintro j c st' _ hj ⟨⟨g, rfl⟩, out, ia2, ib2, mg, ac, bc, rfl, J, g1, g2, g3⟩
          obtain ⟨xb, hxb⟩ : ∃ x, b[ib2]? = some x := ⟨_, Array.getElem?_eq_getElem g2⟩
          dsimp only
          have mo1 : ∀ i j, i ≤ j → j < a.size - ia2 → (match a[ia2 + j]? with | some x => !L xb x | none => false) = true → (match a[ia2 + i]? with | some x => !L xb x | none => false) = true := fun i j hij hj h => by
            obtain ⟨xi, hxi⟩ : ∃ x, a[ia2 + i]? = some x := ⟨_, Array.getElem?_eq_getElem (by omega)⟩
            obtain ⟨xj, hxj⟩ : ∃ x, a[ia2 + j]? = some x := ⟨_, Array.getElem?_eq_getElem (by omega)⟩
            rw [hxj] at h
            rw [hxi]
            dsimp only at h ⊢
            rcases Nat.lt_or_ge i j with hlt | hge
            · cases e : L xb xi with
              | false => rfl
              | true =>
                rcases hw.co xb xj xi e with h1 | h1
                · rw [h1] at h; cases h
                · rw [rA.at (show ia2 + i < ia2 + j by omega) (eA _ _ hxi) (eA _ _ hxj)] at h1; cases h1
            · obtain rfl : i = j := by omega
              rw [hxi] at hxj; cases hxj; exact h
          by_cases hm : mg > 1
          case' pos => rw [if_pos hm, setG'_eq]
          case' neg => rw [if_neg hm, setG'_eq]
          all_goals
            refine wpS_bind (wpS_modify ?_)
            rw [elem'_eq, hxb]
            refine wpS_bind (wpS_pure (wpS_bind (wpS_gallop (b := fun i => match a[ia2 + i]? with | some x => !L xb x | none => false) hL hk (by omega) (by omega) mA (mB _ _ hxb) ?_ mo1 ?_)))
            · intro i x hi hx
              rw [hx]; rfl
            intro k hkn kt kf
            have kt' : ∀ i x, ia2 ≤ i → i < ia2 + k → a.toList[i]? = some x → L xb x = false := fun i x h1 h2 hx => by
              have := kt (i - ia2) (by omega)
              rw [Array.getElem?_toList] at hx
              rw [show ia2 + (i - ia2) = i by omega, hx] at this
              dsimp only at this
              rw [← Bool.not_not (L xb x), this]; rfl
            have kf' : ∀ x, a[ia2 + k]? = some x → L xb x = true := fun x hx => by
              have hlt : ia2 + k < a.size := (Array.getElem?_eq_some_iff.mp hx).1
              have := kf k (Nat.le_refl _) (by omega)
              rw [hx] at this
              dsimp only at this
              rw [← Bool.not_not (L xb x), this]; rfl
            dsimp only
            by_cases hk0 : k > 0
            case' pos =>
              rw [if_pos hk0]
              have J1 : Jm L a.toList b.toList (out ++ a.extract ia2 (ia2 + k)).toList (ia2 + k) ib2 := by
                rw [Array.toList_append, ext_run]
                exact Jm.runA (out := out.toList) rA k ia2 _ J (by rw [Array.length_toList]; omega) fun i x h1 h2 hx => hw.lowA rB (eB _ _ hxb) (kt' i x h1 h2 hx)
              generalize out ++ a.extract ia2 (ia2 + k) = out1 at J1 ⊢
              have hie : ia2 ≤ ia2 + k := by omega
              have hil : ia2 + k ≤ a.size := by omega
              generalize ia2 + k = ia1 at J1 kf' hie hil ⊢
              by_cases e1 : (ia1 + 1 == a.size) = true
              · rw [if_pos e1]
                exact wpS_pure ⟨⟨_, rfl⟩, .inr ⟨_, _, rfl, ls _ _ _ J1 (beq_iff_eq.mp e1)⟩⟩
              rw [if_neg e1]
              by_cases e2 : (ia1 == a.size) = true
              · rw [if_pos e2]
                exact wpS_pure ⟨⟨_, rfl⟩, .inr ⟨_, _, rfl, dn _ _ _ J1 (.inl (beq_iff_eq.mp e2))⟩⟩
              rw [if_neg e2]
              rw [beq_iff_eq] at e1 e2
              have hi1 : ia1 + 1 < a.size := by omega
            case' neg =>
              rw [if_neg hk0]
              have J1 := J
              have hk1 : ia2 + k = ia2 := by omega
              rw [hk1] at kf'
              have hi1 : ia2 + 1 < a.size := g1
              clear kt kf kt'
              generalize hiq : ia2 = ia1 at J1 kf' hi1 ⊢
              have hie : ia2 ≤ ia1 := by omega
              clear hiq
              generalize out = out1 at J1 ⊢
            all_goals
              obtain ⟨xa, hxa⟩ : ∃ x, a[ia1]? = some x := ⟨_, Array.getElem?_eq_getElem (by omega)⟩
              have hl := kf' xa hxa
              have J2 := pB out1 ia1 ib2 xa xb J1 hxa hxb hl
              have mo2 : ∀ i j, i ≤ j → j < b.size - (ib2 + 1) → (match b[ib2 + 1 + j]? with | some x => L x xa | none => false) = true → (match b[ib2 + 1 + i]? with | some x => L x xa | none => false) = true := fun i j hij hj h => by
                obtain ⟨xi, hxi⟩ : ∃ x, b[ib2 + 1 + i]? = some x := ⟨_, Array.getElem?_eq_getElem (by omega)⟩
                obtain ⟨xj, hxj⟩ : ∃ x, b[ib2 + 1 + j]? = some x := ⟨_, Array.getElem?_eq_getElem (by omega)⟩
                rw [hxj] at h
                rw [hxi]
                dsimp only at h ⊢
                rcases Nat.lt_or_ge i j with hlt | hge
                · rcases hw.co xj xi xa h with h1 | h1
                  · rw [rB.at (show ib2 + 1 + i < ib2 + 1 + j by omega) (eB _ _ hxi) (eB _ _ hxj)] at h1; cases h1
                  · exact h1
                · obtain rfl : i = j := by omega
                  rw [hxi] at hxj; cases hxj; exact h
              refine wpS_bind (wpS_pure ?_)
              generalize out1.push xb = out2 at J2 ⊢
              by_cases e3 : (ib2 + 1 == b.size) = true
              · rw [if_pos e3]
                exact wpS_pure ⟨⟨_, rfl⟩, .inr ⟨_, _, rfl, dn _ _ _ J2 (.inr (beq_iff_eq.mp e3))⟩⟩
              rw [if_neg e3]
              rw [beq_iff_eq] at e3
              rw [elem'_eq, hxa]
              refine wpS_bind (wpS_pure (wpS_bind (wpS_gallop (b := fun i => match b[ib2 + 1 + i]? with | some x => L x xa | none => false) hL hk (by omega) (by omega) mB (mA _ _ hxa) ?_ mo2 ?_)))
              · intro i x hi hx
                rw [hx]; rfl
              intro k2 hkn2 kt2 kf2
              have kt2' : ∀ i x, ib2 + 1 ≤ i → i < ib2 + 1 + k2 → b.toList[i]? = some x → L x xa = true := fun i x h1 h2 hx => by
                have := kt2 (i - (ib2 + 1)) (by omega)
                rw [Array.getElem?_toList] at hx
                rw [show ib2 + 1 + (i - (ib2 + 1)) = i by omega, hx] at this
                exact this
              have kf2' : ∀ x, b[ib2 + 1 + k2]? = some x → L x xa = false := fun x hx => by
                have hlt : ib2 + 1 + k2 < b.size := (Array.getElem?_eq_some_iff.mp hx).1
                have := kf2 k2 (Nat.le_refl _) (by omega)
                rw [hx] at this
                exact this
              dsimp only
              by_cases hk2 : k2 > 0
              case' pos =>
                rw [if_pos hk2]
                have J3 : Jm L a.toList b.toList (out2 ++ b.extract (ib2 + 1) (ib2 + 1 + k2)).toList ia1 (ib2 + 1 + k2) := by
                  rw [Array.toList_append, ext_run]
                  exact Jm.runB (out := out2.toList) rB k2 (ib2 + 1) _ J2 (by rw [Array.length_toList]; omega) fun i x h1 h2 hx => hw.lowB rA (eA _ _ hxa) (kt2' i x h1 h2 hx)
                generalize out2 ++ b.extract (ib2 + 1) (ib2 + 1 + k2) = out3 at J3 ⊢
                have hje : ib2 + 1 ≤ ib2 + 1 + k2 := by omega
                have hjl : ib2 + 1 + k2 ≤ b.size := by omega
                generalize ib2 + 1 + k2 = ib3 at J3 kf2' hje hjl ⊢
                by_cases e4 : (ib3 == b.size) = true
                · rw [if_pos e4]
                  exact wpS_pure ⟨⟨_, rfl⟩, .inr ⟨_, _, rfl, dn _ _ _ J3 (.inr (beq_iff_eq.mp e4))⟩⟩
                rw [if_neg e4]
                rw [beq_iff_eq] at e4
                have hj1 : ib3 < b.size := by omega
              case' neg =>
                rw [if_neg hk2]
                have J3 := J2
                have hk1 : ib2 + 1 + k2 = ib2 + 1 := by omega
                rw [hk1] at kf2'
                have hj1 : ib2 + 1 < b.size := by omega
                clear kt2 kf2 kt2'
                generalize hiq : ib2 + 1 = ib3 at J3 kf2' hj1 ⊢
                have hje : ib2 + 1 ≤ ib3 := by omega
                clear hiq
                generalize out2 = out3 at J3 ⊢
              all_goals
                obtain ⟨x3, hx3⟩ : ∃ x, b[ib3]? = some x := ⟨_, Array.getElem?_eq_getElem hj1⟩
                have J4 := pA out3 ia1 ib3 xa x3 J3 hxa hx3 (kf2' x3 hx3)
                refine wpS_bind (wpS_pure ?_)
                by_cases e5 : (ia1 + 1 + 1 == a.size) = true
                · rw [if_pos e5]
                  exact wpS_pure ⟨⟨_, rfl⟩, .inr ⟨_, _, rfl, ls _ _ _ J4 (beq_iff_eq.mp e5)⟩⟩
                rw [if_neg e5]
                rw [beq_iff_eq] at e5
                split
                · exact wpS_pure ⟨⟨_, rfl⟩, .inl ⟨_, _, _, _, _, _, rfl, J4, by omega, hj1, by omega⟩⟩
                · exact wpS_pure ⟨⟨_, rfl⟩, _, _, _, _, _, _, rfl, J4, by omega, hj1, by omega⟩
      · exact wpS_pure ⟨hg, r, _, rfl, hG⟩
end
end Sm

end PartSortM2

section PartSortM3
set_option maxHeartbeats 800000
namespace Sm
open PySem PyProof.Rows
local macro_rules | `(tactic| delta mergeHiOpen) => `(tactic| delta $(Lean.mkCIdent (Lean.mkPrivateNameCore `PySem.Builtin.List.W1All `PySem.Builtin.mergeHi)))
section
variable {α : Type} {L : α → α → Bool} {A B : List α}
abbrev Fl (L : α → α → Bool) : α → α → Bool := fun x y => L y x
theorem Swo.fl (h : Swo L) : Swo (Fl L) := ⟨fun x y e => h.asym y x e, fun x y z e => (h.co z y x e).symm⟩
theorem Risen.fl (h : Risen L A) : Risen (Fl L) A.reverse := List.pairwise_reverse.mpr h
theorem Good.fl {r : List α} (h : Good (Fl L) B.reverse A.reverse r.reverse) : Good L A B r := by
  refine ⟨?_, List.pairwise_reverse.mp h.2⟩
  have h1 := (List.reverse_perm r).symm.trans h.1
  refine h1.trans ?_
  rw [← List.reverse_append]
  exact List.reverse_perm _
theorem rev_drop {l : List α} {n : Nat} (h : n ≤ l.length) : l.reverse.drop (l.length - n) = (l.take n).reverse := by
  rw [List.drop_reverse, show l.length - (l.length - n) = n by omega]
theorem rev_at {l : List α} {n : Nat} (h : n ≤ l.length) (h1 : 1 ≤ n) : l.reverse[l.length - n]? = l[n - 1]? := by
  rw [List.getElem?_reverse (by omega), show l.length - 1 - (l.length - n) = n - 1 by omega]
theorem rev_run {l : List α} {n m : Nat} (h : n ≤ l.length) (hm : m ≤ n) : (l.reverse.drop (l.length - n)).take (n - m) = ((l.take n).drop m).reverse := by
  rw [rev_drop h, List.take_reverse, List.length_take, Nat.min_eq_left h, show n - (n - m) = m by omega]
end
theorem ext_to {a : Array Keyed} {i : Nat} : (a.extract 0 i).toList = a.toList.take i := by
  rw [Array.toList_extract, List.extract_eq_take_drop, List.drop_zero, Nat.sub_zero]
theorem ext_mid {a : Array Keyed} {i j : Nat} : (a.extract i j).toList = (a.toList.take j).drop i := by
  rw [Array.toList_extract, List.extract_eq_take_drop, List.drop_take]
section
variable {prog : Program} {w : World} {A : Around} {E : Value → Shared → Prop} {s : Shared}
theorem wpS_mergeHi {S : Keyed → Prop} {L : Keyed → Keyed → Bool} {κ : SortKind} {a b : Array Keyed} {st : SortSt} {Q : Array Keyed → SortSt → Prop}
    (hw : Swo L) (hL : LtOk prog w A E s S L κ) (hk : kindOf st = κ) (ha : 1 ≤ a.size) (hb : 1 ≤ b.size) (hSa : ∀ x ∈ a.toList, S x) (hSb : ∀ x ∈ b.toList, S x) (rA : Risen L a.toList) (rB : Risen L b.toList)
    (h0 : ∀ x ∈ a.toList, ∀ y, b[0]? = some y → L x y = false) (h9 : ∀ x, a[a.size - 1]? = some x → ∀ y ∈ b.toList, L x y = false)
    (h : ∀ r g, Good L a.toList b.toList r.toList → Q r (setGal st g)) : wpS (model prog w) A E s (mergeHi' a b) Q st := by
  delta mergeHi'
  delta mergeHiOpen
  dsimp only [elem_fold, lt_fold, gallop_fold, setG_fold]
  refine wpS_bind (wpS_lift (wpAny_rule ⟨rfl, ?_⟩))
  obtain ⟨a9, ha9⟩ : ∃ x, a[a.size - 1]? = some x := ⟨_, Array.getElem?_eq_getElem (by omega)⟩
  rw [elem'_eq, ha9]
  refine wpS_bind (wpS_pure ?_)
  have la := Array.length_toList (xs := a)
  have lb := Array.length_toList (xs := b)
  have hw' := hw.fl
  have rA' := rA.fl
  have rB' := rB.fl
  have eA : ∀ n x, 1 ≤ n → n ≤ a.size → a[n - 1]? = some x → a.toList.reverse[a.size - n]? = some x := fun n x h1 h2 e => by
    have := rev_at (l := a.toList) (n := n) (by omega) h1
    rw [la] at this
    rw [this, Array.getElem?_toList]; exact e
  have eB : ∀ n x, 1 ≤ n → n ≤ b.size → b[n - 1]? = some x → b.toList.reverse[b.size - n]? = some x := fun n x h1 h2 e => by
    have := rev_at (l := b.toList) (n := n) (by omega) h1
    rw [lb] at this
    rw [this, Array.getElem?_toList]; exact e
  have fA : ∀ i x, a[i]? = some x → a.toList[i]? = some x := fun i x e => by rw [Array.getElem?_toList]; exact e
  have fB : ∀ i x, b[i]? = some x → b.toList[i]? = some x := fun i x e => by rw [Array.getElem?_toList]; exact e
  have mA : ∀ i x, a[i]? = some x → S x := fun i x e => hSa x (List.mem_of_getElem? (fA i x e))
  have mB : ∀ i x, b[i]? = some x → S x := fun i x e => hSb x (List.mem_of_getElem? (fB i x e))
  let J := fun (out : Array Keyed) na nb => Jm (Fl L) b.toList.reverse a.toList.reverse out.toList (b.size - nb) (a.size - na)
  have dn : ∀ (out : Array Keyed) na nb, J out na nb → na ≤ a.size → nb ≤ b.size → (na = 0 ∨ nb = 0) → Good L a.toList b.toList (a.extract 0 na ++ b.extract 0 nb ++ out.reverse).toList := fun out na nb j l1 l2 e => by
    have := j.fin rB' rA' (by rw [List.length_reverse, List.length_reverse, la, lb]; omega)
    have d1 := rev_drop (l := a.toList) (n := na) (by omega)
    have d2 := rev_drop (l := b.toList) (n := nb) (by omega)
    rw [la] at d1
    rw [lb] at d2
    rw [d1, d2] at this
    refine Good.fl ?_
    rw [Array.toList_append, Array.toList_append, ext_to, ext_to, Array.toList_reverse, List.reverse_append, List.reverse_append, List.reverse_reverse, ← List.append_assoc]
    exact this
  have ls : ∀ (out : Array Keyed) na nb, J out na nb → na ≤ a.size → nb = 1 → Good L a.toList b.toList (b.extract 0 nb ++ a.extract 0 na ++ out.reverse).toList := fun out na nb j l1 e => by
    subst e
    obtain ⟨x, hx⟩ : ∃ x, b[0]? = some x := ⟨_, Array.getElem?_eq_getElem (by omega)⟩
    have := j.lastA rA' (by rw [List.length_reverse, lb]; omega) (eB 1 x (Nat.le_refl _) hb hx) fun y hy => h0 y (List.mem_reverse.mp hy) x hx
    have d1 := rev_drop (l := a.toList) (n := na) (by omega)
    have d2 := rev_drop (l := b.toList) (n := 1) (by omega)
    rw [la] at d1
    rw [lb] at d2
    rw [d1, d2] at this
    refine Good.fl ?_
    rw [Array.toList_append, Array.toList_append, ext_to, ext_to, Array.toList_reverse, List.reverse_append, List.reverse_append, List.reverse_reverse, ← List.append_assoc]
    exact this
  have pB : ∀ (out : Array Keyed) na nb xa xb, J out na nb → 1 ≤ na → na ≤ a.size → 1 ≤ nb → nb ≤ b.size → a[na - 1]? = some xa → b[nb - 1]? = some xb → L xb xa = true → J (out.push xa) (na - 1) nb := fun out na nb xa xb j l1 l2 l3 l4 ha hb hl => by
    show Jm _ _ _ (out.push xa).toList _ (a.size - (na - 1))
    rw [Array.toList_push, show a.size - (na - 1) = a.size - na + 1 by omega]
    exact j.pushB rA' (eA _ _ l1 l2 ha) (hw'.lowB rB' (eB _ _ l3 l4 hb) hl)
  have pA : ∀ (out : Array Keyed) na nb xa xb, J out na nb → 1 ≤ na → na ≤ a.size → 1 ≤ nb → nb ≤ b.size → a[na - 1]? = some xa → b[nb - 1]? = some xb → L xb xa = false → J (out.push xb) na (nb - 1) := fun out na nb xa xb j l1 l2 l3 l4 ha hb hl => by
    show Jm _ _ _ (out.push xb).toList (b.size - (nb - 1)) _
    rw [Array.toList_push, show b.size - (nb - 1) = b.size - nb + 1 by omega]
    exact j.pushA rB' (eB _ _ l3 l4 hb) (hw'.lowA rA' (eA _ _ l1 l2 ha) hl)
  have rnB : ∀ (out : Array Keyed) na nb at_ xb, J out na nb → na ≤ a.size → 1 ≤ nb → nb ≤ b.size → at_ ≤ na → b[nb - 1]? = some xb → (∀ i x, at_ ≤ i → i < na → a[i]? = some x → L xb x = true) → J (out ++ (a.extract at_ na).reverse) at_ nb := fun out na nb at_ xb j l2 l3 l4 l5 hb hl => by
    show Jm _ _ _ (out ++ (a.extract at_ na).reverse).toList _ (a.size - at_)
    have d1 := rev_run (l := a.toList) (n := na) (m := at_) (by omega) l5
    rw [la] at d1
    rw [Array.toList_append, Array.toList_reverse, ext_mid, ← d1, show a.size - at_ = a.size - na + (na - at_) by omega]
    refine Jm.runB (out := out.toList) rA' _ _ _ j (by rw [List.length_reverse, la]; omega) fun i x h1 h2 hx => hw'.lowB rB' (eB _ _ l3 l4 hb) ?_
    rw [List.getElem?_reverse (by omega), Array.getElem?_toList, la] at hx
    exact hl (a.size - 1 - i) x (by omega) (by omega) hx
  have rnA : ∀ (out : Array Keyed) na nb at_ xa, J out na nb → 1 ≤ na → na ≤ a.size → nb ≤ b.size → at_ ≤ nb → a[na - 1]? = some xa → (∀ i x, at_ ≤ i → i < nb → b[i]? = some x → L x xa = false) → J (out ++ (b.extract at_ nb).reverse) na at_ := fun out na nb at_ xa j l2 l3 l4 l5 ha hl => by
    show Jm _ _ _ (out ++ (b.extract at_ nb).reverse).toList (b.size - at_) _
    have d1 := rev_run (l := b.toList) (n := nb) (m := at_) (by omega) l5
    rw [lb] at d1
    rw [Array.toList_append, Array.toList_reverse, ext_mid, ← d1, show b.size - at_ = b.size - nb + (nb - at_) by omega]
    refine Jm.runA (out := out.toList) rB' _ _ _ j (by rw [List.length_reverse, lb]; omega) fun i x h1 h2 hx => hw'.lowA rA' (eA _ _ l2 l3 ha) ?_
    rw [List.getElem?_reverse (by omega), Array.getElem?_toList, lb] at hx
    exact hl (b.size - 1 - i) x (by omega) (by omega) hx
  have J0 : J #[a9] (a.size - 1) b.size := by
    have : Jm (Fl L) b.toList.reverse a.toList.reverse [] 0 0 := ⟨Nat.zero_le _, Nat.zero_le _, .refl _, .nil, fun x hx => absurd hx List.not_mem_nil⟩
    have j := this.pushB rA' (x := a9) (by have := eA a.size a9 ha (Nat.le_refl _) ha9; rwa [Nat.sub_self] at this) fun y hy => h9 a9 ha9 y (List.mem_reverse.mp hy)
    show Jm _ _ _ _ (b.size - b.size) (a.size - (a.size - 1))
    rw [Nat.sub_self, show a.size - (a.size - 1) = 0 + 1 by omega]
    exact j
  by_cases hb1 : (a.size - 1 == 0) = true
  · rw [if_pos hb1]
    exact wpS_pure (h _ (gallopOf st) (dn _ _ _ J0 (by omega) (Nat.le_refl _) (.inl (beq_iff_eq.mp hb1))))
  rw [if_neg hb1]
  by_cases ha1 : (b.size == 1) = true
  · rw [if_pos ha1]
    exact wpS_pure (h _ (gallopOf st) (ls _ _ _ J0 (by omega) (beq_iff_eq.mp ha1)))
  rw [if_neg ha1]
  rw [beq_iff_eq] at hb1 ha1
  refine wpS_bind (wpS_get (wpS_bind ?_))
  refine wpS_mono (wpS_forRange (I := fun i c st' => (∃ g, st' = setGal st g) ∧ ∃ na nb out mg, c = (none, na, nb, out, mg) ∧ J out na nb ∧ 1 ≤ na ∧ na ≤ a.size ∧ 2 ≤ nb ∧ nb ≤ b.size ∧ i + na + nb ≤ a.size + b.size)
    (Q := fun c st' => (∃ g, st' = setGal st g) ∧ ∃ r x, c = (some r, x) ∧ Good L a.toList b.toList r.toList) ?st ?en ⟨⟨_, rfl⟩, _, _, _, _, rfl, J0, by omega, by omega, by omega, by omega, by omega⟩) ?po
  case po =>
    rintro c st' ⟨⟨g, rfl⟩, r, x, rfl, hG⟩
    exact wpS_pure (h r g hG)
  case en =>
    rintro c st' ⟨_, na, nb, out, mg, rfl, _, h1, h2, h3, h4, h5⟩
    omega
  case st =>
    rintro i c st' _ hi ⟨⟨g, rfl⟩, na, nb, out, mg, rfl, j, h1, h2, h3, h4, h5⟩
    dsimp only
    clear_value J
    refine wpS_bind (wpS_mono (wpS_forRange (I := fun t c st' => (∃ g, st' = setGal st g) ∧ ∃ na' nb' out ac bc, c = (none, na', nb', out, ac, bc) ∧ J out na' nb' ∧ 1 ≤ na' ∧ na' ≤ a.size ∧ 2 ≤ nb' ∧ nb' ≤ b.size ∧ t + na' + nb' ≤ na + nb)
      (Q := fun c st' => (∃ g, st' = setGal st g) ∧ ((∃ na' nb' out ac bc, c = (none, na', nb', out, ac, bc) ∧ J out na' nb' ∧ 1 ≤ na' ∧ na' ≤ a.size ∧ 2 ≤ nb' ∧ nb' ≤ b.size ∧ 1 + na' + nb' ≤ na + nb) ∨ ∃ r x, c = (some r, x) ∧ Good L a.toList b.toList r.toList)) ?st1 ?en1 ⟨⟨_, rfl⟩, _, _, _, _, _, rfl, j, h1, h2, h3, h4, by omega⟩) ?po1)
    case en1 =>
      rintro c st' ⟨hg, na', nb', out, ac, bc, rfl, J, h1, h2, h3, h4, h5⟩
      exact ⟨hg, .inl ⟨_, _, _, _, _, rfl, J, h1, h2, h3, h4, by omega⟩⟩
    case st1 =>
      clear j h1 h2 h3 h4 h5
      rintro t c st' _ hj ⟨hg, na', nb', out, ac, bc, rfl, j, h1, h2, h3, h4, h5⟩
      obtain ⟨xa, hxa⟩ : ∃ x, a[na' - 1]? = some x := ⟨_, Array.getElem?_eq_getElem (by omega)⟩
      obtain ⟨xb, hxb⟩ : ∃ x, b[nb' - 1]? = some x := ⟨_, Array.getElem?_eq_getElem (by omega)⟩
      dsimp only
      rw [elem'_eq, hxb, elem'_eq, hxa]
      refine wpS_bind (wpS_pure (wpS_bind (wpS_pure (wpS_bind (hL xb xa st' _ (mB _ _ hxb) (mA _ _ hxa) (by obtain ⟨g, rfl⟩ := hg; exact hk) ?_)))))
      dsimp only
      cases hl : L xb xa with
      | true =>
        rw [if_pos rfl]
        refine wpS_bind (wpS_pure ?_)
        have J1 := pB out na' nb' xa xb j h1 h2 (by omega) h4 hxa hxb hl
        by_cases e1 : (na' - 1 == 0) = true
        · rw [if_pos e1]
          exact wpS_pure ⟨hg, .inr ⟨_, _, rfl, dn _ _ _ J1 (by omega) h4 (.inl (beq_iff_eq.mp e1))⟩⟩
        · rw [if_neg e1]
          rw [beq_iff_eq] at e1
          by_cases e2 : ac + 1 ≥ mg
          · rw [if_pos e2]
            exact wpS_pure ⟨hg, .inl ⟨_, _, _, _, _, rfl, J1, by omega, by omega, h3, h4, by omega⟩⟩
          · rw [if_neg e2]
            exact wpS_pure ⟨hg, _, _, _, _, _, rfl, J1, by omega, by omega, h3, h4, by omega⟩
      | false =>
        rw [if_neg Bool.false_ne_true]
        refine wpS_bind (wpS_pure ?_)
        have J1 := pA out na' nb' xa xb j h1 h2 (by omega) h4 hxa hxb hl
        by_cases e1 : (nb' - 1 == 1) = true
        · rw [if_pos e1]
          exact wpS_pure ⟨hg, .inr ⟨_, _, rfl, ls _ _ _ J1 h2 (beq_iff_eq.mp e1)⟩⟩
        · rw [if_neg e1]
          rw [beq_iff_eq] at e1
          by_cases e2 : bc + 1 ≥ mg
          · rw [if_pos e2]
            exact wpS_pure ⟨hg, .inl ⟨_, _, _, _, _, rfl, J1, h1, h2, by omega, by omega, by omega⟩⟩
          · rw [if_neg e2]
            exact wpS_pure ⟨hg, _, _, _, _, _, rfl, J1, h1, h2, by omega, by omega, by omega⟩
    case po1 =>
      clear j h1 h2 h3 h4
      rintro c st' ⟨hg, h⟩
      rcases h with ⟨na', nb', out, ac, bc, rfl, j, h1, h2, h3, h4, h6⟩ | ⟨r, x, rfl, hG⟩
      rotate_left
      · exact wpS_pure ⟨hg, r, _, rfl, hG⟩
      · dsimp only
        refine wpS_bind (wpS_lift (wpAny_rule ⟨rfl, ?_⟩))
        refine wpS_bind (wpS_mono (wpS_forRange (I := fun t c st' => (∃ g, st' = setGal st g) ∧ ∃ na2 nb2 out mg ac bc, c = (none, na2, nb2, out, mg, ac, bc) ∧ J out na2 nb2 ∧ 1 ≤ na2 ∧ na2 ≤ a.size ∧ 2 ≤ nb2 ∧ nb2 ≤ b.size ∧ t + na2 + nb2 ≤ na' + nb')
          (Q := fun c st' => (∃ g, st' = setGal st g) ∧ ((∃ na2 nb2 out mg ac bc, c = (none, na2, nb2, out, mg, ac, bc) ∧ J out na2 nb2 ∧ 1 ≤ na2 ∧ na2 ≤ a.size ∧ 2 ≤ nb2 ∧ nb2 ≤ b.size ∧ na2 + nb2 ≤ na' + nb') ∨ ∃ r x, c = (some r, x) ∧ Good L a.toList b.toList r.toList)) ?st2 ?en2 ⟨hg, _, _, _, _, _, _, rfl, j, h1, h2, h3, h4, by omega⟩) ?po2)
        case en2 =>
          rintro c st' ⟨hg, na2, nb2, out, mg, ac, bc, rfl, J, g1, g2, g3, g4, g5⟩
          exact ⟨hg, .inl ⟨_, _, _, _, _, _, rfl, J, g1, g2, g3, g4, by omega⟩⟩
        case po2 =>
          rintro c st' ⟨hg, h⟩
          rcases h with ⟨na2, nb2, out, mg, ac, bc, rfl, J, g1, g2, g3, g4, g5⟩ | ⟨r, x, rfl, hG⟩
          · dsimp only
            rw [setG'_eq]
            refine wpS_bind (wpS_modify (wpS_pure ⟨?_, _, _, _, _, rfl, J, g1, g2, g3, g4, by omega⟩))
            obtain ⟨g, rfl⟩ := hg
            exact ⟨_, rfl⟩
          · exact wpS_pure ⟨hg, r, _, rfl, hG⟩
        case st2 =>
          clear hg h1 h2 h3 h4 h5 h6 j
          rintro t c st' _ hj ⟨⟨g, rfl⟩, na2, nb2, out, mg, ac, bc, rfl, j, g1, g2, g3, g4, g5⟩
          obtain ⟨xb, hxb⟩ : ∃ x, b[nb2 - 1]? = some x := ⟨_, Array.getElem?_eq_getElem (by omega)⟩
          dsimp only
          have mo1 : ∀ i j, i ≤ j → j < na2 → (match a[0 + j]? with | some x => !L xb x | none => false) = true → (match a[0 + i]? with | some x => !L xb x | none => false) = true := fun i j hij hj h => by
            obtain ⟨xi, hxi⟩ : ∃ x, a[0 + i]? = some x := ⟨_, Array.getElem?_eq_getElem (by omega)⟩
            obtain ⟨xj, hxj⟩ : ∃ x, a[0 + j]? = some x := ⟨_, Array.getElem?_eq_getElem (by omega)⟩
            rw [hxj] at h
            rw [hxi]
            dsimp only at h ⊢
            rcases Nat.lt_or_ge i j with hlt | hge
            · cases e : L xb xi with
              | false => rfl
              | true =>
                rcases hw.co xb xj xi e with h1 | h1
                · rw [h1] at h; cases h
                · rw [rA.at (show 0 + i < 0 + j by omega) (fA _ _ hxi) (fA _ _ hxj)] at h1; cases h1
            · obtain rfl : i = j := by omega
              rw [hxi] at hxj; cases hxj; exact h
          by_cases hm : mg > 1
          case' pos => rw [if_pos hm, setG'_eq]
          case' neg => rw [if_neg hm, setG'_eq]
          all_goals
            refine wpS_bind (wpS_modify ?_)
            rw [elem'_eq, hxb]
            refine wpS_bind (wpS_pure (wpS_bind (wpS_gallop (b := fun i => match a[0 + i]? with | some x => !L xb x | none => false) hL hk (by omega) (by omega) mA (mB _ _ hxb) ?_ mo1 ?_)))
            · intro i x hi hx
              rw [hx]; rfl
            intro k hkn kt kf
            have kt' : ∀ i x, i < k → a[i]? = some x → L xb x = false := fun i x h2 hx => by
              have := kt i h2
              rw [Nat.zero_add, hx] at this
              dsimp only at this
              rw [← Bool.not_not (L xb x), this]; rfl
            have kf' : ∀ i x, k ≤ i → i < na2 → a[i]? = some x → L xb x = true := fun i x h1 h2 hx => by
              have := kf i h1 h2
              rw [Nat.zero_add, hx] at this
              dsimp only at this
              rw [← Bool.not_not (L xb x), this]; rfl
            dsimp only
            by_cases hk0 : na2 - k > 0
            case' pos =>
              rw [if_pos hk0]
              have J1 := rnB out na2 nb2 k xb j g2 (by omega) g4 (by omega) hxb kf'
              generalize out ++ (a.extract k na2).reverse = out1 at J1 ⊢
              generalize na2 - k = ac1
              by_cases e1 : (k == 0) = true
              · rw [if_pos e1]
                exact wpS_pure ⟨⟨_, rfl⟩, .inr ⟨_, _, rfl, dn _ _ _ J1 (by omega) g4 (.inl (beq_iff_eq.mp e1))⟩⟩
              rw [if_neg e1]
              rw [beq_iff_eq] at e1
              have hi1 : 1 ≤ k := by omega
              have hi2 : k ≤ na2 := by omega
              have kt3 : ∀ x, a[k - 1]? = some x → L xb x = false := fun x hx => kt' (k - 1) x (by omega) hx
              clear kt kf kt' kf' hkn e1
              generalize k = na1 at J1 hi1 hi2 kt3 ⊢
            case' neg =>
              rw [if_neg hk0]
              have J1 := j
              have kt3 : ∀ x, a[na2 - 1]? = some x → L xb x = false := fun x hx => kt' (na2 - 1) x (by omega) hx
              generalize na2 - k = ac1
              clear kt kf kt' kf' hkn hk0
              have hi1 : 1 ≤ na2 := g1
              generalize hiq : na2 = na1 at J1 kt3 hi1 ⊢
              have hi2 : na1 ≤ na2 := by omega
              clear hiq
              generalize out = out1 at J1 ⊢
            all_goals
              obtain ⟨xa, hxa⟩ : ∃ x, a[na1 - 1]? = some x := ⟨_, Array.getElem?_eq_getElem (by omega)⟩
              have hl := kt3 xa hxa
              have J2 := pA out1 na1 nb2 xa xb J1 hi1 (by omega) (by omega) g4 hxa hxb hl
              have mo2 : ∀ i j, i ≤ j → j < nb2 - 1 → (match b[0 + j]? with | some x => L x xa | none => false) = true → (match b[0 + i]? with | some x => L x xa | none => false) = true := fun i j hij hj h => by
                obtain ⟨xi, hxi⟩ : ∃ x, b[0 + i]? = some x := ⟨_, Array.getElem?_eq_getElem (by omega)⟩
                obtain ⟨xj, hxj⟩ : ∃ x, b[0 + j]? = some x := ⟨_, Array.getElem?_eq_getElem (by omega)⟩
                rw [hxj] at h
                rw [hxi]
                dsimp only at h ⊢
                rcases Nat.lt_or_ge i j with hlt | hge
                · rcases hw.co xj xi xa h with h1 | h1
                  · rw [rB.at (show 0 + i < 0 + j by omega) (fB _ _ hxi) (fB _ _ hxj)] at h1; cases h1
                  · exact h1
                · obtain rfl : i = j := by omega
                  rw [hxi] at hxj; cases hxj; exact h
              refine wpS_bind (wpS_pure ?_)
              generalize out1.push xb = out2 at J2 ⊢
              by_cases e3 : (nb2 - 1 == 1) = true
              · rw [if_pos e3]
                exact wpS_pure ⟨⟨_, rfl⟩, .inr ⟨_, _, rfl, ls _ _ _ J2 (by omega) (beq_iff_eq.mp e3)⟩⟩
              rw [if_neg e3]
              rw [beq_iff_eq] at e3
              rw [elem'_eq, hxa]
              refine wpS_bind (wpS_pure (wpS_bind (wpS_gallop (b := fun i => match b[0 + i]? with | some x => L x xa | none => false) hL hk (by omega) (by omega) mB (mA _ _ hxa) ?_ mo2 ?_)))
              · intro i x hi hx
                rw [hx]; rfl
              intro k2 hkn2 kt2 kf2
              have kt2' : ∀ i x, i < k2 → b[i]? = some x → L x xa = true := fun i x h2 hx => by
                have := kt2 i h2
                rw [Nat.zero_add, hx] at this
                exact this
              have kf2' : ∀ i x, k2 ≤ i → i < nb2 - 1 → b[i]? = some x → L x xa = false := fun i x h1 h2 hx => by
                have := kf2 i h1 h2
                rw [Nat.zero_add, hx] at this
                exact this
              dsimp only
              by_cases hk2 : nb2 - 1 - k2 > 0
              case' pos =>
                rw [if_pos hk2]
                have J3 := rnA out2 na1 (nb2 - 1) k2 xa J2 hi1 (by omega) (by omega) hkn2 hxa kf2'
                generalize out2 ++ (b.extract k2 (nb2 - 1)).reverse = out3 at J3 ⊢
                generalize nb2 - 1 - k2 = bc1
                by_cases e4 : (k2 == 1) = true
                · rw [if_pos e4]
                  exact wpS_pure ⟨⟨_, rfl⟩, .inr ⟨_, _, rfl, ls _ _ _ J3 (by omega) (beq_iff_eq.mp e4)⟩⟩
                rw [if_neg e4]
                by_cases e6 : (k2 == 0) = true
                · rw [if_pos e6]
                  exact wpS_pure ⟨⟨_, rfl⟩, .inr ⟨_, _, rfl, dn _ _ _ J3 (by omega) (by omega) (.inr (beq_iff_eq.mp e6))⟩⟩
                rw [if_neg e6]
                rw [beq_iff_eq] at e4 e6
                have hj1 : 2 ≤ k2 := by omega
                have hj2 : k2 ≤ nb2 - 1 := by omega
                have kt4 : ∀ x, b[k2 - 1]? = some x → L x xa = true := fun x hx => kt2' (k2 - 1) x (by omega) hx
                clear kt2 kf2 kt2' kf2' hkn2 e4 e6
                generalize k2 = nb3 at J3 kt4 hj1 hj2 ⊢
              case' neg =>
                rw [if_neg hk2]
                have J3 := J2
                have kt4 : ∀ x, b[nb2 - 1 - 1]? = some x → L x xa = true := fun x hx => kt2' (nb2 - 1 - 1) x (by omega) hx
                generalize nb2 - 1 - k2 = bc1
                have hj1 : 2 ≤ nb2 - 1 := by omega
                clear kt2 kf2 kt2' kf2' hkn2 hk2
                generalize hiq : nb2 - 1 = nb3 at J3 kt4 hj1 ⊢
                have hj2 : nb3 ≤ nb2 - 1 := by omega
                clear hiq
                generalize out2 = out3 at J3 ⊢
              all_goals
                obtain ⟨x3, hx3⟩ : ∃ x, b[nb3 - 1]? = some x := ⟨_, Array.getElem?_eq_getElem (by omega)⟩
                have J4 := pB out3 na1 nb3 xa x3 J3 hi1 (by omega) (by omega) (by omega) hxa hx3 (kt4 x3 hx3)
                refine wpS_bind (wpS_pure ?_)
                by_cases e5 : (na1 - 1 == 0) = true
                · rw [if_pos e5]
                  exact wpS_pure ⟨⟨_, rfl⟩, .inr ⟨_, _, rfl, dn _ _ _ J4 (by omega) (by omega) (.inl (beq_iff_eq.mp e5))⟩⟩
                rw [if_neg e5]
                rw [beq_iff_eq] at e5
                split
                · exact wpS_pure ⟨⟨_, rfl⟩, .inl ⟨_, _, _, _, _, _, rfl, J4, by omega, by omega, hj1, by omega, by omega⟩⟩
                · exact wpS_pure ⟨⟨_, rfl⟩, _, _, _, _, _, _, rfl, J4, by omega, by omega, hj1, by omega, by omega⟩
end
end Sm

end PartSortM3

section PartSortN
set_option maxHeartbeats 800000
namespace Sm
open PySem PyProof.Rows
section
variable {prog : Program} {w : World} {A : Around} {E : Value → Shared → Prop} {s : Shared} {ρ : Keyed → Nat} {S : Keyed → Prop} {κ : SortKind} {p0 : Array (Nat × Nat × Nat)} {a0 : Array Keyed} {lo : Nat}
abbrev Lr (ρ : Keyed → Nat) (x y : Keyed) : Bool := decide (ρ x < ρ y)
theorem Lr_swo : Swo (Lr ρ) := ⟨fun x y h => by simp at h ⊢; omega, fun x y z h => by simp at h ⊢; omega⟩
def R (ρ : Keyed → Nat) (xs : Array Keyed) (i : Nat) : Nat := match xs[i]? with
  | some x => ρ x
  | none => 0
theorem R_of {xs ys : Array Keyed} {i j : Nat} (h : xs[i]? = ys[j]?) : R ρ xs i = R ρ ys j := by unfold R; rw [h]
theorem R_at {xs : Array Keyed} {i : Nat} {x : Keyed} (h : xs[i]? = some x) : R ρ xs i = ρ x := by unfold R; rw [h]
structure Bs (κ : SortKind) (p0 : Array (Nat × Nat × Nat)) (a0 : Array Keyed) (lo : Nat) (st : SortSt) : Prop where
  kind : kindOf st = κ
  pend : pendingOf st = p0
  fail : failedOf st = none
  perm : (arrOf st).Perm a0
  pre : ∀ i, i < lo → (arrOf st)[i]? = a0[i]?
theorem Bs.size {st : SortSt} (h : Bs κ p0 a0 lo st) : (arrOf st).size = a0.size := h.perm.size_eq
theorem Bs.set {st : SortSt} {xs : Array Keyed} (h : Bs κ p0 a0 lo st) (hp : xs.Perm (arrOf st)) (hq : ∀ i, i < lo → xs[i]? = (arrOf st)[i]?) : Bs κ p0 a0 lo (setArr st xs) :=
  ⟨h.kind, h.pend, h.fail, hp.trans h.perm, fun i hi => (hq i hi).trans (h.pre i hi)⟩
theorem Bs.mem {st : SortSt} (h : Bs κ p0 a0 lo st) (hS : ∀ x ∈ a0.toList, S x) : ∀ x ∈ (arrOf st).toList, S x := fun x hx => hS x ((Array.perm_iff_toList_perm.mp h.perm).mem_iff.mp hx)
theorem wpS_at {st : SortSt} {i j : Nat} {Q : Option Bool → SortSt → Prop} (hL : LtOk prog w A E s S (Lr ρ) κ) (hS : ∀ x ∈ a0.toList, S x) (hB : Bs κ p0 a0 lo st) (hi : i < a0.size) (hj : j < a0.size)
    (h : Q (some (decide (R ρ (arrOf st) i < R ρ (arrOf st) j))) st) : wpS (model prog w) A E s (ltAt' i j) Q st := by
  rw [ltAt'_eq]
  refine wpS_bind (wpS_get ?_)
  have sz := hB.size
  obtain ⟨x, hx⟩ : ∃ x, (arrOf st)[i]? = some x := ⟨_, Array.getElem?_eq_getElem (by omega)⟩
  obtain ⟨y, hy⟩ : ∃ x, (arrOf st)[j]? = some x := ⟨_, Array.getElem?_eq_getElem (by omega)⟩
  show wpS _ _ _ _ (do let u ← elem' (arrOf st) i; let v ← elem' (arrOf st) j; lt' u v) Q st
  rw [elem'_eq, elem'_eq, hx, hy]
  have m := hB.mem hS
  refine wpS_bind (wpS_pure (wpS_bind (wpS_pure (hL x y st Q (m x (List.mem_of_getElem? (by rw [Array.getElem?_toList]; exact hx))) (m y (List.mem_of_getElem? (by rw [Array.getElem?_toList]; exact hy))) hB.kind ?_))))
  rw [R_at hx, R_at hy] at h
  exact h
def Up (ρ : Keyed → Nat) (xs : Array Keyed) (a b : Nat) : Prop := ∀ i j, a ≤ i → i ≤ j → j < b → R ρ xs i ≤ R ρ xs j
def Dn (ρ : Keyed → Nat) (xs : Array Keyed) (a b : Nat) : Prop := ∀ i j, a ≤ i → i ≤ j → j < b → R ρ xs j ≤ R ρ xs i
theorem R_mir {xs : Array Keyed} {i j : Nat} (hj : j ≤ xs.size) (k : Nat) : R ρ (mirror xs i j ((j - i) / 2)) k = if i ≤ k ∧ k < j then R ρ xs (i + j - 1 - k) else R ρ xs k := by
  have e := getElem?_mirror_all (i := i) hj k
  split
  · rename_i h; rw [if_pos h] at e; exact R_of e
  · rename_i h; rw [if_neg h] at e; exact R_of e
theorem mir_pre {xs : Array Keyed} {i j : Nat} (hj : j ≤ xs.size) (k : Nat) (hk : k < i) : (mirror xs i j ((j - i) / 2))[k]? = xs[k]? := by
  have e := getElem?_mirror_all (i := i) hj k
  rw [if_neg (by omega)] at e
  exact e
theorem R_mir_eq {xs : Array Keyed} {i j c : Nat} (hj : j ≤ xs.size) (he : ∀ k, i ≤ k → k < j → R ρ xs k = c) (k : Nat) : R ρ (mirror xs i j ((j - i) / 2)) k = R ρ xs k := by
  rw [R_mir hj]
  split
  · rw [he k (by omega) (by omega), he _ (by omega) (by omega)]
  · rfl
theorem Bs.mir {st : SortSt} {i j : Nat} (h : Bs κ p0 a0 lo st) (hi : lo ≤ i) (hj : j ≤ a0.size) : Bs κ p0 a0 lo (setArr st (mirror (arrOf st) i j ((j - i) / 2))) :=
  h.set (mirror_perm _ _ _ _) fun k hk => mir_pre (by rw [h.size]; exact hj) k (by omega)
theorem wpS_countG {nrem : Nat} {st : SortSt} {Q : Option Nat → SortSt → Prop} (hL : LtOk prog w A E s S (Lr ρ) κ) (hS : ∀ x ∈ a0.toList, S x) (hB : Bs κ p0 a0 lo st) (h1 : 1 ≤ nrem) (hn : lo + nrem ≤ a0.size)
    (h : ∀ m st', Bs κ p0 a0 lo st' → 1 ≤ m → m ≤ nrem → Up ρ (arrOf st') lo (lo + m) → Q (some m) st') : wpS (model prog w) A E s (countRun' lo nrem) Q st := by
  rw [countRun'_eq]
  dsimp only
  refine wpS_bind (wpS_mono (wpS_forRange (I := fun x c st' => st' = st ∧ c = (none, x) ∧ Up ρ (arrOf st) lo (lo + x))
    (Q := fun c st' => st' = st ∧ ∃ n, c = (none, n) ∧ 1 ≤ n ∧ n ≤ nrem ∧ Up ρ (arrOf st) lo (lo + n) ∧ (n = nrem ∨ R ρ (arrOf st) (lo + n) < R ρ (arrOf st) (lo + n - 1))) ?st1 ?en1 ⟨rfl, rfl, fun i j h1 h2 h3 => Nat.le_of_eq (by rw [show i = j by omega])⟩) ?po1)
  case en1 =>
    rintro c st' ⟨rfl, rfl, hu⟩
    rw [Nat.max_eq_right h1] at hu ⊢
    exact ⟨rfl, nrem, rfl, h1, Nat.le_refl _, hu, .inl rfl⟩
  case st1 =>
    rintro x c st' hx1 hx2 ⟨rfl, rfl, hu⟩
    refine wpS_bind (wpS_at hL hS hB (by omega) (by omega) ?_)
    by_cases hl : R ρ (arrOf st') (lo + x) < R ρ (arrOf st') (lo + x - 1)
    · simp only [hl, decide_true, if_true]
      exact wpS_pure ⟨rfl, x, rfl, hx1, by omega, hu, .inr hl⟩
    · simp only [hl, decide_false, Bool.false_eq_true, if_false]
      refine wpS_pure ⟨rfl, rfl, fun i j h1 h2 h3 => ?_⟩
      by_cases hj : j < lo + x
      · exact hu i j h1 h2 hj
      · obtain rfl : j = lo + x := by omega
        by_cases hi : i = lo + x
        · rw [hi]; exact Nat.le_refl _
        · have := hu i (lo + x - 1) h1 (by omega) (by omega)
          omega
  case po1 =>
    rintro c st' ⟨rfl, n, rfl, n1, n2, hu, hor⟩
    dsimp only
    by_cases e1 : (n == nrem) = true
    · rw [if_pos e1]
      exact wpS_pure (h n st' hB n1 n2 hu)
    rw [if_neg e1]
    rw [beq_iff_eq] at e1
    have hlt := hor.resolve_left e1
    have sz := hB.size
    have dn1 : ∀ ys : Array Keyed, (∀ k, R ρ ys k = R ρ (arrOf st') k) → (∀ k, lo ≤ k → k < lo + n → R ρ (arrOf st') k = R ρ (arrOf st') (lo + n - 1)) → Dn ρ ys lo (lo + (n + 1)) := fun ys e he i j h1 h2 h3 => by
      rw [e, e]
      by_cases hj : j < lo + n
      · rw [he i h1 (by omega), he j (by omega) hj]; exact Nat.le_refl _
      · obtain rfl : j = lo + n := by omega
        by_cases hi : i = lo + n
        · rw [hi]; exact Nat.le_refl _
        · rw [he i h1 (by omega)]; omega
    by_cases e2 : n > 1
    case' pos =>
      rw [if_pos e2]
      refine wpS_bind (wpS_at hL hS hB (by omega) (by omega) ?_)
      by_cases hl : R ρ (arrOf st') lo < R ρ (arrOf st') (lo + n - 1)
      · simp only [hl, decide_true, if_true]
        exact wpS_pure (h n st' hB n1 n2 hu)
      simp only [hl, decide_false, Bool.false_eq_true, if_false]
      have hq : ∀ k, lo ≤ k → k < lo + n → R ρ (arrOf st') k = R ρ (arrOf st') (lo + n - 1) := fun k k1 k2 => by
        have a1 := hu lo k (Nat.le_refl _) k1 k2
        have a2 := hu k (lo + n - 1) k1 (by omega) (by omega)
        omega
      have hd : Dn ρ (arrOf (setArr st' (mirror (arrOf st') lo (lo + n) ((lo + n - lo) / 2)))) lo (lo + (n + 1)) := dn1 _ (R_mir_eq (by omega) hq) hq
      have hB2 := hB.mir (i := lo) (j := lo + n) (Nat.le_refl _) (by omega)
      refine wpS_bind (wpS_reverse ?_)
      generalize setArr st' (mirror (arrOf st') lo (lo + n) ((lo + n - lo) / 2)) = st2 at hB2 hd ⊢
    case' neg =>
      rw [if_neg e2]
      have hB2 := hB
      have hd : Dn ρ (arrOf st') lo (lo + (n + 1)) := dn1 _ (fun _ => rfl) fun k k1 k2 => by rw [show k = lo + n - 1 by omega]
      clear hu hor dn1 hlt sz hB
      generalize st' = st2 at hB2 hd ⊢
    all_goals
      refine wpS_bind (wpS_lift (wpAny_rule ⟨rfl, ?_⟩))
      refine wpS_bind (wpS_mono (wpS_forRange (I := fun x c st' => ∃ q, c = (none, x, q) ∧ Bs κ p0 a0 lo st' ∧ Dn ρ (arrOf st') lo (lo + x) ∧ q + 1 ≤ x ∧ ∀ k, lo + x - (q + 1) ≤ k → k < lo + x → R ρ (arrOf st') k = R ρ (arrOf st') (lo + x - 1))
        (Q := fun c st' => ∃ m q, c = (none, m, q) ∧ Bs κ p0 a0 lo st' ∧ Dn ρ (arrOf st') lo (lo + m) ∧ q + 1 ≤ m ∧ 1 ≤ m ∧ m ≤ nrem ∧ ∀ k, lo + m - (q + 1) ≤ k → k < lo + m → R ρ (arrOf st') k = R ρ (arrOf st') (lo + m - 1)) ?st2 ?en2 ⟨0, rfl, hB2, hd, by omega, fun k k1 k2 => by rw [show k = lo + (n + 1) - 1 by omega]⟩) ?po2)
      case en2 =>
        rintro c st3 ⟨q, rfl, b1, b2, b3, b4⟩
        rw [Nat.max_eq_right (by omega)] at b2 b3 b4 ⊢
        exact ⟨nrem, q, rfl, b1, b2, b3, by omega, Nat.le_refl _, b4⟩
      case st2 =>
        rintro x c st3 x1 x2 ⟨q, rfl, b1, b2, b3, b4⟩
        have sz3 := b1.size
        have szl := hn
        dsimp only
        refine wpS_bind (wpS_at hL hS b1 (by omega) (by omega) ?_)
        by_cases hl : R ρ (arrOf st3) (lo + x) < R ρ (arrOf st3) (lo + x - 1)
        · simp only [hl, decide_true, if_true]
          have nx : ∀ ys : Array Keyed, (∀ k, R ρ ys k = R ρ (arrOf st3) k) → Dn ρ ys lo (lo + (x + 1)) := fun ys e i j h1 h2 h3 => by
            rw [e, e]
            by_cases hj : j < lo + x
            · exact b2 i j h1 h2 hj
            · obtain rfl : j = lo + x := by omega
              by_cases hi : i = lo + x
              · rw [hi]; exact Nat.le_refl _
              · have := b2 i (lo + x - 1) h1 (by omega) (by omega)
                omega
          by_cases hq : q > 0
          · rw [if_pos hq]
            exact wpS_bind (wpS_reverse (wpS_pure ⟨0, rfl, b1.mir (by omega) (by omega), nx _ (R_mir_eq (by omega) b4), by omega, fun k k1 k2 => by rw [show k = lo + (x + 1) - 1 by omega]⟩))
          · rw [if_neg hq]
            exact wpS_pure ⟨0, rfl, b1, nx _ (fun _ => rfl), by omega, fun k k1 k2 => by rw [show k = lo + (x + 1) - 1 by omega]⟩
        · simp only [hl, decide_false, Bool.false_eq_true, if_false]
          refine wpS_bind (wpS_at hL hS b1 (by omega) (by omega) ?_)
          by_cases hg : R ρ (arrOf st3) (lo + x - 1) < R ρ (arrOf st3) (lo + x)
          · simp only [hg, decide_true, if_true]
            exact wpS_pure ⟨x, q, rfl, b1, b2, b3, by omega, by omega, b4⟩
          · simp only [hg, decide_false, Bool.false_eq_true, if_false]
            refine wpS_pure ⟨q + 1, rfl, b1, fun i j h1 h2 h3 => ?_, by omega, fun k k1 k2 => ?_⟩
            · by_cases hj : j < lo + x
              · exact b2 i j h1 h2 hj
              · obtain rfl : j = lo + x := by omega
                by_cases hi : i = lo + x
                · rw [hi]; exact Nat.le_refl _
                · have := b2 i (lo + x - 1) h1 (by omega) (by omega)
                  omega
            · rw [show lo + (x + 1) - 1 = lo + x by omega]
              by_cases hk : k = lo + x
              · rw [hk]
              · have := b4 k (by omega) (by omega)
                omega
      case po2 =>
        rintro c st3 ⟨m, q, rfl, b1, b2, b3, m1, m2, b4⟩
        have sz3 := b1.size
        dsimp only
        by_cases hq : q > 0
        case' pos =>
          rw [if_pos hq]
          refine wpS_bind (wpS_reverse ?_)
          have c1 := b1.mir (i := lo + m - (q + 1)) (j := lo + m) (by omega) (by omega)
          have c2 : Dn ρ (arrOf (setArr st3 (mirror (arrOf st3) (lo + m - (q + 1)) (lo + m) ((lo + m - (lo + m - (q + 1))) / 2)))) lo (lo + m) := fun i j h1 h2 h3 => by
            have e := R_mir_eq (ρ := ρ) (xs := arrOf st3) (i := lo + m - (q + 1)) (j := lo + m) (by omega) b4
            show R ρ (mirror _ _ _ _) j ≤ R ρ (mirror _ _ _ _) i
            rw [e, e]
            exact b2 i j h1 h2 h3
          generalize setArr st3 (mirror (arrOf st3) (lo + m - (q + 1)) (lo + m) ((lo + m - (lo + m - (q + 1))) / 2)) = st4 at c1 c2 ⊢
        case' neg =>
          rw [if_neg hq]
          have c1 := b1
          have c2 := b2
          clear b4 sz3 b1 b2
          generalize st3 = st4 at c1 c2 ⊢
        all_goals
          have sz4 := c1.size
          refine wpS_bind (wpS_reverse ?_)
          have d1 := c1.mir (i := lo) (j := lo + m) (Nat.le_refl _) (by omega)
          have d2 : Up ρ (arrOf (setArr st4 (mirror (arrOf st4) lo (lo + m) ((lo + m - lo) / 2)))) lo (lo + m) := fun i j h1 h2 h3 => by
            have e := R_mir (ρ := ρ) (xs := arrOf st4) (i := lo) (j := lo + m) (by omega)
            show R ρ (mirror _ _ _ _) i ≤ R ρ (mirror _ _ _ _) j
            rw [e, e, if_pos ⟨h1, by omega⟩, if_pos ⟨by omega, h3⟩]
            exact c2 _ _ (by omega) (by omega) (by omega)
          generalize setArr st4 (mirror (arrOf st4) lo (lo + m) ((lo + m - lo) / 2)) = st5 at d1 d2 ⊢
          refine wpS_bind (wpS_mono (wpS_forRange (I := fun x c st' => st' = st5 ∧ c = (none, x) ∧ Up ρ (arrOf st5) lo (lo + x)) (Q := fun c st' => st' = st5 ∧ ∃ k, c = (none, k) ∧ 1 ≤ k ∧ k ≤ nrem ∧ Up ρ (arrOf st5) lo (lo + k)) ?st3 ?en3 ⟨rfl, rfl, d2⟩) ?po3)
          case en3 =>
            rintro c st' ⟨rfl, rfl, hu⟩
            rw [Nat.max_eq_right m2] at hu ⊢
            exact ⟨rfl, nrem, rfl, h1, Nat.le_refl _, hu⟩
          case st3 =>
            rintro x c st' hx1 hx2 ⟨rfl, rfl, hu⟩
            refine wpS_bind (wpS_at hL hS d1 (by omega) (by omega) ?_)
            by_cases hl : R ρ (arrOf st') (lo + x) < R ρ (arrOf st') (lo + x - 1)
            · simp only [hl, decide_true, if_true]
              exact wpS_pure ⟨rfl, x, rfl, by omega, by omega, hu⟩
            · simp only [hl, decide_false, Bool.false_eq_true, if_false]
              refine wpS_pure ⟨rfl, rfl, fun i j h1 h2 h3 => ?_⟩
              by_cases hj : j < lo + x
              · exact hu i j h1 h2 hj
              · obtain rfl : j = lo + x := by omega
                by_cases hi : i = lo + x
                · rw [hi]; exact Nat.le_refl _
                · have := hu i (lo + x - 1) h1 (by omega) (by omega)
                  omega
          case po3 =>
            rintro c st' ⟨rfl, k, rfl, k1, k2, hu⟩
            exact wpS_pure (h k st' d1 k1 k2 hu)
theorem R_bub {xs : Array Keyed} {z d : Nat} (hz : z < xs.size) (hd : d ≤ z) (k : Nat) : R ρ (bubble xs z d) k = if k = z - d then R ρ xs z else if z - d < k ∧ k ≤ z then R ρ xs (k - 1) else R ρ xs k := by
  have e := getElem?_bubble hz d hd k
  split
  · rename_i h; rw [if_pos h] at e; exact R_of e
  · rename_i h
    rw [if_neg h] at e
    split
    · rename_i g; rw [if_pos g] at e; exact R_of e
    · rename_i g; rw [if_neg g] at e; exact R_of e
theorem bub_pre {xs : Array Keyed} {z d : Nat} (hz : z < xs.size) (hd : d ≤ z) (k : Nat) (hk : k < z - d) : (bubble xs z d)[k]? = xs[k]? := by
  have e := getElem?_bubble hz d hd k
  rw [if_neg (by omega), if_neg (by omega)] at e
  exact e
theorem wpS_binG {n ok : Nat} {st : SortSt} {Q : Bool → SortSt → Prop} (hL : LtOk prog w A E s S (Lr ρ) κ) (hS : ∀ x ∈ a0.toList, S x) (hB : Bs κ p0 a0 lo st) (h1 : 1 ≤ ok) (hok : ok ≤ n) (hn : lo + n ≤ a0.size) (hu : Up ρ (arrOf st) lo (lo + ok))
    (h : ∀ st', Bs κ p0 a0 lo st' → Up ρ (arrOf st') lo (lo + n) → Q true st') : wpS (model prog w) A E s (binarySort' lo n ok) Q st := by
  rw [binarySort'_eq]
  refine wpS_bind (wpS_mono (wpS_forRange (I := fun k c st' => c = (none, ()) ∧ Bs κ p0 a0 lo st' ∧ Up ρ (arrOf st') lo (lo + k))
    (Q := fun c st' => c = (none, ()) ∧ Bs κ p0 a0 lo st' ∧ Up ρ (arrOf st') lo (lo + n)) ?sa ?ea ⟨rfl, hB, by rw [Nat.max_eq_left h1]; exact hu⟩) ?pa)
  case pa =>
    rintro c st' ⟨rfl, b1, b2⟩
    exact wpS_pure (h st' b1 b2)
  case ea =>
    rintro c st' ⟨e, b1, b2⟩
    rw [show max (max ok 1) n = n by omega] at b2
    exact ⟨e, b1, b2⟩
  case sa =>
    rintro k c st' k1 k2 ⟨rfl, b1, b2⟩
    have sz := b1.size
    refine wpS_bind (wpS_mono (wpS_forRange (I := fun x c st2 => st2 = st' ∧ ∃ l r, c = (none, l, r) ∧ l ≤ r ∧ r ≤ k ∧ r - l + x ≤ k ∧ (∀ i, lo ≤ i → i < lo + l → R ρ (arrOf st') i ≤ R ρ (arrOf st') (lo + k)) ∧ ∀ i, lo + r ≤ i → i < lo + k → R ρ (arrOf st') (lo + k) < R ρ (arrOf st') i)
      (Q := fun c st2 => st2 = st' ∧ ∃ l r, c = (none, l, r) ∧ l ≤ k ∧ (∀ i, lo ≤ i → i < lo + l → R ρ (arrOf st') i ≤ R ρ (arrOf st') (lo + k)) ∧ ∀ i, lo + l ≤ i → i < lo + k → R ρ (arrOf st') (lo + k) < R ρ (arrOf st') i) ?sb ?eb ⟨rfl, 0, k, rfl, by omega, by omega, by omega, fun i _ _ => by omega, fun i _ _ => by omega⟩) ?pb)
    case eb =>
      rintro c st2 ⟨rfl, l, r, rfl, l1, l2, l3, l4, l5⟩
      obtain rfl : l = r := by omega
      exact ⟨rfl, l, l, rfl, l2, l4, l5⟩
    case sb =>
      rintro x c st2 _ hx ⟨rfl, l, r, rfl, l1, l2, l3, l4, l5⟩
      dsimp only
      by_cases hge : l ≥ r
      · rw [if_pos hge]
        obtain rfl : l = r := by omega
        exact wpS_pure ⟨rfl, l, l, rfl, l2, l4, l5⟩
      · rw [if_neg hge]
        refine wpS_bind (wpS_at hL hS b1 (by omega) (by omega) ?_)
        by_cases hl : R ρ (arrOf st2) (lo + k) < R ρ (arrOf st2) (lo + (l + r) / 2)
        · simp only [hl, decide_true, if_true]
          refine wpS_pure ⟨rfl, l, (l + r) / 2, rfl, by omega, by omega, by omega, l4, fun i i1 i2 => ?_⟩
          have := b2 (lo + (l + r) / 2) i (by omega) i1 i2
          omega
        · simp only [hl, decide_false, Bool.false_eq_true, if_false]
          refine wpS_pure ⟨rfl, (l + r) / 2 + 1, r, rfl, by omega, by omega, by omega, fun i i1 i2 => ?_, l5⟩
          have := b2 i (lo + (l + r) / 2) i1 (by omega) (by omega)
          omega
    case pb =>
      rintro c st2 ⟨rfl, l, r, rfl, l1, l4, l5⟩
      show wpS _ _ _ _ (do moveDown' (lo + k) (lo + l); pure (ForInStep.yield (none, ()))) _ _
      rw [moveDown'_eq]
      have hks : lo + k < (arrOf st2).size := by omega
      refine wpS_bind (wpS_modify (wpS_pure ⟨rfl, b1.set (bubble_perm _ _ _) fun i hi => bub_pre hks (by omega) i (by omega), fun i j h1 h2 h3 => ?_⟩))
      show R ρ (bubble (arrOf st2) (lo + k) (lo + k - (lo + l))) i ≤ R ρ (bubble (arrOf st2) (lo + k) (lo + k - (lo + l))) j
      rw [R_bub hks (by omega), R_bub hks (by omega), show lo + k - (lo + k - (lo + l)) = lo + l by omega]
      by_cases hi : i = lo + l
      · rw [if_pos hi]
        by_cases hj : j = lo + l
        · rw [if_pos hj]; exact Nat.le_refl _
        · rw [if_neg hj, if_pos (by omega)]
          exact Nat.le_of_lt (l5 _ (by omega) (by omega))
      · rw [if_neg hi]
        by_cases hi2 : lo + l < i ∧ i ≤ lo + k
        · rw [if_pos hi2, if_neg (by omega), if_pos (by omega)]
          exact b2 _ _ (by omega) (by omega) (by omega)
        · rw [if_neg hi2]
          by_cases hj : j = lo + l
          · rw [if_pos hj]
            exact l4 _ h1 (by omega)
          · rw [if_neg hj]
            split
            · exact b2 _ _ h1 (by omega) (by omega)
            · exact b2 _ _ h1 (by omega) (by omega)
end
end Sm

end PartSortN

section PartSortO
set_option maxHeartbeats 800000
namespace Sm
open PySem PyProof.Rows
local macro_rules | `(tactic| delta mergeAtOpen) => `(tactic| delta $(Lean.mkCIdent (Lean.mkPrivateNameCore `PySem.Builtin.List.W1All `PySem.Builtin.mergeAt)))
section
variable {prog : Program} {w : World} {A : Around} {E : Value → Shared → Prop} {s : Shared} {ρ : Keyed → Nat} {S : Keyed → Prop} {κ : SortKind}
theorem wpS_set {σ : Type} {M : Model} {v : σ} {Q : PUnit → σ → Prop} {st : σ} (h : Q ⟨⟩ v) : wpS M A E s (set v : StateT σ Sem PUnit) Q st := by
  unfold wpS
  show wpAny M A ((MonadStateOf.set v : StateT σ Sem PUnit).run st) _ E s
  rw [StateT.run_set]
  exact wpAny_pure ⟨rfl, h⟩
/-- put back: the run of a list written over an array from a place on -/
theorem put_back : ∀ (r : List Keyed) (k n : Nat) (a : Array Keyed), n + k + r.length ≤ a.size → ((r.zipIdx k).foldl (fun a (p : Keyed × Nat) => a.setIfInBounds (n + p.2) p.1) a).toList = a.toList.take (n + k) ++ r ++ a.toList.drop (n + k + r.length)
  | [], k, n, a, _ => by simp
  | x :: r, k, n, a, h => by
    rw [List.length_cons] at h
    rw [List.zipIdx_cons, List.foldl_cons, put_back r (k + 1) n _ (by rw [Array.size_setIfInBounds]; omega), Array.toList_setIfInBounds]
    have l := Array.length_toList (xs := a)
    rw [show n + (k + 1) = n + k + 1 by omega, List.take_succ_eq_append_getElem (by rw [List.length_set]; omega), List.getElem_set_self, List.take_set_of_le (Nat.le_refl _), List.drop_set_of_lt (by omega), List.length_cons, show n + k + 1 + r.length = n + k + (r.length + 1) by omega]
    simp
theorem mem_ext {a : Array Keyed} {i j : Nat} {x : Keyed} (h : x ∈ (a.extract i j).toList) : ∃ t, i ≤ t ∧ t < j ∧ a[t]? = some x := by
  obtain ⟨k, hk⟩ := List.mem_iff_getElem?.mp h
  rw [ext_mid, List.getElem?_drop] at hk
  rw [List.getElem?_take] at hk
  split at hk
  · exact ⟨i + k, by omega, by assumption, by rw [← Array.getElem?_toList]; exact hk⟩
  · cases hk
theorem ext_at {a : Array Keyed} {i j k : Nat} {x : Keyed} (h : (a.extract i j)[k]? = some x) : a[i + k]? = some x ∧ i + k < j := by
  rw [← Array.getElem?_toList, ext_mid, List.getElem?_drop, List.getElem?_take] at h
  split at h
  · exact ⟨by rw [← Array.getElem?_toList]; exact h, by assumption⟩
  · cases h
theorem risen_ext {a : Array Keyed} {i j : Nat} (hu : Up ρ a i j) : Risen (Lr ρ) (a.extract i j).toList := by
  refine List.pairwise_iff_getElem.mpr fun p q hp hq hpq => ?_
  have e1 := ext_at (a := a) (i := i) (j := j) (k := p) (by rw [← Array.getElem?_toList]; exact List.getElem?_eq_getElem hp)
  have e2 := ext_at (a := a) (i := i) (j := j) (k := q) (by rw [← Array.getElem?_toList]; exact List.getElem?_eq_getElem hq)
  have := hu (i + p) (i + q) (by omega) (by omega) e2.2
  rw [R_at e1.1, R_at e2.1] at this
  exact decide_eq_false (by omega)
theorem pend_one {α : Type} {x y z : α} {r : List α} : ∀ l : List α, ((l ++ x :: y :: r).set l.length z).eraseIdx (l.length + 1) = l ++ z :: r
  | [] => rfl
  | a :: l => congrArg (a :: ·) (pend_one l)
theorem wpS_mergeAt {l r : List (Nat × Nat × Nat)} {sa na pw sb nb qw : Nat} {st : SortSt} {Q : Bool → SortSt → Prop} (hL : LtOk prog w A E s S (Lr ρ) κ) (hS : ∀ x ∈ (arrOf st).toList, S x) (hk : kindOf st = κ) (hf : failedOf st = none)
    (hp : pendingOf st = (l ++ (sa, na, pw) :: (sb, nb, qw) :: r).toArray) (e0 : sb = sa + na) (na1 : 1 ≤ na) (nb1 : 1 ≤ nb) (hz : sb + nb ≤ (arrOf st).size) (ua : Up ρ (arrOf st) sa sb) (ub : Up ρ (arrOf st) sb (sb + nb))
    (h : ∀ xs g, xs.Perm (arrOf st) → (∀ i, i < sa ∨ sb + nb ≤ i → xs[i]? = (arrOf st)[i]?) → Up ρ xs sa (sb + nb) → Q true (SortSt.mk' κ xs (l ++ (sa, na + nb, pw) :: r).toArray g none)) : wpS (model prog w) A E s (mergeAt' l.length) Q st := by
  delta mergeAt'
  delta mergeAtOpen
  dsimp only [elem_fold, gallop_fold, mergeLo_fold, mergeHi_fold]
  refine wpS_bind (wpS_get ?_)
  have g1 : (pendingOf st)[l.length]? = some (sa, na, pw) := by rw [hp]; simp
  have g2 : (pendingOf st)[l.length + 1]? = some (sb, nb, qw) := by rw [hp]; simp
  rw [g1, g2]
  dsimp only
  refine wpS_bind (wpS_set ?_)
  have ep : ((pendingOf st).setIfInBounds l.length (sa, na + nb, pw)).eraseIdxIfInBounds (l.length + 1) = (l ++ (sa, na + nb, pw) :: r).toArray := by
    rw [hp]
    apply Array.toList_inj.mp
    have hl : l.length + 1 < ((l ++ (sa, na, pw) :: (sb, nb, qw) :: r).toArray.setIfInBounds l.length (sa, na + nb, pw)).size := by simp
    unfold Array.eraseIdxIfInBounds
    rw [dif_pos hl, Array.toList_eraseIdx, Array.toList_setIfInBounds]
    exact pend_one l
  rw [ep]
  have hS' : ∀ (i : Nat) x, (arrOf st)[i]? = some x → S x := fun i x e => hS x (List.mem_of_getElem? (by rw [Array.getElem?_toList]; exact e))
  obtain ⟨xb, hxb⟩ : ∃ x, (arrOf st)[sb]? = some x := ⟨_, Array.getElem?_eq_getElem (by omega)⟩
  have rb := R_at (ρ := ρ) hxb
  rw [elem'_eq, hxb]
  refine wpS_bind (wpS_pure (wpS_bind (wpS_gallop (arr := arrOf st) (b := fun i => !decide (ρ xb < R ρ (arrOf st) (sa + i))) hL hk (by omega) (by omega) hS' (hS' _ _ hxb) ?_ ?_ ?_)))
  · intro i x hi hx
    rw [R_at hx]; rfl
  · intro i j hij hj
    have := ua (sa + i) (sa + j) (by omega) (by omega) (by omega)
    simp
    omega
  intro k hkn kt kf
  have kt' : ∀ i, sa ≤ i → i < sa + k → R ρ (arrOf st) i ≤ ρ xb := fun i h1 h2 => by
    have := kt (i - sa) (by omega)
    rw [show sa + (i - sa) = i by omega] at this
    simpa using this
  have kf' : ∀ i, sa + k ≤ i → i < sb → ρ xb < R ρ (arrOf st) i := fun i h1 h2 => by
    have := kf (i - sa) (by omega) (by omega)
    rw [show sa + (i - sa) = i by omega] at this
    simpa using this
  clear kt kf
  dsimp only
  by_cases e1 : (na - k == 0) = true
  · rw [if_pos e1]
    rw [beq_iff_eq] at e1
    have := h (arrOf st) (gallopOf st) (Array.Perm.refl _) (fun _ _ => rfl) fun i j h1 h2 h3 => by
      by_cases hi : i < sb
      · by_cases hj : j < sb
        · exact ua i j h1 h2 hj
        · have a1 := kt' i h1 (by omega)
          have a2 := ub sb j (Nat.le_refl _) (by omega) h3
          omega
      · exact ub i j (by omega) h2 h3
    refine wpS_pure ?_
    rw [← hk, ← hf] at this
    exact this
  rw [if_neg e1]
  rw [beq_iff_eq] at e1
  obtain ⟨xa, hxa⟩ : ∃ x, (arrOf st)[sa + k + (na - k) - 1]? = some x := ⟨_, Array.getElem?_eq_getElem (by omega)⟩
  have ra : R ρ (arrOf st) (sb - 1) = ρ xa := by rw [show sb - 1 = sa + k + (na - k) - 1 by omega]; exact R_at hxa
  rw [elem'_eq, hxa]
  refine wpS_bind (wpS_pure (wpS_bind (wpS_gallop (arr := arrOf st) (b := fun i => decide (R ρ (arrOf st) (sb + i) < ρ xa)) hL hk (by omega) (by omega) hS' (hS' _ _ hxa) ?_ ?_ ?_)))
  · intro i x hi hx
    rw [R_at hx]; rfl
  · intro i j hij hj
    have := ub (sb + i) (sb + j) (by omega) (by omega) (by omega)
    simp
    omega
  intro m hmn mt mf
  have mt' : ∀ i, sb ≤ i → i < sb + m → R ρ (arrOf st) i < ρ xa := fun i h1 h2 => by
    have := mt (i - sb) (by omega)
    rw [show sb + (i - sb) = i by omega] at this
    simpa using this
  have mf' : ∀ i, sb + m ≤ i → i < sb + nb → ρ xa ≤ R ρ (arrOf st) i := fun i h1 h2 => by
    have := mf (i - sb) (by omega) (by omega)
    rw [show sb + (i - sb) = i by omega] at this
    simpa using this
  clear mt mf
  dsimp only
  by_cases e2 : (m == 0) = true
  · rw [if_pos e2]
    rw [beq_iff_eq] at e2
    have := h (arrOf st) (gallopOf st) (Array.Perm.refl _) (fun _ _ => rfl) fun i j h1 h2 h3 => by
      by_cases hi : i < sb
      · by_cases hj : j < sb
        · exact ua i j h1 h2 hj
        · have a1 := ua i (sb - 1) h1 (by omega) (by omega)
          have a2 := mf' j (by omega) h3
          omega
      · exact ub i j (by omega) h2 h3
    refine wpS_pure ?_
    rw [← hk, ← hf] at this
    exact this
  rw [if_neg e2]
  rw [beq_iff_eq] at e2
  have ua' : Up ρ (arrOf st) (sa + k) sb := fun i j h1 h2 h3 => ua i j (by omega) h2 h3
  have ub' : Up ρ (arrOf st) sb (sb + m) := fun i j h1 h2 h3 => ub i j h1 h2 (by omega)
  have z1 : ((arrOf st).extract (sa + k) sb).size = na - k := by rw [Array.size_extract]; omega
  have z2 : ((arrOf st).extract sb (sb + m)).size = m := by rw [Array.size_extract]; omega
  have mr : ∀ M, M = mergeLo' ((arrOf st).extract (sa + k) sb) ((arrOf st).extract sb (sb + m)) ∨ M = mergeHi' ((arrOf st).extract (sa + k) sb) ((arrOf st).extract sb (sb + m)) → ∀ Q : Array Keyed → SortSt → Prop, (∀ y g, Good (Lr ρ) ((arrOf st).extract (sa + k) sb).toList ((arrOf st).extract sb (sb + m)).toList y.toList → Q y (setGal (setPending st (l ++ (sa, na + nb, pw) :: r).toArray) g)) → wpS (model prog w) A E s M Q (setPending st (l ++ (sa, na + nb, pw) :: r).toArray) := by
    intro M hM Q q
    have s1 : ∀ x ∈ ((arrOf st).extract (sa + k) sb).toList, S x := fun x hx => by
      obtain ⟨t, _, _, e⟩ := mem_ext hx
      exact hS' t x e
    have s2 : ∀ x ∈ ((arrOf st).extract sb (sb + m)).toList, S x := fun x hx => by
      obtain ⟨t, _, _, e⟩ := mem_ext hx
      exact hS' t x e
    have q1 : ∀ x ∈ ((arrOf st).extract (sa + k) sb).toList, ∀ y, ((arrOf st).extract sb (sb + m))[0]? = some y → Lr ρ x y = false := fun x hx y hy => by
      obtain ⟨t, t1, t2, e⟩ := mem_ext hx
      have e3 := (ext_at hy).1
      rw [Nat.add_zero, hxb] at e3
      cases e3
      have := kf' t t1 t2
      rw [R_at e] at this
      exact decide_eq_false (by omega)
    have q2 : ∀ x, ((arrOf st).extract (sa + k) sb)[((arrOf st).extract (sa + k) sb).size - 1]? = some x → ∀ y ∈ ((arrOf st).extract sb (sb + m)).toList, Lr ρ x y = false := fun x hx y hy => by
      obtain ⟨t, t1, t2, e⟩ := mem_ext hy
      have e3 := (ext_at hx).1
      rw [z1, show sa + k + (na - k - 1) = sa + k + (na - k) - 1 by omega, hxa] at e3
      cases e3
      have := mt' t t1 t2
      rw [R_at e] at this
      exact decide_eq_false (by omega)
    rcases hM with rfl | rfl
    · exact wpS_mergeLo Lr_swo hL hk (by omega) (by omega) s1 s2 (risen_ext ua') (risen_ext ub') q1 q2 q
    · exact wpS_mergeHi Lr_swo hL hk (by omega) (by omega) s1 s2 (risen_ext ua') (risen_ext ub') q1 q2 q
  by_cases hc : na - k ≤ m
  case' pos =>
    rw [if_pos hc]
    refine wpS_bind (mr _ (.inl rfl) _ fun y g hg => ?_)
  case' neg =>
    rw [if_neg hc]
    refine wpS_bind (mr _ (.inr rfl) _ fun y g hg => ?_)
  all_goals
    clear mr
    refine wpS_bind (wpS_modify (wpS_bind (wpS_get ?_)))
    have ly : y.toList.length = na - k + m := by rw [hg.1.length_eq, List.length_append, Array.length_toList, Array.length_toList, z1, z2]
    have pb := put_back y.toList 0 (sa + k) (arrOf st) (by rw [ly]; omega)
    rw [ly, Nat.add_zero] at pb
    have lT := Array.length_toList (xs := arrOf st)
    have eT : (arrOf st).toList = (arrOf st).toList.take (sa + k) ++ (((arrOf st).extract (sa + k) sb).toList ++ ((arrOf st).extract sb (sb + m)).toList) ++ (arrOf st).toList.drop (sa + k + (na - k + m)) := by
      have d1 : ((arrOf st).toList.take sb).drop (sa + k) ++ ((arrOf st).toList.take (sb + m)).drop sb = ((arrOf st).toList.drop (sa + k)).take (na - k + m) := by
        rw [List.drop_take, List.drop_take, show sb + m - sb = m by omega, show sb - (sa + k) = na - k by omega, List.take_add, List.drop_drop, show sa + k + (na - k) = sb by omega]
      have d2 : (arrOf st).toList.drop (sa + k + (na - k + m)) = ((arrOf st).toList.drop (sa + k)).drop (na - k + m) := by rw [List.drop_drop]
      rw [ext_mid, ext_mid, d1, d2, List.append_assoc, List.take_append_drop, List.take_append_drop]
    have hx : ∀ xs : Array Keyed, xs.toList = (arrOf st).toList.take (sa + k) ++ y.toList ++ (arrOf st).toList.drop (sa + k + (na - k + m)) → Q true (SortSt.mk' κ xs (l ++ (sa, na + nb, pw) :: r).toArray g none) := fun xs ex => by
      have lk : ((arrOf st).toList.take (sa + k)).length = sa + k := by rw [List.length_take, lT]; omega
      have old : ∀ i, i < sa + k ∨ sb + m ≤ i → xs[i]? = (arrOf st)[i]? := fun i hi => by
        rw [← Array.getElem?_toList, ← Array.getElem?_toList, ex]
        rcases hi with hi | hi
        · rw [List.append_assoc, List.getElem?_append_left (by omega), List.getElem?_take, if_pos hi]
        · rw [List.getElem?_append_right (by rw [List.length_append, lk, ly]; omega), List.length_append, lk, ly, List.getElem?_drop]
          congr 1; omega
      have mid : ∀ i, sa + k ≤ i → i < sb + m → ∃ x, xs[i]? = some x ∧ y.toList[i - (sa + k)]? = some x := fun i h1 h2 => by
        have e : xs[i]? = y.toList[i - (sa + k)]? := by
          rw [← Array.getElem?_toList, ex, List.getElem?_append_left (by rw [List.length_append, lk, ly]; omega), List.getElem?_append_right (by omega), lk]
        have hl : i - (sa + k) < y.toList.length := by omega
        exact ⟨_, e.trans (List.getElem?_eq_getElem hl), List.getElem?_eq_getElem hl⟩
      have val : ∀ x ∈ y.toList, (∃ t, sa + k ≤ t ∧ t < sb ∧ R ρ (arrOf st) t = ρ x) ∨ ∃ t, sb ≤ t ∧ t < sb + m ∧ R ρ (arrOf st) t = ρ x := fun x hx => by
        rcases List.mem_append.mp (hg.1.mem_iff.mp hx) with hx | hx
        · obtain ⟨t, t1, t2, e⟩ := mem_ext hx
          exact .inl ⟨t, t1, t2, R_at e⟩
        · obtain ⟨t, t1, t2, e⟩ := mem_ext hx
          exact .inr ⟨t, t1, t2, R_at e⟩
      refine h xs g ?_ (fun i hi => old i (by omega)) fun i j h1 h2 h3 => ?_
      · refine Array.perm_iff_toList_perm.mpr ?_
        have pp := ((hg.1.append_left ((arrOf st).toList.take (sa + k))).append_right ((arrOf st).toList.drop (sa + k + (na - k + m))))
        rw [← eT, ← ex] at pp
        exact pp
      · by_cases hi : i < sa + k
        · rw [R_of (old i (.inl hi))]
          have a1 := kt' i h1 hi
          by_cases hj : j < sa + k
          · rw [R_of (old j (.inl hj))]
            exact ua i j h1 h2 (by omega)
          · by_cases hj2 : j < sb + m
            · obtain ⟨x, ex1, ex2⟩ := mid j (by omega) hj2
              rw [R_at ex1]
              rcases val x (List.mem_of_getElem? ex2) with ⟨t, t1, t2, t3⟩ | ⟨t, t1, t2, t3⟩
              · have := ua i t h1 (by omega) t2
                omega
              · have := ub sb t (Nat.le_refl _) t1 (by omega)
                omega
            · rw [R_of (old j (.inr (by omega)))]
              have := ub sb j (Nat.le_refl _) (by omega) h3
              omega
        · by_cases hi2 : i < sb + m
          · obtain ⟨x, ex1, ex2⟩ := mid i (by omega) hi2
            rw [R_at ex1]
            by_cases hj2 : j < sb + m
            · obtain ⟨z, ez1, ez2⟩ := mid j (by omega) hj2
              rw [R_at ez1]
              rcases Nat.lt_or_ge i j with hij | hij
              · have := of_decide_eq_false (hg.2.at (show i - (sa + k) < j - (sa + k) by omega) ex2 ez2)
                omega
              · obtain rfl : i = j := by omega
                rw [ex1] at ez1; cases ez1; exact Nat.le_refl _
            · rw [R_of (old j (.inr (by omega)))]
              rcases val x (List.mem_of_getElem? ex2) with ⟨t, t1, t2, t3⟩ | ⟨t, t1, t2, t3⟩
              · have a2 := ua t (sb - 1) (by omega) (by omega) (by omega)
                have a3 := mf' j (by omega) h3
                omega
              · have := ub t j t1 (by omega) h3
                omega
          · rw [R_of (old i (.inr (by omega))), R_of (old j (.inr (by omega)))]
            exact ub i j (by omega) h2 h3
    have fin := hx _ pb
    refine wpS_pure ?_
    have en : (failedOf st).isNone = true := by rw [hf]; rfl
    show Q (failedOf st).isNone _
    rw [en]
    rw [← hk, ← hf] at fin
    exact fin
end
end Sm

end PartSortO

section PartSortP
set_option maxHeartbeats 800000
namespace Sm
open PySem PyProof.Rows
section
variable {prog : Program} {w : World} {A : Around} {E : Value → Shared → Prop} {s : Shared} {ρ : Keyed → Nat} {S : Keyed → Prop} {κ : SortKind}
def Adj (ρ : Keyed → Nat) (xs : Array Keyed) : Nat → List (Nat × Nat × Nat) → Nat → Prop
  | a, [], b => a = b
  | a, (p, n, _) :: r, b => p = a ∧ 1 ≤ n ∧ Up ρ xs a (a + n) ∧ Adj ρ xs (a + n) r b
theorem Adj.le {xs : Array Keyed} : ∀ {a b : Nat} (ps : List (Nat × Nat × Nat)), Adj ρ xs a ps b → a + ps.length ≤ b
  | a, b, [], h => Nat.le_of_eq h
  | a, b, (p, n, q) :: r, h => by
    have := Adj.le r h.2.2.2
    have := h.2.1
    rw [List.length_cons]; omega
theorem Adj.congr {xs ys : Array Keyed} : ∀ {a b : Nat} (ps : List (Nat × Nat × Nat)), (∀ i, a ≤ i → i < b → ys[i]? = xs[i]?) → Adj ρ xs a ps b → Adj ρ ys a ps b
  | a, b, [], _, h => h
  | a, b, (p, n, q) :: r, e, h => by
    have l := Adj.le r h.2.2.2
    refine ⟨h.1, h.2.1, fun i j h1 h2 h3 => ?_, Adj.congr r (fun i h1 h2 => e i (by omega) h2) h.2.2.2⟩
    rw [R_of (e i h1 (by omega)), R_of (e j (by omega) (by omega))]
    exact h.2.2.1 i j h1 h2 h3
theorem Adj.split {xs : Array Keyed} : ∀ {a b : Nat} (l r : List (Nat × Nat × Nat)), Adj ρ xs a (l ++ r) b → ∃ c, Adj ρ xs a l c ∧ Adj ρ xs c r b
  | a, b, [], r, h => ⟨a, rfl, h⟩
  | a, b, (p, n, q) :: l, r, h => by
    obtain ⟨c, h1, h2⟩ := Adj.split l r h.2.2.2
    exact ⟨c, ⟨h.1, h.2.1, h.2.2.1, h1⟩, h2⟩
theorem Adj.join {xs : Array Keyed} : ∀ {a b c : Nat} (l r : List (Nat × Nat × Nat)), Adj ρ xs a l c → Adj ρ xs c r b → Adj ρ xs a (l ++ r) b
  | a, b, c, [], r, h, g => by cases h; exact g
  | a, b, c, (p, n, q) :: l, r, h, g => ⟨h.1, h.2.1, h.2.2.1, Adj.join l r h.2.2.2 g⟩
theorem Adj.modify {xs : Array Keyed} {f : Nat × Nat × Nat → Nat × Nat × Nat} (hf : ∀ x, (f x).1 = x.1 ∧ (f x).2.1 = x.2.1) : ∀ {a b : Nat} (ps : List (Nat × Nat × Nat)) (i : Nat), Adj ρ xs a ps b → Adj ρ xs a (ps.modify i f) b
  | a, b, [], i, h => by rw [List.modify_nil]; exact h
  | a, b, (p, n, q) :: r, 0, h => by
    rw [List.modify_zero_cons]
    have e := hf (p, n, q)
    revert e
    generalize f (p, n, q) = y
    obtain ⟨p', n', q'⟩ := y
    rintro ⟨e1, e2⟩
    have e1 : p' = p := e1
    have e2 : n' = n := e2
    subst e1 e2
    exact h
  | a, b, (p, n, q) :: r, i + 1, h => by
    rw [List.modify_succ_cons]
    exact ⟨h.1, h.2.1, h.2.2.1, Adj.modify hf r i h.2.2.2⟩
structure Gs (ρ : Keyed → Nat) (κ : SortKind) (a0 : Array Keyed) (ps : List (Nat × Nat × Nat)) (hi : Nat) (st : SortSt) : Prop where
  kind : kindOf st = κ
  pend : pendingOf st = ps.toArray
  fail : failedOf st = none
  perm : (arrOf st).Perm a0
  adj : Adj ρ (arrOf st) 0 ps hi
theorem Gs.size {a0 : Array Keyed} {ps : List (Nat × Nat × Nat)} {hi : Nat} {st : SortSt} (h : Gs ρ κ a0 ps hi st) : (arrOf st).size = a0.size := h.perm.size_eq
theorem Gs.push {a0 : Array Keyed} {ps : List (Nat × Nat × Nat)} {lo n : Nat} {st : SortSt} (h : Gs ρ κ a0 ps lo st) (u : Up ρ (arrOf st) lo (lo + n)) (n1 : 1 ≤ n) : Gs ρ κ a0 (ps ++ [(lo, n, 0)]) (lo + n) (setPending st ((pendingOf st).push (lo, n, 0))) :=
  ⟨h.kind, by show (pendingOf st).push _ = _; rw [h.pend, List.push_toArray], h.fail, h.perm, Adj.join ps _ h.adj ⟨rfl, n1, u, rfl⟩⟩
theorem Gs.mod {a0 : Array Keyed} {ps : List (Nat × Nat × Nat)} {lo i pw : Nat} {st : SortSt} (h : Gs ρ κ a0 ps lo st) : Gs ρ κ a0 (ps.modify i fun x => (x.1, x.2.1, pw)) lo (setPending st ((pendingOf st).modify i fun x => (x.1, x.2.1, pw))) :=
  ⟨h.kind, by
    show (pendingOf st).modify i (fun x => (x.1, x.2.1, pw)) = _
    rw [h.pend]
    apply Array.toList_inj.mp
    rw [Array.toList_modify], h.fail, h.perm, Adj.modify (f := fun x : Nat × Nat × Nat => (x.1, x.2.1, pw)) (fun _ => ⟨rfl, rfl⟩) ps i h.adj⟩
theorem wpS_mergeP {a0 : Array Keyed} {ps : List (Nat × Nat × Nat)} {hi i : Nat} {st : SortSt} {Q : Bool → SortSt → Prop} (hL : LtOk prog w A E s S (Lr ρ) κ) (hS : ∀ x ∈ a0.toList, S x) (G : Gs ρ κ a0 ps hi st) (hz : hi ≤ a0.size) (hi2 : i + 1 < ps.length)
    (h : ∀ st' ps', Gs ρ κ a0 ps' hi st' → ps'.length + 1 = ps.length → (∀ i, hi ≤ i → (arrOf st')[i]? = (arrOf st)[i]?) → Q true st') : wpS (model prog w) A E s (mergeAt' i) Q st := by
  have e1 : ps = ps.take i ++ ps.drop i := (List.take_append_drop ..).symm
  have l1 : (ps.take i).length = i := by rw [List.length_take]; omega
  obtain ⟨⟨sa, na, pw⟩, t, e2⟩ : ∃ x t, ps.drop i = x :: t := by
    cases hd : ps.drop i with
    | nil => have := congrArg List.length hd; rw [List.length_drop, List.length_nil] at this; omega
    | cons x t => exact ⟨x, t, rfl⟩
  obtain ⟨⟨sb, nb, qw⟩, r, rfl⟩ : ∃ x r, t = x :: r := by
    cases t with
    | nil => have := congrArg List.length e2; rw [List.length_drop, List.length_cons, List.length_nil] at this; omega
    | cons x r => exact ⟨x, r, rfl⟩
  rw [e2] at e1
  generalize ps.take i = l at e1 l1
  subst e1 l1
  clear e2
  obtain ⟨c, a1, rfl, n1, u1, rfl, n2, u2, a2⟩ := Adj.split l _ G.adj
  have l2 := Adj.le r a2
  refine wpS_mergeAt hL (fun x hx => hS x ((Array.perm_iff_toList_perm.mp G.perm).mem_iff.mp hx)) G.kind G.fail G.pend rfl n1 n2 (by rw [G.size]; omega) u1 u2 fun xs g pm old up => ?_
  refine h _ _ ⟨rfl, rfl, rfl, pm.trans G.perm, ?_⟩ ?_ fun i hi => old i (.inr (by omega))
  · refine Adj.join l _ (Adj.congr l (fun i _ h2 => old i (.inl h2)) a1) ⟨rfl, by omega, by rw [← Nat.add_assoc]; exact up, ?_⟩
    rw [← Nat.add_assoc]
    exact Adj.congr r (fun i h1 _ => old i (.inr h1)) a2
  · rw [List.length_append, List.length_append]
    rfl
theorem wpS_sortAll {a0 : Array Keyed} {st : SortSt} {Q : Unit → SortSt → Prop} (hL : LtOk prog w A E s S (Lr ρ) κ) (hS : ∀ x ∈ a0.toList, S x) (hk : kindOf st = κ) (hp : pendingOf st = #[]) (hf : failedOf st = none) (ha : arrOf st = a0)
    (h : ∀ st', (arrOf st').Perm a0 → failedOf st' = none → Up ρ (arrOf st') 0 a0.size → Q () st') : wpS (model prog w) A E s sortRuns' Q st := by
  rw [sortRuns'_eq]
  refine wpS_bind (wpS_get ?_)
  dsimp only
  rw [ha]
  generalize minRun' a0.size a0.size 0 = mr
  refine wpS_bind (wpS_mono (wpS_forRange (I := fun x c st' => ∃ lo ps, c = (none, lo) ∧ Gs ρ κ a0 ps lo st' ∧ x ≤ lo ∧ lo ≤ a0.size)
    (Q := fun c st' => ∃ ps, c = (none, a0.size) ∧ Gs ρ κ a0 ps a0.size st') ?sa ?ea ⟨0, [], rfl, ⟨hk, hp, hf, by rw [ha], rfl⟩, Nat.le_refl _, Nat.zero_le _⟩) ?pa)
  case ea =>
    rintro c st' ⟨lo, ps, rfl, G, h1, h2⟩
    obtain rfl : lo = a0.size := by omega
    exact ⟨ps, rfl, G⟩
  case pa =>
    rintro c st' ⟨ps, rfl, G⟩
    dsimp only
    have l0 := Adj.le ps G.adj
    refine wpS_bind (wpS_mono (wpS_forRange (I := fun x c st' => ∃ ps, c = (none, ()) ∧ Gs ρ κ a0 ps a0.size st' ∧ (ps.length ≤ 1 ∨ ps.length + x ≤ a0.size)) (Q := fun c st' => ∃ ps, c = (none, ()) ∧ Gs ρ κ a0 ps a0.size st' ∧ ps.length ≤ 1) ?sb ?eb ⟨ps, rfl, G, .inr (by omega)⟩) ?pb)
    case eb =>
      rintro c st' ⟨ps, rfl, G, h1⟩
      exact ⟨ps, rfl, G, by omega⟩
    case pb =>
      rintro c st' ⟨ps, rfl, G, h1⟩
      refine wpS_pure (h st' G.perm G.fail ?_)
      have ad := G.adj
      match ps, h1, ad with
      | [], _, ad => exact fun i j h1 h2 h3 => by have : 0 = a0.size := ad; omega
      | [(p, n, q)], _, ad =>
        obtain ⟨rfl, n1, u, e⟩ := ad
        have e : 0 + n = a0.size := e
        rw [e] at u
        exact u
      | _ :: _ :: _, h1, _ => simp at h1
    case sb =>
      rintro x c st' _ hx ⟨ps, rfl, G, h1⟩
      refine wpS_bind (wpS_get ?_)
      have sz : (pendingOf st').size = ps.length := by rw [G.pend, List.size_toArray]
      rw [sz]
      by_cases hc : ps.length ≤ 1
      · rw [if_pos hc]
        exact wpS_pure ⟨ps, rfl, G, hc⟩
      · rw [if_neg hc]
        refine wpS_bind (wpS_mergeP hL hS G (Nat.le_refl _) ?ix fun st2 ps' G' l' _ => ?_)
        case ix =>
          generalize Option.any _ _ = b
          cases b
          · rw [if_neg Bool.false_ne_true]; omega
          · rw [if_pos rfl]; omega
        exact wpS_pure ⟨ps', rfl, G', by omega⟩
  case sa =>
    rintro x c st' _ hx ⟨lo, ps, rfl, G, h1, h2⟩
    dsimp only
    by_cases hc : lo ≥ a0.size
    · rw [if_pos hc]
      obtain rfl : lo = a0.size := by omega
      exact wpS_pure ⟨ps, rfl, G⟩
    rw [if_neg hc]
    have B0 : Bs κ ps.toArray (arrOf st') lo st' := ⟨G.kind, G.pend, G.fail, Array.Perm.refl _, fun _ _ => rfl⟩
    have sz := G.size
    have hS1 : ∀ x ∈ (arrOf st').toList, S x := fun x hx => hS x ((Array.perm_iff_toList_perm.mp G.perm).mem_iff.mp hx)
    refine wpS_bind (wpS_countG hL hS1 B0 (by omega) (by omega) fun m st2 B1 m1 m2 u1 => ?_)
    dsimp only
    have nx : ∀ n st3, Bs κ ps.toArray (arrOf st') lo st3 → Up ρ (arrOf st3) lo (lo + n) → Gs ρ κ a0 ps lo st3 := fun n st3 B u => ⟨B.kind, B.pend, B.fail, B.perm.trans G.perm, Adj.congr ps (fun i _ h2 => B.pre i h2) G.adj⟩
    by_cases hm : m < mr
    case' pos =>
      rw [if_pos hm]
      refine wpS_bind (wpS_lift (wpAny_rule ⟨rfl, ?_⟩))
      refine wpS_bind (wpS_binG hL hS1 B1 m1 (by omega) (by omega) u1 fun st3 B2 u2 => ?_)
      simp only [Bool.not_true, Bool.false_eq_true, if_false]
      have n1 : 1 ≤ min (a0.size - lo) mr := by omega
      have n2 : lo + min (a0.size - lo) mr ≤ a0.size := by omega
      have G2 := nx _ st3 B2 u2
      generalize min (a0.size - lo) mr = n at u2 n1 n2 ⊢
    case' neg =>
      rw [if_neg hm]
      have G2 := nx _ st2 B1 u1
      have u2 := u1
      have n1 := m1
      have n2 : lo + m ≤ a0.size := by omega
      clear u1 m1 m2 hm
      generalize m = n at u2 n1 n2 ⊢
      clear B1
      generalize st2 = st3 at G2 u2 ⊢
    all_goals
      refine wpS_bind (wpS_get ?_)
      generalize (pendingOf st3).back? = bk
      match bk with
      | none => exact wpS_bind (wpS_modify (wpS_pure ⟨_, _, rfl, G2.push u2 n1, by omega, n2⟩))
      | some (s1, k1, q1) =>
        dsimp only
        generalize power' a0.size (2 * s1 + k1) (2 * s1 + k1 + k1 + n) a0.size = pw
        refine wpS_bind (wpS_mono (wpS_forRange (I := fun x c st' => c = (none, ()) ∧ ∃ ps, Gs ρ κ a0 ps lo st' ∧ Up ρ (arrOf st') lo (lo + n)) (Q := fun c st' => c = (none, ()) ∧ ∃ ps, Gs ρ κ a0 ps lo st' ∧ Up ρ (arrOf st') lo (lo + n)) ?sc ?ec ⟨rfl, ps, G2, u2⟩) ?pc)
        case ec => exact fun c st' h => h
        case pc =>
          rintro c st4 ⟨rfl, ps4, G4, u4⟩
          exact wpS_bind (wpS_modify (wpS_bind (wpS_modify (wpS_pure ⟨_, _, rfl, Gs.push G4.mod u4 n1, by omega, n2⟩))))
        case sc =>
          rintro t c st4 _ ht ⟨rfl, ps4, G4, u4⟩
          refine wpS_bind (wpS_get ?_)
          have sz4 : (pendingOf st4).size = ps4.length := by rw [G4.pend, List.size_toArray]
          rw [sz4]
          by_cases hl : ps4.length > 1
          · rw [if_pos hl]
            obtain ⟨⟨f1, f2, older⟩, hf⟩ : ∃ y, (pendingOf st4)[ps4.length - 2]? = some y := ⟨_, Array.getElem?_eq_getElem (by omega)⟩
            rw [hf]
            dsimp only
            by_cases ho : older ≤ pw
            · rw [if_pos ho]
              exact wpS_pure ⟨rfl, ps4, G4, u4⟩
            · rw [if_neg ho]
              refine wpS_bind (wpS_mergeP hL hS G4 h2 (by omega) fun st5 ps5 G5 l5 old => ?_)
              refine wpS_pure ⟨rfl, ps5, G5, fun i j i1 i2 i3 => ?_⟩
              rw [R_of (old i i1), R_of (old j (by omega))]
              exact u4 i j i1 i2 i3
          · rw [if_neg hl]
            exact wpS_pure ⟨rfl, ps4, G4, u4⟩
end
end Sm

end PartSortP

section PartSortX
set_option maxHeartbeats 800000
namespace Sx
open PySem PySem.W PySem.Calls PyProof.Rows Sm Sq
section
variable {β : Type} {blt : β → β → Bool}
structure Or (blt : β → β → Bool) : Prop where
  irr : ∀ a, blt a a = false
  asy : ∀ a b, blt a b = true → blt b a = false
  tr : ∀ a b c, blt b a = false → blt c b = false → blt c a = false
theorem cnt_le {p q : β → Bool} (h : ∀ z, p z = true → q z = true) : ∀ l : List β, l.countP p ≤ l.countP q
  | [] => Nat.le_refl _
  | z :: l => by
    have := cnt_le h l
    rw [List.countP_cons, List.countP_cons]
    cases hp : p z with
    | false => simp; omega
    | true => rw [h z hp]; simp; omega
theorem cnt_lt {p q : β → Bool} (h : ∀ z, p z = true → q z = true) {a : β} (ha : q a = true) (hb : p a = false) : ∀ l : List β, a ∈ l → l.countP p < l.countP q
  | z :: l, hm => by
    rw [List.countP_cons, List.countP_cons]
    rcases List.mem_cons.mp hm with rfl | hm
    · have := cnt_le h l
      rw [ha, hb]; simp; omega
    · have := cnt_lt h ha hb l hm
      cases hp : p z with
      | false => simp; omega
      | true => rw [h z hp]; simp; omega
def rk (blt : β → β → Bool) (ts : List β) (c : β) : Nat := ts.countP fun z => blt z c
theorem rk_lt (O : Or blt) {ts : List β} {a b : β} (ha : a ∈ ts) : decide (rk blt ts a < rk blt ts b) = blt a b := by
  cases h : blt a b with
  | true =>
    refine decide_eq_true (cnt_lt (p := fun z => blt z a) (q := fun z => blt z b) (fun z hz => ?_) h (O.irr a) ts ha)
    cases hq : blt z b with
    | true => rfl
    | false => rw [O.tr a b z (O.asy a b h) hq] at hz; cases hz
  | false =>
    refine decide_eq_false (Nat.not_lt.mpr (cnt_le (p := fun z => blt z b) (q := fun z => blt z a) (fun z hz => ?_) ts))
    cases hq : blt z a with
    | true => rfl
    | false => rw [O.tr b a z h hq] at hz; cases hz
theorem perm_map {α γ : Type} {f : α → γ} : ∀ (l : List γ) (r : List α), l.Perm (r.map f) → ∃ ix : List α, ix.Perm r ∧ l = ix.map f
  | [], r, h => by
    have := h.symm.eq_nil
    rw [List.map_eq_nil_iff] at this
    subst this
    exact ⟨[], .refl _, rfl⟩
  | x :: l, r, h => by
    obtain ⟨i, hi, rfl⟩ := List.mem_map.mp (h.mem_iff.mp (List.mem_cons_self ..))
    obtain ⟨r1, r2, rfl⟩ := List.append_of_mem hi
    have h1 : (f i :: l).Perm (f i :: (r1 ++ r2).map f) := h.trans (by rw [← List.map_cons]; exact List.perm_middle.map f)
    obtain ⟨ix, p, e⟩ := perm_map l (r1 ++ r2) (List.perm_cons _ |>.mp h1)
    exact ⟨i :: ix, (p.cons i).trans List.perm_middle.symm, by rw [e]; rfl⟩
end
section
variable {prog : Program} {w : World} {A : Around} {E : Value → Shared → Prop} {s : Shared} {β : Type} {blt : β → β → Bool} {d : β}
theorem run_any {κ : SortKind} {ks vs : List Value} {ts : List β} {Q : Unit × SortSt → Shared → Prop} (O : Or blt) (hk : ks.length = vs.length) (hl : ks.length = ts.length) (fn : ∀ (i j : Nat) v a b, ks[i]? = some v → ks[j]? = some v → ts[i]? = some a → ts[j]? = some b → a = b)
    (cmp : ∀ (i j : Nat) u v a b, ks[i]? = some u → ks[j]? = some v → ts[i]? = some a → ts[j]? = some b → ∀ C : Bool → Shared → Prop, C (blt a b) s → wpAny (model prog w) A (keyLt' κ u v) C (fun _ _ => False) s)
    (h : ∀ (st : SortSt) (ix : List Nat), (arrOf st).map (·.2) = (ix.map fun i => vs.getD i Value.none).toArray → failedOf st = none → ix.Perm (List.range vs.length) → ix.Pairwise (fun i j => blt (ts.getD j d) (ts.getD i d) = false) → Q ((), st) s) :
    wpAny (model prog w) A (sortRuns'.run (SortSt.mk' κ (ks.toArray.zip vs.toArray) #[] 7 none)) Q E s := by
  have ex : ∀ v, (∃ i : Nat, ks[i]? = some v) → ∃ c, ∀ (i : Nat) a, ks[i]? = some v → ts[i]? = some a → c = a := fun v ⟨i, hi⟩ => by
    have li := (List.getElem?_eq_some_iff.mp hi).1
    exact ⟨ts[i]'(by omega), fun j a hj ha => fn i j v _ _ hi hj (List.getElem?_eq_getElem (by omega)) ha⟩
  obtain ⟨val, hval⟩ : ∃ val : Value → β, ∀ (i : Nat) v a, ks[i]? = some v → ts[i]? = some a → val v = a := by
    refine ⟨fun v => by
      classical
      exact if g : ∃ i : Nat, ks[i]? = some v then Classical.choose (ex v g) else d, fun i v a hv ha => ?_⟩
    dsimp only
    rw [dif_pos ⟨i, hv⟩]
    exact Classical.choose_spec (ex v ⟨i, hv⟩) i a hv ha
  have za : ∀ i : Nat, (ks.toArray.zip vs.toArray).toList[i]? = (ks.zip vs)[i]? := fun i => by rw [Array.toList_zip]
  have hL : LtOk prog w A E s (fun x => ∃ i : Nat, ks[i]? = some x.1) (Lr fun x => rk blt ts (val x.1)) κ := by
    rintro x y st Q ⟨i, hi⟩ ⟨j, hj⟩ kd q
    have li := (List.getElem?_eq_some_iff.mp hi).1
    have lj := (List.getElem?_eq_some_iff.mp hj).1
    have ti : ts[i]? = some (ts[i]'(by omega)) := List.getElem?_eq_getElem (by omega)
    have tj : ts[j]? = some (ts[j]'(by omega)) := List.getElem?_eq_getElem (by omega)
    rw [lt'_eq]
    refine wpS_bind (wpS_get ?_)
    rw [kd]
    refine wpS_bind (wpS_lift (wpAny_attempt (wpAny_mono (cmp i j _ _ _ _ hi hj ti tj (fun b s' => s' = s ∧ b = blt (ts[i]'(by omega)) (ts[j]'(by omega))) ⟨rfl, rfl⟩) (fun b s' z => ?_) fun _ _ z => z.elim)))
    obtain ⟨rfl, rfl⟩ := z
    refine ⟨rfl, wpS_pure ?_⟩
    have e := rk_lt O (b := ts[j]'(by omega)) (show ts[i]'(by omega) ∈ ts from List.getElem_mem _)
    rw [← e, ← hval i _ _ hi ti, ← hval j _ _ hj tj]
    exact q
  have hS : ∀ x ∈ (ks.toArray.zip vs.toArray).toList, ∃ i : Nat, ks[i]? = some x.1 := fun x hx => by
    rw [Array.toList_zip] at hx
    have := (List.of_mem_zip (show (x.1, x.2) ∈ ks.zip vs from hx)).1
    exact List.mem_iff_getElem?.mp this
  refine wpAny_mono (wpS_sortAll (Q := fun _ st' => ∃ ix : List Nat, (arrOf st').map (·.2) = (ix.map fun i => vs.getD i Value.none).toArray ∧ failedOf st' = none ∧ ix.Perm (List.range vs.length) ∧ ix.Pairwise (fun i j => blt (ts.getD j d) (ts.getD i d) = false)) hL hS rfl rfl rfl rfl fun st' pm ff up => ?_) ?_ fun _ _ z => z
  · have el : (ks.toArray.zip vs.toArray).toList = (List.range vs.length).map fun i => (ks.getD i Value.none, vs.getD i Value.none) := by
      rw [Array.toList_zip]
      refine List.ext_getElem (by simp [hk]) fun i h1 h2 => ?_
      have a1 : i < ks.length := by simp at h1; omega
      have a2 : i < vs.length := by simp at h1; omega
      simp [List.getD_eq_getElem?_getD, a1, a2]
    have pl := Array.perm_iff_toList_perm.mp pm
    rw [el] at pl
    obtain ⟨ix, pi, ei⟩ := perm_map _ _ pl
    refine ⟨ix, ?_, ff, pi, ?_⟩
    · apply Array.toList_inj.mp
      rw [Array.toList_map, ei, List.map_map]
      rfl
    · rw [List.pairwise_iff_getElem]
      intro p q hp hq hpq
      have zx : (ks.toArray.zip vs.toArray).size = vs.length := by rw [Array.size_zip, List.size_toArray, List.size_toArray, hk, Nat.min_self]
      have lx : ix.length = vs.length := by rw [pi.length_eq, List.length_range]
      have u := up p q (Nat.zero_le _) (by omega) (by omega)
      have g : ∀ p (hp : p < ix.length), R (fun x => rk blt ts (val x.1)) (arrOf st') p = rk blt ts (ts.getD ix[p] d) := fun p hp => by
        have e1 : (arrOf st')[p]? = some (ks.getD ix[p] Value.none, vs.getD ix[p] Value.none) := by
          rw [← Array.getElem?_toList, ei, List.getElem?_map, List.getElem?_eq_getElem hp]
          rfl
        have hb : ix[p] < vs.length := List.mem_range.mp (pi.mem_iff.mp (List.getElem_mem hp))
        have t1 : ts[ix[p]]? = some (ts.getD ix[p] d) := by
          have : ix[p] < ts.length := by omega
          simp [List.getD_eq_getElem?_getD, this]
        have k1 : ks[ix[p]]? = some (ks.getD ix[p] Value.none) := by
          have : ix[p] < ks.length := by omega
          simp [List.getD_eq_getElem?_getD, this]
        rw [R_at e1]
        dsimp only
        rw [hval _ _ _ k1 t1]
      rw [g p hp, g q hq] at u
      have hb : ix[q] < vs.length := List.mem_range.mp (pi.mem_iff.mp (List.getElem_mem hq))
      have tm : ts.getD ix[q] d ∈ ts := by
        have : ix[q] < ts.length := by omega
        simp [List.getD_eq_getElem?_getD, this]
      rw [← rk_lt O tm]
      exact decide_eq_false (by omega)
  · rintro ⟨⟨⟩, st'⟩ s' ⟨rfl, ix, e1, e2, e3, e4⟩
    exact h st' ix e1 e2 e3 e4
end
end Sx

end PartSortX

section PartSortY
set_option maxHeartbeats 800000
namespace Sx
open PySem PySem.W PySem.Calls PyProof.Rows Sm Sq
section
variable {prog : Program} {w : World} {A : Around} {E : Value → Shared → Prop} {s : Shared} {β : Type} {blt : β → β → Bool} {d : β}
theorem sort_G {a : Addr} {vs : List Value} {ts : List β} {κ : SortKind} {n : Nat} {P : PySem.Fin → Shared → Prop} (O : Or blt) (gA : s.heap.get? a = some (seqObj "list" vs.toArray n)) (zl : vs.length ≤ sizeLine) (hl : vs.length = ts.length)
    (fn : ∀ (i j : Nat) v a b, vs[i]? = some v → vs[j]? = some v → ts[i]? = some a → ts[j]? = some b → a = b)
    (kd : ∀ h6 : Heap, (∀ b o, b ≠ a → s.heap.get? b = some o → h6.get? b = some o) → 2 ≤ vs.length → ∀ Q : SortKind → Shared → Prop, Q κ (Shared.mk h6 s.gens s.drawn s.toks s.os) → wpAny (model prog w) A (keyKind' vs.toArray) Q E (Shared.mk h6 s.gens s.drawn s.toks s.os))
    (cmp : ∀ h6 : Heap, (∀ b o, b ≠ a → s.heap.get? b = some o → h6.get? b = some o) → ∀ (i j : Nat) u v a b, vs[i]? = some u → vs[j]? = some v → ts[i]? = some a → ts[j]? = some b → ∀ C : Bool → Shared → Prop, C (blt a b) (Shared.mk h6 s.gens s.drawn s.toks s.os) → wpAny (model prog w) A (keyLt' κ u v) C (fun _ _ => False) (Shared.mk h6 s.gens s.drawn s.toks s.os))
    (h : ∀ ix : List Nat, ix.Perm (List.range vs.length) → ix.Pairwise (fun i j => blt (ts.getD j d) (ts.getD i d) = false) → P (.done (.ret .none)) { s with heap := sortedHeap s.heap a vs (ix.map fun i => vs.getD i Value.none).toArray }) :
    wpAny (model prog w) A (Builtin.«list.sort» ⟨[.ref a], []⟩) P E s := by
  obtain ⟨e1, g1⟩ : ∃ e1, (s.heap.update a (Obj.mapSeq fun _ => (#[] : Array Value))).get? a = some (seqObj "list" #[] e1) := ⟨_, get?_update_seq gA fun _ => #[]⟩
  have oth : ∀ b o, b ≠ a → s.heap.get? b = some o → (((s.heap.update a (Obj.mapSeq fun _ => (#[] : Array Value))).push (seqObj "tuple" vs.toArray 0)).push (seqObj "list" #[] 0)).get? b = some o := fun b o hb e => Heap.get?_push_of_some _ (Heap.get?_push_of_some _ ((Heap.get?_update_other _ _ (Ne.symm hb)).trans e))
  have g6 : (((s.heap.update a (Obj.mapSeq fun _ => (#[] : Array Value))).push (seqObj "tuple" vs.toArray 0)).push (seqObj "list" #[] 0)).get? a = some (seqObj "list" #[] e1) := Heap.get?_push_of_some _ (Heap.get?_push_of_some _ g1)
  have kd' := kd _ oth
  have cmp' := cmp _ oth
  clear kd cmp
  rw [list_sort_plain]
  refine wpAny_bind (listItems_at gA rfl ?_)
  refine wpAny_bind (listUpdate_at gA rfl ?_ (by simpa using zl) (Nat.zero_le _))
  refine wpAny_bind (seqEpoch_at g1 rfl (wpAny_bind (wpAny_newTuple ?_ zl)))
  refine wpAny_bind (wpAny_newList (wpAny_holding ?_) (Nat.zero_le _))
  show wpAny (model prog w) A _ P E (Shared.mk (((s.heap.update a (Obj.mapSeq fun _ => (#[] : Array Value))).push (seqObj "tuple" vs.toArray 0)).push (seqObj "list" #[] 0)) s.gens s.drawn s.toks s.os)
  dsimp only
  by_cases h2 : vs.toArray.size < 2
  · have h2' : vs.length < 2 := by simpa using h2
    rw [if_pos h2, if_pos h2]
    refine wpAny_bind (wpAny_pure (a := general') ?_)
    rw [StateT.run_pure]
    refine wpAny_bind (wpAny_pure (wpAny_bind (seqEpoch_at g6 rfl ?_)))
    have eo : (vs.toArray.zip vs.toArray).map (·.2) = ((List.range vs.length).map fun i => vs.getD i Value.none).toArray := by
      rw [pick_id]
      apply Array.toList_inj.mp
      rw [Array.toList_map, Array.toList_zip]
      exact List.map_snd_zip (Nat.le_refl _)
    have q := h (List.range vs.length) (List.Perm.refl _) (by
      rw [List.pairwise_iff_getElem]
      intro i j hi hj hij
      simp at hi hj
      omega)
    rw [← eo] at q
    refine wpAny_bind (listUpdate_at g6 rfl ?_ (Nat.zero_le _) (by show ((vs.toArray.zip vs.toArray).map (fun x => x.2)).size ≤ _; rw [Array.size_map, Array.size_zip, List.size_toArray]; omega))
    simp only [bne_self_eq_false, Bool.false_eq_true, if_false]
    exact wpAny_pure q
  · have h2' : 2 ≤ vs.length := by have : ¬ vs.length < 2 := by simpa using h2
                                   omega
    rw [if_neg h2, if_neg h2]
    refine wpAny_bind (kd' h2' _ ?_)
    refine wpAny_bind (run_any (d := d) O rfl hl fn cmp' fun st ix eo ef pm pw => ?_)
    have q := h ix pm pw
    have eo' : (arrOf st).map (fun x => x.2) = (ix.map fun i => vs.getD i Value.none).toArray := eo
    refine wpAny_bind (seqEpoch_at g6 rfl ?_)
    have zi : ix.length = vs.length := by rw [pm.length_eq, List.length_range]
    rw [← eo'] at q
    refine wpAny_bind (listUpdate_at g6 rfl ?_ (Nat.zero_le _) (by show ((arrOf st).map (fun x => x.2)).size ≤ _; rw [eo']; simp [zi]; omega))
    dsimp only
    rw [ef]
    simp only [bne_self_eq_false, Bool.false_eq_true, if_false]
    exact wpAny_pure q
theorem sorted_G {l : Addr} {vs : List Value} {ts : List β} {κ : SortKind} {Q : Value → Shared → Prop} (O : Or blt) (hL : s.heap.IsList l vs.toArray) (zl : vs.length ≤ sizeLine) (hl : vs.length = ts.length)
    (fn : ∀ (i j : Nat) v a b, vs[i]? = some v → vs[j]? = some v → ts[i]? = some a → ts[j]? = some b → a = b)
    (kd : ∀ (A : Around) (E : Value → Shared → Prop) (h6 : Heap), (∀ b o, s.heap.get? b = some o → h6.get? b = some o) → 2 ≤ vs.length → ∀ Q : SortKind → Shared → Prop, Q κ (Shared.mk h6 s.gens s.drawn s.toks s.os) → wpAny (model prog w) A (keyKind' vs.toArray) Q E (Shared.mk h6 s.gens s.drawn s.toks s.os))
    (cmp : ∀ (A : Around) (h6 : Heap), (∀ b o, s.heap.get? b = some o → h6.get? b = some o) → ∀ (i j : Nat) u v a b, vs[i]? = some u → vs[j]? = some v → ts[i]? = some a → ts[j]? = some b → ∀ C : Bool → Shared → Prop, C (blt a b) (Shared.mk h6 s.gens s.drawn s.toks s.os) → wpAny (model prog w) A (keyLt' κ u v) C (fun _ _ => False) (Shared.mk h6 s.gens s.drawn s.toks s.os))
    (h : ∀ D h' c ix, s.heap.objs.size ≤ D → (∀ b o, s.heap.get? b = some o → h'.get? b = some o) → h'.get? D = some { cls := .type "list", data := .seq (List.map (fun i => vs.getD i Value.none) ix).toArray c } → ix.Perm (List.range vs.length) → ix.Pairwise (fun i j => blt (ts.getD j d) (ts.getD i d) = false) → Q (.ref D) { s with heap := h' }) :
    wpAny (model prog w) A (call (.builtin "sorted") [.ref l]) Q E s := by
  refine Calls.call_function_entry kind_sorted plain_sorted entry_sorted (args_sorted1 _) ?_
  unfold Builtin.«sorted»
  refine wpAny_bind (m := checkCount "sorted" 1 1 _) (wpAny_pure (wpAny_bind (collect_list hL (wpAny_bind (wpAny_newList ?_ zl)) zl)))
  have k0 : ∀ b o, s.heap.get? b = some o → ((s.heap.push (seqObj "list" #[] 0)).update s.heap.objs.size (Obj.mapSeq (· ++ vs.toArray))).get? b = some o := fun b o e => (Heap.get?_update_other _ _ (Nat.ne_of_gt (Heap.lt_size e))).trans (Heap.get?_push_of_some _ e)
  have z0 : s.heap.objs.size ≤ ((s.heap.push (seqObj "list" #[] 0)).update s.heap.objs.size (Obj.mapSeq (· ++ vs.toArray))).objs.size := by rw [Heap.size_update, size_push']; exact Nat.le_succ _
  generalize (s.heap.push (seqObj "list" #[] 0)).update s.heap.objs.size (Obj.mapSeq (· ++ vs.toArray)) = h0 at k0 z0 ⊢
  have e1 : (h0.push (seqObj "list" vs.toArray 0)).get? h0.objs.size = some (seqObj "list" vs.toArray 0) := Heap.get?_push_size _ rfl
  have up : ∀ h6 : Heap, (∀ b o, b ≠ h0.objs.size → (h0.push (seqObj "list" vs.toArray 0)).get? b = some o → h6.get? b = some o) → ∀ b o, s.heap.get? b = some o → h6.get? b = some o := fun h6 k b o e => k b o (Nat.ne_of_lt (Nat.lt_of_lt_of_le (Heap.lt_size e) z0)) (Heap.get?_push_of_some _ (k0 b o e))
  refine wpAny_bind (wpAny_holding (wpAny_call_entry slot_list_sort ⟨_, e1, rfl⟩ entry_list_sort (sort_G (d := d) O e1 zl hl fn (fun h6 k => kd _ _ h6 (up h6 k)) (fun h6 k => cmp _ h6 (up h6 k)) fun ix pm pw => ⟨_, rfl, ?_⟩) (args_list_sort _)))
  obtain ⟨c, e2⟩ := sortedHeap_at (out := (List.map (fun i => vs.getD i Value.none) ix).toArray) e1
  refine wpAny_pure ⟨_, rfl, h h0.objs.size _ c ix z0 (fun b o e => ?_) e2 pm pw⟩
  have lb := Heap.lt_size (k0 b o e)
  rw [sortedHeap_old (Nat.ne_of_lt lb) (by rw [size_push']; exact Nat.lt_succ_of_lt lb)]
  exact Heap.get?_push_of_some _ (k0 b o e)
def ilt (a b : Int) : Bool := decide (a < b)
theorem ilt_or : Or ilt := ⟨fun a => decide_eq_false (by omega), fun a b h => by have := of_decide_eq_true h; exact decide_eq_false (by omega), fun a b c h1 h2 => by
  have := of_decide_eq_false h1
  have := of_decide_eq_false h2
  exact decide_eq_false (by omega)⟩
theorem ints_at : ∀ {vs : List Value} {ns : List Int}, IntsAre vs ns → ∀ (i : Nat) v n, vs[i]? = some v → ns[i]? = some n → ∃ t, v = .int n t
  | _, _, .nil, i, v, n, hv, _ => by simp at hv
  | _, _, .cons m t r, 0, v, n, hv, hn => by
    simp at hv hn
    subst hv hn
    exact ⟨t, rfl⟩
  | _, _, .cons m t r, i + 1, v, n, hv, hn => ints_at r i v n (by simpa using hv) (by simpa using hn)
theorem ints_len : ∀ {vs : List Value} {ns : List Int}, IntsAre vs ns → vs.length = ns.length
  | _, _, .nil => rfl
  | _, _, .cons m t r => congrArg (· + 1) (ints_len r)
theorem ints_of : ∀ {vs : List Value} {ns : List Int}, vs.length = ns.length → (∀ (i : Nat) v n, vs[i]? = some v → ns[i]? = some n → ∃ t, v = .int n t) → IntsAre vs ns
  | [], [], _, _ => .nil
  | [], _ :: _, h, _ => by simp at h
  | _ :: _, [], h, _ => by simp at h
  | v :: vs, n :: ns, h, g => by
    obtain ⟨t, rfl⟩ := g 0 v n rfl rfl
    exact .cons n t (ints_of (by simpa using h) fun i v m hv hm => g (i + 1) v m (by simpa using hv) (by simpa using hm))
theorem sorted_I {l : Addr} {vs : List Value} {ns : List Int} {Q : Value → Shared → Prop} (hL : s.heap.IsList l vs.toArray) (hI : IntsAre vs ns) (zl : vs.length ≤ sizeLine)
    (h : ∀ D h' c us ms, s.heap.objs.size ≤ D → (∀ b o, s.heap.get? b = some o → h'.get? b = some o) → h'.get? D = some { cls := .type "list", data := .seq (List.toArray us) c } → IntsAre us ms → ms.Perm ns → ms.Pairwise (· ≤ ·) → Q (.ref D) { s with heap := h' }) :
    wpAny (model prog w) A (call (.builtin "sorted") [.ref l]) Q E s := by
  have ll := ints_len hI
  have at' := ints_at hI
  refine sorted_G (blt := ilt) (d := 0) (ts := ns) (κ := oneType') ilt_or hL zl ll (fun i j v a b hv hu ha hb => ?_) (fun A E h6 k h2 Q q => ?_) (fun A h6 k i j u v a b hu hv ha hb C c => ?_) fun D h' c ix hD kk g pm pw => ?_
  · obtain ⟨t, rfl⟩ := at' i v a hv ha
    obtain ⟨t', e⟩ := at' j _ b hu hb
    cases e
    rfl
  · match vs, hI, h2 with
    | [], _, h2 => simp at h2
    | [_], _, h2 => simp at h2
    | v₁ :: v₂ :: rest, hI, _ =>
      rw [keyKind_ints hI]
      exact wpAny_pure q
  · obtain ⟨t, rfl⟩ := at' i u a hu ha
    obtain ⟨t', rfl⟩ := at' j v b hv hb
    rw [keyLt'_oneType]
    exact oneLt_int c
  · refine h D h' c _ (ix.map fun i => ns.getD i 0) hD kk g (ints_of (by simp) fun i v n hv hn => ?_) ?_ ?_
    · rw [List.getElem?_map] at hv hn
      cases hi : ix[i]? with
      | none => rw [hi] at hv; cases hv
      | some z =>
        rw [hi] at hv hn
        have hz : z < vs.length := List.mem_range.mp (pm.mem_iff.mp (List.mem_of_getElem? hi))
        have hz' : z < ns.length := by omega
        have e1 : vs.getD z Value.none = vs[z] := by simp [List.getD_eq_getElem?_getD, hz]
        have e2 : ns.getD z 0 = ns[z] := by simp [List.getD_eq_getElem?_getD, hz']
        simp only [Option.map_some, Option.some.injEq] at hv hn
        rw [e1] at hv
        rw [e2] at hn
        exact at' z v n (by rw [← hv]; exact List.getElem?_eq_getElem hz) (by rw [← hn]; exact List.getElem?_eq_getElem hz')
    · have : (List.range vs.length).map (fun i => ns.getD i 0) = ns := by
        refine List.ext_getElem (by simp [ll]) fun i h1 h2 => ?_
        simp [List.getD_eq_getElem?_getD, h2]
      have q := pm.map (fun i => ns.getD i 0)
      rw [this] at q
      exact q
    · rw [List.pairwise_map]
      exact pw.imp fun {i j} e => Int.not_lt.mp (of_decide_eq_false e)
end
end Sx

end PartSortY

section PartSortZ
set_option maxHeartbeats 800000
namespace Sx
open PySem PySem.W PySem.Calls PyProof.Rows Sm Sq
theorem t3_or : Or t3lt := ⟨t3_irr, t3_asy, t3_tr⟩
theorem t2_or : Or t2lt := ⟨t2_irr, t2_asy, t2_tr⟩
theorem _root_.Sq.TrAt.fn {h : Heap} {v : Value} {x y : T3} (a : TrAt h v x) (b : TrAt h v y) : x = y := by
  obtain ⟨p, o, k1, k2, k3, n, rfl, g, c, d⟩ := a
  obtain ⟨p', o', l1, l2, l3, m, e, g', c', d'⟩ := b
  cases e
  rw [g] at g'
  cases g'
  rw [d] at d'
  obtain ⟨x1, x2, x3⟩ := x
  obtain ⟨y1, y2, y3⟩ := y
  simp at d'
  obtain ⟨⟨⟨rfl, _⟩, ⟨rfl, _⟩, rfl, _⟩, _⟩ := d'
  rfl
theorem _root_.Sq.PrAt.fn {h : Heap} {v : Value} {x y : T2} (a : PrAt h v x) (b : PrAt h v y) : x = y := by
  obtain ⟨p, o, k1, k2, n, rfl, g, c, d⟩ := a
  obtain ⟨p', o', l1, l2, m, e, g', c', d'⟩ := b
  cases e
  rw [g] at g'
  cases g'
  rw [d] at d'
  obtain ⟨x1, x2⟩ := x
  obtain ⟨y1, y2⟩ := y
  simp at d'
  obtain ⟨⟨⟨rfl, _⟩, rfl, _⟩, _⟩ := d'
  rfl
section
variable {prog : Program} {w : World} {A : Around} {E : Value → Shared → Prop} {s : Shared}
theorem sorted_T {l : Addr} {vs : List Value} {ts : List T3} {Q : Value → Shared → Prop} (hL : s.heap.IsList l vs.toArray) (hl : vs.length = ts.length) (ht : ∀ (i : Nat) v t, vs[i]? = some v → ts[i]? = some t → TrAt s.heap v t) (zl : vs.length ≤ sizeLine)
    (h : ∀ D h' c ix, s.heap.objs.size ≤ D → (∀ b o, s.heap.get? b = some o → h'.get? b = some o) → h'.get? D = some { cls := .type "list", data := .seq (List.map (fun i => vs.getD i Value.none) ix).toArray c } → ix.Perm (List.range vs.length) → ix.Pairwise (fun i j => t3lt (ts.getD j (0, 0, 0)) (ts.getD i (0, 0, 0)) = false) → Q (.ref D) { s with heap := h' }) :
    wpAny (model prog w) A (call (.builtin "sorted") [.ref l]) Q E s := by
  refine sorted_G (κ := tuples' true) (d := (0, 0, 0)) t3_or hL zl hl (fun i j v x y hv hu hx hy => (ht i v x hv hx).fn (ht j v y hu hy)) (fun A E h6 k h2 Q q => ?_) (fun A h6 k i j u v x y hu hv hx hy C c => key_lt ((ht i u x hu hx).keep fun b o e _ => k b o e) ((ht j v y hv hy).keep fun b o e _ => k b o e) c) h
  obtain ⟨fs, kf, lf, fi⟩ := katTups (h := h6) vs ts hl fun i v t hv hz => (ht i v t hv hz).keep fun b o e _ => k b o e
  refine kat_kind (T := .type "int") kf (by omega) (fun v hv => ?_) (by decide) ?_
  · obtain ⟨i, k, rfl⟩ := fi v hv
    exact .now
  · have eb : (Value.type "int" != Value.type "tuple") = true := by decide
    rw [eb]
    exact q
/-- the end of a sort by a key: the keys are there -/
theorem end_K {a kS : Addr} {vs ks : List Value} {ts : List T2} {e e1 : Nat} {P : PySem.Fin → Shared → Prop} (hne : kS ≠ a) (gK : s.heap.get? kS = some (seqObj "list" ks.toArray e)) (gA : s.heap.get? a = some (seqObj "list" #[] e1)) (hk : ks.length = vs.length) (hl : ks.length = ts.length)
    (ht : ∀ (i : Nat) v t, ks[i]? = some v → ts[i]? = some t → PrAt s.heap v t) (zl : vs.length ≤ sizeLine)
    (h : ∀ h' tk c ix, (∀ b o, b ≠ kS → b ≠ a → s.heap.get? b = some o → h'.get? b = some o) → h'.get? a = some (seqObj "list" (List.map (fun i => vs.getD i Value.none) ix).toArray c) → ix.Perm (List.range vs.length) → ix.Pairwise (fun i j => t2lt (ts.getD j (0, 0)) (ts.getD i (0, 0)) = false) → P (.done (.ret .none)) { s with heap := h', toks := tk }) :
    wpAny (model prog w) A (ksk_end a false vs.toArray e1 (.ref kS) ks.toArray) P E s := by
  have fin : ∀ (st : SortSt) (ix : List Nat), (arrOf st).map (·.2) = (ix.map fun i => vs.getD i Value.none).toArray → failedOf st = none → ix.Perm (List.range vs.length) → ix.Pairwise (fun i j => t2lt (ts.getD j (0, 0)) (ts.getD i (0, 0)) = false) → wpAny (model prog w) A (ksk_tail a false e1 (.ref kS) st) P E s := fun st ix eo ef pm pw => by
    have zi : ix.length = vs.length := by rw [pm.length_eq, List.length_range]
    have g2 : (s.heap.update kS (Obj.mapSeq fun _ => (#[] : Array Value))).get? a = some (seqObj "list" #[] e1) := (Heap.get?_update_other _ _ hne).trans gA
    unfold ksk_tail
    dsimp only
    refine wpAny_bind (listUpdate_at gK rfl ?_ (by rw [List.size_toArray]; omega) (Nat.zero_le _))
    refine wpAny_bind (wpAny_letGo (wpAny_bind (seqEpoch_at g2 rfl ?_)))
    simp only [Bool.false_eq_true, if_false]
    rw [eo, ef]
    refine wpAny_bind (listUpdate_at g2 rfl ?_ (Nat.zero_le _) (by simp [zi]; omega))
    simp only [bne_self_eq_false, Bool.false_eq_true, if_false]
    obtain ⟨c, gc⟩ : ∃ c, ((s.heap.update kS (Obj.mapSeq fun _ => (#[] : Array Value))).update a (Obj.mapSeq fun _ => (List.map (fun i => vs.getD i Value.none) ix).toArray)).get? a = some (seqObj "list" (List.map (fun i => vs.getD i Value.none) ix).toArray c) := ⟨_, get?_update_seq g2 fun _ => (List.map (fun i => vs.getD i Value.none) ix).toArray⟩
    exact wpAny_pure (h _ _ c ix (fun b o b1 b2 z => (Heap.get?_update_other _ _ (Ne.symm b2)).trans ((Heap.get?_update_other _ _ (Ne.symm b1)).trans z)) gc pm pw)
  unfold ksk_end
  simp only [Bool.false_eq_true, if_false]
  by_cases h2 : vs.toArray.size < 2
  · have h2' : vs.length < 2 := by simpa using h2
    rw [if_pos h2, if_pos h2]
    refine wpAny_bind (wpAny_pure (a := general') ?_)
    rw [StateT.run_pure]
    refine wpAny_bind (wpAny_pure ?_)
    refine fin _ (List.range vs.length) ?_ rfl (List.Perm.refl _) (by
      rw [List.pairwise_iff_getElem]
      intro i j hi hj hij
      simp at hi hj
      omega)
    rw [pick_id]
    apply Array.toList_inj.mp
    show ((ks.toArray.zip vs.toArray).map (·.2)).toList = _
    rw [Array.toList_map, Array.toList_zip]
    exact List.map_snd_zip (Nat.le_of_eq hk.symm)
  · have h2' : 2 ≤ vs.length := by have : ¬ vs.length < 2 := by simpa using h2
                                   omega
    rw [if_neg h2, if_neg h2]
    obtain ⟨fs, kf, lf, fi⟩ := katPrs ks ts hl ht
    refine wpAny_bind (kat_kind (T := .type "int") kf (by omega) (fun v hv => ?_) (by decide) ?_)
    · obtain ⟨i, k, rfl⟩ := fi v hv
      exact .now
    · have eb : (Value.type "int" != Value.type "tuple") = true := by decide
      rw [eb]
      refine wpAny_bind (run_any (d := (0, 0)) t2_or hk hl (fun i j v x y hv hu hx hy => (ht i v x hv hx).fn (ht j v y hu hy)) (fun i j u v x y hu hv hx hy C c => key_lt2 (ht i u x hu hx) (ht j v y hv hy) c) fun st ix eo ef pm pw => ?_)
      exact fin st ix eo ef pm pw
theorem rest_K {a kS : Addr} {f : Value} {vs : List Value} {ts : List T2} {e1 : Nat} {P : PySem.Fin → Shared → Prop} (hne : kS ≠ a) (gK : s.heap.get? kS = some (seqObj "list" #[] 0)) (gA : s.heap.get? a = some (seqObj "list" #[] e1)) (hl : vs.length = ts.length) (zl : vs.length ≤ sizeLine)
    (cl : ∀ (i : Nat) v t, vs[i]? = some v → ts[i]? = some t → KeyOk prog w A f s kS v t)
    (h : ∀ h' tk c ix, (∀ b o, b ≠ kS → b ≠ a → s.heap.get? b = some o → h'.get? b = some o) → h'.get? a = some (seqObj "list" (List.map (fun i => vs.getD i Value.none) ix).toArray c) → ix.Perm (List.range vs.length) → ix.Pairwise (fun i j => t2lt (ts.getD j (0, 0)) (ts.getD i (0, 0)) = false) → P (.done (.ret .none)) { s with heap := h', toks := tk }) :
    wpAny (model prog w) A (ksk_rest a f false vs.toArray e1 (.ref kS)) P E s := by
  unfold ksk_rest
  refine wpAny_bind (wpAny_rule ?_)
  rw [List.forIn_toArray]
  refine wpAny_bind (ksk_fold (fun i s' => ∃ h1 tk1 ks e, s' = { s with heap := h1, toks := tk1 } ∧ ks.length = i ∧ h1.get? kS = some (seqObj "list" (List.toArray ks) e) ∧ (∀ b o, b ≠ kS → s.heap.get? b = some o → h1.get? b = some o) ∧ s.heap.objs.size ≤ h1.objs.size ∧ ∀ (j : Nat) v t, ks[j]? = some v → ts[j]? = some t → PrAt h1 v t) vs 0 s
    ⟨s.heap, s.toks, [], 0, rfl, rfl, gK, (fun b o _ z => z), Nat.le_refl _, fun j v t z => by simp at z⟩ (fun j x s' hx hi => ?_) fun s' hd => ?_)
  · obtain ⟨h1, tk1, ks, e, rfl, lk, g1, kp, sz, pr⟩ := hi
    have hj : j < vs.length := (List.getElem?_eq_some_iff.mp hx).1
    obtain ⟨t, ht⟩ : ∃ t, ts[j]? = some t := ⟨_, List.getElem?_eq_getElem (by omega)⟩
    refine wpAny_bind (wpAny_attempt (wpAny_mono (cl j x t hx ht h1 tk1 kp sz (fun k s2 => ∃ h2 tk2, s2 = { s with heap := h2, toks := tk2 } ∧ PrAt h2 k t ∧ (∀ b o, h1.get? b = some o → h2.get? b = some o) ∧ h1.objs.size ≤ h2.objs.size) fun k h2 tk2 x1 x2 x3 => ⟨h2, tk2, rfl, x1, x2, x3⟩) (fun k s2 z => ?_) fun _ _ z => z.elim))
    obtain ⟨h2, tk2, rfl, pk, k2, z2⟩ := z
    dsimp only
    have g2 := k2 _ _ g1
    obtain ⟨c, gc⟩ : ∃ c, (h2.update kS (Obj.mapSeq (·.push k))).get? kS = some (seqObj "list" (List.toArray ks |>.push k) c) := ⟨_, get?_update_seq g2 (·.push k)⟩
    have upT : ∀ b o, h2.get? b = some o → o.cls = .type "tuple" → (h2.update kS (Obj.mapSeq (·.push k))).get? b = some o := fun b o z cz => (Heap.get?_update_other _ _ (fun q => by rw [← q, g2] at z; cases z; simp at cz)).trans z
    refine wpAny_bind (listUpdate_at g2 rfl ?_ (by rw [List.size_toArray]; omega) (by rw [Array.size_push, List.size_toArray]; omega))
    refine wpAny_pure ⟨rfl, _, tk2, ks ++ [k], c, rfl, by rw [List.length_append, lk]; simp, ?_, fun b o hb z => (Heap.get?_update_other _ _ (Ne.symm hb)).trans (k2 _ _ (kp b o hb z)), ?_, fun i v u hv hu => ?_⟩
    · rw [gc]
      simp
    · show s.heap.objs.size ≤ (h2.update kS (Obj.mapSeq (·.push k))).objs.size
      rw [Heap.size_update]
      exact Nat.le_trans sz z2
    · by_cases hi : i < ks.length
      · rw [List.getElem?_append_left hi] at hv
        exact ((pr i v u hv hu).keep fun b o z _ => k2 b o z).keep upT
      · have hlt := (List.getElem?_eq_some_iff.mp hv).1
        rw [List.length_append] at hlt
        have e9 : i = ks.length := by simp at hlt; omega
        subst e9
        rw [List.getElem?_append_right (Nat.le_refl _)] at hv
        simp at hv
        have e8 : ks.length = j := by omega
        rw [e8, ht] at hu
        cases hu
        cases hv
        exact pk.keep upT
  · obtain ⟨h1, tk1, ks, e, rfl, lk, g1, kp, sz, pr⟩ := hd
    have lk' : ks.length = vs.length := by omega
    refine wpAny_bind (listItems_at g1 rfl ?_)
    refine end_K hne g1 (kp _ _ (Ne.symm hne) gA) lk' (by omega) pr zl fun h' tk c ix kk g pm pw => ?_
    exact h h' tk c ix (fun b o b1 b2 z => kk b o b1 b2 (kp b o b1 z)) g pm pw
/-- sorted(xs, key=f) -/
theorem sorted_K {l q : Addr} {vs : List Value} {ts : List T2} {Q : Value → Shared → Prop} (hL : s.heap.IsList l vs.toArray) (hl : vs.length = ts.length) (zl : vs.length ≤ sizeLine)
    (cl : ∀ (s1 : Shared) (kS : Addr), (∃ h1, s1 = { s with heap := h1 } ∧ ∀ b o, s.heap.get? b = some o → h1.get? b = some o) → s.heap.objs.size ≤ kS → ∀ (i : Nat) v t, vs[i]? = some v → ts[i]? = some t → KeyOk prog w A.in1.in1 (.ref q) s1 kS v t)
    (h : ∀ D h' tk c ix, s.heap.objs.size ≤ D → (∀ b o, s.heap.get? b = some o → h'.get? b = some o) → h'.get? D = some { cls := .type "list", data := .seq (List.map (fun i => vs.getD i Value.none) ix).toArray c } → ix.Perm (List.range vs.length) → ix.Pairwise (fun i j => t2lt (ts.getD j (0, 0)) (ts.getD i (0, 0)) = false) → Q (.ref D) { s with heap := h', toks := tk }) :
    wpAny (model prog w) A (call (.builtin "sorted") [.ref l] [(Str.ofString "key", .ref q)]) Q E s := by
  refine call_function_entry_kw kind_sorted plain_sorted entry_sorted (ksk_s1 _ _) ?_
  unfold Builtin.«sorted»
  refine wpAny_bind (m := checkCount "sorted" 1 1 _) (wpAny_pure (wpAny_bind (collect_list hL (wpAny_bind (wpAny_newList ?_ zl)) zl)))
  have k0 : ∀ b o, s.heap.get? b = some o → ((s.heap.push (seqObj "list" #[] 0)).update s.heap.objs.size (Obj.mapSeq (· ++ vs.toArray))).get? b = some o := fun b o e => (Heap.get?_update_other _ _ (Nat.ne_of_gt (Heap.lt_size e))).trans (Heap.get?_push_of_some _ e)
  have z0 : s.heap.objs.size ≤ ((s.heap.push (seqObj "list" #[] 0)).update s.heap.objs.size (Obj.mapSeq (· ++ vs.toArray))).objs.size := by rw [Heap.size_update, size_push']; exact Nat.le_succ _
  generalize (s.heap.push (seqObj "list" #[] 0)).update s.heap.objs.size (Obj.mapSeq (· ++ vs.toArray)) = h0 at k0 z0 ⊢
  have e1 : (h0.push (seqObj "list" vs.toArray 0)).get? h0.objs.size = some (seqObj "list" vs.toArray 0) := Heap.get?_push_size _ rfl
  refine wpAny_bind (wpAny_holding (wpAny_call_entry_kw slot_list_sort ⟨_, e1, rfl⟩ entry_list_sort ?_ (ksk_l1 _ _)))
  show wpAny (model prog w) A.in1.in1 (Builtin.«list.sort» ⟨[.ref h0.objs.size], [(Str.ofString "key", .ref q)]⟩) _ _ _
  rw [ksk_t1]
  unfold ksk_tree
  have lD : h0.objs.size < (h0.push (seqObj "list" vs.toArray 0)).objs.size := Heap.lt_size e1
  obtain ⟨c1, g1⟩ : ∃ c1, ((h0.push (seqObj "list" vs.toArray 0)).update h0.objs.size (Obj.mapSeq fun _ => (#[] : Array Value))).get? h0.objs.size = some (seqObj "list" #[] c1) := ⟨_, get?_update_seq e1 fun _ => #[]⟩
  have kA : ∀ b o, s.heap.get? b = some o → ((h0.push (seqObj "list" vs.toArray 0)).update h0.objs.size (Obj.mapSeq fun _ => (#[] : Array Value))).get? b = some o := fun b o z => (Heap.get?_update_other _ _ (Nat.ne_of_gt (Nat.lt_of_lt_of_le (Heap.lt_size z) z0))).trans (Heap.get?_push_of_some _ (k0 b o z))
  have zA : h0.objs.size < ((h0.push (seqObj "list" vs.toArray 0)).update h0.objs.size (Obj.mapSeq fun _ => (#[] : Array Value))).objs.size := by rw [Heap.size_update]; exact lD
  refine wpAny_bind (listItems_at e1 rfl ?_)
  refine wpAny_bind (listUpdate_at e1 rfl ?_ (by simpa using zl) (Nat.zero_le _))
  generalize (h0.push (seqObj "list" vs.toArray 0)).update h0.objs.size (Obj.mapSeq fun _ => (#[] : Array Value)) = hA at g1 kA zA ⊢
  refine wpAny_bind (seqEpoch_at g1 rfl (wpAny_bind (wpAny_newTuple ?_ zl)))
  have kB : ∀ b o, hA.get? b = some o → (hA.push (seqObj "tuple" vs.toArray 0)).get? b = some o := fun b o z => Heap.get?_push_of_some _ z
  have zB : hA.objs.size < (hA.push (seqObj "tuple" vs.toArray 0)).objs.size := by rw [size_push']; exact Nat.lt_succ_self _
  show wpAny (model prog w) A.in1.in1 _ _ _ (Shared.mk (hA.push (seqObj "tuple" vs.toArray 0)) s.gens s.drawn s.toks s.os)
  generalize hA.push (seqObj "tuple" vs.toArray 0) = hB at kB zB ⊢
  refine wpAny_bind (wpAny_newList (wpAny_holding ?_) (Nat.zero_le _))
  show wpAny (model prog w) A.in1.in1 (ksk_rest h0.objs.size (.ref q) false vs.toArray c1 (.ref hB.objs.size)) _ _ (Shared.mk (hB.push (seqObj "list" #[] 0)) s.gens s.drawn s.toks s.os)
  have ne : hB.objs.size ≠ h0.objs.size := Nat.ne_of_gt (Nat.lt_trans zA zB)
  have kC : ∀ b o, s.heap.get? b = some o → (hB.push (seqObj "list" #[] 0)).get? b = some o := fun b o z => Heap.get?_push_of_some _ (kB b o (kA b o z))
  refine rest_K ne (Heap.get?_push_size _ rfl) (Heap.get?_push_of_some _ (kB _ _ g1)) hl zl (cl _ hB.objs.size ⟨_, rfl, kC⟩ (Nat.le_trans z0 (Nat.le_of_lt (Nat.lt_trans zA zB)))) fun h' tk c ix kk g pm pw => ⟨_, rfl, ?_⟩
  refine wpAny_pure ⟨_, rfl, h h0.objs.size h' tk c ix z0 (fun b o z => ?_) g pm pw⟩
  have lb := Heap.lt_size z
  exact kk b o (Nat.ne_of_lt (Nat.lt_of_lt_of_le lb (Nat.le_trans z0 (Nat.le_of_lt (Nat.lt_trans zA zB))))) (Nat.ne_of_lt (Nat.lt_of_lt_of_le lb z0)) (kC b o z)
end
end Sx

end PartSortZ

namespace L2
open PySem PySem.Spec PyProof.Rows Og
abbrev t3V (t : Sq.T3) : List V := [.int t.1, .int t.2.1, .int t.2.2]
theorem vals_get : ∀ {xs : List V} {us : List Value}, Vals xs us → ∀ {i : Nat} {u : Value}, us[i]? = some u → ∃ x, xs[i]? = some x ∧ RelV x u
  | _, _, .nil, i, u, h => by simp at h
  | x :: xs, u' :: us, .cons r t, i, u, h => by
    cases i with
    | zero => exact ⟨x, rfl, by simp at h; exact h ▸ r⟩
    | succ i => exact vals_get t (by simpa using h)
theorem trAt_of {X : Cx} {pins : List (Addr × Obj)} {σ : St} {H : Hp} {s : Shared} (I : Inv X pins σ H s) {t : Sq.T3} {x : V} {u : Value} (h : TupAt H (t3V t) x) (r : RelV x u) : Sq.TrAt s.heap u t := by
  obtain ⟨T, rfl, hT⟩ := h
  cases r
  obtain ⟨its, rv, pl, _⟩ := I.tuple (show SqT X.K H T (t3V t) from .inl (.inl hT))
  cases rv with
  | cons r1 rv =>
    cases rv with
    | cons r2 rv =>
      cases rv with
      | cons r3 rv =>
        cases rv
        obtain ⟨k1, rfl⟩ := r1
        obtain ⟨k2, rfl⟩ := r2
        obtain ⟨k3, rfl⟩ := r3
        obtain ⟨o, e, c, n, d⟩ := pl
        exact ⟨T, o, k1, k2, k3, n, rfl, e, c, d⟩
section
variable {X : Cx}
theorem call_sortedT (hc : X.calm = true) : CallR X (.builtin "sorted") (fun xs H Q => ∃ (a : Addr) (ts : List Sq.T3) (vs : List V), xs = [V.ref a] ∧ SqL X.K H a vs ∧ Paired (fun t y => TupAt H (t3V t) y) ts vs ∧ vs.length < 1000 ∧ ∀ (p : Addr) (ix : List Nat), H p = none → ix.Perm (List.range vs.length) → ix.Pairwise (fun i j => Sq.t3lt (ts.getD j (0, 0, 0)) (ts.getD i (0, 0, 0)) = false) → Q (.ref p) (upd H p (.lst (ix.map fun i => vs.getD i .non)))) := by
  intro pins s σ H xs us Q I r h
  obtain ⟨a, ts, vs, rfl, hS, hp, h64, q⟩ := h
  obtain ⟨u, rfl, ru⟩ := vals1 r
  cases ru
  obtain ⟨its, rv, pl, hz⟩ := I.list hS
  have lv := rv.length
  have lt := hp.length
  refine Sx.sorted_T (ts := ts) pl.isList (by omega) (fun i v t hv ht => ?_) (by rw [sizeLine_eq]; omega) fun D h' c ix le k e pm pw => ?_
  · obtain ⟨x, hx, rx⟩ := vals_get rv hv
    obtain ⟨t', ht', hta⟩ := paired_get' hp hx
    rw [ht] at ht'
    cases ht'
    exact trAt_of I hta rx
  · have hn : H D = none := I.hok.fresh le
    have li : its.length = vs.length := by omega
    rw [li] at pm
    have vv : Vals (ix.map fun i => vs.getD i .non) (ix.map fun i => its.getD i .none) := by
      have hb : ∀ i ∈ ix, i < vs.length := fun i hi => List.mem_range.mp (pm.mem_iff.mp hi)
      clear e pm pw
      induction ix with
      | nil => exact .nil
      | cons i ix ih =>
        refine .cons ?_ (ih fun j hj => hb j (List.mem_cons_of_mem _ hj))
        have hi := hb i (List.mem_cons_self ..)
        have hi' : i < its.length := by omega
        obtain ⟨x, hx, rx⟩ := vals_get rv (List.getElem?_eq_getElem hi')
        show RelV (vs.getD i V.non) (its.getD i Value.none)
        rw [List.getD_eq_getElem?_getD, List.getD_eq_getElem?_getD, hx, List.getElem?_eq_getElem hi']
        exact rx
    have zl : (ix.map fun i => vs.getD i .non).length ≤ sizeLine := by
      rw [List.length_map, pm.length_eq, List.length_range, sizeLine_eq]
      omega
    exact ⟨.ref D, _, I.laidD (o := .lst (ix.map fun i => vs.getD i .non)) (t' := s.toks) (d' := s.drawn) k le ⟨zl, _, c, vv, e⟩, rfl, q D ix hn pm pw⟩
end
end L2

namespace L2
open PySem PySem.Spec PyProof.Rows
section
variable {X : Cx}
theorem min_eqL (xs ys : List V) : ((List.range (min xs.length ys.length)).all (fun j => eqV (xs.getD j .non) (ys.getD j .non)) && xs.length == ys.length) = eqL xs ys := by
  by_cases h : xs.length = ys.length
  · rw [show min xs.length ys.length = xs.length by omega, range_eqL xs ys h, beq_iff_eq.mpr h, Bool.and_true]
  · rw [eqL_len xs ys h, beq_eq_false_iff_ne.mpr h, Bool.and_false]
/-- a op1 b op2 c op3 d -/
def tChain3 (r r' r'' : R2) (ta tb tc td : TE) : TE := fun σ H Q => ta σ H fun x H1 => tb σ H1 fun y H2 => r x y H2 fun z H3 => ∃ k, z = .bl k ∧
  (if k = true then tc σ H3 fun w H4 => r' y w H4 fun z2 H5 => ∃ k2, z2 = .bl k2 ∧ (if k2 = true then td σ H5 fun v H6 => r'' w v H6 Q else Q (.bl false) H5) else Q (.bl false) H3)
theorem pe_chain3 {op op' op'' : CmpOp} {r r' r'' : R2} {a b c d : Expr} {ta tb tc td : TE} {pos : Pos} (ho : OpR X (compareOp op) r) (ho' : OpR X (compareOp op') r') (ho'' : OpR X (compareOp op'') r'') (ha : PE X a ta) (hb : PE X b tb) (hc : PE X c tc) (hd : PE X d td)
    (hm : lastMarks [op, op', op''] [b, c, d] = false := by with_unfolding_all rfl) : PE X (.Compare a [op, op', op''] [b, c, d] pos) (tChain3 r r' r'' ta tb tc td) := by
  intro pins s σ H Q I h
  refine Compare_chain (thn (ha pins s σ H _ I h) fun v s1 ⟨x, H1, I1, r1, q1⟩ => chain_link (thn (hb pins s1 σ H1 _ I1 q1) fun u s2 ⟨y, H2, I2, r2, q2⟩ =>
    thn (ho pins s2 σ H2 x y v u _ I2 r1 r2 q2) fun d s3 ⟨z, H3, I3, r3, k, e, q3⟩ => ?_)) hm
  subst e
  cases r3
  refine wpAny_truthy_bool ?_
  cases k with
  | false => exact ite_ff ⟨.bl false, H3, I3, rfl, q3⟩
  | true =>
    refine ite_tt (chain_link (thn (hc pins s3 σ H3 _ I3 q3) fun w' s4 ⟨z', H4, I4, r4, q4⟩ => thn (ho' pins s4 σ H4 y z' u w' _ I4 r2 r4 q4) fun d5 s5 ⟨z5, H5, I5, r5, k5, e5, q5⟩ => ?_))
    subst e5
    cases r5
    refine wpAny_truthy_bool ?_
    cases k5 with
    | false => exact ite_ff ⟨.bl false, H5, I5, rfl, q5⟩
    | true => exact ite_tt (chain_last (thn (hd pins s5 σ H5 _ I5 q5) fun w6 s6 ⟨z6, H6, I6, r6, q6⟩ => ho'' pins s6 σ H6 z' z6 w' w6 Q I6 r4 r6 q6))
/-- // by a positive number of any plain size -/
theorem op_fdivG : OpR X (binaryOp .FloorDiv) (rI (fun _ j => 0 < j ∧ j < 2 ^ 200) fun i j => .int (i / j)) := opI fun i j _ _ _ _ _ hc q => by
  have h1 : (0 : Int) < j := hc.1
  have h2 : j < 2 ^ 200 := hc.2
  refine floordiv_int (by omega) (by rw [Int.fdiv_eq_ediv_of_nonneg i (by omega)]; exact q) (.inl (PyProof.noPylong_of_log2 ?_))
  have h3 : j.natAbs < 2 ^ 200 := by omega
  have h4 : j.natAbs ≠ 0 := by omega
  have := (Nat.log2_lt h4).mpr h3
  omega
end
end L2
namespace L2
open PySem PySem.Spec PyProof.Rows
section
variable {σ : St} {H1 : Hp} {Q : VK} {tt : TT} {te : TE}
theorem comp_sqT {K : PySem.W.Frag} {a : Addr} {xs : List V} (p : V → Bool) (f : V → V) (hl : SqT K H1 a xs) (hz : xs.length < sizeLine)
    (ht : ∀ x ∈ xs, ∀ H, Same H1 H → ∀ R : Bool → Hp → Prop, (∀ H', Same H H' → R (p x) H') → tt (some x :: σ) H R)
    (he : ∀ x ∈ xs, p x = true → ∀ H, Same H1 H → ∀ R : VK, (∀ H', Same H H' → R (f x) H') → te (some x :: σ) H R)
    (hq : ∀ D H, H1 D = none → Same H1 H → H D = some (.lst ((xs.filter p).map f)) → Q (.ref D) H) : CompOk (Itt K a) σ H1 Q tt te :=
  comp_any p f hz (fun i H x hs hx => ⟨xs, x, hs.tup hl, hx⟩) (fun i H y H' hs _ hy => ⟨hy.1, hy.2 xs (hs.tup hl)⟩) (fun H hs => ⟨xs, hs.tup hl, Nat.le_refl _⟩) ht he hq
end
end L2

namespace L2
open PySem PySem.Spec PyProof.Rows
theorem ivals : ∀ {ns : List Int} {us : List Value}, Vals (ns.map V.int) us → IntsAre us ns
  | [], _, r => by cases r; exact .nil
  | n :: ns, _, r => by
    cases r with
    | cons r t =>
      obtain ⟨tk, rfl⟩ := r
      exact .cons n tk (ivals t)
theorem valsI : ∀ {ns : List Int} {us : List Value}, IntsAre us ns → Vals (ns.map V.int) us
  | _, _, .nil => .nil
  | _, _, .cons n t r => .cons ⟨t, rfl⟩ (valsI r)
section
variable {X : Cx}
end
end L2

namespace L2
open PySem PySem.Spec PySem.Calls PyProof.Rows
def cxComp4 (X : Cx) (x z y3 : Str) (scope : Scope) (C : Addr) (s₀ : Shared) (H₀ : Hp) (fp : List Addr) : Cx where
  prog := X.prog
  w := X.w
  K := X.K
  mg := X.mg
  base := X.base
  A := X.A
  N := x :: z :: y3 :: X.N
  s₀ := s₀
  H₀ := H₀
  env := compEnvC scope (cloGo X.env scope.names []) C X.env
  outer := X.stack
  stack := X.stack
  ex := fp
  fn := fun _ => false
  calm := X.calm
  pn := []
  xe := fun _ _ => False
structure CompScope4 (X : Cx) (x z y3 : Str) (scope : Scope) : Prop where
  kind : scope.kind = .function
  nocell : ∀ y ∈ scope.names, y.2 ≠ .cell
  names : ∀ y ∈ scope.names, y.2 = .local → scope.names.lookup y.1 = some .local
  loc : scope.names.lookup x = some .local
  loz : scope.names.lookup z = some .local
  lo3 : scope.names.lookup y3 = some .local
  free : ∀ y ∈ scope.names, y.2 = .free → X.env.kindOf y.1 = some .cell ∨ X.env.kindOf y.1 = some .free
  nd : (x :: z :: y3 :: X.N).Nodup
  only : ∀ y ∈ X.N, scope.names.lookup y ≠ some .local
section
variable {X : Cx} {pins : List (Addr × Obj)} {σ : St} {H : Hp} {s : Shared} {x z y3 : Str} {scope : Scope} {fp : List Addr} {C : Addr}
theorem comp_start4 {h' : Heap} {tk : Nat} {m : Str → Option Value} (I : Inv X pins σ H s) (S : CompScope4 X x z y3 scope) (hf : ∀ b ∈ fp, FpOk X pins H b) (hlt : ∀ b ∈ fp, b < s.heap.objs.size) (hC : s.heap.objs.size ≤ C) (hn : h'.Ns C m)
    (hk : ∀ b o, s.heap.get? b = some o → h'.get? b = some o) : Inv (cxComp4 X x z y3 scope C s H fp) [] (none :: none :: none :: σ) H { s with heap := h', toks := tk } := by
  have cl : ∀ y c, (cloGo X.env scope.names []).lookup y = some c → X.env.cells.lookup y = some c := fun y c e => by
    rcases cloGo_sub X.env scope.names [] y c e with z | z
    · cases z
    · exact z
  have cellK : ∀ c v, s.heap.IsCell c v → h'.IsCell c v := fun c v ⟨o, ho, hd⟩ => ⟨o, hk c o ho, hd⟩
  have look : ∀ y, (cxComp4 X x z y3 scope C s H fp).env.scope.names.lookup y = (scope.names.lookup y).map fun k => if (k == NameKind.free && X.env.scope.kind == .function && X.env.kindOf y == some .cell) then NameKind.cell else k := fun y => relabel_lookup X.env y scope.names
  refine ⟨⟨I.ok.mod, S.kind, I.ok.glob, I.ok.blt, hC, fun y z c e1 e2 => I.ok.inj y z c (cl y c e1) (cl z c e2), fun y hy => ?_, fun y c e _ => (by cases e), fun h => I.ok.hd h, I.ok.frames, .inl rfl, fun b hb => ?_, I.bs, Nat.le_trans I.ok.bsz I.sz, fun b o e hb => ?_, fun b hb hb' => ?_, I.stack, I.stkFree⟩,
    rfl, I.bare, Un.kept hk, ⟨m, hn, fun i y v h1 h2 h3 => ?_⟩, fun y c e => ?_, I.hok.fresh hC, fun y c e => I.freeC y c (cl y c e), fun p hp => absurd (show p ∈ ([] : List (Addr × Obj)) from hp) (by simp), I.hok.kept hk, ?_⟩
  · have hy' : (cxComp4 X x z y3 scope C s H fp).env.scope.names.lookup y = some .cell ∨ (cxComp4 X x z y3 scope C s H fp).env.scope.names.lookup y = some .free := hy
    rw [look y] at hy'
    cases e : scope.names.lookup y with
    | none => rw [e] at hy'; rcases hy' with z | z <;> cases z
    | some k =>
      have hm := PySem.mem_of_lookup e
      have hfree : k = .free := by
        rw [e] at hy'
        cases k with
        | free => rfl
        | cell => exact absurd rfl (S.nocell _ hm)
        | _ => rcases hy' with z | z <;> simp at z
      subst hfree
      obtain ⟨c, hc⟩ := I.ok.has y (S.free _ hm rfl)
      exact Option.isSome_iff_exists.mp (cloGo_has X.env scope.names [] y hm (by rw [hc]; rfl))
  · obtain ⟨f0, f1, f2, f3, f4, f5⟩ := hf b hb
    exact ⟨Nat.ne_of_lt (Nat.lt_of_lt_of_le (hlt b hb) hC), fun y c e => f4 y c (cl y c e)⟩
  · obtain ⟨f0, f1, f2, f3, f4, f5⟩ := hf b hb
    rcases f3 with z | z
    · exact I.ok.noex b o e z
    · exact absurd (Nat.lt_of_lt_of_le (Heap.lt_size e) (Nat.le_trans I.ok.bsz z)) (Nat.lt_irrefl _)
  · obtain ⟨f0, f1, f2, f3, f4, f5⟩ := hf b hb
    rcases List.mem_cons.mp (I.stkSub b hb') with e | e
    · exact f1 e
    · exact f2 e
  · match i, h1, h2 with
    | 0, h1, h2 =>
      have h2' : (some none : Option (Option V)) = some (some v) := h2
      cases h2'
    | 1, h1, h2 =>
      have h2' : (some none : Option (Option V)) = some (some v) := h2
      cases h2'
    | 2, h1, h2 =>
      have h2' : (some none : Option (Option V)) = some (some v) := h2
      cases h2'
    | i + 3, h1, h2 =>
      have e0 : X.N[i]? = some y := h1
      have h2' : σ[i]? = some (some v) := h2
      have hmem : y ∈ X.N := List.mem_of_getElem? e0
      have h3' : (cxComp4 X x z y3 scope C s H fp).env.scope.names.lookup y = some .local ∨ (cxComp4 X x z y3 scope C s H fp).env.scope.names.lookup y = some .cell ∨ (cxComp4 X x z y3 scope C s H fp).env.scope.names.lookup y = some .free := h3
      rw [look y] at h3'
      cases e : scope.names.lookup y with
      | none => rw [e] at h3'; rcases h3' with z | z | z <;> cases z
      | some k =>
        have hm := PySem.mem_of_lookup e
        have hfree : k = .free := by
          rw [e] at h3'
          cases k with
          | free => rfl
          | cell => exact absurd rfl (S.nocell _ hm)
          | «local» => exact absurd e (S.only y hmem)
          | _ => rcases h3' with z | z | z <;> simp at z
        subst hfree
        have kd := S.free _ hm rfl
        obtain ⟨m0, hn0, hl0⟩ := I.loc
        obtain ⟨u, r, l⟩ := hl0 i y v e0 h2' (by rcases kd with z | z; exact .inr (.inl z); exact .inr (.inr z))
        refine ⟨u, r, .inr ⟨?_, ?_⟩⟩
        · have hk' : (cxComp4 X x z y3 scope C s H fp).env.scope.names.lookup y = some (if (NameKind.free == NameKind.free && X.env.scope.kind == .function && X.env.kindOf y == some .cell) then NameKind.cell else NameKind.free) := by
            rw [look y, e]; rfl
          by_cases c : (NameKind.free == NameKind.free && X.env.scope.kind == .function && X.env.kindOf y == some .cell) = true
          · rw [if_pos c] at hk'; exact .inl hk'
          · rw [if_neg c] at hk'; exact .inr hk'
        · rcases l with ⟨lk, _⟩ | ⟨_, c, hc, hcell⟩
          · exfalso
            rcases kd with z | z <;> (rw [show X.env.kindOf y = some NameKind.local from lk] at z; cases z)
          · obtain ⟨c', hc'⟩ := Option.isSome_iff_exists.mp (cloGo_has X.env scope.names [] y hm (by rw [hc]; rfl))
            have := cl y c' hc'
            rw [hc] at this
            cases this
            exact ⟨c, hc', cellK c _ hcell⟩
  · obtain ⟨v, z⟩ := I.cell y c (cl y c e)
    exact ⟨v, cellK c v z⟩
  · show (none :: none :: none :: σ).length = (x :: z :: y3 :: X.N).length
    simp [I.len]
end
/-- what such a comprehension asks; g: how the pair is stored -/
def CompOk4 (J : It) (σ : St) (H1 : Hp) (Q : VK) (g : TG) (tt : TT) (te : TE) : Prop := ∀ D, H1 D = none → ∃ W : Nat → Nat → List V → Hp → Prop, (∃ m, W 0 m [] (upd H1 D (.lst []))) ∧ ∀ i m ys H2, W i m ys H2 →
  (J.stop i H2 ∧ Q (.ref D) H2) ∨ (J.go i H2 ∧ ∀ x H3, J.yld i H2 x H3 → ∀ v0 v1 v2, g x (v0 :: v1 :: v2 :: σ) H3 fun σ' H3' => (∃ w0 w1 w2, σ' = w0 :: w1 :: w2 :: σ) ∧ tt σ' H3' fun b H4 =>
    if b = true then te σ' H4 fun y H5 => H5 D = some (.lst ys) ∧ ys.length < sizeLine ∧ ∃ m', m' < m ∧ W (i + 1) m' (ys ++ [y]) (upd H5 D (.lst (ys ++ [y])))
    else ∃ m', m' < m ∧ W (i + 1) m' ys H4)
def tComp4 (wi : TI) (g : TG) (tt : TT) (te : TE) : TE := fun σ H Q => wi σ H fun J H1 => CompOk4 J σ H1 Q g tt te
section
variable {X : Cx} {x z y3 : Str} {scope : Scope}
theorem comp_block4 {tg : Expr} {pos : Pos} {iter elt : Expr} {ifs : List Expr} {g : TG} {tt : TT} {te : TE} {pins : List (Addr × Obj)} {σ : St} {s2 : Shared} {H2 : Hp} {it : Addr} {fp : List Addr} {tn : Nat → Heap → Prop} {J : It} {E : Value → Shared → Prop}
    {RR : Value → Addr → Result → Shared → Prop} {Q : VK}
    (hc : X.calm = true) (S : CompScope4 X x z y3 scope) (hg : ∀ C s₀ H₀ fp, PG (cxComp4 X x z y3 scope C s₀ H₀ fp) tg g) (ht : ∀ C s₀ H₀ fp, PIfs (cxComp4 X x z y3 scope C s₀ H₀ fp) ifs tt) (he : ∀ C s₀ H₀ fp, PE (cxComp4 X x z y3 scope C s₀ H₀ fp) elt te)
    (I2 : Inv X pins σ H2 s2) (T : Turn X.prog X.w X.K tg J fp it tn) (st2 : tn 0 s2.heap) (f2 : ∀ b ∈ fp, FpOk X pins H2 b) (q : CompOk4 J σ H2 Q g tt te)
    (hRR : ∀ D C s' H' m, s'.heap.Ns C m → FpOk X pins H' C → Inv X pins σ H' s' → Q (.ref D) H' → RR (.ref D) C (.ok .next) s') :
    wpAny (model X.prog X.w) X.A (newList []) (fun acc s₃ => wpAny (model X.prog X.w) X.A (newFunctionEnv scope X.env.globals (cloGo X.env scope.names []) [] X.env.qual none .none (some X.env)) (fun cenv s₄ =>
      codeAny (model X.prog X.w) X.A (.compStart (.ListComp elt [⟨tg, iter, ifs, 0⟩] scope pos) 0 (.ref it) acc { cenv with scope := relabel scope X.env }) (RR acc cenv.locals) s₄) E s₃) E s2 := by
  refine wpAny_newObj_type (wpAny_newFunctionEnv S.nocell (by intro y hy; simp at hy) (fun h₁ hns₁ hsb₁ => ?_) S.kind)
  have I3 := I2.lnew (its := []) (ys := []) (t' := s2.toks) .nil (Nat.zero_le _)
  have hD0 : H2 s2.heap.objs.size = none := I2.fresh
  obtain ⟨W, ⟨m0, w0⟩, turn⟩ := q _ hD0
  generalize hs3 : ({ s2 with heap := s2.heap.push { cls := .type "list", data := .seq ([] : List Value).toArray }, toks := s2.toks } : Shared) = s3 at I3
  have e3 : s3.heap = s2.heap.push { cls := .type "list", data := .seq ([] : List Value).toArray } := by rw [← hs3]
  have hlt : ∀ b ∈ fp, b < s2.heap.objs.size := fun b hb => let ⟨_, e, _⟩ := T.obj _ _ st2 b hb; Heap.lt_size e
  have hlt3 : ∀ b ∈ fp, b < s3.heap.objs.size := fun b hb => by rw [e3, Heap.size_push]; exact Nat.lt_succ_of_lt (hlt b hb)
  have f3 : ∀ b ∈ fp, FpOk X pins (upd H2 s2.heap.objs.size (.lst [])) b := fun b hb => ⟨by rw [upd_ne (Nat.ne_of_lt (hlt b hb))]; exact (f2 b hb).1, (f2 b hb).2⟩
  have hk1 : ∀ b o, s3.heap.get? b = some o → h₁.get? b = some o := fun b o e => by
    have hne : b ≠ s3.heap.objs.size := Nat.ne_of_lt (Heap.lt_size e)
    rw [e3] at e hne
    exact hsb₁.extBut b o hne (Heap.get?_push_of_some _ e)
  have hC : s3.heap.objs.size = (s2.heap.push { cls := .type "list", data := .seq ([] : List Value).toArray }).objs.size := by rw [e3]
  have hns : h₁.Ns s3.heap.objs.size (fun x => ([] : List (Str × Value)).reverse.lookup x) := by rw [hC]; exact hns₁
  have st3 : tn 0 h₁ := T.keep _ _ _ st2 fun b hb o e => hk1 b o (by rw [e3]; exact Heap.get?_push_of_some _ e)
  have start : ∀ tk, Inv (cxComp4 X x z y3 scope s3.heap.objs.size s3 (upd H2 s2.heap.objs.size (.lst [])) fp) [] (none :: none :: none :: σ) (upd H2 s2.heap.objs.size (.lst [])) { s3 with heap := h₁, toks := tk } := fun tk =>
    comp_start4 I3 S f3 hlt3 (Nat.le_refl _) hns hk1
  have loop : ∀ tk, codeAny (model X.prog X.w) X.A (.compLoop (.ListComp elt [⟨tg, iter, ifs, 0⟩] scope pos) 0 (.ref it) (.ref s2.heap.objs.size) (compEnvC scope (cloGo X.env scope.names []) s3.heap.objs.size X.env))
      (RR (.ref s2.heap.objs.size) s3.heap.objs.size) { s3 with heap := h₁, toks := tk } := by
    intro tk
    refine loop_go (fun n s' => ∃ i ys v0 v1 v2 H', Inv (cxComp4 X x z y3 scope s3.heap.objs.size s3 (upd H2 s2.heap.objs.size (.lst [])) fp) [] (v0 :: v1 :: v2 :: σ) H' s' ∧ tn i s'.heap ∧ (∀ b ∈ fp, H' b = none) ∧ W i n ys H') rfl ?_ m0
      ⟨0, [], none, none, none, _, start tk, st3, fun b hb => (f3 b hb).1, w0⟩
    rintro n s4 ⟨i, ys, v0, v1, v2, H4, I4, st4, fr4, w4⟩
    have stat : ∀ {H' : Hp}, (∀ b ∈ fp, H' b = none) → ∀ b ∈ fp, FpOk (cxComp4 X x z y3 scope s3.heap.objs.size s3 (upd H2 s2.heap.objs.size (.lst [])) fp) [] H' b := fun hn b hb => by
      refine ⟨hn b hb, (I4.ok.exf b hb).1, I4.ok.exfs b hb, .inl hb, (I4.ok.exf b hb).2, fun p hp => absurd (show p ∈ ([] : List (Addr × Obj)) from hp) (by simp)⟩
    rcases turn i n ys H4 w4 with ⟨stop, qn⟩ | ⟨go, step⟩
    · refine thn (T.done (cxComp4 X x z y3 scope s3.heap.objs.size s3 (upd H2 s2.heap.objs.size (.lst [])) fp) rfl rfl rfl hc i [] s4 (v0 :: v1 :: v2 :: σ) H4 _ I4 (stat fr4) st4 stop) fun r s5 ⟨hr, I5⟩ => ?_
      subst hr
      obtain ⟨m, hn, _⟩ := I5.loc
      refine hRR _ _ s5 H4 m hn (I3.fpOk (Nat.le_refl _) I5.free) (I3.call' (s' := s5) (ch := fp) I5.os I5.base I5.hok I5.bare (fun b hb => ?_)) qn
      obtain ⟨_, g1, _, g3, g4, g5⟩ := f3 b hb
      exact ⟨g3, g1, g4, g5⟩
    · refine thn (T.item (cxComp4 X x z y3 scope s3.heap.objs.size s3 (upd H2 s2.heap.objs.size (.lst [])) fp) rfl rfl rfl hc i [] s4 (v0 :: v1 :: v2 :: σ) H4 _ I4 (stat fr4) st4 go) fun r s5 ⟨u, hr, h5⟩ => ?_
      subst hr
      refine thn h5 fun _ s6 h6 => ?_
      obtain ⟨xv, H6, I6, r6, y6, st6, fr6⟩ := h6
      have I6' := I6.pinned (stat fr6) (T.obj _ _ st6)
      have again : ∀ {s7 : Shared} {H7 : Hp} {ys' : List V} {w0 w1 w2 : Option V}, Inv (cxComp4 X x z y3 scope s3.heap.objs.size s3 (upd H2 s2.heap.objs.size (.lst [])) fp) ([] ++ pinsAt fp s6.heap) (w0 :: w1 :: w2 :: σ) H7 s7 → (∃ m', m' < n ∧ W (i + 1) m' ys' H7) →
          ∃ m, m < n ∧ ∃ i ys v0 v1 v2 H', Inv (cxComp4 X x z y3 scope s3.heap.objs.size s3 (upd H2 s2.heap.objs.size (.lst [])) fp) [] (v0 :: v1 :: v2 :: σ) H' s7 ∧ tn i s7.heap ∧ (∀ b ∈ fp, H' b = none) ∧ W i m ys H' := fun {s7 H7 ys' w0 w1 w2} I7 hw => by
        obtain ⟨m', hm, w7⟩ := hw
        refine ⟨m', hm, i + 1, ys', w0, w1, w2, H7, I7.unpinned, T.keep _ _ _ st6 fun b hb o e => (I7.pin (b, o) (List.mem_append_right _ (List.mem_append_right _ (mem_pinsAt hb e)))).1, fun b hb => ?_, w7⟩
        obtain ⟨o, e, d⟩ := T.obj _ _ st6 b hb
        exact (I7.pin (b, o) (List.mem_append_right _ (List.mem_append_right _ (mem_pinsAt hb e)))).2.1
      refine thnF (hg _ _ _ _ _ s6 (v0 :: v1 :: v2 :: σ) H6 xv u _ I6' r6 (step xv H6 y6 v0 v1 v2)) fun _ s7 ⟨σ7, H7, I7, ⟨w0, w1, w2, e7⟩, q7⟩ => ?_
      subst e7
      refine thnF (ht _ _ _ _ _ s7 (w0 :: w1 :: w2 :: σ) H7 _ I7 q7) fun b s8 ⟨H8, I8, q8⟩ => ?_
      cases b with
      | false =>
        rw [if_neg Bool.false_ne_true] at q8 ⊢
        exact again I8 q8
      | true =>
        rw [if_pos rfl] at q8 ⊢
        refine thnF (he _ _ _ _ _ s8 (w0 :: w1 :: w2 :: σ) H8 _ I8 q8) fun y s9 ⟨yv, H9, I9, r9, hD9, hz9, q9⟩ => ?_
        refine thnF (mt_append (X := cxComp4 X x z y3 scope s3.heap.objs.size s3 (upd H2 s2.heap.objs.size (.lst [])) fp) _ s9 (w0 :: w1 :: w2 :: σ) H9 (.ref s2.heap.objs.size) [yv] (.ref s2.heap.objs.size) [y] (fun _ H' => H' = upd H9 s2.heap.objs.size (.lst (ys ++ [yv]))) I9 rfl (.cons r9 .nil)
          ⟨_, ys, yv, rfl, rfl, hD9, hz9, rfl⟩) fun _ s10 ⟨_, H10, I10, _, e10⟩ => ?_
        subst e10
        exact again I10 q9
  have key := fun tk => codeAny_compStart_list (R := RR (.ref s2.heap.objs.size) s3.heap.objs.size) (loop tk) (T.self X.A 0 { s3 with heap := h₁, toks := tk } (fun it' s' => codeAny (model X.prog X.w) X.A (.compLoop (.ListComp elt [⟨tg, iter, ifs, 0⟩] scope pos) 0 it' (.ref s2.heap.objs.size) (compEnvC scope (cloGo X.env scope.names []) s3.heap.objs.size X.env)) (RR (.ref s2.heap.objs.size) s3.heap.objs.size) s') _ st3 (loop tk))
  subst hs3
  exact key _
/-- [elt for x, z in iter if ..] -/
theorem pe_comp4 {tg : Expr} {pos : Pos} {iter elt : Expr} {ifs : List Expr} {wi : TI} {g : TG} {tt : TT} {te : TE} (hc : X.calm = true) (S : CompScope4 X x z y3 scope) (hi : PI X tg iter wi) (hg : ∀ C s₀ H₀ fp, PG (cxComp4 X x z y3 scope C s₀ H₀ fp) tg g)
    (ht : ∀ C s₀ H₀ fp, PIfs (cxComp4 X x z y3 scope C s₀ H₀ fp) ifs tt) (he : ∀ C s₀ H₀ fp, PE (cxComp4 X x z y3 scope C s₀ H₀ fp) elt te) (hs : ∀ x, foldedSetIterable iter X.env x = pure x := by intro _; rfl) :
    PE X (.ListComp elt [⟨tg, iter, ifs, 0⟩] scope pos) (tComp4 wi g tt te) := by
  intro pins s σ H Q I h
  rw [eval_ListComp]
  refine wpAny_comprehension_free (use := none) (cl := cloGo X.env scope.names []) rfl hs (closure_ok fun y hy hk => I.ok.has y.1 (S.free y hy hk)) S.kind S.names (thn (hi pins s σ H _ I h) fun v s1 h1 => thn h1 fun itv s2 h2 => ?_)
  obtain ⟨it, fp, tn, J, H2, e, I2, T, st2, f2, q⟩ := h2
  subst e
  refine comp_block4 (RR := fun acc C => compPost (model X.prog X.w) X.A X.xe none (EP X pins σ Q) acc C) (Q := Q) hc S hg ht he I2 T st2 f2 q ?_
  intro D C s' H' m hn hf hI hq
  exact ⟨m, hn, fun h' sb => ⟨.ref D, H', hI.sameBut hf sb, rfl, hq⟩⟩
end
def compChk4 (x z y3 : Str) (scope osc : Scope) (N : List Str) : Bool :=
  (scope.kind == .function) && scope.names.all (fun y => y.2 != .cell && (y.2 != .local || scope.names.lookup y.1 == some .local) && (y.2 != .free || osc.names.lookup y.1 == some .cell || osc.names.lookup y.1 == some .free)) && (scope.names.lookup x == some .local) && (scope.names.lookup z == some .local) && (scope.names.lookup y3 == some .local) &&
  decide ((x :: z :: y3 :: N).Nodup) && N.all (fun y => scope.names.lookup y != some .local)
theorem compScope4 {X : Cx} {x z y3 : Str} {scope osc : Scope} {N : List Str} (hsc : X.env.scope = osc) (hN : X.N = N) (h : compChk4 x z y3 scope osc N = true) : CompScope4 X x z y3 scope := by
  unfold compChk4 at h
  simp only [Bool.and_eq_true] at h
  obtain ⟨⟨⟨⟨⟨⟨h1, h2⟩, h3⟩, h3'⟩, h3x⟩, h4⟩, h5⟩ := h
  rw [List.all_eq_true] at h2 h5
  have kind : ∀ y, X.env.kindOf y = osc.names.lookup y := fun y => by show X.env.scope.names.lookup y = _; rw [hsc]
  refine ⟨by simpa using h1, fun y hy => ?_, fun y hy hk => ?_, by simpa using h3, by simpa using h3', by simpa using h3x, fun y hy hk => ?_, by rw [hN]; exact of_decide_eq_true h4, fun y hy => ?_⟩
  · have := h2 y hy
    simp only [Bool.and_eq_true, bne_iff_ne] at this
    exact this.1.1
  · have := h2 y hy
    simp only [Bool.and_eq_true] at this
    simpa [hk] using this.1.2
  · have := h2 y hy
    simp only [Bool.and_eq_true] at this
    rw [kind]
    simpa [hk] using this.2
  · have := h5 y (by rw [← hN]; exact hy)
    simpa using this
section
variable {X : Cx} {x z y3 : Str} {scope : Scope}
theorem pg_tri {px pz p3 pos : Pos} {k : Nat} {C : Addr} {s₀ : Shared} {H₀ : Hp} {fp : List Addr} (hc : X.calm = true) (S : CompScope4 X x z y3 scope) :
    PG (cxComp4 X x z y3 scope C s₀ H₀ fp) (.Tuple [.Name x px, .Name z pz, .Name y3 p3] k pos) (gTup X.K 3 (gCons (gName 0) (gCons (gName 1) (gCons (gName 2) gNil)))) := by
  have l1 : (cxComp4 X x z y3 scope C s₀ H₀ fp).env.scope.names.lookup x = some .local := lookup_relabel_local S.loc
  have l2 : (cxComp4 X x z y3 scope C s₀ H₀ fp).env.scope.names.lookup z = some .local := lookup_relabel_local S.loz
  have l3 : (cxComp4 X x z y3 scope C s₀ H₀ fp).env.scope.names.lookup y3 = some .local := lookup_relabel_local S.lo3
  exact pg_tup (X := cxComp4 X x z y3 scope C s₀ H₀ fp) (n := 3) hc (pgs_cons (pg_name (X := cxComp4 X x z y3 scope C s₀ H₀ fp) (i := 0) S.nd rfl (.inl l1) (.inr l1)) (pgs_cons (pg_name (X := cxComp4 X x z y3 scope C s₀ H₀ fp) (i := 1) S.nd rfl (.inl l2) (.inr l2)) (pgs_cons (pg_name (X := cxComp4 X x z y3 scope C s₀ H₀ fp) (i := 2) S.nd rfl (.inl l3) (.inr l3)) pgs_nil)))
theorem pe_tri {px pz p3 tpos : Pos} {k : Nat} {pos : Pos} {iter elt : Expr} {ifs : List Expr} {wi : TI} {tt : TT} {te : TE} (hc : X.calm = true) (S : CompScope4 X x z y3 scope) (hi : PI X (.Tuple [.Name x px, .Name z pz, .Name y3 p3] k tpos) iter wi)
    (ht : ∀ C s₀ H₀ fp, PIfs (cxComp4 X x z y3 scope C s₀ H₀ fp) ifs tt) (he : ∀ C s₀ H₀ fp, PE (cxComp4 X x z y3 scope C s₀ H₀ fp) elt te) (hs : ∀ x, foldedSetIterable iter X.env x = pure x := by intro _; rfl) :
    PE X (.ListComp elt [⟨.Tuple [.Name x px, .Name z pz, .Name y3 p3] k tpos, iter, ifs, 0⟩] scope pos) (tComp4 wi (gTup X.K 3 (gCons (gName 0) (gCons (gName 1) (gCons (gName 2) gNil)))) tt te) :=
  pe_comp4 hc S hi (fun _ _ _ _ => pg_tri hc S) ht he hs
end
section
variable {X : Cx} {x z y3 : Str} {scope : Scope}
end
section
variable {σ : St} {H1 : Hp} {Q : VK} {tt : TT} {te : TE}
theorem comp_tri {K : PySem.W.Frag} {a : Addr} {α : Type} {l : List α} {vs : List V} (e : α → List V) (p : α → Bool) (f : α → List V) (hl : SqL K H1 a vs) (hp : Paired (fun x v => TupAt H1 (e x) v) l vs) (h3 : ∀ x, ∃ a b c, e x = [a, b, c]) (hz : vs.length < sizeLine)
    (ht : ∀ x ∈ l, ∀ a b c, e x = [a, b, c] → ∀ H, Same H1 H → ∀ R : Bool → Hp → Prop, (∀ H', Same H H' → R (p x) H') → tt (some a :: some b :: some c :: σ) H R)
    (he : ∀ x ∈ l, p x = true → ∀ a b c, e x = [a, b, c] → ∀ H, Same H1 H → ∀ R : VK, (∀ y H', Same H H' → TupAt H' (f x) y → R y H') → te (some a :: some b :: some c :: σ) H R)
    (hq : ∀ D H ys, H1 D = none → Same H1 H → H D = some (.lst ys) → Paired (fun x y => TupAt H (f x) y) (l.filter p) ys → Q (.ref D) H) : CompOk4 (Itl K a) σ H1 Q (gTup K 3 (gCons (gName 0) (gCons (gName 1) (gCons (gName 2) gNil)))) tt te := by
  intro D hD
  have s0 : Same H1 (upd H1 D (.lst [])) := fun b o e => by rw [upd_ne (ne_of_none e hD)]; exact e
  have hll := hp.length
  refine ⟨fun i m ys H => m = vs.length - i ∧ i ≤ vs.length ∧ H D = some (.lst ys) ∧ Paired (fun x y => TupAt H (f x) y) ((l.take i).filter p) ys ∧ Same H1 H, ⟨vs.length, by simp, Nat.zero_le _, upd_same, by simpa using Paired.nil, s0⟩, ?_⟩
  rintro i m ys H ⟨rfl, hi, hd, hpr, hs⟩
  by_cases hlt : i < vs.length
  · obtain ⟨y, hy⟩ : ∃ y, vs[i]? = some y := ⟨vs[i], by simp [hlt]⟩
    obtain ⟨x, hx, T, rfl, hT⟩ := Og.paired_get' hp hy
    obtain ⟨v1, v2, v3, e3⟩ := h3 x
    have hxl := List.mem_of_getElem? hx
    refine .inr ⟨⟨vs, _, hs.seq hl, hy⟩, fun y2 H3 hyl => ?_⟩
    obtain ⟨rfl, hy2⟩ := hyl
    have hy3 := hy2 vs (hs.seq hl)
    rw [hy] at hy3
    cases hy3
    intro u0 u1 u2
    rw [e3] at hT
    refine ⟨T, [v1, v2, v3], rfl, .inl (.inl (hs _ _ hT)), rfl, v1, _, rfl, v2, _, rfl, v3, _, rfl, rfl, ⟨_, _, _, rfl⟩, ?_⟩
    refine ht x hxl v1 v2 v3 e3 H3 hs _ fun H4 s4 => ?_
    have hlen : ys.length ≤ i := by
      rw [← hpr.length]
      exact Nat.le_trans (List.length_filter_le ..) (by rw [List.length_take]; omega)
    have etake : (l.take (i + 1)).filter p = (l.take i).filter p ++ (if p x = true then [x] else []) := by
      rw [List.take_add_one, hx, List.filter_append]
      congr 1
      by_cases hpx : p x = true
      · simp [hpx]
      · simp [hpx]
    by_cases hpx : p x = true
    · rw [if_pos hpx]
      refine he x hxl hpx v1 v2 v3 e3 H4 (hs.trans s4) _ fun y H5 s5 hty => ⟨s5 _ _ (s4 _ _ hd), by omega, vs.length - (i + 1), by omega, rfl, hlt, upd_same, ?_, ?_⟩
      · rw [etake, if_pos hpx]
        exact Paired.snoc (paired_upd (paired_mono (s4.trans s5) hpr) (s5 _ _ (s4 _ _ hd))) (hty.upd (s5 _ _ (s4 _ _ hd)))
      · intro b o eb
        rw [upd_ne (ne_of_none eb hD)]
        exact s5 _ _ (s4 _ _ (hs _ _ eb))
    · rw [if_neg hpx]
      refine ⟨vs.length - (i + 1), by omega, rfl, hlt, s4 _ _ hd, ?_, hs.trans s4⟩
      rw [etake, if_neg hpx, List.append_nil]
      exact paired_mono s4 hpr
  · have e : i = vs.length := by omega
    subst e
    refine .inl ⟨⟨vs, hs.seq hl, Nat.le_refl _⟩, hq D H ys hD hs hd ?_⟩
    rw [List.take_of_length_le (by omega)] at hpr
    exact hpr
end
end L2

namespace Sq
open PySem PySem.Spec PySem.Calls PyProof.Rows
abbrev lamBody (x : Str) (p1 q1 s1 p2 q2 s2 tp : Pos) (j1 j2 k : Nat) : Expr := .Tuple [.Subscript (.Name x p1) (.Constant (.int 1) j1 q1) s1, .Subscript (.Name x p2) (.Constant (.int 0) j2 q2) s2] k tp
section
variable {prog : Program} {w : World} {A : Around} {s : Shared}
theorem item_at {E : Value → Shared → Prop} {Q : Value → Shared → Prop} {env : Env} {x : Str} {p q sp : Pos} {jj : Nat} {i : Int} {j : Nat} {m : Str → Option Value} {u : Value} {o : Obj} {a : Addr} {its : Array Value} {n : Nat}
    (hk : env.scope.kind = .function) (hl : env.kindOf x = some .local) (hn : s.heap.Ns env.locals m) (hv : m x = some (.ref a)) (hd : (x == ("__debug__" : Str)) = false)
    (ho : s.heap.get? a = some o) (hc : o.cls = .type "tuple") (hdt : o.data = .seq its n) (hi : seqIndex? i its.size = some j) (h1 : -(2 ^ 63) ≤ i) (h2 : i < 2 ^ 63) (hj : its[j]? = some u)
    (h : ∀ tk, Q u { s with toks := tk }) : wpAny (model prog w) A (eval (.Subscript (.Name x p) (.Constant (.int i) jj q) sp) env) Q E s := by
  refine Subscript_ (wpAny_Name (wpAny_loadName_local hk hl hn hv (wpAny_Constant_int ?_)) hd)
  have pl : Heap.IsTuple s.heap a its := ⟨o, ho, hc, n, hdt⟩
  exact subscriptTail_builtinR (x := u) (s := { s with toks := s.toks + 1 }) ⟨o, ho, hc⟩ slot_tuple_getitem.lookup (getItem_tuple (j := j) (Q := fun r s' => r = u ∧ Q r s') pl h1 h2 hi hj ⟨rfl, h _⟩) (by with_unfolding_all rfl)
theorem lam_pair {f : Addr} {o : Obj} {name qual x : Str} {params : Arguments} {scope : Scope} {pm cdv ct v : Value} {t : T3} {p1 q1 s1 p2 q2 s2 tp : Pos} {j1 j2 k : Nat} {R : Value → Shared → Prop}
    (hroom : A.depth < recursionLimit) (ho : s.heap.get? f = some o) (hdat : o.data = .func (PySem.W.kla_fn name qual params (lamBody x p1 q1 s1 p2 q2 s2 tp j1 j2 k) scope [] pm cdv ct)) (hcd : s.heap.CodeRec cdv qual) (lim : s.heap.NoLimit)
    (hbind : ∀ v : Value, bindArgs (PySem.W.kla_fn name qual params (lamBody x p1 q1 s1 p2 q2 s2 tp j1 j2 k) scope [] pm cdv ct) ⟨[v], []⟩ = pure [(x, v)]) (hloc : scope.names.lookup x = some .local) (hcell : ∀ y ∈ scope.names, y.2 ≠ .cell)
    (hco : scope.isCoroutine = false) (hgen : scope.isGenerator = false) (hk : scope.kind = .function) (hdb : (x == ("__debug__" : Str)) = false)
    (ht : TrAt s.heap v t)
    (h : ∀ kv h2 tk2, PrAt h2 kv (t.2.1, t.1) → (∀ b o, s.heap.get? b = some o → h2.get? b = some o) → s.heap.objs.size ≤ h2.objs.size → R kv { s with heap := h2, toks := tk2 }) :
    wpAny (model prog w) A (call (.ref f) [v]) R (fun _ _ => False) s := by
  refine wpAny_call (PySem.W.kla_callFunE hroom ho hdat hco hgen rfl hcd ?_)
  rw [hbind v]
  refine wpAny_pure (wpAny_newFunctionEnv hcell (fun y hy => by rw [List.mem_singleton.mp hy]; exact hloc) (fun h₁ hns hsb => ?_) hk)
  have hk₁ : ∀ b o, s.heap.get? b = some o → h₁.get? b = some o := fun b o e => hsb.extBut b o (Nat.ne_of_lt (Heap.lt_size e)) (Heap.get?_push_of_some _ e)
  have hsz : s.heap.objs.size ≤ h₁.objs.size := by
    obtain ⟨_, _, _, e, _⟩ := hns
    exact Nat.le_of_lt (Heap.lt_size e)
  refine ⟨lim.keeps hk₁, PySem.W.kla_codeExpr (wpAny_Tuple_spliced ?_)⟩
  obtain ⟨a, oa, k1, k2, k3, n, rfl, ea, ca, da⟩ := ht
  have ea1 := hk₁ _ _ ea
  have hm : (fun y => [(x, Value.ref a)].reverse.lookup y) x = some (.ref a) := by
    show [(x, Value.ref a)].lookup x = _
    rw [List.lookup_cons, beq_self_eq_true]
  refine Calls.spliced_cons (item_at (j := 1) (u := .int t.2.1 k2) hk (show scope.names.lookup x = some .local from hloc) hns hm hdb ea1 ca da rfl (by decide) (by decide) rfl fun tk1 => ?_)
  refine Calls.spliced_cons (item_at (j := 0) (u := .int t.1 k1) hk (show scope.names.lookup x = some .local from hloc) hns hm hdb ea1 ca da rfl (by decide) (by decide) rfl fun tk2 => ?_)
  refine Calls.spliced_nil ⟨by show 2 ≤ sizeLine; decide, ?_⟩
  refine h _ _ _ ⟨h₁.objs.size, _, k2, k1, 0, rfl, Heap.get?_push_size _ rfl, rfl, rfl⟩ (fun b o e => Heap.get?_push_of_some _ (hk₁ b o e)) ?_
  rw [Heap.size_push]
  exact Nat.le_succ_of_le hsz
end
end Sq

namespace L2
open PySem PySem.Spec PySem.Calls PyProof.Rows Og
def CodeO (c : Addr) (qual : Str) : HO := .ext fun h => h.CodeRec (.ref c) qual
theorem codeO_ok {P : Program} {w : World} {H : Hp} {h : Heap} {c : Addr} {qual : Str} (g : h.CodeRec (.ref c) qual) : ObjOk P w H h c (CodeO c qual) := by
  refine ⟨g, ?_, fun h1 h2 g1 k => ?_⟩
  · obtain ⟨c', o, vs, t, e, q, r⟩ := g
    cases e
    exact ⟨o, q⟩
  · obtain ⟨c', o, vs, t, e, q, r⟩ := g1
    cases e
    exact ⟨_, o, vs, t, rfl, k _ q, r⟩
def TabH (H : Hp) (P : Addr) (pos : Pos) (qual : Str) : Prop := H P = some (.tbl #[]) ∨ ∃ c', H P = some (.tbl #[rawInt pos.line, rawInt pos.col, .ref c']) ∧ H c' = some (CodeO c' qual)
theorem TabH.same {H H' : Hp} {P : Addr} {pos : Pos} {qual : Str} (t : TabH H P pos qual) (s : Same H H') : TabH H' P pos qual := by
  rcases t with t | ⟨c', t1, t2⟩
  · exact .inl (s _ _ t)
  · exact .inr ⟨c', s _ _ t1, s _ _ t2⟩
structure TabK (mg : Str → Option Value) (base : Heap) (c P : Addr) : Prop where
  hd : PySem.W.CodeHd base c P
  bm : ∃ bm o, mg "__builtins__" = some (.ref bm) ∧ bm ≠ builtinsNs ∧ base.get? bm = some o ∧ o.cls = .type "module" ∧ o.dict = some builtinsNs ∧ o.data = .plain
def swp (t : Sq.T3) : Sq.T2 := (t.2.1, t.1)
def tSortLam (K : PySem.W.Frag) (P : Addr) (pos : Pos) (qual : Str) (te : TE) : TE := fun σ H Q => te σ H fun v H1 => ∃ (a : Addr) (ts : List Sq.T3) (vs : List V), v = .ref a ∧ SqL K H1 a vs ∧ Paired (fun t y => TupAt H1 (t3V t) y) ts vs ∧ vs.length < 1000 ∧ TabH H1 P pos qual ∧
  ∀ (p : Addr) (ix : List Nat) (H2 : Hp), H1 p = none → H2 p = none → (∀ b o, b ≠ P → H1 b = some o → H2 b = some o) → TabH H2 P pos qual → ix.Perm (List.range vs.length) →
    ix.Pairwise (fun i j => Sq.t2lt (swp (ts.getD j (0, 0, 0))) (swp (ts.getD i (0, 0, 0))) = false) → Q (.ref p) (upd H2 p (.lst (ix.map fun i => vs.getD i .non)))
section
variable {X : Cx} {pins : List (Addr × Obj)} {σ : St} {H : Hp} {s : Shared}
/-- the table grows by the lambda's code -/
theorem Inv.grow {P c' : Addr} {ps : Array Value} {qual : Str} {h' : Heap} {tk : Nat} {pos : Pos} (I : Inv X pins σ H s) (hP : H P = some (.tbl #[])) (hx : Heap.ExtBut P s.heap h') (hge : s.heap.objs.size ≤ c') (hrec : h'.CodeRec (.ref c') qual)
    (htb : h'.get? P = some (PySem.W.tabObj #[rawInt pos.line, rawInt pos.col, .ref c'])) (o : Obj) :
    Inv X pins σ (upd (upd H c' (CodeO c' qual)) P (.tbl #[rawInt pos.line, rawInt pos.col, .ref c'])) { s with heap := h'.push o, toks := tk } := by
  have hn : H c' = none := I.hok.fresh hge
  have eP : s.heap.get? P = some (PySem.W.tabObj #[]) := I.hok P _ hP
  have hcP : c' ≠ P := Nat.ne_of_gt (Nat.lt_of_lt_of_le (Heap.lt_size eP) hge)
  have kp : ∀ b u, b ≠ P → s.heap.get? b = some u → (h'.push o).get? b = some u := fun b u hb e => Heap.get?_push_of_some _ (hx b u hb e)
  have old : ∀ {b : Addr} {u : HO}, b ≠ P → H b = some u → upd (upd H c' (CodeO c' qual)) P (.tbl #[rawInt pos.line, rawInt pos.col, .ref c']) b = some u := fun {b u} hb e => by
    rw [upd_ne hb, upd_ne (ne_of_none e hn)]
    exact e
  refine I.un ⟨fun b u q n _ _ => kp b u (fun z => by rw [z, hP] at n; cases n) q, fun b u q n _ _ => ⟨u.slots, kp b u (fun z => by rw [z, hP] at n; cases n) q⟩, fun b u q n _ => ?_, fun b u q _ => ?_, fun b xs q => old (fun z => by rw [z, hP] at q; cases q) q, fun b u xs q => old (fun z => by rw [z, hP] at q; cases q) q, fun b ps q => ?_⟩ fun b u e => ?_
  · have hb : b ≠ P := fun z => by rw [z, hP] at n; cases n
    rw [upd_ne hb, upd_ne (Nat.ne_of_lt (Nat.lt_of_lt_of_le (Heap.lt_size q) hge))]
    exact n
  · by_cases hb : b = P
    · subst hb
      exact ⟨_, Heap.get?_push_of_some _ htb⟩
    · exact ⟨u, kp b u hb q⟩
  · by_cases hb : b = P
    · subst hb
      rw [hP] at q
      cases q
      exact ⟨#[rawInt pos.line, rawInt pos.col, .ref c'], by rw [upd_same]; rfl⟩
    · exact ⟨#[], by rw [old hb q]; simp⟩
  · by_cases hb : b = P
    · subst hb
      rw [upd_same] at e
      cases e
      exact Heap.get?_push_of_some _ htb
    · rw [upd_ne hb] at e
      by_cases hc : b = c'
      · subst hc
        rw [upd_same] at e
        cases e
        exact codeO_ok (hrec.push o)
      · rw [upd_ne hc] at e
        refine (I.hok b u e).stay (fun d v hd q => kp d v ?_ q) (fun d q => old (fun z => by rw [z, hP] at q; cases q) q) fun d xs q => old (fun z => by rw [z, hP] at q; cases q) q
        rcases hd with rfl | hd
        · exact hb
        · exact fun z => by rw [z, hP] at hd; cases hd
end
section
variable {X : Cx} {c P : Addr} {e : Expr} {te : TE} {x : Str} {params : Arguments} {scope : Scope} {p pos kp lpos p1 q1 w1 p2 q2 w2 tp : Pos} {j1 j2 kk : Nat}
theorem pe_sortLam (hcode : X.env.code = .ref c) (T : TabK X.mg X.base c P) (hr : Room 0 X.A) (hg : Gl X "sorted") (hm : X.mg "sorted" = none) (he : PE X e te)
    (hdef : defaultsOf params X.env = ([], [])) (hcl : closureFor scope X.env = pure [])
    (hbind : ∀ (pm cdv ct v : Value), bindArgs (PySem.W.kla_fn "<lambda>" (X.env.qual ++ "<lambda>") params (Sq.lamBody x p1 q1 w1 p2 q2 w2 tp j1 j2 kk) scope [] pm cdv ct) ⟨[v], []⟩ = pure [(x, v)])
    (hloc : scope.names.lookup x = some .local) (hcell : ∀ y ∈ scope.names, y.2 ≠ .cell) (hco : scope.isCoroutine = false) (hgen : scope.isGenerator = false) (hk : scope.kind = .function) (hdb : (x == ("__debug__" : Str)) = false)
    (hst : starEach [e] X.env = [(false, eval e X.env)]) :
    PE X (.Call (.Name "sorted" p) [e] [⟨some "key", .Lambda params (Sq.lamBody x p1 q1 w1 p2 q2 w2 tp j1 j2 kk) scope lpos, kp⟩] pos) (tSortLam X.K P lpos (X.env.qual ++ "<lambda>") te) := by
  intro pins s σ H Q I h
  refine wpAny_Call_Name_kw (ld_blt I hg hm PyProof.Rows.boot_sorted ?_)
  have hba : backTo pos (starEach [e] X.env) = [(false, eval e X.env)] := by rw [hst]; rfl
  refine PyProof.Rows.callWith_kw ?_ (by rw [hba]; rfl) (by rw [hba]; rfl)
  rw [hba]
  refine Calls.spliced_cons (thn (he pins s σ H _ I h) fun u s1 ⟨v, H1, I1, rv, a, ts, vs, ev, hS, hp, h64, tb, q⟩ => Calls.spliced_nil ?_)
  subst ev
  obtain rfl : u = Value.ref a := rv
  refine PyProof.Rows.kws_cons (PySem.W.kla_eval hdef ?_)
  -- what stands behind the lambda's making
  have fin : ∀ (f : Addr) (cdv ct : Value) (H2 : Hp) (s2 : Shared), Inv X pins σ H2 s2 → (∃ o : Obj, s2.heap.get? f = some o ∧ o.data = .func (PySem.W.kla_fn "<lambda>" (X.env.qual ++ "<lambda>") params (Sq.lamBody x p1 q1 w1 p2 q2 w2 tp j1 j2 kk) scope [] ((X.mg "__name__").getD .none) cdv ct)) →
      s2.heap.CodeRec cdv (X.env.qual ++ "<lambda>") → (∀ b o, b ≠ P → H1 b = some o → H2 b = some o) → TabH H2 P lpos (X.env.qual ++ "<lambda>") → (∀ b, s2.heap.objs.size ≤ b → H1 b = none) →
      wpAny (model X.prog X.w) X.A (call (.builtin "sorted") [.ref a] [(Str.ofString "key", .ref f)]) (EP X pins σ Q) X.xe s2 := fun f cdv ct H2 s2' I2 hf hcd kH tb2 fr => by
    obtain ⟨of, hof, hdf⟩ := hf
    have hP0 : ∀ {b : Addr} {u : HO}, H1 b = some u → (∀ ps, u ≠ .tbl ps) → H2 b = some u := fun {b u} e hne => kH b u (fun z => by
      rcases tb with t | ⟨c', t, _⟩
      · rw [z, t] at e; exact hne _ (Option.some.inj e).symm
      · rw [z, t] at e; exact hne _ (Option.some.inj e).symm) e
    have hS2 : SqL X.K H2 a vs := by
      rcases hS with (hS | ⟨o, hS⟩) | hS
      · exact .inl (.inl (hP0 hS (fun _ z => by cases z)))
      · exact .inl (.inr ⟨o, hP0 hS (fun _ z => by cases z)⟩)
      · exact .inr hS
    have hp2 : Paired (fun t y => TupAt H2 (t3V t) y) ts vs := Paired.mapP hp fun t y ⟨T1, e1, e2⟩ => ⟨T1, e1, hP0 e2 (fun _ z => by cases z)⟩
    obtain ⟨its, rvs, pl, hz⟩ := I2.list hS2
    have lv := rvs.length
    have lt := hp2.length
    have hfl : f < s2'.heap.objs.size := Heap.lt_size hof
    refine Sx.sorted_K (ts := ts.map swp) pl.isList (by rw [List.length_map]; omega) (by omega) (fun s3 kS hs3 hkS i v t hv ht => ?_) fun D h' tk cc ix le k e pm pw => ?_
    · obtain ⟨h3, rfl, k3⟩ := hs3
      rw [List.getElem?_map] at ht
      obtain ⟨t3, ht3, rfl⟩ := Option.map_eq_some_iff.mp ht
      obtain ⟨y, hy, ry⟩ := vals_get rvs hv
      obtain ⟨t', ht', hta⟩ := paired_get' hp2 hy
      rw [ht3] at ht'
      cases ht'
      have tr := trAt_of I2 hta ry
      intro h4 tk4 k4 z4 R hR
      have kk4 : ∀ b o, s2'.heap.get? b = some o → h4.get? b = some o := fun b o e => k4 b o (Nat.ne_of_lt (Nat.lt_of_lt_of_le (Heap.lt_size e) hkS)) (k3 b o e)
      refine Sq.lam_pair (s := { s2' with heap := h4, toks := tk4 }) (by have := hr.depth; exact this) (kk4 _ _ hof) hdf (hcd.keeps kk4) (I2.nolimit.keeps kk4) (hbind _ _ _) hloc hcell hco hgen hk hdb (tr.keep fun b o e _ => kk4 b o e) fun kv h2 tk2 g1 g2 g3 => hR kv h2 tk2 g1 g2 g3
    · have hn : H2 D = none := I2.hok.fresh le
      have li : its.length = vs.length := by omega
      rw [li] at pm
      have hb : ∀ i ∈ ix, i < vs.length := fun i hi => List.mem_range.mp (pm.mem_iff.mp hi)
      have vv : Vals (ix.map fun i => vs.getD i .non) (ix.map fun i => its.getD i .none) := by
        clear e pm pw
        induction ix with
        | nil => exact .nil
        | cons i ix ih =>
          refine .cons ?_ (ih fun j hj => hb j (List.mem_cons_of_mem _ hj))
          have hi := hb i (List.mem_cons_self ..)
          have hi' : i < its.length := by omega
          obtain ⟨x, hx, rx⟩ := vals_get rvs (List.getElem?_eq_getElem hi')
          show RelV (vs.getD i V.non) (its.getD i Value.none)
          rw [List.getD_eq_getElem?_getD, List.getD_eq_getElem?_getD, hx, List.getElem?_eq_getElem hi']
          exact rx
      have zl : (ix.map fun i => vs.getD i V.non).length ≤ sizeLine := by
        rw [List.length_map, pm.length_eq, List.length_range, sizeLine_eq]
        omega
      have gd : ∀ i, i < vs.length → (ts.map swp).getD i (0, 0) = swp (ts.getD i (0, 0, 0)) := fun i hi => by
        rw [List.getD_eq_getElem?_getD, List.getD_eq_getElem?_getD, List.getElem?_map, List.getElem?_eq_getElem (show i < ts.length by omega)]
        rfl
      have pw' : ix.Pairwise (fun i j => Sq.t2lt (swp (ts.getD j (0, 0, 0))) (swp (ts.getD i (0, 0, 0))) = false) := by
        refine List.Pairwise.imp_of_mem (fun {i j} hi hj hh => ?_) pw
        rw [gd i (hb i hi), gd j (hb j hj)] at hh
        exact hh
      exact ⟨.ref D, _, I2.laid (o := .lst (ix.map fun i => vs.getD i .non)) (t' := tk) k le ⟨zl, _, cc, vv, e⟩, rfl, q D ix H2 (fr D le) hn kH tb2 pm pw'⟩
  have hns := X.env
  obtain ⟨bm, ob, b1, b2, b3, b4, b5, b6⟩ := T.bm
  have glob := I1.mod.glob.keeps I1.bk
  have b3' := I1.bk _ _ b3
  have hbG : bm ≠ mainGlobals := fun q => by
    obtain ⟨o, es, ep, e, hd, _⟩ := glob
    rw [q, e] at b3'; cases b3'; rw [hd] at b6; cases b6
  rcases tb with t0 | ⟨c', t1, t2⟩
  · have eP : s1.heap.get? P = some (PySem.W.tabObj #[]) := I1.hok P _ t0
    have hgP : mainGlobals ≠ P := fun q => by
      obtain ⟨o, es, ep, e, hd, _⟩ := glob
      rw [q, eP] at e; cases e; cases hd
    have hbP : bm ≠ P := fun q => by
      rw [q, eP] at b3'; cases b3'; cases b4
    refine PySem.W.kla_makeFunction (ps := #[]) (mg := X.mg) hcl I1.ok.glob glob hcode (T.hd.keeps I1.bk) eP trivial rfl hgP ⟨bm, ob, b1, b2, hbG, hbP, b3', b4, b5, b6⟩ fun c' ctv h' tk hx hge hlt hrec htb => ?_
    refine PyProof.Rows.kws_nil ?_
    have I2 := I1.grow (pos := lpos) (tk := tk) (ps := #[]) t0 hx hge hrec (by simpa using htb) (PySem.W.kla_obj "<lambda>" (X.env.qual ++ "<lambda>") params (Sq.lamBody x p1 q1 w1 p2 q2 w2 tp j1 j2 kk) scope [] ((X.mg "__name__").getD .none) c' ctv)
    have hcP : c' ≠ P := Nat.ne_of_gt (Nat.lt_of_lt_of_le (Heap.lt_size eP) hge)
    refine fin h'.objs.size (.ref c') ctv _ _ I2 ⟨_, Heap.get?_push_size _ rfl, rfl⟩ (hrec.push _) (fun b o hb e => by rw [upd_ne hb, upd_ne (ne_of_none e (I1.hok.fresh hge))]; exact e) (.inr ⟨c', upd_same, by rw [upd_ne hcP, upd_same]⟩) (fun b hb => I1.hok.fresh ?_)
    have hb' : (h'.push (PySem.W.kla_obj "<lambda>" (X.env.qual ++ "<lambda>") params (Sq.lamBody x p1 q1 w1 p2 q2 w2 tp j1 j2 kk) scope [] ((X.mg "__name__").getD .none) c' ctv)).objs.size ≤ b := hb
    rw [Heap.size_push] at hb'
    omega
  · have eP : s1.heap.get? P = some (PySem.W.tabObj #[rawInt lpos.line, rawInt lpos.col, .ref c']) := I1.hok P _ t1
    have hbP : bm ≠ P := fun q => by
      rw [q, eP] at b3'; cases b3'; cases b4
    have hrec : s1.heap.CodeRec (.ref c') (X.env.qual ++ "<lambda>") := (I1.hok c' _ t2).1
    refine PySem.W.kla_makeFunctionHit (mg := X.mg) (cv := .ref c') hcl I1.ok.glob glob hcode (T.hd.keeps I1.bk) eP (by simp [TriplesOk, rawInt]) ?_ ⟨bm, ob, b1, b2, hbG, hbP, b3', b4, b5, b6⟩ fun ctv h' tk kx hge => ?_
    · simp [codeAmong, rawInt]
    refine PyProof.Rows.kws_nil ?_
    refine fin h'.objs.size (.ref c') ctv H1 _ (I1.kept (t' := tk) fun b o e => Heap.get?_push_of_some _ (kx b o e)) ⟨_, Heap.get?_push_size _ rfl, rfl⟩ ((hrec.keeps kx).push _) (fun b o _ e => e) (.inr ⟨c', t1, t2⟩) (fun b hb => I1.hok.fresh ?_)
    have hb' : (h'.push _).objs.size ≤ b := hb
    rw [Heap.size_push] at hb'
    omega
end
end L2

namespace L2
open PySem PySem.Spec PyProof.Rows
def OnlyT (Ps : List Addr) (H : Hp) : Prop := ∀ b, H b = none ∨ (∃ o xs, H b = some (.frz o (.lst xs))) ∨ (b ∈ Ps ∧ H b = some (.tbl #[]))
theorem law_callT {P : Program} {w : World} {K : PySem.W.Frag} {mg mb : Str → Option Value} {CX : CXT} {k : Nat} {fa a : Addr} {fd : FuncData} {x : Str} {sp : Sp} {s₁ : Shared} {vs : List Value} {ns : List Int} {tabs : List (Addr × Addr)}
    (KX : K.In s₁.heap) (hns : s₁.heap.Ns mainGlobals mg) (hb : s₁.heap.Ns builtinsNs mb) (hbb : ∀ x : Str, x ≠ "__name__" → mb x = bootBuiltins x) (hlim : s₁.heap.NoLimit) (hg : s₁.gens = #[])
    (hT : PySem.W.TabsAt tabs s₁.heap) (hnt : PySem.W.noTabs K = true) (hbm : ∃ bm o, mg "__builtins__" = some (.ref bm) ∧ bm ≠ builtinsNs ∧ s₁.heap.get? bm = some o ∧ o.cls = .type "module" ∧ o.dict = some builtinsNs ∧ o.data = .plain)
    (ha : s₁.heap.get? a = some { cls := .type "list", data := .seq vs.toArray }) (hi : IntsAre vs ns) (hl : ns.length ≤ sizeLine) (hr : Room k callerA)
    (F : ∀ base : Heap, K.In base → base.Ns mainGlobals mg → (∀ q ∈ tabs, TabK mg base q.1 q.2) → FnOk P w K mg base CX k fa fd [x] sp) (hbind : ∀ (s : Shared) (u : Value), BindsTo s fd ⟨[u], []⟩ [(x, u)])
    (hsp : ∀ H : Hp, (∀ q ∈ tabs, H q.2 = some (.tbl #[])) → SqL K H a (ns.map V.int) → sp [.ref a] H (fun v _ => v = .bl true) fun _ _ _ => False)
    (hCX : ∀ H e s', CX [] H s₁ (fun _ _ _ => False) e s' → False) :
    codeAny (model P w) callerA (.call (.ref fa) ⟨[.ref a], []⟩) (fun r s' => r = .ok (.ret (.bool true)) ∧ OldK s₁.heap s'.heap ∧ s'.os = s₁.os ∧ AllBare s'.gens) s₁ := by
  have rv := vals_ints hi
  have lenV := hi.length
  have tabP : ∀ b, b ∈ tabs.map (·.2) → s₁.heap.get? b = some (PySem.W.tabObj #[]) := fun b hb => by
    obtain ⟨q, hq, rfl⟩ := List.mem_map.mp hb
    exact (hT q hq).2
  have aP : a ∉ tabs.map (·.2) := fun z => by
    have := tabP a z
    rw [ha] at this
    cases this
  have core : ∀ H : Hp, OnlyT (tabs.map (·.2)) H → (∀ q ∈ tabs, H q.2 = some (.tbl #[])) → SqL K H a (ns.map V.int) → HOk P w H s₁.heap → (∀ b, H b ≠ none → b = a ∨ b ∈ tabs.map (·.2)) → (H a ≠ none → K.lookup a = none) →
      codeAny (model P w) callerA (.call (.ref fa) ⟨[.ref a], []⟩) (fun r s' => r = .ok (.ret (.bool true)) ∧ OldK s₁.heap s'.heap ∧ s'.os = s₁.os ∧ AllBare s'.gens) s₁ := by
    intro H hO hTH hS hok hA hK
    have base_of : ∀ {b : Addr} {o : Obj}, s₁.heap.get? b = some o → H b = none → (hidT s₁.heap H).get? b = some o := fun e n => hidT_get e n
    have noA : ∀ {b : Addr} {o : Obj} {es : Array DictEntry} {ep : Nat}, s₁.heap.get? b = some o → o.data = .dict es ep → H b = none := fun {b o es ep} e d => by
      cases q : H b with
      | none => rfl
      | some u =>
        rcases hA b (by rw [q]; simp) with e' | e'
        · subst e'
          rw [ha] at e; cases e
          have d' : Data.seq vs.toArray _ = Data.dict es ep := d
          cases d'
        · rw [tabP b e'] at e
          cases e
          cases d
    have nsK : ∀ {b : Addr} {m : Str → Option Value}, s₁.heap.Ns b m → (hidT s₁.heap H).Ns b m := fun {b m} ⟨o, es, ep, e, d, r⟩ => ⟨o, es, ep, base_of e (noA e d), d, r⟩
    have hKb : K.In (hidT s₁.heap H) := fun b o e => base_of (KX b o e) (by
      cases q : H b with
      | none => rfl
      | some u =>
        rcases hA b (by rw [q]; simp) with e' | e'
        · subst e'
          rw [hK (by rw [q]; simp)] at e; cases e
        · have e2 := KX b o e
          rw [tabP b e'] at e2
          have h2 := List.all_eq_true.mp hnt (b, o) (PySem.W.mem_of_lookupK e)
          cases e2
          exact absurd (show false = true from h2) Bool.false_ne_true)
    have hM : Mod K mg (hidT s₁.heap H) := ⟨hKb, nsK hns, ⟨mb, nsK hb, hbb⟩, let ⟨mc, h1, h2⟩ := hlim; ⟨mc, nsK h1, h2⟩⟩
    have e0 : Env0 P w K mg (hidT s₁.heap H) callerA [] s₁ H := ⟨rfl, hM, fun b o e => of_hidT e, Nat.le_of_eq (hidT_size _ _), trivial, fun b hb => absurd (show b ∈ ([] : List Addr) from hb) (by simp), hok, .of_eq hg⟩
    have tk : ∀ q ∈ tabs, TabK mg (hidT s₁.heap H) q.1 q.2 := fun q hq => by
      have plain : ∀ {b : Addr} {o : Obj}, s₁.heap.get? b = some o → (∀ xs n, o.data ≠ .seq xs n) → o.cls ≠ .none → H b = none := fun {b o} e h1 h2 => by
        cases z : H b with
        | none => rfl
        | some u =>
          rcases hA b (by rw [z]; simp) with e' | e'
          · subst e'
            rw [ha] at e; cases e
            exact absurd rfl (h1 _ _)
          · rw [tabP b e'] at e
            cases e
            exact absurd rfl h2
      obtain ⟨o, vs', file, tf, flags, tg, inF, text, tt, e1, r1, r2, r3⟩ := (hT q hq).1
      obtain ⟨bm, ob, b1, b2, b3, b4, b5, b6⟩ := hbm
      refine ⟨⟨o, vs', file, tf, flags, tg, inF, text, tt, base_of e1 (plain e1 (fun xs n z => by rw [r2] at z; cases z) (fun z => by rw [r1] at z; cases z)), r1, r2, r3⟩, bm, ob, b1, b2, base_of b3 (plain b3 (fun xs n z => by rw [b6] at z; cases z) (fun z => by rw [b4] at z; cases z)), b4, b5, b6⟩
    refine codeAny_mono ((F _ hKb (nsK hns) tk).run callerA [] s₁ H ⟨[.ref a], []⟩ [.ref a] [.ref a] _ _ hr e0 (hbind s₁ (.ref a)) (.cons rfl .nil) (hsp H hTH hS)) fun r s' h => ?_
    cases r with
    | error e => exact (hCX H e s' h).elim
    | ok fl =>
      cases fl with
      | next => exact False.elim h
      | brk => exact False.elim h
      | cont => exact False.elim h
      | ret u =>
        obtain ⟨v, H', os, bare, un, hok', r', q⟩ := h
        have q' : v = .bl true := q
        subst q'
        obtain rfl : u = Value.bool true := r'
        have grown : ∀ b o, b ∈ tabs.map (·.2) → s₁.heap.get? b = some o → isCodeTable s₁.heap b ∧ o = PySem.W.tabObj #[] ∧ ∃ ps, s'.heap.get? b = some (PySem.W.tabObj ps) := fun b o hb e => by
          obtain ⟨q, hq, rfl⟩ := List.mem_map.mp hb
          have e2 := (hT q hq).2
          rw [e] at e2
          obtain ⟨more, hm⟩ := un.tbls _ _ (hTH q hq)
          exact ⟨((hT q hq).1.tab (hT q hq).2).isCodeTable, Option.some.inj e2, _, hok' _ _ hm⟩
        have keep : ∀ b o, b ∉ tabs.map (·.2) → s₁.heap.get? b = some o → s'.heap.get? b = some o := fun b o hb e => by
          cases q : H b with
          | none => exact un.keep b o e q (by intro z; exact absurd (show b ∈ ([] : List Addr) from z) (by simp)) (by simp)
          | some u =>
            rcases hO b with z | ⟨ob, xs, z⟩ | ⟨z, _⟩
            · rw [q] at z; cases z
            · have z2 := un.frzs b ob _ z
              obtain ⟨e1, _⟩ := hok b _ z
              obtain ⟨e2, _⟩ := hok' b _ z2
              rw [e] at e1; cases e1
              exact e2
            · exact absurd z hb
        refine ⟨rfl, ⟨fun b o e => ?_, fun b o e => ?_⟩, os, bare⟩
        · by_cases hb : b ∈ tabs.map (·.2)
          · obtain ⟨ht, rfl, ps, hP⟩ := grown b o hb e
            exact .inr (.inl ⟨ht, rfl, #[], ps, rfl, by rw [Array.empty_append]; exact hP⟩)
          · exact .inl (keep b o hb e)
        · by_cases hb : b ∈ tabs.map (·.2)
          · obtain ⟨_, _, ps, hP⟩ := grown b o hb e
            exact ⟨_, hP⟩
          · exact ⟨o, keep b o hb e⟩
  have hsplit : ∀ (H0 : Hp), (∀ b u, H0 b = some u → b = a) → ∀ q ∈ tabs, (fun b => if b ∈ tabs.map (·.2) then some (HO.tbl #[]) else H0 b) q.2 = some (.tbl #[]) := fun H0 _ q hq => if_pos (List.mem_map_of_mem hq)
  cases hk : K.lookup a with
  | some o =>
    have e := KX a o hk
    rw [ha] at e
    cases e
    refine core (fun b => if b ∈ tabs.map (·.2) then some (.tbl #[]) else none) (fun b => ?_) (hsplit (fun _ => none) (fun b u z => by cases z)) (.inr ⟨_, vs.toArray, _, hk, rfl, rfl, rfl, by rw [List.size_toArray, lenV]; exact hl, by simpa using rv⟩) (fun b u z => ?_) (fun b z => ?_) fun z => absurd (if_neg aP) z
    · by_cases hb : b ∈ tabs.map (·.2)
      · exact .inr (.inr ⟨hb, if_pos hb⟩)
      · exact .inl (if_neg hb)
    · by_cases hb : b ∈ tabs.map (·.2)
      · have z' := (if_pos hb).symm.trans z
        cases z'
        exact tabP b hb
      · have z' := (if_neg hb).symm.trans z
        cases z'
    · by_cases hb : b ∈ tabs.map (·.2)
      · exact .inr hb
      · exact absurd (if_neg hb) z
  | none =>
    refine core (fun b => if b ∈ tabs.map (·.2) then some (.tbl #[]) else if b = a then some (.frz { cls := .type "list", data := .seq vs.toArray } (.lst (ns.map V.int))) else none) (fun b => ?_) (fun q hq => if_pos (List.mem_map_of_mem hq)) (.inl (.inr ⟨{ cls := .type "list", data := .seq vs.toArray }, (if_neg aP).trans (if_pos rfl)⟩)) (fun b u z => ?_) (fun b z => ?_) fun _ => hk
    · by_cases hb : b ∈ tabs.map (·.2)
      · exact .inr (.inr ⟨hb, if_pos hb⟩)
      · by_cases hc : b = a
        · exact .inr (.inl ⟨_, _, (if_neg hb).trans (if_pos hc)⟩)
        · exact .inl ((if_neg hb).trans (if_neg hc))
    · by_cases hb : b ∈ tabs.map (·.2)
      · have z' := (if_pos hb).symm.trans z
        cases z'
        exact tabP b hb
      · have z1 := (if_neg hb).symm.trans z
        by_cases hc : b = a
        · have z' := (if_pos hc).symm.trans z1
          cases z'
          subst hc
          exact ⟨ha, by rw [List.length_map]; exact hl, vs, _, rv, ha⟩
        · have z' := (if_neg hc).symm.trans z1
          cases z'
    · by_cases hb : b ∈ tabs.map (·.2)
      · exact .inr hb
      · by_cases hc : b = a
        · exact .inl hc
        · exact absurd ((if_neg hb).trans (if_neg hc)) z
/-- the goal that k_head leaves, where defs make lambdas -/
theorem walk_ofT {l : PySem.W.OpenLaw} {n k : Nat} {q : Program} {loose : List Str} {XP : (Str → Option Value) → Heap → Prop} {YP : World → Heap → Prop} {d : DefRec} {K : Params → PySem.W.Frag} {CX : World → CXT} {sp : World → Sp} {x : Str} {tabs : List (Addr × Addr)}
    (hn : l.most = some n) (hn2 : n ≤ sizeLine) (hdf : d.params.defaults = []) (hr : Room k callerA)
    (hY : ∀ (w : World) (h : Heap), YP w h → (K w.params).In h) (hnt : ∀ w : World, PySem.W.noTabs (K w.params) = true)
    (hT : ∀ (w : World) (mg mb : Str → Option Value) (mean : ExcName → Option Value) (h : Heap), Top q (PySem.W.looseW q loose) mean mg mb h → (K w.params).In h → PySem.W.TabsAt tabs h)
    (F : ∀ (w : World) (mg : Str → Option Value) (fa : Addr) (h : Heap), (K w.params).In h → h.Ns mainGlobals mg → mg d.name = some (.ref fa) →
      ∃ fd : FuncData, (∀ (s : Shared) (u : Value), BindsTo s fd ⟨[u], []⟩ [(x, u)]) ∧
        ∀ base : Heap, (K w.params).In base → base.Ns mainGlobals mg → (∀ q ∈ tabs, TabK mg base q.1 q.2) → FnOk l.prog w (K w.params) mg base (CX w) k fa fd [x] (sp w))
    (hsp : ∀ (w : World) (H : Hp) (a : Addr) (ns : List Int), ns.length ≤ n → (∀ q ∈ tabs, H q.2 = some (.tbl #[])) → SqL (K w.params) H a (ns.map V.int) → sp w [.ref a] H (fun v _ => v = .bl true) fun _ _ _ => False)
    (hCX : ∀ (w : World) (H : Hp) (s : Shared) (e : Value) (s' : Shared), CX w [] H s (fun _ _ _ => False) e s' → False) :
    PySem.W.WalkO q loose XP YP l.row.toRowW d [] (fun f vs => PySem.call f vs) := by
  refine Att.attach_call hn hdf fun w s₀ s₁ mg mb fa o pm cd doc a vs ns G Y ho hd hcd hmg hobj hints hlen hg => ?_
  have KX := hY w _ Y
  obtain ⟨fd, hb, hF⟩ := F w mg fa _ KX G.T.g hmg
  obtain ⟨bm, ob, b1, b2, b3, b4, b5, b6⟩ := G.T.bmain
  exact law_callT KX G.T.g G.T.b G.T.builtins G.T.nolimit hg (hT w mg mb _ _ G.T KX) (hnt w) ⟨bm, ob, b1, b2, b3, b4, b5, b6⟩ hobj hints (Nat.le_trans hlen hn2) hr hF hb (fun H hTH hS => hsp w H a ns hlen hTH hS) fun H e s' => hCX w H s₁ e s'
end L2

namespace Bw
abbrev Tr := Int × Int × Int
abbrev Dr := List Tr
def Chain : Int → Dr → Prop
  | _, [] => True
  | t, x :: r => x.1 = t ∧ x.1 < x.2.1 ∧ Chain x.2.1 r
def cnt (x : Tr) : Nat := (x.2.1 - x.1).toNat
/-- what each tick takes more than the pump gives -/
def tk (P : Int) : Dr → List Int
  | [] => []
  | x :: r => List.replicate (cnt x) (x.2.2 - P) ++ tk P r
def stp (e x : Int) : Int := max 0 (e + x)
def EF (e : Int) (W : List Int) : Int := W.foldl stp e
abbrev E (W : List Int) : Int := EF 0 W
structure LcI (W : List Int) (b0 b1 b2 taken since : Int) : Prop where
  e : E W = max 0 taken
  le : ∀ t, t ≤ W.length → E (W.take t) ≤ b0
  s0 : 0 ≤ since
  s1 : since ≤ W.length
  tk : taken = W.sum - (W.take since.toNat).sum
  b : (b0 = 0 ∧ b1 = 0 ∧ b2 = 0) ∨ (0 < b0 ∧ 0 ≤ b1 ∧ b1 < b2 ∧ b2 ≤ W.length ∧ b0 = (W.take b2.toNat).sum - (W.take b1.toNat).sum ∧ E (W.take b2.toNat) = b0)
def fl (cap : Int) : Int → List Int → Option Nat
  | _, [] => none
  | e, x :: r => if e + x > cap then some 0 else (fl cap (stp e x) r).map (· + 1)
/-- the ticks up to one -/
def cut (T : Int) (d : Dr) : Dr := (d.filter fun x => decide (x.1 ≤ T)).map fun x => (x.1, min x.2.1 (T + 1), x.2.2)
def ps : Int → List Int → List Int
  | s, [] => [s]
  | s, x :: r => s :: ps (s + x) r
structure DueI (W : List Int) (t : Nat) (low due : Int) : Prop where
  e : (W.take t).sum - low = E (W.take t)
  le : ∀ s, s ≤ t → E (W.take s) ≤ due
  ex : ∃ s, s ≤ t ∧ E (W.take s) = due
end Bw
namespace Bw
end Bw
namespace Bw
end Bw
namespace Bw
end Bw
namespace Bw
end Bw
namespace Bw
end Bw

namespace Bw
open PySem L2 Og
theorem ty_ni {K : PySem.W.Frag} : PySem.W.kitOne K (.type "NoneType") (.type "int") = some false := by kernel_rfl
theorem ints_at {ns : List Int} {i : Int} (h0 : 0 ≤ i) (h1 : i < ns.length) : ∃ c, ns[i.toNat]? = some c ∧ c ∈ ns ∧ atI (ns.map V.int) i = some (.int c) := by
  have hlt : i.toNat < ns.length := by omega
  refine ⟨ns[i.toNat], List.getElem?_eq_getElem hlt, List.getElem_mem hlt, ?_⟩
  have e : (ns.map V.int)[i.toNat]? = some (.int ns[i.toNat]) := by rw [List.getElem?_map, List.getElem?_eq_getElem hlt]; rfl
  have := atI_nat e
  rw [show ((i.toNat : Nat) : Int) = i by omega] at this
  exact this
theorem at_last {α : Type} {xs : List α} {v : α} : atI (xs ++ [v]) (-1) = some v := by
  unfold atI ixN
  rw [if_neg (by decide), if_pos (by simp; omega)]
  simp
  rw [show (-1 + ((xs.length : Int) + 1)).toNat = xs.length by omega]
  simp
abbrev triV (x : Tr) : List V := [.int x.1, .int x.2.1, .int x.2.2]
structure DrAt (H : Hp) (a : Addr) (d : Dr) (ys : List V) : Prop where
  l : H a = some (.lst ys)
  p : Paired (fun x v => TupAt H (triV x) v) d ys
theorem DrAt.mono {H H' : Hp} {a : Addr} {d : Dr} {ys : List V} (h : DrAt H a d ys) (s : Same H H') : DrAt H' a d ys := ⟨s _ _ h.l, paired_mono s h.p⟩
theorem DrAt.len {H : Hp} {a : Addr} {d : Dr} {ys : List V} (h : DrAt H a d ys) : d.length = ys.length := h.p.length
theorem DrAt.at {H : Hp} {a : Addr} {d : Dr} {ys : List V} (h : DrAt H a d ys) {i : Nat} {y : V} (hi : ys[i]? = some y) : ∃ x T, d[i]? = some x ∧ x ∈ d ∧ y = .ref T ∧ H T = some (.tup (triV x)) := by
  obtain ⟨x, hx, T, e, q⟩ := Og.paired_get' h.p hi
  exact ⟨x, T, hx, List.mem_of_getElem? hx, e, q⟩
theorem split_at {α : Type} {l : List α} {i : Nat} {x : α} (h : l[i]? = some x) : l = l.take i ++ x :: l.drop (i + 1) ∧ l.take (i + 1) = l.take i ++ [x] := by
  obtain ⟨hi, e⟩ := List.getElem?_eq_some_iff.mp h
  refine ⟨?_, ?_⟩
  · rw [← e, ← List.drop_eq_getElem_cons hi, List.take_append_drop]
  · rw [List.take_add_one, h]; rfl
/-- what the laws' draughts keep to -/
def Bd (d : Dr) : Prop := ∀ x ∈ d, 0 ≤ x.2.2 ∧ x.2.2 < 2 ^ 41 ∧ x.2.1 - x.1 < 2 ^ 35
def DH (H : Hp) (dh pc : Addr) (n : Nat) : Prop := ∃ (cs : List Int) (m r : Int), H dh = some (.lst [.ref pc, .int m, .int r, .int (n : Int)]) ∧ H pc = some (.lst (cs.map V.int)) ∧ dh ≠ pc ∧ (∀ c ∈ cs, 0 ≤ c) ∧ 0 ≤ m ∧ m ≤ cs.length ∧ 0 ≤ r ∧ r < 2147483647 ∧ cs.length ≤ 64
def Fr2 (H H' : Hp) (dh pc : Addr) : Prop := ∀ b, b ≠ dh → b ≠ pc → H' b = H b
theorem iteD {c A B : Prop} [Decidable c] (hc : c) (h : A) : if decide c = true then A else B := by
  rw [decide_eq_true hc]
  exact iteT h
theorem iteND {c A B : Prop} [Decidable c] (hc : ¬ c) (h : B) : if decide c = true then A else B := by
  rw [decide_eq_false hc]
  exact iteF h
theorem iteTr {A B : Prop} {b : Bool} (hb : b = true) (h : A) : if b = true then A else B := by
  rw [hb]
  exact iteT h
theorem iteFa {A B : Prop} {b : Bool} (hb : b = false) (h : B) : if b = true then A else B := by
  rw [hb]
  exact iteF h
theorem DrAt.snoc {H : Hp} {l T : Addr} {d : Dr} {ys : List V} {x : Tr} (A : DrAt H l d ys) (hT : H T = some (.tup (triV x))) : DrAt (L2.upd H l (.lst (ys ++ [.ref T]))) l (d ++ [x]) (ys ++ [.ref T]) :=
  ⟨upd_same, Paired.snoc (paired_upd A.p A.l) (TupAt.upd ⟨T, rfl, hT⟩ A.l)⟩
def spCa (K : PySem.W.Frag) : Sp := fun vs H Q _ => ∃ (a : Addr) (k : Nat) (ns : List Int), vs = [.ref a, .int (k : Nat)] ∧ SqL K H a (ns.map V.int) ∧ ∀ c, Q (.int c) H
def spWh : Sp := fun vs H Q _ => ∃ (x : V) (b : Bool), vs = [x] ∧ ((∃ i, x = .int i ∧ b = true) ∨ (x = .non ∧ b = false)) ∧ Q (.bl b) H
def gd (th ri c : Int) : Int := if th + ri < 0 then 0 else if ri ≥ 0 then c else if th / -ri < c then th / -ri else c
def spLaw (K : PySem.W.Frag) : Sp := fun vs H Q _ => ∃ (a : Addr) (ns : List Int), vs = [.ref a] ∧ SqL K H a (ns.map V.int) ∧ ns.length ≤ 63 ∧ ∀ H', Q (.bl true) H'
end Bw

namespace Ro
abbrev T3 := Int × Int × Int
def Cov (l : List T3) (tr t : Int) : Prop := ∃ h ∈ l, h.1 = tr ∧ h.2.1 ≤ t ∧ t < h.2.2
theorem Cov.app {a b : List T3} {tr t : Int} : Cov (a ++ b) tr t ↔ Cov a tr t ∨ Cov b tr t := by
  constructor
  · rintro ⟨h, hm, r⟩
    rcases List.mem_append.mp hm with hm | hm
    · exact .inl ⟨h, hm, r⟩
    · exact .inr ⟨h, hm, r⟩
  · rintro (⟨h, hm, r⟩ | ⟨h, hm, r⟩)
    · exact ⟨h, List.mem_append_left _ hm, r⟩
    · exact ⟨h, List.mem_append_right _ hm, r⟩
theorem Cov.one {h : T3} {tr t : Int} : Cov [h] tr t ↔ h.1 = tr ∧ h.2.1 ≤ t ∧ t < h.2.2 := by
  constructor
  · rintro ⟨g, hm, r⟩
    rw [List.mem_singleton.mp hm] at r
    exact r
  · intro r
    exact ⟨h, List.mem_singleton.mpr rfl, r⟩
theorem Cov.perm {a b : List T3} (p : ∀ x, x ∈ a ↔ x ∈ b) {tr t : Int} : Cov a tr t ↔ Cov b tr t :=
  ⟨fun ⟨h, hm, r⟩ => ⟨h, (p h).mp hm, r⟩, fun ⟨h, hm, r⟩ => ⟨h, (p h).mpr hm, r⟩⟩
/-- holes of one track stand apart -/
def Sep (l : List T3) : Prop := (∀ h ∈ l, h.2.1 < h.2.2) ∧ ∀ g ∈ l, ∀ h ∈ l, g.1 = h.1 → g = h ∨ g.2.2 < h.2.1 ∨ h.2.2 < g.2.1
def lt2 (a b : T3) : Prop := a.2.1 < b.2.1 ∨ (a.2.1 = b.2.1 ∧ a.1 < b.1)
structure Canon (l : List T3) : Prop where
  sep : Sep l
  srt : l.Pairwise lt2
theorem Sep.mem {l : List T3} (s : Sep l) {tr f b : Int} : (tr, f, b) ∈ l ↔ f < b ∧ (∀ t, f ≤ t → t < b → Cov l tr t) ∧ ¬ Cov l tr (f - 1) ∧ ¬ Cov l tr b := by
  have key : ∀ {h : T3}, h ∈ l → ¬ Cov l h.1 (h.2.1 - 1) ∧ ¬ Cov l h.1 h.2.2 := fun {h} hm => by
    have hh := s.1 h hm
    refine ⟨?_, ?_⟩
    · rintro ⟨g, gm, e, g1, g2⟩
      rcases s.2 g gm h hm e with e2 | e2 | e2
      · rw [e2] at g1; omega
      · omega
      · omega
    · rintro ⟨g, gm, e, g1, g2⟩
      rcases s.2 g gm h hm e with e2 | e2 | e2
      · rw [e2] at g2; omega
      · omega
      · omega
  constructor
  · intro hm
    obtain ⟨k1, k2⟩ := key hm
    exact ⟨s.1 _ hm, fun t h1 h2 => ⟨_, hm, rfl, h1, h2⟩, k1, k2⟩
  · rintro ⟨hfb, hall, h1, h2⟩
    obtain ⟨g, gm, e, g1, g2⟩ := hall f (Int.le_refl _) hfb
    obtain ⟨k1, k2⟩ := key gm
    have gb := s.1 g gm
    rw [e] at k1 k2
    have ef : g.2.1 = f := by
      by_cases hlt : g.2.1 < f
      · exact absurd ⟨g, gm, e, by omega, by omega⟩ h1
      · omega
    have eb : g.2.2 = b := by
      by_cases hlt : g.2.2 < b
      · exact absurd (hall g.2.2 (by omega) hlt) k2
      · by_cases hgt : b < g.2.2
        · exact absurd ⟨g, gm, e, by omega, hgt⟩ h2
        · omega
    have : g = (tr, f, b) := by
      obtain ⟨g1, g2, g3⟩ := g
      simp only at e ef eb
      rw [e, ef, eb]
    rw [← this]
    exact gm
theorem sorted_unique {α : Type} {R : α → α → Prop} (irr : ∀ a, ¬ R a a) (asy : ∀ a b, R a b → ¬ R b a) : ∀ {l m : List α}, l.Pairwise R → m.Pairwise R → (∀ x, x ∈ l ↔ x ∈ m) → l = m
  | [], [], _, _, _ => rfl
  | [], y :: m, _, _, h => by
    have := (h y).mpr (List.mem_cons_self ..)
    cases this
  | x :: l, [], _, _, h => by
    have := (h x).mp (List.mem_cons_self ..)
    cases this
  | x :: l, y :: m, hl, hm, h => by
    obtain ⟨l1, l2⟩ := List.pairwise_cons.mp hl
    obtain ⟨m1, m2⟩ := List.pairwise_cons.mp hm
    have exy : x = y := by
      rcases List.mem_cons.mp ((h x).mp (List.mem_cons_self ..)) with e | hx
      · exact e
      · rcases List.mem_cons.mp ((h y).mpr (List.mem_cons_self ..)) with e | hy
        · exact e.symm
        · exact absurd (l1 y hy) (asy _ _ (m1 x hx))
    subst exy
    rw [sorted_unique irr asy l2 m2 fun z => ?_]
    constructor
    · intro hz
      rcases List.mem_cons.mp ((h z).mp (List.mem_cons_of_mem _ hz)) with e | hz2
      · subst e
        exact absurd (l1 _ hz) (irr _)
      · exact hz2
    · intro hz
      rcases List.mem_cons.mp ((h z).mpr (List.mem_cons_of_mem _ hz)) with e | hz2
      · subst e
        exact absurd (m1 _ hz) (irr _)
      · exact hz2
theorem canon_unique {a b : List T3} (ca : Canon a) (cb : Canon b) (h : ∀ tr t, Cov a tr t ↔ Cov b tr t) : a = b := by
  refine sorted_unique (R := lt2) (fun x hx => ?_) (fun x y h1 h2 => ?_) ca.srt cb.srt fun x => ?_
  · unfold lt2 at hx; omega
  · unfold lt2 at h1 h2; omega
  · obtain ⟨tr, f, b'⟩ := x
    rw [ca.sep.mem, cb.sep.mem]
    simp only [h]
def le3 (a b : T3) : Prop := a.1 < b.1 ∨ (a.1 = b.1 ∧ (a.2.1 < b.2.1 ∨ (a.2.1 = b.2.1 ∧ a.2.2 ≤ b.2.2)))
/-- what stands behind some of the sorted spans -/
structure Mrg (pre hs : List T3) : Prop where
  pos : ∀ h ∈ hs, h.2.1 < h.2.2
  ord : hs.Pairwise fun a b => a.1 < b.1 ∨ (a.1 = b.1 ∧ a.2.2 < b.2.1)
  cov : ∀ tr t, Cov hs tr t ↔ Cov pre tr t
  lst : ∀ ini h, hs = ini ++ [h] → ∃ g ∈ pre, g.1 = h.1 ∧ g.2.1 = h.2.1
  mx : ∀ h ∈ hs, ∃ g ∈ pre, g.1 = h.1 ∧ h.2.1 ≤ g.2.1
theorem Mrg.nil : Mrg [] [] := ⟨fun _ h => absurd h List.not_mem_nil, .nil, fun _ _ => Iff.rfl, fun ini h e => by simp at e, fun _ h => absurd h List.not_mem_nil⟩
theorem Mrg.push {pre hs : List T3} {s : T3} (M : Mrg pre hs) (hs1 : s.2.1 < s.2.2) (hle : ∀ g ∈ pre, le3 g s) (hno : ∀ ini h, hs = ini ++ [h] → ¬ (h.1 = s.1 ∧ s.2.1 ≤ h.2.2)) : Mrg (pre ++ [s]) (hs ++ [s]) := by
  have beh : ∀ h ∈ hs, h.1 < s.1 ∨ (h.1 = s.1 ∧ h.2.2 < s.2.1) := fun h hm => by
    have lastcase : ∀ ini z, hs = ini ++ [z] → z.1 < s.1 ∨ (z.1 = s.1 ∧ z.2.2 < s.2.1) := fun ini z e => by
      obtain ⟨g, gm, e1, e2⟩ := M.mx z (by rw [e]; simp)
      have hg := hle g gm
      have hn := hno ini z e
      unfold le3 at hg
      by_cases e3 : z.1 = s.1
      · refine .inr ⟨e3, ?_⟩
        by_cases h4 : s.2.1 ≤ z.2.2
        · exact absurd ⟨e3, h4⟩ hn
        · omega
      · omega
    rcases List.eq_nil_or_concat hs with e | ⟨ini, z, e⟩
    · rw [e] at hm; cases hm
    · have e' : hs = ini ++ [z] := by rw [e]; simp
      have hl := lastcase ini z e'
      have zp := M.pos z (by rw [e']; simp)
      rw [e'] at hm
      rcases List.mem_append.mp hm with hm | hm
      · have ho := M.ord
        rw [e', List.pairwise_append] at ho
        have := ho.2.2 h hm z (List.mem_singleton.mpr rfl)
        omega
      · rw [List.mem_singleton.mp hm]; exact hl
  refine ⟨fun h hm => ?_, ?_, fun tr t => ?_, fun ini h e => ?_, fun h hm => ?_⟩
  · rcases List.mem_append.mp hm with hm | hm
    · exact M.pos h hm
    · rw [List.mem_singleton.mp hm]; exact hs1
  · rw [List.pairwise_append]
    refine ⟨M.ord, List.pairwise_singleton _ _, fun a ha b hb => ?_⟩
    rw [List.mem_singleton.mp hb]
    exact beh a ha
  · rw [Cov.app, Cov.app, M.cov]
  · have : h = s := by
      have := congrArg List.getLast? e
      simp at this
      exact this.symm
    subst this
    exact ⟨h, by simp, rfl, rfl⟩
  · rcases List.mem_append.mp hm with hm | hm
    · obtain ⟨g, gm, r⟩ := M.mx h hm
      exact ⟨g, List.mem_append_left _ gm, r⟩
    · rw [List.mem_singleton.mp hm]
      exact ⟨s, by simp, rfl, Int.le_refl _⟩
theorem Mrg.join {pre ini : List T3} {h s : T3} (M : Mrg pre (ini ++ [h])) (hle : ∀ g ∈ pre, le3 g s) (h1 : h.1 = s.1) (h2 : s.2.1 ≤ h.2.2) : Mrg (pre ++ [s]) (ini ++ [(s.1, h.2.1, max h.2.2 s.2.2)]) := by
  have hp := M.pos h (by simp)
  obtain ⟨g, gm, e1, e2⟩ := M.lst ini h rfl
  have hg := hle g gm
  unfold le3 at hg
  have hf : h.2.1 ≤ s.2.1 := by omega
  have ho := M.ord
  rw [List.pairwise_append] at ho
  refine ⟨fun k km => ?_, ?_, fun tr t => ?_, fun i2 k e => ?_, fun k km => ?_⟩
  · rcases List.mem_append.mp km with km | km
    · exact M.pos k (List.mem_append_left _ km)
    · rw [List.mem_singleton.mp km]
      show h.2.1 < max h.2.2 s.2.2
      omega
  · rw [List.pairwise_append]
    refine ⟨ho.1, List.pairwise_singleton _ _, fun a ha b hb => ?_⟩
    rw [List.mem_singleton.mp hb]
    have := ho.2.2 a ha h (List.mem_singleton.mpr rfl)
    show a.1 < s.1 ∨ (a.1 = s.1 ∧ a.2.2 < h.2.1)
    omega
  · rw [Cov.app, Cov.app, ← M.cov, Cov.app, Cov.one, Cov.one, Cov.one]
    show (_ ∨ (s.1 = tr ∧ h.2.1 ≤ t ∧ t < max h.2.2 s.2.2)) ↔ _
    rw [h1]
    constructor
    · rintro (c | ⟨c1, c2, c3⟩)
      · exact .inl (.inl c)
      · by_cases c4 : t < h.2.2
        · exact .inl (.inr ⟨c1, c2, c4⟩)
        · exact .inr ⟨c1, by omega, by omega⟩
    · rintro ((c | ⟨c1, c2, c3⟩) | ⟨c1, c2, c3⟩)
      · exact .inl c
      · exact .inr ⟨c1, c2, by omega⟩
      · exact .inr ⟨c1, by omega, by omega⟩
  · have : k = (s.1, h.2.1, max h.2.2 s.2.2) := by
      have := congrArg List.getLast? e
      simp at this
      exact this.symm
    subst this
    exact ⟨g, List.mem_append_left _ gm, by show g.1 = s.1; omega, e2⟩
  · rcases List.mem_append.mp km with km | km
    · obtain ⟨g', gm', r⟩ := M.mx k (List.mem_append_left _ km)
      exact ⟨g', List.mem_append_left _ gm', r⟩
    · rw [List.mem_singleton.mp km]
      exact ⟨s, by simp, rfl, hf⟩
theorem Mrg.sep {pre hs : List T3} (M : Mrg pre hs) : Sep hs := by
  refine ⟨M.pos, ?_⟩
  have key : ∀ {l : List T3}, l.Pairwise (fun a b => a.1 < b.1 ∨ (a.1 = b.1 ∧ a.2.2 < b.2.1)) → ∀ g ∈ l, ∀ h ∈ l, g.1 = h.1 → g = h ∨ g.2.2 < h.2.1 ∨ h.2.2 < g.2.1 := fun {l} => by
    induction l with
    | nil => intro _ g hg; cases hg
    | cons x l ih =>
      intro hp g hg h hh e
      obtain ⟨p1, p2⟩ := List.pairwise_cons.mp hp
      rcases List.mem_cons.mp hg with eg | hg2
      · rcases List.mem_cons.mp hh with eh | hh2
        · exact .inl (eg.trans eh.symm)
        · have := p1 h hh2
          rw [← eg] at this
          omega
      · rcases List.mem_cons.mp hh with eh | hh2
        · have := p1 g hg2
          rw [← eh] at this
          omega
        · exact ih p2 g hg2 h hh2 e
  exact key M.ord
theorem Sep.perm {a b : List T3} (s : Sep a) (p : ∀ x, x ∈ b → x ∈ a) : Sep b := ⟨fun h hm => s.1 h (p h hm), fun g gm h hm e => s.2 g (p g gm) h (p h hm) e⟩
/-- sorted by first and track, each once: then strictly -/
theorem strict_of {l : List T3} (s : Sep l) (nd : l.Nodup) (hw : l.Pairwise fun a b => ¬ lt2 b a) : l.Pairwise lt2 := by
  have key : ∀ {l : List T3}, Sep l → l.Nodup → l.Pairwise (fun a b => ¬ lt2 b a) → l.Pairwise lt2 := fun {l} => by
    induction l with
    | nil => intro _ _ _; exact .nil
    | cons x l ih =>
      intro s nd hw
      obtain ⟨w1, w2⟩ := List.pairwise_cons.mp hw
      obtain ⟨n1, n2⟩ := List.nodup_cons.mp nd
      refine List.pairwise_cons.mpr ⟨fun y hy => ?_, ih (s.perm fun z hz => List.mem_cons_of_mem _ hz) n2 w2⟩
      have h1 := w1 y hy
      have hxb := s.1 x (List.mem_cons_self ..)
      have hyb := s.1 y (List.mem_cons_of_mem _ hy)
      unfold lt2 at h1 ⊢
      by_cases e : x.2.1 = y.2.1 ∧ x.1 = y.1
      · rcases s.2 x (List.mem_cons_self ..) y (List.mem_cons_of_mem _ hy) e.2 with e2 | e2 | e2
        · exact absurd (e2 ▸ hy) n1
        · omega
        · omega
      · omega
  exact key s nd hw
end Ro
namespace Ro
structure LH (C : Int → Prop) (tr : Int) (cs : List Int) (bg : Option Int) (out : List T3) : Prop where
  mx : ∀ h ∈ out, h.1 = tr ∧ h.2.1 < h.2.2 ∧ (∀ t, h.2.1 ≤ t → t < h.2.2 → C t) ∧ ¬ C (h.2.1 - 1) ∧ ¬ C h.2.2
  le : ∀ h ∈ out, h.2.2 ∈ cs
  bgn : ∀ b, bg = some b → b ∈ cs ∧ ¬ C (b - 1) ∧ ∀ c, c ∈ cs → b ≤ c → ∀ t, b ≤ t → t ≤ c → C t
  no : bg = none → ∀ c, cs.getLast? = some c → ¬ C c
  all : ∀ t c, c ∈ cs → t ≤ c → C t → (∃ h ∈ out, h.2.1 ≤ t ∧ t < h.2.2) ∨ (∃ b, bg = some b ∧ b ≤ t)
  ord : out.Pairwise fun a b => a.2.2 ≤ b.2.1
  obg : ∀ b, bg = some b → ∀ h ∈ out, h.2.2 ≤ b
theorem LH.nil {C : Int → Prop} {tr : Int} : LH C tr [] none [] := by
  refine ⟨fun _ h => absurd h List.not_mem_nil, fun _ h => absurd h List.not_mem_nil, fun _ e => ?_, fun _ c e => ?_, fun _ _ h => absurd h List.not_mem_nil, .nil, fun _ e => ?_⟩
  · cases e
  · cases e
  · cases e
section
variable {C : Int → Prop} {tr c : Int} {cs : List Int} {bg : Option Int} {out : List T3}
/-- the next cut -/
structure Nx (C : Int → Prop) (cs : List Int) (c : Int) : Prop where
  lt : ∀ d ∈ cs, d < c
  z : cs = [] → ∀ t, t < c → ¬ C t
  mid : ∀ d, cs.getLast? = some d → ∀ t, d ≤ t → t < c → (C t ↔ C d)
  top : ∀ d, cs.getLast? = some d → d ∈ cs ∧ ∀ e ∈ cs, e ≤ d
theorem two {cs : List Int} : cs = [] ∨ ∃ d, cs.getLast? = some d := by
  cases cs with
  | nil => exact .inl rfl
  | cons a b => exact .inr ⟨_, List.getLast?_eq_some_getLast (by simp)⟩
theorem mem_snoc {cs : List Int} {c d : Int} : d ∈ cs ++ [c] ↔ d ∈ cs ∨ d = c := by simp
theorem LH.begin (I : LH C tr cs none out) (N : Nx C cs c) (hc : C c) : LH C tr (cs ++ [c]) (some c) out := by
  refine ⟨I.mx, fun h hm => mem_snoc.mpr (.inl (I.le h hm)), fun b e => ?_, fun e => (by cases e), fun t d hd ht hC => ?_, I.ord, fun b e h hm => ?_⟩
  · cases e
    refine ⟨mem_snoc.mpr (.inr rfl), ?_, fun d hd hcd t h1 h2 => ?_⟩
    · rcases two (cs := cs) with e0 | ⟨d, e0⟩
      · exact N.z e0 _ (by omega)
      · have h1 := N.lt d (N.top d e0).1
        rw [N.mid d e0 (c - 1) (by omega) (by omega)]
        exact I.no rfl d e0
    · rcases mem_snoc.mp hd with hd | hd
      · have := N.lt d hd
        omega
      · have : t = c := by omega
        rw [this]; exact hc
  · rcases mem_snoc.mp hd with hd | hd
    · rcases I.all t d hd ht hC with h | ⟨b, e, _⟩
      · exact .inl h
      · cases e
    · by_cases htc : t = c
      · exact .inr ⟨c, rfl, by omega⟩
      · rcases two (cs := cs) with e0 | ⟨d0, e0⟩
        · exact absurd hC (N.z e0 t (by omega))
        · by_cases h0 : d0 ≤ t
          · exact absurd ((N.mid d0 e0 t h0 (by omega)).mp hC) (I.no rfl d0 e0)
          · rcases I.all t d0 (N.top d0 e0).1 (by omega) hC with h | ⟨b, e, _⟩
            · exact .inl h
            · cases e
  · cases e
    have := N.lt _ (I.le h hm)
    omega
theorem LH.stay {b : Int} (I : LH C tr cs (some b) out) (N : Nx C cs c) (hc : C c) : LH C tr (cs ++ [c]) (some b) out := by
  obtain ⟨b1, b2, b3⟩ := I.bgn b rfl
  refine ⟨I.mx, fun h hm => mem_snoc.mpr (.inl (I.le h hm)), fun b' e => ?_, fun e => (by cases e), fun t d hd ht hC => ?_, I.ord, I.obg⟩
  · cases e
    refine ⟨mem_snoc.mpr (.inl b1), b2, fun d hd hbd t h1 h2 => ?_⟩
    rcases mem_snoc.mp hd with hd | hd
    · exact b3 d hd hbd t h1 h2
    · by_cases htc : t = c
      · rw [htc]; exact hc
      · rcases two (cs := cs) with e0 | ⟨d0, e0⟩
        · rw [e0] at b1; cases b1
        · have hbd0 := (N.top d0 e0).2 b b1
          by_cases h0 : d0 ≤ t
          · exact (N.mid d0 e0 t h0 (by omega)).mpr (b3 d0 (N.top d0 e0).1 hbd0 d0 hbd0 (Int.le_refl _))
          · exact b3 d0 (N.top d0 e0).1 hbd0 t h1 (by omega)
  · by_cases hbt : b ≤ t
    · exact .inr ⟨b, rfl, hbt⟩
    · exact I.all t b b1 (by omega) hC
theorem LH.close {b : Int} (I : LH C tr cs (some b) out) (N : Nx C cs c) (hc : ¬ C c) : LH C tr (cs ++ [c]) none (out ++ [(tr, b, c)]) := by
  obtain ⟨b1, b2, b3⟩ := I.bgn b rfl
  have hbc := N.lt b b1
  have full : ∀ t, b ≤ t → t < c → C t := fun t h1 h2 => by
    rcases two (cs := cs) with e0 | ⟨d0, e0⟩
    · rw [e0] at b1; cases b1
    · have hbd0 := (N.top d0 e0).2 b b1
      by_cases h0 : d0 ≤ t
      · exact (N.mid d0 e0 t h0 h2).mpr (b3 d0 (N.top d0 e0).1 hbd0 d0 hbd0 (Int.le_refl _))
      · exact b3 d0 (N.top d0 e0).1 hbd0 t h1 (by omega)
  refine ⟨fun h hm => ?_, fun h hm => ?_, fun b' e => (by cases e), fun _ d e => ?_, fun t d hd ht hC => ?_, ?_, fun b' e => (by cases e)⟩
  · rcases List.mem_append.mp hm with hm | hm
    · exact I.mx h hm
    · rw [List.mem_singleton.mp hm]
      exact ⟨rfl, hbc, full, b2, hc⟩
  · rcases List.mem_append.mp hm with hm | hm
    · exact mem_snoc.mpr (.inl (I.le h hm))
    · rw [List.mem_singleton.mp hm]
      exact mem_snoc.mpr (.inr rfl)
  · simp at e
    rw [← e]; exact hc
  · have cs0 : t ≤ b → (∃ h ∈ out ++ [(tr, b, c)], h.2.1 ≤ t ∧ t < h.2.2) ∨ (∃ b', (none : Option Int) = some b' ∧ b' ≤ t) := fun h0 => by
      by_cases e0 : t = b
      · exact .inl ⟨(tr, b, c), by simp, by show b ≤ t; omega, by show t < c; omega⟩
      · rcases I.all t b b1 h0 hC with ⟨h, hm, r⟩ | ⟨b', e, r⟩
        · exact .inl ⟨h, List.mem_append_left _ hm, r⟩
        · cases e
          omega
    by_cases hbt : b ≤ t
    · have htc : t < c := by
        rcases mem_snoc.mp hd with hd | hd
        · have := N.lt d hd
          omega
        · have : t ≠ c := fun z => hc (z ▸ hC)
          omega
      exact .inl ⟨(tr, b, c), by simp, hbt, htc⟩
    · exact cs0 (by omega)
  · rw [List.pairwise_append]
    refine ⟨I.ord, List.pairwise_singleton _ _, fun x hx y hy => ?_⟩
    rw [List.mem_singleton.mp hy]
    exact I.obg b rfl x hx
theorem LH.rest (I : LH C tr cs none out) (N : Nx C cs c) (hc : ¬ C c) : LH C tr (cs ++ [c]) none out := by
  refine ⟨I.mx, fun h hm => mem_snoc.mpr (.inl (I.le h hm)), fun b e => (by cases e), fun _ d e => ?_, fun t d hd ht hC => ?_, I.ord, fun b e => (by cases e)⟩
  · simp at e
    rw [← e]; exact hc
  · rcases mem_snoc.mp hd with hd | hd
    · exact I.all t d hd ht hC
    · have htc : t ≠ c := fun z => hc (z ▸ hC)
      rcases two (cs := cs) with e0 | ⟨d0, e0⟩
      · exact absurd hC (N.z e0 t (by omega))
      · by_cases h0 : d0 ≤ t
        · exact absurd ((N.mid d0 e0 t h0 (by omega)).mp hC) (I.no rfl d0 e0)
        · exact I.all t d0 (N.top d0 e0).1 (by omega) hC
end
/-- the next cut of a rising list that holds all beginnings and ends -/
theorem nx_of {mine : List T3} {tr : Int} (hm : ∀ s ∈ mine, s.1 = tr) {cuts pre rest : List Int} {c : Int} (e : cuts = pre ++ c :: rest) (hs : cuts.Pairwise (· < ·)) (hf : ∀ s ∈ mine, s.2.1 ∈ cuts ∧ s.2.2 ∈ cuts) : Nx (Cov mine tr) pre c := by
  have hs' := hs
  rw [e, List.pairwise_append] at hs'
  obtain ⟨p1, p2, p3⟩ := hs'
  obtain ⟨q1, q2⟩ := List.pairwise_cons.mp p2
  have below : ∀ d ∈ cuts, d < c → d ∈ pre := fun d hd hlt => by
    rw [e] at hd
    rcases List.mem_append.mp hd with hd | hd
    · exact hd
    · rcases List.mem_cons.mp hd with hd | hd
      · omega
      · have := q1 d hd
        omega
  have top : ∀ d, pre.getLast? = some d → d ∈ pre ∧ ∀ x ∈ pre, x ≤ d := fun d hd => by
    refine ⟨List.mem_of_getLast? hd, fun x hx => ?_⟩
    obtain ⟨ini, e2⟩ := List.getLast?_eq_some_iff.mp hd
    rw [e2] at hx p1
    rcases List.mem_append.mp hx with hx | hx
    · have := (List.pairwise_append.mp p1).2.2 x hx d (List.mem_singleton.mpr rfl)
      omega
    · rw [List.mem_singleton.mp hx]; exact Int.le_refl _
  refine ⟨fun d hd => p3 d hd c (List.mem_cons_self ..), fun e0 t ht => ?_, fun d hd t h1 h2 => ?_, top⟩
  · rintro ⟨s, sm, _, s1, s2⟩
    have := below _ (hf s sm).1 (by omega)
    rw [e0] at this
    cases this
  · obtain ⟨d1, d2⟩ := top d hd
    constructor
    · rintro ⟨s, sm, se, s1, s2⟩
      exact ⟨s, sm, se, d2 _ (below _ (hf s sm).1 (by omega)), by omega⟩
    · rintro ⟨s, sm, se, s1, s2⟩
      refine ⟨s, sm, se, by omega, ?_⟩
      by_cases h3 : s.2.2 < c
      · have := d2 _ (below _ (hf s sm).2 h3)
        omega
      · omega
/-- all cuts seen: nothing is begun -/
theorem LH.done {mine : List T3} {tr : Int} {cuts : List Int} {bg : Option Int} {out : List T3} (I : LH (Cov mine tr) tr cuts bg out) (hm : ∀ s ∈ mine, s.1 = tr) (hs : cuts.Pairwise (· < ·)) (hf : ∀ s ∈ mine, s.2.1 ∈ cuts ∧ s.2.2 ∈ cuts ∧ s.2.1 < s.2.2) :
    bg = none ∧ (∀ t, Cov mine tr t → ∃ h ∈ out, h.2.1 ≤ t ∧ t < h.2.2) := by
  have top : ∀ d, cuts.getLast? = some d → d ∈ cuts ∧ ∀ x ∈ cuts, x ≤ d := fun d hd => by
    refine ⟨List.mem_of_getLast? hd, fun x hx => ?_⟩
    obtain ⟨ini, e2⟩ := List.getLast?_eq_some_iff.mp hd
    have hs' := hs
    rw [e2] at hx hs'
    rcases List.mem_append.mp hx with hx | hx
    · have := (List.pairwise_append.mp hs').2.2 x hx d (List.mem_singleton.mpr rfl)
      omega
    · rw [List.mem_singleton.mp hx]; exact Int.le_refl _
  have none_at : ∀ d, cuts.getLast? = some d → ¬ Cov mine tr d := fun d hd => by
    rintro ⟨s, sm, _, s1, s2⟩
    have := (top d hd).2 _ (hf s sm).2.1
    omega
  have hbg : bg = none := by
    cases e : bg with
    | none => rfl
    | some b =>
      obtain ⟨b1, b2, b3⟩ := I.bgn b e
      rcases two (cs := cuts) with e0 | ⟨d, e0⟩
      · rw [e0] at b1; cases b1
      · have := (top d e0).2 b b1
        exact absurd (b3 d (top d e0).1 this d this (Int.le_refl _)) (none_at d e0)
  refine ⟨hbg, fun t hC => ?_⟩
  obtain ⟨s, sm, se, s1, s2⟩ := id hC
  rcases I.all t s.2.2 (hf s sm).2.1 (by omega) hC with h | ⟨b, e, _⟩
  · exact h
  · rw [hbg] at e; cases e
/-- holes that are whole stretches stand apart -/
theorem max_sep {C : Int → Int → Prop} {l : List T3} (h : ∀ x ∈ l, x.2.1 < x.2.2 ∧ (∀ t, x.2.1 ≤ t → t < x.2.2 → C x.1 t) ∧ ¬ C x.1 (x.2.1 - 1) ∧ ¬ C x.1 x.2.2) : Sep l := by
  refine ⟨fun x hx => (h x hx).1, fun g gm k km e => ?_⟩
  obtain ⟨g1, g2, g3, g4⟩ := h g gm
  obtain ⟨k1, k2, k3, k4⟩ := h k km
  by_cases a : g.2.2 < k.2.1
  · exact .inr (.inl a)
  by_cases b : k.2.2 < g.2.1
  · exact .inr (.inr b)
  refine .inl ?_
  rw [← e] at k2 k3 k4
  have ef : g.2.1 = k.2.1 := by
    by_cases c1 : g.2.1 < k.2.1
    · exact absurd (g2 (k.2.1 - 1) (by omega) (by omega)) k3
    · by_cases c2 : k.2.1 < g.2.1
      · exact absurd (k2 (g.2.1 - 1) (by omega) (by omega)) g3
      · omega
  have eb : g.2.2 = k.2.2 := by
    by_cases c1 : g.2.2 < k.2.2
    · exact absurd (k2 g.2.2 (by omega) c1) g4
    · by_cases c2 : k.2.2 < g.2.2
      · exact absurd (g2 k.2.2 (by omega) c2) k4
      · omega
  obtain ⟨x1, x2, x3⟩ := g
  obtain ⟨y1, y2, y3⟩ := k
  simp only at e ef eb
  rw [e, ef, eb]
end Ro

namespace Ro
open PySem L2 Og
abbrev RlAt := Bw.DrAt
/-- two tables of code, and what is kept beside them -/
structure Tb2 where
  P1 : Addr
  P2 : Addr
  pos1 : Pos
  pos2 : Pos
  q1 : Str
  q2 : Str
def Tb (B : Tb2) (H : Hp) : Prop := B.P1 ≠ B.P2 ∧ TabH H B.P1 B.pos1 B.q1 ∧ TabH H B.P2 B.pos2 B.q2
def Kp (B : Tb2) (H H' : Hp) : Prop := ∀ b o, (∀ ps, o ≠ .tbl ps) → H b = some o → H' b = some o
theorem Kp.of {B : Tb2} {H H' : Hp} (s : Same H H') : Kp B H H' := fun b o _ e => s b o e
theorem Kp.trans {B : Tb2} {H H1 H2 : Hp} (a : Kp B H H1) (b : Kp B H1 H2) : Kp B H H2 := fun c o n e => b c o n (a c o n e)
theorem Tb.same {B : Tb2} {H H' : Hp} (t : Tb B H) (s : Same H H') : Tb B H' := ⟨t.1, t.2.1.same s, t.2.2.same s⟩
theorem RlAt.kp {B : Tb2} {H H' : Hp} {a : Addr} {d : List T3} {ys : List V} (h : RlAt H a d ys) (k : Kp B H H') : RlAt H' a d ys :=
  ⟨k _ _ (fun _ z => by cases z) h.l, Paired.mapP h.p fun x v ⟨T, e, q⟩ => ⟨T, e, k _ _ (fun _ z => by cases z) q⟩⟩
theorem Kp.seq {B : Tb2} {K : PySem.W.Frag} {H H' : Hp} {a : Addr} {xs : List V} (e : Kp B H H') (h : SqL K H a xs) : SqL K H' a xs := by
  rcases h with (h | ⟨o, h⟩) | h
  · exact .inl (.inl (e _ _ (fun _ z => by cases z) h))
  · exact .inl (.inr ⟨o, e _ _ (fun _ z => by cases z) h⟩)
  · exact .inr h
/-- a list sorted by its places -/
theorem pick_paired {H : Hp} {ts : List T3} {vs : List V} (hp : Paired (fun t y => TupAt H (t3V t) y) ts vs) {ix : List Nat} (hb : ∀ i ∈ ix, i < vs.length) : Paired (fun t y => TupAt H (t3V t) y) (ix.map fun i => ts.getD i (0, 0, 0)) (ix.map fun i => vs.getD i .non) := by
  induction ix with
  | nil => exact .nil
  | cons i ix ih =>
    refine .cons ?_ (ih fun j hj => hb j (List.mem_cons_of_mem _ hj))
    have hi := hb i (List.mem_cons_self ..)
    obtain ⟨t, ht, hta⟩ := paired_get' hp (List.getElem?_eq_getElem hi)
    show TupAt H (t3V (ts.getD i (0, 0, 0))) (vs.getD i .non)
    rw [List.getD_eq_getElem?_getD, List.getD_eq_getElem?_getD, ht, List.getElem?_eq_getElem hi]
    exact hta
theorem pick_mem {α : Type} {ts : List α} {z : α} {ix : List Nat} (pm : ix.Perm (List.range ts.length)) (x : α) : x ∈ ix.map (fun i => ts.getD i z) ↔ x ∈ ts := by
  rw [List.mem_map]
  constructor
  · rintro ⟨i, hi, rfl⟩
    have := List.mem_range.mp (pm.mem_iff.mp hi)
    rw [List.getD_eq_getElem?_getD, List.getElem?_eq_getElem this]
    exact List.getElem_mem this
  · intro hx
    obtain ⟨i, hi, e⟩ := List.getElem_of_mem hx
    exact ⟨i, pm.mem_iff.mpr (List.mem_range.mpr hi), by rw [List.getD_eq_getElem?_getD, List.getElem?_eq_getElem hi]; exact e⟩
theorem pick_nodup {α : Type} {ts : List α} {z : α} {ix : List Nat} (pm : ix.Perm (List.range ts.length)) (nd : ts.Nodup) : (ix.map fun i => ts.getD i z).Nodup := by
  have e : ts = (List.range ts.length).map fun i => ts.getD i z := by
    refine List.ext_getElem? fun i => ?_
    by_cases hi : i < ts.length
    · rw [List.getElem?_map, List.getElem?_range hi, List.getElem?_eq_getElem hi]
      show some _ = some (ts.getD i z)
      rw [List.getD_eq_getElem?_getD, List.getElem?_eq_getElem hi]; rfl
    · rw [List.getElem?_eq_none (by omega), List.getElem?_eq_none (by simp; omega)]
  have p2 : (ix.map fun i => ts.getD i z).Perm ts := by
    have := pm.map fun i => ts.getD i z
    rw [← e] at this
    exact this
  exact p2.nodup_iff.mpr nd
theorem pick_le {ts : List T3} {ix : List Nat} (pw : ix.Pairwise (fun i j => Sq.t3lt (ts.getD j (0, 0, 0)) (ts.getD i (0, 0, 0)) = false)) : (ix.map fun i => ts.getD i (0, 0, 0)).Pairwise le3 := by
  rw [List.pairwise_map]
  refine pw.imp fun {i j} h => ?_
  rw [Sq.t3_not] at h
  unfold le3
  omega
theorem pick_lt2 {ts : List T3} {ix : List Nat} (pw : ix.Pairwise (fun i j => Sq.t2lt (swp (ts.getD j (0, 0, 0))) (swp (ts.getD i (0, 0, 0))) = false)) : (ix.map fun i => ts.getD i (0, 0, 0)).Pairwise fun a b => ¬ lt2 b a := by
  rw [List.pairwise_map]
  refine pw.imp fun {i j} h => ?_
  rw [Sq.t2_not] at h
  unfold lt2
  exact h
/-- sorted by first and track: the one list -/
theorem canon_of {hs : List T3} {ix : List Nat} (s : Sep hs) (nd : hs.Nodup) (pm : ix.Perm (List.range hs.length)) (pw : ix.Pairwise (fun i j => Sq.t2lt (swp (hs.getD j (0, 0, 0))) (swp (hs.getD i (0, 0, 0))) = false)) : Canon (ix.map fun i => hs.getD i (0, 0, 0)) :=
  ⟨s.perm fun x hx => (pick_mem pm x).mp hx, strict_of (s.perm fun x hx => (pick_mem pm x).mp hx) (pick_nodup pm nd) (pick_lt2 pw)⟩
theorem Mrg.nodup {pre hs : List T3} (M : Mrg pre hs) : hs.Nodup := by
  have hp := M.pos
  have ho := M.ord
  clear M
  induction hs with
  | nil => exact .nil
  | cons x l ih =>
    obtain ⟨o1, o2⟩ := List.pairwise_cons.mp ho
    refine List.nodup_cons.mpr ⟨fun hx => ?_, ih (fun h hm => hp h (List.mem_cons_of_mem _ hm)) o2⟩
    have h1 := o1 x hx
    have h2 := hp x (List.mem_cons_self ..)
    omega
structure FunL (K : PySem.W.Frag) (x qual : Str) (st : Stmt) (f : Addr) (fd : FuncData) (c : Addr) : Prop where
  ex : ∃ (oc : Value) (od : Option Addr) (kV doc pm : Value) (an : Option Addr) (ct : Value) (osl : Array (Option Value)),
    fd = PySem.W.fnOf x qual (defArgs st) (defBody st) (defScope st) .none kV doc pm an (.ref c) ct ∧ K.lookup f = some ⟨oc, od, .func fd, osl⟩ ∧ PySem.W.codeIn K (.ref c) qual = true
  kp : PySem.W.keepIn K (.ref f) = true
theorem FunL.ok {P : Program} {w : World} {K : PySem.W.Frag} {mg : Str → Option Value} {base : Heap} {x qual : Str} {st : Stmt} {f : Addr} {fd : FuncData} {c : Addr} {N ps : List Str} {k : Nat} {sp : Sp} (F : FunL K x qual st f fd c) (S : FnScope N ps (defScope st)) (len : ∀ vs H Q E, sp vs H Q E → vs.length = ps.length)
    (hbody : ∀ (A : Around) (outer : List Env) (s : Shared) (H : Hp) (vs : List V) (Q : VK) (E : XK), Room k (A.deeper (PyProof.Rows.envOfC qual (defScope st) s.heap.objs.size f (.ref c))) → sp vs H Q E →
      ∃ t, PSs (cxOf CX0 P w K mg base N qual (defScope st) f (.ref c) A outer s H E).nox (defBody st) t ∧ t { nx := fun _ H' => Q .non H', rt := Q } (start N vs) H) : FnOk P w K mg base CX0 (k + 1) f fd ps sp := by
  obtain ⟨oc, od, kV, doc, pm, an, ct, osl, rfl, lk, hcd⟩ := F.ex
  refine fn_of lk hcd S len fun A outer s H vs Q E hr hsp => ?_
  obtain ⟨t, h, q⟩ := hbody A outer s H vs Q E hr hsp
  exact ⟨t, h.nox, q⟩
theorem addI_nodup {τ : List Int} (h : τ.Nodup) (k : Int) : (Wd.addI τ k).Nodup := by
  unfold Wd.addI
  split
  · exact h
  · rename_i hk
    exact List.nodup_append.mpr ⟨h, by simp, fun x hx y hy => by
      rw [List.mem_singleton.mp hy]
      intro q
      exact hk (q ▸ hx)⟩
theorem foldI_nodup : ∀ (ns τ : List Int), τ.Nodup → (ns.foldl Wd.addI τ).Nodup
  | [], _, h => h
  | n :: ns, τ, h => foldI_nodup ns _ (addI_nodup h n)
theorem set_sorted {ms ns : List Int} (pm : ms.Perm (ns.foldl Wd.addI [])) (po : ms.Pairwise (· ≤ ·)) : ms.Pairwise (· < ·) ∧ ∀ x, x ∈ ms ↔ x ∈ ns := by
  have nd : ms.Nodup := pm.nodup_iff.mpr (foldI_nodup ns [] .nil)
  refine ⟨?_, fun x => ?_⟩
  · have := List.pairwise_and_iff.mpr ⟨po, nd⟩
    refine this.imp fun {a b} h => ?_
    have h1 := h.1
    have h2 : a ≠ b := h.2
    omega
  · rw [pm.mem_iff, Wd.foldI_mem]
    simp
theorem len_le {α : Type} [DecidableEq α] : ∀ {l m : List α}, l.Nodup → (∀ x ∈ l, x ∈ m) → l.length ≤ m.length
  | [], m, _, _ => Nat.zero_le _
  | x :: l, m, nd, h => by
    obtain ⟨n1, n2⟩ := List.nodup_cons.mp nd
    have hx := h x (List.mem_cons_self ..)
    have := len_le (m := m.erase x) n2 fun y hy => by
      have hne : y ≠ x := fun e => n1 (e ▸ hy)
      exact (List.mem_erase_of_ne hne).mpr (h y (List.mem_cons_of_mem _ hy))
    rw [List.length_erase_of_mem hx] at this
    have hp := List.length_pos_of_mem hx
    rw [List.length_cons]
    omega
theorem int_unique {l m : List Int} (hl : l.Pairwise (· < ·)) (hm : m.Pairwise (· < ·)) (h : ∀ x, x ∈ l ↔ x ∈ m) : l = m := sorted_unique (R := (· < ·)) (fun a h => by omega) (fun a b h1 h2 => by omega) hl hm h
/-- a comprehension over holes -/
theorem comp_rl {K : PySem.W.Frag} {σ : St} {H1 : Hp} {Q : VK} {tt : TT} {te : TE} {l : Addr} {d : List T3} {ys : List V} (p : T3 → Bool) (f : T3 → V) (A : RlAt H1 l d ys) (hz : ys.length < sizeLine)
    (ht : ∀ x ∈ d, ∀ T, H1 T = some (.tup (t3V x)) → ∀ H, Same H1 H → ∀ R : Bool → Hp → Prop, (∀ H', Same H H' → R (p x) H') → tt (some (.ref T) :: σ) H R)
    (he : ∀ x ∈ d, p x = true → ∀ T, H1 T = some (.tup (t3V x)) → ∀ H, Same H1 H → ∀ R : VK, (∀ H', Same H H' → R (f x) H') → te (some (.ref T) :: σ) H R)
    (hq : ∀ D H, H1 D = none → Same H1 H → H D = some (.lst ((d.filter p).map f)) → Q (.ref D) H) : CompOk (Itl K l) σ H1 Q tt te := by
  let rd : V → T3 := fun v => match v with | .ref T => (match H1 T with | some (.tup [.int a, .int b, .int c]) => (a, b, c) | _ => (0, 0, 0)) | _ => (0, 0, 0)
  have hrd : ∀ {x : T3} {T : Addr}, H1 T = some (.tup (t3V x)) → rd (.ref T) = x := fun {x T} h => by
    show (match H1 T with | some (.tup [.int a, .int b, .int c]) => (a, b, c) | _ => (0, 0, 0)) = x
    rw [h]
  refine comp_sq (K := K) (xs := ys) (fun v => p (rd v)) (fun v => f (rd v)) (.inl (.inl A.l)) hz (fun y hy H' hs R k => ?_) (fun y hy hp H' hs R k => ?_) (fun D H2 hD hs hl => hq D H2 hD hs ?_)
  · obtain ⟨i, hi⟩ := List.getElem?_of_mem hy
    obtain ⟨x, T0, hx, hxd, rfl, hT⟩ := A.at hi
    rw [hrd hT] at k
    exact ht x hxd T0 hT H' hs R k
  · obtain ⟨i, hi⟩ := List.getElem?_of_mem hy
    obtain ⟨x, T0, hx, hxd, rfl, hT⟩ := A.at hi
    rw [hrd hT] at k hp
    exact he x hxd hp T0 hT H' hs R k
  · rw [hl]
    congr 2
    have key : ∀ {d : List T3} {ys : List V}, Paired (fun x v => TupAt H1 (t3V x) v) d ys → (ys.filter fun v => p (rd v)).map (fun v => f (rd v)) = (d.filter p).map f := fun {d ys} pr => by
      induction pr with
      | nil => rfl
      | @cons x v d ys h1 h2 ih =>
        obtain ⟨T0, rfl, hT⟩ := h1
        have e0 : p (rd (.ref T0)) = p x := by rw [hrd hT]
        rw [List.filter_cons, List.filter_cons, e0]
        by_cases hp : p x = true
        · rw [if_pos hp, if_pos hp, List.map_cons, List.map_cons, ih, hrd hT]
        · rw [if_neg hp, if_neg hp, ih]
    exact key A.p
/-- the same, of the holes themselves -/
theorem comp_self {K : PySem.W.Frag} {σ : St} {H1 : Hp} {Q : VK} {tt : TT} {te : TE} {l : Addr} {d : List T3} {ys : List V} (p : T3 → Bool) (A : RlAt H1 l d ys) (hz : ys.length < sizeLine)
    (ht : ∀ x ∈ d, ∀ T, H1 T = some (.tup (t3V x)) → ∀ H, Same H1 H → ∀ R : Bool → Hp → Prop, (∀ H', Same H H' → R (p x) H') → tt (some (.ref T) :: σ) H R)
    (he : ∀ T H, Same H1 H → ∀ R : VK, (∀ H', Same H H' → R (.ref T) H') → te (some (.ref T) :: σ) H R)
    (hq : ∀ D H zs, H1 D = none → Same H1 H → RlAt H D (d.filter p) zs → Q (.ref D) H) : CompOk (Itl K l) σ H1 Q tt te := by
  let rd : V → T3 := fun v => match v with | .ref T => (match H1 T with | some (.tup [.int a, .int b, .int c]) => (a, b, c) | _ => (0, 0, 0)) | _ => (0, 0, 0)
  have hrd : ∀ {x : T3} {T : Addr}, H1 T = some (.tup (t3V x)) → rd (.ref T) = x := fun {x T} h => by
    show (match H1 T with | some (.tup [.int a, .int b, .int c]) => (a, b, c) | _ => (0, 0, 0)) = x
    rw [h]
  refine comp_sq (K := K) (xs := ys) (fun v => p (rd v)) (fun v => v) (.inl (.inl A.l)) hz (fun y hy H' hs R k => ?_) (fun y hy hp H' hs R k => ?_) (fun D H2 hD hs hl => ?_)
  · obtain ⟨i, hi⟩ := List.getElem?_of_mem hy
    obtain ⟨x, T0, hx, hxd, rfl, hT⟩ := A.at hi
    rw [hrd hT] at k
    exact ht x hxd T0 hT H' hs R k
  · obtain ⟨i, hi⟩ := List.getElem?_of_mem hy
    obtain ⟨x, T0, hx, hxd, rfl, hT⟩ := A.at hi
    exact he T0 H' hs R k
  · rw [List.map_id'] at hl
    refine hq D H2 _ hD hs ⟨hl, ?_⟩
    have key : ∀ {d : List T3} {ys : List V}, Paired (fun x v => TupAt H1 (t3V x) v) d ys → Paired (fun x v => TupAt H2 (t3V x) v) (d.filter p) (ys.filter fun v => p (rd v)) := fun {d ys} pr => by
      induction pr with
      | nil => exact .nil
      | @cons x v d ys h1 h2 ih =>
        obtain ⟨T0, rfl, hT⟩ := h1
        have e0 : p (rd (.ref T0)) = p x := by rw [hrd hT]
        rw [List.filter_cons, List.filter_cons, e0]
        by_cases hp : p x = true
        · rw [if_pos hp, if_pos hp]
          exact .cons ⟨T0, rfl, hs _ _ hT⟩ ih
        · rw [if_neg hp, if_neg hp]
          exact ih
    exact key A.p
/-- a comprehension that makes holes -/
theorem comp_spans {K : PySem.W.Frag} {σ : St} {H1 : Hp} {Q : VK} {tt : TT} {te : TE} {a : Addr} {xs : List V} (ok : T3 → Prop) (hl : SqL K H1 a xs) (hz : xs.length < sizeLine)
    (ht : ∀ x ∈ xs, ∀ H, Same H1 H → ∀ R : Bool → Hp → Prop, (∀ H', Same H H' → R true H') → tt (some x :: σ) H R)
    (he : ∀ x ∈ xs, ∀ H, Same H1 H → ∀ R : VK, (∀ T t H', Same H H' → H' T = some (.tup (t3V t)) → ok t → R (.ref T) H') → te (some x :: σ) H R)
    (hq : ∀ D H ts ys, H1 D = none → Same H1 H → RlAt H D ts ys → (∀ t ∈ ts, ok t) → ts.length = xs.length → Q (.ref D) H) : CompOk (Itl K a) σ H1 Q tt te := by
  intro D hD
  have s0 : Same H1 (upd H1 D (.lst [])) := fun b o e => by rw [upd_ne (ne_of_none e hD)]; exact e
  refine ⟨fun i m ys H => m = xs.length - i ∧ i ≤ xs.length ∧ Same H1 H ∧ ∃ ts, RlAt H D ts ys ∧ (∀ t ∈ ts, ok t) ∧ ts.length = i, ⟨xs.length, by simp, Nat.zero_le _, s0, [], ⟨upd_same, .nil⟩, fun _ h => absurd h List.not_mem_nil, rfl⟩, ?_⟩
  rintro i m ys H ⟨rfl, hi, hs, ts, A, hok, hn⟩
  by_cases hlt : i < xs.length
  · obtain ⟨x, hx⟩ : ∃ x, xs[i]? = some x := ⟨xs[i], by simp [hlt]⟩
    refine .inr ⟨⟨xs, x, hs.seq hl, hx⟩, fun y H3 hyl => ?_⟩
    obtain ⟨rfl, hy'⟩ := hyl
    have hy2 := hy' xs (hs.seq hl)
    rw [hx] at hy2
    cases hy2
    have hm : x ∈ xs := List.mem_of_getElem? hx
    have hlen : ys.length < sizeLine := by rw [← A.len]; omega
    refine ht x hm _ hs _ fun H4 s4 => ?_
    rw [if_pos rfl]
    refine he x hm H4 (hs.trans s4) _ fun T t H5 s5 hT hk => ?_
    have A5 := A.mono (s4.trans s5)
    refine ⟨A5.l, hlen, xs.length - (i + 1), by omega, rfl, hlt, fun b o e => ?_, ts ++ [t], A5.snoc hT, fun z hz => ?_, by rw [List.length_append, hn]; rfl⟩
    · rw [upd_ne (ne_of_none e hD)]; exact s5 _ _ (s4 _ _ (hs _ _ e))
    · rcases List.mem_append.mp hz with hz | hz
      · exact hok z hz
      · rw [List.mem_singleton.mp hz]; exact hk
  · have e : i = xs.length := by omega
    subst e
    exact .inl ⟨⟨xs, hs.seq hl, Nat.le_refl _⟩, hq D H ts ys hD hs A hok hn⟩
/-- a roll -/
def RoAt (H : Hp) (r : Addr) (len : Int) (hs : List T3) : Prop := ∃ p zs, H r = some (.tup [.int len, .ref p]) ∧ RlAt H p hs zs
/-- a roll made anew: its list is a new one -/
def RoF (H H' : Hp) (r : Addr) (len : Int) (hs : List T3) : Prop := ∃ p zs, H p = none ∧ H' r = some (.tup [.int len, .ref p]) ∧ RlAt H' p hs zs
theorem RoF.ro {H H' : Hp} {r : Addr} {len : Int} {hs : List T3} (h : RoF H H' r len hs) : RoAt H' r len hs := by
  obtain ⟨p, zs, _, e, A⟩ := h
  exact ⟨p, zs, e, A⟩
/-- two rolls alike -/
theorem eqAt_tri {X : Cx} {A : Around} {pins : List (Addr × Obj)} {σ : St} {H : Hp} {s : Shared} (I : Inv X pins σ H s) (hu : A.units < cLine) {a b : Addr} {t : T3} (ha : H a = some (.tup (t3V t))) (hb : H b = some (.tup (t3V t))) : SeqAt.EqAt A s (.ref a) (.ref b) true := by
  by_cases hab : a = b
  · subst hab
    exact SeqAt.EqAt.same _
  · obtain ⟨i1, r1, p1, _⟩ := I.tuple (show SqT X.K H a (t3V t) from .inl (.inl ha))
    obtain ⟨i2, r2, p2, _⟩ := I.tuple (show SqT X.K H b (t3V t) from .inl (.inl hb))
    have l1 := r1.length
    have l2 := r2.length
    have h := SeqAt.RcAt.tuples (A := A) (e := fun j => eqV ((t3V t).getD j .non) ((t3V t).getD j .non)) p1 p2 hu (fun j h1 h2 => by
      have h1' : j < i1.length := by simpa using h1
      have h2' : j < i2.length := by simpa using h2
      simp only [List.getElem_toArray]
      exact eqAt_V (rel_at r1 h1') (rel_at r2 h2') (flat_at rfl (by omega)) (flat_at rfl (by omega)))
    refine SeqAt.EqAt.of_refs hab ?_
    rw [List.size_toArray, List.size_toArray, ← l1, ← l2, min_eqL, eqL_self rfl] at h
    exact h
theorem op_eq_roll {X : Cx} (hu : X.A.units + 8 < cLine) : OpR X (compareOp .Eq) (fun x y H Q => ∃ r1 r2 len hs, x = V.ref r1 ∧ y = V.ref r2 ∧ RoAt H r1 len hs ∧ RoAt H r2 len hs ∧ Q (.bl true) H) := by
  intro pins s σ H x y v u Q I rx ry h
  obtain ⟨r1, r2, len, hs, rfl, rfl, ⟨p, zs, e1, A1⟩, ⟨p2, zs2, e2, A2⟩, k⟩ := h
  cases rx
  cases ry
  obtain ⟨i1, v1, pl1, _⟩ := I.tuple (show SqT X.K H r1 _ from .inl (.inl e1))
  obtain ⟨i2, v2, pl2, _⟩ := I.tuple (show SqT X.K H r2 _ from .inl (.inl e2))
  obtain ⟨a1, b1, rfl, ⟨t1, rfl⟩, q1⟩ := Vals.two v1
  obtain ⟨a2, b2, rfl, ⟨t2, rfl⟩, q2⟩ := Vals.two v2
  cases q1
  cases q2
  have lists : SeqAt.EqAt X.A.in1 s (.ref p) (.ref p2) true := by
    by_cases hpp : p = p2
    · subst hpp
      exact SeqAt.EqAt.same _
    · obtain ⟨j1, w1, m1, _⟩ := I.list (show SqL X.K H p zs from .inl (.inl A1.l))
      obtain ⟨j2, w2, m2, _⟩ := I.list (show SqL X.K H p2 zs2 from .inl (.inl A2.l))
      have n1 := w1.length
      have n2 := w2.length
      have n3 := A1.len
      have n4 := A2.len
      have h := SeqAt.RcAt.lists (A := X.A.in1) (e := fun _ => true) m1.isList m2.isList (by simp; omega) (by show X.A.units + 1 < cLine; omega) (fun j h1 h2 => by
        have h1' : j < j1.length := by simpa using h1
        have h2' : j < j2.length := by simpa using h2
        simp only [List.getElem_toArray]
        have hj : j < hs.length := by omega
        obtain ⟨z1, hz1, y1⟩ := Og.paired_get A1.p (List.getElem?_eq_getElem hj)
        obtain ⟨z2, hz2, y2⟩ := Og.paired_get A2.p (List.getElem?_eq_getElem hj)
        obtain ⟨T1, rfl, hT1⟩ := y1
        obtain ⟨T2, rfl, hT2⟩ := y2
        obtain ⟨u1, hu1, ru1⟩ := w1.get hz1
        obtain ⟨u2, hu2, ru2⟩ := w2.get hz2
        rw [List.getElem?_eq_getElem h1'] at hu1
        rw [List.getElem?_eq_getElem h2'] at hu2
        cases ru1
        cases ru2
        rw [Option.some.inj hu1, Option.some.inj hu2]
        exact eqAt_tri I (by show X.A.units + 1 + 1 < cLine; omega) hT1 hT2)
      refine SeqAt.EqAt.of_refs hpp ?_
      have e : ((List.range j1.toArray.size).all fun _ => true) = true := List.all_eq_true.mpr fun _ _ => rfl
      rw [e] at h
      exact h
  refine SeqAt.eq_tupleAt (e := fun _ => true) pl1 pl2 (by omega) (fun j h1 h2 => ?_) ⟨.bl true, H, I, ?_, k⟩
  · have h1' : j < 2 := h1
    match j, h1' with
    | 0, _ =>
      have := SeqAt.EqAt.int_int (A := X.A.in1) (s := s) len t1 len t2
      rw [beq_self_eq_true] at this
      exact this
    | 1, _ => exact lists
  · rfl
def spHo (B : Tb2) : Sp := fun vs H Q _ => ∃ (a : Addr) (ts : List T3) (ys : List V), vs = [.ref a] ∧ RlAt H a ts ys ∧ ys.length < 400 ∧ (∀ t ∈ ts, t.2.1 < t.2.2) ∧ Tb B H ∧
  ∀ (p : Addr) (hs : List T3) (zs : List V) (H' : Hp), H p = none → Kp B H H' → Tb B H' → RlAt H' p hs zs → Canon hs → (∀ tr t, Cov hs tr t ↔ Cov ts tr t) → hs.length ≤ ts.length → Q (.ref p) H'
def okH (len : Int) (t : T3) : Prop := 0 ≤ t.1 ∧ t.1 < 1200 ∧ 0 ≤ t.2.1 ∧ t.2.1 < t.2.2 ∧ t.2.2 ≤ len
def spMb : Sp := fun vs H Q _ => ∃ i : Int, vs = [.int i] ∧ 0 ≤ i ∧ i < 1200 ∧ Q (.bl true) H
def spIl : Sp := fun vs H Q _ => ∃ i : Int, vs = [.int i] ∧ 0 ≤ i ∧ i ≤ 1000000000000 ∧ Q (.bl true) H
def spHw : Sp := fun vs H Q _ => ∃ (T : Addr) (t : T3) (len : Int), vs = [.ref T, .int len] ∧ H T = some (.tup (t3V t)) ∧ okH len t ∧ Q (.bl true) H
def spAh : Sp := fun vs H Q _ => ∃ (a : Addr) (ts : List T3) (ys : List V) (len : Int), vs = [.ref a, .int len] ∧ RlAt H a ts ys ∧ ys.length < 900 ∧ (∀ t ∈ ts, okH len t) ∧ ∀ H', Same H H' → Q (.bl true) H'
theorem RoAt.kp {B : Tb2} {H H' : Hp} {r : Addr} {len : Int} {hs : List T3} (h : RoAt H r len hs) (k : Kp B H H') : RoAt H' r len hs := by
  obtain ⟨p, zs, e, A⟩ := h
  exact ⟨p, zs, k _ _ (fun _ z => by cases z) e, RlAt.kp A k⟩
def spRf (B : Tb2) : Sp := fun vs H Q _ => ∃ (a : Addr) (ts : List T3) (ys : List V) (len : Int), vs = [.int len, .ref a] ∧ len ≤ 1000000000000 ∧ RlAt H a ts ys ∧ ys.length < 400 ∧ (∀ t ∈ ts, t.2.1 < t.2.2) ∧ Tb B H ∧
  ∀ (r : Addr) (hs : List T3) (H' : Hp), Kp B H H' → Tb B H' → RoF H H' r len hs → Canon hs → (∀ tr t, Cov hs tr t ↔ Cov ts tr t) → hs.length ≤ ts.length → Q (.ref r) H'
def spRo (B : Tb2) : Sp := fun vs H Q _ => ∃ (a : Addr) (ts : List T3) (ys : List V) (len : Int), vs = [.int len, .ref a] ∧ 0 ≤ len ∧ len ≤ 1000000000000 ∧ RlAt H a ts ys ∧ ys.length < 400 ∧ (∀ t ∈ ts, okH len t) ∧ Tb B H ∧
  ∀ (r : Addr) (hs : List T3) (H' : Hp), Kp B H H' → Tb B H' → RoF H H' r len hs → Canon hs → (∀ tr t, Cov hs tr t ↔ Cov ts tr t) → hs.length ≤ ts.length → Q (.ref r) H'
/-- what is open at a tick: each track once -/
theorem open_once {hs : List T3} (c : Canon hs) {tick : Int} {ms : List Int} (pm : ms.Perm ((hs.filter fun h => decide (h.2.1 ≤ tick) && decide (tick < h.2.2)).map (·.1))) (po : ms.Pairwise (· ≤ ·)) : ms.Pairwise (· < ·) ∧ ∀ x, x ∈ ms ↔ Cov hs x tick := by
  have hm : ∀ x, x ∈ ms ↔ Cov hs x tick := fun x => by
    rw [pm.mem_iff, List.mem_map]
    constructor
    · rintro ⟨h, hm, rfl⟩
      obtain ⟨h1, h2⟩ := List.mem_filter.mp hm
      simp at h2
      exact ⟨h, h1, rfl, h2.1, h2.2⟩
    · rintro ⟨h, h1, rfl, h2, h3⟩
      exact ⟨h, List.mem_filter.mpr ⟨h1, by simp; exact ⟨h2, h3⟩⟩, rfl⟩
  have nd : ((hs.filter fun h => decide (h.2.1 ≤ tick) && decide (tick < h.2.2)).map (·.1)).Nodup := by
    have hnd : (hs.filter fun h => decide (h.2.1 ≤ tick) && decide (tick < h.2.2)).Pairwise lt2 := c.srt.sublist List.filter_sublist
    have hal : ∀ x ∈ (hs.filter fun h => decide (h.2.1 ≤ tick) && decide (tick < h.2.2)), x ∈ hs ∧ x.2.1 ≤ tick ∧ tick < x.2.2 := fun x hx => by
      obtain ⟨h1, h2⟩ := List.mem_filter.mp hx
      simp at h2
      exact ⟨h1, h2.1, h2.2⟩
    generalize (hs.filter fun h => decide (h.2.1 ≤ tick) && decide (tick < h.2.2)) = l at hnd hal
    refine List.pairwise_map.mpr (List.Pairwise.imp_of_mem (fun {a b} ha hb hlt => ?_) hnd)
    obtain ⟨a1, a2, a3⟩ := hal a ha
    obtain ⟨b1, b2, b3⟩ := hal b hb
    intro e
    rcases c.sep.2 a a1 b b1 e with e2 | e2 | e2
    · subst e2; unfold lt2 at hlt; omega
    · omega
    · omega
  refine ⟨?_, hm⟩
  have := List.pairwise_and_iff.mpr ⟨po, pm.nodup_iff.mpr nd⟩
  refine this.imp fun {a b} h => ?_
  have h1 := h.1
  have h2 : a ≠ b := h.2
  omega
def spMx : Sp := fun vs H Q _ => ∃ (c b m : Int), vs = [.int c, .int b, .int m] ∧ 0 < m ∧ 0 ≤ b ∧ b < 2147483647 ∧ ∀ r : Int, 0 ≤ r → r < m → Q (.int r) H
def spLe : Sp := fun vs H Q _ => ∃ c : Int, vs = [.int c] ∧ ∀ (n : Int) H', Same H H' → 0 ≤ n → n ≤ 1000000000000 → Q (.int n) H'
def spPo : Sp := fun vs H Q _ => ∃ (len c : Int), vs = [.int len, .int c] ∧ 0 ≤ len ∧ len ≤ 1000000000000 ∧ ∀ (l : Addr) (ps : List Int) H', Same H H' → H' l = some (.lst (ps.map V.int)) → ps.Pairwise (· < ·) → (∀ x ∈ ps, 0 ≤ x ∧ x ≤ len) → ps.length ≤ 16 → ps ≠ [] → Q (.ref l) H'
def spSa (K : PySem.W.Frag) : Sp := fun vs H Q _ => ∃ (l : Addr) (ps : List Int) (c len : Int), vs = [.ref l, .int c] ∧ SqL K H l (ps.map V.int) ∧ 2 ≤ ps.length ∧ ps.length ≤ 16 ∧ ps.Pairwise (· < ·) ∧ (∀ x ∈ ps, 0 ≤ x ∧ x ≤ len) ∧ ∀ (T : Addr) (t : T3) H', Same H H' → H' T = some (.tup (t3V t)) → okH len t → t.2.1 ∈ ps → t.2.2 ∈ ps → Q (.ref T) H'
def spSs (K : PySem.W.Frag) : Sp := fun vs H Q _ => ∃ (l : Addr) (cs : List Int) (len c : Int), vs = [.ref l, .int len, .int c] ∧ SqL K H l (cs.map V.int) ∧ cs.length ≤ 63 ∧ 0 ≤ len ∧ len ≤ 1000000000000 ∧
  ∀ (p : Addr) (ts : List T3) (ys : List V) (pts : List Int) H', Same H H' → RlAt H' p ts ys → (∀ t ∈ ts, okH len t ∧ t.2.1 ∈ pts ∧ t.2.2 ∈ pts) → pts.length ≤ 16 → ts.length ≤ cs.length → Q (.ref p) H'
def spCv : Sp := fun vs H Q _ => ∃ (a : Addr) (ts : List T3) (ys : List V) (tick : Int), vs = [.ref a, .int tick] ∧ RlAt H a ts ys ∧ ∀ b : Bool, (b = true ↔ ∃ h ∈ ts, h.2.1 ≤ tick ∧ tick < h.2.2) → Q (.bl b) H
def Mxl (C : Int → Int → Prop) (h : T3) : Prop := h.2.1 < h.2.2 ∧ (∀ t, h.2.1 ≤ t → t < h.2.2 → C h.1 t) ∧ ¬ C h.1 (h.2.1 - 1) ∧ ¬ C h.1 h.2.2
theorem count_le {ts l : List T3} (hm : ∀ h ∈ l, Mxl (Cov ts) h) (nd : l.Nodup) : l.length ≤ ts.length := by
  have sp := max_sep hm
  have h1 : (l.map fun h => (h.1, h.2.1)).Nodup := by
    refine List.pairwise_map.mpr (List.Pairwise.imp_of_mem (fun {a b} ha hb hne => ?_) nd)
    intro e
    have e1 : a.1 = b.1 := (Prod.mk.inj e).1
    have e2 : a.2.1 = b.2.1 := (Prod.mk.inj e).2
    have ha2 := sp.1 a ha
    have hb2 := sp.1 b hb
    rcases sp.2 a ha b hb e1 with e3 | e3 | e3
    · exact hne e3
    · omega
    · omega
  have h2 := len_le (m := ts.map fun h => (h.1, h.2.1)) h1 fun x hx => by
    obtain ⟨h, hh, rfl⟩ := List.mem_map.mp hx
    obtain ⟨k1, k2, k3, k4⟩ := hm h hh
    obtain ⟨s, sm, se, s1, s2⟩ := k2 h.2.1 (Int.le_refl _) k1
    refine List.mem_map.mpr ⟨s, sm, ?_⟩
    have : s.2.1 = h.2.1 := by
      by_cases z : s.2.1 < h.2.1
      · exact absurd ⟨s, sm, se, by omega, by omega⟩ k3
      · omega
    rw [se, this]
  rw [List.length_map, List.length_map] at h2
  exact h2
theorem cov_filter {ts : List T3} {tr t : Int} : Cov (ts.filter fun x => decide (x.1 = tr)) tr t ↔ Cov ts tr t := by
  constructor
  · rintro ⟨h, hm, r⟩
    exact ⟨h, (List.mem_filter.mp hm).1, r⟩
  · rintro ⟨h, hm, e, r⟩
    exact ⟨h, List.mem_filter.mpr ⟨hm, decide_eq_true e⟩, e, r⟩
def oI : Option Int → V
  | some b => .int b
  | none => .non
def ordH (a b : T3) : Prop := a.1 < b.1 ∨ (a.1 = b.1 ∧ a.2.2 ≤ b.2.1)
theorem ord_nodup {l : List T3} (ho : l.Pairwise ordH) (hp : ∀ h ∈ l, h.2.1 < h.2.2) : l.Nodup := by
  refine List.Pairwise.imp_of_mem (fun {a b} ha hb h e => ?_) ho
  have := hp a ha
  subst e
  unfold ordH at h
  omega
def spIs : Sp := fun vs H Q _ => ∃ (r p2 : Addr) (len : Int) (hs : List T3) (zs2 : List V), vs = [.ref r, .int len, .ref p2] ∧ RoAt H r len hs ∧ RlAt H p2 hs zs2 ∧ ∀ H', Same H H' → Q (.bl true) H'
theorem RoAt.mono {H H' : Hp} {r : Addr} {len : Int} {hs : List T3} (h : RoAt H r len hs) (s : Same H H') : RoAt H' r len hs := by
  obtain ⟨p, zs, e, A⟩ := h
  exact ⟨p, zs, s _ _ e, A.mono s⟩
end Ro

namespace L2
open PySem PySem.Spec PySem.Calls PyProof.Rows
/-- x, an exception of class C with the dict od, in flight; its trail's head at T, whose place in flight is fl -/
def Fly (h : Heap) (x T C : Addr) (od : Option Addr) (fl : Value) : Prop :=
  ∃ (vs ts : Array Value) (sl : Array (Option Value)) (oT : Obj), h.get? x = some ⟨.ref C, od, .fields vs, sl⟩ ∧ vs[1]? = some (.ref T) ∧ T ≠ x ∧ h.get? T = some oT ∧ oT.data = .fields ts ∧ ts[3]? = some fl
/-- all but x and T stays, the frames up to their slots -/
structure Mv (fs : List Addr) (x T : Addr) (h h' : Heap) : Prop where
  keep : ∀ b o, h.get? b = some o → b ≠ x → b ≠ T → b ∉ fs → h'.get? b = some o
  any : ∀ b o, h.get? b = some o → b ≠ x → b ≠ T → ∃ sl, h'.get? b = some { o with slots := sl }
section
variable {M : Model} {A : Around} {E : Value → Shared → Prop} {s : Shared} {base : Heap} {env : Env} {outer : List Env} {L x T C : Addr} {od : Option Addr} {Q : Unit → Shared → Prop}
theorem note_entry {vs : Array Value} {sl : Array (Option Value)} {head : Value} {hadNext : Bool} (hfr : A.frames = some (env :: outer)) (hl : s.heap.FunFrames base (env :: outer)) (hf : env.frame = some L)
    (he : s.heap.get? x = some ⟨.ref C, od, .fields vs, sl⟩) (hsz : 1 < vs.size)
    (h : ∀ h' T', Fly h' x T' C od (rawInt L) → Mv (frs (env :: outer)) x x s.heap h' → s.heap.get? T' = none → Q () { s with heap := h' }) :
    wpAny M A (do let a ← frameOf env; let pl ← entryPlaceOf L hadNext; let b ← EntryCells.newEntry head a .none (rawInt L) .none pl; setField (.ref x) 1 b) Q E s := by
  have hene : x ∉ (env :: outer).filterMap (·.frame) := fun hm => by
    obtain ⟨_, o, ho, hnf⟩ := hl.mem hm
    rw [he] at ho; injection ho with ho; subst ho; exact hnf vs rfl
  refine wpAny_bind (wpAny_frameOf_fun hfr hl hf fun h₁ hs₁ => ?_)
  refine wpAny_bind (wpAny_entryPlaceOf fun pl hpl => ?_)
  unfold EntryCells.newEntry newFields
  refine wpAny_bind (wpAny_newObj_type ?_ (hpl.sizeOk5 _ _ _ _ _))
  have he₁ : h₁.get? x = some ⟨.ref C, od, .fields vs, sl⟩ := (hs₁.2.1 x hene).trans he
  have he₂ := Heap.get?_push_of_some (h := h₁) { cls := .type "traceback", dict := none, data := .fields ([head, .ref L, .none, rawInt L, .none] ++ (if pl.isEmpty then List.replicate 6 Value.none else pl)).toArray } he₁
  refine wpAny_setField he₂ rfl hsz ?_
  have hTe : h₁.objs.size ≠ x := Nat.ne_of_gt (Heap.lt_size he₁)
  have hd₃ := Obj.data_mapFields (o := ⟨.ref C, od, .fields vs, sl⟩) rfl (·.setIfInBounds 1 (Value.ref h₁.objs.size))
  have he₃ := Heap.get?_update_self (Obj.mapFields (·.setIfInBounds 1 (Value.ref h₁.objs.size))) he₂ (Obj.isFreed_of_fields hd₃)
  have hT₃ := (Heap.get?_update_other (h₁.push { cls := .type "traceback", dict := none, data := .fields ([head, .ref L, .none, rawInt L, .none] ++ (if pl.isEmpty then List.replicate 6 Value.none else pl)).toArray })
    (Obj.mapFields (·.setIfInBounds 1 (Value.ref h₁.objs.size))) (Ne.symm hTe)).trans (Heap.get?_push_size h₁ rfl)
  refine h _ h₁.objs.size ⟨_, _, sl, _, he₃, by simp [hsz], hTe, hT₃, rfl, by first | (simp; done) | (rcases hpl with rfl | ⟨_, _, _, _, _, _, _, rfl⟩ <;> simp)⟩ ⟨fun b o hb hx _ hn => ?_, fun b o hb hx _ => ?_⟩ ?_
  · rw [Heap.get?_update_other _ _ (Ne.symm hx)]
    exact Heap.get?_push_of_some _ ((hs₁.2.1 b hn).trans hb)
  · obtain ⟨sl', hs⟩ := hs₁.2.2 b o hb
    rw [Heap.get?_update_other _ _ (Ne.symm hx)]
    exact ⟨sl', Heap.get?_push_of_some _ hs⟩
  · refine Heap.get?_none_of_le ?_
    rw [hs₁.1]
    exact Nat.le_refl _
theorem note_first {vs : Array Value} {sl : Array (Option Value)} (hfr : A.frames = some (env :: outer)) (hl : s.heap.FunFrames base (env :: outer)) (hf : env.frame = some L)
    (he : s.heap.get? x = some ⟨.ref C, od, .fields vs, sl⟩) (h1 : vs[1]? = some .none)
    (h : ∀ h' T', Fly h' x T' C od (rawInt L) → Mv (frs (env :: outer)) x x s.heap h' → s.heap.get? T' = none → Q () { s with heap := h' }) : wpAny M A (noteFrame (.ref x) env) Q E s := by
  unfold noteFrame
  simp only [hf]
  refine wpAny_bind (wpAny_field he rfl h1 ?_)
  rw [if_neg (by decide)]
  exact note_entry hfr hl hf he (Array.getElem?_eq_some_iff.mp h1).1 h
theorem note_on (hfr : A.frames = some (env :: outer)) (hl : s.heap.FunFrames base (env :: outer)) (hf : env.frame = some L) (hy : Fly s.heap x T C od .none)
    (h : ∀ h' T', Fly h' x T' C od (rawInt L) → Mv (frs (env :: outer)) x T s.heap h' → s.heap.get? T' = none → Q () { s with heap := h' }) : wpAny M A (noteFrame (.ref x) env) Q E s := by
  obtain ⟨vs, ts, sl, oT, he, h1, hTe, hT, hdT, h3⟩ := hy
  have hsz3 := (Array.getElem?_eq_some_iff.mp h3).1
  unfold noteFrame
  simp only [hf]
  refine wpAny_bind (wpAny_field he rfl h1 ?_)
  rw [if_pos (show (Value.ref T != Value.none) = true from by simp)]
  refine wpAny_bind (wpAny_field hT hdT h3 ?_)
  rw [if_neg (show ¬ ((Value.none == rawInt L) = true) from by simp [rawInt])]
  refine wpAny_bind (wpAny_setField hT hdT hsz3 ?_)
  have other : ∀ b, b ≠ T → (s.heap.update T (Obj.mapFields (·.setIfInBounds 3 Value.none))).get? b = s.heap.get? b := fun b hb => Heap.get?_update_other _ _ (Ne.symm hb)
  have hTn := Heap.get?_update_self (Obj.mapFields (·.setIfInBounds 3 Value.none)) hT (Obj.isFreed_of_fields (Obj.data_mapFields hdT _))
  have noRecord : ∀ b o, s.heap.get? b = some o → (∀ vs, o.data ≠ .fields vs) → b ≠ T := fun b o hb hnf q => by
    rw [q, hT] at hb; injection hb with hb; subst hb; exact hnf ts hdT
  refine note_entry (s := { s with heap := s.heap.update T (Obj.mapFields (·.setIfInBounds 3 Value.none)) }) hfr (hl.of_keeps fun b o hb hnf => ⟨o, (other b (noRecord b o hb hnf)).trans hb, rfl⟩) hf ((other x (Ne.symm hTe)).trans he) (Array.getElem?_eq_some_iff.mp h1).1 fun h' T' y m n => ?_
  have nT : T' ≠ T := fun z => by
    subst z
    have n' : (s.heap.update T' (Obj.mapFields (·.setIfInBounds 3 Value.none))).get? T' = none := n
    rw [hTn] at n'; cases n'
  exact h h' T' y ⟨fun b o hb hx ht hn => m.keep b o ((other b ht).trans hb) hx hx hn, fun b o hb hx ht => m.any b o ((other b ht).trans hb) hx hx⟩ ((other T' nT).symm.trans n)
theorem flight_none {fl : Value} (hy : Fly s.heap x T C od fl) (h : ∀ h', Fly h' x T C od .none → Mv [] x T s.heap h' → Q () { s with heap := h' }) : wpAny M A (setFlight (.ref x) none) Q E s := by
  obtain ⟨vs, ts, sl, oT, he, h1, hTe, hT, hdT, h3⟩ := hy
  have hsz3 : 3 < ts.size := (Array.getElem?_eq_some_iff.mp h3).1
  have other : ∀ b, b ≠ T → (s.heap.update T (Obj.mapFields (·.setIfInBounds 3 ((none : Option Addr).elim Value.none fun f => rawInt f)))).get? b = s.heap.get? b :=
    fun b hb => Heap.get?_update_other _ _ (Ne.symm hb)
  unfold setFlight
  refine wpAny_bind (wpAny_field he rfl h1 ?_)
  rw [if_pos (show (Value.ref T != Value.none) = true from by simp)]
  refine wpAny_setField hT hdT hsz3 (h _ ?_ ⟨fun b o hb _ ht _ => (other b ht).trans hb, fun b o hb _ ht => ⟨o.slots, (other b ht).trans hb⟩⟩)
  exact ⟨vs, _, sl, _, (other x (Ne.symm hTe)).trans he, h1, hTe, Heap.get?_update_self _ hT (Obj.isFreed_of_fields (Obj.data_mapFields hdT _)), Obj.data_mapFields hdT _, by simp [hsz3]⟩
end
section
variable {P : Program} {w : World} {fs : List Addr} {H H' : Hp} {h h1 h2 h3 : Heap} {x T T' : Addr}
theorem ne_get {h : Heap} {b y : Addr} {o : Obj} (e : h.get? b = some o) (n : h.get? y = none) : b ≠ y := fun z => by
  rw [z, n] at e
  cases e
/-- what is tracked stays -/
theorem HOk.mv (k : HOk P w H h) (m : Mv fs x T h h1) (hx : H x = none) (hT : H T = none) (hf : ∀ b ∈ fs, H b = none) : HOk P w H h1 := fun b u e => by
  have ne : ∀ c, H c ≠ none → c ≠ x ∧ c ≠ T ∧ c ∉ fs := fun c q => ⟨fun z => q (z ▸ hx), fun z => q (z ▸ hT), fun z => q (hf c z)⟩
  refine (k b u e).stay (fun c v hc q => ?_) (fun _ q => q) fun _ _ q => q
  have hq : H c ≠ none := by
    rcases hc with z | z
    · rw [z, e]; simp
    · rw [z]; simp
  obtain ⟨a1, a2, a3⟩ := ne c hq
  exact m.keep c v q a1 a2 a3
/-- and what was there ahead of x and T stays -/
theorem Un.mv {gs : List Addr} (u : Un gs [] H H' h h1) (m : Mv fs x T h1 h2) (hx : h.get? x = none) (hT : h.get? T = none) (hf : ∀ b ∈ fs, b ∉ gs → h.get? b = none) : Un gs [] H H' h h2 := by
  have ne : ∀ b o, h.get? b = some o → b ≠ x ∧ b ≠ T := fun b o e => ⟨ne_get e hx, ne_get e hT⟩
  refine ⟨fun b o e n hb hx' => ?_, fun b o e n hb hx' => ?_, u.free, fun b o e hx' => ?_, u.tups, u.frzs, u.tbls⟩
  · obtain ⟨a1, a2⟩ := ne b o e
    refine m.keep b o (u.keep b o e n hb hx') a1 a2 fun z => ?_
    have := hf b z hb
    rw [e] at this; cases this
  · obtain ⟨a1, a2⟩ := ne b o e
    obtain ⟨sl, e1⟩ := u.slot b o e n hb hx'
    obtain ⟨sl', e2⟩ := m.any b _ e1 a1 a2
    exact ⟨sl', e2⟩
  · obtain ⟨a1, a2⟩ := ne b o e
    obtain ⟨o', e1⟩ := u.there b o e hx'
    obtain ⟨sl, e2⟩ := m.any b o' e1 a1 a2
    exact ⟨_, e2⟩
end
/-- how an own exception lies behind a call: new, in flight, untracked -/
def CXW (P : Program) (w : World) : CXT := fun outer H s E e s' => ∃ (x T C : Addr) (od : Option Addr) (H' : Hp), e = .ref x ∧ s'.os = s.os ∧ AllBare s'.gens ∧ Fly s'.heap x T C od .none ∧ s.heap.get? x = none ∧ s.heap.get? T = none ∧
  H' x = none ∧ H' T = none ∧ HOk P w H' s'.heap ∧ Un (frs outer) [] H H' s.heap s'.heap ∧ E (.ref C) od H'
/-- a def's own raise leaves it -/
def Lets (X : Cx) (C : Addr) (E : XK) : Prop := ∀ (pins : List (Addr × Obj)) (σ : St) (H : Hp) (s : Shared) (h' : Heap) (x : Addr) (as : List Value), Inv X pins σ H s → Heap.MadeExcOf s.heap h' x (.ref C) as → E (.ref C) none H → X.xe (.ref x) { s with heap := h' }
theorem lets_of {P : Program} {w : World} {K : PySem.W.Frag} {mg : Str → Option Value} {base : Heap} {N : List Str} {qual : Str} {scope : Scope} {f : Addr} {cd : Value} {A : Around} {outer : List Env} {s : Shared} {H : Hp} {E : XK} {C : Addr} :
    Lets (cxOf (CXW P w) P w K mg base N qual scope f cd A outer s H E) C E := by
  intro pins σ H1 s1 h' x as I hm q
  obtain ⟨t, he, htn, ht⟩ := hm.there
  have gone : ∀ b, s1.heap.get? b = none → s.heap.get? b = none := fun b e => by
    cases z : s.heap.get? b with
    | none => rfl
    | some o =>
      obtain ⟨o', e'⟩ := I.base.there b o z (by show b ∉ ([] : List Addr); simp)
      rw [e] at e'; cases e'
  have hx1 : H1 x = none := I.hok.none_of hm.new
  have frees : ∀ b ∈ frs (envOfC qual scope s.heap.objs.size f cd :: outer), H1 b = none := I.stkFree
  have hfr : (A.deeper (envOfC qual scope s.heap.objs.size f cd)).frames = some (envOfC qual scope s.heap.objs.size f cd :: outer) := I.ok.frames
  have hff : s1.heap.FunFrames base (envOfC qual scope s.heap.objs.size f cd :: outer) := I.stack
  have u0 : Un (frs outer) [] H H1 s.heap s1.heap := I.base
  have hok1 : HOk P w H1 s1.heap := I.hok
  have fsN : ∀ b ∈ frs (envOfC qual scope s.heap.objs.size f cd :: outer), b ∉ frs outer → s.heap.get? b = none := fun b hb hn => by
    rcases List.mem_cons.mp (show b ∈ s.heap.objs.size :: frs outer from hb) with z | z
    · rw [z]; exact Heap.get?_none_of_le (Nat.le_refl _)
    · exact absurd z hn
  show wpAny (model P w) (A.deeper (envOfC qual scope s.heap.objs.size f cd)) (leaving (envOfC qual scope s.heap.objs.size f cd) (.ref x)) _ _ _
  unfold leaving
  refine wpAny_bind (note_first (s := { s1 with heap := h' }) (L := s.heap.objs.size) hfr (hff.of_keeps fun b o hb _ => ⟨o, hm.keeps b o hb, rfl⟩) rfl he rfl fun h2 T y m n => ?_)
  refine flight_none (s := { s1 with heap := h2 }) y fun h3 y3 m3 => ?_
  have nT1 : s1.heap.get? T = none := by
    cases z : s1.heap.get? T with
    | none => rfl
    | some o =>
      have n' : h'.get? T = none := n
      rw [hm.keeps T o z] at n'; cases n'
  have hT1 : H1 T = none := hok1.none_of nT1
  have hokA : HOk P w H1 h' := hok1.kept hm.keeps
  have hokB : HOk P w H1 h2 := hokA.mv m hx1 hx1 frees
  have hokC : HOk P w H1 h3 := hokB.mv m3 hx1 hT1 (fun _ z => nomatch z)
  have uA : Un (frs outer) [] H H1 s.heap h' := u0.trans (Un.kept hm.keeps)
  have uB : Un (frs outer) [] H H1 s.heap h2 := uA.mv m (gone x hm.new) (gone x hm.new) fsN
  have uC : Un (frs outer) [] H H1 s.heap h3 := uB.mv m3 (gone x hm.new) (gone T nT1) (fun _ z => nomatch z)
  exact ⟨x, T, C, none, H1, rfl, I.os, I.bare, y3, gone x hm.new, gone T nT1, hx1, hT1, hokC, uC, q⟩
section
variable {X : Cx} {C : Addr} {x : Str} {e : Expr} {es : List Expr} {t : TA} {np cpos pos : Pos} {E : XK}
def sRaise (C : Addr) (E : XK) (t : TA) : TS := fun _ σ H => t σ H fun vs H1 => vs.length ≤ 1000 ∧ E (.ref C) none H1
theorem ps_raise (q : PySem.W.excIn X.K C bmV "ValueError.__new__" = true) (hg : Gl X x) (hm : X.mg x = some (.ref C)) (hc : X.calm = true) (hl : Lets X C E) (ha : PA X (e :: es) t)
    (hdb : (x == ("__debug__" : Str)) = false := by decide) (he : starEach (e :: es) X.env = (false, eval e X.env) :: starEach es X.env := by rfl) (hpl : (backTo cpos (starEach es X.env)).any (·.1) = false := by rfl) :
    PS X (.Raise (some (.Call (.Name x np) (e :: es) [] cpos)) none pos) (sRaise C E t) := by
  intro pins s σ H D I h
  obtain ⟨bm, N, nm, qn, bs, hdct, sn, sub, ab, col, dd, k0, k1, k2, k3, k5, mN, hC, hN, hni, TL⟩ := exc_own I.ok.mod.kin q
  have hplain : (backTo cpos (starEach (e :: es) X.env)).any (·.1) = false := by
    rw [he]
    show (false || (backTo cpos (starEach es X.env)).any (·.1)) = false
    rw [hpl]; rfl
  refine wpAny_Raise_call_subU (nm := nm) (q := qn) (C := C) (N := N) (bs := bs) (bm := bm) (hdct := hdct) (sn := sn) (sub := sub) (ab := ab) (col := col) (dd := dd) (k0 := k0) (k1 := k1) (k2 := k2) (k3 := k3) (k5 := k5) (mN := mN)
    PySem.F.excBase_ValueError (by decide) PySem.F.excBase_ValueError (TL.hasType (by decide)) (I.ok.hd hc) hplain hni (ld_glob I hg hm ⟨rfl, ?_⟩ hdb)
  have := ha cpos pins s σ H _ I h
  rw [he] at this ⊢
  refine Calls.evalArgs_plain (thn this fun us s1 ⟨vs, H1, I1, r, hz, q1⟩ => ⟨rfl, ?_, I1.bk _ _ hC, hN.keeps I1.bk, TL.keeps I1.bk, fun h' x hm' => ?_⟩)
  · show us.length ≤ sizeLine
    rw [← r.length]
    exact Nat.le_of_lt (small1000 hz)
  · exact hl pins σ H1 s1 h' x _ I1 hm' q1
end
theorem exc_matches {prog : Program} {w : World} {A : Around} {E : Value → Shared → Prop} {s : Shared} {K : PySem.W.Frag} {x C O : Addr} {od : Option Addr} {d : Data} {sl : Array (Option Value)} {b : Bool} {Q : Bool → Shared → Prop}
    (X : K.In s.heap) (he : s.heap.get? x = some ⟨.ref C, od, d, sl⟩) (q : PySem.W.excIn K O bmV "ValueError.__new__" = true) (hm : PySem.W.mroIn K C (.ref O) = some b) (h : Q b s) : wpAny (model prog w) A (excMatches (.ref x) (.ref O)) Q E s := by
  obtain ⟨bm, N, nm, qn, bs, hdct, sn, sub, ab, col, dd, k0, k1, k2, k3, k5, mN, hC, hN, hni, TL⟩ := exc_own X q
  have hbase : bm.contains (.type "BaseException") = true := TL.hasType (by decide)
  have hcB : (Value.ref O :: bm).contains (.type "BaseException") = true := by rw [List.contains_cons, hbase, Bool.or_true]
  have L := PySem.W.looks_mroIn (M := model prog w) X hm
  have f := tc_notTuple
  obtain ⟨hp, g, dr, tk, os⟩ := s
  unfold excMatches
  repeat (first | with_reducible refine wpAny_loadPart_at he ?_ | with_reducible refine wpAny_loadPart_at hC ?_ | (with_reducible refine wpAny_isSubtype_exc hC ?_; rw [hcB]) | with_reducible refine L.at ?_ | wp_step)
  cases b <;> (wp_walk; exact h)
abbrev Cx.inX (X : Cx) (x : Addr) : Cx := { X with A := X.A.mark (some (.ref x)), calm := false }
section
variable {X : Cx} {pins : List (Addr × Obj)} {σ : St} {H : Hp} {s : Shared}
theorem Inv.inX (I : Inv X pins σ H s) (x : Addr) : Inv (X.inX x) pins σ H s :=
  ⟨⟨I.ok.mod, I.ok.kind, I.ok.glob, I.ok.blt, I.ok.above, I.ok.inj, I.ok.has, I.ok.cab, (fun z => nomatch z), I.ok.frames, I.ok.stk, I.ok.exf, I.ok.bs, I.ok.bsz, I.ok.noex, I.ok.exfs, I.ok.funs, I.ok.frf⟩,
    I.os, I.bare, I.base, I.loc, I.cell, I.free, I.freeC, I.pin, I.hok, I.len⟩
theorem Inv.outX {x : Addr} (ok : X.Ok) (I : Inv (X.inX x) pins σ H s) : Inv X pins σ H s := ⟨ok, I.os, I.bare, I.base, I.loc, I.cell, I.free, I.freeC, I.pin, I.hok, I.len⟩
end
def Ends.drop (D : Ends) (i : Nat) : Ends := { nx := fun σ H => D.nx (σ.set i none) H, rt := D.rt, bk := fun σ H => D.bk (σ.set i none) H, ct := fun σ H => D.ct (σ.set i none) H }
section
variable {X : Cx} {k i : Nat} {f O : Addr} {fd : FuncData} {ps : List Str} {sp : Sp} {dvs : List V} {ds : List Value} {fx cn n : Str} {p np cpos epos hpos pos : Pos} {e : Expr} {es : List Expr} {t : TA} {b0 : Stmt} {suite : List Stmt} {ts : TS}
end
structure RoomH (k : Nat) (A : Around) : Prop where
  dp : A.depth + 3 * k + 5 < recursionLimit
  un : A.units + 16 * k + 200 < cLine
structure FnOkH (P : Program) (w : World) (K : PySem.W.Frag) (mg : Str → Option Value) (base : Heap) (CX : CXT) (k : Nat) (f : Addr) (fd : FuncData) (ps : List Str) (sp : Sp) : Prop where
  len : ∀ vs H Q E, sp vs H Q E → vs.length = ps.length
  run : ∀ (A : Around) (outer : List Env) (s : Shared) (H : Hp) (args : Args) (us : List Value) (vs : List V) (Q : VK) (E : XK), RoomH k A → Env0 P w K mg base A outer s H → BindsTo s fd args (ps.zip us) → Vals vs us → sp vs H Q E →
    codeAny (model P w) A (.call (.ref f) args) (CR CX outer P w H s Q E) s
abbrev cxOfH (CX : CXT) (P : Program) (w : World) (K : PySem.W.Frag) (mg : Str → Option Value) (base : Heap) (N : List Str) (qual : Str) (scope : Scope) (f : Addr) (cd : Value) (A : Around) (outer : List Env) (s : Shared) (H : Hp) (E : XK) : Cx :=
  { cxOf CX P w K mg base N qual scope f cd A outer s H E with calm := false }
section
variable {P : Program} {w : World} {K : PySem.W.Frag} {mg : Str → Option Value} {base : Heap}
/-- a def that may raise -/
theorem Fun.okW {x qual : Str} {st : Stmt} {f : Addr} {fd : FuncData} {N ps : List Str} {k : Nat} {sp : Sp} (F : Fun K x qual st f fd) (S : FnScope N ps (defScope st)) (len : ∀ vs H Q E, sp vs H Q E → vs.length = ps.length)
    (hbody : ∀ (cdv : Value) (A : Around) (outer : List Env) (s : Shared) (H : Hp) (vs : List V) (Q : VK) (E : XK), Room k (A.deeper (envOfC qual (defScope st) s.heap.objs.size f cdv)) → sp vs H Q E →
      ∃ t, PSs (cxOf (CXW P w) P w K mg base N qual (defScope st) f cdv A outer s H E) (defBody st) t ∧ t { nx := fun _ H' => Q .non H', rt := Q } (start N vs) H) : FnOk P w K mg base (CXW P w) (k + 1) f fd ps sp := by
  obtain ⟨oc, od, kV, doc, pm, an, cdv, ct, osl, rfl, lk, hcd⟩ := F.ex
  refine fn_of lk hcd S len fun A outer s H vs Q E hr hsp => ?_
  obtain ⟨t, h, q⟩ := hbody cdv A outer s H vs Q E hr hsp
  exact ⟨t, h, q⟩
end
section
variable {X : Cx} {CX : CXT} {k : Nat} {f : Addr} {fd : FuncData} {ps : List Str} {sp : Sp} {dvs : List V} {ds : List Value} {E : XK} {x : Str} {p pos : Pos} {e : Expr} {es : List Expr} {t : TA}
end
end L2

namespace L2
open PySem PySem.Spec PySem.Calls PyProof.Rows
section
variable {X : Cx} {e st : Expr} {te ts : TE} {p2 pos : Pos}
end
end L2

namespace Ro
open PySem L2 Og
theorem paired_mem {H : Hp} {ts : List T3} {ys : List V} (h : Paired (fun t y => TupAt H (t3V t) y) ts ys) : ∀ y ∈ ys, ∃ t ∈ ts, TupAt H (t3V t) y := by
  induction h with
  | nil => exact fun _ h => absurd h List.not_mem_nil
  | cons a b ih =>
    intro y hy
    rcases List.mem_cons.mp hy with rfl | hy
    · exact ⟨_, List.mem_cons_self .., a⟩
    · obtain ⟨t, ht, q⟩ := ih y hy
      exact ⟨t, List.mem_cons_of_mem _ ht, q⟩
/-- the holes of spans are spans within the same length -/
theorem ok_holes {ts hs : List T3} {len : Int} (ok : ∀ t ∈ ts, okH len t) (c : Canon hs) (cv : ∀ tr t, Cov hs tr t ↔ Cov ts tr t) : ∀ t ∈ hs, okH len t := fun h hm => by
  have h0 := c.sep.1 h hm
  obtain ⟨s, sm, se, s1, s2⟩ := (cv h.1 h.2.1).mp ⟨h, hm, rfl, Int.le_refl _, h0⟩
  obtain ⟨o1, o2, o3, o4, o5⟩ := ok s sm
  obtain ⟨u, um, ue, u1, u2⟩ := (cv h.1 (h.2.2 - 1)).mp ⟨h, hm, rfl, by omega, by omega⟩
  obtain ⟨p1, p2, p3, p4, p5⟩ := ok u um
  exact ⟨by omega, by omega, by omega, h0, by omega⟩
theorem tabH_updL {H : Hp} {P l : Addr} {pos : Pos} {q : Str} {xs : List V} {o : HO} (t : TabH H P pos q) (hl : H l = some (.lst xs)) : TabH (upd H l o) P pos q := by
  rcases t with t | ⟨c, t, u⟩
  · exact .inl (by rw [upd_ne (ne_of t hl (fun z => by cases z))]; exact t)
  · exact .inr ⟨c, by rw [upd_ne (ne_of t hl (fun z => by cases z))]; exact t, by rw [upd_ne (ne_of u hl (fun z => by unfold CodeO at z; cases z))]; exact u⟩
theorem Tb.updL {B : Tb2} {H : Hp} {l : Addr} {xs : List V} {o : HO} (t : Tb B H) (hl : H l = some (.lst xs)) : Tb B (upd H l o) := ⟨t.1, tabH_updL t.2.1 hl, tabH_updL t.2.2 hl⟩
theorem RlAt.updL {H : Hp} {p l : Addr} {ts : List T3} {ys xs ws : List V} (A : RlAt H p ts ys) (hl : H l = some (.lst xs)) (hn : p ≠ l) : RlAt (upd H l (.lst ws)) p ts ys := ⟨by rw [upd_ne hn]; exact A.l, paired_upd A.p hl⟩
section
variable {X : Cx}
theorem lists_eq {A : Around} {pins : List (Addr × Obj)} {σ : St} {H : Hp} {s : Shared} (I : Inv X pins σ H s) (hu : A.units + 4 < cLine) {p p2 : Addr} {hs : List T3} {zs zs2 : List V} (A1 : RlAt H p hs zs) (A2 : RlAt H p2 hs zs2) {j1 j2 : List Value} (w1 : Vals zs j1) (w2 : Vals zs2 j2) :
    ∀ j (h1 : j < j1.toArray.size) (h2 : j < j2.toArray.size), SeqAt.EqAt A s j1.toArray[j] j2.toArray[j] true := fun j h1 h2 => by
  have n1 := w1.length
  have n3 := A1.len
  have h1' : j < j1.length := by simpa using h1
  have h2' : j < j2.length := by simpa using h2
  simp only [List.getElem_toArray]
  have hj : j < hs.length := by omega
  obtain ⟨z1, hz1, y1⟩ := Og.paired_get A1.p (List.getElem?_eq_getElem hj)
  obtain ⟨z2, hz2, y2⟩ := Og.paired_get A2.p (List.getElem?_eq_getElem hj)
  obtain ⟨T1, rfl, hT1⟩ := y1
  obtain ⟨T2, rfl, hT2⟩ := y2
  obtain ⟨u1, hu1, ru1⟩ := w1.get hz1
  obtain ⟨u2, hu2, ru2⟩ := w2.get hz2
  rw [List.getElem?_eq_getElem h1'] at hu1
  rw [List.getElem?_eq_getElem h2'] at hu2
  cases ru1
  cases ru2
  rw [Option.some.inj hu1, Option.some.inj hu2]
  exact eqAt_tri I (by omega) hT1 hT2
theorem op_eq_rl (hu : X.A.units + 8 < cLine) : OpR X (compareOp .Eq) (fun x y H Q => ∃ p p2 hs zs zs2, x = V.ref p ∧ y = V.ref p2 ∧ RlAt H p hs zs ∧ RlAt H p2 hs zs2 ∧ Q (.bl true) H) := by
  intro pins s σ H x y v u Q I rx ry h
  obtain ⟨p, p2, hs, zs, zs2, rfl, rfl, A1, A2, k⟩ := h
  cases rx
  cases ry
  obtain ⟨j1, w1, m1, _⟩ := I.list (show SqL X.K H p zs from .inl (.inl A1.l))
  obtain ⟨j2, w2, m2, _⟩ := I.list (show SqL X.K H p2 zs2 from .inl (.inl A2.l))
  have n1 := w1.length
  have n2 := w2.length
  have n3 := A1.len
  have n4 := A2.len
  refine SeqAt.eq_listAt (e := fun j => true) m1.isList m2.isList (by simp; omega) (by omega) (lists_eq I (by show X.A.units + 1 + 4 < cLine; omega) A1 A2 w1 w2) ⟨.bl true, H, I, ?_, k⟩
  have e : ((List.range j1.toArray.size).all fun _ => true) = true := List.all_eq_true.mpr fun _ _ => rfl
  rw [e]
  exact rfl
end
def spIr (B : Tb2) : Sp := fun vs H Q _ => ∃ (r : Addr) (len : Int) (hs : List T3), vs = [.ref r] ∧ RoAt H r len hs ∧ Canon hs ∧ hs.length < 400 ∧ 0 ≤ len ∧ len ≤ 1000000000000 ∧ (∀ t ∈ hs, okH len t) ∧ Tb B H ∧
  ∀ (H' : Hp), Kp B H H' → Tb B H' → Q (.bl true) H'
end Ro

namespace L2
open PySem PySem.Spec PySem.Calls PyProof.Rows
theorem Un.thru {fs gs : List Addr} {H H1 H2 : Hp} {h h1 h2 : Heap} (a : Un fs [] H H1 h h1) (b : Un gs [] H1 H2 h1 h2) (hs : ∀ x ∈ gs, x ∈ fs ∨ h.get? x = none) : Un fs [] H H2 h h2 where
  keep := fun c o q n hc hx => by
    have hg : c ∉ gs := fun z => by
      rcases hs c z with e | e
      · exact hc e
      · rw [q] at e; cases e
    exact b.keep c o (a.keep c o q n hc hx) (a.free c o q n hx) hg hx
  slot := fun c o q n hc hx => by
    obtain ⟨sl, e⟩ := a.slot c o q n hc hx
    obtain ⟨sl', e'⟩ := b.any e (a.free c o q n hx) hx
    exact ⟨sl', e'⟩
  free := fun c o q n hx => by
    obtain ⟨o', e⟩ := a.there c o q hx
    exact b.free c o' e (a.free c o q n hx) hx
  there := fun c o q hx => by
    obtain ⟨o', e⟩ := a.there c o q hx
    exact b.there c o' e hx
  tups := fun c xs q => b.tups c xs (a.tups c xs q)
  frzs := fun c o u q => b.frzs c o u (a.frzs c o u q)
  tbls := fun c ps q => by
    obtain ⟨m1, e1⟩ := a.tbls c ps q
    obtain ⟨m2, e2⟩ := b.tbls c _ e1
    exact ⟨m1 ++ m2, by rw [e2, Array.append_assoc]⟩
theorem pass_on {P : Program} {w : World} {K : PySem.W.Frag} {mg : Str → Option Value} {base : Heap} {N : List Str} {qual : Str} {scope : Scope} {f : Addr} {cd : Value} {A : Around} {outer : List Env} {s : Shared} {H : Hp} {E : XK} :
    Passes (CXW P w) (cxOf (CXW P w) P w K mg base N qual scope f cd A outer s H E) E := by
  rintro pins σ H1 s1 e s' I ⟨x, T, C, od, H2, rfl, os, bare, y, nx, nT, hx2, hT2, hok2, un2, q⟩
  have gone : ∀ b, s1.heap.get? b = none → s.heap.get? b = none := fun b e => by
    cases z : s.heap.get? b with
    | none => rfl
    | some o =>
      obtain ⟨o', e'⟩ := I.base.there b o z (by show b ∉ ([] : List Addr); simp)
      rw [e] at e'; cases e'
  have os1 : s1.os = s.os := I.os
  obtain ⟨h1, g, dr, tk, os'⟩ := s'
  obtain rfl : os' = s1.os := os
  have I2 := I.call (h' := h1) (g' := g) (d' := dr) (t' := tk) (ch := []) un2 hok2 bare (fun b z => absurd z (by simp))
  have hfr : (A.deeper (envOfC qual scope s.heap.objs.size f cd)).frames = some (envOfC qual scope s.heap.objs.size f cd :: outer) := I.ok.frames
  have hff : h1.FunFrames base (envOfC qual scope s.heap.objs.size f cd :: outer) := I2.stack
  have frees : ∀ b ∈ frs (envOfC qual scope s.heap.objs.size f cd :: outer), H2 b = none := I2.stkFree
  have fsN : ∀ b ∈ frs (envOfC qual scope s.heap.objs.size f cd :: outer), b ∈ frs outer ∨ s.heap.get? b = none := fun b hb => by
    rcases List.mem_cons.mp (show b ∈ s.heap.objs.size :: frs outer from hb) with z | z
    · rw [z]; exact .inr (Heap.get?_none_of_le (Nat.le_refl _))
    · exact .inl z
  have u0 : Un (frs outer) [] H H1 s.heap s1.heap := I.base
  have u2 : Un (frs outer) [] H H2 s.heap h1 := u0.thru (show Un (frs (envOfC qual scope s.heap.objs.size f cd :: outer)) [] H1 H2 s1.heap h1 from un2) fsN
  show wpAny (model P w) (A.deeper (envOfC qual scope s.heap.objs.size f cd)) (leaving (envOfC qual scope s.heap.objs.size f cd) (.ref x)) _ _ _
  unfold leaving
  refine wpAny_bind (note_on (s := ⟨h1, g, dr, tk, s1.os⟩) (L := s.heap.objs.size) hfr hff rfl y fun h3 T3 y3 m3 n3 => ?_)
  refine flight_none (s := ⟨h3, g, dr, tk, s1.os⟩) y3 fun h4 y4 m4 => ?_
  have nT3 : s.heap.get? T3 = none := by
    cases z : s.heap.get? T3 with
    | none => rfl
    | some o =>
      obtain ⟨o', e'⟩ := u2.there T3 o z (by simp)
      have n3' : h1.get? T3 = none := n3
      rw [n3'] at e'; cases e'
  have hT3 : H2 T3 = none := hok2.none_of n3
  have fs2 : ∀ b ∈ frs (envOfC qual scope s.heap.objs.size f cd :: outer), b ∉ frs outer → s.heap.get? b = none := fun b hb hn => (fsN b hb).resolve_left hn
  have u3 := u2.mv m3 (gone x nx) (gone T nT) fs2
  have u4 := u3.mv m4 (gone x nx) nT3 (fun _ z => nomatch z)
  have k3 : HOk P w H2 h3 := HOk.mv (P := P) (w := w) hok2 m3 hx2 hT2 frees
  have k4 : HOk P w H2 h4 := k3.mv m4 hx2 hT3 (fun _ z => nomatch z)
  exact ⟨x, T3, C, od, H2, rfl, os1, bare, y4, gone x nx, nT3, hx2, hT3, k4, u4, q⟩
end L2

namespace Ro
open PySem L2 Og
def okT (T : String) : Prop := T = "NoneType" ∨ T = "bool" ∨ T = "int" ∨ T = "str" ∨ T = "list" ∨ T = "tuple" ∨ T = "dict"
theorem kit_int (K : PySem.W.Frag) {T : String} (h : okT T) : PySem.W.kitOne K (.type T) (.type "int") = some (decide (T = "int") || decide (T = "bool")) := by
  rcases h with rfl | rfl | rfl | rfl | rfl | rfl | rfl <;> kernel_rfl
theorem kit_bool (K : PySem.W.Frag) {T : String} (h : okT T) : PySem.W.kitOne K (.type T) (.type "bool") = some (decide (T = "bool")) := by
  rcases h with rfl | rfl | rfl | rfl | rfl | rfl | rfl <;> kernel_rfl
theorem ty_intv {K : PySem.W.Frag} {H : Hp} {x : V} {t : Value} (h : TyOf K H x t) (ht : t = .type "int") : ∃ i, x = .int i := by
  cases h with
  | int i => exact ⟨i, rfl⟩
  | ins => cases ht
  | _ => injection ht with e; exact absurd e (by decide)

def spWhole (K : PySem.W.Frag) : Sp := fun vs H Q _ => ∃ (x : V) (T : String), vs = [x] ∧ TyOf K H x (.type T) ∧ okT T ∧ Q (.bl (decide (T = "int"))) H
def scl (k : Int) (h : T3) : T3 := (h.1, h.2.1 * k, h.2.2 * k)
theorem scl_canon {k : Int} (hk : 1 ≤ k) {hs : List T3} (c : Canon hs) : Canon (hs.map (scl k)) := by
  have k0 : 0 < k := by omega
  refine ⟨⟨fun h hm => ?_, fun g gm h hm e => ?_⟩, List.pairwise_map.mpr (c.srt.imp fun {a b} h => ?_)⟩
  · obtain ⟨x, xm, rfl⟩ := List.mem_map.mp hm
    exact Int.mul_lt_mul_of_pos_right (c.sep.1 x xm) k0
  · obtain ⟨x, xm, rfl⟩ := List.mem_map.mp gm
    obtain ⟨y, ym, rfl⟩ := List.mem_map.mp hm
    rcases c.sep.2 x xm y ym e with rfl | h | h
    · exact .inl rfl
    · exact .inr (.inl (Int.mul_lt_mul_of_pos_right h k0))
    · exact .inr (.inr (Int.mul_lt_mul_of_pos_right h k0))
  · rcases h with h | ⟨h1, h2⟩
    · exact .inl (Int.mul_lt_mul_of_pos_right h k0)
    · exact .inr ⟨by show a.2.1 * k = b.2.1 * k; rw [h1], h2⟩
def spRfW (c0 : Addr) (B : Tb2) : Sp := fun vs H Q E => ∃ (a : Addr) (ts : List T3) (ys : List V) (len : Int), vs = [.int len, .ref a] ∧ RlAt H a ts ys ∧ ys.length < 400 ∧ (∀ t ∈ ts, t.2.1 < t.2.2) ∧ Tb B H ∧
  ((len ≤ 1000000000000 ∧ ∀ (r : Addr) (hs : List T3) (H' : Hp), Kp B H H' → Tb B H' → RoF H H' r len hs → Canon hs → (∀ tr t, Cov hs tr t ↔ Cov ts tr t) → hs.length ≤ ts.length → Q (.ref r) H') ∨ (1000000000000 < len ∧ E (.ref c0) none H))
def spSl (K : PySem.W.Frag) (c0 : Addr) (B : Tb2) : Sp := fun vs H Q E => ∃ (r : Addr) (len : Int) (hs : List T3) (x : V) (U : String), vs = [.ref r, x] ∧ RoAt H r len hs ∧ Canon hs ∧ hs.length < 64 ∧ 0 ≤ len ∧ len ≤ 1000000000000 ∧ Tb B H ∧ TyOf K H x (.type U) ∧ okT U ∧
  ((∃ k : Int, x = .int k ∧ 1 ≤ k ∧ k ≤ 1000 ∧ len * k ≤ 1000000000000 ∧ ∀ (r' : Addr) (H' : Hp), Kp B H H' → Tb B H' → RoF H H' r' (len * k) (hs.map (scl k)) → Q (.ref r') H') ∨
   (∃ k : Int, x = .int k ∧ 1 ≤ k ∧ k ≤ 1000 ∧ 1000000000000 < len * k ∧ ∀ H', Same H H' → E (.ref c0) none H') ∨ ((∀ k : Int, x = .int k → k < 1 ∨ 1000 < k) ∧ E (.ref c0) none H))
theorem op_ne_roll {X : Cx} (hu : X.A.units + 8 < cLine) : OpR X (compareOp .NotEq) (fun x y H Q => ∃ r1 r2 len hs, x = V.ref r1 ∧ y = V.ref r2 ∧ RoAt H r1 len hs ∧ RoAt H r2 len hs ∧ Q (.bl false) H) := by
  intro pins s σ H x y v u Q I rx ry h
  obtain ⟨r1, r2, len, hs, rfl, rfl, ⟨p, zs, e1, A1⟩, ⟨p2, zs2, e2, A2⟩, k⟩ := h
  cases rx
  cases ry
  obtain ⟨i1, v1, pl1, _⟩ := I.tuple (show SqT X.K H r1 _ from .inl (.inl e1))
  obtain ⟨i2, v2, pl2, _⟩ := I.tuple (show SqT X.K H r2 _ from .inl (.inl e2))
  obtain ⟨a1, b1, rfl, ⟨t1, rfl⟩, q1⟩ := Vals.two v1
  obtain ⟨a2, b2, rfl, ⟨t2, rfl⟩, q2⟩ := Vals.two v2
  cases q1
  cases q2
  have lists : SeqAt.EqAt X.A.in1 s (.ref p) (.ref p2) true := by
    by_cases hpp : p = p2
    · subst hpp
      exact SeqAt.EqAt.same _
    · obtain ⟨j1, w1, m1, _⟩ := I.list (show SqL X.K H p zs from .inl (.inl A1.l))
      obtain ⟨j2, w2, m2, _⟩ := I.list (show SqL X.K H p2 zs2 from .inl (.inl A2.l))
      have n1 := w1.length
      have n2 := w2.length
      have n3 := A1.len
      have n4 := A2.len
      have h := SeqAt.RcAt.lists (A := X.A.in1) (e := fun _ => true) m1.isList m2.isList (by simp; omega) (by show X.A.units + 1 < cLine; omega) (lists_eq I (by show X.A.units + 1 + 1 + 4 < cLine; omega) A1 A2 w1 w2)
      refine SeqAt.EqAt.of_refs hpp ?_
      have e : ((List.range j1.toArray.size).all fun _ => true) = true := List.all_eq_true.mpr fun _ _ => rfl
      rw [e] at h
      exact h
  refine SeqAt.RcNeAt.tuples (e := fun _ => true) pl1 pl2 (by omega) (fun j h1 h2 => ?_) _ _ _ _ ⟨.bl false, H, I, ?_, k⟩
  · have h1' : j < 2 := h1
    match j, h1' with
    | 0, _ =>
      have := SeqAt.EqAt.int_int (A := X.A.in1) (s := s) len t1 len t2
      rw [beq_self_eq_true] at this
      exact this
    | 1, _ => exact lists
  · rfl
end Ro
namespace Ro
open PySem L2 Og
/-- a comprehension that makes one hole of each -/
theorem comp_map {K : PySem.W.Frag} {σ : St} {H1 : Hp} {Q : VK} {tt : TT} {te : TE} {l : Addr} {d : List T3} {xs : List V} (f : T3 → T3) (A : RlAt H1 l d xs) (hz : xs.length < sizeLine)
    (ht : ∀ x ∈ xs, ∀ H, Same H1 H → ∀ R : Bool → Hp → Prop, (∀ H', Same H H' → R true H') → tt (some x :: σ) H R)
    (he : ∀ x ∈ d, ∀ T, H1 T = some (.tup (t3V x)) → ∀ H, Same H1 H → ∀ R : VK, (∀ T' H', Same H H' → H' T' = some (.tup (t3V (f x))) → R (.ref T') H') → te (some (.ref T) :: σ) H R)
    (hq : ∀ D H zs, H1 D = none → Same H1 H → RlAt H D (d.map f) zs → Q (.ref D) H) : CompOk (Itl K l) σ H1 Q tt te := by
  intro D hD
  have hl : SqL K H1 l xs := .inl (.inl A.l)
  have ld := A.len
  have s0 : Same H1 (upd H1 D (.lst [])) := fun b o e => by rw [upd_ne (ne_of_none e hD)]; exact e
  refine ⟨fun i m ys H => m = xs.length - i ∧ i ≤ xs.length ∧ Same H1 H ∧ RlAt H D ((d.take i).map f) ys, ⟨xs.length, by simp, Nat.zero_le _, s0, ⟨upd_same, .nil⟩⟩, ?_⟩
  rintro i m ys H ⟨rfl, hi, hs, B⟩
  by_cases hlt : i < xs.length
  · obtain ⟨x, hx⟩ : ∃ x, xs[i]? = some x := ⟨xs[i], by simp [hlt]⟩
    obtain ⟨t, T0, ht0, htd, rfl, hT⟩ := A.at hx
    refine .inr ⟨⟨xs, _, hs.seq hl, hx⟩, fun y H3 hyl => ?_⟩
    obtain ⟨rfl, hy'⟩ := hyl
    have hy2 := hy' xs (hs.seq hl)
    rw [hx] at hy2
    cases hy2
    have lb := B.len
    rw [List.length_map, List.length_take] at lb
    refine ht _ (List.mem_of_getElem? hx) _ hs _ fun H4 s4 => ?_
    rw [if_pos rfl]
    refine he t htd T0 hT H4 (hs.trans s4) _ fun T' H5 s5 hT' => ?_
    have B5 := B.mono (s4.trans s5)
    refine ⟨B5.l, by omega, xs.length - (i + 1), by omega, rfl, hlt, fun b o e => ?_, ?_⟩
    · rw [upd_ne (ne_of_none e hD)]; exact s5 _ _ (s4 _ _ (hs _ _ e))
    · have e2 : (d.take (i + 1)).map f = (d.take i).map f ++ [f t] := by
        rw [List.take_add_one, ht0, List.map_append]
        rfl
      rw [e2]
      exact B5.snoc hT'
  · have e : i = xs.length := by omega
    subst e
    rw [List.take_of_length_le (by omega)] at B
    exact .inl ⟨⟨xs, hs.seq hl, Nat.le_refl _⟩, hq D H ys hD hs B⟩
end Ro
namespace Ro
open PySem L2 Og
end Ro

namespace L2
open PySem PySem.Spec PyProof.Rows
section
variable {X : Cx}
theorem call_sortedA : CallR X (.builtin "sorted") (fun xs H Q => ∃ (a : Addr) (ns : List Int), xs = [V.ref a] ∧ SqL X.K H a (ns.map V.int) ∧ ∀ (p : Addr) (ms : List Int), H p = none → ms.Perm ns → ms.Pairwise (· ≤ ·) → Q (.ref p) (upd H p (.lst (ms.map V.int)))) := by
  intro pins s σ H xs us Q I r h
  obtain ⟨a, ns, rfl, ha, q⟩ := h
  obtain ⟨u, rfl, ru⟩ := vals1 r
  cases ru
  obtain ⟨its, rv, pl, hz⟩ := I.list ha
  have hi := ivals rv
  have hlen : its.length ≤ sizeLine := by have := rv.length; omega
  refine Sx.sorted_I pl.isList hi hlen fun D h' c us ms hD kk e i1 pm pw => ?_
  have hn : H D = none := I.hok.fresh hD
  have hl2 : (ms.map V.int).length ≤ sizeLine := by
    rw [List.length_map, pm.length_eq]
    have := rv.length
    rw [List.length_map] at this
    omega
  exact ⟨.ref D, _, I.laid (t' := s.toks) (o := .lst (ms.map V.int)) kk hD ⟨hl2, us, c, valsI i1, e⟩, rfl, q _ ms hn pm pw⟩
end
end L2

namespace L2
open PySem PySem.Spec PySem.Calls PyProof.Rows
section
variable {X : Cx} {es : List Expr} {k1 : Nat} {tpos : Pos}
end
end L2

namespace L2
open PySem PySem.Spec PyProof.Rows
section
variable {X : Cx}
end
section
variable {prog : Program} {w : World} {A : Around} {E : Value → Shared → Prop} {s : Shared} {r l : Addr}
end
section
variable {X : Cx} {p1 p2 q1 q2 : Pos} {e : Expr} {te : TE}
end
end L2

namespace L2
open PySem PySem.Spec PyProof.Rows
section
variable {X : Cx} {tg : Expr}
end
end L2

namespace L2
open PySem PySem.Spec PySem.Calls PyProof.Rows
section
variable {X : Cx}
end
end L2

namespace L2
open PySem PySem.Spec PySem.Calls PyProof.Rows
section
variable {X : Cx}
end
end L2

namespace L2
open PySem PySem.Spec PyProof.Rows
end L2

namespace L2
open PySem PySem.Spec PyProof.Rows
section
variable {X : Cx} {pins : List (Addr × Obj)} {σ : St} {H : Hp} {s : Shared} {x z : Str} {scope : Scope} {fp : List Addr} {C : Addr}
end
section
variable {X : Cx} {x z : Str} {scope : Scope}
end
section
variable {X : Cx} {x z : Str} {scope : Scope}
end
end L2

namespace L2
open PySem PySem.Spec PyProof.Rows
section
variable {X : Cx}
end
end L2

namespace L2
open PySem PySem.Spec PySem.Calls PyProof.Rows
section
variable {X : Cx} {a b c d : Expr} {ta tb tc td : TE} {pos : Pos}
theorem pt_chain3 {op op' op'' : CmpOp} {r r' r'' : R2} (ho : OpR X (compareOp op) r) (ho' : OpR X (compareOp op') r') (ho'' : OpR X (compareOp op'') r'') (ha : PE X a ta) (hb : PE X b tb) (hc : PE X c tc) (hd : PE X d td)
    (hm : lastMarks [op, op', op''] [b, c, d] = false := by with_unfolding_all rfl) : PT X (.Compare a [op, op', op''] [b, c, d] pos) (tTest (tChain3 r r' r'' ta tb tc td)) := by
  intro pins s σ H Q I h
  refine isTrue_chain (thn (ha pins s σ H _ I h) fun v s1 ⟨x, H1, I1, r1, q1⟩ => test_link (thn (hb pins s1 σ H1 _ I1 q1) fun u s2 ⟨y, H2, I2, r2, q2⟩ =>
    thn (ho pins s2 σ H2 x y v u _ I2 r1 r2 q2) fun d s3 ⟨z, H3, I3, r3, k, e, q3⟩ => ?_)) hm
  subst e
  cases r3
  refine wpAny_truthy_bool ?_
  cases k with
  | false =>
    obtain ⟨k', e', q'⟩ := q3
    cases e'
    exact ite_ff ⟨H3, I3, q'⟩
  | true =>
    refine ite_tt (test_link (thn (hc pins s3 σ H3 _ I3 q3) fun w' s4 ⟨z', H4, I4, r4, q4⟩ => thn (ho' pins s4 σ H4 y z' u w' _ I4 r2 r4 q4) fun d5 s5 ⟨z5, H5, I5, r5, k5, e5, q5⟩ => ?_))
    subst e5
    cases r5
    refine wpAny_truthy_bool ?_
    cases k5 with
    | false =>
      obtain ⟨k', e', q'⟩ := q5
      cases e'
      exact ite_ff ⟨H5, I5, q'⟩
    | true =>
      refine ite_tt (test_last (thn (hd pins s5 σ H5 _ I5 q5) fun w6 s6 ⟨z6, H6, I6, r6, q6⟩ => thn (ho'' pins s6 σ H6 z' z6 w' w6 _ I6 r4 r6 q6) fun d7 s7 ⟨z7, H7, I7, r7, k7, e7, q7⟩ => ?_))
      subst e7
      cases r7
      exact wpAny_truthy_bool ⟨H7, I7, q7⟩
end
end L2
namespace Ro
open PySem L2 Og
def mov (k : Int) (h : T3) : T3 := (h.1, h.2.1 + k, h.2.2 + k)
def cut2 (f b : Int) (h : T3) : T3 := (h.1, max h.2.1 f, min h.2.2 b)
def ne3 (h : T3) : Bool := decide (h.2.1 < h.2.2)
/-- covered in a part -/
def PCov (l : List T3) (f b tr t : Int) : Prop := 0 ≤ t ∧ t < b - f ∧ Cov l tr (t + f)
theorem cov_mov {l : List T3} {k tr t : Int} : Cov (l.map (mov k)) tr t ↔ Cov l tr (t - k) := by
  constructor
  · rintro ⟨h, hm, r1, r2, r3⟩
    obtain ⟨x, xm, rfl⟩ := List.mem_map.mp hm
    have r2 : x.2.1 + k ≤ t := r2
    have r3 : t < x.2.2 + k := r3
    exact ⟨x, xm, r1, by omega, by omega⟩
  · rintro ⟨x, xm, r1, r2, r3⟩
    exact ⟨mov k x, List.mem_map.mpr ⟨x, xm, rfl⟩, r1, by show x.2.1 + k ≤ t; omega, by show t < x.2.2 + k; omega⟩
theorem cov_part {l : List T3} {f b tr t : Int} : Cov (((l.map (cut2 f b)).filter ne3).map (mov (-f))) tr t ↔ PCov l f b tr t := by
  rw [cov_mov]
  constructor
  · rintro ⟨h, hm, r1, r2, r3⟩
    obtain ⟨hm1, _⟩ := List.mem_filter.mp hm
    obtain ⟨x, xm, rfl⟩ := List.mem_map.mp hm1
    have r2 : max x.2.1 f ≤ t - -f := r2
    have r3 : t - -f < min x.2.2 b := r3
    exact ⟨by omega, by omega, x, xm, r1, by omega, by omega⟩
  · rintro ⟨h1, h2, x, xm, r1, r2, r3⟩
    have a1 : max x.2.1 f ≤ t - -f := by omega
    have a2 : t - -f < min x.2.2 b := by omega
    exact ⟨cut2 f b x, List.mem_filter.mpr ⟨List.mem_map.mpr ⟨x, xm, rfl⟩, decide_eq_true (by show max x.2.1 f < min x.2.2 b; omega)⟩, r1, a1, a2⟩
theorem pos_part {l : List T3} {f b : Int} : ∀ t ∈ ((l.map (cut2 f b)).filter ne3).map (mov (-f)), t.2.1 < t.2.2 := fun t ht => by
  obtain ⟨x, xm, rfl⟩ := List.mem_map.mp ht
  have := of_decide_eq_true (List.mem_filter.mp xm).2
  show x.2.1 + -f < x.2.2 + -f
  omega
theorem len_part {l : List T3} {f b : Int} : (((l.map (cut2 f b)).filter ne3).map (mov (-f))).length ≤ l.length := by
  rw [List.length_map]
  exact Nat.le_trans (List.length_filter_le ..) (by rw [List.length_map]; exact Nat.le_refl _)
/-- the law's own cut -/
def lc (lo hi : Int) (h : T3) : Bool := decide (max h.2.1 lo < min h.2.2 hi)
def lf (lo hi : Int) (h : T3) : T3 := (h.1, max h.2.1 lo - lo, min h.2.2 hi - lo)
theorem cov_lcut {l : List T3} {lo hi tr t : Int} : Cov ((l.filter (lc lo hi)).map (lf lo hi)) tr t ↔ PCov l lo hi tr t := by
  constructor
  · rintro ⟨h, hm, r1, r2, r3⟩
    obtain ⟨x, xm, rfl⟩ := List.mem_map.mp hm
    have r2 : max x.2.1 lo - lo ≤ t := r2
    have r3 : t < min x.2.2 hi - lo := r3
    exact ⟨by omega, by omega, x, (List.mem_filter.mp xm).1, r1, by omega, by omega⟩
  · rintro ⟨h1, h2, x, xm, r1, r2, r3⟩
    exact ⟨lf lo hi x, List.mem_map.mpr ⟨x, List.mem_filter.mpr ⟨xm, decide_eq_true (by omega)⟩, rfl⟩, r1, by show max x.2.1 lo - lo ≤ t; omega, by show t < min x.2.2 hi - lo; omega⟩
def spMv : Sp := fun vs H Q _ => ∃ (a : Addr) (ts : List T3) (ys : List V) (k : Int), vs = [.ref a, .int k] ∧ RlAt H a ts ys ∧ ys.length < 400 ∧ ∀ (p : Addr) (zs : List V) (H' : Hp), Same H H' → H p = none → RlAt H' p (ts.map (mov k)) zs → Q (.ref p) H'
def Bad2 (len : Int) (x y : V) : Prop := ∀ f b : Int, x = .int f → y = .int b → ¬ (0 ≤ f ∧ f ≤ b ∧ b ≤ len)
def spRp (K : PySem.W.Frag) (c0 : Addr) (B : Tb2) : Sp := fun vs H Q E => ∃ (r : Addr) (len : Int) (hs : List T3) (x y : V) (U W : String), vs = [.ref r, x, y] ∧ RoAt H r len hs ∧ hs.length < 64 ∧ len ≤ 1000000000000 ∧ Tb B H ∧ TyOf K H x (.type U) ∧ okT U ∧ TyOf K H y (.type W) ∧ okT W ∧
  ((∃ f b : Int, x = .int f ∧ y = .int b ∧ 0 ≤ f ∧ f ≤ b ∧ b ≤ len ∧ ∀ (r' : Addr) (hs' : List T3) (H' : Hp), Kp B H H' → Tb B H' → RoF H H' r' (b - f) hs' → Canon hs' → (∀ tr t, Cov hs' tr t ↔ PCov hs f b tr t) → hs'.length ≤ hs.length → Q (.ref r') H') ∨ (Bad2 len x y ∧ E (.ref c0) none H))
theorem Kp.tupO {B : Tb2} {H H' : Hp} (k : Kp B H H') {T : Addr} {xs : List V} (h : H T = some (.tup xs)) : H' T = some (.tup xs) := k _ _ (fun _ z => by cases z) h
theorem Kp.lstO {B : Tb2} {H H' : Hp} (k : Kp B H H') {T : Addr} {xs : List V} (h : H T = some (.lst xs)) : H' T = some (.lst xs) := k _ _ (fun _ z => by cases z) h
end Ro
namespace Ro
end Ro

namespace Ro
open PySem L2 Og
def ThV (K : PySem.W.Frag) (H : Hp) (x : V) : Prop := ∃ U, TyOf K H x (.type U) ∧ okT U
def GdH (H : Hp) (len : Int) (y : V) : Prop := ∃ T t, y = V.ref T ∧ H T = some (.tup (t3V t)) ∧ okH len t
def Kn (K : PySem.W.Frag) (H : Hp) (y : V) : Prop := (∃ U, TyOf K H y (.type U) ∧ okT U ∧ U ≠ "tuple") ∨ ∃ T xs, y = V.ref T ∧ H T = some (.tup xs) ∧ ∀ x ∈ xs, ThV K H x
def BdY (K : PySem.W.Frag) (H : Hp) (len : Int) (y : V) : Prop := (∃ U, TyOf K H y (.type U) ∧ okT U ∧ U ≠ "tuple") ∨ ∃ T xs, y = V.ref T ∧ H T = some (.tup xs) ∧ (∀ x ∈ xs, ThV K H x) ∧ ¬ ∃ t, xs = t3V t ∧ okH len t
/-- how many holes there are -/
theorem canon_mxl {hs : List T3} (c : Canon hs) : ∀ h ∈ hs, Mxl (Cov hs) h := fun h hm => c.sep.mem.mp hm
theorem canon_nodup {hs : List T3} (c : Canon hs) : hs.Nodup := c.srt.imp fun {a b} h e => by
  subst e
  unfold lt2 at h
  omega
theorem canon_le {hs ts : List T3} (c : Canon hs) (hc : ∀ tr t, Cov hs tr t ↔ Cov ts tr t) : hs.length ≤ ts.length := by
  have e : Cov hs = Cov ts := funext fun tr => funext fun t => propext (hc tr t)
  have := canon_mxl c
  rw [e] at this
  exact count_le this (canon_nodup c)
end Ro

namespace L2
open PySem PySem.Spec PyProof.Rows
section
variable {X : Cx} {pins : List (Addr × Obj)} {σ : St} {H : Hp} {s : Shared}
end
section
variable {X : Cx}
end
end L2

namespace L2
open PySem PySem.Spec PySem.Calls PyProof.Rows
section
variable {X : Cx} {o i value : Expr} {td ty tv : TE} {pos pos' : Pos}
end
section
variable {X : Cx} {k i : Nat} {f O : Addr} {fd : FuncData} {ps : List Str} {sp : Sp} {dvs : List V} {ds : List Value} {fx cn n : Str} {p np cpos epos hpos pos : Pos} {e : Expr} {es : List Expr} {t : TA} {b0 : Stmt} {suite : List Stmt} {ts : TS}
end
end L2

namespace Ro
open PySem L2 Og
def CE (h1 h2 : List T3) (l1 tr t : Int) : Prop := Cov h1 tr t ∨ Cov h2 tr (t - l1)
def CL (h1 h2 : List T3) (tr t : Int) : Prop := Cov h1 tr t ∨ Cov h2 tr t
theorem cov_app {a b : List T3} {tr t : Int} : Cov (a ++ b) tr t ↔ Cov a tr t ∨ Cov b tr t := by
  constructor
  · rintro ⟨h, hm, r⟩
    rcases List.mem_append.mp hm with hm | hm
    · exact .inl ⟨h, hm, r⟩
    · exact .inr ⟨h, hm, r⟩
  · rintro (⟨h, hm, r⟩ | ⟨h, hm, r⟩)
    · exact ⟨h, List.mem_append_left _ hm, r⟩
    · exact ⟨h, List.mem_append_right _ hm, r⟩
/-- a roll and its spans -/
structure Rl (H : Hp) (r p : Addr) (len : Int) (ts hs : List T3) (ys : List V) (pts : List Int) : Prop where
  ro : RoAt H r len hs
  sp : RlAt H p ts ys
  cn : Canon hs
  cv : ∀ tr t, Cov hs tr t ↔ Cov ts tr t
  ok : ∀ t ∈ ts, okH len t
  pt : ∀ t ∈ ts, t.2.1 ∈ pts ∧ t.2.2 ∈ pts
  l0 : 0 ≤ len
  l1 : len ≤ 1000000000000
  n : ts.length ≤ 31
  np : pts.length ≤ 16
/-- the mixing, told whole -/
def itd : Nat → Int → Int
  | 0, x => x
  | n + 1, x => itd n x / 10 ^ (13 : Int).toNat
def mxV (c b m : Int) : Int :=
  if c ≥ 10 ^ (18 : Int).toNat then itd ((b + c % 10080) % 29).toNat (c / 10080) % 10 ^ (13 : Int).toNat % m
  else ((((c % 1000003 + b) * 48271 % 2147483647) * ((c % 1000003 + b) * 48271 % 2147483647) + b) % 2147483629 * 2147483647 + (((c % 1000003 + b) * 48271 % 2147483647) * ((c % 1000003 + b) * 48271 % 2147483647) + b) % 2147483629 * ((c % 1000003 + b) * 48271 % 2147483647) % 2147483587) / 64 % m
def lenL (c : Int) : List Int := [1 + mxV c 31541 40, 10 ^ (12 : Int).toNat - mxV c 44621 3, c / 3 % (10 ^ (12 : Int).toNat + 1), 2 + mxV c 55051 300]
def lenV (c : Int) : Int := (lenL c).getD (mxV c 27437 4).toNat 0
end Ro
namespace Ro
open PySem L2 Og
structure SpF (H : Hp) (p : Addr) (len : Int) (ts : List T3) (ys : List V) (pts : List Int) : Prop where
  sp : RlAt H p ts ys
  ok : ∀ t ∈ ts, okH len t ∧ t.2.1 ∈ pts ∧ t.2.2 ∈ pts
  np : pts.length ≤ 16
  n : ts.length ≤ 31
structure Pr (H : Hp) (pc ps pr : Addr) (c : Nat → Int) (r p : Nat → Addr) (ts hs : Nat → List T3) (ys : Nat → List V) (pts : Nat → List Int) : Prop where
  cells : H pc = some (.lst [.int (c 0), .int (c 1)])
  spans : H ps = some (.lst [.ref (p 0), .ref (p 1)])
  rolls : H pr = some (.lst [.ref (r 0), .ref (r 1)])
  rl : ∀ k, k < 2 → Rl H (r k) (p k) (lenV (c k)) (ts k) (hs k) (ys k) (pts k)
/-- made anew, behind all that stood there -/
def Fr (H : Hp) (q : Addr) : Prop := ∀ b o, (∀ ps, o ≠ .tbl ps) → H b = some o → b ≠ q
theorem fr_of {B : Tb2} {H H' : Hp} {q : Addr} (k : Kp B H H') (h : H' q = none) : Fr H q := fun b o n e z => by
  have := k b o n e
  rw [z, h] at this
  cases this
def FdAt (H : Hp) (f q : Addr) (len : Int) (hs : List T3) : Prop := ∃ zs, H f = some (.tup [.int len, .ref q]) ∧ RlAt H q hs zs
theorem FdAt.ro {H : Hp} {f q : Addr} {len : Int} {hs : List T3} (h : FdAt H f q len hs) : RoAt H f len hs := by
  obtain ⟨zs, e, A⟩ := h
  exact ⟨q, zs, e, A⟩
theorem FdAt.kp {B : Tb2} {H H' : Hp} {f q : Addr} {len : Int} {hs : List T3} (h : FdAt H f q len hs) (k : Kp B H H') : FdAt H' f q len hs := by
  obtain ⟨zs, e, A⟩ := h
  exact ⟨zs, k.tupO e, RlAt.kp A k⟩
theorem FdAt.updL {H : Hp} {f q l : Addr} {len : Int} {hs : List T3} {us ws : List V} (h : FdAt H f q len hs) (hl : H l = some (.lst us)) (hn : q ≠ l) : FdAt (upd H l (.lst ws)) f q len hs := by
  obtain ⟨zs, e, A⟩ := h
  exact ⟨zs, by rw [upd_ne (ne_of e hl (fun z => by cases z))]; exact e, RlAt.updL A hl hn⟩
end Ro

namespace Wd
open PySem PyProof.Rows
section
variable {prog : Program} {w : World} {A : Around} {E : Value → Shared → Prop} {s : Shared} {a : Addr} {σ : List Int}
theorem sorted_A {Q : Value → Shared → Prop} (hh : A.handled = none) (hS : SetG prog w s.heap a (ledOf w) σ) (hz : σ.length ≤ sizeLine)
    (h : ∀ D h' tk d us c ns, s.heap.objs.size ≤ D → (∀ b o, s.heap.get? b = some o → h'.get? b = some o) → h'.get? D = some { cls := .type "list", data := .seq (List.toArray us) c } → IntsAre us ns → ns.Perm σ → ns.Pairwise (· ≤ ·) → Q (.ref D) { s with heap := h', toks := tk, drawn := d }) :
    wpAny (model prog w) A (call (.builtin "sorted") [.ref a]) Q E s := by
  refine Calls.call_function_entry kind_sorted plain_sorted entry_sorted (args_sorted1 _) ?_
  unfold Builtin.«sorted»
  refine wpAny_bind (m := checkCount "sorted" 1 1 _) (wpAny_pure (wpAny_bind (collect_G (A := A.in1) (by simpa using hh) hS fun h' tk d acc ks k lt i1 i2 => ?_)))
  have len : acc.length ≤ sizeLine := by rw [IntsAre.length i1, i2.length_eq]; exact hz
  have ll := Sx.ints_len i1
  have at' := Sx.ints_at i1
  refine wpAny_bind (wpAny_newList ?_ len)
  have e1 : (h'.push (seqObj "list" acc.toArray 0)).get? h'.objs.size = some (seqObj "list" acc.toArray 0) := Heap.get?_push_size _ rfl
  refine wpAny_bind (wpAny_holding (wpAny_call_entry slot_list_sort ⟨_, e1, rfl⟩ entry_list_sort (Sx.sort_G (blt := Sx.ilt) (d := 0) (ts := ks) (κ := oneType') Sx.ilt_or e1 len ll (fun i j v x y hv hu hx hy => ?_) (fun h6 kk h2 Q q => ?_) (fun h6 kk i j u v x y hu hv hx hy C c => ?_) fun ix pm pw => ⟨_, rfl, ?_⟩) (args_list_sort _)))
  · obtain ⟨t, rfl⟩ := at' i v x hv hx
    obtain ⟨t', e⟩ := at' j _ y hu hy
    cases e
    rfl
  · match acc, i1, h2 with
    | [], _, h2 => simp at h2
    | [_], _, h2 => simp at h2
    | v₁ :: v₂ :: rest, i1, _ =>
      rw [keyKind_ints i1]
      exact wpAny_pure q
  · obtain ⟨t, rfl⟩ := at' i u x hu hx
    obtain ⟨t', rfl⟩ := at' j v y hv hy
    rw [keyLt'_oneType]
    exact oneLt_int c
  · obtain ⟨c, e2⟩ := sortedHeap_at (out := (List.map (fun i => acc.getD i Value.none) ix).toArray) e1
    refine wpAny_pure ⟨_, rfl, h h'.objs.size _ tk d _ c (ix.map fun i => ks.getD i 0) (Nat.le_of_lt lt) (fun b o e => ?_) e2 (Sx.ints_of (by simp) fun i v n hv hn => ?_) ?_ ?_⟩
    · have lb := Heap.lt_size (k b o e)
      rw [sortedHeap_old (Nat.ne_of_lt lb) (by rw [size_push']; exact Nat.lt_succ_of_lt lb)]
      exact Heap.get?_push_of_some _ (k b o e)
    · rw [List.getElem?_map] at hv hn
      cases hi : ix[i]? with
      | none => rw [hi] at hv; cases hv
      | some z =>
        rw [hi] at hv hn
        have hz : z < acc.length := List.mem_range.mp (pm.mem_iff.mp (List.mem_of_getElem? hi))
        have hz' : z < ks.length := by omega
        have e1 : acc.getD z Value.none = acc[z] := by simp [List.getD_eq_getElem?_getD, hz]
        have e2 : ks.getD z 0 = ks[z] := by simp [List.getD_eq_getElem?_getD, hz']
        simp only [Option.map_some, Option.some.injEq] at hv hn
        rw [e1] at hv
        rw [e2] at hn
        exact at' z v n (by rw [← hv]; exact List.getElem?_eq_getElem hz) (by rw [← hn]; exact List.getElem?_eq_getElem hz')
    · have e : (List.range acc.length).map (fun i => ks.getD i 0) = ks := by
        refine List.ext_getElem (by simp [ll]) fun i h1 h2 => ?_
        simp [List.getD_eq_getElem?_getD, h2]
      have q := pm.map (fun i => ks.getD i 0)
      rw [e] at q
      exact q.trans i2
    · rw [List.pairwise_map]
      exact pw.imp fun {i j} e => Int.not_lt.mp (of_decide_eq_false e)
end
end Wd
namespace L2
open PySem PySem.Spec PyProof.Rows
section
variable {X : Cx}
theorem call_sortedS (hc : X.calm = true) : CallR X (.builtin "sorted") (fun xs H Q => ∃ (a : Addr) (τ : List Int), xs = [V.ref a] ∧ H a = some (SetO X.prog X.w a τ) ∧ τ.length ≤ sizeLine ∧ ∀ (p : Addr) (ns : List Int), H p = none → ns.Perm τ → ns.Pairwise (· ≤ ·) → Q (.ref p) (upd H p (.lst (ns.map V.int)))) := by
  intro pins s σ H xs us Q I r h
  obtain ⟨a, τ, rfl, ha, hz, q⟩ := h
  obtain ⟨u, rfl, ru⟩ := vals1 r
  cases ru
  obtain ⟨g, _, _⟩ := (show ObjOk X.prog X.w H s.heap a (SetO X.prog X.w a τ) from I.hok a _ ha)
  refine Wd.sorted_A (I.ok.hd hc) g hz fun D h' tk d us c ns le k e i1 p o => ?_
  have hn : H D = none := I.hok.fresh le
  have hlen : (ns.map V.int).length ≤ sizeLine := by
    rw [List.length_map, p.length_eq]
    exact hz
  exact ⟨.ref D, _, I.laidD (o := .lst (ns.map V.int)) (t' := tk) (d' := d) k le ⟨hlen, us, c, valsI i1, e⟩, rfl, q D ns hn p o⟩
end
end L2

namespace PySem
section
variable {prog : Program} {w : World} {A : Around} {E : Value → Shared → Prop} {s : Shared} {κ : Type} [DecidableEq κ] {knd : KeyKind prog w κ}
end
end PySem

namespace L2
open PySem PySem.Spec PySem.Calls PyProof.Rows
section
variable {X : Cx} {o e f : Expr} {apos cpos : Pos} {td ty tx : TE}
end
end L2

namespace Ro
open PySem L2 Og
def Dif (a b : List T3) (t : Int) : Prop := ¬ ∀ tr, Cov a tr t ↔ Cov b tr t
/-- what first_unlike tells -/
def Fst (a b : List T3) (v : V) : Prop := (v = .non ∧ ∀ T, ¬ Dif a b T) ∨ ∃ T : Int, v = .int T ∧ Dif a b T ∧ ∀ T', T' < T → ¬ Dif a b T'
/-- rolls that are spans drawn out -/
theorem cov_scl {ts : List T3} {k tr T : Int} (hk : 1 ≤ k) : Cov (ts.map (scl k)) tr T ↔ Cov ts tr (T / k) := by
  have k0 : 0 < k := by omega
  constructor
  · rintro ⟨h, hm, e, a, b⟩
    obtain ⟨x, xm, rfl⟩ := List.mem_map.mp hm
    have a : x.2.1 * k ≤ T := a
    have b : T < x.2.2 * k := b
    exact ⟨x, xm, e, (Int.le_ediv_iff_mul_le k0).mpr a, (Int.ediv_lt_iff_lt_mul k0).mpr b⟩
  · rintro ⟨x, xm, e, a, b⟩
    exact ⟨scl k x, List.mem_map.mpr ⟨x, xm, rfl⟩, e, (Int.le_ediv_iff_mul_le k0).mp a, (Int.ediv_lt_iff_lt_mul k0).mp b⟩
def pt (k : Int) (h : T3) : Int := if k = 1 then h.2.1 else h.2.2
end Ro
namespace Ro
open PySem L2 Og
def spOaA : Sp := fun vs H Q _ => ∃ (r : Addr) (len tick : Int) (hs : List T3), vs = [.ref r, .int tick] ∧ RoAt H r len hs ∧ Canon hs ∧ hs.length < 400 ∧
  ∀ (l : Addr) (ms : List Int) (H' : Hp), Same H H' → H' l = some (.lst (ms.map V.int)) → ms.Pairwise (· < ·) → (∀ x, x ∈ ms ↔ Cov hs x tick) → Q (.ref l) H'
theorem dif_of {a b : List T3} {t : Int} {x y : List Int} (hx : x.Pairwise (· < ·)) (hy : y.Pairwise (· < ·)) (mx : ∀ z, z ∈ x ↔ Cov a z t) (my : ∀ z, z ∈ y ↔ Cov b z t) : x = y ↔ ¬ Dif a b t := by
  constructor
  · rintro rfl d
    exact d fun tr => by rw [← mx, ← my]
  · intro h
    have h2 : ∀ tr, Cov a tr t ↔ Cov b tr t := Classical.byContradiction h
    exact int_unique hx hy fun z => by rw [mx, my, h2]
end Ro
namespace Ro
open PySem L2 Og
end Ro
namespace L2
open PySem
end L2
namespace Ro
open PySem L2 Og
end Ro
namespace Ro
open PySem L2 Og
end Ro
namespace Ro
open PySem L2 Og Bw
end Ro

namespace L2
open PySem PySem.Spec PySem.Calls PyProof.Rows
def sTryR (K : PySem.W.Frag) (sp : Sp) (dvs : List V) (t : TA) (O : Addr) (j : Nat) (ts : TS) : TS := fun D σ H => t σ H fun vs H1 => ∃ E : XK, sp (vs ++ dvs) H1 (fun v H2 => D.nx (σ.set j (some v)) H2) E ∧
  ∀ C od H2, E (.ref C) od H2 → PySem.W.mroIn K C (.ref O) = some true ∧ ts D σ H2
section
variable {X : Cx} {k : Nat} {f O : Addr} {fd : FuncData} {ps : List Str} {sp : Sp} {dvs : List V} {ds : List Value} {fx cn : Str} {p np cpos epos hpos pos : Pos} {e : Expr} {es : List Expr} {t : TA} {b0 : Stmt} {suite : List Stmt} {ts : TS}
theorem ps_tryR {y : Str} {j : Nat} {ypos : Pos} (F : FnOk X.prog X.w X.K X.mg X.base (CXW X.prog X.w) k f fd ps sp) (hr : Room k X.A) (hg : Gl X fx) (hm : X.mg fx = some (.ref f)) (hk : PySem.W.keepIn X.K (.ref f) = true) (hb : Binds X.K fd ps ds) (hd : Vals dvs ds)
    (ha : PA X (e :: es) t) (hgO : Gl X cn) (hmO : X.mg cn = some (.ref O)) (qO : PySem.W.excIn X.K O bmV "ValueError.__new__" = true) (hN : X.N.Nodup) (hj : X.N[j]? = some y) (hly : Loc X.env.scope y) (hfy : X.fn y = true ∨ X.env.scope.names.lookup y = some .local)
    (hs : ∀ x, PSs (X.inX x) (b0 :: suite) ts) (hxe : X.xe = fun _ _ => False := by rfl) (hst : X.stack = X.env :: X.outer := by rfl) (hfrm : X.env.frame = some X.env.locals := by rfl)
    (hdb : (fx == ("__debug__" : Str)) = false := by decide) (hdO : (cn == ("__debug__" : Str)) = false := by decide) (he : starEach (e :: es) X.env = (false, eval e X.env) :: starEach es X.env := by rfl) (hpl : (backTo cpos (starEach es X.env)).any (·.1) = false := by rfl)
    (hsw : swapsWith (.Call (.Name fx p) (e :: es) [] cpos) (some (.Name y ypos)) epos.line X.env = pure false := by rfl) :
    PS X (.Try [.Assign [.Name y ypos] (.Call (.Name fx p) (e :: es) [] cpos) epos] [.ExceptHandler (some (.Name cn np)) none (b0 :: suite) hpos] [] [] pos) (sTryR X.K sp dvs t O j ts) := by
  intro pins s σ H D I h
  refine wpAny_Try_except (wpAny_execs_cons (wpAny_Assign_Name (wpAny_Call_Name_kw (ld_glob I hg hm ?_ hdb)) hsw))
  refine PySem.W.callWith_K (h₀ := X.base) I.ok.mod.kin hk (wpAny_mono (ha cpos pins s σ H _ I h) (fun us s1 ⟨vs, H1, I1, r, E, hsp, hE⟩ => ⟨I1.kIn, ?_⟩) fun e' s' h' => ?_) he hpl
  case refine_2 =>
    rw [hxe] at h'
    exact h'.elim
  have r2 : Vals (vs ++ dvs) (us ++ ds) := r.append hd
  have hl : (us ++ ds).length = ps.length := by rw [← r2.length]; exact F.len _ _ _ _ hsp
  refine wpAny_call (codeAny_mono (F.run X.A X.stack s1 H1 ⟨us, []⟩ (us ++ ds) (vs ++ dvs) _ E hr I1.env0 (hb s1 us I1.kIn hl) r2 hsp) fun r s' hq => ?_)
  cases r with
  | ok fl =>
    cases fl with
    | ret u =>
      obtain ⟨v, H', J, rv, q⟩ := I1.after hq
      exact store_ok2 J hN hj hly rv (fun s6 I6 _ => wpAny_execs_nil (wpAny_execs_nil ⟨_, _, I6, q⟩)) hfy
    | next => exact False.elim hq
    | brk => exact False.elim hq
    | cont => exact False.elim hq
  | error e' =>
    obtain ⟨x, T, C, od, H2, rfl, os, bare, y, nx, nT, hx2, hT2, hok2, un2, q⟩ := hq
    obtain ⟨hmro, hts⟩ := hE C od H2 q
    obtain ⟨h1, g, dr, tk, os'⟩ := s'
    obtain rfl : os' = s1.os := os
    have I2 : Inv X pins σ H2 ⟨h1, g, dr, tk, s1.os⟩ := I1.call (h' := h1) (g' := g) (d' := dr) (t' := tk) (ch := []) un2 hok2 bare (fun b z => absurd z (by simp))
    have hfr := I.ok.frames
    have hff := I2.stack
    rw [hst] at hfr hff
    refine note_on (s := ⟨h1, g, dr, tk, s1.os⟩) hfr hff hfrm y fun h3 T3 y3 m3 n3 => ?_
    refine flight_none (s := ⟨h3, g, dr, tk, s1.os⟩) y3 fun h4 y4 m4 => ?_
    have nT3 : s1.heap.get? T3 = none := by
      cases z : s1.heap.get? T3 with
      | none => rfl
      | some o =>
        obtain ⟨o', e'⟩ := un2.there T3 o z (by simp)
        have n3' : h1.get? T3 = none := n3
        rw [n3'] at e'; cases e'
    have hT3 : H2 T3 = none := hok2.none_of n3
    have m3' : Mv (frs X.stack) x T h1 h3 := by rw [hst]; exact m3
    have u3 := un2.mv m3' nx nT (fun b z z' => absurd z z')
    have u4 := u3.mv m4 nx nT3 (fun _ z => nomatch z)
    have k3 : HOk X.prog X.w H2 h3 := hok2.mv m3' hx2 hT2 I2.stkFree
    have k4 : HOk X.prog X.w H2 h4 := k3.mv m4 hx2 hT3 (fun _ z => nomatch z)
    have I4 : Inv X pins σ H2 ⟨h4, g, dr, tk, s1.os⟩ := I1.call (h' := h4) (g' := g) (d' := dr) (t' := tk) (ch := []) u4 k4 bare (fun b z => absurd z (by simp))
    refine wpAny_handleBy_cons (codeAny_handlers_test (ld_glob (I4.inX x) hgO hmO ?_ hdO)) (by intro q; cases q)
    obtain ⟨ws, wt, sl, oT, ex, _⟩ := id y4
    refine exc_matches (s := ⟨h4, g, dr, tk, s1.os⟩) I4.kIn ex qO hmro ?_
    refine codeAny_handlers_suite (flight_none (s := ⟨h4, g, dr, tk, s1.os⟩) y4 fun h5 y5 m5 => ?_)
    have u5 := u4.mv m5 nx nT3 (fun _ z => nomatch z)
    have k5 : HOk X.prog X.w H2 h5 := k4.mv m5 hx2 hT3 (fun _ z => nomatch z)
    have I5 : Inv X pins σ H2 ⟨h5, g, dr, tk, s1.os⟩ := I1.call (h' := h5) (g' := g) (d' := dr) (t' := tk) (ch := []) u5 k5 bare (fun b z => absurd z (by simp))
    refine wpAny_mono (hs x pins _ _ _ _ (I5.inX x) hts) (fun fl s7 h7 => ?_) fun e' s7 h7 => ?_
    · cases fl with
      | next => obtain ⟨σ', H', J, qq⟩ := h7; exact ⟨_, _, J.outX I.ok, qq⟩
      | brk => obtain ⟨σ', H', J, qq⟩ := h7; exact ⟨_, _, J.outX I.ok, qq⟩
      | cont => obtain ⟨σ', H', J, qq⟩ := h7; exact ⟨_, _, J.outX I.ok, qq⟩
      | ret u => obtain ⟨v, σ', H', J, rv, qq⟩ := h7; exact ⟨_, _, _, J.outX I.ok, rv, qq⟩
    · have h7' : X.xe e' s7 := h7
      rw [hxe] at h7'
      exact h7'.elim
end
end L2

namespace L2
open PySem PySem.Spec PySem.Calls PyProof.Rows
def hide2 (z y3 : Str) (N : List Str) : List Str := N.map fun y => if y = z then "" else if y = y3 then " " else y
def cxComp5 (X : Cx) (x z y3 : Str) (scope : Scope) (C : Addr) (s₀ : Shared) (H₀ : Hp) (fp : List Addr) : Cx where
  prog := X.prog
  w := X.w
  K := X.K
  mg := X.mg
  base := X.base
  A := X.A
  N := x :: z :: y3 :: hide2 z y3 X.N
  s₀ := s₀
  H₀ := H₀
  env := compEnvC scope (cloGo X.env scope.names []) C X.env
  outer := X.stack
  stack := X.stack
  ex := fp
  fn := fun _ => false
  calm := X.calm
  pn := []
  xe := fun _ _ => False
structure CompScope5 (X : Cx) (x z y3 : Str) (scope : Scope) : Prop where
  kind : scope.kind = .function
  nocell : ∀ y ∈ scope.names, y.2 ≠ .cell
  names : ∀ y ∈ scope.names, y.2 = .local → scope.names.lookup y.1 = some .local
  loc : scope.names.lookup x = some .local
  loz : scope.names.lookup z = some .local
  lo3 : scope.names.lookup y3 = some .local
  free : ∀ y ∈ scope.names, y.2 = .free → X.env.kindOf y.1 = some .cell ∨ X.env.kindOf y.1 = some .free
  nd : (x :: z :: y3 :: hide2 z y3 X.N).Nodup
  only : ∀ y ∈ hide2 z y3 X.N, scope.names.lookup y ≠ some .local
  noE : scope.names.lookup ("" : Str) = none
  noF : scope.names.lookup (" " : Str) = none
section
variable {X : Cx} {pins : List (Addr × Obj)} {σ : St} {H : Hp} {s : Shared} {x z y3 : Str} {scope : Scope} {fp : List Addr} {C : Addr}
theorem comp_start5 {h' : Heap} {tk : Nat} {m : Str → Option Value} (I : Inv X pins σ H s) (S : CompScope5 X x z y3 scope) (hf : ∀ b ∈ fp, FpOk X pins H b) (hlt : ∀ b ∈ fp, b < s.heap.objs.size) (hC : s.heap.objs.size ≤ C) (hn : h'.Ns C m)
    (hk : ∀ b o, s.heap.get? b = some o → h'.get? b = some o) : Inv (cxComp5 X x z y3 scope C s H fp) [] (none :: none :: none :: σ) H { s with heap := h', toks := tk } := by
  have cl : ∀ y c, (cloGo X.env scope.names []).lookup y = some c → X.env.cells.lookup y = some c := fun y c e => by
    rcases cloGo_sub X.env scope.names [] y c e with z | z
    · cases z
    · exact z
  have cellK : ∀ c v, s.heap.IsCell c v → h'.IsCell c v := fun c v ⟨o, ho, hd⟩ => ⟨o, hk c o ho, hd⟩
  have look : ∀ y, (cxComp5 X x z y3 scope C s H fp).env.scope.names.lookup y = (scope.names.lookup y).map fun k => if (k == NameKind.free && X.env.scope.kind == .function && X.env.kindOf y == some .cell) then NameKind.cell else k := fun y => relabel_lookup X.env y scope.names
  refine ⟨⟨I.ok.mod, S.kind, I.ok.glob, I.ok.blt, hC, fun y z c e1 e2 => I.ok.inj y z c (cl y c e1) (cl z c e2), fun y hy => ?_, fun y c e _ => (by cases e), fun h => I.ok.hd h, I.ok.frames, .inl rfl, fun b hb => ?_, I.bs, Nat.le_trans I.ok.bsz I.sz, fun b o e hb => ?_, fun b hb hb' => ?_, I.stack, I.stkFree⟩,
    rfl, I.bare, Un.kept hk, ⟨m, hn, fun i y v h1 h2 h3 => ?_⟩, fun y c e => ?_, I.hok.fresh hC, fun y c e => I.freeC y c (cl y c e), fun p hp => absurd (show p ∈ ([] : List (Addr × Obj)) from hp) (by simp), I.hok.kept hk, ?_⟩
  · have hy' : (cxComp5 X x z y3 scope C s H fp).env.scope.names.lookup y = some .cell ∨ (cxComp5 X x z y3 scope C s H fp).env.scope.names.lookup y = some .free := hy
    rw [look y] at hy'
    cases e : scope.names.lookup y with
    | none => rw [e] at hy'; rcases hy' with z | z <;> cases z
    | some k =>
      have hm := PySem.mem_of_lookup e
      have hfree : k = .free := by
        rw [e] at hy'
        cases k with
        | free => rfl
        | cell => exact absurd rfl (S.nocell _ hm)
        | _ => rcases hy' with z | z <;> simp at z
      subst hfree
      obtain ⟨c, hc⟩ := I.ok.has y (S.free _ hm rfl)
      exact Option.isSome_iff_exists.mp (cloGo_has X.env scope.names [] y hm (by rw [hc]; rfl))
  · obtain ⟨f0, f1, f2, f3, f4, f5⟩ := hf b hb
    exact ⟨Nat.ne_of_lt (Nat.lt_of_lt_of_le (hlt b hb) hC), fun y c e => f4 y c (cl y c e)⟩
  · obtain ⟨f0, f1, f2, f3, f4, f5⟩ := hf b hb
    rcases f3 with z | z
    · exact I.ok.noex b o e z
    · exact absurd (Nat.lt_of_lt_of_le (Heap.lt_size e) (Nat.le_trans I.ok.bsz z)) (Nat.lt_irrefl _)
  · obtain ⟨f0, f1, f2, f3, f4, f5⟩ := hf b hb
    rcases List.mem_cons.mp (I.stkSub b hb') with e | e
    · exact f1 e
    · exact f2 e
  · match i, h1, h2 with
    | 0, h1, h2 =>
      have h2' : (some none : Option (Option V)) = some (some v) := h2
      cases h2'
    | 1, h1, h2 =>
      have h2' : (some none : Option (Option V)) = some (some v) := h2
      cases h2'
    | 2, h1, h2 =>
      have h2' : (some none : Option (Option V)) = some (some v) := h2
      cases h2'
    | i + 3, h1, h2 =>
      have h1' : (hide2 z y3 X.N)[i]? = some y := h1
      have h2' : σ[i]? = some (some v) := h2
      have hmem : y ∈ hide2 z y3 X.N := List.mem_of_getElem? h1'
      have h3' : (cxComp5 X x z y3 scope C s H fp).env.scope.names.lookup y = some .local ∨ (cxComp5 X x z y3 scope C s H fp).env.scope.names.lookup y = some .cell ∨ (cxComp5 X x z y3 scope C s H fp).env.scope.names.lookup y = some .free := h3
      rw [look y] at h3'
      have e0 : X.N[i]? = some y := by
        unfold hide2 at h1'
        rw [List.getElem?_map] at h1'
        cases e0 : X.N[i]? with
        | none => rw [e0] at h1'; cases h1'
        | some y0 =>
          rw [e0] at h1'
          have h1'' : (if y0 = z then ("" : Str) else if y0 = y3 then (" " : Str) else y0) = y := Option.some.inj h1'
          by_cases q : y0 = z
          · rw [if_pos q] at h1''
            rw [← h1'', S.noE] at h3'
            rcases h3' with z | z | z <;> cases z
          · rw [if_neg q] at h1''
            by_cases q2 : y0 = y3
            · rw [if_pos q2] at h1''
              rw [← h1'', S.noF] at h3'
              rcases h3' with z | z | z <;> cases z
            · rw [if_neg q2] at h1''
              rw [h1'']
      cases e : scope.names.lookup y with
      | none => rw [e] at h3'; rcases h3' with z | z | z <;> cases z
      | some k =>
        have hm := PySem.mem_of_lookup e
        have hfree : k = .free := by
          rw [e] at h3'
          cases k with
          | free => rfl
          | cell => exact absurd rfl (S.nocell _ hm)
          | «local» => exact absurd e (S.only y hmem)
          | _ => rcases h3' with z | z | z <;> simp at z
        subst hfree
        have kd := S.free _ hm rfl
        obtain ⟨m0, hn0, hl0⟩ := I.loc
        obtain ⟨u, r, l⟩ := hl0 i y v e0 h2' (by rcases kd with z | z; exact .inr (.inl z); exact .inr (.inr z))
        refine ⟨u, r, .inr ⟨?_, ?_⟩⟩
        · have hk' : (cxComp5 X x z y3 scope C s H fp).env.scope.names.lookup y = some (if (NameKind.free == NameKind.free && X.env.scope.kind == .function && X.env.kindOf y == some .cell) then NameKind.cell else NameKind.free) := by
            rw [look y, e]; rfl
          by_cases c : (NameKind.free == NameKind.free && X.env.scope.kind == .function && X.env.kindOf y == some .cell) = true
          · rw [if_pos c] at hk'; exact .inl hk'
          · rw [if_neg c] at hk'; exact .inr hk'
        · rcases l with ⟨lk, _⟩ | ⟨_, c, hc, hcell⟩
          · exfalso
            rcases kd with z | z <;> (rw [show X.env.kindOf y = some NameKind.local from lk] at z; cases z)
          · obtain ⟨c', hc'⟩ := Option.isSome_iff_exists.mp (cloGo_has X.env scope.names [] y hm (by rw [hc]; rfl))
            have := cl y c' hc'
            rw [hc] at this
            cases this
            exact ⟨c, hc', cellK c _ hcell⟩
  · obtain ⟨v, z⟩ := I.cell y c (cl y c e)
    exact ⟨v, cellK c v z⟩
  · show (none :: none :: none :: σ).length = (x :: z :: y3 :: hide2 z y3 X.N).length
    simp [hide2, I.len]
end
section
variable {X : Cx} {x z y3 : Str} {scope : Scope}
theorem comp_block5 {tg : Expr} {pos : Pos} {iter elt : Expr} {ifs : List Expr} {g : TG} {tt : TT} {te : TE} {pins : List (Addr × Obj)} {σ : St} {s2 : Shared} {H2 : Hp} {it : Addr} {fp : List Addr} {tn : Nat → Heap → Prop} {J : It} {E : Value → Shared → Prop}
    {RR : Value → Addr → Result → Shared → Prop} {Q : VK}
    (hc : X.calm = true) (S : CompScope5 X x z y3 scope) (hg : ∀ C s₀ H₀ fp, PG (cxComp5 X x z y3 scope C s₀ H₀ fp) tg g) (ht : ∀ C s₀ H₀ fp, PIfs (cxComp5 X x z y3 scope C s₀ H₀ fp) ifs tt) (he : ∀ C s₀ H₀ fp, PE (cxComp5 X x z y3 scope C s₀ H₀ fp) elt te)
    (I2 : Inv X pins σ H2 s2) (T : Turn X.prog X.w X.K tg J fp it tn) (st2 : tn 0 s2.heap) (f2 : ∀ b ∈ fp, FpOk X pins H2 b) (q : CompOk4 J σ H2 Q g tt te)
    (hRR : ∀ D C s' H' m, s'.heap.Ns C m → FpOk X pins H' C → Inv X pins σ H' s' → Q (.ref D) H' → RR (.ref D) C (.ok .next) s') :
    wpAny (model X.prog X.w) X.A (newList []) (fun acc s₃ => wpAny (model X.prog X.w) X.A (newFunctionEnv scope X.env.globals (cloGo X.env scope.names []) [] X.env.qual none .none (some X.env)) (fun cenv s₄ =>
      codeAny (model X.prog X.w) X.A (.compStart (.ListComp elt [⟨tg, iter, ifs, 0⟩] scope pos) 0 (.ref it) acc { cenv with scope := relabel scope X.env }) (RR acc cenv.locals) s₄) E s₃) E s2 := by
  refine wpAny_newObj_type (wpAny_newFunctionEnv S.nocell (by intro y hy; simp at hy) (fun h₁ hns₁ hsb₁ => ?_) S.kind)
  have I3 := I2.lnew (its := []) (ys := []) (t' := s2.toks) .nil (Nat.zero_le _)
  have hD0 : H2 s2.heap.objs.size = none := I2.fresh
  obtain ⟨W, ⟨m0, w0⟩, turn⟩ := q _ hD0
  generalize hs3 : ({ s2 with heap := s2.heap.push { cls := .type "list", data := .seq ([] : List Value).toArray }, toks := s2.toks } : Shared) = s3 at I3
  have e3 : s3.heap = s2.heap.push { cls := .type "list", data := .seq ([] : List Value).toArray } := by rw [← hs3]
  have hlt : ∀ b ∈ fp, b < s2.heap.objs.size := fun b hb => let ⟨_, e, _⟩ := T.obj _ _ st2 b hb; Heap.lt_size e
  have hlt3 : ∀ b ∈ fp, b < s3.heap.objs.size := fun b hb => by rw [e3, Heap.size_push]; exact Nat.lt_succ_of_lt (hlt b hb)
  have f3 : ∀ b ∈ fp, FpOk X pins (upd H2 s2.heap.objs.size (.lst [])) b := fun b hb => ⟨by rw [upd_ne (Nat.ne_of_lt (hlt b hb))]; exact (f2 b hb).1, (f2 b hb).2⟩
  have hk1 : ∀ b o, s3.heap.get? b = some o → h₁.get? b = some o := fun b o e => by
    have hne : b ≠ s3.heap.objs.size := Nat.ne_of_lt (Heap.lt_size e)
    rw [e3] at e hne
    exact hsb₁.extBut b o hne (Heap.get?_push_of_some _ e)
  have hC : s3.heap.objs.size = (s2.heap.push { cls := .type "list", data := .seq ([] : List Value).toArray }).objs.size := by rw [e3]
  have hns : h₁.Ns s3.heap.objs.size (fun x => ([] : List (Str × Value)).reverse.lookup x) := by rw [hC]; exact hns₁
  have st3 : tn 0 h₁ := T.keep _ _ _ st2 fun b hb o e => hk1 b o (by rw [e3]; exact Heap.get?_push_of_some _ e)
  have start : ∀ tk, Inv (cxComp5 X x z y3 scope s3.heap.objs.size s3 (upd H2 s2.heap.objs.size (.lst [])) fp) [] (none :: none :: none :: σ) (upd H2 s2.heap.objs.size (.lst [])) { s3 with heap := h₁, toks := tk } := fun tk =>
    comp_start5 I3 S f3 hlt3 (Nat.le_refl _) hns hk1
  have loop : ∀ tk, codeAny (model X.prog X.w) X.A (.compLoop (.ListComp elt [⟨tg, iter, ifs, 0⟩] scope pos) 0 (.ref it) (.ref s2.heap.objs.size) (compEnvC scope (cloGo X.env scope.names []) s3.heap.objs.size X.env))
      (RR (.ref s2.heap.objs.size) s3.heap.objs.size) { s3 with heap := h₁, toks := tk } := by
    intro tk
    refine loop_go (fun n s' => ∃ i ys v0 v1 v2 H', Inv (cxComp5 X x z y3 scope s3.heap.objs.size s3 (upd H2 s2.heap.objs.size (.lst [])) fp) [] (v0 :: v1 :: v2 :: σ) H' s' ∧ tn i s'.heap ∧ (∀ b ∈ fp, H' b = none) ∧ W i n ys H') rfl ?_ m0
      ⟨0, [], none, none, none, _, start tk, st3, fun b hb => (f3 b hb).1, w0⟩
    rintro n s4 ⟨i, ys, v0, v1, v2, H4, I4, st4, fr4, w4⟩
    have stat : ∀ {H' : Hp}, (∀ b ∈ fp, H' b = none) → ∀ b ∈ fp, FpOk (cxComp5 X x z y3 scope s3.heap.objs.size s3 (upd H2 s2.heap.objs.size (.lst [])) fp) [] H' b := fun hn b hb => by
      refine ⟨hn b hb, (I4.ok.exf b hb).1, I4.ok.exfs b hb, .inl hb, (I4.ok.exf b hb).2, fun p hp => absurd (show p ∈ ([] : List (Addr × Obj)) from hp) (by simp)⟩
    rcases turn i n ys H4 w4 with ⟨stop, qn⟩ | ⟨go, step⟩
    · refine thn (T.done (cxComp5 X x z y3 scope s3.heap.objs.size s3 (upd H2 s2.heap.objs.size (.lst [])) fp) rfl rfl rfl hc i [] s4 (v0 :: v1 :: v2 :: σ) H4 _ I4 (stat fr4) st4 stop) fun r s5 ⟨hr, I5⟩ => ?_
      subst hr
      obtain ⟨m, hn, _⟩ := I5.loc
      refine hRR _ _ s5 H4 m hn (I3.fpOk (Nat.le_refl _) I5.free) (I3.call' (s' := s5) (ch := fp) I5.os I5.base I5.hok I5.bare (fun b hb => ?_)) qn
      obtain ⟨_, g1, _, g3, g4, g5⟩ := f3 b hb
      exact ⟨g3, g1, g4, g5⟩
    · refine thn (T.item (cxComp5 X x z y3 scope s3.heap.objs.size s3 (upd H2 s2.heap.objs.size (.lst [])) fp) rfl rfl rfl hc i [] s4 (v0 :: v1 :: v2 :: σ) H4 _ I4 (stat fr4) st4 go) fun r s5 ⟨u, hr, h5⟩ => ?_
      subst hr
      refine thn h5 fun _ s6 h6 => ?_
      obtain ⟨xv, H6, I6, r6, y6, st6, fr6⟩ := h6
      have I6' := I6.pinned (stat fr6) (T.obj _ _ st6)
      have again : ∀ {s7 : Shared} {H7 : Hp} {ys' : List V} {w0 w1 w2 : Option V}, Inv (cxComp5 X x z y3 scope s3.heap.objs.size s3 (upd H2 s2.heap.objs.size (.lst [])) fp) ([] ++ pinsAt fp s6.heap) (w0 :: w1 :: w2 :: σ) H7 s7 → (∃ m', m' < n ∧ W (i + 1) m' ys' H7) →
          ∃ m, m < n ∧ ∃ i ys v0 v1 v2 H', Inv (cxComp5 X x z y3 scope s3.heap.objs.size s3 (upd H2 s2.heap.objs.size (.lst [])) fp) [] (v0 :: v1 :: v2 :: σ) H' s7 ∧ tn i s7.heap ∧ (∀ b ∈ fp, H' b = none) ∧ W i m ys H' := fun {s7 H7 ys' w0 w1 w2} I7 hw => by
        obtain ⟨m', hm, w7⟩ := hw
        refine ⟨m', hm, i + 1, ys', w0, w1, w2, H7, I7.unpinned, T.keep _ _ _ st6 fun b hb o e => (I7.pin (b, o) (List.mem_append_right _ (List.mem_append_right _ (mem_pinsAt hb e)))).1, fun b hb => ?_, w7⟩
        obtain ⟨o, e, d⟩ := T.obj _ _ st6 b hb
        exact (I7.pin (b, o) (List.mem_append_right _ (List.mem_append_right _ (mem_pinsAt hb e)))).2.1
      refine thnF (hg _ _ _ _ _ s6 (v0 :: v1 :: v2 :: σ) H6 xv u _ I6' r6 (step xv H6 y6 v0 v1 v2)) fun _ s7 ⟨σ7, H7, I7, ⟨w0, w1, w2, e7⟩, q7⟩ => ?_
      subst e7
      refine thnF (ht _ _ _ _ _ s7 (w0 :: w1 :: w2 :: σ) H7 _ I7 q7) fun b s8 ⟨H8, I8, q8⟩ => ?_
      cases b with
      | false =>
        rw [if_neg Bool.false_ne_true] at q8 ⊢
        exact again I8 q8
      | true =>
        rw [if_pos rfl] at q8 ⊢
        refine thnF (he _ _ _ _ _ s8 (w0 :: w1 :: w2 :: σ) H8 _ I8 q8) fun y s9 ⟨yv, H9, I9, r9, hD9, hz9, q9⟩ => ?_
        refine thnF (mt_append (X := cxComp5 X x z y3 scope s3.heap.objs.size s3 (upd H2 s2.heap.objs.size (.lst [])) fp) _ s9 (w0 :: w1 :: w2 :: σ) H9 (.ref s2.heap.objs.size) [yv] (.ref s2.heap.objs.size) [y] (fun _ H' => H' = upd H9 s2.heap.objs.size (.lst (ys ++ [yv]))) I9 rfl (.cons r9 .nil)
          ⟨_, ys, yv, rfl, rfl, hD9, hz9, rfl⟩) fun _ s10 ⟨_, H10, I10, _, e10⟩ => ?_
        subst e10
        exact again I10 q9
  have key := fun tk => codeAny_compStart_list (R := RR (.ref s2.heap.objs.size) s3.heap.objs.size) (loop tk) (T.self X.A 0 { s3 with heap := h₁, toks := tk } (fun it' s' => codeAny (model X.prog X.w) X.A (.compLoop (.ListComp elt [⟨tg, iter, ifs, 0⟩] scope pos) 0 it' (.ref s2.heap.objs.size) (compEnvC scope (cloGo X.env scope.names []) s3.heap.objs.size X.env)) (RR (.ref s2.heap.objs.size) s3.heap.objs.size) s') _ st3 (loop tk))
  subst hs3
  exact key _
end
def compChk5 (x z y3 : Str) (scope osc : Scope) (N : List Str) : Bool :=
  (scope.kind == .function) && scope.names.all (fun y => y.2 != .cell && (y.2 != .local || scope.names.lookup y.1 == some .local) && (y.2 != .free || osc.names.lookup y.1 == some .cell || osc.names.lookup y.1 == some .free)) && (scope.names.lookup x == some .local) && (scope.names.lookup z == some .local) && (scope.names.lookup y3 == some .local) &&
  decide ((x :: z :: y3 :: hide2 z y3 N).Nodup) && (hide2 z y3 N).all (fun y => scope.names.lookup y != some .local) && (scope.names.lookup ("" : Str) == none) && (scope.names.lookup (" " : Str) == none)
theorem compScope5 {X : Cx} {x z y3 : Str} {scope osc : Scope} {N : List Str} (hsc : X.env.scope = osc) (hN : X.N = N) (h : compChk5 x z y3 scope osc N = true) : CompScope5 X x z y3 scope := by
  unfold compChk5 at h
  simp only [Bool.and_eq_true] at h
  obtain ⟨⟨⟨⟨⟨⟨⟨⟨h1, h2⟩, h3⟩, h3'⟩, h3x⟩, h4⟩, h5⟩, h6⟩, h7⟩ := h
  rw [List.all_eq_true] at h2 h5
  have kind : ∀ y, X.env.kindOf y = osc.names.lookup y := fun y => by show X.env.scope.names.lookup y = _; rw [hsc]
  refine ⟨by simpa using h1, fun y hy => ?_, fun y hy hk => ?_, by simpa using h3, by simpa using h3', by simpa using h3x, fun y hy hk => ?_, by rw [hN]; exact of_decide_eq_true h4, fun y hy => ?_, by simpa using h6, by simpa using h7⟩
  · have := h2 y hy
    simp only [Bool.and_eq_true, bne_iff_ne] at this
    exact this.1.1
  · have := h2 y hy
    simp only [Bool.and_eq_true] at this
    simpa [hk] using this.1.2
  · have := h2 y hy
    simp only [Bool.and_eq_true] at this
    rw [kind]
    simpa [hk] using this.2
  · have := h5 y (by rw [← hN]; exact hy)
    simpa using this
section
variable {X : Cx} {x z y3 : Str} {scope : Scope}
theorem pg_tri5 {px pz p3 pos : Pos} {k : Nat} {C : Addr} {s₀ : Shared} {H₀ : Hp} {fp : List Addr} (hc : X.calm = true) (S : CompScope5 X x z y3 scope) :
    PG (cxComp5 X x z y3 scope C s₀ H₀ fp) (.Tuple [.Name x px, .Name z pz, .Name y3 p3] k pos) (gTup X.K 3 (gCons (gName 0) (gCons (gName 1) (gCons (gName 2) gNil)))) := by
  have l1 : (cxComp5 X x z y3 scope C s₀ H₀ fp).env.scope.names.lookup x = some .local := lookup_relabel_local S.loc
  have l2 : (cxComp5 X x z y3 scope C s₀ H₀ fp).env.scope.names.lookup z = some .local := lookup_relabel_local S.loz
  have l3 : (cxComp5 X x z y3 scope C s₀ H₀ fp).env.scope.names.lookup y3 = some .local := lookup_relabel_local S.lo3
  exact pg_tup (X := cxComp5 X x z y3 scope C s₀ H₀ fp) (n := 3) hc (pgs_cons (pg_name (X := cxComp5 X x z y3 scope C s₀ H₀ fp) (i := 0) S.nd rfl (.inl l1) (.inr l1)) (pgs_cons (pg_name (X := cxComp5 X x z y3 scope C s₀ H₀ fp) (i := 1) S.nd rfl (.inl l2) (.inr l2)) (pgs_cons (pg_name (X := cxComp5 X x z y3 scope C s₀ H₀ fp) (i := 2) S.nd rfl (.inl l3) (.inr l3)) pgs_nil)))
end
section
variable {X : Cx} {x z y3 : Str} {scope : Scope}
/-- y = [elt for x in iter if ..] -/
theorem ps_tri5 {i : Nat} {y : Str} {px pz p3 tpos py pos spos : Pos} {kk : Nat} {iter elt : Expr} {ifs : List Expr} {wi : TI} {tt : TT} {te : TE} (hN : X.N.Nodup) (hi' : X.N[i]? = some y) (hy : X.env.scope.names.lookup y = some .local) (hc : X.calm = true) (S : CompScope5 X x z y3 scope) (hi : PI X (.Tuple [.Name x px, .Name z pz, .Name y3 p3] kk tpos) iter wi)
    (ht : ∀ C s₀ H₀ fp, PIfs (cxComp5 X x z y3 scope C s₀ H₀ fp) ifs tt) (he : ∀ C s₀ H₀ fp, PE (cxComp5 X x z y3 scope C s₀ H₀ fp) elt te) (hsw : swapsWith (.ListComp elt [⟨.Tuple [.Name x px, .Name z pz, .Name y3 p3] kk tpos, iter, ifs, 0⟩] scope pos) (some (.Name y py)) spos.line X.env = pure true := by rfl) (hs : ∀ x, foldedSetIterable iter X.env x = pure x := by intro _; rfl) :
    PS X (.Assign [.Name y py] (.ListComp elt [⟨.Tuple [.Name x px, .Name z pz, .Name y3 p3] kk tpos, iter, ifs, 0⟩] scope pos) spos) (tAsg (tComp4 wi (gTup X.K 3 (gCons (gName 0) (gCons (gName 1) (gCons (gName 2) gNil)))) tt te) (gName i)) := by
  intro pins s σ H D' I h
  rw [exec_Assign_Name_used _ _ _ _ hsw]
  refine wpAny_bind (wpAny_standAt (wpAny_bind ?_))
  show wpAny _ X.A (do let _ ← comprehension (.ListComp elt [⟨.Tuple [.Name x px, .Name z pz, .Name y3 p3] kk tpos, iter, ifs, 0⟩] scope pos) scope X.env _ (newList []) false (eval iter X.env) (some (assign (.Name y py) X.env))) _ _ s
  refine wpAny_bind (wpAny_mono (wpAny_comprehension_free (use := some (assign (.Name y py) X.env)) (cl := cloGo X.env scope.names []) (Q := fun _ s' => SP X pins D' .next s') rfl hs (closure_ok fun y hy hk => I.ok.has y.1 (S.free y hy hk)) S.kind S.names
    (thn (hi pins s σ H _ I h) fun v s1 h1 => thn h1 fun itv s2 h2 => ?_)) (fun _ s' hq => wpAny_pure (wpAny_pure hq)) fun _ _ e => e)
  obtain ⟨it, fp, tn, J, H2, e, I2, T, st2, f2, q⟩ := h2
  subst e
  refine comp_block5 (RR := fun acc C => compPost (model X.prog X.w) X.A X.xe (some (assign (.Name y py) X.env)) (fun _ s' => SP X pins D' .next s') acc C) (Q := fun x H1 => gName i x σ H1 D'.nx) hc S (fun _ _ _ _ => pg_tri5 hc S) ht he I2 T st2 f2 q ?_
  intro D C s' H' m hn hf hI hq
  show wpAny _ X.A (assign (.Name y py) X.env (.ref D)) _ _ _
  refine wpAny_assign_Name (store_ok2 hI hN hi' (.inl hy) (v := .ref D) rfl (fun s6 I6 hch => ?_) (.inr hy))
  obtain ⟨a, sb, ha⟩ := hch
  have hCa : C ≠ a := by
    rcases ha with z | z
    · rw [z]; exact hf.2.1
    · exact Ne.symm (hf.2.2.2.2.1 y a z)
  exact ⟨m, hn.sameBut sb hCa, fun h' sb' => ⟨_, H', I6.sameBut hf sb', hq⟩⟩
end
end L2

namespace Ro
open PySem L2 Og
/-- the law's holes, without a bound on the points -/
def spLhS (B : Tb2) : Sp := fun vs H Q _ => ∃ (a : Addr) (ts : List T3) (ys : List V), vs = [.ref a] ∧ RlAt H a ts ys ∧ ys.length < 64 ∧ (∀ t ∈ ts, t.2.1 < t.2.2) ∧ Tb B H ∧
  ∀ (p : Addr) (hs : List T3) (zs : List V) (H' : Hp), Fr H p → Kp B H H' → Tb B H' → RlAt H' p hs zs → Canon hs → (∀ tr t, Cov hs tr t ↔ Cov ts tr t) → Q (.ref p) H'
/-- two rolls made one, few holes -/
def spEe7 (c0 : Addr) (B : Tb2) : Sp := fun vs H Q E => ∃ (r1 r2 : Addr) (l1 l2 : Int) (h1 h2 : List T3), vs = [.ref r1, .ref r2] ∧ RoAt H r1 l1 h1 ∧ RoAt H r2 l2 h2 ∧ h1.length + h2.length < 400 ∧ (∀ t ∈ h1, t.2.1 < t.2.2) ∧ (∀ t ∈ h2, t.2.1 < t.2.2) ∧ Tb B H ∧
  ((1000000000000 < l1 + l2 ∧ ∀ H', Same H H' → E (.ref c0) none H') ∨ (l1 + l2 ≤ 1000000000000 ∧ ∀ (r : Addr) (hs : List T3) (H' : Hp), Kp B H H' → Tb B H' → RoF H H' r (l1 + l2) hs → Canon hs → (∀ tr t, Cov hs tr t ↔ CE h1 h2 l1 tr t) → Q (.ref r) H'))
def spLo7 (B : Tb2) : Sp := fun vs H Q _ => ∃ (r1 r2 : Addr) (l1 l2 : Int) (h1 h2 : List T3), vs = [.ref r1, .ref r2] ∧ RoAt H r1 l1 h1 ∧ RoAt H r2 l2 h2 ∧ h1.length + h2.length < 400 ∧ (∀ t ∈ h1, t.2.1 < t.2.2) ∧ (∀ t ∈ h2, t.2.1 < t.2.2) ∧ l1 ≤ 1000000000000 ∧ l2 ≤ 1000000000000 ∧ Tb B H ∧
  ∀ (r : Addr) (hs : List T3) (H' : Hp), Kp B H H' → Tb B H' → RoF H H' r (max l1 l2) hs → Canon hs → (∀ tr t, Cov hs tr t ↔ CL h1 h2 tr t) → Q (.ref r) H'
/-- in a list cut -/
theorem cutV_mem {xs : List V} {lo hi : Option Int} {y : V} (h : y ∈ cutV xs lo hi) : y ∈ xs := by
  unfold cutV at h
  exact List.mem_of_mem_drop (List.mem_of_mem_take h)
def spOs : Sp := fun vs H Q _ => ∃ (r p : Addr) (len : Int) (hs : List T3) (zs : List V), vs = [.ref r, .ref p] ∧ RoAt H r len hs ∧ RlAt H p hs zs ∧ Canon hs ∧ hs.length < 400 ∧ ∀ H', Same H H' → Q (.bl true) H'
/-- a roll, and its spans beside it -/
structure R7 (H : Hp) (r p : Addr) (len : Int) (ts hs : List T3) (ys : List V) : Prop where
  ro : RoAt H r len hs
  sp : RlAt H p ts ys
  cn : Canon hs
  cv : ∀ tr t, Cov hs tr t ↔ Cov ts tr t
  ok : ∀ t ∈ ts, okH len t
  l0 : 0 ≤ len
  l1 : len ≤ 1000000000000
theorem R7.kp {B : Tb2} {H H' : Hp} {r p : Addr} {len : Int} {ts hs : List T3} {ys : List V} (h : R7 H r p len ts hs ys) (k : Kp B H H') : R7 H' r p len ts hs ys :=
  ⟨h.ro.kp k, RlAt.kp h.sp k, h.cn, h.cv, h.ok, h.l0, h.l1⟩
def No7 (len l1 : Int) : Prop := 1000000000000 < len + l1 ∨ 1000000000000 < len * 4
def spNx (c0 : Addr) (B : Tb2) : Sp := fun vs H Q E => ∃ (r p r1 p1 : Addr) (len l1 c : Int) (ts hs t1 h1 : List T3) (ys y1 : List V), vs = [.ref r, .ref p, .ref r1, .ref p1, .int c] ∧ R7 H r p len ts hs ys ∧ R7 H r1 p1 l1 t1 h1 y1 ∧ hs.length ≤ 56 ∧ (ts.length ≤ 16 ∨ ts.length = hs.length) ∧ t1.length ≤ 16 ∧ Tb B H ∧
  (No7 len l1 → ∀ H', Same H H' → E (.ref c0) none H') ∧
  ∀ (T r' p' : Addr) (len' : Int) (ts' hs' : List T3) (ys' : List V) (H' : Hp), Kp B H H' → Tb B H' → H' T = some (.tup [.ref r', .int len', .ref p']) → R7 H' r' p' len' ts' hs' ys' → RoF H H' r' len' hs' → ts'.length ≤ 56 → Q (.ref T) H'
def spDd (B : Tb2) : Sp := fun vs H Q _ => ∃ (r p r1 p1 : Addr) (len l1 c : Int) (ts hs t1 h1 : List T3) (ys y1 : List V), vs = [.ref r, .ref p, .ref r1, .ref p1, .int c] ∧ R7 H r p len ts hs ys ∧ R7 H r1 p1 l1 t1 h1 y1 ∧ hs.length ≤ 56 ∧ (ts.length ≤ 16 ∨ ts.length = hs.length) ∧ t1.length ≤ 16 ∧ Tb B H ∧
  ∀ (T r' p' : Addr) (len' : Int) (ts' hs' : List T3) (ys' : List V) (b : Bool) (H' : Hp), Kp B H H' → Tb B H' → H' T = some (.tup [.ref r', .int len', .ref p', .bl b]) → R7 H' r' p' len' ts' hs' ys' → ((r' = r ∧ len' = len ∧ hs' = hs) ∨ RoF H H' r' len' hs') → ts'.length ≤ 56 → (b = true → No7 len l1) → Q (.ref T) H'
end Ro

namespace Ro
open PySem L2 Og
theorem both0 {G K : Prop} (h1 : K → G) (h2 : K) : G := h1 h2
theorem both02 {G K1 K2 : Prop} (P : Prop) (h1 : K1 → (P → K2) → G) (h2 : K1) (h3 : P → K2) : G := h1 h2 h3
theorem RoF.on {B : Tb2} {H H1 H2 : Hp} {r : Addr} {len : Int} {hs : List T3} (h : RoF H H1 r len hs) (s : Kp B H1 H2) : RoF H H2 r len hs := by
  obtain ⟨p, zs, f, e, A⟩ := h
  exact ⟨p, zs, f, s.tupO e, RlAt.kp A s⟩
theorem RoF.from {H0 H H1 : Hp} {r : Addr} {len : Int} {hs : List T3} (s : Same H0 H) (h : RoF H H1 r len hs) : RoF H0 H1 r len hs := by
  obtain ⟨p, zs, f, e, A⟩ := h
  exact ⟨p, zs, s.free f, e, A⟩
theorem lcut_ok {ts : List T3} {len lo hi : Int} (ok : ∀ t ∈ ts, okH len t) : ∀ t ∈ (ts.filter (lc lo hi)).map (lf lo hi), okH (hi - lo) t := fun t ht => by
  obtain ⟨x, xm, rfl⟩ := List.mem_map.mp ht
  obtain ⟨xm, hc⟩ := List.mem_filter.mp xm
  have hc := of_decide_eq_true hc
  obtain ⟨o1, o2, o3, o4, o5⟩ := ok x xm
  refine ⟨o1, o2, ?_, ?_, ?_⟩
  · show 0 ≤ max x.2.1 lo - lo; omega
  · show max x.2.1 lo - lo < min x.2.2 hi - lo; omega
  · show min x.2.2 hi - lo ≤ hi - lo; omega
theorem join_ok {a b : List T3} {l1 l2 : Int} (h1 : 0 ≤ l1) (h2 : 0 ≤ l2) (oa : ∀ t ∈ a, okH l1 t) (ob : ∀ t ∈ b, okH l2 t) : ∀ t ∈ a ++ b.map (mov l1), okH (l1 + l2) t := fun t ht => by
  rcases List.mem_append.mp ht with ht | ht
  · obtain ⟨o1, o2, o3, o4, o5⟩ := oa t ht
    exact ⟨o1, o2, o3, o4, by omega⟩
  · obtain ⟨x, xm, rfl⟩ := List.mem_map.mp ht
    obtain ⟨o1, o2, o3, o4, o5⟩ := ob x xm
    refine ⟨o1, o2, ?_, ?_, ?_⟩
    · show 0 ≤ x.2.1 + l1; omega
    · show x.2.1 + l1 < x.2.2 + l1; omega
    · show x.2.2 + l1 ≤ l1 + l2; omega
theorem over_ok {a b : List T3} {l1 l2 : Int} (oa : ∀ t ∈ a, okH l1 t) (ob : ∀ t ∈ b, okH l2 t) : ∀ t ∈ a ++ b, okH (max l1 l2) t := fun t ht => by
  rcases List.mem_append.mp ht with ht | ht
  · obtain ⟨o1, o2, o3, o4, o5⟩ := oa t ht
    exact ⟨o1, o2, o3, o4, by omega⟩
  · obtain ⟨o1, o2, o3, o4, o5⟩ := ob t ht
    exact ⟨o1, o2, o3, o4, by omega⟩
theorem scl_ok {a : List T3} {len k : Int} (hk : 1 ≤ k) (oa : ∀ t ∈ a, okH len t) : ∀ t ∈ a.map (scl k), okH (len * k) t := fun t ht => by
  obtain ⟨x, xm, rfl⟩ := List.mem_map.mp ht
  obtain ⟨o1, o2, o3, o4, o5⟩ := oa x xm
  have k0 : 0 ≤ k := by omega
  exact ⟨o1, o2, Int.mul_nonneg o3 k0, Int.mul_lt_mul_of_pos_right o4 (by omega), Int.mul_le_mul_of_nonneg_right o5 k0⟩
theorem join_cov {a b c d : List T3} {l1 : Int} (h1 : ∀ tr t, Cov a tr t ↔ Cov c tr t) (h2 : ∀ tr t, Cov b tr t ↔ Cov d tr t) (tr t : Int) : CE a b l1 tr t ↔ Cov (c ++ d.map (mov l1)) tr t := by
  rw [cov_app, cov_mov, ← h1, ← h2]
  exact Iff.rfl
theorem part_cov {a b : List T3} {lo hi : Int} (h1 : ∀ tr t, Cov a tr t ↔ Cov b tr t) (tr t : Int) : PCov a lo hi tr t ↔ Cov ((b.filter (lc lo hi)).map (lf lo hi)) tr t := by
  rw [cov_lcut]
  unfold PCov
  rw [h1]
theorem step_ints16 (ns : List Int) {lo : Int} (l0 : 0 ≤ lo) : ∃ ms : List Int, stepV (ns.map V.int) (some lo) (some (lo + 32)) 2 = ms.map V.int ∧ ms.length ≤ 16 := by
  have hl : (stepV (ns.map V.int) (some lo) (some (lo + 32)) 2).length ≤ 16 := by
    generalize ns.map V.int = xs
    unfold stepV
    refine Nat.le_trans (List.length_filterMap_le _ _) ?_
    unfold sliceRange
    rw [List.length_map, List.length_range]
    have e : sliceBounds (some lo) (some (lo + 32)) (some 2) xs.length = (max 0 (min lo (xs.length : Int)), max 0 (min (lo + 32) (xs.length : Int)), 2) := by
      unfold sliceBounds
      simp only [Option.getD_some, if_pos (show (2 : Int) > 0 by decide), if_neg (show ¬ (lo < 0) by omega), if_neg (show ¬ (lo + 32 < 0) by omega)]
    rw [e]
    simp only [if_pos (show (2 : Int) > 0 by decide)]
    split <;> omega
  have hm : ∀ y ∈ stepV (ns.map V.int) (some lo) (some (lo + 32)) 2, ∃ c : Int, y = .int c := fun y hy => by
    obtain ⟨c, _, e⟩ := List.mem_map.mp (stepV_mem hy)
    exact ⟨c, e.symm⟩
  generalize stepV (ns.map V.int) (some lo) (some (lo + 32)) 2 = l at hl hm
  have key : ∀ l : List V, (∀ y ∈ l, ∃ c : Int, y = .int c) → ∃ ms : List Int, l = ms.map V.int := fun l => by
    induction l with
    | nil => exact fun _ => ⟨[], rfl⟩
    | cons x l ih =>
      intro hm
      obtain ⟨c, rfl⟩ := hm x (List.mem_cons_self ..)
      obtain ⟨ms, rfl⟩ := ih fun y hy => hm y (List.mem_cons_of_mem _ hy)
      exact ⟨c :: ms, rfl⟩
  obtain ⟨ms, rfl⟩ := key l hm
  exact ⟨ms, rfl, by rw [List.length_map] at hl; exact hl⟩
theorem R7.ln {H : Hp} {r p : Addr} {len : Int} {ts hs : List T3} {ys : List V} (h : R7 H r p len ts hs ys) : ts.length = ys.length := h.sp.len
theorem R7.upd {H : Hp} {r p q L : Addr} {len : Int} {ts hs : List T3} {ys us ws : List V} (h : R7 H r p len ts hs ys) (f : FdAt H r q len hs) (hL : H L = some (.lst us)) (n1 : p ≠ L) (n2 : q ≠ L) : R7 (upd H L (.lst ws)) r p len ts hs ys :=
  ⟨(f.updL hL n2).ro, RlAt.updL h.sp hL n1, h.cn, h.cv, h.ok, h.l0, h.l1⟩
/-- a roll that is held, its ticks and its holes -/
def Hd7 (H : Hp) (L : Addr) (x : V) : Prop := ∃ (T r q p : Addr) (len : Int) (hs : List T3) (zs : List V), x = .ref T ∧ H T = some (.tup [.ref r, .int len, .ref p]) ∧ FdAt H r q len hs ∧ q ≠ L ∧ RlAt H p hs zs ∧ p ≠ L
theorem Hd7.kp {B : Tb2} {H H' : Hp} {L : Addr} {x : V} (h : Hd7 H L x) (k : Kp B H H') : Hd7 H' L x := by
  obtain ⟨T, r, q, p, len, hs, zs, e, hT, f, n1, A, n2⟩ := h
  exact ⟨T, r, q, p, len, hs, zs, e, k.tupO hT, f.kp k, n1, RlAt.kp A k, n2⟩
theorem Hd7.upd {H : Hp} {L : Addr} {x : V} {us ws : List V} (h : Hd7 H L x) (hL : H L = some (.lst us)) : Hd7 (upd H L (.lst ws)) L x := by
  obtain ⟨T, r, q, p, len, hs, zs, e, hT, f, n1, A, n2⟩ := h
  refine ⟨T, r, q, p, len, hs, zs, e, ?_, f.updL hL n1, n1, RlAt.updL A hL n2, n2⟩
  rw [upd_ne fun z => by rw [z, hL] at hT; cases hT]
  exact hT
end Ro

namespace L2
open PySem PySem.Spec PyProof.Rows
section
variable {X : Cx} {o e f : Expr} {apos cpos : Pos} {td ty tx : TE}
end
end L2
namespace L2
open PySem PySem.Spec PyProof.Rows
theorem ps_setE {X : Cx} {x : Str} {e : Expr} {te : TE} {pos' pos : Pos} (i : Nat) (hN : X.N.Nodup) (hi : X.N[i]? = some x) (hx : Loc X.env.scope x) (he : PE X e te) (hs : swapsWith e (some (.Name x pos')) pos.line X.env = pure false) (hf : X.fn x = true ∨ X.env.scope.names.lookup x = some .local) :
    PS X (.Assign [.Name x pos'] e pos) (tAsg te (gName i)) := ps_set hN hi hx he hs hf
end L2
namespace L2
open PySem PySem.Spec PyProof.Rows
theorem pa_c {X : Cx} {e : Expr} {es : List Expr} {te : TE} {t : TA} (h : starEach (e :: es) X.env = (false, eval e X.env) :: starEach es X.env) (he : PE X e te) (ht : PA X es t) : PA X (e :: es) (tCons te t) := pa_cons he ht h
end L2
namespace L2
open PySem PySem.Spec PyProof.Rows
end L2

section PartK57
set_option maxHeartbeats 800000
namespace K57
open PySem L2 Og Bw Ro
def top (i : Nat) : Stmt := PySem.Challenge.pw_windchest_k57_whole_rolls.main.body.getD i (.Pass ⟨0, 0, 0, 0⟩)
abbrev sWh : Stmt := top 4
abbrev sMb : Stmt := top 7
abbrev sIl : Stmt := top 12
abbrev sHw : Stmt := top 13
abbrev sAh : Stmt := top 14
abbrev sHo : Stmt := top 15
abbrev sFh : Stmt := top 17
abbrev sRf : Stmt := top 18
abbrev sRo : Stmt := top 19
abbrev sIr : Stmt := top 16
abbrev sOa : Stmt := top 20
abbrev sCa : Stmt := top 27
abbrev sLw : Stmt := top 28
abbrev sMx : Stmt := top 29
abbrev sLe : Stmt := top 30
abbrev sPo : Stmt := top 31
abbrev sSa : Stmt := top 32
abbrev sSs : Stmt := top 33
abbrev sCv : Stmt := top 34
abbrev sLh : Stmt := top 35
abbrev sIs : Stmt := top 36
abbrev sSl : Stmt := top 25
abbrev sMv : Stmt := top 21
abbrev sRp : Stmt := top 22
abbrev sEe : Stmt := top 23
abbrev sC7 : Stmt := top 37
abbrev sLo : Stmt := top 24
abbrev sM7 : Stmt := top 38
abbrev sNx : Stmt := top 39
abbrev sDd : Stmt := top 40
abbrev sOs : Stmt := top 41
abbrev sLaw : Stmt := top 42
structure Txt (K : PySem.W.Frag) (mg : Str → Option Value) : Prop where
  len : mg "len" = none
  isin : mg "isinstance" = none
  int : mg "int" = none
  bool : mg "bool" = none
  tuple : mg "tuple" = none
  range : mg "range" = none
  max : mg "max" = none
  min : mg "min" = none
  list : mg "list" = none
  sorted : mg "sorted" = none
  set : mg "set" = none
  all : mg "all" = none
  cMEMBERS_BELOW : ∃ t, mg "MEMBERS_BELOW" = some (.int 1200 t)
  cMOST_TICKS : ∃ t, mg "MOST_TICKS" = some (.int 1000000000000 t)
  cMOST_HOLES : ∃ t, mg "MOST_HOLES" = some (.int 400 t)
  cMOST_TIMES : ∃ t, mg "MOST_TIMES" = some (.int 1000 t)
abbrev tb (P1 P2 : Addr) : Tb2 := ⟨P1, P2, ⟨33, 29, 33, 60⟩, ⟨123, 39, 123, 85⟩, "holes_of" ++ ".<locals>." ++ "<lambda>", "_law_holes" ++ ".<locals>." ++ "<lambda>"⟩
def names : List Str := ["NoRoll"]
def allB (K : PySem.W.Frag) (C : Addr) (cs : List Addr) (cO : Addr) : Bool := PySem.W.excIn K C bmV "ValueError.__new__" && (PySem.W.mroIn K C (.ref C) == some true)
structure Own (K : PySem.W.Frag) (mg : Str → Option Value) (C : Addr) (cs : List Addr) (cO : Addr) : Prop where
  m : ∀ j D, (C :: cs)[j]? = some D → mg (names.getD j "") = some (.ref D)
  ex : PySem.W.excIn K C bmV "ValueError.__new__" = true
  mro0 : PySem.W.mroIn K C (.ref C) = some true
theorem own_of {K : PySem.W.Frag} {mg : Str → Option Value} {C cO : Addr} {cs : List Addr} (h : allB K C cs cO = true) (h2 : ∀ j D, (C :: cs)[j]? = some D → mg (names.getD j "") = some (.ref D)) : Own K mg C cs cO := by
  unfold allB at h
  simp only [Bool.and_eq_true, beq_iff_eq] at h
  exact ⟨h2, h.1, h.2⟩
structure Fns (K : PySem.W.Frag) (mg : Str → Option Value) (c1 c2 fWh fMb fIl fHw fAh fHo fFh fRf fRo fIr fOa fCa fLw fMx fLe fPo fSa fSs fCv fLh fIs fSl fMv fRp fEe fC7 fLo fM7 fNx fDd fOs : Addr) (dWh dMb dIl dHw dAh dHo dFh dRf dRo dIr dOa dCa dLw dMx dLe dPo dSa dSs dCv dLh dIs dSl dMv dRp dEe dC7 dLo dM7 dNx dDd dOs : FuncData) : Prop where
  FWh : Fun K "is_whole" "is_whole" sWh fWh dWh
  FMb : Fun K "may_be_member" "may_be_member" sMb fMb dMb
  FIl : Fun K "is_length" "is_length" sIl fIl dIl
  FHw : Fun K "is_hole_within" "is_hole_within" sHw fHw dHw
  FAh : Fun K "are_holes_within" "are_holes_within" sAh fAh dAh
  FHo : FunL K "holes_of" "holes_of" sHo fHo dHo c1
  FFh : Fun K "few_holes_of" "few_holes_of" sFh fFh dFh
  FRf : Fun K "roll_from" "roll_from" sRf fRf dRf
  FRo : Fun K "roll_of" "roll_of" sRo fRo dRo
  FIr : Fun K "is_roll" "is_roll" sIr fIr dIr
  FOa : Fun K "open_at" "open_at" sOa fOa dOa
  FCa : Fun K "_law_cell_at" "_law_cell_at" sCa fCa dCa
  FLw : Fun K "_law_whole" "_law_whole" sLw fLw dLw
  FMx : Fun K "_law_mix" "_law_mix" sMx fMx dMx
  FLe : Fun K "_law_length" "_law_length" sLe fLe dLe
  FPo : Fun K "_law_points" "_law_points" sPo fPo dPo
  FSa : Fun K "_law_span" "_law_span" sSa fSa dSa
  FSs : Fun K "_law_spans" "_law_spans" sSs fSs dSs
  FCv : Fun K "_law_covered" "_law_covered" sCv fCv dCv
  FLh : FunL K "_law_holes" "_law_holes" sLh fLh dLh c2
  FIs : Fun K "_law_is" "_law_is" sIs fIs dIs
  FSl : Fun K "slowed_by" "slowed_by" sSl fSl dSl
  FMv : Fun K "moved" "moved" sMv fMv dMv
  FRp : Fun K "roll_part" "roll_part" sRp fRp dRp
  FEe : Fun K "end_to_end" "end_to_end" sEe fEe dEe
  FC7 : Fun K "_law_cut" "_law_cut" sC7 fC7 dC7
  FLo : Fun K "laid_over" "laid_over" sLo fLo dLo
  FM7 : Fun K "_law_moved" "_law_moved" sM7 fM7 dM7
  FNx : Fun K "_law_next" "_law_next" sNx fNx dNx
  FDd : Fun K "_law_deed" "_law_deed" sDd fDd dDd
  FOs : Fun K "_law_opens" "_law_opens" sOs fOs dOs
  bWh : Binds K dWh ["thing"] []
  bMb : Binds K dMb ["thing"] []
  bIl : Binds K dIl ["thing"] []
  bHw : Binds K dHw ["thing", "length"] []
  bAh : Binds K dAh ["thing", "length"] []
  bHo : Binds K dHo ["spans"] []
  bFh : Binds K dFh ["spans"] []
  bRf : Binds K dRf ["length", "spans"] []
  bRo : Binds K dRo ["length", "spans"] []
  bIr : Binds K dIr ["thing"] []
  bOa : Binds K dOa ["roll", "tick"] []
  bCa : Binds K dCa ["_law_script", "_law_k"] []
  bLw : Binds K dLw ["_law_found"] []
  bMx : Binds K dMx ["_law_cell", "_law_by", "_law_many"] []
  bLe : Binds K dLe ["_law_cell"] []
  bPo : Binds K dPo ["_law_length_here", "_law_cell"] []
  bSa : Binds K dSa ["_law_points_here", "_law_cell"] []
  bSs : Binds K dSs ["_law_cells", "_law_length_here", "_law_cell"] []
  bCv : Binds K dCv ["_law_mine", "_law_tick"] []
  bLh : Binds K dLh ["_law_spans_here"] []
  bIs : Binds K dIs ["_law_found", "_law_length_here", "_law_holes_here"] []
  bSl : Binds K dSl ["roll", "times"] []
  bMv : Binds K dMv ["holes", "ticks"] []
  bRp : Binds K dRp ["roll", "first", "behind"] []
  bEe : Binds K dEe ["one", "other"] []
  bC7 : Binds K dC7 ["_law_spans_here", "_law_low", "_law_high"] []
  bLo : Binds K dLo ["one", "other"] []
  bM7 : Binds K dM7 ["_law_spans_here", "_law_by"] []
  bNx : Binds K dNx ["_law_roll", "_law_spans_here", "_law_first", "_law_firsts", "_law_cell"] []
  bDd : Binds K dDd ["_law_roll", "_law_spans_here", "_law_first", "_law_firsts", "_law_cell"] []
  bOs : Binds K dOs ["_law_roll", "_law_holes_here"] []
  mWh : mg "is_whole" = some (.ref fWh)
  mMb : mg "may_be_member" = some (.ref fMb)
  mIl : mg "is_length" = some (.ref fIl)
  mHw : mg "is_hole_within" = some (.ref fHw)
  mAh : mg "are_holes_within" = some (.ref fAh)
  mHo : mg "holes_of" = some (.ref fHo)
  mFh : mg "few_holes_of" = some (.ref fFh)
  mRf : mg "roll_from" = some (.ref fRf)
  mRo : mg "roll_of" = some (.ref fRo)
  mIr : mg "is_roll" = some (.ref fIr)
  mOa : mg "open_at" = some (.ref fOa)
  mCa : mg "_law_cell_at" = some (.ref fCa)
  mLw : mg "_law_whole" = some (.ref fLw)
  mMx : mg "_law_mix" = some (.ref fMx)
  mLe : mg "_law_length" = some (.ref fLe)
  mPo : mg "_law_points" = some (.ref fPo)
  mSa : mg "_law_span" = some (.ref fSa)
  mSs : mg "_law_spans" = some (.ref fSs)
  mCv : mg "_law_covered" = some (.ref fCv)
  mLh : mg "_law_holes" = some (.ref fLh)
  mIs : mg "_law_is" = some (.ref fIs)
  mSl : mg "slowed_by" = some (.ref fSl)
  mMv : mg "moved" = some (.ref fMv)
  mRp : mg "roll_part" = some (.ref fRp)
  mEe : mg "end_to_end" = some (.ref fEe)
  mC7 : mg "_law_cut" = some (.ref fC7)
  mLo : mg "laid_over" = some (.ref fLo)
  mM7 : mg "_law_moved" = some (.ref fM7)
  mNx : mg "_law_next" = some (.ref fNx)
  mDd : mg "_law_deed" = some (.ref fDd)
  mOs : mg "_law_opens" = some (.ref fOs)
theorem _root_.L2.Room.z {k : Nat} {A : Around} (r : Room k A) : Room 0 A := r.mono (Nat.zero_le _)
section
variable {P : Program} {w : World} {K : PySem.W.Frag} {mg : Str → Option Value} {base : Heap} {P1 P2 c1 c2 fWh fMb fIl fHw fAh fHo fFh fRf fRo fIr fOa fCa fLw fMx fLe fPo fSa fSs fCv fLh fIs fSl fMv fRp fEe fC7 fLo fM7 fNx fDd fOs e0 eO : Addr} {dWh dMb dIl dHw dAh dHo dFh dRf dRo dIr dOa dCa dLw dMx dLe dPo dSa dSs dCv dLh dIs dSl dMv dRp dEe dC7 dLo dM7 dNx dDd dOs : FuncData}
theorem scHo : FnScope ["spans", "holes", "span", "ahead"] ["spans"] (defScope sHo) := ⟨rfl, rfl, rfl, by decide +kernel, rfl, by decide +kernel, by decide +kernel⟩
theorem ok_Ho (N : Fns K mg c1 c2 fWh fMb fIl fHw fAh fHo fFh fRf fRo fIr fOa fCa fLw fMx fLe fPo fSa fSs fCv fLh fIs fSl fMv fRp fEe fC7 fLo fM7 fNx fDd fOs dWh dMb dIl dHw dAh dHo dFh dRf dRo dIr dOa dCa dLw dMx dLe dPo dSa dSs dCv dLh dIs dSl dMv dRp dEe dC7 dLo dM7 dNx dDd dOs) (T : Txt K mg) (K1 : TabK mg base c1 P1) (K2 : TabK mg base c2 P2) : FnOk P w K mg base CX0 1 fHo dHo ["spans"] (spHo (tb P1 P2)) := by
  have TK := K1
  refine N.FHo.ok scHo (fun vs H Q E h => ?_) (fun A outer s H vs Q E hr h => ?_)
  · obtain ⟨a, ts, ys, rfl, _⟩ := h
    rfl
  · obtain ⟨a, ts, ys, rfl, A0, h64, hpos, hTb, q⟩ := h
    refine ⟨_, (@pss_cons _ _ _ _ _ (@ps_setE _ _ _ _ _ _ 1 scHo.nd rfl (Or.inl rfl) (@pe_lst _ _ _ _ pa_nil) (by kernel_rfl) (.inl rfl))
      (@pss_cons _ _ _ _ _ (ps_for PassesOwn.never rfl (pi_list (pe_callB (call_sortedT rfl) rfl T.sorted PyProof.Rows.boot_sorted (@pa_c _ _ _ _ _ rfl (pv 0) pa_nil))) (pg_name (i := 2) scHo.nd rfl (Or.inl rfl)) (@pss_one _ _ _ (@ps_if _ _ _ _ _ _ _ _ (PW.pt (pw_and (pt_truth (pv 1) (fun _ => rfl)) (pw_and (pt_cmpR op_eq (@pe_ix _ _ _ _ _ _ _ (ix_tupK (K := K) rfl) (@pe_ix _ _ _ _ _ _ _ ix_list (pv 1) (pe_un un_neg pe_int) (fun _ _ => rfl)) pe_int (fun _ _ => rfl)) (@pe_ix _ _ _ _ _ _ _ (ix_tupK (K := K) rfl) (pv 2) pe_int (fun _ _ => rfl)) (nomark _)) (pw_and1 (pt_cmpR op_le (@pe_ix _ _ _ _ _ _ _ (ix_tupK (K := K) rfl) (pv 2) pe_int (fun _ _ => rfl)) (@pe_ix _ _ _ _ _ _ _ (ix_tupK (K := K) rfl) (@pe_ix _ _ _ _ _ _ _ ix_list (pv 1) (pe_un un_neg pe_int) (fun _ _ => rfl)) pe_int (fun _ _ => rfl)) (nomark _)))))) (@pss_cons _ _ _ _ _ (@ps_setE _ _ _ _ _ _ 3 scHo.nd rfl (Or.inl rfl) (pe_bm0 PySem.F.plainAttrs_list PySem.F.slot_list_pop PySem.F.type_list_pop mt_pop (pv 1)) (by kernel_rfl) (.inl rfl))
      (@pss_one _ _ _ (ps_expr (pe_bm PySem.F.plainAttrs_list PySem.F.slot_list_append PySem.F.type_list_append mt_append (pv 1) (@pa_c _ _ _ _ _ rfl (@pe_tup _ _ _ _ _ (@pa_c _ _ _ _ _ rfl (@pe_ix _ _ _ _ _ _ _ (ix_tupK (K := K) rfl) (pv 2) pe_int (fun _ _ => rfl)) (@pa_c _ _ _ _ _ rfl (@pe_ix _ _ _ _ _ _ _ (ix_tupK (K := K) rfl) (pv 3) pe_int (fun _ _ => rfl)) (@pa_c _ _ _ _ _ rfl (pe_callB (call_max2 rfl) rfl T.max PyProof.Rows.boot_max (@pa_c _ _ _ _ _ rfl (@pe_ix _ _ _ _ _ _ _ (ix_tupK (K := K) rfl) (pv 3) pe_int (fun _ _ => rfl)) (@pa_c _ _ _ _ _ rfl (@pe_ix _ _ _ _ _ _ _ (ix_tupK (K := K) rfl) (pv 2) pe_int (fun _ _ => rfl)) pa_nil))) pa_nil)))) pa_nil))))) (@pss_one _ _ _ (ps_expr (pe_bm PySem.F.plainAttrs_list PySem.F.slot_list_append PySem.F.type_list_append mt_append (pv 1) (@pa_c _ _ _ _ _ rfl (pv 2) pa_nil)))))))
      (@pss_one _ _ _ (@ps_ret _ _ _ _ (pe_sortLam rfl TK hr.z rfl T.sorted (pv 1) rfl rfl (fun _ _ _ _ => rfl) rfl (by decide +kernel) rfl rfl rfl rfl rfl))))), ?_⟩
    refine ⟨Nat.zero_le _, fun l hl => ?_⟩
    have s1 := same_upd (o := HO.lst []) hl
    have A1 := A0.mono s1
    have l1 : upd H l (HO.lst []) l = some (.lst []) := upd_same
    generalize upd H l (HO.lst []) = H1 at s1 A1 l1 ⊢
    refine ⟨_, rfl, a, ts, ys, rfl, .inl (.inl A1.l), A1.p, by omega, fun p ix hp pm pw => ?_⟩
    have s2 := same_upd (o := HO.lst (ix.map fun i => ys.getD i V.non)) hp
    have hb : ∀ i ∈ ix, i < ys.length := fun i hi => List.mem_range.mp (pm.mem_iff.mp hi)
    have hlp : l ≠ p := ne_of_none l1 hp
    have A2 : RlAt (upd H1 p (HO.lst (ix.map fun i => ys.getD i V.non))) p (ix.map fun i => ts.getD i (0, 0, 0)) (ix.map fun i => ys.getD i V.non) := ⟨upd_same, paired_mono s2 (pick_paired A1.p hb)⟩
    have l2 := s2 _ _ l1
    have s02 := s1.trans s2
    generalize upd H1 p (HO.lst (ix.map fun i => ys.getD i V.non)) = H2 at s2 A2 l2 s02 ⊢
    have lt := A0.len
    have pm' : ix.Perm (List.range ts.length) := by rw [lt]; exact pm
    have hmem := pick_mem (z := ((0, 0, 0) : Ro.T3)) pm'
    have hord := pick_le pw
    have hlen : (ix.map fun i => ts.getD i ((0, 0, 0) : Ro.T3)).length = ts.length := by rw [List.length_map, pm'.length_eq, List.length_range]
    generalize (ix.map fun i => ts.getD i ((0, 0, 0) : Ro.T3)) = ss at A2 hmem hord hlen
    generalize (ix.map fun i => ys.getD i V.non) = us at A2
    have hp0 : H p = none := s1.free hp
    refine ⟨p, rfl, ⟨_, .inl (.inl A2.l)⟩, for_list (K := K) (a := p) (xs := us) (fun i σ H4 => ∃ (hs : List Ro.T3) (zs : List V) (v2 v3 : Option V), σ = [some (.ref a), some (.ref l), v2, v3] ∧ RlAt H4 l hs zs ∧ Mrg (ss.take i) hs ∧ hs.length ≤ i ∧ Same H H4 ∧ RlAt H4 p ss us) ⟨[], [], _, _, rfl, ⟨l2, .nil⟩, Mrg.nil, Nat.le_refl _, s02, A2⟩ (fun i σ H4 _ h => by obtain ⟨_, _, _, _, _, _, _, _, _, h⟩ := h; exact .inl (.inl h.l)) ?_ ?_⟩
    · rintro i y σ H4 hi ⟨hs, zs, v2, v3, rfl, L4, M4, hn4, s4, A4⟩
      obtain ⟨x, T0, hx, hxd, rfl, hT⟩ := A4.at hi
      obtain ⟨e1, e2⟩ := split_at hx
      have qT : SqT K H4 T0 (triV x) := .inl (.inl hT)
      have hx1 := hpos x ((hmem x).mp hxd)
      have hle : ∀ g ∈ ss.take i, le3 g x := fun g hg => by
        rw [e1, List.pairwise_append] at hord
        exact hord.2.2 g hg x (List.mem_cons_self ..)
      have hil : i < us.length := (List.getElem?_eq_some_iff.mp hi).1
      have hus : us.length < 400 := by have := A4.len; omega
      have hzl : zs.length ≤ i := by have := L4.len; omega
      have push : ¬ (∃ ini h, hs = ini ++ [h] ∧ h.1 = x.1 ∧ x.2.1 ≤ h.2.2) → RlAt (upd H4 l (HO.lst (zs ++ [V.ref T0]))) l (hs ++ [x]) (zs ++ [V.ref T0]) ∧ Mrg (ss.take (i + 1)) (hs ++ [x]) ∧ (hs ++ [x]).length ≤ i + 1 ∧ Same H (upd H4 l (HO.lst (zs ++ [V.ref T0]))) ∧ RlAt (upd H4 l (HO.lst (zs ++ [V.ref T0]))) p ss us := fun hno => by
        refine ⟨L4.snoc hT, ?_, by rw [List.length_append, List.length_singleton]; omega, fun b o e => by rw [upd_ne (ne_of_none e hl)]; exact s4 b o e, ⟨by rw [upd_ne (Ne.symm hlp)]; exact A4.l, paired_upd A4.p L4.l⟩⟩
        rw [e2]
        exact M4.push hx1 hle fun ini h e hh => hno ⟨ini, h, e, hh⟩
      rcases List.eq_nil_or_concat hs with e0 | ⟨ini, h, e0⟩
      · subst e0
        have hz0 : zs = [] := List.length_eq_zero_iff.mp (by rw [← L4.len]; rfl)
        subst hz0
        refine ⟨_, rfl, false, .inl ⟨[], .inl (.inl L4.l), rfl⟩, iteF (iteF ?_)⟩
        refine ⟨_, rfl, .inl ⟨rfl, _, .inl (.inl L4.l)⟩, _, rfl, l, _, _, rfl, rfl, L4.l, by show 0 < sizeLine; decide, ?_⟩
        obtain ⟨k1, k2, k3, k4, k5⟩ := push (fun ⟨ini, h, e, _⟩ => by simp at e)
        exact ⟨_, _, _, _, rfl, k1, k2, k3, k4, k5⟩
      · have e0' : hs = ini ++ [h] := by rw [e0]; simp
        subst e0'
        obtain ⟨zi, zh, ez⟩ : ∃ zi zh, zs = zi ++ [zh] := by
          have hz : zs.length = ini.length + 1 := by rw [← L4.len]; simp
          exact ⟨zs.dropLast, zs.getLast (by intro z; rw [z] at hz; simp at hz), (List.dropLast_concat_getLast _).symm⟩
        subst ez
        have hzi : zi.length = ini.length := by have := L4.len; simp at this; omega
        obtain ⟨h', Th, hh', _, rfl, hTh⟩ := L4.at (i := zi.length) (y := zh) (by simp)
        have eh : h' = h := by
          rw [hzi] at hh'
          simpa using hh'.symm
        subst eh
        have qL : SqL K H4 l (zi ++ [V.ref Th]) := .inl (.inl L4.l)
        have qh : SqT K H4 Th (triV h') := .inl (.inl hTh)
        refine ⟨_, rfl, true, .inl ⟨_, qL, by simp⟩, iteT ?_⟩
        refine ⟨_, rfl, _, rfl, l, _, _, _, rfl, rfl, qL, at_last, Th, _, _, _, rfl, rfl, qh, atI_nat (j := 0) rfl, _, rfl, T0, _, _, _, rfl, rfl, qT, atI_nat (j := 0) rfl, rfl, _, rfl, ?_⟩
        refine ite2 (fun g1 => ?_) (fun g1 => ?_)
        · have g1' : h'.1 = x.1 := V.int.inj (of_decide_eq_true g1)
          refine ⟨_, rfl, T0, _, _, _, rfl, rfl, qT, atI_nat (j := 1) rfl, _, rfl, _, rfl, l, _, _, _, rfl, rfl, qL, at_last, Th, _, _, _, rfl, rfl, qh, atI_nat (j := 2) rfl, _, _, rfl, rfl, _, rfl, ?_⟩
          refine ite2 (fun g2 => ?_) (fun g2 => ?_)
          · have g2' : x.2.1 ≤ h'.2.2 := of_decide_eq_true g2
            refine ⟨_, rfl, .inl ⟨rfl, _, qL⟩, l, _, V.ref Th, rfl, rfl, L4.l, by simp, ?_⟩
            have L5 : RlAt (upd H4 l (HO.lst (zi ++ [V.ref Th]).dropLast)) l ini zi := by
              rw [List.dropLast_concat]
              refine ⟨upd_same, paired_upd (ws := zi) ?_ L4.l⟩
              have hp5 := L4.p
              have tk := Og.paired_take hp5 ini.length
              rw [List.take_left' rfl, ← hzi, List.take_left' rfl] at tk
              exact tk
            have hT5 : upd H4 l (HO.lst (zi ++ [V.ref Th]).dropLast) T0 = some (.tup (triV x)) := by rw [upd_ne (ne_of hT L4.l (fun z => by cases z))]; exact hT
            have hTh5 : upd H4 l (HO.lst (zi ++ [V.ref Th]).dropLast) Th = some (.tup (triV h')) := by rw [upd_ne (ne_of hTh L4.l (fun z => by cases z))]; exact hTh
            have s5 : Same H (upd H4 l (HO.lst (zi ++ [V.ref Th]).dropLast)) := fun b o e => by rw [upd_ne (ne_of_none e hl)]; exact s4 b o e
            have A5 : RlAt (upd H4 l (HO.lst (zi ++ [V.ref Th]).dropLast)) p ss us := ⟨by rw [upd_ne (Ne.symm hlp)]; exact A4.l, paired_upd A4.p L4.l⟩
            generalize upd H4 l (HO.lst (zi ++ [V.ref Th]).dropLast) = H5 at L5 hT5 hTh5 s5 A5 ⊢
            have qT5 : SqT K H5 T0 (triV x) := .inl (.inl hT5)
            have qh5 : SqT K H5 Th (triV h') := .inl (.inl hTh5)
            refine ⟨_, rfl, .inl ⟨rfl, _, .inl (.inl L5.l)⟩, _, rfl, T0, _, _, _, rfl, rfl, qT5, atI_nat (j := 0) rfl, _, rfl, Th, _, _, _, rfl, rfl, qh5, atI_nat (j := 1) rfl, _, rfl, Th, _, _, _, rfl, rfl, qh5, atI_nat (j := 2) rfl, _, rfl, T0, _, _, _, rfl, rfl, qT5, atI_nat (j := 2) rfl, _, _, rfl, by show 3 ≤ sizeLine; decide, fun t6 ht6 => ?_⟩
            have emx : (if x.2.2 > h'.2.2 then x.2.2 else h'.2.2) = max h'.2.2 x.2.2 := by split <;> omega
            rw [emx]
            have s6 := same_upd (o := HO.tup [V.int x.1, V.int h'.2.1, V.int (max h'.2.2 x.2.2)]) ht6
            have hT6 : upd H5 t6 (HO.tup [V.int x.1, V.int h'.2.1, V.int (max h'.2.2 x.2.2)]) t6 = some (.tup (triV (x.1, h'.2.1, max h'.2.2 x.2.2))) := upd_same
            have L6 := L5.mono s6
            have A6 := A5.mono s6
            generalize upd H5 t6 (HO.tup [V.int x.1, V.int h'.2.1, V.int (max h'.2.2 x.2.2)]) = H6 at s6 hT6 L6 A6 ⊢
            refine ⟨l, _, _, rfl, rfl, L6.l, small1000 (by simp at hzl; omega), ?_⟩
            refine ⟨ini ++ [(x.1, h'.2.1, max h'.2.2 x.2.2)], _, _, _, rfl, L6.snoc hT6, ?_, by simp at hn4 ⊢; omega, fun b o e => by rw [upd_ne (ne_of_none e hl)]; exact s6 _ _ (s5 b o e), ⟨by rw [upd_ne (Ne.symm hlp)]; exact A6.l, paired_upd A6.p L6.l⟩⟩
            rw [e2]
            exact M4.join hle g1' g2'
          · refine ⟨_, rfl, .inl ⟨rfl, _, qL⟩, _, rfl, l, _, _, rfl, rfl, L4.l, small1000 (by omega), ?_⟩
            obtain ⟨k1, k2, k3, k4, k5⟩ := push (fun ⟨ini2, h2, e, _, z⟩ => by
              have : h2 = h' := by have := congrArg List.getLast? e; simp at this; exact this.symm
              subst this
              exact g2 (decide_eq_true z))
            exact ⟨_, _, _, _, rfl, k1, k2, k3, k4, k5⟩
        · refine iteF ?_
          refine ⟨_, rfl, .inl ⟨rfl, _, qL⟩, _, rfl, l, _, _, rfl, rfl, L4.l, small1000 (by omega), ?_⟩
          obtain ⟨k1, k2, k3, k4, k5⟩ := push (fun ⟨ini2, h2, e, z, _⟩ => by
            have : h2 = h' := by have := congrArg List.getLast? e; simp at this; exact this.symm
            subst this
            exact g1 (decide_eq_true (by rw [z])))
          exact ⟨_, _, _, _, rfl, k1, k2, k3, k4, k5⟩
    · rintro σ H4 ⟨hs, zs, v2, v3, rfl, L4, M4, hn4, s4, A4⟩
      rw [List.take_of_length_le (by rw [A4.len]; exact Nat.le_refl _)] at M4
      have hus := A4.len
      have hzl := L4.len
      have tb4 := hTb.same s4
      refine ⟨_, rfl, l, hs, zs, rfl, .inl (.inl L4.l), L4.p, by omega, tb4.2.1, fun p5 ix5 H5 h51 h52 k5 tb5 pm5 pw5 => ?_⟩
      have pm6 : ix5.Perm (List.range hs.length) := by rw [hzl]; exact pm5
      have kp5 : Kp (tb P1 P2) H4 H5 := fun b o ho e => k5 b o (fun z => by
        rcases tb4.2.1 with t1 | ⟨c, t1, _⟩
        · rw [z] at e; rw [t1] at e; exact ho _ (Option.some.inj e).symm
        · rw [z] at e; rw [t1] at e; exact ho _ (Option.some.inj e).symm) e
      have L5 := RlAt.kp L4 kp5
      have s6 := same_upd (o := HO.lst (ix5.map fun i => zs.getD i V.non)) h52
      have tbH5 : Tb (tb P1 P2) H5 := by
        refine ⟨tb4.1, tb5, ?_⟩
        have n12 := tb4.1
        rcases tb4.2.2 with t1 | ⟨c, t1, t2⟩
        · exact .inl (k5 _ _ (Ne.symm n12) t1)
        · exact .inr ⟨c, k5 _ _ (Ne.symm n12) t1, kp5 _ _ (fun ps z => by cases z) t2⟩
      refine q p5 (ix5.map fun i => hs.getD i (0, 0, 0)) _ _ (s4.free h51) ((Kp.of (B := tb P1 P2) s4).trans (kp5.trans (Kp.of s6))) (tbH5.same s6) ⟨upd_same, paired_mono s6 (pick_paired L5.p fun i hi => List.mem_range.mp (pm5.mem_iff.mp hi))⟩ (canon_of M4.sep M4.nodup pm6 pw5) (fun tr t => ?_) (by rw [List.length_map, pm6.length_eq, List.length_range]; omega)
      rw [Cov.perm (pick_mem pm6), M4.cov, Cov.perm hmem]
theorem scWh : FnScope ["thing"] ["thing"] (defScope sWh) := ⟨rfl, rfl, rfl, by decide +kernel, rfl, by decide +kernel, by decide +kernel⟩
theorem ok_Wh (N : Fns K mg c1 c2 fWh fMb fIl fHw fAh fHo fFh fRf fRo fIr fOa fCa fLw fMx fLe fPo fSa fSs fCv fLh fIs fSl fMv fRp fEe fC7 fLo fM7 fNx fDd fOs dWh dMb dIl dHw dAh dHo dFh dRf dRo dIr dOa dCa dLw dMx dLe dPo dSa dSs dCv dLh dIs dSl dMv dRp dEe dC7 dLo dM7 dNx dDd dOs) (T : Txt K mg) : FnOk P w K mg base CX0 1 fWh dWh ["thing"] spWh := by
  refine N.FWh.ok scWh (fun vs H Q E h => ?_) (fun cdv A outer s H vs Q E hr h => ?_)
  · obtain ⟨x, b, rfl, _⟩ := h
    rfl
  · obtain ⟨x, b, rfl, hx, q⟩ := h
    refine ⟨_, (@pss_one _ _ _ (@ps_ret _ _ _ _ (pe_and (pe_callB call_isin rfl T.isin PyProof.Rows.boot_isinstance (@pa_c _ _ _ _ _ rfl (pv 0) (@pa_c _ _ _ _ _ rfl (pe_bltn (v := .ty "int") rfl T.int PyProof.Rows.boot_int rfl) pa_nil))) (pe_one (pe_not (pe_callB call_isin rfl T.isin PyProof.Rows.boot_isinstance (@pa_c _ _ _ _ _ rfl (pv 0) (@pa_c _ _ _ _ _ rfl (pe_bltn (v := .ty "bool") rfl T.bool PyProof.Rows.boot_bool rfl) pa_nil)))))))), ?_⟩
    rcases hx with ⟨i, rfl, rfl⟩ | ⟨rfl, rfl⟩
    · refine ⟨_, rfl, _, "int", _, _, rfl, .int i, ty_int, _, rfl, iteT ?_⟩
      exact ⟨_, rfl, _, "bool", _, _, rfl, .int i, ty_ib, _, rfl, q⟩
    · exact ⟨_, rfl, _, "int", _, _, rfl, .non, ty_ni, _, rfl, iteF q⟩
theorem scLw : FnScope ["_law_found"] ["_law_found"] (defScope sLw) := ⟨rfl, rfl, rfl, by decide +kernel, rfl, by decide +kernel, by decide +kernel⟩
theorem ok_Lw (N : Fns K mg c1 c2 fWh fMb fIl fHw fAh fHo fFh fRf fRo fIr fOa fCa fLw fMx fLe fPo fSa fSs fCv fLh fIs fSl fMv fRp fEe fC7 fLo fM7 fNx fDd fOs dWh dMb dIl dHw dAh dHo dFh dRf dRo dIr dOa dCa dLw dMx dLe dPo dSa dSs dCv dLh dIs dSl dMv dRp dEe dC7 dLo dM7 dNx dDd dOs) (T : Txt K mg) : FnOk P w K mg base CX0 1 fLw dLw ["_law_found"] spWh := by
  refine N.FLw.ok scLw (fun vs H Q E h => ?_) (fun cdv A outer s H vs Q E hr h => ?_)
  · obtain ⟨x, b, rfl, _⟩ := h
    rfl
  · obtain ⟨x, b, rfl, hx, q⟩ := h
    refine ⟨_, (@pss_one _ _ _ (@ps_ret _ _ _ _ (pe_and (pe_callB call_isin rfl T.isin PyProof.Rows.boot_isinstance (@pa_c _ _ _ _ _ rfl (pv 0) (@pa_c _ _ _ _ _ rfl (pe_bltn (v := .ty "int") rfl T.int PyProof.Rows.boot_int rfl) pa_nil))) (pe_one (pe_not (pe_callB call_isin rfl T.isin PyProof.Rows.boot_isinstance (@pa_c _ _ _ _ _ rfl (pv 0) (@pa_c _ _ _ _ _ rfl (pe_bltn (v := .ty "bool") rfl T.bool PyProof.Rows.boot_bool rfl) pa_nil)))))))), ?_⟩
    rcases hx with ⟨i, rfl, rfl⟩ | ⟨rfl, rfl⟩
    · refine ⟨_, rfl, _, "int", _, _, rfl, .int i, ty_int, _, rfl, iteT ?_⟩
      exact ⟨_, rfl, _, "bool", _, _, rfl, .int i, ty_ib, _, rfl, q⟩
    · exact ⟨_, rfl, _, "int", _, _, rfl, .non, ty_ni, _, rfl, iteF q⟩
theorem scMb : FnScope ["thing"] ["thing"] (defScope sMb) := ⟨rfl, rfl, rfl, by decide +kernel, rfl, by decide +kernel, by decide +kernel⟩
theorem ok_Mb (N : Fns K mg c1 c2 fWh fMb fIl fHw fAh fHo fFh fRf fRo fIr fOa fCa fLw fMx fLe fPo fSa fSs fCv fLh fIs fSl fMv fRp fEe fC7 fLo fM7 fNx fDd fOs dWh dMb dIl dHw dAh dHo dFh dRf dRo dIr dOa dCa dLw dMx dLe dPo dSa dSs dCv dLh dIs dSl dMv dRp dEe dC7 dLo dM7 dNx dDd dOs) (T : Txt K mg) : FnOk P w K mg base CX0 2 fMb dMb ["thing"] spMb := by
  have GWh : FnOk P w K mg base CX0 1 fWh dWh ["thing"] spWh := ok_Wh N T
  refine N.FMb.ok scMb (fun vs H Q E h => ?_) (fun cdv A outer s H vs Q E hr h => ?_)
  · obtain ⟨i, rfl, _⟩ := h
    rfl
  · obtain ⟨i, rfl, h0, h1, q⟩ := h
    have hrWh : Room 1 _ := hr.mono (by decide)
    obtain ⟨tMEMBERS_BELOW, hMEMBERS_BELOW⟩ := T.cMEMBERS_BELOW
    refine ⟨_, (@pss_one _ _ _ (@ps_ret _ _ _ _ (pe_and (pe_call GWh hrWh rfl N.mWh N.FWh.kp N.bWh .nil pass0 (@pa_c _ _ _ _ _ rfl (pv 0) pa_nil)) (pe_one (pe_chain op_le op_lt pe_int (pv 0) (pe_glob (v := .int 1200) rfl hMEMBERS_BELOW ⟨tMEMBERS_BELOW, rfl⟩)))))), ?_⟩
    refine ⟨_, rfl, _, true, rfl, .inl ⟨i, rfl, rfl⟩, _, rfl, iteT ?_⟩
    refine ⟨_, rfl, _, _, rfl, rfl, _, rfl, iteD h0 ?_⟩
    refine ⟨_, _, rfl, rfl, ?_⟩
    have e : decide (i < 1200) = true := decide_eq_true h1
    dsimp only
    rw [e]
    exact q
theorem scIl : FnScope ["thing"] ["thing"] (defScope sIl) := ⟨rfl, rfl, rfl, by decide +kernel, rfl, by decide +kernel, by decide +kernel⟩
theorem ok_Il (N : Fns K mg c1 c2 fWh fMb fIl fHw fAh fHo fFh fRf fRo fIr fOa fCa fLw fMx fLe fPo fSa fSs fCv fLh fIs fSl fMv fRp fEe fC7 fLo fM7 fNx fDd fOs dWh dMb dIl dHw dAh dHo dFh dRf dRo dIr dOa dCa dLw dMx dLe dPo dSa dSs dCv dLh dIs dSl dMv dRp dEe dC7 dLo dM7 dNx dDd dOs) (T : Txt K mg) : FnOk P w K mg base CX0 2 fIl dIl ["thing"] spIl := by
  have GWh : FnOk P w K mg base CX0 1 fWh dWh ["thing"] spWh := ok_Wh N T
  refine N.FIl.ok scIl (fun vs H Q E h => ?_) (fun cdv A outer s H vs Q E hr h => ?_)
  · obtain ⟨i, rfl, _⟩ := h
    rfl
  · obtain ⟨i, rfl, h0, h1, q⟩ := h
    have hrWh : Room 1 _ := hr.mono (by decide)
    obtain ⟨tMOST_TICKS, hMOST_TICKS⟩ := T.cMOST_TICKS
    refine ⟨_, (@pss_one _ _ _ (@ps_ret _ _ _ _ (pe_and (pe_call GWh hrWh rfl N.mWh N.FWh.kp N.bWh .nil pass0 (@pa_c _ _ _ _ _ rfl (pv 0) pa_nil)) (pe_one (pe_chain op_le op_le pe_int (pv 0) (pe_glob (v := .int 1000000000000) rfl hMOST_TICKS ⟨tMOST_TICKS, rfl⟩)))))), ?_⟩
    refine ⟨_, rfl, _, true, rfl, .inl ⟨i, rfl, rfl⟩, _, rfl, iteT ?_⟩
    refine ⟨_, rfl, _, _, rfl, rfl, _, rfl, iteD h0 ?_⟩
    refine ⟨_, _, rfl, rfl, ?_⟩
    have e : decide (i ≤ 1000000000000) = true := decide_eq_true h1
    dsimp only
    rw [e]
    exact q
theorem scHw : FnScope ["thing", "length"] ["thing", "length"] (defScope sHw) := ⟨rfl, rfl, rfl, by decide +kernel, rfl, by decide +kernel, by decide +kernel⟩
theorem ok_Hw (N : Fns K mg c1 c2 fWh fMb fIl fHw fAh fHo fFh fRf fRo fIr fOa fCa fLw fMx fLe fPo fSa fSs fCv fLh fIs fSl fMv fRp fEe fC7 fLo fM7 fNx fDd fOs dWh dMb dIl dHw dAh dHo dFh dRf dRo dIr dOa dCa dLw dMx dLe dPo dSa dSs dCv dLh dIs dSl dMv dRp dEe dC7 dLo dM7 dNx dDd dOs) (T : Txt K mg) : FnOk P w K mg base CX0 3 fHw dHw ["thing", "length"] spHw := by
  have GWh : FnOk P w K mg base CX0 1 fWh dWh ["thing"] spWh := ok_Wh N T
  have GMb : FnOk P w K mg base CX0 2 fMb dMb ["thing"] spMb := ok_Mb N T
  refine N.FHw.ok scHw (fun vs H Q E h => ?_) (fun cdv A outer s H vs Q E hr h => ?_)
  · obtain ⟨T0, t, len, rfl, _⟩ := h
    rfl
  · obtain ⟨T0, t, len, rfl, hT, ok, q⟩ := h
    have hrWh : Room 1 _ := hr.mono (by decide)
    have hrMb : Room 2 _ := hr.mono (by decide)
    refine ⟨_, (@pss_cons _ _ _ _ _ (@ps_if _ _ _ _ _ _ _ _ (PW.pt (pw_or (pt_not (pt_val (pe_callB call_isin rfl T.isin PyProof.Rows.boot_isinstance (@pa_c _ _ _ _ _ rfl (pv 0) (@pa_c _ _ _ _ _ rfl (pe_bltn (v := .ty "tuple") rfl T.tuple PyProof.Rows.boot_tuple rfl) pa_nil))))) (pw_or (pt_cmpR op_ne (pe_callB call_len_seq rfl T.len PySem.boot_len (@pa_c _ _ _ _ _ rfl (pv 0) pa_nil)) pe_int (nomark _)) (pw_or1 (pt_not (pt_val (pe_call GMb hrMb rfl N.mMb N.FMb.kp N.bMb .nil pass0 (@pa_c _ _ _ _ _ rfl (@pe_ix _ _ _ _ _ _ _ (ix_tupK (K := K) rfl) (pv 0) pe_int (fun _ _ => rfl)) pa_nil)))))))) (@pss_one _ _ _ (@ps_ret _ _ _ _ pe_bl)) pss_nil)
      (@pss_one _ _ _ (@ps_ret _ _ _ _ (pe_and (pe_call GWh hrWh rfl N.mWh N.FWh.kp N.bWh .nil pass0 (@pa_c _ _ _ _ _ rfl (@pe_ix _ _ _ _ _ _ _ (ix_tupK (K := K) rfl) (pv 0) pe_int (fun _ _ => rfl)) pa_nil)) (pe_and (pe_call GWh hrWh rfl N.mWh N.FWh.kp N.bWh .nil pass0 (@pa_c _ _ _ _ _ rfl (@pe_ix _ _ _ _ _ _ _ (ix_tupK (K := K) rfl) (pv 0) pe_int (fun _ _ => rfl)) pa_nil)) (pe_one (pe_chain3 op_le op_lt op_le pe_int (@pe_ix _ _ _ _ _ _ _ (ix_tupK (K := K) rfl) (pv 0) pe_int (fun _ _ => rfl)) (@pe_ix _ _ _ _ _ _ _ (ix_tupK (K := K) rfl) (pv 0) pe_int (fun _ _ => rfl)) (pv 1)))))))), ?_⟩
    obtain ⟨o1, o2, o3, o4, o5⟩ := ok
    have qT : SqT K H T0 (t3V t) := .inl (.inl hT)
    refine ⟨_, rfl, _, "tuple", _, _, rfl, .tup hT, ty_tt, _, rfl, iteF ?_⟩
    refine ⟨_, rfl, T0, _, rfl, .inr qT, rfl, _, rfl, iteNS rfl ?_⟩
    refine ⟨_, rfl, T0, _, _, _, rfl, rfl, qT, atI_nat (j := 0) rfl, t.1, rfl, o1, o2, _, rfl, iteF ?_⟩
    refine ⟨_, rfl, T0, _, _, _, rfl, rfl, qT, atI_nat (j := 1) rfl, _, true, rfl, .inl ⟨_, rfl, rfl⟩, _, rfl, iteT ?_⟩
    refine ⟨_, rfl, T0, _, _, _, rfl, rfl, qT, atI_nat (j := 2) rfl, _, true, rfl, .inl ⟨_, rfl, rfl⟩, _, rfl, iteT ?_⟩
    refine ⟨_, rfl, T0, _, _, _, rfl, rfl, qT, atI_nat (j := 1) rfl, _, _, rfl, rfl, _, rfl, iteD o3 ?_⟩
    refine ⟨_, rfl, T0, _, _, _, rfl, rfl, qT, atI_nat (j := 2) rfl, _, _, rfl, rfl, _, rfl, iteD o4 ?_⟩
    refine ⟨_, rfl, _, _, rfl, rfl, ?_⟩
    have e : decide (t.2.2 ≤ len) = true := decide_eq_true o5
    dsimp only
    rw [e]
    exact q
theorem ty_ll {K : PySem.W.Frag} : PySem.W.kitOne K (.type "list") (.type "list") = some true := by kernel_rfl
theorem scAh : FnScope ["thing", "length"] ["thing", "length"] (defScope sAh) := ⟨rfl, rfl, rfl, by decide +kernel, rfl, by decide +kernel, by decide +kernel⟩
theorem ok_Ah (N : Fns K mg c1 c2 fWh fMb fIl fHw fAh fHo fFh fRf fRo fIr fOa fCa fLw fMx fLe fPo fSa fSs fCv fLh fIs fSl fMv fRp fEe fC7 fLo fM7 fNx fDd fOs dWh dMb dIl dHw dAh dHo dFh dRf dRo dIr dOa dCa dLw dMx dLe dPo dSa dSs dCv dLh dIs dSl dMv dRp dEe dC7 dLo dM7 dNx dDd dOs) (T : Txt K mg) : FnOk P w K mg base CX0 4 fAh dAh ["thing", "length"] spAh := by
  have GHw : FnOk P w K mg base CX0 3 fHw dHw ["thing", "length"] spHw := ok_Hw N T
  refine N.FAh.ok scAh (fun vs H Q E h => ?_) (fun cdv A outer s H vs Q E hr h => ?_)
  · obtain ⟨a, ts, ys, len, rfl, _⟩ := h
    rfl
  · obtain ⟨a, ts, ys, len, rfl, A0, hz, ok, q⟩ := h
    have hrHw : Room 3 _ := hr.mono (by decide)
    refine ⟨_, (@pss_one _ _ _ (@ps_ret _ _ _ _ (pe_and (pe_callB call_isin rfl T.isin PyProof.Rows.boot_isinstance (@pa_c _ _ _ _ _ rfl (pv 0) (@pa_c _ _ _ _ _ rfl (pe_bltn (v := .ty "list") rfl T.list PyProof.Rows.boot_list rfl) pa_nil))) (pe_one (pe_callB (call_all rfl) rfl T.all PyProof.Rows.boot_all (@pa_c _ _ _ _ _ rfl (pe_comp rfl (compScope (osc := defScope sAh) (N := ["thing", "length"]) rfl rfl (by decide +kernel)) (pi_list (pv 0)) (fun _ _ _ _ => pf_nil) (fun _ _ _ _ => (pe_call GHw hrHw rfl N.mHw N.FHw.kp N.bHw .nil pass0 (@pa_c _ _ _ _ _ rfl (pv 0) (@pa_c _ _ _ _ _ rfl (pv 2) pa_nil))))) pa_nil)))))), ?_⟩
    refine ⟨_, rfl, _, "list", _, _, rfl, .lst A0.l, ty_ll, _, rfl, iteT ?_⟩
    refine ⟨_, rfl, a, rfl, ⟨_, .inl (.inl A0.l)⟩, comp_rl (K := K) (fun _ => true) (fun _ => .bl true) A0 (small1000 (by omega)) (fun x hx T1 hT1 H' hs R k => k H' (Same.refl H')) (fun x hx _ T1 hT1 H' hs R k => ?_) (fun D H2 hD hs hl => ?_)⟩
    · exact ⟨_, rfl, _, rfl, T1, x, len, rfl, hs _ _ hT1, ok x hx, k H' (Same.refl H')⟩
    · refine ⟨D, (ts.filter fun _ => true).map fun _ => true, rfl, .inl (.inl (by rw [hl, List.map_map]; rfl)), ?_⟩
      have e : ((ts.filter fun _ => true).map fun _ => true).all id = true := by simp
      rw [e]
      exact q _ hs
theorem scFh : FnScope ["spans", "holes"] ["spans"] (defScope sFh) := ⟨rfl, rfl, rfl, by decide +kernel, rfl, by decide +kernel, by decide +kernel⟩
theorem ok_Fh (N : Fns K mg c1 c2 fWh fMb fIl fHw fAh fHo fFh fRf fRo fIr fOa fCa fLw fMx fLe fPo fSa fSs fCv fLh fIs fSl fMv fRp fEe fC7 fLo fM7 fNx fDd fOs dWh dMb dIl dHw dAh dHo dFh dRf dRo dIr dOa dCa dLw dMx dLe dPo dSa dSs dCv dLh dIs dSl dMv dRp dEe dC7 dLo dM7 dNx dDd dOs) (T : Txt K mg) (K1 : TabK mg base c1 P1) (K2 : TabK mg base c2 P2) : FnOk P w K mg base CX0 2 fFh dFh ["spans"] (spHo (tb P1 P2)) := by
  have GHo : FnOk P w K mg base CX0 1 fHo dHo ["spans"] (spHo (tb P1 P2)) := ok_Ho N T K1 K2
  refine N.FFh.ok scFh (fun vs H Q E h => ?_) (fun cdv A outer s H vs Q E hr h => ?_)
  · obtain ⟨a, ts, ys, rfl, _⟩ := h
    rfl
  · obtain ⟨a, ts, ys, rfl, A0, h64, hpos, hTb, q⟩ := h
    have hrHo : Room 1 _ := hr.mono (by decide)
    obtain ⟨tMOST_HOLES, hMOST_HOLES⟩ := T.cMOST_HOLES
    refine ⟨_, (@pss_cons _ _ _ _ _ (@ps_setE _ _ _ _ _ _ 1 scFh.nd rfl (Or.inl rfl) (pe_call GHo hrHo rfl N.mHo N.FHo.kp N.bHo .nil pass0 (@pa_c _ _ _ _ _ rfl (pv 0) pa_nil)) (by kernel_rfl) (.inl rfl))
      (@pss_cons _ _ _ _ _ (@ps_if _ _ _ _ _ _ _ _ (pt_cmpR op_gt (pe_callB call_len_seq rfl T.len PySem.boot_len (@pa_c _ _ _ _ _ rfl (pv 1) pa_nil)) (pe_glob (v := .int 400) rfl hMOST_HOLES ⟨tMOST_HOLES, rfl⟩) (nomark _)) (@pss_one _ _ _ ps_never) pss_nil)
      (@pss_one _ _ _ (@ps_ret _ _ _ _ (pv 1))))), ?_⟩
    refine ⟨_, rfl, a, ts, ys, rfl, A0, h64, hpos, hTb, fun p hs zs H1 f1 k1 t1 A1 c1 v1 n1 => ?_⟩
    have l1 := A1.len
    have l0 := A0.len
    refine ⟨_, rfl, p, _, rfl, .inl (.inl (.inl A1.l)), _, _, rfl, rfl, _, rfl, iteND (by omega) ?_⟩
    exact ⟨_, rfl, q p hs zs H1 f1 k1 t1 A1 c1 v1 n1⟩
theorem scRf : FnScope ["length", "spans"] ["length", "spans"] (defScope sRf) := ⟨rfl, rfl, rfl, by decide +kernel, rfl, by decide +kernel, by decide +kernel⟩
theorem ok_Rf (N : Fns K mg c1 c2 fWh fMb fIl fHw fAh fHo fFh fRf fRo fIr fOa fCa fLw fMx fLe fPo fSa fSs fCv fLh fIs fSl fMv fRp fEe fC7 fLo fM7 fNx fDd fOs dWh dMb dIl dHw dAh dHo dFh dRf dRo dIr dOa dCa dLw dMx dLe dPo dSa dSs dCv dLh dIs dSl dMv dRp dEe dC7 dLo dM7 dNx dDd dOs) (T : Txt K mg) (K1 : TabK mg base c1 P1) (K2 : TabK mg base c2 P2) : FnOk P w K mg base CX0 3 fRf dRf ["length", "spans"] (spRf (tb P1 P2)) := by
  have GFh : FnOk P w K mg base CX0 2 fFh dFh ["spans"] (spHo (tb P1 P2)) := ok_Fh N T K1 K2
  refine N.FRf.ok scRf (fun vs H Q E h => ?_) (fun cdv A outer s H vs Q E hr h => ?_)
  · obtain ⟨a, ts, ys, len, rfl, _⟩ := h
    rfl
  · obtain ⟨a, ts, ys, len, rfl, hlen, A0, h64, hpos, hTb, q⟩ := h
    have hrFh : Room 2 _ := hr.mono (by decide)
    obtain ⟨tMOST_TICKS, hMOST_TICKS⟩ := T.cMOST_TICKS
    refine ⟨_, (@pss_cons _ _ _ _ _ (@ps_if _ _ _ _ _ _ _ _ (pt_cmpR op_gt (pv 0) (pe_glob (v := .int 1000000000000) rfl hMOST_TICKS ⟨tMOST_TICKS, rfl⟩) (nomark _)) (@pss_one _ _ _ ps_never) pss_nil)
      (@pss_one _ _ _ (@ps_ret _ _ _ _ (@pe_tup _ _ _ _ _ (@pa_c _ _ _ _ _ rfl (pv 0) (@pa_c _ _ _ _ _ rfl (pe_call GFh hrFh rfl N.mFh N.FFh.kp N.bFh .nil pass0 (@pa_c _ _ _ _ _ rfl (pv 1) pa_nil)) pa_nil)))))), ?_⟩
    refine ⟨_, rfl, _, _, rfl, rfl, _, rfl, iteND (by omega) ?_⟩
    refine ⟨_, rfl, _, rfl, a, ts, ys, rfl, A0, h64, hpos, hTb, fun p hs zs H1 f1 k1 t1 A1 c1 v1 n1 => ⟨by show 2 ≤ sizeLine; decide, fun r hr1 => ?_⟩⟩
    have s2 := same_upd (o := HO.tup [V.int len, V.ref p]) hr1
    exact q r hs _ (k1.trans (Kp.of s2)) (t1.same s2) ⟨p, zs, f1, upd_same, A1.mono s2⟩ c1 v1 n1
theorem scRo : FnScope ["length", "spans"] ["length", "spans"] (defScope sRo) := ⟨rfl, rfl, rfl, by decide +kernel, rfl, by decide +kernel, by decide +kernel⟩
theorem ok_Ro (N : Fns K mg c1 c2 fWh fMb fIl fHw fAh fHo fFh fRf fRo fIr fOa fCa fLw fMx fLe fPo fSa fSs fCv fLh fIs fSl fMv fRp fEe fC7 fLo fM7 fNx fDd fOs dWh dMb dIl dHw dAh dHo dFh dRf dRo dIr dOa dCa dLw dMx dLe dPo dSa dSs dCv dLh dIs dSl dMv dRp dEe dC7 dLo dM7 dNx dDd dOs) (T : Txt K mg) (K1 : TabK mg base c1 P1) (K2 : TabK mg base c2 P2) : FnOk P w K mg base CX0 5 fRo dRo ["length", "spans"] (spRo (tb P1 P2)) := by
  have GIl : FnOk P w K mg base CX0 2 fIl dIl ["thing"] spIl := ok_Il N T
  have GAh : FnOk P w K mg base CX0 4 fAh dAh ["thing", "length"] spAh := ok_Ah N T
  have GRf : FnOk P w K mg base CX0 3 fRf dRf ["length", "spans"] (spRf (tb P1 P2)) := ok_Rf N T K1 K2
  refine N.FRo.ok scRo (fun vs H Q E h => ?_) (fun cdv A outer s H vs Q E hr h => ?_)
  · obtain ⟨a, ts, ys, len, rfl, _⟩ := h
    rfl
  · obtain ⟨a, ts, ys, len, rfl, hl0, hl1, A0, h64, ok, hTb, q⟩ := h
    have hrIl : Room 2 _ := hr.mono (by decide)
    have hrAh : Room 4 _ := hr.mono (by decide)
    have hrRf : Room 3 _ := hr.mono (by decide)
    refine ⟨_, (@pss_cons _ _ _ _ _ (@ps_if _ _ _ _ _ _ _ _ (PW.pt (pw_or (pt_not (pt_val (pe_call GIl hrIl rfl N.mIl N.FIl.kp N.bIl .nil pass0 (@pa_c _ _ _ _ _ rfl (pv 0) pa_nil)))) (pw_or1 (pt_not (pt_val (pe_call GAh hrAh rfl N.mAh N.FAh.kp N.bAh .nil pass0 (@pa_c _ _ _ _ _ rfl (pv 1) (@pa_c _ _ _ _ _ rfl (pv 0) pa_nil)))))))) (@pss_one _ _ _ ps_never) pss_nil)
      (@pss_one _ _ _ (@ps_ret _ _ _ _ (pe_call GRf hrRf rfl N.mRf N.FRf.kp N.bRf .nil pass0 (@pa_c _ _ _ _ _ rfl (pv 0) (@pa_c _ _ _ _ _ rfl (pv 1) pa_nil)))))), ?_⟩
    refine ⟨_, rfl, len, rfl, hl0, hl1, _, rfl, iteF ?_⟩
    refine ⟨_, rfl, _, rfl, a, ts, ys, len, rfl, A0, by omega, ok, fun H1 s1 => ⟨_, rfl, iteF ?_⟩⟩
    refine ⟨_, rfl, _, rfl, a, ts, ys, len, rfl, hl1, A0.mono s1, h64, fun t ht => (ok t ht).2.2.2.1, hTb.same s1, fun r hs H2 k2 t2 A2 c2 v2 n2 => ?_⟩
    obtain ⟨p, zs, f, e, A⟩ := A2
    exact q r hs H2 ((Kp.of s1).trans k2) t2 ⟨p, zs, s1.free f, e, A⟩ c2 v2 n2
theorem scOa : FnScope ["roll", "tick"] ["roll", "tick"] (defScope sOa) := ⟨rfl, rfl, rfl, by decide +kernel, rfl, by decide +kernel, by decide +kernel⟩
theorem scCa : FnScope ["_law_script", "_law_k"] ["_law_script", "_law_k"] (defScope sCa) := ⟨rfl, rfl, rfl, by decide +kernel, rfl, by decide +kernel, by decide +kernel⟩
theorem ok_Ca (N : Fns K mg c1 c2 fWh fMb fIl fHw fAh fHo fFh fRf fRo fIr fOa fCa fLw fMx fLe fPo fSa fSs fCv fLh fIs fSl fMv fRp fEe fC7 fLo fM7 fNx fDd fOs dWh dMb dIl dHw dAh dHo dFh dRf dRo dIr dOa dCa dLw dMx dLe dPo dSa dSs dCv dLh dIs dSl dMv dRp dEe dC7 dLo dM7 dNx dDd dOs) (T : Txt K mg) : FnOk P w K mg base CX0 1 fCa dCa ["_law_script", "_law_k"] (spCa K) := by
  refine N.FCa.ok scCa (fun vs H Q E h => ?_) (fun cdv A outer s H vs Q E hr h => ?_)
  · obtain ⟨a, k, ns, rfl, _⟩ := h
    rfl
  · obtain ⟨a, k, ns, rfl, hS, q⟩ := h
    refine ⟨_, (@pss_cons _ _ _ _ _ (@ps_if _ _ _ _ _ _ _ _ (pt_cmpR op_lt (pv 1) (pe_callB call_len_seq rfl T.len PySem.boot_len (@pa_c _ _ _ _ _ rfl (pv 0) pa_nil)) (nomark _)) (@pss_one _ _ _ (@ps_ret _ _ _ _ (@pe_ix _ _ _ _ _ _ _ ix_list (pv 0) (pv 1) (fun _ _ => rfl)))) pss_nil)
      (@pss_one _ _ _ (@ps_ret _ _ _ _ pe_int))), ?_⟩
    refine ⟨_, rfl, _, rfl, a, _, rfl, .inl hS, _, _, rfl, rfl, _, rfl, ?_⟩
    refine ite2 (fun h1 => ?_) (fun h1 => ?_)
    · have hlt : k < ns.length := by have := of_decide_eq_true h1; rw [List.length_map] at this; omega
      exact ⟨_, rfl, _, rfl, a, _, _, .int ns[k], rfl, rfl, hS, atI_nat (by rw [List.getElem?_map, List.getElem?_eq_getElem hlt]; rfl), q _⟩
    · exact q 0
theorem scMx : FnScope ["_law_cell", "_law_by", "_law_many", "_law_digits", "_law_turn", "_law_one", "_law_two"] ["_law_cell", "_law_by", "_law_many"] (defScope sMx) := ⟨rfl, rfl, rfl, by decide +kernel, rfl, by decide +kernel, by decide +kernel⟩
theorem ok_Mx (N : Fns K mg c1 c2 fWh fMb fIl fHw fAh fHo fFh fRf fRo fIr fOa fCa fLw fMx fLe fPo fSa fSs fCv fLh fIs fSl fMv fRp fEe fC7 fLo fM7 fNx fDd fOs dWh dMb dIl dHw dAh dHo dFh dRf dRo dIr dOa dCa dLw dMx dLe dPo dSa dSs dCv dLh dIs dSl dMv dRp dEe dC7 dLo dM7 dNx dDd dOs) (T : Txt K mg) : FnOk P w K mg base CX0 1 fMx dMx ["_law_cell", "_law_by", "_law_many"] spMx := by
  refine N.FMx.ok scMx (fun vs H Q E h => ?_) (fun cdv A outer s H vs Q E hr h => ?_)
  · obtain ⟨c, b, m, rfl, _⟩ := h
    rfl
  · obtain ⟨c, b, m, rfl, hm, hb0, hb1, q⟩ := h
    refine ⟨_, (@pss_cons _ _ _ _ _ (@ps_if _ _ _ _ _ _ _ _ (pt_cmpR op_ge (pv 0) (pe_op op_pow pe_int pe_int) (nomark _)) (@pss_cons _ _ _ _ _ (@ps_setE _ _ _ _ _ _ 3 scMx.nd rfl (Or.inl rfl) (pe_op op_fdiv (pv 0) pe_int) (by kernel_rfl) (.inl rfl))
      (@pss_cons _ _ _ _ _ (ps_for PassesOwn.never rfl (pi_range1 rfl T.range (@pa_c _ _ _ _ _ rfl (pe_op op_mod (pe_op op_add (pv 1) (pe_op op_mod (pv 0) pe_int)) pe_int) pa_nil)) (pg_name (i := 4) scMx.nd rfl (Or.inl rfl)) (@pss_one _ _ _ (@ps_setE _ _ _ _ _ _ 3 scMx.nd rfl (Or.inl rfl) (pe_op op_fdivG (pv 3) (pe_op op_pow pe_int pe_int)) (by kernel_rfl) (.inl rfl))))
      (@pss_one _ _ _ (@ps_ret _ _ _ _ (pe_op op_mod (pe_op op_mod (pv 3) (pe_op op_pow pe_int pe_int)) (pv 2)))))) pss_nil)
      (@pss_cons _ _ _ _ _ (@ps_setE _ _ _ _ _ _ 5 scMx.nd rfl (Or.inl rfl) (pe_op op_mod (pe_op op_mul (pe_op op_add (pe_op op_mod (pv 0) pe_int) (pv 1)) pe_int) pe_int) (by kernel_rfl) (.inl rfl))
      (@pss_cons _ _ _ _ _ (@ps_setE _ _ _ _ _ _ 6 scMx.nd rfl (Or.inl rfl) (pe_op op_mod (pe_op op_add (pe_op op_mul (pv 5) (pv 5)) (pv 1)) pe_int) (by kernel_rfl) (.inl rfl))
      (@pss_one _ _ _ (@ps_ret _ _ _ _ (pe_op op_mod (pe_op op_fdiv (pe_op op_add (pe_op op_mul (pv 6) pe_int) (pe_op op_mod (pe_op op_mul (pv 6) (pv 5)) pe_int)) pe_int) (pv 2))))))), ?_⟩
    refine ⟨_, rfl, _, _, rfl, rfl, ⟨by decide, by decide, by decide⟩, _, _, rfl, rfl, _, rfl, ?_⟩
    refine ite2 (fun h1 => ?_) (fun h1 => ?_)
    · refine ⟨_, rfl, _, _, rfl, rfl, ⟨by decide, by decide⟩, ?_⟩
      have e29 : 0 ≤ (b + c % 10080) % 29 ∧ (b + c % 10080) % 29 < 29 := ⟨Int.emod_nonneg _ (by decide), Int.emod_lt_of_pos _ (by decide)⟩
      refine ⟨_, rfl, _, rfl, _, _, rfl, rfl, (by show (0 : Int) < 10080; decide), _, _, rfl, rfl, _, _, rfl, rfl, (by show (0 : Int) < 29; decide), _, rfl, by show -(2 ^ 62) ≤ (b + c % 10080) % 29; omega, by show (b + c % 10080) % 29 < 2 ^ 62; omega, for_range (lo := 0) (n := ((b + c % 10080) % 29).toNat) (fun i σ H4 => H4 = H ∧ ∃ (z : Int) (v4 : Option V), σ = [some (.int c), some (.int b), some (.int m), some (.int z), v4, none, none]) ⟨rfl, _, _, rfl⟩ ?_ ?_⟩
      · rintro i σ H4 hi ⟨rfl, z, v4, rfl⟩
        exact ⟨_, rfl, _, _, rfl, rfl, ⟨by decide, by decide, by decide⟩, _, _, rfl, rfl, ⟨by show (0 : Int) < 10 ^ (13 : Int).toNat; decide, by show (10 : Int) ^ (13 : Int).toNat < 2 ^ 200; decide⟩, rfl, _, _, rfl⟩
      · rintro σ H4 ⟨rfl, z, v4, rfl⟩
        exact ⟨_, rfl, _, _, rfl, rfl, ⟨by decide, by decide, by decide⟩, _, _, rfl, rfl, (by show (0 : Int) < 10 ^ (13 : Int).toNat; decide), _, rfl, _, _, rfl, rfl, hm, q _ (Int.emod_nonneg _ (by omega)) (Int.emod_lt_of_pos _ hm)⟩
    · have c0 : 0 ≤ c % 1000003 ∧ c % 1000003 < 1000003 := ⟨Int.emod_nonneg _ (by decide), Int.emod_lt_of_pos _ (by decide)⟩
      refine ⟨_, rfl, _, _, rfl, rfl, (by show (0 : Int) < 1000003; decide), _, rfl, _, _, rfl, rfl, _, _, rfl, rfl, .inr ⟨by decide, by decide⟩, _, _, rfl, rfl, (by show (0 : Int) < 2147483647; decide), ?_⟩
      have o0 : 0 ≤ (c % 1000003 + b) * 48271 % 2147483647 ∧ (c % 1000003 + b) * 48271 % 2147483647 < 2147483647 := ⟨Int.emod_nonneg _ (by decide), Int.emod_lt_of_pos _ (by decide)⟩
      show gName 5 (V.int ((c % 1000003 + b) * 48271 % 2147483647)) _ _ _
      generalize (c % 1000003 + b) * 48271 % 2147483647 = one at o0
      refine ⟨_, rfl, _, rfl, _, _, rfl, rfl, .inl ⟨by omega, by omega⟩, _, rfl, _, _, rfl, rfl, _, _, rfl, rfl, (by show (0 : Int) < 2147483629; decide), ?_⟩
      have t0 : 0 ≤ (one * one + b) % 2147483629 ∧ (one * one + b) % 2147483629 < 2147483629 := ⟨Int.emod_nonneg _ (by decide), Int.emod_lt_of_pos _ (by decide)⟩
      show gName 6 (V.int ((one * one + b) % 2147483629)) _ _ _
      generalize (one * one + b) % 2147483629 = two at t0
      exact ⟨_, rfl, _, _, rfl, rfl, .inl ⟨by omega, by omega⟩, _, rfl, _, rfl, _, _, rfl, rfl, .inl ⟨by omega, by omega⟩, _, _, rfl, rfl, (by show (0 : Int) < 2147483587; decide), _, _, rfl, rfl, _, _, rfl, rfl, ⟨by decide, by decide⟩, _, rfl, _, _, rfl, rfl, hm, q _ (Int.emod_nonneg _ (by omega)) (Int.emod_lt_of_pos _ hm)⟩
theorem scLe : FnScope ["_law_cell", "_law_some"] ["_law_cell"] (defScope sLe) := ⟨rfl, rfl, rfl, by decide +kernel, rfl, by decide +kernel, by decide +kernel⟩
theorem ok_Le (N : Fns K mg c1 c2 fWh fMb fIl fHw fAh fHo fFh fRf fRo fIr fOa fCa fLw fMx fLe fPo fSa fSs fCv fLh fIs fSl fMv fRp fEe fC7 fLo fM7 fNx fDd fOs dWh dMb dIl dHw dAh dHo dFh dRf dRo dIr dOa dCa dLw dMx dLe dPo dSa dSs dCv dLh dIs dSl dMv dRp dEe dC7 dLo dM7 dNx dDd dOs) (T : Txt K mg) : FnOk P w K mg base CX0 2 fLe dLe ["_law_cell"] spLe := by
  have GMx : FnOk P w K mg base CX0 1 fMx dMx ["_law_cell", "_law_by", "_law_many"] spMx := ok_Mx N T
  refine N.FLe.ok scLe (fun vs H Q E h => ?_) (fun cdv A outer s H vs Q E hr h => ?_)
  · obtain ⟨c, rfl, _⟩ := h
    rfl
  · obtain ⟨c, rfl, q⟩ := h
    have hrMx : Room 1 _ := hr.mono (by decide)
    refine ⟨_, (@pss_cons _ _ _ _ _ (@ps_setE _ _ _ _ _ _ 1 scLe.nd rfl (Or.inl rfl) (@pe_lst _ _ _ _ (@pa_c _ _ _ _ _ rfl (pe_op op_add pe_int (pe_call GMx hrMx rfl N.mMx N.FMx.kp N.bMx .nil pass0 (@pa_c _ _ _ _ _ rfl (pv 0) (@pa_c _ _ _ _ _ rfl pe_int (@pa_c _ _ _ _ _ rfl pe_int pa_nil))))) (@pa_c _ _ _ _ _ rfl (pe_op op_sub (pe_op op_pow pe_int pe_int) (pe_call GMx hrMx rfl N.mMx N.FMx.kp N.bMx .nil pass0 (@pa_c _ _ _ _ _ rfl (pv 0) (@pa_c _ _ _ _ _ rfl pe_int (@pa_c _ _ _ _ _ rfl pe_int pa_nil))))) (@pa_c _ _ _ _ _ rfl (pe_op op_mod (pe_op op_fdiv (pv 0) pe_int) (pe_op op_add (pe_op op_pow pe_int pe_int) pe_int)) pa_nil)))) (by kernel_rfl) (.inl rfl))
      (@pss_one _ _ _ (@ps_ret _ _ _ _ (@pe_ix _ _ _ _ _ _ _ ix_list (pe_op op_cat (pv 1) (@pe_lst _ _ _ _ (@pa_c _ _ _ _ _ rfl (pe_op op_add pe_int (pe_call GMx hrMx rfl N.mMx N.FMx.kp N.bMx .nil pass0 (@pa_c _ _ _ _ _ rfl (pv 0) (@pa_c _ _ _ _ _ rfl pe_int (@pa_c _ _ _ _ _ rfl pe_int pa_nil))))) pa_nil))) (pe_call GMx hrMx rfl N.mMx N.FMx.kp N.bMx .nil pass0 (@pa_c _ _ _ _ _ rfl (pv 0) (@pa_c _ _ _ _ _ rfl pe_int (@pa_c _ _ _ _ _ rfl pe_int pa_nil)))) (fun _ _ => rfl))))), ?_⟩
    refine ⟨_, rfl, c, 31541, 40, rfl, by decide, by decide, by decide, fun r1 r10 r11 => ⟨_, _, rfl, rfl, _, _, rfl, rfl, ⟨by decide, by decide, by decide⟩, _, rfl, c, 44621, 3, rfl, by decide, by decide, by decide, fun r2 r20 r21 => ⟨_, _, rfl, rfl, _, rfl, _, _, rfl, rfl, ⟨by decide, by decide⟩, _, _, rfl, rfl, ⟨by decide, by decide, by decide⟩, _, _, rfl, rfl, _, _, rfl, rfl, (by show (0 : Int) < 10 ^ (12 : Int).toNat + 1; decide), by show 3 ≤ sizeLine; decide, fun p1 hp1 => ?_⟩⟩⟩
    have e3 : 0 ≤ c / 3 % (10 ^ (12 : Int).toNat + 1) ∧ c / 3 % (10 ^ (12 : Int).toNat + 1) ≤ 1000000000000 := by
      have e : (10 : Int) ^ (12 : Int).toNat + 1 = 1000000000001 := by decide
      rw [e]
      omega
    show gName 1 (V.ref p1) _ (upd H p1 (HO.lst [V.int (1 + r1), V.int (10 ^ (12 : Int).toNat - r2), V.int (c / 3 % (10 ^ (12 : Int).toNat + 1))])) _
    have e4 : (10 : Int) ^ (12 : Int).toNat - r2 = 1000000000000 - r2 := by
      have e : (10 : Int) ^ (12 : Int).toNat = 1000000000000 := by decide
      rw [e]
    rw [e4]
    generalize c / 3 % (10 ^ (12 : Int).toNat + 1) = z3 at e3 ⊢
    have s1 := same_upd (o := HO.lst [V.int (1 + r1), V.int (1000000000000 - r2), V.int z3]) hp1
    have l1 : upd H p1 (HO.lst [V.int (1 + r1), V.int (1000000000000 - r2), V.int z3]) p1 = some (.lst [V.int (1 + r1), V.int (1000000000000 - r2), V.int z3]) := upd_same
    generalize upd H p1 (HO.lst [V.int (1 + r1), V.int (1000000000000 - r2), V.int z3]) = H1 at s1 l1 ⊢
    refine ⟨_, rfl, _, rfl, c, 55051, 300, rfl, by decide, by decide, by decide, fun r4 r40 r41 => ⟨_, _, rfl, rfl, by show 1 ≤ sizeLine; decide, fun p2 hp2 => ?_⟩⟩
    dsimp only
    have s2 := same_upd (o := HO.lst [V.int (2 + r4)]) hp2
    have l2 : upd H1 p2 (HO.lst [V.int (2 + r4)]) p2 = some (.lst [V.int (2 + r4)]) := upd_same
    generalize upd H1 p2 (HO.lst [V.int (2 + r4)]) = H2 at s2 l2 ⊢
    refine ⟨p1, p2, _, _, rfl, rfl, s2 _ _ l1, l2, by show 4 ≤ sizeLine; decide, fun p3 hp3 => ?_⟩
    have s3 := same_upd (o := HO.lst ([V.int (1 + r1), V.int (1000000000000 - r2), V.int z3] ++ [V.int (2 + r4)])) hp3
    have l3 : upd H2 p3 (HO.lst ([V.int (1 + r1), V.int (1000000000000 - r2), V.int z3] ++ [V.int (2 + r4)])) p3 = some (.lst ([1 + r1, 1000000000000 - r2, z3, 2 + r4].map V.int)) := upd_same
    generalize upd H2 p3 (HO.lst ([V.int (1 + r1), V.int (1000000000000 - r2), V.int z3] ++ [V.int (2 + r4)])) = H3 at s3 l3 ⊢
    refine ⟨_, rfl, c, 27437, 4, rfl, by decide, by decide, by decide, fun r5 r50 r51 => ?_⟩
    obtain ⟨v, _, hv, hat⟩ := ints_at (ns := [1 + r1, 1000000000000 - r2, z3, 2 + r4]) (i := r5) r50 (by show r5 < 4; omega)
    have hb : ∀ x ∈ [1 + r1, 1000000000000 - r2, z3, 2 + r4], 0 ≤ x ∧ x ≤ 1000000000000 := fun x hx => by
      simp only [List.mem_cons, List.not_mem_nil, or_false] at hx
      omega
    exact ⟨p3, _, _, _, rfl, rfl, .inl (.inl l3), hat, q v H3 (s1.trans (s2.trans s3)) (hb v hv).1 (hb v hv).2⟩
theorem scPo : FnScope ["_law_length_here", "_law_cell", "_law_points_here", "_law_k", "_law_step"] ["_law_length_here", "_law_cell"] (defScope sPo) := ⟨rfl, rfl, rfl, by decide +kernel, rfl, by decide +kernel, by decide +kernel⟩
theorem ok_Po (N : Fns K mg c1 c2 fWh fMb fIl fHw fAh fHo fFh fRf fRo fIr fOa fCa fLw fMx fLe fPo fSa fSs fCv fLh fIs fSl fMv fRp fEe fC7 fLo fM7 fNx fDd fOs dWh dMb dIl dHw dAh dHo dFh dRf dRo dIr dOa dCa dLw dMx dLe dPo dSa dSs dCv dLh dIs dSl dMv dRp dEe dC7 dLo dM7 dNx dDd dOs) (T : Txt K mg) : FnOk P w K mg base CX0 2 fPo dPo ["_law_length_here", "_law_cell"] spPo := by
  have GMx : FnOk P w K mg base CX0 1 fMx dMx ["_law_cell", "_law_by", "_law_many"] spMx := ok_Mx N T
  refine N.FPo.ok scPo (fun vs H Q E h => ?_) (fun cdv A outer s H vs Q E hr h => ?_)
  · obtain ⟨len, c, rfl, _⟩ := h
    rfl
  · obtain ⟨len, c, rfl, hl0, hl1, q⟩ := h
    have hrMx : Room 1 _ := hr.mono (by decide)
    refine ⟨_, (@pss_cons _ _ _ _ _ (@ps_setE _ _ _ _ _ _ 2 scPo.nd rfl (Or.inl rfl) (@pe_lst _ _ _ _ (@pa_c _ _ _ _ _ rfl pe_int (@pa_c _ _ _ _ _ rfl (pv 0) pa_nil))) (by kernel_rfl) (.inl rfl))
      (@pss_cons _ _ _ _ _ (ps_for PassesOwn.never rfl (pi_range1 rfl T.range (@pa_c _ _ _ _ _ rfl pe_int pa_nil)) (pg_name (i := 3) scPo.nd rfl (Or.inl rfl)) (@pss_cons _ _ _ _ _ (@ps_setE _ _ _ _ _ _ 4 scPo.nd rfl (Or.inl rfl) (pe_op op_mul (pe_call GMx hrMx rfl N.mMx N.FMx.kp N.bMx .nil pass0 (@pa_c _ _ _ _ _ rfl (pe_op op_add (pv 1) (pe_op op_mul pe_int (pv 3))) (@pa_c _ _ _ _ _ rfl pe_int (@pa_c _ _ _ _ _ rfl pe_int pa_nil)))) (pe_op op_add (pe_op op_fdiv (pv 0) pe_int) pe_int)) (by kernel_rfl) (.inl rfl))
      (@pss_cons _ _ _ _ _ (ps_expr (pe_bm PySem.F.plainAttrs_list PySem.F.slot_list_append PySem.F.type_list_append mt_append (pv 2) (@pa_c _ _ _ _ _ rfl (pe_op op_mod (pv 4) (pe_op op_add (pv 0) pe_int)) pa_nil)))
      (@pss_one _ _ _ (ps_expr (pe_bm PySem.F.plainAttrs_list PySem.F.slot_list_append PySem.F.type_list_append mt_append (pv 2) (@pa_c _ _ _ _ _ rfl (pe_callB (call_min2 rfl) rfl T.min PyProof.Rows.boot_min (@pa_c _ _ _ _ _ rfl (pv 0) (@pa_c _ _ _ _ _ rfl (pe_op op_add (@pe_ix _ _ _ _ _ _ _ ix_list (pv 2) (pe_un un_neg pe_int) (fun _ _ => rfl)) pe_int) pa_nil))) pa_nil)))))))
      (@pss_one _ _ _ (@ps_ret _ _ _ _ (pe_callB (call_sorted rfl) rfl T.sorted PyProof.Rows.boot_sorted (@pa_c _ _ _ _ _ rfl (pe_callTy (call_set rfl) rfl T.set PyProof.Rows.boot_set (@pa_c _ _ _ _ _ rfl (pv 2) pa_nil)) pa_nil)))))), ?_⟩
    refine ⟨_, rfl, by show 2 ≤ sizeLine; decide, fun p hp => ?_⟩
    have s1 := same_upd (o := HO.lst [V.int 0, V.int len]) hp
    have l1 : upd H p (HO.lst [V.int 0, V.int len]) p = some (.lst ([0, len].map V.int)) := upd_same
    generalize upd H p (HO.lst [V.int 0, V.int len]) = H1 at s1 l1 ⊢
    refine ⟨7, rfl, by decide, by decide, for_range (lo := 0) (n := 7) (fun i σ H4 => ∃ (pts : List Int) (v3 v4 : Option V), σ = [some (.int len), some (.int c), some (.ref p), v3, v4] ∧ H4 p = some (.lst (pts.map V.int)) ∧ (∀ x ∈ pts, 0 ≤ x ∧ x ≤ len) ∧ pts.length = 2 + 2 * i ∧ Same H H4) ⟨[0, len], _, _, rfl, l1, fun x hx => by simp only [List.mem_cons, List.not_mem_nil, or_false] at hx; omega, rfl, s1⟩ ?_ ?_⟩
    · rintro i σ H4 hi ⟨pts, v3, v4, rfl, l4, b4, n4, s4⟩
      refine ⟨_, rfl, _, rfl, _, _, rfl, rfl, .inl ⟨by decide, by decide⟩, _, _, rfl, rfl, _, 48271, 1000003, rfl, by decide, by decide, by decide, fun r r0 r1 => ⟨_, rfl, _, _, rfl, rfl, ⟨by decide, by decide⟩, _, _, rfl, rfl, _, _, rfl, rfl, .inl ⟨by omega, by omega⟩, ?_⟩⟩
      have q4 : SqL K H4 p (pts.map V.int) := .inl (.inl l4)
      have m0 := Int.emod_nonneg (r * (len / 1000003 + 1)) (show len + 1 ≠ 0 by omega)
      have m1 := Int.emod_lt_of_pos (r * (len / 1000003 + 1)) (show 0 < len + 1 by omega)
      refine ⟨_, rfl, .inl ⟨rfl, _, q4⟩, _, rfl, _, rfl, _, _, rfl, rfl, _, _, rfl, rfl, (by show 0 < len + 1; omega), p, _, _, rfl, rfl, l4, small1000 (by rw [List.length_map]; omega), ?_⟩
      dsimp only
      generalize r * (len / 1000003 + 1) % (len + 1) = z at m0 m1 ⊢
      have l5 : upd H4 p (HO.lst (pts.map V.int ++ [V.int z])) p = some (.lst ((pts ++ [z]).map V.int)) := by rw [upd_same, List.map_append]; rfl
      have s5 : Same H (upd H4 p (HO.lst (pts.map V.int ++ [V.int z]))) := fun b o e => by rw [upd_ne (ne_of_none e hp)]; exact s4 b o e
      generalize upd H4 p (HO.lst (pts.map V.int ++ [V.int z])) = H5 at l5 s5 ⊢
      have q5 : SqL K H5 p ((pts ++ [z]).map V.int) := .inl (.inl l5)
      have a5 : atI ((pts ++ [z]).map V.int) (-1) = some (.int z) := by rw [List.map_append]; exact at_last
      refine ⟨_, rfl, .inl ⟨rfl, _, q5⟩, _, rfl, _, rfl, _, rfl, p, _, _, _, rfl, rfl, q5, a5, _, _, rfl, rfl, _, _, rfl, p, _, _, rfl, rfl, l5, small1000 (by rw [List.length_map, List.length_append, List.length_singleton]; omega), ?_⟩
      refine ⟨pts ++ [z] ++ [if z + 1 < len then z + 1 else len], _, _, rfl, by rw [upd_same, List.map_append (l₁ := pts ++ [z])]; rfl, fun x hx => ?_, by rw [List.length_append, List.length_append, n4]; rfl, fun b o e => by rw [upd_ne (ne_of_none e hp)]; exact s5 b o e⟩
      rcases List.mem_append.mp hx with hx | hx
      · rcases List.mem_append.mp hx with hx | hx
        · exact b4 x hx
        · rw [List.mem_singleton.mp hx]; omega
      · rw [List.mem_singleton.mp hx]
        split <;> omega
    · rintro σ H4 ⟨pts, v3, v4, rfl, l4, b4, n4, s4⟩
      refine ⟨_, rfl, p, pts, rfl, .inl (.inl l4), by omega, fun p2 hp2 => ⟨p2, _, rfl, upd_same, ?_, fun p3 ms hp3 pm po => ?_⟩⟩
      · have := Wd.foldI_len pts []
        simp at this
        omega
      · obtain ⟨g1, g2⟩ := set_sorted pm po
        have hms : ms.length ≤ 16 := by
          rw [pm.length_eq]
          have := Wd.foldI_len pts []
          simp at this
          omega
        refine q p3 ms _ (s4.trans ((same_upd hp2).trans (same_upd hp3))) upd_same g1 (fun x hx => b4 x ((g2 x).mp hx)) hms fun e => ?_
        have hp0 : pts ≠ [] := fun z => by rw [z] at n4; simp at n4
        obtain ⟨x, r, er⟩ := List.exists_cons_of_ne_nil hp0
        have := (g2 x).mpr (by rw [er]; exact List.mem_cons_self ..)
        rw [e] at this
        cases this
theorem pick_two {ps : List Int} (hs : ps.Pairwise (· < ·)) {i j : Int} {x y : Int} (h0 : 0 ≤ i) (hij : i < j) (hx : ps[i.toNat]? = some x) (hy : ps[j.toNat]? = some y) : x < y := by
  obtain ⟨h1, e1⟩ := List.getElem?_eq_some_iff.mp hx
  obtain ⟨h2, e2⟩ := List.getElem?_eq_some_iff.mp hy
  have := List.pairwise_iff_getElem.mp hs i.toNat j.toNat h1 h2 (by omega)
  omega
theorem scSa : FnScope ["_law_points_here", "_law_cell", "_law_low", "_law_high", "_law_track"] ["_law_points_here", "_law_cell"] (defScope sSa) := ⟨rfl, rfl, rfl, by decide +kernel, rfl, by decide +kernel, by decide +kernel⟩
theorem ok_Sa (N : Fns K mg c1 c2 fWh fMb fIl fHw fAh fHo fFh fRf fRo fIr fOa fCa fLw fMx fLe fPo fSa fSs fCv fLh fIs fSl fMv fRp fEe fC7 fLo fM7 fNx fDd fOs dWh dMb dIl dHw dAh dHo dFh dRf dRo dIr dOa dCa dLw dMx dLe dPo dSa dSs dCv dLh dIs dSl dMv dRp dEe dC7 dLo dM7 dNx dDd dOs) (T : Txt K mg) : FnOk P w K mg base CX0 2 fSa dSa ["_law_points_here", "_law_cell"] (spSa K) := by
  have GMx : FnOk P w K mg base CX0 1 fMx dMx ["_law_cell", "_law_by", "_law_many"] spMx := ok_Mx N T
  refine N.FSa.ok scSa (fun vs H Q E h => ?_) (fun cdv A outer s H vs Q E hr h => ?_)
  · obtain ⟨l, ps, c, len, rfl, _⟩ := h
    rfl
  · obtain ⟨l, ps, c, len, rfl, hS, n2, n16, hs, hb, q⟩ := h
    have hrMx : Room 1 _ := hr.mono (by decide)
    refine ⟨_, (@pss_cons _ _ _ _ _ (@ps_setE _ _ _ _ _ _ 2 scSa.nd rfl (Or.inl rfl) (pe_call GMx hrMx rfl N.mMx N.FMx.kp N.bMx .nil pass0 (@pa_c _ _ _ _ _ rfl (pv 1) (@pa_c _ _ _ _ _ rfl pe_int (@pa_c _ _ _ _ _ rfl (pe_op op_sub (pe_callB call_len_seq rfl T.len PySem.boot_len (@pa_c _ _ _ _ _ rfl (pv 0) pa_nil)) pe_int) pa_nil)))) (by kernel_rfl) (.inl rfl))
      (@pss_cons _ _ _ _ _ (@ps_setE _ _ _ _ _ _ 3 scSa.nd rfl (Or.inl rfl) (pe_op op_add (pe_op op_add (pv 2) pe_int) (pe_call GMx hrMx rfl N.mMx N.FMx.kp N.bMx .nil pass0 (@pa_c _ _ _ _ _ rfl (pv 1) (@pa_c _ _ _ _ _ rfl pe_int (@pa_c _ _ _ _ _ rfl (pe_callB (call_min2 rfl) rfl T.min PyProof.Rows.boot_min (@pa_c _ _ _ _ _ rfl pe_int (@pa_c _ _ _ _ _ rfl (pe_op op_sub (pe_op op_sub (pe_callB call_len_seq rfl T.len PySem.boot_len (@pa_c _ _ _ _ _ rfl (pv 0) pa_nil)) pe_int) (pv 2)) pa_nil))) pa_nil))))) (by kernel_rfl) (.inl rfl))
      (@pss_cons _ _ _ _ _ (@ps_setE _ _ _ _ _ _ 4 scSa.nd rfl (Or.inl rfl) (@pe_lst _ _ _ _ (@pa_c _ _ _ _ _ rfl (pe_call GMx hrMx rfl N.mMx N.FMx.kp N.bMx .nil pass0 (@pa_c _ _ _ _ _ rfl (pv 1) (@pa_c _ _ _ _ _ rfl pe_int (@pa_c _ _ _ _ _ rfl pe_int pa_nil)))) (@pa_c _ _ _ _ _ rfl (pe_call GMx hrMx rfl N.mMx N.FMx.kp N.bMx .nil pass0 (@pa_c _ _ _ _ _ rfl (pv 1) (@pa_c _ _ _ _ _ rfl pe_int (@pa_c _ _ _ _ _ rfl pe_int pa_nil)))) (@pa_c _ _ _ _ _ rfl (pe_op op_mod (pe_op op_fdiv (pv 1) pe_int) pe_int) (@pa_c _ _ _ _ _ rfl (pe_op op_sub pe_int (pe_call GMx hrMx rfl N.mMx N.FMx.kp N.bMx .nil pass0 (@pa_c _ _ _ _ _ rfl (pv 1) (@pa_c _ _ _ _ _ rfl pe_int (@pa_c _ _ _ _ _ rfl pe_int pa_nil))))) pa_nil))))) (by kernel_rfl) (.inl rfl))
      (@pss_one _ _ _ (@ps_ret _ _ _ _ (@pe_tup _ _ _ _ _ (@pa_c _ _ _ _ _ rfl (@pe_ix _ _ _ _ _ _ _ ix_list (pv 4) (pe_call GMx hrMx rfl N.mMx N.FMx.kp N.bMx .nil pass0 (@pa_c _ _ _ _ _ rfl (pv 1) (@pa_c _ _ _ _ _ rfl pe_int (@pa_c _ _ _ _ _ rfl pe_int pa_nil)))) (fun _ _ => rfl)) (@pa_c _ _ _ _ _ rfl (@pe_ix _ _ _ _ _ _ _ ix_list (pv 0) (pv 2) (fun _ _ => rfl)) (@pa_c _ _ _ _ _ rfl (@pe_ix _ _ _ _ _ _ _ ix_list (pv 0) (pv 3) (fun _ _ => rfl)) pa_nil))))))))), ?_⟩
    have hlm : (ps.map V.int).length = ps.length := List.length_map ..
    refine ⟨_, rfl, _, rfl, l, _, rfl, .inl hS, _, _, rfl, rfl, c, 69623, _, rfl, by show 0 < ((ps.map V.int).length : Int) - 1; omega, by decide, by decide, fun low w0 w1 => ?_⟩
    have w1' : low < ((ps.map V.int).length : Int) - 1 := w1
    refine ⟨_, rfl, _, _, rfl, rfl, _, rfl, _, rfl, l, _, rfl, .inl hS, _, _, rfl, rfl, _, rfl, _, _, rfl, rfl, _, _, rfl, c, 40709, _, rfl, ?_, by decide, by decide, fun h h0 h1 => ⟨_, _, rfl, rfl, ?_⟩⟩
    · show 0 < (if ((ps.map V.int).length : Int) - 1 - low < 3 then ((ps.map V.int).length : Int) - 1 - low else 3)
      split <;> omega
    have h1' : h < (if ((ps.map V.int).length : Int) - 1 - low < 3 then ((ps.map V.int).length : Int) - 1 - low else 3) := h1
    have hhi : low + 1 + h < ps.length := by split at h1' <;> omega
    show gName 3 (V.int (low + 1 + h)) _ _ _
    refine ⟨_, rfl, c, 18149, 4, rfl, by decide, by decide, by decide, fun r1 r10 r11 => ⟨_, rfl, c, 13499, 6, rfl, by decide, by decide, by decide, fun r2 r20 r21 => ⟨_, rfl, _, _, rfl, rfl, ⟨by decide, by decide⟩, _, _, rfl, rfl, (by show (0 : Int) < 1200; decide), _, rfl, c, 57089, 3, rfl, by decide, by decide, by decide, fun r3 r30 r31 => ⟨_, _, rfl, rfl, by show 4 ≤ sizeLine; decide, fun p1 hp1 => ?_⟩⟩⟩⟩
    dsimp only
    have s1 := same_upd (o := HO.lst [V.int r1, V.int r2, V.int (c / 7 % 1200), V.int (1199 - r3)]) hp1
    have l1 : upd H p1 (HO.lst [V.int r1, V.int r2, V.int (c / 7 % 1200), V.int (1199 - r3)]) p1 = some (.lst ([r1, r2, c / 7 % 1200, 1199 - r3].map V.int)) := upd_same
    generalize upd H p1 (HO.lst [V.int r1, V.int r2, V.int (c / 7 % 1200), V.int (1199 - r3)]) = H1 at s1 l1 ⊢
    have hS1 := s1.seq hS
    refine ⟨_, rfl, _, rfl, c, 17681, 4, rfl, by decide, by decide, by decide, fun r4 r40 r41 => ?_⟩
    obtain ⟨tr, _, htr, hat⟩ := ints_at (ns := [r1, r2, c / 7 % 1200, 1199 - r3]) (i := r4) r40 (by show r4 < 4; omega)
    have hbt : ∀ x ∈ [r1, r2, c / 7 % 1200, 1199 - r3], 0 ≤ x ∧ x < 1200 := fun x hx => by
      simp only [List.mem_cons, List.not_mem_nil, or_false] at hx
      omega
    obtain ⟨f, ef, hf, haf⟩ := ints_at (ns := ps) (i := low) w0 (by omega)
    obtain ⟨b, eb, hb2, hab⟩ := ints_at (ns := ps) (i := low + 1 + h) (by omega) hhi
    have hfb := pick_two hs w0 (show low < low + 1 + h by omega) ef eb
    refine ⟨p1, _, _, _, rfl, rfl, .inl (.inl l1), hat, _, rfl, _, rfl, l, _, _, _, rfl, rfl, hS1, haf, _, rfl, _, rfl, l, _, _, _, rfl, rfl, hS1, hab, by show 3 ≤ sizeLine; decide, fun T0 hT0 => ?_⟩
    exact q T0 (tr, f, b) _ (s1.trans (same_upd hT0)) upd_same ⟨(hbt tr htr).1, (hbt tr htr).2, (hb f hf).1, hfb, (hb b hb2).2⟩ hf hb2
theorem scSs : FnScope ["_law_cells", "_law_length_here", "_law_cell", "_law_points_here"] ["_law_cells", "_law_length_here", "_law_cell"] (defScope sSs) := ⟨rfl, rfl, rfl, by decide +kernel, rfl, by decide +kernel, by decide +kernel⟩
theorem ok_Ss (N : Fns K mg c1 c2 fWh fMb fIl fHw fAh fHo fFh fRf fRo fIr fOa fCa fLw fMx fLe fPo fSa fSs fCv fLh fIs fSl fMv fRp fEe fC7 fLo fM7 fNx fDd fOs dWh dMb dIl dHw dAh dHo dFh dRf dRo dIr dOa dCa dLw dMx dLe dPo dSa dSs dCv dLh dIs dSl dMv dRp dEe dC7 dLo dM7 dNx dDd dOs) (T : Txt K mg) : FnOk P w K mg base CX0 3 fSs dSs ["_law_cells", "_law_length_here", "_law_cell"] (spSs K) := by
  have GPo : FnOk P w K mg base CX0 2 fPo dPo ["_law_length_here", "_law_cell"] spPo := ok_Po N T
  have GSa : FnOk P w K mg base CX0 2 fSa dSa ["_law_points_here", "_law_cell"] (spSa K) := ok_Sa N T
  refine N.FSs.ok scSs (fun vs H Q E h => ?_) (fun cdv A outer s H vs Q E hr h => ?_)
  · obtain ⟨l, cs, len, c, rfl, _⟩ := h
    rfl
  · obtain ⟨l, cs, len, c, rfl, hS, n63, hl0, hl1, q⟩ := h
    have hrPo : Room 2 _ := hr.mono (by decide)
    have hrSa : Room 2 _ := hr.mono (by decide)
    refine ⟨_, (@pss_cons _ _ _ _ _ (@ps_setE _ _ _ _ _ _ 3 scSs.nd rfl (Or.inr rfl) (pe_call GPo hrPo rfl N.mPo N.FPo.kp N.bPo .nil pass0 (@pa_c _ _ _ _ _ rfl (pv 1) (@pa_c _ _ _ _ _ rfl (pv 2) pa_nil))) (by kernel_rfl) (.inl rfl))
      (@pss_cons _ _ _ _ _ (@ps_if _ _ _ _ _ _ _ _ (pt_cmpR op_lt (pe_callB call_len_seq rfl T.len PySem.boot_len (@pa_c _ _ _ _ _ rfl (pv 3) pa_nil)) pe_int (nomark _)) (@pss_one _ _ _ (@ps_ret _ _ _ _ (@pe_lst _ _ _ _ pa_nil))) pss_nil)
      (@pss_one _ _ _ (@ps_ret _ _ _ _ (pe_comp rfl (compScope (osc := defScope sSs) (N := ["_law_cells", "_law_length_here", "_law_cell", "_law_points_here"]) rfl rfl (by decide +kernel)) (pi_list (pv 0)) (fun _ _ _ _ => pf_nil) (fun _ _ _ _ => (pe_call GSa hrSa rfl N.mSa N.FSa.kp N.bSa .nil pass0 (@pa_c _ _ _ _ _ rfl (pv 4) (@pa_c _ _ _ _ _ rfl (pv 0) pa_nil))))))))), ?_⟩
    refine ⟨_, rfl, _, rfl, len, c, rfl, hl0, hl1, fun p ps H1 s1 lp hs hb n16 hne => ?_⟩
    have q1 : SqL K H1 p (ps.map V.int) := .inl (.inl lp)
    have hlm : (ps.map V.int).length = ps.length := List.length_map ..
    refine ⟨_, rfl, p, _, rfl, .inl q1, _, _, rfl, rfl, _, rfl, ?_⟩
    refine ite2 (fun h1 => ?_) (fun h1 => ?_)
    · exact ⟨Nat.zero_le _, fun p2 hp2 => q p2 [] [] [] _ (s1.trans (same_upd hp2)) ⟨upd_same, .nil⟩ (fun _ h => absurd h List.not_mem_nil) (Nat.zero_le _) (Nat.zero_le _)⟩
    · have n2 : 2 ≤ ps.length := by
        have : ¬ (((ps.map V.int).length : Nat) : Int) < 2 := fun z => h1 (decide_eq_true z)
        omega
      refine ⟨_, rfl, l, rfl, ⟨_, s1.seq hS⟩, comp_spans (K := K) (xs := cs.map V.int) (fun t => okH len t ∧ t.2.1 ∈ ps ∧ t.2.2 ∈ ps) (s1.seq hS) (small1000 (by rw [List.length_map]; omega)) (fun x hx H' hs R k => k H' (Same.refl H')) (fun x hx H' hs' R k => ?_) (fun D H2 ts ys hD hs' A hok hn => ?_)⟩
      · obtain ⟨i, _, rfl⟩ := List.mem_map.mp hx
        exact ⟨_, rfl, _, rfl, p, ps, i, len, rfl, hs'.seq q1, n2, n16, hs, hb, fun T0 t H3 s3 hT h2 h3 h4 => k T0 t H3 s3 hT ⟨h2, h3, h4⟩⟩
      · exact q D ts ys ps H2 (s1.trans hs') A hok n16 (by rw [hn, List.length_map]; exact Nat.le_refl _)
theorem scCv : FnScope ["_law_mine", "_law_tick", "_law_track", "_law_first", "_law_behind"] ["_law_mine", "_law_tick"] (defScope sCv) := ⟨rfl, rfl, rfl, by decide +kernel, rfl, by decide +kernel, by decide +kernel⟩
theorem ok_Cv (N : Fns K mg c1 c2 fWh fMb fIl fHw fAh fHo fFh fRf fRo fIr fOa fCa fLw fMx fLe fPo fSa fSs fCv fLh fIs fSl fMv fRp fEe fC7 fLo fM7 fNx fDd fOs dWh dMb dIl dHw dAh dHo dFh dRf dRo dIr dOa dCa dLw dMx dLe dPo dSa dSs dCv dLh dIs dSl dMv dRp dEe dC7 dLo dM7 dNx dDd dOs) (T : Txt K mg) : FnOk P w K mg base CX0 1 fCv dCv ["_law_mine", "_law_tick"] spCv := by
  refine N.FCv.ok scCv (fun vs H Q E h => ?_) (fun cdv A outer s H vs Q E hr h => ?_)
  · obtain ⟨a, ts, ys, tick, rfl, _⟩ := h
    rfl
  · obtain ⟨a, ts, ys, tick, rfl, A0, q⟩ := h
    refine ⟨_, (@pss_cons _ _ _ _ _ (ps_for PassesOwn.never rfl (pi_list (pv 0)) (pg_tup rfl (pgs_cons (pg_name (i := 2) scCv.nd rfl (Or.inl rfl)) (pgs_cons (pg_name (i := 3) scCv.nd rfl (Or.inl rfl)) (pgs_cons (pg_name (i := 4) scCv.nd rfl (Or.inl rfl)) pgs_nil)))) (@pss_one _ _ _ (@ps_if _ _ _ _ _ _ _ _ (PW.pt (pw_and (pt_cmpR op_le (pv 3) (pv 1) (nomark _)) (pw_and1 (pt_cmpR op_lt (pv 1) (pv 4) (nomark _))))) (@pss_one _ _ _ (@ps_ret _ _ _ _ pe_bl)) pss_nil)))
      (@pss_one _ _ _ (@ps_ret _ _ _ _ pe_bl))), ?_⟩
    refine ⟨_, rfl, a, rfl, ⟨_, .inl (.inl A0.l)⟩, for_list (K := K) (a := a) (xs := ys) (fun i σ H4 => H4 = H ∧ (∃ (v2 v3 v4 : Option V), σ = [some (.ref a), some (.int tick), v2, v3, v4]) ∧ ¬ ∃ h ∈ ts.take i, h.2.1 ≤ tick ∧ tick < h.2.2) ⟨rfl, ⟨_, _, _, rfl⟩, fun ⟨h, hm, _⟩ => by cases hm⟩ (fun i σ H4 _ h => by rw [h.1]; exact .inl (.inl A0.l)) ?_ ?_⟩
    · rintro i y σ H4 hi ⟨rfl, ⟨v2, v3, v4, rfl⟩, hno⟩
      obtain ⟨x, T0, hx, hxd, rfl, hT⟩ := A0.at hi
      obtain ⟨e1, e2⟩ := split_at hx
      refine ⟨T0, _, rfl, .inl (.inl hT), rfl, _, _, rfl, _, _, rfl, _, _, rfl, rfl, ?_⟩
      have next : ¬ (x.2.1 ≤ tick ∧ tick < x.2.2) → ¬ ∃ h ∈ ts.take (i + 1), h.2.1 ≤ tick ∧ tick < h.2.2 := fun hn ⟨h, hm, r⟩ => by
        rw [e2] at hm
        rcases List.mem_append.mp hm with hm | hm
        · exact hno ⟨h, hm, r⟩
        · rw [List.mem_singleton.mp hm] at r; exact hn r
      refine ⟨_, rfl, _, rfl, _, _, rfl, rfl, _, rfl, ?_⟩
      refine ite2 (fun h1 => ?_) (fun h1 => ?_)
      · refine ⟨_, rfl, _, rfl, _, _, rfl, rfl, _, rfl, ?_⟩
        refine ite2 (fun h2 => ?_) (fun h2 => ?_)
        · exact q true ⟨fun _ => ⟨x, hxd, of_decide_eq_true h1, of_decide_eq_true h2⟩, fun _ => rfl⟩
        · exact ⟨rfl, ⟨_, _, _, rfl⟩, next fun r => h2 (decide_eq_true r.2)⟩
      · exact iteF ⟨rfl, ⟨_, _, _, rfl⟩, next fun r => h1 (decide_eq_true r.1)⟩
    · rintro σ H4 ⟨rfl, ⟨v2, v3, v4, rfl⟩, hno⟩
      rw [List.take_of_length_le (by rw [A0.len]; exact Nat.le_refl _)] at hno
      exact q false ⟨fun z => (by cases z), fun z => absurd z hno⟩
theorem flat_i (l : List Int) : (l.map V.int).all flatV = true := by rw [List.all_map]; exact List.all_eq_true.mpr fun _ _ => rfl
theorem scIs : FnScope ["_law_found", "_law_length_here", "_law_holes_here", "_law_hole"] ["_law_found", "_law_length_here", "_law_holes_here"] (defScope sIs) := ⟨rfl, rfl, rfl, by decide +kernel, rfl, by decide +kernel, by decide +kernel⟩
theorem ok_Is (N : Fns K mg c1 c2 fWh fMb fIl fHw fAh fHo fFh fRf fRo fIr fOa fCa fLw fMx fLe fPo fSa fSs fCv fLh fIs fSl fMv fRp fEe fC7 fLo fM7 fNx fDd fOs dWh dMb dIl dHw dAh dHo dFh dRf dRo dIr dOa dCa dLw dMx dLe dPo dSa dSs dCv dLh dIs dSl dMv dRp dEe dC7 dLo dM7 dNx dDd dOs) (T : Txt K mg) : FnOk P w K mg base CX0 2 fIs dIs ["_law_found", "_law_length_here", "_law_holes_here"] spIs := by
  have GLw : FnOk P w K mg base CX0 1 fLw dLw ["_law_found"] spWh := ok_Lw N T
  refine N.FIs.ok scIs (fun vs H Q E h => ?_) (fun cdv A outer s H vs Q E hr h => ?_)
  · obtain ⟨r, p2, len, hs, zs2, rfl, _⟩ := h
    rfl
  · obtain ⟨r, p2, len, hs, zs2, rfl, ⟨p, zs, hr1, A1⟩, A2, q⟩ := h
    have hrLw : Room 1 _ := hr.mono (by decide)
    refine ⟨_, (@pss_cons _ _ _ _ _ (@ps_if _ _ _ _ _ _ _ _ (PW.pt (pw_or (pt_not (pt_val (pe_callB call_isin rfl T.isin PyProof.Rows.boot_isinstance (@pa_c _ _ _ _ _ rfl (pv 0) (@pa_c _ _ _ _ _ rfl (pe_bltn (v := .ty "tuple") rfl T.tuple PyProof.Rows.boot_tuple rfl) pa_nil))))) (pw_or (pt_cmpR op_ne (pe_callB call_len_seq rfl T.len PySem.boot_len (@pa_c _ _ _ _ _ rfl (pv 0) pa_nil)) pe_int (nomark _)) (pw_or (pt_not (pt_val (pe_call GLw hrLw rfl N.mLw N.FLw.kp N.bLw .nil pass0 (@pa_c _ _ _ _ _ rfl (@pe_ix _ _ _ _ _ _ _ (ix_tupK (K := K) rfl) (pv 0) pe_int (fun _ _ => rfl)) pa_nil)))) (pw_or1 (pt_not (pt_val (pe_callB call_isin rfl T.isin PyProof.Rows.boot_isinstance (@pa_c _ _ _ _ _ rfl (@pe_ix _ _ _ _ _ _ _ (ix_tupK (K := K) rfl) (pv 0) pe_int (fun _ _ => rfl)) (@pa_c _ _ _ _ _ rfl (pe_bltn (v := .ty "list") rfl T.list PyProof.Rows.boot_list rfl) pa_nil)))))))))) (@pss_one _ _ _ (@ps_ret _ _ _ _ pe_bl)) pss_nil)
      (@pss_cons _ _ _ _ _ (ps_for PassesOwn.never rfl (pi_list (@pe_ix _ _ _ _ _ _ _ (ix_tupK (K := K) rfl) (pv 0) pe_int (fun _ _ => rfl))) (pg_name (i := 3) scIs.nd rfl (Or.inl rfl)) (@pss_one _ _ _ (@ps_if _ _ _ _ _ _ _ _ (PW.pt (pw_or (pt_not (pt_val (pe_callB call_isin rfl T.isin PyProof.Rows.boot_isinstance (@pa_c _ _ _ _ _ rfl (pv 3) (@pa_c _ _ _ _ _ rfl (pe_bltn (v := .ty "tuple") rfl T.tuple PyProof.Rows.boot_tuple rfl) pa_nil))))) (pw_or1 (pt_cmpR op_ne (pe_callB call_len_seq rfl T.len PySem.boot_len (@pa_c _ _ _ _ _ rfl (pe_comp rfl (compScope (osc := defScope sIs) (N := ["_law_found", "_law_length_here", "_law_holes_here", "_law_hole"]) rfl rfl (by decide +kernel)) (pi_tup (pv 3)) (fun _ _ _ _ => (pf_one (pt_val (pe_call GLw hrLw rfl N.mLw N.FLw.kp N.bLw .nil pass0 (@pa_c _ _ _ _ _ rfl (pv 0) pa_nil))))) (fun _ _ _ _ => (pv 0))) pa_nil)) pe_int (nomark _))))) (@pss_one _ _ _ (@ps_ret _ _ _ _ pe_bl)) pss_nil)))
      (@pss_one _ _ _ (@ps_ret _ _ _ _ (pe_cmpR (op_eq_roll (Nat.lt_of_le_of_lt (Nat.add_le_add_left (by decide : 8 ≤ 64) _) hr.units)) (pv 0) (@pe_tup _ _ _ _ _ (@pa_c _ _ _ _ _ rfl (pv 1) (@pa_c _ _ _ _ _ rfl (pv 2) pa_nil))) (nomark _)))))), ?_⟩
    have qr : SqT K H r [V.int len, V.ref p] := .inl (.inl hr1)
    refine ⟨_, rfl, _, "tuple", _, _, rfl, .tup hr1, ty_tt, _, rfl, iteF ?_⟩
    refine ⟨_, rfl, r, _, rfl, .inr qr, rfl, _, rfl, iteNS rfl ?_⟩
    refine ⟨_, rfl, r, _, _, _, rfl, rfl, qr, atI_nat (j := 0) rfl, _, true, rfl, .inl ⟨_, rfl, rfl⟩, _, rfl, iteF ?_⟩
    refine ⟨_, rfl, r, _, _, _, rfl, rfl, qr, atI_nat (j := 1) rfl, _, "list", _, _, rfl, .lst A1.l, ty_ll, _, rfl, iteF ?_⟩
    refine ⟨_, rfl, r, _, _, _, rfl, rfl, qr, atI_nat (j := 1) rfl, p, rfl, ⟨_, .inl (.inl A1.l)⟩, for_list (K := K) (a := p) (xs := zs) (fun i σ H4 => Same H H4 ∧ ∃ (v3 : Option V), σ = [some (.ref r), some (.int len), some (.ref p2), v3]) ⟨Same.refl _, _, rfl⟩ (fun i σ H4 _ h => .inl (.inl (A1.mono h.1).l)) ?_ ?_⟩
    · rintro i y σ H4 hi ⟨s4, v3, rfl⟩
      obtain ⟨x, T0, hx, hxd, rfl, hT⟩ := (A1.mono s4).at hi
      have qT : SqT K H4 T0 (triV x) := .inl (.inl hT)
      refine ⟨_, rfl, _, "tuple", _, _, rfl, .tup hT, ty_tt, _, rfl, iteF ?_⟩
      refine ⟨_, rfl, T0, rfl, ⟨_, qT⟩, comp_sqT (K := K) (xs := triV x) (fun _ => true) (fun v => v) qT (small1000 (by simp)) (fun z hz H' hs R k => ?_) (fun z hz _ H' hs R k => ⟨_, rfl, k H' (Same.refl H')⟩) (fun D H5 hD s5 hl5 => ?_)⟩
      · have hz' : ∃ i, z = V.int i := by
          simp only [List.mem_cons, List.not_mem_nil, or_false] at hz
          rcases hz with h | h | h <;> exact ⟨_, h⟩
        obtain ⟨i, rfl⟩ := hz'
        exact ⟨_, rfl, _, true, rfl, .inl ⟨i, rfl, rfl⟩, _, rfl, k H' (Same.refl H')⟩
      · have hl' : H5 D = some (.lst (triV x)) := hl5
        exact ⟨D, _, rfl, .inl (.inl (.inl hl')), rfl, _, rfl, iteNS rfl ⟨s4.trans s5, _, rfl⟩⟩
    · rintro σ H4 ⟨s4, v3, rfl⟩
      refine ⟨_, rfl, _, rfl, _, rfl, by show 2 ≤ sizeLine; decide, fun t5 ht5 => ?_⟩
      have s5 := same_upd (o := HO.tup [V.int len, V.ref p2]) ht5
      exact ⟨r, t5, len, hs, rfl, rfl, ⟨p, zs, s5 _ _ (s4 _ _ hr1), A1.mono (s4.trans s5)⟩, ⟨p2, zs2, upd_same, A2.mono (s4.trans s5)⟩, q _ (s4.trans s5)⟩
theorem scLh : FnScope ["_law_spans_here", "_law_holes_here", "_law_track", "_law_mine", "_law_begun", "_law_cut_here", "_law_covered_here"] ["_law_spans_here"] (defScope sLh) := ⟨rfl, rfl, rfl, by decide +kernel, rfl, by decide +kernel, by decide +kernel⟩
theorem scIr : FnScope ["thing"] ["thing"] (defScope sIr) := ⟨rfl, rfl, rfl, by decide +kernel, rfl, by decide +kernel, by decide +kernel⟩
theorem ok_Ir (N : Fns K mg c1 c2 fWh fMb fIl fHw fAh fHo fFh fRf fRo fIr fOa fCa fLw fMx fLe fPo fSa fSs fCv fLh fIs fSl fMv fRp fEe fC7 fLo fM7 fNx fDd fOs dWh dMb dIl dHw dAh dHo dFh dRf dRo dIr dOa dCa dLw dMx dLe dPo dSa dSs dCv dLh dIs dSl dMv dRp dEe dC7 dLo dM7 dNx dDd dOs) (T : Txt K mg) (K1 : TabK mg base c1 P1) (K2 : TabK mg base c2 P2) : FnOk P w K mg base CX0 5 fIr dIr ["thing"] (spIr (tb P1 P2)) := by
  have GIl : FnOk P w K mg base CX0 2 fIl dIl ["thing"] spIl := ok_Il N T
  have GAh : FnOk P w K mg base CX0 4 fAh dAh ["thing", "length"] spAh := ok_Ah N T
  have GHo : FnOk P w K mg base CX0 1 fHo dHo ["spans"] (spHo (tb P1 P2)) := ok_Ho N T K1 K2
  refine N.FIr.ok scIr (fun vs H Q E h => ?_) (fun cdv A outer s H vs Q E hr h => ?_)
  · obtain ⟨r, len, hs, rfl, _⟩ := h
    rfl
  · obtain ⟨r, len, hs, rfl, R, cn, hlen, hl0, hl1, ok, hTb, q⟩ := h
    have hrIl : Room 2 _ := hr.mono (by decide)
    have hrAh : Room 4 _ := hr.mono (by decide)
    have hrHo : Room 1 _ := hr.mono (by decide)
    obtain ⟨tMOST_HOLES, hMOST_HOLES⟩ := T.cMOST_HOLES
    refine ⟨_, (@pss_cons _ _ _ _ _ (@ps_if _ _ _ _ _ _ _ _ (PW.pt (pw_or (pt_not (pt_val (pe_callB call_isin rfl T.isin PyProof.Rows.boot_isinstance (@pa_c _ _ _ _ _ rfl (pv 0) (@pa_c _ _ _ _ _ rfl (pe_bltn (v := .ty "tuple") rfl T.tuple PyProof.Rows.boot_tuple rfl) pa_nil))))) (pw_or (pt_cmpR op_ne (pe_callB call_len_seq rfl T.len PySem.boot_len (@pa_c _ _ _ _ _ rfl (pv 0) pa_nil)) pe_int (nomark _)) (pw_or1 (pt_not (pt_val (pe_call GIl hrIl rfl N.mIl N.FIl.kp N.bIl .nil pass0 (@pa_c _ _ _ _ _ rfl (@pe_ix _ _ _ _ _ _ _ (ix_tupK (K := K) rfl) (pv 0) pe_int (fun _ _ => rfl)) pa_nil)))))))) (@pss_one _ _ _ (@ps_ret _ _ _ _ pe_bl)) pss_nil)
      (@pss_cons _ _ _ _ _ (@ps_if _ _ _ _ _ _ _ _ (PW.pt (pw_or (pt_not (pt_val (pe_call GAh hrAh rfl N.mAh N.FAh.kp N.bAh .nil pass0 (@pa_c _ _ _ _ _ rfl (@pe_ix _ _ _ _ _ _ _ (ix_tupK (K := K) rfl) (pv 0) pe_int (fun _ _ => rfl)) (@pa_c _ _ _ _ _ rfl (@pe_ix _ _ _ _ _ _ _ (ix_tupK (K := K) rfl) (pv 0) pe_int (fun _ _ => rfl)) pa_nil))))) (pw_or1 (pt_cmpR op_gt (pe_callB call_len_seq rfl T.len PySem.boot_len (@pa_c _ _ _ _ _ rfl (@pe_ix _ _ _ _ _ _ _ (ix_tupK (K := K) rfl) (pv 0) pe_int (fun _ _ => rfl)) pa_nil)) (pe_glob (v := .int 400) rfl hMOST_HOLES ⟨tMOST_HOLES, rfl⟩) (nomark _))))) (@pss_one _ _ _ (@ps_ret _ _ _ _ pe_bl)) pss_nil)
      (@pss_one _ _ _ (@ps_ret _ _ _ _ (pe_cmpR (op_eq_rl (Nat.lt_of_le_of_lt (Nat.add_le_add_left (by decide : 8 ≤ 64) _) hr.units)) (@pe_ix _ _ _ _ _ _ _ (ix_tupK (K := K) rfl) (pv 0) pe_int (fun _ _ => rfl)) (pe_call GHo hrHo rfl N.mHo N.FHo.kp N.bHo .nil pass0 (@pa_c _ _ _ _ _ rfl (@pe_ix _ _ _ _ _ _ _ (ix_tupK (K := K) rfl) (pv 0) pe_int (fun _ _ => rfl)) pa_nil)) (nomark _)))))), ?_⟩
    obtain ⟨p, zs, e1, A1⟩ := R
    have lz := A1.len
    have qr : SqT K H r [V.int len, V.ref p] := .inl (.inl e1)
    refine ⟨_, rfl, _, "tuple", _, _, rfl, .tup e1, ty_tt, _, rfl, iteF ?_⟩
    refine ⟨_, rfl, r, _, rfl, .inr qr, rfl, _, rfl, iteNS rfl ?_⟩
    refine ⟨_, rfl, r, _, _, _, rfl, rfl, qr, atI_nat (j := 0) rfl, len, rfl, hl0, hl1, _, rfl, iteF ?_⟩
    refine ⟨_, rfl, r, _, _, _, rfl, rfl, qr, atI_nat (j := 1) rfl, _, rfl, r, _, _, _, rfl, rfl, qr, atI_nat (j := 0) rfl, p, hs, zs, len, rfl, A1, by omega, ok, fun H1 s1 => ⟨_, rfl, iteF ?_⟩⟩
    have A2 := A1.mono s1
    have qr1 : SqT K H1 r [V.int len, V.ref p] := .inl (.inl (s1 _ _ e1))
    refine ⟨_, rfl, r, _, _, _, rfl, rfl, qr1, atI_nat (j := 1) rfl, p, _, rfl, .inl (.inl (.inl A2.l)), _, _, rfl, rfl, _, rfl, iteND (by omega) ?_⟩
    refine ⟨_, rfl, r, _, _, _, rfl, rfl, qr1, atI_nat (j := 1) rfl, _, rfl, r, _, _, _, rfl, rfl, qr1, atI_nat (j := 1) rfl, p, hs, zs, rfl, A2, by omega, fun t ht => (ok t ht).2.2.2.1, hTb.same s1, fun p2 hs2 zs2 H2 f2 k2 t2 A3 c2 v2 n2 => ?_⟩
    have eh : hs2 = hs := canon_unique c2 cn v2
    subst eh
    exact ⟨p, p2, hs2, zs, zs2, rfl, rfl, RlAt.kp A2 k2, A3, q H2 ((Kp.of s1).trans k2) t2⟩
theorem ok_WhG (N : Fns K mg c1 c2 fWh fMb fIl fHw fAh fHo fFh fRf fRo fIr fOa fCa fLw fMx fLe fPo fSa fSs fCv fLh fIs fSl fMv fRp fEe fC7 fLo fM7 fNx fDd fOs dWh dMb dIl dHw dAh dHo dFh dRf dRo dIr dOa dCa dLw dMx dLe dPo dSa dSs dCv dLh dIs dSl dMv dRp dEe dC7 dLo dM7 dNx dDd dOs) (T : Txt K mg) : FnOk P w K mg base CX0 1 fWh dWh ["thing"] (spWhole K) := by
  refine N.FWh.ok scWh (fun vs H Q E h => ?_) (fun cdv A outer s H vs Q E hr h => ?_)
  · obtain ⟨x, U, rfl, _⟩ := h
    rfl
  · obtain ⟨x, U, rfl, ty, ok, q⟩ := h
    refine ⟨_, (@pss_one _ _ _ (@ps_ret _ _ _ _ (pe_and (pe_callB call_isin rfl T.isin PyProof.Rows.boot_isinstance (@pa_c _ _ _ _ _ rfl (pv 0) (@pa_c _ _ _ _ _ rfl (pe_bltn (v := .ty "int") rfl T.int PyProof.Rows.boot_int rfl) pa_nil))) (pe_one (pe_not (pe_callB call_isin rfl T.isin PyProof.Rows.boot_isinstance (@pa_c _ _ _ _ _ rfl (pv 0) (@pa_c _ _ _ _ _ rfl (pe_bltn (v := .ty "bool") rfl T.bool PyProof.Rows.boot_bool rfl) pa_nil)))))))), ?_⟩
    refine ⟨_, rfl, _, "int", _, _, rfl, ty, kit_int K ok, _, rfl, ?_⟩
    refine ite2 (fun h1 => ?_) (fun h1 => ?_)
    · refine ⟨_, rfl, _, "bool", _, _, rfl, ty, kit_bool K ok, _, rfl, ?_⟩
      have e : (!decide (U = "bool")) = decide (U = "int") := by
        rcases ok with rfl | rfl | rfl | rfl | rfl | rfl | rfl <;> first | rfl | (revert h1; decide)
      rw [e]
      exact q
    · have e : false = decide (U = "int") := by
        rcases ok with rfl | rfl | rfl | rfl | rfl | rfl | rfl <;> first | rfl | (revert h1; decide)
      rw [e]
      exact q
theorem ok_RfW (N : Fns K mg c1 c2 fWh fMb fIl fHw fAh fHo fFh fRf fRo fIr fOa fCa fLw fMx fLe fPo fSa fSs fCv fLh fIs fSl fMv fRp fEe fC7 fLo fM7 fNx fDd fOs dWh dMb dIl dHw dAh dHo dFh dRf dRo dIr dOa dCa dLw dMx dLe dPo dSa dSs dCv dLh dIs dSl dMv dRp dEe dC7 dLo dM7 dNx dDd dOs) (T : Txt K mg) (K1 : TabK mg base c1 P1) (K2 : TabK mg base c2 P2) (O : Own K mg e0 [] eO) : FnOk P w K mg base (CXW P w) 3 fRf dRf ["length", "spans"] (spRfW e0 (tb P1 P2)) := by
  have GFh : FnOk P w K mg base CX0 2 fFh dFh ["spans"] (spHo (tb P1 P2)) := ok_Fh N T K1 K2
  refine N.FRf.okW scRf (fun vs H Q E h => ?_) (fun cdv A outer s H vs Q E hr h => ?_)
  · obtain ⟨a, ts, ys, len, rfl, _⟩ := h
    rfl
  · obtain ⟨a, ts, ys, len, rfl, A0, h64, hpos, hTb, cs⟩ := h
    have hrFh : Room 2 _ := hr.mono (by decide)
    obtain ⟨tMOST_TICKS, hMOST_TICKS⟩ := T.cMOST_TICKS
    refine ⟨_, (@pss_cons _ _ _ _ _ (@ps_if _ _ _ _ _ _ _ _ (PT.nox (pt_cmpR op_gt (pv 0) (pe_glob (v := .int 1000000000000) rfl hMOST_TICKS ⟨tMOST_TICKS, rfl⟩) (nomark _))) (@pss_one _ _ _ (ps_raise O.ex rfl (O.m 0 _ rfl) rfl lets_of (@pa_c _ _ _ _ _ rfl pe_str pa_nil))) pss_nil)
      (PSs.nox (@pss_one _ _ _ (@ps_ret _ _ _ _ (@pe_tup _ _ _ _ _ (@pa_c _ _ _ _ _ rfl (pv 0) (@pa_c _ _ _ _ _ rfl (pe_call GFh hrFh rfl N.mFh N.FFh.kp N.bFh .nil pass0 (@pa_c _ _ _ _ _ rfl (pv 1) pa_nil)) pa_nil))))))), ?_⟩
    rcases cs with ⟨hlen, q⟩ | ⟨hlen, q⟩
    · refine ⟨_, rfl, _, _, rfl, rfl, _, rfl, iteND (by omega) ?_⟩
      refine ⟨_, rfl, _, rfl, a, ts, ys, rfl, A0, h64, hpos, hTb, fun p hs zs H1 f1 k1 t1 A1 c1 v1 n1 => ⟨by show 2 ≤ sizeLine; decide, fun r hr1 => ?_⟩⟩
      have s2 := same_upd (o := HO.tup [V.int len, V.ref p]) hr1
      exact q r hs _ (k1.trans (Kp.of s2)) (t1.same s2) ⟨p, zs, f1, upd_same, A1.mono s2⟩ c1 v1 n1
    · exact ⟨_, rfl, _, _, rfl, rfl, _, rfl, iteD hlen ⟨by decide, q⟩⟩
theorem scMv : FnScope ["holes", "ticks"] ["holes", "ticks"] (defScope sMv) := ⟨rfl, rfl, rfl, by decide +kernel, rfl, by decide +kernel, by decide +kernel⟩
theorem ok_Mv (N : Fns K mg c1 c2 fWh fMb fIl fHw fAh fHo fFh fRf fRo fIr fOa fCa fLw fMx fLe fPo fSa fSs fCv fLh fIs fSl fMv fRp fEe fC7 fLo fM7 fNx fDd fOs dWh dMb dIl dHw dAh dHo dFh dRf dRo dIr dOa dCa dLw dMx dLe dPo dSa dSs dCv dLh dIs dSl dMv dRp dEe dC7 dLo dM7 dNx dDd dOs) (T : Txt K mg) : FnOk P w K mg base CX0 1 fMv dMv ["holes", "ticks"] spMv := by
  refine N.FMv.ok scMv (fun vs H Q E h => ?_) (fun cdv A outer s H vs Q E hr h => ?_)
  · obtain ⟨a, ts, ys, k, rfl, _⟩ := h
    rfl
  · obtain ⟨a, ts, ys, k, rfl, A, hz, q⟩ := h
    refine ⟨_, (@pss_one _ _ _ (@ps_ret _ _ _ _ (pe_comp rfl (compScope (osc := defScope sMv) (N := ["holes", "ticks"]) rfl rfl (by decide +kernel)) (pi_list (pv 0)) (fun _ _ _ _ => pf_nil) (fun _ _ _ _ => (@pe_tup _ _ _ _ _ (@pa_c _ _ _ _ _ rfl (@pe_ix _ _ _ _ _ _ _ (ix_tupK (K := K) rfl) (pv 0) pe_int (fun _ _ => rfl)) (@pa_c _ _ _ _ _ rfl (pe_op op_add (@pe_ix _ _ _ _ _ _ _ (ix_tupK (K := K) rfl) (pv 0) pe_int (fun _ _ => rfl)) (pv 2)) (@pa_c _ _ _ _ _ rfl (pe_op op_add (@pe_ix _ _ _ _ _ _ _ (ix_tupK (K := K) rfl) (pv 0) pe_int (fun _ _ => rfl)) (pv 2)) pa_nil)))))))), ?_⟩
    refine ⟨_, rfl, a, rfl, ⟨_, .inl (.inl A.l)⟩, comp_map (K := K) (mov k) A (small1000 (by omega)) (fun x hx H' hs R kk => kk H' (Same.refl H')) (fun x hx T1 hT1 H' hs R kk => ?_) (fun D H2 zs hD s2 B => q D zs H2 s2 hD B)⟩
    have qT : SqT K H' T1 (t3V x) := .inl (.inl (hs _ _ hT1))
    exact ⟨_, rfl, T1, _, _, _, rfl, rfl, qT, atI_nat (j := 0) rfl, _, rfl, T1, _, _, _, rfl, rfl, qT, atI_nat (j := 1) rfl, _, rfl, _, _, rfl, rfl, _, rfl, T1, _, _, _, rfl, rfl, qT, atI_nat (j := 2) rfl, _, rfl, _, _, rfl, rfl, by show 3 ≤ sizeLine; decide, fun t ht => kk t _ (same_upd ht) upd_same⟩
theorem scRp : FnScope ["roll", "first", "behind", "cut"] ["roll", "first", "behind"] (defScope sRp) := ⟨rfl, rfl, rfl, by decide +kernel, rfl, by decide +kernel, by decide +kernel⟩
theorem ok_RpW (N : Fns K mg c1 c2 fWh fMb fIl fHw fAh fHo fFh fRf fRo fIr fOa fCa fLw fMx fLe fPo fSa fSs fCv fLh fIs fSl fMv fRp fEe fC7 fLo fM7 fNx fDd fOs dWh dMb dIl dHw dAh dHo dFh dRf dRo dIr dOa dCa dLw dMx dLe dPo dSa dSs dCv dLh dIs dSl dMv dRp dEe dC7 dLo dM7 dNx dDd dOs) (T : Txt K mg) (K1 : TabK mg base c1 P1) (K2 : TabK mg base c2 P2) (O : Own K mg e0 [] eO) : FnOk P w K mg base (CXW P w) 4 fRp dRp ["roll", "first", "behind"] (spRp K e0 (tb P1 P2)) := by
  have GWhG : FnOk P w K mg base CX0 1 fWh dWh ["thing"] (spWhole K) := ok_WhG N T
  have GRf : FnOk P w K mg base CX0 3 fRf dRf ["length", "spans"] (spRf (tb P1 P2)) := ok_Rf N T K1 K2
  have GMv : FnOk P w K mg base CX0 1 fMv dMv ["holes", "ticks"] spMv := ok_Mv N T
  refine N.FRp.okW scRp (fun vs H Q E h => ?_) (fun cdv A outer s H vs Q E hr h => ?_)
  · obtain ⟨r, len, hs, x, y, U, W, rfl, _⟩ := h
    rfl
  · obtain ⟨r, len, hs, x, y, U, W, rfl, R, hn, l1, hTb, ty, okU, ty2, okW, cs⟩ := h
    have hrWhG : Room 1 _ := hr.mono (by decide)
    have hrRf : Room 3 _ := hr.mono (by decide)
    have hrMv : Room 1 _ := hr.mono (by decide)
    refine ⟨_, (@pss_cons _ _ _ _ _ (@ps_if _ _ _ _ _ _ _ _ (PT.nox (PW.pt (pw_or (pt_not (pt_val (pe_call GWhG hrWhG rfl N.mWh N.FWh.kp N.bWh .nil pass0 (@pa_c _ _ _ _ _ rfl (pv 1) pa_nil)))) (pw_or (pt_not (pt_val (pe_call GWhG hrWhG rfl N.mWh N.FWh.kp N.bWh .nil pass0 (@pa_c _ _ _ _ _ rfl (pv 2) pa_nil)))) (pw_or1 (pt_not (pt_chain3 op_le op_le op_le pe_int (pv 1) (pv 2) (@pe_ix _ _ _ _ _ _ _ (ix_tupK (K := K) rfl) (pv 0) pe_int (fun _ _ => rfl))))))))) (@pss_one _ _ _ (ps_raise O.ex rfl (O.m 0 _ rfl) rfl lets_of (@pa_c _ _ _ _ _ rfl pe_str pa_nil))) pss_nil)
      (@pss_cons _ _ _ _ _ (ps_comp (i := 3) scRp.nd rfl rfl rfl (compScope (osc := defScope sRp) (N := ["roll", "first", "behind", "cut"]) rfl rfl (by decide +kernel)) (pi_list (@pe_ix _ _ _ _ _ _ _ (ix_tupK (K := K) rfl) (pv 0) pe_int (fun _ _ => rfl))) (fun _ _ _ _ => pf_nil) (fun _ _ _ _ => (@pe_tup _ _ _ _ _ (@pa_c _ _ _ _ _ rfl (@pe_ix _ _ _ _ _ _ _ (ix_tupK (K := K) rfl) (pv 0) pe_int (fun _ _ => rfl)) (@pa_c _ _ _ _ _ rfl (pe_callB (call_max2 rfl) rfl T.max PyProof.Rows.boot_max (@pa_c _ _ _ _ _ rfl (@pe_ix _ _ _ _ _ _ _ (ix_tupK (K := K) rfl) (pv 0) pe_int (fun _ _ => rfl)) (@pa_c _ _ _ _ _ rfl (pv 2) pa_nil))) (@pa_c _ _ _ _ _ rfl (pe_callB (call_min2 rfl) rfl T.min PyProof.Rows.boot_min (@pa_c _ _ _ _ _ rfl (@pe_ix _ _ _ _ _ _ _ (ix_tupK (K := K) rfl) (pv 0) pe_int (fun _ _ => rfl)) (@pa_c _ _ _ _ _ rfl (pv 3) pa_nil))) pa_nil))))))
      (@pss_one _ _ _ (@ps_ret _ _ _ _ (pe_call GRf hrRf rfl N.mRf N.FRf.kp N.bRf .nil pass0 (@pa_c _ _ _ _ _ rfl (pe_op op_sub (pv 2) (pv 1)) (@pa_c _ _ _ _ _ rfl (pe_call GMv hrMv rfl N.mMv N.FMv.kp N.bMv .nil pass0 (@pa_c _ _ _ _ _ rfl (pe_comp rfl (compScope (osc := defScope sRp) (N := ["roll", "first", "behind", "cut"]) rfl rfl (by decide +kernel)) (pi_list (pv 3)) (fun _ _ _ _ => (pf_one (pt_cmpR op_lt (@pe_ix _ _ _ _ _ _ _ (ix_tupK (K := K) rfl) (pv 0) pe_int (fun _ _ => rfl)) (@pe_ix _ _ _ _ _ _ _ (ix_tupK (K := K) rfl) (pv 0) pe_int (fun _ _ => rfl)) (nomark _)))) (fun _ _ _ _ => (pv 0))) (@pa_c _ _ _ _ _ rfl (pe_un un_neg (pv 1)) pa_nil))) pa_nil))))))), ?_⟩
    obtain ⟨p, zs, e1, A1⟩ := R
    have lz := A1.len
    have qr : SqT K H r [V.int len, V.ref p] := .inl (.inl e1)
    refine ⟨_, rfl, x, U, rfl, ty, okU, _, rfl, ?_⟩
    by_cases hU : U = "int"
    rotate_left
    · rcases cs with ⟨f, b, rfl, rfl, _⟩ | ⟨bad, q⟩
      · exact absurd (by cases ty; rfl) hU
      · rw [decide_eq_false hU]
        exact iteT (iteT ⟨by decide, q⟩)
    subst hU
    refine iteNS rfl ?_
    refine ⟨_, rfl, y, W, rfl, ty2, okW, _, rfl, ?_⟩
    by_cases hW : W = "int"
    rotate_left
    · rcases cs with ⟨f, b, rfl, rfl, _⟩ | ⟨bad, q⟩
      · exact absurd (by cases ty2; rfl) hW
      · rw [decide_eq_false hW]
        exact iteT (iteT ⟨by decide, q⟩)
    subst hW
    refine iteNS rfl ?_
    obtain ⟨f, rfl⟩ := ty_intv ty rfl
    obtain ⟨b, rfl⟩ := ty_intv ty2 rfl
    by_cases h0 : 0 ≤ f
    rotate_left
    · rcases cs with ⟨f', b', e, _, k0, _⟩ | ⟨bad, q⟩
      · cases e
        exact absurd k0 h0
      · exact ⟨_, rfl, _, _, rfl, rfl, _, rfl, iteND h0 ⟨_, rfl, iteT ⟨by decide, q⟩⟩⟩
    refine ⟨_, rfl, _, _, rfl, rfl, _, rfl, iteD h0 ?_⟩
    by_cases h1 : f ≤ b
    rotate_left
    · rcases cs with ⟨f', b', e, e', _, k1, _⟩ | ⟨bad, q⟩
      · cases e
        cases e'
        exact absurd k1 h1
      · exact ⟨_, rfl, _, _, rfl, rfl, _, rfl, iteND h1 ⟨_, rfl, iteT ⟨by decide, q⟩⟩⟩
    refine ⟨_, rfl, _, _, rfl, rfl, _, rfl, iteD h1 ?_⟩
    refine ⟨_, rfl, r, _, _, _, rfl, rfl, qr, atI_nat (j := 0) rfl, _, _, rfl, rfl, _, rfl, ?_⟩
    by_cases h2 : b ≤ len
    rotate_left
    · rcases cs with ⟨f', b', e, e', _, _, k2, _⟩ | ⟨bad, q⟩
      · cases e
        cases e'
        exact absurd k2 h2
      · exact iteTr (by rw [decide_eq_false h2]; rfl) ⟨by decide, q⟩
    refine iteNS h2 ?_
    rcases cs with ⟨f', b', e, e', _, _, _, q⟩ | ⟨bad, _⟩
    rotate_left
    · exact absurd ⟨h0, h1, h2⟩ (bad f b rfl rfl)
    cases e
    cases e'
    refine ⟨_, rfl, r, _, _, _, rfl, rfl, qr, atI_nat (j := 1) rfl, p, rfl, ⟨_, .inl (.inl A1.l)⟩, comp_map (K := K) (cut2 f b) A1 (small1000 (by omega)) (fun x hx H' hs R kk => kk H' (Same.refl H')) (fun x hx T1 hT1 H' hs R kk => ?_) (fun D H2 zs2 hD s2 B2 => ?_)⟩
    · have qT : SqT K H' T1 (t3V x) := .inl (.inl (hs _ _ hT1))
      have em1 : (if f > x.2.1 then f else x.2.1) = max x.2.1 f := by split <;> omega
      have em2 : (if b < x.2.2 then b else x.2.2) = min x.2.2 b := by split <;> omega
      refine ⟨_, rfl, T1, _, _, _, rfl, rfl, qT, atI_nat (j := 0) rfl, _, rfl, T1, _, _, _, rfl, rfl, qT, atI_nat (j := 1) rfl, _, rfl, _, _, rfl, _, rfl, T1, _, _, _, rfl, rfl, qT, atI_nat (j := 2) rfl, _, rfl, _, _, rfl, by show 3 ≤ sizeLine; decide, fun t ht => kk t _ (same_upd ht) ?_⟩
      rw [upd_same, em1, em2]
      rfl
    have lb := B2.len
    rw [List.length_map] at lb
    refine ⟨_, rfl, _, rfl, _, _, rfl, rfl, _, rfl, D, rfl, ⟨_, .inl (.inl B2.l)⟩, comp_self (K := K) ne3 B2 (small1000 (by omega)) (fun x hx T1 hT1 H' hs R kk => ?_) (fun T1 H' hs R kk => ⟨_, rfl, kk H' (Same.refl H')⟩) (fun D3 H3 zs3 hD3 s3 B3 => ?_)⟩
    · have qT : SqT K H' T1 (t3V x) := .inl (.inl (hs _ _ hT1))
      exact ⟨_, rfl, T1, _, _, _, rfl, rfl, qT, atI_nat (j := 1) rfl, _, rfl, T1, _, _, _, rfl, rfl, qT, atI_nat (j := 2) rfl, _, _, rfl, rfl, _, rfl, kk H' (Same.refl H')⟩
    have lb3 := B3.len
    have lf3 : ((hs.map (cut2 f b)).filter ne3).length ≤ hs.length := Nat.le_trans (List.length_filter_le ..) (by rw [List.length_map]; exact Nat.le_refl _)
    refine ⟨_, rfl, _, rfl, D3, _, zs3, -f, rfl, B3, by omega, fun p4 z4 H4 s4 hp4 B4 => ?_⟩
    have lb4 := B4.len
    rw [List.length_map] at lb4
    have s04 := s2.trans (s3.trans s4)
    refine ⟨p4, _, z4, b - f, rfl, by omega, B4, by omega, pos_part, hTb.same s04, fun r' hs' H5 k5 t5 R5 c5 v5 n5 => ?_⟩
    obtain ⟨p', z', f', e', A'⟩ := R5
    exact q r' hs' H5 ((Kp.of s04).trans k5) t5 ⟨p', z', s04.free f', e', A'⟩ c5 (fun tr t => (v5 tr t).trans cov_part) (Nat.le_trans n5 len_part)
theorem scSl : FnScope ["roll", "times"] ["roll", "times"] (defScope sSl) := ⟨rfl, rfl, rfl, by decide +kernel, rfl, by decide +kernel, by decide +kernel⟩
theorem ok_SlW (N : Fns K mg c1 c2 fWh fMb fIl fHw fAh fHo fFh fRf fRo fIr fOa fCa fLw fMx fLe fPo fSa fSs fCv fLh fIs fSl fMv fRp fEe fC7 fLo fM7 fNx fDd fOs dWh dMb dIl dHw dAh dHo dFh dRf dRo dIr dOa dCa dLw dMx dLe dPo dSa dSs dCv dLh dIs dSl dMv dRp dEe dC7 dLo dM7 dNx dDd dOs) (T : Txt K mg) (K1 : TabK mg base c1 P1) (K2 : TabK mg base c2 P2) (O : Own K mg e0 [] eO) : FnOk P w K mg base (CXW P w) 4 fSl dSl ["roll", "times"] (spSl K e0 (tb P1 P2)) := by
  have GWhG : FnOk P w K mg base CX0 1 fWh dWh ["thing"] (spWhole K) := ok_WhG N T
  have GRfW : FnOk P w K mg base (CXW P w) 3 fRf dRf ["length", "spans"] (spRfW e0 (tb P1 P2)) := ok_RfW N T K1 K2 O
  refine N.FSl.okW scSl (fun vs H Q E h => ?_) (fun cdv A outer s H vs Q E hr h => ?_)
  · obtain ⟨r, len, hs, x, U, rfl, _⟩ := h
    rfl
  · obtain ⟨r, len, hs, x, U, rfl, R, cn, hn, l0, l1, hTb, ty, okU, cs⟩ := h
    have hrWhG : Room 1 _ := hr.mono (by decide)
    have hrRfW : Room 3 _ := hr.mono (by decide)
    obtain ⟨tMOST_TIMES, hMOST_TIMES⟩ := T.cMOST_TIMES
    refine ⟨_, (@pss_cons _ _ _ _ _ (@ps_if _ _ _ _ _ _ _ _ (PT.nox (PW.pt (pw_or (pt_not (pt_val (pe_call GWhG hrWhG rfl N.mWh N.FWh.kp N.bWh .nil pass0 (@pa_c _ _ _ _ _ rfl (pv 1) pa_nil)))) (pw_or1 (pt_not (pt_chain op_le op_le pe_int (pv 1) (pe_glob (v := .int 1000) rfl hMOST_TIMES ⟨tMOST_TIMES, rfl⟩))))))) (@pss_one _ _ _ (ps_raise O.ex rfl (O.m 0 _ rfl) rfl lets_of (@pa_c _ _ _ _ _ rfl pe_str pa_nil))) pss_nil)
      (@pss_one _ _ _ (@ps_ret _ _ _ _ (pe_call GRfW hrRfW rfl N.mRf N.FRf.kp N.bRf .nil pass_on (@pa_c _ _ _ _ _ rfl (pe_op op_mul (@pe_ix _ _ _ _ _ _ _ (ix_tupK (K := K) rfl) (pv 0) pe_int (fun _ _ => rfl)) (pv 1)) (@pa_c _ _ _ _ _ rfl (pe_comp rfl (compScope (osc := defScope sSl) (N := ["roll", "times"]) rfl rfl (by decide +kernel)) (pi_list (@pe_ix _ _ _ _ _ _ _ (ix_tupK (K := K) rfl) (pv 0) pe_int (fun _ _ => rfl))) (fun _ _ _ _ => pf_nil) (fun _ _ _ _ => (@pe_tup _ _ _ _ _ (@pa_c _ _ _ _ _ rfl (@pe_ix _ _ _ _ _ _ _ (ix_tupK (K := K) rfl) (pv 0) pe_int (fun _ _ => rfl)) (@pa_c _ _ _ _ _ rfl (pe_op op_mul (@pe_ix _ _ _ _ _ _ _ (ix_tupK (K := K) rfl) (pv 0) pe_int (fun _ _ => rfl)) (pv 2)) (@pa_c _ _ _ _ _ rfl (pe_op op_mul (@pe_ix _ _ _ _ _ _ _ (ix_tupK (K := K) rfl) (pv 0) pe_int (fun _ _ => rfl)) (pv 2)) pa_nil)))))) pa_nil)))))), ?_⟩
    obtain ⟨p, zs, e1, A1⟩ := R
    have lz := A1.len
    have qr : SqT K H r [V.int len, V.ref p] := .inl (.inl e1)
    refine ⟨_, rfl, x, U, rfl, ty, okU, _, rfl, ?_⟩
    rcases cs with ⟨k, rfl, k1, k2, hk, q⟩ | ⟨k, rfl, k1, k2, hk, q⟩ | ⟨bad, q⟩
    case' inl =>
      have q' : (len * k ≤ 1000000000000 ∧ ∀ (r' : Addr) (H' : Hp), Kp (tb P1 P2) H H' → Tb (tb P1 P2) H' → RoF H H' r' (len * k) (hs.map (scl k)) → Q (.ref r') H') ∨ (1000000000000 < len * k ∧ ∀ H', Same H H' → E (.ref e0) none H') := .inl ⟨hk, q⟩
    case' inr.inl =>
      have q' : (len * k ≤ 1000000000000 ∧ ∀ (r' : Addr) (H' : Hp), Kp (tb P1 P2) H H' → Tb (tb P1 P2) H' → RoF H H' r' (len * k) (hs.map (scl k)) → Q (.ref r') H') ∨ (1000000000000 < len * k ∧ ∀ H', Same H H' → E (.ref e0) none H') := .inr ⟨hk, q⟩
    rotate_left 2
    · by_cases hU : U = "int"
      · subst hU
        obtain ⟨k, rfl⟩ := ty_intv ty rfl
        refine iteNS rfl ?_
        by_cases k1 : 1 ≤ k
        · refine ⟨_, rfl, _, _, rfl, rfl, _, rfl, iteD k1 ⟨_, _, rfl, rfl, _, rfl, ?_⟩⟩
          have kb : ¬ k ≤ 1000 := by
            rcases bad k rfl with h | h <;> omega
          refine iteTr (by rw [decide_eq_false kb]; rfl) ?_
          exact ⟨by decide, q⟩
        · exact ⟨_, rfl, _, _, rfl, rfl, _, rfl, iteND k1 ⟨_, rfl, iteT ⟨by decide, q⟩⟩⟩
      · rw [decide_eq_false hU]
        exact iteT (iteT ⟨by decide, q⟩)
    all_goals
      clear q
      obtain rfl : U = "int" := by cases ty; rfl
      refine iteNS rfl ?_
      refine ⟨_, rfl, _, _, rfl, rfl, _, rfl, iteD k1 ⟨_, _, rfl, rfl, _, rfl, iteNS k2 ?_⟩⟩
      refine ⟨_, rfl, r, _, _, _, rfl, rfl, qr, atI_nat (j := 0) rfl, _, rfl, _, _, rfl, rfl, .inr ⟨by omega, by omega⟩, ?_⟩
      refine ⟨_, rfl, r, _, _, _, rfl, rfl, qr, atI_nat (j := 1) rfl, p, rfl, ⟨_, .inl (.inl A1.l)⟩, comp_map (K := K) (scl k) A1 (small1000 (by omega)) (fun x hx H' hs R kk => kk H' (Same.refl H')) (fun x hx T1 hT1 H' hs R kk => ?_) (fun D H2 zs2 hD s2 B => ?_)⟩
      · have qT : SqT K H' T1 (t3V x) := .inl (.inl (hs _ _ hT1))
        exact ⟨_, rfl, T1, _, _, _, rfl, rfl, qT, atI_nat (j := 0) rfl, _, rfl, T1, _, _, _, rfl, rfl, qT, atI_nat (j := 1) rfl, _, rfl, _, _, rfl, rfl, .inr ⟨by omega, by omega⟩, _, rfl, T1, _, _, _, rfl, rfl, qT, atI_nat (j := 2) rfl, _, rfl, _, _, rfl, rfl, .inr ⟨by omega, by omega⟩, by show 3 ≤ sizeLine; decide, fun t ht => kk t _ (same_upd ht) upd_same⟩
      have lb := B.len
      rw [List.length_map] at lb
      refine ⟨D, hs.map (scl k), zs2, len * k, rfl, B, by omega, (scl_canon k1 cn).sep.1, hTb.same s2, ?_⟩
      rcases q' with ⟨h1, q⟩ | ⟨h1, q⟩
      · refine .inl ⟨h1, fun r' hs' H3 k3 t3 R3 c3 v3 n3 => ?_⟩
        have eh : hs' = hs.map (scl k) := canon_unique c3 (scl_canon k1 cn) v3
        subst eh
        obtain ⟨p', z', f', e', A'⟩ := R3
        exact q r' H3 ((Kp.of s2).trans k3) t3 ⟨p', z', s2.free f', e', A'⟩
      · exact .inr ⟨h1, q _ s2⟩
theorem scEe : FnScope ["one", "other"] ["one", "other"] (defScope sEe) := ⟨rfl, rfl, rfl, by decide +kernel, rfl, by decide +kernel, by decide +kernel⟩
theorem ok_EeW (N : Fns K mg c1 c2 fWh fMb fIl fHw fAh fHo fFh fRf fRo fIr fOa fCa fLw fMx fLe fPo fSa fSs fCv fLh fIs fSl fMv fRp fEe fC7 fLo fM7 fNx fDd fOs dWh dMb dIl dHw dAh dHo dFh dRf dRo dIr dOa dCa dLw dMx dLe dPo dSa dSs dCv dLh dIs dSl dMv dRp dEe dC7 dLo dM7 dNx dDd dOs) (T : Txt K mg) (K1 : TabK mg base c1 P1) (K2 : TabK mg base c2 P2) (O : Own K mg e0 [] eO) : FnOk P w K mg base (CXW P w) 4 fEe dEe ["one", "other"] (spEe7 e0 (tb P1 P2)) := by
  have GRfW : FnOk P w K mg base (CXW P w) 3 fRf dRf ["length", "spans"] (spRfW e0 (tb P1 P2)) := ok_RfW N T K1 K2 O
  have GMv : FnOk P w K mg base CX0 1 fMv dMv ["holes", "ticks"] spMv := ok_Mv N T
  refine N.FEe.okW scEe (fun vs H Q E h => ?_) (fun cdv A outer s H vs Q E hr h => ?_)
  · obtain ⟨r1, r2, l1, l2, h1, h2, rfl, _⟩ := h
    rfl
  · obtain ⟨r1, r2, l1, l2, h1, h2, rfl, ⟨p1, z1, e1, A1⟩, ⟨p2, z2, e2, A2⟩, n12, g1, g2, hTb, cs⟩ := h
    have hrRfW : Room 3 _ := hr.mono (by decide)
    have hrMv : Room 1 _ := hr.mono (by decide)
    refine ⟨_, (@pss_one _ _ _ (@ps_ret _ _ _ _ (pe_call GRfW hrRfW rfl N.mRf N.FRf.kp N.bRf .nil pass_on (@pa_c _ _ _ _ _ rfl (pe_op op_add (@pe_ix _ _ _ _ _ _ _ (ix_tupK (K := K) rfl) (pv 0) pe_int (fun _ _ => rfl)) (@pe_ix _ _ _ _ _ _ _ (ix_tupK (K := K) rfl) (pv 1) pe_int (fun _ _ => rfl))) (@pa_c _ _ _ _ _ rfl (pe_op op_cat (@pe_ix _ _ _ _ _ _ _ (ix_tupK (K := K) rfl) (pv 0) pe_int (fun _ _ => rfl)) (pe_call GMv hrMv rfl N.mMv N.FMv.kp N.bMv .nil pass0 (@pa_c _ _ _ _ _ rfl (@pe_ix _ _ _ _ _ _ _ (ix_tupK (K := K) rfl) (pv 1) pe_int (fun _ _ => rfl)) (@pa_c _ _ _ _ _ rfl (@pe_ix _ _ _ _ _ _ _ (ix_tupK (K := K) rfl) (pv 0) pe_int (fun _ _ => rfl)) pa_nil)))) pa_nil))))), ?_⟩
    have lz1 := A1.len
    have lz2 := A2.len
    have q1 : SqT K H r1 [V.int l1, V.ref p1] := .inl (.inl e1)
    have q2 : SqT K H r2 [V.int l2, V.ref p2] := .inl (.inl e2)
    refine ⟨_, rfl, r1, _, _, _, rfl, rfl, q1, atI_nat (j := 0) rfl, _, rfl, r2, _, _, _, rfl, rfl, q2, atI_nat (j := 0) rfl, _, _, rfl, rfl, ?_⟩
    refine ⟨_, rfl, r1, _, _, _, rfl, rfl, q1, atI_nat (j := 1) rfl, _, rfl, r2, _, _, _, rfl, rfl, q2, atI_nat (j := 1) rfl, _, rfl, r1, _, _, _, rfl, rfl, q1, atI_nat (j := 0) rfl, p2, h2, z2, l1, rfl, A2, by omega, fun p3 z3 H1 s1 hp3 A3 => ?_⟩
    have lz3 := A3.len
    rw [List.length_map] at lz3
    have A1' := A1.mono s1
    refine ⟨p1, p3, _, _, rfl, rfl, A1'.l, A3.l, line20 (by omega), fun p4 hp4 => ?_⟩
    have s2 := same_upd (o := HO.lst (z1 ++ z3)) hp4
    have A4 : RlAt (upd H1 p4 (HO.lst (z1 ++ z3))) p4 (h1 ++ h2.map (mov l1)) (z1 ++ z3) := ⟨upd_same, paired_app (A1'.mono s2).p (A3.mono s2).p⟩
    generalize upd H1 p4 (HO.lst (z1 ++ z3)) = H2 at s2 A4 ⊢
    have s02 := s1.trans s2
    refine ⟨p4, _, _, l1 + l2, rfl, A4, by rw [List.length_append]; omega, fun t ht => ?_, hTb.same s02, ?_⟩
    · rcases List.mem_append.mp ht with ht | ht
      · exact g1 t ht
      · obtain ⟨x, xm, rfl⟩ := List.mem_map.mp ht
        have := g2 x xm
        show x.2.1 + l1 < x.2.2 + l1
        omega
    have cv : ∀ tr t, Cov (h1 ++ h2.map (mov l1)) tr t ↔ Ro.CE h1 h2 l1 tr t := fun tr t => by
      rw [cov_app, cov_mov]
      exact Iff.rfl
    rcases cs with ⟨h1', q⟩ | ⟨h1', q⟩
    · exact .inr ⟨h1', q _ s02⟩
    · refine .inl ⟨h1', fun r hs H3 k3 t3 R3 c3 v3 n3 => ?_⟩
      obtain ⟨p', z', f', e', A'⟩ := R3
      exact q r hs H3 ((Kp.of s02).trans k3) t3 ⟨p', z', s02.free f', e', A'⟩ c3 (fun tr t => by rw [v3, cv])
theorem scLo : FnScope ["one", "other"] ["one", "other"] (defScope sLo) := ⟨rfl, rfl, rfl, by decide +kernel, rfl, by decide +kernel, by decide +kernel⟩
theorem ok_Lo (N : Fns K mg c1 c2 fWh fMb fIl fHw fAh fHo fFh fRf fRo fIr fOa fCa fLw fMx fLe fPo fSa fSs fCv fLh fIs fSl fMv fRp fEe fC7 fLo fM7 fNx fDd fOs dWh dMb dIl dHw dAh dHo dFh dRf dRo dIr dOa dCa dLw dMx dLe dPo dSa dSs dCv dLh dIs dSl dMv dRp dEe dC7 dLo dM7 dNx dDd dOs) (T : Txt K mg) (K1 : TabK mg base c1 P1) (K2 : TabK mg base c2 P2) : FnOk P w K mg base CX0 4 fLo dLo ["one", "other"] (spLo7 (tb P1 P2)) := by
  have GRf : FnOk P w K mg base CX0 3 fRf dRf ["length", "spans"] (spRf (tb P1 P2)) := ok_Rf N T K1 K2
  refine N.FLo.ok scLo (fun vs H Q E h => ?_) (fun cdv A outer s H vs Q E hr h => ?_)
  · obtain ⟨r1, r2, l1, l2, h1, h2, rfl, _⟩ := h
    rfl
  · obtain ⟨r1, r2, l1, l2, h1, h2, rfl, ⟨p1, z1, e1, A1⟩, ⟨p2, z2, e2, A2⟩, n12, g1, g2, b1, b2, hTb, q⟩ := h
    have hrRf : Room 3 _ := hr.mono (by decide)
    refine ⟨_, (@pss_one _ _ _ (@ps_ret _ _ _ _ (pe_call GRf hrRf rfl N.mRf N.FRf.kp N.bRf .nil pass0 (@pa_c _ _ _ _ _ rfl (pe_callB (call_max2 rfl) rfl T.max PyProof.Rows.boot_max (@pa_c _ _ _ _ _ rfl (@pe_ix _ _ _ _ _ _ _ (ix_tupK (K := K) rfl) (pv 0) pe_int (fun _ _ => rfl)) (@pa_c _ _ _ _ _ rfl (@pe_ix _ _ _ _ _ _ _ (ix_tupK (K := K) rfl) (pv 1) pe_int (fun _ _ => rfl)) pa_nil))) (@pa_c _ _ _ _ _ rfl (pe_op op_cat (@pe_ix _ _ _ _ _ _ _ (ix_tupK (K := K) rfl) (pv 0) pe_int (fun _ _ => rfl)) (@pe_ix _ _ _ _ _ _ _ (ix_tupK (K := K) rfl) (pv 1) pe_int (fun _ _ => rfl))) pa_nil))))), ?_⟩
    have lz1 := A1.len
    have lz2 := A2.len
    have q1 : SqT K H r1 [V.int l1, V.ref p1] := .inl (.inl e1)
    have q2 : SqT K H r2 [V.int l2, V.ref p2] := .inl (.inl e2)
    refine ⟨_, rfl, r1, _, _, _, rfl, rfl, q1, atI_nat (j := 0) rfl, _, rfl, r2, _, _, _, rfl, rfl, q2, atI_nat (j := 0) rfl, _, _, rfl, ?_⟩
    have emx : (if l2 > l1 then l2 else l1) = max l1 l2 := by split <;> omega
    rw [emx]
    refine ⟨_, rfl, r1, _, _, _, rfl, rfl, q1, atI_nat (j := 1) rfl, _, rfl, r2, _, _, _, rfl, rfl, q2, atI_nat (j := 1) rfl, ?_⟩
    refine ⟨p1, p2, _, _, rfl, rfl, A1.l, A2.l, line20 (by omega), fun p4 hp4 => ?_⟩
    have s2 := same_upd (o := HO.lst (z1 ++ z2)) hp4
    have A4 : RlAt (upd H p4 (HO.lst (z1 ++ z2))) p4 (h1 ++ h2) (z1 ++ z2) := ⟨upd_same, paired_app (A1.mono s2).p (A2.mono s2).p⟩
    generalize upd H p4 (HO.lst (z1 ++ z2)) = H2 at s2 A4 ⊢
    refine ⟨p4, _, _, max l1 l2, rfl, by omega, A4, by rw [List.length_append]; omega, fun t ht => (List.mem_append.mp ht).elim (g1 t) (g2 t), hTb.same s2, fun r hs H3 k3 t3 R3 c3 v3 n3 => ?_⟩
    obtain ⟨p', z', f', e', A'⟩ := R3
    exact q r hs H3 ((Kp.of s2).trans k3) t3 ⟨p', z', s2.free f', e', A'⟩ c3 (fun tr t => by rw [v3, cov_app]; exact Iff.rfl)
theorem ok_LhS (N : Fns K mg c1 c2 fWh fMb fIl fHw fAh fHo fFh fRf fRo fIr fOa fCa fLw fMx fLe fPo fSa fSs fCv fLh fIs fSl fMv fRp fEe fC7 fLo fM7 fNx fDd fOs dWh dMb dIl dHw dAh dHo dFh dRf dRo dIr dOa dCa dLw dMx dLe dPo dSa dSs dCv dLh dIs dSl dMv dRp dEe dC7 dLo dM7 dNx dDd dOs) (T : Txt K mg) (K1 : TabK mg base c1 P1) (K2 : TabK mg base c2 P2) : FnOk P w K mg base CX0 2 fLh dLh ["_law_spans_here"] (spLhS (tb P1 P2)) := by
  have GCv : FnOk P w K mg base CX0 1 fCv dCv ["_law_mine", "_law_tick"] spCv := ok_Cv N T
  have TK := K2
  refine N.FLh.ok scLh (fun vs H Q E h => ?_) (fun A outer s H vs Q E hr h => ?_)
  · obtain ⟨a, ts, ys, rfl, _⟩ := h
    rfl
  · obtain ⟨a, ts, ys, rfl, A0, h64, hok, hTb, q⟩ := h
    have hrCv : Room 1 _ := hr.mono (by decide)
    refine ⟨_, (@pss_cons _ _ _ _ _ (@ps_setE _ _ _ _ _ _ 1 scLh.nd rfl (Or.inl rfl) (@pe_lst _ _ _ _ pa_nil) (by kernel_rfl) (.inl rfl))
      (@pss_cons _ _ _ _ _ (ps_for PassesOwn.never rfl (pi_list (pe_callB (call_sortedS rfl) rfl T.sorted PyProof.Rows.boot_sorted (@pa_c _ _ _ _ _ rfl (pe_callTy (call_set rfl) rfl T.set PyProof.Rows.boot_set (@pa_c _ _ _ _ _ rfl (pe_comp rfl (compScope (osc := defScope sLh) (N := ["_law_spans_here", "_law_holes_here", "_law_track", "_law_mine", "_law_begun", "_law_cut_here", "_law_covered_here"]) rfl rfl (by decide +kernel)) (pi_list (pv 0)) (fun _ _ _ _ => pf_nil) (fun _ _ _ _ => (@pe_ix _ _ _ _ _ _ _ (ix_tupK (K := K) rfl) (pv 0) pe_int (fun _ _ => rfl)))) pa_nil)) pa_nil))) (pg_name (i := 2) scLh.nd rfl (Or.inr rfl)) (@pss_cons _ _ _ _ _ (ps_comp (i := 3) scLh.nd rfl rfl rfl (compScope (osc := defScope sLh) (N := ["_law_spans_here", "_law_holes_here", "_law_track", "_law_mine", "_law_begun", "_law_cut_here", "_law_covered_here"]) rfl rfl (by decide +kernel)) (pi_list (pv 0)) (fun _ _ _ _ => (pf_one (pt_cmpR op_eq (@pe_ix _ _ _ _ _ _ _ (ix_tupK (K := K) rfl) (pv 0) pe_int (fun _ _ => rfl)) (pv 3) (nomark _)))) (fun _ _ _ _ => (pv 0)))
      (@pss_cons _ _ _ _ _ (@ps_setE _ _ _ _ _ _ 4 scLh.nd rfl (Or.inl rfl) pe_non (by kernel_rfl) (.inl rfl))
      (@pss_one _ _ _ (ps_for PassesOwn.never rfl (pi_list (pe_callB (call_sortedS rfl) rfl T.sorted PyProof.Rows.boot_sorted (@pa_c _ _ _ _ _ rfl (pe_callTy (call_set rfl) rfl T.set PyProof.Rows.boot_set (@pa_c _ _ _ _ _ rfl (pe_op op_cat (pe_comp rfl (compScope (osc := defScope sLh) (N := ["_law_spans_here", "_law_holes_here", "_law_track", "_law_mine", "_law_begun", "_law_cut_here", "_law_covered_here"]) rfl rfl (by decide +kernel)) (pi_list (pv 3)) (fun _ _ _ _ => pf_nil) (fun _ _ _ _ => (@pe_ix _ _ _ _ _ _ _ (ix_tupK (K := K) rfl) (pv 0) pe_int (fun _ _ => rfl)))) (pe_comp rfl (compScope (osc := defScope sLh) (N := ["_law_spans_here", "_law_holes_here", "_law_track", "_law_mine", "_law_begun", "_law_cut_here", "_law_covered_here"]) rfl rfl (by decide +kernel)) (pi_list (pv 3)) (fun _ _ _ _ => pf_nil) (fun _ _ _ _ => (@pe_ix _ _ _ _ _ _ _ (ix_tupK (K := K) rfl) (pv 0) pe_int (fun _ _ => rfl))))) pa_nil)) pa_nil))) (pg_name (i := 5) scLh.nd rfl (Or.inl rfl)) (@pss_cons _ _ _ _ _ (@ps_setE _ _ _ _ _ _ 6 scLh.nd rfl (Or.inl rfl) (pe_call GCv hrCv rfl N.mCv N.FCv.kp N.bCv .nil pass0 (@pa_c _ _ _ _ _ rfl (pv 3) (@pa_c _ _ _ _ _ rfl (pv 5) pa_nil))) (by kernel_rfl) (.inl rfl))
      (@pss_cons _ _ _ _ _ (@ps_if _ _ _ _ _ _ _ _ (PW.pt (pw_and (pt_val (pv 6)) (pw_and1 (pt_cmpR op_isN (pv 4) pe_non (nomark _))))) (@pss_one _ _ _ (@ps_setE _ _ _ _ _ _ 4 scLh.nd rfl (Or.inl rfl) (pv 5) (by kernel_rfl) (.inl rfl))) pss_nil)
      (@pss_one _ _ _ (@ps_if _ _ _ _ _ _ _ _ (PW.pt (pw_and (pt_not (pt_val (pv 6))) (pw_and1 (pt_cmpR op_notN (pv 4) pe_non (nomark _))))) (@pss_cons _ _ _ _ _ (ps_expr (pe_bm PySem.F.plainAttrs_list PySem.F.slot_list_append PySem.F.type_list_append mt_append (pv 1) (@pa_c _ _ _ _ _ rfl (@pe_tup _ _ _ _ _ (@pa_c _ _ _ _ _ rfl (pv 2) (@pa_c _ _ _ _ _ rfl (pv 4) (@pa_c _ _ _ _ _ rfl (pv 5) pa_nil)))) pa_nil)))
      (@pss_one _ _ _ (@ps_setE _ _ _ _ _ _ 4 scLh.nd rfl (Or.inl rfl) pe_non (by kernel_rfl) (.inl rfl)))) pss_nil)))))))))
      (@pss_one _ _ _ (@ps_ret _ _ _ _ (pe_sortLam rfl TK hr.z rfl T.sorted (pv 1) rfl rfl (fun _ _ _ _ => rfl) rfl (by decide +kernel) rfl rfl rfl rfl rfl))))), ?_⟩
    have l0 := A0.len
    refine ⟨Nat.zero_le _, fun l hl => ?_⟩
    have s1 := same_upd (o := HO.lst []) hl
    have l1 : upd H l (HO.lst []) l = some (.lst []) := upd_same
    generalize upd H l (HO.lst []) = H1 at s1 l1 ⊢
    have A1 := A0.mono s1
    refine ⟨_, rfl, a, rfl, ⟨_, .inl (.inl A1.l)⟩, comp_rl (K := K) (fun _ => true) (fun h => .int h.1) A1 (small1000 (by omega)) (fun x hx T1 hT1 H' hs R k => k H' (Same.refl H')) (fun x hx _ T1 hT1 H' hs R k => ⟨_, rfl, T1, _, _, _, rfl, rfl, .inl (.inl (hs _ _ hT1)), atI_nat (j := 0) rfl, k H' (Same.refl H')⟩) (fun D H2 hD s2 hl2 => ?_)⟩
    have hl2' : H2 D = some (.lst ((ts.map (·.1)).map V.int)) := by rw [hl2, List.filter_eq_self.mpr (fun _ _ => rfl), List.map_map]; rfl
    refine ⟨D, ts.map (·.1), rfl, .inl (.inl hl2'), by rw [List.length_map]; omega, fun p3 hp3 => ⟨p3, _, rfl, upd_same, ?_, fun p4 trs hp4 pm4 po4 => ?_⟩⟩
    · have := Wd.foldI_len (ts.map (·.1)) []
      simp only [List.length_nil, Nat.zero_add, List.length_map] at this
      exact line20 (by omega)
    obtain ⟨tr1, tr2⟩ := set_sorted pm4 po4
    generalize e4 : upd (upd H2 p3 _) p4 (HO.lst (trs.map V.int)) = H4
    have s4 : Same H1 H4 := by
      rw [← e4]
      exact s2.trans ((same_upd hp3).trans (same_upd hp4))
    have lt4 : H4 p4 = some (.lst (trs.map V.int)) := by
      rw [← e4]
      exact upd_same
    clear e4
    have np4 : p4 ≠ l := Ne.symm (ne_of_none ((same_upd hp3) _ _ (s2 _ _ l1)) hp4)
    clear hl2 hl2' hD hp3 hp4 pm4 po4 s2
    have s04 := s1.trans s4
    refine ⟨p4, rfl, ⟨_, .inl (.inl lt4)⟩, for_list (K := K) (a := p4) (xs := trs.map V.int) (fun i σ H5 => ∃ (out : List Ro.T3) (zs : List V) (v2 v3 v4 v5 v6 : Option V), σ = [some (.ref a), some (.ref l), v2, v3, v4, v5, v6] ∧ RlAt H5 l out zs ∧ (∀ h ∈ out, Mxl (Cov ts) h ∧ h.1 ∈ trs.take i) ∧ (∀ tr ∈ trs.take i, ∀ t, Cov ts tr t → ∃ h ∈ out, h.1 = tr ∧ h.2.1 ≤ t ∧ t < h.2.2) ∧ out.Pairwise ordH ∧ Same H H5 ∧ H5 p4 = some (.lst (trs.map V.int))) ⟨[], [], _, _, _, _, _, rfl, ⟨s4 _ _ l1, .nil⟩, fun _ h => absurd h List.not_mem_nil, fun _ h => absurd h List.not_mem_nil, .nil, s04, lt4⟩ (fun i σ H5 _ h => by obtain ⟨_, _, _, _, _, _, _, _, _, _, _, _, _, h⟩ := h; exact .inl (.inl h)) ?_ ?_⟩
    · rintro i y σ H5 hi ⟨out, zs, v2, v3, v4, v5, v6, rfl, L5, mx5, al5, or5, s5, lt5⟩
      rw [List.getElem?_map] at hi
      obtain ⟨tr, htr, rfl⟩ := Option.map_eq_some_iff.mp hi
      obtain ⟨et1, et2⟩ := split_at htr
      have A5 := A0.mono s5
      have trlt : ∀ x ∈ trs.take i, x < tr := fun x hx => by
        have := tr1
        rw [et1, List.pairwise_append] at this
        exact this.2.2 x hx tr (List.mem_cons_self ..)
      refine ⟨_, rfl, a, rfl, ⟨_, .inl (.inl A5.l)⟩, comp_self (K := K) (fun x => decide (x.1 = tr)) A5 (small1000 (by omega)) (fun x hx T1 hT1 H' hs R k => ?_) (fun T1 H' hs R k => ⟨_, rfl, k H' (Same.refl H')⟩) (fun m H6 ms hm s6 A6 => ?_)⟩
      · refine ⟨_, rfl, T1, _, _, _, rfl, rfl, .inl (.inl (hs _ _ hT1)), atI_nat (j := 0) rfl, _, rfl, rfl, _, rfl, ?_⟩
        have e : decide (V.int x.1 = V.int tr) = decide (x.1 = tr) := by
          rw [Bool.eq_iff_iff, decide_eq_true_eq, decide_eq_true_eq]
          exact ⟨fun z => V.int.inj z, fun z => by rw [z]⟩
        rw [e]
        exact k H' (Same.refl H')
      have hmine : ∀ x ∈ ts.filter (fun x => decide (x.1 = tr)), x ∈ ts ∧ x.1 = tr := fun x hx => ⟨(List.mem_filter.mp hx).1, of_decide_eq_true (List.mem_filter.mp hx).2⟩
      have hcf : ∀ t, Cov (ts.filter fun x => decide (x.1 = tr)) tr t ↔ Cov ts tr t := fun t => cov_filter
      have hfl : (ts.filter fun x => decide (x.1 = tr)).length ≤ ts.length := List.length_filter_le ..
      generalize (ts.filter fun x => decide (x.1 = tr)) = mine at A6 hmine hcf hfl
      have lm := A6.len
      refine ⟨_, rfl, m, rfl, ⟨_, .inl (.inl A6.l)⟩, comp_rl (K := K) (fun _ => true) (fun h => .int h.2.1) A6 (small1000 (by omega)) (fun x hx T1 hT1 H' hs R k => k H' (Same.refl H')) (fun x hx _ T1 hT1 H' hs R k => ⟨_, rfl, T1, _, _, _, rfl, rfl, .inl (.inl (hs _ _ hT1)), atI_nat (j := 1) rfl, k H' (Same.refl H')⟩) (fun D7 H7 hD7 s7 hl7 => ?_)⟩
      have hl7' : H7 D7 = some (.lst ((mine.map (·.2.1)).map V.int)) := by rw [hl7, List.filter_eq_self.mpr (fun _ _ => rfl), List.map_map]; rfl
      have A7 := A6.mono s7
      refine ⟨_, rfl, m, rfl, ⟨_, .inl (.inl A7.l)⟩, comp_rl (K := K) (fun _ => true) (fun h => .int h.2.2) A7 (small1000 (by omega)) (fun x hx T1 hT1 H' hs R k => k H' (Same.refl H')) (fun x hx _ T1 hT1 H' hs R k => ⟨_, rfl, T1, _, _, _, rfl, rfl, .inl (.inl (hs _ _ hT1)), atI_nat (j := 2) rfl, k H' (Same.refl H')⟩) (fun D8 H8 hD8 s8 hl8 => ?_)⟩
      have hl8' : H8 D8 = some (.lst ((mine.map (·.2.2)).map V.int)) := by rw [hl8, List.filter_eq_self.mpr (fun _ _ => rfl), List.map_map]; rfl
      refine ⟨D7, D8, _, _, rfl, rfl, s8 _ _ hl7', hl8', line20 (by simp only [List.length_map]; omega), fun p9 hp9 => ?_⟩
      have l9 : upd H8 p9 (HO.lst ((mine.map (·.2.1)).map V.int ++ (mine.map (·.2.2)).map V.int)) p9 = some (.lst ((mine.map (·.2.1) ++ mine.map (·.2.2)).map V.int)) := by rw [upd_same, List.map_append]
      have s9 : Same H6 (upd H8 p9 (HO.lst ((mine.map (·.2.1)).map V.int ++ (mine.map (·.2.2)).map V.int))) := s7.trans (s8.trans (same_upd hp9))
      generalize upd H8 p9 (HO.lst ((mine.map (·.2.1)).map V.int ++ (mine.map (·.2.2)).map V.int)) = H9 at l9 s9 ⊢
      refine ⟨p9, _, rfl, .inl (.inl l9), by rw [List.length_append, List.length_map, List.length_map]; omega, fun pa hpa => ⟨pa, _, rfl, upd_same, line20 (by have := Wd.foldI_len (mine.map (·.2.1) ++ mine.map (·.2.2)) []; simp only [List.length_nil, Nat.zero_add, List.length_append, List.length_map] at this; omega), fun pb cuts hpb pmb pob => ?_⟩⟩
      obtain ⟨cu1, cu2⟩ := set_sorted pmb pob
      generalize eb : upd (upd H9 pa _) pb (HO.lst (cuts.map V.int)) = Hb
      have sb : Same H6 Hb := by
        rw [← eb]
        exact s9.trans ((same_upd hpa).trans (same_upd hpb))
      have lb : Hb pb = some (.lst (cuts.map V.int)) := by
        rw [← eb]
        exact upd_same
      have npb : pb ≠ l := Ne.symm (ne_of_none ((same_upd hpa) _ _ (s9 _ _ (s6 _ _ L5.l))) hpb)
      clear eb hl7 hl8 hl7' hl8' hpa hpb pmb pob hp9 l9 s9 s7 s8 A7 hD7 hD8
      have hcut : ∀ s ∈ mine, s.2.1 ∈ cuts ∧ s.2.2 ∈ cuts := fun s hs => ⟨(cu2 _).mpr (List.mem_append_left _ (List.mem_map.mpr ⟨s, hs, rfl⟩)), (cu2 _).mpr (List.mem_append_right _ (List.mem_map.mpr ⟨s, hs, rfl⟩))⟩
      have nm : m ≠ l := Ne.symm (ne_of_none L5.l hm)
      have s6b := s6.trans sb
      refine ⟨pb, rfl, ⟨_, .inl (.inl lb)⟩, for_list (K := K) (a := pb) (xs := cuts.map V.int) (fun j σ Hc => ∃ (bg : Option Int) (o2 : List Ro.T3) (z2 : List V) (v5 v6 : Option V), σ = [some (.ref a), some (.ref l), some (.int tr), some (.ref m), some (oI bg), v5, v6] ∧ RlAt Hc l (out ++ o2) z2 ∧ LH (Cov mine tr) tr (cuts.take j) bg o2 ∧ Same H Hc ∧ RlAt Hc m mine ms ∧ Hc pb = some (.lst (cuts.map V.int)) ∧ Hc p4 = some (.lst (trs.map V.int))) ⟨none, [], zs, _, _, rfl, by rw [List.append_nil]; exact L5.mono s6b, LH.nil, s5.trans s6b, A6.mono sb, lb, s6b _ _ lt5⟩ (fun j σ Hc _ h => by obtain ⟨_, _, _, _, _, _, _, _, _, _, h, _⟩ := h; exact .inl (.inl h)) ?_ ?_⟩
      · rintro j y σ Hc hj ⟨bg, o2, z2, v5, v6, rfl, Lc, I2, sc, Am, lpb, lp4⟩
        rw [List.getElem?_map] at hj
        obtain ⟨c, hc, rfl⟩ := Option.map_eq_some_iff.mp hj
        obtain ⟨ec1, ec2⟩ := split_at hc
        have N1 := nx_of (tr := tr) (fun s hs => (hmine s hs).2) ec1 cu1 hcut
        refine ⟨_, rfl, _, rfl, m, mine, ms, c, rfl, Am, fun b hb => ?_⟩
        have hbC : b = true ↔ Cov mine tr c := by
          rw [hb]
          constructor
          · rintro ⟨h, hm2, r⟩
            exact ⟨h, hm2, (hmine h hm2).2, r⟩
          · rintro ⟨h, hm2, _, r⟩
            exact ⟨h, hm2, r⟩
        rw [ec2]
        cases b with
        | true =>
          have hC : Cov mine tr c := hbC.mp rfl
          cases bg with
          | none =>
            refine ⟨_, rfl, _, rfl, iteT ⟨_, rfl, rfl, _, rfl, iteD rfl ⟨_, rfl, ?_⟩⟩⟩
            refine ⟨_, rfl, _, rfl, iteF (iteF ?_)⟩
            exact ⟨some c, o2, z2, _, _, rfl, Lc, I2.begin N1 hC, sc, Am, lpb, lp4⟩
          | some b0 =>
            refine ⟨_, rfl, _, rfl, iteT ⟨_, rfl, rfl, _, rfl, iteND (fun z => by cases z) ?_⟩⟩
            refine ⟨_, rfl, _, rfl, iteF (iteF ?_)⟩
            exact ⟨some b0, o2, z2, _, _, rfl, Lc, I2.stay N1 hC, sc, Am, lpb, lp4⟩
        | false =>
          have hC : ¬ Cov mine tr c := fun z => by have := hbC.mpr z; cases this
          cases bg with
          | none =>
            refine ⟨_, rfl, _, rfl, iteF (iteF ?_)⟩
            refine ⟨_, rfl, _, rfl, iteT ⟨_, rfl, rfl, _, rfl, iteNS rfl ?_⟩⟩
            exact ⟨none, o2, z2, _, _, rfl, Lc, I2.rest N1 hC, sc, Am, lpb, lp4⟩
          | some b0 =>
            refine ⟨_, rfl, _, rfl, iteF (iteF ?_)⟩
            refine ⟨_, rfl, _, rfl, iteT ⟨_, rfl, rfl, _, rfl, iteTr rfl ?_⟩⟩
            have I3 := I2.close N1 hC
            have mxo : ∀ h ∈ out ++ (o2 ++ [(tr, b0, c)]), Mxl (Cov ts) h := fun h hm2 => by
              rcases List.mem_append.mp hm2 with hm2 | hm2
              · exact (mx5 h hm2).1
              · obtain ⟨k0, k1, k2, k3, k4⟩ := I3.mx h hm2
                unfold Mxl
                rw [k0]
                exact ⟨k1, fun t h1 h2 => (hcf t).mp (k2 t h1 h2), fun z => k3 ((hcf _).mpr z), fun z => k4 ((hcf _).mpr z)⟩
            have ordo : (out ++ (o2 ++ [(tr, b0, c)])).Pairwise ordH := by
              rw [List.pairwise_append]
              refine ⟨or5, List.Pairwise.imp_of_mem (fun {x y} hx hy hxy => .inr ⟨by rw [(I3.mx x hx).1, (I3.mx y hy).1], hxy⟩) I3.ord, fun x hx y hy => .inl ?_⟩
              rw [(I3.mx y hy).1]
              exact trlt _ (mx5 x hx).2
            have cnt := count_le mxo (ord_nodup ordo fun h hm2 => (mxo h hm2).1)
            rw [List.length_append, List.length_append, List.length_singleton] at cnt
            have lz := Lc.len
            rw [List.length_append] at lz
            refine ⟨_, rfl, .inl ⟨rfl, _, .inl (.inl Lc.l)⟩, _, rfl, _, rfl, _, rfl, by show 3 ≤ sizeLine; decide, fun T0 hT0 => ?_⟩
            have sT := same_upd (o := HO.tup [V.int tr, V.int b0, V.int c]) hT0
            have hT : upd Hc T0 (HO.tup [V.int tr, V.int b0, V.int c]) T0 = some (.tup (triV (tr, b0, c))) := upd_same
            have Ld := Lc.mono sT
            have Ad := Am.mono sT
            have lpbd := sT _ _ lpb
            have lp4d := sT _ _ lp4
            have sd := sc.trans sT
            show tNil _ (upd Hc T0 (HO.tup [V.int tr, V.int b0, V.int c])) _
            generalize upd Hc T0 (HO.tup [V.int tr, V.int b0, V.int c]) = Hd at sT hT Ld Ad lpbd lp4d sd ⊢
            refine ⟨l, _, _, rfl, rfl, Ld.l, small1000 (by omega), ?_⟩
            refine ⟨none, o2 ++ [(tr, b0, c)], _, _, _, rfl, by rw [← List.append_assoc]; exact Ld.snoc hT, I3, fun b o e => by rw [upd_ne (ne_of_none e hl)]; exact sd b o e, ⟨by rw [upd_ne nm]; exact Ad.l, paired_upd Ad.p Ld.l⟩, by rw [upd_ne npb]; exact lpbd, by rw [upd_ne np4]; exact lp4d⟩
      · rintro σ Hc ⟨bg, o2, z2, v5, v6, rfl, Lc, I2, sc, Am, lpb, lp4⟩
        rw [List.take_of_length_le (by rw [List.length_map]; exact Nat.le_refl _)] at I2
        obtain ⟨eb, hall⟩ := I2.done (fun s hs => (hmine s hs).2) cu1 (fun s hs => ⟨(hcut s hs).1, (hcut s hs).2, hok s (hmine s hs).1⟩)
        refine ⟨out ++ o2, z2, _, _, _, _, _, rfl, Lc, fun h hm2 => ?_, fun x hx t hC => ?_, ?_, sc, lp4⟩
        · rw [et2]
          rcases List.mem_append.mp hm2 with hm2 | hm2
          · exact ⟨(mx5 h hm2).1, List.mem_append_left _ (mx5 h hm2).2⟩
          · obtain ⟨k0, k1, k2, k3, k4⟩ := I2.mx h hm2
            unfold Mxl
            rw [k0]
            exact ⟨⟨k1, fun t h1 h2 => (hcf t).mp (k2 t h1 h2), fun z => k3 ((hcf _).mpr z), fun z => k4 ((hcf _).mpr z)⟩, by simp⟩
        · rw [et2] at hx
          rcases List.mem_append.mp hx with hx | hx
          · obtain ⟨h, hm2, r⟩ := al5 x hx t hC
            exact ⟨h, List.mem_append_left _ hm2, r⟩
          · rw [List.mem_singleton.mp hx] at hC ⊢
            obtain ⟨h, hm2, r⟩ := hall t ((hcf t).mpr hC)
            exact ⟨h, List.mem_append_right _ hm2, (I2.mx h hm2).1, r⟩
        · rw [List.pairwise_append]
          refine ⟨or5, List.Pairwise.imp_of_mem (fun {x y} hx hy hxy => .inr ⟨by rw [(I2.mx x hx).1, (I2.mx y hy).1], hxy⟩) I2.ord, fun x hx y hy => .inl ?_⟩
          rw [(I2.mx y hy).1]
          exact trlt _ (mx5 x hx).2
    · rintro σ H5 ⟨out, zs, v2, v3, v4, v5, v6, rfl, L5, mx5, al5, or5, s5, lt5⟩
      rw [List.take_of_length_le (by rw [List.length_map]; exact Nat.le_refl _)] at mx5 al5
      have sepo := max_sep fun h hm2 => (mx5 h hm2).1
      have ndo := ord_nodup or5 fun h hm2 => (mx5 h hm2).1.1
      have cnt := count_le (fun h hm2 => (mx5 h hm2).1) ndo
      have hzl := L5.len
      have tb4 := hTb.same s5
      refine ⟨_, rfl, l, out, zs, rfl, .inl (.inl L5.l), L5.p, by omega, tb4.2.2, fun p6 ix6 H6 h61 h62 k6 tb6 pm6 pw6 => ?_⟩
      have pm7 : ix6.Perm (List.range out.length) := by rw [hzl]; exact pm6
      have kp6 : Kp (tb P1 P2) H5 H6 := fun b o ho e => k6 b o (fun z => by
        rcases tb4.2.2 with t1 | ⟨c, t1, _⟩
        · rw [z] at e; rw [t1] at e; exact ho _ (Option.some.inj e).symm
        · rw [z] at e; rw [t1] at e; exact ho _ (Option.some.inj e).symm) e
      have L6 := RlAt.kp L5 kp6
      have s7 := same_upd (o := HO.lst (ix6.map fun i => zs.getD i V.non)) h62
      have tbH6 : Tb (tb P1 P2) H6 := by
        refine ⟨tb4.1, ?_, tb6⟩
        have n12 := tb4.1
        rcases tb4.2.1 with t1 | ⟨c, t1, t2⟩
        · exact .inl (k6 _ _ n12 t1)
        · exact .inr ⟨c, k6 _ _ n12 t1, kp6 _ _ (fun ps z => by cases z) t2⟩
      refine q p6 (ix6.map fun i => out.getD i (0, 0, 0)) _ _ (fr_of ((Kp.of (B := tb P1 P2) s5).trans kp6) h62) ((Kp.of (B := tb P1 P2) s5).trans (kp6.trans (Kp.of s7))) (tbH6.same s7) ⟨upd_same, paired_mono s7 (pick_paired L6.p fun i hi => List.mem_range.mp (pm6.mem_iff.mp hi))⟩ (canon_of sepo ndo pm7 pw6) (fun tr t => ?_)
      rw [Cov.perm (pick_mem pm7)]
      constructor
      · rintro ⟨h, hm2, rfl, h1, h2⟩
        exact (mx5 h hm2).1.2.1 t h1 h2
      · intro hC
        have htr : tr ∈ trs := by
          obtain ⟨s, sm, se, _⟩ := id hC
          exact (tr2 tr).mpr (List.mem_map.mpr ⟨s, sm, se⟩)
        exact al5 tr htr t hC
def spM7 : Sp := fun vs H Q _ => ∃ (a : Addr) (ts : List T3) (ys : List V) (k : Int), vs = [.ref a, .int k] ∧ RlAt H a ts ys ∧ ys.length < 400 ∧ ∀ (p : Addr) (zs : List V) (H' : Hp), Same H H' → RlAt H' p (ts.map (mov k)) zs → Q (.ref p) H'
theorem scM7 : FnScope ["_law_spans_here", "_law_by"] ["_law_spans_here", "_law_by"] (defScope sM7) := ⟨rfl, rfl, rfl, by decide +kernel, rfl, by decide +kernel, by decide +kernel⟩
theorem ok_M7 (N : Fns K mg c1 c2 fWh fMb fIl fHw fAh fHo fFh fRf fRo fIr fOa fCa fLw fMx fLe fPo fSa fSs fCv fLh fIs fSl fMv fRp fEe fC7 fLo fM7 fNx fDd fOs dWh dMb dIl dHw dAh dHo dFh dRf dRo dIr dOa dCa dLw dMx dLe dPo dSa dSs dCv dLh dIs dSl dMv dRp dEe dC7 dLo dM7 dNx dDd dOs) (T : Txt K mg) : FnOk P w K mg base CX0 1 fM7 dM7 ["_law_spans_here", "_law_by"] spM7 := by
  refine N.FM7.ok scM7 (fun vs H Q E h => ?_) (fun cdv A outer s H vs Q E hr h => ?_)
  · obtain ⟨a, ts, ys, k, rfl, _⟩ := h
    rfl
  · obtain ⟨a, ts, ys, k, rfl, A, hz, q⟩ := h
    refine ⟨_, (@pss_one _ _ _ (@ps_ret _ _ _ _ (pe_tri rfl (compScope4 (osc := defScope sM7) (N := ["_law_spans_here", "_law_by"]) rfl rfl (by decide +kernel)) (pi_list (pv 0)) (fun _ _ _ _ => pf_nil) (fun _ _ _ _ => (@pe_tup _ _ _ _ _ (@pa_c _ _ _ _ _ rfl (pv 0) (@pa_c _ _ _ _ _ rfl (pe_op op_add (pv 1) (pv 4)) (@pa_c _ _ _ _ _ rfl (pe_op op_add (pv 2) (pv 4)) pa_nil)))))))), ?_⟩
    refine ⟨_, rfl, a, rfl, ⟨_, .inl (.inl A.l)⟩, comp_tri (K := K) (l := ts) (vs := ys) t3V (fun _ => true) (fun x => t3V (mov k x)) (.inl (.inl A.l)) A.p (fun x => ⟨_, _, _, rfl⟩) (small1000 (by omega)) (fun x hx v1 v2 v3 e H' hs R kk => kk H' (Same.refl H')) (fun x hx _ v1 v2 v3 e H' hs R kk => ?_) (fun D H2 z2 hD s2 hl hp => ?_)⟩
    · cases e
      exact ⟨_, rfl, _, rfl, _, rfl, _, _, rfl, rfl, _, rfl, _, rfl, _, _, rfl, rfl, by show 3 ≤ sizeLine; decide, fun t ht => kk _ _ (same_upd ht) ⟨t, rfl, upd_same⟩⟩
    rw [List.filter_eq_self.mpr (fun _ _ => rfl)] at hp
    exact q D z2 H2 s2 ⟨hl, paired_of_map _ hp⟩
def spC7 : Sp := fun vs H Q _ => ∃ (a : Addr) (ts : List T3) (ys : List V) (lo hi : Int), vs = [.ref a, .int lo, .int hi] ∧ RlAt H a ts ys ∧ ys.length < 64 ∧ ∀ (p : Addr) (zs : List V) (H' : Hp), Same H H' → zs.length < 64 → RlAt H' p ((ts.filter (lc lo hi)).map (lf lo hi)) zs → Q (.ref p) H'
theorem scC7 : FnScope ["_law_spans_here", "_law_low", "_law_high", "_law_cut_here", "_law_track", "_law_first", "_law_behind"] ["_law_spans_here", "_law_low", "_law_high"] (defScope sC7) := ⟨rfl, rfl, rfl, by decide +kernel, rfl, by decide +kernel, by decide +kernel⟩
theorem ok_C7 (N : Fns K mg c1 c2 fWh fMb fIl fHw fAh fHo fFh fRf fRo fIr fOa fCa fLw fMx fLe fPo fSa fSs fCv fLh fIs fSl fMv fRp fEe fC7 fLo fM7 fNx fDd fOs dWh dMb dIl dHw dAh dHo dFh dRf dRo dIr dOa dCa dLw dMx dLe dPo dSa dSs dCv dLh dIs dSl dMv dRp dEe dC7 dLo dM7 dNx dDd dOs) (T : Txt K mg) : FnOk P w K mg base CX0 1 fC7 dC7 ["_law_spans_here", "_law_low", "_law_high"] spC7 := by
  refine N.FC7.ok scC7 (fun vs H Q E h => ?_) (fun cdv A outer s H vs Q E hr h => ?_)
  · obtain ⟨a, ts, ys, lo, hi, rfl, _⟩ := h
    rfl
  · obtain ⟨a, ts, ys, lo, hi, rfl, A0, h64, q⟩ := h
    refine ⟨_, (@pss_cons _ _ _ _ _ (@ps_setE _ _ _ _ _ _ 3 scC7.nd rfl (Or.inl rfl) (@pe_lst _ _ _ _ pa_nil) (by kernel_rfl) (.inl rfl))
      (@pss_cons _ _ _ _ _ (ps_for PassesOwn.never rfl (pi_list (pv 0)) (pg_tup rfl (pgs_cons (pg_name (i := 4) scC7.nd rfl (Or.inl rfl)) (pgs_cons (pg_name (i := 5) scC7.nd rfl (Or.inl rfl)) (pgs_cons (pg_name (i := 6) scC7.nd rfl (Or.inl rfl)) pgs_nil)))) (@pss_one _ _ _ (@ps_if _ _ _ _ _ _ _ _ (pt_cmpR op_lt (pe_callB (call_max2 rfl) rfl T.max PyProof.Rows.boot_max (@pa_c _ _ _ _ _ rfl (pv 5) (@pa_c _ _ _ _ _ rfl (pv 1) pa_nil))) (pe_callB (call_min2 rfl) rfl T.min PyProof.Rows.boot_min (@pa_c _ _ _ _ _ rfl (pv 6) (@pa_c _ _ _ _ _ rfl (pv 2) pa_nil))) (nomark _)) (@pss_one _ _ _ (ps_expr (pe_bm PySem.F.plainAttrs_list PySem.F.slot_list_append PySem.F.type_list_append mt_append (pv 3) (@pa_c _ _ _ _ _ rfl (@pe_tup _ _ _ _ _ (@pa_c _ _ _ _ _ rfl (pv 4) (@pa_c _ _ _ _ _ rfl (pe_op op_sub (pe_callB (call_max2 rfl) rfl T.max PyProof.Rows.boot_max (@pa_c _ _ _ _ _ rfl (pv 5) (@pa_c _ _ _ _ _ rfl (pv 1) pa_nil))) (pv 1)) (@pa_c _ _ _ _ _ rfl (pe_op op_sub (pe_callB (call_min2 rfl) rfl T.min PyProof.Rows.boot_min (@pa_c _ _ _ _ _ rfl (pv 6) (@pa_c _ _ _ _ _ rfl (pv 2) pa_nil))) (pv 1)) pa_nil)))) pa_nil)))) pss_nil)))
      (@pss_one _ _ _ (@ps_ret _ _ _ _ (pv 3))))), ?_⟩
    have l0 := A0.len
    refine ⟨Nat.zero_le _, fun l hl => ?_⟩
    have s1 := same_upd (o := HO.lst []) hl
    have l1 : upd H l (HO.lst []) l = some (.lst []) := upd_same
    generalize upd H l (HO.lst []) = H1 at s1 l1 ⊢
    refine ⟨_, rfl, a, rfl, ⟨_, .inl (.inl (A0.mono s1).l)⟩, for_list (K := K) (a := a) (xs := ys) (fun i σ H4 => ∃ (zs : List V) (v4 v5 v6 : Option V), σ = [some (.ref a), some (.int lo), some (.int hi), some (.ref l), v4, v5, v6] ∧ RlAt H4 l (((ts.take i).filter (lc lo hi)).map (lf lo hi)) zs ∧ Same H H4) ⟨[], _, _, _, rfl, ⟨l1, .nil⟩, s1⟩ (fun i σ H4 _ h => by obtain ⟨_, _, _, _, _, _, s⟩ := h; exact .inl (.inl (A0.mono s).l)) ?_ ?_⟩
    · rintro i y σ H4 hi' ⟨zs, v4, v5, v6, rfl, L4, s4⟩
      obtain ⟨x, T0, hx, hxd, rfl, hT⟩ := (A0.mono s4).at hi'
      obtain ⟨e1, e2⟩ := split_at hx
      have hzl : zs.length < 64 := by
        have a1 := L4.len
        rw [List.length_map] at a1
        have a2 := List.length_filter_le (lc lo hi) (ts.take i)
        rw [List.length_take] at a2
        omega
      refine ⟨T0, _, rfl, .inl (.inl hT), rfl, _, _, rfl, _, _, rfl, _, _, rfl, rfl, ?_⟩
      have em1 : (if lo > x.2.1 then lo else x.2.1) = max x.2.1 lo := by split <;> omega
      have em2 : (if hi < x.2.2 then hi else x.2.2) = min x.2.2 hi := by split <;> omega
      refine ⟨_, rfl, _, rfl, _, _, rfl, _, rfl, _, rfl, _, _, rfl, _, _, rfl, rfl, _, rfl, ?_⟩
      rw [em1, em2]
      refine ite2 (fun h1 => ?_) (fun h1 => ?_)
      · have h1' : lc lo hi x = true := h1
        have ef : ((ts.take (i + 1)).filter (lc lo hi)).map (lf lo hi) = ((ts.take i).filter (lc lo hi)).map (lf lo hi) ++ [lf lo hi x] := by
          rw [e2, List.filter_append, List.map_append, List.filter_cons, if_pos h1']
          rfl
        refine ⟨_, rfl, .inl ⟨rfl, _, .inl (.inl L4.l)⟩, _, rfl, _, rfl, _, rfl, _, _, rfl, _, rfl, _, _, rfl, rfl, _, rfl, _, rfl, _, _, rfl, _, rfl, _, _, rfl, rfl, by show 3 ≤ sizeLine; decide, fun t6 ht6 => ?_⟩
        have s6 := same_upd (o := HO.tup [V.int x.1, V.int ((if lo > x.2.1 then lo else x.2.1) - lo), V.int ((if hi < x.2.2 then hi else x.2.2) - lo)]) ht6
        have hT6 : upd H4 t6 (HO.tup [V.int x.1, V.int ((if lo > x.2.1 then lo else x.2.1) - lo), V.int ((if hi < x.2.2 then hi else x.2.2) - lo)]) t6 = some (.tup (t3V (lf lo hi x))) := by
          rw [upd_same, em1, em2]
          rfl
        have L6 := L4.mono s6
        show tNil _ (upd H4 t6 (HO.tup [V.int x.1, V.int ((if lo > x.2.1 then lo else x.2.1) - lo), V.int ((if hi < x.2.2 then hi else x.2.2) - lo)])) _
        generalize upd H4 t6 (HO.tup [V.int x.1, V.int ((if lo > x.2.1 then lo else x.2.1) - lo), V.int ((if hi < x.2.2 then hi else x.2.2) - lo)]) = H6 at s6 hT6 L6 ⊢
        refine ⟨l, _, _, rfl, rfl, L6.l, small1000 (by omega), ?_⟩
        rw [ef]
        exact ⟨_, _, _, _, rfl, L6.snoc hT6, fun b o e => by rw [upd_ne (ne_of_none e hl)]; exact s6 _ _ (s4 b o e)⟩
      · have h1' : ¬ lc lo hi x = true := h1
        have ef : ((ts.take (i + 1)).filter (lc lo hi)).map (lf lo hi) = ((ts.take i).filter (lc lo hi)).map (lf lo hi) := by
          rw [e2, List.filter_append, List.map_append, List.filter_cons, if_neg h1']
          simp
        rw [ef]
        exact ⟨_, _, _, _, rfl, L4, s4⟩
    · rintro σ H4 ⟨zs, v4, v5, v6, rfl, L4, s4⟩
      rw [List.take_of_length_le (by omega)] at L4
      have hzl : zs.length < 64 := by
        have a1 := L4.len
        rw [List.length_map] at a1
        have a2 := List.length_filter_le (lc lo hi) ts
        omega
      exact ⟨_, rfl, q l zs H4 s4 hzl L4⟩
theorem ok_OaA (N : Fns K mg c1 c2 fWh fMb fIl fHw fAh fHo fFh fRf fRo fIr fOa fCa fLw fMx fLe fPo fSa fSs fCv fLh fIs fSl fMv fRp fEe fC7 fLo fM7 fNx fDd fOs dWh dMb dIl dHw dAh dHo dFh dRf dRo dIr dOa dCa dLw dMx dLe dPo dSa dSs dCv dLh dIs dSl dMv dRp dEe dC7 dLo dM7 dNx dDd dOs) (T : Txt K mg) : FnOk P w K mg base CX0 1 fOa dOa ["roll", "tick"] spOaA := by
  refine N.FOa.ok scOa (fun vs H Q E h => ?_) (fun cdv A outer s H vs Q E hr h => ?_)
  · obtain ⟨r, len, tick, hs, rfl, _⟩ := h
    rfl
  · obtain ⟨r, len, tick, hs, rfl, ⟨p, zs, hr1, A0⟩, c0, h64, q⟩ := h
    refine ⟨_, (@pss_one _ _ _ (@ps_ret _ _ _ _ (pe_callB call_sortedA rfl T.sorted PyProof.Rows.boot_sorted (@pa_c _ _ _ _ _ rfl (pe_comp rfl (compScope (osc := defScope sOa) (N := ["roll", "tick"]) rfl rfl (by decide +kernel)) (pi_list (@pe_ix _ _ _ _ _ _ _ (ix_tupK (K := K) rfl) (pv 0) pe_int (fun _ _ => rfl))) (fun _ _ _ _ => (pf_one (pt_chain op_le op_lt (@pe_ix _ _ _ _ _ _ _ (ix_tupK (K := K) rfl) (pv 0) pe_int (fun _ _ => rfl)) (pv 2) (@pe_ix _ _ _ _ _ _ _ (ix_tupK (K := K) rfl) (pv 0) pe_int (fun _ _ => rfl))))) (fun _ _ _ _ => (@pe_ix _ _ _ _ _ _ _ (ix_tupK (K := K) rfl) (pv 0) pe_int (fun _ _ => rfl)))) pa_nil)))), ?_⟩
    have l0 := A0.len
    refine ⟨_, rfl, r, _, _, _, rfl, rfl, .inl (.inl hr1), atI_nat (j := 1) rfl, p, rfl, ⟨_, .inl (.inl A0.l)⟩, comp_rl (K := K) (fun h => decide (h.2.1 ≤ tick) && decide (tick < h.2.2)) (fun h => .int h.1) A0 (small1000 (by omega)) (fun x hx T1 hT1 H' hs R k => ?_) (fun x hx _ T1 hT1 H' hs R k => ?_) (fun D H2 hD hs2 hl => ?_)⟩
    · refine ⟨_, rfl, T1, _, _, _, rfl, rfl, .inl (.inl (hs _ _ hT1)), atI_nat (j := 1) rfl, _, rfl, _, _, rfl, rfl, _, rfl, ?_⟩
      have kk := k H' (Same.refl H')
      refine ite2 (fun g1 => ?_) (fun g1 => ?_)
      · refine ⟨_, rfl, T1, _, _, _, rfl, rfl, .inl (.inl (hs _ _ hT1)), atI_nat (j := 2) rfl, _, _, rfl, rfl, _, rfl, ?_⟩
        rw [show decide (x.2.1 ≤ tick) = true from g1, Bool.true_and] at kk
        exact kk
      · rw [show decide (x.2.1 ≤ tick) = false from (Bool.not_eq_true _).mp g1, Bool.false_and] at kk
        exact ⟨_, rfl, kk⟩
    · exact ⟨_, rfl, T1, _, _, _, rfl, rfl, .inl (.inl (hs _ _ hT1)), atI_nat (j := 0) rfl, k H' (Same.refl H')⟩
    have hl' : H2 D = some (.lst (((hs.filter fun h => decide (h.2.1 ≤ tick) && decide (tick < h.2.2)).map (·.1)).map V.int)) := by rw [hl, List.map_map]; rfl
    refine ⟨D, _, rfl, .inl (.inl hl'), fun l ms hl2 pm po => ?_⟩
    obtain ⟨g1, g2⟩ := open_once c0 pm po
    exact q l ms _ (hs2.trans (same_upd hl2)) upd_same g1 g2
theorem scOs : FnScope ["_law_roll", "_law_holes_here", "_law_track", "_law_first", "_law_behind", "_law_tick", "_law_due"] ["_law_roll", "_law_holes_here"] (defScope sOs) := ⟨rfl, rfl, rfl, by decide +kernel, rfl, by decide +kernel, by decide +kernel⟩
theorem ok_Os (N : Fns K mg c1 c2 fWh fMb fIl fHw fAh fHo fFh fRf fRo fIr fOa fCa fLw fMx fLe fPo fSa fSs fCv fLh fIs fSl fMv fRp fEe fC7 fLo fM7 fNx fDd fOs dWh dMb dIl dHw dAh dHo dFh dRf dRo dIr dOa dCa dLw dMx dLe dPo dSa dSs dCv dLh dIs dSl dMv dRp dEe dC7 dLo dM7 dNx dDd dOs) (T : Txt K mg) : FnOk P w K mg base CX0 2 fOs dOs ["_law_roll", "_law_holes_here"] spOs := by
  have GOaA : FnOk P w K mg base CX0 1 fOa dOa ["roll", "tick"] spOaA := ok_OaA N T
  refine N.FOs.ok scOs (fun vs H Q E h => ?_) (fun cdv A outer s H vs Q E hr h => ?_)
  · obtain ⟨r, p, len, hs, zs, rfl, _⟩ := h
    rfl
  · obtain ⟨r, p, len, hs, zs, rfl, R, A0, c0, hn, q⟩ := h
    have hrOaA : Room 1 _ := hr.mono (by decide)
    refine ⟨_, (@pss_cons _ _ _ _ _ (ps_for PassesOwn.never rfl (pi_list (pe_slice sl_list (pv 1) po_none (po_some pe_int))) (pg_tup rfl (pgs_cons (pg_name (i := 2) scOs.nd rfl (Or.inl rfl)) (pgs_cons (pg_name (i := 3) scOs.nd rfl (Or.inl rfl)) (pgs_cons (pg_name (i := 4) scOs.nd rfl (Or.inl rfl)) pgs_nil)))) (@pss_one _ _ _ (ps_for PassesOwn.never rfl (pi_list (@pe_lst _ _ _ _ (@pa_c _ _ _ _ _ rfl (pe_op op_sub (pv 3) pe_int) (@pa_c _ _ _ _ _ rfl (pv 3) (@pa_c _ _ _ _ _ rfl (pe_op op_sub (pv 4) pe_int) (@pa_c _ _ _ _ _ rfl (pv 4) pa_nil)))))) (pg_name (i := 5) scOs.nd rfl (Or.inr rfl)) (@pss_cons _ _ _ _ _ (@ps_setE _ _ _ _ _ _ 6 scOs.nd rfl (Or.inl rfl) (pe_callB call_sortedA rfl T.sorted PyProof.Rows.boot_sorted (@pa_c _ _ _ _ _ rfl (pe_comp rfl (compScope (osc := defScope sOs) (N := ["_law_roll", "_law_holes_here", "_law_track", "_law_first", "_law_behind", "_law_tick", "_law_due"]) rfl rfl (by decide +kernel)) (pi_list (pv 1)) (fun _ _ _ _ => (pf_one (PW.pt (pw_and (pt_cmpR op_le (@pe_ix _ _ _ _ _ _ _ (ix_tupK (K := K) rfl) (pv 0) pe_int (fun _ _ => rfl)) (pv 6) (nomark _)) (pw_and1 (pt_cmpR op_lt (pv 6) (@pe_ix _ _ _ _ _ _ _ (ix_tupK (K := K) rfl) (pv 0) pe_int (fun _ _ => rfl)) (nomark _))))))) (fun _ _ _ _ => (@pe_ix _ _ _ _ _ _ _ (ix_tupK (K := K) rfl) (pv 0) pe_int (fun _ _ => rfl)))) pa_nil)) (by kernel_rfl) (.inl rfl))
      (@pss_one _ _ _ (@ps_if _ _ _ _ _ _ _ _ (pt_cmpR (op_ne_list hr.units0) (pe_call GOaA hrOaA rfl N.mOa N.FOa.kp N.bOa .nil pass0 (@pa_c _ _ _ _ _ rfl (pv 0) (@pa_c _ _ _ _ _ rfl (pv 5) pa_nil))) (pv 6) (nomark _)) (@pss_one _ _ _ (@ps_ret _ _ _ _ pe_bl)) pss_nil))))))
      (@pss_one _ _ _ (@ps_ret _ _ _ _ pe_bl))), ?_⟩
    have l0 := A0.len
    refine ⟨_, rfl, _, rfl, p, _, rfl, .inl (.inl A0.l), fun p2 hp2 => ?_⟩
    have hm := fun y => @cutV_mem zs none (some 3) y
    have s2 := same_upd (o := HO.lst (cutV zs none (some 3))) hp2
    have a2 : upd H p2 (HO.lst (cutV zs none (some 3))) p2 = some (.lst (cutV zs none (some 3))) := upd_same
    generalize upd H p2 (HO.lst (cutV zs none (some 3))) = H2 at s2 a2 ⊢
    generalize cutV zs none (some 3) = ws at hm a2
    refine ⟨p2, rfl, ⟨_, .inl (.inl a2)⟩, for_list (K := K) (a := p2) (xs := ws) (fun i σ H4 => ∃ (v2 v3 v4 v5 v6 : Option V), σ = [some (.ref r), some (.ref p), v2, v3, v4, v5, v6] ∧ Same H2 H4) ⟨_, _, _, _, _, rfl, Same.refl _⟩ (fun i σ H4 _ h => by obtain ⟨_, _, _, _, _, _, s⟩ := h; exact .inl (.inl (s _ _ a2))) ?_ ?_⟩
    · rintro i y σ H4 hi ⟨v2, v3, v4, v5, v6, rfl, s4⟩
      obtain ⟨x, _, T0, rfl, hT0⟩ := paired_mem A0.p y (hm y (List.mem_of_getElem? hi))
      have hT := s4 _ _ (s2 _ _ hT0)
      refine ⟨T0, _, rfl, .inl (.inl hT), rfl, _, _, rfl, _, _, rfl, _, _, rfl, rfl, ?_⟩
      refine ⟨_, rfl, _, _, rfl, rfl, _, rfl, _, rfl, _, _, rfl, rfl, _, rfl, by show 4 ≤ sizeLine; decide, fun pl hpl => ?_⟩
      have s5 := same_upd (o := HO.lst [V.int (x.2.1 - 1), V.int x.2.1, V.int (x.2.2 - 1), V.int x.2.2]) hpl
      have a5 : upd H4 pl (HO.lst [V.int (x.2.1 - 1), V.int x.2.1, V.int (x.2.2 - 1), V.int x.2.2]) pl = some (.lst ([x.2.1 - 1, x.2.1, x.2.2 - 1, x.2.2].map V.int)) := upd_same
      generalize upd H4 pl (HO.lst [V.int (x.2.1 - 1), V.int x.2.1, V.int (x.2.2 - 1), V.int x.2.2]) = H5 at s5 a5 ⊢
      generalize [x.2.1 - 1, x.2.1, x.2.2 - 1, x.2.2] = tk at a5
      refine ⟨pl, rfl, ⟨_, .inl (.inl a5)⟩, for_list (K := K) (a := pl) (xs := tk.map V.int) (fun i σ H6 => ∃ (v2 v3 v4 v5 v6 : Option V), σ = [some (.ref r), some (.ref p), v2, v3, v4, v5, v6] ∧ Same H5 H6) ⟨_, _, _, _, _, rfl, Same.refl _⟩ (fun i σ H6 _ h => by obtain ⟨_, _, _, _, _, _, s⟩ := h; exact .inl (.inl (s _ _ a5))) ?_ ?_⟩
      · rintro j y σ H6 hj ⟨v2, v3, v4, v5, v6, rfl, s6⟩
        rw [List.getElem?_map] at hj
        obtain ⟨tick, _, rfl⟩ := Option.map_eq_some_iff.mp hj
        have s06 := s2.trans (s4.trans (s5.trans s6))
        have A6 := A0.mono s06
        refine ⟨_, rfl, p, rfl, ⟨_, .inl (.inl A6.l)⟩, comp_rl (K := K) (fun h => decide (h.2.1 ≤ tick) && decide (tick < h.2.2)) (fun h => .int h.1) A6 (small1000 (by omega)) (fun x hx T1 hT1 H' hs R k => ?_) (fun x hx _ T1 hT1 H' hs R k => ?_) (fun D H7 hD s7 hl => ?_)⟩
        · refine ⟨_, rfl, T1, _, _, _, rfl, rfl, .inl (.inl (hs _ _ hT1)), atI_nat (j := 1) rfl, _, rfl, _, _, rfl, rfl, _, rfl, ?_⟩
          have kk := k H' (Same.refl H')
          refine ite2 (fun g1 => ?_) (fun g1 => ?_)
          · refine ⟨_, rfl, _, rfl, T1, _, _, _, rfl, rfl, .inl (.inl (hs _ _ hT1)), atI_nat (j := 2) rfl, _, _, rfl, rfl, _, rfl, ?_⟩
            rw [show decide (x.2.1 ≤ tick) = true from g1, Bool.true_and] at kk
            exact kk
          · rw [show decide (x.2.1 ≤ tick) = false from (Bool.not_eq_true _).mp g1, Bool.false_and] at kk
            exact kk
        · exact ⟨_, rfl, T1, _, _, _, rfl, rfl, .inl (.inl (hs _ _ hT1)), atI_nat (j := 0) rfl, k H' (Same.refl H')⟩
        have hl' : H7 D = some (.lst (((hs.filter fun h => decide (h.2.1 ≤ tick) && decide (tick < h.2.2)).map (·.1)).map V.int)) := by rw [hl, List.map_map]; rfl
        refine ⟨D, _, rfl, .inl (.inl hl'), fun l ms hl2 pm po => ?_⟩
        obtain ⟨g1, g2⟩ := open_once c0 pm po
        have s8 := same_upd (o := HO.lst (ms.map V.int)) hl2
        have a8 : upd H7 l (HO.lst (ms.map V.int)) l = some (.lst (ms.map V.int)) := upd_same
        generalize upd H7 l (HO.lst (ms.map V.int)) = H8 at s8 a8 ⊢
        have s08 := s06.trans (s7.trans s8)
        refine ⟨_, rfl, _, rfl, r, len, tick, hs, rfl, R.mono s08, c0, hn, fun l9 m9 H9 s9 a9 w9 e9 => ⟨_, rfl, l9, l, _, _, rfl, rfl, .inl (.inl a9), .inl (.inl (s9 _ _ a8)), flat_i _, flat_i _, _, rfl, ?_⟩⟩
        have em : m9 = ms := (dif_of w9 g1 e9 g2).mpr fun z => z fun tr => Iff.rfl
        refine iteFa (by rw [if_pos rfl, eqL_ints, decide_eq_true em]; rfl) ?_
        exact ⟨_, _, _, _, _, rfl, s6.trans (s7.trans (s8.trans s9))⟩
      · rintro σ H6 ⟨v2, v3, v4, v5, v6, rfl, s6⟩
        exact ⟨_, _, _, _, _, rfl, s4.trans (s5.trans s6)⟩
    · rintro σ H4 ⟨v2, v3, v4, v5, v6, rfl, s4⟩
      exact q H4 (s2.trans s4)
theorem scNx : FnScope ["_law_roll", "_law_spans_here", "_law_first", "_law_firsts", "_law_cell", "_law_way", "_law_length_here", "_law_low", "_law_high", "_law_times", "_law_due"] ["_law_roll", "_law_spans_here", "_law_first", "_law_firsts", "_law_cell"] (defScope sNx) := ⟨rfl, rfl, rfl, by decide +kernel, rfl, by decide +kernel, by decide +kernel⟩
theorem ok_NxW (N : Fns K mg c1 c2 fWh fMb fIl fHw fAh fHo fFh fRf fRo fIr fOa fCa fLw fMx fLe fPo fSa fSs fCv fLh fIs fSl fMv fRp fEe fC7 fLo fM7 fNx fDd fOs dWh dMb dIl dHw dAh dHo dFh dRf dRo dIr dOa dCa dLw dMx dLe dPo dSa dSs dCv dLh dIs dSl dMv dRp dEe dC7 dLo dM7 dNx dDd dOs) (T : Txt K mg) (K1 : TabK mg base c1 P1) (K2 : TabK mg base c2 P2) (O : Own K mg e0 [] eO) : FnOk P w K mg base (CXW P w) 5 fNx dNx ["_law_roll", "_law_spans_here", "_law_first", "_law_firsts", "_law_cell"] (spNx e0 (tb P1 P2)) := by
  have GMx : FnOk P w K mg base CX0 1 fMx dMx ["_law_cell", "_law_by", "_law_many"] spMx := ok_Mx N T
  have GRpW : FnOk P w K mg base (CXW P w) 4 fRp dRp ["roll", "first", "behind"] (spRp K e0 (tb P1 P2)) := ok_RpW N T K1 K2 O
  have GC7 : FnOk P w K mg base CX0 1 fC7 dC7 ["_law_spans_here", "_law_low", "_law_high"] spC7 := ok_C7 N T
  have GEeW : FnOk P w K mg base (CXW P w) 4 fEe dEe ["one", "other"] (spEe7 e0 (tb P1 P2)) := ok_EeW N T K1 K2 O
  have GM7 : FnOk P w K mg base CX0 1 fM7 dM7 ["_law_spans_here", "_law_by"] spM7 := ok_M7 N T
  have GLo : FnOk P w K mg base CX0 4 fLo dLo ["one", "other"] (spLo7 (tb P1 P2)) := ok_Lo N T K1 K2
  have GSlW : FnOk P w K mg base (CXW P w) 4 fSl dSl ["roll", "times"] (spSl K e0 (tb P1 P2)) := ok_SlW N T K1 K2 O
  refine N.FNx.okW scNx (fun vs H Q E h => ?_) (fun cdv A outer s H vs Q E hr h => ?_)
  · obtain ⟨r, p, r1, p1, len, l1, c, ts, hs, t1, h1, ys, y1, rfl, _⟩ := h
    rfl
  · obtain ⟨r, p, r1, p1, len, l1, c, ts, hs, t1, h1, ys, y1, rfl, R, R1, n56, nts, n16, hTb, qe, q⟩ := h
    have hrMx : Room 1 _ := hr.mono (by decide)
    have hrRpW : Room 4 _ := hr.mono (by decide)
    have hrC7 : Room 1 _ := hr.mono (by decide)
    have hrEeW : Room 4 _ := hr.mono (by decide)
    have hrM7 : Room 1 _ := hr.mono (by decide)
    have hrLo : Room 4 _ := hr.mono (by decide)
    have hrSlW : Room 4 _ := hr.mono (by decide)
    refine ⟨_, (@pss_cons _ _ _ _ _ (@ps_setE _ _ _ _ _ _ 5 scNx.nd rfl (Or.inl rfl) (pe_call GMx hrMx rfl N.mMx N.FMx.kp N.bMx .nil pass0 (@pa_c _ _ _ _ _ rfl (pv 4) (@pa_c _ _ _ _ _ rfl pe_int (@pa_c _ _ _ _ _ rfl pe_int pa_nil)))) (by kernel_rfl) (.inl rfl))
      (@pss_cons _ _ _ _ _ (@ps_setE _ _ _ _ _ _ 6 scNx.nd rfl (Or.inl rfl) (@pe_ix _ _ _ _ _ _ _ (ix_tupK (K := K) rfl) (pv 0) pe_int (fun _ _ => rfl)) (by kernel_rfl) (.inl rfl))
      (@pss_cons _ _ _ _ _ (@ps_if _ _ _ _ _ _ _ _ (PT.nox (PW.pt (pw_or (pt_cmpR op_gt (pe_callB call_len_seq rfl T.len PySem.boot_len (@pa_c _ _ _ _ _ rfl (@pe_ix _ _ _ _ _ _ _ (ix_tupK (K := K) rfl) (pv 0) pe_int (fun _ _ => rfl)) pa_nil)) pe_int (nomark _)) (pw_or1 (pt_cmpR op_gt (pv 5) pe_int (nomark _)))))) (@pss_cons _ _ _ _ _ (@ps_setE _ _ _ _ _ _ 7 scNx.nd rfl (Or.inl rfl) (pe_call GMx hrMx rfl N.mMx N.FMx.kp N.bMx .nil pass0 (@pa_c _ _ _ _ _ rfl (pv 4) (@pa_c _ _ _ _ _ rfl pe_int (@pa_c _ _ _ _ _ rfl (pe_op op_add (pv 6) pe_int) pa_nil)))) (by kernel_rfl) (.inl rfl))
      (@pss_cons _ _ _ _ _ (@ps_setE _ _ _ _ _ _ 8 scNx.nd rfl (Or.inl rfl) (pe_op op_add (pv 7) (pe_call GMx hrMx rfl N.mMx N.FMx.kp N.bMx .nil pass0 (@pa_c _ _ _ _ _ rfl (pv 4) (@pa_c _ _ _ _ _ rfl pe_int (@pa_c _ _ _ _ _ rfl (pe_op op_add (pe_op op_sub (pv 6) (pv 7)) pe_int) pa_nil))))) (by kernel_rfl) (.inl rfl))
      (@pss_one _ _ _ (@ps_ret _ _ _ _ (@pe_tup _ _ _ _ _ (@pa_c _ _ _ _ _ rfl (pe_call GRpW hrRpW rfl N.mRp N.FRp.kp N.bRp .nil pass_on (@pa_c _ _ _ _ _ rfl (pv 0) (@pa_c _ _ _ _ _ rfl (pv 7) (@pa_c _ _ _ _ _ rfl (pv 8) pa_nil)))) (@pa_c _ _ _ _ _ rfl (pe_op op_sub (pv 8) (pv 7)) (@pa_c _ _ _ _ _ rfl (pe_call GC7 hrC7 rfl N.mC7 N.FC7.kp N.bC7 .nil pass0 (@pa_c _ _ _ _ _ rfl (pv 1) (@pa_c _ _ _ _ _ rfl (pv 7) (@pa_c _ _ _ _ _ rfl (pv 8) pa_nil)))) pa_nil)))))))) pss_nil)
      (@pss_cons _ _ _ _ _ (@ps_if _ _ _ _ _ _ _ _ (PT.nox (pt_cmpR op_lt (pv 5) pe_int (nomark _))) (@pss_one _ _ _ (@ps_ret _ _ _ _ (@pe_tup _ _ _ _ _ (@pa_c _ _ _ _ _ rfl (pe_call GEeW hrEeW rfl N.mEe N.FEe.kp N.bEe .nil pass_on (@pa_c _ _ _ _ _ rfl (pv 0) (@pa_c _ _ _ _ _ rfl (pv 2) pa_nil))) (@pa_c _ _ _ _ _ rfl (pe_op op_add (pv 6) (@pe_ix _ _ _ _ _ _ _ (ix_tupK (K := K) rfl) (pv 2) pe_int (fun _ _ => rfl))) (@pa_c _ _ _ _ _ rfl (pe_op op_cat (pv 1) (pe_call GM7 hrM7 rfl N.mM7 N.FM7.kp N.bM7 .nil pass0 (@pa_c _ _ _ _ _ rfl (pv 3) (@pa_c _ _ _ _ _ rfl (pv 6) pa_nil)))) pa_nil)))))) pss_nil)
      (@pss_cons _ _ _ _ _ (@ps_if _ _ _ _ _ _ _ _ (PT.nox (pt_cmpR op_eq (pv 5) pe_int (nomark _))) (@pss_one _ _ _ (@ps_ret _ _ _ _ (@pe_tup _ _ _ _ _ (@pa_c _ _ _ _ _ rfl (pe_call GEeW hrEeW rfl N.mEe N.FEe.kp N.bEe .nil pass_on (@pa_c _ _ _ _ _ rfl (pv 2) (@pa_c _ _ _ _ _ rfl (pv 0) pa_nil))) (@pa_c _ _ _ _ _ rfl (pe_op op_add (pv 6) (@pe_ix _ _ _ _ _ _ _ (ix_tupK (K := K) rfl) (pv 2) pe_int (fun _ _ => rfl))) (@pa_c _ _ _ _ _ rfl (pe_op op_cat (pv 3) (pe_call GM7 hrM7 rfl N.mM7 N.FM7.kp N.bM7 .nil pass0 (@pa_c _ _ _ _ _ rfl (pv 1) (@pa_c _ _ _ _ _ rfl (@pe_ix _ _ _ _ _ _ _ (ix_tupK (K := K) rfl) (pv 2) pe_int (fun _ _ => rfl)) pa_nil)))) pa_nil)))))) pss_nil)
      (@pss_cons _ _ _ _ _ (@ps_if _ _ _ _ _ _ _ _ (PT.nox (pt_cmpR op_eq (pv 5) pe_int (nomark _))) (@pss_one _ _ _ (@ps_ret _ _ _ _ (@pe_tup _ _ _ _ _ (@pa_c _ _ _ _ _ rfl (pe_call GLo hrLo rfl N.mLo N.FLo.kp N.bLo .nil pass0 (@pa_c _ _ _ _ _ rfl (pv 0) (@pa_c _ _ _ _ _ rfl (pv 2) pa_nil))) (@pa_c _ _ _ _ _ rfl (pe_callB (call_max2 rfl) rfl T.max PyProof.Rows.boot_max (@pa_c _ _ _ _ _ rfl (pv 6) (@pa_c _ _ _ _ _ rfl (@pe_ix _ _ _ _ _ _ _ (ix_tupK (K := K) rfl) (pv 2) pe_int (fun _ _ => rfl)) pa_nil))) (@pa_c _ _ _ _ _ rfl (pe_op op_cat (pv 1) (pv 3)) pa_nil)))))) pss_nil)
      (@pss_cons _ _ _ _ _ (@ps_setE _ _ _ _ _ _ 9 scNx.nd rfl (Or.inr rfl) (pe_op op_add pe_int (pe_op op_mod (pe_op op_fdiv (pv 4) pe_int) pe_int)) (by kernel_rfl) (.inl rfl))
      (@pss_cons _ _ _ _ _ (ps_tri5 (i := 10) scNx.nd rfl rfl rfl (compScope5 (osc := defScope sNx) (N := ["_law_roll", "_law_spans_here", "_law_first", "_law_firsts", "_law_cell", "_law_way", "_law_length_here", "_law_low", "_law_high", "_law_times", "_law_due"]) rfl rfl (by decide +kernel)) (pi_list (pv 1)) (fun _ _ _ _ => pf_nil) (fun _ _ _ _ => (@pe_tup _ _ _ _ _ (@pa_c _ _ _ _ _ rfl (pv 0) (@pa_c _ _ _ _ _ rfl (pe_op op_mul (pv 1) (pv 12)) (@pa_c _ _ _ _ _ rfl (pe_op op_mul (pv 2) (pv 12)) pa_nil))))))
      (@pss_one _ _ _ (@ps_ret _ _ _ _ (@pe_tup _ _ _ _ _ (@pa_c _ _ _ _ _ rfl (pe_call GSlW hrSlW rfl N.mSl N.FSl.kp N.bSl .nil pass_on (@pa_c _ _ _ _ _ rfl (pv 0) (@pa_c _ _ _ _ _ rfl (pv 9) pa_nil))) (@pa_c _ _ _ _ _ rfl (pe_op op_mul (pv 6) (pv 9)) (@pa_c _ _ _ _ _ rfl (pv 10) pa_nil)))))))))))))), ?_⟩
    obtain ⟨p0, z0, e0r, A0⟩ := R.ro
    obtain ⟨p2, z2, e1r, A1⟩ := R1.ro
    have la := A0.len
    have lt := R.ln
    have lt1 := R1.ln
    have lh1 := canon_le R1.cn R1.cv
    have b0 := R.l0
    have b1 := R.l1
    have c0 := R1.l0
    have c1 := R1.l1
    have qr : SqT K H r [V.int len, V.ref p0] := .inl (.inl e0r)
    refine ⟨_, rfl, c, 50111, 8, rfl, by decide, by decide, by decide, fun way w0 w1 => ?_⟩
    refine ⟨_, rfl, r, _, _, _, rfl, rfl, qr, atI_nat (j := 0) rfl, ?_⟩
    apply both02 (hs.length ≤ 40)
    case h1 =>
      intro rest1 rest2
      refine ⟨_, rfl, r, _, _, _, rfl, rfl, qr, atI_nat (j := 1) rfl, p0, _, rfl, .inl (.inl (.inl A0.l)), _, _, rfl, rfl, _, rfl, ?_⟩
      refine ite2 (fun _ => rest1) (fun h40 => ?_)
      refine ⟨_, rfl, _, _, rfl, rfl, _, rfl, ?_⟩
      exact ite2 (fun _ => rest1) (fun _ => rest2 (Nat.le_of_not_lt fun z => h40 (decide_eq_true (by show ((z0.length : Nat) : Int) > 40; omega))))
    case h2 =>
      refine ⟨_, rfl, _, rfl, _, _, rfl, rfl, c, 50119, _, rfl, by omega, by decide, by decide, fun low lo0 lo1 => ?_⟩
      refine ⟨_, rfl, _, rfl, _, rfl, _, rfl, _, _, rfl, rfl, _, _, rfl, rfl, c, 50123, _, rfl, by omega, by decide, by decide, fun dd d0 d1 => ⟨_, _, rfl, rfl, ?_⟩⟩
      show gName 8 (V.int (low + dd)) _ H _
      obtain ⟨high, eh⟩ : ∃ high, high = low + dd := ⟨_, rfl⟩
      rw [← eh]
      refine ⟨_, rfl, _, rfl, _, rfl, r, len, hs, .int low, .int high, "int", "int", rfl, R.ro, by omega, b1, hTb, .int _, by unfold okT; simp, .int _, by unfold okT; simp, .inl ⟨low, high, rfl, rfl, lo0, by omega, by omega, fun r' hs' H1 k1 t1' F1 c1' v1 nn => ?_⟩⟩
      refine ⟨_, rfl, _, rfl, _, _, rfl, rfl, _, rfl, _, rfl, _, rfl, p, ts, ys, low, high, rfl, RlAt.kp R.sp k1, by omega, fun p' zs' H2 s2 nz A2 => ⟨by show 3 ≤ sizeLine; decide, fun T hT => ?_⟩⟩
      have s3 := same_upd (o := HO.tup [V.ref r', V.int (high - low), V.ref p']) hT
      have k03 := k1.trans ((Kp.of s2).trans (Kp.of s3))
      have F3 := (F1.on (Kp.of (B := tb P1 P2) s2)).on (Kp.of (B := tb P1 P2) s3)
      have fl := List.length_filter_le (lc low high) ts
      exact q T r' p' (high - low) _ hs' zs' _ k03 (t1'.same (s2.trans s3)) upd_same ⟨F3.ro, A2.mono s3, c1', fun tr t => (v1 tr t).trans (part_cov R.cv tr t), lcut_ok R.ok, by omega, by omega⟩ F3 (by rw [List.length_map]; omega)
    intro n40
    refine ⟨_, rfl, _, _, rfl, rfl, _, rfl, ?_⟩
    refine ite2 (fun _ => ?_) (fun _ => ?_)
    · refine ⟨_, rfl, _, rfl, r, r1, len, l1, hs, h1, rfl, R.ro, R1.ro, by omega, R.cn.sep.1, R1.cn.sep.1, hTb, ?_⟩
      by_cases hh : 1000000000000 < len + l1
      · exact .inl ⟨hh, qe (.inl hh)⟩
      refine .inr ⟨by omega, fun r' hs' H1 k1 t1' F1 c1' v1 => ?_⟩
      have B1 := RlAt.kp R1.sp k1
      refine ⟨_, rfl, _, rfl, r1, _, _, _, rfl, rfl, .inl (.inl (k1.tupO e1r)), atI_nat (j := 0) rfl, _, _, rfl, rfl, _, rfl, _, rfl, _, rfl, p1, t1, y1, len, rfl, B1, by omega, fun p3 z3 H2 s2 A3 => ?_⟩
      have A2 := (RlAt.kp R.sp k1).mono s2
      have l3 := A3.len
      rw [List.length_map] at l3
      refine ⟨p, p3, _, _, rfl, rfl, A2.l, A3.l, line20 (by omega), fun p4 hp4 => ⟨by show 3 ≤ sizeLine; decide, fun T hT => ?_⟩⟩
      have s3 := same_upd (o := HO.lst (ys ++ z3)) hp4
      have A4 : RlAt (upd H2 p4 (HO.lst (ys ++ z3))) p4 (ts ++ t1.map (mov len)) (ys ++ z3) := ⟨upd_same, paired_app (A2.mono s3).p (A3.mono s3).p⟩
      have s4 := same_upd (o := HO.tup [V.ref r', V.int (len + l1), V.ref p4]) hT
      have k4 : Kp (tb P1 P2) H1 _ := (Kp.of s2).trans ((Kp.of s3).trans (Kp.of s4))
      have F4 := F1.on k4
      exact q T r' p4 (len + l1) _ hs' _ _ (k1.trans k4) (t1'.same (s2.trans (s3.trans s4))) upd_same ⟨F4.ro, A4.mono s4, c1', fun tr t => (v1 tr t).trans (join_cov R.cv R1.cv tr t), join_ok b0 c0 R.ok R1.ok, by omega, by omega⟩ F4 (by rw [List.length_append, List.length_map]; omega)
    refine ⟨_, rfl, rfl, _, rfl, ?_⟩
    refine ite2 (fun _ => ?_) (fun _ => ?_)
    · refine ⟨_, rfl, _, rfl, r1, r, l1, len, h1, hs, rfl, R1.ro, R.ro, by omega, R1.cn.sep.1, R.cn.sep.1, hTb, ?_⟩
      by_cases hh : 1000000000000 < l1 + len
      · exact .inl ⟨hh, qe (.inl (by omega))⟩
      refine .inr ⟨by omega, fun r' hs' H1 k1 t1' F1 c1' v1 => ?_⟩
      have B1 := RlAt.kp R.sp k1
      have q1 : SqT K H1 r1 [V.int l1, V.ref p2] := .inl (.inl (k1.tupO e1r))
      refine ⟨_, rfl, _, rfl, r1, _, _, _, rfl, rfl, q1, atI_nat (j := 0) rfl, _, _, rfl, rfl, _, rfl, _, rfl, _, rfl, r1, _, _, _, rfl, rfl, q1, atI_nat (j := 0) rfl, p, ts, ys, l1, rfl, B1, by omega, fun p3 z3 H2 s2 A3 => ?_⟩
      have A2 := (RlAt.kp R1.sp k1).mono s2
      have l3 := A3.len
      rw [List.length_map] at l3
      refine ⟨p1, p3, _, _, rfl, rfl, A2.l, A3.l, line20 (by omega), fun p4 hp4 => ⟨by show 3 ≤ sizeLine; decide, fun T hT => ?_⟩⟩
      have s3 := same_upd (o := HO.lst (y1 ++ z3)) hp4
      have A4 : RlAt (upd H2 p4 (HO.lst (y1 ++ z3))) p4 (t1 ++ ts.map (mov l1)) (y1 ++ z3) := ⟨upd_same, paired_app (A2.mono s3).p (A3.mono s3).p⟩
      have s4 := same_upd (o := HO.tup [V.ref r', V.int (len + l1), V.ref p4]) hT
      have k4 : Kp (tb P1 P2) H1 _ := (Kp.of s2).trans ((Kp.of s3).trans (Kp.of s4))
      have F4 := F1.on k4
      have ok := join_ok c0 b0 R1.ok R.ok
      rw [Int.add_comm l1 len] at F4 ok
      exact q T r' p4 (len + l1) _ hs' _ _ (k1.trans k4) (t1'.same (s2.trans (s3.trans s4))) upd_same ⟨F4.ro, A4.mono s4, c1', fun tr t => (v1 tr t).trans (join_cov R1.cv R.cv tr t), ok, by omega, by omega⟩ F4 (by rw [List.length_append, List.length_map]; omega)
    refine ⟨_, rfl, rfl, _, rfl, ?_⟩
    refine ite2 (fun _ => ?_) (fun _ => ?_)
    · refine ⟨_, rfl, _, rfl, r, r1, len, l1, hs, h1, rfl, R.ro, R1.ro, by omega, R.cn.sep.1, R1.cn.sep.1, b1, c1, hTb, fun r' hs' H1 k1 t1' F1 c1' v1 => ?_⟩
      have q1 : SqT K H1 r1 [V.int l1, V.ref p2] := .inl (.inl (k1.tupO e1r))
      refine ⟨_, rfl, _, rfl, r1, _, _, _, rfl, rfl, q1, atI_nat (j := 0) rfl, _, _, rfl, ?_⟩
      have emx : (if l1 > len then l1 else len) = max len l1 := by split <;> omega
      rw [emx]
      have A2 := RlAt.kp R.sp k1
      have A3 := RlAt.kp R1.sp k1
      refine ⟨_, rfl, _, rfl, p, p1, _, _, rfl, rfl, A2.l, A3.l, line20 (by omega), fun p4 hp4 => ⟨by show 3 ≤ sizeLine; decide, fun T hT => ?_⟩⟩
      have s3 := same_upd (o := HO.lst (ys ++ y1)) hp4
      have A4 : RlAt (upd H1 p4 (HO.lst (ys ++ y1))) p4 (ts ++ t1) (ys ++ y1) := ⟨upd_same, paired_app (A2.mono s3).p (A3.mono s3).p⟩
      have s4 := same_upd (o := HO.tup [V.ref r', V.int (max len l1), V.ref p4]) hT
      have k4 : Kp (tb P1 P2) H1 _ := (Kp.of s3).trans (Kp.of s4)
      have F4 := F1.on k4
      exact q T r' p4 (max len l1) _ hs' _ _ (k1.trans k4) (t1'.same (s3.trans s4)) upd_same ⟨F4.ro, A4.mono s4, c1', fun tr t => (v1 tr t).trans (by rw [cov_app, ← R.cv, ← R1.cv]; exact Iff.rfl), over_ok R.ok R1.ok, by omega, by omega⟩ F4 (by rw [List.length_append]; omega)
    refine ⟨_, rfl, _, _, rfl, rfl, ⟨by decide, by decide⟩, _, _, rfl, rfl, (by show (0 : Int) < 4; decide), _, _, rfl, rfl, ?_⟩
    have kb : 1 ≤ 1 + c / 3 % 4 ∧ 1 + c / 3 % 4 ≤ 4 := by omega
    show gName 9 (V.int (1 + c / 3 % 4)) _ H _
    generalize 1 + c / 3 % 4 = k at kb ⊢
    obtain ⟨k1, k2⟩ := kb
    refine ⟨_, rfl, p, rfl, ⟨_, .inl (.inl R.sp.l)⟩, comp_tri (K := K) (l := ts) (vs := ys) t3V (fun _ => true) (fun x => t3V (scl k x)) (.inl (.inl R.sp.l)) R.sp.p (fun x => ⟨_, _, _, rfl⟩) (small1000 (by omega)) (fun x hx v1 v2 v3 e H' hs R kk => kk H' (Same.refl H')) (fun x hx _ v1 v2 v3 e H' hs R kk => ?_) (fun D H2 z2 hD s2 hl hp => ?_)⟩
    · cases e
      exact ⟨_, rfl, _, rfl, _, rfl, _, _, rfl, rfl, .inr ⟨by omega, by omega⟩, _, rfl, _, rfl, _, _, rfl, rfl, .inr ⟨by omega, by omega⟩, by show 3 ≤ sizeLine; decide, fun t ht => kk _ _ (same_upd ht) ⟨t, rfl, upd_same⟩⟩
    rw [List.filter_eq_self.mpr (fun _ _ => rfl)] at hp
    have A2 : RlAt H2 D (ts.map (scl k)) z2 := ⟨hl, paired_of_map _ hp⟩
    have m4 : len * k ≤ len * 4 := Int.mul_le_mul_of_nonneg_left k2 b0
    have m0 : 0 ≤ len * k := Int.mul_nonneg b0 (by omega)
    refine ⟨_, rfl, _, rfl, r, len, hs, .int k, "int", rfl, R.ro.mono s2, R.cn, by omega, b0, b1, hTb.same s2, .int _, by unfold okT; simp, ?_⟩
    by_cases hh : 1000000000000 < len * k
    · exact .inr (.inl ⟨k, rfl, k1, by omega, hh, fun H' s' => qe (.inr (by omega)) H' (s2.trans s')⟩)
    refine .inl ⟨k, rfl, k1, by omega, by omega, fun r' H3 k3 t3 F3 => ?_⟩
    refine ⟨_, rfl, _, rfl, _, _, rfl, rfl, .inr ⟨by omega, by omega⟩, _, rfl, by show 3 ≤ sizeLine; decide, fun T hT => ?_⟩
    have s4 := same_upd (o := HO.tup [V.ref r', V.int (len * k), V.ref D]) hT
    have F4 := F3.on (Kp.of (B := tb P1 P2) s4)
    exact q T r' D (len * k) _ _ _ _ ((Kp.of s2).trans (k3.trans (Kp.of s4))) (t3.same s4) upd_same ⟨F4.ro, (RlAt.kp A2 k3).mono s4, scl_canon k1 R.cn, fun tr t => by rw [cov_scl k1, cov_scl k1, R.cv], scl_ok k1 R.ok, m0, by omega⟩ (F4.from s2) (by rw [List.length_map]; omega)
theorem scDd : FnScope ["_law_roll", "_law_spans_here", "_law_first", "_law_firsts", "_law_cell", "_law_found"] ["_law_roll", "_law_spans_here", "_law_first", "_law_firsts", "_law_cell"] (defScope sDd) := ⟨rfl, rfl, rfl, by decide +kernel, rfl, by decide +kernel, by decide +kernel⟩
theorem ok_Dd (N : Fns K mg c1 c2 fWh fMb fIl fHw fAh fHo fFh fRf fRo fIr fOa fCa fLw fMx fLe fPo fSa fSs fCv fLh fIs fSl fMv fRp fEe fC7 fLo fM7 fNx fDd fOs dWh dMb dIl dHw dAh dHo dFh dRf dRo dIr dOa dCa dLw dMx dLe dPo dSa dSs dCv dLh dIs dSl dMv dRp dEe dC7 dLo dM7 dNx dDd dOs) (T : Txt K mg) (K1 : TabK mg base c1 P1) (K2 : TabK mg base c2 P2) (O : Own K mg e0 [] eO) : FnOk P w K mg base CX0 6 fDd dDd ["_law_roll", "_law_spans_here", "_law_first", "_law_firsts", "_law_cell"] (spDd (tb P1 P2)) := by
  have GNxW : FnOk P w K mg base (CXW P w) 5 fNx dNx ["_law_roll", "_law_spans_here", "_law_first", "_law_firsts", "_law_cell"] (spNx e0 (tb P1 P2)) := ok_NxW N T K1 K2 O
  refine N.FDd.ok scDd (fun vs H Q E h => ?_) (fun cdv A outer s H vs Q E hr h => ?_)
  · obtain ⟨r, p, r1, p1, len, l1, c, ts, hs, t1, h1, ys, y1, rfl, _⟩ := h
    rfl
  · obtain ⟨r, p, r1, p1, len, l1, c, ts, hs, t1, h1, ys, y1, rfl, R, R1, n56, nts, n16, hTb, q⟩ := h
    have hrNxW : Room 5 _ := hr.mono (by decide)
    refine ⟨_, (@pss_cons _ _ _ _ _ (@ps_setE _ _ _ _ _ _ 5 scDd.nd rfl (Or.inl rfl) pe_non (by kernel_rfl) (.inl rfl))
      (@pss_cons _ _ _ _ _ (ps_tryR (j := 5) GNxW hrNxW rfl N.mNx N.FNx.kp N.bNx .nil (@pa_c _ _ _ _ _ rfl (pv 0) (@pa_c _ _ _ _ _ rfl (pv 1) (@pa_c _ _ _ _ _ rfl (pv 2) (@pa_c _ _ _ _ _ rfl (pv 3) (@pa_c _ _ _ _ _ rfl (pv 4) pa_nil))))) rfl (O.m 0 _ rfl) O.ex scDd.nd rfl (Or.inl rfl) (Or.inl rfl) (fun x => (@pss_one _ _ _ (@ps_ret _ _ _ _ (@pe_tup _ _ _ _ _ (@pa_c _ _ _ _ _ rfl (pv 0) (@pa_c _ _ _ _ _ rfl (@pe_ix _ _ _ _ _ _ _ (ix_tupK (K := K) rfl) (pv 0) pe_int (fun _ _ => rfl)) (@pa_c _ _ _ _ _ rfl (pv 1) (@pa_c _ _ _ _ _ rfl pe_bl pa_nil)))))))))
      (@pss_one _ _ _ (@ps_ret _ _ _ _ (pe_op op_catT (pv 5) (@pe_tup _ _ _ _ _ (@pa_c _ _ _ _ _ rfl pe_bl pa_nil))))))), ?_⟩
    obtain ⟨p0, z0, e0r, A0⟩ := R.ro
    refine ⟨_, rfl, _, rfl, _, rfl, _, rfl, _, rfl, fun C od H2 => C = .ref e0 ∧ No7 len l1 ∧ Same H H2, ⟨r, p, r1, p1, len, l1, c, ts, hs, t1, h1, ys, y1, rfl, R, R1, n56, nts, n16, hTb, fun n7 H' s' => ⟨rfl, n7, s'⟩, fun T r' p' len' ts' hs' ys' H1 k1 tb1 hT R' F' n' => ?_⟩, fun C od H2 hE => ?_⟩
    · refine ⟨_, rfl, by show 1 ≤ sizeLine; decide, fun t6 ht6 => ?_⟩
      have s6 := same_upd (o := HO.tup [V.bl false]) ht6
      have a6 : upd H1 t6 (HO.tup [V.bl false]) t6 = some (.tup [V.bl false]) := upd_same
      have hT6 := s6 _ _ hT
      generalize upd H1 t6 (HO.tup [V.bl false]) = H6 at s6 a6 hT6 ⊢
      refine ⟨T, t6, _, _, rfl, rfl, .inl (.inl hT6), .inl (.inl a6), by simp, by show 4 ≤ sizeLine; decide, (fun z => by cases z), fun _ t7 ht7 => ?_⟩
      have s7 := same_upd (o := HO.tup ([V.ref r', V.int len', V.ref p'] ++ [V.bl false])) ht7
      have k7 : Kp (tb P1 P2) H1 _ := (Kp.of s6).trans (Kp.of s7)
      exact q t7 r' p' len' ts' hs' ys' false _ (k1.trans k7) (tb1.same (s6.trans s7)) upd_same (R'.kp k7) (.inr (F'.on k7)) n' (fun z => by cases z)
    · obtain ⟨hC, n7, s2⟩ := hE
      cases hC
      refine ⟨O.mro0, ?_⟩
      refine ⟨_, rfl, _, rfl, r, _, _, _, rfl, rfl, .inl (.inl (s2 _ _ e0r)), atI_nat (j := 0) rfl, _, rfl, by show 4 ≤ sizeLine; decide, fun t3 ht3 => ?_⟩
      have s3 := same_upd (o := HO.tup [V.ref r, V.int len, V.ref p, V.bl true]) ht3
      have s03 := s2.trans s3
      exact q t3 r p len ts hs ys true _ (Kp.of s03) (hTb.same s03) upd_same (R.kp (Kp.of (B := tb P1 P2) s03)) (.inl ⟨rfl, rfl, rfl⟩) (by omega) (fun _ => n7)
def spLaw (K : PySem.W.Frag) (B : Tb2) : Sp := fun vs H Q _ => ∃ (a : Addr) (ns : List Int), vs = [.ref a] ∧ SqL K H a (ns.map V.int) ∧ ns.length ≤ 63 ∧ Tb B H ∧ ∀ H', Q (.bl true) H'
theorem scLaw : FnScope ["_law_script", "_law_length_here", "_law_firsts", "_law_first", "_law_roll", "_law_spans_here", "_law_held", "_law_cell", "_law_low", "_law_due", "_law_refused", "_law_holes_here", "_law_told"] ["_law_script"] (defScope sLaw) := ⟨rfl, rfl, rfl, by decide +kernel, rfl, by decide +kernel, by decide +kernel⟩
theorem ok_law {f : Addr} {fd : FuncData} (F : Fun K "law" "law" sLaw f fd) (T : Txt K mg) (N : Fns K mg c1 c2 fWh fMb fIl fHw fAh fHo fFh fRf fRo fIr fOa fCa fLw fMx fLe fPo fSa fSs fCv fLh fIs fSl fMv fRp fEe fC7 fLo fM7 fNx fDd fOs dWh dMb dIl dHw dAh dHo dFh dRf dRo dIr dOa dCa dLw dMx dLe dPo dSa dSs dCv dLh dIs dSl dMv dRp dEe dC7 dLo dM7 dNx dDd dOs) (K1 : TabK mg base c1 P1) (K2 : TabK mg base c2 P2) (O : Own K mg e0 [] eO) : FnOk P w K mg base CX0 7 f fd ["_law_script"] (spLaw K (tb P1 P2)) := by
  have GCa : FnOk P w K mg base CX0 1 fCa dCa ["_law_script", "_law_k"] (spCa K) := ok_Ca N T
  have GLe : FnOk P w K mg base CX0 2 fLe dLe ["_law_cell"] spLe := ok_Le N T
  have GSs : FnOk P w K mg base CX0 3 fSs dSs ["_law_cells", "_law_length_here", "_law_cell"] (spSs K) := ok_Ss N T
  have GRo : FnOk P w K mg base CX0 5 fRo dRo ["length", "spans"] (spRo (tb P1 P2)) := ok_Ro N T K1 K2
  have GDd : FnOk P w K mg base CX0 6 fDd dDd ["_law_roll", "_law_spans_here", "_law_first", "_law_firsts", "_law_cell"] (spDd (tb P1 P2)) := ok_Dd N T K1 K2 O
  have GLhS : FnOk P w K mg base CX0 2 fLh dLh ["_law_spans_here"] (spLhS (tb P1 P2)) := ok_LhS N T K1 K2
  have GIs : FnOk P w K mg base CX0 2 fIs dIs ["_law_found", "_law_length_here", "_law_holes_here"] spIs := ok_Is N T
  have GIr : FnOk P w K mg base CX0 5 fIr dIr ["thing"] (spIr (tb P1 P2)) := ok_Ir N T K1 K2
  have GOs : FnOk P w K mg base CX0 2 fOs dOs ["_law_roll", "_law_holes_here"] spOs := ok_Os N T
  refine F.ok scLaw (fun vs H Q E h => ?_) (fun cdv A outer s H vs Q E hr h => ?_)
  · obtain ⟨a, ns, rfl, _⟩ := h
    rfl
  · obtain ⟨a, ns, rfl, hS, hz, hTb, q⟩ := h
    have hrCa : Room 1 _ := hr.mono (by decide)
    have hrLe : Room 2 _ := hr.mono (by decide)
    have hrSs : Room 3 _ := hr.mono (by decide)
    have hrRo : Room 5 _ := hr.mono (by decide)
    have hrDd : Room 6 _ := hr.mono (by decide)
    have hrLhS : Room 2 _ := hr.mono (by decide)
    have hrIs : Room 2 _ := hr.mono (by decide)
    have hrIr : Room 5 _ := hr.mono (by decide)
    have hrOs : Room 2 _ := hr.mono (by decide)
    refine ⟨_, (@pss_cons _ _ _ _ _ (@ps_setE _ _ _ _ _ _ 1 scLaw.nd rfl (Or.inl rfl) (pe_call GLe hrLe rfl N.mLe N.FLe.kp N.bLe .nil pass0 (@pa_c _ _ _ _ _ rfl (pe_call GCa hrCa rfl N.mCa N.FCa.kp N.bCa .nil pass0 (@pa_c _ _ _ _ _ rfl (pv 0) (@pa_c _ _ _ _ _ rfl pe_int pa_nil))) pa_nil)) (by kernel_rfl) (.inl rfl))
      (@pss_cons _ _ _ _ _ (@ps_setE _ _ _ _ _ _ 2 scLaw.nd rfl (Or.inl rfl) (pe_call GSs hrSs rfl N.mSs N.FSs.kp N.bSs .nil pass0 (@pa_c _ _ _ _ _ rfl (pe_step (pv 0) (po_some pe_int) (po_some pe_int) pe_int) (@pa_c _ _ _ _ _ rfl (pv 1) (@pa_c _ _ _ _ _ rfl (pe_call GCa hrCa rfl N.mCa N.FCa.kp N.bCa .nil pass0 (@pa_c _ _ _ _ _ rfl (pv 0) (@pa_c _ _ _ _ _ rfl pe_int pa_nil))) pa_nil)))) (by kernel_rfl) (.inl rfl))
      (@pss_cons _ _ _ _ _ (@ps_setE _ _ _ _ _ _ 3 scLaw.nd rfl (Or.inl rfl) (pe_call GRo hrRo rfl N.mRo N.FRo.kp N.bRo .nil pass0 (@pa_c _ _ _ _ _ rfl (pv 1) (@pa_c _ _ _ _ _ rfl (pe_callTy call_list_of rfl T.list PyProof.Rows.boot_list (@pa_c _ _ _ _ _ rfl (pv 2) pa_nil)) pa_nil))) (by kernel_rfl) (.inl rfl))
      (@pss_cons _ _ _ _ _ (@ps_setE _ _ _ _ _ _ 4 scLaw.nd rfl (Or.inl rfl) (pv 3) (by kernel_rfl) (.inl rfl))
      (@pss_cons _ _ _ _ _ (@ps_setE _ _ _ _ _ _ 5 scLaw.nd rfl (Or.inl rfl) (pe_callTy call_list_of rfl T.list PyProof.Rows.boot_list (@pa_c _ _ _ _ _ rfl (pv 2) pa_nil)) (by kernel_rfl) (.inl rfl))
      (@pss_cons _ _ _ _ _ (@ps_setE _ _ _ _ _ _ 6 scLaw.nd rfl (Or.inl rfl) (@pe_lst _ _ _ _ pa_nil) (by kernel_rfl) (.inl rfl))
      (@pss_cons _ _ _ _ _ (ps_for PassesOwn.never rfl (pi_list (pe_step (pv 0) (po_some pe_int) (po_some pe_int) pe_int)) (pg_name (i := 7) scLaw.nd rfl (Or.inl rfl)) (@pss_cons _ _ _ _ _ (@ps_setE _ _ _ _ _ _ 8 scLaw.nd rfl (Or.inl rfl) (@pe_ix _ _ _ _ _ _ _ (ix_tupK (K := K) rfl) (pv 4) pe_int (fun _ _ => rfl)) (by kernel_rfl) (.inl rfl))
      (@pss_cons _ _ _ _ _ (ps_asg (pe_call GDd hrDd rfl N.mDd N.FDd.kp N.bDd .nil pass0 (@pa_c _ _ _ _ _ rfl (pv 4) (@pa_c _ _ _ _ _ rfl (pv 5) (@pa_c _ _ _ _ _ rfl (pv 3) (@pa_c _ _ _ _ _ rfl (pv 2) (@pa_c _ _ _ _ _ rfl (pv 7) pa_nil)))))) (pg_tup rfl (pgs_cons (pg_name (i := 4) scLaw.nd rfl (Or.inl rfl)) (pgs_cons (pg_name (i := 9) scLaw.nd rfl (Or.inl rfl)) (pgs_cons (pg_name (i := 5) scLaw.nd rfl (Or.inl rfl)) (pgs_cons (pg_name (i := 10) scLaw.nd rfl (Or.inl rfl)) pgs_nil))))))
      (@pss_cons _ _ _ _ _ (@ps_setE _ _ _ _ _ _ 11 scLaw.nd rfl (Or.inl rfl) (pe_call GLhS hrLhS rfl N.mLh N.FLh.kp N.bLh .nil pass0 (@pa_c _ _ _ _ _ rfl (pv 5) pa_nil)) (by kernel_rfl) (.inl rfl))
      (@pss_cons _ _ _ _ _ (@ps_setE _ _ _ _ _ _ 5 scLaw.nd rfl (Or.inl rfl) (pv 11) (by kernel_rfl) (.inl rfl))
      (@pss_cons _ _ _ _ _ (@ps_if _ _ _ _ _ _ _ _ (PW.pt (pw_and (pt_val (pv 10)) (pw_and (pt_cmpR op_le (pe_op op_add (pv 8) (pv 1)) (pe_op op_pow pe_int pe_int) (nomark _)) (pw_and1 (pt_cmpR op_le (pe_op op_mul (pv 8) pe_int) (pe_op op_pow pe_int pe_int) (nomark _)))))) (@pss_one _ _ _ (@ps_ret _ _ _ _ pe_bl)) pss_nil)
      (@pss_cons _ _ _ _ _ (@ps_if _ _ _ _ _ _ _ _ (PW.pt (pw_or (pt_cmpR op_gt (pv 9) (pe_op op_pow pe_int pe_int) (nomark _)) (pw_or (pt_not (pt_val (pe_call GIs hrIs rfl N.mIs N.FIs.kp N.bIs .nil pass0 (@pa_c _ _ _ _ _ rfl (pv 4) (@pa_c _ _ _ _ _ rfl (pv 9) (@pa_c _ _ _ _ _ rfl (pv 11) pa_nil)))))) (pw_or (pt_not (pt_val (pe_call GIr hrIr rfl N.mIr N.FIr.kp N.bIr .nil pass0 (@pa_c _ _ _ _ _ rfl (pv 4) pa_nil)))) (pw_or1 (pt_not (pt_val (pe_call GOs hrOs rfl N.mOs N.FOs.kp N.bOs .nil pass0 (@pa_c _ _ _ _ _ rfl (pv 4) (@pa_c _ _ _ _ _ rfl (pv 11) pa_nil)))))))))) (@pss_one _ _ _ (@ps_ret _ _ _ _ pe_bl)) pss_nil)
      (@pss_one _ _ _ (ps_expr (pe_bm PySem.F.plainAttrs_list PySem.F.slot_list_append PySem.F.type_list_append mt_append (pv 6) (@pa_c _ _ _ _ _ rfl (@pe_tup _ _ _ _ _ (@pa_c _ _ _ _ _ rfl (pv 4) (@pa_c _ _ _ _ _ rfl (pv 9) (@pa_c _ _ _ _ _ rfl (pe_callTy call_list_of rfl T.list PyProof.Rows.boot_list (@pa_c _ _ _ _ _ rfl (pv 11) pa_nil)) pa_nil)))) pa_nil)))))))))))
      (@pss_cons _ _ _ _ _ (ps_for PassesOwn.never rfl (pi_list (pv 6)) (pg_tup rfl (pgs_cons (pg_name (i := 12) scLaw.nd rfl (Or.inl rfl)) (pgs_cons (pg_name (i := 9) scLaw.nd rfl (Or.inl rfl)) (pgs_cons (pg_name (i := 11) scLaw.nd rfl (Or.inl rfl)) pgs_nil)))) (@pss_one _ _ _ (@ps_if _ _ _ _ _ _ _ _ (pt_cmpR (op_ne_roll (Nat.lt_of_le_of_lt (Nat.add_le_add_left (by decide : 8 ≤ 64) _) hr.units)) (pv 12) (@pe_tup _ _ _ _ _ (@pa_c _ _ _ _ _ rfl (pv 9) (@pa_c _ _ _ _ _ rfl (pv 11) pa_nil))) (nomark _)) (@pss_one _ _ _ (@ps_ret _ _ _ _ pe_bl)) pss_nil)))
      (@pss_one _ _ _ (@ps_ret _ _ _ _ pe_bl)))))))))), ?_⟩
    refine ⟨_, rfl, a, 0, ns, rfl, hS, fun c0 => ⟨c0, rfl, fun l1 H1 s1 b0 b1 => ?_⟩⟩
    obtain ⟨ms, em, hml⟩ := step_ints16 ns (lo := 2) (by decide)
    obtain ⟨cs, ec, hcl⟩ := step_ints16 ns (lo := 3) (by decide)
    refine ⟨_, rfl, _, rfl, _, rfl, _, rfl, by decide, a, _, rfl, s1.seq hS, fun pz hpz _ => ?_⟩
    have em' : stepV (ns.map V.int) (some 2) (some 34) 2 = ms.map V.int := em
    have ec' : stepV (ns.map V.int) (some 3) (some 35) 2 = cs.map V.int := ec
    rw [em']
    have s2 := same_upd (o := HO.lst (ms.map V.int)) hpz
    have a2 : upd H1 pz (HO.lst (ms.map V.int)) pz = some (.lst (ms.map V.int)) := upd_same
    generalize upd H1 pz (HO.lst (ms.map V.int)) = H2 at s2 a2 ⊢
    refine ⟨_, rfl, _, rfl, a, 1, ns, rfl, (s1.trans s2).seq hS, fun c1 => ⟨pz, ms, l1, c1, rfl, .inl (.inl a2), by omega, b0, b1, fun pF t1 y1 pts H3 s3 A3 ok3 _ n3 => ?_⟩⟩
    have s03 := s1.trans (s2.trans s3)
    have l3 := A3.len
    refine ⟨_, rfl, _, rfl, pF, _, rfl, .inl (.inl (.inl A3.l)), fun p4 hp4 => ?_⟩
    have s4 := same_upd (o := HO.lst y1) hp4
    have A4 : RlAt (upd H3 p4 (HO.lst y1)) p4 t1 y1 := ⟨upd_same, (A3.mono s4).p⟩
    have A34 := A3.mono s4
    generalize upd H3 p4 (HO.lst y1) = H4 at s4 A4 A34 ⊢
    have s04 := s03.trans s4
    refine ⟨p4, t1, y1, l1, rfl, b0, b1, A4, by omega, fun t ht => (ok3 t ht).1, hTb.same s04, fun r1 h1 H5 k5 tb5 F5 c5 v5 n5 => ?_⟩
    obtain ⟨q1, z1, _, e5, B5⟩ := F5
    have A5 := RlAt.kp A34 k5
    refine ⟨_, rfl, _, rfl, pF, _, rfl, .inl (.inl (.inl A5.l)), fun p6 hp6 => ?_⟩
    have s6 := same_upd (o := HO.lst y1) hp6
    have A6 : RlAt (upd H5 p6 (HO.lst y1)) p6 t1 y1 := ⟨upd_same, (A5.mono s6).p⟩
    have A56 := A5.mono s6
    have FD6 : FdAt (upd H5 p6 (HO.lst y1)) r1 q1 l1 h1 := ⟨z1, s6 _ _ e5, B5.mono s6⟩
    generalize upd H5 p6 (HO.lst y1) = H6 at s6 A6 A56 FD6 ⊢
    refine ⟨Nat.zero_le _, fun L hL => ?_⟩
    have s7 := same_upd (o := HO.lst []) hL
    have a7 : upd H6 L (HO.lst []) L = some (.lst []) := upd_same
    have nF : pF ≠ L := ne_of_none A56.l hL
    have n6 : p6 ≠ L := ne_of_none A6.l hL
    have nq : q1 ≠ L := by
      obtain ⟨_, _, B⟩ := FD6
      exact ne_of_none B.l hL
    have FD7 := FD6.kp (Kp.of (B := tb P1 P2) s7)
    have A7 := A6.mono s7
    have A57 := A56.mono s7
    generalize upd H6 L (HO.lst []) = H7 at s7 a7 FD7 A7 A57 ⊢
    have k07 : Kp (tb P1 P2) H H7 := (Kp.of s04).trans (k5.trans (Kp.of (s6.trans s7)))
    have tb7 := tb5.same (s6.trans s7)
    refine ⟨_, rfl, _, rfl, _, rfl, _, rfl, by decide, a, _, rfl, k07.seq hS, fun pc hpc _ => ?_⟩
    rw [ec']
    have s8 := same_upd (o := HO.lst (cs.map V.int)) hpc
    have a8 : upd H7 pc (HO.lst (cs.map V.int)) pc = some (.lst (cs.map V.int)) := upd_same
    have nc : pc ≠ L := Ne.symm (ne_of_none a7 hpc)
    have FD8 := FD7.kp (Kp.of (B := tb P1 P2) s8)
    have A8 := A7.mono s8
    have A58 := A57.mono s8
    have a78 := s8 _ _ a7
    generalize upd H7 pc (HO.lst (cs.map V.int)) = H8 at s8 a8 FD8 A8 A58 a78 ⊢
    have tb8 := tb7.same s8
    have R8 : R7 H8 r1 pF l1 t1 h1 y1 := ⟨FD8.ro, A58, c5, v5, fun t ht => (ok3 t ht).1, b0, b1⟩
    have R8' : R7 H8 r1 p6 l1 t1 h1 y1 := ⟨FD8.ro, A8, c5, v5, fun t ht => (ok3 t ht).1, b0, b1⟩
    clear s1 s2 s3 s03 s4 s04 k5 tb5 s6 s7 s8 k07 tb7 A3 A4 A34 A5 A6 A56 A7 A57 B5 e5 FD6 FD7 a7 a2 hpz hp4 hp6 hL hpc hTb em em' ec ec' hS
    refine ⟨pc, rfl, ⟨_, .inl (.inl a8)⟩, for_list (K := K) (a := pc) (xs := cs.map V.int) (fun i σ H9 => ∃ (r p q9 : Addr) (len : Int) (ts hs : List T3) (ys xs : List V) (v7 v8 v9 v10 v11 : Option V), σ = [some (.ref a), some (.int l1), some (.ref pF), some (.ref r1), some (.ref r), some (.ref p), some (.ref L), v7, v8, v9, v10, v11, none] ∧ Tb (tb P1 P2) H9 ∧ H9 pc = some (.lst (cs.map V.int)) ∧ R7 H9 r1 pF l1 t1 h1 y1 ∧ FdAt H9 r1 q1 l1 h1 ∧ R7 H9 r p len ts hs ys ∧ FdAt H9 r q9 len hs ∧ q9 ≠ L ∧ p ≠ L ∧ hs.length ≤ 56 ∧ (ts.length ≤ 16 ∨ ts.length = hs.length) ∧ H9 L = some (.lst xs) ∧ xs.length ≤ i ∧ ∀ x ∈ xs, Hd7 H9 L x) ⟨r1, p6, q1, l1, t1, h1, y1, [], _, _, _, _, _, rfl, tb8, a8, R8, FD8, R8', FD8, nq, n6, by omega, .inl (by omega), a78, Nat.zero_le _, fun _ h => absurd h List.not_mem_nil⟩ (fun i σ H9 _ h => by obtain ⟨_, _, _, _, _, _, _, _, _, _, _, _, _, _, _, h, _⟩ := h; exact .inl (.inl h)) ?_ ?_⟩
    · rintro i y σ H9 hi ⟨r, p, q9, len, ts, hs, ys, xs, v7, v8, v9, v10, v11, rfl, tb9, ac9, R1, FD1, R, FD, nq9, np, n56, nts, aL, nx, hd⟩
      have i16 : i < cs.length := by
        have := (List.getElem?_eq_some_iff.mp hi).1
        rw [List.length_map] at this
        exact this
      rw [List.getElem?_map] at hi
      obtain ⟨c, hc, rfl⟩ := Option.map_eq_some_iff.mp hi
      obtain ⟨zq, eq9, Bq⟩ := id FD
      refine ⟨_, rfl, r, _, _, _, rfl, rfl, .inl (.inl eq9), atI_nat (j := 0) rfl, ?_⟩
      refine ⟨_, rfl, _, rfl, _, rfl, _, rfl, _, rfl, r, p, r1, pF, len, l1, c, ts, hs, t1, h1, ys, y1, rfl, R, R1, n56, nts, by omega, tb9, fun T r2 p2 len2 ts2 hs2 ys2 b Ha ka tba hT Ra cas na nb => ?_⟩
      refine ⟨T, _, rfl, .inl (.inl hT), rfl, _, _, rfl, _, _, rfl, _, _, rfl, _, _, rfl, rfl, ?_⟩
      have aLa := ka.lstO aL
      obtain ⟨q2, FDa, nq2⟩ : ∃ q2, FdAt Ha r2 q2 len2 hs2 ∧ q2 ≠ L := by
        rcases cas with ⟨rfl, rfl, rfl⟩ | ⟨q2, z2, f2, e2, B2⟩
        · exact ⟨q9, FD.kp ka, nq9⟩
        · exact ⟨q2, ⟨z2, e2, B2⟩, fun z => by rw [z, aL] at f2; cases f2⟩
      refine ⟨_, rfl, p2, ts2, ys2, rfl, Ra.sp, by have := Ra.ln; omega, fun t ht => (Ra.ok t ht).2.2.2.1, tba, fun p3 hs3 zs3 Hb fr kb tbb Ab cb vb => ?_⟩
      have eh : hs3 = hs2 := canon_unique cb Ra.cn fun tr t => (vb tr t).trans (Ra.cv tr t).symm
      subst eh
      have np3 : p3 ≠ L := Ne.symm (fr L _ (fun _ z => by cases z) aLa)
      have okb := ok_holes Ra.ok cb vb
      have nh := canon_le cb vb
      have Rb : R7 Hb r2 p3 len2 hs3 hs3 zs3 := ⟨Ra.ro.kp kb, Ab, cb, fun _ _ => Iff.rfl, okb, Ra.l0, Ra.l1⟩
      have FDb := FDa.kp kb
      have lz3 := Ab.len
      have k0b := ka.trans kb
      have aLb := kb.lstO aLa
      have hdb : ∀ x ∈ xs, Hd7 Hb L x := fun x hx => (hd x hx).kp k0b
      have acb := k0b.lstO ac9
      have R1b := R1.kp k0b
      have FD1b := FD1.kp k0b
      clear ka kb k0b aLa hT FDa hd cas
      refine ⟨_, rfl, ?_⟩
      apply both0
      case h1 =>
        intro rest
        refine ⟨_, rfl, _, rfl, ite2 (fun hb => ?_) (fun hb => iteF rest)⟩
        · have h7 := nb hb
          refine ⟨_, rfl, _, rfl, _, _, rfl, rfl, _, _, rfl, rfl, ⟨by decide, by decide, by decide⟩, _, _, rfl, rfl, _, rfl, ?_⟩
          by_cases g1 : len + l1 ≤ 1000000000000
          · refine iteD (show len + l1 ≤ 10 ^ (12 : Int).toNat from g1) ?_
            refine ⟨_, rfl, _, _, rfl, rfl, .inr ⟨by decide, by decide⟩, _, _, rfl, rfl, ⟨by decide, by decide, by decide⟩, _, _, rfl, rfl, _, rfl, ?_⟩
            have g2 : ¬ len * 4 ≤ 1000000000000 := by unfold No7 at h7; omega
            exact iteND (show ¬ len * 4 ≤ 10 ^ (12 : Int).toNat from g2) rest
          · exact iteND (show ¬ len + l1 ≤ 10 ^ (12 : Int).toNat from g1) (iteF rest)
      case h2 =>
        have l0 := Ra.l0
        have l1' := Ra.l1
        refine ⟨_, rfl, _, _, rfl, rfl, ⟨by decide, by decide, by decide⟩, _, _, rfl, rfl, _, rfl, iteND (show ¬ len2 > 10 ^ (12 : Int).toNat from by show ¬ len2 > 1000000000000; omega) ?_⟩
        refine ⟨_, rfl, _, rfl, _, rfl, r2, p3, len2, hs3, zs3, rfl, Rb.ro, Ab, fun Hc sc => ⟨_, rfl, iteF ?_⟩⟩
        refine ⟨_, rfl, r2, len2, hs3, rfl, Rb.ro.mono sc, cb, by omega, l0, l1', okb, tbb.same sc, fun Hd kd tbd => ⟨_, rfl, iteF ?_⟩⟩
        have kcd := (Kp.of (B := tb P1 P2) sc).trans kd
        refine ⟨_, rfl, _, rfl, r2, p3, len2, hs3, zs3, rfl, Rb.ro.kp kcd, RlAt.kp Ab kcd, cb, by omega, fun He se => ⟨_, rfl, iteF ?_⟩⟩
        have kbe := kcd.trans (Kp.of se)
        have Ae := RlAt.kp Ab kbe
        have aLe := kbe.lstO aLb
        refine ⟨_, rfl, .inl ⟨rfl, _, .inl (.inl aLe)⟩, _, rfl, _, rfl, _, rfl, p3, _, rfl, .inl (.inl (.inl Ae.l)), fun p4 hp4 => ⟨by show 3 ≤ sizeLine; decide, fun T5 hT5 => ?_⟩⟩
        have s4 := same_upd (o := HO.lst zs3) hp4
        have A4 : RlAt (upd He p4 (HO.lst zs3)) p4 hs3 zs3 := ⟨upd_same, (Ae.mono s4).p⟩
        have np4 : p4 ≠ L := Ne.symm (ne_of_none aLe hp4)
        generalize upd He p4 (HO.lst zs3) = Hf at s4 A4 hT5 ⊢
        have s5 := same_upd (o := HO.tup [V.ref r2, V.int len2, V.ref p4]) hT5
        have a5 : upd Hf T5 (HO.tup [V.ref r2, V.int len2, V.ref p4]) T5 = some (.tup [V.ref r2, V.int len2, V.ref p4]) := upd_same
        have A5 := A4.mono s5
        generalize upd Hf T5 (HO.tup [V.ref r2, V.int len2, V.ref p4]) = Hg at s5 a5 A5 ⊢
        have kbg := kbe.trans ((Kp.of (B := tb P1 P2) s4).trans (Kp.of s5))
        have aLg := kbg.lstO aLb
        have tbg := tbd.same (se.trans (s4.trans s5))
        have hn : Hd7 Hg L (V.ref T5) := ⟨T5, r2, q2, p4, len2, hs3, zs3, rfl, a5, FDb.kp kbg, nq2, A5, np4⟩
        refine ⟨L, _, _, rfl, rfl, aLg, small1000 (by omega), ?_⟩
        refine ⟨r2, p3, q2, len2, hs3, hs3, zs3, xs ++ [V.ref T5], _, _, _, _, _, rfl, tbg.updL aLg, ?_, (R1b.kp kbg).upd (FD1b.kp kbg) aLg nF nq, (FD1b.kp kbg).updL aLg nq, (Rb.kp kbg).upd (FDb.kp kbg) aLg np3 nq2, (FDb.kp kbg).updL aLg nq2, nq2, np3, by omega, .inr rfl, upd_same, by rw [List.length_append]; show xs.length + 1 ≤ i + 1; omega, fun x hx => ?_⟩
        · rw [upd_ne nc]
          exact kbg.lstO acb
        · rcases List.mem_append.mp hx with hx | hx
          · exact ((hdb x hx).kp kbg).upd aLg
          · rw [List.mem_singleton.mp hx]
            exact hn.upd aLg
    rintro σ H9 ⟨r, p, q9, len, ts, hs, ys, xs, v7, v8, v9, v10, v11, rfl, tb9, ac9, R1, FD1, R, FD, nq9, np, n56, nts, aL, nx, hd⟩
    refine ⟨_, rfl, L, rfl, ⟨_, .inl (.inl aL)⟩, for_list (K := K) (a := L) (xs := xs) (fun i σ Ha => ∃ (v7 v8 v9 v10 v11 v12 : Option V), σ = [some (.ref a), some (.int l1), some (.ref pF), some (.ref r1), some (.ref r), some (.ref p), some (.ref L), v7, v8, v9, v10, v11, v12] ∧ Same H9 Ha) ⟨_, _, _, _, _, _, rfl, Same.refl _⟩ (fun i σ Ha _ h => by obtain ⟨_, _, _, _, _, _, _, s⟩ := h; exact .inl (.inl (s _ _ aL))) ?_ ?_⟩
    · rintro i y σ Ha hi ⟨v7, v8, v9, v10, v11, v12, rfl, sa⟩
      obtain ⟨T, r2, q2, p2, len2, hs2, zs2, rfl, hT, F2, _, A2, _⟩ := (hd y (List.mem_of_getElem? hi)).kp (Kp.of (B := tb P1 P2) sa)
      refine ⟨T, _, rfl, .inl (.inl hT), rfl, _, _, rfl, _, _, rfl, _, _, rfl, rfl, ?_⟩
      refine ⟨_, rfl, _, rfl, _, rfl, by show 2 ≤ sizeLine; decide, fun t3 ht3 => ?_⟩
      have s3 := same_upd (o := HO.tup [V.int len2, V.ref p2]) ht3
      refine ⟨r2, t3, len2, hs2, rfl, rfl, F2.ro.mono s3, ⟨p2, zs2, upd_same, A2.mono s3⟩, _, rfl, iteF ?_⟩
      exact ⟨_, _, _, _, _, _, rfl, sa.trans s3⟩
    · rintro σ Ha ⟨v7, v8, v9, v10, v11, v12, rfl, sa⟩
      exact q _
end
end K57

end PartK57

section PartK57z
set_option maxHeartbeats 4000000
namespace K57
open PySem L2 Og Bw Ro
theorem all_mk {l : PySem.W.OpenLaw} {w : World} {K : PySem.W.Frag} {h : Heap} {mg : Str → Option Value} {fa : Addr} {c1 c2 P1 P2 : Addr} (X : K.In h) (G : h.Ns mainGlobals mg) (hfa : mg "law" = some (.ref fa))
    {fWh fMb fIl fHw fAh fHo fFh fRf fRo fIr fOa fCa fLw fMx fLe fPo fSa fSs fCv fLh fIs fSl fMv fRp fEe fC7 fLo fM7 fNx fDd fOs fZ e0 eO : Addr} {odWh anWh odMb anMb odIl anIl odHw anHw odAh anAh odHo anHo odFh anFh odRf anRf odRo anRo odIr anIr odOa anOa odCa anCa odLw anLw odMx anMx odLe anLe odPo anPo odSa anSa odSs anSs odCv anCv odLh anLh odIs anIs odSl anSl odMv anMv odRp anRp odEe anEe odC7 anC7 odLo anLo odM7 anM7 odNx anNx odDd anDd odOs anOs odZ anZ : Option Addr} {slWh slMb slIl slHw slAh slHo slFh slRf slRo slIr slOa slCa slLw slMx slLe slPo slSa slSs slCv slLh slIs slSl slMv slRp slEe slC7 slLo slM7 slNx slDd slOs slZ : Array (Option Value)} {ocWh kVWh dcWh pmWh ctWh cdWh ocMb kVMb dcMb pmMb ctMb cdMb ocIl kVIl dcIl pmIl ctIl cdIl ocHw kVHw dcHw pmHw ctHw cdHw ocAh kVAh dcAh pmAh ctAh cdAh ocHo kVHo dcHo pmHo ctHo ocFh kVFh dcFh pmFh ctFh cdFh ocRf kVRf dcRf pmRf ctRf cdRf ocRo kVRo dcRo pmRo ctRo cdRo ocIr kVIr dcIr pmIr ctIr cdIr ocOa kVOa dcOa pmOa ctOa cdOa ocCa kVCa dcCa pmCa ctCa cdCa ocLw kVLw dcLw pmLw ctLw cdLw ocMx kVMx dcMx pmMx ctMx cdMx ocLe kVLe dcLe pmLe ctLe cdLe ocPo kVPo dcPo pmPo ctPo cdPo ocSa kVSa dcSa pmSa ctSa cdSa ocSs kVSs dcSs pmSs ctSs cdSs ocCv kVCv dcCv pmCv ctCv cdCv ocLh kVLh dcLh pmLh ctLh ocIs kVIs dcIs pmIs ctIs cdIs ocSl kVSl dcSl pmSl ctSl cdSl ocMv kVMv dcMv pmMv ctMv cdMv ocRp kVRp dcRp pmRp ctRp cdRp ocEe kVEe dcEe pmEe ctEe cdEe ocC7 kVC7 dcC7 pmC7 ctC7 cdC7 ocLo kVLo dcLo pmLo ctLo cdLo ocM7 kVM7 dcM7 pmM7 ctM7 cdM7 ocNx kVNx dcNx pmNx ctNx cdNx ocDd kVDd dcDd pmDd ctDd cdDd ocOs kVOs dcOs pmOs ctOs cdOs ocZ kVZ dcZ pmZ ctZ cdZ : Value}
    {tMEMBERS_BELOW tMOST_TICKS tMOST_HOLES tMOST_TIMES : Tok}
    (aWh : PySem.W.nsIn K mainGlobals "is_whole" = some (some (.ref fWh)))
    (lWh : K.lookup fWh = some ⟨ocWh, odWh, .func (PySem.W.fnOf "is_whole" "is_whole" (defArgs sWh) (defBody sWh) (defScope sWh) .none kVWh dcWh pmWh anWh cdWh ctWh), slWh⟩) (cWh : PySem.W.codeIn K cdWh "is_whole" = true) (kWh : PySem.W.keepIn K (.ref fWh) = true)
    (aMb : PySem.W.nsIn K mainGlobals "may_be_member" = some (some (.ref fMb)))
    (lMb : K.lookup fMb = some ⟨ocMb, odMb, .func (PySem.W.fnOf "may_be_member" "may_be_member" (defArgs sMb) (defBody sMb) (defScope sMb) .none kVMb dcMb pmMb anMb cdMb ctMb), slMb⟩) (cMb : PySem.W.codeIn K cdMb "may_be_member" = true) (kMb : PySem.W.keepIn K (.ref fMb) = true)
    (aIl : PySem.W.nsIn K mainGlobals "is_length" = some (some (.ref fIl)))
    (lIl : K.lookup fIl = some ⟨ocIl, odIl, .func (PySem.W.fnOf "is_length" "is_length" (defArgs sIl) (defBody sIl) (defScope sIl) .none kVIl dcIl pmIl anIl cdIl ctIl), slIl⟩) (cIl : PySem.W.codeIn K cdIl "is_length" = true) (kIl : PySem.W.keepIn K (.ref fIl) = true)
    (aHw : PySem.W.nsIn K mainGlobals "is_hole_within" = some (some (.ref fHw)))
    (lHw : K.lookup fHw = some ⟨ocHw, odHw, .func (PySem.W.fnOf "is_hole_within" "is_hole_within" (defArgs sHw) (defBody sHw) (defScope sHw) .none kVHw dcHw pmHw anHw cdHw ctHw), slHw⟩) (cHw : PySem.W.codeIn K cdHw "is_hole_within" = true) (kHw : PySem.W.keepIn K (.ref fHw) = true)
    (aAh : PySem.W.nsIn K mainGlobals "are_holes_within" = some (some (.ref fAh)))
    (lAh : K.lookup fAh = some ⟨ocAh, odAh, .func (PySem.W.fnOf "are_holes_within" "are_holes_within" (defArgs sAh) (defBody sAh) (defScope sAh) .none kVAh dcAh pmAh anAh cdAh ctAh), slAh⟩) (cAh : PySem.W.codeIn K cdAh "are_holes_within" = true) (kAh : PySem.W.keepIn K (.ref fAh) = true)
    (aHo : PySem.W.nsIn K mainGlobals "holes_of" = some (some (.ref fHo)))
    (lHo : K.lookup fHo = some ⟨ocHo, odHo, .func (PySem.W.fnOf "holes_of" "holes_of" (defArgs sHo) (defBody sHo) (defScope sHo) .none kVHo dcHo pmHo anHo (.ref c1) ctHo), slHo⟩) (cHo : PySem.W.codeIn K (.ref c1) "holes_of" = true) (kHo : PySem.W.keepIn K (.ref fHo) = true)
    (aFh : PySem.W.nsIn K mainGlobals "few_holes_of" = some (some (.ref fFh)))
    (lFh : K.lookup fFh = some ⟨ocFh, odFh, .func (PySem.W.fnOf "few_holes_of" "few_holes_of" (defArgs sFh) (defBody sFh) (defScope sFh) .none kVFh dcFh pmFh anFh cdFh ctFh), slFh⟩) (cFh : PySem.W.codeIn K cdFh "few_holes_of" = true) (kFh : PySem.W.keepIn K (.ref fFh) = true)
    (aRf : PySem.W.nsIn K mainGlobals "roll_from" = some (some (.ref fRf)))
    (lRf : K.lookup fRf = some ⟨ocRf, odRf, .func (PySem.W.fnOf "roll_from" "roll_from" (defArgs sRf) (defBody sRf) (defScope sRf) .none kVRf dcRf pmRf anRf cdRf ctRf), slRf⟩) (cRf : PySem.W.codeIn K cdRf "roll_from" = true) (kRf : PySem.W.keepIn K (.ref fRf) = true)
    (aRo : PySem.W.nsIn K mainGlobals "roll_of" = some (some (.ref fRo)))
    (lRo : K.lookup fRo = some ⟨ocRo, odRo, .func (PySem.W.fnOf "roll_of" "roll_of" (defArgs sRo) (defBody sRo) (defScope sRo) .none kVRo dcRo pmRo anRo cdRo ctRo), slRo⟩) (cRo : PySem.W.codeIn K cdRo "roll_of" = true) (kRo : PySem.W.keepIn K (.ref fRo) = true)
    (aIr : PySem.W.nsIn K mainGlobals "is_roll" = some (some (.ref fIr)))
    (lIr : K.lookup fIr = some ⟨ocIr, odIr, .func (PySem.W.fnOf "is_roll" "is_roll" (defArgs sIr) (defBody sIr) (defScope sIr) .none kVIr dcIr pmIr anIr cdIr ctIr), slIr⟩) (cIr : PySem.W.codeIn K cdIr "is_roll" = true) (kIr : PySem.W.keepIn K (.ref fIr) = true)
    (aOa : PySem.W.nsIn K mainGlobals "open_at" = some (some (.ref fOa)))
    (lOa : K.lookup fOa = some ⟨ocOa, odOa, .func (PySem.W.fnOf "open_at" "open_at" (defArgs sOa) (defBody sOa) (defScope sOa) .none kVOa dcOa pmOa anOa cdOa ctOa), slOa⟩) (cOa : PySem.W.codeIn K cdOa "open_at" = true) (kOa : PySem.W.keepIn K (.ref fOa) = true)
    (aCa : PySem.W.nsIn K mainGlobals "_law_cell_at" = some (some (.ref fCa)))
    (lCa : K.lookup fCa = some ⟨ocCa, odCa, .func (PySem.W.fnOf "_law_cell_at" "_law_cell_at" (defArgs sCa) (defBody sCa) (defScope sCa) .none kVCa dcCa pmCa anCa cdCa ctCa), slCa⟩) (cCa : PySem.W.codeIn K cdCa "_law_cell_at" = true) (kCa : PySem.W.keepIn K (.ref fCa) = true)
    (aLw : PySem.W.nsIn K mainGlobals "_law_whole" = some (some (.ref fLw)))
    (lLw : K.lookup fLw = some ⟨ocLw, odLw, .func (PySem.W.fnOf "_law_whole" "_law_whole" (defArgs sLw) (defBody sLw) (defScope sLw) .none kVLw dcLw pmLw anLw cdLw ctLw), slLw⟩) (cLw : PySem.W.codeIn K cdLw "_law_whole" = true) (kLw : PySem.W.keepIn K (.ref fLw) = true)
    (aMx : PySem.W.nsIn K mainGlobals "_law_mix" = some (some (.ref fMx)))
    (lMx : K.lookup fMx = some ⟨ocMx, odMx, .func (PySem.W.fnOf "_law_mix" "_law_mix" (defArgs sMx) (defBody sMx) (defScope sMx) .none kVMx dcMx pmMx anMx cdMx ctMx), slMx⟩) (cMx : PySem.W.codeIn K cdMx "_law_mix" = true) (kMx : PySem.W.keepIn K (.ref fMx) = true)
    (aLe : PySem.W.nsIn K mainGlobals "_law_length" = some (some (.ref fLe)))
    (lLe : K.lookup fLe = some ⟨ocLe, odLe, .func (PySem.W.fnOf "_law_length" "_law_length" (defArgs sLe) (defBody sLe) (defScope sLe) .none kVLe dcLe pmLe anLe cdLe ctLe), slLe⟩) (cLe : PySem.W.codeIn K cdLe "_law_length" = true) (kLe : PySem.W.keepIn K (.ref fLe) = true)
    (aPo : PySem.W.nsIn K mainGlobals "_law_points" = some (some (.ref fPo)))
    (lPo : K.lookup fPo = some ⟨ocPo, odPo, .func (PySem.W.fnOf "_law_points" "_law_points" (defArgs sPo) (defBody sPo) (defScope sPo) .none kVPo dcPo pmPo anPo cdPo ctPo), slPo⟩) (cPo : PySem.W.codeIn K cdPo "_law_points" = true) (kPo : PySem.W.keepIn K (.ref fPo) = true)
    (aSa : PySem.W.nsIn K mainGlobals "_law_span" = some (some (.ref fSa)))
    (lSa : K.lookup fSa = some ⟨ocSa, odSa, .func (PySem.W.fnOf "_law_span" "_law_span" (defArgs sSa) (defBody sSa) (defScope sSa) .none kVSa dcSa pmSa anSa cdSa ctSa), slSa⟩) (cSa : PySem.W.codeIn K cdSa "_law_span" = true) (kSa : PySem.W.keepIn K (.ref fSa) = true)
    (aSs : PySem.W.nsIn K mainGlobals "_law_spans" = some (some (.ref fSs)))
    (lSs : K.lookup fSs = some ⟨ocSs, odSs, .func (PySem.W.fnOf "_law_spans" "_law_spans" (defArgs sSs) (defBody sSs) (defScope sSs) .none kVSs dcSs pmSs anSs cdSs ctSs), slSs⟩) (cSs : PySem.W.codeIn K cdSs "_law_spans" = true) (kSs : PySem.W.keepIn K (.ref fSs) = true)
    (aCv : PySem.W.nsIn K mainGlobals "_law_covered" = some (some (.ref fCv)))
    (lCv : K.lookup fCv = some ⟨ocCv, odCv, .func (PySem.W.fnOf "_law_covered" "_law_covered" (defArgs sCv) (defBody sCv) (defScope sCv) .none kVCv dcCv pmCv anCv cdCv ctCv), slCv⟩) (cCv : PySem.W.codeIn K cdCv "_law_covered" = true) (kCv : PySem.W.keepIn K (.ref fCv) = true)
    (aLh : PySem.W.nsIn K mainGlobals "_law_holes" = some (some (.ref fLh)))
    (lLh : K.lookup fLh = some ⟨ocLh, odLh, .func (PySem.W.fnOf "_law_holes" "_law_holes" (defArgs sLh) (defBody sLh) (defScope sLh) .none kVLh dcLh pmLh anLh (.ref c2) ctLh), slLh⟩) (cLh : PySem.W.codeIn K (.ref c2) "_law_holes" = true) (kLh : PySem.W.keepIn K (.ref fLh) = true)
    (aIs : PySem.W.nsIn K mainGlobals "_law_is" = some (some (.ref fIs)))
    (lIs : K.lookup fIs = some ⟨ocIs, odIs, .func (PySem.W.fnOf "_law_is" "_law_is" (defArgs sIs) (defBody sIs) (defScope sIs) .none kVIs dcIs pmIs anIs cdIs ctIs), slIs⟩) (cIs : PySem.W.codeIn K cdIs "_law_is" = true) (kIs : PySem.W.keepIn K (.ref fIs) = true)
    (aSl : PySem.W.nsIn K mainGlobals "slowed_by" = some (some (.ref fSl)))
    (lSl : K.lookup fSl = some ⟨ocSl, odSl, .func (PySem.W.fnOf "slowed_by" "slowed_by" (defArgs sSl) (defBody sSl) (defScope sSl) .none kVSl dcSl pmSl anSl cdSl ctSl), slSl⟩) (cSl : PySem.W.codeIn K cdSl "slowed_by" = true) (kSl : PySem.W.keepIn K (.ref fSl) = true)
    (aMv : PySem.W.nsIn K mainGlobals "moved" = some (some (.ref fMv)))
    (lMv : K.lookup fMv = some ⟨ocMv, odMv, .func (PySem.W.fnOf "moved" "moved" (defArgs sMv) (defBody sMv) (defScope sMv) .none kVMv dcMv pmMv anMv cdMv ctMv), slMv⟩) (cMv : PySem.W.codeIn K cdMv "moved" = true) (kMv : PySem.W.keepIn K (.ref fMv) = true)
    (aRp : PySem.W.nsIn K mainGlobals "roll_part" = some (some (.ref fRp)))
    (lRp : K.lookup fRp = some ⟨ocRp, odRp, .func (PySem.W.fnOf "roll_part" "roll_part" (defArgs sRp) (defBody sRp) (defScope sRp) .none kVRp dcRp pmRp anRp cdRp ctRp), slRp⟩) (cRp : PySem.W.codeIn K cdRp "roll_part" = true) (kRp : PySem.W.keepIn K (.ref fRp) = true)
    (aEe : PySem.W.nsIn K mainGlobals "end_to_end" = some (some (.ref fEe)))
    (lEe : K.lookup fEe = some ⟨ocEe, odEe, .func (PySem.W.fnOf "end_to_end" "end_to_end" (defArgs sEe) (defBody sEe) (defScope sEe) .none kVEe dcEe pmEe anEe cdEe ctEe), slEe⟩) (cEe : PySem.W.codeIn K cdEe "end_to_end" = true) (kEe : PySem.W.keepIn K (.ref fEe) = true)
    (aC7 : PySem.W.nsIn K mainGlobals "_law_cut" = some (some (.ref fC7)))
    (lC7 : K.lookup fC7 = some ⟨ocC7, odC7, .func (PySem.W.fnOf "_law_cut" "_law_cut" (defArgs sC7) (defBody sC7) (defScope sC7) .none kVC7 dcC7 pmC7 anC7 cdC7 ctC7), slC7⟩) (cC7 : PySem.W.codeIn K cdC7 "_law_cut" = true) (kC7 : PySem.W.keepIn K (.ref fC7) = true)
    (aLo : PySem.W.nsIn K mainGlobals "laid_over" = some (some (.ref fLo)))
    (lLo : K.lookup fLo = some ⟨ocLo, odLo, .func (PySem.W.fnOf "laid_over" "laid_over" (defArgs sLo) (defBody sLo) (defScope sLo) .none kVLo dcLo pmLo anLo cdLo ctLo), slLo⟩) (cLo : PySem.W.codeIn K cdLo "laid_over" = true) (kLo : PySem.W.keepIn K (.ref fLo) = true)
    (aM7 : PySem.W.nsIn K mainGlobals "_law_moved" = some (some (.ref fM7)))
    (lM7 : K.lookup fM7 = some ⟨ocM7, odM7, .func (PySem.W.fnOf "_law_moved" "_law_moved" (defArgs sM7) (defBody sM7) (defScope sM7) .none kVM7 dcM7 pmM7 anM7 cdM7 ctM7), slM7⟩) (cM7 : PySem.W.codeIn K cdM7 "_law_moved" = true) (kM7 : PySem.W.keepIn K (.ref fM7) = true)
    (aNx : PySem.W.nsIn K mainGlobals "_law_next" = some (some (.ref fNx)))
    (lNx : K.lookup fNx = some ⟨ocNx, odNx, .func (PySem.W.fnOf "_law_next" "_law_next" (defArgs sNx) (defBody sNx) (defScope sNx) .none kVNx dcNx pmNx anNx cdNx ctNx), slNx⟩) (cNx : PySem.W.codeIn K cdNx "_law_next" = true) (kNx : PySem.W.keepIn K (.ref fNx) = true)
    (aDd : PySem.W.nsIn K mainGlobals "_law_deed" = some (some (.ref fDd)))
    (lDd : K.lookup fDd = some ⟨ocDd, odDd, .func (PySem.W.fnOf "_law_deed" "_law_deed" (defArgs sDd) (defBody sDd) (defScope sDd) .none kVDd dcDd pmDd anDd cdDd ctDd), slDd⟩) (cDd : PySem.W.codeIn K cdDd "_law_deed" = true) (kDd : PySem.W.keepIn K (.ref fDd) = true)
    (aOs : PySem.W.nsIn K mainGlobals "_law_opens" = some (some (.ref fOs)))
    (lOs : K.lookup fOs = some ⟨ocOs, odOs, .func (PySem.W.fnOf "_law_opens" "_law_opens" (defArgs sOs) (defBody sOs) (defScope sOs) .none kVOs dcOs pmOs anOs cdOs ctOs), slOs⟩) (cOs : PySem.W.codeIn K cdOs "_law_opens" = true) (kOs : PySem.W.keepIn K (.ref fOs) = true)
    (aZ : PySem.W.nsIn K mainGlobals "law" = some (some (.ref fZ)))
    (lZ : K.lookup fZ = some ⟨ocZ, odZ, .func (PySem.W.fnOf "law" "law" (defArgs sLaw) (defBody sLaw) (defScope sLaw) .none kVZ dcZ pmZ anZ cdZ ctZ), slZ⟩) (cZ : PySem.W.codeIn K cdZ "law" = true) (kZ : PySem.W.keepIn K (.ref fZ) = true)
    (zlen : PySem.W.nsIn K mainGlobals "len" = some none)
    (zisinstance : PySem.W.nsIn K mainGlobals "isinstance" = some none)
    (zint : PySem.W.nsIn K mainGlobals "int" = some none)
    (zbool : PySem.W.nsIn K mainGlobals "bool" = some none)
    (ztuple : PySem.W.nsIn K mainGlobals "tuple" = some none)
    (zrange : PySem.W.nsIn K mainGlobals "range" = some none)
    (zmax : PySem.W.nsIn K mainGlobals "max" = some none)
    (zmin : PySem.W.nsIn K mainGlobals "min" = some none)
    (zlist : PySem.W.nsIn K mainGlobals "list" = some none)
    (zsorted : PySem.W.nsIn K mainGlobals "sorted" = some none)
    (zset : PySem.W.nsIn K mainGlobals "set" = some none)
    (zall : PySem.W.nsIn K mainGlobals "all" = some none)
    (ae0 : PySem.W.nsIn K mainGlobals "NoRoll" = some (some (.ref e0)))
    (aeO : PySem.W.nsIn K mainGlobals "OrganError" = some (some (.ref eO)))
    (zMEMBERS_BELOW : PySem.W.nsIn K mainGlobals "MEMBERS_BELOW" = some (some (.int 1200 tMEMBERS_BELOW)))
    (zMOST_TICKS : PySem.W.nsIn K mainGlobals "MOST_TICKS" = some (some (.int 1000000000000 tMOST_TICKS)))
    (zMOST_HOLES : PySem.W.nsIn K mainGlobals "MOST_HOLES" = some (some (.int 400 tMOST_HOLES)))
    (zMOST_TIMES : PySem.W.nsIn K mainGlobals "MOST_TIMES" = some (some (.int 1000 tMOST_TIMES)))
    (hall : allB K e0 [eO] eO = true)
    : ∃ fd : FuncData, (∀ (s : Shared) (v : Value), BindsTo s fd ⟨[v], []⟩ [("_law_script", v)]) ∧ ∀ base : Heap, K.In base → base.Ns mainGlobals mg → (∀ q ∈ [(c1, P1), (c2, P2)], TabK mg base q.1 q.2) → FnOk l.prog w K mg base CX0 7 fa fd ["_law_script"] (spLaw K (tb P1 P2)) := by
  have e := hfa.symm.trans (PySem.W.mg_of X G aZ)
  cases e
  have FWh := fun_mk (st := sWh) lWh cWh kWh
  have FMb := fun_mk (st := sMb) lMb cMb kMb
  have FIl := fun_mk (st := sIl) lIl cIl kIl
  have FHw := fun_mk (st := sHw) lHw cHw kHw
  have FAh := fun_mk (st := sAh) lAh cAh kAh
  have FHo : FunL K "holes_of" "holes_of" sHo fHo (PySem.W.fnOf "holes_of" "holes_of" (defArgs sHo) (defBody sHo) (defScope sHo) .none kVHo dcHo pmHo anHo (.ref c1) ctHo) c1 := ⟨⟨_, _, _, _, _, _, _, _, rfl, lHo, cHo⟩, kHo⟩
  have FFh := fun_mk (st := sFh) lFh cFh kFh
  have FRf := fun_mk (st := sRf) lRf cRf kRf
  have FRo := fun_mk (st := sRo) lRo cRo kRo
  have FIr := fun_mk (st := sIr) lIr cIr kIr
  have FOa := fun_mk (st := sOa) lOa cOa kOa
  have FCa := fun_mk (st := sCa) lCa cCa kCa
  have FLw := fun_mk (st := sLw) lLw cLw kLw
  have FMx := fun_mk (st := sMx) lMx cMx kMx
  have FLe := fun_mk (st := sLe) lLe cLe kLe
  have FPo := fun_mk (st := sPo) lPo cPo kPo
  have FSa := fun_mk (st := sSa) lSa cSa kSa
  have FSs := fun_mk (st := sSs) lSs cSs kSs
  have FCv := fun_mk (st := sCv) lCv cCv kCv
  have FLh : FunL K "_law_holes" "_law_holes" sLh fLh (PySem.W.fnOf "_law_holes" "_law_holes" (defArgs sLh) (defBody sLh) (defScope sLh) .none kVLh dcLh pmLh anLh (.ref c2) ctLh) c2 := ⟨⟨_, _, _, _, _, _, _, _, rfl, lLh, cLh⟩, kLh⟩
  have FIs := fun_mk (st := sIs) lIs cIs kIs
  have FSl := fun_mk (st := sSl) lSl cSl kSl
  have FMv := fun_mk (st := sMv) lMv cMv kMv
  have FRp := fun_mk (st := sRp) lRp cRp kRp
  have FEe := fun_mk (st := sEe) lEe cEe kEe
  have FC7 := fun_mk (st := sC7) lC7 cC7 kC7
  have FLo := fun_mk (st := sLo) lLo cLo kLo
  have FM7 := fun_mk (st := sM7) lM7 cM7 kM7
  have FNx := fun_mk (st := sNx) lNx cNx kNx
  have FDd := fun_mk (st := sDd) lDd cDd kDd
  have FOs := fun_mk (st := sOs) lOs cOs kOs
  have FZ := fun_mk (st := sLaw) lZ cZ kZ
  have bWh := (FWh).binds (ps := ["thing"]) fun _ _ _ _ _ _ us hl => match us, hl with | [_], _ => rfl
  have bMb := (FMb).binds (ps := ["thing"]) fun _ _ _ _ _ _ us hl => match us, hl with | [_], _ => rfl
  have bIl := (FIl).binds (ps := ["thing"]) fun _ _ _ _ _ _ us hl => match us, hl with | [_], _ => rfl
  have bHw := (FHw).binds (ps := ["thing", "length"]) fun _ _ _ _ _ _ us hl => match us, hl with | [_, _], _ => rfl
  have bAh := (FAh).binds (ps := ["thing", "length"]) fun _ _ _ _ _ _ us hl => match us, hl with | [_, _], _ => rfl
  have bHo := (fun_mk (st := sHo) lHo cHo kHo).binds (ps := ["spans"]) fun _ _ _ _ _ _ us hl => match us, hl with | [_], _ => rfl
  have bFh := (FFh).binds (ps := ["spans"]) fun _ _ _ _ _ _ us hl => match us, hl with | [_], _ => rfl
  have bRf := (FRf).binds (ps := ["length", "spans"]) fun _ _ _ _ _ _ us hl => match us, hl with | [_, _], _ => rfl
  have bRo := (FRo).binds (ps := ["length", "spans"]) fun _ _ _ _ _ _ us hl => match us, hl with | [_, _], _ => rfl
  have bIr := (FIr).binds (ps := ["thing"]) fun _ _ _ _ _ _ us hl => match us, hl with | [_], _ => rfl
  have bOa := (FOa).binds (ps := ["roll", "tick"]) fun _ _ _ _ _ _ us hl => match us, hl with | [_, _], _ => rfl
  have bCa := (FCa).binds (ps := ["_law_script", "_law_k"]) fun _ _ _ _ _ _ us hl => match us, hl with | [_, _], _ => rfl
  have bLw := (FLw).binds (ps := ["_law_found"]) fun _ _ _ _ _ _ us hl => match us, hl with | [_], _ => rfl
  have bMx := (FMx).binds (ps := ["_law_cell", "_law_by", "_law_many"]) fun _ _ _ _ _ _ us hl => match us, hl with | [_, _, _], _ => rfl
  have bLe := (FLe).binds (ps := ["_law_cell"]) fun _ _ _ _ _ _ us hl => match us, hl with | [_], _ => rfl
  have bPo := (FPo).binds (ps := ["_law_length_here", "_law_cell"]) fun _ _ _ _ _ _ us hl => match us, hl with | [_, _], _ => rfl
  have bSa := (FSa).binds (ps := ["_law_points_here", "_law_cell"]) fun _ _ _ _ _ _ us hl => match us, hl with | [_, _], _ => rfl
  have bSs := (FSs).binds (ps := ["_law_cells", "_law_length_here", "_law_cell"]) fun _ _ _ _ _ _ us hl => match us, hl with | [_, _, _], _ => rfl
  have bCv := (FCv).binds (ps := ["_law_mine", "_law_tick"]) fun _ _ _ _ _ _ us hl => match us, hl with | [_, _], _ => rfl
  have bLh := (fun_mk (st := sLh) lLh cLh kLh).binds (ps := ["_law_spans_here"]) fun _ _ _ _ _ _ us hl => match us, hl with | [_], _ => rfl
  have bIs := (FIs).binds (ps := ["_law_found", "_law_length_here", "_law_holes_here"]) fun _ _ _ _ _ _ us hl => match us, hl with | [_, _, _], _ => rfl
  have bSl := (FSl).binds (ps := ["roll", "times"]) fun _ _ _ _ _ _ us hl => match us, hl with | [_, _], _ => rfl
  have bMv := (FMv).binds (ps := ["holes", "ticks"]) fun _ _ _ _ _ _ us hl => match us, hl with | [_, _], _ => rfl
  have bRp := (FRp).binds (ps := ["roll", "first", "behind"]) fun _ _ _ _ _ _ us hl => match us, hl with | [_, _, _], _ => rfl
  have bEe := (FEe).binds (ps := ["one", "other"]) fun _ _ _ _ _ _ us hl => match us, hl with | [_, _], _ => rfl
  have bC7 := (FC7).binds (ps := ["_law_spans_here", "_law_low", "_law_high"]) fun _ _ _ _ _ _ us hl => match us, hl with | [_, _, _], _ => rfl
  have bLo := (FLo).binds (ps := ["one", "other"]) fun _ _ _ _ _ _ us hl => match us, hl with | [_, _], _ => rfl
  have bM7 := (FM7).binds (ps := ["_law_spans_here", "_law_by"]) fun _ _ _ _ _ _ us hl => match us, hl with | [_, _], _ => rfl
  have bNx := (FNx).binds (ps := ["_law_roll", "_law_spans_here", "_law_first", "_law_firsts", "_law_cell"]) fun _ _ _ _ _ _ us hl => match us, hl with | [_, _, _, _, _], _ => rfl
  have bDd := (FDd).binds (ps := ["_law_roll", "_law_spans_here", "_law_first", "_law_firsts", "_law_cell"]) fun _ _ _ _ _ _ us hl => match us, hl with | [_, _, _, _, _], _ => rfl
  have bOs := (FOs).binds (ps := ["_law_roll", "_law_holes_here"]) fun _ _ _ _ _ _ us hl => match us, hl with | [_, _], _ => rfl
  have hm : ∀ (j : Nat) (D : Addr), (e0 :: [])[j]? = some D → mg (names.getD j "") = some (.ref D) := fun j D hj => by
    have lj : j < 1 := (List.getElem?_eq_some_iff.mp hj).1
    have cs : j = 0 := by omega
    subst cs
    cases hj
    exact PySem.W.mg_of X G ae0
  have O : Own K mg e0 [] eO := own_of hall hm
  have T : Txt K mg := ⟨PySem.W.mg_none_of X G zlen, PySem.W.mg_none_of X G zisinstance, PySem.W.mg_none_of X G zint, PySem.W.mg_none_of X G zbool, PySem.W.mg_none_of X G ztuple, PySem.W.mg_none_of X G zrange, PySem.W.mg_none_of X G zmax, PySem.W.mg_none_of X G zmin, PySem.W.mg_none_of X G zlist, PySem.W.mg_none_of X G zsorted, PySem.W.mg_none_of X G zset, PySem.W.mg_none_of X G zall, ⟨_, PySem.W.mg_of X G zMEMBERS_BELOW⟩, ⟨_, PySem.W.mg_of X G zMOST_TICKS⟩, ⟨_, PySem.W.mg_of X G zMOST_HOLES⟩, ⟨_, PySem.W.mg_of X G zMOST_TIMES⟩⟩
  have N : Fns K mg c1 c2 fWh fMb fIl fHw fAh fHo fFh fRf fRo fIr fOa fCa fLw fMx fLe fPo fSa fSs fCv fLh fIs fSl fMv fRp fEe fC7 fLo fM7 fNx fDd fOs _ _ _ _ _ _ _ _ _ _ _ _ _ _ _ _ _ _ _ _ _ _ _ _ _ _ _ _ _ _ _ := ⟨FWh, FMb, FIl, FHw, FAh, FHo, FFh, FRf, FRo, FIr, FOa, FCa, FLw, FMx, FLe, FPo, FSa, FSs, FCv, FLh, FIs, FSl, FMv, FRp, FEe, FC7, FLo, FM7, FNx, FDd, FOs, bWh, bMb, bIl, bHw, bAh, bHo, bFh, bRf, bRo, bIr, bOa, bCa, bLw, bMx, bLe, bPo, bSa, bSs, bCv, bLh, bIs, bSl, bMv, bRp, bEe, bC7, bLo, bM7, bNx, bDd, bOs, PySem.W.mg_of X G aWh, PySem.W.mg_of X G aMb, PySem.W.mg_of X G aIl, PySem.W.mg_of X G aHw, PySem.W.mg_of X G aAh, PySem.W.mg_of X G aHo, PySem.W.mg_of X G aFh, PySem.W.mg_of X G aRf, PySem.W.mg_of X G aRo, PySem.W.mg_of X G aIr, PySem.W.mg_of X G aOa, PySem.W.mg_of X G aCa, PySem.W.mg_of X G aLw, PySem.W.mg_of X G aMx, PySem.W.mg_of X G aLe, PySem.W.mg_of X G aPo, PySem.W.mg_of X G aSa, PySem.W.mg_of X G aSs, PySem.W.mg_of X G aCv, PySem.W.mg_of X G aLh, PySem.W.mg_of X G aIs, PySem.W.mg_of X G aSl, PySem.W.mg_of X G aMv, PySem.W.mg_of X G aRp, PySem.W.mg_of X G aEe, PySem.W.mg_of X G aC7, PySem.W.mg_of X G aLo, PySem.W.mg_of X G aM7, PySem.W.mg_of X G aNx, PySem.W.mg_of X G aDd, PySem.W.mg_of X G aOs⟩
  exact ⟨PySem.W.fnOf "law" "law" (defArgs sLaw) (defBody sLaw) (defScope sLaw) .none kVZ dcZ pmZ anZ cdZ ctZ, fun s v => .of_eq rfl, fun base _ _ hK => ok_law FZ T N (hK (c1, P1) (by simp)) (hK (c2, P2) (by simp)) O⟩
theorem walk {l : PySem.W.OpenLaw} {q : Program} {loose : List Str} {XP : (Str → Option Value) → Heap → Prop} {YP : World → Heap → Prop} {d : DefRec} {K : Params → PySem.W.Frag} {c1 c2 P1 P2 : Addr} (hP : P1 ≠ P2) (hn : l.most = some 63) (hdf : d.params.defaults = [])
    (hY : ∀ (w : World) (h : Heap), YP w h → (K w.params).In h) (hnt : ∀ w : World, PySem.W.noTabs (K w.params) = true)
    (hT : ∀ (w : World) (mg mb : Str → Option Value) (mean : ExcName → Option Value) (h : Heap), PyProof.Rows.Top q (PySem.W.looseW q loose) mean mg mb h → (K w.params).In h → PySem.W.TabsAt [(c1, P1), (c2, P2)] h)
    (F : ∀ (w : World) (mg : Str → Option Value) (fa : Addr) (h : Heap), (K w.params).In h → h.Ns mainGlobals mg → mg d.name = some (.ref fa) →
      ∃ fd : FuncData, (∀ (s : Shared) (u : Value), BindsTo s fd ⟨[u], []⟩ [("_law_script", u)]) ∧ ∀ base : Heap, (K w.params).In base → base.Ns mainGlobals mg → (∀ q ∈ [(c1, P1), (c2, P2)], TabK mg base q.1 q.2) → FnOk l.prog w (K w.params) mg base CX0 7 fa fd ["_law_script"] (spLaw (K w.params) (tb P1 P2))) :
    PySem.W.WalkO q loose XP YP l.row.toRowW d [] (fun f vs => PySem.call f vs) :=
  L2.walk_ofT (n := 63) (k := 7) (tabs := [(c1, P1), (c2, P2)]) (x := "_law_script") (CX := fun _ => CX0) (sp := fun w => spLaw (K w.params) (tb P1 P2)) hn (by decide) hdf ⟨rfl, by decide, by decide⟩ hY hnt hT F (fun _ H a ns hl hTH hS => ⟨a, ns, rfl, hS, hl, ⟨hP, .inl (hTH _ (List.mem_cons_self ..)), .inl (hTH _ (List.mem_cons_of_mem _ (List.mem_cons_self ..)))⟩, fun _ => rfl⟩) fun _ _ _ _ _ z => z
end K57
open PySem PySem.W PyProof.Rows
def PySem.W.Fast.tw7787095327242895762 : Unit := ()
def PySem.W.Fast.tw2272707827402891645 : Unit := ()
def PySem.W.Fast.tw16977375474511975959 : Unit := ()
def PySem.W.Fast.tw14018202172824883843 : Unit := ()
def PySem.W.Fast.tw3623617227071416499 : Unit := ()
def PySem.W.Fast.tw11996691069569810494 : Unit := ()
def PySem.W.Fast.tw4312488020221115788 : Unit := ()
def PySem.W.Fast.tw13433775547578464937 : Unit := ()
def PySem.W.Fast.tw18366080832163313415 : Unit := ()
def PySem.W.Fast.tw8401953516230207261 : Unit := ()
def PySem.W.Fast.tw15237519160431263262 : Unit := ()
def PySem.W.Fast.tw12213289786582654973 : Unit := ()
def PySem.W.Fast.tw15087855965438617767 : Unit := ()
def PySem.W.Fast.tw1440049101719028616 : Unit := ()
def PySem.W.Fast.tw4858808148830157909 : Unit := ()
def PySem.W.Fast.tw10812721647815650550 : Unit := ()
def PySem.W.Fast.tw6751170148982522542 : Unit := ()
def PySem.W.Fast.tw12263672179728102869 : Unit := ()
def PySem.W.Fast.tw5412377405835327536 : Unit := ()
def PySem.W.Fast.tw4885481833942897838 : Unit := ()
def PySem.W.Fast.tw4783674703377006274 : Unit := ()
def PySem.W.Fast.tw11803859121169187148 : Unit := ()
def PySem.W.Fast.tw4998317161097153662 : Unit := ()
def PySem.W.Fast.tw6689760343069203495 : Unit := ()
def PySem.W.Fast.tw4655667908527651841 : Unit := ()
def PySem.W.Fast.tw18166963424721383198 : Unit := ()
def PySem.W.Fast.tw6149756184828977351 : Unit := ()
def PySem.W.Fast.tw9914170652583945019 : Unit := ()
def PySem.W.Fast.tw18435717002680014545 : Unit := ()
def PySem.W.Fast.tw11440454496041374663 : Unit := ()
def PySem.W.Fast.tw6724223065932373886 : Unit := ()
def PySem.W.Fast.tw11179685960836015329 : Unit := ()
def PySem.W.Fast.tw849350106389303580 : Unit := ()
def PySem.W.Fast.tw9891053583892621510 : Unit := ()
def PySem.W.Fast.tw3265065796021747452 : Unit := ()
def PySem.W.Fast.tw14561226493740421033 : Unit := ()
def PySem.W.Fast.tw5301816836012883920 : Unit := ()
def PySem.W.Fast.tw8572058207337982634 : Unit := ()
def PySem.W.Fast.tw2807795297545244656 : Unit := ()
def PySem.W.Fast.tw15833026471447688797 : Unit := ()
def PySem.W.Fast.tw17973300782977083967 : Unit := ()
def PySem.W.Fast.tw2389259372706944796 : Unit := ()
def PySem.W.Fast.tw11208659834821944872 : Unit := ()
def PySem.W.Fast.tw18354428269339052890 : Unit := ()
def PySem.W.Fast.tw15327490627046053794 : Unit := ()
def PySem.W.Fast.tw17468836984158640482 : Unit := ()
def PySem.W.Fast.tw12407351756703424006 : Unit := ()
set_option maxRecDepth 100000 in
set_option maxHeartbeats 0 in
theorem PySem.Challenge.cw_windchest_k57_whole_rolls_holds : PySem.Challenge.rw_windchest_k57_whole_rolls.Holds := by
  w_on; o_law; k_head; (case hw => w_witness2)
  k_fill
  refine K57.walk (l := PySem.Challenge.rw_windchest_k57_whole_rolls) (c1 := 78) (P1 := 74) (c2 := 199) (P2 := 197) (by decide) rfl rfl (fun w h Y => PySem.W.km_in_of Y) ?nt ?T ?F
  case nt => exact (fun w => by kernel_rfl)
  case T =>
    intro w mg mb mean h T KX
    exact List.forall_mem_cons.mpr ⟨PySem.W.tab_of (x := "holes_of") (c := 78) (P := 74) T KX rfl (by kernel_rfl), List.forall_mem_cons.mpr ⟨PySem.W.tab_of (x := "_law_holes") (c := 199) (P := 197) T KX rfl (by kernel_rfl), fun _ h => nomatch h⟩⟩
  case F =>
    intro w mg fa h KX G hmg
    refine' K57.all_mk (c1 := 78) (c2 := 199) (P1 := 74) (P2 := 197) KX G hmg ?aWh ?lWh ?cWh ?kWh ?aMb ?lMb ?cMb ?kMb ?aIl ?lIl ?cIl ?kIl ?aHw ?lHw ?cHw ?kHw ?aAh ?lAh ?cAh ?kAh ?aHo ?lHo ?cHo ?kHo ?aFh ?lFh ?cFh ?kFh ?aRf ?lRf ?cRf ?kRf ?aRo ?lRo ?cRo ?kRo ?aIr ?lIr ?cIr ?kIr ?aOa ?lOa ?cOa ?kOa ?aCa ?lCa ?cCa ?kCa ?aLw ?lLw ?cLw ?kLw ?aMx ?lMx ?cMx ?kMx ?aLe ?lLe ?cLe ?kLe ?aPo ?lPo ?cPo ?kPo ?aSa ?lSa ?cSa ?kSa ?aSs ?lSs ?cSs ?kSs ?aCv ?lCv ?cCv ?kCv ?aLh ?lLh ?cLh ?kLh ?aIs ?lIs ?cIs ?kIs ?aSl ?lSl ?cSl ?kSl ?aMv ?lMv ?cMv ?kMv ?aRp ?lRp ?cRp ?kRp ?aEe ?lEe ?cEe ?kEe ?aC7 ?lC7 ?cC7 ?kC7 ?aLo ?lLo ?cLo ?kLo ?aM7 ?lM7 ?cM7 ?kM7 ?aNx ?lNx ?cNx ?kNx ?aDd ?lDd ?cDd ?kDd ?aOs ?lOs ?cOs ?kOs ?aZ ?lZ ?cZ ?kZ ?zlen ?zisinstance ?zint ?zbool ?ztuple ?zrange ?zmax ?zmin ?zlist ?zsorted ?zset ?zall ?ae0 ?aeO ?zMEMBERS_BELOW ?zMOST_TICKS ?zMOST_HOLES ?zMOST_TIMES ?hall
    (case aWh => k_is)
    (case lWh => k_is)
    (case cWh => k_is)
    (case kWh => k_is)
    (case aMb => k_is)
    (case lMb => k_is)
    (case cMb => k_is)
    (case kMb => k_is)
    (case aIl => k_is)
    (case lIl => k_is)
    (case cIl => k_is)
    (case kIl => k_is)
    (case aHw => k_is)
    (case lHw => k_is)
    (case cHw => k_is)
    (case kHw => k_is)
    (case aAh => k_is)
    (case lAh => k_is)
    (case cAh => k_is)
    (case kAh => k_is)
    (case aHo => k_is)
    (case lHo => k_is)
    (case cHo => k_is)
    (case kHo => k_is)
    (case aFh => k_is)
    (case lFh => k_is)
    (case cFh => k_is)
    (case kFh => k_is)
    (case aRf => k_is)
    (case lRf => k_is)
    (case cRf => k_is)
    (case kRf => k_is)
    (case aRo => k_is)
    (case lRo => k_is)
    (case cRo => k_is)
    (case kRo => k_is)
    (case aIr => k_is)
    (case lIr => k_is)
    (case cIr => k_is)
    (case kIr => k_is)
    (case aOa => k_is)
    (case lOa => k_is)
    (case cOa => k_is)
    (case kOa => k_is)
    (case aCa => k_is)
    (case lCa => k_is)
    (case cCa => k_is)
    (case kCa => k_is)
    (case aLw => k_is)
    (case lLw => k_is)
    (case cLw => k_is)
    (case kLw => k_is)
    (case aMx => k_is)
    (case lMx => k_is)
    (case cMx => k_is)
    (case kMx => k_is)
    (case aLe => k_is)
    (case lLe => k_is)
    (case cLe => k_is)
    (case kLe => k_is)
    (case aPo => k_is)
    (case lPo => k_is)
    (case cPo => k_is)
    (case kPo => k_is)
    (case aSa => k_is)
    (case lSa => k_is)
    (case cSa => k_is)
    (case kSa => k_is)
    (case aSs => k_is)
    (case lSs => k_is)
    (case cSs => k_is)
    (case kSs => k_is)
    (case aCv => k_is)
    (case lCv => k_is)
    (case cCv => k_is)
    (case kCv => k_is)
    (case aLh => k_is)
    (case lLh => k_is)
    (case cLh => k_is)
    (case kLh => k_is)
    (case aIs => k_is)
    (case lIs => k_is)
    (case cIs => k_is)
    (case kIs => k_is)
    (case aSl => k_is)
    (case lSl => k_is)
    (case cSl => k_is)
    (case kSl => k_is)
    (case aMv => k_is)
    (case lMv => k_is)
    (case cMv => k_is)
    (case kMv => k_is)
    (case aRp => k_is)
    (case lRp => k_is)
    (case cRp => k_is)
    (case kRp => k_is)
    (case aEe => k_is)
    (case lEe => k_is)
    (case cEe => k_is)
    (case kEe => k_is)
    (case aC7 => k_is)
    (case lC7 => k_is)
    (case cC7 => k_is)
    (case kC7 => k_is)
    (case aLo => k_is)
    (case lLo => k_is)
    (case cLo => k_is)
    (case kLo => k_is)
    (case aM7 => k_is)
    (case lM7 => k_is)
    (case cM7 => k_is)
    (case kM7 => k_is)
    (case aNx => k_is)
    (case lNx => k_is)
    (case cNx => k_is)
    (case kNx => k_is)
    (case aDd => k_is)
    (case lDd => k_is)
    (case cDd => k_is)
    (case kDd => k_is)
    (case aOs => k_is)
    (case lOs => k_is)
    (case cOs => k_is)
    (case kOs => k_is)
    (case aZ => k_is)
    (case lZ => k_is)
    (case cZ => k_is)
    (case kZ => k_is)
    (case zlen => k_is)
    (case zisinstance => k_is)
    (case zint => k_is)
    (case zbool => k_is)
    (case ztuple => k_is)
    (case zrange => k_is)
    (case zmax => k_is)
    (case zmin => k_is)
    (case zlist => k_is)
    (case zsorted => k_is)
    (case zset => k_is)
    (case zall => k_is)
    (case ae0 => k_is)
    (case aeO => k_is)
    (case zMEMBERS_BELOW => k_is)
    (case zMOST_TICKS => k_is)
    (case zMOST_HOLES => k_is)
    (case zMOST_TIMES => k_is)
    (case hall => kernel_rfl!)

end PartK57z
