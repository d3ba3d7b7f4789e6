import PyProof.Rows.All
import Wide.All
import OpenK.AllK
import Wide.FinOn
import Lean
import PyProof.EqAt
import PyProof.EqKinds
import PyProof.TupleCall
import PyProof.ZipIter
import PyProof.WalksEnum
import PyProof.EnumMake
import PyProof.NeKinds
import KE.KDictList
import PyProof.Rows.SetFrom
import PyProof.StrWalks
import PyProof.CollectWalk
import PyProof.Rows.SortWalk
import PyProof.Rows.BitMore
import PyProof.Rows.IntCalls
import KE.KRevIter
import PyProof.SetRoads
import OpenK.KTop
import PyProof.Rows.StrWeight2
import PyProof.SumWalk
import PyProof.SliceList
import PyProof.StationsW
import PyProof.NsDelKeeps
import PyProof.SeqI3
import PyProof.IsRules
import PySem.Challenge.RW_windchest_k30_whole_board_and_walk
set_option genSizeOf false
set_option genSizeOfSpec false
theorem byC {p:Prop} (h:¬¬p):p:=Classical.byContradiction h
def ae:=@List.getElem?_eq_getElem
def ah:=@List.getElem?_eq_some_iff
def ai:=@List.length_map
def ar:=@List.getElem?_map
def av:=@List.length_append
def ax:=@List.getD_eq_getElem?_getD
def ay:=@List.mem_of_getElem?
def aE:=@Nat.le_refl
def aI:=@List.mem_map
def aS:=@List.mem_singleton
def aT:=@Int.toNat_natCast
def ba:=@List.mem_append
def bb:=@Option.map_eq_some_iff
def be:=@List.mem_append_right
def bg:=@Nat.lt_of_lt_of_le
def bi:=@List.mem_append_left
def bo:=@List.map_map
def bp:=@Nat.lt_of_le_of_lt
def bq:=@List.length_singleton
def br:=@List.map_append
def bt:=@List.filter_eq_self
def bv:=@List.length_cons
def bE:=@Nat.le_trans
def bX:=@PySem.boot_len
def cm:=@List.append_assoc
def cq:=@List.mem_filter
def cr:=@List.mem_map_of_mem
def cv:=@List.getElem?_append_right
def cy:=@List.size_toArray
def cE:=@PyProof.Rows.boot_isinstance
def cK:=@Nat.ne_of_lt
def cS:=@List.mem_cons_self
def de:=@PySem.F.plainAttrs_list
def df:=@List.mem_cons_of_mem
def dl:=@List.take_add_one
def dn:=@List.getElem?_zipIdx
def dt:=@List.length_filter_le
def dv:=@List.map_cons
def dE:=@List.filter_append
def dL:=@PySem.F.slot_list_append
def dQ:=@PySem.F.type_list_append
def dS:=@List.length_take
def ee:=@List.getElem_mem
def eh:=@List.mem_cons
def eI:=@List.take_append_drop
def eJ:=@List.getElem?_append_left
def eR:=@PyProof.Rows.boot_list
def eS:=@List.filter_map
def eT:=@Nat.lt_succ_self
def ff:=@List.append_nil
def fg:=@List.take_length
def fh:=@List.getElem?_of_mem
def fi:=@Bool.false_ne_true
def fk:=@Nat.succ_le_succ
def fm:=@Int.emod_lt_of_pos
def fo:=@List.sum_append
def fq:=@Nat.lt_irrefl
def ft:=@Option.isSome_iff_exists
def fv:=@List.getElem?_eq_none
def fw:=@Bool.eq_iff_iff
def fz:=@Bool.and_eq_true
def fA:=@List.length_range
def fE:=@List.mem_range
def fF:=@Bool.true_and
def fI:=@Int.emod_nonneg
def fN:=@List.all_eq_true
def fR:=@List.take_append_of_le_length
def fS:=@Nat.pow_le_pow_right
def fT:=@List.map_take
def ga:=@Nat.le_of_lt
def gc:=@List.ext_getElem?
def gd:=@List.nodup_append
def ge:=@Nat.not_lt_zero
def gg:=@List.take_of_length_le
def gi:=@List.cons_append
def gp:=@Bool.not_eq_true
def gt:=@PyProof.Rows.boot_int
def gu:=@Nat.zero_le
def gx:=@List.lookup_cons
def gy:=@List.any_eq_true
def gz:=@List.filter_cons
def gE:=@List.filter_eq_nil_iff
def gI:=@List.mem_filterMap
def gL:=@Nat.ne_of_gt
def gS:=@List.nodup_cons
def gT:=@List.map_nil
def gX:=@List.length_set
def hG:=@Nat.lt_succ_of_lt
def hU:=@List.sum_cons
def hV:=@List.reverse_cons
def hZ:=@List.mem_of_mem_take
def ia:=@Bool.false_and
def ib:=@Nat.lt_pow_two_of_testBit
def ic:=@List.drop_eq_getElem_cons
def ii:=@List.getLast?_eq_getElem?
def ij:=@List.length_drop
def im:=@Nat.mod_eq_of_lt
def io:=@Int.one_mul
def ip:=@List.zipIdx_append
def iq:=@Nat.add_sub_cancel_left
def ix:=@List.length_eq_zero_iff
def iA:=@Int.eq_ofNat_of_zero_le
def iE:=@PySem.F.slot_dict_getitem.lookup
def iF:=@List.take_sublist
def iL:=@Nat.testBit_or
def iN:=@List.length_replicate
def iO:=@Nat.sub_self
def iP:=@Nat.zero_add
def iS:=@PyProof.Rows.boot_all
def iX:=@PyProof.Rows.boot_any
def jp:=@List.mem_iff_getElem?
def jv:=@Nat.le_add_right
def jI:=@Nat.eq_of_testBit_eq
def jS:=@List.dropLast_concat
def kf:=@Nat.mul_le_mul_right
def kg:=@List.any_cons
def ki:=@Option.map_some
def ko:=@Bool.or_eq_true
def kq:=@List.map_congr_left
def kt:=@Nat.lt_two_pow_self
def ku:=@List.getElem?_range
def kx:=@Int.natCast_nonneg
def ky:=@List.length_zipIdx
def kz:=@Option.isSome_map
def kD:=@List.flatMap_cons
def kF:=@Nat.le_succ_of_le
def kG:=@List.map_id
def kH:=@List.getElem_map
def kK:=@List.flatMap_nil
def kL:=@List.not_mem_nil
def kN:=@Nat.lt_trans
def kQ:=@Nat.lt_or_ge
theorem kR {p q r:Prop} (h:p):(p∨q)∨r:=.inl (.inl h)
local macro_rules | `(tactic| omega) => `(tactic| lia)
set_option Elab.async false
set_option linter.all false
set_option maxRecDepth 100000
namespace L2
open PySem PySem.Spec PyProof.Rows
noncomputable abbrev Key:=Sum Int Str
noncomputable def J0:Key->Value->Bool
 | .inl k,v=>Value.isInt k v
 | .inr x,v=>Value.isStrOf x v
noncomputable def pI (w:World):Key->Int
 | .inl k=>hashInt k
 | .inr x=>hashStr w x
theorem CZ:∀ {k:Key} {v:Value},J0 k v=true->(∃ i t,k=Sum.inl i/\v=Value.int i t) \/ (∃ x t,k=Sum.inr x/\v=Value.str x t)
 | .inl i,v,h=>by
  obtain ⟨t,e⟩:=Value.isInt_shape (k:=i) (v:=v) h
  exact .inl ⟨i,t,rfl,e⟩
 | .inr x,v,h=>by
  obtain ⟨t,e⟩:=Value.isStrOf_shape (x:=x) (v:=v) h
  exact .inr ⟨x,t,rfl,e⟩
theorem Rr (i:Int) (t:Tok):J0 (.inl i) (.int i t)=true:=by simp [J0,Value.isInt]
theorem TQ (x:Str) (t:Tok):J0 (.inr x) (.str x t)=true:=by simp [J0,Value.isStrOf]
theorem Yy (a b:Int):decide ((Sum.inl a:Key)=Sum.inl b)=(a == b):=by
 by_cases e:a=b
 ·subst e; simp
 ·have h:¬ (Sum.inl a:Key)=Sum.inl b:=fun q=>e (Sum.inl.inj q)
  rw [decide_eq_false h]
  exact (beq_eq_false_iff_ne.mpr e).symm
theorem Zt (a b:Str):decide ((Sum.inr a:Key)=Sum.inr b)=decide (a=b):=by
 by_cases e:a=b
 ·subst e; simp
 ·have h:¬ (Sum.inr a:Key)=Sum.inr b:=fun q=>e (Sum.inr.inj q)
  rw [decide_eq_false h,decide_eq_false e]
theorem Yw (a:Int) (b:Str):decide ((Sum.inl a:Key)=Sum.inr b)=false:=decide_eq_false (fun q=>nomatch q)
theorem Y_ (a:Str) (b:Int):decide ((Sum.inr a:Key)=Sum.inl b)=false:=decide_eq_false (fun q=>nomatch q)
noncomputable def CG (prog:Program) (w:World):PySem.KeyKind prog w Key where
 is:=J0
 hash:=pI w
 inj:=fun v a b ha hb=>by
  rcases CZ ha with ⟨i,t,rfl,rfl⟩ | ⟨x,t,rfl,rfl⟩
  ·rcases CZ hb with ⟨j,u,rfl,e⟩ | ⟨y,u,rfl,e⟩
   ·injection e with e1 _; rw [e1]
   ·exact nomatch e
  ·rcases CZ hb with ⟨j,u,rfl,e⟩ | ⟨y,u,rfl,e⟩
   ·exact nomatch e
   ·injection e with e1 _; rw [e1]
 byValue:=fun k v h=>by
  rcases CZ h with ⟨i,t,rfl,rfl⟩ | ⟨x,t,rfl,rfl⟩ <;> rfl
 pyHash:=fun hv h=>by
  rcases CZ hv with ⟨i,t,rfl,rfl⟩ | ⟨x,t,rfl,rfl⟩
  ·exact wpAny_pyHash_int h
  ·exact wpAny_pyHash_str h
 eqBool:=fun hu hv h=>by
  rcases CZ hu with ⟨i,t,rfl,rfl⟩ | ⟨x,t,rfl,rfl⟩
  ·rcases CZ hv with ⟨j,u,rfl,rfl⟩ | ⟨y,u,rfl,rfl⟩
   ·rw [Yy] at h; exact wpAny_eqBool_int h
   ·rw [Yw] at h; exact SeqAt.EqAt.int_str i t y u _ _ _ _ h
  ·rcases CZ hv with ⟨j,u,rfl,rfl⟩ | ⟨y,u,rfl,rfl⟩
   ·rw [Y_] at h; exact SeqAt.EqAt.str_int x t j u _ _ _ _ h
   ·rw [Zt] at h; exact wpAny_eqBool_str h
 «strs»:=fun k x t v h=>by
  rcases CZ h with ⟨i,u,rfl,e⟩ | ⟨y,u,rfl,e⟩
  ·exact nomatch e
  ·injection e with e1 _
   subst e1
   cases v <;> rfl
theorem Ob (prog:Program) (w:World) (i:Int) (t:Tok):(CG prog w).is (.inl i) (.int i t)=true:=Rr i t
theorem OJ (prog:Program) (w:World) (x:Str) (t:Tok):(CG prog w).is (.inr x) (.str x t)=true:=TQ x t
end L2
namespace L2
open PySem PySem.Spec PyProof.Rows
inductive V where
 | non | bl (b:Bool) | int (i:Int) | str (x:Str) | byt (b:Array UInt8) | flt (b:UInt64) | ref (a:Addr) | ty (n:String)
 deriving DecidableEq
noncomputable def RelV:V->Value->Prop
 | .non,u=>u=Value.none
 | .bl b,u=>u=Value.bool b
 | .int i,u=>∃ t,u=Value.int i t
 | .str x,u=>∃ t,u=Value.str x t
 | .byt b,u=>∃ t,u=Value.bytes b t
 | .flt b,u=>∃ t,u=Value.float b t
 | .ref a,u=>u=Value.ref a
 | .ty n,u=>u=Value.type n
noncomputable abbrev Vals:List V->List Value->Prop:=Paired RelV
theorem Vals.length {xs:List V} {us:List Value} (r:Vals xs us):xs.length=us.length:=Paired.length r
theorem Vals.get:∀ {xs:List V} {us:List Value} {i:Nat} {x:V},Vals xs us->xs[i]? = some x->∃ u,us[i]? = some u/\RelV x u
 | _,_,_,_,.nil,e=>by simp at e
 | _,_,0,_,.cons r _,e=>by simp at e; subst e; exact ⟨_,rfl,r⟩
 | _,_,i+1,x,.cons _ t,e=>by
  obtain ⟨u,h1,h2⟩:=Vals.get (i:=i) (x:=x) t (by simpa using e)
  exact ⟨u,by simpa using h1,h2⟩
theorem Vals.set {x:V} {u:Value} (r:RelV x u):∀ {xs:List V} {us:List Value} (i:Nat),Vals xs us->Vals (xs.set i x) (us.set i u)
 | _,_,_,.nil=>.nil
 | _,_,0,.cons _ t=>.cons r t
 | _,_,i+1,.cons q t=>.cons q (Vals.set r i t)
theorem Vals.append:∀ {xs ys:List V} {us ws:List Value},Vals xs us->Vals ys ws->Vals (xs++ys) (us++ws)
 | _,_,_,_,.nil,s=>s
 | _,_,_,_,.cons r t,s=>.cons r (Vals.append t s)
theorem Vals.take:∀ {xs:List V} {us:List Value} (n:Nat),Vals xs us->Vals (xs.take n) (us.take n)
 | _,_,0,_=>.nil
 | _,_,_+1,.nil=>.nil
 | _,_,n+1,.cons r t=>.cons r (Vals.take n t)
theorem Vals.drop:∀ {xs:List V} {us:List Value} (n:Nat),Vals xs us->Vals (xs.drop n) (us.drop n)
 | _,_,0,r=>r
 | _,_,_+1,.nil=>.nil
 | _,_,n+1,.cons _ t=>Vals.drop n t
noncomputable def Hq:Option V->Option Value->Prop
 | some v,some u=>RelV v u
 | none,none=>True
 | _,_=>False
noncomputable def KV {κ:Type}:List (κ × V)->List (κ × Value)->Prop:=Paired fun (p:κ × V) (q:κ × Value)=>p.1=q.1/\RelV p.2 q.2
noncomputable def kV:Key->V
 | .inl i=>.int i
 | .inr x=>.str x
inductive HO where
 | lst (xs:List V)
 | tup (xs:List V)
 | dK (kvs:List (Key × V)) | dT (kvs:List (List Key × V))
 | set (S:Int->Bool) (n:Nat)
 | ins (C dx:Addr) (fs:List (Str × V))
 | own (x:Addr)
 | xd (fs:List (Str × V))
 | met (f x:Addr)
 | rng (lo hi:Int)
 | frz (o:Obj) (u:HO)
 | tbl (ps:Array Value)
 | ext (φ:Heap->Prop)
noncomputable abbrev Hp:=Addr->Option HO
noncomputable def upd (H:Hp) (a:Addr) (o:HO):Hp:=fun b=>if b=a then some o else H b
theorem Ah {H:Hp} {a:Addr} {o:HO}:upd H a o a=some o:=by unfold upd; rw [if_pos rfl]
theorem Ar {H:Hp} {a b:Addr} {o:HO} (h:b ≠ a):upd H a o b=H b:=by unfold upd; rw [if_neg h]
theorem YD {H:Hp} {a b:Addr} {o u:HO} (h:H a=some o) (h':H b=some u) (d:o ≠ u):a ≠ b:=by
 intro e; subst e; rw [h] at h'; exact d (Option.some.inj h')
theorem Ak {H:Hp} {a b:Addr} {o:HO} (h:H a=some o) (h':H b=none):a ≠ b:=by
 intro e; subst e; rw [h] at h'; cases h'
section
variable (P:Program) (w:World)
noncomputable def Ca (H:Hp) (h:Heap) (a:Addr):HO->Prop
 | .lst xs=>xs.length<=sizeLine/\∃ (its:List Value) (n:Nat),Vals xs its/\h.get? a=some { cls:=.type "list",data:=.seq its.toArray n }
 | .tup xs=>xs.length<=sizeLine/\∃ its:List Value,Vals xs its/\IsTup h a its.toArray
 | .dK kvs=>kvs.length<=sizeLine/\(a == sysModules)=false/\∃ vs,KV kvs vs/\h.DictOf (CG P w) a vs
 | .dT kvs=>kvs.length<=sizeLine/\(a == sysModules)=false/\∃ xs:List (List Key × Addr × Value),
   Paired (fun (p:List Key × V) (q:List Key × Addr × Value)=>p.1=q.1/\H q.2.1=some (.tup (p.1.map kV))/\RelV p.2 q.2.2) kvs xs /\
   ∃ o es ep,h.get? a=some o/\o.ExactDict/\o.data=.dict es ep/\es.toList=xs.map (entryOfKey (tupleKind (CG P w)))/\(xs.map (·.1)).Nodup
 | .set S n=>h.SetOf (intKind P w) a S n
 | .ins C dx fs=>H dx=some (.own a)/\fs.length<=1000/\dx ≠ a/\h.get? a=some (PySem.W.instObj C dx) /\
   ∃ mA,h.Ns1 dx mA/\(∀ f,Hq (fs.lookup f) (mA f))/\PySem.Within mA (fs.map (·.1))
 | .own _=>∃ o,h.get? a=some o
 | .xd fs=>∃ mA,h.Ns1 a mA/\∀ f,Hq (fs.lookup f) (mA f)
 | .rng lo hi=>∃ t u v,h.get? a=some { cls:=.type "range",data:=.fields #[.int lo t,.int hi u,.int 1 v] }
 | .frz o u=>h.get? a=some o/\Ca H h a u
 | .tbl ps=>h.get? a=some { cls:=.none,data:=.fields ps }
 | .met f x=>h.get? a=some (PySem.W.methodObj (.ref f) (.ref x))
 | .ext φ=>φ h/\(∃ o,h.get? a=some o)/\∀ h1 h2:Heap,φ h1->(∀ o,h1.get? a=some o->h2.get? a=some o)->φ h2
noncomputable def JC (H:Hp) (h:Heap):Prop:=∀ a o,H a=some o->Ca P w H h a o
end
section
variable {P:Program} {w:World} {H H':Hp} {h h':Heap} {a:Addr} {o:HO}
theorem Ca.lt (x:Ca P w H h a o):a<h.objs.size:=by
 cases o with
 | lst xs=>obtain ⟨_,_,_,_,e⟩:=x; exact Heap.lt_size e
 | tup xs=>obtain ⟨_,_,_,p⟩:=x; exact p.lt
 | dK kvs=>obtain ⟨_,_,_,_,o,_,_,e,_⟩:=x; exact Heap.lt_size e
 | dT kvs=>obtain ⟨_,_,_,_,o,_,_,e,_⟩:=x; exact Heap.lt_size e
 | set S n=>obtain ⟨o,_,_,_,e,_⟩:=x; exact Heap.lt_size e
 | ins C dx fs=>obtain ⟨_,_,_,e,_⟩:=x; exact Heap.lt_size e
 | own y=>obtain ⟨_,e⟩:=x; exact Heap.lt_size e
 | xd fs=>obtain ⟨_,⟨_,_,_,e,_⟩,_⟩:=x; exact Heap.lt_size e
 | rng lo hi=>obtain ⟨_,_,_,e⟩:=x; exact Heap.lt_size e
 | frz ob u=>obtain ⟨e,_⟩:=x; exact Heap.lt_size e
 | tbl ps=>exact Heap.lt_size (show h.get? a=some _ from x)
 | met f y=>exact Heap.lt_size (show h.get? a=some _ from x)
 | ext φ=>obtain ⟨_,⟨_,e⟩,_⟩:=x; exact Heap.lt_size e
theorem Paired.Fj {α β:Type} {F G:α->β->Prop}:∀ {l₁:List α} {l₂:List β},Paired F l₁ l₂->(∀ a b,F a b->G a b)->Paired G l₁ l₂
 | _,_,.nil,_=>.nil
 | _,_,.cons r t,f=>.cons (f _ _ r) (Paired.Fj t f)
theorem Ca.stay (x:Ca P w H h a o) (k:∀ b u,(b=a \/ H b=some (.own a))->h.get? b=some u->h'.get? b=some u)
  (ho:∀ b,H b=some (.own a)->H' b=some (.own a)) (ht:∀ b xs,H b=some (.tup xs)->H' b=some (.tup xs)):Ca P w H' h' a o:=by
 induction o with
 | lst xs=>obtain ⟨z,its,n,r,e⟩:=x; exact ⟨z,its,n,r,k _ _ (.inl rfl) e⟩
 | tup xs=>obtain ⟨z,its,r,ob,e,c⟩:=x; exact ⟨z,its,r,ob,k _ _ (.inl rfl) e,c⟩
 | dK kvs=>obtain ⟨z,y,vs,r,ob,es,ep,e,c⟩:=x; exact ⟨z,y,vs,r,ob,es,ep,k _ _ (.inl rfl) e,c⟩
 | dT kvs =>
  obtain ⟨z,y,xs,r,ob,es,ep,e,c⟩:=x
  exact ⟨z,y,xs,Paired.Fj r fun p q z=>⟨z.1,ht _ _ z.2.1,z.2.2⟩,ob,es,ep,k _ _ (.inl rfl) e,c⟩
 | set S n=>obtain ⟨ob,es,ep,t,e,c⟩:=x; exact ⟨ob,es,ep,t,k _ _ (.inl rfl) e,c⟩
 | ins C dx fs =>
  refine byC fun w_=>?_;obtain ⟨d,z,ne,e,mA,⟨od,es,ep,e2,c⟩,r⟩:=x;refine w_ ?_
  exact ⟨ho _ d,z,ne,k _ _ (.inl rfl) e,mA,⟨od,es,ep,k _ _ (.inr d) e2,c⟩,r⟩
 | own y=>obtain ⟨ob,e⟩:=x; exact ⟨ob,k _ _ (.inl rfl) e⟩
 | xd fs=>obtain ⟨mA,⟨od,es,ep,e,c⟩,r⟩:=x; exact ⟨mA,⟨od,es,ep,k _ _ (.inl rfl) e,c⟩,r⟩
 | rng lo hi=>obtain ⟨t,u,v,e⟩:=x; exact ⟨t,u,v,k _ _ (.inl rfl) e⟩
 | frz ob u ih=>obtain ⟨e,q⟩:=x; exact ⟨k _ _ (.inl rfl) e,ih q⟩
 | tbl ps =>
  have e:h.get? a=some { cls:=.none,data:=.fields ps }:=x
  show h'.get? a=some { cls:=.none,data:=.fields ps }
  exact k a _ (.inl rfl) e
 | met f y =>
  have e:h.get? a=some (PySem.W.methodObj (.ref f) (.ref y)):=x
  show h'.get? a=some (PySem.W.methodObj (.ref f) (.ref y))
  exact k a _ (.inl rfl) e
 | ext φ=>obtain ⟨p,⟨o,e⟩,st⟩:=x; exact ⟨st _ _ p fun o q=>k _ _ (.inl rfl) q,⟨o,k _ _ (.inl rfl) e⟩,st⟩
theorem JC.lt (x:JC P w H h) (e:H a=some o):a<h.objs.size:=(x a o e).lt
theorem JC.fresh (x:JC P w H h) (e:h.objs.size<=a):H a=none:=by
 cases q:H a with
 | none=>rfl
 | some u=>exact absurd (bg (x.lt q) e) (fq _)
theorem JC.kept (x:JC P w H h) (k:∀ b u,h.get? b=some u->h'.get? b=some u):JC P w H h':=fun a o e =>
 (x a o e).stay (fun b u _ q=>k b u q) (fun _ q=>q) fun _ _ q=>q
theorem JC.laid (x:JC P w H h) (k:∀ b u,h.get? b=some u->h'.get? b=some u) (hp:h.objs.size<=a) (new:Ca P w (upd H a o) h' a o):JC P w (upd H a o) h':=fun b u e=>by
 have hn:=x.fresh hp
 by_cases hb:b=a
 ·subst hb; rw [Ah] at e; cases e; exact new
 ·rw [Ar hb] at e
  exact (x b u e).stay (fun c v _ q=>k c v q) (fun c q=>by rw [Ar (Ak q hn)]; exact q) fun c xs q=>by rw [Ar (Ak q hn)]; exact q
end
noncomputable def Rd (H:Hp) (a:Addr) (u:HO):Prop:=H a=some u \/ ∃ o,H a=some (.frz o u)
theorem Rd.ok {P:Program} {w:World} {H:Hp} {h:Heap} {a:Addr} {u:HO} (r:Rd H a u) (x:JC P w H h):Ca P w H h a u:=by
 rcases r with r | ⟨o,r⟩
 ·exact x a u r
 ·obtain ⟨_,q⟩:=x a _ r
  exact q
noncomputable def cH:Option HO->Prop
 | some (.lst _)=>True
 | some (.dK _)=>True
 | some (.dT _)=>True
 | some (.set _ _)=>True
 | some (.ins _ _ _)=>True
 | some (.ext _)=>True
 | _=>False
section
variable {P:Program} {w:World} {H:Hp} {h h':Heap} {x e:Addr} {o':HO}
theorem JC.write (ok:JC P w H h) (mu:cH (H x)) (he:e=x \/ H e=some (.own x)) (k:∀ b u,b ≠ e->h.get? b=some u->h'.get? b=some u) (heo:∃ u,h'.get? e=some u)
  (new:Ca P w (upd H x o') h' x o'):JC P w (upd H x o') h':=fun b u q=>by
 have nown:∀ c y,H c=some (.own y)->c ≠ x:=fun c y r z=>by subst z; rw [r] at mu; exact mu
 have ntup:∀ c xs,H c=some (.tup xs)->c ≠ x:=fun c xs r z=>by subst z; rw [r] at mu; exact mu
 by_cases hb:b=x
 ·subst hb; rw [Ah] at q; cases q; exact new
 ·rw [Ar hb] at q
  by_cases hbe:b=e
  ·have q':H b=some (.own x):=by
    rcases he with z | z
    ·exact absurd (hbe.trans z) hb
    ·rw [hbe]; exact z
   rw [q] at q'; cases q'
   obtain ⟨v,hv⟩:=heo
   exact ⟨v,by rw [hbe]; exact hv⟩
  ·refine (ok b u q).stay (fun c v hc r=>k c v ?_ r) (fun c r=>by rw [Ar (nown c b r)]; exact r) fun c xs r=>by rw [Ar (ntup c xs r)]; exact r
   rcases hc with rfl | hc
   ·exact hbe
   ·rintro rfl
    rcases he with z | z
    ·exact nown c b hc z
    ·rw [hc] at z; cases z; exact hb rfl
end
structure Un (fs ex:List Addr) (H H':Hp) (h h':Heap):Prop where
 keep:∀ b o,h.get? b=some o->H b=none->b ∉ fs->b ∉ ex->h'.get? b=some o
 slot:∀ b o,h.get? b=some o->H b=none->b∈fs->b ∉ ex->∃ sl,h'.get? b=some { o with slots:=sl }
 free:∀ b o,h.get? b=some o->H b=none->b ∉ ex->H' b=none
 there:∀ b o,h.get? b=some o->b ∉ ex->∃ o',h'.get? b=some o'
 tups:∀ b xs,H b=some (.tup xs)->H' b=some (.tup xs)
 frzs:∀ b o u,H b=some (.frz o u)->H' b=some (.frz o u)
 tbls:∀ b ps,H b=some (.tbl ps)->∃ more,H' b=some (.tbl (ps++more))
section
variable {fs fs' ex ex':List Addr} {H H1 H2:Hp} {h h1 h2 h':Heap} {a x e:Addr} {o:HO}
theorem Un.any (u:Un fs ex H H1 h h1) {b:Addr} {ob:Obj} (q:h.get? b=some ob) (n:H b=none) (hx:b ∉ ex):∃ sl,h1.get? b=some { ob with slots:=sl }:=by
 by_cases hb:b∈fs
 ·exact u.slot b ob q n hb hx
 ·exact ⟨ob.slots,u.keep b ob q n hb hx⟩
theorem Un.kept (k:∀ b u,h.get? b=some u->h'.get? b=some u):Un fs ex H H h h' :=
 ⟨fun b ob q _ _ _=>k b ob q,fun b ob q _ _ _=>⟨ob.slots,k b ob q⟩,fun _ _ _ n _=>n,fun b ob q _=>⟨ob,k b ob q⟩,fun _ _ q=>q,fun _ _ _ q=>q,fun _ ps q=>⟨#[],by rw [q]; simp⟩⟩
theorem Un.refl:Un fs ex H H h h:=Un.kept fun _ _ q=>q
theorem Un.laid (k:∀ b u,h.get? b=some u->h'.get? b=some u) (hp:h.objs.size<=a) (hn:H a=none):Un fs ex H (upd H a o) h h' where
 keep:=fun b u q _ _ _=>k b u q
 slot:=fun b u q _ _ _=>⟨u.slots,k b u q⟩
 free:=fun b u q n _=>by rw [Ar (cK (bg (Heap.lt_size q) hp))]; exact n
 there:=fun b u q _=>⟨u,k b u q⟩
 tups:=fun b xs q=>by rw [Ar (Ak q hn)]; exact q
 frzs:=fun b u xs q=>by rw [Ar (Ak q hn)]; exact q
 tbls:=fun b ps q=>⟨#[],by rw [Ar (Ak q hn),q]; simp⟩
theorem Un.write (mu:cH (H x)) (he:e=x \/ H e=some (.own x)) (k:∀ b u,b ≠ e->h.get? b=some u->h'.get? b=some u) (heo:∃ u,h'.get? e=some u):Un fs ex H (upd H x o) h h':=by
 have hx:∀ b,H b=none->b ≠ x:=fun b n z=>by subst z; rw [n] at mu; exact mu
 have hb:∀ b,H b=none->b ≠ e:=fun b n z=>by
  subst z
  rcases he with r | r
  ·exact hx b n r
  ·rw [n] at r; cases r
 have hm:∀ b u,H b=some u->¬ cH (some u)->b ≠ x:=fun b u q nm z=>by subst z; rw [q] at mu; exact nm mu
 refine ⟨fun b u q n _ _=>k b u (hb b n) q,fun b u q n _ _=>⟨u.slots,k b u (hb b n) q⟩,fun b u q n _=>by rw [Ar (hx b n)]; exact n,fun b u q _=>?_,
  fun b xs q=>by rw [Ar (hm b _ q fun z=>z)]; exact q,fun b u xs q=>by rw [Ar (hm b _ q fun z=>z)]; exact q,fun b ps q=>⟨#[],by rw [Ar (hm b _ q fun z=>z),q]; simp⟩⟩
 by_cases hbe:b=e
 ·subst hbe; exact heo
 ·exact ⟨u,k b u hbe q⟩
end
noncomputable def jW (h:Heap) (H:Hp):List Addr:=(List.range h.objs.size).filter fun a=>(H a).isSome
noncomputable def Mq (h:Heap) (H:Hp):Heap:=PySem.W.hideAll h (jW h H)
theorem Tu (h:Heap) (H:Hp):(Mq h H).objs.size=h.objs.size:=PySem.W.hideAll_size _ _
theorem Vn {h:Heap} {H:Hp} {b:Addr} {o:Obj} (e:h.get? b=some o) (n:H b=none):(Mq h H).get? b=some o :=
 PySem.W.hideAll_get _ e fun hm=>by
  have q:(H b).isSome=true:=(cq.mp hm).2
  rw [n] at q; simp at q
theorem Xc {h:Heap} {H:Hp} {b:Addr} {o:Obj} (e:(Mq h H).get? b=some o):h.get? b=some o/\H b=none:=by
 have e':h.get? b=some o:=PySem.W.of_hideAll (jW h H) e
 refine ⟨e',?_⟩
 cases q:H b with
 | none=>rfl
 | some x =>
  have hm:b∈jW h H:=List.mem_filter.mpr ⟨List.mem_range.mpr (Heap.lt_size e'),by simp [q]⟩
  have z:(Mq h H).get? b=none:=PySem.W.hideAll_none (jW h H) hm
  rw [z] at e; cases e
noncomputable def Wc (g h:Heap) (L:Addr):List (Addr × Obj):=(List.range h.objs.size).filterMap fun a=>if a=L \/ (g.get? a).isSome=true then none else (h.get? a).map fun o=>(a,o)
noncomputable def rest (g h:Heap) (L d:Addr):List (Addr × Obj):=(Wc g h L).filter fun p=>decide (p.1 ≠ d)
end L2
namespace L2
open PySem PySem.Spec PyProof.Rows
structure Mod (K:PySem.W.Frag) (mg:Str->Option Value) (base:Heap):Prop where
 kin:K.In base
 glob:base.Ns mainGlobals mg
 blt:∃ mb,base.Ns builtinsNs mb/\∀ x:Str,x ≠ "__name__"->mb x=bootBuiltins x
 nolimit:base.NoLimit
set_option genInjectivity false in
structure Cx where
 prog:Program
 w:World
 K:PySem.W.Frag
 mg:Str->Option Value
 base:Heap
 A:Around
 N:List Str
 s₀:Shared
 H₀:Hp
 env:Env
 outer:List Env
 stack:List Env
 ex:List Addr
 fn:Str->Bool
 calm:Bool
 pn:List (Addr × Obj)
 xe:Value->Shared->Prop
noncomputable def frs (l:List Env):List Addr:=l.filterMap (·.frame)
noncomputable abbrev Cx.fs (X:Cx):List Addr:=frs X.outer
noncomputable def pW (sc:Scope) (x:Str):Prop:=sc.names.lookup x=some .local \/ sc.names.lookup x=some .cell \/ sc.names.lookup x=some .free
noncomputable def Loc (sc:Scope) (x:Str):Prop:=sc.names.lookup x=some .local \/ sc.names.lookup x=some .cell
noncomputable def Look (env:Env) (h:Heap) (m:Str->Option Value) (x:Str) (u:Value):Prop :=
 (env.kindOf x=some .local/\m x=some u) \/ ((env.kindOf x=some .cell \/ env.kindOf x=some .free)/\∃ c,env.cells.lookup x=some c/\h.IsCell c (some u))
structure Cx.Ok (X:Cx):Prop where
 mod:Mod X.K X.mg X.base
 kind:X.env.scope.kind=.function
 glob:X.env.globals=mainGlobals
 blt:X.env.builtins=builtinsNs
 above:X.s₀.heap.objs.size<=X.env.locals
 inj:∀ x y c,X.env.cells.lookup x=some c->X.env.cells.lookup y=some c->x=y
 has:∀ x,(X.env.kindOf x=some .cell \/ X.env.kindOf x=some .free)->∃ c,X.env.cells.lookup x=some c
 cab:∀ x c,X.fn x=true->X.env.cells.lookup x=some c->X.s₀.heap.objs.size<=c
 hd:X.calm=true->X.A.handled=none
 frames:X.A.frames=some X.stack
 stk:X.stack=X.outer \/ (X.stack=X.env::X.outer/\X.env.frame=some X.env.locals)
 exf:∀ b∈X.ex,b ≠ X.env.locals/\∀ x c,X.env.cells.lookup x=some c->c ≠ b
 bs:∀ b o,X.base.get? b=some o->X.s₀.heap.get? b=some o/\X.H₀ b=none
 bsz:X.base.objs.size<=X.s₀.heap.objs.size
 noex:∀ b o,X.base.get? b=some o->b ∉ X.ex
 exfs:∀ b∈X.ex,b ∉ X.fs
 J6:X.s₀.heap.FunFrames X.base X.outer
 frf:∀ b∈X.fs,X.H₀ b=none
structure Inv (X:Cx) (pins:List (Addr × Obj)) (σ:List (Option V)) (H:Hp) (s:Shared):Prop where
 ok:X.Ok
 os:s.os=X.s₀.os
 bare:AllBare s.gens
 base:Un X.fs X.ex X.H₀ H X.s₀.heap s.heap
 loc:∃ m,s.heap.Ns X.env.locals m/\∀ (i:Nat) (x:Str) (v:V),X.N[i]? = some x->σ[i]? = some (some v)->pW X.env.scope x->∃ u,RelV v u/\Look X.env s.heap m x u
 cell:∀ x c,X.env.cells.lookup x=some c->∃ v,s.heap.IsCell c v
 free:H X.env.locals=none
 freeC:∀ x c,X.env.cells.lookup x=some c->H c=none
 pin:∀ p∈X.pn++pins,s.heap.get? p.1=some p.2/\H p.1=none/\p.1 ≠ X.env.locals/\p.1 ∉ X.fs/\∀ v,p.2.data ≠ .cell v
 hok:JC X.prog X.w H s.heap
 len:σ.length=X.N.length
section
variable {X:Cx} {pins:List (Addr × Obj)} {σ:List (Option V)} {H H':Hp} {s:Shared} {h':Heap}
theorem Cx.Ok.lM (ok:X.Ok) {b:Addr} {o:Obj} (e:X.base.get? b=some o):b ∉ X.fs:=fun hb=>by
 have:=(ok.J6.mem hb).1
 rw [e] at this; cases this
theorem Inv.bs (I:Inv X pins σ H s):∀ b o,X.base.get? b=some o->s.heap.get? b=some o/\H b=none:=fun b o e =>
 ⟨I.base.keep b o (I.ok.bs b o e).1 (I.ok.bs b o e).2 (I.ok.lM e) (I.ok.noex b o e),I.base.free b o (I.ok.bs b o e).1 (I.ok.bs b o e).2 (I.ok.noex b o e)⟩
theorem Inv.bk (I:Inv X pins σ H s):∀ b o,X.base.get? b=some o->s.heap.get? b=some o:=fun b o e=>(I.bs b o e).1
theorem Inv.mod (I:Inv X pins σ H s):Mod X.K X.mg X.base:=I.ok.mod
theorem Inv.Jc (I:Inv X pins σ H s):X.K.In s.heap:=I.ok.mod.kin.keeps I.bk
theorem Inv.lt (I:Inv X pins σ H s):X.env.locals<s.heap.objs.size:=let ⟨_,hn,_⟩:=I.loc; hn.lt
theorem Inv.sz (I:Inv X pins σ H s):X.s₀.heap.objs.size<=s.heap.objs.size:=bE I.ok.above (ga I.lt)
theorem Inv.nF (I:Inv X pins σ H s) {a:Addr} (h:s.heap.objs.size<=a):a ∉ X.fs:=fun hb=>by
 obtain ⟨_,o,ho,_⟩:=I.ok.J6.mem hb
 exact absurd (bg (Heap.lt_size ho) (bE I.sz h)) (fq _)
theorem Inv.Zv (I:Inv X pins σ H s):∀ x c,X.env.cells.lookup x=some c->c ≠ X.env.locals:=fun x c e z=>by
 obtain ⟨v,o,ho,hd⟩:=I.cell x c e
 obtain ⟨m,⟨o',es,ep,ho',hd',_⟩,_⟩:=I.loc
 rw [z,ho'] at ho; cases ho; rw [hd'] at hd; cases hd
theorem Inv.J6 (I:Inv X pins σ H s):s.heap.FunFrames X.base X.outer:=by
 have all:∀ (l:List Env),(∀ b∈frs l,b∈X.fs)->X.s₀.heap.FunFrames X.base l->s.heap.FunFrames X.base l:=by
  intro l
  induction l with
  | nil=>intro _ _; trivial
  | cons env r ih =>
   intro hs hl
   obtain ⟨hk,⟨L,o,hf,hn,ho,hd⟩,hr⟩:=hl
   have hL:L∈X.fs:=hs L (by unfold frs; rw [List.filterMap_cons,hf]; exact List.mem_cons_self)
   obtain ⟨sl,e⟩:=I.base.slot L o ho (I.ok.frf L hL) hL fun z=>I.ok.exfs L z hL
   exact ⟨hk,⟨L,_,hf,hn,e,hd⟩,ih (fun b hb=>hs b (by unfold frs; rw [List.filterMap_cons,hf]; exact List.mem_cons_of_mem _ hb)) hr⟩
 exact all X.outer (fun _ hb=>hb) I.ok.J6
theorem Inv.stack (I:Inv X pins σ H s):s.heap.FunFrames X.base X.stack:=by
 rcases I.ok.stk with e | ⟨e,hf⟩
 ·rw [e]; exact I.J6
 ·rw [e]
  obtain ⟨m,hn,_⟩:=I.loc
  refine .cons (by rw [I.ok.kind]; decide) hf hn ?_ I.J6
  exact Heap.get?_none_of_le (bE I.ok.bsz I.ok.above)
theorem Inv.Ng (I:Inv X pins σ H s):∀ b∈frs X.stack,b∈X.env.locals::X.fs:=fun b hb=>by
 rcases I.ok.stk with e | ⟨e,hf⟩
 ·rw [e] at hb; exact df _ hb
 ·rw [e] at hb
  unfold frs at hb
  rw [List.filterMap_cons,hf] at hb
  exact hb
theorem Inv.NT (I:Inv X pins σ H s):∀ b∈frs X.stack,H b=none:=fun b hb=>by
 rcases eh.mp (I.Ng b hb) with e | hb
 ·rw [e]; exact I.free
 ·obtain ⟨_,o,ho,_⟩:=I.ok.J6.mem hb
  exact I.base.free b o ho (I.ok.frf b hb) fun z=>I.ok.exfs b z hb
theorem Inv.step {g':Array GenState} {t':Nat} {d':Drawn} {ch:List Addr} (I:Inv X pins σ H s)
  (hch:∀ b∈ch,(b∈X.ex \/ X.s₀.heap.objs.size<=b)/\b ≠ X.env.locals/\(∀ x c,X.env.cells.lookup x=some c->c ≠ b)/\∀ p∈X.pn++pins,p.1 ≠ b)
  (keep:∀ b o,b ≠ X.env.locals->b ∉ X.fs->b ∉ ch->s.heap.get? b=some o->H b=none->h'.get? b=some o)
  (slot:∀ b o,b ≠ X.env.locals->b∈X.fs->b ∉ ch->s.heap.get? b=some o->H b=none->∃ sl,h'.get? b=some { o with slots:=sl }) (free:∀ b o,b ∉ ch->s.heap.get? b=some o->H b=none->H' b=none)
  (there:∀ b o,b ∉ ch->s.heap.get? b=some o->∃ o',h'.get? b=some o')
  (tups:∀ b xs,H b=some (.tup xs)->H' b=some (.tup xs)) (frzs:∀ b o u,H b=some (.frz o u)->H' b=some (.frz o u)) (tbls:∀ b ps,H b=some (.tbl ps)->∃ more,H' b=some (.tbl (ps++more)))
  (ns:∀ m,s.heap.Ns X.env.locals m->h'.Ns X.env.locals m) (hok:JC X.prog X.w H' h') (hg:AllBare g') :
  Inv X pins σ H' { s with heap:=h',gens:=g',drawn:=d',toks:=t' }:=by
 have neL:∀ b o,X.s₀.heap.get? b=some o->b ≠ X.env.locals:=fun b o e=>cK (bg (Heap.lt_size e) I.ok.above)
 have neC:∀ b o,X.s₀.heap.get? b=some o->b ∉ X.ex->b ∉ ch:=fun b o e hx hb=>by
  rcases (hch b hb).1 with z | z
  ·exact hx z
  ·exact absurd (bg (Heap.lt_size e) z) (fq _)
 have cellK:∀ x c,X.env.cells.lookup x=some c->∀ v,s.heap.IsCell c v->h'.IsCell c v:=fun x c e v ⟨o,ho,hd⟩=>by
  have nch:c ∉ ch:=fun z=>(hch c z).2.2.1 x c e rfl
  by_cases hc:c∈X.fs
  ·obtain ⟨sl,q⟩:=slot c o (I.Zv x c e) hc nch ho (I.freeC x c e)
   exact ⟨_,q,hd⟩
  ·exact ⟨o,keep c o (I.Zv x c e) hc nch ho (I.freeC x c e),hd⟩
 refine ⟨I.ok,I.os,hg,⟨fun b o e n hb hx=>?_,fun b o e n hb hx=>?_,fun b o e n hx=>?_,fun b o e hx=>?_,fun b xs e=>tups b xs (I.base.tups b xs e),fun b o xs e=>frzs b o xs (I.base.frzs b o xs e),fun b ps e=>?_⟩,?_,fun x c e=>?_,?_,fun x c e=>?_,fun p hp=>?_,hok,I.len⟩
 ·exact keep b o (neL b o e) hb (neC b o e hx) (I.base.keep b o e n hb hx) (I.base.free b o e n hx)
 ·obtain ⟨sl,e1⟩:=I.base.slot b o e n hb hx
  obtain ⟨sl',e2⟩:=slot b _ (neL b o e) hb (neC b o e hx) e1 (I.base.free b o e n hx)
  exact ⟨sl',e2⟩
 ·obtain ⟨o',e1⟩:=I.base.there b o e hx
  exact free b o' (neC b o e hx) e1 (I.base.free b o e n hx)
 ·obtain ⟨o',e1⟩:=I.base.there b o e hx
  exact there b o' (neC b o e hx) e1
 ·obtain ⟨m1,e1⟩:=I.base.tbls b ps e
  obtain ⟨m2,e2⟩:=tbls b _ e1
  exact ⟨m1++m2,by rw [e2,Array.append_assoc]⟩
 ·obtain ⟨m,hn,hl⟩:=I.loc
  refine ⟨m,ns m hn,fun i x v e1 e2 e3=>?_⟩
  obtain ⟨u,r,l⟩:=hl i x v e1 e2 e3
  refine ⟨u,r,?_⟩
  rcases l with l | ⟨k,c,e,z⟩
  ·exact .inl l
  ·exact .inr ⟨k,c,e,cellK x c e _ z⟩
 ·obtain ⟨v,z⟩:=I.cell x c e
  exact ⟨v,cellK x c e v z⟩
 ·obtain ⟨m,⟨o,_,_,ho,_⟩,_⟩:=I.loc
  exact free _ o (fun z=>(hch _ z).2.1 rfl) ho I.free
 ·obtain ⟨v,o,ho,hd⟩:=I.cell x c e
  exact free c o (fun z=>(hch c z).2.2.1 x c e rfl) ho (I.freeC x c e)
 ·obtain ⟨e,n,ne,nf,d⟩:=I.pin p hp
  have nch:p.1 ∉ ch:=fun z=>(hch p.1 z).2.2.2 p hp rfl
  exact ⟨keep p.1 p.2 ne nf nch e n,free p.1 p.2 nch e n,ne,nf,d⟩
theorem Inv.un {t':Nat} (I:Inv X pins σ H s) (u:Un X.fs [] H H' s.heap h') (hok:JC X.prog X.w H' h'):Inv X pins σ H' { s with heap:=h',toks:=t' }:=by
 obtain ⟨m,⟨o,es,ep,ho,r⟩,_⟩:=id I.loc
 obtain ⟨sl,hL⟩:=u.any ho I.free (by simp)
 exact I.step (g':=s.gens) (d':=s.drawn) (ch:=[]) (fun _ z=>nomatch z) (fun b o _ hb _ e n=>u.keep b o e n hb (by simp)) (fun b o _ hb _ e n=>u.slot b o e n hb (by simp)) (fun b o _ e n=>u.free b o e n (by simp)) (fun b o _ e=>u.there b o e (by simp)) u.tups u.frzs u.tbls (fun m' hm=>by
  obtain ⟨o',es',ep',ho',r'⟩:=hm
  rw [ho] at ho'; cases ho'
  exact ⟨_,es',ep',hL,r'⟩) hok I.bare
theorem Inv.call {g':Array GenState} {t':Nat} {d':Drawn} {ch:List Addr} (I:Inv X pins σ H s) (u:Un (frs X.stack) ch H H' s.heap h') (hok:JC X.prog X.w H' h') (hg:AllBare g')
  (hch:∀ b∈ch,(b∈X.ex \/ X.s₀.heap.objs.size<=b)/\b ≠ X.env.locals/\(∀ x c,X.env.cells.lookup x=some c->c ≠ b)/\∀ p∈X.pn++pins,p.1 ≠ b) :
  Inv X pins σ H' { s with heap:=h',gens:=g',drawn:=d',toks:=t' }:=by
 obtain ⟨m,⟨o,es,ep,ho,r⟩,_⟩:=id I.loc
 obtain ⟨sl,hL⟩:=u.any ho I.free fun z=>(hch _ z).2.1 rfl
 exact I.step (ch:=ch) hch (fun b o hL hb hc e n=>u.keep b o e n (fun z=>(eh.mp (I.Ng b z)).elim hL hb) hc) (fun b o _ _ hc e n=>u.any e n hc) (fun b o hc e n=>u.free b o e n hc) (fun b o hc e=>u.there b o e hc) u.tups u.frzs u.tbls (fun m' hm=>by
  obtain ⟨o',es',ep',ho',r'⟩:=hm
  rw [ho] at ho'; cases ho'
  exact ⟨_,es',ep',hL,r'⟩) hok hg
theorem Inv.turned {t':Nat} {it:Addr} (I:Inv X pins σ H s) (k:∀ b o,b ≠ it->s.heap.get? b=some o->h'.get? b=some o) (hn:H it=none) (hL:it ≠ X.env.locals)
  (h1:it∈X.ex \/ X.s₀.heap.objs.size<=it) (h2:∀ x c,X.env.cells.lookup x=some c->c ≠ it) (h3:∀ p∈X.pn++pins,p.1 ≠ it):Inv X pins σ H { s with heap:=h',toks:=t' }:=by
 have nit:∀ b u,H b=some u->b ≠ it:=fun b u e z=>by rw [z,hn] at e; cases e
 refine I.step (g':=s.gens) (d':=s.drawn) (ch:=[it]) (fun b hb=>?_) (fun b o _ _ hc e _=>k b o (fun z=>hc (by simp [z])) e) (fun b o _ _ hc e _=>⟨o.slots,k b o (fun z=>hc (by simp [z])) e⟩) (fun _ _ _ _ n=>n)
  (fun b o hc e=>⟨o,k b o (fun z=>hc (by simp [z])) e⟩) (fun _ _ e=>e) (fun _ _ _ e=>e) (fun b ps e=>⟨#[],by rw [e]; simp⟩) (fun m hm=>?_) (fun b u e=>?_) I.bare
 ·have e:b=it:=by simpa using hb
  subst e
  exact ⟨h1,hL,h2,h3⟩
 ·obtain ⟨o,es,ep,ho,r⟩:=hm
  exact ⟨o,es,ep,k _ o (Ne.symm hL) ho,r⟩
 ·refine (I.hok b u e).stay (fun c v hc q=>k c v ?_ q) (fun _ q=>q) fun _ _ q=>q
  rcases hc with z | z
  ·rw [z]; exact nit b u e
  ·exact nit c _ z
theorem Inv.tok (I:Inv X pins σ H s) (t:Nat):Inv X pins σ H { s with toks:=t }:=I.un (h':=s.heap) (t':=t) Un.refl I.hok
theorem Inv.kept {t':Nat} (I:Inv X pins σ H s) (k:∀ b u,s.heap.get? b=some u->h'.get? b=some u):Inv X pins σ H { s with heap:=h',toks:=t' }:=I.un (Un.kept k) (I.hok.kept k)
theorem Inv.laid {a:Addr} {o:HO} {t':Nat} (I:Inv X pins σ H s) (k:∀ b u,s.heap.get? b=some u->h'.get? b=some u) (hp:s.heap.objs.size<=a) (new:Ca X.prog X.w (upd H a o) h' a o) :
  Inv X pins σ (upd H a o) { s with heap:=h',toks:=t' }:=I.un (Un.laid k hp (I.hok.fresh hp)) (I.hok.laid k hp new)
theorem Inv.write {x e:Addr} {o:HO} {t':Nat} (I:Inv X pins σ H s) (mu:cH (H x)) (he:e=x \/ H e=some (.own x)) (k:∀ b u,b ≠ e->s.heap.get? b=some u->h'.get? b=some u) (heo:∃ u,h'.get? e=some u)
  (new:Ca X.prog X.w (upd H x o) h' x o):Inv X pins σ (upd H x o) { s with heap:=h',toks:=t' }:=I.un (Un.write mu he k heo) (I.hok.write mu he k heo new)
theorem Inv.Qy {pins':List (Addr × Obj)} (I:Inv X pins σ H s) (h:∀ p∈pins',s.heap.get? p.1=some p.2/\H p.1=none/\p.1 ≠ X.env.locals/\p.1 ∉ X.fs/\∀ v,p.2.data ≠ .cell v):Inv X pins' σ H s :=
 ⟨I.ok,I.os,I.bare,I.base,I.loc,I.cell,I.free,I.freeC,fun p hp=>(ba.mp hp).elim (fun z=>I.pin p (bi _ z)) (h p),I.hok,I.len⟩
theorem N6 {N:List Str} (hN:N.Nodup) {i j:Nat} {x:Str} (a:N[i]? = some x) (b:N[j]? = some x):i=j:=by
 obtain ⟨h1,e1⟩:=ah.mp a
 obtain ⟨h2,e2⟩:=ah.mp b
 exact (List.getElem_inj hN).mp (e1.trans e2.symm)
theorem Lx {M:Model} {A:Around} {E:Value->Shared->Prop} {i:Nat} {x:Str} {v:V} {u:Value} {Q:Unit->Shared->Prop} (I:Inv X pins σ H s) (hN:X.N.Nodup) (hi:X.N[i]? = some x) (hx:Loc X.env.scope x) (r:RelV v u)
  (h:∀ s',Inv X pins (σ.set i (some v)) H s'->(∃ a,Heap.SameBut a s.heap s'.heap/\(a=X.env.locals \/ X.env.cells.lookup x=some a))->Q () s') (hf:X.fn x=true \/ X.env.scope.names.lookup x=some .local:=by first | exact .inl rfl | exact .inr rfl | assumption):wpAny M A (storeName X.env x u) Q E s:=by
 obtain ⟨m,hn,hl⟩:=id I.loc
 have hcls:(X.env.scope.kind == .class || (X.env.scope.kind == .module && X.env.locals != X.env.globals))=false:=by rw [I.ok.kind]; rfl
 have hiσ:i<σ.length:=by rw [I.len]; exact (ah.mp hi).1
 have Zv:=I.Zv
 have tracked:∀ {a:Addr} {h':Heap},(∃ o,s.heap.get? a=some o/\H a=none)->Heap.SameBut a s.heap h'->JC X.prog X.w H h':=fun {a h'} ha hs b ob e=>by
  obtain ⟨_,_,hfree⟩:=ha
  refine (I.hok b ob e).stay (fun c w' hc q=>(hs.2 c ?_).trans q) (fun _ q=>q) fun _ _ q=>q
  rintro rfl
  rcases hc with rfl | hc
  ·rw [hfree] at e; cases e
  ·rw [hfree] at hc; cases hc
 rcases hx with hk | hk
 ·refine wpAny_storeName_local hk hn (fun h' hn' hs=>?_) hcls
  obtain ⟨oL,_,_,hoL,_⟩:=id hn
  refine h _ ⟨I.ok,I.os,I.bare,⟨fun b o e n hb hx=>?_,fun b o e n hb hx=>?_,I.base.free,fun b o e hx=>?_,I.base.tups,I.base.frzs,I.base.tbls⟩,⟨_,hn',fun j y v' e1 e2 e3=>?_⟩,fun y c e=>?_,I.free,I.freeC,fun p hp=>?_,tracked ⟨oL,hoL,I.free⟩ hs,by simpa using I.len⟩ ⟨_,hs,.inl rfl⟩
  ·exact (hs.2 b (cK (bg (Heap.lt_size e) I.ok.above))).trans (I.base.keep b o e n hb hx)
  ·obtain ⟨sl,e1⟩:=I.base.slot b o e n hb hx
   exact ⟨sl,(hs.2 b (cK (bg (Heap.lt_size e) I.ok.above))).trans e1⟩
  ·obtain ⟨o',e1⟩:=I.base.there b o e hx
   exact ⟨o',(hs.2 b (cK (bg (Heap.lt_size e) I.ok.above))).trans e1⟩
  ·by_cases hj:j=i
   ·subst hj
    rw [hi] at e1; cases e1
    rw [List.getElem?_set_self hiσ] at e2
    cases e2
    exact ⟨u,r,.inl ⟨hk,by simp⟩⟩
   ·rw [List.getElem?_set_ne (Ne.symm hj)] at e2
    obtain ⟨u',r',q⟩:=hl j y v' e1 e2 e3
    refine ⟨u',r',?_⟩
    rcases q with ⟨k,e⟩ | ⟨k,c,e,z⟩
    ·refine .inl ⟨k,?_⟩
     have:y ≠ x:=fun e=>hj (N6 hN e1 (e ▸ hi))
     simp [this,e]
    ·exact .inr ⟨k,c,e,z.sameBut hs (Zv y c e)⟩
  ·obtain ⟨w',z⟩:=I.cell y c e
   exact ⟨w',z.sameBut hs (Zv y c e)⟩
  ·obtain ⟨e,n,ne,nf,d⟩:=I.pin p hp
   exact ⟨(hs.2 p.1 ne).trans e,n,ne,nf,d⟩
 ·have hfn:X.fn x=true:=by
   rcases hf with z | z
   ·exact z
   ·rw [z] at hk; cases hk
  obtain ⟨c,hc⟩:=I.ok.has x (.inl hk)
  obtain ⟨w',z⟩:=I.cell x c hc
  refine wpAny_storeName_cell I.ok.kind hk hc z (fun h' hc' hs=>?_)
  obtain ⟨oc,hoc,hocd⟩:=id z
  refine h { s with heap:=h' } ⟨I.ok,I.os,I.bare,⟨fun b o e n hb hx=>?_,fun b o e n hb hx=>?_,I.base.free,fun b o e hx=>?_,I.base.tups,I.base.frzs,I.base.tbls⟩,⟨m,hn.sameBut hs (Ne.symm (Zv x c hc)),fun j y v' e1 e2 e3=>?_⟩,fun y c' e=>?_,I.free,I.freeC,fun p hp=>?_,tracked ⟨oc,hoc,I.freeC x c hc⟩ hs,by simpa using I.len⟩ ⟨c,hs,.inr hc⟩
  ·exact (hs.2 b (cK (bg (Heap.lt_size e) (I.ok.cab x c hfn hc)))).trans (I.base.keep b o e n hb hx)
  ·obtain ⟨sl,e1⟩:=I.base.slot b o e n hb hx
   exact ⟨sl,(hs.2 b (cK (bg (Heap.lt_size e) (I.ok.cab x c hfn hc)))).trans e1⟩
  ·obtain ⟨o',e1⟩:=I.base.there b o e hx
   exact ⟨o',(hs.2 b (cK (bg (Heap.lt_size e) (I.ok.cab x c hfn hc)))).trans e1⟩
  ·by_cases hj:j=i
   ·subst hj
    rw [hi] at e1; cases e1
    rw [List.getElem?_set_self hiσ] at e2
    cases e2
    exact ⟨u,r,.inr ⟨.inl hk,c,hc,hc'⟩⟩
   ·rw [List.getElem?_set_ne (Ne.symm hj)] at e2
    obtain ⟨u',r',q⟩:=hl j y v' e1 e2 e3
    refine ⟨u',r',?_⟩
    rcases q with q | ⟨k,c',e,z'⟩
    ·exact .inl q
    ·refine .inr ⟨k,c',e,z'.sameBut hs ?_⟩
     rintro rfl
     exact hj (N6 hN e1 (I.ok.inj _ _ _ e hc ▸ hi))
  ·by_cases hcc:c'=c
   ·subst hcc; exact ⟨_,hc'⟩
   ·obtain ⟨w2,z2⟩:=I.cell y c' e
    exact ⟨w2,z2.sameBut hs hcc⟩
  ·obtain ⟨e,n,ne,nf,d⟩:=I.pin p hp
   refine ⟨(hs.2 p.1 ?_).trans e,n,ne,nf,d⟩
   intro q
   rw [q,hoc] at e
   have q':oc=p.2:=Option.some.inj e
   exact d w' (by rw [← q']; exact hocd)
theorem Kg {M:Model} {A:Around} {E:Value->Shared->Prop} {i:Nat} {x:Str} {v:V} {u:Value} {Q:Unit->Shared->Prop} (I:Inv X pins σ H s) (hN:X.N.Nodup) (hi:X.N[i]? = some x) (hx:Loc X.env.scope x) (r:RelV v u)
  (h:∀ s',Inv X pins (σ.set i (some v)) H s'->Q () s') (hf:X.fn x=true \/ X.env.scope.names.lookup x=some .local:=by first | exact .inl rfl | exact .inr rfl | assumption):wpAny M A (storeName X.env x u) Q E s :=
 Lx I hN hi hx r (fun s' I' _=>h s' I') hf
theorem Inv.call' {s':Shared} {ch:List Addr} (I:Inv X pins σ H s) (ho:s'.os=s.os) (u:Un (frs X.stack) ch H H' s.heap s'.heap) (hok:JC X.prog X.w H' s'.heap) (hg:AllBare s'.gens)
  (hch:∀ b∈ch,(b∈X.ex \/ X.s₀.heap.objs.size<=b)/\b ≠ X.env.locals/\(∀ x c,X.env.cells.lookup x=some c->c ≠ b)/\∀ p∈X.pn++pins,p.1 ≠ b):Inv X pins σ H' s':=by
 obtain ⟨h',g',d',t',o'⟩:=s'
 have e:o'=s.os:=ho
 subst e
 exact I.call (g':=g') (t':=t') (d':=d') u hok hg hch
end
noncomputable abbrev XK:=Value->Option Addr->Hp->Prop
noncomputable abbrev St:=List (Option V)
noncomputable abbrev VK:=V->Hp->Prop
noncomputable abbrev TE:=St->Hp->VK->Prop
noncomputable abbrev TT:=St->Hp->(Bool->Hp->Prop)->Prop
noncomputable abbrev TA:=St->Hp->(List V->Hp->Prop)->Prop
set_option genInjectivity false in
structure Ends where
 nx:St->Hp->Prop
 rt:VK
 bk:St->Hp->Prop:=fun _ _=>False
 ct:St->Hp->Prop:=fun _ _=>False
noncomputable abbrev TS:=Ends->St->Hp->Prop
noncomputable def EP (X:Cx) (pins:List (Addr × Obj)) (σ:St) (Q:VK) (u:Value) (s':Shared):Prop:=∃ v H',Inv X pins σ H' s'/\RelV v u/\Q v H'
noncomputable def TP (X:Cx) (pins:List (Addr × Obj)) (σ:St) (Q:Bool->Hp->Prop) (b:Bool) (s':Shared):Prop:=∃ H',Inv X pins σ H' s'/\Q b H'
noncomputable def AP (X:Cx) (pins:List (Addr × Obj)) (σ:St) (Q:List V->Hp->Prop) (us:List Value) (s':Shared):Prop:=∃ vs H',Inv X pins σ H' s'/\Vals vs us/\Q vs H'
noncomputable def SP (X:Cx) (pins:List (Addr × Obj)) (D:Ends) (f:Flow) (s':Shared):Prop :=
 match f with
 | .next=>∃ σ' H',Inv X pins σ' H' s'/\D.nx σ' H'
 | .brk=>∃ σ' H',Inv X pins σ' H' s'/\D.bk σ' H'
 | .cont=>∃ σ' H',Inv X pins σ' H' s'/\D.ct σ' H'
 | .ret u=>∃ v σ' H',Inv X pins σ' H' s'/\RelV v u/\D.rt v H'
noncomputable def PE (X:Cx) (e:Expr) (t:TE):Prop :=
 ∀ (pins:List (Addr × Obj)) (s:Shared) (σ:St) (H:Hp) (Q:VK),Inv X pins σ H s->t σ H Q->wpAny (model X.prog X.w) X.A (eval e X.env) (EP X pins σ Q) X.xe s
noncomputable def PT (X:Cx) (e:Expr) (t:TT):Prop :=
 ∀ (pins:List (Addr × Obj)) (s:Shared) (σ:St) (H:Hp) (Q:Bool->Hp->Prop),Inv X pins σ H s->t σ H Q->wpAny (model X.prog X.w) X.A (isTrue e X.env (eval e X.env)) (TP X pins σ Q) X.xe s
noncomputable def PW (X:Cx) (e:Expr) (t:TT):Prop :=
 ∀ (whole:Sem Value) (pins:List (Addr × Obj)) (s:Shared) (σ:St) (H:Hp) (Q:Bool->Hp->Prop),Inv X pins σ H s->t σ H Q->wpAny (model X.prog X.w) X.A (isTrue e X.env whole) (TP X pins σ Q) X.xe s
theorem PW.pt {X:Cx} {e:Expr} {t:TT} (h:PW X e t):PT X e t:=h _
noncomputable def PA (X:Cx) (es:List Expr) (t:TA):Prop :=
 ∀ (pos:Pos) (pins:List (Addr × Obj)) (s:Shared) (σ:St) (H:Hp) (Q:List V->Hp->Prop),Inv X pins σ H s->t σ H Q->wpAny (model X.prog X.w) X.A (spliced (backTo pos (starEach es X.env))) (AP X pins σ Q) X.xe s
noncomputable def PS (X:Cx) (st:Stmt) (t:TS):Prop :=
 ∀ (pins:List (Addr × Obj)) (s:Shared) (σ:St) (H:Hp) (D:Ends),Inv X pins σ H s->t D σ H->wpAny (model X.prog X.w) X.A (exec st X.env) (SP X pins D) X.xe s
noncomputable def PN (X:Cx) (st:List Stmt) (t:TS):Prop :=
 ∀ (pins:List (Addr × Obj)) (s:Shared) (σ:St) (H:Hp) (D:Ends),Inv X pins σ H s->t D σ H->wpAny (model X.prog X.w) X.A (execs st X.env) (SP X pins D) X.xe s
theorem CK {α:Type} {t:Sem α} {Q Q':α->Shared->Prop} {M:Model} {A:Around} {E:Value->Shared->Prop} {s:Shared} (h:wpAny M A t Q E s) (hQ:∀ a s,Q a s->Q' a s):wpAny M A t Q' E s:=wpAny_mono h hQ fun _ _ x=>x
end L2
namespace L2
open PySem PySem.Spec PyProof.Rows
section
variable {X:Cx}
noncomputable def fH (i:Nat):TE:=fun σ H Q=>∃ v,σ[i]? = some (some v)/\Q v H
noncomputable def tC (v:V):TE:=fun _ H Q=>Q v H
theorem Y4 {i:Nat} {x:Str} {pos:Pos} (hN:X.N[i]? = some x) (hv:pW X.env.scope x) (hd:(x == ("__debug__" : Str))=false:=by decide) (hcd:(x == ("__classdict__" : Str))=false:=by decide):PE X (.Name x pos) (fH i):=by
 intro pins s σ H Q I h
 obtain ⟨v,e,h⟩:=h
 obtain ⟨m,hn,hl⟩:=I.loc
 obtain ⟨u,r,l⟩:=hl i x v hN e hv
 have fin:EP X pins σ Q u s:=⟨v,H,I,r,h⟩
 rcases l with ⟨hk,hm⟩ | ⟨hk,c,hc,hcell⟩
 ·exact wpAny_Name (wpAny_loadName_local I.ok.kind hk hn hm fin) hd
 ·rcases hk with hk | hk
  ·exact wpAny_Name (wpAny_loadName_cell I.ok.kind hk hc hcell fin) hd
  ·exact wpAny_Name (wpAny_loadName_free I.ok.kind hk hc hcell fin hcd) hd
theorem Ae {i j pos}:PE X (.Constant (.int i) j pos) (tC (.int i)):=fun _ _ _ H _ I h=>wpAny_Constant_int ⟨.int i,H,I.tok _,⟨_,rfl⟩,h⟩
theorem GF {b j pos}:PE X (.Constant (.bool b) j pos) (tC (.bl b)):=fun _ _ _ H _ I h=>Constant_bool ⟨.bl b,H,I,rfl,h⟩
theorem HY {j pos}:PE X (.Constant .none j pos) (tC .non):=fun _ _ _ H _ I h=>Constant_none ⟨.non,H,I,rfl,h⟩
theorem BR {x j pos}:PE X (.Constant (.str x) j pos) (tC (.str x)):=fun _ _ _ H _ I h=>Calls.Constant_str ⟨.str x,H,I.tok _,⟨_,rfl⟩,h⟩
noncomputable def Gl (X:Cx) (x:Str):Prop:=X.env.kindOf x=some .globalImplicit
theorem Ny {E:Value->Shared->Prop} {pins:List (Addr × Obj)} {s:Shared} {σ:St} {H:Hp} {x:Str} {u:Value} {pos:Pos} {Q:Value->Shared->Prop} (I:Inv X pins σ H s) (hg:Gl X x) (hm:X.mg x=some u) (h:Q u s)
  (hd:(x == ("__debug__" : Str))=false:=by decide):wpAny (model X.prog X.w) X.A (eval (.Name x pos) X.env) Q E s :=
 Calls.Name_function_global I.ok.kind hg (Calls.loadGlobal_global (by rw [I.ok.glob]; exact I.mod.glob.keeps I.bk) hm h) hd
theorem G7 {E:Value->Shared->Prop} {pins:List (Addr × Obj)} {s:Shared} {σ:St} {H:Hp} {x:Str} {u:Value} {pos:Pos} {Q:Value->Shared->Prop} (I:Inv X pins σ H s) (hg:Gl X x) (hm:X.mg x=none) (hv:bootBuiltins x=some u) (h:Q u s)
  (hn:x ≠ "__name__":=by decide) (hd:(x == ("__debug__" : Str))=false:=by decide):wpAny (model X.prog X.w) X.A (eval (.Name x pos) X.env) Q E s:=by
 obtain ⟨mb,h1,h2⟩:=I.mod.blt
 exact Calls.Name_function_global I.ok.kind hg (Calls.loadGlobal_builtin (by rw [I.ok.glob]; exact I.mod.glob.keeps I.bk) hm (by rw [I.ok.blt]; exact h1.keeps I.bk) ((h2 x hn).trans hv) h) hd
theorem Ds {x:Str} {v:V} {u:Value} {pos:Pos} (hg:Gl X x) (hm:X.mg x=some u) (r:RelV v u) (hd:(x == ("__debug__" : Str))=false:=by decide):PE X (.Name x pos) (tC v) :=
 fun _ _ _ H _ I h=>Ny I hg hm ⟨v,H,I,r,h⟩ hd
theorem FT {x:Str} {v:V} {u:Value} {pos:Pos} (hg:Gl X x) (hm:X.mg x=none) (hv:bootBuiltins x=some u) (r:RelV v u) (hn:x ≠ "__name__":=by decide) (hd:(x == ("__debug__" : Str))=false:=by decide):PE X (.Name x pos) (tC v) :=
 fun _ _ _ H _ I h=>G7 I hg hm hv ⟨v,H,I,r,h⟩ hn hd
variable {a b:Expr} {ta tb:TE} {pos:Pos}
noncomputable def PC (X:Cx) (op:CmpOp) (a b:Expr) (t:TE):Prop :=
 ∀ (pins:List (Addr × Obj)) (s:Shared) (σ:St) (H:Hp) (Q:VK),Inv X pins σ H s->t σ H Q ->
  wpAny (model X.prog X.w) X.A (eval a X.env) (fun v s₁=>wpAny (model X.prog X.w) X.A (eval b X.env) (fun u s₂=>wpAny (model X.prog X.w) X.A (compareOp op v u) (EP X pins σ Q) X.xe s₂) X.xe s₁) X.xe s
noncomputable def tB (t:TE):TT:=fun σ H Q=>t σ H fun x H1=>∃ c,x=.bl c/\Q c H1
theorem Vu {op:CmpOp} {t:TE} (h:PC X op a b t) (h1:behindInMarks op b=false:=by first | exact nobehind _ (by decide) (by decide) | rfl):PE X (.Compare a [op] [b] pos) t:=fun pins s σ H Q I hw=>wpAny_Compare1 (h pins s σ H Q I hw) h1
theorem QX {op:CmpOp} {t:TE} (h:PC X op a b t) (h1:behindInMarks op b=false:=by first | exact nobehind _ (by decide) (by decide) | rfl):PT X (.Compare a [op] [b] pos) (tB t):=by
 intro pins s σ H Q I hw
 refine wpAny_isTrue_Compare1 (CK (h pins s σ H _ I hw) fun v s1 h1=>CK h1 fun u s2 h2=>CK h2 fun c s3 ⟨x,H1,I1,r1,q1⟩=>?_) h1
 obtain ⟨d,rfl,q⟩:=q1
 cases r1
 exact wpAny_truthy_bool ⟨H1,I1,q⟩
theorem Di {e:Expr} {t:TE} (h:PE X e t) (he:∀ whole,isTrue e X.env whole=(do let v ← whole; standAt e.pos; holding [v] (truthy v)):=by intro _; rfl):PT X e (tB t):=by
 intro pins s σ H Q I hw
 refine isTrue_plain (CK (h pins s σ H _ I hw) fun v s1 ⟨x,H1,I1,r1,q1⟩=>?_) (he _)
 obtain ⟨d,rfl,q⟩:=q1
 cases r1
 exact wpAny_truthy_bool ⟨H1,I1,q⟩
variable {tA tB':TT} {rest:List Expr}
noncomputable def ph (t u:TT):TT:=fun σ H Q=>t σ H fun c H1=>if c=true then u σ H1 Q else Q false H1
noncomputable def oE (t u:TT):TT:=fun σ H Q=>t σ H fun c H1=>if c=true then Q true H1 else u σ H1 Q
noncomputable def mU (t:TT):TT:=fun σ H Q=>t σ H fun c H1=>Q (!c) H1
theorem Hx (ha:PT X a tA):PW X (.BoolOp .And [a] pos) tA:=by
 intro wh pins s σ H Q I h
 refine isTrue_and (CK (ha pins s σ H Q I h) fun c s1 e=>?_)
 cases c with
 | true=>exact isTrue_and_nil e
 | false=>exact e
theorem Gb (ha:PT X a tA):PW X (.BoolOp .Or [a] pos) tA:=by
 intro wh pins s σ H Q I h
 refine isTrue_or (CK (ha pins s σ H Q I h) fun c s1 e=>?_)
 cases c with
 | false=>exact isTrue_or_nil e
 | true=>exact e
theorem Jw (ha:PT X a tA) (hb:PW X (.BoolOp .And (b::rest) pos) tB'):PW X (.BoolOp .And (a::b::rest) pos) (ph tA tB'):=by
 intro wh pins s σ H Q I h
 refine isTrue_and (CK (ha pins s σ H _ I h) fun c s1 hq0=>?_)
 obtain ⟨H1,I1,q1⟩:=hq0
 cases c with
 | true=>exact hb wh pins s1 σ H1 Q I1 q1
 | false=>exact ⟨H1,I1,q1⟩
theorem Gg (ha:PT X a tA) (hb:PW X (.BoolOp .Or (b::rest) pos) tB'):PW X (.BoolOp .Or (a::b::rest) pos) (oE tA tB'):=by
 intro wh pins s σ H Q I h
 refine isTrue_or (CK (ha pins s σ H _ I h) fun c s1 hq0=>?_)
 obtain ⟨H1,I1,q1⟩:=hq0
 cases c with
 | true=>exact ⟨H1,I1,q1⟩
 | false=>exact hb wh pins s1 σ H1 Q I1 q1
theorem DQ (ha:PT X a tA):PT X (.UnaryOp .Not a pos) (mU tA):=by
 intro pins s σ H Q I h
 exact isTrue_not (ha pins s σ H (fun c H1=>Q (!c) H1) I h)
noncomputable def bO (ta tb:TE):TE:=fun σ H Q=>ta σ H fun x H1=>∃ c,x=.bl c/\if c=true then tb σ H1 Q else Q (.bl false) H1
noncomputable def o_ (ta tb:TE):TE:=fun σ H Q=>ta σ H fun x H1=>∃ c,x=.bl c/\if c=true then Q (.bl true) H1 else tb σ H1 Q
noncomputable def eZ (ta:TE):TE:=fun σ H Q=>ta σ H fun x H1=>∃ c,x=.bl c/\Q (.bl (!c)) H1
theorem Dv {op} {t:TE} (h:PE X a t):PE X (.BoolOp op [a] pos) t:=fun pins s σ H Q I hw=>BoolOp_one (h pins s σ H Q I hw)
theorem Et (ha:PE X a ta) (hb:PE X (.BoolOp .And (b::rest) pos) tb):PE X (.BoolOp .And (a::b::rest) pos) (bO ta tb):=by
 intro pins s σ H Q I h
 refine BoolOp_and (CK (ha pins s σ H _ I h) fun v s1 hq0=>?_)
 obtain ⟨x,H1,I1,r1,q1⟩:=hq0
 obtain ⟨c,rfl,q1⟩:=q1
 cases r1
 refine wpAny_truthy_bool ?_
 cases c with
 | true=>exact hb pins s1 σ H1 Q I1 q1
 | false=>exact ⟨.bl false,H1,I1,rfl,q1⟩
theorem Uu (ha:PE X a ta) (hb:PE X (.BoolOp .Or (b::rest) pos) tb):PE X (.BoolOp .Or (a::b::rest) pos) (o_ ta tb):=by
 intro pins s σ H Q I h
 refine BoolOp_or (CK (ha pins s σ H _ I h) fun v s1 hq0=>?_)
 obtain ⟨x,H1,I1,r1,q1⟩:=hq0
 obtain ⟨c,rfl,q1⟩:=q1
 cases r1
 refine wpAny_truthy_bool ?_
 cases c with
 | false=>exact hb pins s1 σ H1 Q I1 q1
 | true=>exact ⟨.bl true,H1,I1,rfl,q1⟩
theorem My (ha:PE X a ta):PE X (.UnaryOp .Not a pos) (eZ ta):=by
 intro pins s σ H Q I h
 refine UnaryOp_ (CK (ha pins s σ H _ I h) fun v s1 hq0=>?_)
 obtain ⟨x,H1,I1,r1,q1⟩:=hq0
 obtain ⟨c,rfl,q1⟩:=q1
 cases r1
 exact not_of (wpAny_truthy_bool ⟨.bl (!c),H1,I1,rfl,q1⟩)
noncomputable def rC (t:TT) (ta tb:TE):TE:=fun σ H Q=>t σ H fun c H1=>if c=true then ta σ H1 Q else tb σ H1 Q
theorem Ko {c:Expr} (hc:PT X c tA) (ha:PE X a ta) (hb:PE X b tb):PE X (.IfExp c a b pos) (rC tA ta tb):=by
 intro pins s σ H Q I h
 refine wpAny_IfExp (CK (hc pins s σ H _ I h) fun d s1 hq0=>?_)
 obtain ⟨H1,I1,q1⟩:=hq0
 cases d with
 | true=>exact ha pins s1 σ H1 Q I1 q1
 | false=>exact hb pins s1 σ H1 Q I1 q1
end
end L2
namespace L2
open PySem PySem.Spec PyProof.Rows
noncomputable def Cz (K:PySem.W.Frag) (H:Hp) (a:Addr) (xs:List V):Prop :=
 Rd H a (.lst xs) \/
  ∃ (o:Obj) (its:Array Value) (n:Nat),K.lookup a=some o/\o.cls=.type "list" /\ o.dict=none/\o.data=.seq its n/\its.size<=sizeLine/\Vals xs its.toList
noncomputable def JF (K:PySem.W.Frag) (H:Hp) (a:Addr) (xs:List V):Prop :=
 Rd H a (.tup xs) \/
  ∃ (o:Obj) (its:Array Value) (n:Nat),K.lookup a=some o/\o.cls=.type "tuple" /\ o.data=.seq its n/\its.size<=sizeLine/\Vals xs its.toList
noncomputable def lV:Value->Option V
 | .none=>some .non
 | .bool b=>some (.bl b)
 | .int i _=>some (.int i)
 | .str x _=>some (.str x)
 | .bytes b _=>some (.byt b)
 | .float b _=>some (.flt b)
 | .ref a=>some (.ref a)
 | .type n=>some (.ty n)
 | _=>none
theorem RelV.abs {x:V} {u:Value} (r:RelV x u):lV u=some x:=by
 cases x with
 | non=>cases r; rfl
 | bl _=>cases r; rfl
 | int _=>obtain ⟨t,rfl⟩:=r; rfl
 | str _=>obtain ⟨t,rfl⟩:=r; rfl
 | byt _=>obtain ⟨t,rfl⟩:=r; rfl
 | flt _=>obtain ⟨t,rfl⟩:=r; rfl
 | ref _=>cases r; rfl
 | ty _=>cases r; rfl
theorem RelV.inj {x y:V} {u:Value} (r:RelV x u) (q:RelV y u):x=y:=Option.some.inj (r.abs.symm.trans q.abs)
theorem Vals.inj:∀ {xs ys:List V} {us:List Value},Vals xs us->Vals ys us->xs=ys
 | _,_,_,.nil,.nil=>rfl
 | _,_,_,.cons r t,.cons r' t'=>by rw [r.inj r',Vals.inj t t']
section
variable {X:Cx} {pins:List (Addr × Obj)} {σ:St} {H:Hp} {s:Shared} {a:Addr} {xs ys:List V}
theorem Inv.list (I:Inv X pins σ H s) (h:Cz X.K H a xs):∃ its:List Value,Vals xs its/\PlainL s.heap a its.toArray/\xs.length<=sizeLine:=by
 rcases h with h | ⟨o,its,n,hk,hc,hd,hs,hz,r⟩
 ·obtain ⟨z,its,n,r,e⟩:=h.ok I.hok
  exact ⟨its,r,⟨_,n,e,rfl,rfl,rfl⟩,z⟩
 ·refine ⟨its.toList,r,⟨o,n,I.Jc a o hk,hc,hd,by simpa using hs⟩,?_⟩
  have e:=r.length
  simp only [Array.length_toList] at e
  omega
theorem Inv.tuple (I:Inv X pins σ H s) (h:JF X.K H a xs):∃ its:List Value,Vals xs its/\IsTup s.heap a its.toArray/\xs.length<=sizeLine:=by
 rcases h with h | ⟨o,its,n,hk,hc,hs,hz,r⟩
 ·obtain ⟨z,its,r,p⟩:=h.ok I.hok
  exact ⟨its,r,p,z⟩
 ·refine ⟨its.toList,r,⟨o,I.Jc a o hk,hc,n,by simpa using hs⟩,?_⟩
  have e:=r.length
  simp only [Array.length_toList] at e
  omega
theorem Inv.Oa (I:Inv X pins σ H s) (h:Cz X.K H a xs) (h':Cz X.K H a ys):xs=ys:=by
 obtain ⟨its,r,⟨o,n,e,_,_,d⟩,_⟩:=I.list h
 obtain ⟨its',r',⟨o',n',e',_,_,d'⟩,_⟩:=I.list h'
 rw [e] at e'; cases e'
 rw [d] at d'
 injection d' with d1 _
 have:its=its':=by simpa using congrArg Array.toList d1
 subst this
 exact r.inj r'
theorem Inv.Jq (I:Inv X pins σ H s) (h:JF X.K H a xs) (h':JF X.K H a ys):xs=ys:=by
 obtain ⟨its,r,⟨o,e,_,n,d⟩,_⟩:=I.tuple h
 obtain ⟨its',r',⟨o',e',_,n',d'⟩,_⟩:=I.tuple h'
 rw [e] at e'; cases e'
 rw [d] at d'
 injection d' with d1 _
 have:its=its':=by simpa using congrArg Array.toList d1
 subst this
 exact r.inj r'
end
noncomputable abbrev Cx.wish (X:Cx) (E:Value->Shared->Prop):Cx:={ X with xe:=E }
noncomputable abbrev Cx.aX (X:Cx):Cx:=X.wish fun _ _=>False
theorem Cx.Ok.wish {X:Cx} (ok:X.Ok) (E:Value->Shared->Prop):(X.wish E).Ok :=
 ⟨ok.mod,ok.kind,ok.glob,ok.blt,ok.above,ok.inj,ok.has,ok.cab,ok.hd,ok.frames,ok.stk,ok.exf,ok.bs,ok.bsz,ok.noex,ok.exfs,ok.J6,ok.frf⟩
theorem Cx.Ok.Hi {X:Cx} {E:Value->Shared->Prop} (ok:(X.wish E).Ok):X.Ok :=
 ⟨ok.mod,ok.kind,ok.glob,ok.blt,ok.above,ok.inj,ok.has,ok.cab,ok.hd,ok.frames,ok.stk,ok.exf,ok.bs,ok.bsz,ok.noex,ok.exfs,ok.J6,ok.frf⟩
section
variable {X:Cx} {pins:List (Addr × Obj)} {σ:St} {H:Hp} {s:Shared} {E:Value->Shared->Prop}
theorem Inv.wish (I:Inv X pins σ H s) (E:Value->Shared->Prop):Inv (X.wish E) pins σ H s:=⟨I.ok.wish E,I.os,I.bare,I.base,I.loc,I.cell,I.free,I.freeC,I.pin,I.hok,I.len⟩
theorem Inv.Hi (I:Inv (X.wish E) pins σ H s):Inv X pins σ H s:=⟨I.ok.Hi,I.os,I.bare,I.base,I.loc,I.cell,I.free,I.freeC,I.pin,I.hok,I.len⟩
theorem SP.Hi {D:Ends} {f:Flow} {s':Shared} (h:SP (X.wish E) pins D f s'):SP X pins D f s':=by
 cases f with
 | next=>obtain ⟨σ',H',I,q⟩:=h; exact ⟨σ',H',I.Hi,q⟩
 | brk=>obtain ⟨σ',H',I,q⟩:=h; exact ⟨σ',H',I.Hi,q⟩
 | cont=>obtain ⟨σ',H',I,q⟩:=h; exact ⟨σ',H',I.Hi,q⟩
 | ret u=>obtain ⟨v,σ',H',I,r,q⟩:=h; exact ⟨v,σ',H',I.Hi,r,q⟩
theorem PN.aX {st:List Stmt} {t:TS} (h:PN X.aX st t):PN X st t:=fun pins s σ H D I hw =>
 wpAny_mono (h pins s σ H D (I.wish _) hw) (fun _ _ q=>q.Hi) fun _ _ z=>False.elim z
end
section
variable {X:Cx} {st:Stmt} {rest:List Stmt} {t u:TS} {e:Expr} {te:TE} {pos:Pos}
noncomputable def RB:TS:=fun D σ H=>D.nx σ H
noncomputable def aU (t u:TS):TS:=fun D σ H=>t { D with nx:=u D } σ H
theorem Ba:PN X [] RB:=fun _ _ σ H _ I h=>wpAny_execs_nil ⟨σ,H,I,h⟩
theorem Ac (h1:PS X st t) (h2:PN X rest u):PN X (st::rest) (aU t u):=by
 intro pins s σ H D I h
 refine wpAny_execs_cons (CK (h1 pins s σ H { D with nx:=u D } I h) fun f s1 q=>?_)
 cases f with
 | next =>
  obtain ⟨σ',H',I',q⟩:=q
  exact h2 pins s1 σ' H' D I' q
 | ret v=>exact q
 | brk=>exact q
 | cont=>exact q
theorem Ai (h1:PS X st t):PN X [st] t:=by
 intro pins s σ H D I h
 refine wpAny_execs_cons (CK (h1 pins s σ H D I h) fun f s1 q=>?_)
 cases f with
 | next=>exact wpAny_execs_nil q
 | ret v=>exact q
 | brk=>exact q
 | cont=>exact q
noncomputable def Yq:TS:=fun D σ H=>D.bk σ H
theorem Vw:PS X (.Break pos) Yq:=fun _ _ σ H _ I h=>wpAny_Break ⟨σ,H,I,h⟩
theorem Inv.quiet {pins:List (Addr × Obj)} {σ:St} {H:Hp} {s:Shared} (I:Inv X pins σ H s):interactive X.env=false:=by simp [interactive,I.ok.kind]
noncomputable def gQ (te:TE):TS:=fun D σ H=>te σ H fun _ H1=>D.nx σ H1
theorem Eh (he:PE X e te) (hs:swapsWith e none pos.line X.env=pure false:=by rfl):PS X (.Expr e pos) (gQ te):=by
 intro pins s σ H D I h
 exact wpAny_Expr_any (CK (he pins s σ H _ I h) fun v s1 ⟨x,H1,I1,r1,q1⟩=>⟨σ,H1,I1,q1⟩) I.quiet hs
noncomputable def qN (te:TE):TS:=fun D σ H=>te σ H D.rt
theorem Ay (he:PE X e te):PS X (.Return (some e) pos) (qN te):=by
 intro pins s σ H D I h
 exact wpAny_Return_some (CK (he pins s σ H _ I h) fun v s1 ⟨x,H1,I1,r1,q1⟩=>⟨x,σ,H1,I1,r1,q1⟩)
noncomputable def aF (c:TT) (t u:TS):TS:=fun D σ H=>c σ H fun b H1=>if b=true then t D σ H1 else u D σ H1
theorem Br {c:Expr} {a b:List Stmt} {tc:TT} (hc:PT X c tc) (ha:PN X a t) (hb:PN X b u):PS X (.If c a b pos) (aF tc t u):=by
 intro pins s σ H D I h
 refine wpAny_If (CK (hc pins s σ H _ I h) fun d s1 hq0=>?_)
 obtain ⟨H1,I1,q1⟩:=hq0
 cases d with
 | true=>exact ha pins s1 σ H1 D I1 q1
 | false=>exact hb pins s1 σ H1 D I1 q1
noncomputable def Ze:TS:=fun _ _ _=>False
theorem Hs:PS X st Ze:=fun _ _ _ _ _ _ h=>h.elim
end
noncomputable abbrev TG:=V->St->Hp->(St->Hp->Prop)->Prop
noncomputable abbrev Yx:=List V->St->Hp->(St->Hp->Prop)->Prop
noncomputable def PG (X:Cx) (target:Expr) (t:TG):Prop :=
 ∀ (pins:List (Addr × Obj)) (s:Shared) (σ:St) (H:Hp) (v:V) (u:Value) (Q:St->Hp->Prop),Inv X pins σ H s->RelV v u->t v σ H Q ->
  wpAny (model X.prog X.w) X.A (assign target X.env u) (fun _ s'=>∃ σ' H',Inv X pins σ' H' s'/\Q σ' H') X.xe s
noncomputable def jk (X:Cx) (ts:List Expr) (t:Yx):Prop :=
 ∀ (pins:List (Addr × Obj)) (s:Shared) (σ:St) (H:Hp) (vs:List V) (us:List Value) (Q:St->Hp->Prop),Inv X pins σ H s->Vals vs us->t vs σ H Q ->
  wpAny (model X.prog X.w) X.A (assignInOrder ((assignEach ts X.env).map (·.2)) us) (fun _ s'=>∃ σ' H',Inv X pins σ' H' s'/\Q σ' H') X.xe s
noncomputable abbrev Z2:=V->V->V->Hp->(Hp->Prop)->Prop
noncomputable def fL (X:Cx) (t:Z2):Prop :=
 ∀ (pins:List (Addr × Obj)) (s:Shared) (σ:St) (H:Hp) (o i v:V) (ov iv u:Value) (Q:Hp->Prop),Inv X pins σ H s->RelV o ov->RelV i iv->RelV v u->t o i v H Q ->
  wpAny (model X.prog X.w) X.A (setItem ov iv u) (fun _ s'=>∃ H',Inv X pins σ H' s'/\Q H') X.xe s
section
variable {X:Cx} {pos:Pos}
noncomputable def Dy (i:Nat):TG:=fun v σ H Q=>Q (σ.set i (some v)) H
theorem BZ {i:Nat} {x:Str} (hN:X.N.Nodup) (hi:X.N[i]? = some x) (hx:Loc X.env.scope x) (hf:X.fn x=true \/ X.env.scope.names.lookup x=some .local:=by first | exact .inl rfl | exact .inr rfl | assumption):PG X (.Name x pos) (Dy i):=by
 intro pins s σ H v u Q I r h
 exact wpAny_assign_Name (Kg I hN hi hx r (fun s' I'=>⟨_,H,I',h⟩) hf)
noncomputable def Rm:Yx:=fun vs σ H Q=>vs=[]/\Q σ H
noncomputable def Hl (t:TG) (u:Yx):Yx:=fun vs σ H Q=>∃ v r,vs=v::r/\t v σ H fun σ' H'=>u r σ' H' Q
theorem DP:jk X [] Rm:=by
 intro pins s σ H vs us Q I r h
 obtain ⟨e,h⟩:=h
 subst e
 cases r
 exact assignInOrder_nil ⟨σ,H,I,h⟩
theorem Bf {e:Expr} {es:List Expr} {t:TG} {u:Yx} (h1:PG X e t) (h2:jk X es u)
  (hs:(assignEach (e::es) X.env).map (·.2)=assign e X.env::(assignEach es X.env).map (·.2):=by rfl):jk X (e::es) (Hl t u):=by
 intro pins s σ H vs us Q I r h
 obtain ⟨v,vr,e1,h⟩:=h
 subst e1
 cases r with
 | cons r rr =>
  rw [hs]
  refine assignInOrder_cons (CK (h1 pins s σ H _ _ _ I r h) fun _ s1 hq0=>?_)
  obtain ⟨σ1,H1,I1,q1⟩:=hq0
  exact h2 pins s1 σ1 H1 _ _ Q I1 rr q1
noncomputable def Pk (K:PySem.W.Frag) (n:Nat) (t:Yx):TG:=fun v σ H Q=>∃ a xs,v=.ref a/\JF K H a xs/\xs.length=n/\t xs σ H Q
theorem Du {es:List Expr} {k:Nat} {t:Yx} {n:Nat} (hc:X.calm=true) (h:jk X es t)
  (hn:(assignEach es X.env).length=n:=by rfl) (hst:(assignEach es X.env).findIdx? (·.1)=none:=by rfl):PG X (.Tuple es k pos) (Pk X.K n t):=by
 intro pins s σ H v u Q I r hw
 obtain ⟨a,xs,e1,hq,hl,hw⟩:=hw
 subst e1
 cases r
 obtain ⟨its,rv,ht,hz⟩:=I.tuple hq
 refine assign_Tuple_tuple (I.ok.hd hc) ht (by simp [hn,← hl,rv.length]) hst fun h' hx=>?_
 have I1:Inv X pins σ H { s with heap:=h' }:=I.kept (t':=s.toks) fun b o e=>hx b o (cK (Heap.lt_size e)) e
 exact h pins _ σ H xs _ Q I1 (by simpa using rv) hw
noncomputable def oH (to ti:TE) (t:Z2):TG:=fun v σ H Q=>to σ H fun o H1=>ti σ H1 fun i H2=>t o i v H2 fun H3=>Q σ H3
theorem Je {o i:Expr} {to ti:TE} {t:Z2} (ho:PE X o to) (hi:PE X i ti) (hs:fL X t)
  (ha:∀ v,assign (.Subscript o i pos) X.env v=(do
   let ov ← holding [v] (eval o X.env)
   let iv ← holding [v,ov] (eval i X.env)
   standAt pos
   holding [v,ov,iv] (setItem ov iv v)
   release [v,ov,iv] []):=by intro _; rfl):PG X (.Subscript o i pos) (oH to ti t):=by
 intro pins s σ H v u Q I r h
 rw [ha]
 refine wpAny_bind (wpAny_holding (CK (ho pins s σ H _ I h) fun ov s1 hq0=>?_))
 obtain ⟨x,H1,I1,r1,q1⟩:=hq0
 refine wpAny_bind (wpAny_holding (CK (hi pins s1 σ H1 _ I1 q1) fun iv s2 hq0=>?_))
 obtain ⟨y,H2,I2,r2,q2⟩:=hq0
 refine wpAny_bind (wpAny_standAt (wpAny_bind (wpAny_holding (CK (hs pins s2 σ H2 x y v ov iv u _ I2 r1 r2 r q2) fun _ s3 hq0=>?_))))
 obtain ⟨H3,I3,q3⟩:=hq0
 exact wpAny_release ⟨σ,H3,I3,q3⟩
noncomputable def W7 (te:TE) (g:TG):TS:=fun D σ H=>te σ H fun x H1=>g x σ H1 D.nx
theorem Ex {tg e:Expr} {te:TE} {g:TG} (he:PE X e te) (hg:PG X tg g) (hs:swapsWithSole [tg] e pos.line X.env=pure false:=by rfl) (hw:swappedStores [tg] e X.env=pure none:=by rfl)
  (h1:(assignEach [tg] X.env).map (·.2)=[assign tg X.env]:=by rfl):PS X (.Assign [tg] e pos) (W7 te g):=by
 intro pins s σ H D I h
 refine wpAny_Assign_stores (CK (he pins s σ H _ I h) fun v s1 ⟨x,H1,I1,r1,q1⟩=>?_) hs hw
 rw [h1]
 exact CK (hg pins s1 σ H1 x v _ I1 r1 q1) fun _ s2 q=>q
theorem Bh {i:Nat} {x:Str} {e:Expr} {te:TE} {pos':Pos} (hN:X.N.Nodup) (hi:X.N[i]? = some x) (hx:Loc X.env.scope x) (he:PE X e te) (hs:swapsWith e (some (.Name x pos')) pos.line X.env=pure false:=by rfl) (hf:X.fn x=true \/ X.env.scope.names.lookup x=some .local:=by first | exact .inl rfl | exact .inr rfl | assumption) :
  PS X (.Assign [.Name x pos'] e pos) (W7 te (Dy i)):=by
 intro pins s σ H D I h
 refine wpAny_Assign_Name (CK (he pins s σ H _ I h) fun v s1 ⟨y,H1,I1,r1,q1⟩=>?_) hs
 exact Kg I1 hN hi hx r1 (fun s2 I2=>⟨_,H1,I2,q1⟩) hf
end
section
variable {X:Cx} {pos:Pos}
noncomputable def Nu (c:TT) (tb:TS):TS:=fun D σ H=>∃ W:Nat->St->Hp->Prop,(∃ m,W m σ H)/\∀ m σ H,W m σ H ->
 c σ H fun b H1=>if b=true then ∃ N:St->Hp->Prop,(∀ σ' H',N σ' H'->∃ m',m'<m/\W m' σ' H')/\tb { D with nx:=N,ct:=N,bk:=D.nx } σ H1 else D.nx σ H1
theorem Kf {c:Expr} {body:List Stmt} {tc:TT} {tb:TS} (hp:PassesOwn (model X.prog X.w) X.A X.env X.xe) (hc:PT X c tc) (hb:PN X body tb):PS X (.While c body [] pos) (Nu tc tb):=by
 intro pins s σ H D I h
 obtain ⟨W,⟨m0,w0⟩,turn⟩:=h
 refine wpAny_While (codeAny_whileLoop (fun n s'=>∃ σ' H',Inv X pins σ' H' s'/\W n σ' H') ?_ m0 ⟨σ,H,I,w0⟩)
 rintro n s1 ⟨σ1,H1,I1,w1⟩
 refine wpAny_passesOwn hp (CK (hc pins s1 σ1 H1 _ I1 (turn n σ1 H1 w1)) fun b s2 hq0=>?_)
 obtain ⟨H2,I2,q2⟩:=hq0
 cases b with
 | true =>
  obtain ⟨N,hN,q2⟩:=q2
  rw [if_pos rfl]
  refine wpAny_passesOwn hp (CK (hb pins s2 σ1 H2 _ I2 q2) fun f s3 q3=>?_)
  cases f with
  | next =>
   obtain ⟨σ3,H3,I3,n3⟩:=q3
   obtain ⟨m',hm,w3⟩:=hN σ3 H3 n3
   exact ⟨m',hm,σ3,H3,I3,w3⟩
  | cont =>
   obtain ⟨σ3,H3,I3,n3⟩:=q3
   obtain ⟨m',hm,w3⟩:=hN σ3 H3 n3
   exact ⟨m',hm,σ3,H3,I3,w3⟩
  | brk=>exact q3
  | ret v=>exact q3
 | false =>
  rw [if_neg fi]
  exact wpAny_execs_nil ⟨σ1,H2,I2,q2⟩
end
set_option genInjectivity false in
structure It where
 go:Nat->Hp->Prop
 yld:Nat->Hp->V->Hp->Prop
 stop:Nat->Hp->Prop
noncomputable def Gx (X:Cx) (pins:List (Addr × Obj)) (H:Hp) (b:Addr):Prop :=
 H b=none/\b ≠ X.env.locals/\b ∉ X.fs/\(b∈X.ex \/ X.s₀.heap.objs.size<=b)/\(∀ x c,X.env.cells.lookup x=some c->c ≠ b)/\∀ p∈X.pn++pins,p.1 ≠ b
theorem Inv.La {X:Cx} {pins:List (Addr × Obj)} {σ:St} {H H':Hp} {s:Shared} {b:Addr} (I:Inv X pins σ H s) (hb:s.heap.objs.size<=b) (hn:H' b=none):Gx X pins H' b:=by
 refine ⟨hn,gL (bg I.lt hb),I.nF hb,.inr (bE I.sz hb),fun x c e z=>?_,fun p hp z=>?_⟩
 ·obtain ⟨v,q⟩:=I.cell x c e
  exact absurd (bg q.lt (by rw [z]; exact hb)) (fq _)
 ·exact absurd (bg (Heap.lt_size (I.pin p hp).1) (by rw [z]; exact hb)) (fq _)
structure Turn (P:Program) (w:World) (K:PySem.W.Frag) (tg:Expr) (J:It) (fp:List Addr) (it:Addr) (tn:Nat->Heap->Prop):Prop where
 mem:it∈fp
 obj:∀ i h,tn i h->∀ b∈fp,∃ o,h.get? b=some o/\∀ v,o.data ≠ .cell v
 keep:∀ i h h',tn i h->(∀ b∈fp,∀ o,h.get? b=some o->h'.get? b=some o)->tn i h'
 item:∀ (X:Cx),X.prog=P->X.w=w->X.K=K->X.calm=true->∀ (i:Nat) (pins:List (Addr × Obj)) (s:Shared) (σ:St) (H:Hp) (E:Value->Shared->Prop),Inv X pins σ H s->(∀ b∈fp,Gx X pins H b)->tn i s.heap->J.go i H ->
  wpAny (model P w) X.A (pyNext (.ref it)) (fun r s1=>∃ u,r=some u /\
   wpAny (model P w) X.A (letOwnedTupleGo tg (.ref it) u) (fun _ s2=>∃ x H',Inv X pins σ H' s2/\RelV x u/\J.yld i H x H'/\tn (i+1) s2.heap/\∀ b∈fp,H' b=none) E s1) E s
 done:∀ (X:Cx),X.prog=P->X.w=w->X.K=K->X.calm=true->∀ (i:Nat) (pins:List (Addr × Obj)) (s:Shared) (σ:St) (H:Hp) (E:Value->Shared->Prop),Inv X pins σ H s->(∀ b∈fp,Gx X pins H b)->tn i s.heap->J.stop i H ->
  wpAny (model P w) X.A (pyNext (.ref it)) (fun r s1=>r=none/\Inv X pins σ H s1) E s
 self:∀ (A:Around) (i:Nat) (s:Shared) (Q:Value->Shared->Prop) (E:Value->Shared->Prop),tn i s.heap->Q (.ref it) s->wpAny (model P w) A (pyIter (.ref it)) Q E s
noncomputable abbrev TI:=St->Hp->(It->Hp->Prop)->Prop
noncomputable def PIE (X:Cx) (pins:List (Addr × Obj)) (σ:St) (tg:Expr) (R:It->Hp->Prop) (itv:Value) (s2:Shared):Prop :=
 ∃ (it:Addr) (fp:List Addr) (tn:Nat->Heap->Prop) (J:It) (H':Hp),itv=.ref it/\Inv X pins σ H' s2/\Turn X.prog X.w X.K tg J fp it tn/\tn 0 s2.heap/\(∀ b∈fp,Gx X pins H' b)/\R J H'
noncomputable def PI (X:Cx) (tg iter:Expr) (wi:TI):Prop :=
 ∀ (pins:List (Addr × Obj)) (s:Shared) (σ:St) (H:Hp) (R:It->Hp->Prop),Inv X pins σ H s->wi σ H R ->
  wpAny (model X.prog X.w) X.A (eval iter X.env) (fun v s1=>wpAny (model X.prog X.w) X.A (pyIter v) (PIE X pins σ tg R) X.xe s1) X.xe s
theorem O5 {M:Model} {A:Around} {E:Value->Shared->Prop} {s:Shared} {tg:Expr} {it:Addr} {u:Value} {o:Obj} {n:String} {vs:Array Value} {Q:Unit->Shared->Prop} (ho:s.heap.get? it=some o) (hc:o.cls=.type n) (hd:o.data=.fields vs)
  (hn:["enumerate","zip","dict_itemiterator","dict_reverseitemiterator","odict_iterator","itertools.zip_longest","itertools.pairwise"].contains n=false) (hQ:Q () s):wpAny M A (letOwnedTupleGo tg (.ref it) u) Q E s:=by
 unfold letOwnedTupleGo
 cases tg <;> first
  | exact wpAny_pure hQ
  | (cases u <;> first
    | exact wpAny_pure hQ
    | (refine wpAny_bind (wpAny_load ho ?_)
       rw [hc,hd]
       show wpAny M A (if (["enumerate","zip","dict_itemiterator","dict_reverseitemiterator","odict_iterator","itertools.zip_longest","itertools.pairwise"].contains n && vs[0]? == some (rawInt _))=true then _ else _) Q E s
       rw [if_neg (by intro h; rw [hn,ia] at h; cases h)]
       exact wpAny_pure hQ))
noncomputable def Ye (K:PySem.W.Frag) (a:Addr):It :=
 ⟨fun i H=>∃ xs x,Cz K H a xs/\xs[i]? = some x,fun i H x H'=>H'=H/\∀ xs,Cz K H a xs->xs[i]? = some x,fun i H=>∃ xs,Cz K H a xs/\xs.length<=i⟩
noncomputable def qm (K:PySem.W.Frag) (a:Addr):It :=
 ⟨fun i H=>∃ xs x,JF K H a xs/\xs[i]? = some x,fun i H x H'=>H'=H/\∀ xs,JF K H a xs->xs[i]? = some x,fun i H=>∃ xs,JF K H a xs/\xs.length<=i⟩
noncomputable def Xj (lo:Int) (n:Nat):It:=⟨fun i _=>i<n,fun i H x H'=>H'=H/\x=.int (lo+i),fun i _=>n<=i⟩
theorem R1 {P:Program} {w:World} {K:PySem.W.Frag} {tg:Expr} (a it:Addr):Turn P w K tg (Ye K a) [it] it (fun i h=>h.IsListIter it a i) where
 mem:=by simp
 obj:=fun i h st b hb=>by
  have e:b=it:=by simpa using hb
  subst e
  obtain ⟨o,e,c,d⟩:=st
  exact ⟨o,e,fun v z=>by rw [d] at z; cases z⟩
 keep:=fun i h h' st k=>st.at fun o e=>k it (by simp) o e
 item:=by
  intro X hP hw hK hc i pins s σ H E I hf st hg
  subst hP hw hK
  obtain ⟨xs,x,hq,hx⟩:=hg
  obtain ⟨its,rv,p,hz⟩:=I.list hq
  obtain ⟨u,hu,ru⟩:=rv.get hx
  obtain ⟨f0,f1,f2,f3,f4,f5⟩:=hf it (by simp)
  refine wpAny_pyNext_list_item st p.isList (x:=u) (by simpa using hu) fun h' st' sb=>?_
  have I1:Inv X pins σ H { s with heap:=h' }:=I.turned (t':=s.toks) (fun b o hb e=>(sb.2 b hb).trans e) f0 f1 f3 f4 f5
  obtain ⟨o,e,c,d⟩:=id st'
  exact ⟨u,rfl,O5 (s:={ s with heap:=h' }) e c d (by decide) ⟨x,H,I1,ru,⟨rfl,fun ys hy=>by rw [I.Oa hy hq]; exact hx⟩,st',fun b hb=>(hf b hb).1⟩⟩
 done:=by
  intro X hP hw hK hc i pins s σ H E I hf st hg
  subst hP hw hK
  obtain ⟨xs,hq,hx⟩:=hg
  obtain ⟨its,rv,p,hz⟩:=I.list hq
  obtain ⟨f0,f1,f2,f3,f4,f5⟩:=hf it (by simp)
  have hl:=rv.length
  exact wpAny_pyNext_list_end (I.ok.hd hc) st p.isList (by simp; omega) fun h' eb=>⟨rfl,I.turned (t':=s.toks) (fun b o hb e=>eb b o hb e) f0 f1 f3 f4 f5⟩
 self:=fun _ _ _ _ _ st h=>wpAny_pyIter_listiter st h
theorem Qk {P:Program} {w:World} {K:PySem.W.Frag} {tg:Expr} (a it:Addr):Turn P w K tg (qm K a) [it] it (fun i h=>h.IsTupleIter it a i) where
 mem:=by simp
 obj:=fun i h st b hb=>by
  have e:b=it:=by simpa using hb
  subst e
  obtain ⟨o,e,c,d⟩:=st
  exact ⟨o,e,fun v z=>by rw [d] at z; cases z⟩
 keep:=fun i h h' st k=>st.at fun o e=>k it (by simp) o e
 item:=by
  intro X hP hw hK hc i pins s σ H E I hf st hg
  subst hP hw hK
  obtain ⟨xs,x,hq,hx⟩:=hg
  obtain ⟨its,rv,p,hz⟩:=I.tuple hq
  obtain ⟨u,hu,ru⟩:=rv.get hx
  obtain ⟨f0,f1,f2,f3,f4,f5⟩:=hf it (by simp)
  refine wpAny_pyNext_tuple_item st (show s.heap.IsTuple a its.toArray from p) (x:=u) (by simpa using hu) fun h' st' sb=>?_
  have I1:Inv X pins σ H { s with heap:=h' }:=I.turned (t':=s.toks) (fun b o hb e=>(sb.2 b hb).trans e) f0 f1 f3 f4 f5
  obtain ⟨o,e,c,d⟩:=id st'
  exact ⟨u,rfl,O5 (s:={ s with heap:=h' }) e c d (by decide) ⟨x,H,I1,ru,⟨rfl,fun ys hy=>by rw [I.Jq hy hq]; exact hx⟩,st',fun b hb=>(hf b hb).1⟩⟩
 done:=by
  intro X hP hw hK hc i pins s σ H E I hf st hg
  subst hP hw hK
  obtain ⟨xs,hq,hx⟩:=hg
  obtain ⟨its,rv,p,hz⟩:=I.tuple hq
  obtain ⟨f0,f1,f2,f3,f4,f5⟩:=hf it (by simp)
  have hl:=rv.length
  exact wpAny_pyNext_tuple_end (I.ok.hd hc) st (show s.heap.IsTuple a its.toArray from p) (by simp; omega) fun h' eb=>⟨rfl,I.turned (t':=s.toks) (fun b o hb e=>eb b o hb e) f0 f1 f3 f4 f5⟩
 self:=fun _ _ _ _ _ st h=>wpAny_pyIter_tupleiter st h
theorem Ql {P:Program} {w:World} {K:PySem.W.Frag} {tg:Expr} (it:Addr) (lo:Int) (n:Nat):Turn P w K tg (Xj lo n) [it] it (fun i h=>IsRangeIter h it (lo+(i:Nat) * 1) ((n:Int) - (i:Nat)) 1) where
 mem:=by simp
 obj:=fun i h st b hb=>by
  have e:b=it:=by simpa using hb
  subst e
  exact ⟨_,st,fun v z=>by
   have z':Data.fields _=Data.cell v:=z
   cases z'⟩
 keep:=fun i h h' st k=>k it (by simp) _ st
 item:=by
  intro X hP hw hK hc i pins s σ H E I hf st hg
  subst hP hw hK
  obtain ⟨f0,f1,f2,f3,f4,f5⟩:=hf it (by simp)
  have W:=Walks.range (prog:=X.prog) (w:=X.w) (I.ok.hd hc) it lo 1 n
  refine W.item i s _ _ hg st fun v h' tk hv st' kk=>?_
  obtain ⟨t,rfl⟩:=hv
  have I1:Inv X pins σ H { s with heap:=h',toks:=tk }:=I.turned (fun b o hb e=>kk b o (by simpa using hb) e) f0 f1 f3 f4 f5
  refine ⟨_,rfl,O5 (s:={ s with heap:=h',toks:=tk }) (n:="range_iterator") st' rfl rfl (by decide) ⟨.int (lo+i),H,I1,⟨t,?_⟩,⟨rfl,rfl⟩,st',fun b hb=>(hf b hb).1⟩⟩
  rw [Int.mul_one]
 done:=by
  intro X hP hw hK hc i pins s σ H E I hf st hg
  subst hP hw hK
  obtain ⟨f0,f1,f2,f3,f4,f5⟩:=hf it (by simp)
  exact wpAny_pyNext_range_end (I.ok.hd hc) st (by have:n<=i:=hg; omega) fun h' eb=>⟨rfl,I.turned (t':=s.toks) (fun b o hb e=>eb b o hb e) f0 f1 f3 f4 f5⟩
 self:=fun _ _ _ _ _ st h=>wpAny_pyIter_rangeiter st h
end L2
namespace L2
open PySem PySem.Spec PyProof.Rows
section
variable {X:Cx} {tg:Expr}
noncomputable def cD (K:PySem.W.Frag) (tl:TE):TI:=fun σ H R=>tl σ H fun x H1=>∃ a,x=.ref a/\(∃ xs,Cz K H1 a xs)/\R (Ye K a) H1
noncomputable def nG (K:PySem.W.Frag) (tl:TE):TI:=fun σ H R=>tl σ H fun x H1=>∃ a,x=.ref a/\(∃ xs,JF K H1 a xs)/\R (qm K a) H1
theorem Bp {l:Expr} {tl:TE} (hl:PE X l tl):PI X tg l (cD X.K tl):=by
 intro pins s σ H R I h
 refine CK (hl pins s σ H _ I h) fun v s1 hq0=>?_
 obtain ⟨x,H1,I1,r1,q1⟩:=hq0
 obtain ⟨a,e,⟨xs,hq⟩,q⟩:=q1
 subst e
 cases r1
 obtain ⟨its,rv,p,hz⟩:=I1.list hq
 refine wpAny_pyIter_list p.isList ?_
 refine ⟨s1.heap.objs.size,[s1.heap.objs.size],_,_,H1,rfl,I1.kept (t':=s1.toks) fun b o e=>Heap.get?_push_of_some _ e,R1 a _,⟨_,Heap.get?_push_size _ rfl,rfl,rfl⟩,fun b hb=>?_,q⟩
 have e:b=s1.heap.objs.size:=by simpa using hb
 subst e
 exact I1.La (aE _) (I1.hok.fresh (aE _))
theorem Z9 {l:Expr} {tl:TE} (hl:PE X l tl):PI X tg l (nG X.K tl):=by
 intro pins s σ H R I h
 refine CK (hl pins s σ H _ I h) fun v s1 hq0=>?_
 obtain ⟨x,H1,I1,r1,q1⟩:=hq0
 obtain ⟨a,e,⟨xs,hq⟩,q⟩:=q1
 subst e
 cases r1
 obtain ⟨its,rv,p,hz⟩:=I1.tuple hq
 refine wpAny_pyIter_tuple (show s1.heap.IsTuple a its.toArray from p) ?_
 refine ⟨s1.heap.objs.size,[s1.heap.objs.size],_,_,H1,rfl,I1.kept (t':=s1.toks) fun b o e=>Heap.get?_push_of_some _ e,Qk a _,⟨_,Heap.get?_push_size _ rfl,rfl,rfl⟩,fun b hb=>?_,q⟩
 have e:b=s1.heap.objs.size:=by simpa using hb
 subst e
 exact I1.La (aE _) (I1.hok.fresh (aE _))
theorem Ub {pins:List (Addr × Obj)} {σ:St} {H:Hp} {s:Shared} {R:It->Hp->Prop} {E:Value->Shared->Prop} {lo hi:Int} {t u v:Tok} {tk:Nat} (I:Inv X pins σ H s) (h1 : -(2 ^ 62)<=lo) (h2:lo<2 ^ 62) (h3 : -(2 ^ 62)<=hi) (h4:hi<2 ^ 62)
  (q:R (Xj lo (hi - lo).toNat) H):wpAny (model X.prog X.w) X.A (pyIter (.ref s.heap.objs.size)) (PIE X pins σ tg R) E { s with heap:=s.heap.push { cls:=.type "range",data:=.fields #[.int lo t,.int hi u,.int 1 v] },toks:=tk }:=by
 refine wpAny_pyIter_range (IsRange.new ..) (small_one h1 h2 h3 h4) ?_
 have I1:Inv X pins σ H { s with heap:=s.heap.push { cls:=.type "range",data:=.fields #[.int lo t,.int hi u,.int 1 v] },toks:=tk }:=I.kept fun b o e=>Heap.get?_push_of_some _ e
 refine ⟨(s.heap.push { cls:=.type "range",data:=.fields #[.int lo t,.int hi u,.int 1 v] }).objs.size,[(s.heap.push { cls:=.type "range",data:=.fields #[.int lo t,.int hi u,.int 1 v] }).objs.size],_,_,H,rfl,
  I1.kept (t':=tk) fun b o e=>Heap.get?_push_of_some _ e,Ql _ lo (hi - lo).toNat,?_,fun b hb=>?_,q⟩
 ·have e1:lo+((0:Nat):Int) * 1=lo:=by simp
  have e2:(((hi - lo).toNat:Nat):Int) - ((0:Nat):Int)=Builtin.Range.rangeSize lo hi 1:=by rw [rangeSize_one]; split <;> omega
  show IsRangeIter _ _ (lo+((0:Nat):Int) * 1) ((((hi - lo).toNat:Nat):Int) - ((0:Nat):Int)) 1
  rw [e1,e2]
  exact Heap.get?_push_size _ rfl
 ·have e:b=(s.heap.push { cls:=.type "range",data:=.fields #[.int lo t,.int hi u,.int 1 v] }).objs.size:=by simpa using hb
  subst e
  exact I1.La (aE _) (I1.hok.fresh (aE _))
noncomputable def jG (ta:TA):TI:=fun σ H R=>ta σ H fun vs H1=>∃ j:Int,vs=[.int j] /\ -(2 ^ 62)<=j/\j<2 ^ 62/\R (Xj 0 j.toNat) H1
theorem CP {a:Expr} {ta:TA} {p pos:Pos} (hg:Gl X "range") (hm:X.mg "range" = none) (ha:PA X [a] ta) (hs:starEach [a] X.env=[(false,eval a X.env)]:=by rfl):PI X tg (.Call (.Name "range" p) [a] [] pos) (jG ta):=by
 intro pins s σ H R I h
 refine Call_ (G7 I hg hm boot_range (PyProof.Rows.callWith_type1 (CK (ha pos pins s σ H _ I h) fun us s1 ⟨vs,H1,I1,r1,q1⟩=>?_) hs rfl))
 obtain ⟨j,e,q1,q2,q⟩:=q1
 subst e
 cases r1 with
 | cons r rr =>
  cases rr
  obtain ⟨t,rfl⟩:=r
  exact call_range_1 (Ub I1 (by omega) (by omega) q1 q2 (by simpa using q))
noncomputable def o8 (wi:TI) (g:TG) (tb:TS):TS:=fun D σ H=>wi σ H fun J H1=>∃ W:Nat->Nat->St->Hp->Prop,(∃ m,W 0 m σ H1)/\∀ i m σ H,W i m σ H ->
 (J.stop i H/\D.nx σ H) \/ (J.go i H/\∃ N:St->Hp->Prop,(∀ σ' H',N σ' H'->∃ m',m'<m/\W (i+1) m' σ' H')/\∀ x H',J.yld i H x H'->g x σ H' fun σ2 H2=>tb { D with nx:=N,ct:=N,bk:=D.nx } σ2 H2)
noncomputable def Jm (fp:List Addr) (h:Heap):List (Addr × Obj):=fp.filterMap fun b=>(h.get? b).map fun o=>(b,o)
theorem FJ {fp:List Addr} {h:Heap} {b:Addr} {o:Obj} (hb:b∈fp) (e:h.get? b=some o):(b,o)∈Jm fp h:=gI.mpr ⟨b,hb,by rw [e]; rfl⟩
theorem Rw {fp:List Addr} {h:Heap} {p:Addr × Obj} (hp:p∈Jm fp h):p.1∈fp/\h.get? p.1=some p.2:=by
 obtain ⟨b,hb,e⟩:=gI.mp hp
 cases q:h.get? b with
 | none=>rw [q] at e; cases e
 | some o =>
  rw [q] at e
  have e':(b,o)=p:=Option.some.inj e
  subst e'
  exact ⟨hb,q⟩
theorem Inv.pinned {pins:List (Addr × Obj)} {σ:St} {H:Hp} {s:Shared} {fp:List Addr} (I:Inv X pins σ H s) (hf:∀ b∈fp,Gx X pins H b) (ho:∀ b∈fp,∃ o,s.heap.get? b=some o/\∀ v,o.data ≠ .cell v):Inv X (pins++Jm fp s.heap) σ H s :=
 I.Qy fun p hp=>(ba.mp hp).elim (fun z=>I.pin p (be _ z)) fun z=>by
  obtain ⟨hb,e⟩:=Rw z
  obtain ⟨f0,f1,f2,_⟩:=hf p.1 hb
  obtain ⟨o,e',d⟩:=ho p.1 hb
  rw [e] at e'; cases e'
  exact ⟨e,f0,f1,f2,d⟩
theorem Inv.HQ {pins pl:List (Addr × Obj)} {σ:St} {H:Hp} {s:Shared} (I:Inv X (pins++pl) σ H s):Inv X pins σ H s:=I.Qy fun p hp=>I.pin p (be _ (bi _ hp))
theorem C_ {iter:Expr} {body:List Stmt} {wi:TI} {g:TG} {tb:TS} {pos:Pos} (hp:PassesOwn (model X.prog X.w) X.A X.env X.xe) (hc:X.calm=true) (hi:PI X tg iter wi) (hg:PG X tg g) (hb:PN X body tb)
  (hs:∀ x,foldedSetIterable iter X.env x=pure x:=by intro _; rfl):PS X (.For tg iter body [] pos) (o8 wi g tb):=by
 intro pins s σ H D I h
 refine wpAny_For (CK (hi pins s σ H _ I h) fun v s1 h1=>CK h1 fun itv s2 h2=>?_) hs
 obtain ⟨it,fp,tn,J,H2,e,I2,T,st2,f2,W,⟨m0,w0⟩,turn⟩:=h2
 subst e
 have stat:∀ {H':Hp},(∀ b∈fp,H' b=none)->∀ b∈fp,Gx X pins H' b:=fun hn b hb=>⟨hn b hb,(f2 b hb).2⟩
 refine codeAny_forLoop_any (fun n s'=>∃ i σ' H',Inv X pins σ' H' s'/\tn i s'.heap/\(∀ b∈fp,H' b=none)/\W i n σ' H') ?_ m0 ⟨0,σ,H2,I2,st2,fun b hb=>(f2 b hb).1,w0⟩
 rintro n s3 ⟨i,σ3,H3,I3,st3,fr3,w3⟩
 rcases turn i n σ3 H3 w3 with ⟨stop,qn⟩ | ⟨go,N,hN,step⟩
 ·refine wpAny_passesOwn hp (CK (T.done X rfl rfl rfl hc i pins s3 σ3 H3 X.xe I3 (stat fr3) st3 stop) fun r s4 ⟨hr,I4⟩=>?_)
  subst hr
  exact wpAny_execs_nil ⟨σ3,H3,I4,qn⟩
 ·refine wpAny_passesOwn hp (CK (T.item X rfl rfl rfl hc i pins s3 σ3 H3 X.xe I3 (stat fr3) st3 go) fun r s4 ⟨u,hr,h4⟩=>?_)
  subst hr
  refine wpAny_passesOwn hp (CK h4 fun _ s5 hq0=>?_)
  obtain ⟨x,H5,I5,r5,y5,st5,fr5⟩:=hq0
  have I5':=I5.pinned (stat fr5) (T.obj _ _ st5)
  refine wpAny_passesOwn hp (CK (hg _ s5 σ3 H5 x u _ I5' r5 (step x H5 y5)) fun _ s6 hq0=>?_)
  obtain ⟨σ6,H6,I6,q6⟩:=hq0
  refine wpAny_passesOwn hp (CK (hb _ s6 σ6 H6 _ I6 q6) fun f s7 q7=>?_)
  have again:∀ {σ7:St} {H7:Hp},Inv X (pins++Jm fp s5.heap) σ7 H7 s7->N σ7 H7->∃ m,m<n/\∃ i σ' H',Inv X pins σ' H' s7/\tn i s7.heap/\(∀ b∈fp,H' b=none)/\W i m σ' H':=fun {σ7 H7} I7 n7=>by
   obtain ⟨m',hm,w7⟩:=hN σ7 H7 n7
   refine ⟨m',hm,i+1,σ7,H7,I7.HQ,T.keep _ _ _ st5 fun b hb o e=>(I7.pin (b,o) (be _ (be _ (FJ hb e)))).1,fun b hb=>?_,w7⟩
   obtain ⟨o,e,d⟩:=T.obj _ _ st5 b hb
   exact (I7.pin (b,o) (be _ (be _ (FJ hb e)))).2.1
  cases f with
  | next=>obtain ⟨σ7,H7,I7,n7⟩:=q7; exact again I7 n7
  | cont=>obtain ⟨σ7,H7,I7,n7⟩:=q7; exact again I7 n7
  | brk=>obtain ⟨σ7,H7,I7,q7⟩:=q7; exact ⟨σ7,H7,I7.HQ,q7⟩
  | ret v=>obtain ⟨x7,σ7,H7,I7,r7,q7⟩:=q7; exact ⟨x7,σ7,H7,I7.HQ,r7,q7⟩
end
theorem Eo {K:PySem.W.Frag} {a:Addr} {xs:List V} {g:TG} {tb:TS} {D:Ends} {σ:St} {H:Hp} (Pv:Nat->St->Hp->Prop) (h0:Pv 0 σ H) (hl:∀ i σ H,i<=xs.length->Pv i σ H->Cz K H a xs)
  (hs:∀ i x σ H,xs[i]? = some x->Pv i σ H->g x σ H fun σ2 H2=>tb { D with nx:=Pv (i+1),ct:=Pv (i+1),bk:=D.nx } σ2 H2) (hd:∀ σ H,Pv xs.length σ H->D.nx σ H) :
  ∃ W:Nat->Nat->St->Hp->Prop,(∃ m,W 0 m σ H)/\∀ i m σ H,W i m σ H ->
   ((Ye K a).stop i H/\D.nx σ H) \/ ((Ye K a).go i H/\∃ N:St->Hp->Prop,(∀ σ' H',N σ' H'->∃ m',m'<m/\W (i+1) m' σ' H')/\∀ x H',(Ye K a).yld i H x H'->g x σ H' fun σ2 H2=>tb { D with nx:=N,ct:=N,bk:=D.nx } σ2 H2):=by
 refine ⟨fun i m σ H=>m=xs.length - i/\i<=xs.length/\Pv i σ H,⟨xs.length,by simp,Nat.zero_le _,h0⟩,?_⟩
 rintro i m σ H ⟨rfl,hi,p⟩
 have q:=hl i σ H hi p
 by_cases hlt:i<xs.length
 ·refine .inr ⟨⟨xs,xs[i],q,by simp [hlt]⟩,Pv (i+1),fun σ' H' p'=>⟨xs.length - (i+1),by omega,rfl,hlt,p'⟩,fun x H' y=>?_⟩
  obtain ⟨e,y⟩:=y
  subst e
  exact hs i x σ _ (y xs q) p
 ·have e:i=xs.length:=by omega
  subst e
  exact .inl ⟨⟨xs,q,aE _⟩,hd σ H p⟩
theorem GC {lo:Int} {n:Nat} {g:TG} {tb:TS} {D:Ends} {σ:St} {H:Hp} (Pv:Nat->St->Hp->Prop) (h0:Pv 0 σ H)
  (hs:∀ i σ H,i<n->Pv i σ H->g (.int (lo+i)) σ H fun σ2 H2=>tb { D with nx:=Pv (i+1),ct:=Pv (i+1),bk:=D.nx } σ2 H2) (hd:∀ σ H,Pv n σ H->D.nx σ H) :
  ∃ W:Nat->Nat->St->Hp->Prop,(∃ m,W 0 m σ H)/\∀ i m σ H,W i m σ H ->
   ((Xj lo n).stop i H/\D.nx σ H) \/ ((Xj lo n).go i H/\∃ N:St->Hp->Prop,(∀ σ' H',N σ' H'->∃ m',m'<m/\W (i+1) m' σ' H')/\∀ x H',(Xj lo n).yld i H x H'->g x σ H' fun σ2 H2=>tb { D with nx:=N,ct:=N,bk:=D.nx } σ2 H2):=by
 refine ⟨fun i m σ H=>m=n - i/\i<=n/\Pv i σ H,⟨n,by simp,Nat.zero_le _,h0⟩,?_⟩
 rintro i m σ H ⟨rfl,hi,p⟩
 by_cases hlt:i<n
 ·refine .inr ⟨hlt,Pv (i+1),fun σ' H' p'=>⟨n - (i+1),by omega,rfl,hlt,p'⟩,fun x H' y=>?_⟩
  obtain ⟨e,y⟩:=y
  subst e y
  exact hs i σ _ hlt p
 ·have e:i=n:=by omega
  subst e
  exact .inl ⟨aE _,hd σ H p⟩
theorem KQ {c:TT} {tb:TS} {D:Ends} {σ:St} {H:Hp} (Pv:St->Hp->Prop) (μ:St->Hp->Nat) (h0:Pv σ H)
  (hs:∀ σ H,Pv σ H->c σ H fun b H1=>if b=true then tb { D with nx:=fun σ' H'=>Pv σ' H'/\μ σ' H'<μ σ H,ct:=fun σ' H'=>Pv σ' H'/\μ σ' H'<μ σ H,bk:=D.nx } σ H1 else D.nx σ H1)
  (mono:∀ σ H Q Q',(∀ b H1,Q b H1->Q' b H1)->c σ H Q->c σ H Q'):Nu c tb D σ H:=by
 refine ⟨fun m σ H=>m=μ σ H/\Pv σ H,⟨_,rfl,h0⟩,?_⟩
 rintro m σ H ⟨rfl,p⟩
 refine mono σ H _ _ (fun b H1 q=>?_) (hs σ H p)
 cases b with
 | true=>exact ⟨_,fun σ' H' ⟨p',l⟩=>⟨_,l,rfl,p'⟩,q⟩
 | false=>exact q
end L2
namespace L2
open PySem PySem.Spec PyProof.Rows
noncomputable abbrev R2:=V->V->Hp->VK->Prop
noncomputable def Gv (X:Cx) (f:Value->Value->Sem Value) (r:R2):Prop :=
 ∀ (pins:List (Addr × Obj)) (s:Shared) (σ:St) (H:Hp) (x y:V) (v u:Value) (Q:VK),Inv X pins σ H s->RelV x v->RelV y u->r x y H Q ->
  wpAny (model X.prog X.w) X.A (f v u) (EP X pins σ Q) X.xe s
noncomputable def qU (X:Cx) (f:Value->Sem Value) (r:V->Hp->VK->Prop):Prop :=
 ∀ (pins:List (Addr × Obj)) (s:Shared) (σ:St) (H:Hp) (x:V) (v:Value) (Q:VK),Inv X pins σ H s->RelV x v->r x H Q ->
  wpAny (model X.prog X.w) X.A (f v) (EP X pins σ Q) X.xe s
noncomputable def GR (X:Cx) (f:Value) (r:List V->Hp->VK->Prop):Prop :=
 ∀ (pins:List (Addr × Obj)) (s:Shared) (σ:St) (H:Hp) (xs:List V) (us:List Value) (Q:VK),Inv X pins σ H s->Vals xs us->r xs H Q ->
  wpAny (model X.prog X.w) X.A (call f us) (EP X pins σ Q) X.xe s
noncomputable def mz (X:Cx) (r:V->Hp->(Bool->Hp->Prop)->Prop):Prop :=
 ∀ (pins:List (Addr × Obj)) (s:Shared) (σ:St) (H:Hp) (x:V) (v:Value) (Q:Bool->Hp->Prop),Inv X pins σ H s->RelV x v->r x H Q ->
  wpAny (model X.prog X.w) X.A (truthy v) (TP X pins σ Q) X.xe s
noncomputable def az (r:R2) (ta tb:TE):TE:=fun σ H Q=>ta σ H fun x H1=>tb σ H1 fun y H2=>r x y H2 Q
noncomputable def rQ (r:V->Hp->VK->Prop) (ta:TE):TE:=fun σ H Q=>ta σ H fun x H1=>r x H1 Q
noncomputable def rI (C:Int->Int->Prop) (g:Int->Int->V):R2:=fun x y H Q=>∃ i j,x=.int i/\y=.int j/\C i j/\Q (g i j) H
noncomputable def V8 (g:Int->Int->V):R2:=fun x y H Q=>∃ i j,x=.int i/\y=.int j/\Q (g i j) H
noncomputable def rU (g:Int->V):V->Hp->VK->Prop:=fun x H Q=>∃ i,x=.int i/\Q (g i) H
section
variable {X:Cx} {a b c:Expr} {ta tb tc:TE} {pos:Pos}
theorem Y9 (ha:PE X a ta) (hb:PE X b tb) {pins:List (Addr × Obj)} {s:Shared} {σ:St} {H:Hp} {R:V->V->Hp->Prop} (I:Inv X pins σ H s)
  (h:ta σ H fun x H1=>tb σ H1 fun y H2=>R x y H2) {Q:Value->Shared->Prop} {f:Value->Value->Sem Value}
  (hf:∀ v u s2 x y H2,Inv X pins σ H2 s2->RelV x v->RelV y u->R x y H2->wpAny (model X.prog X.w) X.A (f v u) Q X.xe s2) :
  wpAny (model X.prog X.w) X.A (eval a X.env) (fun v s₁=>wpAny (model X.prog X.w) X.A (eval b X.env) (fun u s₂=>wpAny (model X.prog X.w) X.A (f v u) Q X.xe s₂) X.xe s₁) X.xe s:=by
 refine CK (ha pins s σ H _ I h) fun v s1 hq0=>?_
 obtain ⟨x,H1,I1,r1,q1⟩:=hq0
 refine CK (hb pins s1 σ H1 _ I1 q1) fun u s2 hq0=>?_
 obtain ⟨y,H2,I2,r2,q2⟩:=hq0
 exact hf v u s2 x y H2 I2 r1 r2 q2
theorem BK {op:Operator} {r:R2} (ho:Gv X (binaryOp op) r) (ha:PE X a ta) (hb:PE X b tb):PE X (.BinOp a op b pos) (az r ta tb):=by
 intro pins s σ H Q I h
 exact wpAny_BinOp (Y9 ha hb I h fun v u s2 x y H2 I2 rx ry q=>ho pins s2 σ H2 x y v u Q I2 rx ry q)
theorem MT {op:UnaryOp} {r:V->Hp->VK->Prop} (ho:qU X (unaryOp op) r) (ha:PE X a ta):PE X (.UnaryOp op a pos) (rQ r ta):=by
 intro pins s σ H Q I h
 exact UnaryOp_ (CK (ha pins s σ H _ I h) fun v s1 ⟨x,H1,I1,r1,q1⟩=>ho pins s1 σ H1 x v Q I1 r1 q1)
theorem Yz {f:Value->Value->Sem Value} {C:Int->Int->Prop} {g:Int->Int->Int}
  (rule:∀ (i j:Int) (t u:Tok) (s:Shared) (Q:Value->Shared->Prop) (E:Value->Shared->Prop),C i j->Q (.int (g i j) s.toks) { s with toks:=s.toks+1 }->wpAny (model X.prog X.w) X.A (f (.int i t) (.int j u)) Q E s) :
  Gv X f (rI C fun i j=>.int (g i j)):=by
 intro pins s σ H x y v u Q I rx ry h
 obtain ⟨i,j,rfl,rfl,hc,q⟩:=h
 obtain ⟨t,rfl⟩:=rx
 obtain ⟨t',rfl⟩:=ry
 exact rule i j t t' s _ _ hc ⟨.int (g i j),H,I.tok _,⟨_,rfl⟩,q⟩
theorem Xe {f:Value->Value->Sem Value} {g:Int->Int->Int}
  (rule:∀ (i j:Int) (t u:Tok) (s:Shared) (Q:Value->Shared->Prop) (E:Value->Shared->Prop),Q (.int (g i j) s.toks) { s with toks:=s.toks+1 }->wpAny (model X.prog X.w) X.A (f (.int i t) (.int j u)) Q E s) :
  Gv X f (V8 fun i j=>.int (g i j)):=by
 intro pins s σ H x y v u Q I rx ry h
 obtain ⟨i,j,rfl,rfl,q⟩:=h
 obtain ⟨t,rfl⟩:=rx
 obtain ⟨t',rfl⟩:=ry
 exact rule i j t t' s _ _ ⟨.int (g i j),H,I.tok _,⟨_,rfl⟩,q⟩
theorem Wk {f:Value->Value->Sem Value} {g:Int->Int->Bool}
  (rule:∀ (i j:Int) (t u:Tok) (s:Shared) (Q:Value->Shared->Prop) (E:Value->Shared->Prop),Q (.bool (g i j)) s->wpAny (model X.prog X.w) X.A (f (.int i t) (.int j u)) Q E s) :
  Gv X f (V8 fun i j=>.bl (g i j)):=by
 intro pins s σ H x y v u Q I rx ry h
 obtain ⟨i,j,rfl,rfl,q⟩:=h
 obtain ⟨t,rfl⟩:=rx
 obtain ⟨t',rfl⟩:=ry
 exact rule i j t t' s _ _ ⟨.bl (g i j),H,I,rfl,q⟩
noncomputable def pH (i j:Int):Prop:=0<j/\j<1073741824
noncomputable def dR (i j:Int):Prop:=0<=j/\j<=1000000/\i.natAbs<2 ^ 64
noncomputable def Zk (i j:Int):Prop:=(-(2 ^ 64)<i/\i<2 ^ 64) \/ (-(2 ^ 64)<j/\j<2 ^ 64)
theorem Zk.ok {i j:Int} (h:Zk i j):IntMulOk i j:=by
 rcases h with ⟨h1,h2⟩ | ⟨h1,h2⟩
 ·exact .of_left (intBits_le_64 h1 h2)
 ·exact .of_right (intBits_le_64 h1 h2)
theorem two_pow_nn (k:Nat):(0:Int)<=2 ^ k:=by
 rw [two_pow_cast]
 exact kx _
theorem B_:Gv X (binaryOp .Add) (V8 fun i j=>.int (i+j)):=Xe fun _ _ _ _ _ _ _ q=>add_int q
theorem Dz:Gv X (binaryOp .Sub) (V8 fun i j=>.int (i - j)):=Xe fun _ _ _ _ _ _ _ q=>sub_int q
theorem FN:Gv X (binaryOp .Mult) (rI Zk fun i j=>.int (i * j)):=Yz fun _ _ _ _ _ _ _ hc q=>mul_int q hc.ok
theorem IW:Gv X (binaryOp .FloorDiv) (rI pH fun i j=>.int (i / j)):=Yz fun i j _ _ _ _ _ hc q=>by
 have h1:(0:Int)<j:=hc.1
 have h2:j<1073741824:=hc.2
 exact floordiv_int (by omega) (by rw [Int.fdiv_eq_ediv_of_nonneg i (by omega)]; exact q) (.inl (PyProof.noPylong_small (by omega)))
theorem El:Gv X (binaryOp .Mod) (rI (fun _ j=>0<j) fun i j=>.int (i % j)):=Yz fun i j _ _ _ _ _ hc q=>by
 have h1:(0:Int)<j:=hc
 exact mod_int' (by omega) (by rw [Int.fmod_eq_emod_of_nonneg i (by omega)]; exact q)
theorem Z5:Gv X (binaryOp .Pow) (rI dR fun i j=>.int (i ^ j.toNat)):=Yz fun _ _ _ _ _ _ _ hc q=>pow_int_small hc.1 hc.2.1 hc.2.2 q
theorem Jr:Gv X (binaryOp .LShift) (rI dR fun i j=>.int (i * 2 ^ j.toNat)):=Yz fun _ _ _ _ _ _ _ hc q=>lshift_int_small hc.1 hc.2.1 hc.2.2 q
theorem HJ:Gv X (binaryOp .RShift) (rI (fun _ j=>0<=j) fun i j=>.int (i / 2 ^ j.toNat)):=Yz fun i j _ _ _ _ _ hc q =>
 rshift_int hc (by rw [Int.fdiv_eq_ediv_of_nonneg i (two_pow_nn _)]; exact q)
theorem G8:Gv X (binaryOp .BitAnd) (V8 fun i j=>.int (Builtin.bitAnd i j)):=Xe fun _ _ _ _ _ _ _ q=>and_int q
theorem Lw:Gv X (binaryOp .BitOr) (V8 fun i j=>.int (Builtin.bitOr i j)):=Xe fun _ _ _ _ _ _ _ q=>or_int q
theorem rO {f:Value->Sem Value} {g:Int->Int}
  (rule:∀ (i:Int) (t:Tok) (s:Shared) (Q:Value->Shared->Prop) (E:Value->Shared->Prop),Q (.int (g i) s.toks) { s with toks:=s.toks+1 }->wpAny (model X.prog X.w) X.A (f (.int i t)) Q E s) :
  qU X f (rU fun i=>.int (g i)):=by
 intro pins s σ H x v Q I rx h
 obtain ⟨i,rfl,q⟩:=h
 obtain ⟨t,rfl⟩:=rx
 exact rule i t s _ _ ⟨.int (g i),H,I.tok _,⟨_,rfl⟩,q⟩
theorem Jf:qU X (unaryOp .USub) (rU fun i=>.int (-i)):=rO fun _ _ _ _ _ q=>neg_int q
end
noncomputable def ir:V->V->Bool
 | .non,.non=>true | .non,.int _=>true | .int _,.non=>true | .non,.bl _=>true | .bl _,.non=>true | .non,.str _=>true | .str _,.non=>true
 | .int _,.int _=>true | .bl _,.bl _=>true | .str _,.str _=>true | .byt _,.byt _=>true
 | .int _,.str _=>true | .str _,.int _=>true | .bl _,.str _=>true | .str _,.bl _=>true
 | _,_=>false
noncomputable def rT:R2:=fun x y H Q=>ir x y=true/\Q (.bl (decide (x=y))) H
noncomputable def rF:R2:=fun x y H Q=>ir x y=true/\Q (.bl (!decide (x=y))) H
theorem RD {i j:Int}:decide (V.int i=V.int j)=(i == j):=by
 rw [fw]
 simp
theorem Ui {i j:Bool}:decide (V.bl i=V.bl j)=(i == j):=by
 rw [fw]
 simp
theorem IK {i j:Str}:decide (V.str i=V.str j)=(i == j):=by
 rw [fw]
 simp
theorem Ra {i j:Array UInt8}:decide (V.byt i=V.byt j)=(i.toList == j.toList):=by
 rw [fw]
 cases i
 cases j
 simp
section
variable {X:Cx} {a b c:Expr} {ta tb tc:TE} {pos:Pos}
theorem Bt {pins:List (Addr × Obj)} {σ:St} {H:Hp} {s:Shared} {Q:VK} {k k':Bool} (I:Inv X pins σ H s) (q:Q (.bl k) H) (e:k=k'):EP X pins σ Q (.bool k') s:=by
 subst e
 exact ⟨.bl k,H,I,rfl,q⟩
theorem Cp:Gv X (compareOp .Eq) rT:=by
 intro pins s σ H x y v u Q I rx ry h
 obtain ⟨hs,q⟩:=h
 cases x with
 | non =>
  cases rx
  cases y with
  | non=>cases ry; exact PySem.EqNone.eq_none_none (Bt I q (by simp))
  | bl j=>cases ry; exact PySem.EqNone.eq_none_bool (Bt I q (by simp))
  | int j=>obtain ⟨t',rfl⟩:=ry; exact PySem.EqNone.eq_none_int (Bt I q (by simp))
  | str j=>obtain ⟨t',rfl⟩:=ry; exact PySem.EqNone.eq_none_str (Bt I q (by simp))
  | _=>exact absurd (show false=true from hs) Bool.false_ne_true
 | bl i =>
  cases rx
  cases y with
  | non=>cases ry; exact PySem.EqNone.eq_bool_none (Bt I q (by simp))
  | bl j=>cases ry; exact eq_bool (Bt I q Ui)
  | str j=>obtain ⟨t',rfl⟩:=ry; exact PySem.EqMixed.eq_bool_str (Bt I q (by simp))
  | _=>exact absurd (show false=true from hs) Bool.false_ne_true
 | int i =>
  obtain ⟨t,rfl⟩:=rx
  cases y with
  | non=>cases ry; exact PySem.EqNone.eq_int_none (Bt I q (by simp))
  | int j=>obtain ⟨t',rfl⟩:=ry; exact eq_int (Bt I q RD)
  | str j=>obtain ⟨t',rfl⟩:=ry; exact PySem.EqMixed.eq_int_str (Bt I q (by simp))
  | _=>exact absurd (show false=true from hs) Bool.false_ne_true
 | str i =>
  obtain ⟨t,rfl⟩:=rx
  cases y with
  | non=>cases ry; exact PySem.EqNone.eq_str_none (Bt I q (by simp))
  | bl j=>cases ry; exact PySem.EqMixed.eq_str_bool (Bt I q (by simp))
  | int j=>obtain ⟨t',rfl⟩:=ry; exact PySem.EqMixed.eq_str_int (Bt I q (by simp))
  | str j=>obtain ⟨t',rfl⟩:=ry; exact eq_str (Bt I q IK)
  | _=>exact absurd (show false=true from hs) Bool.false_ne_true
 | byt i =>
  obtain ⟨t,rfl⟩:=rx
  cases y with
  | byt j=>obtain ⟨t',rfl⟩:=ry; exact PySem.W.eq_bytes (Bt I q Ra)
  | _=>exact absurd (show false=true from hs) Bool.false_ne_true
 | _=>cases y <;> exact absurd (show false=true from hs) Bool.false_ne_true
theorem Ib:Gv X (compareOp .NotEq) rF:=by
 intro pins s σ H x y v u Q I rx ry h
 obtain ⟨hs,q⟩:=h
 cases x with
 | non =>
  cases rx
  cases y with
  | non=>cases ry; exact PySem.EqNone.ne_none_none (Bt I q (by simp))
  | bl j=>cases ry; exact PySem.EqNone.ne_none_bool (Bt I q (by simp))
  | int j=>obtain ⟨t',rfl⟩:=ry; exact PySem.EqNone.ne_none_int (Bt I q (by simp))
  | str j=>obtain ⟨t',rfl⟩:=ry; exact PySem.EqNone.ne_none_str (Bt I q (by simp))
  | _=>exact absurd (show false=true from hs) Bool.false_ne_true
 | bl i =>
  cases rx
  cases y with
  | non=>cases ry; exact PySem.EqNone.ne_bool_none (Bt I q (by simp))
  | bl j=>cases ry; exact ne_bool (Bt I q (congrArg not Ui))
  | str j=>obtain ⟨t',rfl⟩:=ry; exact PySem.EqMixed.ne_bool_str (Bt I q (by simp))
  | _=>exact absurd (show false=true from hs) Bool.false_ne_true
 | int i =>
  obtain ⟨t,rfl⟩:=rx
  cases y with
  | non=>cases ry; exact PySem.EqNone.ne_int_none (Bt I q (by simp))
  | int j=>obtain ⟨t',rfl⟩:=ry; exact ne_int (Bt I q (congrArg not RD))
  | str j=>obtain ⟨t',rfl⟩:=ry; exact PySem.EqMixed.ne_int_str (Bt I q (by simp))
  | _=>exact absurd (show false=true from hs) Bool.false_ne_true
 | str i =>
  obtain ⟨t,rfl⟩:=rx
  cases y with
  | non=>cases ry; exact PySem.EqNone.ne_str_none (Bt I q (by simp))
  | bl j=>cases ry; exact PySem.EqMixed.ne_str_bool (Bt I q (by simp))
  | int j=>obtain ⟨t',rfl⟩:=ry; exact PySem.EqMixed.ne_str_int (Bt I q (by simp))
  | str j=>obtain ⟨t',rfl⟩:=ry; exact ne_str (Bt I q (congrArg not IK))
  | _=>exact absurd (show false=true from hs) Bool.false_ne_true
 | byt i =>
  obtain ⟨t,rfl⟩:=rx
  cases y with
  | byt j=>obtain ⟨t',rfl⟩:=ry; exact PySem.W.ne_bytes (Bt I q (congrArg not Ra))
  | _=>exact absurd (show false=true from hs) Bool.false_ne_true
 | _=>cases y <;> exact absurd (show false=true from hs) Bool.false_ne_true
theorem HD:Gv X (compareOp .Lt) (V8 fun i j=>.bl (decide (i<j))):=Wk fun _ _ _ _ _ _ _ q=>lt_int q
theorem Ff:Gv X (compareOp .LtE) (V8 fun i j=>.bl (decide (i<=j))):=Wk fun _ _ _ _ _ _ _ q=>le_int q
theorem Xm:Gv X (compareOp .Gt) (V8 fun i j=>.bl (decide (j<i))):=Wk fun _ _ _ _ _ _ _ q=>gt_int q
theorem fu:Gv X (compareOp .GtE) (V8 fun i j=>.bl (decide (j<=i))):=Wk fun _ _ _ _ _ _ _ q=>ge_int q
theorem Tt:Gv X (compareOp .In) (fun x y H Q=>∃ i j,x=.str i/\y=.str j/\Q (.bl (!(Builtin.Str.occurrences j i 0 j.length 1).isEmpty)) H):=by
 intro pins s σ H x y v u Q I rx ry h
 obtain ⟨i,j,rfl,rfl,q⟩:=h
 obtain ⟨t,rfl⟩:=rx
 obtain ⟨t',rfl⟩:=ry
 exact in_str (Bt I q rfl)
theorem Zi:Gv X (compareOp .Is) (fun x y H Q=>y=.non/\Q (.bl (decide (x=.non))) H):=by
 intro pins s σ H x y v u Q I rx ry h
 obtain ⟨rfl,q⟩:=h
 cases ry
 refine is_none_gen (Bt I q ?_)
 cases x <;> first
  | (cases rx; rfl)
  | (obtain ⟨t,rfl⟩:=rx; rfl)
theorem Rj:Gv X (compareOp .IsNot) (fun x y H Q=>y=.non/\Q (.bl (!decide (x=.non))) H):=by
 intro pins s σ H x y v u Q I rx ry h
 obtain ⟨rfl,q⟩:=h
 cases ry
 refine isnot_none_gen (Bt I q ?_)
 cases x <;> first
  | (cases rx; rfl)
  | (obtain ⟨t,rfl⟩:=rx; rfl)
theorem Bc (b:Expr) {op:CmpOp} (h:op ≠ .In:=by decide) (h2:op ≠ .NotIn:=by decide):behindInMarks op b=false:=by
 have e1:(op == CmpOp.In)=false:=by cases op <;> first | rfl | exact absurd rfl h
 have e2:(op == CmpOp.NotIn)=false:=by cases op <;> first | rfl | exact absurd rfl h2
 cases b <;> simp [behindInMarks,e1,e2]
theorem Dt {op:CmpOp} {r:R2} (ho:Gv X (compareOp op) r) (ha:PE X a ta) (hb:PE X b tb) (hm:behindInMarks op b=false):PE X (.Compare a [op] [b] pos) (az r ta tb):=by
 intro pins s σ H Q I h
 exact wpAny_Compare1 (Y9 ha hb I h fun v u s2 x y H2 I2 rx ry q=>ho pins s2 σ H2 x y v u Q I2 rx ry q) hm
noncomputable def YJ (t:TE):TT:=fun σ H Q=>t σ H fun x H'=>∃ k,x=.bl k/\Q k H'
theorem BX {op:CmpOp} {r:R2} (ho:Gv X (compareOp op) r) (ha:PE X a ta) (hb:PE X b tb) (hm:behindInMarks op b=false):PT X (.Compare a [op] [b] pos) (YJ (az r ta tb)):=by
 intro pins s σ H Q I h
 refine wpAny_isTrue_Compare1 (CK (ha pins s σ H _ I h) fun v s1 ⟨x,H1,I1,r1,q1⟩=>CK (hb pins s1 σ H1 _ I1 q1) fun u s2 ⟨y,H2,I2,r2,q2⟩ =>
  CK (ho pins s2 σ H2 x y v u _ I2 r1 r2 q2) fun c s3 ⟨z,H3,I3,r3,k,e,q3⟩=>?_) hm
 subst e
 cases r3
 exact wpAny_truthy_bool ⟨H3,I3,q3⟩
noncomputable def UL (r r':R2) (ta tb tc:TE):TE:=fun σ H Q=>ta σ H fun x H1=>tb σ H1 fun y H2=>r x y H2 fun z H3=>∃ k,z=.bl k /\
 (if k=true then tc σ H3 fun w' H4=>r' y w' H4 Q else Q (.bl false) H3)
theorem JP {op op':CmpOp} {r r':R2} (ho:Gv X (compareOp op) r) (ho':Gv X (compareOp op') r') (ha:PE X a ta) (hb:PE X b tb) (hc:PE X c tc)
  (hm:lastMarks [op,op'] [b,c]=false:=by with_unfolding_all rfl):PE X (.Compare a [op,op'] [b,c] pos) (UL r r' ta tb tc):=by
 intro pins s σ H Q I h
 refine Compare_chain (CK (ha pins s σ H _ I h) fun v s1 ⟨x,H1,I1,r1,q1⟩=>chain_link (CK (hb pins s1 σ H1 _ I1 q1) fun u s2 ⟨y,H2,I2,r2,q2⟩ =>
  CK (ho pins s2 σ H2 x y v u _ I2 r1 r2 q2) fun d s3 ⟨z,H3,I3,r3,k,e,q3⟩=>?_)) hm
 subst e
 cases r3
 refine wpAny_truthy_bool ?_
 cases k with
 | false=>exact ite_ff ⟨.bl false,H3,I3,rfl,q3⟩
 | true=>exact ite_tt (chain_last (CK (hc pins s3 σ H3 _ I3 q3) fun w' s4 ⟨z',H4,I4,r4,q4⟩=>ho' pins s4 σ H4 y z' u w' Q I4 r2 r4 q4))
theorem Fg {op op':CmpOp} {r r':R2} (ho:Gv X (compareOp op) r) (ho':Gv X (compareOp op') r') (ha:PE X a ta) (hb:PE X b tb) (hc:PE X c tc)
  (hm:lastMarks [op,op'] [b,c]=false:=by with_unfolding_all rfl):PT X (.Compare a [op,op'] [b,c] pos) (YJ (UL r r' ta tb tc)):=by
 intro pins s σ H Q I h
 refine isTrue_chain (CK (ha pins s σ H _ I h) fun v s1 ⟨x,H1,I1,r1,q1⟩=>test_link (CK (hb pins s1 σ H1 _ I1 q1) fun u s2 ⟨y,H2,I2,r2,q2⟩ =>
  CK (ho pins s2 σ H2 x y v u _ I2 r1 r2 q2) fun d s3 ⟨z,H3,I3,r3,k,e,q3⟩=>?_)) hm
 subst e
 cases r3
 refine wpAny_truthy_bool ?_
 cases k with
 | false =>
  obtain ⟨k',e',q'⟩:=q3
  cases e'
  exact ite_ff ⟨H3,I3,q'⟩
 | true =>
  refine ite_tt (test_last (CK (hc pins s3 σ H3 _ I3 q3) fun w' s4 ⟨z',H4,I4,r4,q4⟩=>CK (ho' pins s4 σ H4 y z' u w' _ I4 r2 r4 q4) fun d' s5 hq0=>?_))
  obtain ⟨z2,H5,I5,r5,k2,e2,q5⟩:=hq0
  subst e2
  cases r5
  exact wpAny_truthy_bool ⟨H5,I5,q5⟩
noncomputable def eN (K:PySem.W.Frag) (x:V) (H:Hp) (k:Bool):Prop :=
 match x with
 | .non=>k=false
 | .bl b=>k=b
 | .int i=>k=(i != 0)
 | .str y=>y.length<=sizeLine/\k=((y.length:Int) != 0)
 | .byt y=>y.size<=sizeLine/\k=((y.size:Int) != 0)
 | .ref p=>(∃ xs,Cz K H p xs/\k = !xs.isEmpty) \/ (∃ xs,JF K H p xs/\k = !xs.isEmpty) \/ ∃ kvs,H p=some (.dK kvs)/\k = !kvs.isEmpty
 | _=>False
theorem QT {κ:Type} {kvs:List (κ × V)} {vs:List (κ × Value)} (r:KV kvs vs):(!vs.isEmpty) = !kvs.isEmpty:=by
 cases r <;> rfl
theorem KN {xs:List V} {its:List Value} (r:Vals xs its):(!its.toArray.isEmpty) = !xs.isEmpty:=by
 cases r <;> simp
theorem Il:(sizeLine:Nat)<2 ^ 63:=by rw [sizeLine_eq]; decide
theorem ZV:mz X (fun x H Q=>∃ k,eN X.K x H k/\Q k H):=by
 intro pins s σ H x v Q I rx h
 obtain ⟨k,e,q⟩:=h
 have hl:=Il
 have hs:sizeLine=16777216:=sizeLine_eq
 cases x with
 | non =>
  cases rx
  have e':k=false:=e
  subst e'
  exact truthy_none ⟨H,I,q⟩
 | bl b =>
  cases rx
  have e':k=b:=e
  subst e'
  exact wpAny_truthy_bool ⟨H,I,q⟩
 | int i =>
  obtain ⟨t,rfl⟩:=rx
  have e':k=(i != 0):=e
  subst e'
  exact PySem.P.truthy_int ⟨H,I,q⟩
 | str y =>
  obtain ⟨t,rfl⟩:=rx
  obtain ⟨hy,e'⟩:y.length<=sizeLine/\k=((y.length:Int) != 0):=e
  subst e'
  exact PySem.P.truthy_str (by omega) ⟨H,I.tok _,q⟩
 | byt y =>
  obtain ⟨t,rfl⟩:=rx
  obtain ⟨hy,e'⟩:y.size<=sizeLine/\k=((y.size:Int) != 0):=e
  subst e'
  exact PySem.W.truthy_bytes (by omega) ⟨H,I.tok _,q⟩
 | ref p =>
  cases rx
  have e':(∃ xs,Cz X.K H p xs/\k = !xs.isEmpty) \/ (∃ xs,JF X.K H p xs/\k = !xs.isEmpty) \/ ∃ kvs,H p=some (.dK kvs)/\k = !kvs.isEmpty:=e
  rcases e' with ⟨xs,hx,e'⟩ | ⟨xs,hx,e'⟩ | ⟨kvs,hx,e'⟩
  ·subst e'
   obtain ⟨its,r,pl,hz⟩:=I.list hx
   have hlen:=r.length
   exact wpAny_truthy_list pl.isList (by simp only [List.size_toArray]; omega) ⟨H,I.tok _,by rw [KN r]; exact q⟩
  ·subst e'
   obtain ⟨its,r,pl,hz⟩:=I.tuple hx
   have hlen:=r.length
   exact truthy_tuple pl (by simp only [List.size_toArray]; omega) ⟨H,I.tok _,by rw [KN r]; exact q⟩
  ·subst e'
   obtain ⟨hz,hS,vs,r,m⟩:kvs.length<=sizeLine/\(p == sysModules)=false/\∃ vs,KV kvs vs/\s.heap.DictOf (CG X.prog X.w) p vs:=I.hok p _ hx
   have hlen:kvs.length=vs.length:=Paired.length r
   exact wpAny_truthy_dict hS m (by omega) ⟨H,I.tok _,by rw [QT r]; exact q⟩
 | _=>exact (show False from e).elim
theorem Kd (ha:PE X a ta) (he:∀ whole,isTrue a X.env whole=(do let v ← whole; standAt a.pos; holding [v] (truthy v))) :
  PT X a (fun σ H Q=>ta σ H fun x H'=>∃ k,eN X.K x H' k/\Q k H'):=by
 intro pins s σ H Q I h
 exact isTrue_plain (CK (ha pins s σ H _ I h) fun v s1 ⟨x,H1,I1,r1,q1⟩=>ZV pins s1 σ H1 x v Q I1 r1 q1) (he _)
theorem Im:Gv X (binaryOp .Add) (fun x y H Q=>∃ i j,x=.str i/\y=.str j/\i.length+j.length<=sizeLine/\Q (.str (i++j)) H):=by
 intro pins s σ H x y v u Q I rx ry h
 obtain ⟨i,j,rfl,rfl,hz,q⟩:=h
 obtain ⟨t,rfl⟩:=rx
 obtain ⟨t',rfl⟩:=ry
 exact add_str (fun t' tk=>⟨.str (i++j),H,I.tok _,⟨_,rfl⟩,q⟩) hz
theorem vals1 {x:V} {us:List Value} (r:Vals [x] us):∃ u,us=[u]/\RelV x u:=by
 cases r with
 | cons r1 r2=>cases r2; exact ⟨_,rfl,r1⟩
theorem vals2 {x y:V} {us:List Value} (r:Vals [x,y] us):∃ u w',us=[u,w']/\RelV x u/\RelV y w':=by
 cases r with
 | cons r1 r2 =>
  cases r2 with
  | cons r3 r4=>cases r4; exact ⟨_,_,rfl,r1,r3⟩
theorem Ux:GR X (.builtin "abs") (fun xs H Q=>∃ i,xs=[.int i]/\Q (.int (if i<0 then -i else i)) H):=by
 intro pins s σ H xs us Q I r h
 obtain ⟨i,rfl,q⟩:=h
 obtain ⟨u,rfl,t,rfl⟩:=vals1 r
 exact call_abs_int fun u tk=>⟨.int (if i<0 then -i else i),H,I.tok _,⟨_,rfl⟩,q⟩
theorem Lj (hc:X.calm=true):GR X (.builtin "max") (fun xs H Q=>∃ i j,xs=[.int i,.int j]/\Q (.int (if j > i then j else i)) H):=by
 intro pins s σ H xs us Q I r h
 obtain ⟨i,j,rfl,q⟩:=h
 obtain ⟨u,w',rfl,⟨t,rfl⟩,⟨t',rfl⟩⟩:=vals2 r
 refine max_two_ints (I.ok.hd hc) fun h' tk k=>⟨_,H,I.kept k,?_,q⟩
 by_cases hj:j > i
 ·rw [if_pos hj,if_pos hj]; exact ⟨_,rfl⟩
 ·rw [if_neg hj,if_neg hj]; exact ⟨_,rfl⟩
theorem Jo:GR X (.type "int") (fun xs H Q=>(∃ i,xs=[.int i]/\Q (.int i) H) \/ ∃ k,xs=[.bl k]/\Q (.int (if k then 1 else 0)) H):=by
 intro pins s σ H xs us Q I r h
 rcases h with ⟨i,rfl,q⟩ | ⟨k,rfl,q⟩
 ·obtain ⟨u,rfl,t,rfl⟩:=vals1 r
  exact call_int_int ⟨.int i,H,I,⟨_,rfl⟩,q⟩
 ·obtain ⟨u,rfl,r1⟩:=vals1 r
  cases r1
  exact call_int_bool ⟨.int (if k then 1 else 0),H,I.tok _,⟨_,rfl⟩,q⟩
end
end L2
namespace L2
open PySem PySem.Spec PyProof.Rows
structure QV (h:Heap) (x dx C:Addr) (mA:Str->Option Value):Prop where
 obj:h.get? x=some (PySem.W.instObj C dx)
 ns:h.Ns1 dx mA
 ne:dx ≠ x
theorem Td {h:Heap} {dx:Addr} {mA:Str->Option Value} (n:h.Ns1 dx mA):∃ od,h.get? dx=some od/\∀ name,PySem.W.lookIn name od=some (mA name):=by
 obtain ⟨o,es,ep,ho,hd,hk,_,hm⟩:=n
 refine ⟨o,ho,fun name=>?_⟩
 have e:=hm name
 unfold nsFind findBy at e
 rw [← Array.find?_toList] at e
 unfold PySem.W.lookIn
 rw [hd]
 dsimp only
 split
 ·rename_i y q
  rw [q] at e
  exact congrArg some e
 ·rename_i q
  rw [q] at e
  have a:es.toList.any (·.refKey)=false:=by
   rw [List.any_eq_false]
   intro y hy
   obtain ⟨z,t,hkey⟩:=hk y (Array.mem_toList_iff.mp hy)
   simp [DictEntry.refKey,hkey]
  have a':¬ es.toList.any (·.refKey)=true:=by rw [a]; exact fi
  rw [if_neg a']
  exact congrArg some e
theorem QV.look {h:Heap} {x dx C:Addr} {mA:Str->Option Value} (I:QV h x dx C mA):∃ od,PySem.W.InstAt h x (PySem.W.instObj C dx) C (some od)/\∀ name,PySem.W.lookIn name od=some (mA name) :=
 let ⟨od,ho,hl⟩:=Td I.ns
 ⟨od,⟨I.obj,rfl,rfl,ho⟩,hl⟩
section
variable {prog:Program} {w:World} {A:Around} {E:Value->Shared->Prop} {s:Shared} {K:PySem.W.Frag} {x dx C f:Addr} {mA:Str->Option Value} {name:Str} {v:Value}
theorem Wx {expr:Bool} {Q:Value->Shared->Prop} (X:K.In s.heap) (I:QV s.heap x dx C mA) (hg:PySem.W.plainGet K C name=true) (hh:PySem.W.hasDictIn K C=true)
  (ha:PySem.W.findIn K (.ref C) name=some none) (hv:mA name=some v) (hv':PySem.W.handedIn v=true) (h:Q v { s with toks:=s.toks+1 }) :
  wpAny (model prog w) A (getAttr (.ref x) name expr) Q E s:=by
 obtain ⟨od,J,hl⟩:=I.look
 exact PySem.W.get_value X J (PySem.W.plainGet_of hg).1 (PySem.W.findObj_own hh ha rfl (by rw [hl,hv])) hv' h
theorem Uk {pl:Sem Bool} {Q:Value × List Value->Shared->Prop} (X:K.In s.heap) (I:QV s.heap x dx C mA) (hg:PySem.W.plainGet K C name=true)
  (hf:PySem.W.findIn K (.ref C) name=some (some (.ref f))) (ht:PySem.W.isFn K (.ref f)=true) (hv:mA name=none) (h:Q (.ref f,[.ref x]) s) :
  wpAny (model prog w) A (getMethod (.ref x) name pl) Q E s:=by
 obtain ⟨od,J,hl⟩:=I.look
 exact PySem.W.method_fn X J (PySem.W.plainGet_of hg).1 (PySem.W.plainGet_of hg).2 hf (beq_iff_eq.mp ht) (by show (PySem.W.lookIn name od).map (·.isSome)=some false; rw [hl,hv]; rfl) h
theorem V_ {ns:List Str} {Q:Unit->Shared->Prop} (X:K.In s.heap) (I:QV s.heap x dx C mA)
  (hs:PySem.W.findIn K (.ref C) "__setattr__" = some (some (.builtin "object.__setattr__"))) (hp:PySem.W.plainOver K C=true) (ht:PySem.W.takerIn K C name=some none) (hh:PySem.W.hasDictIn K C=true)
  (hw:PySem.Within mA ns) (hsz:ns.length<=sizeLine)
  (h:∀ h',QV h' x dx C (fun y=>if y=name then some v else mA y)->Heap.SameBut dx s.heap h'->Q () { s with heap:=h',toks:=s.toks+2 }) :
  wpAny (model prog w) A (setAttr (.ref x) name v) Q E s:=by
 obtain ⟨od,J,hl⟩:=I.look
 refine PySem.W.set_plain X J hs (PySem.W.osa_open (s:={ s with toks:=s.toks+1 }) (r:=none) X J hp ht fun b=>?_)
 obtain ⟨cd,hc,hd'⟩:=PySem.W.any_some hh
 have hx:s.heap.get? x=some ⟨.ref C,some dx,.plain,#[]⟩:=I.obj
 refine wpAny_bind (wpAny_pure (wpAny_bind (wpAny_bind (wpAny_loadPart hx (wpAny_bind (PySem.W.Looks.here (s:={ s with toks:=s.toks+1 }) (PySem.W.looks_clsIn X hc) ?_))))))
 rw [hd']
 refine wpAny_pure (a:=some dx) (wpAny_bind (wpAny_pure (wpAny_bind ?_)))
 refine wpAny_nsSet1 (s:={ s with toks:=s.toks+1 }) I.ns fun h' hn2 hs2=>?_
 obtain ⟨oD,esD,epD,hoD,hdD,hcD⟩:=hn2.count (PySem.Within.cons name v hw)
 refine wpAny_bind (wpAny_lookBehind hoD (by rw [hdD]; exact pastItsLine_dict (bE hcD (by rw [bv]; omega))) ?_)
 exact wpAny_pure (h _ ⟨(hs2.2 _ (Ne.symm I.ne)).trans I.obj,hn2,I.ne⟩ hs2)
theorem V2 {R:Result->Shared->Prop} {vs:List Value} {kw:List (Str × Value)} (X:K.In s.heap) (hm:PySem.W.makesIn K C=true)
  (hi:PySem.W.findIn K (.ref C) "__init__" = some (some (.ref f))) (hf:PySem.W.typeIn K (.ref f)=some (.type "function"))
  (h:codeAny (model prog w) (A.under (.builtin "type.__call__" ⟨.ref C::vs,kw⟩)) (.call (.ref f) ⟨.ref (s.heap.objs.size+1)::vs,kw⟩) (PySem.W.InitBack (s.heap.objs.size+1) R)
   { s with heap:=(s.heap.push PySem.W.emptyDict).push (PySem.W.instObj C s.heap.objs.size) }) :
  codeAny (model prog w) A (.call (.ref C) ⟨vs,kw⟩) R s:=by
 obtain ⟨hh,g,d,t,os⟩:=s
 exact PySem.W.make_core (PySem.W.makes_of X hm) (PySem.W.looks_findIn X hi) (fun self=>PySem.W.bind_fn X self hf) (.inl rfl) h
end
noncomputable def Bl (f:Str) (v:V):List (Str × V)->List (Str × V)
 | []=>[(f,v)]
 | (g,x)::r=>if g=f then (g,v)::r else (g,x)::Bl f v r
theorem Az (f g:Str) (v:V):∀ fs:List (Str × V),(Bl f v fs).lookup g=if g=f then some v else fs.lookup g
 | []=>by
  show List.lookup g [(f,v)]=_
  by_cases h:g=f
  ·have hb:(g == f)=true:=beq_iff_eq.mpr h
   simp only [List.lookup,hb,if_pos h]
  ·have hb:(g == f)=false:=beq_eq_false_iff_ne.mpr h
   simp only [List.lookup,hb,if_neg h]
 | (k,x)::r=>by
  have ih:=Az f g v r
  rw [show Bl f v ((k,x)::r)=(if k=f then (k,v)::r else (k,x)::Bl f v r) from rfl]
  by_cases hk:k=f
  ·rw [if_pos hk]
   by_cases h:g=k
   ·have hb:(g == k)=true:=beq_iff_eq.mpr h
    simp only [List.lookup,hb,if_pos (h.trans hk)]
   ·have hb:(g == k)=false:=beq_eq_false_iff_ne.mpr h
    simp only [List.lookup,hb,if_neg (fun e:g=f=>h (e.trans hk.symm))]
  ·rw [if_neg hk]
   by_cases h:g=k
   ·have hb:(g == k)=true:=beq_iff_eq.mpr h
    simp only [List.lookup,hb,if_neg (fun e:g=f=>hk (h.symm.trans e))]
   ·have hb:(g == k)=false:=beq_eq_false_iff_ne.mpr h
    simp only [List.lookup,hb]
    exact ih
theorem Jd (f:Str) (v:V):∀ fs:List (Str × V),f∈(Bl f v fs).map (·.1)/\∀ g,g∈fs.map (·.1)->g∈(Bl f v fs).map (·.1)
 | []=>⟨by simp [Bl],fun g h=>by simp at h⟩
 | (k,x)::r=>by
  obtain ⟨i1,i2⟩:=Jd f v r
  rw [show Bl f v ((k,x)::r)=(if k=f then (k,v)::r else (k,x)::Bl f v r) from rfl]
  by_cases hk:k=f
  ·rw [if_pos hk]
   subst hk
   exact ⟨by simp,fun g h=>by simpa using h⟩
  ·rw [if_neg hk]
   refine ⟨?_,fun g h=>?_⟩
   ·rw [dv]
    exact df _ i1
   ·rw [dv] at h ⊢
    rcases eh.mp h with e | e
    ·exact eh.mpr (.inl e)
    ·exact df _ (i2 g e)
theorem J4 (f:Str) (v:V):∀ fs:List (Str × V),(Bl f v fs).length<=fs.length+1
 | []=>by simp [Bl]
 | (k,x)::r=>by
  have ih:=J4 f v r
  rw [show Bl f v ((k,x)::r)=(if k=f then (k,v)::r else (k,x)::Bl f v r) from rfl]
  by_cases hk:k=f
  ·rw [if_pos hk,bv,bv]; omega
  ·rw [if_neg hk,bv,bv]; omega
theorem Hq.some_of {v:V} {o:Option Value} (r:Hq (some v) o):∃ u,o=some u/\RelV v u:=by
 cases o with
 | none=>exact (show False from r).elim
 | some u=>exact ⟨u,rfl,r⟩
theorem Hq.none_of {o:Option Value} (r:Hq none o):o=none:=by
 cases o with
 | none=>rfl
 | some u=>exact (show False from r).elim
theorem R5 {v:V} {u:Value} (r:RelV v u):PySem.W.handedIn u=true:=by
 cases v with
 | non=>cases (show u=Value.none from r); rfl
 | bl b=>cases (show u=Value.bool b from r); rfl
 | int i=>obtain ⟨t,e⟩:=(show ∃ t,u=Value.int i t from r); cases e; rfl
 | str x=>obtain ⟨t,e⟩:=(show ∃ t,u=Value.str x t from r); cases e; rfl
 | byt b=>obtain ⟨t,e⟩:=(show ∃ t,u=Value.bytes b t from r); cases e; rfl
 | flt b=>obtain ⟨t,e⟩:=(show ∃ t,u=Value.float b t from r); cases e; rfl
 | ref a=>cases (show u=Value.ref a from r); rfl
 | ty n=>cases (show u=Value.type n from r); rfl
section
variable {P:Program} {w:World} {H H':Hp} {h h':Heap} {a C dx:Addr} {fs fs':List (Str × V)}
theorem J9 (hok:JC P w H h) (e:H a=some (.ins C dx fs)):∃ mA,QV h a dx C mA/\(∀ f,Hq (fs.lookup f) (mA f))/\PySem.Within mA (fs.map (·.1))/\fs.length<=1000/\H dx=some (.own a):=by
 obtain ⟨d,z,ne,ob,mA,n,r,q⟩:=(show Ca P w H h a (.ins C dx fs) from hok a _ e)
 exact ⟨mA,⟨ob,n,ne⟩,r,q,z,d⟩
end
structure Tz (K:PySem.W.Frag) (C:Addr):Prop where
 pg:PySem.W.plainGet K C Str.empty=true
 hd:PySem.W.hasDictIn K C=true
 po:PySem.W.plainOver K C=true
 sa:PySem.W.findIn K (.ref C) "__setattr__" = some (some (.builtin "object.__setattr__"))
theorem Tz.get {K:PySem.W.Frag} {C:Addr} (c:Tz K C) (f:Str):PySem.W.plainGet K C f=true:=c.pg
noncomputable def Dq (K:PySem.W.Frag) (C:Addr) (f:Str):Prop:=PySem.W.findIn K (.ref C) f=some none
theorem Dq.taker {K:PySem.W.Frag} {C:Addr} {f:Str} (n:Dq K C f):PySem.W.takerIn K C f=some none:=by
 unfold PySem.W.takerIn
 rw [show PySem.W.findIn K (.ref C) f=some none from n]
 rfl
structure Meth (K:PySem.W.Frag) (C:Addr) (m:Str) (f:Addr):Prop where
 at_:PySem.W.findIn K (.ref C) m=some (some (.ref f))
 fn:PySem.W.isFn K (.ref f)=true
 kp:PySem.W.keepIn K (.ref f)=true
section
variable {X:Cx} {pins:List (Addr × Obj)} {σ:St} {H:Hp} {s:Shared} {a C dx:Addr} {fs:List (Str × V)} {f:Str} {v:V} {A:Around} {E:Value->Shared->Prop}
theorem QS {b:Bool} {Q:Value->Shared->Prop} (I:Inv X pins σ H s) (e:H a=some (.ins C dx fs)) (c:Tz X.K C) (n:Dq X.K C f) (l:fs.lookup f=some v)
  (h:∀ u s',Inv X pins σ H s'->RelV v u->Q u s'):wpAny (model X.prog X.w) A (getAttr (.ref a) f b) Q E s:=by
 obtain ⟨mA,O,r,_,_,_⟩:=J9 I.hok e
 obtain ⟨u,hu,ru⟩:=Hq.some_of (v:=v) (o:=mA f) (by rw [← l]; exact r f)
 exact Wx I.Jc O (c.get f) c.hd n hu (R5 ru) (h u _ (I.tok _) ru)
theorem K7 {m:Str} {g:Addr} {pl:Sem Bool} {Q:Value × List Value->Shared->Prop} (I:Inv X pins σ H s) (e:H a=some (.ins C dx fs)) (c:Tz X.K C) (k:Meth X.K C m g) (l:fs.lookup m=none)
  (h:Q (.ref g,[.ref a]) s):wpAny (model X.prog X.w) A (getMethod (.ref a) m pl) Q E s:=by
 obtain ⟨mA,O,r,_,_,_⟩:=J9 I.hok e
 have hn:mA m=none:=Hq.none_of (by rw [← l]; exact r m)
 exact Uk I.Jc O (c.get m) k.at_ k.fn hn h
theorem QK {y:V} {u:Value} {Q:Unit->Shared->Prop} (I:Inv X pins σ H s) (e:H a=some (.ins C dx fs)) (c:Tz X.K C) (n:Dq X.K C f) (hl:fs.length<1000) (ry:RelV y u)
  (h:∀ s',Inv X pins σ (upd H a (.ins C dx (Bl f y fs))) s'->Q () s'):wpAny (model X.prog X.w) A (setAttr (.ref a) f u) Q E s:=by
 obtain ⟨mA,O,r,wi,_,ho⟩:=J9 I.hok e
 have hz:(fs.map (·.1)).length<=sizeLine:=by rw [ai,sizeLine_eq]; omega
 refine V_ I.Jc O c.sa c.po n.taker c.hd wi hz fun h' O' sb=>h _ ?_
 have hd:∃ o,h'.get? dx=some o:=let ⟨o,_,_,e',_⟩:=O'.ns; ⟨o,e'⟩
 refine I.write (x:=a) (e:=dx) (by rw [e]; exact True.intro) (.inr ho) (fun b q hb z=>(sb.2 b hb).trans z) hd ?_
 refine ⟨by rw [Ar O.ne]; exact ho,?_,O.ne,O'.obj,_,O'.ns,fun g=>?_,fun g hg=>?_⟩
 ·have:=J4 f y fs; omega
 ·show Hq ((Bl f y fs).lookup g) (if g=f then some u else mA g)
  rw [Az]
  by_cases q:g=f
  ·rw [if_pos q,if_pos q]; exact ry
  ·rw [if_neg q,if_neg q]; exact r g
 ·by_cases q:g=f
  ·rw [q]; exact (Jd f y fs).1
  ·refine (Jd f y fs).2 g (wi g fun z=>hg ?_)
   show (if g=f then some u else mA g)=none
   rw [if_neg q]; exact z
theorem Inv.made (I:Inv X pins σ H s):Inv X pins σ (upd (upd H s.heap.objs.size (.own (s.heap.objs.size+1))) (s.heap.objs.size+1) (.ins C s.heap.objs.size []))
  { s with heap:=(s.heap.push PySem.W.emptyDict).push (PySem.W.instObj C s.heap.objs.size) }:=by
 have e1:(s.heap.push PySem.W.emptyDict).get? s.heap.objs.size=some PySem.W.emptyDict:=Heap.get?_push_size s.heap rfl
 have e2:((s.heap.push PySem.W.emptyDict).push (PySem.W.instObj C s.heap.objs.size)).get? (s.heap.objs.size+1)=some (PySem.W.instObj C s.heap.objs.size):=by
  have:=Heap.get?_push_size (s.heap.push PySem.W.emptyDict) (o:=PySem.W.instObj C s.heap.objs.size) rfl
  rwa [Heap.size_push] at this
 have e3:(s.heap.push PySem.W.emptyDict).Ns s.heap.objs.size (fun _=>none):=⟨PySem.W.emptyDict,#[],_,e1,rfl,(fun e he=>absurd he (by simp)),fun _=>rfl⟩
 have I1:=I.laid (a:=s.heap.objs.size) (o:=.own (s.heap.objs.size+1)) (h':=s.heap.push PySem.W.emptyDict) (t':=s.toks) (fun b u q=>Heap.get?_push_of_some _ q) (aE _) ⟨_,e1⟩
 refine I1.laid (a:=s.heap.objs.size+1) (o:=.ins C s.heap.objs.size []) (t':=s.toks) (fun b u q=>Heap.get?_push_of_some _ q) (Nat.le_of_eq (Heap.size_push _ _)) ?_
 have ne:s.heap.objs.size ≠ s.heap.objs.size+1:=cK (eT _)
 refine ⟨by rw [Ar ne,Ah],gu _,ne,e2,fun _=>none,(Heap.Ns1.of_empty e3).at fun o q=>Heap.get?_push_of_some _ q,fun _=>True.intro,fun y hy=>absurd rfl hy⟩
theorem XX {prog:Program} {w:World} {env:Env} {e:Expr} {f:Str} {pos:Pos} {s:Shared} {Q:Value->Shared->Prop} (hb:attributeBase e f env (eval e env)=eval e env)
  (h:wpAny (model prog w) A (eval e env) (fun o s₁=>wpAny (model prog w) A (getAttr o f true) Q E s₁) E s):wpAny (model prog w) A (eval (.Attribute e f pos) env) Q E s :=
 Attribute_any_ h (by rw [arm_eval_Attribute,hb])
end
noncomputable def lJ (K:PySem.W.Frag) (ta:TE) (f:Str):TE:=fun σ H Q=>ta σ H fun x H1=>∃ a C dx fs v,x=.ref a/\H1 a=some (.ins C dx fs)/\Tz K C/\Dq K C f/\fs.lookup f=some v/\Q v H1
noncomputable def jy (K:PySem.W.Frag) (ta tv:TE) (f:Str):TS:=fun D σ H=>tv σ H fun y H1=>ta σ H1 fun x H2=>∃ a C dx fs,x=.ref a/\H2 a=some (.ins C dx fs)/\Tz K C/\Dq K C f/\fs.length<1000 /\
 D.nx σ (upd H2 a (.ins C dx (Bl f y fs)))
section
variable {X:Cx} {o e value:Expr} {f:Str} {pos pos' tpos:Pos} {ta tv:TE}
theorem Cu (he:PE X e ta) (hb:attributeBase e f X.env (eval e X.env)=eval e X.env):PE X (.Attribute e f pos) (lJ X.K ta f):=by
 intro pins s σ H Q I h
 refine XX hb (CK (he pins s σ H _ I h) fun u s1 hq0=>?_)
 obtain ⟨x,H1,I1,rx,a,C,dx,fs,v,ex,ea,c,n,l,q⟩:=hq0
 subst ex
 obtain rfl:u=Value.ref a:=rx
 exact QS I1 ea c n l fun u' s2 I2 ru=>⟨v,H1,I2,ru,q⟩
theorem Fp (ha:PE X o ta) (hv:PE X value tv) (hs:swapsWith value (some (.Attribute o f pos')) pos.line X.env=pure false):PS X (.Assign [.Attribute o f pos'] value pos) (jy X.K ta tv f):=by
 intro pins s σ H D I h
 refine plainObj_wpAny_Assign_Attribute (CK (hv pins s σ H _ I h) fun u s1 ⟨y,H1,I1,ry,q⟩=>CK (ha pins s1 σ H1 _ I1 q) fun ov s2 ⟨x,H2,I2,rx,a,C,dx,fs,ex,ea,c,n,l,q2⟩=>?_) hs
 subst ex
 obtain rfl:ov=Value.ref a:=rx
 exact QK I2 ea c n l ry fun s3 I3=>⟨σ,_,I3,q2⟩
end
section
variable {X:Cx} {pins:List (Addr × Obj)} {σ:St} {H:Hp} {s:Shared} {A:Around} {E:Value->Shared->Prop} {Q:Value->Shared->Prop} {c:Value} {b:Bool}
inductive Jl (K:PySem.W.Frag) (H:Hp):V->Value->Prop where
 | non:Jl K H .non (.type "NoneType")
 | bl (x:Bool):Jl K H (.bl x) (.type "bool")
 | int (i:Int):Jl K H (.int i) (.type "int")
 | str (x:Str):Jl K H (.str x) (.type "str")
 | flt (x:UInt64):Jl K H (.flt x) (.type "float")
 | lst {a:Addr} {xs:List V} (e:H a=some (.lst xs)):Jl K H (.ref a) (.type "list")
 | frz {a:Addr} {o:Obj} {xs:List V} (e:H a=some (.frz o (.lst xs))):Jl K H (.ref a) (.type "list")
 | tup {a:Addr} {xs:List V} (e:H a=some (.tup xs)):Jl K H (.ref a) (.type "tuple")
 | dK {a:Addr} {kvs:List (Key × V)} (e:H a=some (.dK kvs)):Jl K H (.ref a) (.type "dict")
 | dT {a:Addr} {kvs:List (List Key × V)} (e:H a=some (.dT kvs)):Jl K H (.ref a) (.type "dict")
 | ins {a C dx:Addr} {fs:List (Str × V)} (e:H a=some (.ins C dx fs)) (cl:Tz K C) (ha:PySem.W.findIn K (.ref C) "__class__" = some (some (.builtin "object.__class__")))
   (hn:PySem.W.specialIn K (.builtin "object.__class__") "__get__" = some (some (.builtin "getset_descriptor.__get__"))) (htk:PySem.W.takesIn K (.builtin "object.__class__")=some true)
   (hm:PySem.W.mroIn K C (.type "object")=some true):Jl K H (.ref a) (.ref C)
theorem Ro {x:V} {u t:Value} (I:Inv X pins σ H s) (rx:RelV x u) (ty:Jl X.K H x t) (e:PySem.W.kitOne X.K t c=some b) (h:∀ tk,Q (.bool b) { s with toks:=tk }) :
  wpAny (model X.prog X.w) A (call (.builtin "isinstance") [u,c]) Q E s:=by
 cases ty with
 | non=>cases (show u=Value.none from rx); exact PySem.W.kia_one PySem.W.kitx_none I.Jc True.intro e (fun z=>nomatch z) h
 | bl y=>cases (show u=Value.bool y from rx); exact PySem.W.kia_one PySem.W.kitx_bool I.Jc True.intro e (fun z=>nomatch z) h
 | int i=>obtain ⟨t,q⟩:=(show ∃ t,u=Value.int i t from rx); cases q; exact PySem.W.kia_one PySem.W.kitx_int I.Jc True.intro e (fun z=>nomatch z) h
 | str y=>obtain ⟨t,q⟩:=(show ∃ t,u=Value.str y t from rx); cases q; exact PySem.W.kia_one PySem.W.kitx_str I.Jc True.intro e (fun z=>nomatch z) h
 | flt y=>obtain ⟨t,q⟩:=(show ∃ t,u=Value.float y t from rx); cases q; exact PySem.W.kia_one PySem.W.kitx_float I.Jc True.intro e (fun z=>nomatch z) h
 | @lst a xs ea =>
  cases (show u=Value.ref a from rx)
  obtain ⟨_,_,n,_,h1⟩:=(show Ca X.prog X.w H s.heap a (.lst xs) from I.hok a _ ea)
  exact PySem.W.kia_one PySem.W.kitx_list I.Jc ⟨_,h1,rfl⟩ e (fun z=>nomatch z) h
 | @frz a ob xs ea =>
  cases (show u=Value.ref a from rx)
  obtain ⟨_,_,_,n,_,h1⟩:=(show Ca X.prog X.w H s.heap a (.frz ob (.lst xs)) from I.hok a _ ea)
  exact PySem.W.kia_one PySem.W.kitx_list I.Jc ⟨_,h1,rfl⟩ e (fun z=>nomatch z) h
 | @tup a xs ea =>
  cases (show u=Value.ref a from rx)
  obtain ⟨_,_,_,p⟩:=(show Ca X.prog X.w H s.heap a (.tup xs) from I.hok a _ ea)
  obtain ⟨o,h1,h2,_⟩:=p
  exact PySem.W.kia_one PySem.W.kitx_tuple I.Jc ⟨o,h1,h2⟩ e (fun z=>nomatch z) h
 | @dK a kvs ea =>
  cases (show u=Value.ref a from rx)
  obtain ⟨_,_,vs,_,p⟩:=(show Ca X.prog X.w H s.heap a (.dK kvs) from I.hok a _ ea)
  obtain ⟨o,es,ep,h1,h2,_⟩:=p
  exact PySem.W.kia_one PySem.W.kitx_dict I.Jc ⟨o,h1,h2.1⟩ e (fun z=>nomatch z) h
 | @dT a kvs ea =>
  cases (show u=Value.ref a from rx)
  refine byC fun w_=>?_;obtain ⟨_,_,xs,_,o,es,ep,h1,h2,_⟩:=(show Ca X.prog X.w H s.heap a (.dT kvs) from I.hok a _ ea);refine w_ ?_
  exact PySem.W.kia_one PySem.W.kitx_dict I.Jc ⟨o,h1,h2.1⟩ e (fun z=>nomatch z) h
 | @ins a C dx fs ea cl ha hn htk hm =>
  cases (show u=Value.ref a from rx)
  obtain ⟨mA,O,_⟩:=J9 I.hok ea
  obtain ⟨od,J,_⟩:=O.look
  exact PySem.W.kia_one (PySem.W.kitx_own (cl.get _) cl.hd ha hn htk hm) I.Jc J e (fun z=>nomatch z) h
end
end L2
namespace L2
open PySem PySem.Spec PyProof.Rows
structure BL (k:Nat) (A:Around):Prop where
 hd:A.handled=none
 dp:A.depth+3 * k+5<recursionLimit
 un:A.units+16 * k+200<cLine
theorem BL.mono {j k:Nat} {A:Around} (r:BL k A) (h:j<=k):BL j A:=⟨r.hd,by have:=r.dp; omega,by have:=r.un; omega⟩
theorem ad {k j:Nat} {A:Around} (r:BL k A) (h:j<=k:=by decide):BL j A:=r.mono h
theorem BL.deeper {k:Nat} {A:Around} (r:BL (k+1) A) (env:Env):BL k (A.deeper env) :=
 ⟨r.hd,by have:=r.dp; show A.depth+1+3 * k+5<_; omega,by have:=r.un; show A.units+3+16 * k+200<_; omega⟩
theorem Py {A:Around} {C:Addr} {us:List Value} {kw:List (Str × Value)}:(A.under (.builtin "type.__call__" ⟨.ref C::us,kw⟩)).depth=A.depth+1:=by
 first | rfl | simp [Around.under,Code.weight,Code.isCreation,Code.isGuard,Code.isCaller,Code.frames,Code.isFrame,guardIds]
theorem QQ {A:Around} {C:Addr} {us:List Value} {kw:List (Str × Value)}:(A.under (.builtin "type.__call__" ⟨.ref C::us,kw⟩)).units=A.units+1:=by
 first | rfl | simp [Around.under,Code.cUnits,Code.frames,Code.isFrame]
theorem BL.make {k:Nat} {A:Around} (r:BL (k+1) A) (C:Addr) (us:List Value) (kw:List (Str × Value)):BL k (A.under (.builtin "type.__call__" ⟨.ref C::us,kw⟩)) :=
 ⟨r.hd,by have:=r.dp; rw [Py]; omega,by have:=r.un; rw [QQ]; omega⟩
theorem BL.depth {k:Nat} {A:Around} (r:BL k A):A.depth<recursionLimit:=by have:=r.dp; omega
theorem BL.units {k:Nat} {A:Around} (r:BL k A):A.units+64<cLine:=by have:=r.un; omega
theorem BL.Mw {k:Nat} {A:Around} (r:BL k A):A.units<cLine:=by have:=r.un; omega
noncomputable def fU:TA:=fun _ H Q=>Q [] H
noncomputable def YK (ta:TE) (tr:TA):TA:=fun σ H Q=>ta σ H fun x H1=>tr σ H1 fun xs H2=>Q (x::xs) H2
section
variable {X:Cx} {e:Expr} {es:List Expr} {te:TE} {t:TA} {pos:Pos}
theorem Ab:PA X [] fU:=fun _ _ _ _ H Q I h=>Calls.spliced_nil ⟨[],H,I,.nil,h⟩
theorem Aa (ha:PE X e te) (hr:PA X es t) (hs:starEach (e::es) X.env=(false,eval e X.env)::starEach es X.env:=by rfl):PA X (e::es) (YK te t):=by
 intro pos pins s σ H Q I h
 rw [hs]
 show wpAny _ _ (spliced ((false,eval e X.env)::backTo pos (starEach es X.env))) _ _ s
 refine Calls.spliced_cons (CK (ha pins s σ H _ I h) fun u s1 hq0=>?_)
 obtain ⟨x,H1,I1,r1,q1⟩:=hq0
 exact CK (hr pos pins s1 σ H1 _ I1 q1) fun us s2 ⟨xs,H2,I2,r2,q2⟩=>⟨x::xs,H2,I2,.cons r1 r2,q2⟩
noncomputable def nJ (t:TA):TE:=fun σ H Q=>t σ H fun xs H1=>xs.length<=sizeLine/\∀ p,H1 p=none->Q (.ref p) (upd H1 p (.tup xs))
noncomputable def oY (t:TA):TE:=fun σ H Q=>t σ H fun xs H1=>xs.length<=sizeLine/\∀ p,H1 p=none->Q (.ref p) (upd H1 p (.lst xs))
theorem Ck {x1} (h:PA X es t):PE X (.Tuple es x1 pos) (nJ t):=by
 intro pins s σ H Q I hq
 refine wpAny_Tuple_spliced (CK (h pos pins s σ H _ I hq) fun us s1 ⟨xs,H1,I1,r,z,q⟩=>⟨by rw [← r.length]; exact z,?_⟩)
 have hf:H1 s1.heap.objs.size=none:=I1.hok.fresh (aE _)
 refine ⟨.ref s1.heap.objs.size,upd H1 s1.heap.objs.size (.tup xs),I1.laid (t':=s1.toks) (fun b u e=>Heap.get?_push_of_some _ e) (aE _) ?_,rfl,q _ hf⟩
 exact ⟨z,us,r,⟨_,Heap.get?_push_size _ rfl,rfl,_,rfl⟩⟩
theorem DW (h:PA X es t):PE X (.List es pos) (oY t):=by
 intro pins s σ H Q I hq
 refine wpAny_List_spliced (CK (h pos pins s σ H _ I hq) fun us s1 ⟨xs,H1,I1,r,z,q⟩=>⟨by rw [← r.length]; exact z,?_⟩)
 have hf:H1 s1.heap.objs.size=none:=I1.hok.fresh (aE _)
 refine ⟨.ref s1.heap.objs.size,upd H1 s1.heap.objs.size (.lst xs),I1.laid (t':=s1.toks) (fun b u e=>Heap.get?_push_of_some _ e) (aE _) ?_,rfl,q _ hf⟩
 exact ⟨z,us,0,r,Heap.get?_push_size _ rfl⟩
end
noncomputable abbrev Sp:=List V->Hp->VK->XK->Prop
noncomputable abbrev Sq:=List Env->Hp->Shared->XK->Value->Shared->Prop
structure Ot (P:Program) (w:World) (K:PySem.W.Frag) (mg:Str->Option Value) (base:Heap) (A:Around) (outer:List Env) (s:Shared) (H:Hp):Prop where
 frames:A.frames=some outer
 mod:Mod K mg base
 bs:∀ b o,base.get? b=some o->s.heap.get? b=some o/\H b=none
 bsz:base.objs.size<=s.heap.objs.size
 J6:s.heap.FunFrames base outer
 frf:∀ b∈frs outer,H b=none
 hok:JC P w H s.heap
 bare:AllBare s.gens
noncomputable def CE (outer:List Env) (P:Program) (w:World) (H:Hp) (s:Shared) (Q:VK) (u:Value) (s':Shared):Prop :=
 ∃ v H',s'.os=s.os/\AllBare s'.gens/\Un (frs outer) [] H H' s.heap s'.heap/\JC P w H' s'.heap/\RelV v u/\Q v H'
noncomputable def CR (CX:Sq) (outer:List Env) (P:Program) (w:World) (H:Hp) (s:Shared) (Q:VK) (E:XK) (r:Result) (s':Shared):Prop :=
 match r with
 | .ok (.ret u)=>CE outer P w H s Q u s'
 | .ok _=>False
 | .error e=>CX outer H s E e s'
structure Av (P:Program) (w:World) (K:PySem.W.Frag) (mg:Str->Option Value) (base:Heap) (CX:Sq) (k:Nat) (f:Addr) (fd:FuncData) (ps:List Str) (sp:Sp):Prop where
 len:∀ vs H Q E,sp vs H Q E->vs.length=ps.length
 run:∀ (A:Around) (outer:List Env) (s:Shared) (H:Hp) (args:Args) (us:List Value) (vs:List V) (Q:VK) (E:XK),BL k A->Ot P w K mg base A outer s H->BindsTo s fd args (ps.zip us)->Vals vs us->sp vs H Q E ->
  codeAny (model P w) A (.call (.ref f) args) (CR CX outer P w H s Q E) s
theorem Ot.make {P:Program} {w:World} {K:PySem.W.Frag} {mg:Str->Option Value} {base:Heap} {A:Around} {outer:List Env} {s:Shared} {H:Hp} (e:Ot P w K mg base A outer s H) (C:Addr) (us:List Value) (kw:List (Str × Value)) :
  Ot P w K mg base (A.under (.builtin "type.__call__" ⟨.ref C::us,kw⟩)) outer s H:=⟨by first | exact e.frames | (simpa [Around.under,Code.envs,Code.isFrame,pushEnvs] using e.frames),e.mod,e.bs,e.bsz,e.J6,e.frf,e.hok,e.bare⟩
section
variable {X:Cx} {pins:List (Addr × Obj)} {σ:St} {H:Hp} {s s':Shared}
theorem Inv.env0 (I:Inv X pins σ H s):Ot X.prog X.w X.K X.mg X.base X.A X.stack s H :=
 ⟨I.ok.frames,I.ok.mod,I.bs,bE I.ok.bsz I.sz,I.stack,I.NT,I.hok,I.bare⟩
theorem Inv.after {Q:VK} {u:Value} (I:Inv X pins σ H s) (h:CE X.stack X.prog X.w H s Q u s'):EP X pins σ Q u s':=by
 obtain ⟨v,H',os,bare,un,hok,r,q⟩:=h
 obtain ⟨hh,g,d,t,os'⟩:=s'
 obtain rfl:os'=s.os:=os
 exact ⟨v,H',I.call (h':=hh) (g':=g) (d':=d) (t':=t) (ch:=[]) un hok bare (fun b z=>absurd z (by simp)),r,q⟩
end
noncomputable def jA (sp:Sp) (dvs:List V) (E:XK) (t:TA):TE:=fun σ H Q=>t σ H fun vs H1=>sp (vs++dvs) H1 Q E
noncomputable def YZ (C:Addr) (m:Str) (sp:Sp) (dvs:List V) (E:XK) (ta:TE) (t:TA):TE:=fun σ H Q=>ta σ H fun x H1=>∃ a dx fs,x=.ref a/\H1 a=some (.ins C dx fs)/\fs.lookup m=none /\
 t σ H1 fun vs H2=>sp (x::(vs++dvs)) H2 Q E
noncomputable def iH (C:Addr) (sp:Sp) (dvs:List V) (E:XK) (t:TA):TE:=fun σ H Q=>t σ H fun vs H1=>∀ x dx,H1 x=none->H1 dx=none->dx ≠ x ->
 sp (.ref x::(vs++dvs)) (upd (upd H1 dx (.own x)) x (.ins C dx [])) (fun v H2=>v=.non/\Q (.ref x) H2) E
noncomputable def Binds (K:PySem.W.Frag) (fd:FuncData) (ps:List Str) (ds:List Value):Prop :=
 ∀ (s:Shared) (us:List Value),K.In s.heap->(us++ds).length=ps.length->BindsTo s fd ⟨us,[]⟩ (ps.zip (us++ds))
theorem Binds.all {K:PySem.W.Frag} {fd:FuncData} {ps:List Str} (h:∀ us:List Value,us.length=ps.length->bindArgs fd ⟨us,[]⟩=pure (ps.zip us)):Binds K fd ps []:=fun s us _ hl=>by
 rw [ff] at hl ⊢
 exact .of_eq (h us hl)
noncomputable def Ip (CX:Sq) (X:Cx) (E:XK):Prop:=∀ (pins:List (Addr × Obj)) (σ:St) (H:Hp) (s:Shared) (e:Value) (s':Shared),Inv X pins σ H s->CX X.stack H s E e s'->X.xe e s'
section
variable {X:Cx} {CX:Sq} {k:Nat} {f C:Addr} {fd:FuncData} {ps:List Str} {sp:Sp} {dvs:List V} {ds:List Value} {E:XK} {x m:Str} {p pos apos:Pos} {e o:Expr} {es:List Expr} {ta:TE} {t:TA}
theorem QD {pins:List (Addr × Obj)} {σ:St} {H:Hp} {s:Shared} {Q:VK} {us:List Value} {vs:List V} (F:Av X.prog X.w X.K X.mg X.base CX k f fd ps sp) (hr:BL k X.A) (hb:Binds X.K fd ps ds) (hd:Vals dvs ds) (hx:Ip CX X E)
  (I:Inv X pins σ H s) (r:Vals vs us) (h:sp (vs++dvs) H Q E):wpAny (model X.prog X.w) X.A (call (.ref f) us) (EP X pins σ Q) X.xe s:=by
 have r2:Vals (vs++dvs) (us++ds):=r.append hd
 have hl:(us++ds).length=ps.length:=by rw [← r2.length]; exact F.len _ _ _ _ h
 refine wpAny_call (codeAny_mono (F.run X.A X.stack s H ⟨us,[]⟩ (us++ds) (vs++dvs) Q E hr I.env0 (hb s us I.Jc hl) r2 h) fun r s' hq=>?_)
 cases r with
 | error e=>exact hx pins σ H s e s' I hq
 | ok fl =>
  cases fl with
  | ret u=>exact I.after hq
  | next=>exact False.elim hq
  | brk=>exact False.elim hq
  | cont=>exact False.elim hq
theorem Aj (F:Av X.prog X.w X.K X.mg X.base CX k f fd ps sp) (hr:BL k X.A) (hg:Gl X x) (hm:X.mg x=some (.ref f)) (hk:PySem.W.keepIn X.K (.ref f)=true) (hb:Binds X.K fd ps ds) (hd:Vals dvs ds) (hx:Ip CX X E)
  (ha:PA X (e::es) t) (hdb:(x == ("__debug__" : Str))=false:=by decide) (he:starEach (e::es) X.env=(false,eval e X.env)::starEach es X.env:=by rfl) (hpl:(backTo pos (starEach es X.env)).any (·.1)=false:=by rfl) :
  PE X (.Call (.Name x p) (e::es) [] pos) (jA sp dvs E t):=by
 intro pins s σ H Q I h
 refine wpAny_Call_Name_kw (Ny I hg hm ?_ hdb)
 refine PySem.W.callWith_K (h₀:=X.base) I.ok.mod.kin hk (CK (ha pos pins s σ H _ I h) fun us s1 ⟨vs,H1,I1,r,q⟩=>⟨I1.Jc,?_⟩) he hpl
 exact QD F hr hb hd hx I1 r q
theorem Cw {pl:Sem Bool} (he:PE X o ta) (c:Tz X.K C) (hm:Meth X.K C m f) (F:Av X.prog X.w X.K X.mg X.base CX k f fd ps sp) (hr:BL k X.A) (hb:Binds X.K fd ps ds) (hd:Vals dvs ds) (hx:Ip CX X E) (ha:PA X (e::es) t)
  (hst:starEach (e::es) X.env=(false,eval e X.env)::starEach es X.env:=by rfl) (hpl:(backTo pos (starEach es X.env)).any (·.1)=false:=by rfl)
  (ht:eval (.Call (.Attribute o m apos) (e::es) [] pos) X.env=(do
   let ov ← eval o X.env
   standAt apos.atName
   let (f,first) ← holding [ov] (getMethod ov m pl)
   callWith pos f first (backTo pos (starEach (e::es) X.env)) (backToKw pos (keywordEach [] X.env))):=by rfl) :
  PE X (.Call (.Attribute o m apos) (e::es) [] pos) (YZ C m sp dvs E ta t):=by
 intro pins s σ H Q I h
 refine PySem.W.methodCall_KW (pl:=pl) (CK (he pins s σ H _ I h) fun u s1 ⟨x,H1,I1,rx,a,dx,fs,ex,ea,l,q⟩=>?_) ht
 subst ex
 obtain rfl:u=Value.ref a:=rx
 refine K7 I1 ea c hm l ?_
 refine PySem.W.callWith_K (first:=[.ref a]) (h₀:=X.base) I.ok.mod.kin hm.kp (CK (ha pos pins s1 σ H1 _ I1 q) fun us s2 ⟨vs,H2,I2,r,q2⟩=>⟨I2.Jc,?_⟩) hst hpl
 exact QD (us:=.ref a::us) (vs:=.ref a::vs) F hr hb hd hx I2 (.cons rfl r) q2
theorem Ew {pl:Sem Bool} (he:PE X o ta) (c:Tz X.K C) (hm:Meth X.K C m f) (F:Av X.prog X.w X.K X.mg X.base CX k f fd ps sp) (hr:BL k X.A) (hb:Binds X.K fd ps ds) (hd:Vals dvs ds) (hx:Ip CX X E)
  (ht:eval (.Call (.Attribute o m apos) [] [] pos) X.env=(do
   let ov ← eval o X.env
   standAt apos.atName
   let (f,first) ← holding [ov] (getMethod ov m pl)
   callWith pos f first (backTo pos (starEach [] X.env)) (backToKw pos (keywordEach [] X.env))):=by rfl) :
  PE X (.Call (.Attribute o m apos) [] [] pos) (YZ C m sp dvs E ta fU):=by
 intro pins s σ H Q I h
 refine PySem.W.methodCall_KW (pl:=pl) (CK (he pins s σ H _ I h) fun u s1 ⟨x,H1,I1,rx,a,dx,fs,ex,ea,l,q⟩=>?_) ht
 subst ex
 obtain rfl:u=Value.ref a:=rx
 refine K7 I1 ea c hm l ?_
 exact PySem.W.callWith_K0 (first:=[.ref a]) I1.Jc hm.kp (QD (us:=[.ref a]) (vs:=[.ref a]) F hr hb hd hx I1 (.cons rfl .nil) q)
structure Mk (K:PySem.W.Frag) (C f:Addr):Prop where
 makes:PySem.W.makesIn K C=true
 init:PySem.W.findIn K (.ref C) "__init__" = some (some (.ref f))
 fn:PySem.W.isFn K (.ref f)=true
 kp:PySem.W.keepIn K (.ref C)=true
theorem Ve {pins:List (Addr × Obj)} {σ:St} {H:Hp} {s:Shared} {Q:VK} {us:List Value} {vs:List V} (M:Mk X.K C f) (F:Av X.prog X.w X.K X.mg X.base CX k f fd ps sp) (hr:BL (k+1) X.A) (hb:Binds X.K fd ps ds) (hd:Vals dvs ds)
  (hx:Ip CX X E) (I:Inv X pins σ H s) (r:Vals vs us)
  (h:∀ x dx,H x=none->H dx=none->dx ≠ x->sp (.ref x::(vs++dvs)) (upd (upd H dx (.own x)) x (.ins C dx [])) (fun v H2=>v=.non/\Q (.ref x) H2) E) :
  wpAny (model X.prog X.w) X.A (call (.ref C) us) (EP X pins σ Q) X.xe s:=by
 have hq:=h (s.heap.objs.size+1) s.heap.objs.size (I.hok.fresh (Nat.le_succ _)) (I.hok.fresh (aE _)) (cK (eT _))
 have I2:=Inv.made (C:=C) I
 have r2:Vals (V.ref (s.heap.objs.size+1)::(vs++dvs)) (Value.ref (s.heap.objs.size+1)::(us++ds)):=.cons rfl (r.append hd)
 have hl:(Value.ref (s.heap.objs.size+1)::us++ds).length=ps.length:=by
  have e:=r2.length
  rw [F.len _ _ _ _ hq] at e
  exact e.symm
 refine wpAny_call (V2 (f:=f) I.Jc M.makes M.init (beq_iff_eq.mp M.fn) (codeAny_mono (F.run _ X.stack _ _ ⟨Value.ref (s.heap.objs.size+1)::us,[]⟩ (Value.ref (s.heap.objs.size+1)::(us++ds)) _ _ E (hr.make C us [])
  (I2.env0.make C us []) (hb _ (Value.ref (s.heap.objs.size+1)::us) I2.Jc hl) r2 hq) fun r s' hq'=>?_))
 cases r with
 | error e=>exact hx pins σ _ _ e s' I2 hq'
 | ok fl =>
  cases fl with
  | ret u =>
   obtain ⟨v,H',I3,rv,ev,q3⟩:=I2.after hq'
   subst ev
   exact ⟨rv,⟨V.ref (s.heap.objs.size+1),H',I3,rfl,q3⟩⟩
  | next=>exact False.elim hq'
  | brk=>exact False.elim hq'
  | cont=>exact False.elim hq'
theorem Q4 (M:Mk X.K C f) (F:Av X.prog X.w X.K X.mg X.base CX k f fd ps sp) (hr:BL (k+1) X.A) (hg:Gl X x) (hm:X.mg x=some (.ref C)) (hb:Binds X.K fd ps ds) (hd:Vals dvs ds) (hx:Ip CX X E)
  (ha:PA X (e::es) t) (hdb:(x == ("__debug__" : Str))=false:=by decide) (he:starEach (e::es) X.env=(false,eval e X.env)::starEach es X.env:=by rfl) (hpl:(backTo pos (starEach es X.env)).any (·.1)=false:=by rfl) :
  PE X (.Call (.Name x p) (e::es) [] pos) (iH C sp dvs E t):=by
 intro pins s σ H Q I h
 refine wpAny_Call_Name_kw (Ny I hg hm ?_ hdb)
 refine PySem.W.callWith_K (h₀:=X.base) I.ok.mod.kin M.kp (CK (ha pos pins s σ H _ I h) fun us s1 ⟨vs,H1,I1,r,q⟩=>⟨I1.Jc,?_⟩) he hpl
 exact Ve M F hr hb hd hx I1 r q
end
section
variable {X:Cx} {CX:Sq} {k:Nat} {f C:Addr} {fd:FuncData} {ps ks:List Str} {sp:Sp} {E:XK} {x m:Str} {p pos apos kpos:Pos} {e o:Expr} {es:List Expr} {kws:List Keyword} {te ta:TE} {t tk:TA} {nm:Option Str}
variable {g:List Value->List Value->List Value} {gV:List V->List V->List V}
end
structure Aw (N P:List Str) (sc:Scope):Prop where
 kind:sc.kind=.function
 co:sc.isCoroutine=false
 gen:sc.isGenerator=false
 nd:N.Nodup
 pre:N.take P.length=P
 par:∀ x∈P,sc.names.lookup x=some .local \/ sc.names.lookup x=some .cell
 nofree:∀ y∈sc.names,y.2 ≠ .free
theorem Bo {N P:List Str} {sc:Scope} (a:sc.kind=.function:=by rfl) (b:sc.isCoroutine=false:=by rfl) (c:sc.isGenerator=false:=by rfl) (d:N.Nodup:=by decide +kernel) (e:N.take P.length=P:=by rfl) (f:∀ x∈P,sc.names.lookup x=some .local \/ sc.names.lookup x=some .cell:=by decide +kernel) (g:∀ y∈sc.names,y.2 ≠ .free:=by decide +kernel):Aw N P sc:=⟨a,b,c,d,e,f,g⟩
theorem MN {kindOf:Str->Option NameKind} {x:Str}:∀ {binds:List (Str × Value)} {m:Str->Option Value},(∀ v,(x,v) ∉ binds)->bindL kindOf binds m x=m x
 | [],_,_=>rfl
 | (n,v)::r,m,h=>by
  unfold bindL
  rw [MN fun w hw=>h w (df _ hw)]
  split
  ·have:x ≠ n:=by rintro rfl; exact h v cS
   simp [this]
  ·rfl
theorem Lf {kindOf:Str->Option NameKind} {x:Str}:∀ {binds:List (Str × Value)} {m:Str->Option Value},(∀ v,(x,v) ∉ binds)->bindC kindOf binds m x=m x
 | [],_,_=>rfl
 | (n,v)::r,m,h=>by
  unfold bindC
  rw [Lf fun w hw=>h w (df _ hw)]
  split
  ·rfl
  ·have:x ≠ n:=by rintro rfl; exact h v cS
   simp [this]
theorem MF {kindOf:Str->Option NameKind} {x:Str} {v:Value}:∀ {P:List Str} {vs:List Value} {i:Nat} {m:Str->Option Value},P.Nodup->P[i]? = some x->vs[i]? = some v->kindOf x=some .local ->
  bindL kindOf (P.zip vs) m x=some v
 | [],_,_,_,_,h,_,_=>by simp at h
 | _::_,[],_,_,_,_,h,_=>by simp at h
 | p::P,w::vs,0,m,nd,h1,h2,hk=>by
  simp at h1 h2; subst h1; subst h2
  show bindL kindOf ((p,w)::P.zip vs) m p=_
  unfold bindL
  rw [MN fun v hv=>(gS.mp nd).1 (List.of_mem_zip hv).1,if_pos hk]
  simp
 | p::P,w::vs,i+1,m,nd,h1,h2,hk=>by
  show bindL kindOf ((p,w)::P.zip vs) m x=_
  unfold bindL
  exact MF (i:=i) (List.nodup_cons.mp nd).2 (by simpa using h1) (by simpa using h2) hk
theorem Li {kindOf:Str->Option NameKind} {x:Str} {v:Value}:∀ {P:List Str} {vs:List Value} {i:Nat} {m:Str->Option Value},P.Nodup->P[i]? = some x->vs[i]? = some v->kindOf x ≠ some .local ->
  bindC kindOf (P.zip vs) m x=some v
 | [],_,_,_,_,h,_,_=>by simp at h
 | _::_,[],_,_,_,_,h,_=>by simp at h
 | p::P,w::vs,0,m,nd,h1,h2,hk=>by
  simp at h1 h2; subst h1; subst h2
  show bindC kindOf ((p,w)::P.zip vs) m p=_
  unfold bindC
  rw [Lf fun v hv=>(gS.mp nd).1 (List.of_mem_zip hv).1,if_neg hk]
  simp
 | p::P,w::vs,i+1,m,nd,h1,h2,hk=>by
  show bindC kindOf ((p,w)::P.zip vs) m x=_
  unfold bindC
  exact Li (i:=i) (List.nodup_cons.mp nd).2 (by simpa using h1) (by simpa using h2) hk
noncomputable def start (N:List Str) (vs:List V):St:=vs.map some++List.replicate (N.length - vs.length) none
noncomputable def Pr (CX:Sq) (P:Program) (w:World) (K:PySem.W.Frag) (mg:Str->Option Value) (base:Heap) (N:List Str) (qual:Str) (scope:Scope) (f:Addr) (cd:Value) (A:Around) (outer:List Env) (s:Shared) (H:Hp) (E:XK):Cx where
 prog:=P
 w:=w
 K:=K
 mg:=mg
 base:=base
 A:=A.deeper (envOfC qual scope s.heap.objs.size f cd)
 N:=N
 s₀:=s
 H₀:=H
 env:=envOfC qual scope s.heap.objs.size f cd
 outer:=outer
 stack:=envOfC qual scope s.heap.objs.size f cd::outer
 ex:=[]
 calm:=true
 fn:=fun _=>true
 pn:=[]
 xe:=fun e s'=>wpAny (model P w) (A.deeper (envOfC qual scope s.heap.objs.size f cd)) (leaving (envOfC qual scope s.heap.objs.size f cd) e) (fun _ s''=>CX outer H s E e s'') (fun e' s''=>CX outer H s E e' s'') s'
theorem O8 {sc:Scope} {n:Nat} {x:Str} (h:sc.names.lookup x=some .cell):∃ c,(cellsFrom n sc.names []).lookup x=some c:=by
 have q:=PySem.W.cellsFrom_some sc.names n [] (.inl h)
 exact ft.mp q
theorem Sy {CX:Sq} {P:Program} {w:World} {K:PySem.W.Frag} {mg:Str->Option Value} {base:Heap} {N ps:List Str} {qual:Str} {scope:Scope} {f:Addr} {cd:Value} {A:Around} {outer:List Env} {s s1:Shared} {H:Hp} {E:XK} {us:List Value} {vs:List V}
  (S:Aw N ps scope) (hd:A.handled=none) (e0:Ot P w K mg base A outer s H) (hl:vs.length=ps.length) (r:Vals vs us)
  (x:InCallC s s.heap.objs.size (bindL (envOfC qual scope s.heap.objs.size f cd).kindOf (ps.zip us) fun _=>none) (cellsFrom (s.heap.objs.size+1) scope.names []) (bindC (envOfC qual scope s.heap.objs.size f cd).kindOf (ps.zip us) fun _=>none) s1) :
  Inv (Pr CX P w K mg base N qual scope f cd A outer s H E) [] (start N vs) H s1:=by
 have hpl:ps.length<=N.length:=by have:=congrArg List.length S.pre; rw [dS] at this; omega
 obtain ⟨h1,tk,rfl,hk⟩:=x.done
 have noA:∀ b:Addr,b ∉ (Pr CX P w K mg base N qual scope f cd A outer s H E).ex:=fun b z=>absurd (show b∈([]:List Addr) from z) (by simp)
 refine ⟨⟨e0.mod,S.kind,rfl,rfl,aE _,fun y z c h1 h2=>?_,fun y hy=>?_,fun y c _ h=>?_,fun _=>hd,Around.frames_deeper e0.frames,.inr ⟨rfl,rfl⟩,fun b z=>absurd z (noA b),e0.bs,e0.bsz,fun b _ _=>noA b,fun b z=>absurd z (noA b),e0.J6,e0.frf⟩,
  rfl,e0.bare,Un.kept hk,⟨_,x.toInCall.ns,fun i y v h1 h2 h3=>?_⟩,fun y c h=>⟨_,x.cell y c h⟩,e0.hok.fresh (Nat.le_refl _),fun y c h=>?_,fun p hp=>absurd (show p∈([]:List (Addr × Obj)) from hp) (by simp),e0.hok.kept hk,?_⟩
 ·exact name_of_addr x.apart (PySem.mem_of_lookup h1) (PySem.mem_of_lookup h2)
 ·have hy:scope.names.lookup y=some .cell \/ scope.names.lookup y=some .free:=hy
  rcases hy with hy | hy
  ·exact O8 hy
  ·exact absurd rfl (S.nofree _ (PySem.mem_of_lookup hy))
 ·exact ga (x.above y c (PySem.mem_of_lookup h))
 ·have hi:i<vs.length:=by
   unfold start at h2
   by_cases hi:i<vs.length
   ·exact hi
   ·rw [List.getElem?_append_right (by simpa using hi)] at h2
    rw [List.getElem?_replicate] at h2
    split at h2 <;> cases h2
  have ha:vs[i]? = some v:=by
   unfold start at h2
   rw [List.getElem?_append_left (by simpa using hi),List.getElem?_map] at h2
   cases e:vs[i]? with
   | none=>rw [e] at h2; cases h2
   | some a=>rw [e] at h2; cases h2; rfl
  obtain ⟨u,hu,rv⟩:=r.get ha
  have hp:ps[i]? = some y:=by
   rw [← S.pre,List.getElem?_take_of_lt (by omega)]; exact h1
  have ndP:ps.Nodup:=by rw [← S.pre]; exact S.nd.sublist (iF _ _)
  refine ⟨u,rv,?_⟩
  rcases S.par y (ay hp) with k | k
  ·exact .inl ⟨k,MF ndP hp hu k⟩
  ·obtain ⟨c,e⟩:=O8 (n:=s.heap.objs.size+1) k
   refine .inr ⟨.inl k,c,e,?_⟩
   have q:=x.cell y c e
   rw [Li ndP hp hu (by show scope.names.lookup y ≠ _; rw [k]; decide)] at q
   exact q
 ·exact e0.hok.fresh (ga (x.above y c (PySem.mem_of_lookup h)))
 ·unfold start
  show _=N.length
  rw [av,ai,iN]
  omega
theorem YL {CX:Sq} {P:Program} {w:World} {K:PySem.W.Frag} {mg:Str->Option Value} {base:Heap} {k:Nat} {f:Addr} {name qual:Str} {params:Arguments} {body:List Stmt} {scope:Scope} {dV kV doc pm cdv ct oc:Value} {an od:Option Addr}
  {osl:Array (Option Value)} {N ps:List Str} {sp:Sp} (lk:K.lookup f=some ⟨oc,od,.func (PySem.W.fnOf name qual params body scope dV kV doc pm an cdv ct),osl⟩) (hcd:PySem.W.codeIn K cdv qual=true) (S:Aw N ps scope)
  (len:∀ vs H Q E,sp vs H Q E->vs.length=ps.length)
  (hbody:∀ (A:Around) (outer:List Env) (s:Shared) (H:Hp) (vs:List V) (Q:VK) (E:XK),BL k (A.deeper (envOfC qual scope s.heap.objs.size f cdv))->sp vs H Q E ->
   ∃ t,PN (Pr CX P w K mg base N qual scope f cdv A outer s H E) body t/\t { nx:=fun _ H'=>Q .non H',rt:=Q } (start N vs) H) :
  Av P w K mg base CX (k+1) f (PySem.W.fnOf name qual params body scope dV kV doc pm an cdv ct) ps sp:=by
 refine ⟨len,fun A outer s H args us vs Q E hr e0 hb r hsp=>?_⟩
 have hl:=len _ _ _ _ hsp
 have KX:K.In s.heap:=e0.mod.kin.keeps fun b o e=>(e0.bs b o e).1
 have lim:s.heap.NoLimit:=e0.mod.nolimit.keeps fun b o e=>(e0.bs b o e).1
 have hkind:∀ y∈ps.zip us,scope.names.lookup y.1=some .local \/ (scope.names.lookup y.1=some .cell/\((cellsFrom (s.heap.objs.size+1) scope.names []).lookup y.1).isSome=true):=fun ⟨n,v⟩ hy=>by
  rcases S.par n (List.of_mem_zip hy).1 with q | q
  ·exact .inl q
  ·exact .inr ⟨q,PySem.W.cellsFrom_some _ _ _ (.inl q)⟩
 refine codeAny_call_function hr.depth (KX _ _ lk) rfl S.co S.gen rfl (PySem.W.codeRec_of KX hcd) (hb _ _ _ _ ?_)
 refine wpAny_newFunctionEnv_cells S.kind hkind fun env he s1 x=>?_
 subst he
 refine ⟨lim.keeps x.toInCall.keep,codeAny_func ?_⟩
 obtain ⟨t,ht,hq⟩:=hbody A outer s H vs Q E (hr.deeper _) hsp
 have I:Inv (Pr CX P w K mg base N qual scope f cdv A outer s H E) [] (start N vs) H s1:=Sy S hr.hd e0 hl r x
 refine wpAny_mono (ht [] s1 (start N vs) H _ I hq) (fun fl s' hs=>?_) fun e s' hs=>hs
 have fin:∀ {σ':St} {H':Hp} {v:V} {u:Value},Inv (Pr CX P w K mg base N qual scope f cdv A outer s H E) [] σ' H' s'->RelV v u->Q v H'->CE outer P w H s Q u s' :=
  fun {σ' H' v u} J rv q=>⟨v,H',J.os,J.bare,J.base,J.hok,rv,q⟩
 cases fl with
 | ret u =>
  obtain ⟨v,σ',H',J,rv,q⟩:=hs
  exact fin J rv q
 | next =>
  obtain ⟨σ',H',J,q⟩:=hs
  exact fin (v:=V.non) (u:=Value.none) J rfl q
 | brk =>
  obtain ⟨_,_,_,q⟩:=hs
  exact False.elim q
 | cont =>
  obtain ⟨_,_,_,q⟩:=hs
  exact False.elim q
end L2
namespace L2
open PySem PySem.Spec PyProof.Rows
section
variable {X:Cx} {x:Str} {p pos:Pos} {e:Expr} {es:List Expr} {t:TA} {id T:String} {r:List V->Hp->VK->Prop}
noncomputable def qj (r:List V->Hp->VK->Prop) (t:TA):TE:=fun σ H Q=>t σ H fun vs H1=>r vs H1 Q
theorem BP (hc:GR X (.builtin id) r) (hg:Gl X x) (hm:X.mg x=none) (hv:bootBuiltins x=some (.builtin id)) (ha:PA X (e::es) t) (hn:x ≠ "__name__":=by decide) (hdb:(x == ("__debug__" : Str))=false:=by decide)
  (he:starEach (e::es) X.env=(false,eval e X.env)::starEach es X.env:=by rfl) (hpl:(backTo pos (starEach es X.env)).any (·.1)=false:=by rfl):PE X (.Call (.Name x p) (e::es) [] pos) (qj r t):=by
 intro pins s σ H Q I h
 refine wpAny_Call_Name_kw (G7 I hg hm hv ?_ hn hdb)
 exact PyProof.Rows.callWith_builtin1 (CK (ha pos pins s σ H _ I h) fun us s1 ⟨vs,H1,I1,r1,q1⟩=>hc pins s1 σ H1 vs us Q I1 r1 q1) he hpl
theorem Eb (hc:GR X (.type T) r) (hg:Gl X x) (hm:X.mg x=none) (hv:bootBuiltins x=some (.type T)) (ha:PA X (e::es) t) (hn:x ≠ "__name__":=by decide) (hdb:(x == ("__debug__" : Str))=false:=by decide)
  (he:starEach (e::es) X.env=(false,eval e X.env)::starEach es X.env:=by rfl) (hpl:(backTo pos (starEach es X.env)).any (·.1)=false:=by rfl):PE X (.Call (.Name x p) (e::es) [] pos) (qj r t):=by
 intro pins s σ H Q I h
 refine wpAny_Call_Name_kw (G7 I hg hm hv ?_ hn hdb)
 exact PyProof.Rows.callWith_type1 (CK (ha pos pins s σ H _ I h) fun us s1 ⟨vs,H1,I1,r1,q1⟩=>hc pins s1 σ H1 vs us Q I1 r1 q1) he hpl
end
end L2
namespace L2
open PySem PySem.Spec PyProof.Rows
section
variable {κ:Type} [DecidableEq κ]
noncomputable def Cd (kvs:List (κ × V)) (k:κ):Option V:=(kvs.find? fun kv=>decide (kv.1=k)).map (·.2)
noncomputable def putK (kvs:List (κ × V)) (k:κ) (v:V):List (κ × V) :=
 if (kvs.any fun kv=>decide (kv.1=k))=true then kvs.map (fun kv=>if kv.1=k then (kv.1,v) else kv) else kvs++[(k,v)]
noncomputable def qu (kvs:List (κ × V)) (k:κ):List (κ × V):=kvs.filter fun kv=>decide (kv.1 ≠ k)
theorem Dw {p:κ × V} {r:List (κ × V)} {k:κ} (e:p.1=k):Cd (p::r) k=some p.2:=by simp [Cd,List.find?_cons,e]
theorem EY {p:κ × V} {r:List (κ × V)} {k:κ} (e:¬ p.1=k):Cd (p::r) k=Cd r k:=by simp [Cd,List.find?_cons,e]
theorem Gu (k:κ):∀ kvs:List (κ × V),(kvs.any fun kv=>decide (kv.1=k))=(Cd kvs k).isSome
 | []=>rfl
 | p::r=>by
  rw [kg]
  by_cases e:p.1=k
  ·simp only [Dw e,decide_eq_true e,Bool.true_or,Option.isSome_some]
  ·rw [EY e,decide_eq_false e,Bool.false_or]; exact Gu k r
theorem Oh (k j:κ) (y:V):∀ kvs:List (κ × V),Cd (kvs.map fun kv=>if kv.1=k then (kv.1,y) else kv) j=(Cd kvs j).map fun x=>if j=k then y else x
 | []=>rfl
 | p::r=>by
  have ih:=Oh k j y r
  rw [dv]
  by_cases h:p.1=k
  ·rw [if_pos h]
   by_cases e:p.1=j
   ·rw [Dw (p:=(p.1,y)) e,Dw e,ki,if_pos (e.symm.trans h)]
   ·rw [EY (p:=(p.1,y)) e,EY e,ih]
  ·rw [if_neg h]
   by_cases e:p.1=j
   ·rw [Dw (p:=p) e,Dw e,ki,if_neg (fun z=>h (e.trans z))]
   ·rw [EY (p:=p) e,EY e,ih]
theorem Hy (k j:κ) (y:V):∀ kvs:List (κ × V),Cd kvs k=none->Cd (kvs++[(k,y)]) j=if j=k then some y else Cd kvs j
 | [],_=>by
  by_cases e:k=j
  ·rw [if_pos e.symm]; exact Dw (p:=(k,y)) e
  ·rw [if_neg (fun z=>e z.symm)]; exact EY (p:=(k,y)) e
 | p::r,hn=>by
  rw [gi]
  have hk:¬ p.1=k:=fun z=>by rw [Dw z] at hn; cases hn
  rw [EY hk] at hn
  have ih:=Hy k j y r hn
  by_cases e:p.1=j
  ·rw [Dw e,Dw e,if_neg (fun z=>hk (e.trans z))]
  ·rw [EY e,EY e,ih]
theorem Dl (kvs:List (κ × V)) (k j:κ) (y:V):Cd (putK kvs k y) j=if j=k then some y else Cd kvs j:=by
 unfold putK
 by_cases a:(kvs.any fun kv=>decide (kv.1=k))=true
 ·rw [if_pos a,Oh]
  rw [Gu] at a
  by_cases e:j=k
  ·obtain ⟨x,hx⟩:=ft.mp a
   rw [if_pos e,e,hx,ki,if_pos rfl]
  ·rw [if_neg e]
   cases Cd kvs j with
   | none=>rfl
   | some x=>rw [ki,if_neg e]
 ·rw [if_neg a]
  refine Hy k j y kvs ?_
  rw [Gu] at a
  cases q:Cd kvs k with
  | none=>rfl
  | some x=>rw [q] at a; exact (a rfl).elim
theorem Ej (kvs:List (κ × V)) (k:κ) (v:V):(putK kvs k v).length<=kvs.length+1:=by
 unfold putK
 split
 ·rw [ai]; omega
 ·rw [av,bv,List.length_nil]; omega
theorem K4 {kvs:List (κ × V)} {k:κ} (v:V) (h:Cd kvs k=none):putK kvs k v=kvs++[(k,v)]:=by
 unfold putK
 rw [Gu,h]
 exact if_neg (by decide)
theorem Hq.Gi {o:Option V} {u:Option Value} (r:Hq o u):o.isSome=u.isSome:=by
 cases o with
 | none=>cases u with
  | none=>rfl
  | some _=>exact (show False from r).elim
 | some _=>cases u with
  | none=>exact (show False from r).elim
  | some _=>rfl
theorem KV.val {kvs:List (κ × V)} {vs:List (κ × Value)} (r:KV kvs vs) (k:κ):Hq (Cd kvs k) (valueAt vs k):=by
 unfold KV at r
 induction r with
 | nil=>exact True.intro
 | @cons p q ps qs h t ih =>
  obtain ⟨h1,h2⟩:=h
  by_cases e:p.1=k
  ·have e':q.1=k:=h1.symm.trans e
   have b:valueAt (q::qs) k=some q.2:=by simp [valueAt,List.find?_cons,e']
   rw [Dw e,b]; exact h2
  ·have e':¬ q.1=k:=fun z=>e (h1.trans z)
   have b:valueAt (q::qs) k=valueAt qs k:=by simp [valueAt,List.find?_cons,e']
   rw [EY e,b]; exact ih
theorem KV.any {kvs:List (κ × V)} {vs:List (κ × Value)} (r:KV kvs vs) (k:κ):(kvs.any fun kv=>decide (kv.1=k))=vs.any fun kv=>decide (kv.1=k):=by
 unfold KV at r
 induction r with
 | nil=>rfl
 | cons h t ih=>rw [kg,kg,ih,h.1]
theorem KV.repl {kvs:List (κ × V)} {vs:List (κ × Value)} (r:KV kvs vs) (k:κ) {y:V} {u:Value} (ry:RelV y u) :
  KV (kvs.map fun kv=>if kv.1=k then (kv.1,y) else kv) (vs.map fun kv=>if kv.1=k then (kv.1,u) else kv):=by
 unfold KV at r ⊢
 induction r with
 | nil=>exact .nil
 | @cons p q ps qs h t ih =>
  rw [dv,dv]
  refine .cons ?_ ih
  obtain ⟨h1,h2⟩:=h
  by_cases e:p.1=k
  ·rw [if_pos e,if_pos (h1.symm.trans e)]; exact ⟨h1,ry⟩
  ·rw [if_neg e,if_neg (fun z=>e (h1.trans z))]; exact ⟨h1,h2⟩
theorem KV.put {kvs:List (κ × V)} {vs:List (κ × Value)} (r:KV kvs vs) (k:κ) {y:V} {u:Value} (ry:RelV y u):KV (putK kvs k y) (stored vs k u):=by
 unfold putK stored
 rw [r.any k]
 by_cases e:(vs.any fun kv=>decide (kv.1=k))=true
 ·rw [if_pos e,if_pos e]; exact r.repl k ry
 ·rw [if_neg e,if_neg e]; exact Paired.snoc r ⟨rfl,ry⟩
theorem KV.length {kvs:List (κ × V)} {vs:List (κ × Value)} (r:KV kvs vs):kvs.length=vs.length:=Paired.length r
end
theorem L_ {P:Program} {w:World} {k:Key} {u:Value} (r:RelV (kV k) u):(CG P w).is k u=true:=by
 cases k with
 | inl i=>obtain ⟨t,e⟩:=(show ∃ t,u=Value.int i t from r); subst e; exact Ob P w i t
 | inr x=>obtain ⟨t,e⟩:=(show ∃ t,u=Value.str x t from r); subst e; exact OJ P w x t
theorem MK {P:Program} {w:World}:∀ {ks:List Key} {us:List Value},Vals (ks.map kV) us->ItemsAre (CG P w) ks us
 | [],_,r=>by rw [gT] at r; cases r; exact .nil
 | k::ks,_,r=>by
  rw [dv] at r
  cases r with
  | cons h t=>exact .cons (L_ h) (MK t)
noncomputable abbrev KT (H:Hp):List (List Key × V)->List (List Key × Addr × Value)->Prop:=Paired fun p q=>p.1=q.1/\H q.2.1=some (.tup (p.1.map kV))/\RelV p.2 q.2.2
theorem KT.val {H:Hp} {kvs:List (List Key × V)} {xs:List (List Key × Addr × Value)} (r:KT H kvs xs) (k:List Key):Hq (Cd kvs k) ((atKey xs k).map (·.2)):=by
 induction r with
 | nil=>exact True.intro
 | @cons p q ps qs h t ih =>
  obtain ⟨h1,_,h2⟩:=h
  by_cases e:p.1=k
  ·have e':q.1=k:=h1.symm.trans e
   have b:atKey (q::qs) k=some q.2:=by simp [atKey,List.find?_cons,e']
   rw [Dw e,b]; exact h2
  ·have e':¬ q.1=k:=fun z=>e (h1.trans z)
   have b:atKey (q::qs) k=atKey qs k:=by simp [atKey,List.find?_cons,e']
   rw [EY e,b]; exact ih
theorem KT.repl {H:Hp} {kvs:List (List Key × V)} {xs:List (List Key × Addr × Value)} (r:KT H kvs xs) (k:List Key) {y:V} {u:Value} (ry:RelV y u) :
  KT H (kvs.map fun kv=>if kv.1=k then (kv.1,y) else kv) (xs.map (putAt k u)):=by
 induction r with
 | nil=>exact .nil
 | @cons p q ps qs h t ih =>
  rw [dv,dv]
  refine .cons ?_ ih
  obtain ⟨h1,h2,h3⟩:=h
  unfold putAt
  by_cases e:p.1=k
  ·rw [if_pos e,if_pos (h1.symm.trans e)]; exact ⟨h1,h2,ry⟩
  ·rw [if_neg e,if_neg (fun z=>e (h1.trans z))]; exact ⟨h1,h2,h3⟩
theorem KT.put {H:Hp} {kvs:List (List Key × V)} {xs:List (List Key × Addr × Value)} (r:KT H kvs xs) (k:List Key) {b:Addr} {y:V} {u:Value} (hb:H b=some (.tup (k.map kV))) (ry:RelV y u) :
  KT H (putK kvs k y) (storedH xs k b u):=by
 have e:(kvs.any fun kv=>decide (kv.1=k))=(atKey xs k).isSome:=by
  rw [Gu,(r.val k).Gi,kz]
 unfold putK storedH
 rw [e]
 by_cases q:(atKey xs k).isSome=true
 ·rw [if_pos q,if_pos q]; exact r.repl k ry
 ·rw [if_neg q,if_neg q]; exact Paired.snoc r ⟨rfl,hb,ry⟩
theorem KT.keeps {H H':Hp} {kvs:List (List Key × V)} {xs:List (List Key × Addr × Value)} (r:KT H kvs xs) (ht:∀ b ys,H b=some (.tup ys)->H' b=some (.tup ys)):KT H' kvs xs :=
 Paired.Fj r fun _ _ z=>⟨z.1,ht _ _ z.2.1,z.2.2⟩
section
variable {P:Program} {w:World} {H:Hp} {h:Heap} {a:Addr}
theorem YG {u:HO} (ok:JC P w H h) (e:Rd H a u):Ca P w H h a u:=e.ok ok
theorem Ls {kvs:List (Key × V)} (ok:JC P w H h) (e:Rd H a (.dK kvs)):kvs.length<=sizeLine/\(a == sysModules)=false/\∃ vs,KV kvs vs/\h.DictOf (CG P w) a vs :=
 show Ca P w H h a (.dK kvs) from YG ok e
theorem YS {kvs:List (Key × V)} (ok:JC P w H h) (e:H a=some (.dK kvs)):kvs.length<=sizeLine/\(a == sysModules)=false/\∃ vs,KV kvs vs/\h.DictOf (CG P w) a vs:=Ls ok (.inl e)
theorem Kz {ks:List Key} (ok:JC P w H h) (e:H a=some (.tup (ks.map kV))):(tupleKind (CG P w)).is h ks a:=by
 obtain ⟨_,its,r,o,h1,h2,n,h3⟩:=(show Ca P w H h a (.tup (ks.map kV)) from ok a _ e)
 exact ⟨o,its.toArray,n,h1,h2,h3,by simpa using MK r⟩
theorem Lk {kvs:List (List Key × V)} (ok:JC P w H h) (e:Rd H a (.dT kvs)):kvs.length<=sizeLine/\(a == sysModules)=false /\
  ∃ xs,KT H kvs xs/\h.DictOfH (tupleKind (CG P w)) a xs:=by
 refine byC fun w_=>?_;obtain ⟨z,y,xs,r,o,es,ep,h1,h2,h3,h4,h5⟩:=(show Ca P w H h a (.dT kvs) from YG ok e);refine w_ ?_
 refine ⟨z,y,xs,r,o,es,ep,h1,h2,h3,h4,fun x hx=>?_,h5⟩
 have all:∀ {l:List (List Key × V)} {m:List (List Key × Addr × Value)},KT H l m->∀ x∈m,(tupleKind (CG P w)).is h x.1 x.2.1:=by
  intro l m q
  induction q with
  | nil=>intro x hx; exact nomatch hx
  | @cons p q ps qs hq t ih =>
   intro x hx
   rcases eh.mp hx with e | hx
   ·subst e
    exact Kz ok (by rw [← hq.1]; exact hq.2.1)
   ·exact ih x hx
 exact all r x hx
theorem fV {kvs:List (List Key × V)} (ok:JC P w H h) (e:H a=some (.dT kvs)):kvs.length<=sizeLine/\(a == sysModules)=false /\
  ∃ xs,KT H kvs xs/\h.DictOfH (tupleKind (CG P w)) a xs:=Lk ok (.inl e)
end
noncomputable def Ey (H:Hp) (a:Addr) (y:V) (r:Option V):Prop :=
 (∃ kvs k,Rd H a (.dK kvs)/\y=kV k/\r=Cd kvs k) \/ ∃ kvs k b,Rd H a (.dT kvs)/\y=.ref b/\H b=some (.tup (k.map kV))/\r=Cd kvs k
noncomputable def Kq (H:Hp) (a:Addr) (y v:V) (H':Hp):Prop :=
 (∃ kvs k,H a=some (.dK kvs)/\y=kV k/\kvs.length<sizeLine/\H'=upd H a (.dK (putK kvs k v))) \/
 ∃ kvs k b,H a=some (.dT kvs)/\y=.ref b/\H b=some (.tup (k.map kV))/\kvs.length<sizeLine/\H'=upd H a (.dT (putK kvs k v))
theorem Ey.k {H:Hp} {a:Addr} {kvs:List (Key × V)} {k:Key} (e:H a=some (.dK kvs)):Ey H a (kV k) (Cd kvs k):=.inl ⟨kvs,k,.inl e,rfl,rfl⟩
theorem Kq.k {H:Hp} {a:Addr} {kvs:List (Key × V)} {k:Key} {v:V} (e:H a=some (.dK kvs)) (hl:kvs.length<sizeLine):Kq H a (kV k) v (upd H a (.dK (putK kvs k v))):=.inl ⟨kvs,k,e,rfl,hl,rfl⟩
section
variable {X:Cx} {pins:List (Addr × Obj)} {σ:St} {H:Hp} {s:Shared} {a:Addr} {y v:V} {u r:Value} {o:Option V} {A:Around} {E:Value->Shared->Prop}
theorem Inv.big (I:Inv X pins σ H s):sysModules<s.heap.objs.size:=by
 have h:mainGlobals<s.heap.objs.size:=(I.mod.glob.keeps I.bk).lt
 exact kN (by decide) h
theorem Rx {Q:Value->Shared->Prop} (hu:A.units+1<cLine) (I:Inv X pins σ H s) (g:Ey H a y (some v)) (ry:RelV y u) (h:∀ w' s',Inv X pins σ H s'->RelV v w'->Q w' s') :
  wpAny (model X.prog X.w) A (getItem (.ref a) u) Q E s:=by
 rcases g with ⟨kvs,k,e,ey,l⟩ | ⟨kvs,k,b,e,ey,eb,l⟩
 ·subst ey
  obtain ⟨z,hd,vs,rel,dd⟩:=Ls I.hok e
  obtain ⟨w',hw,rw'⟩:=Hq.some_of (v:=v) (o:=valueAt vs k) (by rw [l]; exact rel.val k)
  exact wpAny_getItem_of (L_ ry) dd.mapOf hw (h w' _ (I.tok _) rw')
 ·subst ey
  cases (show u=Value.ref b from ry)
  obtain ⟨z,hd,xs,rel,dd⟩:=Lk I.hok e
  obtain ⟨w',hw,rw'⟩:=Hq.some_of (v:=v) (o:=(atKey xs k).map (·.2)) (by rw [l]; exact rel.val k)
  obtain ⟨p,hp,hp2⟩:=bb.mp hw
  refine wpAny_getItem_heap (tupleKind_room_in1 hu) (Kz I.hok eb) dd hp ?_
  rw [hp2]
  exact h w' _ (I.tok _) rw'
theorem qC {Q:Value->Shared->Prop} (hu:A.units+1<cLine) (I:Inv X pins σ H s) (g:Ey H a y o) (ry:RelV y u) (h:∀ s',Inv X pins σ H s'->Q (.bool o.isSome) s') :
  wpAny (model X.prog X.w) A (compareOp .In u (.ref a)) Q E s:=by
 rcases g with ⟨kvs,k,e,ey,l⟩ | ⟨kvs,k,b,e,ey,eb,l⟩
 ·subst ey
  obtain ⟨z,hd,vs,rel,dd⟩:=Ls I.hok e
  refine wpAny_in_of (L_ ry) hd dd.mapOf ?_
  rw [← (rel.val k).Gi,← l]
  exact h _ (I.tok _)
 ·subst ey
  cases (show u=Value.ref b from ry)
  obtain ⟨z,hd,xs,rel,dd⟩:=Lk I.hok e
  refine wpAny_in_heap (tupleKind_room_in1 hu) (Kz I.hok eb) hd dd ?_
  have q:=(rel.val k).Gi
  rw [kz] at q
  rw [← q,← l]
  exact h _ (I.tok _)
theorem WM {Q:Value->Shared->Prop} (hu:A.units+1<cLine) (I:Inv X pins σ H s) (g:Ey H a y o) (ry:RelV y u) (h:∀ s',Inv X pins σ H s'->Q (.bool (!o.isSome)) s') :
  wpAny (model X.prog X.w) A (compareOp .NotIn u (.ref a)) Q E s:=by
 rcases g with ⟨kvs,k,e,ey,l⟩ | ⟨kvs,k,b,e,ey,eb,l⟩
 ·subst ey
  obtain ⟨z,hd,vs,rel,dd⟩:=Ls I.hok e
  refine wpAny_notIn_of (L_ ry) hd dd.mapOf ?_
  rw [← (rel.val k).Gi,← l]
  exact h _ (I.tok _)
 ·subst ey
  cases (show u=Value.ref b from ry)
  obtain ⟨z,hd,xs,rel,dd⟩:=Lk I.hok e
  refine wpAny_notIn_heap (tupleKind_room_in1 hu) (Kz I.hok eb) hd dd ?_
  have q:=(rel.val k).Gi
  rw [kz] at q
  rw [← q,← l]
  exact h _ (I.tok _)
theorem M_ {h':Heap} {t':Nat} {ob:HO} (I:Inv X pins σ H s) (mu:cH (H a)) (hs:Heap.SameBut a s.heap h') (he:∃ q,h'.get? a=some q) (new:Ca X.prog X.w (upd H a ob) h' a ob) :
  Inv X pins σ (upd H a ob) { s with heap:=h',toks:=t' } :=
 I.write (x:=a) (e:=a) mu (.inl rfl) (fun b q hb z=>(hs.2 b hb).trans z) he new
theorem U6 {P:Program} {w:World} {H':Hp} {h':Heap} {kvs:List (Key × V)} {vs:List (Key × Value)} (z:kvs.length<=sizeLine) (hd:(a == sysModules)=false) (rel:KV kvs vs) (dd:h'.DictOf (CG P w) a vs) :
  Ca P w H' h' a (.dK kvs):=⟨z,hd,vs,rel,dd⟩
theorem Sg {H':Hp} {Q:Unit->Shared->Prop} (hu:A.units+1<cLine) (I:Inv X pins σ H s) (g:Kq H a y v H') (ry:RelV y u) (rv:RelV v r) (h:∀ s',Inv X pins σ H' s'->Q () s') :
  wpAny (model X.prog X.w) A (setItem (.ref a) u r) Q E s:=by
 rcases g with ⟨kvs,k,e,ey,l,eH⟩ | ⟨kvs,k,b,e,ey,eb,l,eH⟩
 ·subst ey eH
  obtain ⟨z,hd,vs,rel,dd⟩:=YS I.hok e
  have hz:vs.length<=sizeLine:=by rw [← rel.length]; exact z
  have hl:(putK kvs k v).length<=sizeLine:=by have:=Ej kvs k v; omega
  refine wpAny_setItem_pairs (hsz:=hz) (L_ ry) dd fun h' dd' hs=>h _ ?_
  have he:∃ q,h'.get? a=some q:=let ⟨q,_,_,hq,_⟩:=dd'; ⟨q,hq⟩
  exact M_ I (by rw [e]; exact True.intro) hs he (U6 hl hd (rel.put k rv) dd')
 ·subst ey eH
  cases (show u=Value.ref b from ry)
  obtain ⟨z,hd,xs,rel,dd⟩:=fV I.hok e
  have hz:xs.length<=sizeLine:=by rw [← Paired.length rel]; exact z
  have hl:(putK kvs k v).length<=sizeLine:=by have:=Ej kvs k v; omega
  refine wpAny_setItem_heap (hsz:=hz) (tupleKind_room_in1 hu) (Kz I.hok eb) dd fun h' dd' hs=>h _ ?_
  obtain ⟨q,es,ep,hq,h2,h3,h4,_,h5⟩:=dd'
  refine M_ I (by rw [e]; exact True.intro) hs ⟨q,hq⟩ ⟨hl,hd,_,(rel.put k eb rv).keeps fun c ys ec=>?_,q,es,ep,hq,h2,h3,h4,h5⟩
  rw [Ar (YD ec e (fun z=>nomatch z))]
  exact ec
end
section
variable {X:Cx} {pins:List (Addr × Obj)} {σ:St} {H:Hp} {s:Shared} {a:Addr} {kvs:List (Key × V)} {k:Key} {u:Value} {A:Around} {E:Value->Shared->Prop}
end
noncomputable def Yg (i:Expr):Prop:=∀ ov iv,subscripted i false ov iv=operate [ov,iv] (getItem ov iv)
theorem RN {prog:Program} {w:World} {A:Around} {E:Value->Shared->Prop} {s:Shared} {env:Env} {value slice:Expr} {pos:Pos} {T id:String} {Q:Value->Shared->Prop}
  (hl:typeLookup (.type T) "__getitem__" = pure (some (.builtin id))) (hs:Yg slice)
  (h:wpAny (model prog w) A (eval value env) (fun o s₁=>wpAny (model prog w) A (eval slice env) (fun i s₂=>s₂.TypeIs o T/\wpAny (model prog w) A (getItem o i) Q E s₂) E s₁) E s) :
  wpAny (model prog w) A (eval (.Subscript value slice pos) env) Q E s:=by
 refine Subscript_ (wpAny_mono h (fun o s₁ h₁=>wpAny_mono h₁ (fun i s₂ h₂=>?_) fun _ _ x=>x) fun _ _ x=>x)
 obtain ⟨hT,h₂⟩:=h₂
 unfold subscriptTail
 refine wpAny_bind ?_
 rw [getitemInPython_of_ne hT.not_modules]
 refine wpAny_bind (wpAny_specialOf hT hl ?_)
 have fin:wpAny (model prog w) A (subscripted slice false o i) (fun r s₃=>wpAny (model prog w) A (letTemporaryGo value o r >>= fun _=>pure r) Q E s₃) E s₂:=by
  rw [hs o i]
  exact wpAny_operating (wpAny_mono h₂ (fun r s₃ h₃=>wpAny_bind (wpAny_letTemporaryGo (wpAny_pure h₃))) fun _ _ x=>x)
 first
  | exact wpAny_pure (wpAny_bind fin)
  | exact wpAny_bind (wpAny_pure (wpAny_bind fin))
  | exact wpAny_bind fin
theorem PL {X:Cx} {pins:List (Addr × Obj)} {σ:St} {H:Hp} {s:Shared} {a:Addr} {y:V} {o:Option V} (I:Inv X pins σ H s) (g:Ey H a y o):s.TypeIs (.ref a) "dict":=by
 rcases g with ⟨kvs,k,e,_,_⟩ | ⟨kvs,k,b,e,_,_,_⟩
 ·obtain ⟨_,_,vs,_,dd⟩:=Ls I.hok e
  exact dd.typeIs
 ·obtain ⟨_,_,xs,_,dd⟩:=Lk I.hok e
  exact dd.typeIs
noncomputable def bh (td ty:TE):TE:=fun σ H Q=>td σ H fun x H1=>ty σ H1 fun y H2=>∃ a v,x=.ref a/\Ey H2 a y (some v)/\Q v H2
noncomputable def lF (ty td:TE):TE:=fun σ H Q=>ty σ H fun y H1=>td σ H1 fun x H2=>∃ a o,x=.ref a/\Ey H2 a y o/\Q (.bl o.isSome) H2
noncomputable def XQ (ty td:TE):TE:=fun σ H Q=>ty σ H fun y H1=>td σ H1 fun x H2=>∃ a o,x=.ref a/\Ey H2 a y o/\Q (.bl (!o.isSome)) H2
noncomputable def cu (td ty tv:TE):TS:=fun D σ H=>tv σ H fun v H1=>td σ H1 fun x H2=>ty σ H2 fun y H3=>∃ a H4,x=.ref a/\Kq H3 a y v H4/\D.nx σ H4
section
variable {X:Cx} {o i e value:Expr} {pos pos' tpos:Pos} {td ty tv:TE}
theorem Bk (hu:X.A.units+1<cLine) (ho:PE X o td) (hi:PE X i ty) (hs:Yg i):PE X (.Subscript o i pos) (bh td ty):=by
 intro pins s σ H Q I h
 refine RN iE hs (CK (ho pins s σ H _ I h) fun u s1 ⟨x,H1,I1,rx,q1⟩=>CK (hi pins s1 σ H1 _ I1 q1) fun iv s2 hq0=>?_)
 obtain ⟨y,H2,I2,ry,a,v,ex,g,q2⟩:=hq0
 subst ex
 obtain rfl:u=Value.ref a:=rx
 exact ⟨PL I2 g,Rx hu I2 g ry fun w' s3 I3 rw'=>⟨v,H2,I3,rw',q2⟩⟩
theorem Y6 (hu:X.A.units+1<cLine) (hi:PE X i ty) (ho:PE X o td):PC X .In i o (lF ty td):=by
 intro pins s σ H Q I h
 refine CK (hi pins s σ H _ I h) fun iv s1 ⟨y,H1,I1,ry,q1⟩=>CK (ho pins s1 σ H1 _ I1 q1) fun u s2 hq0=>?_
 obtain ⟨x,H2,I2,rx,a,ov,ex,g,q2⟩:=hq0
 subst ex
 obtain rfl:u=Value.ref a:=rx
 exact qC hu I2 g ry fun s3 I3=>⟨.bl ov.isSome,H2,I3,rfl,q2⟩
theorem Tg (hu:X.A.units+1<cLine) (hi:PE X i ty) (ho:PE X o td):PC X .NotIn i o (XQ ty td):=by
 intro pins s σ H Q I h
 refine CK (hi pins s σ H _ I h) fun iv s1 ⟨y,H1,I1,ry,q1⟩=>CK (ho pins s1 σ H1 _ I1 q1) fun u s2 hq0=>?_
 obtain ⟨x,H2,I2,rx,a,ov,ex,g,q2⟩:=hq0
 subst ex
 obtain rfl:u=Value.ref a:=rx
 exact WM hu I2 g ry fun s3 I3=>⟨.bl (!ov.isSome),H2,I3,rfl,q2⟩
theorem G6 (hu:X.A.units+1<cLine) (ho:PE X o td) (hi:PE X i ty) (hv:PE X value tv) (hs:swapsWith value (some (.Subscript o i pos')) pos.line X.env=pure false) :
  PS X (.Assign [.Subscript o i pos'] value pos) (cu td ty tv):=by
 intro pins s σ H D I h
 refine wpAny_Assign_Subscript (CK (hv pins s σ H _ I h) fun r s1 ⟨v,H1,I1,rv,q1⟩=>CK (ho pins s1 σ H1 _ I1 q1) fun u s2 ⟨x,H2,I2,rx,q2⟩=>CK (hi pins s2 σ H2 _ I2 q2) fun iv s3 ⟨y,H3,I3,ry,a,H4,ex,g,q3⟩=>?_) hs
 subst ex
 obtain rfl:u=Value.ref a:=rx
 exact Sg hu I3 g ry rv fun s4 I4=>⟨σ,H4,I4,q3⟩
end
theorem PB {P:Program} {w:World} {H:Hp} (h:Heap) (hb:sysModules<h.objs.size):Ca P w H (h.push { cls:=.type "dict",data:=.dict #[] }) h.objs.size (.dK []) :=
 ⟨gu _,beq_eq_false_iff_ne.mpr (Ne.symm (cK hb)),[],.nil,Heap.DictOf.new h⟩
noncomputable def aW:TE:=fun _ H Q=>∀ p,H p=none->Q (.ref p) (upd H p (.dK []))
section
variable {X:Cx} {pos:Pos}
theorem Hu:PE X (.Dict [] [] pos) aW:=fun pins s σ H Q I h =>
 wpAny_Dict_empty ⟨.ref s.heap.objs.size,_,I.laid (a:=s.heap.objs.size) (o:=.dK []) (t':=s.toks) (fun _ _ q=>Heap.get?_push_of_some _ q) (aE _) (PB s.heap I.big),rfl,h _ (I.hok.fresh (aE _))⟩
end
noncomputable def Qf:List (TE × TE)->St->Hp->(List (V × V)->Hp->Prop)->Prop
 | [],_,H,Q=>Q [] H
 | (tk,tv)::r,σ,H,Q=>tk σ H fun x H1=>tv σ H1 fun y H2=>Qf r σ H2 fun ps H3=>Q ((x,y)::ps) H3
noncomputable abbrev VV:List (V × V)->List (Value × Value)->Prop:=Paired fun p q=>RelV p.1 q.1/\RelV p.2 q.2
noncomputable def jV (X:Cx) (pos:Pos) (keys:List (Option Expr)) (values:List Expr) (trs:List (TE × TE)):Prop :=
 ∀ (pins:List (Addr × Obj)) (s:Shared) (σ:St) (H:Hp) (Q:List (V × V)->Hp->Prop),Inv X pins σ H s->Qf trs σ H Q ->
  wpAny (model X.prog X.w) X.A (evalPairs (pairTrees keys values X.env pos)) (fun vs s'=>∃ ps H',Inv X pins σ H' s'/\VV ps vs/\Q ps H') X.xe s
theorem Wm {X:Cx} {pos:Pos}:jV X pos [] [] []:=fun pins s σ H Q I h=>pairTrees_nil_walk ⟨[],H,I,.nil,h⟩
theorem K_ {X:Cx} {pos:Pos} {k v:Expr} {ks:List (Option Expr)} {vs:List Expr} {tk tv:TE} {trs:List (TE × TE)} (hk:PE X k tk) (hv:PE X v tv) (hr:jV X pos ks vs trs) :
  jV X pos (some k::ks) (v::vs) ((tk,tv)::trs):=fun pins s σ H Q I h =>
 pairTrees_cons_walk (CK (hk pins s σ H _ I h) fun u s1 ⟨x,H1,I1,rx,q1⟩=>CK (hv pins s1 σ H1 _ I1 q1) fun w2 s2 ⟨y,H2,I2,ry,q2⟩ =>
  CK (hr pins s2 σ H2 _ I2 q2) fun ws s3 ⟨ps,H3,I3,rel,q3⟩=>⟨(x,y)::ps,H3,I3,.cons ⟨rx,ry⟩ rel,q3⟩)
noncomputable def Jp (kvs more:List (Key × V)):List (Key × V):=more.foldl (fun acc kv=>putK acc kv.1 kv.2) kvs
theorem KV.merge:∀ {more:List (Key × V)} {rs:List (Key × Value)} {kvs:List (Key × V)} {vs:List (Key × Value)},KV more rs->KV kvs vs->KV (Jp kvs more) (merged vs rs):=by
 intro more rs kvs vs r
 unfold KV at r
 induction r generalizing kvs vs with
 | nil=>intro q; exact q
 | @cons p q ps qs h t ih =>
  intro r0
  have e:KV (putK kvs p.1 p.2) (stored vs q.1 q.2):=by
   have:=r0.put p.1 h.2
   rw [← h.1]; exact this
  exact ih e
theorem GX:∀ (more kvs:List (Key × V)),(Jp kvs more).length<=kvs.length+more.length
 | [],kvs=>by show kvs.length<=kvs.length+0; omega
 | p::r,kvs=>by
  have h1:=GX r (putK kvs p.1 p.2)
  have h2:=Ej kvs p.1 p.2
  show (Jp (putK kvs p.1 p.2) r).length<=_
  rw [bv]; omega
theorem Km {P:Program} {w:World}:∀ {kvs:List (Key × V)} {ws:List (Value × Value)},VV (kvs.map fun kv=>(kV kv.1,kv.2)) ws->∃ rs,Carries (CG P w) ws rs/\KV kvs rs
 | [],_,r=>by rw [gT] at r; cases r; exact ⟨[],True.intro,.nil⟩
 | p::kvs,_,r=>by
  rw [dv] at r
  cases r with
  | @cons a b as bs h t =>
   obtain ⟨rs,c,q⟩:=Km (P:=P) (w:=w) t
   obtain ⟨b1,b2⟩:=b
   exact ⟨(p.1,b2)::rs,⟨L_ h.1,rfl,c⟩,.cons ⟨rfl,h.2⟩ q⟩
noncomputable def iI (trs:List (TE × TE)):TE:=fun σ H Q=>∀ p,H p=none->Qf trs σ (upd H p (.dK [])) fun ps H2=>H2 p=some (.dK [])/\∃ kvs:List (Key × V),ps=kvs.map (fun kv=>(kV kv.1,kv.2))/\kvs.length<=15/\Q (.ref p) (upd H2 p (.dK (Jp [] kvs)))
theorem Wy {X:Cx} {pos:Pos} {keys:List (Option Expr)} {values:List Expr} {trs:List (TE × TE)} (h:jV X pos keys values trs) (hall:keys.all (·.isSome)=true) (hl:keys.length=values.length) (h0:keys ≠ [])
  (h15:keys.length<=15):PE X (.Dict keys values pos) (iI trs):=by
 intro pins s σ H Q I q
 have hn:=I.hok.fresh (aE s.heap.objs.size)
 have I1:=I.laid (a:=s.heap.objs.size) (o:=.dK []) (h':=s.heap.push { cls:=.type "dict",data:=.dict #[] }) (t':=s.toks) (fun _ _ q=>Heap.get?_push_of_some _ q) (aE _) (PB s.heap I.big)
 refine wpAny_Dict_walk (knd:=CG X.prog X.w) hall hl h0 h15 (CK (h pins _ σ _ _ I1 (q _ hn)) fun ws s2 hq0=>?_)
 obtain ⟨ps,H2,I2,rel,e,kvs,ep,lk,q2⟩:=hq0
 subst ep
 obtain ⟨rs,c,rk⟩:=Km (P:=X.prog) (w:=X.w) rel
 obtain ⟨z,hd,vs0,r0,dd⟩:=YS I2.hok e
 cases r0
 refine ⟨rs,c,dd,fun h' dd' hs=>⟨.ref s.heap.objs.size,_,?_,rfl,q2⟩⟩
 have hz:(Jp [] kvs).length<=sizeLine:=by
  have h1:=GX kvs []
  rw [List.length_nil] at h1
  rw [sizeLine_eq]; omega
 have he:∃ q,h'.get? s.heap.objs.size=some q:=let ⟨q,_,_,hq,_⟩:=dd'; ⟨q,hq⟩
 exact M_ I2 (by rw [e]; exact True.intro) hs he (U6 hz hd (rk.merge .nil) dd')
structure M1 (X:Cx) (o:Expr) (m:Str) (apos:Pos) (e:Expr) (cpos:Pos):Prop where
 base:attributeBase o m X.env (eval o X.env)=eval o X.env
 few:((backTo cpos (starEach [e] X.env)).all (fun x=>!x.1) && (backToKw cpos (keywordEach [] X.env)).all (fun x=>x.1.isSome)
  && decide (([e]:List Expr).length+([]:List Keyword).length+(if ([]:List Keyword).isEmpty then 0 else 1)<30))=true
 line:(apos.endLine == cpos.line)=true
 trees:backTo cpos (starEach [e] X.env)=[(false,eval e X.env)]
structure M2 (X:Cx) (o:Expr) (m:Str) (apos:Pos) (e f:Expr) (cpos:Pos):Prop where
 base:attributeBase o m X.env (eval o X.env)=eval o X.env
 few:((backTo cpos (starEach [e,f] X.env)).all (fun x=>!x.1) && (backToKw cpos (keywordEach [] X.env)).all (fun x=>x.1.isSome)
  && decide (([e,f]:List Expr).length+([]:List Keyword).length+(if ([]:List Keyword).isEmpty then 0 else 1)<30))=true
 line:(apos.endLine == cpos.line)=true
 trees:backTo cpos (starEach [e,f] X.env)=[(false,eval e X.env),(false,eval f X.env)]
noncomputable def rz (H:Hp) (a:Addr):Prop:=(∃ kvs,Rd H a (.dK kvs)) \/ ∃ kvs,Rd H a (.dT kvs)
theorem ZL {X:Cx} {pins:List (Addr × Obj)} {σ:St} {H:Hp} {s:Shared} {a:Addr} (I:Inv X pins σ H s) (d:rz H a) :
  s.TypeIs (.ref a) "dict" /\ (∀ b,Value.ref a=.ref b->∃ ob,s.heap.get? b=some ob/\ob.dict=none)/\(a == sysModules)=false:=by
 rcases d with ⟨kvs,e⟩ | ⟨kvs,e⟩
 ·obtain ⟨_,hd,vs,_,dd⟩:=Ls I.hok e
  refine ⟨dd.typeIs,fun b q=>?_,hd⟩
  cases q
  obtain ⟨ob,_,_,h1,h2,_⟩:=dd
  exact ⟨ob,h1,h2.2.1⟩
 ·obtain ⟨_,hd,xs,_,dd⟩:=Lk I.hok e
  refine ⟨dd.typeIs,fun b q=>?_,hd⟩
  cases q
  obtain ⟨ob,_,_,h1,h2,_⟩:=dd
  exact ⟨ob,h1,h2.2.1⟩
section
variable {X:Cx} {pins:List (Addr × Obj)} {σ:St} {H:Hp} {s:Shared} {a:Addr} {y d:V} {u r:Value} {o:Option V} {A:Around} {E:Value->Shared->Prop}
end
section
variable {X:Cx} {o e f:Expr} {apos cpos:Pos} {td ty tx:TE}
end
section
variable {X:Cx} {pins:List (Addr × Obj)} {σ:St} {H:Hp} {s:Shared} {a:Addr} {kvs:List (Key × V)} {A:Around} {E:Value->Shared->Prop}
end
section
variable {X:Cx} {pins:List (Addr × Obj)} {σ:St} {H:Hp} {s:Shared} {a:Addr} {y:V} {u:Value} {A:Around} {E:Value->Shared->Prop}
end
end L2
namespace HT
open PySem PyProof.Rows
section
open PySem.SeqAt
open PySem.AutoSeq1 (wpAny_loadPart')
open PySem.MeetsSeq PySem.MeetsSeq2 PySem.MeetsSeq3
end
section
variable {prog:Program} {w:World} {A:Around} {E:Value->Shared->Prop} {s:Shared}
noncomputable def Ek (n d:Nat):Option Int->Nat
 | none=>d
 | some v=>if v<0 then (v+(n:Int)).toNat else min v.toNat n
theorem Oo (n d:Nat):Ek n d none=d:=rfl
theorem KC (n d k:Nat):Ek n d (some (k:Int))=min k n:=by
 show (if (k:Int)<0 then ((k:Int)+(n:Int)).toNat else min (k:Int).toNat n)=min k n
 rw [if_neg (by omega),aT]
theorem Z8 (n d:Nat) (hd:d<=n) (o:Option Int):Ek n d o<=n:=by
 cases o with
 | none=>exact hd
 | some v =>
  show (if v<0 then (v+(n:Int)).toNat else min v.toNat n)<=n
  by_cases hv:v<0
  ·rw [if_pos hv]; omega
  ·rw [if_neg hv]; exact Nat.min_le_right _ _
theorem RP (v:Int) (n d:Nat):(if v<0 then max (v+(n:Int)) 0 else min v (n:Int))=((Ek n d (some v):Nat):Int):=by
 show (if v<0 then max (v+(n:Int)) 0 else min v (n:Int))=(((if v<0 then (v+(n:Int)).toNat else min v.toNat n):Nat):Int)
 by_cases hv:v<0
 ·simp only [if_pos hv]; omega
 ·simp only [if_neg hv]; omega
theorem QL (lo hi:Option Int) (n:Nat):Builtin.Slice.sliceAdjust lo hi 1 (n:Int)=(((Ek n 0 lo:Nat):Int),((Ek n n hi:Nat):Int)):=by
 have h1:¬ ((1:Int)<0):=by omega
 unfold Builtin.Slice.sliceAdjust
 simp only [h1,if_false]
 refine Prod.ext ?_ ?_
 ·cases lo with
  | none=>rfl
  | some v=>exact RP v n 0
 ·cases hi with
  | none=>rfl
  | some v=>exact RP v n n
theorem QZ (i j:Nat):Builtin.Slice.slicePlaces (i:Int) (j:Int) 1=j - i:=by
 unfold Builtin.Slice.slicePlaces
 have h1:(1:Int) > 0:=by omega
 simp only [h1,if_true,Int.ediv_one]
 split <;> omega
theorem Kv {v:Value} {o:Option Int} {Q:Option Int->Shared->Prop} (p:IsPart v o) (h:Q o s):wpAny (model prog w) A (Builtin.Slice.slicePartIndex v) Q E s:=by
 cases p with
 | none=>exact slicePart_none h
 | int i t=>exact slicePart_int h
theorem Ji {sl:Addr} {vl vu:Value} {lo hi:Option Int} {n:Nat} {Q:Int × Int × Nat->Shared->Prop} (hs:s.heap.IsSliceOf sl vl vu .none) (pl:IsPart vl lo) (pu:IsPart vu hi)
  (h:Q (((Ek n 0 lo:Nat):Int),1,Ek n n hi - Ek n 0 lo) s):wpAny (model prog w) A (Builtin.Slice.sliceApplied (.ref sl) (pure (n:Int))) Q E s:=by
 obtain ⟨os,hos,hcs,hds⟩:=id hs
 unfold Builtin.Slice.sliceApplied Builtin.Slice.sliceFields
 refine wpAny_bind (wpAny_bind (wpAny_field hos hds (x:=vl) rfl (wpAny_bind (wpAny_field hos hds (x:=vu) rfl (wpAny_bind (wpAny_field hos hds (x:=.none) rfl (wpAny_pure ?_)))))))
 refine wpAny_bind (slicePart_none ?_)
 show wpAny _ _ (if ((1:Int) == 0)=true then _ else _) _ _ s
 rw [if_neg (by decide)]
 refine wpAny_bind (Kv pl (wpAny_bind (Kv pu (wpAny_bind (wpAny_pure ?_)))))
 show wpAny _ _ (match Builtin.Slice.sliceAdjust lo hi 1 (n:Int) with | (lo,hi)=>pure (lo,(1:Int),Builtin.Slice.slicePlaces lo hi 1)) _ _ s
 rw [QL lo hi n]
 show wpAny _ _ (pure (((Ek n 0 lo:Nat):Int),(1:Int),Builtin.Slice.slicePlaces ((Ek n 0 lo:Nat):Int) ((Ek n n hi:Nat):Int) 1)) _ _ s
 rw [QZ]
 exact wpAny_pure h
theorem T4 (xs:Array Value) (i k:Nat):((List.range k).filterMap fun (m:Nat)=>xs[((i:Int)+(m:Int) * 1).toNat]?).toArray=((xs.toList.drop i).take k).toArray:=by
 have e:(fun (m:Nat)=>xs[((i:Int)+(m:Int) * 1).toNat]?)=fun m=>xs[i+m]?:=by
  funext m
  have:((i:Int)+(m:Int) * 1).toNat=i+m:=by omega
  rw [this]
 rw [e]
 have:=pick_run xs i k
 rw [List.filterMap_map] at this
 have e2:((fun x=>xs[x]?) ∘ fun x=>i+x)=fun m=>xs[i+m]?:=rfl
 rw [e2] at this
 rw [this]
theorem JK {t sl:Addr} {items:Array Value} {vl vu:Value} {lo hi:Option Int} {Q:Value->Shared->Prop} (ht:IsTup s.heap t items) (hs:s.heap.IsSliceOf sl vl vu .none) (pl:IsPart vl lo) (pu:IsPart vu hi)
  (hw:¬ (Ek items.size 0 lo=0/\Ek items.size items.size hi=items.size))
  (h:Q (.ref s.heap.objs.size) { s with heap:=s.heap.push { cls:=.type "tuple",data:=.seq ((items.toList.drop (Ek items.size 0 lo)).take (Ek items.size items.size hi - Ek items.size 0 lo)).toArray } })
  (hsz:items.size<=sizeLine):wpAny (model prog w) A (getItem (.ref t) (.ref sl)) Q E s:=by
 have htake:sizeOk (.seq ((items.toList.drop (Ek items.size 0 lo)).take (Ek items.size items.size hi - Ek items.size 0 lo)).toArray):=by
  show ((items.toList.drop (Ek items.size 0 lo)).take (Ek items.size items.size hi - Ek items.size 0 lo)).toArray.size<=sizeLine
  rw [cy,dS,ij,Array.length_toList]
  omega
 have hj:Ek items.size items.size hi<=items.size:=Z8 _ _ (aE _) hi
 obtain ⟨os,hos,hcs,hds⟩:=id hs
 have hTs:s.TypeIs (.ref sl) "slice":=⟨os,hos,hcs⟩
 unfold getItem
 try with_reducible refine wpAny_holding ?_
 first | refine wpAny_bind (wpAny_pure ?_) | skip
 refine wpAny_bind (wpAny_sequenceKey ht.typeIs (by decide) ?_)
 refine wpAny_bind (wpAny_callSpecial?_slot (name:=Str.ofString "__getitem__") ht.typeIs PyProof.Rows.slot_tuple_getitem
  (wpAny_call_entry PyProof.Rows.slot_tuple_getitem ht.typeIs entry_tuple_getitem ?_ (args_tuple_getitem _ _)))
 show wpAny _ _ (Builtin.Tuple.tupleItemsOf (.ref t) >>= _) _ _ s
 refine wpAny_bind (tupleItemsOf_ ht ?_)
 refine wpAny_bind (wpAny_typeOf hTs ?_)
 rw [if_pos (by decide)]
 refine wpAny_bind (Ji hs pl pu ?_)
 have hno:¬ ((((Ek items.size 0 lo:Nat):Int) == 0 && (1:Int) == 1 && (Ek items.size items.size hi - Ek items.size 0 lo) == items.size)=true):=by
  intro q
  rw [fz,fz] at q
  have q1:((Ek items.size 0 lo:Nat):Int)=0:=eq_of_beq q.1.1
  have q2:Ek items.size items.size hi - Ek items.size 0 lo=items.size:=eq_of_beq q.2
  exact hw ⟨by omega,by omega⟩
 show wpAny _ _ (if (((Ek items.size 0 lo:Nat):Int) == 0 && (1:Int) == 1 && (Ek items.size items.size hi - Ek items.size 0 lo) == items.size)=true then _ else _) _ _ s
 rw [if_neg hno,T4]
 first
  | exact wpAny_bind (m:=Builtin.Tuple.tupleExact _) (wpAny_newObj_type (wpAny_pure ⟨_,rfl,wpAny_pure h⟩) htake)
  | exact wpAny_bind (m:=Builtin.Tuple.tupleExact _) (wpAny_newObj_type (wpAny_bind (wpAny_pure (wpAny_pure ⟨_,rfl,wpAny_pure h⟩))) htake)
  | exact wpAny_bind (wpAny_bind (m:=Builtin.Tuple.tupleExact _) (wpAny_newObj_type (wpAny_pure (wpAny_pure ⟨_,rfl,wpAny_pure h⟩)) htake))
  | exact wpAny_bind (wpAny_bind (m:=Builtin.Tuple.tupleExact _) (wpAny_newObj_type (wpAny_pure ⟨_,rfl,wpAny_pure h⟩) htake))
end
end HT
namespace L2
open PySem PySem.Spec PyProof.Rows
noncomputable abbrev TO:=St->Hp->(Option Int->Hp->Prop)->Prop
noncomputable def PO (X:Cx) (e:Option Expr) (t:TO):Prop :=
 ∀ (pins:List (Addr × Obj)) (s:Shared) (σ:St) (H:Hp) (Q:Option Int->Hp->Prop),Inv X pins σ H s->t σ H Q ->
  wpAny (model X.prog X.w) X.A (evalPart e X.env) (fun u s'=>∃ o H',Inv X pins σ H' s'/\IsPart u o/\Q o H') X.xe s
noncomputable def XM:TO:=fun _ H Q=>Q none H
noncomputable def i_ (t:TE):TO:=fun σ H Q=>t σ H fun x H1=>∃ i,x=.int i/\Q (some i) H1
section
variable {X:Cx} {e:Expr} {te:TE} {lo hi:Option Expr} {tl th:TO} {pos p2:Pos}
theorem Gw:PO X none XM:=by
 intro pins s σ H Q I h
 rw [evalPart_none]
 exact wpAny_pure ⟨none,H,I,.none,h⟩
theorem Fx (h:PE X e te):PO X (some e) (i_ te):=by
 intro pins s σ H Q I hw
 rw [evalPart_some]
 refine CK (h pins s σ H _ I hw) fun u s1 hq0=>?_
 obtain ⟨x,H1,I1,r1,q1⟩:=hq0
 obtain ⟨i,rfl,q⟩:=q1
 obtain ⟨t,rfl⟩:=r1
 exact ⟨some i,H1,I1,.int i t,q⟩
noncomputable def n_ (X:Cx) (r:V->Option Int->Option Int->Hp->VK->Prop):Prop :=
 ∀ (pins:List (Addr × Obj)) (s:Shared) (σ:St) (H:Hp) (x:V) (v vl vu:Value) (lo hi:Option Int) (sl:Addr) (Q:VK),Inv X pins σ H s->RelV x v->s.heap.IsSliceOf sl vl vu .none->IsPart vl lo->IsPart vu hi->r x lo hi H Q ->
  ∃ T id,typeLookup (.type T) "__getitem__" = pure (some (.builtin id))/\s.TypeIs v T/\wpAny (model X.prog X.w) X.A (getItem v (.ref sl)) (EP X pins σ Q) X.xe s
noncomputable def rH (r:V->Option Int->Option Int->Hp->VK->Prop) (te:TE) (tl th:TO):TE:=fun σ H Q=>te σ H fun x H1=>tl σ H1 fun l H2=>th σ H2 fun u H3=>r x l u H3 Q
theorem FW {r:V->Option Int->Option Int->Hp->VK->Prop} (hr:n_ X r) (he:PE X e te) (hl:PO X lo tl) (hu:PO X hi th):PE X (.Subscript e (.Slice lo hi none p2) pos) (rH r te tl th):=by
 intro pins s σ H Q I h
 refine Subscript_ (CK (he pins s σ H _ I h) fun v s1 hq0=>?_)
 obtain ⟨x,H1,I1,r1,q1⟩:=hq0
 refine wpAny_Slice (CK (hl pins s1 σ H1 _ I1 q1) fun vl s2 ⟨l,H2,I2,pl,q2⟩=>CK (hu pins s2 σ H2 _ I2 q2) fun vu s3 hq0=>?_)
 obtain ⟨u,H3,I3,pu,q3⟩:=hq0
 rw [evalPart_none]
 refine wpAny_pure ?_
 have I4:Inv X pins σ H3 { s3 with heap:=s3.heap.push { cls:=.type "slice",data:=.fields #[vl,vu,.none] } }:=I3.kept (t':=s3.toks) fun b ob q=>Heap.get?_push_of_some _ q
 obtain ⟨T,id,hT,ht,hg⟩:=hr pins { s3 with heap:=s3.heap.push { cls:=.type "slice",data:=.fields #[vl,vu,.none] } } σ H3 x v vl vu l u s3.heap.objs.size Q I4 r1 (Heap.IsSliceOf.new ..) pl pu q3
 show wpAny (model X.prog X.w) X.A (subscriptTail e (.Slice lo hi none p2) v (.ref s3.heap.objs.size)) (EP X pins σ Q) X.xe { s3 with heap:=s3.heap.push { cls:=.type "slice",data:=.fields #[vl,vu,.none] } }
 exact tail_any (ops:=[.ref s3.heap.objs.size,v]) ht hT hg (by with_unfolding_all rfl)
noncomputable def Fi (xs:List V) (lo hi:Option Int):List V:=(xs.drop (HT.Ek xs.length 0 lo)).take (HT.Ek xs.length xs.length hi - HT.Ek xs.length 0 lo)
theorem J1 (xs:List V) (lo hi:Option Int):(Fi xs lo hi).length<=xs.length:=by
 unfold Fi
 rw [dS,ij]
 omega
noncomputable def qQ (K:PySem.W.Frag):V->Option Int->Option Int->Hp->VK->Prop:=fun x lo hi H Q=>∃ a xs,x=.ref a/\JF K H a xs /\
 ¬ (HT.Ek xs.length 0 lo=0/\HT.Ek xs.length xs.length hi=xs.length)/\∀ p,H p=none->Q (.ref p) (upd H p (.tup (Fi xs lo hi)))
theorem aV:n_ X (qQ X.K):=by
 intro pins s σ H x v vl vu lo hi sl Q I rx hs pl pu h
 obtain ⟨a,xs,rfl,hx,hw,q⟩:=h
 cases rx
 obtain ⟨its,r,ht,hz⟩:=I.tuple hx
 have hlen:its.toArray.size=xs.length:=by rw [cy]; exact r.length.symm
 refine ⟨"tuple",_,PyProof.Rows.slot_tuple_getitem.lookup,ht.typeIs,?_⟩
 refine HT.JK ht hs pl pu (by rw [hlen]; exact hw) ?_ (by rw [hlen]; exact hz)
 rw [hlen]
 refine ⟨.ref s.heap.objs.size,_,I.laid (t':=s.toks) (o:=.tup (Fi xs lo hi)) (fun b ob q=>Heap.get?_push_of_some _ q) (aE _) ?_,rfl,q _ (I.hok.fresh (aE _))⟩
 exact ⟨bE (J1 xs lo hi) hz,_,(r.drop (HT.Ek xs.length 0 lo)).take (HT.Ek xs.length xs.length hi - HT.Ek xs.length 0 lo),IsTup.new _ _⟩
end
end L2
namespace L2
open PySem PySem.Spec PyProof.Rows
noncomputable def S8 (n:Nat) (i:Int):Option Nat:=if 0<=i then (if i<n then some i.toNat else none) else if -(n:Int)<=i then some (i+n).toNat else none
noncomputable def Lb {α:Type} (xs:List α) (i:Int):Option α:=(S8 xs.length i).bind fun j=>xs[j]?
theorem RK {n:Nat} {i:Int} {j:Nat} (h:S8 n i=some j):seqIndex? i n=some j/\j<n /\ -(n:Int)<=i/\i<n:=by
 unfold S8 at h
 by_cases h0:0<=i
 ·rw [if_pos h0] at h
  by_cases h1:i<n
  ·rw [if_pos h1] at h
   have e:i.toNat=j:=Option.some.inj h
   exact ⟨by rw [seqIndex_of h0 h1,e],by omega,by omega,h1⟩
  ·rw [if_neg h1] at h; cases h
 ·rw [if_neg h0] at h
  by_cases h1 : -(n:Int)<=i
  ·rw [if_pos h1] at h
   have e:(i+n).toNat=j:=Option.some.inj h
   exact ⟨by rw [seqIndex_neg (by omega) h1,e],by omega,h1,by omega⟩
  ·rw [if_neg h1] at h; cases h
theorem Mt {α:Type} {xs:List α} {i:Int} {v:α} (h:Lb xs i=some v):∃ j,seqIndex? i xs.length=some j/\xs[j]? = some v/\j<xs.length /\ -(xs.length:Int)<=i/\i<xs.length:=by
 unfold Lb at h
 cases e:S8 xs.length i with
 | none=>rw [e] at h; cases h
 | some j =>
  rw [e] at h
  obtain ⟨h1,h2,h3,h4⟩:=RK e
  exact ⟨j,h1,h,h2,h3,h4⟩
theorem Ag {α:Type} {xs:List α} {j:Nat} {v:α} (h:xs[j]? = some v):Lb xs (j:Int)=some v:=by
 have hj:j<xs.length:=(ah.mp h).1
 have e:S8 xs.length (j:Int)=some j:=by
  unfold S8
  rw [if_pos (by omega),if_pos (by omega)]; simp
 unfold Lb; rw [e]; exact h
noncomputable def Wt (b:Expr):Prop:=∀ o i,subscripted b false o i=operate [o,i] (getItem o i)
noncomputable def Ys (X:Cx) (r:R2):Prop :=
 ∀ (value slice:Expr) (pins:List (Addr × Obj)) (s:Shared) (σ:St) (H:Hp) (x y:V) (v u:Value) (Q:VK),Inv X pins σ H s->RelV x v->RelV y u->r x y H Q ->
  subscripted slice false v u=operate [v,u] (getItem v u)->wpAny (model X.prog X.w) X.A (subscriptTail value slice v u) (EP X pins σ Q) X.xe s
noncomputable def qT (X:Cx) (id:String) (r:V->List V->Hp->VK->Prop):Prop :=
 ∀ (pins:List (Addr × Obj)) (s:Shared) (σ:St) (H:Hp) (x:V) (xs:List V) (v:Value) (us:List Value) (Q:VK),Inv X pins σ H s->RelV x v->Vals xs us->r x xs H Q ->
  wpAny (model X.prog X.w) X.A (call (.builtin id) (v::us)) (EP X pins σ Q) X.xe s
section
variable {X:Cx} {a b:Expr} {ta tb:TE} {pos:Pos}
theorem Am {r:R2} (hr:Ys X r) (ha:PE X a ta) (hb:PE X b tb) (hs:Wt b):PE X (.Subscript a b pos) (az r ta tb):=by
 intro pins s σ H Q I h
 exact Subscript_ (Y9 ha hb I h fun v u s2 x y H2 I2 rx ry q=>hr a b pins s2 σ H2 x y v u Q I2 rx ry q (hs _ _))
noncomputable def ZP (K:PySem.W.Frag):R2:=fun x y H Q=>∃ p xs i v,x=.ref p/\y=.int i/\Cz K H p xs/\Lb xs i=some v/\Q v H
noncomputable def eV (K:PySem.W.Frag):R2:=fun x y H Q=>∃ p xs i v,x=.ref p/\y=.int i/\JF K H p xs/\Lb xs i=some v/\Q v H
noncomputable def qR:R2:=fun x y H Q=>∃ z i c,x=.str z/\y=.int i/\z.length<=sizeLine/\Lb z.cps.toList i=some c/\Q (.str ⟨#[c]⟩) H
theorem Bj:Ys X (ZP X.K):=by
 intro value slice pins s σ H x y v u Q I rx ry h hs
 obtain ⟨p,xs,i,z,rfl,rfl,hq,he,q⟩:=h
 cases rx
 obtain ⟨t,rfl⟩:=ry
 obtain ⟨its,r,pl,hz⟩:=I.list hq
 obtain ⟨j,h1,h2,h3,h4,h5⟩:=Mt he
 obtain ⟨w,ew,rw'⟩:=r.get h2
 have hl:=r.length
 have hn:=Il
 have fin:EP X pins σ Q w s:=⟨z,H,I,rw',q⟩
 by_cases h0:0<=i
 ·have hj:i.toNat=j:=by
   rw [seqIndex_of h0 h5] at h1
   exact Option.some.inj h1
  exact item_listR pl.isList h0 (by omega) (by rw [hj]; simpa using ew) fin hs
 ·have hj:(i+(its.toArray.size:Int)).toNat=j:=by
   rw [seqIndex_neg (by omega) h4] at h1
   rw [cy,← hl]
   exact Option.some.inj h1
  exact subscriptTail_builtinR (x:=w) pl.isList.typeIs slot_list_getitem.lookup
   (wpAny_getItem_list_neg (Q:=fun r s'=>r=w/\EP X pins σ Q r s') pl.isList (by omega) (by rw [List.size_toArray] <;> omega) (by omega) (by rw [hj]; simpa using ew) ⟨rfl,fin⟩) hs
theorem Fo:Ys X (eV X.K):=by
 intro value slice pins s σ H x y v u Q I rx ry h hs
 obtain ⟨p,xs,i,z,rfl,rfl,hq,he,q⟩:=h
 cases rx
 obtain ⟨t,rfl⟩:=ry
 obtain ⟨its,r,pl,hz⟩:=I.tuple hq
 obtain ⟨j,h1,h2,h3,h4,h5⟩:=Mt he
 obtain ⟨w,ew,rw'⟩:=r.get h2
 have hl:=r.length
 have hn:=Il
 have fin:EP X pins σ Q w s:=⟨z,H,I,rw',q⟩
 exact subscriptTail_builtinR (x:=w) pl.typeIs slot_tuple_getitem.lookup
  (getItem_tuple (j:=j) (Q:=fun r s'=>r=w/\EP X pins σ Q r s') pl (by omega) (by omega) (by rw [List.size_toArray,← hl]; exact h1) (by simpa using ew) ⟨rfl,fin⟩) hs
theorem Gd:Ys X qR:=by
 intro value slice pins s σ H x y v u Q I rx ry h hs
 obtain ⟨z,i,c,rfl,rfl,hz,he,q⟩:=h
 obtain ⟨t,rfl⟩:=rx
 obtain ⟨t',rfl⟩:=ry
 obtain ⟨j,h1,h2,h3,h4,h5⟩:=Mt he
 have hl:z.cps.toList.length=z.length:=by simp [Str.length]
 rw [hl] at h1 h4 h5
 have hn:=Il
 exact tail_any (typeIs_str s z t) slot_str_getitem.lookup (getItem_str (c:=c) (by
  have e1:decide (i < -(2 ^ 63:Int))=false:=decide_eq_false (by omega)
  have e2:decide (i ≥ 2 ^ 63)=false:=decide_eq_false (by omega)
  rw [e1,e2,Bool.or_false]) (by rw [h1]; simpa using h2) ⟨.str ⟨#[c]⟩,H,I.tok _,⟨_,rfl⟩,q⟩) hs
theorem Pn (its:List Value) (n j:Nat) (u:Value):Obj.mapSeq (·.setIfInBounds j u) { cls:=.type "list",data:=.seq its.toArray n } = { cls:=.type "list",data:=.seq (its.set j u).toArray n }:=by
 simp [Obj.mapSeq]
theorem Inv.lst {pins:List (Addr × Obj)} {σ:St} {H:Hp} {s:Shared} {p:Addr} {xs:List V} (I:Inv X pins σ H s) (h:H p=some (.lst xs)) :
  ∃ (its:List Value) (n:Nat),Vals xs its/\s.heap.get? p=some { cls:=.type "list",data:=.seq its.toArray n }/\xs.length<=sizeLine:=by
 obtain ⟨z,its,n,r,e⟩:=I.hok p _ h
 exact ⟨its,n,r,e,z⟩
theorem Inv.Zy {pins:List (Addr × Obj)} {σ:St} {H:Hp} {s:Shared} {p:Addr} {xs ys:List V} {its its':List Value} {n n':Nat} {f:Obj->Obj} (I:Inv X pins σ H s) (h:H p=some (.lst xs))
  (ho:s.heap.get? p=some { cls:=.type "list",data:=.seq its.toArray n }) (hf:f { cls:=.type "list",data:=.seq its.toArray n } = { cls:=.type "list",data:=.seq its'.toArray n' }) (r:Vals ys its') (hz:ys.length<=sizeLine) (t:Nat) :
  Inv X pins σ (upd H p (.lst ys)) { s with heap:=s.heap.update p f,toks:=t }:=by
 have e:(s.heap.update p f).get? p=some { cls:=.type "list",data:=.seq its'.toArray n' }:=by
  rw [Heap.get?_update_self f ho (by rw [hf] <;> rfl),hf]
 refine I.write (x:=p) (e:=p) (by rw [h]; trivial) (.inl rfl) (fun b u hb q=>(Heap.get?_update_other _ _ (Ne.symm hb)).trans q) ⟨_,e⟩ ?_
 exact ⟨hz,its',n',r,e⟩
noncomputable def dX:V->V->V->Hp->(Hp->Prop)->Prop:=fun o i v H Q=>∃ p xs k j,o=.ref p/\i=.int k/\H p=some (.lst xs)/\S8 xs.length k=some j/\Q (upd H p (.lst (xs.set j v)))
theorem set_list:fL X dX:=by
 intro pins s σ H o i v ov iv u Q I ro ri rv h
 obtain ⟨p,xs,k,j,rfl,rfl,hp,hj,q⟩:=h
 cases ro
 obtain ⟨t,rfl⟩:=ri
 obtain ⟨its,n,r,ho,hz⟩:=I.lst hp
 obtain ⟨h1,h2,h3,h4⟩:=RK hj
 have hl:=r.length
 have hn:=Il
 have I':Inv X pins σ (upd H p (.lst (xs.set j v))) { s with heap:=s.heap.update p (Obj.mapSeq (·.setIfInBounds j u)) } :=
  I.Zy hp ho (Pn its n j u) (r.set rv j) (by rw [gX]; exact hz) s.toks
 by_cases h0:0<=k
 ·have hk:k.toNat=j:=by
   rw [seqIndex_of h0 h4] at h1
   exact Option.some.inj h1
  exact PySem.W.ki_setAt ho h0 (by omega) (by rw [cy,← hl]; exact h4) (by rw [hk]; exact ⟨_,I',q⟩)
 ·have hk:(k+(its.toArray.size:Int)).toNat=j:=by
   rw [seqIndex_neg (by omega) h3] at h1
   rw [cy,← hl]
   exact Option.some.inj h1
  exact PySem.W.ki_setBack ho (by omega) (by rw [cy,← hl]; exact h3) (by omega) (by rw [hk]; exact ⟨_,I',q⟩)
theorem NQ (lo hi:Option Int) (n:Nat):(sliceBounds lo hi none n).1=((HT.Ek n 0 lo:Nat):Int)/\(sliceBounds lo hi none n).2.1=((HT.Ek n n hi:Nat):Int)/\(sliceBounds lo hi none n).2.2=1:=by
 refine ⟨?_,?_,rfl⟩
 ·cases lo with
  | none=>simp [sliceBounds,HT.Ek]
  | some i =>
   simp only [sliceBounds,HT.Ek,Option.getD_none,show (1:Int) > 0 by decide,if_true]
   by_cases h:i<0
   ·simp only [h,if_true] <;> omega
   ·simp only [h,if_false] <;> omega
 ·cases hi with
  | none=>simp [sliceBounds,HT.Ek]
  | some i =>
   simp only [sliceBounds,HT.Ek,Option.getD_none,show (1:Int) > 0 by decide,if_true]
   by_cases h:i<0
   ·simp only [h,if_true] <;> omega
   ·simp only [h,if_false] <;> omega
theorem LR (its:List Value) (lo hi:Option Int):slicePick its.toArray lo hi none=((its.drop (HT.Ek its.length 0 lo)).take (HT.Ek its.length its.length hi - HT.Ek its.length 0 lo)).toArray:=by
 obtain ⟨h1,h2,h3⟩:=NQ lo hi its.toArray.size
 unfold slicePick
 rw [h1,h2,h3]
 simp only [sliceRange_one,pick_run,List.size_toArray] <;> rfl
noncomputable def nR (K:PySem.W.Frag):V->Option Int->Option Int->Hp->VK->Prop:=fun x lo hi H Q=>∃ a xs,x=.ref a/\Cz K H a xs/\∀ p,H p=none->Q (.ref p) (upd H p (.lst (Fi xs lo hi)))
theorem G4:n_ X (nR X.K):=by
 intro pins s σ H x v vl vu lo hi sl Q I rx hs pl pu h
 obtain ⟨a,xs,rfl,hx,q⟩:=h
 cases rx
 obtain ⟨its,r,ht,hz⟩:=I.list hx
 have hlen:=r.length
 refine ⟨"list",_,slot_list_getitem.lookup,ht.isList.typeIs,?_⟩
 refine wpAny_getItem_list_slice ht.isList hs pl pu .none (by simp) ?_ (by rw [List.size_toArray] <;> omega)
 rw [LR,← hlen]
 refine ⟨.ref s.heap.objs.size,_,I.laid (t':=s.toks) (o:=.lst (Fi xs lo hi)) (fun b ob q=>Heap.get?_push_of_some _ q) (aE _) ?_,rfl,q _ (I.hok.fresh (aE _))⟩
 exact ⟨bE (J1 xs lo hi) hz,_,0,(r.drop (HT.Ek xs.length 0 lo)).take (HT.Ek xs.length xs.length hi - HT.Ek xs.length 0 lo),Heap.get?_push_size _ rfl⟩
noncomputable def Ij:V->Bool
 | .non=>true
 | .bl _=>true
 | .int _=>true
 | .str _=>true
 | _=>false
noncomputable def Wi:V->V->Bool
 | .non,.non=>true
 | .bl a,.bl b=>a == b
 | .bl a,.int b=>(if a then 1 else 0) == b
 | .int a,.bl b=>a == (if b then 1 else 0)
 | .int a,.int b=>a == b
 | .str a,.str b=>a == b
 | _,_=>false
theorem Zm {A:Around} {s:Shared} {y x:V} {u v:Value} (ry:RelV y u) (rx:RelV x v) (fy:Ij y=true) (fx:Ij x=true):SeqAt.EqAt A s u v (Wi y x):=by
 cases y with
 | non =>
  cases ry
  cases x with
  | non=>cases rx; exact SeqAt.EqAt.same _
  | bl b=>cases rx; exact SeqAt.EqAt.none_bool b
  | int b=>obtain ⟨t,rfl⟩:=rx; exact SeqAt.EqAt.none_int b t
  | str b=>obtain ⟨t,rfl⟩:=rx; exact SeqAt.EqAt.none_str b t
  | _=>exact absurd (show false=true from fx) Bool.false_ne_true
 | bl a =>
  cases ry
  cases x with
  | non=>cases rx; exact SeqAt.EqAt.bool_none a
  | bl b=>cases rx; exact SeqAt.EqAt.bool_bool a b
  | int b=>obtain ⟨t,rfl⟩:=rx; exact SeqAt.EqAt.bool_int a b t
  | str b=>obtain ⟨t,rfl⟩:=rx; exact SeqAt.EqAt.bool_str a b t
  | _=>exact absurd (show false=true from fx) Bool.false_ne_true
 | int a =>
  obtain ⟨t',rfl⟩:=ry
  cases x with
  | non=>cases rx; exact SeqAt.EqAt.int_none a t'
  | bl b=>cases rx; exact SeqAt.EqAt.int_bool a t' b
  | int b=>obtain ⟨t,rfl⟩:=rx; exact SeqAt.EqAt.int_int a t' b t
  | str b=>obtain ⟨t,rfl⟩:=rx; exact SeqAt.EqAt.int_str a t' b t
  | _=>exact absurd (show false=true from fx) Bool.false_ne_true
 | str a =>
  obtain ⟨t',rfl⟩:=ry
  cases x with
  | non=>cases rx; exact SeqAt.EqAt.str_none a t'
  | bl b=>cases rx; exact SeqAt.EqAt.str_bool a t' b
  | int b=>obtain ⟨t,rfl⟩:=rx; exact SeqAt.EqAt.str_int a t' b t
  | str b=>obtain ⟨t,rfl⟩:=rx; exact SeqAt.EqAt.str_str a t' b t
  | _=>exact absurd (show false=true from fx) Bool.false_ne_true
 | _=>exact absurd (show false=true from fy) Bool.false_ne_true
noncomputable def Qc (x:V) (u:Value):Bool:=match u with
 | .none=>Wi .non x
 | .bool b=>Wi (.bl b) x
 | .int i _=>Wi (.int i) x
 | .str z _=>Wi (.str z) x
 | _=>false
theorem VR {x y:V} {u:Value} (r:RelV y u) (f:Ij y=true):Qc x u=Wi y x:=by
 cases y with
 | non=>cases r; rfl
 | bl b=>cases r; rfl
 | int i=>obtain ⟨t,rfl⟩:=r; rfl
 | str z=>obtain ⟨t,rfl⟩:=r; rfl
 | _=>exact absurd (show false=true from f) Bool.false_ne_true
theorem JG {x:V}:∀ {xs:List V} {us:List Value},Vals xs us->xs.all Ij=true->us.any (Qc x)=xs.any fun y=>Wi y x
 | _,_,.nil,_=>rfl
 | y::xs,u::us,.cons r t,f=>by
  rw [List.all_cons,fz] at f
  rw [kg,kg,VR r f.1,JG t f.2]
theorem Ht {A:Around} {s:Shared} {x:V} {v:Value} (rx:RelV x v) (fx:Ij x=true):∀ {xs:List V} {us:List Value},Vals xs us->xs.all Ij=true->∀ u∈us,SeqAt.EqAt A s u v (Qc x u)
 | _,_,.nil,_=>fun u hu=>by cases hu
 | y::xs,u::us,.cons r t,f=>fun u' hu=>by
  rw [List.all_cons,fz] at f
  rcases eh.mp hu with rfl | hu
  ·rw [VR r f.1]; exact Zm r rx f.1 fx
  ·exact Ht rx fx t f.2 u' hu
noncomputable def inV (x:V) (xs:List V):Bool:=xs.any fun y=>Wi y x
noncomputable def jO (K:PySem.W.Frag) (neg:Bool):R2:=fun x y H Q=>∃ p xs,y=.ref p/\(Cz K H p xs \/ JF K H p xs)/\Ij x=true/\xs.all Ij=true/\Q (.bl (if neg then !inV x xs else inV x xs)) H
theorem Jk:Gv X (compareOp .In) (jO X.K false):=by
 intro pins s σ H x y v u Q I rx ry h
 obtain ⟨p,xs,rfl,hq,fx,fs,q⟩:=h
 cases ry
 rcases hq with hq | hq
 ·obtain ⟨its,r,pl,hz⟩:=I.list hq
  refine SeqAt.in_listAt (Qc x) pl.isList (fun w hw=>Ht rx fx r fs w (by simpa using hw)) ⟨.bl _,H,I,rfl,?_⟩
  rw [show its.toArray.any (Qc x)=its.any (Qc x) by simp,JG r fs]
  exact q
 ·obtain ⟨its,r,pl,hz⟩:=I.tuple hq
  refine SeqAt.in_tupleAt (Qc x) pl (fun w hw=>Ht rx fx r fs w (by simpa using hw)) ⟨.bl _,H,I,rfl,?_⟩
  rw [show its.toArray.any (Qc x)=its.any (Qc x) by simp,JG r fs]
  exact q
theorem Mz:Gv X (compareOp .NotIn) (jO X.K true):=by
 intro pins s σ H x y v u Q I rx ry h
 obtain ⟨p,xs,rfl,hq,fx,fs,q⟩:=h
 cases ry
 rcases hq with hq | hq
 ·obtain ⟨its,r,pl,hz⟩:=I.list hq
  refine SeqAt.notIn_listAt (Qc x) pl.isList (fun w hw=>Ht rx fx r fs w (by simpa using hw)) ⟨.bl _,H,I,rfl,?_⟩
  rw [show its.toArray.any (Qc x)=its.any (Qc x) by simp,JG r fs]
  exact q
 ·obtain ⟨its,r,pl,hz⟩:=I.tuple hq
  refine SeqAt.notIn_tupleAt (Qc x) pl (fun w hw=>Ht rx fx r fs w (by simpa using hw)) ⟨.bl _,H,I,rfl,?_⟩
  rw [show its.toArray.any (Qc x)=its.any (Qc x) by simp,JG r fs]
  exact q
theorem BV:GR X (.builtin "len") (fun xs H Q=>∃ p ys,xs=[.ref p]/\(Cz X.K H p ys \/ JF X.K H p ys)/\Q (.int ys.length) H):=by
 intro pins s σ H xs us Q I r h
 obtain ⟨p,ys,rfl,hq,q⟩:=h
 obtain ⟨u,rfl,rx⟩:=vals1 r
 cases rx
 have hn:=Il
 rcases hq with hq | hq
 ·obtain ⟨its,r',pl,hz⟩:=I.list hq
  have hlen:=r'.length
  exact Calls.call_len_list pl.isList (by simp only [List.size_toArray] <;> omega) ⟨.int ys.length,H,I.tok _,⟨s.toks+1,by rw [List.size_toArray,hlen]⟩,q⟩
 ·obtain ⟨its,r',pl,hz⟩:=I.tuple hq
  have hlen:=r'.length
  exact len_tuple pl (by simp only [List.size_toArray] <;> omega) ⟨.int ys.length,H,I.tok _,⟨s.toks+1,by rw [List.size_toArray,hlen]⟩,q⟩
theorem Nh:GR X (.builtin "len") (fun xs H Q=>∃ z,xs=[.str z]/\z.length<=sizeLine/\Q (.int z.length) H):=by
 intro pins s σ H xs us Q I r h
 obtain ⟨z,rfl,hz,q⟩:=h
 obtain ⟨u,rfl,t,rfl⟩:=vals1 r
 have hn:=Il
 exact len_str (by omega) ⟨.int z.length,H,I.tok _,⟨_,rfl⟩,q⟩
theorem Eu:GR X (.type "list") (fun xs H Q=>∃ p ys,xs=[.ref p]/\(Cz X.K H p ys \/ JF X.K H p ys)/\∀ l,H l=none->Q (.ref l) (upd H l (.lst ys))):=by
 intro pins s σ H xs us Q I r h
 obtain ⟨p,ys,rfl,hq,q⟩:=h
 obtain ⟨u,rfl,rx⟩:=vals1 r
 cases rx
 have fin:∀ (its:List Value),Vals ys its->ys.length<=sizeLine->∀ (h':Heap) (c':Nat),(∀ b o',s.heap.get? b=some o'->h'.get? b=some o') ->
   h'.get? s.heap.objs.size=some { cls:=.type "list",dict:=none,data:=.seq its.toArray c',slots:=#[] }->EP X pins σ Q (.ref s.heap.objs.size) { s with heap:=h' }:=fun its r' hz h' c' kp e =>
  ⟨.ref s.heap.objs.size,_,I.laid (t':=s.toks) kp (Nat.le_refl _) (show Ca X.prog X.w _ h' _ (.lst ys) from ⟨hz,its,c',r',e⟩),rfl,q _ (I.hok.fresh (Nat.le_refl _))⟩
 rcases hq with hq | hq
 ·obtain ⟨its,r',pl,hz⟩:=I.list hq
  have hlen:=r'.length
  obtain ⟨o,ho,hc,n,hd⟩:=pl.isList
  exact call_list_seq p (.inl rfl) ho hc hd (fun h' c' kp e=>fin its r' hz h' c' kp e) (by simp only [List.size_toArray] <;> omega)
 ·obtain ⟨its,r',pl,hz⟩:=I.tuple hq
  have hlen:=r'.length
  obtain ⟨o,ho,hc,n,hd⟩:=pl
  exact call_list_seq p (.inr rfl) ho hc hd (fun h' c' kp e=>fin its r' hz h' c' kp e) (by simp only [List.size_toArray] <;> omega)
noncomputable def qO (K:PySem.W.Frag) (T:String) (x:V) (H:Hp):Prop:=match x with
 | .str _=>T = "str"
 | .int _=>T = "int"
 | .ref p=>(T = "list" /\ ∃ xs,Cz K H p xs) \/ (T = "tuple" /\ ∃ o,K.lookup p=some o/\o.cls=.type "tuple" /\ o.dict=none) \/
   (T = "dict" /\ ((∃ kvs,H p=some (.dK kvs)) \/ ∃ kvs,H p=some (.dT kvs))) \/ (T = "set" /\ ∃ S n,H p=some (.set S n))
 | _=>False
theorem Vt {pins:List (Addr × Obj)} {σ:St} {H:Hp} {s:Shared} {T:String} {x:V} {v:Value} (I:Inv X pins σ H s) (r:RelV x v) (ty:qO X.K T x H) :
  s.TypeIs v T/\∀ a,v=.ref a->∃ ob,s.heap.get? a=some ob/\ob.dict=none:=by
 cases x with
 | str z =>
  obtain ⟨t,rfl⟩:=r
  cases (show T = "str" from ty)
  exact ⟨typeIs_str s z t,fun _ e=>nomatch e⟩
 | int i =>
  obtain ⟨t,rfl⟩:=r
  cases (show T = "int" from ty)
  exact ⟨typeIs_int s i t,fun _ e=>nomatch e⟩
 | ref p =>
  cases r
  rcases ty with ⟨rfl,xs,hq⟩ | ⟨rfl,o,hk,hc,hd⟩ | ⟨rfl,hk⟩ | ⟨rfl,S,n,hk⟩
  ·obtain ⟨its,_,pl,_⟩:=I.list hq
   refine ⟨pl.isList.typeIs,fun a e=>?_⟩
   cases e
   obtain ⟨o,n,e,c,hd,_⟩:=pl
   exact ⟨o,e,hd⟩
  ·refine ⟨⟨o,I.Jc p o hk,hc⟩,fun a e=>?_⟩
   cases e
   exact ⟨o,I.Jc _ o hk,hd⟩
  ·have z:∃ o,s.heap.get? p=some o/\o.ExactDict:=by
    rcases hk with ⟨kvs,hk⟩ | ⟨kvs,hk⟩
    ·refine byC fun w_=>?_;obtain ⟨_,_,_,_,o,_,_,e,ex,_⟩:=I.hok p _ hk;refine w_ ?_
     exact ⟨o,e,ex⟩
    ·refine byC fun w_=>?_;obtain ⟨_,_,_,_,o,_,_,e,ex,_⟩:=I.hok p _ hk;refine w_ ?_
     exact ⟨o,e,ex⟩
   obtain ⟨o,e,ex⟩:=z
   refine ⟨⟨o,e,ex.1⟩,fun a e2=>?_⟩
   cases e2
   exact ⟨o,e,ex.2.1⟩
  ·obtain ⟨o,_,_,_,e,ex,_⟩:=I.hok p _ hk
   refine ⟨⟨o,e,ex.1⟩,fun a e2=>?_⟩
   cases e2
   exact ⟨o,e,ex.2.1⟩
 | _=>exact False.elim ty
noncomputable def km (K:PySem.W.Frag) (T:String) (r:V->List V->Hp->VK->Prop) (to:TE):TE:=fun σ H Q=>to σ H fun x H1=>qO K T x H1/\r x [] H1 Q
noncomputable def rW (K:PySem.W.Frag) (T:String) (r:V->List V->Hp->VK->Prop) (to:TE) (t:TA):TE:=fun σ H Q=>to σ H fun x H1=>qO K T x H1/\t σ H1 fun xs H2=>r x xs H2 Q
variable {o e:Expr} {es:List Expr} {to:TE} {t:TA} {name:Str} {apos cpos:Pos} {T id:String} {r:V->List V->Hp->VK->Prop}
theorem U8 (pa:PlainAttrs T) (slot:Slot T name id) (hty:typeOf (.builtin id)=pure (.type "method_descriptor")) (hm:qT X id r) (ho:PE X o to)
  (hbase:attributeBase o name X.env (eval o X.env)=eval o X.env:=by rfl) (hline:(apos.endLine == cpos.line)=true:=by rfl):PE X (.Call (.Attribute o name apos) [] [] cpos) (km X.K T r to):=by
 intro pins s σ H Q I h
 refine wpAny_Call_method0_late hbase hline (CK (ho pins s σ H _ I h) fun v s1 hq0=>?_)
 obtain ⟨x,H1,I1,r1,ty,q1⟩:=hq0
 obtain ⟨h1,h2⟩:=Vt I1 r1 ty
 exact ⟨T,id,pa,slot,hty,h1,h2,Calls.callWith_builtin rfl (PySem.evalArgs_none (hm pins s1 σ H1 x [] v [] Q I1 r1 .nil q1))⟩
theorem HF (pa:PlainAttrs T) (slot:Slot T name id) (hty:typeOf (.builtin id)=pure (.type "method_descriptor")) (hm:qT X id r) (ho:PE X o to) (ha:PA X (e::es) t)
  (hbase:attributeBase o name X.env (eval o X.env)=eval o X.env:=by rfl)
  (hfew:((backTo cpos (starEach (e::es) X.env)).all (fun x=>!x.1) && (backToKw cpos (keywordEach [] X.env)).all (fun x=>x.1.isSome)
   && decide ((e::es).length+([]:List Keyword).length+(if ([]:List Keyword).isEmpty then 0 else 1)<30))=true:=by rfl)
  (hline:(apos.endLine == cpos.line)=true:=by rfl) (hs:starEach (e::es) X.env=(false,eval e X.env)::starEach es X.env:=by rfl) (hplain:(backTo cpos (starEach es X.env)).any (·.1)=false:=by rfl) :
  PE X (.Call (.Attribute o name apos) (e::es) [] cpos) (rW X.K T r to t):=by
 intro pins s σ H Q I h
 refine wpAny_Call_method_late hbase hfew hline rfl (CK (ho pins s σ H _ I h) fun v s1 hq0=>?_)
 obtain ⟨x,H1,I1,r1,ty,q1⟩:=hq0
 obtain ⟨h1,h2⟩:=Vt I1 r1 ty
 refine ⟨T,id,pa,slot,hty,h1,h2,?_⟩
 have hA:=ha cpos pins s1 σ H1 _ I1 q1
 rw [hs] at hA ⊢
 refine Calls.callWith_builtin (by show (false || (backTo cpos (starEach es X.env)).any (·.1))=false; rw [hplain] <;> rfl) (Calls.evalArgs_plain ?_)
 exact CK hA fun us s2 ⟨vs,H2,I2,r2,q2⟩=>hm pins s2 σ H2 x vs v us Q I2 r1 r2 q2
end
end L2
namespace L2
open PySem PySem.Spec PyProof.Rows
noncomputable def nQ (X:Cx) (id:String) (r:V->List V->Hp->VK->Prop):Prop :=
 ∀ (pins:List (Addr × Obj)) (s:Shared) (σ:St) (H:Hp) (x:V) (xs:List V) (v:Value) (us:List Value) (Q:VK),Inv X pins σ H s->RelV x v->Vals xs us->r x xs H Q ->
  wpAny (model X.prog X.w) X.A (call (.builtin id) (v::us)) (EP X pins σ Q) X.xe s
theorem Vals.one:∀ {x:V} {us:List Value},Vals [x] us->∃ u,us=[u]/\RelV x u:=fun h=>by cases h with | cons r t=>cases t; exact ⟨_,rfl,r⟩
theorem Vals.two:∀ {x y:V} {us:List Value},Vals [x,y] us->∃ u v,us=[u,v]/\RelV x u/\RelV y v:=fun h=>by cases h with | cons r t=>cases t with | cons q t=>cases t; exact ⟨_,_,rfl,r,q⟩
theorem Vals.eraseIdx:∀ {xs:List V} {us:List Value} (i:Nat),Vals xs us->Vals (xs.eraseIdx i) (us.eraseIdx i)
 | _,_,_,.nil=>.nil
 | _,_,0,.cons _ t=>t
 | _,_,i+1,.cons r t=>.cons r (Vals.eraseIdx i t)
theorem Lr {α:Type}:∀ (l:List α) (i:Nat),(l.eraseIdx i).length<=l.length
 | [],_=>aE _
 | _::_,0=>Nat.le_succ _
 | _::r,i+1=>fk (Lr r i)
section
variable {X:Cx} {pins:List (Addr × Obj)} {σ:St} {H:Hp} {s:Shared} {l b:Addr} {xs ys zs:List V}
theorem Inv.XS {its its':List Value} {n:Nat} {f:Array Value->Array Value} {t':Nat} (I:Inv X pins σ H s) (hH:H l=some (.lst xs))
  (e:s.heap.get? l=some { cls:=.type "list",data:=.seq its.toArray n }) (hf:f its.toArray=its'.toArray) (hv:Vals ys its') (hz:ys.length<=sizeLine) :
  Inv X pins σ (upd H l (.lst ys)) { s with heap:=s.heap.update l (Obj.mapSeq f),toks:=t' }:=by
 have q:=PySem.IsL.update e f
 rw [hf] at q
 refine I.write (x:=l) (e:=l) (by rw [hH]; exact trivial) (.inl rfl) (fun b' u hb hu=>(Heap.get?_update_other s.heap (Obj.mapSeq f) (Ne.symm hb)).trans hu) ⟨_,q⟩ ?_
 exact ⟨hz,its',_,hv,q⟩
theorem Inv.ZG {its:List Value} {t':Nat} (I:Inv X pins σ H s) (hv:Vals ys its) (hz:ys.length<=sizeLine) :
  Inv X pins σ (upd H s.heap.objs.size (.lst ys)) { s with heap:=s.heap.push { cls:=.type "list",data:=.seq its.toArray },toks:=t' } :=
 I.laid (fun _ _ q=>Heap.get?_push_of_some _ q) (aE _) ⟨hz,its,0,hv,Heap.get?_push_size _ rfl⟩
theorem Inv.fresh (I:Inv X pins σ H s):H s.heap.objs.size=none:=I.hok.fresh (aE _)
theorem Inv.QM (I:Inv X pins σ H s) (hH:H l=some (.lst xs)):xs.length<=sizeLine/\∃ (its:List Value) (n:Nat),Vals xs its/\xs.length=its.length/\s.heap.get? l=some { cls:=.type "list",data:=.seq its.toArray n }:=by
 obtain ⟨z,its,n,r,e⟩:=I.hok l _ hH
 exact ⟨z,its,n,r,r.length,e⟩
theorem Vk {n:Nat} (h:n<=sizeLine):Builtin.List.listTooLong n=false:=by
 unfold Builtin.List.listTooLong
 exact decide_eq_false (by omega)
end
section
variable {X:Cx}
noncomputable def W2:V->List V->Hp->VK->Prop:=fun x vs H Q=>∃ l xs y,x=.ref l/\vs=[y]/\H l=some (.lst xs)/\xs.length<sizeLine/\Q .non (upd H l (.lst (xs++[y])))
theorem DG:nQ X "list.append" W2:=by
 intro pins s σ H x vs v us Q I rx rv h
 obtain ⟨l,xs,y,rfl,rfl,hH,hz,q⟩:=h
 cases rx
 obtain ⟨u,rfl,ru⟩:=rv.one
 obtain ⟨z,its,n,r,hl,e⟩:=I.QM hH
 refine call_meets F.slot_list_append ⟨_,e,rfl⟩ F.entry_list_append (F.args_list_append_2 _ _) (PySem.list_append l its.toArray n u (by rw [cy]; omega)) ⟨e,?_⟩
 refine ⟨.non,_,I.XS (its':=its++[u]) hH e (by simp) (r.append (.cons ru .nil)) ?_,rfl,q⟩
 rw [av,bq]
 omega
noncomputable def W9:V->List V->Hp->VK->Prop:=fun x vs H Q=>∃ l b xs zs,x=.ref l/\vs=[.ref b]/\H l=some (.lst xs)/\H b=some (.lst zs)/\xs.length+zs.length<=sizeLine/\Q .non (upd H l (.lst (xs++zs)))
theorem TF:nQ X "list.extend" W9:=by
 intro pins s σ H x vs v us Q I rx rv h
 refine byC fun w_=>?_;obtain ⟨l,b,xs,zs,rfl,rfl,hH,hB,hz,q⟩:=h;refine w_ ?_
 cases rx
 obtain ⟨u,rfl,ru⟩:=rv.one
 cases ru
 obtain ⟨z,its,n,r,hl,e⟩:=I.QM hH
 obtain ⟨z2,its2,n2,r2,hl2,e2⟩:=I.QM hB
 have hsz:its.toArray.size+its2.toArray.size<=sizeLine:=by rw [cy,cy]; omega
 have hlong:¬ (!its.toArray.isEmpty && Builtin.List.listTooLong (its.toArray.size+its2.toArray.size))=true:=by
  rw [Vk hsz,Bool.and_false]
  exact fi
 refine call_meets F.slot_list_extend ⟨_,e,rfl⟩ F.entry_list_extend (F.args_list_extend_2 _ _)
  (AutoSeq1.list_extend_list_list_0 l its.toArray n b its2.toArray n2 hlong (by rw [cy]; omega) (by omega)) ⟨e,e2,?_⟩
 refine ⟨.non,_,I.XS (its':=its++its2) hH e (by simp) (r.append r2) ?_,rfl,q⟩
 rw [av]
 omega
noncomputable def Yp:V->List V->Hp->VK->Prop:=fun x vs H Q=>∃ l xs i k y,x=.ref l/\vs=[.int i]/\H l=some (.lst xs) /\ -(2 ^ 63)<=i/\i<2 ^ 63/\seqIndex? i xs.length=some k/\xs[k]? = some y/\Q y (upd H l (.lst (xs.eraseIdx k)))
theorem Vi:nQ X "list.pop" Yp:=by
 intro pins s σ H x vs v us Q I rx rv h
 refine byC fun w_=>?_;obtain ⟨l,xs,i,k,y,rfl,rfl,hH,h1,h2,hk,hy,q⟩:=h;refine w_ ?_
 cases rx
 obtain ⟨u,rfl,ru⟩:=rv.one
 obtain ⟨t,rfl⟩:=ru
 obtain ⟨z,its,n,r,hl,e⟩:=I.QM hH
 obtain ⟨w,hw,rw'⟩:=r.get hy
 refine call_meets F.slot_list_pop ⟨_,e,rfl⟩ F.entry_list_pop (F.args_list_pop_2 _ _)
  (MeetsSeq.list_pop_at l its.toArray n i t k w (fitsIndex_both h1 h2) (by rw [cy,← hl]; exact hk) (by rw [← Array.getElem?_toList]; exact hw) (by rw [cy]; omega)) ⟨e,?_⟩
 refine ⟨y,_,I.XS (its':=its.eraseIdx k) hH e ?_ (r.eraseIdx k) ?_,rw',q⟩
 ·show its.toArray.eraseIdxIfInBounds k=(its.eraseIdx k).toArray
  rw [List.eraseIdxIfInBounds_toArray]
 ·have:=Lr xs k
  omega
noncomputable def nO:R2:=fun x y H Q=>∃ l b xs zs,x=.ref l/\y=.ref b/\H l=some (.lst xs)/\H b=some (.lst zs)/\xs.length+zs.length<=sizeLine/\∀ p,H p=none->Q (.ref p) (upd H p (.lst (xs++zs)))
theorem Mu:Gv X (binaryOp .Add) nO:=by
 intro pins s σ H x y v u Q I rx ry h
 refine byC fun w_=>?_;obtain ⟨l,b,xs,zs,rfl,rfl,hH,hB,hz,q⟩:=h;refine w_ ?_
 cases rx
 cases ry
 obtain ⟨z,its,n,r,hl,e⟩:=I.QM hH
 obtain ⟨z2,its2,n2,r2,hl2,e2⟩:=I.QM hB
 refine PySem.P.add_list e e2 ?_ (by rw [cy,cy]; omega)
 have ea:its.toArray++its2.toArray=(its++its2).toArray:=by simp
 rw [ea]
 exact ⟨.ref _,_,I.ZG (t':=s.toks) (r.append r2) (by rw [av]; omega),rfl,q _ I.fresh⟩
end
section
variable {prog:Program} {w:World} {A:Around} {E:Value->Shared->Prop} {s:Shared}
end
section
variable {X:Cx}
end
end L2
namespace Att
open PySem PySem.W PySem.Calls PyProof.Rows
theorem J8 {P:Params} {h:Heap}:∀ (ns:List Int) (vs:List Value),WellAll P h vs (ns.map WData.int)->IntsAre vs ns:=by
 intro ns
 induction ns with
 | nil =>
  intro vs w
  rw [gT] at w
  cases w
  exact .nil
 | cons n ns ih =>
  intro vs w
  rw [dv] at w
  cases w with
  | cons a b =>
   cases a
   exact .cons _ _ (ih _ b)
theorem Sh {l:OpenLaw} {n:Nat} (hn:l.most=some n) {P:Params} {h:Heap} {args:List WData} {vals:List Value}
  (hpre:l.row.toRowW.claim.pre args=true) (hwl:WellAll P h vals args) :
  ∃ a vs ns,vals=[Value.ref a]/\args=[WData.list (ns.map WData.int)]/\h.get? a=some { cls:=.type "list",data:=.seq vs.toArray }/\IntsAre vs ns/\ns.length<=n:=by
 have hsh:WShape.hasAll [] args [.list .int]=true:=(pre_splitW hpre).1
 have hc:l.pre.holds [] { args:=args }=true:=(pre_splitW hpre).2
 obtain ⟨d,r,rfl,h1,h2⟩:=hasAllW_cons hsh
 obtain rfl:=hasAllW_nil h2
 obtain ⟨xs,rfl,h3⟩:=hasW_list h1
 obtain ⟨ns,rfl⟩:=items_int h3
 have hlen:ns.length<=n:=by
  unfold OpenLaw.pre at hc
  have h4:(WTm.not (.lt (.lit (.int (n:Int))) (.len (.arg 0)))).holds [] { args:=[.list (ns.map .int)] }=true:=by
   have h4:=(holds_andW hc).1
   rw [hn] at h4
   exact h4
  have h5:=condW_of h4 (w_not (w_lt w_lit (w_len_list (w_arg rfl))))
  rw [ai] at h5
  refine Nat.le_of_not_lt fun q=>?_
  have q':(n:Int)<((ns.length:Nat):Int):=by omega
  first
   | (rw [decide_eq_true q'] at h5; exact absurd h5 (by decide))
   | (simp at h5; omega)
 cases hwl with
 | cons w1 w2 =>
  cases w2
  cases w1 with
  | list ho hall=>exact ⟨_,_,ns,rfl,rfl,ho,J8 ns _ hall,hlen⟩
theorem Rp (l:OpenLaw) (args:List WData):l.row.toRowW.claim.post args (.bool true) args=true :=
 postW_of (r:=l.row.toRowW) (X:=(true == true))
  (show WShape.has [] (.bool true) .bool=true by first | rfl | decide | simp [WShape.has,WShape.arms,WShape.armsAll])
  (show (WTm.eq .res (.lit (.bool true))).value [] { args:=args,res:=some (.bool true),after:=args }=some (.bool (true == true)) from w_eq_bool (w_res rfl) w_lit) rfl
theorem Oc {l:OpenLaw} {n:Nat} {q:Program} {loose:List Str} {XP:(Str->Option Value)->Heap->Prop} {YP:World->Heap->Prop} {d:DefRec}
  (hn:l.most=some n) (hdf:d.params.defaults=[])
  (call:∀ (w:World) (s₀ s₁:Shared) (mg mb:Str->Option Value) (fa:Addr) (o:Obj) (pm cd doc:Value) (a:Addr) (vs:List Value) (ns:List Int),
   Ground q loose [] XP w s₀ mg mb s₁.heap->YP w s₁.heap ->
   s₁.heap.get? fa=some o->o.data=.func (docDef d.name d.params d.body d.scope pm cd doc)->s₁.heap.CodeRec cd d.name->mg d.name=some (.ref fa) ->
   s₁.heap.get? a=some { cls:=.type "list",data:=.seq vs.toArray }->IntsAre vs ns->ns.length<=n->s₁.gens = #[] ->
   codeAny (model l.prog w) callerA (.call (.ref fa) ⟨[.ref a],[]⟩) (fun r s'=>r=.ok (.ret (.bool true))/\OldK s₁.heap s'.heap/\s'.os=s₁.os/\AllBare s'.gens) s₁) :
  WalkO q loose XP YP l.row.toRowW d [] (fun f vs=>PySem.call f vs):=by
 intro w s₀ s₁ mg mb G Y fa o pm cd doc dV kV ho hd hcd hD hmg hg args vals as hpre hlay hrd hwl hlo
 obtain rfl:dV=.none:=Dflts.none hD hdf
 obtain rfl:kV=.none:=Dflts.noKw hD
 obtain ⟨a,vs,ns,rfl,rfl,hobj,hints,hlen⟩:=Sh hn hpre hwl
 refine enter_call (codeAny_mono (call w s₀ s₁ mg mb fa o pm cd doc a vs ns G Y ho (fd_plain hd) hcd hmg hobj hints hlen hg) fun r s' hq=>?_)
 obtain ⟨rfl,h2,h3,h4⟩:=hq
 exact ⟨.inl ⟨.bool true,.bool true,[],rfl,fun _=>rfl,.bool true,Rp l _,fun _=>⟨List.Pairwise.nil,fun _ hm=>(nomatch hm)⟩⟩,h2,h3,h4⟩
section
variable {prog:Program} {w:World} {A:Around} {E:Value->Shared->Prop} {s:Shared} {K:Frag}
end
end Att
namespace L2
open PySem PySem.Spec PyProof.Rows
theorem Ly:∀ {vs:List Value} {ns:List Int},IntsAre vs ns->Vals (ns.map V.int) vs
 | _,_,.nil=>.nil
 | _,_,.cons n t h=>.cons ⟨t,rfl⟩ (Ly h)
noncomputable def Only (H:Hp):Prop:=∀ b,H b=none \/ ∃ o xs,H b=some (.frz o (.lst xs))
theorem Ua {P:Program} {w:World} {K:PySem.W.Frag} {mg mb:Str->Option Value} {CX:Sq} {k:Nat} {fa a:Addr} {fd:FuncData} {x:Str} {sp:Sp} {s₁:Shared} {vs:List Value} {ns:List Int}
  (KX:K.In s₁.heap) (hns:s₁.heap.Ns mainGlobals mg) (hb:s₁.heap.Ns builtinsNs mb) (hbb:∀ x:Str,x ≠ "__name__"->mb x=bootBuiltins x) (hlim:s₁.heap.NoLimit) (hg:s₁.gens = #[])
  (ha:s₁.heap.get? a=some { cls:=.type "list",data:=.seq vs.toArray }) (hi:IntsAre vs ns) (hl:ns.length<=sizeLine) (hr:BL k callerA)
  (F:∀ base:Heap,K.In base->base.Ns mainGlobals mg->Av P w K mg base CX k fa fd [x] sp) (hbind:∀ (s:Shared) (u:Value),BindsTo s fd ⟨[u],[]⟩ [(x,u)])
  (hsp:∀ H:Hp,Only H->Cz K H a (ns.map V.int)->sp [.ref a] H (fun v _=>v=.bl true) fun _ _ _=>False)
  (hCX:∀ H e s',CX [] H s₁ (fun _ _ _=>False) e s'->False) :
  codeAny (model P w) callerA (.call (.ref fa) ⟨[.ref a],[]⟩) (fun r s'=>r=.ok (.ret (.bool true))/\OldK s₁.heap s'.heap/\s'.os=s₁.os/\AllBare s'.gens) s₁:=by
 have rv:=Ly hi
 have lenV:=hi.length
 have core:∀ H:Hp,Only H->Cz K H a (ns.map V.int)->JC P w H s₁.heap->(∀ b,H b ≠ none->b=a)->(H a ≠ none->K.lookup a=none) ->
   codeAny (model P w) callerA (.call (.ref fa) ⟨[.ref a],[]⟩) (fun r s'=>r=.ok (.ret (.bool true))/\OldK s₁.heap s'.heap/\s'.os=s₁.os/\AllBare s'.gens) s₁:=by
  intro H hO hS hok hA hK
  have base_of:∀ {b:Addr} {o:Obj},s₁.heap.get? b=some o->H b=none->(Mq s₁.heap H).get? b=some o:=fun e n=>Vn e n
  have noA:∀ {b:Addr} {o:Obj} {es:Array DictEntry} {ep:Nat},s₁.heap.get? b=some o->o.data=.dict es ep->H b=none:=fun {b o es ep} e d=>by
   cases q:H b with
   | none=>rfl
   | some u =>
    have e':b=a:=hA b (by rw [q]; simp)
    subst e'
    rw [ha] at e; cases e
    have d':Data.seq vs.toArray _=Data.dict es ep:=d
    cases d'
  have nsK:∀ {b:Addr} {m:Str->Option Value},s₁.heap.Ns b m->(Mq s₁.heap H).Ns b m:=fun {b m} ⟨o,es,ep,e,d,r⟩=>⟨o,es,ep,base_of e (noA e d),d,r⟩
  have hKb:K.In (Mq s₁.heap H):=fun b o e=>base_of (KX b o e) (by
   cases q:H b with
   | none=>rfl
   | some u =>
    have e':b=a:=hA b (by rw [q]; simp)
    subst e'
    rw [hK (by rw [q]; simp)] at e; cases e)
  have hM:Mod K mg (Mq s₁.heap H):=⟨hKb,nsK hns,⟨mb,nsK hb,hbb⟩,let ⟨mc,h1,h2⟩:=hlim; ⟨mc,nsK h1,h2⟩⟩
  have e0:Ot P w K mg (Mq s₁.heap H) callerA [] s₁ H:=⟨rfl,hM,fun b o e=>Xc e,Nat.le_of_eq (Tu _ _),trivial,fun b hb=>absurd (show b∈([]:List Addr) from hb) (by simp),hok,.of_eq hg⟩
  refine codeAny_mono ((F _ hKb (nsK hns)).run callerA [] s₁ H ⟨[.ref a],[]⟩ [.ref a] [.ref a] _ _ hr e0 (hbind s₁ (.ref a)) (.cons rfl .nil) (hsp H hO hS)) fun r s' h=>?_
  cases r with
  | error e=>exact (hCX H e s' h).elim
  | ok fl =>
   cases fl with
   | next=>exact False.elim h
   | brk=>exact False.elim h
   | cont=>exact False.elim h
   | ret u =>
    obtain ⟨v,H',os,bare,un,hok',r',q⟩:=h
    have q':v=.bl true:=q
    subst q'
    obtain rfl:u=Value.bool true:=r'
    refine ⟨rfl,OldK.of_keep fun b o e=>?_,os,bare⟩
    cases q:H b with
    | none=>exact un.keep b o e q (by intro z; exact absurd (show b∈([]:List Addr) from z) (by simp)) (by simp)
    | some u =>
     rcases hO b with z | ⟨ob,xs,z⟩
     ·rw [q] at z; cases z
     ·have z2:=un.frzs b ob _ z
      obtain ⟨e1,_⟩:=hok b _ z
      obtain ⟨e2,_⟩:=hok' b _ z2
      rw [e] at e1; cases e1
      exact e2
 cases hk:K.lookup a with
 | some o =>
  have e:=KX a o hk
  rw [ha] at e
  cases e
  refine core (fun _=>none) (fun _=>.inl rfl) (.inr ⟨_,vs.toArray,_,hk,rfl,rfl,rfl,by rw [List.size_toArray,lenV]; exact hl,by simpa using rv⟩) (fun b u z=>by have z':(none:Option HO)=some u:=z; cases z') (fun b z=>absurd rfl z) fun z=>absurd rfl z
 | none =>
  refine core (fun b=>if b=a then some (.frz { cls:=.type "list",data:=.seq vs.toArray } (.lst (ns.map V.int))) else none) (fun b=>?_) (.inl (.inr ⟨{ cls:=.type "list",data:=.seq vs.toArray },if_pos rfl⟩)) (fun b u z=>?_) (fun b z=>?_) fun _=>hk
  ·by_cases hb:b=a
   ·exact .inr ⟨_,_,if_pos hb⟩
   ·exact .inl (if_neg hb)
  ·by_cases hb:b=a
   ·have z':=(if_pos hb).symm.trans z
    cases z'
    subst hb
    exact ⟨ha,by rw [ai]; exact hl,vs,_,rv,ha⟩
   ·have z':=(if_neg hb).symm.trans z
    cases z'
  ·by_cases hb:b=a
   ·exact hb
   ·exact absurd (if_neg hb) z
end L2
namespace L2
open PySem PySem.Spec PyProof.Rows
theorem V9 {l:PySem.W.OpenLaw} {n k:Nat} {q:Program} {loose:List Str} {XP:(Str->Option Value)->Heap->Prop} {YP:World->Heap->Prop} {d:DefRec} {K:Params->PySem.W.Frag} {CX:World->Sq} {sp:World->Sp} {x:Str}
  (hn:l.most=some n) (hn2:n<=sizeLine) (hdf:d.params.defaults=[]) (hr:BL k callerA)
  (hY:∀ (w:World) (h:Heap),YP w h->(K w.params).In h)
  (F:∀ (w:World) (mg:Str->Option Value) (fa:Addr) (h:Heap),(K w.params).In h->h.Ns mainGlobals mg->mg d.name=some (.ref fa) ->
   ∃ fd:FuncData,(∀ (s:Shared) (u:Value),BindsTo s fd ⟨[u],[]⟩ [(x,u)]) /\
    ∀ base:Heap,(K w.params).In base->base.Ns mainGlobals mg->Av l.prog w (K w.params) mg base (CX w) k fa fd [x] (sp w))
  (hsp:∀ (w:World) (H:Hp) (a:Addr) (ns:List Int),ns.length<=n->Only H->Cz (K w.params) H a (ns.map V.int)->sp w [.ref a] H (fun v _=>v=.bl true) fun _ _ _=>False)
  (hCX:∀ (w:World) (H:Hp) (s:Shared) (e:Value) (s':Shared),CX w [] H s (fun _ _ _=>False) e s'->False) :
  PySem.W.WalkO q loose XP YP l.row.toRowW d [] (fun f vs=>PySem.call f vs):=by
 refine Att.Oc hn hdf fun w s₀ s₁ mg mb fa o pm cd doc a vs ns G Y ho hd hcd hmg hobj hints hlen hg=>?_
 have KX:=hY w _ Y
 obtain ⟨fd,hb,hF⟩:=F w mg fa _ KX G.T.g hmg
 exact Ua KX G.T.g G.T.b G.T.builtins G.T.nolimit hg hobj hints (bE hlen hn2) hr hF hb (fun H hO hS=>hsp w H a ns hlen hO hS) fun H e s'=>hCX w H s₁ e s'
end L2
namespace L2
open PySem PySem.Spec PyProof.Rows
noncomputable def inClass (s:Stmt) (j:Nat):Stmt:=match s with
 | .ClassDef _ _ _ body _ _ _ _ _ _ _=>body.getD j (.Pass ⟨0,0,0,0⟩)
 | _=>.Pass ⟨0,0,0,0⟩
noncomputable def DN (s:Stmt):Arguments:=match s with
 | .FunctionDef _ a _ _ _ _ _ _ _ _=>a
 | _=>{ posonlyargs:=[],args:=[],vararg:=none,kwonlyargs:=[],kw_defaults:=[],kwarg:=none,defaults:=[] }
noncomputable def Cm (s:Stmt):List Stmt:=match s with
 | .FunctionDef _ _ b _ _ _ _ _ _ _=>b
 | _=>[]
noncomputable def Af (s:Stmt):Scope:=match s with
 | .FunctionDef _ _ _ _ _ _ sc _ _ _=>sc
 | _=>{ kind:=.function,names:=[],isGenerator:=false,isCoroutine:=false }
noncomputable abbrev Bg:Sq:=fun _ _ _ _ _ _=>False
noncomputable abbrev E0:XK:=fun _ _ _=>False
theorem An {X:Cx}:Ip Bg X E0:=fun _ _ _ _ _ _ _ h=>h.elim
structure DK (K:PySem.W.Frag) (x qual:Str) (st:Stmt) (f:Addr) (fd:FuncData):Prop where
 ex:∃ (oc:Value) (od:Option Addr) (kV doc pm:Value) (an:Option Addr) (cdv ct:Value) (osl:Array (Option Value)),
  fd=PySem.W.fnOf x qual (DN st) (Cm st) (Af st) .none kV doc pm an cdv ct/\K.lookup f=some ⟨oc,od,.func fd,osl⟩/\PySem.W.codeIn K cdv qual=true
 kp:PySem.W.keepIn K (.ref f)=true
section
variable {P:Program} {w:World} {K:PySem.W.Frag} {mg:Str->Option Value} {base:Heap}
theorem DK.ok {x qual:Str} {st:Stmt} {f:Addr} {fd:FuncData} {N ps:List Str} {k:Nat} {sp:Sp} (F:DK K x qual st f fd) (S:Aw N ps (Af st)) (len:∀ vs H Q E,sp vs H Q E->vs.length=ps.length)
  (hbody:∀ (cdv:Value) (A:Around) (outer:List Env) (s:Shared) (H:Hp) (vs:List V) (Q:VK) (E:XK),BL k (A.deeper (envOfC qual (Af st) s.heap.objs.size f cdv))->sp vs H Q E ->
   ∃ t,PN (Pr Bg P w K mg base N qual (Af st) f cdv A outer s H E).aX (Cm st) t/\t { nx:=fun _ H'=>Q .non H',rt:=Q } (start N vs) H):Av P w K mg base Bg (k+1) f fd ps sp:=by
 refine byC fun w_=>?_;obtain ⟨oc,od,kV,doc,pm,an,cdv,ct,osl,rfl,lk,hcd⟩:=F.ex;refine w_ ?_
 refine YL lk hcd S len fun A outer s H vs Q E hr hsp=>?_
 obtain ⟨t,h,q⟩:=hbody cdv A outer s H vs Q E hr hsp
 exact ⟨t,h.aX,q⟩
theorem DK.binds {x qual:Str} {st:Stmt} {f:Addr} {fd:FuncData} {ps:List Str} (F:DK K x qual st f fd)
  (h:∀ (kV doc pm:Value) (an:Option Addr) (cdv ct:Value) (us:List Value),us.length=ps.length->bindArgs (PySem.W.fnOf x qual (DN st) (Cm st) (Af st) .none kV doc pm an cdv ct) ⟨us,[]⟩=pure (ps.zip us)):Binds K fd ps []:=by
 refine byC fun w_=>?_;obtain ⟨oc,od,kV,doc,pm,an,cdv,ct,osl,rfl,lk,hcd⟩:=F.ex;refine w_ ?_
 exact .all (h kV doc pm an cdv ct)
theorem Pu {x qual:Str} {st:Stmt} {f:Addr} {oc:Value} {od an:Option Addr} {osl:Array (Option Value)} {kV doc pm cdv ct:Value} (l:K.lookup f=some ⟨oc,od,.func (PySem.W.fnOf x qual (DN st) (Cm st) (Af st) .none kV doc pm an cdv ct),osl⟩)
  (c:PySem.W.codeIn K cdv qual=true) (k:PySem.W.keepIn K (.ref f)=true):DK K x qual st f (PySem.W.fnOf x qual (DN st) (Cm st) (Af st) .none kV doc pm an cdv ct):=⟨⟨oc,od,kV,doc,pm,an,cdv,ct,osl,rfl,l,c⟩,k⟩
end
theorem Ei {A:Around} {k:Nat} (hr:BL k A):A.units+1<cLine:=bp (Nat.add_le_add_left (by decide:1<=64) _) hr.units
theorem BJ {n:Nat} (h:n<=1000):n<sizeLine:=bp h (by decide)
section
variable {X:Cx}
theorem pv (i:Nat) {x:Str} {pos:Pos} (hN:X.N[i]? = some x:=by rfl) (hv:pW X.env.scope x:=by first | exact Or.inl rfl | exact Or.inr (Or.inl rfl) | exact Or.inr (Or.inr rfl)) (hd:(x == ("__debug__" : Str))=false:=by decide)
  (hcd:(x == ("__classdict__" : Str))=false:=by decide):PE X (.Name x pos) (fH i):=Y4 hN hv hd hcd
end
theorem Ci {A B:Prop} (h:B):if false=true then A else B:=by
 rw [if_neg fi]
 exact h
theorem Ef {A B:Prop} (h:A):if true=true then A else B:=by
 rw [if_pos rfl]
 exact h
theorem Bs {c A B:Prop} [Decidable c] (h1:c->A) (h2:¬ c->B):if c then A else B:=by
 by_cases h:c
 ·rw [if_pos h]
  exact h1 h
 ·rw [if_neg h]
  exact h2 h
theorem YB {c A B:Prop} [Decidable c] (hc:c) (h:B):if (!decide c)=true then A else B:=by
 rw [decide_eq_true hc]
 exact Ci h
noncomputable def Ao (H H':Hp):Prop:=∀ b o,H b=some o->H' b=some o
theorem Ao.refl (H:Hp):Ao H H:=fun _ _ h=>h
theorem Ao.trans {H H1 H2:Hp} (a:Ao H H1) (b:Ao H1 H2):Ao H H2:=fun c o h=>b c o (a c o h)
theorem Ao.free {H H':Hp} (e:Ao H H') {l:Addr} (h:H' l=Option.none):H l=Option.none:=by
 cases q:H l with
 | none=>rfl
 | some o =>
  rw [e l o q] at h
  cases h
theorem Ao.seq {K:PySem.W.Frag} {H H':Hp} {a:Addr} {xs:List V} (e:Ao H H') (h:Cz K H a xs):Cz K H' a xs:=by
 rcases h with (h | ⟨o,h⟩) | h
 ·exact .inl (.inl (e _ _ h))
 ·exact .inl (.inr ⟨o,e _ _ h⟩)
 ·exact .inr h
end L2
namespace L2
open PySem PySem.Spec PyProof.Rows
section
variable {X:Cx}
end
section
variable {κ:Type} [DecidableEq κ]
theorem RW:∀ {l:List κ} {k:κ},l.Nodup->¬ k∈l->(l++[k]).Nodup
 | [],k,_,_=>by simp
 | a::r,k,h,hk=>by
  obtain ⟨h1,h2⟩:=gS.mp h
  show (a::(r++[k])).Nodup
  refine gS.mpr ⟨fun m=>?_,RW h2 fun m=>hk (eh.mpr (Or.inr m))⟩
  rcases ba.mp m with q | q
  ·exact h1 q
  ·exact hk (eh.mpr (Or.inl (aS.mp q).symm))
end
end L2
namespace L2
open PySem PySem.Spec PyProof.Rows
section
variable {prog:Program} {w:World} {A:Around} {E:Value->Shared->Prop} {s:Shared}
theorem Kp {it a:Addr} {i:Nat} {items:Array Value} {x:Value} {Q:Value->Shared->Prop} (j:s.heap.IsTupleIter it a i) (ht:s.heap.IsTuple a items) (hx:items[i]? = some x)
  (q:∀ h',h'.IsTupleIter it a (i+1)->Heap.SameBut it s.heap h'->Q x { s with heap:=h' }):wpAny (model prog w) A (Builtin.SmallTypes.nextOf (.ref it)) Q E s:=by
 have j0:=j
 obtain ⟨o,e,c,d⟩:=j
 obtain ⟨oa,ea,_,n,da⟩:=ht
 unfold Builtin.SmallTypes.nextOf
 refine wpAny_bind (wpAny_callSpecial?_slot (name:=Str.ofString "__next__") j0.typeIs F.slot_tuple_iterator_next (wpAny_call_entry F.slot_tuple_iterator_next j0.typeIs F.entry_tuple_iterator_next ?_ (F.args_tuple_iterator_next_1 _)))
 refine (show wpAny _ _ (field (.ref it) 0 >>= _) _ _ s from wpAny_bind (wpAny_field e d (x:=.ref a) rfl ?_))
 refine (show wpAny _ _ (if (Value.ref a == Value.none)=true then _ else _) _ _ s from ?_)
 rw [if_neg (by exact fi)]
 refine (show wpAny _ _ (field (.ref it) 1 >>= _) _ _ s from wpAny_bind (wpAny_field e d (x:=.int i 0) rfl ?_))
 refine (show wpAny _ _ (seqItems? (.ref a) >>= _) _ _ s from wpAny_bind (wpAny_seqItems ea da ?_))
 simp only [Int.toNat_natCast,hx]
 exact wpAny_bind (wpAny_setField e d (by simp) (wpAny_pure ⟨x,rfl,wpAny_pure (q _ ⟨_,Heap.get?_update_self _ e (Obj.isFreed_of_fields (Obj.data_mapFields d _)),(Obj.cls_mapFields ..).trans c,by rw [Obj.data_mapFields d]; simp [rawInt]⟩ (Heap.SameBut.update ..))⟩))
theorem KY {it a:Addr} {i:Nat} {items:Array Value} {Q:Value->Shared->Prop} (hh:A.handled=none) (j:s.heap.IsTupleIter it a i) (ht:s.heap.IsTuple a items) (hx:items[i]? = none)
  (q:∀ h' e,Heap.ExtBut it s.heap h'->(∃ o,h'.get? e=some o/\o.cls=.type "StopIteration")->E (.ref e) { s with heap:=h' }):wpAny (model prog w) A (Builtin.SmallTypes.nextOf (.ref it)) Q E s:=by
 have j0:=j
 obtain ⟨o,e,c,d⟩:=j
 obtain ⟨oa,ea,_,n,da⟩:=ht
 unfold Builtin.SmallTypes.nextOf
 refine wpAny_bind (wpAny_callSpecial?_slot (name:=Str.ofString "__next__") j0.typeIs F.slot_tuple_iterator_next (wpAny_call_entry F.slot_tuple_iterator_next j0.typeIs F.entry_tuple_iterator_next ?_ (F.args_tuple_iterator_next_1 _)))
 refine (show wpAny _ _ (field (.ref it) 0 >>= _) _ _ s from wpAny_bind (wpAny_field e d (x:=.ref a) rfl ?_))
 refine (show wpAny _ _ (if (Value.ref a == Value.none)=true then _ else _) _ _ s from ?_)
 rw [if_neg (by exact fi)]
 refine (show wpAny _ _ (field (.ref it) 1 >>= _) _ _ s from wpAny_bind (wpAny_field e d (x:=.int i 0) rfl ?_))
 refine (show wpAny _ _ (seqItems? (.ref a) >>= _) _ _ s from wpAny_bind (wpAny_seqItems ea da ?_))
 simp only [Int.toNat_natCast,hx]
 refine wpAny_bind (wpAny_rule (wpAny_bind (wpAny_setField e d (by simp) (show wpAny _ _ (newExc (.type "StopIteration") [] >>= _) _ _ _ from wpAny_bind ?_))))
 simp only [newExc,newTuple]
 refine wpAny_bind (wpAny_newObj_type (wpAny_bind (m:=firstArgMember _ _) (wpAny_of_eq (a:=Value.none) (by first | rfl | (simp only [firstArgMember]; rfl)) (wpAny_newObj_type ?_ (by size_fits)))) (by size_fits))
 simp only [raiseNew]
 refine wpAny_bind (wpAny_handled ?_)
 first | rw [show A.in1.handled=none from hh] | rw [hh]
 exact wpAny_bind (wpAny_pure (wpAny_throw (q _ _ (((Heap.SameBut.update ..).extBut.push _).push _) ⟨_,Heap.get?_push_size _ rfl,rfl⟩)))
theorem R0 {z TI TO i1 i2 a1 a2:Addr} {k:Nat} {xs ys:Array Value} {x y a b:Value} {Q:Value->Shared->Prop} (D:ZipApart z TI TO i1 i2 a1 a2)
  (hz:IsZip s.heap z TI TO .none) (hI:IsPair s.heap TI (.ref i1) (.ref i2)) (hO:IsPair s.heap TO a b)
  (j1:s.heap.IsTupleIter i1 a1 k) (j2:s.heap.IsTupleIter i2 a2 k) (t1:s.heap.IsTuple a1 xs) (t2:s.heap.IsTuple a2 ys) (hx:xs[k]? = some x) (hy:ys[k]? = some y)
  (q:∀ h',IsZip h' z TI TO (rawInt s.heap.objs.size)->IsPair h' TO x y->h'.IsTupleIter i1 a1 (k+1)->h'.IsTupleIter i2 a2 (k+1)->IsPair h' s.heap.objs.size x y->h'.objs.size=s.heap.objs.size+1 ->
   (∀ c o,c ≠ z->c ≠ TO->c ≠ i1->c ≠ i2->s.heap.get? c=some o->h'.get? c=some o)->Q (.ref s.heap.objs.size) { s with heap:=h' }) :
  wpAny (model prog w) A (Builtin.«zip.__next__» ⟨[.ref z],[]⟩) (fun fin s'=>∃ v,fin=.done (.ret v)/\Q v s') E s:=by
 refine (show wpAny _ _ (field (.ref z) 2 >>= _) _ _ _ from wpAny_bind (wpAny_field hz rfl (x:=.bool false) rfl (show wpAny _ _ (field (.ref z) 3 >>= _) _ _ _ from wpAny_bind (wpAny_field hz rfl (x:=.ref TI) rfl (wpAny_bind (wpAny_seqItems hI rfl ?_))))))
 refine (show wpAny _ _ (Builtin.SmallTypes.ownedTupleIsFree (.ref z) >>= _) _ _ _ from wpAny_bind ?_)
 unfold Builtin.SmallTypes.ownedTupleIsFree
 refine wpAny_bind (wpAny_field hz rfl (x:=.none) rfl (wpAny_pure ?_))
 simp only [if_true]
 refine wpAny_bind (wpAny_rule (wpAny_bind (wpAny_field hz rfl (x:=.ref TO) rfl (wpAny_bind (wpAny_setField_rec hz (by simp) fun h1 z1 s1=>?_)))))
 have y1:IsZip h1 z TI TO .ellipsis:=z1
 refine wpAny_bind ?_
 simp only [List.zipIdx_cons,List.zipIdx_nil,List.forIn_cons,List.forIn_nil]
 refine wpAny_bind (wpAny_bind (wpAny_onRaise (show wpAny _ _ (Builtin.SmallTypes.nextOf (.ref i1) >>= _) _ _ _ from wpAny_bind (Kp (j1.at fun o e=>s1.extBut _ _ D.i1z e) (t1.at fun o e=>s1.extBut _ _ D.l1z e) hx fun h2 n1 s2=>wpAny_pure ?_))))
 have o2:IsPair h2 TO a b:=s2.extBut _ _ D.TOi1 (s1.extBut _ _ D.TOz hO)
 refine wpAny_bind (wpAny_seqItems o2 rfl (wpAny_bind (wpAny_updateSeq_pair o2 fun h3 p3 s3=>?_)))
 have o3:IsPair h3 TO x b:=p3
 refine wpAny_bind (wpAny_letGo (wpAny_pure ?_))
 refine wpAny_bind (wpAny_bind (wpAny_onRaise (show wpAny _ _ (Builtin.SmallTypes.nextOf (.ref i2) >>= _) _ _ _ from wpAny_bind (Kp (j2.at fun o e=>s3.extBut _ _ D.TOi2.symm (s2.extBut _ _ D.i12.symm (s1.extBut _ _ D.i2z e)))
  (t2.at fun o e=>s3.extBut _ _ D.l2TO (s2.extBut _ _ D.l2i1 (s1.extBut _ _ D.l2z e))) hy fun h4 n2 s4=>wpAny_pure ?_))))
 have o4:IsPair h4 TO x b:=s4.extBut _ _ D.TOi2 o3
 refine wpAny_bind (wpAny_seqItems o4 rfl (wpAny_bind (wpAny_updateSeq_pair o4 fun h5 p5 s5=>?_)))
 have o5:IsPair h5 TO x y:=p5
 refine wpAny_bind (wpAny_letGo (wpAny_pure (wpAny_pure (wpAny_bind (wpAny_seqItems o5 rfl (wpAny_bind (wpAny_newTuple ?_)))))))
 have zs:h5.objs.size=s.heap.objs.size:=by rw [s5.1,s4.1,s3.1,s2.1,s1.1]
 have y5:IsZip h5 z TI TO .ellipsis:=s5.extBut _ _ D.TOz.symm (s4.extBut _ _ D.i2z.symm (s3.extBut _ _ D.TOz.symm (s2.extBut _ _ D.i1z.symm y1)))
 have k5:∀ c o,c ≠ z->c ≠ TO->c ≠ i1->c ≠ i2->s.heap.get? c=some o->h5.get? c=some o:=fun c o c1 c2 c3 c4 e=>s5.extBut _ _ c2 (s4.extBut _ _ c4 (s3.extBut _ _ c2 (s2.extBut _ _ c3 (s1.extBut _ _ c1 e))))
 have m1:h5.IsTupleIter i1 a1 (k+1):=n1.at fun o e=>s5.extBut _ _ D.TOi1.symm (s4.extBut _ _ D.i12 (s3.extBut _ _ D.TOi1.symm e))
 have m2:h5.IsTupleIter i2 a2 (k+1):=n2.at fun o e=>s5.extBut _ _ D.TOi2.symm e
 have lz:z<h5.objs.size:=Heap.lt_size y5
 refine (show wpAny _ _ (Builtin.SmallTypes.ownedTupleHandOut (.ref z) (.ref h5.objs.size) >>= _) _ _ _ from wpAny_bind ?_)
 unfold Builtin.SmallTypes.ownedTupleHandOut
 have y6:IsZip (h5.push { cls:=.type "tuple",data:=.seq #[x,y] }) z TI TO .ellipsis:=Heap.get?_push_of_some _ y5
 refine wpAny_bind (wpAny_setField_rec y6 (by simp) fun h7 p7 s7=>?_)
 have y7:IsZip h7 z TI TO (rawInt h5.objs.size):=p7
 refine wpAny_setField_rec y7 (by simp) fun h8 p8 s8=>?_
 have y8:IsZip h8 z TI TO (rawInt h5.objs.size):=p8
 have up:∀ c o,c ≠ z->h5.get? c=some o->h8.get? c=some o:=fun c o c1 e=>s8.extBut _ _ c1 (s7.extBut _ _ c1 (Heap.get?_push_of_some _ e))
 have t8:IsPair h8 h5.objs.size x y:=s8.extBut _ _ (gL lz) (s7.extBut _ _ (gL lz) (Heap.get?_push_size _ rfl))
 have z8:h8.objs.size=h5.objs.size+1:=by rw [s8.1,s7.1,Heap.size_push]
 rw [zs] at y8 t8 z8
 refine wpAny_pure ⟨_,rfl,?_⟩
 show Q (.ref h5.objs.size) _
 rw [zs]
 exact q h8 y8 (up _ _ D.TOz o5) (m1.at fun o e=>up _ o D.i1z e) (m2.at fun o e=>up _ o D.i2z e) t8 z8 fun c o c1 c2 c3 c4 e=>up c o c1 (k5 c o c1 c2 c3 c4 e)
theorem T_ {z TI TO i1 i2 a1 a2:Addr} {k:Nat} {xs:Array Value} {a b:Value} {Q:Fin->Shared->Prop} (hh:A.handled=none) (D:ZipApart z TI TO i1 i2 a1 a2)
  (hz:IsZip s.heap z TI TO .none) (hI:IsPair s.heap TI (.ref i1) (.ref i2)) (hO:IsPair s.heap TO a b)
  (j1:s.heap.IsTupleIter i1 a1 k) (t1:s.heap.IsTuple a1 xs) (hx:xs[k]? = none)
  (q:∀ h' e,(∀ c o,c ≠ z->c ≠ TO->c ≠ i1->c ≠ i2->s.heap.get? c=some o->h'.get? c=some o)->(∃ o,h'.get? e=some o/\o.cls=.type "StopIteration")->E (.ref e) { s with heap:=h' }) :
  wpAny (model prog w) A (Builtin.«zip.__next__» ⟨[.ref z],[]⟩) Q E s:=by
 refine (show wpAny _ _ (field (.ref z) 2 >>= _) _ _ _ from wpAny_bind (wpAny_field hz rfl (x:=.bool false) rfl (show wpAny _ _ (field (.ref z) 3 >>= _) _ _ _ from wpAny_bind (wpAny_field hz rfl (x:=.ref TI) rfl (wpAny_bind (wpAny_seqItems hI rfl ?_))))))
 refine (show wpAny _ _ (Builtin.SmallTypes.ownedTupleIsFree (.ref z) >>= _) _ _ _ from wpAny_bind ?_)
 unfold Builtin.SmallTypes.ownedTupleIsFree
 refine wpAny_bind (wpAny_field hz rfl (x:=.none) rfl (wpAny_pure ?_))
 simp only [if_true]
 refine wpAny_bind (wpAny_rule (wpAny_bind (wpAny_field hz rfl (x:=.ref TO) rfl (wpAny_bind (wpAny_setField_rec hz (by simp) fun h1 z1 s1=>?_)))))
 have y1:IsZip h1 z TI TO .ellipsis:=z1
 refine wpAny_bind ?_
 simp only [List.zipIdx_cons,List.zipIdx_nil,List.forIn_cons,List.forIn_nil]
 refine wpAny_bind (wpAny_bind (wpAny_onRaise (show wpAny _ _ (Builtin.SmallTypes.nextOf (.ref i1) >>= _) _ _ _ from wpAny_bind (KY hh (j1.at fun o e=>s1.extBut _ _ D.i1z e) (t1.at fun o e=>s1.extBut _ _ D.l1z e) hx fun h2 x s2 hx2=>?_))))
 obtain ⟨ox,ex,cx⟩:=hx2
 have y2:IsZip h2 z TI TO .ellipsis:=s2 _ _ D.i1z.symm y1
 have nz:x ≠ z:=fun u=>by subst u; rw [y2] at ex; cases ex; simp at cx
 exact wpAny_setField_rec y2 (by simp) fun h3 _ s3=>q h3 x (fun c o c1 _ c3 _ e=>s3.extBut _ _ c1 (s2 _ _ c3 (s1.extBut _ _ c1 e))) ⟨ox,s3.extBut _ _ nz ex,cx⟩
end
noncomputable abbrev jq (h:Heap) (a1:Addr):Heap:=h.push { cls:=.type "tuple_iterator",data:=.fields #[.ref a1,.int 0 0] }
noncomputable abbrev ju (h:Heap) (a1 a2:Addr):Heap:=(jq h a1).push { cls:=.type "tuple_iterator",data:=.fields #[.ref a2,.int 0 0] }
noncomputable abbrev jr (h:Heap) (a1 a2:Addr):Heap:=(ju h a1 a2).push { cls:=.type "tuple",data:=.seq #[.ref h.objs.size,.ref (jq h a1).objs.size] }
noncomputable abbrev jT (h:Heap) (a1 a2:Addr):Heap:=(jr h a1 a2).push { cls:=.type "tuple",data:=.seq #[.none,.none] }
noncomputable abbrev Z6 (h:Heap) (a1 a2:Addr):Heap:=(jT h a1 a2).push { cls:=.type "zip",data:=.fields #[.none,.bool false,.bool false,.ref (ju h a1 a2).objs.size,.ref (jr h a1 a2).objs.size] }
theorem Vs (a1 a2:Addr) (xs ys:Array Value):Meets (Builtin.«zip.__new__» ⟨[.type "zip",.ref a1,.ref a2],[]⟩) (fun _ R s=>s.heap.IsTuple a1 xs/\s.heap.IsTuple a2 ys /\
   R (.ok (.ret (.ref (jT s.heap a1 a2).objs.size))) { s with heap:=Z6 s.heap a1 a2 }) :=
 .of_wp fun prog w A R s h=>by
  obtain ⟨hp,g,d,tk,os⟩:=s
  obtain ⟨t1,t2,h⟩:=h
  have hsub:=sub_zip
  have u1:Heap.IsTuple (Shared.heap ⟨hp,g,d,tk,os⟩) a1 xs:=t1
  have u2:Heap.IsTuple (Shared.heap ⟨hp.push { cls:=.type "tuple_iterator",data:=.fields #[.ref a1,.int 0 0] },g,d,tk,os⟩) a2 ys:=Heap.IsTuple.at t2 fun o e=>Heap.get?_push_of_some _ e
  wp_walk using wpAny_pyIter_tuple u1,wpAny_pyIter_tuple u2
  exact ⟨_,rfl,h⟩
section
variable {prog:Program} {w:World} {A:Around} {E:Value->Shared->Prop} {s:Shared}
theorem SJ {a1 a2:Addr} {xs ys:Array Value} {Q:Value->Shared->Prop} (t1:s.heap.IsTuple a1 xs) (t2:s.heap.IsTuple a2 ys)
  (q:∀ h' n,n=s.heap.objs.size->IsZip h' (n+4) (n+2) (n+3) .none->IsPair h' (n+2) (.ref n) (.ref (n+1))->IsPair h' (n+3) .none .none->h'.IsTupleIter n a1 0->h'.IsTupleIter (n+1) a2 0->h'.objs.size=n+5 ->
   (∀ c o,s.heap.get? c=some o->h'.get? c=some o)->Q (.ref (n+4)) { s with heap:=h' }):wpAny (model prog w) A (call (.type "zip") [.ref a1,.ref a2]) Q E s:=by
 refine callType_new F.called_zip (by decide) (F.typeCall_zip_2 _ _) (F.newCall_zip_2 _ _) (fun obj=>F.args_object_init_3 obj _ _) F.entry_zip_new (Vs a1 a2 xs ys) ⟨t1,t2,?_⟩
 have z1:(jq s.heap a1).objs.size=s.heap.objs.size+1:=Heap.size_push ..
 have z2:(ju s.heap a1 a2).objs.size=s.heap.objs.size+2:=by rw [Heap.size_push,z1]
 have z3:(jr s.heap a1 a2).objs.size=s.heap.objs.size+3:=by rw [Heap.size_push,z2]
 have z4:(jT s.heap a1 a2).objs.size=s.heap.objs.size+4:=by rw [Heap.size_push,z3]
 have z5:(Z6 s.heap a1 a2).objs.size=s.heap.objs.size+5:=by rw [Heap.size_push,z4]
 have g5:(Z6 s.heap a1 a2).get? (jT s.heap a1 a2).objs.size=some _:=Heap.get?_push_size _ rfl
 have g4:(Z6 s.heap a1 a2).get? (jr s.heap a1 a2).objs.size=some _:=Heap.get?_push_of_some _ (Heap.get?_push_size _ rfl)
 have g3:(Z6 s.heap a1 a2).get? (ju s.heap a1 a2).objs.size=some _:=Heap.get?_push_of_some _ (Heap.get?_push_of_some _ (Heap.get?_push_size _ rfl))
 have g2:(Z6 s.heap a1 a2).get? (jq s.heap a1).objs.size=some _:=Heap.get?_push_of_some _ (Heap.get?_push_of_some _ (Heap.get?_push_of_some _ (Heap.get?_push_size _ rfl)))
 have g1:(Z6 s.heap a1 a2).get? s.heap.objs.size=some _:=Heap.get?_push_of_some _ (Heap.get?_push_of_some _ (Heap.get?_push_of_some _ (Heap.get?_push_of_some _ (Heap.get?_push_size _ rfl))))
 refine (show _/\_ from ?_)
 rw [z2,z3,z4] at g5
 rw [z1,z2] at g3
 rw [z3] at g4
 rw [z1] at g2
 rw [z4]
 exact ⟨⟨_,g5,rfl⟩,q _ _ rfl g5 g3 g4 ⟨_,g1,rfl,rfl⟩ ⟨_,g2,rfl,rfl⟩ z5 fun c o e=>Heap.get?_push_of_some _ (Heap.get?_push_of_some _ (Heap.get?_push_of_some _ (Heap.get?_push_of_some _ (Heap.get?_push_of_some _ e))))⟩
end
end L2
namespace L2
open PySem PySem.Spec PyProof.Rows
noncomputable def Dk (env:Env):List (Str × NameKind)->List (Str × Addr)->List (Str × Addr)
 | [],acc=>acc
 | (n,k)::r,acc=>if k == .free then (match env.cells.lookup n with | some a=>Dk env r ((n,a)::acc) | none=>Dk env r acc) else Dk env r acc
theorem Iv {scope:Scope} {env:Env} (h:∀ y∈scope.names,y.2=.free->∃ c,env.cells.lookup y.1=some c):closureFor scope env=pure (Dk env scope.names []):=by
 unfold closureFor
 have key:∀ (l:List (Str × NameKind)) (acc:List (Str × Addr)),(∀ y∈l,y.2=.free->∃ c,env.cells.lookup y.1=some c) ->
   (forIn l acc fun (x:Str × NameKind) (cs:List (Str × Addr))=>(match x with | (name,kind)=>if (kind == NameKind.free)=true then (do let a ← cellOf env name; pure (ForInStep.yield ((name,a)::cs))) else pure (ForInStep.yield cs):Sem (ForInStep (List (Str × Addr)))))=(pure (Dk env l acc):Sem _):=by
  intro l
  induction l with
  | nil=>intro acc _; rfl
  | cons x r ih =>
   intro acc hl
   obtain ⟨n,k⟩:=x
   rw [List.forIn_cons]
   unfold Dk
   by_cases hk:(k == NameKind.free)=true
   ·obtain ⟨c,hc⟩:=hl (n,k) List.mem_cons_self (by simpa using hk)
    have hc':env.cells.lookup n=some c:=hc
    have e:cellOf env n=pure c:=by unfold cellOf; rw [hc']
    simp only [hk,if_true,e,hc']
    exact ih _ fun y hy=>hl y (df _ hy)
   ·simp only [hk]
    exact ih _ fun y hy=>hl y (df _ hy)
 have:=key scope.names [] h
 exact (congrArg (fun (m:Sem (List (Str × Addr)))=>m >>= fun z=>pure z) this).trans rfl
theorem Gj (env:Env):∀ (l:List (Str × NameKind)) (acc:List (Str × Addr)) (y:Str) (c:Addr),(Dk env l acc).lookup y=some c->acc.lookup y=some c \/ env.cells.lookup y=some c
 | [],_,_,_,h=>.inl h
 | (n,k)::r,acc,y,c,h=>by
  unfold Dk at h
  split at h
  ·split at h
   ·rename_i a ha
    rcases Gj env r _ y c h with z | z
    ·rw [gx] at z
     split at z
     ·rename_i e
      cases z
      have e':y=n:=by simpa using e
      subst e'
      exact .inr ha
     ·exact .inl z
    ·exact .inr z
   ·exact Gj env r _ y c h
  ·exact Gj env r _ y c h
theorem H_ (env:Env):∀ (l:List (Str × NameKind)) (acc:List (Str × Addr)) (y:Str),(acc.lookup y).isSome=true->((Dk env l acc).lookup y).isSome=true
 | [],_,_,h=>h
 | (n,k)::r,acc,y,h=>by
  unfold Dk
  split
  ·split
   ·refine H_ env r _ y ?_
    rw [gx]
    split
    ·rfl
    ·exact h
   ·exact H_ env r _ y h
  ·exact H_ env r _ y h
theorem E_ (env:Env):∀ (l:List (Str × NameKind)) (acc:List (Str × Addr)) (y:Str),(y,NameKind.free)∈l->(env.cells.lookup y).isSome=true->((Dk env l acc).lookup y).isSome=true
 | [],_,_,h,_=>nomatch h
 | (n,k)::r,acc,y,h,hc=>by
  unfold Dk
  rcases eh.mp h with e | h
  ·obtain ⟨e1,e2⟩:=Prod.mk.inj e
   subst e1
   subst e2
   rw [if_pos (by decide)]
   split
   ·refine H_ env r _ y ?_
    rw [gx]
    simp
   ·rename_i e
    rw [e] at hc
    cases hc
  ·split
   ·split
    ·exact E_ env r _ y h hc
    ·exact E_ env r _ y h hc
   ·exact E_ env r _ y h hc
end L2
namespace L2
open PySem PySem.Spec PyProof.Rows
noncomputable def Ii (x:Str) (N:List Str):List Str:=N.map fun y=>if y=x then "" else y
noncomputable def Ce (X:Cx) (x:Str) (scope:Scope) (C:Addr) (s₀:Shared) (H₀:Hp) (fp:List Addr):Cx where
 prog:=X.prog
 w:=X.w
 K:=X.K
 mg:=X.mg
 base:=X.base
 A:=X.A
 N:=x::Ii x X.N
 s₀:=s₀
 H₀:=H₀
 env:=compEnvC scope (Dk X.env scope.names []) C X.env
 outer:=X.stack
 stack:=X.stack
 ex:=fp
 fn:=fun _=>false
 calm:=X.calm
 pn:=[]
 xe:=fun _ _=>False
theorem GD (env:Env) (y:Str):∀ names:List (Str × NameKind),
  (names.map fun (n,k)=>if (k == NameKind.free && env.scope.kind == .function && env.kindOf n == some .cell) then (n,NameKind.cell) else (n,k)).lookup y =
   (names.lookup y).map fun k=>if (k == NameKind.free && env.scope.kind == .function && env.kindOf y == some .cell) then NameKind.cell else k
 | []=>rfl
 | (n,k)::r=>by
  have ih:=GD env y r
  rw [dv]
  show List.lookup y ((if (k == NameKind.free && env.scope.kind == .function && env.kindOf n == some .cell)=true then (n,NameKind.cell) else (n,k))::_)=_
  have e0:(if (k == NameKind.free && env.scope.kind == .function && env.kindOf n == some .cell)=true then (n,NameKind.cell) else (n,k))=(n,if (k == NameKind.free && env.scope.kind == .function && env.kindOf n == some .cell)=true then NameKind.cell else k):=by split <;> rfl
  rw [e0,gx,gx]
  cases hx:y == n with
  | true =>
   have e:y=n:=by simpa using hx
   subst e
   rfl
  | false=>exact ih
structure Gr (X:Cx) (x:Str) (scope:Scope):Prop where
 kind:scope.kind=.function
 nocell:∀ y∈scope.names,y.2 ≠ .cell
 names:∀ y∈scope.names,y.2=.local->scope.names.lookup y.1=some .local
 loc:scope.names.lookup x=some .local
 free:∀ y∈scope.names,y.2=.free->X.env.kindOf y.1=some .cell \/ X.env.kindOf y.1=some .free
 nd:(x::Ii x X.N).Nodup
 only:∀ y∈Ii x X.N,scope.names.lookup y ≠ some .local
 noE:scope.names.lookup ("" : Str)=none
section
variable {X:Cx} {pins:List (Addr × Obj)} {σ:St} {H:Hp} {s:Shared} {x:Str} {scope:Scope} {fp:List Addr} {C:Addr}
theorem Qe {h':Heap} {tk:Nat} {m:Str->Option Value} (I:Inv X pins σ H s) (S:Gr X x scope) (hf:∀ b∈fp,Gx X pins H b) (hlt:∀ b∈fp,b<s.heap.objs.size) (hC:s.heap.objs.size<=C) (hn:h'.Ns C m)
  (hk:∀ b o,s.heap.get? b=some o->h'.get? b=some o):Inv (Ce X x scope C s H fp) [] (none::σ) H { s with heap:=h',toks:=tk }:=by
 have cl:∀ y c,(Dk X.env scope.names []).lookup y=some c->X.env.cells.lookup y=some c:=fun y c e=>by
  rcases Gj X.env scope.names [] y c e with z | z
  ·cases z
  ·exact z
 have cellK:∀ c v,s.heap.IsCell c v->h'.IsCell c v:=fun c v ⟨o,ho,hd⟩=>⟨o,hk c o ho,hd⟩
 have look:∀ y,(Ce X x scope C s H fp).env.scope.names.lookup y=(scope.names.lookup y).map fun k=>if (k == NameKind.free && X.env.scope.kind == .function && X.env.kindOf y == some .cell) then NameKind.cell else k:=fun y=>GD X.env y scope.names
 refine ⟨⟨I.ok.mod,S.kind,I.ok.glob,I.ok.blt,hC,fun y z c e1 e2=>I.ok.inj y z c (cl y c e1) (cl z c e2),fun y hy=>?_,fun y c e _=>(by cases e),fun h=>I.ok.hd h,I.ok.frames,.inl rfl,fun b hb=>?_,I.bs,bE I.ok.bsz I.sz,fun b o e hb=>?_,fun b hb hb'=>?_,I.stack,I.NT⟩,
  rfl,I.bare,Un.kept hk,⟨m,hn,fun i y v h1 h2 h3=>?_⟩,fun y c e=>?_,I.hok.fresh hC,fun y c e=>I.freeC y c (cl y c e),fun p hp=>absurd (show p∈([]:List (Addr × Obj)) from hp) (by simp),I.hok.kept hk,?_⟩
 ·-- every cell of the block is there
  have hy':(Ce X x scope C s H fp).env.scope.names.lookup y=some .cell \/ (Ce X x scope C s H fp).env.scope.names.lookup y=some .free:=hy
  rw [look y] at hy'
  cases e:scope.names.lookup y with
  | none=>rw [e] at hy'; rcases hy' with z | z <;> cases z
  | some k =>
   have hm:=PySem.mem_of_lookup e
   have hfree:k=.free:=by
    rw [e] at hy'
    cases k with
    | free=>rfl
    | cell=>exact absurd rfl (S.nocell _ hm)
    | _=>rcases hy' with z | z <;> simp at z
   subst hfree
   obtain ⟨c,hc⟩:=I.ok.has y (S.free _ hm rfl)
   exact ft.mp (E_ X.env scope.names [] y hm (by rw [hc]; rfl))
 ·obtain ⟨f0,f1,f2,f3,f4,f5⟩:=hf b hb
  exact ⟨cK (bg (hlt b hb) hC),fun y c e=>f4 y c (cl y c e)⟩
 ·obtain ⟨f0,f1,f2,f3,f4,f5⟩:=hf b hb
  rcases f3 with z | z
  ·exact I.ok.noex b o e z
  ·exact absurd (bg (Heap.lt_size e) (bE I.ok.bsz z)) (fq _)
 ·obtain ⟨f0,f1,f2,f3,f4,f5⟩:=hf b hb
  rcases eh.mp (I.Ng b hb') with e | e
  ·exact f1 e
  ·exact f2 e
 ·cases i with
  | zero =>
   have h2':(some none:Option (Option V))=some (some v):=h2
   cases h2'
  | succ i =>
   have h1':(Ii x X.N)[i]? = some y:=h1
   have h2':σ[i]? = some (some v):=h2
   have hmem:y∈Ii x X.N:=ay h1'
   unfold Ii at h1'
   rw [ar] at h1'
   cases e0:X.N[i]? with
   | none=>rw [e0] at h1'; cases h1'
   | some y0 =>
    rw [e0] at h1'
    have h1'':(if y0=x then ("" : Str) else y0)=y:=Option.some.inj h1'
    have h3':(Ce X x scope C s H fp).env.scope.names.lookup y=some .local \/ (Ce X x scope C s H fp).env.scope.names.lookup y=some .cell \/ (Ce X x scope C s H fp).env.scope.names.lookup y=some .free:=h3
    rw [look y] at h3'
    have hy0:y0=y:=by
     by_cases q:y0=x
     ·rw [if_pos q] at h1''
      rw [← h1'',S.noE] at h3'
      rcases h3' with z | z | z <;> cases z
     ·rw [if_neg q] at h1''
      exact h1''
    subst hy0
    cases e:scope.names.lookup y0 with
    | none=>rw [e] at h3'; rcases h3' with z | z | z <;> cases z
    | some k =>
     have hm:=PySem.mem_of_lookup e
     have hfree:k=.free:=by
      rw [e] at h3'
      cases k with
      | free=>rfl
      | cell=>exact absurd rfl (S.nocell _ hm)
      | «local»=>exact absurd e (S.only y0 hmem)
      | _=>rcases h3' with z | z | z <;> simp at z
     subst hfree
     have kd:=S.free _ hm rfl
     obtain ⟨m0,hn0,hl0⟩:=I.loc
     obtain ⟨u,r,l⟩:=hl0 i y0 v e0 h2' (by rcases kd with z | z; exact .inr (.inl z); exact .inr (.inr z))
     refine ⟨u,r,.inr ⟨?_,?_⟩⟩
     ·have hk':(Ce X x scope C s H fp).env.scope.names.lookup y0=some (if (NameKind.free == NameKind.free && X.env.scope.kind == .function && X.env.kindOf y0 == some .cell) then NameKind.cell else NameKind.free):=by
       rw [look y0,e]; rfl
      by_cases c:(NameKind.free == NameKind.free && X.env.scope.kind == .function && X.env.kindOf y0 == some .cell)=true
      ·rw [if_pos c] at hk'; exact .inl hk'
      ·rw [if_neg c] at hk'; exact .inr hk'
     ·rcases l with ⟨lk,_⟩ | ⟨_,c,hc,hcell⟩
      ·exfalso
       rcases kd with z | z <;> (rw [show X.env.kindOf y0=some NameKind.local from lk] at z; cases z)
      ·obtain ⟨c',hc'⟩:=ft.mp (E_ X.env scope.names [] y0 hm (by rw [hc]; rfl))
       have:=cl y0 c' hc'
       rw [hc] at this
       cases this
       exact ⟨c,hc',cellK c _ hcell⟩
 ·obtain ⟨v,z⟩:=I.cell y c (cl y c e)
  exact ⟨v,cellK c v z⟩
 ·show (none::σ).length=(x::Ii x X.N).length
  simp [Ii,I.len]
end
noncomputable def Oj (X:Cx) (ifs:List Expr) (t:TT):Prop :=
 ∀ (pins:List (Addr × Obj)) (s:Shared) (σ:St) (H:Hp) (Q:Bool->Hp->Prop),Inv X pins σ H s->t σ H Q ->
  wpAny (model X.prog X.w) X.A (forIn ifs true fun c r=>if r=true then do let ok ← isTrue c X.env (eval c X.env); pure (ForInStep.yield ok) else pure (ForInStep.yield r)) (TP X pins σ Q) X.xe s
noncomputable def Rt:TT:=fun _ H Q=>Q true H
theorem CW {X:Cx}:Oj X [] Rt:=fun _ _ _ H _ I h=>wpAny_tests_nil ⟨H,I,h⟩
theorem G3 {X:Cx} {c:Expr} {t:TT} (h:PT X c t):Oj X [c] t:=fun pins s σ H Q I q=>wpAny_tests_one (h pins s σ H Q I q)
noncomputable def G5 (J:It) (σ:St) (H1:Hp) (Q:VK) (tt:TT) (te:TE):Prop:=∀ D,H1 D=none->∃ W:Nat->Nat->List V->Hp->Prop,(∃ m,W 0 m [] (upd H1 D (.lst [])))/\∀ i m ys H2,W i m ys H2 ->
 (J.stop i H2/\Q (.ref D) H2) \/ (J.go i H2/\∀ x H3,J.yld i H2 x H3->tt (some x::σ) H3 fun b H4 =>
  if b=true then te (some x::σ) H4 fun y H5=>H5 D=some (.lst ys)/\ys.length<sizeLine/\∃ m',m'<m/\W (i+1) m' (ys++[y]) (upd H5 D (.lst (ys++[y])))
  else ∃ m',m'<m/\W (i+1) m' ys H4)
noncomputable def X6 (wi:TI) (tt:TT) (te:TE):TE:=fun σ H Q=>wi σ H fun J H1=>G5 J σ H1 Q tt te
theorem QF {α:Type} {t:Sem α} {Q Q':α->Shared->Prop} {M:Model} {A:Around} {E:Value->Shared->Prop} {s:Shared} (h:wpAny M A t Q (fun _ _=>False) s) (hQ:∀ a s,Q a s->Q' a s):wpAny M A t Q' E s:=wpAny_mono h hQ fun _ _ x=>x.elim
theorem Inv.sameBut {X:Cx} {pins:List (Addr × Obj)} {σ:St} {H:Hp} {s:Shared} {h':Heap} {C:Addr} (I:Inv X pins σ H s) (f:Gx X pins H C) (sb:Heap.SameBut C s.heap h'):Inv X pins σ H { s with heap:=h' } :=
 I.turned (t':=s.toks) (fun b o hb e=>(sb.2 b hb).trans e) f.1 f.2.1 f.2.2.2.1 f.2.2.2.2.1 f.2.2.2.2.2
section
variable {X:Cx} {x:Str} {scope:Scope}
theorem KH {px pos:Pos} {iter elt:Expr} {ifs:List Expr} {tt:TT} {te:TE} {pins:List (Addr × Obj)} {σ:St} {s2:Shared} {H2:Hp} {it:Addr} {fp:List Addr} {tn:Nat->Heap->Prop} {J:It} {E:Value->Shared->Prop}
  {RR:Value->Addr->Result->Shared->Prop} {Q:VK}
  (hc:X.calm=true) (S:Gr X x scope) (ht:∀ C s₀ H₀ fp,Oj (Ce X x scope C s₀ H₀ fp) ifs tt) (he:∀ C s₀ H₀ fp,PE (Ce X x scope C s₀ H₀ fp) elt te)
  (I2:Inv X pins σ H2 s2) (T:Turn X.prog X.w X.K (.Name x px) J fp it tn) (st2:tn 0 s2.heap) (f2:∀ b∈fp,Gx X pins H2 b)
  (q:∀ D,H2 D=none->∃ W:Nat->Nat->List V->Hp->Prop,(∃ m,W 0 m [] (upd H2 D (.lst [])))/\∀ i m ys H2,W i m ys H2 ->
   (J.stop i H2/\Q (.ref D) H2) \/ (J.go i H2/\∀ x H3,J.yld i H2 x H3->tt (some x::σ) H3 fun b H4 =>
    if b=true then te (some x::σ) H4 fun y H5=>H5 D=some (.lst ys)/\ys.length<sizeLine/\∃ m',m'<m/\W (i+1) m' (ys++[y]) (upd H5 D (.lst (ys++[y])))
    else ∃ m',m'<m/\W (i+1) m' ys H4))
  (hRR:∀ D C s' H' m,s'.heap.Ns C m->Gx X pins H' C->Inv X pins σ H' s'->Q (.ref D) H'->RR (.ref D) C (.ok .next) s') :
  wpAny (model X.prog X.w) X.A (newList []) (fun acc s₃=>wpAny (model X.prog X.w) X.A (newFunctionEnv scope X.env.globals (Dk X.env scope.names []) [] X.env.qual none .none (some X.env)) (fun cenv s₄ =>
   codeAny (model X.prog X.w) X.A (.compStart (.ListComp elt [⟨.Name x px,iter,ifs,0⟩] scope pos) 0 (.ref it) acc { cenv with scope:=relabel scope X.env }) (RR acc cenv.locals) s₄) E s₃) E s2:=by
 refine wpAny_newObj_type (wpAny_newFunctionEnv S.nocell (by intro y hy; simp at hy) (fun h₁ hns₁ hsb₁=>?_) S.kind)
 have I3:=I2.ZG (its:=[]) (ys:=[]) (t':=s2.toks) .nil (gu _)
 have hD0:H2 s2.heap.objs.size=none:=I2.fresh
 obtain ⟨W,⟨m0,w0⟩,turn⟩:=q _ hD0
 generalize hs3:({ s2 with heap:=s2.heap.push { cls:=.type "list",data:=.seq ([]:List Value).toArray },toks:=s2.toks }:Shared)=s3 at I3
 have e3:s3.heap=s2.heap.push { cls:=.type "list",data:=.seq ([]:List Value).toArray }:=by rw [← hs3]
 have hlt:∀ b∈fp,b<s2.heap.objs.size:=fun b hb=>let ⟨_,e,_⟩:=T.obj _ _ st2 b hb; Heap.lt_size e
 have hlt3:∀ b∈fp,b<s3.heap.objs.size:=fun b hb=>by rw [e3,Heap.size_push]; exact hG (hlt b hb)
 have f3:∀ b∈fp,Gx X pins (upd H2 s2.heap.objs.size (.lst [])) b:=fun b hb=>⟨by rw [Ar (cK (hlt b hb))]; exact (f2 b hb).1,(f2 b hb).2⟩
 have hk1:∀ b o,s3.heap.get? b=some o->h₁.get? b=some o:=fun b o e=>by
  have hne:b ≠ s3.heap.objs.size:=cK (Heap.lt_size e)
  rw [e3] at e hne
  exact hsb₁.extBut b o hne (Heap.get?_push_of_some _ e)
 have hC:s3.heap.objs.size=(s2.heap.push { cls:=.type "list",data:=.seq ([]:List Value).toArray }).objs.size:=by rw [e3]
 have hns:h₁.Ns s3.heap.objs.size (fun x=>([]:List (Str × Value)).reverse.lookup x):=by rw [hC]; exact hns₁
 have st3:tn 0 h₁:=T.keep _ _ _ st2 fun b hb o e=>hk1 b o (by rw [e3]; exact Heap.get?_push_of_some _ e)
 have hDC:s2.heap.objs.size ≠ s3.heap.objs.size:=by rw [e3,Heap.size_push]; exact cK (eT _)
 have start:∀ tk,Inv (Ce X x scope s3.heap.objs.size s3 (upd H2 s2.heap.objs.size (.lst [])) fp) [] (none::σ) (upd H2 s2.heap.objs.size (.lst [])) { s3 with heap:=h₁,toks:=tk }:=fun tk =>
  Qe I3 S f3 hlt3 (aE _) hns hk1
 generalize hX:Ce X x scope s3.heap.objs.size s3 (upd H2 s2.heap.objs.size (.lst [])) fp=X' at start
 have eA:X'.A=X.A:=by rw [← hX]; rfl
 have eP:X'.prog=X.prog:=by rw [← hX]; rfl
 have eW:X'.w=X.w:=by rw [← hX]; rfl
 have eK:X'.K=X.K:=by rw [← hX]; rfl
 have eC:X'.env.locals=s3.heap.objs.size:=by rw [← hX]; rfl
 have loop:∀ tk,codeAny (model X.prog X.w) X.A (.compLoop (.ListComp elt [⟨.Name x px,iter,ifs,0⟩] scope pos) 0 (.ref it) (.ref s2.heap.objs.size) (compEnvC scope (Dk X.env scope.names []) s3.heap.objs.size X.env))
   (RR (.ref s2.heap.objs.size) s3.heap.objs.size) { s3 with heap:=h₁,toks:=tk }:=by
  intro tk
  subst hX
  refine codeAny_compLoop_tests (fun n s'=>∃ i ys v0 H',Inv (Ce X x scope s3.heap.objs.size s3 (upd H2 s2.heap.objs.size (.lst [])) fp) [] (v0::σ) H' s'/\tn i s'.heap/\(∀ b∈fp,H' b=none)/\W i n ys H') ?_ m0
   ⟨0,[],none,_,start tk,st3,fun b hb=>(f3 b hb).1,w0⟩
  rintro n s4 ⟨i,ys,v0,H4,I4,st4,fr4,w4⟩
  have stat:∀ {H':Hp},(∀ b∈fp,H' b=none)->∀ b∈fp,Gx (Ce X x scope s3.heap.objs.size s3 (upd H2 s2.heap.objs.size (.lst [])) fp) [] H' b:=fun hn b hb=>by
   refine ⟨hn b hb,(I4.ok.exf b hb).1,I4.ok.exfs b hb,.inl hb,(I4.ok.exf b hb).2,fun p hp=>absurd (show p∈([]:List (Addr × Obj)) from hp) (by simp)⟩
  rcases turn i n ys H4 w4 with ⟨stop,qn⟩ | ⟨go,step⟩
  ·refine CK (T.done (Ce X x scope s3.heap.objs.size s3 (upd H2 s2.heap.objs.size (.lst [])) fp) rfl rfl rfl hc i [] s4 (v0::σ) H4 _ I4 (stat fr4) st4 stop) fun r s5 ⟨hr,I5⟩=>?_
   subst hr
   obtain ⟨m,hn,_⟩:=I5.loc
   refine hRR _ _ s5 H4 m hn (I3.La (aE _) I5.free) (I3.call' (s':=s5) (ch:=fp) I5.os I5.base I5.hok I5.bare (fun b hb=>?_)) qn
   obtain ⟨_,g1,_,g3,g4,g5⟩:=f3 b hb
   exact ⟨g3,g1,g4,g5⟩
  ·refine CK (T.item (Ce X x scope s3.heap.objs.size s3 (upd H2 s2.heap.objs.size (.lst [])) fp) rfl rfl rfl hc i [] s4 (v0::σ) H4 _ I4 (stat fr4) st4 go) fun r s5 ⟨u,hr,h5⟩=>?_
   subst hr
   intro Γ p hΓ
   obtain ⟨xv,H6,I6,r6,y6,st6,fr6⟩:=h5 Γ p hΓ
   refine (?_:wpAny _ _ _ _ _ _) Γ p hΓ
   have I6':=I6.pinned (stat fr6) (T.obj _ _ st6)
   have hloc:(Ce X x scope s3.heap.objs.size s3 (upd H2 s2.heap.objs.size (.lst [])) fp).env.scope.names.lookup x=some .local:=lookup_relabel_local S.loc
   have again:∀ {s7:Shared} {H7:Hp} {ys':List V},Inv (Ce X x scope s3.heap.objs.size s3 (upd H2 s2.heap.objs.size (.lst [])) fp) ([]++Jm fp s5.heap) (some xv::σ) H7 s7->(∃ m',m'<n/\W (i+1) m' ys' H7) ->
     ∃ m,m<n/\∃ i ys v0 H',Inv (Ce X x scope s3.heap.objs.size s3 (upd H2 s2.heap.objs.size (.lst [])) fp) [] (v0::σ) H' s7/\tn i s7.heap/\(∀ b∈fp,H' b=none)/\W i m ys H':=fun {s7 H7 ys'} I7 hw=>by
    obtain ⟨m',hm,w7⟩:=hw
    refine ⟨m',hm,i+1,ys',some xv,H7,I7.HQ,T.keep _ _ _ st6 fun b hb o e=>(I7.pin (b,o) (be _ (be _ (FJ hb e)))).1,fun b hb=>?_,w7⟩
    obtain ⟨o,e,d⟩:=T.obj _ _ st6 b hb
    exact (I7.pin (b,o) (be _ (be _ (FJ hb e)))).2.1
   refine wpAny_assign_Name (Kg (X:=Ce X x scope s3.heap.objs.size s3 (upd H2 s2.heap.objs.size (.lst [])) fp) (i:=0) I6' S.nd rfl (.inl hloc) r6 (fun s7 I7=>?_) (.inr hloc))
   refine QF (ht _ _ _ _ _ s7 (some xv::σ) H6 _ I7 (step xv H6 y6)) fun b s8 hq0=>?_
   obtain ⟨H8,I8,q8⟩:=hq0
   cases b with
   | false =>
    rw [if_neg fi] at q8 ⊢
    exact again I8 q8
   | true =>
    rw [if_pos rfl] at q8 ⊢
    refine QF (he _ _ _ _ _ s8 (some xv::σ) H8 _ I8 q8) fun y s9 hq0=>?_
    obtain ⟨yv,H9,I9,r9,hD9,hz9,q9⟩:=hq0
    refine QF (DG (X:=Ce X x scope s3.heap.objs.size s3 (upd H2 s2.heap.objs.size (.lst [])) fp) _ s9 (some xv::σ) H9 (.ref s2.heap.objs.size) [yv] (.ref s2.heap.objs.size) [y] (fun _ H'=>H'=upd H9 s2.heap.objs.size (.lst (ys++[yv]))) I9 rfl (.cons r9 .nil)
     ⟨_,ys,yv,rfl,rfl,hD9,hz9,rfl⟩) fun _ s10 ⟨_,H10,I10,_,e10⟩=>?_
    subst e10
    exact again I10 q9
 have key:=fun tk=>codeAny_compStart_list (R:=RR (.ref s2.heap.objs.size) s3.heap.objs.size) (loop tk) (T.self X.A 0 { s3 with heap:=h₁,toks:=tk } (fun it' s'=>codeAny (model X.prog X.w) X.A (.compLoop (.ListComp elt [⟨.Name x px,iter,ifs,0⟩] scope pos) 0 it' (.ref s2.heap.objs.size) (compEnvC scope (Dk X.env scope.names []) s3.heap.objs.size X.env)) (RR (.ref s2.heap.objs.size) s3.heap.objs.size) s') _ st3 (loop tk))
 subst hs3
 exact key _
theorem Bu {px pos:Pos} {iter elt:Expr} {ifs:List Expr} {wi:TI} {tt:TT} {te:TE} (hc:X.calm=true) (S:Gr X x scope) (hi:PI X (.Name x px) iter wi)
  (ht:∀ C s₀ H₀ fp,Oj (Ce X x scope C s₀ H₀ fp) ifs tt) (he:∀ C s₀ H₀ fp,PE (Ce X x scope C s₀ H₀ fp) elt te) (hs:∀ x,foldedSetIterable iter X.env x=pure x:=by intro _; rfl) :
  PE X (.ListComp elt [⟨.Name x px,iter,ifs,0⟩] scope pos) (X6 wi tt te):=by
 intro pins s σ H Q I h
 rw [eval_ListComp]
 refine wpAny_comprehension_free (use:=none) (cl:=Dk X.env scope.names []) rfl hs (Iv fun y hy hk=>I.ok.has y.1 (S.free y hy hk)) S.kind S.names (CK (hi pins s σ H _ I h) fun v s1 h1=>CK h1 fun itv s2 h2=>?_)
 refine byC fun w_=>?_;obtain ⟨it,fp,tn,J,H2,e,I2,T,st2,f2,q⟩:=h2;refine w_ ?_
 subst e
 refine KH (RR:=fun acc C=>compPost (model X.prog X.w) X.A X.xe none (EP X pins σ Q) acc C) (Q:=Q) hc S ht he I2 T st2 f2 q ?_
 intro D C s' H' m hn hf hI hq
 exact ⟨m,hn,fun h' sb=>⟨.ref D,H',hI.sameBut hf sb,rfl,hq⟩⟩
theorem Hw {i:Nat} {y:Str} {px py pos spos:Pos} {iter elt:Expr} {ifs:List Expr} {wi:TI} {tt:TT} {te:TE} (hN:X.N.Nodup) (hi':X.N[i]? = some y) (hy:X.env.scope.names.lookup y=some .local) (hc:X.calm=true) (S:Gr X x scope) (hi:PI X (.Name x px) iter wi)
  (ht:∀ C s₀ H₀ fp,Oj (Ce X x scope C s₀ H₀ fp) ifs tt) (he:∀ C s₀ H₀ fp,PE (Ce X x scope C s₀ H₀ fp) elt te) (hsw:swapsWith (.ListComp elt [⟨.Name x px,iter,ifs,0⟩] scope pos) (some (.Name y py)) spos.line X.env=pure true:=by rfl) (hs:∀ x,foldedSetIterable iter X.env x=pure x:=by intro _; rfl) :
  PS X (.Assign [.Name y py] (.ListComp elt [⟨.Name x px,iter,ifs,0⟩] scope pos) spos) (W7 (X6 wi tt te) (Dy i)):=by
 intro pins s σ H D' I h
 rw [exec_Assign_Name_used _ _ _ _ hsw]
 refine wpAny_bind (wpAny_standAt (wpAny_bind ?_))
 show wpAny _ X.A (do let _ ← comprehension (.ListComp elt [⟨.Name x px,iter,ifs,0⟩] scope pos) scope X.env _ (newList []) false (eval iter X.env) (some (assign (.Name y py) X.env))) _ _ s
 refine wpAny_bind (wpAny_mono (wpAny_comprehension_free (use:=some (assign (.Name y py) X.env)) (cl:=Dk X.env scope.names []) (Q:=fun _ s'=>SP X pins D' .next s') rfl hs (Iv fun y hy hk=>I.ok.has y.1 (S.free y hy hk)) S.kind S.names
  (CK (hi pins s σ H _ I h) fun v s1 h1=>CK h1 fun itv s2 h2=>?_)) (fun _ s' hq=>wpAny_pure (wpAny_pure hq)) fun _ _ e=>e)
 refine byC fun w_=>?_;obtain ⟨it,fp,tn,J,H2,e,I2,T,st2,f2,q⟩:=h2;refine w_ ?_
 subst e
 refine KH (RR:=fun acc C=>compPost (model X.prog X.w) X.A X.xe (some (assign (.Name y py) X.env)) (fun _ s'=>SP X pins D' .next s') acc C) (Q:=fun x H1=>Dy i x σ H1 D'.nx) hc S ht he I2 T st2 f2 q ?_
 intro D C s' H' m hn hf hI hq
 show wpAny _ X.A (assign (.Name y py) X.env (.ref D)) _ _ _
 refine wpAny_assign_Name (Lx hI hN hi' (.inl hy) (v:=.ref D) rfl (fun s6 I6 hch=>?_) (.inr hy))
 obtain ⟨a,sb,ha⟩:=hch
 have hCa:C ≠ a:=by
  rcases ha with z | z
  ·rw [z]; exact hf.2.1
  ·exact Ne.symm (hf.2.2.2.2.1 y a z)
 exact ⟨m,hn.sameBut sb hCa,fun h' sb'=>⟨_,H',I6.sameBut hf sb',hq⟩⟩
end
end L2
namespace L2
open PySem PySem.Spec PyProof.Rows
section
variable {σ:St} {H1:Hp} {Q:VK} {tt:TT} {te:TE}
theorem JT {J:It} {xs:List V} (p:V->Bool) (f:V->V) (hz:xs.length<sizeLine)
  (hgo:∀ i H x,Ao H1 H->xs[i]? = some x->J.go i H) (hy:∀ i H y H',Ao H1 H->i<xs.length->J.yld i H y H'->H'=H/\xs[i]? = some y) (hstop:∀ H,Ao H1 H->J.stop xs.length H)
  (ht:∀ x∈xs,∀ H,Ao H1 H->∀ R:Bool->Hp->Prop,(∀ H',Ao H H'->R (p x) H')->tt (some x::σ) H R)
  (he:∀ x∈xs,p x=true->∀ H,Ao H1 H->∀ R:VK,(∀ H',Ao H H'->R (f x) H')->te (some x::σ) H R)
  (hq:∀ D H,H1 D=none->Ao H1 H->H D=some (.lst ((xs.filter p).map f))->Q (.ref D) H):G5 J σ H1 Q tt te:=by
 intro D hD
 have s0:Ao H1 (upd H1 D (.lst [])):=fun b o e=>by rw [Ar (Ak e hD)]; exact e
 refine ⟨fun i m ys H=>m=xs.length - i/\i<=xs.length/\ys=((xs.take i).filter p).map f/\H D=some (.lst ys)/\Ao H1 H,⟨xs.length,by simp,Nat.zero_le _,by simp,Ah,s0⟩,?_⟩
 rintro i m ys H ⟨rfl,hi,rfl,hd,hs⟩
 by_cases hlt:i<xs.length
 ·obtain ⟨x,hx⟩:∃ x,xs[i]? = some x:=⟨xs[i],by simp [hlt]⟩
  refine .inr ⟨hgo i H x hs hx,fun y H3 hyl=>?_⟩
  obtain ⟨rfl,hy'⟩:=hy i H y H3 hs hlt hyl
  rw [hx] at hy'
  cases hy'
  have hm:x∈xs:=ay hx
  have hlen:(((xs.take i).filter p).map f).length<sizeLine:=by
   rw [ai]
   refine bp (dt _ _) (bp ?_ hz)
   rw [dS]; omega
  refine ht x hm _ hs _ fun H4 s4=>?_
  by_cases hp:p x=true
  ·rw [if_pos hp]
   refine he x hm hp H4 (hs.trans s4) _ fun H5 s5=>?_
   refine ⟨s5 _ _ (s4 _ _ hd),hlen,xs.length - (i+1),by omega,rfl,hlt,?_,Ah,fun b o e=>?_⟩
   ·rw [take_succ_filter p xs i x hx,if_pos hp,br]; rfl
   ·rw [Ar (Ak e hD)]; exact s5 _ _ (s4 _ _ (hs _ _ e))
  ·rw [if_neg hp]
   refine ⟨xs.length - (i+1),by omega,rfl,hlt,?_,s4 _ _ hd,hs.trans s4⟩
   rw [take_succ_filter p xs i x hx,if_neg hp,ff]
 ·have e:i=xs.length:=by omega
  subst e
  rw [fg] at hd
  exact .inl ⟨hstop H hs,hq D H hD hs hd⟩
theorem G9 {lo:Int} {n:Nat} (p:Int->Bool) (f:Int->V) (hz:n<sizeLine)
  (ht:∀ i:Nat,i<n->∀ H,Ao H1 H->∀ R:Bool->Hp->Prop,(∀ H',Ao H H'->R (p (lo+i)) H')->tt (some (.int (lo+i))::σ) H R)
  (he:∀ i:Nat,i<n->p (lo+i)=true->∀ H,Ao H1 H->∀ R:VK,(∀ H',Ao H H'->R (f (lo+i)) H')->te (some (.int (lo+i))::σ) H R)
  (hq:∀ D H,H1 D=none->Ao H1 H->H D=some (.lst ((((List.range n).map fun (i:Nat)=>lo+(i:Int)).filter p).map f))->Q (.ref D) H):G5 (Xj lo n) σ H1 Q tt te:=by
 let g:V->Int:=fun v=>match v with | .int i=>i | _=>0
 have hxs:∀ i:Nat,i<n->((List.range n).map fun (i:Nat)=>V.int (lo+(i:Int)))[i]? = some (.int (lo+i)):=fun i hi=>by simp [hi]
 refine JT (xs:=(List.range n).map fun (i:Nat)=>V.int (lo+(i:Int))) (fun v=>p (g v)) (fun v=>f (g v)) (by simpa using hz) (fun i H x _ hx=>?_) (fun i H y H' _ hi hy=>?_) (fun H _=>?_) (fun x hx=>?_) (fun x hx=>?_) (fun D H h1 h2 h3=>?_)
 ·have:i<((List.range n).map fun (i:Nat)=>V.int (lo+(i:Int))).length:=(ah.mp hx).1
  show i<n
  simpa using this
 ·have hi':i<n:=by simpa using hi
  obtain ⟨e1,e2⟩:=hy
  subst e2
  exact ⟨e1,hxs i hi'⟩
 ·show n<=_
  simp
 ·obtain ⟨i,hi,rfl⟩:=aI.mp hx
  exact ht i (fE.mp hi)
 ·obtain ⟨i,hi,rfl⟩:=aI.mp hx
  exact he i (fE.mp hi)
 ·refine hq D H h1 h2 ?_
  rw [h3,eS,bo,eS,bo]
  rfl
noncomputable def jh (z:Str):It:=⟨fun i _=>i<z.cps.size,fun i H x H'=>H'=H/\∃ c,z.cps[i]? = some c/\x=.str ⟨#[c]⟩,fun i _=>z.cps.size<=i⟩
theorem Uw {P:Program} {w:World} {K:PySem.W.Frag} {tg:Expr} {z:Str} {t0:Tok} {it:Addr} {ty:String} (hty:ty = "str_ascii_iterator" \/ ty = "str_iterator"):Turn P w K tg (jh z) [it] it (fun i h=>h.IsStrIter it ty z t0 i) where
 mem:=by simp
 obj:=fun i h st b hb=>by
  have e:b=it:=by simpa using hb
  subst e
  obtain ⟨o,ho,hc,hd⟩:=st
  exact ⟨o,ho,fun v q=>by rw [hd] at q; cases q⟩
 keep:=fun i h h' st k=>let ⟨o,ho,r⟩:=st; ⟨o,k it (by simp) o ho,r⟩
 item:=by
  intro X hP hw hK hc i pins s σ H E I hf st hg
  subst hP hw hK
  obtain ⟨f0,f1,f2,f3,f4,f5⟩:=hf it (by simp)
  have hg':i<z.cps.size:=hg
  have hx:z.cps[i]? = some z.cps[i]:=Array.getElem?_eq_getElem hg'
  have fin:∀ h',h'.IsStrIter it ty z t0 (i+1)->Heap.SameBut it s.heap h'->∃ u,some (Value.str ⟨#[z.cps[i]]⟩ s.toks)=some u /\
    wpAny (model X.prog X.w) X.A (letOwnedTupleGo tg (.ref it) u) (fun _ s2=>∃ x H',Inv X pins σ H' s2/\RelV x u/\(jh z).yld i H x H'/\s2.heap.IsStrIter it ty z t0 (i+1)/\∀ b∈[it],H' b=none) E { s with heap:=h',toks:=s.toks+1 }:=fun h' st' sb=>by
   have I1:Inv X pins σ H { s with heap:=h',toks:=s.toks+1 }:=I.turned (fun b o hb e=>(sb.2 b hb).trans e) f0 f1 f3 f4 f5
   obtain ⟨o,e,c,d⟩:=id st'
   refine ⟨_,rfl,O5 (s:={ s with heap:=h',toks:=s.toks+1 }) e c d (by rcases hty with rfl | rfl <;> decide) ⟨.str ⟨#[z.cps[i]]⟩,H,I1,⟨_,rfl⟩,⟨rfl,_,hx,rfl⟩,st',fun b hb=>(hf b hb).1⟩⟩
  rcases hty with rfl | rfl
  ·exact wpAny_pyNext_ascii_item st hx fin
  ·exact wpAny_pyNext_wide_item st hx fin
 done:=by
  intro X hP hw hK hc i pins s σ H E I hf st hg
  subst hP hw hK
  obtain ⟨f0,f1,f2,f3,f4,f5⟩:=hf it (by simp)
  have hx:z.cps[i]? = none:=by
   have hg':z.cps.size<=i:=hg
   simpa using hg'
  rcases hty with rfl | rfl
  ·exact wpAny_pyNext_ascii_end (I.ok.hd hc) st hx fun h' eb=>⟨rfl,I.turned (t':=s.toks) (fun b o hb e=>eb b o hb e) f0 f1 f3 f4 f5⟩
  ·exact wpAny_pyNext_wide_end (I.ok.hd hc) st hx fun h' eb=>⟨rfl,I.turned (t':=s.toks) (fun b o hb e=>eb b o hb e) f0 f1 f3 f4 f5⟩
 self:=fun A i s Q E st h=>by
  rcases hty with rfl | rfl
  ·exact wpAny_pyIter_striter_ascii st h
  ·exact wpAny_pyIter_striter_wide st h
end
section
variable {X:Cx} {tg:Expr}
noncomputable def qL (tl:TE):TI:=fun σ H R=>tl σ H fun x H1=>∃ z,x=.str z/\R (jh z) H1
theorem ZD {l:Expr} {tl:TE} (hl:PE X l tl):PI X tg l (qL tl):=by
 intro pins s σ H R I h
 refine CK (hl pins s σ H _ I h) fun v s1 hq0=>?_
 obtain ⟨x,H1,I1,r1,q1⟩:=hq0
 obtain ⟨z,e,q⟩:=q1
 subst e
 obtain ⟨t,rfl⟩:=r1
 have fin:∀ ty,(ty = "str_ascii_iterator" \/ ty = "str_iterator")->PIE X pins σ tg R (.ref s1.heap.objs.size) { s1 with heap:=s1.heap.push { cls:=.type ty,data:=.fields #[.str z t,.int 0 0] } }:=fun ty hty=>by
  refine ⟨s1.heap.objs.size,[s1.heap.objs.size],_,_,H1,rfl,I1.kept (t':=s1.toks) fun b o e=>Heap.get?_push_of_some _ e,Uw (z:=z) (t0:=t) hty,⟨_,Heap.get?_push_size _ rfl,rfl,rfl⟩,fun b hb=>?_,q⟩
  have e:b=s1.heap.objs.size:=by simpa using hb
  subst e
  exact I1.La (aE _) (I1.hok.fresh (aE _))
 cases ha:z.cps.all (· < 128)
 ·exact wpAny_pyIter_wide ha (fin _ (.inr rfl))
 ·exact wpAny_pyIter_ascii ha (fin _ (.inl rfl))
end
section
variable {σ:St} {H1:Hp} {Q:VK} {tt:TT} {te:TE}
noncomputable def sgn (c:Nat):V:=.str ⟨#[c]⟩
theorem Vm {z:Str} (p:Nat->Bool) (f:Nat->V) (hz:z.length<sizeLine)
  (ht:∀ c∈z.cps.toList,∀ H,Ao H1 H->∀ R:Bool->Hp->Prop,(∀ H',Ao H H'->R (p c) H')->tt (some (sgn c)::σ) H R)
  (he:∀ c∈z.cps.toList,p c=true->∀ H,Ao H1 H->∀ R:VK,(∀ H',Ao H H'->R (f c) H')->te (some (sgn c)::σ) H R)
  (hq:∀ D H,H1 D=none->Ao H1 H->H D=some (.lst ((z.cps.toList.filter p).map f))->Q (.ref D) H):G5 (jh z) σ H1 Q tt te:=by
 let g:V->Nat:=fun v=>match v with | .str y=>y.cps.getD 0 0 | _=>0
 refine JT (xs:=z.cps.toList.map sgn) (fun v=>p (g v)) (fun v=>f (g v)) (by simpa [Str.length] using hz) (fun i H x _ hx=>?_) (fun i H y H' _ hi hy=>?_) (fun H _=>?_) (fun x hx=>?_) (fun x hx=>?_) (fun D H h1 h2 h3=>?_)
 ·have:i<(z.cps.toList.map sgn).length:=(ah.mp hx).1
  show i<z.cps.size
  simpa using this
 ·obtain ⟨e1,c,hc,rfl⟩:=hy
  refine ⟨e1,?_⟩
  rw [ar,Array.getElem?_toList,hc]; rfl
 ·show z.cps.size<=_
  simp
 ·obtain ⟨c,hc,rfl⟩:=aI.mp hx
  exact ht c hc
 ·obtain ⟨c,hc,rfl⟩:=aI.mp hx
  exact he c hc
 ·refine hq D H h1 h2 ?_
  rw [h3,eS,bo]
  rfl
end
section
variable {X:Cx}
theorem range_all (bs:List Bool):((List.range bs.length).all fun i=>(bs[i]?).getD true)=bs.all id:=by
 rw [fw,fN,fN]
 constructor
 ·intro h b hb
  obtain ⟨i,hi,e⟩:=List.mem_iff_getElem.mp hb
  have:=h i (fE.mpr hi)
  rw [ae hi,e] at this
  exact this
 ·intro h i hi
  have hi':=fE.mp hi
  rw [ae hi']
  exact h _ (ee hi')
theorem KJ (hc:X.calm=true):GR X (.builtin "all") (fun xs H Q=>∃ (p:Addr) (bs:List Bool),xs=[V.ref p]/\Cz X.K H p (bs.map V.bl)/\Q (.bl (bs.all id)) H):=by
 intro pins s σ H xs us Q I r h
 obtain ⟨p,bs,rfl,hp,q⟩:=h
 obtain ⟨u,rfl,ru⟩:=vals1 r
 cases ru
 obtain ⟨its,rv,pl,hz⟩:=I.list hp
 have hlen:bs.length=its.length:=by have:=rv.length; rw [ai] at this; exact this
 have hlt:p<s.heap.objs.size:=by obtain ⟨_,e,_⟩:=pl.isList; exact Heap.lt_size e
 refine call_all_walk (wpAny_pyIter_list pl.isList ?_)
 refine ⟨s.heap.objs.size,[s.heap.objs.size,p],[s.heap.objs.size],its.toArray.size,_,_,fun i=>(bs[i]?).getD true,rfl,Walks.list (A:=X.A.in1) (I.ok.hd hc) _ p (cK hlt) its.toArray,
  ⟨⟨_,Heap.get?_push_size _ rfl,rfl,rfl⟩,pl.isList.push _⟩,fun i v s' Q' E' hP hQ=>?_,fun h' tk hk=>?_⟩
 ·have hP':its[i]? = some v:=by simpa using hP
  have hi:i<its.length:=(ah.mp hP').1
  have hb:bs[i]? = some bs[i]:=by simp [hlen,hi]
  obtain ⟨u,hu,ru⟩:=rv.get (i:=i) (x:=.bl bs[i]) (by rw [ar,hb]; rfl)
  rw [hP'] at hu
  cases hu
  cases ru
  dsimp only at hQ
  rw [hb] at hQ
  exact wpAny_truthy_bool hQ
 ·have e:((List.range its.toArray.size).all fun i=>(bs[i]?).getD true)=bs.all id:=by rw [cy,← hlen]; exact range_all bs
  rw [e]
  refine ⟨.bl (bs.all id),H,I.kept (t':=tk) fun b o eb=>hk b o (fun hm=>?_) (Heap.get?_push_of_some _ eb),rfl,q⟩
  rw [aS.mp hm] at eb
  exact fq _ (Heap.lt_size eb)
theorem Dp:GR X (.builtin "isinstance") (fun xs H Q=>∃ x T t b,xs=[x,V.ty T]/\Jl X.K H x t/\PySem.W.kitOne X.K t (.type T)=some b/\Q (.bl b) H):=by
 intro pins s σ H xs us Q I r h
 obtain ⟨x,T,t,b,rfl,ty,e,q⟩:=h
 obtain ⟨u,v,rfl,ru,rv⟩:=Vals.two r
 cases rv
 exact Ro I ru ty e fun tk=>⟨.bl b,H,I.tok _,rfl,q⟩
end
noncomputable def RT (x:Str) (scope osc:Scope) (N:List Str):Bool :=
 (scope.kind == .function) && scope.names.all (fun y=>y.2 != .cell) && scope.names.all (fun y=>y.2 != .local || scope.names.lookup y.1 == some .local) && (scope.names.lookup x == some .local) &&
 scope.names.all (fun y=>y.2 != .free || osc.names.lookup y.1 == some .cell || osc.names.lookup y.1 == some .free) && decide ((x::Ii x N).Nodup) && (Ii x N).all (fun y=>scope.names.lookup y != some .local) && (scope.names.lookup ("" : Str) == none)
theorem Be {X:Cx} {x:Str} {scope osc:Scope} {N:List Str} (hsc:X.env.scope=osc) (hN:X.N=N) (h:RT x scope osc N=true):Gr X x scope:=by
 unfold RT at h
 simp only [Bool.and_eq_true] at h
 obtain ⟨⟨⟨⟨⟨⟨⟨h1,h2⟩,h3⟩,h4⟩,h5⟩,h6⟩,h7⟩,h8⟩:=h
 rw [fN] at h2 h3 h5 h7
 have kd:∀ y,X.env.kindOf y=osc.names.lookup y:=fun y=>by rw [← hsc]; rfl
 refine ⟨by simpa using h1,fun y hy=>by simpa using h2 y hy,fun y hy e=>?_,by simpa using h4,fun y hy e=>?_,by rw [hN]; exact of_decide_eq_true h6,fun y hy=>?_,by simpa using h8⟩
 ·have:=h3 y hy
  rw [e] at this
  simpa using this
 ·have:=h5 y hy
  rw [e] at this
  rw [kd]
  simpa using this
 ·rw [hN] at hy
  simpa using h7 y hy
end L2
namespace L2
open PySem PySem.Spec PyProof.Rows
section
variable {X:Cx} {pins:List (Addr × Obj)} {σ:St} {H:Hp} {s:Shared} {h':Heap}
theorem Inv.Ku {ch:List Addr} {a:Addr} {o:HO} {t':Nat} (I:Inv X pins σ H s) (hf:∀ b∈ch,Gx X pins H b) (k:∀ b u,b ∉ ch->s.heap.get? b=some u->h'.get? b=some u) (hp:s.heap.objs.size<=a)
  (new:Ca X.prog X.w (upd H a o) h' a o):Inv X pins σ (upd H a o) { s with heap:=h',toks:=t' }:=by
 have hn:H a=none:=I.hok.fresh hp
 have up:∀ b u,H b=some u->upd H a o b=some u:=fun b u e=>by rw [Ar (Ak e hn)]; exact e
 refine I.step (g':=s.gens) (d':=s.drawn) (ch:=ch) (fun b hb=>?_) (fun b u _ _ hc e _=>k b u hc e) (fun b u _ _ hc e _=>⟨u.slots,k b u hc e⟩) (fun b u _ e n=>?_)
  (fun b u hc e=>⟨u,k b u hc e⟩) (fun b xs e=>up _ _ e) (fun b u x e=>up _ _ e) (fun b ps e=>⟨#[],by rw [up _ _ e]; simp⟩) (fun m hm=>?_) (fun b u e=>?_) I.bare
 ·obtain ⟨f0,f1,f2,f3,f4,f5⟩:=hf b hb
  exact ⟨f3,f1,f4,f5⟩
 ·rw [Ar (cK (bg (Heap.lt_size e) hp))]
  exact n
 ·obtain ⟨u,es,ep,ho,r⟩:=hm
  exact ⟨u,es,ep,k _ u (fun z=>(hf _ z).2.1 rfl) ho,r⟩
 ·by_cases hb:b=a
  ·subst hb
   rw [Ah] at e
   cases e
   exact new
  ·rw [Ar hb] at e
   refine (I.hok b u e).stay (fun c v hc q=>k c v (fun z=>?_) q) (fun _ q=>up _ _ q) fun _ _ q=>up _ _ q
   have z1:=(hf c z).1
   rcases hc with hc | hc
   ·rw [hc,e] at z1
    cases z1
   ·rw [hc] at z1
    cases z1
theorem Inv.Mm {ch:List Addr} {t':Nat} (I:Inv X pins σ H s) (hf:∀ b∈ch,Gx X pins H b) (k:∀ b u,b ∉ ch->s.heap.get? b=some u->h'.get? b=some u):Inv X pins σ H { s with heap:=h',toks:=t' }:=by
 refine I.step (g':=s.gens) (d':=s.drawn) (ch:=ch) (fun b hb=>?_) (fun b u _ _ hc e _=>k b u hc e) (fun b u _ _ hc e _=>⟨u.slots,k b u hc e⟩) (fun b u _ e n=>n)
  (fun b u hc e=>⟨u,k b u hc e⟩) (fun b xs e=>e) (fun b u x e=>e) (fun b ps e=>⟨#[],by rw [e]; simp⟩) (fun m hm=>?_) (fun b u e=>?_) I.bare
 ·obtain ⟨f0,f1,f2,f3,f4,f5⟩:=hf b hb
  exact ⟨f3,f1,f4,f5⟩
 ·obtain ⟨u,es,ep,ho,r⟩:=hm
  exact ⟨u,es,ep,k _ u (fun z=>(hf _ z).2.1 rfl) ho,r⟩
 ·refine (I.hok b u e).stay (fun c v hc q=>k c v (fun z=>?_) q) (fun _ q=>q) fun _ _ q=>q
  have z1:=(hf c z).1
  rcases hc with hc | hc
  ·rw [hc,e] at z1
   cases z1
  ·rw [hc] at z1
   cases z1
end
noncomputable def aq (K:PySem.W.Frag) (a:Addr):It :=
 ⟨fun i H=>∃ xs x,Cz K H a xs/\xs[i]? = some x,fun i H v H'=>∃ T,H T=none/\v=.ref T/\∀ xs,Cz K H a xs->∃ x,xs[i]? = some x/\H'=upd H T (.tup [.int (i:Int),x]),fun i H=>∃ xs,Cz K H a xs/\xs.length<=i⟩
noncomputable def pZ (K:PySem.W.Frag) (a b:Addr):It :=
 ⟨fun i H=>∃ xs ys x y,JF K H a xs/\JF K H b ys/\xs[i]? = some x/\ys[i]? = some y,fun i H v H'=>∃ T,H T=none/\v=.ref T/\∀ xs ys,JF K H a xs->JF K H b ys->∃ x y,xs[i]? = some x/\ys[i]? = some y/\H'=upd H T (.tup [x,y]),
  fun i H=>∃ xs,JF K H a xs/\xs.length<=i⟩
theorem S_ {P:Program} {w:World} {K:PySem.W.Frag} {es:List Expr} {k1:Nat} {pos:Pos} (a e it:Addr) (hne:e ≠ it) :
  Turn P w K (.Tuple es k1 pos) (aq K a) [e,it] e (fun i h=>(∃ old,IsEnum h e it i old)/\h.IsListIter it a i) where
 mem:=by simp
 obj:=fun i h st b hb=>by
  obtain ⟨⟨old,he⟩,o,ho,c,d⟩:=st
  rcases eh.mp hb with rfl | hb
  ·exact ⟨_,he,fun v z=>by
    have z':Data.fields _=Data.cell v:=z
    cases z'⟩
  ·have q:b=it:=by simpa using hb
   subst q
   exact ⟨o,ho,fun v z=>by rw [d] at z; cases z⟩
 keep:=fun i h h' st k=>by
  obtain ⟨⟨old,he⟩,hi⟩:=st
  exact ⟨⟨old,k e (by simp) _ he⟩,hi.at fun o q=>k it (by simp) o q⟩
 item:=by
  intro X hP hw hK hc i pins s σ H E I hf st hg
  subst hP hw hK
  obtain ⟨xs,x,hq,hx⟩:=hg
  obtain ⟨its,rv,p,hz⟩:=I.list hq
  obtain ⟨u,hu,ru⟩:=rv.get hx
  obtain ⟨⟨old,he⟩,hi⟩:=st
  refine wpAny_pyNext_enum_item he hi p.isList (x:=u) (by simpa using hu) hne fun h1 n1 n2 n3 n4 n5=>?_
  refine ⟨_,rfl,wpAny_letOwnedTupleGo_enum (s:={ s with heap:=h1,toks:=s.toks+1 }) n1 fun h2 m1 m2=>?_⟩
  have hT:s.heap.objs.size ≠ e:=gL (Heap.lt_size he)
  have hI:s.heap.objs.size ≠ it:=by obtain ⟨_,q,_⟩:=hi; exact gL (Heap.lt_size q)
  have fr:H s.heap.objs.size=none:=I.hok.fresh (aE _)
  have nw:Ca X.prog X.w (upd H s.heap.objs.size (.tup [.int (i:Int),x])) h2 s.heap.objs.size (.tup [.int (i:Int),x]) :=
   ⟨by show 2<=sizeLine; decide,[.int i s.toks,u],.cons ⟨_,rfl⟩ (.cons ru .nil),_,m2.extBut _ _ hT n3,rfl,_,rfl⟩
  refine ⟨.ref s.heap.objs.size,_,I.Ku (t':=s.toks+1) (ch:=[e,it]) hf (fun b o hb q=>?_) (aE _) nw,rfl,⟨_,fr,rfl,fun ys hy=>⟨x,by rw [I.Oa hy hq]; exact hx,rfl⟩⟩,⟨⟨u,?_⟩,n2.at fun o q=>m2.extBut _ _ (Ne.symm hne) q⟩,fun b hb=>?_⟩
  ·exact m2.extBut _ _ (fun z=>hb (by simp [z])) (n5 b o (fun z=>hb (by simp [z])) (fun z=>hb (by simp [z])) q)
  ·have e1:((i:Int)+1)=((i+1:Nat):Int):=by omega
   rw [← e1]
   exact m1
  ·have hb':=hb
   rcases eh.mp hb with rfl | hb
   ·rw [Ar (Ne.symm hT)]
    exact (hf _ hb').1
   ·have q:b=it:=by simpa using hb
    subst q
    rw [Ar (Ne.symm hI)]
    exact (hf _ hb').1
 done:=by
  intro X hP hw hK hc i pins s σ H E I hf st hg
  subst hP hw hK
  obtain ⟨xs,hq,hx⟩:=hg
  obtain ⟨its,rv,p,hz⟩:=I.list hq
  obtain ⟨⟨old,he⟩,hi⟩:=st
  have hl:=rv.length
  exact wpAny_pyNext_enum_end (I.ok.hd hc) he hi p.isList (by simp; omega) fun h1 eb=>⟨rfl,I.Mm (t':=s.toks) (ch:=[e,it]) hf fun b o hb q=>eb b o (fun z=>hb (by simp [z])) q⟩
 self:=fun _ _ _ _ _ st h=>by
  obtain ⟨⟨old,he⟩,_⟩:=st
  exact wpAny_pyIter_enum he h
theorem VM {n a b:Nat} (ha:a<n) (hb:b<n):ZipApart (n+4) (n+2) (n+3) n (n+1) a b:=by
 constructor <;> (refine (show @Ne Nat _ _ from ?_); omega)
theorem Zf {n b:Nat} {P:Nat->Prop} (h0:P n) (h1:P (n+1)) (h2:P (n+2)) (h3:P (n+3)) (h4:P (n+4)) (hb:b∈[n,n+1,n+2,n+3,n+4]):P b:=by
 simp at hb
 rcases hb with rfl | rfl | rfl | rfl | rfl <;> assumption
theorem R_ {P:Program} {w:World} {K:PySem.W.Frag} {es:List Expr} {k1:Nat} {pos:Pos} (a b n:Nat) (ha:a<n) (hb:b<n) :
  Turn P w K (.Tuple es k1 pos) (pZ K a b) [n,n+1,n+2,n+3,n+4] (n+4) (fun i h=>IsZip h (n+4) (n+2) (n+3) .none/\IsPair h (n+2) (.ref n) (.ref (n+1))/\(∃ x y,IsPair h (n+3) x y)/\h.IsTupleIter n a i/\h.IsTupleIter (n+1) b i) where
 mem:=by simp
 obj:=fun i h st c hc=>by
  refine byC fun w_=>?_;obtain ⟨hz,hI,⟨x,y,hO⟩,⟨o1,e1,_,d1⟩,⟨o2,e2,_,d2⟩⟩:=st;refine w_ ?_
  refine Zf (P:=fun c=>∃ o,h.get? c=some o/\∀ v,o.data ≠ .cell v) ⟨_,e1,fun v z=>?_⟩ ⟨_,e2,fun v z=>?_⟩ ⟨_,hI,fun v z=>?_⟩ ⟨_,hO,fun v z=>?_⟩ ⟨_,hz,fun v z=>?_⟩ hc
  ·rw [d1] at z; cases z
  ·rw [d2] at z; cases z
  ·have z':Data.seq _ _=Data.cell v:=z
   cases z'
  ·have z':Data.seq _ _=Data.cell v:=z
   cases z'
  ·have z':Data.fields _=Data.cell v:=z
   cases z'
 keep:=fun i h h' st k=>by
  obtain ⟨hz,hI,⟨x,y,hO⟩,j1,j2⟩:=st
  exact ⟨k _ (by simp) _ hz,k _ (by simp) _ hI,⟨x,y,k _ (by simp) _ hO⟩,j1.at fun o q=>k _ (by simp) o q,j2.at fun o q=>k _ (by simp) o q⟩
 item:=by
  intro X hP hw hK hc i pins s σ H E I hf st hg
  subst hP hw hK
  obtain ⟨xs,ys,x,y,q1,q2,hx,hy⟩:=hg
  obtain ⟨it1,r1,p1,_⟩:=I.tuple q1
  obtain ⟨it2,r2,p2,_⟩:=I.tuple q2
  obtain ⟨u,hu,ru⟩:=r1.get hx
  obtain ⟨v,hv,rv⟩:=r2.get hy
  obtain ⟨hz,hI,⟨x0,y0,hO⟩,j1,j2⟩:=st
  have D:=VM ha hb
  have hT:s.TypeIs (.ref (n+4)) "zip":=⟨_,hz,rfl⟩
  have sz:n+4<s.heap.objs.size:=Heap.lt_size hz
  unfold pyNext
  refine wpAny_bind (wpAny_attempt (wpAny_callSpecial?_slot (name:=Str.ofString "__next__") hT F.slot_zip_next (wpAny_call_entry F.slot_zip_next hT F.entry_zip_next
   (R0 D hz hI hO j1 j2 (show s.heap.IsTuple a it1.toArray from p1) (show s.heap.IsTuple b it2.toArray from p2) (x:=u) (y:=v) (by simpa using hu) (by simpa using hv) fun h1 n1 n2 n3 n4 n5 n6 n7=>wpAny_pure ?_) (F.args_zip_next_1 _))))
  refine ⟨_,rfl,wpAny_letOwnedTupleGo_zip (s:={ s with heap:=h1 }) n1 fun h2 m1 m2=>?_⟩
  have fr:H s.heap.objs.size=none:=I.hok.fresh (aE _)
  have nw:Ca X.prog X.w (upd H s.heap.objs.size (.tup [x,y])) h2 s.heap.objs.size (.tup [x,y]) :=
   ⟨by show 2<=sizeLine; decide,[u,v],.cons ru (.cons rv .nil),_,m2.extBut _ _ (Nat.ne_of_gt sz) n5,rfl,_,rfl⟩
  have hI2:IsPair h1 (n+2) (.ref n) (.ref (n+1)):=n7 _ _ D.TIz D.TITO D.TIi1 D.TIi2 hI
  refine ⟨.ref s.heap.objs.size,_,I.Ku (t':=s.toks) (ch:=[n,n+1,n+2,n+3,n+4]) hf (fun c o hc q=>?_) (aE _) nw,rfl,⟨_,fr,rfl,fun xs' ys' h1 h2=>⟨x,y,by rw [I.Jq h1 q1]; exact hx,by rw [I.Jq h2 q2]; exact hy,rfl⟩⟩,
   ⟨m1,m2.extBut _ _ D.TIz hI2,⟨u,v,m2.extBut _ _ D.TOz n2⟩,n3.at fun o q=>m2.extBut _ _ D.i1z q,n4.at fun o q=>m2.extBut _ _ D.i2z q⟩,fun c hc=>?_⟩
  ·have z:∀ d,d∈[n,n+1,n+2,n+3,n+4]->c ≠ d:=fun d hd q=>hc (q ▸ hd)
   exact m2.extBut _ _ (z _ (by simp)) (n7 c o (z _ (by simp)) (z _ (by simp)) (z _ (by simp)) (z _ (by simp)) q)
  ·rw [Ar ?_]
   ·exact (hf c hc).1
   ·have lt:c<=n+4:=Zf (P:=fun c=>c<=n+4) (by omega) (by omega) (by omega) (by omega) (aE _) hc
    exact cK (bp lt sz)
 done:=by
  intro X hP hw hK hc i pins s σ H E I hf st hg
  subst hP hw hK
  obtain ⟨xs,q1,hx⟩:=hg
  obtain ⟨it1,r1,p1,_⟩:=I.tuple q1
  obtain ⟨hz,hI,⟨x0,y0,hO⟩,j1,j2⟩:=st
  have D:=VM ha hb
  have hT:s.TypeIs (.ref (n+4)) "zip":=⟨_,hz,rfl⟩
  have hl:=r1.length
  unfold pyNext
  refine wpAny_bind (wpAny_attempt (wpAny_callSpecial?_slot (name:=Str.ofString "__next__") hT F.slot_zip_next (wpAny_call_entry F.slot_zip_next hT F.entry_zip_next
   (T_ (I.ok.hd hc) D hz hI hO j1 (show s.heap.IsTuple a it1.toArray from p1) (by simp; omega) fun h1 x k1 hx1=>?_) (F.args_zip_next_1 _))))
  obtain ⟨o,ho,hco⟩:=hx1
  refine wpAny_bind (wpAny_isInstance (T:="StopIteration") (b:=true) ⟨o,ho,hco⟩ isSubtype_stop (wpAny_pure ?_))
  refine ⟨rfl,I.Mm (t':=s.toks) (ch:=[n,n+1,n+2,n+3,n+4]) hf fun c o hc q=>?_⟩
  have z:∀ d,d∈[n,n+1,n+2,n+3,n+4]->c ≠ d:=fun d hd q=>hc (q ▸ hd)
  exact k1 c o (z _ (by simp)) (z _ (by simp)) (z _ (by simp)) (z _ (by simp)) q
 self:=fun _ _ _ _ _ st h=>wpAny_pyIter_zip st.1 h
section
variable {X:Cx} {es:List Expr} {k1:Nat} {tpos:Pos}
noncomputable def c7 (K:PySem.W.Frag) (ta:TA):TI:=fun σ H R=>ta σ H fun vs H1=>∃ a,vs=[.ref a]/\(∃ xs,Cz K H1 a xs)/\R (aq K a) H1
noncomputable def lL (K:PySem.W.Frag) (ta:TA):TI:=fun σ H R=>ta σ H fun vs H1=>∃ a b,vs=[.ref a,.ref b]/\(∃ xs,JF K H1 a xs)/\(∃ ys,JF K H1 b ys)/\R (pZ K a b) H1
theorem Gy {l:Expr} {ta:TA} {p pos:Pos} (hg:Gl X "enumerate") (hm:X.mg "enumerate" = none) (ha:PA X [l] ta) (hs:starEach [l] X.env=[(false,eval l X.env)]:=by rfl) :
  PI X (.Tuple es k1 tpos) (.Call (.Name "enumerate" p) [l] [] pos) (c7 X.K ta):=by
 intro pins s σ H R I h
 refine Call_ (G7 I hg hm boot_enumerate (PyProof.Rows.callWith_type1 (CK (ha pos pins s σ H _ I h) fun us s1 ⟨vs,H1,I1,r1,q1⟩=>?_) hs rfl))
 obtain ⟨a,e,⟨xs,hq⟩,q⟩:=q1
 subst e
 obtain ⟨u,rfl,ru⟩:=vals1 r1
 cases ru
 obtain ⟨its,rv,pl,hz⟩:=I1.list hq
 refine call_enumerate_list pl.isList fun h1 n1 n2 n3 n4=>?_
 refine wpAny_pyIter_enum (s:={ s1 with heap:=h1 }) n1 ?_
 refine ⟨_,[s1.heap.objs.size+1,s1.heap.objs.size],_,_,H1,rfl,I1.kept (t':=s1.toks) n4,S_ a _ _ (Nat.succ_ne_self _),⟨⟨_,n1⟩,n2⟩,fun b hb=>?_,q⟩
 have lt:s1.heap.objs.size<=b:=by
  rcases eh.mp hb with rfl | hb
  ·exact Nat.le_succ _
  ·exact Nat.le_of_eq ((aS.mp hb).symm)
 exact I1.La lt (I1.hok.fresh lt)
theorem W5 {x y:Expr} {ta:TA} {p pos:Pos} (hg:Gl X "zip") (hm:X.mg "zip" = none) (ha:PA X [x,y] ta) (hs:starEach [x,y] X.env=[(false,eval x X.env),(false,eval y X.env)]:=by rfl) (hs2:starEach [y] X.env=[(false,eval y X.env)]:=by rfl) :
  PI X (.Tuple es k1 tpos) (.Call (.Name "zip" p) [x,y] [] pos) (lL X.K ta):=by
 intro pins s σ H R I h
 refine Call_ (G7 I hg hm boot_zip (PyProof.Rows.callWith_type1 (CK (ha pos pins s σ H _ I h) fun us s1 ⟨vs,H1,I1,r1,q1⟩=>?_) (by rw [hs,hs2]) (by rw [hs2]; rfl)))
 obtain ⟨a,b,e,⟨xs,q1⟩,⟨ys,q2⟩,q⟩:=q1
 subst e
 obtain ⟨u,v,rfl,ru,rv⟩:=Vals.two r1
 cases ru
 cases rv
 obtain ⟨it1,r1,p1,_⟩:=I1.tuple q1
 obtain ⟨it2,r2,p2,_⟩:=I1.tuple q2
 refine SJ (show s1.heap.IsTuple a it1.toArray from p1) (show s1.heap.IsTuple b it2.toArray from p2) fun h1 n hn n1 n2 n3 n4 n5 n6 n7=>?_
 refine wpAny_pyIter_zip (s:={ s1 with heap:=h1 }) n1 ?_
 have la:a<n:=by rw [hn]; exact p1.lt
 have lb:b<n:=by rw [hn]; exact p2.lt
 refine ⟨_,[n,n+1,n+2,n+3,n+4],_,_,H1,rfl,I1.kept (t':=s1.toks) n7,R_ a b n la lb,⟨n1,n2,⟨_,_,n3⟩,n4,n5⟩,fun c hc=>?_,q⟩
 have lt:s1.heap.objs.size<=c:=by
  rw [← hn]
  exact Zf (P:=fun c=>n<=c) (by omega) (by omega) (by omega) (by omega) (by omega) hc
 exact I1.La lt (I1.hok.fresh lt)
end
end L2
namespace L2
open PySem PySem.Spec PyProof.Rows
theorem Wz {prog:Program} {w:World} {A:Around} {R:Result->Shared->Prop} {s:Shared} {elt tg iter:Expr} {ifs:List Expr} {scope:Scope} {pos:Pos} {it acc:Value} {env:Env} (J:Nat->Shared->Prop) {E:Value->Shared->Prop} (hE:E=notedBy (model prog w) A env fun e s'=>R (.error e) s')
  (turn:∀ n s,J n s->wpAny (model prog w) A (pyNext it) (fun r s1=>match r with
   | none=>R (.ok .next) s1
   | some v=>wpAny (model prog w) A (letOwnedTupleGo tg it v) (fun _ s2=>wpAny (model prog w) A (assign tg env v) (fun _ s3 =>
     wpAny (model prog w) A (forIn ifs true fun c r=>if r=true then do let ok ← isTrue c env (eval c env); pure (ForInStep.yield ok) else pure (ForInStep.yield r)) (fun ok s4 =>
      if ok=true then wpAny (model prog w) A (eval elt env) (fun x s5=>wpAny (model prog w) A (call (.builtin "list.append") [acc,x]) (fun _ s6=>∃ m,m<n/\J m s6) E s5) E s4
      else ∃ m,m<n/\J m s4) E s3) E s2) E s1) E s) (n:Nat) (h:J n s) :
  codeAny (model prog w) A (.compLoop (.ListComp elt [⟨tg,iter,ifs,0⟩] scope pos) 0 it acc env) R s:=by
 subst hE
 refine codeAny_loop rfl J (fun n s hJ=>(show wpAny _ A ((compTurn (.ListComp elt [⟨tg,iter,ifs,0⟩] scope pos) 0 it acc env).onRaise (fun x=>do noteFrame x env; theTreesLotGoes x)) _ _ s from wpAny_noted ?_)) n h
 rw [compTurn_list]
 refine wpAny_bind (wpAny_standAt (wpAny_bind (wpAny_mono (turn n s hJ) (fun r s1 h1=>?_) fun _ _ q=>q)))
 cases r with
 | none=>exact wpAny_pure h1
 | some v =>
  refine wpAny_bind (wpAny_mono h1 (fun _ s2 h2=>wpAny_bind (wpAny_mono h2 (fun _ s3 h3=>wpAny_bind (wpAny_mono h3 (fun ok s4 h4=>?_) fun _ _ q=>q)) fun _ _ q=>q)) fun _ _ q=>q)
  cases ok with
  | false=>exact wpAny_pure ⟨rfl,h4⟩
  | true=>exact wpAny_bind (wpAny_bind (wpAny_mono h4 (fun x s5 h5=>wpAny_bind (wpAny_mono h5 (fun _ s6 h6=>wpAny_pure (wpAny_pure ⟨rfl,h6⟩)) fun _ _ q=>q)) fun _ _ q=>q))
noncomputable def Bq (X:Cx) (x z:Str) (scope:Scope) (C:Addr) (s₀:Shared) (H₀:Hp) (fp:List Addr):Cx where
 prog:=X.prog
 w:=X.w
 K:=X.K
 mg:=X.mg
 base:=X.base
 A:=X.A
 N:=x::z::X.N
 s₀:=s₀
 H₀:=H₀
 env:=compEnvC scope (Dk X.env scope.names []) C X.env
 outer:=X.stack
 stack:=X.stack
 ex:=fp
 fn:=fun _=>false
 calm:=X.calm
 pn:=[]
 xe:=fun _ _=>False
structure FP (X:Cx) (x z:Str) (scope:Scope):Prop where
 kind:scope.kind=.function
 nocell:∀ y∈scope.names,y.2 ≠ .cell
 names:∀ y∈scope.names,y.2=.local->scope.names.lookup y.1=some .local
 loc:scope.names.lookup x=some .local
 loz:scope.names.lookup z=some .local
 free:∀ y∈scope.names,y.2=.free->X.env.kindOf y.1=some .cell \/ X.env.kindOf y.1=some .free
 nd:(x::z::X.N).Nodup
 only:∀ y∈X.N,scope.names.lookup y ≠ some .local
section
variable {X:Cx} {pins:List (Addr × Obj)} {σ:St} {H:Hp} {s:Shared} {x z:Str} {scope:Scope} {fp:List Addr} {C:Addr}
theorem PK {h':Heap} {tk:Nat} {m:Str->Option Value} (I:Inv X pins σ H s) (S:FP X x z scope) (hf:∀ b∈fp,Gx X pins H b) (hlt:∀ b∈fp,b<s.heap.objs.size) (hC:s.heap.objs.size<=C) (hn:h'.Ns C m)
  (hk:∀ b o,s.heap.get? b=some o->h'.get? b=some o):Inv (Bq X x z scope C s H fp) [] (none::none::σ) H { s with heap:=h',toks:=tk }:=by
 have cl:∀ y c,(Dk X.env scope.names []).lookup y=some c->X.env.cells.lookup y=some c:=fun y c e=>by
  rcases Gj X.env scope.names [] y c e with z | z
  ·cases z
  ·exact z
 have cellK:∀ c v,s.heap.IsCell c v->h'.IsCell c v:=fun c v ⟨o,ho,hd⟩=>⟨o,hk c o ho,hd⟩
 have look:∀ y,(Bq X x z scope C s H fp).env.scope.names.lookup y=(scope.names.lookup y).map fun k=>if (k == NameKind.free && X.env.scope.kind == .function && X.env.kindOf y == some .cell) then NameKind.cell else k:=fun y=>GD X.env y scope.names
 refine ⟨⟨I.ok.mod,S.kind,I.ok.glob,I.ok.blt,hC,fun y z c e1 e2=>I.ok.inj y z c (cl y c e1) (cl z c e2),fun y hy=>?_,fun y c e _=>(by cases e),fun h=>I.ok.hd h,I.ok.frames,.inl rfl,fun b hb=>?_,I.bs,bE I.ok.bsz I.sz,fun b o e hb=>?_,fun b hb hb'=>?_,I.stack,I.NT⟩,
  rfl,I.bare,Un.kept hk,⟨m,hn,fun i y v h1 h2 h3=>?_⟩,fun y c e=>?_,I.hok.fresh hC,fun y c e=>I.freeC y c (cl y c e),fun p hp=>absurd (show p∈([]:List (Addr × Obj)) from hp) (by simp),I.hok.kept hk,?_⟩
 ·have hy':(Bq X x z scope C s H fp).env.scope.names.lookup y=some .cell \/ (Bq X x z scope C s H fp).env.scope.names.lookup y=some .free:=hy
  rw [look y] at hy'
  cases e:scope.names.lookup y with
  | none=>rw [e] at hy'; rcases hy' with z | z <;> cases z
  | some k =>
   have hm:=PySem.mem_of_lookup e
   have hfree:k=.free:=by
    rw [e] at hy'
    cases k with
    | free=>rfl
    | cell=>exact absurd rfl (S.nocell _ hm)
    | _=>rcases hy' with z | z <;> simp at z
   subst hfree
   obtain ⟨c,hc⟩:=I.ok.has y (S.free _ hm rfl)
   exact ft.mp (E_ X.env scope.names [] y hm (by rw [hc]; rfl))
 ·obtain ⟨f0,f1,f2,f3,f4,f5⟩:=hf b hb
  exact ⟨cK (bg (hlt b hb) hC),fun y c e=>f4 y c (cl y c e)⟩
 ·obtain ⟨f0,f1,f2,f3,f4,f5⟩:=hf b hb
  rcases f3 with z | z
  ·exact I.ok.noex b o e z
  ·exact absurd (bg (Heap.lt_size e) (bE I.ok.bsz z)) (fq _)
 ·obtain ⟨f0,f1,f2,f3,f4,f5⟩:=hf b hb
  rcases eh.mp (I.Ng b hb') with e | e
  ·exact f1 e
  ·exact f2 e
 ·match i,h1,h2 with
  | 0,h1,h2 =>
   have h2':(some none:Option (Option V))=some (some v):=h2
   cases h2'
  | 1,h1,h2 =>
   have h2':(some none:Option (Option V))=some (some v):=h2
   cases h2'
  | i+2,h1,h2 =>
   have e0:X.N[i]? = some y:=h1
   have h2':σ[i]? = some (some v):=h2
   have hmem:y∈X.N:=ay e0
   have h3':(Bq X x z scope C s H fp).env.scope.names.lookup y=some .local \/ (Bq X x z scope C s H fp).env.scope.names.lookup y=some .cell \/ (Bq X x z scope C s H fp).env.scope.names.lookup y=some .free:=h3
   rw [look y] at h3'
   cases e:scope.names.lookup y with
   | none=>rw [e] at h3'; rcases h3' with z | z | z <;> cases z
   | some k =>
    have hm:=PySem.mem_of_lookup e
    have hfree:k=.free:=by
     rw [e] at h3'
     cases k with
     | free=>rfl
     | cell=>exact absurd rfl (S.nocell _ hm)
     | «local»=>exact absurd e (S.only y hmem)
     | _=>rcases h3' with z | z | z <;> simp at z
    subst hfree
    have kd:=S.free _ hm rfl
    obtain ⟨m0,hn0,hl0⟩:=I.loc
    obtain ⟨u,r,l⟩:=hl0 i y v e0 h2' (by rcases kd with z | z; exact .inr (.inl z); exact .inr (.inr z))
    refine ⟨u,r,.inr ⟨?_,?_⟩⟩
    ·have hk':(Bq X x z scope C s H fp).env.scope.names.lookup y=some (if (NameKind.free == NameKind.free && X.env.scope.kind == .function && X.env.kindOf y == some .cell) then NameKind.cell else NameKind.free):=by
      rw [look y,e]; rfl
     by_cases c:(NameKind.free == NameKind.free && X.env.scope.kind == .function && X.env.kindOf y == some .cell)=true
     ·rw [if_pos c] at hk'; exact .inl hk'
     ·rw [if_neg c] at hk'; exact .inr hk'
    ·rcases l with ⟨lk,_⟩ | ⟨_,c,hc,hcell⟩
     ·exfalso
      rcases kd with z | z <;> (rw [show X.env.kindOf y=some NameKind.local from lk] at z; cases z)
     ·obtain ⟨c',hc'⟩:=ft.mp (E_ X.env scope.names [] y hm (by rw [hc]; rfl))
      have:=cl y c' hc'
      rw [hc] at this
      cases this
      exact ⟨c,hc',cellK c _ hcell⟩
 ·obtain ⟨v,z⟩:=I.cell y c (cl y c e)
  exact ⟨v,cellK c v z⟩
 ·show (none::none::σ).length=(x::z::X.N).length
  simp [I.len]
end
noncomputable def JS (J:It) (σ:St) (H1:Hp) (Q:VK) (g:TG) (tt:TT) (te:TE):Prop:=∀ D,H1 D=none->∃ W:Nat->Nat->List V->Hp->Prop,(∃ m,W 0 m [] (upd H1 D (.lst [])))/\∀ i m ys H2,W i m ys H2 ->
 (J.stop i H2/\Q (.ref D) H2) \/ (J.go i H2/\∀ x H3,J.yld i H2 x H3->∀ v0 v1,g x (v0::v1::σ) H3 fun σ' H3'=>(∃ w0 w1,σ'=w0::w1::σ)/\tt σ' H3' fun b H4 =>
  if b=true then te σ' H4 fun y H5=>H5 D=some (.lst ys)/\ys.length<sizeLine/\∃ m',m'<m/\W (i+1) m' (ys++[y]) (upd H5 D (.lst (ys++[y])))
  else ∃ m',m'<m/\W (i+1) m' ys H4)
noncomputable def VG (wi:TI) (g:TG) (tt:TT) (te:TE):TE:=fun σ H Q=>wi σ H fun J H1=>JS J σ H1 Q g tt te
section
variable {X:Cx} {x z:Str} {scope:Scope}
theorem Om {tg:Expr} {pos:Pos} {iter elt:Expr} {ifs:List Expr} {g:TG} {tt:TT} {te:TE} {pins:List (Addr × Obj)} {σ:St} {s2:Shared} {H2:Hp} {it:Addr} {fp:List Addr} {tn:Nat->Heap->Prop} {J:It} {E:Value->Shared->Prop}
  {RR:Value->Addr->Result->Shared->Prop} {Q:VK}
  (hc:X.calm=true) (S:FP X x z scope) (hg:∀ C s₀ H₀ fp,PG (Bq X x z scope C s₀ H₀ fp) tg g) (ht:∀ C s₀ H₀ fp,Oj (Bq X x z scope C s₀ H₀ fp) ifs tt) (he:∀ C s₀ H₀ fp,PE (Bq X x z scope C s₀ H₀ fp) elt te)
  (I2:Inv X pins σ H2 s2) (T:Turn X.prog X.w X.K tg J fp it tn) (st2:tn 0 s2.heap) (f2:∀ b∈fp,Gx X pins H2 b) (q:JS J σ H2 Q g tt te)
  (hRR:∀ D C s' H' m,s'.heap.Ns C m->Gx X pins H' C->Inv X pins σ H' s'->Q (.ref D) H'->RR (.ref D) C (.ok .next) s') :
  wpAny (model X.prog X.w) X.A (newList []) (fun acc s₃=>wpAny (model X.prog X.w) X.A (newFunctionEnv scope X.env.globals (Dk X.env scope.names []) [] X.env.qual none .none (some X.env)) (fun cenv s₄ =>
   codeAny (model X.prog X.w) X.A (.compStart (.ListComp elt [⟨tg,iter,ifs,0⟩] scope pos) 0 (.ref it) acc { cenv with scope:=relabel scope X.env }) (RR acc cenv.locals) s₄) E s₃) E s2:=by
 refine wpAny_newObj_type (wpAny_newFunctionEnv S.nocell (by intro y hy; simp at hy) (fun h₁ hns₁ hsb₁=>?_) S.kind)
 have I3:=I2.ZG (its:=[]) (ys:=[]) (t':=s2.toks) .nil (gu _)
 have hD0:H2 s2.heap.objs.size=none:=I2.fresh
 obtain ⟨W,⟨m0,w0⟩,turn⟩:=q _ hD0
 generalize hs3:({ s2 with heap:=s2.heap.push { cls:=.type "list",data:=.seq ([]:List Value).toArray },toks:=s2.toks }:Shared)=s3 at I3
 have e3:s3.heap=s2.heap.push { cls:=.type "list",data:=.seq ([]:List Value).toArray }:=by rw [← hs3]
 have hlt:∀ b∈fp,b<s2.heap.objs.size:=fun b hb=>let ⟨_,e,_⟩:=T.obj _ _ st2 b hb; Heap.lt_size e
 have hlt3:∀ b∈fp,b<s3.heap.objs.size:=fun b hb=>by rw [e3,Heap.size_push]; exact hG (hlt b hb)
 have f3:∀ b∈fp,Gx X pins (upd H2 s2.heap.objs.size (.lst [])) b:=fun b hb=>⟨by rw [Ar (cK (hlt b hb))]; exact (f2 b hb).1,(f2 b hb).2⟩
 have hk1:∀ b o,s3.heap.get? b=some o->h₁.get? b=some o:=fun b o e=>by
  have hne:b ≠ s3.heap.objs.size:=cK (Heap.lt_size e)
  rw [e3] at e hne
  exact hsb₁.extBut b o hne (Heap.get?_push_of_some _ e)
 have hC:s3.heap.objs.size=(s2.heap.push { cls:=.type "list",data:=.seq ([]:List Value).toArray }).objs.size:=by rw [e3]
 have hns:h₁.Ns s3.heap.objs.size (fun x=>([]:List (Str × Value)).reverse.lookup x):=by rw [hC]; exact hns₁
 have st3:tn 0 h₁:=T.keep _ _ _ st2 fun b hb o e=>hk1 b o (by rw [e3]; exact Heap.get?_push_of_some _ e)
 have start:∀ tk,Inv (Bq X x z scope s3.heap.objs.size s3 (upd H2 s2.heap.objs.size (.lst [])) fp) [] (none::none::σ) (upd H2 s2.heap.objs.size (.lst [])) { s3 with heap:=h₁,toks:=tk }:=fun tk =>
  PK I3 S f3 hlt3 (aE _) hns hk1
 have loop:∀ tk,codeAny (model X.prog X.w) X.A (.compLoop (.ListComp elt [⟨tg,iter,ifs,0⟩] scope pos) 0 (.ref it) (.ref s2.heap.objs.size) (compEnvC scope (Dk X.env scope.names []) s3.heap.objs.size X.env))
   (RR (.ref s2.heap.objs.size) s3.heap.objs.size) { s3 with heap:=h₁,toks:=tk }:=by
  intro tk
  refine Wz (fun n s'=>∃ i ys v0 v1 H',Inv (Bq X x z scope s3.heap.objs.size s3 (upd H2 s2.heap.objs.size (.lst [])) fp) [] (v0::v1::σ) H' s'/\tn i s'.heap/\(∀ b∈fp,H' b=none)/\W i n ys H') rfl ?_ m0
   ⟨0,[],none,none,_,start tk,st3,fun b hb=>(f3 b hb).1,w0⟩
  rintro n s4 ⟨i,ys,v0,v1,H4,I4,st4,fr4,w4⟩
  have stat:∀ {H':Hp},(∀ b∈fp,H' b=none)->∀ b∈fp,Gx (Bq X x z scope s3.heap.objs.size s3 (upd H2 s2.heap.objs.size (.lst [])) fp) [] H' b:=fun hn b hb=>by
   refine ⟨hn b hb,(I4.ok.exf b hb).1,I4.ok.exfs b hb,.inl hb,(I4.ok.exf b hb).2,fun p hp=>absurd (show p∈([]:List (Addr × Obj)) from hp) (by simp)⟩
  rcases turn i n ys H4 w4 with ⟨stop,qn⟩ | ⟨go,step⟩
  ·refine CK (T.done (Bq X x z scope s3.heap.objs.size s3 (upd H2 s2.heap.objs.size (.lst [])) fp) rfl rfl rfl hc i [] s4 (v0::v1::σ) H4 _ I4 (stat fr4) st4 stop) fun r s5 ⟨hr,I5⟩=>?_
   subst hr
   obtain ⟨m,hn,_⟩:=I5.loc
   refine hRR _ _ s5 H4 m hn (I3.La (aE _) I5.free) (I3.call' (s':=s5) (ch:=fp) I5.os I5.base I5.hok I5.bare (fun b hb=>?_)) qn
   obtain ⟨_,g1,_,g3,g4,g5⟩:=f3 b hb
   exact ⟨g3,g1,g4,g5⟩
  ·refine CK (T.item (Bq X x z scope s3.heap.objs.size s3 (upd H2 s2.heap.objs.size (.lst [])) fp) rfl rfl rfl hc i [] s4 (v0::v1::σ) H4 _ I4 (stat fr4) st4 go) fun r s5 ⟨u,hr,h5⟩=>?_
   subst hr
   refine CK h5 fun _ s6 h6=>?_
   obtain ⟨xv,H6,I6,r6,y6,st6,fr6⟩:=h6
   have I6':=I6.pinned (stat fr6) (T.obj _ _ st6)
   have again:∀ {s7:Shared} {H7:Hp} {ys':List V} {w0 w1:Option V},Inv (Bq X x z scope s3.heap.objs.size s3 (upd H2 s2.heap.objs.size (.lst [])) fp) ([]++Jm fp s6.heap) (w0::w1::σ) H7 s7->(∃ m',m'<n/\W (i+1) m' ys' H7) ->
     ∃ m,m<n/\∃ i ys v0 v1 H',Inv (Bq X x z scope s3.heap.objs.size s3 (upd H2 s2.heap.objs.size (.lst [])) fp) [] (v0::v1::σ) H' s7/\tn i s7.heap/\(∀ b∈fp,H' b=none)/\W i m ys H':=fun {s7 H7 ys' w0 w1} I7 hw=>by
    obtain ⟨m',hm,w7⟩:=hw
    refine ⟨m',hm,i+1,ys',w0,w1,H7,I7.HQ,T.keep _ _ _ st6 fun b hb o e=>(I7.pin (b,o) (be _ (be _ (FJ hb e)))).1,fun b hb=>?_,w7⟩
    obtain ⟨o,e,d⟩:=T.obj _ _ st6 b hb
    exact (I7.pin (b,o) (be _ (be _ (FJ hb e)))).2.1
   refine QF (hg _ _ _ _ _ s6 (v0::v1::σ) H6 xv u _ I6' r6 (step xv H6 y6 v0 v1)) fun _ s7 ⟨σ7,H7,I7,⟨w0,w1,e7⟩,q7⟩=>?_
   subst e7
   refine QF (ht _ _ _ _ _ s7 (w0::w1::σ) H7 _ I7 q7) fun b s8 hq0=>?_
   obtain ⟨H8,I8,q8⟩:=hq0
   cases b with
   | false =>
    rw [if_neg fi] at q8 ⊢
    exact again I8 q8
   | true =>
    rw [if_pos rfl] at q8 ⊢
    refine QF (he _ _ _ _ _ s8 (w0::w1::σ) H8 _ I8 q8) fun y s9 hq0=>?_
    obtain ⟨yv,H9,I9,r9,hD9,hz9,q9⟩:=hq0
    refine QF (DG (X:=Bq X x z scope s3.heap.objs.size s3 (upd H2 s2.heap.objs.size (.lst [])) fp) _ s9 (w0::w1::σ) H9 (.ref s2.heap.objs.size) [yv] (.ref s2.heap.objs.size) [y] (fun _ H'=>H'=upd H9 s2.heap.objs.size (.lst (ys++[yv]))) I9 rfl (.cons r9 .nil)
     ⟨_,ys,yv,rfl,rfl,hD9,hz9,rfl⟩) fun _ s10 ⟨_,H10,I10,_,e10⟩=>?_
    subst e10
    exact again I10 q9
 have key:=fun tk=>codeAny_compStart_list (R:=RR (.ref s2.heap.objs.size) s3.heap.objs.size) (loop tk) (T.self X.A 0 { s3 with heap:=h₁,toks:=tk } (fun it' s'=>codeAny (model X.prog X.w) X.A (.compLoop (.ListComp elt [⟨tg,iter,ifs,0⟩] scope pos) 0 it' (.ref s2.heap.objs.size) (compEnvC scope (Dk X.env scope.names []) s3.heap.objs.size X.env)) (RR (.ref s2.heap.objs.size) s3.heap.objs.size) s') _ st3 (loop tk))
 subst hs3
 exact key _
theorem Ud {tg:Expr} {pos:Pos} {iter elt:Expr} {ifs:List Expr} {wi:TI} {g:TG} {tt:TT} {te:TE} (hc:X.calm=true) (S:FP X x z scope) (hi:PI X tg iter wi) (hg:∀ C s₀ H₀ fp,PG (Bq X x z scope C s₀ H₀ fp) tg g)
  (ht:∀ C s₀ H₀ fp,Oj (Bq X x z scope C s₀ H₀ fp) ifs tt) (he:∀ C s₀ H₀ fp,PE (Bq X x z scope C s₀ H₀ fp) elt te) (hs:∀ x,foldedSetIterable iter X.env x=pure x:=by intro _; rfl) :
  PE X (.ListComp elt [⟨tg,iter,ifs,0⟩] scope pos) (VG wi g tt te):=by
 intro pins s σ H Q I h
 rw [eval_ListComp]
 refine wpAny_comprehension_free (use:=none) (cl:=Dk X.env scope.names []) rfl hs (Iv fun y hy hk=>I.ok.has y.1 (S.free y hy hk)) S.kind S.names (CK (hi pins s σ H _ I h) fun v s1 h1=>CK h1 fun itv s2 h2=>?_)
 refine byC fun w_=>?_;obtain ⟨it,fp,tn,J,H2,e,I2,T,st2,f2,q⟩:=h2;refine w_ ?_
 subst e
 refine Om (RR:=fun acc C=>compPost (model X.prog X.w) X.A X.xe none (EP X pins σ Q) acc C) (Q:=Q) hc S hg ht he I2 T st2 f2 q ?_
 intro D C s' H' m hn hf hI hq
 exact ⟨m,hn,fun h' sb=>⟨.ref D,H',hI.sameBut hf sb,rfl,hq⟩⟩
end
end L2
namespace L2
open PySem PySem.Spec PySem.Calls PyProof.Rows
theorem Ao.tup {K:PySem.W.Frag} {H H':Hp} {a:Addr} {xs:List V} (e:Ao H H') (h:JF K H a xs):JF K H' a xs:=by
 rcases h with (h | ⟨o,h⟩) | h
 ·exact .inl (.inl (e _ _ h))
 ·exact .inl (.inr ⟨o,e _ _ h⟩)
 ·exact .inr h
noncomputable def TupAt (H:Hp) (zs:List V) (y:V):Prop:=∃ T,y=.ref T/\H T=some (.tup zs)
theorem TupAt.mono {H H':Hp} {zs:List V} {y:V} (s:Ao H H') (h:TupAt H zs y):TupAt H' zs y:=let ⟨T,e,q⟩:=h; ⟨T,e,s _ _ q⟩
theorem TupAt.upd {H:Hp} {zs ys ws:List V} {y:V} {D:Addr} (h:TupAt H zs y) (hD:H D=some (.lst ys)):TupAt (upd H D (.lst ws)) zs y:=by
 obtain ⟨T,e,q⟩:=h
 refine ⟨T,e,?_⟩
 rw [Ar fun z=>by rw [z,hD] at q; cases q]
 exact q
theorem Bx {α:Type} {H:Hp} {f:α->List V} {l:List α} {vs ys ws:List V} {D:Addr} (h:Paired (fun a y=>TupAt H (f a) y) l vs) (hD:H D=some (.lst ys)):Paired (fun a y=>TupAt (upd H D (.lst ws)) (f a) y) l vs:=Paired.Fj h fun _ _ q=>q.upd hD
theorem Al {α:Type} {H H':Hp} {f:α->List V} {l:List α} {vs:List V} (s:Ao H H') (h:Paired (fun a y=>TupAt H (f a) y) l vs):Paired (fun a y=>TupAt H' (f a) y) l vs:=Paired.Fj h fun _ _ q=>q.mono s
noncomputable def OD (x z:Str) (scope osc:Scope) (N:List Str):Bool :=
 (scope.kind == .function) && scope.names.all (fun y=>y.2 != .cell && (y.2 != .local || scope.names.lookup y.1 == some .local) && (y.2 != .free || osc.names.lookup y.1 == some .cell || osc.names.lookup y.1 == some .free)) && (scope.names.lookup x == some .local) && (scope.names.lookup z == some .local) &&
 decide ((x::z::N).Nodup) && N.all (fun y=>scope.names.lookup y != some .local)
theorem I_ {X:Cx} {x z:Str} {scope osc:Scope} {N:List Str} (hsc:X.env.scope=osc) (hN:X.N=N) (h:OD x z scope osc N=true):FP X x z scope:=by
 unfold OD at h
 simp only [Bool.and_eq_true] at h
 obtain ⟨⟨⟨⟨⟨h1,h2⟩,h3⟩,h3'⟩,h4⟩,h5⟩:=h
 rw [fN] at h2 h5
 have kind:∀ y,X.env.kindOf y=osc.names.lookup y:=fun y=>by show X.env.scope.names.lookup y=_; rw [hsc]
 refine ⟨by simpa using h1,fun y hy=>?_,fun y hy hk=>?_,by simpa using h3,by simpa using h3',fun y hy hk=>?_,by rw [hN]; exact of_decide_eq_true h4,fun y hy=>?_⟩
 ·have:=h2 y hy
  simp only [Bool.and_eq_true,bne_iff_ne] at this
  exact this.1.1
 ·have:=h2 y hy
  simp only [Bool.and_eq_true] at this
  simpa [hk] using this.1.2
 ·have:=h2 y hy
  simp only [Bool.and_eq_true] at this
  rw [kind]
  simpa [hk] using this.2
 ·have:=h5 y (by rw [← hN]; exact hy)
  simpa using this
section
variable {X:Cx} {x z:Str} {scope:Scope}
theorem Xi {px pz pos:Pos} {k:Nat} {C:Addr} {s₀:Shared} {H₀:Hp} {fp:List Addr} (hc:X.calm=true) (S:FP X x z scope) :
  PG (Bq X x z scope C s₀ H₀ fp) (.Tuple [.Name x px,.Name z pz] k pos) (Pk X.K 2 (Hl (Dy 0) (Hl (Dy 1) Rm))):=by
 have l1:(Bq X x z scope C s₀ H₀ fp).env.scope.names.lookup x=some .local:=lookup_relabel_local S.loc
 have l2:(Bq X x z scope C s₀ H₀ fp).env.scope.names.lookup z=some .local:=lookup_relabel_local S.loz
 exact Du (X:=Bq X x z scope C s₀ H₀ fp) (n:=2) hc (Bf (BZ (X:=Bq X x z scope C s₀ H₀ fp) (i:=0) S.nd rfl (.inl l1) (.inr l1)) (Bf (BZ (X:=Bq X x z scope C s₀ H₀ fp) (i:=1) S.nd rfl (.inl l2) (.inr l2)) DP))
theorem Nj {px pz tpos:Pos} {k:Nat} {pos:Pos} {iter elt:Expr} {ifs:List Expr} {wi:TI} {tt:TT} {te:TE} (hc:X.calm=true) (S:FP X x z scope) (hi:PI X (.Tuple [.Name x px,.Name z pz] k tpos) iter wi)
  (ht:∀ C s₀ H₀ fp,Oj (Bq X x z scope C s₀ H₀ fp) ifs tt) (he:∀ C s₀ H₀ fp,PE (Bq X x z scope C s₀ H₀ fp) elt te) (hs:∀ x,foldedSetIterable iter X.env x=pure x:=by intro _; rfl) :
  PE X (.ListComp elt [⟨.Tuple [.Name x px,.Name z pz] k tpos,iter,ifs,0⟩] scope pos) (VG wi (Pk X.K 2 (Hl (Dy 0) (Hl (Dy 1) Rm))) tt te) :=
 Ud hc S hi (fun _ _ _ _=>Xi hc S) ht he hs
end
section
variable {σ:St} {H1:Hp} {Q:VK} {tt:TT} {te:TE}
theorem Cv {K:PySem.W.Frag} {a:Addr} {xs:List V} (p:V->Bool) (f:V->V) (hl:Cz K H1 a xs) (hz:xs.length<sizeLine)
  (ht:∀ x∈xs,∀ H,Ao H1 H->∀ R:Bool->Hp->Prop,(∀ H',Ao H H'->R (p x) H')->tt (some x::σ) H R)
  (he:∀ x∈xs,p x=true->∀ H,Ao H1 H->∀ R:VK,(∀ H',Ao H H'->R (f x) H')->te (some x::σ) H R)
  (hq:∀ D H,H1 D=none->Ao H1 H->H D=some (.lst ((xs.filter p).map f))->Q (.ref D) H):G5 (Ye K a) σ H1 Q tt te :=
 JT p f hz (fun i H x hs hx=>⟨xs,x,hs.seq hl,hx⟩) (fun i H y H' hs _ hy=>⟨hy.1,hy.2 xs (hs.seq hl)⟩) (fun H hs=>⟨xs,hs.seq hl,aE _⟩) ht he hq
theorem Lg {J:It} {xs:List V} (p:V->Bool) (f:V->List V) (hz:xs.length<sizeLine)
  (hgo:∀ i H x,Ao H1 H->xs[i]? = some x->J.go i H) (hy:∀ i H y H',Ao H1 H->i<xs.length->J.yld i H y H'->H'=H/\xs[i]? = some y) (hstop:∀ H,Ao H1 H->J.stop xs.length H)
  (ht:∀ x∈xs,∀ H,Ao H1 H->∀ R:Bool->Hp->Prop,(∀ H',Ao H H'->R (p x) H')->tt (some x::σ) H R)
  (he:∀ x∈xs,p x=true->∀ H,Ao H1 H->∀ R:VK,(∀ y H',Ao H H'->TupAt H' (f x) y->R y H')->te (some x::σ) H R)
  (hq:∀ D H ys,H1 D=none->Ao H1 H->H D=some (.lst ys)->Paired (fun x y=>TupAt H (f x) y) (xs.filter p) ys->Q (.ref D) H):G5 J σ H1 Q tt te:=by
 intro D hD
 have s0:Ao H1 (upd H1 D (.lst [])):=fun b o e=>by rw [Ar (Ak e hD)]; exact e
 refine ⟨fun i m ys H=>m=xs.length - i/\i<=xs.length/\H D=some (.lst ys)/\Paired (fun x y=>TupAt H (f x) y) ((xs.take i).filter p) ys/\Ao H1 H,⟨xs.length,by simp,Nat.zero_le _,Ah,by simpa using Paired.nil,s0⟩,?_⟩
 rintro i m ys H ⟨rfl,hi,hd,hp,hs⟩
 by_cases hlt:i<xs.length
 ·obtain ⟨x,hx⟩:∃ x,xs[i]? = some x:=⟨xs[i],by simp [hlt]⟩
  refine .inr ⟨hgo i H x hs hx,fun y H3 hyl=>?_⟩
  obtain ⟨rfl,hy'⟩:=hy i H y H3 hs hlt hyl
  rw [hx] at hy'
  cases hy'
  have hm:x∈xs:=ay hx
  have hlen:ys.length<sizeLine:=by
   rw [← hp.length]
   refine bp (dt _ _) (bp ?_ hz)
   rw [dS]; omega
  refine ht x hm _ hs _ fun H4 s4=>?_
  by_cases hpx:p x=true
  ·rw [if_pos hpx]
   refine he x hm hpx H4 (hs.trans s4) _ fun y H5 s5 hφ=>?_
   refine ⟨s5 _ _ (s4 _ _ hd),hlen,xs.length - (i+1),by omega,rfl,hlt,Ah,?_,fun b o e=>?_⟩
   ·rw [take_succ_filter p xs i x hx,if_pos hpx]
    exact (Bx (Al (s4.trans s5) hp) (s5 _ _ (s4 _ _ hd))).snoc (hφ.upd (s5 _ _ (s4 _ _ hd)))
   ·rw [Ar (Ak e hD)]; exact s5 _ _ (s4 _ _ (hs _ _ e))
  ·rw [if_neg hpx]
   refine ⟨xs.length - (i+1),by omega,rfl,hlt,s4 _ _ hd,?_,hs.trans s4⟩
   rw [take_succ_filter p xs i x hx,if_neg hpx,ff]
   exact Al s4 hp
 ·have e:i=xs.length:=by omega
  subst e
  rw [fg] at hp
  exact .inl ⟨hstop H hs,hq D H ys hD hs hd hp⟩
theorem Ks {K:PySem.W.Frag} {a:Addr} {xs:List V} (p:V->Bool) (f:V->List V) (hl:Cz K H1 a xs) (hz:xs.length<sizeLine)
  (ht:∀ x∈xs,∀ H,Ao H1 H->∀ R:Bool->Hp->Prop,(∀ H',Ao H H'->R (p x) H')->tt (some x::σ) H R)
  (he:∀ x∈xs,p x=true->∀ H,Ao H1 H->∀ R:VK,(∀ y H',Ao H H'->TupAt H' (f x) y->R y H')->te (some x::σ) H R)
  (hq:∀ D H ys,H1 D=none->Ao H1 H->H D=some (.lst ys)->Paired (fun x y=>TupAt H (f x) y) (xs.filter p) ys->Q (.ref D) H):G5 (Ye K a) σ H1 Q tt te :=
 Lg p f hz (fun i H x hs hx=>⟨xs,x,hs.seq hl,hx⟩) (fun i H y H' hs _ hy=>⟨hy.1,hy.2 xs (hs.seq hl)⟩) (fun H hs=>⟨xs,hs.seq hl,aE _⟩) ht he hq
theorem Ma {α β:Type} {F:α->β->Prop} (g:Nat->α):∀ {n:Nat} {l:List α} {ys:List β},Paired F l ys->l=(List.range n).map g->Paired (fun i y=>F (g i) y) (List.range n) ys:=by
 intro n
 have key:∀ (js:List Nat) (ys:List β),Paired F (js.map g) ys->Paired (fun i y=>F (g i) y) js ys:=by
  intro js
  induction js with
  | nil=>intro ys h; cases h; exact .nil
  | cons j js ih =>
   intro ys h
   cases h with
   | cons a b=>exact .cons a (ih _ b)
 intro l ys h e
 subst e
 exact key _ _ h
theorem Tp {n:Nat} (f:Nat->List V) (hz:n<sizeLine)
  (he:∀ i:Nat,i<n->∀ H,Ao H1 H->∀ R:VK,(∀ y H',Ao H H'->TupAt H' (f i) y->R y H')->te (some (.int (i:Int))::σ) H R)
  (hq:∀ D H ys,H1 D=none->Ao H1 H->H D=some (.lst ys)->Paired (fun i y=>TupAt H (f i) y) (List.range n) ys->Q (.ref D) H):G5 (Xj 0 n) σ H1 Q Rt te:=by
 let g:V->Nat:=fun v=>match v with | .int i=>i.toNat | _=>0
 have hxs:∀ i:Nat,i<n->((List.range n).map fun (i:Nat)=>V.int (i:Int))[i]? = some (.int i):=fun i hi=>by simp [hi]
 refine Lg (xs:=(List.range n).map fun (i:Nat)=>V.int (i:Int)) (fun _=>true) (fun v=>f (g v)) (by simpa using hz) (fun i H x _ hx=>?_) (fun i H y H' _ hi hy=>?_) (fun H _=>?_) (fun x hx H hs R k=>k H (Ao.refl H)) (fun x hx _ H hs R k=>?_) (fun D H ys h1 h2 h3 h4=>?_)
 ·have:i<((List.range n).map fun (i:Nat)=>V.int (i:Int)).length:=(ah.mp hx).1
  show i<n
  simpa using this
 ·obtain ⟨e1,e2⟩:=hy
  have hi':i<n:=by simpa using hi
  refine ⟨e1,?_⟩
  rw [hxs i hi',e2,Int.zero_add]
 ·show n<=_
  simp
 ·obtain ⟨i,hi,rfl⟩:=aI.mp hx
  exact he i (fE.mp hi) H hs R k
 ·rw [bt.mpr (fun _ _=>rfl)] at h4
  exact hq D H ys h1 h2 h3 (Ma (F:=fun x y=>TupAt H (f (g x)) y) (fun i=>V.int (i:Int)) h4 rfl)
theorem U4 {K:PySem.W.Frag} {a b:Addr} {xs ys:List V} (f:V->V->V) (hx:JF K H1 a xs) (hy:JF K H1 b ys) (hl:xs.length=ys.length) (hz:xs.length<sizeLine)
  (he:∀ (i:Nat) x y,xs[i]? = some x->ys[i]? = some y->∀ H,Ao H1 H->∀ R:VK,(∀ H',Ao H H'->R (f x y) H')->te (some x::some y::σ) H R)
  (hq:∀ D H,H1 D=none->Ao H1 H->H D=some (.lst (List.zipWith f xs ys))->Q (.ref D) H):JS (pZ K a b) σ H1 Q (Pk K 2 (Hl (Dy 0) (Hl (Dy 1) Rm))) Rt te:=by
 intro D hD
 have s0:Ao H1 (upd H1 D (.lst [])):=fun b o e=>by rw [Ar (Ak e hD)]; exact e
 refine ⟨fun i m zs H=>m=xs.length - i/\i<=xs.length/\zs=(List.zipWith f xs ys).take i/\H D=some (.lst zs)/\Ao H1 H,⟨xs.length,by simp,Nat.zero_le _,by simp,Ah,s0⟩,?_⟩
 rintro i m zs H ⟨rfl,hi,rfl,hd,hs⟩
 have hzl:(List.zipWith f xs ys).length=xs.length:=by rw [List.length_zipWith]; omega
 by_cases hlt:i<xs.length
 ·have ex:xs[i]? = some xs[i]:=ae hlt
  have ey:ys[i]? = some ys[i]:=ae (hl ▸ hlt)
  refine .inr ⟨⟨xs,ys,_,_,hs.tup hx,hs.tup hy,ex,ey⟩,fun v H3 hv v0 v1=>?_⟩
  obtain ⟨T,hT,rfl,hv⟩:=hv
  obtain ⟨x,y,qx,qy,rfl⟩:=hv xs ys (hs.tup hx) (hs.tup hy)
  have s3:Ao H (upd H T (.tup [x,y])):=fun b o e=>by rw [Ar (Ak e hT)]; exact e
  refine ⟨T,[x,y],rfl,kR Ah,rfl,x,[y],rfl,y,[],rfl,rfl,⟨_,_,rfl⟩,?_⟩
  unfold Rt
  dsimp only
  rw [if_pos rfl]
  refine he i x y qx qy _ (hs.trans s3) _ fun H5 s5=>?_
  refine ⟨s5 _ _ (s3 _ _ hd),?_,xs.length - (i+1),by omega,rfl,hlt,?_,Ah,fun b o e=>?_⟩
  ·rw [dS,hzl]
   omega
  ·rw [dl,List.getElem?_zipWith,qx,qy]
   rfl
  ·rw [Ar (Ak e hD)]
   exact s5 _ _ (s3 _ _ (hs _ _ e))
 ·have e:i=xs.length:=by omega
  subst e
  rw [← hzl,fg] at hd
  exact .inl ⟨⟨xs,hs.tup hx,aE _⟩,hq D H hD hs hd⟩
theorem Rn {K:PySem.W.Frag} {a:Addr} {xs:List V} (p:Nat->V->Bool) (f:Nat->V->V) (hx:Cz K H1 a xs) (hz:xs.length<sizeLine)
  (ht:∀ (i:Nat) x,xs[i]? = some x->∀ H,Ao H1 H->∀ R:Bool->Hp->Prop,(∀ H',Ao H H'->R (p i x) H')->tt (some (.int (i:Int))::some x::σ) H R)
  (he:∀ (i:Nat) x,xs[i]? = some x->p i x=true->∀ H,Ao H1 H->∀ R:VK,(∀ H',Ao H H'->R (f i x) H')->te (some (.int (i:Int))::some x::σ) H R)
  (hq:∀ D H,H1 D=none->Ao H1 H->H D=some (.lst ((xs.zipIdx.filter fun q=>p q.2 q.1).map fun q=>f q.2 q.1))->Q (.ref D) H):JS (aq K a) σ H1 Q (Pk K 2 (Hl (Dy 0) (Hl (Dy 1) Rm))) tt te:=by
 intro D hD
 have s0:Ao H1 (upd H1 D (.lst [])):=fun b o e=>by rw [Ar (Ak e hD)]; exact e
 refine ⟨fun i m zs H=>m=xs.length - i/\i<=xs.length/\zs=(((xs.zipIdx.take i).filter fun q=>p q.2 q.1).map fun q=>f q.2 q.1)/\H D=some (.lst zs)/\Ao H1 H,⟨xs.length,by simp,Nat.zero_le _,by simp,Ah,s0⟩,?_⟩
 rintro i m zs H ⟨rfl,hi,rfl,hd,hs⟩
 by_cases hlt:i<xs.length
 ·have ex:xs[i]? = some xs[i]:=ae hlt
  refine .inr ⟨⟨xs,_,hs.seq hx,ex⟩,fun v H3 hv v0 v1=>?_⟩
  obtain ⟨T,hT,rfl,hv⟩:=hv
  obtain ⟨x,qx,rfl⟩:=hv xs (hs.seq hx)
  have s3:Ao H (upd H T (.tup [.int (i:Int),x])):=fun b o e=>by rw [Ar (Ak e hT)]; exact e
  have ez:xs.zipIdx[i]? = some (x,i):=by rw [List.getElem?_zipIdx,qx]; simp
  have hlen:(((xs.zipIdx.take i).filter fun q=>p q.2 q.1).map fun q=>f q.2 q.1).length<sizeLine:=by
   rw [ai]
   refine bp (dt _ _) (bp ?_ hz)
   rw [dS,ky]; omega
  refine ⟨T,[.int (i:Int),x],rfl,kR Ah,rfl,_,[x],rfl,x,[],rfl,rfl,⟨_,_,rfl⟩,?_⟩
  refine ht i x qx _ (hs.trans s3) _ fun H4 s4=>?_
  by_cases hp:p i x=true
  ·rw [if_pos hp]
   refine he i x qx hp _ (hs.trans (s3.trans s4)) _ fun H5 s5=>?_
   refine ⟨s5 _ _ (s4 _ _ (s3 _ _ hd)),hlen,xs.length - (i+1),by omega,rfl,hlt,?_,Ah,fun b o e=>?_⟩
   ·rw [take_succ_filter (fun q:V × Nat=>p q.2 q.1) xs.zipIdx i (x,i) ez,if_pos hp,br]
    rfl
   ·rw [Ar (Ak e hD)]
    exact s5 _ _ (s4 _ _ (s3 _ _ (hs _ _ e)))
  ·rw [if_neg hp]
   refine ⟨xs.length - (i+1),by omega,rfl,hlt,?_,s4 _ _ (s3 _ _ hd),hs.trans (s3.trans s4)⟩
   rw [take_succ_filter (fun q:V × Nat=>p q.2 q.1) xs.zipIdx i (x,i) ez,if_neg hp,ff]
 ·have e:i=xs.length:=by omega
  subst e
  rw [List.take_of_length_le (by simp)] at hd
  exact .inl ⟨⟨xs,hs.seq hx,aE _⟩,hq D H hD hs hd⟩
end
theorem Gq {K:PySem.W.Frag} {a:Addr} {xs:List V} {g:TG} {tb:TS} {D:Ends} {σ:St} {H:Hp} (Pv:Nat->St->Hp->Prop) (h0:Pv 0 σ H) (hl:∀ i σ H,i<=xs.length->Pv i σ H->Cz K H a xs)
  (hb:∀ (i:Nat) x σ H T,xs[i]? = some x->Pv i σ H->H T=none->g (.ref T) σ (upd H T (.tup [.int (i:Int),x])) fun σ' H'=>tb { D with nx:=Pv (i+1),ct:=Pv (i+1),bk:=D.nx } σ' H')
  (hn:∀ σ H,Pv xs.length σ H->D.nx σ H):∃ W:Nat->Nat->St->Hp->Prop,(∃ m,W 0 m σ H)/\∀ i m σ H,W i m σ H ->
   ((aq K a).stop i H/\D.nx σ H) \/ ((aq K a).go i H/\∃ N:St->Hp->Prop,(∀ σ H,N σ H->∃ m',m'<m/\W (i+1) m' σ H)/\∀ x H',(aq K a).yld i H x H'->g x σ H' fun σ' H''=>tb { D with nx:=N,ct:=N,bk:=D.nx } σ' H''):=by
 refine ⟨fun i m σ H=>m=xs.length - i/\i<=xs.length/\Pv i σ H,⟨_,rfl,gu _,h0⟩,?_⟩
 rintro i m σ H ⟨rfl,hi,hp⟩
 by_cases hlt:i<xs.length
 ·refine .inr ⟨⟨xs,_,hl i σ H hi hp,ae hlt⟩,Pv (i+1),fun σ' H' h=>⟨xs.length - (i+1),by omega,rfl,hlt,h⟩,fun v H' hv=>?_⟩
  obtain ⟨T,hT,rfl,hv⟩:=hv
  obtain ⟨x,qx,rfl⟩:=hv xs (hl i σ H hi hp)
  exact hb i x σ H T qx hp hT
 ·have e:i=xs.length:=by omega
  subst e
  exact .inl ⟨⟨xs,hl _ σ H hi hp,aE _⟩,hn σ H hp⟩
end L2
namespace L2
open PySem PySem.Spec PySem.Calls PyProof.Rows
section
variable {prog:Program} {w:World} {A:Around} {E:Value->Shared->Prop} {s:Shared} {K:PySem.W.Frag} {x C:Addr} {ox:Obj} {od:Option Obj} {name:Str} {tk:Tok} {R:Result->Shared->Prop}
end
end L2
namespace L2
open PySem PySem.Spec PySem.Calls PyProof.Rows
section
variable {prog:Program} {w:World} {A:Around} {E:Value->Shared->Prop} {K:PySem.W.Frag} {C:Addr} {h:Heap} {g:Array GenState} {d:Drawn} {t:Nat} {os:OsState}
end
end L2
namespace L2
open PySem PySem.Spec PySem.Calls PyProof.Rows
noncomputable def gr (x C:Addr) (od:Option Addr):HO:=.ext fun h=>∃ (d:Data) (sl:Array (Option Value)),h.get? x=some ⟨.ref C,od,d,sl⟩/\PySem.W.notCls ⟨.ref C,od,d,sl⟩=true
noncomputable def rG (dx:Addr) (fs:List (Str × V)):HO:=.ext fun h=>∃ mA,h.Ns1 dx mA/\∀ f,Hq (fs.lookup f) (mA f)
section
variable {P:Program} {w:World} {H H':Hp} {h:Heap} {x C dx:Addr} {od:Option Addr} {fs:List (Str × V)}
inductive Xn (H:Hp) (x C:Addr):List (Str × V)->Prop where
 | bare (e:H x=some (gr x C none)):Xn H x C []
 | full {dx:Addr} {fs:List (Str × V)} (e:H x=some (gr x C (some dx))) (d:H dx=some (rG dx fs)):Xn H x C fs
end
section
variable {P:Program} {w:World} {X:Cx} {pins:List (Addr × Obj)} {σ:St} {H:Hp} {s:Shared} {h':Heap} {a:Addr} {o:HO}
end
section
variable {X:Cx} {C:Addr} {x:Str} {e:Expr} {es:List Expr} {t:TA} {p pos:Pos}
end
section
variable {X:Cx} {e:Expr} {f:Str} {pos:Pos} {ta:TE}
end
section
variable {prog:Program} {w:World} {A:Around} {E:Value->Shared->Prop} {s:Shared} {K:PySem.W.Frag} {x C:Addr} {name:Str} {v:Value} {R:Result->Shared->Prop} {d:Data} {sl:Array (Option Value)}
end
section
variable {X:Cx} {pins:List (Addr × Obj)} {σ:St} {H:Hp} {s:Shared} {h':Heap} {x C dx:Addr} {f:Str} {y:V} {u:Value}
end
section
variable {X:Cx} {o value:Expr} {f:Str} {pos pos':Pos} {ta tv:TE}
end
section
variable {X:Cx} {C f:Addr} {fd:FuncData} {ps:List Str} {sp:Sp} {k:Nat} {x:Str} {e:Expr} {es:List Expr} {t:TA} {p pos:Pos}
end
section
variable {X:Cx}
end
end L2
namespace Wd
noncomputable def mk (l:List Nat):Nat:=l.foldl (fun s n=>s ||| 2 ^ n) 0
theorem S6 (l:List Nat):∀ (s i:Nat),(l.foldl (fun s n=>s ||| 2 ^ n) s).testBit i=(s.testBit i || decide (i∈l)):=by
 induction l with
 | nil=>intro s i; simp
 | cons n l ih =>
  intro s i
  rw [List.foldl_cons,ih,iL,Nat.testBit_two_pow]
  by_cases h:n=i
  ·subst h; simp
  ·have h':¬ i=n:=fun e=>h e.symm
   simp [h,h']
theorem LC (l:List Nat) (i:Nat):(mk l).testBit i=decide (i∈l):=by
 unfold mk; rw [S6]; simp
noncomputable def len (n:Nat):Nat:=if n=0 then 0 else n.log2+1
theorem Ur {n i:Nat} (h:n.testBit i=true):i<len n:=by
 unfold len
 have h0:n ≠ 0:=by intro e; subst e; simp at h
 rw [if_neg h0]
 have h1:2 ^ i<=n:=Nat.ge_two_pow_of_testBit h
 have h2:i<=n.log2:=(Nat.le_log2 h0).mpr h1
 omega
noncomputable def mem (n:Nat):List Nat:=(List.range (len n)).filter n.testBit
theorem mem_iff {n i:Nat}:i∈mem n ↔ n.testBit i=true:=by
 unfold mem
 rw [cq,fE]
 exact ⟨fun h=>h.2,fun h=>⟨Ur h,h⟩⟩
theorem NK {n k:Nat} (h:n<2 ^ k):len n<=k:=by
 unfold len
 split
 ·omega
 ·rename_i h0
  have:n.log2<k:=(Nat.log2_lt h0).mpr h
  omega
noncomputable def mv (n:Nat) (k:Int) (c:Nat):Nat:=(if 0<k then n * 2 ^ k.toNat else n / 2 ^ (-k).toNat) % 2 ^ c
theorem K1 (n:Nat) (k:Int) (c i:Nat):(mv n k c).testBit i=(decide (i<c) && (decide (0<=(i:Int) - k) && n.testBit ((i:Int) - k).toNat)):=by
 unfold mv
 rw [Nat.testBit_mod_two_pow]
 congr 1
 split
 ·rename_i h
  rw [Nat.testBit_mul_two_pow]
  by_cases h1:k.toNat<=i
  ·have e:((i:Int) - k).toNat=i - k.toNat:=by omega
   have e2:(0:Int)<=i - k:=by omega
   rw [decide_eq_true e2,e]; simp [h1]
  ·have e2:¬ (0:Int)<=i - k:=by omega
   rw [decide_eq_false e2]; simp [h1]
 ·rename_i h
  rw [Nat.testBit_div_two_pow]
  have e:((i:Int) - k).toNat=i+(-k).toNat:=by omega
  have e2:(0:Int)<=i - k:=by omega
  rw [decide_eq_true e2,e]; simp
noncomputable def stay (l:List Nat) (k:Int) (c:Nat):List Nat:=l.filter fun n=>decide (0<=(n:Int)+k) && decide ((n:Int)+k<c)
theorem XR (l:List Nat) (n:Nat):mk (l++[n])=mk l ||| 2 ^ n:=by
 unfold mk; rw [List.foldl_append]; rfl
end Wd
namespace L2
open PySem PySem.Spec PySem.Calls PyProof.Rows
theorem Mx:∀ {xs:List V} {us:List Value},xs.length=us.length->(∀ (j:Nat) x u,xs[j]? = some x->us[j]? = some u->RelV x u)->Vals xs us
 | [],[],_,_=>.nil
 | [],_::_,h,_=>by simp at h
 | _::_,[],h,_=>by simp at h
 | x::xs,u::us,h,f=>.cons (f 0 x u rfl rfl) (Mx (by simpa using h) fun j y v hy hv=>f (j+1) y v (by simpa using hy) (by simpa using hv))
section
variable {X:Cx} {es:List Expr} {k1:Nat} {tpos:Pos}
theorem Ka (hc:X.calm=true):GR X (.type "list") (fun xs H Q=>∃ (a:Addr) (kvs:List (Key × V)) (js:List Int),xs=[V.ref a]/\H a=some (.dK kvs)/\kvs.map (·.1)=js.map Sum.inl/\∀ l,H l=none->Q (.ref l) (upd H l (.lst (js.map V.int)))):=by
 intro pins s σ H xs us Q I r h
 obtain ⟨a,kvs,js,rfl,ha,hj,q⟩:=h
 obtain ⟨u,rfl,ru⟩:=vals1 r
 cases ru
 refine byC fun w_=>?_;obtain ⟨hz,lo,vs,rel,o,es,ep,e1,e2,e3,e4,e5,e6⟩:=I.hok a _ ha;refine w_ ?_
 have hl:kvs.length=vs.length:=Paired.length rel
 have hda:s.heap.DictAt (CG X.prog X.w) a vs ep:=⟨o,es,e1,e2,e3,e4,e5,e6⟩
 refine PySem.W.kdl_call (PySem.W.kdl_dict (knd:=CG X.prog X.w) (kvs:=vs) (ep:=ep) lo) (I.ok.hd hc) hda (by omega) ?_
 intro h' tk acc' c' hk hD hacc
 have hjl:js.length=vs.length:=by
  have:=congrArg List.length hj
  rw [ai,ai] at this
  omega
 have hv:Vals (js.map V.int) acc'.toList:=by
  refine Mx (by have h1:acc'.toList.length=acc'.size:=Array.length_toList; have h2:=hacc.1; rw [ai]; omega) fun j x u hx hu=>?_
  rw [Array.getElem?_toList] at hu
  obtain ⟨k,y,hk1,hk2⟩:=hacc.2 j u hu
  rw [ar] at hx
  obtain ⟨i,hi,rfl⟩:=bb.mp hx
  have e1:(kvs.map (·.1))[j]? = some (Sum.inl i):=by rw [hj,ar,hi]; rfl
  rw [ar] at e1
  obtain ⟨kv,hkv,ekv⟩:=bb.mp e1
  have rel':∀ {l:List (Key × V)} {m:List (Key × Value)},KV l m->∀ {j:Nat} {p q},l[j]? = some p->m[j]? = some q->p.1=q.1:=by
   intro l m h
   unfold KV at h
   induction h with
   | nil=>intro j p q hp; simp at hp
   | cons a b ih =>
    intro j p q hp hq
    cases j with
    | zero =>
     simp at hp hq
     subst hp hq
     exact a.1
    | succ j=>exact ih (by simpa using hp) (by simpa using hq)
  have e2:=rel' rel hkv hk1
  rw [ekv] at e2
  have e3:k=Sum.inl i:=e2.symm
  subst e3
  rcases CZ (show J0 (Sum.inl i) u=true from hk2) with ⟨i',t,e,rfl⟩ | ⟨x,t,e,_⟩
  ·cases e
   exact ⟨t,rfl⟩
  ·cases e
 refine ⟨.ref s.heap.objs.size,_,I.laid (t':=tk) (o:=.lst (js.map V.int)) hk (Nat.le_refl _) ⟨by rw [List.length_map]; omega,acc'.toList,c',hv,by simpa using hD⟩,rfl,q _ (I.hok.fresh (Nat.le_refl _))⟩
theorem Ov:qT X "int.bit_length" (fun x xs H Q=>∃ i,x=V.int i/\xs=[]/\Q (.int (Builtin.Int.intBits i)) H):=by
 intro pins s σ H x xs v us Q I rx r h
 obtain ⟨i,rfl,rfl,q⟩:=h
 obtain ⟨t,rfl⟩:=rx
 cases r
 exact PyProof.Rows.call_int_bit_length ⟨.int _,H,I.tok _,⟨_,rfl⟩,q⟩
end
theorem Hv (a b:Nat):Builtin.bitOr (a:Int) (b:Int)=((a ||| b:Nat):Int):=by
 have h1:¬ 0<=Builtin.bitNot (a:Int):=by unfold Builtin.bitNot; omega
 have h2:¬ 0<=Builtin.bitNot (b:Int):=by unfold Builtin.bitNot; omega
 have nn:∀ x:Int,Builtin.bitNot (Builtin.bitNot x)=x:=fun x=>by unfold Builtin.bitNot; omega
 unfold Builtin.bitOr
 rw [bitAnd_nn h1 h2,nn,nn,nn]
 simp
theorem JQ (a b:Nat):Builtin.bitAnd (a:Int) (b:Int)=((a &&& b:Nat):Int):=by
 rw [bitAnd_pp (kx a) (kx b)]
 simp
theorem Ju (n:Nat):Builtin.Int.intBits (n:Int)=Wd.len n:=by
 unfold Builtin.Int.intBits Wd.len
 by_cases h:n=0
 ·subst h; rfl
 ·have h':((n:Int) == 0)=false:=by simpa using h
  rw [h',if_neg h]
  simp
theorem HW (k:Nat):(2:Int) ^ k=((2 ^ k:Nat):Int):=by simp
end L2
namespace Wd
open PySem
noncomputable abbrev qi (xs:Array Nat):Prop:=xs.toList.Pairwise (· < ·)
structure Good (t:SetTable) (led:Bool):Prop where
 led:t.led=led
 ris:t.plain=true->qi t.place
end Wd
namespace Wd
open PySem PySem.Spec PyProof.Rows
noncomputable def o7 (prog:Program) (w:World) (h:Heap) (a:Addr) (led:Bool) (σ:List Int):Prop :=
 ∃ es ep t,h.get? a=some { cls:=.type "set",dict:=none,data:=.set es ep t }/\ElemsOf (intKind prog w) es.toList/\(∀ k,k∈σ ↔ ∃ e∈es.toList,(intKind prog w).is k e.2=true)/\es.size=σ.length/\σ.Nodup /\
  σ.length<scanBound/\t.fits es.size=true/\Good t led
section
variable {prog:Program} {w:World} {A:Around} {E:Value->Shared->Prop} {s:Shared} {a:Addr} {led:Bool} {σ:List Int} {k:Int} {tk:Tok}
end
end Wd
namespace Wd
open PySem PySem.Spec PyProof.Rows
section
variable {prog:Program} {w:World} {A:Around} {R:Result->Shared->Prop} {I:Addr} {fp wr:List Addr} {G:Array GenState->Array GenState->Prop} {n:Nat} {P:Nat->Value->Prop} {St:Nat->Shared->Prop} {led:Bool}
end
section
variable {prog:Program} {w:World} {A:Around} {E:Value->Shared->Prop} {s:Shared}
noncomputable abbrev gC (w:World):Bool:=!w.params.followText "set-order"
end
end Wd
namespace Wd
open PySem PySem.Spec PyProof.Rows
end Wd
namespace Wd
open PySem PySem.Spec PyProof.Rows
section
variable {M:Model} {A:Around} {E:Value->Shared->Prop}
end
inductive Way (w:World) (a:Addr) (es:Array (Int × Value)) (ep:Nat) (t:SetTable) (h:Heap):(Nat->Value)->List Value->List Addr->Prop where
 | text (hb:w.params.followText "set-order" = true):Way w a es ep t h (fun _=>rawInt 0) ((pickOrder (w.params.setOrder a ep) es).toList.map (·.2)) []
 | drawn {tp:Addr} {ps:List Nat} (hb:w.params.followText "set-order" = false) (hp:ps.Perm (List.range es.size)) (ht:∃ n,h.get? tp=some { cls:=.type "tuple",data:=.seq (ps.map fun (i:Nat)=>rawInt i).toArray n }) :
   Way w a es ep t h (fun _=>.ref tp) (ps.map fun i=>(es.getD i (0,.none)).2) [tp]
 | plain (hb:w.params.followText "set-order" = false) (hd:(!t.plain && decide (es.size > 1))=false) (hl:t.led=true) (hr:qi t.place) (hs:t.place.size=es.size) :
   Way w a es ep t h (fun i=>rawInt (if i=0 then 0 else t.place.getD (i - 1) 0+1:Nat)) (es.toList.map (·.2)) []
section
variable {prog:Program} {w:World} {A:Around} {E:Value->Shared->Prop} {s:Shared} {a it:Addr} {es:Array (Int × Value)} {ep:Nat} {t:SetTable} {first:Nat->Value} {vs:List Value} {more:List Addr}
end
end Wd
section PartSetJ
set_option maxHeartbeats 1000000
namespace Wd
open PySem PySem.Spec PyProof.Rows
section
variable {prog:Program} {w:World} {A:Around} {E:Value->Shared->Prop} {s:Shared} {a:Addr} {σ:List Int}
end
end Wd
end PartSetJ
section PartSetK
set_option maxHeartbeats 1000000
namespace Wd
open PySem PySem.Spec PyProof.Rows
section
variable {prog:Program} {w:World} {A:Around} {E:Value->Shared->Prop} {s:Shared} {a:Addr} {σ:List Int}
end
end Wd
end PartSetK
namespace L2
open PySem PySem.Spec PyProof.Rows
noncomputable def rD (P:Program) (w:World) (a:Addr) (τ:List Int):HO:=.ext fun h=>Wd.o7 P w h a (Wd.gC w) τ
section
variable {X:Cx} {pins:List (Addr × Obj)} {σ:St} {H:Hp} {s:Shared} {h':Heap} {a:Addr} {o:HO}
theorem Xf:Gv X (binaryOp .LShift) (rI (fun i j=>0<=j/\(Builtin.Int.intBits i:Int)+j<=2 ^ 27) fun i j=>.int (i * 2 ^ j.toNat)):=Yz fun _ _ _ _ _ _ _ hc q=>lshift_int hc.1 hc.2 q
end
end L2
namespace L2
open PySem PySem.Spec PyProof.Rows
section
variable {X:Cx}
end
section
variable {prog:Program} {w:World} {A:Around} {E:Value->Shared->Prop} {s:Shared} {r l:Addr}
theorem Ug:typeLookup (.type "list_reverseiterator") "__len__" = pure none:=by rw [typeLookup_type,builtinLookup_eq_fast]; kernel_rfl
theorem XN:typeLookup (.type "list_reverseiterator") "__length_hint__" = pure (some (.builtin "list_reverseiterator.__length_hint__")):=by rw [typeLookup_type,builtinLookup_eq_fast]; kernel_rfl
theorem Us {Q:Bool->Shared->Prop} (hT:s.TypeIs (.ref r) "list_reverseiterator") (h:Q false s):wpAny (model prog w) A (Builtin.List.listLengthHint (.ref r)) Q E s:=by
 unfold Builtin.List.listLengthHint
 refine wpAny_bind (wpAny_specialOf hT Ug ?_)
 show wpAny _ _ (specialOf (Value.ref r) (Str.ofString "__length_hint__") >>= _) _ _ _
 refine wpAny_bind (wpAny_specialOf hT XN ?_)
 generalize hid:("list_reverseiterator.__length_hint__" : String)=id0
 wp_delta
 rw [show splitId id0=some ("list_reverseiterator","__length_hint__") from by subst hid; decide +kernel]
 subst hid
 refine wpAny_bind (wpAny_isInstance (b:=true) hT (by rw [isSubtype_type]; kernel_rfl) ?_)
 exact wpAny_pure h
theorem Pz {R:Result->Shared->Prop} (hh:A.handled=none) {items:Array Value} (hit:s.heap.IsRevIter r l ((items.size:Int) - 1)) (hl:s.heap.IsList l items) (hlr:l ≠ r) (S:Addr) (hSr:S ≠ r) (hSl:S ≠ l) (res:Value) (c₀:Nat) (hS:s.heap.get? S=some { cls:=.type "list",data:=.seq #[] c₀ })
  (hR:∀ h' tk acc' c',(∀ b o,b ≠ S->b ≠ r->s.heap.get? b=some o->h'.get? b=some o)->h'.get? S=some { cls:=.type "list",dict:=none,data:=.seq acc' c',slots:=#[] }->ItemsOf (fun i v=>items[items.size - 1 - i]? = some v) acc' items.size->R (.ok (.ret res)) { s with heap:=h',toks:=tk }) (hn:items.size<=sizeLine) :
  wpAny (model prog w) A.in1 (Builtin.List.listExtendWith (.ref S) (.ref r) res)
   (fun fin s'=>match fin with | .done f=>R (.ok f) s' | .again c'=>c'.quiet=true/\codeAny (model prog w) A c' R s') (fun e s'=>R (.error e) s') s:=by
 have hSf:S ∉ [r,l]:=by simp only [List.mem_cons,List.not_mem_nil,or_false,not_or]; exact ⟨hSr,hSl⟩
 have W:=Walks.listRev (prog:=prog) (w:=w) (A:=A.in1) hh r l hlr items
 have hst:0<=items.size/\s.heap.IsRevIter r l ((items.size:Int) - 1 - ((0:Nat):Int))/\s.heap.IsList l items:=⟨Nat.zero_le _,by simpa using hit,hl⟩
 have key:codeAny (model prog w) A (.builtin "list.extend.loop" ⟨[.ref S,.ref r,res],[]⟩) R s:=by
  refine codeAny_extend_loopS W.toS hn S hSf res items.size 0 _ #[] c₀ rfl (gu _) hst hS (ItemsOf.nil _) fun s' acc' c' hm hS' hacc=>?_
  rw [Moved.eq_with hm]
  refine hR s'.heap s'.toks acc' c' (fun b o hb hbr e=>hm.heap b o (fun hmem=>?_) e) hS' hacc
  rcases eh.mp hmem with e' | hmem
  ·exact hb e'
  ·exact hbr (aS.mp hmem)
 unfold Builtin.List.listExtendWith
 refine wpAny_bind (wpAny_typeOf (T:="list_reverseiterator") hit.typeIs ?_)
 have h1:Builtin.List.listSameRef (.ref S) (.ref r)=false:=by simp [Builtin.List.listSameRef,hSr]
 rw [if_neg (by rw [h1]; decide)]
 refine wpAny_bind (wpAny_pyIter_revIter hit ?_)
 refine wpAny_bind (wpAny_holding (Us hit.typeIs ?_))
 rw [if_neg (by decide)]
 exact wpAny_pure ⟨plainId_quiet PySem.F.plain_extend_loop _,key⟩
theorem Uy {R:Result->Shared->Prop} (hh:A.handled=none) {items:Array Value} (hit:s.heap.IsRevIter r l ((items.size:Int) - 1)) (hl:s.heap.IsList l items) (hlr:l ≠ r) (S:Addr) (hSr:S ≠ r) (hSl:S ≠ l) (hS:s.heap.get? S=some { cls:=.type "list",data:=.seq #[] })
  (hR:∀ h' tk acc' c',(∀ b o,b ≠ S->b ≠ r->s.heap.get? b=some o->h'.get? b=some o)->h'.get? S=some { cls:=.type "list",dict:=none,data:=.seq acc' c',slots:=#[] }->ItemsOf (fun i v=>items[items.size - 1 - i]? = some v) acc' items.size->R (.ok (.ret .none)) { s with heap:=h',toks:=tk }) (hn:items.size<=sizeLine) :
  wpAny (model prog w) A.in1 (Builtin.«list.__init__» ⟨[.ref S,.ref r],[]⟩)
   (fun fin s'=>match fin with | .done f=>R (.ok f) s' | .again c'=>c'.quiet=true/\codeAny (model prog w) A c' R s') (fun e s'=>R (.error e) s') s:=by
 show wpAny _ _ (do let old ← Builtin.List.listItems (.ref S); Builtin.List.listUpdate (.ref S) (fun _=>#[]); letGo old.toList.reverse; Builtin.List.listExtendWith (.ref S) (.ref r) .none) _ _ s
 refine wpAny_bind ?_
 unfold Builtin.List.listItems
 refine wpAny_bind (wpAny_seqItems hS rfl (wpAny_pure ?_))
 show wpAny _ _ (updateSeq S (fun _=>#[]) >>= fun _=>letGo (#[]:Array Value).toList.reverse >>= fun _=>Builtin.List.listExtendWith (.ref S) (.ref r) .none) _ _ s
 refine wpAny_bind (wpAny_updateSeq hS rfl ?_)
 have hS₂:=Heap.get?_update_self (Obj.mapSeq (fun _=>(#[]:Array Value))) hS rfl
 have oth:∀ b o,b ≠ S->s.heap.get? b=some o->(s.heap.update S (Obj.mapSeq (fun _=>(#[]:Array Value)))).get? b=some o :=
  fun b o hb e=>(Heap.get?_update_other _ _ (Ne.symm hb)).trans e
 refine wpAny_bind (wpAny_letGo ?_)
 refine Pz hh (hit.at fun o e=>oth r o hSr.symm e) (hl.at fun o e=>oth l o hSl.symm e) hlr S hSr hSl .none _ hS₂ (fun h' tk acc' c' hk hS' hacc=>?_) hn
 exact hR h' tk acc' c' (fun b o hb hbr e=>hk b o hb hbr (oth b o hb e)) hS' hacc
theorem VH {Q:Value->Shared->Prop} (hh:A.handled=none) {items:Array Value} (hit:s.heap.IsRevIter r l ((items.size:Int) - 1)) (hl:s.heap.IsList l items) (hlr:l ≠ r) (hrs:r<s.heap.objs.size) (hls:l<s.heap.objs.size) (hn:items.size<=sizeLine)
  (hQ:∀ h' tk acc' c',(∀ b o,b ≠ r->s.heap.get? b=some o->h'.get? b=some o)->h'.get? s.heap.objs.size=some { cls:=.type "list",dict:=none,data:=.seq acc' c',slots:=#[] }->ItemsOf (fun i v=>items[items.size - 1 - i]? = some v) acc' items.size->Q (.ref s.heap.objs.size) { s with heap:=h',toks:=tk }) :
  wpAny (model prog w) A (call (.type "list") [.ref r]) Q E s:=by
 refine callType_codes (Q₁:=fun obj s₁=>obj=.ref s.heap.objs.size/\s₁ = { s with heap:=s.heap.push { cls:=.type "list",data:=.seq #[] } }) PySem.F.called_list (PySem.F.typeCall_list_1 _) PySem.F.entry_list_init
  (code_list_new _ ⟨rfl,rfl⟩) fun obj s₁ h₁=>?_
 obtain ⟨rfl,rfl⟩:=h₁
 have hS:(s.heap.push { cls:=.type "list",data:=.seq #[] }).get? s.heap.objs.size=some { cls:=.type "list",data:=.seq #[] }:=Heap.get?_push_size _ rfl
 refine ⟨⟨_,hS,rfl⟩,PySem.F.args_list_init_2 _ _,Uy (A:=A.in1) hh (hit.at fun o e=>Heap.get?_push_of_some _ e) (hl.at fun o e=>Heap.get?_push_of_some _ e) hlr _ (gL hrs) (gL hls) hS (fun h' tk acc' c' hk hS' hacc=>?_) hn⟩
 exact ⟨rfl,hQ h' tk acc' c' (fun b o hbr e=>hk b o (cK (Heap.lt_size e)) hbr (Heap.get?_push_of_some _ e)) hS' hacc⟩
end
section
variable {X:Cx} {p1 p2 q1 q2:Pos} {e:Expr} {te:TE}
noncomputable def iu (K:PySem.W.Frag) (te:TE):TE:=fun σ H Q=>te σ H fun x H1=>∃ a xs,x=.ref a/\Cz K H1 a xs/\∀ l,H1 l=none->Q (.ref l) (upd H1 l (.lst xs.reverse))
theorem Pa (hc:X.calm=true) (hg:Gl X "list") (hm:X.mg "list" = none) (hg2:Gl X "reversed") (hm2:X.mg "reversed" = none) (he:PE X e te)
  (hs1:starEach [.Call (.Name "reversed" p2) [e] [] q2] X.env=[(false,eval (.Call (.Name "reversed" p2) [e] [] q2) X.env)]:=by rfl) (hs2:starEach [e] X.env=[(false,eval e X.env)]:=by rfl) (hs3:starEach ([]:List Expr) X.env=[]:=by rfl) :
  PE X (.Call (.Name "list" p1) [.Call (.Name "reversed" p2) [e] [] q2] [] q1) (iu X.K te):=by
 intro pins s σ H Q I h
 refine wpAny_Call_Name_kw (G7 I hg hm eR ?_ (by decide) (by decide))
 refine PyProof.Rows.callWith_type1 ?_ (by rw [hs1,hs3]) (by rw [hs3]; rfl)
 rw [hs1]
 show wpAny _ _ (spliced [(false,eval (.Call (.Name "reversed" p2) [e] [] q2) X.env)]) _ _ s
 refine Calls.spliced_cons ?_
 refine wpAny_Call_Name_kw (G7 I hg2 hm2 PyProof.Rows.boot_reversed ?_ (by decide) (by decide))
 refine PyProof.Rows.callWith_type1 ?_ (by rw [hs2,hs3]) (by rw [hs3]; rfl)
 rw [hs2]
 show wpAny _ _ (spliced [(false,eval e X.env)]) _ _ s
 refine Calls.spliced_cons (CK (he pins s σ H _ I h) fun u s1 hq0=>?_)
 obtain ⟨x,H1,I1,r1,a,xs,ex,hS,q⟩:=hq0
 subst ex
 cases r1
 refine Calls.spliced_nil ?_
 obtain ⟨its,rv,pl,hz⟩:=I1.list hS
 have la:a<s1.heap.objs.size:=by obtain ⟨_,e,_⟩:=pl.isList; exact Heap.lt_size e
 refine call_reversed_list pl.isList ?_
 refine Calls.spliced_nil ?_
 have hsz:(s1.heap.push (revObj a (((its.toArray.size:Nat):Int) - 1))).objs.size=s1.heap.objs.size+1:=by simp [Heap.push]
 have hlen:its.toArray.size=xs.length:=by have:=rv.length; simp; omega
 refine VH (I1.ok.hd hc) (r:=s1.heap.objs.size) (l:=a) (items:=its.toArray) ⟨_,Heap.get?_push_size _ rfl,rfl,rfl⟩ (pl.isList.at fun o e=>Heap.get?_push_of_some _ e) (cK la) (by rw [hsz]; exact eT _) (by rw [hsz]; exact hG la) (by omega) fun h' tk acc' c' hk hD hacc=>?_
 rw [hsz] at hD ⊢
 have hv:Vals xs.reverse acc'.toList:=by
  refine Mx (by have h1:acc'.toList.length=acc'.size:=Array.length_toList; have h2:=hacc.1; rw [List.length_reverse]; omega) fun j x u hx hu=>?_
  rw [Array.getElem?_toList] at hu
  have h3:=hacc.2 j u hu
  have hj:j<xs.length:=by have:=(ah.mp hx).1; rwa [List.length_reverse] at this
  rw [List.getElem?_reverse hj] at hx
  obtain ⟨u',hu',ru⟩:=rv.get hx
  rw [hlen] at h3
  have h4:its[xs.length - 1 - j]? = some u:=by simpa using h3
  rw [h4] at hu'
  cases hu'
  exact ru
 refine ⟨.ref (s1.heap.objs.size+1),_,I1.laid (t':=tk) (o:=.lst xs.reverse) (fun b o e=>hk b o (Nat.ne_of_lt (Heap.lt_size e)) (Heap.get?_push_of_some _ e)) (Nat.le_succ _) ⟨by rw [List.length_reverse]; omega,acc'.toList,c',hv,by simpa using hD⟩,rfl,q _ (I1.hok.fresh (Nat.le_succ _))⟩
end
end L2
namespace L2
open PySem PySem.Spec PyProof.Rows
noncomputable def jH (K:PySem.W.Frag) (a:Addr) (xs:List V):It :=
 ⟨fun i H=>Cz K H a xs/\i<xs.length,fun i H x H'=>H'=H/\xs[xs.length - 1 - i]? = some x,fun i H=>Cz K H a xs/\i=xs.length⟩
theorem Vj {P:Program} {w:World} {K:PySem.W.Frag} {tg:Expr} (a it:Addr) (xs:List V):Turn P w K tg (jH K a xs) [it] it (fun i h=>h.IsRevIter it a ((xs.length:Int) - 1 - (i:Nat))) where
 mem:=by simp
 obj:=fun i h st b hb=>by
  have e:b=it:=by simpa using hb
  subst e
  obtain ⟨o,e,c,d⟩:=st
  exact ⟨o,e,fun v z=>by rw [d] at z; cases z⟩
 keep:=fun i h h' st k=>st.at fun o e=>k it (by simp) o e
 item:=by
  intro X hP hw hK hc i pins s σ H E I hf st hg
  subst hP hw hK
  obtain ⟨hq,hlt⟩:=hg
  obtain ⟨its,rv,p,hz⟩:=I.list hq
  have hx:xs[xs.length - 1 - i]? = some (xs[xs.length - 1 - i]'(by omega)):=ae (by omega)
  obtain ⟨u,hu,ru⟩:=rv.get hx
  obtain ⟨f0,f1,f2,f3,f4,f5⟩:=hf it (by simp)
  have e:(xs.length:Int) - 1 - ((i:Nat):Int)=((xs.length - 1 - i:Nat):Int):=by omega
  rw [e] at st
  refine wpAny_pyNext_rev_item st p.isList (x:=u) (by simpa using hu) fun h' st' sb=>?_
  have I1:Inv X pins σ H { s with heap:=h' }:=I.turned (t':=s.toks) (fun b o hb e=>(sb.2 b hb).trans e) f0 f1 f3 f4 f5
  have e2:((xs.length - 1 - i:Nat):Int) - 1=(xs.length:Int) - 1 - ((i+1:Nat):Int):=by omega
  rw [e2] at st'
  obtain ⟨o,eo,c,d⟩:=id st'
  exact ⟨u,rfl,O5 (s:={ s with heap:=h' }) eo c d (by decide) ⟨_,H,I1,ru,⟨rfl,hx⟩,st',fun b hb=>(hf b hb).1⟩⟩
 done:=by
  intro X hP hw hK hc i pins s σ H E I hf st hg
  subst hP hw hK
  obtain ⟨hq,rfl⟩:=hg
  obtain ⟨f0,f1,f2,f3,f4,f5⟩:=hf it (by simp)
  have e:(xs.length:Int) - 1 - ((xs.length:Nat):Int) = -1:=by omega
  rw [e] at st
  exact wpAny_pyNext_rev_end (I.ok.hd hc) st fun h' eb=>⟨rfl,I.turned (t':=s.toks) (fun b o hb e=>eb b o hb e) f0 f1 f3 f4 f5⟩
 self:=fun _ _ _ _ _ st h=>wpAny_pyIter_revIter st h
section
variable {X:Cx} {tg:Expr}
noncomputable def k_ (K:PySem.W.Frag) (ta:TA):TI:=fun σ H R=>ta σ H fun vs H1=>∃ a xs,vs=[.ref a]/\Cz K H1 a xs/\R (jH K a xs) H1
theorem Zh {l:Expr} {ta:TA} {p pos:Pos} (hg:Gl X "reversed") (hm:X.mg "reversed" = none) (ha:PA X [l] ta) (hs:starEach [l] X.env=[(false,eval l X.env)]:=by rfl):PI X tg (.Call (.Name "reversed" p) [l] [] pos) (k_ X.K ta):=by
 intro pins s σ H R I h
 refine Call_ (G7 I hg hm PyProof.Rows.boot_reversed (PyProof.Rows.callWith_type1 (CK (ha pos pins s σ H _ I h) fun us s1 ⟨vs,H1,I1,r1,q1⟩=>?_) hs rfl))
 obtain ⟨a,xs,e,hq,q⟩:=q1
 subst e
 obtain ⟨u,rfl,ru⟩:=vals1 r1
 cases ru
 obtain ⟨its,rv,pl,hz⟩:=I1.list hq
 refine call_reversed_list pl.isList ?_
 have hit:(s1.heap.push (revObj a ((its.toArray.size:Int) - 1))).IsRevIter s1.heap.objs.size a ((its.toArray.size:Int) - 1):=⟨_,Heap.get?_push_size _ rfl,rfl,rfl⟩
 refine wpAny_pyIter_revIter (s:={ s1 with heap:=s1.heap.push (revObj a ((its.toArray.size:Int) - 1)) }) hit ?_
 refine ⟨s1.heap.objs.size,[s1.heap.objs.size],_,_,H1,rfl,I1.kept (t':=s1.toks) fun b o e=>Heap.get?_push_of_some _ e,Vj a _ xs,?_,fun b hb=>?_,q⟩
 ·have hl:=rv.length
  have e2:((its.toArray.size:Nat):Int) - 1=(xs.length:Int) - 1 - ((0:Nat):Int):=by
   rw [cy]
   omega
  show (s1.heap.push (revObj a ((its.toArray.size:Int) - 1))).IsRevIter s1.heap.objs.size a ((xs.length:Int) - 1 - ((0:Nat):Int))
  rw [← e2]
  exact hit
 ·have e:b=s1.heap.objs.size:=by simpa using hb
  subst e
  exact I1.La (aE _) (I1.hok.fresh (aE _))
theorem Xb {K:PySem.W.Frag} {a:Addr} {xs:List V} {g:TG} {tb:TS} {D:Ends} {σ:St} {H:Hp} (Pv:Nat->St->Hp->Prop) (h0:Pv 0 σ H) (hl:∀ i σ H,i<=xs.length->Pv i σ H->Cz K H a xs)
  (hs:∀ i x σ H,i<xs.length->xs[xs.length - 1 - i]? = some x->Pv i σ H->g x σ H fun σ2 H2=>tb { D with nx:=Pv (i+1),ct:=Pv (i+1),bk:=D.nx } σ2 H2) (hd:∀ σ H,Pv xs.length σ H->D.nx σ H) :
  ∃ W:Nat->Nat->St->Hp->Prop,(∃ m,W 0 m σ H)/\∀ i m σ H,W i m σ H ->
   ((jH K a xs).stop i H/\D.nx σ H) \/ ((jH K a xs).go i H/\∃ N:St->Hp->Prop,(∀ σ' H',N σ' H'->∃ m',m'<m/\W (i+1) m' σ' H')/\∀ x H',(jH K a xs).yld i H x H'->g x σ H' fun σ2 H2=>tb { D with nx:=N,ct:=N,bk:=D.nx } σ2 H2):=by
 refine ⟨fun i m σ H=>m=xs.length - i/\i<=xs.length/\Pv i σ H,⟨xs.length,by simp,Nat.zero_le _,h0⟩,?_⟩
 rintro i m σ H ⟨rfl,hi,p⟩
 have q:=hl i σ H hi p
 by_cases hlt:i<xs.length
 ·refine .inr ⟨⟨q,hlt⟩,Pv (i+1),fun σ' H' p'=>⟨xs.length - (i+1),by omega,rfl,by omega,p'⟩,?_⟩
  rintro x H' ⟨rfl,hx⟩
  exact hs i x σ H' hlt hx p
 ·have e:i=xs.length:=by omega
  subst e
  exact .inl ⟨⟨q,rfl⟩,hd σ H p⟩
end
end L2
namespace L2
open PySem PySem.Spec PyProof.Rows
structure W4 (K:PySem.W.Frag) (x qual:Str) (st:Stmt) (f:Addr) (fd:FuncData):Prop where
 ex:∃ (oc:Value) (od:Option Addr) (dV kV doc pm:Value) (an:Option Addr) (cdv ct:Value) (osl:Array (Option Value)),
  fd=PySem.W.fnOf x qual (DN st) (Cm st) (Af st) dV kV doc pm an cdv ct/\K.lookup f=some ⟨oc,od,.func fd,osl⟩/\PySem.W.codeIn K cdv qual=true
 kp:PySem.W.keepIn K (.ref f)=true
section
variable {P:Program} {w:World} {K:PySem.W.Frag} {mg:Str->Option Value} {base:Heap}
theorem W4.ok {x qual:Str} {st:Stmt} {f:Addr} {fd:FuncData} {N ps:List Str} {k:Nat} {sp:Sp} (F:W4 K x qual st f fd) (S:Aw N ps (Af st)) (len:∀ vs H Q E,sp vs H Q E->vs.length=ps.length)
  (hbody:∀ (cdv:Value) (A:Around) (outer:List Env) (s:Shared) (H:Hp) (vs:List V) (Q:VK) (E:XK),BL k (A.deeper (envOfC qual (Af st) s.heap.objs.size f cdv))->sp vs H Q E ->
   ∃ t,PN (Pr Bg P w K mg base N qual (Af st) f cdv A outer s H E).aX (Cm st) t/\t { nx:=fun _ H'=>Q .non H',rt:=Q } (start N vs) H):Av P w K mg base Bg (k+1) f fd ps sp:=by
 refine byC fun w_=>?_;obtain ⟨oc,od,dV,kV,doc,pm,an,cdv,ct,osl,rfl,lk,hcd⟩:=F.ex;refine w_ ?_
 refine YL lk hcd S len fun A outer s H vs Q E hr hsp=>?_
 obtain ⟨t,h,q⟩:=hbody cdv A outer s H vs Q E hr hsp
 exact ⟨t,h.aX,q⟩
theorem Xd {x qual:Str} {st:Stmt} {f:Addr} {oc:Value} {od an:Option Addr} {osl:Array (Option Value)} {dV kV doc pm cdv ct:Value} (l:K.lookup f=some ⟨oc,od,.func (PySem.W.fnOf x qual (DN st) (Cm st) (Af st) dV kV doc pm an cdv ct),osl⟩)
  (c:PySem.W.codeIn K cdv qual=true) (k:PySem.W.keepIn K (.ref f)=true):W4 K x qual st f (PySem.W.fnOf x qual (DN st) (Cm st) (Af st) dV kV doc pm an cdv ct):=⟨⟨oc,od,dV,kV,doc,pm,an,cdv,ct,osl,rfl,l,c⟩,k⟩
theorem aJ {fd:FuncData} {ps:List Str} {t:Addr} {ot:Value} {odt:Option Addr} {items:Array Value} {n:Nat} {slt:Array (Option Value)} (lt:K.lookup t=some ⟨ot,odt,.seq items n,slt⟩) (hd:fd.defaults=.ref t)
  (h:∀ us:List Value,us.length=ps.length->∃ k,bindArgs fd ⟨us,[]⟩=seqItems? fd.defaults >>= k/\k (some items)=pure (ps.zip us)):Binds K fd ps []:=fun s us hK hl=>by
 rw [ff] at hl ⊢
 obtain ⟨k,h1,h2⟩:=h us hl
 exact BindsTo.of_defaults hd (hK _ _ lt) rfl h1 h2
end
end L2
namespace L2
open PySem PySem.Spec PyProof.Rows
section
variable {K:PySem.W.Frag}
end
end L2
namespace L2
open PySem PySem.Spec PySem.Calls PyProof.Rows
section
variable {X:Cx}
theorem range_any (bs:List Bool):((List.range bs.length).any fun i=>(bs[i]?).getD false)=bs.any id:=by
 rw [fw,gy,gy]
 constructor
 ·rintro ⟨i,hi,e⟩
  have hi':=fE.mp hi
  rw [ae hi'] at e
  exact ⟨_,ee hi',e⟩
 ·rintro ⟨b,hb,e⟩
  obtain ⟨i,hi,q⟩:=List.mem_iff_getElem.mp hb
  refine ⟨i,fE.mpr hi,?_⟩
  rw [ae hi,q]
  exact e
theorem K5 (hc:X.calm=true):GR X (.builtin "any") (fun xs H Q=>∃ (p:Addr) (bs:List Bool),xs=[V.ref p]/\Cz X.K H p (bs.map V.bl)/\Q (.bl (bs.any id)) H):=by
 intro pins s σ H xs us Q I r h
 obtain ⟨p,bs,rfl,hp,q⟩:=h
 obtain ⟨u,rfl,ru⟩:=vals1 r
 cases ru
 obtain ⟨its,rv,pl,hz⟩:=I.list hp
 have hlen:bs.length=its.length:=by have:=rv.length; rw [ai] at this; exact this
 have hlt:p<s.heap.objs.size:=by obtain ⟨_,e,_⟩:=pl.isList; exact Heap.lt_size e
 refine call_any_walk (wpAny_pyIter_list pl.isList ?_)
 refine ⟨s.heap.objs.size,[s.heap.objs.size,p],[s.heap.objs.size],its.toArray.size,_,_,fun i=>(bs[i]?).getD false,rfl,Walks.list (A:=X.A.in1) (I.ok.hd hc) _ p (cK hlt) its.toArray,
  ⟨⟨_,Heap.get?_push_size _ rfl,rfl,rfl⟩,pl.isList.push _⟩,fun i v s' Q' E' hP hQ=>?_,fun h' tk hk=>?_⟩
 ·have hP':its[i]? = some v:=by simpa using hP
  have hi:i<its.length:=(ah.mp hP').1
  have hb:bs[i]? = some bs[i]:=by simp [hlen,hi]
  obtain ⟨u,hu,ru⟩:=rv.get (i:=i) (x:=.bl bs[i]) (by rw [ar,hb]; rfl)
  rw [hP'] at hu
  cases hu
  cases ru
  dsimp only at hQ
  rw [hb] at hQ
  exact wpAny_truthy_bool hQ
 ·have e:((List.range its.toArray.size).any fun i=>(bs[i]?).getD false)=bs.any id:=by rw [cy,← hlen]; exact range_any bs
  rw [e]
  refine ⟨.bl (bs.any id),H,I.kept (t':=tk) fun b o eb=>hk b o (fun hm=>?_) (Heap.get?_push_of_some _ eb),rfl,q⟩
  rw [aS.mp hm] at eb
  exact fq _ (Heap.lt_size eb)
theorem Hj (ns:List Int):∀ j,j<=ns.length->preSum (fun i=>(ns[i]?).getD 0) j=(ns.take j).sum
 | 0,_=>rfl
 | j+1,h=>by
  have ih:=Hj ns j (by omega)
  show preSum _ j+(ns[j]?).getD 0=_
  rw [ih,dl,ae (by omega),fo]
  simp
theorem V3 (M:Int):∀ ns:List Int,(∀ n∈ns,0<=n/\n<=M)->0<=ns.sum/\ns.sum<=ns.length * M
 | [],_=>by simp
 | n::r,h=>by
  have h1:=h n (cS ..)
  have h2:=V3 M r fun x hx=>h x (df _ hx)
  have e:((n::r).length:Int) * M=r.length * M+M:=by rw [bv]; push_cast; rw [Int.add_mul,io]
  rw [e,hU]
  omega
theorem Vd (hc:X.calm=true):GR X (.builtin "sum") (fun xs H Q=>∃ (p:Addr) (ns:List Int),xs=[V.ref p]/\Cz X.K H p (ns.map V.int)/\(∀ n∈ns,0<=n/\n<=100000)/\ns.length<=1000/\Q (.int ns.sum) H):=by
 intro pins s σ H xs us Q I r h
 obtain ⟨p,ns,rfl,hp,hb,hl,q⟩:=h
 obtain ⟨u,rfl,ru⟩:=vals1 r
 cases ru
 obtain ⟨its,rv,pl,hz⟩:=I.list hp
 have hlen:ns.length=its.length:=by have:=rv.length; rw [ai] at this; exact this
 have hlt:p<s.heap.objs.size:=by obtain ⟨_,e,_⟩:=pl.isList; exact Heap.lt_size e
 refine call_sum_walk (wpAny_pyIter_list pl.isList ?_)
 refine ⟨s.heap.objs.size,[s.heap.objs.size,p],[s.heap.objs.size],its.toArray.size,_,_,fun i=>(ns[i]?).getD 0,rfl,Walks.list (A:=X.A.in1) (I.ok.hd hc) _ p (cK hlt) its.toArray,
  ⟨⟨_,Heap.get?_push_size _ rfl,rfl,rfl⟩,pl.isList.push _⟩,fun b hb=>?_,fun i v hP=>?_,fun j hj=>?_,fun h' tk t' hk=>?_⟩
 ·rw [Heap.size_push]
  rcases eh.mp hb with rfl | hb
  ·exact eT _
  ·rw [aS.mp hb]
   exact hG hlt
 ·have hP':its[i]? = some v:=by simpa using hP
  have hi:i<its.length:=(ah.mp hP').1
  have hb:ns[i]? = some ns[i]:=by simp [hlen,hi]
  obtain ⟨u,hu,ru⟩:=rv.get (i:=i) (x:=.int ns[i]) (by rw [ar,hb]; rfl)
  rw [hP'] at hu
  cases hu
  obtain ⟨t,rfl⟩:=ru
  exact ⟨t,by dsimp only; rw [hb]; rfl⟩
 ·have hj':j<ns.length:=by rw [hlen]; simpa using hj
  rw [Hj ns (j+1) (by omega)]
  have h1:=hb ns[j] (ee hj')
  have h2:=V3 100000 (ns.take (j+1)) fun n hn=>hb n (hZ hn)
  have h3:(ns.take (j+1)).length<=1000:=by rw [dS]; omega
  unfold InLong
  dsimp only
  rw [ae hj']
  rw [Option.getD_some]
  refine ⟨⟨?_,?_⟩,⟨?_,?_⟩⟩ <;> omega
 ·have e:preSum (fun i=>(ns[i]?).getD 0) its.toArray.size=ns.sum:=by rw [cy,← hlen,Hj ns _ (aE _),fg]
  rw [e]
  refine ⟨.int ns.sum,H,I.kept (t':=tk) fun b o eb=>hk b o (fun hm=>?_) (Heap.get?_push_of_some _ eb),⟨_,rfl⟩,q⟩
  rw [aS.mp hm] at eb
  exact fq _ (Heap.lt_size eb)
structure KDict (K:PySem.W.Frag) (P:Params) (a:Addr):Prop where
 is:∃ es n,K.lookup a=some ⟨.type "dict",none,.dict es n,#[]⟩/\PySem.W.KeysLit P es.toList
 lo:(a == sysModules)=false
noncomputable def dJ (K:PySem.W.Frag) (P:Params) (td ty:TE):TE:=fun σ H Q=>td σ H fun x H1=>ty σ H1 fun y H2=>∃ a z v u,x=.ref a/\y=.str z/\KDict K P a/\PySem.W.nsIn K a z=some (some u)/\RelV v u/\Q v H2
noncomputable def fQ (K:PySem.W.Frag) (P:Params) (neg:Bool) (ty td:TE):TE:=fun σ H Q=>ty σ H fun y H1=>td σ H1 fun x H2=>∃ a z r,x=.ref a/\y=.str z/\KDict K P a/\PySem.W.nsIn K a z=some r/\Q (.bl (if neg then !r.isSome else r.isSome)) H2
variable {o i:Expr} {pos:Pos} {td ty:TE}
theorem Nr (ho:PE X o td) (hi:PE X i ty) (hs:Yg i):PE X (.Subscript o i pos) (dJ X.K X.w.params td ty):=by
 intro pins s σ H Q I h
 refine RN iE hs (CK (ho pins s σ H _ I h) fun u s1 ⟨x,H1,I1,rx,q1⟩=>CK (hi pins s1 σ H1 _ I1 q1) fun iv s2 hq0=>?_)
 obtain ⟨y,H2,I2,ry,a,z,v,w,ex,ey,kd,hw,rw',q2⟩:=hq0
 subst ex ey
 cases rx
 obtain ⟨t,rfl⟩:=ry
 obtain ⟨⟨es,n,hl,hk⟩,lo⟩:=kd
 have hm:=PySem.W.mapOf_K (prog:=X.prog) I2.Jc hl hk
 exact ⟨hm.typeIs,wpAny_getItem_of (strKind_is X.prog X.w z t) hm (PySem.W.find_K hl hw) ⟨v,H2,I2.tok _,rw',q2⟩⟩
theorem Vp (hi:PE X i ty) (ho:PE X o td):PC X .In i o (fQ X.K X.w.params false ty td):=by
 intro pins s σ H Q I h
 refine CK (hi pins s σ H _ I h) fun iv s1 ⟨y,H1,I1,ry,q1⟩=>CK (ho pins s1 σ H1 _ I1 q1) fun u s2 hq0=>?_
 obtain ⟨x,H2,I2,rx,a,z,r,ex,ey,kd,hw,q2⟩:=hq0
 subst ex ey
 cases rx
 obtain ⟨t,rfl⟩:=ry
 obtain ⟨⟨es,n,hl,hk⟩,lo⟩:=kd
 refine wpAny_in_of (strKind_is X.prog X.w z t) lo (PySem.W.mapOf_K (prog:=X.prog) I2.Jc hl hk) ?_
 rw [PySem.W.find_K hl hw]
 exact ⟨.bl r.isSome,H2,I2.tok _,rfl,q2⟩
theorem TY (hi:PE X i ty) (ho:PE X o td):PC X .NotIn i o (fQ X.K X.w.params true ty td):=by
 intro pins s σ H Q I h
 refine CK (hi pins s σ H _ I h) fun iv s1 ⟨y,H1,I1,ry,q1⟩=>CK (ho pins s1 σ H1 _ I1 q1) fun u s2 hq0=>?_
 obtain ⟨x,H2,I2,rx,a,z,r,ex,ey,kd,hw,q2⟩:=hq0
 subst ex ey
 cases rx
 obtain ⟨t,rfl⟩:=ry
 obtain ⟨⟨es,n,hl,hk⟩,lo⟩:=kd
 refine wpAny_notIn_of (strKind_is X.prog X.w z t) lo (PySem.W.mapOf_K (prog:=X.prog) I2.Jc hl hk) ?_
 rw [PySem.W.find_K hl hw]
 exact ⟨.bl (!r.isSome),H2,I2.tok _,rfl,q2⟩
end
section
variable {X:Cx} {e st:Expr} {lo hi:Option Expr} {te ts:TE} {tl th:TO} {p2 pos:Pos}
end
end L2
namespace Og
open PySem L2
theorem Aq {X:Cx} {K:PySem.W.Frag} (h:X.K=K):Ys X (eV K):=h ▸ Fo
theorem Bv {X:Cx} {K:PySem.W.Frag} (h:X.K=K):Ys X (ZP K):=h ▸ Bj
theorem Kh {X:Cx} {K:PySem.W.Frag} (h:X.K=K):Gv X (compareOp .In) (jO K false):=h ▸ Jk
theorem Va {X:Cx} {e:Expr}:PE X e (fun _ _ _=>False):=fun _ _ _ _ _ _ h=>h.elim
set_option genInjectivity false in
structure R where
 w:Str
 nm:Str
 rest:List V
noncomputable abbrev R.v (r:R):List V:=.str r.w :: .str r.nm::r.rest
noncomputable def isNm (z:Str):Prop:=1<=z.length/\z.length<=8/\∀ c∈z.cps.toList,97<=c/\c<=122
noncomputable def Rows (H:Hp) (ρ:V->R) (vs:List V):Prop:=∀ v∈vs,TupAt H (ρ v).v v
theorem Rows.mono {H H':Hp} {ρ:V->R} {vs:List V} (s:Ao H H') (h:Rows H ρ vs):Rows H' ρ vs:=fun v hv=>(h v hv).mono s
theorem Rows.sub {H:Hp} {ρ:V->R} {vs us:List V} (h:Rows H ρ vs) (hs:∀ v∈us,v∈vs):Rows H ρ us:=fun v hv=>h v (hs v hv)
noncomputable abbrev pw (ρ:V->R) (w:Str) (v:V):Bool:=decide (V.str (ρ v).w=V.str w)
noncomputable abbrev pn (ρ:V->R) (t:Str) (v:V):Bool:=decide (V.str (ρ v).nm=V.str t)
noncomputable def Yd (ρ:V->R) (vs:List V) (w t:Str):Bool:=(vs.filter (pw ρ w)).any (pn ρ t)
noncomputable def KTup (K:PySem.W.Frag) (a:Addr) (xs:List V):Prop:=∃ (o:Obj) (its:Array Value) (n:Nat),K.lookup a=some o/\o.cls=.type "tuple" /\ o.data=.seq its n/\its.size<=sizeLine/\Vals xs its.toList
theorem KTup.sq {K:PySem.W.Frag} {a:Addr} {xs:List V} (h:KTup K a xs) (H:Hp):JF K H a xs:=.inr h
noncomputable abbrev named:List Str:=["board","rank","stop","coupler","mute"]
noncomputable def Ik (K:PySem.W.Frag) (aB:Addr) (ρ:V->R) (vs:List V) (x:V) (part:Str):Prop :=
 (∃ (i lo hi:Int) (b:Addr),x=.int i/\PySem.W.nsIn K aB part=some (some (.ref b))/\KTup K b [.int lo,.int hi]/\lo<=i/\i<=hi) \/
 (PySem.W.nsIn K aB part=some none/\part = "new" /\ ∃ t,x=.str t/\isNm t/\∀ w∈named,Yd ρ vs w t=false) \/
 (PySem.W.nsIn K aB part=some none/\¬ part = "new" /\ ∃ t,x=.str t/\isNm t/\Yd ρ vs part t=true)
structure Lh (K:PySem.W.Frag) (aB aP aM:Addr) (ρ:V->R) (vs:List V) (r:R):Prop where
 ns:¬ r.w = "step"
 nl:¬ r.w = "line"
 parts:∃ (ap:Addr) (ps:List Str),PySem.W.nsIn K aP r.w=some (some (.ref ap))/\KTup K ap (ps.map V.str)/\(V.str r.nm::r.rest).length=ps.length/\ps.length<=10 /\
  ∀ (i:Nat) x y,(V.str r.nm::r.rest)[i]? = some x->ps[i]? = some y->Ik K aB ρ vs x y
 room:∃ (m:Int) (t:Tok),PySem.W.nsIn K aM r.w=some (some (.int m t))/\(((vs.filter (pw ρ r.w)).length:Nat):Int)<m
noncomputable def letters:Str:="abcdefghijklmnopqrstuvwxyz"
noncomputable abbrev bc (y:Str) (c:Nat):Bool:=!(Builtin.Str.occurrences y ⟨#[c]⟩ 0 y.length 1).isEmpty
theorem W8:∀ c<128,bc letters c=decide (97<=c/\c<=122):=by decide +kernel
theorem A_ {H:Hp} {p:Addr} {o:HO} (h:H p=none):Ao H (upd H p o):=fun b u e=>by rw [Ar (Ak e h)]; exact e
theorem Ft {H:Hp} {p:Addr} {o:HO} (h:H p=none):∃ H',upd H p o=H'/\Ao H H'/\H' p=some o:=⟨_,rfl,A_ h,Ah⟩
theorem Fl {n:Nat} (h:n<=1000):n<=sizeLine:=ga (BJ h)
theorem ty_int {K:PySem.W.Frag}:PySem.W.kitOne K (.type "int") (.type "int")=some true:=by kernel_rfl
theorem Xq {K:PySem.W.Frag}:PySem.W.kitOne K (.type "int") (.type "bool")=some false:=by kernel_rfl
theorem X8 {K:PySem.W.Frag}:PySem.W.kitOne K (.type "list") (.type "list")=some true:=by kernel_rfl
theorem Xw {K:PySem.W.Frag}:PySem.W.kitOne K (.type "tuple") (.type "tuple")=some true:=by kernel_rfl
theorem Xl {K:PySem.W.Frag}:PySem.W.kitOne K (.type "str") (.type "str")=some true:=by kernel_rfl
theorem Ja (vs:List V) (n:Nat) (h:n<=vs.length):Fi vs none (some (n:Int))=vs.take n:=by
 unfold Fi
 have e1:HT.Ek vs.length 0 none=0:=rfl
 have e2:HT.Ek vs.length vs.length (some (n:Int))=n:=by
  rw [HT.KC]
  omega
 rw [e1,e2]
 simp
theorem Ih {α:Type} (p:α->Bool) (l:List α):(l.filter p).length<=l.length:=dt _ _
noncomputable abbrev bV (b:Str × Nat):List V:=[.str b.1,.int (b.2:Nat)]
noncomputable abbrev GP (b:Str × Nat):R:=⟨"board",b.1,[.int (b.2:Nat)]⟩
noncomputable abbrev qV (q:Nat × Nat):List V:=[.int (q.1:Nat),.int (q.2:Nat)]
noncomputable def Ez (bs:List (Str × Nat)):List (Nat × Nat):=bs.zipIdx.flatMap fun p=>(List.range p.1.2).map fun e=>(p.2,e)
theorem Vh (bs:List (Str × Nat)) (b:Str × Nat):Ez (bs++[b])=Ez bs++(List.range b.2).map fun e=>(bs.length,e):=by
 unfold Ez
 rw [ip]
 simp
theorem Ho {bs:List (Str × Nat)} {i:Nat} {b:Str × Nat} (h:bs[i]? = some b):Ez (bs.take (i+1))=Ez (bs.take i)++(List.range b.2).map fun e=>(i,e):=by
 have hi:i<bs.length:=(ah.mp h).1
 rw [dl,h]
 show Ez (bs.take i++[b])=_
 rw [Vh,dS,Nat.min_eq_left (by omega)]
theorem NB (bs:List (Str × Nat)) (M:Nat):(∀ b∈bs,b.2<=M)->(Ez bs).length<=bs.length * M:=by
 intro h
 have key:∀ i,i<=bs.length->(Ez (bs.take i)).length<=i * M:=by
  intro i
  induction i with
  | zero=>intro _; simp [Ez]
  | succ i ih =>
   intro hi
   have hlt:i<bs.length:=by omega
   rw [Ho (ae hlt),av,ai,fA]
   have h1:=ih (by omega)
   have h2:=h bs[i] (ee hlt)
   have:(i+1) * M=i * M+M:=by rw [Nat.add_mul,Nat.one_mul]
   omega
 have:=key bs.length (aE _)
 rw [fg] at this
 exact this
theorem Cg {α β:Type} {F:α->β->Prop} {l:List α} {vs:List β} (h:Paired F l vs):∀ {v},v∈vs->∃ a∈l,F a v:=by
 induction h with
 | nil=>intro v hv; cases hv
 | cons a b ih =>
  intro v hv
  rcases eh.mp hv with rfl | hv
  ·exact ⟨_,cS ..,a⟩
  ·obtain ⟨x,hx,q⟩:=ih hv
   exact ⟨x,df _ hx,q⟩
theorem CQ {α β:Type} {F:α->β->Prop} {l:List α} {vs:List β} (h:Paired F l vs):∀ {i:Nat} {a},l[i]? = some a->∃ v,vs[i]? = some v/\F a v:=by
 induction h with
 | nil=>intro i a ha; simp at ha
 | cons x y ih =>
  intro i a ha
  cases i with
  | zero =>
   simp at ha
   subst ha
   exact ⟨_,rfl,x⟩
  | succ i=>exact ih (by simpa using ha)
theorem D_ {α β:Type} {F:α->β->Prop} {l:List α} {vs:List β} (h:Paired F l vs):∀ {i:Nat} {v},vs[i]? = some v->∃ a,l[i]? = some a/\F a v:=by
 induction h with
 | nil=>intro i a ha; simp at ha
 | cons x y ih =>
  intro i a ha
  cases i with
  | zero =>
   simp at ha
   subst ha
   exact ⟨_,rfl,x⟩
  | succ i=>exact ih (by simpa using ha)
theorem Hk {α β:Type} {F:α->β->Prop} {l:List α} {vs:List β} (h:Paired F l vs):∀ n:Nat,Paired F (l.take n) (vs.take n):=by
 induction h with
 | nil=>intro n; simp; exact .nil
 | cons x y ih =>
  intro n
  cases n with
  | zero=>exact .nil
  | succ n=>exact .cons x (ih n)
theorem CT {α β:Type} {F:α->β->Prop} {l l':List α} {vs vs':List β} (h:Paired F l vs) (h':Paired F l' vs'):Paired F (l++l') (vs++vs'):=by
 induction h with
 | nil=>exact h'
 | cons x y ih=>exact .cons x ih
theorem Cq {α β γ:Type} {F:γ->β->Prop} (g:α->γ) {l:List α} {vs:List β} (h:Paired (fun a v=>F (g a) v) l vs):Paired F (l.map g) vs:=by
 induction h with
 | nil=>exact .nil
 | cons x y ih=>exact .cons x ih
theorem Ge {α β γ:Type} {F:γ->β->Prop} (g:α->γ):∀ {l:List α} {vs:List β},Paired F (l.map g) vs->Paired (fun a v=>F (g a) v) l vs
 | [],_,h=>by cases h; exact .nil
 | a::l,_,h=>by
  cases h with
  | cons x y=>exact .cons x (Ge g y)
noncomputable def TX (H:Hp) (k:Nat):V->V
 | .ref T=>match H T with
  | some (.tup xs)=>xs.getD k .non
  | _=>.non
 | _=>.non
theorem JL {H:Hp} {zs:List V} {v:V} (h:TupAt H zs v) (k:Nat):TX H k v=zs.getD k .non:=by
 obtain ⟨T,rfl,e⟩:=h
 show (match H T with | some (.tup xs)=>xs.getD k V.non | _=>V.non)=_
 rw [e]
theorem J_ {α:Type} {H:Hp} {g:α->List V} (k:Nat) {l:List α} {vs:List V} (h:Paired (fun a v=>TupAt H (g a) v) l vs):vs.map (TX H k)=l.map fun a=>(g a).getD k .non:=by
 induction h with
 | nil=>rfl
 | cons x y ih=>rw [dv,dv,ih,JL x]
noncomputable def SX (x:Addr) (H H':Hp):Prop:=∀ b o,H b=some o->b ≠ x->H' b=some o
theorem SX.trans {x:Addr} {H H1 H2:Hp} (a:SX x H H1) (b:SX x H1 H2):SX x H H2:=fun c o h n=>b c o (a c o h n) n
theorem SX.of {x:Addr} {H H':Hp} (s:Ao H H'):SX x H H':=fun b o h _=>s b o h
theorem SX.up {x:Addr} {H:Hp} {o:HO}:SX x H (upd H x o):=fun b u h n=>by rw [Ar n]; exact h
theorem SX.tup {x:Addr} {H H':Hp} {zs:List V} {y:V} {C dx:Addr} {fs:List (Str × V)} (s:SX x H H') (hx:H x=some (.ins C dx fs)) (h:TupAt H zs y):TupAt H' zs y:=by
 obtain ⟨T,e,q⟩:=h
 exact ⟨T,e,s _ _ q fun z=>by rw [z,hx] at q; cases q⟩
theorem SX.pair {α:Type} {x:Addr} {H H':Hp} {f:α->List V} {l:List α} {vs:List V} {C dx:Addr} {fs:List (Str × V)} (s:SX x H H') (hx:H x=some (.ins C dx fs)) (h:Paired (fun a y=>TupAt H (f a) y) l vs):Paired (fun a y=>TupAt H' (f a) y) l vs:=Paired.Fj h fun _ _ q=>s.tup hx q
theorem SX.lst {x a:Addr} {H H':Hp} {xs:List V} {C dx:Addr} {fs:List (Str × V)} (s:SX x H H') (hx:H x=some (.ins C dx fs)) (h:H a=some (.lst xs)):H' a=some (.lst xs):=s _ _ h fun z=>by rw [z,hx] at h; cases h
theorem SX.dk {x a:Addr} {H H':Hp} {kvs:List (Key × V)} {C dx:Addr} {fs:List (Str × V)} (s:SX x H H') (hx:H x=some (.ins C dx fs)) (h:H a=some (.dK kvs)):H' a=some (.dK kvs):=s _ _ h fun z=>by rw [z,hx] at h; cases h
noncomputable abbrev meths:List Str:=["ranks","pipe_count","pipe","rank_of","board_of_knob","boards","key_count","key","board_of","coupler","knobs","knob_number","board_number","stop","mute","steps","rows"]
structure Dd (C:Addr) (H:Hp) (x:Addr) (bs:List (Str × Nat)) (ks:List R):Prop where
 ob:∃ (dx:Addr) (fs:List (Str × V)) (bl bn kp kr:Addr) (bvs pvs uvs:List V) (kvs:List (Key × V)),H x=some (.ins C dx fs)/\fs.lookup ("board_list" : Str)=some (.ref bl)/\fs.lookup ("board_numbers" : Str)=some (.ref bn)/\fs.lookup ("key_places" : Str)=some (.ref kp)/\fs.lookup ("knob_rows" : Str)=some (.ref kr) /\
  (∀ m∈meths,fs.lookup m=none)/\H bl=some (.lst bvs)/\Paired (fun b y=>TupAt H (bV b) y) bs bvs/\H bn=some (.dK kvs)/\(∀ (i:Nat) b,bs[i]? = some b->Cd kvs (Sum.inr b.1)=some (.int (i:Nat))) /\
  H kp=some (.lst pvs)/\Paired (fun q y=>TupAt H (qV q) y) (Ez bs) pvs/\H kr=some (.lst uvs)/\Paired (fun (r:R) y=>TupAt H r.v y) ks uvs
 nb:bs.length<=5
 sz:∀ b∈bs,b.2<=61
 nk:ks.length<=200
theorem Dd.mono {C:Addr} {H H':Hp} {x:Addr} {bs:List (Str × Nat)} {ks:List R} (s:Ao H H') (h:Dd C H x bs ks):Dd C H' x bs ks:=by
 refine byC fun w_=>?_;obtain ⟨⟨dx,fs,bl,bn,kp,kr,bvs,pvs,uvs,kvs,h1,l1,l2,l3,l4,lm,h2,h3,h4,h5,h6,h7,h8,h9⟩,a,b,c⟩:=h;refine w_ ?_
 exact ⟨⟨dx,fs,bl,bn,kp,kr,bvs,pvs,uvs,kvs,s _ _ h1,l1,l2,l3,l4,lm,s _ _ h2,Al s h3,s _ _ h4,h5,s _ _ h6,Al s h7,s _ _ h8,Al s h9⟩,a,b,c⟩
end Og
namespace Og
open PySem L2 PyProof.Rows
set_option genInjectivity false in
inductive Kb where
 | cp (i j:Nat) (s:Int)
 | pl (w:Str) (i:Nat)
noncomputable def Kb.w:Kb->Str
 | .cp _ _ _=>"coupler"
 | .pl w _=>w
noncomputable def Kb.v:Kb->List V
 | .cp i j s=>[.str "coupler",.int (i:Nat),.int (j:Nat),.int s]
 | .pl w i=>[.str w,.int (i:Nat)]
noncomputable def Kb.ok (n:Nat):Kb->Prop
 | .cp i j s=>i<n/\j<n /\ -60<=s/\s<=60
 | .pl w i=>i<n/\(w = "mute" \/ w = "stop")
noncomputable def G_ (w:Str):Nat:=if w = "coupler" then 12 else if w = "mute" then 5 else 24
noncomputable abbrev Q8 (w:Str) (z:Kb):Bool:=decide (V.str z.w=V.str w)
structure Nz (n:Nat) (kbs:List Kb):Prop where
 ok:∀ k∈kbs,k.ok n
 room:∀ (i:Nat) k,kbs[i]? = some k->((kbs.take i).filter (Q8 k.w)).length<G_ k.w
 len:kbs.length<=70
noncomputable def Ru (c:Nat->Str) (k:Nat):Kb->R
 | .cp i j s=>⟨"coupler",c (30+k),[.str (c i),.str (c j),.int s]⟩
 | .pl w i=>⟨w,c (30+k),[.str (c i)]⟩
theorem Gf (c:Nat->Str) (k:Nat) (z:Kb):(Ru c k z).w=z.w:=by cases z <;> rfl
noncomputable def Bb (c:Nat->Str) (sz:List Nat):List (Str × Nat):=sz.zipIdx.map fun p=>(c p.2,p.1)
noncomputable def CJ (c:Nat->Str) (kbs:List Kb):List R:=kbs.zipIdx.map fun p=>Ru c p.2 p.1
theorem DR {c:Nat->Str} {sz:List Nat} {i z:Nat} (h:sz[i]? = some z):(Bb c sz)[i]? = some (c i,z):=by
 unfold Bb
 rw [ar,dn,h]
 simp
theorem TJ {c:Nat->Str} {sz:List Nat} {i:Nat} {b:Str × Nat} (h:(Bb c sz)[i]? = some b):∃ z,sz[i]? = some z/\b=(c i,z):=by
 have hi:i<(Bb c sz).length:=(ah.mp h).1
 have hi':i<sz.length:=by simpa [Bb] using hi
 refine ⟨sz[i],ae hi',?_⟩
 rw [DR (ae hi')] at h
 exact (Option.some.inj h).symm
theorem Bm (c:Nat->Str) (sz:List Nat):(Bb c sz).map (·.2)=sz:=by
 unfold Bb
 rw [bo]
 refine gc fun i=>?_
 rw [ar,dn]
 cases sz[i]? <;> simp
theorem Do {c:Nat->Str} {kbs:List Kb} {i:Nat} {z:Kb} (h:kbs[i]? = some z):(CJ c kbs)[i]? = some (Ru c i z):=by
 unfold CJ
 rw [ar,dn,h]
 simp
theorem FQ {c:Nat->Str} {kbs:List Kb} {i:Nat} {r:R} (h:(CJ c kbs)[i]? = some r):∃ z,kbs[i]? = some z/\r=Ru c i z:=by
 have hi:i<(CJ c kbs).length:=(ah.mp h).1
 have hi':i<kbs.length:=by simpa [CJ] using hi
 refine ⟨kbs[i],ae hi',?_⟩
 rw [Do (ae hi')] at h
 exact (Option.some.inj h).symm
theorem K9 (c:Nat->Str) (kbs:List Kb):(CJ c kbs).length=kbs.length:=by simp [CJ]
structure KF (K:PySem.W.Frag) (aB aP aM:Addr):Prop where
 pB:∃ a,PySem.W.nsIn K aP "board" = some (some (.ref a))/\KTup K a (["new","keys"].map fun s:String=>V.str s)
 pS:∃ a,PySem.W.nsIn K aP "stop" = some (some (.ref a))/\KTup K a (["new","board"].map fun s:String=>V.str s)
 pM:∃ a,PySem.W.nsIn K aP "mute" = some (some (.ref a))/\KTup K a (["new","board"].map fun s:String=>V.str s)
 pC:∃ a,PySem.W.nsIn K aP "coupler" = some (some (.ref a))/\KTup K a (["new","board","board","leap"].map fun s:String=>V.str s)
 bK:∃ a,PySem.W.nsIn K aB "keys" = some (some (.ref a))/\KTup K a [.int 1,.int 61]
 bL:∃ a,PySem.W.nsIn K aB "leap" = some (some (.ref a))/\KTup K a [.int (-60),.int 60]
 bN:PySem.W.nsIn K aB "new" = some none
 bB:PySem.W.nsIn K aB "board" = some none
 mB:∃ t,PySem.W.nsIn K aM "board" = some (some (.int 5 t))
 mS:∃ t,PySem.W.nsIn K aM "stop" = some (some (.int 24 t))
 mC:∃ t,PySem.W.nsIn K aM "coupler" = some (some (.int 12 t))
 mM:∃ t,PySem.W.nsIn K aM "mute" = some (some (.int 5 t))
noncomputable def Tf (H:Hp):V->R
 | .ref T=>match H T with
  | some (.tup (.str w :: .str n::r))=>⟨w,n,r⟩
  | _=>⟨"","",[]⟩
 | _=>⟨"","",[]⟩
theorem Qj {H:Hp} {r:R} {v:V} (h:TupAt H r.v v):Tf H v=r:=by
 obtain ⟨T,rfl,e⟩:=h
 show (match H T with | some (.tup (.str w :: .str n::r))=>(⟨w,n,r⟩:R) | _=>⟨"","",[]⟩)=r
 rw [e]
theorem Rc {H:Hp} {rs:List R} {vs:List V} (h:Paired (fun (r:R) v=>TupAt H r.v v) rs vs):vs.map (Tf H)=rs:=by
 induction h with
 | nil=>rfl
 | cons x y ih=>rw [dv,ih,Qj x]
theorem By (f:Str) (v:V):∀ l:List (Str × V),(Bl f v l).length<=l.length+1
 | []=>aE _
 | p::r=>by
  unfold Bl
  split
  ·simp
  ·have:=By f v r
   simp only [List.length_cons]
   omega
noncomputable abbrev Jx (s:Str):Bool:=inV (.str s) [.str "stop",.str "coupler",.str "mute"]
structure sI (K:PySem.W.Frag) (aB aP aM:Addr) (ρ:V->R) (us:List V) (bs:List (Str × Nat)) (ks:List R):Prop where
 kinds:∀ v∈us,(ρ v).w = "board" \/ (ρ v).w = "stop" \/ (ρ v).w = "coupler" \/ (ρ v).w = "mute"
 eb:(us.filter (pw ρ "board")).map ρ=bs.map GP
 ek:(us.filter (fun v=>Jx (ρ v).w)).map ρ=ks
 b0:1<=bs.length
 b5:bs.length<=5
 sz:∀ b∈bs,b.2<=61
 nk:ks.length<=100
 nb:(bs.map (·.1)).Nodup
 nn:(ks.map (·.nm)).Nodup
 len:us.length<=105
 ok:∀ (i:Nat) v,us[i]? = some v->Lh K aB aP aM ρ (us.take i) (ρ v)
noncomputable def HX (ρ:V->R) (vs:List V):List (Str × Str):=vs.map fun v=>((ρ v).w,(ρ v).nm)
noncomputable abbrev Qm (wn:List (Str × Str)) (w t:Str):Bool:=(wn.filter fun p=>decide (p.1=w)).any fun p=>decide (p.2=t)
noncomputable abbrev Uo (wn:List (Str × Str)) (w:Str):Nat:=(wn.filter fun p=>decide (p.1=w)).length
theorem IK (a b:Str):decide (V.str a=V.str b)=decide (a=b):=by
 rw [fw,decide_eq_true_eq,decide_eq_true_eq]
 exact ⟨V.str.inj,congrArg V.str⟩
theorem Jg (ρ:V->R) (vs:List V) (w t:Str):Yd ρ vs w t=Qm (HX ρ vs) w t:=by
 unfold Yd HX
 show _=((vs.map fun v=>((ρ v).w,(ρ v).nm)).filter fun p=>decide (p.1=w)).any fun p=>decide (p.2=t)
 rw [eS,List.any_map]
 have e1:pw ρ w=(fun p:Str × Str=>decide (p.1=w)) ∘ fun v=>((ρ v).w,(ρ v).nm):=by
  funext v
  exact IK _ _
 have e2:pn ρ t=(fun p:Str × Str=>decide (p.2=t)) ∘ fun v=>((ρ v).w,(ρ v).nm):=by
  funext v
  exact IK _ _
 rw [e1,e2]
theorem Iu (ρ:V->R) (vs:List V) (w:Str):(vs.filter (pw ρ w)).length=Uo (HX ρ vs) w:=by
 unfold HX
 show _=((vs.map fun v=>((ρ v).w,(ρ v).nm)).filter fun p=>decide (p.1=w)).length
 rw [eS,ai]
 have e1:pw ρ w=(fun p:Str × Str=>decide (p.1=w)) ∘ fun v=>((ρ v).w,(ρ v).nm):=by
  funext v
  exact IK _ _
 rw [e1]
section
variable {K:PySem.W.Frag} {aB aP aM:Addr} {ρ:V->R} {vs:List V} {wn:List (Str × Str)} {t:Str}
theorem JH (F:KF K aB aP aM) (e:HX ρ vs=wn) (ht:isNm t) (h:∀ w∈named,Qm wn w t=false):Ik K aB ρ vs (.str t) "new" :=
 .inr (.inl ⟨F.bN,rfl,_,rfl,ht,fun w hw=>by rw [Jg,e]; exact h w hw⟩)
theorem Io (F:KF K aB aP aM) (e:HX ρ vs=wn) (ht:isNm t) (h:Qm wn "board" t=true):Ik K aB ρ vs (.str t) "board" :=
 .inr (.inr ⟨F.bB,by decide +kernel,_,rfl,ht,by rw [Jg,e]; exact h⟩)
theorem R7 (F:KF K aB aP aM) (e:HX ρ vs=wn) (ht:isNm t) (h:∀ w∈named,Qm wn w t=false) (hc:Uo wn "board" < 5) {n:Nat} (h1:1<=n) (h2:n<=61):Lh K aB aP aM ρ vs (GP (t,n)):=by
 obtain ⟨ap,g1,g2⟩:=F.pB
 obtain ⟨ab,g3,g4⟩:=F.bK
 obtain ⟨tk,g5⟩:=F.mB
 refine ⟨by show ¬ ("board" : Str) = "step"; decide +kernel,by show ¬ ("board" : Str) = "line"; decide +kernel,⟨ap,["new","keys"],g1,g2,rfl,by decide,fun j x y hx hy=>?_⟩,⟨5,tk,g5,?_⟩⟩
 ·match j,hx,hy with
  | 0,hx,hy =>
   cases (Option.some.inj hx)
   cases (Option.some.inj hy)
   exact JH F e ht h
  | 1,hx,hy =>
   cases (Option.some.inj hx)
   cases (Option.some.inj hy)
   exact .inl ⟨_,1,61,ab,rfl,g3,g4,by omega,by omega⟩
  | j+2,hx,hy=>simp at hy
 ·rw [Iu,e]
  show ((Uo wn "board" : Nat):Int)<5
  omega
theorem N_ (F:KF K aB aP aM) (e:HX ρ vs=wn) (ht:isNm t) (h:∀ w∈named,Qm wn w t=false) (hc:Uo wn "coupler" < 12) {a b:Str} (ha:isNm a) (ha':Qm wn "board" a=true) (hb:isNm b) (hb':Qm wn "board" b=true) {s:Int} (h1 : -60<=s) (h2:s<=60):Lh K aB aP aM ρ vs ⟨"coupler",t,[.str a,.str b,.int s]⟩:=by
 obtain ⟨ap,g1,g2⟩:=F.pC
 obtain ⟨ab,g3,g4⟩:=F.bL
 obtain ⟨tk,g5⟩:=F.mC
 refine ⟨by show ¬ ("coupler" : Str) = "step"; decide +kernel,by show ¬ ("coupler" : Str) = "line"; decide +kernel,⟨ap,["new","board","board","leap"],g1,g2,rfl,by decide,fun j x y hx hy=>?_⟩,⟨12,tk,g5,?_⟩⟩
 ·match j,hx,hy with
  | 0,hx,hy =>
   cases (Option.some.inj hx)
   cases (Option.some.inj hy)
   exact JH F e ht h
  | 1,hx,hy =>
   cases (Option.some.inj hx)
   cases (Option.some.inj hy)
   exact Io F e ha ha'
  | 2,hx,hy =>
   cases (Option.some.inj hx)
   cases (Option.some.inj hy)
   exact Io F e hb hb'
  | 3,hx,hy =>
   cases (Option.some.inj hx)
   cases (Option.some.inj hy)
   exact .inl ⟨_,-60,60,ab,rfl,g3,g4,h1,h2⟩
  | j+4,hx,hy=>simp at hy
 ·rw [Iu,e]
  show ((Uo wn "coupler" : Nat):Int)<12
  omega
end
theorem Rb {bs:List (Str × Nat)}:∀ {i a n:Nat},(Ez bs)[i]? = some (a,n)->∃ b,bs[a]? = some b/\n<b.2/\i=((bs.map (·.2)).take a).sum+n:=by
 have key:∀ m,m<=bs.length->∀ {i a n:Nat},(Ez (bs.take m))[i]? = some (a,n)->∃ b,bs[a]? = some b/\n<b.2/\i=((bs.map (·.2)).take a).sum+n:=by
  intro m
  induction m with
  | zero =>
   intro _ i a n h
   simp [Ez] at h
  | succ m ih =>
   intro hm i a n h
   have hlt:m<bs.length:=by omega
   have hb:=ae hlt
   rw [Ho hb] at h
   have hlen:(Ez (bs.take m)).length=((bs.map (·.2)).take m).sum:=by
    have g:∀ m,m<=bs.length->(Ez (bs.take m)).length=((bs.map (·.2)).take m).sum:=by
     intro m
     induction m with
     | zero=>intro _; simp [Ez]
     | succ m ih =>
      intro hm
      have hlt:m<bs.length:=by omega
      rw [Ho (ae hlt),av,ih (by omega),ai,fA,dl,ar,ae hlt,fo]
      simp
    exact g m (by omega)
   by_cases hi:i<(Ez (bs.take m)).length
   ·rw [eJ hi] at h
    exact ih (by omega) h
   ·rw [cv (by omega),ar] at h
    obtain ⟨e,he,q⟩:=bb.mp h
    have he':i - (Ez (bs.take m)).length<bs[m].2/\e=i - (Ez (bs.take m)).length:=by
     obtain ⟨h1,h2⟩:=ah.mp he
     rw [fA] at h1
     rw [List.getElem_range] at h2
     exact ⟨h1,h2.symm⟩
    obtain ⟨q1,q2⟩:=Prod.mk.inj q
    subst q1 q2
    refine ⟨bs[m],hb,by omega,?_⟩
    rw [← hlen]
    omega
 intro i a n h
 refine key bs.length (aE _) ?_
 rw [fg]
 exact h
theorem Ed (bs:List (Str × Nat)):(Ez bs).length=(bs.map (·.2)).sum:=by
 unfold Ez
 rw [List.length_flatMap]
 have:(bs.zipIdx.map fun p=>((List.range p.1.2).map fun e=>(p.2,e)).length)=bs.map (·.2):=by
  refine gc fun i=>?_
  rw [ar,ar,dn]
  cases bs[i]? <;> simp
 rw [this]
end Og
namespace Og
open PySem L2
noncomputable def Le (bs:List (Str × Nat)) (j1 j2:Nat) (s:Int) (qd:Nat × Nat) (z2:Nat):V :=
 if qd.1=j1/\0<=(qd.2:Int)+s/\(qd.2:Int)+s<z2 then .int ((((bs.take j2).map (·.2)).sum:Nat)+((qd.2:Int)+s)) else .non
noncomputable def gl (bs:List (Str × Nat)):Kb->Nat->Option Nat
 | .cp j1 j2 s,i=>match (Ez bs)[i]?,bs[j2]? with
  | some qd,some b2=>match Le bs j1 j2 s qd b2.2 with
   | .int v=>some v.toNat
   | _=>none
  | _,_=>none
 | .pl _ _,_=>none
theorem Mr (l:List Nat):∀ {a b:Nat},a<=b->(l.take a).sum<=(l.take b).sum:=by
 intro a b h
 have e:l.take a=(l.take b).take a:=by rw [List.take_take,Nat.min_eq_left h]
 rw [e]
 have:=congrArg List.sum (eI a (l.take b))
 rw [fo] at this
 omega
theorem Ml {bs:List (Str × Nat)} {j1 j2 i:Nat} {s:Int} {qd:Nat × Nat} {b2:Str × Nat} (hq:(Ez bs)[i]? = some qd) (hb:bs[j2]? = some b2) :
  (Le bs j1 j2 s qd b2.2=.non/\gl bs (.cp j1 j2 s) i=none) \/ ∃ j:Nat,Le bs j1 j2 s qd b2.2=.int (j:Nat)/\gl bs (.cp j1 j2 s) i=some j/\j<(bs.map (·.2)).sum:=by
 have e:gl bs (.cp j1 j2 s) i=match Le bs j1 j2 s qd b2.2 with | .int v=>some v.toNat | _=>none:=by
  simp only [gl,hq,hb]
 rw [e]
 unfold Le
 by_cases h:qd.1=j1/\0<=(qd.2:Int)+s/\(qd.2:Int)+s<b2.2
 ·rw [if_pos h]
  obtain ⟨h1,h2,h3⟩:=h
  have hs:((bs.map (·.2)).take (j2+1)).sum=(((bs.take j2).map (·.2)).sum+b2.2):=by
   rw [dl,ar,hb,fo,fT]
   simp
  have hle:((bs.map (·.2)).take (j2+1)).sum<=(bs.map (·.2)).sum:=by
   have:=congrArg List.sum (eI (j2+1) (bs.map (·.2)))
   rw [fo] at this
   omega
  refine .inr ⟨((((bs.take j2).map (·.2)).sum:Nat)+((qd.2:Int)+s)).toNat,?_,rfl,by omega⟩
  rw [Int.toNat_of_nonneg (by omega)]
 ·rw [if_neg h]
  exact .inl ⟨rfl,rfl⟩
theorem Lq {bs:List (Str × Nat)} {z:Kb} {i j:Nat} (h:gl bs z i=some j):j<(bs.map (·.2)).sum:=by
 cases z with
 | pl w a=>cases h
 | cp j1 j2 s =>
  cases hq:(Ez bs)[i]? with
  | none =>
   simp only [gl,hq] at h
   cases h
  | some qd =>
   cases hb:bs[j2]? with
   | none =>
    simp only [gl,hq,hb] at h
    cases h
   | some b2 =>
    rcases Ml (j1:=j1) (s:=s) hq hb with ⟨_,e⟩ | ⟨j',_,e,lt⟩
    ·rw [e] at h
     cases h
    ·rw [e] at h
     cases h
     exact lt
noncomputable abbrev Rk (z:Kb):Bool:=decide (V.str z.w=V.str "coupler")
theorem Ue {bs:List (Str × Nat)} {z:Kb} {i j:Nat} (h:gl bs z i=some j):Rk z=true:=by
 cases z with
 | pl w a=>cases h
 | cp j1 j2 s=>exact decide_eq_true rfl
theorem RJ {n:Nat} {z:Kb} (ho:z.ok n) (h:Rk z=true):∃ i j s,z=.cp i j s:=by
 cases z with
 | cp i j s=>exact ⟨i,j,s,rfl⟩
 | pl w i =>
  exfalso
  have h':=V.str.inj (of_decide_eq_true h)
  rcases ho.2 with rfl | rfl
  ·exact absurd h' (by show ¬ ("mute" : Str) = "coupler"; decide +kernel)
  ·exact absurd h' (by show ¬ ("stop" : Str) = "coupler"; decide +kernel)
noncomputable def stp (bs:List (Str × Nat)) (kbs:List Kb) (D:Nat) (i j:Nat):Prop:=∃ k z,D.testBit k=true/\kbs[k]? = some z/\gl bs z i=some j
inductive JB (st:Nat->Nat->Prop) (hd:Nat->Prop):Nat->Prop
 | one {i j:Nat}:hd i->st i j->JB st hd j
 | more {i j:Nat}:JB st hd i->st i j->JB st hd j
theorem JB.mono {s1 s2:Nat->Nat->Prop} {h1 h2:Nat->Prop} {j:Nat} (h:JB s1 h1 j) (hs:∀ i j,s1 i j->s2 i j) (hh:∀ i,h1 i->h2 i):JB s2 h2 j:=by
 induction h with
 | one a b=>exact .one (hh _ a) (hs _ _ b)
 | more a b ih=>exact .more ih (hs _ _ b)
theorem JB.lt {bs:List (Str × Nat)} {kbs:List Kb} {D:Nat} {h:Nat->Prop} {j:Nat} (r:JB (stp bs kbs D) h j):j<(bs.map (·.2)).sum:=by
 cases r with
 | one a b=>obtain ⟨k,z,_,_,e⟩:=b; exact Lq e
 | more a b=>obtain ⟨k,z,_,_,e⟩:=b; exact Lq e
theorem JB.all {st:Nat->Nat->Prop} {hd:Nat->Prop} {W:Nat->Prop} (h1:∀ j,W j->JB st hd j) (h2:∀ i,(hd i \/ W i)->∀ j,st i j->W j) (j:Nat):W j ↔ JB st hd j:=by
 refine ⟨h1 j,fun h=>?_⟩
 induction h with
 | one a b=>exact h2 _ (.inl a) _ b
 | more a b ih=>exact h2 _ (.inr ih) _ b
theorem Ec:∀ (T:Nat) {l:List Nat},l.Nodup->(∀ x∈l,x<T)->l.length<=T
 | 0,l,_,h=>by
  cases l with
  | nil=>exact aE _
  | cons a l=>exact absurd (h a (cS ..)) (ge _)
 | T+1,l,nd,h=>by
  have ih:=Ec T (l:=l.erase T) (nd.erase T) fun x hx=>by
   have h1:=h x (List.mem_of_mem_erase hx)
   have h2:x ≠ T:=fun z=>by
    subst z
    exact nd.not_mem_erase hx
   omega
  have:=List.length_erase (a:=T) (l:=l)
  split at this <;> omega
theorem Uq (a b i:Nat):(a ||| b).testBit i=true ↔ a.testBit i=true \/ b.testBit i=true:=by
 rw [iL,ko]
theorem Jb {a b:Nat} (h:∀ i,a.testBit i=true ↔ b.testBit i=true):a=b:=jI fun i=>fw.mpr (h i)
end Og
namespace Og
open PySem L2 PyProof.Rows
noncomputable abbrev Th:=Str × Nat × List V
noncomputable abbrev tV (a:Th):List V:=.str a.1 :: .int (a.2.1:Nat)::a.2.2
noncomputable abbrev tN (a:Th):Str × Nat:=(a.1,a.2.1)
noncomputable abbrev Uh (r:Str × Nat × Int):Th:=(r.1,r.2.1,[.int r.2.2])
noncomputable abbrev au (b:Str × Nat):Th:=(b.1,b.2,[])
noncomputable abbrev SN (r:Str × Nat × Int):Str × Nat:=(r.1,r.2.1)
noncomputable abbrev Fy (r:Str × Nat × Int):R:=⟨"rank",r.1,[.int (r.2.1:Nat),.int r.2.2]⟩
set_option genInjectivity false in
structure Ln where
 r:Nat
 sh:Int
 lo:Int
 hi:Int
noncomputable abbrev ao (l:Ln):List V:=[.int (l.r:Nat),.int l.sh,.int l.lo,.int l.hi]
noncomputable def Iz (H:Hp) (l:List Ln) (v:V):Prop:=∃ (A:Addr) (ts:List V),v=.ref A/\H A=some (.lst ts)/\Paired (fun x y=>TupAt H (ao x) y) l ts
noncomputable def Gz (H:Hp) (D:Addr) (ls:List (List Ln)):Prop:=∃ lv,H D=some (.lst lv)/\Paired (fun l v=>Iz H l v) ls lv
theorem Iz.mono {H H':Hp} {l:List Ln} {v:V} (s:Ao H H') (h:Iz H l v):Iz H' l v:=by
 obtain ⟨A,ts,e,h1,h2⟩:=h
 exact ⟨A,ts,e,s _ _ h1,Al s h2⟩
theorem Gz.mono {H H':Hp} {D:Addr} {ls:List (List Ln)} (s:Ao H H') (h:Gz H D ls):Gz H' D ls:=by
 obtain ⟨lv,h1,h2⟩:=h
 exact ⟨lv,s _ _ h1,Paired.Fj h2 fun _ _ q=>q.mono s⟩
structure CN (C:Addr) (H:Hp) (x:Addr) (bs:List (Str × Nat)) (rk:List (Str × Nat × Int)) (ks:List R) (ls:List (List Ln)):Prop where
 o:Dd C H x bs ks
 r:∃ (dx:Addr) (fs:List (Str × V)) (rl rn pp kl:Addr) (rvs pvs:List V) (kvs:List (Key × V)),H x=some (.ins C dx fs)/\fs.lookup ("rank_list" : Str)=some (.ref rl)/\fs.lookup ("rank_numbers" : Str)=some (.ref rn)/\fs.lookup ("pipe_places" : Str)=some (.ref pp)/\fs.lookup ("knob_lines" : Str)=some (.ref kl) /\
  H rl=some (.lst rvs)/\Paired (fun (a:Th) y=>TupAt H (tV a) y) (rk.map Uh) rvs/\H rn=some (.dK kvs)/\(∀ (i:Nat) r,rk[i]? = some r->Cd kvs (Sum.inr r.1)=some (.int (i:Nat))) /\
  H pp=some (.lst pvs)/\Paired (fun q y=>TupAt H (qV q) y) (Ez (rk.map SN)) pvs/\Gz H kl ls
 nr:rk.length<=12
 nz:∀ r∈rk,r.2.1<=97
 nl:ls.length=ks.length
theorem CN.mono {C:Addr} {H H':Hp} {x:Addr} {bs:List (Str × Nat)} {rk:List (Str × Nat × Int)} {ks:List R} {ls:List (List Ln)} (s:Ao H H') (h:CN C H x bs rk ks ls):CN C H' x bs rk ks ls:=by
 refine byC fun w_=>?_;obtain ⟨o,⟨dx,fs,rl,rn,pp,kl,rvs,pvs,kvs,h1,l1,l2,l3,l4,h2,h3,h4,h5,h6,h7,h8⟩,a,b,c⟩:=h;refine w_ ?_
 exact ⟨o.mono s,⟨dx,fs,rl,rn,pp,kl,rvs,pvs,kvs,s _ _ h1,l1,l2,l3,l4,s _ _ h2,Al s h3,s _ _ h4,h5,s _ _ h6,Al s h7,h8.mono s⟩,a,b,c⟩
structure YT (ρ:V->R) (us:List V) (i:Nat):Prop where
 all:∀ j,j<i->∃ v,us[us.length - 1 - j]? = some v/\(ρ v).w = "line"
 lt:i<us.length
 no:∃ v,us[us.length - 1 - i]? = some v/\¬ (ρ v).w = "line"
noncomputable def Yu (r:R):Int:=match r.rest with
 | [.int m]=>m
 | _=>0
noncomputable abbrev keyOf (ρ:V->R) (us:List V) (bd:Str) (n:Int):Bool:=(us.filter (pw ρ "board")).any fun v=>pn ρ bd v && decide (n<Yu (ρ v))
structure QR (ρ:V->R) (us:List V) (ro:R):Prop where
 ex:∃ (cnt:Nat) (v:V) (sh lo hi:Int) (bd:Str) (rs:List V),ro.rest=[.int sh,.int lo,.int hi]/\YT ρ us cnt/\cnt<4/\us[us.length - 1 - cnt]? = some v/\(ρ v).w = "stop" /\ (ρ v).rest=.str bd::rs/\lo<=hi/\keyOf ρ us bd hi=true
noncomputable abbrev GJ (ρ:V->R) (us:List V):Prop:=∀ v∈us,(ρ v).w = "board"->∃ m,(ρ v).rest=[.int m]
structure HN (K:PySem.W.Frag) (aB aP aM:Addr) (ρ:V->R) (vs:List V) (r:R):Prop where
 ns:¬ r.w = "step"
 parts:∃ (ap:Addr) (ps:List Str),PySem.W.nsIn K aP r.w=some (some (.ref ap))/\KTup K ap (ps.map V.str)/\(V.str r.nm::r.rest).length=ps.length/\ps.length<=10 /\
  ∀ (i:Nat) x y,(V.str r.nm::r.rest)[i]? = some x->ps[i]? = some y->Ik K aB ρ vs x y
 room:(r.w = "line" /\ PySem.W.nsIn K aM r.w=some none) \/ ∃ (m:Int) (t:Tok),PySem.W.nsIn K aM r.w=some (some (.int m t))/\(((vs.filter (pw ρ r.w)).length:Nat):Int)<m
 line:r.w = "line"->QR ρ vs r
 aj:GJ ρ vs
noncomputable def lnOf (rk:List (Str × Nat × Int)) (r:R):Ln:=match r.rest with
 | [.int sh,.int lo,.int hi]=>⟨(rk.map (·.1)).idxOf r.nm,sh,lo,hi⟩
 | _=>⟨0,0,0,0⟩
noncomputable def putL (acc:List (List Ln)) (l:Ln):List (List Ln):=match acc.getLast? with
 | some z=>acc.dropLast++[z++[l]]
 | none=>[]
noncomputable def GZ (rk:List (Str × Nat × Int)) (acc:List (List Ln)) (r:R):List (List Ln):=if Jx r.w=true then acc++[[]] else if r.w = "line" then putL acc (lnOf rk r) else acc
noncomputable def linesOf (rk:List (Str × Nat × Int)) (rs:List R):List (List Ln):=rs.foldl (GZ rk) []
theorem Cj (rk:List (Str × Nat × Int)) (rs:List R) (r:R):linesOf rk (rs++[r])=GZ rk (linesOf rk rs) r:=by
 unfold linesOf
 rw [List.foldl_append]
 rfl
theorem IV (acc:List (List Ln)) (z:List Ln) (l:Ln):putL (acc++[z]) l=acc++[z++[l]]:=by
 unfold putL
 rw [List.getLast?_concat,jS]
structure g_ (K:PySem.W.Frag) (aB aP aM:Addr) (ρ:V->R) (us:List V) (bs:List (Str × Nat)) (rk:List (Str × Nat × Int)) (ks:List R):Prop where
 kinds:∀ v∈us,(ρ v).w = "board" \/ (ρ v).w = "rank" \/ (ρ v).w = "line" \/ (ρ v).w = "stop" \/ (ρ v).w = "coupler" \/ (ρ v).w = "mute"
 eb:(us.filter (pw ρ "board")).map ρ=bs.map GP
 er:(us.filter (pw ρ "rank")).map ρ=rk.map Fy
 ek:(us.filter (fun v=>Jx (ρ v).w)).map ρ=ks
 ln:∀ (i:Nat) v,us[i]? = some v->(ρ v).w = "line"->(∃ (j:Nat) (r:Str × Nat × Int) (sh lo hi:Int),rk[j]? = some r/\r.1=(ρ v).nm/\(ρ v).rest=[.int sh,.int lo,.int hi])/\∃ u∈us.take i,Jx (ρ u).w=true
 b0:1<=bs.length
 b5:bs.length<=5
 sz:∀ b∈bs,b.2<=61
 nr:rk.length<=12
 nz:∀ r∈rk,r.2.1<=97
 nk:ks.length<=100
 nb:(bs.map (·.1)).Nodup
 nrr:(rk.map (·.1)).Nodup
 nn:(ks.map (·.nm)).Nodup
 len:us.length<=150
 ok:∀ (i:Nat) v,us[i]? = some v->HN K aB aP aM ρ (us.take i) (ρ v)
theorem g_.none {K:PySem.W.Frag} {aB aP aM:Addr} {ρ:V->R} {us:List V} {bs:List (Str × Nat)} {rk:List (Str × Nat × Int)} {ks:List R} (h:g_ K aB aP aM ρ us bs rk ks):us.filter (pw ρ "step")=[]:=by
 refine gE.mpr fun v hv=>?_
 unfold pw
 rcases h.kinds v hv with e | e | e | e | e | e <;> rw [e] <;> decide +kernel
end Og
namespace Og
open PySem L2
noncomputable abbrev Pt:=Nat × Nat
noncomputable def sH (nx:Pt->Option Pt) (p0:Pt) (ps:List Pt):Prop:=∀ (i:Nat) (p q:Pt),(p0::ps)[i]? = some p->(p0::ps)[i+1]? = some q->nx p=some q
noncomputable def rA (s0 s1 b:Nat):Nat:=if b=0 then s0 else s1
noncomputable def enc (s0:Nat) (p:Pt):Nat:=p.1 * s0+p.2
noncomputable abbrev Way:=Option (Nat × Int)
noncomputable def wy (w0 w1:Way) (b:Nat):Way:=if b=0 then w0 else w1
noncomputable def nxt (s0 s1:Nat) (w0 w1:Way) (p:Pt):Option Pt:=match wy w0 w1 p.1 with
 | none=>none
 | some (g,s)=>if 0<=(p.2:Int)+s/\(p.2:Int)+s<(rA s0 s1 g:Nat) then some (g,((p.2:Int)+s).toNat) else none
structure sJ (s0 s1:Nat) (p:Pt):Prop where
 b:p.1<2
 n:p.2<rA s0 s1 p.1
structure sG (kbs:List Kb) (D:Nat) (w0 w1:Way):Prop where
 out:∀ k z,D.testBit k=true->kbs[k]? = some z->∃ j1 j2 s,z=.cp j1 j2 s/\wy w0 w1 j1=some (j2,s)/\j2<2
 back:∀ b g s,b<2->wy w0 w1 b=some (g,s)->∃ k,D.testBit k=true/\kbs[k]? = some (.cp b g s)
end Og
namespace Og
open PySem L2
inductive Zn (nx:Pt->Option Pt) (hd:Pt->Prop):Pt->Prop
 | one {p q:Pt}:hd p->nx p=some q->Zn nx hd q
 | more {p q:Pt}:Zn nx hd p->nx p=some q->Zn nx hd q
structure rZ (kbs:List Kb) (D:Nat) (w0 w1:Way):Prop where
 out:∀ (k:Nat) (z:Kb),D.testBit k=true->kbs[k]? = some z->(∃ w i,z=.pl w i) \/ ∃ j1 j2 s,z=.cp j1 j2 s/\wy w0 w1 j1=some (j2,s)/\j2<2
 back:∀ b g s,b<2->wy w0 w1 b=some (g,s)->∃ k:Nat,D.testBit k=true/\kbs[k]? = some (.cp b g s)
end Og
namespace L2
open PySem PySem.Spec PySem.Calls PyProof.Rows
noncomputable abbrev pV (q:Int × Int):List V:=[.int q.1,.int q.2]
section
variable {X:Cx}
end
end L2
namespace L2
open PySem PySem.Spec PySem.Calls PyProof.Rows
section
variable {X:Cx}
theorem U_ (hu:X.A.units<cLine):Gv X (compareOp .NotEq) (fun x y H Q=>∃ p q xs,x=V.ref p/\y=V.ref q/\Cz X.K H p xs/\Cz X.K H q []/\Q (.bl (!xs.isEmpty)) H):=by
 intro pins s σ H x y v u Q I rx ry h
 obtain ⟨p,q,xs,rfl,rfl,hp,hq,k⟩:=h
 cases rx
 cases ry
 obtain ⟨its,r,pl,hz⟩:=I.list hp
 obtain ⟨its2,r2,pl2,hz2⟩:=I.list hq
 have l1:=r.length
 cases r2
 cases xs with
 | nil =>
  cases r
  refine SeqAt.RcNeAt.lists (e:=fun _=>true) pl.isList pl2.isList rfl hu (fun j h1 h2=>?_) _ _ _ _ ⟨.bl _,H,I,rfl,k⟩
  exact absurd h1 (ge _)
 | cons a b =>
  refine SeqAt.RcNeAt.lists_lengths pl.isList pl2.isList (by simp; intro z; rw [z] at l1; simp at l1) hu _ _ _ _ ⟨.bl _,H,I,rfl,k⟩
end
end L2
namespace Og
noncomputable def Ww (st:Nat->Nat->Prop):Nat->Nat->Nat->Prop
 | 0,i,j=>st i j
 | w+1,i,j=>Ww st w i j \/ (Ww st w i w/\Ww st w w j)
theorem Ww.up {st:Nat->Nat->Prop} {i j:Nat} (h:st i j):∀ w,Ww st w i j
 | 0=>h
 | w+1=>.inl (Ww.up h w)
theorem Ww.to {st:Nat->Nat->Prop} {w j:Nat}:Ww st (w+1) w j ↔ Ww st w w j:=by
 constructor
 ·rintro (h | ⟨_,h⟩) <;> exact h
 ·exact .inl
theorem Ww.at {st:Nat->Nat->Prop} {w i:Nat}:Ww st (w+1) i w ↔ Ww st w i w:=by
 constructor
 ·rintro (h | ⟨h,_⟩) <;> exact h
 ·exact .inl
theorem Ww.tr {st:Nat->Nat->Prop}:∀ (w:Nat) {i k j:Nat},k<w->Ww st w i k->Ww st w k j->Ww st w i j
 | w+1,i,k,j,hk,h1,h2=>by
  by_cases e:k=w
  ·subst e
   exact .inr ⟨Ww.at.mp h1,Ww.to.mp h2⟩
  have hk':k<w:=by omega
  rcases h1 with a | ⟨a1,a2⟩ <;> rcases h2 with b | ⟨b1,b2⟩
  ·exact .inl (Ww.tr w hk' a b)
  ·exact .inr ⟨Ww.tr w hk' a b1,b2⟩
  ·exact .inr ⟨a1,Ww.tr w hk' a2 b⟩
  ·exact .inr ⟨a1,b2⟩
theorem Ww.sound {st:Nat->Nat->Prop}:∀ (w:Nat) {i j:Nat} {hd:Nat->Prop},Ww st w i j->(hd i \/ JB st hd i)->JB st hd j
 | 0,i,j,hd,h,a=>by
  rcases a with a | a
  ·exact .one a h
  ·exact .more a h
 | w+1,i,j,hd,h,a=>by
  rcases h with h | ⟨h1,h2⟩
  ·exact Ww.sound w h a
  ·exact Ww.sound w h2 (.inr (Ww.sound w h1 a))
theorem Ww.rJ {st:Nat->Nat->Prop} {n i j:Nat} (hn:∀ a b,st a b->b<n):Ww st n i j ↔ JB st (fun a=>a=i) j:=by
 constructor
 ·exact fun h=>Ww.sound n h (.inl rfl)
 ·intro h
  induction h with
  | one a b=>rw [← a]; exact Ww.up b n
  | more a b ih =>
   have hk:∀ {x},JB st (fun a=>a=i) x->x<n:=fun r=>by
    cases r with
    | one _ b=>exact hn _ _ b
    | more _ b=>exact hn _ _ b
   exact Ww.tr n (hk a) ih (Ww.up b n)
end Og
namespace L2
open PySem PySem.Spec PyProof.Rows
section
variable {X:Cx}
end
end L2
namespace L2
open PySem PySem.Spec PyProof.Rows
section
variable {σ:St} {H1:Hp} {Q:VK} {tt:TT} {te:TE}
end
end L2
namespace L2
open PySem PySem.Spec PyProof.Rows
section
variable {X:Cx} {pins:List (Addr × Obj)} {σ:St} {H:Hp} {s:Shared}
end
section
variable {X:Cx}
end
end L2
namespace L2
open PySem PySem.Spec PySem.Calls PyProof.Rows
structure Mv (fs:List Addr) (x T:Addr) (h h':Heap):Prop where
 keep:∀ b o,h.get? b=some o->b ≠ x->b ≠ T->b ∉ fs->h'.get? b=some o
 any:∀ b o,h.get? b=some o->b ≠ x->b ≠ T->∃ sl,h'.get? b=some { o with slots:=sl }
section
variable {M:Model} {A:Around} {E:Value->Shared->Prop} {s:Shared} {base:Heap} {env:Env} {outer:List Env} {L x T C:Addr} {od:Option Addr} {Q:Unit->Shared->Prop}
end
section
variable {P:Program} {w:World} {fs:List Addr} {H H':Hp} {h h1 h2 h3:Heap} {x T T':Addr}
end
section
variable {X:Cx} {C:Addr} {x:Str} {e:Expr} {es:List Expr} {t:TA} {np cpos pos:Pos} {E:XK}
end
section
variable {X:Cx} {pins:List (Addr × Obj)} {σ:St} {H:Hp} {s:Shared}
end
noncomputable def Ends.drop (D:Ends) (i:Nat):Ends:={ nx:=fun σ H=>D.nx (σ.set i none) H,rt:=D.rt,bk:=fun σ H=>D.bk (σ.set i none) H,ct:=fun σ H=>D.ct (σ.set i none) H }
section
variable {X:Cx} {k i:Nat} {f O:Addr} {fd:FuncData} {ps:List Str} {sp:Sp} {dvs:List V} {ds:List Value} {fx cn n:Str} {p np cpos epos hpos pos:Pos} {e:Expr} {es:List Expr} {t:TA} {b0:Stmt} {suite:List Stmt} {ts:TS}
end
structure cN (k:Nat) (A:Around):Prop where
 dp:A.depth+3 * k+5<recursionLimit
 un:A.units+16 * k+200<cLine
structure qz (P:Program) (w:World) (K:PySem.W.Frag) (mg:Str->Option Value) (base:Heap) (CX:Sq) (k:Nat) (f:Addr) (fd:FuncData) (ps:List Str) (sp:Sp):Prop where
 len:∀ vs H Q E,sp vs H Q E->vs.length=ps.length
 run:∀ (A:Around) (outer:List Env) (s:Shared) (H:Hp) (args:Args) (us:List Value) (vs:List V) (Q:VK) (E:XK),cN k A->Ot P w K mg base A outer s H->BindsTo s fd args (ps.zip us)->Vals vs us->sp vs H Q E ->
  codeAny (model P w) A (.call (.ref f) args) (CR CX outer P w H s Q E) s
section
variable {P:Program} {w:World} {K:PySem.W.Frag} {mg:Str->Option Value} {base:Heap}
end
section
variable {X:Cx} {CX:Sq} {k:Nat} {f:Addr} {fd:FuncData} {ps:List Str} {sp:Sp} {dvs:List V} {ds:List Value} {E:XK} {x:Str} {p pos:Pos} {e:Expr} {es:List Expr} {t:TA}
end
end L2
namespace L2
open PySem PySem.Spec PySem.Calls PyProof.Rows
end L2
namespace L2
open PySem PySem.Spec PySem.Calls PyProof.Rows
noncomputable def gB (td ty tv:TE):TS:=fun D σ H=>tv σ H fun v H1=>td σ H1 fun x H2=>ty σ H2 fun y H3=>∃ a xs,∃ k:Int,x=.ref a/\y=.int k/\H3 a=some (.lst xs)/\0<=k/\k<xs.length/\k<2 ^ 62/\D.nx σ (upd H3 a (.lst (xs.set k.toNat v)))
section
variable {X:Cx} {o i value:Expr} {td ty tv:TE} {pos pos':Pos}
theorem Wu (ho:PE X o td) (hi:PE X i ty) (hv:PE X value tv) (hs:swapsWith value (some (.Subscript o i pos')) pos.line X.env=pure false):PS X (.Assign [.Subscript o i pos'] value pos) (gB td ty tv):=by
 intro pins s σ H D I h
 refine wpAny_Assign_Subscript (CK (hv pins s σ H _ I h) fun r s1 ⟨v,H1,I1,rv,q1⟩=>CK (ho pins s1 σ H1 _ I1 q1) fun u s2 ⟨x,H2,I2,rx,q2⟩=>CK (hi pins s2 σ H2 _ I2 q2) fun iv s3 ⟨y,H3,I3,ry,a,xs,k,ex,ey,ha,k0,k1,k2,q3⟩=>?_) hs
 subst ex ey
 cases rx
 obtain ⟨t,rfl⟩:=ry
 obtain ⟨z,its,n,w,hl,e⟩:=I3.QM ha
 refine PySem.W.ki_setAt (n:=n) e k0 (by omega) (by rw [List.size_toArray]; omega) ⟨σ,_,I3.XS (its':=its.set k.toNat r) (t':=s3.toks) ha e (by simp) (w.set rv _) (by rw [List.length_set]; exact z),q3⟩
end
section
variable {X:Cx} {k i:Nat} {f O:Addr} {fd:FuncData} {ps:List Str} {sp:Sp} {dvs:List V} {ds:List Value} {fx cn n:Str} {p np cpos epos hpos pos:Pos} {e:Expr} {es:List Expr} {t:TA} {b0:Stmt} {suite:List Stmt} {ts:TS}
end
end L2
namespace L2
open PySem PySem.Spec PySem.Calls PyProof.Rows
section
variable {X:Cx} {pins:List (Addr × Obj)} {σ:St} {H:Hp} {s:Shared}
theorem Inv.freeze {a:Addr} {kvs:List (Key × V)} (I:Inv X pins σ H s) (e:H a=some (.dK kvs)):∃ o,Inv X pins σ (upd H a (.frz o (.dK kvs))) s:=by
 have oa:Ca X.prog X.w H s.heap a (.dK kvs):=I.hok a _ e
 obtain ⟨_,_,vs,rel,ob,es,ep,ho,_⟩:=id oa
 have up1:∀ b x,H b=some (.own x)->upd H a (.frz ob (.dK kvs)) b=some (.own x):=fun b x q=>by
  rw [Ar fun z=>by rw [z,e] at q; cases q]; exact q
 have up2:∀ b xs,H b=some (.tup xs)->upd H a (.frz ob (.dK kvs)) b=some (.tup xs):=fun b x q=>by
  rw [Ar fun z=>by rw [z,e] at q; cases q]; exact q
 refine ⟨ob,I.step (h':=s.heap) (g':=s.gens) (d':=s.drawn) (t':=s.toks) (ch:=[]) (fun _ z=>nomatch z) (fun b o _ _ _ q _=>q) (fun b o _ _ _ q _=>⟨o.slots,q⟩) (fun b o _ _ n=>?_) (fun b o _ q=>⟨o,q⟩) up2 (fun b o u q=>?_) (fun b ps q=>⟨#[],?_⟩) (fun m q=>q) (fun b u q=>?_) I.bare⟩
 ·rw [Ar fun z=>by rw [z,e] at n; cases n]; exact n
 ·rw [Ar fun z=>by rw [z,e] at q; cases q]; exact q
 ·rw [Ar (fun z=>by rw [z,e] at q; cases q),q]; simp
 ·by_cases hb:b=a
  ·subst hb
   rw [Ah] at q
   cases q
   exact ⟨ho,oa.stay (fun _ _ _ q=>q) (fun c q=>up1 c _ q) up2⟩
  ·rw [Ar hb] at q
   exact (I.hok b u q).stay (fun _ _ _ q=>q) (fun c q=>up1 c _ q) up2
end
noncomputable def rm (t:TS):TS:=fun D σ H=>t { D with nx:=fun σ' H'=>∃ a kvs,H' a=some (.dK kvs)/\∀ o,D.nx σ' (upd H' a (.frz o (.dK kvs))) } σ H
theorem Z0 {X:Cx} {ss:List Stmt} {t:TS} (h:PN X ss t):PN X ss (rm t):=by
 intro pins s σ H D I q
 refine CK (h pins s σ H _ I q) fun f s' hf=>?_
 cases f with
 | next =>
  obtain ⟨σ',H',J,a,kvs,e,qq⟩:=hf
  obtain ⟨o,J'⟩:=J.freeze e
  exact ⟨σ',_,J',qq o⟩
 | brk=>exact hf
 | cont=>exact hf
 | ret u=>exact hf
noncomputable def Vo (o:Obj):Nat:=match o.data with | .dict _ n=>n | _=>0
noncomputable def m8 (a:Addr) (o:Obj) (kvs:List (Key × V)):It :=
 ⟨fun i H=>H a=some (.frz o (.dK kvs))/\i<kvs.length,fun i H v H'=>∃ T kv,H T=none/\v=.ref T/\kvs[i]? = some kv/\H'=upd H T (.tup [kV kv.1,kv.2]),fun i H=>H a=some (.frz o (.dK kvs))/\kvs.length<=i⟩
theorem gD {P:Program} {w:World} {k:Key} {u:Value} (h:(CG P w).is k u=true):RelV (kV k) u:=by
 rcases CZ (show J0 k u=true from h) with ⟨i,t,rfl,rfl⟩ | ⟨x,t,rfl,rfl⟩
 ·exact ⟨t,rfl⟩
 ·exact ⟨t,rfl⟩
theorem Y8:∀ {l:List (Key × V)} {m:List (Key × Value)},KV l m->∀ {j:Nat} {p:Key × V},l[j]? = some p->∃ q,m[j]? = some q/\p.1=q.1/\RelV p.2 q.2:=by
 intro l m h
 unfold KV at h
 induction h with
 | nil=>intro j p hp; simp at hp
 | cons a b ih =>
  intro j p hp
  cases j with
  | zero =>
   simp at hp
   subst hp
   exact ⟨_,rfl,a⟩
  | succ j=>exact ih (by simpa using hp)
theorem PX {P:Program} {w:World} {K:PySem.W.Frag} {es:List Expr} {k1:Nat} {pos:Pos} (a it:Addr) (o:Obj) (kvs:List (Key × V)) (hne:a ≠ it) :
  Turn P w K (.Tuple es k1 pos) (m8 a o kvs) [it] it (fun i h=>∃ ok ov,IsItemIter h it a i kvs.length (Vo o) ok ov) where
 mem:=by simp
 obj:=fun i h st b hb=>by
  obtain ⟨ok,ov,he⟩:=st
  have q:b=it:=by simpa using hb
  subst q
  exact ⟨_,he,fun v z=>by
   have z':Data.fields _=Data.cell v:=z
   cases z'⟩
 keep:=fun i h h' st k=>by
  obtain ⟨ok,ov,he⟩:=st
  exact ⟨ok,ov,k it (by simp) _ he⟩
 item:=by
  intro X hP hw hK hc i pins s σ H E I hf st hg
  subst hP hw hK
  obtain ⟨ha,hi⟩:=hg
  obtain ⟨ok,ov,he⟩:=st
  have oa:Ca X.prog X.w H s.heap a (.frz o (.dK kvs)):=I.hok a _ ha
  refine byC fun w_=>?_;obtain ⟨ho,_,_,vs,rel,ob,es',ep',ho',e2,e3,e4,e5,e6⟩:=oa;refine w_ ?_
  rw [ho] at ho'
  cases ho'
  have eep:Vo o=ep':=by unfold Vo; rw [e3]
  have hda:s.heap.DictAt (CG X.prog X.w) a vs (Vo o):=⟨o,es',ho,e2,by rw [eep]; exact e3,e4,e5,e6⟩
  have hl:=rel.length
  obtain ⟨⟨k,x⟩,hx⟩:∃ p,kvs[i]? = some p:=⟨kvs[i],by simp [hi]⟩
  obtain ⟨⟨k',u⟩,hu,ek,ru⟩:∃ q,vs[i]? = some q/\k=q.1/\RelV x q.2:=by
   exact Y8 rel hx
  have ek':k=k':=ek
  subst ek'
  rw [hl] at he
  refine wpAny_pyNext_items_item he hda hu fun key h1 hkey n1 n3 n4 n5=>?_
  refine ⟨_,rfl,wpAny_letOwnedTupleGo_items (s:={ s with heap:=h1 }) n1 fun h2 m1 m2=>?_⟩
  have hT:s.heap.objs.size ≠ it:=gL (Heap.lt_size he)
  have fr:H s.heap.objs.size=none:=I.hok.fresh (aE _)
  have nw:Ca X.prog X.w (upd H s.heap.objs.size (.tup [kV k,x])) h2 s.heap.objs.size (.tup [kV k,x]) :=
   ⟨by show 2<=sizeLine; decide,[key,u],.cons (gD hkey) (.cons ru .nil),_,m2.extBut _ _ hT n3,rfl,_,rfl⟩
  refine ⟨.ref s.heap.objs.size,_,I.Ku (t':=s.toks) (ch:=[it]) hf (fun b o hb q=>?_) (aE _) nw,rfl,⟨_,(k,x),fr,rfl,hx,rfl⟩,⟨_,_,by rw [hl]; exact m1⟩,fun b hb=>?_⟩
  ·exact m2.extBut _ _ (fun z=>hb (by simp [z])) (n5 b o (fun z=>hb (by simp [z])) q)
  ·have q:b=it:=by simpa using hb
   subst q
   rw [Ar (Ne.symm hT)]
   exact (hf _ hb).1
 done:=by
  intro X hP hw hK hc i pins s σ H E I hf st hg
  subst hP hw hK
  obtain ⟨ha,hi⟩:=hg
  obtain ⟨ok,ov,he⟩:=st
  have oa:Ca X.prog X.w H s.heap a (.frz o (.dK kvs)):=I.hok a _ ha
  refine byC fun w_=>?_;obtain ⟨ho,_,_,vs,rel,ob,es',ep',ho',e2,e3,e4,e5,e6⟩:=oa;refine w_ ?_
  rw [ho] at ho'
  cases ho'
  have eep:Vo o=ep':=by unfold Vo; rw [e3]
  have hda:s.heap.DictAt (CG X.prog X.w) a vs (Vo o):=⟨o,es',ho,e2,by rw [eep]; exact e3,e4,e5,e6⟩
  have hl:=rel.length
  rw [hl] at he
  exact wpAny_pyNext_items_end (I.ok.hd hc) he hda (List.getElem?_eq_none (by omega)) fun h1 eb=>⟨rfl,I.Mm (t':=s.toks) (ch:=[it]) hf fun b o hb q=>eb b o (fun z=>hb (by simp [z])) q⟩
 self:=fun _ _ _ _ _ st h=>by
  obtain ⟨ok,ov,he⟩:=st
  exact PySem.W.kcp_self he h
noncomputable def ZM (td:TE):TI:=fun σ H R=>td σ H fun x H1=>∃ a o kvs,x=.ref a/\H1 a=some (.frz o (.dK kvs))/\R (m8 a o kvs) H1
theorem Vb {X:Cx} {es:List Expr} {k1:Nat} {tpos apos cpos:Pos} {o:Expr} {td:TE} (ho:PE X o td)
  (hbase:attributeBase o "items" X.env (eval o X.env)=eval o X.env:=by rfl) (hline:(apos.endLine == cpos.line)=true:=by rfl):PI X (.Tuple es k1 tpos) (.Call (.Attribute o "items" apos) [] [] cpos) (ZM td):=by
 intro pins s σ H R I h
 refine wpAny_Call_method0_late hbase hline (CK (ho pins s σ H _ I h) fun v s1 hq0=>?_)
 obtain ⟨x,H1,I1,r1,a,ob,kvs,ex,ea,q⟩:=hq0
 subst ex
 cases r1
 obtain ⟨t1,t2,t3⟩:=ZL I1 (.inl ⟨kvs,.inr ⟨ob,ea⟩⟩)
 refine ⟨"dict","dict.items",PySem.F.plainAttrs_dict,PySem.F.slot_dict_items,PySem.F.type_dict_items,t1,t2,Calls.callWith_builtin rfl (PySem.evalArgs_none ?_)⟩
 have oa:Ca X.prog X.w H1 s1.heap a (.frz ob (.dK kvs)):=I1.hok a _ ea
 obtain ⟨hob,_,_,vs,rel,ob',es',ep',ho',e2,e3,e4,e5,e6⟩:=oa
 rw [hob] at ho'
 cases ho'
 have eep:Vo ob=ep':=by unfold Vo; rw [e3]
 have hda:s1.heap.DictAt (CG X.prog X.w) a vs (Vo ob):=⟨ob,es',hob,e2,by rw [eep]; exact e3,e4,e5,e6⟩
 have hl:=rel.length
 refine call_meetsIn PySem.F.slot_dict_items t1 PySem.F.entry_dict_items (PySem.F.args_dict_items_1 _) (meets_dict_items (CG X.prog X.w) a t3) ⟨⟨vs,hda.dictOf⟩,?_⟩
 have ha:a<s1.heap.objs.size:=Heap.lt_size hob
 refine wpAny_pyIter_items (v:=s1.heap.objs.size) (d:=a) (kvs:=vs) (ep:=Vo ob) ⟨_,Heap.get?_push_size _ rfl,rfl,rfl⟩ (hda.push _) ?_
 have I2:=I1.kept (h':=s1.heap.push { cls:=.type "dict_items",data:=.fields #[.ref a] }) (t':=s1.toks) fun b o e=>Heap.get?_push_of_some _ e
 refine ⟨_,[_],_,_,H1,rfl,I2.kept (t':=s1.toks) fun b o e=>Heap.get?_push_of_some _ e,PX a _ ob kvs ?_,⟨_,_,by rw [hl]; exact Heap.get?_push_size _ rfl⟩,fun b hb=>?_,q⟩
 ·rw [Heap.size_push]
  exact cK (hG ha)
 ·have e:b=(s1.heap.push { cls:=.type "dict_items",data:=.fields #[.ref a] }).objs.size:=by simpa using hb
  subst e
  exact I2.La (aE _) (I2.hok.fresh (aE _))
section
variable {σ:St} {H1:Hp} {Q:VK} {tt:TT} {te:TE}
theorem Pj {K:PySem.W.Frag} {a:Addr} {o:Obj} {kvs:List (Key × V)} (p:Key × V->Bool) (f:Key × V->V) (hx:H1 a=some (.frz o (.dK kvs))) (hz:kvs.length<sizeLine)
  (ht:∀ kv∈kvs,∀ H,Ao H1 H->∀ R:Bool->Hp->Prop,(∀ H',Ao H H'->R (p kv) H')->tt (some (kV kv.1)::some kv.2::σ) H R)
  (he:∀ kv∈kvs,p kv=true->∀ H,Ao H1 H->∀ R:VK,(∀ H',Ao H H'->R (f kv) H')->te (some (kV kv.1)::some kv.2::σ) H R)
  (hq:∀ D H,H1 D=none->Ao H1 H->H D=some (.lst ((kvs.filter p).map f))->Q (.ref D) H):JS (m8 a o kvs) σ H1 Q (Pk K 2 (Hl (Dy 0) (Hl (Dy 1) Rm))) tt te:=by
 intro D hD
 have s0:Ao H1 (upd H1 D (.lst [])):=fun b o e=>by rw [Ar (Ak e hD)]; exact e
 refine ⟨fun i m zs H=>m=kvs.length - i/\i<=kvs.length/\zs=(((kvs.take i).filter p).map f)/\H D=some (.lst zs)/\Ao H1 H,⟨kvs.length,by simp,Nat.zero_le _,by simp,Ah,s0⟩,?_⟩
 rintro i m zs H ⟨rfl,hi,rfl,hd,hs⟩
 by_cases hlt:i<kvs.length
 ·refine .inr ⟨⟨hs _ _ hx,hlt⟩,fun v H3 hv v0 v1=>?_⟩
  obtain ⟨T,kv,hT,rfl,qx,rfl⟩:=hv
  have hkm:=ay qx
  have s3:Ao H (upd H T (.tup [kV kv.1,kv.2])):=fun b o e=>by rw [Ar (Ak e hT)]; exact e
  have hlen:(((kvs.take i).filter p).map f).length<sizeLine:=by
   rw [ai]
   refine bp (dt _ _) (bp ?_ hz)
   rw [dS]; omega
  refine ⟨T,[kV kv.1,kv.2],rfl,kR Ah,rfl,_,[kv.2],rfl,kv.2,[],rfl,rfl,⟨_,_,rfl⟩,?_⟩
  refine ht kv hkm _ (hs.trans s3) _ fun H4 s4=>?_
  by_cases hp:p kv=true
  ·rw [if_pos hp]
   refine he kv hkm hp _ (hs.trans (s3.trans s4)) _ fun H5 s5=>?_
   refine ⟨s5 _ _ (s4 _ _ (s3 _ _ hd)),hlen,kvs.length - (i+1),by omega,rfl,hlt,?_,Ah,fun b o e=>?_⟩
   ·rw [take_succ_filter p kvs i kv qx,if_pos hp,br]
    rfl
   ·rw [Ar (Ak e hD)]
    exact s5 _ _ (s4 _ _ (s3 _ _ (hs _ _ e)))
  ·rw [if_neg hp]
   refine ⟨kvs.length - (i+1),by omega,rfl,hlt,?_,s4 _ _ (s3 _ _ hd),hs.trans (s3.trans s4)⟩
   rw [take_succ_filter p kvs i kv qx,if_neg hp,ff]
 ·have e:i=kvs.length:=by omega
  subst e
  rw [fg] at hd
  exact .inl ⟨⟨hs _ _ hx,aE _⟩,hq D H hD hs hd⟩
end
end L2
namespace L2
open PySem PySem.Spec PyProof.Rows
section
variable {X:Cx}
end
end L2
namespace L2
open PySem PySem.Spec PySem.Calls PyProof.Rows
section
variable {X:Cx} {pins:List (Addr × Obj)} {σ:St} {H:Hp} {s:Shared} {x z y3:Str} {scope:Scope} {fp:List Addr} {C:Addr}
end
section
variable {X:Cx} {x z y3:Str} {scope:Scope}
end
section
variable {X:Cx} {x z y3:Str} {scope:Scope}
end
section
variable {X:Cx} {x z y3:Str} {scope:Scope}
end
section
variable {σ:St} {H1:Hp} {Q:VK} {tt:TT} {te:TE}
end
end L2
namespace Bw
noncomputable abbrev Tr:=Int × Int × Int
noncomputable abbrev Dr:=List Tr
noncomputable def Chain:Int->Dr->Prop
 | _,[]=>True
 | t,x::r=>x.1=t/\x.1<x.2.1/\Chain x.2.1 r
noncomputable def cnt (x:Tr):Nat:=(x.2.1 - x.1).toNat
noncomputable def tk (P:Int):Dr->List Int
 | []=>[]
 | x::r=>List.replicate (cnt x) (x.2.2 - P)++tk P r
noncomputable def stp (e x:Int):Int:=max 0 (e+x)
noncomputable def EF (e:Int) (W:List Int):Int:=W.foldl stp e
noncomputable abbrev E (W:List Int):Int:=EF 0 W
structure rE (W:List Int) (b0 b1 b2 taken since:Int):Prop where
 e:E W=max 0 taken
 le:∀ t,t<=W.length->E (W.take t)<=b0
 s0:0<=since
 s1:since<=W.length
 tk:taken=W.sum - (W.take since.toNat).sum
 b:(b0=0/\b1=0/\b2=0) \/ (0<b0/\0<=b1/\b1<b2/\b2<=W.length/\b0=(W.take b2.toNat).sum - (W.take b1.toNat).sum/\E (W.take b2.toNat)=b0)
noncomputable def fl (cap:Int):Int->List Int->Option Nat
 | _,[]=>none
 | e,x::r=>if e+x > cap then some 0 else (fl cap (stp e x) r).map (· + 1)
noncomputable def good (cap e x:Int) (c:Nat):Int:=if cap - e - x<0 then 0 else if -x ≥ 0 then (c:Int) else min (c:Int) ((cap - e) / x)
noncomputable def ps:Int->List Int->List Int
 | s,[]=>[s]
 | s,x::r=>s::ps (s+x) r
structure rY (W:List Int) (t:Nat) (low due:Int):Prop where
 e:(W.take t).sum - low=E (W.take t)
 le:∀ s,s<=t->E (W.take s)<=due
 ex:∃ s,s<=t/\E (W.take s)=due
end Bw
namespace Bw
end Bw
namespace Bw
noncomputable def ov (f b:Int) (x:Tr):Int:=max 0 (min x.2.1 b - max x.1 f)
end Bw
namespace Bw
end Bw
namespace Bw
end Bw
namespace Bw
end Bw
namespace Bw
open PySem L2 Og
theorem Ox (ns:List Int) (lo hi:Option Int):∃ ms:List Int,Fi (ns.map V.int) lo hi=ms.map V.int/\ms.length<=ns.length:=by
 unfold Fi
 refine ⟨(ns.drop (HT.Ek (ns.map V.int).length 0 lo)).take (HT.Ek (ns.map V.int).length (ns.map V.int).length hi - HT.Ek (ns.map V.int).length 0 lo),?_,?_⟩
 ·rw [← List.map_drop,← fT]
 ·rw [dS,ij]
  omega
theorem Nt {ns:List Int} {i:Int} (h0:0<=i) (h1:i<ns.length):∃ c,ns[i.toNat]? = some c/\c∈ns/\Lb (ns.map V.int) i=some (.int c):=by
 have hlt:i.toNat<ns.length:=by omega
 refine ⟨ns[i.toNat],ae hlt,ee hlt,?_⟩
 have e:(ns.map V.int)[i.toNat]? = some (.int ns[i.toNat]):=by rw [ar,ae hlt]; rfl
 have:=Ag e
 rw [show ((i.toNat:Nat):Int)=i by omega] at this
 exact this
theorem VB {n:Nat} {i:Int} (h0:0<=i) (h1:i<n):S8 n i=some i.toNat:=by unfold S8; rw [if_pos h0,if_pos h1]
noncomputable abbrev mj (x:Tr):List V:=[.int x.1,.int x.2.1,.int x.2.2]
structure dq (H:Hp) (a:Addr) (d:Dr) (ys:List V):Prop where
 l:H a=some (.lst ys)
 p:Paired (fun x v=>TupAt H (mj x) v) d ys
noncomputable def Bd (d:Dr):Prop:=∀ x∈d,0<=x.2.2/\x.2.2<2 ^ 41/\x.2.1 - x.1<2 ^ 35
noncomputable def DH (H:Hp) (dh pc:Addr) (n:Nat):Prop:=∃ (cs:List Int) (m r:Int),H dh=some (.lst [.ref pc,.int m,.int r,.int (n:Int)])/\H pc=some (.lst (cs.map V.int))/\dh ≠ pc/\(∀ c∈cs,0<=c)/\0<=m/\m<=cs.length/\0<=r/\r<2147483647/\1<=cs.length/\cs.length<=64
noncomputable def Y7 (H H':Hp) (dh pc:Addr):Prop:=∀ b,b ≠ dh->b ≠ pc->H' b=H b
theorem DH.same {H H':Hp} {dh pc:Addr} {n:Nat} (D:DH H dh pc n) (s:Ao H H'):DH H' dh pc n:=by
 obtain ⟨cs,m,r,e1,e2,e3⟩:=D
 exact ⟨cs,m,r,s _ _ e1,s _ _ e2,e3⟩
theorem DH.upd {H:Hp} {dh pc l:Addr} {n:Nat} {o:HO} (D:DH H dh pc n) (h1:l ≠ dh) (h2:l ≠ pc):DH (upd H l o) dh pc n:=by
 obtain ⟨cs,m,r,e1,e2,e3⟩:=D
 exact ⟨cs,m,r,by rw [Ar (Ne.symm h1)]; exact e1,by rw [Ar (Ne.symm h2)]; exact e2,e3⟩
noncomputable def WN (K:PySem.W.Frag):Sp:=fun vs H Q _=>∃ (a:Addr) (k:Nat) (ns:List Int),vs=[.ref a,.int (k:Nat)]/\Cz K H a (ns.map V.int)/\∀ c,Q (.int c) H
noncomputable def R4:Sp:=fun vs H Q _=>∃ (x:V) (b:Bool),vs=[x]/\((∃ i,x=.int i/\b=true) \/ (x=.non/\b=false))/\Q (.bl b) H
noncomputable def gO (K:PySem.W.Frag):Sp:=fun vs H Q _=>∃ (a:Addr) (st:Int) (ns:List Int),vs=[.ref a,.int st]/\Cz K H a (ns.map V.int)/\0<=st/\st<2147483647/\ns.length<=63/\∀ dh pc H',H dh=none->H pc=none->Ao H H'->DH H' dh pc 0->Q (.ref dh) H'
noncomputable def Uv:Sp:=fun vs H Q _=>∃ (dh pc:Addr) (n:Nat) (many:Int),vs=[.ref dh,.int many]/\DH H dh pc n/\n<1000000/\0<many/\many<1073741824/\∀ (r:Int) H',0<=r->r<many->DH H' dh pc (n+1)->Y7 H H' dh pc->Q (.int r) H'
noncomputable def Zz:Sp:=fun vs H Q _=>∃ (a:Addr) (d:Dr) (ys:List V) (P:Int),vs=[.ref a,.int P]/\dq H a d ys/\Chain 0 d/\Bd d/\d.length<=1000 /\
 ∀ p b0 b1 b2 taken since H',Ao H H'->H' p=some (.tup [.int b0,.int b1,.int b2])->rE (tk P d) b0 b1 b2 taken since->Q (.ref p) H'
noncomputable def Tv:Sp:=fun vs H Q _=>∃ (l:Addr) (d:Dr) (ys:List V) (P cap T:Int),vs=[.ref l,.int P,.int cap,.int T]/\dq H l d ys/\Chain 0 d/\Bd d/\d.length<=100/\0<=P/\P<2 ^ 60/\0<=cap/\0<=T/\T<(tk P d).length /\
 ∀ H',Ao H H'->Q (.bl true) H'
noncomputable def Ou (K:PySem.W.Frag):Sp:=fun vs H Q _=>∃ (a:Addr) (ns:List Int),vs=[.ref a]/\Cz K H a (ns.map V.int)/\ns.length<=63/\∀ H',Q (.bl true) H'
end Bw
namespace L2
open PySem PySem.Spec PyProof.Rows
section
variable {X:Cx} {o e f:Expr} {apos cpos:Pos} {td ty tx:TE}
end
end L2
namespace L2
open PySem PySem.Spec PyProof.Rows
theorem BW {X:Cx} {x:Str} {e:Expr} {te:TE} {pos' pos:Pos} (i:Nat) (hN:X.N.Nodup) (hi:X.N[i]? = some x) (hx:Loc X.env.scope x) (he:PE X e te) (hs:swapsWith e (some (.Name x pos')) pos.line X.env=pure false) (hf:X.fn x=true \/ X.env.scope.names.lookup x=some .local) :
  PS X (.Assign [.Name x pos'] e pos) (W7 te (Dy i)):=Bh hN hi hx he hs hf
end L2
namespace L2
open PySem PySem.Spec PyProof.Rows
theorem Ax {X:Cx} {e:Expr} {es:List Expr} {te:TE} {t:TA} (h:starEach (e::es) X.env=(false,eval e X.env)::starEach es X.env) (he:PE X e te) (ht:PA X es t):PA X (e::es) (YK te t):=Aa he ht h
end L2
namespace L2
open PySem PySem.Spec PyProof.Rows
end L2
namespace Og
open PySem L2 PyProof.Rows
variable {K:PySem.W.Frag}
structure PP (K:PySem.W.Frag) (aB aP aM:Addr):Prop where
 f:KF K aB aP aM
 pR:∃ a,PySem.W.nsIn K aP "rank" = some (some (.ref a))/\KTup K a (["new","pipes","wind"].map fun s:String=>V.str s)
 pL:∃ a,PySem.W.nsIn K aP "line" = some (some (.ref a))/\KTup K a (["rank","shift","low","high"].map fun s:String=>V.str s)
 bP:∃ a,PySem.W.nsIn K aB "pipes" = some (some (.ref a))/\KTup K a [.int 1,.int 97]
 bW:∃ a,PySem.W.nsIn K aB "wind" = some (some (.ref a))/\KTup K a [.int 0,.int 1000000000]
 bS:∃ a,PySem.W.nsIn K aB "shift" = some (some (.ref a))/\KTup K a [.int (-200),.int 200]
 bLo:∃ a,PySem.W.nsIn K aB "low" = some (some (.ref a))/\KTup K a [.int 0,.int 60]
 bHi:∃ a,PySem.W.nsIn K aB "high" = some (some (.ref a))/\KTup K a [.int 0,.int 60]
 bR:PySem.W.nsIn K aB "rank" = some none
 mR:∃ t,PySem.W.nsIn K aM "rank" = some (some (.int 12 t))
 mL:PySem.W.nsIn K aM "line" = some none
section
variable {aB aP aM:Addr} {ρ:V->R} {vs:List V} {wn:List (Str × Str)} {t:Str}
theorem RV {r:R} (h:Lh K aB aP aM ρ vs r) (hb:GJ ρ vs):HN K aB aP aM ρ vs r:=⟨h.ns,h.parts,.inr h.room,fun z=>absurd z h.nl,hb⟩
theorem TV (F:KF K aB aP aM) {wd:Str} (hw:wd = "stop" \/ wd = "mute") (e:HX ρ vs=wn) (ht:isNm t) (h:∀ w∈named,Qm wn w t=false) (hc:Uo wn wd<G_ wd) {a:Str} (ha:isNm a) (ha':Qm wn "board" a=true):Lh K aB aP aM ρ vs ⟨wd,t,[.str a]⟩:=by
 have parts:∀ (j:Nat) x (y:Str),[V.str t,.str a][j]? = some x->(["new","board"]:List Str)[j]? = some y->Ik K aB ρ vs x y:=fun j x y hx hy=>by
  match j,hx,hy with
  | 0,hx,hy =>
   cases (Option.some.inj hx)
   cases (Option.some.inj hy)
   exact JH F e ht h
  | 1,hx,hy =>
   cases (Option.some.inj hx)
   cases (Option.some.inj hy)
   exact Io F e ha ha'
  | j+2,hx,hy=>simp at hy
 have hcnt:=Iu ρ vs wd
 rw [e] at hcnt
 rcases hw with rfl | rfl
 ·obtain ⟨ap,g1,g2⟩:=F.pS
  obtain ⟨tk,g5⟩:=F.mS
  have hm:G_ "stop" = 24:=by decide +kernel
  refine ⟨by show ¬ ("stop" : Str) = "step"; decide +kernel,by show ¬ ("stop" : Str) = "line"; decide +kernel,⟨ap,["new","board"],g1,g2,rfl,by decide,parts⟩,⟨24,tk,g5,?_⟩⟩
  show (((vs.filter (pw ρ "stop")).length:Nat):Int)<24
  omega
 ·obtain ⟨ap,g1,g2⟩:=F.pM
  obtain ⟨tk,g5⟩:=F.mM
  have hm:G_ "mute" = 5:=by decide +kernel
  refine ⟨by show ¬ ("mute" : Str) = "step"; decide +kernel,by show ¬ ("mute" : Str) = "line"; decide +kernel,⟨ap,["new","board"],g1,g2,rfl,by decide,parts⟩,⟨5,tk,g5,?_⟩⟩
  show (((vs.filter (pw ρ "mute")).length:Nat):Int)<5
  omega
theorem Sx (F:PP K aB aP aM) (e:HX ρ vs=wn) (ht:isNm t) (h:∀ w∈named,Qm wn w t=false) (hc:Uo wn "rank" < 12) {n:Nat} {wi:Int} (h1:1<=n) (h2:n<=97) (h3:0<=wi) (h4:wi<=1000000000) (hb:GJ ρ vs):HN K aB aP aM ρ vs (Fy (t,n,wi)):=by
 obtain ⟨ap,g1,g2⟩:=F.pR
 obtain ⟨ab,g3,g4⟩:=F.bP
 obtain ⟨aw,g6,g7⟩:=F.bW
 obtain ⟨tk,g5⟩:=F.mR
 refine ⟨by show ¬ ("rank" : Str) = "step"; decide +kernel,⟨ap,["new","pipes","wind"],g1,g2,rfl,by decide,fun j x y hx hy=>?_⟩,.inr ⟨12,tk,g5,?_⟩,fun z=>absurd z (by show ¬ ("rank" : Str) = "line"; decide +kernel),hb⟩
 ·match j,hx,hy with
  | 0,hx,hy =>
   cases (Option.some.inj hx)
   cases (Option.some.inj hy)
   exact JH F.f e ht h
  | 1,hx,hy =>
   cases (Option.some.inj hx)
   cases (Option.some.inj hy)
   exact .inl ⟨((n:Nat):Int),1,97,ab,rfl,g3,g4,by omega,by omega⟩
  | 2,hx,hy =>
   cases (Option.some.inj hx)
   cases (Option.some.inj hy)
   exact .inl ⟨_,0,1000000000,aw,rfl,g6,g7,h3,h4⟩
  | j+3,hx,hy=>simp at hy
 ·rw [Iu,e]
  show ((Uo wn "rank" : Nat):Int)<12
  omega
theorem SQ (F:PP K aB aP aM) (e:HX ρ vs=wn) (ht:isNm t) (h:Qm wn "rank" t=true) {sh lo hi:Int} (b1 : -200<=sh) (b2:sh<=200) (b3:0<=lo) (b4:lo<=60) (b5:0<=hi) (b6:hi<=60) (hb:GJ ρ vs) (hl:QR ρ vs ⟨"line",t,[.int sh,.int lo,.int hi]⟩):HN K aB aP aM ρ vs ⟨"line",t,[.int sh,.int lo,.int hi]⟩:=by
 obtain ⟨ap,g1,g2⟩:=F.pL
 obtain ⟨a1,g3,g4⟩:=F.bS
 obtain ⟨a2,g5,g6⟩:=F.bLo
 obtain ⟨a3,g7,g8⟩:=F.bHi
 refine ⟨by show ¬ ("line" : Str) = "step"; decide +kernel,⟨ap,["rank","shift","low","high"],g1,g2,rfl,by decide,fun j x y hx hy=>?_⟩,.inl ⟨rfl,F.mL⟩,fun _=>hl,hb⟩
 match j,hx,hy with
 | 0,hx,hy =>
  cases (Option.some.inj hx)
  cases (Option.some.inj hy)
  exact .inr (.inr ⟨F.bR,by decide +kernel,_,rfl,ht,by rw [Jg,e]; exact h⟩)
 | 1,hx,hy =>
  cases (Option.some.inj hx)
  cases (Option.some.inj hy)
  exact .inl ⟨_,-200,200,a1,rfl,g3,g4,b1,b2⟩
 | 2,hx,hy =>
  cases (Option.some.inj hx)
  cases (Option.some.inj hy)
  exact .inl ⟨_,0,60,a2,rfl,g5,g6,b3,b4⟩
 | 3,hx,hy =>
  cases (Option.some.inj hx)
  cases (Option.some.inj hy)
  exact .inl ⟨_,0,60,a3,rfl,g7,g8,b5,b6⟩
 | j+4,hx,hy=>simp at hy
end
structure Ir (K:PySem.W.Frag) (aB aP aM:Addr) (ρ:V->R) (us:List V) (bs:List (Str × Nat)) (rk:List (Str × Nat × Int)) (ks:List R):Prop where
 kinds:∀ v∈us,(ρ v).w = "board" \/ (ρ v).w = "rank" \/ (ρ v).w = "line" \/ (ρ v).w = "stop" \/ (ρ v).w = "coupler" \/ (ρ v).w = "mute"
 eb:(us.filter (pw ρ "board")).map ρ=bs.map GP
 er:(us.filter (pw ρ "rank")).map ρ=rk.map Fy
 ek:(us.filter (fun v=>Jx (ρ v).w)).map ρ=ks
 ln:∀ (i:Nat) v,us[i]? = some v->(ρ v).w = "line"->(∃ (j:Nat) (r:Str × Nat × Int) (sh lo hi:Int),rk[j]? = some r/\r.1=(ρ v).nm/\(ρ v).rest=[.int sh,.int lo,.int hi])/\∃ u∈us.take i,Jx (ρ u).w=true
 ok:∀ (i:Nat) v,us[i]? = some v->HN K aB aP aM ρ (us.take i) (ρ v)
section
variable {aB aP aM:Addr} {ρ:V->R} {us:List V} {v:V} {bs bs':List (Str × Nat)} {rk rk':List (Str × Nat × Int)} {ks ks':List R}
theorem NZ {w t:Str}:Yd ρ us w t=true ↔ ∃ v∈us,(ρ v).w=w/\(ρ v).nm=t:=by
 unfold Yd
 rw [gy]
 constructor
 ·rintro ⟨v,hv,hn⟩
  obtain ⟨h1,h2⟩:=cq.mp hv
  exact ⟨v,h1,V.str.inj (of_decide_eq_true h2),V.str.inj (of_decide_eq_true hn)⟩
 ·rintro ⟨v,hv,h1,h2⟩
  exact ⟨v,cq.mpr ⟨hv,decide_eq_true (congrArg V.str h1)⟩,decide_eq_true (congrArg V.str h2)⟩
theorem Ir.nil:Ir K aB aP aM ρ [] [] [] []:=⟨(fun _ h=>nomatch h),rfl,rfl,rfl,(fun i v h=>by simp at h),(fun i v h=>by simp at h)⟩
theorem Ir.YF (h:Ir K aB aP aM ρ us bs rk ks) (hv:v∈us) (hw:(ρ v).w = "board"):∃ b∈bs,GP b=ρ v:=by
 have:ρ v∈(us.filter (pw ρ "board")).map ρ:=cr (cq.mpr ⟨hv,decide_eq_true (congrArg V.str hw)⟩)
 rw [h.eb] at this
 exact aI.mp this
theorem Ir.d8 (h:Ir K aB aP aM ρ us bs rk ks) (hv:v∈us) (hw:(ρ v).w = "rank"):∃ b∈rk,Fy b=ρ v:=by
 have:ρ v∈(us.filter (pw ρ "rank")).map ρ:=cr (cq.mpr ⟨hv,decide_eq_true (congrArg V.str hw)⟩)
 rw [h.er] at this
 exact aI.mp this
theorem Ir.UT (h:Ir K aB aP aM ρ us bs rk ks) (hv:v∈us) (hw:Jx (ρ v).w=true):ρ v∈ks:=by
 have:ρ v∈(us.filter (fun v=>Jx (ρ v).w)).map ρ:=cr (cq.mpr ⟨hv,hw⟩)
 rw [h.ek] at this
 exact this
theorem Ir.aj (h:Ir K aB aP aM ρ us bs rk ks):GJ ρ us:=fun v hv hw=>by
 obtain ⟨b,_,e⟩:=h.YF hv hw
 exact ⟨_,by rw [← e]⟩
theorem Ir.YC (h:Ir K aB aP aM ρ us bs rk ks) {b:Str × Nat} (hb:b∈bs):∃ v∈us,ρ v=GP b:=by
 have:GP b∈(us.filter (pw ρ "board")).map ρ:=by rw [h.eb]; exact cr hb
 obtain ⟨v,hv,e⟩:=aI.mp this
 exact ⟨v,(cq.mp hv).1,e⟩
theorem Ir.ik (h:Ir K aB aP aM ρ us bs rk ks) {r:Str × Nat × Int} (hr:r∈rk):∃ v∈us,ρ v=Fy r:=by
 have:Fy r∈(us.filter (pw ρ "rank")).map ρ:=by rw [h.er]; exact cr hr
 obtain ⟨v,hv,e⟩:=aI.mp this
 exact ⟨v,(cq.mp hv).1,e⟩
theorem Ir.Qg (h:Ir K aB aP aM ρ us bs rk ks) {b:Str × Nat} (hb:b∈bs):Qm (HX ρ us) "board" b.1=true:=by
 obtain ⟨v,hv,e⟩:=h.YC hb
 rw [← Jg,NZ]
 exact ⟨v,hv,by rw [e],by rw [e]⟩
theorem Ir.ZR (h:Ir K aB aP aM ρ us bs rk ks) {r:Str × Nat × Int} (hr:r∈rk):Qm (HX ρ us) "rank" r.1=true:=by
 obtain ⟨v,hv,e⟩:=h.ik hr
 rw [← Jg,NZ]
 exact ⟨v,hv,by rw [e],by rw [e]⟩
theorem KR {w:Str} (h:w = "stop" \/ w = "coupler" \/ w = "mute"):Jx w=true:=by rcases h with rfl | rfl | rfl <;> decide +kernel
theorem Ir.fresh (h:Ir K aB aP aM ρ us bs rk ks) {t:Str} (hb:∀ b∈bs,b.1 ≠ t) (hr:∀ r∈rk,r.1 ≠ t) (hk:∀ k∈ks,k.nm ≠ t):∀ w∈named,Qm (HX ρ us) w t=false:=by
 intro w hw
 rw [← Jg,← gp,NZ]
 rintro ⟨v,hv,hw',hn⟩
 simp only [List.mem_cons,List.mem_singleton,List.not_mem_nil,or_false] at hw
 rcases hw with rfl | rfl | rfl | rfl | rfl
 ·obtain ⟨b,hb',e⟩:=h.YF hv hw'
  exact hb b hb' (by rw [← hn,← e])
 ·obtain ⟨b,hb',e⟩:=h.d8 hv hw'
  exact hr b hb' (by rw [← hn,← e])
 ·exact hk _ (h.UT hv (KR (.inl hw'))) hn
 ·exact hk _ (h.UT hv (KR (.inr (.inl hw')))) hn
 ·exact hk _ (h.UT hv (KR (.inr (.inr hw')))) hn
theorem Ir.iJ (h:Ir K aB aP aM ρ us bs rk ks):Uo (HX ρ us) "board" = bs.length:=by
 rw [← Iu,← ai (f:=ρ),h.eb,ai]
theorem Ir.gj (h:Ir K aB aP aM ρ us bs rk ks):Uo (HX ρ us) "rank" = rk.length:=by
 rw [← Iu,← ai (f:=ρ),h.er,ai]
theorem Ir.Xx (h:Ir K aB aP aM ρ us bs rk ks) {w:Str} (hw:w = "stop" \/ w = "coupler" \/ w = "mute"):Uo (HX ρ us) w=(ks.filter fun r=>decide (V.str r.w=V.str w)).length:=by
 rw [← Iu,← h.ek,eS,ai,List.filter_filter]
 refine congrArg List.length (List.filter_congr fun v _=>?_)
 show pw ρ w v=(pw ρ w v && Jx (ρ v).w)
 by_cases e:(ρ v).w=w
 ·rw [KR (by rw [e]; exact hw),Bool.and_true]
 ·have:pw ρ w v=false:=decide_eq_false fun z=>e (V.str.inj z)
  rw [this,ia]
theorem Ir.snoc (h:Ir K aB aP aM ρ us bs rk ks) (hk:(ρ v).w = "board" \/ (ρ v).w = "rank" \/ (ρ v).w = "line" \/ (ρ v).w = "stop" \/ (ρ v).w = "coupler" \/ (ρ v).w = "mute")
  (eb:((us++[v]).filter (pw ρ "board")).map ρ=bs'.map GP) (er:((us++[v]).filter (pw ρ "rank")).map ρ=rk'.map Fy) (ek:((us++[v]).filter (fun v=>Jx (ρ v).w)).map ρ=ks')
  (hr:∀ (j:Nat) r,rk[j]? = some r->rk'[j]? = some r)
  (hl:(ρ v).w = "line"->(∃ (j:Nat) (r:Str × Nat × Int) (sh lo hi:Int),rk'[j]? = some r/\r.1=(ρ v).nm/\(ρ v).rest=[.int sh,.int lo,.int hi])/\∃ u∈us,Jx (ρ u).w=true)
  (ok:HN K aB aP aM ρ us (ρ v)):Ir K aB aP aM ρ (us++[v]) bs' rk' ks':=by
 have at_:∀ {i:Nat} {u:V},(us++[v])[i]? = some u->us[i]? = some u/\(us++[v]).take i=us.take i \/ u=v/\(us++[v]).take i=us:=fun {i u} hi=>by
  by_cases hlt:i<us.length
  ·rw [eJ hlt] at hi
   exact .inl ⟨hi,fR (ga hlt)⟩
  ·have h2:=(ah.mp hi).1
   rw [av,bq] at h2
   have hil:i=us.length:=by omega
   subst hil
   rw [cv (aE _),iO] at hi
   exact .inr ⟨(Option.some.inj hi).symm,by rw [fR (aE _),fg]⟩
 refine ⟨fun u hu=>?_,eb,er,ek,fun i u hi hw=>?_,fun i u hi=>?_⟩
 ·rcases ba.mp hu with h' | h'
  ·exact h.kinds u h'
  ·rw [aS.mp h']
   exact hk
 ·rcases at_ hi with ⟨h1,h2⟩ | ⟨rfl,h2⟩
  ·rw [h2]
   obtain ⟨⟨j,r,sh,lo,hi',g1,g2,g3⟩,g4⟩:=h.ln i u h1 hw
   exact ⟨⟨j,r,sh,lo,hi',hr j r g1,g2,g3⟩,g4⟩
  ·rw [h2]
   exact hl hw
 ·rcases at_ hi with ⟨h1,h2⟩ | ⟨rfl,h2⟩
  ·rw [h2]
   exact h.ok i u h1
  ·rw [h2]
   exact ok
theorem Kc {p:V->Bool} (h:p v=true):(us++[v]).filter p=us.filter p++[v]:=by
 rw [dE,gz,if_pos h]
 rfl
theorem Fv {p:V->Bool} (h:p v=false):(us++[v]).filter p=us.filter p:=by
 rw [dE,gz,if_neg (by rw [h]; decide)]
 simp
end
structure Gh (K:PySem.W.Frag) (aB aP aM:Addr) (rows:List R) (bs:List (Str × Nat)) (rk:List (Str × Nat × Int)) (ks:List R) (ls:List (List Ln)):Prop where
 ok:∀ (ρ:V->R) (us:List V),us.map ρ=rows->Ir K aB aP aM ρ us bs rk ks
 ln0:ks=[]->∀ rk',linesOf rk' rows=[]
 ln:linesOf rk rows=ls
section
variable {aB aP aM:Addr} {rows:List R} {bs:List (Str × Nat)} {rk:List (Str × Nat × Int)} {ks:List R} {ls:List (List Ln)}
theorem Gh.nil:Gh K aB aP aM [] [] [] [] []:=⟨fun ρ us e=>by rw [List.map_eq_nil_iff.mp e]; exact Ir.nil,fun _ _=>rfl,rfl⟩
theorem KD {ρ:V->R} {us:List V} {r:R} (e:us.map ρ=rows++[r]):∃ us' v,us=us'++[v]/\us'.map ρ=rows/\ρ v=r:=by
 obtain ⟨a,b,rfl,h1,h2⟩:=List.map_eq_append_iff.mp e
 obtain ⟨v,l,rfl,h3,h4⟩:=List.map_eq_cons_iff.mp h2
 rw [List.map_eq_nil_iff.mp h4]
 exact ⟨a,v,rfl,h1,h3⟩
theorem Gh.HR (F:PP K aB aP aM) (h:Gh K aB aP aM rows bs [] [] []) {t:Str} {n:Nat} (ht:isNm t) (hf:∀ b∈bs,b.1 ≠ t) (hb:bs.length<5) (h1:1<=n) (h2:n<=61):Gh K aB aP aM (rows++[GP (t,n)]) (bs++[(t,n)]) [] [] []:=by
 refine ⟨fun ρ us e=>?_,fun _ rk'=>?_,?_⟩
 ·obtain ⟨us',v,rfl,e',hv⟩:=KD e
  have O:=h.ok ρ us' e'
  refine O.snoc (.inl (by rw [hv])) ?_ ?_ ?_ (fun _ _ h=>h) (fun z=>absurd (hv ▸ z) (by show ¬ ("board" : Str) = "line"; decide +kernel)) ?_
  ·rw [Kc (by unfold pw; rw [hv]; exact decide_eq_true rfl),List.map_append,O.eb,List.map_append,List.map_singleton,hv]
   rfl
  ·rw [Fv (by unfold pw; rw [hv]; show decide (V.str "board" = V.str "rank")=false; decide +kernel),O.er]
  ·rw [Fv (by rw [hv]; show Jx "board" = false; decide +kernel),O.ek]
  ·rw [hv]
   exact RV (R7 F.f rfl ht (O.fresh hf (fun _ z=>nomatch z) (fun _ z=>nomatch z)) (by rw [O.iJ]; exact hb) h1 h2) O.aj
 ·rw [Cj,h.ln0 rfl rk']
  rfl
 ·rw [Cj,h.ln0 rfl []]
  rfl
theorem Gh.rank (F:PP K aB aP aM) (h:Gh K aB aP aM rows bs rk [] []) {t:Str} {n:Nat} {wi:Int} (ht:isNm t) (hf:∀ b∈bs,b.1 ≠ t) (hr:∀ r∈rk,r.1 ≠ t) (hc:rk.length<12) (h1:1<=n) (h2:n<=97) (h3:0<=wi) (h4:wi<=1000000000):Gh K aB aP aM (rows++[Fy (t,n,wi)]) bs (rk++[(t,n,wi)]) [] []:=by
 refine ⟨fun ρ us e=>?_,fun _ rk'=>?_,?_⟩
 ·obtain ⟨us',v,rfl,e',hv⟩:=KD e
  have O:=h.ok ρ us' e'
  refine O.snoc (.inr (.inl (by rw [hv]))) ?_ ?_ ?_ (fun j r h=>by rw [List.getElem?_append_left (List.getElem?_eq_some_iff.mp h).1]; exact h) (fun z=>absurd (hv ▸ z) (by show ¬ ("rank" : Str) = "line"; decide +kernel)) ?_
  ·rw [Fv (by unfold pw; rw [hv]; show decide (V.str "rank" = V.str "board")=false; decide +kernel),O.eb]
  ·rw [Kc (by unfold pw; rw [hv]; exact decide_eq_true rfl),List.map_append,O.er,List.map_append,List.map_singleton,hv]
   rfl
  ·rw [Fv (by rw [hv]; show Jx "rank" = false; decide +kernel),O.ek]
  ·rw [hv]
   exact Sx F rfl ht (O.fresh hf hr (fun _ z=>nomatch z)) (by rw [O.gj]; exact hc) h1 h2 h3 h4 O.aj
 ·rw [Cj,h.ln0 rfl rk']
  rfl
 ·rw [Cj,h.ln0 rfl _]
  rfl
theorem Gh.YW (h:Gh K aB aP aM rows bs rk ks ls) {r:R} (hw:r.w = "stop" \/ r.w = "coupler" \/ r.w = "mute") (hr:∀ (ρ:V->R) (us:List V),us.map ρ=rows->Lh K aB aP aM ρ us r):Gh K aB aP aM (rows++[r]) bs rk (ks++[r]) (ls++[[]]):=by
 have hK:=KR hw
 refine ⟨fun ρ us e=>?_,fun z=>by simp at z,?_⟩
 ·obtain ⟨us',v,rfl,e',hv⟩:=KD e
  have O:=h.ok ρ us' e'
  refine O.snoc (.inr (.inr (.inr (by rw [hv]; exact hw)))) ?_ ?_ ?_ (fun _ _ h=>h) (fun z=>?_) ?_
  ·rw [Fv (by unfold pw; rw [hv]; rcases hw with e | e | e <;> rw [e] <;> decide +kernel),O.eb]
  ·rw [Fv (by unfold pw; rw [hv]; rcases hw with e | e | e <;> rw [e] <;> decide +kernel),O.er]
  ·rw [Kc (by rw [hv]; exact hK),br,O.ek,List.map_singleton,hv]
  ·rw [hv] at z
   rcases hw with e | e | e <;> rw [e] at z <;> exact absurd z (by decide +kernel)
  ·rw [hv]
   exact RV (hr ρ us' e') O.aj
 ·rw [Cj,h.ln]
  unfold GZ
  rw [if_pos hK]
theorem Gh.Xg (F:PP K aB aP aM) (h:Gh K aB aP aM rows bs rk ks ls) {t a b:Str} {n m:Nat} {s:Int} (ht:isNm t) (hb:∀ b∈bs,b.1 ≠ t) (hr:∀ r∈rk,r.1 ≠ t) (hk:∀ k∈ks,k.nm ≠ t) (hc:(ks.filter fun r=>decide (V.str r.w=V.str "coupler")).length<12) (ha:isNm a) (ha':(a,n)∈bs) (hb1:isNm b) (hb':(b,m)∈bs) (h1 : -60<=s) (h2:s<=60) :
  Gh K aB aP aM (rows++[⟨"coupler",t,[.str a,.str b,.int s]⟩]) bs rk (ks++[⟨"coupler",t,[.str a,.str b,.int s]⟩]) (ls++[[]]) :=
 h.YW (.inr (.inl rfl)) fun ρ us e=>by
  have O:=h.ok ρ us e
  exact N_ F.f rfl ht (O.fresh hb hr hk) (by rw [O.Xx (.inr (.inl rfl))]; exact hc) ha (O.Qg ha') hb1 (O.Qg hb') h1 h2
theorem Gh.plain (F:PP K aB aP aM) (h:Gh K aB aP aM rows bs rk ks ls) {wd t a:Str} {n:Nat} (hw:wd = "stop" \/ wd = "mute") (ht:isNm t) (hb:∀ b∈bs,b.1 ≠ t) (hr:∀ r∈rk,r.1 ≠ t) (hk:∀ k∈ks,k.nm ≠ t) (hc:(ks.filter fun r=>decide (V.str r.w=V.str wd)).length<G_ wd) (ha:isNm a) (ha':(a,n)∈bs) :
  Gh K aB aP aM (rows++[⟨wd,t,[.str a]⟩]) bs rk (ks++[⟨wd,t,[.str a]⟩]) (ls++[[]]):=by
 have hw3:wd = "stop" \/ wd = "coupler" \/ wd = "mute":=by rcases hw with e | e; exact .inl e; exact .inr (.inr e)
 exact h.YW hw3 fun ρ us e=>by
  have O:=h.ok ρ us e
  exact TV F.f hw rfl ht (O.fresh hb hr hk) (by rw [O.Xx hw3]; exact hc) ha (O.Qg ha')
noncomputable def Tl (rows:List R) (bd:Str) (cnt:Nat):Prop:=∃ (r0:List R) (st:R) (lr:List R),rows=r0++st::lr/\st.w = "stop" /\ st.rest=[.str bd]/\lr.length=cnt/\∀ r∈lr,r.w = "line"
theorem Tl.stop (rows:List R) (t bd:Str):Tl (rows++[⟨"stop",t,[.str bd]⟩]) bd 0:=⟨rows,_,[],rfl,rfl,rfl,rfl,fun _ h=>nomatch h⟩
theorem Tl.line {bd:Str} {cnt:Nat} {r:R} (h:Tl rows bd cnt) (hw:r.w = "line"):Tl (rows++[r]) bd (cnt+1):=by
 obtain ⟨r0,st,lr,rfl,h1,h2,h3,h4⟩:=h
 refine ⟨r0,st,lr++[r],by simp,h1,h2,by simp [h3],fun x hx=>?_⟩
 rcases ba.mp hx with g | g
 ·exact h4 x g
 ·rw [aS.mp g]
  exact hw
theorem Gh.line (F:PP K aB aP aM) {l0:List Ln} (h:Gh K aB aP aM rows bs rk ks (ls++[l0])) {bd:Str} {cnt:Nat} (T:Tl rows bd cnt) (hc:cnt<4) {j n m:Nat} {t:Str} {wi sh lo hi:Int} (hj:rk[j]? = some (t,m,wi)) (hnd:(rk.map (·.1)).Nodup) (ht:isNm t) (hbd:(bd,n)∈bs) (hle:lo<=hi) (hn:hi<(n:Int)) (b1 : -200<=sh) (b2:sh<=200) (b3:0<=lo) (b6:hi<=60) :
  Gh K aB aP aM (rows++[⟨"line",t,[.int sh,.int lo,.int hi]⟩]) bs rk ks (ls++[l0++[⟨j,sh,lo,hi⟩]]):=by
 obtain ⟨r0,st,lr,er,g1,g2,g3,g4⟩:=T
 have nK:Jx "line" = false:=by decide +kernel
 refine ⟨fun ρ us e=>?_,fun z=>?_,?_⟩
 ·obtain ⟨us',v,rfl,e',hv⟩:=KD e
  have O:=h.ok ρ us' e'
  obtain ⟨u0,u1,eu,m1,m2⟩:=List.map_eq_append_iff.mp (e'.trans er)
  obtain ⟨sv,lv,e1,m3,m4⟩:=List.map_eq_cons_iff.mp m2
  subst e1
  have hsv:sv∈us':=by rw [eu]; simp
  have hlv:lv.length=cnt:=by rw [← g3,← m4,ai]
  have hus:us'.length=u0.length+(cnt+1):=by rw [eu,av,bv,hlv]
  refine O.snoc (.inr (.inr (.inl (by rw [hv])))) ?_ ?_ ?_ (fun _ _ h=>h) (fun _=>⟨⟨j,_,sh,lo,hi,hj,by rw [hv],by rw [hv]⟩,sv,hsv,by rw [m3,g1]; decide +kernel⟩) ?_
  ·rw [Fv (by unfold pw; rw [hv]; show decide (V.str "line" = V.str "board")=false; decide +kernel),O.eb]
  ·rw [Fv (by unfold pw; rw [hv]; show decide (V.str "line" = V.str "rank")=false; decide +kernel),O.er]
  ·rw [Fv (by rw [hv]; exact nK),O.ek]
  ·rw [hv]
   have hst:us'[us'.length - 1 - cnt]? = some sv:=by
    have:us'.length - 1 - cnt=u0.length:=by omega
    rw [this,eu,cv (aE _),iO]
    rfl
   refine SQ F rfl ht (O.ZR (ay hj)) b1 b2 b3 (by omega) (by omega) b6 O.aj ⟨cnt,sv,sh,lo,hi,bd,[],rfl,⟨fun i hi'=>?_,by omega,sv,hst,by rw [m3,g1]; decide +kernel⟩,hc,hst,by rw [m3,g1],by rw [m3,g2],hle,?_⟩
   ·have hi2:cnt - 1 - i<lv.length:=by omega
    refine ⟨lv[cnt - 1 - i],?_,?_⟩
    ·have:us'.length - 1 - i=u0.length+((cnt - 1 - i)+1):=by omega
     rw [this,eu,cv (jv _ _),iq,List.getElem?_cons_succ]
     exact ae hi2
    ·refine g4 _ ?_
     rw [← m4]
     exact cr (ee hi2)
   ·obtain ⟨u,hu,hub⟩:=O.YC hbd
    rw [gy]
    refine ⟨u,cq.mpr ⟨hu,?_⟩,?_⟩
    ·unfold pw
     rw [hub]
     exact decide_eq_true rfl
    ·show (pn ρ bd u && decide (hi<Yu (ρ u)))=true
     unfold pn
     rw [hub,fz]
     exact ⟨decide_eq_true rfl,decide_eq_true hn⟩
 ·subst z
  have:=h.ln0 rfl rk
  rw [h.ln] at this
  simp at this
 ·rw [Cj,h.ln]
  unfold GZ
  rw [if_neg (by show ¬ Jx "line" = true; rw [nK]; decide),if_pos rfl,IV]
  have hjl:=(ah.mp hj).1
  have:(rk.map (·.1)).idxOf t=j:=by
   have hl:j<(rk.map (·.1)).length:=by rw [ai]; exact hjl
   have e2:(rk.map (·.1))[j]=t:=by
    rw [kH]
    have:=(ah.mp hj).2
    rw [this]
   rw [← e2]
   exact hnd.idxOf_getElem j hl
  show ls++[l0++[⟨(rk.map (·.1)).idxOf t,sh,lo,hi⟩]]=_
  rw [this]
theorem Gh.fin {H:Hp} {vs:List V} (h:Gh K aB aP aM rows bs rk ks ls) (hv:Paired (fun (r:R) v=>TupAt H r.v v) rows vs) (b0:1<=bs.length) (b5:bs.length<=5) (sz:∀ b∈bs,b.2<=61) (nr:rk.length<=12) (nz:∀ r∈rk,r.2.1<=97) (nk:ks.length<=100) (nb:(bs.map (·.1)).Nodup) (nrr:(rk.map (·.1)).Nodup) (nn:(ks.map (·.nm)).Nodup) (len:rows.length<=150) :
  Rows H (Tf H) vs/\g_ K aB aP aM (Tf H) vs bs rk ks/\linesOf rk (vs.map (Tf H))=ls:=by
 have em:=Rc hv
 have O:=h.ok (Tf H) vs em
 refine ⟨fun v hv'=>?_,⟨O.kinds,O.eb,O.er,O.ek,O.ln,b0,b5,sz,nr,nz,nk,nb,nrr,nn,by rw [← hv.length]; exact len,O.ok⟩,by rw [em]; exact h.ln⟩
 obtain ⟨r,_,hr⟩:=Cg hv hv'
 rw [Qj hr]
 exact hr
end
end Og
namespace Og
open PySem L2 PyProof.Rows
noncomputable def aY:List Str:=["x","y","z"]
noncomputable def Z7:List Str:=["u","v","w"]
noncomputable def stL:List Str:=["sa","sb","sc","sd","se","sf","sg","sh","si","sj","sk","sl"]
noncomputable def Q0:List Str:=["ca","cb","cc","cd","ce","cf","cg","ch","ci","cj","ck","cl"]
noncomputable def RZ:List Str:=["ma","mb"]
noncomputable abbrev DX (i:Nat):Str:=aY.getD i ""
noncomputable abbrev Dj (i:Nat):Str:=Z7.getD i ""
set_option genInjectivity false in
inductive Gp where
 | st (k b:Nat) (ls:List Ln)
 | cp (k i j:Nat) (s:Int)
 | mu (k b:Nat)
noncomputable def Gp.nm:Gp->Str
 | .st k _ _=>stL.getD k ""
 | .cp k _ _ _=>Q0.getD k ""
 | .mu k _=>RZ.getD k ""
noncomputable def Gp.head:Gp->R
 | .st k b _=>⟨"stop",stL.getD k "",[.str (DX b)]⟩
 | .cp k i j s=>⟨"coupler",Q0.getD k "",[.str (DX i),.str (DX j),.int s]⟩
 | .mu k b=>⟨"mute",RZ.getD k "",[.str (DX b)]⟩
noncomputable def Gp.LQ:Gp->List Ln
 | .st _ _ ls=>ls
 | _=>[]
noncomputable def LK (l:Ln):R:=⟨"line",Dj l.r,[.int l.sh,.int l.lo,.int l.hi]⟩
noncomputable def Gp.rows (g:Gp):List R:=g.head::g.LQ.map LK
noncomputable def Yl (z nr:Nat) (l:Ln):Prop:=l.r<nr /\ -200<=l.sh/\l.sh<=200/\0<=l.lo/\l.lo<=l.hi/\l.hi<(z:Int)
noncomputable def Gp.ok (sz:List Nat) (nr:Nat):Gp->Prop
 | .st k b ls=>k<12/\b<sz.length/\ls.length<=4/\∀ l∈ls,Yl (sz.getD b 0) nr l
 | .cp k i j s=>k<12/\i<sz.length/\j<sz.length /\ -60<=s/\s<=60
 | .mu k b=>k<2/\b<sz.length
theorem bf {k:Nat} (h:k<12):∃ c,Lb ("abcdefghijkl" : Str).cps.toList (k:Int)=some c/\("s" : Str)++⟨#[c]⟩=stL.getD k "":=by
 match k,h with
 | 0,_=>exact ⟨_,rfl,rfl⟩
 | 1,_=>exact ⟨_,rfl,rfl⟩
 | 2,_=>exact ⟨_,rfl,rfl⟩
 | 3,_=>exact ⟨_,rfl,rfl⟩
 | 4,_=>exact ⟨_,rfl,rfl⟩
 | 5,_=>exact ⟨_,rfl,rfl⟩
 | 6,_=>exact ⟨_,rfl,rfl⟩
 | 7,_=>exact ⟨_,rfl,rfl⟩
 | 8,_=>exact ⟨_,rfl,rfl⟩
 | 9,_=>exact ⟨_,rfl,rfl⟩
 | 10,_=>exact ⟨_,rfl,rfl⟩
 | 11,_=>exact ⟨_,rfl,rfl⟩
theorem bZ {k:Nat} (h:k<12):∃ c,Lb ("abcdefghijkl" : Str).cps.toList (k:Int)=some c/\("c" : Str)++⟨#[c]⟩=Q0.getD k "":=by
 match k,h with
 | 0,_=>exact ⟨_,rfl,rfl⟩
 | 1,_=>exact ⟨_,rfl,rfl⟩
 | 2,_=>exact ⟨_,rfl,rfl⟩
 | 3,_=>exact ⟨_,rfl,rfl⟩
 | 4,_=>exact ⟨_,rfl,rfl⟩
 | 5,_=>exact ⟨_,rfl,rfl⟩
 | 6,_=>exact ⟨_,rfl,rfl⟩
 | 7,_=>exact ⟨_,rfl,rfl⟩
 | 8,_=>exact ⟨_,rfl,rfl⟩
 | 9,_=>exact ⟨_,rfl,rfl⟩
 | 10,_=>exact ⟨_,rfl,rfl⟩
 | 11,_=>exact ⟨_,rfl,rfl⟩
theorem eY {k:Nat} (h:k<2):∃ c,Lb ("ab" : Str).cps.toList (k:Int)=some c/\("m" : Str)++⟨#[c]⟩=RZ.getD k "":=by
 match k,h with
 | 0,_=>exact ⟨_,rfl,rfl⟩
 | 1,_=>exact ⟨_,rfl,rfl⟩
theorem PJ {k:Nat} (h:k<3):∃ c,Lb ("xyz" : Str).cps.toList (k:Int)=some c/\(⟨#[c]⟩:Str)=DX k:=by
 match k,h with
 | 0,_=>exact ⟨_,rfl,rfl⟩
 | 1,_=>exact ⟨_,rfl,rfl⟩
 | 2,_=>exact ⟨_,rfl,rfl⟩
theorem X5 {k:Nat} (h:k<3):∃ c,Lb ("uvw" : Str).cps.toList (k:Int)=some c/\(⟨#[c]⟩:Str)=Dj k:=by
 match k,h with
 | 0,_=>exact ⟨_,rfl,rfl⟩
 | 1,_=>exact ⟨_,rfl,rfl⟩
 | 2,_=>exact ⟨_,rfl,rfl⟩
noncomputable def GK (sz:List Nat):List (Str × Nat):=sz.zipIdx.map fun p=>(DX p.2,p.1)
noncomputable def Eg (rk:List (Nat × Int)):List (Str × Nat × Int):=rk.zipIdx.map fun p=>(Dj p.2,p.1.1,p.1.2)
structure QB (sz:List Nat) (rk:List (Nat × Int)) (gs:List Gp):Prop where
 l1:1<=sz.length
 l3:sz.length<=3
 z:∀ x∈sz,1<=x/\x<=61
 r1:1<=rk.length
 r3:rk.length<=3
 r:∀ x∈rk,1<=x.1/\x.1<=97/\0<=x.2/\x.2<=1000000000
 ok:∀ g∈gs,g.ok sz rk.length
 nd:(gs.map Gp.nm).Nodup
 len:gs.length<=26
 cw:∀ w:Str,(gs.filter fun g=>decide (V.str g.head.w=V.str w)).length<=12
 mu:(gs.filter fun g=>decide (V.str g.head.w=V.str "mute")).length<=2
noncomputable def HB (sz:List Nat) (rk:List (Nat × Int)) (gs:List Gp):List R:=(GK sz).map GP++(Eg rk).map Fy++gs.flatMap Gp.rows
noncomputable def jx (z:Str):Bool:=decide (1<=z.length) && decide (z.length<=8) && z.cps.toList.all fun c=>decide (97<=c) && decide (c<=122)
theorem W6 {z:Str} (h:jx z=true):isNm z:=by
 unfold jx at h
 simp only [Bool.and_eq_true,decide_eq_true_eq,List.all_eq_true] at h
 exact ⟨h.1.1,h.1.2,h.2⟩
theorem Zw:(aY++Z7++stL++Q0++RZ).all jx=true:=by decide +kernel
theorem V1 {z:Str} (h:z∈aY++Z7++stL++Q0++RZ):isNm z:=W6 (fN.mp Zw z h)
theorem getD_mem {l:List Str} {k:Nat} (h:k<l.length):l.getD k "" ∈ l:=by
 rw [ax,ae h]
 exact ee _
theorem Qn {k:Nat} (h:k<3):DX k∈aY:=getD_mem h
theorem Nb {k:Nat} (h:k<3):Dj k∈Z7:=getD_mem h
theorem Ga {k:Nat} (h:k<3):isNm (DX k):=V1 (bi _ (bi _ (bi _ (bi _ (Qn h)))))
theorem Nf {k:Nat} (h:k<3):isNm (Dj k):=V1 (bi _ (bi _ (bi _ (be _ (Nb h)))))
theorem Oq:∀ a∈aY,∀ b∈Z7++stL++Q0++RZ,a ≠ b:=by decide +kernel
theorem U0:∀ a∈Z7,∀ b∈stL++Q0++RZ,a ≠ b:=by decide +kernel
theorem Gp.Yv {sz:List Nat} {nr:Nat} {g:Gp} (h:g.ok sz nr):g.nm∈stL++Q0++RZ:=by
 cases g with
 | st k b ls=>exact (bi _ (bi _ (getD_mem (l:=stL) h.1)))
 | cp k i j s=>exact (bi _ (be _ (getD_mem (l:=Q0) h.1)))
 | mu k b=>exact be _ (getD_mem (l:=RZ) h.1)
theorem Gp.Q_ (g:Gp):g.head.nm=g.nm:=by cases g <;> rfl
theorem Qx {sz:List Nat} {b:Str × Nat} (h:b∈GK sz) (l3:sz.length<=3):b.1∈aY:=by
 obtain ⟨p,hp,rfl⟩:=aI.mp h
 obtain ⟨j,hj⟩:=fh hp
 rw [dn] at hj
 obtain ⟨a,ha,e⟩:=bb.mp hj
 have:=(ah.mp ha).1
 rw [← e]
 exact Qn (by simp; omega)
theorem WK {rk:List (Nat × Int)} {b:Str × Nat × Int} (h:b∈Eg rk) (l3:rk.length<=3):b.1∈Z7:=by
 obtain ⟨p,hp,rfl⟩:=aI.mp h
 obtain ⟨j,hj⟩:=fh hp
 rw [dn] at hj
 obtain ⟨a,ha,e⟩:=bb.mp hj
 have:=(ah.mp ha).1
 rw [← e]
 exact Nb (by simp; omega)
theorem JZ {sz:List Nat} {i:Nat} (h:i<sz.length):(DX i,sz.getD i 0)∈GK sz:=by
 refine aI.mpr ⟨(sz.getD i 0,i),ay (i:=i) ?_,rfl⟩
 rw [dn,ax,ae h]
 simp
theorem WW {rk:List (Nat × Int)} {i:Nat} (h:i<rk.length):∃ m wi,(Eg rk)[i]? = some (Dj i,m,wi):=by
 refine ⟨rk[i].1,rk[i].2,?_⟩
 unfold Eg
 rw [ar,dn,ae h]
 simp
section
variable {K:PySem.W.Frag} {aB aP aM:Addr}
theorem gJ (F:PP K aB aP aM) {sz:List Nat} (l1:1<=sz.length) (l3:sz.length<=3) (z:∀ x∈sz,1<=x/\x<=61):Gh K aB aP aM ((GK sz).map GP) (GK sz) [] [] []:=by
 match sz,l1,l3,z with
 | [a],_,_,z=>exact Gh.nil.HR F (Ga (k:=0) (by decide)) (fun _ h=>nomatch h) (by decide) (z a (by simp)).1 (z a (by simp)).2
 | [a,b],_,_,z =>
  have h1:=Gh.nil.HR F (Ga (k:=0) (by decide)) (fun _ h=>nomatch h) (by decide) (z a (by simp)).1 (z a (by simp)).2
  exact h1.HR F (Ga (k:=1) (by decide)) (fun x h=>by rw [List.mem_singleton.mp h]; show DX 0 ≠ DX 1; decide +kernel) (by show 1<5; decide) (z b (by simp)).1 (z b (by simp)).2
 | [a,b,c],_,_,z =>
  have h1:=Gh.nil.HR F (Ga (k:=0) (by decide)) (fun _ h=>nomatch h) (by decide) (z a (by simp)).1 (z a (by simp)).2
  have h2:=h1.HR F (Ga (k:=1) (by decide)) (fun x h=>by rw [List.mem_singleton.mp h]; show DX 0 ≠ DX 1; decide +kernel) (by show 1<5; decide) (z b (by simp)).1 (z b (by simp)).2
  refine h2.HR F (Ga (k:=2) (by decide)) (fun x h=>?_) (by show 2<5; decide) (z c (by simp)).1 (z c (by simp)).2
  rcases ba.mp h with h | h
  ·rw [List.mem_singleton.mp h]; show DX 0 ≠ DX 2; decide +kernel
  ·rw [List.mem_singleton.mp h]; show DX 1 ≠ DX 2; decide +kernel
theorem fC (F:PP K aB aP aM) {sz:List Nat} {rk:List (Nat × Int)} {rows:List R} (h0:Gh K aB aP aM rows (GK sz) [] [] []) (s3:sz.length<=3) (l1:1<=rk.length) (l3:rk.length<=3) (z:∀ x∈rk,1<=x.1/\x.1<=97/\0<=x.2/\x.2<=1000000000):Gh K aB aP aM (rows++(Eg rk).map Fy) (GK sz) (Eg rk) [] []:=by
 have ab:∀ {k},k<3->∀ b∈GK sz,b.1 ≠ Dj k:=fun hk b hb=>Oq _ (Qx hb s3) _ (bi _ (bi _ (bi _ (Nb hk))))
 have r1:∀ {a:Nat × Int},(1<=a.1/\a.1<=97/\0<=a.2/\a.2<=1000000000)->Gh K aB aP aM (rows++[Fy (Dj 0,a.1,a.2)]) (GK sz) [(Dj 0,a.1,a.2)] [] []:=fun {a} h=>h0.rank F (Nf (k:=0) (by decide)) (ab (by decide)) (fun _ h=>nomatch h) (by decide) h.1 h.2.1 h.2.2.1 h.2.2.2
 have r2:∀ {a b:Nat × Int},(1<=a.1/\a.1<=97/\0<=a.2/\a.2<=1000000000)->(1<=b.1/\b.1<=97/\0<=b.2/\b.2<=1000000000)->Gh K aB aP aM (rows++[Fy (Dj 0,a.1,a.2)]++[Fy (Dj 1,b.1,b.2)]) (GK sz) [(Dj 0,a.1,a.2),(Dj 1,b.1,b.2)] [] []:=fun {a b} ha h=>(r1 ha).rank F (Nf (k:=1) (by decide)) (ab (by decide)) (fun x hx=>by rw [List.mem_singleton.mp hx]; show Dj 0 ≠ Dj 1; decide +kernel) (by show 1<12; decide) h.1 h.2.1 h.2.2.1 h.2.2.2
 match rk,l1,l3,z with
 | [a],_,_,z=>exact r1 (z a (by simp))
 | [a,b],_,_,z =>
  have:=r2 (z a (by simp)) (z b (by simp))
  rw [cm] at this
  exact this
 | [a,b,c],_,_,z =>
  have h:=z c (by simp)
  have:=(r2 (z a (by simp)) (z b (by simp))).rank F (t:=Dj 2) (n:=c.1) (wi:=c.2) (Nf (k:=2) (by decide)) (ab (by decide)) (fun x hx=>by
   rcases eh.mp hx with e | hx
   ·rw [e]; show Dj 0 ≠ Dj 2; decide +kernel
   ·rw [List.mem_singleton.mp hx]; show Dj 1 ≠ Dj 2; decide +kernel) (by show 2<12; decide) h.1 h.2.1 h.2.2.1 h.2.2.2
  rw [cm,cm] at this
  exact this
theorem UV {rk:List (Nat × Int)} (l3:rk.length<=3):((Eg rk).map (·.1)).Nodup:=by
 match rk,l3 with
 | [],_=>exact .nil
 | [a],_=>show [Dj 0].Nodup; decide +kernel
 | [a,b],_=>show [Dj 0,Dj 1].Nodup; decide +kernel
 | [a,b,c],_=>show [Dj 0,Dj 1,Dj 2].Nodup; decide +kernel
theorem Za {sz:List Nat} (l3:sz.length<=3):((GK sz).map (·.1)).Nodup:=by
 match sz,l3 with
 | [],_=>exact .nil
 | [a],_=>show [DX 0].Nodup; decide +kernel
 | [a,b],_=>show [DX 0,DX 1].Nodup; decide +kernel
 | [a,b,c],_=>show [DX 0,DX 1,DX 2].Nodup; decide +kernel
theorem Lp (F:PP K aB aP aM) {sz:List Nat} {rk:List (Nat × Int)} {b:Nat} {ks:List R} {ls0:List (List Ln)} (hb:b<sz.length) (hz:∀ x∈sz,1<=x/\x<=61) (r3:rk.length<=3):∀ (ls:List Ln) (rows:List R) (l0:List Ln) (cnt:Nat),Gh K aB aP aM rows (GK sz) (Eg rk) ks (ls0++[l0])->Tl rows (DX b) cnt->cnt+ls.length<=4->(∀ l∈ls,Yl (sz.getD b 0) rk.length l)->Gh K aB aP aM (rows++ls.map LK) (GK sz) (Eg rk) ks (ls0++[l0++ls])
 | [],rows,l0,cnt,h,T,hc,ok=>by
  rw [gT,ff,ff]
  exact h
 | l::ls,rows,l0,cnt,h,T,hc,ok=>by
  obtain ⟨o1,o2,o3,o4,o5,o6⟩:=ok l (by simp)
  obtain ⟨m,wi,hj⟩:=WW o1
  have zb:sz.getD b 0<=61:=by
   rw [ax,ae hb]
   exact (hz _ (ee _)).2
  have h1:=Gh.line F h T (by simp at hc; omega) hj (UV r3) (Nf (by omega)) (JZ hb) o5 o6 o2 o3 o4 (by omega)
  have T1:Tl (rows++[LK l]) (DX b) (cnt+1):=T.line rfl
  have:=Lp F hb hz r3 ls (rows++[LK l]) (l0++[l]) (cnt+1) h1 T1 (by simp at hc; omega) fun x hx=>ok x (by simp [hx])
  rw [cm,cm] at this
  exact this
theorem Vy:G_ "stop" = 24:=by decide +kernel
theorem UW:G_ "mute" = 5:=by decide +kernel
theorem Z1 (F:PP K aB aP aM) {sz:List Nat} {rk:List (Nat × Int)} {rows:List R} {gs:List Gp} {g:Gp} (s3:sz.length<=3) (hz:∀ x∈sz,1<=x/\x<=61) (r3:rk.length<=3) (h:Gh K aB aP aM rows (GK sz) (Eg rk) (gs.map Gp.head) (gs.map Gp.LQ)) (ok:g.ok sz rk.length) (hn:g.nm ∉ gs.map Gp.nm) (hw:∀ w:Str,((gs++[g]).filter fun g=>decide (V.str g.head.w=V.str w)).length<=12) (hm:(gs.filter fun g=>decide (V.str g.head.w=V.str "mute")).length<=2) :
  Gh K aB aP aM (rows++g.rows) (GK sz) (Eg rk) ((gs++[g]).map Gp.head) ((gs++[g]).map Gp.LQ):=by
 have hnm:=Gp.Yv ok
 have c1:∀ b∈GK sz,b.1 ≠ g.nm:=fun b hb=>Oq _ (Qx hb s3) _ (by rw [cm,cm]; refine be _ ?_; rw [← cm]; exact hnm)
 have c2:∀ r∈Eg rk,r.1 ≠ g.nm:=fun r hr=>U0 _ (WK hr r3) _ hnm
 have c3:∀ k∈gs.map Gp.head,k.nm ≠ g.nm:=fun k hk e=>by
  obtain ⟨x,hx,rfl⟩:=aI.mp hk
  rw [Gp.Q_] at e
  exact hn (aI.mpr ⟨x,hx,e⟩)
 have cnt:∀ w:Str,((gs.map Gp.head).filter fun r=>decide (V.str r.w=V.str w)).length<=12:=fun w=>by
  have h2:=hw w
  rw [dE,av] at h2
  rw [eS,ai]
  exact bE (jv _ _) h2
 have isn:isNm g.nm:=V1 (by rw [cm,cm,cm]; refine be _ (be _ ?_); rw [← cm]; exact hnm)
 rw [br,br]
 cases g with
 | st k b ls =>
  obtain ⟨o1,o2,o3,o4⟩:=ok
  have h1:=Gh.plain F h (wd:="stop") (.inl rfl) isn c1 c2 c3 (by rw [Vy]; have:=cnt "stop"; omega) (Ga (by omega)) (JZ o2)
  have:=Lp F o2 hz r3 ls _ [] 0 h1 (Tl.stop _ _ _) (by omega) o4
  rw [List.nil_append,cm] at this
  exact this
 | cp k i j s =>
  obtain ⟨o1,o2,o3,o4,o5⟩:=ok
  exact Gh.Xg F h isn c1 c2 c3 (by
   have h2:=hw "coupler"
   rw [dE,av] at h2
   have h3:([Gp.cp k i j s].filter fun g=>decide (V.str g.head.w=V.str "coupler")).length=1:=by rw [List.filter_cons,if_pos (show decide (V.str (Gp.cp k i j s).head.w=V.str "coupler")=true from decide_eq_true rfl)]; rfl
   rw [eS,ai]
   have h4:G_ "coupler" = 12:=by decide +kernel
   first | (rw [h4]; exact Nat.lt_of_succ_le (by rw [h3] at h2; exact h2)) | (exact Nat.lt_of_succ_le (by rw [h3] at h2; exact h2))) (Ga (by omega)) (JZ o2) (Ga (by omega)) (JZ o3) o4 o5
 | mu k b =>
  obtain ⟨o1,o2⟩:=ok
  refine Gh.plain F h (wd:="mute") (.inr rfl) isn c1 c2 c3 ?_ (Ga (by omega)) (JZ o2)
  rw [UW,eS,ai]
  exact bp hm (by decide)
theorem UG (F:PP K aB aP aM) {sz:List Nat} {rk:List (Nat × Int)} (s3:sz.length<=3) (hz:∀ x∈sz,1<=x/\x<=61) (r3:rk.length<=3):∀ (rest gs:List Gp) (rows:List R),Gh K aB aP aM rows (GK sz) (Eg rk) (gs.map Gp.head) (gs.map Gp.LQ)->(∀ g∈rest,g.ok sz rk.length)->((gs++rest).map Gp.nm).Nodup->(∀ w:Str,((gs++rest).filter fun g=>decide (V.str g.head.w=V.str w)).length<=12)->((gs++rest).filter fun g=>decide (V.str g.head.w=V.str "mute")).length<=2 ->
  Gh K aB aP aM (rows++rest.flatMap Gp.rows) (GK sz) (Eg rk) ((gs++rest).map Gp.head) ((gs++rest).map Gp.LQ)
 | [],gs,rows,h,_,_,_,_=>by
  rw [kK,ff,ff]
  exact h
 | g::rest,gs,rows,h,ok,nd,len,mu=>by
  have e:gs++g::rest=(gs++[g])++rest:=by simp
  have hn:g.nm ∉ gs.map Gp.nm:=fun z=>by
   rw [br,dv,gd] at nd
   exact nd.2.2 _ z _ (cS ..) rfl
  have hmu:(gs.filter fun g=>decide (V.str g.head.w=V.str "mute")).length<=2:=by
   rw [dE,av] at mu
   omega
  have h1:=Z1 F s3 hz r3 h (ok g (by simp)) hn (fun w=>by
   have h2:=len w
   rw [e,dE,av] at h2
   exact bE (jv _ _) h2) hmu
  rw [e] at nd len mu ⊢
  have:=UG F s3 hz r3 rest (gs++[g]) (rows++g.rows) h1 (fun x hx=>ok x (by simp [hx])) nd len mu
  rw [kD,← cm]
  exact this
theorem b8 (F:PP K aB aP aM) {sz:List Nat} {rk:List (Nat × Int)} {gs:List Gp} (h:QB sz rk gs):Gh K aB aP aM (HB sz rk gs) (GK sz) (Eg rk) (gs.map Gp.head) (gs.map Gp.LQ) :=
 UG F h.l3 h.z h.r3 gs [] _ (fC F (gJ F h.l1 h.l3 h.z) h.l3 h.r1 h.r3 h.r) h.ok h.nd h.cw h.mu
end
noncomputable def JD (gs:List Gp) (n:Nat):Str:=if n<30 then DX n else (gs.map Gp.nm).getD (n - 30) ""
noncomputable def Gp.kb:Gp->Kb
 | .st _ b _=>.pl "stop" b
 | .cp _ i j s=>.cp i j s
 | .mu _ b=>.pl "mute" b
theorem Yi {sz:List Nat} (gs:List Gp) (l3:sz.length<=3):Bb (JD gs) sz=GK sz:=by
 unfold Bb GK
 refine kq fun p hp=>?_
 obtain ⟨j,hj⟩:=fh hp
 rw [dn] at hj
 obtain ⟨a,ha,e⟩:=bb.mp hj
 have:=(ah.mp ha).1
 have e2:p.2=j:=by rw [← e]; simp
 unfold JD
 rw [if_pos (by omega)]
theorem Yt {sz:List Nat} {nr:Nat} {gs:List Gp} {g:Gp} {i:Nat} (l3:sz.length<=3) (hg:gs[i]? = some g) (ok:g.ok sz nr):Ru (JD gs) i g.kb=g.head:=by
 have hb:∀ b,b<sz.length->JD gs b=DX b:=fun b h=>by unfold JD; rw [if_pos (by omega)]
 have hnm:JD gs (30+i)=g.nm:=by
  unfold JD
  rw [if_neg (by omega),iq,ax,ar,hg]
  rfl
 cases g with
 | st k b ls =>
  show (⟨"stop",JD gs (30+i),[.str (JD gs b)]⟩:R)=_
  rw [hnm,hb b ok.2.1]
  rfl
 | cp k a b s =>
  show (⟨"coupler",JD gs (30+i),[.str (JD gs a),.str (JD gs b),.int s]⟩:R)=_
  rw [hnm,hb a ok.2.1,hb b ok.2.2.1]
  rfl
 | mu k b =>
  show (⟨"mute",JD gs (30+i),[.str (JD gs b)]⟩:R)=_
  rw [hnm,hb b ok.2]
  rfl
theorem Zj {sz:List Nat} {nr:Nat} {gs:List Gp} (l3:sz.length<=3) (ok:∀ g∈gs,g.ok sz nr):CJ (JD gs) (gs.map Gp.kb)=gs.map Gp.head:=by
 refine gc fun i=>?_
 unfold CJ
 rw [ar,dn,ar,ar]
 cases hg:gs[i]? with
 | none=>rfl
 | some g =>
  show some (Ru (JD gs) (0+i) g.kb)=some g.head
  rw [iP,Yt l3 hg (ok g (ay hg))]
theorem QW (g:Gp):g.kb.w=g.head.w:=by cases g <;> rfl
theorem cw_lt {gs:List Gp} {g:Gp} {i:Nat} {w:Str} (hg:gs[i]? = some g) (hw:(gs.filter fun g=>decide (V.str g.head.w=V.str w)).length<=12) (e:g.head.w=w):((gs.take i).filter fun g=>decide (V.str g.head.w=V.str w)).length<12:=by
 have h:=congrArg List.length (congrArg (List.filter fun g=>decide (V.str g.head.w=V.str w)) (eI (i+1) gs))
 rw [dE,av,dl,hg,dE,av] at h
 have h1:(((some g).toList).filter fun g=>decide (V.str g.head.w=V.str w)).length=1:=by
  show ([g].filter _).length=1
  rw [gz,if_pos (decide_eq_true (congrArg V.str e))]
  rfl
 omega
theorem Q6 {sz:List Nat} {rk:List (Nat × Int)} {gs:List Gp} (h:QB sz rk gs):Nz sz.length (gs.map Gp.kb):=by
 have okk:∀ g:Gp,g.ok sz rk.length->g.kb.ok sz.length:=fun g ok=>by
  cases g with
  | st k b ls=>exact ⟨ok.2.1,.inr rfl⟩
  | cp k a b s=>exact ⟨ok.2.1,ok.2.2.1,ok.2.2.2.1,ok.2.2.2.2⟩
  | mu k b=>exact ⟨ok.2,.inl rfl⟩
 have hlen:=h.len
 refine ⟨fun k hk=>?_,fun i k hi=>?_,by rw [ai]; omega⟩
 ·obtain ⟨g,hg,rfl⟩:=aI.mp hk
  exact okk g (h.ok g hg)
 ·rw [ar] at hi
  obtain ⟨g,hg,rfl⟩:=bb.mp hi
  have hil:=(ah.mp hg).1
  have le:(((gs.map Gp.kb).take i).filter (Q8 g.kb.w)).length<12:=by
   rw [← fT,eS,ai]
   have ef:(Q8 g.kb.w ∘ Gp.kb)=fun g'=>decide (V.str g'.head.w=V.str g.head.w):=funext fun g'=>by
    show decide (V.str g'.kb.w=V.str g.kb.w)=_
    rw [QW,QW]
   rw [ef]
   exact cw_lt hg (h.cw _) rfl
  cases g with
  | st k b ls =>
   show _<G_ "stop"
   rw [Vy]
   omega
  | cp k a b s =>
   show _<G_ "coupler"
   have:G_ "coupler" = 12:=by decide +kernel
   rw [this]
   omega
  | mu k b =>
   show _<G_ "mute"
   rw [UW,← fT,eS,ai]
   have ef:(Q8 (Gp.mu k b).kb.w ∘ Gp.kb)=fun g=>decide (V.str g.head.w=V.str "mute"):=funext fun g=>by
    show decide (V.str g.kb.w=V.str "mute")=_
    rw [QW]
   rw [ef]
   have h2:((gs.take i).filter fun g=>decide (V.str g.head.w=V.str "mute")).length<=(gs.filter fun g=>decide (V.str g.head.w=V.str "mute")).length:=by
    have:=congrArg List.length (congrArg (List.filter fun g=>decide (V.str g.head.w=V.str "mute")) (eI i gs))
    rw [dE,av] at this
    omega
   have:=h.mu
   omega
section
variable {K:PySem.W.Frag} {aB aP aM:Addr}
end
end Og
namespace Og
open PySem L2 PyProof.Rows
set_option genInjectivity false in
structure Hz where
 bs:Str->Option (Nat × Nat)
 rk:Str->Option (Nat × Nat)
 kn:List (R × List R)
 ke:Nat
 pi:Nat
noncomputable def Gm (s:Hz) (b:Str × Nat):Hz:={ s with bs:=fun t=>if t=b.1 then some (s.ke,b.2) else s.bs t,ke:=s.ke+b.2 }
noncomputable def HH (s:Hz) (b:Str × Nat × Int):Hz:={ s with rk:=fun t=>if t=b.1 then some (s.pi,b.2.1) else s.rk t,pi:=s.pi+b.2.1 }
inductive N8:Hz->R->Hz->Prop
 | b (s:Hz) (b:Str × Nat):N8 s (GP b) (Gm s b)
 | r (s:Hz) (b:Str × Nat × Int):N8 s (Fy b) (HH s b)
 | k (s:Hz) (r:R):r.w = "stop" \/ r.w = "coupler" \/ r.w = "mute"->s.kn.length<100->N8 s r { s with kn:=s.kn++[(r,[])] }
 | l (s:Hz) (ks:List (R × List R)) (g:R) (ls:List R) (l:Ln):s.kn=ks++[(g,ls)]->ls.length<100->N8 s (LK l) { s with kn:=ks++[(g,ls++[LK l])] }
inductive J5:Hz->List R->Hz->Prop
 | nil (s:Hz):J5 s [] s
 | cons {s s' f:Hz} {r:R} {rs:List R}:N8 s r s'->J5 s' rs f->J5 s (r::rs) f
theorem J5.app {s t f:Hz} {l l':List R} (h:J5 s l t) (h':J5 t l' f):J5 s (l++l') f:=by
 induction h with
 | nil=>exact h'
 | cons a _ ih=>exact .cons a (ih h')
theorem J5.bs:∀ (bs:List (Str × Nat)) (s:Hz),J5 s (bs.map GP) (bs.foldl Gm s)
 | [],s=>.nil s
 | b::bs,s=>.cons (.b s b) (J5.bs bs _)
theorem J5.rs:∀ (bs:List (Str × Nat × Int)) (s:Hz),J5 s (bs.map Fy) (bs.foldl HH s)
 | [],s=>.nil s
 | b::bs,s=>.cons (.r s b) (J5.rs bs _)
noncomputable def Gp.kn (g:Gp):R × List R:=(g.head,g.LQ.map LK)
theorem J5.ls:∀ (ls:List Ln) (s:Hz) (ks:List (R × List R)) (g:R) (l0:List R),s.kn=ks++[(g,l0)]->l0.length+ls.length<100->J5 s (ls.map LK) { s with kn:=ks++[(g,l0++ls.map LK)] }
 | [],s,ks,g,l0,e,_=>by
  rw [gT,ff,← e]
  exact .nil s
 | l::ls,s,ks,g,l0,e,h=>by
  rw [bv] at h
  have:=J5.ls ls { s with kn:=ks++[(g,l0++[LK l])] } ks g (l0++[LK l]) rfl (by rw [av,bq]; omega)
  rw [cm] at this
  exact .cons (.l s ks g l0 l e (by omega)) this
theorem Gp.Yk (g:Gp):g.head.w = "stop" \/ g.head.w = "coupler" \/ g.head.w = "mute":=by
 cases g with
 | st=>exact .inl rfl
 | cp=>exact .inr (.inl rfl)
 | mu=>exact .inr (.inr rfl)
theorem J5.gs:∀ (gs:List Gp) (s:Hz),s.kn.length+gs.length<100->(∀ g∈gs,g.LQ.length<100)->J5 s (gs.flatMap Gp.rows) { s with kn:=s.kn++gs.map Gp.kn }
 | [],s,_,_=>by
  rw [gT,ff,kK]
  exact .nil s
 | g::gs,s,h,hl=>by
  rw [bv] at h
  have h1:J5 s g.rows { s with kn:=s.kn++[g.kn] }:=.cons (.k s g.head g.Yk (by omega)) (J5.ls g.LQ { s with kn:=s.kn++[(g.head,[])] } s.kn g.head [] rfl (by have:=hl g (by simp); simp; omega))
  have h2:=J5.gs gs { s with kn:=s.kn++[g.kn] } (by rw [List.length_append,List.length_singleton]; omega) fun x hx=>hl x (by simp [hx])
  rw [kD]
  have:=h1.app h2
  rw [cm] at this
  exact this
noncomputable def m0:Hz:=⟨fun _=>none,fun _=>none,[],0,0⟩
noncomputable def mW (sz:List Nat) (rk:List (Nat × Int)) (gs:List Gp):Hz:={ (Eg rk).foldl HH ((GK sz).foldl Gm m0) with kn:=gs.map Gp.kn }
theorem Ri:∀ (bs:List (Str × Nat)) (s:Hz),(bs.foldl Gm s).kn=s.kn
 | [],s=>rfl
 | b::bs,s=>Ri bs (Gm s b)
theorem RX:∀ (bs:List (Str × Nat × Int)) (s:Hz),(bs.foldl HH s).kn=s.kn
 | [],s=>rfl
 | b::bs,s=>RX bs (HH s b)
theorem Rh:∀ (bs:List (Str × Nat)) (s:Hz),(bs.foldl Gm s).ke=s.ke+(bs.map (·.2)).sum
 | [],s=>rfl
 | b::bs,s=>by
  show (bs.foldl Gm (Gm s b)).ke=_
  rw [Rh bs (Gm s b),dv,hU,← Nat.add_assoc]
  rfl
theorem RQ:∀ (bs:List (Str × Nat × Int)) (s:Hz),(bs.foldl HH s).ke=s.ke
 | [],s=>rfl
 | b::bs,s=>RQ bs (HH s b)
theorem Wf (sz:List Nat):(GK sz).map (·.2)=sz:=by
 refine gc fun i=>?_
 unfold GK
 rw [ar,ar,dn]
 cases sz[i]? <;> rfl
theorem cM (sz:List Nat) (rk:List (Nat × Int)) (gs:List Gp):(mW sz rk gs).ke=sz.sum:=by
 show ((Eg rk).foldl HH ((GK sz).foldl Gm m0)).ke=_
 rw [RQ,Rh,Wf]
 exact iP _
theorem cI {sz:List Nat} {rk:List (Nat × Int)} {gs:List Gp} (h:QB sz rk gs):J5 m0 (HB sz rk gs) (mW sz rk gs):=by
 have hk:((Eg rk).foldl HH ((GK sz).foldl Gm m0)).kn=[]:=by rw [RX,Ri]; rfl
 have h3:=J5.gs gs ((Eg rk).foldl HH ((GK sz).foldl Gm m0)) (by rw [hk]; have:=h.len; simp; omega) fun g hg=>by
  have:=h.ok g hg
  cases g with
  | st k b ls=>have:=this.2.2.1; show ls.length<100; omega
  | cp=>show (0:Nat)<100; decide
  | mu=>show (0:Nat)<100; decide
 rw [hk] at h3
 exact ((J5.bs (GK sz) m0).app (J5.rs (Eg rk) _)).app h3
noncomputable def Tc (H:Hp) (g:R × List R) (a:Addr × Addr):Prop:=∃ rv lvs,H a.1=some (.tup [rv,.ref a.2])/\TupAt H g.1.v rv/\H a.2=some (.lst lvs)/\Paired (fun (r:R) v=>TupAt H r.v v) g.2 lvs
noncomputable def Qu (H:Hp) (d:Addr) (f:Str->Option (Nat × Nat)) (n:Nat):Prop:=∃ kvs,H d=some (.dK kvs)/\kvs.length<=n/\∀ t x,f t=some x->∃ v,Cd kvs (Sum.inr t)=some v/\TupAt H [.int (x.1:Nat),.int (x.2:Nat)] v
structure Gk (H0 H:Hp) (db dr kn:Addr) (TL:List (Addr × Addr)) (s:Hz) (n:Nat):Prop where
 b:Qu H db s.bs n
 r:Qu H dr s.rk n
 k:H kn=some (.lst (TL.map fun a=>V.ref a.1))
 nd:(TL.map (·.2)).Nodup
 fr:∀ a∈TL,H0 a.2=none/\a.2 ≠ kn
 pr:Paired (Tc H) s.kn TL
theorem Tc.mono {H H':Hp} {g:R × List R} {a:Addr × Addr} (s:Ao H H') (h:Tc H g a):Tc H' g a:=by
 obtain ⟨rv,lvs,h1,h2,h3,h4⟩:=h
 exact ⟨rv,lvs,s _ _ h1,h2.mono s,s _ _ h3,Al s h4⟩
theorem Qu.mono {H H':Hp} {d:Addr} {f:Str->Option (Nat × Nat)} {n n':Nat} (s:Ao H H') (hn:n<=n') (h:Qu H d f n):Qu H' d f n':=by
 obtain ⟨kvs,h1,h2,h3⟩:=h
 refine ⟨kvs,s _ _ h1,by omega,fun t x e=>?_⟩
 obtain ⟨v,h4,h5⟩:=h3 t x e
 exact ⟨v,h4,h5.mono s⟩
theorem Gk.mono {H0 H H':Hp} {db dr kn:Addr} {TL:List (Addr × Addr)} {s:Hz} {n n':Nat} (sm:Ao H H') (hn:n<=n') (h:Gk H0 H db dr kn TL s n):Gk H0 H' db dr kn TL s n' :=
 ⟨h.b.mono sm hn,h.r.mono sm hn,sm _ _ h.k,h.nd,h.fr,Paired.Fj h.pr fun _ _ q=>q.mono sm⟩
theorem Cr {H:Hp} {a D:Addr} {o o' u:HO} (h:H a=some o) (hD:H D=some o') (hne:o ≠ o'):upd H D u a=some o:=by
 rw [Ar]
 ·exact h
 ·intro e
  subst e
  rw [h] at hD
  exact hne (Option.some.inj hD)
theorem Es {H:Hp} {zs:List V} {y:V} {D:Addr} {o u:HO} (h:TupAt H zs y) (hD:H D=some o) (hne:∀ z,HO.tup z ≠ o):TupAt (upd H D u) zs y:=by
 obtain ⟨T,rfl,q⟩:=h
 exact ⟨T,rfl,Cr q hD (hne _)⟩
theorem Tc.Iw {H:Hp} {g:R × List R} {a:Addr × Addr} {D:Addr} {kvs:List (Key × V)} {u:HO} (h:Tc H g a) (hD:H D=some (.dK kvs)):Tc (upd H D u) g a:=by
 obtain ⟨rv,lvs,h1,h2,h3,h4⟩:=h
 exact ⟨rv,lvs,Cr h1 hD (by simp),Es h2 hD (by simp),Cr h3 hD (by simp),Paired.Fj h4 fun _ _ q=>Es q hD (by simp)⟩
theorem Qu.put {H:Hp} {d:Addr} {f:Str->Option (Nat × Nat)} {n:Nat} {kvs:List (Key × V)} {t:Str} {x:Nat × Nat} {v:V} (hd:H d=some (.dK kvs)) (hl:kvs.length<=n) (h3:∀ t x,f t=some x->∃ v,Cd kvs (Sum.inr t)=some v/\TupAt H [.int (x.1:Nat),.int (x.2:Nat)] v) (hv:TupAt H [.int (x.1:Nat),.int (x.2:Nat)] v) :
  Qu (upd H d (.dK (putK kvs (Sum.inr t) v))) d (fun t'=>if t'=t then some x else f t') (n+1):=by
 refine ⟨_,Ah,?_,fun t' x' e=>?_⟩
 ·have:=Ej kvs (Sum.inr t) v
  omega
 ·rw [Dl]
  by_cases ht:t'=t
  ·subst ht
   dsimp only at e
   rw [if_pos rfl] at e
   obtain rfl:=Option.some.inj e
   exact ⟨v,if_pos rfl,Es hv hd (by simp)⟩
  ·dsimp only at e
   rw [if_neg ht] at e
   rw [if_neg (fun z=>ht (Sum.inr.inj z))]
   obtain ⟨v',h4,h5⟩:=h3 t' x' e
   exact ⟨v',h4,Es h5 hd (by simp)⟩
theorem Qu.Iw {H:Hp} {d:Addr} {f:Str->Option (Nat × Nat)} {n n':Nat} {D:Addr} {o u:HO} (h:Qu H d f n) (hD:H D=some o) (hne:∀ z,HO.tup z ≠ o) (hn:d ≠ D) (hle:n<=n'):Qu (upd H D u) d f n':=by
 obtain ⟨kvs,h1,h2,h3⟩:=h
 refine ⟨kvs,by rw [Ar hn]; exact h1,by omega,fun t x e=>?_⟩
 obtain ⟨v,h4,h5⟩:=h3 t x e
 exact ⟨v,h4,Es h5 hD hne⟩
theorem Gk.pU {H0 H:Hp} {db dr kn:Addr} {TL:List (Addr × Addr)} {s:Hz} {n:Nat} {b:Str × Nat} {v:V} {kvs:List (Key × V)} (h:Gk H0 H db dr kn TL s n) (hne:db ≠ dr) (hd:H db=some (.dK kvs)) (hl:kvs.length<=n) (h3:∀ t x,s.bs t=some x->∃ v,Cd kvs (Sum.inr t)=some v/\TupAt H [.int (x.1:Nat),.int (x.2:Nat)] v) (hv:TupAt H [.int (s.ke:Nat),.int (b.2:Nat)] v):Gk H0 (upd H db (.dK (putK kvs (Sum.inr b.1) v))) db dr kn TL (Gm s b) (n+1) :=
 ⟨Qu.put (x:=(s.ke,b.2)) hd hl h3 hv,h.r.Iw hd (by simp) hne.symm (Nat.le_succ _),Cr h.k hd (by simp),h.nd,h.fr,Paired.Fj h.pr fun _ _ q=>q.Iw hd⟩
theorem Gk.qH {H0 H:Hp} {db dr kn:Addr} {TL:List (Addr × Addr)} {s:Hz} {n:Nat} {b:Str × Nat × Int} {v:V} {kvs:List (Key × V)} (h:Gk H0 H db dr kn TL s n) (hne:db ≠ dr) (hd:H dr=some (.dK kvs)) (hl:kvs.length<=n) (h3:∀ t x,s.rk t=some x->∃ v,Cd kvs (Sum.inr t)=some v/\TupAt H [.int (x.1:Nat),.int (x.2:Nat)] v) (hv:TupAt H [.int (s.pi:Nat),.int (b.2.1:Nat)] v):Gk H0 (upd H dr (.dK (putK kvs (Sum.inr b.1) v))) db dr kn TL (HH s b) (n+1) :=
 ⟨h.b.Iw hd (by simp) hne (Nat.le_succ _),Qu.put (x:=(s.pi,b.2.1)) hd hl h3 hv,Cr h.k hd (by simp),h.nd,h.fr,Paired.Fj h.pr fun _ _ q=>q.Iw hd⟩
theorem Fz {α β:Type} {F G:α->β->Prop}:∀ {l:List α} {vs:List β},Paired F l vs->(∀ a b,b∈vs->F a b->G a b)->Paired G l vs
 | [],_,h,_=>by cases h; exact .nil
 | a::l,_,h,k=>by
  cases h with
  | cons x y=>exact .cons (k _ _ (cS ..) x) (Fz y fun a b hb=>k a b (df _ hb))
theorem Ig {α β:Type} {F:α->β->Prop}:∀ {l:List α} {z:α} {vs:List β},Paired F (l++[z]) vs->∃ us u,vs=us++[u]/\Paired F l us/\F z u
 | [],z,_,h=>by
  cases h with
  | cons x y=>cases y; exact ⟨[],_,rfl,.nil,x⟩
 | a::l,z,_,h=>by
  cases h with
  | cons x y =>
   obtain ⟨us,u,rfl,h1,h2⟩:=Ig y
   exact ⟨_::us,u,rfl,.cons x h1,h2⟩
theorem Gk.putK {H0 H:Hp} {db dr kn T L:Addr} {TL:List (Addr × Addr)} {s:Hz} {n:Nat} {r:R} {rv:V} (h:Gk H0 H db dr kn TL s n) (hT:H T=some (.tup [rv,.ref L])) (hL:H L=some (.lst [])) (hr:TupAt H r.v rv) (h0:H0 L=none) (hk:L ≠ kn) (hn:L ∉ TL.map (·.2)) :
  Gk H0 (upd H kn (.lst ((TL.map fun a=>V.ref a.1)++[.ref T]))) db dr kn (TL++[(T,L)]) { s with kn:=s.kn++[(r,[])] } (n+1):=by
 have hd:db ≠ kn:=fun e=>by obtain ⟨kvs,h1,_⟩:=h.b; rw [e,h.k] at h1; cases h1
 have hd2:dr ≠ kn:=fun e=>by obtain ⟨kvs,h1,_⟩:=h.r; rw [e,h.k] at h1; cases h1
 have keep:∀ g a,a.2 ≠ kn->Tc H g a->Tc (upd H kn (.lst ((TL.map fun a=>V.ref a.1)++[.ref T]))) g a:=fun g a ha q=>by
  obtain ⟨rv,lvs,h1,h2,h3,h4⟩:=q
  exact ⟨rv,lvs,Cr h1 h.k (by simp),Es h2 h.k (by simp),by rw [Ar ha]; exact h3,Bx h4 h.k⟩
 refine ⟨h.b.Iw h.k (by simp) hd (Nat.le_succ _),h.r.Iw h.k (by simp) hd2 (Nat.le_succ _),by rw [Ah,List.map_append]; rfl,?_,fun a ha=>?_,?_⟩
 ·rw [br,gd]
  refine ⟨h.nd,gS.mpr ⟨kL,List.nodup_nil⟩,fun a ha b hb e=>?_⟩
  subst e
  rw [dv,gT,aS] at hb
  rw [hb] at ha
  exact hn ha
 ·rcases ba.mp ha with ha | ha
  ·exact h.fr a ha
  ·rw [aS.mp ha]
   exact ⟨h0,hk⟩
 ·refine CT (Fz h.pr fun g a ha q=>keep g a (h.fr a ha).2 q) (.cons ?_ .nil)
  exact keep _ (T,L) hk ⟨rv,[],hT,hr,hL,.nil⟩
theorem Gk.line {H0 H:Hp} {db dr kn:Addr} {TL:List (Addr × Addr)} {s:Hz} {n:Nat} {ks:List (R × List R)} {g l:R} {ls:List R} {rv:V} (h:Gk H0 H db dr kn TL s n) (e:s.kn=ks++[(g,ls)]) (hr:TupAt H l.v rv) :
  ∃ tl T L rv0 lvs,TL=tl++[(T,L)]/\H T=some (.tup [rv0,.ref L])/\H L=some (.lst lvs)/\lvs.length=ls.length/\H0 L=none/\Gk H0 (upd H L (.lst (lvs++[rv]))) db dr kn TL { s with kn:=ks++[(g,ls++[l])] } (n+1):=by
 have pr:=h.pr
 rw [e] at pr
 refine byC fun w_=>?_;obtain ⟨tl,⟨T,L⟩,rfl,p1,rv0,lvs,h1,h2,h3,h4⟩:=Ig pr;refine w_ ?_
 obtain ⟨f1,f2⟩:=h.fr (T,L) (by simp)
 have hL:H L=some (.lst lvs):=h3
 have hd:db ≠ L:=fun e=>by obtain ⟨kvs,h1,_⟩:=h.b; rw [e,hL] at h1; cases h1
 have hd2:dr ≠ L:=fun e=>by obtain ⟨kvs,h1,_⟩:=h.r; rw [e,hL] at h1; cases h1
 refine ⟨tl,T,L,rv0,lvs,rfl,h1,h3,h4.length.symm,f1,h.b.Iw hL (by simp) hd (Nat.le_succ _),h.r.Iw hL (by simp) hd2 (Nat.le_succ _),by rw [Ar (Ne.symm f2)]; exact h.k,h.nd,h.fr,?_⟩
 refine CT (Fz p1 fun g' a ha q=>?_) (.cons ?_ .nil)
 ·have ne:a.2 ≠ L:=fun z=>by
   have nd:=h.nd
   rw [br,gd] at nd
   exact nd.2.2 _ (aI.mpr ⟨a,ha,rfl⟩) _ (by rw [dv]; exact cS ..) z
  obtain ⟨rv',lvs',q1,q2,q3,q4⟩:=q
  exact ⟨rv',lvs',Cr q1 hL (by simp),Es q2 hL (by simp),by rw [Ar ne]; exact q3,Bx q4 hL⟩
 ·exact ⟨rv0,lvs++[rv],Cr h1 hL (by simp),Es h2 hL (by simp),Ah,CT (Bx h4 hL) (.cons (Es hr hL (by simp)) .nil)⟩
structure Em (H:Hp) (m:Addr) (sz:List Nat) (rk:List (Nat × Int)) (gs:List Gp):Prop where
 ex:∃ (H0:Hp) (kvs:List (Key × V)) (db dr kn:Addr) (TL:List (Addr × Addr)) (n:Nat),H m=some (.dK kvs)/\Cd kvs (Sum.inr "boards")=some (.ref db)/\Cd kvs (Sum.inr "ranks")=some (.ref dr)/\Cd kvs (Sum.inr "knobs")=some (.ref kn)/\Cd kvs (Sum.inr "keys")=some (.int ((sz.sum:Nat):Int))/\Gk H0 H db dr kn TL (mW sz rk gs) n
theorem Em.mono {H H':Hp} {m:Addr} {sz:List Nat} {rk:List (Nat × Int)} {gs:List Gp} (s:Ao H H') (h:Em H m sz rk gs):Em H' m sz rk gs:=by
 refine byC fun w_=>?_;obtain ⟨H0,kvs,db,dr,kn,TL,n,h1,h2,h3,h4,h5,h6⟩:=h.ex;refine w_ ?_
 exact ⟨H0,kvs,db,dr,kn,TL,n,s _ _ h1,h2,h3,h4,h5,h6.mono s (aE _)⟩
theorem Em.keys {H:Hp} {m:Addr} {sz:List Nat} {rk:List (Nat × Int)} {gs:List Gp} (h:Em H m sz rk gs):Ey H m (.str "keys") (some (.int ((sz.sum:Nat):Int))):=by
 refine byC fun w_=>?_;obtain ⟨H0,kvs,db,dr,kn,TL,n,h1,h2,h3,h4,h5,h6⟩:=h.ex;refine w_ ?_
 exact .inl ⟨kvs,Sum.inr "keys",.inl h1,rfl,h5.symm⟩
theorem Em.Rg {H:Hp} {m:Addr} {sz:List Nat} {rk:List (Nat × Int)} {gs:List Gp} (h:Em H m sz rk gs):∃ kn TL,Ey H m (.str "knobs") (some (.ref kn))/\H kn=some (.lst (TL.map fun a:Addr × Addr=>V.ref a.1))/\TL.length=gs.length/\Paired (Tc H) (gs.map Gp.kn) TL:=by
 refine byC fun w_=>?_;obtain ⟨H0,kvs,db,dr,kn,TL,n,h1,h2,h3,h4,h5,h6⟩:=h.ex;refine w_ ?_
 have pr:Paired (Tc H) (gs.map Gp.kn) TL:=h6.pr
 have:=pr.length
 rw [ai] at this
 exact ⟨kn,TL,.inl ⟨kvs,Sum.inr "knobs",.inl h1,rfl,h4.symm⟩,h6.k,this.symm,pr⟩
section
variable {K:PySem.W.Frag} {aB aP aM:Addr}
theorem MJ {sz:List Nat} {rk:List (Nat × Int)} {gs:List Gp} (h:QB sz rk gs):(HB sz rk gs).length<=136:=by
 have l1:(GK sz).length=sz.length:=by unfold GK; rw [List.length_map,List.length_zipIdx]
 have l2:(Eg rk).length=rk.length:=by unfold Eg; rw [List.length_map,List.length_zipIdx]
 have key:∀ l:List Gp,(∀ g∈l,g.ok sz rk.length)->(l.flatMap Gp.rows).length<=5 * l.length:=by
  intro l
  induction l with
  | nil=>intro _; simp
  | cons g l ih =>
   intro ok
   rw [kD,av,bv]
   have:=ih fun x hx=>ok x (by simp [hx])
   have h2:g.rows.length<=5:=by
    have o:=ok g (by simp)
    unfold Gp.rows
    rw [bv,ai]
    cases g with
    | st k b ls=>have:=o.2.2.1; show ls.length+1<=5; omega
    | cp=>show 0+1<=5; omega
    | mu=>show 0+1<=5; omega
   omega
 have:=key gs h.ok
 have a:=h.l3
 have b:=h.r3
 have c:=h.len
 unfold HB
 rw [av,av,ai,ai]
 omega
theorem gW (F:PP K aB aP aM) {H:Hp} {vs:List V} {sz:List Nat} {rk:List (Nat × Int)} {gs:List Gp} (h:QB sz rk gs) (hv:Paired (fun (r:R) v=>TupAt H r.v v) (HB sz rk gs) vs) :
  Rows H (Tf H) vs/\g_ K aB aP aM (Tf H) vs (GK sz) (Eg rk) (gs.map Gp.head)/\linesOf (Eg rk) (vs.map (Tf H))=gs.map Gp.LQ:=by
 have l1:(GK sz).length=sz.length:=by unfold GK; rw [List.length_map,List.length_zipIdx]
 have l2:(Eg rk).length=rk.length:=by unfold Eg; rw [List.length_map,List.length_zipIdx]
 have a1:=h.l1
 have a3:=h.l3
 have r3:=h.r3
 have hg:=h.len
 refine (b8 F h).fin hv (by omega) (by omega) (fun b hb=>?_) (by omega) (fun r hr=>?_) (by rw [ai]; omega) (Za h.l3) (UV h.r3) ?_ (bE (MJ h) (by decide))
 ·obtain ⟨p,hp,rfl⟩:=aI.mp hb
  have:=List.mem_zipIdx hp
  simp at this
  exact (h.z _ (by rw [this.2]; exact ee _)).2
 ·obtain ⟨p,hp,rfl⟩:=aI.mp hr
  have:=List.mem_zipIdx hp
  simp at this
  exact (h.r _ (by rw [this.2]; exact ee _)).2.1
 ·rw [bo]
  have e:((·.nm) ∘ Gp.head)=Gp.nm:=funext Gp.Q_
  rw [e]
  exact h.nd
end
theorem RG {sz:List Nat} {rk:List (Nat × Int)} {gs:List Gp} (h:QB sz rk gs):1<=sz.sum/\sz.sum<=183:=by
 have key:∀ l:List Nat,(∀ x∈l,1<=x/\x<=61)->l.length<=l.sum/\l.sum<=61 * l.length:=by
  intro l
  induction l with
  | nil=>intro _; simp
  | cons a l ih =>
   intro hz
   have h1:=hz a (by simp)
   have h2:=ih fun x hx=>hz x (by simp [hx])
   rw [hU,bv]
   omega
 have:=key sz h.z
 have a1:=h.l1
 have a3:=h.l3
 omega
end Og
namespace Og
open PySem L2 PyProof.Rows
theorem Qp:∀ (bs:List (Str × Nat × Int)) (s:Hz),(bs.foldl HH s).bs=s.bs
 | [],s=>rfl
 | b::bs,s=>Qp bs (HH s b)
theorem Mp:∀ (bs:List (Str × Nat)) (s:Hz),(bs.foldl Gm s).pi=s.pi
 | [],s=>rfl
 | b::bs,s=>Mp bs (Gm s b)
theorem cJ:¬ DX 0=DX 1/\¬ DX 0=DX 2/\¬ DX 1=DX 2:=by decide +kernel
theorem gU:¬ Dj 0=Dj 1/\¬ Dj 0=Dj 2/\¬ Dj 1=Dj 2:=by decide +kernel
theorem fY {sz:List Nat} {rk:List (Nat × Int)} {gs:List Gp} (l3:sz.length<=3) {b:Nat} (hb:b<sz.length):(mW sz rk gs).bs (DX b)=some ((sz.take b).sum,sz.getD b 0):=by
 show ((Eg rk).foldl HH ((GK sz).foldl Gm m0)).bs (DX b)=_
 rw [Qp]
 obtain ⟨n1,n2,n3⟩:=cJ
 match sz,b,l3,hb with
 | [x],0,_,_=>show (if DX 0=DX 0 then some (0,x) else none)=some (0,x); rw [if_pos rfl]; first | done | (congr 2 <;> omega)
 | [x,y],0,_,_=>show (if DX 0=DX 1 then some (0+x,y) else if DX 0=DX 0 then some (0,x) else none)=some (0,x); rw [if_neg n1,if_pos rfl]; first | done | (congr 2 <;> omega)
 | [x,y],1,_,_=>show (if DX 1=DX 1 then some (0+x,y) else if DX 1=DX 0 then some (0,x) else none)=some (x+0,y); rw [if_pos rfl]; first | done | (congr 2 <;> omega)
 | [x,y,z],0,_,_=>show (if DX 0=DX 2 then some (0+x+y,z) else if DX 0=DX 1 then some (0+x,y) else if DX 0=DX 0 then some (0,x) else none)=some (0,x); rw [if_neg n2,if_neg n1,if_pos rfl]; first | done | (congr 2 <;> omega)
 | [x,y,z],1,_,_=>show (if DX 1=DX 2 then some (0+x+y,z) else if DX 1=DX 1 then some (0+x,y) else if DX 1=DX 0 then some (0,x) else none)=some (x+0,y); rw [if_neg n3,if_pos rfl]; first | done | (congr 2 <;> omega)
 | [x,y,z],2,_,_=>show (if DX 2=DX 2 then some (0+x+y,z) else if DX 2=DX 1 then some (0+x,y) else if DX 2=DX 0 then some (0,x) else none)=some (x+(y+0),z); rw [if_pos rfl]; first | done | (congr 2 <;> omega)
theorem iM {sz:List Nat} {rk:List (Nat × Int)} {gs:List Gp} (l3:rk.length<=3) {b:Nat} (hb:b<rk.length):(mW sz rk gs).rk (Dj b)=some ((((Eg rk).take b).map (fun r=>r.2.1)).sum,((Eg rk).map (fun r=>r.2.1)).getD b 0):=by
 show ((Eg rk).foldl HH ((GK sz).foldl Gm m0)).rk (Dj b)=_
 obtain ⟨n1,n2,n3⟩:=gU
 have hp:((GK sz).foldl Gm m0).pi=0:=Mp _ _
 generalize (GK sz).foldl Gm m0=s at hp ⊢
 match rk,b,l3,hb with
 | [x],0,_,_=>show (if Dj 0=Dj 0 then some (s.pi,x.1) else s.rk (Dj 0))=some (0,x.1); rw [if_pos rfl,hp]; first | done | (congr 2 <;> omega)
 | [x,y],0,_,_=>show (if Dj 0=Dj 1 then some (s.pi+x.1,y.1) else if Dj 0=Dj 0 then some (s.pi,x.1) else s.rk (Dj 0))=some (0,x.1); rw [if_neg n1,if_pos rfl,hp]; first | done | (congr 2 <;> omega)
 | [x,y],1,_,_=>show (if Dj 1=Dj 1 then some (s.pi+x.1,y.1) else if Dj 1=Dj 0 then some (s.pi,x.1) else s.rk (Dj 1))=some (x.1+0,y.1); rw [if_pos rfl,hp]; first | done | (congr 2 <;> omega)
 | [x,y,z],0,_,_=>show (if Dj 0=Dj 2 then some (s.pi+x.1+y.1,z.1) else if Dj 0=Dj 1 then some (s.pi+x.1,y.1) else if Dj 0=Dj 0 then some (s.pi,x.1) else s.rk (Dj 0))=some (0,x.1); rw [if_neg n2,if_neg n1,if_pos rfl,hp]; first | done | (congr 2 <;> omega)
 | [x,y,z],1,_,_=>show (if Dj 1=Dj 2 then some (s.pi+x.1+y.1,z.1) else if Dj 1=Dj 1 then some (s.pi+x.1,y.1) else if Dj 1=Dj 0 then some (s.pi,x.1) else s.rk (Dj 1))=some (x.1+0,y.1); rw [if_neg n3,if_pos rfl,hp]; first | done | (congr 2 <;> omega)
 | [x,y,z],2,_,_=>show (if Dj 2=Dj 2 then some (s.pi+x.1+y.1,z.1) else if Dj 2=Dj 1 then some (s.pi+x.1,y.1) else if Dj 2=Dj 0 then some (s.pi,x.1) else s.rk (Dj 2))=some (x.1+(y.1+0),z.1); rw [if_pos rfl,hp]; first | done | (congr 2 <;> omega)
theorem Em.HR {H:Hp} {m:Addr} {sz:List Nat} {rk:List (Nat × Int)} {gs:List Gp} (h:Em H m sz rk gs) (l3:sz.length<=3) {b:Nat} (hb:b<sz.length):∃ db T,Ey H m (.str "boards") (some (.ref db))/\Ey H db (.str (DX b)) (some (.ref T))/\H T=some (.tup [.int (((sz.take b).sum:Nat):Int),.int ((sz.getD b 0:Nat):Int)]):=by
 refine byC fun w_=>?_;obtain ⟨H0,kvs,db,dr,kn,TL,n,h1,h2,h3,h4,h5,h6⟩:=h.ex;refine w_ ?_
 obtain ⟨kv2,e1,_,e3⟩:=h6.b
 obtain ⟨v,e4,T,rfl,e5⟩:=e3 _ _ (fY l3 hb)
 exact ⟨db,T,.inl ⟨kvs,Sum.inr "boards",.inl h1,rfl,h2.symm⟩,.inl ⟨kv2,Sum.inr (DX b),.inl e1,rfl,e4.symm⟩,e5⟩
theorem Em.rank {H:Hp} {m:Addr} {sz:List Nat} {rk:List (Nat × Int)} {gs:List Gp} (h:Em H m sz rk gs) (l3:rk.length<=3) {b:Nat} (hb:b<rk.length):∃ dr T,Ey H m (.str "ranks") (some (.ref dr))/\Ey H dr (.str (Dj b)) (some (.ref T))/\H T=some (.tup [.int (((((Eg rk).take b).map (fun r=>r.2.1)).sum:Nat):Int),.int ((((Eg rk).map (fun r=>r.2.1)).getD b 0:Nat):Int)]):=by
 refine byC fun w_=>?_;obtain ⟨H0,kvs,db,dr,kn,TL,n,h1,h2,h3,h4,h5,h6⟩:=h.ex;refine w_ ?_
 obtain ⟨kv2,e1,_,e3⟩:=h6.r
 obtain ⟨v,e4,T,rfl,e5⟩:=e3 _ _ (iM l3 hb)
 exact ⟨dr,T,.inl ⟨kvs,Sum.inr "ranks",.inl h1,rfl,h3.symm⟩,.inl ⟨kv2,Sum.inr (Dj b),.inl e1,rfl,e4.symm⟩,e5⟩
structure ModX (H0 H:Hp) (m:Addr) (sz:List Nat) (rk:List (Nat × Int)) (gs:List Gp):Prop where
 ex:∃ (kvs:List (Key × V)) (db dr kn:Addr) (TL:List (Addr × Addr)) (n:Nat),(H0 kn=none/\H0 db=none/\H0 dr=none/\H0 m=none)/\H m=some (.dK kvs)/\Cd kvs (Sum.inr "boards")=some (.ref db)/\Cd kvs (Sum.inr "ranks")=some (.ref dr)/\Cd kvs (Sum.inr "knobs")=some (.ref kn)/\Cd kvs (Sum.inr "keys")=some (.int ((sz.sum:Nat):Int))/\Gk H0 H db dr kn TL (mW sz rk gs) n
theorem ModX.at {H0 H:Hp} {m:Addr} {sz:List Nat} {rk:List (Nat × Int)} {gs:List Gp} (h:ModX H0 H m sz rk gs):Em H m sz rk gs:=by
 refine byC fun w_=>?_;obtain ⟨kvs,db,dr,kn,TL,n,_,h1,h2,h3,h4,h5,h6⟩:=h.ex;refine w_ ?_
 exact ⟨H0,kvs,db,dr,kn,TL,n,h1,h2,h3,h4,h5,h6⟩
theorem ModX.mono {H0 H H':Hp} {m:Addr} {sz:List Nat} {rk:List (Nat × Int)} {gs:List Gp} (s:Ao H H') (h:ModX H0 H m sz rk gs):ModX H0 H' m sz rk gs:=by
 refine byC fun w_=>?_;obtain ⟨kvs,db,dr,kn,TL,n,h0,h1,h2,h3,h4,h5,h6⟩:=h.ex;refine w_ ?_
 exact ⟨kvs,db,dr,kn,TL,n,h0,s _ _ h1,h2,h3,h4,h5,h6.mono s (aE _)⟩
theorem ModX.fr {H0 H H':Hp} {m dh pc:Addr} {sz:List Nat} {rk:List (Nat × Int)} {gs:List Gp} {u u':HO} {us us':List V} (h:ModX H0 H m sz rk gs) (d:H0 dh=some u) (p:H0 pc=some u') (hd:H dh=some (.lst us)) (hp:H pc=some (.lst us')) (f:∀ x o,x ≠ dh->x ≠ pc->H x=some o->H' x=some o):ModX H0 H' m sz rk gs:=by
 refine byC fun w_=>?_;obtain ⟨kvs,db,dr,kn,TL,n,⟨z1,z2,z3,z4⟩,h1,h2,h3,h4,h5,h6⟩:=h.ex;refine w_ ?_
 have nw:∀ {x o},H0 x=none->H x=some o->H' x=some o:=fun {x o} z e=>f x o (Ne.symm (Ak d z)) (Ne.symm (Ak p z)) e
 have tp:∀ {T zs},H T=some (.tup zs)->H' T=some (.tup zs):=fun {T zs} e=>f T _ (fun z=>by rw [z,hd] at e; cases e) (fun z=>by rw [z,hp] at e; cases e) e
 have ta:∀ {zs y},TupAt H zs y->TupAt H' zs y:=fun {zs y} ⟨T,e,q⟩=>⟨T,e,tp q⟩
 have dc:∀ {x g},H0 x=none->Qu H x g n->Qu H' x g n:=fun {x g} z ⟨kv,e1,e2,e3⟩=>⟨kv,nw z e1,e2,fun t x e=>let ⟨v,q1,q2⟩:=e3 t x e; ⟨v,q1,ta q2⟩⟩
 refine ⟨kvs,db,dr,kn,TL,n,⟨z1,z2,z3,z4⟩,nw z4 h1,h2,h3,h4,h5,dc z2 h6.b,dc z3 h6.r,nw z1 h6.k,h6.nd,h6.fr,Fz h6.pr fun g a ha q=>?_⟩
 obtain ⟨rv,lvs,k1,k2,k3,k4⟩:=q
 exact ⟨rv,lvs,tp k1,ta k2,nw (h6.fr a ha).1 k3,Paired.Fj k4 fun _ _ q=>ta q⟩
end Og
namespace Gn
noncomputable def gb (acc:List (Nat × Nat)) (r:Nat):Nat:=((acc.find? fun p=>decide (p.1=r)).map (·.2)).getD 0
noncomputable def mQ (acc:List (Nat × Nat)) (r k:Nat):List (Nat × Nat):=if (acc.any fun p=>decide (p.1=r))=true then acc.map (fun p=>if p.1=r then (p.1,gb acc r ||| Wd.mk [k]) else p) else acc++[(r,gb acc r ||| Wd.mk [k])]
noncomputable def qp (acc:List (Nat × Nat)) (p:Nat × Nat):List (Nat × Nat):=if p.1=0 then acc else mQ acc p.1 p.2
structure sE (n:Nat) (rw:List Nat) (acc:List (Nat × Nat)):Prop where
 nz:∀ p∈acc,p.1 ≠ 0
 bit:∀ p∈acc,∀ k,p.2.testBit k=true ↔ k<n/\rw.getD k 0=p.1
 ne:∀ p∈acc,∃ k,p.2.testBit k=true
 nd:(acc.map (·.1)).Nodup
 ord:acc.Pairwise fun p q=>∀ k,q.2.testBit k=true->∃ k',k'<k/\p.2.testBit k'=true
 all:∀ k,k<n->rw.getD k 0 ≠ 0->rw.getD k 0∈acc.map (·.1)
 len:acc.length<=n
end Gn
namespace L2
open PySem PySem.Spec PyProof.Rows
section
variable {σ:St} {H1:Hp} {Q:VK} {te:TE}
end
end L2
namespace L2
open PySem PySem.Spec PyProof.Rows
end L2
namespace L2
open PySem PySem.Spec PyProof.Rows
section
variable {X:Cx} {pins:List (Addr × Obj)} {σ:St} {H:Hp} {s:Shared} {x z:Str} {scope:Scope} {fp:List Addr} {C:Addr}
end
section
variable {X:Cx} {x z:Str} {scope:Scope}
end
section
variable {X:Cx} {x z:Str} {scope:Scope}
end
end L2
namespace L2
open PySem PySem.Spec PySem.Calls PyProof.Rows
theorem Sw {X:Cx} (hu:X.A.units<cLine):Gv X (compareOp .Eq) (fun x y H Q=>∃ p q xs,x=V.ref p/\y=V.ref q/\Cz X.K H p xs/\Cz X.K H q []/\Q (.bl xs.isEmpty) H):=by
 intro pins s σ H x y v u Q I rx ry h
 obtain ⟨p,q,xs,rfl,rfl,hp,hq,k⟩:=h
 cases rx
 cases ry
 obtain ⟨its,r,pl,hz⟩:=I.list hp
 obtain ⟨its2,r2,pl2,hz2⟩:=I.list hq
 have l1:=r.length
 cases r2
 cases xs with
 | nil =>
  cases r
  refine SeqAt.RcAt.lists (e:=fun _=>true) pl.isList pl2.isList rfl hu (fun j h1 h2=>?_) _ _ _ _ ⟨.bl _,H,I,rfl,k⟩
  exact absurd h1 (ge _)
 | cons a b =>
  refine SeqAt.RcAt.lists_lengths pl.isList pl2.isList (by simp; intro z; rw [z] at l1; simp at l1) hu _ _ _ _ ⟨.bl _,H,I,rfl,k⟩
end L2
namespace Og
open PySem L2
end Og
namespace L2
open PySem PySem.Spec PyProof.Rows
section
variable {σ:St} {H1:Hp} {Q:VK} {te:TE}
end
end L2
namespace Gn
theorem ZQ {a b:Nat} (h:a &&& b=0):a+b=a ||| b:=by
 have ha:a<2 ^ (a+b+1):=kN (bp (jv a b) (eT _)) kt
 have hb:b<2 ^ (a+b+1):=kN (bp (Nat.le_add_left b a) (eT _)) kt
 have hab:a+b<2 ^ (a+b+1):=kN (eT _) kt
 have:=BitVec.add_eq_or_of_and_eq_zero (BitVec.ofNat (a+b+1) a) (BitVec.ofNat (a+b+1) b) (by
  apply BitVec.eq_of_toNat_eq
  rw [BitVec.toNat_and,BitVec.toNat_ofNat,BitVec.toNat_ofNat,im ha,im hb,h]
  simp)
 have:=congrArg BitVec.toNat this
 rw [BitVec.toNat_add,BitVec.toNat_or,BitVec.toNat_ofNat,BitVec.toNat_ofNat,im ha,im hb,im hab] at this
 exact this
theorem Xh (D M k:Nat):(D - (D &&& M)).testBit k=(D.testBit k && !M.testBit k):=by
 have hz:(D &&& M) &&& (D ^^^ (D &&& M))=0:=jI fun i=>by
  simp only [Nat.testBit_and,Nat.testBit_xor,Nat.zero_testBit]
  cases D.testBit i <;> cases M.testBit i <;> rfl
 have hs:(D &&& M)+(D ^^^ (D &&& M))=D:=by
  rw [ZQ hz]
  refine jI fun i=>?_
  simp only [Nat.testBit_and,Nat.testBit_xor,Nat.testBit_or]
  cases D.testBit i <;> cases M.testBit i <;> rfl
 have e:D - (D &&& M)=D ^^^ (D &&& M):=by omega
 rw [e]
 simp only [Nat.testBit_and,Nat.testBit_xor]
 cases D.testBit k <;> cases M.testBit k <;> rfl
end Gn
namespace L2
open PySem PySem.Spec PySem.Calls PyProof.Rows
section
variable {X:Cx} {pins:List (Addr × Obj)} {σ:St} {H:Hp} {s:Shared} {x z y3:Str} {scope:Scope} {fp:List Addr} {C:Addr}
end
section
variable {X:Cx} {x z y3:Str} {scope:Scope}
end
section
variable {X:Cx} {x z y3:Str} {scope:Scope}
end
section
variable {X:Cx} {x z y3:Str} {scope:Scope}
end
end L2
namespace L2
open PySem PySem.Spec PySem.Calls PyProof.Rows
section
variable {X:Cx} {x z y3:Str} {scope:Scope}
end
section
variable {σ:St} {H1:Hp} {Q:VK} {tt:TT} {te:TE}
end
end L2
section PartK30a
set_option maxHeartbeats 4000000
namespace K30
open PySem L2 Og
noncomputable def top (i:Nat):Stmt:=PySem.Challenge.pw_windchest_k30_whole_board_and_walk.main.body.getD i (.Pass ⟨0,0,0,0⟩)
noncomputable abbrev oW:Stmt:=top 8
noncomputable abbrev jg:Stmt:=top 9
noncomputable abbrev lW:Stmt:=top 10
noncomputable abbrev je:Stmt:=top 52
noncomputable abbrev jo:Stmt:=top 53
noncomputable abbrev oF:Stmt:=top 54
noncomputable abbrev jd:Stmt:=top 55
noncomputable abbrev jf:Stmt:=top 56
noncomputable abbrev pF:Stmt:=top 57
noncomputable abbrev ji:Stmt:=top 58
noncomputable abbrev lE:Stmt:=top 59
noncomputable abbrev mZ:Stmt:=top 61
noncomputable abbrev kO:Stmt:=top 62
noncomputable abbrev oG:Stmt:=top 63
noncomputable abbrev mO:Stmt:=top 64
noncomputable abbrev mX:Stmt:=top 67
noncomputable abbrev jc:Stmt:=top 68
noncomputable abbrev jZ:Stmt:=top 69
noncomputable abbrev qP:Stmt:=top 70
noncomputable abbrev oU:Stmt:=top 13
noncomputable abbrev jX:Stmt:=top 14
noncomputable abbrev nZ:Stmt:=top 15
noncomputable abbrev jP:Stmt:=top 16
noncomputable abbrev pJ:Stmt:=top 17
noncomputable abbrev lU:Stmt:=top 18
noncomputable abbrev lD:Stmt:=top 20
noncomputable abbrev fM:Stmt:=top 21
noncomputable abbrev lQ:Stmt:=top 22
noncomputable abbrev lC:Stmt:=top 23
noncomputable abbrev oh:Stmt:=top 24
noncomputable abbrev oV:Stmt:=top 25
noncomputable abbrev XF:Stmt:=top 26
noncomputable abbrev dN:Stmt:=top 40
noncomputable abbrev kh:Stmt:=top 41
noncomputable abbrev jt:Stmt:=top 42
noncomputable abbrev oX:Stmt:=top 43
noncomputable abbrev jY:Stmt:=top 28
noncomputable abbrev jm:Stmt:=top 29
noncomputable abbrev ou:Stmt:=top 30
noncomputable abbrev lA:Stmt:=top 31
noncomputable abbrev lB:Stmt:=top 32
noncomputable abbrev jQ:Stmt:=top 33
noncomputable abbrev jM:Stmt:=top 34
noncomputable abbrev pD:Stmt:=top 35
noncomputable abbrev lK:Stmt:=top 36
noncomputable abbrev nu:Stmt:=top 37
noncomputable abbrev p_:Stmt:=top 38
noncomputable abbrev pK:Stmt:=top 74
noncomputable abbrev lN:Stmt:=top 75
noncomputable abbrev jl:Stmt:=top 76
noncomputable abbrev o9:Stmt:=top 77
noncomputable abbrev qJ:Stmt:=top 78
noncomputable abbrev qI:Stmt:=top 79
noncomputable abbrev Z3:Stmt:=top 80
noncomputable abbrev lX:Stmt:=top 81
noncomputable abbrev qK:Stmt:=top 82
noncomputable abbrev mq:Stmt:=top 84
noncomputable abbrev sTy:Stmt:=top 87
noncomputable abbrev oO:Stmt:=top 88
noncomputable abbrev d7:Stmt:=top 89
noncomputable abbrev V6:Stmt:=inClass (top 72) 0
noncomputable abbrev qW:Stmt:=inClass (top 72) 2
noncomputable abbrev n8:Stmt:=inClass (top 72) 5
noncomputable abbrev lY:Stmt:=inClass (top 72) 7
noncomputable abbrev lR:Stmt:=inClass (top 72) 8
noncomputable abbrev lH:Stmt:=inClass (top 72) 13
noncomputable abbrev nT:Stmt:=inClass (top 72) 15
noncomputable abbrev mH:Stmt:=inClass (top 72) 3
noncomputable abbrev pQ:Stmt:=inClass (top 72) 6
noncomputable abbrev m9:Stmt:=inClass (top 72) 9
noncomputable abbrev nW:Stmt:=inClass (top 72) 14
noncomputable abbrev nC:Stmt:=inClass (top 72) 16
noncomputable abbrev oZ:Stmt:=inClass (top 72) 10
noncomputable abbrev jU:Stmt:=inClass (top 72) 4
noncomputable abbrev mY:Stmt:=inClass (top 44) 0
noncomputable abbrev jw:Stmt:=inClass (top 44) 3
noncomputable abbrev Nv:Stmt:=top 90
structure Txt (K:W.Frag) (P:Params) (mg:Str->Option Value) (C Cy aN aK aB aP aM:Addr):Prop where
 len:mg "len" = none
 isin:mg "isinstance" = none
 int:mg "int" = none
 bool:mg "bool" = none
 str:mg "str" = none
 list:mg "list" = none
 tuple:mg "tuple" = none
 all:mg "all" = none
 any:mg "any" = none
 sum:mg "sum" = none
 range:mg "range" = none
 zip:mg "zip" = none
 enumerate:mg "enumerate" = none
 max:mg "max" = none
 reversed:mg "reversed" = none
 abs:mg "abs" = none
 letters:∃ t,mg "LETTERS" = some (.str letters t)
 mostL:∃ t,mg "MOST_LETTERS" = some (.int 8 t)
 mostR:∃ t,mg "MOST_ROWS" = some (.int 150 t)
 mostLn:∃ t,mg "MOST_LINES" = some (.int 4 t)
 below:∃ t,mg "MEMBERS_BELOW" = some (.int 1200 t)
 mN:mg "NAMED" = some (.ref aN)
 mK:mg "KNOBS" = some (.ref aK)
 mB:mg "BOUNDS" = some (.ref aB)
 mP:mg "PARTS" = some (.ref aP)
 mM:mg "MOST_OF" = some (.ref aM)
 tN:KTup K aN (named.map V.str)
 tK:KTup K aK [.str "stop",.str "coupler",.str "mute"]
 dB:KDict K P aB
 dP:KDict K P aP
 dM:KDict K P aM
 cl:Tz K C
 mC:mg "Organ" = some (.ref C)
 clR:Tz K Cy
 mCR:mg "Relays" = some (.ref Cy)
 nr_row_sets:Dq K Cy "row_sets"
 n_row_list:Dq K C "row_list"
 n_board_list:Dq K C "board_list"
 n_rank_list:Dq K C "rank_list"
 n_knob_rows:Dq K C "knob_rows"
 n_board_numbers:Dq K C "board_numbers"
 n_rank_numbers:Dq K C "rank_numbers"
 n_knob_numbers:Dq K C "knob_numbers"
 n_key_places:Dq K C "key_places"
 n_pipe_places:Dq K C "pipe_places"
 n_knob_lines:Dq K C "knob_lines"
 n_step_sets:Dq K C "step_sets"
set_option genInjectivity false in
structure Ad where
 (fWh fMd fNm fRo fTo fWi fPa fHp fCl fIk fSb fWm fHr fIr fCk fNu fCa fPl fLi fMy fSt fHa fMe fSh fUn fLe fDc fHk fWa fCq fTb fTt fLp fLq fCb fCr fMu fUk fSk fNb fLl fBs fBa fSo fLt fKa fWs fCe fLw fDn fDw fLs fLc fLg fLm fLd fMt fTy fWy fWq fOi fOb fOc fOk fOo fBk fOp fOr fOq fOe fOs fOm fOx fOz fRi fRs:Addr)
 (dWh dMd dNm dRo dTo dWi dPa dHp dCl dIk dSb dWm dHr dIr dCk dNu dCa dPl dLi dMy dSt dHa dMe dSh dUn dLe dDc dHk dWa dCq dTb dTt dLp dLq dCb dCr dMu dUk dSk dNb dLl dBs dBa dSo dLt dKa dWs dCe dLw dDn dDw dLs dLc dLg dLm dLd dMt dTy dWy dWq dOi dOb dOc dOk dOo dBk dOp dOr dOq dOe dOs dOm dOx dOz dRi dRs:FuncData)
structure qF (K:W.Frag) (mg:Str->Option Value) (C Cy:Addr) (aD:Ad):Prop where
 FWh:DK K "is_whole" "is_whole" oW aD.fWh aD.dWh∧Binds K aD.dWh ["thing"] []∧mg "is_whole" = some (.ref aD.fWh)
 FMd:DK K "is_made_of" "is_made_of" jg aD.fMd aD.dMd∧Binds K aD.dMd ["text","signs","most"] []∧mg "is_made_of" = some (.ref aD.fMd)
 FNm:DK K "is_name" "is_name" lW aD.fNm aD.dNm∧Binds K aD.dNm ["thing"] []∧mg "is_name" = some (.ref aD.fNm)
 FRo:DK K "rows_of" "rows_of" je aD.fRo aD.dRo∧Binds K aD.dRo ["rows","word"] []∧mg "rows_of" = some (.ref aD.fRo)
 FTo:DK K "is_told" "is_told" jo aD.fTo aD.dTo∧Binds K aD.dTo ["rows","word","thing"] []∧mg "is_told" = some (.ref aD.fTo)
 FWi:DK K "is_within" "is_within" oF aD.fWi aD.dWi∧Binds K aD.dWi ["thing","bounds"] []∧mg "is_within" = some (.ref aD.fWi)
 FPa:DK K "is_part" "is_part" jd aD.fPa aD.dPa∧Binds K aD.dPa ["thing","part","ahead"] []∧mg "is_part" = some (.ref aD.fPa)
 FHp:DK K "has_parts" "has_parts" jf aD.fHp aD.dHp∧Binds K aD.dHp ["row","ahead"] []∧mg "has_parts" = some (.ref aD.fHp)
 FCl:DK K "count_of_last_lines" "count_of_last_lines" pF aD.fCl aD.dCl∧Binds K aD.dCl ["rows"] []∧mg "count_of_last_lines" = some (.ref aD.fCl)
 FIk:DK K "is_key_of" "is_key_of" ji aD.fIk aD.dIk∧Binds K aD.dIk ["number","board","ahead"] []∧mg "is_key_of" = some (.ref aD.fIk)
 FSb:DK K "stands_behind_stop" "stands_behind_stop" lE aD.fSb aD.dSb∧Binds K aD.dSb ["line","ahead"] []∧mg "stands_behind_stop" = some (.ref aD.fSb)
 FWm:DK K "is_well_made" "is_well_made" mZ aD.fWm aD.dWm∧Binds K aD.dWm ["row","ahead"] []∧mg "is_well_made" = some (.ref aD.fWm)
 FHr:DK K "has_room" "has_room" kO aD.fHr aD.dHr∧Binds K aD.dHr ["word","ahead"] []∧mg "has_room" = some (.ref aD.fHr)
 FIr:DK K "is_row" "is_row" oG aD.fIr aD.dIr∧Binds K aD.dIr ["thing","ahead"] []∧mg "is_row" = some (.ref aD.fIr)
 FCk:DK K "check_rows" "check_rows" mO aD.fCk aD.dCk∧Binds K aD.dCk ["rows"] []∧mg "check_rows" = some (.ref aD.fCk)
 FNu:DK K "numbers_of" "numbers_of" mX aD.fNu aD.dNu∧Binds K aD.dNu ["names"] []∧mg "numbers_of" = some (.ref aD.fNu)
 FCa:DK K "count_in_all" "count_in_all" jc aD.fCa aD.dCa∧Binds K aD.dCa ["things"] []∧mg "count_in_all" = some (.ref aD.fCa)
 FPl:DK K "places_of" "places_of" jZ aD.fPl aD.dPl∧Binds K aD.dPl ["things"] []∧mg "places_of" = some (.ref aD.fPl)
 FLi:DK K "lines_by_knob" "lines_by_knob" qP aD.fLi aD.dLi∧Binds K aD.dLi ["rows","rank_numbers"] []∧mg "lines_by_knob" = some (.ref aD.fLi)
 FMy:DK K "may_be_member" "may_be_member" oU aD.fMy aD.dMy∧Binds K aD.dMy ["thing"] []∧mg "may_be_member" = some (.ref aD.fMy)
 FSt:DK K "set_of" "set_of" jX aD.fSt aD.dSt∧Binds K aD.dSt ["numbers"] []∧mg "set_of" = some (.ref aD.fSt)
 FHa:DK K "has_member" "has_member" nZ aD.fHa aD.dHa∧Binds K aD.dHa ["some","number"] []∧mg "has_member" = some (.ref aD.fHa)
 FMe:DK K "members_of" "members_of" jP aD.fMe aD.dMe∧Binds K aD.dMe ["some"] []∧mg "members_of" = some (.ref aD.fMe)
 FSh:DK K "shifted" "shifted" pJ aD.fSh aD.dSh∧Binds K aD.dSh ["some","steps","count"] []∧mg "shifted" = some (.ref aD.fSh)
 FUn:DK K "union_of" "union_of" lU aD.fUn aD.dUn∧Binds K aD.dUn ["sets"] []∧mg "union_of" = some (.ref aD.fUn)
 FLe:DK K "led_to" "led_to" lD aD.fLe aD.dLe∧Binds K aD.dLe ["organ","knob","key"] []∧mg "led_to" = some (.ref aD.fLe)
 FDc:DK K "drawn_of" "drawn_of" fM aD.fDc aD.dDc∧Binds K aD.dDc ["organ","knobs","word"] []∧mg "drawn_of" = some (.ref aD.fDc)
 FHk:DK K "held_keys" "held_keys" lQ aD.fHk aD.dHk∧Binds K aD.dHk ["organ","held"] []∧mg "held_keys" = some (.ref aD.fHk)
 FWa:DK K "coupled_ways" "coupled_ways" lC aD.fWa aD.dWa∧Binds K aD.dWa ["organ","knobs","held"] []∧mg "coupled_ways" = some (.ref aD.fWa)
 FCq:DK K "coupled_keys" "coupled_keys" oh aD.fCq aD.dCq∧Binds K aD.dCq ["organ","knobs","held"] []∧mg "coupled_keys" = some (.ref aD.fCq)
 FTb:DK K "trail_back" "trail_back" oV aD.fTb aD.dTb∧Binds K aD.dTb ["ways","held","key"] []∧mg "trail_back" = some (.ref aD.fTb)
 FTt:W4 K "trail_to" "trail_to" XF aD.fTt aD.dTt∧Binds K aD.dTt ["organ","knobs","held","key","least"] []∧mg "trail_to" = some (.ref aD.fTt)
 FLp:DK K "led_in_one_step" "led_in_one_step" dN aD.fLp aD.dLp∧Binds K aD.dLp ["organ","couplers","key"] []∧mg "led_in_one_step" = some (.ref aD.fLp)
 FLq:DK K "led_in_all_steps" "led_in_all_steps" kh aD.fLq aD.dLq∧Binds K aD.dLq ["one_step"] []∧mg "led_in_all_steps" = some (.ref aD.fLq)
 FCb:DK K "coupled_by_each" "coupled_by_each" jt aD.fCb aD.dCb∧Binds K aD.dCb ["organ","knobs"] []∧mg "coupled_by_each" = some (.ref aD.fCb)
 FCr:DK K "compiled_rows" "compiled_rows" oX aD.fCr aD.dCr∧Binds K aD.dCr ["organ","knobs"] []∧mg "compiled_rows" = some (.ref aD.fCr)
 FMu:DK K "muted_boards" "muted_boards" jY aD.fMu aD.dMu∧Binds K aD.dMu ["organ","knobs"] []∧mg "muted_boards" = some (.ref aD.fMu)
 FUk:DK K "unmuted_keys" "unmuted_keys" jm aD.fUk aD.dUk∧Binds K aD.dUk ["organ","knobs","keys"] []∧mg "unmuted_keys" = some (.ref aD.fUk)
 FSk:DK K "speaking_keys" "speaking_keys" ou aD.fSk aD.dSk∧Binds K aD.dSk ["organ","knobs","held"] []∧mg "speaking_keys" = some (.ref aD.fSk)
 FNb:DK K "numbers_on_board" "numbers_on_board" lA aD.fNb aD.dNb∧Binds K aD.dNb ["organ","board","keys"] []∧mg "numbers_on_board" = some (.ref aD.fNb)
 FLl:DK K "led_by_line" "led_by_line" lB aD.fLl aD.dLl∧Binds K aD.dLl ["organ","line","numbers"] []∧mg "led_by_line" = some (.ref aD.fLl)
 FBs:DK K "brought_by_stop" "brought_by_stop" jQ aD.fBs aD.dBs∧Binds K aD.dBs ["organ","knob","keys"] []∧mg "brought_by_stop" = some (.ref aD.fBs)
 FBa:DK K "brought_in_all" "brought_in_all" jM aD.fBa aD.dBa∧Binds K aD.dBa ["organ","knobs","keys"] []∧mg "brought_in_all" = some (.ref aD.fBa)
 FSo:DK K "sounding_pipes" "sounding_pipes" pD aD.fSo aD.dSo∧Binds K aD.dSo ["organ","knobs","held"] []∧mg "sounding_pipes" = some (.ref aD.fSo)
 FLt:DK K "lines_leading_to" "lines_leading_to" lK aD.fLt aD.dLt∧Binds K aD.dLt ["organ","knobs","keys","pipe"] []∧mg "lines_leading_to" = some (.ref aD.fLt)
 FKa:DK K "key_ahead" "key_ahead" nu aD.fKa aD.dKa∧Binds K aD.dKa ["organ","knob","number","pipe"] []∧mg "key_ahead" = some (.ref aD.fKa)
 FWs:DK K "why_sounds" "why_sounds" p_ aD.fWs aD.dWs∧Binds K aD.dWs ["organ","knobs","held","pipe"] []∧mg "why_sounds" = some (.ref aD.fWs)
 FCe:DK K "_law_cell_at" "_law_cell_at" pK aD.fCe aD.dCe∧Binds K aD.dCe ["_law_script","_law_k"] []∧mg "_law_cell_at" = some (.ref aD.fCe)
 FLw:DK K "_law_whole" "_law_whole" lN aD.fLw aD.dLw∧Binds K aD.dLw ["_law_found"] []∧mg "_law_whole" = some (.ref aD.fLw)
 FDn:DK K "_law_drawn" "_law_drawn" jl aD.fDn aD.dDn∧Binds K aD.dDn ["_law_script","_law_start"] []∧mg "_law_drawn" = some (.ref aD.fDn)
 FDw:DK K "_law_draw" "_law_draw" o9 aD.fDw aD.dDw∧Binds K aD.dDw ["_law_drawn_here","_law_many"] []∧mg "_law_draw" = some (.ref aD.fDw)
 FLs:DK K "_law_stop" "_law_stop" qJ aD.fLs aD.dLs∧Binds K aD.dLs ["_law_drawn_here","_law_k","_law_sizes","_law_ranks"] []∧mg "_law_stop" = some (.ref aD.fLs)
 FLc:DK K "_law_coupler" "_law_coupler" qI aD.fLc aD.dLc∧Binds K aD.dLc ["_law_drawn_here","_law_k","_law_sizes"] []∧mg "_law_coupler" = some (.ref aD.fLc)
 FLg:DK K "_law_organ" "_law_organ" Z3 aD.fLg aD.dLg∧Binds K aD.dLg ["_law_drawn_here"] []∧mg "_law_organ" = some (.ref aD.fLg)
 FLm:DK K "_law_model" "_law_model" lX aD.fLm aD.dLm∧Binds K aD.dLm ["_law_rows"] []∧mg "_law_model" = some (.ref aD.fLm)
 FLd:DK K "_law_led" "_law_led" qK aD.fLd aD.dLd∧Binds K aD.dLd ["_law_model_here","_law_row_here","_law_key"] []∧mg "_law_led" = some (.ref aD.fLd)
 FMt:DK K "_law_muted" "_law_muted" mq aD.fMt aD.dMt∧Binds K aD.dMt ["_law_model_here","_law_knobs","_law_key"] []∧mg "_law_muted" = some (.ref aD.fMt)
 FTy:DK K "_law_trail_right" "_law_trail_right" sTy aD.fTy aD.dTy∧Binds K aD.dTy ["_law_model_here","_law_knobs","_law_held","_law_trail"] []∧mg "_law_trail_right" = some (.ref aD.fTy)
 FWy:DK K "_law_why_right" "_law_why_right" oO aD.fWy aD.dWy∧Binds K aD.dWy ["_law_model_here","_law_knobs","_law_held","_law_pipe","_law_why"] []∧mg "_law_why_right" = some (.ref aD.fWy)
 FWq:DK K "_law_whys" "_law_whys" d7 aD.fWq aD.dWq∧Binds K aD.dWq ["_law_organ_here","_law_model_here","_law_knobs","_law_held","_law_pipes","_law_cell"] []∧mg "_law_whys" = some (.ref aD.fWq)
 FOi:DK K "__init__" "Organ.__init__" V6 aD.fOi aD.dOi∧Binds K aD.dOi ["self","rows"] []∧Mk K C aD.fOi
 FOb:DK K "boards" "Organ.boards" qW aD.fOb aD.dOb∧Binds K aD.dOb ["self"] []∧Meth K C "boards" aD.fOb
 FOc:DK K "key_count" "Organ.key_count" n8 aD.fOc aD.dOc∧Binds K aD.dOc ["self"] []∧Meth K C "key_count" aD.fOc
 FOk:DK K "key" "Organ.key" lY aD.fOk aD.dOk∧Binds K aD.dOk ["self","board","number"] []∧Meth K C "key" aD.fOk
 FOo:DK K "board_of" "Organ.board_of" lR aD.fOo aD.dOo∧Binds K aD.dOo ["self","key"] []∧Meth K C "board_of" aD.fOo
 FBk:DK K "board_of_knob" "Organ.board_of_knob" lH aD.fBk aD.dBk∧Binds K aD.dBk ["self","knob"] []∧Meth K C "board_of_knob" aD.fBk
 FOp:DK K "coupler" "Organ.coupler" nT aD.fOp aD.dOp∧Binds K aD.dOp ["self","knob"] []∧Meth K C "coupler" aD.fOp
 FOr:DK K "ranks" "Organ.ranks" mH aD.fOr aD.dOr∧Binds K aD.dOr ["self"] []∧Meth K C "ranks" aD.fOr
 FOq:DK K "pipe_count" "Organ.pipe_count" pQ aD.fOq aD.dOq∧Binds K aD.dOq ["self"] []∧Meth K C "pipe_count" aD.fOq
 FOe:DK K "pipe" "Organ.pipe" m9 aD.fOe aD.dOe∧Binds K aD.dOe ["self","rank","number"] []∧Meth K C "pipe" aD.fOe
 FOs:DK K "stop" "Organ.stop" nW aD.fOs aD.dOs∧Binds K aD.dOs ["self","knob"] []∧Meth K C "stop" aD.fOs
 FOm:DK K "mute" "Organ.mute" nC aD.fOm aD.dOm∧Binds K aD.dOm ["self","knob"] []∧Meth K C "mute" aD.fOm
 FOx:DK K "rank_of" "Organ.rank_of" oZ aD.fOx aD.dOx∧Binds K aD.dOx ["self","pipe"] []∧Meth K C "rank_of" aD.fOx
 FOz:DK K "knobs" "Organ.knobs" jU aD.fOz aD.dOz∧Binds K aD.dOz ["self"] []∧Meth K C "knobs" aD.fOz
 FRi:DK K "__init__" "Relays.__init__" mY aD.fRi aD.dRi∧Binds K aD.dRi ["self","organ","knobs"] []∧Mk K Cy aD.fRi
 FRs:DK K "sound" "Relays.sound" jw aD.fRs aD.dRs∧Binds K aD.dRs ["self","held"] []∧Meth K Cy "sound" aD.fRs
section
variable {P:Program} {w:World} {K:W.Frag} {mg:Str->Option Value} {base:Heap} {C Cy aN aK aB aP aM:Addr} {aD:Ad}
variable (N:qF K mg C Cy aD) (T:Txt K w.params mg C Cy aN aK aB aP aM)
noncomputable def R4:Sp:=fun vs H Q _=>∃ i:Int,vs=[.int i]/\Q (.bl true) H
theorem mD:Aw ["thing"] ["thing"] (Af oW):=Bo
include N T in
theorem Xy:Av P w K mg base Bg 1 aD.fWh aD.dWh ["thing"] R4:=by
 refine N.FWh.1.ok mD (fun vs H Q E h=>?_) (fun cdv A outer s H vs Q E hr h=>?_)
 ·obtain ⟨i,rfl,_⟩:=h
  rfl
 ·obtain ⟨i,rfl,q⟩:=h
  refine ⟨_,(Ai (Ay (Et (BP Dp rfl T.isin cE (Aa (pv 0) (Aa (FT (v:=.ty "int") rfl T.int gt rfl) Ab))) (Dv (My (BP Dp rfl T.isin cE (Aa (pv 0) (Aa (FT (v:=.ty "bool") rfl T.bool PyProof.Rows.boot_bool rfl) Ab)))))))),?_⟩
  refine ⟨_,rfl,_,"int",_,_,rfl,.int i,ty_int,_,rfl,Ef ?_⟩
  exact ⟨_,rfl,_,"bool",_,_,rfl,.int i,Xq,_,rfl,q⟩
noncomputable def cV:Sp:=fun vs H Q _=>∃ z:Str,vs=[.str z,.str letters,.int 8]/\isNm z/\∀ H',Ao H H'->Q (.bl true) H'
theorem nj:Aw ["text","signs","most"] ["text","signs","most"] (Af jg):=Bo
include N T in
theorem jF:Av P w K mg base Bg 1 aD.fMd aD.dMd ["text","signs","most"] cV:=by
 refine N.FMd.1.ok nj (fun vs H Q E h=>?_) (fun cdv A outer s H vs Q E hr h=>?_)
 ·obtain ⟨z,rfl,_⟩:=h
  rfl
 ·obtain ⟨z,rfl,hz,q⟩:=h
  refine ⟨_,(Ai (Ay (Et (JP Ff Ff Ae (BP Nh rfl T.len bX (Aa (pv 0) Ab)) (pv 2)) (Dv (BP (KJ rfl) rfl T.all iS (Aa (Bu rfl (Be (osc:=Af jg) (N:=["text","signs","most"]) rfl rfl (by decide +kernel)) (ZD (pv 0)) (fun _ _ _ _=>CW) (fun _ _ _ _=>(Dt Tt (pv 0) (pv 2) rfl))) Ab)))))),?_⟩
  have hzl:z.length<sizeLine:=BJ (by have:=hz.2.1; omega)
  refine ⟨_,rfl,z,rfl,ga hzl,_,_,rfl,rfl,_,rfl,?_⟩
  refine Bs (fun h1=>?_) (fun h1=>absurd (decide_eq_true (by have:=hz.1; omega)) h1)
  refine ⟨_,rfl,_,_,rfl,rfl,_,rfl,?_⟩
  refine Bs (fun h2=>?_) (fun h2=>absurd (decide_eq_true (by have:=hz.2.1; omega)) h2)
  refine ⟨_,rfl,z,rfl,Vm (fun _=>true) (fun c=>.bl (bc letters c)) hzl (fun c hc H' hs R k=>k H' (Ao.refl H')) (fun c hc _ H' hs R k=>⟨_,rfl,_,rfl,_,_,rfl,rfl,k H' (Ao.refl H')⟩) (fun D H' hD hs hl=>?_)⟩
  refine ⟨D,z.cps.toList.map (bc letters),rfl,.inl (.inl ?_),?_⟩
  ·rw [hl,bt.mpr (fun _ _=>rfl),bo]
   rfl
  ·have e:(z.cps.toList.map (bc letters)).all id=true:=by
    rw [List.all_map,fN]
    intro c hc
    have:=hz.2.2 c hc
    show bc letters c=true
    rw [W8 c (by omega)]
    exact decide_eq_true this
   rw [e]
   exact q H' hs
noncomputable def Yo:Sp:=fun vs H Q _=>∃ z:Str,vs=[.str z]/\isNm z/\∀ H',Ao H H'->Q (.bl true) H'
theorem mF:Aw ["thing"] ["thing"] (Af lW):=Bo
include N T in
theorem Yb:Av P w K mg base Bg 2 aD.fNm aD.dNm ["thing"] Yo:=by
 refine N.FNm.1.ok mF (fun vs H Q E h=>?_) (fun cdv A outer s H vs Q E hr h=>?_)
 ·obtain ⟨z,rfl,_⟩:=h
  rfl
 ·obtain ⟨z,rfl,hz,q⟩:=h
  obtain ⟨tLET,hLET⟩:=T.letters
  obtain ⟨tML,hML⟩:=T.mostL
  refine ⟨_,(Ai (Ay (Et (BP Dp rfl T.isin cE (Aa (pv 0) (Aa (FT (v:=.ty "str") rfl T.str PyProof.Rows.boot_str rfl) Ab))) (Dv (Aj (jF N T) (ad hr) rfl N.FMd.2.2 N.FMd.1.kp N.FMd.2.1 .nil An (Aa (pv 0) (Aa (Ds (v:=.str letters) rfl hLET ⟨tLET,rfl⟩) (Aa (Ds (v:=.int 8) rfl hML ⟨tML,rfl⟩) Ab)))))))),?_⟩
  refine ⟨_,rfl,_,"str",_,_,rfl,.str z,Xl,_,rfl,Ef ?_⟩
  exact ⟨_,rfl,z,rfl,hz,q⟩
noncomputable def Sv:Sp:=fun vs H Q _=>∃ (p:Addr) (us:List V) (w:Str) (ρ:V->R),vs=[.ref p,.str w]/\H p=some (.lst us)/\Rows H ρ us/\us.length<=500/\∀ D H',H D=none->Ao H H'->H' D=some (.lst (us.filter (pw ρ w)))->Q (.ref D) H'
theorem pY:Aw ["rows","word"] ["rows","word"] (Af je):=Bo
include N T in
theorem Oi:Av P w K mg base Bg 1 aD.fRo aD.dRo ["rows","word"] Sv:=by
 refine N.FRo.1.ok pY (fun vs H Q E h=>?_) (fun cdv A outer s H vs Q E hr h=>?_)
 ·refine byC fun w_=>?_;obtain ⟨p,us,w,ρ,rfl,_⟩:=h;refine w_ ?_
  rfl
 ·refine byC fun w_=>?_;obtain ⟨p,us,w,ρ,rfl,hp,hR,hl,q⟩:=h;refine w_ ?_
  refine ⟨_,(Ai (Ay (Bu rfl (Be (osc:=Af je) (N:=["rows","word"]) rfl rfl (by decide +kernel)) (Bp (pv 0)) (fun _ _ _ _=>(G3 (BX Cp (Am (Aq (K:=K) rfl) (pv 0) Ae (fun _ _=>rfl)) (pv 2) (Bc _)))) (fun _ _ _ _=>(pv 0))))),?_⟩
  have hS:Cz K H p us:=.inl (.inl hp)
  refine ⟨_,rfl,p,rfl,⟨_,hS⟩,Cv (K:=K) (xs:=us) (pw ρ w) id hS (BJ (by omega)) (fun x hx H' hs R k=>?_) (fun x hx _ H' hs R k=>⟨_,rfl,k H' (Ao.refl H')⟩) (fun D H' hD hs hl'=>?_)⟩
  ·obtain ⟨T0,rfl,hT⟩:=(hR x hx).mono hs
   exact ⟨_,rfl,T0,_,_,_,rfl,rfl,kR hT,Ag (j:=0) rfl,_,rfl,rfl,_,rfl,k H' (Ao.refl H')⟩
  ·rw [kG] at hl'
   exact q D H' hD hs hl'
noncomputable def dH:Sp:=fun vs H Q _=>∃ (p:Addr) (us:List V) (w t:Str) (ρ:V->R),vs=[.ref p,.str w,.str t]/\H p=some (.lst us)/\Rows H ρ us/\us.length<=500/\isNm t/\∀ H',Ao H H'->Q (.bl (Yd ρ us w t)) H'
theorem kY:Aw ["rows","word","thing"] ["rows","word","thing"] (Af jo):=Bo
include N T in
theorem du:Av P w K mg base Bg 3 aD.fTo aD.dTo ["rows","word","thing"] dH:=by
 refine N.FTo.1.ok kY (fun vs H Q E h=>?_) (fun cdv A outer s H vs Q E hr h=>?_)
 ·refine byC fun w_=>?_;obtain ⟨p,us,w,t,ρ,rfl,_⟩:=h;refine w_ ?_
  rfl
 ·refine byC fun w_=>?_;obtain ⟨p,us,w,t,ρ,rfl,hp,hR,hl,ht,q⟩:=h;refine w_ ?_
  refine ⟨_,(Ai (Ay (Et (Aj (Yb N T) (ad hr) rfl N.FNm.2.2 N.FNm.1.kp N.FNm.2.1 .nil An (Aa (pv 2) Ab)) (Dv (BP (K5 rfl) rfl T.any iX (Aa (Bu rfl (Be (osc:=Af jo) (N:=["rows","word","thing"]) rfl rfl (by decide +kernel)) (Bp (Aj (Oi N T) (ad hr) rfl N.FRo.2.2 N.FRo.1.kp N.FRo.2.1 .nil An (Aa (pv 0) (Aa (pv 1) Ab)))) (fun _ _ _ _=>CW) (fun _ _ _ _=>(Dt Cp (Am (Aq (K:=K) rfl) (pv 0) Ae (fun _ _=>rfl)) (pv 3) (Bc _)))) Ab)))))),?_⟩
  refine ⟨_,rfl,t,rfl,ht,fun H1 s1=>⟨_,rfl,Ef ?_⟩⟩
  refine ⟨_,rfl,_,rfl,p,us,w,ρ,rfl,s1 _ _ hp,hR.mono s1,hl,fun D H2 hD s2 hl2=>?_⟩
  have hS:Cz K H2 D (us.filter (pw ρ w)):=.inl (.inl hl2)
  refine ⟨D,rfl,⟨_,hS⟩,Cv (K:=K) (xs:=us.filter (pw ρ w)) (fun _=>true) (fun v=>.bl (pn ρ t v)) hS (BJ (by have:=Ih (pw ρ w) us; omega)) (fun x hx H' hs R k=>k H' (Ao.refl H')) (fun x hx _ H' hs R k=>?_) (fun D3 H3 hD3 s3 hl3=>?_)⟩
  ·obtain ⟨T0,rfl,hT⟩:=(((hR.mono s1).mono s2).mono hs) x (cq.mp hx).1
   exact ⟨_,rfl,T0,_,_,_,rfl,rfl,kR hT,Ag (j:=1) rfl,_,rfl,rfl,k H' (Ao.refl H')⟩
  ·refine ⟨D3,(us.filter (pw ρ w)).map (pn ρ t),rfl,.inl (.inl ?_),?_⟩
   ·rw [hl3,bt.mpr (fun _ _=>rfl),bo]
    rfl
   ·have e:((us.filter (pw ρ w)).map (pn ρ t)).any id=Yd ρ us w t:=by
     rw [List.any_map]
     rfl
    rw [e]
    exact q H3 ((s1.trans s2).trans s3)
noncomputable def gY (K:W.Frag):Sp:=fun vs H Q _=>∃ (i lo hi:Int) (b:Addr),vs=[.int i,.ref b]/\KTup K b [.int lo,.int hi]/\lo<=i/\i<=hi/\Q (.bl true) H
theorem nD:Aw ["thing","bounds"] ["thing","bounds"] (Af oF):=Bo
include N T in
theorem cL:Av P w K mg base Bg 2 aD.fWi aD.dWi ["thing","bounds"] (gY K):=by
 refine N.FWi.1.ok nD (fun vs H Q E h=>?_) (fun cdv A outer s H vs Q E hr h=>?_)
 ·refine byC fun w_=>?_;obtain ⟨i,lo,hi,b,rfl,_⟩:=h;refine w_ ?_
  rfl
 ·refine byC fun w_=>?_;obtain ⟨i,lo,hi,b,rfl,hb,h1,h2,q⟩:=h;refine w_ ?_
  refine ⟨_,(Ai (Ay (Et (Aj (Xy N T) (ad hr) rfl N.FWh.2.2 N.FWh.1.kp N.FWh.2.1 .nil An (Aa (pv 0) Ab)) (Dv (JP Ff Ff (Am (Aq (K:=K) rfl) (pv 1) Ae (fun _ _=>rfl)) (pv 0) (Am (Aq (K:=K) rfl) (pv 1) Ae (fun _ _=>rfl))))))),?_⟩
  refine ⟨_,rfl,i,rfl,_,rfl,Ef ?_⟩
  refine ⟨_,rfl,b,_,_,_,rfl,rfl,hb.sq _,Ag (j:=0) rfl,_,rfl,_,_,rfl,rfl,_,rfl,?_⟩
  refine Bs (fun _=>?_) (fun z=>absurd (decide_eq_true h1) z)
  refine ⟨_,rfl,b,_,_,_,rfl,rfl,hb.sq _,Ag (j:=1) rfl,_,_,rfl,rfl,?_⟩
  show Q (.bl (decide (i<=hi))) H
  rw [decide_eq_true h2]
  exact q
noncomputable def bY (K:W.Frag) (aB:Addr):Sp:=fun vs H Q _=>∃ (x:V) (part:Str) (p:Addr) (us:List V) (ρ:V->R),vs=[x,.str part,.ref p]/\H p=some (.lst us)/\Rows H ρ us/\us.length<=500/\Ik K aB ρ us x part/\∀ H',Ao H H'->Q (.bl true) H'
theorem pO:Aw ["thing","part","ahead"] ["thing","part","ahead"] (Af jd):=Bo
include N T in
theorem dg:Av P w K mg base Bg 4 aD.fPa aD.dPa ["thing","part","ahead"] (bY K aB):=by
 refine N.FPa.1.ok pO (fun vs H Q E h=>?_) (fun cdv A outer s H vs Q E hr h=>?_)
 ·refine byC fun w_=>?_;obtain ⟨x,part,p,us,ρ,rfl,_⟩:=h;refine w_ ?_
  rfl
 ·refine byC fun w_=>?_;obtain ⟨x,part,p,us,ρ,rfl,hp,hR,hl,hok,q⟩:=h;refine w_ ?_
  refine ⟨_,(Ac (Br (QX (Vp (pv 1) (Ds (v:=.ref aB) rfl T.mB rfl))) (Ai (Ay (Aj (cL N T) (ad hr) rfl N.FWi.2.2 N.FWi.1.kp N.FWi.2.1 .nil An (Aa (pv 0) (Aa (Nr (Ds (v:=.ref aB) rfl T.mB rfl) (pv 1) (fun _ _=>rfl)) Ab))))) Ba)
   (Ac (Br (BX Cp (pv 1) BR (Bc _)) (Ai (Ay (Et (Aj (Yb N T) (ad hr) rfl N.FNm.2.2 N.FNm.1.kp N.FNm.2.1 .nil An (Aa (pv 0) Ab)) (Dv (My (BP (K5 rfl) rfl T.any iX (Aa (Bu rfl (Be (osc:=Af jd) (N:=["thing","part","ahead"]) rfl rfl (by decide +kernel)) (Z9 (Ds (v:=.ref aN) rfl T.mN rfl)) (fun _ _ _ _=>CW) (fun _ _ _ _=>(Aj (du N T) (ad hr) rfl N.FTo.2.2 N.FTo.1.kp N.FTo.2.1 .nil An (Aa (pv 3) (Aa (pv 0) (Aa (pv 1) Ab)))))) Ab))))))) Ba)
   (Ai (Ay (Aj (du N T) (ad hr) rfl N.FTo.2.2 N.FTo.1.kp N.FTo.2.1 .nil An (Aa (pv 2) (Aa (pv 1) (Aa (pv 0) Ab)))))))),?_⟩
  rcases hok with ⟨i,lo,hi,b,rfl,hn,hb,h1,h2⟩ | ⟨hn,rfl,t,rfl,ht,hno⟩ | ⟨hn,hne,t,rfl,ht,hyes⟩
  ·refine ⟨_,rfl,aB,part,_,rfl,rfl,T.dB,hn,_,rfl,Ef ?_⟩
   exact ⟨_,rfl,_,rfl,aB,part,.ref b,_,rfl,rfl,T.dB,hn,rfl,i,lo,hi,b,rfl,hb,h1,h2,q H (Ao.refl H)⟩
  ·refine ⟨_,rfl,aB,_,_,rfl,rfl,T.dB,hn,_,rfl,Ci ?_⟩
   refine ⟨_,rfl,rfl,_,rfl,Ef ?_⟩
   refine ⟨_,rfl,t,rfl,ht,fun H1 s1=>⟨_,rfl,Ef ?_⟩⟩
   have hS:JF K H1 aN (named.map V.str):=T.tN.sq _
   refine ⟨aN,rfl,⟨_,hS⟩,JT (xs:=named.map V.str) (fun _=>true) (fun _=>.bl false) (by show 5<sizeLine; decide) (fun i H2 x hs hx=>⟨_,x,hs.tup hS,hx⟩) (fun i H2 y H3 hs _ hy=>⟨hy.1,hy.2 _ (hs.tup hS)⟩) (fun H2 hs=>⟨_,hs.tup hS,Nat.le_refl _⟩)
    (fun x hx H' hs R k=>k H' (Ao.refl H')) (fun x hx _ H' hs R k=>?_) (fun D H2 hD s2 hl2=>?_)⟩
   ·obtain ⟨w0,hw0,rfl⟩:=aI.mp hx
    refine ⟨_,rfl,_,rfl,_,rfl,p,us,w0,t,ρ,rfl,hs _ _ (s1 _ _ hp),(hR.mono s1).mono hs,hl,ht,fun H'' s''=>?_⟩
    rw [hno w0 hw0]
    exact k H'' s''
   ·refine ⟨D,[false,false,false,false,false],rfl,kR hl2,_,rfl,?_⟩
    exact q H2 (s1.trans s2)
  ·refine ⟨_,rfl,aB,_,_,rfl,rfl,T.dB,hn,_,rfl,Ci ?_⟩
   refine ⟨_,rfl,rfl,_,rfl,?_⟩
   refine Bs (fun z=>absurd (V.str.inj (of_decide_eq_true z)) hne) (fun _=>?_)
   refine ⟨_,rfl,_,rfl,_,rfl,p,us,part,t,ρ,rfl,hp,hR,hl,ht,fun H' hs=>?_⟩
   rw [hyes]
   exact q H' hs
noncomputable def bM (K:W.Frag) (aB aP:Addr):Sp:=fun vs H Q _=>∃ (r p:Addr) (w:Str) (xs:List V) (us:List V) (ρ:V->R) (ap:Addr) (ps:List Str),vs=[.ref r,.ref p]/\H r=some (.tup (.str w::xs))/\H p=some (.lst us)/\Rows H ρ us/\us.length<=500 /\
 W.nsIn K aP w=some (some (.ref ap))/\KTup K ap (ps.map V.str)/\xs.length=ps.length/\ps.length<=10/\(∀ (i:Nat) x y,xs[i]? = some x->ps[i]? = some y->Ik K aB ρ us x y)/\∀ H',Ao H H'->Q (.bl true) H'
theorem gw:Aw ["row","ahead","parts"] ["row","ahead"] (Af jf):=Bo
include N T in
theorem d_:Av P w K mg base Bg 5 aD.fHp aD.dHp ["row","ahead"] (bM K aB aP):=by
 refine N.FHp.1.ok gw (fun vs H Q E h=>?_) (fun cdv A outer s H vs Q E hr h=>?_)
 ·refine byC fun w_=>?_;obtain ⟨r,p,w,xs,us,ρ,ap,ps,rfl,_⟩:=h;refine w_ ?_
  rfl
 ·refine byC fun w_=>?_;obtain ⟨r,p,w,xs,us,ρ,ap,ps,rfl,hr0,hp,hR,hl,hn,hap,hlen,hps,hok,q⟩:=h;refine w_ ?_
  refine ⟨_,(Ac (Bh (i:=2) gw.nd rfl (Or.inl rfl) (Nr (Ds (v:=.ref aP) rfl T.mP rfl) (Am (Aq (K:=K) rfl) (pv 0) Ae (fun _ _=>rfl)) (fun _ _=>rfl)))
   (Ac (Br (BX Ib (BP BV rfl T.len bX (Aa (pv 0) Ab)) (BK B_ Ae (BP BV rfl T.len bX (Aa (pv 2) Ab))) (Bc _)) (Ai (Ay GF)) Ba)
   (Ai (Ay (BP (KJ rfl) rfl T.all iS (Aa (Nj rfl (I_ (osc:=Af jf) (N:=["row","ahead","parts"]) rfl rfl (by decide +kernel)) (W5 rfl T.zip (Aa (FW aV (pv 0) (Fx Ae) Gw) (Aa (pv 2) Ab))) (fun _ _ _ _=>CW) (fun _ _ _ _=>(Aj (dg N T) (ad hr) rfl N.FPa.2.2 N.FPa.1.kp N.FPa.2.1 .nil An (Aa (pv 0) (Aa (pv 1) (Aa (pv 3) Ab)))))) Ab)))))),?_⟩
  refine ⟨_,rfl,r,_,_,_,rfl,rfl,kR hr0,Ag (j:=0) rfl,aP,w,.ref ap,_,rfl,rfl,T.dP,hn,rfl,?_⟩
  refine ⟨_,rfl,r,_,rfl,.inr (.inl (.inl hr0)),_,rfl,ap,_,rfl,.inr (hap.sq _),_,_,rfl,rfl,rfl,_,rfl,?_⟩
  refine Bs (fun z=>?_) (fun _=>?_)
  ·exfalso
   have e:(((V.str w::xs).length:Nat):Int)=1+(((ps.map V.str).length:Nat):Int):=by
    rw [bv,ai,hlen]
    omega
   rw [e] at z
   simp at z
  ·have hcut:Fi (V.str w::xs) (some 1) none=xs:=by
    unfold Fi
    have e1:HT.Ek (V.str w::xs).length 0 (some ((1:Nat):Int))=1:=by rw [HT.KC,bv]; omega
    have e1':HT.Ek (V.str w::xs).length 0 (some (1:Int))=1:=e1
    rw [e1',HT.Oo,List.drop_succ_cons,List.drop_zero]
    exact gg (by rw [bv]; omega)
   refine ⟨_,rfl,_,rfl,r,_,rfl,kR hr0,(fun z=>?_),fun p2 hp2=>?_⟩
   ·have e1:HT.Ek (V.str w::xs).length 0 (some ((1:Nat):Int))=1:=by rw [HT.KC,bv]; omega
    have:=z.1.symm.trans e1
    cases this
   rw [hcut]
   obtain ⟨H2,eqH,s2,a2⟩:=Ft (o:=HO.tup xs) hp2
   rw [eqH]
   have h1:JF K H2 p2 xs:=.inl (.inl a2)
   refine ⟨_,rfl,p2,ap,rfl,⟨_,h1⟩,⟨_,hap.sq _⟩,U4 (K:=K) (xs:=xs) (ys:=ps.map V.str) (fun _ _=>.bl true) h1 (hap.sq _) (by rw [ai]; exact hlen) (BJ (by omega)) (fun i x y hx hy H3 s3 R k=>?_) (fun D H3 hD s3 hl3=>?_)⟩
   ·rw [ar] at hy
    obtain ⟨part,hpart,rfl⟩:=bb.mp hy
    exact ⟨_,rfl,_,rfl,_,rfl,x,part,p,us,ρ,rfl,s3 _ _ (s2 _ _ hp),(hR.mono s2).mono s3,hl,hok i x part hx hpart,fun H4 s4=>k H4 s4⟩
   ·have e:List.zipWith (fun _ _=>V.bl true) xs (ps.map V.str)=(List.replicate xs.length true).map V.bl:=by
     rw [List.map_replicate]
     refine gc fun i=>?_
     rw [List.getElem?_zipWith]
     by_cases hi:i<xs.length
     ·rw [ae hi,ae (by rw [ai]; omega),ae (by rw [iN]; exact hi)]
      simp
     ·rw [fv (by omega),fv (l:=List.replicate _ _) (by rw [iN]; omega)]
    rw [e] at hl3
    refine ⟨D,List.replicate xs.length true,rfl,kR hl3,?_⟩
    have e2:(List.replicate xs.length true).all id=true:=by simp
    rw [e2]
    exact q H3 (s2.trans s3)
noncomputable def fK:Sp:=fun vs H Q _=>∃ (p:Addr) (us:List V) (ρ:V->R) (c:Nat),vs=[.ref p]/\H p=some (.lst us)/\Rows H ρ us/\us.length<=500/\YT ρ us c/\Q (.int (c:Nat)) H
theorem WR:Aw ["rows","count","row"] ["rows"] (Af pF):=Bo
include N T in
theorem jC:Av P w K mg base Bg 1 aD.fCl aD.dCl ["rows"] fK:=by
 refine N.FCl.1.ok WR (fun vs H Q E h=>?_) (fun cdv A outer s H vs Q E hr h=>?_)
 ·refine byC fun w_=>?_;obtain ⟨p,us,ρ,c,rfl,_⟩:=h;refine w_ ?_
  rfl
 ·refine byC fun w_=>?_;obtain ⟨p,us,ρ,c,rfl,hp,hR,hl,hc,q⟩:=h;refine w_ ?_
  refine ⟨_,(Ac (Bh (i:=1) WR.nd rfl (Or.inl rfl) Ae)
   (Ac (C_ PassesOwn.never rfl (Zh rfl T.reversed (Aa (pv 0) Ab)) (BZ (i:=2) WR.nd rfl (Or.inl rfl)) (Ac (Br (BX Ib (Am (Aq (K:=K) rfl) (pv 2) Ae (fun _ _=>rfl)) BR (Bc _)) (Ai Vw) Ba)
   (Ai (Bh (i:=1) WR.nd rfl (Or.inl rfl) (BK B_ (pv 1) Ae)))))
   (Ai (Ay (pv 1))))),?_⟩
  have hS:Cz K H p us:=.inl (.inl hp)
  refine ⟨_,rfl,p,us,rfl,hS,Xb (K:=K) (a:=p) (xs:=us) (fun i σ H4=>H4=H/\i<=c/\∃ v2,σ=[some (.ref p),some (.int (i:Nat)),v2]) ⟨rfl,gu _,_,rfl⟩ (fun i σ H4 _ h=>by rw [h.1]; exact hS) ?_ ?_⟩
  ·rintro i x σ H4 hi hx ⟨rfl,hic,v2,rfl⟩
   obtain ⟨r,rfl,hr0⟩:=hR x (ay hx)
   refine ⟨_,rfl,r,_,_,_,rfl,rfl,kR hr0,Ag (j:=0) rfl,rfl,_,rfl,?_⟩
   by_cases e:(ρ (.ref r)).w = "line"
   ·have hne:i ≠ c:=fun z=>by
     obtain ⟨v,hv,hno⟩:=hc.no
     rw [← z,hx] at hv
     cases hv
     exact hno e
    refine YB (congrArg V.str e) ?_
    exact ⟨_,rfl,_,_,rfl,rfl,rfl,by omega,_,rfl⟩
   ·have hic':i=c:=by
     refine Classical.byContradiction fun z=>?_
     obtain ⟨v,hv,hyes⟩:=hc.all i (by omega)
     rw [hx] at hv
     cases hv
     exact e hyes
    subst hic'
    rw [decide_eq_false fun z=>e (V.str.inj z)]
    refine Ef ?_
    exact ⟨_,rfl,q⟩
  ·rintro σ H4 ⟨rfl,hic,v2,rfl⟩
   have:=hc.lt
   omega
noncomputable def dC:Sp:=fun vs H Q _=>∃ (n:Int) (bd:Str) (p:Addr) (us:List V) (ρ:V->R),vs=[.int n,.str bd,.ref p]/\H p=some (.lst us)/\Rows H ρ us/\us.length<=500/\GJ ρ us/\∀ H',Ao H H'->Q (.bl (keyOf ρ us bd n)) H'
theorem lO:Aw ["number","board","ahead"] ["number","board","ahead"] (Af ji):=Bo
include N T in
theorem bJ:Av P w K mg base Bg 2 aD.fIk aD.dIk ["number","board","ahead"] dC:=by
 refine N.FIk.1.ok lO (fun vs H Q E h=>?_) (fun cdv A outer s H vs Q E hr h=>?_)
 ·refine byC fun w_=>?_;obtain ⟨n,bd,p,us,ρ,rfl,_⟩:=h;refine w_ ?_
  rfl
 ·refine byC fun w_=>?_;obtain ⟨n,bd,p,us,ρ,rfl,hp,hR,hl,hB,q⟩:=h;refine w_ ?_
  refine ⟨_,(Ai (Ay (BP (K5 rfl) rfl T.any iX (Aa (Bu rfl (Be (osc:=Af ji) (N:=["number","board","ahead"]) rfl rfl (by decide +kernel)) (Bp (Aj (Oi N T) (ad hr) rfl N.FRo.2.2 N.FRo.1.kp N.FRo.2.1 .nil An (Aa (pv 2) (Aa BR Ab)))) (fun _ _ _ _=>CW) (fun _ _ _ _=>(Et (Dt Cp (Am (Aq (K:=K) rfl) (pv 0) Ae (fun _ _=>rfl)) (pv 2) (Bc _)) (Dv (Dt HD (pv 1) (Am (Aq (K:=K) rfl) (pv 0) Ae (fun _ _=>rfl)) (Bc _)))))) Ab)))),?_⟩
  refine ⟨_,rfl,p,us,"board",ρ,rfl,hp,hR,hl,fun D H2 hD s2 hl2=>?_⟩
  have hS:Cz K H2 D (us.filter (pw ρ "board")):=.inl (.inl hl2)
  refine ⟨D,rfl,⟨_,hS⟩,Cv (K:=K) (xs:=us.filter (pw ρ "board")) (fun _=>true) (fun v=>.bl (pn ρ bd v && decide (n<Yu (ρ v)))) hS (BJ (by have:=Ih (pw ρ "board") us; omega)) (fun x hx H' hs R k=>k H' (Ao.refl H')) (fun x hx _ H' hs R k=>?_) (fun D3 H3 hD3 s3 hl3=>?_)⟩
  ·have hx':=cq.mp hx
   obtain ⟨m,em⟩:=hB x hx'.1 (V.str.inj (of_decide_eq_true hx'.2))
   have hz:Yu (ρ x)=m:=by unfold Yu; rw [em]
   have hT:=((hR.mono s2).mono hs) x hx'.1
   have kk:=k H' (Ao.refl H')
   rw [hz] at kk
   obtain ⟨T0,rfl,hT⟩:=hT
   have kk:R (.bl (decide (V.str (ρ (.ref T0)).nm=V.str bd) && decide (n<m))) H':=kk
   have hT':H' T0=some (.tup (.str (ρ (.ref T0)).w :: .str (ρ (.ref T0)).nm::(ρ (.ref T0)).rest)):=hT
   rw [em] at hT'
   refine ⟨_,rfl,T0,_,_,_,rfl,rfl,kR hT',Ag (j:=1) rfl,_,rfl,rfl,_,rfl,?_⟩
   refine Bs (fun g=>?_) (fun g=>?_)
   ·rw [g,fF] at kk
    exact ⟨_,rfl,_,rfl,T0,_,_,_,rfl,rfl,kR hT',Ag (j:=2) rfl,_,_,rfl,rfl,kk⟩
   ·rw [(gp _).mp g,ia] at kk
    exact kk
  ·refine ⟨D3,(us.filter (pw ρ "board")).map (fun v=>pn ρ bd v && decide (n<Yu (ρ v))),rfl,.inl (.inl ?_),?_⟩
   ·rw [hl3,bt.mpr (fun _ _=>rfl),bo]
    rfl
   ·have e:((us.filter (pw ρ "board")).map (fun v=>pn ρ bd v && decide (n<Yu (ρ v)))).any id=keyOf ρ us bd n:=by
     rw [List.any_map]
     rfl
    rw [e]
    exact q H3 (s2.trans s3)
noncomputable def eG:Sp:=fun vs H Q _=>∃ (r p:Addr) (ro:R) (us:List V) (ρ:V->R),vs=[.ref r,.ref p]/\H r=some (.tup ro.v)/\H p=some (.lst us)/\Rows H ρ us/\us.length<=500/\QR ρ us ro/\GJ ρ us/\∀ H',Ao H H'->Q (.bl true) H'
theorem aR:Aw ["line","ahead","count","row"] ["line","ahead"] (Af lE):=Bo
include N T in
theorem a_:Av P w K mg base Bg 3 aD.fSb aD.dSb ["line","ahead"] eG:=by
 refine N.FSb.1.ok aR (fun vs H Q E h=>?_) (fun cdv A outer s H vs Q E hr h=>?_)
 ·refine byC fun w_=>?_;obtain ⟨r,p,ro,us,ρ,rfl,_⟩:=h;refine w_ ?_
  rfl
 ·refine byC fun w_=>?_;obtain ⟨r,p,ro,us,ρ,rfl,hr0,hp,hR,hl,hL,hB,q⟩:=h;refine w_ ?_
  obtain ⟨tML4,hML4⟩:=T.mostLn
  refine ⟨_,(Ac (Bh (i:=2) aR.nd rfl (Or.inl rfl) (Aj (jC N T) (ad hr) rfl N.FCl.2.2 N.FCl.1.kp N.FCl.2.1 .nil An (Aa (pv 1) Ab)))
   (Ac (Bh (i:=3) aR.nd rfl (Or.inl rfl) (Am Bj (pv 1) (BK Dz (BK Dz (BP BV rfl T.len bX (Aa (pv 1) Ab)) Ae) (pv 2)) (fun _ _=>rfl)))
   (Ac (Br (PW.pt (Gg (BX Ib (Am (Aq (K:=K) rfl) (pv 3) Ae (fun _ _=>rfl)) BR (Bc _)) (Gb (BX fu (pv 2) (Ds (v:=.int 4) rfl hML4 ⟨tML4,rfl⟩) (Bc _))))) (Ai (Ay GF)) Ba)
   (Ai (Ay (Et (Dt Ff (Am (Aq (K:=K) rfl) (pv 0) Ae (fun _ _=>rfl)) (Am (Aq (K:=K) rfl) (pv 0) Ae (fun _ _=>rfl)) (Bc _)) (Dv (Aj (bJ N T) (ad hr) rfl N.FIk.2.2 N.FIk.1.kp N.FIk.2.1 .nil An (Aa (Am (Aq (K:=K) rfl) (pv 0) Ae (fun _ _=>rfl)) (Aa (Am (Aq (K:=K) rfl) (pv 3) Ae (fun _ _=>rfl)) (Aa (pv 1) Ab))))))))))),?_⟩
  refine byC fun w_=>?_;obtain ⟨cnt,v,sh,lo,hi,bd,rs,er,hc,h4,hv,hw,hrest,hle,hk⟩:=hL.ex;refine w_ ?_
  have hr1:H r=some (.tup [.str ro.w,.str ro.nm,.int sh,.int lo,.int hi]):=by rw [hr0,← er]
  obtain ⟨r2,rfl,hr2⟩:=hR v (ay hv)
  have hr2':H r2=some (.tup (.str (ρ (.ref r2)).w :: .str (ρ (.ref r2)).nm :: .str bd::rs)):=by rw [hr2,← hrest]
  have hlt:=hc.lt
  have ei:((us.length:Nat):Int) - 1 - ((cnt:Nat):Int)=((us.length - 1 - cnt:Nat):Int):=by omega
  have hS:Cz K H p us:=.inl (.inl hp)
  refine ⟨_,rfl,p,us,ρ,cnt,rfl,hp,hR,hl,hc,?_⟩
  refine ⟨_,rfl,_,rfl,p,us,rfl,.inl hS,_,_,rfl,rfl,_,rfl,_,_,rfl,rfl,p,us,_,_,rfl,rfl,hS,(by rw [ei]; exact Ag hv),?_⟩
  refine ⟨_,rfl,r2,_,_,_,rfl,rfl,kR hr2',Ag (j:=0) rfl,rfl,_,rfl,YB (congrArg V.str hw) ?_⟩
  refine ⟨_,rfl,_,_,rfl,rfl,_,rfl,?_⟩
  refine Bs (fun z=>?_) (fun _=>?_)
  ·have:=of_decide_eq_true z
   omega
  refine ⟨_,rfl,r,_,_,_,rfl,rfl,kR hr1,Ag (j:=3) rfl,_,rfl,r,_,_,_,rfl,rfl,kR hr1,Ag (j:=4) rfl,_,_,rfl,rfl,_,rfl,?_⟩
  refine Bs (fun _=>?_) (fun z=>absurd (decide_eq_true hle) z)
  refine ⟨_,rfl,r,_,_,_,rfl,rfl,kR hr1,Ag (j:=4) rfl,_,rfl,r2,_,_,_,rfl,rfl,kR hr2',Ag (j:=2) rfl,_,rfl,hi,bd,p,us,ρ,rfl,hp,hR,hl,hB,fun H' s'=>?_⟩
  rw [hk]
  exact q H' s'
noncomputable def ZW (K:W.Frag) (aB aP aM:Addr):Sp:=fun vs H Q _=>∃ (r p:Addr) (ro:R) (us:List V) (ρ:V->R),vs=[.ref r,.ref p]/\H r=some (.tup ro.v)/\H p=some (.lst us)/\Rows H ρ us/\us.length<=500/\HN K aB aP aM ρ us ro/\∀ H',Ao H H'->Q (.bl true) H'
theorem oR:Aw ["row","ahead"] ["row","ahead"] (Af mZ):=Bo
include N T in
theorem dD:Av P w K mg base Bg 6 aD.fWm aD.dWm ["row","ahead"] (ZW K aB aP aM):=by
 refine N.FWm.1.ok oR (fun vs H Q E h=>?_) (fun cdv A outer s H vs Q E hr h=>?_)
 ·refine byC fun w_=>?_;obtain ⟨r,p,ro,us,ρ,rfl,_⟩:=h;refine w_ ?_
  rfl
 ·refine byC fun w_=>?_;obtain ⟨r,p,ro,us,ρ,rfl,hr0,hp,hR,hl,ok,q⟩:=h;refine w_ ?_
  refine ⟨_,(Ac (Br (BX Cp (Am (Aq (K:=K) rfl) (pv 0) Ae (fun _ _=>rfl)) BR (Bc _)) (Ai Hs) Ba)
   (Ac (Br (BX Cp (Am (Aq (K:=K) rfl) (pv 0) Ae (fun _ _=>rfl)) BR (Bc _)) (Ai (Ay (Et (Aj (d_ N T) (ad hr) rfl N.FHp.2.2 N.FHp.1.kp N.FHp.2.1 .nil An (Aa (pv 0) (Aa (pv 1) Ab))) (Dv (Aj (a_ N T) (ad hr) rfl N.FSb.2.2 N.FSb.1.kp N.FSb.2.1 .nil An (Aa (pv 0) (Aa (pv 1) Ab))))))) Ba)
   (Ai (Ay (Et (Vu (Vp (Am (Aq (K:=K) rfl) (pv 0) Ae (fun _ _=>rfl)) (Ds (v:=.ref aP) rfl T.mP rfl))) (Dv (Aj (d_ N T) (ad hr) rfl N.FHp.2.2 N.FHp.1.kp N.FHp.2.1 .nil An (Aa (pv 0) (Aa (pv 1) Ab))))))))),?_⟩
  refine byC fun w_=>?_;obtain ⟨ap,ps,hn,hap,hlen,hps,hok⟩:=ok.parts;refine w_ ?_
  refine ⟨_,rfl,r,_,_,_,rfl,rfl,kR hr0,Ag (j:=0) rfl,rfl,_,rfl,?_⟩
  refine Bs (fun z=>absurd (V.str.inj (of_decide_eq_true z)) ok.ns) (fun _=>?_)
  refine ⟨_,rfl,r,_,_,_,rfl,rfl,kR hr0,Ag (j:=0) rfl,rfl,_,rfl,?_⟩
  refine Bs (fun z=>?_) (fun _=>?_)
  ·have hline:=ok.line (V.str.inj (of_decide_eq_true z))
   refine ⟨_,rfl,_,rfl,r,p,ro.w,_,us,ρ,ap,ps,rfl,hr0,hp,hR,hl,hn,hap,hlen,hps,hok,fun H1 s1=>⟨_,rfl,Ef ?_⟩⟩
   exact ⟨_,rfl,_,rfl,r,p,ro,us,ρ,rfl,s1 _ _ hr0,s1 _ _ hp,hR.mono s1,hl,hline,ok.aj,fun H2 s2=>q H2 (s1.trans s2)⟩
  refine ⟨_,rfl,r,_,_,_,rfl,rfl,kR hr0,Ag (j:=0) rfl,aP,_,_,rfl,rfl,T.dP,hn,_,rfl,Ef ?_⟩
  exact ⟨_,rfl,_,rfl,r,p,ro.w,_,us,ρ,ap,ps,rfl,hr0,hp,hR,hl,hn,hap,hlen,hps,hok,q⟩
noncomputable def bI (K:W.Frag) (aM:Addr):Sp:=fun vs H Q _=>∃ (p:Addr) (w:Str) (us:List V) (ρ:V->R),vs=[.str w,.ref p]/\H p=some (.lst us)/\Rows H ρ us/\us.length<=500/\(W.nsIn K aM w=some none \/ ∃ (m:Int) (t:Tok),W.nsIn K aM w=some (some (.int m t))/\(((us.filter (pw ρ w)).length:Nat):Int)<m)/\∀ H',Ao H H'->Q (.bl true) H'
theorem qY:Aw ["word","ahead"] ["word","ahead"] (Af kO):=Bo
include N T in
theorem bQ:Av P w K mg base Bg 2 aD.fHr aD.dHr ["word","ahead"] (bI K aM):=by
 refine N.FHr.1.ok qY (fun vs H Q E h=>?_) (fun cdv A outer s H vs Q E hr h=>?_)
 ·refine byC fun w_=>?_;obtain ⟨p,w,us,ρ,rfl,_⟩:=h;refine w_ ?_
  rfl
 ·refine byC fun w_=>?_;obtain ⟨p,w,us,ρ,rfl,hp,hR,hl,hroom,q⟩:=h;refine w_ ?_
  refine ⟨_,(Ai (Ay (Uu (Vu (TY (pv 0) (Ds (v:=.ref aM) rfl T.mM rfl))) (Dv (Dt HD (BP BV rfl T.len bX (Aa (Aj (Oi N T) (ad hr) rfl N.FRo.2.2 N.FRo.1.kp N.FRo.2.1 .nil An (Aa (pv 1) (Aa (pv 0) Ab))) Ab)) (Nr (Ds (v:=.ref aM) rfl T.mM rfl) (pv 0) (fun _ _=>rfl)) (Bc _)))))),?_⟩
  rcases hroom with hn | ⟨m,t,hn,hm⟩
  ·refine ⟨_,rfl,aM,w,_,rfl,rfl,T.dM,hn,_,rfl,Ef ?_⟩
   exact q H (Ao.refl H)
  refine ⟨_,rfl,aM,w,_,rfl,rfl,T.dM,hn,_,rfl,Ci ?_⟩
  refine ⟨_,rfl,_,rfl,p,us,w,ρ,rfl,hp,hR,hl,fun D H2 hD s2 hl2=>?_⟩
  refine ⟨D,_,rfl,kR (.inl hl2),_,rfl,aM,w,.int m,_,rfl,rfl,T.dM,hn,⟨t,rfl⟩,_,_,rfl,rfl,?_⟩
  show Q (.bl (decide ((((us.filter (pw ρ w)).length:Nat):Int)<m))) H2
  rw [decide_eq_true hm]
  exact q H2 s2
noncomputable def dG (K:W.Frag) (aB aP aM:Addr):Sp:=ZW K aB aP aM
theorem lw:Aw ["thing","ahead"] ["thing","ahead"] (Af oG):=Bo
include N T in
theorem e_:Av P w K mg base Bg 7 aD.fIr aD.dIr ["thing","ahead"] (dG K aB aP aM):=by
 refine N.FIr.1.ok lw (fun vs H Q E h=>?_) (fun cdv A outer s H vs Q E hr h=>?_)
 ·refine byC fun w_=>?_;obtain ⟨r,p,ro,us,ρ,rfl,_⟩:=h;refine w_ ?_
  rfl
 ·refine byC fun w_=>?_;obtain ⟨r,p,ro,us,ρ,rfl,hr0,hp,hR,hl,ok,q⟩:=h;refine w_ ?_
  refine ⟨_,(Ac (Br (PW.pt (Gg (DQ (Di (BP Dp rfl T.isin cE (Aa (pv 0) (Aa (FT (v:=.ty "tuple") rfl T.tuple PyProof.Rows.boot_tuple rfl) Ab))))) (Gg (BX Cp (BP BV rfl T.len bX (Aa (pv 0) Ab)) Ae (Bc _)) (Gb (DQ (Di (BP Dp rfl T.isin cE (Aa (Am (Aq (K:=K) rfl) (pv 0) Ae (fun _ _=>rfl)) (Aa (FT (v:=.ty "str") rfl T.str PyProof.Rows.boot_str rfl) Ab))))))))) (Ai (Ay GF)) Ba)
   (Ai (Ay (Et (Aj (dD N T) (ad hr) rfl N.FWm.2.2 N.FWm.1.kp N.FWm.2.1 .nil An (Aa (pv 0) (Aa (pv 1) Ab))) (Dv (Aj (bQ N T) (ad hr) rfl N.FHr.2.2 N.FHr.1.kp N.FHr.2.1 .nil An (Aa (Am (Aq (K:=K) rfl) (pv 0) Ae (fun _ _=>rfl)) (Aa (pv 1) Ab)))))))),?_⟩
  have hroom:W.nsIn K aM ro.w=some none \/ ∃ (m:Int) (t:Tok),W.nsIn K aM ro.w=some (some (.int m t))/\(((us.filter (pw ρ ro.w)).length:Nat):Int)<m:=ok.room.elim (fun z=>.inl z.2) .inr
  refine ⟨_,rfl,_,"tuple",_,_,rfl,.tup hr0,Xw,_,rfl,Ci ?_⟩
  refine ⟨_,rfl,r,_,rfl,.inr (.inl (.inl hr0)),rfl,_,rfl,?_⟩
  refine Bs (fun z=>?_) (fun _=>?_)
  ·exfalso
   have:=of_decide_eq_true z
   have:=V.int.inj this
   simp at this
   omega
  refine ⟨_,rfl,r,_,_,_,rfl,rfl,kR hr0,Ag (j:=0) rfl,_,"str",_,_,rfl,.str _,Xl,_,rfl,Ci ?_⟩
  refine ⟨_,rfl,_,rfl,r,p,ro,us,ρ,rfl,hr0,hp,hR,hl,ok,fun H1 s1=>⟨_,rfl,Ef ?_⟩⟩
  exact ⟨_,rfl,r,_,_,_,rfl,rfl,kR (s1 _ _ hr0),Ag (j:=0) rfl,_,rfl,p,ro.w,us,ρ,rfl,s1 _ _ hp,hR.mono s1,hl,hroom,fun H2 s2=>q H2 (s1.trans s2)⟩
noncomputable def bT (K:W.Frag) (aB aP aM:Addr):Sp:=fun vs H Q _=>∃ (p:Addr) (us:List V) (ρ:V->R),vs=[.ref p]/\H p=some (.lst us)/\Rows H ρ us/\1<=us.length/\us.length<=150/\(∀ (i:Nat) v,us[i]? = some v->HN K aB aP aM ρ (us.take i) (ρ v))/\(us.filter (pw ρ "board")).isEmpty=false/\∀ H',Ao H H'->Q .non H'
theorem Zr:Aw ["rows","at","row"] ["rows"] (Af mO):=Bo
include N T in
theorem gA:Av P w K mg base Bg 8 aD.fCk aD.dCk ["rows"] (bT K aB aP aM):=by
 refine N.FCk.1.ok Zr (fun vs H Q E h=>?_) (fun cdv A outer s H vs Q E hr h=>?_)
 ·refine byC fun w_=>?_;obtain ⟨p,us,ρ,rfl,_⟩:=h;refine w_ ?_
  rfl
 ·refine byC fun w_=>?_;obtain ⟨p,us,ρ,rfl,hp,hR,h1,h2,hok,hb,q⟩:=h;refine w_ ?_
  obtain ⟨tMR,hMR⟩:=T.mostR
  refine ⟨_,(Ac (Br (PW.pt (Gg (DQ (Di (BP Dp rfl T.isin cE (Aa (pv 0) (Aa (FT (v:=.ty "list") rfl T.list eR rfl) Ab))))) (Gb (DQ (Fg Ff Ff Ae (BP BV rfl T.len bX (Aa (pv 0) Ab)) (Ds (v:=.int 150) rfl hMR ⟨tMR,rfl⟩)))))) (Ai Hs) Ba)
   (Ac (C_ PassesOwn.never rfl (Gy rfl T.enumerate (Aa (pv 0) Ab)) (Du rfl (Bf (BZ (i:=1) Zr.nd rfl (Or.inl rfl)) (Bf (BZ (i:=2) Zr.nd rfl (Or.inl rfl)) DP))) (Ai (Br (DQ (Di (Aj (e_ N T) (ad hr) rfl N.FIr.2.2 N.FIr.1.kp N.FIr.2.1 .nil An (Aa (pv 2) (Aa (FW G4 (pv 0) Gw (Fx (pv 1))) Ab))))) (Ai Hs) Ba)))
   (Ai (Br (DQ (Kd (Aj (Oi N T) (ad hr) rfl N.FRo.2.2 N.FRo.1.kp N.FRo.2.1 .nil An (Aa (pv 0) (Aa BR Ab))) (fun _=>rfl))) (Ai Hs) Ba)))),?_⟩
  have hS:Cz K H p us:=.inl (.inl hp)
  refine ⟨_,rfl,_,"list",_,_,rfl,.lst hp,X8,_,rfl,Ci ?_⟩
  refine ⟨_,rfl,p,_,rfl,.inl hS,_,_,rfl,rfl,_,rfl,?_⟩
  refine Bs (fun _=>?_) (fun z=>absurd (decide_eq_true (by omega)) z)
  refine ⟨_,_,rfl,rfl,_,rfl,?_⟩
  have e150:decide ((us.length:Int)<=150)=true:=decide_eq_true (by omega)
  rw [e150]
  refine Ci ?_
  refine ⟨_,rfl,p,rfl,⟨_,hS⟩,Gq (K:=K) (a:=p) (xs:=us) (fun i σ H4=>Ao H H4/\∃ v1 v2,σ=[some (.ref p),v1,v2]) ⟨Ao.refl H,_,_,rfl⟩ (fun i σ H4 _ h=>h.1.seq hS) ?_ ?_⟩
  ·rintro i x σ H4 T0 hx ⟨s4,v1,v2,rfl⟩ hT
   have s5:=A_ (o:=HO.tup [.int (i:Int),x]) hT
   refine ⟨T0,_,rfl,kR Ah,rfl,_,_,rfl,_,_,rfl,rfl,?_⟩
   generalize upd H4 T0 (HO.tup [.int (i:Int),x])=H5 at s5 ⊢
   have s05:=s4.trans s5
   have hi:i<us.length:=(ah.mp hx).1
   obtain ⟨r,rfl,hr0⟩:=(hR.mono s05) x (ay hx)
   refine ⟨_,rfl,_,rfl,_,rfl,_,rfl,p,_,rfl,s05.seq hS,fun p6 hp6=>?_⟩
   have s6:=A_ (o:=HO.lst (Fi us none (some (i:Int)))) hp6
   have a6:upd H5 p6 (HO.lst (Fi us none (some (i:Int)))) p6=_:=Ah
   generalize upd H5 p6 (HO.lst (Fi us none (some (i:Int))))=H6 at s6 a6 ⊢
   rw [Ja us i (by omega)] at a6
   have s06:=s05.trans s6
   refine ⟨r,p6,ρ (.ref r),us.take i,ρ,rfl,s6 _ _ hr0,a6,(hR.mono s06).sub fun v hv=>hZ hv,by rw [dS]; omega,hok i _ hx,fun H7 s7=>⟨_,rfl,Ci ?_⟩⟩
   exact ⟨s06.trans s7,_,_,rfl⟩
  ·rintro σ H4 ⟨s4,v1,v2,rfl⟩
   refine ⟨_,rfl,p,us,"board",ρ,rfl,s4 _ _ hp,hR.mono s4,by omega,fun D H5 hD s5 hl5=>?_⟩
   refine ⟨_,.inl ⟨_,kR hl5,rfl⟩,?_⟩
   rw [hb]
   exact Ci (q H5 (s4.trans s5))
noncomputable def gq:Sp:=fun vs H Q _=>∃ (p:Addr) (ts:List Str),vs=[.ref p]/\H p=some (.lst (ts.map V.str))/\ts.length<=300/\ts.Nodup/\∀ D (kvs:List (Key × V)) H',H D=none->Ao H H'->H' D=some (.dK kvs)->(∀ (i:Nat) t,ts[i]? = some t->Cd kvs (Sum.inr t)=some (.int (i:Nat)))->Q (.ref D) H'
theorem XC:Aw ["names","numbers","number","name"] ["names"] (Af mX):=Bo
include N T in
theorem gh:Av P w K mg base Bg 1 aD.fNu aD.dNu ["names"] gq:=by
 refine N.FNu.1.ok XC (fun vs H Q E h=>?_) (fun cdv A outer s H vs Q E hr h=>?_)
 ·obtain ⟨p,ts,rfl,_⟩:=h
  rfl
 ·refine byC fun w_=>?_;obtain ⟨p,ts,rfl,hp,hl,nd,q⟩:=h;refine w_ ?_
  have hu:=Ei hr
  refine ⟨_,(Ac (Bh (i:=1) XC.nd rfl (Or.inl rfl) Hu)
   (Ac (C_ PassesOwn.never rfl (Gy rfl T.enumerate (Aa (pv 0) Ab)) (Du rfl (Bf (BZ (i:=2) XC.nd rfl (Or.inl rfl)) (Bf (BZ (i:=3) XC.nd rfl (Or.inl rfl)) DP))) (Ai (G6 hu (pv 1) (pv 3) (pv 2) rfl)))
   (Ai (Ay (pv 1))))),?_⟩
  intro D hD
  have s0:=A_ (o:=HO.dK []) hD
  have hS:Cz K H p (ts.map V.str):=.inl (.inl hp)
  refine ⟨_,rfl,p,rfl,⟨_,s0.seq hS⟩,Gq (K:=K) (a:=p) (xs:=ts.map V.str) (fun i σ H4=>Ao H H4/\∃ (kvs:List (Key × V)),H4 D=some (.dK kvs)/\kvs.length<=i/\(∀ (j:Nat) t,j<i->ts[j]? = some t->Cd kvs (Sum.inr t)=some (.int (j:Nat)))/\∃ v2 v3,σ=[some (.ref p),some (.ref D),v2,v3])
   ⟨s0,[],Ah,aE _,fun j t hj=>absurd hj (ge _),_,_,rfl⟩ (fun i σ H4 _ h=>h.1.seq hS) ?_ ?_⟩
  ·rintro i x σ H4 T0 hx ⟨s4,kvs,hd,hk,hv,v2,v3,rfl⟩ hT
   rw [ar] at hx
   obtain ⟨t,ht,rfl⟩:=bb.mp hx
   have hi:i<ts.length:=(ah.mp ht).1
   have s5:=A_ (o:=HO.tup [.int (i:Int),.str t]) hT
   refine ⟨T0,_,rfl,kR Ah,rfl,_,_,rfl,_,_,rfl,rfl,?_⟩
   generalize upd H4 T0 (HO.tup [.int (i:Int),.str t])=H5 at s5 ⊢
   refine ⟨_,rfl,_,rfl,_,rfl,D,_,rfl,Kq.k (k:=Sum.inr t) (s5 _ _ hd) (BJ (by omega)),?_⟩
   refine ⟨fun b u e=>?_,putK kvs (Sum.inr t) (.int (i:Int)),Ah,bE (Ej _ _ _) (by omega),fun j t' hj ht'=>?_,_,_,rfl⟩
   ·rw [Ar (Ak e hD)]
    exact s5 _ _ (s4 _ _ e)
   ·rw [Dl]
    by_cases e:t'=t
    ·subst e
     have:j=i:=by
      obtain ⟨h1,e1⟩:=ah.mp ht'
      obtain ⟨h2,e2⟩:=ah.mp ht
      exact (List.getElem_inj nd).mp (e1.trans e2.symm)
     subst this
     rw [if_pos rfl]
    ·rw [if_neg fun z=>e (Sum.inr.inj z)]
     refine hv j t' ?_ ht'
     rcases Nat.lt_succ_iff_lt_or_eq.mp hj with z | z
     ·exact z
     ·subst z
      rw [ht] at ht'
      exact absurd (Option.some.inj ht').symm e
  ·rintro σ H4 ⟨s4,kvs,hd,hk,hv,v2,v3,rfl⟩
   refine ⟨_,rfl,q D kvs H4 hD s4 hd fun i t ht=>hv i t ?_ ht⟩
   rw [ai]
   exact (ah.mp ht).1
noncomputable def WN:Sp:=fun vs H Q _=>∃ (p:Addr) (as:List Th) (us:List V),vs=[.ref p]/\H p=some (.lst us)/\Paired (fun (a:Th) y=>TupAt H (tV a) y) as us/\as.length<=500/\(∀ a∈as,a.2.1<=100)/\∀ H',Ao H H'->Q (.int ((as.map fun a=>a.2.1).sum:Nat)) H'
theorem Qz:∀ l:List Nat,(l.map fun n:Nat=>(n:Int)).sum=((l.sum:Nat):Int)
 | []=>rfl
 | n::l=>by
  rw [dv,hU,hU,Qz l]
  omega
theorem qD:Aw ["things"] ["things"] (Af jc):=Bo
include N T in
theorem Xu:Av P w K mg base Bg 1 aD.fCa aD.dCa ["things"] WN:=by
 refine N.FCa.1.ok qD (fun vs H Q E h=>?_) (fun cdv A outer s H vs Q E hr h=>?_)
 ·refine byC fun w_=>?_;obtain ⟨p,as,us,rfl,_⟩:=h;refine w_ ?_
  rfl
 ·refine byC fun w_=>?_;obtain ⟨p,as,us,rfl,hp,hb,hl,hz,q⟩:=h;refine w_ ?_
  refine ⟨_,(Ai (Ay (BP (Vd rfl) rfl T.sum PyProof.Rows.boot_sum (Aa (Bu rfl (Be (osc:=Af jc) (N:=["things"]) rfl rfl (by decide +kernel)) (Bp (pv 0)) (fun _ _ _ _=>CW) (fun _ _ _ _=>(Am (Aq (K:=K) rfl) (pv 0) Ae (fun _ _=>rfl)))) Ab)))),?_⟩
  have hS:Cz K H p us:=.inl (.inl hp)
  have hul:=hb.length
  refine ⟨_,rfl,p,rfl,⟨_,hS⟩,Cv (K:=K) (xs:=us) (fun _=>true) (TX H 1) hS (BJ (by omega)) (fun x hx H' hs R k=>k H' (Ao.refl H')) (fun x hx _ H' hs R k=>?_) (fun D H' hD hs hl'=>?_)⟩
  ·obtain ⟨b,_,hx'⟩:=Cg hb hx
   have e:=JL hx' 1
   obtain ⟨T0,rfl,hT⟩:=hx'.mono hs
   refine ⟨_,rfl,T0,_,_,_,rfl,rfl,kR hT,Ag (j:=1) rfl,?_⟩
   have:=k H' (Ao.refl H')
   rw [e] at this
   exact this
  ·rw [bt.mpr (fun _ _=>rfl),J_ 1 hb] at hl'
   have e:(as.map fun a=>(tV a).getD 1 V.non)=((as.map fun a=>a.2.1).map fun n:Nat=>(n:Int)).map V.int:=by
    rw [bo,bo]
    rfl
   rw [e] at hl'
   refine ⟨D,_,rfl,kR hl',fun n hn=>?_,by simp; omega,?_⟩
   ·obtain ⟨m,hm,rfl⟩:=aI.mp hn
    obtain ⟨b,hb',rfl⟩:=aI.mp hm
    have:=hz b hb'
    omega
   ·rw [Qz]
    exact q H' hs
theorem bz {n:Nat} (h:n<=3000):n<sizeLine:=bp h (by decide)
noncomputable def fG:Sp:=fun vs H Q _=>∃ (p:Addr) (as:List Th) (us:List V),vs=[.ref p]/\H p=some (.lst us)/\Paired (fun (a:Th) y=>TupAt H (tV a) y) as us/\as.length<=12/\(∀ a∈as,a.2.1<=97)/\∀ D ys H',H D=none->Ao H H'->H' D=some (.lst ys)->Paired (fun q y=>TupAt H' (qV q) y) (Ez (as.map tN)) ys->Q (.ref D) H'
theorem WQ:Aw ["things","places","number","thing"] ["things"] (Af jZ):=Bo
include N T in
theorem dw:Av P w K mg base Bg 1 aD.fPl aD.dPl ["things"] fG:=by
 refine N.FPl.1.ok WQ (fun vs H Q E h=>?_) (fun cdv A outer s H vs Q E hr h=>?_)
 ·refine byC fun w_=>?_;obtain ⟨p,as,us,rfl,_⟩:=h;refine w_ ?_
  rfl
 ·refine byC fun w_=>?_;obtain ⟨p,as,us,rfl,hp,hb,hl,hz,q⟩:=h;refine w_ ?_
  refine ⟨_,(Ac (Bh (i:=1) WQ.nd rfl (Or.inl rfl) (DW Ab))
   (Ac (C_ PassesOwn.never rfl (Gy rfl T.enumerate (Aa (pv 0) Ab)) (Du rfl (Bf (BZ (i:=2) WQ.nd rfl (Or.inr rfl)) (Bf (BZ (i:=3) WQ.nd rfl (Or.inl rfl)) DP))) (Ai (Eh (HF de PySem.F.slot_list_extend PySem.F.type_list_extend TF (pv 1) (Aa (Bu rfl (Be (osc:=Af jZ) (N:=["things","places","number","thing"]) rfl rfl (by decide +kernel)) (CP rfl T.range (Aa (Am (Aq (K:=K) rfl) (pv 3) Ae (fun _ _=>rfl)) Ab)) (fun _ _ _ _=>CW) (fun _ _ _ _=>(Ck (Aa (pv 3) (Aa (pv 0) Ab))))) Ab)))))
   (Ai (Ay (pv 1))))),?_⟩
  refine ⟨Fl (by simp),fun D hD=>?_⟩
  have s0:=A_ (o:=HO.lst []) hD
  have hS:Cz K H p us:=.inl (.inl hp)
  have hul:=hb.length
  refine ⟨_,rfl,p,rfl,⟨_,s0.seq hS⟩,Gq (K:=K) (a:=p) (xs:=us) (fun i σ H4=>Ao H H4/\∃ ys,H4 D=some (.lst ys)/\Paired (fun q y=>TupAt H4 (qV q) y) (Ez ((as.map tN).take i)) ys/\∃ v2 v3,σ=[some (.ref p),some (.ref D),v2,v3])
   ⟨s0,[],Ah,.nil,_,_,rfl⟩ (fun i σ H4 _ h=>h.1.seq hS) ?_ ?_⟩
  ·rintro i x σ H4 T0 hx ⟨s4,ys,hd,hpr,v2,v3,rfl⟩ hT
   obtain ⟨b,hbi,hxb⟩:=D_ hb hx
   have hi:i<as.length:=(ah.mp hbi).1
   have hb97:=hz b (ay hbi)
   have hbi':(as.map tN)[i]? = some (tN b):=by rw [ar,hbi]; rfl
   have s5:=A_ (o:=HO.tup [.int (i:Int),x]) hT
   refine ⟨T0,_,rfl,kR Ah,rfl,_,_,rfl,_,_,rfl,rfl,?_⟩
   generalize upd H4 T0 (HO.tup [.int (i:Int),x])=H5 at s5 ⊢
   obtain ⟨r,rfl,hr0⟩:=hxb.mono (s4.trans s5)
   have p5:=Al s5 hpr
   have d5:=s5 _ _ hd
   refine ⟨_,rfl,.inl ⟨rfl,_,kR d5⟩,_,rfl,r,_,_,_,rfl,rfl,kR hr0,Ag (j:=1) rfl,_,rfl,by omega,by omega,?_⟩
   rw [aT]
   refine Tp (n:=b.2.1) (fun e=>qV (i,e)) (BJ (by omega)) (fun e he H6 s6 R k=>?_) (fun D6 H6 zs hD6 s6 hl6 hz6=>?_)
   ·refine ⟨_,rfl,_,rfl,by show 2<=sizeLine; decide,fun T6 hT6=>?_⟩
    exact k _ _ (A_ hT6) ⟨T6,rfl,Ah⟩
   ·have ly:=(Al s6 p5).length
    have lz:=hz6.length
    have lp:=NB ((as.map tN).take i) 97 fun b hb=>by
     obtain ⟨a,ha,rfl⟩:=aI.mp (hZ hb)
     exact hz a ha
    rw [dS,ai] at lp
    rw [fA] at lz
    have:min i as.length * 97<=12 * 97:=kf _ (by omega)
    refine ⟨D,D6,ys,zs,rfl,rfl,s6 _ _ d5,hl6,ga (bz (by omega)),?_⟩
    refine ⟨fun b u e=>?_,ys++zs,Ah,?_,_,_,rfl⟩
    ·rw [Ar (Ak e hD)]
     exact s6 _ _ (s5 _ _ (s4 _ _ e))
    ·rw [Ho hbi']
     exact CT (Bx (Al s6 p5) (s6 _ _ d5)) (Cq (F:=fun q y=>TupAt _ (qV q) y) (fun e=>(i,e)) (Bx hz6 (s6 _ _ d5)))
  ·rintro σ H4 ⟨s4,ys,hd,hpr,v2,v3,rfl⟩
   rw [← hul,gg (by rw [ai]; exact aE _)] at hpr
   exact ⟨_,rfl,q D ys H4 hD s4 hd hpr⟩
theorem RM {α:Type} (l:List α) (x:α):Lb (l++[x]) (-1)=some x:=by
 unfold Lb S8
 rw [if_neg (by decide),if_pos (by rw [av,bq]; omega)]
 show (l++[x])[(-1+(((l++[x]).length:Nat):Int)).toNat]? = some x
 have e:(-1+(((l++[x]).length:Nat):Int)).toNat=l.length:=by
  rw [av,bq]
  omega
 rw [e,cv (aE _),iO]
 rfl
theorem Kl {H:Hp} {l:List Ln} {v:V} {A:Addr} {xs ys:List V} (h:Iz H l v) (hA:H A=some (.lst xs)) (hv:v ≠ .ref A):Iz (upd H A (.lst ys)) l v:=by
 refine byC fun w_=>?_;obtain ⟨B,ts,rfl,h1,h2⟩:=h;refine w_ ?_
 have:B ≠ A:=fun z=>hv (by rw [z])
 exact ⟨B,ts,rfl,by rw [Ar this]; exact h1,Bx h2 hA⟩
theorem Hr {α β:Type} {F G:α->β->Prop}:∀ {l:List α} {vs:List β},Paired F l vs->(∀ a b,b∈vs->F a b->G a b)->Paired G l vs
 | [],_,h,_=>by cases h; exact .nil
 | a::l,_,h,k=>by
  cases h with
  | cons x y=>exact .cons (k _ _ (cS ..) x) (Hr y fun a b hb=>k a b (df _ hb))
theorem JW {α β:Type} {F:α->β->Prop}:∀ {l:List α} {z:α} {vs:List β},Paired F (l++[z]) vs->∃ us u,vs=us++[u]/\Paired F l us/\F z u
 | [],z,_,h=>by
  cases h with
  | cons x y=>cases y; exact ⟨[],_,rfl,.nil,x⟩
 | a::l,z,_,h=>by
  cases h with
  | cons x y =>
   refine byC fun w_=>?_;obtain ⟨us,u,rfl,h1,h2⟩:=JW y;refine w_ ?_
   exact ⟨_::us,u,rfl,.cons x h1,h2⟩
theorem Fd {α:Type} {l:List α} (h:l ≠ []):∃ a z,l=a++[z]:=⟨l.dropLast,l.getLast h,(List.dropLast_concat_getLast h).symm⟩
theorem Ow {rk:List (Str × Nat × Int)}:∀ {rs:List R},(∃ r∈rs,Jx r.w=true)->linesOf rk rs ≠ []:=by
 have key:∀ (n:Nat) (rs:List R),rs.length=n->(∃ r∈rs,Jx r.w=true)->linesOf rk rs ≠ []:=by
  intro n
  induction n with
  | zero =>
   rintro rs hl ⟨r,hr,_⟩
   cases rs with
   | nil=>cases hr
   | cons a b=>cases hl
  | succ n ih =>
   rintro rs hl ⟨r,hr,hk⟩
   obtain ⟨a,z,rfl⟩:=Fd (l:=rs) (by intro e; rw [e] at hl; cases hl)
   rw [Cj]
   rw [av,bq] at hl
   unfold GZ
   by_cases hz:Jx z.w=true
   ·rw [if_pos hz]
    simp
   ·rw [if_neg hz]
    have hr':r∈a:=by
     rcases ba.mp hr with h | h
     ·exact h
     ·rw [aS.mp h] at hk
      exact absurd hk hz
    have ih':=ih a (by omega) ⟨r,hr',hk⟩
    split
    ·obtain ⟨b,y,e⟩:=Fd ih'
     rw [e,IV]
     simp
    ·exact ih'
 exact fun {rs} h=>key rs.length rs rfl h
noncomputable def iU:Sp:=fun vs H Q _=>∃ (p d:Addr) (us:List V) (ρ:V->R) (rk:List (Str × Nat × Int)) (kvs:List (Key × V)),vs=[.ref p,.ref d]/\H p=some (.lst us)/\Rows H ρ us/\us.length<=500/\H d=some (.dK kvs)/\(∀ (i:Nat) r,rk[i]? = some r->Cd kvs (Sum.inr r.1)=some (.int (i:Nat)))/\(rk.map (·.1)).Nodup /\
 (∀ (i:Nat) v,us[i]? = some v->(ρ v).w = "line"->(∃ (j:Nat) (r:Str × Nat × Int) (sh lo hi:Int),rk[j]? = some r/\r.1=(ρ v).nm/\(ρ v).rest=[.int sh,.int lo,.int hi])/\∃ u∈us.take i,Jx (ρ u).w=true)/\∀ D H',H D=none->Ao H H'->Gz H' D (linesOf rk (us.map ρ))->Q (.ref D) H'
theorem Ym {rk:List (Str × Nat × Int)} {j:Nat} {r:Str × Nat × Int} (nd:(rk.map (·.1)).Nodup) (h:rk[j]? = some r):(rk.map (·.1)).idxOf r.1=j:=by
 have hj:j<(rk.map (·.1)).length:=by rw [ai]; exact (ah.mp h).1
 have e:(rk.map (·.1))[j]=r.1:=by
  rw [kH]
  exact congrArg (·.1) (ah.mp h).2
 rw [← e]
 exact List.Nodup.idxOf_getElem nd j hj
theorem ZX:Aw ["rows","rank_numbers","lines","row"] ["rows","rank_numbers"] (Af qP):=Bo
include N T in
theorem eO:Av P w K mg base Bg 1 aD.fLi aD.dLi ["rows","rank_numbers"] iU:=by
 refine N.FLi.1.ok ZX (fun vs H Q E h=>?_) (fun cdv A outer s H vs Q E hr h=>?_)
 ·refine byC fun w_=>?_;obtain ⟨p,d,us,ρ,rk,kvs,rfl,_⟩:=h;refine w_ ?_
  rfl
 ·refine byC fun w_=>?_;obtain ⟨p,d,us,ρ,rk,kvs,rfl,hp,hR,hl,hdk,hval,hnd,hln,q⟩:=h;refine w_ ?_
  have hu:=Ei hr
  refine ⟨_,(Ac (Bh (i:=2) ZX.nd rfl (Or.inl rfl) (DW Ab))
   (Ac (C_ PassesOwn.never rfl (Bp (pv 0)) (BZ (i:=3) ZX.nd rfl (Or.inl rfl)) (Ac (Br (BX (Kh (K:=K) rfl) (Am (Aq (K:=K) rfl) (pv 3) Ae (fun _ _=>rfl)) (Ds (v:=.ref aK) rfl T.mK rfl) rfl) (Ai (Eh (HF de dL dQ DG (pv 2) (Aa (DW Ab) Ab)))) Ba)
   (Ai (Br (BX Cp (Am (Aq (K:=K) rfl) (pv 3) Ae (fun _ _=>rfl)) BR (Bc _)) (Ai (Eh (HF de dL dQ DG (Am (Bv (K:=K) rfl) (pv 2) (MT Jf Ae) (fun _ _=>rfl)) (Aa (Ck (Aa (Bk hu (pv 1) (Am (Aq (K:=K) rfl) (pv 3) Ae (fun _ _=>rfl)) (fun _ _=>rfl)) (Aa (Am (Aq (K:=K) rfl) (pv 3) Ae (fun _ _=>rfl)) (Aa (Am (Aq (K:=K) rfl) (pv 3) Ae (fun _ _=>rfl)) (Aa (Am (Aq (K:=K) rfl) (pv 3) Ae (fun _ _=>rfl)) Ab))))) Ab)))) Ba))))
   (Ai (Ay (pv 2))))),?_⟩
  refine ⟨Fl (by simp),fun D hD=>?_⟩
  have s0:=A_ (o:=HO.lst []) hD
  have hS:Cz K H p us:=.inl (.inl hp)
  refine ⟨_,rfl,p,rfl,⟨_,s0.seq hS⟩,Eo (K:=K) (a:=p) (xs:=us) (fun i σ H4=>Ao H H4/\∃ lv,H4 D=some (.lst lv)/\Paired (fun l v=>Iz H4 l v) (linesOf rk ((us.take i).map ρ)) lv/\lv.Nodup/\(∀ v∈lv,v ≠ .ref D)/\(∀ v∈lv,∃ A,v=.ref A/\H A=none)/\lv.length<=i/\(∀ l∈linesOf rk ((us.take i).map ρ),l.length<=i)/\∃ v3,σ=[some (.ref p),some (.ref d),some (.ref D),v3])
   ⟨s0,[],Ah,.nil,List.nodup_nil,(fun v hv=>nomatch hv),(fun v hv=>nomatch hv),aE _,(fun l hl=>nomatch hl),_,rfl⟩ (fun i σ H4 _ h=>h.1.seq hS) ?_ ?_⟩
  ·rintro i x σ H4 hx ⟨s4,lv,hd,hpr,nd,hne,hA0,hlv,hll,v3,rfl⟩
   have hm:=ay hx
   have hi:i<us.length:=(ah.mp hx).1
   obtain ⟨r,rfl,hr0⟩:=(hR.mono s4) x hm
   have etake:(us.take (i+1)).map ρ=(us.take i).map ρ++[ρ (.ref r)]:=by
    rw [dl,hx,br]
    rfl
   have est:linesOf rk ((us.take (i+1)).map ρ)=GZ rk (linesOf rk ((us.take i).map ρ)) (ρ (.ref r)):=by rw [etake,Cj]
   have lvl:(linesOf rk ((us.take i).map ρ)).length=lv.length:=hpr.length
   by_cases hk:Jx (ρ (.ref r)).w=true
   ·have hnl:¬ (ρ (.ref r)).w = "line":=fun z=>by rw [z] at hk; exact absurd hk (by decide +kernel)
    have est2:linesOf rk ((us.take (i+1)).map ρ)=linesOf rk ((us.take i).map ρ)++[[]]:=by rw [est]; unfold GZ; rw [if_pos hk]
    refine ⟨_,rfl,r,_,_,_,rfl,rfl,kR hr0,Ag (j:=0) rfl,aK,_,rfl,.inr (T.tK.sq _),rfl,rfl,_,rfl,?_⟩
    refine Bs (fun _=>?_) (fun z=>absurd hk z)
    refine ⟨_,rfl,.inl ⟨rfl,_,kR hd⟩,Fl (by simp),fun p5 hp5=>?_⟩
    obtain ⟨H5,eqH,s5,u5⟩:=Ft (o:=HO.lst []) hp5
    rw [eqH]
    have hd5:=s5 _ _ hd
    refine ⟨D,lv,_,rfl,rfl,hd5,BJ (by omega),?_⟩
    have hrD:r ≠ D:=YD (s5 _ _ hr0) hd5 (by intro z; cases z)
    have hpD:p5 ≠ D:=fun z=>by rw [z,hd] at hp5; cases hp5
    refine ⟨_,rfl,r,_,_,_,rfl,rfl,kR (by rw [Ar hrD]; exact s5 _ _ hr0),Ag (j:=0) rfl,rfl,_,rfl,?_⟩
    refine Bs (fun z=>absurd (V.str.inj (of_decide_eq_true z)) hnl) (fun _=>?_)
    refine ⟨fun b u e=>?_,lv++[.ref p5],Ah,?_,?_,?_,?_,by simp; omega,?_,_,rfl⟩
    ·rw [Ar (Ak e hD)]
     exact s5 _ _ (s4 _ _ e)
    ·rw [est2]
     refine CT (Hr hpr fun l v hv h=>Kl (h.mono s5) hd5 (hne v hv)) (.cons ⟨p5,[],rfl,by rw [Ar hpD]; exact u5,.nil⟩ .nil)
    ·refine RW nd fun hm=>?_
     obtain ⟨l,_,hA⟩:=Cg hpr hm
     refine byC fun w_=>?_;obtain ⟨A,ts,e,h1,_⟩:=hA;refine w_ ?_
     cases e
     rw [h1] at hp5
     cases hp5
    ·intro v hv
     rcases ba.mp hv with h | h
     ·exact hne v h
     ·rw [aS.mp h]
      intro z
      exact hpD (V.ref.inj z)
    ·intro v hv
     rcases ba.mp hv with h | h
     ·exact hA0 v h
     ·exact ⟨p5,aS.mp h,s4.free hp5⟩
    ·intro l hl'
     rw [est2] at hl'
     rcases ba.mp hl' with h | h
     ·exact kF (hll l h)
     ·rw [aS.mp h]
      exact gu _
   ·refine ⟨_,rfl,r,_,_,_,rfl,rfl,kR hr0,Ag (j:=0) rfl,aK,_,rfl,.inr (T.tK.sq _),rfl,rfl,_,rfl,?_⟩
    refine Bs (fun z=>absurd z hk) (fun _=>?_)
    refine ⟨_,rfl,r,_,_,_,rfl,rfl,kR hr0,Ag (j:=0) rfl,rfl,_,rfl,?_⟩
    by_cases hwl:(ρ (.ref r)).w = "line"
    ·refine Bs (fun _=>?_) (fun z=>absurd (decide_eq_true (congrArg V.str hwl)) z)
     refine byC fun w_=>?_;obtain ⟨⟨j,rr,sh,lo,hi',hj,hnm,hrest⟩,u,hu,hku⟩:=hln i _ hx hwl;refine w_ ?_
     have hne0:linesOf rk ((us.take i).map ρ) ≠ []:=Ow ⟨ρ u,cr hu,hku⟩
     obtain ⟨ac,z,eac⟩:=Fd hne0
     rw [eac] at hpr
     refine byC fun w_=>?_;obtain ⟨lv',v,rfl,hpr',hz⟩:=JW hpr;refine w_ ?_
     refine byC fun w_=>?_;obtain ⟨A,ts,rfl,hA,htp⟩:=hz;refine w_ ?_
     have est2:linesOf rk ((us.take (i+1)).map ρ)=ac++[z++[⟨j,sh,lo,hi'⟩]]:=by
      rw [est]
      unfold GZ
      rw [if_neg hk,if_pos hwl,eac,IV]
      unfold lnOf
      rw [hrest,← hnm,Ym hnd hj]
     have hr1:H4 r=some (.tup [.str (ρ (.ref r)).w,.str (ρ (.ref r)).nm,.int sh,.int lo,.int hi']):=by rw [hr0,← hrest]
     have g:=Ey.k (k:=Sum.inr rr.1) (s4 _ _ hdk)
     rw [hval j rr hj,hnm] at g
     have hAD:A ≠ D:=fun e=>hne (.ref A) (by simp) (by rw [e])
     have hzl:z.length<=i:=hll z (by rw [eac]; simp)
     have htl:=htp.length
     refine ⟨_,rfl,_,rfl,D,_,_,_,rfl,rfl,kR hd,RM lv' (V.ref A),.inl ⟨rfl,_,kR hA⟩,_,rfl,_,rfl,r,_,_,_,rfl,rfl,kR hr1,Ag (j:=1) rfl,d,_,rfl,g,_,rfl,r,_,_,_,rfl,rfl,kR hr1,Ag (j:=2) rfl,_,rfl,r,_,_,_,rfl,rfl,kR hr1,Ag (j:=3) rfl,_,rfl,r,_,_,_,rfl,rfl,kR hr1,Ag (j:=4) rfl,by show 4<=sizeLine; decide,fun T5 hT5=>?_⟩
     obtain ⟨H5,eqH,s5,u5⟩:=Ft (o:=HO.tup [.int (j:Nat),.int sh,.int lo,.int hi']) hT5
     rw [eqH]
     have hA5:=s5 _ _ hA
     have hTA:T5 ≠ A:=fun e=>by rw [e,hA] at hT5; cases hT5
     have hdj:D ≠ A:=fun e=>hAD e.symm
     obtain ⟨nd1,_,hdisj⟩:=gd.mp nd
     refine ⟨A,ts,_,rfl,rfl,hA5,BJ (by omega),?_⟩
     refine ⟨fun b u e=>?_,lv'++[.ref A],by rw [Ar hdj]; exact s5 _ _ hd,?_,nd,hne,hA0,by omega,?_,_,rfl⟩
     ·obtain ⟨A',eA,hA'⟩:=hA0 (.ref A) (by simp)
      cases eA
      rw [Ar (Ak e hA')]
      exact s5 _ _ (s4 _ _ e)
     ·rw [est2]
      refine CT (Hr hpr' fun l v hv h=>Kl (h.mono s5) hA5 (fun e=>hdisj v hv _ (aS.mpr rfl) e)) (.cons ⟨A,ts++[.ref T5],rfl,Ah,CT (Bx (Al s5 htp) hA5) (.cons ⟨T5,rfl,by rw [Ar hTA]; exact u5⟩ .nil)⟩ .nil)
     ·intro l hl'
      rw [est2] at hl'
      rcases ba.mp hl' with h | h
      ·exact kF (hll l (by rw [eac]; exact bi _ h))
      ·rw [aS.mp h,av,bq]
       omega
    ·refine Bs (fun z=>absurd (V.str.inj (of_decide_eq_true z)) hwl) (fun _=>?_)
     have est2:linesOf rk ((us.take (i+1)).map ρ)=linesOf rk ((us.take i).map ρ):=by rw [est]; unfold GZ; rw [if_neg hk,if_neg hwl]
     rw [← est2] at hpr hll
     exact ⟨s4,lv,hd,hpr,nd,hne,hA0,by omega,fun l hl'=>kF (hll l hl'),_,rfl⟩
  ·rintro σ H4 ⟨s4,lv,hd,hpr,nd,hne,hA0,hlv,hll,v3,rfl⟩
   rw [fg] at hpr
   exact ⟨_,rfl,q D H4 hD s4 ⟨lv,hd,hpr⟩⟩
noncomputable abbrev Wa:List Str:=["row_list","board_list","rank_list","knob_rows","board_numbers","rank_numbers","knob_numbers","key_places","pipe_places","knob_lines","step_sets"]
theorem En:∀ m∈meths,∀ f∈Wa,¬ m=f:=by decide +kernel
theorem Oe {H H':Hp} {D x C dx:Addr} {fs:List (Str × V)} {ls:List (List Ln)} (h:Gz H D ls) (s:SX x H H') (hx:H x=some (.ins C dx fs)):Gz H' D ls:=by
 obtain ⟨lv,h1,h2⟩:=h
 refine ⟨lv,s.lst hx h1,Paired.Fj h2 fun _ _ q=>?_⟩
 refine byC fun w_=>?_;obtain ⟨A,ts,e,h3,h4⟩:=q;refine w_ ?_
 exact ⟨A,ts,e,s.lst hx h3,s.pair hx h4⟩
theorem Su {rk:List (Str × Nat × Int)} {ρ:V->R} {us:List V} {P1:Nat->V->Prop} (h:∀ (i:Nat) v,us[i]? = some v->(ρ v).w = "line"->P1 i v/\∃ u∈us.take i,Jx (ρ u).w=true):(linesOf rk (us.map ρ)).length=(us.filter (fun v=>Jx (ρ v).w)).length:=by
 have key:∀ n,n<=us.length->(linesOf rk ((us.take n).map ρ)).length=((us.take n).filter (fun v=>Jx (ρ v).w)).length:=by
  intro n
  induction n with
  | zero=>intro _; rfl
  | succ n ih =>
   intro hn
   have hx:=ae (l:=us) (i:=n) (by omega)
   rw [dl,hx,br]
   show (linesOf rk ((us.take n).map ρ++[ρ us[n]])).length=((us.take n++[us[n]]).filter _).length
   rw [Cj,dE,av,← ih (by omega)]
   unfold GZ
   by_cases hk:Jx (ρ us[n]).w=true
   ·rw [if_pos hk,gz,if_pos hk]
    simp
   ·rw [if_neg hk,gz,if_neg hk]
    by_cases hl:(ρ us[n]).w = "line"
    ·rw [if_pos hl]
     obtain ⟨_,u,hu,hku⟩:=h n _ hx hl
     obtain ⟨a,z,e⟩:=Fd (Ow (rk:=rk) ⟨ρ u,cr hu,hku⟩)
     rw [e,IV]
     simp
    ·rw [if_neg hl]
     simp
 have:=key us.length (aE _)
 rw [fg] at this
 exact this
noncomputable def gZ (K:W.Frag) (aB aP aM C:Addr):Sp:=fun vs H Q _=>∃ (x dx p:Addr) (us:List V) (ρ:V->R) (bs:List (Str × Nat)) (rk:List (Str × Nat × Int)) (ks:List R),vs=[.ref x,.ref p]/\H x=some (.ins C dx [])/\H p=some (.lst us)/\Rows H ρ us/\g_ K aB aP aM ρ us bs rk ks/\∀ H',CN C H' x bs rk ks (linesOf rk (us.map ρ))->SX x H H'->Q .non H'
theorem mG:Aw ["self","rows"] ["self","rows"] (Af V6):=Bo
include N T in
theorem bG:Av P w K mg base Bg 9 aD.fOi aD.dOi ["self","rows"] (gZ K aB aP aM C):=by
 refine N.FOi.1.ok mG (fun vs H Q E h=>?_) (fun cdv A outer s H vs Q E hr h=>?_)
 ·refine byC fun w_=>?_;obtain ⟨x,dx,p,us,ρ,bs,rk,ks,rfl,_⟩:=h;refine w_ ?_
  rfl
 ·refine byC fun w_=>?_;obtain ⟨x,dx,p,us,ρ,bs,rk,ks,rfl,hx,hp,hR,O,q⟩:=h;refine w_ ?_
  refine ⟨_,(Ac (Eh (Aj (gA N T) (ad hr) rfl N.FCk.2.2 N.FCk.1.kp N.FCk.2.1 .nil An (Aa (pv 1) Ab)))
   (Ac (Fp (pv 0) (Eb Eu rfl T.list eR (Aa (pv 1) Ab)) rfl)
   (Ac (Fp (pv 0) (Bu rfl (Be (osc:=Af V6) (N:=["self","rows"]) rfl rfl (by decide +kernel)) (Bp (Aj (Oi N T) (ad hr) rfl N.FRo.2.2 N.FRo.1.kp N.FRo.2.1 .nil An (Aa (pv 1) (Aa BR Ab)))) (fun _ _ _ _=>CW) (fun _ _ _ _=>(Ck (Aa (Am (Aq (K:=K) rfl) (pv 0) Ae (fun _ _=>rfl)) (Aa (Am (Aq (K:=K) rfl) (pv 0) Ae (fun _ _=>rfl)) Ab))))) rfl)
   (Ac (Fp (pv 0) (Bu rfl (Be (osc:=Af V6) (N:=["self","rows"]) rfl rfl (by decide +kernel)) (Bp (Aj (Oi N T) (ad hr) rfl N.FRo.2.2 N.FRo.1.kp N.FRo.2.1 .nil An (Aa (pv 1) (Aa BR Ab)))) (fun _ _ _ _=>CW) (fun _ _ _ _=>(Ck (Aa (Am (Aq (K:=K) rfl) (pv 0) Ae (fun _ _=>rfl)) (Aa (Am (Aq (K:=K) rfl) (pv 0) Ae (fun _ _=>rfl)) (Aa (Am (Aq (K:=K) rfl) (pv 0) Ae (fun _ _=>rfl)) Ab)))))) rfl)
   (Ac (Fp (pv 0) (Bu rfl (Be (osc:=Af V6) (N:=["self","rows"]) rfl rfl (by decide +kernel)) (Bp (pv 1)) (fun _ _ _ _=>(G3 (BX (Kh (K:=K) rfl) (Am (Aq (K:=K) rfl) (pv 0) Ae (fun _ _=>rfl)) (Ds (v:=.ref aK) rfl T.mK rfl) rfl))) (fun _ _ _ _=>(pv 0))) rfl)
   (Ac (Fp (pv 0) (Aj (gh N T) (ad hr) rfl N.FNu.2.2 N.FNu.1.kp N.FNu.2.1 .nil An (Aa (Bu rfl (Be (osc:=Af V6) (N:=["self","rows"]) rfl rfl (by decide +kernel)) (Bp (Cu (pv 0) rfl)) (fun _ _ _ _=>CW) (fun _ _ _ _=>(Am (Aq (K:=K) rfl) (pv 0) Ae (fun _ _=>rfl)))) Ab)) rfl)
   (Ac (Fp (pv 0) (Aj (gh N T) (ad hr) rfl N.FNu.2.2 N.FNu.1.kp N.FNu.2.1 .nil An (Aa (Bu rfl (Be (osc:=Af V6) (N:=["self","rows"]) rfl rfl (by decide +kernel)) (Bp (Cu (pv 0) rfl)) (fun _ _ _ _=>CW) (fun _ _ _ _=>(Am (Aq (K:=K) rfl) (pv 0) Ae (fun _ _=>rfl)))) Ab)) rfl)
   (Ac (Fp (pv 0) (Aj (gh N T) (ad hr) rfl N.FNu.2.2 N.FNu.1.kp N.FNu.2.1 .nil An (Aa (Bu rfl (Be (osc:=Af V6) (N:=["self","rows"]) rfl rfl (by decide +kernel)) (Bp (Cu (pv 0) rfl)) (fun _ _ _ _=>CW) (fun _ _ _ _=>(Am (Aq (K:=K) rfl) (pv 0) Ae (fun _ _=>rfl)))) Ab)) rfl)
   (Ac (Fp (pv 0) (Aj (dw N T) (ad hr) rfl N.FPl.2.2 N.FPl.1.kp N.FPl.2.1 .nil An (Aa (Cu (pv 0) rfl) Ab)) rfl)
   (Ac (Fp (pv 0) (Aj (dw N T) (ad hr) rfl N.FPl.2.2 N.FPl.1.kp N.FPl.2.1 .nil An (Aa (Cu (pv 0) rfl) Ab)) rfl)
   (Ac (Fp (pv 0) (Aj (eO N T) (ad hr) rfl N.FLi.2.2 N.FLi.1.kp N.FLi.2.1 .nil An (Aa (pv 1) (Aa (Cu (pv 0) rfl) Ab))) rfl)
   (Ai (Fp (pv 0) (Bu rfl (Be (osc:=Af V6) (N:=["self","rows"]) rfl rfl (by decide +kernel)) (Bp (Aj (Oi N T) (ad hr) rfl N.FRo.2.2 N.FRo.1.kp N.FRo.2.1 .nil An (Aa (pv 1) (Aa BR Ab)))) (fun _ _ _ _=>CW) (fun _ _ _ _=>Va)) rfl))))))))))))),?_⟩
  have hlen:=O.len
  obtain ⟨ur,hur⟩:∃ ur,us.filter (pw ρ "rank")=ur:=⟨_,rfl⟩
  have er:ur.map ρ=rk.map Fy:=by rw [← hur]; exact O.er
  have lr:ur.length=rk.length:=by have:=congrArg List.length er; simpa using this
  have inR:∀ {v},v∈ur->v∈us:=fun {v} hv=>by rw [← hur] at hv; exact (cq.mp hv).1
  have ofR:∀ {v},v∈ur->∃ b∈rk,ρ v=Fy b:=fun {v} hv=>by
   have:ρ v∈rk.map Fy:=by rw [← er]; exact cr hv
   obtain ⟨b,hb,e⟩:=aI.mp this
   exact ⟨b,hb,e.symm⟩
  obtain ⟨ub,hub⟩:∃ ub,us.filter (pw ρ "board")=ub:=⟨_,rfl⟩
  obtain ⟨uk,huk⟩:∃ uk,us.filter (fun v=>Jx (ρ v).w)=uk:=⟨_,rfl⟩
  have eb:ub.map ρ=bs.map GP:=by rw [← hub]; exact O.eb
  have ek:uk.map ρ=ks:=by rw [← huk]; exact O.ek
  have lb:ub.length=bs.length:=by have:=congrArg List.length eb; simpa using this
  have lku:uk.length=ks.length:=by have:=congrArg List.length ek; simpa using this
  have inB:∀ {v},v∈ub->v∈us:=fun {v} hv=>by rw [← hub] at hv; exact (cq.mp hv).1
  have inKn:∀ {v},v∈uk->v∈us:=fun {v} hv=>by rw [← huk] at hv; exact (cq.mp hv).1
  have ofB:∀ {v},v∈ub->∃ b∈bs,ρ v=GP b:=fun {v} hv=>by
   have:ρ v∈bs.map GP:=by rw [← eb]; exact cr hv
   obtain ⟨b,hb,e⟩:=aI.mp this
   exact ⟨b,hb,e.symm⟩
  have l1us:1<=us.length:=by
   have h1:=O.b0
   have h2:ub.length<=us.length:=by rw [← hub]; exact dt _ _
   omega
  refine ⟨_,rfl,p,us,ρ,rfl,hp,hR,l1us,by omega,O.ok,?_,fun H1 s1=>?_⟩
  ·rw [hub]
   cases ub with
   | nil =>
    have:=O.b0
    simp at lb
    omega
   | cons a b=>rfl
  have c1:SX x H H1:=SX.of s1
  have x1:=s1 _ _ hx
  refine ⟨_,rfl,p,_,rfl,kR (.inl (s1 _ _ hp)),fun l1 hl1=>?_⟩
  have s2:=A_ (o:=HO.lst us) hl1
  generalize upd H1 l1 (HO.lst us)=H2 at s2 ⊢
  refine ⟨_,rfl,x,C,dx,_,rfl,s2 _ _ x1,T.cl,T.n_row_list,(by show 0<1000; decide),?_⟩
  have c2:SX x H _:=(c1.trans (SX.of s2)).trans (SX.up (o:=HO.ins C dx (Bl "row_list" (.ref l1) [])))
  have x2:upd H2 x (HO.ins C dx (Bl "row_list" (.ref l1) [])) x=_:=Ah
  generalize upd H2 x (HO.ins C dx (Bl "row_list" (.ref l1) []))=H3 at c2 x2 ⊢
  have R3:Rows H3 ρ us:=fun v hv=>c2.tup hx (hR v hv)
  refine ⟨_,rfl,p,_,"board",ρ,rfl,c2.lst hx hp,R3,by omega,fun D4 H4 hD4 s4 hl4=>?_⟩
  rw [hub] at hl4
  have hS4:Cz K H4 D4 ub:=.inl (.inl hl4)
  refine ⟨D4,rfl,⟨_,hS4⟩,Ks (K:=K) (xs:=ub) (fun _=>true) (fun v=>[.str (ρ v).nm,(ρ v).rest.getD 0 .non]) hS4 (BJ (by have:=O.b5; omega)) (fun y hy H' hs R k=>k H' (Ao.refl H')) (fun y hy _ H' hs R k=>?_) (fun D5 H5 bvs hD5 s5 hl5 hb5=>?_)⟩
  ·obtain ⟨b,_,e⟩:=ofB hy
   have hT:=(R3 y (inB hy)).mono (s4.trans hs)
   rw [e] at hT k
   obtain ⟨T0,rfl,hT⟩:=hT
   exact ⟨_,rfl,T0,_,_,_,rfl,rfl,kR hT,Ag (j:=1) rfl,_,rfl,T0,_,_,_,rfl,rfl,kR hT,Ag (j:=2) rfl,by show 2<=sizeLine; decide,fun T6 hT6=>k _ _ (A_ hT6) ⟨T6,rfl,Ah⟩⟩
  rw [bt.mpr (fun _ _=>rfl)] at hb5
  have hb5':Paired (fun b y=>TupAt H5 (bV b) y) bs bvs:=by
   have h1:=Cq (F:=fun (r:R) y=>TupAt H5 [.str r.nm,r.rest.getD 0 .non] y) ρ hb5
   rw [eb] at h1
   exact Ge GP h1
  clear hb5
  refine ⟨_,rfl,x,C,dx,_,rfl,s5 _ _ (s4 _ _ x2),T.cl,T.n_board_list,Nat.lt_of_le_of_lt (By _ _ _) (by show 1<1000; decide),?_⟩
  have u6:SX x H5 _:=SX.up (o:=HO.ins C dx (Bl "board_list" (.ref D5) (Bl "row_list" (.ref l1) [])))
  have x5:=s5 _ _ (s4 _ _ x2)
  have c6:SX x H _:=(c2.trans (SX.of (s4.trans s5))).trans u6
  have x6:upd H5 x (HO.ins C dx (Bl "board_list" (.ref D5) (Bl "row_list" (.ref l1) []))) x=_:=Ah
  have hl6:=u6.lst x5 hl5
  have hb6:=u6.pair x5 hb5'
  generalize upd H5 x (HO.ins C dx (Bl "board_list" (.ref D5) (Bl "row_list" (.ref l1) [])))=H6 at c6 x6 hl6 hb6 ⊢
  clear u6
  have R6:Rows H6 ρ us:=fun v hv=>c6.tup hx (hR v hv)
  refine ⟨_,rfl,p,_,"rank",ρ,rfl,c6.lst hx hp,R6,by omega,fun D7 H7 hD7 s7 hl7=>?_⟩
  rw [hur] at hl7
  have hS7:Cz K H7 D7 ur:=.inl (.inl hl7)
  refine ⟨D7,rfl,⟨_,hS7⟩,Ks (K:=K) (xs:=ur) (fun _=>true) (fun v=>[.str (ρ v).nm,(ρ v).rest.getD 0 .non,(ρ v).rest.getD 1 .non]) hS7 (BJ (by have:=O.nr; omega)) (fun y hy H' hs R k=>k H' (Ao.refl H')) (fun y hy _ H' hs R k=>?_) (fun D8 H8 rvs hD8 s8 hl8 hr8=>?_)⟩
  ·obtain ⟨b,_,e⟩:=ofR hy
   have hT:=(R6 y (inR hy)).mono (s7.trans hs)
   rw [e] at hT k
   obtain ⟨T0,rfl,hT⟩:=hT
   exact ⟨_,rfl,T0,_,_,_,rfl,rfl,kR hT,Ag (j:=1) rfl,_,rfl,T0,_,_,_,rfl,rfl,kR hT,Ag (j:=2) rfl,_,rfl,T0,_,_,_,rfl,rfl,kR hT,Ag (j:=3) rfl,by show 3<=sizeLine; decide,fun T6 hT6=>k _ _ (A_ hT6) ⟨T6,rfl,Ah⟩⟩
  rw [bt.mpr (fun _ _=>rfl)] at hr8
  have hr8':Paired (fun (a:Th) y=>TupAt H8 (tV a) y) (rk.map Uh) rvs:=by
   have h1:=Cq (F:=fun (r:R) y=>TupAt H8 [.str r.nm,r.rest.getD 0 .non,r.rest.getD 1 .non] y) ρ hr8
   rw [er] at h1
   exact Cq (F:=fun (a:Th) y=>TupAt H8 (tV a) y) Uh (Ge Fy h1)
  clear hr8
  refine ⟨_,rfl,x,C,dx,_,rfl,s8 _ _ (s7 _ _ x6),T.cl,T.n_rank_list,Nat.lt_of_le_of_lt (Nat.le_trans (By _ _ _) (Nat.succ_le_succ (By _ _ _))) (by show 2<1000; decide),?_⟩
  have s68:=s7.trans s8
  have x8:=s68 _ _ x6
  have c8:SX x H H8:=c6.trans (SX.of s68)
  have hl8b:=s68 _ _ hl6
  have hb8:=Al s68 hb6
  have u9:SX x H8 _:=SX.up (o:=HO.ins C dx (Bl "rank_list" (.ref D8) (Bl "board_list" (.ref D5) (Bl "row_list" (.ref l1) []))))
  have x9:upd H8 x (HO.ins C dx (Bl "rank_list" (.ref D8) (Bl "board_list" (.ref D5) (Bl "row_list" (.ref l1) [])))) x=_:=Ah
  have c9:=c8.trans u9
  have bl9:=u9.lst x8 hl8b
  have bp9:=u9.pair x8 hb8
  have rl9:=u9.lst x8 hl8
  have rp9:=u9.pair x8 hr8'
  generalize hf9:Bl "rank_list" (.ref D8) (Bl "board_list" (.ref D5) (Bl "row_list" (.ref l1) []))=f9 at x9 c9 bl9 bp9 rl9 rp9 u9 ⊢
  generalize upd H8 x (HO.ins C dx f9)=H9 at x9 c9 bl9 bp9 rl9 rp9 ⊢
  have n9:f9.length<=3:=by rw [← hf9]; exact bE (By _ _ _) (fk (bE (By _ _ _) (fk (By _ _ _))))
  have lb9:f9.lookup ("board_list" : Str)=some (.ref D5):=by rw [← hf9,Az,if_neg (by decide +kernel),Az,if_pos rfl]
  have lr9:f9.lookup ("rank_list" : Str)=some (.ref D8):=by rw [← hf9,Az,if_pos rfl]
  have no9:∀ m∈meths,f9.lookup m=none:=fun m hm=>by
   rw [← hf9,Az,if_neg (En m hm _ (by decide +kernel)),Az,if_neg (En m hm _ (by decide +kernel)),Az,if_neg (En m hm _ (by decide +kernel))]
   rfl
  clear u9 hf9
  have R9:Rows H9 ρ us:=fun v hv=>c9.tup hx (hR v hv)
  have hS9:Cz K H9 p us:=.inl (.inl (c9.lst hx hp))
  refine ⟨_,rfl,p,rfl,⟨_,hS9⟩,Cv (K:=K) (xs:=us) (fun v=>Jx (ρ v).w) id hS9 (BJ (by omega)) (fun y hy H' hs R k=>?_) (fun y hy _ H' hs R k=>⟨_,rfl,k H' (Ao.refl H')⟩) (fun D10 H10 hD10 s10 hl10=>?_)⟩
  ·obtain ⟨T0,rfl,hT⟩:=(R9.mono hs) y hy
   exact ⟨_,rfl,T0,_,_,_,rfl,rfl,kR hT,Ag (j:=0) rfl,aK,_,rfl,.inr (T.tK.sq _),rfl,rfl,_,rfl,k H' (Ao.refl H')⟩
  rw [kG,huk] at hl10
  refine ⟨_,rfl,x,C,dx,_,rfl,s10 _ _ x9,T.cl,T.n_knob_rows,by omega,?_⟩
  have x10:=s10 _ _ x9
  have u11:SX x H10 _:=SX.up (o:=HO.ins C dx (Bl "knob_rows" (.ref D10) f9))
  have x11:upd H10 x (HO.ins C dx (Bl "knob_rows" (.ref D10) f9)) x=_:=Ah
  have c11:=(c9.trans (SX.of s10)).trans u11
  have bl11:=u11.lst x10 (s10 _ _ bl9)
  have bp11:=u11.pair x10 (Al s10 bp9)
  have rl11:=u11.lst x10 (s10 _ _ rl9)
  have rp11:=u11.pair x10 (Al s10 rp9)
  have kr11:=u11.lst x10 hl10
  generalize upd H10 x (HO.ins C dx (Bl "knob_rows" (.ref D10) f9))=H11 at x11 c11 bl11 bp11 rl11 rp11 kr11 ⊢
  clear u11
  have hul:=bp11.length
  have hS11:Cz K H11 D5 bvs:=.inl (.inl bl11)
  refine ⟨_,rfl,x,C,dx,_,_,rfl,x11,T.cl,T.n_board_list,(by rw [Az,if_neg (by decide +kernel)]; exact lb9),D5,rfl,⟨_,hS11⟩,Cv (K:=K) (xs:=bvs) (fun _=>true) (TX H11 0) hS11 (BJ (by have:=O.b5; omega)) (fun y hy H' hs R k=>k H' (Ao.refl H')) (fun y hy _ H' hs R k=>?_) (fun D12 H12 hD12 s12 hl12=>?_)⟩
  ·obtain ⟨b,_,hx'⟩:=Cg bp11 hy
   have e:=JL hx' 0
   obtain ⟨T0,rfl,hT⟩:=hx'.mono hs
   refine ⟨_,rfl,T0,_,_,_,rfl,rfl,kR hT,Ag (j:=0) rfl,?_⟩
   have:=k H' (Ao.refl H')
   rw [e] at this
   exact this
  rw [bt.mpr (fun _ _=>rfl),J_ 0 bp11] at hl12
  have e12:(bs.map fun b=>(bV b).getD 0 V.non)=(bs.map (·.1)).map V.str:=by
   rw [bo]
   rfl
  rw [e12] at hl12
  refine ⟨D12,_,rfl,hl12,by rw [ai]; have:=O.b5; omega,O.nb,fun D13 kvs H13 hD13 s13 hl13 hv13=>?_⟩
  have s1113:=s12.trans s13
  have x13:=s1113 _ _ x11
  refine ⟨_,rfl,x,C,dx,_,rfl,x13,T.cl,T.n_board_numbers,bp (By _ _ _) (by omega),?_⟩
  have u14:SX x H13 _:=SX.up (o:=HO.ins C dx (Bl "board_numbers" (.ref D13) (Bl "knob_rows" (.ref D10) f9)))
  have x14:upd H13 x (HO.ins C dx (Bl "board_numbers" (.ref D13) (Bl "knob_rows" (.ref D10) f9))) x=_:=Ah
  have c14:=(c11.trans (SX.of s1113)).trans u14
  have bl14:=u14.lst x13 (s1113 _ _ bl11)
  have bp14:=u14.pair x13 (Al s1113 bp11)
  have rl14:=u14.lst x13 (s1113 _ _ rl11)
  have rp14:=u14.pair x13 (Al s1113 rp11)
  have kr14:=u14.lst x13 (s1113 _ _ kr11)
  have bn14:=u14.dk x13 hl13
  generalize upd H13 x (HO.ins C dx (Bl "board_numbers" (.ref D13) (Bl "knob_rows" (.ref D10) f9)))=H14 at x14 c14 bl14 bp14 rl14 rp14 kr14 bn14 ⊢
  clear u14
  have hrl:=rp14.length
  rw [ai] at hrl
  have hS14:Cz K H14 D8 rvs:=.inl (.inl rl14)
  refine ⟨_,rfl,x,C,dx,_,_,rfl,x14,T.cl,T.n_rank_list,(by rw [Az,if_neg (by decide +kernel),Az,if_neg (by decide +kernel)]; exact lr9),D8,rfl,⟨_,hS14⟩,Cv (K:=K) (xs:=rvs) (fun _=>true) (TX H14 0) hS14 (BJ (by have:=O.nr; omega)) (fun y hy H' hs R k=>k H' (Ao.refl H')) (fun y hy _ H' hs R k=>?_) (fun D15 H15 hD15 s15 hl15=>?_)⟩
  ·obtain ⟨b,_,hx'⟩:=Cg rp14 hy
   have e:=JL hx' 0
   obtain ⟨T0,rfl,hT⟩:=hx'.mono hs
   refine ⟨_,rfl,T0,_,_,_,rfl,rfl,kR hT,Ag (j:=0) rfl,?_⟩
   have:=k H' (Ao.refl H')
   rw [e] at this
   exact this
  rw [bt.mpr (fun _ _=>rfl),J_ 0 rp14] at hl15
  have e15:((rk.map Uh).map fun b=>(tV b).getD 0 V.non)=(rk.map (·.1)).map V.str:=by
   rw [bo,bo]
   rfl
  rw [e15] at hl15
  refine ⟨D15,_,rfl,hl15,by rw [ai]; have:=O.nr; omega,O.nrr,fun D16 kvs16 H16 hD16 s16 hl16 hv16=>?_⟩
  have s1416:=s15.trans s16
  have x16:=s1416 _ _ x14
  refine ⟨_,rfl,x,C,dx,_,rfl,x16,T.cl,T.n_rank_numbers,bp (bE (By _ _ _) (fk (By _ _ _))) (by omega),?_⟩
  have u17:SX x H16 _:=SX.up (o:=HO.ins C dx (Bl "rank_numbers" (.ref D16) (Bl "board_numbers" (.ref D13) (Bl "knob_rows" (.ref D10) f9))))
  have x17:upd H16 x (HO.ins C dx (Bl "rank_numbers" (.ref D16) (Bl "board_numbers" (.ref D13) (Bl "knob_rows" (.ref D10) f9)))) x=_:=Ah
  have c17:=(c14.trans (SX.of s1416)).trans u17
  have bl17:=u17.lst x16 (s1416 _ _ bl14)
  have bp17:=u17.pair x16 (Al s1416 bp14)
  have rl17:=u17.lst x16 (s1416 _ _ rl14)
  have rp17:=u17.pair x16 (Al s1416 rp14)
  have kr17:=u17.lst x16 (s1416 _ _ kr14)
  have bn17:=u17.dk x16 (s1416 _ _ bn14)
  have rn17:=u17.dk x16 hl16
  generalize hf17:Bl "rank_numbers" (.ref D16) (Bl "board_numbers" (.ref D13) (Bl "knob_rows" (.ref D10) f9))=f17 at x17 c17 bl17 bp17 rl17 rp17 kr17 bn17 rn17 u17 ⊢
  generalize upd H16 x (HO.ins C dx f17)=H17 at x17 c17 bl17 bp17 rl17 rp17 kr17 bn17 rn17 ⊢
  have n17:f17.length<=6:=by rw [← hf17]; exact bE (By _ _ _) (fk (bE (By _ _ _) (fk (bE (By _ _ _) (fk n9)))))
  have lb17:f17.lookup ("board_list" : Str)=some (.ref D5):=by rw [← hf17,Az,if_neg (by decide +kernel),Az,if_neg (by decide +kernel),Az,if_neg (by decide +kernel)]; exact lb9
  have lr17:f17.lookup ("rank_list" : Str)=some (.ref D8):=by rw [← hf17,Az,if_neg (by decide +kernel),Az,if_neg (by decide +kernel),Az,if_neg (by decide +kernel)]; exact lr9
  have lrn17:f17.lookup ("rank_numbers" : Str)=some (.ref D16):=by rw [← hf17,Az,if_pos rfl]
  have lbn17:f17.lookup ("board_numbers" : Str)=some (.ref D13):=by rw [← hf17,Az,if_neg (by decide +kernel),Az,if_pos rfl]
  have lkr17:f17.lookup ("knob_rows" : Str)=some (.ref D10):=by rw [← hf17,Az,if_neg (by decide +kernel),Az,if_neg (by decide +kernel),Az,if_pos rfl]
  have no17:∀ m∈meths,f17.lookup m=none:=fun m hm=>by
   rw [← hf17,Az,if_neg (En m hm _ (by decide +kernel)),Az,if_neg (En m hm _ (by decide +kernel)),Az,if_neg (En m hm _ (by decide +kernel))]
   exact no9 m hm
  clear u17 hf17
  have hS17:Cz K H17 D10 uk:=.inl (.inl kr17)
  have R17:Rows H17 ρ us:=fun v hv=>c17.tup hx (hR v hv)
  refine ⟨_,rfl,x,C,dx,_,_,rfl,x17,T.cl,T.n_knob_rows,lkr17,D10,rfl,⟨_,hS17⟩,Cv (K:=K) (xs:=uk) (fun _=>true) (fun v=>.str (ρ v).nm) hS17 (BJ (by have:=O.nk; omega)) (fun y hy H' hs R k=>k H' (Ao.refl H')) (fun y hy _ H' hs R k=>?_) (fun D18 H18 hD18 s18 hl18=>?_)⟩
  ·obtain ⟨T0,rfl,hT⟩:=(R17.mono hs) y (inKn hy)
   exact ⟨_,rfl,T0,_,_,_,rfl,rfl,kR hT,Ag (j:=1) rfl,k H' (Ao.refl H')⟩
  rw [bt.mpr (fun _ _=>rfl)] at hl18
  have e18:(uk.map fun v=>V.str (ρ v).nm)=(ks.map (·.nm)).map V.str:=by
   rw [← ek,bo,bo]
   rfl
  rw [e18] at hl18
  refine ⟨D18,_,rfl,hl18,by rw [ai]; have:=O.nk; omega,O.nn,fun D19 kvs19 H19 hD19 s19 hl19 hv19=>?_⟩
  have s1719:=s18.trans s19
  have x19:=s1719 _ _ x17
  refine ⟨_,rfl,x,C,dx,_,rfl,x19,T.cl,T.n_knob_numbers,by omega,?_⟩
  have u20:SX x H19 _:=SX.up (o:=HO.ins C dx (Bl "knob_numbers" (.ref D19) f17))
  have x20:upd H19 x (HO.ins C dx (Bl "knob_numbers" (.ref D19) f17)) x=_:=Ah
  have c20:=(c17.trans (SX.of s1719)).trans u20
  have bl20:=u20.lst x19 (s1719 _ _ bl17)
  have bp20:=u20.pair x19 (Al s1719 bp17)
  have rl20:=u20.lst x19 (s1719 _ _ rl17)
  have rp20:=u20.pair x19 (Al s1719 rp17)
  have kr20:=u20.lst x19 (s1719 _ _ kr17)
  have bn20:=u20.dk x19 (s1719 _ _ bn17)
  have rn20:=u20.dk x19 (s1719 _ _ rn17)
  generalize upd H19 x (HO.ins C dx (Bl "knob_numbers" (.ref D19) f17))=H20 at x20 c20 bl20 bp20 rl20 rp20 kr20 bn20 rn20 ⊢
  clear u20
  refine ⟨_,rfl,x,C,dx,_,_,rfl,x20,T.cl,T.n_board_list,(by rw [Az,if_neg (by decide +kernel)]; exact lb17),D5,bs.map au,bvs,rfl,bl20,Cq (F:=fun (a:Th) y=>TupAt H20 (tV a) y) au bp20,(by rw [List.length_map]; have:=O.b5; omega),(fun a ha=>by obtain ⟨b,hb,rfl⟩:=List.mem_map.mp ha; have:=O.sz b hb; show b.2<=97; omega),fun D21 pvs H21 hD21 s21 hl21 hp21=>?_⟩
  have e21:(bs.map au).map tN=bs:=by
   rw [bo]
   exact kG bs
  rw [e21] at hp21
  have x21:=s21 _ _ x20
  refine ⟨_,rfl,x,C,dx,_,rfl,x21,T.cl,T.n_key_places,bp (By _ _ _) (by omega),?_⟩
  have u22:SX x H21 _:=SX.up (o:=HO.ins C dx (Bl "key_places" (.ref D21) (Bl "knob_numbers" (.ref D19) f17)))
  have x22:upd H21 x (HO.ins C dx (Bl "key_places" (.ref D21) (Bl "knob_numbers" (.ref D19) f17))) x=_:=Ah
  have c22:=(c20.trans (SX.of s21)).trans u22
  have bl22:=u22.lst x21 (s21 _ _ bl20)
  have bp22:=u22.pair x21 (Al s21 bp20)
  have rl22:=u22.lst x21 (s21 _ _ rl20)
  have rp22:=u22.pair x21 (Al s21 rp20)
  have kr22:=u22.lst x21 (s21 _ _ kr20)
  have bn22:=u22.dk x21 (s21 _ _ bn20)
  have rn22:=u22.dk x21 (s21 _ _ rn20)
  have kp22:=u22.lst x21 hl21
  have kq22:=u22.pair x21 hp21
  generalize upd H21 x (HO.ins C dx (Bl "key_places" (.ref D21) (Bl "knob_numbers" (.ref D19) f17)))=H22 at x22 c22 bl22 bp22 rl22 rp22 kr22 bn22 rn22 kp22 kq22 ⊢
  clear u22
  refine ⟨_,rfl,x,C,dx,_,_,rfl,x22,T.cl,T.n_rank_list,(by rw [Az,if_neg (by decide +kernel),Az,if_neg (by decide +kernel)]; exact lr17),D8,rk.map Uh,rvs,rfl,rl22,rp22,(by rw [ai]; exact O.nr),(fun a ha=>by obtain ⟨r,hr,rfl⟩:=aI.mp ha; exact O.nz r hr),fun D23 qvs H23 hD23 s23 hl23 hp23=>?_⟩
  have e23:(rk.map Uh).map tN=rk.map SN:=by
   rw [bo]
   rfl
  rw [e23] at hp23
  have x23:=s23 _ _ x22
  refine ⟨_,rfl,x,C,dx,_,rfl,x23,T.cl,T.n_pipe_places,bp (bE (By _ _ _) (fk (By _ _ _))) (by omega),?_⟩
  have u24:SX x H23 _:=SX.up (o:=HO.ins C dx (Bl "pipe_places" (.ref D23) (Bl "key_places" (.ref D21) (Bl "knob_numbers" (.ref D19) f17))))
  have x24:upd H23 x (HO.ins C dx (Bl "pipe_places" (.ref D23) (Bl "key_places" (.ref D21) (Bl "knob_numbers" (.ref D19) f17)))) x=_:=Ah
  have c24:=(c22.trans (SX.of s23)).trans u24
  have bl24:=u24.lst x23 (s23 _ _ bl22)
  have bp24:=u24.pair x23 (Al s23 bp22)
  have kr24:=u24.lst x23 (s23 _ _ kr22)
  have rl24:=u24.lst x23 (s23 _ _ rl22)
  have rp24:=u24.pair x23 (Al s23 rp22)
  have pp24:=u24.lst x23 hl23
  have pq24:=u24.pair x23 hp23
  have bn24:=u24.dk x23 (s23 _ _ bn22)
  have rn24:=u24.dk x23 (s23 _ _ rn22)
  have kp24:=u24.lst x23 (s23 _ _ kp22)
  have kq24:=u24.pair x23 (Al s23 kq22)
  generalize hf24:Bl "pipe_places" (.ref D23) (Bl "key_places" (.ref D21) (Bl "knob_numbers" (.ref D19) f17))=f24 at x24 c24 bl24 bp24 kr24 rl24 rp24 pp24 pq24 bn24 rn24 kp24 kq24 u24 ⊢
  generalize upd H23 x (HO.ins C dx f24)=H24 at x24 c24 bl24 bp24 kr24 rl24 rp24 pp24 pq24 bn24 rn24 kp24 kq24 ⊢
  have n24:f24.length<=9:=by rw [← hf24]; exact bE (By _ _ _) (fk (bE (By _ _ _) (fk (bE (By _ _ _) (fk n17)))))
  have old24:∀ {f:Str} {v:V},¬ f = "pipe_places"->¬ f = "key_places"->¬ f = "knob_numbers"->f17.lookup f=some v->f24.lookup f=some v:=fun h1 h2 h3 h=>by
   rw [← hf24,Az,if_neg h1,Az,if_neg h2,Az,if_neg h3]; exact h
  have lb24:=old24 (by decide +kernel) (by decide +kernel) (by decide +kernel) lb17
  have lbn24:=old24 (by decide +kernel) (by decide +kernel) (by decide +kernel) lbn17
  have lr24:=old24 (by decide +kernel) (by decide +kernel) (by decide +kernel) lr17
  have lpp24:f24.lookup ("pipe_places" : Str)=some (.ref D23):=by rw [← hf24,Az,if_pos rfl]
  have lrn24:=old24 (by decide +kernel) (by decide +kernel) (by decide +kernel) lrn17
  have lkr24:=old24 (by decide +kernel) (by decide +kernel) (by decide +kernel) lkr17
  have lkp24:f24.lookup ("key_places" : Str)=some (.ref D21):=by rw [← hf24,Az,if_neg (by decide +kernel),Az,if_pos rfl]
  have no24:∀ m∈meths,f24.lookup m=none:=fun m hm=>by
   rw [← hf24,Az,if_neg (En m hm _ (by decide +kernel)),Az,if_neg (En m hm _ (by decide +kernel)),Az,if_neg (En m hm _ (by decide +kernel))]
   exact no17 m hm
  clear u24 hf24 old24
  have R24:Rows H24 ρ us:=fun v hv=>c24.tup hx (hR v hv)
  refine ⟨_,rfl,_,rfl,x,C,dx,_,_,rfl,x24,T.cl,T.n_rank_numbers,lrn24,p,D16,us,ρ,rk,kvs16,rfl,c24.lst hx hp,R24,by omega,rn24,(fun i r hr=>hv16 i r.1 (by rw [ar,hr]; rfl)),O.nrr,O.ln,fun D25 H25 hD25 s25 hl25=>?_⟩
  have x25:=s25 _ _ x24
  refine ⟨_,rfl,x,C,dx,_,rfl,x25,T.cl,T.n_knob_lines,by omega,?_⟩
  have u26:SX x H25 _:=SX.up (o:=HO.ins C dx (Bl "knob_lines" (.ref D25) f24))
  have x26:upd H25 x (HO.ins C dx (Bl "knob_lines" (.ref D25) f24)) x=_:=Ah
  have c26:=(c24.trans (SX.of s25)).trans u26
  have bl26:=u26.lst x25 (s25 _ _ bl24)
  have bp26:=u26.pair x25 (Al s25 bp24)
  have kr26:=u26.lst x25 (s25 _ _ kr24)
  have rl26:=u26.lst x25 (s25 _ _ rl24)
  have rp26:=u26.pair x25 (Al s25 rp24)
  have pp26:=u26.lst x25 (s25 _ _ pp24)
  have pq26:=u26.pair x25 (Al s25 pq24)
  have ln26:=Oe hl25 u26 x25
  have bn26:=u26.dk x25 (s25 _ _ bn24)
  have rn26:=u26.dk x25 (s25 _ _ rn24)
  have kp26:=u26.lst x25 (s25 _ _ kp24)
  have kq26:=u26.pair x25 (Al s25 kq24)
  generalize upd H25 x (HO.ins C dx (Bl "knob_lines" (.ref D25) f24))=H26 at x26 c26 bl26 bp26 kr26 rl26 rp26 pp26 pq26 ln26 bn26 rn26 kp26 kq26 ⊢
  clear u26
  have R26:Rows H26 ρ us:=fun v hv=>c26.tup hx (hR v hv)
  refine ⟨_,rfl,p,_,"step",ρ,rfl,c26.lst hx hp,R26,by omega,fun D27 H27 hD27 s27 hl27=>?_⟩
  rw [O.none] at hl27
  have hS27:Cz K H27 D27 []:=.inl (.inl hl27)
  refine ⟨D27,rfl,⟨_,hS27⟩,Cv (K:=K) (xs:=[]) (fun _=>true) id hS27 (BJ (by simp)) (fun y hy=>nomatch hy) (fun y hy=>nomatch hy) (fun D28 H28 hD28 s28 hl28=>?_)⟩
  have s2628:=s27.trans s28
  have x28:=s2628 _ _ x26
  refine ⟨_,rfl,x,C,dx,_,rfl,x28,T.cl,T.n_step_sets,bp (By _ _ _) (by omega),?_⟩
  have u29:SX x H28 _:=SX.up (o:=HO.ins C dx (Bl "step_sets" (.ref D28) (Bl "knob_lines" (.ref D25) f24)))
  have old:∀ {f:Str},¬ f = "step_sets"->¬ f = "knob_lines"->(Bl "step_sets" (.ref D28) (Bl "knob_lines" (.ref D25) f24)).lookup f=f24.lookup f:=fun h1 h2=>by rw [Az,if_neg h1,Az,if_neg h2]
  refine q _ ⟨⟨⟨dx,_,D5,D13,D21,D10,bvs,pvs,uk,kvs,Ah,(old (by decide +kernel) (by decide +kernel)).trans lb24,(old (by decide +kernel) (by decide +kernel)).trans lbn24,(old (by decide +kernel) (by decide +kernel)).trans lkp24,(old (by decide +kernel) (by decide +kernel)).trans lkr24,
   fun m hm=>(old (En m hm _ (by decide +kernel)) (En m hm _ (by decide +kernel))).trans (no24 m hm),u29.lst x28 (s2628 _ _ bl26),u29.pair x28 (Al s2628 bp26),u29.dk x28 (s2628 _ _ bn26),fun i b hb=>hv13 i b.1 (by rw [ar,hb]; rfl),u29.lst x28 (s2628 _ _ kp26),u29.pair x28 (Al s2628 kq26),u29.lst x28 (s2628 _ _ kr26),?_⟩,O.b5,O.sz,by have:=O.nk; omega⟩,⟨dx,_,D8,D16,D23,D25,rvs,qvs,kvs16,Ah,(old (by decide +kernel) (by decide +kernel)).trans lr24,(old (by decide +kernel) (by decide +kernel)).trans lrn24,(old (by decide +kernel) (by decide +kernel)).trans lpp24,(by rw [Az,if_neg (by decide +kernel),Az,if_pos rfl]),u29.lst x28 (s2628 _ _ rl26),u29.pair x28 (Al s2628 rp26),u29.dk x28 (s2628 _ _ rn26),(fun i r hr=>hv16 i r.1 (by rw [ar,hr]; rfl)),u29.lst x28 (s2628 _ _ pp26),u29.pair x28 (Al s2628 pq26),Oe (ln26.mono s2628) u29 x28⟩,O.nr,O.nz,?_⟩ ((c26.trans (SX.of s2628)).trans u29)
  case refine_2=>rw [Su O.ln,← ek,ai,huk]
  rw [← ek]
  refine Cq (F:=fun (r:R) y=>TupAt _ r.v y) ρ ?_
  have R29:Rows _ ρ uk:=fun v hv=>u29.tup x28 ((R26.mono s2628) v (inKn hv))
  generalize upd H28 x _=H29 at R29 ⊢
  have key:∀ l:List V,(∀ v∈l,TupAt H29 (ρ v).v v)->Paired (fun v y=>TupAt H29 (ρ v).v y) l l:=by
   intro l
   induction l with
   | nil=>intro _; exact .nil
   | cons a b ih=>intro h; exact .cons (h a (cS ..)) (ih fun v hv=>h v (df _ hv))
  exact key uk R29
noncomputable def WD (C:Addr):Sp:=fun vs H Q _=>∃ (x:Addr) (bs:List (Str × Nat)) (ks:List R),vs=[.ref x]/\Dd C H x bs ks/\∀ D bvs H',H D=none->Ao H H'->H' D=some (.lst bvs)->Paired (fun b y=>TupAt H' (bV b) y) bs bvs->Q (.ref D) H'
theorem m7:Aw ["self"] ["self"] (Af qW):=Bo
include N T in
theorem Ul:Av P w K mg base Bg 1 aD.fOb aD.dOb ["self"] (WD C):=by
 refine N.FOb.1.ok m7 (fun vs H Q E h=>?_) (fun cdv A outer s H vs Q E hr h=>?_)
 ·refine byC fun w_=>?_;obtain ⟨x,bs,ks,rfl,_⟩:=h;refine w_ ?_
  rfl
 ·refine byC fun w_=>?_;obtain ⟨x,bs,ks,rfl,O,q⟩:=h;refine w_ ?_
  refine ⟨_,(Ai (Ay (Eb Eu rfl T.list eR (Aa (Cu (pv 0) rfl) Ab)))),?_⟩
  refine byC fun w_=>?_;obtain ⟨⟨dx,fs,bl,bn,kp,kr,bvs,pvs,uvs,kvs,h1,l1,l2,l3,l4,lm,h2,h3,h4,h5,h6,h7,h8,h9⟩,ob5,osz,onk⟩:=id O;refine w_ ?_
  exact ⟨_,rfl,x,C,dx,_,_,rfl,h1,T.cl,T.n_board_list,l1,bl,bvs,rfl,kR (.inl h2),fun l hl=>q l bvs _ hl (A_ hl) Ah (Al (A_ hl) h3)⟩
noncomputable def Wr (C:Addr):Sp:=fun vs H Q _=>∃ (x:Addr) (bs:List (Str × Nat)) (ks:List R),vs=[.ref x]/\Dd C H x bs ks/\Q (.int ((Ez bs).length:Nat)) H
theorem kJ:Aw ["self"] ["self"] (Af n8):=Bo
include N T in
theorem Vq:Av P w K mg base Bg 1 aD.fOc aD.dOc ["self"] (Wr C):=by
 refine N.FOc.1.ok kJ (fun vs H Q E h=>?_) (fun cdv A outer s H vs Q E hr h=>?_)
 ·refine byC fun w_=>?_;obtain ⟨x,bs,ks,rfl,_⟩:=h;refine w_ ?_
  rfl
 ·refine byC fun w_=>?_;obtain ⟨x,bs,ks,rfl,O,q⟩:=h;refine w_ ?_
  refine ⟨_,(Ai (Ay (BP BV rfl T.len bX (Aa (Cu (pv 0) rfl) Ab)))),?_⟩
  refine byC fun w_=>?_;obtain ⟨⟨dx,fs,bl,bn,kp,kr,bvs,pvs,uvs,kvs,h1,l1,l2,l3,l4,lm,h2,h3,h4,h5,h6,h7,h8,h9⟩,ob5,osz,onk⟩:=id O;refine w_ ?_
  refine ⟨_,rfl,x,C,dx,_,_,rfl,h1,T.cl,T.n_key_places,l3,kp,pvs,rfl,kR (.inl h6),?_⟩
  rw [← h7.length]
  exact q
noncomputable def Wl (C:Addr):Sp:=fun vs H Q _=>∃ (x:Addr) (bs:List (Str × Nat)) (ks:List R) (j:Nat) (b:Str × Nat) (n:Int),vs=[.ref x,.str b.1,.int n]/\Dd C H x bs ks/\bs[j]? = some b/\∀ H',Ao H H'->Q (.int ((((bs.take j).map (·.2)).sum:Nat)+n)) H'
theorem lu:Aw ["self","board","number"] ["self","board","number"] (Af lY):=Bo
include N T in
theorem Vv:Av P w K mg base Bg 2 aD.fOk aD.dOk ["self","board","number"] (Wl C):=by
 refine N.FOk.1.ok lu (fun vs H Q E h=>?_) (fun cdv A outer s H vs Q E hr h=>?_)
 ·refine byC fun w_=>?_;obtain ⟨x,bs,ks,j,b,n,rfl,_⟩:=h;refine w_ ?_
  rfl
 ·refine byC fun w_=>?_;obtain ⟨x,bs,ks,j,b,n,rfl,O,hb,q⟩:=h;refine w_ ?_
  have hu:=Ei hr
  refine ⟨_,(Ai (Ay (BK B_ (Aj (Xu N T) (ad hr) rfl N.FCa.2.2 N.FCa.1.kp N.FCa.2.1 .nil An (Aa (FW G4 (Cu (pv 0) rfl) Gw (Fx (Bk hu (Cu (pv 0) rfl) (pv 1) (fun _ _=>rfl)))) Ab)) (pv 2)))),?_⟩
  refine byC fun w_=>?_;obtain ⟨⟨dx,fs,bl,bn,kp,kr,bvs,pvs,uvs,kvs,h1,l1,l2,l3,l4,lm,h2,h3,h4,h5,h6,h7,h8,h9⟩,ob5,osz,onk⟩:=id O;refine w_ ?_
  have hj:j<bs.length:=(ah.mp hb).1
  have hl:=h3.length
  have g:=Ey.k (k:=Sum.inr b.1) h4
  rw [h5 j b hb] at g
  refine ⟨_,rfl,x,C,dx,_,_,rfl,h1,T.cl,T.n_board_list,l1,_,rfl,x,C,dx,_,_,rfl,h1,T.cl,T.n_board_numbers,l2,_,rfl,bn,_,rfl,g,_,rfl,bl,bvs,rfl,kR h2,fun p6 hp6=>?_⟩
  have s6:=A_ (o:=HO.lst (Fi bvs none (some (j:Int)))) hp6
  have a6:upd H p6 (HO.lst (Fi bvs none (some (j:Int)))) p6=_:=Ah
  generalize upd H p6 (HO.lst (Fi bvs none (some (j:Int))))=H6 at s6 a6 ⊢
  rw [Ja bvs j (by omega)] at a6
  refine ⟨p6,(bs.take j).map au,bvs.take j,rfl,a6,Cq (F:=fun (a:Th) y=>TupAt H6 (tV a) y) au (Hk (Al s6 h3) j),(by rw [List.length_map,List.length_take]; omega),(fun a ha=>by obtain ⟨b',hb',rfl⟩:=List.mem_map.mp ha; exact Nat.le_trans (osz b' (List.mem_of_mem_take hb')) (by show 61<=100; decide)),fun H7 s7=>?_⟩
  have e7:((bs.take j).map au).map (fun a=>a.2.1)=(bs.take j).map (·.2):=by
   rw [bo]
   rfl
  rw [e7]
  exact ⟨_,rfl,_,_,rfl,rfl,q H7 (s6.trans s7)⟩
noncomputable def aO (C:Addr):Sp:=fun vs H Q _=>∃ (x:Addr) (bs:List (Str × Nat)) (ks:List R) (i:Nat) (qd:Nat × Nat),vs=[.ref x,.int (i:Nat)]/\Dd C H x bs ks/\(Ez bs)[i]? = some qd/\∀ y,TupAt H (qV qd) y->Q y H
theorem j_:Aw ["self","key"] ["self","key"] (Af lR):=Bo
include N T in
theorem X4:Av P w K mg base Bg 1 aD.fOo aD.dOo ["self","key"] (aO C):=by
 refine N.FOo.1.ok j_ (fun vs H Q E h=>?_) (fun cdv A outer s H vs Q E hr h=>?_)
 ·refine byC fun w_=>?_;obtain ⟨x,bs,ks,i,qd,rfl,_⟩:=h;refine w_ ?_
  rfl
 ·refine byC fun w_=>?_;obtain ⟨x,bs,ks,i,qd,rfl,O,hq,q⟩:=h;refine w_ ?_
  refine ⟨_,(Ai (Ay (Am Bj (Cu (pv 0) rfl) (pv 1) (fun _ _=>rfl)))),?_⟩
  refine byC fun w_=>?_;obtain ⟨⟨dx,fs,bl,bn,kp,kr,bvs,pvs,uvs,kvs,h1,l1,l2,l3,l4,lm,h2,h3,h4,h5,h6,h7,h8,h9⟩,ob5,osz,onk⟩:=id O;refine w_ ?_
  obtain ⟨y,hy,ht⟩:=CQ h7 hq
  exact ⟨_,rfl,x,C,dx,_,_,rfl,h1,T.cl,T.n_key_places,l3,_,rfl,kp,pvs,_,_,rfl,rfl,kR h6,Ag hy,q y ht⟩
noncomputable def fD (C:Addr):Sp:=fun vs H Q _=>∃ (x:Addr) (bs:List (Str × Nat)) (ks:List R) (k j1 j2:Nat) (b1 b2:Str × Nat) (nm:Str) (s:Int),vs=[.ref x,.int (k:Nat)]/\Dd C H x bs ks/\ks[k]? = some ⟨"coupler",nm,[.str b1.1,.str b2.1,.int s]⟩/\bs[j1]? = some b1/\bs[j2]? = some b2/\∀ y H',Ao H H'->TupAt H' [.int (j1:Nat),.int (j2:Nat),.int s] y->Q y H'
noncomputable def Qi (C:Addr):Sp:=fun vs H Q _=>∃ (x:Addr) (bs:List (Str × Nat)) (ks:List R) (k j1:Nat) (b1:Str × Nat) (wd nm:Str) (rs:List V),vs=[.ref x,.int (k:Nat)]/\Dd C H x bs ks/\ks[k]? = some ⟨wd,nm,.str b1.1::rs⟩/\bs[j1]? = some b1/\Q (.int (j1:Nat)) H
theorem nA:Aw ["self","knob"] ["self","knob"] (Af lH):=Bo
include N T in
theorem Qs:Av P w K mg base Bg 1 aD.fBk aD.dBk ["self","knob"] (Qi C):=by
 refine N.FBk.1.ok nA (fun vs H Q E h=>?_) (fun cdv A outer s H vs Q E hr h=>?_)
 ·refine byC fun w_=>?_;obtain ⟨x,bs,ks,k,j1,b1,wd,nm,rs,rfl,_⟩:=h;refine w_ ?_
  rfl
 ·refine byC fun w_=>?_;obtain ⟨x,bs,ks,k,j1,b1,wd,nm,rs,rfl,O,hk,hb1,q⟩:=h;refine w_ ?_
  have hu:=Ei hr
  refine ⟨_,(Ai (Ay (Bk hu (Cu (pv 0) rfl) (Am (Aq (K:=K) rfl) (Am Bj (Cu (pv 0) rfl) (pv 1) (fun _ _=>rfl)) Ae (fun _ _=>rfl)) (fun _ _=>rfl)))),?_⟩
  refine byC fun w_=>?_;obtain ⟨⟨dx,fs,bl,bn,kp,kr,bvs,pvs,uvs,kvs,h1,l1,l2,l3,l4,lm,h2,h3,h4,h5,h6,h7,h8,h9⟩,ob5,osz,onk⟩:=id O;refine w_ ?_
  refine byC fun w_=>?_;obtain ⟨y,hy,T0,rfl,ht⟩:=CQ h9 hk;refine w_ ?_
  have g1:=Ey.k (k:=Sum.inr b1.1) h4
  rw [h5 j1 b1 hb1] at g1
  exact ⟨_,rfl,x,C,dx,_,_,rfl,h1,T.cl,T.n_board_numbers,l2,_,rfl,x,C,dx,_,_,rfl,h1,T.cl,T.n_knob_rows,l4,_,rfl,kr,uvs,_,_,rfl,rfl,kR h8,Ag hy,T0,_,_,_,rfl,rfl,kR ht,Ag (j:=2) rfl,bn,_,rfl,g1,q⟩
theorem il:Aw ["self","knob","row"] ["self","knob"] (Af nT):=Bo
include N T in
theorem cG:Av P w K mg base Bg 2 aD.fOp aD.dOp ["self","knob"] (fD C):=by
 refine N.FOp.1.ok il (fun vs H Q E h=>?_) (fun cdv A outer s H vs Q E hr h=>?_)
 ·refine byC fun w_=>?_;obtain ⟨x,bs,ks,k,j1,j2,b1,b2,nm,s0,rfl,_⟩:=h;refine w_ ?_
  rfl
 ·refine byC fun w_=>?_;obtain ⟨x,bs,ks,k,j1,j2,b1,b2,nm,s0,rfl,O,hk,hb1,hb2,q⟩:=h;refine w_ ?_
  have hu:=Ei hr
  refine ⟨_,(Ac (Bh (i:=2) il.nd rfl (Or.inl rfl) (Am Bj (Cu (pv 0) rfl) (pv 1) (fun _ _=>rfl)))
   (Ai (Ay (Ck (Aa (Cw (pv 0) T.cl N.FBk.2.2 (Qs N T) (ad hr) N.FBk.2.1 .nil An (Aa (pv 1) Ab)) (Aa (Bk hu (Cu (pv 0) rfl) (Am (Aq (K:=K) rfl) (pv 2) Ae (fun _ _=>rfl)) (fun _ _=>rfl)) (Aa (Am (Aq (K:=K) rfl) (pv 2) Ae (fun _ _=>rfl)) Ab))))))),?_⟩
  refine byC fun w_=>?_;obtain ⟨⟨dx,fs,bl,bn,kp,kr,bvs,pvs,uvs,kvs,h1,l1,l2,l3,l4,lm,h2,h3,h4,h5,h6,h7,h8,h9⟩,ob5,osz,onk⟩:=id O;refine w_ ?_
  refine byC fun w_=>?_;obtain ⟨y,hy,T0,rfl,ht⟩:=CQ h9 hk;refine w_ ?_
  have g1:=Ey.k (k:=Sum.inr b1.1) h4
  rw [h5 j1 b1 hb1] at g1
  have g2:=Ey.k (k:=Sum.inr b2.1) h4
  rw [h5 j2 b2 hb2] at g2
  refine ⟨_,rfl,x,C,dx,_,_,rfl,h1,T.cl,T.n_knob_rows,l4,_,rfl,kr,uvs,_,_,rfl,rfl,kR h8,Ag hy,?_⟩
  refine ⟨_,rfl,x,dx,fs,rfl,h1,lm _ (by decide +kernel),_,rfl,x,bs,ks,k,j1,b1,_,_,_,rfl,O,hk,hb1,?_⟩
  refine ⟨_,rfl,x,C,dx,_,_,rfl,h1,T.cl,T.n_board_numbers,l2,_,rfl,T0,_,_,_,rfl,rfl,kR ht,Ag (j:=3) rfl,bn,_,rfl,g2,?_⟩
  exact ⟨_,rfl,T0,_,_,_,rfl,rfl,kR ht,Ag (j:=4) rfl,by show 3<=sizeLine; decide,fun p hp=>q _ _ (A_ hp) ⟨p,rfl,Ah⟩⟩
noncomputable def Zd (C:Addr):Sp:=fun vs H Q _=>∃ (x:Addr) (bs:List (Str × Nat)) (ks:List R) (k i j1 j2:Nat) (b1 b2:Str × Nat) (qd:Nat × Nat) (nm:Str) (s:Int),vs=[.ref x,.int (k:Nat),.int (i:Nat)]/\Dd C H x bs ks/\(Ez bs)[i]? = some qd/\ks[k]? = some ⟨"coupler",nm,[.str b1.1,.str b2.1,.int s]⟩/\bs[j1]? = some b1/\bs[j2]? = some b2 /\
 ∀ H',Ao H H'->Q (Le bs j1 j2 s qd b2.2) H'
theorem U7:Aw ["organ","knob","key","coupler","place","second","number"] ["organ","knob","key"] (Af lD):=Bo
include N T in
theorem Xk:Av P w K mg base Bg 3 aD.fLe aD.dLe ["organ","knob","key"] (Zd C):=by
 refine N.FLe.1.ok U7 (fun vs H Q E h=>?_) (fun cdv A outer s H vs Q E hr h=>?_)
 ·refine byC fun w_=>?_;obtain ⟨x,bs,ks,k,i,j1,j2,b1,b2,qd,nm,s0,rfl,_⟩:=h;refine w_ ?_
  rfl
 ·refine byC fun w_=>?_;obtain ⟨x,bs,ks,k,i,j1,j2,b1,b2,qd,nm,s0,rfl,O,hq,hk,hb1,hb2,q⟩:=h;refine w_ ?_
  refine ⟨_,(Ac (Br (DQ (Fg Ff HD Ae (pv 2) (Ew (pv 0) T.cl N.FOc.2.2 (Vq N T) (ad hr) N.FOc.2.1 .nil An))) (Ai (Ay HY)) Ba)
   (Ac (Bh (i:=3) U7.nd rfl (Or.inl rfl) (Cw (pv 0) T.cl N.FOp.2.2 (cG N T) (ad hr) N.FOp.2.1 .nil An (Aa (pv 1) Ab)))
   (Ac (Bh (i:=4) U7.nd rfl (Or.inl rfl) (Cw (pv 0) T.cl N.FOo.2.2 (X4 N T) (ad hr) N.FOo.2.1 .nil An (Aa (pv 2) Ab)))
   (Ac (Bh (i:=5) U7.nd rfl (Or.inl rfl) (Am (Bv (K:=K) rfl) (Ew (pv 0) T.cl N.FOb.2.2 (Ul N T) (ad hr) N.FOb.2.1 .nil An) (Am (Aq (K:=K) rfl) (pv 3) Ae (fun _ _=>rfl)) (fun _ _=>rfl)))
   (Ac (Bh (i:=6) U7.nd rfl (Or.inl rfl) (BK B_ (Am (Aq (K:=K) rfl) (pv 4) Ae (fun _ _=>rfl)) (Am (Aq (K:=K) rfl) (pv 3) Ae (fun _ _=>rfl))))
   (Ac (Br (PW.pt (Gg (BX Ib (Am (Aq (K:=K) rfl) (pv 4) Ae (fun _ _=>rfl)) (Am (Aq (K:=K) rfl) (pv 3) Ae (fun _ _=>rfl)) (Bc _)) (Gb (DQ (Fg Ff HD Ae (pv 6) (Am (Aq (K:=K) rfl) (pv 5) Ae (fun _ _=>rfl))))))) (Ai (Ay HY)) Ba)
   (Ai (Ay (Cw (pv 0) T.cl N.FOk.2.2 (Vv N T) (ad hr) N.FOk.2.1 .nil An (Aa (Am (Aq (K:=K) rfl) (pv 5) Ae (fun _ _=>rfl)) (Aa (pv 6) Ab))))))))))),?_⟩
  have hi:i<(Ez bs).length:=(ah.mp hq).1
  have meth:∀ {H':Hp},Dd C H' x bs ks->∃ dx fs,H' x=some (.ins C dx fs)/\∀ m∈meths,fs.lookup m=none:=fun O'=>by
   refine byC fun w_=>?_;obtain ⟨⟨dx,fs,_,_,_,_,_,_,_,_,h1,_,_,_,_,lm,_⟩,_⟩:=O';refine w_ ?_
   exact ⟨dx,fs,h1,lm⟩
  obtain ⟨dx,fs,hx,lm⟩:=meth O
  refine ⟨_,rfl,_,_,rfl,rfl,_,rfl,?_⟩
  refine Bs (fun _=>?_) (fun z=>absurd (decide_eq_true (by omega)) z)
  refine ⟨_,rfl,x,dx,fs,rfl,hx,lm _ (by decide +kernel),x,bs,ks,rfl,O,_,_,rfl,rfl,_,rfl,?_⟩
  rw [decide_eq_true (by omega:(i:Int)<((Ez bs).length:Nat))]
  refine Ci ?_
  refine ⟨_,rfl,x,dx,fs,rfl,hx,lm _ (by decide +kernel),_,rfl,x,bs,ks,k,j1,j2,b1,b2,nm,s0,rfl,O,hk,hb1,hb2,fun y1 H1 s1 hy1=>?_⟩
  have O1:=O.mono s1
  obtain ⟨dx1,fs1,hx1,lm1⟩:=meth O1
  refine ⟨_,rfl,x,dx1,fs1,rfl,hx1,lm1 _ (by decide +kernel),_,rfl,x,bs,ks,i,qd,rfl,O1,hq,fun y2 hy2=>?_⟩
  refine ⟨_,rfl,x,dx1,fs1,rfl,hx1,lm1 _ (by decide +kernel),x,bs,ks,rfl,O1,fun D bvs H2 hD s2 hl2 hb2'=>?_⟩
  obtain ⟨T1,rfl,ht1⟩:=hy1.mono s2
  obtain ⟨T2,rfl,ht2⟩:=hy2.mono s2
  refine byC fun w_=>?_;obtain ⟨v3,hv3,T3,rfl,ht3⟩:=CQ hb2' hb2;refine w_ ?_
  refine ⟨_,rfl,T1,_,_,_,rfl,rfl,kR ht1,Ag (j:=1) rfl,D,bvs,_,_,rfl,rfl,kR hl2,Ag hv3,?_⟩
  refine ⟨_,rfl,T2,_,_,_,rfl,rfl,kR ht2,Ag (j:=1) rfl,_,rfl,T1,_,_,_,rfl,rfl,kR ht1,Ag (j:=2) rfl,_,_,rfl,rfl,?_⟩
  refine ⟨_,rfl,T2,_,_,_,rfl,rfl,kR ht2,Ag (j:=0) rfl,_,rfl,T1,_,_,_,rfl,rfl,kR ht1,Ag (j:=0) rfl,rfl,_,rfl,?_⟩
  have fin:=q H2 (s1.trans s2)
  unfold Le at fin
  by_cases e1:qd.1=j1
  ·have z:(!decide (V.int (qd.1:Nat)=V.int (j1:Nat)))=false:=by rw [e1]; simp
   rw [z]
   refine Ci ?_
   refine ⟨_,rfl,_,_,rfl,rfl,_,rfl,?_⟩
   refine Bs (fun g1=>?_) (fun g1=>?_)
   ·refine ⟨_,rfl,T3,_,_,_,rfl,rfl,kR ht3,Ag (j:=1) rfl,_,_,rfl,rfl,_,rfl,?_⟩
    have g1':0<=(qd.2:Int)+s0:=of_decide_eq_true g1
    by_cases g2:(qd.2:Int)+s0<(b2.2:Nat)
    ·have z2:decide ((qd.2:Int)+s0<(b2.2:Nat))=true:=decide_eq_true g2
     rw [z2]
     refine Ci ?_
     rw [if_pos ⟨e1,g1',g2⟩] at fin
     obtain ⟨dx2,fs2,hx2,lm2⟩:=meth (O1.mono s2)
     refine ⟨_,rfl,x,dx2,fs2,rfl,hx2,lm2 _ (by decide +kernel),_,rfl,T3,_,_,_,rfl,rfl,kR ht3,Ag (j:=0) rfl,_,rfl,x,bs,ks,j2,b2,_,rfl,O1.mono s2,hb2,fun H3 s3=>?_⟩
     have fin3:=q H3 ((s1.trans s2).trans s3)
     unfold Le at fin3
     rw [if_pos ⟨e1,g1',g2⟩] at fin3
     exact fin3
    ·have z2:decide ((qd.2:Int)+s0<(b2.2:Nat))=false:=decide_eq_false g2
     rw [z2]
     refine Ef ?_
     rw [if_neg fun z=>g2 z.2.2] at fin
     exact fin
   ·refine ⟨_,rfl,?_⟩
    have g1':decide (0<=(qd.2:Int)+s0)=false:=(gp _).mp g1
    rw [if_neg fun z=>absurd (decide_eq_true z.2.1) g1] at fin
    exact Ef fin
  ·have z:(!decide (V.int (qd.1:Nat)=V.int (j1:Nat)))=true:=by
    rw [decide_eq_false fun z=>e1 (by have:=V.int.inj z; omega)]
    rfl
   rw [z]
   refine Ef ?_
   rw [if_neg fun z=>e1 z.1] at fin
   exact fin
noncomputable abbrev nV (l:List Nat):List V:=l.map fun n:Nat=>V.int (n:Int)
noncomputable def cB:Sp:=fun vs H Q _=>∃ i:Int,vs=[.int i]/\Q (.bl (decide (0<=i) && decide (i<1200))) H
theorem jz:Aw ["thing"] ["thing"] (Af oU):=Bo
include N T in
theorem dF:Av P w K mg base Bg 2 aD.fMy aD.dMy ["thing"] cB:=by
 refine N.FMy.1.ok jz (fun vs H Q E h=>?_) (fun cdv A outer s H vs Q E hr h=>?_)
 ·obtain ⟨i,rfl,_⟩:=h
  rfl
 ·obtain ⟨i,rfl,q⟩:=h
  obtain ⟨tMB,hMB⟩:=T.below
  refine ⟨_,(Ai (Ay (Et (Aj (Xy N T) (ad hr) rfl N.FWh.2.2 N.FWh.1.kp N.FWh.2.1 .nil An (Aa (pv 0) Ab)) (Dv (JP Ff HD Ae (pv 0) (Ds (v:=.int 1200) rfl hMB ⟨tMB,rfl⟩)))))),?_⟩
  refine ⟨_,rfl,i,rfl,_,rfl,Ef ?_⟩
  refine ⟨_,rfl,_,_,rfl,rfl,_,rfl,?_⟩
  refine Bs (fun h1=>?_) (fun h1=>?_)
  ·rw [h1,fF] at q
   exact ⟨_,_,rfl,rfl,q⟩
  ·rw [(gp _).mp h1,ia] at q
   exact q
noncomputable def Tv:Sp:=fun vs H Q _=>∃ (p:Addr) (l:List Nat),vs=[.ref p]/\H p=some (.lst (nV l))/\l.length<=500/\(∀ n∈l,n<1200)/\∀ H',Ao H H'->Q (.int (Wd.mk l:Nat)) H'
theorem gR (l:List Nat) (n:Nat):Builtin.bitOr ((Wd.mk l:Nat):Int) (1 * 2 ^ ((n:Nat):Int).toNat)=((Wd.mk (l++[n]):Nat):Int):=by
 rw [io,aT,HW,Hv,Wd.XR]
theorem WP:Aw ["numbers","some","number"] ["numbers"] (Af jX):=Bo
include N T in
theorem RL:Av P w K mg base Bg 3 aD.fSt aD.dSt ["numbers"] Tv:=by
 refine N.FSt.1.ok WP (fun vs H Q E h=>?_) (fun cdv A outer s H vs Q E hr h=>?_)
 ·obtain ⟨p,l,rfl,_⟩:=h
  rfl
 ·refine byC fun w_=>?_;obtain ⟨p,l,rfl,hp,hz,hb,q⟩:=h;refine w_ ?_
  refine ⟨_,(Ac (Br (PW.pt (Gg (DQ (Di (BP Dp rfl T.isin cE (Aa (pv 0) (Aa (FT (v:=.ty "list") rfl T.list eR rfl) Ab))))) (Gb (DQ (Di (BP (KJ rfl) rfl T.all iS (Aa (Bu rfl (Be (osc:=Af jX) (N:=["numbers","some","number"]) rfl rfl (by decide +kernel)) (Bp (pv 0)) (fun _ _ _ _=>CW) (fun _ _ _ _=>(Aj (dF N T) (ad hr) rfl N.FMy.2.2 N.FMy.1.kp N.FMy.2.1 .nil An (Aa (pv 0) Ab)))) Ab))))))) (Ai Hs) Ba)
   (Ac (Bh (i:=1) WP.nd rfl (Or.inl rfl) Ae)
   (Ac (C_ PassesOwn.never rfl (Bp (pv 0)) (BZ (i:=2) WP.nd rfl (Or.inl rfl)) (Ai (Bh (i:=1) WP.nd rfl (Or.inl rfl) (BK Lw (pv 1) (BK Jr Ae (pv 2))))))
   (Ai (Ay (pv 1)))))),?_⟩
  have hS:Cz K H p (nV l):=.inl (.inl hp)
  refine ⟨_,rfl,_,"list",_,_,rfl,.lst hp,X8,_,rfl,Ci ?_⟩
  have hzl:(nV l).length<sizeLine:=BJ (by simp; omega)
  refine ⟨_,rfl,p,rfl,⟨_,hS⟩,Cv (K:=K) (xs:=nV l) (fun _=>true) (fun _=>.bl true) hS hzl (fun x hx H' hs R k=>k H' (Ao.refl H')) (fun x hx _ H' hs R k=>?_) (fun D H' hD hs hl=>?_)⟩
  ·obtain ⟨n,hn,rfl⟩:=aI.mp hx
   refine ⟨_,rfl,(n:Int),rfl,?_⟩
   have e:(decide ((0:Int)<=(n:Int)) && decide ((n:Int)<1200))=true:=by
    have:=hb n hn
    simp
    omega
   rw [e]
   exact k H' (Ao.refl H')
  ·refine ⟨D,(nV l).map fun _=>true,rfl,.inl (.inl ?_),?_⟩
   ·rw [hl,bt.mpr (fun _ _=>rfl)]
    simp
   ·have e:((nV l).map fun _=>true).all id=true:=by simp
    rw [e]
    refine ⟨_,rfl,Ci ?_⟩
    refine ⟨_,rfl,p,rfl,⟨_,hs.seq hS⟩,Eo (K:=K) (a:=p) (xs:=nV l) (fun i σ H4=>H4=H'/\∃ v2,σ=[some (.ref p),some (.int (Wd.mk (l.take i):Nat)),v2]) ⟨rfl,_,rfl⟩ (fun i σ H4 _ h=>by rw [h.1]; exact hs.seq hS) ?_ ?_⟩
    ·rintro i y σ H4 hi ⟨rfl,v2,rfl⟩
     rw [ar] at hi
     obtain ⟨n,hn,rfl⟩:=bb.mp hi
     have hn':=hb n (ay hn)
     refine ⟨_,rfl,_,rfl,_,_,rfl,rfl,⟨by omega,by omega,by decide⟩,_,_,rfl,rfl,?_⟩
     refine ⟨rfl,some (.int (n:Int)),?_⟩
     dsimp only
     rw [gR,dl,hn]
     rfl
    ·rintro σ H4 ⟨rfl,v2,rfl⟩
     have el:l.take (nV l).length=l:=List.take_of_length_le (by simp)
     rw [el]
     exact ⟨_,rfl,q _ hs⟩
noncomputable def Nk:Sp:=fun vs H Q _=>∃ (n:Nat) (i:Int),vs=[.int n,.int i]/\Q (.bl (decide (0<=i) && n.testBit i.toNat)) H
theorem VJ (n:Nat) (i:Int):decide (V.int (Builtin.bitAnd ((n:Int) / 2 ^ i.toNat) 1)=V.int 1)=n.testBit i.toNat:=by
 rw [HW,show (1:Int)=((1:Nat):Int) from rfl,← Int.natCast_ediv,JQ,Bool.eq_iff_iff]
 rw [Nat.testBit_eq_decide_div_mod_eq,Nat.and_one_is_mod]
 simp only [decide_eq_true_eq,V.int.injEq]
 exact Int.ofNat_inj
theorem pA:Aw ["some","number"] ["some","number"] (Af nZ):=Bo
include N T in
theorem J3:Av P w K mg base Bg 1 aD.fHa aD.dHa ["some","number"] Nk:=by
 refine N.FHa.1.ok pA (fun vs H Q E h=>?_) (fun cdv A outer s H vs Q E hr h=>?_)
 ·obtain ⟨n,i,rfl,_⟩:=h
  rfl
 ·obtain ⟨n,i,rfl,q⟩:=h
  refine ⟨_,(Ai (Ay (Et (JP Ff HD Ae (pv 1) (U8 PySem.F.plainAttrs_int PySem.F.slot_int_bit_length PySem.F.type_int_bit_length Ov (pv 0))) (Dv (Dt Cp (BK G8 (BK HJ (pv 0) (pv 1)) Ae) Ae (Bc _)))))),?_⟩
  refine ⟨_,rfl,_,_,rfl,rfl,_,rfl,?_⟩
  refine Bs (fun h1=>?_) (fun h1=>?_)
  ·have hi:0<=i:=of_decide_eq_true h1
   refine ⟨_,rfl,rfl,(n:Int),rfl,rfl,_,_,rfl,rfl,_,rfl,?_⟩
   rw [Ju]
   refine Bs (fun h2=>?_) (fun h2=>?_)
   ·refine ⟨_,rfl,_,rfl,_,_,rfl,rfl,hi,_,_,rfl,rfl,rfl,?_⟩
    dsimp only
    rw [VJ]
    rw [h1,fF] at q
    exact q
   ·have e:n.testBit i.toNat=false:=by
     cases hb:n.testBit i.toNat with
     | false=>rfl
     | true =>
      have:=Wd.Ur hb
      exact absurd (decide_eq_true (by omega:i<(Wd.len n:Int))) h2
    rw [e,Bool.and_false] at q
    exact q
  ·rw [(gp _).mp h1,ia] at q
   exact ⟨_,rfl,Ci q⟩
noncomputable def Y5:Sp:=fun vs H Q _=>∃ n:Nat,vs=[.int n]/\n<2 ^ 1200/\∀ p H',H p=none->Ao H H'->H' p=some (.lst (nV (Wd.mem n)))->Q (.ref p) H'
theorem Up (n:Nat):((((List.range (Wd.len n)).map fun (i:Nat)=>(0:Int)+(i:Int)).filter fun i=>decide (0<=i) && n.testBit i.toNat).map fun i=>V.int i)=nV (Wd.mem n):=by
 unfold Wd.mem
 rw [eS,bo]
 have e:((fun i:Int=>decide (0<=i) && n.testBit i.toNat) ∘ fun (i:Nat)=>(0:Int)+(i:Int))=n.testBit:=by
  funext i
  show (decide (0<=(0:Int)+(i:Int)) && n.testBit ((0:Int)+(i:Int)).toNat)=n.testBit i
  have h1:(0:Int)<=0+(i:Int):=by omega
  have h2:((0:Int)+(i:Int)).toNat=i:=by omega
  rw [decide_eq_true h1,h2,fF]
 rw [e]
 refine kq fun i _=>?_
 show V.int ((0:Int)+(i:Int))=V.int (i:Int)
 rw [Int.zero_add]
theorem qG:Aw ["some"] ["some"] (Af jP):=Bo
include N T in
theorem X_:Av P w K mg base Bg 2 aD.fMe aD.dMe ["some"] Y5:=by
 refine N.FMe.1.ok qG (fun vs H Q E h=>?_) (fun cdv A outer s H vs Q E hr h=>?_)
 ·obtain ⟨n,rfl,_⟩:=h
  rfl
 ·obtain ⟨n,rfl,hn,q⟩:=h
  refine ⟨_,(Ai (Ay (Bu rfl (Be (osc:=Af jP) (N:=["some"]) rfl rfl (by decide +kernel)) (CP rfl T.range (Aa (U8 PySem.F.plainAttrs_int PySem.F.slot_int_bit_length PySem.F.type_int_bit_length Ov (pv 0)) Ab)) (fun _ _ _ _=>(G3 (Di (Aj (J3 N T) (ad hr) rfl N.FHa.2.2 N.FHa.1.kp N.FHa.2.1 .nil An (Aa (pv 1) (Aa (pv 0) Ab)))))) (fun _ _ _ _=>(pv 0))))),?_⟩
  have hlen:Wd.len n<=1200:=Wd.NK hn
  refine ⟨_,rfl,rfl,(n:Int),rfl,rfl,?_⟩
  rw [Ju]
  refine ⟨_,rfl,by omega,by omega,?_⟩
  rw [aT]
  refine G9 (lo:=0) (n:=Wd.len n) (fun i=>decide (0<=i) && n.testBit i.toNat) (fun i=>.int i) (bp hlen (by decide)) (fun i hi H' hs R k=>?_) (fun i hi _ H' hs R k=>⟨_,rfl,k H' (Ao.refl H')⟩) (fun D H' hD hs hl=>?_)
  ·exact ⟨_,rfl,_,rfl,n,_,rfl,_,rfl,k H' (Ao.refl H')⟩
  ·rw [Up] at hl
   exact q D H' hD hs hl
noncomputable def Wv:Sp:=fun vs H Q _=>∃ (n:Nat) (k:Int) (c:Nat),vs=[.int n,.int k,.int c]/\n<2 ^ 1200 /\ -1200<=k/\k<=1200/\c<=1200/\Q (.int (Wd.mv n k c:Nat)) H
theorem Rf (m c:Nat):Builtin.bitAnd (m:Int) (1 * 2 ^ ((if (0:Int) > (c:Int) then (0:Int) else (c:Int))).toNat - 1)=((m % 2 ^ c:Nat):Int):=by
 have h:¬ (0:Int) > (c:Int):=by omega
 rw [if_neg h,io,aT,HW]
 have hp:1<=2 ^ c:=Nat.one_le_two_pow
 have e:((2 ^ c:Nat):Int) - 1=((2 ^ c - 1:Nat):Int):=by omega
 rw [e,JQ,Nat.and_two_pow_sub_one_eq_mod]
theorem cW:Aw ["some","steps","count","moved"] ["some","steps","count"] (Af pJ):=Bo
include N T in
theorem UJ:Av P w K mg base Bg 1 aD.fSh aD.dSh ["some","steps","count"] Wv:=by
 refine N.FSh.1.ok cW (fun vs H Q E h=>?_) (fun cdv A outer s H vs Q E hr h=>?_)
 ·refine byC fun w_=>?_;obtain ⟨n,k,c,rfl,_⟩:=h;refine w_ ?_
  rfl
 ·refine byC fun w_=>?_;obtain ⟨n,k,c,rfl,hn,k1,k2,hc,q⟩:=h;refine w_ ?_
  refine ⟨_,(Ac (Bh (i:=3) cW.nd rfl (Or.inl rfl) (Ko (BX Xm (pv 1) Ae (Bc _)) (BK Xf (pv 0) (pv 1)) (BK HJ (pv 0) (MT Jf (pv 1)))))
   (Ai (Ay (BK G8 (pv 3) (BK Dz (BK Jr Ae (BP (Lj rfl) rfl T.max PyProof.Rows.boot_max (Aa (pv 2) (Aa Ae Ab)))) Ae))))),?_⟩
  have hlen:Wd.len n<=1200:=Wd.NK hn
  have p1:(2:Int) ^ 27=134217728:=by decide
  refine ⟨_,rfl,_,_,rfl,rfl,_,rfl,?_⟩
  refine Bs (fun h1=>?_) (fun h1=>?_)
  ·have hk:0<k:=of_decide_eq_true h1
   refine ⟨_,rfl,_,rfl,_,_,rfl,rfl,⟨by omega,by rw [Ju,p1]; omega⟩,?_⟩
   refine ⟨_,rfl,_,rfl,_,_,rfl,⟨_,_,rfl,rfl,⟨by split <;> omega,by split <;> omega,by decide⟩,_,_,rfl,rfl,_,_,rfl,rfl,?_⟩⟩
   dsimp only
   have e:((n:Int) * 2 ^ k.toNat)=((n * 2 ^ k.toNat:Nat):Int):=by rw [HW]; simp
   rw [e,Rf]
   unfold Wd.mv at q
   rw [if_pos hk] at q
   exact q
  ·have hk:¬ 0<k:=fun z=>h1 (decide_eq_true z)
   refine ⟨_,rfl,_,rfl,_,rfl,_,_,rfl,rfl,by omega,?_⟩
   refine ⟨_,rfl,_,rfl,_,_,rfl,⟨_,_,rfl,rfl,⟨by split <;> omega,by split <;> omega,by decide⟩,_,_,rfl,rfl,_,_,rfl,rfl,?_⟩⟩
   dsimp only
   have e:((n:Int) / 2 ^ (-k).toNat)=((n / 2 ^ (-k).toNat:Nat):Int):=by rw [HW]; simp
   rw [e,Rf]
   unfold Wd.mv at q
   rw [if_neg hk] at q
   exact q
noncomputable def bj (C:Addr):Sp:=fun vs H Q _=>∃ (x:Addr) (bs:List (Str × Nat)) (ks:List R),vs=[.ref x]/\Dd C H x bs ks/\∀ D ys H',H D=none->Ao H H'->H' D=some (.lst ys)->Paired (fun (r:R) y=>TupAt H' [.str r.w,.str r.nm] y) ks ys->Q (.ref D) H'
theorem oJ:Aw ["self"] ["self"] (Af jU):=Bo
include N T in
theorem jB:Av P w K mg base Bg 1 aD.fOz aD.dOz ["self"] (bj C):=by
 refine N.FOz.1.ok oJ (fun vs H Q E h=>?_) (fun cdv A outer s H vs Q E hr h=>?_)
 ·refine byC fun w_=>?_;obtain ⟨x,bs,ks,rfl,_⟩:=h;refine w_ ?_
  rfl
 ·refine byC fun w_=>?_;obtain ⟨x,bs,ks,rfl,O,q⟩:=h;refine w_ ?_
  refine ⟨_,(Ai (Ay (Bu rfl (Be (osc:=Af jU) (N:=["self"]) rfl rfl (by decide +kernel)) (Bp (Cu (pv 0) rfl)) (fun _ _ _ _=>CW) (fun _ _ _ _=>(Ck (Aa (Am (Aq (K:=K) rfl) (pv 0) Ae (fun _ _=>rfl)) (Aa (Am (Aq (K:=K) rfl) (pv 0) Ae (fun _ _=>rfl)) Ab))))))),?_⟩
  refine byC fun w_=>?_;obtain ⟨⟨dx,fs,bl,bn,kp,kr,bvs,pvs,uvs,kvs,h1,l1,l2,l3,l4,lm,h2,h3,h4,h5,h6,h7,h8,h9⟩,ob5,osz,onk⟩:=id O;refine w_ ?_
  have hS:Cz K H kr uvs:=.inl (.inl h8)
  have hul:=h9.length
  refine ⟨_,rfl,x,C,dx,_,_,rfl,h1,T.cl,T.n_knob_rows,l4,kr,rfl,⟨_,hS⟩,Ks (K:=K) (xs:=uvs) (fun _=>true) (fun v=>[.str (Tf H v).w,.str (Tf H v).nm]) hS (BJ (by omega)) (fun y hy H' hs R k=>k H' (Ao.refl H')) (fun y hy _ H' hs R k=>?_) (fun D H' ys hD hs hl hv=>?_)⟩
  ·obtain ⟨r,_,hr0⟩:=Cg h9 hy
   have e:=Qj hr0
   rw [e] at k
   obtain ⟨T0,rfl,hT⟩:=hr0.mono hs
   exact ⟨_,rfl,T0,_,_,_,rfl,rfl,kR hT,Ag (j:=0) rfl,_,rfl,T0,_,_,_,rfl,rfl,kR hT,Ag (j:=1) rfl,by show 2<=sizeLine; decide,fun T6 hT6=>k _ _ (A_ hT6) ⟨T6,rfl,Ah⟩⟩
  ·rw [bt.mpr (fun _ _=>rfl)] at hv
   have h:=Cq (F:=fun (r:R) y=>TupAt H' [.str r.w,.str r.nm] y) (Tf H) hv
   rw [Rc h9] at h
   exact q D ys H' hD hs hl h
noncomputable def Rz (C:Addr):Sp:=fun vs H Q _=>∃ (x:Addr) (bs:List (Str × Nat)) (ks:List R) (wd:Str) (D:Nat),vs=[.ref x,.int (D:Nat),.str wd]/\Dd C H x bs ks/\∀ L (cl:List Nat) H',H L=none->Ao H H'->H' L=some (.lst (nV cl))->(∀ k,k∈cl ↔ ∃ r,ks[k]? = some r/\r.w=wd/\D.testBit k=true)->cl.length<=200->Q (.ref L) H'
theorem bC:Aw ["organ","knobs","word","words"] ["organ","knobs","word"] (Af fM):=Bo
include N T in
theorem O7:Av P w K mg base Bg 2 aD.fDc aD.dDc ["organ","knobs","word"] (Rz C):=by
 refine N.FDc.1.ok bC (fun vs H Q E h=>?_) (fun cdv A outer s H vs Q E hr h=>?_)
 ·refine byC fun w_=>?_;obtain ⟨x,bs,ks,wd,D,rfl,_⟩:=h;refine w_ ?_
  rfl
 ·refine byC fun w_=>?_;obtain ⟨x,bs,ks,wd,D,rfl,O,q⟩:=h;refine w_ ?_
  refine ⟨_,(Ac (Hw (i:=3) bC.nd rfl rfl rfl (Be (osc:=Af fM) (N:=["organ","knobs","word","words"]) rfl rfl (by decide +kernel)) (Bp (Ew (pv 0) T.cl N.FOz.2.2 (jB N T) (ad hr) N.FOz.2.1 .nil An)) (fun _ _ _ _=>CW) (fun _ _ _ _=>(Am (Aq (K:=K) rfl) (pv 0) Ae (fun _ _=>rfl))))
   (Ai (Ay (Nj rfl (I_ (osc:=Af fM) (N:=["organ","knobs","word","words"]) rfl rfl (by decide +kernel)) (Gy rfl T.enumerate (Aa (pv 3) Ab)) (fun _ _ _ _=>G3 (PW.pt (Jw (BX Cp (pv 1) (pv 4) (Bc _)) (Hx (Di (Aj (J3 N T) (ad hr) rfl N.FHa.2.2 N.FHa.1.kp N.FHa.2.1 .nil An (Aa (pv 3) (Aa (pv 0) Ab)))))))) (fun _ _ _ _=>(pv 0)))))),?_⟩
  refine byC fun w_=>?_;obtain ⟨⟨dx,fs,bl,bn,kp,kr,bvs,pvs,uvs,kvs,h1,l1,l2,l3,l4,lm,h2,h3,h4,h5,h6,h7,h8,h9⟩,ob5,osz,onk⟩:=id O;refine w_ ?_
  refine ⟨_,rfl,x,dx,fs,rfl,h1,lm _ (by decide +kernel),x,_,_,rfl,O,fun D1 ys H1 hD1 s1 hl1 hv1=>?_⟩
  have hS1:Cz K H1 D1 ys:=.inl (.inl hl1)
  have hyl:=hv1.length
  refine ⟨D1,rfl,⟨_,hS1⟩,Cv (K:=K) (xs:=ys) (fun _=>true) (TX H1 0) hS1 (BJ (by omega)) (fun y hy H' hs R k=>k H' (Ao.refl H')) (fun y hy _ H' hs R k=>?_) (fun D2 H2 hD2 s2 hl2=>?_)⟩
  ·obtain ⟨r,_,hr0⟩:=Cg hv1 hy
   have e:=JL hr0 0
   obtain ⟨T0,rfl,hT⟩:=hr0.mono hs
   have kk:=k H' (Ao.refl H')
   rw [e] at kk
   exact ⟨_,rfl,T0,_,_,_,rfl,rfl,kR hT,Ag (j:=0) rfl,kk⟩
  rw [bt.mpr (fun _ _=>rfl),J_ 0 hv1] at hl2
  have e2:(ks.map fun r=>([V.str r.w,V.str r.nm]:List V).getD 0 .non)=ks.map fun r=>V.str r.w:=rfl
  rw [e2] at hl2
  have hS2:Cz K H2 D2 (ks.map fun r=>V.str r.w):=.inl (.inl hl2)
  refine ⟨_,rfl,D2,rfl,⟨_,hS2⟩,Rn (K:=K) (xs:=ks.map fun r=>V.str r.w) (fun i v=>decide (v=.str wd) && D.testBit i) (fun i _=>.int (i:Nat)) hS2 (BJ (by rw [ai]; omega)) (fun i v hv H' hs R k=>?_) (fun i v hv _ H' hs R k=>⟨_,rfl,k H' (Ao.refl H')⟩) (fun D3 H3 hD3 s3 hl3=>?_)⟩
  ·rw [ar] at hv
   obtain ⟨z,hz,rfl⟩:=bb.mp hv
   have kk:=k H' (Ao.refl H')
   refine ⟨_,rfl,_,rfl,rfl,_,rfl,?_⟩
   refine Bs (fun g=>?_) (fun g=>?_)
   ·rw [g,fF] at kk
    refine ⟨_,rfl,_,rfl,D,_,rfl,_,rfl,?_⟩
    rw [decide_eq_true (by omega:(0:Int)<=(i:Nat)),fF,aT]
    exact kk
   ·rw [(gp _).mp g,ia] at kk
    exact kk
  ·refine q D3 (((ks.map fun r=>V.str r.w).zipIdx.filter fun p=>decide (p.1=V.str wd) && D.testBit p.2).map (·.2)) H3 ((s1.trans s2).free hD3) ((s1.trans s2).trans s3) ?_ (fun k=>?_) ?_
   ·rw [hl3]
    refine congrArg (fun l=>some (HO.lst l)) ?_
    unfold nV
    rw [bo]
    rfl
   ·constructor
    ·intro hk
     obtain ⟨⟨v,k'⟩,hm,rfl⟩:=aI.mp hk
     obtain ⟨h1,h2⟩:=cq.mp hm
     have h3:=List.mem_zipIdx' h1
     rw [kH] at h3
     obtain ⟨hlt,h3⟩:=h3
     rw [fz] at h2
     have hlt':k'<ks.length:=by simpa using hlt
     refine ⟨ks[k'],ae hlt',?_,h2.2⟩
     have:=h2.1
     rw [h3] at this
     exact V.str.inj (of_decide_eq_true this)
    ·rintro ⟨z,hz,hc,hd⟩
     refine aI.mpr ⟨(V.str z.w,k),cq.mpr ⟨?_,?_⟩,rfl⟩
     ·rw [List.mem_zipIdx_iff_getElem?,ar,hz]
      rfl
     ·show (decide (V.str z.w=V.str wd) && D.testBit k)=true
      rw [hc,hd,decide_eq_true rfl]
      rfl
   ·rw [ai]
    refine bE (dt _ _) ?_
    rw [ky,ai]
    omega
noncomputable def WY (C:Addr):Sp:=fun vs H Q _=>∃ (x:Addr) (bs:List (Str × Nat)) (ks:List R) (n:Nat),vs=[.ref x,.int (n:Nat)]/\Dd C H x bs ks/\n<2 ^ 1200/\Q (.int (Wd.mv n 0 (bs.map (·.2)).sum:Nat)) H
theorem Ep {C:Addr} {H:Hp} {x:Addr} {bs:List (Str × Nat)} {ks:List R} (O:Dd C H x bs ks):(bs.map (·.2)).sum<=305:=by
 have h:=NB bs 61 O.sz
 rw [Ed] at h
 have:=O.nb
 have:bs.length * 61<=5 * 61:=kf _ this
 omega
theorem kE:Aw ["organ","held"] ["organ","held"] (Af lQ):=Bo
include N T in
theorem Vc:Av P w K mg base Bg 2 aD.fHk aD.dHk ["organ","held"] (WY C):=by
 refine N.FHk.1.ok kE (fun vs H Q E h=>?_) (fun cdv A outer s H vs Q E hr h=>?_)
 ·refine byC fun w_=>?_;obtain ⟨x,bs,ks,n,rfl,_⟩:=h;refine w_ ?_
  rfl
 ·refine byC fun w_=>?_;obtain ⟨x,bs,ks,n,rfl,O,hn,q⟩:=h;refine w_ ?_
  refine ⟨_,(Ai (Ay (Aj (UJ N T) (ad hr) rfl N.FSh.2.2 N.FSh.1.kp N.FSh.2.1 .nil An (Aa (pv 1) (Aa Ae (Aa (Ew (pv 0) T.cl N.FOc.2.2 (Vq N T) (ad hr) N.FOc.2.1 .nil An) Ab)))))),?_⟩
  refine byC fun w_=>?_;obtain ⟨⟨dx,fs,bl,bn,kp,kr,bvs,pvs,uvs,kvs,h1,l1,l2,l3,l4,lm,_⟩,_⟩:=id O;refine w_ ?_
  have h305:=Ep O
  refine ⟨_,rfl,_,rfl,x,dx,fs,rfl,h1,lm _ (by decide +kernel),x,bs,ks,rfl,O,n,0,(Ez bs).length,rfl,hn,by decide,by decide,by rw [Ed]; omega,?_⟩
  rw [Ed]
  exact q
theorem Qv {n:Nat} (h:n<=3000):n<sizeLine:=bp h (by decide)
theorem Ol {i:Nat} {v:V} {σ:St} {H:Hp} {Q:St->Hp->Prop}:Dy i v σ H Q=Q (σ.set i (some v)) H:=rfl
theorem K3 {c:TT} {tb u:TS} {D:Ends} {r:VK} {b k:St->Hp->Prop} {σ:St} {H:Hp} (h:Nu c tb { D with nx:=u D } σ H):({ nx:=aU (Nu c tb) u D,rt:=r,bk:=b,ct:=k }:Ends).nx σ H:=h
noncomputable def Rv:Option HO->Nat
 | some (.lst xs)=>xs.length
 | _=>0
noncomputable def Zq:Option HO->Nat
 | some (.dK kvs)=>kvs.length
 | _=>0
noncomputable abbrev kI (j:Nat):Key:=Sum.inl ((j:Nat):Int)
theorem Mf {kvs:List (Key × V)} {js:List Nat} (h:kvs.map (·.1)=js.map kI) (j:Nat):(Cd kvs (kI j)).isSome=decide (j∈js):=by
 rw [← Gu]
 rw [fw,gy,decide_eq_true_eq]
 constructor
 ·rintro ⟨p,hp,e⟩
  have:p.1∈js.map kI:=by rw [← h]; exact cr hp
  obtain ⟨j',hj',e'⟩:=aI.mp this
  have e2:kI j'=kI j:=e'.trans (of_decide_eq_true e)
  have:((j':Nat):Int)=(j:Nat):=Sum.inl.inj e2
  have:j'=j:=by omega
  subst this
  exact hj'
 ·intro hj
  have:kI j∈kvs.map (·.1):=by rw [h]; exact cr hj
  obtain ⟨p,hp,e⟩:=aI.mp this
  exact ⟨p,hp,decide_eq_true e⟩
noncomputable def N5 (H:Hp) (bs:List (Str × Nat)) (kbs:List Kb) (D n:Nat) (kvs:List (Key × V)) (js:List Nat):Prop:=∀ (m j:Nat),js[m]? = some j->∃ (k i:Nat) (T:Addr) (z:Kb),Cd kvs (kI j)=some (.ref T)/\H T=some (.tup [V.int (k:Nat),V.int (i:Nat)])/\D.testBit k=true/\kbs[k]? = some z/\gl bs z i=some j/\(n.testBit i=true \/ i∈js.take m)
theorem N5.qw {H H':Hp} {bs:List (Str × Nat)} {kbs:List Kb} {D n:Nat} {kvs:List (Key × V)} {js:List Nat} (h:N5 H bs kbs D n kvs js) (hs:∀ T xs,H T=some (.tup xs)->H' T=some (.tup xs)):N5 H' bs kbs D n kvs js:=fun m j hm=>by
 refine byC fun w_=>?_;obtain ⟨k,i,T,z,h1,h2,h3⟩:=h m j hm;refine w_ ?_
 exact ⟨k,i,T,z,h1,hs _ _ h2,h3⟩
theorem N5.mono {H H':Hp} {bs:List (Str × Nat)} {kbs:List Kb} {D n:Nat} {kvs:List (Key × V)} {js:List Nat} (h:N5 H bs kbs D n kvs js) (s:Ao H H'):N5 H' bs kbs D n kvs js:=h.qw fun T xs e=>s _ _ e
theorem N5.upd {H:Hp} {bs:List (Str × Nat)} {kbs:List Kb} {D n:Nat} {kvs:List (Key × V)} {js:List Nat} {A:Addr} {o u:HO} (h:N5 H bs kbs D n kvs js) (ha:H A=some u) (hu:∀ xs,u ≠ .tup xs):N5 (L2.upd H A o) bs kbs D n kvs js:=h.qw fun T xs e=>by
 rw [Ar (fun z=>by rw [z,ha] at e; exact hu xs (Option.some.inj e))]
 exact e
theorem N5.snoc {H:Hp} {bs:List (Str × Nat)} {kbs:List Kb} {D n:Nat} {kvs:List (Key × V)} {js:List Nat} {k i0 j:Nat} {T:Addr} {z:Kb} (h:N5 H bs kbs D n kvs js) (nv:Cd kvs (kI j)=none) (hT:H T=some (.tup [V.int (k:Nat),V.int (i0:Nat)])) (hk:D.testBit k=true) (hz:kbs[k]? = some z) (hg:gl bs z i0=some j) (hi:n.testBit i0=true \/ i0∈js) :
  N5 H bs kbs D n (kvs++[(kI j,.ref T)]) (js++[j]):=fun m j' hm=>by
 by_cases hlt:m<js.length
 ·rw [eJ hlt] at hm
  refine byC fun w_=>?_;obtain ⟨k',i',T',z',h1,h2,h3,h4,h5,h6⟩:=h m j' hm;refine w_ ?_
  refine ⟨k',i',T',z',?_,h2,h3,h4,h5,?_⟩
  ·rw [Hy _ _ _ _ nv]
   by_cases e:kI j'=kI j
   ·rw [e,nv] at h1
    cases h1
   ·rw [if_neg e]
    exact h1
  ·rw [fR (ga hlt)]
   exact h6
 ·have hm':=(ah.mp hm).1
  rw [av,bq] at hm'
  have em:m=js.length:=by omega
  subst em
  rw [cv (aE _),iO] at hm
  have ej:j=j':=by simpa using hm
  subst ej
  refine ⟨k,i0,T,z,?_,hT,hk,hz,hg,?_⟩
  ·rw [Hy _ _ _ _ nv,if_pos rfl]
  ·rw [fR (aE _),fg]
   exact hi
noncomputable def aG (C:Addr):Sp:=fun vs H Q _=>∃ (x:Addr) (c:Nat->Str) (sz:List Nat) (kbs:List Kb) (D n:Nat),vs=[.ref x,.int (D:Nat),.int (n:Nat)]/\Dd C H x (Bb c sz) (CJ c kbs)/\Nz sz.length kbs/\n<2 ^ 1200/\(∀ i,n.testBit i=true->i<sz.sum) /\
 ∀ W (kvs:List (Key × V)) (js:List Nat) H',H W=none->Ao H H'->H' W=some (.dK kvs)->kvs.map (·.1)=js.map kI->js.Nodup->N5 H' (Bb c sz) kbs D n kvs js->(∀ j,j∈js ↔ JB (stp (Bb c sz) kbs D) (fun i=>n.testBit i=true) j)->Q (.ref W) H'
theorem QC:Aw ["organ","knobs","held","couplers","ways","left","ahead","knob","key"] ["organ","knobs","held"] (Af lC):=Bo
include N T in
theorem Xp:Av P w K mg base Bg 4 aD.fWa aD.dWa ["organ","knobs","held"] (aG C):=by
 refine N.FWa.1.ok QC (fun vs H Q E h=>?_) (fun cdv A outer s H vs Q E hr h=>?_)
 ·refine byC fun w_=>?_;obtain ⟨x,c,sz,kbs,D,n,rfl,_⟩:=h;refine w_ ?_
  rfl
 ·refine byC fun w_=>?_;obtain ⟨x,c,sz,kbs,D,n,rfl,O,hkb,hn,hnt,q⟩:=h;refine w_ ?_
  have hu:=Ei hr
  refine ⟨_,(Ac (Bh (i:=3) QC.nd rfl (Or.inl rfl) (Aj (O7 N T) (ad hr) rfl N.FDc.2.2 N.FDc.1.kp N.FDc.2.1 .nil An (Aa (pv 0) (Aa (pv 1) (Aa BR Ab)))))
   (Ac (Bh (i:=4) QC.nd rfl (Or.inl rfl) Hu)
   (Ac (Bh (i:=5) QC.nd rfl (Or.inl rfl) (Aj (X_ N T) (ad hr) rfl N.FMe.2.2 N.FMe.1.kp N.FMe.2.1 .nil An (Aa (pv 2) Ab)))
   (Ac (Kf PassesOwn.never (Kd (pv 5) (fun _=>rfl)) (Ac (Bh (i:=6) QC.nd rfl (Or.inl rfl) (HF de PySem.F.slot_list_pop PySem.F.type_list_pop Vi (pv 5) (Aa Ae Ab)))
   (Ai (C_ PassesOwn.never rfl (Bp (pv 3)) (BZ (i:=7) QC.nd rfl (Or.inl rfl)) (Ac (Bh (i:=8) QC.nd rfl (Or.inl rfl) (Aj (Xk N T) (ad hr) rfl N.FLe.2.2 N.FLe.1.kp N.FLe.2.1 .nil An (Aa (pv 0) (Aa (pv 7) (Aa (pv 6) Ab)))))
   (Ai (Br (PW.pt (Jw (BX Rj (pv 8) HY (Bc _)) (Hx (QX (Tg hu (pv 8) (pv 4)))))) (Ac (G6 hu (pv 4) (pv 8) (Ck (Aa (pv 7) (Aa (pv 6) Ab))) rfl)
   (Ai (Br (DQ (Di (Aj (J3 N T) (ad hr) rfl N.FHa.2.2 N.FHa.1.kp N.FHa.2.1 .nil An (Aa (pv 2) (Aa (pv 8) Ab))))) (Ai (Eh (HF de dL dQ DG (pv 5) (Aa (pv 8) Ab)))) Ba))) Ba)))))))
   (Ai (Ay (pv 4))))))),?_⟩
  have hsum:((Bb c sz).map (·.2)).sum=sz.sum:=by rw [Bm]
  generalize hst:stp (Bb c sz) kbs D=st
  have hR:∀ {j},JB st (fun i=>n.testBit i=true) j->j<sz.sum:=fun {j} r=>by
   rw [← hst] at r
   have:=r.lt
   rw [hsum] at this
   exact this
  refine ⟨_,rfl,_,rfl,x,Bb c sz,CJ c kbs,"coupler",D,rfl,O,fun CL cl H1 hCL s1 hl1 hcl0 hcll=>?_⟩
  have hcl:∀ k,k∈cl ↔ ∃ z,kbs[k]? = some z/\Rk z=true/\D.testBit k=true:=fun k=>by
   rw [hcl0]
   constructor
   ·rintro ⟨r,hr,hw,hd⟩
    obtain ⟨z,hz,rfl⟩:=FQ hr
    rw [Gf] at hw
    exact ⟨z,hz,decide_eq_true (congrArg V.str hw),hd⟩
   ·rintro ⟨z,hz,hc,hd⟩
    exact ⟨_,Do hz,(Gf _ _ _).trans (V.str.inj (of_decide_eq_true hc)),hd⟩
  intro W hW
  refine byC fun w_=>?_;obtain ⟨H2,eqH,t2,u2⟩:=Ft (o:=HO.dK []) hW;refine w_ ?_
  rw [eqH]
  refine ⟨_,rfl,n,rfl,hn,fun L H3 hL s3 hl3=>?_⟩
  have s13:=t2.trans s3
  have s03:=s1.trans s13
  have hW0:H W=none:=s1.free hW
  have hL0:H L=none:=(s1.trans t2).free hL
  have hWL:W ≠ L:=fun z=>by rw [← z,s3 _ _ u2] at hl3; cases hl3
  have c3:=s13 _ _ hl1
  have hS3:Cz K H3 CL (nV cl):=.inl (.inl c3)
  have hCW:CL ≠ W:=fun z=>by rw [z,s3 _ _ u2] at c3; cases c3
  have hCL':CL ≠ L:=fun z=>by rw [z] at hl1; rw [t2 _ _ hl1] at hL; cases hL
  show Dy 5 _ _ _ _
  rw [Ol]
  refine K3 ?_
  refine KQ (fun σ H4=>Ao H H4/\H4 CL=some (.lst (nV cl))/\∃ (kvs:List (Key × V)) (js ls:List Nat),H4 W=some (.dK kvs)/\H4 L=some (.lst (nV ls))/\kvs.map (·.1)=js.map kI/\js.Nodup/\N5 H4 (Bb c sz) kbs D n kvs js/\(∀ j∈js,JB st (fun i=>n.testBit i=true) j)/\(∀ i∈ls,n.testBit i=true \/ i∈js)/\(∀ i,(n.testBit i=true \/ i∈js)->i∈ls \/ ∀ j,st i j->j∈js)/\ls.length+(sz.sum - js.length)<=1600/\∃ v6 v7 v8,σ=[some (.ref x),some (.int (D:Nat)),some (.int (n:Nat)),some (.ref CL),some (.ref W),some (.ref L),v6,v7,v8])
   (fun _ H4=>Rv (H4 L)+(sz.sum - Zq (H4 W))) ⟨s03,c3,[],[],Wd.mem n,s3 _ _ u2,hl3,rfl,List.nodup_nil,(fun m j hm=>by simp at hm),(fun j hj=>nomatch hj),(fun i hi=>.inl (Wd.mem_iff.mp hi)),(fun i hi=>.inl (Wd.mem_iff.mpr (hi.resolve_right (by simp)))),?_,_,_,_,rfl⟩ ?_ ?_
  ·have:=Wd.NK hn
   have:(Wd.mem n).length<=Wd.len n:=by unfold Wd.mem; exact Nat.le_trans (List.length_filter_le _ _) (by simp)
   have h305:=Ep O
   rw [hsum] at h305
   simp
   omega
  ·rintro σ H4 ⟨s4,c4,kvs,js,ls,hw,hl,hkv,nd,hpar,hj,hls,hcl4,hbig,v6,v7,v8,rfl⟩
   refine ⟨_,rfl,_,.inl ⟨_,kR hl,rfl⟩,?_⟩
   have hjl:js.length<=sz.sum:=Ec sz.sum nd fun j h=>hR (hj j h)
   have hkl:kvs.length=js.length:=by have:=congrArg List.length hkv; simpa using this
   cases ls with
   | nil =>
    refine Ci ?_
    refine ⟨_,rfl,q W kvs js H4 hW0 s4 hw hkv nd hpar fun j=>?_⟩
    rw [hst]
    exact JB.all (W:=fun j=>j∈js) hj (fun i hi=>(hcl4 i hi).resolve_left (by simp)) j
   | cons i0 ls =>
    refine Ef ?_
    refine ⟨_,rfl,.inl ⟨rfl,_,kR hl⟩,L,_,0,0,.int (i0:Nat),rfl,rfl,hl,by decide,by decide,seqIndex_of (by decide) (by simp),rfl,?_⟩
    have w5:upd H4 L (.lst ((nV (i0::ls)).eraseIdx 0)) W=some (.dK kvs):=by rw [Ar hWL]; exact hw
    have l5:upd H4 L (.lst ((nV (i0::ls)).eraseIdx 0)) L=some (.lst (nV ls)):=Ah
    have c5:upd H4 L (.lst ((nV (i0::ls)).eraseIdx 0)) CL=some (.lst (nV cl)):=by rw [Ar hCL']; exact c4
    have s5:Ao H (upd H4 L (.lst ((nV (i0::ls)).eraseIdx 0))):=fun b o e=>by rw [Ar (Ak e hL0)]; exact s4 _ _ e
    have em:Rv (H4 L)+(sz.sum - Zq (H4 W))=ls.length+1+(sz.sum - js.length):=by
     rw [hl,hw]
     show (nV (i0::ls)).length+(sz.sum - kvs.length)=_
     rw [hkl]
     simp
    rw [em]
    have par5:N5 (upd H4 L (.lst ((nV (i0::ls)).eraseIdx 0))) (Bb c sz) kbs D n kvs js:=hpar.upd hl (fun xs z=>by cases z)
    generalize upd H4 L (.lst ((nV (i0::ls)).eraseIdx 0))=H5 at w5 l5 c5 s5 par5 ⊢
    have hi0:i0<sz.sum:=by
     rcases hls i0 (cS ..) with h | h
     ·exact hnt i0 h
     ·exact hR (hj i0 h)
    have hi0R:∀ j,st i0 j->JB st (fun i=>n.testBit i=true) j:=fun j h=>by
     rcases hls i0 (cS ..) with g | g
     ·exact .one g h
     ·exact .more (hj i0 g) h
    obtain ⟨qd,hq⟩:∃ qd,(Ez (Bb c sz))[i0]? = some qd:=⟨_,ae (by rw [Ed,hsum]; exact hi0)⟩
    have M:ls.length+(sz.sum - js.length)<ls.length+1+(sz.sum - js.length):=by omega
    refine ⟨_,rfl,CL,rfl,⟨_,kR c5⟩,Eo (K:=K) (a:=CL) (xs:=nV cl) (fun m σ H6=>Ao H H6/\H6 CL=some (.lst (nV cl))/\∃ (kvs6:List (Key × V)) (js6 ls6:List Nat),H6 W=some (.dK kvs6)/\H6 L=some (.lst (nV ls6))/\kvs6.map (·.1)=js6.map kI/\js6.Nodup/\N5 H6 (Bb c sz) kbs D n kvs6 js6/\(∀ j∈js6,JB st (fun i=>n.testBit i=true) j)/\(∀ i∈ls6,n.testBit i=true \/ i∈js6)/\(∀ i,(n.testBit i=true \/ i∈js6)->i=i0 \/ i∈ls6 \/ ∀ j,st i j->j∈js6)/\(∀ k∈cl.take m,∀ z j,kbs[k]? = some z->gl (Bb c sz) z i0=some j->j∈js6)/\(n.testBit i0=true \/ i0∈js6)/\ls6.length+(sz.sum - js6.length)<=ls.length+(sz.sum - js.length)/\∃ v7 v8,σ=[some (.ref x),some (.int (D:Nat)),some (.int (n:Nat)),some (.ref CL),some (.ref W),some (.ref L),some (.int (i0:Nat)),v7,v8])
     ⟨s5,c5,kvs,js,ls,w5,l5,hkv,nd,par5,hj,(fun i hi=>hls i (List.mem_cons_of_mem _ hi)),(fun i hi=>?_),(fun k hk=>by simp at hk),hls i0 (List.mem_cons_self ..),Nat.le_refl _,_,_,rfl⟩ (fun m σ H6 _ h=>.inl (.inl h.2.1)) ?_ ?_⟩
    ·rcases hcl4 i hi with h | h
     ·rcases eh.mp h with rfl | h
      ·exact .inl rfl
      ·exact .inr (.inl h)
     ·exact .inr (.inr h)
    ·rintro m y σ H6 hm ⟨s6,c6,kvs6,js6,ls6,w6,l6,kv6,nd6,par6,hj6,hls6,hcl6,hdone,hi06,hmeas,v7,v8,rfl⟩
     rw [ar] at hm
     obtain ⟨k,hk,rfl⟩:=bb.mp hm
     refine byC fun w_=>?_;obtain ⟨z,hz,hzc,hzd⟩:=(hcl k).mp (ay hk);refine w_ ?_
     have zok:=hkb.ok z (ay hz)
     refine byC fun w_=>?_;obtain ⟨j1,j2,s0,rfl⟩:=RJ zok hzc;refine w_ ?_
     refine byC fun w_=>?_;obtain ⟨hj1,hj2,_,_⟩:=zok;refine w_ ?_
     have hbj1:(Bb c sz)[j1]? = some (c j1,sz[j1]):=DR (ae hj1)
     have hbj2:(Bb c sz)[j2]? = some (c j2,sz[j2]):=DR (ae hj2)
     have hkrow:(CJ c kbs)[k]? = some ⟨"coupler",c (30+k),[.str (c j1),.str (c j2),.int s0]⟩:=Do hz
     have hjl6:js6.length<=sz.sum:=Ec sz.sum nd6 fun j h=>hR (hj6 j h)
     have hkl6:kvs6.length=js6.length:=by have:=congrArg List.length kv6; simpa using this
     have h305:=Ep O
     rw [hsum] at h305
     refine ⟨_,rfl,_,rfl,_,rfl,x,Bb c sz,CJ c kbs,k,i0,j1,j2,(c j1,sz[j1]),(c j2,sz[j2]),qd,c (30+k),s0,rfl,O.mono s6,hq,hkrow,hbj1,hbj2,fun H7 s7=>?_⟩
     have done':∀ {js':List Nat},(∀ j∈js6,j∈js')->(∀ j,gl (Bb c sz) (.cp j1 j2 s0) i0=some j->j∈js')->∀ k'∈cl.take (m+1),∀ z j,kbs[k']? = some z->gl (Bb c sz) z i0=some j->j∈js':=fun {js'} hsub hnew k' hk' z' j hz' hg=>by
      rw [dl,hk] at hk'
      rcases ba.mp hk' with h | h
      ·exact hsub j (hdone k' h z' j hz' hg)
      ·have:k'=k:=by simpa using h
       subst this
       rw [hz] at hz'
       cases hz'
       exact hnew j hg
     rcases Ml (j1:=j1) (s:=s0) hq hbj2 with ⟨e,eg⟩ | ⟨j,e,eg,hjt⟩
     ·rw [e]
      refine ⟨_,rfl,rfl,_,rfl,Ci (Ci ?_)⟩
      exact ⟨s6.trans s7,s7 _ _ c6,kvs6,js6,ls6,s7 _ _ w6,s7 _ _ l6,kv6,nd6,par6.mono s7,hj6,hls6,hcl6,done' (fun j h=>h) (fun j h=>by rw [eg] at h; cases h),hi06,hmeas,_,_,rfl⟩
     ·rw [e]
      have hstj:st i0 j:=by rw [← hst]; exact ⟨k,_,hzd,hz,eg⟩
      refine ⟨_,rfl,rfl,_,rfl,Ef ?_⟩
      refine ⟨_,rfl,_,rfl,W,_,rfl,Ey.k (k:=kI j) (s7 _ _ w6),_,rfl,?_⟩
      rw [Mf kv6 j]
      by_cases hin:j∈js6
      ·rw [decide_eq_true hin]
       refine Ci ?_
       exact ⟨s6.trans s7,s7 _ _ c6,kvs6,js6,ls6,s7 _ _ w6,s7 _ _ l6,kv6,nd6,par6.mono s7,hj6,hls6,hcl6,done' (fun j h=>h) (fun j' h=>by rw [eg] at h; cases h; exact hin),hi06,hmeas,_,_,rfl⟩
      ·rw [decide_eq_false hin]
       refine Ef ?_
       have nv:Cd kvs6 (kI j)=none:=by
        have:=Mf kv6 j
        rw [decide_eq_false hin] at this
        exact Option.not_isSome_iff_eq_none.mp (by rw [this]; decide)
       have nd7:(js6++[j]).Nodup:=List.nodup_append.mpr ⟨nd6,by simp,fun a ha b hb=>by rw [List.mem_singleton.mp hb]; intro z; exact hin (z ▸ ha)⟩
       have hj7:∀ j'∈js6++[j],JB st (fun i=>n.testBit i=true) j':=fun j' h=>by
        rcases ba.mp h with h | h
        ·exact hj6 j' h
        ·rw [aS.mp h]
         exact hi0R j hstj
       have hjl7:(js6++[j]).length<=sz.sum:=Ec sz.sum nd7 fun j h=>hR (hj7 j h)
       rw [av,bq] at hjl7
       refine ⟨_,rfl,_,rfl,by show 2<=sizeLine; decide,fun T8 hT8=>?_⟩
       obtain ⟨H8,eqH,t8,uT8⟩:=Ft (o:=HO.tup [V.int (k:Nat),V.int (i0:Nat)]) hT8
       rw [eqH]
       have w8:=t8 _ _ (s7 _ _ w6)
       refine ⟨_,rfl,_,rfl,W,_,rfl,Kq.k (k:=kI j) w8 (BJ (by omega)),?_⟩
       have u9:upd H8 W (.dK (putK kvs6 (kI j) (.ref T8))) W=some (.dK (kvs6++[(kI j,.ref T8)])):=by rw [← K4 _ nv]; exact Ah
       have l9:upd H8 W (.dK (putK kvs6 (kI j) (.ref T8))) L=some (.lst (nV ls6)):=by rw [Ar hWL.symm]; exact t8 _ _ (s7 _ _ l6)
       have c9:upd H8 W (.dK (putK kvs6 (kI j) (.ref T8))) CL=some (.lst (nV cl)):=by rw [Ar hCW]; exact t8 _ _ (s7 _ _ c6)
       have s9:Ao H (upd H8 W (.dK (putK kvs6 (kI j) (.ref T8)))):=fun b o e=>by rw [Ar (Ak e hW0)]; exact t8 _ _ (s7 _ _ (s6 _ _ e))
       have par9:N5 (upd H8 W (.dK (putK kvs6 (kI j) (.ref T8)))) (Bb c sz) kbs D n (kvs6++[(kI j,.ref T8)]) (js6++[j]):=by
        have p8:=((par6.mono s7).mono t8).upd (o:=.dK (putK kvs6 (kI j) (.ref T8))) w8 (fun xs z=>by cases z)
        exact p8.snoc nv (by rw [Ar (fun z=>by rw [z,w8] at uT8; cases uT8)]; exact uT8) hzd hz eg hi06
       generalize upd H8 W (.dK (putK kvs6 (kI j) (.ref T8)))=H9 at u9 l9 c9 s9 par9 ⊢
       have kv9:(kvs6++[(kI j,V.ref T8)]).map (·.1)=(js6++[j]).map kI:=by rw [br,br,kv6]; rfl
       refine ⟨_,rfl,_,rfl,n,_,rfl,_,rfl,?_⟩
       have eb:(decide ((0:Int)<=(j:Nat)) && n.testBit ((j:Nat):Int).toNat)=n.testBit j:=by rw [decide_eq_true (by omega),fF,aT]
       rw [eb]
       cases hb:n.testBit j with
       | true =>
        refine Ci ?_
        refine ⟨s9,c9,_,js6++[j],ls6,u9,l9,kv9,nd7,par9,hj7,(fun i h=>(hls6 i h).imp id (List.mem_append_left _)),(fun i h=>?_),done' (fun j h=>List.mem_append_left _ h) (fun j' h=>by rw [eg] at h; cases h; simp),hi06.imp id (List.mem_append_left _),?_,_,_,rfl⟩
        ·have h':n.testBit i=true \/ i∈js6:=by
          rcases h with h | h
          ·exact .inl h
          ·rcases ba.mp h with h | h
           ·exact .inr h
           ·rw [aS.mp h]
            exact .inl hb
         rcases hcl6 i h' with g | g | g
         ·exact .inl g
         ·exact .inr (.inl g)
         ·exact .inr (.inr fun j' hj'=>bi _ (g j' hj'))
        ·rw [av,bq]
         omega
       | false =>
        refine Ef ?_
        refine ⟨_,rfl,.inl ⟨rfl,_,kR l9⟩,_,rfl,L,_,_,rfl,rfl,l9,Qv (by simp only [List.length_cons] at hbig; rw [List.length_map]; omega),?_⟩
        have l10:upd H9 L (.lst (nV ls6++[V.int (j:Nat)])) L=some (.lst (nV (ls6++[j]))):=by
         have e9:nV (ls6++[j])=nV ls6++[V.int (j:Nat)]:=br
         rw [e9]
         exact Ah
        have w10:upd H9 L (.lst (nV ls6++[V.int (j:Nat)])) W=some (.dK (kvs6++[(kI j,.ref T8)])):=by rw [Ar hWL]; exact u9
        have c10:upd H9 L (.lst (nV ls6++[V.int (j:Nat)])) CL=some (.lst (nV cl)):=by rw [Ar hCL']; exact c9
        have s10:Ao H (upd H9 L (.lst (nV ls6++[V.int (j:Nat)]))):=fun b o e=>by rw [Ar (Ak e hL0)]; exact s9 _ _ e
        refine ⟨s10,c10,_,js6++[j],ls6++[j],w10,l10,kv9,nd7,par9.upd l9 (fun xs z=>by cases z),hj7,(fun i h=>?_),(fun i h=>?_),done' (fun j h=>List.mem_append_left _ h) (fun j' h=>by rw [eg] at h; cases h; simp),hi06.imp id (List.mem_append_left _),?_,_,_,rfl⟩
        ·rcases ba.mp h with h | h
         ·exact (hls6 i h).imp id (bi _)
         ·exact .inr (be _ h)
        ·have h':(n.testBit i=true \/ i∈js6) \/ i=j:=by
          rcases h with h | h
          ·exact .inl (.inl h)
          ·rcases ba.mp h with h | h
           ·exact .inl (.inr h)
           ·exact .inr (aS.mp h)
         rcases h' with h' | rfl
         ·rcases hcl6 i h' with g | g | g
          ·exact .inl g
          ·exact .inr (.inl (bi _ g))
          ·exact .inr (.inr fun j' hj'=>bi _ (g j' hj'))
         ·exact .inr (.inl (by simp))
        ·rw [av,av,bq]
         omega
    ·rintro σ H6 ⟨s6,c6,kvs6,js6,ls6,w6,l6,kv6,nd6,par6,hj6,hls6,hcl6,hdone,hi06,hmeas,v7,v8,rfl⟩
     have hkl6:kvs6.length=js6.length:=by have:=congrArg List.length kv6; simpa using this
     refine ⟨⟨s6,c6,kvs6,js6,ls6,w6,l6,kv6,nd6,par6,hj6,hls6,(fun i hi=>?_),by simp only [List.length_cons] at hbig; omega,_,_,_,rfl⟩,?_⟩
     ·rcases hcl6 i hi with rfl | g | g
      ·refine .inr fun j hij=>?_
       rw [← hst] at hij
       refine byC fun w_=>?_;obtain ⟨k,z,hkd,hkz,hg⟩:=hij;refine w_ ?_
       refine hdone k ?_ z j hkz hg
       rw [List.take_of_length_le (by simp)]
       exact (hcl k).mpr ⟨z,hkz,Ue hg,hkd⟩
      ·exact .inl g
      ·exact .inr g
     ·show Rv (H6 L)+(sz.sum - Zq (H6 W))<_
      rw [l6,w6]
      show (nV ls6).length+(sz.sum - kvs6.length)<_
      rw [ai,hkl6]
      omega
  ·rintro σ H' Q1 Q2 hm ⟨v,hv,k,hk,h⟩
   exact ⟨v,hv,k,hk,hm _ _ h⟩
noncomputable def fX (C:Addr):Sp:=fun vs H Q _=>∃ (x:Addr) (c:Nat->Str) (sz:List Nat) (kbs:List Kb) (D n:Nat),vs=[.ref x,.int (D:Nat),.int (n:Nat)]/\Dd C H x (Bb c sz) (CJ c kbs)/\Nz sz.length kbs/\n<2 ^ 1200/\(∀ i,n.testBit i=true->i<sz.sum) /\
 ∀ (m:Nat) H',Ao H H'->(∀ j,m.testBit j=true ↔ JB (stp (Bb c sz) kbs D) (fun i=>n.testBit i=true) j)->Q (.int (m:Nat)) H'
theorem Nq {n T:Nat} (h:∀ i,n.testBit i=true->i<T):Wd.mv n 0 T=n:=by
 refine Jb fun i=>?_
 rw [Wd.K1]
 simp
 intro hi
 exact h i hi
theorem pP:Aw ["organ","knobs","held"] ["organ","knobs","held"] (Af oh):=Bo
include N T in
theorem dm:Av P w K mg base Bg 5 aD.fCq aD.dCq ["organ","knobs","held"] (fX C):=by
 refine N.FCq.1.ok pP (fun vs H Q E h=>?_) (fun cdv A outer s H vs Q E hr h=>?_)
 ·refine byC fun w_=>?_;obtain ⟨x,c,sz,kbs,D,n,rfl,_⟩:=h;refine w_ ?_
  rfl
 ·refine byC fun w_=>?_;obtain ⟨x,c,sz,kbs,D,n,rfl,O,hkb,hn,hnt,q⟩:=h;refine w_ ?_
  refine ⟨_,(Ai (Ay (Aj (RL N T) (ad hr) rfl N.FSt.2.2 N.FSt.1.kp N.FSt.2.1 .nil An (Aa (Eb (Ka rfl) rfl T.list eR (Aa (Aj (Xp N T) (ad hr) rfl N.FWa.2.2 N.FWa.1.kp N.FWa.2.1 .nil An (Aa (pv 0) (Aa (pv 1) (Aa (Aj (Vc N T) (ad hr) rfl N.FHk.2.2 N.FHk.1.kp N.FHk.2.1 .nil An (Aa (pv 0) (Aa (pv 2) Ab))) Ab)))) Ab)) Ab)))),?_⟩
  have hsum:((Bb c sz).map (·.2)).sum=sz.sum:=by rw [Bm]
  have h305:=Ep O
  rw [hsum] at h305
  refine ⟨_,rfl,_,rfl,_,rfl,_,rfl,x,Bb c sz,CJ c kbs,n,rfl,O,hn,?_⟩
  rw [hsum,Nq hnt]
  refine ⟨x,c,sz,kbs,D,n,rfl,O,hkb,hn,hnt,fun W kvs js H1 hW s1 hw hkv nd _ hj=>?_⟩
  have hlt:∀ j∈js,j<sz.sum:=fun j h=>by
   have:=((hj j).mp h).lt
   rw [hsum] at this
   exact this
  have hjl:=Ec sz.sum nd hlt
  have hkv':kvs.map (·.1)=(js.map fun j:Nat=>(j:Int)).map Sum.inl:=by rw [hkv,bo]; rfl
  refine ⟨W,kvs,_,rfl,hw,hkv',fun l hl=>?_⟩
  have ev:(js.map fun j:Nat=>(j:Int)).map V.int=nV js:=by rw [bo]; rfl
  rw [ev]
  refine ⟨l,js,rfl,Ah,by omega,fun j h=>by have:=hlt j h; omega,fun H2 s2=>?_⟩
  refine q (Wd.mk js) H2 ((s1.trans (A_ hl)).trans s2) fun j=>?_
  rw [Wd.LC,decide_eq_true_eq]
  exact hj j
theorem Ld {X:Cx} {K:W.Frag} (h:X.K=K):Gv X (compareOp .NotIn) (jO K true):=h ▸ Mz
theorem Uz (l:List Nat):(nV l).all Ij=true:=fN.mpr fun v hv=>by
 obtain ⟨n,_,rfl⟩:=aI.mp hv
 rfl
theorem RC (j:Nat) (js:List Nat):inV (.int (j:Nat)) (nV js)=decide (j∈js):=by
 rw [fw,decide_eq_true_eq]
 unfold inV
 rw [gy]
 constructor
 ·rintro ⟨y,hy,e⟩
  obtain ⟨n,hn,rfl⟩:=aI.mp hy
  have e':(((n:Nat):Int) == ((j:Nat):Int))=true:=e
  have e2:((n:Nat):Int)=(j:Nat):=eq_of_beq e'
  have:n=j:=by omega
  subst this
  exact hn
 ·intro h
  exact ⟨_,List.mem_map_of_mem h,by show (((j:Nat):Int) == ((j:Nat):Int))=true; exact beq_self_eq_true _⟩
theorem mJ:Aw ["self","knob"] ["self","knob"] (Af nC):=Bo
include N T in
theorem bH:Av P w K mg base Bg 2 aD.fOm aD.dOm ["self","knob"] (Qi C):=by
 refine N.FOm.1.ok mJ (fun vs H Q E h=>?_) (fun cdv A outer s H vs Q E hr h=>?_)
 ·refine byC fun w_=>?_;obtain ⟨x,bs,ks,k,j1,b1,wd,nm,rs,rfl,_⟩:=h;refine w_ ?_
  rfl
 ·refine byC fun w_=>?_;obtain ⟨x,bs,ks,k,j1,b1,wd,nm,rs,rfl,O,hk,hb1,q⟩:=h;refine w_ ?_
  refine ⟨_,(Ai (Ay (Cw (pv 0) T.cl N.FBk.2.2 (Qs N T) (ad hr) N.FBk.2.1 .nil An (Aa (pv 1) Ab)))),?_⟩
  refine byC fun w_=>?_;obtain ⟨⟨dx,fs,bl,bn,kp,kr,bvs,pvs,uvs,kvs,h1,l1,l2,l3,l4,lm,h2,h3,h4,h5,h6,h7,h8,h9⟩,ob5,osz,onk⟩:=id O;refine w_ ?_
  exact ⟨_,rfl,x,dx,fs,rfl,h1,lm _ (by decide +kernel),_,rfl,x,bs,ks,k,j1,b1,wd,nm,rs,rfl,O,hk,hb1,q⟩
noncomputable def Wq (C:Addr):Sp:=fun vs H Q _=>∃ (x:Addr) (bs:List (Str × Nat)) (rk:List (Str × Nat × Int)) (ks:List R) (ls:List (List Ln)) (k j1:Nat) (b1:Str × Nat) (wd nm:Str) (rs:List V) (l:List Ln),vs=[.ref x,.int (k:Nat)]/\CN C H x bs rk ks ls/\ks[k]? = some ⟨wd,nm,.str b1.1::rs⟩/\bs[j1]? = some b1/\ls[k]? = some l /\
 ∀ (T0 L0:Addr) (ts:List V) H',H L0=none->Ao H H'->H' T0=some (.tup [.int (j1:Nat),.ref L0])->H' L0=some (.lst ts)->Paired (fun x y=>TupAt H' (ao x) y) l ts->Q (.ref T0) H'
theorem m5:Aw ["self","knob"] ["self","knob"] (Af nW):=Bo
include N T in
theorem VL:Av P w K mg base Bg 2 aD.fOs aD.dOs ["self","knob"] (Wq C):=by
 refine N.FOs.1.ok m5 (fun vs H Q E h=>?_) (fun cdv A outer s H vs Q E hr h=>?_)
 ·refine byC fun w_=>?_;obtain ⟨x,bs,rk,ks,ls,k,j1,b1,wd,nm,rs,l,rfl,_⟩:=h;refine w_ ?_
  rfl
 ·refine byC fun w_=>?_;obtain ⟨x,bs,rk,ks,ls,k,j1,b1,wd,nm,rs,l,rfl,O,hk,hb1,hl,q⟩:=h;refine w_ ?_
  refine ⟨_,(Ai (Ay (Ck (Aa (Cw (pv 0) T.cl N.FBk.2.2 (Qs N T) (ad hr) N.FBk.2.1 .nil An (Aa (pv 1) Ab)) (Aa (Eb Eu rfl T.list eR (Aa (Am (Bv (K:=K) rfl) (Cu (pv 0) rfl) (pv 1) (fun _ _=>rfl)) Ab)) Ab))))),?_⟩
  refine byC fun w_=>?_;obtain ⟨⟨dx,fs,bl,bn,kp,kr,bvs,pvs,uvs,kvs,h1,l1,l2,l3,l4,lm,h2,h3,h4,h5,h6,h7,h8,h9⟩,ob5,osz,onk⟩:=id O.o;refine w_ ?_
  refine byC fun w_=>?_;obtain ⟨dx',fs',rl,rn,pp,kl,rvs,qvs,kvs',g1,m1,m2,m3,m4,g2,g3,g4,g5,g6,g7,lv,g8,g9⟩:=id O.r;refine w_ ?_
  obtain ⟨e1,e2⟩:dx'=dx/\fs'=fs:=by rw [h1] at g1; cases g1; exact ⟨rfl,rfl⟩
  subst e1 e2
  refine byC fun w_=>?_;obtain ⟨y,hy,A,ts,rfl,hA,htp⟩:=CQ g9 hl;refine w_ ?_
  refine ⟨_,rfl,x,_,_,rfl,h1,lm _ (by decide +kernel),_,rfl,x,bs,ks,k,j1,b1,wd,nm,rs,rfl,O.o,hk,hb1,?_⟩
  refine ⟨_,rfl,x,C,_,_,_,rfl,h1,T.cl,T.n_knob_lines,m4,_,rfl,kl,lv,_,_,rfl,rfl,kR g8,Ag hy,A,ts,rfl,kR (.inl hA),fun L0 hL0=>?_⟩
  obtain ⟨H1,eqH,t1,u1⟩:=Ft (o:=HO.lst ts) hL0
  rw [eqH]
  refine ⟨by show 2<=sizeLine; decide,fun T0 hT0=>?_⟩
  have t2:=A_ (o:=HO.tup [.int (j1:Nat),.ref L0]) hT0
  exact q T0 L0 ts _ hL0 (t1.trans t2) Ah (t2 _ _ u1) (Al (t1.trans t2) htp)
noncomputable def iC (C:Addr):Sp:=fun vs H Q _=>∃ (x:Addr) (bs:List (Str × Nat)) (rk:List (Str × Nat × Int)) (ks:List R) (ls:List (List Ln)),vs=[.ref x]/\CN C H x bs rk ks ls/\∀ D rvs H',H D=none->Ao H H'->H' D=some (.lst rvs)->Paired (fun (a:Th) y=>TupAt H' (tV a) y) (rk.map Uh) rvs->Q (.ref D) H'
theorem lq:Aw ["self"] ["self"] (Af mH):=Bo
include N T in
theorem fJ:Av P w K mg base Bg 1 aD.fOr aD.dOr ["self"] (iC C):=by
 refine N.FOr.1.ok lq (fun vs H Q E h=>?_) (fun cdv A outer s H vs Q E hr h=>?_)
 ·refine byC fun w_=>?_;obtain ⟨x,bs,rk,ks,ls,rfl,_⟩:=h;refine w_ ?_
  rfl
 ·refine byC fun w_=>?_;obtain ⟨x,bs,rk,ks,ls,rfl,O,q⟩:=h;refine w_ ?_
  refine ⟨_,(Ai (Ay (Eb Eu rfl T.list eR (Aa (Cu (pv 0) rfl) Ab)))),?_⟩
  refine byC fun w_=>?_;obtain ⟨⟨dx,fs,bl,bn,kp,kr,bvs,pvs,uvs,kvs,h1,l1,l2,l3,l4,lm,h2,h3,h4,h5,h6,h7,h8,h9⟩,ob5,osz,onk⟩:=id O.o;refine w_ ?_
  refine byC fun w_=>?_;obtain ⟨dx',fs',rl,rn,pp,kl,rvs,qvs,kvs',g1,m1,m2,m3,m4,g2,g3,g4,g5,g6,g7,lv,g8,g9⟩:=id O.r;refine w_ ?_
  obtain ⟨e1,e2⟩:dx'=dx/\fs'=fs:=by rw [h1] at g1; cases g1; exact ⟨rfl,rfl⟩
  subst e1 e2
  exact ⟨_,rfl,x,C,_,_,_,rfl,h1,T.cl,T.n_rank_list,m1,rl,rvs,rfl,kR (.inl g2),fun l hl=>q l rvs _ hl (A_ hl) Ah (Al (A_ hl) g3)⟩
noncomputable def h_ (C:Addr):Sp:=fun vs H Q _=>∃ (x:Addr) (bs:List (Str × Nat)) (rk:List (Str × Nat × Int)) (ks:List R) (ls:List (List Ln)),vs=[.ref x]/\CN C H x bs rk ks ls/\Q (.int ((Ez (rk.map SN)).length:Nat)) H
theorem mV:Aw ["self"] ["self"] (Af pQ):=Bo
include N T in
theorem b_:Av P w K mg base Bg 1 aD.fOq aD.dOq ["self"] (h_ C):=by
 refine N.FOq.1.ok mV (fun vs H Q E h=>?_) (fun cdv A outer s H vs Q E hr h=>?_)
 ·refine byC fun w_=>?_;obtain ⟨x,bs,rk,ks,ls,rfl,_⟩:=h;refine w_ ?_
  rfl
 ·refine byC fun w_=>?_;obtain ⟨x,bs,rk,ks,ls,rfl,O,q⟩:=h;refine w_ ?_
  refine ⟨_,(Ai (Ay (BP BV rfl T.len bX (Aa (Cu (pv 0) rfl) Ab)))),?_⟩
  refine byC fun w_=>?_;obtain ⟨⟨dx,fs,bl,bn,kp,kr,bvs,pvs,uvs,kvs,h1,l1,l2,l3,l4,lm,h2,h3,h4,h5,h6,h7,h8,h9⟩,ob5,osz,onk⟩:=id O.o;refine w_ ?_
  refine byC fun w_=>?_;obtain ⟨dx',fs',rl,rn,pp,kl,rvs,qvs,kvs',g1,m1,m2,m3,m4,g2,g3,g4,g5,g6,g7,lv,g8,g9⟩:=id O.r;refine w_ ?_
  obtain ⟨e1,e2⟩:dx'=dx/\fs'=fs:=by rw [h1] at g1; cases g1; exact ⟨rfl,rfl⟩
  subst e1 e2
  refine ⟨_,rfl,x,C,_,_,_,rfl,h1,T.cl,T.n_pipe_places,m3,pp,qvs,rfl,kR (.inl g6),?_⟩
  rw [← g7.length]
  exact q
noncomputable def bU (C:Addr):Sp:=fun vs H Q _=>∃ (x:Addr) (bs:List (Str × Nat)) (rk:List (Str × Nat × Int)) (ks:List R) (ls:List (List Ln)) (j:Nat) (r:Str × Nat × Int) (n:Int),vs=[.ref x,.str r.1,.int n]/\CN C H x bs rk ks ls/\rk[j]? = some r/\∀ H',Ao H H'->Q (.int ((((rk.take j).map (fun r=>r.2.1)).sum:Nat)+n)) H'
theorem kW:Aw ["self","rank","number"] ["self","rank","number"] (Af m9):=Bo
include N T in
theorem dU:Av P w K mg base Bg 2 aD.fOe aD.dOe ["self","rank","number"] (bU C):=by
 refine N.FOe.1.ok kW (fun vs H Q E h=>?_) (fun cdv A outer s H vs Q E hr h=>?_)
 ·refine byC fun w_=>?_;obtain ⟨x,bs,rk,ks,ls,j,r,n,rfl,_⟩:=h;refine w_ ?_
  rfl
 ·refine byC fun w_=>?_;obtain ⟨x,bs,rk,ks,ls,j,r,n,rfl,O,hb,q⟩:=h;refine w_ ?_
  have hu:=Ei hr
  refine ⟨_,(Ai (Ay (BK B_ (Aj (Xu N T) (ad hr) rfl N.FCa.2.2 N.FCa.1.kp N.FCa.2.1 .nil An (Aa (FW G4 (Cu (pv 0) rfl) Gw (Fx (Bk hu (Cu (pv 0) rfl) (pv 1) (fun _ _=>rfl)))) Ab)) (pv 2)))),?_⟩
  refine byC fun w_=>?_;obtain ⟨⟨dx,fs,bl,bn,kp,kr,bvs,pvs,uvs,kvs,h1,l1,l2,l3,l4,lm,h2,h3,h4,h5,h6,h7,h8,h9⟩,ob5,osz,onk⟩:=id O.o;refine w_ ?_
  refine byC fun w_=>?_;obtain ⟨dx',fs',rl,rn,pp,kl,rvs,qvs,kvs',g1,m1,m2,m3,m4,g2,g3,g4,g5,g6,g7,lv,g8,g9⟩:=id O.r;refine w_ ?_
  obtain ⟨e1,e2⟩:dx'=dx/\fs'=fs:=by rw [h1] at g1; cases g1; exact ⟨rfl,rfl⟩
  subst e1 e2
  have hj:j<rk.length:=(ah.mp hb).1
  have hl:=g3.length
  rw [ai] at hl
  have g:=Ey.k (k:=Sum.inr r.1) g4
  rw [g5 j r hb] at g
  refine ⟨_,rfl,x,C,_,_,_,rfl,h1,T.cl,T.n_rank_list,m1,_,rfl,x,C,_,_,_,rfl,h1,T.cl,T.n_rank_numbers,m2,_,rfl,rn,_,rfl,g,_,rfl,rl,rvs,rfl,kR g2,fun p6 hp6=>?_⟩
  have s6:=A_ (o:=HO.lst (Fi rvs none (some (j:Int)))) hp6
  have a6:upd H p6 (HO.lst (Fi rvs none (some (j:Int)))) p6=_:=Ah
  generalize upd H p6 (HO.lst (Fi rvs none (some (j:Int))))=H6 at s6 a6 ⊢
  rw [Ja rvs j (by omega)] at a6
  refine ⟨p6,(rk.map Uh).take j,rvs.take j,rfl,a6,Hk (Al s6 g3) j,(by rw [dS,ai]; have:=O.nr; omega),(fun a ha=>by obtain ⟨r',hr',rfl⟩:=aI.mp (hZ ha); exact bE (O.nz r' hr') (by decide)),fun H7 s7=>?_⟩
  have e7:(((rk.map Uh).take j).map fun a=>a.2.1)=(rk.take j).map (fun r=>r.2.1):=by
   rw [← fT,bo]
   rfl
  rw [e7]
  exact ⟨_,rfl,_,_,rfl,rfl,q H7 (s6.trans s7)⟩
noncomputable def Tw (l:List Nat):Nat:=l.foldl (· ||| ·) 0
theorem O_ (l:List Nat) (n:Nat):Tw (l++[n])=Tw l ||| n:=by
 unfold Tw
 rw [List.foldl_append]
 rfl
theorem JM:∀ (l:List Nat) (i:Nat),(Tw l).testBit i=true ↔ ∃ n∈l,n.testBit i=true:=by
 have key:∀ (k:Nat) (l:List Nat) (i:Nat),l.length=k->((Tw l).testBit i=true ↔ ∃ n∈l,n.testBit i=true):=by
  intro k
  induction k with
  | zero =>
   intro l i h
   cases l with
   | nil=>exact ⟨fun z=>absurd z (by unfold Tw; rw [List.foldl_nil,Nat.zero_testBit]; decide),fun ⟨n,hn,_⟩=>nomatch hn⟩
   | cons a b=>cases h
  | succ k ih =>
   intro l i h
   obtain ⟨a,z,rfl⟩:=Fd (l:=l) (by intro e; rw [e] at h; cases h)
   rw [av,bq] at h
   rw [O_,Uq,ih a i (by omega)]
   constructor
   ·rintro (⟨n,hn,hb⟩ | hb)
    ·exact ⟨n,bi _ hn,hb⟩
    ·exact ⟨z,by simp,hb⟩
   ·rintro ⟨n,hn,hb⟩
    rcases ba.mp hn with h | h
    ·exact .inl ⟨n,h,hb⟩
    ·rw [aS.mp h] at hb
     exact .inr hb
 exact fun l i=>key l.length l i rfl
noncomputable def WF:Sp:=fun vs H Q _=>∃ (p:Addr) (l:List Nat),vs=[.ref p]/\H p=some (.lst (nV l))/\l.length<=500/\Q (.int (Tw l:Nat)) H
theorem WT:Aw ["sets","some","each"] ["sets"] (Af lU):=Bo
include N T in
theorem Vl:Av P w K mg base Bg 1 aD.fUn aD.dUn ["sets"] WF:=by
 refine N.FUn.1.ok WT (fun vs H Q E h=>?_) (fun cdv A outer s H vs Q E hr h=>?_)
 ·obtain ⟨p,l,rfl,_⟩:=h
  rfl
 ·refine byC fun w_=>?_;obtain ⟨p,l,rfl,hp,hz,q⟩:=h;refine w_ ?_
  refine ⟨_,(Ac (Bh (i:=1) WT.nd rfl (Or.inl rfl) Ae)
   (Ac (C_ PassesOwn.never rfl (Bp (pv 0)) (BZ (i:=2) WT.nd rfl (Or.inl rfl)) (Ai (Bh (i:=1) WT.nd rfl (Or.inl rfl) (BK Lw (pv 1) (pv 2)))))
   (Ai (Ay (pv 1))))),?_⟩
  have hS:Cz K H p (nV l):=.inl (.inl hp)
  refine ⟨_,rfl,p,rfl,⟨_,hS⟩,Eo (K:=K) (a:=p) (xs:=nV l) (fun i σ H4=>H4=H/\∃ v2,σ=[some (.ref p),some (.int (Tw (l.take i):Nat)),v2]) ⟨rfl,_,rfl⟩ (fun i σ H4 _ h=>by rw [h.1]; exact hS) ?_ ?_⟩
  ·rintro i y σ H4 hi ⟨rfl,v2,rfl⟩
   rw [ar] at hi
   obtain ⟨n,hn,rfl⟩:=bb.mp hi
   refine ⟨_,rfl,_,rfl,_,_,rfl,rfl,?_⟩
   refine ⟨rfl,some (.int (n:Int)),?_⟩
   dsimp only
   rw [Hv,dl,hn]
   show _=[some (V.ref p),some (V.int ((Tw (l.take i++[n]):Nat):Int)),_]
   rw [O_]
   rfl
  ·rintro σ H4 ⟨rfl,v2,rfl⟩
   have el:l.take (nV l).length=l:=List.take_of_length_le (by simp)
   rw [el]
   exact ⟨_,rfl,q⟩
noncomputable def DY (kbs:List Kb) (k:Nat):Nat:=match kbs[k]? with
 | some (.pl _ b)=>b
 | some (.cp b _ _)=>b
 | none=>0
theorem JR {c:Nat->Str} {kbs:List Kb} {k:Nat} {r:R} (h:(CJ c kbs)[k]? = some r):∃ rs,r=⟨r.w,r.nm,.str (c (DY kbs k))::rs⟩:=by
 obtain ⟨z,hz,rfl⟩:=FQ h
 unfold DY
 rw [hz]
 cases z with
 | cp i j s=>exact ⟨_,rfl⟩
 | pl w i=>exact ⟨_,rfl⟩
theorem Js {n:Nat} {kbs:List Kb} {k:Nat} {z:Kb} (h:Nz n kbs) (hz:kbs[k]? = some z):DY kbs k<n:=by
 have ho:=h.ok z (ay hz)
 unfold DY
 rw [hz]
 cases z with
 | cp i j s=>exact ho.1
 | pl w i=>exact ho.1
noncomputable def JX (kbs:List Kb) (D b:Nat):Prop:=∃ (k:Nat) (z:Kb),kbs[k]? = some z/\z.w = "mute" /\ D.testBit k=true/\DY kbs k=b
noncomputable def Zx (C:Addr):Sp:=fun vs H Q _=>∃ (x:Addr) (c:Nat->Str) (sz:List Nat) (kbs:List Kb) (D:Nat),vs=[.ref x,.int (D:Nat)]/\Dd C H x (Bb c sz) (CJ c kbs)/\Nz sz.length kbs/\∀ L (ml:List Nat) H',H L=none->Ao H H'->H' L=some (.lst (nV ml))->(∀ b,b∈ml ↔ JX kbs D b)->ml.length<=200->Q (.ref L) H'
theorem nY:Aw ["organ","knobs"] ["organ","knobs"] (Af jY):=Bo
include N T in
theorem YX:Av P w K mg base Bg 3 aD.fMu aD.dMu ["organ","knobs"] (Zx C):=by
 refine N.FMu.1.ok nY (fun vs H Q E h=>?_) (fun cdv A outer s H vs Q E hr h=>?_)
 ·refine byC fun w_=>?_;obtain ⟨x,c,sz,kbs,D,rfl,_⟩:=h;refine w_ ?_
  rfl
 ·refine byC fun w_=>?_;obtain ⟨x,c,sz,kbs,D,rfl,O,hkb,q⟩:=h;refine w_ ?_
  refine ⟨_,(Ai (Ay (Bu rfl (Be (osc:=Af jY) (N:=["organ","knobs"]) rfl rfl (by decide +kernel)) (Bp (Aj (O7 N T) (ad hr) rfl N.FDc.2.2 N.FDc.1.kp N.FDc.2.1 .nil An (Aa (pv 0) (Aa (pv 1) (Aa BR Ab))))) (fun _ _ _ _=>CW) (fun _ _ _ _=>(Cw (pv 1) T.cl N.FOm.2.2 (bH N T) (ad hr) N.FOm.2.1 .nil An (Aa (pv 0) Ab)))))),?_⟩
  refine ⟨_,rfl,_,rfl,x,Bb c sz,CJ c kbs,"mute",D,rfl,O,fun CL cl H1 hCL s1 hl1 hcl hcll=>?_⟩
  have hS1:Cz K H1 CL (nV cl):=.inl (.inl hl1)
  have O1:=O.mono s1
  let g:V->V:=fun v=>match v with | .int k=>.int (DY kbs k.toNat:Nat) | _=>.non
  refine ⟨CL,rfl,⟨_,hS1⟩,Cv (K:=K) (xs:=nV cl) (fun _=>true) g hS1 (BJ (by rw [ai]; omega)) (fun y hy H' hs R k=>k H' (Ao.refl H')) (fun y hy _ H' hs R k=>?_) (fun D2 H2 hD2 s2 hl2=>?_)⟩
  ·obtain ⟨i,hi,rfl⟩:=aI.mp hy
   obtain ⟨r,hr,hw,hd⟩:=(hcl i).mp hi
   obtain ⟨rs,er⟩:=JR hr
   rw [er] at hr
   obtain ⟨z,hz,_⟩:=FQ hr
   have hb:=Js hkb hz
   refine byC fun w_=>?_;obtain ⟨⟨dx,fs,bl,bn,kp,kr,bvs,pvs,uvs,kvs,h1,l1,l2,l3,l4,lm,_⟩,_⟩:=id (O1.mono hs);refine w_ ?_
   have kk:=k H' (Ao.refl H')
   refine ⟨_,rfl,x,dx,fs,rfl,h1,lm _ (by decide +kernel),_,rfl,x,Bb c sz,CJ c kbs,i,DY kbs i,(c (DY kbs i),sz[DY kbs i]),_,_,rs,rfl,O1.mono hs,hr,DR (ae hb),kk⟩
  ·rw [bt.mpr (fun _ _=>rfl)] at hl2
   have e:(nV cl).map g=nV (cl.map (DY kbs)):=by
    unfold nV
    rw [bo,bo]
    rfl
   rw [e] at hl2
   refine q D2 _ H2 (s1.free hD2) (s1.trans s2) hl2 (fun b=>?_) (by rw [ai]; exact hcll)
   rw [aI]
   constructor
   ·rintro ⟨k,hk,rfl⟩
    obtain ⟨r,hr,hw,hd⟩:=(hcl k).mp hk
    obtain ⟨z,hz,rfl⟩:=FQ hr
    exact ⟨k,z,hz,(Gf _ _ _).symm.trans hw,hd,rfl⟩
   ·rintro ⟨k,z,hz,hw,hd,rfl⟩
    exact ⟨k,(hcl k).mpr ⟨_,Do hz,(Gf _ _ _).trans hw,hd⟩,rfl⟩
noncomputable def V4 (sz:List Nat) (i b:Nat):Prop:=∃ n,n<sz.getD b 0/\b<sz.length/\i=(sz.take b).sum+n
theorem Qh {c:Nat->Str} {sz:List Nat} {i a n:Nat} (h:(Ez (Bb c sz))[i]? = some (a,n)):V4 sz i a:=by
 obtain ⟨b,hb,hn,hi⟩:=Rb h
 obtain ⟨z,hz,rfl⟩:=TJ hb
 rw [Bm] at hi
 refine ⟨n,?_,(ah.mp hz).1,hi⟩
 rw [ax,hz]
 exact hn
theorem K8 {sz:List Nat} {i a b:Nat} (h1:V4 sz i a) (h2:V4 sz i b):a=b:=by
 obtain ⟨n,hn,ha,rfl⟩:=h1
 obtain ⟨m,hm,hb,e⟩:=h2
 have key:∀ {a b n m:Nat},a<b->b<sz.length->n<sz.getD a 0->(sz.take a).sum+n ≠ (sz.take b).sum+m:=fun {a b n m} hab hb hn e=>by
  have h1:(sz.take (a+1)).sum<=(sz.take b).sum:=Mr sz (by omega)
  have ha:a<sz.length:=by omega
  rw [dl,ae ha,fo] at h1
  rw [ax,ae ha] at hn
  have hn':n<sz[a]:=hn
  simp at h1
  omega
 rcases Nat.lt_trichotomy a b with h | h | h
 ·exact absurd e (key h hb hn)
 ·exact h
 ·exact absurd e.symm (key h ha hm)
noncomputable def ZK (C:Addr):Sp:=fun vs H Q _=>∃ (x:Addr) (c:Nat->Str) (sz:List Nat) (kbs:List Kb) (D n:Nat),vs=[.ref x,.int (D:Nat),.int (n:Nat)]/\Dd C H x (Bb c sz) (CJ c kbs)/\Nz sz.length kbs/\n<2 ^ 1200/\(∀ i,n.testBit i=true->i<sz.sum)/\sz.sum<=305 /\
 ∀ (m:Nat) H',Ao H H'->(∀ j,m.testBit j=true ↔ n.testBit j=true/\∀ b,V4 sz j b->¬ JX kbs D b)->Q (.int (m:Nat)) H'
theorem cO:Aw ["organ","knobs","keys","muted"] ["organ","knobs","keys"] (Af jm):=Bo
include N T in
theorem YQ:Av P w K mg base Bg 4 aD.fUk aD.dUk ["organ","knobs","keys"] (ZK C):=by
 refine N.FUk.1.ok cO (fun vs H Q E h=>?_) (fun cdv A outer s H vs Q E hr h=>?_)
 ·refine byC fun w_=>?_;obtain ⟨x,c,sz,kbs,D,n,rfl,_⟩:=h;refine w_ ?_
  rfl
 ·refine byC fun w_=>?_;obtain ⟨x,c,sz,kbs,D,n,rfl,O,hkb,hn,hnt,h305,q⟩:=h;refine w_ ?_
  refine ⟨_,(Ac (Bh (i:=3) cO.nd rfl (Or.inr rfl) (Aj (YX N T) (ad hr) rfl N.FMu.2.2 N.FMu.1.kp N.FMu.2.1 .nil An (Aa (pv 0) (Aa (pv 1) Ab))))
   (Ai (Ay (Aj (RL N T) (ad hr) rfl N.FSt.2.2 N.FSt.1.kp N.FSt.2.1 .nil An (Aa (Bu rfl (Be (osc:=Af jm) (N:=["organ","knobs","keys","muted"]) rfl rfl (by decide +kernel)) (Bp (Aj (X_ N T) (ad hr) rfl N.FMe.2.2 N.FMe.1.kp N.FMe.2.1 .nil An (Aa (pv 2) Ab))) (fun _ _ _ _=>(G3 (BX (Ld (K:=K) rfl) (Am (Aq (K:=K) rfl) (Cw (pv 1) T.cl N.FOo.2.2 (X4 N T) (ad hr) N.FOo.2.1 .nil An (Aa (pv 0) Ab)) Ae (fun _ _=>rfl)) (pv 4) rfl))) (fun _ _ _ _=>(pv 0))) Ab))))),?_⟩
  refine ⟨_,rfl,_,rfl,x,c,sz,kbs,D,rfl,O,hkb,fun ML ml H1 hML s1 hl1 hml hmll=>?_⟩
  refine ⟨_,rfl,n,rfl,hn,fun P1 H2 hP1 s2 hl2=>?_⟩
  have hS2:Cz K H2 P1 (nV (Wd.mem n)):=.inl (.inl hl2)
  have O2:=O.mono (s1.trans s2)
  have hlen:=Wd.NK hn
  have hml1:(Wd.mem n).length<=305:=by
   have nd:(Wd.mem n).Nodup:=by unfold Wd.mem; exact List.Pairwise.filter _ List.nodup_range
   refine bE (Ec sz.sum nd fun i hi=>hnt i (Wd.mem_iff.mp hi)) h305
  have place:∀ {i},i∈Wd.mem n->∃ a m,(Ez (Bb c sz))[i]? = some (a,m):=fun {i} hi=>by
   have hlt:i<(Ez (Bb c sz)).length:=by rw [Ed,Bm]; exact hnt i (Wd.mem_iff.mp hi)
   exact ⟨_,_,ae hlt⟩
  let p:V->Bool:=fun v=>match v with | .int i=>(match (Ez (Bb c sz))[i.toNat]? with | some (a,_)=>!decide (a∈ml) | none=>true) | _=>true
  refine ⟨P1,rfl,⟨_,hS2⟩,Cv (K:=K) (xs:=nV (Wd.mem n)) p id hS2 (BJ (by rw [ai]; omega)) (fun y hy H' hs R k=>?_) (fun y hy _ H' hs R k=>⟨_,rfl,k H' (Ao.refl H')⟩) (fun D3 H3 hD3 s3 hl3=>?_)⟩
  ·obtain ⟨i,hi,rfl⟩:=aI.mp hy
   obtain ⟨a,m,hpl⟩:=place hi
   have ep:p (V.int (i:Nat)) = !decide (a∈ml):=by
    show (match (Ez (Bb c sz))[((i:Nat):Int).toNat]? with | some (a,_)=>!decide (a∈ml) | none=>true)=_
    rw [aT,hpl]
   have kk:=k H' (Ao.refl H')
   rw [ep] at kk
   refine byC fun w_=>?_;obtain ⟨⟨dx,fs,bl,bn,kp,kr,bvs,pvs,uvs,kvs,h1,l1,l2,l3,l4,lm,_⟩,_⟩:=id (O2.mono hs);refine w_ ?_
   refine ⟨_,rfl,x,dx,fs,rfl,h1,lm _ (by decide +kernel),_,rfl,x,Bb c sz,CJ c kbs,i,(a,m),rfl,O2.mono hs,hpl,fun yv hyv=>?_⟩
   obtain ⟨T0,rfl,hT⟩:=hyv
   refine ⟨T0,_,_,_,rfl,rfl,kR hT,Ag (j:=0) rfl,_,rfl,ML,_,rfl,.inl (kR (hs _ _ (s2 _ _ hl1))),rfl,Uz ml,_,rfl,?_⟩
   have ein:inV (V.int (a:Nat)) (nV ml)=decide (a∈ml):=RC a ml
   rw [ein]
   exact kk
  ·rw [kG] at hl3
   have e3:(nV (Wd.mem n)).filter p=nV ((Wd.mem n).filter fun i=>p (.int (i:Nat))):=by
    unfold nV
    rw [eS]
    rfl
   rw [e3] at hl3
   have hsub:∀ i∈(Wd.mem n).filter (fun i=>p (.int (i:Nat))),i<sz.sum:=fun i hi=>hnt i (Wd.mem_iff.mp (cq.mp hi).1)
   refine ⟨D3,_,rfl,hl3,bE (dt _ _) (by omega),fun i hi=>by have:=hsub i hi; omega,fun H4 s4=>?_⟩
   refine q _ H4 (s1.trans (s2.trans (s3.trans s4))) fun j=>?_
   rw [Wd.LC,decide_eq_true_eq,cq,Wd.mem_iff]
   constructor
   ·rintro ⟨h1,h2⟩
    refine ⟨h1,fun b hb hm=>?_⟩
    obtain ⟨a,m,hpl⟩:=place (Wd.mem_iff.mpr h1)
    have ep:p (V.int (j:Nat)) = !decide (a∈ml):=by
     show (match (Ez (Bb c sz))[((j:Nat):Int).toNat]? with | some (a,_)=>!decide (a∈ml) | none=>true)=_
     rw [aT,hpl]
    rw [ep] at h2
    have hba:=K8 hb (Qh hpl)
    subst hba
    rw [decide_eq_true ((hml b).mpr hm)] at h2
    cases h2
   ·rintro ⟨h1,h2⟩
    refine ⟨h1,?_⟩
    obtain ⟨a,m,hpl⟩:=place (Wd.mem_iff.mpr h1)
    have ep:p (V.int (j:Nat)) = !decide (a∈ml):=by
     show (match (Ez (Bb c sz))[((j:Nat):Int).toNat]? with | some (a,_)=>!decide (a∈ml) | none=>true)=_
     rw [aT,hpl]
    rw [ep,decide_eq_false fun z=>h2 a (Qh hpl) ((hml a).mp z)]
    rfl
noncomputable def HS (c:Nat->Str) (sz:List Nat) (kbs:List Kb) (D n j:Nat):Prop:=JB (stp (Bb c sz) kbs D) (fun i=>n.testBit i=true) j \/ (n.testBit j=true/\∀ b,V4 sz j b->¬ JX kbs D b)
noncomputable def ZF (C:Addr):Sp:=fun vs H Q _=>∃ (x:Addr) (c:Nat->Str) (sz:List Nat) (kbs:List Kb) (D n:Nat),vs=[.ref x,.int (D:Nat),.int (n:Nat)]/\Dd C H x (Bb c sz) (CJ c kbs)/\Nz sz.length kbs/\n<2 ^ 1200/\(∀ i,n.testBit i=true->i<sz.sum) /\
 ∀ (m:Nat) H',Ao H H'->(∀ j,m.testBit j=true ↔ HS c sz kbs D n j)->Q (.int (m:Nat)) H'
theorem m6:Aw ["organ","knobs","held"] ["organ","knobs","held"] (Af ou):=Bo
include N T in
theorem Xv:Av P w K mg base Bg 6 aD.fSk aD.dSk ["organ","knobs","held"] (ZF C):=by
 refine N.FSk.1.ok m6 (fun vs H Q E h=>?_) (fun cdv A outer s H vs Q E hr h=>?_)
 ·refine byC fun w_=>?_;obtain ⟨x,c,sz,kbs,D,n,rfl,_⟩:=h;refine w_ ?_
  rfl
 ·refine byC fun w_=>?_;obtain ⟨x,c,sz,kbs,D,n,rfl,O,hkb,hn,hnt,q⟩:=h;refine w_ ?_
  refine ⟨_,(Ai (Ay (BK Lw (Aj (dm N T) (ad hr) rfl N.FCq.2.2 N.FCq.1.kp N.FCq.2.1 .nil An (Aa (pv 0) (Aa (pv 1) (Aa (pv 2) Ab)))) (Aj (YQ N T) (ad hr) rfl N.FUk.2.2 N.FUk.1.kp N.FUk.2.1 .nil An (Aa (pv 0) (Aa (pv 1) (Aa (Aj (Vc N T) (ad hr) rfl N.FHk.2.2 N.FHk.1.kp N.FHk.2.1 .nil An (Aa (pv 0) (Aa (pv 2) Ab))) Ab))))))),?_⟩
  have hsum:((Bb c sz).map (·.2)).sum=sz.sum:=by rw [Bm]
  have h305:=Ep O
  rw [hsum] at h305
  refine ⟨_,rfl,_,rfl,_,rfl,x,c,sz,kbs,D,n,rfl,O,hkb,hn,hnt,fun m1 H1 s1 hm1=>?_⟩
  refine ⟨_,rfl,_,rfl,_,rfl,_,rfl,x,Bb c sz,CJ c kbs,n,rfl,O.mono s1,hn,?_⟩
  rw [hsum,Nq hnt]
  refine ⟨x,c,sz,kbs,D,n,rfl,O.mono s1,hkb,hn,hnt,h305,fun m2 H2 s2 hm2=>?_⟩
  refine ⟨_,_,rfl,rfl,?_⟩
  show Q (.int (Builtin.bitOr (m1:Int) (m2:Int))) H2
  rw [Hv]
  refine q (m1 ||| m2) H2 (s1.trans s2) fun j=>?_
  rw [Uq,hm1,hm2]
  rfl
noncomputable def PQ (sz:List Nat) (b n:Nat):Nat:=Wd.mv n (-((sz.take b).sum:Int)) (sz.getD b 0)
theorem Q7 (n:Nat) (k:Int) (c:Nat):Wd.mv n k c<2 ^ c:=by
 unfold Wd.mv
 exact Nat.mod_lt _ (Nat.two_pow_pos _)
noncomputable def Yh (C:Addr):Sp:=fun vs H Q _=>∃ (x:Addr) (c:Nat->Str) (sz:List Nat) (ks:List R) (b n:Nat),vs=[.ref x,.int (b:Nat),.int (n:Nat)]/\Dd C H x (Bb c sz) ks/\b<sz.length/\n<2 ^ 1200/\∀ H',Ao H H'->Q (.int (PQ sz b n:Nat)) H'
theorem eF:Aw ["organ","board","keys","told"] ["organ","board","keys"] (Af lA):=Bo
include N T in
theorem Xz:Av P w K mg base Bg 3 aD.fNb aD.dNb ["organ","board","keys"] (Yh C):=by
 refine N.FNb.1.ok eF (fun vs H Q E h=>?_) (fun cdv A outer s H vs Q E hr h=>?_)
 ·refine byC fun w_=>?_;obtain ⟨x,c,sz,ks,b,n,rfl,_⟩:=h;refine w_ ?_
  rfl
 ·refine byC fun w_=>?_;obtain ⟨x,c,sz,ks,b,n,rfl,O,hb,hn,q⟩:=h;refine w_ ?_
  refine ⟨_,(Ac (Bh (i:=3) eF.nd rfl (Or.inl rfl) (Am (Bv (K:=K) rfl) (Ew (pv 0) T.cl N.FOb.2.2 (Ul N T) (ad hr) N.FOb.2.1 .nil An) (pv 1) (fun _ _=>rfl)))
   (Ai (Ay (Aj (UJ N T) (ad hr) rfl N.FSh.2.2 N.FSh.1.kp N.FSh.2.1 .nil An (Aa (pv 2) (Aa (MT Jf (Cw (pv 0) T.cl N.FOk.2.2 (Vv N T) (ad hr) N.FOk.2.1 .nil An (Aa (Am (Aq (K:=K) rfl) (pv 3) Ae (fun _ _=>rfl)) (Aa Ae Ab)))) (Aa (Am (Aq (K:=K) rfl) (pv 3) Ae (fun _ _=>rfl)) Ab))))))),?_⟩
  have h305:=Ep O
  rw [Bm] at h305
  have hst:(sz.take b).sum<=sz.sum:=by
   have:=congrArg List.sum (eI b sz)
   rw [fo] at this
   omega
  have hbs:(Bb c sz)[b]? = some (c b,sz[b]):=DR (ae hb)
  have h61:=O.sz (c b,sz[b]) (ay hbs)
  have h61':sz[b]<=61:=h61
  have esum:(((Bb c sz).take b).map (·.2)).sum=(sz.take b).sum:=by rw [fT,Bm]
  have egd:sz.getD b 0=sz[b]:=by rw [ax,ae hb]; rfl
  have meth:∀ {H':Hp},Dd C H' x (Bb c sz) ks->∃ dx fs,H' x=some (.ins C dx fs)/\∀ m∈meths,fs.lookup m=none:=fun O'=>by
   refine byC fun w_=>?_;obtain ⟨⟨dx,fs,_,_,_,_,_,_,_,_,h1,_,_,_,_,lm,_⟩,_⟩:=O';refine w_ ?_
   exact ⟨dx,fs,h1,lm⟩
  obtain ⟨dx,fs,hx,lm⟩:=meth O
  refine ⟨_,rfl,x,dx,fs,rfl,hx,lm _ (by decide +kernel),x,Bb c sz,ks,rfl,O,fun D bvs H2 hD s2 hl2 hb2=>?_⟩
  refine byC fun w_=>?_;obtain ⟨v3,hv3,T3,rfl,ht3⟩:=CQ hb2 hbs;refine w_ ?_
  refine ⟨_,rfl,D,bvs,_,_,rfl,rfl,kR hl2,Ag hv3,?_⟩
  obtain ⟨dx2,fs2,hx2,lm2⟩:=meth (O.mono s2)
  refine ⟨_,rfl,_,rfl,x,dx2,fs2,rfl,hx2,lm2 _ (by decide +kernel),_,rfl,T3,_,_,_,rfl,rfl,kR ht3,Ag (j:=0) rfl,x,Bb c sz,ks,b,(c b,sz[b]),0,rfl,O.mono s2,hbs,fun H3 s3=>?_⟩
  refine ⟨_,rfl,_,rfl,T3,_,_,_,rfl,rfl,kR (s3 _ _ ht3),Ag (j:=1) rfl,n,_,sz[b],rfl,hn,?_,?_,by omega,?_⟩
  ·rw [esum]
   omega
  ·rw [esum]
   omega
  ·have fin:=q H3 (s2.trans s3)
   unfold PQ at fin
   rw [egd] at fin
   rw [esum,Int.add_zero]
   exact fin
noncomputable def Qw (rk:List (Str × Nat × Int)) (r:Nat):Nat:=((rk.take r).map (fun r=>r.2.1)).sum
noncomputable def J7 (rk:List (Str × Nat × Int)) (r:Nat):Nat:=(rk.map (fun r=>r.2.1)).getD r 0
noncomputable def Tj (rk:List (Str × Nat × Int)):Nat:=(rk.map (fun r=>r.2.1)).sum
structure Zc (rk:List (Str × Nat × Int)) (l:Ln):Prop where
 r:l.r<rk.length
 lo:0<=l.lo
 le:l.lo<=l.hi
 hi:l.hi<=60
 s1 : -200<=l.sh
 s2:l.sh<=200
noncomputable def Jy (rk:List (Str × Nat × Int)) (l:Ln) (n:Nat):Nat:=Wd.mv (Wd.mv (Wd.mv n (-l.lo) (l.hi - l.lo+1).toNat) (l.lo+l.sh) (J7 rk l.r)) (Qw rk l.r:Nat) (Tj rk)
theorem V0 {rk:List (Str × Nat × Int)} {r:Nat} (h:r<rk.length):Qw rk r+J7 rk r<=Tj rk:=by
 unfold Qw J7 Tj
 have e:((rk.map (fun r=>r.2.1)).take (r+1)).sum=((rk.take r).map (fun r=>r.2.1)).sum+(rk.map (fun r=>r.2.1)).getD r 0:=by
  rw [dl,ae (by rw [ai]; exact h),fo,fT,ax,ae (by rw [ai]; exact h)]
  simp
 have:=congrArg List.sum (eI (r+1) (rk.map (fun r=>r.2.1)))
 rw [fo] at this
 omega
theorem aL {rk:List (Str × Nat × Int)} (h1:rk.length<=12) (h2:∀ r∈rk,r.2.1<=97):Tj rk<=1164:=by
 have h:=NB (rk.map SN) 97 fun b hb=>by
  obtain ⟨r,hr,rfl⟩:=aI.mp hb
  exact h2 r hr
 rw [Ed,bo,ai] at h
 have:rk.length * 97<=12 * 97:=kf _ h1
 have e:Tj rk=(rk.map ((·.2) ∘ SN)).sum:=rfl
 omega
noncomputable def aH (C:Addr):Sp:=fun vs H Q _=>∃ (x:Addr) (bs:List (Str × Nat)) (rk:List (Str × Nat × Int)) (ks:List R) (ls:List (List Ln)) (y:V) (l:Ln) (n:Nat),vs=[.ref x,y,.int (n:Nat)]/\CN C H x bs rk ks ls/\TupAt H (ao l) y/\Zc rk l/\n<2 ^ 1200/\∀ H',Ao H H'->Q (.int (Jy rk l n:Nat)) H'
theorem XJ:Aw ["organ","line","numbers","rank","from_low","on_rank"] ["organ","line","numbers"] (Af lB):=Bo
include N T in
theorem Xo:Av P w K mg base Bg 3 aD.fLl aD.dLl ["organ","line","numbers"] (aH C):=by
 refine N.FLl.1.ok XJ (fun vs H Q E h=>?_) (fun cdv A outer s H vs Q E hr h=>?_)
 ·refine byC fun w_=>?_;obtain ⟨x,bs,rk,ks,ls,y,l,n,rfl,_⟩:=h;refine w_ ?_
  rfl
 ·refine byC fun w_=>?_;obtain ⟨x,bs,rk,ks,ls,y,l,n,rfl,O,hy,hg,hn,q⟩:=h;refine w_ ?_
  refine ⟨_,(Ac (Bh (i:=3) XJ.nd rfl (Or.inl rfl) (Am (Bv (K:=K) rfl) (Ew (pv 0) T.cl N.FOr.2.2 (fJ N T) (ad hr) N.FOr.2.1 .nil An) (Am (Aq (K:=K) rfl) (pv 1) Ae (fun _ _=>rfl)) (fun _ _=>rfl)))
   (Ac (Bh (i:=4) XJ.nd rfl (Or.inl rfl) (Aj (UJ N T) (ad hr) rfl N.FSh.2.2 N.FSh.1.kp N.FSh.2.1 .nil An (Aa (pv 2) (Aa (MT Jf (Am (Aq (K:=K) rfl) (pv 1) Ae (fun _ _=>rfl))) (Aa (BK B_ (BK Dz (Am (Aq (K:=K) rfl) (pv 1) Ae (fun _ _=>rfl)) (Am (Aq (K:=K) rfl) (pv 1) Ae (fun _ _=>rfl))) Ae) Ab)))))
   (Ac (Bh (i:=5) XJ.nd rfl (Or.inl rfl) (Aj (UJ N T) (ad hr) rfl N.FSh.2.2 N.FSh.1.kp N.FSh.2.1 .nil An (Aa (pv 4) (Aa (BK B_ (Am (Aq (K:=K) rfl) (pv 1) Ae (fun _ _=>rfl)) (Am (Aq (K:=K) rfl) (pv 1) Ae (fun _ _=>rfl))) (Aa (Am (Aq (K:=K) rfl) (pv 3) Ae (fun _ _=>rfl)) Ab)))))
   (Ai (Ay (Aj (UJ N T) (ad hr) rfl N.FSh.2.2 N.FSh.1.kp N.FSh.2.1 .nil An (Aa (pv 5) (Aa (Cw (pv 0) T.cl N.FOe.2.2 (dU N T) (ad hr) N.FOe.2.1 .nil An (Aa (Am (Aq (K:=K) rfl) (pv 3) Ae (fun _ _=>rfl)) (Aa Ae Ab))) (Aa (Ew (pv 0) T.cl N.FOq.2.2 (b_ N T) (ad hr) N.FOq.2.1 .nil An) Ab))))))))),?_⟩
  obtain ⟨T0,rfl,hT⟩:=hy
  have hto:=aL O.nr O.nz
  have hlr:l.r<rk.length:=hg.r
  have hst:=V0 hlr
  have hrk:=ae hlr
  have h97:rk[l.r].2.1<=97:=O.nz _ (ee hg.r)
  have esz:J7 rk l.r=rk[l.r].2.1:=by
   unfold J7
   rw [ax,ar,hrk]
   rfl
  have etot:(Ez (rk.map SN)).length=Tj rk:=by
   rw [Ed,bo]
   rfl
  have h1:=hg.lo
  have h2:=hg.le
  have h3:=hg.hi
  have h4:=hg.s1
  have h5:=hg.s2
  have meth:∀ {H':Hp},CN C H' x bs rk ks ls->∃ dx fs,H' x=some (.ins C dx fs)/\∀ m∈meths,fs.lookup m=none:=fun O'=>by
   refine byC fun w_=>?_;obtain ⟨⟨dx,fs,_,_,_,_,_,_,_,_,h1,_,_,_,_,lm,_⟩,_⟩:=O'.o;refine w_ ?_
   exact ⟨dx,fs,h1,lm⟩
  obtain ⟨dx,fs,hx,lm⟩:=meth O
  refine ⟨_,rfl,x,dx,fs,rfl,hx,lm _ (by decide +kernel),x,bs,rk,ks,ls,rfl,O,fun D rvs H2 hD s2 hl2 hb2=>?_⟩
  have hT2:=s2 _ _ hT
  have hrk3:(rk.map Uh)[l.r]? = some (Uh rk[l.r]):=by rw [ar,hrk]; rfl
  refine byC fun w_=>?_;obtain ⟨v3,hv3,T3,rfl,ht3⟩:=CQ hb2 hrk3;refine w_ ?_
  refine ⟨_,rfl,T0,_,_,_,rfl,rfl,kR hT2,Ag (j:=0) rfl,D,rvs,_,_,rfl,rfl,kR hl2,Ag hv3,?_⟩
  have e1:l.hi - l.lo+1=(((l.hi - l.lo+1).toNat:Nat):Int):=by omega
  refine ⟨_,rfl,_,rfl,T0,_,_,_,rfl,rfl,kR hT2,Ag (j:=2) rfl,_,rfl,_,rfl,T0,_,_,_,rfl,rfl,kR hT2,Ag (j:=3) rfl,_,rfl,T0,_,_,_,rfl,rfl,kR hT2,Ag (j:=2) rfl,_,_,rfl,rfl,_,_,rfl,rfl,n,-l.lo,(l.hi - l.lo+1).toNat,(by rw [← e1] <;> rfl),hn,by omega,by omega,by omega,?_⟩
  have n1:=Q7 n (-l.lo) (l.hi - l.lo+1).toNat
  generalize hn1:Wd.mv n (-l.lo) (l.hi - l.lo+1).toNat=a1 at n1 ⊢
  have n1':a1<2 ^ 1200:=bg n1 (fS (by decide) (by omega))
  refine ⟨_,rfl,_,rfl,T0,_,_,_,rfl,rfl,kR hT2,Ag (j:=2) rfl,_,rfl,T0,_,_,_,rfl,rfl,kR hT2,Ag (j:=1) rfl,_,_,rfl,rfl,_,rfl,T3,_,_,_,rfl,rfl,kR ht3,Ag (j:=1) rfl,a1,l.lo+l.sh,rk[l.r].2.1,rfl,n1',by omega,by omega,by omega,?_⟩
  have n2:=Q7 a1 (l.lo+l.sh) rk[l.r].2.1
  generalize hn2:Wd.mv a1 (l.lo+l.sh) rk[l.r].2.1=a2 at n2 ⊢
  have n2':a2<2 ^ 1200:=bg n2 (fS (by decide) (by omega))
  obtain ⟨dx2,fs2,hx2,lm2⟩:=meth (O.mono s2)
  refine ⟨_,rfl,_,rfl,x,dx2,fs2,rfl,hx2,lm2 _ (by decide +kernel),_,rfl,T3,_,_,_,rfl,rfl,kR ht3,Ag (j:=0) rfl,x,bs,rk,ks,ls,l.r,rk[l.r],0,rfl,O.mono s2,hrk,fun H3 s3=>?_⟩
  obtain ⟨dx3,fs3,hx3,lm3⟩:=meth ((O.mono s2).mono s3)
  refine ⟨_,rfl,x,dx3,fs3,rfl,hx3,lm3 _ (by decide +kernel),x,bs,rk,ks,ls,rfl,(O.mono s2).mono s3,a2,_,(Ez (rk.map SN)).length,rfl,n2',?_,?_,?_,?_⟩
  ·omega
  ·have:((rk.take l.r).map (fun r=>r.2.1)).sum=Qw rk l.r:=rfl
   omega
  ·omega
  ·have fin:=q H3 (s2.trans s3)
   unfold Jy at fin
   rw [hn1,esz,hn2] at fin
   rw [etot,Int.add_zero]
   exact fin
noncomputable def jn (H:Hp):V->Ln
 | .ref T=>match H T with
  | some (.tup [.int r,.int sh,.int lo,.int hi])=>⟨r.toNat,sh,lo,hi⟩
  | _=>⟨0,0,0,0⟩
 | _=>⟨0,0,0,0⟩
theorem U5 {H:Hp} {l:Ln} {v:V} (h:TupAt H (ao l) v):jn H v=l:=by
 obtain ⟨T,rfl,e⟩:=h
 show (match H T with | some (.tup [.int r,.int sh,.int lo,.int hi])=>(⟨r.toNat,sh,lo,hi⟩:Ln) | _=>⟨0,0,0,0⟩)=l
 rw [e]
 show (⟨((l.r:Nat):Int).toNat,l.sh,l.lo,l.hi⟩:Ln)=l
 rw [aT]
theorem Xa {H:Hp} {l:List Ln} {vs:List V} (h:Paired (fun x y=>TupAt H (ao x) y) l vs):vs.map (jn H)=l:=by
 induction h with
 | nil=>rfl
 | cons x y ih=>rw [dv,ih,U5 x]
noncomputable def V7 (sz:List Nat) (rk:List (Str × Nat × Int)) (b:Nat) (l:List Ln) (n:Nat):Nat:=Tw (l.map fun ln=>Jy rk ln (PQ sz b n))
noncomputable def jD (C:Addr):Sp:=fun vs H Q _=>∃ (x:Addr) (c:Nat->Str) (sz:List Nat) (rk:List (Str × Nat × Int)) (kbs:List Kb) (ls:List (List Ln)) (k n:Nat) (z:Kb) (l:List Ln),vs=[.ref x,.int (k:Nat),.int (n:Nat)]/\CN C H x (Bb c sz) rk (CJ c kbs) ls/\Nz sz.length kbs/\kbs[k]? = some z/\ls[k]? = some l/\l.length<=100/\(∀ ln∈l,Zc rk ln)/\n<2 ^ 1200/\∀ H',Ao H H'->Q (.int (V7 sz rk (DY kbs k) l n:Nat)) H'
theorem Zo:Aw ["organ","knob","keys","stop","numbers"] ["organ","knob","keys"] (Af jQ):=Bo
include N T in
theorem ig:Av P w K mg base Bg 4 aD.fBs aD.dBs ["organ","knob","keys"] (jD C):=by
 refine N.FBs.1.ok Zo (fun vs H Q E h=>?_) (fun cdv A outer s H vs Q E hr h=>?_)
 ·refine byC fun w_=>?_;obtain ⟨x,c,sz,rk,kbs,ls,k,n,z,l,rfl,_⟩:=h;refine w_ ?_
  rfl
 ·refine byC fun w_=>?_;obtain ⟨x,c,sz,rk,kbs,ls,k,n,z,l,rfl,O,hkb,hz,hl,hl100,hg,hn,q⟩:=h;refine w_ ?_
  refine ⟨_,(Ac (Bh (i:=3) Zo.nd rfl (Or.inl rfl) (Cw (pv 0) T.cl N.FOs.2.2 (VL N T) (ad hr) N.FOs.2.1 .nil An (Aa (pv 1) Ab)))
   (Ac (Bh (i:=4) Zo.nd rfl (Or.inr rfl) (Aj (Xz N T) (ad hr) rfl N.FNb.2.2 N.FNb.1.kp N.FNb.2.1 .nil An (Aa (pv 0) (Aa (Am (Aq (K:=K) rfl) (pv 3) Ae (fun _ _=>rfl)) (Aa (pv 2) Ab)))))
   (Ai (Ay (Aj (Vl N T) (ad hr) rfl N.FUn.2.2 N.FUn.1.kp N.FUn.2.1 .nil An (Aa (Bu rfl (Be (osc:=Af jQ) (N:=["organ","knob","keys","stop","numbers"]) rfl rfl (by decide +kernel)) (Bp (Am (Aq (K:=K) rfl) (pv 3) Ae (fun _ _=>rfl))) (fun _ _ _ _=>CW) (fun _ _ _ _=>(Aj (Xo N T) (ad hr) rfl N.FLl.2.2 N.FLl.1.kp N.FLl.2.1 .nil An (Aa (pv 1) (Aa (pv 0) (Aa (pv 5) Ab)))))) Ab)))))),?_⟩
  have hr:=Do (c:=c) hz
  obtain ⟨rs,er⟩:=JR hr
  rw [er] at hr
  have hb:=Js hkb hz
  have hbs:(Bb c sz)[DY kbs k]? = some (c (DY kbs k),sz[DY kbs k]):=DR (ae hb)
  have meth:∀ {H':Hp},CN C H' x (Bb c sz) rk (CJ c kbs) ls->∃ dx fs,H' x=some (.ins C dx fs)/\∀ m∈meths,fs.lookup m=none:=fun O'=>by
   refine byC fun w_=>?_;obtain ⟨⟨dx,fs,_,_,_,_,_,_,_,_,h1,_,_,_,_,lm,_⟩,_⟩:=O'.o;refine w_ ?_
   exact ⟨dx,fs,h1,lm⟩
  obtain ⟨dx,fs,hx,lm⟩:=meth O
  refine ⟨_,rfl,x,dx,fs,rfl,hx,lm _ (by decide +kernel),_,rfl,x,Bb c sz,rk,CJ c kbs,ls,k,DY kbs k,(c (DY kbs k),sz[DY kbs k]),_,_,rs,l,rfl,O,hr,hbs,hl,fun T0 L0 ts H1 _ s1 hT0 hL0 htp=>?_⟩
  have O1:=O.mono s1
  refine ⟨_,rfl,_,rfl,T0,_,_,_,rfl,rfl,kR hT0,Ag (j:=0) rfl,_,rfl,x,c,sz,CJ c kbs,DY kbs k,n,rfl,O1.o,hb,hn,fun H2 s2=>?_⟩
  have O2:=O1.mono s2
  have nlt:=Q7 n (-((sz.take (DY kbs k)).sum:Int)) (sz.getD (DY kbs k) 0)
  have h61:sz.getD (DY kbs k) 0<=61:=by
   rw [ax,ae hb]
   exact O.o.sz _ (ay hbs)
  have nlt':PQ sz (DY kbs k) n<2 ^ 1200:=bg nlt (fS (by decide) (by omega))
  have hL2:=s2 _ _ hL0
  have htp2:=Al s2 htp
  have hlt:=htp2.length
  have hS2:Cz K H2 L0 ts:=.inl (.inl hL2)
  refine ⟨_,rfl,T0,_,_,_,rfl,rfl,kR (s2 _ _ hT0),Ag (j:=1) rfl,L0,rfl,⟨_,hS2⟩,Cv (K:=K) (xs:=ts) (fun _=>true) (fun v=>.int (Jy rk (jn H2 v) (PQ sz (DY kbs k) n):Nat)) hS2 (BJ (by omega)) (fun y hy H' hs R k=>k H' (Ao.refl H')) (fun y hy _ H' hs R k'=>?_) (fun D3 H3 hD3 s3 hl3=>?_)⟩
  ·obtain ⟨ln,hln,hyt⟩:=Cg htp2 hy
   have e:=U5 hyt
   rw [e] at k'
   exact ⟨_,rfl,_,rfl,_,rfl,x,Bb c sz,rk,CJ c kbs,ls,y,ln,_,rfl,O2.mono hs,hyt.mono hs,hg ln hln,nlt',fun H4 s4=>k' H4 s4⟩
  ·rw [bt.mpr (fun _ _=>rfl)] at hl3
   have e3:(ts.map fun v=>V.int (Jy rk (jn H2 v) (PQ sz (DY kbs k) n):Nat))=nV (l.map fun ln=>Jy rk ln (PQ sz (DY kbs k) n)):=by
    rw [← Xa htp2]
    unfold nV
    rw [bo,bo]
    rfl
   rw [e3] at hl3
   exact ⟨D3,_,rfl,hl3,(by rw [ai]; omega),q H3 (s1.trans (s2.trans s3))⟩
noncomputable def Xr (sz:List Nat) (rk:List (Str × Nat × Int)) (kbs:List Kb) (ls:List (List Ln)) (cl:List Nat) (n:Nat):Nat:=Tw (cl.map fun k=>V7 sz rk (DY kbs k) (ls.getD k []) n)
noncomputable abbrev Wg (rk:List (Str × Nat × Int)) (ls:List (List Ln)):Prop:=∀ l∈ls,l.length<=100/\∀ ln∈l,Zc rk ln
noncomputable def aQ (C:Addr):Sp:=fun vs H Q _=>∃ (x:Addr) (c:Nat->Str) (sz:List Nat) (rk:List (Str × Nat × Int)) (kbs:List Kb) (ls:List (List Ln)) (D n:Nat),vs=[.ref x,.int (D:Nat),.int (n:Nat)]/\CN C H x (Bb c sz) rk (CJ c kbs) ls/\Nz sz.length kbs/\Wg rk ls/\n<2 ^ 1200 /\
 ∀ (cl:List Nat) H',Ao H H'->(∀ k,k∈cl ↔ ∃ z,kbs[k]? = some z/\z.w = "stop" /\ D.testBit k=true)->Q (.int (Xr sz rk kbs ls cl n:Nat)) H'
theorem qM:Aw ["organ","knobs","keys"] ["organ","knobs","keys"] (Af jM):=Bo
include N T in
theorem YH:Av P w K mg base Bg 5 aD.fBa aD.dBa ["organ","knobs","keys"] (aQ C):=by
 refine N.FBa.1.ok qM (fun vs H Q E h=>?_) (fun cdv A outer s H vs Q E hr h=>?_)
 ·refine byC fun w_=>?_;obtain ⟨x,c,sz,rk,kbs,ls,D,n,rfl,_⟩:=h;refine w_ ?_
  rfl
 ·refine byC fun w_=>?_;obtain ⟨x,c,sz,rk,kbs,ls,D,n,rfl,O,hkb,hls,hn,q⟩:=h;refine w_ ?_
  refine ⟨_,(Ai (Ay (Aj (Vl N T) (ad hr) rfl N.FUn.2.2 N.FUn.1.kp N.FUn.2.1 .nil An (Aa (Bu rfl (Be (osc:=Af jM) (N:=["organ","knobs","keys"]) rfl rfl (by decide +kernel)) (Bp (Aj (O7 N T) (ad hr) rfl N.FDc.2.2 N.FDc.1.kp N.FDc.2.1 .nil An (Aa (pv 0) (Aa (pv 1) (Aa BR Ab))))) (fun _ _ _ _=>CW) (fun _ _ _ _=>(Aj (ig N T) (ad hr) rfl N.FBs.2.2 N.FBs.1.kp N.FBs.2.1 .nil An (Aa (pv 1) (Aa (pv 0) (Aa (pv 3) Ab)))))) Ab)))),?_⟩
  refine ⟨_,rfl,_,rfl,x,Bb c sz,CJ c kbs,"stop",D,rfl,O.o,fun CL cl H1 hCL s1 hl1 hcl0 hcll=>?_⟩
  have hcl:∀ k,k∈cl ↔ ∃ z,kbs[k]? = some z/\z.w = "stop" /\ D.testBit k=true:=fun k=>by
   rw [hcl0]
   constructor
   ·rintro ⟨r,hr,hw,hd⟩
    obtain ⟨z,hz,rfl⟩:=FQ hr
    exact ⟨z,hz,(Gf _ _ _).symm.trans hw,hd⟩
   ·rintro ⟨z,hz,hw,hd⟩
    exact ⟨_,Do hz,(Gf _ _ _).trans hw,hd⟩
  have hS1:Cz K H1 CL (nV cl):=.inl (.inl hl1)
  have O1:=O.mono s1
  let g:V->V:=fun v=>match v with | .int k=>.int (V7 sz rk (DY kbs k.toNat) (ls.getD k.toNat []) n:Nat) | _=>.non
  refine ⟨CL,rfl,⟨_,hS1⟩,Cv (K:=K) (xs:=nV cl) (fun _=>true) g hS1 (BJ (by rw [ai]; omega)) (fun y hy H' hs R k=>k H' (Ao.refl H')) (fun y hy _ H' hs R k=>?_) (fun D2 H2 hD2 s2 hl2=>?_)⟩
  ·obtain ⟨i,hi,rfl⟩:=aI.mp hy
   obtain ⟨z,hz,hw,hd⟩:=(hcl i).mp hi
   have hik:i<ls.length:=by
    rw [O.nl,K9]
    exact (ah.mp hz).1
   have hli:=ae hik
   have egd:ls.getD i []=ls[i]:=by rw [ax,hli]; rfl
   have hg:=hls ls[i] (ee hik)
   refine ⟨_,rfl,_,rfl,_,rfl,x,c,sz,rk,kbs,ls,i,n,z,ls[i],rfl,O1.mono hs,hkb,hz,hli,hg.1,hg.2,hn,fun H4 s4=>?_⟩
   have kk:R (.int (V7 sz rk (DY kbs i) (ls.getD i []) n:Nat)) H4:=k H4 s4
   rw [egd] at kk
   exact kk
  ·rw [bt.mpr (fun _ _=>rfl)] at hl2
   have e:(nV cl).map g=nV (cl.map fun k=>V7 sz rk (DY kbs k) (ls.getD k []) n):=by
    unfold nV
    rw [bo,bo]
    rfl
   rw [e] at hl2
   exact ⟨D2,_,rfl,hl2,(by rw [ai]; omega),q cl H2 (s1.trans s2) hcl⟩
noncomputable def iy (C:Addr):Sp:=fun vs H Q _=>∃ (x:Addr) (c:Nat->Str) (sz:List Nat) (rk:List (Str × Nat × Int)) (kbs:List Kb) (ls:List (List Ln)) (D n:Nat),vs=[.ref x,.int (D:Nat),.int (n:Nat)]/\CN C H x (Bb c sz) rk (CJ c kbs) ls/\Nz sz.length kbs/\Wg rk ls/\n<2 ^ 1200/\(∀ i,n.testBit i=true->i<sz.sum) /\
 ∀ (cl:List Nat) (m:Nat) H',Ao H H'->(∀ k,k∈cl ↔ ∃ z,kbs[k]? = some z/\z.w = "stop" /\ D.testBit k=true)->(∀ j,m.testBit j=true ↔ HS c sz kbs D n j)->Q (.int (Xr sz rk kbs ls cl m:Nat)) H'
theorem ni:Aw ["organ","knobs","held"] ["organ","knobs","held"] (Af pD):=Bo
include N T in
theorem gm:Av P w K mg base Bg 7 aD.fSo aD.dSo ["organ","knobs","held"] (iy C):=by
 refine N.FSo.1.ok ni (fun vs H Q E h=>?_) (fun cdv A outer s H vs Q E hr h=>?_)
 ·refine byC fun w_=>?_;obtain ⟨x,c,sz,rk,kbs,ls,D,n,rfl,_⟩:=h;refine w_ ?_
  rfl
 ·refine byC fun w_=>?_;obtain ⟨x,c,sz,rk,kbs,ls,D,n,rfl,O,hkb,hls,hn,hnt,q⟩:=h;refine w_ ?_
  refine ⟨_,(Ai (Ay (Aj (YH N T) (ad hr) rfl N.FBa.2.2 N.FBa.1.kp N.FBa.2.1 .nil An (Aa (pv 0) (Aa (pv 1) (Aa (Aj (Xv N T) (ad hr) rfl N.FSk.2.2 N.FSk.1.kp N.FSk.2.1 .nil An (Aa (pv 0) (Aa (pv 1) (Aa (pv 2) Ab)))) Ab)))))),?_⟩
  have h305:=Ep O.o
  rw [Bm] at h305
  refine ⟨_,rfl,_,rfl,_,rfl,_,rfl,_,rfl,x,c,sz,kbs,D,n,rfl,O.o,hkb,hn,hnt,fun m H1 s1 hm=>?_⟩
  have hm12:m<2 ^ 1200:=by
   refine ib m fun i hi=>?_
   rw [← gp]
   intro hb
   rcases (hm i).mp hb with h | h
   ·have:=h.lt
    rw [Bm] at this
    omega
   ·have:=hnt i h.1
    omega
  exact ⟨x,c,sz,rk,kbs,ls,D,m,rfl,O.mono s1,hkb,hls,hm12,fun cl H2 s2 hcl=>q cl m H2 (s1.trans s2) hcl hm⟩
theorem Px (sz:List Nat) (b n i:Nat):(PQ sz b n).testBit i=true ↔ i<sz.getD b 0/\n.testBit ((sz.take b).sum+i)=true:=by
 unfold PQ
 rw [Wd.K1]
 have e:((i:Int) - -(((sz.take b).sum:Nat):Int)).toNat=(sz.take b).sum+i:=by omega
 rw [e,fz,fz,decide_eq_true_eq,decide_eq_true_eq]
 exact ⟨fun h=>⟨h.1,h.2.2⟩,fun h=>⟨h.1,by omega,h.2⟩⟩
theorem Nx {rk:List (Str × Nat × Int)} {l:Ln} (g:Zc rk l) (n p:Nat):(Jy rk l n).testBit p=true ↔ ∃ i:Nat,n.testBit i=true/\l.lo<=(i:Int)/\(i:Int)<=l.hi/\0<=(i:Int)+l.sh/\(i:Int)+l.sh<(J7 rk l.r:Nat)/\(p:Int)=(Qw rk l.r:Nat)+((i:Int)+l.sh):=by
 have h1:=g.lo
 have h2:=g.le
 have h3:=V0 g.r
 unfold Jy
 rw [Wd.K1,Wd.K1,Wd.K1]
 simp only [Bool.and_eq_true,decide_eq_true_eq]
 constructor
 ·rintro ⟨a1,a2,b1,b2,c1,c2,hn⟩
  exact ⟨_,hn,by omega,by omega,by omega,by omega,by omega⟩
 ·rintro ⟨i,hn,a1,a2,a3,a4,e⟩
  have ei:(((((((p:Int) - ((Qw rk l.r:Nat):Int)).toNat:Nat):Int) - (l.lo+l.sh)).toNat:Nat):Int) - -l.lo=(i:Int):=by omega
  refine ⟨by omega,by omega,by omega,by omega,by omega,by omega,?_⟩
  rw [ei,aT]
  exact hn
theorem Mg {sz:List Nat} {rk:List (Str × Nat × Int)} {b:Nat} {l:List Ln} {n p:Nat} (g:∀ ln∈l,Zc rk ln):(V7 sz rk b l n).testBit p=true ↔ ∃ ln∈l,∃ i:Nat,i<sz.getD b 0/\n.testBit ((sz.take b).sum+i)=true/\ln.lo<=(i:Int)/\(i:Int)<=ln.hi/\0<=(i:Int)+ln.sh/\(i:Int)+ln.sh<(J7 rk ln.r:Nat)/\(p:Int)=(Qw rk ln.r:Nat)+((i:Int)+ln.sh):=by
 unfold V7
 rw [JM]
 constructor
 ·rintro ⟨m,hm,hb⟩
  obtain ⟨ln,hl,rfl⟩:=aI.mp hm
  obtain ⟨i,hi,r⟩:=(Nx (g ln hl) _ _).mp hb
  obtain ⟨x,y⟩:=(Px _ _ _ _).mp hi
  exact ⟨ln,hl,i,x,y,r⟩
 ·rintro ⟨ln,hl,i,x,y,r⟩
  exact ⟨_,cr hl,(Nx (g ln hl) _ _).mpr ⟨i,(Px _ _ _ _).mpr ⟨x,y⟩,r⟩⟩
theorem QH {sz:List Nat} {rk:List (Str × Nat × Int)} {kbs:List Kb} {ls:List (List Ln)} {cl:List Nat} {n p:Nat}:(Xr sz rk kbs ls cl n).testBit p=true ↔ ∃ k∈cl,(V7 sz rk (DY kbs k) (ls.getD k []) n).testBit p=true:=by
 unfold Xr
 rw [JM]
 constructor
 ·rintro ⟨m,hm,hb⟩
  obtain ⟨k,hk,rfl⟩:=aI.mp hm
  exact ⟨k,hk,hb⟩
 ·rintro ⟨k,hk,hb⟩
  exact ⟨_,cr hk,hb⟩
noncomputable def oN:Option Nat->V
 | some j=>.int (j:Nat)
 | none=>.non
noncomputable def gk (c:Nat->Str) (sz:List Nat) (kbs:List Kb) (i k:Nat):Option Nat:=(kbs[k]?).bind fun z=>gl (Bb c sz) z i
noncomputable def gM:V->Bool
 | .non=>false
 | _=>true
theorem Lz (g:Nat->Option Nat):∀ cl:List Nat,(cl.map fun k=>oN (g k)).filter gM=nV (cl.filterMap g)
 | []=>rfl
 | k::cl=>by
  have ih:=Lz g cl
  rw [dv,gz,List.filterMap_cons]
  cases e:g k with
  | none=>exact ih
  | some j =>
   show V.int (j:Nat)::_=nV (j::_)
   rw [ih]
   rfl
noncomputable def bu (C:Addr):Sp:=fun vs H Q _=>∃ (x p:Addr) (c:Nat->Str) (sz:List Nat) (kbs:List Kb) (cl:List Nat) (i:Nat),vs=[.ref x,.ref p,.int (i:Nat)]/\Dd C H x (Bb c sz) (CJ c kbs)/\Nz sz.length kbs/\H p=some (.lst (nV cl))/\(∀ k∈cl,∃ z,kbs[k]? = some z/\Rk z=true)/\cl.length<=200/\i<sz.sum/\sz.sum<=305 /\
 ∀ H',Ao H H'->Q (.int (Wd.mk (cl.filterMap (gk c sz kbs i)):Nat)) H'
theorem iB {c:Nat->Str} {sz:List Nat} {kbs:List Kb} {i:Nat} {cl:List Nat}:∀ j∈cl.filterMap (gk c sz kbs i),j<sz.sum:=fun j hj=>by
 obtain ⟨k0,_,e⟩:=gI.mp hj
 unfold gk at e
 obtain ⟨z,_,e⟩:=Option.bind_eq_some_iff.mp e
 have:=Lq e
 rw [Bm] at this
 exact this
theorem fB:Aw ["organ","couplers","key","led"] ["organ","couplers","key"] (Af dN):=Bo
include N T in
theorem iZ:Av P w K mg base Bg 4 aD.fLp aD.dLp ["organ","couplers","key"] (bu C):=by
 refine N.FLp.1.ok fB (fun vs H Q E h=>?_) (fun cdv A outer s H vs Q E hr h=>?_)
 ·refine byC fun w_=>?_;obtain ⟨x,p,c,sz,kbs,cl,i,rfl,_⟩:=h;refine w_ ?_
  rfl
 ·refine byC fun w_=>?_;obtain ⟨x,p,c,sz,kbs,cl,i,rfl,O,hkb,hp,hcl,hcll,hi,h305,q⟩:=h;refine w_ ?_
  refine ⟨_,(Ac (Hw (i:=3) fB.nd rfl rfl rfl (Be (osc:=Af dN) (N:=["organ","couplers","key","led"]) rfl rfl (by decide +kernel)) (Bp (pv 1)) (fun _ _ _ _=>CW) (fun _ _ _ _=>(Aj (Xk N T) (ad hr) rfl N.FLe.2.2 N.FLe.1.kp N.FLe.2.1 .nil An (Aa (pv 1) (Aa (pv 0) (Aa (pv 3) Ab))))))
   (Ai (Ay (Aj (RL N T) (ad hr) rfl N.FSt.2.2 N.FSt.1.kp N.FSt.2.1 .nil An (Aa (Bu rfl (Be (osc:=Af dN) (N:=["organ","couplers","key","led"]) rfl rfl (by decide +kernel)) (Bp (pv 3)) (fun _ _ _ _=>(G3 (BX Rj (pv 0) HY (Bc _)))) (fun _ _ _ _=>(pv 0))) Ab))))),?_⟩
  have hS:Cz K H p (nV cl):=.inl (.inl hp)
  obtain ⟨qd,hq⟩:∃ qd,(Ez (Bb c sz))[i]? = some qd:=by
   have hlt:i<(Ez (Bb c sz)).length:=by rw [Ed,Bm]; exact hi
   exact ⟨_,ae hlt⟩
  let f:V->V:=fun v=>match v with | .int k=>oN (gk c sz kbs i k.toNat) | _=>.non
  refine ⟨_,rfl,p,rfl,⟨_,hS⟩,Cv (K:=K) (xs:=nV cl) (fun _=>true) f hS (BJ (by rw [ai]; omega)) (fun y hy H' hs R k=>k H' (Ao.refl H')) (fun y hy _ H' hs R k=>?_) (fun D3 H3 hD3 s3 hl3=>?_)⟩
  ·obtain ⟨k0,hk0,rfl⟩:=aI.mp hy
   obtain ⟨z,hz,hc⟩:=hcl k0 hk0
   obtain ⟨j1,j2,s,rfl⟩:=RJ (hkb.ok z (ay hz)) hc
   obtain ⟨o1,o2,_⟩:=hkb.ok _ (ay hz)
   obtain ⟨z1,hz1⟩:∃ z1,sz[j1]? = some z1:=⟨_,ae o1⟩
   obtain ⟨z2,hz2⟩:∃ z2,sz[j2]? = some z2:=⟨_,ae o2⟩
   have ef:f (V.int (k0:Nat))=oN (gl (Bb c sz) (.cp j1 j2 s) i):=by
    show oN (gk c sz kbs i ((k0:Nat):Int).toNat)=_
    unfold gk
    rw [aT,hz]
    rfl
   refine ⟨_,rfl,_,rfl,_,rfl,x,Bb c sz,CJ c kbs,k0,i,j1,j2,(c j1,z1),(c j2,z2),qd,_,s,rfl,O.mono hs,hq,Do hz,DR hz1,DR hz2,fun H4 s4=>?_⟩
   have kk:=k H4 s4
   rw [ef] at kk
   rcases Ml (j1:=j1) (s:=s) hq (DR (c:=c) hz2) with ⟨e1,e2⟩ | ⟨j,e1,e2,_⟩
   ·rw [e2] at kk
    rw [e1]
    exact kk
   ·rw [e2] at kk
    rw [e1]
    exact kk
  have hl3':H3 D3=some (.lst (cl.map fun k=>oN (gk c sz kbs i k))):=by
   rw [hl3,bt.mpr (fun _ _=>rfl)]
   unfold nV
   rw [bo]
   rfl
  have hS3:Cz K H3 D3 (cl.map fun k=>oN (gk c sz kbs i k)):=.inl (.inl hl3')
  refine ⟨_,rfl,D3,rfl,⟨_,hS3⟩,Cv (K:=K) (xs:=cl.map fun k=>oN (gk c sz kbs i k)) gM id hS3 (BJ (by rw [ai]; omega)) (fun y hy H' hs R k=>?_) (fun y hy _ H' hs R k=>⟨_,rfl,k H' (Ao.refl H')⟩) (fun D4 H4 hD4 s4 hl4=>?_)⟩
  ·obtain ⟨k0,hk0,rfl⟩:=aI.mp hy
   have kk:=k H' (Ao.refl H')
   cases e:gk c sz kbs i k0 with
   | none =>
    rw [e] at kk
    exact ⟨_,rfl,rfl,_,rfl,kk⟩
   | some j =>
    rw [e] at kk
    exact ⟨_,rfl,rfl,_,rfl,kk⟩
  rw [kG,Lz] at hl4
  exact ⟨D4,cl.filterMap (gk c sz kbs i),rfl,hl4,bE (List.length_filterMap_le _ _) (by omega),fun j hj=>by have:=iB j hj; omega,fun H5 s5=>q H5 (s3.trans (s4.trans s5))⟩
theorem Mi {l:List Nat} {i:Nat} (h:i<l.length):Lb (nV l) (i:Int)=some (.int ((l.getD i 0:Nat):Int)):=by
 refine Ag (j:=i) ?_
 unfold nV
 rw [ar,ax,ae h]
 rfl
theorem ZC (l:List Nat) (m x:Nat):(nV l).set m (.int (x:Nat))=nV (l.set m x):=by
 unfold nV
 rw [List.map_set]
theorem R8 {l:List Nat} {m x:Nat} (h:m<l.length) (i:Nat):(l.set m x).getD i 0=if i=m then x else l.getD i 0:=by
 rw [ax,ax,List.getElem?_set]
 by_cases e:i=m
 ·subst e
  rw [if_pos rfl,if_pos rfl,if_pos h]
  rfl
 ·rw [if_neg (Ne.symm e),if_neg e]
noncomputable abbrev st0 (l0:List Nat) (a b:Nat):Prop:=(l0.getD a 0).testBit b=true
noncomputable def eE:Sp:=fun vs H Q _=>∃ (p:Addr) (l0:List Nat),vs=[.ref p]/\H p=some (.lst (nV l0))/\l0.length<=305/\∀ D (l:List Nat) H',H D=none->Ao H H'->H' D=some (.lst (nV l))->l.length=l0.length->(∀ i,i<l0.length->∀ j,(l.getD i 0).testBit j=true ↔ Ww (st0 l0) l0.length i j)->Q (.ref D) H'
theorem WX:Aw ["one_step","led","way","key"] ["one_step"] (Af kh):=Bo
include N T in
theorem fj:Av P w K mg base Bg 2 aD.fLq aD.dLq ["one_step"] eE:=by
 refine N.FLq.1.ok WX (fun vs H Q E h=>?_) (fun cdv A outer s H vs Q E hr h=>?_)
 ·obtain ⟨p,l0,rfl,_⟩:=h
  rfl
 ·refine byC fun w_=>?_;obtain ⟨p,l0,rfl,hp,h305,q⟩:=h;refine w_ ?_
  refine ⟨_,(Ac (Bh (i:=1) WX.nd rfl (Or.inl rfl) (Eb Eu rfl T.list eR (Aa (pv 0) Ab)))
   (Ac (C_ PassesOwn.never rfl (CP rfl T.range (Aa (BP BV rfl T.len bX (Aa (pv 0) Ab)) Ab)) (BZ (i:=2) WX.nd rfl (Or.inl rfl)) (Ai (C_ PassesOwn.never rfl (CP rfl T.range (Aa (BP BV rfl T.len bX (Aa (pv 0) Ab)) Ab)) (BZ (i:=3) WX.nd rfl (Or.inl rfl)) (Ai (Br (Di (Aj (J3 N T) (ad hr) rfl N.FHa.2.2 N.FHa.1.kp N.FHa.2.1 .nil An (Aa (Am Bj (pv 1) (pv 3) (fun _ _=>rfl)) (Aa (pv 2) Ab)))) (Ai (Wu (pv 1) (pv 3) (BK Lw (Am Bj (pv 1) (pv 3) (fun _ _=>rfl)) (Am Bj (pv 1) (pv 2) (fun _ _=>rfl))) rfl)) Ba)))))
   (Ai (Ay (pv 1))))),?_⟩
  have hS:Cz K H p (nV l0):=.inl (.inl hp)
  refine ⟨_,rfl,p,_,rfl,.inl hS,fun D hD=>?_⟩
  obtain ⟨H1,eqH,s1,a1⟩:=Ft (o:=HO.lst (nV l0)) hD
  rw [eqH]
  have hn:(nV l0).length=l0.length:=by unfold nV; exact List.length_map ..
  have hnt:(((nV l0).length:Nat):Int).toNat=l0.length:=by rw [aT,hn]
  refine ⟨_,rfl,p,_,rfl,.inl (s1.seq hS),_,rfl,by omega,by omega,?_⟩
  rw [hnt]
  refine GC (lo:=0) (n:=l0.length) (fun w σ H4=>∃ (l:List Nat) (v2 v3:Option V),σ=[some (.ref p),some (.ref D),v2,v3]/\H4 D=some (.lst (nV l))/\l.length=l0.length/\Ao H H4/\∀ i,i<l0.length->∀ j,(l.getD i 0).testBit j=true ↔ Ww (st0 l0) w i j) ⟨l0,_,_,rfl,a1,rfl,s1,fun i hi j=>Iff.rfl⟩ ?_ ?_
  ·rintro w σ H4 hw ⟨l,v2,v3,rfl,a4,ln,s4,inv⟩
   have et:((0:Int)+(w:Int))=((w:Nat):Int):=by omega
   rw [et]
   refine ⟨_,rfl,p,_,rfl,.inl (s4.seq hS),_,rfl,by omega,by omega,?_⟩
   rw [hnt]
   refine GC (lo:=0) (n:=l0.length) (fun m σ H5=>∃ (l:List Nat) (v3:Option V),σ=[some (.ref p),some (.ref D),some (.int (w:Nat)),v3]/\H5 D=some (.lst (nV l))/\l.length=l0.length/\Ao H H5/\∀ i,i<l0.length->∀ j,(l.getD i 0).testBit j=true ↔ (if i<m then Ww (st0 l0) (w+1) i j else Ww (st0 l0) w i j)) ⟨l,_,rfl,a4,ln,s4,fun i hi j=>by rw [if_neg (ge _)]; exact inv i hi j⟩ ?_ ?_
   ·rintro m σ H5 hm ⟨l,v3,rfl,a5,ln,s5,inv⟩
    have et:((0:Int)+(m:Int))=((m:Nat):Int):=by omega
    rw [et]
    have lv:(nV l).length=l0.length:=by unfold nV; rw [List.length_map]; exact ln
    have hatm:=Mi (l:=l) (i:=m) (by omega)
    have hatw:=Mi (l:=l) (i:=w) (by omega)
    refine ⟨_,rfl,_,rfl,D,_,_,_,rfl,rfl,kR a5,hatm,_,rfl,l.getD m 0,(w:Nat),rfl,_,rfl,?_⟩
    have eb:(decide ((0:Int)<=((w:Nat):Int)) && (l.getD m 0).testBit ((w:Nat):Int).toNat)=(l.getD m 0).testBit w:=by
     rw [decide_eq_true (by omega),fF,aT]
    rw [eb]
    have bm:∀ j,(l.getD m 0).testBit j=true ↔ Ww (st0 l0) w m j:=fun j=>by
     have:=inv m hm j
     rw [if_neg (fq _)] at this
     exact this
    have bw:∀ j,(l.getD w 0).testBit j=true ↔ Ww (st0 l0) w w j:=fun j=>by
     have:=inv w hw j
     by_cases e:w<m
     ·rw [if_pos e] at this
      exact this.trans Ww.to
     ·rw [if_neg e] at this
      exact this
    refine Bs (fun hb=>?_) (fun hb=>?_)
    ·have hmw:=(bm w).mp hb
     refine ⟨_,rfl,_,rfl,D,_,_,_,rfl,rfl,kR a5,hatm,_,rfl,_,rfl,D,_,_,_,rfl,rfl,kR a5,hatw,_,_,rfl,rfl,_,rfl,_,rfl,D,nV l,(m:Nat),rfl,rfl,a5,by omega,by omega,by omega,?_⟩
     dsimp only
     rw [Hv,aT,ZC]
     refine ⟨_,_,rfl,Ah,by rw [gX]; exact ln,fun b u e=>by rw [Ar (Ak e hD)]; exact s5 b u e,fun i hi j=>?_⟩
     rw [R8 (by omega)]
     by_cases e:i=m
     ·subst e
      rw [if_pos rfl,if_pos (eT _),iL,ko,bm,bw]
      exact ⟨fun z=>z.elim .inl fun z=>.inr ⟨hmw,z⟩,fun z=>z.elim .inl fun z=>.inr z.2⟩
     ·rw [if_neg e,inv i hi j]
      by_cases e2:i<m
      ·rw [if_pos e2,if_pos (by omega)]
      ·rw [if_neg e2,if_neg (by omega)]
    ·refine ⟨l,_,rfl,a5,ln,s5,fun i hi j=>?_⟩
     rw [inv i hi j]
     by_cases e:i=m
     ·subst e
      rw [if_neg (fq _),if_pos (eT _)]
      exact ⟨.inl,fun z=>z.elim id fun z=>absurd ((bm w).mpr z.1) hb⟩
     ·by_cases e2:i<m
      ·rw [if_pos e2,if_pos (by omega)]
      ·rw [if_neg e2,if_neg (by omega)]
   ·rintro σ H5 ⟨l,v3,rfl,a5,ln,s5,inv⟩
    exact ⟨l,_,_,rfl,a5,ln,s5,fun i hi j=>by rw [inv i hi j,if_pos hi]⟩
  ·rintro σ H4 ⟨l,v2,v3,rfl,a4,ln,s4,inv⟩
   exact ⟨_,rfl,q D l H4 hD s4 a4 ln inv⟩
theorem U3 {bs:List (Str × Nat)} {z:Kb} {i j:Nat} (h:gl bs z i=some j):i<(Ez bs).length:=by
 refine Classical.byContradiction fun hn=>?_
 have e:(Ez bs)[i]? = none:=fv (by omega)
 cases z with
 | cp a b s =>
  simp only [gl,e] at h
  cases h
 | pl w a=>cases h
noncomputable def os0 (c:Nat->Str) (sz:List Nat) (kbs:List Kb) (cl:List Nat):List Nat:=(List.range sz.sum).map fun i=>Wd.mk (cl.filterMap (gk c sz kbs i))
theorem JN {c:Nat->Str} {sz:List Nat} {kbs:List Kb} {cl:List Nat}:(os0 c sz kbs cl).length=sz.sum:=by
 unfold os0
 rw [ai,fA]
theorem W3 {c:Nat->Str} {sz:List Nat} {kbs:List Kb} {cl:List Nat} {D:Nat} (hcl:∀ k,k∈cl ↔ ∃ z,kbs[k]? = some z/\Rk z=true/\D.testBit k=true) (a b:Nat):st0 (os0 c sz kbs cl) a b ↔ stp (Bb c sz) kbs D a b:=by
 have eg:a<sz.sum->(os0 c sz kbs cl).getD a 0=Wd.mk (cl.filterMap (gk c sz kbs a)):=fun h=>by
  unfold os0
  rw [ax,ar,ku h]
  rfl
 constructor
 ·intro h
  by_cases ha:a<sz.sum
  ·unfold st0 at h
   rw [eg ha,Wd.LC,decide_eq_true_eq] at h
   obtain ⟨k,hk,e⟩:=gI.mp h
   unfold gk at e
   obtain ⟨z,hz,e⟩:=Option.bind_eq_some_iff.mp e
   obtain ⟨_,_,_,hd⟩:=(hcl k).mp hk
   exact ⟨k,z,hd,hz,e⟩
  ·unfold st0 at h
   rw [ax,fv (by rw [JN]; omega)] at h
   simp at h
 ·rintro ⟨k,z,hd,hz,e⟩
  have ha:a<sz.sum:=by
   have:=U3 e
   rw [Ed,Bm] at this
   exact this
  unfold st0
  rw [eg ha,Wd.LC,decide_eq_true_eq]
  refine gI.mpr ⟨k,(hcl k).mpr ⟨z,hz,Ue e,hd⟩,?_⟩
  unfold gk
  rw [hz]
  exact e
noncomputable def fO (C:Addr):Sp:=fun vs H Q _=>∃ (x:Addr) (c:Nat->Str) (sz:List Nat) (kbs:List Kb) (D:Nat),vs=[.ref x,.int (D:Nat)]/\Dd C H x (Bb c sz) (CJ c kbs)/\Nz sz.length kbs /\
 ∀ DL (l:List Nat) H',H DL=none->Ao H H'->H' DL=some (.lst (nV l))->l.length=sz.sum->(∀ i,i<sz.sum->∀ j,(l.getD i 0).testBit j=true ↔ JB (stp (Bb c sz) kbs D) (fun a=>a=i) j)->Q (.ref DL) H'
theorem cz:Aw ["organ","knobs","couplers"] ["organ","knobs"] (Af jt):=Bo
include N T in
theorem eQ:Av P w K mg base Bg 5 aD.fCb aD.dCb ["organ","knobs"] (fO C):=by
 refine N.FCb.1.ok cz (fun vs H Q E h=>?_) (fun cdv A outer s H vs Q E hr h=>?_)
 ·refine byC fun w_=>?_;obtain ⟨x,c,sz,kbs,D,rfl,_⟩:=h;refine w_ ?_
  rfl
 ·refine byC fun w_=>?_;obtain ⟨x,c,sz,kbs,D,rfl,O,hkb,q⟩:=h;refine w_ ?_
  refine ⟨_,(Ac (Bh (i:=2) cz.nd rfl (Or.inr rfl) (Aj (O7 N T) (ad hr) rfl N.FDc.2.2 N.FDc.1.kp N.FDc.2.1 .nil An (Aa (pv 0) (Aa (pv 1) (Aa BR Ab)))))
   (Ai (Ay (Aj (fj N T) (ad hr) rfl N.FLq.2.2 N.FLq.1.kp N.FLq.2.1 .nil An (Aa (Bu rfl (Be (osc:=Af jt) (N:=["organ","knobs","couplers"]) rfl rfl (by decide +kernel)) (CP rfl T.range (Aa (Ew (pv 0) T.cl N.FOc.2.2 (Vq N T) (ad hr) N.FOc.2.1 .nil An) Ab)) (fun _ _ _ _=>CW) (fun _ _ _ _=>(Aj (iZ N T) (ad hr) rfl N.FLp.2.2 N.FLp.1.kp N.FLp.2.1 .nil An (Aa (pv 1) (Aa (pv 3) (Aa (pv 0) Ab)))))) Ab))))),?_⟩
  have h305:sz.sum<=305:=by
   have:=Ep O
   rw [Bm] at this
   exact this
  refine ⟨_,rfl,_,rfl,x,Bb c sz,CJ c kbs,"coupler",D,rfl,O,fun CL cl H1 hCL s1 hl1 hcl0 hcll=>?_⟩
  have hcl:∀ k,k∈cl ↔ ∃ z,kbs[k]? = some z/\Rk z=true/\D.testBit k=true:=fun k=>by
   rw [hcl0]
   constructor
   ·rintro ⟨r,hr,hw,hd⟩
    obtain ⟨z,hz,rfl⟩:=FQ hr
    rw [Gf] at hw
    exact ⟨z,hz,decide_eq_true (congrArg V.str hw),hd⟩
   ·rintro ⟨z,hz,hc,hd⟩
    exact ⟨_,Do hz,(Gf _ _ _).trans (V.str.inj (of_decide_eq_true hc)),hd⟩
  have O1:=O.mono s1
  refine byC fun w_=>?_;obtain ⟨⟨dx,fs,bl,bn,kp,kr,bvs,pvs,uvs,kvs,h1,l1,l2,l3,l4,lm,_⟩,_⟩:=id O1;refine w_ ?_
  have epl:(((Ez (Bb c sz)).length:Nat):Int).toNat=sz.sum:=by rw [aT,Ed,Bm]
  refine ⟨_,rfl,x,dx,fs,rfl,h1,lm _ (by decide +kernel),x,_,_,rfl,O1,_,rfl,by omega,by omega,?_⟩
  rw [epl]
  refine G9 (lo:=0) (n:=sz.sum) (fun _=>true) (fun key=>.int (Wd.mk (cl.filterMap (gk c sz kbs key.toNat)):Nat)) (BJ (by omega)) (fun i hi H' hs R k=>k H' (Ao.refl H')) (fun i hi _ H' hs R k=>?_) (fun D3 H3 hD3 s3 hl3=>?_)
  ·have et:((0:Int)+(i:Int))=((i:Nat):Int):=by omega
   rw [et] at k ⊢
   refine ⟨_,rfl,_,rfl,_,rfl,x,CL,c,sz,kbs,cl,i,rfl,O1.mono hs,hkb,hs _ _ hl1,fun k0 hk0=>?_,hcll,hi,h305,fun H4 s4=>?_⟩
   ·obtain ⟨z,hz,hc,_⟩:=(hcl k0).mp hk0
    exact ⟨z,hz,hc⟩
   ·have kk:=k H4 s4
    rw [aT] at kk
    exact kk
  have hl3':H3 D3=some (.lst (nV (os0 c sz kbs cl))):=by
   rw [hl3,bt.mpr (fun _ _=>rfl)]
   unfold nV os0
   rw [bo,bo]
   congr 2
   refine kq fun i _=>?_
   show V.int ((Wd.mk (cl.filterMap (gk c sz kbs ((0:Int)+(i:Int)).toNat)):Nat):Int)=V.int ((Wd.mk (cl.filterMap (gk c sz kbs i)):Nat):Int)
   rw [show ((0:Int)+(i:Int))=((i:Nat):Int) by omega,Int.toNat_natCast]
  refine ⟨D3,os0 c sz kbs cl,rfl,hl3',by rw [JN]; exact h305,fun DL l H4 hDL s4 hl4 ln inv=>?_⟩
  refine q DL l H4 ((s1.trans s3).free hDL) (s1.trans (s3.trans s4)) hl4 (ln.trans JN) fun i hi j=>?_
  rw [inv i (by rw [JN]; exact hi) j]
  have es:st0 (os0 c sz kbs cl)=stp (Bb c sz) kbs D:=funext fun a=>funext fun b=>propext (W3 hcl a b)
  rw [es]
  refine Ww.rJ fun a b hs=>?_
  refine byC fun w_=>?_;obtain ⟨k,z,_,_,e⟩:=hs;refine w_ ?_
  have:=Lq e
  rw [Bm] at this
  rw [JN]
  exact this
noncomputable def Oz (c:Nat->Str) (sz:List Nat) (rk:List (Str × Nat × Int)) (kbs:List Kb) (ls:List (List Ln)) (D i r:Nat):Prop:=∃ (cl:List Nat) (n:Nat),r=Xr sz rk kbs ls cl n/\(∀ k,k∈cl ↔ ∃ z,kbs[k]? = some z/\z.w = "stop" /\ D.testBit k=true) /\
 ∀ j,n.testBit j=true ↔ JB (stp (Bb c sz) kbs D) (fun a=>a=i) j \/ (j=i/\∀ b,V4 sz j b->¬ JX kbs D b)
noncomputable def Ea (rw:List Nat):List (Key × V):=rw.zipIdx.map fun p=>(kI p.2,V.int ((p.1:Nat):Int))
theorem Ky (rw:List Nat):(Ea rw).length=rw.length:=by
 unfold Ea
 rw [ai,ky]
theorem J2 (rw:List Nat) (r:Nat):Ea (rw++[r])=Ea rw++[(kI rw.length,V.int ((r:Nat):Int))]:=by
 unfold Ea
 rw [ip,br,iP]
 rfl
theorem getD_snoc (rw:List Nat) (r:Nat):(rw++[r]).getD rw.length 0=r:=by
 rw [ax,cv (aE _),iO]
 rfl
theorem Kw {rw:List Nat} {r i:Nat} (h:i<rw.length):(rw++[r]).getD i 0=rw.getD i 0:=by
 rw [ax,ax,eJ h]
theorem Ss:∀ (n:Nat) (rw:List Nat),rw.length=n->∀ (i:Nat),Cd (Ea rw) (kI i)=if i<rw.length then some (V.int ((rw.getD i 0:Nat):Int)) else none:=fun n=>by
 induction n with
 | zero=>intro rw h i; rw [ix.mp h]; rfl
 | succ n ih0 =>
  intro rw h i
  obtain ⟨rw,r,rfl⟩:∃ r' x,rw=r'++[x]:=by
   rcases List.eq_nil_or_concat rw with e | ⟨a,b,e⟩
   ·rw [e] at h; cases h
   ·exact ⟨a,b,by rw [e,List.concat_eq_append]⟩
  have ih:=ih0 rw (by rw [av] at h; exact Nat.succ.inj h)
  have hnew:Cd (Ea rw) (kI rw.length)=none:=by rw [ih,if_neg (fq _)]
  rw [J2,← K4 _ hnew,Dl,ih,av,bq]
  by_cases e:i=rw.length
  ·subst e
   rw [if_pos rfl,if_pos (eT _),getD_snoc]
  ·have ne:¬ (kI i=kI rw.length):=fun z=>e (Int.ofNat_inj.mp (Sum.inl.inj z))
   rw [if_neg ne]
   by_cases h:i<rw.length
   ·rw [if_pos h,if_pos (by omega),Kw h]
   ·rw [if_neg h,if_neg (by omega)]
theorem QJ (rw:List Nat) (i:Nat):Cd (Ea rw) (kI i)=if i<rw.length then some (V.int ((rw.getD i 0:Nat):Int)) else none:=Ss _ rw rfl i
theorem K6 {n m:Nat} (hm:m<=305) (h:∀ j,n.testBit j=true->j<m):n<2 ^ 1200:=by
 refine ib n fun i hi=>?_
 cases e:n.testBit i with
 | false=>rfl
 | true=>have:=h i e; omega
noncomputable def iR (C:Addr):Sp:=fun vs H Q _=>∃ (x:Addr) (c:Nat->Str) (sz:List Nat) (rk:List (Str × Nat × Int)) (kbs:List Kb) (ls:List (List Ln)) (D:Nat),vs=[.ref x,.int (D:Nat)]/\CN C H x (Bb c sz) rk (CJ c kbs) ls/\Nz sz.length kbs/\Wg rk ls /\
 ∀ dd (rw:List Nat) H',H dd=none->Ao H H'->H' dd=some (.dK (Ea rw))->rw.length=sz.sum->(∀ i,i<sz.sum->Oz c sz rk kbs ls D i (rw.getD i 0))->Q (.ref dd) H'
theorem VP:Aw ["organ","knobs","rows","key","coupled","speaking"] ["organ","knobs"] (Af oX):=Bo
include N T in
theorem dj:Av P w K mg base Bg 6 aD.fCr aD.dCr ["organ","knobs"] (iR C):=by
 refine N.FCr.1.ok VP (fun vs H Q E h=>?_) (fun cdv A outer s H vs Q E hr h=>?_)
 ·refine byC fun w_=>?_;obtain ⟨x,c,sz,rk,kbs,ls,D,rfl,_⟩:=h;refine w_ ?_
  rfl
 ·refine byC fun w_=>?_;obtain ⟨x,c,sz,rk,kbs,ls,D,rfl,O,hkb,hls,q⟩:=h;refine w_ ?_
  have hu:=Ei hr
  refine ⟨_,(Ac (Bh (i:=2) VP.nd rfl (Or.inl rfl) Hu)
   (Ac (C_ PassesOwn.never rfl (Gy rfl T.enumerate (Aa (Aj (eQ N T) (ad hr) rfl N.FCb.2.2 N.FCb.1.kp N.FCb.2.1 .nil An (Aa (pv 0) (Aa (pv 1) Ab))) Ab)) (Du rfl (Bf (BZ (i:=3) VP.nd rfl (Or.inl rfl)) (Bf (BZ (i:=4) VP.nd rfl (Or.inl rfl)) DP))) (Ac (Bh (i:=5) VP.nd rfl (Or.inl rfl) (BK Lw (pv 4) (Aj (YQ N T) (ad hr) rfl N.FUk.2.2 N.FUk.1.kp N.FUk.2.1 .nil An (Aa (pv 0) (Aa (pv 1) (Aa (Aj (RL N T) (ad hr) rfl N.FSt.2.2 N.FSt.1.kp N.FSt.2.1 .nil An (Aa (DW (Aa (pv 3) Ab)) Ab)) Ab))))))
   (Ai (G6 hu (pv 2) (pv 3) (Aj (YH N T) (ad hr) rfl N.FBa.2.2 N.FBa.1.kp N.FBa.2.1 .nil An (Aa (pv 0) (Aa (pv 1) (Aa (pv 5) Ab)))) rfl))))
   (Ai (Ay (pv 2))))),?_⟩
  have h305:sz.sum<=305:=by
   have:=Ep O.o
   rw [Bm] at this
   exact this
  intro dd hdd
  obtain ⟨H0,eqH,s0,a0⟩:=Ft (o:=HO.dK []) hdd
  rw [eqH]
  refine ⟨_,rfl,_,rfl,x,c,sz,kbs,D,rfl,(O.mono s0).o,hkb,fun DL l H1 hDL s1 hl1 ln inv=>?_⟩
  have nd:dd ≠ DL:=Ak a0 hDL
  have lv:(nV l).length=sz.sum:=by unfold nV; rw [List.length_map]; exact ln
  refine ⟨DL,rfl,⟨_,kR hl1⟩,Gq (K:=K) (a:=DL) (xs:=nV l) (fun i σ H4=>Ao H H4/\H4 DL=some (.lst (nV l))/\∃ (rw:List Nat) (v3 v4 v5:Option V),σ=[some (.ref x),some (.int (D:Nat)),some (.ref dd),v3,v4,v5]/\H4 dd=some (.dK (Ea rw))/\rw.length=i/\∀ k,k<i->Oz c sz rk kbs ls D k (rw.getD k 0)) ⟨s0.trans s1,hl1,[],_,_,_,rfl,s1 _ _ a0,rfl,fun k hk=>absurd hk (ge _)⟩ (fun i σ H4 _ h=>kR h.2.1) ?_ ?_⟩
  ·rintro i y σ H4 T0 hy ⟨s4,b4,rw,v3,v4,v5,rfl,d4,lr,hr4⟩ hT
   have hil:i<sz.sum:=by
    have:=(ah.mp hy).1
    omega
   obtain rfl:V.int ((l.getD i 0:Nat):Int)=y:=by
    unfold nV at hy
    rw [ar,ae (by omega)] at hy
    rw [ax,ae (by omega)]
    exact Option.some.inj hy
   have s5:=A_ (o:=HO.tup [.int (i:Int),V.int ((l.getD i 0:Nat):Int)]) hT
   refine ⟨T0,_,rfl,kR Ah,rfl,_,_,rfl,_,_,rfl,rfl,?_⟩
   generalize upd H4 T0 (HO.tup [.int (i:Int),V.int ((l.getD i 0:Nat):Int)])=H5 at s5 ⊢
   refine ⟨_,rfl,_,rfl,_,rfl,_,rfl,by show 1<=sizeLine; decide,fun pp hpp=>?_⟩
   have s6:=A_ (o:=HO.lst [V.int (i:Int)]) hpp
   have a6:upd H5 pp (HO.lst [V.int (i:Int)]) pp=some (.lst (nV [i])):=Ah
   generalize upd H5 pp (HO.lst [V.int (i:Int)])=H6 at s6 a6 ⊢
   have b1:∀ j,(Wd.mk [i]).testBit j=true ↔ j=i:=fun j=>by rw [Wd.LC,decide_eq_true_eq,aS]
   refine ⟨pp,[i],rfl,a6,by show 1<=500; decide,fun n hn=>by rw [List.mem_singleton.mp hn]; omega,fun H7 s7=>?_⟩
   have s07:=s4.trans (s5.trans (s6.trans s7))
   refine ⟨x,c,sz,kbs,D,Wd.mk [i],rfl,(O.mono s07).o,hkb,K6 h305 fun j hj=>by rw [(b1 j).mp hj]; exact hil,fun j hj=>by rw [(b1 j).mp hj]; exact hil,h305,fun m H8 s8 hm=>⟨_,_,rfl,rfl,?_⟩⟩
   dsimp only
   rw [Hv]
   have bn:∀ j,(l.getD i 0 ||| m).testBit j=true ↔ JB (stp (Bb c sz) kbs D) (fun a=>a=i) j \/ (j=i/\∀ b,V4 sz j b->¬ JX kbs D b):=fun j=>by
    rw [iL,ko,inv i hil,hm,b1]
   have bl:∀ j,(l.getD i 0 ||| m).testBit j=true->j<sz.sum:=fun j hj=>by
    rcases (bn j).mp hj with z | z
    ·have:j<((Bb c sz).map (·.2)).sum:=by
      cases z with
      | one _ b=>obtain ⟨_,_,_,_,e⟩:=b; exact Lq e
      | more _ b=>obtain ⟨_,_,_,_,e⟩:=b; exact Lq e
     rw [Bm] at this
     exact this
    ·rw [z.1]; exact hil
   have s08:=s07.trans s8
   refine ⟨_,rfl,_,rfl,_,rfl,x,c,sz,rk,kbs,ls,D,l.getD i 0 ||| m,rfl,O.mono s08,hkb,hls,K6 h305 bl,fun cl H9 s9 hcl=>?_⟩
   have s49:=s5.trans (s6.trans (s7.trans (s8.trans s9)))
   have d9:=s49 _ _ d4
   have lk:=Ky rw
   refine ⟨_,rfl,_,rfl,dd,_,rfl,Kq.k (k:=kI i) d9 (BJ (by omega)),?_⟩
   have hnew:Cd (Ea rw) (kI i)=none:=by rw [QJ,if_neg (by omega)]
   rw [K4 _ hnew]
   refine ⟨fun b u e=>by rw [Ar (Ak e hdd)]; exact s49 _ _ (s4 _ _ e),by rw [Ar nd.symm]; exact s49 _ _ b4,rw++[Xr sz rk kbs ls cl (l.getD i 0 ||| m)],_,_,_,rfl,?_,by rw [av,lr]; rfl,fun k hk=>?_⟩
   ·rw [Ah,J2,lr]
   ·by_cases e:k<i
    ·rw [Kw (by omega)]
     exact hr4 k e
    ·have e2:k=i:=by omega
     subst e2
     rw [← lr,getD_snoc,lr]
     exact ⟨cl,_,rfl,hcl,bn⟩
  ·rintro σ H4 ⟨s4,b4,rw,v3,v4,v5,rfl,d4,lr,hr4⟩
   rw [lv] at lr hr4
   exact ⟨_,rfl,q dd rw H4 hdd s4 d4 lr hr4⟩
structure Od (Cy:Addr) (H:Hp) (y:Addr) (rw:List Nat):Prop where
 ex:∃ dy dd o,H y=some (.ins Cy dy [("row_sets",.ref dd)])/\H dd=some (.frz o (.dK (Ea rw)))
theorem Od.mono {Cy:Addr} {H H':Hp} {y:Addr} {rw:List Nat} (s:Ao H H') (h:Od Cy H y rw):Od Cy H' y rw:=by
 refine byC fun w_=>?_;obtain ⟨dy,dd,o,e1,e2⟩:=h.ex;refine w_ ?_
 exact ⟨dy,dd,o,s _ _ e1,s _ _ e2⟩
noncomputable def cR (C Cy:Addr):Sp:=fun vs H Q _=>∃ (y dy x:Addr) (c:Nat->Str) (sz:List Nat) (rk:List (Str × Nat × Int)) (kbs:List Kb) (ls:List (List Ln)) (D:Nat),vs=[.ref y,.ref x,.int (D:Nat)]/\H y=some (.ins Cy dy [])/\CN C H x (Bb c sz) rk (CJ c kbs) ls/\Nz sz.length kbs/\Wg rk ls /\
 ∀ (rw:List Nat) H',SX y H H'->Od Cy H' y rw->rw.length=sz.sum->(∀ i,i<sz.sum->Oz c sz rk kbs ls D i (rw.getD i 0))->Q .non H'
theorem qX:Aw ["self","organ","knobs"] ["self","organ","knobs"] (Af mY):=Bo
include N T in
theorem cQ:Av P w K mg base Bg 7 aD.fRi aD.dRi ["self","organ","knobs"] (cR C Cy):=by
 refine N.FRi.1.ok qX (fun vs H Q E h=>?_) (fun cdv A outer s H vs Q E hr h=>?_)
 ·refine byC fun w_=>?_;obtain ⟨y,dy,x,c,sz,rk,kbs,ls,D,rfl,_⟩:=h;refine w_ ?_
  rfl
 ·refine byC fun w_=>?_;obtain ⟨y,dy,x,c,sz,rk,kbs,ls,D,rfl,hy,O,hkb,hls,q⟩:=h;refine w_ ?_
  refine ⟨_,(Z0 (Ai (Fp (pv 0) (Aj (dj N T) (ad hr) rfl N.FCr.2.2 N.FCr.1.kp N.FCr.2.1 .nil An (Aa (pv 1) (Aa (pv 2) Ab))) rfl))),?_⟩
  refine ⟨_,rfl,_,rfl,x,c,sz,rk,kbs,ls,D,rfl,O,hkb,hls,fun dd rw H1 hdd s1 d1 lr hr1=>?_⟩
  have ny:dd ≠ y:=Ne.symm (Ak hy hdd)
  refine ⟨_,rfl,y,Cy,dy,_,rfl,s1 _ _ hy,T.clR,T.nr_row_sets,(by show 0<1000; decide),?_⟩
  refine ⟨dd,Ea rw,by rw [Ar ny]; exact d1,fun o=>?_⟩
  refine q rw _ (fun b u e n=>?_) ⟨dy,dd,o,?_,Ah⟩ lr hr1
  ·rw [Ar (Ak e hdd),Ar n]
   exact s1 _ _ e
  ·rw [Ar (Ne.symm ny),Ah]
   rfl
noncomputable def Np (rw:List Nat) (n:Nat):Nat:=Tw (((List.range rw.length).filter fun i=>n.testBit i).map fun i=>rw.getD i 0)
noncomputable def iz (Cy:Addr):Sp:=fun vs H Q _=>∃ (y:Addr) (rw:List Nat) (n:Nat),vs=[.ref y,.int (n:Nat)]/\Od Cy H y rw/\rw.length<=305/\∀ H',Ao H H'->Q (.int ((Np rw n:Nat):Int)) H'
theorem Ph {rw:List Nat} {kv:Key × V} (h:kv∈Ea rw):∃ i,i<rw.length/\kv=(kI i,V.int ((rw.getD i 0:Nat):Int)):=by
 obtain ⟨p,hp,rfl⟩:=aI.mp h
 obtain ⟨j,hj⟩:=fh hp
 rw [dn] at hj
 obtain ⟨a,ha,e⟩:=bb.mp hj
 have e':p=(a,j):=by rw [← e]; simp
 subst e'
 refine ⟨j,(ah.mp ha).1,?_⟩
 rw [ax,ha]
 rfl
theorem Ms (rw:List Nat):Ea rw=(List.range rw.length).map fun i=>(kI i,V.int ((rw.getD i 0:Nat):Int)):=by
 refine gc fun i=>?_
 unfold Ea
 rw [ar,dn,ar]
 by_cases h:i<rw.length
 ·rw [ae h,ku h]
  show some (kI (0+i),V.int ((rw[i]:Nat):Int))=some (kI i,V.int ((rw.getD i 0:Nat):Int))
  rw [ax,ae h,iP]
  rfl
 ·rw [fv (by omega),fv (by rw [fA]; omega)]
  rfl
theorem l_:Aw ["self","held"] ["self","held"] (Af jw):=Bo
include N T in
theorem ie:Av P w K mg base Bg 2 aD.fRs aD.dRs ["self","held"] (iz Cy):=by
 refine N.FRs.1.ok l_ (fun vs H Q E h=>?_) (fun cdv A outer s H vs Q E hr h=>?_)
 ·refine byC fun w_=>?_;obtain ⟨y,rw,n,rfl,_⟩:=h;refine w_ ?_
  rfl
 ·refine byC fun w_=>?_;obtain ⟨y,rw,n,rfl,R,h305,q⟩:=h;refine w_ ?_
  refine ⟨_,(Ai (Ay (Aj (Vl N T) (ad hr) rfl N.FUn.2.2 N.FUn.1.kp N.FUn.2.1 .nil An (Aa (Nj rfl (I_ (osc:=Af jw) (N:=["self","held"]) rfl rfl (by decide +kernel)) (Vb (Cu (pv 0) rfl)) (fun _ _ _ _=>G3 (Di (Aj (J3 N T) (ad hr) rfl N.FHa.2.2 N.FHa.1.kp N.FHa.2.1 .nil An (Aa (pv 3) (Aa (pv 0) Ab))))) (fun _ _ _ _=>(pv 1))) Ab)))),?_⟩
  refine byC fun w_=>?_;obtain ⟨dy,dd,ob,e1,e2⟩:=R.ex;refine w_ ?_
  have lk:=Ky rw
  refine ⟨_,rfl,y,Cy,dy,_,_,rfl,e1,T.clR,T.nr_row_sets,rfl,dd,ob,Ea rw,rfl,e2,?_⟩
  refine Pj (K:=K) (fun kv=>match kv.1 with | .inl i=>decide (0<=i) && n.testBit i.toNat | .inr _=>false) (fun kv=>kv.2) e2 (BJ (by omega)) (fun kv hkv H' hs R k=>?_) (fun kv hkv _ H' hs R k=>⟨_,rfl,k H' (Ao.refl H')⟩) (fun D3 H3 hD3 s3 hl3=>?_)
  ·obtain ⟨i,hi,rfl⟩:=Ph hkv
   exact ⟨_,rfl,_,rfl,n,(i:Nat),rfl,_,rfl,k H' (Ao.refl H')⟩
  have hl3':H3 D3=some (.lst (nV (((List.range rw.length).filter fun i=>n.testBit i).map fun i=>rw.getD i 0))):=by
   rw [hl3,Ms]
   unfold nV
   rw [eS,bo,bo]
   congr 2
  exact ⟨D3,_,rfl,hl3',by rw [ai]; exact bE (dt _ _) (by rw [fA]; omega),q H3 s3⟩
open Bw
theorem pq {c:Int}:0<=(if c<0 then -c else c):=by split <;> omega
theorem Ry:Aw ["_law_script","_law_start","_law_cells","_law_number","_law_k","_law_mixed"] ["_law_script","_law_start"] (Af jl):=Bo
include N T in
theorem iW:Av P w K mg base Bg 1 aD.fDn aD.dDn ["_law_script","_law_start"] (gO K):=by
 refine N.FDn.1.ok Ry (fun vs H Q E h=>?_) (fun cdv A outer s H vs Q E hr h=>?_)
 ·refine byC fun w_=>?_;obtain ⟨a,st,ns,rfl,_⟩:=h;refine w_ ?_
  rfl
 ·refine byC fun w_=>?_;obtain ⟨a,st,ns,rfl,hS,h0,h1,hz,q⟩:=h;refine w_ ?_
  refine ⟨_,(@Ac _ _ _ _ _ (@BW _ _ _ _ _ _ 2 Ry.nd rfl (Or.inl rfl) (BK Mu (Bu rfl (Be (osc:=Af jl) (N:=["_law_script","_law_start","_law_cells","_law_number","_law_k","_law_mixed"]) rfl rfl (by decide +kernel)) (Bp (FW G4 (pv 0) Gw (Fx Ae))) (fun _ _ _ _=>CW) (fun _ _ _ _=>(BP Ux rfl T.abs PyProof.Rows.boot_abs (@Ax _ _ _ _ _ rfl (pv 0) Ab)))) (@DW _ _ _ _ (@Ax _ _ _ _ _ rfl Ae Ab))) (by kernel_rfl) (.inl rfl))
   (@Ac _ _ _ _ _ (@BW _ _ _ _ _ _ 3 Ry.nd rfl (Or.inl rfl) (pv 1) (by kernel_rfl) (.inl rfl))
   (@Ac _ _ _ _ _ (C_ PassesOwn.never rfl (CP rfl T.range (@Ax _ _ _ _ _ rfl (BP BV rfl T.len bX (@Ax _ _ _ _ _ rfl (pv 2) Ab)) Ab)) (BZ (i:=4) Ry.nd rfl (Or.inl rfl)) (@Ai _ _ _ (@BW _ _ _ _ _ _ 3 Ry.nd rfl (Or.inl rfl) (BK El (BK B_ (BK B_ (BK FN (pv 3) Ae) (BK FN (BK El (@Am _ _ _ _ _ _ _ Bj (pv 2) (pv 4) (fun _ _=>rfl)) Ae) (BK B_ (BK FN (pv 4) (pv 4)) Ae))) Ae) Ae) (by kernel_rfl) (.inl rfl))))
   (@Ac _ _ _ _ _ (@BW _ _ _ _ _ _ 5 Ry.nd rfl (Or.inl rfl) (BK FN (BK El (@Am _ _ _ _ _ _ _ Bj (pv 2) Ae (fun _ _=>rfl)) Ae) (BP BV rfl T.len bX (@Ax _ _ _ _ _ rfl (pv 2) Ab))) (by kernel_rfl) (.inl rfl))
   (@Ac _ _ _ _ _ (Ex (BK IW (@Am _ _ _ _ _ _ _ Bj (pv 2) Ae (fun _ _=>rfl)) Ae) (Je (pv 2) Ae set_list))
   (@Ai _ _ _ (@Ay _ _ _ _ (@DW _ _ _ _ (@Ax _ _ _ _ _ rfl (pv 2) (@Ax _ _ _ _ _ rfl (pv 5) (@Ax _ _ _ _ _ rfl (pv 3) (@Ax _ _ _ _ _ rfl Ae Ab)))))))))))),?_⟩
  refine ⟨_,rfl,_,rfl,a,_,rfl,hS,fun p1 hp1=>?_⟩
  obtain ⟨ms,em,hm⟩:=Ox ns none (some 63)
  rw [em]
  have s1:=A_ (o:=HO.lst (ms.map V.int)) hp1
  have l1:Cz K (upd H p1 (HO.lst (ms.map V.int))) p1 (ms.map V.int):=.inl (.inl Ah)
  generalize upd H p1 (HO.lst (ms.map V.int))=H1 at s1 l1 ⊢
  refine ⟨p1,rfl,⟨_,l1⟩,Cv (K:=K) (xs:=ms.map V.int) (fun _=>true) (fun v=>match v with | .int i=>.int (if i<0 then -i else i) | x=>x) l1 (BJ (by simp; omega)) (fun x hx H' hs R k=>k H' (Ao.refl H')) (fun x hx _ H' hs R k=>?_) (fun D H2 hD hs hl=>?_)⟩
  ·obtain ⟨i,_,rfl⟩:=aI.mp hx
   exact ⟨_,rfl,i,rfl,k H' (Ao.refl H')⟩
  rw [bt.mpr (fun _ _=>rfl),bo] at hl
  have hl':H2 D=some (.lst ((ms.map fun i=>if i<0 then -i else i).map V.int)):=by rw [hl,bo]; rfl
  clear hl
  have hnn:∀ c∈ms.map (fun i:Int=>if i<0 then -i else i),(0:Int)<=c:=fun c hc=>by
   obtain ⟨i,_,rfl⟩:=aI.mp hc
   exact pq
  have hml:(ms.map fun i:Int=>if i<0 then -i else i).length<=63:=by rw [ai]; omega
  generalize (ms.map fun i:Int=>if i<0 then -i else i)=as at hl' hnn hml
  refine ⟨by show 1<=sizeLine; decide,fun p3 hp3=>?_⟩
  obtain ⟨H3,eqH,s3,l3⟩:=Ft (o:=HO.lst [V.int 0]) hp3
  rw [eqH]
  refine ⟨D,p3,_,_,rfl,rfl,s3 _ _ hl',l3,Fl (by simp; omega),fun pc hpc=>?_⟩
  have s4:=A_ (o:=HO.lst (as.map V.int++[V.int 0])) hpc
  have l4:upd H3 pc (HO.lst (as.map V.int++[V.int 0])) pc=some (.lst ((as++[0]).map V.int)):=by rw [Ah,br]; rfl
  have hn4:∀ c∈as++[0],(0:Int)<=c:=fun c hc=>by
   rcases ba.mp hc with h | h
   ·exact hnn c h
   ·rw [aS.mp h]; exact Int.le_refl _
  have hl4:0<(as++[0]).length/\(as++[(0:Int)]).length<=64:=by rw [av,bq]; omega
  have hfree:H pc=none:=(s1.trans (hs.trans s3)).free hpc
  have s04:=s1.trans (hs.trans (s3.trans s4))
  generalize upd H3 pc (HO.lst (as.map V.int++[V.int 0]))=H4 at s4 l4 s04 ⊢
  generalize as++[0]=cs at l4 hn4 hl4
  clear s1 l1 hl' hnn hml s3 l3 s4 hpc hp3 hp1 hD hs
  have qc:Cz K H4 pc (cs.map V.int):=.inl (.inl l4)
  have hlen:(cs.map V.int).length=cs.length:=ai ..
  refine ⟨_,rfl,?_⟩
  refine ⟨_,rfl,pc,_,rfl,.inl qc,_,rfl,by omega,by omega,GC (lo:=0) (n:=(((cs.map V.int).length:Nat):Int).toNat) (fun i σ H5=>H5=H4/\∃ (num:Int) (v4:Option V),0<=num/\num<2147483647/\σ=[some (.ref a),some (.int st),some (.ref pc),some (.int num),v4,none]) ⟨rfl,st,none,h0,h1,rfl⟩ ?_ ?_⟩
  ·rintro i σ H5 hi ⟨rfl,num,v4,hn0,hn1,rfl⟩
   obtain ⟨c,_,hc,hat⟩:=Nt (ns:=cs) (i:=(0:Int)+(i:Int)) (by omega) (by omega)
   have c0:0<=c % 2147483647/\c % 2147483647<2147483647:=⟨fI _ (by decide),fm _ (by decide)⟩
   refine ⟨_,rfl,_,_,rfl,rfl,.inr ⟨by decide,by decide⟩,_,rfl,_,rfl,pc,_,_,_,rfl,rfl,qc,hat,_,_,rfl,rfl,(by show (0:Int)<2147483647; decide),_,rfl,_,rfl,_,_,rfl,rfl,.inl ⟨by omega,by omega⟩,_,_,rfl,rfl,_,_,rfl,rfl,.inl ⟨by omega,by omega⟩,_,_,rfl,rfl,_,_,rfl,rfl,_,_,rfl,rfl,(by show (0:Int)<2147483629; decide),?_⟩
   refine ⟨rfl,_,_,fI _ (by decide),?_,rfl⟩
   exact Int.lt_trans (fm _ (by decide)) (by decide)
  ·rintro σ H5 ⟨rfl,num,v4,hn0,hn1,rfl⟩
   obtain ⟨c,ec,hc,hat⟩:=Nt (ns:=cs) (i:=0) (by decide) (by omega)
   have m2:0<=c % 2/\c % 2<2:=⟨fI _ (by decide),fm _ (by decide)⟩
   refine ⟨_,rfl,pc,_,_,_,rfl,rfl,qc,hat,_,_,rfl,rfl,(by show (0:Int)<2; decide),_,rfl,pc,_,rfl,.inl qc,_,_,rfl,rfl,.inl ⟨by omega,by omega⟩,?_⟩
   have hmx:0<=c % 2 * ((cs.map V.int).length:Int)/\c % 2 * ((cs.map V.int).length:Int)<=cs.length:=by
    rw [hlen]
    have:c % 2=0 \/ c % 2=1:=by omega
    rcases this with e | e <;> rw [e] <;> omega
   show Dy 5 (V.int (c % 2 * ((cs.map V.int).length:Int))) _ _ _
   generalize c % 2 * ((cs.map V.int).length:Int)=mx at hmx
   refine ⟨_,rfl,pc,_,_,_,rfl,rfl,qc,hat,_,_,rfl,rfl,⟨by decide,by decide⟩,_,rfl,pc,_,0,0,rfl,rfl,l4,VB (by decide) (by omega),?_⟩
   have e5:((cs.map V.int).set 0 (V.int (c / 2)))=(cs.set 0 (c / 2)).map V.int:=by rw [List.map_set]
   have l5:upd H5 pc (HO.lst ((cs.map V.int).set 0 (V.int (c / 2)))) pc=some (.lst ((cs.set 0 (c / 2)).map V.int)):=by rw [Ah,e5]
   have s5:Ao H (upd H5 pc (HO.lst ((cs.map V.int).set 0 (V.int (c / 2))))):=fun b o e=>by rw [Ar (Ak e hfree)]; exact s04 b o e
   generalize upd H5 pc (HO.lst ((cs.map V.int).set 0 (V.int (c / 2))))=H6 at l5 s5 ⊢
   refine ⟨_,rfl,_,rfl,_,rfl,by show 4<=sizeLine; decide,fun dh hdh=>?_⟩
   refine q dh pc _ (s5.free hdh) hfree (s5.trans (A_ hdh)) ?_
   refine ⟨cs.set 0 (c / 2),mx,num,Ah,?_,?_,?_,hmx.1,by rw [gX]; exact hmx.2,hn0,hn1,by rw [gX]; exact hl4⟩
   ·rw [Ar (Ak l5 hdh)]
    exact l5
   ·intro e
    rw [e,l5] at hdh
    cases hdh
   ·intro x hx
    rcases List.mem_or_eq_of_mem_set hx with h | h
    ·exact hn4 x h
    ·rw [h]
     have:=hn4 c hc
     omega
theorem W_:Aw ["_law_drawn_here","_law_many","_law_cells","_law_turn","_law_digit"] ["_law_drawn_here","_law_many"] (Af o9):=Bo
include N T in
theorem Q5:Av P w K mg base Bg 1 aD.fDw aD.dDw ["_law_drawn_here","_law_many"] Uv:=by
 refine N.FDw.1.ok W_ (fun vs H Q E h=>?_) (fun cdv A outer s H vs Q E hr h=>?_)
 ·refine byC fun w_=>?_;obtain ⟨dh,pc,n,many,rfl,_⟩:=h;refine w_ ?_
  rfl
 ·refine byC fun w_=>?_;obtain ⟨dh,pc,n,many,rfl,⟨cs,m,r,hd,hp,ne,hn,hm0,hm1,hr0,hr1,hl⟩,hnn,hma,hmb,q⟩:=h;refine w_ ?_
  refine ⟨_,(@Ac _ _ _ _ _ (@BW _ _ _ _ _ _ 2 W_.nd rfl (Or.inl rfl) (@Am _ _ _ _ _ _ _ Bj (pv 0) Ae (fun _ _=>rfl)) (by kernel_rfl) (.inl rfl))
   (@Ac _ _ _ _ _ (Ex (BK B_ (@Am _ _ _ _ _ _ _ Bj (pv 0) Ae (fun _ _=>rfl)) Ae) (Je (pv 0) Ae set_list))
   (@Ac _ _ _ _ _ (Kf PassesOwn.never (PW.pt (Jw (BX HD (@Am _ _ _ _ _ _ _ Bj (pv 0) Ae (fun _ _=>rfl)) (BP BV rfl T.len bX (@Ax _ _ _ _ _ rfl (pv 2) Ab)) (Bc _)) (Hx (BX Cp (@Am _ _ _ _ _ _ _ Bj (pv 2) (@Am _ _ _ _ _ _ _ Bj (pv 0) Ae (fun _ _=>rfl)) (fun _ _=>rfl)) Ae (Bc _))))) (@Ai _ _ _ (Ex (BK B_ (@Am _ _ _ _ _ _ _ Bj (pv 0) Ae (fun _ _=>rfl)) Ae) (Je (pv 0) Ae set_list))))
   (@Ac _ _ _ _ _ (@Br _ _ _ _ _ _ _ _ (BX Cp (@Am _ _ _ _ _ _ _ Bj (pv 0) Ae (fun _ _=>rfl)) (BP BV rfl T.len bX (@Ax _ _ _ _ _ rfl (pv 2) Ab)) (Bc _)) (@Ac _ _ _ _ _ (@BW _ _ _ _ _ _ 3 W_.nd rfl (Or.inl rfl) (@Am _ _ _ _ _ _ _ Bj (pv 0) Ae (fun _ _=>rfl)) (by kernel_rfl) (.inl rfl))
   (@Ac _ _ _ _ _ (Ex (BK El (BK B_ (BK B_ (BK FN (@Am _ _ _ _ _ _ _ Bj (pv 0) Ae (fun _ _=>rfl)) Ae) (BK FN (BK FN (pv 3) (pv 3)) (pv 3))) Ae) Ae) (Je (pv 0) Ae set_list))
   (@Ai _ _ _ (@Ay _ _ _ _ (BK El (BK IW (BK El (BK FN (@Am _ _ _ _ _ _ _ Bj (pv 0) Ae (fun _ _=>rfl)) (@Am _ _ _ _ _ _ _ Bj (pv 0) Ae (fun _ _=>rfl))) Ae) Ae) (pv 1)))))) Ba)
   (@Ac _ _ _ _ _ (@BW _ _ _ _ _ _ 4 W_.nd rfl (Or.inl rfl) (BK El (@Am _ _ _ _ _ _ _ Bj (pv 2) (@Am _ _ _ _ _ _ _ Bj (pv 0) Ae (fun _ _=>rfl)) (fun _ _=>rfl)) (pv 1)) (by kernel_rfl) (.inl rfl))
   (@Ac _ _ _ _ _ (Ex (BK IW (@Am _ _ _ _ _ _ _ Bj (pv 2) (@Am _ _ _ _ _ _ _ Bj (pv 0) Ae (fun _ _=>rfl)) (fun _ _=>rfl)) (pv 1)) (Je (pv 2) (@Am _ _ _ _ _ _ _ Bj (pv 0) Ae (fun _ _=>rfl)) set_list))
   (@Ai _ _ _ (@Ay _ _ _ _ (pv 4))))))))),?_⟩
  have qd:Cz K H dh _:=.inl (.inl hd)
  refine ⟨_,rfl,dh,_,_,_,rfl,rfl,qd,Ag (j:=0) rfl,?_⟩
  refine ⟨_,rfl,dh,_,_,_,rfl,rfl,qd,Ag (j:=3) rfl,_,_,rfl,rfl,_,rfl,dh,_,3,3,rfl,rfl,hd,rfl,?_⟩
  have d1:upd H dh (HO.lst ([V.ref pc,V.int m,V.int r,V.int (n:Int)].set 3 (V.int ((n:Int)+1)))) dh=some (.lst [V.ref pc,V.int m,V.int r,V.int ((n+1:Nat):Int)]):=Ah
  have f1:Y7 H (upd H dh (HO.lst ([V.ref pc,V.int m,V.int r,V.int (n:Int)].set 3 (V.int ((n:Int)+1))))) dh pc:=fun b h1 h2=>Ar h1
  have p1:upd H dh (HO.lst ([V.ref pc,V.int m,V.int r,V.int (n:Int)].set 3 (V.int ((n:Int)+1)))) pc=some (.lst (cs.map V.int)):=by rw [Ar (Ne.symm ne)]; exact hp
  generalize upd H dh (HO.lst ([V.ref pc,V.int m,V.int r,V.int (n:Int)].set 3 (V.int ((n:Int)+1))))=H1 at d1 f1 p1 ⊢
  refine K3 ?_
  have hlen:(cs.map V.int).length=cs.length:=ai ..
  refine KQ (fun σ H4=>σ=[some (.ref dh),some (.int many),some (.ref pc),none,none]/\∃ m,0<=m/\m<=(cs.length:Int)/\H4 dh=some (.lst [V.ref pc,V.int m,V.int r,V.int ((n+1:Nat):Int)])/\H4 pc=some (.lst (cs.map V.int))/\Y7 H H4 dh pc)
   (fun _ H4=>match H4 dh with | some (.lst [_,.int m,_,_])=>((cs.length:Int) - m).toNat | _=>0) ⟨rfl,m,hm0,hm1,d1,p1,f1⟩ ?_ ?_
  ·rintro σ H4 ⟨rfl,m,hm0,hm1,d4,p4,f4⟩
   have qd:Cz K H4 dh _:=.inl (.inl d4)
   have qc:Cz K H4 pc _:=.inl (.inl p4)
   refine ⟨_,rfl,dh,_,_,_,rfl,rfl,qd,Ag (j:=1) rfl,_,rfl,pc,_,rfl,.inl qc,_,_,rfl,rfl,_,rfl,?_⟩
   refine Bs (fun h1=>?_) (fun h1=>?_)
   ·have h1':m<cs.length:=by have:=of_decide_eq_true h1; omega
    obtain ⟨c,ec,hc,hat⟩:=Nt (ns:=cs) (i:=m) hm0 h1'
    refine ⟨_,rfl,_,rfl,dh,_,_,_,rfl,rfl,qd,Ag (j:=1) rfl,pc,_,_,_,rfl,rfl,qc,hat,rfl,_,rfl,?_⟩
    refine Bs (fun h2=>?_) (fun h2=>?_)
    ·refine ⟨_,rfl,dh,_,_,_,rfl,rfl,qd,Ag (j:=1) rfl,_,_,rfl,rfl,_,rfl,dh,_,1,1,rfl,rfl,d4,rfl,?_⟩
     have d5:upd H4 dh (HO.lst ([V.ref pc,V.int m,V.int r,V.int ((n+1:Nat):Int)].set 1 (V.int (m+1)))) dh=some (.lst [V.ref pc,V.int (m+1),V.int r,V.int ((n+1:Nat):Int)]):=Ah
     refine ⟨⟨rfl,m+1,by omega,by omega,d5,by rw [Ar (Ne.symm ne)]; exact p4,fun b h3 h4=>by rw [Ar h3]; exact f4 b h3 h4⟩,?_⟩
     dsimp only
     rw [d4,d5]
     show ((cs.length:Int) - (m+1)).toNat<((cs.length:Int) - m).toNat
     omega
    ·have hcz:c ≠ 0:=fun z=>h2 (by rw [z]; rfl)
     refine ⟨_,rfl,dh,_,_,_,rfl,rfl,qd,Ag (j:=1) rfl,_,rfl,pc,_,rfl,.inl qc,rfl,_,rfl,?_⟩
     refine Bs (fun h3=>?_) (fun h3=>?_)
     ·have h3':V.int m=V.int ((cs.map V.int).length:Int):=of_decide_eq_true h3
      have:=V.int.inj h3'
      omega
     ·refine ⟨_,rfl,_,rfl,dh,_,_,_,rfl,rfl,qd,Ag (j:=1) rfl,pc,_,_,_,rfl,rfl,qc,hat,_,rfl,_,_,rfl,rfl,hma,?_⟩
      refine ⟨_,rfl,_,rfl,dh,_,_,_,rfl,rfl,qd,Ag (j:=1) rfl,pc,_,_,_,rfl,rfl,qc,hat,_,rfl,_,_,rfl,rfl,⟨hma,hmb⟩,_,rfl,_,rfl,dh,_,_,_,rfl,rfl,qd,Ag (j:=1) rfl,pc,_,_,m.toNat,rfl,rfl,p4,VB hm0 (by omega),?_⟩
      have l5:upd H4 pc (HO.lst ((cs.map V.int).set m.toNat (V.int (c / many)))) pc=some (.lst ((cs.set m.toNat (c / many)).map V.int)):=by rw [Ah,List.map_set]
      refine ⟨_,rfl,q (c % many) _ (fI _ (by omega)) (fm _ hma) ⟨cs.set m.toNat (c / many),m,r,by rw [Ar ne]; exact d4,l5,ne,fun x hx=>?_,hm0,by rw [gX]; omega,hr0,hr1,by rw [gX]; exact hl⟩ (fun b h3 h4=>by rw [Ar h4]; exact f4 b h3 h4)⟩
      rcases List.mem_or_eq_of_mem_set hx with h | h
      ·exact hn x h
      ·rw [h]
       exact Int.ediv_nonneg (hn c hc) (by omega)
   ·have h1':¬ m<cs.length:=fun z=>h1 (decide_eq_true (by omega))
    have em:m=((cs.map V.int).length:Int):=by omega
    refine ⟨_,rfl,dh,_,_,_,rfl,rfl,qd,Ag (j:=1) rfl,_,rfl,pc,_,rfl,.inl qc,rfl,_,rfl,?_⟩
    refine Bs (fun h3=>?_) (fun h3=>absurd (decide_eq_true (by rw [em])) h3)
    refine ⟨_,rfl,dh,_,_,_,rfl,rfl,qd,Ag (j:=3) rfl,?_⟩
    refine ⟨_,rfl,dh,_,_,_,rfl,rfl,qd,Ag (j:=2) rfl,_,_,rfl,rfl,.inr ⟨by decide,by decide⟩,_,rfl,_,rfl,_,_,rfl,rfl,.inl ⟨by omega,by omega⟩,_,rfl,_,_,rfl,rfl,.inr ⟨by omega,by omega⟩,_,_,rfl,rfl,_,_,rfl,rfl,_,_,rfl,rfl,(by show (0:Int)<2147483647; decide),_,rfl,dh,_,2,2,rfl,rfl,d4,rfl,?_⟩
    dsimp only
    have hb0:=Int.emod_nonneg (r * 48271+((n+1:Nat):Int) * ((n+1:Nat):Int) * ((n+1:Nat):Int)+1) (show (2147483647:Int) ≠ 0 by decide)
    have hb1:=Int.emod_lt_of_pos (r * 48271+((n+1:Nat):Int) * ((n+1:Nat):Int) * ((n+1:Nat):Int)+1) (show (0:Int)<2147483647 by decide)
    generalize (r * 48271+((n+1:Nat):Int) * ((n+1:Nat):Int) * ((n+1:Nat):Int)+1) % 2147483647=r2 at hb0 hb1 ⊢
    have d5:upd H4 dh (HO.lst ([V.ref pc,V.int m,V.int r,V.int ((n+1:Nat):Int)].set 2 (V.int r2))) dh=some (.lst [V.ref pc,V.int m,V.int r2,V.int ((n+1:Nat):Int)]):=Ah
    have p5:upd H4 dh (HO.lst ([V.ref pc,V.int m,V.int r,V.int ((n+1:Nat):Int)].set 2 (V.int r2))) pc=some (.lst (cs.map V.int)):=by rw [Ar (Ne.symm ne)]; exact p4
    have f5:Y7 H (upd H4 dh (HO.lst ([V.ref pc,V.int m,V.int r,V.int ((n+1:Nat):Int)].set 2 (V.int r2)))) dh pc:=fun b h3 h4=>by rw [Ar h3]; exact f4 b h3 h4
    generalize upd H4 dh (HO.lst ([V.ref pc,V.int m,V.int r,V.int ((n+1:Nat):Int)].set 2 (V.int r2)))=H5 at d5 p5 f5 ⊢
    have qd5:Cz K H5 dh _:=.inl (.inl d5)
    refine ⟨_,rfl,dh,_,_,_,rfl,rfl,qd5,Ag (j:=2) rfl,_,rfl,dh,_,_,_,rfl,rfl,qd5,Ag (j:=2) rfl,_,_,rfl,rfl,.inl ⟨by omega,by omega⟩,_,_,rfl,rfl,(by show (0:Int)<2147483629; decide),_,_,rfl,rfl,⟨by decide,by decide⟩,_,rfl,_,_,rfl,rfl,hma,?_⟩
    exact q _ _ (fI _ (by omega)) (fm _ hma) ⟨cs,m,r2,d5,p5,ne,hn,hm0,hm1,hb0,hb1,hl⟩ f5
  ·rintro σ H4 Q1 Q2 hq ⟨v,e1,p,xs,i,z,e2,e3,hs,ha,v2,e4,p2,ys,e5,hy,i2,j2,e6,e7,k,e8,hh⟩
   refine ⟨v,e1,p,xs,i,z,e2,e3,hs,ha,v2,e4,p2,ys,e5,hy,i2,j2,e6,e7,k,e8,?_⟩
   cases k with
   | false =>
    rw [if_neg fi] at hh
    exact Ci (hq _ _ hh)
   | true =>
    rw [if_pos rfl] at hh
    refine byC fun w_=>?_;obtain ⟨v3,f1,v4,f2,p3,xs3,i3,z3,f3,f4,hs3,ha3,p4,xs4,i4,z4,f5,f6,hs4,ha4,f7,k2,f8,hQ⟩:=hh;refine w_ ?_
    exact Ef ⟨v3,f1,v4,f2,p3,xs3,i3,z3,f3,f4,hs3,ha3,p4,xs4,i4,z4,f5,f6,hs4,ha4,f7,k2,f8,hq _ _ hQ⟩
open Bw
noncomputable def CV (H H':Hp) (dh pc:Addr):Prop:=∀ b u,b ≠ dh->b ≠ pc->H b=some u->H' b=some u
theorem CV.trans {H H1 H2:Hp} {dh pc:Addr} (a:CV H H1 dh pc) (b:CV H1 H2 dh pc):CV H H2 dh pc:=fun c u h1 h2 e=>b c u h1 h2 (a c u h1 h2 e)
theorem CV.of2 {H H1:Hp} {dh pc:Addr} (a:Y7 H H1 dh pc):CV H H1 dh pc:=fun c u h1 h2 e=>by rw [a c h1 h2]; exact e
theorem CV.of {H H1:Hp} {dh pc:Addr} (a:Ao H H1):CV H H1 dh pc:=fun c u _ _ e=>a c u e
structure V5 (H:Hp) (pS dh pc:Addr) (sz:List Nat):Prop where
 l:H pS=some (.lst (nV sz))
 n1:pS ≠ dh
 n2:pS ≠ pc
 l1:1<=sz.length
 l3:sz.length<=3
 z:∀ x∈sz,1<=x/\x<=61
theorem V5.fr {H H':Hp} {pS dh pc:Addr} {sz:List Nat} (h:V5 H pS dh pc sz) (f:CV H H' dh pc):V5 H' pS dh pc sz:=⟨f _ _ h.n1 h.n2 h.l,h.n1,h.n2,h.l1,h.l3,h.z⟩
theorem V5.len {H:Hp} {pS dh pc:Addr} {sz:List Nat} (h:V5 H pS dh pc sz):(nV sz).length=sz.length:=by unfold nV; exact List.length_map ..
noncomputable def Y0 (H:Hp) (p:Addr) (g:Gp):Prop:=∃ vs,H p=some (.lst vs)/\Paired (fun (r:R) v=>TupAt H r.v v) g.rows vs
theorem Uj {G:Prop} {K:Int->Hp->Prop} (P:Int->Hp->Prop) (h1:(∀ s H,P s H->K s H)->G) (h2:∀ s H,P s H->K s H):G:=h1 h2
noncomputable def Zz:Sp:=fun vs H Q _=>∃ (dh pc:Addr) (n k:Nat) (pS:Addr) (sz:List Nat),vs=[.ref dh,.int (k:Nat),.ref pS]/\DH H dh pc n/\n<100000/\V5 H pS dh pc sz/\k<12 /\
 ∀ (p:Addr) (i j:Nat) (s:Int) (n':Nat) H',H p=none->p ≠ dh->p ≠ pc->Y0 H' p (.cp k i j s)->(Gp.cp k i j s).ok sz 0->DH H' dh pc n'->n'<=n+5->CV H H' dh pc->Q (.ref p) H'
theorem Wb:Aw ["_law_drawn_here","_law_k","_law_sizes","_law_shift","_law_first"] ["_law_drawn_here","_law_k","_law_sizes"] (Af qI):=Bo
include N T in
theorem cT:Av P w K mg base Bg 2 aD.fLc aD.dLc ["_law_drawn_here","_law_k","_law_sizes"] Zz:=by
 refine N.FLc.1.ok Wb (fun vs H Q E h=>?_) (fun cdv A outer s H vs Q E hr h=>?_)
 ·refine byC fun w_=>?_;obtain ⟨dh,pc,n,k,pS,sz,rfl,_⟩:=h;refine w_ ?_
  rfl
 ·refine byC fun w_=>?_;obtain ⟨dh,pc,n,k,pS,sz,rfl,D,hn,S,hk,q⟩:=h;refine w_ ?_
  refine ⟨_,(@Ac _ _ _ _ _ (@BW _ _ _ _ _ _ 3 Wb.nd rfl (Or.inl rfl) (BK Dz (Aj (Q5 N T) (ad hr) rfl N.FDw.2.2 N.FDw.1.kp N.FDw.2.1 .nil An (@Ax _ _ _ _ _ rfl (pv 0) (@Ax _ _ _ _ _ rfl Ae Ab))) Ae) (by kernel_rfl) (.inl rfl))
   (@Ac _ _ _ _ _ (@Br _ _ _ _ _ _ _ _ (BX Cp (Aj (Q5 N T) (ad hr) rfl N.FDw.2.2 N.FDw.1.kp N.FDw.2.1 .nil An (@Ax _ _ _ _ _ rfl (pv 0) (@Ax _ _ _ _ _ rfl Ae Ab))) Ae (Bc _)) (@Ai _ _ _ (@BW _ _ _ _ _ _ 3 Wb.nd rfl (Or.inl rfl) (BK Dz (Aj (Q5 N T) (ad hr) rfl N.FDw.2.2 N.FDw.1.kp N.FDw.2.1 .nil An (@Ax _ _ _ _ _ rfl (pv 0) (@Ax _ _ _ _ _ rfl Ae Ab))) Ae) (by kernel_rfl) (.inl rfl))) Ba)
   (@Ac _ _ _ _ _ (@BW _ _ _ _ _ _ 4 Wb.nd rfl (Or.inl rfl) (@Am _ _ _ _ _ _ _ Gd BR (Aj (Q5 N T) (ad hr) rfl N.FDw.2.2 N.FDw.1.kp N.FDw.2.1 .nil An (@Ax _ _ _ _ _ rfl (pv 0) (@Ax _ _ _ _ _ rfl (BP BV rfl T.len bX (@Ax _ _ _ _ _ rfl (pv 2) Ab)) Ab))) (fun _ _=>rfl)) (by kernel_rfl) (.inl rfl))
   (@Ai _ _ _ (@Ay _ _ _ _ (@DW _ _ _ _ (@Ax _ _ _ _ _ rfl (@Ck _ _ _ _ _ (@Ax _ _ _ _ _ rfl BR (@Ax _ _ _ _ _ rfl (BK Im BR (@Am _ _ _ _ _ _ _ Gd BR (pv 1) (fun _ _=>rfl))) (@Ax _ _ _ _ _ rfl (pv 4) (@Ax _ _ _ _ _ rfl (@Am _ _ _ _ _ _ _ Gd BR (Aj (Q5 N T) (ad hr) rfl N.FDw.2.2 N.FDw.1.kp N.FDw.2.1 .nil An (@Ax _ _ _ _ _ rfl (pv 0) (@Ax _ _ _ _ _ rfl (BP BV rfl T.len bX (@Ax _ _ _ _ _ rfl (pv 2) Ab)) Ab))) (fun _ _=>rfl)) (@Ax _ _ _ _ _ rfl (pv 3) Ab)))))) Ab))))))),?_⟩
  have hl1:=S.l1
  have hl3:=S.l3
  have hln:=S.len
  refine ⟨_,rfl,dh,pc,n,11,rfl,D,by omega,by decide,by decide,fun x H1 x0 x1 D1 f1=>⟨_,_,rfl,rfl,?_⟩⟩
  apply Uj (P:=fun s H'=>-60<=s/\s<=60/\(∃ n',DH H' dh pc n'/\n'<=n+3)/\CV H H' dh pc)
  case h1 =>
   intro rest
   refine ⟨_,rfl,dh,pc,n+1,9,rfl,D1,by omega,by decide,by decide,fun y H2 y0 y1 D2 f2=>⟨rfl,_,rfl,Bs (fun _=>?_) (fun _=>?_)⟩⟩
   ·refine ⟨_,rfl,dh,pc,n+1+1,121,rfl,D2,by omega,by decide,by decide,fun z H3 z0 z1 D3 f3=>⟨_,_,rfl,rfl,?_⟩⟩
    have hb : -60<=z - 60/\z - 60<=60:=by omega
    show RB _ ((_:St).set 3 (some (V.int (z - 60)))) H3
    generalize z - 60=s at hb ⊢
    exact rest s H3 ⟨hb.1,hb.2,⟨_,D3,by omega⟩,(CV.of2 f1).trans ((CV.of2 f2).trans (CV.of2 f3))⟩
   ·have hb : -60<=x - 5/\x - 5<=60:=by omega
    have F2:=(CV.of2 f1).trans (CV.of2 f2)
    exact rest _ H2 ⟨hb.1,hb.2,⟨_,D2,by omega⟩,F2⟩
  rintro s H3 ⟨s0,s1,⟨n3,D3,hn3⟩,F3⟩
  refine ⟨_,rfl,_,rfl,pS,_,rfl,kR (.inl (S.fr F3).l),dh,pc,n3,_,rfl,D3,by omega,by omega,by omega,fun i H4 i0 i1 D4 f4=>?_⟩
  obtain ⟨i,rfl⟩:∃ m:Nat,i=(m:Int):=⟨i.toNat,by omega⟩
  obtain ⟨c1,hc1,ec1⟩:=PJ (k:=i) (by omega)
  obtain ⟨c2,hc2,ec2⟩:=bZ hk
  have F4:=F3.trans (CV.of2 f4)
  refine ⟨"xyz",_,c1,rfl,rfl,by decide,hc1,?_⟩
  rw [ec1]
  refine ⟨_,rfl,"abcdefghijkl",_,c2,rfl,rfl,by decide,hc2,"c",_,rfl,rfl,by show 2<=sizeLine; decide,_,rfl,_,rfl,_,rfl,pS,_,rfl,kR (.inl (S.fr F4).l),dh,pc,_,_,rfl,D4,by omega,by omega,by omega,fun j H5 j0 j1 D5 f5=>?_⟩
  obtain ⟨j,rfl⟩:∃ m:Nat,j=(m:Int):=⟨j.toNat,by omega⟩
  obtain ⟨c3,hc3,ec3⟩:=PJ (k:=j) (by omega)
  refine ⟨"xyz",_,c3,rfl,rfl,by decide,hc3,_,rfl,by show 5<=sizeLine; decide,fun T hT=>⟨by show 1<=sizeLine; decide,fun p hp=>?_⟩⟩
  rw [ec2,ec3] at hp ⊢
  have F5:=F4.trans (CV.of2 f5)
  have s6:=A_ (o:=HO.tup [V.str "coupler",V.str (Q0.getD k ""),V.str (DX i),V.str (DX j),V.int s]) hT
  have a6:upd H5 T (HO.tup [V.str "coupler",V.str (Q0.getD k ""),V.str (DX i),V.str (DX j),V.int s]) T=some (.tup (Gp.cp k i j s).head.v):=Ah
  generalize upd H5 T (HO.tup [V.str "coupler",V.str (Q0.getD k ""),V.str (DX i),V.str (DX j),V.int s])=H6 at s6 a6 hp ⊢
  have s7:=A_ (o:=HO.lst [V.ref T]) hp
  have D6:=D5.same s6
  refine byC fun w_=>?_;obtain ⟨_,_,_,e1,e2,_⟩:=id D6;refine w_ ?_
  have F7:=F5.trans (CV.of (s6.trans s7))
  have nd:p ≠ dh:=Ne.symm (Ak e1 hp)
  have np:p ≠ pc:=Ne.symm (Ak e2 hp)
  have hp0:H p=none:=by
   cases e:H p with
   | none=>rfl
   | some u =>
    have:=(F5.trans (CV.of s6)) p u nd np e
    rw [hp] at this
    cases this
  exact q p i j s _ _ hp0 nd np ⟨[V.ref T],Ah,.cons ⟨T,rfl,s7 _ _ a6⟩ .nil⟩ ⟨hk,by omega,by omega,s0,s1⟩ (D6.same s7) (by omega) F7
theorem VF {H H':Hp} {dh pc:Addr} {n:Nat} {xs:List V} {y:V} (D:DH H dh pc n) (f:CV H H' dh pc) (h:TupAt H xs y):TupAt H' xs y:=by
 obtain ⟨T,rfl,e⟩:=h
 refine byC fun w_=>?_;obtain ⟨_,_,_,e1,e2,_⟩:=D;refine w_ ?_
 exact ⟨T,rfl,f _ _ (fun z=>by rw [z,e1] at e; cases e) (fun z=>by rw [z,e2] at e; cases e) e⟩
theorem JV {H H':Hp} {dh pc:Addr} {n:Nat} {rs:List R} {vs:List V} (D:DH H dh pc n) (f:CV H H' dh pc) (h:Paired (fun (r:R) v=>TupAt H r.v v) rs vs):Paired (fun (r:R) v=>TupAt H' r.v v) rs vs:=Paired.Fj h fun _ _ z=>VF D f z
theorem Wn (k b:Nat) (ls:List Ln) (l:Ln):(Gp.st k b (ls++[l])).rows=(Gp.st k b ls).rows++[LK l]:=by
 show _::(ls++[l]).map LK=_::ls.map LK++[LK l]
 rw [br]
 rfl
noncomputable def bD:Sp:=fun vs H Q _=>∃ (dh pc:Addr) (n k:Nat) (pS:Addr) (sz:List Nat) (nr:Nat),vs=[.ref dh,.int (k:Nat),.ref pS,.int (nr:Nat)]/\DH H dh pc n/\n<100000/\V5 H pS dh pc sz/\k<12/\1<=nr/\nr<=3 /\
 ∀ (p:Addr) (b:Nat) (ls:List Ln) (n':Nat) H',H p=none->p ≠ dh->p ≠ pc->Y0 H' p (.st k b ls)->(Gp.st k b ls).ok sz nr->DH H' dh pc n'->n'<=n+40->CV H H' dh pc->Q (.ref p) H'
theorem N7:Aw ["_law_drawn_here","_law_k","_law_sizes","_law_ranks","_law_board","_law_rows","_law_line","_law_low","_law_high","_law_shift"] ["_law_drawn_here","_law_k","_law_sizes","_law_ranks"] (Af qJ):=Bo
include N T in
theorem dW:Av P w K mg base Bg 2 aD.fLs aD.dLs ["_law_drawn_here","_law_k","_law_sizes","_law_ranks"] bD:=by
 refine N.FLs.1.ok N7 (fun vs H Q E h=>?_) (fun cdv A outer s H vs Q E hr h=>?_)
 ·refine byC fun w_=>?_;obtain ⟨dh,pc,n,k,pS,sz,nr,rfl,_⟩:=h;refine w_ ?_
  rfl
 ·refine byC fun w_=>?_;obtain ⟨dh,pc,n,k,pS,sz,nr,rfl,D,hn,S,hk,nr1,nr3,q⟩:=h;refine w_ ?_
  refine ⟨_,(@Ac _ _ _ _ _ (@BW _ _ _ _ _ _ 4 N7.nd rfl (Or.inl rfl) (Aj (Q5 N T) (ad hr) rfl N.FDw.2.2 N.FDw.1.kp N.FDw.2.1 .nil An (@Ax _ _ _ _ _ rfl (pv 0) (@Ax _ _ _ _ _ rfl (BP BV rfl T.len bX (@Ax _ _ _ _ _ rfl (pv 2) Ab)) Ab))) (by kernel_rfl) (.inl rfl))
   (@Ac _ _ _ _ _ (@BW _ _ _ _ _ _ 5 N7.nd rfl (Or.inl rfl) (@DW _ _ _ _ (@Ax _ _ _ _ _ rfl (@Ck _ _ _ _ _ (@Ax _ _ _ _ _ rfl BR (@Ax _ _ _ _ _ rfl (BK Im BR (@Am _ _ _ _ _ _ _ Gd BR (pv 1) (fun _ _=>rfl))) (@Ax _ _ _ _ _ rfl (@Am _ _ _ _ _ _ _ Gd BR (pv 4) (fun _ _=>rfl)) Ab)))) Ab)) (by kernel_rfl) (.inl rfl))
   (@Ac _ _ _ _ _ (C_ PassesOwn.never rfl (CP rfl T.range (@Ax _ _ _ _ _ rfl (Aj (Q5 N T) (ad hr) rfl N.FDw.2.2 N.FDw.1.kp N.FDw.2.1 .nil An (@Ax _ _ _ _ _ rfl (pv 0) (@Ax _ _ _ _ _ rfl Ae Ab))) Ab)) (BZ (i:=6) N7.nd rfl (Or.inl rfl)) (@Ac _ _ _ _ _ (@BW _ _ _ _ _ _ 7 N7.nd rfl (Or.inl rfl) (Aj (Q5 N T) (ad hr) rfl N.FDw.2.2 N.FDw.1.kp N.FDw.2.1 .nil An (@Ax _ _ _ _ _ rfl (pv 0) (@Ax _ _ _ _ _ rfl (@Am _ _ _ _ _ _ _ Bj (pv 2) (pv 4) (fun _ _=>rfl)) Ab))) (by kernel_rfl) (.inl rfl))
   (@Ac _ _ _ _ _ (@BW _ _ _ _ _ _ 8 N7.nd rfl (Or.inl rfl) (BK B_ (pv 7) (Aj (Q5 N T) (ad hr) rfl N.FDw.2.2 N.FDw.1.kp N.FDw.2.1 .nil An (@Ax _ _ _ _ _ rfl (pv 0) (@Ax _ _ _ _ _ rfl (BK Dz (@Am _ _ _ _ _ _ _ Bj (pv 2) (pv 4) (fun _ _=>rfl)) (pv 7)) Ab)))) (by kernel_rfl) (.inl rfl))
   (@Ac _ _ _ _ _ (@BW _ _ _ _ _ _ 9 N7.nd rfl (Or.inl rfl) (BK Dz (Aj (Q5 N T) (ad hr) rfl N.FDw.2.2 N.FDw.1.kp N.FDw.2.1 .nil An (@Ax _ _ _ _ _ rfl (pv 0) (@Ax _ _ _ _ _ rfl Ae Ab))) Ae) (by kernel_rfl) (.inl rfl))
   (@Ac _ _ _ _ _ (@Br _ _ _ _ _ _ _ _ (BX Cp (Aj (Q5 N T) (ad hr) rfl N.FDw.2.2 N.FDw.1.kp N.FDw.2.1 .nil An (@Ax _ _ _ _ _ rfl (pv 0) (@Ax _ _ _ _ _ rfl Ae Ab))) Ae (Bc _)) (@Ai _ _ _ (@BW _ _ _ _ _ _ 9 N7.nd rfl (Or.inl rfl) (BK Dz (Aj (Q5 N T) (ad hr) rfl N.FDw.2.2 N.FDw.1.kp N.FDw.2.1 .nil An (@Ax _ _ _ _ _ rfl (pv 0) (@Ax _ _ _ _ _ rfl Ae Ab))) Ae) (by kernel_rfl) (.inl rfl))) Ba)
   (@Ai _ _ _ (Eh (HF de dL dQ DG (pv 5) (@Ax _ _ _ _ _ rfl (@Ck _ _ _ _ _ (@Ax _ _ _ _ _ rfl BR (@Ax _ _ _ _ _ rfl (@Am _ _ _ _ _ _ _ Gd BR (Aj (Q5 N T) (ad hr) rfl N.FDw.2.2 N.FDw.1.kp N.FDw.2.1 .nil An (@Ax _ _ _ _ _ rfl (pv 0) (@Ax _ _ _ _ _ rfl (pv 3) Ab))) (fun _ _=>rfl)) (@Ax _ _ _ _ _ rfl (pv 9) (@Ax _ _ _ _ _ rfl (pv 7) (@Ax _ _ _ _ _ rfl (pv 8) Ab)))))) Ab)))))))))
   (@Ai _ _ _ (@Ay _ _ _ _ (pv 5)))))),?_⟩
  have hl1:=S.l1
  have hl3:=S.l3
  have hln:=S.len
  refine ⟨_,rfl,_,rfl,pS,_,rfl,kR (.inl S.l),dh,pc,n,_,rfl,D,by omega,by omega,by omega,fun b H1 b0 b1 D1 f1=>?_⟩
  obtain ⟨b,rfl⟩:∃ m:Nat,b=(m:Int):=⟨b.toNat,by omega⟩
  obtain ⟨c1,hc1,ec1⟩:=PJ (k:=b) (by omega)
  obtain ⟨c2,hc2,ec2⟩:=bf hk
  have F1:=CV.of2 f1
  refine ⟨_,rfl,"abcdefghijkl",_,c2,rfl,rfl,by decide,hc2,"s",_,rfl,rfl,by show 2<=sizeLine; decide,_,rfl,"xyz",_,c1,rfl,rfl,by decide,hc1,by show 3<=sizeLine; decide,fun T hT=>⟨by show 1<=sizeLine; decide,fun l hl=>?_⟩⟩
  rw [ec1,ec2] at hl ⊢
  have s2:=A_ (o:=HO.tup [V.str "stop",V.str (stL.getD k ""),V.str (DX b)]) hT
  have a2:upd H1 T (HO.tup [V.str "stop",V.str (stL.getD k ""),V.str (DX b)]) T=some (.tup (Gp.st k b []).head.v):=Ah
  generalize upd H1 T (HO.tup [V.str "stop",V.str (stL.getD k ""),V.str (DX b)])=H2 at s2 a2 hl ⊢
  have s3:=A_ (o:=HO.lst [V.ref T]) hl
  have D2:=D1.same s2
  refine byC fun w_=>?_;obtain ⟨_,_,_,e1,e2,_⟩:=id D2;refine w_ ?_
  have F2:=F1.trans (CV.of s2)
  have nd:l ≠ dh:=Ne.symm (Ak e1 hl)
  have np:l ≠ pc:=Ne.symm (Ak e2 hl)
  have hl0:H l=none:=by
   cases e:H l with
   | none=>rfl
   | some u =>
    have:=F2 l u nd np e
    rw [hl] at this
    cases this
  have P3:Paired (fun (r:R) v=>TupAt (upd H2 l (HO.lst [V.ref T])) r.v v) (Gp.st k b []).rows [V.ref T]:=.cons ⟨T,rfl,s3 _ _ a2⟩ .nil
  have a3:upd H2 l (HO.lst [V.ref T]) l=some (.lst [V.ref T]):=Ah
  have D3:=D2.same s3
  have F3:=F2.trans (CV.of (dh:=dh) (pc:=pc) s3)
  generalize upd H2 l (HO.lst [V.ref T])=H3 at s3 P3 a3 D3 F3 ⊢
  clear e1 e2 s2 s3 a2 hl hT F1 F2 f1
  refine ⟨_,rfl,dh,pc,_,5,rfl,D3,by omega,by decide,by decide,fun m H4 m0 m1 D4 f4=>⟨_,rfl,by omega,by omega,?_⟩⟩
  have F4:=F3.trans (CV.of2 f4)
  have P4:=JV D3 (CV.of2 f4) P3
  have a4:H4 l=some (.lst [V.ref T]):=by rw [f4 l nd np]; exact a3
  have zb:1<=sz.getD b 0/\sz.getD b 0<=61:=by
   rw [ax,ae (by omega)]
   exact S.z _ (ee _)
  have hat:=Mi (l:=sz) (i:=b) (by omega)
  obtain ⟨z,hz⟩:∃ z,sz.getD b 0=z:=⟨_,rfl⟩
  rw [hz] at zb hat
  refine GC (lo:=0) (n:=m.toNat) (fun i σ H5=>∃ (ls:List Ln) (vs:List V) (nn:Nat) (v6 v7 v8 v9:Option V),σ=[some (.ref dh),some (.int (k:Nat)),some (.ref pS),some (.int (nr:Nat)),some (.int (b:Nat)),some (.ref l),v6,v7,v8,v9]/\H5 l=some (.lst vs)/\Paired (fun (r:R) v=>TupAt H5 r.v v) (Gp.st k b ls).rows vs/\ls.length=i/\(∀ t∈ls,Yl z nr t)/\DH H5 dh pc nn/\nn<=n+2+6 * i/\CV H H5 dh pc) ⟨[],[V.ref T],_,_,_,_,_,rfl,a4,P4,rfl,fun _ h=>absurd h kL,D4,by omega,F4⟩ ?_ ?_
  ·rintro i σ H5 hi ⟨ls,vs,nn,v6,v7,v8,v9,rfl,a5,P5,li,ok5,D5,hnn,F5⟩
   have i4:i<5:=by omega
   have S5:=S.fr F5
   have lvs:=P5.length
   have lrow:(Gp.st k b ls).rows.length=1+i:=by
    show (_::ls.map LK).length=_
    rw [bv,ai,li]
    omega
   refine ⟨_,rfl,_,rfl,_,rfl,pS,_,_,_,rfl,rfl,kR S5.l,hat,dh,pc,nn,_,rfl,D5,by omega,by omega,by omega,fun lo H6 lo0 lo1 D6 f6=>?_⟩
   have F6:=F5.trans (CV.of2 f6)
   refine ⟨_,rfl,_,rfl,_,rfl,_,rfl,pS,_,_,_,rfl,rfl,.inl (.inl (S.fr F6).l),hat,_,rfl,_,_,rfl,rfl,dh,pc,_,_,rfl,D6,by omega,by omega,by omega,fun dd H7 d0 d1 D7 f7=>⟨_,_,rfl,rfl,?_⟩⟩
   have F7:=F6.trans (CV.of2 f7)
   show Dy 8 (V.int (lo+dd)) _ H7 _
   obtain ⟨hi7,ehi⟩:∃ x:Int,lo+dd=x:=⟨_,rfl⟩
   rw [ehi]
   refine ⟨_,rfl,dh,pc,_,19,rfl,D7,by omega,by decide,by decide,fun x H8 x0 x1 D8 f8=>⟨_,_,rfl,rfl,?_⟩⟩
   apply Uj (P:=fun s H'=>-200<=s/\s<=200/\(∃ n',DH H' dh pc n'/\n'<=nn+5)/\CV H5 H' dh pc/\H' l=some (.lst vs))
   case h1 =>
    intro rest
    have F58:CV H5 H8 dh pc:=(CV.of2 f6).trans ((CV.of2 f7).trans (CV.of2 f8))
    have a8:H8 l=some (.lst vs):=F58 _ _ nd np a5
    refine ⟨_,rfl,dh,pc,_,9,rfl,D8,by omega,by decide,by decide,fun y H9 y0 y1 D9 f9=>⟨rfl,_,rfl,Bs (fun _=>?_) (fun _=>?_)⟩⟩
    ·refine ⟨_,rfl,dh,pc,_,401,rfl,D9,by omega,by decide,by decide,fun u Ha u0 u1 Da fa=>⟨_,_,rfl,rfl,?_⟩⟩
     have hb : -200<=u - 200/\u - 200<=200:=by omega
     show RB _ ((_:St).set 9 (some (V.int (u - 200)))) Ha
     generalize u - 200=s at hb ⊢
     have Fa:=F58.trans ((CV.of2 f9).trans (CV.of2 fa))
     exact rest s Ha ⟨hb.1,hb.2,⟨_,Da,by omega⟩,Fa,Fa _ _ nd np a5⟩
    ·have hb : -200<=x - 9/\x - 9<=200:=by omega
     have F9:=F58.trans (CV.of2 f9)
     exact rest _ H9 ⟨hb.1,hb.2,⟨_,D9,by omega⟩,F9,F9 _ _ nd np a5⟩
   rintro s H9 ⟨s0,s1,⟨n9,D9,hn9⟩,F9,a9⟩
   refine ⟨_,rfl,.inl ⟨rfl,_,kR a9⟩,_,rfl,_,rfl,dh,pc,n9,_,rfl,D9,by omega,by omega,by omega,fun r Ha r0 r1 Da fa=>?_⟩
   obtain ⟨r,rfl⟩:∃ m:Nat,r=(m:Int):=⟨r.toNat,by omega⟩
   obtain ⟨c3,hc3,ec3⟩:=X5 (k:=r) (by omega)
   have Fa:=F9.trans (CV.of2 fa)
   have aa:Ha l=some (.lst vs):=Fa _ _ nd np a5
   refine ⟨"uvw",_,c3,rfl,rfl,by decide,hc3,_,rfl,_,rfl,_,rfl,by show 5<=sizeLine; decide,fun t6 ht6=>?_⟩
   rw [ec3]
   have s6:=A_ (o:=HO.tup [V.str "line",V.str (Dj r),V.int s,V.int lo,V.int hi7]) ht6
   have a6:upd Ha t6 (HO.tup [V.str "line",V.str (Dj r),V.int s,V.int lo,V.int hi7]) t6=some (.tup (LK ⟨r,s,lo,hi7⟩).v):=Ah
   generalize upd Ha t6 (HO.tup [V.str "line",V.str (Dj r),V.int s,V.int lo,V.int hi7])=Hb at s6 a6 ⊢
   have ab:=s6 _ _ aa
   have Db:=Da.same s6
   have Fb:=Fa.trans (CV.of (dh:=dh) (pc:=pc) s6)
   have Pb:=JV D5 Fb P5
   refine ⟨l,_,_,rfl,rfl,ab,BJ (by omega),?_⟩
   refine ⟨ls++[⟨r,s,lo,hi7⟩],vs++[V.ref t6],_,_,_,_,_,rfl,Ah,?_,by rw [av,li]; rfl,fun t ht=>?_,Db.upd nd np,by omega,?_⟩
   ·rw [Wn]
    exact Paired.snoc (Bx Pb ab) (TupAt.upd ⟨t6,rfl,a6⟩ ab)
   ·rcases ba.mp ht with h | h
    ·exact ok5 t h
    ·rw [aS.mp h]
     exact ⟨by show r<nr; omega,s0,s1,lo0,by show lo<=hi7; omega,by show hi7<(z:Int); omega⟩
   ·intro c u h1 h2 e
    have:=(F5.trans Fb) c u h1 h2 e
    rw [Ar (Ak e hl0)]
    exact this
  ·rintro σ H5 ⟨ls,vs,nn,v6,v7,v8,v9,rfl,a5,P5,li,ok5,D5,hnn,F5⟩
   exact ⟨_,rfl,q l b ls nn H5 hl0 nd np ⟨vs,a5,P5⟩ ⟨hk,by omega,by omega,by rw [hz]; exact ok5⟩ D5 (by omega) F5⟩
theorem GQ {lo:Int} {n:Nat} {σ:St} {H1:Hp} {Q:VK} {te:TE} (Pv:Addr->Nat->List V->Hp->Prop) (hz:n<sizeLine) (h0:∀ D,H1 D=none->Pv D 0 [] (upd H1 D (.lst []))) (hlen:∀ D i ys H,Pv D i ys H->ys.length=i)
  (he:∀ D i ys H,H1 D=none->i<n->Pv D i ys H->∀ R:VK,(∀ y H',H' D=some (.lst ys)->Pv D (i+1) (ys++[y]) (upd H' D (.lst (ys++[y])))->R y H')->te (some (.int (lo+(i:Nat)))::σ) H R)
  (hq:∀ D ys H,H1 D=none->Pv D n ys H->Q (.ref D) H):G5 (Xj lo n) σ H1 Q Rt te:=by
 intro D hD
 refine ⟨fun i m ys H=>m=n - i/\i<=n/\Pv D i ys H,⟨n,by simp,Nat.zero_le _,h0 D hD⟩,?_⟩
 rintro i m ys H ⟨rfl,hi,p⟩
 by_cases hlt:i<n
 ·refine .inr ⟨hlt,fun x H3 hy=>?_⟩
  obtain ⟨e1,e2⟩:=hy
  subst e1 e2
  unfold Rt
  exact Ef (he D i ys _ hD hlt p _ fun y H' e pv=>⟨e,by have:=hlen D i ys _ p; omega,n - (i+1),by omega,rfl,hlt,pv⟩)
 ·have e:i=n:=by omega
  subst e
  exact .inl ⟨aE _,hq D ys H hD p⟩
open Bw
theorem Bv {X:Cx} {K:W.Frag} (hk:X.K=K):Ys X (ZP K):=by
 subst hk
 exact Bj
theorem Wh (l:List Nat) (x:Nat):nV l++[V.int ((x:Nat):Int)]=nV (l++[x]):=by
 unfold nV
 rw [br]
 rfl
theorem DH.ne {H:Hp} {dh pc p:Addr} {n:Nat} (D:DH H dh pc n) (h:H p=none):p ≠ dh/\p ≠ pc:=by
 refine byC fun w_=>?_;obtain ⟨_,_,_,e1,e2,_⟩:=D;refine w_ ?_
 exact ⟨Ne.symm (Ak e1 h),Ne.symm (Ak e2 h)⟩
theorem CV.free {H H':Hp} {dh pc p:Addr} (f:CV H H' dh pc) (h:H' p=none) (n1:p ≠ dh) (n2:p ≠ pc):H p=none:=by
 cases e:H p with
 | none=>rfl
 | some u =>
  have:=f p u n1 n2 e
  rw [h] at this
  cases this
theorem CV.put {H H':Hp} {dh pc p:Addr} {u:HO} (f:CV H H' dh pc) (h:H p=none):CV H (upd H' p u) dh pc:=fun b v h1 h2 e=>by
 rw [Ar (Ak e h)]
 exact f b v h1 h2 e
theorem ZZ {sz:List Nat} {i:Nat} (h:i<sz.length):(GK sz)[i]? = some (DX i,sz.getD i 0):=by
 unfold GK
 rw [ar,dn,ax,ae h]
 simp
theorem Ws (sz:List Nat):(GK sz).length=sz.length:=by unfold GK; rw [List.length_map,List.length_zipIdx]
theorem Um (rk:List (Nat × Int)) (x:Nat × Int):Eg (rk++[x])=Eg rk++[(Dj rk.length,x.1,x.2)]:=by
 unfold Eg
 rw [ip,br,iP]
 rfl
noncomputable def MP (dh pc:Addr) (H:Hp) (g:Gp) (y:V):Prop:=∃ p,y=.ref p/\p ≠ dh/\p ≠ pc/\Y0 H p g
theorem MP.fr {H H':Hp} {dh pc:Addr} {n:Nat} {g:Gp} {y:V} (D:DH H dh pc n) (f:CV H H' dh pc) (h:MP dh pc H g y):MP dh pc H' g y:=by
 refine byC fun w_=>?_;obtain ⟨p,rfl,n1,n2,vs,e,P⟩:=h;refine w_ ?_
 exact ⟨p,rfl,n1,n2,vs,f _ _ n1 n2 e,JV D f P⟩
theorem MP.upd {H:Hp} {dh pc l:Addr} {us ws:List V} {g:Gp} {y:V} (hl:H l=some (.lst us)) (hne:y ≠ .ref l) (h:MP dh pc H g y):MP dh pc (upd H l (.lst ws)) g y:=by
 refine byC fun w_=>?_;obtain ⟨p,rfl,n1,n2,vs,e,P⟩:=h;refine w_ ?_
 refine ⟨p,rfl,n1,n2,vs,?_,Bx P hl⟩
 rw [Ar fun z=>hne (by rw [z])]
 exact e
theorem Er {α β:Type} {F G:α->β->Prop}:∀ {l:List α} {m:List β},Paired F l m->(∀ a b,b∈m->F a b->G a b)->Paired G l m
 | _,_,.nil,_=>.nil
 | _,_,.cons r t,f=>.cons (f _ _ (cS ..) r) (Er t fun a b hb h=>f a b (df _ hb) h)
theorem CT {α β:Type} {F:α->β->Prop}:∀ {l1 l2:List α} {m1 m2:List β},Paired F l1 m1->Paired F l2 m2->Paired F (l1++l2) (m1++m2)
 | _,_,_,_,.nil,h=>h
 | _,_,_,_,.cons r t,h=>.cons r (CT t h)
theorem Vf {xs:List V} {k:Nat}:Fi xs (some (k:Int)) none=xs.drop k:=by
 unfold Fi
 rw [HT.KC,HT.Oo]
 by_cases h:k<=xs.length
 ·rw [Nat.min_eq_left h,gg (by rw [ij]; omega)]
 ·rw [Nat.min_eq_right (by omega),iO,List.take_zero,List.drop_of_length_le (by omega)]
theorem VD {sz:List Nat} {nr:Nat} {g:Gp} (h:g.ok sz nr):g.rows.length<=5:=by
 have e:g.rows.length=g.LQ.length+1:=by unfold Gp.rows; rw [List.length_cons,List.length_map]
 rw [e]
 cases g with
 | st k b ls=>have:=h.2.2.1; show ls.length+1<=5; omega
 | cp k a b c=>show 0+1<=5; omega
 | mu k b=>show 0+1<=5; omega
theorem Jz {α β:Type} {F:α->β->Prop}:∀ (t:Nat) {l:List α} {m:List β},Paired F l m->Paired F (l.drop t) (m.drop t)
 | 0,_,_,h=>h
 | _+1,_,_,.nil=>.nil
 | t+1,_,_,.cons _ h=>Jz t h
theorem Ni {ns:List Str} {gs:List Gp} (hl:gs.length<=ns.length) (h:∀ (j:Nat) g,gs[j]? = some g->g.nm=ns.getD j ""):gs.map Gp.nm=ns.take gs.length:=by
 refine gc fun j=>?_
 rw [ar,List.getElem?_take]
 by_cases hj:j<gs.length
 ·rw [if_pos hj,ae hj,ae (by omega)]
  have:=h j _ (ae hj)
  rw [ax,ae (by omega)] at this
  show some (gs[j].nm)=some ns[j]
  rw [this]
  rfl
 ·rw [if_neg hj,fv (by omega)]
  rfl
theorem Zb:(stL++Q0++RZ).Nodup:=by decide +kernel
theorem cw_of {gs gs2 gs3:List Gp} (a1:∀ (j:Nat) g,gs[j]? = some g->∃ b ls,g=.st j b ls) (a2:∀ (j:Nat) g,gs2[j]? = some g->∃ a b c,g=.cp j a b c) (a3:∀ (j:Nat) g,gs3[j]? = some g->∃ b,g=.mu j b) (b1:gs.length<=12) (b2:gs2.length<=12) (b3:gs3.length<=2) (w:Str):((gs++gs2++gs3).filter fun g=>decide (V.str g.head.w=V.str w)).length<=12:=by
 have one:∀ (l:List Gp) (u:Str),(∀ g∈l,g.head.w=u)->u ≠ w->l.filter (fun g=>decide (V.str g.head.w=V.str w))=[]:=fun l u h hu=>gE.mpr fun g hg z=>hu (by
  have:=V.str.inj (of_decide_eq_true z)
  rw [h g hg] at this
  exact this)
 have h1:∀ g∈gs,g.head.w = "stop":=fun g hg=>by
  obtain ⟨j,hj⟩:=fh hg
  obtain ⟨b,ls,rfl⟩:=a1 j g hj
  rfl
 have h2:∀ g∈gs2,g.head.w = "coupler":=fun g hg=>by
  obtain ⟨j,hj⟩:=fh hg
  obtain ⟨a,b,c,rfl⟩:=a2 j g hj
  rfl
 have h3:∀ g∈gs3,g.head.w = "mute":=fun g hg=>by
  obtain ⟨j,hj⟩:=fh hg
  obtain ⟨b,rfl⟩:=a3 j g hj
  rfl
 rw [dE,dE,av,av]
 have l1:=dt (fun g:Gp=>decide (V.str g.head.w=V.str w)) gs
 have l2:=dt (fun g:Gp=>decide (V.str g.head.w=V.str w)) gs2
 have l3:=dt (fun g:Gp=>decide (V.str g.head.w=V.str w)) gs3
 by_cases e1:("stop" : Str)=w
 ·rw [one gs2 "coupler" h2 (by rw [← e1]; decide +kernel),one gs3 "mute" h3 (by rw [← e1]; decide +kernel)]
  show _+0+0<=12
  omega
 ·rw [one gs "stop" h1 e1]
  by_cases e2:("coupler" : Str)=w
  ·rw [one gs3 "mute" h3 (by rw [← e2]; decide +kernel)]
   show 0+_+0<=12
   omega
  ·rw [one gs2 "coupler" h2 e2]
   show 0+0+_<=12
   omega
theorem Wo {sz:List Nat} {rk:List (Nat × Int)} {gs gs2 gs3:List Gp} {t:Nat} (l1:1<=sz.length) (l3:sz.length<=3) (z:∀ x∈sz,1<=x/\x<=61) (r1:1<=rk.length) (r3:rk.length<=3) (r:∀ x∈rk,1<=x.1/\x.1<=97/\0<=x.2/\x.2<=1000000000)
  (a1:∀ (j:Nat) g,gs[j]? = some g->∃ b ls,g=.st j b ls) (a2:∀ (j:Nat) g,gs2[j]? = some g->∃ a b c,g=.cp j a b c) (a3:∀ (j:Nat) g,gs3[j]? = some g->∃ b,g=.mu j b)
  (o1:∀ g∈gs,g.ok sz rk.length) (o2:∀ g∈gs2,g.ok sz rk.length) (o3:∀ g∈gs3,g.ok sz rk.length) (b1:gs.length<=12) (b2:gs2.length<=12) (b3:gs3.length<=2) :
  QB sz rk ((gs++gs2++gs3).drop t++(gs++gs2++gs3).take t):=by
 have pm:((gs++gs2++gs3).drop t++(gs++gs2++gs3).take t).Perm (gs++gs2++gs3):=by
  refine List.perm_append_comm.trans ?_
  rw [eI]
 have e1:gs.map Gp.nm=stL.take gs.length:=Ni (by show _<=12; omega) fun j g h=>by obtain ⟨b,ls,rfl⟩:=a1 j g h; rfl
 have e2:gs2.map Gp.nm=Q0.take gs2.length:=Ni (by show _<=12; omega) fun j g h=>by obtain ⟨a,b,c,rfl⟩:=a2 j g h; rfl
 have e3:gs3.map Gp.nm=RZ.take gs3.length:=Ni (by show _<=2; omega) fun j g h=>by obtain ⟨b,rfl⟩:=a3 j g h; rfl
 refine ⟨l1,l3,z,r1,r3,r,fun g hg=>?_,?_,by rw [pm.length_eq,av,av]; omega,fun w=>by rw [(pm.filter _).length_eq]; exact cw_of a1 a2 a3 b1 b2 b3 w,?_⟩
 ·rcases ba.mp (pm.mem_iff.mp hg) with hg | hg
  ·rcases ba.mp hg with hg | hg
   ·exact o1 g hg
   ·exact o2 g hg
  ·exact o3 g hg
 ·refine (pm.map Gp.nm).nodup_iff.mpr ?_
  rw [br,br,e1,e2,e3]
  exact Zb.sublist (((iF _ _).append (iF _ _)).append (iF _ _))
 ·rw [(pm.filter _).length_eq,dE,dE,av,av]
  have f1:gs.filter (fun g=>decide (V.str g.head.w=V.str "mute"))=[]:=gE.mpr fun g hg=>by
   obtain ⟨j,hj⟩:=fh hg
   obtain ⟨b,ls,rfl⟩:=a1 j g hj
   show ¬ decide (V.str "stop" = V.str "mute")=true
   decide +kernel
  have f2:gs2.filter (fun g=>decide (V.str g.head.w=V.str "mute"))=[]:=gE.mpr fun g hg=>by
   obtain ⟨j,hj⟩:=fh hg
   obtain ⟨a,b,c,rfl⟩:=a2 j g hj
   show ¬ decide (V.str "coupler" = V.str "mute")=true
   decide +kernel
  rw [f1,f2]
  have:=dt (fun g=>decide (V.str (Gp.head g).w=V.str "mute")) gs3
  show 0+0+_<=2
  omega
theorem jJ {G:Prop} {K:Hp->Prop} (P:Hp->Prop) (h1:(∀ H,P H->K H)->G) (h2:∀ H,P H->K H):G:=h1 h2
noncomputable def iG:Sp:=fun vs H Q _=>∃ (dh pc:Addr) (n:Nat),vs=[.ref dh]/\DH H dh pc n/\n<=1000 /\
 ∀ (p:Addr) (vs:List V) (sz:List Nat) (rk:List (Nat × Int)) (gs:List Gp) (n':Nat) H',H p=none->p ≠ dh->p ≠ pc->H' p=some (.lst vs)->Paired (fun (r:R) v=>TupAt H' r.v v) (HB sz rk gs) vs->QB sz rk gs->DH H' dh pc n'->n'<=n+2000->CV H H' dh pc->Q (.ref p) H'
theorem Ia:Aw ["_law_drawn_here","_law_sizes","_law_wide","_law_most","_law_ranks","_law_rows","_law_k","_law_pipes","_law_wind","_law_groups","_law_turn","_law_group"] ["_law_drawn_here"] (Af Z3):=Bo
include N T in
theorem jL:Av P w K mg base Bg 3 aD.fLg aD.dLg ["_law_drawn_here"] iG:=by
 refine N.FLg.1.ok Ia (fun vs H Q E h=>?_) (fun cdv A outer s H vs Q E hr h=>?_)
 ·refine byC fun w_=>?_;obtain ⟨dh,pc,n,rfl,_⟩:=h;refine w_ ?_
  rfl
 ·refine byC fun w_=>?_;obtain ⟨dh,pc,n,rfl,D,hn,q⟩:=h;refine w_ ?_
  refine ⟨_,(@Ac _ _ _ _ _ (Bh (i:=1) Ia.nd rfl (Or.inr rfl) (Bu rfl (Be (osc:=Af Z3) (N:=["_law_drawn_here","_law_sizes","_law_wide","_law_most","_law_ranks","_law_rows","_law_k","_law_pipes","_law_wind","_law_groups","_law_turn","_law_group"]) rfl rfl (by decide +kernel)) (CP rfl T.range (@Ax _ _ _ _ _ rfl (BK B_ Ae (Aj (Q5 N T) (ad hr) rfl N.FDw.2.2 N.FDw.1.kp N.FDw.2.1 .nil An (@Ax _ _ _ _ _ rfl (pv 0) (@Ax _ _ _ _ _ rfl Ae Ab)))) Ab)) (fun _ _ _ _=>CW) (fun _ _ _ _=>(BK B_ Ae (Aj (Q5 N T) (ad hr) rfl N.FDw.2.2 N.FDw.1.kp N.FDw.2.1 .nil An (@Ax _ _ _ _ _ rfl (pv 1) (@Ax _ _ _ _ _ rfl Ae Ab)))))))
   (@Ac _ _ _ _ _ (@BW _ _ _ _ _ _ 2 Ia.nd rfl (Or.inl rfl) (Eb Jo rfl T.int gt (@Ax _ _ _ _ _ rfl (Dt Cp (Aj (Q5 N T) (ad hr) rfl N.FDw.2.2 N.FDw.1.kp N.FDw.2.1 .nil An (@Ax _ _ _ _ _ rfl (pv 0) (@Ax _ _ _ _ _ rfl Ae Ab))) Ae (Bc _)) Ab)) (by kernel_rfl) (.inl rfl))
   (@Ac _ _ _ _ _ (@Br _ _ _ _ _ _ _ _ (BX Cp (pv 2) Ae (Bc _)) (@Ai _ _ _ (Ex (BK Dz Ae (Aj (Q5 N T) (ad hr) rfl N.FDw.2.2 N.FDw.1.kp N.FDw.2.1 .nil An (@Ax _ _ _ _ _ rfl (pv 0) (@Ax _ _ _ _ _ rfl Ae Ab)))) (Je (pv 1) Ae set_list))) Ba)
   (@Ac _ _ _ _ _ (@BW _ _ _ _ _ _ 3 Ia.nd rfl (Or.inl rfl) (@Am _ _ _ _ _ _ _ Bj (@DW _ _ _ _ (@Ax _ _ _ _ _ rfl Ae (@Ax _ _ _ _ _ rfl Ae Ab))) (BP (Lj rfl) rfl T.max PyProof.Rows.boot_max (@Ax _ _ _ _ _ rfl (pv 2) (@Ax _ _ _ _ _ rfl (Eb Jo rfl T.int gt (@Ax _ _ _ _ _ rfl (Dt Cp (Aj (Q5 N T) (ad hr) rfl N.FDw.2.2 N.FDw.1.kp N.FDw.2.1 .nil An (@Ax _ _ _ _ _ rfl (pv 0) (@Ax _ _ _ _ _ rfl Ae Ab))) Ae (Bc _)) Ab)) Ab))) (fun _ _=>rfl)) (by kernel_rfl) (.inl rfl))
   (@Ac _ _ _ _ _ (@BW _ _ _ _ _ _ 4 Ia.nd rfl (Or.inr rfl) (BK B_ Ae (Aj (Q5 N T) (ad hr) rfl N.FDw.2.2 N.FDw.1.kp N.FDw.2.1 .nil An (@Ax _ _ _ _ _ rfl (pv 0) (@Ax _ _ _ _ _ rfl Ae Ab)))) (by kernel_rfl) (.inl rfl))
   (@Ac _ _ _ _ _ (Hw (i:=5) Ia.nd rfl rfl rfl (Be (osc:=Af Z3) (N:=["_law_drawn_here","_law_sizes","_law_wide","_law_most","_law_ranks","_law_rows","_law_k","_law_pipes","_law_wind","_law_groups","_law_turn","_law_group"]) rfl rfl (by decide +kernel)) (CP rfl T.range (@Ax _ _ _ _ _ rfl (BP BV rfl T.len bX (@Ax _ _ _ _ _ rfl (pv 1) Ab)) Ab)) (fun _ _ _ _=>CW) (fun _ _ _ _=>(@Ck _ _ _ _ _ (@Ax _ _ _ _ _ rfl BR (@Ax _ _ _ _ _ rfl (@Am _ _ _ _ _ _ _ Gd BR (pv 0) (fun _ _=>rfl)) (@Ax _ _ _ _ _ rfl (@Am _ _ _ _ _ _ _ (Bv (K:=K) rfl) (pv 2) (pv 0) (fun _ _=>rfl)) Ab))))))
   (@Ac _ _ _ _ _ (C_ PassesOwn.never rfl (CP rfl T.range (@Ax _ _ _ _ _ rfl (pv 4) Ab)) (BZ (i:=6) Ia.nd rfl (Or.inl rfl)) (@Ac _ _ _ _ _ (@BW _ _ _ _ _ _ 7 Ia.nd rfl (Or.inl rfl) (@Am _ _ _ _ _ _ _ Bj (@DW _ _ _ _ (@Ax _ _ _ _ _ rfl (BK B_ Ae (Aj (Q5 N T) (ad hr) rfl N.FDw.2.2 N.FDw.1.kp N.FDw.2.1 .nil An (@Ax _ _ _ _ _ rfl (pv 0) (@Ax _ _ _ _ _ rfl Ae Ab)))) (@Ax _ _ _ _ _ rfl Ae Ab))) (Eb Jo rfl T.int gt (@Ax _ _ _ _ _ rfl (Dt Cp (Aj (Q5 N T) (ad hr) rfl N.FDw.2.2 N.FDw.1.kp N.FDw.2.1 .nil An (@Ax _ _ _ _ _ rfl (pv 0) (@Ax _ _ _ _ _ rfl Ae Ab))) Ae (Bc _)) Ab)) (fun _ _=>rfl)) (by kernel_rfl) (.inl rfl))
   (@Ac _ _ _ _ _ (@BW _ _ _ _ _ _ 8 Ia.nd rfl (Or.inl rfl) (Aj (Q5 N T) (ad hr) rfl N.FDw.2.2 N.FDw.1.kp N.FDw.2.1 .nil An (@Ax _ _ _ _ _ rfl (pv 0) (@Ax _ _ _ _ _ rfl Ae Ab))) (by kernel_rfl) (.inl rfl))
   (@Ac _ _ _ _ _ (@Br _ _ _ _ _ _ _ _ (BX Cp (pv 8) Ae (Bc _)) (@Ai _ _ _ (@BW _ _ _ _ _ _ 8 Ia.nd rfl (Or.inl rfl) (BK Dz (BK Z5 Ae Ae) (Aj (Q5 N T) (ad hr) rfl N.FDw.2.2 N.FDw.1.kp N.FDw.2.1 .nil An (@Ax _ _ _ _ _ rfl (pv 0) (@Ax _ _ _ _ _ rfl Ae Ab)))) (by kernel_rfl) (.inl rfl))) Ba)
   (@Ai _ _ _ (Eh (HF de dL dQ DG (pv 5) (@Ax _ _ _ _ _ rfl (@Ck _ _ _ _ _ (@Ax _ _ _ _ _ rfl BR (@Ax _ _ _ _ _ rfl (@Am _ _ _ _ _ _ _ Gd BR (pv 6) (fun _ _=>rfl)) (@Ax _ _ _ _ _ rfl (pv 7) (@Ax _ _ _ _ _ rfl (pv 8) Ab))))) Ab))))))))
   (@Ac _ _ _ _ _ (Hw (i:=9) Ia.nd rfl rfl rfl (Be (osc:=Af Z3) (N:=["_law_drawn_here","_law_sizes","_law_wide","_law_most","_law_ranks","_law_rows","_law_k","_law_pipes","_law_wind","_law_groups","_law_turn","_law_group"]) rfl rfl (by decide +kernel)) (CP rfl T.range (@Ax _ _ _ _ _ rfl (Aj (Q5 N T) (ad hr) rfl N.FDw.2.2 N.FDw.1.kp N.FDw.2.1 .nil An (@Ax _ _ _ _ _ rfl (pv 0) (@Ax _ _ _ _ _ rfl (pv 3) Ab))) Ab)) (fun _ _ _ _=>CW) (fun _ _ _ _=>(Aj (dW N T) (ad hr) rfl N.FLs.2.2 N.FLs.1.kp N.FLs.2.1 .nil An (@Ax _ _ _ _ _ rfl (pv 1) (@Ax _ _ _ _ _ rfl (pv 0) (@Ax _ _ _ _ _ rfl (pv 2) (@Ax _ _ _ _ _ rfl (pv 5) Ab)))))))
   (@Ac _ _ _ _ _ (@BW _ _ _ _ _ _ 9 Ia.nd rfl (Or.inl rfl) (BK Mu (pv 9) (Bu rfl (Be (osc:=Af Z3) (N:=["_law_drawn_here","_law_sizes","_law_wide","_law_most","_law_ranks","_law_rows","_law_k","_law_pipes","_law_wind","_law_groups","_law_turn","_law_group"]) rfl rfl (by decide +kernel)) (CP rfl T.range (@Ax _ _ _ _ _ rfl (Aj (Q5 N T) (ad hr) rfl N.FDw.2.2 N.FDw.1.kp N.FDw.2.1 .nil An (@Ax _ _ _ _ _ rfl (pv 0) (@Ax _ _ _ _ _ rfl (pv 3) Ab))) Ab)) (fun _ _ _ _=>CW) (fun _ _ _ _=>(Aj (cT N T) (ad hr) rfl N.FLc.2.2 N.FLc.1.kp N.FLc.2.1 .nil An (@Ax _ _ _ _ _ rfl (pv 1) (@Ax _ _ _ _ _ rfl (pv 0) (@Ax _ _ _ _ _ rfl (pv 2) Ab))))))) (by kernel_rfl) (.inl rfl))
   (@Ac _ _ _ _ _ (C_ PassesOwn.never rfl (CP rfl T.range (@Ax _ _ _ _ _ rfl (Aj (Q5 N T) (ad hr) rfl N.FDw.2.2 N.FDw.1.kp N.FDw.2.1 .nil An (@Ax _ _ _ _ _ rfl (pv 0) (@Ax _ _ _ _ _ rfl Ae Ab))) Ab)) (BZ (i:=6) Ia.nd rfl (Or.inl rfl)) (@Ai _ _ _ (Eh (HF de dL dQ DG (pv 9) (@Ax _ _ _ _ _ rfl (@DW _ _ _ _ (@Ax _ _ _ _ _ rfl (@Ck _ _ _ _ _ (@Ax _ _ _ _ _ rfl BR (@Ax _ _ _ _ _ rfl (BK Im BR (@Am _ _ _ _ _ _ _ Gd BR (pv 6) (fun _ _=>rfl))) (@Ax _ _ _ _ _ rfl (@Am _ _ _ _ _ _ _ Gd BR (Aj (Q5 N T) (ad hr) rfl N.FDw.2.2 N.FDw.1.kp N.FDw.2.1 .nil An (@Ax _ _ _ _ _ rfl (pv 0) (@Ax _ _ _ _ _ rfl (BP BV rfl T.len bX (@Ax _ _ _ _ _ rfl (pv 1) Ab)) Ab))) (fun _ _=>rfl)) Ab)))) Ab)) Ab)))))
   (@Ac _ _ _ _ _ (@BW _ _ _ _ _ _ 10 Ia.nd rfl (Or.inl rfl) (Aj (Q5 N T) (ad hr) rfl N.FDw.2.2 N.FDw.1.kp N.FDw.2.1 .nil An (@Ax _ _ _ _ _ rfl (pv 0) (@Ax _ _ _ _ _ rfl (BK B_ (BP BV rfl T.len bX (@Ax _ _ _ _ _ rfl (pv 9) Ab)) Ae) Ab))) (by kernel_rfl) (.inl rfl))
   (@Ac _ _ _ _ _ (C_ PassesOwn.never rfl (Bp (BK Mu (FW G4 (pv 9) (Fx (pv 10)) Gw) (FW G4 (pv 9) Gw (Fx (pv 10))))) (BZ (i:=11) Ia.nd rfl (Or.inl rfl)) (@Ai _ _ _ (@BW _ _ _ _ _ _ 5 Ia.nd rfl (Or.inl rfl) (BK Mu (pv 5) (pv 11)) (by kernel_rfl) (.inl rfl))))
   (@Ai _ _ _ (@Ay _ _ _ _ (pv 5))))))))))))))),?_⟩
  refine ⟨_,rfl,dh,pc,n,3,rfl,D,by omega,by decide,by decide,fun x H1 x0 x1 D1 f1=>⟨_,_,rfl,rfl,_,rfl,by omega,by omega,?_⟩⟩
  have F1:=CV.of2 f1
  refine GQ (lo:=0) (n:=(1+x).toNat) (fun DD i ys H'=>∃ (sz:List Nat) (nn:Nat),ys=nV sz/\sz.length=i/\(∀ z∈sz,1<=z/\z<=61)/\H' DD=some (.lst ys)/\DH H' dh pc nn/\nn<=n+1+i/\CV H H' dh pc/\DD ≠ dh/\DD ≠ pc) (BJ (by omega)) (fun DD hDD=>?_) (fun DD i ys H' h=>?_) (fun DD i ys H' hDD hi h R kk=>?_) (fun pS ys H2 hpS h=>?_)
  ·obtain ⟨a1,a2⟩:=DH.ne D1 hDD
   exact ⟨[],_,rfl,rfl,fun _ h=>absurd h kL,Ah,D1.upd a1 a2,by omega,F1.trans (CV.of (A_ hDD)),a1,a2⟩
  ·refine byC fun w_=>?_;obtain ⟨sz,nn,rfl,h1,_⟩:=h;refine w_ ?_
   unfold nV
   rw [ai]
   exact h1
  ·refine byC fun w_=>?_;obtain ⟨sz,nn,rfl,h1,h2,h3,h4,h5,h6,h7,h8⟩:=h;refine w_ ?_
   refine ⟨_,rfl,dh,pc,nn,9,rfl,h4,by omega,by decide,by decide,fun y H3 y0 y1 D3 f3=>⟨_,_,rfl,rfl,?_⟩⟩
   obtain ⟨y,rfl⟩:∃ m:Nat,y=(m:Int):=⟨y.toNat,by omega⟩
   have ev:(fun i j:Int=>V.int (i+j)) 1 ((y:Nat):Int)=V.int (((1+y:Nat)):Int):=by show V.int (1+(y:Int))=_; congr 1
   rw [ev]
   refine kk _ H3 (by rw [f3 DD h7 h8]; exact h3) ?_
   rw [Wh]
   refine ⟨sz++[1+y],_,rfl,by rw [av,h1]; rfl,fun z hz=>?_,Ah,D3.upd h7 h8,by omega,?_,h7,h8⟩
   ·rcases ba.mp hz with hz | hz
    ·exact h2 z hz
    ·rw [aS.mp hz]; omega
   ·exact (h6.trans (CV.of2 f3)).put (F1.free hDD h7 h8)
  refine byC fun w_=>?_;obtain ⟨sz,nn,rfl,h1,h2,h3,h4,h5,h6,h7,h8⟩:=h;refine w_ ?_
  have hp0:=F1.free hpS h7 h8
  refine ⟨_,rfl,dh,pc,nn,8,rfl,h4,by omega,by decide,by decide,fun y H3 y0 y1 D3 f3=>⟨rfl,.inr ⟨_,rfl,?_⟩⟩⟩
  obtain ⟨wid,ewid,hwid⟩:∃ wid:Int,(if decide (V.int y=V.int 5)=true then (1:Int) else 0)=wid/\(wid=0 \/ wid=1):=by
   by_cases h:decide (V.int y=V.int 5)=true
   ·exact ⟨1,by rw [if_pos h],.inr rfl⟩
   ·exact ⟨0,by rw [if_neg h],.inl rfl⟩
  rw [ewid]
  apply jJ (P:=fun H'=>∃ (sz:List Nat) (nn:Nat),V5 H' pS dh pc sz/\DH H' dh pc nn/\nn<=n+10/\CV H H' dh pc)
  case h1 =>
   intro rest
   refine ⟨_,rfl,rfl,_,rfl,Bs (fun _=>?_) (fun _=>?_)⟩
   ·refine ⟨_,rfl,dh,pc,_,3,rfl,D3,by omega,by decide,by decide,fun u H4 u0 u1 D4 f4=>⟨_,_,rfl,rfl,?_⟩⟩
    have F4:=h6.trans ((CV.of2 f3).trans (CV.of2 f4))
    have a4:H4 pS=some (.lst (nV sz)):=by rw [f4 pS h7 h8,f3 pS h7 h8]; exact h3
    obtain ⟨z0,sz',rfl⟩:∃ a l,sz=a::l:=by
     cases sz with
     | nil=>simp at h1; omega
     | cons a l=>exact ⟨a,l,rfl⟩
    obtain ⟨u,rfl⟩:∃ m:Nat,u=(m:Int):=⟨u.toNat,by omega⟩
    have ev:(fun i j:Int=>V.int (i - j)) 61 ((u:Nat):Int)=V.int (((61 - u:Nat)):Int):=by show V.int (61 - (u:Int))=_; congr 1; omega
    rw [ev]
    refine ⟨_,rfl,pS,_,0,0,rfl,rfl,a4,(by show S8 ((nV sz').length+1) 0=some 0; unfold S8; simp),?_⟩
    have e0:(nV (z0::sz')).set 0 (V.int (((61 - u:Nat)):Int))=nV ((61 - u)::sz'):=rfl
    have S5:V5 (upd H4 pS (HO.lst ((nV (z0::sz')).set 0 (V.int (((61 - u:Nat)):Int))))) pS dh pc ((61 - u)::sz'):=⟨by rw [Ah,e0],h7,h8,by simp,by simp at h1 ⊢; omega,fun z hz=>by
     rcases eh.mp hz with e | hz
     ·rw [e]; omega
     ·exact h2 z (by simp [hz])⟩
    have D5:=D4.upd (o:=HO.lst ((nV (z0::sz')).set 0 (V.int (((61 - u:Nat)):Int)))) h7 h8
    have F5:=F4.put (u:=HO.lst ((nV (z0::sz')).set 0 (V.int (((61 - u:Nat)):Int)))) hp0
    generalize upd H4 pS (HO.lst ((nV (z0::sz')).set 0 (V.int (((61 - u:Nat)):Int))))=H5 at S5 D5 F5 ⊢
    exact rest H5 ⟨_,_,S5,D5,by simp at h1; omega,F5⟩
   ·have S3:V5 H3 pS dh pc sz:=⟨by rw [f3 pS h7 h8]; exact h3,h7,h8,by omega,by omega,h2⟩
    exact rest H3 ⟨_,_,S3,D3,by omega,h6.trans (CV.of2 f3)⟩
  clear h1 h2 h3 h4 h5 h6 F1 f1 D1
  rintro H3 ⟨sz,nn,S,D3,hnn,F3⟩
  refine ⟨by show 2<=sizeLine; decide,fun pl hpl=>?_⟩
  have sm:=A_ (o:=HO.lst [V.int 6,V.int 13]) hpl
  have am:upd H3 pl (HO.lst [V.int 6,V.int 13]) pl=some (.lst [V.int 6,V.int 13]):=Ah
  obtain ⟨nm1,nm2⟩:=DH.ne D3 hpl
  have Dm:=D3.same sm
  generalize upd H3 pl (HO.lst [V.int 6,V.int 13])=Hm at sm am Dm ⊢
  refine ⟨_,rfl,_,rfl,dh,pc,nn,8,rfl,Dm,by omega,by decide,by decide,fun y9 Hn y90 y91 Dn fn=>⟨rfl,.inr ⟨_,rfl,?_⟩⟩⟩
  obtain ⟨w9,ew9,hw9⟩:∃ wid:Int,(if decide (V.int y9=V.int 3)=true then (1:Int) else 0)=wid/\(wid=0 \/ wid=1):=by
   by_cases h:decide (V.int y9=V.int 3)=true
   ·exact ⟨1,by rw [if_pos h],.inr rfl⟩
   ·exact ⟨0,by rw [if_neg h],.inl rfl⟩
  rw [ew9]
  have an:Hn pl=some (.lst [V.int 6,V.int 13]):=by rw [fn pl nm1 nm2]; exact am
  obtain ⟨mo,hmo,hat⟩:∃ mo:Int,(6<=mo/\mo<=13)/\Lb [V.int 6,V.int 13] (if w9 > wid then w9 else wid)=some (V.int mo):=by
   rcases hwid with rfl | rfl <;> rcases hw9 with rfl | rfl
   ·exact ⟨6,by omega,rfl⟩
   ·exact ⟨13,by omega,rfl⟩
   ·exact ⟨13,by omega,rfl⟩
   ·exact ⟨13,by omega,rfl⟩
  refine ⟨_,_,rfl,pl,_,_,_,rfl,rfl,kR an,hat,?_⟩
  obtain ⟨nq,enq⟩:∃ m,nn+1=m:=⟨_,rfl⟩
  rw [enq] at Dn
  have F3n:CV H Hn dh pc:=F3.trans ((CV.of sm).trans (CV.of2 fn))
  have Sn:=S.fr ((CV.of (dh:=dh) (pc:=pc) sm).trans (CV.of2 fn))
  have hnq:nq<=n+11:=by omega
  clear S F3 D3 Dm sm am an hat hpl ew9 hnn
  have S:=Sn
  have F3:=F3n
  have D3:=Dn
  have hl1:=S.l1
  have hl3:=S.l3
  refine ⟨_,rfl,dh,pc,nq,3,rfl,D3,by omega,by decide,by decide,fun r H4 r0 r1 D4 f4=>⟨_,_,rfl,rfl,?_⟩⟩
  obtain ⟨r,rfl⟩:∃ m:Nat,r=(m:Int):=⟨r.toNat,by omega⟩
  have ev:(fun i j:Int=>V.int (i+j)) 1 ((r:Nat):Int)=V.int (((1+r:Nat)):Int):=by show V.int (1+(r:Int))=_; congr 1
  rw [ev]
  obtain ⟨nr,enr⟩:∃ m,1+r=m:=⟨_,rfl⟩
  rw [enr]
  have nr1:1<=nr/\nr<=3:=by omega
  have F4:=F3.trans (CV.of2 f4)
  have S4:=S.fr (CV.of2 f4)
  clear ev enr r0 r1
  have hnt:(((nV sz).length:Nat):Int).toNat=sz.length:=by rw [aT,S.len]
  have hsl:=S.len
  refine ⟨_,rfl,pS,_,rfl,kR (.inl S4.l),_,rfl,by omega,by omega,?_⟩
  rw [hnt]
  refine GQ (lo:=0) (n:=sz.length) (fun DD i ys H'=>ys.length=i/\H' DD=some (.lst ys)/\Paired (fun (r:R) v=>TupAt H' r.v v) (((GK sz).take i).map GP) ys/\CV H4 H' dh pc/\DH H' dh pc (nq+1)/\DD ≠ dh/\DD ≠ pc) (BJ (by omega)) (fun DD hDD=>?_) (fun DD i ys H' h=>h.1) (fun DD i ys H' hDD hi h R kk=>?_) (fun pR ys H5 hpR h=>?_)
  ·obtain ⟨a1,a2⟩:=DH.ne D4 hDD
   exact ⟨rfl,Ah,.nil,CV.of (A_ hDD),D4.upd a1 a2,a1,a2⟩
  ·refine byC fun w_=>?_;obtain ⟨g1,g2,g3,g4,g5,g6,g7⟩:=h;refine w_ ?_
   have et:((0:Int)+(i:Int))=((i:Nat):Int):=by omega
   rw [et]
   obtain ⟨c1,hc1,ec1⟩:=PJ (k:=i) (by omega)
   refine ⟨_,rfl,"xyz",_,c1,rfl,rfl,by decide,hc1,_,rfl,_,rfl,pS,_,_,_,rfl,rfl,.inl (.inl (S4.fr g4).l),Mi hi,by show 3<=sizeLine; decide,fun T hT=>?_⟩
   rw [ec1]
   have s6:=A_ (o:=HO.tup [V.str "board",V.str (DX i),V.int ((sz.getD i 0:Nat):Int)]) hT
   have a6:upd H' T (HO.tup [V.str "board",V.str (DX i),V.int ((sz.getD i 0:Nat):Int)]) T=some (.tup (GP (DX i,sz.getD i 0)).v):=Ah
   refine kk _ _ (s6 _ _ g2) ?_
   generalize upd H' T (HO.tup [V.str "board",V.str (DX i),V.int ((sz.getD i 0:Nat):Int)])=H6 at s6 a6
   refine ⟨by rw [av,g1]; rfl,Ah,?_,?_,(g5.same s6).upd g6 g7,g6,g7⟩
   ·rw [dl,ZZ hi,br]
    exact Paired.snoc (Bx (Al s6 g3) (s6 _ _ g2)) (TupAt.upd ⟨T,rfl,a6⟩ (s6 _ _ g2))
   ·exact (g4.trans (CV.of s6)).put hDD
  refine byC fun w_=>?_;obtain ⟨g1,g2,g3,g4,g5,g6,g7⟩:=h;refine w_ ?_
  rw [gg (by rw [Ws]; exact aE _)] at g3
  have hpR0:=F4.free hpR g6 g7
  have F5:=F4.trans g4
  refine ⟨_,rfl,_,rfl,by omega,by omega,?_⟩
  have hnr:((nr:Nat):Int).toNat=nr:=aT nr
  rw [hnr]
  refine GC (lo:=0) (n:=nr) (fun i σ H'=>∃ (rk:List (Nat × Int)) (vs:List V) (mm:Nat) (v4 v5 v6:Option V),σ=[some (.ref dh),some (.ref pS),some (.int wid),some (.int mo),some (.int (nr:Nat)),some (.ref pR),v4,v5,v6,none,none,none]/\H' pR=some (.lst vs)/\Paired (fun (r:R) v=>TupAt H' r.v v) ((GK sz).map GP++(Eg rk).map Fy) vs/\rk.length=i/\vs.length=sz.length+i/\(∀ x∈rk,1<=x.1/\x.1<=97/\0<=x.2/\x.2<=1000000000)/\DH H' dh pc mm/\mm<=n+20+5 * i/\CV H4 H' dh pc) ⟨[],ys,_,_,_,_,rfl,g2,by rw [show (Eg []).map Fy=[] from rfl,List.append_nil]; exact g3,rfl,by omega,fun _ h=>absurd h List.not_mem_nil,g5,by omega,g4⟩ ?_ ?_
  ·rintro i σ H6 hi ⟨rk,vs,mm,v4,v5,v6,rfl,a6,P6,lrk,lvs,okr,D6,hmm,F46⟩
   have et:((0:Int)+(i:Int))=((i:Nat):Int):=by omega
   rw [et]
   refine ⟨_,rfl,dh,pc,mm,18,rfl,D6,by omega,by decide,by decide,fun x H7 x0 x1 D7 f7=>⟨_,_,rfl,rfl,by show 2<=sizeLine; decide,fun pl hpl=>?_⟩⟩
   obtain ⟨x,rfl⟩:∃ m:Nat,x=(m:Int):=⟨x.toNat,by omega⟩
   have s8:=A_ (o:=HO.lst [(fun i j:Int=>V.int (i+j)) 1 ((x:Nat):Int),V.int 97]) hpl
   have a8:upd H7 pl (HO.lst [(fun i j:Int=>V.int (i+j)) 1 ((x:Nat):Int),V.int 97]) pl=some (.lst [V.int (1+(x:Int)),V.int 97]):=Ah
   obtain ⟨n1,n2⟩:=DH.ne D7 hpl
   have D8:=D7.same s8
   generalize upd H7 pl (HO.lst [(fun i j:Int=>V.int (i+j)) 1 ((x:Nat):Int),V.int 97])=H8 at s8 a8 D8 ⊢
   refine ⟨_,rfl,dh,pc,_,9,rfl,D8,by omega,by decide,by decide,fun y H9 y0 y1 D9 f9=>⟨rfl,.inr ⟨_,rfl,?_⟩⟩⟩
   have a9:H9 pl=some (.lst [V.int (1+(x:Int)),V.int 97]):=by rw [f9 pl n1 n2]; exact a8
   obtain ⟨pp,hpp,hat⟩:∃ pp:Nat,(1<=pp/\pp<=97)/\Lb [V.int (1+(x:Int)),V.int 97] (if decide (V.int y=V.int 4)=true then 1 else 0)=some (V.int ((pp:Nat):Int)):=by
    by_cases h:decide (V.int y=V.int 4)=true
    ·rw [if_pos h]; exact ⟨97,by omega,rfl⟩
    ·rw [if_neg h]
     refine ⟨1+x,by omega,?_⟩
     show some (V.int (1+(x:Int)))=_
     congr 2
   refine ⟨pl,_,_,_,rfl,rfl,kR a9,hat,?_⟩
   have F69:CV H6 H9 dh pc:=(CV.of2 f7).trans ((CV.of s8).trans (CV.of2 f9))
   refine ⟨_,rfl,dh,pc,_,9,rfl,D9,by omega,by decide,by decide,fun wd Ha w0 w1 Da fa=>?_⟩
   apply Uj (P:=fun s H'=>0<=s/\s<=1000000000/\(∃ n',DH H' dh pc n'/\n'<=mm+4)/\CV H6 H' dh pc)
   case h1 =>
    intro rest
    have F6a:=F69.trans (CV.of2 fa)
    refine ⟨_,rfl,rfl,_,rfl,Bs (fun _=>?_) (fun _=>?_)⟩
    ·refine ⟨_,_,rfl,rfl,⟨by decide,by decide,by decide⟩,_,rfl,dh,pc,_,99,rfl,Da,by omega,by decide,by decide,fun u Hb u0 u1 Db fb=>⟨_,_,rfl,rfl,?_⟩⟩
     have hb:0<=(10:Int) ^ (9:Int).toNat - u/\(10:Int) ^ (9:Int).toNat - u<=1000000000:=by
      have:(10:Int) ^ (9:Int).toNat=1000000000:=by decide
      omega
     show RB _ ((_:St).set 8 (some (V.int ((10:Int) ^ (9:Int).toNat - u)))) Hb
     generalize (10:Int) ^ (9:Int).toNat - u=s at hb ⊢
     exact rest s Hb ⟨hb.1,hb.2,⟨_,Db,by omega⟩,F6a.trans (CV.of2 fb)⟩
    ·exact rest wd Ha ⟨w0,by omega,⟨_,Da,by omega⟩,F6a⟩
   rintro wi Hb ⟨wi0,wi1,⟨nb,Db,hnb⟩,F6b⟩
   have ab:=F6b _ _ g6 g7 a6
   obtain ⟨c1,hc1,ec1⟩:=X5 (k:=i) (by omega)
   refine ⟨_,rfl,.inl ⟨rfl,_,kR ab⟩,_,rfl,"uvw",_,c1,rfl,rfl,by decide,hc1,_,rfl,_,rfl,by show 4<=sizeLine; decide,fun t6 ht6=>?_⟩
   rw [ec1]
   have sc:=A_ (o:=HO.tup [V.str "rank",V.str (Dj i),V.int ((pp:Nat):Int),V.int wi]) ht6
   have ac:upd Hb t6 (HO.tup [V.str "rank",V.str (Dj i),V.int ((pp:Nat):Int),V.int wi]) t6=some (.tup (Fy (Dj i,pp,wi)).v):=Ah
   generalize upd Hb t6 (HO.tup [V.str "rank",V.str (Dj i),V.int ((pp:Nat):Int),V.int wi])=Hc at sc ac ⊢
   have al:=sc _ _ ab
   have F6c:=F6b.trans (CV.of (dh:=dh) (pc:=pc) sc)
   refine ⟨pR,_,_,rfl,rfl,al,BJ (by omega),?_⟩
   refine ⟨rk++[(pp,wi)],vs++[V.ref t6],_,_,_,_,rfl,Ah,?_,by rw [av,lrk]; rfl,by rw [av,lvs]; rfl,fun t ht=>?_,(Db.same sc).upd g6 g7,by omega,(F46.trans F6c).put hpR⟩
   ·rw [Um,br,← cm,lrk]
    exact Paired.snoc (Bx (JV D6 F6c P6) al) (TupAt.upd ⟨t6,rfl,ac⟩ al)
   ·rcases ba.mp ht with h | h
    ·exact okr t h
    ·rw [aS.mp h]
     exact ⟨hpp.1,hpp.2,wi0,wi1⟩
  rintro σ H6 ⟨rk,vs,mm,v4,v5,v6,rfl,a6,P6,lrk,lvs,okr,D6,hmm,F46⟩
  refine ⟨_,rfl,_,rfl,dh,pc,mm,mo,rfl,D6,by omega,by omega,by omega,fun x H7 x0 x1 D7 f7=>⟨_,rfl,by omega,by omega,?_⟩⟩
  have F67:=CV.of2 f7
  have S7:=S4.fr (F46.trans F67)
  refine GQ (lo:=0) (n:=x.toNat) (fun DD i ys H'=>ys.length=i/\H' DD=some (.lst ys)/\(∀ y∈ys,y ≠ .ref DD)/\(∃ (gs:List Gp) (m':Nat),Paired (MP dh pc H') gs ys/\(∀ (j:Nat) g,gs[j]? = some g->∃ b ls,g=.st j b ls)/\(∀ g∈gs,g.ok sz nr)/\DH H' dh pc m'/\m'<=mm+1+40 * i)/\CV H7 H' dh pc/\DD ≠ dh/\DD ≠ pc) (BJ (by omega)) (fun DD hDD=>?_) (fun DD i ys H' h=>h.1) (fun DD i ys H' hDD hi h R kk=>?_) (fun pG ys H8 hpG h=>?_)
  ·obtain ⟨a1,a2⟩:=DH.ne D7 hDD
   exact ⟨rfl,Ah,fun _ h=>absurd h List.not_mem_nil,⟨[],_,.nil,fun j g h=>by simp at h,fun _ h=>absurd h List.not_mem_nil,D7.upd a1 a2,by omega⟩,CV.of (A_ hDD),a1,a2⟩
  ·refine byC fun w_=>?_;obtain ⟨k1,k2,k3,⟨gs,m',k4,k5,k6,k7,k8⟩,k9,ka,kb⟩:=h;refine w_ ?_
   have et:((0:Int)+(i:Int))=((i:Nat):Int):=by omega
   rw [et]
   refine ⟨_,rfl,_,rfl,_,rfl,_,rfl,dh,pc,m',i,pS,sz,nr,rfl,k7,by omega,S7.fr k9,by omega,nr1.1,nr1.2,fun p b ls n' H9 hp n1 n2 G ok D9 hn' F9=>?_⟩
   have a9:=F9 _ _ ka kb k2
   have npD:(V.ref p) ≠ .ref DD:=fun z=>by
    cases z
    rw [k2] at hp
    cases hp
   refine kk _ H9 a9 ?_
   refine ⟨by rw [av,k1]; rfl,Ah,fun y hy=>?_,⟨gs++[.st i b ls],n',?_,fun j g hg=>?_,fun g hg=>?_,D9.upd ka kb,by omega⟩,(k9.trans F9).put hDD,ka,kb⟩
   ·rcases ba.mp hy with hy | hy
    ·exact k3 y hy
    ·rw [aS.mp hy]; exact npD
   ·have lg:=k4.length
    refine Paired.snoc ?_ (MP.upd a9 npD ⟨p,rfl,n1,n2,G⟩)
    exact Er k4 fun g y hy h=>MP.upd a9 (k3 y hy) (h.fr k7 F9)
   ·have lg:=k4.length
    by_cases hj:j<gs.length
    ·rw [eJ hj] at hg
     exact k5 j g hg
    ·rw [cv (by omega)] at hg
     have:j - gs.length=0:=by
      have:=(ah.mp hg).1
      simp at this
      omega
     rw [this] at hg
     cases hg
     have:j=i:=by omega
     rw [this]
     exact ⟨b,ls,rfl⟩
   ·rcases ba.mp hg with h | h
    ·exact k6 g h
    ·rw [aS.mp h]; exact ok
  refine byC fun w_=>?_;obtain ⟨k1,k2,k3,⟨gs,m',k4,k5,k6,k7,k8⟩,k9,ka,kb⟩:=h;refine w_ ?_
  have F78:=k9
  have lgs:=k4.length
  refine ⟨_,rfl,_,rfl,_,rfl,dh,pc,m',mo,rfl,k7,by omega,by omega,by omega,fun x2 H9 y0 y1 D9 f9=>⟨_,rfl,by omega,by omega,?_⟩⟩
  have F89:=CV.of2 f9
  have S9:=S7.fr (F78.trans F89)
  have kG9:Paired (MP dh pc H9) gs ys:=Paired.Fj k4 fun _ _ h=>h.fr k7 F89
  have aG9:=F89 _ _ ka kb k2
  refine GQ (lo:=0) (n:=x2.toNat) (fun DD i ys2 H'=>ys2.length=i/\H' DD=some (.lst ys2)/\(∀ y∈ys2,y ≠ .ref DD)/\(∃ (gs2:List Gp) (m2:Nat),Paired (MP dh pc H') gs2 ys2/\(∀ (j:Nat) g,gs2[j]? = some g->∃ a b c,g=.cp j a b c)/\(∀ g∈gs2,g.ok sz nr)/\DH H' dh pc m2/\m2<=m'+1+5 * i)/\CV H9 H' dh pc/\DD ≠ dh/\DD ≠ pc) (BJ (by omega)) (fun DD hDD=>?_) (fun DD i ys2 H' h=>h.1) (fun DD i ys2 H' hDD hi h R kk=>?_) (fun pG2 ys2 Ha hpG2 h=>?_)
  ·obtain ⟨a1,a2⟩:=DH.ne D9 hDD
   exact ⟨rfl,Ah,fun _ h=>absurd h List.not_mem_nil,⟨[],_,.nil,fun j g h=>by simp at h,fun _ h=>absurd h List.not_mem_nil,D9.upd a1 a2,by omega⟩,CV.of (A_ hDD),a1,a2⟩
  ·refine byC fun w_=>?_;obtain ⟨j1,j2,j3,⟨gs2,m2,j4,j5,j6,j7,j8⟩,j9,ja,jb⟩:=h;refine w_ ?_
   have et:((0:Int)+(i:Int))=((i:Nat):Int):=by omega
   rw [et]
   refine ⟨_,rfl,_,rfl,_,rfl,dh,pc,m2,i,pS,sz,rfl,j7,by omega,S9.fr j9,by omega,fun p a b c n' Hb hp n1 n2 G ok Db hn' Fb=>?_⟩
   have ab:=Fb _ _ ja jb j2
   have npD:(V.ref p) ≠ .ref DD:=fun z=>by
    cases z
    rw [j2] at hp
    cases hp
   refine kk _ Hb ab ?_
   refine ⟨by rw [av,j1]; rfl,Ah,fun y hy=>?_,⟨gs2++[.cp i a b c],n',?_,fun j g hg=>?_,fun g hg=>?_,Db.upd ja jb,by omega⟩,(j9.trans Fb).put hDD,ja,jb⟩
   ·rcases ba.mp hy with hy | hy
    ·exact j3 y hy
    ·rw [aS.mp hy]; exact npD
   ·refine Paired.snoc ?_ (MP.upd ab npD ⟨p,rfl,n1,n2,G⟩)
    exact Er j4 fun g y hy h=>MP.upd ab (j3 y hy) (h.fr j7 Fb)
   ·have lg:=j4.length
    by_cases hj:j<gs2.length
    ·rw [eJ hj] at hg
     exact j5 j g hg
    ·rw [cv (by omega)] at hg
     have:j - gs2.length=0:=by
      have:=(ah.mp hg).1
      simp at this
      omega
     rw [this] at hg
     cases hg
     have:j=i:=by omega
     rw [this]
     exact ⟨a,b,c,rfl⟩
   ·rcases ba.mp hg with h | h
    ·exact j6 g h
    ·rw [aS.mp h]; exact ok
  refine byC fun w_=>?_;obtain ⟨j1,j2,j3,⟨gs2,m2,j4,j5,j6,j7,j8⟩,j9,ja,jb⟩:=h;refine w_ ?_
  have lgs2:=j4.length
  refine ⟨pG,pG2,_,_,rfl,rfl,j9 _ _ ka kb aG9,j2,ga (BJ (by omega)),fun pC hpC=>?_⟩
  have kA:Paired (MP dh pc Ha) (gs++gs2) (ys++ys2):=CT (Paired.Fj kG9 fun _ _ h=>h.fr D9 j9) j4
  obtain ⟨nC1,nC2⟩:=DH.ne j7 hpC
  have neC:∀ y∈ys++ys2,y ≠ .ref pC:=fun y hy e=>by
   refine byC fun w_=>?_;obtain ⟨g,_,p,e2,_,_,vs',e3,_⟩:=Cg kA hy;refine w_ ?_
   rw [e] at e2
   cases e2
   rw [hpC] at e3
   cases e3
  have sC:=A_ (o:=HO.lst (ys++ys2)) hpC
  have aC:upd Ha pC (HO.lst (ys++ys2)) pC=some (.lst (ys++ys2)):=Ah
  have kC:Paired (MP dh pc (upd Ha pC (HO.lst (ys++ys2)))) (gs++gs2) (ys++ys2):=Paired.Fj kA fun _ _ h=>h.fr j7 (CV.of sC)
  have DC:=j7.same sC
  have FaC:CV Ha (upd Ha pC (HO.lst (ys++ys2))) dh pc:=CV.of sC
  generalize upd Ha pC (HO.lst (ys++ys2))=HC at sC aC kC DC FaC ⊢
  refine ⟨_,rfl,dh,pc,m2,3,rfl,DC,by omega,by decide,by decide,fun x3 Hc z0 z1 Dc fc=>⟨_,rfl,by omega,by omega,?_⟩⟩
  have Fac:=FaC.trans (CV.of2 fc)
  have lyy:(ys++ys2).length=ys.length+ys2.length:=av
  refine GC (lo:=0) (n:=x3.toNat) (fun i σ H'=>∃ (gs3:List Gp) (zs:List V) (m3:Nat) (u4:Option V),σ=[some (.ref dh),some (.ref pS),some (.int wid),some (.int mo),some (.int (nr:Nat)),some (.ref pR),u4,v5,v6,some (.ref pC),none,none]/\H' pC=some (.lst zs)/\zs.length=ys.length+ys2.length+i/\(∀ y∈zs,y ≠ .ref pC)/\Paired (MP dh pc H') (gs++gs2++gs3) zs/\gs3.length=i/\(∀ (j:Nat) g,gs3[j]? = some g->∃ b,g=.mu j b)/\(∀ g∈gs3,g.ok sz nr)/\DH H' dh pc m3/\m3<=m2+1+i/\CV Ha H' dh pc) ⟨[],ys++ys2,_,_,rfl,by rw [fc pC nC1 nC2]; exact aC,by omega,neC,by rw [List.append_nil]; exact Paired.Fj kC fun _ _ h=>h.fr DC (CV.of2 fc),rfl,fun j g h=>by simp at h,fun _ h=>absurd h List.not_mem_nil,Dc,by omega,Fac⟩ ?_ ?_
  ·rintro i σ Hd hi ⟨gs3,zs,m3,u4,rfl,q1,q2,q3,q4,q5,q6,q7,q8,q9,qa⟩
   have et:((0:Int)+(i:Int))=((i:Nat):Int):=by omega
   rw [et]
   have Sd:=S9.fr (j9.trans qa)
   obtain ⟨c2,hc2,ec2⟩:=eY (k:=i) (by omega)
   refine ⟨_,rfl,.inl ⟨rfl,_,kR q1⟩,_,rfl,"ab",_,c2,rfl,rfl,by decide,hc2,"m",_,rfl,rfl,by show 2<=sizeLine; decide,_,rfl,_,rfl,pS,_,rfl,kR (.inl Sd.l),dh,pc,m3,_,rfl,q8,by omega,by omega,by omega,fun b He b0 b1 De fe=>?_⟩
   obtain ⟨b,rfl⟩:∃ m:Nat,b=(m:Int):=⟨b.toNat,by omega⟩
   obtain ⟨c3,hc3,ec3⟩:=PJ (k:=b) (by omega)
   refine ⟨"xyz",_,c3,rfl,rfl,by decide,hc3,by show 3<=sizeLine; decide,fun T hT=>⟨by show 1<=sizeLine; decide,fun p hp=>?_⟩⟩
   rw [ec2,ec3] at hp ⊢
   have sf:=A_ (o:=HO.tup [V.str "mute",V.str (RZ.getD i ""),V.str (DX b)]) hT
   have af:upd He T (HO.tup [V.str "mute",V.str (RZ.getD i ""),V.str (DX b)]) T=some (.tup (Gp.mu i b).head.v):=Ah
   generalize upd He T (HO.tup [V.str "mute",V.str (RZ.getD i ""),V.str (DX b)])=Hf at sf af hp ⊢
   have sg:=A_ (o:=HO.lst [V.ref T]) hp
   have ag:upd Hf p (HO.lst [V.ref T]) p=some (.lst [V.ref T]):=Ah
   have Df:=De.same sf
   obtain ⟨n1,n2⟩:=DH.ne Df hp
   have Fdf:CV Hd Hf dh pc:=(CV.of2 fe).trans (CV.of sf)
   have q1f:=Fdf _ _ nC1 nC2 q1
   have npC:V.ref p ≠ .ref pC:=fun z=>by
    cases z
    rw [hp] at q1f
    cases q1f
   have af2:=sg _ _ af
   have Dg:=Df.same sg
   have Fdg:CV Hd (upd Hf p (HO.lst [V.ref T])) dh pc:=Fdf.trans (CV.of sg)
   generalize upd Hf p (HO.lst [V.ref T])=Hg at sg ag af2 Dg Fdg ⊢
   have qg:=Fdg _ _ nC1 nC2 q1
   refine ⟨pC,_,_,rfl,rfl,qg,BJ (by omega),?_⟩
   refine ⟨gs3++[.mu i b],zs++[V.ref p],_,_,rfl,Ah,by rw [av,q2]; rfl,fun y hy=>?_,?_,by rw [av,q5]; rfl,fun j g hg=>?_,fun g hg=>?_,Dg.upd nC1 nC2,by omega,(qa.trans Fdg).put hpC⟩
   ·rcases ba.mp hy with hy | hy
    ·exact q3 y hy
    ·rw [aS.mp hy]; exact npC
   ·rw [← cm]
    refine Paired.snoc ?_ (MP.upd qg npC ⟨p,rfl,n1,n2,[V.ref T],ag,.cons ⟨T,rfl,af2⟩ .nil⟩)
    exact Er q4 fun g y hy h=>MP.upd qg (q3 y hy) (h.fr q8 Fdg)
   ·by_cases hj:j<gs3.length
    ·rw [eJ hj] at hg
     exact q6 j g hg
    ·rw [cv (by omega)] at hg
     have:j - gs3.length=0:=by
      have:=(ah.mp hg).1
      simp at this
      omega
     rw [this] at hg
     cases hg
     have:j=i:=by omega
     rw [this]
     exact ⟨b,rfl⟩
   ·rcases ba.mp hg with h | h
    ·exact q7 g h
    ·rw [aS.mp h]; exact ⟨by omega,by omega⟩
  rintro σ Hd ⟨gs3,zs,m3,u4,rfl,q1,q2,q3,q4,q5,q6,q7,q8,q9,qa⟩
  have lzs:=q4.length
  refine ⟨_,rfl,_,rfl,pC,_,rfl,kR (.inl q1),_,_,rfl,rfl,dh,pc,m3,_,rfl,q8,by omega,by omega,by omega,fun t He t0 t1 De fe=>?_⟩
  obtain ⟨t,rfl⟩:∃ m:Nat,t=(m:Int):=⟨t.toNat,by omega⟩
  have ht:t<=zs.length:=by omega
  have Fe:=CV.of2 fe
  have qe:=Fe _ _ nC1 nC2 q1
  have F6d:CV H6 Hd dh pc:=F67.trans (F78.trans (F89.trans (j9.trans qa)))
  have aRe:=(F6d.trans Fe) _ _ g6 g7 a6
  have PRe:=JV D6 (F6d.trans Fe) P6
  have Ke:=Paired.Fj q4 fun _ _ h=>MP.fr q8 Fe h
  have FHe:CV H He dh pc:=F4.trans (F46.trans (F6d.trans Fe))
  have W:=Wo (t:=t) hl1 hl3 S.z (by omega:1<=rk.length) (by omega) okr k5 j5 q6 (by rw [lrk]; exact k6) (by rw [lrk]; exact j6) (by rw [lrk]; exact q7) (by omega) (by omega) (by omega)
  generalize hall:gs++gs2++gs3=all at Ke W lzs
  clear q4 k4 kG9 kA kC j4 P6 g3
  refine ⟨_,rfl,_,rfl,_,rfl,pC,_,rfl,kR qe,fun p1 hp1=>?_⟩
  rw [Vf]
  obtain ⟨Hf,eqH,s1,b1⟩:=Ft (o:=HO.lst (zs.drop t)) hp1
  rw [eqH]
  refine ⟨_,rfl,_,rfl,_,rfl,pC,_,rfl,kR (s1 _ _ qe),fun p2 hp2=>?_⟩
  rw [Ja zs t ht]
  obtain ⟨Hg,eqH,s2,b2⟩:=Ft (o:=HO.lst (zs.take t)) hp2
  rw [eqH]
  refine ⟨p1,p2,_,_,rfl,rfl,s2 _ _ b1,b2,ga (BJ (by rw [ij,dS]; omega)),fun p3 hp3=>?_⟩
  obtain ⟨Hh,eqH,s3,b3⟩:=Ft (o:=HO.lst (zs.drop t++zs.take t)) hp3
  rw [eqH]
  have s13:=s1.trans (s2.trans s3)
  have Dh:=De.same s13
  have Kr:Paired (MP dh pc Hh) (all.drop t++all.take t) (zs.drop t++zs.take t):=CT (Jz t (Paired.Fj Ke fun _ _ h=>h.fr De (CV.of s13))) (Hk (Paired.Fj Ke fun _ _ h=>h.fr De (CV.of s13)) t)
  have FHh:=FHe.trans (CV.of (dh:=dh) (pc:=pc) s13)
  have aRh:=s13 _ _ aRe
  have PRh:=Al s13 PRe
  generalize all.drop t++all.take t=rot at W Kr
  generalize zs.drop t++zs.take t=rv at Kr b3
  clear s1 s2 s3 s13 b1 b2 hp1 hp2 hp3 Ke qe q1 q3 hall
  refine ⟨p3,rfl,⟨_,kR b3⟩,Eo (K:=K) (a:=p3) (xs:=rv) (fun i σ H'=>∃ (pX:Addr) (ws:List V) (u9:Option V),σ=[some (.ref dh),some (.ref pS),some (.int wid),some (.int mo),some (.int (nr:Nat)),some (.ref pX),u4,v5,v6,some (.ref pC),some (.int (t:Nat)),u9]/\H' pX=some (.lst ws)/\Paired (fun (r:R) v=>TupAt H' r.v v) ((GK sz).map GP++(Eg rk).map Fy++(rot.take i).flatMap Gp.rows) ws/\ws.length<=6+5 * i/\H pX=none/\pX ≠ dh/\pX ≠ pc/\Ao Hh H') ⟨pR,vs,_,rfl,aRh,by rw [List.take_zero,kK,ff]; exact PRh,by omega,hpR0,g6,g7,Ao.refl _⟩ (fun i σ H' _ h=>by obtain ⟨_,_,_,_,_,_,_,_,_,_,s⟩:=h; exact kR (s _ _ b3)) ?_ ?_⟩
  ·rintro i y σ H' hi ⟨pX,ws,u9,rfl,e1,e2,e3,e4,e5,e6,e7⟩
   have lr:=Kr.length
   have hwl:=W.len
   have hil:=(ah.mp hi).1
   refine byC fun w_=>?_;obtain ⟨g,hg,pg,rfl,n1,n2,gv,eg,Pg⟩:=Og.D_ Kr hi;refine w_ ?_
   have og:=W.ok g (ay hg)
   have r5:=VD og
   have lgv:=Pg.length
   refine ⟨_,rfl,_,rfl,pX,pg,_,_,rfl,rfl,e1,e7 _ _ eg,ga (BJ (by omega)),fun pN hpN=>?_⟩
   have sN:=A_ (o:=HO.lst (ws++gv)) hpN
   obtain ⟨m1,m2'⟩:=DH.ne (Dh.same e7) hpN
   refine ⟨pN,ws++gv,_,rfl,Ah,?_,by rw [av]; omega,(FHh.trans (CV.of e7)).free hpN m1 m2',m1,m2',e7.trans sN⟩
   have et:(rot.take (i+1)).flatMap Gp.rows=(rot.take i).flatMap Gp.rows++g.rows:=by
    rw [dl,hg,List.flatMap_append]
    simp
   rw [et,← cm]
   exact Al sN (CT e2 (Al e7 Pg))
  ·rintro σ H' ⟨pX,ws,u9,rfl,e1,e2,e3,e4,e5,e6,e7⟩
   have lr:=Kr.length
   rw [gg (by omega)] at e2
   exact ⟨_,rfl,q pX ws sz rk rot _ H' e4 e5 e6 e1 e2 W (Dh.same e7) (by omega) (FHh.trans (CV.of e7))⟩
open Bw
open Bw
theorem Qt:∀ (bs:List (Str × Nat × Int)) (s:Hz),(bs.foldl HH s).pi=s.pi+(bs.map (fun r=>r.2.1)).sum
 | [],s=>(Nat.add_zero _).symm
 | b::bs,s=>by
  rw [List.foldl_cons,Qt bs (HH s b),dv,hU]
  show s.pi+b.2.1+_=_
  omega
theorem gF (sz:List Nat) (rk:List (Nat × Int)) (gs:List Gp):(mW sz rk gs).pi=Tj (Eg rk):=by
 show ((Eg rk).foldl HH ((GK sz).foldl Gm m0)).pi=_
 rw [Qt,Mp]
 show 0+_=_
 rw [iP]
 rfl
noncomputable def KZ (H:Hp) (m:Addr) (rk:List (Nat × Int)):Prop:=∃ kvs,H m=some (.dK kvs)/\Cd kvs (Sum.inr "pipes")=some (.int ((Tj (Eg rk):Nat):Int))
theorem KZ.get {H:Hp} {m:Addr} {rk:List (Nat × Int)} (h:KZ H m rk):Ey H m (.str "pipes") (some (.int ((Tj (Eg rk):Nat):Int))):=by
 obtain ⟨kvs,h1,h2⟩:=h
 exact .inl ⟨kvs,Sum.inr "pipes",.inl h1,rfl,h2.symm⟩
theorem KZ.mono {H H':Hp} {m:Addr} {rk:List (Nat × Int)} (s:Ao H H') (h:KZ H m rk):KZ H' m rk:=by
 obtain ⟨kvs,h1,h2⟩:=h
 exact ⟨kvs,s _ _ h1,h2⟩
noncomputable def dY:Sp:=fun vs H Q _=>∃ (p:Addr) (vs':List V) (sz:List Nat) (rk:List (Nat × Int)) (gs:List Gp),vs=[.ref p]/\H p=some (.lst vs')/\Paired (fun (r:R) v=>TupAt H r.v v) (HB sz rk gs) vs'/\QB sz rk gs/\vs'.length<=500 /\
 ∀ (m:Addr) H',H m=none->Ao H H'->ModX H H' m sz rk gs->KZ H' m rk->Q (.ref m) H'
theorem Q9 (z:Str):inV (.str z) [.str "stop",.str "coupler",.str "mute"]=true ↔ z = "stop" \/ z = "coupler" \/ z = "mute":=by
 unfold inV
 simp [Wi]
 constructor
 ·rintro (h | h | h)
  ·exact .inl h.symm
  ·exact .inr (.inl h.symm)
  ·exact .inr (.inr h.symm)
 ·rintro (h | h | h)
  ·exact .inl h.symm
  ·exact .inr (.inl h.symm)
  ·exact .inr (.inr h.symm)
theorem gH {z:Str} (h:z = "stop" \/ z = "coupler" \/ z = "mute"):z ≠ "board" /\ z ≠ "rank" /\ z ≠ "line":=by
 rcases h with rfl | rfl | rfl <;> decide +kernel
theorem QG:Aw ["_law_rows","_law_model_here","_law_keys","_law_pipes","_law_row_here"] ["_law_rows"] (Af lX):=Bo
include N T in
theorem cP:Av P w K mg base Bg 1 aD.fLm aD.dLm ["_law_rows"] dY:=by
 refine N.FLm.1.ok QG (fun vs H Q E h=>?_) (fun cdv A outer s H vs Q E hr h=>?_)
 ·refine byC fun w_=>?_;obtain ⟨p,vs',sz,rk,gs,rfl,_⟩:=h;refine w_ ?_
  rfl
 ·refine byC fun w_=>?_;obtain ⟨p,vs',sz,rk,gs,rfl,hp,P0,W,h500,q⟩:=h;refine w_ ?_
  have hu:=Ei hr
  refine ⟨_,(@Ac _ _ _ _ _ (@BW _ _ _ _ _ _ 1 QG.nd rfl (Or.inl rfl) (@Wy _ _ _ _ _ (@K_ _ _ _ _ _ _ _ _ _ BR Hu (@K_ _ _ _ _ _ _ _ _ _ BR Hu (@K_ _ _ _ _ _ _ _ _ _ BR (@DW _ _ _ _ Ab) Wm))) rfl rfl (by intro h; cases h) (by decide)) (by kernel_rfl) (.inl rfl))
   (@Ac _ _ _ _ _ (@BW _ _ _ _ _ _ 2 QG.nd rfl (Or.inl rfl) Ae (by kernel_rfl) (.inl rfl))
   (@Ac _ _ _ _ _ (@BW _ _ _ _ _ _ 3 QG.nd rfl (Or.inl rfl) Ae (by kernel_rfl) (.inl rfl))
   (@Ac _ _ _ _ _ (C_ PassesOwn.never rfl (Bp (pv 0)) (BZ (i:=4) QG.nd rfl (Or.inl rfl)) (@Ac _ _ _ _ _ (@Br _ _ _ _ _ _ _ _ (BX Cp (@Am _ _ _ _ _ _ _ Fo (pv 4) Ae (fun _ _=>rfl)) BR (Bc _)) (@Ac _ _ _ _ _ (G6 hu (Bk hu (pv 1) BR (fun _ _=>rfl)) (@Am _ _ _ _ _ _ _ Fo (pv 4) Ae (fun _ _=>rfl)) (@Ck _ _ _ _ _ (@Ax _ _ _ _ _ rfl (pv 2) (@Ax _ _ _ _ _ rfl (@Am _ _ _ _ _ _ _ Fo (pv 4) Ae (fun _ _=>rfl)) Ab))) rfl)
   (@Ai _ _ _ (@BW _ _ _ _ _ _ 2 QG.nd rfl (Or.inl rfl) (BK B_ (pv 2) (@Am _ _ _ _ _ _ _ Fo (pv 4) Ae (fun _ _=>rfl))) (by kernel_rfl) (.inl rfl)))) Ba)
   (@Ac _ _ _ _ _ (@Br _ _ _ _ _ _ _ _ (BX Cp (@Am _ _ _ _ _ _ _ Fo (pv 4) Ae (fun _ _=>rfl)) BR (Bc _)) (@Ac _ _ _ _ _ (G6 hu (Bk hu (pv 1) BR (fun _ _=>rfl)) (@Am _ _ _ _ _ _ _ Fo (pv 4) Ae (fun _ _=>rfl)) (@Ck _ _ _ _ _ (@Ax _ _ _ _ _ rfl (pv 3) (@Ax _ _ _ _ _ rfl (@Am _ _ _ _ _ _ _ Fo (pv 4) Ae (fun _ _=>rfl)) Ab))) rfl)
   (@Ai _ _ _ (@BW _ _ _ _ _ _ 3 QG.nd rfl (Or.inl rfl) (BK B_ (pv 3) (@Am _ _ _ _ _ _ _ Fo (pv 4) Ae (fun _ _=>rfl))) (by kernel_rfl) (.inl rfl)))) Ba)
   (@Ac _ _ _ _ _ (@Br _ _ _ _ _ _ _ _ (BX Jk (@Am _ _ _ _ _ _ _ Fo (pv 4) Ae (fun _ _=>rfl)) (@Ck _ _ _ _ _ (@Ax _ _ _ _ _ rfl BR (@Ax _ _ _ _ _ rfl BR (@Ax _ _ _ _ _ rfl BR Ab)))) rfl) (@Ai _ _ _ (Eh (HF de dL dQ DG (Bk hu (pv 1) BR (fun _ _=>rfl)) (@Ax _ _ _ _ _ rfl (@Ck _ _ _ _ _ (@Ax _ _ _ _ _ rfl (pv 4) (@Ax _ _ _ _ _ rfl (@DW _ _ _ _ Ab) Ab))) Ab)))) Ba)
   (@Ai _ _ _ (@Br _ _ _ _ _ _ _ _ (BX Cp (@Am _ _ _ _ _ _ _ Fo (pv 4) Ae (fun _ _=>rfl)) BR (Bc _)) (@Ai _ _ _ (Eh (HF de dL dQ DG (@Am _ _ _ _ _ _ _ Fo (@Am _ _ _ _ _ _ _ Bj (Bk hu (pv 1) BR (fun _ _=>rfl)) (MT Jf Ae) (fun _ _=>rfl)) Ae (fun _ _=>rfl)) (@Ax _ _ _ _ _ rfl (pv 4) Ab)))) Ba))))))
   (@Ac _ _ _ _ _ (G6 hu (pv 1) BR (pv 2) rfl)
   (@Ac _ _ _ _ _ (G6 hu (pv 1) BR (pv 3) rfl)
   (@Ai _ _ _ (@Ay _ _ _ _ (pv 1))))))))),?_⟩
  intro m hm db hdb dr hdr
  refine ⟨Fl (by simp),fun kn hkn=>?_⟩
  have s1:=A_ (o:=HO.dK []) hm
  have a1:upd H m (HO.dK []) m=some (.dK []):=Ah
  generalize upd H m (HO.dK [])=H1 at s1 a1 hdb hdr hkn ⊢
  have s2:=A_ (o:=HO.dK []) hdb
  have a2:upd H1 db (HO.dK []) db=some (.dK []):=Ah
  generalize upd H1 db (HO.dK [])=H2 at s2 a2 hdr hkn ⊢
  have s3:=A_ (o:=HO.dK []) hdr
  have a3:upd H2 dr (HO.dK []) dr=some (.dK []):=Ah
  generalize upd H2 dr (HO.dK [])=H3 at s3 a3 hkn ⊢
  refine byC fun w_=>?_;obtain ⟨H4,eqH,s4,a4⟩:=Ft (o:=HO.lst []) hkn;refine w_ ?_
  rw [eqH]
  have a14:=s4 _ _ (s3 _ _ (s2 _ _ a1))
  have a24:=s4 _ _ (s3 _ _ a2)
  have a34:=s4 _ _ a3
  refine ⟨a14,[(Sum.inr "boards",.ref db),(Sum.inr "ranks",.ref dr),(Sum.inr "knobs",.ref kn)],rfl,(by show 3<=15; decide),?_⟩
  have n1:m ≠ db:=Ak a1 hdb
  have n2:m ≠ dr:=Ak (s2 _ _ a1) hdr
  have n3:db ≠ dr:=Ak a2 hdr
  have n4:m ≠ kn:=Ak (s3 _ _ (s2 _ _ a1)) hkn
  have z1:=s1.free hdb
  have z2:=s1.free (s2.free hdr)
  have z3:=s1.free (s2.free (s3.free hkn))
  obtain ⟨kv0,ekv,vb,vr,vk,lkv⟩:∃ kv0:List (Key × V),Jp [] [(Sum.inr "boards",V.ref db),(Sum.inr "ranks",.ref dr),(Sum.inr "knobs",.ref kn)]=kv0/\Cd kv0 (Sum.inr "boards")=some (.ref db)/\Cd kv0 (Sum.inr "ranks")=some (.ref dr)/\Cd kv0 (Sum.inr "knobs")=some (.ref kn)/\kv0.length<=3:=⟨_,rfl,rfl,rfl,rfl,GX _ _⟩
  rw [ekv]
  have sA:Ao H (upd H4 m (HO.dK kv0)):=fun b u e=>by
   rw [Ar (Ak e hm)]
   exact s4 _ _ (s3 _ _ (s2 _ _ (s1 _ _ e)))
  have aA:upd H4 m (HO.dK kv0) m=some (.dK kv0):=Ah
  have bA:upd H4 m (HO.dK kv0) db=some (.dK []):=by rw [Ar (Ne.symm n1)]; exact a24
  have cA:upd H4 m (HO.dK kv0) dr=some (.dK []):=by rw [Ar (Ne.symm n2)]; exact a34
  have dA:upd H4 m (HO.dK kv0) kn=some (.lst []):=by rw [Ar (Ne.symm n4)]; exact a4
  generalize upd H4 m (HO.dK kv0)=HA at sA aA bA cA dA ⊢
  have hS:Cz K HA p vs':=.inl (.inl (sA _ _ hp))
  have hlen:=P0.length
  refine ⟨_,rfl,p,rfl,⟨_,hS⟩,Eo (K:=K) (a:=p) (xs:=vs') (fun i σ H4=>Ao H H4/\H4 m=some (.dK kv0)/\∃ TL s v4,Gk H H4 db dr kn TL s i/\J5 s ((HB sz rk gs).drop i) (mW sz rk gs)/\σ=[some (.ref p),some (.ref m),some (.int (s.ke:Nat)),some (.int (s.pi:Nat)),v4])
   ⟨sA,aA,[],m0,_,⟨⟨[],bA,gu _,fun t x e=>nomatch e⟩,⟨[],cA,gu _,fun t x e=>nomatch e⟩,dA,List.nodup_nil,(fun a ha=>nomatch ha),.nil⟩,cI W,rfl⟩ (fun i σ H4 _ h=>.inl (.inl (h.1 _ _ hp))) ?_ ?_⟩
  ·rintro i x σ H4 hx ⟨s4,am,TL,s,v4,M,tr,rfl⟩
   obtain ⟨r,hr,hrx⟩:=D_ P0 hx
   have hi:i<vs'.length:=(ah.mp hx).1
   have ed:(HB sz rk gs).drop i=r::(HB sz rk gs).drop (i+1):=by
    have hir:i<(HB sz rk gs).length:=(ah.mp hr).1
    rw [ic hir]
    congr 1
    exact (ah.mp hr).2
   rw [ed] at tr
   obtain ⟨r0,rfl,hr0⟩:=hrx.mono s4
   cases tr with
   | @cons _ s' _ _ _ st tr =>
   cases st with
   | b b =>
    refine byC fun w_=>?_;obtain ⟨kvs,hd,hlk,h3⟩:=id M.b;refine w_ ?_
    refine ⟨_,rfl,r0,_,_,_,rfl,rfl,kR hr0,Ag (j:=0) rfl,rfl,_,rfl,Bs (fun _=>?_) (fun z=>absurd (decide_eq_true rfl) z)⟩
    refine ⟨_,rfl,_,rfl,r0,_,_,_,rfl,rfl,kR hr0,Ag (j:=2) rfl,by show 2<=sizeLine; decide,fun T hT=>?_⟩
    have s5:=A_ (o:=HO.tup [.int (s.ke:Nat),.int (b.2:Nat)]) hT
    have u5:TupAt (upd H4 T (HO.tup [.int (s.ke:Nat),.int (b.2:Nat)])) [.int (s.ke:Nat),.int (b.2:Nat)] (.ref T):=⟨T,rfl,Ah⟩
    generalize upd H4 T (HO.tup [.int (s.ke:Nat),.int (b.2:Nat)])=H5 at s5 u5 ⊢
    have M5:=M.mono s5 (aE _)
    have am5:=s5 _ _ am
    have hr5:=s5 _ _ hr0
    have d5:=s5 _ _ hd
    refine ⟨_,rfl,m,_,rfl,.inl ⟨kv0,Sum.inr "boards",.inl am5,rfl,vb.symm⟩,_,rfl,r0,_,_,_,rfl,rfl,kR hr5,Ag (j:=1) rfl,db,_,rfl,Kq.k (k:=Sum.inr b.1) d5 (BJ (by omega)),?_⟩
    have M6:=M5.pU (b:=b) n3 d5 hlk (fun t x e=>by obtain ⟨v,e1,e2⟩:=h3 t x e; exact ⟨v,e1,e2.mono s5⟩) u5
    have am6:upd H5 db (HO.dK (putK kvs (Sum.inr b.1) (.ref T))) m=some (.dK kv0):=by rw [Ar n1]; exact am5
    have s6:Ao H (upd H5 db (HO.dK (putK kvs (Sum.inr b.1) (.ref T)))):=fun a u e=>by rw [Ar (Ak e z1)]; exact s5 _ _ (s4 _ _ e)
    have hr6:upd H5 db (HO.dK (putK kvs (Sum.inr b.1) (.ref T))) r0=some (.tup (GP b).v):=Cr hr5 d5 (by simp)
    generalize upd H5 db (HO.dK (putK kvs (Sum.inr b.1) (.ref T)))=H6 at M6 am6 s6 hr6 ⊢
    refine ⟨_,rfl,_,rfl,r0,_,_,_,rfl,rfl,kR hr6,Ag (j:=2) rfl,_,_,rfl,rfl,?_⟩
    refine ⟨_,rfl,r0,_,_,_,rfl,rfl,kR hr6,Ag (j:=0) rfl,rfl,_,rfl,Bs (fun z=>absurd (V.str.inj (of_decide_eq_true z)) (by show ¬ ("board" : Str) = "rank"; decide +kernel)) (fun _=>?_)⟩
    refine ⟨_,rfl,r0,_,_,_,rfl,rfl,kR hr6,Ag (j:=0) rfl,by show 3<=sizeLine; decide,fun T7 hT7=>?_⟩
    refine byC fun w_=>?_;obtain ⟨H7,eqH,s7,u7⟩:=Ft (o:=HO.tup [.str "stop",.str "coupler",.str "mute"]) hT7;refine w_ ?_
    rw [eqH]
    refine ⟨T7,_,rfl,.inr (.inl (.inl u7)),rfl,rfl,_,rfl,Bs (fun z=>absurd ((Q9 _).mp z) (by show ¬ (("board" : Str) = "stop" \/ ("board" : Str) = "coupler" \/ ("board" : Str) = "mute"); decide +kernel)) (fun _=>?_)⟩
    refine ⟨_,rfl,r0,_,_,_,rfl,rfl,kR (s7 _ _ hr6),Ag (j:=0) rfl,rfl,_,rfl,Bs (fun z=>absurd (V.str.inj (of_decide_eq_true z)) (by show ¬ ("board" : Str) = "line"; decide +kernel)) (fun _=>?_)⟩
    exact ⟨s6.trans s7,s7 _ _ am6,TL,_,_,M6.mono s7 (aE _),tr,rfl⟩
   | r b =>
    refine byC fun w_=>?_;obtain ⟨kvs,hd,hlk,h3⟩:=id M.r;refine w_ ?_
    refine ⟨_,rfl,r0,_,_,_,rfl,rfl,kR hr0,Ag (j:=0) rfl,rfl,_,rfl,Bs (fun z=>absurd (V.str.inj (of_decide_eq_true z)) (by show ¬ ("rank" : Str) = "board"; decide +kernel)) (fun _=>?_)⟩
    refine ⟨_,rfl,r0,_,_,_,rfl,rfl,kR hr0,Ag (j:=0) rfl,rfl,_,rfl,Bs (fun _=>?_) (fun z=>absurd (decide_eq_true rfl) z)⟩
    refine ⟨_,rfl,_,rfl,r0,_,_,_,rfl,rfl,kR hr0,Ag (j:=2) rfl,by show 2<=sizeLine; decide,fun T hT=>?_⟩
    have s5:=A_ (o:=HO.tup [.int (s.pi:Nat),.int (b.2.1:Nat)]) hT
    have u5:TupAt (upd H4 T (HO.tup [.int (s.pi:Nat),.int (b.2.1:Nat)])) [.int (s.pi:Nat),.int (b.2.1:Nat)] (.ref T):=⟨T,rfl,Ah⟩
    generalize upd H4 T (HO.tup [.int (s.pi:Nat),.int (b.2.1:Nat)])=H5 at s5 u5 ⊢
    have M5:=M.mono s5 (aE _)
    have am5:=s5 _ _ am
    have hr5:=s5 _ _ hr0
    have d5:=s5 _ _ hd
    refine ⟨_,rfl,m,_,rfl,.inl ⟨kv0,Sum.inr "ranks",.inl am5,rfl,vr.symm⟩,_,rfl,r0,_,_,_,rfl,rfl,kR hr5,Ag (j:=1) rfl,dr,_,rfl,Kq.k (k:=Sum.inr b.1) d5 (BJ (by omega)),?_⟩
    have M6:=M5.qH (b:=b) n3 d5 hlk (fun t x e=>by obtain ⟨v,e1,e2⟩:=h3 t x e; exact ⟨v,e1,e2.mono s5⟩) u5
    have am6:upd H5 dr (HO.dK (putK kvs (Sum.inr b.1) (.ref T))) m=some (.dK kv0):=by rw [Ar n2]; exact am5
    have s6:Ao H (upd H5 dr (HO.dK (putK kvs (Sum.inr b.1) (.ref T)))):=fun a u e=>by rw [Ar (Ak e z2)]; exact s5 _ _ (s4 _ _ e)
    have hr6:upd H5 dr (HO.dK (putK kvs (Sum.inr b.1) (.ref T))) r0=some (.tup (Fy b).v):=Cr hr5 d5 (by simp)
    generalize upd H5 dr (HO.dK (putK kvs (Sum.inr b.1) (.ref T)))=H6 at M6 am6 s6 hr6 ⊢
    refine ⟨_,rfl,_,rfl,r0,_,_,_,rfl,rfl,kR hr6,Ag (j:=2) rfl,_,_,rfl,rfl,?_⟩
    refine ⟨_,rfl,r0,_,_,_,rfl,rfl,kR hr6,Ag (j:=0) rfl,by show 3<=sizeLine; decide,fun T7 hT7=>?_⟩
    obtain ⟨H7,eqH,s7,u7⟩:=Ft (o:=HO.tup [.str "stop",.str "coupler",.str "mute"]) hT7
    rw [eqH]
    refine ⟨T7,_,rfl,.inr (.inl (.inl u7)),rfl,rfl,_,rfl,Bs (fun z=>absurd ((Q9 _).mp z) (by show ¬ (("rank" : Str) = "stop" \/ ("rank" : Str) = "coupler" \/ ("rank" : Str) = "mute"); decide +kernel)) (fun _=>?_)⟩
    refine ⟨_,rfl,r0,_,_,_,rfl,rfl,kR (s7 _ _ hr6),Ag (j:=0) rfl,rfl,_,rfl,Bs (fun z=>absurd (V.str.inj (of_decide_eq_true z)) (by show ¬ ("rank" : Str) = "line"; decide +kernel)) (fun _=>?_)⟩
    exact ⟨s6.trans s7,s7 _ _ am6,TL,_,_,M6.mono s7 (aE _),tr,rfl⟩
   | k _ hw hl =>
    obtain ⟨nb,nr,nl⟩:=gH hw
    refine ⟨_,rfl,r0,_,_,_,rfl,rfl,kR hr0,Ag (j:=0) rfl,rfl,_,rfl,Bs (fun z=>absurd (V.str.inj (of_decide_eq_true z)) nb) (fun _=>?_)⟩
    refine ⟨_,rfl,r0,_,_,_,rfl,rfl,kR hr0,Ag (j:=0) rfl,rfl,_,rfl,Bs (fun z=>absurd (V.str.inj (of_decide_eq_true z)) nr) (fun _=>?_)⟩
    refine ⟨_,rfl,r0,_,_,_,rfl,rfl,kR hr0,Ag (j:=0) rfl,by show 3<=sizeLine; decide,fun T7 hT7=>?_⟩
    obtain ⟨H7,eqH,s7,u7⟩:=Ft (o:=HO.tup [.str "stop",.str "coupler",.str "mute"]) hT7
    rw [eqH]
    refine ⟨T7,_,rfl,.inr (.inl (.inl u7)),rfl,rfl,_,rfl,Bs (fun _=>?_) (fun z=>absurd ((Q9 _).mpr hw) z)⟩
    have M7:=M.mono s7 (aE _)
    have am7:=s7 _ _ am
    have hr7:=s7 _ _ hr0
    refine ⟨_,rfl,m,_,rfl,.inl ⟨kv0,Sum.inr "knobs",.inl am7,rfl,vk.symm⟩,.inl ⟨rfl,_,kR M7.k⟩,_,rfl,Fl (by simp),fun L hL=>?_⟩
    have s8:=A_ (o:=HO.lst []) hL
    have u8:upd H7 L (HO.lst []) L=some (.lst []):=Ah
    have nL:L ∉ TL.map (·.2):=fun hm=>by
     obtain ⟨a,ha,e⟩:=aI.mp hm
     refine byC fun w_=>?_;obtain ⟨g,_,rv,lvs,_,_,h3,_⟩:=Cg M7.pr ha;refine w_ ?_
     rw [e,hL] at h3
     cases h3
    have nk:L ≠ kn:=fun e=>by rw [e,M7.k] at hL; cases hL
    have zL:=s4.free (s7.free hL)
    generalize upd H7 L (HO.lst [])=H8 at s8 u8 ⊢
    refine ⟨by show 2<=sizeLine; decide,fun T hT=>?_⟩
    obtain ⟨H9,eqH,s9,u9⟩:=Ft (o:=HO.tup [.ref r0,.ref L]) hT
    rw [eqH]
    have s79:=s8.trans s9
    have M9:=M7.mono s79 (aE _)
    have hr9:=s79 _ _ hr7
    have lTL:TL.length=s.kn.length:=M.pr.length.symm
    refine ⟨kn,_,_,rfl,rfl,M9.k,BJ (by rw [ai]; omega),?_⟩
    have M10:=M9.putK u9 (s9 _ _ u8) ⟨r0,rfl,hr9⟩ zL nk nL
    refine ⟨_,rfl,r0,_,_,_,rfl,rfl,kR (Cr hr9 M9.k (by simp)),Ag (j:=0) rfl,rfl,_,rfl,Bs (fun z=>absurd (V.str.inj (of_decide_eq_true z)) nl) (fun _=>?_)⟩
    exact ⟨fun b u e=>by rw [Ar (Ak e z3)]; exact s79 _ _ (s7 _ _ (s4 _ _ e)),Cr (s79 _ _ am7) M9.k (by simp),_,_,_,M10,tr,rfl⟩
   | l ks g ls l e hl =>
    refine ⟨_,rfl,r0,_,_,_,rfl,rfl,kR hr0,Ag (j:=0) rfl,rfl,_,rfl,Bs (fun z=>absurd (V.str.inj (of_decide_eq_true z)) (by show ¬ ("line" : Str) = "board"; decide +kernel)) (fun _=>?_)⟩
    refine ⟨_,rfl,r0,_,_,_,rfl,rfl,kR hr0,Ag (j:=0) rfl,rfl,_,rfl,Bs (fun z=>absurd (V.str.inj (of_decide_eq_true z)) (by show ¬ ("line" : Str) = "rank"; decide +kernel)) (fun _=>?_)⟩
    refine ⟨_,rfl,r0,_,_,_,rfl,rfl,kR hr0,Ag (j:=0) rfl,by show 3<=sizeLine; decide,fun T7 hT7=>?_⟩
    obtain ⟨H7,eqH,s7,u7⟩:=Ft (o:=HO.tup [.str "stop",.str "coupler",.str "mute"]) hT7
    rw [eqH]
    refine ⟨T7,_,rfl,.inr (.inl (.inl u7)),rfl,rfl,_,rfl,Bs (fun z=>absurd ((Q9 _).mp z) (by show ¬ (("line" : Str) = "stop" \/ ("line" : Str) = "coupler" \/ ("line" : Str) = "mute"); decide +kernel)) (fun _=>?_)⟩
    have M7:=M.mono s7 (aE _)
    have am7:=s7 _ _ am
    have hr7:=s7 _ _ hr0
    refine byC fun w_=>?_;obtain ⟨tl,T,L,rv0,lvs,rfl,hT,hL,hll,zL,M8⟩:=M7.line e (l:=LK l) ⟨r0,rfl,hr7⟩;refine w_ ?_
    have hk7:=M7.k
    rw [br,dv,gT] at hk7
    refine ⟨_,rfl,r0,_,_,_,rfl,rfl,kR hr7,Ag (j:=0) rfl,rfl,_,rfl,Bs (fun _=>?_) (fun z=>absurd (decide_eq_true rfl) z)⟩
    refine ⟨_,rfl,m,_,rfl,.inl ⟨kv0,Sum.inr "knobs",.inl am7,rfl,vk.symm⟩,_,rfl,kn,_,_,_,rfl,rfl,kR hk7,RM _ _,T,_,_,_,rfl,rfl,kR hT,Ag (j:=1) rfl,.inl ⟨rfl,_,kR hL⟩,_,rfl,L,lvs,_,rfl,rfl,hL,BJ (by omega),?_⟩
    exact ⟨fun b u e=>by rw [Ar (Ak e zL)]; exact s7 _ _ (s4 _ _ e),Cr am7 hL (by simp),_,_,_,M8,tr,rfl⟩
  ·rintro σ H4 ⟨s4,am,TL,s,v4,M,tr,rfl⟩
   rw [List.drop_of_length_le (by omega)] at tr
   cases tr
   refine ⟨_,rfl,_,rfl,m,_,rfl,Kq.k (k:=Sum.inr "keys") am (BJ (by omega)),?_⟩
   have l1:=Ej kv0 (Sum.inr "keys") (.int ((mW sz rk gs).ke:Nat))
   refine ⟨_,rfl,_,rfl,m,_,rfl,Kq.k (k:=Sum.inr "pipes") Ah (BJ (by omega)),?_⟩
   have M1:Gk H (upd H4 m (HO.dK (putK kv0 (Sum.inr "keys") (.int ((mW sz rk gs).ke:Nat))))) db dr kn TL (mW sz rk gs) vs'.length:=⟨M.b.Iw am (by simp) (Ne.symm n1) (Nat.le_refl _),M.r.Iw am (by simp) (Ne.symm n2) (Nat.le_refl _),Cr M.k am (by simp),M.nd,M.fr,Paired.Fj M.pr fun _ _ q=>q.Iw am⟩
   generalize hv1:putK kv0 (Sum.inr "keys") (.int ((mW sz rk gs).ke:Nat))=kv1 at M1 l1 ⊢
   have am1:upd H4 m (HO.dK kv1) m=some (.dK kv1):=Ah
   have s5:Ao H (upd H4 m (HO.dK kv1)):=fun b u e=>by rw [Ar (Ak e hm)]; exact s4 _ _ e
   generalize upd H4 m (HO.dK kv1)=H5 at M1 am1 s5 ⊢
   have M2:Gk H (upd H5 m (HO.dK (putK kv1 (Sum.inr "pipes") (.int ((mW sz rk gs).pi:Nat))))) db dr kn TL (mW sz rk gs) vs'.length:=⟨M1.b.Iw am1 (by simp) (Ne.symm n1) (Nat.le_refl _),M1.r.Iw am1 (by simp) (Ne.symm n2) (Nat.le_refl _),Cr M1.k am1 (by simp),M1.nd,M1.fr,Paired.Fj M1.pr fun _ _ q=>q.Iw am1⟩
   have nk:∀ {a b:Str},a ≠ b->¬ (Sum.inr a:Key)=Sum.inr b:=fun h z=>h (Sum.inr.inj z)
   refine ⟨_,rfl,q m _ hm (fun b u e=>by rw [Ar (Ak e hm)]; exact s5 _ _ e) ⟨_,db,dr,kn,TL,_,⟨z3,z1,z2,hm⟩,Ah,?_,?_,?_,?_,M2⟩ ⟨_,Ah,?_⟩⟩
   ·rw [Dl,if_neg (nk (by decide +kernel)),← hv1,Dl,if_neg (nk (by decide +kernel))]
    exact vb
   ·rw [Dl,if_neg (nk (by decide +kernel)),← hv1,Dl,if_neg (nk (by decide +kernel))]
    exact vr
   ·rw [Dl,if_neg (nk (by decide +kernel)),← hv1,Dl,if_neg (nk (by decide +kernel))]
    exact vk
   ·rw [Dl,if_neg (nk (by decide +kernel)),← hv1,Dl,if_pos rfl,cM]
   ·rw [Dl,if_pos rfl,gF]
open Bw
noncomputable def Pk (p:Nat × Nat):List V:=[.int ((p.2:Nat):Int),.int ((p.1:Nat):Int)]
open Bw
noncomputable def gf (K:W.Frag):Sp:=fun vs H Q _=>∃ (a:Addr) (k:Nat) (ns:List Int),vs=[.ref a,.int (k:Nat)]/\Cz K H a (ns.map V.int)/\∀ i:Int,Q (.int i) H
theorem my:Aw ["_law_script","_law_k"] ["_law_script","_law_k"] (Af pK):=Bo
include N T in
theorem dz:Av P w K mg base Bg 1 aD.fCe aD.dCe ["_law_script","_law_k"] (gf K):=by
 refine N.FCe.1.ok my (fun vs H Q E h=>?_) (fun cdv A outer s H vs Q E hr h=>?_)
 ·refine byC fun w_=>?_;obtain ⟨a,k,ns,rfl,_⟩:=h;refine w_ ?_
  rfl
 ·refine byC fun w_=>?_;obtain ⟨a,k,ns,rfl,hS,q⟩:=h;refine w_ ?_
  refine ⟨_,(@Ac _ _ _ _ _ (@Br _ _ _ _ _ _ _ _ (BX HD (pv 1) (BP BV rfl T.len bX (@Ax _ _ _ _ _ rfl (pv 0) Ab)) (Bc _)) (@Ai _ _ _ (@Ay _ _ _ _ (@Am _ _ _ _ _ _ _ Bj (pv 0) (pv 1) (fun _ _=>rfl)))) Ba)
   (@Ai _ _ _ (@Ay _ _ _ _ Ae))),?_⟩
  refine ⟨_,rfl,_,rfl,a,_,rfl,.inl hS,_,_,rfl,rfl,_,rfl,?_⟩
  refine Bs (fun h1=>?_) (fun _=>q 0)
  have hlt:k<ns.length:=by have:=of_decide_eq_true h1; rw [ai] at this; omega
  exact ⟨_,rfl,_,rfl,a,_,_,.int ns[k],rfl,rfl,hS,Ag (by rw [ar,ae hlt]; rfl),q _⟩
theorem m_:Aw ["_law_found"] ["_law_found"] (Af lN):=Bo
include N T in
theorem bF:Av P w K mg base Bg 1 aD.fLw aD.dLw ["_law_found"] R4:=by
 refine N.FLw.1.ok m_ (fun vs H Q E h=>?_) (fun cdv A outer s H vs Q E hr h=>?_)
 ·obtain ⟨i,rfl,_⟩:=h
  rfl
 ·obtain ⟨i,rfl,q⟩:=h
  refine ⟨_,(@Ai _ _ _ (@Ay _ _ _ _ (Et (BP Dp rfl T.isin cE (@Ax _ _ _ _ _ rfl (pv 0) (@Ax _ _ _ _ _ rfl (FT (v:=.ty "int") rfl T.int gt rfl) Ab))) (Dv (My (BP Dp rfl T.isin cE (@Ax _ _ _ _ _ rfl (pv 0) (@Ax _ _ _ _ _ rfl (FT (v:=.ty "bool") rfl T.bool PyProof.Rows.boot_bool rfl) Ab)))))))),?_⟩
  refine ⟨_,rfl,_,"int",_,_,rfl,.int i,ty_int,_,rfl,Ef ?_⟩
  exact ⟨_,rfl,_,"bool",_,_,rfl,.int i,Xq,_,rfl,q⟩
theorem P_ {X:Cx} {K:W.Frag} (hk:X.K=K) (hu:X.A.units<cLine):Gv X (compareOp .Eq) (fun x y H Q=>∃ p q xs,x=V.ref p/\y=V.ref q/\Cz K H p xs/\Cz K H q []/\Q (.bl xs.isEmpty) H):=hk ▸ Sw hu
theorem Jh {X:Cx} {K:W.Frag} (hk:X.K=K) (hu:X.A.units<cLine):Gv X (compareOp .NotEq) (fun x y H Q=>∃ p q xs,x=V.ref p/\y=V.ref q/\Cz K H p xs/\Cz K H q []/\Q (.bl (!xs.isEmpty)) H):=hk ▸ U_ hu
open Bw
noncomputable def qt (c:Nat->Str) (sz:List Nat) (kbs:List Kb) (D i j:Nat):Prop:=JB (stp (Bb c sz) kbs D) (fun a=>a=i) j \/ (j=i/\∀ b,V4 sz j b->¬ JX kbs D b)
noncomputable def rR (sz:List Nat) (rk:List (Str × Nat × Int)) (kbs:List Kb) (ls:List (List Ln)) (k j p:Nat):Prop:=∃ ln∈ls.getD k [],∃ i:Nat,i<sz.getD (DY kbs k) 0/\j=(sz.take (DY kbs k)).sum+i/\ln.lo<=(i:Int)/\(i:Int)<=ln.hi/\0<=(i:Int)+ln.sh/\(i:Int)+ln.sh<(J7 rk ln.r:Nat)/\(p:Int)=(Qw rk ln.r:Nat)+((i:Int)+ln.sh)
theorem Qq {c:Nat->Str} {sz:List Nat} {rk:List (Str × Nat × Int)} {kbs:List Kb} {ls:List (List Ln)} {D i r:Nat} (hls:Wg rk ls) (h:Oz c sz rk kbs ls D i r) (p:Nat) :
  r.testBit p=true ↔ ∃ (k:Nat) (z:Kb),kbs[k]? = some z/\z.w = "stop" /\ D.testBit k=true/\∃ j,qt c sz kbs D i j/\rR sz rk kbs ls k j p:=by
 refine byC fun w_=>?_;obtain ⟨cl,n,rfl,hcl,hn⟩:=h;refine w_ ?_
 rw [QH]
 have hg:∀ k,∀ ln∈ls.getD k [],Zc rk ln:=fun k ln hl=>by
  rw [ax] at hl
  cases e:ls[k]? with
  | none=>rw [e] at hl; cases hl
  | some l =>
   rw [e] at hl
   exact (hls l (ay e)).2 ln hl
 constructor
 ·rintro ⟨k,hk,hb⟩
  obtain ⟨z,hz,hw,hd⟩:=(hcl k).mp hk
  refine byC fun w_=>?_;obtain ⟨ln,hl,t,h1,h2,h3⟩:=(Mg (hg k)).mp hb;refine w_ ?_
  exact ⟨k,z,hz,hw,hd,_,(hn _).mp h2,ln,hl,t,h1,rfl,h3⟩
 ·rintro ⟨k,z,hz,hw,hd,j,hj,ln,hl,t,h1,rfl,h3⟩
  exact ⟨k,(hcl k).mpr ⟨z,hz,hw,hd⟩,(Mg (hg k)).mpr ⟨ln,hl,t,h1,(hn _).mpr hj,h3⟩⟩
theorem Ut {z:Str} (dd:Addr) (h:(z == "row_sets")=false):([("row_sets",V.ref dd)]:List (Str × V)).lookup z=none:=by
 rw [gx,h]
 rfl
noncomputable abbrev nU (C:Addr) (H:Hp) (x:Addr) (sz:List Nat) (rk:List (Nat × Int)) (gs:List Gp):Prop:=CN C H x (Bb (JD gs) sz) (Eg rk) (CJ (JD gs) (gs.map Gp.kb)) (gs.map Gp.LQ)
theorem q_ {sz:List Nat} {rk:List (Nat × Int)} {gs:List Gp} (h:QB sz rk gs):Wg (Eg rk) (gs.map Gp.LQ):=fun l hl=>by
 obtain ⟨g,hg,rfl⟩:=aI.mp hl
 have l2:(Eg rk).length=rk.length:=by unfold Eg; rw [List.length_map,List.length_zipIdx]
 have ok:=h.ok g hg
 cases g with
 | st k b ls =>
  obtain ⟨o1,o2,o3,o4⟩:=ok
  refine ⟨by show ls.length<=100; omega,fun ln hln=>?_⟩
  refine byC fun w_=>?_;obtain ⟨p1,p2,p3,p4,p5,p6⟩:=o4 ln hln;refine w_ ?_
  have zb:sz.getD b 0<=61:=by
   rw [ax,ae o2]
   exact (h.z _ (ee _)).2
  exact ⟨by omega,p4,p5,by omega,p2,p3⟩
 | cp k i j s=>exact ⟨by show 0<=100; decide,fun ln hln=>nomatch hln⟩
 | mu k b=>exact ⟨by show 0<=100; decide,fun ln hln=>nomatch hln⟩
open Bw
theorem gG {c:Nat->Str} {sz:List Nat} {a b i:Nat} {s:Int} (ha:a<sz.length) (hb:b<sz.length) :
  gl (Bb c sz) (.cp a b s) i=if ((((sz.take a).sum:Nat):Int)<=(i:Int)/\(i:Int)<(((sz.take a).sum:Nat):Int)+((sz.getD a 0:Nat):Int))/\0<=(i:Int) - (((sz.take a).sum:Nat):Int)+s/\(i:Int) - (((sz.take a).sum:Nat):Int)+s<((sz.getD b 0:Nat):Int) then some ((((sz.take b).sum:Nat):Int)+(i:Int) - (((sz.take a).sum:Nat):Int)+s).toNat else none:=by
 by_cases hi:i<sz.sum
 case neg =>
  have e0:gl (Bb c sz) (.cp a b s) i=none:=by
   cases e:gl (Bb c sz) (.cp a b s) i with
   | none=>rfl
   | some j =>
    have:=U3 e
    rw [Ed,Bm] at this
    exact absurd this hi
  rw [e0,if_neg]
  rintro ⟨⟨h1,h2⟩,_⟩
  have h3:(sz.take (a+1)).sum<=sz.sum:=by
   have:=congrArg List.sum (eI (a+1) sz)
   rw [fo] at this
   omega
  rw [dl,ae ha,fo] at h3
  rw [ax,ae ha] at h2
  have h4:([sz[a]]:List Nat).sum=sz[a]:=by simp
  have h5:(some sz[a]).toList.sum=sz[a]:=by simp
  rw [h5] at h3
  have h6:((some sz[a]).getD 0:Nat)=sz[a]:=rfl
  rw [h6] at h2
  omega
 obtain ⟨⟨q1,q2⟩,hq⟩:∃ qd,(Ez (Bb c sz))[i]? = some qd:=⟨_,ae (by rw [Ed,Bm]; exact hi)⟩
 obtain ⟨zb,hzb⟩:∃ zb,sz[b]? = some zb:=⟨_,ae hb⟩
 have eb:(Bb c sz)[b]? = some (c b,zb):=DR hzb
 have ezb:sz.getD b 0=zb:=by rw [ax,hzb]; rfl
 have es:(((Bb c sz).take b).map (·.2)).sum=(sz.take b).sum:=by rw [fT,Bm]
 obtain ⟨n,hn,hl,hin⟩:=Qh hq
 obtain ⟨b',hb',hn',hi'⟩:=Rb hq
 rw [Bm] at hi'
 have key:(q1=a/\0<=(q2:Int)+s/\(q2:Int)+s<(zb:Int)) ↔ ((((sz.take a).sum:Nat):Int)<=(i:Int)/\(i:Int)<(((sz.take a).sum:Nat):Int)+((sz.getD a 0:Nat):Int))/\0<=(i:Int) - (((sz.take a).sum:Nat):Int)+s/\(i:Int) - (((sz.take a).sum:Nat):Int)+s<((sz.getD b 0:Nat):Int):=by
  rw [ezb]
  constructor
  ·rintro ⟨rfl,h2,h3⟩
   omega
  ·rintro ⟨⟨h1,h2⟩,h3,h4⟩
   have:q1=a:=K8 ⟨n,hn,hl,hin⟩ ⟨i - (sz.take a).sum,by omega,ha,by omega⟩
   subst this
   exact ⟨rfl,by omega,by omega⟩
 rcases Ml (j1:=a) (s:=s) hq eb with ⟨e1,e2⟩ | ⟨j,e1,e2,_⟩
 ·rw [e2,if_neg]
  intro h
  unfold Le at e1
  rw [if_pos (key.mpr h)] at e1
  cases e1
 ·unfold Le at e1
  by_cases h:q1=a/\0<=(q2:Int)+s/\(q2:Int)+s<(zb:Int)
  ·rw [if_pos h] at e1
   have e3:(((((Bb c sz).take b).map (·.2)).sum:Nat):Int)+((q2:Int)+s)=(j:Int):=V.int.inj e1
   rw [es] at e3
   rw [e2,if_pos (key.mp h)]
   obtain ⟨rfl,_⟩:=h
   congr 1
   omega
  ·rw [if_neg h] at e1
   cases e1
noncomputable def bx:Sp:=fun vs H Q _=>∃ (m r0:Addr) (i:Nat) (sz:List Nat) (rk:List (Nat × Int)) (gs:List Gp) (k a b:Nat) (s:Int),vs=[.ref m,.ref r0,.int (i:Nat)]/\Em H m sz rk gs/\sz.length<=3/\a<sz.length/\b<sz.length/\H r0=some (.tup (Gp.cp k a b s).head.v)/\Q (oN (gl (Bb (JD gs) sz) (.cp a b s) i)) H
theorem Vr:Aw ["_law_model_here","_law_row_here","_law_key","_law_first","_law_keys","_law_second","_law_more"] ["_law_model_here","_law_row_here","_law_key"] (Af qK):=Bo
include N T in
theorem dI:Av P w K mg base Bg 1 aD.fLd aD.dLd ["_law_model_here","_law_row_here","_law_key"] bx:=by
 refine N.FLd.1.ok Vr (fun vs H Q E h=>?_) (fun cdv A outer s H vs Q E hr h=>?_)
 ·refine byC fun w_=>?_;obtain ⟨m,r0,i,sz,rk,gs,k,a,b,s0,rfl,_⟩:=h;refine w_ ?_
  rfl
 ·refine byC fun w_=>?_;obtain ⟨m,r0,i,sz,rk,gs,k,a,b,s0,rfl,M,l3,ha,hb,hr0,q⟩:=h;refine w_ ?_
  have hu:=Ei hr
  refine ⟨_,(@Ac _ _ _ _ _ (Ex (Bk hu (Bk hu (pv 0) BR (fun _ _=>rfl)) (@Am _ _ _ _ _ _ _ (Aq (K:=K) rfl) (pv 1) Ae (fun _ _=>rfl)) (fun _ _=>rfl)) (Du rfl (Bf (BZ (i:=3) Vr.nd rfl (Or.inl rfl)) (Bf (BZ (i:=4) Vr.nd rfl (Or.inl rfl)) DP))))
   (@Ac _ _ _ _ _ (Ex (Bk hu (Bk hu (pv 0) BR (fun _ _=>rfl)) (@Am _ _ _ _ _ _ _ (Aq (K:=K) rfl) (pv 1) Ae (fun _ _=>rfl)) (fun _ _=>rfl)) (Du rfl (Bf (BZ (i:=5) Vr.nd rfl (Or.inl rfl)) (Bf (BZ (i:=6) Vr.nd rfl (Or.inl rfl)) DP))))
   (@Ac _ _ _ _ _ (@Br _ _ _ _ _ _ _ _ (PW.pt (Jw (Fg Ff HD (pv 3) (pv 2) (BK B_ (pv 3) (pv 4))) (Hx (Fg Ff HD Ae (BK B_ (BK Dz (pv 2) (pv 3)) (@Am _ _ _ _ _ _ _ (Aq (K:=K) rfl) (pv 1) Ae (fun _ _=>rfl))) (pv 6))))) (@Ai _ _ _ (@Ay _ _ _ _ (BK B_ (BK Dz (BK B_ (pv 5) (pv 2)) (pv 3)) (@Am _ _ _ _ _ _ _ (Aq (K:=K) rfl) (pv 1) Ae (fun _ _=>rfl))))) Ba)
   (@Ai _ _ _ (@Ay _ _ _ _ HY))))),?_⟩
  refine byC fun w_=>?_;obtain ⟨db,T1,g1,g2,hT1⟩:=M.HR l3 ha;refine w_ ?_
  refine byC fun w_=>?_;obtain ⟨db',T2,g3,g4,hT2⟩:=M.HR l3 hb;refine w_ ?_
  rw [gG ha hb] at q
  generalize (sz.take a).sum=sa at q hT1
  generalize (sz.take b).sum=sb at q hT2
  generalize sz.getD a 0=za at q hT1
  generalize sz.getD b 0=zb at q hT2
  refine ⟨_,rfl,m,_,rfl,g1,_,rfl,r0,_,_,_,rfl,rfl,kR hr0,Ag (j:=2) rfl,db,_,rfl,g2,T1,_,rfl,kR hT1,rfl,_,_,rfl,_,_,rfl,rfl,?_⟩
  refine ⟨_,rfl,m,_,rfl,g3,_,rfl,r0,_,_,_,rfl,rfl,kR hr0,Ag (j:=3) rfl,db',_,rfl,g4,T2,_,rfl,kR hT2,rfl,_,_,rfl,_,_,rfl,rfl,?_⟩
  refine ⟨_,rfl,_,rfl,_,_,rfl,rfl,_,rfl,Bs (fun h1=>?_) (fun h1=>?_)⟩
  ·have h1':((sa:Nat):Int)<=(i:Int):=of_decide_eq_true h1
   refine ⟨_,rfl,_,rfl,_,_,rfl,rfl,_,_,rfl,rfl,_,rfl,Bs (fun h2=>?_) (fun h2=>?_)⟩
   ·have h2':(i:Int)<((sa:Nat):Int)+((za:Nat):Int):=of_decide_eq_true h2
    refine ⟨_,rfl,_,rfl,_,_,rfl,rfl,_,rfl,r0,_,_,_,rfl,rfl,kR hr0,Ag (j:=4) rfl,_,_,rfl,rfl,_,_,rfl,rfl,_,rfl,Bs (fun h3=>?_) (fun h3=>?_)⟩
    ·have h3':0<=(i:Int) - ((sa:Nat):Int)+s0:=of_decide_eq_true h3
     refine ⟨_,rfl,_,_,rfl,rfl,_,rfl,Bs (fun h4=>?_) (fun h4=>?_)⟩
     ·have h4':(i:Int) - ((sa:Nat):Int)+s0<((zb:Nat):Int):=of_decide_eq_true h4
      rw [if_pos ⟨⟨h1',h2'⟩,h3',h4'⟩] at q
      refine ⟨_,rfl,_,rfl,_,_,rfl,rfl,_,rfl,_,_,rfl,rfl,_,rfl,r0,_,_,_,rfl,rfl,kR hr0,Ag (j:=4) rfl,_,_,rfl,rfl,?_⟩
      have e:oN (some (((sb:Nat):Int)+(i:Int) - ((sa:Nat):Int)+s0).toNat)=V.int (((sb:Nat):Int)+(i:Int) - ((sa:Nat):Int)+s0):=by
       show V.int _=V.int _
       congr 1
       omega
      rw [e] at q
      exact q
     ·rw [if_neg (fun y=>h4 (decide_eq_true y.2.2))] at q
      exact q
    ·rw [if_neg (fun y=>h3 (decide_eq_true y.2.1))] at q
     exact ⟨_,rfl,Ci q⟩
   ·rw [if_neg (fun y=>h2 (decide_eq_true y.1.2))] at q
    exact q
  ·rw [if_neg (fun y=>h1 (decide_eq_true y.1.1))] at q
   exact ⟨_,rfl,Ci (Ci q)⟩
noncomputable def Z_ (sz:List Nat) (gs:List Gp) (D i k:Nat):Prop:=∃ g b,gs[k]? = some g/\g.kb=.pl "mute" b/\D.testBit k=true/\(((sz.take b).sum:Nat):Int)<=(i:Int)/\(i:Int)<(((sz.take b).sum:Nat):Int)+((sz.getD b 0:Nat):Int)
noncomputable def di:Sp:=fun vs H Q _=>∃ (m:Addr) (D i:Nat) (sz:List Nat) (rk:List (Nat × Int)) (gs:List Gp),vs=[.ref m,.int (D:Nat),.int (i:Nat)]/\Em H m sz rk gs/\QB sz rk gs/\∀ (r:Bool) H',Ao H H'->(r=true ↔ ∃ k,Z_ sz gs D i k)->Q (.bl r) H'
theorem Nm (n i:Nat):decide (V.int (Builtin.bitAnd ((n:Int) / 2 ^ ((i:Nat):Int).toNat) 1)=V.int 1)=n.testBit i:=by
 have:=VJ (n:=n) (i:=(i:Int))
 rw [aT] at this
 exact this
theorem cC {H:Hp} {gs:List Gp} {TL:List (Addr × Addr)} (p:Paired (Tc H) (gs.map Gp.kn) TL) {i:Nat} {a:Addr × Addr} (ha:TL[i]? = some a):∃ g,gs[i]? = some g/\Tc H g.kn a:=by
 obtain ⟨g0,hg0,h⟩:=D_ p ha
 rw [ar] at hg0
 obtain ⟨g,hg,rfl⟩:=bb.mp hg0
 exact ⟨g,hg,h⟩
theorem YM {g:Gp} (h:g.head.w = "mute"):∃ k b,g=.mu k b:=by
 cases g with
 | st k b ls=>exact absurd h (by show ¬ ("stop" : Str) = "mute"; decide +kernel)
 | cp k i j s=>exact absurd h (by show ¬ ("coupler" : Str) = "mute"; decide +kernel)
 | mu k b=>exact ⟨k,b,rfl⟩
theorem iT {g:Gp} (h:g.head.w = "stop"):∃ k b ls,g=.st k b ls:=by
 cases g with
 | st k b ls=>exact ⟨k,b,ls,rfl⟩
 | cp k i j s=>exact absurd h (by show ¬ ("coupler" : Str) = "stop"; decide +kernel)
 | mu k b=>exact absurd h (by show ¬ ("mute" : Str) = "stop"; decide +kernel)
theorem iK {g:Gp} (h:g.head.w = "coupler"):∃ k i j s,g=.cp k i j s:=by
 cases g with
 | st k b ls=>exact absurd h (by show ¬ ("stop" : Str) = "coupler"; decide +kernel)
 | cp k i j s=>exact ⟨k,i,j,s,rfl⟩
 | mu k b=>exact absurd h (by show ¬ ("mute" : Str) = "coupler"; decide +kernel)
theorem SM:Aw ["_law_model_here","_law_knobs","_law_key","_law_k","_law_row_here","_law_lines","_law_first","_law_keys"] ["_law_model_here","_law_knobs","_law_key"] (Af mq):=Bo
include N T in
theorem cX:Av P w K mg base Bg 1 aD.fMt aD.dMt ["_law_model_here","_law_knobs","_law_key"] di:=by
 refine N.FMt.1.ok SM (fun vs H Q E h=>?_) (fun cdv A outer s H vs Q E hr h=>?_)
 ·refine byC fun w_=>?_;obtain ⟨m,D,i,sz,rk,gs,rfl,_⟩:=h;refine w_ ?_
  rfl
 ·refine byC fun w_=>?_;obtain ⟨m,D,i,sz,rk,gs,rfl,M,W,q⟩:=h;refine w_ ?_
  have hu:=Ei hr
  refine ⟨_,(@Ac _ _ _ _ _ (C_ PassesOwn.never rfl (Gy rfl T.enumerate (@Ax _ _ _ _ _ rfl (Bk hu (pv 0) BR (fun _ _=>rfl)) Ab)) (Du rfl (Bf (BZ (i:=3) SM.nd rfl (Or.inl rfl)) (Bf (Du rfl (Bf (BZ (i:=4) SM.nd rfl (Or.inl rfl)) (Bf (BZ (i:=5) SM.nd rfl (Or.inl rfl)) DP))) DP))) (@Ai _ _ _ (@Br _ _ _ _ _ _ _ _ (PW.pt (Jw (BX Cp (@Am _ _ _ _ _ _ _ (Aq (K:=K) rfl) (pv 4) Ae (fun _ _=>rfl)) BR (Bc _)) (Hx (BX Cp (BK G8 (BK HJ (pv 1) (pv 3)) Ae) Ae (Bc _))))) (@Ac _ _ _ _ _ (Ex (Bk hu (Bk hu (pv 0) BR (fun _ _=>rfl)) (@Am _ _ _ _ _ _ _ (Aq (K:=K) rfl) (pv 4) Ae (fun _ _=>rfl)) (fun _ _=>rfl)) (Du rfl (Bf (BZ (i:=6) SM.nd rfl (Or.inl rfl)) (Bf (BZ (i:=7) SM.nd rfl (Or.inl rfl)) DP))))
   (@Ai _ _ _ (@Br _ _ _ _ _ _ _ _ (Fg Ff HD (pv 6) (pv 2) (BK B_ (pv 6) (pv 7))) (@Ai _ _ _ (@Ay _ _ _ _ GF)) Ba))) Ba)))
   (@Ai _ _ _ (@Ay _ _ _ _ GF))),?_⟩
  refine byC fun w_=>?_;obtain ⟨kn,TL,gk,hk,lTL,pTL⟩:=M.Rg;refine w_ ?_
  have hS:Cz K H kn (TL.map fun a:Addr × Addr=>V.ref a.1):=.inl (.inl hk)
  have pl:(TL.map fun a:Addr × Addr=>V.ref a.1).length=gs.length:=by rw [ai]; exact lTL
  have hgl:=W.len
  refine ⟨_,rfl,m,_,rfl,gk,kn,rfl,⟨_,hS⟩,Gq (K:=K) (a:=kn) (xs:=TL.map fun a:Addr × Addr=>V.ref a.1) (fun t σ H4=>Ao H H4/\(∀ k,k<t->¬ Z_ sz gs D i k)/\∃ v3 v4 v5 v6 v7,σ=[some (.ref m),some (.int (D:Nat)),some (.int (i:Nat)),v3,v4,v5,v6,v7]) ⟨Ao.refl _,fun k hk=>absurd hk (ge _),_,_,_,_,_,rfl⟩ (fun i σ H4 _ h=>h.1.seq hS) ?_ ?_⟩
  ·rintro t x σ H4 T0 hx ⟨s4,hno,v3,v4,v5,v6,v7,rfl⟩ hT
   rw [ar] at hx
   obtain ⟨a,ha,rfl⟩:=bb.mp hx
   obtain ⟨g,hg,hkn⟩:=cC pTL ha
   have s5:=A_ (o:=HO.tup [V.int ((t:Nat):Int),V.ref a.1]) hT
   refine byC fun w_=>?_;obtain ⟨rv,lvs,k1,k2,k3,k4⟩:=hkn.mono (s4.trans s5);refine w_ ?_
   obtain ⟨r0,rfl,hr0⟩:=k2
   refine ⟨T0,_,rfl,kR Ah,rfl,_,_,rfl,_,_,rfl,a.1,_,rfl,kR k1,rfl,_,_,rfl,_,_,rfl,rfl,rfl,?_⟩
   generalize upd H4 T0 (HO.tup [V.int ((t:Nat):Int),V.ref a.1])=H5 at s5 k1 k3 k4 hr0 ⊢
   have ht:t<gs.length:=(ah.mp hg).1
   have next:∀ {H6:Hp},¬ Z_ sz gs D i t->∀ k,k<t+1->¬ Z_ sz gs D i k:=fun {H6} hn k hk=>by
    rcases kQ k t with z | z
    ·exact hno k z
    ·have:k=t:=by omega
     subst this
     exact hn
   refine ⟨_,rfl,r0,_,_,_,rfl,rfl,kR hr0,Ag (j:=0) rfl,rfl,_,rfl,Bs (fun hw=>?_) (fun hw=>?_)⟩
   ·obtain ⟨kk,b,rfl⟩:=YM (V.str.inj (of_decide_eq_true hw))
    have hb:=(W.ok _ (ay hg)).2
    refine ⟨_,rfl,_,rfl,_,_,rfl,rfl,by omega,_,_,rfl,rfl,rfl,_,rfl,?_⟩
    dsimp only
    rw [Nm]
    refine Bs (fun hd=>?_) (fun hd=>?_)
    ·refine byC fun w_=>?_;obtain ⟨db,T1,g1,g2,hT1⟩:=(M.mono (s4.trans s5)).HR W.l3 hb;refine w_ ?_
     refine ⟨_,rfl,m,_,rfl,g1,_,rfl,r0,_,_,_,rfl,rfl,kR hr0,Ag (j:=2) rfl,db,_,rfl,g2,T1,_,rfl,kR hT1,rfl,_,_,rfl,_,_,rfl,rfl,?_⟩
     refine ⟨_,rfl,_,rfl,_,_,rfl,rfl,_,rfl,Bs (fun h1=>?_) (fun h1=>?_)⟩
     ·refine ⟨_,rfl,_,rfl,_,_,rfl,rfl,_,_,rfl,rfl,_,rfl,Bs (fun h2=>?_) (fun h2=>?_)⟩
      ·exact q true H5 (s4.trans s5) ⟨fun _=>⟨t,_,b,hg,rfl,hd,of_decide_eq_true h1,of_decide_eq_true h2⟩,fun _=>rfl⟩
      ·refine ⟨s4.trans s5,next (H6:=H5) ?_,_,_,_,_,_,rfl⟩
       rintro ⟨g',b',hg',e,_,_,z⟩
       rw [hg] at hg'
       cases hg'
       cases e
       exact h2 (decide_eq_true z)
     ·refine ⟨_,rfl,Ci ⟨s4.trans s5,next (H6:=H5) ?_,_,_,_,_,_,rfl⟩⟩
      rintro ⟨g',b',hg',e,_,z,_⟩
      rw [hg] at hg'
      cases hg'
      cases e
      exact h1 (decide_eq_true z)
    ·refine ⟨s4.trans s5,next (H6:=H5) ?_,_,_,_,_,_,rfl⟩
     rintro ⟨g',b',hg',e,z,_⟩
     exact hd z
   ·refine Ci ⟨s4.trans s5,next (H6:=H5) ?_,_,_,_,_,_,rfl⟩
    rintro ⟨g',b',hg',e,_⟩
    rw [hg] at hg'
    cases hg'
    refine hw (decide_eq_true (congrArg V.str ?_))
    have e2:g.kb.w = "mute":=by rw [e]; rfl
    rw [QW] at e2
    exact e2
  ·rintro σ H4 ⟨s4,hno,v3,v4,v5,v6,v7,rfl⟩
   refine q false H4 s4 ⟨fun z=>(by cases z),?_⟩
   rintro ⟨k,h⟩
   rw [pl] at hno
   obtain ⟨g,b,hg,_⟩:=id h
   exact absurd h (hno k (ah.mp hg).1)
theorem Rq {sz:List Nat} {rk:List (Nat × Int)} {gs:List Gp} {D i:Nat} (W:QB sz rk gs):(∃ k,Z_ sz gs D i k) ↔ ∃ b,V4 sz i b/\JX (gs.map Gp.kb) D b:=by
 constructor
 ·rintro ⟨k,g,b,hg,e,hd,h1,h2⟩
  have hz:(gs.map Gp.kb)[k]? = some (.pl "mute" b):=by rw [ar,hg,← e]; rfl
  have hb:b<sz.length:=by
   have:=(Q6 W).ok _ (ay hz)
   exact this.1
  exact ⟨b,⟨i - (sz.take b).sum,by omega,hb,by omega⟩,k,_,hz,rfl,hd,by unfold DY; rw [hz]⟩
 ·rintro ⟨b,⟨n,hn,hb,hi⟩,k,z,hz,hw,hd,e⟩
  rw [ar] at hz
  obtain ⟨g,hg,rfl⟩:=bb.mp hz
  have hw':g.head.w = "mute":=by rw [← QW]; exact hw
  obtain ⟨kk,b',rfl⟩:=YM hw'
  have e':b'=b:=by
   rw [← e]
   unfold DY
   rw [ar,hg]
   rfl
  subst e'
  exact ⟨k,_,b',hg,rfl,hd,by omega,by omega⟩
noncomputable def ak (st:Nat->Nat->Nat->Prop):Nat->List (Nat × Nat)->Prop
 | _,[]=>True
 | i,p::r=>st i p.1 p.2/\ak st p.2 r
noncomputable def jR (bs:List (Str × Nat)) (kbs:List Kb) (D i k j:Nat):Prop:=D.testBit k=true/\∃ z,kbs[k]? = some z/\gl bs z i=some j
structure nH (bs:List (Str × Nat)) (kbs:List Kb) (D n T key f:Nat) (pre:List (Nat × Nat)) (k:Nat):Prop where
 held:n.testBit f=true
 chn:ak (jR bs kbs D) f (pre++[(k,key)])
 nd:(pre.map (·.2)++[key]).Nodup
 new:∀ p∈pre,n.testBit p.2=false
 lt:∀ p∈pre,p.2<T
theorem Qa {α β:Type} {F:α->β->Prop} {l:List α} {vs:List β} (h:Paired F l vs):Paired F l.reverse vs.reverse:=by
 induction h with
 | nil=>exact .nil
 | cons a b ih =>
  rw [hV,hV]
  exact CT ih (.cons a .nil)
noncomputable abbrev pV (p:Nat × Nat):List V:=[V.int (p.1:Nat),V.int (p.2:Nat)]
noncomputable def jE:Sp:=fun vs H Q _=>∃ (W:Addr) (n key T:Nat) (bs:List (Str × Nat)) (kbs:List Kb) (D:Nat) (kvs:List (Key × V)) (js:List Nat),vs=[.ref W,.int (n:Nat),.int (key:Nat)]/\H W=some (.dK kvs)/\js.Nodup/\N5 H bs kbs D n kvs js/\key∈js/\(∀ j∈js,j<T)/\T<=400 /\
 ∀ y H' (f:Nat) (pre:List (Nat × Nat)) (k:Nat) (L:Addr) (ys:List V),H L=none->Ao H H'->TupAt H' [.int (f:Nat),.ref L] y->H' L=some (.lst ys)->Paired (fun (p:Nat × Nat) v=>TupAt H' (pV p) v) (pre++[(k,key)]) ys->nH bs kbs D n T key f pre k->Q y H'
theorem We:Aw ["ways","held","key","steps","first"] ["ways","held","key"] (Af oV):=Bo
include N T in
theorem iV:Av P w K mg base Bg 2 aD.fTb aD.dTb ["ways","held","key"] jE:=by
 refine N.FTb.1.ok We (fun vs H Q E h=>?_) (fun cdv A outer s H vs Q E hr h=>?_)
 ·refine byC fun w_=>?_;obtain ⟨W,n,key,TM,bs,kbs,D,kvs,js,rfl,_⟩:=h;refine w_ ?_
  rfl
 ·refine byC fun w_=>?_;obtain ⟨W,n,key,TM,bs,kbs,D,kvs,js,rfl,hW,ndj,hpar,hkey,hlt,hT4,q⟩:=h;refine w_ ?_
  have hu:=Ei hr
  refine ⟨_,(Ac (Bh (i:=3) We.nd rfl (Or.inl rfl) (DW (Aa (Ck (Aa (Am (Aq (K:=K) rfl) (Bk hu (pv 0) (pv 2) (fun _ _=>rfl)) Ae (fun _ _=>rfl)) (Aa (pv 2) Ab))) Ab)))
   (Ac (Bh (i:=4) We.nd rfl (Or.inl rfl) (Am (Aq (K:=K) rfl) (Bk hu (pv 0) (pv 2) (fun _ _=>rfl)) Ae (fun _ _=>rfl)))
   (Ac (Kf PassesOwn.never (DQ (Di (Aj (J3 N T) (ad hr) rfl N.FHa.2.2 N.FHa.1.kp N.FHa.2.1 .nil An (Aa (pv 1) (Aa (pv 4) Ab))))) (Ac (Eh (HF de dL dQ DG (pv 3) (Aa (Ck (Aa (Am (Aq (K:=K) rfl) (Bk hu (pv 0) (pv 4) (fun _ _=>rfl)) Ae (fun _ _=>rfl)) (Aa (pv 4) Ab))) Ab)))
   (Ai (Bh (i:=4) We.nd rfl (Or.inl rfl) (Am (Aq (K:=K) rfl) (Bk hu (pv 0) (pv 4) (fun _ _=>rfl)) Ae (fun _ _=>rfl))))))
   (Ai (Ay (Ck (Aa (pv 4) (Aa (Pa rfl rfl T.list rfl T.reversed (pv 3)) Ab)))))))),?_⟩
  obtain ⟨m0,hm0⟩:=jp.mp hkey
  refine byC fun w_=>?_;obtain ⟨k0,i0,T0,z0,hv0,hT0,hk0,hz0,hg0,hi0⟩:=hpar m0 key hm0;refine w_ ?_
  have dgt:∀ {H':Hp} {j:Nat} {v:V},Ao H H'->Cd kvs (kI j)=some v->Ey H' W (.int (j:Nat)) (some v):=fun {H' j v} s' e=>by
   have h:=Ey.k (k:=kI j) (s' _ _ hW)
   rw [e] at h
   exact h
  refine ⟨_,rfl,_,rfl,W,_,rfl,dgt (Ao.refl H) hv0,T0,_,_,_,rfl,rfl,kR hT0,Ag (j:=0) rfl,_,rfl,by show 2<=sizeLine; decide,fun P1 hP1=>⟨by show 1<=sizeLine; decide,fun S hS=>?_⟩⟩
  have t1:=A_ (o:=HO.tup [V.int (k0:Nat),V.int (key:Nat)]) hP1
  have uP1:upd H P1 (HO.tup [V.int (k0:Nat),V.int (key:Nat)]) P1=some (.tup (pV (k0,key))):=Ah
  have hS0:H S=none:=t1.free hS
  generalize upd H P1 (HO.tup [V.int (k0:Nat),V.int (key:Nat)])=H1 at t1 uP1 hS ⊢
  obtain ⟨H2,eqH,t2,uS⟩:=Ft (o:=HO.lst [V.ref P1]) hS
  rw [eqH]
  have s02:=t1.trans t2
  refine ⟨_,rfl,_,rfl,W,_,rfl,dgt s02 hv0,T0,_,_,_,rfl,rfl,kR (s02 _ _ hT0),Ag (j:=1) rfl,?_⟩
  show Dy 4 _ _ _ _
  rw [Ol]
  refine K3 ?_
  refine KQ (fun σ H4=>Ao H H4/\∃ (i M:Nat) (rest:List (Nat × Nat)) (ys:List V),H4 S=some (.lst ys)/\Paired (fun (p:Nat × Nat) v=>TupAt H4 (pV p) v) ((k0,key)::rest) ys/\ak (jR bs kbs D) i ((k0,key)::rest).reverse/\(key::rest.map (·.2)).Nodup/\(∀ x∈key::rest.map (·.2),x∈js.drop M)/\(n.testBit i=true \/ i∈js.take M)/\(∀ p∈rest,n.testBit p.2=false)/\σ=[some (.ref W),some (.int (n:Nat)),some (.int (key:Nat)),some (.ref S),some (.int (i:Nat))])
   (fun _ H4=>TM - Rv (H4 S)) ⟨s02,i0,m0,[],[V.ref P1],uS,.cons ⟨P1,rfl,t2 _ _ uP1⟩ .nil,⟨⟨hk0,z0,hz0,hg0⟩,trivial⟩,(by simp),(fun x hx=>?_),hi0,(fun p hp=>nomatch hp),rfl⟩ ?_ ?_
  ·have:x=key:=by simpa using hx
   subst this
   have hml:=(ah.mp hm0).1
   have:js.drop m0=js[m0]::js.drop (m0+1):=ic hml
   rw [this]
   have e:=(ah.mp hm0).2
   rw [e]
   exact cS ..
  ·rintro σ H4 ⟨s4,i,M,rest,ys,hS4,hp4,hch,nd4,hdr,hi,hnew,rfl⟩
   have hyl:=hp4.length
   have hall:∀ x∈key::rest.map (·.2),x<TM:=fun x hx=>hlt x (List.mem_of_mem_drop (hdr x hx))
   have hrl:=Ec TM nd4 hall
   rw [bv,ai] at hrl
   rw [bv] at hyl
   refine ⟨_,rfl,_,rfl,n,_,rfl,_,rfl,?_⟩
   have eb:(decide ((0:Int)<=(i:Nat)) && n.testBit ((i:Nat):Int).toNat)=n.testBit i:=by rw [decide_eq_true (by omega),fF,aT]
   rw [eb]
   cases hb:n.testBit i with
   | true =>
    refine Ci ?_
    refine ⟨_,rfl,_,rfl,S,ys,rfl,kR hS4,fun L hL=>⟨by show 2<=sizeLine; decide,fun P hP=>?_⟩⟩
    have t5:=A_ (o:=HO.lst ys.reverse) hL
    have uL:upd H4 L (HO.lst ys.reverse) L=some (.lst ys.reverse):=Ah
    generalize upd H4 L (HO.lst ys.reverse)=H5 at t5 uL hP ⊢
    have t6:=A_ (o:=HO.tup [V.int (i:Nat),V.ref L]) hP
    refine q _ _ i rest.reverse k0 L ys.reverse (s4.free hL) (s4.trans (t5.trans t6)) ⟨P,rfl,Ah⟩ (t6 _ _ uL) ?_ ⟨hb,?_,?_,(fun p hp=>hnew p (List.mem_reverse.mp hp)),(fun p hp=>hall _ (df _ (cr (List.mem_reverse.mp hp))))⟩
    ·rw [← hV]
     exact Al t6 (Al t5 (Qa hp4))
    ·rw [← hV]
     exact hch
    ·have h:(key::rest.map (·.2)).reverse.Nodup:=List.pairwise_reverse.mpr (List.Pairwise.imp (fun h=>h.symm) nd4)
     rw [hV,← List.map_reverse] at h
     exact h
   | false =>
    refine Ef ?_
    have hi':i∈js.take M:=hi.resolve_left (by rw [hb]; decide)
    obtain ⟨m',hm'⟩:=jp.mp hi'
    have hmM:m'<M:=by
     have:=(ah.mp hm').1
     rw [dS] at this
     omega
    rw [List.getElem?_take_of_lt hmM] at hm'
    refine byC fun w_=>?_;obtain ⟨k,i2,T2,z,hv,hT2,hk,hz,hg,hi2⟩:=hpar m' i hm';refine w_ ?_
    refine ⟨_,rfl,.inl ⟨rfl,_,kR hS4⟩,_,rfl,_,rfl,W,_,rfl,dgt s4 hv,T2,_,_,_,rfl,rfl,kR (s4 _ _ hT2),Ag (j:=0) rfl,_,rfl,by show 2<=sizeLine; decide,fun P hP=>?_⟩
    have t5:=A_ (o:=HO.tup [V.int (k:Nat),V.int (i:Nat)]) hP
    have uP:upd H4 P (HO.tup [V.int (k:Nat),V.int (i:Nat)]) P=some (.tup (pV (k,i))):=Ah
    generalize upd H4 P (HO.tup [V.int (k:Nat),V.int (i:Nat)])=H5 at t5 uP ⊢
    have hS5:=t5 _ _ hS4
    refine ⟨S,_,_,rfl,rfl,hS5,Qv (by omega),?_⟩
    have uS6:upd H5 S (.lst (ys++[V.ref P])) S=some (.lst (ys++[V.ref P])):=Ah
    have s6:Ao H (upd H5 S (.lst (ys++[V.ref P]))):=fun b o e=>by rw [Ar (Ak e hS0)]; exact t5 _ _ (s4 _ _ e)
    have hp6:Paired (fun (p:Nat × Nat) v=>TupAt (upd H5 S (.lst (ys++[V.ref P]))) (pV p) v) ((k0,key)::(rest++[(k,i)])) (ys++[V.ref P]):=by
     have h1:=(Bx (ws:=ys++[V.ref P]) (Al t5 hp4) hS5).snoc (TupAt.upd (ws:=ys++[V.ref P]) ⟨P,rfl,uP⟩ hS5)
     rwa [gi] at h1
    generalize upd H5 S (.lst (ys++[V.ref P]))=H6 at uS6 s6 hp6 ⊢
    refine ⟨_,rfl,_,rfl,W,_,rfl,dgt s6 hv,T2,_,_,_,rfl,rfl,kR (s6 _ _ hT2),Ag (j:=1) rfl,⟨s6,i2,m',rest++[(k,i)],ys++[V.ref P],uS6,hp6,?_,?_,?_,hi2,?_,rfl⟩,?_⟩
    ·rw [← gi,List.reverse_append]
     exact ⟨⟨hk,z,hz,hg⟩,hch⟩
    ·rw [br,← gi]
     refine List.nodup_append.mpr ⟨nd4,by simp,fun a ha b hb'=>?_⟩
     have eb':b=i:=by simpa using hb'
     subst eb'
     intro e
     subst e
     have hd:=hdr _ ha
     have hnd:=ndj
     rw [← eI M js] at hnd
     exact (gd.mp hnd).2.2 _ hi' _ hd rfl
    ·intro x hx
     rw [br,← gi] at hx
     rcases ba.mp hx with h | h
     ·have h2:=hdr x h
      have e:js.drop M=(js.drop m').drop (M - m'):=by rw [List.drop_drop]; congr 1; omega
      rw [e] at h2
      exact List.mem_of_mem_drop h2
     ·have:x=i:=by simpa using h
      subst this
      have hml:=(ah.mp hm').1
      have e2:js.drop m'=js[m']::js.drop (m'+1):=ic hml
      rw [e2]
      have e3:=(ah.mp hm').2
      rw [e3]
      exact cS ..
    ·intro p hp
     rcases ba.mp hp with h | h
     ·exact hnew p h
     ·have:p=(k,i):=by simpa using h
      rw [this]
      exact hb
    ·have hxi:i<TM:=hlt i (ay hm')
     have hni:(key::rest.map (·.2)++[i]).Nodup:=by
      refine List.nodup_append.mpr ⟨nd4,by simp,fun a ha b hb'=>?_⟩
      have eb':b=i:=by simpa using hb'
      subst eb'
      intro e
      subst e
      have hd:=hdr _ ha
      have hnd:=ndj
      rw [← eI M js] at hnd
      exact (gd.mp hnd).2.2 _ hi' _ hd rfl
     have hrl2:=Ec TM hni fun x hx=>by
      rcases ba.mp hx with h | h
      ·exact hall x h
      ·have:x=i:=by simpa using h
       rw [this]
       exact hxi
     rw [av,bv,ai,bq] at hrl2
     show TM - Rv (H6 S)<TM - Rv (H4 S)
     rw [uS6,hS4]
     show TM - (ys++[V.ref P]).length<TM - ys.length
     rw [av,bq]
     omega
  ·rintro σ H' Q1 Q2 hm ⟨v1,h1,v2,h2,n',i',e,k,hk,h⟩
   exact ⟨v1,h1,v2,h2,n',i',e,k,hk,hm _ _ h⟩
structure jN (bs:List (Str × Nat)) (kbs:List Kb) (D n key f:Nat) (st:List (Nat × Nat)) (least:Nat):Prop where
 held:n.testBit f=true
 chn:ak (jR bs kbs D) f st
 last:(f::st.map (·.2)).getLast? = some key
 nd:(f::st.map (·.2)).dropLast.Nodup
 new:key ∉ (st.map (·.2)).dropLast
 few:least<=st.length
 len:st.length<=400
theorem nH.Uc {bs:List (Str × Nat)} {kbs:List Kb} {D n T key f:Nat} {pre:List (Nat × Nat)} {k least:Nat} (h:nH bs kbs D n T key f pre k) (hT:T<=305) (hl:least<=1):jN bs kbs D n key f (pre++[(k,key)]) least:=by
 have e:(pre++[(k,key)]).map (·.2)=pre.map (·.2)++[key]:=by rw [br]; rfl
 have ndA:=(gd.mp h.nd).1
 have hfA:f ∉ pre.map (·.2):=fun hm=>by
  obtain ⟨p,hp,e⟩:=aI.mp hm
  have:=h.new p hp
  rw [e,h.held] at this
  cases this
 have hpl:=Ec T ndA fun x hx=>by
  obtain ⟨p,hp,rfl⟩:=aI.mp hx
  exact h.lt p hp
 rw [ai] at hpl
 refine ⟨h.held,h.chn,?_,?_,?_,?_,?_⟩
 ·rw [e,← gi,List.getLast?_append]
  rfl
 ·rw [e,← gi,jS]
  exact gS.mpr ⟨hfA,ndA⟩
 ·rw [e,jS]
  exact fun hm=>(List.nodup_append.mp h.nd).2.2 key hm key (by simp) rfl
 ·rw [av,bq]
  omega
 ·rw [av,bq]
  omega
noncomputable def iw (C:Addr):Sp:=fun vs H Q _=>∃ (x:Addr) (c:Nat->Str) (sz:List Nat) (kbs:List Kb) (D n key least:Nat),vs=[.ref x,.int (D:Nat),.int (n:Nat),.int (key:Nat),.int (least:Nat)]/\Dd C H x (Bb c sz) (CJ c kbs)/\Nz sz.length kbs/\n<2 ^ 1200/\(∀ i,n.testBit i=true->i<sz.sum)/\least<=1 /\
 (∀ y H' (f:Nat) (st:List (Nat × Nat)) (L:Addr) (ys:List V),H L=none->Ao H H'->TupAt H' [.int (f:Nat),.ref L] y->H' L=some (.lst ys)->Paired (fun (p:Nat × Nat) v=>TupAt H' (pV p) v) st ys->jN (Bb c sz) kbs D n key f st least->((least=0/\n.testBit key=true) \/ JB (stp (Bb c sz) kbs D) (fun i=>n.testBit i=true) key)->Q y H') /\
 ∀ H',Ao H H'->¬ (least=0/\n.testBit key=true)->¬ JB (stp (Bb c sz) kbs D) (fun i=>n.testBit i=true) key->Q .non H'
theorem Yn:Aw ["organ","knobs","held","key","least","keys","ways"] ["organ","knobs","held","key","least"] (Af XF):=Bo
include N T in
theorem dO:Av P w K mg base Bg 6 aD.fTt aD.dTt ["organ","knobs","held","key","least"] (iw C):=by
 refine N.FTt.1.ok Yn (fun vs H Q E h=>?_) (fun cdv A outer s H vs Q E hr h=>?_)
 ·refine byC fun w_=>?_;obtain ⟨x,c,sz,kbs,D,n,key,least,rfl,_⟩:=h;refine w_ ?_
  rfl
 ·refine byC fun w_=>?_;obtain ⟨x,c,sz,kbs,D,n,key,least,rfl,O,hkb,hn,hnt,hle,q,q0⟩:=h;refine w_ ?_
  have hu:=Ei hr
  refine ⟨_,(Ac (Bh (i:=5) Yn.nd rfl (Or.inl rfl) (Aj (Vc N T) (ad hr) rfl N.FHk.2.2 N.FHk.1.kp N.FHk.2.1 .nil An (Aa (pv 0) (Aa (pv 2) Ab))))
   (Ac (Br (PW.pt (Jw (BX Cp (pv 4) Ae (Bc _)) (Hx (Di (Aj (J3 N T) (ad hr) rfl N.FHa.2.2 N.FHa.1.kp N.FHa.2.1 .nil An (Aa (pv 5) (Aa (pv 3) Ab))))))) (Ai (Ay (Ck (Aa (pv 3) (Aa (DW Ab) Ab))))) Ba)
   (Ac (Bh (i:=6) Yn.nd rfl (Or.inl rfl) (Aj (Xp N T) (ad hr) rfl N.FWa.2.2 N.FWa.1.kp N.FWa.2.1 .nil An (Aa (pv 0) (Aa (pv 1) (Aa (pv 5) Ab)))))
   (Ai (Ay (Ko (QX (Y6 hu (pv 3) (pv 6))) (Aj (iV N T) (ad hr) rfl N.FTb.2.2 N.FTb.1.kp N.FTb.2.1 .nil An (Aa (pv 6) (Aa (pv 5) (Aa (pv 3) Ab)))) HY)))))),?_⟩
  have hsum:((Bb c sz).map (·.2)).sum=sz.sum:=by rw [Bm]
  have h305:=Ep O
  rw [hsum] at h305
  refine ⟨_,rfl,_,rfl,x,Bb c sz,CJ c kbs,n,rfl,O,hn,?_⟩
  rw [hsum,Nq hnt]
  refine ⟨_,rfl,rfl,_,rfl,?_⟩
  have eb:(decide ((0:Int)<=(key:Nat)) && n.testBit ((key:Nat):Int).toNat)=n.testBit key:=by rw [decide_eq_true (by omega),fF,aT]
  by_cases hz:least=0
  ·subst hz
   refine Ef ?_
   refine ⟨_,rfl,_,rfl,n,_,rfl,_,rfl,?_⟩
   rw [eb]
   cases hb:n.testBit key with
   | true =>
    refine Ef ?_
    refine ⟨_,rfl,Fl (by simp),fun L hL=>⟨by show 2<=sizeLine; decide,fun P1 hP1=>?_⟩⟩
    have t1:=A_ (o:=HO.lst []) hL
    have u1:upd H L (HO.lst []) L=some (.lst []):=Ah
    generalize upd H L (HO.lst [])=H1 at t1 u1 hP1 ⊢
    exact q _ _ key [] L [] hL (t1.trans (A_ hP1)) ⟨P1,rfl,Ah⟩ ((A_ hP1) _ _ u1) .nil ⟨hb,trivial,rfl,List.nodup_nil,by simp,Nat.zero_le _,Nat.zero_le _⟩ (.inl ⟨rfl,hb⟩)
   | false =>
    refine Ci ?_
    have hnz:¬ ((0:Nat)=0/\n.testBit key=true):=fun z=>by rw [hb] at z; cases z.2
    refine ⟨_,rfl,_,rfl,_,rfl,x,c,sz,kbs,D,n,rfl,O,hkb,hn,hnt,fun W kvs js H1 hW s1 hw hkv nd hpar hj=>?_⟩
    have hlt:∀ j∈js,j<sz.sum:=fun j h=>by
     have:=((hj j).mp h).lt
     rw [hsum] at this
     exact this
    refine ⟨_,rfl,_,rfl,W,_,rfl,Ey.k (k:=kI key) hw,_,rfl,?_⟩
    rw [Mf hkv key]
    by_cases hkin:key∈js
    ·rw [decide_eq_true hkin]
     refine Ef ?_
     exact ⟨_,rfl,_,rfl,_,rfl,W,n,key,sz.sum,Bb c sz,kbs,D,kvs,js,rfl,hw,nd,hpar,hkin,hlt,by omega,fun y H' f pre k L ys hL0 s' hy hL hp ht=>q y H' f _ L ys (s1.free hL0) (s1.trans s') hy hL hp (ht.Uc h305 hle) (.inr ((hj key).mp hkin))⟩
    ·rw [decide_eq_false hkin]
     exact Ci (q0 H1 s1 hnz fun r=>hkin ((hj key).mpr r))
  ·have ez:decide (V.int (least:Nat)=V.int 0)=false:=decide_eq_false fun z=>hz (by have:=V.int.inj z; omega)
   rw [ez]
   refine Ci (Ci ?_)
   have hnz:¬ (least=0/\n.testBit key=true):=fun z=>hz z.1
   refine ⟨_,rfl,_,rfl,_,rfl,x,c,sz,kbs,D,n,rfl,O,hkb,hn,hnt,fun W kvs js H1 hW s1 hw hkv nd hpar hj=>?_⟩
   have hlt:∀ j∈js,j<sz.sum:=fun j h=>by
    have:=((hj j).mp h).lt
    rw [hsum] at this
    exact this
   refine ⟨_,rfl,_,rfl,W,_,rfl,Ey.k (k:=kI key) hw,_,rfl,?_⟩
   rw [Mf hkv key]
   by_cases hkin:key∈js
   ·rw [decide_eq_true hkin]
    refine Ef ?_
    exact ⟨_,rfl,_,rfl,_,rfl,W,n,key,sz.sum,Bb c sz,kbs,D,kvs,js,rfl,hw,nd,hpar,hkin,hlt,by omega,fun y H' f pre k L ys hL0 s' hy hL hp ht=>q y H' f _ L ys (s1.free hL0) (s1.trans s') hy hL hp (ht.Uc h305 hle) (.inr ((hj key).mp hkin))⟩
   ·rw [decide_eq_false hkin]
    exact Ci (q0 H1 s1 hnz fun r=>hkin ((hj key).mpr r))
theorem WL (l:List Nat):(nV l).all Ij=true:=fN.mpr fun v hv=>by
 obtain ⟨n,_,rfl⟩:=aI.mp hv
 rfl
theorem Te (a b:List (Str × Nat)):∃ t,Ez (a++b)=Ez a++t:=by
 unfold Ez
 rw [ip,List.flatMap_append]
 exact ⟨_,rfl⟩
theorem XH {bs:List (Str × Nat)} {i n:Nat} {b:Str × Nat} (h:bs[i]? = some b) (hn:n<b.2):(Ez bs)[((bs.take i).map (·.2)).sum+n]? = some (i,n):=by
 obtain ⟨t,e⟩:=Te (bs.take (i+1)) (bs.drop (i+1))
 rw [eI] at e
 have hl:=Ed (bs.take i)
 rw [e,Ho h,cm,cv (by omega),← hl,iq,eJ (by rw [ai,fA]; exact hn),ar,ku hn]
 rfl
noncomputable def eX (C:Addr):Sp:=fun vs H Q _=>∃ (x:Addr) (bs:List (Str × Nat)) (rk:List (Str × Nat × Int)) (ks:List R) (ls:List (List Ln)) (i:Nat) (qd:Nat × Nat),vs=[.ref x,.int (i:Nat)]/\CN C H x bs rk ks ls/\(Ez (rk.map SN))[i]? = some qd/\∀ y,TupAt H (qV qd) y->Q y H
theorem lG:Aw ["self","pipe"] ["self","pipe"] (Af oZ):=Bo
include N T in
theorem cF:Av P w K mg base Bg 1 aD.fOx aD.dOx ["self","pipe"] (eX C):=by
 refine N.FOx.1.ok lG (fun vs H Q E h=>?_) (fun cdv A outer s H vs Q E hr h=>?_)
 ·refine byC fun w_=>?_;obtain ⟨x,bs,rk,ks,ls,i,qd,rfl,_⟩:=h;refine w_ ?_
  rfl
 ·refine byC fun w_=>?_;obtain ⟨x,bs,rk,ks,ls,i,qd,rfl,O,hq,q⟩:=h;refine w_ ?_
  refine ⟨_,(Ai (Ay (Am Bj (Cu (pv 0) rfl) (pv 1) (fun _ _=>rfl)))),?_⟩
  refine byC fun w_=>?_;obtain ⟨⟨dx,fs,bl,bn,kp,kr,bvs,pvs,uvs,kvs,h1,l1,l2,l3,l4,lm,h2,h3,h4,h5,h6,h7,h8,h9⟩,ob5,osz,onk⟩:=id O.o;refine w_ ?_
  refine byC fun w_=>?_;obtain ⟨dx',fs',rl,rn,pp,kl,rvs,qvs,kvs',g1,m1,m2,m3,m4,g2,g3,g4,g5,g6,g7,lv,g8,g9⟩:=id O.r;refine w_ ?_
  obtain ⟨e1,e2⟩:dx'=dx/\fs'=fs:=by rw [h1] at g1; cases g1; exact ⟨rfl,rfl⟩
  subst e1 e2
  obtain ⟨y,hy,ht⟩:=CQ g7 hq
  exact ⟨_,rfl,x,C,_,_,_,rfl,h1,T.cl,T.n_pipe_places,m3,_,rfl,pp,qvs,_,_,rfl,rfl,kR g6,Ag hy,q y ht⟩
noncomputable def Mj (sz:List Nat) (rk:List (Str × Nat × Int)) (kbs:List Kb) (ls:List (List Ln)) (D n p:Nat) (q:Nat × Nat):Prop:=∃ (z:Kb) (l:Ln),kbs[q.1]? = some z/\z.w = "stop" /\ D.testBit q.1=true/\(ls.getD q.1 [])[q.2]? = some l/\(Jy rk l (PQ sz (DY kbs q.1) n)).testBit p=true
noncomputable def iQ (C:Addr):Sp:=fun vs H Q _=>∃ (x:Addr) (c:Nat->Str) (sz:List Nat) (rk:List (Str × Nat × Int)) (kbs:List Kb) (ls:List (List Ln)) (D n p:Nat),vs=[.ref x,.int (D:Nat),.int (n:Nat),.int (p:Nat)]/\CN C H x (Bb c sz) rk (CJ c kbs) ls/\Nz sz.length kbs/\Wg rk ls/\n<2 ^ 1200 /\
 ∀ F (ps:List (Nat × Nat)) (ys:List V) H',H F=none->Ao H H'->H' F=some (.lst ys)->Paired (fun (p:Nat × Nat) v=>TupAt H' (pV p) v) ps ys->(∀ q,q∈ps ↔ Mj sz rk kbs ls D n p q)->Q (.ref F) H'
theorem Pq:Aw ["organ","knobs","keys","pipe","found","knob","stop","numbers","number","line"] ["organ","knobs","keys","pipe"] (Af lK):=Bo
include N T in
theorem cY:Av P w K mg base Bg 4 aD.fLt aD.dLt ["organ","knobs","keys","pipe"] (iQ C):=by
 refine N.FLt.1.ok Pq (fun vs H Q E h=>?_) (fun cdv A outer s H vs Q E hr h=>?_)
 ·refine byC fun w_=>?_;obtain ⟨x,c,sz,rk,kbs,ls,D,n,p,rfl,_⟩:=h;refine w_ ?_
  rfl
 ·refine byC fun w_=>?_;obtain ⟨x,c,sz,rk,kbs,ls,D,n,p,rfl,O,hkb,hls,hn,q⟩:=h;refine w_ ?_
  have hu:=Ei hr
  refine ⟨_,(Ac (Bh (i:=4) Pq.nd rfl (Or.inl rfl) (DW Ab))
   (Ac (C_ PassesOwn.never rfl (Bp (Aj (O7 N T) (ad hr) rfl N.FDc.2.2 N.FDc.1.kp N.FDc.2.1 .nil An (Aa (pv 0) (Aa (pv 1) (Aa BR Ab))))) (BZ (i:=5) Pq.nd rfl (Or.inl rfl)) (Ac (Bh (i:=6) Pq.nd rfl (Or.inl rfl) (Cw (pv 0) T.cl N.FOs.2.2 (VL N T) (ad hr) N.FOs.2.1 .nil An (Aa (pv 5) Ab)))
   (Ac (Bh (i:=7) Pq.nd rfl (Or.inl rfl) (Aj (Xz N T) (ad hr) rfl N.FNb.2.2 N.FNb.1.kp N.FNb.2.1 .nil An (Aa (pv 0) (Aa (Am (Aq (K:=K) rfl) (pv 6) Ae (fun _ _=>rfl)) (Aa (pv 2) Ab)))))
   (Ai (C_ PassesOwn.never rfl (Gy rfl T.enumerate (Aa (Am (Aq (K:=K) rfl) (pv 6) Ae (fun _ _=>rfl)) Ab)) (Du rfl (Bf (BZ (i:=8) Pq.nd rfl (Or.inl rfl)) (Bf (BZ (i:=9) Pq.nd rfl (Or.inl rfl)) DP))) (Ai (Br (Di (Aj (J3 N T) (ad hr) rfl N.FHa.2.2 N.FHa.1.kp N.FHa.2.1 .nil An (Aa (Aj (Xo N T) (ad hr) rfl N.FLl.2.2 N.FLl.1.kp N.FLl.2.1 .nil An (Aa (pv 0) (Aa (pv 9) (Aa (pv 7) Ab)))) (Aa (pv 3) Ab)))) (Ai (Eh (HF de dL dQ DG (pv 4) (Aa (Ck (Aa (pv 5) (Aa (pv 8) Ab))) Ab)))) Ba)))))))
   (Ai (Ay (pv 4))))),?_⟩
  have meth:∀ {H':Hp},CN C H' x (Bb c sz) rk (CJ c kbs) ls->∃ dx fs,H' x=some (.ins C dx fs)/\∀ m∈meths,fs.lookup m=none:=fun O'=>by
   refine byC fun w_=>?_;obtain ⟨⟨dx,fs,_,_,_,_,_,_,_,_,h1,_,_,_,_,lm,_⟩,_⟩:=O'.o;refine w_ ?_
   exact ⟨dx,fs,h1,lm⟩
  refine ⟨Fl (by simp),fun F hF=>?_⟩
  refine byC fun w_=>?_;obtain ⟨H0,eqH,t0,u0⟩:=Ft (o:=HO.lst []) hF;refine w_ ?_
  rw [eqH]
  refine ⟨_,rfl,_,rfl,x,Bb c sz,CJ c kbs,"stop",D,rfl,(O.mono t0).o,fun CL cl H1 hCL s1 hl1 hcl hcll=>?_⟩
  have hcl':∀ k,k∈cl ↔ ∃ z,kbs[k]? = some z/\z.w = "stop" /\ D.testBit k=true:=fun k=>by
   rw [hcl]
   constructor
   ·rintro ⟨r,hr,hw,hd⟩
    obtain ⟨z,hz,rfl⟩:=FQ hr
    rw [Gf] at hw
    exact ⟨z,hz,hw,hd⟩
   ·rintro ⟨z,hz,hc,hd⟩
    exact ⟨_,Do hz,(Gf _ _ _).trans hc,hd⟩
  have hS1:Cz K H1 CL (nV cl):=.inl (.inl hl1)
  have s01:=t0.trans s1
  have u0':=u0
  have hCL0:=hCL
  refine ⟨CL,rfl,⟨_,hS1⟩,Eo (K:=K) (a:=CL) (xs:=nV cl) (fun i σ H'=>Ao H H'/\H' CL=some (.lst (nV cl))/\∃ (ps:List (Nat × Nat)) (ys:List V) (v5 v6 v7 v8 v9:Option V),H' F=some (.lst ys)/\Paired (fun (p:Nat × Nat) v=>TupAt H' (pV p) v) ps ys/\ps.length<=100 * i/\(∀ q,q∈ps ↔ Mj sz rk kbs ls D n p q/\q.1∈cl.take i)/\σ=[some (.ref x),some (.int (D:Nat)),some (.int (n:Nat)),some (.int (p:Nat)),some (.ref F),v5,v6,v7,v8,v9]) ⟨s01,hl1,[],[],_,_,_,_,_,s1 _ _ u0,.nil,gu _,(fun q=>⟨(fun z=>nomatch z),(fun z=>nomatch z.2)⟩),rfl⟩ (fun i σ H' _ h=>.inl (.inl h.2.1)) ?_ ?_⟩
  ·rintro i y σ H2 hy ⟨s2,hl2,ps,ys,v5,v6,v7,v8,v9,hF2,hps,hlen,hiff,rfl⟩
   rw [ar] at hy
   obtain ⟨k,hk,rfl⟩:=bb.mp hy
   have hi:i<cl.length:=(ah.mp hk).1
   obtain ⟨z,hz,hzw,hzD⟩:=(hcl' k).mp (ay hk)
   have hr:=Do (c:=c) hz
   obtain ⟨rs,er⟩:=JR hr
   rw [er] at hr
   have hb:=Js hkb hz
   have hbs:(Bb c sz)[DY kbs k]? = some (c (DY kbs k),sz[DY kbs k]):=DR (ae hb)
   have hkl:k<ls.length:=by
    rw [O.nl,K9]
    exact (ah.mp hz).1
   obtain ⟨l,hl⟩:∃ l,ls[k]? = some l:=⟨_,ae hkl⟩
   have hlG:=hls l (ay hl)
   have elD:ls.getD k []=l:=by rw [ax,hl]; rfl
   have O2:=O.mono s2
   obtain ⟨dx,fs,hx,lm⟩:=meth O2
   refine ⟨_,rfl,x,dx,fs,rfl,hx,lm _ (by decide +kernel),_,rfl,x,Bb c sz,rk,CJ c kbs,ls,k,DY kbs k,(c (DY kbs k),sz[DY kbs k]),_,_,rs,l,rfl,O2,hr,hbs,hl,fun T0 L0 ts H3 fL0 s3 hT0 hL0 htp=>?_⟩
   have O3:=O2.mono s3
   refine ⟨_,rfl,_,rfl,T0,_,_,_,rfl,rfl,kR hT0,Ag (j:=0) rfl,_,rfl,x,c,sz,CJ c kbs,DY kbs k,n,rfl,O3.o,hb,hn,fun H4 s4=>?_⟩
   have nlt:=Q7 n (-((sz.take (DY kbs k)).sum:Int)) (sz.getD (DY kbs k) 0)
   have h61:sz.getD (DY kbs k) 0<=61:=by
    rw [ax,ae hb]
    exact O.o.sz _ (ay hbs)
   have nlt':PQ sz (DY kbs k) n<2 ^ 1200:=bg nlt (fS (by decide) (by omega))
   have s34:=s3.trans s4
   have s24:=s2.trans s34
   have hL4:=s4 _ _ hL0
   have hT4:=s4 _ _ hT0
   have htp4:=Al s4 htp
   have hlt:=htp4.length
   have hF4:=s34 _ _ hF2
   have hCL4:=s34 _ _ hl2
   have nFL:L0 ≠ F:=Ne.symm (Ak hF2 fL0)
   have hps4:=Al s34 hps
   have hS4:Cz K H4 L0 ts:=.inl (.inl hL4)
   refine ⟨_,rfl,T0,_,_,_,rfl,rfl,kR hT4,Ag (j:=1) rfl,L0,rfl,⟨_,hS4⟩,Gq (K:=K) (a:=L0) (xs:=ts) (fun j σ H'=>Ao H H'/\H' CL=some (.lst (nV cl))/\H' L0=some (.lst ts)/\Paired (fun x y=>TupAt H' (ao x) y) l ts/\∃ (ps:List (Nat × Nat)) (ys:List V) (v8 v9:Option V),H' F=some (.lst ys)/\Paired (fun (p:Nat × Nat) v=>TupAt H' (pV p) v) ps ys/\ps.length<=100 * i+j/\(∀ q,q∈ps ↔ Mj sz rk kbs ls D n p q/\(q.1∈cl.take i \/ (q.1=k/\q.2<j)))/\σ=[some (.ref x),some (.int (D:Nat)),some (.int (n:Nat)),some (.int (p:Nat)),some (.ref F),some (.int (k:Nat)),some (.ref T0),some (.int (PQ sz (DY kbs k) n:Nat)),v8,v9]) ⟨s24,hCL4,hL4,htp4,ps,ys,_,_,hF4,hps4,by omega,(fun q=>by rw [hiff]; exact and_congr_right fun _=>⟨.inl,fun z=>z.elim id fun w=>absurd w.2 (ge _)⟩),rfl⟩ (fun j σ H' _ h=>kR h.2.2.1) ?_ ?_⟩
   ·rintro j y σ H5 T5 hy ⟨s5,hCL5,hL5,htp5,ps5,ys5,v8,v9,hF5,hps5,hlen5,hiff5,rfl⟩ hT
    have hjl:j<ts.length:=(ah.mp hy).1
    obtain ⟨ln,hln,hyt⟩:=D_ htp5 hy
    have t6:=A_ (o:=HO.tup [V.int ((j:Nat):Int),y]) hT
    refine ⟨T5,_,rfl,kR Ah,rfl,_,_,rfl,_,_,rfl,rfl,?_⟩
    generalize upd H5 T5 (HO.tup [V.int ((j:Nat):Int),y])=H6 at t6 ⊢
    have O6:=O.mono (s5.trans t6)
    refine ⟨_,rfl,_,rfl,_,rfl,x,Bb c sz,rk,CJ c kbs,ls,y,ln,_,rfl,O6,hyt.mono t6,hlG.2 ln (ay hln),nlt',fun H7 s7=>⟨_,rfl,_,_,rfl,_,rfl,?_⟩⟩
    have t57:=t6.trans s7
    have s07:=s5.trans t57
    have eb:(decide ((0:Int)<=(p:Nat)) && (Jy rk ln (PQ sz (DY kbs k) n)).testBit ((p:Nat):Int).toNat)=(Jy rk ln (PQ sz (DY kbs k) n)).testBit p:=by rw [decide_eq_true (by omega),fF,aT]
    rw [eb]
    have hF7:=t57 _ _ hF5
    have hps7:=Al t57 hps5
    have htp7:=Al t57 htp5
    have leadj:Mj sz rk kbs ls D n p (k,j) ↔ (Jy rk ln (PQ sz (DY kbs k) n)).testBit p=true:=by
     constructor
     ·rintro ⟨z',l',h1,h2,h3,h4,h5⟩
      have h4':(ls.getD k [])[j]? = some l':=h4
      rw [elD,hln] at h4'
      cases h4'
      exact h5
     ·intro h
      exact ⟨z,ln,hz,hzw,hzD,by rw [elD]; exact hln,h⟩
    have hyl:=hps7.length
    cases hbit:(Jy rk ln (PQ sz (DY kbs k) n)).testBit p with
    | false =>
     refine Ci ⟨s07,t57 _ _ hCL5,t57 _ _ hL5,htp7,ps5,ys5,_,_,hF7,hps7,by omega,(fun q=>?_),rfl⟩
     rw [hiff5]
     refine and_congr_right fun hq=>or_congr Iff.rfl ⟨fun w=>⟨w.1,by omega⟩,fun w=>⟨w.1,?_⟩⟩
     rcases kQ q.2 j with h | h
     ·exact h
     ·exfalso
      have e2:q=(k,j):=Prod.ext w.1 (by show q.2=j; omega)
      rw [e2,leadj,hbit] at hq
      cases hq
    | true =>
     refine Ef ⟨_,rfl,.inl ⟨rfl,_,kR hF7⟩,_,rfl,_,rfl,by show 2<=sizeLine; decide,fun P1 hP1=>?_⟩
     have t8:=A_ (o:=HO.tup [V.int (k:Nat),V.int (j:Nat)]) hP1
     have u8:upd H7 P1 (HO.tup [V.int (k:Nat),V.int (j:Nat)]) P1=some (.tup (pV (k,j))):=Ah
     generalize upd H7 P1 (HO.tup [V.int (k:Nat),V.int (j:Nat)])=H8 at t8 u8 ⊢
     have hF8:=t8 _ _ hF7
     have t58:=t57.trans t8
     refine ⟨F,ys5,_,rfl,rfl,hF8,Nat.lt_of_le_of_lt (show ys5.length<=30000 by omega) (by decide),?_⟩
     refine ⟨fun b' o e'=>by rw [Ar (Ak e' hF)]; exact t8 _ _ (s07 _ _ e'),?_,?_,Bx (Al t8 htp7) hF8,ps5++[(k,j)],ys5++[V.ref P1],_,_,Ah,(Bx (ws:=ys5++[V.ref P1]) (Al t8 hps7) hF8).snoc (TupAt.upd (ws:=ys5++[V.ref P1]) ⟨P1,rfl,u8⟩ hF8),?_,(fun q=>?_),rfl⟩
     ·rw [Ar (Ne.symm (Ak u0' hCL0))]
      exact t58 _ _ hCL5
     ·rw [Ar nFL]
      exact t58 _ _ hL5
     ·rw [av]
      show ps5.length+1<=_
      omega
     ·rw [ba,hiff5,aS]
      constructor
      ·rintro (⟨h1,h2⟩ | rfl)
       ·exact ⟨h1,h2.imp id fun w=>⟨w.1,by omega⟩⟩
       ·exact ⟨leadj.mpr hbit,.inr ⟨rfl,eT _⟩⟩
      ·rintro ⟨h1,h2 | ⟨h3,h4⟩⟩
       ·exact .inl ⟨h1,.inl h2⟩
       ·rcases kQ q.2 j with h | h
        ·exact .inl ⟨h1,.inr ⟨h3,h⟩⟩
        ·exact .inr (Prod.ext h3 (by show q.2=j; omega))
   ·rintro σ H5 ⟨s5,hCL5,hL5,htp5,ps5,ys5,v8,v9,hF5,hps5,hlen5,hiff5,rfl⟩
    refine ⟨s5,hCL5,ps5,ys5,_,_,_,_,_,hF5,hps5,by have:=hlG.1; omega,(fun q=>?_),rfl⟩
    rw [hiff5,dl,hk]
    refine and_congr_right fun hq=>?_
    show _ ↔ q.1∈cl.take i++[k]
    rw [ba,aS]
    refine or_congr Iff.rfl ⟨fun w=>w.1,fun w=>⟨w,?_⟩⟩
    refine byC fun w_=>?_;obtain ⟨z',l',h1,h2,h3,h4,h5⟩:=hq;refine w_ ?_
    rw [w,elD] at h4
    have:=(ah.mp h4).1
    omega
  ·rintro σ H2 ⟨s2,hl2,ps,ys,v5,v6,v7,v8,v9,hF2,hps,hlen,hiff,rfl⟩
   refine ⟨_,rfl,q F ps ys H2 hF s2 hF2 hps fun q'=>?_⟩
   rw [hiff]
   refine ⟨fun z=>z.1,fun z=>⟨z,?_⟩⟩
   refine byC fun w_=>?_;obtain ⟨z',l',h1,h2,h3,h4,h5⟩:=z;refine w_ ?_
   have el:(nV cl).length=cl.length:=ai _
   rw [el,fg]
   exact (hcl' _).mpr ⟨z',h1,h2,h3⟩
noncomputable def cU (C:Addr):Sp:=fun vs H Q _=>∃ (x:Addr) (c:Nat->Str) (sz:List Nat) (rk:List (Str × Nat × Int)) (kbs:List Kb) (ls:List (List Ln)) (k j p:Nat) (z:Kb) (l:List Ln) (ln:Ln) (qd:Nat × Nat),vs=[.ref x,.int (k:Nat),.int (j:Nat),.int (p:Nat)]/\CN C H x (Bb c sz) rk (CJ c kbs) ls/\Nz sz.length kbs/\kbs[k]? = some z/\ls[k]? = some l/\l[j]? = some ln/\(Ez (rk.map SN))[p]? = some qd/\∀ H',Ao H H'->Q (.int (((sz.take (DY kbs k)).sum:Nat)+((qd.2:Nat) - ln.sh))) H'
theorem Yr:Aw ["organ","knob","number","pipe","stop","board"] ["organ","knob","number","pipe"] (Af nu):=Bo
include N T in
theorem iD:Av P w K mg base Bg 3 aD.fKa aD.dKa ["organ","knob","number","pipe"] (cU C):=by
 refine N.FKa.1.ok Yr (fun vs H Q E h=>?_) (fun cdv A outer s H vs Q E hr h=>?_)
 ·refine byC fun w_=>?_;obtain ⟨x,c,sz,rk,kbs,ls,k,j,p,z,l,ln,qd,rfl,_⟩:=h;refine w_ ?_
  rfl
 ·refine byC fun w_=>?_;obtain ⟨x,c,sz,rk,kbs,ls,k,j,p,z,l,ln,qd,rfl,O,hkb,hz,hl,hln,hq,q⟩:=h;refine w_ ?_
  have hu:=Ei hr
  refine ⟨_,(Ac (Bh (i:=4) Yr.nd rfl (Or.inl rfl) (Cw (pv 0) T.cl N.FOs.2.2 (VL N T) (ad hr) N.FOs.2.1 .nil An (Aa (pv 1) Ab)))
   (Ac (Bh (i:=5) Yr.nd rfl (Or.inl rfl) (Am (Bv (K:=K) rfl) (Ew (pv 0) T.cl N.FOb.2.2 (Ul N T) (ad hr) N.FOb.2.1 .nil An) (Am (Aq (K:=K) rfl) (pv 4) Ae (fun _ _=>rfl)) (fun _ _=>rfl)))
   (Ai (Ay (Cw (pv 0) T.cl N.FOk.2.2 (Vv N T) (ad hr) N.FOk.2.1 .nil An (Aa (Am (Aq (K:=K) rfl) (pv 5) Ae (fun _ _=>rfl)) (Aa (BK Dz (Am (Aq (K:=K) rfl) (Cw (pv 0) T.cl N.FOx.2.2 (cF N T) (ad hr) N.FOx.2.1 .nil An (Aa (pv 3) Ab)) Ae (fun _ _=>rfl)) (Am (Aq (K:=K) rfl) (Am (Bv (K:=K) rfl) (Am (Aq (K:=K) rfl) (pv 4) Ae (fun _ _=>rfl)) (pv 2) (fun _ _=>rfl)) Ae (fun _ _=>rfl))) Ab))))))),?_⟩
  have meth:∀ {H':Hp},CN C H' x (Bb c sz) rk (CJ c kbs) ls->∃ dx fs,H' x=some (.ins C dx fs)/\∀ m∈meths,fs.lookup m=none:=fun O'=>by
   refine byC fun w_=>?_;obtain ⟨⟨dx,fs,_,_,_,_,_,_,_,_,h1,_,_,_,_,lm,_⟩,_⟩:=O'.o;refine w_ ?_
   exact ⟨dx,fs,h1,lm⟩
  have hr:=Do (c:=c) hz
  obtain ⟨rs,er⟩:=JR hr
  rw [er] at hr
  have hb:=Js hkb hz
  have hbs:(Bb c sz)[DY kbs k]? = some (c (DY kbs k),sz[DY kbs k]):=DR (ae hb)
  obtain ⟨dx,fs,hx,lm⟩:=meth O
  refine ⟨_,rfl,x,dx,fs,rfl,hx,lm _ (by decide +kernel),_,rfl,x,Bb c sz,rk,CJ c kbs,ls,k,DY kbs k,(c (DY kbs k),sz[DY kbs k]),_,_,rs,l,rfl,O,hr,hbs,hl,fun T0 L0 ts H1 _ s1 hT0 hL0 htp=>?_⟩
  have O1:=O.mono s1
  have hx1:=s1 _ _ hx
  refine ⟨_,rfl,x,dx,fs,rfl,hx1,lm _ (by decide +kernel),x,Bb c sz,CJ c kbs,rfl,O1.o,fun DB bvs H2 hDB s2 hl2 hp2=>?_⟩
  refine byC fun w_=>?_;obtain ⟨yb,hyb,Tb,rfl,htb⟩:=CQ hp2 hbs;refine w_ ?_
  have s12:=s1.trans s2
  have O2:=O1.mono s2
  refine ⟨_,rfl,T0,_,_,_,rfl,rfl,kR (s2 _ _ hT0),Ag (j:=0) rfl,DB,bvs,_,_,rfl,rfl,kR hl2,Ag hyb,?_⟩
  refine byC fun w_=>?_;obtain ⟨yl,hyl,Tl,rfl,htl⟩:=CQ (Al s2 htp) hln;refine w_ ?_
  refine ⟨_,rfl,x,dx,fs,rfl,s2 _ _ hx1,lm _ (by decide +kernel),_,rfl,Tb,_,_,_,rfl,rfl,kR htb,Ag (j:=0) rfl,_,rfl,x,dx,fs,rfl,s2 _ _ hx1,lm _ (by decide +kernel),_,rfl,x,Bb c sz,rk,CJ c kbs,ls,p,qd,rfl,O2,hq,fun yq hyq=>?_⟩
  obtain ⟨Tq,rfl,htq⟩:=hyq
  refine ⟨Tq,_,_,_,rfl,rfl,kR htq,Ag (j:=1) rfl,_,rfl,T0,_,_,_,rfl,rfl,kR (s2 _ _ hT0),Ag (j:=1) rfl,_,rfl,L0,ts,_,_,rfl,rfl,kR (s2 _ _ hL0),Ag hyl,Tl,_,_,_,rfl,rfl,kR htl,Ag (j:=1) rfl,_,_,rfl,rfl,x,Bb c sz,CJ c kbs,DY kbs k,(c (DY kbs k),sz[DY kbs k]),_,rfl,O2.o,hbs,fun H3 s3=>?_⟩
  have e:(((Bb c sz).take (DY kbs k)).map (·.2)).sum=(sz.take (DY kbs k)).sum:=by rw [fT,Bm]
  rw [e]
  exact q _ (s12.trans s3)
structure X7 (sz:List Nat) (rk:List (Str × Nat × Int)) (kbs:List Kb) (ls:List (List Ln)) (D p k j key least:Nat):Prop where
 ex:∃ (z:Kb) (l:List Ln) (ln:Ln) (i:Nat),kbs[k]? = some z/\z.w = "stop" /\ D.testBit k=true/\ls[k]? = some l/\l[j]? = some ln/\key=(sz.take (DY kbs k)).sum+i/\i<sz.getD (DY kbs k) 0/\ln.lo<=(i:Int)/\(i:Int)<=ln.hi/\0<=(i:Int)+ln.sh/\(i:Int)+ln.sh<(J7 rk ln.r:Nat)/\(p:Int)=(Qw rk ln.r:Nat)+((i:Int)+ln.sh)
 lst:least=1/\JX kbs D (DY kbs k) \/ least=0/\¬ JX kbs D (DY kbs k)
noncomputable def jK (C:Addr):Sp:=fun vs H Q _=>∃ (x:Addr) (c:Nat->Str) (sz:List Nat) (rk:List (Str × Nat × Int)) (kbs:List Kb) (ls:List (List Ln)) (D n p:Nat),vs=[.ref x,.int (D:Nat),.int (n:Nat),.int (p:Nat)]/\CN C H x (Bb c sz) rk (CJ c kbs) ls/\Nz sz.length kbs/\Wg rk ls/\n<2 ^ 1200/\(∀ i,n.testBit i=true->i<sz.sum) /\
 (∀ (W TT L:Addr) (f k j key least m:Nat) (st:List (Nat × Nat)) (ys:List V) H',H L=none->Ao H H'->H' W=some (.tup [.ref TT,.int (k:Nat),.int (j:Nat)])->H' TT=some (.tup [.int (f:Nat),.ref L])->H' L=some (.lst ys)->Paired (fun (p:Nat × Nat) v=>TupAt H' (pV p) v) st ys->jN (Bb c sz) kbs D n key f st least->X7 sz rk kbs ls D p k j key least->(∀ j,m.testBit j=true ↔ HS c sz kbs D n j)->Mj sz rk kbs ls D m p (k,j)->Q (.ref W) H') /\
 ∀ m H',Ao H H'->(∀ j,m.testBit j=true ↔ HS c sz kbs D n j)->(∀ q,¬ Mj sz rk kbs ls D m p q)->Q .non H'
theorem Ti:Aw ["organ","knobs","held","pipe","found","knob","number","key","least"] ["organ","knobs","held","pipe"] (Af p_):=Bo
include N T in
theorem fW:Av P w K mg base Bg 8 aD.fWs aD.dWs ["organ","knobs","held","pipe"] (jK C):=by
 refine N.FWs.1.ok Ti (fun vs H Q E h=>?_) (fun cdv A outer s H vs Q E hr h=>?_)
 ·refine byC fun w_=>?_;obtain ⟨x,c,sz,rk,kbs,ls,D,n,p,rfl,_⟩:=h;refine w_ ?_
  rfl
 ·refine byC fun w_=>?_;obtain ⟨x,c,sz,rk,kbs,ls,D,n,p,rfl,O,hkb,hls,hn,hnt,q,q0⟩:=h;refine w_ ?_
  have hu:=Ei hr
  refine ⟨_,(Ac (Bh (i:=4) Ti.nd rfl (Or.inl rfl) (Aj (cY N T) (ad hr) rfl N.FLt.2.2 N.FLt.1.kp N.FLt.2.1 .nil An (Aa (pv 0) (Aa (pv 1) (Aa (Aj (Xv N T) (ad hr) rfl N.FSk.2.2 N.FSk.1.kp N.FSk.2.1 .nil An (Aa (pv 0) (Aa (pv 1) (Aa (pv 2) Ab)))) (Aa (pv 3) Ab))))))
   (Ac (Br (DQ (Kd (pv 4) (fun _=>rfl))) (Ai (Ay HY)) Ba)
   (Ac (Bh (i:=5) Ti.nd rfl (Or.inl rfl) (Am (Aq (K:=K) rfl) (Am (Bv (K:=K) rfl) (pv 4) Ae (fun _ _=>rfl)) Ae (fun _ _=>rfl)))
   (Ac (Bh (i:=6) Ti.nd rfl (Or.inl rfl) (Am (Aq (K:=K) rfl) (Am (Bv (K:=K) rfl) (pv 4) Ae (fun _ _=>rfl)) Ae (fun _ _=>rfl)))
   (Ac (Bh (i:=7) Ti.nd rfl (Or.inl rfl) (Aj (iD N T) (ad hr) rfl N.FKa.2.2 N.FKa.1.kp N.FKa.2.1 .nil An (Aa (pv 0) (Aa (pv 5) (Aa (pv 6) (Aa (pv 3) Ab))))))
   (Ac (Bh (i:=8) Ti.nd rfl (Or.inl rfl) (Ko (BX Jk (Cw (pv 0) T.cl N.FBk.2.2 (Qs N T) (ad hr) N.FBk.2.1 .nil An (Aa (pv 5) Ab)) (Aj (YX N T) (ad hr) rfl N.FMu.2.2 N.FMu.1.kp N.FMu.2.1 .nil An (Aa (pv 0) (Aa (pv 1) Ab))) rfl) Ae Ae))
   (Ai (Ay (Ck (Aa (Aj (dO N T) (ad hr) rfl N.FTt.2.2 N.FTt.1.kp N.FTt.2.1 .nil An (Aa (pv 0) (Aa (pv 1) (Aa (pv 2) (Aa (pv 7) (Aa (pv 8) Ab)))))) (Aa (pv 5) (Aa (pv 6) Ab)))))))))))),?_⟩
  have meth:∀ {H':Hp},CN C H' x (Bb c sz) rk (CJ c kbs) ls->∃ dx fs,H' x=some (.ins C dx fs)/\∀ m∈meths,fs.lookup m=none:=fun O'=>by
   refine byC fun w_=>?_;obtain ⟨⟨dx,fs,_,_,_,_,_,_,_,_,h1,_,_,_,_,lm,_⟩,_⟩:=O'.o;refine w_ ?_
   exact ⟨dx,fs,h1,lm⟩
  refine ⟨_,rfl,_,rfl,_,rfl,_,rfl,_,rfl,x,c,sz,kbs,D,n,rfl,O.o,hkb,hn,hnt,fun m H1 s1 hm=>?_⟩
  have h305:=Ep O.o
  rw [Bm] at h305
  have hm12:m<2 ^ 1200:=by
   refine ib _ fun i hi=>?_
   cases hb:m.testBit i with
   | false=>rfl
   | true =>
    have:=(hm i).mp hb
    have hlt:i<sz.sum:=by
     rcases this with h | ⟨h,_⟩
     ·have:=h.lt
      rw [Bm] at this
      exact this
     ·exact hnt i h
    omega
  refine ⟨_,rfl,x,c,sz,rk,kbs,ls,D,m,p,rfl,O.mono s1,hkb,hls,hm12,fun F ps ys H2 hF s2 hF2 hps hiff=>?_⟩
  have s12:=s1.trans s2
  have O2:=O.mono s12
  have hyl:=hps.length
  cases ps with
  | nil =>
   cases ys with
   | cons _ _=>cases hyl
   | nil =>
    refine ⟨_,rfl,_,.inl ⟨_,kR hF2,rfl⟩,Ef (q0 m H2 s12 hm fun q' hq'=>?_)⟩
    exact nomatch (hiff q').mpr hq'
  | cons kj ps' =>
   obtain ⟨k,j⟩:=kj
   obtain ⟨y0,ys',rfl⟩:∃ y0 ys',ys=y0::ys':=by
    cases ys with
    | nil=>cases hyl
    | cons a b=>exact ⟨a,b,rfl⟩
   obtain ⟨T1,rfl,hT1⟩:TupAt H2 (pV (k,j)) y0:=by
    obtain ⟨y',hy',ht'⟩:=CQ (i:=0) hps rfl
    have:y0=y':=Option.some.inj hy'
    rw [this]
    exact ht'
   have lead:=(hiff (k,j)).mp (cS ..)
   refine byC fun w_=>?_;obtain ⟨z,ln,hz,hzw,hzD,hln,hbit⟩:=id lead;refine w_ ?_
   have hkl:k<ls.length:=by
    rw [O.nl,K9]
    exact (ah.mp hz).1
   obtain ⟨l,hl⟩:∃ l,ls[k]? = some l:=⟨_,ae hkl⟩
   have hlG:=hls l (ay hl)
   have elD:ls.getD k []=l:=by rw [ax,hl]; rfl
   have hln':l[j]? = some ln:=by rw [← elD]; exact hln
   have g:=hlG.2 ln (ay hln')
   refine byC fun w_=>?_;obtain ⟨i,hi1,hlo,hhi,hs0,hs1,hp⟩:=(Nx g _ _).mp hbit;refine w_ ?_
   obtain ⟨hib,hmb⟩:=(Px _ _ _ _).mp hi1
   obtain ⟨key,ekey⟩:∃ key,key=(sz.take (DY kbs k)).sum+i:=⟨_,rfl⟩
   rw [← ekey] at hmb
   have hb:=Js hkb hz
   have hsp:=(hm key).mp hmb
   obtain ⟨np,enp⟩:=iA hs0
   have hrk:(rk.map SN)[ln.r]? = some (SN (rk[ln.r]'g.r)):=by rw [ar,ae g.r]; rfl
   have ezr:J7 rk ln.r=(SN (rk[ln.r]'g.r)).2:=by
    unfold J7
    rw [ax,ar,ae g.r]
    rfl
   have hplc:=XH hrk (n:=np) (by rw [← ezr]; omega)
   have est:(((rk.map SN).take ln.r).map (·.2)).sum=Qw rk ln.r:=by
    unfold Qw
    rw [← fT,bo]
    rfl
   rw [est] at hplc
   have ep:p=Qw rk ln.r+np:=by omega
   rw [← ep] at hplc
   refine ⟨_,rfl,_,.inl ⟨_,kR hF2,rfl⟩,Ci ?_⟩
   refine ⟨_,rfl,F,_,_,_,rfl,rfl,kR hF2,Ag (j:=0) rfl,T1,_,_,_,rfl,rfl,kR hT1,Ag (j:=0) rfl,_,rfl,F,_,_,_,rfl,rfl,kR hF2,Ag (j:=0) rfl,T1,_,_,_,rfl,rfl,kR hT1,Ag (j:=1) rfl,?_⟩
   refine ⟨_,rfl,_,rfl,_,rfl,_,rfl,x,c,sz,rk,kbs,ls,k,j,p,z,l,ln,_,rfl,O2,hkb,hz,hl,hln',hplc,fun H3 s3=>?_⟩
   have ek:(((sz.take (DY kbs k)).sum:Nat):Int)+(((np:Nat):Int) - ln.sh)=((key:Nat):Int):=by omega
   dsimp only
   rw [ek]
   have O3:=O2.mono s3
   obtain ⟨dx,fs,hx,lm⟩:=meth O3
   have hr:=Do (c:=c) hz
   obtain ⟨rs,er⟩:=JR hr
   rw [er] at hr
   have hbs:(Bb c sz)[DY kbs k]? = some (c (DY kbs k),sz[DY kbs k]):=DR (ae hb)
   refine ⟨_,rfl,x,dx,fs,rfl,hx,lm _ (by decide +kernel),_,rfl,x,Bb c sz,CJ c kbs,k,DY kbs k,(c (DY kbs k),sz[DY kbs k]),_,_,rs,rfl,O3.o,hr,hbs,_,rfl,_,rfl,x,c,sz,kbs,D,rfl,O3.o,hkb,fun ML ml H4 hML s4 hl4 hml hmll=>⟨ML,_,rfl,kR (.inl hl4),rfl,WL _,_,rfl,?_⟩⟩
   have s04:=s12.trans (s3.trans s4)
   have O4:=O3.mono s4
   rw [if_neg fi,RC]
   have hbrd:V4 sz key (DY kbs k):=⟨i,hib,hb,ekey⟩
   by_cases hmu:DY kbs k∈ml
   ·rw [decide_eq_true hmu]
    refine Ef ?_
    refine ⟨_,rfl,_,rfl,_,rfl,_,rfl,_,rfl,x,c,sz,kbs,D,n,key,1,rfl,O4.o,hkb,hn,hnt,by decide,(fun yt H5 f st L ys5 hL s5 hyt hL5 hp5 Uc _=>?_),(fun H5 s5 n1 n2=>?_)⟩
    rotate_left
    ·exfalso
     rcases hsp with h | ⟨_,h⟩
     ·exact n2 h
     ·exact h _ hbrd ((hml _).mp hmu)
    obtain ⟨TT,rfl,hTT⟩:=hyt
    refine ⟨_,rfl,_,rfl,by show 3<=sizeLine; decide,fun W hW=>?_⟩
    have t6:=A_ (o:=HO.tup [V.ref TT,V.int (k:Nat),V.int (j:Nat)]) hW
    have s6:=s5.trans t6
    exact q W TT L f k j key 1 m st ys5 _ (s04.free hL) (s04.trans s6) Ah (t6 _ _ hTT) (t6 _ _ hL5) (Al t6 hp5) Uc ⟨⟨z,l,ln,i,hz,hzw,hzD,hl,hln',ekey,hib,hlo,hhi,hs0,hs1,hp⟩,.inl ⟨rfl,(hml _).mp hmu⟩⟩ hm lead
   ·rw [decide_eq_false hmu]
    refine Ci ?_
    refine ⟨_,rfl,_,rfl,_,rfl,_,rfl,_,rfl,x,c,sz,kbs,D,n,key,0,rfl,O4.o,hkb,hn,hnt,by decide,(fun yt H5 f st L ys5 hL s5 hyt hL5 hp5 Uc _=>?_),(fun H5 s5 n1 n2=>?_)⟩
    rotate_left
    ·exfalso
     rcases hsp with h | ⟨h,_⟩
     ·exact n2 h
     ·exact n1 ⟨rfl,h⟩
    obtain ⟨TT,rfl,hTT⟩:=hyt
    refine ⟨_,rfl,_,rfl,by show 3<=sizeLine; decide,fun W hW=>?_⟩
    have t6:=A_ (o:=HO.tup [V.ref TT,V.int (k:Nat),V.int (j:Nat)]) hW
    have s6:=s5.trans t6
    exact q W TT L f k j key 0 m st ys5 _ (s04.free hL) (s04.trans s6) Ah (t6 _ _ hTT) (t6 _ _ hL5) (Al t6 hp5) Uc ⟨⟨z,l,ln,i,hz,hzw,hzD,hl,hln',ekey,hib,hlo,hhi,hs0,hs1,hp⟩,.inr ⟨rfl,fun z=>hmu ((hml _).mpr z)⟩⟩ hm lead
open Bw
theorem Q3 {c:TT} {t t2 u:TS} {D:Ends} {σ:St} {H:Hp} (P:St->Hp->Prop) (h1:∀ D':Ends,(∀ σ' H',P σ' H'->D'.nx σ' H')->aF c t t2 D' σ H) (h2:∀ σ' H',P σ' H'->u D σ' H'):aU (aF c t t2) u D σ H:=h1 { D with nx:=u D } h2
theorem gN {i:Nat} {v:V} {σ:St} {H:Hp} {Q:St->Hp->Prop} (h:Q (σ.set i (some v)) H):Dy i v σ H Q:=h
theorem Vz {st:Nat->Nat->Nat->Prop}:∀ {f:Nat} {l:List (Nat × Nat)},ak st f l->∀ {m:Nat} {p:Nat × Nat},l[m]? = some p->∃ b,(f::l.map (·.2))[m]? = some b/\st b p.1 p.2
 | f,[],_,m,p,hp=>by simp at hp
 | f,a::l,h,0,p,hp=>by
  have:a=p:=by simpa using hp
  subst this
  exact ⟨f,rfl,h.1⟩
 | f,a::l,h,m+1,p,hp=>by
  have hp':l[m]? = some p:=by simpa using hp
  obtain ⟨b,hb,hs⟩:=Vz h.2 hp'
  exact ⟨b,by simpa using hb,hs⟩
theorem VN {xs:List V} {v:V} (h:xs.getLast? = some v):Lb xs (-1)=some v:=by
 have hne:xs ≠ []:=fun z=>by rw [z] at h; cases h
 have hl:1<=xs.length:=by cases xs with | nil=>exact absurd rfl hne | cons a l=>simp
 unfold Lb S8
 rw [if_neg (by decide),if_pos (by omega)]
 show xs[((-1:Int)+(xs.length:Int)).toNat]? = some v
 have e:((-1:Int)+(xs.length:Int)).toNat=xs.length - 1:=by omega
 rw [e,← ii]
 exact h
theorem NP (n i:Nat):decide (V.int (Builtin.bitAnd ((n:Int) / 2 ^ ((i:Nat):Int).toNat) 1)=V.int 0) = !(n.testBit i):=by
 rw [← Nm]
 have e:(n:Int) / 2 ^ ((i:Nat):Int).toNat=((n / 2 ^ i:Nat):Int):=by rw [aT]; push_cast; rfl
 have e1:(1:Int)=((1:Nat):Int):=rfl
 rw [e,e1,JQ,Nat.and_one_is_mod]
 rcases Nat.mod_two_eq_zero_or_one (n / 2 ^ i) with h | h <;> rw [h] <;> decide
theorem O9 {H:Hp} {m:Addr} {sz:List Nat} {rk:List (Nat × Int)} {gs:List Gp} (M:Em H m sz rk gs) {k:Nat} {g:Gp} (hg:gs[k]? = some g):∃ (kn:Addr) (xs:List V) (T r0 L:Addr) (lvs:List V),Ey H m (.str "knobs") (some (.ref kn))/\H kn=some (.lst xs)/\xs[k]? = some (.ref T)/\H T=some (.tup [.ref r0,.ref L])/\H r0=some (.tup g.head.v)/\H L=some (.lst lvs)/\Paired (fun (r:R) v=>TupAt H r.v v) (g.LQ.map LK) lvs:=by
 refine byC fun w_=>?_;obtain ⟨kn,TL,gk,hk,lTL,pTL⟩:=M.Rg;refine w_ ?_
 have h1:(gs.map Gp.kn)[k]? = some g.kn:=by rw [ar,hg]; rfl
 refine byC fun w_=>?_;obtain ⟨a,ha,rv,lvs,k1,⟨r0,rfl,hr0⟩,k3,k4⟩:=CQ pTL h1;refine w_ ?_
 exact ⟨kn,_,a.1,r0,a.2,lvs,gk,hk,by rw [ar,ha]; rfl,k1,hr0,k3,k4⟩
noncomputable def eU:Sp:=fun vs H Q _=>∃ (m TT L:Addr) (D n f:Nat) (sz:List Nat) (rk:List (Nat × Int)) (gs:List Gp) (st:List (Nat × Nat)) (ys:List V),vs=[.ref m,.int (D:Nat),.int (n:Nat),.ref TT]/\Em H m sz rk gs/\QB sz rk gs/\H TT=some (.tup [.int (f:Nat),.ref L])/\H L=some (.lst ys)/\Paired (fun (p:Nat × Nat) v=>TupAt H (pV p) v) st ys/\st.length<=400/\n.testBit f=true/\n<2 ^ 1200/\f<1200/\ak (jR (Bb (JD gs) sz) (gs.map Gp.kb) D) f st/\(st=[]->¬ ∃ k,Z_ sz gs D f k)/\∀ H',Ao H H'->Q (.bl true) H'
theorem Qd:Aw ["_law_model_here","_law_knobs","_law_held","_law_trail","_law_key","_law_steps","_law_knob","_law_there","_law_row_here"] ["_law_model_here","_law_knobs","_law_held","_law_trail"] (Af sTy):=Bo
include N T in
theorem gP:Av P w K mg base Bg 2 aD.fTy aD.dTy ["_law_model_here","_law_knobs","_law_held","_law_trail"] eU:=by
 refine N.FTy.1.ok Qd (fun vs H Q E h=>?_) (fun cdv A outer s H vs Q E hr h=>?_)
 ·refine byC fun w_=>?_;obtain ⟨m,TT,L,D,n,f,sz,rk,gs,st,ys,rfl,_⟩:=h;refine w_ ?_
  rfl
 ·refine byC fun w_=>?_;obtain ⟨m,TT,L,D,n,f,sz,rk,gs,st,ys,rfl,M,W,hTT,hL,hst,hlen,hf,hn,hf12,hch,hmu,q⟩:=h;refine w_ ?_
  have hu:=Ei hr
  refine ⟨_,(@Ac _ _ _ _ _ (Ex (pv 3) (Du rfl (Bf (BZ (i:=4) Qd.nd rfl (Or.inl rfl)) (Bf (BZ (i:=5) Qd.nd rfl (Or.inl rfl)) DP))))
   (@Ac _ _ _ _ _ (@Br _ _ _ _ _ _ _ _ (BX Cp (BK G8 (BK HJ (pv 2) (pv 4)) Ae) Ae (Bc _)) (@Ai _ _ _ (@Ay _ _ _ _ GF)) Ba)
   (@Ac _ _ _ _ _ (C_ PassesOwn.never rfl (Bp (pv 5)) (Du rfl (Bf (BZ (i:=6) Qd.nd rfl (Or.inl rfl)) (Bf (BZ (i:=7) Qd.nd rfl (Or.inl rfl)) DP))) (@Ac _ _ _ _ _ (@BW _ _ _ _ _ _ 8 Qd.nd rfl (Or.inl rfl) (@Am _ _ _ _ _ _ _ (Aq (K:=K) rfl) (@Am _ _ _ _ _ _ _ (Bv (K:=K) rfl) (Bk hu (pv 0) BR (fun _ _=>rfl)) (pv 6) (fun _ _=>rfl)) Ae (fun _ _=>rfl)) (by kernel_rfl) (.inl rfl))
   (@Ac _ _ _ _ _ (@Br _ _ _ _ _ _ _ _ (PW.pt (Gg (BX Ib (@Am _ _ _ _ _ _ _ (Aq (K:=K) rfl) (pv 8) Ae (fun _ _=>rfl)) BR (Bc _)) (Gg (BX Cp (BK G8 (BK HJ (pv 1) (pv 6)) Ae) Ae (Bc _)) (Gb (BX Ib (Aj (dI N T) (ad hr) rfl N.FLd.2.2 N.FLd.1.kp N.FLd.2.1 .nil An (@Ax _ _ _ _ _ rfl (pv 0) (@Ax _ _ _ _ _ rfl (pv 8) (@Ax _ _ _ _ _ rfl (pv 4) Ab)))) (pv 7) (Bc _)))))) (@Ai _ _ _ (@Ay _ _ _ _ GF)) Ba)
   (@Ai _ _ _ (@BW _ _ _ _ _ _ 4 Qd.nd rfl (Or.inl rfl) (pv 7) (by kernel_rfl) (.inl rfl))))))
   (@Ai _ _ _ (@Ay _ _ _ _ (Uu (Dt (Jh (K:=K) rfl hr.Mw) (pv 5) (@DW _ _ _ _ Ab) (Bc _)) (Dv (My (Aj (cX N T) (ad hr) rfl N.FMt.2.2 N.FMt.1.kp N.FMt.2.1 .nil An (@Ax _ _ _ _ _ rfl (pv 0) (@Ax _ _ _ _ _ rfl (pv 1) (@Ax _ _ _ _ _ rfl (pv 4) Ab)))))))))))),?_⟩
  have hyl:=hst.length
  have hSL:Cz K H L ys:=.inl (.inl hL)
  refine ⟨_,rfl,TT,_,rfl,kR hTT,rfl,_,_,rfl,_,_,rfl,rfl,?_⟩
  refine ⟨_,rfl,_,rfl,_,_,rfl,rfl,by omega,_,_,rfl,rfl,rfl,_,rfl,?_⟩
  dsimp only
  rw [NP,hf]
  refine Ci ?_
  refine ⟨_,rfl,L,rfl,⟨_,hSL⟩,Eo (K:=K) (a:=L) (xs:=ys) (fun t σ H4=>Ao H H4/\∃ (b:Nat) (v6 v7 v8:Option V),(f::st.map (·.2))[t]? = some b/\σ=[some (.ref m),some (.int (D:Nat)),some (.int (n:Nat)),some (.ref TT),some (.int (b:Nat)),some (.ref L),v6,v7,v8]) ⟨Ao.refl _,f,_,_,_,rfl,rfl⟩ (fun t σ H4 _ h=>h.1.seq hSL) ?_ ?_⟩
  ·rintro t y σ H4 hy ⟨s4,b,v6,v7,v8,hb,rfl⟩
   refine byC fun w_=>?_;obtain ⟨⟨kk,jj⟩,hfm,T1,rfl,hT1⟩:=D_ (Al s4 hst) hy;refine w_ ?_
   refine byC fun w_=>?_;obtain ⟨b',hb',hd,z,hz,hg⟩:=Vz hch hfm;refine w_ ?_
   obtain rfl:b'=b:=by rw [hb] at hb'; exact (Option.some.inj hb').symm
   rw [ar] at hz
   obtain ⟨g,hgk,rfl⟩:=bb.mp hz
   have hw:g.head.w = "coupler":=by rw [← QW]; exact V.str.inj (of_decide_eq_true (Ue hg))
   refine byC fun w_=>?_;obtain ⟨k0,ja,jb,sh,rfl⟩:=iK hw;refine w_ ?_
   refine byC fun w_=>?_;obtain ⟨_,oa,ob,_,_⟩:=W.ok _ (ay hgk);refine w_ ?_
   have M4:=M.mono s4
   have hkl:kk<gs.length:=(ah.mp hgk).1
   have hgl:=W.len
   refine byC fun w_=>?_;obtain ⟨kn,xs,Tk,r0,Ll,lvs,g1,g2,g3,g4,g5,_,_⟩:=O9 M4 hgk;refine w_ ?_
   refine ⟨T1,_,rfl,kR hT1,rfl,_,_,rfl,_,_,rfl,rfl,?_⟩
   refine ⟨_,rfl,m,_,rfl,g1,_,rfl,kn,_,_,_,rfl,rfl,kR g2,Ag g3,Tk,_,_,_,rfl,rfl,kR g4,Ag (j:=0) rfl,?_⟩
   refine ⟨_,rfl,r0,_,_,_,rfl,rfl,kR g5,Ag (j:=0) rfl,rfl,_,rfl,Ci ?_⟩
   refine ⟨_,rfl,_,rfl,_,_,rfl,rfl,by omega,_,_,rfl,rfl,rfl,_,rfl,?_⟩
   dsimp only
   rw [NP,hd]
   refine Ci ?_
   refine ⟨_,rfl,_,rfl,_,rfl,m,r0,b',sz,rk,gs,k0,ja,jb,sh,rfl,M4,W.l3,oa,ob,g5,?_⟩
   have hg':gl (Bb (JD gs) sz) (.cp ja jb sh) b'=some jj:=hg
   rw [hg']
   have eo:oN (some jj)=V.int ((jj:Nat):Int):=rfl
   rw [eo]
   refine ⟨_,rfl,rfl,_,rfl,Bs (fun z=>absurd z (by rw [decide_eq_true rfl]; decide)) (fun _=>?_)⟩
   exact ⟨_,rfl,s4,jj,_,_,_,by rw [List.getElem?_cons_succ,ar,hfm]; rfl,rfl⟩
  ·rintro σ H4 ⟨s4,b,v6,v7,v8,hb,rfl⟩
   refine ⟨_,rfl,Fl (by simp),fun E hE=>?_⟩
   obtain ⟨H5,eqH,tE,uE⟩:=Ft (o:=HO.lst []) hE
   rw [eqH]
   refine ⟨L,E,ys,rfl,rfl,kR (tE _ _ (s4 _ _ hL)),kR uE,_,rfl,?_⟩
   cases hy0:ys with
   | cons a l=>exact q H5 (s4.trans tE)
   | nil =>
    have hst0:st=[]:=ix.mp (by rw [hyl,hy0]; rfl)
    obtain rfl:f=b:=by
     rw [hy0,hst0] at hb
     exact Option.some.inj hb
    refine ⟨_,rfl,_,rfl,_,rfl,m,D,f,sz,rk,gs,rfl,M.mono (s4.trans tE),W,fun r H6 s6 hr=>?_⟩
    have er:r=false:=by
     cases r with
     | false=>rfl
     | true=>exact absurd (hr.mp rfl) (hmu hst0)
    rw [er]
    exact ⟨_,rfl,q H6 ((s4.trans tE).trans s6)⟩
noncomputable def iY:Sp:=fun vs H Q _=>∃ (m W0 TT L:Addr) (D n p f k j key least:Nat) (sz:List Nat) (rk:List (Nat × Int)) (gs:List Gp) (st:List (Nat × Nat)) (ys:List V),vs=[.ref m,.int (D:Nat),.int (n:Nat),.int (p:Nat),.ref W0]/\Em H m sz rk gs/\QB sz rk gs/\H W0=some (.tup [.ref TT,.int (k:Nat),.int (j:Nat)])/\H TT=some (.tup [.int (f:Nat),.ref L])/\H L=some (.lst ys)/\Paired (fun (p:Nat × Nat) v=>TupAt H (pV p) v) st ys/\n<2 ^ 1200/\(∀ i,n.testBit i=true->i<sz.sum)/\jN (Bb (JD gs) sz) (gs.map Gp.kb) D n key f st least/\X7 sz (Eg rk) (gs.map Gp.kb) (gs.map Gp.LQ) D p k j key least/\∀ H',Ao H H'->Q (.bl true) H'
theorem Jj:Aw ["_law_model_here","_law_knobs","_law_held","_law_pipe","_law_why","_law_trail","_law_knob","_law_place","_law_key","_law_row_here","_law_lines","_law_first","_law_keys","_law_start","_law_many","_law_number"] ["_law_model_here","_law_knobs","_law_held","_law_pipe","_law_why"] (Af oO):=Bo
include N T in
theorem fP:Av P w K mg base Bg 3 aD.fWy aD.dWy ["_law_model_here","_law_knobs","_law_held","_law_pipe","_law_why"] iY:=by
 refine N.FWy.1.ok Jj (fun vs H Q E h=>?_) (fun cdv A outer s H vs Q E hr h=>?_)
 ·refine byC fun w_=>?_;obtain ⟨m,W0,TT,L,D,n,p,f,k,j,key,least,sz,rk,gs,st,ys,rfl,_⟩:=h;refine w_ ?_
  rfl
 ·refine byC fun w_=>?_;obtain ⟨m,W0,TT,L,D,n,p,f,k,j,key,least,sz,rk,gs,st,ys,rfl,M,W,hW,hTT,hL,hst,hn,hnt,Uc,shw,q⟩:=h;refine w_ ?_
  have hu:=Ei hr
  refine ⟨_,(@Ac _ _ _ _ _ (@Br _ _ _ _ _ _ _ _ (PW.pt (Gg (DQ (Di (BP Dp rfl T.isin cE (@Ax _ _ _ _ _ rfl (pv 4) (@Ax _ _ _ _ _ rfl (FT (v:=.ty "tuple") rfl T.tuple PyProof.Rows.boot_tuple rfl) Ab))))) (Gg (BX Ib (BP BV rfl T.len bX (@Ax _ _ _ _ _ rfl (pv 4) Ab)) Ae (Bc _)) (Gb (DQ (Di (Aj (gP N T) (ad hr) rfl N.FTy.2.2 N.FTy.1.kp N.FTy.2.1 .nil An (@Ax _ _ _ _ _ rfl (pv 0) (@Ax _ _ _ _ _ rfl (pv 1) (@Ax _ _ _ _ _ rfl (pv 2) (@Ax _ _ _ _ _ rfl (@Am _ _ _ _ _ _ _ (Aq (K:=K) rfl) (pv 4) Ae (fun _ _=>rfl)) Ab))))))))))) (@Ai _ _ _ (@Ay _ _ _ _ GF)) Ba)
   (@Ac _ _ _ _ _ (Ex (pv 4) (Du rfl (Bf (BZ (i:=5) Jj.nd rfl (Or.inl rfl)) (Bf (BZ (i:=6) Jj.nd rfl (Or.inl rfl)) (Bf (BZ (i:=7) Jj.nd rfl (Or.inl rfl)) DP)))))
   (@Ac _ _ _ _ _ (@BW _ _ _ _ _ _ 8 Jj.nd rfl (Or.inl rfl) (@Am _ _ _ _ _ _ _ (Aq (K:=K) rfl) (pv 5) Ae (fun _ _=>rfl)) (by kernel_rfl) (.inl rfl))
   (@Ac _ _ _ _ _ (@Br _ _ _ _ _ _ _ _ (BX (Jh (K:=K) rfl hr.Mw) (@Am _ _ _ _ _ _ _ (Aq (K:=K) rfl) (pv 5) Ae (fun _ _=>rfl)) (@DW _ _ _ _ Ab) (Bc _)) (@Ai _ _ _ (@BW _ _ _ _ _ _ 8 Jj.nd rfl (Or.inl rfl) (@Am _ _ _ _ _ _ _ (Aq (K:=K) rfl) (@Am _ _ _ _ _ _ _ (Bv (K:=K) rfl) (@Am _ _ _ _ _ _ _ (Aq (K:=K) rfl) (pv 5) Ae (fun _ _=>rfl)) (MT Jf Ae) (fun _ _=>rfl)) Ae (fun _ _=>rfl)) (by kernel_rfl) (.inl rfl))) Ba)
   (@Ac _ _ _ _ _ (Ex (@Am _ _ _ _ _ _ _ (Bv (K:=K) rfl) (Bk hu (pv 0) BR (fun _ _=>rfl)) (pv 6) (fun _ _=>rfl)) (Du rfl (Bf (BZ (i:=9) Jj.nd rfl (Or.inl rfl)) (Bf (BZ (i:=10) Jj.nd rfl (Or.inl rfl)) DP))))
   (@Ac _ _ _ _ _ (@Br _ _ _ _ _ _ _ _ (PW.pt (Gg (BX Ib (@Am _ _ _ _ _ _ _ (Aq (K:=K) rfl) (pv 9) Ae (fun _ _=>rfl)) BR (Bc _)) (Gb (BX Cp (BK G8 (BK HJ (pv 1) (pv 6)) Ae) Ae (Bc _))))) (@Ai _ _ _ (@Ay _ _ _ _ GF)) Ba)
   (@Ac _ _ _ _ _ (Ex (Bk hu (Bk hu (pv 0) BR (fun _ _=>rfl)) (@Am _ _ _ _ _ _ _ (Aq (K:=K) rfl) (pv 9) Ae (fun _ _=>rfl)) (fun _ _=>rfl)) (Du rfl (Bf (BZ (i:=11) Jj.nd rfl (Or.inl rfl)) (Bf (BZ (i:=12) Jj.nd rfl (Or.inl rfl)) DP))))
   (@Ac _ _ _ _ _ (Ex (Bk hu (Bk hu (pv 0) BR (fun _ _=>rfl)) (@Am _ _ _ _ _ _ _ (Aq (K:=K) rfl) (@Am _ _ _ _ _ _ _ (Bv (K:=K) rfl) (pv 10) (pv 7) (fun _ _=>rfl)) Ae (fun _ _=>rfl)) (fun _ _=>rfl)) (Du rfl (Bf (BZ (i:=13) Jj.nd rfl (Or.inl rfl)) (Bf (BZ (i:=14) Jj.nd rfl (Or.inl rfl)) DP))))
   (@Ac _ _ _ _ _ (@BW _ _ _ _ _ _ 15 Jj.nd rfl (Or.inl rfl) (BK Dz (pv 8) (pv 11)) (by kernel_rfl) (.inl rfl))
   (@Ac _ _ _ _ _ (@Br _ _ _ _ _ _ _ _ (PW.pt (Gg (DQ (Fg Ff Ff (@Am _ _ _ _ _ _ _ (Aq (K:=K) rfl) (@Am _ _ _ _ _ _ _ (Bv (K:=K) rfl) (pv 10) (pv 7) (fun _ _=>rfl)) Ae (fun _ _=>rfl)) (pv 15) (@Am _ _ _ _ _ _ _ (Aq (K:=K) rfl) (@Am _ _ _ _ _ _ _ (Bv (K:=K) rfl) (pv 10) (pv 7) (fun _ _=>rfl)) Ae (fun _ _=>rfl)))) (Gb (DQ (Fg Ff HD Ae (BK B_ (pv 15) (@Am _ _ _ _ _ _ _ (Aq (K:=K) rfl) (@Am _ _ _ _ _ _ _ (Bv (K:=K) rfl) (pv 10) (pv 7) (fun _ _=>rfl)) Ae (fun _ _=>rfl))) (pv 14)))))) (@Ai _ _ _ (@Ay _ _ _ _ GF)) Ba)
   (@Ai _ _ _ (@Ay _ _ _ _ (Dt Cp (pv 3) (BK B_ (BK B_ (pv 13) (pv 15)) (@Am _ _ _ _ _ _ _ (Aq (K:=K) rfl) (@Am _ _ _ _ _ _ _ (Bv (K:=K) rfl) (pv 10) (pv 7) (fun _ _=>rfl)) Ae (fun _ _=>rfl))) (Bc _)))))))))))))),?_⟩
  refine byC fun w_=>?_;obtain ⟨⟨z,l,ln,i,hz,hzw,hzD,hl,hln,ekey,hib,hlo,hhi,hs0,hs1,hp⟩,hlst⟩:=shw;refine w_ ?_
  refine byC fun w_=>?_;obtain ⟨tr1,tr2,tr3,tr4,tr5,tr6,tr7⟩:=Uc;refine w_ ?_
  have hb:=Js (Q6 W) hz
  obtain ⟨_,hs183⟩:=RG W
  have hf:=hnt f tr1
  have hyl:=hst.length
  have hmu:st=[]->¬ ∃ k,Z_ sz gs D f k:=fun e h=>by
   obtain ⟨b,hb1,hb2⟩:=(Rq W).mp h
   subst e
   have ekf:f=key:=Option.some.inj tr3
   have eb:b=DY (gs.map Gp.kb) k:=K8 hb1 ⟨i,hib,hb,by rw [ekf]; exact ekey⟩
   rw [eb] at hb2
   rcases hlst with ⟨h1,_⟩ | ⟨_,h2⟩
   ·rw [h1] at tr6
    exact absurd tr6 (by show ¬ 1<=0; omega)
   ·exact h2 hb2
  refine ⟨_,rfl,_,"tuple",_,_,rfl,.tup hW,Xw,_,rfl,Ci ?_⟩
  refine ⟨_,rfl,W0,_,rfl,.inr (.inl (.inl hW)),rfl,_,rfl,Ci ?_⟩
  refine ⟨_,rfl,_,rfl,_,rfl,_,rfl,W0,_,_,_,rfl,rfl,kR hW,Ag (j:=0) rfl,m,TT,L,D,n,f,sz,rk,gs,st,ys,rfl,M,W,hTT,hL,hst,by omega,tr1,hn,by omega,tr2,hmu,fun H1 s1=>⟨_,rfl,Ci ?_⟩⟩
  have hTT1:=s1 _ _ hTT
  have hst1:=Al s1 hst
  have hL1:=s1 _ _ hL
  refine ⟨_,rfl,W0,_,rfl,kR (s1 _ _ hW),rfl,_,_,rfl,_,_,rfl,_,_,rfl,rfl,?_⟩
  refine ⟨_,rfl,TT,_,_,_,rfl,rfl,kR hTT1,Ag (j:=0) rfl,?_⟩
  first | dsimp only | skip
  refine gN (i:=8) ?_
  first | dsimp only | skip
  refine Q3 (fun σ' H'=>Ao H1 H'/\σ'=[some (.ref m),some (.int (D:Nat)),some (.int (n:Nat)),some (.int (p:Nat)),some (.ref W0),some (.ref TT),some (.int (k:Nat)),some (.int (j:Nat)),some (.int (key:Nat)),none,none,none,none,none,none,none]) (fun D' rest=>?_) ?_
  ·
   refine ⟨_,rfl,TT,_,_,_,rfl,rfl,kR hTT1,Ag (j:=1) rfl,Fl (by simp),fun E hE=>?_⟩
   obtain ⟨H2,eqH,tE,uE⟩:=Ft (o:=HO.lst []) hE
   rw [eqH]
   have hL2:=tE _ _ hL1
   refine ⟨L,E,ys,rfl,rfl,kR hL2,kR uE,_,rfl,?_⟩
   cases hy0:ys with
   | nil =>
    have hst0:st=[]:=ix.mp (by rw [hyl,hy0]; rfl)
    rw [hst0] at tr3
    have ekf:f=key:=Option.some.inj tr3
    exact Ci (rest _ H2 ⟨tE,by rw [ekf]; rfl⟩)
   | cons a0 l0 =>
    obtain ⟨T9,hT9,hT9'⟩:∃ T9,ys.getLast? = some (.ref T9)/\∃ k9:Nat,H2 T9=some (.tup [.int (k9:Nat),.int (key:Nat)]):=by
     have hlt:ys.length - 1<ys.length:=by rw [hy0]; simp
     have h1:ys[ys.length - 1]? = some (ys[ys.length - 1]'hlt):=ae hlt
     refine byC fun w_=>?_;obtain ⟨⟨k9,j9⟩,h2,T9,h3,h4⟩:=D_ (Al tE hst1) h1;refine w_ ?_
     refine ⟨T9,?_,k9,?_⟩
     ·rw [ii,h1,h3]
     ·have e9:j9=key:=by
       have hne:st ≠ []:=fun e=>by rw [e] at h2; cases h2
       have h5:(f::st.map (·.2)).getLast? = (st.map (·.2)).getLast?:=by
        cases st with
        | nil=>exact absurd rfl hne
        | cons a b=>rfl
       rw [h5,ii,ai,hyl,ar,h2] at tr3
       exact Option.some.inj tr3
      rw [← e9]
      exact h4
    obtain ⟨k9,hk9⟩:=hT9'
    rw [hy0] at hL2 hT9
    refine Ef ⟨_,rfl,TT,_,_,_,rfl,rfl,kR (tE _ _ hTT1),Ag (j:=1) rfl,_,rfl,L,_,_,_,rfl,rfl,kR hL2,VN hT9,T9,_,_,_,rfl,rfl,kR hk9,Ag (j:=1) rfl,?_⟩
    exact rest _ H2 ⟨tE,rfl⟩
  rintro σ H2 ⟨s2,rfl⟩
  have s02:=s1.trans s2
  have M2:=M.mono s02
  rw [ar] at hz
  obtain ⟨g,hgk,rfl⟩:=bb.mp hz
  obtain ⟨k0,b0,ls0,rfl⟩:=iT (by rw [← QW]; exact hzw)
  have eb0:DY (gs.map Gp.kb) k=b0:=by unfold DY; rw [List.getElem?_map,hgk]; rfl
  rw [eb0] at hb hib ekey
  have el:l=ls0:=by rw [ar,hgk] at hl; exact (Option.some.inj hl).symm
  subst el
  have hrl:ln.r<rk.length:=by
   obtain ⟨_,_,_,o4⟩:=W.ok _ (ay hgk)
   exact (o4 ln (ay hln)).1
  have hgl:=W.len
  have hkl:k<gs.length:=(ah.mp hgk).1
  refine byC fun w_=>?_;obtain ⟨kn,xs,Tk,r0,Ll,lvs,g1,g2,g3,g4,g5,g6,g7⟩:=O9 M2 hgk;refine w_ ?_
  have hln':(l.map LK)[j]? = some (LK ln):=by rw [ar,hln]; rfl
  refine byC fun w_=>?_;obtain ⟨y9,hy9,Tn,rfl,hTn⟩:=CQ g7 hln';refine w_ ?_
  have IL:∀ {v:V} {jj:Nat},(LK ln).v[jj]? = some v->True:=fun _=>trivial
  refine ⟨_,rfl,m,_,rfl,g1,_,rfl,kn,_,_,_,rfl,rfl,kR g2,Ag g3,Tk,_,rfl,kR g4,rfl,_,_,rfl,_,_,rfl,rfl,?_⟩
  dsimp only [List.set_cons_succ,List.set_cons_zero]
  refine ⟨_,rfl,r0,_,_,_,rfl,rfl,kR g5,Ag (j:=0) rfl,rfl,_,rfl,Ci ?_⟩
  refine ⟨_,rfl,_,rfl,_,_,rfl,rfl,by omega,_,_,rfl,rfl,rfl,_,rfl,?_⟩
  dsimp only
  rw [NP,hzD]
  refine Ci ?_
  refine byC fun w_=>?_;obtain ⟨db,T1,d1,d2,hT1⟩:=M2.HR W.l3 hb;refine w_ ?_
  refine ⟨_,rfl,m,_,rfl,d1,_,rfl,r0,_,_,_,rfl,rfl,kR g5,Ag (j:=2) rfl,db,_,rfl,d2,T1,_,rfl,kR hT1,rfl,_,_,rfl,_,_,rfl,rfl,?_⟩
  dsimp only [List.set_cons_succ,List.set_cons_zero]
  refine byC fun w_=>?_;obtain ⟨dr,T2,e1,e2,hT2⟩:=M2.rank W.r3 hrl;refine w_ ?_
  have z1:(((Eg rk).take ln.r).map (fun r=>r.2.1)).sum=Qw (Eg rk) ln.r:=rfl
  have z2:((Eg rk).map (fun r=>r.2.1)).getD ln.r 0=J7 (Eg rk) ln.r:=rfl
  rw [z1,z2] at hT2
  refine ⟨_,rfl,m,_,rfl,e1,_,rfl,_,rfl,Ll,_,_,_,rfl,rfl,kR g6,Ag hy9,Tn,_,_,_,rfl,rfl,kR hTn,Ag (j:=1) rfl,dr,_,rfl,e2,T2,_,rfl,kR hT2,rfl,_,_,rfl,_,_,rfl,rfl,?_⟩
  refine ⟨_,rfl,_,rfl,_,_,rfl,rfl,?_⟩
  have en:((key:Nat):Int) - (((sz.take b0).sum:Nat):Int)=(i:Int):=by omega
  dsimp only [List.set_cons_succ,List.set_cons_zero]
  rw [en]
  refine ⟨_,rfl,_,rfl,Ll,_,_,_,rfl,rfl,kR g6,Ag hy9,Tn,_,_,_,rfl,rfl,kR hTn,Ag (j:=3) rfl,_,rfl,_,_,rfl,rfl,_,rfl,Bs (fun _=>?_) (fun z=>absurd (decide_eq_true hlo) z)⟩
  refine ⟨_,rfl,_,rfl,Ll,_,_,_,rfl,rfl,kR g6,Ag hy9,Tn,_,_,_,rfl,rfl,kR hTn,Ag (j:=4) rfl,_,_,rfl,rfl,_,rfl,Bs (fun z=>absurd z (by rw [decide_eq_true hhi]; decide)) (fun _=>?_)⟩
  refine ⟨_,rfl,_,rfl,_,rfl,Ll,_,_,_,rfl,rfl,kR g6,Ag hy9,Tn,_,_,_,rfl,rfl,kR hTn,Ag (j:=2) rfl,_,_,rfl,rfl,_,_,rfl,rfl,_,rfl,Bs (fun _=>?_) (fun z=>absurd (decide_eq_true hs0) z)⟩
  refine ⟨_,rfl,_,_,rfl,rfl,_,rfl,Bs (fun z=>absurd z (by rw [decide_eq_true hs1]; decide)) (fun _=>?_)⟩
  refine ⟨_,rfl,_,rfl,_,rfl,_,_,rfl,rfl,_,rfl,_,rfl,Ll,_,_,_,rfl,rfl,kR g6,Ag hy9,Tn,_,_,_,rfl,rfl,kR hTn,Ag (j:=2) rfl,_,_,rfl,rfl,rfl,?_⟩
  have ep:(p:Int)=((Qw (Eg rk) ln.r:Nat):Int)+(i:Int)+ln.sh:=by omega
  dsimp only
  rw [decide_eq_true (congrArg V.int ep)]
  exact q H2 s02
open Bw
noncomputable def Yc (sz:List Nat) (rk:List (Nat × Int)) (gs:List Gp) (D n r:Nat):Prop:=∀ p,r.testBit p=true ↔ ∃ m q,(∀ j,m.testBit j=true ↔ HS (JD gs) sz (gs.map Gp.kb) D n j)/\Mj sz (Eg rk) (gs.map Gp.kb) (gs.map Gp.LQ) D m p q
theorem Yj {rk:List (Nat × Int)} (l3:rk.length<=3) (z:∀ x∈rk,1<=x.1/\x.1<=97/\0<=x.2/\x.2<=1000000000):Tj (Eg rk)<=291:=by
 have l2:(Eg rk).length=rk.length:=by unfold Eg; rw [List.length_map,List.length_zipIdx]
 have key:∀ l:List Nat,(∀ x∈l,x<=97)->l.sum<=97 * l.length:=by
  intro l
  induction l with
  | nil=>intro _; simp
  | cons a l ih =>
   intro hz
   have:=hz a (by simp)
   have:=ih fun x hx=>hz x (by simp [hx])
   rw [hU,bv]
   omega
 have:=key ((Eg rk).map (fun r=>r.2.1)) fun x hx=>by
  obtain ⟨y,hy,rfl⟩:=aI.mp hx
  obtain ⟨p,hp,rfl⟩:=aI.mp hy
  have:=List.mem_zipIdx hp
  simp at this
  exact (z _ (by rw [this.2]; exact ee _)).2.1
 rw [ai,l2] at this
 unfold Tj
 omega
noncomputable def dZ (C:Addr):Sp:=fun vs H Q _=>∃ (x m:Addr) (D n r:Nat) (c0:Int) (sz:List Nat) (rk:List (Nat × Int)) (gs:List Gp),vs=[.ref x,.ref m,.int (D:Nat),.int (n:Nat),.int (r:Nat),.int c0]/\nU C H x sz rk gs/\Em H m sz rk gs/\KZ H m rk/\QB sz rk gs/\n<2 ^ 1200/\(∀ i,n.testBit i=true->i<sz.sum)/\Yc sz rk gs D n r/\∀ H',Ao H H'->Q (.bl true) H'
theorem Ie {X:Cx} {K:W.Frag} (h:X.K=K):GR X (.builtin "len") (fun xs H Q=>∃ p ys,xs=[V.ref p]/\(Cz K H p ys \/ JF K H p ys)/\Q (V.int ((ys.length:Nat):Int)) H):=h ▸ BV
theorem Wj:Aw ["_law_organ_here","_law_model_here","_law_knobs","_law_held","_law_pipes","_law_cell","_law_there","_law_gone","_law_pipe"] ["_law_organ_here","_law_model_here","_law_knobs","_law_held","_law_pipes","_law_cell"] (Af d7):=Bo
include N T in
theorem gn:Av P w K mg base Bg 9 aD.fWq aD.dWq ["_law_organ_here","_law_model_here","_law_knobs","_law_held","_law_pipes","_law_cell"] (dZ C):=by
 refine N.FWq.1.ok Wj (fun vs H Q E h=>?_) (fun cdv A outer s H vs Q E hr h=>?_)
 ·refine byC fun w_=>?_;obtain ⟨x,m,D,n,r,c0,sz,rk,gs,rfl,_⟩:=h;refine w_ ?_
  rfl
 ·refine byC fun w_=>?_;obtain ⟨x,m,D,n,r,c0,sz,rk,gs,rfl,O,M,PA,W,hn,hnt,sn,q⟩:=h;refine w_ ?_
  have hu:=Ei hr
  refine ⟨_,(@Ac _ _ _ _ _ (Hw (i:=6) Wj.nd rfl rfl rfl (Be (osc:=Af d7) (N:=["_law_organ_here","_law_model_here","_law_knobs","_law_held","_law_pipes","_law_cell","_law_there","_law_gone","_law_pipe"]) rfl rfl (by decide +kernel)) (CP rfl T.range (@Ax _ _ _ _ _ rfl (Bk hu (pv 1) BR (fun _ _=>rfl)) Ab)) (fun _ _ _ _=>(G3 (BX Cp (BK G8 (BK HJ (pv 5) (pv 0)) Ae) Ae (Bc _)))) (fun _ _ _ _=>(pv 0)))
   (@Ac _ _ _ _ _ (Hw (i:=7) Wj.nd rfl rfl rfl (Be (osc:=Af d7) (N:=["_law_organ_here","_law_model_here","_law_knobs","_law_held","_law_pipes","_law_cell","_law_there","_law_gone","_law_pipe"]) rfl rfl (by decide +kernel)) (CP rfl T.range (@Ax _ _ _ _ _ rfl (Bk hu (pv 1) BR (fun _ _=>rfl)) Ab)) (fun _ _ _ _=>(G3 (BX Cp (BK G8 (BK HJ (pv 5) (pv 0)) Ae) Ae (Bc _)))) (fun _ _ _ _=>(pv 0)))
   (@Ac _ _ _ _ _ (@Br _ _ _ _ _ _ _ _ (BX (Jh (K:=K) rfl hr.Mw) (pv 6) (@DW _ _ _ _ Ab) (Bc _)) (@Ac _ _ _ _ _ (@BW _ _ _ _ _ _ 8 Wj.nd rfl (Or.inl rfl) (@Am _ _ _ _ _ _ _ (Bv (K:=K) rfl) (pv 6) (BK El (pv 5) (BP (Ie (K:=K) rfl) rfl T.len bX (@Ax _ _ _ _ _ rfl (pv 6) Ab))) (fun _ _=>rfl)) (by kernel_rfl) (.inl rfl))
   (@Ai _ _ _ (@Br _ _ _ _ _ _ _ _ (DQ (Di (Aj (fP N T) (ad hr) rfl N.FWy.2.2 N.FWy.1.kp N.FWy.2.1 .nil An (@Ax _ _ _ _ _ rfl (pv 1) (@Ax _ _ _ _ _ rfl (pv 2) (@Ax _ _ _ _ _ rfl (pv 3) (@Ax _ _ _ _ _ rfl (pv 8) (@Ax _ _ _ _ _ rfl (Aj (fW N T) (ad hr) rfl N.FWs.2.2 N.FWs.1.kp N.FWs.2.1 .nil An (@Ax _ _ _ _ _ rfl (pv 0) (@Ax _ _ _ _ _ rfl (pv 2) (@Ax _ _ _ _ _ rfl (pv 3) (@Ax _ _ _ _ _ rfl (pv 8) Ab))))) Ab)))))))) (@Ai _ _ _ (@Ay _ _ _ _ GF)) Ba))) Ba)
   (@Ai _ _ _ (@Ay _ _ _ _ (Uu (Dt (P_ (K:=K) rfl hr.Mw) (pv 7) (@DW _ _ _ _ Ab) (Bc _)) (Dv (Dt Zi (Aj (fW N T) (ad hr) rfl N.FWs.2.2 N.FWs.1.kp N.FWs.2.1 .nil An (@Ax _ _ _ _ _ rfl (pv 0) (@Ax _ _ _ _ _ rfl (pv 2) (@Ax _ _ _ _ _ rfl (pv 3) (@Ax _ _ _ _ _ rfl (@Am _ _ _ _ _ _ _ (Bv (K:=K) rfl) (pv 7) (BK El (pv 5) (BP (Ie (K:=K) rfl) rfl T.len bX (@Ax _ _ _ _ _ rfl (pv 7) Ab))) (fun _ _=>rfl)) Ab))))) HY (Bc _))))))))),?_⟩
  have hto:=Yj W.r3 W.r
  have hkb:=Q6 W
  have hls:=q_ W
  have snT:∀ p mm,r.testBit p=true->(∀ j,mm.testBit j=true ↔ HS (JD gs) sz (gs.map Gp.kb) D n j)->∃ q,Mj sz (Eg rk) (gs.map Gp.kb) (gs.map Gp.LQ) D mm p q:=fun p mm h hm=>by
   obtain ⟨m',q,h1,h2⟩:=(sn p).mp h
   have e:m'=mm:=Jb fun j=>by rw [h1,hm]
   rw [← e]
   exact ⟨q,h2⟩
  refine ⟨_,rfl,m,_,rfl,PA.get,_,rfl,by omega,by omega,?_⟩
  rw [aT]
  refine G9 (lo:=0) (n:=Tj (Eg rk)) (fun i=>r.testBit i.toNat) (fun i=>.int i) (BJ (by omega)) (fun i hi H' hs R k=>?_) (fun i hi _ H' hs R k=>⟨_,rfl,k H' (Ao.refl H')⟩) (fun A H1 hA s1 hl1=>?_)
  ·have et:((0:Int)+(i:Int))=((i:Nat):Int):=by omega
   rw [et] at k ⊢
   have kk:=k H' (Ao.refl H')
   rw [aT] at kk
   refine ⟨_,rfl,_,rfl,_,_,rfl,rfl,by omega,_,_,rfl,rfl,rfl,_,rfl,?_⟩
   dsimp only
   rw [Nm]
   exact kk
  obtain ⟨xs,hxs,hxm⟩:∃ xs:List V,H1 A=some (.lst xs)/\∀ x∈xs,∃ p:Nat,x=.int (p:Nat)/\r.testBit p=true:=⟨_,hl1,fun x hx=>by
   obtain ⟨z,hz,rfl⟩:=aI.mp hx
   obtain ⟨hz1,hz2⟩:=cq.mp hz
   obtain ⟨i,_,rfl⟩:=aI.mp hz1
   have et:((0:Int)+(i:Int))=((i:Nat):Int):=by omega
   rw [et] at hz2 ⊢
   rw [aT] at hz2
   exact ⟨i,rfl,hz2⟩⟩
  clear hl1
  refine ⟨_,rfl,m,_,rfl,(PA.mono s1).get,_,rfl,by omega,by omega,?_⟩
  rw [aT]
  refine G9 (lo:=0) (n:=Tj (Eg rk)) (fun i=>!(r.testBit i.toNat)) (fun i=>.int i) (BJ (by omega)) (fun i hi H' hs R k=>?_) (fun i hi _ H' hs R k=>⟨_,rfl,k H' (Ao.refl H')⟩) (fun B H2 hB s2 hl2=>?_)
  ·have et:((0:Int)+(i:Int))=((i:Nat):Int):=by omega
   rw [et] at k ⊢
   have kk:=k H' (Ao.refl H')
   rw [aT] at kk
   refine ⟨_,rfl,_,rfl,_,_,rfl,rfl,by omega,_,_,rfl,rfl,rfl,_,rfl,?_⟩
   dsimp only
   rw [NP]
   exact kk
  obtain ⟨zs,hzs,hzm⟩:∃ xs:List V,H2 B=some (.lst xs)/\∀ x∈xs,∃ p:Nat,x=.int (p:Nat)/\r.testBit p=false:=⟨_,hl2,fun x hx=>by
   obtain ⟨z,hz,rfl⟩:=aI.mp hx
   obtain ⟨hz1,hz2⟩:=cq.mp hz
   obtain ⟨i,_,rfl⟩:=aI.mp hz1
   have et:((0:Int)+(i:Int))=((i:Nat):Int):=by omega
   rw [et] at hz2 ⊢
   rw [aT] at hz2
   exact ⟨i,rfl,by simpa using hz2⟩⟩
  clear hl2
  have s02:=s1.trans s2
  have hA2:=s2 _ _ hxs
  have pick:∀ {l:List V},l ≠ []->(0:Int)<((l.length:Nat):Int)/\∃ v∈l,Lb l (c0 % ((l.length:Nat):Int))=some v:=fun {l} hl=>by
   have h0:0<l.length:=List.length_pos_iff.mpr hl
   have h1:(0:Int)<((l.length:Nat):Int):=by omega
   have h2:=fI c0 (Int.ne_of_gt h1)
   have h3:=fm c0 h1
   obtain ⟨t,et⟩:=iA h2
   have ht:t<l.length:=by omega
   exact ⟨h1,l[t],ee _,by rw [et]; exact Ag (ae ht)⟩
  refine gN (i:=7) ?_
  dsimp only
  refine Q3 (fun σ' H'=>Ao H2 H'/\∃ v8,σ'=[some (.ref x),some (.ref m),some (.int (D:Nat)),some (.int (n:Nat)),some (.int (r:Nat)),some (.int c0),some (.ref A),some (.ref B),v8]) (fun D' rest=>?_) ?_
  ·
   refine ⟨_,rfl,Fl (by simp),fun E hE=>?_⟩
   obtain ⟨H3,eqH,tE,uE⟩:=Ft (o:=HO.lst []) hE
   rw [eqH]
   have hA3:=tE _ _ hA2
   refine ⟨A,E,xs,rfl,rfl,kR hA3,kR uE,_,rfl,?_⟩
   by_cases hx0:xs=[]
   ·rw [hx0]
    exact Ci (rest _ H3 ⟨tE,_,rfl⟩)
   ·have he:(!xs.isEmpty)=true:=by cases xs with | nil=>exact absurd rfl hx0 | cons a l=>rfl
    rw [he]
    obtain ⟨h1,v,hv,hat⟩:=pick hx0
    obtain ⟨p,rfl,hp⟩:=hxm v hv
    have s03:=s02.trans tE
    refine Ef ⟨_,rfl,_,rfl,_,rfl,A,_,rfl,kR (.inl hA3),_,_,rfl,rfl,h1,A,_,_,_,rfl,rfl,kR hA3,hat,?_⟩
    refine ⟨_,rfl,_,rfl,_,rfl,_,rfl,_,rfl,_,rfl,_,rfl,_,rfl,x,JD gs,sz,Eg rk,gs.map Gp.kb,gs.map Gp.LQ,D,n,p,rfl,O.mono s03,hkb,hls,hn,hnt,(fun W0 TT L f k j key least mm st ys H5 _ s5 hW hTT hL hpr Uc shw hm lead=>?_),(fun mm H5 s5 hm hno=>?_)⟩
    ·refine ⟨m,W0,TT,L,D,n,p,f,k,j,key,least,sz,rk,gs,st,ys,rfl,M.mono (s03.trans s5),W,hW,hTT,hL,hpr,hn,hnt,Uc,shw,fun H6 s6=>⟨_,rfl,Ci ?_⟩⟩
     exact rest _ H6 ⟨tE.trans (s5.trans s6),_,rfl⟩
    ·obtain ⟨q',hq'⟩:=snT p mm hp hm
     exact absurd hq' (hno q')
  rintro σ H3 ⟨s3,v8,rfl⟩
  have s03:=s02.trans s3
  refine ⟨_,rfl,Fl (by simp),fun E hE=>?_⟩
  obtain ⟨H4,eqH,tE,uE⟩:=Ft (o:=HO.lst []) hE
  rw [eqH]
  have hB4:=tE _ _ (s3 _ _ hzs)
  have s04:=s03.trans tE
  refine ⟨B,E,zs,rfl,rfl,kR hB4,kR uE,_,rfl,?_⟩
  by_cases hx0:zs=[]
  ·rw [hx0]
   exact q H4 s04
  ·have he:zs.isEmpty=false:=by cases zs with | nil=>exact absurd rfl hx0 | cons a l=>rfl
   rw [he]
   obtain ⟨h1,v,hv,hat⟩:=pick hx0
   obtain ⟨p,rfl,hp⟩:=hzm v hv
   refine Ci ⟨_,rfl,_,rfl,_,rfl,_,rfl,_,rfl,_,rfl,B,_,rfl,kR (.inl hB4),_,_,rfl,rfl,h1,B,_,_,_,rfl,rfl,kR hB4,hat,x,JD gs,sz,Eg rk,gs.map Gp.kb,gs.map Gp.LQ,D,n,p,rfl,O.mono s04,hkb,hls,hn,hnt,(fun W0 TT L f k j key least mm st ys H5 _ s5 hW hTT hL hpr Uc shw hm lead=>?_),(fun mm H5 s5 hm hno=>?_)⟩
   ·exfalso
    have:=(sn p).mpr ⟨mm,_,hm,lead⟩
    rw [hp] at this
    cases this
   ·exact ⟨rfl,q H5 (s04.trans s5)⟩
open Bw
noncomputable def Ou (K:W.Frag):Sp:=fun vs H Q _=>∃ (a:Addr) (ns:List Int),vs=[.ref a]/\Cz K H a (ns.map V.int)/\ns.length<=63/\∀ H',Q (.bl true) H'
theorem XD {sz:List Nat} {rk:List (Str × Nat × Int)} {kbs:List Kb} {ls:List (List Ln)} {cl:List Nat} {D m p:Nat} (hcl:∀ k,k∈cl ↔ ∃ z,kbs[k]? = some z/\z.w = "stop" /\ D.testBit k=true):(Xr sz rk kbs ls cl m).testBit p=true ↔ ∃ q,Mj sz rk kbs ls D m p q:=by
 rw [QH]
 constructor
 ·rintro ⟨k,hk,hb⟩
  obtain ⟨z,hz,hw,hd⟩:=(hcl k).mp hk
  unfold V7 at hb
  obtain ⟨n,hn,hbn⟩:=(JM _ _).mp hb
  obtain ⟨ln,hln,rfl⟩:=aI.mp hn
  obtain ⟨j,hj⟩:=jp.mp hln
  exact ⟨(k,j),z,ln,hz,hw,hd,hj,hbn⟩
 ·rintro ⟨⟨k,j⟩,z,ln,hz,hw,hd,hj,hbn⟩
  refine ⟨k,(hcl k).mpr ⟨z,hz,hw,hd⟩,?_⟩
  unfold V7
  exact (JM _ _).mpr ⟨_,cr (ay hj),hbn⟩
theorem qZ {x:Int} {n:Nat}:∃ m:Nat,x % ((1:Int) * 2 ^ ((n:Nat):Int).toNat)=(m:Int)/\m<2 ^ n:=by
 have e:(1:Int) * 2 ^ ((n:Nat):Int).toNat=((2 ^ n:Nat):Int):=by rw [io,aT]; push_cast; rfl
 have h:(0:Int)<((2 ^ n:Nat):Int):=by have:=Nat.two_pow_pos n; omega
 rw [e]
 have h1:=fI x (Int.ne_of_gt h)
 have h2:=fm x h
 exact ⟨(x % ((2 ^ n:Nat):Int)).toNat,by omega,by omega⟩
theorem Qo {H H':Hp} {dh pc l:Addr} {n:Nat} {vs:List V} (D:DH H dh pc n) (f:CV H H' dh pc) (hl:H l=some (.lst vs)) (hr:∀ v∈vs,∃ T,v=.ref T):H' l=some (.lst vs):=by
 refine byC fun w_=>?_;obtain ⟨cs,m,r,e1,e2,ne,_,_,_,_,_,h1,_⟩:=D;refine w_ ?_
 refine f _ _ (fun e=>?_) (fun e=>?_) hl
 ·rw [e,e1] at hl
  cases hl
  obtain ⟨T,hT⟩:=hr (.int m) (by simp)
  cases hT
 ·rw [e,e2] at hl
  cases hl
  cases cs with
  | nil=>exact absurd h1 (by simp)
  | cons a l =>
   obtain ⟨T,hT⟩:=hr (.int a) (by simp)
   cases hT
theorem Jt {H H':Hp} {dh pc l:Addr} {n:Nat} {o:HO} (D:DH H dh pc n) (f:CV H H' dh pc) (hl:H l=some o) (hn:∀ z,o ≠ .lst z):H' l=some o:=by
 refine byC fun w_=>?_;obtain ⟨cs,m,r,e1,e2,_⟩:=D;refine w_ ?_
 exact f _ _ (fun e=>by rw [e,e1] at hl; cases hl; exact hn _ rfl) (fun e=>by rw [e,e2] at hl; cases hl; exact hn _ rfl) hl
theorem Zu {H H':Hp} {dh pc:Addr} {n:Nat} {zs:List V} {y:V} (D:DH H dh pc n) (f:CV H H' dh pc) (h:TupAt H zs y):TupAt H' zs y:=by
 obtain ⟨T,rfl,hT⟩:=h
 exact ⟨T,rfl,Jt D f hT (by simp)⟩
theorem Jv {α:Type} {F:α->List V} {H H':Hp} {dh pc l:Addr} {n:Nat} {xs:List α} {vs:List V} (D:DH H dh pc n) (f:CV H H' dh pc) (hl:H l=some (.lst vs)) (h:Paired (fun a y=>TupAt H (F a) y) xs vs):H' l=some (.lst vs)/\Paired (fun a y=>TupAt H' (F a) y) xs vs :=
 ⟨Qo D f hl (fun v hv=>by obtain ⟨a,_,T,e,_⟩:=Cg h hv; exact ⟨T,e⟩),Paired.Fj h fun _ _ z=>Zu D f z⟩
theorem Zg {C:Addr} {H H':Hp} {dh pc x:Addr} {n:Nat} {bs:List (Str × Nat)} {rk:List (Str × Nat × Int)} {ks:List R} {ls:List (List Ln)} (D:DH H dh pc n) (f:CV H H' dh pc) (O:CN C H x bs rk ks ls):CN C H' x bs rk ks ls:=by
 refine byC fun w_=>?_;obtain ⟨⟨⟨dx,fs,bl,bn,kp,kr,bvs,pvs,uvs,kvs,h1,l1,l2,l3,l4,lm,h2,h3,h4,h5,h6,h7,h8,h9⟩,a1,a2,a3⟩,⟨dx',fs',rl,rn,pp,kl,rvs,pvs',kvs',g1,m1,m2,m3,m4,g2,g3,g4,g5,g6,g7,lv,g8,g9⟩,b1,b2,b3⟩:=O;refine w_ ?_
 obtain ⟨p1,p2⟩:=Jv D f h2 h3
 obtain ⟨p3,p4⟩:=Jv D f h6 h7
 obtain ⟨p5,p6⟩:=Jv D f h8 h9
 obtain ⟨q1,q2⟩:=Jv D f g2 g3
 obtain ⟨q3,q4⟩:=Jv D f g6 g7
 refine ⟨⟨⟨dx,fs,bl,bn,kp,kr,bvs,pvs,uvs,kvs,Jt D f h1 (by simp),l1,l2,l3,l4,lm,p1,p2,Jt D f h4 (by simp),h5,p3,p4,p5,p6⟩,a1,a2,a3⟩,⟨dx',fs',rl,rn,pp,kl,rvs,pvs',kvs',Jt D f g1 (by simp),m1,m2,m3,m4,q1,q2,Jt D f g4 (by simp),g5,q3,q4,lv,?_,?_⟩,b1,b2,b3⟩
 ·refine Qo D f g8 fun v hv=>?_
  refine byC fun w_=>?_;obtain ⟨a,_,A,ts,e,_⟩:=Cg g9 hv;refine w_ ?_
  exact ⟨A,e⟩
 ·refine Paired.Fj g9 fun l v h=>?_
  refine byC fun w_=>?_;obtain ⟨A,ts,e,k1,k2⟩:=h;refine w_ ?_
  obtain ⟨r1,r2⟩:=Jv D f k1 k2
  exact ⟨A,ts,e,r1,r2⟩
theorem KZ.fr {H H':Hp} {dh pc m:Addr} {n:Nat} {rk:List (Nat × Int)} (D:DH H dh pc n) (f:CV H H' dh pc) (h:KZ H m rk):KZ H' m rk:=by
 obtain ⟨kvs,h1,h2⟩:=h
 exact ⟨kvs,Jt D f h1 (by simp),h2⟩
theorem Vg {c:Nat->Str} {sz:List Nat} {kbs:List Kb} {D n j:Nat}:HS c sz kbs D n j ↔ ∃ i,n.testBit i=true/\qt c sz kbs D i j:=by
 constructor
 ·rintro (h | ⟨h1,h2⟩)
  ·have key:∃ i,n.testBit i=true/\JB (stp (Bb c sz) kbs D) (fun a=>a=i) j:=by
    induction h with
    | one a b=>exact ⟨_,a,.one rfl b⟩
    | more _ b ih =>
     obtain ⟨i,h1,h2⟩:=ih
     exact ⟨i,h1,.more h2 b⟩
   obtain ⟨i,h1,h2⟩:=key
   exact ⟨i,h1,.inl h2⟩
  ·exact ⟨j,h1,.inr ⟨rfl,h2⟩⟩
 ·rintro ⟨i,h1,h | ⟨rfl,h2⟩⟩
  ·exact .inl (h.mono (fun _ _ z=>z) fun a e=>by rw [e]; exact h1)
  ·exact .inr ⟨h1,h2⟩
theorem Mh (rw':List Nat) (n p:Nat):(Np rw' n).testBit p=true ↔ ∃ i,i<rw'.length/\n.testBit i=true/\(rw'.getD i 0).testBit p=true:=by
 unfold Np
 rw [JM]
 constructor
 ·rintro ⟨r,hr,hp⟩
  obtain ⟨i,hi,rfl⟩:=aI.mp hr
  obtain ⟨h1,h2⟩:=cq.mp hi
  exact ⟨i,fE.mp h1,h2,hp⟩
 ·rintro ⟨i,h1,h2,hp⟩
  exact ⟨_,cr (cq.mpr ⟨fE.mpr h1,h2⟩),hp⟩
theorem ZJ {c:Nat->Str} {sz:List Nat} {rk:List (Str × Nat × Int)} {kbs:List Kb} {ls:List (List Ln)} {D n m:Nat} {l cl:List Nat} (hls:Wg rk ls) (lr:l.length=sz.sum) (hrow:∀ i,i<sz.sum->Oz c sz rk kbs ls D i (l.getD i 0)) (hnt:∀ i,n.testBit i=true->i<sz.sum) (hcl:∀ k,k∈cl ↔ ∃ z,kbs[k]? = some z/\z.w = "stop" /\ D.testBit k=true) (hm:∀ j,m.testBit j=true ↔ HS c sz kbs D n j):Xr sz rk kbs ls cl m=Np l n:=Jb fun p=>by
 have hg:∀ k,∀ ln∈ls.getD k [],Zc rk ln:=fun k ln hl=>by
  rw [ax] at hl
  cases e:ls[k]? with
  | none=>rw [e] at hl; cases hl
  | some l =>
   rw [e] at hl
   exact (hls l (ay e)).2 ln hl
 rw [QH,Mh]
 constructor
 ·rintro ⟨k,hk,hb⟩
  obtain ⟨z,hz,hw,hd⟩:=(hcl k).mp hk
  refine byC fun w_=>?_;obtain ⟨ln,hl,t,h1,h2,h3⟩:=(Mg (hg k)).mp hb;refine w_ ?_
  obtain ⟨i,hi,hs⟩:=Vg.mp ((hm _).mp h2)
  have hi':=hnt i hi
  exact ⟨i,by omega,hi,(Qq hls (hrow i hi') p).mpr ⟨k,z,hz,hw,hd,_,hs,ln,hl,t,h1,rfl,h3⟩⟩
 ·rintro ⟨i,h1,h2,h3⟩
  refine byC fun hng=>?_
  obtain ⟨k,z,hz,hw,hd,j,hj,ln,hl,t,k1,rfl,k3⟩:=(Qq hls (hrow i (by omega)) p).mp h3
  refine hng ?_
  exact ⟨k,(hcl k).mpr ⟨z,hz,hw,hd⟩,(Mg (hg k)).mpr ⟨ln,hl,t,k1,(hm _).mpr (Vg.mpr ⟨i,h2,hj⟩),k3⟩⟩
theorem U9 {l:List Nat} {n n':Nat} (h:∀ i,n'.testBit i=true->n.testBit i=true):Np l n' ||| Np l n=Np l n:=Jb fun p=>by
 rw [iL,ko,Mh,Mh]
 refine ⟨fun z=>z.elim (fun ⟨i,h1,h2,h3⟩=>⟨i,h1,h i h2,h3⟩) id,.inr⟩
theorem Fq:Aw ["_law_script","_law_drawn_here","_law_rows","_law_model_here","_law_organ_here","_law_knobs","_law_relays","_law_last","_law_cell","_law_pick","_law_held","_law_pipes","_law_less"] ["_law_script"] (Af Nv):=Bo
theorem ZS {f:Addr} {fd:FuncData} (F:DK K "law" "law" Nv f fd) (N:qF K mg C Cy aD) (T:Txt K w.params mg C Cy aN aK aB aP aM) (F0:PP K aB aP aM):Av P w K mg base Bg 11 f fd ["_law_script"] (Ou K):=by
 refine F.ok Fq (fun vs H Q E h=>?_) (fun cdv A outer s H vs Q E hr h=>?_)
 ·refine byC fun w_=>?_;obtain ⟨a,ns,rfl,_⟩:=h;refine w_ ?_
  rfl
 ·refine byC fun w_=>?_;obtain ⟨a,ns,rfl,hS,hlen,q⟩:=h;refine w_ ?_
  have hu:=Ei hr
  refine ⟨_,(@Ac _ _ _ _ _ (@BW _ _ _ _ _ _ 1 Fq.nd rfl (Or.inl rfl) (Aj (iW N T) (ad hr) rfl N.FDn.2.2 N.FDn.1.kp N.FDn.2.1 .nil An (@Ax _ _ _ _ _ rfl (pv 0) (@Ax _ _ _ _ _ rfl Ae Ab))) (by kernel_rfl) (.inl rfl))
   (@Ac _ _ _ _ _ (@BW _ _ _ _ _ _ 2 Fq.nd rfl (Or.inl rfl) (Aj (jL N T) (ad hr) rfl N.FLg.2.2 N.FLg.1.kp N.FLg.2.1 .nil An (@Ax _ _ _ _ _ rfl (pv 1) Ab)) (by kernel_rfl) (.inl rfl))
   (@Ac _ _ _ _ _ (@BW _ _ _ _ _ _ 3 Fq.nd rfl (Or.inl rfl) (Aj (cP N T) (ad hr) rfl N.FLm.2.2 N.FLm.1.kp N.FLm.2.1 .nil An (@Ax _ _ _ _ _ rfl (pv 2) Ab)) (by kernel_rfl) (.inl rfl))
   (@Ac _ _ _ _ _ (@BW _ _ _ _ _ _ 4 Fq.nd rfl (Or.inl rfl) (Q4 N.FOi.2.2 (bG N T) hr rfl T.mC N.FOi.2.1 .nil An (@Ax _ _ _ _ _ rfl (pv 2) Ab)) (by kernel_rfl) (.inl rfl))
   (@Ac _ _ _ _ _ (@BW _ _ _ _ _ _ 5 Fq.nd rfl (Or.inl rfl) (BK El (BK IW (BK El (BK FN (Aj (dz N T) (ad hr) rfl N.FCe.2.2 N.FCe.1.kp N.FCe.2.1 .nil An (@Ax _ _ _ _ _ rfl (pv 0) (@Ax _ _ _ _ _ rfl Ae Ab))) Ae) Ae) Ae) (BK Jr Ae (BP BV rfl T.len bX (@Ax _ _ _ _ _ rfl (Bk hu (pv 3) BR (fun _ _=>rfl)) Ab)))) (by kernel_rfl) (.inl rfl))
   (@Ac _ _ _ _ _ (@Br _ _ _ _ _ _ _ _ (BX Cp (Aj (Q5 N T) (ad hr) rfl N.FDw.2.2 N.FDw.1.kp N.FDw.2.1 .nil An (@Ax _ _ _ _ _ rfl (pv 1) (@Ax _ _ _ _ _ rfl Ae Ab))) Ae (Bc _)) (@Ai _ _ _ (@BW _ _ _ _ _ _ 5 Fq.nd rfl (Or.inl rfl) (BK Dz (BK Jr Ae (BP BV rfl T.len bX (@Ax _ _ _ _ _ rfl (Bk hu (pv 3) BR (fun _ _=>rfl)) Ab))) Ae) (by kernel_rfl) (.inl rfl))) Ba)
   (@Ac _ _ _ _ _ (@BW _ _ _ _ _ _ 6 Fq.nd rfl (Or.inl rfl) (Q4 N.FRi.2.2 (cQ N T) (ad hr) rfl T.mCR N.FRi.2.1 .nil An (@Ax _ _ _ _ _ rfl (pv 4) (@Ax _ _ _ _ _ rfl (pv 5) Ab))) (by kernel_rfl) (.inl rfl))
   (@Ac _ _ _ _ _ (@BW _ _ _ _ _ _ 7 Fq.nd rfl (Or.inl rfl) Ae (by kernel_rfl) (.inl rfl))
   (@Ac _ _ _ _ _ (@Br _ _ _ _ _ _ _ _ (BX Xm (Bk hu (pv 3) BR (fun _ _=>rfl)) Ae (Bc _)) (@Ai _ _ _ (@BW _ _ _ _ _ _ 7 Fq.nd rfl (Or.inl rfl) Ae (by kernel_rfl) (.inl rfl))) Ba)
   (@Ac _ _ _ _ _ (C_ PassesOwn.never rfl (Bp (FW G4 (pv 0) (Fx Ae) (Fx (pv 7)))) (BZ (i:=8) Fq.nd rfl (Or.inl rfl)) (@Ac _ _ _ _ _ (@BW _ _ _ _ _ _ 9 Fq.nd rfl (Or.inl rfl) (BK El (BK FN (pv 8) Ae) Ae) (by kernel_rfl) (.inl rfl))
   (@Ac _ _ _ _ _ (@BW _ _ _ _ _ _ 10 Fq.nd rfl (Or.inl rfl) (BK FN (pv 9) (pv 9)) (by kernel_rfl) (.inl rfl))
   (@Ac _ _ _ _ _ (@BW _ _ _ _ _ _ 10 Fq.nd rfl (Or.inl rfl) (BK El (BK IW (BK FN (BK FN (pv 10) (pv 10)) (pv 10)) Ae) (BK Jr Ae (Bk hu (pv 3) BR (fun _ _=>rfl)))) (by kernel_rfl) (.inl rfl))
   (@Ac _ _ _ _ _ (@BW _ _ _ _ _ _ 11 Fq.nd rfl (Or.inl rfl) (Cw (pv 6) T.clR N.FRs.2.2 (ie N T) (ad hr) N.FRs.2.1 .nil An (@Ax _ _ _ _ _ rfl (pv 10) Ab)) (by kernel_rfl) (.inl rfl))
   (@Ac _ _ _ _ _ (@Br _ _ _ _ _ _ _ _ (PW.pt (Gg (DQ (Di (Aj (bF N T) (ad hr) rfl N.FLw.2.2 N.FLw.1.kp N.FLw.2.1 .nil An (@Ax _ _ _ _ _ rfl (pv 11) Ab)))) (Gb (BX Ib (pv 11) (Aj (gm N T) (ad hr) rfl N.FSo.2.2 N.FSo.1.kp N.FSo.2.1 .nil An (@Ax _ _ _ _ _ rfl (pv 4) (@Ax _ _ _ _ _ rfl (pv 5) (@Ax _ _ _ _ _ rfl (pv 10) Ab)))) (Bc _))))) (@Ai _ _ _ (@Ay _ _ _ _ GF)) Ba)
   (@Ac _ _ _ _ _ (@Br _ _ _ _ _ _ _ _ (DQ (Di (Aj (gn N T) (ad hr) rfl N.FWq.2.2 N.FWq.1.kp N.FWq.2.1 .nil An (@Ax _ _ _ _ _ rfl (pv 4) (@Ax _ _ _ _ _ rfl (pv 3) (@Ax _ _ _ _ _ rfl (pv 5) (@Ax _ _ _ _ _ rfl (pv 10) (@Ax _ _ _ _ _ rfl (pv 11) (@Ax _ _ _ _ _ rfl (pv 8) Ab))))))))) (@Ai _ _ _ (@Ay _ _ _ _ GF)) Ba)
   (@Ac _ _ _ _ _ (@BW _ _ _ _ _ _ 12 Fq.nd rfl (Or.inl rfl) (BK Dz (pv 10) (BK G8 (pv 10) (BK Jr Ae (BK El (BK IW (pv 9) Ae) (Bk hu (pv 3) BR (fun _ _=>rfl)))))) (by kernel_rfl) (.inl rfl))
   (@Ai _ _ _ (@Br _ _ _ _ _ _ _ _ (BX Ib (BK Lw (Cw (pv 6) T.clR N.FRs.2.2 (ie N T) (ad hr) N.FRs.2.1 .nil An (@Ax _ _ _ _ _ rfl (pv 12) Ab)) (pv 11)) (pv 11) (Bc _)) (@Ai _ _ _ (@Ay _ _ _ _ GF)) Ba))))))))))
   (@Ai _ _ _ (@Ay _ _ _ _ GF)))))))))))),?_⟩
  refine ⟨_,rfl,a,_,ns,rfl,hS,by decide,by decide,hlen,fun dh pc H1 hdh hpc s1 D1=>?_⟩
  refine ⟨_,rfl,dh,pc,0,rfl,D1,by decide,fun p vs9 sz rk gs n9 H2 hp npd npc hl2 P2 W D2 hn9 fr2=>?_⟩
  have s02:Ao H H2:=fun b u e=>fr2 b u (Ak e hdh) (Ak e hpc) (s1 _ _ e)
  have hlv:vs9.length<=136:=by
   have:=P2.length
   have:=MJ W
   omega
  refine ⟨_,rfl,p,vs9,sz,rk,gs,rfl,hl2,P2,W,by omega,fun m H3 hm s3 X3 PI3=>?_⟩
  have M3:=X3.at
  have hl3:=s3 _ _ hl2
  have P3:Paired (fun (r:R) v=>TupAt H3 r.v v) (HB sz rk gs) vs9:=Al s3 P2
  have s03:=s02.trans s3
  obtain ⟨hs1,hs183⟩:=RG W
  have hgl:=W.len
  obtain ⟨R3,O3,eL⟩:=gW F0 W P3
  refine ⟨_,rfl,?_⟩
  intro x dx nx ndx nex
  have sx:Ao H3 (upd (upd H3 dx (.own x)) x (.ins C dx [])):=fun b o e=>by
   rw [Ar (Ak e nx),Ar (Ak e ndx)]
   exact e
  refine ⟨x,dx,p,vs9,Tf H3,GK sz,Eg rk,gs.map Gp.head,rfl,Ah,sx _ _ hl3,R3.mono sx,O3,fun H10 OA SXh=>⟨rfl,?_⟩⟩
  rw [eL,← Yi gs W.l3,← Zj W.l3 W.ok] at OA
  have s310:Ao H3 H10:=fun b o e=>SXh b o (sx b o e) (Ak e nx)
  have s010:=s03.trans s310
  have M10:=M3.mono s310
  have hkb:=Q6 W
  have hls:=q_ W
  clear SXh sx nx ndx nex R3 O3 eL
  have D10:=D2.same (s3.trans s310)
  have X10:=X3.mono s310
  have PI10:=PI3.mono s310
  refine byC fun w_=>?_;obtain ⟨cs2,m2,r2,dd1,dd2,_⟩:=id D2;refine w_ ?_
  refine byC fun w_=>?_;obtain ⟨cs3,m3,r3,dd3,dd4,_⟩:=id D10;refine w_ ?_
  have afr:∀ {H':Hp},Y7 H10 H' dh pc->CN C H' x (Bb (JD gs) sz) (Eg rk) (CJ (JD gs) (gs.map Gp.kb)) (gs.map Gp.LQ)/\Em H' m sz rk gs/\KZ H' m rk/\Ao H H':=fun f=>⟨Zg D10 (CV.of2 f) OA,(X10.fr dd1 dd2 dd3 dd4 (CV.of2 f)).at,PI10.fr D10 (CV.of2 f),fun b u e=>CV.of2 f b u (Ak e hdh) (Ak e hpc) (s010 b u e)⟩
  refine byC fun w_=>?_;obtain ⟨kn,TL,gk,hk,lTL,pTL⟩:=M10.Rg;refine w_ ?_
  have lTL':(TL.map fun a:Addr × Addr=>V.ref a.1).length=gs.length:=by rw [ai]; exact lTL
  refine ⟨_,rfl,a,0,ns,rfl,s010.seq hS,fun c0=>?_⟩
  refine ⟨_,_,rfl,rfl,.inr ⟨by decide,by decide⟩,_,_,rfl,rfl,(by show (0:Int)<2147483647; decide),_,_,rfl,rfl,⟨by decide,by decide⟩,?_⟩
  refine ⟨_,rfl,m,_,rfl,gk,kn,_,rfl,kR (.inl hk),_,_,rfl,rfl,⟨by omega,by omega,by decide⟩,_,_,rfl,rfl,?_,?_⟩
  ·dsimp only
   rw [io]
   exact Int.pow_pos (by decide)
  obtain ⟨D0,eD,_⟩:=qZ (x:=c0 * 764261123 % 2147483647 / 8) (n:=(TL.map fun a:Addr × Addr=>V.ref a.1).length)
  dsimp only
  rw [eD]
  refine gN (i:=5) ?_
  first | dsimp only | skip
  refine Q3 (fun σ' H'=>Y7 H10 H' dh pc/\∃ D:Nat,σ'=[some (.ref a),some (.ref dh),some (.ref p),some (.ref m),some (.ref x),some (.int (D:Nat)),none,none,none,none,none,none,none]) (fun D' rest=>?_) ?_
  ·refine ⟨_,rfl,dh,pc,n9,4,rfl,D10,by omega,by decide,by decide,fun y H11 y0 y1 D11 f11=>⟨rfl,_,rfl,Bs (fun _=>?_) (fun _=>?_)⟩⟩
   ·obtain ⟨_,M11,_,_⟩:=afr f11
    refine byC fun w_=>?_;obtain ⟨kn1,TL1,gk1,hk1,lTL1,_⟩:=M11.Rg;refine w_ ?_
    have lTL1':(TL1.map fun a:Addr × Addr=>V.ref a.1).length=gs.length:=by rw [ai]; exact lTL1
    refine ⟨_,rfl,m,_,rfl,gk1,kn1,_,rfl,kR (.inl hk1),_,_,rfl,rfl,⟨by omega,by omega,by decide⟩,_,_,rfl,rfl,?_⟩
    obtain ⟨D1,eD1⟩:∃ D1:Nat,(1:Int) * 2 ^ (((TL1.map fun a:Addr × Addr=>V.ref a.1).length:Nat):Int).toNat - 1=(D1:Int):=by
     have h:(0:Int)<(1:Int) * 2 ^ (((TL1.map fun a:Addr × Addr=>V.ref a.1).length:Nat):Int).toNat:=by
      rw [io]
      exact Int.pow_pos (by decide)
     exact ⟨((1:Int) * 2 ^ (((TL1.map fun a:Addr × Addr=>V.ref a.1).length:Nat):Int).toNat - 1).toNat,by omega⟩
    dsimp only
    rw [eD1]
    exact rest _ H11 ⟨f11,D1,rfl⟩
   ·exact rest _ H11 ⟨f11,D0,rfl⟩
  rintro σ H11 ⟨f11,D,rfl⟩
  obtain ⟨OA11,M11,PI11,s011⟩:=afr f11
  clear afr gk hk lTL pTL eD OA X10 PI10 M10
  refine ⟨_,rfl,_,rfl,?_⟩
  intro y dy ny ndy ney
  have sy:Ao H11 (upd (upd H11 dy (.own y)) y (.ins Cy dy [])):=fun b o e=>by
   rw [Ar (Ak e ny),Ar (Ak e ndy)]
   exact e
  refine ⟨y,dy,x,JD gs,sz,Eg rk,gs.map Gp.kb,gs.map Gp.LQ,D,rfl,Ah,OA11.mono sy,hkb,hls,fun rw H12 SXy RA lr hrow=>⟨rfl,?_⟩⟩
  have s1112:Ao H11 H12:=fun b o e=>SXy b o (sy b o e) (Ak e ny)
  clear SXy sy ny ndy ney
  have M12:=M11.mono s1112
  have OA12:=OA11.mono s1112
  have PI12:=PI11.mono s1112
  have s012:=s011.trans s1112
  dsimp only
  refine gN (i:=6) ?_
  first | dsimp only | skip
  refine gN (i:=7) (v:=.int 25) ?_
  first | dsimp only | skip
  refine Q3 (fun σ' H'=>H'=H12/\∃ la:Int,σ'=[some (.ref a),some (.ref dh),some (.ref p),some (.ref m),some (.ref x),some (.int (D:Nat)),some (.ref y),some (.int la),none,none,none,none,none]) (fun D' rest=>?_) ?_
  ·refine ⟨_,rfl,m,_,rfl,M12.keys,_,_,rfl,rfl,_,rfl,Bs (fun _=>?_) (fun _=>?_)⟩
   ·exact rest _ H12 ⟨rfl,7,rfl⟩
   ·exact rest _ H12 ⟨rfl,25,rfl⟩
  rintro σ H12' ⟨rfl,la,rfl⟩
  refine ⟨_,rfl,_,rfl,_,rfl,_,rfl,a,_,rfl,s012.seq hS,fun ps hps=>?_⟩
  have t2:=A_ (o:=HO.lst (Fi (ns.map V.int) (some 1) (some la))) hps
  obtain ⟨cs,ecs,lcs⟩:=Ox ns (some 1) (some la)
  have u2:upd H12' ps (HO.lst (Fi (ns.map V.int) (some 1) (some la))) ps=some (.lst (cs.map V.int)):=by rw [Ah,ecs]
  generalize upd H12' ps (HO.lst (Fi (ns.map V.int) (some 1) (some la)))=H13 at t2 u2 ⊢
  have hS13:Cz K H13 ps (cs.map V.int):=.inl (.inl u2)
  refine ⟨ps,rfl,⟨_,hS13⟩,Eo (K:=K) (a:=ps) (xs:=cs.map V.int) (fun t σ H4=>Ao H13 H4/\∃ v8 v9 v10 v11 v12:Option V,σ=[some (.ref a),some (.ref dh),some (.ref p),some (.ref m),some (.ref x),some (.int (D:Nat)),some (.ref y),some (.int la),v8,v9,v10,v11,v12]) ⟨Ao.refl _,_,_,_,_,_,rfl⟩ (fun t σ H4 _ h=>h.1.seq hS13) ?_ ?_⟩
  rotate_left
  ·intros
   exact q _
  rintro t y0 σ H4 hy0 ⟨s4,v8,v9,v10,v11,v12,rfl⟩
  obtain ⟨c1,_,rfl⟩:=aI.mp (ay hy0)
  have s124:=t2.trans s4
  refine ⟨_,rfl,_,_,rfl,rfl,.inr ⟨by decide,by decide⟩,_,_,rfl,rfl,(by show (0:Int)<2147483647; decide),?_⟩
  have hp0:0<=c1 * 950706376 % 2147483647:=fI _ (by decide)
  have hp1:c1 * 950706376 % 2147483647<2147483647:=fm _ (by decide)
  show Dy 9 (V.int (c1 * 950706376 % 2147483647)) _ H4 _
  generalize c1 * 950706376 % 2147483647=pk at hp0 hp1 ⊢
  refine ⟨_,rfl,_,rfl,_,_,rfl,rfl,.inl ⟨by omega,by omega⟩,?_⟩
  have hh0:0<=pk * pk:=Int.mul_nonneg hp0 hp0
  have hh1:pk * pk<18446744073709551616:=by
   have h1:pk * pk<=2147483647 * 2147483647:=Int.mul_le_mul (by omega) (by omega) hp0 (by decide)
   omega
  show Dy 10 (V.int (pk * pk)) _ H4 _
  generalize pk * pk=hq at hh0 hh1 ⊢
  refine ⟨_,rfl,_,rfl,_,_,rfl,rfl,.inl ⟨by omega,by omega⟩,_,rfl,_,_,rfl,rfl,.inr ⟨by omega,by omega⟩,_,_,rfl,rfl,⟨by decide,by decide⟩,_,rfl,m,_,rfl,(M12.mono s124).keys,_,_,rfl,rfl,⟨by omega,by omega,by decide⟩,_,_,rfl,rfl,?_,?_⟩
  ·dsimp only
   rw [io]
   exact Int.pow_pos (by decide)
  obtain ⟨n,en,hn⟩:=qZ (x:=hq * hq * hq / 1024) (n:=sz.sum)
  dsimp only
  rw [en]
  clear en hh0 hh1
  have hnt:∀ i,n.testBit i=true->i<sz.sum:=fun i hi=>by
   rcases kQ i sz.sum with h | h
   ·exact h
   ·have:=Nat.testBit_lt_two_pow (bg hn (fS (by decide) h))
    rw [hi] at this
    cases this
  have hn12:n<2 ^ 1200:=bg hn (fS (by decide) (by omega))
  have RA4:=RA.mono s124
  refine byC fun w_=>?_;obtain ⟨d1,dd,ob,e1,e2⟩:=RA4.ex;refine w_ ?_
  refine ⟨_,rfl,y,d1,_,rfl,e1,Ut dd (by decide +kernel),_,rfl,y,rw,n,rfl,RA4,by omega,fun H5 s5=>?_⟩
  refine ⟨_,rfl,_,rfl,_,rfl,Ci ?_⟩
  have s125:=s124.trans s5
  refine ⟨_,rfl,_,rfl,_,rfl,_,rfl,x,JD gs,sz,Eg rk,gs.map Gp.kb,gs.map Gp.LQ,D,n,rfl,OA12.mono s125,hkb,hls,hn12,hnt,fun cl mm H6 s6 hcl hm=>?_⟩
  have eB:=ZJ hls lr hrow hnt hcl hm
  have sn:Yc sz rk gs D n (Np rw n):=fun p=>by
   rw [← eB,XD hcl]
   refine ⟨fun ⟨q,h⟩=>⟨mm,q,hm,h⟩,fun ⟨m',q,h1,h2⟩=>?_⟩
   have e:m'=mm:=Jb fun j=>by rw [h1,hm]
   rw [← e]
   exact ⟨q,h2⟩
  rw [eB]
  refine ⟨rfl,_,rfl,Bs (fun z=>absurd z (by rw [decide_eq_true rfl]; decide)) (fun _=>?_)⟩
  have s126:=s125.trans s6
  refine ⟨_,rfl,_,rfl,_,rfl,_,rfl,_,rfl,_,rfl,x,m,D,n,Np rw n,c1,sz,rk,gs,rfl,OA12.mono s126,M12.mono s126,PI12.mono s126,W,hn12,hnt,sn,fun H7 s7=>⟨_,rfl,Ci ?_⟩⟩
  have s127:=s126.trans s7
  have hk0:(0:Int)<((sz.sum:Nat):Int):=by omega
  have hm0:=fI (pk / 16) (Int.ne_of_gt hk0)
  have hm1:=fm (pk / 16) hk0
  refine ⟨_,rfl,_,rfl,_,rfl,_,_,rfl,rfl,⟨by decide,by decide⟩,_,rfl,m,_,rfl,(M12.mono s127).keys,_,_,rfl,rfl,hk0,_,_,rfl,rfl,⟨hm0,by omega,by decide⟩,_,_,rfl,rfl,_,_,rfl,rfl,?_⟩
  obtain ⟨tt,et⟩:=iA hm0
  have e3:((n:Nat):Int) - Builtin.bitAnd ((n:Nat):Int) (1 * 2 ^ (pk / 16 % ((sz.sum:Nat):Int)).toNat)=((n - (n &&& 2 ^ tt):Nat):Int):=by
   have h1:(1:Int) * 2 ^ (pk / 16 % ((sz.sum:Nat):Int)).toNat=((2 ^ tt:Nat):Int):=by
    rw [et]
    show (1:Int) * 2 ^ ((tt:Nat):Int).toNat=_
    rw [io,aT]
    push_cast
    rfl
   have:n &&& 2 ^ tt<=n:=Nat.and_le_left
   rw [h1,JQ]
   omega
  dsimp only
  rw [e3]
  have RA7:=RA.mono s127
  refine byC fun w_=>?_;obtain ⟨d2,dd',ob2,f1,f2⟩:=RA7.ex;refine w_ ?_
  refine ⟨_,rfl,y,d2,_,rfl,f1,Ut dd' (by decide +kernel),_,rfl,y,rw,n - (n &&& 2 ^ tt),rfl,RA7,by omega,fun H8 s8=>⟨_,rfl,_,_,rfl,rfl,_,rfl,?_⟩⟩
  have e4:=U9 (l:=rw) (n:=n) (n':=n - (n &&& 2 ^ tt)) fun i h=>by
   rw [Gn.Xh,fz] at h
   exact h.1
  dsimp only
  rw [Hv,e4]
  refine ⟨rfl,_,rfl,Bs (fun z=>absurd z (by rw [decide_eq_true rfl]; decide)) (fun _=>?_)⟩
  exact ⟨s4.trans (s5.trans (s6.trans (s7.trans s8))),_,_,_,_,_,rfl⟩
end
end K30
end PartK30a
section PartK30z
set_option maxHeartbeats 4000000
theorem UL1 {α:Type} {us:List α} (h:us.length=1):∃ a,us=[a]:=match us,h with | [a],_=>⟨a,rfl⟩
theorem UL2 {α:Type} {us:List α} (h:us.length=2):∃ a b,us=[a,b]:=match us,h with | [a,b],_=>⟨a,b,rfl⟩
theorem UL3 {α:Type} {us:List α} (h:us.length=3):∃ a b c,us=[a,b,c]:=match us,h with | [a,b,c],_=>⟨a,b,c,rfl⟩
theorem UL4 {α:Type} {us:List α} (h:us.length=4):∃ a b c d,us=[a,b,c,d]:=match us,h with | [a,b,c,d],_=>⟨a,b,c,d,rfl⟩
theorem UL5 {α:Type} {us:List α} (h:us.length=5):∃ a b c d e,us=[a,b,c,d,e]:=match us,h with | [a,b,c,d,e],_=>⟨a,b,c,d,e,rfl⟩
theorem UL6 {α:Type} {us:List α} (h:us.length=6):∃ a b c d e f,us=[a,b,c,d,e,f]:=match us,h with | [a,b,c,d,e,f],_=>⟨a,b,c,d,e,f,rfl⟩
namespace K30
open PySem L2 Og
section
variable {K:W.Frag}
noncomputable abbrev DA (K:W.Frag) (x:Str) (st:Stmt) (f:Addr):Prop:=W.nsIn K mainGlobals x=some (some (.ref f))/\∃ fd,DK K x x st f fd
noncomputable abbrev MA (K:W.Frag) (C:Addr) (x q:Str) (st:Stmt) (f:Addr):Prop:=W.findIn K (.ref C) x=some (some (.ref f))/\W.isFn K (.ref f)=true/\∃ fd,DK K x q st f fd
theorem Gs {x q:Str} {st:Stmt} {f:Addr} {fd:FuncData} {ps:List Str} (F:DK K x q st f fd) (hl:ps.length=1:=by rfl) (h:∀ (kV doc pm:Value) (an:Option Addr) (cdv ct:Value) (u:Value),bindArgs (W.fnOf x q (DN st) (Cm st) (Af st) .none kV doc pm an cdv ct) ⟨[u],[]⟩=pure (ps.zip [u]):=by intros; rfl):Binds K fd ps []:=F.binds fun kV doc pm an cdv ct us hu=>by obtain ⟨u,rfl⟩:=UL1 (hu.trans hl); exact h kV doc pm an cdv ct u
theorem F_ {x q:Str} {st:Stmt} {f:Addr} {fd:FuncData} {ps:List Str} (F:DK K x q st f fd) (hl:ps.length=2:=by rfl) (h:∀ (kV doc pm:Value) (an:Option Addr) (cdv ct:Value) (u v:Value),bindArgs (W.fnOf x q (DN st) (Cm st) (Af st) .none kV doc pm an cdv ct) ⟨[u,v],[]⟩=pure (ps.zip [u,v]):=by intros; rfl):Binds K fd ps []:=F.binds fun kV doc pm an cdv ct us hu=>by obtain ⟨u,v,rfl⟩:=UL2 (hu.trans hl); exact h kV doc pm an cdv ct u v
theorem Fw {x q:Str} {st:Stmt} {f:Addr} {fd:FuncData} {ps:List Str} (F:DK K x q st f fd) (hl:ps.length=3:=by rfl) (h:∀ (kV doc pm:Value) (an:Option Addr) (cdv ct:Value) (u v a:Value),bindArgs (W.fnOf x q (DN st) (Cm st) (Af st) .none kV doc pm an cdv ct) ⟨[u,v,a],[]⟩=pure (ps.zip [u,v,a]):=by intros; rfl):Binds K fd ps []:=F.binds fun kV doc pm an cdv ct us hu=>by obtain ⟨u,v,a,rfl⟩:=UL3 (hu.trans hl); exact h kV doc pm an cdv ct u v a
theorem Vx {x q:Str} {st:Stmt} {f:Addr} {fd:FuncData} {ps:List Str} (F:DK K x q st f fd) (hl:ps.length=4:=by rfl) (h:∀ (kV doc pm:Value) (an:Option Addr) (cdv ct:Value) (u v a b:Value),bindArgs (W.fnOf x q (DN st) (Cm st) (Af st) .none kV doc pm an cdv ct) ⟨[u,v,a,b],[]⟩=pure (ps.zip [u,v,a,b]):=by intros; rfl):Binds K fd ps []:=F.binds fun kV doc pm an cdv ct us hu=>by obtain ⟨u,v,a,b,rfl⟩:=UL4 (hu.trans hl); exact h kV doc pm an cdv ct u v a b
theorem oK {x q:Str} {st:Stmt} {f:Addr} {fd:FuncData} {ps:List Str} (F:DK K x q st f fd) (hl:ps.length=5:=by rfl) (h:∀ (kV doc pm:Value) (an:Option Addr) (cdv ct:Value) (u v a b c:Value),bindArgs (W.fnOf x q (DN st) (Cm st) (Af st) .none kV doc pm an cdv ct) ⟨[u,v,a,b,c],[]⟩=pure (ps.zip [u,v,a,b,c]):=by intros; rfl):Binds K fd ps []:=F.binds fun kV doc pm an cdv ct us hu=>by obtain ⟨u,v,a,b,c,rfl⟩:=UL5 (hu.trans hl); exact h kV doc pm an cdv ct u v a b c
theorem oA {x q:Str} {st:Stmt} {f:Addr} {fd:FuncData} {ps:List Str} (F:DK K x q st f fd) (hl:ps.length=6:=by rfl) (h:∀ (kV doc pm:Value) (an:Option Addr) (cdv ct:Value) (u v a b c d:Value),bindArgs (W.fnOf x q (DN st) (Cm st) (Af st) .none kV doc pm an cdv ct) ⟨[u,v,a,b,c,d],[]⟩=pure (ps.zip [u,v,a,b,c,d]):=by intros; rfl):Binds K fd ps []:=F.binds fun kV doc pm an cdv ct us hu=>by obtain ⟨u,v,a,b,c,d,rfl⟩:=UL6 (hu.trans hl); exact h kV doc pm an cdv ct u v a b c d
end
theorem Z4 {l:W.OpenLaw} {w:World} {K:W.Frag} {h:Heap} {mg:Str->Option Value} {fa:Addr} (X:K.In h) (G:h.Ns mainGlobals mg) (hfa:mg "law" = some (.ref fa))
  {C Cy aN aK aB aP aM p1 p2 p3 p4 p5 p6 b1 b2 b3 b4 b5 b6 b7 fWh fMd fNm fRo fTo fWi fPa fHp fCl fIk fSb fWm fHr fIr fCk fNu fCa fPl fLi fMy fSt fHa fMe fSh fUn fLe fDc fHk fWa fCq fTb fTt fLp fLq fCb fCr fMu fUk fSk fNb fLl fBs fBa fSo fLt fKa fWs fCe fLw fDn fDw fLs fLc fLg fLm fLd fMt fTy fWy fWq fOi fOb fOc fOk fOo fBk fOp fOr fOq fOe fOs fOm fOx fOz fRi fRs fZ:Addr} {odTt anTt odZ anZ:Option Addr} {slTt slZ:Array (Option Value)} {ocTt kVTt dcTt pmTt cdTt ctTt ocZ kVZ dcZ pmZ cdZ ctZ:Value}
  {tLET tML tMR tMLn tMB tm1 tm2 tm3 tm4 tm5 ttN_0 ttN_1 ttN_2 ttN_3 ttN_4 ttK_0 ttK_1 ttK_2 ttp1_0 ttp1_1 ttp2_0 ttp2_1 ttp3_0 ttp3_1 ttp4_0 ttp4_1 ttp4_2 ttp4_3 ttp5_0 ttp5_1 ttp5_2 ttp6_0 ttp6_1 ttp6_2 ttp6_3 ttb1_0 ttb1_1 ttb2_0 ttb2_1 ttb3_0 ttb3_1 ttb4_0 ttb4_1 ttb5_0 ttb5_1 ttb6_0 ttb6_1 ttb7_0 ttb7_1:Tok} {od_N od_K od_p1 od_p2 od_p3 od_p4 od_p5 od_p6 od_b1 od_b2 od_b3 od_b4 od_b5 od_b6 od_b7:Option Addr} {sl_N sl_K sl_p1 sl_p2 sl_p3 sl_p4 sl_p5 sl_p6 sl_b1 sl_b2 sl_b3 sl_b4 sl_b5 sl_b6 sl_b7:Array (Option Value)} {n_N n_K n_p1 n_p2 n_p3 n_p4 n_p5 n_p6 n_b1 n_b2 n_b3 n_b4 n_b5 n_b6 n_b7 nB nP nM:Nat} {eB eP eM:Array DictEntry}
  {tDTt:Addr} {oDTt:Option Addr} {sDTt:Array (Option Value)} {nDTt:Nat} {kDTt:Tok}
  (FWh:DA K "is_whole" oW fWh)
  (FMd:DA K "is_made_of" jg fMd)
  (FNm:DA K "is_name" lW fNm)
  (FRo:DA K "rows_of" je fRo)
  (FTo:DA K "is_told" jo fTo)
  (FWi:DA K "is_within" oF fWi)
  (FPa:DA K "is_part" jd fPa)
  (FHp:DA K "has_parts" jf fHp)
  (FCl:DA K "count_of_last_lines" pF fCl)
  (FIk:DA K "is_key_of" ji fIk)
  (FSb:DA K "stands_behind_stop" lE fSb)
  (FWm:DA K "is_well_made" mZ fWm)
  (FHr:DA K "has_room" kO fHr)
  (FIr:DA K "is_row" oG fIr)
  (FCk:DA K "check_rows" mO fCk)
  (FNu:DA K "numbers_of" mX fNu)
  (FCa:DA K "count_in_all" jc fCa)
  (FPl:DA K "places_of" jZ fPl)
  (FLi:DA K "lines_by_knob" qP fLi)
  (FMy:DA K "may_be_member" oU fMy)
  (FSt:DA K "set_of" jX fSt)
  (FHa:DA K "has_member" nZ fHa)
  (FMe:DA K "members_of" jP fMe)
  (FSh:DA K "shifted" pJ fSh)
  (FUn:DA K "union_of" lU fUn)
  (FLe:DA K "led_to" lD fLe)
  (FDc:DA K "drawn_of" fM fDc)
  (FHk:DA K "held_keys" lQ fHk)
  (FWa:DA K "coupled_ways" lC fWa)
  (FCq:DA K "coupled_keys" oh fCq)
  (FTb:DA K "trail_back" oV fTb)
  (aTt:W.nsIn K mainGlobals "trail_to" = some (some (.ref fTt)))
  (lTt:K.lookup fTt=some ⟨ocTt,odTt,.func (W.fnOf "trail_to" "trail_to" (DN XF) (Cm XF) (Af XF) (.ref tDTt) kVTt dcTt pmTt anTt cdTt ctTt),slTt⟩) (cTt:W.codeIn K cdTt "trail_to" = true) (kTt:W.keepIn K (.ref fTt)=true)
  (FLp:DA K "led_in_one_step" dN fLp)
  (FLq:DA K "led_in_all_steps" kh fLq)
  (FCb:DA K "coupled_by_each" jt fCb)
  (FCr:DA K "compiled_rows" oX fCr)
  (FMu:DA K "muted_boards" jY fMu)
  (FUk:DA K "unmuted_keys" jm fUk)
  (FSk:DA K "speaking_keys" ou fSk)
  (FNb:DA K "numbers_on_board" lA fNb)
  (FLl:DA K "led_by_line" lB fLl)
  (FBs:DA K "brought_by_stop" jQ fBs)
  (FBa:DA K "brought_in_all" jM fBa)
  (FSo:DA K "sounding_pipes" pD fSo)
  (FLt:DA K "lines_leading_to" lK fLt)
  (FKa:DA K "key_ahead" nu fKa)
  (FWs:DA K "why_sounds" p_ fWs)
  (FCe:DA K "_law_cell_at" pK fCe)
  (FLw:DA K "_law_whole" lN fLw)
  (FDn:DA K "_law_drawn" jl fDn)
  (FDw:DA K "_law_draw" o9 fDw)
  (FLs:DA K "_law_stop" qJ fLs)
  (FLc:DA K "_law_coupler" qI fLc)
  (FLg:DA K "_law_organ" Z3 fLg)
  (FLm:DA K "_law_model" lX fLm)
  (FLd:DA K "_law_led" qK fLd)
  (FMt:DA K "_law_muted" mq fMt)
  (FTy:DA K "_law_trail_right" sTy fTy)
  (FWy:DA K "_law_why_right" oO fWy)
  (FWq:DA K "_law_whys" d7 fWq)
  (aZ:W.nsIn K mainGlobals "law" = some (some (.ref fZ)))
  (lZ:K.lookup fZ=some ⟨ocZ,odZ,.func (W.fnOf "law" "law" (DN Nv) (Cm Nv) (Af Nv) .none kVZ dcZ pmZ anZ cdZ ctZ),slZ⟩) (cZ:W.codeIn K cdZ "law" = true) (kZ:W.keepIn K (.ref fZ)=true)
  (aC:W.nsIn K mainGlobals "Organ" = some (some (.ref C)))
  (FOi:MA K C "__init__" "Organ.__init__" V6 fOi)
  (FOb:MA K C "boards" "Organ.boards" qW fOb)
  (FOc:MA K C "key_count" "Organ.key_count" n8 fOc)
  (FOk:MA K C "key" "Organ.key" lY fOk)
  (FOo:MA K C "board_of" "Organ.board_of" lR fOo)
  (FBk:MA K C "board_of_knob" "Organ.board_of_knob" lH fBk)
  (FOp:MA K C "coupler" "Organ.coupler" nT fOp)
  (FOr:MA K C "ranks" "Organ.ranks" mH fOr)
  (FOq:MA K C "pipe_count" "Organ.pipe_count" pQ fOq)
  (FOe:MA K C "pipe" "Organ.pipe" m9 fOe)
  (FOs:MA K C "stop" "Organ.stop" nW fOs)
  (FOm:MA K C "mute" "Organ.mute" nC fOm)
  (FOx:MA K C "rank_of" "Organ.rank_of" oZ fOx)
  (FOz:MA K C "knobs" "Organ.knobs" jU fOz)
  (aCy:W.nsIn K mainGlobals "Relays" = some (some (.ref Cy)))
  (FRi:MA K Cy "__init__" "Relays.__init__" mY fRi)
  (FRs:MA K Cy "sound" "Relays.sound" jw fRs)
  (pg2:W.plainGet K Cy Str.empty=true)
  (hd2:W.hasDictIn K Cy=true)
  (po2:W.plainOver K Cy=true)
  (sa2:W.findIn K (.ref Cy) "__setattr__" = some (some (.builtin "object.__setattr__")))
  (mkC2:W.makesIn K Cy=true)
  (kc2:W.keepIn K (.ref Cy)=true)
  (nr2:W.findIn K (.ref Cy) "row_sets" = some none)
  (pg:W.plainGet K C Str.empty=true)
  (hd:W.hasDictIn K C=true)
  (po:W.plainOver K C=true)
  (sa:W.findIn K (.ref C) "__setattr__" = some (some (.builtin "object.__setattr__")))
  (mkC:W.makesIn K C=true)
  (kc:W.keepIn K (.ref C)=true)
  (n_row_list_:W.findIn K (.ref C) "row_list" = some none)
  (n_board_list_:W.findIn K (.ref C) "board_list" = some none)
  (n_rank_list_:W.findIn K (.ref C) "rank_list" = some none)
  (n_knob_rows_:W.findIn K (.ref C) "knob_rows" = some none)
  (n_board_numbers_:W.findIn K (.ref C) "board_numbers" = some none)
  (n_rank_numbers_:W.findIn K (.ref C) "rank_numbers" = some none)
  (n_knob_numbers_:W.findIn K (.ref C) "knob_numbers" = some none)
  (n_key_places_:W.findIn K (.ref C) "key_places" = some none)
  (n_pipe_places_:W.findIn K (.ref C) "pipe_places" = some none)
  (n_knob_lines_:W.findIn K (.ref C) "knob_lines" = some none)
  (n_step_sets_:W.findIn K (.ref C) "step_sets" = some none)
  (zlen:W.nsIn K mainGlobals "len" = some none)
  (zisinstance:W.nsIn K mainGlobals "isinstance" = some none)
  (zint:W.nsIn K mainGlobals "int" = some none)
  (zbool:W.nsIn K mainGlobals "bool" = some none)
  (zstr:W.nsIn K mainGlobals "str" = some none)
  (zlist:W.nsIn K mainGlobals "list" = some none)
  (ztuple:W.nsIn K mainGlobals "tuple" = some none)
  (zall:W.nsIn K mainGlobals "all" = some none)
  (zany:W.nsIn K mainGlobals "any" = some none)
  (zsum:W.nsIn K mainGlobals "sum" = some none)
  (zrange:W.nsIn K mainGlobals "range" = some none)
  (zzip:W.nsIn K mainGlobals "zip" = some none)
  (zenumerate:W.nsIn K mainGlobals "enumerate" = some none)
  (zmax:W.nsIn K mainGlobals "max" = some none)
  (zreversed:W.nsIn K mainGlobals "reversed" = some none)
  (zabs:W.nsIn K mainGlobals "abs" = some none)
  (zLET:W.nsIn K mainGlobals "LETTERS" = some (some (.str letters tLET)))
  (zML:W.nsIn K mainGlobals "MOST_LETTERS" = some (some (.int 8 tML)))
  (zMR:W.nsIn K mainGlobals "MOST_ROWS" = some (some (.int 150 tMR)))
  (zMLn:W.nsIn K mainGlobals "MOST_LINES" = some (some (.int 4 tMLn)))
  (zMB:W.nsIn K mainGlobals "MEMBERS_BELOW" = some (some (.int 1200 tMB)))
  (rN:W.nsIn K mainGlobals "NAMED" = some (some (.ref aN)))
  (rK:W.nsIn K mainGlobals "KNOBS" = some (some (.ref aK)))
  (rB:W.nsIn K mainGlobals "BOUNDS" = some (some (.ref aB)))
  (rP:W.nsIn K mainGlobals "PARTS" = some (some (.ref aP)))
  (rM:W.nsIn K mainGlobals "MOST_OF" = some (some (.ref aM)))
  (dB:K.lookup aB=some ⟨.type "dict",none,.dict eB nB,#[]⟩)
  (kB:W.KeysLit w.params eB.toList)
  (oB:(aB == sysModules)=false)
  (dP:K.lookup aP=some ⟨.type "dict",none,.dict eP nP,#[]⟩)
  (kP:W.KeysLit w.params eP.toList)
  (oP:(aP == sysModules)=false)
  (dM:K.lookup aM=some ⟨.type "dict",none,.dict eM nM,#[]⟩)
  (kM:W.KeysLit w.params eM.toList)
  (oM:(aM == sysModules)=false)
  (qp1:W.nsIn K aP "board" = some (some (.ref p1)))
  (qp2:W.nsIn K aP "stop" = some (some (.ref p2)))
  (qp3:W.nsIn K aP "mute" = some (some (.ref p3)))
  (qp4:W.nsIn K aP "coupler" = some (some (.ref p4)))
  (qp5:W.nsIn K aP "rank" = some (some (.ref p5)))
  (qp6:W.nsIn K aP "line" = some (some (.ref p6)))
  (qb1:W.nsIn K aB "keys" = some (some (.ref b1)))
  (qb2:W.nsIn K aB "leap" = some (some (.ref b2)))
  (qb3:W.nsIn K aB "pipes" = some (some (.ref b3)))
  (qb4:W.nsIn K aB "wind" = some (some (.ref b4)))
  (qb5:W.nsIn K aB "shift" = some (some (.ref b5)))
  (qb6:W.nsIn K aB "low" = some (some (.ref b6)))
  (qb7:W.nsIn K aB "high" = some (some (.ref b7)))
  (qn:W.nsIn K aB "new" = some none)
  (qb:W.nsIn K aB "board" = some none)
  (qr:W.nsIn K aB "rank" = some none)
  (ql:W.nsIn K aM "line" = some none)
  (qm1:W.nsIn K aM "board" = some (some (.int 5 tm1)))
  (qm2:W.nsIn K aM "stop" = some (some (.int 24 tm2)))
  (qm3:W.nsIn K aM "coupler" = some (some (.int 12 tm3)))
  (qm4:W.nsIn K aM "mute" = some (some (.int 5 tm4)))
  (qm5:W.nsIn K aM "rank" = some (some (.int 12 tm5)))
  (uN:K.lookup aN=some ⟨.type "tuple",od_N,.seq #[.str "board" ttN_0,.str "rank" ttN_1,.str "stop" ttN_2,.str "coupler" ttN_3,.str "mute" ttN_4] n_N,sl_N⟩)
  (uK:K.lookup aK=some ⟨.type "tuple",od_K,.seq #[.str "stop" ttK_0,.str "coupler" ttK_1,.str "mute" ttK_2] n_K,sl_K⟩)
  (up1:K.lookup p1=some ⟨.type "tuple",od_p1,.seq #[.str "new" ttp1_0,.str "keys" ttp1_1] n_p1,sl_p1⟩)
  (up2:K.lookup p2=some ⟨.type "tuple",od_p2,.seq #[.str "new" ttp2_0,.str "board" ttp2_1] n_p2,sl_p2⟩)
  (up3:K.lookup p3=some ⟨.type "tuple",od_p3,.seq #[.str "new" ttp3_0,.str "board" ttp3_1] n_p3,sl_p3⟩)
  (up4:K.lookup p4=some ⟨.type "tuple",od_p4,.seq #[.str "new" ttp4_0,.str "board" ttp4_1,.str "board" ttp4_2,.str "leap" ttp4_3] n_p4,sl_p4⟩)
  (up5:K.lookup p5=some ⟨.type "tuple",od_p5,.seq #[.str "new" ttp5_0,.str "pipes" ttp5_1,.str "wind" ttp5_2] n_p5,sl_p5⟩)
  (up6:K.lookup p6=some ⟨.type "tuple",od_p6,.seq #[.str "rank" ttp6_0,.str "shift" ttp6_1,.str "low" ttp6_2,.str "high" ttp6_3] n_p6,sl_p6⟩)
  (uTt:K.lookup tDTt=some ⟨.type "tuple",oDTt,.seq #[.int 0 kDTt] nDTt,sDTt⟩)
  (ub1:K.lookup b1=some ⟨.type "tuple",od_b1,.seq #[.int (1) ttb1_0,.int (61) ttb1_1] n_b1,sl_b1⟩)
  (ub2:K.lookup b2=some ⟨.type "tuple",od_b2,.seq #[.int (-60) ttb2_0,.int (60) ttb2_1] n_b2,sl_b2⟩)
  (ub3:K.lookup b3=some ⟨.type "tuple",od_b3,.seq #[.int (1) ttb3_0,.int (97) ttb3_1] n_b3,sl_b3⟩)
  (ub4:K.lookup b4=some ⟨.type "tuple",od_b4,.seq #[.int (0) ttb4_0,.int (1000000000) ttb4_1] n_b4,sl_b4⟩)
  (ub5:K.lookup b5=some ⟨.type "tuple",od_b5,.seq #[.int (-200) ttb5_0,.int (200) ttb5_1] n_b5,sl_b5⟩)
  (ub6:K.lookup b6=some ⟨.type "tuple",od_b6,.seq #[.int (0) ttb6_0,.int (60) ttb6_1] n_b6,sl_b6⟩)
  (ub7:K.lookup b7=some ⟨.type "tuple",od_b7,.seq #[.int (0) ttb7_0,.int (60) ttb7_1] n_b7,sl_b7⟩)
  : ∃ fd:FuncData,(∀ (s:Shared) (v:Value),BindsTo s fd ⟨[v],[]⟩ [("_law_script",v)])/\∀ base:Heap,K.In base->base.Ns mainGlobals mg->Av l.prog w K mg base Bg 11 fa fd ["_law_script"] (Ou K):=by
 refine byC fun hng=>?_
 obtain ⟨aWh,dWh,FWh⟩:=FWh
 obtain ⟨aMd,dMd,FMd⟩:=FMd
 obtain ⟨aNm,dNm,FNm⟩:=FNm
 obtain ⟨aRo,dRo,FRo⟩:=FRo
 obtain ⟨aTo,dTo,FTo⟩:=FTo
 obtain ⟨aWi,dWi,FWi⟩:=FWi
 obtain ⟨aPa,dPa,FPa⟩:=FPa
 obtain ⟨aHp,dHp,FHp⟩:=FHp
 obtain ⟨aCl,dCl,FCl⟩:=FCl
 obtain ⟨aIk,dIk,FIk⟩:=FIk
 obtain ⟨aSb,dSb,FSb⟩:=FSb
 obtain ⟨aWm,dWm,FWm⟩:=FWm
 obtain ⟨aHr,dHr,FHr⟩:=FHr
 obtain ⟨aIr,dIr,FIr⟩:=FIr
 obtain ⟨aCk,dCk,FCk⟩:=FCk
 obtain ⟨aNu,dNu,FNu⟩:=FNu
 obtain ⟨aCa,dCa,FCa⟩:=FCa
 obtain ⟨aPl,dPl,FPl⟩:=FPl
 obtain ⟨aLi,dLi,FLi⟩:=FLi
 obtain ⟨aMy,dMy,FMy⟩:=FMy
 obtain ⟨aSt,dSt,FSt⟩:=FSt
 obtain ⟨aHa,dHa,FHa⟩:=FHa
 obtain ⟨aMe,dMe,FMe⟩:=FMe
 obtain ⟨aSh,dSh,FSh⟩:=FSh
 obtain ⟨aUn,dUn,FUn⟩:=FUn
 obtain ⟨aLe,dLe,FLe⟩:=FLe
 obtain ⟨aDc,dDc,FDc⟩:=FDc
 obtain ⟨aHk,dHk,FHk⟩:=FHk
 obtain ⟨aWa,dWa,FWa⟩:=FWa
 obtain ⟨aCq,dCq,FCq⟩:=FCq
 obtain ⟨aTb,dTb,FTb⟩:=FTb
 obtain ⟨aLp,dLp,FLp⟩:=FLp
 obtain ⟨aLq,dLq,FLq⟩:=FLq
 obtain ⟨aCb,dCb,FCb⟩:=FCb
 obtain ⟨aCr,dCr,FCr⟩:=FCr
 obtain ⟨aMu,dMu,FMu⟩:=FMu
 obtain ⟨aUk,dUk,FUk⟩:=FUk
 obtain ⟨aSk,dSk,FSk⟩:=FSk
 obtain ⟨aNb,dNb,FNb⟩:=FNb
 obtain ⟨aLl,dLl,FLl⟩:=FLl
 obtain ⟨aBs,dBs,FBs⟩:=FBs
 obtain ⟨aBa,dBa,FBa⟩:=FBa
 obtain ⟨aSo,dSo,FSo⟩:=FSo
 obtain ⟨aLt,dLt,FLt⟩:=FLt
 obtain ⟨aKa,dKa,FKa⟩:=FKa
 obtain ⟨aWs,dWs,FWs⟩:=FWs
 obtain ⟨aCe,dCe,FCe⟩:=FCe
 obtain ⟨aLw,dLw,FLw⟩:=FLw
 obtain ⟨aDn,dDn,FDn⟩:=FDn
 obtain ⟨aDw,dDw,FDw⟩:=FDw
 obtain ⟨aLs,dLs,FLs⟩:=FLs
 obtain ⟨aLc,dLc,FLc⟩:=FLc
 obtain ⟨aLg,dLg,FLg⟩:=FLg
 obtain ⟨aLm,dLm,FLm⟩:=FLm
 obtain ⟨aLd,dLd,FLd⟩:=FLd
 obtain ⟨aMt,dMt,FMt⟩:=FMt
 obtain ⟨aTy,dTy,FTy⟩:=FTy
 obtain ⟨aWy,dWy,FWy⟩:=FWy
 obtain ⟨aWq,dWq,FWq⟩:=FWq
 refine byC fun w_=>?_;obtain ⟨aOi,iOi,dOi,FOi⟩:=FOi;refine w_ ?_
 obtain ⟨aOb,iOb,dOb,FOb⟩:=FOb
 obtain ⟨aOc,iOc,dOc,FOc⟩:=FOc
 obtain ⟨aOk,iOk,dOk,FOk⟩:=FOk
 obtain ⟨aOo,iOo,dOo,FOo⟩:=FOo
 obtain ⟨aBk,iBk,dBk,FBk⟩:=FBk
 obtain ⟨aOp,iOp,dOp,FOp⟩:=FOp
 obtain ⟨aOr,iOr,dOr,FOr⟩:=FOr
 obtain ⟨aOq,iOq,dOq,FOq⟩:=FOq
 obtain ⟨aOe,iOe,dOe,FOe⟩:=FOe
 obtain ⟨aOs,iOs,dOs,FOs⟩:=FOs
 obtain ⟨aOm,iOm,dOm,FOm⟩:=FOm
 obtain ⟨aOx,iOx,dOx,FOx⟩:=FOx
 obtain ⟨aOz,iOz,dOz,FOz⟩:=FOz
 obtain ⟨aRi,iRi,dRi,FRi⟩:=FRi
 obtain ⟨aRs,iRs,dRs,FRs⟩:=FRs
 refine hng ?_
 have e:=hfa.symm.trans (W.mg_of X G aZ)
 cases e
 have FTt:=Xd (st:=XF) lTt cTt kTt
 have FZ:=Pu (st:=Nv) lZ cZ kZ
 have bTt:Binds K (W.fnOf "trail_to" "trail_to" (DN XF) (Cm XF) (Af XF) (.ref tDTt) kVTt dcTt pmTt anTt cdTt ctTt) ["organ","knobs","held","key","least"] []:=aJ uTt rfl fun us hl=>by obtain ⟨_,_,_,_,_,rfl⟩:=UL5 hl; exact ⟨_,rfl,rfl⟩
 have gN:KTup K aN [.str "board",.str "rank",.str "stop",.str "coupler",.str "mute"]:=(⟨_,_,_,uN,rfl,rfl,by show 5<=sizeLine; decide,.cons ⟨_,rfl⟩ (.cons ⟨_,rfl⟩ (.cons ⟨_,rfl⟩ (.cons ⟨_,rfl⟩ (.cons ⟨_,rfl⟩ (.nil)))))⟩)
 have gK:KTup K aK [.str "stop",.str "coupler",.str "mute"]:=(⟨_,_,_,uK,rfl,rfl,by show 3<=sizeLine; decide,.cons ⟨_,rfl⟩ (.cons ⟨_,rfl⟩ (.cons ⟨_,rfl⟩ (.nil)))⟩)
 have gp1:KTup K p1 [.str "new",.str "keys"]:=(⟨_,_,_,up1,rfl,rfl,by show 2<=sizeLine; decide,.cons ⟨_,rfl⟩ (.cons ⟨_,rfl⟩ (.nil))⟩)
 have gp2:KTup K p2 [.str "new",.str "board"]:=(⟨_,_,_,up2,rfl,rfl,by show 2<=sizeLine; decide,.cons ⟨_,rfl⟩ (.cons ⟨_,rfl⟩ (.nil))⟩)
 have gp3:KTup K p3 [.str "new",.str "board"]:=(⟨_,_,_,up3,rfl,rfl,by show 2<=sizeLine; decide,.cons ⟨_,rfl⟩ (.cons ⟨_,rfl⟩ (.nil))⟩)
 have gp4:KTup K p4 [.str "new",.str "board",.str "board",.str "leap"]:=(⟨_,_,_,up4,rfl,rfl,by show 4<=sizeLine; decide,.cons ⟨_,rfl⟩ (.cons ⟨_,rfl⟩ (.cons ⟨_,rfl⟩ (.cons ⟨_,rfl⟩ (.nil))))⟩)
 have gp5:KTup K p5 [.str "new",.str "pipes",.str "wind"]:=(⟨_,_,_,up5,rfl,rfl,by show 3<=sizeLine; decide,.cons ⟨_,rfl⟩ (.cons ⟨_,rfl⟩ (.cons ⟨_,rfl⟩ (.nil)))⟩)
 have gp6:KTup K p6 [.str "rank",.str "shift",.str "low",.str "high"]:=(⟨_,_,_,up6,rfl,rfl,by show 4<=sizeLine; decide,.cons ⟨_,rfl⟩ (.cons ⟨_,rfl⟩ (.cons ⟨_,rfl⟩ (.cons ⟨_,rfl⟩ (.nil))))⟩)
 have gb1:KTup K b1 [.int (1),.int (61)]:=(⟨_,_,_,ub1,rfl,rfl,by show 2<=sizeLine; decide,.cons ⟨_,rfl⟩ (.cons ⟨_,rfl⟩ (.nil))⟩)
 have gb2:KTup K b2 [.int (-60),.int (60)]:=(⟨_,_,_,ub2,rfl,rfl,by show 2<=sizeLine; decide,.cons ⟨_,rfl⟩ (.cons ⟨_,rfl⟩ (.nil))⟩)
 have gb3:KTup K b3 [.int (1),.int (97)]:=(⟨_,_,_,ub3,rfl,rfl,by show 2<=sizeLine; decide,.cons ⟨_,rfl⟩ (.cons ⟨_,rfl⟩ (.nil))⟩)
 have gb4:KTup K b4 [.int (0),.int (1000000000)]:=(⟨_,_,_,ub4,rfl,rfl,by show 2<=sizeLine; decide,.cons ⟨_,rfl⟩ (.cons ⟨_,rfl⟩ (.nil))⟩)
 have gb5:KTup K b5 [.int (-200),.int (200)]:=(⟨_,_,_,ub5,rfl,rfl,by show 2<=sizeLine; decide,.cons ⟨_,rfl⟩ (.cons ⟨_,rfl⟩ (.nil))⟩)
 have gb6:KTup K b6 [.int (0),.int (60)]:=(⟨_,_,_,ub6,rfl,rfl,by show 2<=sizeLine; decide,.cons ⟨_,rfl⟩ (.cons ⟨_,rfl⟩ (.nil))⟩)
 have gb7:KTup K b7 [.int (0),.int (60)]:=(⟨_,_,_,ub7,rfl,rfl,by show 2<=sizeLine; decide,.cons ⟨_,rfl⟩ (.cons ⟨_,rfl⟩ (.nil))⟩)
 have F0:PP K aB aP aM:=⟨⟨⟨_,qp1,gp1⟩,⟨_,qp2,gp2⟩,⟨_,qp3,gp3⟩,⟨_,qp4,gp4⟩,⟨_,qb1,gb1⟩,⟨_,qb2,gb2⟩,qn,qb,⟨_,qm1⟩,⟨_,qm2⟩,⟨_,qm3⟩,⟨_,qm4⟩⟩,⟨_,qp5,gp5⟩,⟨_,qp6,gp6⟩,⟨_,qb3,gb3⟩,⟨_,qb4,gb4⟩,⟨_,qb5,gb5⟩,⟨_,qb6,gb6⟩,⟨_,qb7,gb7⟩,qr,⟨_,qm5⟩,ql⟩
 have T:Txt K w.params mg C Cy aN aK aB aP aM:=⟨W.mg_none_of X G zlen,W.mg_none_of X G zisinstance,W.mg_none_of X G zint,W.mg_none_of X G zbool,W.mg_none_of X G zstr,W.mg_none_of X G zlist,W.mg_none_of X G ztuple,W.mg_none_of X G zall,W.mg_none_of X G zany,W.mg_none_of X G zsum,W.mg_none_of X G zrange,W.mg_none_of X G zzip,W.mg_none_of X G zenumerate,W.mg_none_of X G zmax,W.mg_none_of X G zreversed,W.mg_none_of X G zabs,⟨_,W.mg_of X G zLET⟩,⟨_,W.mg_of X G zML⟩,⟨_,W.mg_of X G zMR⟩,⟨_,W.mg_of X G zMLn⟩,⟨_,W.mg_of X G zMB⟩,W.mg_of X G rN,W.mg_of X G rK,W.mg_of X G rB,W.mg_of X G rP,W.mg_of X G rM,gN,gK,⟨⟨_,_,dB,kB⟩,oB⟩,⟨⟨_,_,dP,kP⟩,oP⟩,⟨⟨_,_,dM,kM⟩,oM⟩,⟨pg,hd,po,sa⟩,W.mg_of X G aC,⟨pg2,hd2,po2,sa2⟩,W.mg_of X G aCy,nr2,n_row_list_,n_board_list_,n_rank_list_,n_knob_rows_,n_board_numbers_,n_rank_numbers_,n_knob_numbers_,n_key_places_,n_pipe_places_,n_knob_lines_,n_step_sets_⟩
 have N:qF K mg C Cy ⟨fWh,fMd,fNm,fRo,fTo,fWi,fPa,fHp,fCl,fIk,fSb,fWm,fHr,fIr,fCk,fNu,fCa,fPl,fLi,fMy,fSt,fHa,fMe,fSh,fUn,fLe,fDc,fHk,fWa,fCq,fTb,fTt,fLp,fLq,fCb,fCr,fMu,fUk,fSk,fNb,fLl,fBs,fBa,fSo,fLt,fKa,fWs,fCe,fLw,fDn,fDw,fLs,fLc,fLg,fLm,fLd,fMt,fTy,fWy,fWq,fOi,fOb,fOc,fOk,fOo,fBk,fOp,fOr,fOq,fOe,fOs,fOm,fOx,fOz,fRi,fRs,_,_,_,_,_,_,_,_,_,_,_,_,_,_,_,_,_,_,_,_,_,_,_,_,_,_,_,_,_,_,_,_,_,_,_,_,_,_,_,_,_,_,_,_,_,_,_,_,_,_,_,_,_,_,_,_,_,_,_,_,_,_,_,_,_,_,_,_,_,_,_,_,_,_,_,_⟩:=⟨⟨FWh,(Gs FWh),W.mg_of X G aWh⟩,⟨FMd,(Fw FMd),W.mg_of X G aMd⟩,⟨FNm,(Gs FNm),W.mg_of X G aNm⟩,⟨FRo,(F_ FRo),W.mg_of X G aRo⟩,⟨FTo,(Fw FTo),W.mg_of X G aTo⟩,⟨FWi,(F_ FWi),W.mg_of X G aWi⟩,⟨FPa,(Fw FPa),W.mg_of X G aPa⟩,⟨FHp,(F_ FHp),W.mg_of X G aHp⟩,⟨FCl,(Gs FCl),W.mg_of X G aCl⟩,⟨FIk,(Fw FIk),W.mg_of X G aIk⟩,⟨FSb,(F_ FSb),W.mg_of X G aSb⟩,⟨FWm,(F_ FWm),W.mg_of X G aWm⟩,⟨FHr,(F_ FHr),W.mg_of X G aHr⟩,⟨FIr,(F_ FIr),W.mg_of X G aIr⟩,⟨FCk,(Gs FCk),W.mg_of X G aCk⟩,⟨FNu,(Gs FNu),W.mg_of X G aNu⟩,⟨FCa,(Gs FCa),W.mg_of X G aCa⟩,⟨FPl,(Gs FPl),W.mg_of X G aPl⟩,⟨FLi,(F_ FLi),W.mg_of X G aLi⟩,⟨FMy,(Gs FMy),W.mg_of X G aMy⟩,⟨FSt,(Gs FSt),W.mg_of X G aSt⟩,⟨FHa,(F_ FHa),W.mg_of X G aHa⟩,⟨FMe,(Gs FMe),W.mg_of X G aMe⟩,⟨FSh,(Fw FSh),W.mg_of X G aSh⟩,⟨FUn,(Gs FUn),W.mg_of X G aUn⟩,⟨FLe,(Fw FLe),W.mg_of X G aLe⟩,⟨FDc,(Fw FDc),W.mg_of X G aDc⟩,⟨FHk,(F_ FHk),W.mg_of X G aHk⟩,⟨FWa,(Fw FWa),W.mg_of X G aWa⟩,⟨FCq,(Fw FCq),W.mg_of X G aCq⟩,⟨FTb,(Fw FTb),W.mg_of X G aTb⟩,⟨FTt,bTt,W.mg_of X G aTt⟩,⟨FLp,(Fw FLp),W.mg_of X G aLp⟩,⟨FLq,(Gs FLq),W.mg_of X G aLq⟩,⟨FCb,(F_ FCb),W.mg_of X G aCb⟩,⟨FCr,(F_ FCr),W.mg_of X G aCr⟩,⟨FMu,(F_ FMu),W.mg_of X G aMu⟩,⟨FUk,(Fw FUk),W.mg_of X G aUk⟩,⟨FSk,(Fw FSk),W.mg_of X G aSk⟩,⟨FNb,(Fw FNb),W.mg_of X G aNb⟩,⟨FLl,(Fw FLl),W.mg_of X G aLl⟩,⟨FBs,(Fw FBs),W.mg_of X G aBs⟩,⟨FBa,(Fw FBa),W.mg_of X G aBa⟩,⟨FSo,(Fw FSo),W.mg_of X G aSo⟩,⟨FLt,(Vx FLt),W.mg_of X G aLt⟩,⟨FKa,(Vx FKa),W.mg_of X G aKa⟩,⟨FWs,(Vx FWs),W.mg_of X G aWs⟩,⟨FCe,(F_ FCe),W.mg_of X G aCe⟩,⟨FLw,(Gs FLw),W.mg_of X G aLw⟩,⟨FDn,(F_ FDn),W.mg_of X G aDn⟩,⟨FDw,(F_ FDw),W.mg_of X G aDw⟩,⟨FLs,(Vx FLs),W.mg_of X G aLs⟩,⟨FLc,(Fw FLc),W.mg_of X G aLc⟩,⟨FLg,(Gs FLg),W.mg_of X G aLg⟩,⟨FLm,(Gs FLm),W.mg_of X G aLm⟩,⟨FLd,(Fw FLd),W.mg_of X G aLd⟩,⟨FMt,(Fw FMt),W.mg_of X G aMt⟩,⟨FTy,(Vx FTy),W.mg_of X G aTy⟩,⟨FWy,(oK FWy),W.mg_of X G aWy⟩,⟨FWq,(oA FWq),W.mg_of X G aWq⟩,⟨FOi,(F_ FOi),⟨mkC,aOi,iOi,kc⟩⟩,⟨FOb,(Gs FOb),⟨aOb,iOb,FOb.kp⟩⟩,⟨FOc,(Gs FOc),⟨aOc,iOc,FOc.kp⟩⟩,⟨FOk,(Fw FOk),⟨aOk,iOk,FOk.kp⟩⟩,⟨FOo,(F_ FOo),⟨aOo,iOo,FOo.kp⟩⟩,⟨FBk,(F_ FBk),⟨aBk,iBk,FBk.kp⟩⟩,⟨FOp,(F_ FOp),⟨aOp,iOp,FOp.kp⟩⟩,⟨FOr,(Gs FOr),⟨aOr,iOr,FOr.kp⟩⟩,⟨FOq,(Gs FOq),⟨aOq,iOq,FOq.kp⟩⟩,⟨FOe,(Fw FOe),⟨aOe,iOe,FOe.kp⟩⟩,⟨FOs,(F_ FOs),⟨aOs,iOs,FOs.kp⟩⟩,⟨FOm,(F_ FOm),⟨aOm,iOm,FOm.kp⟩⟩,⟨FOx,(F_ FOx),⟨aOx,iOx,FOx.kp⟩⟩,⟨FOz,(Gs FOz),⟨aOz,iOz,FOz.kp⟩⟩,⟨FRi,(Fw FRi),⟨mkC2,aRi,iRi,kc2⟩⟩,⟨FRs,(F_ FRs),⟨aRs,iRs,FRs.kp⟩⟩⟩
 exact ⟨W.fnOf "law" "law" (DN Nv) (Cm Nv) (Af Nv) .none kVZ dcZ pmZ anZ cdZ ctZ,fun s v=>.of_eq rfl,fun base _ _=>ZS FZ N T F0⟩
theorem walk {l:W.OpenLaw} {q:Program} {loose:List Str} {XP:(Str->Option Value)->Heap->Prop} {YP:World->Heap->Prop} {d:DefRec} {K:Params->W.Frag} (hn:l.most=some 63) (hdf:d.params.defaults=[])
  (hY:∀ (w:World) (h:Heap),YP w h->(K w.params).In h)
  (F:∀ (w:World) (mg:Str->Option Value) (fa:Addr) (h:Heap),(K w.params).In h->h.Ns mainGlobals mg->mg d.name=some (.ref fa) ->
   ∃ fd:FuncData,(∀ (s:Shared) (u:Value),BindsTo s fd ⟨[u],[]⟩ [("_law_script",u)])/\∀ base:Heap,(K w.params).In base->base.Ns mainGlobals mg->Av l.prog w (K w.params) mg base Bg 11 fa fd ["_law_script"] (Ou (K w.params))) :
  W.WalkO q loose XP YP l.row.toRowW d [] (fun f vs=>PySem.call f vs) :=
 L2.V9 (n:=63) (k:=11) (x:="_law_script") (CX:=fun _=>Bg) (sp:=fun w=>Ou (K w.params)) hn (by decide) hdf ⟨rfl,by decide,by decide⟩ hY F (fun _ _ a ns hl _ hS=>⟨a,ns,rfl,hS,hl,fun _=>rfl⟩) fun _ _ _ _ _ z=>z
end K30
open PySem PySem.W PyProof.Rows
noncomputable def PySem.W.Fast.tw14596900640734524597:Unit:=()
noncomputable def PySem.W.Fast.tw958900595251421356:Unit:=()
noncomputable def PySem.W.Fast.tw17003528524579158757:Unit:=()
noncomputable def PySem.W.Fast.tw17523781272981808361:Unit:=()
noncomputable def PySem.W.Fast.tw8535858482730794354:Unit:=()
noncomputable def PySem.W.Fast.tw14954538361237200209:Unit:=()
noncomputable def PySem.W.Fast.tw13404153244914306855:Unit:=()
noncomputable def PySem.W.Fast.tw18295564418378951038:Unit:=()
noncomputable def PySem.W.Fast.tw6585085781769740492:Unit:=()
noncomputable def PySem.W.Fast.tw2408797231930477483:Unit:=()
noncomputable def PySem.W.Fast.tw17416610346387152772:Unit:=()
noncomputable def PySem.W.Fast.tw17129761194030462609:Unit:=()
noncomputable def PySem.W.Fast.tw7778067311409649871:Unit:=()
noncomputable def PySem.W.Fast.tw9448033936921886583:Unit:=()
noncomputable def PySem.W.Fast.tw12189037825858543796:Unit:=()
noncomputable def PySem.W.Fast.tw17266339230937935404:Unit:=()
noncomputable def PySem.W.Fast.tw14804763022645698395:Unit:=()
noncomputable def PySem.W.Fast.tw18096882976834967708:Unit:=()
noncomputable def PySem.W.Fast.tw4313159191796112614:Unit:=()
noncomputable def PySem.W.Fast.tw355424013566034320:Unit:=()
noncomputable def PySem.W.Fast.tw8397518438684807235:Unit:=()
noncomputable def PySem.W.Fast.tw13519423621794828987:Unit:=()
noncomputable def PySem.W.Fast.tw11999000931013501170:Unit:=()
noncomputable def PySem.W.Fast.tw8895184780460167046:Unit:=()
noncomputable def PySem.W.Fast.tw6733322521943243788:Unit:=()
noncomputable def PySem.W.Fast.tw9892016029618959320:Unit:=()
noncomputable def PySem.W.Fast.tw11936069909620224451:Unit:=()
noncomputable def PySem.W.Fast.tw1595505475719369330:Unit:=()
noncomputable def PySem.W.Fast.tw6617356675845798622:Unit:=()
noncomputable def PySem.W.Fast.tw4941903196244578783:Unit:=()
noncomputable def PySem.W.Fast.tw4773561282492596675:Unit:=()
noncomputable def PySem.W.Fast.tw12168403269646562347:Unit:=()
noncomputable def PySem.W.Fast.tw16583183907987924322:Unit:=()
noncomputable def PySem.W.Fast.tw10527532341780714078:Unit:=()
noncomputable def PySem.W.Fast.tw5888462261211793026:Unit:=()
noncomputable def PySem.W.Fast.tw4608957996454596409:Unit:=()
noncomputable def PySem.W.Fast.tw17884452911226001815:Unit:=()
noncomputable def PySem.W.Fast.tw16402265072686903022:Unit:=()
noncomputable def PySem.W.Fast.tw16774148219464935088:Unit:=()
noncomputable def PySem.W.Fast.tw7890569393112575294:Unit:=()
noncomputable def PySem.W.Fast.tw11772621251360708600:Unit:=()
noncomputable def PySem.W.Fast.tw4976473504819400627:Unit:=()
noncomputable def PySem.W.Fast.tw13090836961254042758:Unit:=()
noncomputable def PySem.W.Fast.tw1546130246859095873:Unit:=()
noncomputable def PySem.W.Fast.tw12686578754181866474:Unit:=()
noncomputable def PySem.W.Fast.tw5330797616701164456:Unit:=()
noncomputable def PySem.W.Fast.tw3780050545173645657:Unit:=()
noncomputable def PySem.W.Fast.tw11967430427085805999:Unit:=()
noncomputable def PySem.W.Fast.tw17664186914006489675:Unit:=()
noncomputable def PySem.W.Fast.tw16672768157695228749:Unit:=()
noncomputable def PySem.W.Fast.tw8817720904368811500:Unit:=()
noncomputable def PySem.W.Fast.tw1093730484783768800:Unit:=()
noncomputable def PySem.W.Fast.tw8046421577769922399:Unit:=()
noncomputable def PySem.W.Fast.tw15156975913968732032:Unit:=()
noncomputable def PySem.W.Fast.tw17059322148435867275:Unit:=()
noncomputable def PySem.W.Fast.tw13206111556986640551:Unit:=()
noncomputable def PySem.W.Fast.tw1050231782587751308:Unit:=()
noncomputable def PySem.W.Fast.tw10128516792505707495:Unit:=()
noncomputable def PySem.W.Fast.tw3679712794318614466:Unit:=()
noncomputable def PySem.W.Fast.tw11026159822542965535:Unit:=()
noncomputable def PySem.W.Fast.tw8759339980018317728:Unit:=()
noncomputable def PySem.W.Fast.tw12157018532388272327:Unit:=()
noncomputable def PySem.W.Fast.tw6348016365888562539:Unit:=()
noncomputable def PySem.W.Fast.tw2183351625529677913:Unit:=()
noncomputable def PySem.W.Fast.tw10584796383145563206:Unit:=()
noncomputable def PySem.W.Fast.tw1379883292902414529:Unit:=()
noncomputable def PySem.W.Fast.tw10549588056240275143:Unit:=()
noncomputable def PySem.W.Fast.tw8580429104509014058:Unit:=()
noncomputable def PySem.W.Fast.tw7574800508667960299:Unit:=()
noncomputable def PySem.W.Fast.tw7209592781915626369:Unit:=()
noncomputable def PySem.W.Fast.tw11077277007376113453:Unit:=()
noncomputable def PySem.W.Fast.tw1912204620181848679:Unit:=()
noncomputable def PySem.W.Fast.tw2475894738079270732:Unit:=()
noncomputable def PySem.W.Fast.tw11465347552439664418:Unit:=()
noncomputable def PySem.W.Fast.tw1491893350882795404:Unit:=()
noncomputable def PySem.W.Fast.tw1139892447073388651:Unit:=()
noncomputable def PySem.W.Fast.tw12567562080738509838:Unit:=()
noncomputable def PySem.W.Fast.tw10082367665124871320:Unit:=()
noncomputable def PySem.W.Fast.tw981916175390473503:Unit:=()
noncomputable def PySem.W.Fast.tw491283822103660857:Unit:=()
noncomputable def PySem.W.Fast.tw3683628770346695617:Unit:=()
noncomputable def PySem.W.Fast.tw11720228551430260187:Unit:=()
noncomputable def PySem.W.Fast.tw11091768961169032726:Unit:=()
noncomputable def PySem.W.Fast.tw1899585099588626642:Unit:=()
noncomputable def PySem.W.Fast.tw7957900735601997311:Unit:=()
noncomputable def PySem.W.Fast.tw6588029052256908074:Unit:=()
noncomputable def PySem.W.Fast.tw18347319654906290540:Unit:=()
noncomputable def PySem.W.Fast.tw4998335200453586826:Unit:=()
noncomputable def PySem.W.Fast.tw7798449175820619706:Unit:=()
noncomputable def PySem.W.Fast.tw6548965893342257203:Unit:=()
noncomputable def PySem.W.Fast.tw14016465964713137022:Unit:=()
noncomputable def PySem.W.Fast.tw5435058010363855806:Unit:=()
noncomputable def PySem.W.Fast.tw4481017170139641261:Unit:=()
noncomputable def PySem.W.Fast.tw4668671864169328166:Unit:=()
noncomputable def PySem.W.Fast.tw13209490767337343069:Unit:=()
noncomputable def PySem.W.Fast.tw9868934057315266586:Unit:=()
noncomputable def PySem.W.Fast.tw14974996838688507185:Unit:=()
noncomputable def PySem.W.Fast.tw11110874123668818241:Unit:=()
noncomputable def PySem.W.Fast.tw10484730764894984343:Unit:=()
noncomputable def PySem.W.Fast.tw2786092772827830583:Unit:=()
noncomputable def PySem.W.Fast.tw5014620739254795713:Unit:=()
noncomputable def PySem.W.Fast.tw10486633554892521962:Unit:=()
noncomputable def PySem.W.Fast.tw13179307427208766893:Unit:=()
noncomputable def PySem.W.Fast.tw17360503083710078147:Unit:=()
noncomputable def PySem.W.Fast.tw7557602480765017596:Unit:=()
noncomputable def PySem.W.Fast.tw4514319467844993568:Unit:=()
noncomputable def PySem.W.Fast.tw13804113784673222737:Unit:=()
noncomputable def PySem.W.Fast.tw18121528469310166520:Unit:=()
noncomputable def PySem.W.Fast.tw1976581223472510623:Unit:=()
noncomputable def PySem.W.Fast.tw12152826261301708744:Unit:=()
noncomputable def PySem.W.Fast.tw12685546221432327245:Unit:=()
noncomputable def PySem.W.Fast.tw6151113898507917507:Unit:=()
noncomputable def PySem.W.Fast.tw1970061815344151179:Unit:=()
noncomputable def PySem.W.Fast.tw15055378185088910224:Unit:=()
noncomputable def PySem.W.Fast.tw8742276846356995639:Unit:=()
noncomputable def PySem.W.Fast.tw9914506627581164270:Unit:=()
noncomputable def PySem.W.Fast.tw1384793325965695464:Unit:=()
noncomputable def PySem.W.Fast.tw911296605629544138:Unit:=()
noncomputable def PySem.W.Fast.tw1993652168900981327:Unit:=()
noncomputable def PySem.W.Fast.tw10297636253390802696:Unit:=()
noncomputable def PySem.W.Fast.tw8790166202387591249:Unit:=()
noncomputable def PySem.W.Fast.tw3787682318051358964:Unit:=()
noncomputable def PySem.W.Fast.tw17445322961607192082:Unit:=()
noncomputable def PySem.W.Fast.tw11652862882081917639:Unit:=()
noncomputable def PySem.W.Fast.tw11553492232661175713:Unit:=()
noncomputable def PySem.W.Fast.tw4234306397951955785:Unit:=()
noncomputable def PySem.W.Fast.tw14727379236439630307:Unit:=()
set_option maxRecDepth 100000 in
set_option maxHeartbeats 0 in
theorem PySem.Challenge.cw_windchest_k30_whole_board_and_walk_holds : PySem.Challenge.rw_windchest_k30_whole_board_and_walk.Holds := by
 w_on; o_law; k_head; (case hw=>w_witness2)
 k_fill
 refine K30.walk (l:=PySem.Challenge.rw_windchest_k30_whole_board_and_walk) rfl rfl (fun w h Y=>PySem.W.kIn_of Y) ?F
 case F =>
  intro w mg fa h KX G hmg
  refine' K30.Z4 KX G hmg ?_ ?_ ?_ ?_ ?_ ?_ ?_ ?_ ?_ ?_ ?_ ?_ ?_ ?_ ?_ ?_ ?_ ?_ ?_ ?_ ?_ ?_ ?_ ?_ ?_ ?_ ?_ ?_ ?_ ?_ ?_ ?_ ?_ ?_ ?_ ?_ ?_ ?_ ?_ ?_ ?_ ?_ ?_ ?_ ?_ ?_ ?_ ?_ ?_ ?_ ?_ ?_ ?_ ?_ ?_ ?_ ?_ ?_ ?_ ?_ ?_ ?_ ?_ ?_ ?_ ?_ ?_ ?_ ?_ ?_ ?_ ?_ ?_ ?_ ?_ ?_ ?_ ?_ ?_ ?_ ?_ ?_ ?_ ?_ ?_ ?_ ?_ ?_ ?_ ?_ ?_ ?_ ?_ ?_ ?_ ?_ ?_ ?_ ?_ ?_ ?_ ?_ ?_ ?_ ?_ ?_ ?_ ?_ ?_ ?_ ?_ ?_ ?_ ?_ ?_ ?_ ?_ ?_ ?_ ?_ ?_ ?_ ?_ ?_ ?_ ?_ ?_ ?_ ?_ ?_ ?_ ?_ ?_ ?_ ?_ ?_ ?_ ?_ ?_ ?_ ?_ ?_ ?_ ?_ ?_ ?_ ?_ ?_ ?_ ?_ ?_ ?_ ?_ ?_ ?_ ?_ ?_ ?_ ?_ ?_ ?_ ?_ ?_ ?_ ?_ ?_ ?_ ?_ ?_ ?_ ?_ ?_ ?_ ?_ ?_ ?_ ?_ ?_ ?_ ?_ ?_ ?_
  all_goals first | (k_is; done) | (refine' ⟨?a,_,L2.Pu ?l ?c ?k⟩; (case a=>k_is); (case l=>k_is); (case c=>k_is); case k=>k_is) | (refine' ⟨?a,?i,_,L2.Pu ?l ?c ?k⟩; (case a=>k_is); (case i=>k_is); (case l=>k_is); (case c=>k_is); case k=>k_is) | (k_keys; done) | decide | kernel_rfl! | skip
end PartK30z
