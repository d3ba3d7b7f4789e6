import PyProof.Rows.All
import Wide.All
import OpenK.AllK
import Wide.FinOn
import Lean
import PyProof.EqAt
import PyProof.EqKinds
import PyProof.TupleCall
import PyProof.ZipIter
import PyProof.WalksEnum
import PyProof.EnumMake
import PyProof.NeKinds
import KE.KDictList
import PyProof.Rows.SetFrom
import PyProof.StrWalks
import PyProof.CollectWalk
import PyProof.Rows.SortWalk
import PyProof.Rows.BitMore
import PyProof.Rows.IntCalls
import KE.KRevIter
import PyProof.SetRoads
import OpenK.KTop
import PyProof.Rows.StrWeight2
import PyProof.SumWalk
import PyProof.SliceList
import KE.KSortAsk
import KE.KSortTup
import PyProof.SeqI3
import KE.KLam
import PyProof.Rows.CallKwBuiltin
import PyProof.StationsW
import PyProof.NsDelKeeps
import KE.KUnpack
import PyProof.IsRules
import PyProof.DictWalks
import PyProof.SumAny
import PyProof.Meets
import PyProof.MeetsIn
import PyProof.Conv_int
import PyProof.StrLawsIn
import PyProof.MeetsStr2
import PyProof.Rows.CatFin
import PyProof.Rows.StrClose
import PyProof.PureStr
import PySem.Challenge.RW_windchest_k74_whole_barrels_joined
def ae:=@List.getElem?_eq_getElem
def af:=@List.getElem?_eq_some_iff
def ag:=@List.length_map
def ah:=@Nat.le_refl
def ai:=@List.mem_singleton
def am:=@List.mem_cons_self
def ar:=@List.length_append
def av:=@List.mem_cons_of_mem
def ax:=@List.getElem?_map
def ay:=@Nat.lt_of_lt_of_le
def aE:=@Option.map_eq_some_iff
def aI:=@List.mem_of_getElem?
def aS:=@Nat.ne_of_lt
def aT:=@List.mem_append_right
def bi:=@List.mem_cons
def bo:=@List.size_toArray
def bp:=@List.mem_append
def bq:=@List.take_of_length_le
def br:=@Nat.le_trans
def bt:=@List.mem_map
def bv:=@Nat.lt_of_le_of_lt
def bE:=@PySem.F.plainAttrs_list
def bX:=@List.getD_eq_getElem?_getD
def ce:=@Int.toNat_natCast
def cf:=@List.take_add_one
def ci:=@List.length_take
def ck:=@List.length_singleton
def cm:=@Nat.zero_le
def cq:=@List.length_replicate
def cr:=@PySem.F.slot_list_append
def cy:=@PySem.F.type_list_append
def cE:=@List.map_map
def cK:=@List.filter_eq_self
def cS:=@List.length_range
def dc:=@List.length_cons
def de:=@PyProof.Rows.boot_isinstance
def df:=@List.pairwise_iff_getElem
def dl:=@Bool.false_ne_true
def dr:=@List.mem_filter
def dt:=@List.mem_append_left
def dv:=@List.mem_range
def dA:=@List.map_append
def dE:=@List.getElem?_append_left
def dL:=@Option.isSome_iff_exists
def dQ:=@PySem.boot_len
def dS:=@List.length_filter_le
def ed:=@Nat.lt_irrefl
def ee:=@List.map_cons
def eu:=@Bool.eq_iff_iff
def eD:=@List.take_length
def eI:=@PyProof.Rows.boot_sorted
def eJ:=@List.mem_map_of_mem
def eR:=@List.getElem_mem
def eS:=@List.getElem?_append_right
def eT:=@Nat.succ_le_succ
def fe:=@List.replicate_succ
def ff:=@List.getElem?_eq_none
def fg:=@List.dropLast_concat
def fh:=@List.all_eq_true
def fk:=@PyProof.Rows.boot_list
def fm:=@Nat.lt_succ_of_lt
def fo:=@List.pairwise_map
def fq:=@Nat.ne_of_gt
def ft:=@List.eq_nil_or_concat
def fw:=@List.mem_iff_getElem?
def fz:=@Int.le_refl
def fA:=@List.take_append_of_le_length
def fE:=@List.filter_cons
def fF:=@List.pairwise_append
def fI:=@Nat.le_of_lt
def fN:=@List.ext_getElem?
def fR:=@List.nodup_cons
def fS:=@List.getElem?_range
def fT:=@List.take_left'
def ge:=@PyProof.Rows.boot_max
def gg:=@Int.emod_lt_of_pos
def gp:=@List.mem_iff_getElem
def gs:=@List.getElem?_of_mem
def gt:=@List.flatMap_cons
def gx:=@Nat.add_le_add_left
def gy:=@List.length_eq_zero_iff
def gz:=@Nat.lt_succ_self
def gE:=@List.length_drop
def gI:=@List.lookup_cons
def gL:=@List.pairwise_cons
def gS:=@List.concat_eq_append
def gT:=@PyProof.Rows.boot_min
def gX:=@Int.emod_nonneg
def hG:=@List.flatten_cons
def hU:=@List.append_assoc
def hV:=@List.foldl_append
def hZ:=@List.sum_cons
def ia:=@List.mem_of_mem_take
def ib:=@Bool.and_eq_true
def ic:=@List.Pairwise.imp_of_mem
def ij:=@List.append_nil
def im:=@List.getElem?_replicate
def io:=@List.length_set
def ip:=@List.filter_map
def iq:=@Nat.not_lt_zero
def iA:=@List.pairwise_singleton
def iE:=@List.filter_append
def iF:=@PySem.F.slot_dict_getitem.lookup
def iL:=@Int.le_ediv_iff_mul_le
def iN:=@Int.ediv_lt_iff_lt_mul
def iO:=@Nat.le_succ
def iP:=@Nat.le_succ_of_le
def iS:=@Int.mul_nonneg
def iX:=@PySem.F.slot_dict_get
def ja:=@List.take_append_drop
def jp:=@PyProof.Rows.boot_all
def jv:=@PyProof.Rows.boot_any
def jI:=@PySem.F.slot_list_pop
def jS:=@PySem.F.type_list_pop
def ka:=@List.eq_nil_of_length_eq_zero
def ke:=@List.any_eq_true
def kg:=@Int.mul_le_mul_of_nonneg_left
def kn:=@List.length_dropLast
def ko:=@List.getLast?_concat
def kq:=@List.any_cons
def ku:=@List.filterMap_cons
def ky:=@Option.map_some
def kz:=@List.length_nil
def kD:=@List.sum_append
def kF:=@List.map_congr_left
def kG:=@List.flatMap_append
def kK:=@Nat.lt_trans
def kL:=@List.map_singleton
def kN:=@List.all_cons
def kQ:=@List.cons_append
def kR:=@Bool.not_eq_true
def kT:=@List.not_mem_nil
def kU:=@Int.le_trans
def kX:=@Nat.sub_self
theorem lc {p q r:Prop} (h:p):(p∨q)∨r:=.inl (.inl h)
local macro_rules | `(tactic| omega) => `(tactic| lia)
set_option Elab.async false
set_option linter.all false
set_option maxRecDepth 100000
namespace L2
open PySem PySem.Spec PyProof.Rows
noncomputable abbrev Key:=Sum Int Str
noncomputable def JT:Key->Value->Bool
 | .inl k,v=>Value.isInt k v
 | .inr x,v=>Value.isStrOf x v
noncomputable def kO (w:World):Key->Int
 | .inl k=>hashInt k
 | .inr x=>hashStr w x
theorem CQ:∀ {k:Key} {v:Value},JT k v=true->(∃ i t,k=Sum.inl i/\v=Value.int i t) \/ (∃ x t,k=Sum.inr x/\v=Value.str x t)
 | .inl i,v,h=>by
  obtain ⟨t,e⟩:=Value.isInt_shape (k:=i) (v:=v) h
  exact .inl ⟨i,t,rfl,e⟩
 | .inr x,v,h=>by
  obtain ⟨t,e⟩:=Value.isStrOf_shape (x:=x) (v:=v) h
  exact .inr ⟨x,t,rfl,e⟩
theorem Rk (i:Int) (t:Tok):JT (.inl i) (.int i t)=true:=by simp [JT,Value.isInt]
theorem SM (x:Str) (t:Tok):JT (.inr x) (.str x t)=true:=by simp [JT,Value.isStrOf]
theorem Yc (a b:Int):decide ((Sum.inl a:Key)=Sum.inl b)=(a == b):=by
 by_cases e:a=b
 ·subst e; simp
 ·have h:¬ (Sum.inl a:Key)=Sum.inl b:=fun q=>e (Sum.inl.inj q)
  rw [decide_eq_false h]
  exact (beq_eq_false_iff_ne.mpr e).symm
theorem Y7 (a b:Str):decide ((Sum.inr a:Key)=Sum.inr b)=decide (a=b):=by
 by_cases e:a=b
 ·subst e; simp
 ·have h:¬ (Sum.inr a:Key)=Sum.inr b:=fun q=>e (Sum.inr.inj q)
  rw [decide_eq_false h,decide_eq_false e]
theorem Zc (a:Int) (b:Str):decide ((Sum.inl a:Key)=Sum.inr b)=false:=decide_eq_false (fun q=>nomatch q)
theorem Yv (a:Str) (b:Int):decide ((Sum.inr a:Key)=Sum.inl b)=false:=decide_eq_false (fun q=>nomatch q)
noncomputable def CK (prog:Program) (w:World):PySem.KeyKind prog w Key where
 is:=JT
 hash:=kO w
 inj:=fun v a b ha hb=>by
  rcases CQ ha with ⟨i,t,rfl,rfl⟩ | ⟨x,t,rfl,rfl⟩
  ·rcases CQ hb with ⟨j,u,rfl,e⟩ | ⟨y,u,rfl,e⟩
   ·injection e with e1 _; rw [e1]
   ·exact nomatch e
  ·rcases CQ hb with ⟨j,u,rfl,e⟩ | ⟨y,u,rfl,e⟩
   ·exact nomatch e
   ·injection e with e1 _; rw [e1]
 byValue:=fun k v h=>by
  rcases CQ h with ⟨i,t,rfl,rfl⟩ | ⟨x,t,rfl,rfl⟩ <;> rfl
 pyHash:=fun hv h=>by
  rcases CQ hv with ⟨i,t,rfl,rfl⟩ | ⟨x,t,rfl,rfl⟩
  ·exact wpAny_pyHash_int h
  ·exact wpAny_pyHash_str h
 eqBool:=fun hu hv h=>by
  rcases CQ hu with ⟨i,t,rfl,rfl⟩ | ⟨x,t,rfl,rfl⟩
  ·rcases CQ hv with ⟨j,u,rfl,rfl⟩ | ⟨y,u,rfl,rfl⟩
   ·rw [Yc] at h; exact wpAny_eqBool_int h
   ·rw [Zc] at h; exact SeqAt.EqAt.int_str i t y u _ _ _ _ h
  ·rcases CQ hv with ⟨j,u,rfl,rfl⟩ | ⟨y,u,rfl,rfl⟩
   ·rw [Yv] at h; exact SeqAt.EqAt.str_int x t j u _ _ _ _ h
   ·rw [Y7] at h; exact wpAny_eqBool_str h
 «strs»:=fun k x t v h=>by
  rcases CQ h with ⟨i,u,rfl,e⟩ | ⟨y,u,rfl,e⟩
  ·exact nomatch e
  ·injection e with e1 _
   subst e1
   cases v <;> rfl
theorem Mm (prog:Program) (w:World) (i:Int) (t:Tok):(CK prog w).is (.inl i) (.int i t)=true:=Rk i t
theorem M6 (prog:Program) (w:World) (x:Str) (t:Tok):(CK prog w).is (.inr x) (.str x t)=true:=SM x t
end L2
namespace L2
open PySem PySem.Spec PyProof.Rows
inductive V where
 | non | bl (b:Bool) | int (i:Int) | str (x:Str) | byt (b:Array UInt8) | flt (b:UInt64) | ref (a:Addr) | ty (n:String)
 deriving DecidableEq
noncomputable def RelV:V->Value->Prop
 | .non,u=>u=Value.none
 | .bl b,u=>u=Value.bool b
 | .int i,u=>∃ t,u=Value.int i t
 | .str x,u=>∃ t,u=Value.str x t
 | .byt b,u=>∃ t,u=Value.bytes b t
 | .flt b,u=>∃ t,u=Value.float b t
 | .ref a,u=>u=Value.ref a
 | .ty n,u=>u=Value.type n
noncomputable abbrev Vals:List V->List Value->Prop:=Paired RelV
theorem Vals.length {xs:List V} {us:List Value} (r:Vals xs us):xs.length=us.length:=Paired.length r
theorem Vals.get:∀ {xs:List V} {us:List Value} {i:Nat} {x:V},Vals xs us->xs[i]? = some x->∃ u,us[i]? = some u/\RelV x u
 | _,_,_,_,.nil,e=>by simp at e
 | _,_,0,_,.cons r _,e=>by simp at e; subst e; exact ⟨_,rfl,r⟩
 | _,_,i+1,x,.cons _ t,e=>by
  obtain ⟨u,h1,h2⟩:=Vals.get (i:=i) (x:=x) t (by simpa using e)
  exact ⟨u,by simpa using h1,h2⟩
theorem Vals.set {x:V} {u:Value} (r:RelV x u):∀ {xs:List V} {us:List Value} (i:Nat),Vals xs us->Vals (xs.set i x) (us.set i u)
 | _,_,_,.nil=>.nil
 | _,_,0,.cons _ t=>.cons r t
 | _,_,i+1,.cons q t=>.cons q (Vals.set r i t)
theorem Vals.append:∀ {xs ys:List V} {us ws:List Value},Vals xs us->Vals ys ws->Vals (xs++ys) (us++ws)
 | _,_,_,_,.nil,s=>s
 | _,_,_,_,.cons r t,s=>.cons r (Vals.append t s)
theorem Vals.take:∀ {xs:List V} {us:List Value} (n:Nat),Vals xs us->Vals (xs.take n) (us.take n)
 | _,_,0,_=>.nil
 | _,_,_+1,.nil=>.nil
 | _,_,n+1,.cons r t=>.cons r (Vals.take n t)
theorem Vals.drop:∀ {xs:List V} {us:List Value} (n:Nat),Vals xs us->Vals (xs.drop n) (us.drop n)
 | _,_,0,r=>r
 | _,_,_+1,.nil=>.nil
 | _,_,n+1,.cons _ t=>Vals.drop n t
noncomputable def Fg:Option V->Option Value->Prop
 | some v,some u=>RelV v u
 | none,none=>True
 | _,_=>False
noncomputable def KV {κ:Type}:List (κ × V)->List (κ × Value)->Prop:=Paired fun (p:κ × V) (q:κ × Value)=>p.1=q.1/\RelV p.2 q.2
noncomputable def kV:Key->V
 | .inl i=>.int i
 | .inr x=>.str x
inductive HO where
 | lst (xs:List V)
 | tup (xs:List V)
 | dK (kvs:List (Key × V)) | dT (kvs:List (List Key × V))
 | set (S:Int->Bool) (n:Nat)
 | ins (C dx:Addr) (fs:List (Str × V))
 | own (x:Addr)
 | xd (fs:List (Str × V))
 | met (f x:Addr)
 | rng (lo hi:Int)
 | frz (o:Obj) (u:HO)
 | tbl (ps:Array Value)
 | ext (φ:Heap->Prop)
noncomputable abbrev Hp:=Addr->Option HO
noncomputable def upd (H:Hp) (a:Addr) (o:HO):Hp:=fun b=>if b=a then some o else H b
theorem Ag {H:Hp} {a:Addr} {o:HO}:upd H a o a=some o:=by unfold upd; rw [if_pos rfl]
theorem Am {H:Hp} {a b:Addr} {o:HO} (h:b ≠ a):upd H a o b=H b:=by unfold upd; rw [if_neg h]
theorem Ei {H:Hp} {a b:Addr} {o u:HO} (h:H a=some o) (h':H b=some u) (d:o ≠ u):a ≠ b:=by
 intro e; subst e; rw [h] at h'; exact d (Option.some.inj h')
theorem Av {H:Hp} {a b:Addr} {o:HO} (h:H a=some o) (h':H b=none):a ≠ b:=by
 intro e; subst e; rw [h] at h'; cases h'
section
variable (P:Program) (w:World)
noncomputable def By (H:Hp) (h:Heap) (a:Addr):HO->Prop
 | .lst xs=>xs.length<=sizeLine/\∃ (its:List Value) (n:Nat),Vals xs its/\h.get? a=some { cls:=.type "list",data:=.seq its.toArray n }
 | .tup xs=>xs.length<=sizeLine/\∃ its:List Value,Vals xs its/\IsTup h a its.toArray
 | .dK kvs=>kvs.length<=sizeLine/\(a == sysModules)=false/\∃ vs,KV kvs vs/\h.DictOf (CK P w) a vs
 | .dT kvs=>kvs.length<=sizeLine/\(a == sysModules)=false/\∃ xs:List (List Key × Addr × Value),
   Paired (fun (p:List Key × V) (q:List Key × Addr × Value)=>p.1=q.1/\H q.2.1=some (.tup (p.1.map kV))/\RelV p.2 q.2.2) kvs xs /\
   ∃ o es ep,h.get? a=some o/\o.ExactDict/\o.data=.dict es ep/\es.toList=xs.map (entryOfKey (tupleKind (CK P w)))/\(xs.map (·.1)).Nodup
 | .set S n=>h.SetOf (intKind P w) a S n
 | .ins C dx fs=>H dx=some (.own a)/\fs.length<=1000/\dx ≠ a/\h.get? a=some (PySem.W.instObj C dx) /\
   ∃ mA,h.Ns1 dx mA/\(∀ f,Fg (fs.lookup f) (mA f))/\PySem.Within mA (fs.map (·.1))
 | .own _=>∃ o,h.get? a=some o
 | .xd fs=>∃ mA,h.Ns1 a mA/\∀ f,Fg (fs.lookup f) (mA f)
 | .rng lo hi=>∃ t u v,h.get? a=some { cls:=.type "range",data:=.fields #[.int lo t,.int hi u,.int 1 v] }
 | .frz o u=>h.get? a=some o/\By H h a u
 | .tbl ps=>h.get? a=some { cls:=.none,data:=.fields ps }
 | .met f x=>h.get? a=some (PySem.W.methodObj (.ref f) (.ref x))
 | .ext φ=>φ h/\(∃ o,h.get? a=some o)/\∀ h1 h2:Heap,φ h1->(∀ o,h1.get? a=some o->h2.get? a=some o)->φ h2
noncomputable def HF (H:Hp) (h:Heap):Prop:=∀ a o,H a=some o->By P w H h a o
end
section
variable {P:Program} {w:World} {H H':Hp} {h h':Heap} {a:Addr} {o:HO}
theorem By.lt (x:By P w H h a o):a<h.objs.size:=by
 cases o with
 | lst xs=>obtain ⟨_,_,_,_,e⟩:=x; exact Heap.lt_size e
 | tup xs=>obtain ⟨_,_,_,p⟩:=x; exact p.lt
 | dK kvs=>obtain ⟨_,_,_,_,o,_,_,e,_⟩:=x; exact Heap.lt_size e
 | dT kvs=>obtain ⟨_,_,_,_,o,_,_,e,_⟩:=x; exact Heap.lt_size e
 | set S n=>obtain ⟨o,_,_,_,e,_⟩:=x; exact Heap.lt_size e
 | ins C dx fs=>obtain ⟨_,_,_,e,_⟩:=x; exact Heap.lt_size e
 | own y=>obtain ⟨_,e⟩:=x; exact Heap.lt_size e
 | xd fs=>obtain ⟨_,⟨_,_,_,e,_⟩,_⟩:=x; exact Heap.lt_size e
 | rng lo hi=>obtain ⟨_,_,_,e⟩:=x; exact Heap.lt_size e
 | frz ob u=>obtain ⟨e,_⟩:=x; exact Heap.lt_size e
 | tbl ps=>exact Heap.lt_size (show h.get? a=some _ from x)
 | met f y=>exact Heap.lt_size (show h.get? a=some _ from x)
 | ext φ=>obtain ⟨_,⟨_,e⟩,_⟩:=x; exact Heap.lt_size e
theorem Paired.FJ {α β:Type} {F G:α->β->Prop}:∀ {l₁:List α} {l₂:List β},Paired F l₁ l₂->(∀ a b,F a b->G a b)->Paired G l₁ l₂
 | _,_,.nil,_=>.nil
 | _,_,.cons r t,f=>.cons (f _ _ r) (Paired.FJ t f)
theorem By.stay (x:By P w H h a o) (k:∀ b u,(b=a \/ H b=some (.own a))->h.get? b=some u->h'.get? b=some u)
  (ho:∀ b,H b=some (.own a)->H' b=some (.own a)) (ht:∀ b xs,H b=some (.tup xs)->H' b=some (.tup xs)):By P w H' h' a o:=by
 induction o with
 | lst xs=>obtain ⟨z,its,n,r,e⟩:=x; exact ⟨z,its,n,r,k _ _ (.inl rfl) e⟩
 | tup xs=>obtain ⟨z,its,r,ob,e,c⟩:=x; exact ⟨z,its,r,ob,k _ _ (.inl rfl) e,c⟩
 | dK kvs=>obtain ⟨z,y,vs,r,ob,es,ep,e,c⟩:=x; exact ⟨z,y,vs,r,ob,es,ep,k _ _ (.inl rfl) e,c⟩
 | dT kvs =>
  obtain ⟨z,y,xs,r,ob,es,ep,e,c⟩:=x
  exact ⟨z,y,xs,Paired.FJ r fun p q z=>⟨z.1,ht _ _ z.2.1,z.2.2⟩,ob,es,ep,k _ _ (.inl rfl) e,c⟩
 | set S n=>obtain ⟨ob,es,ep,t,e,c⟩:=x; exact ⟨ob,es,ep,t,k _ _ (.inl rfl) e,c⟩
 | ins C dx fs =>
  obtain ⟨d,z,ne,e,mA,⟨od,es,ep,e2,c⟩,r⟩:=x
  exact ⟨ho _ d,z,ne,k _ _ (.inl rfl) e,mA,⟨od,es,ep,k _ _ (.inr d) e2,c⟩,r⟩
 | own y=>obtain ⟨ob,e⟩:=x; exact ⟨ob,k _ _ (.inl rfl) e⟩
 | xd fs=>obtain ⟨mA,⟨od,es,ep,e,c⟩,r⟩:=x; exact ⟨mA,⟨od,es,ep,k _ _ (.inl rfl) e,c⟩,r⟩
 | rng lo hi=>obtain ⟨t,u,v,e⟩:=x; exact ⟨t,u,v,k _ _ (.inl rfl) e⟩
 | frz ob u ih=>obtain ⟨e,q⟩:=x; exact ⟨k _ _ (.inl rfl) e,ih q⟩
 | tbl ps =>
  have e:h.get? a=some { cls:=.none,data:=.fields ps }:=x
  show h'.get? a=some { cls:=.none,data:=.fields ps }
  exact k a _ (.inl rfl) e
 | met f y =>
  have e:h.get? a=some (PySem.W.methodObj (.ref f) (.ref y)):=x
  show h'.get? a=some (PySem.W.methodObj (.ref f) (.ref y))
  exact k a _ (.inl rfl) e
 | ext φ=>obtain ⟨p,⟨o,e⟩,st⟩:=x; exact ⟨st _ _ p fun o q=>k _ _ (.inl rfl) q,⟨o,k _ _ (.inl rfl) e⟩,st⟩
theorem HF.lt (x:HF P w H h) (e:H a=some o):a<h.objs.size:=(x a o e).lt
theorem HF.fresh (x:HF P w H h) (e:h.objs.size<=a):H a=none:=by
 cases q:H a with
 | none=>rfl
 | some u=>exact absurd (ay (x.lt q) e) (ed _)
theorem HF.kept (x:HF P w H h) (k:∀ b u,h.get? b=some u->h'.get? b=some u):HF P w H h':=fun a o e =>
 (x a o e).stay (fun b u _ q=>k b u q) (fun _ q=>q) fun _ _ q=>q
theorem HF.laid (x:HF P w H h) (k:∀ b u,h.get? b=some u->h'.get? b=some u) (hp:h.objs.size<=a) (new:By P w (upd H a o) h' a o):HF P w (upd H a o) h':=fun b u e=>by
 have hn:=x.fresh hp
 by_cases hb:b=a
 ·subst hb; rw [Ag] at e; cases e; exact new
 ·rw [Am hb] at e
  exact (x b u e).stay (fun c v _ q=>k c v q) (fun c q=>by rw [Am (Av q hn)]; exact q) fun c xs q=>by rw [Am (Av q hn)]; exact q
end
noncomputable def Rd (H:Hp) (a:Addr) (u:HO):Prop:=H a=some u \/ ∃ o,H a=some (.frz o u)
theorem Rd.ok {P:Program} {w:World} {H:Hp} {h:Heap} {a:Addr} {u:HO} (r:Rd H a u) (x:HF P w H h):By P w H h a u:=by
 rcases r with r | ⟨o,r⟩
 ·exact x a u r
 ·obtain ⟨_,q⟩:=x a _ r
  exact q
noncomputable def dN:Option HO->Prop
 | some (.lst _)=>True
 | some (.dK _)=>True
 | some (.dT _)=>True
 | some (.set _ _)=>True
 | some (.ins _ _ _)=>True
 | some (.ext _)=>True
 | _=>False
section
variable {P:Program} {w:World} {H:Hp} {h h':Heap} {x e:Addr} {o':HO}
theorem HF.write (ok:HF P w H h) (mu:dN (H x)) (he:e=x \/ H e=some (.own x)) (k:∀ b u,b ≠ e->h.get? b=some u->h'.get? b=some u) (heo:∃ u,h'.get? e=some u)
  (new:By P w (upd H x o') h' x o'):HF P w (upd H x o') h':=fun b u q=>by
 have nown:∀ c y,H c=some (.own y)->c ≠ x:=fun c y r z=>by subst z; rw [r] at mu; exact mu
 have ntup:∀ c xs,H c=some (.tup xs)->c ≠ x:=fun c xs r z=>by subst z; rw [r] at mu; exact mu
 by_cases hb:b=x
 ·subst hb; rw [Ag] at q; cases q; exact new
 ·rw [Am hb] at q
  by_cases hbe:b=e
  ·have q':H b=some (.own x):=by
    rcases he with z | z
    ·exact absurd (hbe.trans z) hb
    ·rw [hbe]; exact z
   rw [q] at q'; cases q'
   obtain ⟨v,hv⟩:=heo
   exact ⟨v,by rw [hbe]; exact hv⟩
  ·refine (ok b u q).stay (fun c v hc r=>k c v ?_ r) (fun c r=>by rw [Am (nown c b r)]; exact r) fun c xs r=>by rw [Am (ntup c xs r)]; exact r
   rcases hc with rfl | hc
   ·exact hbe
   ·rintro rfl
    rcases he with z | z
    ·exact nown c b hc z
    ·rw [hc] at z; cases z; exact hb rfl
end
structure Un (fs ex:List Addr) (H H':Hp) (h h':Heap):Prop where
 keep:∀ b o,h.get? b=some o->H b=none->b ∉ fs->b ∉ ex->h'.get? b=some o
 slot:∀ b o,h.get? b=some o->H b=none->b∈fs->b ∉ ex->∃ sl,h'.get? b=some { o with slots:=sl }
 free:∀ b o,h.get? b=some o->H b=none->b ∉ ex->H' b=none
 there:∀ b o,h.get? b=some o->b ∉ ex->∃ o',h'.get? b=some o'
 tups:∀ b xs,H b=some (.tup xs)->H' b=some (.tup xs)
 frzs:∀ b o u,H b=some (.frz o u)->H' b=some (.frz o u)
 tbls:∀ b ps,H b=some (.tbl ps)->∃ more,H' b=some (.tbl (ps++more))
section
variable {fs fs' ex ex':List Addr} {H H1 H2:Hp} {h h1 h2 h':Heap} {a x e:Addr} {o:HO}
theorem Un.any (u:Un fs ex H H1 h h1) {b:Addr} {ob:Obj} (q:h.get? b=some ob) (n:H b=none) (hx:b ∉ ex):∃ sl,h1.get? b=some { ob with slots:=sl }:=by
 by_cases hb:b∈fs
 ·exact u.slot b ob q n hb hx
 ·exact ⟨ob.slots,u.keep b ob q n hb hx⟩
theorem Un.kept (k:∀ b u,h.get? b=some u->h'.get? b=some u):Un fs ex H H h h' :=
 ⟨fun b ob q _ _ _=>k b ob q,fun b ob q _ _ _=>⟨ob.slots,k b ob q⟩,fun _ _ _ n _=>n,fun b ob q _=>⟨ob,k b ob q⟩,fun _ _ q=>q,fun _ _ _ q=>q,fun _ ps q=>⟨#[],by rw [q]; simp⟩⟩
theorem Un.refl:Un fs ex H H h h:=Un.kept fun _ _ q=>q
theorem Un.laid (k:∀ b u,h.get? b=some u->h'.get? b=some u) (hp:h.objs.size<=a) (hn:H a=none):Un fs ex H (upd H a o) h h' where
 keep:=fun b u q _ _ _=>k b u q
 slot:=fun b u q _ _ _=>⟨u.slots,k b u q⟩
 free:=fun b u q n _=>by rw [Am (aS (ay (Heap.lt_size q) hp))]; exact n
 there:=fun b u q _=>⟨u,k b u q⟩
 tups:=fun b xs q=>by rw [Am (Av q hn)]; exact q
 frzs:=fun b u xs q=>by rw [Am (Av q hn)]; exact q
 tbls:=fun b ps q=>⟨#[],by rw [Am (Av q hn),q]; simp⟩
theorem Un.write (mu:dN (H x)) (he:e=x \/ H e=some (.own x)) (k:∀ b u,b ≠ e->h.get? b=some u->h'.get? b=some u) (heo:∃ u,h'.get? e=some u):Un fs ex H (upd H x o) h h':=by
 have hx:∀ b,H b=none->b ≠ x:=fun b n z=>by subst z; rw [n] at mu; exact mu
 have hb:∀ b,H b=none->b ≠ e:=fun b n z=>by
  subst z
  rcases he with r | r
  ·exact hx b n r
  ·rw [n] at r; cases r
 have hm:∀ b u,H b=some u->¬ dN (some u)->b ≠ x:=fun b u q nm z=>by subst z; rw [q] at mu; exact nm mu
 refine ⟨fun b u q n _ _=>k b u (hb b n) q,fun b u q n _ _=>⟨u.slots,k b u (hb b n) q⟩,fun b u q n _=>by rw [Am (hx b n)]; exact n,fun b u q _=>?_,
  fun b xs q=>by rw [Am (hm b _ q fun z=>z)]; exact q,fun b u xs q=>by rw [Am (hm b _ q fun z=>z)]; exact q,fun b ps q=>⟨#[],by rw [Am (hm b _ q fun z=>z),q]; simp⟩⟩
 by_cases hbe:b=e
 ·subst hbe; exact heo
 ·exact ⟨u,k b u hbe q⟩
end
noncomputable def gh (h:Heap) (H:Hp):List Addr:=(List.range h.objs.size).filter fun a=>(H a).isSome
noncomputable def KN (h:Heap) (H:Hp):Heap:=PySem.W.hideAll h (gh h H)
theorem Qz (h:Heap) (H:Hp):(KN h H).objs.size=h.objs.size:=PySem.W.hideAll_size _ _
theorem Te {h:Heap} {H:Hp} {b:Addr} {o:Obj} (e:h.get? b=some o) (n:H b=none):(KN h H).get? b=some o :=
 PySem.W.hideAll_get _ e fun hm=>by
  have q:(H b).isSome=true:=(dr.mp hm).2
  rw [n] at q; simp at q
theorem Wn {h:Heap} {H:Hp} {b:Addr} {o:Obj} (e:(KN h H).get? b=some o):h.get? b=some o/\H b=none:=by
 have e':h.get? b=some o:=PySem.W.of_hideAll (gh h H) e
 refine ⟨e',?_⟩
 cases q:H b with
 | none=>rfl
 | some x =>
  have hm:b∈gh h H:=List.mem_filter.mpr ⟨List.mem_range.mpr (Heap.lt_size e'),by simp [q]⟩
  have z:(KN h H).get? b=none:=PySem.W.hideAll_none (gh h H) hm
  rw [z] at e; cases e
noncomputable def Xj (g h:Heap) (L:Addr):List (Addr × Obj):=(List.range h.objs.size).filterMap fun a=>if a=L \/ (g.get? a).isSome=true then none else (h.get? a).map fun o=>(a,o)
noncomputable def rest (g h:Heap) (L d:Addr):List (Addr × Obj):=(Xj g h L).filter fun p=>decide (p.1 ≠ d)
end L2
namespace L2
open PySem PySem.Spec PyProof.Rows
structure Mod (K:PySem.W.Frag) (mg:Str->Option Value) (base:Heap):Prop where
 kin:K.In base
 glob:base.Ns mainGlobals mg
 blt:∃ mb,base.Ns builtinsNs mb/\∀ x:Str,x ≠ "__name__"->mb x=bootBuiltins x
 nolimit:base.NoLimit
structure Cx where
 prog:Program
 w:World
 K:PySem.W.Frag
 mg:Str->Option Value
 base:Heap
 A:Around
 N:List Str
 s₀:Shared
 H₀:Hp
 env:Env
 outer:List Env
 stack:List Env
 ex:List Addr
 fn:Str->Bool
 calm:Bool
 pn:List (Addr × Obj)
 xe:Value->Shared->Prop
noncomputable def frs (l:List Env):List Addr:=l.filterMap (·.frame)
noncomputable abbrev Cx.fs (X:Cx):List Addr:=frs X.outer
noncomputable def lR (sc:Scope) (x:Str):Prop:=sc.names.lookup x=some .local \/ sc.names.lookup x=some .cell \/ sc.names.lookup x=some .free
noncomputable def Loc (sc:Scope) (x:Str):Prop:=sc.names.lookup x=some .local \/ sc.names.lookup x=some .cell
noncomputable def Look (env:Env) (h:Heap) (m:Str->Option Value) (x:Str) (u:Value):Prop :=
 (env.kindOf x=some .local/\m x=some u) \/ ((env.kindOf x=some .cell \/ env.kindOf x=some .free)/\∃ c,env.cells.lookup x=some c/\h.IsCell c (some u))
structure Cx.Ok (X:Cx):Prop where
 mod:Mod X.K X.mg X.base
 kind:X.env.scope.kind=.function
 glob:X.env.globals=mainGlobals
 blt:X.env.builtins=builtinsNs
 above:X.s₀.heap.objs.size<=X.env.locals
 inj:∀ x y c,X.env.cells.lookup x=some c->X.env.cells.lookup y=some c->x=y
 has:∀ x,(X.env.kindOf x=some .cell \/ X.env.kindOf x=some .free)->∃ c,X.env.cells.lookup x=some c
 cab:∀ x c,X.fn x=true->X.env.cells.lookup x=some c->X.s₀.heap.objs.size<=c
 hd:X.calm=true->X.A.handled=none
 frames:X.A.frames=some X.stack
 stk:X.stack=X.outer \/ (X.stack=X.env::X.outer/\X.env.frame=some X.env.locals)
 exf:∀ b∈X.ex,b ≠ X.env.locals/\∀ x c,X.env.cells.lookup x=some c->c ≠ b
 bs:∀ b o,X.base.get? b=some o->X.s₀.heap.get? b=some o/\X.H₀ b=none
 bsz:X.base.objs.size<=X.s₀.heap.objs.size
 noex:∀ b o,X.base.get? b=some o->b ∉ X.ex
 exfs:∀ b∈X.ex,b ∉ X.fs
 Im:X.s₀.heap.FunFrames X.base X.outer
 frf:∀ b∈X.fs,X.H₀ b=none
structure Inv (X:Cx) (pins:List (Addr × Obj)) (σ:List (Option V)) (H:Hp) (s:Shared):Prop where
 ok:X.Ok
 os:s.os=X.s₀.os
 bare:AllBare s.gens
 base:Un X.fs X.ex X.H₀ H X.s₀.heap s.heap
 loc:∃ m,s.heap.Ns X.env.locals m/\∀ (i:Nat) (x:Str) (v:V),X.N[i]? = some x->σ[i]? = some (some v)->lR X.env.scope x->∃ u,RelV v u/\Look X.env s.heap m x u
 cell:∀ x c,X.env.cells.lookup x=some c->∃ v,s.heap.IsCell c v
 free:H X.env.locals=none
 freeC:∀ x c,X.env.cells.lookup x=some c->H c=none
 pin:∀ p∈X.pn++pins,s.heap.get? p.1=some p.2/\H p.1=none/\p.1 ≠ X.env.locals/\p.1 ∉ X.fs/\∀ v,p.2.data ≠ .cell v
 hok:HF X.prog X.w H s.heap
 len:σ.length=X.N.length
section
variable {X:Cx} {pins:List (Addr × Obj)} {σ:List (Option V)} {H H':Hp} {s:Shared} {h':Heap}
theorem Cx.Ok.jA (ok:X.Ok) {b:Addr} {o:Obj} (e:X.base.get? b=some o):b ∉ X.fs:=fun hb=>by
 have:=(ok.Im.mem hb).1
 rw [e] at this; cases this
theorem Inv.bs (I:Inv X pins σ H s):∀ b o,X.base.get? b=some o->s.heap.get? b=some o/\H b=none:=fun b o e =>
 ⟨I.base.keep b o (I.ok.bs b o e).1 (I.ok.bs b o e).2 (I.ok.jA e) (I.ok.noex b o e),I.base.free b o (I.ok.bs b o e).1 (I.ok.bs b o e).2 (I.ok.noex b o e)⟩
theorem Inv.bk (I:Inv X pins σ H s):∀ b o,X.base.get? b=some o->s.heap.get? b=some o:=fun b o e=>(I.bs b o e).1
theorem Inv.mod (I:Inv X pins σ H s):Mod X.K X.mg X.base:=I.ok.mod
theorem Inv.Ho (I:Inv X pins σ H s):X.K.In s.heap:=I.ok.mod.kin.keeps I.bk
theorem Inv.nolimit (I:Inv X pins σ H s):s.heap.NoLimit:=I.ok.mod.nolimit.keeps I.bk
theorem Inv.lt (I:Inv X pins σ H s):X.env.locals<s.heap.objs.size:=let ⟨_,hn,_⟩:=I.loc; hn.lt
theorem Inv.sz (I:Inv X pins σ H s):X.s₀.heap.objs.size<=s.heap.objs.size:=br I.ok.above (fI I.lt)
theorem Inv.ie (I:Inv X pins σ H s) {a:Addr} (h:s.heap.objs.size<=a):a ∉ X.fs:=fun hb=>by
 obtain ⟨_,o,ho,_⟩:=I.ok.Im.mem hb
 exact absurd (ay (Heap.lt_size ho) (br I.sz h)) (ed _)
theorem Inv.Ze (I:Inv X pins σ H s):∀ x c,X.env.cells.lookup x=some c->c ≠ X.env.locals:=fun x c e z=>by
 obtain ⟨v,o,ho,hd⟩:=I.cell x c e
 obtain ⟨m,⟨o',es,ep,ho',hd',_⟩,_⟩:=I.loc
 rw [z,ho'] at ho; cases ho; rw [hd'] at hd; cases hd
theorem Inv.Im (I:Inv X pins σ H s):s.heap.FunFrames X.base X.outer:=by
 have all:∀ (l:List Env),(∀ b∈frs l,b∈X.fs)->X.s₀.heap.FunFrames X.base l->s.heap.FunFrames X.base l:=by
  intro l
  induction l with
  | nil=>intro _ _; trivial
  | cons env r ih =>
   intro hs hl
   obtain ⟨hk,⟨L,o,hf,hn,ho,hd⟩,hr⟩:=hl
   have hL:L∈X.fs:=hs L (by unfold frs; rw [List.filterMap_cons,hf]; exact List.mem_cons_self)
   obtain ⟨sl,e⟩:=I.base.slot L o ho (I.ok.frf L hL) hL fun z=>I.ok.exfs L z hL
   exact ⟨hk,⟨L,_,hf,hn,e,hd⟩,ih (fun b hb=>hs b (by unfold frs; rw [List.filterMap_cons,hf]; exact List.mem_cons_of_mem _ hb)) hr⟩
 exact all X.outer (fun _ hb=>hb) I.ok.Im
theorem Inv.stack (I:Inv X pins σ H s):s.heap.FunFrames X.base X.stack:=by
 rcases I.ok.stk with e | ⟨e,hf⟩
 ·rw [e]; exact I.Im
 ·rw [e]
  obtain ⟨m,hn,_⟩:=I.loc
  refine .cons (by rw [I.ok.kind]; decide) hf hn ?_ I.Im
  exact Heap.get?_none_of_le (br I.ok.bsz I.ok.above)
theorem Inv.JN (I:Inv X pins σ H s):∀ b∈frs X.stack,b∈X.env.locals::X.fs:=fun b hb=>by
 rcases I.ok.stk with e | ⟨e,hf⟩
 ·rw [e] at hb; exact av _ hb
 ·rw [e] at hb
  unfold frs at hb
  rw [ku,hf] at hb
  exact hb
theorem Inv.I_ (I:Inv X pins σ H s):∀ b∈frs X.stack,H b=none:=fun b hb=>by
 rcases bi.mp (I.JN b hb) with e | hb
 ·rw [e]; exact I.free
 ·obtain ⟨_,o,ho,_⟩:=I.ok.Im.mem hb
  exact I.base.free b o ho (I.ok.frf b hb) fun z=>I.ok.exfs b z hb
theorem Inv.step {g':Array GenState} {t':Nat} {d':Drawn} {ch:List Addr} (I:Inv X pins σ H s)
  (hch:∀ b∈ch,(b∈X.ex \/ X.s₀.heap.objs.size<=b)/\b ≠ X.env.locals/\(∀ x c,X.env.cells.lookup x=some c->c ≠ b)/\∀ p∈X.pn++pins,p.1 ≠ b)
  (keep:∀ b o,b ≠ X.env.locals->b ∉ X.fs->b ∉ ch->s.heap.get? b=some o->H b=none->h'.get? b=some o)
  (slot:∀ b o,b ≠ X.env.locals->b∈X.fs->b ∉ ch->s.heap.get? b=some o->H b=none->∃ sl,h'.get? b=some { o with slots:=sl }) (free:∀ b o,b ∉ ch->s.heap.get? b=some o->H b=none->H' b=none)
  (there:∀ b o,b ∉ ch->s.heap.get? b=some o->∃ o',h'.get? b=some o')
  (tups:∀ b xs,H b=some (.tup xs)->H' b=some (.tup xs)) (frzs:∀ b o u,H b=some (.frz o u)->H' b=some (.frz o u)) (tbls:∀ b ps,H b=some (.tbl ps)->∃ more,H' b=some (.tbl (ps++more)))
  (ns:∀ m,s.heap.Ns X.env.locals m->h'.Ns X.env.locals m) (hok:HF X.prog X.w H' h') (hg:AllBare g') :
  Inv X pins σ H' { s with heap:=h',gens:=g',drawn:=d',toks:=t' }:=by
 have neL:∀ b o,X.s₀.heap.get? b=some o->b ≠ X.env.locals:=fun b o e=>aS (ay (Heap.lt_size e) I.ok.above)
 have neC:∀ b o,X.s₀.heap.get? b=some o->b ∉ X.ex->b ∉ ch:=fun b o e hx hb=>by
  rcases (hch b hb).1 with z | z
  ·exact hx z
  ·exact absurd (ay (Heap.lt_size e) z) (ed _)
 have cellK:∀ x c,X.env.cells.lookup x=some c->∀ v,s.heap.IsCell c v->h'.IsCell c v:=fun x c e v ⟨o,ho,hd⟩=>by
  have nch:c ∉ ch:=fun z=>(hch c z).2.2.1 x c e rfl
  by_cases hc:c∈X.fs
  ·obtain ⟨sl,q⟩:=slot c o (I.Ze x c e) hc nch ho (I.freeC x c e)
   exact ⟨_,q,hd⟩
  ·exact ⟨o,keep c o (I.Ze x c e) hc nch ho (I.freeC x c e),hd⟩
 refine ⟨I.ok,I.os,hg,⟨fun b o e n hb hx=>?_,fun b o e n hb hx=>?_,fun b o e n hx=>?_,fun b o e hx=>?_,fun b xs e=>tups b xs (I.base.tups b xs e),fun b o xs e=>frzs b o xs (I.base.frzs b o xs e),fun b ps e=>?_⟩,?_,fun x c e=>?_,?_,fun x c e=>?_,fun p hp=>?_,hok,I.len⟩
 ·exact keep b o (neL b o e) hb (neC b o e hx) (I.base.keep b o e n hb hx) (I.base.free b o e n hx)
 ·obtain ⟨sl,e1⟩:=I.base.slot b o e n hb hx
  obtain ⟨sl',e2⟩:=slot b _ (neL b o e) hb (neC b o e hx) e1 (I.base.free b o e n hx)
  exact ⟨sl',e2⟩
 ·obtain ⟨o',e1⟩:=I.base.there b o e hx
  exact free b o' (neC b o e hx) e1 (I.base.free b o e n hx)
 ·obtain ⟨o',e1⟩:=I.base.there b o e hx
  exact there b o' (neC b o e hx) e1
 ·obtain ⟨m1,e1⟩:=I.base.tbls b ps e
  obtain ⟨m2,e2⟩:=tbls b _ e1
  exact ⟨m1++m2,by rw [e2,Array.append_assoc]⟩
 ·obtain ⟨m,hn,hl⟩:=I.loc
  refine ⟨m,ns m hn,fun i x v e1 e2 e3=>?_⟩
  obtain ⟨u,r,l⟩:=hl i x v e1 e2 e3
  refine ⟨u,r,?_⟩
  rcases l with l | ⟨k,c,e,z⟩
  ·exact .inl l
  ·exact .inr ⟨k,c,e,cellK x c e _ z⟩
 ·obtain ⟨v,z⟩:=I.cell x c e
  exact ⟨v,cellK x c e v z⟩
 ·obtain ⟨m,⟨o,_,_,ho,_⟩,_⟩:=I.loc
  exact free _ o (fun z=>(hch _ z).2.1 rfl) ho I.free
 ·obtain ⟨v,o,ho,hd⟩:=I.cell x c e
  exact free c o (fun z=>(hch c z).2.2.1 x c e rfl) ho (I.freeC x c e)
 ·obtain ⟨e,n,ne,nf,d⟩:=I.pin p hp
  have nch:p.1 ∉ ch:=fun z=>(hch p.1 z).2.2.2 p hp rfl
  exact ⟨keep p.1 p.2 ne nf nch e n,free p.1 p.2 nch e n,ne,nf,d⟩
theorem Inv.un {t':Nat} (I:Inv X pins σ H s) (u:Un X.fs [] H H' s.heap h') (hok:HF X.prog X.w H' h'):Inv X pins σ H' { s with heap:=h',toks:=t' }:=by
 obtain ⟨m,⟨o,es,ep,ho,r⟩,_⟩:=id I.loc
 obtain ⟨sl,hL⟩:=u.any ho I.free (by simp)
 exact I.step (g':=s.gens) (d':=s.drawn) (ch:=[]) (fun _ z=>nomatch z) (fun b o _ hb _ e n=>u.keep b o e n hb (by simp)) (fun b o _ hb _ e n=>u.slot b o e n hb (by simp)) (fun b o _ e n=>u.free b o e n (by simp)) (fun b o _ e=>u.there b o e (by simp)) u.tups u.frzs u.tbls (fun m' hm=>by
  obtain ⟨o',es',ep',ho',r'⟩:=hm
  rw [ho] at ho'; cases ho'
  exact ⟨_,es',ep',hL,r'⟩) hok I.bare
theorem Inv.call {g':Array GenState} {t':Nat} {d':Drawn} {ch:List Addr} (I:Inv X pins σ H s) (u:Un (frs X.stack) ch H H' s.heap h') (hok:HF X.prog X.w H' h') (hg:AllBare g')
  (hch:∀ b∈ch,(b∈X.ex \/ X.s₀.heap.objs.size<=b)/\b ≠ X.env.locals/\(∀ x c,X.env.cells.lookup x=some c->c ≠ b)/\∀ p∈X.pn++pins,p.1 ≠ b) :
  Inv X pins σ H' { s with heap:=h',gens:=g',drawn:=d',toks:=t' }:=by
 obtain ⟨m,⟨o,es,ep,ho,r⟩,_⟩:=id I.loc
 obtain ⟨sl,hL⟩:=u.any ho I.free fun z=>(hch _ z).2.1 rfl
 exact I.step (ch:=ch) hch (fun b o hL hb hc e n=>u.keep b o e n (fun z=>(bi.mp (I.JN b z)).elim hL hb) hc) (fun b o _ _ hc e n=>u.any e n hc) (fun b o hc e n=>u.free b o e n hc) (fun b o hc e=>u.there b o e hc) u.tups u.frzs u.tbls (fun m' hm=>by
  obtain ⟨o',es',ep',ho',r'⟩:=hm
  rw [ho] at ho'; cases ho'
  exact ⟨_,es',ep',hL,r'⟩) hok hg
theorem Inv.turned {t':Nat} {it:Addr} (I:Inv X pins σ H s) (k:∀ b o,b ≠ it->s.heap.get? b=some o->h'.get? b=some o) (hn:H it=none) (hL:it ≠ X.env.locals)
  (h1:it∈X.ex \/ X.s₀.heap.objs.size<=it) (h2:∀ x c,X.env.cells.lookup x=some c->c ≠ it) (h3:∀ p∈X.pn++pins,p.1 ≠ it):Inv X pins σ H { s with heap:=h',toks:=t' }:=by
 have nit:∀ b u,H b=some u->b ≠ it:=fun b u e z=>by rw [z,hn] at e; cases e
 refine I.step (g':=s.gens) (d':=s.drawn) (ch:=[it]) (fun b hb=>?_) (fun b o _ _ hc e _=>k b o (fun z=>hc (by simp [z])) e) (fun b o _ _ hc e _=>⟨o.slots,k b o (fun z=>hc (by simp [z])) e⟩) (fun _ _ _ _ n=>n)
  (fun b o hc e=>⟨o,k b o (fun z=>hc (by simp [z])) e⟩) (fun _ _ e=>e) (fun _ _ _ e=>e) (fun b ps e=>⟨#[],by rw [e]; simp⟩) (fun m hm=>?_) (fun b u e=>?_) I.bare
 ·have e:b=it:=by simpa using hb
  subst e
  exact ⟨h1,hL,h2,h3⟩
 ·obtain ⟨o,es,ep,ho,r⟩:=hm
  exact ⟨o,es,ep,k _ o (Ne.symm hL) ho,r⟩
 ·refine (I.hok b u e).stay (fun c v hc q=>k c v ?_ q) (fun _ q=>q) fun _ _ q=>q
  rcases hc with z | z
  ·rw [z]; exact nit b u e
  ·exact nit c _ z
theorem Inv.tok (I:Inv X pins σ H s) (t:Nat):Inv X pins σ H { s with toks:=t }:=I.un (h':=s.heap) (t':=t) Un.refl I.hok
theorem Inv.kept {t':Nat} (I:Inv X pins σ H s) (k:∀ b u,s.heap.get? b=some u->h'.get? b=some u):Inv X pins σ H { s with heap:=h',toks:=t' }:=I.un (Un.kept k) (I.hok.kept k)
theorem Inv.laid {a:Addr} {o:HO} {t':Nat} (I:Inv X pins σ H s) (k:∀ b u,s.heap.get? b=some u->h'.get? b=some u) (hp:s.heap.objs.size<=a) (new:By X.prog X.w (upd H a o) h' a o) :
  Inv X pins σ (upd H a o) { s with heap:=h',toks:=t' }:=I.un (Un.laid k hp (I.hok.fresh hp)) (I.hok.laid k hp new)
theorem Inv.write {x e:Addr} {o:HO} {t':Nat} (I:Inv X pins σ H s) (mu:dN (H x)) (he:e=x \/ H e=some (.own x)) (k:∀ b u,b ≠ e->s.heap.get? b=some u->h'.get? b=some u) (heo:∃ u,h'.get? e=some u)
  (new:By X.prog X.w (upd H x o) h' x o):Inv X pins σ (upd H x o) { s with heap:=h',toks:=t' }:=I.un (Un.write mu he k heo) (I.hok.write mu he k heo new)
theorem Inv.Pn {pins':List (Addr × Obj)} (I:Inv X pins σ H s) (h:∀ p∈pins',s.heap.get? p.1=some p.2/\H p.1=none/\p.1 ≠ X.env.locals/\p.1 ∉ X.fs/\∀ v,p.2.data ≠ .cell v):Inv X pins' σ H s :=
 ⟨I.ok,I.os,I.bare,I.base,I.loc,I.cell,I.free,I.freeC,fun p hp=>(bp.mp hp).elim (fun z=>I.pin p (dt _ z)) (h p),I.hok,I.len⟩
theorem Nu {N:List Str} (hN:N.Nodup) {i j:Nat} {x:Str} (a:N[i]? = some x) (b:N[j]? = some x):i=j:=by
 obtain ⟨h1,e1⟩:=af.mp a
 obtain ⟨h2,e2⟩:=af.mp b
 exact (List.getElem_inj hN).mp (e1.trans e2.symm)
theorem IV {M:Model} {A:Around} {E:Value->Shared->Prop} {i:Nat} {x:Str} {v:V} {u:Value} {Q:Unit->Shared->Prop} (I:Inv X pins σ H s) (hN:X.N.Nodup) (hi:X.N[i]? = some x) (hx:Loc X.env.scope x) (r:RelV v u)
  (h:∀ s',Inv X pins (σ.set i (some v)) H s'->(∃ a,Heap.SameBut a s.heap s'.heap/\(a=X.env.locals \/ X.env.cells.lookup x=some a))->Q () s') (hf:X.fn x=true \/ X.env.scope.names.lookup x=some .local:=by first | exact .inl rfl | exact .inr rfl | assumption):wpAny M A (storeName X.env x u) Q E s:=by
 obtain ⟨m,hn,hl⟩:=id I.loc
 have hcls:(X.env.scope.kind == .class || (X.env.scope.kind == .module && X.env.locals != X.env.globals))=false:=by rw [I.ok.kind]; rfl
 have hiσ:i<σ.length:=by rw [I.len]; exact (af.mp hi).1
 have Ze:=I.Ze
 have tracked:∀ {a:Addr} {h':Heap},(∃ o,s.heap.get? a=some o/\H a=none)->Heap.SameBut a s.heap h'->HF X.prog X.w H h':=fun {a h'} ha hs b ob e=>by
  obtain ⟨_,_,hfree⟩:=ha
  refine (I.hok b ob e).stay (fun c w' hc q=>(hs.2 c ?_).trans q) (fun _ q=>q) fun _ _ q=>q
  rintro rfl
  rcases hc with rfl | hc
  ·rw [hfree] at e; cases e
  ·rw [hfree] at hc; cases hc
 rcases hx with hk | hk
 ·refine wpAny_storeName_local hk hn (fun h' hn' hs=>?_) hcls
  obtain ⟨oL,_,_,hoL,_⟩:=id hn
  refine h _ ⟨I.ok,I.os,I.bare,⟨fun b o e n hb hx=>?_,fun b o e n hb hx=>?_,I.base.free,fun b o e hx=>?_,I.base.tups,I.base.frzs,I.base.tbls⟩,⟨_,hn',fun j y v' e1 e2 e3=>?_⟩,fun y c e=>?_,I.free,I.freeC,fun p hp=>?_,tracked ⟨oL,hoL,I.free⟩ hs,by simpa using I.len⟩ ⟨_,hs,.inl rfl⟩
  ·exact (hs.2 b (aS (ay (Heap.lt_size e) I.ok.above))).trans (I.base.keep b o e n hb hx)
  ·obtain ⟨sl,e1⟩:=I.base.slot b o e n hb hx
   exact ⟨sl,(hs.2 b (aS (ay (Heap.lt_size e) I.ok.above))).trans e1⟩
  ·obtain ⟨o',e1⟩:=I.base.there b o e hx
   exact ⟨o',(hs.2 b (aS (ay (Heap.lt_size e) I.ok.above))).trans e1⟩
  ·by_cases hj:j=i
   ·subst hj
    rw [hi] at e1; cases e1
    rw [List.getElem?_set_self hiσ] at e2
    cases e2
    exact ⟨u,r,.inl ⟨hk,by simp⟩⟩
   ·rw [List.getElem?_set_ne (Ne.symm hj)] at e2
    obtain ⟨u',r',q⟩:=hl j y v' e1 e2 e3
    refine ⟨u',r',?_⟩
    rcases q with ⟨k,e⟩ | ⟨k,c,e,z⟩
    ·refine .inl ⟨k,?_⟩
     have:y ≠ x:=fun e=>hj (Nu hN e1 (e ▸ hi))
     simp [this,e]
    ·exact .inr ⟨k,c,e,z.sameBut hs (Ze y c e)⟩
  ·obtain ⟨w',z⟩:=I.cell y c e
   exact ⟨w',z.sameBut hs (Ze y c e)⟩
  ·obtain ⟨e,n,ne,nf,d⟩:=I.pin p hp
   exact ⟨(hs.2 p.1 ne).trans e,n,ne,nf,d⟩
 ·have hfn:X.fn x=true:=by
   rcases hf with z | z
   ·exact z
   ·rw [z] at hk; cases hk
  obtain ⟨c,hc⟩:=I.ok.has x (.inl hk)
  obtain ⟨w',z⟩:=I.cell x c hc
  refine wpAny_storeName_cell I.ok.kind hk hc z (fun h' hc' hs=>?_)
  obtain ⟨oc,hoc,hocd⟩:=id z
  refine h { s with heap:=h' } ⟨I.ok,I.os,I.bare,⟨fun b o e n hb hx=>?_,fun b o e n hb hx=>?_,I.base.free,fun b o e hx=>?_,I.base.tups,I.base.frzs,I.base.tbls⟩,⟨m,hn.sameBut hs (Ne.symm (Ze x c hc)),fun j y v' e1 e2 e3=>?_⟩,fun y c' e=>?_,I.free,I.freeC,fun p hp=>?_,tracked ⟨oc,hoc,I.freeC x c hc⟩ hs,by simpa using I.len⟩ ⟨c,hs,.inr hc⟩
  ·exact (hs.2 b (aS (ay (Heap.lt_size e) (I.ok.cab x c hfn hc)))).trans (I.base.keep b o e n hb hx)
  ·obtain ⟨sl,e1⟩:=I.base.slot b o e n hb hx
   exact ⟨sl,(hs.2 b (aS (ay (Heap.lt_size e) (I.ok.cab x c hfn hc)))).trans e1⟩
  ·obtain ⟨o',e1⟩:=I.base.there b o e hx
   exact ⟨o',(hs.2 b (aS (ay (Heap.lt_size e) (I.ok.cab x c hfn hc)))).trans e1⟩
  ·by_cases hj:j=i
   ·subst hj
    rw [hi] at e1; cases e1
    rw [List.getElem?_set_self hiσ] at e2
    cases e2
    exact ⟨u,r,.inr ⟨.inl hk,c,hc,hc'⟩⟩
   ·rw [List.getElem?_set_ne (Ne.symm hj)] at e2
    obtain ⟨u',r',q⟩:=hl j y v' e1 e2 e3
    refine ⟨u',r',?_⟩
    rcases q with q | ⟨k,c',e,z'⟩
    ·exact .inl q
    ·refine .inr ⟨k,c',e,z'.sameBut hs ?_⟩
     rintro rfl
     exact hj (Nu hN e1 (I.ok.inj _ _ _ e hc ▸ hi))
  ·by_cases hcc:c'=c
   ·subst hcc; exact ⟨_,hc'⟩
   ·obtain ⟨w2,z2⟩:=I.cell y c' e
    exact ⟨w2,z2.sameBut hs hcc⟩
  ·obtain ⟨e,n,ne,nf,d⟩:=I.pin p hp
   refine ⟨(hs.2 p.1 ?_).trans e,n,ne,nf,d⟩
   intro q
   rw [q,hoc] at e
   have q':oc=p.2:=Option.some.inj e
   exact d w' (by rw [← q']; exact hocd)
theorem J3 {M:Model} {A:Around} {E:Value->Shared->Prop} {i:Nat} {x:Str} {v:V} {u:Value} {Q:Unit->Shared->Prop} (I:Inv X pins σ H s) (hN:X.N.Nodup) (hi:X.N[i]? = some x) (hx:Loc X.env.scope x) (r:RelV v u)
  (h:∀ s',Inv X pins (σ.set i (some v)) H s'->Q () s') (hf:X.fn x=true \/ X.env.scope.names.lookup x=some .local:=by first | exact .inl rfl | exact .inr rfl | assumption):wpAny M A (storeName X.env x u) Q E s :=
 IV I hN hi hx r (fun s' I' _=>h s' I') hf
theorem Inv.call' {s':Shared} {ch:List Addr} (I:Inv X pins σ H s) (ho:s'.os=s.os) (u:Un (frs X.stack) ch H H' s.heap s'.heap) (hok:HF X.prog X.w H' s'.heap) (hg:AllBare s'.gens)
  (hch:∀ b∈ch,(b∈X.ex \/ X.s₀.heap.objs.size<=b)/\b ≠ X.env.locals/\(∀ x c,X.env.cells.lookup x=some c->c ≠ b)/\∀ p∈X.pn++pins,p.1 ≠ b):Inv X pins σ H' s':=by
 obtain ⟨h',g',d',t',o'⟩:=s'
 have e:o'=s.os:=ho
 subst e
 exact I.call (g':=g') (t':=t') (d':=d') u hok hg hch
end
noncomputable abbrev XK:=Value->Option Addr->Hp->Prop
noncomputable abbrev St:=List (Option V)
noncomputable abbrev VK:=V->Hp->Prop
noncomputable abbrev TE:=St->Hp->VK->Prop
noncomputable abbrev TT:=St->Hp->(Bool->Hp->Prop)->Prop
noncomputable abbrev TA:=St->Hp->(List V->Hp->Prop)->Prop
structure Ends where
 nx:St->Hp->Prop
 rt:VK
 bk:St->Hp->Prop:=fun _ _=>False
 ct:St->Hp->Prop:=fun _ _=>False
noncomputable abbrev TS:=Ends->St->Hp->Prop
noncomputable def EP (X:Cx) (pins:List (Addr × Obj)) (σ:St) (Q:VK) (u:Value) (s':Shared):Prop:=∃ v H',Inv X pins σ H' s'/\RelV v u/\Q v H'
noncomputable def TP (X:Cx) (pins:List (Addr × Obj)) (σ:St) (Q:Bool->Hp->Prop) (b:Bool) (s':Shared):Prop:=∃ H',Inv X pins σ H' s'/\Q b H'
noncomputable def AP (X:Cx) (pins:List (Addr × Obj)) (σ:St) (Q:List V->Hp->Prop) (us:List Value) (s':Shared):Prop:=∃ vs H',Inv X pins σ H' s'/\Vals vs us/\Q vs H'
noncomputable def SP (X:Cx) (pins:List (Addr × Obj)) (D:Ends) (f:Flow) (s':Shared):Prop :=
 match f with
 | .next=>∃ σ' H',Inv X pins σ' H' s'/\D.nx σ' H'
 | .brk=>∃ σ' H',Inv X pins σ' H' s'/\D.bk σ' H'
 | .cont=>∃ σ' H',Inv X pins σ' H' s'/\D.ct σ' H'
 | .ret u=>∃ v σ' H',Inv X pins σ' H' s'/\RelV v u/\D.rt v H'
noncomputable def PE (X:Cx) (e:Expr) (t:TE):Prop :=
 ∀ (pins:List (Addr × Obj)) (s:Shared) (σ:St) (H:Hp) (Q:VK),Inv X pins σ H s->t σ H Q->wpAny (model X.prog X.w) X.A (eval e X.env) (EP X pins σ Q) X.xe s
noncomputable def PT (X:Cx) (e:Expr) (t:TT):Prop :=
 ∀ (pins:List (Addr × Obj)) (s:Shared) (σ:St) (H:Hp) (Q:Bool->Hp->Prop),Inv X pins σ H s->t σ H Q->wpAny (model X.prog X.w) X.A (isTrue e X.env (eval e X.env)) (TP X pins σ Q) X.xe s
noncomputable def PW (X:Cx) (e:Expr) (t:TT):Prop :=
 ∀ (whole:Sem Value) (pins:List (Addr × Obj)) (s:Shared) (σ:St) (H:Hp) (Q:Bool->Hp->Prop),Inv X pins σ H s->t σ H Q->wpAny (model X.prog X.w) X.A (isTrue e X.env whole) (TP X pins σ Q) X.xe s
theorem PW.pt {X:Cx} {e:Expr} {t:TT} (h:PW X e t):PT X e t:=h _
noncomputable def PA (X:Cx) (es:List Expr) (t:TA):Prop :=
 ∀ (pos:Pos) (pins:List (Addr × Obj)) (s:Shared) (σ:St) (H:Hp) (Q:List V->Hp->Prop),Inv X pins σ H s->t σ H Q->wpAny (model X.prog X.w) X.A (spliced (backTo pos (starEach es X.env))) (AP X pins σ Q) X.xe s
noncomputable def PS (X:Cx) (st:Stmt) (t:TS):Prop :=
 ∀ (pins:List (Addr × Obj)) (s:Shared) (σ:St) (H:Hp) (D:Ends),Inv X pins σ H s->t D σ H->wpAny (model X.prog X.w) X.A (exec st X.env) (SP X pins D) X.xe s
noncomputable def QL (X:Cx) (st:List Stmt) (t:TS):Prop :=
 ∀ (pins:List (Addr × Obj)) (s:Shared) (σ:St) (H:Hp) (D:Ends),Inv X pins σ H s->t D σ H->wpAny (model X.prog X.w) X.A (execs st X.env) (SP X pins D) X.xe s
theorem Bq {α:Type} {t:Sem α} {Q Q':α->Shared->Prop} {M:Model} {A:Around} {E:Value->Shared->Prop} {s:Shared} (h:wpAny M A t Q E s) (hQ:∀ a s,Q a s->Q' a s):wpAny M A t Q' E s:=wpAny_mono h hQ fun _ _ x=>x
end L2
namespace L2
open PySem PySem.Spec PyProof.Rows
section
variable {X:Cx}
noncomputable def fO (i:Nat):TE:=fun σ H Q=>∃ v,σ[i]? = some (some v)/\Q v H
noncomputable def tC (v:V):TE:=fun _ H Q=>Q v H
theorem Zd {i:Nat} {x:Str} {pos:Pos} (hN:X.N[i]? = some x) (hv:lR X.env.scope x) (hd:(x == ("__debug__" : Str))=false:=by decide) (hcd:(x == ("__classdict__" : Str))=false:=by decide):PE X (.Name x pos) (fO i):=by
 intro pins s σ H Q I h
 obtain ⟨v,e,h⟩:=h
 obtain ⟨m,hn,hl⟩:=I.loc
 obtain ⟨u,r,l⟩:=hl i x v hN e hv
 have fin:EP X pins σ Q u s:=⟨v,H,I,r,h⟩
 rcases l with ⟨hk,hm⟩ | ⟨hk,c,hc,hcell⟩
 ·exact wpAny_Name (wpAny_loadName_local I.ok.kind hk hn hm fin) hd
 ·rcases hk with hk | hk
  ·exact wpAny_Name (wpAny_loadName_cell I.ok.kind hk hc hcell fin) hd
  ·exact wpAny_Name (wpAny_loadName_free I.ok.kind hk hc hcell fin hcd) hd
theorem Ac {i j pos}:PE X (.Constant (.int i) j pos) (tC (.int i)):=fun _ _ _ H _ I h=>wpAny_Constant_int ⟨.int i,H,I.tok _,⟨_,rfl⟩,h⟩
theorem Kq {b j pos}:PE X (.Constant (.bool b) j pos) (tC (.bl b)):=fun _ _ _ H _ I h=>Constant_bool ⟨.bl b,H,I,rfl,h⟩
theorem Di {x j pos}:PE X (.Constant (.str x) j pos) (tC (.str x)):=fun _ _ _ H _ I h=>Calls.Constant_str ⟨.str x,H,I.tok _,⟨_,rfl⟩,h⟩
noncomputable def Gl (X:Cx) (x:Str):Prop:=X.env.kindOf x=some .globalImplicit
theorem K7 {E:Value->Shared->Prop} {pins:List (Addr × Obj)} {s:Shared} {σ:St} {H:Hp} {x:Str} {u:Value} {pos:Pos} {Q:Value->Shared->Prop} (I:Inv X pins σ H s) (hg:Gl X x) (hm:X.mg x=some u) (h:Q u s)
  (hd:(x == ("__debug__" : Str))=false:=by decide):wpAny (model X.prog X.w) X.A (eval (.Name x pos) X.env) Q E s :=
 Calls.Name_function_global I.ok.kind hg (Calls.loadGlobal_global (by rw [I.ok.glob]; exact I.mod.glob.keeps I.bk) hm h) hd
theorem Ft {E:Value->Shared->Prop} {pins:List (Addr × Obj)} {s:Shared} {σ:St} {H:Hp} {x:Str} {u:Value} {pos:Pos} {Q:Value->Shared->Prop} (I:Inv X pins σ H s) (hg:Gl X x) (hm:X.mg x=none) (hv:bootBuiltins x=some u) (h:Q u s)
  (hn:x ≠ "__name__":=by decide) (hd:(x == ("__debug__" : Str))=false:=by decide):wpAny (model X.prog X.w) X.A (eval (.Name x pos) X.env) Q E s:=by
 obtain ⟨mb,h1,h2⟩:=I.mod.blt
 exact Calls.Name_function_global I.ok.kind hg (Calls.loadGlobal_builtin (by rw [I.ok.glob]; exact I.mod.glob.keeps I.bk) hm (by rw [I.ok.blt]; exact h1.keeps I.bk) ((h2 x hn).trans hv) h) hd
theorem CW {x:Str} {v:V} {u:Value} {pos:Pos} (hg:Gl X x) (hm:X.mg x=some u) (r:RelV v u) (hd:(x == ("__debug__" : Str))=false:=by decide):PE X (.Name x pos) (tC v) :=
 fun _ _ _ H _ I h=>K7 I hg hm ⟨v,H,I,r,h⟩ hd
theorem E_ {x:Str} {v:V} {u:Value} {pos:Pos} (hg:Gl X x) (hm:X.mg x=none) (hv:bootBuiltins x=some u) (r:RelV v u) (hn:x ≠ "__name__":=by decide) (hd:(x == ("__debug__" : Str))=false:=by decide):PE X (.Name x pos) (tC v) :=
 fun _ _ _ H _ I h=>Ft I hg hm hv ⟨v,H,I,r,h⟩ hn hd
variable {a b:Expr} {ta tb:TE} {pos:Pos}
noncomputable def PC (X:Cx) (op:CmpOp) (a b:Expr) (t:TE):Prop :=
 ∀ (pins:List (Addr × Obj)) (s:Shared) (σ:St) (H:Hp) (Q:VK),Inv X pins σ H s->t σ H Q ->
  wpAny (model X.prog X.w) X.A (eval a X.env) (fun v s₁=>wpAny (model X.prog X.w) X.A (eval b X.env) (fun u s₂=>wpAny (model X.prog X.w) X.A (compareOp op v u) (EP X pins σ Q) X.xe s₂) X.xe s₁) X.xe s
noncomputable def tB (t:TE):TT:=fun σ H Q=>t σ H fun x H1=>∃ c,x=.bl c/\Q c H1
theorem Uo {op:CmpOp} {t:TE} (h:PC X op a b t) (h1:behindInMarks op b=false:=by first | exact nobehind _ (by decide) (by decide) | rfl):PE X (.Compare a [op] [b] pos) t:=fun pins s σ H Q I hw=>wpAny_Compare1 (h pins s σ H Q I hw) h1
theorem Yw {op:CmpOp} {t:TE} (h:PC X op a b t) (h1:behindInMarks op b=false:=by first | exact nobehind _ (by decide) (by decide) | rfl):PT X (.Compare a [op] [b] pos) (tB t):=by
 intro pins s σ H Q I hw
 refine wpAny_isTrue_Compare1 (Bq (h pins s σ H _ I hw) fun v s1 h1=>Bq h1 fun u s2 h2=>Bq h2 fun c s3 ⟨x,H1,I1,r1,q1⟩=>?_) h1
 obtain ⟨d,rfl,q⟩:=q1
 cases r1
 exact wpAny_truthy_bool ⟨H1,I1,q⟩
theorem Et {e:Expr} {t:TE} (h:PE X e t) (he:∀ whole,isTrue e X.env whole=(do let v ← whole; standAt e.pos; holding [v] (truthy v)):=by intro _; rfl):PT X e (tB t):=by
 intro pins s σ H Q I hw
 refine isTrue_plain (Bq (h pins s σ H _ I hw) fun v s1 ⟨x,H1,I1,r1,q1⟩=>?_) (he _)
 obtain ⟨d,rfl,q⟩:=q1
 cases r1
 exact wpAny_truthy_bool ⟨H1,I1,q⟩
variable {tA tB':TT} {rest:List Expr}
noncomputable def j9 (t u:TT):TT:=fun σ H Q=>t σ H fun c H1=>if c=true then u σ H1 Q else Q false H1
noncomputable def jQ (t u:TT):TT:=fun σ H Q=>t σ H fun c H1=>if c=true then Q true H1 else u σ H1 Q
noncomputable def lY (t:TT):TT:=fun σ H Q=>t σ H fun c H1=>Q (!c) H1
theorem JF (ha:PT X a tA):PW X (.BoolOp .And [a] pos) tA:=by
 intro wh pins s σ H Q I h
 refine isTrue_and (Bq (ha pins s σ H Q I h) fun c s1 e=>?_)
 cases c with
 | true=>exact isTrue_and_nil e
 | false=>exact e
theorem Gg (ha:PT X a tA):PW X (.BoolOp .Or [a] pos) tA:=by
 intro wh pins s σ H Q I h
 refine isTrue_or (Bq (ha pins s σ H Q I h) fun c s1 e=>?_)
 cases c with
 | false=>exact isTrue_or_nil e
 | true=>exact e
theorem J7 (ha:PT X a tA) (hb:PW X (.BoolOp .And (b::rest) pos) tB'):PW X (.BoolOp .And (a::b::rest) pos) (j9 tA tB'):=by
 intro wh pins s σ H Q I h
 refine isTrue_and (Bq (ha pins s σ H _ I h) fun c s1 hq0=>?_)
 obtain ⟨H1,I1,q1⟩:=hq0
 cases c with
 | true=>exact hb wh pins s1 σ H1 Q I1 q1
 | false=>exact ⟨H1,I1,q1⟩
theorem Ge (ha:PT X a tA) (hb:PW X (.BoolOp .Or (b::rest) pos) tB'):PW X (.BoolOp .Or (a::b::rest) pos) (jQ tA tB'):=by
 intro wh pins s σ H Q I h
 refine isTrue_or (Bq (ha pins s σ H _ I h) fun c s1 hq0=>?_)
 obtain ⟨H1,I1,q1⟩:=hq0
 cases c with
 | true=>exact ⟨H1,I1,q1⟩
 | false=>exact hb wh pins s1 σ H1 Q I1 q1
theorem Dk (ha:PT X a tA):PT X (.UnaryOp .Not a pos) (lY tA):=by
 intro pins s σ H Q I h
 exact isTrue_not (ha pins s σ H (fun c H1=>Q (!c) H1) I h)
noncomputable def dG (ta tb:TE):TE:=fun σ H Q=>ta σ H fun x H1=>∃ c,x=.bl c/\if c=true then tb σ H1 Q else Q (.bl false) H1
noncomputable def iQ (ta tb:TE):TE:=fun σ H Q=>ta σ H fun x H1=>∃ c,x=.bl c/\if c=true then Q (.bl true) H1 else tb σ H1 Q
noncomputable def cT (ta:TE):TE:=fun σ H Q=>ta σ H fun x H1=>∃ c,x=.bl c/\Q (.bl (!c)) H1
theorem Cu {op} {t:TE} (h:PE X a t):PE X (.BoolOp op [a] pos) t:=fun pins s σ H Q I hw=>BoolOp_one (h pins s σ H Q I hw)
theorem Cj (ha:PE X a ta) (hb:PE X (.BoolOp .And (b::rest) pos) tb):PE X (.BoolOp .And (a::b::rest) pos) (dG ta tb):=by
 intro pins s σ H Q I h
 refine BoolOp_and (Bq (ha pins s σ H _ I h) fun v s1 hq0=>?_)
 obtain ⟨x,H1,I1,r1,q1⟩:=hq0
 obtain ⟨c,rfl,q1⟩:=q1
 cases r1
 refine wpAny_truthy_bool ?_
 cases c with
 | true=>exact hb pins s1 σ H1 Q I1 q1
 | false=>exact ⟨.bl false,H1,I1,rfl,q1⟩
theorem dw (ha:PE X a ta) (hb:PE X (.BoolOp .Or (b::rest) pos) tb):PE X (.BoolOp .Or (a::b::rest) pos) (iQ ta tb):=by
 intro pins s σ H Q I h
 refine BoolOp_or (Bq (ha pins s σ H _ I h) fun v s1 hq0=>?_)
 obtain ⟨x,H1,I1,r1,q1⟩:=hq0
 obtain ⟨c,rfl,q1⟩:=q1
 cases r1
 refine wpAny_truthy_bool ?_
 cases c with
 | false=>exact hb pins s1 σ H1 Q I1 q1
 | true=>exact ⟨.bl true,H1,I1,rfl,q1⟩
theorem Vf (ha:PE X a ta):PE X (.UnaryOp .Not a pos) (cT ta):=by
 intro pins s σ H Q I h
 refine UnaryOp_ (Bq (ha pins s σ H _ I h) fun v s1 hq0=>?_)
 obtain ⟨x,H1,I1,r1,q1⟩:=hq0
 obtain ⟨c,rfl,q1⟩:=q1
 cases r1
 exact not_of (wpAny_truthy_bool ⟨.bl (!c),H1,I1,rfl,q1⟩)
end
end L2
namespace L2
open PySem PySem.Spec PyProof.Rows
noncomputable def CZ (K:PySem.W.Frag) (H:Hp) (a:Addr) (xs:List V):Prop :=
 Rd H a (.lst xs) \/
  ∃ (o:Obj) (its:Array Value) (n:Nat),K.lookup a=some o/\o.cls=.type "list" /\ o.dict=none/\o.data=.seq its n/\its.size<=sizeLine/\Vals xs its.toList
noncomputable def Eg (K:PySem.W.Frag) (H:Hp) (a:Addr) (xs:List V):Prop :=
 Rd H a (.tup xs) \/
  ∃ (o:Obj) (its:Array Value) (n:Nat),K.lookup a=some o/\o.cls=.type "tuple" /\ o.data=.seq its n/\its.size<=sizeLine/\Vals xs its.toList
noncomputable def ji:Value->Option V
 | .none=>some .non
 | .bool b=>some (.bl b)
 | .int i _=>some (.int i)
 | .str x _=>some (.str x)
 | .bytes b _=>some (.byt b)
 | .float b _=>some (.flt b)
 | .ref a=>some (.ref a)
 | .type n=>some (.ty n)
 | _=>none
theorem RelV.abs {x:V} {u:Value} (r:RelV x u):ji u=some x:=by
 cases x with
 | non=>cases r; rfl
 | bl _=>cases r; rfl
 | int _=>obtain ⟨t,rfl⟩:=r; rfl
 | str _=>obtain ⟨t,rfl⟩:=r; rfl
 | byt _=>obtain ⟨t,rfl⟩:=r; rfl
 | flt _=>obtain ⟨t,rfl⟩:=r; rfl
 | ref _=>cases r; rfl
 | ty _=>cases r; rfl
theorem RelV.inj {x y:V} {u:Value} (r:RelV x u) (q:RelV y u):x=y:=Option.some.inj (r.abs.symm.trans q.abs)
theorem Vals.inj:∀ {xs ys:List V} {us:List Value},Vals xs us->Vals ys us->xs=ys
 | _,_,_,.nil,.nil=>rfl
 | _,_,_,.cons r t,.cons r' t'=>by rw [r.inj r',Vals.inj t t']
section
variable {X:Cx} {pins:List (Addr × Obj)} {σ:St} {H:Hp} {s:Shared} {a:Addr} {xs ys:List V}
theorem Inv.list (I:Inv X pins σ H s) (h:CZ X.K H a xs):∃ its:List Value,Vals xs its/\PlainL s.heap a its.toArray/\xs.length<=sizeLine:=by
 rcases h with h | ⟨o,its,n,hk,hc,hd,hs,hz,r⟩
 ·obtain ⟨z,its,n,r,e⟩:=h.ok I.hok
  exact ⟨its,r,⟨_,n,e,rfl,rfl,rfl⟩,z⟩
 ·refine ⟨its.toList,r,⟨o,n,I.Ho a o hk,hc,hd,by simpa using hs⟩,?_⟩
  have e:=r.length
  simp only [Array.length_toList] at e
  omega
theorem Inv.tuple (I:Inv X pins σ H s) (h:Eg X.K H a xs):∃ its:List Value,Vals xs its/\IsTup s.heap a its.toArray/\xs.length<=sizeLine:=by
 rcases h with h | ⟨o,its,n,hk,hc,hs,hz,r⟩
 ·obtain ⟨z,its,r,p⟩:=h.ok I.hok
  exact ⟨its,r,p,z⟩
 ·refine ⟨its.toList,r,⟨o,I.Ho a o hk,hc,n,by simpa using hs⟩,?_⟩
  have e:=r.length
  simp only [Array.length_toList] at e
  omega
theorem Inv.Hk (I:Inv X pins σ H s) (h:CZ X.K H a xs) (h':CZ X.K H a ys):xs=ys:=by
 obtain ⟨its,r,⟨o,n,e,_,_,d⟩,_⟩:=I.list h
 obtain ⟨its',r',⟨o',n',e',_,_,d'⟩,_⟩:=I.list h'
 rw [e] at e'; cases e'
 rw [d] at d'
 injection d' with d1 _
 have:its=its':=by simpa using congrArg Array.toList d1
 subst this
 exact r.inj r'
theorem Inv.IW (I:Inv X pins σ H s) (h:Eg X.K H a xs) (h':Eg X.K H a ys):xs=ys:=by
 obtain ⟨its,r,⟨o,e,_,n,d⟩,_⟩:=I.tuple h
 obtain ⟨its',r',⟨o',e',_,n',d'⟩,_⟩:=I.tuple h'
 rw [e] at e'; cases e'
 rw [d] at d'
 injection d' with d1 _
 have:its=its':=by simpa using congrArg Array.toList d1
 subst this
 exact r.inj r'
end
noncomputable abbrev Cx.wish (X:Cx) (E:Value->Shared->Prop):Cx:={ X with xe:=E }
noncomputable abbrev Cx.Zx (X:Cx):Cx:=X.wish fun _ _=>False
theorem Cx.Ok.wish {X:Cx} (ok:X.Ok) (E:Value->Shared->Prop):(X.wish E).Ok :=
 ⟨ok.mod,ok.kind,ok.glob,ok.blt,ok.above,ok.inj,ok.has,ok.cab,ok.hd,ok.frames,ok.stk,ok.exf,ok.bs,ok.bsz,ok.noex,ok.exfs,ok.Im,ok.frf⟩
theorem Cx.Ok.Ga {X:Cx} {E:Value->Shared->Prop} (ok:(X.wish E).Ok):X.Ok :=
 ⟨ok.mod,ok.kind,ok.glob,ok.blt,ok.above,ok.inj,ok.has,ok.cab,ok.hd,ok.frames,ok.stk,ok.exf,ok.bs,ok.bsz,ok.noex,ok.exfs,ok.Im,ok.frf⟩
section
variable {X:Cx} {pins:List (Addr × Obj)} {σ:St} {H:Hp} {s:Shared} {E:Value->Shared->Prop}
theorem Inv.wish (I:Inv X pins σ H s) (E:Value->Shared->Prop):Inv (X.wish E) pins σ H s:=⟨I.ok.wish E,I.os,I.bare,I.base,I.loc,I.cell,I.free,I.freeC,I.pin,I.hok,I.len⟩
theorem Inv.Ga (I:Inv (X.wish E) pins σ H s):Inv X pins σ H s:=⟨I.ok.Ga,I.os,I.bare,I.base,I.loc,I.cell,I.free,I.freeC,I.pin,I.hok,I.len⟩
theorem SP.Ga {D:Ends} {f:Flow} {s':Shared} (h:SP (X.wish E) pins D f s'):SP X pins D f s':=by
 cases f with
 | next=>obtain ⟨σ',H',I,q⟩:=h; exact ⟨σ',H',I.Ga,q⟩
 | brk=>obtain ⟨σ',H',I,q⟩:=h; exact ⟨σ',H',I.Ga,q⟩
 | cont=>obtain ⟨σ',H',I,q⟩:=h; exact ⟨σ',H',I.Ga,q⟩
 | ret u=>obtain ⟨v,σ',H',I,r,q⟩:=h; exact ⟨v,σ',H',I.Ga,r,q⟩
theorem QL.Zx {st:List Stmt} {t:TS} (h:QL X.Zx st t):QL X st t:=fun pins s σ H D I hw =>
 wpAny_mono (h pins s σ H D (I.wish _) hw) (fun _ _ q=>q.Ga) fun _ _ z=>False.elim z
end
section
variable {X:Cx} {st:Stmt} {rest:List Stmt} {t u:TS} {e:Expr} {te:TE} {pos:Pos}
noncomputable def cM:TS:=fun D σ H=>D.nx σ H
noncomputable def ZQ (t u:TS):TS:=fun D σ H=>t { D with nx:=u D } σ H
theorem Bk:QL X [] cM:=fun _ _ σ H _ I h=>wpAny_execs_nil ⟨σ,H,I,h⟩
theorem Ae (h1:PS X st t) (h2:QL X rest u):QL X (st::rest) (ZQ t u):=by
 intro pins s σ H D I h
 refine wpAny_execs_cons (Bq (h1 pins s σ H { D with nx:=u D } I h) fun f s1 q=>?_)
 cases f with
 | next =>
  obtain ⟨σ',H',I',q⟩:=q
  exact h2 pins s1 σ' H' D I' q
 | ret v=>exact q
 | brk=>exact q
 | cont=>exact q
theorem Aj (h1:PS X st t):QL X [st] t:=by
 intro pins s σ H D I h
 refine wpAny_execs_cons (Bq (h1 pins s σ H D I h) fun f s1 q=>?_)
 cases f with
 | next=>exact wpAny_execs_nil q
 | ret v=>exact q
 | brk=>exact q
 | cont=>exact q
noncomputable def Zr:TS:=fun D σ H=>D.bk σ H
theorem Sy:PS X (.Break pos) Zr:=fun _ _ σ H _ I h=>wpAny_Break ⟨σ,H,I,h⟩
theorem Inv.quiet {pins:List (Addr × Obj)} {σ:St} {H:Hp} {s:Shared} (I:Inv X pins σ H s):interactive X.env=false:=by simp [interactive,I.ok.kind]
noncomputable def cC (te:TE):TS:=fun D σ H=>te σ H fun _ H1=>D.nx σ H1
theorem DG (he:PE X e te) (hs:swapsWith e none pos.line X.env=pure false:=by rfl):PS X (.Expr e pos) (cC te):=by
 intro pins s σ H D I h
 exact wpAny_Expr_any (Bq (he pins s σ H _ I h) fun v s1 ⟨x,H1,I1,r1,q1⟩=>⟨σ,H1,I1,q1⟩) I.quiet hs
noncomputable def iz (te:TE):TS:=fun D σ H=>te σ H D.rt
theorem BR (he:PE X e te):PS X (.Return (some e) pos) (iz te):=by
 intro pins s σ H D I h
 exact wpAny_Return_some (Bq (he pins s σ H _ I h) fun v s1 ⟨x,H1,I1,r1,q1⟩=>⟨x,σ,H1,I1,r1,q1⟩)
noncomputable def Ym (c:TT) (t u:TS):TS:=fun D σ H=>c σ H fun b H1=>if b=true then t D σ H1 else u D σ H1
theorem Ca {c:Expr} {a b:List Stmt} {tc:TT} (hc:PT X c tc) (ha:QL X a t) (hb:QL X b u):PS X (.If c a b pos) (Ym tc t u):=by
 intro pins s σ H D I h
 refine wpAny_If (Bq (hc pins s σ H _ I h) fun d s1 hq0=>?_)
 obtain ⟨H1,I1,q1⟩:=hq0
 cases d with
 | true=>exact ha pins s1 σ H1 D I1 q1
 | false=>exact hb pins s1 σ H1 D I1 q1
noncomputable def Zg:TS:=fun _ _ _=>False
theorem Dq:PS X st Zg:=fun _ _ _ _ _ _ h=>h.elim
end
noncomputable abbrev TG:=V->St->Hp->(St->Hp->Prop)->Prop
noncomputable abbrev XD:=List V->St->Hp->(St->Hp->Prop)->Prop
noncomputable def PG (X:Cx) (target:Expr) (t:TG):Prop :=
 ∀ (pins:List (Addr × Obj)) (s:Shared) (σ:St) (H:Hp) (v:V) (u:Value) (Q:St->Hp->Prop),Inv X pins σ H s->RelV v u->t v σ H Q ->
  wpAny (model X.prog X.w) X.A (assign target X.env u) (fun _ s'=>∃ σ' H',Inv X pins σ' H' s'/\Q σ' H') X.xe s
noncomputable def fV (X:Cx) (ts:List Expr) (t:XD):Prop :=
 ∀ (pins:List (Addr × Obj)) (s:Shared) (σ:St) (H:Hp) (vs:List V) (us:List Value) (Q:St->Hp->Prop),Inv X pins σ H s->Vals vs us->t vs σ H Q ->
  wpAny (model X.prog X.w) X.A (assignInOrder ((assignEach ts X.env).map (·.2)) us) (fun _ s'=>∃ σ' H',Inv X pins σ' H' s'/\Q σ' H') X.xe s
noncomputable abbrev ZP:=V->V->V->Hp->(Hp->Prop)->Prop
noncomputable def dI (X:Cx) (t:ZP):Prop :=
 ∀ (pins:List (Addr × Obj)) (s:Shared) (σ:St) (H:Hp) (o i v:V) (ov iv u:Value) (Q:Hp->Prop),Inv X pins σ H s->RelV o ov->RelV i iv->RelV v u->t o i v H Q ->
  wpAny (model X.prog X.w) X.A (setItem ov iv u) (fun _ s'=>∃ H',Inv X pins σ H' s'/\Q H') X.xe s
section
variable {X:Cx} {pos:Pos}
noncomputable def CV (i:Nat):TG:=fun v σ H Q=>Q (σ.set i (some v)) H
theorem Ba {i:Nat} {x:Str} (hN:X.N.Nodup) (hi:X.N[i]? = some x) (hx:Loc X.env.scope x) (hf:X.fn x=true \/ X.env.scope.names.lookup x=some .local:=by first | exact .inl rfl | exact .inr rfl | assumption):PG X (.Name x pos) (CV i):=by
 intro pins s σ H v u Q I r h
 exact wpAny_assign_Name (J3 I hN hi hx r (fun s' I'=>⟨_,H,I',h⟩) hf)
noncomputable def NP:XD:=fun vs σ H Q=>vs=[]/\Q σ H
noncomputable def Dv (t:TG) (u:XD):XD:=fun vs σ H Q=>∃ v r,vs=v::r/\t v σ H fun σ' H'=>u r σ' H' Q
theorem Em:fV X [] NP:=by
 intro pins s σ H vs us Q I r h
 obtain ⟨e,h⟩:=h
 subst e
 cases r
 exact assignInOrder_nil ⟨σ,H,I,h⟩
theorem Bo {e:Expr} {es:List Expr} {t:TG} {u:XD} (h1:PG X e t) (h2:fV X es u)
  (hs:(assignEach (e::es) X.env).map (·.2)=assign e X.env::(assignEach es X.env).map (·.2):=by rfl):fV X (e::es) (Dv t u):=by
 intro pins s σ H vs us Q I r h
 obtain ⟨v,vr,e1,h⟩:=h
 subst e1
 cases r with
 | cons r rr =>
  rw [hs]
  refine assignInOrder_cons (Bq (h1 pins s σ H _ _ _ I r h) fun _ s1 hq0=>?_)
  obtain ⟨σ1,H1,I1,q1⟩:=hq0
  exact h2 pins s1 σ1 H1 _ _ Q I1 rr q1
noncomputable def M7 (K:PySem.W.Frag) (n:Nat) (t:XD):TG:=fun v σ H Q=>∃ a xs,v=.ref a/\Eg K H a xs/\xs.length=n/\t xs σ H Q
theorem Gi {es:List Expr} {k:Nat} {t:XD} {n:Nat} (hc:X.calm=true) (h:fV X es t)
  (hn:(assignEach es X.env).length=n:=by rfl) (hst:(assignEach es X.env).findIdx? (·.1)=none:=by rfl):PG X (.Tuple es k pos) (M7 X.K n t):=by
 intro pins s σ H v u Q I r hw
 obtain ⟨a,xs,e1,hq,hl,hw⟩:=hw
 subst e1
 cases r
 obtain ⟨its,rv,ht,hz⟩:=I.tuple hq
 refine assign_Tuple_tuple (I.ok.hd hc) ht (by simp [hn,← hl,rv.length]) hst fun h' hx=>?_
 have I1:Inv X pins σ H { s with heap:=h' }:=I.kept (t':=s.toks) fun b o e=>hx b o (aS (Heap.lt_size e)) e
 exact h pins _ σ H xs _ Q I1 (by simpa using rv) hw
noncomputable def jH (to ti:TE) (t:ZP):TG:=fun v σ H Q=>to σ H fun o H1=>ti σ H1 fun i H2=>t o i v H2 fun H3=>Q σ H3
theorem J0 {o i:Expr} {to ti:TE} {t:ZP} (ho:PE X o to) (hi:PE X i ti) (hs:dI X t)
  (ha:∀ v,assign (.Subscript o i pos) X.env v=(do
   let ov ← holding [v] (eval o X.env)
   let iv ← holding [v,ov] (eval i X.env)
   standAt pos
   holding [v,ov,iv] (setItem ov iv v)
   release [v,ov,iv] []):=by intro _; rfl):PG X (.Subscript o i pos) (jH to ti t):=by
 intro pins s σ H v u Q I r h
 rw [ha]
 refine wpAny_bind (wpAny_holding (Bq (ho pins s σ H _ I h) fun ov s1 hq0=>?_))
 obtain ⟨x,H1,I1,r1,q1⟩:=hq0
 refine wpAny_bind (wpAny_holding (Bq (hi pins s1 σ H1 _ I1 q1) fun iv s2 hq0=>?_))
 obtain ⟨y,H2,I2,r2,q2⟩:=hq0
 refine wpAny_bind (wpAny_standAt (wpAny_bind (wpAny_holding (Bq (hs pins s2 σ H2 x y v ov iv u _ I2 r1 r2 r q2) fun _ s3 hq0=>?_))))
 obtain ⟨H3,I3,q3⟩:=hq0
 exact wpAny_release ⟨σ,H3,I3,q3⟩
noncomputable def TJ (te:TE) (g:TG):TS:=fun D σ H=>te σ H fun x H1=>g x σ H1 D.nx
theorem IK {tg e:Expr} {te:TE} {g:TG} (he:PE X e te) (hg:PG X tg g) (hs:swapsWithSole [tg] e pos.line X.env=pure false:=by rfl) (hw:swappedStores [tg] e X.env=pure none:=by rfl)
  (h1:(assignEach [tg] X.env).map (·.2)=[assign tg X.env]:=by rfl):PS X (.Assign [tg] e pos) (TJ te g):=by
 intro pins s σ H D I h
 refine wpAny_Assign_stores (Bq (he pins s σ H _ I h) fun v s1 ⟨x,H1,I1,r1,q1⟩=>?_) hs hw
 rw [h1]
 exact Bq (hg pins s1 σ H1 x v _ I1 r1 q1) fun _ s2 q=>q
theorem Fi {i:Nat} {x:Str} {e:Expr} {te:TE} {pos':Pos} (hN:X.N.Nodup) (hi:X.N[i]? = some x) (hx:Loc X.env.scope x) (he:PE X e te) (hs:swapsWith e (some (.Name x pos')) pos.line X.env=pure false:=by rfl) (hf:X.fn x=true \/ X.env.scope.names.lookup x=some .local:=by first | exact .inl rfl | exact .inr rfl | assumption) :
  PS X (.Assign [.Name x pos'] e pos) (TJ te (CV i)):=by
 intro pins s σ H D I h
 refine wpAny_Assign_Name (Bq (he pins s σ H _ I h) fun v s1 ⟨y,H1,I1,r1,q1⟩=>?_) hs
 exact J3 I1 hN hi hx r1 (fun s2 I2=>⟨_,H1,I2,q1⟩) hf
end
section
variable {X:Cx} {pos:Pos}
noncomputable def La (c:TT) (tb:TS):TS:=fun D σ H=>∃ W:Nat->St->Hp->Prop,(∃ m,W m σ H)/\∀ m σ H,W m σ H ->
 c σ H fun b H1=>if b=true then ∃ N:St->Hp->Prop,(∀ σ' H',N σ' H'->∃ m',m'<m/\W m' σ' H')/\tb { D with nx:=N,ct:=N,bk:=D.nx } σ H1 else D.nx σ H1
theorem S7 {c:Expr} {body:List Stmt} {tc:TT} {tb:TS} (hp:PassesOwn (model X.prog X.w) X.A X.env X.xe) (hc:PT X c tc) (hb:QL X body tb):PS X (.While c body [] pos) (La tc tb):=by
 intro pins s σ H D I h
 obtain ⟨W,⟨m0,w0⟩,turn⟩:=h
 refine wpAny_While (codeAny_whileLoop (fun n s'=>∃ σ' H',Inv X pins σ' H' s'/\W n σ' H') ?_ m0 ⟨σ,H,I,w0⟩)
 rintro n s1 ⟨σ1,H1,I1,w1⟩
 refine wpAny_passesOwn hp (Bq (hc pins s1 σ1 H1 _ I1 (turn n σ1 H1 w1)) fun b s2 hq0=>?_)
 obtain ⟨H2,I2,q2⟩:=hq0
 cases b with
 | true =>
  obtain ⟨N,hN,q2⟩:=q2
  rw [if_pos rfl]
  refine wpAny_passesOwn hp (Bq (hb pins s2 σ1 H2 _ I2 q2) fun f s3 q3=>?_)
  cases f with
  | next =>
   obtain ⟨σ3,H3,I3,n3⟩:=q3
   obtain ⟨m',hm,w3⟩:=hN σ3 H3 n3
   exact ⟨m',hm,σ3,H3,I3,w3⟩
  | cont =>
   obtain ⟨σ3,H3,I3,n3⟩:=q3
   obtain ⟨m',hm,w3⟩:=hN σ3 H3 n3
   exact ⟨m',hm,σ3,H3,I3,w3⟩
  | brk=>exact q3
  | ret v=>exact q3
 | false =>
  rw [if_neg dl]
  exact wpAny_execs_nil ⟨σ1,H2,I2,q2⟩
end
structure It where
 go:Nat->Hp->Prop
 yld:Nat->Hp->V->Hp->Prop
 stop:Nat->Hp->Prop
noncomputable def Ek (X:Cx) (pins:List (Addr × Obj)) (H:Hp) (b:Addr):Prop :=
 H b=none/\b ≠ X.env.locals/\b ∉ X.fs/\(b∈X.ex \/ X.s₀.heap.objs.size<=b)/\(∀ x c,X.env.cells.lookup x=some c->c ≠ b)/\∀ p∈X.pn++pins,p.1 ≠ b
theorem Inv.JL {X:Cx} {pins:List (Addr × Obj)} {σ:St} {H H':Hp} {s:Shared} {b:Addr} (I:Inv X pins σ H s) (hb:s.heap.objs.size<=b) (hn:H' b=none):Ek X pins H' b:=by
 refine ⟨hn,fq (ay I.lt hb),I.ie hb,.inr (br I.sz hb),fun x c e z=>?_,fun p hp z=>?_⟩
 ·obtain ⟨v,q⟩:=I.cell x c e
  exact absurd (ay q.lt (by rw [z]; exact hb)) (ed _)
 ·exact absurd (ay (Heap.lt_size (I.pin p hp).1) (by rw [z]; exact hb)) (ed _)
structure Turn (P:Program) (w:World) (K:PySem.W.Frag) (tg:Expr) (J:It) (fp:List Addr) (it:Addr) (tn:Nat->Heap->Prop):Prop where
 mem:it∈fp
 obj:∀ i h,tn i h->∀ b∈fp,∃ o,h.get? b=some o/\∀ v,o.data ≠ .cell v
 keep:∀ i h h',tn i h->(∀ b∈fp,∀ o,h.get? b=some o->h'.get? b=some o)->tn i h'
 item:∀ (X:Cx),X.prog=P->X.w=w->X.K=K->X.calm=true->∀ (i:Nat) (pins:List (Addr × Obj)) (s:Shared) (σ:St) (H:Hp) (E:Value->Shared->Prop),Inv X pins σ H s->(∀ b∈fp,Ek X pins H b)->tn i s.heap->J.go i H ->
  wpAny (model P w) X.A (pyNext (.ref it)) (fun r s1=>∃ u,r=some u /\
   wpAny (model P w) X.A (letOwnedTupleGo tg (.ref it) u) (fun _ s2=>∃ x H',Inv X pins σ H' s2/\RelV x u/\J.yld i H x H'/\tn (i+1) s2.heap/\∀ b∈fp,H' b=none) E s1) E s
 done:∀ (X:Cx),X.prog=P->X.w=w->X.K=K->X.calm=true->∀ (i:Nat) (pins:List (Addr × Obj)) (s:Shared) (σ:St) (H:Hp) (E:Value->Shared->Prop),Inv X pins σ H s->(∀ b∈fp,Ek X pins H b)->tn i s.heap->J.stop i H ->
  wpAny (model P w) X.A (pyNext (.ref it)) (fun r s1=>r=none/\Inv X pins σ H s1) E s
 self:∀ (A:Around) (i:Nat) (s:Shared) (Q:Value->Shared->Prop) (E:Value->Shared->Prop),tn i s.heap->Q (.ref it) s->wpAny (model P w) A (pyIter (.ref it)) Q E s
noncomputable abbrev TI:=St->Hp->(It->Hp->Prop)->Prop
noncomputable def PIE (X:Cx) (pins:List (Addr × Obj)) (σ:St) (tg:Expr) (R:It->Hp->Prop) (itv:Value) (s2:Shared):Prop :=
 ∃ (it:Addr) (fp:List Addr) (tn:Nat->Heap->Prop) (J:It) (H':Hp),itv=.ref it/\Inv X pins σ H' s2/\Turn X.prog X.w X.K tg J fp it tn/\tn 0 s2.heap/\(∀ b∈fp,Ek X pins H' b)/\R J H'
noncomputable def PI (X:Cx) (tg iter:Expr) (wi:TI):Prop :=
 ∀ (pins:List (Addr × Obj)) (s:Shared) (σ:St) (H:Hp) (R:It->Hp->Prop),Inv X pins σ H s->wi σ H R ->
  wpAny (model X.prog X.w) X.A (eval iter X.env) (fun v s1=>wpAny (model X.prog X.w) X.A (pyIter v) (PIE X pins σ tg R) X.xe s1) X.xe s
theorem N5 {M:Model} {A:Around} {E:Value->Shared->Prop} {s:Shared} {tg:Expr} {it:Addr} {u:Value} {o:Obj} {n:String} {vs:Array Value} {Q:Unit->Shared->Prop} (ho:s.heap.get? it=some o) (hc:o.cls=.type n) (hd:o.data=.fields vs)
  (hn:["enumerate","zip","dict_itemiterator","dict_reverseitemiterator","odict_iterator","itertools.zip_longest","itertools.pairwise"].contains n=false) (hQ:Q () s):wpAny M A (letOwnedTupleGo tg (.ref it) u) Q E s:=by
 unfold letOwnedTupleGo
 cases tg <;> first
  | exact wpAny_pure hQ
  | (cases u <;> first
    | exact wpAny_pure hQ
    | (refine wpAny_bind (wpAny_load ho ?_)
       rw [hc,hd]
       show wpAny M A (if (["enumerate","zip","dict_itemiterator","dict_reverseitemiterator","odict_iterator","itertools.zip_longest","itertools.pairwise"].contains n && vs[0]? == some (rawInt _))=true then _ else _) Q E s
       rw [if_neg (by intro h; rw [hn,Bool.false_and] at h; cases h)]
       exact wpAny_pure hQ))
noncomputable def Qw (K:PySem.W.Frag) (a:Addr):It :=
 ⟨fun i H=>∃ xs x,CZ K H a xs/\xs[i]? = some x,fun i H x H'=>H'=H/\∀ xs,CZ K H a xs->xs[i]? = some x,fun i H=>∃ xs,CZ K H a xs/\xs.length<=i⟩
noncomputable def mV (K:PySem.W.Frag) (a:Addr):It :=
 ⟨fun i H=>∃ xs x,Eg K H a xs/\xs[i]? = some x,fun i H x H'=>H'=H/\∀ xs,Eg K H a xs->xs[i]? = some x,fun i H=>∃ xs,Eg K H a xs/\xs.length<=i⟩
noncomputable def Xr (lo:Int) (n:Nat):It:=⟨fun i _=>i<n,fun i H x H'=>H'=H/\x=.int (lo+i),fun i _=>n<=i⟩
theorem Rc {P:Program} {w:World} {K:PySem.W.Frag} {tg:Expr} (a it:Addr):Turn P w K tg (Qw K a) [it] it (fun i h=>h.IsListIter it a i) where
 mem:=by simp
 obj:=fun i h st b hb=>by
  have e:b=it:=by simpa using hb
  subst e
  obtain ⟨o,e,c,d⟩:=st
  exact ⟨o,e,fun v z=>by rw [d] at z; cases z⟩
 keep:=fun i h h' st k=>st.at fun o e=>k it (by simp) o e
 item:=by
  intro X hP hw hK hc i pins s σ H E I hf st hg
  subst hP hw hK
  obtain ⟨xs,x,hq,hx⟩:=hg
  obtain ⟨its,rv,p,hz⟩:=I.list hq
  obtain ⟨u,hu,ru⟩:=rv.get hx
  obtain ⟨f0,f1,f2,f3,f4,f5⟩:=hf it (by simp)
  refine wpAny_pyNext_list_item st p.isList (x:=u) (by simpa using hu) fun h' st' sb=>?_
  have I1:Inv X pins σ H { s with heap:=h' }:=I.turned (t':=s.toks) (fun b o hb e=>(sb.2 b hb).trans e) f0 f1 f3 f4 f5
  obtain ⟨o,e,c,d⟩:=id st'
  exact ⟨u,rfl,N5 (s:={ s with heap:=h' }) e c d (by decide) ⟨x,H,I1,ru,⟨rfl,fun ys hy=>by rw [I.Hk hy hq]; exact hx⟩,st',fun b hb=>(hf b hb).1⟩⟩
 done:=by
  intro X hP hw hK hc i pins s σ H E I hf st hg
  subst hP hw hK
  obtain ⟨xs,hq,hx⟩:=hg
  obtain ⟨its,rv,p,hz⟩:=I.list hq
  obtain ⟨f0,f1,f2,f3,f4,f5⟩:=hf it (by simp)
  have hl:=rv.length
  exact wpAny_pyNext_list_end (I.ok.hd hc) st p.isList (by simp; omega) fun h' eb=>⟨rfl,I.turned (t':=s.toks) (fun b o hb e=>eb b o hb e) f0 f1 f3 f4 f5⟩
 self:=fun _ _ _ _ _ st h=>wpAny_pyIter_listiter st h
theorem Oa {P:Program} {w:World} {K:PySem.W.Frag} {tg:Expr} (a it:Addr):Turn P w K tg (mV K a) [it] it (fun i h=>h.IsTupleIter it a i) where
 mem:=by simp
 obj:=fun i h st b hb=>by
  have e:b=it:=by simpa using hb
  subst e
  obtain ⟨o,e,c,d⟩:=st
  exact ⟨o,e,fun v z=>by rw [d] at z; cases z⟩
 keep:=fun i h h' st k=>st.at fun o e=>k it (by simp) o e
 item:=by
  intro X hP hw hK hc i pins s σ H E I hf st hg
  subst hP hw hK
  obtain ⟨xs,x,hq,hx⟩:=hg
  obtain ⟨its,rv,p,hz⟩:=I.tuple hq
  obtain ⟨u,hu,ru⟩:=rv.get hx
  obtain ⟨f0,f1,f2,f3,f4,f5⟩:=hf it (by simp)
  refine wpAny_pyNext_tuple_item st (show s.heap.IsTuple a its.toArray from p) (x:=u) (by simpa using hu) fun h' st' sb=>?_
  have I1:Inv X pins σ H { s with heap:=h' }:=I.turned (t':=s.toks) (fun b o hb e=>(sb.2 b hb).trans e) f0 f1 f3 f4 f5
  obtain ⟨o,e,c,d⟩:=id st'
  exact ⟨u,rfl,N5 (s:={ s with heap:=h' }) e c d (by decide) ⟨x,H,I1,ru,⟨rfl,fun ys hy=>by rw [I.IW hy hq]; exact hx⟩,st',fun b hb=>(hf b hb).1⟩⟩
 done:=by
  intro X hP hw hK hc i pins s σ H E I hf st hg
  subst hP hw hK
  obtain ⟨xs,hq,hx⟩:=hg
  obtain ⟨its,rv,p,hz⟩:=I.tuple hq
  obtain ⟨f0,f1,f2,f3,f4,f5⟩:=hf it (by simp)
  have hl:=rv.length
  exact wpAny_pyNext_tuple_end (I.ok.hd hc) st (show s.heap.IsTuple a its.toArray from p) (by simp; omega) fun h' eb=>⟨rfl,I.turned (t':=s.toks) (fun b o hb e=>eb b o hb e) f0 f1 f3 f4 f5⟩
 self:=fun _ _ _ _ _ st h=>wpAny_pyIter_tupleiter st h
theorem N_ {P:Program} {w:World} {K:PySem.W.Frag} {tg:Expr} (it:Addr) (lo:Int) (n:Nat):Turn P w K tg (Xr lo n) [it] it (fun i h=>IsRangeIter h it (lo+(i:Nat) * 1) ((n:Int) - (i:Nat)) 1) where
 mem:=by simp
 obj:=fun i h st b hb=>by
  have e:b=it:=by simpa using hb
  subst e
  exact ⟨_,st,fun v z=>by
   have z':Data.fields _=Data.cell v:=z
   cases z'⟩
 keep:=fun i h h' st k=>k it (by simp) _ st
 item:=by
  intro X hP hw hK hc i pins s σ H E I hf st hg
  subst hP hw hK
  obtain ⟨f0,f1,f2,f3,f4,f5⟩:=hf it (by simp)
  have W:=Walks.range (prog:=X.prog) (w:=X.w) (I.ok.hd hc) it lo 1 n
  refine W.item i s _ _ hg st fun v h' tk hv st' kk=>?_
  obtain ⟨t,rfl⟩:=hv
  have I1:Inv X pins σ H { s with heap:=h',toks:=tk }:=I.turned (fun b o hb e=>kk b o (by simpa using hb) e) f0 f1 f3 f4 f5
  refine ⟨_,rfl,N5 (s:={ s with heap:=h',toks:=tk }) (n:="range_iterator") st' rfl rfl (by decide) ⟨.int (lo+i),H,I1,⟨t,?_⟩,⟨rfl,rfl⟩,st',fun b hb=>(hf b hb).1⟩⟩
  rw [Int.mul_one]
 done:=by
  intro X hP hw hK hc i pins s σ H E I hf st hg
  subst hP hw hK
  obtain ⟨f0,f1,f2,f3,f4,f5⟩:=hf it (by simp)
  exact wpAny_pyNext_range_end (I.ok.hd hc) st (by have:n<=i:=hg; omega) fun h' eb=>⟨rfl,I.turned (t':=s.toks) (fun b o hb e=>eb b o hb e) f0 f1 f3 f4 f5⟩
 self:=fun _ _ _ _ _ st h=>wpAny_pyIter_rangeiter st h
end L2
namespace L2
open PySem PySem.Spec PyProof.Rows
section
variable {X:Cx} {tg:Expr}
noncomputable def dU (K:PySem.W.Frag) (tl:TE):TI:=fun σ H R=>tl σ H fun x H1=>∃ a,x=.ref a/\(∃ xs,CZ K H1 a xs)/\R (Qw K a) H1
noncomputable def jR (K:PySem.W.Frag) (tl:TE):TI:=fun σ H R=>tl σ H fun x H1=>∃ a,x=.ref a/\(∃ xs,Eg K H1 a xs)/\R (mV K a) H1
theorem Bc {l:Expr} {tl:TE} (hl:PE X l tl):PI X tg l (dU X.K tl):=by
 intro pins s σ H R I h
 refine Bq (hl pins s σ H _ I h) fun v s1 hq0=>?_
 obtain ⟨x,H1,I1,r1,q1⟩:=hq0
 obtain ⟨a,e,⟨xs,hq⟩,q⟩:=q1
 subst e
 cases r1
 obtain ⟨its,rv,p,hz⟩:=I1.list hq
 refine wpAny_pyIter_list p.isList ?_
 refine ⟨s1.heap.objs.size,[s1.heap.objs.size],_,_,H1,rfl,I1.kept (t':=s1.toks) fun b o e=>Heap.get?_push_of_some _ e,Rc a _,⟨_,Heap.get?_push_size _ rfl,rfl,rfl⟩,fun b hb=>?_,q⟩
 have e:b=s1.heap.objs.size:=by simpa using hb
 subst e
 exact I1.JL (ah _) (I1.hok.fresh (ah _))
theorem Zt {l:Expr} {tl:TE} (hl:PE X l tl):PI X tg l (jR X.K tl):=by
 intro pins s σ H R I h
 refine Bq (hl pins s σ H _ I h) fun v s1 hq0=>?_
 obtain ⟨x,H1,I1,r1,q1⟩:=hq0
 obtain ⟨a,e,⟨xs,hq⟩,q⟩:=q1
 subst e
 cases r1
 obtain ⟨its,rv,p,hz⟩:=I1.tuple hq
 refine wpAny_pyIter_tuple (show s1.heap.IsTuple a its.toArray from p) ?_
 refine ⟨s1.heap.objs.size,[s1.heap.objs.size],_,_,H1,rfl,I1.kept (t':=s1.toks) fun b o e=>Heap.get?_push_of_some _ e,Oa a _,⟨_,Heap.get?_push_size _ rfl,rfl,rfl⟩,fun b hb=>?_,q⟩
 have e:b=s1.heap.objs.size:=by simpa using hb
 subst e
 exact I1.JL (ah _) (I1.hok.fresh (ah _))
theorem Tw {pins:List (Addr × Obj)} {σ:St} {H:Hp} {s:Shared} {R:It->Hp->Prop} {E:Value->Shared->Prop} {lo hi:Int} {t u v:Tok} {tk:Nat} (I:Inv X pins σ H s) (h1 : -(2 ^ 62)<=lo) (h2:lo<2 ^ 62) (h3 : -(2 ^ 62)<=hi) (h4:hi<2 ^ 62)
  (q:R (Xr lo (hi - lo).toNat) H):wpAny (model X.prog X.w) X.A (pyIter (.ref s.heap.objs.size)) (PIE X pins σ tg R) E { s with heap:=s.heap.push { cls:=.type "range",data:=.fields #[.int lo t,.int hi u,.int 1 v] },toks:=tk }:=by
 refine wpAny_pyIter_range (IsRange.new ..) (small_one h1 h2 h3 h4) ?_
 have I1:Inv X pins σ H { s with heap:=s.heap.push { cls:=.type "range",data:=.fields #[.int lo t,.int hi u,.int 1 v] },toks:=tk }:=I.kept fun b o e=>Heap.get?_push_of_some _ e
 refine ⟨(s.heap.push { cls:=.type "range",data:=.fields #[.int lo t,.int hi u,.int 1 v] }).objs.size,[(s.heap.push { cls:=.type "range",data:=.fields #[.int lo t,.int hi u,.int 1 v] }).objs.size],_,_,H,rfl,
  I1.kept (t':=tk) fun b o e=>Heap.get?_push_of_some _ e,N_ _ lo (hi - lo).toNat,?_,fun b hb=>?_,q⟩
 ·have e1:lo+((0:Nat):Int) * 1=lo:=by simp
  have e2:(((hi - lo).toNat:Nat):Int) - ((0:Nat):Int)=Builtin.Range.rangeSize lo hi 1:=by rw [rangeSize_one]; split <;> omega
  show IsRangeIter _ _ (lo+((0:Nat):Int) * 1) ((((hi - lo).toNat:Nat):Int) - ((0:Nat):Int)) 1
  rw [e1,e2]
  exact Heap.get?_push_size _ rfl
 ·have e:b=(s.heap.push { cls:=.type "range",data:=.fields #[.int lo t,.int hi u,.int 1 v] }).objs.size:=by simpa using hb
  subst e
  exact I1.JL (ah _) (I1.hok.fresh (ah _))
noncomputable def bD (ta:TA):TI:=fun σ H R=>ta σ H fun vs H1=>∃ j:Int,vs=[.int j] /\ -(2 ^ 62)<=j/\j<2 ^ 62/\R (Xr 0 j.toNat) H1
theorem Ep {a:Expr} {ta:TA} {p pos:Pos} (hg:Gl X "range") (hm:X.mg "range" = none) (ha:PA X [a] ta) (hs:starEach [a] X.env=[(false,eval a X.env)]:=by rfl):PI X tg (.Call (.Name "range" p) [a] [] pos) (bD ta):=by
 intro pins s σ H R I h
 refine Call_ (Ft I hg hm boot_range (PyProof.Rows.callWith_type1 (Bq (ha pos pins s σ H _ I h) fun us s1 ⟨vs,H1,I1,r1,q1⟩=>?_) hs rfl))
 obtain ⟨j,e,q1,q2,q⟩:=q1
 subst e
 cases r1 with
 | cons r rr =>
  cases rr
  obtain ⟨t,rfl⟩:=r
  exact call_range_1 (Tw I1 (by omega) (by omega) q1 q2 (by simpa using q))
noncomputable def jB (wi:TI) (g:TG) (tb:TS):TS:=fun D σ H=>wi σ H fun J H1=>∃ W:Nat->Nat->St->Hp->Prop,(∃ m,W 0 m σ H1)/\∀ i m σ H,W i m σ H ->
 (J.stop i H/\D.nx σ H) \/ (J.go i H/\∃ N:St->Hp->Prop,(∀ σ' H',N σ' H'->∃ m',m'<m/\W (i+1) m' σ' H')/\∀ x H',J.yld i H x H'->g x σ H' fun σ2 H2=>tb { D with nx:=N,ct:=N,bk:=D.nx } σ2 H2)
noncomputable def G6 (fp:List Addr) (h:Heap):List (Addr × Obj):=fp.filterMap fun b=>(h.get? b).map fun o=>(b,o)
theorem Cy {fp:List Addr} {h:Heap} {b:Addr} {o:Obj} (hb:b∈fp) (e:h.get? b=some o):(b,o)∈G6 fp h:=List.mem_filterMap.mpr ⟨b,hb,by rw [e]; rfl⟩
theorem RX {fp:List Addr} {h:Heap} {p:Addr × Obj} (hp:p∈G6 fp h):p.1∈fp/\h.get? p.1=some p.2:=by
 obtain ⟨b,hb,e⟩:=List.mem_filterMap.mp hp
 cases q:h.get? b with
 | none=>rw [q] at e; cases e
 | some o =>
  rw [q] at e
  have e':(b,o)=p:=Option.some.inj e
  subst e'
  exact ⟨hb,q⟩
theorem Inv.pinned {pins:List (Addr × Obj)} {σ:St} {H:Hp} {s:Shared} {fp:List Addr} (I:Inv X pins σ H s) (hf:∀ b∈fp,Ek X pins H b) (ho:∀ b∈fp,∃ o,s.heap.get? b=some o/\∀ v,o.data ≠ .cell v):Inv X (pins++G6 fp s.heap) σ H s :=
 I.Pn fun p hp=>(bp.mp hp).elim (fun z=>I.pin p (aT _ z)) fun z=>by
  obtain ⟨hb,e⟩:=RX z
  obtain ⟨f0,f1,f2,_⟩:=hf p.1 hb
  obtain ⟨o,e',d⟩:=ho p.1 hb
  rw [e] at e'; cases e'
  exact ⟨e,f0,f1,f2,d⟩
theorem Inv.FT {pins pl:List (Addr × Obj)} {σ:St} {H:Hp} {s:Shared} (I:Inv X (pins++pl) σ H s):Inv X pins σ H s:=I.Pn fun p hp=>I.pin p (aT _ (dt _ hp))
theorem DR {iter:Expr} {body:List Stmt} {wi:TI} {g:TG} {tb:TS} {pos:Pos} (hp:PassesOwn (model X.prog X.w) X.A X.env X.xe) (hc:X.calm=true) (hi:PI X tg iter wi) (hg:PG X tg g) (hb:QL X body tb)
  (hs:∀ x,foldedSetIterable iter X.env x=pure x:=by intro _; rfl):PS X (.For tg iter body [] pos) (jB wi g tb):=by
 intro pins s σ H D I h
 refine wpAny_For (Bq (hi pins s σ H _ I h) fun v s1 h1=>Bq h1 fun itv s2 h2=>?_) hs
 obtain ⟨it,fp,tn,J,H2,e,I2,T,st2,f2,W,⟨m0,w0⟩,turn⟩:=h2
 subst e
 have stat:∀ {H':Hp},(∀ b∈fp,H' b=none)->∀ b∈fp,Ek X pins H' b:=fun hn b hb=>⟨hn b hb,(f2 b hb).2⟩
 refine codeAny_forLoop_any (fun n s'=>∃ i σ' H',Inv X pins σ' H' s'/\tn i s'.heap/\(∀ b∈fp,H' b=none)/\W i n σ' H') ?_ m0 ⟨0,σ,H2,I2,st2,fun b hb=>(f2 b hb).1,w0⟩
 rintro n s3 ⟨i,σ3,H3,I3,st3,fr3,w3⟩
 rcases turn i n σ3 H3 w3 with ⟨stop,qn⟩ | ⟨go,N,hN,step⟩
 ·refine wpAny_passesOwn hp (Bq (T.done X rfl rfl rfl hc i pins s3 σ3 H3 X.xe I3 (stat fr3) st3 stop) fun r s4 ⟨hr,I4⟩=>?_)
  subst hr
  exact wpAny_execs_nil ⟨σ3,H3,I4,qn⟩
 ·refine wpAny_passesOwn hp (Bq (T.item X rfl rfl rfl hc i pins s3 σ3 H3 X.xe I3 (stat fr3) st3 go) fun r s4 ⟨u,hr,h4⟩=>?_)
  subst hr
  refine wpAny_passesOwn hp (Bq h4 fun _ s5 hq0=>?_)
  obtain ⟨x,H5,I5,r5,y5,st5,fr5⟩:=hq0
  have I5':=I5.pinned (stat fr5) (T.obj _ _ st5)
  refine wpAny_passesOwn hp (Bq (hg _ s5 σ3 H5 x u _ I5' r5 (step x H5 y5)) fun _ s6 hq0=>?_)
  obtain ⟨σ6,H6,I6,q6⟩:=hq0
  refine wpAny_passesOwn hp (Bq (hb _ s6 σ6 H6 _ I6 q6) fun f s7 q7=>?_)
  have again:∀ {σ7:St} {H7:Hp},Inv X (pins++G6 fp s5.heap) σ7 H7 s7->N σ7 H7->∃ m,m<n/\∃ i σ' H',Inv X pins σ' H' s7/\tn i s7.heap/\(∀ b∈fp,H' b=none)/\W i m σ' H':=fun {σ7 H7} I7 n7=>by
   obtain ⟨m',hm,w7⟩:=hN σ7 H7 n7
   refine ⟨m',hm,i+1,σ7,H7,I7.FT,T.keep _ _ _ st5 fun b hb o e=>(I7.pin (b,o) (aT _ (aT _ (Cy hb e)))).1,fun b hb=>?_,w7⟩
   obtain ⟨o,e,d⟩:=T.obj _ _ st5 b hb
   exact (I7.pin (b,o) (aT _ (aT _ (Cy hb e)))).2.1
  cases f with
  | next=>obtain ⟨σ7,H7,I7,n7⟩:=q7; exact again I7 n7
  | cont=>obtain ⟨σ7,H7,I7,n7⟩:=q7; exact again I7 n7
  | brk=>obtain ⟨σ7,H7,I7,q7⟩:=q7; exact ⟨σ7,H7,I7.FT,q7⟩
  | ret v=>obtain ⟨x7,σ7,H7,I7,r7,q7⟩:=q7; exact ⟨x7,σ7,H7,I7.FT,r7,q7⟩
end
theorem Er {K:PySem.W.Frag} {a:Addr} {xs:List V} {g:TG} {tb:TS} {D:Ends} {σ:St} {H:Hp} (Pv:Nat->St->Hp->Prop) (h0:Pv 0 σ H) (hl:∀ i σ H,i<=xs.length->Pv i σ H->CZ K H a xs)
  (hs:∀ i x σ H,xs[i]? = some x->Pv i σ H->g x σ H fun σ2 H2=>tb { D with nx:=Pv (i+1),ct:=Pv (i+1),bk:=D.nx } σ2 H2) (hd:∀ σ H,Pv xs.length σ H->D.nx σ H) :
  ∃ W:Nat->Nat->St->Hp->Prop,(∃ m,W 0 m σ H)/\∀ i m σ H,W i m σ H ->
   ((Qw K a).stop i H/\D.nx σ H) \/ ((Qw K a).go i H/\∃ N:St->Hp->Prop,(∀ σ' H',N σ' H'->∃ m',m'<m/\W (i+1) m' σ' H')/\∀ x H',(Qw K a).yld i H x H'->g x σ H' fun σ2 H2=>tb { D with nx:=N,ct:=N,bk:=D.nx } σ2 H2):=by
 refine ⟨fun i m σ H=>m=xs.length - i/\i<=xs.length/\Pv i σ H,⟨xs.length,by simp,Nat.zero_le _,h0⟩,?_⟩
 rintro i m σ H ⟨rfl,hi,p⟩
 have q:=hl i σ H hi p
 by_cases hlt:i<xs.length
 ·refine .inr ⟨⟨xs,xs[i],q,by simp [hlt]⟩,Pv (i+1),fun σ' H' p'=>⟨xs.length - (i+1),by omega,rfl,hlt,p'⟩,fun x H' y=>?_⟩
  obtain ⟨e,y⟩:=y
  subst e
  exact hs i x σ _ (y xs q) p
 ·have e:i=xs.length:=by omega
  subst e
  exact .inl ⟨⟨xs,q,ah _⟩,hd σ H p⟩
theorem Gn {lo:Int} {n:Nat} {g:TG} {tb:TS} {D:Ends} {σ:St} {H:Hp} (Pv:Nat->St->Hp->Prop) (h0:Pv 0 σ H)
  (hs:∀ i σ H,i<n->Pv i σ H->g (.int (lo+i)) σ H fun σ2 H2=>tb { D with nx:=Pv (i+1),ct:=Pv (i+1),bk:=D.nx } σ2 H2) (hd:∀ σ H,Pv n σ H->D.nx σ H) :
  ∃ W:Nat->Nat->St->Hp->Prop,(∃ m,W 0 m σ H)/\∀ i m σ H,W i m σ H ->
   ((Xr lo n).stop i H/\D.nx σ H) \/ ((Xr lo n).go i H/\∃ N:St->Hp->Prop,(∀ σ' H',N σ' H'->∃ m',m'<m/\W (i+1) m' σ' H')/\∀ x H',(Xr lo n).yld i H x H'->g x σ H' fun σ2 H2=>tb { D with nx:=N,ct:=N,bk:=D.nx } σ2 H2):=by
 refine ⟨fun i m σ H=>m=n - i/\i<=n/\Pv i σ H,⟨n,by simp,Nat.zero_le _,h0⟩,?_⟩
 rintro i m σ H ⟨rfl,hi,p⟩
 by_cases hlt:i<n
 ·refine .inr ⟨hlt,Pv (i+1),fun σ' H' p'=>⟨n - (i+1),by omega,rfl,hlt,p'⟩,fun x H' y=>?_⟩
  obtain ⟨e,y⟩:=y
  subst e y
  exact hs i σ _ hlt p
 ·have e:i=n:=by omega
  subst e
  exact .inl ⟨ah _,hd σ H p⟩
theorem Ug {c:TT} {tb:TS} {D:Ends} {σ:St} {H:Hp} (Pv:St->Hp->Prop) (μ:St->Hp->Nat) (h0:Pv σ H)
  (hs:∀ σ H,Pv σ H->c σ H fun b H1=>if b=true then tb { D with nx:=fun σ' H'=>Pv σ' H'/\μ σ' H'<μ σ H,ct:=fun σ' H'=>Pv σ' H'/\μ σ' H'<μ σ H,bk:=D.nx } σ H1 else D.nx σ H1)
  (mono:∀ σ H Q Q',(∀ b H1,Q b H1->Q' b H1)->c σ H Q->c σ H Q'):La c tb D σ H:=by
 refine ⟨fun m σ H=>m=μ σ H/\Pv σ H,⟨_,rfl,h0⟩,?_⟩
 rintro m σ H ⟨rfl,p⟩
 refine mono σ H _ _ (fun b H1 q=>?_) (hs σ H p)
 cases b with
 | true=>exact ⟨_,fun σ' H' ⟨p',l⟩=>⟨_,l,rfl,p'⟩,q⟩
 | false=>exact q
end L2
namespace L2
open PySem PySem.Spec PyProof.Rows
noncomputable abbrev R2:=V->V->Hp->VK->Prop
noncomputable def GF (X:Cx) (f:Value->Value->Sem Value) (r:R2):Prop :=
 ∀ (pins:List (Addr × Obj)) (s:Shared) (σ:St) (H:Hp) (x y:V) (v u:Value) (Q:VK),Inv X pins σ H s->RelV x v->RelV y u->r x y H Q ->
  wpAny (model X.prog X.w) X.A (f v u) (EP X pins σ Q) X.xe s
noncomputable def jy (X:Cx) (f:Value->Sem Value) (r:V->Hp->VK->Prop):Prop :=
 ∀ (pins:List (Addr × Obj)) (s:Shared) (σ:St) (H:Hp) (x:V) (v:Value) (Q:VK),Inv X pins σ H s->RelV x v->r x H Q ->
  wpAny (model X.prog X.w) X.A (f v) (EP X pins σ Q) X.xe s
noncomputable def Du (X:Cx) (f:Value) (r:List V->Hp->VK->Prop):Prop :=
 ∀ (pins:List (Addr × Obj)) (s:Shared) (σ:St) (H:Hp) (xs:List V) (us:List Value) (Q:VK),Inv X pins σ H s->Vals xs us->r xs H Q ->
  wpAny (model X.prog X.w) X.A (call f us) (EP X pins σ Q) X.xe s
noncomputable def iw (X:Cx) (r:V->Hp->(Bool->Hp->Prop)->Prop):Prop :=
 ∀ (pins:List (Addr × Obj)) (s:Shared) (σ:St) (H:Hp) (x:V) (v:Value) (Q:Bool->Hp->Prop),Inv X pins σ H s->RelV x v->r x H Q ->
  wpAny (model X.prog X.w) X.A (truthy v) (TP X pins σ Q) X.xe s
noncomputable def dg (r:R2) (ta tb:TE):TE:=fun σ H Q=>ta σ H fun x H1=>tb σ H1 fun y H2=>r x y H2 Q
noncomputable def m5 (r:V->Hp->VK->Prop) (ta:TE):TE:=fun σ H Q=>ta σ H fun x H1=>r x H1 Q
noncomputable def rI (C:Int->Int->Prop) (g:Int->Int->V):R2:=fun x y H Q=>∃ i j,x=.int i/\y=.int j/\C i j/\Q (g i j) H
noncomputable def YJ (g:Int->Int->V):R2:=fun x y H Q=>∃ i j,x=.int i/\y=.int j/\Q (g i j) H
noncomputable def rU (g:Int->V):V->Hp->VK->Prop:=fun x H Q=>∃ i,x=.int i/\Q (g i) H
section
variable {X:Cx} {a b c:Expr} {ta tb tc:TE} {pos:Pos}
theorem Zf (ha:PE X a ta) (hb:PE X b tb) {pins:List (Addr × Obj)} {s:Shared} {σ:St} {H:Hp} {R:V->V->Hp->Prop} (I:Inv X pins σ H s)
  (h:ta σ H fun x H1=>tb σ H1 fun y H2=>R x y H2) {Q:Value->Shared->Prop} {f:Value->Value->Sem Value}
  (hf:∀ v u s2 x y H2,Inv X pins σ H2 s2->RelV x v->RelV y u->R x y H2->wpAny (model X.prog X.w) X.A (f v u) Q X.xe s2) :
  wpAny (model X.prog X.w) X.A (eval a X.env) (fun v s₁=>wpAny (model X.prog X.w) X.A (eval b X.env) (fun u s₂=>wpAny (model X.prog X.w) X.A (f v u) Q X.xe s₂) X.xe s₁) X.xe s:=by
 refine Bq (ha pins s σ H _ I h) fun v s1 hq0=>?_
 obtain ⟨x,H1,I1,r1,q1⟩:=hq0
 refine Bq (hb pins s1 σ H1 _ I1 q1) fun u s2 hq0=>?_
 obtain ⟨y,H2,I2,r2,q2⟩:=hq0
 exact hf v u s2 x y H2 I2 r1 r2 q2
theorem BV {op:Operator} {r:R2} (ho:GF X (binaryOp op) r) (ha:PE X a ta) (hb:PE X b tb):PE X (.BinOp a op b pos) (dg r ta tb):=by
 intro pins s σ H Q I h
 exact wpAny_BinOp (Zf ha hb I h fun v u s2 x y H2 I2 rx ry q=>ho pins s2 σ H2 x y v u Q I2 rx ry q)
theorem Kf {op:UnaryOp} {r:V->Hp->VK->Prop} (ho:jy X (unaryOp op) r) (ha:PE X a ta):PE X (.UnaryOp op a pos) (m5 r ta):=by
 intro pins s σ H Q I h
 exact UnaryOp_ (Bq (ha pins s σ H _ I h) fun v s1 ⟨x,H1,I1,r1,q1⟩=>ho pins s1 σ H1 x v Q I1 r1 q1)
theorem eY {f:Value->Value->Sem Value} {C:Int->Int->Prop} {g:Int->Int->Int}
  (rule:∀ (i j:Int) (t u:Tok) (s:Shared) (Q:Value->Shared->Prop) (E:Value->Shared->Prop),C i j->Q (.int (g i j) s.toks) { s with toks:=s.toks+1 }->wpAny (model X.prog X.w) X.A (f (.int i t) (.int j u)) Q E s) :
  GF X f (rI C fun i j=>.int (g i j)):=by
 intro pins s σ H x y v u Q I rx ry h
 obtain ⟨i,j,rfl,rfl,hc,q⟩:=h
 obtain ⟨t,rfl⟩:=rx
 obtain ⟨t',rfl⟩:=ry
 exact rule i j t t' s _ _ hc ⟨.int (g i j),H,I.tok _,⟨_,rfl⟩,q⟩
theorem dD {f:Value->Value->Sem Value} {g:Int->Int->Int}
  (rule:∀ (i j:Int) (t u:Tok) (s:Shared) (Q:Value->Shared->Prop) (E:Value->Shared->Prop),Q (.int (g i j) s.toks) { s with toks:=s.toks+1 }->wpAny (model X.prog X.w) X.A (f (.int i t) (.int j u)) Q E s) :
  GF X f (YJ fun i j=>.int (g i j)):=by
 intro pins s σ H x y v u Q I rx ry h
 obtain ⟨i,j,rfl,rfl,q⟩:=h
 obtain ⟨t,rfl⟩:=rx
 obtain ⟨t',rfl⟩:=ry
 exact rule i j t t' s _ _ ⟨.int (g i j),H,I.tok _,⟨_,rfl⟩,q⟩
theorem Wl {f:Value->Value->Sem Value} {g:Int->Int->Bool}
  (rule:∀ (i j:Int) (t u:Tok) (s:Shared) (Q:Value->Shared->Prop) (E:Value->Shared->Prop),Q (.bool (g i j)) s->wpAny (model X.prog X.w) X.A (f (.int i t) (.int j u)) Q E s) :
  GF X f (YJ fun i j=>.bl (g i j)):=by
 intro pins s σ H x y v u Q I rx ry h
 obtain ⟨i,j,rfl,rfl,q⟩:=h
 obtain ⟨t,rfl⟩:=rx
 obtain ⟨t',rfl⟩:=ry
 exact rule i j t t' s _ _ ⟨.bl (g i j),H,I,rfl,q⟩
noncomputable def lU (i j:Int):Prop:=0<j/\j<1073741824
noncomputable def lL (i j:Int):Prop:=0<=j/\j<=1000000/\i.natAbs<2 ^ 64
noncomputable def Yh (i j:Int):Prop:=(-(2 ^ 64)<i/\i<2 ^ 64) \/ (-(2 ^ 64)<j/\j<2 ^ 64)
theorem Yh.ok {i j:Int} (h:Yh i j):IntMulOk i j:=by
 rcases h with ⟨h1,h2⟩ | ⟨h1,h2⟩
 ·exact .of_left (intBits_le_64 h1 h2)
 ·exact .of_right (intBits_le_64 h1 h2)
theorem Bv:GF X (binaryOp .Add) (YJ fun i j=>.int (i+j)):=dD fun _ _ _ _ _ _ _ q=>add_int q
theorem Fx:GF X (binaryOp .Sub) (YJ fun i j=>.int (i - j)):=dD fun _ _ _ _ _ _ _ q=>sub_int q
theorem DW:GF X (binaryOp .Mult) (rI Yh fun i j=>.int (i * j)):=eY fun _ _ _ _ _ _ _ hc q=>mul_int q hc.ok
theorem Pb:GF X (binaryOp .FloorDiv) (rI lU fun i j=>.int (i / j)):=eY fun i j _ _ _ _ _ hc q=>by
 have h1:(0:Int)<j:=hc.1
 have h2:j<1073741824:=hc.2
 exact floordiv_int (by omega) (by rw [Int.fdiv_eq_ediv_of_nonneg i (by omega)]; exact q) (.inl (PyProof.noPylong_small (by omega)))
theorem GP:GF X (binaryOp .Mod) (rI (fun _ j=>0<j) fun i j=>.int (i % j)):=eY fun i j _ _ _ _ _ hc q=>by
 have h1:(0:Int)<j:=hc
 exact mod_int' (by omega) (by rw [Int.fmod_eq_emod_of_nonneg i (by omega)]; exact q)
theorem MK:GF X (binaryOp .Pow) (rI lL fun i j=>.int (i ^ j.toNat)):=eY fun _ _ _ _ _ _ _ hc q=>pow_int_small hc.1 hc.2.1 hc.2.2 q
theorem nA {f:Value->Sem Value} {g:Int->Int}
  (rule:∀ (i:Int) (t:Tok) (s:Shared) (Q:Value->Shared->Prop) (E:Value->Shared->Prop),Q (.int (g i) s.toks) { s with toks:=s.toks+1 }->wpAny (model X.prog X.w) X.A (f (.int i t)) Q E s) :
  jy X f (rU fun i=>.int (g i)):=by
 intro pins s σ H x v Q I rx h
 obtain ⟨i,rfl,q⟩:=h
 obtain ⟨t,rfl⟩:=rx
 exact rule i t s _ _ ⟨.int (g i),H,I.tok _,⟨_,rfl⟩,q⟩
theorem Hz:jy X (unaryOp .USub) (rU fun i=>.int (-i)):=nA fun _ _ _ _ _ q=>neg_int q
end
noncomputable def bG:V->V->Bool
 | .non,.non=>true | .non,.int _=>true | .int _,.non=>true | .non,.bl _=>true | .bl _,.non=>true | .non,.str _=>true | .str _,.non=>true
 | .int _,.int _=>true | .bl _,.bl _=>true | .str _,.str _=>true | .byt _,.byt _=>true
 | .int _,.str _=>true | .str _,.int _=>true | .bl _,.str _=>true | .str _,.bl _=>true
 | _,_=>false
noncomputable def m_:R2:=fun x y H Q=>bG x y=true/\Q (.bl (decide (x=y))) H
noncomputable def mq:R2:=fun x y H Q=>bG x y=true/\Q (.bl (!decide (x=y))) H
theorem Pr {i j:Int}:decide (V.int i=V.int j)=(i == j):=by
 rw [eu]
 simp
theorem TX {i j:Bool}:decide (V.bl i=V.bl j)=(i == j):=by
 rw [eu]
 simp
theorem Gu {i j:Str}:decide (V.str i=V.str j)=(i == j):=by
 rw [eu]
 simp
theorem QZ {i j:Array UInt8}:decide (V.byt i=V.byt j)=(i.toList == j.toList):=by
 rw [eu]
 cases i
 cases j
 simp
section
variable {X:Cx} {a b c:Expr} {ta tb tc:TE} {pos:Pos}
theorem Br {pins:List (Addr × Obj)} {σ:St} {H:Hp} {s:Shared} {Q:VK} {k k':Bool} (I:Inv X pins σ H s) (q:Q (.bl k) H) (e:k=k'):EP X pins σ Q (.bool k') s:=by
 subst e
 exact ⟨.bl k,H,I,rfl,q⟩
theorem Ej:GF X (compareOp .Eq) m_:=by
 intro pins s σ H x y v u Q I rx ry h
 obtain ⟨hs,q⟩:=h
 cases x with
 | non =>
  cases rx
  cases y with
  | non=>cases ry; exact PySem.EqNone.eq_none_none (Br I q (by simp))
  | bl j=>cases ry; exact PySem.EqNone.eq_none_bool (Br I q (by simp))
  | int j=>obtain ⟨t',rfl⟩:=ry; exact PySem.EqNone.eq_none_int (Br I q (by simp))
  | str j=>obtain ⟨t',rfl⟩:=ry; exact PySem.EqNone.eq_none_str (Br I q (by simp))
  | _=>exact absurd (show false=true from hs) Bool.false_ne_true
 | bl i =>
  cases rx
  cases y with
  | non=>cases ry; exact PySem.EqNone.eq_bool_none (Br I q (by simp))
  | bl j=>cases ry; exact eq_bool (Br I q TX)
  | str j=>obtain ⟨t',rfl⟩:=ry; exact PySem.EqMixed.eq_bool_str (Br I q (by simp))
  | _=>exact absurd (show false=true from hs) Bool.false_ne_true
 | int i =>
  obtain ⟨t,rfl⟩:=rx
  cases y with
  | non=>cases ry; exact PySem.EqNone.eq_int_none (Br I q (by simp))
  | int j=>obtain ⟨t',rfl⟩:=ry; exact eq_int (Br I q Pr)
  | str j=>obtain ⟨t',rfl⟩:=ry; exact PySem.EqMixed.eq_int_str (Br I q (by simp))
  | _=>exact absurd (show false=true from hs) Bool.false_ne_true
 | str i =>
  obtain ⟨t,rfl⟩:=rx
  cases y with
  | non=>cases ry; exact PySem.EqNone.eq_str_none (Br I q (by simp))
  | bl j=>cases ry; exact PySem.EqMixed.eq_str_bool (Br I q (by simp))
  | int j=>obtain ⟨t',rfl⟩:=ry; exact PySem.EqMixed.eq_str_int (Br I q (by simp))
  | str j=>obtain ⟨t',rfl⟩:=ry; exact eq_str (Br I q Gu)
  | _=>exact absurd (show false=true from hs) Bool.false_ne_true
 | byt i =>
  obtain ⟨t,rfl⟩:=rx
  cases y with
  | byt j=>obtain ⟨t',rfl⟩:=ry; exact PySem.W.eq_bytes (Br I q QZ)
  | _=>exact absurd (show false=true from hs) Bool.false_ne_true
 | _=>cases y <;> exact absurd (show false=true from hs) Bool.false_ne_true
theorem QJ:GF X (compareOp .NotEq) mq:=by
 intro pins s σ H x y v u Q I rx ry h
 obtain ⟨hs,q⟩:=h
 cases x with
 | non =>
  cases rx
  cases y with
  | non=>cases ry; exact PySem.EqNone.ne_none_none (Br I q (by simp))
  | bl j=>cases ry; exact PySem.EqNone.ne_none_bool (Br I q (by simp))
  | int j=>obtain ⟨t',rfl⟩:=ry; exact PySem.EqNone.ne_none_int (Br I q (by simp))
  | str j=>obtain ⟨t',rfl⟩:=ry; exact PySem.EqNone.ne_none_str (Br I q (by simp))
  | _=>exact absurd (show false=true from hs) Bool.false_ne_true
 | bl i =>
  cases rx
  cases y with
  | non=>cases ry; exact PySem.EqNone.ne_bool_none (Br I q (by simp))
  | bl j=>cases ry; exact ne_bool (Br I q (congrArg not TX))
  | str j=>obtain ⟨t',rfl⟩:=ry; exact PySem.EqMixed.ne_bool_str (Br I q (by simp))
  | _=>exact absurd (show false=true from hs) Bool.false_ne_true
 | int i =>
  obtain ⟨t,rfl⟩:=rx
  cases y with
  | non=>cases ry; exact PySem.EqNone.ne_int_none (Br I q (by simp))
  | int j=>obtain ⟨t',rfl⟩:=ry; exact ne_int (Br I q (congrArg not Pr))
  | str j=>obtain ⟨t',rfl⟩:=ry; exact PySem.EqMixed.ne_int_str (Br I q (by simp))
  | _=>exact absurd (show false=true from hs) Bool.false_ne_true
 | str i =>
  obtain ⟨t,rfl⟩:=rx
  cases y with
  | non=>cases ry; exact PySem.EqNone.ne_str_none (Br I q (by simp))
  | bl j=>cases ry; exact PySem.EqMixed.ne_str_bool (Br I q (by simp))
  | int j=>obtain ⟨t',rfl⟩:=ry; exact PySem.EqMixed.ne_str_int (Br I q (by simp))
  | str j=>obtain ⟨t',rfl⟩:=ry; exact ne_str (Br I q (congrArg not Gu))
  | _=>exact absurd (show false=true from hs) Bool.false_ne_true
 | byt i =>
  obtain ⟨t,rfl⟩:=rx
  cases y with
  | byt j=>obtain ⟨t',rfl⟩:=ry; exact PySem.W.ne_bytes (Br I q (congrArg not QZ))
  | _=>exact absurd (show false=true from hs) Bool.false_ne_true
 | _=>cases y <;> exact absurd (show false=true from hs) Bool.false_ne_true
theorem Ii:GF X (compareOp .Lt) (YJ fun i j=>.bl (decide (i<j))):=Wl fun _ _ _ _ _ _ _ q=>lt_int q
theorem Dc:GF X (compareOp .LtE) (YJ fun i j=>.bl (decide (i<=j))):=Wl fun _ _ _ _ _ _ _ q=>le_int q
theorem T7:GF X (compareOp .Gt) (YJ fun i j=>.bl (decide (j<i))):=Wl fun _ _ _ _ _ _ _ q=>gt_int q
theorem X8:GF X (compareOp .GtE) (YJ fun i j=>.bl (decide (j<=i))):=Wl fun _ _ _ _ _ _ _ q=>ge_int q
theorem Rf:GF X (compareOp .In) (fun x y H Q=>∃ i j,x=.str i/\y=.str j/\Q (.bl (!(Builtin.Str.occurrences j i 0 j.length 1).isEmpty)) H):=by
 intro pins s σ H x y v u Q I rx ry h
 obtain ⟨i,j,rfl,rfl,q⟩:=h
 obtain ⟨t,rfl⟩:=rx
 obtain ⟨t',rfl⟩:=ry
 exact in_str (Br I q rfl)
theorem Bf (b:Expr) {op:CmpOp} (h:op ≠ .In:=by decide) (h2:op ≠ .NotIn:=by decide):behindInMarks op b=false:=by
 have e1:(op == CmpOp.In)=false:=by cases op <;> first | rfl | exact absurd rfl h
 have e2:(op == CmpOp.NotIn)=false:=by cases op <;> first | rfl | exact absurd rfl h2
 cases b <;> simp [behindInMarks,e1,e2]
theorem Ef {op:CmpOp} {r:R2} (ho:GF X (compareOp op) r) (ha:PE X a ta) (hb:PE X b tb) (hm:behindInMarks op b=false):PE X (.Compare a [op] [b] pos) (dg r ta tb):=by
 intro pins s σ H Q I h
 exact wpAny_Compare1 (Zf ha hb I h fun v u s2 x y H2 I2 rx ry q=>ho pins s2 σ H2 x y v u Q I2 rx ry q) hm
noncomputable def TQ (t:TE):TT:=fun σ H Q=>t σ H fun x H'=>∃ k,x=.bl k/\Q k H'
theorem Be {op:CmpOp} {r:R2} (ho:GF X (compareOp op) r) (ha:PE X a ta) (hb:PE X b tb) (hm:behindInMarks op b=false):PT X (.Compare a [op] [b] pos) (TQ (dg r ta tb)):=by
 intro pins s σ H Q I h
 refine wpAny_isTrue_Compare1 (Bq (ha pins s σ H _ I h) fun v s1 ⟨x,H1,I1,r1,q1⟩=>Bq (hb pins s1 σ H1 _ I1 q1) fun u s2 ⟨y,H2,I2,r2,q2⟩ =>
  Bq (ho pins s2 σ H2 x y v u _ I2 r1 r2 q2) fun c s3 ⟨z,H3,I3,r3,k,e,q3⟩=>?_) hm
 subst e
 cases r3
 exact wpAny_truthy_bool ⟨H3,I3,q3⟩
noncomputable def Um (r r':R2) (ta tb tc:TE):TE:=fun σ H Q=>ta σ H fun x H1=>tb σ H1 fun y H2=>r x y H2 fun z H3=>∃ k,z=.bl k /\
 (if k=true then tc σ H3 fun w' H4=>r' y w' H4 Q else Q (.bl false) H3)
theorem Hh {op op':CmpOp} {r r':R2} (ho:GF X (compareOp op) r) (ho':GF X (compareOp op') r') (ha:PE X a ta) (hb:PE X b tb) (hc:PE X c tc)
  (hm:lastMarks [op,op'] [b,c]=false:=by with_unfolding_all rfl):PE X (.Compare a [op,op'] [b,c] pos) (Um r r' ta tb tc):=by
 intro pins s σ H Q I h
 refine Compare_chain (Bq (ha pins s σ H _ I h) fun v s1 ⟨x,H1,I1,r1,q1⟩=>chain_link (Bq (hb pins s1 σ H1 _ I1 q1) fun u s2 ⟨y,H2,I2,r2,q2⟩ =>
  Bq (ho pins s2 σ H2 x y v u _ I2 r1 r2 q2) fun d s3 ⟨z,H3,I3,r3,k,e,q3⟩=>?_)) hm
 subst e
 cases r3
 refine wpAny_truthy_bool ?_
 cases k with
 | false=>exact ite_ff ⟨.bl false,H3,I3,rfl,q3⟩
 | true=>exact ite_tt (chain_last (Bq (hc pins s3 σ H3 _ I3 q3) fun w' s4 ⟨z',H4,I4,r4,q4⟩=>ho' pins s4 σ H4 y z' u w' Q I4 r2 r4 q4))
theorem J6 {op op':CmpOp} {r r':R2} (ho:GF X (compareOp op) r) (ho':GF X (compareOp op') r') (ha:PE X a ta) (hb:PE X b tb) (hc:PE X c tc)
  (hm:lastMarks [op,op'] [b,c]=false:=by with_unfolding_all rfl):PT X (.Compare a [op,op'] [b,c] pos) (TQ (Um r r' ta tb tc)):=by
 intro pins s σ H Q I h
 refine isTrue_chain (Bq (ha pins s σ H _ I h) fun v s1 ⟨x,H1,I1,r1,q1⟩=>test_link (Bq (hb pins s1 σ H1 _ I1 q1) fun u s2 ⟨y,H2,I2,r2,q2⟩ =>
  Bq (ho pins s2 σ H2 x y v u _ I2 r1 r2 q2) fun d s3 ⟨z,H3,I3,r3,k,e,q3⟩=>?_)) hm
 subst e
 cases r3
 refine wpAny_truthy_bool ?_
 cases k with
 | false =>
  obtain ⟨k',e',q'⟩:=q3
  cases e'
  exact ite_ff ⟨H3,I3,q'⟩
 | true =>
  refine ite_tt (test_last (Bq (hc pins s3 σ H3 _ I3 q3) fun w' s4 ⟨z',H4,I4,r4,q4⟩=>Bq (ho' pins s4 σ H4 y z' u w' _ I4 r2 r4 q4) fun d' s5 hq0=>?_))
  obtain ⟨z2,H5,I5,r5,k2,e2,q5⟩:=hq0
  subst e2
  cases r5
  exact wpAny_truthy_bool ⟨H5,I5,q5⟩
noncomputable def eG (K:PySem.W.Frag) (x:V) (H:Hp) (k:Bool):Prop :=
 match x with
 | .non=>k=false
 | .bl b=>k=b
 | .int i=>k=(i != 0)
 | .str y=>y.length<=sizeLine/\k=((y.length:Int) != 0)
 | .byt y=>y.size<=sizeLine/\k=((y.size:Int) != 0)
 | .ref p=>(∃ xs,CZ K H p xs/\k = !xs.isEmpty) \/ (∃ xs,Eg K H p xs/\k = !xs.isEmpty) \/ ∃ kvs,H p=some (.dK kvs)/\k = !kvs.isEmpty
 | _=>False
theorem OJ {κ:Type} {kvs:List (κ × V)} {vs:List (κ × Value)} (r:KV kvs vs):(!vs.isEmpty) = !kvs.isEmpty:=by
 cases r <;> rfl
theorem J5 {xs:List V} {its:List Value} (r:Vals xs its):(!its.toArray.isEmpty) = !xs.isEmpty:=by
 cases r <;> simp
theorem G5:(sizeLine:Nat)<2 ^ 63:=by rw [sizeLine_eq]; decide
theorem Yk:iw X (fun x H Q=>∃ k,eG X.K x H k/\Q k H):=by
 intro pins s σ H x v Q I rx h
 obtain ⟨k,e,q⟩:=h
 have hl:=G5
 have hs:sizeLine=16777216:=sizeLine_eq
 cases x with
 | non =>
  cases rx
  have e':k=false:=e
  subst e'
  exact truthy_none ⟨H,I,q⟩
 | bl b =>
  cases rx
  have e':k=b:=e
  subst e'
  exact wpAny_truthy_bool ⟨H,I,q⟩
 | int i =>
  obtain ⟨t,rfl⟩:=rx
  have e':k=(i != 0):=e
  subst e'
  exact PySem.P.truthy_int ⟨H,I,q⟩
 | str y =>
  obtain ⟨t,rfl⟩:=rx
  obtain ⟨hy,e'⟩:y.length<=sizeLine/\k=((y.length:Int) != 0):=e
  subst e'
  exact PySem.P.truthy_str (by omega) ⟨H,I.tok _,q⟩
 | byt y =>
  obtain ⟨t,rfl⟩:=rx
  obtain ⟨hy,e'⟩:y.size<=sizeLine/\k=((y.size:Int) != 0):=e
  subst e'
  exact PySem.W.truthy_bytes (by omega) ⟨H,I.tok _,q⟩
 | ref p =>
  cases rx
  have e':(∃ xs,CZ X.K H p xs/\k = !xs.isEmpty) \/ (∃ xs,Eg X.K H p xs/\k = !xs.isEmpty) \/ ∃ kvs,H p=some (.dK kvs)/\k = !kvs.isEmpty:=e
  rcases e' with ⟨xs,hx,e'⟩ | ⟨xs,hx,e'⟩ | ⟨kvs,hx,e'⟩
  ·subst e'
   obtain ⟨its,r,pl,hz⟩:=I.list hx
   have hlen:=r.length
   exact wpAny_truthy_list pl.isList (by simp only [List.size_toArray]; omega) ⟨H,I.tok _,by rw [J5 r]; exact q⟩
  ·subst e'
   obtain ⟨its,r,pl,hz⟩:=I.tuple hx
   have hlen:=r.length
   exact truthy_tuple pl (by simp only [List.size_toArray]; omega) ⟨H,I.tok _,by rw [J5 r]; exact q⟩
  ·subst e'
   obtain ⟨hz,hS,vs,r,m⟩:kvs.length<=sizeLine/\(p == sysModules)=false/\∃ vs,KV kvs vs/\s.heap.DictOf (CK X.prog X.w) p vs:=I.hok p _ hx
   have hlen:kvs.length=vs.length:=Paired.length r
   exact wpAny_truthy_dict hS m (by omega) ⟨H,I.tok _,by rw [OJ r]; exact q⟩
 | _=>exact (show False from e).elim
theorem JK (ha:PE X a ta) (he:∀ whole,isTrue a X.env whole=(do let v ← whole; standAt a.pos; holding [v] (truthy v))) :
  PT X a (fun σ H Q=>ta σ H fun x H'=>∃ k,eG X.K x H' k/\Q k H'):=by
 intro pins s σ H Q I h
 exact isTrue_plain (Bq (ha pins s σ H _ I h) fun v s1 ⟨x,H1,I1,r1,q1⟩=>Yk pins s1 σ H1 x v Q I1 r1 q1) (he _)
theorem vals1 {x:V} {us:List Value} (r:Vals [x] us):∃ u,us=[u]/\RelV x u:=by
 cases r with
 | cons r1 r2=>cases r2; exact ⟨_,rfl,r1⟩
theorem vals2 {x y:V} {us:List Value} (r:Vals [x,y] us):∃ u w',us=[u,w']/\RelV x u/\RelV y w':=by
 cases r with
 | cons r1 r2 =>
  cases r2 with
  | cons r3 r4=>cases r4; exact ⟨_,_,rfl,r1,r3⟩
theorem VB:Du X (.builtin "abs") (fun xs H Q=>∃ i,xs=[.int i]/\Q (.int (if i<0 then -i else i)) H):=by
 intro pins s σ H xs us Q I r h
 obtain ⟨i,rfl,q⟩:=h
 obtain ⟨u,rfl,t,rfl⟩:=vals1 r
 exact call_abs_int fun u tk=>⟨.int (if i<0 then -i else i),H,I.tok _,⟨_,rfl⟩,q⟩
theorem FW (hc:X.calm=true):Du X (.builtin "max") (fun xs H Q=>∃ i j,xs=[.int i,.int j]/\Q (.int (if j > i then j else i)) H):=by
 intro pins s σ H xs us Q I r h
 obtain ⟨i,j,rfl,q⟩:=h
 obtain ⟨u,w',rfl,⟨t,rfl⟩,⟨t',rfl⟩⟩:=vals2 r
 refine max_two_ints (I.ok.hd hc) fun h' tk k=>⟨_,H,I.kept k,?_,q⟩
 by_cases hj:j > i
 ·rw [if_pos hj,if_pos hj]; exact ⟨_,rfl⟩
 ·rw [if_neg hj,if_neg hj]; exact ⟨_,rfl⟩
theorem Gr (hc:X.calm=true):Du X (.builtin "min") (fun xs H Q=>∃ i j,xs=[.int i,.int j]/\Q (.int (if j<i then j else i)) H):=by
 intro pins s σ H xs us Q I r h
 obtain ⟨i,j,rfl,q⟩:=h
 obtain ⟨u,w',rfl,⟨t,rfl⟩,⟨t',rfl⟩⟩:=vals2 r
 refine min_two_ints (I.ok.hd hc) fun h' tk k=>⟨_,H,I.kept k,?_,q⟩
 by_cases hj:j<i
 ·rw [if_pos hj,if_pos hj]; exact ⟨_,rfl⟩
 ·rw [if_neg hj,if_neg hj]; exact ⟨_,rfl⟩
theorem RK:Du X (.type "int") (fun xs H Q=>(∃ i,xs=[.int i]/\Q (.int i) H) \/ ∃ k,xs=[.bl k]/\Q (.int (if k then 1 else 0)) H):=by
 intro pins s σ H xs us Q I r h
 rcases h with ⟨i,rfl,q⟩ | ⟨k,rfl,q⟩
 ·obtain ⟨u,rfl,t,rfl⟩:=vals1 r
  exact call_int_int ⟨.int i,H,I,⟨_,rfl⟩,q⟩
 ·obtain ⟨u,rfl,r1⟩:=vals1 r
  cases r1
  exact call_int_bool ⟨.int (if k then 1 else 0),H,I.tok _,⟨_,rfl⟩,q⟩
end
end L2
namespace L2
open PySem PySem.Spec PyProof.Rows
structure Oi (h:Heap) (x dx C:Addr) (mA:Str->Option Value):Prop where
 obj:h.get? x=some (PySem.W.instObj C dx)
 ns:h.Ns1 dx mA
 ne:dx ≠ x
theorem RP {h:Heap} {dx:Addr} {mA:Str->Option Value} (n:h.Ns1 dx mA):∃ od,h.get? dx=some od/\∀ name,PySem.W.lookIn name od=some (mA name):=by
 obtain ⟨o,es,ep,ho,hd,hk,_,hm⟩:=n
 refine ⟨o,ho,fun name=>?_⟩
 have e:=hm name
 unfold nsFind findBy at e
 rw [← Array.find?_toList] at e
 unfold PySem.W.lookIn
 rw [hd]
 dsimp only
 split
 ·rename_i y q
  rw [q] at e
  exact congrArg some e
 ·rename_i q
  rw [q] at e
  have a:es.toList.any (·.refKey)=false:=by
   rw [List.any_eq_false]
   intro y hy
   obtain ⟨z,t,hkey⟩:=hk y (Array.mem_toList_iff.mp hy)
   simp [DictEntry.refKey,hkey]
  have a':¬ es.toList.any (·.refKey)=true:=by rw [a]; exact dl
  rw [if_neg a']
  exact congrArg some e
theorem Oi.look {h:Heap} {x dx C:Addr} {mA:Str->Option Value} (I:Oi h x dx C mA):∃ od,PySem.W.InstAt h x (PySem.W.instObj C dx) C (some od)/\∀ name,PySem.W.lookIn name od=some (mA name) :=
 let ⟨od,ho,hl⟩:=RP I.ns
 ⟨od,⟨I.obj,rfl,rfl,ho⟩,hl⟩
section
variable {prog:Program} {w:World} {A:Around} {E:Value->Shared->Prop} {s:Shared} {K:PySem.W.Frag} {x dx C f:Addr} {mA:Str->Option Value} {name:Str} {v:Value}
theorem V7 {expr:Bool} {Q:Value->Shared->Prop} (X:K.In s.heap) (I:Oi s.heap x dx C mA) (hg:PySem.W.plainGet K C name=true) (hh:PySem.W.hasDictIn K C=true)
  (ha:PySem.W.findIn K (.ref C) name=some none) (hv:mA name=some v) (hv':PySem.W.handedIn v=true) (h:Q v { s with toks:=s.toks+1 }) :
  wpAny (model prog w) A (getAttr (.ref x) name expr) Q E s:=by
 obtain ⟨od,J,hl⟩:=I.look
 exact PySem.W.get_value X J (PySem.W.plainGet_of hg).1 (PySem.W.findObj_own hh ha rfl (by rw [hl,hv])) hv' h
theorem TV {pl:Sem Bool} {Q:Value × List Value->Shared->Prop} (X:K.In s.heap) (I:Oi s.heap x dx C mA) (hg:PySem.W.plainGet K C name=true)
  (hf:PySem.W.findIn K (.ref C) name=some (some (.ref f))) (ht:PySem.W.isFn K (.ref f)=true) (hv:mA name=none) (h:Q (.ref f,[.ref x]) s) :
  wpAny (model prog w) A (getMethod (.ref x) name pl) Q E s:=by
 obtain ⟨od,J,hl⟩:=I.look
 exact PySem.W.method_fn X J (PySem.W.plainGet_of hg).1 (PySem.W.plainGet_of hg).2 hf (beq_iff_eq.mp ht) (by show (PySem.W.lookIn name od).map (·.isSome)=some false; rw [hl,hv]; rfl) h
theorem Wv {ns:List Str} {Q:Unit->Shared->Prop} (X:K.In s.heap) (I:Oi s.heap x dx C mA)
  (hs:PySem.W.findIn K (.ref C) "__setattr__" = some (some (.builtin "object.__setattr__"))) (hp:PySem.W.plainOver K C=true) (ht:PySem.W.takerIn K C name=some none) (hh:PySem.W.hasDictIn K C=true)
  (hw:PySem.Within mA ns) (hsz:ns.length<=sizeLine)
  (h:∀ h',Oi h' x dx C (fun y=>if y=name then some v else mA y)->Heap.SameBut dx s.heap h'->Q () { s with heap:=h',toks:=s.toks+2 }) :
  wpAny (model prog w) A (setAttr (.ref x) name v) Q E s:=by
 obtain ⟨od,J,hl⟩:=I.look
 refine PySem.W.set_plain X J hs (PySem.W.osa_open (s:={ s with toks:=s.toks+1 }) (r:=none) X J hp ht fun b=>?_)
 obtain ⟨cd,hc,hd'⟩:=PySem.W.any_some hh
 have hx:s.heap.get? x=some ⟨.ref C,some dx,.plain,#[]⟩:=I.obj
 refine wpAny_bind (wpAny_pure (wpAny_bind (wpAny_bind (wpAny_loadPart hx (wpAny_bind (PySem.W.Looks.here (s:={ s with toks:=s.toks+1 }) (PySem.W.looks_clsIn X hc) ?_))))))
 rw [hd']
 refine wpAny_pure (a:=some dx) (wpAny_bind (wpAny_pure (wpAny_bind ?_)))
 refine wpAny_nsSet1 (s:={ s with toks:=s.toks+1 }) I.ns fun h' hn2 hs2=>?_
 obtain ⟨oD,esD,epD,hoD,hdD,hcD⟩:=hn2.count (PySem.Within.cons name v hw)
 refine wpAny_bind (wpAny_lookBehind hoD (by rw [hdD]; exact pastItsLine_dict (br hcD (by rw [dc]; omega))) ?_)
 exact wpAny_pure (h _ ⟨(hs2.2 _ (Ne.symm I.ne)).trans I.obj,hn2,I.ne⟩ hs2)
theorem Uq {R:Result->Shared->Prop} {vs:List Value} {kw:List (Str × Value)} (X:K.In s.heap) (hm:PySem.W.makesIn K C=true)
  (hi:PySem.W.findIn K (.ref C) "__init__" = some (some (.ref f))) (hf:PySem.W.typeIn K (.ref f)=some (.type "function"))
  (h:codeAny (model prog w) (A.under (.builtin "type.__call__" ⟨.ref C::vs,kw⟩)) (.call (.ref f) ⟨.ref (s.heap.objs.size+1)::vs,kw⟩) (PySem.W.InitBack (s.heap.objs.size+1) R)
   { s with heap:=(s.heap.push PySem.W.emptyDict).push (PySem.W.instObj C s.heap.objs.size) }) :
  codeAny (model prog w) A (.call (.ref C) ⟨vs,kw⟩) R s:=by
 obtain ⟨hh,g,d,t,os⟩:=s
 exact PySem.W.make_core (PySem.W.makes_of X hm) (PySem.W.looks_findIn X hi) (fun self=>PySem.W.bind_fn X self hf) (.inl rfl) h
end
noncomputable def Bb (f:Str) (v:V):List (Str × V)->List (Str × V)
 | []=>[(f,v)]
 | (g,x)::r=>if g=f then (g,v)::r else (g,x)::Bb f v r
theorem Ay (f g:Str) (v:V):∀ fs:List (Str × V),(Bb f v fs).lookup g=if g=f then some v else fs.lookup g
 | []=>by
  show List.lookup g [(f,v)]=_
  by_cases h:g=f
  ·have hb:(g == f)=true:=beq_iff_eq.mpr h
   simp only [List.lookup,hb,if_pos h]
  ·have hb:(g == f)=false:=beq_eq_false_iff_ne.mpr h
   simp only [List.lookup,hb,if_neg h]
 | (k,x)::r=>by
  have ih:=Ay f g v r
  rw [show Bb f v ((k,x)::r)=(if k=f then (k,v)::r else (k,x)::Bb f v r) from rfl]
  by_cases hk:k=f
  ·rw [if_pos hk]
   by_cases h:g=k
   ·have hb:(g == k)=true:=beq_iff_eq.mpr h
    simp only [List.lookup,hb,if_pos (h.trans hk)]
   ·have hb:(g == k)=false:=beq_eq_false_iff_ne.mpr h
    simp only [List.lookup,hb,if_neg (fun e:g=f=>h (e.trans hk.symm))]
  ·rw [if_neg hk]
   by_cases h:g=k
   ·have hb:(g == k)=true:=beq_iff_eq.mpr h
    simp only [List.lookup,hb,if_neg (fun e:g=f=>hk (h.symm.trans e))]
   ·have hb:(g == k)=false:=beq_eq_false_iff_ne.mpr h
    simp only [List.lookup,hb]
    exact ih
theorem Hy (f:Str) (v:V):∀ fs:List (Str × V),f∈(Bb f v fs).map (·.1)/\∀ g,g∈fs.map (·.1)->g∈(Bb f v fs).map (·.1)
 | []=>⟨by simp [Bb],fun g h=>by simp at h⟩
 | (k,x)::r=>by
  obtain ⟨i1,i2⟩:=Hy f v r
  rw [show Bb f v ((k,x)::r)=(if k=f then (k,v)::r else (k,x)::Bb f v r) from rfl]
  by_cases hk:k=f
  ·rw [if_pos hk]
   subst hk
   exact ⟨by simp,fun g h=>by simpa using h⟩
  ·rw [if_neg hk]
   refine ⟨?_,fun g h=>?_⟩
   ·rw [ee]
    exact av _ i1
   ·rw [ee] at h ⊢
    rcases bi.mp h with e | e
    ·exact bi.mpr (.inl e)
    ·exact av _ (i2 g e)
theorem Ia (f:Str) (v:V):∀ fs:List (Str × V),(Bb f v fs).length<=fs.length+1
 | []=>by simp [Bb]
 | (k,x)::r=>by
  have ih:=Ia f v r
  rw [show Bb f v ((k,x)::r)=(if k=f then (k,v)::r else (k,x)::Bb f v r) from rfl]
  by_cases hk:k=f
  ·rw [if_pos hk,dc,dc]; omega
  ·rw [if_neg hk,dc,dc]; omega
theorem Fg.some_of {v:V} {o:Option Value} (r:Fg (some v) o):∃ u,o=some u/\RelV v u:=by
 cases o with
 | none=>exact (show False from r).elim
 | some u=>exact ⟨u,rfl,r⟩
theorem Fg.none_of {o:Option Value} (r:Fg none o):o=none:=by
 cases o with
 | none=>rfl
 | some u=>exact (show False from r).elim
theorem R_ {v:V} {u:Value} (r:RelV v u):PySem.W.handedIn u=true:=by
 cases v with
 | non=>cases (show u=Value.none from r); rfl
 | bl b=>cases (show u=Value.bool b from r); rfl
 | int i=>obtain ⟨t,e⟩:=(show ∃ t,u=Value.int i t from r); cases e; rfl
 | str x=>obtain ⟨t,e⟩:=(show ∃ t,u=Value.str x t from r); cases e; rfl
 | byt b=>obtain ⟨t,e⟩:=(show ∃ t,u=Value.bytes b t from r); cases e; rfl
 | flt b=>obtain ⟨t,e⟩:=(show ∃ t,u=Value.float b t from r); cases e; rfl
 | ref a=>cases (show u=Value.ref a from r); rfl
 | ty n=>cases (show u=Value.type n from r); rfl
section
variable {P:Program} {w:World} {H H':Hp} {h h':Heap} {a C dx:Addr} {fs fs':List (Str × V)}
theorem JG (hok:HF P w H h) (e:H a=some (.ins C dx fs)):∃ mA,Oi h a dx C mA/\(∀ f,Fg (fs.lookup f) (mA f))/\PySem.Within mA (fs.map (·.1))/\fs.length<=1000/\H dx=some (.own a):=by
 obtain ⟨d,z,ne,ob,mA,n,r,q⟩:=(show By P w H h a (.ins C dx fs) from hok a _ e)
 exact ⟨mA,⟨ob,n,ne⟩,r,q,z,d⟩
end
structure U7 (K:PySem.W.Frag) (C:Addr):Prop where
 pg:PySem.W.plainGet K C Str.empty=true
 hd:PySem.W.hasDictIn K C=true
 po:PySem.W.plainOver K C=true
 sa:PySem.W.findIn K (.ref C) "__setattr__" = some (some (.builtin "object.__setattr__"))
theorem U7.get {K:PySem.W.Frag} {C:Addr} (c:U7 K C) (f:Str):PySem.W.plainGet K C f=true:=c.pg
noncomputable def Cw (K:PySem.W.Frag) (C:Addr) (f:Str):Prop:=PySem.W.findIn K (.ref C) f=some none
theorem Cw.taker {K:PySem.W.Frag} {C:Addr} {f:Str} (n:Cw K C f):PySem.W.takerIn K C f=some none:=by
 unfold PySem.W.takerIn
 rw [show PySem.W.findIn K (.ref C) f=some none from n]
 rfl
structure Meth (K:PySem.W.Frag) (C:Addr) (m:Str) (f:Addr):Prop where
 at_:PySem.W.findIn K (.ref C) m=some (some (.ref f))
 fn:PySem.W.isFn K (.ref f)=true
 kp:PySem.W.keepIn K (.ref f)=true
section
variable {X:Cx} {pins:List (Addr × Obj)} {σ:St} {H:Hp} {s:Shared} {a C dx:Addr} {fs:List (Str × V)} {f:Str} {v:V} {A:Around} {E:Value->Shared->Prop}
theorem Ov {b:Bool} {Q:Value->Shared->Prop} (I:Inv X pins σ H s) (e:H a=some (.ins C dx fs)) (c:U7 X.K C) (n:Cw X.K C f) (l:fs.lookup f=some v)
  (h:∀ u s',Inv X pins σ H s'->RelV v u->Q u s'):wpAny (model X.prog X.w) A (getAttr (.ref a) f b) Q E s:=by
 obtain ⟨mA,O,r,_,_,_⟩:=JG I.hok e
 obtain ⟨u,hu,ru⟩:=Fg.some_of (v:=v) (o:=mA f) (by rw [← l]; exact r f)
 exact V7 I.Ho O (c.get f) c.hd n hu (R_ ru) (h u _ (I.tok _) ru)
theorem Jk {m:Str} {g:Addr} {pl:Sem Bool} {Q:Value × List Value->Shared->Prop} (I:Inv X pins σ H s) (e:H a=some (.ins C dx fs)) (c:U7 X.K C) (k:Meth X.K C m g) (l:fs.lookup m=none)
  (h:Q (.ref g,[.ref a]) s):wpAny (model X.prog X.w) A (getMethod (.ref a) m pl) Q E s:=by
 obtain ⟨mA,O,r,_,_,_⟩:=JG I.hok e
 have hn:mA m=none:=Fg.none_of (by rw [← l]; exact r m)
 exact TV I.Ho O (c.get m) k.at_ k.fn hn h
theorem PX {y:V} {u:Value} {Q:Unit->Shared->Prop} (I:Inv X pins σ H s) (e:H a=some (.ins C dx fs)) (c:U7 X.K C) (n:Cw X.K C f) (hl:fs.length<1000) (ry:RelV y u)
  (h:∀ s',Inv X pins σ (upd H a (.ins C dx (Bb f y fs))) s'->Q () s'):wpAny (model X.prog X.w) A (setAttr (.ref a) f u) Q E s:=by
 obtain ⟨mA,O,r,wi,_,ho⟩:=JG I.hok e
 have hz:(fs.map (·.1)).length<=sizeLine:=by rw [ag,sizeLine_eq]; omega
 refine Wv I.Ho O c.sa c.po n.taker c.hd wi hz fun h' O' sb=>h _ ?_
 have hd:∃ o,h'.get? dx=some o:=let ⟨o,_,_,e',_⟩:=O'.ns; ⟨o,e'⟩
 refine I.write (x:=a) (e:=dx) (by rw [e]; exact True.intro) (.inr ho) (fun b q hb z=>(sb.2 b hb).trans z) hd ?_
 refine ⟨by rw [Am O.ne]; exact ho,?_,O.ne,O'.obj,_,O'.ns,fun g=>?_,fun g hg=>?_⟩
 ·have:=Ia f y fs; omega
 ·show Fg ((Bb f y fs).lookup g) (if g=f then some u else mA g)
  rw [Ay]
  by_cases q:g=f
  ·rw [if_pos q,if_pos q]; exact ry
  ·rw [if_neg q,if_neg q]; exact r g
 ·by_cases q:g=f
  ·rw [q]; exact (Hy f y fs).1
  ·refine (Hy f y fs).2 g (wi g fun z=>hg ?_)
   show (if g=f then some u else mA g)=none
   rw [if_neg q]; exact z
theorem Inv.made (I:Inv X pins σ H s):Inv X pins σ (upd (upd H s.heap.objs.size (.own (s.heap.objs.size+1))) (s.heap.objs.size+1) (.ins C s.heap.objs.size []))
  { s with heap:=(s.heap.push PySem.W.emptyDict).push (PySem.W.instObj C s.heap.objs.size) }:=by
 have e1:(s.heap.push PySem.W.emptyDict).get? s.heap.objs.size=some PySem.W.emptyDict:=Heap.get?_push_size s.heap rfl
 have e2:((s.heap.push PySem.W.emptyDict).push (PySem.W.instObj C s.heap.objs.size)).get? (s.heap.objs.size+1)=some (PySem.W.instObj C s.heap.objs.size):=by
  have:=Heap.get?_push_size (s.heap.push PySem.W.emptyDict) (o:=PySem.W.instObj C s.heap.objs.size) rfl
  rwa [Heap.size_push] at this
 have e3:(s.heap.push PySem.W.emptyDict).Ns s.heap.objs.size (fun _=>none):=⟨PySem.W.emptyDict,#[],_,e1,rfl,(fun e he=>absurd he (by simp)),fun _=>rfl⟩
 have I1:=I.laid (a:=s.heap.objs.size) (o:=.own (s.heap.objs.size+1)) (h':=s.heap.push PySem.W.emptyDict) (t':=s.toks) (fun b u q=>Heap.get?_push_of_some _ q) (ah _) ⟨_,e1⟩
 refine I1.laid (a:=s.heap.objs.size+1) (o:=.ins C s.heap.objs.size []) (t':=s.toks) (fun b u q=>Heap.get?_push_of_some _ q) (Nat.le_of_eq (Heap.size_push _ _)) ?_
 have ne:s.heap.objs.size ≠ s.heap.objs.size+1:=aS (gz _)
 refine ⟨by rw [Am ne,Ag],cm _,ne,e2,fun _=>none,(Heap.Ns1.of_empty e3).at fun o q=>Heap.get?_push_of_some _ q,fun _=>True.intro,fun y hy=>absurd rfl hy⟩
theorem Xb {prog:Program} {w:World} {env:Env} {e:Expr} {f:Str} {pos:Pos} {s:Shared} {Q:Value->Shared->Prop} (hb:attributeBase e f env (eval e env)=eval e env)
  (h:wpAny (model prog w) A (eval e env) (fun o s₁=>wpAny (model prog w) A (getAttr o f true) Q E s₁) E s):wpAny (model prog w) A (eval (.Attribute e f pos) env) Q E s :=
 Attribute_any_ h (by rw [arm_eval_Attribute,hb])
end
noncomputable def jP (K:PySem.W.Frag) (ta:TE) (f:Str):TE:=fun σ H Q=>ta σ H fun x H1=>∃ a C dx fs v,x=.ref a/\H1 a=some (.ins C dx fs)/\U7 K C/\Cw K C f/\fs.lookup f=some v/\Q v H1
noncomputable def jm (K:PySem.W.Frag) (ta tv:TE) (f:Str):TS:=fun D σ H=>tv σ H fun y H1=>ta σ H1 fun x H2=>∃ a C dx fs,x=.ref a/\H2 a=some (.ins C dx fs)/\U7 K C/\Cw K C f/\fs.length<1000 /\
 D.nx σ (upd H2 a (.ins C dx (Bb f y fs)))
section
variable {X:Cx} {o e value:Expr} {f:Str} {pos pos' tpos:Pos} {ta tv:TE}
theorem Fw (he:PE X e ta) (hb:attributeBase e f X.env (eval e X.env)=eval e X.env):PE X (.Attribute e f pos) (jP X.K ta f):=by
 intro pins s σ H Q I h
 refine Xb hb (Bq (he pins s σ H _ I h) fun u s1 hq0=>?_)
 obtain ⟨x,H1,I1,rx,a,C,dx,fs,v,ex,ea,c,n,l,q⟩:=hq0
 subst ex
 obtain rfl:u=Value.ref a:=rx
 exact Ov I1 ea c n l fun u' s2 I2 ru=>⟨v,H1,I2,ru,q⟩
theorem Eu (ha:PE X o ta) (hv:PE X value tv) (hs:swapsWith value (some (.Attribute o f pos')) pos.line X.env=pure false):PS X (.Assign [.Attribute o f pos'] value pos) (jm X.K ta tv f):=by
 intro pins s σ H D I h
 refine plainObj_wpAny_Assign_Attribute (Bq (hv pins s σ H _ I h) fun u s1 ⟨y,H1,I1,ry,q⟩=>Bq (ha pins s1 σ H1 _ I1 q) fun ov s2 ⟨x,H2,I2,rx,a,C,dx,fs,ex,ea,c,n,l,q2⟩=>?_) hs
 subst ex
 obtain rfl:ov=Value.ref a:=rx
 exact PX I2 ea c n l ry fun s3 I3=>⟨σ,_,I3,q2⟩
end
section
variable {X:Cx} {pins:List (Addr × Obj)} {σ:St} {H:Hp} {s:Shared} {A:Around} {E:Value->Shared->Prop} {Q:Value->Shared->Prop} {c:Value} {b:Bool}
inductive Hr (K:PySem.W.Frag) (H:Hp):V->Value->Prop where
 | non:Hr K H .non (.type "NoneType")
 | bl (x:Bool):Hr K H (.bl x) (.type "bool")
 | int (i:Int):Hr K H (.int i) (.type "int")
 | str (x:Str):Hr K H (.str x) (.type "str")
 | flt (x:UInt64):Hr K H (.flt x) (.type "float")
 | lst {a:Addr} {xs:List V} (e:H a=some (.lst xs)):Hr K H (.ref a) (.type "list")
 | frz {a:Addr} {o:Obj} {xs:List V} (e:H a=some (.frz o (.lst xs))):Hr K H (.ref a) (.type "list")
 | tup {a:Addr} {xs:List V} (e:H a=some (.tup xs)):Hr K H (.ref a) (.type "tuple")
 | dK {a:Addr} {kvs:List (Key × V)} (e:H a=some (.dK kvs)):Hr K H (.ref a) (.type "dict")
 | dT {a:Addr} {kvs:List (List Key × V)} (e:H a=some (.dT kvs)):Hr K H (.ref a) (.type "dict")
 | ins {a C dx:Addr} {fs:List (Str × V)} (e:H a=some (.ins C dx fs)) (cl:U7 K C) (ha:PySem.W.findIn K (.ref C) "__class__" = some (some (.builtin "object.__class__")))
   (hn:PySem.W.specialIn K (.builtin "object.__class__") "__get__" = some (some (.builtin "getset_descriptor.__get__"))) (htk:PySem.W.takesIn K (.builtin "object.__class__")=some true)
   (hm:PySem.W.mroIn K C (.type "object")=some true):Hr K H (.ref a) (.ref C)
theorem Rv {x:V} {u t:Value} (I:Inv X pins σ H s) (rx:RelV x u) (ty:Hr X.K H x t) (e:PySem.W.kitOne X.K t c=some b) (h:∀ tk,Q (.bool b) { s with toks:=tk }) :
  wpAny (model X.prog X.w) A (call (.builtin "isinstance") [u,c]) Q E s:=by
 cases ty with
 | non=>cases (show u=Value.none from rx); exact PySem.W.kia_one PySem.W.kitx_none I.Ho True.intro e (fun z=>nomatch z) h
 | bl y=>cases (show u=Value.bool y from rx); exact PySem.W.kia_one PySem.W.kitx_bool I.Ho True.intro e (fun z=>nomatch z) h
 | int i=>obtain ⟨t,q⟩:=(show ∃ t,u=Value.int i t from rx); cases q; exact PySem.W.kia_one PySem.W.kitx_int I.Ho True.intro e (fun z=>nomatch z) h
 | str y=>obtain ⟨t,q⟩:=(show ∃ t,u=Value.str y t from rx); cases q; exact PySem.W.kia_one PySem.W.kitx_str I.Ho True.intro e (fun z=>nomatch z) h
 | flt y=>obtain ⟨t,q⟩:=(show ∃ t,u=Value.float y t from rx); cases q; exact PySem.W.kia_one PySem.W.kitx_float I.Ho True.intro e (fun z=>nomatch z) h
 | @lst a xs ea =>
  cases (show u=Value.ref a from rx)
  obtain ⟨_,_,n,_,h1⟩:=(show By X.prog X.w H s.heap a (.lst xs) from I.hok a _ ea)
  exact PySem.W.kia_one PySem.W.kitx_list I.Ho ⟨_,h1,rfl⟩ e (fun z=>nomatch z) h
 | @frz a ob xs ea =>
  cases (show u=Value.ref a from rx)
  obtain ⟨_,_,_,n,_,h1⟩:=(show By X.prog X.w H s.heap a (.frz ob (.lst xs)) from I.hok a _ ea)
  exact PySem.W.kia_one PySem.W.kitx_list I.Ho ⟨_,h1,rfl⟩ e (fun z=>nomatch z) h
 | @tup a xs ea =>
  cases (show u=Value.ref a from rx)
  obtain ⟨_,_,_,p⟩:=(show By X.prog X.w H s.heap a (.tup xs) from I.hok a _ ea)
  obtain ⟨o,h1,h2,_⟩:=p
  exact PySem.W.kia_one PySem.W.kitx_tuple I.Ho ⟨o,h1,h2⟩ e (fun z=>nomatch z) h
 | @dK a kvs ea =>
  cases (show u=Value.ref a from rx)
  obtain ⟨_,_,vs,_,p⟩:=(show By X.prog X.w H s.heap a (.dK kvs) from I.hok a _ ea)
  obtain ⟨o,es,ep,h1,h2,_⟩:=p
  exact PySem.W.kia_one PySem.W.kitx_dict I.Ho ⟨o,h1,h2.1⟩ e (fun z=>nomatch z) h
 | @dT a kvs ea =>
  cases (show u=Value.ref a from rx)
  obtain ⟨_,_,xs,_,o,es,ep,h1,h2,_⟩:=(show By X.prog X.w H s.heap a (.dT kvs) from I.hok a _ ea)
  exact PySem.W.kia_one PySem.W.kitx_dict I.Ho ⟨o,h1,h2.1⟩ e (fun z=>nomatch z) h
 | @ins a C dx fs ea cl ha hn htk hm =>
  cases (show u=Value.ref a from rx)
  obtain ⟨mA,O,_⟩:=JG I.hok ea
  obtain ⟨od,J,_⟩:=O.look
  exact PySem.W.kia_one (PySem.W.kitx_own (cl.get _) cl.hd ha hn htk hm) I.Ho J e (fun z=>nomatch z) h
end
end L2
namespace L2
open PySem PySem.Spec PyProof.Rows
structure BW (k:Nat) (A:Around):Prop where
 hd:A.handled=none
 dp:A.depth+3 * k+5<recursionLimit
 un:A.units+16 * k+200<cLine
theorem BW.mono {j k:Nat} {A:Around} (r:BW k A) (h:j<=k):BW j A:=⟨r.hd,by have:=r.dp; omega,by have:=r.un; omega⟩
theorem ad {k j:Nat} {A:Around} (r:BW k A) (h:j<=k:=by decide):BW j A:=r.mono h
theorem BW.deeper {k:Nat} {A:Around} (r:BW (k+1) A) (env:Env):BW k (A.deeper env) :=
 ⟨r.hd,by have:=r.dp; show A.depth+1+3 * k+5<_; omega,by have:=r.un; show A.units+3+16 * k+200<_; omega⟩
theorem Ox {A:Around} {C:Addr} {us:List Value} {kw:List (Str × Value)}:(A.under (.builtin "type.__call__" ⟨.ref C::us,kw⟩)).depth=A.depth+1:=by
 first | rfl | simp [Around.under,Code.weight,Code.isCreation,Code.isGuard,Code.isCaller,Code.frames,Code.isFrame,guardIds]
theorem Ow {A:Around} {C:Addr} {us:List Value} {kw:List (Str × Value)}:(A.under (.builtin "type.__call__" ⟨.ref C::us,kw⟩)).units=A.units+1:=by
 first | rfl | simp [Around.under,Code.cUnits,Code.frames,Code.isFrame]
theorem BW.make {k:Nat} {A:Around} (r:BW (k+1) A) (C:Addr) (us:List Value) (kw:List (Str × Value)):BW k (A.under (.builtin "type.__call__" ⟨.ref C::us,kw⟩)) :=
 ⟨r.hd,by have:=r.dp; rw [Ox]; omega,by have:=r.un; rw [Ow]; omega⟩
theorem BW.depth {k:Nat} {A:Around} (r:BW k A):A.depth<recursionLimit:=by have:=r.dp; omega
theorem BW.units {k:Nat} {A:Around} (r:BW k A):A.units+64<cLine:=by have:=r.un; omega
noncomputable def cV:TA:=fun _ H Q=>Q [] H
noncomputable def Xy (ta:TE) (tr:TA):TA:=fun σ H Q=>ta σ H fun x H1=>tr σ H1 fun xs H2=>Q (x::xs) H2
section
variable {X:Cx} {e:Expr} {es:List Expr} {te:TE} {t:TA} {pos:Pos}
theorem Aa:PA X [] cV:=fun _ _ _ _ H Q I h=>Calls.spliced_nil ⟨[],H,I,.nil,h⟩
theorem Ai (ha:PE X e te) (hr:PA X es t) (hs:starEach (e::es) X.env=(false,eval e X.env)::starEach es X.env:=by rfl):PA X (e::es) (Xy te t):=by
 intro pos pins s σ H Q I h
 rw [hs]
 show wpAny _ _ (spliced ((false,eval e X.env)::backTo pos (starEach es X.env))) _ _ s
 refine Calls.spliced_cons (Bq (ha pins s σ H _ I h) fun u s1 hq0=>?_)
 obtain ⟨x,H1,I1,r1,q1⟩:=hq0
 exact Bq (hr pos pins s1 σ H1 _ I1 q1) fun us s2 ⟨xs,H2,I2,r2,q2⟩=>⟨x::xs,H2,I2,.cons r1 r2,q2⟩
noncomputable def j5 (t:TA):TE:=fun σ H Q=>t σ H fun xs H1=>xs.length<=sizeLine/\∀ p,H1 p=none->Q (.ref p) (upd H1 p (.tup xs))
noncomputable def ik (t:TA):TE:=fun σ H Q=>t σ H fun xs H1=>xs.length<=sizeLine/\∀ p,H1 p=none->Q (.ref p) (upd H1 p (.lst xs))
theorem Ce {x1} (h:PA X es t):PE X (.Tuple es x1 pos) (j5 t):=by
 intro pins s σ H Q I hq
 refine wpAny_Tuple_spliced (Bq (h pos pins s σ H _ I hq) fun us s1 ⟨xs,H1,I1,r,z,q⟩=>⟨by rw [← r.length]; exact z,?_⟩)
 have hf:H1 s1.heap.objs.size=none:=I1.hok.fresh (ah _)
 refine ⟨.ref s1.heap.objs.size,upd H1 s1.heap.objs.size (.tup xs),I1.laid (t':=s1.toks) (fun b u e=>Heap.get?_push_of_some _ e) (ah _) ?_,rfl,q _ hf⟩
 exact ⟨z,us,r,⟨_,Heap.get?_push_size _ rfl,rfl,_,rfl⟩⟩
theorem CN (h:PA X es t):PE X (.List es pos) (ik t):=by
 intro pins s σ H Q I hq
 refine wpAny_List_spliced (Bq (h pos pins s σ H _ I hq) fun us s1 ⟨xs,H1,I1,r,z,q⟩=>⟨by rw [← r.length]; exact z,?_⟩)
 have hf:H1 s1.heap.objs.size=none:=I1.hok.fresh (ah _)
 refine ⟨.ref s1.heap.objs.size,upd H1 s1.heap.objs.size (.lst xs),I1.laid (t':=s1.toks) (fun b u e=>Heap.get?_push_of_some _ e) (ah _) ?_,rfl,q _ hf⟩
 exact ⟨z,us,0,r,Heap.get?_push_size _ rfl⟩
end
noncomputable abbrev Sp:=List V->Hp->VK->XK->Prop
noncomputable abbrev QF:=List Env->Hp->Shared->XK->Value->Shared->Prop
structure Ng (P:Program) (w:World) (K:PySem.W.Frag) (mg:Str->Option Value) (base:Heap) (A:Around) (outer:List Env) (s:Shared) (H:Hp):Prop where
 frames:A.frames=some outer
 mod:Mod K mg base
 bs:∀ b o,base.get? b=some o->s.heap.get? b=some o/\H b=none
 bsz:base.objs.size<=s.heap.objs.size
 Im:s.heap.FunFrames base outer
 frf:∀ b∈frs outer,H b=none
 hok:HF P w H s.heap
 bare:AllBare s.gens
noncomputable def CE (outer:List Env) (P:Program) (w:World) (H:Hp) (s:Shared) (Q:VK) (u:Value) (s':Shared):Prop :=
 ∃ v H',s'.os=s.os/\AllBare s'.gens/\Un (frs outer) [] H H' s.heap s'.heap/\HF P w H' s'.heap/\RelV v u/\Q v H'
noncomputable def CR (CX:QF) (outer:List Env) (P:Program) (w:World) (H:Hp) (s:Shared) (Q:VK) (E:XK) (r:Result) (s':Shared):Prop :=
 match r with
 | .ok (.ret u)=>CE outer P w H s Q u s'
 | .ok _=>False
 | .error e=>CX outer H s E e s'
structure BP (P:Program) (w:World) (K:PySem.W.Frag) (mg:Str->Option Value) (base:Heap) (CX:QF) (k:Nat) (f:Addr) (fd:FuncData) (ps:List Str) (sp:Sp):Prop where
 len:∀ vs H Q E,sp vs H Q E->vs.length=ps.length
 run:∀ (A:Around) (outer:List Env) (s:Shared) (H:Hp) (args:Args) (us:List Value) (vs:List V) (Q:VK) (E:XK),BW k A->Ng P w K mg base A outer s H->BindsTo s fd args (ps.zip us)->Vals vs us->sp vs H Q E ->
  codeAny (model P w) A (.call (.ref f) args) (CR CX outer P w H s Q E) s
theorem Ng.make {P:Program} {w:World} {K:PySem.W.Frag} {mg:Str->Option Value} {base:Heap} {A:Around} {outer:List Env} {s:Shared} {H:Hp} (e:Ng P w K mg base A outer s H) (C:Addr) (us:List Value) (kw:List (Str × Value)) :
  Ng P w K mg base (A.under (.builtin "type.__call__" ⟨.ref C::us,kw⟩)) outer s H:=⟨by first | exact e.frames | (simpa [Around.under,Code.envs,Code.isFrame,pushEnvs] using e.frames),e.mod,e.bs,e.bsz,e.Im,e.frf,e.hok,e.bare⟩
section
variable {X:Cx} {pins:List (Addr × Obj)} {σ:St} {H:Hp} {s s':Shared}
theorem Inv.env0 (I:Inv X pins σ H s):Ng X.prog X.w X.K X.mg X.base X.A X.stack s H :=
 ⟨I.ok.frames,I.ok.mod,I.bs,br I.ok.bsz I.sz,I.stack,I.I_,I.hok,I.bare⟩
theorem Inv.after {Q:VK} {u:Value} (I:Inv X pins σ H s) (h:CE X.stack X.prog X.w H s Q u s'):EP X pins σ Q u s':=by
 obtain ⟨v,H',os,bare,un,hok,r,q⟩:=h
 obtain ⟨hh,g,d,t,os'⟩:=s'
 obtain rfl:os'=s.os:=os
 exact ⟨v,H',I.call (h':=hh) (g':=g) (d':=d) (t':=t) (ch:=[]) un hok bare (fun b z=>absurd z (by simp)),r,q⟩
end
noncomputable def dq (sp:Sp) (dvs:List V) (E:XK) (t:TA):TE:=fun σ H Q=>t σ H fun vs H1=>sp (vs++dvs) H1 Q E
noncomputable def Xz (C:Addr) (m:Str) (sp:Sp) (dvs:List V) (E:XK) (ta:TE) (t:TA):TE:=fun σ H Q=>ta σ H fun x H1=>∃ a dx fs,x=.ref a/\H1 a=some (.ins C dx fs)/\fs.lookup m=none /\
 t σ H1 fun vs H2=>sp (x::(vs++dvs)) H2 Q E
noncomputable def Z5 (C:Addr) (sp:Sp) (dvs:List V) (E:XK) (t:TA):TE:=fun σ H Q=>t σ H fun vs H1=>∀ x dx,H1 x=none->H1 dx=none->dx ≠ x ->
 sp (.ref x::(vs++dvs)) (upd (upd H1 dx (.own x)) x (.ins C dx [])) (fun v H2=>v=.non/\Q (.ref x) H2) E
noncomputable def Binds (K:PySem.W.Frag) (fd:FuncData) (ps:List Str) (ds:List Value):Prop :=
 ∀ (s:Shared) (us:List Value),K.In s.heap->(us++ds).length=ps.length->BindsTo s fd ⟨us,[]⟩ (ps.zip (us++ds))
theorem Binds.all {K:PySem.W.Frag} {fd:FuncData} {ps:List Str} (h:∀ us:List Value,us.length=ps.length->bindArgs fd ⟨us,[]⟩=pure (ps.zip us)):Binds K fd ps []:=fun s us _ hl=>by
 rw [ij] at hl ⊢
 exact .of_eq (h us hl)
noncomputable def G9 (CX:QF) (X:Cx) (E:XK):Prop:=∀ (pins:List (Addr × Obj)) (σ:St) (H:Hp) (s:Shared) (e:Value) (s':Shared),Inv X pins σ H s->CX X.stack H s E e s'->X.xe e s'
section
variable {X:Cx} {CX:QF} {k:Nat} {f C:Addr} {fd:FuncData} {ps:List Str} {sp:Sp} {dvs:List V} {ds:List Value} {E:XK} {x m:Str} {p pos apos:Pos} {e o:Expr} {es:List Expr} {ta:TE} {t:TA}
theorem O6 {pins:List (Addr × Obj)} {σ:St} {H:Hp} {s:Shared} {Q:VK} {us:List Value} {vs:List V} (F:BP X.prog X.w X.K X.mg X.base CX k f fd ps sp) (hr:BW k X.A) (hb:Binds X.K fd ps ds) (hd:Vals dvs ds) (hx:G9 CX X E)
  (I:Inv X pins σ H s) (r:Vals vs us) (h:sp (vs++dvs) H Q E):wpAny (model X.prog X.w) X.A (call (.ref f) us) (EP X pins σ Q) X.xe s:=by
 have r2:Vals (vs++dvs) (us++ds):=r.append hd
 have hl:(us++ds).length=ps.length:=by rw [← r2.length]; exact F.len _ _ _ _ h
 refine wpAny_call (codeAny_mono (F.run X.A X.stack s H ⟨us,[]⟩ (us++ds) (vs++dvs) Q E hr I.env0 (hb s us I.Ho hl) r2 h) fun r s' hq=>?_)
 cases r with
 | error e=>exact hx pins σ H s e s' I hq
 | ok fl =>
  cases fl with
  | ret u=>exact I.after hq
  | next=>exact False.elim hq
  | brk=>exact False.elim hq
  | cont=>exact False.elim hq
theorem An (F:BP X.prog X.w X.K X.mg X.base CX k f fd ps sp) (hr:BW k X.A) (hg:Gl X x) (hm:X.mg x=some (.ref f)) (hk:PySem.W.keepIn X.K (.ref f)=true) (hb:Binds X.K fd ps ds) (hd:Vals dvs ds) (hx:G9 CX X E)
  (ha:PA X (e::es) t) (hdb:(x == ("__debug__" : Str))=false:=by decide) (he:starEach (e::es) X.env=(false,eval e X.env)::starEach es X.env:=by rfl) (hpl:(backTo pos (starEach es X.env)).any (·.1)=false:=by rfl) :
  PE X (.Call (.Name x p) (e::es) [] pos) (dq sp dvs E t):=by
 intro pins s σ H Q I h
 refine wpAny_Call_Name_kw (K7 I hg hm ?_ hdb)
 refine PySem.W.callWith_K (h₀:=X.base) I.ok.mod.kin hk (Bq (ha pos pins s σ H _ I h) fun us s1 ⟨vs,H1,I1,r,q⟩=>⟨I1.Ho,?_⟩) he hpl
 exact O6 F hr hb hd hx I1 r q
theorem V6 {pl:Sem Bool} (he:PE X o ta) (c:U7 X.K C) (hm:Meth X.K C m f) (F:BP X.prog X.w X.K X.mg X.base CX k f fd ps sp) (hr:BW k X.A) (hb:Binds X.K fd ps ds) (hd:Vals dvs ds) (hx:G9 CX X E) (ha:PA X (e::es) t)
  (hst:starEach (e::es) X.env=(false,eval e X.env)::starEach es X.env:=by rfl) (hpl:(backTo pos (starEach es X.env)).any (·.1)=false:=by rfl)
  (ht:eval (.Call (.Attribute o m apos) (e::es) [] pos) X.env=(do
   let ov ← eval o X.env
   standAt apos.atName
   let (f,first) ← holding [ov] (getMethod ov m pl)
   callWith pos f first (backTo pos (starEach (e::es) X.env)) (backToKw pos (keywordEach [] X.env))):=by rfl) :
  PE X (.Call (.Attribute o m apos) (e::es) [] pos) (Xz C m sp dvs E ta t):=by
 intro pins s σ H Q I h
 refine PySem.W.methodCall_KW (pl:=pl) (Bq (he pins s σ H _ I h) fun u s1 ⟨x,H1,I1,rx,a,dx,fs,ex,ea,l,q⟩=>?_) ht
 subst ex
 obtain rfl:u=Value.ref a:=rx
 refine Jk I1 ea c hm l ?_
 refine PySem.W.callWith_K (first:=[.ref a]) (h₀:=X.base) I.ok.mod.kin hm.kp (Bq (ha pos pins s1 σ H1 _ I1 q) fun us s2 ⟨vs,H2,I2,r,q2⟩=>⟨I2.Ho,?_⟩) hst hpl
 exact O6 (us:=.ref a::us) (vs:=.ref a::vs) F hr hb hd hx I2 (.cons rfl r) q2
theorem Nr {pl:Sem Bool} (he:PE X o ta) (c:U7 X.K C) (hm:Meth X.K C m f) (F:BP X.prog X.w X.K X.mg X.base CX k f fd ps sp) (hr:BW k X.A) (hb:Binds X.K fd ps ds) (hd:Vals dvs ds) (hx:G9 CX X E)
  (ht:eval (.Call (.Attribute o m apos) [] [] pos) X.env=(do
   let ov ← eval o X.env
   standAt apos.atName
   let (f,first) ← holding [ov] (getMethod ov m pl)
   callWith pos f first (backTo pos (starEach [] X.env)) (backToKw pos (keywordEach [] X.env))):=by rfl) :
  PE X (.Call (.Attribute o m apos) [] [] pos) (Xz C m sp dvs E ta cV):=by
 intro pins s σ H Q I h
 refine PySem.W.methodCall_KW (pl:=pl) (Bq (he pins s σ H _ I h) fun u s1 ⟨x,H1,I1,rx,a,dx,fs,ex,ea,l,q⟩=>?_) ht
 subst ex
 obtain rfl:u=Value.ref a:=rx
 refine Jk I1 ea c hm l ?_
 exact PySem.W.callWith_K0 (first:=[.ref a]) I1.Ho hm.kp (O6 (us:=[.ref a]) (vs:=[.ref a]) F hr hb hd hx I1 (.cons rfl .nil) q)
structure Mk (K:PySem.W.Frag) (C f:Addr):Prop where
 makes:PySem.W.makesIn K C=true
 init:PySem.W.findIn K (.ref C) "__init__" = some (some (.ref f))
 fn:PySem.W.isFn K (.ref f)=true
 kp:PySem.W.keepIn K (.ref C)=true
theorem Ud {pins:List (Addr × Obj)} {σ:St} {H:Hp} {s:Shared} {Q:VK} {us:List Value} {vs:List V} (M:Mk X.K C f) (F:BP X.prog X.w X.K X.mg X.base CX k f fd ps sp) (hr:BW (k+1) X.A) (hb:Binds X.K fd ps ds) (hd:Vals dvs ds)
  (hx:G9 CX X E) (I:Inv X pins σ H s) (r:Vals vs us)
  (h:∀ x dx,H x=none->H dx=none->dx ≠ x->sp (.ref x::(vs++dvs)) (upd (upd H dx (.own x)) x (.ins C dx [])) (fun v H2=>v=.non/\Q (.ref x) H2) E) :
  wpAny (model X.prog X.w) X.A (call (.ref C) us) (EP X pins σ Q) X.xe s:=by
 have hq:=h (s.heap.objs.size+1) s.heap.objs.size (I.hok.fresh (iO _)) (I.hok.fresh (ah _)) (aS (gz _))
 have I2:=Inv.made (C:=C) I
 have r2:Vals (V.ref (s.heap.objs.size+1)::(vs++dvs)) (Value.ref (s.heap.objs.size+1)::(us++ds)):=.cons rfl (r.append hd)
 have hl:(Value.ref (s.heap.objs.size+1)::us++ds).length=ps.length:=by
  have e:=r2.length
  rw [F.len _ _ _ _ hq] at e
  exact e.symm
 refine wpAny_call (Uq (f:=f) I.Ho M.makes M.init (beq_iff_eq.mp M.fn) (codeAny_mono (F.run _ X.stack _ _ ⟨Value.ref (s.heap.objs.size+1)::us,[]⟩ (Value.ref (s.heap.objs.size+1)::(us++ds)) _ _ E (hr.make C us [])
  (I2.env0.make C us []) (hb _ (Value.ref (s.heap.objs.size+1)::us) I2.Ho hl) r2 hq) fun r s' hq'=>?_))
 cases r with
 | error e=>exact hx pins σ _ _ e s' I2 hq'
 | ok fl =>
  cases fl with
  | ret u =>
   obtain ⟨v,H',I3,rv,ev,q3⟩:=I2.after hq'
   subst ev
   exact ⟨rv,⟨V.ref (s.heap.objs.size+1),H',I3,rfl,q3⟩⟩
  | next=>exact False.elim hq'
  | brk=>exact False.elim hq'
  | cont=>exact False.elim hq'
theorem V3 (M:Mk X.K C f) (F:BP X.prog X.w X.K X.mg X.base CX k f fd ps sp) (hr:BW (k+1) X.A) (hg:Gl X x) (hm:X.mg x=some (.ref C)) (hb:Binds X.K fd ps ds) (hd:Vals dvs ds) (hx:G9 CX X E)
  (ha:PA X (e::es) t) (hdb:(x == ("__debug__" : Str))=false:=by decide) (he:starEach (e::es) X.env=(false,eval e X.env)::starEach es X.env:=by rfl) (hpl:(backTo pos (starEach es X.env)).any (·.1)=false:=by rfl) :
  PE X (.Call (.Name x p) (e::es) [] pos) (Z5 C sp dvs E t):=by
 intro pins s σ H Q I h
 refine wpAny_Call_Name_kw (K7 I hg hm ?_ hdb)
 refine PySem.W.callWith_K (h₀:=X.base) I.ok.mod.kin M.kp (Bq (ha pos pins s σ H _ I h) fun us s1 ⟨vs,H1,I1,r,q⟩=>⟨I1.Ho,?_⟩) he hpl
 exact Ud M F hr hb hd hx I1 r q
end
section
variable {X:Cx} {CX:QF} {k:Nat} {f C:Addr} {fd:FuncData} {ps ks:List Str} {sp:Sp} {E:XK} {x m:Str} {p pos apos kpos:Pos} {e o:Expr} {es:List Expr} {kws:List Keyword} {te ta:TE} {t tk:TA} {nm:Option Str}
variable {g:List Value->List Value->List Value} {gV:List V->List V->List V}
end
structure BJ (N P:List Str) (sc:Scope):Prop where
 kind:sc.kind=.function
 co:sc.isCoroutine=false
 gen:sc.isGenerator=false
 nd:N.Nodup
 pre:N.take P.length=P
 par:∀ x∈P,sc.names.lookup x=some .local \/ sc.names.lookup x=some .cell
 nofree:∀ y∈sc.names,y.2 ≠ .free
theorem CG {N P:List Str} {sc:Scope} (a:sc.kind=.function:=by rfl) (b:sc.isCoroutine=false:=by rfl) (c:sc.isGenerator=false:=by rfl) (d:N.Nodup:=by decide +kernel) (e:N.take P.length=P:=by rfl) (f:∀ x∈P,sc.names.lookup x=some .local \/ sc.names.lookup x=some .cell:=by decide +kernel) (g:∀ y∈sc.names,y.2 ≠ .free:=by decide +kernel):BJ N P sc:=⟨a,b,c,d,e,f,g⟩
theorem Km {kindOf:Str->Option NameKind} {x:Str}:∀ {binds:List (Str × Value)} {m:Str->Option Value},(∀ v,(x,v) ∉ binds)->bindL kindOf binds m x=m x
 | [],_,_=>rfl
 | (n,v)::r,m,h=>by
  unfold bindL
  rw [Km fun w hw=>h w (av _ hw)]
  split
  ·have:x ≠ n:=by rintro rfl; exact h v am
   simp [this]
  ·rfl
theorem Kh {kindOf:Str->Option NameKind} {x:Str}:∀ {binds:List (Str × Value)} {m:Str->Option Value},(∀ v,(x,v) ∉ binds)->bindC kindOf binds m x=m x
 | [],_,_=>rfl
 | (n,v)::r,m,h=>by
  unfold bindC
  rw [Kh fun w hw=>h w (av _ hw)]
  split
  ·rfl
  ·have:x ≠ n:=by rintro rfl; exact h v am
   simp [this]
theorem Ke {kindOf:Str->Option NameKind} {x:Str} {v:Value}:∀ {P:List Str} {vs:List Value} {i:Nat} {m:Str->Option Value},P.Nodup->P[i]? = some x->vs[i]? = some v->kindOf x=some .local ->
  bindL kindOf (P.zip vs) m x=some v
 | [],_,_,_,_,h,_,_=>by simp at h
 | _::_,[],_,_,_,_,h,_=>by simp at h
 | p::P,w::vs,0,m,nd,h1,h2,hk=>by
  simp at h1 h2; subst h1; subst h2
  show bindL kindOf ((p,w)::P.zip vs) m p=_
  unfold bindL
  rw [Km fun v hv=>(fR.mp nd).1 (List.of_mem_zip hv).1,if_pos hk]
  simp
 | p::P,w::vs,i+1,m,nd,h1,h2,hk=>by
  show bindL kindOf ((p,w)::P.zip vs) m x=_
  unfold bindL
  exact Ke (i:=i) (List.nodup_cons.mp nd).2 (by simpa using h1) (by simpa using h2) hk
theorem Ka {kindOf:Str->Option NameKind} {x:Str} {v:Value}:∀ {P:List Str} {vs:List Value} {i:Nat} {m:Str->Option Value},P.Nodup->P[i]? = some x->vs[i]? = some v->kindOf x ≠ some .local ->
  bindC kindOf (P.zip vs) m x=some v
 | [],_,_,_,_,h,_,_=>by simp at h
 | _::_,[],_,_,_,_,h,_=>by simp at h
 | p::P,w::vs,0,m,nd,h1,h2,hk=>by
  simp at h1 h2; subst h1; subst h2
  show bindC kindOf ((p,w)::P.zip vs) m p=_
  unfold bindC
  rw [Kh fun v hv=>(fR.mp nd).1 (List.of_mem_zip hv).1,if_neg hk]
  simp
 | p::P,w::vs,i+1,m,nd,h1,h2,hk=>by
  show bindC kindOf ((p,w)::P.zip vs) m x=_
  unfold bindC
  exact Ka (i:=i) (List.nodup_cons.mp nd).2 (by simpa using h1) (by simpa using h2) hk
noncomputable def start (N:List Str) (vs:List V):St:=vs.map some++List.replicate (N.length - vs.length) none
noncomputable def NQ (CX:QF) (P:Program) (w:World) (K:PySem.W.Frag) (mg:Str->Option Value) (base:Heap) (N:List Str) (qual:Str) (scope:Scope) (f:Addr) (cd:Value) (A:Around) (outer:List Env) (s:Shared) (H:Hp) (E:XK):Cx where
 prog:=P
 w:=w
 K:=K
 mg:=mg
 base:=base
 A:=A.deeper (envOfC qual scope s.heap.objs.size f cd)
 N:=N
 s₀:=s
 H₀:=H
 env:=envOfC qual scope s.heap.objs.size f cd
 outer:=outer
 stack:=envOfC qual scope s.heap.objs.size f cd::outer
 ex:=[]
 calm:=true
 fn:=fun _=>true
 pn:=[]
 xe:=fun e s'=>wpAny (model P w) (A.deeper (envOfC qual scope s.heap.objs.size f cd)) (leaving (envOfC qual scope s.heap.objs.size f cd) e) (fun _ s''=>CX outer H s E e s'') (fun e' s''=>CX outer H s E e' s'') s'
theorem M5 {sc:Scope} {n:Nat} {x:Str} (h:sc.names.lookup x=some .cell):∃ c,(cellsFrom n sc.names []).lookup x=some c:=by
 have q:=PySem.W.cellsFrom_some sc.names n [] (.inl h)
 exact dL.mp q
theorem RG {CX:QF} {P:Program} {w:World} {K:PySem.W.Frag} {mg:Str->Option Value} {base:Heap} {N ps:List Str} {qual:Str} {scope:Scope} {f:Addr} {cd:Value} {A:Around} {outer:List Env} {s s1:Shared} {H:Hp} {E:XK} {us:List Value} {vs:List V}
  (S:BJ N ps scope) (hd:A.handled=none) (e0:Ng P w K mg base A outer s H) (hl:vs.length=ps.length) (r:Vals vs us)
  (x:InCallC s s.heap.objs.size (bindL (envOfC qual scope s.heap.objs.size f cd).kindOf (ps.zip us) fun _=>none) (cellsFrom (s.heap.objs.size+1) scope.names []) (bindC (envOfC qual scope s.heap.objs.size f cd).kindOf (ps.zip us) fun _=>none) s1) :
  Inv (NQ CX P w K mg base N qual scope f cd A outer s H E) [] (start N vs) H s1:=by
 have hpl:ps.length<=N.length:=by have:=congrArg List.length S.pre; rw [ci] at this; omega
 obtain ⟨h1,tk,rfl,hk⟩:=x.done
 have noA:∀ b:Addr,b ∉ (NQ CX P w K mg base N qual scope f cd A outer s H E).ex:=fun b z=>absurd (show b∈([]:List Addr) from z) (by simp)
 refine ⟨⟨e0.mod,S.kind,rfl,rfl,ah _,fun y z c h1 h2=>?_,fun y hy=>?_,fun y c _ h=>?_,fun _=>hd,Around.frames_deeper e0.frames,.inr ⟨rfl,rfl⟩,fun b z=>absurd z (noA b),e0.bs,e0.bsz,fun b _ _=>noA b,fun b z=>absurd z (noA b),e0.Im,e0.frf⟩,
  rfl,e0.bare,Un.kept hk,⟨_,x.toInCall.ns,fun i y v h1 h2 h3=>?_⟩,fun y c h=>⟨_,x.cell y c h⟩,e0.hok.fresh (Nat.le_refl _),fun y c h=>?_,fun p hp=>absurd (show p∈([]:List (Addr × Obj)) from hp) (by simp),e0.hok.kept hk,?_⟩
 ·exact name_of_addr x.apart (PySem.mem_of_lookup h1) (PySem.mem_of_lookup h2)
 ·have hy:scope.names.lookup y=some .cell \/ scope.names.lookup y=some .free:=hy
  rcases hy with hy | hy
  ·exact M5 hy
  ·exact absurd rfl (S.nofree _ (PySem.mem_of_lookup hy))
 ·exact fI (x.above y c (PySem.mem_of_lookup h))
 ·have hi:i<vs.length:=by
   unfold start at h2
   by_cases hi:i<vs.length
   ·exact hi
   ·rw [List.getElem?_append_right (by simpa using hi)] at h2
    rw [im] at h2
    split at h2 <;> cases h2
  have ha:vs[i]? = some v:=by
   unfold start at h2
   rw [List.getElem?_append_left (by simpa using hi),List.getElem?_map] at h2
   cases e:vs[i]? with
   | none=>rw [e] at h2; cases h2
   | some a=>rw [e] at h2; cases h2; rfl
  obtain ⟨u,hu,rv⟩:=r.get ha
  have hp:ps[i]? = some y:=by
   rw [← S.pre,List.getElem?_take_of_lt (by omega)]; exact h1
  have ndP:ps.Nodup:=by rw [← S.pre]; exact S.nd.sublist (List.take_sublist _ _)
  refine ⟨u,rv,?_⟩
  rcases S.par y (aI hp) with k | k
  ·exact .inl ⟨k,Ke ndP hp hu k⟩
  ·obtain ⟨c,e⟩:=M5 (n:=s.heap.objs.size+1) k
   refine .inr ⟨.inl k,c,e,?_⟩
   have q:=x.cell y c e
   rw [Ka ndP hp hu (by show scope.names.lookup y ≠ _; rw [k]; decide)] at q
   exact q
 ·exact e0.hok.fresh (fI (x.above y c (PySem.mem_of_lookup h)))
 ·unfold start
  show _=N.length
  rw [ar,ag,cq]
  omega
theorem Xo {CX:QF} {P:Program} {w:World} {K:PySem.W.Frag} {mg:Str->Option Value} {base:Heap} {k:Nat} {f:Addr} {name qual:Str} {params:Arguments} {body:List Stmt} {scope:Scope} {dV kV doc pm cdv ct oc:Value} {an od:Option Addr}
  {osl:Array (Option Value)} {N ps:List Str} {sp:Sp} (lk:K.lookup f=some ⟨oc,od,.func (PySem.W.fnOf name qual params body scope dV kV doc pm an cdv ct),osl⟩) (hcd:PySem.W.codeIn K cdv qual=true) (S:BJ N ps scope)
  (len:∀ vs H Q E,sp vs H Q E->vs.length=ps.length)
  (hbody:∀ (A:Around) (outer:List Env) (s:Shared) (H:Hp) (vs:List V) (Q:VK) (E:XK),BW k (A.deeper (envOfC qual scope s.heap.objs.size f cdv))->sp vs H Q E ->
   ∃ t,QL (NQ CX P w K mg base N qual scope f cdv A outer s H E) body t/\t { nx:=fun _ H'=>Q .non H',rt:=Q } (start N vs) H) :
  BP P w K mg base CX (k+1) f (PySem.W.fnOf name qual params body scope dV kV doc pm an cdv ct) ps sp:=by
 refine ⟨len,fun A outer s H args us vs Q E hr e0 hb r hsp=>?_⟩
 have hl:=len _ _ _ _ hsp
 have KX:K.In s.heap:=e0.mod.kin.keeps fun b o e=>(e0.bs b o e).1
 have lim:s.heap.NoLimit:=e0.mod.nolimit.keeps fun b o e=>(e0.bs b o e).1
 have hkind:∀ y∈ps.zip us,scope.names.lookup y.1=some .local \/ (scope.names.lookup y.1=some .cell/\((cellsFrom (s.heap.objs.size+1) scope.names []).lookup y.1).isSome=true):=fun ⟨n,v⟩ hy=>by
  rcases S.par n (List.of_mem_zip hy).1 with q | q
  ·exact .inl q
  ·exact .inr ⟨q,PySem.W.cellsFrom_some _ _ _ (.inl q)⟩
 refine codeAny_call_function hr.depth (KX _ _ lk) rfl S.co S.gen rfl (PySem.W.codeRec_of KX hcd) (hb _ _ _ _ ?_)
 refine wpAny_newFunctionEnv_cells S.kind hkind fun env he s1 x=>?_
 subst he
 refine ⟨lim.keeps x.toInCall.keep,codeAny_func ?_⟩
 obtain ⟨t,ht,hq⟩:=hbody A outer s H vs Q E (hr.deeper _) hsp
 have I:Inv (NQ CX P w K mg base N qual scope f cdv A outer s H E) [] (start N vs) H s1:=RG S hr.hd e0 hl r x
 refine wpAny_mono (ht [] s1 (start N vs) H _ I hq) (fun fl s' hs=>?_) fun e s' hs=>hs
 have fin:∀ {σ':St} {H':Hp} {v:V} {u:Value},Inv (NQ CX P w K mg base N qual scope f cdv A outer s H E) [] σ' H' s'->RelV v u->Q v H'->CE outer P w H s Q u s' :=
  fun {σ' H' v u} J rv q=>⟨v,H',J.os,J.bare,J.base,J.hok,rv,q⟩
 cases fl with
 | ret u =>
  obtain ⟨v,σ',H',J,rv,q⟩:=hs
  exact fin J rv q
 | next =>
  obtain ⟨σ',H',J,q⟩:=hs
  exact fin (v:=V.non) (u:=Value.none) J rfl q
 | brk =>
  obtain ⟨_,_,_,q⟩:=hs
  exact False.elim q
 | cont =>
  obtain ⟨_,_,_,q⟩:=hs
  exact False.elim q
end L2
namespace L2
open PySem PySem.Spec PyProof.Rows
section
variable {X:Cx} {x:Str} {p pos:Pos} {e:Expr} {es:List Expr} {t:TA} {id T:String} {r:List V->Hp->VK->Prop}
noncomputable def mW (r:List V->Hp->VK->Prop) (t:TA):TE:=fun σ H Q=>t σ H fun vs H1=>r vs H1 Q
theorem BK (hc:Du X (.builtin id) r) (hg:Gl X x) (hm:X.mg x=none) (hv:bootBuiltins x=some (.builtin id)) (ha:PA X (e::es) t) (hn:x ≠ "__name__":=by decide) (hdb:(x == ("__debug__" : Str))=false:=by decide)
  (he:starEach (e::es) X.env=(false,eval e X.env)::starEach es X.env:=by rfl) (hpl:(backTo pos (starEach es X.env)).any (·.1)=false:=by rfl):PE X (.Call (.Name x p) (e::es) [] pos) (mW r t):=by
 intro pins s σ H Q I h
 refine wpAny_Call_Name_kw (Ft I hg hm hv ?_ hn hdb)
 exact PyProof.Rows.callWith_builtin1 (Bq (ha pos pins s σ H _ I h) fun us s1 ⟨vs,H1,I1,r1,q1⟩=>hc pins s1 σ H1 vs us Q I1 r1 q1) he hpl
theorem Ea (hc:Du X (.type T) r) (hg:Gl X x) (hm:X.mg x=none) (hv:bootBuiltins x=some (.type T)) (ha:PA X (e::es) t) (hn:x ≠ "__name__":=by decide) (hdb:(x == ("__debug__" : Str))=false:=by decide)
  (he:starEach (e::es) X.env=(false,eval e X.env)::starEach es X.env:=by rfl) (hpl:(backTo pos (starEach es X.env)).any (·.1)=false:=by rfl):PE X (.Call (.Name x p) (e::es) [] pos) (mW r t):=by
 intro pins s σ H Q I h
 refine wpAny_Call_Name_kw (Ft I hg hm hv ?_ hn hdb)
 exact PyProof.Rows.callWith_type1 (Bq (ha pos pins s σ H _ I h) fun us s1 ⟨vs,H1,I1,r1,q1⟩=>hc pins s1 σ H1 vs us Q I1 r1 q1) he hpl
end
end L2
namespace L2
open PySem PySem.Spec PyProof.Rows
section
variable {κ:Type} [DecidableEq κ]
noncomputable def DQ (kvs:List (κ × V)) (k:κ):Option V:=(kvs.find? fun kv=>decide (kv.1=k)).map (·.2)
noncomputable def putK (kvs:List (κ × V)) (k:κ) (v:V):List (κ × V) :=
 if (kvs.any fun kv=>decide (kv.1=k))=true then kvs.map (fun kv=>if kv.1=k then (kv.1,v) else kv) else kvs++[(k,v)]
noncomputable def mJ (kvs:List (κ × V)) (k:κ):List (κ × V):=kvs.filter fun kv=>decide (kv.1 ≠ k)
theorem Cz {p:κ × V} {r:List (κ × V)} {k:κ} (e:p.1=k):DQ (p::r) k=some p.2:=by simp [DQ,List.find?_cons,e]
theorem Cp {p:κ × V} {r:List (κ × V)} {k:κ} (e:¬ p.1=k):DQ (p::r) k=DQ r k:=by simp [DQ,List.find?_cons,e]
theorem Hi (k:κ):∀ kvs:List (κ × V),(kvs.any fun kv=>decide (kv.1=k))=(DQ kvs k).isSome
 | []=>rfl
 | p::r=>by
  rw [kq]
  by_cases e:p.1=k
  ·simp only [Cz e,decide_eq_true e,Bool.true_or,Option.isSome_some]
  ·rw [Cp e,decide_eq_false e,Bool.false_or]; exact Hi k r
theorem Nh (k j:κ) (y:V):∀ kvs:List (κ × V),DQ (kvs.map fun kv=>if kv.1=k then (kv.1,y) else kv) j=(DQ kvs j).map fun x=>if j=k then y else x
 | []=>rfl
 | p::r=>by
  have ih:=Nh k j y r
  rw [ee]
  by_cases h:p.1=k
  ·rw [if_pos h]
   by_cases e:p.1=j
   ·rw [Cz (p:=(p.1,y)) e,Cz e,ky,if_pos (e.symm.trans h)]
   ·rw [Cp (p:=(p.1,y)) e,Cp e,ih]
  ·rw [if_neg h]
   by_cases e:p.1=j
   ·rw [Cz (p:=p) e,Cz e,ky,if_neg (fun z=>h (e.trans z))]
   ·rw [Cp (p:=p) e,Cp e,ih]
theorem Kg (k j:κ) (y:V):∀ kvs:List (κ × V),DQ kvs k=none->DQ (kvs++[(k,y)]) j=if j=k then some y else DQ kvs j
 | [],_=>by
  by_cases e:k=j
  ·rw [if_pos e.symm]; exact Cz (p:=(k,y)) e
  ·rw [if_neg (fun z=>e z.symm)]; exact Cp (p:=(k,y)) e
 | p::r,hn=>by
  rw [kQ]
  have hk:¬ p.1=k:=fun z=>by rw [Cz z] at hn; cases hn
  rw [Cp hk] at hn
  have ih:=Kg k j y r hn
  by_cases e:p.1=j
  ·rw [Cz e,Cz e,if_neg (fun z=>hk (e.trans z))]
  ·rw [Cp e,Cp e,ih]
theorem Tp (kvs:List (κ × V)) (k j:κ) (y:V):DQ (putK kvs k y) j=if j=k then some y else DQ kvs j:=by
 unfold putK
 by_cases a:(kvs.any fun kv=>decide (kv.1=k))=true
 ·rw [if_pos a,Nh]
  rw [Hi] at a
  by_cases e:j=k
  ·obtain ⟨x,hx⟩:=dL.mp a
   rw [if_pos e,e,hx,ky,if_pos rfl]
  ·rw [if_neg e]
   cases DQ kvs j with
   | none=>rfl
   | some x=>rw [ky,if_neg e]
 ·rw [if_neg a]
  refine Kg k j y kvs ?_
  rw [Hi] at a
  cases q:DQ kvs k with
  | none=>rfl
  | some x=>rw [q] at a; exact (a rfl).elim
theorem GX (kvs:List (κ × V)) (k:κ) (v:V):(putK kvs k v).length<=kvs.length+1:=by
 unfold putK
 split
 ·rw [ag]; omega
 ·rw [ar,dc,kz]; omega
theorem Fg.Rj {o:Option V} {u:Option Value} (r:Fg o u):o.isSome=u.isSome:=by
 cases o with
 | none=>cases u with
  | none=>rfl
  | some _=>exact (show False from r).elim
 | some _=>cases u with
  | none=>exact (show False from r).elim
  | some _=>rfl
theorem Fg.getD {o:Option V} {u:Option Value} {d:V} {d':Value} (r:Fg o u) (rd:RelV d d'):RelV (o.getD d) (u.getD d'):=by
 cases o with
 | none=>cases u with
  | none=>exact rd
  | some _=>exact (show False from r).elim
 | some _=>cases u with
  | none=>exact (show False from r).elim
  | some _=>exact r
theorem KV.val {kvs:List (κ × V)} {vs:List (κ × Value)} (r:KV kvs vs) (k:κ):Fg (DQ kvs k) (valueAt vs k):=by
 unfold KV at r
 induction r with
 | nil=>exact True.intro
 | @cons p q ps qs h t ih =>
  obtain ⟨h1,h2⟩:=h
  by_cases e:p.1=k
  ·have e':q.1=k:=h1.symm.trans e
   have b:valueAt (q::qs) k=some q.2:=by simp [valueAt,List.find?_cons,e']
   rw [Cz e,b]; exact h2
  ·have e':¬ q.1=k:=fun z=>e (h1.trans z)
   have b:valueAt (q::qs) k=valueAt qs k:=by simp [valueAt,List.find?_cons,e']
   rw [Cp e,b]; exact ih
theorem KV.any {kvs:List (κ × V)} {vs:List (κ × Value)} (r:KV kvs vs) (k:κ):(kvs.any fun kv=>decide (kv.1=k))=vs.any fun kv=>decide (kv.1=k):=by
 unfold KV at r
 induction r with
 | nil=>rfl
 | cons h t ih=>rw [kq,kq,ih,h.1]
theorem KV.repl {kvs:List (κ × V)} {vs:List (κ × Value)} (r:KV kvs vs) (k:κ) {y:V} {u:Value} (ry:RelV y u) :
  KV (kvs.map fun kv=>if kv.1=k then (kv.1,y) else kv) (vs.map fun kv=>if kv.1=k then (kv.1,u) else kv):=by
 unfold KV at r ⊢
 induction r with
 | nil=>exact .nil
 | @cons p q ps qs h t ih =>
  rw [ee,ee]
  refine .cons ?_ ih
  obtain ⟨h1,h2⟩:=h
  by_cases e:p.1=k
  ·rw [if_pos e,if_pos (h1.symm.trans e)]; exact ⟨h1,ry⟩
  ·rw [if_neg e,if_neg (fun z=>e (h1.trans z))]; exact ⟨h1,h2⟩
theorem KV.put {kvs:List (κ × V)} {vs:List (κ × Value)} (r:KV kvs vs) (k:κ) {y:V} {u:Value} (ry:RelV y u):KV (putK kvs k y) (stored vs k u):=by
 unfold putK stored
 rw [r.any k]
 by_cases e:(vs.any fun kv=>decide (kv.1=k))=true
 ·rw [if_pos e,if_pos e]; exact r.repl k ry
 ·rw [if_neg e,if_neg e]; exact Paired.snoc r ⟨rfl,ry⟩
theorem KV.length {kvs:List (κ × V)} {vs:List (κ × Value)} (r:KV kvs vs):kvs.length=vs.length:=Paired.length r
end
theorem Nk {P:Program} {w:World} {k:Key} {u:Value} (r:RelV (kV k) u):(CK P w).is k u=true:=by
 cases k with
 | inl i=>obtain ⟨t,e⟩:=(show ∃ t,u=Value.int i t from r); subst e; exact Mm P w i t
 | inr x=>obtain ⟨t,e⟩:=(show ∃ t,u=Value.str x t from r); subst e; exact M6 P w x t
theorem Ky {P:Program} {w:World}:∀ {ks:List Key} {us:List Value},Vals (ks.map kV) us->ItemsAre (CK P w) ks us
 | [],_,r=>by rw [List.map_nil] at r; cases r; exact .nil
 | k::ks,_,r=>by
  rw [ee] at r
  cases r with
  | cons h t=>exact .cons (Nk h) (Ky t)
noncomputable abbrev KT (H:Hp):List (List Key × V)->List (List Key × Addr × Value)->Prop:=Paired fun p q=>p.1=q.1/\H q.2.1=some (.tup (p.1.map kV))/\RelV p.2 q.2.2
theorem KT.val {H:Hp} {kvs:List (List Key × V)} {xs:List (List Key × Addr × Value)} (r:KT H kvs xs) (k:List Key):Fg (DQ kvs k) ((atKey xs k).map (·.2)):=by
 induction r with
 | nil=>exact True.intro
 | @cons p q ps qs h t ih =>
  obtain ⟨h1,_,h2⟩:=h
  by_cases e:p.1=k
  ·have e':q.1=k:=h1.symm.trans e
   have b:atKey (q::qs) k=some q.2:=by simp [atKey,List.find?_cons,e']
   rw [Cz e,b]; exact h2
  ·have e':¬ q.1=k:=fun z=>e (h1.trans z)
   have b:atKey (q::qs) k=atKey qs k:=by simp [atKey,List.find?_cons,e']
   rw [Cp e,b]; exact ih
theorem KT.repl {H:Hp} {kvs:List (List Key × V)} {xs:List (List Key × Addr × Value)} (r:KT H kvs xs) (k:List Key) {y:V} {u:Value} (ry:RelV y u) :
  KT H (kvs.map fun kv=>if kv.1=k then (kv.1,y) else kv) (xs.map (putAt k u)):=by
 induction r with
 | nil=>exact .nil
 | @cons p q ps qs h t ih =>
  rw [ee,ee]
  refine .cons ?_ ih
  obtain ⟨h1,h2,h3⟩:=h
  unfold putAt
  by_cases e:p.1=k
  ·rw [if_pos e,if_pos (h1.symm.trans e)]; exact ⟨h1,h2,ry⟩
  ·rw [if_neg e,if_neg (fun z=>e (h1.trans z))]; exact ⟨h1,h2,h3⟩
theorem KT.put {H:Hp} {kvs:List (List Key × V)} {xs:List (List Key × Addr × Value)} (r:KT H kvs xs) (k:List Key) {b:Addr} {y:V} {u:Value} (hb:H b=some (.tup (k.map kV))) (ry:RelV y u) :
  KT H (putK kvs k y) (storedH xs k b u):=by
 have e:(kvs.any fun kv=>decide (kv.1=k))=(atKey xs k).isSome:=by
  rw [Hi,(r.val k).Rj,Option.isSome_map]
 unfold putK storedH
 rw [e]
 by_cases q:(atKey xs k).isSome=true
 ·rw [if_pos q,if_pos q]; exact r.repl k ry
 ·rw [if_neg q,if_neg q]; exact Paired.snoc r ⟨rfl,hb,ry⟩
theorem KT.keeps {H H':Hp} {kvs:List (List Key × V)} {xs:List (List Key × Addr × Value)} (r:KT H kvs xs) (ht:∀ b ys,H b=some (.tup ys)->H' b=some (.tup ys)):KT H' kvs xs :=
 Paired.FJ r fun _ _ z=>⟨z.1,ht _ _ z.2.1,z.2.2⟩
section
variable {P:Program} {w:World} {H:Hp} {h:Heap} {a:Addr}
theorem Xv {u:HO} (ok:HF P w H h) (e:Rd H a u):By P w H h a u:=e.ok ok
theorem Ml {kvs:List (Key × V)} (ok:HF P w H h) (e:Rd H a (.dK kvs)):kvs.length<=sizeLine/\(a == sysModules)=false/\∃ vs,KV kvs vs/\h.DictOf (CK P w) a vs :=
 show By P w H h a (.dK kvs) from Xv ok e
theorem Xn {kvs:List (Key × V)} (ok:HF P w H h) (e:H a=some (.dK kvs)):kvs.length<=sizeLine/\(a == sysModules)=false/\∃ vs,KV kvs vs/\h.DictOf (CK P w) a vs:=Ml ok (.inl e)
theorem MJ {ks:List Key} (ok:HF P w H h) (e:H a=some (.tup (ks.map kV))):(tupleKind (CK P w)).is h ks a:=by
 obtain ⟨_,its,r,o,h1,h2,n,h3⟩:=(show By P w H h a (.tup (ks.map kV)) from ok a _ e)
 exact ⟨o,its.toArray,n,h1,h2,h3,by simpa using Ky r⟩
theorem Nq {kvs:List (List Key × V)} (ok:HF P w H h) (e:Rd H a (.dT kvs)):kvs.length<=sizeLine/\(a == sysModules)=false /\
  ∃ xs,KT H kvs xs/\h.DictOfH (tupleKind (CK P w)) a xs:=by
 obtain ⟨z,y,xs,r,o,es,ep,h1,h2,h3,h4,h5⟩:=(show By P w H h a (.dT kvs) from Xv ok e)
 refine ⟨z,y,xs,r,o,es,ep,h1,h2,h3,h4,fun x hx=>?_,h5⟩
 have all:∀ {l:List (List Key × V)} {m:List (List Key × Addr × Value)},KT H l m->∀ x∈m,(tupleKind (CK P w)).is h x.1 x.2.1:=by
  intro l m q
  induction q with
  | nil=>intro x hx; exact nomatch hx
  | @cons p q ps qs hq t ih =>
   intro x hx
   rcases bi.mp hx with e | hx
   ·subst e
    exact MJ ok (by rw [← hq.1]; exact hq.2.1)
   ·exact ih x hx
 exact all r x hx
theorem cY {kvs:List (List Key × V)} (ok:HF P w H h) (e:H a=some (.dT kvs)):kvs.length<=sizeLine/\(a == sysModules)=false /\
  ∃ xs,KT H kvs xs/\h.DictOfH (tupleKind (CK P w)) a xs:=Nq ok (.inl e)
end
noncomputable def KR (H:Hp) (a:Addr) (y:V) (r:Option V):Prop :=
 (∃ kvs k,Rd H a (.dK kvs)/\y=kV k/\r=DQ kvs k) \/ ∃ kvs k b,Rd H a (.dT kvs)/\y=.ref b/\H b=some (.tup (k.map kV))/\r=DQ kvs k
noncomputable def TF (H:Hp) (a:Addr) (y v:V) (H':Hp):Prop :=
 (∃ kvs k,H a=some (.dK kvs)/\y=kV k/\kvs.length<sizeLine/\H'=upd H a (.dK (putK kvs k v))) \/
 ∃ kvs k b,H a=some (.dT kvs)/\y=.ref b/\H b=some (.tup (k.map kV))/\kvs.length<sizeLine/\H'=upd H a (.dT (putK kvs k v))
theorem KR.k {H:Hp} {a:Addr} {kvs:List (Key × V)} {k:Key} (e:H a=some (.dK kvs)):KR H a (kV k) (DQ kvs k):=.inl ⟨kvs,k,.inl e,rfl,rfl⟩
theorem TF.k {H:Hp} {a:Addr} {kvs:List (Key × V)} {k:Key} {v:V} (e:H a=some (.dK kvs)) (hl:kvs.length<sizeLine):TF H a (kV k) v (upd H a (.dK (putK kvs k v))):=.inl ⟨kvs,k,e,rfl,hl,rfl⟩
section
variable {X:Cx} {pins:List (Addr × Obj)} {σ:St} {H:Hp} {s:Shared} {a:Addr} {y v:V} {u r:Value} {o:Option V} {A:Around} {E:Value->Shared->Prop}
theorem Inv.big (I:Inv X pins σ H s):sysModules<s.heap.objs.size:=by
 have h:mainGlobals<s.heap.objs.size:=(I.mod.glob.keeps I.bk).lt
 exact kK (by decide) h
theorem Q7 {Q:Value->Shared->Prop} (hu:A.units+1<cLine) (I:Inv X pins σ H s) (g:KR H a y (some v)) (ry:RelV y u) (h:∀ w' s',Inv X pins σ H s'->RelV v w'->Q w' s') :
  wpAny (model X.prog X.w) A (getItem (.ref a) u) Q E s:=by
 rcases g with ⟨kvs,k,e,ey,l⟩ | ⟨kvs,k,b,e,ey,eb,l⟩
 ·subst ey
  obtain ⟨z,hd,vs,rel,dd⟩:=Ml I.hok e
  obtain ⟨w',hw,rw'⟩:=Fg.some_of (v:=v) (o:=valueAt vs k) (by rw [l]; exact rel.val k)
  exact wpAny_getItem_of (Nk ry) dd.mapOf hw (h w' _ (I.tok _) rw')
 ·subst ey
  cases (show u=Value.ref b from ry)
  obtain ⟨z,hd,xs,rel,dd⟩:=Nq I.hok e
  obtain ⟨w',hw,rw'⟩:=Fg.some_of (v:=v) (o:=(atKey xs k).map (·.2)) (by rw [l]; exact rel.val k)
  obtain ⟨p,hp,hp2⟩:=aE.mp hw
  refine wpAny_getItem_heap (tupleKind_room_in1 hu) (MJ I.hok eb) dd hp ?_
  rw [hp2]
  exact h w' _ (I.tok _) rw'
theorem MP {h':Heap} {t':Nat} {ob:HO} (I:Inv X pins σ H s) (mu:dN (H a)) (hs:Heap.SameBut a s.heap h') (he:∃ q,h'.get? a=some q) (new:By X.prog X.w (upd H a ob) h' a ob) :
  Inv X pins σ (upd H a ob) { s with heap:=h',toks:=t' } :=
 I.write (x:=a) (e:=a) mu (.inl rfl) (fun b q hb z=>(hs.2 b hb).trans z) he new
theorem Vm {P:Program} {w:World} {H':Hp} {h':Heap} {kvs:List (Key × V)} {vs:List (Key × Value)} (z:kvs.length<=sizeLine) (hd:(a == sysModules)=false) (rel:KV kvs vs) (dd:h'.DictOf (CK P w) a vs) :
  By P w H' h' a (.dK kvs):=⟨z,hd,vs,rel,dd⟩
theorem Rg {H':Hp} {Q:Unit->Shared->Prop} (hu:A.units+1<cLine) (I:Inv X pins σ H s) (g:TF H a y v H') (ry:RelV y u) (rv:RelV v r) (h:∀ s',Inv X pins σ H' s'->Q () s') :
  wpAny (model X.prog X.w) A (setItem (.ref a) u r) Q E s:=by
 rcases g with ⟨kvs,k,e,ey,l,eH⟩ | ⟨kvs,k,b,e,ey,eb,l,eH⟩
 ·subst ey eH
  obtain ⟨z,hd,vs,rel,dd⟩:=Xn I.hok e
  have hz:vs.length<=sizeLine:=by rw [← rel.length]; exact z
  have hl:(putK kvs k v).length<=sizeLine:=by have:=GX kvs k v; omega
  refine wpAny_setItem_pairs (hsz:=hz) (Nk ry) dd fun h' dd' hs=>h _ ?_
  have he:∃ q,h'.get? a=some q:=let ⟨q,_,_,hq,_⟩:=dd'; ⟨q,hq⟩
  exact MP I (by rw [e]; exact True.intro) hs he (Vm hl hd (rel.put k rv) dd')
 ·subst ey eH
  cases (show u=Value.ref b from ry)
  obtain ⟨z,hd,xs,rel,dd⟩:=cY I.hok e
  have hz:xs.length<=sizeLine:=by rw [← Paired.length rel]; exact z
  have hl:(putK kvs k v).length<=sizeLine:=by have:=GX kvs k v; omega
  refine wpAny_setItem_heap (hsz:=hz) (tupleKind_room_in1 hu) (MJ I.hok eb) dd fun h' dd' hs=>h _ ?_
  obtain ⟨q,es,ep,hq,h2,h3,h4,_,h5⟩:=dd'
  refine MP I (by rw [e]; exact True.intro) hs ⟨q,hq⟩ ⟨hl,hd,_,(rel.put k eb rv).keeps fun c ys ec=>?_,q,es,ep,hq,h2,h3,h4,h5⟩
  rw [Am (Ei ec e (fun z=>nomatch z))]
  exact ec
end
section
variable {X:Cx} {pins:List (Addr × Obj)} {σ:St} {H:Hp} {s:Shared} {a:Addr} {kvs:List (Key × V)} {k:Key} {u:Value} {A:Around} {E:Value->Shared->Prop}
end
noncomputable def Y6 (i:Expr):Prop:=∀ ov iv,subscripted i false ov iv=operate [ov,iv] (getItem ov iv)
theorem QK {prog:Program} {w:World} {A:Around} {E:Value->Shared->Prop} {s:Shared} {env:Env} {value slice:Expr} {pos:Pos} {T id:String} {Q:Value->Shared->Prop}
  (hl:typeLookup (.type T) "__getitem__" = pure (some (.builtin id))) (hs:Y6 slice)
  (h:wpAny (model prog w) A (eval value env) (fun o s₁=>wpAny (model prog w) A (eval slice env) (fun i s₂=>s₂.TypeIs o T/\wpAny (model prog w) A (getItem o i) Q E s₂) E s₁) E s) :
  wpAny (model prog w) A (eval (.Subscript value slice pos) env) Q E s:=by
 refine Subscript_ (wpAny_mono h (fun o s₁ h₁=>wpAny_mono h₁ (fun i s₂ h₂=>?_) fun _ _ x=>x) fun _ _ x=>x)
 obtain ⟨hT,h₂⟩:=h₂
 unfold subscriptTail
 refine wpAny_bind ?_
 rw [getitemInPython_of_ne hT.not_modules]
 refine wpAny_bind (wpAny_specialOf hT hl ?_)
 have fin:wpAny (model prog w) A (subscripted slice false o i) (fun r s₃=>wpAny (model prog w) A (letTemporaryGo value o r >>= fun _=>pure r) Q E s₃) E s₂:=by
  rw [hs o i]
  exact wpAny_operating (wpAny_mono h₂ (fun r s₃ h₃=>wpAny_bind (wpAny_letTemporaryGo (wpAny_pure h₃))) fun _ _ x=>x)
 first
  | exact wpAny_pure (wpAny_bind fin)
  | exact wpAny_bind (wpAny_pure (wpAny_bind fin))
  | exact wpAny_bind fin
theorem Ny {X:Cx} {pins:List (Addr × Obj)} {σ:St} {H:Hp} {s:Shared} {a:Addr} {y:V} {o:Option V} (I:Inv X pins σ H s) (g:KR H a y o):s.TypeIs (.ref a) "dict":=by
 rcases g with ⟨kvs,k,e,_,_⟩ | ⟨kvs,k,b,e,_,_,_⟩
 ·obtain ⟨_,_,vs,_,dd⟩:=Ml I.hok e
  exact dd.typeIs
 ·obtain ⟨_,_,xs,_,dd⟩:=Nq I.hok e
  exact dd.typeIs
noncomputable def aW (td ty:TE):TE:=fun σ H Q=>td σ H fun x H1=>ty σ H1 fun y H2=>∃ a v,x=.ref a/\KR H2 a y (some v)/\Q v H2
noncomputable def e_ (td ty tv:TE):TS:=fun D σ H=>tv σ H fun v H1=>td σ H1 fun x H2=>ty σ H2 fun y H3=>∃ a H4,x=.ref a/\TF H3 a y v H4/\D.nx σ H4
section
variable {X:Cx} {o i e value:Expr} {pos pos' tpos:Pos} {td ty tv:TE}
theorem WP (hu:X.A.units+1<cLine) (ho:PE X o td) (hi:PE X i ty) (hs:Y6 i):PE X (.Subscript o i pos) (aW td ty):=by
 intro pins s σ H Q I h
 refine QK iF hs (Bq (ho pins s σ H _ I h) fun u s1 ⟨x,H1,I1,rx,q1⟩=>Bq (hi pins s1 σ H1 _ I1 q1) fun iv s2 hq0=>?_)
 obtain ⟨y,H2,I2,ry,a,v,ex,g,q2⟩:=hq0
 subst ex
 obtain rfl:u=Value.ref a:=rx
 exact ⟨Ny I2 g,Q7 hu I2 g ry fun w' s3 I3 rw'=>⟨v,H2,I3,rw',q2⟩⟩
theorem Wt (hu:X.A.units+1<cLine) (ho:PE X o td) (hi:PE X i ty) (hv:PE X value tv) (hs:swapsWith value (some (.Subscript o i pos')) pos.line X.env=pure false) :
  PS X (.Assign [.Subscript o i pos'] value pos) (e_ td ty tv):=by
 intro pins s σ H D I h
 refine wpAny_Assign_Subscript (Bq (hv pins s σ H _ I h) fun r s1 ⟨v,H1,I1,rv,q1⟩=>Bq (ho pins s1 σ H1 _ I1 q1) fun u s2 ⟨x,H2,I2,rx,q2⟩=>Bq (hi pins s2 σ H2 _ I2 q2) fun iv s3 ⟨y,H3,I3,ry,a,H4,ex,g,q3⟩=>?_) hs
 subst ex
 obtain rfl:u=Value.ref a:=rx
 exact Rg hu I3 g ry rv fun s4 I4=>⟨σ,H4,I4,q3⟩
end
theorem Sg {P:Program} {w:World} {H:Hp} (h:Heap) (hb:sysModules<h.objs.size):By P w H (h.push { cls:=.type "dict",data:=.dict #[] }) h.objs.size (.dK []) :=
 ⟨cm _,beq_eq_false_iff_ne.mpr (Ne.symm (aS hb)),[],.nil,Heap.DictOf.new h⟩
noncomputable def Y8:TE:=fun _ H Q=>∀ p,H p=none->Q (.ref p) (upd H p (.dK []))
section
variable {X:Cx} {pos:Pos}
theorem Nt:PE X (.Dict [] [] pos) Y8:=fun pins s σ H Q I h =>
 wpAny_Dict_empty ⟨.ref s.heap.objs.size,_,I.laid (a:=s.heap.objs.size) (o:=.dK []) (t':=s.toks) (fun _ _ q=>Heap.get?_push_of_some _ q) (ah _) (Sg s.heap I.big),rfl,h _ (I.hok.fresh (ah _))⟩
end
structure M2 (X:Cx) (o:Expr) (m:Str) (apos:Pos) (e f:Expr) (cpos:Pos):Prop where
 base:attributeBase o m X.env (eval o X.env)=eval o X.env
 few:((backTo cpos (starEach [e,f] X.env)).all (fun x=>!x.1) && (backToKw cpos (keywordEach [] X.env)).all (fun x=>x.1.isSome)
  && decide (([e,f]:List Expr).length+([]:List Keyword).length+(if ([]:List Keyword).isEmpty then 0 else 1)<30))=true
 line:(apos.endLine == cpos.line)=true
 trees:backTo cpos (starEach [e,f] X.env)=[(false,eval e X.env),(false,eval f X.env)]
noncomputable def lE (H:Hp) (a:Addr):Prop:=(∃ kvs,Rd H a (.dK kvs)) \/ ∃ kvs,Rd H a (.dT kvs)
theorem Ue {X:Cx} {pins:List (Addr × Obj)} {σ:St} {H:Hp} {s:Shared} {a:Addr} (I:Inv X pins σ H s) (d:lE H a) :
  s.TypeIs (.ref a) "dict" /\ (∀ b,Value.ref a=.ref b->∃ ob,s.heap.get? b=some ob/\ob.dict=none)/\(a == sysModules)=false:=by
 rcases d with ⟨kvs,e⟩ | ⟨kvs,e⟩
 ·obtain ⟨_,hd,vs,_,dd⟩:=Ml I.hok e
  refine ⟨dd.typeIs,fun b q=>?_,hd⟩
  cases q
  obtain ⟨ob,_,_,h1,h2,_⟩:=dd
  exact ⟨ob,h1,h2.2.1⟩
 ·obtain ⟨_,hd,xs,_,dd⟩:=Nq I.hok e
  refine ⟨dd.typeIs,fun b q=>?_,hd⟩
  cases q
  obtain ⟨ob,_,_,h1,h2,_⟩:=dd
  exact ⟨ob,h1,h2.2.1⟩
section
variable {X:Cx} {pins:List (Addr × Obj)} {σ:St} {H:Hp} {s:Shared} {a:Addr} {y d:V} {u r:Value} {o:Option V} {A:Around} {E:Value->Shared->Prop}
theorem Ye {Q:Value->Shared->Prop} (hu:A.units+1<cLine) (I:Inv X pins σ H s) (g:KR H a y o) (ry:RelV y u) (rd:RelV d r) (h:∀ w' s',Inv X pins σ H s'->RelV (o.getD d) w'->Q w' s') :
  wpAny (model X.prog X.w) A (call (.builtin "dict.get") [.ref a,u,r]) Q E s:=by
 rcases g with ⟨kvs,k,e,ey,l⟩ | ⟨kvs,k,b,e,ey,eb,l⟩
 ·subst ey
  obtain ⟨z,hd,vs,rel,dd⟩:=Ml I.hok e
  refine call_meetsIn iX dd.typeIs PySem.F.entry_dict_get (PySem.F.args_dict_get_3 _ _ _) (meets_dict_get_default (CK X.prog X.w) a (Nk ry) hd r) ⟨_,dd.mapOf,h _ _ (I.tok _) ?_⟩
  rw [l]
  exact (rel.val k).getD rd
 ·subst ey
  cases (show u=Value.ref b from ry)
  obtain ⟨z,hd,xs,rel,dd⟩:=Nq I.hok e
  refine call_meetsIn iX dd.typeIs PySem.F.entry_dict_get (PySem.F.args_dict_get_3 _ _ _) (meetsH_dict_get_default (tupleKind (CK X.prog X.w)) a b hd r) ⟨tupleKind_room_in1 hu,k,xs,MJ I.hok eb,dd,h _ _ (I.tok _) ?_⟩
  rw [l]
  exact (rel.val k).getD rd
end
noncomputable def Yb (td ty tx:TE):TE:=fun σ H Q=>td σ H fun x H1=>∃ a,x=.ref a/\lE H1 a/\ty σ H1 fun y H2=>tx σ H2 fun z H3=>∃ o,KR H3 a y o/\Q (o.getD z) H3
section
variable {X:Cx} {o e f:Expr} {apos cpos:Pos} {td ty tx:TE}
theorem Ms (hu:X.A.units+1<cLine) (ho:PE X o td) (he:PE X e ty) (hf:PE X f tx) (m:M2 X o "get" apos e f cpos):PE X (.Call (.Attribute o "get" apos) [e,f] [] cpos) (Yb td ty tx):=by
 intro pins s σ H Q I h
 refine wpAny_Call_method m.base m.few m.line PySem.F.plainAttrs_dict iX PySem.F.type_dict_get (Bq (ho pins s σ H _ I h) fun u s1 hq0=>?_)
 obtain ⟨x,H1,I1,rx,a,ex,d,q1⟩:=hq0
 subst ex
 obtain rfl:u=Value.ref a:=rx
 obtain ⟨t1,t2,_⟩:=Ue I1 d
 refine ⟨t1,t2,?_⟩
 rw [m.trees]
 refine Calls.callWith_builtin rfl (Calls.evalArgs_plain (Calls.spliced_cons (Bq (he pins s1 σ H1 _ I1 q1) fun iv s2 ⟨y,H2,I2,ry,q2⟩ =>
  Calls.spliced_cons (Bq (hf pins s2 σ H2 _ I2 q2) fun fv s3 ⟨z,H3,I3,rz,ov,g,q3⟩=>Calls.spliced_nil ?_))))
 exact Ye hu I3 g ry rz fun w' s4 I4 rw'=>⟨_,H3,I4,rw',q3⟩
end
section
variable {X:Cx} {pins:List (Addr × Obj)} {σ:St} {H:Hp} {s:Shared} {a:Addr} {kvs:List (Key × V)} {A:Around} {E:Value->Shared->Prop}
end
section
variable {X:Cx} {pins:List (Addr × Obj)} {σ:St} {H:Hp} {s:Shared} {a:Addr} {y:V} {u:Value} {A:Around} {E:Value->Shared->Prop}
end
end L2
namespace HT
open PySem PyProof.Rows
section
open PySem.SeqAt
open PySem.AutoSeq1 (wpAny_loadPart')
open PySem.MeetsSeq PySem.MeetsSeq2 PySem.MeetsSeq3
end
section
variable {prog:Program} {w:World} {A:Around} {E:Value->Shared->Prop} {s:Shared}
noncomputable def Dj (n d:Nat):Option Int->Nat
 | none=>d
 | some v=>if v<0 then (v+(n:Int)).toNat else min v.toNat n
theorem Uv (n d:Nat):Dj n d none=d:=rfl
theorem JC (n d k:Nat):Dj n d (some (k:Int))=min k n:=by
 show (if (k:Int)<0 then ((k:Int)+(n:Int)).toNat else min (k:Int).toNat n)=min k n
 rw [if_neg (by omega),ce]
theorem ZD (n d:Nat) (hd:d<=n) (o:Option Int):Dj n d o<=n:=by
 cases o with
 | none=>exact hd
 | some v =>
  show (if v<0 then (v+(n:Int)).toNat else min v.toNat n)<=n
  by_cases hv:v<0
  ·rw [if_pos hv]; omega
  ·rw [if_neg hv]; exact Nat.min_le_right _ _
theorem QC (v:Int) (n d:Nat):(if v<0 then max (v+(n:Int)) 0 else min v (n:Int))=((Dj n d (some v):Nat):Int):=by
 show (if v<0 then max (v+(n:Int)) 0 else min v (n:Int))=(((if v<0 then (v+(n:Int)).toNat else min v.toNat n):Nat):Int)
 by_cases hv:v<0
 ·simp only [if_pos hv]; omega
 ·simp only [if_neg hv]; omega
theorem Ob (lo hi:Option Int) (n:Nat):Builtin.Slice.sliceAdjust lo hi 1 (n:Int)=(((Dj n 0 lo:Nat):Int),((Dj n n hi:Nat):Int)):=by
 have h1:¬ ((1:Int)<0):=by omega
 unfold Builtin.Slice.sliceAdjust
 simp only [h1,if_false]
 refine Prod.ext ?_ ?_
 ·cases lo with
  | none=>rfl
  | some v=>exact QC v n 0
 ·cases hi with
  | none=>rfl
  | some v=>exact QC v n n
theorem Ol (i j:Nat):Builtin.Slice.slicePlaces (i:Int) (j:Int) 1=j - i:=by
 unfold Builtin.Slice.slicePlaces
 have h1:(1:Int) > 0:=by omega
 simp only [h1,if_true,Int.ediv_one]
 split <;> omega
theorem Ju {v:Value} {o:Option Int} {Q:Option Int->Shared->Prop} (p:IsPart v o) (h:Q o s):wpAny (model prog w) A (Builtin.Slice.slicePartIndex v) Q E s:=by
 cases p with
 | none=>exact slicePart_none h
 | int i t=>exact slicePart_int h
theorem Hw {sl:Addr} {vl vu:Value} {lo hi:Option Int} {n:Nat} {Q:Int × Int × Nat->Shared->Prop} (hs:s.heap.IsSliceOf sl vl vu .none) (pl:IsPart vl lo) (pu:IsPart vu hi)
  (h:Q (((Dj n 0 lo:Nat):Int),1,Dj n n hi - Dj n 0 lo) s):wpAny (model prog w) A (Builtin.Slice.sliceApplied (.ref sl) (pure (n:Int))) Q E s:=by
 obtain ⟨os,hos,hcs,hds⟩:=id hs
 unfold Builtin.Slice.sliceApplied Builtin.Slice.sliceFields
 refine wpAny_bind (wpAny_bind (wpAny_field hos hds (x:=vl) rfl (wpAny_bind (wpAny_field hos hds (x:=vu) rfl (wpAny_bind (wpAny_field hos hds (x:=.none) rfl (wpAny_pure ?_)))))))
 refine wpAny_bind (slicePart_none ?_)
 show wpAny _ _ (if ((1:Int) == 0)=true then _ else _) _ _ s
 rw [if_neg (by decide)]
 refine wpAny_bind (Ju pl (wpAny_bind (Ju pu (wpAny_bind (wpAny_pure ?_)))))
 show wpAny _ _ (match Builtin.Slice.sliceAdjust lo hi 1 (n:Int) with | (lo,hi)=>pure (lo,(1:Int),Builtin.Slice.slicePlaces lo hi 1)) _ _ s
 rw [Ob lo hi n]
 show wpAny _ _ (pure (((Dj n 0 lo:Nat):Int),(1:Int),Builtin.Slice.slicePlaces ((Dj n 0 lo:Nat):Int) ((Dj n n hi:Nat):Int) 1)) _ _ s
 rw [Ol]
 exact wpAny_pure h
theorem Ul (xs:Array Value) (i k:Nat):((List.range k).filterMap fun (m:Nat)=>xs[((i:Int)+(m:Int) * 1).toNat]?).toArray=((xs.toList.drop i).take k).toArray:=by
 have e:(fun (m:Nat)=>xs[((i:Int)+(m:Int) * 1).toNat]?)=fun m=>xs[i+m]?:=by
  funext m
  have:((i:Int)+(m:Int) * 1).toNat=i+m:=by omega
  rw [this]
 rw [e]
 have:=pick_run xs i k
 rw [List.filterMap_map] at this
 have e2:((fun x=>xs[x]?) ∘ fun x=>i+x)=fun m=>xs[i+m]?:=rfl
 rw [e2] at this
 rw [this]
theorem Hj {t sl:Addr} {items:Array Value} {vl vu:Value} {lo hi:Option Int} {Q:Value->Shared->Prop} (ht:IsTup s.heap t items) (hs:s.heap.IsSliceOf sl vl vu .none) (pl:IsPart vl lo) (pu:IsPart vu hi)
  (hw:¬ (Dj items.size 0 lo=0/\Dj items.size items.size hi=items.size))
  (h:Q (.ref s.heap.objs.size) { s with heap:=s.heap.push { cls:=.type "tuple",data:=.seq ((items.toList.drop (Dj items.size 0 lo)).take (Dj items.size items.size hi - Dj items.size 0 lo)).toArray } })
  (hsz:items.size<=sizeLine):wpAny (model prog w) A (getItem (.ref t) (.ref sl)) Q E s:=by
 have htake:sizeOk (.seq ((items.toList.drop (Dj items.size 0 lo)).take (Dj items.size items.size hi - Dj items.size 0 lo)).toArray):=by
  show ((items.toList.drop (Dj items.size 0 lo)).take (Dj items.size items.size hi - Dj items.size 0 lo)).toArray.size<=sizeLine
  rw [bo,ci,gE,Array.length_toList]
  omega
 have hj:Dj items.size items.size hi<=items.size:=ZD _ _ (ah _) hi
 obtain ⟨os,hos,hcs,hds⟩:=id hs
 have hTs:s.TypeIs (.ref sl) "slice":=⟨os,hos,hcs⟩
 unfold getItem
 try with_reducible refine wpAny_holding ?_
 first | refine wpAny_bind (wpAny_pure ?_) | skip
 refine wpAny_bind (wpAny_sequenceKey ht.typeIs (by decide) ?_)
 refine wpAny_bind (wpAny_callSpecial?_slot (name:=Str.ofString "__getitem__") ht.typeIs PyProof.Rows.slot_tuple_getitem
  (wpAny_call_entry PyProof.Rows.slot_tuple_getitem ht.typeIs entry_tuple_getitem ?_ (args_tuple_getitem _ _)))
 show wpAny _ _ (Builtin.Tuple.tupleItemsOf (.ref t) >>= _) _ _ s
 refine wpAny_bind (tupleItemsOf_ ht ?_)
 refine wpAny_bind (wpAny_typeOf hTs ?_)
 rw [if_pos (by decide)]
 refine wpAny_bind (Hw hs pl pu ?_)
 have hno:¬ ((((Dj items.size 0 lo:Nat):Int) == 0 && (1:Int) == 1 && (Dj items.size items.size hi - Dj items.size 0 lo) == items.size)=true):=by
  intro q
  rw [ib,ib] at q
  have q1:((Dj items.size 0 lo:Nat):Int)=0:=eq_of_beq q.1.1
  have q2:Dj items.size items.size hi - Dj items.size 0 lo=items.size:=eq_of_beq q.2
  exact hw ⟨by omega,by omega⟩
 show wpAny _ _ (if (((Dj items.size 0 lo:Nat):Int) == 0 && (1:Int) == 1 && (Dj items.size items.size hi - Dj items.size 0 lo) == items.size)=true then _ else _) _ _ s
 rw [if_neg hno,Ul]
 first
  | exact wpAny_bind (m:=Builtin.Tuple.tupleExact _) (wpAny_newObj_type (wpAny_pure ⟨_,rfl,wpAny_pure h⟩) htake)
  | exact wpAny_bind (m:=Builtin.Tuple.tupleExact _) (wpAny_newObj_type (wpAny_bind (wpAny_pure (wpAny_pure ⟨_,rfl,wpAny_pure h⟩))) htake)
  | exact wpAny_bind (wpAny_bind (m:=Builtin.Tuple.tupleExact _) (wpAny_newObj_type (wpAny_pure (wpAny_pure ⟨_,rfl,wpAny_pure h⟩)) htake))
  | exact wpAny_bind (wpAny_bind (m:=Builtin.Tuple.tupleExact _) (wpAny_newObj_type (wpAny_pure ⟨_,rfl,wpAny_pure h⟩) htake))
end
end HT
namespace L2
open PySem PySem.Spec PyProof.Rows
noncomputable abbrev TO:=St->Hp->(Option Int->Hp->Prop)->Prop
noncomputable def PO (X:Cx) (e:Option Expr) (t:TO):Prop :=
 ∀ (pins:List (Addr × Obj)) (s:Shared) (σ:St) (H:Hp) (Q:Option Int->Hp->Prop),Inv X pins σ H s->t σ H Q ->
  wpAny (model X.prog X.w) X.A (evalPart e X.env) (fun u s'=>∃ o H',Inv X pins σ H' s'/\IsPart u o/\Q o H') X.xe s
noncomputable def XC:TO:=fun _ H Q=>Q none H
noncomputable def fQ (t:TE):TO:=fun σ H Q=>t σ H fun x H1=>∃ i,x=.int i/\Q (some i) H1
section
variable {X:Cx} {e:Expr} {te:TE} {lo hi:Option Expr} {tl th:TO} {pos p2:Pos}
theorem Hl:PO X none XC:=by
 intro pins s σ H Q I h
 rw [evalPart_none]
 exact wpAny_pure ⟨none,H,I,.none,h⟩
theorem Hg (h:PE X e te):PO X (some e) (fQ te):=by
 intro pins s σ H Q I hw
 rw [evalPart_some]
 refine Bq (h pins s σ H _ I hw) fun u s1 hq0=>?_
 obtain ⟨x,H1,I1,r1,q1⟩:=hq0
 obtain ⟨i,rfl,q⟩:=q1
 obtain ⟨t,rfl⟩:=r1
 exact ⟨some i,H1,I1,.int i t,q⟩
noncomputable def jN (X:Cx) (r:V->Option Int->Option Int->Hp->VK->Prop):Prop :=
 ∀ (pins:List (Addr × Obj)) (s:Shared) (σ:St) (H:Hp) (x:V) (v vl vu:Value) (lo hi:Option Int) (sl:Addr) (Q:VK),Inv X pins σ H s->RelV x v->s.heap.IsSliceOf sl vl vu .none->IsPart vl lo->IsPart vu hi->r x lo hi H Q ->
  ∃ T id,typeLookup (.type T) "__getitem__" = pure (some (.builtin id))/\s.TypeIs v T/\wpAny (model X.prog X.w) X.A (getItem v (.ref sl)) (EP X pins σ Q) X.xe s
noncomputable def m6 (r:V->Option Int->Option Int->Hp->VK->Prop) (te:TE) (tl th:TO):TE:=fun σ H Q=>te σ H fun x H1=>tl σ H1 fun l H2=>th σ H2 fun u H3=>r x l u H3 Q
theorem Gj {r:V->Option Int->Option Int->Hp->VK->Prop} (hr:jN X r) (he:PE X e te) (hl:PO X lo tl) (hu:PO X hi th):PE X (.Subscript e (.Slice lo hi none p2) pos) (m6 r te tl th):=by
 intro pins s σ H Q I h
 refine Subscript_ (Bq (he pins s σ H _ I h) fun v s1 hq0=>?_)
 obtain ⟨x,H1,I1,r1,q1⟩:=hq0
 refine wpAny_Slice (Bq (hl pins s1 σ H1 _ I1 q1) fun vl s2 ⟨l,H2,I2,pl,q2⟩=>Bq (hu pins s2 σ H2 _ I2 q2) fun vu s3 hq0=>?_)
 obtain ⟨u,H3,I3,pu,q3⟩:=hq0
 rw [evalPart_none]
 refine wpAny_pure ?_
 have I4:Inv X pins σ H3 { s3 with heap:=s3.heap.push { cls:=.type "slice",data:=.fields #[vl,vu,.none] } }:=I3.kept (t':=s3.toks) fun b ob q=>Heap.get?_push_of_some _ q
 obtain ⟨T,id,hT,ht,hg⟩:=hr pins { s3 with heap:=s3.heap.push { cls:=.type "slice",data:=.fields #[vl,vu,.none] } } σ H3 x v vl vu l u s3.heap.objs.size Q I4 r1 (Heap.IsSliceOf.new ..) pl pu q3
 show wpAny (model X.prog X.w) X.A (subscriptTail e (.Slice lo hi none p2) v (.ref s3.heap.objs.size)) (EP X pins σ Q) X.xe { s3 with heap:=s3.heap.push { cls:=.type "slice",data:=.fields #[vl,vu,.none] } }
 exact tail_any (ops:=[.ref s3.heap.objs.size,v]) ht hT hg (by with_unfolding_all rfl)
noncomputable def El (xs:List V) (lo hi:Option Int):List V:=(xs.drop (HT.Dj xs.length 0 lo)).take (HT.Dj xs.length xs.length hi - HT.Dj xs.length 0 lo)
theorem Ij (xs:List V) (lo hi:Option Int):(El xs lo hi).length<=xs.length:=by
 unfold El
 rw [ci,gE]
 omega
noncomputable def iI (K:PySem.W.Frag):V->Option Int->Option Int->Hp->VK->Prop:=fun x lo hi H Q=>∃ a xs,x=.ref a/\Eg K H a xs /\
 ¬ (HT.Dj xs.length 0 lo=0/\HT.Dj xs.length xs.length hi=xs.length)/\∀ p,H p=none->Q (.ref p) (upd H p (.tup (El xs lo hi)))
theorem Zq:jN X (iI X.K):=by
 intro pins s σ H x v vl vu lo hi sl Q I rx hs pl pu h
 obtain ⟨a,xs,rfl,hx,hw,q⟩:=h
 cases rx
 obtain ⟨its,r,ht,hz⟩:=I.tuple hx
 have hlen:its.toArray.size=xs.length:=by rw [bo]; exact r.length.symm
 refine ⟨"tuple",_,PyProof.Rows.slot_tuple_getitem.lookup,ht.typeIs,?_⟩
 refine HT.Hj ht hs pl pu (by rw [hlen]; exact hw) ?_ (by rw [hlen]; exact hz)
 rw [hlen]
 refine ⟨.ref s.heap.objs.size,_,I.laid (t':=s.toks) (o:=.tup (El xs lo hi)) (fun b ob q=>Heap.get?_push_of_some _ q) (ah _) ?_,rfl,q _ (I.hok.fresh (ah _))⟩
 exact ⟨br (Ij xs lo hi) hz,_,(r.drop (HT.Dj xs.length 0 lo)).take (HT.Dj xs.length xs.length hi - HT.Dj xs.length 0 lo),IsTup.new _ _⟩
end
end L2
namespace L2
open PySem PySem.Spec PyProof.Rows
noncomputable def Vc (n:Nat) (i:Int):Option Nat:=if 0<=i then (if i<n then some i.toNat else none) else if -(n:Int)<=i then some (i+n).toNat else none
noncomputable def Mf {α:Type} (xs:List α) (i:Int):Option α:=(Vc xs.length i).bind fun j=>xs[j]?
theorem Qs {n:Nat} {i:Int} {j:Nat} (h:Vc n i=some j):seqIndex? i n=some j/\j<n /\ -(n:Int)<=i/\i<n:=by
 unfold Vc at h
 by_cases h0:0<=i
 ·rw [if_pos h0] at h
  by_cases h1:i<n
  ·rw [if_pos h1] at h
   have e:i.toNat=j:=Option.some.inj h
   exact ⟨by rw [seqIndex_of h0 h1,e],by omega,by omega,h1⟩
  ·rw [if_neg h1] at h; cases h
 ·rw [if_neg h0] at h
  by_cases h1 : -(n:Int)<=i
  ·rw [if_pos h1] at h
   have e:(i+n).toNat=j:=Option.some.inj h
   exact ⟨by rw [seqIndex_neg (by omega) h1,e],by omega,h1,by omega⟩
  ·rw [if_neg h1] at h; cases h
theorem L_ {α:Type} {xs:List α} {i:Int} {v:α} (h:Mf xs i=some v):∃ j,seqIndex? i xs.length=some j/\xs[j]? = some v/\j<xs.length /\ -(xs.length:Int)<=i/\i<xs.length:=by
 unfold Mf at h
 cases e:Vc xs.length i with
 | none=>rw [e] at h; cases h
 | some j =>
  rw [e] at h
  obtain ⟨h1,h2,h3,h4⟩:=Qs e
  exact ⟨j,h1,h,h2,h3,h4⟩
theorem Af {α:Type} {xs:List α} {j:Nat} {v:α} (h:xs[j]? = some v):Mf xs (j:Int)=some v:=by
 have hj:j<xs.length:=(af.mp h).1
 have e:Vc xs.length (j:Int)=some j:=by
  unfold Vc
  rw [if_pos (by omega),if_pos (by omega)]; simp
 unfold Mf; rw [e]; exact h
noncomputable def Xc (b:Expr):Prop:=∀ o i,subscripted b false o i=operate [o,i] (getItem o i)
noncomputable def Zu (X:Cx) (r:R2):Prop :=
 ∀ (value slice:Expr) (pins:List (Addr × Obj)) (s:Shared) (σ:St) (H:Hp) (x y:V) (v u:Value) (Q:VK),Inv X pins σ H s->RelV x v->RelV y u->r x y H Q ->
  subscripted slice false v u=operate [v,u] (getItem v u)->wpAny (model X.prog X.w) X.A (subscriptTail value slice v u) (EP X pins σ Q) X.xe s
noncomputable def mX (X:Cx) (id:String) (r:V->List V->Hp->VK->Prop):Prop :=
 ∀ (pins:List (Addr × Obj)) (s:Shared) (σ:St) (H:Hp) (x:V) (xs:List V) (v:Value) (us:List Value) (Q:VK),Inv X pins σ H s->RelV x v->Vals xs us->r x xs H Q ->
  wpAny (model X.prog X.w) X.A (call (.builtin id) (v::us)) (EP X pins σ Q) X.xe s
section
variable {X:Cx} {a b:Expr} {ta tb:TE} {pos:Pos}
theorem Ar {r:R2} (hr:Zu X r) (ha:PE X a ta) (hb:PE X b tb) (hs:Xc b):PE X (.Subscript a b pos) (dg r ta tb):=by
 intro pins s σ H Q I h
 exact Subscript_ (Zf ha hb I h fun v u s2 x y H2 I2 rx ry q=>hr a b pins s2 σ H2 x y v u Q I2 rx ry q (hs _ _))
noncomputable def bJ (K:PySem.W.Frag):R2:=fun x y H Q=>∃ p xs i v,x=.ref p/\y=.int i/\CZ K H p xs/\Mf xs i=some v/\Q v H
noncomputable def cH (K:PySem.W.Frag):R2:=fun x y H Q=>∃ p xs i v,x=.ref p/\y=.int i/\Eg K H p xs/\Mf xs i=some v/\Q v H
noncomputable def jC:R2:=fun x y H Q=>∃ z i c,x=.str z/\y=.int i/\z.length<=sizeLine/\Mf z.cps.toList i=some c/\Q (.str ⟨#[c]⟩) H
theorem Bm:Zu X (bJ X.K):=by
 intro value slice pins s σ H x y v u Q I rx ry h hs
 obtain ⟨p,xs,i,z,rfl,rfl,hq,he,q⟩:=h
 cases rx
 obtain ⟨t,rfl⟩:=ry
 obtain ⟨its,r,pl,hz⟩:=I.list hq
 obtain ⟨j,h1,h2,h3,h4,h5⟩:=L_ he
 obtain ⟨w,ew,rw'⟩:=r.get h2
 have hl:=r.length
 have hn:=G5
 have fin:EP X pins σ Q w s:=⟨z,H,I,rw',q⟩
 by_cases h0:0<=i
 ·have hj:i.toNat=j:=by
   rw [seqIndex_of h0 h5] at h1
   exact Option.some.inj h1
  exact item_listR pl.isList h0 (by omega) (by rw [hj]; simpa using ew) fin hs
 ·have hj:(i+(its.toArray.size:Int)).toNat=j:=by
   rw [seqIndex_neg (by omega) h4] at h1
   rw [bo,← hl]
   exact Option.some.inj h1
  exact subscriptTail_builtinR (x:=w) pl.isList.typeIs slot_list_getitem.lookup
   (wpAny_getItem_list_neg (Q:=fun r s'=>r=w/\EP X pins σ Q r s') pl.isList (by omega) (by rw [List.size_toArray] <;> omega) (by omega) (by rw [hj]; simpa using ew) ⟨rfl,fin⟩) hs
theorem ZL:Zu X (cH X.K):=by
 intro value slice pins s σ H x y v u Q I rx ry h hs
 obtain ⟨p,xs,i,z,rfl,rfl,hq,he,q⟩:=h
 cases rx
 obtain ⟨t,rfl⟩:=ry
 obtain ⟨its,r,pl,hz⟩:=I.tuple hq
 obtain ⟨j,h1,h2,h3,h4,h5⟩:=L_ he
 obtain ⟨w,ew,rw'⟩:=r.get h2
 have hl:=r.length
 have hn:=G5
 have fin:EP X pins σ Q w s:=⟨z,H,I,rw',q⟩
 exact subscriptTail_builtinR (x:=w) pl.typeIs slot_tuple_getitem.lookup
  (getItem_tuple (j:=j) (Q:=fun r s'=>r=w/\EP X pins σ Q r s') pl (by omega) (by omega) (by rw [List.size_toArray,← hl]; exact h1) (by simpa using ew) ⟨rfl,fin⟩) hs
theorem YZ:Zu X jC:=by
 intro value slice pins s σ H x y v u Q I rx ry h hs
 obtain ⟨z,i,c,rfl,rfl,hz,he,q⟩:=h
 obtain ⟨t,rfl⟩:=rx
 obtain ⟨t',rfl⟩:=ry
 obtain ⟨j,h1,h2,h3,h4,h5⟩:=L_ he
 have hl:z.cps.toList.length=z.length:=by simp [Str.length]
 rw [hl] at h1 h4 h5
 have hn:=G5
 exact tail_any (typeIs_str s z t) slot_str_getitem.lookup (getItem_str (c:=c) (by
  have e1:decide (i < -(2 ^ 63:Int))=false:=decide_eq_false (by omega)
  have e2:decide (i ≥ 2 ^ 63)=false:=decide_eq_false (by omega)
  rw [e1,e2,Bool.or_false]) (by rw [h1]; simpa using h2) ⟨.str ⟨#[c]⟩,H,I.tok _,⟨_,rfl⟩,q⟩) hs
theorem Om (its:List Value) (n j:Nat) (u:Value):Obj.mapSeq (·.setIfInBounds j u) { cls:=.type "list",data:=.seq its.toArray n } = { cls:=.type "list",data:=.seq (its.set j u).toArray n }:=by
 simp [Obj.mapSeq]
theorem Inv.lst {pins:List (Addr × Obj)} {σ:St} {H:Hp} {s:Shared} {p:Addr} {xs:List V} (I:Inv X pins σ H s) (h:H p=some (.lst xs)) :
  ∃ (its:List Value) (n:Nat),Vals xs its/\s.heap.get? p=some { cls:=.type "list",data:=.seq its.toArray n }/\xs.length<=sizeLine:=by
 obtain ⟨z,its,n,r,e⟩:=I.hok p _ h
 exact ⟨its,n,r,e,z⟩
theorem Inv.ZS {pins:List (Addr × Obj)} {σ:St} {H:Hp} {s:Shared} {p:Addr} {xs ys:List V} {its its':List Value} {n n':Nat} {f:Obj->Obj} (I:Inv X pins σ H s) (h:H p=some (.lst xs))
  (ho:s.heap.get? p=some { cls:=.type "list",data:=.seq its.toArray n }) (hf:f { cls:=.type "list",data:=.seq its.toArray n } = { cls:=.type "list",data:=.seq its'.toArray n' }) (r:Vals ys its') (hz:ys.length<=sizeLine) (t:Nat) :
  Inv X pins σ (upd H p (.lst ys)) { s with heap:=s.heap.update p f,toks:=t }:=by
 have e:(s.heap.update p f).get? p=some { cls:=.type "list",data:=.seq its'.toArray n' }:=by
  rw [Heap.get?_update_self f ho (by rw [hf] <;> rfl),hf]
 refine I.write (x:=p) (e:=p) (by rw [h]; trivial) (.inl rfl) (fun b u hb q=>(Heap.get?_update_other _ _ (Ne.symm hb)).trans q) ⟨_,e⟩ ?_
 exact ⟨hz,its',n',r,e⟩
noncomputable def fC:V->V->V->Hp->(Hp->Prop)->Prop:=fun o i v H Q=>∃ p xs k j,o=.ref p/\i=.int k/\H p=some (.lst xs)/\Vc xs.length k=some j/\Q (upd H p (.lst (xs.set j v)))
theorem set_list:dI X fC:=by
 intro pins s σ H o i v ov iv u Q I ro ri rv h
 obtain ⟨p,xs,k,j,rfl,rfl,hp,hj,q⟩:=h
 cases ro
 obtain ⟨t,rfl⟩:=ri
 obtain ⟨its,n,r,ho,hz⟩:=I.lst hp
 obtain ⟨h1,h2,h3,h4⟩:=Qs hj
 have hl:=r.length
 have hn:=G5
 have I':Inv X pins σ (upd H p (.lst (xs.set j v))) { s with heap:=s.heap.update p (Obj.mapSeq (·.setIfInBounds j u)) } :=
  I.ZS hp ho (Om its n j u) (r.set rv j) (by rw [io]; exact hz) s.toks
 by_cases h0:0<=k
 ·have hk:k.toNat=j:=by
   rw [seqIndex_of h0 h4] at h1
   exact Option.some.inj h1
  exact PySem.W.ki_setAt ho h0 (by omega) (by rw [bo,← hl]; exact h4) (by rw [hk]; exact ⟨_,I',q⟩)
 ·have hk:(k+(its.toArray.size:Int)).toNat=j:=by
   rw [seqIndex_neg (by omega) h3] at h1
   rw [bo,← hl]
   exact Option.some.inj h1
  exact PySem.W.ki_setBack ho (by omega) (by rw [bo,← hl]; exact h3) (by omega) (by rw [hk]; exact ⟨_,I',q⟩)
theorem Lh (lo hi:Option Int) (n:Nat):(sliceBounds lo hi none n).1=((HT.Dj n 0 lo:Nat):Int)/\(sliceBounds lo hi none n).2.1=((HT.Dj n n hi:Nat):Int)/\(sliceBounds lo hi none n).2.2=1:=by
 refine ⟨?_,?_,rfl⟩
 ·cases lo with
  | none=>simp [sliceBounds,HT.Dj]
  | some i =>
   simp only [sliceBounds,HT.Dj,Option.getD_none,show (1:Int) > 0 by decide,if_true]
   by_cases h:i<0
   ·simp only [h,if_true] <;> omega
   ·simp only [h,if_false] <;> omega
 ·cases hi with
  | none=>simp [sliceBounds,HT.Dj]
  | some i =>
   simp only [sliceBounds,HT.Dj,Option.getD_none,show (1:Int) > 0 by decide,if_true]
   by_cases h:i<0
   ·simp only [h,if_true] <;> omega
   ·simp only [h,if_false] <;> omega
theorem KJ (its:List Value) (lo hi:Option Int):slicePick its.toArray lo hi none=((its.drop (HT.Dj its.length 0 lo)).take (HT.Dj its.length its.length hi - HT.Dj its.length 0 lo)).toArray:=by
 obtain ⟨h1,h2,h3⟩:=Lh lo hi its.toArray.size
 unfold slicePick
 rw [h1,h2,h3]
 simp only [sliceRange_one,pick_run,List.size_toArray] <;> rfl
noncomputable def j6 (K:PySem.W.Frag):V->Option Int->Option Int->Hp->VK->Prop:=fun x lo hi H Q=>∃ a xs,x=.ref a/\CZ K H a xs/\∀ p,H p=none->Q (.ref p) (upd H p (.lst (El xs lo hi)))
theorem Iw:jN X (j6 X.K):=by
 intro pins s σ H x v vl vu lo hi sl Q I rx hs pl pu h
 obtain ⟨a,xs,rfl,hx,q⟩:=h
 cases rx
 obtain ⟨its,r,ht,hz⟩:=I.list hx
 have hlen:=r.length
 refine ⟨"list",_,slot_list_getitem.lookup,ht.isList.typeIs,?_⟩
 refine wpAny_getItem_list_slice ht.isList hs pl pu .none (by simp) ?_ (by rw [List.size_toArray] <;> omega)
 rw [KJ,← hlen]
 refine ⟨.ref s.heap.objs.size,_,I.laid (t':=s.toks) (o:=.lst (El xs lo hi)) (fun b ob q=>Heap.get?_push_of_some _ q) (ah _) ?_,rfl,q _ (I.hok.fresh (ah _))⟩
 exact ⟨br (Ij xs lo hi) hz,_,0,(r.drop (HT.Dj xs.length 0 lo)).take (HT.Dj xs.length xs.length hi - HT.Dj xs.length 0 lo),Heap.get?_push_size _ rfl⟩
noncomputable def F_:V->Bool
 | .non=>true
 | .bl _=>true
 | .int _=>true
 | .str _=>true
 | _=>false
noncomputable def Kr:V->V->Bool
 | .non,.non=>true
 | .bl a,.bl b=>a == b
 | .bl a,.int b=>(if a then 1 else 0) == b
 | .int a,.bl b=>a == (if b then 1 else 0)
 | .int a,.int b=>a == b
 | .str a,.str b=>a == b
 | _,_=>false
theorem VV {A:Around} {s:Shared} {y x:V} {u v:Value} (ry:RelV y u) (rx:RelV x v) (fy:F_ y=true) (fx:F_ x=true):SeqAt.EqAt A s u v (Kr y x):=by
 cases y with
 | non =>
  cases ry
  cases x with
  | non=>cases rx; exact SeqAt.EqAt.same _
  | bl b=>cases rx; exact SeqAt.EqAt.none_bool b
  | int b=>obtain ⟨t,rfl⟩:=rx; exact SeqAt.EqAt.none_int b t
  | str b=>obtain ⟨t,rfl⟩:=rx; exact SeqAt.EqAt.none_str b t
  | _=>exact absurd (show false=true from fx) Bool.false_ne_true
 | bl a =>
  cases ry
  cases x with
  | non=>cases rx; exact SeqAt.EqAt.bool_none a
  | bl b=>cases rx; exact SeqAt.EqAt.bool_bool a b
  | int b=>obtain ⟨t,rfl⟩:=rx; exact SeqAt.EqAt.bool_int a b t
  | str b=>obtain ⟨t,rfl⟩:=rx; exact SeqAt.EqAt.bool_str a b t
  | _=>exact absurd (show false=true from fx) Bool.false_ne_true
 | int a =>
  obtain ⟨t',rfl⟩:=ry
  cases x with
  | non=>cases rx; exact SeqAt.EqAt.int_none a t'
  | bl b=>cases rx; exact SeqAt.EqAt.int_bool a t' b
  | int b=>obtain ⟨t,rfl⟩:=rx; exact SeqAt.EqAt.int_int a t' b t
  | str b=>obtain ⟨t,rfl⟩:=rx; exact SeqAt.EqAt.int_str a t' b t
  | _=>exact absurd (show false=true from fx) Bool.false_ne_true
 | str a =>
  obtain ⟨t',rfl⟩:=ry
  cases x with
  | non=>cases rx; exact SeqAt.EqAt.str_none a t'
  | bl b=>cases rx; exact SeqAt.EqAt.str_bool a t' b
  | int b=>obtain ⟨t,rfl⟩:=rx; exact SeqAt.EqAt.str_int a t' b t
  | str b=>obtain ⟨t,rfl⟩:=rx; exact SeqAt.EqAt.str_str a t' b t
  | _=>exact absurd (show false=true from fx) Bool.false_ne_true
 | _=>exact absurd (show false=true from fy) Bool.false_ne_true
noncomputable def WX (x:V) (u:Value):Bool:=match u with
 | .none=>Kr .non x
 | .bool b=>Kr (.bl b) x
 | .int i _=>Kr (.int i) x
 | .str z _=>Kr (.str z) x
 | _=>false
theorem Vd {x y:V} {u:Value} (r:RelV y u) (f:F_ y=true):WX x u=Kr y x:=by
 cases y with
 | non=>cases r; rfl
 | bl b=>cases r; rfl
 | int i=>obtain ⟨t,rfl⟩:=r; rfl
 | str z=>obtain ⟨t,rfl⟩:=r; rfl
 | _=>exact absurd (show false=true from f) Bool.false_ne_true
theorem K8 {x:V}:∀ {xs:List V} {us:List Value},Vals xs us->xs.all F_=true->us.any (WX x)=xs.any fun y=>Kr y x
 | _,_,.nil,_=>rfl
 | y::xs,u::us,.cons r t,f=>by
  rw [kN,ib] at f
  rw [kq,kq,Vd r f.1,K8 t f.2]
theorem Jw {A:Around} {s:Shared} {x:V} {v:Value} (rx:RelV x v) (fx:F_ x=true):∀ {xs:List V} {us:List Value},Vals xs us->xs.all F_=true->∀ u∈us,SeqAt.EqAt A s u v (WX x u)
 | _,_,.nil,_=>fun u hu=>by cases hu
 | y::xs,u::us,.cons r t,f=>fun u' hu=>by
  rw [kN,ib] at f
  rcases bi.mp hu with rfl | hu
  ·rw [Vd r f.1]; exact VV r rx f.1 fx
  ·exact Jw rx fx t f.2 u' hu
noncomputable def inV (x:V) (xs:List V):Bool:=xs.any fun y=>Kr y x
noncomputable def mU (K:PySem.W.Frag) (neg:Bool):R2:=fun x y H Q=>∃ p xs,y=.ref p/\(CZ K H p xs \/ Eg K H p xs)/\F_ x=true/\xs.all F_=true/\Q (.bl (if neg then !inV x xs else inV x xs)) H
theorem RT:GF X (compareOp .In) (mU X.K false):=by
 intro pins s σ H x y v u Q I rx ry h
 obtain ⟨p,xs,rfl,hq,fx,fs,q⟩:=h
 cases ry
 rcases hq with hq | hq
 ·obtain ⟨its,r,pl,hz⟩:=I.list hq
  refine SeqAt.in_listAt (WX x) pl.isList (fun w hw=>Jw rx fx r fs w (by simpa using hw)) ⟨.bl _,H,I,rfl,?_⟩
  rw [show its.toArray.any (WX x)=its.any (WX x) by simp,K8 r fs]
  exact q
 ·obtain ⟨its,r,pl,hz⟩:=I.tuple hq
  refine SeqAt.in_tupleAt (WX x) pl (fun w hw=>Jw rx fx r fs w (by simpa using hw)) ⟨.bl _,H,I,rfl,?_⟩
  rw [show its.toArray.any (WX x)=its.any (WX x) by simp,K8 r fs]
  exact q
theorem Bj:Du X (.builtin "len") (fun xs H Q=>∃ p ys,xs=[.ref p]/\(CZ X.K H p ys \/ Eg X.K H p ys)/\Q (.int ys.length) H):=by
 intro pins s σ H xs us Q I r h
 obtain ⟨p,ys,rfl,hq,q⟩:=h
 obtain ⟨u,rfl,rx⟩:=vals1 r
 cases rx
 have hn:=G5
 rcases hq with hq | hq
 ·obtain ⟨its,r',pl,hz⟩:=I.list hq
  have hlen:=r'.length
  exact Calls.call_len_list pl.isList (by simp only [List.size_toArray] <;> omega) ⟨.int ys.length,H,I.tok _,⟨s.toks+1,by rw [List.size_toArray,hlen]⟩,q⟩
 ·obtain ⟨its,r',pl,hz⟩:=I.tuple hq
  have hlen:=r'.length
  exact len_tuple pl (by simp only [List.size_toArray] <;> omega) ⟨.int ys.length,H,I.tok _,⟨s.toks+1,by rw [List.size_toArray,hlen]⟩,q⟩
theorem Le:Du X (.builtin "len") (fun xs H Q=>∃ z,xs=[.str z]/\z.length<=sizeLine/\Q (.int z.length) H):=by
 intro pins s σ H xs us Q I r h
 obtain ⟨z,rfl,hz,q⟩:=h
 obtain ⟨u,rfl,t,rfl⟩:=vals1 r
 have hn:=G5
 exact len_str (by omega) ⟨.int z.length,H,I.tok _,⟨_,rfl⟩,q⟩
theorem HN:Du X (.type "list") (fun xs H Q=>∃ p ys,xs=[.ref p]/\(CZ X.K H p ys \/ Eg X.K H p ys)/\∀ l,H l=none->Q (.ref l) (upd H l (.lst ys))):=by
 intro pins s σ H xs us Q I r h
 obtain ⟨p,ys,rfl,hq,q⟩:=h
 obtain ⟨u,rfl,rx⟩:=vals1 r
 cases rx
 have fin:∀ (its:List Value),Vals ys its->ys.length<=sizeLine->∀ (h':Heap) (c':Nat),(∀ b o',s.heap.get? b=some o'->h'.get? b=some o') ->
   h'.get? s.heap.objs.size=some { cls:=.type "list",dict:=none,data:=.seq its.toArray c',slots:=#[] }->EP X pins σ Q (.ref s.heap.objs.size) { s with heap:=h' }:=fun its r' hz h' c' kp e =>
  ⟨.ref s.heap.objs.size,_,I.laid (t':=s.toks) kp (Nat.le_refl _) (show By X.prog X.w _ h' _ (.lst ys) from ⟨hz,its,c',r',e⟩),rfl,q _ (I.hok.fresh (Nat.le_refl _))⟩
 rcases hq with hq | hq
 ·obtain ⟨its,r',pl,hz⟩:=I.list hq
  have hlen:=r'.length
  obtain ⟨o,ho,hc,n,hd⟩:=pl.isList
  exact call_list_seq p (.inl rfl) ho hc hd (fun h' c' kp e=>fin its r' hz h' c' kp e) (by simp only [List.size_toArray] <;> omega)
 ·obtain ⟨its,r',pl,hz⟩:=I.tuple hq
  have hlen:=r'.length
  obtain ⟨o,ho,hc,n,hd⟩:=pl
  exact call_list_seq p (.inr rfl) ho hc hd (fun h' c' kp e=>fin its r' hz h' c' kp e) (by simp only [List.size_toArray] <;> omega)
noncomputable def ju (K:PySem.W.Frag) (T:String) (x:V) (H:Hp):Prop:=match x with
 | .str _=>T = "str"
 | .int _=>T = "int"
 | .ref p=>(T = "list" /\ ∃ xs,CZ K H p xs) \/ (T = "tuple" /\ ∃ o,K.lookup p=some o/\o.cls=.type "tuple" /\ o.dict=none) \/
   (T = "dict" /\ ((∃ kvs,H p=some (.dK kvs)) \/ ∃ kvs,H p=some (.dT kvs))) \/ (T = "set" /\ ∃ S n,H p=some (.set S n))
 | _=>False
theorem Tc {pins:List (Addr × Obj)} {σ:St} {H:Hp} {s:Shared} {T:String} {x:V} {v:Value} (I:Inv X pins σ H s) (r:RelV x v) (ty:ju X.K T x H) :
  s.TypeIs v T/\∀ a,v=.ref a->∃ ob,s.heap.get? a=some ob/\ob.dict=none:=by
 cases x with
 | str z =>
  obtain ⟨t,rfl⟩:=r
  cases (show T = "str" from ty)
  exact ⟨typeIs_str s z t,fun _ e=>nomatch e⟩
 | int i =>
  obtain ⟨t,rfl⟩:=r
  cases (show T = "int" from ty)
  exact ⟨typeIs_int s i t,fun _ e=>nomatch e⟩
 | ref p =>
  cases r
  rcases ty with ⟨rfl,xs,hq⟩ | ⟨rfl,o,hk,hc,hd⟩ | ⟨rfl,hk⟩ | ⟨rfl,S,n,hk⟩
  ·obtain ⟨its,_,pl,_⟩:=I.list hq
   refine ⟨pl.isList.typeIs,fun a e=>?_⟩
   cases e
   obtain ⟨o,n,e,c,hd,_⟩:=pl
   exact ⟨o,e,hd⟩
  ·refine ⟨⟨o,I.Ho p o hk,hc⟩,fun a e=>?_⟩
   cases e
   exact ⟨o,I.Ho _ o hk,hd⟩
  ·have z:∃ o,s.heap.get? p=some o/\o.ExactDict:=by
    rcases hk with ⟨kvs,hk⟩ | ⟨kvs,hk⟩
    ·obtain ⟨_,_,_,_,o,_,_,e,ex,_⟩:=I.hok p _ hk
     exact ⟨o,e,ex⟩
    ·obtain ⟨_,_,_,_,o,_,_,e,ex,_⟩:=I.hok p _ hk
     exact ⟨o,e,ex⟩
   obtain ⟨o,e,ex⟩:=z
   refine ⟨⟨o,e,ex.1⟩,fun a e2=>?_⟩
   cases e2
   exact ⟨o,e,ex.2.1⟩
  ·obtain ⟨o,_,_,_,e,ex,_⟩:=I.hok p _ hk
   refine ⟨⟨o,e,ex.1⟩,fun a e2=>?_⟩
   cases e2
   exact ⟨o,e,ex.2.1⟩
 | _=>exact False.elim ty
noncomputable def jG (K:PySem.W.Frag) (T:String) (r:V->List V->Hp->VK->Prop) (to:TE):TE:=fun σ H Q=>to σ H fun x H1=>ju K T x H1/\r x [] H1 Q
noncomputable def my (K:PySem.W.Frag) (T:String) (r:V->List V->Hp->VK->Prop) (to:TE) (t:TA):TE:=fun σ H Q=>to σ H fun x H1=>ju K T x H1/\t σ H1 fun xs H2=>r x xs H2 Q
variable {o e:Expr} {es:List Expr} {to:TE} {t:TA} {name:Str} {apos cpos:Pos} {T id:String} {r:V->List V->Hp->VK->Prop}
theorem O_ (pa:PlainAttrs T) (slot:Slot T name id) (hty:typeOf (.builtin id)=pure (.type "method_descriptor")) (hm:mX X id r) (ho:PE X o to)
  (hbase:attributeBase o name X.env (eval o X.env)=eval o X.env:=by rfl) (hline:(apos.endLine == cpos.line)=true:=by rfl):PE X (.Call (.Attribute o name apos) [] [] cpos) (jG X.K T r to):=by
 intro pins s σ H Q I h
 refine wpAny_Call_method0_late hbase hline (Bq (ho pins s σ H _ I h) fun v s1 hq0=>?_)
 obtain ⟨x,H1,I1,r1,ty,q1⟩:=hq0
 obtain ⟨h1,h2⟩:=Tc I1 r1 ty
 exact ⟨T,id,pa,slot,hty,h1,h2,Calls.callWith_builtin rfl (PySem.evalArgs_none (hm pins s1 σ H1 x [] v [] Q I1 r1 .nil q1))⟩
theorem Fz (pa:PlainAttrs T) (slot:Slot T name id) (hty:typeOf (.builtin id)=pure (.type "method_descriptor")) (hm:mX X id r) (ho:PE X o to) (ha:PA X (e::es) t)
  (hbase:attributeBase o name X.env (eval o X.env)=eval o X.env:=by rfl)
  (hfew:((backTo cpos (starEach (e::es) X.env)).all (fun x=>!x.1) && (backToKw cpos (keywordEach [] X.env)).all (fun x=>x.1.isSome)
   && decide ((e::es).length+([]:List Keyword).length+(if ([]:List Keyword).isEmpty then 0 else 1)<30))=true:=by rfl)
  (hline:(apos.endLine == cpos.line)=true:=by rfl) (hs:starEach (e::es) X.env=(false,eval e X.env)::starEach es X.env:=by rfl) (hplain:(backTo cpos (starEach es X.env)).any (·.1)=false:=by rfl) :
  PE X (.Call (.Attribute o name apos) (e::es) [] cpos) (my X.K T r to t):=by
 intro pins s σ H Q I h
 refine wpAny_Call_method_late hbase hfew hline rfl (Bq (ho pins s σ H _ I h) fun v s1 hq0=>?_)
 obtain ⟨x,H1,I1,r1,ty,q1⟩:=hq0
 obtain ⟨h1,h2⟩:=Tc I1 r1 ty
 refine ⟨T,id,pa,slot,hty,h1,h2,?_⟩
 have hA:=ha cpos pins s1 σ H1 _ I1 q1
 rw [hs] at hA ⊢
 refine Calls.callWith_builtin (by show (false || (backTo cpos (starEach es X.env)).any (·.1))=false; rw [hplain] <;> rfl) (Calls.evalArgs_plain ?_)
 exact Bq hA fun us s2 ⟨vs,H2,I2,r2,q2⟩=>hm pins s2 σ H2 x vs v us Q I2 r1 r2 q2
end
end L2
namespace L2
open PySem PySem.Spec PyProof.Rows
noncomputable def jw (X:Cx) (id:String) (r:V->List V->Hp->VK->Prop):Prop :=
 ∀ (pins:List (Addr × Obj)) (s:Shared) (σ:St) (H:Hp) (x:V) (xs:List V) (v:Value) (us:List Value) (Q:VK),Inv X pins σ H s->RelV x v->Vals xs us->r x xs H Q ->
  wpAny (model X.prog X.w) X.A (call (.builtin id) (v::us)) (EP X pins σ Q) X.xe s
theorem Vals.one:∀ {x:V} {us:List Value},Vals [x] us->∃ u,us=[u]/\RelV x u:=fun h=>by cases h with | cons r t=>cases t; exact ⟨_,rfl,r⟩
theorem Vals.two:∀ {x y:V} {us:List Value},Vals [x,y] us->∃ u v,us=[u,v]/\RelV x u/\RelV y v:=fun h=>by cases h with | cons r t=>cases t with | cons q t=>cases t; exact ⟨_,_,rfl,r,q⟩
theorem Vals.zero:∀ {us:List Value},Vals [] us->us=[]
 | _,.nil=>rfl
theorem Vals.dropLast {xs:List V} {us:List Value} (h:Vals xs us):Vals xs.dropLast us.dropLast:=by
 induction h with
 | nil=>exact .nil
 | cons r t ih =>
  cases t with
  | nil=>exact .nil
  | cons q t'=>exact .cons r ih
theorem Vals.rep {xs:List V} {us:List Value} (h:Vals xs us):∀ k:Nat,Vals (List.replicate k xs).flatten (List.replicate k us).flatten
 | 0=>.nil
 | k+1=>by
  rw [fe,fe,hG,hG]
  exact Vals.append h (Vals.rep h k)
theorem Oj {α:Type} (l:List α):l.eraseIdx (l.length - 1)=l.dropLast:=by
 induction l with
 | nil=>rfl
 | cons a r ih =>
  cases r with
  | nil=>rfl
  | cons b r =>
   have e:(a::b::r).length - 1=((b::r).length - 1)+1:=by
    have h1:(a::b::r).length=r.length+2:=rfl
    have h2:(b::r).length=r.length+1:=rfl
    omega
   rw [e,List.eraseIdx_cons_succ,ih]
   all_goals rfl
theorem foldl_rep (its:List Value):∀ (k:Nat) (acc:List Value),
  List.foldl (fun x1 x2=>x1++x2) acc.toArray (List.replicate k its.toArray)=(acc++(List.replicate k its).flatten).toArray
 | 0,acc=>by simp
 | k+1,acc=>by
  have e:acc.toArray++its.toArray=(acc++its).toArray:=by simp
  have e2:(acc++its)++(List.replicate k its).flatten=acc++(List.replicate (k+1) its).flatten:=by
   rw [fe,hG,hU]
  rw [← e2,← foldl_rep its k (acc++its),← e,fe,List.foldl_cons]
section
variable {X:Cx} {pins:List (Addr × Obj)} {σ:St} {H:Hp} {s:Shared} {l b:Addr} {xs ys zs:List V}
theorem Inv.Y9 {its its':List Value} {n:Nat} {f:Array Value->Array Value} {t':Nat} (I:Inv X pins σ H s) (hH:H l=some (.lst xs))
  (e:s.heap.get? l=some { cls:=.type "list",data:=.seq its.toArray n }) (hf:f its.toArray=its'.toArray) (hv:Vals ys its') (hz:ys.length<=sizeLine) :
  Inv X pins σ (upd H l (.lst ys)) { s with heap:=s.heap.update l (Obj.mapSeq f),toks:=t' }:=by
 have q:=PySem.IsL.update e f
 rw [hf] at q
 refine I.write (x:=l) (e:=l) (by rw [hH]; exact trivial) (.inl rfl) (fun b' u hb hu=>(Heap.get?_update_other s.heap (Obj.mapSeq f) (Ne.symm hb)).trans hu) ⟨_,q⟩ ?_
 exact ⟨hz,its',_,hv,q⟩
theorem Inv.Uy {its:List Value} {t':Nat} (I:Inv X pins σ H s) (hv:Vals ys its) (hz:ys.length<=sizeLine) :
  Inv X pins σ (upd H s.heap.objs.size (.lst ys)) { s with heap:=s.heap.push { cls:=.type "list",data:=.seq its.toArray },toks:=t' } :=
 I.laid (fun _ _ q=>Heap.get?_push_of_some _ q) (ah _) ⟨hz,its,0,hv,Heap.get?_push_size _ rfl⟩
theorem Inv.fresh (I:Inv X pins σ H s):H s.heap.objs.size=none:=I.hok.fresh (ah _)
theorem Inv.Oh (I:Inv X pins σ H s) (hH:H l=some (.lst xs)):xs.length<=sizeLine/\∃ (its:List Value) (n:Nat),Vals xs its/\xs.length=its.length/\s.heap.get? l=some { cls:=.type "list",data:=.seq its.toArray n }:=by
 obtain ⟨z,its,n,r,e⟩:=I.hok l _ hH
 exact ⟨z,its,n,r,r.length,e⟩
theorem NK {n:Nat} (h:n<=sizeLine):Builtin.List.listTooLong n=false:=by
 unfold Builtin.List.listTooLong
 exact decide_eq_false (by omega)
end
section
variable {X:Cx}
noncomputable def WF:V->List V->Hp->VK->Prop:=fun x vs H Q=>∃ l xs y,x=.ref l/\vs=[y]/\H l=some (.lst xs)/\xs.length<sizeLine/\Q .non (upd H l (.lst (xs++[y])))
theorem Bx:jw X "list.append" WF:=by
 intro pins s σ H x vs v us Q I rx rv h
 obtain ⟨l,xs,y,rfl,rfl,hH,hz,q⟩:=h
 cases rx
 obtain ⟨u,rfl,ru⟩:=rv.one
 obtain ⟨z,its,n,r,hl,e⟩:=I.Oh hH
 refine call_meets F.slot_list_append ⟨_,e,rfl⟩ F.entry_list_append (F.args_list_append_2 _ _) (PySem.list_append l its.toArray n u (by rw [bo]; omega)) ⟨e,?_⟩
 refine ⟨.non,_,I.Y9 (its':=its++[u]) hH e (by simp) (r.append (.cons ru .nil)) ?_,rfl,q⟩
 rw [ar,ck]
 omega
noncomputable def Wi:V->List V->Hp->VK->Prop:=fun x vs H Q=>∃ l b xs zs,x=.ref l/\vs=[.ref b]/\H l=some (.lst xs)/\H b=some (.lst zs)/\xs.length+zs.length<=sizeLine/\Q .non (upd H l (.lst (xs++zs)))
theorem Ry:jw X "list.extend" Wi:=by
 intro pins s σ H x vs v us Q I rx rv h
 obtain ⟨l,b,xs,zs,rfl,rfl,hH,hB,hz,q⟩:=h
 cases rx
 obtain ⟨u,rfl,ru⟩:=rv.one
 cases ru
 obtain ⟨z,its,n,r,hl,e⟩:=I.Oh hH
 obtain ⟨z2,its2,n2,r2,hl2,e2⟩:=I.Oh hB
 have hsz:its.toArray.size+its2.toArray.size<=sizeLine:=by rw [bo,bo]; omega
 have hlong:¬ (!its.toArray.isEmpty && Builtin.List.listTooLong (its.toArray.size+its2.toArray.size))=true:=by
  rw [NK hsz,Bool.and_false]
  exact dl
 refine call_meets F.slot_list_extend ⟨_,e,rfl⟩ F.entry_list_extend (F.args_list_extend_2 _ _)
  (AutoSeq1.list_extend_list_list_0 l its.toArray n b its2.toArray n2 hlong (by rw [bo]; omega) (by omega)) ⟨e,e2,?_⟩
 refine ⟨.non,_,I.Y9 (its':=its++its2) hH e (by simp) (r.append r2) ?_,rfl,q⟩
 rw [ar]
 omega
noncomputable def iZ:V->List V->Hp->VK->Prop:=fun x vs H Q=>∃ l xs y,x=.ref l/\vs=[]/\H l=some (.lst xs)/\xs[xs.length - 1]? = some y/\Q y (upd H l (.lst xs.dropLast))
theorem O2:jw X "list.pop" iZ:=by
 intro pins s σ H x vs v us Q I rx rv h
 obtain ⟨l,xs,y,rfl,rfl,hH,hy,q⟩:=h
 cases rx
 have hus:=rv.zero
 subst hus
 obtain ⟨z,its,n,r,hl,e⟩:=I.Oh hH
 obtain ⟨u,hu,ru⟩:=r.get hy
 have hy':its.toArray[its.toArray.size - 1]? = some u:=by
  show its.toArray[its.length - 1]? = some u
  rw [← Array.getElem?_toList,← hl]
  exact hu
 refine call_meets F.slot_list_pop ⟨_,e,rfl⟩ F.entry_list_pop (F.args_list_pop_1 _) (MeetsSeq.list_pop_last l its.toArray n u hy' (by rw [bo]; omega)) ⟨e,?_⟩
 refine ⟨y,_,I.Y9 (its':=its.dropLast) hH e ?_ r.dropLast ?_,ru,q⟩
 ·show its.toArray.eraseIdxIfInBounds (its.toArray.size - 1)=its.dropLast.toArray
  rw [bo,List.eraseIdxIfInBounds_toArray,Oj]
 ·rw [kn]
  omega
noncomputable def jE:R2:=fun x y H Q=>∃ l b xs zs,x=.ref l/\y=.ref b/\H l=some (.lst xs)/\H b=some (.lst zs)/\xs.length+zs.length<=sizeLine/\∀ p,H p=none->Q (.ref p) (upd H p (.lst (xs++zs)))
theorem Hs:GF X (binaryOp .Add) jE:=by
 intro pins s σ H x y v u Q I rx ry h
 obtain ⟨l,b,xs,zs,rfl,rfl,hH,hB,hz,q⟩:=h
 cases rx
 cases ry
 obtain ⟨z,its,n,r,hl,e⟩:=I.Oh hH
 obtain ⟨z2,its2,n2,r2,hl2,e2⟩:=I.Oh hB
 refine PySem.P.add_list e e2 ?_ (by rw [bo,bo]; omega)
 have ea:its.toArray++its2.toArray=(its++its2).toArray:=by simp
 rw [ea]
 exact ⟨.ref _,_,I.Uy (t':=s.toks) (r.append r2) (by rw [ar]; omega),rfl,q _ I.fresh⟩
noncomputable def iU:R2:=fun x y H Q=>∃ l k xs,x=.ref l/\y=.int k/\H l=some (.lst xs) /\ -(2 ^ 63)<=k/\k<2 ^ 63/\xs.length * k.toNat<=sizeLine /\
 ∀ p,H p=none->Q (.ref p) (upd H p (.lst (List.replicate k.toNat xs).flatten))
theorem len_rep {α:Type} (xs:List α) (k:Nat):(List.replicate k xs).flatten.length=k * xs.length:=by
 induction k with
 | zero=>simp
 | succ k ih=>rw [fe,hG,ar,ih,Nat.succ_mul,Nat.add_comm]
theorem Yl:GF X (binaryOp .Mult) iU:=by
 intro pins s σ H x y v u Q I rx ry h
 obtain ⟨l,k,xs,rfl,rfl,hH,h1,h2,hz,q⟩:=h
 cases rx
 obtain ⟨t,rfl⟩:=ry
 obtain ⟨z,its,n,r,hl,e⟩:=I.Oh hH
 have hlen:its.toArray.size * k.toNat<=sizeLine:=by rw [bo,← hl]; exact hz
 have hcap:¬ its.toArray.size * k.toNat > (2 ^ 63 - 1) / 8:=by
  have:(sizeLine:Nat)<=(2 ^ 63 - 1) / 8:=by decide
  omega
 have hfit:¬ (!Builtin.List.listFitsIndex k)=true:=by
  rw [fitsIndex_both h1 h2]
  exact dl
 have hlong:¬ Builtin.List.listTooLong (its.toArray.size * k.toNat)=true:=by
  rw [NK hlen]
  exact dl
 have hnew:List.foldl (fun x1 x2=>x1++x2) #[] (List.replicate (if its.toArray.isEmpty=true then 0 else k.toNat) its.toArray)=(List.replicate k.toNat its).flatten.toArray:=by
  have f0:∀ m:Nat,List.foldl (fun x1 x2=>x1++x2) #[] (List.replicate m its.toArray)=(List.replicate m its).flatten.toArray:=fun m=>by
   have:=foldl_rep its m []
   rw [List.nil_append] at this
   exact this
  rw [f0]
  cases its with
  | nil=>simp
  | cons a r'=>rw [if_neg (by simp)]
 refine wpAny_binaryOp_repeat_ref (T:="list") (U:="int") (by decide) ⟨_,e,rfl⟩ (fun s'=>typeIs_int s' k t) noFill_list_mul F.fills_int_mul F.slot_int_rmul repeat_list F.slot_int_index.lookup
  (call_meets F.slot_int_rmul (typeIs_int s k t) F.entry_int_rmul (F.args_int_rmul_2 _ _) (int___rmul___int_list k t l its.toArray n)
   ⟨e,rfl,⟨_,e,rfl⟩,call_meets F.slot_list_mul ⟨_,e,rfl⟩ F.entry_list_mul (F.args_list_mul_2 _ _) (AutoListH.list___mul___list_int_3 l its.toArray n k t hfit hcap hlong) ⟨e,?_⟩⟩)
 rw [hnew]
 exact ⟨.ref _,_,I.Uy (t':=s.toks) (r.rep k.toNat) (by rw [len_rep,Nat.mul_comm]; exact hz),rfl,q _ I.fresh⟩
end
section
variable {prog:Program} {w:World} {A:Around} {E:Value->Shared->Prop} {s:Shared}
end
section
variable {X:Cx}
end
end L2
namespace Att
open PySem PySem.W PySem.Calls PyProof.Rows
theorem Iu {P:Params} {h:Heap}:∀ (ns:List Int) (vs:List Value),WellAll P h vs (ns.map WData.int)->IntsAre vs ns:=by
 intro ns
 induction ns with
 | nil =>
  intro vs w
  rw [List.map_nil] at w
  cases w
  exact .nil
 | cons n ns ih =>
  intro vs w
  rw [ee] at w
  cases w with
  | cons a b =>
   cases a
   exact .cons _ _ (ih _ b)
theorem RV {l:OpenLaw} {n:Nat} (hn:l.most=some n) {P:Params} {h:Heap} {args:List WData} {vals:List Value}
  (hpre:l.row.toRowW.claim.pre args=true) (hwl:WellAll P h vals args) :
  ∃ a vs ns,vals=[Value.ref a]/\args=[WData.list (ns.map WData.int)]/\h.get? a=some { cls:=.type "list",data:=.seq vs.toArray }/\IntsAre vs ns/\ns.length<=n:=by
 have hsh:WShape.hasAll [] args [.list .int]=true:=(pre_splitW hpre).1
 have hc:l.pre.holds [] { args:=args }=true:=(pre_splitW hpre).2
 obtain ⟨d,r,rfl,h1,h2⟩:=hasAllW_cons hsh
 obtain rfl:=hasAllW_nil h2
 obtain ⟨xs,rfl,h3⟩:=hasW_list h1
 obtain ⟨ns,rfl⟩:=items_int h3
 have hlen:ns.length<=n:=by
  unfold OpenLaw.pre at hc
  have h4:(WTm.not (.lt (.lit (.int (n:Int))) (.len (.arg 0)))).holds [] { args:=[.list (ns.map .int)] }=true:=by
   have h4:=(holds_andW hc).1
   rw [hn] at h4
   exact h4
  have h5:=condW_of h4 (w_not (w_lt w_lit (w_len_list (w_arg rfl))))
  rw [ag] at h5
  refine Nat.le_of_not_lt fun q=>?_
  have q':(n:Int)<((ns.length:Nat):Int):=by omega
  first
   | (rw [decide_eq_true q'] at h5; exact absurd h5 (by decide))
   | (simp at h5; omega)
 cases hwl with
 | cons w1 w2 =>
  cases w2
  cases w1 with
  | list ho hall=>exact ⟨_,_,ns,rfl,rfl,ho,Iu ns _ hall,hlen⟩
theorem RJ (l:OpenLaw) (args:List WData):l.row.toRowW.claim.post args (.bool true) args=true :=
 postW_of (r:=l.row.toRowW) (X:=(true == true))
  (show WShape.has [] (.bool true) .bool=true by first | rfl | decide | simp [WShape.has,WShape.arms,WShape.armsAll])
  (show (WTm.eq .res (.lit (.bool true))).value [] { args:=args,res:=some (.bool true),after:=args }=some (.bool (true == true)) from w_eq_bool (w_res rfl) w_lit) rfl
theorem My {l:OpenLaw} {n:Nat} {q:Program} {loose:List Str} {XP:(Str->Option Value)->Heap->Prop} {YP:World->Heap->Prop} {d:DefRec}
  (hn:l.most=some n) (hdf:d.params.defaults=[])
  (call:∀ (w:World) (s₀ s₁:Shared) (mg mb:Str->Option Value) (fa:Addr) (o:Obj) (pm cd doc:Value) (a:Addr) (vs:List Value) (ns:List Int),
   Ground q loose [] XP w s₀ mg mb s₁.heap->YP w s₁.heap ->
   s₁.heap.get? fa=some o->o.data=.func (docDef d.name d.params d.body d.scope pm cd doc)->s₁.heap.CodeRec cd d.name->mg d.name=some (.ref fa) ->
   s₁.heap.get? a=some { cls:=.type "list",data:=.seq vs.toArray }->IntsAre vs ns->ns.length<=n->s₁.gens = #[] ->
   codeAny (model l.prog w) callerA (.call (.ref fa) ⟨[.ref a],[]⟩) (fun r s'=>r=.ok (.ret (.bool true))/\OldK s₁.heap s'.heap/\s'.os=s₁.os/\AllBare s'.gens) s₁) :
  WalkO q loose XP YP l.row.toRowW d [] (fun f vs=>PySem.call f vs):=by
 intro w s₀ s₁ mg mb G Y fa o pm cd doc dV kV ho hd hcd hD hmg hg args vals as hpre hlay hrd hwl hlo
 obtain rfl:dV=.none:=Dflts.none hD hdf
 obtain rfl:kV=.none:=Dflts.noKw hD
 obtain ⟨a,vs,ns,rfl,rfl,hobj,hints,hlen⟩:=RV hn hpre hwl
 refine enter_call (codeAny_mono (call w s₀ s₁ mg mb fa o pm cd doc a vs ns G Y ho (fd_plain hd) hcd hmg hobj hints hlen hg) fun r s' hq=>?_)
 obtain ⟨rfl,h2,h3,h4⟩:=hq
 exact ⟨.inl ⟨.bool true,.bool true,[],rfl,fun _=>rfl,.bool true,RJ l _,fun _=>⟨List.Pairwise.nil,fun _ hm=>(nomatch hm)⟩⟩,h2,h3,h4⟩
section
variable {prog:Program} {w:World} {A:Around} {E:Value->Shared->Prop} {s:Shared} {K:Frag}
end
end Att
namespace L2
open PySem PySem.Spec PyProof.Rows
theorem K3:∀ {vs:List Value} {ns:List Int},IntsAre vs ns->Vals (ns.map V.int) vs
 | _,_,.nil=>.nil
 | _,_,.cons n t h=>.cons ⟨t,rfl⟩ (K3 h)
end L2
namespace L2
open PySem PySem.Spec PyProof.Rows
end L2
namespace L2
open PySem PySem.Spec PyProof.Rows
noncomputable def inClass (s:Stmt) (j:Nat):Stmt:=match s with
 | .ClassDef _ _ _ body _ _ _ _ _ _ _=>body.getD j (.Pass ⟨0,0,0,0⟩)
 | _=>.Pass ⟨0,0,0,0⟩
noncomputable def Ck (s:Stmt):Arguments:=match s with
 | .FunctionDef _ a _ _ _ _ _ _ _ _=>a
 | _=>{ posonlyargs:=[],args:=[],vararg:=none,kwonlyargs:=[],kw_defaults:=[],kwarg:=none,defaults:=[] }
noncomputable def Cd (s:Stmt):List Stmt:=match s with
 | .FunctionDef _ _ b _ _ _ _ _ _ _=>b
 | _=>[]
noncomputable def Ah (s:Stmt):Scope:=match s with
 | .FunctionDef _ _ _ _ _ _ sc _ _ _=>sc
 | _=>{ kind:=.function,names:=[],isGenerator:=false,isCoroutine:=false }
noncomputable abbrev Bp:QF:=fun _ _ _ _ _ _=>False
noncomputable abbrev E0:XK:=fun _ _ _=>False
theorem A_ {X:Cx}:G9 Bp X E0:=fun _ _ _ _ _ _ _ h=>h.elim
structure DX (K:PySem.W.Frag) (x qual:Str) (st:Stmt) (f:Addr) (fd:FuncData):Prop where
 ex:∃ (oc:Value) (od:Option Addr) (kV doc pm:Value) (an:Option Addr) (cdv ct:Value) (osl:Array (Option Value)),
  fd=PySem.W.fnOf x qual (Ck st) (Cd st) (Ah st) .none kV doc pm an cdv ct/\K.lookup f=some ⟨oc,od,.func fd,osl⟩/\PySem.W.codeIn K cdv qual=true
 kp:PySem.W.keepIn K (.ref f)=true
section
variable {P:Program} {w:World} {K:PySem.W.Frag} {mg:Str->Option Value} {base:Heap}
theorem DX.ok {x qual:Str} {st:Stmt} {f:Addr} {fd:FuncData} {N ps:List Str} {k:Nat} {sp:Sp} (F:DX K x qual st f fd) (S:BJ N ps (Ah st)) (len:∀ vs H Q E,sp vs H Q E->vs.length=ps.length)
  (hbody:∀ (cdv:Value) (A:Around) (outer:List Env) (s:Shared) (H:Hp) (vs:List V) (Q:VK) (E:XK),BW k (A.deeper (envOfC qual (Ah st) s.heap.objs.size f cdv))->sp vs H Q E ->
   ∃ t,QL (NQ Bp P w K mg base N qual (Ah st) f cdv A outer s H E).Zx (Cd st) t/\t { nx:=fun _ H'=>Q .non H',rt:=Q } (start N vs) H):BP P w K mg base Bp (k+1) f fd ps sp:=by
 obtain ⟨oc,od,kV,doc,pm,an,cdv,ct,osl,rfl,lk,hcd⟩:=F.ex
 refine Xo lk hcd S len fun A outer s H vs Q E hr hsp=>?_
 obtain ⟨t,h,q⟩:=hbody cdv A outer s H vs Q E hr hsp
 exact ⟨t,h.Zx,q⟩
theorem DX.binds {x qual:Str} {st:Stmt} {f:Addr} {fd:FuncData} {ps:List Str} (F:DX K x qual st f fd)
  (h:∀ (kV doc pm:Value) (an:Option Addr) (cdv ct:Value) (us:List Value),us.length=ps.length->bindArgs (PySem.W.fnOf x qual (Ck st) (Cd st) (Ah st) .none kV doc pm an cdv ct) ⟨us,[]⟩=pure (ps.zip us)):Binds K fd ps []:=by
 obtain ⟨oc,od,kV,doc,pm,an,cdv,ct,osl,rfl,lk,hcd⟩:=F.ex
 exact .all (h kV doc pm an cdv ct)
theorem Lg {x qual:Str} {st:Stmt} {f:Addr} {oc:Value} {od an:Option Addr} {osl:Array (Option Value)} {kV doc pm cdv ct:Value} (l:K.lookup f=some ⟨oc,od,.func (PySem.W.fnOf x qual (Ck st) (Cd st) (Ah st) .none kV doc pm an cdv ct),osl⟩)
  (c:PySem.W.codeIn K cdv qual=true) (k:PySem.W.keepIn K (.ref f)=true):DX K x qual st f (PySem.W.fnOf x qual (Ck st) (Cd st) (Ah st) .none kV doc pm an cdv ct):=⟨⟨oc,od,kV,doc,pm,an,cdv,ct,osl,rfl,l,c⟩,k⟩
end
theorem Su {A:Around} {k:Nat} (hr:BW k A):A.units+1<cLine:=bv (gx (by decide:1<=64) _) hr.units
theorem Az {n:Nat} (h:n<=1000):n<sizeLine:=bv h (by decide)
section
variable {X:Cx}
theorem pv (i:Nat) {x:Str} {pos:Pos} (hN:X.N[i]? = some x:=by rfl) (hv:lR X.env.scope x:=by first | exact Or.inl rfl | exact Or.inr (Or.inl rfl) | exact Or.inr (Or.inr rfl)) (hd:(x == ("__debug__" : Str))=false:=by decide)
  (hcd:(x == ("__classdict__" : Str))=false:=by decide):PE X (.Name x pos) (fO i):=Zd hN hv hd hcd
end
theorem Dm {A B:Prop} (h:B):if false=true then A else B:=by
 rw [if_neg dl]
 exact h
theorem Ey {A B:Prop} (h:A):if true=true then A else B:=by
 rw [if_pos rfl]
 exact h
theorem Df {c A B:Prop} [Decidable c] (h1:c->A) (h2:¬ c->B):if c then A else B:=by
 by_cases h:c
 ·rw [if_pos h]
  exact h1 h
 ·rw [if_neg h]
  exact h2 h
theorem Qc {c A B:Prop} [Decidable c] (hc:c) (h:B):if (!decide c)=true then A else B:=by
 rw [decide_eq_true hc]
 exact Dm h
noncomputable def Aq (H H':Hp):Prop:=∀ b o,H b=some o->H' b=some o
theorem Aq.refl (H:Hp):Aq H H:=fun _ _ h=>h
theorem Aq.trans {H H1 H2:Hp} (a:Aq H H1) (b:Aq H1 H2):Aq H H2:=fun c o h=>b c o (a c o h)
theorem Aq.free {H H':Hp} (e:Aq H H') {l:Addr} (h:H' l=Option.none):H l=Option.none:=by
 cases q:H l with
 | none=>rfl
 | some o =>
  rw [e l o q] at h
  cases h
theorem Aq.seq {K:PySem.W.Frag} {H H':Hp} {a:Addr} {xs:List V} (e:Aq H H') (h:CZ K H a xs):CZ K H' a xs:=by
 rcases h with (h | ⟨o,h⟩) | h
 ·exact .inl (.inl (e _ _ h))
 ·exact .inl (.inr ⟨o,e _ _ h⟩)
 ·exact .inr h
end L2
namespace L2
open PySem PySem.Spec PyProof.Rows
section
variable {X:Cx}
end
section
variable {κ:Type} [DecidableEq κ]
theorem Pu:∀ {l:List κ} {k:κ},l.Nodup->¬ k∈l->(l++[k]).Nodup
 | [],k,_,_=>by simp
 | a::r,k,h,hk=>by
  obtain ⟨h1,h2⟩:=fR.mp h
  show (a::(r++[k])).Nodup
  refine fR.mpr ⟨fun m=>?_,Pu h2 fun m=>hk (bi.mpr (Or.inr m))⟩
  rcases bp.mp m with q | q
  ·exact h1 q
  ·exact hk (bi.mpr (Or.inl (ai.mp q).symm))
end
end L2
namespace L2
open PySem PySem.Spec PyProof.Rows
section
variable {prog:Program} {w:World} {A:Around} {E:Value->Shared->Prop} {s:Shared}
theorem JW {it a:Addr} {i:Nat} {items:Array Value} {x:Value} {Q:Value->Shared->Prop} (j:s.heap.IsTupleIter it a i) (ht:s.heap.IsTuple a items) (hx:items[i]? = some x)
  (q:∀ h',h'.IsTupleIter it a (i+1)->Heap.SameBut it s.heap h'->Q x { s with heap:=h' }):wpAny (model prog w) A (Builtin.SmallTypes.nextOf (.ref it)) Q E s:=by
 have j0:=j
 obtain ⟨o,e,c,d⟩:=j
 obtain ⟨oa,ea,_,n,da⟩:=ht
 unfold Builtin.SmallTypes.nextOf
 refine wpAny_bind (wpAny_callSpecial?_slot (name:=Str.ofString "__next__") j0.typeIs F.slot_tuple_iterator_next (wpAny_call_entry F.slot_tuple_iterator_next j0.typeIs F.entry_tuple_iterator_next ?_ (F.args_tuple_iterator_next_1 _)))
 refine (show wpAny _ _ (field (.ref it) 0 >>= _) _ _ s from wpAny_bind (wpAny_field e d (x:=.ref a) rfl ?_))
 refine (show wpAny _ _ (if (Value.ref a == Value.none)=true then _ else _) _ _ s from ?_)
 rw [if_neg (by exact dl)]
 refine (show wpAny _ _ (field (.ref it) 1 >>= _) _ _ s from wpAny_bind (wpAny_field e d (x:=.int i 0) rfl ?_))
 refine (show wpAny _ _ (seqItems? (.ref a) >>= _) _ _ s from wpAny_bind (wpAny_seqItems ea da ?_))
 simp only [Int.toNat_natCast,hx]
 exact wpAny_bind (wpAny_setField e d (by simp) (wpAny_pure ⟨x,rfl,wpAny_pure (q _ ⟨_,Heap.get?_update_self _ e (Obj.isFreed_of_fields (Obj.data_mapFields d _)),(Obj.cls_mapFields ..).trans c,by rw [Obj.data_mapFields d]; simp [rawInt]⟩ (Heap.SameBut.update ..))⟩))
theorem Jd {it a:Addr} {i:Nat} {items:Array Value} {Q:Value->Shared->Prop} (hh:A.handled=none) (j:s.heap.IsTupleIter it a i) (ht:s.heap.IsTuple a items) (hx:items[i]? = none)
  (q:∀ h' e,Heap.ExtBut it s.heap h'->(∃ o,h'.get? e=some o/\o.cls=.type "StopIteration")->E (.ref e) { s with heap:=h' }):wpAny (model prog w) A (Builtin.SmallTypes.nextOf (.ref it)) Q E s:=by
 have j0:=j
 obtain ⟨o,e,c,d⟩:=j
 obtain ⟨oa,ea,_,n,da⟩:=ht
 unfold Builtin.SmallTypes.nextOf
 refine wpAny_bind (wpAny_callSpecial?_slot (name:=Str.ofString "__next__") j0.typeIs F.slot_tuple_iterator_next (wpAny_call_entry F.slot_tuple_iterator_next j0.typeIs F.entry_tuple_iterator_next ?_ (F.args_tuple_iterator_next_1 _)))
 refine (show wpAny _ _ (field (.ref it) 0 >>= _) _ _ s from wpAny_bind (wpAny_field e d (x:=.ref a) rfl ?_))
 refine (show wpAny _ _ (if (Value.ref a == Value.none)=true then _ else _) _ _ s from ?_)
 rw [if_neg (by exact dl)]
 refine (show wpAny _ _ (field (.ref it) 1 >>= _) _ _ s from wpAny_bind (wpAny_field e d (x:=.int i 0) rfl ?_))
 refine (show wpAny _ _ (seqItems? (.ref a) >>= _) _ _ s from wpAny_bind (wpAny_seqItems ea da ?_))
 simp only [Int.toNat_natCast,hx]
 refine wpAny_bind (wpAny_rule (wpAny_bind (wpAny_setField e d (by simp) (show wpAny _ _ (newExc (.type "StopIteration") [] >>= _) _ _ _ from wpAny_bind ?_))))
 simp only [newExc,newTuple]
 refine wpAny_bind (wpAny_newObj_type (wpAny_bind (m:=firstArgMember _ _) (wpAny_of_eq (a:=Value.none) (by first | rfl | (simp only [firstArgMember]; rfl)) (wpAny_newObj_type ?_ (by size_fits)))) (by size_fits))
 simp only [raiseNew]
 refine wpAny_bind (wpAny_handled ?_)
 first | rw [show A.in1.handled=none from hh] | rw [hh]
 exact wpAny_bind (wpAny_pure (wpAny_throw (q _ _ (((Heap.SameBut.update ..).extBut.push _).push _) ⟨_,Heap.get?_push_size _ rfl,rfl⟩)))
theorem Q6 {z TI TO i1 i2 a1 a2:Addr} {k:Nat} {xs ys:Array Value} {x y a b:Value} {Q:Value->Shared->Prop} (D:ZipApart z TI TO i1 i2 a1 a2)
  (hz:IsZip s.heap z TI TO .none) (hI:IsPair s.heap TI (.ref i1) (.ref i2)) (hO:IsPair s.heap TO a b)
  (j1:s.heap.IsTupleIter i1 a1 k) (j2:s.heap.IsTupleIter i2 a2 k) (t1:s.heap.IsTuple a1 xs) (t2:s.heap.IsTuple a2 ys) (hx:xs[k]? = some x) (hy:ys[k]? = some y)
  (q:∀ h',IsZip h' z TI TO (rawInt s.heap.objs.size)->IsPair h' TO x y->h'.IsTupleIter i1 a1 (k+1)->h'.IsTupleIter i2 a2 (k+1)->IsPair h' s.heap.objs.size x y->h'.objs.size=s.heap.objs.size+1 ->
   (∀ c o,c ≠ z->c ≠ TO->c ≠ i1->c ≠ i2->s.heap.get? c=some o->h'.get? c=some o)->Q (.ref s.heap.objs.size) { s with heap:=h' }) :
  wpAny (model prog w) A (Builtin.«zip.__next__» ⟨[.ref z],[]⟩) (fun fin s'=>∃ v,fin=.done (.ret v)/\Q v s') E s:=by
 refine (show wpAny _ _ (field (.ref z) 2 >>= _) _ _ _ from wpAny_bind (wpAny_field hz rfl (x:=.bool false) rfl (show wpAny _ _ (field (.ref z) 3 >>= _) _ _ _ from wpAny_bind (wpAny_field hz rfl (x:=.ref TI) rfl (wpAny_bind (wpAny_seqItems hI rfl ?_))))))
 refine (show wpAny _ _ (Builtin.SmallTypes.ownedTupleIsFree (.ref z) >>= _) _ _ _ from wpAny_bind ?_)
 unfold Builtin.SmallTypes.ownedTupleIsFree
 refine wpAny_bind (wpAny_field hz rfl (x:=.none) rfl (wpAny_pure ?_))
 simp only [if_true]
 refine wpAny_bind (wpAny_rule (wpAny_bind (wpAny_field hz rfl (x:=.ref TO) rfl (wpAny_bind (wpAny_setField_rec hz (by simp) fun h1 z1 s1=>?_)))))
 have y1:IsZip h1 z TI TO .ellipsis:=z1
 refine wpAny_bind ?_
 simp only [List.zipIdx_cons,List.zipIdx_nil,List.forIn_cons,List.forIn_nil]
 refine wpAny_bind (wpAny_bind (wpAny_onRaise (show wpAny _ _ (Builtin.SmallTypes.nextOf (.ref i1) >>= _) _ _ _ from wpAny_bind (JW (j1.at fun o e=>s1.extBut _ _ D.i1z e) (t1.at fun o e=>s1.extBut _ _ D.l1z e) hx fun h2 n1 s2=>wpAny_pure ?_))))
 have o2:IsPair h2 TO a b:=s2.extBut _ _ D.TOi1 (s1.extBut _ _ D.TOz hO)
 refine wpAny_bind (wpAny_seqItems o2 rfl (wpAny_bind (wpAny_updateSeq_pair o2 fun h3 p3 s3=>?_)))
 have o3:IsPair h3 TO x b:=p3
 refine wpAny_bind (wpAny_letGo (wpAny_pure ?_))
 refine wpAny_bind (wpAny_bind (wpAny_onRaise (show wpAny _ _ (Builtin.SmallTypes.nextOf (.ref i2) >>= _) _ _ _ from wpAny_bind (JW (j2.at fun o e=>s3.extBut _ _ D.TOi2.symm (s2.extBut _ _ D.i12.symm (s1.extBut _ _ D.i2z e)))
  (t2.at fun o e=>s3.extBut _ _ D.l2TO (s2.extBut _ _ D.l2i1 (s1.extBut _ _ D.l2z e))) hy fun h4 n2 s4=>wpAny_pure ?_))))
 have o4:IsPair h4 TO x b:=s4.extBut _ _ D.TOi2 o3
 refine wpAny_bind (wpAny_seqItems o4 rfl (wpAny_bind (wpAny_updateSeq_pair o4 fun h5 p5 s5=>?_)))
 have o5:IsPair h5 TO x y:=p5
 refine wpAny_bind (wpAny_letGo (wpAny_pure (wpAny_pure (wpAny_bind (wpAny_seqItems o5 rfl (wpAny_bind (wpAny_newTuple ?_)))))))
 have zs:h5.objs.size=s.heap.objs.size:=by rw [s5.1,s4.1,s3.1,s2.1,s1.1]
 have y5:IsZip h5 z TI TO .ellipsis:=s5.extBut _ _ D.TOz.symm (s4.extBut _ _ D.i2z.symm (s3.extBut _ _ D.TOz.symm (s2.extBut _ _ D.i1z.symm y1)))
 have k5:∀ c o,c ≠ z->c ≠ TO->c ≠ i1->c ≠ i2->s.heap.get? c=some o->h5.get? c=some o:=fun c o c1 c2 c3 c4 e=>s5.extBut _ _ c2 (s4.extBut _ _ c4 (s3.extBut _ _ c2 (s2.extBut _ _ c3 (s1.extBut _ _ c1 e))))
 have m1:h5.IsTupleIter i1 a1 (k+1):=n1.at fun o e=>s5.extBut _ _ D.TOi1.symm (s4.extBut _ _ D.i12 (s3.extBut _ _ D.TOi1.symm e))
 have m2:h5.IsTupleIter i2 a2 (k+1):=n2.at fun o e=>s5.extBut _ _ D.TOi2.symm e
 have lz:z<h5.objs.size:=Heap.lt_size y5
 refine (show wpAny _ _ (Builtin.SmallTypes.ownedTupleHandOut (.ref z) (.ref h5.objs.size) >>= _) _ _ _ from wpAny_bind ?_)
 unfold Builtin.SmallTypes.ownedTupleHandOut
 have y6:IsZip (h5.push { cls:=.type "tuple",data:=.seq #[x,y] }) z TI TO .ellipsis:=Heap.get?_push_of_some _ y5
 refine wpAny_bind (wpAny_setField_rec y6 (by simp) fun h7 p7 s7=>?_)
 have y7:IsZip h7 z TI TO (rawInt h5.objs.size):=p7
 refine wpAny_setField_rec y7 (by simp) fun h8 p8 s8=>?_
 have y8:IsZip h8 z TI TO (rawInt h5.objs.size):=p8
 have up:∀ c o,c ≠ z->h5.get? c=some o->h8.get? c=some o:=fun c o c1 e=>s8.extBut _ _ c1 (s7.extBut _ _ c1 (Heap.get?_push_of_some _ e))
 have t8:IsPair h8 h5.objs.size x y:=s8.extBut _ _ (fq lz) (s7.extBut _ _ (fq lz) (Heap.get?_push_size _ rfl))
 have z8:h8.objs.size=h5.objs.size+1:=by rw [s8.1,s7.1,Heap.size_push]
 rw [zs] at y8 t8 z8
 refine wpAny_pure ⟨_,rfl,?_⟩
 show Q (.ref h5.objs.size) _
 rw [zs]
 exact q h8 y8 (up _ _ D.TOz o5) (m1.at fun o e=>up _ o D.i1z e) (m2.at fun o e=>up _ o D.i2z e) t8 z8 fun c o c1 c2 c3 c4 e=>up c o c1 (k5 c o c1 c2 c3 c4 e)
theorem Sh {z TI TO i1 i2 a1 a2:Addr} {k:Nat} {xs:Array Value} {a b:Value} {Q:Fin->Shared->Prop} (hh:A.handled=none) (D:ZipApart z TI TO i1 i2 a1 a2)
  (hz:IsZip s.heap z TI TO .none) (hI:IsPair s.heap TI (.ref i1) (.ref i2)) (hO:IsPair s.heap TO a b)
  (j1:s.heap.IsTupleIter i1 a1 k) (t1:s.heap.IsTuple a1 xs) (hx:xs[k]? = none)
  (q:∀ h' e,(∀ c o,c ≠ z->c ≠ TO->c ≠ i1->c ≠ i2->s.heap.get? c=some o->h'.get? c=some o)->(∃ o,h'.get? e=some o/\o.cls=.type "StopIteration")->E (.ref e) { s with heap:=h' }) :
  wpAny (model prog w) A (Builtin.«zip.__next__» ⟨[.ref z],[]⟩) Q E s:=by
 refine (show wpAny _ _ (field (.ref z) 2 >>= _) _ _ _ from wpAny_bind (wpAny_field hz rfl (x:=.bool false) rfl (show wpAny _ _ (field (.ref z) 3 >>= _) _ _ _ from wpAny_bind (wpAny_field hz rfl (x:=.ref TI) rfl (wpAny_bind (wpAny_seqItems hI rfl ?_))))))
 refine (show wpAny _ _ (Builtin.SmallTypes.ownedTupleIsFree (.ref z) >>= _) _ _ _ from wpAny_bind ?_)
 unfold Builtin.SmallTypes.ownedTupleIsFree
 refine wpAny_bind (wpAny_field hz rfl (x:=.none) rfl (wpAny_pure ?_))
 simp only [if_true]
 refine wpAny_bind (wpAny_rule (wpAny_bind (wpAny_field hz rfl (x:=.ref TO) rfl (wpAny_bind (wpAny_setField_rec hz (by simp) fun h1 z1 s1=>?_)))))
 have y1:IsZip h1 z TI TO .ellipsis:=z1
 refine wpAny_bind ?_
 simp only [List.zipIdx_cons,List.zipIdx_nil,List.forIn_cons,List.forIn_nil]
 refine wpAny_bind (wpAny_bind (wpAny_onRaise (show wpAny _ _ (Builtin.SmallTypes.nextOf (.ref i1) >>= _) _ _ _ from wpAny_bind (Jd hh (j1.at fun o e=>s1.extBut _ _ D.i1z e) (t1.at fun o e=>s1.extBut _ _ D.l1z e) hx fun h2 x s2 hx2=>?_))))
 obtain ⟨ox,ex,cx⟩:=hx2
 have y2:IsZip h2 z TI TO .ellipsis:=s2 _ _ D.i1z.symm y1
 have nz:x ≠ z:=fun u=>by subst u; rw [y2] at ex; cases ex; simp at cx
 exact wpAny_setField_rec y2 (by simp) fun h3 _ s3=>q h3 x (fun c o c1 _ c3 _ e=>s3.extBut _ _ c1 (s2 _ _ c3 (s1.extBut _ _ c1 e))) ⟨ox,s3.extBut _ _ nz ex,cx⟩
end
noncomputable abbrev gY (h:Heap) (a1:Addr):Heap:=h.push { cls:=.type "tuple_iterator",data:=.fields #[.ref a1,.int 0 0] }
noncomputable abbrev gZ (h:Heap) (a1 a2:Addr):Heap:=(gY h a1).push { cls:=.type "tuple_iterator",data:=.fields #[.ref a2,.int 0 0] }
noncomputable abbrev gr (h:Heap) (a1 a2:Addr):Heap:=(gZ h a1 a2).push { cls:=.type "tuple",data:=.seq #[.ref h.objs.size,.ref (gY h a1).objs.size] }
noncomputable abbrev iD (h:Heap) (a1 a2:Addr):Heap:=(gr h a1 a2).push { cls:=.type "tuple",data:=.seq #[.none,.none] }
noncomputable abbrev ZG (h:Heap) (a1 a2:Addr):Heap:=(iD h a1 a2).push { cls:=.type "zip",data:=.fields #[.none,.bool false,.bool false,.ref (gZ h a1 a2).objs.size,.ref (gr h a1 a2).objs.size] }
theorem Vk (a1 a2:Addr) (xs ys:Array Value):Meets (Builtin.«zip.__new__» ⟨[.type "zip",.ref a1,.ref a2],[]⟩) (fun _ R s=>s.heap.IsTuple a1 xs/\s.heap.IsTuple a2 ys /\
   R (.ok (.ret (.ref (iD s.heap a1 a2).objs.size))) { s with heap:=ZG s.heap a1 a2 }) :=
 .of_wp fun prog w A R s h=>by
  obtain ⟨hp,g,d,tk,os⟩:=s
  obtain ⟨t1,t2,h⟩:=h
  have hsub:=sub_zip
  have u1:Heap.IsTuple (Shared.heap ⟨hp,g,d,tk,os⟩) a1 xs:=t1
  have u2:Heap.IsTuple (Shared.heap ⟨hp.push { cls:=.type "tuple_iterator",data:=.fields #[.ref a1,.int 0 0] },g,d,tk,os⟩) a2 ys:=Heap.IsTuple.at t2 fun o e=>Heap.get?_push_of_some _ e
  wp_walk using wpAny_pyIter_tuple u1,wpAny_pyIter_tuple u2
  exact ⟨_,rfl,h⟩
section
variable {prog:Program} {w:World} {A:Around} {E:Value->Shared->Prop} {s:Shared}
theorem RD {a1 a2:Addr} {xs ys:Array Value} {Q:Value->Shared->Prop} (t1:s.heap.IsTuple a1 xs) (t2:s.heap.IsTuple a2 ys)
  (q:∀ h' n,n=s.heap.objs.size->IsZip h' (n+4) (n+2) (n+3) .none->IsPair h' (n+2) (.ref n) (.ref (n+1))->IsPair h' (n+3) .none .none->h'.IsTupleIter n a1 0->h'.IsTupleIter (n+1) a2 0->h'.objs.size=n+5 ->
   (∀ c o,s.heap.get? c=some o->h'.get? c=some o)->Q (.ref (n+4)) { s with heap:=h' }):wpAny (model prog w) A (call (.type "zip") [.ref a1,.ref a2]) Q E s:=by
 refine callType_new F.called_zip (by decide) (F.typeCall_zip_2 _ _) (F.newCall_zip_2 _ _) (fun obj=>F.args_object_init_3 obj _ _) F.entry_zip_new (Vk a1 a2 xs ys) ⟨t1,t2,?_⟩
 have z1:(gY s.heap a1).objs.size=s.heap.objs.size+1:=Heap.size_push ..
 have z2:(gZ s.heap a1 a2).objs.size=s.heap.objs.size+2:=by rw [Heap.size_push,z1]
 have z3:(gr s.heap a1 a2).objs.size=s.heap.objs.size+3:=by rw [Heap.size_push,z2]
 have z4:(iD s.heap a1 a2).objs.size=s.heap.objs.size+4:=by rw [Heap.size_push,z3]
 have z5:(ZG s.heap a1 a2).objs.size=s.heap.objs.size+5:=by rw [Heap.size_push,z4]
 have g5:(ZG s.heap a1 a2).get? (iD s.heap a1 a2).objs.size=some _:=Heap.get?_push_size _ rfl
 have g4:(ZG s.heap a1 a2).get? (gr s.heap a1 a2).objs.size=some _:=Heap.get?_push_of_some _ (Heap.get?_push_size _ rfl)
 have g3:(ZG s.heap a1 a2).get? (gZ s.heap a1 a2).objs.size=some _:=Heap.get?_push_of_some _ (Heap.get?_push_of_some _ (Heap.get?_push_size _ rfl))
 have g2:(ZG s.heap a1 a2).get? (gY s.heap a1).objs.size=some _:=Heap.get?_push_of_some _ (Heap.get?_push_of_some _ (Heap.get?_push_of_some _ (Heap.get?_push_size _ rfl)))
 have g1:(ZG s.heap a1 a2).get? s.heap.objs.size=some _:=Heap.get?_push_of_some _ (Heap.get?_push_of_some _ (Heap.get?_push_of_some _ (Heap.get?_push_of_some _ (Heap.get?_push_size _ rfl))))
 refine (show _/\_ from ?_)
 rw [z2,z3,z4] at g5
 rw [z1,z2] at g3
 rw [z3] at g4
 rw [z1] at g2
 rw [z4]
 exact ⟨⟨_,g5,rfl⟩,q _ _ rfl g5 g3 g4 ⟨_,g1,rfl,rfl⟩ ⟨_,g2,rfl,rfl⟩ z5 fun c o e=>Heap.get?_push_of_some _ (Heap.get?_push_of_some _ (Heap.get?_push_of_some _ (Heap.get?_push_of_some _ (Heap.get?_push_of_some _ e))))⟩
end
end L2
namespace L2
open PySem PySem.Spec PyProof.Rows
noncomputable def CT (env:Env):List (Str × NameKind)->List (Str × Addr)->List (Str × Addr)
 | [],acc=>acc
 | (n,k)::r,acc=>if k == .free then (match env.cells.lookup n with | some a=>CT env r ((n,a)::acc) | none=>CT env r acc) else CT env r acc
theorem Es {scope:Scope} {env:Env} (h:∀ y∈scope.names,y.2=.free->∃ c,env.cells.lookup y.1=some c):closureFor scope env=pure (CT env scope.names []):=by
 unfold closureFor
 have key:∀ (l:List (Str × NameKind)) (acc:List (Str × Addr)),(∀ y∈l,y.2=.free->∃ c,env.cells.lookup y.1=some c) ->
   (forIn l acc fun (x:Str × NameKind) (cs:List (Str × Addr))=>(match x with | (name,kind)=>if (kind == NameKind.free)=true then (do let a ← cellOf env name; pure (ForInStep.yield ((name,a)::cs))) else pure (ForInStep.yield cs):Sem (ForInStep (List (Str × Addr)))))=(pure (CT env l acc):Sem _):=by
  intro l
  induction l with
  | nil=>intro acc _; rfl
  | cons x r ih =>
   intro acc hl
   obtain ⟨n,k⟩:=x
   rw [List.forIn_cons]
   unfold CT
   by_cases hk:(k == NameKind.free)=true
   ·obtain ⟨c,hc⟩:=hl (n,k) List.mem_cons_self (by simpa using hk)
    have hc':env.cells.lookup n=some c:=hc
    have e:cellOf env n=pure c:=by unfold cellOf; rw [hc']
    simp only [hk,if_true,e,hc']
    exact ih _ fun y hy=>hl y (av _ hy)
   ·simp only [hk]
    exact ih _ fun y hy=>hl y (av _ hy)
 have:=key scope.names [] h
 exact (congrArg (fun (m:Sem (List (Str × Addr)))=>m >>= fun z=>pure z) this).trans rfl
theorem Eo (env:Env):∀ (l:List (Str × NameKind)) (acc:List (Str × Addr)) (y:Str) (c:Addr),(CT env l acc).lookup y=some c->acc.lookup y=some c \/ env.cells.lookup y=some c
 | [],_,_,_,h=>.inl h
 | (n,k)::r,acc,y,c,h=>by
  unfold CT at h
  split at h
  ·split at h
   ·rename_i a ha
    rcases Eo env r _ y c h with z | z
    ·rw [gI] at z
     split at z
     ·rename_i e
      cases z
      have e':y=n:=by simpa using e
      subst e'
      exact .inr ha
     ·exact .inl z
    ·exact .inr z
   ·exact Eo env r _ y c h
  ·exact Eo env r _ y c h
theorem Gk (env:Env):∀ (l:List (Str × NameKind)) (acc:List (Str × Addr)) (y:Str),(acc.lookup y).isSome=true->((CT env l acc).lookup y).isSome=true
 | [],_,_,h=>h
 | (n,k)::r,acc,y,h=>by
  unfold CT
  split
  ·split
   ·refine Gk env r _ y ?_
    rw [gI]
    split
    ·rfl
    ·exact h
   ·exact Gk env r _ y h
  ·exact Gk env r _ y h
theorem DK (env:Env):∀ (l:List (Str × NameKind)) (acc:List (Str × Addr)) (y:Str),(y,NameKind.free)∈l->(env.cells.lookup y).isSome=true->((CT env l acc).lookup y).isSome=true
 | [],_,_,h,_=>nomatch h
 | (n,k)::r,acc,y,h,hc=>by
  unfold CT
  rcases bi.mp h with e | h
  ·obtain ⟨e1,e2⟩:=Prod.mk.inj e
   subst e1
   subst e2
   rw [if_pos (by decide)]
   split
   ·refine Gk env r _ y ?_
    rw [gI]
    simp
   ·rename_i e
    rw [e] at hc
    cases hc
  ·split
   ·split
    ·exact DK env r _ y h hc
    ·exact DK env r _ y h hc
   ·exact DK env r _ y h hc
end L2
namespace L2
open PySem PySem.Spec PyProof.Rows
noncomputable def G3 (x:Str) (N:List Str):List Str:=N.map fun y=>if y=x then "" else y
noncomputable def CJ (X:Cx) (x:Str) (scope:Scope) (C:Addr) (s₀:Shared) (H₀:Hp) (fp:List Addr):Cx where
 prog:=X.prog
 w:=X.w
 K:=X.K
 mg:=X.mg
 base:=X.base
 A:=X.A
 N:=x::G3 x X.N
 s₀:=s₀
 H₀:=H₀
 env:=compEnvC scope (CT X.env scope.names []) C X.env
 outer:=X.stack
 stack:=X.stack
 ex:=fp
 fn:=fun _=>false
 calm:=X.calm
 pn:=[]
 xe:=fun _ _=>False
theorem Dw (env:Env) (y:Str):∀ names:List (Str × NameKind),
  (names.map fun (n,k)=>if (k == NameKind.free && env.scope.kind == .function && env.kindOf n == some .cell) then (n,NameKind.cell) else (n,k)).lookup y =
   (names.lookup y).map fun k=>if (k == NameKind.free && env.scope.kind == .function && env.kindOf y == some .cell) then NameKind.cell else k
 | []=>rfl
 | (n,k)::r=>by
  have ih:=Dw env y r
  rw [ee]
  show List.lookup y ((if (k == NameKind.free && env.scope.kind == .function && env.kindOf n == some .cell)=true then (n,NameKind.cell) else (n,k))::_)=_
  have e0:(if (k == NameKind.free && env.scope.kind == .function && env.kindOf n == some .cell)=true then (n,NameKind.cell) else (n,k))=(n,if (k == NameKind.free && env.scope.kind == .function && env.kindOf n == some .cell)=true then NameKind.cell else k):=by split <;> rfl
  rw [e0,gI,gI]
  cases hx:y == n with
  | true =>
   have e:y=n:=by simpa using hx
   subst e
   rfl
  | false=>exact ih
structure Fd (X:Cx) (x:Str) (scope:Scope):Prop where
 kind:scope.kind=.function
 nocell:∀ y∈scope.names,y.2 ≠ .cell
 names:∀ y∈scope.names,y.2=.local->scope.names.lookup y.1=some .local
 loc:scope.names.lookup x=some .local
 free:∀ y∈scope.names,y.2=.free->X.env.kindOf y.1=some .cell \/ X.env.kindOf y.1=some .free
 nd:(x::G3 x X.N).Nodup
 only:∀ y∈G3 x X.N,scope.names.lookup y ≠ some .local
 noE:scope.names.lookup ("" : Str)=none
section
variable {X:Cx} {pins:List (Addr × Obj)} {σ:St} {H:Hp} {s:Shared} {x:Str} {scope:Scope} {fp:List Addr} {C:Addr}
theorem N8 {h':Heap} {tk:Nat} {m:Str->Option Value} (I:Inv X pins σ H s) (S:Fd X x scope) (hf:∀ b∈fp,Ek X pins H b) (hlt:∀ b∈fp,b<s.heap.objs.size) (hC:s.heap.objs.size<=C) (hn:h'.Ns C m)
  (hk:∀ b o,s.heap.get? b=some o->h'.get? b=some o):Inv (CJ X x scope C s H fp) [] (none::σ) H { s with heap:=h',toks:=tk }:=by
 have cl:∀ y c,(CT X.env scope.names []).lookup y=some c->X.env.cells.lookup y=some c:=fun y c e=>by
  rcases Eo X.env scope.names [] y c e with z | z
  ·cases z
  ·exact z
 have cellK:∀ c v,s.heap.IsCell c v->h'.IsCell c v:=fun c v ⟨o,ho,hd⟩=>⟨o,hk c o ho,hd⟩
 have look:∀ y,(CJ X x scope C s H fp).env.scope.names.lookup y=(scope.names.lookup y).map fun k=>if (k == NameKind.free && X.env.scope.kind == .function && X.env.kindOf y == some .cell) then NameKind.cell else k:=fun y=>Dw X.env y scope.names
 refine ⟨⟨I.ok.mod,S.kind,I.ok.glob,I.ok.blt,hC,fun y z c e1 e2=>I.ok.inj y z c (cl y c e1) (cl z c e2),fun y hy=>?_,fun y c e _=>(by cases e),fun h=>I.ok.hd h,I.ok.frames,.inl rfl,fun b hb=>?_,I.bs,br I.ok.bsz I.sz,fun b o e hb=>?_,fun b hb hb'=>?_,I.stack,I.I_⟩,
  rfl,I.bare,Un.kept hk,⟨m,hn,fun i y v h1 h2 h3=>?_⟩,fun y c e=>?_,I.hok.fresh hC,fun y c e=>I.freeC y c (cl y c e),fun p hp=>absurd (show p∈([]:List (Addr × Obj)) from hp) (by simp),I.hok.kept hk,?_⟩
 ·-- every cell of the block is there
  have hy':(CJ X x scope C s H fp).env.scope.names.lookup y=some .cell \/ (CJ X x scope C s H fp).env.scope.names.lookup y=some .free:=hy
  rw [look y] at hy'
  cases e:scope.names.lookup y with
  | none=>rw [e] at hy'; rcases hy' with z | z <;> cases z
  | some k =>
   have hm:=PySem.mem_of_lookup e
   have hfree:k=.free:=by
    rw [e] at hy'
    cases k with
    | free=>rfl
    | cell=>exact absurd rfl (S.nocell _ hm)
    | _=>rcases hy' with z | z <;> simp at z
   subst hfree
   obtain ⟨c,hc⟩:=I.ok.has y (S.free _ hm rfl)
   exact dL.mp (DK X.env scope.names [] y hm (by rw [hc]; rfl))
 ·obtain ⟨f0,f1,f2,f3,f4,f5⟩:=hf b hb
  exact ⟨aS (ay (hlt b hb) hC),fun y c e=>f4 y c (cl y c e)⟩
 ·obtain ⟨f0,f1,f2,f3,f4,f5⟩:=hf b hb
  rcases f3 with z | z
  ·exact I.ok.noex b o e z
  ·exact absurd (ay (Heap.lt_size e) (br I.ok.bsz z)) (ed _)
 ·obtain ⟨f0,f1,f2,f3,f4,f5⟩:=hf b hb
  rcases bi.mp (I.JN b hb') with e | e
  ·exact f1 e
  ·exact f2 e
 ·cases i with
  | zero =>
   have h2':(some none:Option (Option V))=some (some v):=h2
   cases h2'
  | succ i =>
   have h1':(G3 x X.N)[i]? = some y:=h1
   have h2':σ[i]? = some (some v):=h2
   have hmem:y∈G3 x X.N:=aI h1'
   unfold G3 at h1'
   rw [ax] at h1'
   cases e0:X.N[i]? with
   | none=>rw [e0] at h1'; cases h1'
   | some y0 =>
    rw [e0] at h1'
    have h1'':(if y0=x then ("" : Str) else y0)=y:=Option.some.inj h1'
    have h3':(CJ X x scope C s H fp).env.scope.names.lookup y=some .local \/ (CJ X x scope C s H fp).env.scope.names.lookup y=some .cell \/ (CJ X x scope C s H fp).env.scope.names.lookup y=some .free:=h3
    rw [look y] at h3'
    have hy0:y0=y:=by
     by_cases q:y0=x
     ·rw [if_pos q] at h1''
      rw [← h1'',S.noE] at h3'
      rcases h3' with z | z | z <;> cases z
     ·rw [if_neg q] at h1''
      exact h1''
    subst hy0
    cases e:scope.names.lookup y0 with
    | none=>rw [e] at h3'; rcases h3' with z | z | z <;> cases z
    | some k =>
     have hm:=PySem.mem_of_lookup e
     have hfree:k=.free:=by
      rw [e] at h3'
      cases k with
      | free=>rfl
      | cell=>exact absurd rfl (S.nocell _ hm)
      | «local»=>exact absurd e (S.only y0 hmem)
      | _=>rcases h3' with z | z | z <;> simp at z
     subst hfree
     have kd:=S.free _ hm rfl
     obtain ⟨m0,hn0,hl0⟩:=I.loc
     obtain ⟨u,r,l⟩:=hl0 i y0 v e0 h2' (by rcases kd with z | z; exact .inr (.inl z); exact .inr (.inr z))
     refine ⟨u,r,.inr ⟨?_,?_⟩⟩
     ·have hk':(CJ X x scope C s H fp).env.scope.names.lookup y0=some (if (NameKind.free == NameKind.free && X.env.scope.kind == .function && X.env.kindOf y0 == some .cell) then NameKind.cell else NameKind.free):=by
       rw [look y0,e]; rfl
      by_cases c:(NameKind.free == NameKind.free && X.env.scope.kind == .function && X.env.kindOf y0 == some .cell)=true
      ·rw [if_pos c] at hk'; exact .inl hk'
      ·rw [if_neg c] at hk'; exact .inr hk'
     ·rcases l with ⟨lk,_⟩ | ⟨_,c,hc,hcell⟩
      ·exfalso
       rcases kd with z | z <;> (rw [show X.env.kindOf y0=some NameKind.local from lk] at z; cases z)
      ·obtain ⟨c',hc'⟩:=dL.mp (DK X.env scope.names [] y0 hm (by rw [hc]; rfl))
       have:=cl y0 c' hc'
       rw [hc] at this
       cases this
       exact ⟨c,hc',cellK c _ hcell⟩
 ·obtain ⟨v,z⟩:=I.cell y c (cl y c e)
  exact ⟨v,cellK c v z⟩
 ·show (none::σ).length=(x::G3 x X.N).length
  simp [G3,I.len]
end
noncomputable def Ik (X:Cx) (ifs:List Expr) (t:TT):Prop :=
 ∀ (pins:List (Addr × Obj)) (s:Shared) (σ:St) (H:Hp) (Q:Bool->Hp->Prop),Inv X pins σ H s->t σ H Q ->
  wpAny (model X.prog X.w) X.A (forIn ifs true fun c r=>if r=true then do let ok ← isTrue c X.env (eval c X.env); pure (ForInStep.yield ok) else pure (ForInStep.yield r)) (TP X pins σ Q) X.xe s
noncomputable def V5:TT:=fun _ H Q=>Q true H
theorem B_ {X:Cx}:Ik X [] V5:=fun _ _ _ H _ I h=>wpAny_tests_nil ⟨H,I,h⟩
theorem Lw {X:Cx} {c:Expr} {t:TT} (h:PT X c t):Ik X [c] t:=fun pins s σ H Q I q=>wpAny_tests_one (h pins s σ H Q I q)
noncomputable def D_ (J:It) (σ:St) (H1:Hp) (Q:VK) (tt:TT) (te:TE):Prop:=∀ D,H1 D=none->∃ W:Nat->Nat->List V->Hp->Prop,(∃ m,W 0 m [] (upd H1 D (.lst [])))/\∀ i m ys H2,W i m ys H2 ->
 (J.stop i H2/\Q (.ref D) H2) \/ (J.go i H2/\∀ x H3,J.yld i H2 x H3->tt (some x::σ) H3 fun b H4 =>
  if b=true then te (some x::σ) H4 fun y H5=>H5 D=some (.lst ys)/\ys.length<sizeLine/\∃ m',m'<m/\W (i+1) m' (ys++[y]) (upd H5 D (.lst (ys++[y])))
  else ∃ m',m'<m/\W (i+1) m' ys H4)
noncomputable def YD (wi:TI) (tt:TT) (te:TE):TE:=fun σ H Q=>wi σ H fun J H1=>D_ J σ H1 Q tt te
theorem JR {α:Type} {t:Sem α} {Q Q':α->Shared->Prop} {M:Model} {A:Around} {E:Value->Shared->Prop} {s:Shared} (h:wpAny M A t Q (fun _ _=>False) s) (hQ:∀ a s,Q a s->Q' a s):wpAny M A t Q' E s:=wpAny_mono h hQ fun _ _ x=>x.elim
theorem Inv.sameBut {X:Cx} {pins:List (Addr × Obj)} {σ:St} {H:Hp} {s:Shared} {h':Heap} {C:Addr} (I:Inv X pins σ H s) (f:Ek X pins H C) (sb:Heap.SameBut C s.heap h'):Inv X pins σ H { s with heap:=h' } :=
 I.turned (t':=s.toks) (fun b o hb e=>(sb.2 b hb).trans e) f.1 f.2.1 f.2.2.2.1 f.2.2.2.2.1 f.2.2.2.2.2
section
variable {X:Cx} {x:Str} {scope:Scope}
theorem JP {px pos:Pos} {iter elt:Expr} {ifs:List Expr} {tt:TT} {te:TE} {pins:List (Addr × Obj)} {σ:St} {s2:Shared} {H2:Hp} {it:Addr} {fp:List Addr} {tn:Nat->Heap->Prop} {J:It} {E:Value->Shared->Prop}
  {RR:Value->Addr->Result->Shared->Prop} {Q:VK}
  (hc:X.calm=true) (S:Fd X x scope) (ht:∀ C s₀ H₀ fp,Ik (CJ X x scope C s₀ H₀ fp) ifs tt) (he:∀ C s₀ H₀ fp,PE (CJ X x scope C s₀ H₀ fp) elt te)
  (I2:Inv X pins σ H2 s2) (T:Turn X.prog X.w X.K (.Name x px) J fp it tn) (st2:tn 0 s2.heap) (f2:∀ b∈fp,Ek X pins H2 b)
  (q:∀ D,H2 D=none->∃ W:Nat->Nat->List V->Hp->Prop,(∃ m,W 0 m [] (upd H2 D (.lst [])))/\∀ i m ys H2,W i m ys H2 ->
   (J.stop i H2/\Q (.ref D) H2) \/ (J.go i H2/\∀ x H3,J.yld i H2 x H3->tt (some x::σ) H3 fun b H4 =>
    if b=true then te (some x::σ) H4 fun y H5=>H5 D=some (.lst ys)/\ys.length<sizeLine/\∃ m',m'<m/\W (i+1) m' (ys++[y]) (upd H5 D (.lst (ys++[y])))
    else ∃ m',m'<m/\W (i+1) m' ys H4))
  (hRR:∀ D C s' H' m,s'.heap.Ns C m->Ek X pins H' C->Inv X pins σ H' s'->Q (.ref D) H'->RR (.ref D) C (.ok .next) s') :
  wpAny (model X.prog X.w) X.A (newList []) (fun acc s₃=>wpAny (model X.prog X.w) X.A (newFunctionEnv scope X.env.globals (CT X.env scope.names []) [] X.env.qual none .none (some X.env)) (fun cenv s₄ =>
   codeAny (model X.prog X.w) X.A (.compStart (.ListComp elt [⟨.Name x px,iter,ifs,0⟩] scope pos) 0 (.ref it) acc { cenv with scope:=relabel scope X.env }) (RR acc cenv.locals) s₄) E s₃) E s2:=by
 refine wpAny_newObj_type (wpAny_newFunctionEnv S.nocell (by intro y hy; simp at hy) (fun h₁ hns₁ hsb₁=>?_) S.kind)
 have I3:=I2.Uy (its:=[]) (ys:=[]) (t':=s2.toks) .nil (cm _)
 have hD0:H2 s2.heap.objs.size=none:=I2.fresh
 obtain ⟨W,⟨m0,w0⟩,turn⟩:=q _ hD0
 generalize hs3:({ s2 with heap:=s2.heap.push { cls:=.type "list",data:=.seq ([]:List Value).toArray },toks:=s2.toks }:Shared)=s3 at I3
 have e3:s3.heap=s2.heap.push { cls:=.type "list",data:=.seq ([]:List Value).toArray }:=by rw [← hs3]
 have hlt:∀ b∈fp,b<s2.heap.objs.size:=fun b hb=>let ⟨_,e,_⟩:=T.obj _ _ st2 b hb; Heap.lt_size e
 have hlt3:∀ b∈fp,b<s3.heap.objs.size:=fun b hb=>by rw [e3,Heap.size_push]; exact fm (hlt b hb)
 have f3:∀ b∈fp,Ek X pins (upd H2 s2.heap.objs.size (.lst [])) b:=fun b hb=>⟨by rw [Am (aS (hlt b hb))]; exact (f2 b hb).1,(f2 b hb).2⟩
 have hk1:∀ b o,s3.heap.get? b=some o->h₁.get? b=some o:=fun b o e=>by
  have hne:b ≠ s3.heap.objs.size:=aS (Heap.lt_size e)
  rw [e3] at e hne
  exact hsb₁.extBut b o hne (Heap.get?_push_of_some _ e)
 have hC:s3.heap.objs.size=(s2.heap.push { cls:=.type "list",data:=.seq ([]:List Value).toArray }).objs.size:=by rw [e3]
 have hns:h₁.Ns s3.heap.objs.size (fun x=>([]:List (Str × Value)).reverse.lookup x):=by rw [hC]; exact hns₁
 have st3:tn 0 h₁:=T.keep _ _ _ st2 fun b hb o e=>hk1 b o (by rw [e3]; exact Heap.get?_push_of_some _ e)
 have hDC:s2.heap.objs.size ≠ s3.heap.objs.size:=by rw [e3,Heap.size_push]; exact aS (gz _)
 have start:∀ tk,Inv (CJ X x scope s3.heap.objs.size s3 (upd H2 s2.heap.objs.size (.lst [])) fp) [] (none::σ) (upd H2 s2.heap.objs.size (.lst [])) { s3 with heap:=h₁,toks:=tk }:=fun tk =>
  N8 I3 S f3 hlt3 (ah _) hns hk1
 generalize hX:CJ X x scope s3.heap.objs.size s3 (upd H2 s2.heap.objs.size (.lst [])) fp=X' at start
 have eA:X'.A=X.A:=by rw [← hX]; rfl
 have eP:X'.prog=X.prog:=by rw [← hX]; rfl
 have eW:X'.w=X.w:=by rw [← hX]; rfl
 have eK:X'.K=X.K:=by rw [← hX]; rfl
 have eC:X'.env.locals=s3.heap.objs.size:=by rw [← hX]; rfl
 have loop:∀ tk,codeAny (model X.prog X.w) X.A (.compLoop (.ListComp elt [⟨.Name x px,iter,ifs,0⟩] scope pos) 0 (.ref it) (.ref s2.heap.objs.size) (compEnvC scope (CT X.env scope.names []) s3.heap.objs.size X.env))
   (RR (.ref s2.heap.objs.size) s3.heap.objs.size) { s3 with heap:=h₁,toks:=tk }:=by
  intro tk
  subst hX
  refine codeAny_compLoop_tests (fun n s'=>∃ i ys v0 H',Inv (CJ X x scope s3.heap.objs.size s3 (upd H2 s2.heap.objs.size (.lst [])) fp) [] (v0::σ) H' s'/\tn i s'.heap/\(∀ b∈fp,H' b=none)/\W i n ys H') ?_ m0
   ⟨0,[],none,_,start tk,st3,fun b hb=>(f3 b hb).1,w0⟩
  rintro n s4 ⟨i,ys,v0,H4,I4,st4,fr4,w4⟩
  have stat:∀ {H':Hp},(∀ b∈fp,H' b=none)->∀ b∈fp,Ek (CJ X x scope s3.heap.objs.size s3 (upd H2 s2.heap.objs.size (.lst [])) fp) [] H' b:=fun hn b hb=>by
   refine ⟨hn b hb,(I4.ok.exf b hb).1,I4.ok.exfs b hb,.inl hb,(I4.ok.exf b hb).2,fun p hp=>absurd (show p∈([]:List (Addr × Obj)) from hp) (by simp)⟩
  rcases turn i n ys H4 w4 with ⟨stop,qn⟩ | ⟨go,step⟩
  ·refine Bq (T.done (CJ X x scope s3.heap.objs.size s3 (upd H2 s2.heap.objs.size (.lst [])) fp) rfl rfl rfl hc i [] s4 (v0::σ) H4 _ I4 (stat fr4) st4 stop) fun r s5 ⟨hr,I5⟩=>?_
   subst hr
   obtain ⟨m,hn,_⟩:=I5.loc
   refine hRR _ _ s5 H4 m hn (I3.JL (ah _) I5.free) (I3.call' (s':=s5) (ch:=fp) I5.os I5.base I5.hok I5.bare (fun b hb=>?_)) qn
   obtain ⟨_,g1,_,g3,g4,g5⟩:=f3 b hb
   exact ⟨g3,g1,g4,g5⟩
  ·refine Bq (T.item (CJ X x scope s3.heap.objs.size s3 (upd H2 s2.heap.objs.size (.lst [])) fp) rfl rfl rfl hc i [] s4 (v0::σ) H4 _ I4 (stat fr4) st4 go) fun r s5 ⟨u,hr,h5⟩=>?_
   subst hr
   intro Γ p hΓ
   obtain ⟨xv,H6,I6,r6,y6,st6,fr6⟩:=h5 Γ p hΓ
   refine (?_:wpAny _ _ _ _ _ _) Γ p hΓ
   have I6':=I6.pinned (stat fr6) (T.obj _ _ st6)
   have hloc:(CJ X x scope s3.heap.objs.size s3 (upd H2 s2.heap.objs.size (.lst [])) fp).env.scope.names.lookup x=some .local:=lookup_relabel_local S.loc
   have again:∀ {s7:Shared} {H7:Hp} {ys':List V},Inv (CJ X x scope s3.heap.objs.size s3 (upd H2 s2.heap.objs.size (.lst [])) fp) ([]++G6 fp s5.heap) (some xv::σ) H7 s7->(∃ m',m'<n/\W (i+1) m' ys' H7) ->
     ∃ m,m<n/\∃ i ys v0 H',Inv (CJ X x scope s3.heap.objs.size s3 (upd H2 s2.heap.objs.size (.lst [])) fp) [] (v0::σ) H' s7/\tn i s7.heap/\(∀ b∈fp,H' b=none)/\W i m ys H':=fun {s7 H7 ys'} I7 hw=>by
    obtain ⟨m',hm,w7⟩:=hw
    refine ⟨m',hm,i+1,ys',some xv,H7,I7.FT,T.keep _ _ _ st6 fun b hb o e=>(I7.pin (b,o) (aT _ (aT _ (Cy hb e)))).1,fun b hb=>?_,w7⟩
    obtain ⟨o,e,d⟩:=T.obj _ _ st6 b hb
    exact (I7.pin (b,o) (aT _ (aT _ (Cy hb e)))).2.1
   refine wpAny_assign_Name (J3 (X:=CJ X x scope s3.heap.objs.size s3 (upd H2 s2.heap.objs.size (.lst [])) fp) (i:=0) I6' S.nd rfl (.inl hloc) r6 (fun s7 I7=>?_) (.inr hloc))
   refine JR (ht _ _ _ _ _ s7 (some xv::σ) H6 _ I7 (step xv H6 y6)) fun b s8 hq0=>?_
   obtain ⟨H8,I8,q8⟩:=hq0
   cases b with
   | false =>
    rw [if_neg dl] at q8 ⊢
    exact again I8 q8
   | true =>
    rw [if_pos rfl] at q8 ⊢
    refine JR (he _ _ _ _ _ s8 (some xv::σ) H8 _ I8 q8) fun y s9 hq0=>?_
    obtain ⟨yv,H9,I9,r9,hD9,hz9,q9⟩:=hq0
    refine JR (Bx (X:=CJ X x scope s3.heap.objs.size s3 (upd H2 s2.heap.objs.size (.lst [])) fp) _ s9 (some xv::σ) H9 (.ref s2.heap.objs.size) [yv] (.ref s2.heap.objs.size) [y] (fun _ H'=>H'=upd H9 s2.heap.objs.size (.lst (ys++[yv]))) I9 rfl (.cons r9 .nil)
     ⟨_,ys,yv,rfl,rfl,hD9,hz9,rfl⟩) fun _ s10 ⟨_,H10,I10,_,e10⟩=>?_
    subst e10
    exact again I10 q9
 have key:=fun tk=>codeAny_compStart_list (R:=RR (.ref s2.heap.objs.size) s3.heap.objs.size) (loop tk) (T.self X.A 0 { s3 with heap:=h₁,toks:=tk } (fun it' s'=>codeAny (model X.prog X.w) X.A (.compLoop (.ListComp elt [⟨.Name x px,iter,ifs,0⟩] scope pos) 0 it' (.ref s2.heap.objs.size) (compEnvC scope (CT X.env scope.names []) s3.heap.objs.size X.env)) (RR (.ref s2.heap.objs.size) s3.heap.objs.size) s') _ st3 (loop tk))
 subst hs3
 exact key _
theorem Bt {px pos:Pos} {iter elt:Expr} {ifs:List Expr} {wi:TI} {tt:TT} {te:TE} (hc:X.calm=true) (S:Fd X x scope) (hi:PI X (.Name x px) iter wi)
  (ht:∀ C s₀ H₀ fp,Ik (CJ X x scope C s₀ H₀ fp) ifs tt) (he:∀ C s₀ H₀ fp,PE (CJ X x scope C s₀ H₀ fp) elt te) (hs:∀ x,foldedSetIterable iter X.env x=pure x:=by intro _; rfl) :
  PE X (.ListComp elt [⟨.Name x px,iter,ifs,0⟩] scope pos) (YD wi tt te):=by
 intro pins s σ H Q I h
 rw [eval_ListComp]
 refine wpAny_comprehension_free (use:=none) (cl:=CT X.env scope.names []) rfl hs (Es fun y hy hk=>I.ok.has y.1 (S.free y hy hk)) S.kind S.names (Bq (hi pins s σ H _ I h) fun v s1 h1=>Bq h1 fun itv s2 h2=>?_)
 obtain ⟨it,fp,tn,J,H2,e,I2,T,st2,f2,q⟩:=h2
 subst e
 refine JP (RR:=fun acc C=>compPost (model X.prog X.w) X.A X.xe none (EP X pins σ Q) acc C) (Q:=Q) hc S ht he I2 T st2 f2 q ?_
 intro D C s' H' m hn hf hI hq
 exact ⟨m,hn,fun h' sb=>⟨.ref D,H',hI.sameBut hf sb,rfl,hq⟩⟩
theorem Qo {i:Nat} {y:Str} {px py pos spos:Pos} {iter elt:Expr} {ifs:List Expr} {wi:TI} {tt:TT} {te:TE} (hN:X.N.Nodup) (hi':X.N[i]? = some y) (hy:X.env.scope.names.lookup y=some .local) (hc:X.calm=true) (S:Fd X x scope) (hi:PI X (.Name x px) iter wi)
  (ht:∀ C s₀ H₀ fp,Ik (CJ X x scope C s₀ H₀ fp) ifs tt) (he:∀ C s₀ H₀ fp,PE (CJ X x scope C s₀ H₀ fp) elt te) (hsw:swapsWith (.ListComp elt [⟨.Name x px,iter,ifs,0⟩] scope pos) (some (.Name y py)) spos.line X.env=pure true:=by rfl) (hs:∀ x,foldedSetIterable iter X.env x=pure x:=by intro _; rfl) :
  PS X (.Assign [.Name y py] (.ListComp elt [⟨.Name x px,iter,ifs,0⟩] scope pos) spos) (TJ (YD wi tt te) (CV i)):=by
 intro pins s σ H D' I h
 rw [exec_Assign_Name_used _ _ _ _ hsw]
 refine wpAny_bind (wpAny_standAt (wpAny_bind ?_))
 show wpAny _ X.A (do let _ ← comprehension (.ListComp elt [⟨.Name x px,iter,ifs,0⟩] scope pos) scope X.env _ (newList []) false (eval iter X.env) (some (assign (.Name y py) X.env))) _ _ s
 refine wpAny_bind (wpAny_mono (wpAny_comprehension_free (use:=some (assign (.Name y py) X.env)) (cl:=CT X.env scope.names []) (Q:=fun _ s'=>SP X pins D' .next s') rfl hs (Es fun y hy hk=>I.ok.has y.1 (S.free y hy hk)) S.kind S.names
  (Bq (hi pins s σ H _ I h) fun v s1 h1=>Bq h1 fun itv s2 h2=>?_)) (fun _ s' hq=>wpAny_pure (wpAny_pure hq)) fun _ _ e=>e)
 obtain ⟨it,fp,tn,J,H2,e,I2,T,st2,f2,q⟩:=h2
 subst e
 refine JP (RR:=fun acc C=>compPost (model X.prog X.w) X.A X.xe (some (assign (.Name y py) X.env)) (fun _ s'=>SP X pins D' .next s') acc C) (Q:=fun x H1=>CV i x σ H1 D'.nx) hc S ht he I2 T st2 f2 q ?_
 intro D C s' H' m hn hf hI hq
 show wpAny _ X.A (assign (.Name y py) X.env (.ref D)) _ _ _
 refine wpAny_assign_Name (IV hI hN hi' (.inl hy) (v:=.ref D) rfl (fun s6 I6 hch=>?_) (.inr hy))
 obtain ⟨a,sb,ha⟩:=hch
 have hCa:C ≠ a:=by
  rcases ha with z | z
  ·rw [z]; exact hf.2.1
  ·exact Ne.symm (hf.2.2.2.2.1 y a z)
 exact ⟨m,hn.sameBut sb hCa,fun h' sb'=>⟨_,H',I6.sameBut hf sb',hq⟩⟩
end
end L2
namespace L2
open PySem PySem.Spec PyProof.Rows
section
variable {σ:St} {H1:Hp} {Q:VK} {tt:TT} {te:TE}
theorem HW {J:It} {xs:List V} (p:V->Bool) (f:V->V) (hz:xs.length<sizeLine)
  (hgo:∀ i H x,Aq H1 H->xs[i]? = some x->J.go i H) (hy:∀ i H y H',Aq H1 H->i<xs.length->J.yld i H y H'->H'=H/\xs[i]? = some y) (hstop:∀ H,Aq H1 H->J.stop xs.length H)
  (ht:∀ x∈xs,∀ H,Aq H1 H->∀ R:Bool->Hp->Prop,(∀ H',Aq H H'->R (p x) H')->tt (some x::σ) H R)
  (he:∀ x∈xs,p x=true->∀ H,Aq H1 H->∀ R:VK,(∀ H',Aq H H'->R (f x) H')->te (some x::σ) H R)
  (hq:∀ D H,H1 D=none->Aq H1 H->H D=some (.lst ((xs.filter p).map f))->Q (.ref D) H):D_ J σ H1 Q tt te:=by
 intro D hD
 have s0:Aq H1 (upd H1 D (.lst [])):=fun b o e=>by rw [Am (Av e hD)]; exact e
 refine ⟨fun i m ys H=>m=xs.length - i/\i<=xs.length/\ys=((xs.take i).filter p).map f/\H D=some (.lst ys)/\Aq H1 H,⟨xs.length,by simp,Nat.zero_le _,by simp,Ag,s0⟩,?_⟩
 rintro i m ys H ⟨rfl,hi,rfl,hd,hs⟩
 by_cases hlt:i<xs.length
 ·obtain ⟨x,hx⟩:∃ x,xs[i]? = some x:=⟨xs[i],by simp [hlt]⟩
  refine .inr ⟨hgo i H x hs hx,fun y H3 hyl=>?_⟩
  obtain ⟨rfl,hy'⟩:=hy i H y H3 hs hlt hyl
  rw [hx] at hy'
  cases hy'
  have hm:x∈xs:=aI hx
  have hlen:(((xs.take i).filter p).map f).length<sizeLine:=by
   rw [ag]
   refine bv (dS _ _) (bv ?_ hz)
   rw [ci]; omega
  refine ht x hm _ hs _ fun H4 s4=>?_
  by_cases hp:p x=true
  ·rw [if_pos hp]
   refine he x hm hp H4 (hs.trans s4) _ fun H5 s5=>?_
   refine ⟨s5 _ _ (s4 _ _ hd),hlen,xs.length - (i+1),by omega,rfl,hlt,?_,Ag,fun b o e=>?_⟩
   ·rw [take_succ_filter p xs i x hx,if_pos hp,dA]; rfl
   ·rw [Am (Av e hD)]; exact s5 _ _ (s4 _ _ (hs _ _ e))
  ·rw [if_neg hp]
   refine ⟨xs.length - (i+1),by omega,rfl,hlt,?_,s4 _ _ hd,hs.trans s4⟩
   rw [take_succ_filter p xs i x hx,if_neg hp,ij]
 ·have e:i=xs.length:=by omega
  subst e
  rw [eD] at hd
  exact .inl ⟨hstop H hs,hq D H hD hs hd⟩
theorem Oo {lo:Int} {n:Nat} (p:Int->Bool) (f:Int->V) (hz:n<sizeLine)
  (ht:∀ i:Nat,i<n->∀ H,Aq H1 H->∀ R:Bool->Hp->Prop,(∀ H',Aq H H'->R (p (lo+i)) H')->tt (some (.int (lo+i))::σ) H R)
  (he:∀ i:Nat,i<n->p (lo+i)=true->∀ H,Aq H1 H->∀ R:VK,(∀ H',Aq H H'->R (f (lo+i)) H')->te (some (.int (lo+i))::σ) H R)
  (hq:∀ D H,H1 D=none->Aq H1 H->H D=some (.lst ((((List.range n).map fun (i:Nat)=>lo+(i:Int)).filter p).map f))->Q (.ref D) H):D_ (Xr lo n) σ H1 Q tt te:=by
 let g:V->Int:=fun v=>match v with | .int i=>i | _=>0
 have hxs:∀ i:Nat,i<n->((List.range n).map fun (i:Nat)=>V.int (lo+(i:Int)))[i]? = some (.int (lo+i)):=fun i hi=>by simp [hi]
 refine HW (xs:=(List.range n).map fun (i:Nat)=>V.int (lo+(i:Int))) (fun v=>p (g v)) (fun v=>f (g v)) (by simpa using hz) (fun i H x _ hx=>?_) (fun i H y H' _ hi hy=>?_) (fun H _=>?_) (fun x hx=>?_) (fun x hx=>?_) (fun D H h1 h2 h3=>?_)
 ·have:i<((List.range n).map fun (i:Nat)=>V.int (lo+(i:Int))).length:=(af.mp hx).1
  show i<n
  simpa using this
 ·have hi':i<n:=by simpa using hi
  obtain ⟨e1,e2⟩:=hy
  subst e2
  exact ⟨e1,hxs i hi'⟩
 ·show n<=_
  simp
 ·obtain ⟨i,hi,rfl⟩:=bt.mp hx
  exact ht i (dv.mp hi)
 ·obtain ⟨i,hi,rfl⟩:=bt.mp hx
  exact he i (dv.mp hi)
 ·refine hq D H h1 h2 ?_
  rw [h3,ip,cE,ip,cE]
  rfl
noncomputable def gj (z:Str):It:=⟨fun i _=>i<z.cps.size,fun i H x H'=>H'=H/\∃ c,z.cps[i]? = some c/\x=.str ⟨#[c]⟩,fun i _=>z.cps.size<=i⟩
theorem Vv {P:Program} {w:World} {K:PySem.W.Frag} {tg:Expr} {z:Str} {t0:Tok} {it:Addr} {ty:String} (hty:ty = "str_ascii_iterator" \/ ty = "str_iterator"):Turn P w K tg (gj z) [it] it (fun i h=>h.IsStrIter it ty z t0 i) where
 mem:=by simp
 obj:=fun i h st b hb=>by
  have e:b=it:=by simpa using hb
  subst e
  obtain ⟨o,ho,hc,hd⟩:=st
  exact ⟨o,ho,fun v q=>by rw [hd] at q; cases q⟩
 keep:=fun i h h' st k=>let ⟨o,ho,r⟩:=st; ⟨o,k it (by simp) o ho,r⟩
 item:=by
  intro X hP hw hK hc i pins s σ H E I hf st hg
  subst hP hw hK
  obtain ⟨f0,f1,f2,f3,f4,f5⟩:=hf it (by simp)
  have hg':i<z.cps.size:=hg
  have hx:z.cps[i]? = some z.cps[i]:=Array.getElem?_eq_getElem hg'
  have fin:∀ h',h'.IsStrIter it ty z t0 (i+1)->Heap.SameBut it s.heap h'->∃ u,some (Value.str ⟨#[z.cps[i]]⟩ s.toks)=some u /\
    wpAny (model X.prog X.w) X.A (letOwnedTupleGo tg (.ref it) u) (fun _ s2=>∃ x H',Inv X pins σ H' s2/\RelV x u/\(gj z).yld i H x H'/\s2.heap.IsStrIter it ty z t0 (i+1)/\∀ b∈[it],H' b=none) E { s with heap:=h',toks:=s.toks+1 }:=fun h' st' sb=>by
   have I1:Inv X pins σ H { s with heap:=h',toks:=s.toks+1 }:=I.turned (fun b o hb e=>(sb.2 b hb).trans e) f0 f1 f3 f4 f5
   obtain ⟨o,e,c,d⟩:=id st'
   refine ⟨_,rfl,N5 (s:={ s with heap:=h',toks:=s.toks+1 }) e c d (by rcases hty with rfl | rfl <;> decide) ⟨.str ⟨#[z.cps[i]]⟩,H,I1,⟨_,rfl⟩,⟨rfl,_,hx,rfl⟩,st',fun b hb=>(hf b hb).1⟩⟩
  rcases hty with rfl | rfl
  ·exact wpAny_pyNext_ascii_item st hx fin
  ·exact wpAny_pyNext_wide_item st hx fin
 done:=by
  intro X hP hw hK hc i pins s σ H E I hf st hg
  subst hP hw hK
  obtain ⟨f0,f1,f2,f3,f4,f5⟩:=hf it (by simp)
  have hx:z.cps[i]? = none:=by
   have hg':z.cps.size<=i:=hg
   simpa using hg'
  rcases hty with rfl | rfl
  ·exact wpAny_pyNext_ascii_end (I.ok.hd hc) st hx fun h' eb=>⟨rfl,I.turned (t':=s.toks) (fun b o hb e=>eb b o hb e) f0 f1 f3 f4 f5⟩
  ·exact wpAny_pyNext_wide_end (I.ok.hd hc) st hx fun h' eb=>⟨rfl,I.turned (t':=s.toks) (fun b o hb e=>eb b o hb e) f0 f1 f3 f4 f5⟩
 self:=fun A i s Q E st h=>by
  rcases hty with rfl | rfl
  ·exact wpAny_pyIter_striter_ascii st h
  ·exact wpAny_pyIter_striter_wide st h
end
section
variable {X:Cx} {tg:Expr}
noncomputable def jX (tl:TE):TI:=fun σ H R=>tl σ H fun x H1=>∃ z,x=.str z/\R (gj z) H1
theorem ZJ {l:Expr} {tl:TE} (hl:PE X l tl):PI X tg l (jX tl):=by
 intro pins s σ H R I h
 refine Bq (hl pins s σ H _ I h) fun v s1 hq0=>?_
 obtain ⟨x,H1,I1,r1,q1⟩:=hq0
 obtain ⟨z,e,q⟩:=q1
 subst e
 obtain ⟨t,rfl⟩:=r1
 have fin:∀ ty,(ty = "str_ascii_iterator" \/ ty = "str_iterator")->PIE X pins σ tg R (.ref s1.heap.objs.size) { s1 with heap:=s1.heap.push { cls:=.type ty,data:=.fields #[.str z t,.int 0 0] } }:=fun ty hty=>by
  refine ⟨s1.heap.objs.size,[s1.heap.objs.size],_,_,H1,rfl,I1.kept (t':=s1.toks) fun b o e=>Heap.get?_push_of_some _ e,Vv (z:=z) (t0:=t) hty,⟨_,Heap.get?_push_size _ rfl,rfl,rfl⟩,fun b hb=>?_,q⟩
  have e:b=s1.heap.objs.size:=by simpa using hb
  subst e
  exact I1.JL (ah _) (I1.hok.fresh (ah _))
 cases ha:z.cps.all (· < 128)
 ·exact wpAny_pyIter_wide ha (fin _ (.inr rfl))
 ·exact wpAny_pyIter_ascii ha (fin _ (.inl rfl))
end
section
variable {σ:St} {H1:Hp} {Q:VK} {tt:TT} {te:TE}
noncomputable def sgn (c:Nat):V:=.str ⟨#[c]⟩
theorem U5 {z:Str} (p:Nat->Bool) (f:Nat->V) (hz:z.length<sizeLine)
  (ht:∀ c∈z.cps.toList,∀ H,Aq H1 H->∀ R:Bool->Hp->Prop,(∀ H',Aq H H'->R (p c) H')->tt (some (sgn c)::σ) H R)
  (he:∀ c∈z.cps.toList,p c=true->∀ H,Aq H1 H->∀ R:VK,(∀ H',Aq H H'->R (f c) H')->te (some (sgn c)::σ) H R)
  (hq:∀ D H,H1 D=none->Aq H1 H->H D=some (.lst ((z.cps.toList.filter p).map f))->Q (.ref D) H):D_ (gj z) σ H1 Q tt te:=by
 let g:V->Nat:=fun v=>match v with | .str y=>y.cps.getD 0 0 | _=>0
 refine HW (xs:=z.cps.toList.map sgn) (fun v=>p (g v)) (fun v=>f (g v)) (by simpa [Str.length] using hz) (fun i H x _ hx=>?_) (fun i H y H' _ hi hy=>?_) (fun H _=>?_) (fun x hx=>?_) (fun x hx=>?_) (fun D H h1 h2 h3=>?_)
 ·have:i<(z.cps.toList.map sgn).length:=(af.mp hx).1
  show i<z.cps.size
  simpa using this
 ·obtain ⟨e1,c,hc,rfl⟩:=hy
  refine ⟨e1,?_⟩
  rw [ax,Array.getElem?_toList,hc]; rfl
 ·show z.cps.size<=_
  simp
 ·obtain ⟨c,hc,rfl⟩:=bt.mp hx
  exact ht c hc
 ·obtain ⟨c,hc,rfl⟩:=bt.mp hx
  exact he c hc
 ·refine hq D H h1 h2 ?_
  rw [h3,ip,cE]
  rfl
end
section
variable {X:Cx}
theorem range_all (bs:List Bool):((List.range bs.length).all fun i=>(bs[i]?).getD true)=bs.all id:=by
 rw [eu,fh,fh]
 constructor
 ·intro h b hb
  obtain ⟨i,hi,e⟩:=gp.mp hb
  have:=h i (dv.mpr hi)
  rw [ae hi,e] at this
  exact this
 ·intro h i hi
  have hi':=dv.mp hi
  rw [ae hi']
  exact h _ (eR hi')
theorem Jt (hc:X.calm=true):Du X (.builtin "all") (fun xs H Q=>∃ (p:Addr) (bs:List Bool),xs=[V.ref p]/\CZ X.K H p (bs.map V.bl)/\Q (.bl (bs.all id)) H):=by
 intro pins s σ H xs us Q I r h
 obtain ⟨p,bs,rfl,hp,q⟩:=h
 obtain ⟨u,rfl,ru⟩:=vals1 r
 cases ru
 obtain ⟨its,rv,pl,hz⟩:=I.list hp
 have hlen:bs.length=its.length:=by have:=rv.length; rw [ag] at this; exact this
 have hlt:p<s.heap.objs.size:=by obtain ⟨_,e,_⟩:=pl.isList; exact Heap.lt_size e
 refine call_all_walk (wpAny_pyIter_list pl.isList ?_)
 refine ⟨s.heap.objs.size,[s.heap.objs.size,p],[s.heap.objs.size],its.toArray.size,_,_,fun i=>(bs[i]?).getD true,rfl,Walks.list (A:=X.A.in1) (I.ok.hd hc) _ p (aS hlt) its.toArray,
  ⟨⟨_,Heap.get?_push_size _ rfl,rfl,rfl⟩,pl.isList.push _⟩,fun i v s' Q' E' hP hQ=>?_,fun h' tk hk=>?_⟩
 ·have hP':its[i]? = some v:=by simpa using hP
  have hi:i<its.length:=(af.mp hP').1
  have hb:bs[i]? = some bs[i]:=by simp [hlen,hi]
  obtain ⟨u,hu,ru⟩:=rv.get (i:=i) (x:=.bl bs[i]) (by rw [ax,hb]; rfl)
  rw [hP'] at hu
  cases hu
  cases ru
  dsimp only at hQ
  rw [hb] at hQ
  exact wpAny_truthy_bool hQ
 ·have e:((List.range its.toArray.size).all fun i=>(bs[i]?).getD true)=bs.all id:=by rw [bo,← hlen]; exact range_all bs
  rw [e]
  refine ⟨.bl (bs.all id),H,I.kept (t':=tk) fun b o eb=>hk b o (fun hm=>?_) (Heap.get?_push_of_some _ eb),rfl,q⟩
  rw [ai.mp hm] at eb
  exact ed _ (Heap.lt_size eb)
theorem Dl:Du X (.builtin "isinstance") (fun xs H Q=>∃ x T t b,xs=[x,V.ty T]/\Hr X.K H x t/\PySem.W.kitOne X.K t (.type T)=some b/\Q (.bl b) H):=by
 intro pins s σ H xs us Q I r h
 obtain ⟨x,T,t,b,rfl,ty,e,q⟩:=h
 obtain ⟨u,v,rfl,ru,rv⟩:=Vals.two r
 cases rv
 exact Rv I ru ty e fun tk=>⟨.bl b,H,I.tok _,rfl,q⟩
end
noncomputable def Qg (x:Str) (scope osc:Scope) (N:List Str):Bool :=
 (scope.kind == .function) && scope.names.all (fun y=>y.2 != .cell) && scope.names.all (fun y=>y.2 != .local || scope.names.lookup y.1 == some .local) && (scope.names.lookup x == some .local) &&
 scope.names.all (fun y=>y.2 != .free || osc.names.lookup y.1 == some .cell || osc.names.lookup y.1 == some .free) && decide ((x::G3 x N).Nodup) && (G3 x N).all (fun y=>scope.names.lookup y != some .local) && (scope.names.lookup ("" : Str) == none)
theorem BX {X:Cx} {x:Str} {scope osc:Scope} {N:List Str} (hsc:X.env.scope=osc) (hN:X.N=N) (h:Qg x scope osc N=true):Fd X x scope:=by
 unfold Qg at h
 simp only [Bool.and_eq_true] at h
 obtain ⟨⟨⟨⟨⟨⟨⟨h1,h2⟩,h3⟩,h4⟩,h5⟩,h6⟩,h7⟩,h8⟩:=h
 rw [fh] at h2 h3 h5 h7
 have kd:∀ y,X.env.kindOf y=osc.names.lookup y:=fun y=>by rw [← hsc]; rfl
 refine ⟨by simpa using h1,fun y hy=>by simpa using h2 y hy,fun y hy e=>?_,by simpa using h4,fun y hy e=>?_,by rw [hN]; exact of_decide_eq_true h6,fun y hy=>?_,by simpa using h8⟩
 ·have:=h3 y hy
  rw [e] at this
  simpa using this
 ·have:=h5 y hy
  rw [e] at this
  rw [kd]
  simpa using this
 ·rw [hN] at hy
  simpa using h7 y hy
end L2
namespace L2
open PySem PySem.Spec PyProof.Rows
section
variable {X:Cx} {pins:List (Addr × Obj)} {σ:St} {H:Hp} {s:Shared} {h':Heap}
theorem Inv.JV {ch:List Addr} {a:Addr} {o:HO} {t':Nat} (I:Inv X pins σ H s) (hf:∀ b∈ch,Ek X pins H b) (k:∀ b u,b ∉ ch->s.heap.get? b=some u->h'.get? b=some u) (hp:s.heap.objs.size<=a)
  (new:By X.prog X.w (upd H a o) h' a o):Inv X pins σ (upd H a o) { s with heap:=h',toks:=t' }:=by
 have hn:H a=none:=I.hok.fresh hp
 have up:∀ b u,H b=some u->upd H a o b=some u:=fun b u e=>by rw [Am (Av e hn)]; exact e
 refine I.step (g':=s.gens) (d':=s.drawn) (ch:=ch) (fun b hb=>?_) (fun b u _ _ hc e _=>k b u hc e) (fun b u _ _ hc e _=>⟨u.slots,k b u hc e⟩) (fun b u _ e n=>?_)
  (fun b u hc e=>⟨u,k b u hc e⟩) (fun b xs e=>up _ _ e) (fun b u x e=>up _ _ e) (fun b ps e=>⟨#[],by rw [up _ _ e]; simp⟩) (fun m hm=>?_) (fun b u e=>?_) I.bare
 ·obtain ⟨f0,f1,f2,f3,f4,f5⟩:=hf b hb
  exact ⟨f3,f1,f4,f5⟩
 ·rw [Am (aS (ay (Heap.lt_size e) hp))]
  exact n
 ·obtain ⟨u,es,ep,ho,r⟩:=hm
  exact ⟨u,es,ep,k _ u (fun z=>(hf _ z).2.1 rfl) ho,r⟩
 ·by_cases hb:b=a
  ·subst hb
   rw [Ag] at e
   cases e
   exact new
  ·rw [Am hb] at e
   refine (I.hok b u e).stay (fun c v hc q=>k c v (fun z=>?_) q) (fun _ q=>up _ _ q) fun _ _ q=>up _ _ q
   have z1:=(hf c z).1
   rcases hc with hc | hc
   ·rw [hc,e] at z1
    cases z1
   ·rw [hc] at z1
    cases z1
theorem Inv.Lz {ch:List Addr} {t':Nat} (I:Inv X pins σ H s) (hf:∀ b∈ch,Ek X pins H b) (k:∀ b u,b ∉ ch->s.heap.get? b=some u->h'.get? b=some u):Inv X pins σ H { s with heap:=h',toks:=t' }:=by
 refine I.step (g':=s.gens) (d':=s.drawn) (ch:=ch) (fun b hb=>?_) (fun b u _ _ hc e _=>k b u hc e) (fun b u _ _ hc e _=>⟨u.slots,k b u hc e⟩) (fun b u _ e n=>n)
  (fun b u hc e=>⟨u,k b u hc e⟩) (fun b xs e=>e) (fun b u x e=>e) (fun b ps e=>⟨#[],by rw [e]; simp⟩) (fun m hm=>?_) (fun b u e=>?_) I.bare
 ·obtain ⟨f0,f1,f2,f3,f4,f5⟩:=hf b hb
  exact ⟨f3,f1,f4,f5⟩
 ·obtain ⟨u,es,ep,ho,r⟩:=hm
  exact ⟨u,es,ep,k _ u (fun z=>(hf _ z).2.1 rfl) ho,r⟩
 ·refine (I.hok b u e).stay (fun c v hc q=>k c v (fun z=>?_) q) (fun _ q=>q) fun _ _ q=>q
  have z1:=(hf c z).1
  rcases hc with hc | hc
  ·rw [hc,e] at z1
   cases z1
  ·rw [hc] at z1
   cases z1
end
noncomputable def fX (K:PySem.W.Frag) (a:Addr):It :=
 ⟨fun i H=>∃ xs x,CZ K H a xs/\xs[i]? = some x,fun i H v H'=>∃ T,H T=none/\v=.ref T/\∀ xs,CZ K H a xs->∃ x,xs[i]? = some x/\H'=upd H T (.tup [.int (i:Int),x]),fun i H=>∃ xs,CZ K H a xs/\xs.length<=i⟩
noncomputable def jV (K:PySem.W.Frag) (a b:Addr):It :=
 ⟨fun i H=>∃ xs ys x y,Eg K H a xs/\Eg K H b ys/\xs[i]? = some x/\ys[i]? = some y,fun i H v H'=>∃ T,H T=none/\v=.ref T/\∀ xs ys,Eg K H a xs->Eg K H b ys->∃ x y,xs[i]? = some x/\ys[i]? = some y/\H'=upd H T (.tup [x,y]),
  fun i H=>∃ xs,Eg K H a xs/\xs.length<=i⟩
theorem Rr {P:Program} {w:World} {K:PySem.W.Frag} {es:List Expr} {k1:Nat} {pos:Pos} (a e it:Addr) (hne:e ≠ it) :
  Turn P w K (.Tuple es k1 pos) (fX K a) [e,it] e (fun i h=>(∃ old,IsEnum h e it i old)/\h.IsListIter it a i) where
 mem:=by simp
 obj:=fun i h st b hb=>by
  obtain ⟨⟨old,he⟩,o,ho,c,d⟩:=st
  rcases bi.mp hb with rfl | hb
  ·exact ⟨_,he,fun v z=>by
    have z':Data.fields _=Data.cell v:=z
    cases z'⟩
  ·have q:b=it:=by simpa using hb
   subst q
   exact ⟨o,ho,fun v z=>by rw [d] at z; cases z⟩
 keep:=fun i h h' st k=>by
  obtain ⟨⟨old,he⟩,hi⟩:=st
  exact ⟨⟨old,k e (by simp) _ he⟩,hi.at fun o q=>k it (by simp) o q⟩
 item:=by
  intro X hP hw hK hc i pins s σ H E I hf st hg
  subst hP hw hK
  obtain ⟨xs,x,hq,hx⟩:=hg
  obtain ⟨its,rv,p,hz⟩:=I.list hq
  obtain ⟨u,hu,ru⟩:=rv.get hx
  obtain ⟨⟨old,he⟩,hi⟩:=st
  refine wpAny_pyNext_enum_item he hi p.isList (x:=u) (by simpa using hu) hne fun h1 n1 n2 n3 n4 n5=>?_
  refine ⟨_,rfl,wpAny_letOwnedTupleGo_enum (s:={ s with heap:=h1,toks:=s.toks+1 }) n1 fun h2 m1 m2=>?_⟩
  have hT:s.heap.objs.size ≠ e:=fq (Heap.lt_size he)
  have hI:s.heap.objs.size ≠ it:=by obtain ⟨_,q,_⟩:=hi; exact fq (Heap.lt_size q)
  have fr:H s.heap.objs.size=none:=I.hok.fresh (ah _)
  have nw:By X.prog X.w (upd H s.heap.objs.size (.tup [.int (i:Int),x])) h2 s.heap.objs.size (.tup [.int (i:Int),x]) :=
   ⟨by show 2<=sizeLine; decide,[.int i s.toks,u],.cons ⟨_,rfl⟩ (.cons ru .nil),_,m2.extBut _ _ hT n3,rfl,_,rfl⟩
  refine ⟨.ref s.heap.objs.size,_,I.JV (t':=s.toks+1) (ch:=[e,it]) hf (fun b o hb q=>?_) (ah _) nw,rfl,⟨_,fr,rfl,fun ys hy=>⟨x,by rw [I.Hk hy hq]; exact hx,rfl⟩⟩,⟨⟨u,?_⟩,n2.at fun o q=>m2.extBut _ _ (Ne.symm hne) q⟩,fun b hb=>?_⟩
  ·exact m2.extBut _ _ (fun z=>hb (by simp [z])) (n5 b o (fun z=>hb (by simp [z])) (fun z=>hb (by simp [z])) q)
  ·have e1:((i:Int)+1)=((i+1:Nat):Int):=by omega
   rw [← e1]
   exact m1
  ·have hb':=hb
   rcases bi.mp hb with rfl | hb
   ·rw [Am (Ne.symm hT)]
    exact (hf _ hb').1
   ·have q:b=it:=by simpa using hb
    subst q
    rw [Am (Ne.symm hI)]
    exact (hf _ hb').1
 done:=by
  intro X hP hw hK hc i pins s σ H E I hf st hg
  subst hP hw hK
  obtain ⟨xs,hq,hx⟩:=hg
  obtain ⟨its,rv,p,hz⟩:=I.list hq
  obtain ⟨⟨old,he⟩,hi⟩:=st
  have hl:=rv.length
  exact wpAny_pyNext_enum_end (I.ok.hd hc) he hi p.isList (by simp; omega) fun h1 eb=>⟨rfl,I.Lz (t':=s.toks) (ch:=[e,it]) hf fun b o hb q=>eb b o (fun z=>hb (by simp [z])) q⟩
 self:=fun _ _ _ _ _ st h=>by
  obtain ⟨⟨old,he⟩,_⟩:=st
  exact wpAny_pyIter_enum he h
theorem MN {n a b:Nat} (ha:a<n) (hb:b<n):ZipApart (n+4) (n+2) (n+3) n (n+1) a b:=by
 constructor <;> (refine (show @Ne Nat _ _ from ?_); omega)
theorem Rb {n b:Nat} {P:Nat->Prop} (h0:P n) (h1:P (n+1)) (h2:P (n+2)) (h3:P (n+3)) (h4:P (n+4)) (hb:b∈[n,n+1,n+2,n+3,n+4]):P b:=by
 simp at hb
 rcases hb with rfl | rfl | rfl | rfl | rfl <;> assumption
theorem Q5 {P:Program} {w:World} {K:PySem.W.Frag} {es:List Expr} {k1:Nat} {pos:Pos} (a b n:Nat) (ha:a<n) (hb:b<n) :
  Turn P w K (.Tuple es k1 pos) (jV K a b) [n,n+1,n+2,n+3,n+4] (n+4) (fun i h=>IsZip h (n+4) (n+2) (n+3) .none/\IsPair h (n+2) (.ref n) (.ref (n+1))/\(∃ x y,IsPair h (n+3) x y)/\h.IsTupleIter n a i/\h.IsTupleIter (n+1) b i) where
 mem:=by simp
 obj:=fun i h st c hc=>by
  obtain ⟨hz,hI,⟨x,y,hO⟩,⟨o1,e1,_,d1⟩,⟨o2,e2,_,d2⟩⟩:=st
  refine Rb (P:=fun c=>∃ o,h.get? c=some o/\∀ v,o.data ≠ .cell v) ⟨_,e1,fun v z=>?_⟩ ⟨_,e2,fun v z=>?_⟩ ⟨_,hI,fun v z=>?_⟩ ⟨_,hO,fun v z=>?_⟩ ⟨_,hz,fun v z=>?_⟩ hc
  ·rw [d1] at z; cases z
  ·rw [d2] at z; cases z
  ·have z':Data.seq _ _=Data.cell v:=z
   cases z'
  ·have z':Data.seq _ _=Data.cell v:=z
   cases z'
  ·have z':Data.fields _=Data.cell v:=z
   cases z'
 keep:=fun i h h' st k=>by
  obtain ⟨hz,hI,⟨x,y,hO⟩,j1,j2⟩:=st
  exact ⟨k _ (by simp) _ hz,k _ (by simp) _ hI,⟨x,y,k _ (by simp) _ hO⟩,j1.at fun o q=>k _ (by simp) o q,j2.at fun o q=>k _ (by simp) o q⟩
 item:=by
  intro X hP hw hK hc i pins s σ H E I hf st hg
  subst hP hw hK
  obtain ⟨xs,ys,x,y,q1,q2,hx,hy⟩:=hg
  obtain ⟨it1,r1,p1,_⟩:=I.tuple q1
  obtain ⟨it2,r2,p2,_⟩:=I.tuple q2
  obtain ⟨u,hu,ru⟩:=r1.get hx
  obtain ⟨v,hv,rv⟩:=r2.get hy
  obtain ⟨hz,hI,⟨x0,y0,hO⟩,j1,j2⟩:=st
  have D:=MN ha hb
  have hT:s.TypeIs (.ref (n+4)) "zip":=⟨_,hz,rfl⟩
  have sz:n+4<s.heap.objs.size:=Heap.lt_size hz
  unfold pyNext
  refine wpAny_bind (wpAny_attempt (wpAny_callSpecial?_slot (name:=Str.ofString "__next__") hT F.slot_zip_next (wpAny_call_entry F.slot_zip_next hT F.entry_zip_next
   (Q6 D hz hI hO j1 j2 (show s.heap.IsTuple a it1.toArray from p1) (show s.heap.IsTuple b it2.toArray from p2) (x:=u) (y:=v) (by simpa using hu) (by simpa using hv) fun h1 n1 n2 n3 n4 n5 n6 n7=>wpAny_pure ?_) (F.args_zip_next_1 _))))
  refine ⟨_,rfl,wpAny_letOwnedTupleGo_zip (s:={ s with heap:=h1 }) n1 fun h2 m1 m2=>?_⟩
  have fr:H s.heap.objs.size=none:=I.hok.fresh (ah _)
  have nw:By X.prog X.w (upd H s.heap.objs.size (.tup [x,y])) h2 s.heap.objs.size (.tup [x,y]) :=
   ⟨by show 2<=sizeLine; decide,[u,v],.cons ru (.cons rv .nil),_,m2.extBut _ _ (Nat.ne_of_gt sz) n5,rfl,_,rfl⟩
  have hI2:IsPair h1 (n+2) (.ref n) (.ref (n+1)):=n7 _ _ D.TIz D.TITO D.TIi1 D.TIi2 hI
  refine ⟨.ref s.heap.objs.size,_,I.JV (t':=s.toks) (ch:=[n,n+1,n+2,n+3,n+4]) hf (fun c o hc q=>?_) (ah _) nw,rfl,⟨_,fr,rfl,fun xs' ys' h1 h2=>⟨x,y,by rw [I.IW h1 q1]; exact hx,by rw [I.IW h2 q2]; exact hy,rfl⟩⟩,
   ⟨m1,m2.extBut _ _ D.TIz hI2,⟨u,v,m2.extBut _ _ D.TOz n2⟩,n3.at fun o q=>m2.extBut _ _ D.i1z q,n4.at fun o q=>m2.extBut _ _ D.i2z q⟩,fun c hc=>?_⟩
  ·have z:∀ d,d∈[n,n+1,n+2,n+3,n+4]->c ≠ d:=fun d hd q=>hc (q ▸ hd)
   exact m2.extBut _ _ (z _ (by simp)) (n7 c o (z _ (by simp)) (z _ (by simp)) (z _ (by simp)) (z _ (by simp)) q)
  ·rw [Am ?_]
   ·exact (hf c hc).1
   ·have lt:c<=n+4:=Rb (P:=fun c=>c<=n+4) (by omega) (by omega) (by omega) (by omega) (ah _) hc
    exact aS (bv lt sz)
 done:=by
  intro X hP hw hK hc i pins s σ H E I hf st hg
  subst hP hw hK
  obtain ⟨xs,q1,hx⟩:=hg
  obtain ⟨it1,r1,p1,_⟩:=I.tuple q1
  obtain ⟨hz,hI,⟨x0,y0,hO⟩,j1,j2⟩:=st
  have D:=MN ha hb
  have hT:s.TypeIs (.ref (n+4)) "zip":=⟨_,hz,rfl⟩
  have hl:=r1.length
  unfold pyNext
  refine wpAny_bind (wpAny_attempt (wpAny_callSpecial?_slot (name:=Str.ofString "__next__") hT F.slot_zip_next (wpAny_call_entry F.slot_zip_next hT F.entry_zip_next
   (Sh (I.ok.hd hc) D hz hI hO j1 (show s.heap.IsTuple a it1.toArray from p1) (by simp; omega) fun h1 x k1 hx1=>?_) (F.args_zip_next_1 _))))
  obtain ⟨o,ho,hco⟩:=hx1
  refine wpAny_bind (wpAny_isInstance (T:="StopIteration") (b:=true) ⟨o,ho,hco⟩ isSubtype_stop (wpAny_pure ?_))
  refine ⟨rfl,I.Lz (t':=s.toks) (ch:=[n,n+1,n+2,n+3,n+4]) hf fun c o hc q=>?_⟩
  have z:∀ d,d∈[n,n+1,n+2,n+3,n+4]->c ≠ d:=fun d hd q=>hc (q ▸ hd)
  exact k1 c o (z _ (by simp)) (z _ (by simp)) (z _ (by simp)) (z _ (by simp)) q
 self:=fun _ _ _ _ _ st h=>wpAny_pyIter_zip st.1 h
section
variable {X:Cx} {es:List Expr} {k1:Nat} {tpos:Pos}
noncomputable def fP (K:PySem.W.Frag) (ta:TA):TI:=fun σ H R=>ta σ H fun vs H1=>∃ a,vs=[.ref a]/\(∃ xs,CZ K H1 a xs)/\R (fX K a) H1
noncomputable def iH (K:PySem.W.Frag) (ta:TA):TI:=fun σ H R=>ta σ H fun vs H1=>∃ a b,vs=[.ref a,.ref b]/\(∃ xs,Eg K H1 a xs)/\(∃ ys,Eg K H1 b ys)/\R (jV K a b) H1
theorem LK {l:Expr} {ta:TA} {p pos:Pos} (hg:Gl X "enumerate") (hm:X.mg "enumerate" = none) (ha:PA X [l] ta) (hs:starEach [l] X.env=[(false,eval l X.env)]:=by rfl) :
  PI X (.Tuple es k1 tpos) (.Call (.Name "enumerate" p) [l] [] pos) (fP X.K ta):=by
 intro pins s σ H R I h
 refine Call_ (Ft I hg hm boot_enumerate (PyProof.Rows.callWith_type1 (Bq (ha pos pins s σ H _ I h) fun us s1 ⟨vs,H1,I1,r1,q1⟩=>?_) hs rfl))
 obtain ⟨a,e,⟨xs,hq⟩,q⟩:=q1
 subst e
 obtain ⟨u,rfl,ru⟩:=vals1 r1
 cases ru
 obtain ⟨its,rv,pl,hz⟩:=I1.list hq
 refine call_enumerate_list pl.isList fun h1 n1 n2 n3 n4=>?_
 refine wpAny_pyIter_enum (s:={ s1 with heap:=h1 }) n1 ?_
 refine ⟨_,[s1.heap.objs.size+1,s1.heap.objs.size],_,_,H1,rfl,I1.kept (t':=s1.toks) n4,Rr a _ _ (Nat.succ_ne_self _),⟨⟨_,n1⟩,n2⟩,fun b hb=>?_,q⟩
 have lt:s1.heap.objs.size<=b:=by
  rcases bi.mp hb with rfl | hb
  ·exact iO _
  ·exact Nat.le_of_eq ((ai.mp hb).symm)
 exact I1.JL lt (I1.hok.fresh lt)
theorem Wf {x y:Expr} {ta:TA} {p pos:Pos} (hg:Gl X "zip") (hm:X.mg "zip" = none) (ha:PA X [x,y] ta) (hs:starEach [x,y] X.env=[(false,eval x X.env),(false,eval y X.env)]:=by rfl) (hs2:starEach [y] X.env=[(false,eval y X.env)]:=by rfl) :
  PI X (.Tuple es k1 tpos) (.Call (.Name "zip" p) [x,y] [] pos) (iH X.K ta):=by
 intro pins s σ H R I h
 refine Call_ (Ft I hg hm boot_zip (PyProof.Rows.callWith_type1 (Bq (ha pos pins s σ H _ I h) fun us s1 ⟨vs,H1,I1,r1,q1⟩=>?_) (by rw [hs,hs2]) (by rw [hs2]; rfl)))
 obtain ⟨a,b,e,⟨xs,q1⟩,⟨ys,q2⟩,q⟩:=q1
 subst e
 obtain ⟨u,v,rfl,ru,rv⟩:=Vals.two r1
 cases ru
 cases rv
 obtain ⟨it1,r1,p1,_⟩:=I1.tuple q1
 obtain ⟨it2,r2,p2,_⟩:=I1.tuple q2
 refine RD (show s1.heap.IsTuple a it1.toArray from p1) (show s1.heap.IsTuple b it2.toArray from p2) fun h1 n hn n1 n2 n3 n4 n5 n6 n7=>?_
 refine wpAny_pyIter_zip (s:={ s1 with heap:=h1 }) n1 ?_
 have la:a<n:=by rw [hn]; exact p1.lt
 have lb:b<n:=by rw [hn]; exact p2.lt
 refine ⟨_,[n,n+1,n+2,n+3,n+4],_,_,H1,rfl,I1.kept (t':=s1.toks) n7,Q5 a b n la lb,⟨n1,n2,⟨_,_,n3⟩,n4,n5⟩,fun c hc=>?_,q⟩
 have lt:s1.heap.objs.size<=c:=by
  rw [← hn]
  exact Rb (P:=fun c=>n<=c) (by omega) (by omega) (by omega) (by omega) (by omega) hc
 exact I1.JL lt (I1.hok.fresh lt)
end
end L2
namespace L2
open PySem PySem.Spec PyProof.Rows
theorem Pz {prog:Program} {w:World} {A:Around} {R:Result->Shared->Prop} {s:Shared} {elt tg iter:Expr} {ifs:List Expr} {scope:Scope} {pos:Pos} {it acc:Value} {env:Env} (J:Nat->Shared->Prop) {E:Value->Shared->Prop} (hE:E=notedBy (model prog w) A env fun e s'=>R (.error e) s')
  (turn:∀ n s,J n s->wpAny (model prog w) A (pyNext it) (fun r s1=>match r with
   | none=>R (.ok .next) s1
   | some v=>wpAny (model prog w) A (letOwnedTupleGo tg it v) (fun _ s2=>wpAny (model prog w) A (assign tg env v) (fun _ s3 =>
     wpAny (model prog w) A (forIn ifs true fun c r=>if r=true then do let ok ← isTrue c env (eval c env); pure (ForInStep.yield ok) else pure (ForInStep.yield r)) (fun ok s4 =>
      if ok=true then wpAny (model prog w) A (eval elt env) (fun x s5=>wpAny (model prog w) A (call (.builtin "list.append") [acc,x]) (fun _ s6=>∃ m,m<n/\J m s6) E s5) E s4
      else ∃ m,m<n/\J m s4) E s3) E s2) E s1) E s) (n:Nat) (h:J n s) :
  codeAny (model prog w) A (.compLoop (.ListComp elt [⟨tg,iter,ifs,0⟩] scope pos) 0 it acc env) R s:=by
 subst hE
 refine codeAny_loop rfl J (fun n s hJ=>(show wpAny _ A ((compTurn (.ListComp elt [⟨tg,iter,ifs,0⟩] scope pos) 0 it acc env).onRaise (fun x=>do noteFrame x env; theTreesLotGoes x)) _ _ s from wpAny_noted ?_)) n h
 rw [compTurn_list]
 refine wpAny_bind (wpAny_standAt (wpAny_bind (wpAny_mono (turn n s hJ) (fun r s1 h1=>?_) fun _ _ q=>q)))
 cases r with
 | none=>exact wpAny_pure h1
 | some v =>
  refine wpAny_bind (wpAny_mono h1 (fun _ s2 h2=>wpAny_bind (wpAny_mono h2 (fun _ s3 h3=>wpAny_bind (wpAny_mono h3 (fun ok s4 h4=>?_) fun _ _ q=>q)) fun _ _ q=>q)) fun _ _ q=>q)
  cases ok with
  | false=>exact wpAny_pure ⟨rfl,h4⟩
  | true=>exact wpAny_bind (wpAny_bind (wpAny_mono h4 (fun x s5 h5=>wpAny_bind (wpAny_mono h5 (fun _ s6 h6=>wpAny_pure (wpAny_pure ⟨rfl,h6⟩)) fun _ _ q=>q)) fun _ _ q=>q))
noncomputable def Bg (X:Cx) (x z:Str) (scope:Scope) (C:Addr) (s₀:Shared) (H₀:Hp) (fp:List Addr):Cx where
 prog:=X.prog
 w:=X.w
 K:=X.K
 mg:=X.mg
 base:=X.base
 A:=X.A
 N:=x::z::X.N
 s₀:=s₀
 H₀:=H₀
 env:=compEnvC scope (CT X.env scope.names []) C X.env
 outer:=X.stack
 stack:=X.stack
 ex:=fp
 fn:=fun _=>false
 calm:=X.calm
 pn:=[]
 xe:=fun _ _=>False
structure EY (X:Cx) (x z:Str) (scope:Scope):Prop where
 kind:scope.kind=.function
 nocell:∀ y∈scope.names,y.2 ≠ .cell
 names:∀ y∈scope.names,y.2=.local->scope.names.lookup y.1=some .local
 loc:scope.names.lookup x=some .local
 loz:scope.names.lookup z=some .local
 free:∀ y∈scope.names,y.2=.free->X.env.kindOf y.1=some .cell \/ X.env.kindOf y.1=some .free
 nd:(x::z::X.N).Nodup
 only:∀ y∈X.N,scope.names.lookup y ≠ some .local
section
variable {X:Cx} {pins:List (Addr × Obj)} {σ:St} {H:Hp} {s:Shared} {x z:Str} {scope:Scope} {fp:List Addr} {C:Addr}
theorem Nj {h':Heap} {tk:Nat} {m:Str->Option Value} (I:Inv X pins σ H s) (S:EY X x z scope) (hf:∀ b∈fp,Ek X pins H b) (hlt:∀ b∈fp,b<s.heap.objs.size) (hC:s.heap.objs.size<=C) (hn:h'.Ns C m)
  (hk:∀ b o,s.heap.get? b=some o->h'.get? b=some o):Inv (Bg X x z scope C s H fp) [] (none::none::σ) H { s with heap:=h',toks:=tk }:=by
 have cl:∀ y c,(CT X.env scope.names []).lookup y=some c->X.env.cells.lookup y=some c:=fun y c e=>by
  rcases Eo X.env scope.names [] y c e with z | z
  ·cases z
  ·exact z
 have cellK:∀ c v,s.heap.IsCell c v->h'.IsCell c v:=fun c v ⟨o,ho,hd⟩=>⟨o,hk c o ho,hd⟩
 have look:∀ y,(Bg X x z scope C s H fp).env.scope.names.lookup y=(scope.names.lookup y).map fun k=>if (k == NameKind.free && X.env.scope.kind == .function && X.env.kindOf y == some .cell) then NameKind.cell else k:=fun y=>Dw X.env y scope.names
 refine ⟨⟨I.ok.mod,S.kind,I.ok.glob,I.ok.blt,hC,fun y z c e1 e2=>I.ok.inj y z c (cl y c e1) (cl z c e2),fun y hy=>?_,fun y c e _=>(by cases e),fun h=>I.ok.hd h,I.ok.frames,.inl rfl,fun b hb=>?_,I.bs,br I.ok.bsz I.sz,fun b o e hb=>?_,fun b hb hb'=>?_,I.stack,I.I_⟩,
  rfl,I.bare,Un.kept hk,⟨m,hn,fun i y v h1 h2 h3=>?_⟩,fun y c e=>?_,I.hok.fresh hC,fun y c e=>I.freeC y c (cl y c e),fun p hp=>absurd (show p∈([]:List (Addr × Obj)) from hp) (by simp),I.hok.kept hk,?_⟩
 ·have hy':(Bg X x z scope C s H fp).env.scope.names.lookup y=some .cell \/ (Bg X x z scope C s H fp).env.scope.names.lookup y=some .free:=hy
  rw [look y] at hy'
  cases e:scope.names.lookup y with
  | none=>rw [e] at hy'; rcases hy' with z | z <;> cases z
  | some k =>
   have hm:=PySem.mem_of_lookup e
   have hfree:k=.free:=by
    rw [e] at hy'
    cases k with
    | free=>rfl
    | cell=>exact absurd rfl (S.nocell _ hm)
    | _=>rcases hy' with z | z <;> simp at z
   subst hfree
   obtain ⟨c,hc⟩:=I.ok.has y (S.free _ hm rfl)
   exact dL.mp (DK X.env scope.names [] y hm (by rw [hc]; rfl))
 ·obtain ⟨f0,f1,f2,f3,f4,f5⟩:=hf b hb
  exact ⟨aS (ay (hlt b hb) hC),fun y c e=>f4 y c (cl y c e)⟩
 ·obtain ⟨f0,f1,f2,f3,f4,f5⟩:=hf b hb
  rcases f3 with z | z
  ·exact I.ok.noex b o e z
  ·exact absurd (ay (Heap.lt_size e) (br I.ok.bsz z)) (ed _)
 ·obtain ⟨f0,f1,f2,f3,f4,f5⟩:=hf b hb
  rcases bi.mp (I.JN b hb') with e | e
  ·exact f1 e
  ·exact f2 e
 ·match i,h1,h2 with
  | 0,h1,h2 =>
   have h2':(some none:Option (Option V))=some (some v):=h2
   cases h2'
  | 1,h1,h2 =>
   have h2':(some none:Option (Option V))=some (some v):=h2
   cases h2'
  | i+2,h1,h2 =>
   have e0:X.N[i]? = some y:=h1
   have h2':σ[i]? = some (some v):=h2
   have hmem:y∈X.N:=aI e0
   have h3':(Bg X x z scope C s H fp).env.scope.names.lookup y=some .local \/ (Bg X x z scope C s H fp).env.scope.names.lookup y=some .cell \/ (Bg X x z scope C s H fp).env.scope.names.lookup y=some .free:=h3
   rw [look y] at h3'
   cases e:scope.names.lookup y with
   | none=>rw [e] at h3'; rcases h3' with z | z | z <;> cases z
   | some k =>
    have hm:=PySem.mem_of_lookup e
    have hfree:k=.free:=by
     rw [e] at h3'
     cases k with
     | free=>rfl
     | cell=>exact absurd rfl (S.nocell _ hm)
     | «local»=>exact absurd e (S.only y hmem)
     | _=>rcases h3' with z | z | z <;> simp at z
    subst hfree
    have kd:=S.free _ hm rfl
    obtain ⟨m0,hn0,hl0⟩:=I.loc
    obtain ⟨u,r,l⟩:=hl0 i y v e0 h2' (by rcases kd with z | z; exact .inr (.inl z); exact .inr (.inr z))
    refine ⟨u,r,.inr ⟨?_,?_⟩⟩
    ·have hk':(Bg X x z scope C s H fp).env.scope.names.lookup y=some (if (NameKind.free == NameKind.free && X.env.scope.kind == .function && X.env.kindOf y == some .cell) then NameKind.cell else NameKind.free):=by
      rw [look y,e]; rfl
     by_cases c:(NameKind.free == NameKind.free && X.env.scope.kind == .function && X.env.kindOf y == some .cell)=true
     ·rw [if_pos c] at hk'; exact .inl hk'
     ·rw [if_neg c] at hk'; exact .inr hk'
    ·rcases l with ⟨lk,_⟩ | ⟨_,c,hc,hcell⟩
     ·exfalso
      rcases kd with z | z <;> (rw [show X.env.kindOf y=some NameKind.local from lk] at z; cases z)
     ·obtain ⟨c',hc'⟩:=dL.mp (DK X.env scope.names [] y hm (by rw [hc]; rfl))
      have:=cl y c' hc'
      rw [hc] at this
      cases this
      exact ⟨c,hc',cellK c _ hcell⟩
 ·obtain ⟨v,z⟩:=I.cell y c (cl y c e)
  exact ⟨v,cellK c v z⟩
 ·show (none::none::σ).length=(x::z::X.N).length
  simp [I.len]
end
noncomputable def Lr (J:It) (σ:St) (H1:Hp) (Q:VK) (g:TG) (tt:TT) (te:TE):Prop:=∀ D,H1 D=none->∃ W:Nat->Nat->List V->Hp->Prop,(∃ m,W 0 m [] (upd H1 D (.lst [])))/\∀ i m ys H2,W i m ys H2 ->
 (J.stop i H2/\Q (.ref D) H2) \/ (J.go i H2/\∀ x H3,J.yld i H2 x H3->∀ v0 v1,g x (v0::v1::σ) H3 fun σ' H3'=>(∃ w0 w1,σ'=w0::w1::σ)/\tt σ' H3' fun b H4 =>
  if b=true then te σ' H4 fun y H5=>H5 D=some (.lst ys)/\ys.length<sizeLine/\∃ m',m'<m/\W (i+1) m' (ys++[y]) (upd H5 D (.lst (ys++[y])))
  else ∃ m',m'<m/\W (i+1) m' ys H4)
noncomputable def Ve (wi:TI) (g:TG) (tt:TT) (te:TE):TE:=fun σ H Q=>wi σ H fun J H1=>Lr J σ H1 Q g tt te
section
variable {X:Cx} {x z:Str} {scope:Scope}
theorem Mq {tg:Expr} {pos:Pos} {iter elt:Expr} {ifs:List Expr} {g:TG} {tt:TT} {te:TE} {pins:List (Addr × Obj)} {σ:St} {s2:Shared} {H2:Hp} {it:Addr} {fp:List Addr} {tn:Nat->Heap->Prop} {J:It} {E:Value->Shared->Prop}
  {RR:Value->Addr->Result->Shared->Prop} {Q:VK}
  (hc:X.calm=true) (S:EY X x z scope) (hg:∀ C s₀ H₀ fp,PG (Bg X x z scope C s₀ H₀ fp) tg g) (ht:∀ C s₀ H₀ fp,Ik (Bg X x z scope C s₀ H₀ fp) ifs tt) (he:∀ C s₀ H₀ fp,PE (Bg X x z scope C s₀ H₀ fp) elt te)
  (I2:Inv X pins σ H2 s2) (T:Turn X.prog X.w X.K tg J fp it tn) (st2:tn 0 s2.heap) (f2:∀ b∈fp,Ek X pins H2 b) (q:Lr J σ H2 Q g tt te)
  (hRR:∀ D C s' H' m,s'.heap.Ns C m->Ek X pins H' C->Inv X pins σ H' s'->Q (.ref D) H'->RR (.ref D) C (.ok .next) s') :
  wpAny (model X.prog X.w) X.A (newList []) (fun acc s₃=>wpAny (model X.prog X.w) X.A (newFunctionEnv scope X.env.globals (CT X.env scope.names []) [] X.env.qual none .none (some X.env)) (fun cenv s₄ =>
   codeAny (model X.prog X.w) X.A (.compStart (.ListComp elt [⟨tg,iter,ifs,0⟩] scope pos) 0 (.ref it) acc { cenv with scope:=relabel scope X.env }) (RR acc cenv.locals) s₄) E s₃) E s2:=by
 refine wpAny_newObj_type (wpAny_newFunctionEnv S.nocell (by intro y hy; simp at hy) (fun h₁ hns₁ hsb₁=>?_) S.kind)
 have I3:=I2.Uy (its:=[]) (ys:=[]) (t':=s2.toks) .nil (cm _)
 have hD0:H2 s2.heap.objs.size=none:=I2.fresh
 obtain ⟨W,⟨m0,w0⟩,turn⟩:=q _ hD0
 generalize hs3:({ s2 with heap:=s2.heap.push { cls:=.type "list",data:=.seq ([]:List Value).toArray },toks:=s2.toks }:Shared)=s3 at I3
 have e3:s3.heap=s2.heap.push { cls:=.type "list",data:=.seq ([]:List Value).toArray }:=by rw [← hs3]
 have hlt:∀ b∈fp,b<s2.heap.objs.size:=fun b hb=>let ⟨_,e,_⟩:=T.obj _ _ st2 b hb; Heap.lt_size e
 have hlt3:∀ b∈fp,b<s3.heap.objs.size:=fun b hb=>by rw [e3,Heap.size_push]; exact fm (hlt b hb)
 have f3:∀ b∈fp,Ek X pins (upd H2 s2.heap.objs.size (.lst [])) b:=fun b hb=>⟨by rw [Am (aS (hlt b hb))]; exact (f2 b hb).1,(f2 b hb).2⟩
 have hk1:∀ b o,s3.heap.get? b=some o->h₁.get? b=some o:=fun b o e=>by
  have hne:b ≠ s3.heap.objs.size:=aS (Heap.lt_size e)
  rw [e3] at e hne
  exact hsb₁.extBut b o hne (Heap.get?_push_of_some _ e)
 have hC:s3.heap.objs.size=(s2.heap.push { cls:=.type "list",data:=.seq ([]:List Value).toArray }).objs.size:=by rw [e3]
 have hns:h₁.Ns s3.heap.objs.size (fun x=>([]:List (Str × Value)).reverse.lookup x):=by rw [hC]; exact hns₁
 have st3:tn 0 h₁:=T.keep _ _ _ st2 fun b hb o e=>hk1 b o (by rw [e3]; exact Heap.get?_push_of_some _ e)
 have start:∀ tk,Inv (Bg X x z scope s3.heap.objs.size s3 (upd H2 s2.heap.objs.size (.lst [])) fp) [] (none::none::σ) (upd H2 s2.heap.objs.size (.lst [])) { s3 with heap:=h₁,toks:=tk }:=fun tk =>
  Nj I3 S f3 hlt3 (ah _) hns hk1
 have loop:∀ tk,codeAny (model X.prog X.w) X.A (.compLoop (.ListComp elt [⟨tg,iter,ifs,0⟩] scope pos) 0 (.ref it) (.ref s2.heap.objs.size) (compEnvC scope (CT X.env scope.names []) s3.heap.objs.size X.env))
   (RR (.ref s2.heap.objs.size) s3.heap.objs.size) { s3 with heap:=h₁,toks:=tk }:=by
  intro tk
  refine Pz (fun n s'=>∃ i ys v0 v1 H',Inv (Bg X x z scope s3.heap.objs.size s3 (upd H2 s2.heap.objs.size (.lst [])) fp) [] (v0::v1::σ) H' s'/\tn i s'.heap/\(∀ b∈fp,H' b=none)/\W i n ys H') rfl ?_ m0
   ⟨0,[],none,none,_,start tk,st3,fun b hb=>(f3 b hb).1,w0⟩
  rintro n s4 ⟨i,ys,v0,v1,H4,I4,st4,fr4,w4⟩
  have stat:∀ {H':Hp},(∀ b∈fp,H' b=none)->∀ b∈fp,Ek (Bg X x z scope s3.heap.objs.size s3 (upd H2 s2.heap.objs.size (.lst [])) fp) [] H' b:=fun hn b hb=>by
   refine ⟨hn b hb,(I4.ok.exf b hb).1,I4.ok.exfs b hb,.inl hb,(I4.ok.exf b hb).2,fun p hp=>absurd (show p∈([]:List (Addr × Obj)) from hp) (by simp)⟩
  rcases turn i n ys H4 w4 with ⟨stop,qn⟩ | ⟨go,step⟩
  ·refine Bq (T.done (Bg X x z scope s3.heap.objs.size s3 (upd H2 s2.heap.objs.size (.lst [])) fp) rfl rfl rfl hc i [] s4 (v0::v1::σ) H4 _ I4 (stat fr4) st4 stop) fun r s5 ⟨hr,I5⟩=>?_
   subst hr
   obtain ⟨m,hn,_⟩:=I5.loc
   refine hRR _ _ s5 H4 m hn (I3.JL (ah _) I5.free) (I3.call' (s':=s5) (ch:=fp) I5.os I5.base I5.hok I5.bare (fun b hb=>?_)) qn
   obtain ⟨_,g1,_,g3,g4,g5⟩:=f3 b hb
   exact ⟨g3,g1,g4,g5⟩
  ·refine Bq (T.item (Bg X x z scope s3.heap.objs.size s3 (upd H2 s2.heap.objs.size (.lst [])) fp) rfl rfl rfl hc i [] s4 (v0::v1::σ) H4 _ I4 (stat fr4) st4 go) fun r s5 ⟨u,hr,h5⟩=>?_
   subst hr
   refine Bq h5 fun _ s6 h6=>?_
   obtain ⟨xv,H6,I6,r6,y6,st6,fr6⟩:=h6
   have I6':=I6.pinned (stat fr6) (T.obj _ _ st6)
   have again:∀ {s7:Shared} {H7:Hp} {ys':List V} {w0 w1:Option V},Inv (Bg X x z scope s3.heap.objs.size s3 (upd H2 s2.heap.objs.size (.lst [])) fp) ([]++G6 fp s6.heap) (w0::w1::σ) H7 s7->(∃ m',m'<n/\W (i+1) m' ys' H7) ->
     ∃ m,m<n/\∃ i ys v0 v1 H',Inv (Bg X x z scope s3.heap.objs.size s3 (upd H2 s2.heap.objs.size (.lst [])) fp) [] (v0::v1::σ) H' s7/\tn i s7.heap/\(∀ b∈fp,H' b=none)/\W i m ys H':=fun {s7 H7 ys' w0 w1} I7 hw=>by
    obtain ⟨m',hm,w7⟩:=hw
    refine ⟨m',hm,i+1,ys',w0,w1,H7,I7.FT,T.keep _ _ _ st6 fun b hb o e=>(I7.pin (b,o) (aT _ (aT _ (Cy hb e)))).1,fun b hb=>?_,w7⟩
    obtain ⟨o,e,d⟩:=T.obj _ _ st6 b hb
    exact (I7.pin (b,o) (aT _ (aT _ (Cy hb e)))).2.1
   refine JR (hg _ _ _ _ _ s6 (v0::v1::σ) H6 xv u _ I6' r6 (step xv H6 y6 v0 v1)) fun _ s7 ⟨σ7,H7,I7,⟨w0,w1,e7⟩,q7⟩=>?_
   subst e7
   refine JR (ht _ _ _ _ _ s7 (w0::w1::σ) H7 _ I7 q7) fun b s8 hq0=>?_
   obtain ⟨H8,I8,q8⟩:=hq0
   cases b with
   | false =>
    rw [if_neg dl] at q8 ⊢
    exact again I8 q8
   | true =>
    rw [if_pos rfl] at q8 ⊢
    refine JR (he _ _ _ _ _ s8 (w0::w1::σ) H8 _ I8 q8) fun y s9 hq0=>?_
    obtain ⟨yv,H9,I9,r9,hD9,hz9,q9⟩:=hq0
    refine JR (Bx (X:=Bg X x z scope s3.heap.objs.size s3 (upd H2 s2.heap.objs.size (.lst [])) fp) _ s9 (w0::w1::σ) H9 (.ref s2.heap.objs.size) [yv] (.ref s2.heap.objs.size) [y] (fun _ H'=>H'=upd H9 s2.heap.objs.size (.lst (ys++[yv]))) I9 rfl (.cons r9 .nil)
     ⟨_,ys,yv,rfl,rfl,hD9,hz9,rfl⟩) fun _ s10 ⟨_,H10,I10,_,e10⟩=>?_
    subst e10
    exact again I10 q9
 have key:=fun tk=>codeAny_compStart_list (R:=RR (.ref s2.heap.objs.size) s3.heap.objs.size) (loop tk) (T.self X.A 0 { s3 with heap:=h₁,toks:=tk } (fun it' s'=>codeAny (model X.prog X.w) X.A (.compLoop (.ListComp elt [⟨tg,iter,ifs,0⟩] scope pos) 0 it' (.ref s2.heap.objs.size) (compEnvC scope (CT X.env scope.names []) s3.heap.objs.size X.env)) (RR (.ref s2.heap.objs.size) s3.heap.objs.size) s') _ st3 (loop tk))
 subst hs3
 exact key _
theorem Vq {tg:Expr} {pos:Pos} {iter elt:Expr} {ifs:List Expr} {wi:TI} {g:TG} {tt:TT} {te:TE} (hc:X.calm=true) (S:EY X x z scope) (hi:PI X tg iter wi) (hg:∀ C s₀ H₀ fp,PG (Bg X x z scope C s₀ H₀ fp) tg g)
  (ht:∀ C s₀ H₀ fp,Ik (Bg X x z scope C s₀ H₀ fp) ifs tt) (he:∀ C s₀ H₀ fp,PE (Bg X x z scope C s₀ H₀ fp) elt te) (hs:∀ x,foldedSetIterable iter X.env x=pure x:=by intro _; rfl) :
  PE X (.ListComp elt [⟨tg,iter,ifs,0⟩] scope pos) (Ve wi g tt te):=by
 intro pins s σ H Q I h
 rw [eval_ListComp]
 refine wpAny_comprehension_free (use:=none) (cl:=CT X.env scope.names []) rfl hs (Es fun y hy hk=>I.ok.has y.1 (S.free y hy hk)) S.kind S.names (Bq (hi pins s σ H _ I h) fun v s1 h1=>Bq h1 fun itv s2 h2=>?_)
 obtain ⟨it,fp,tn,J,H2,e,I2,T,st2,f2,q⟩:=h2
 subst e
 refine Mq (RR:=fun acc C=>compPost (model X.prog X.w) X.A X.xe none (EP X pins σ Q) acc C) (Q:=Q) hc S hg ht he I2 T st2 f2 q ?_
 intro D C s' H' m hn hf hI hq
 exact ⟨m,hn,fun h' sb=>⟨.ref D,H',hI.sameBut hf sb,rfl,hq⟩⟩
end
end L2
namespace L2
open PySem PySem.Spec PySem.Calls PyProof.Rows
theorem Aq.tup {K:PySem.W.Frag} {H H':Hp} {a:Addr} {xs:List V} (e:Aq H H') (h:Eg K H a xs):Eg K H' a xs:=by
 rcases h with (h | ⟨o,h⟩) | h
 ·exact .inl (.inl (e _ _ h))
 ·exact .inl (.inr ⟨o,e _ _ h⟩)
 ·exact .inr h
noncomputable def TupAt (H:Hp) (zs:List V) (y:V):Prop:=∃ T,y=.ref T/\H T=some (.tup zs)
theorem TupAt.mono {H H':Hp} {zs:List V} {y:V} (s:Aq H H') (h:TupAt H zs y):TupAt H' zs y:=let ⟨T,e,q⟩:=h; ⟨T,e,s _ _ q⟩
theorem TupAt.upd {H:Hp} {zs ys ws:List V} {y:V} {D:Addr} (h:TupAt H zs y) (hD:H D=some (.lst ys)):TupAt (upd H D (.lst ws)) zs y:=by
 obtain ⟨T,e,q⟩:=h
 refine ⟨T,e,?_⟩
 rw [Am fun z=>by rw [z,hD] at q; cases q]
 exact q
theorem Bl {α:Type} {H:Hp} {f:α->List V} {l:List α} {vs ys ws:List V} {D:Addr} (h:Paired (fun a y=>TupAt H (f a) y) l vs) (hD:H D=some (.lst ys)):Paired (fun a y=>TupAt (upd H D (.lst ws)) (f a) y) l vs:=Paired.FJ h fun _ _ q=>q.upd hD
theorem Ax {α:Type} {H H':Hp} {f:α->List V} {l:List α} {vs:List V} (s:Aq H H') (h:Paired (fun a y=>TupAt H (f a) y) l vs):Paired (fun a y=>TupAt H' (f a) y) l vs:=Paired.FJ h fun _ _ q=>q.mono s
noncomputable def Nz (x z:Str) (scope osc:Scope) (N:List Str):Bool :=
 (scope.kind == .function) && scope.names.all (fun y=>y.2 != .cell && (y.2 != .local || scope.names.lookup y.1 == some .local) && (y.2 != .free || osc.names.lookup y.1 == some .cell || osc.names.lookup y.1 == some .free)) && (scope.names.lookup x == some .local) && (scope.names.lookup z == some .local) &&
 decide ((x::z::N).Nodup) && N.all (fun y=>scope.names.lookup y != some .local)
theorem Oz {X:Cx} {x z:Str} {scope osc:Scope} {N:List Str} (hsc:X.env.scope=osc) (hN:X.N=N) (h:Nz x z scope osc N=true):EY X x z scope:=by
 unfold Nz at h
 simp only [Bool.and_eq_true] at h
 obtain ⟨⟨⟨⟨⟨h1,h2⟩,h3⟩,h3'⟩,h4⟩,h5⟩:=h
 rw [fh] at h2 h5
 have kind:∀ y,X.env.kindOf y=osc.names.lookup y:=fun y=>by show X.env.scope.names.lookup y=_; rw [hsc]
 refine ⟨by simpa using h1,fun y hy=>?_,fun y hy hk=>?_,by simpa using h3,by simpa using h3',fun y hy hk=>?_,by rw [hN]; exact of_decide_eq_true h4,fun y hy=>?_⟩
 ·have:=h2 y hy
  simp only [Bool.and_eq_true,bne_iff_ne] at this
  exact this.1.1
 ·have:=h2 y hy
  simp only [Bool.and_eq_true] at this
  simpa [hk] using this.1.2
 ·have:=h2 y hy
  simp only [Bool.and_eq_true] at this
  rw [kind]
  simpa [hk] using this.2
 ·have:=h5 y (by rw [← hN]; exact hy)
  simpa using this
section
variable {X:Cx} {x z:Str} {scope:Scope}
theorem W_ {px pz pos:Pos} {k:Nat} {C:Addr} {s₀:Shared} {H₀:Hp} {fp:List Addr} (hc:X.calm=true) (S:EY X x z scope) :
  PG (Bg X x z scope C s₀ H₀ fp) (.Tuple [.Name x px,.Name z pz] k pos) (M7 X.K 2 (Dv (CV 0) (Dv (CV 1) NP))):=by
 have l1:(Bg X x z scope C s₀ H₀ fp).env.scope.names.lookup x=some .local:=lookup_relabel_local S.loc
 have l2:(Bg X x z scope C s₀ H₀ fp).env.scope.names.lookup z=some .local:=lookup_relabel_local S.loz
 exact Gi (X:=Bg X x z scope C s₀ H₀ fp) (n:=2) hc (Bo (Ba (X:=Bg X x z scope C s₀ H₀ fp) (i:=0) S.nd rfl (.inl l1) (.inr l1)) (Bo (Ba (X:=Bg X x z scope C s₀ H₀ fp) (i:=1) S.nd rfl (.inl l2) (.inr l2)) Em))
theorem XQ {px pz tpos:Pos} {k:Nat} {pos:Pos} {iter elt:Expr} {ifs:List Expr} {wi:TI} {tt:TT} {te:TE} (hc:X.calm=true) (S:EY X x z scope) (hi:PI X (.Tuple [.Name x px,.Name z pz] k tpos) iter wi)
  (ht:∀ C s₀ H₀ fp,Ik (Bg X x z scope C s₀ H₀ fp) ifs tt) (he:∀ C s₀ H₀ fp,PE (Bg X x z scope C s₀ H₀ fp) elt te) (hs:∀ x,foldedSetIterable iter X.env x=pure x:=by intro _; rfl) :
  PE X (.ListComp elt [⟨.Tuple [.Name x px,.Name z pz] k tpos,iter,ifs,0⟩] scope pos) (Ve wi (M7 X.K 2 (Dv (CV 0) (Dv (CV 1) NP))) tt te) :=
 Vq hc S hi (fun _ _ _ _=>W_ hc S) ht he hs
end
section
variable {σ:St} {H1:Hp} {Q:VK} {tt:TT} {te:TE}
theorem Dg {K:PySem.W.Frag} {a:Addr} {xs:List V} (p:V->Bool) (f:V->V) (hl:CZ K H1 a xs) (hz:xs.length<sizeLine)
  (ht:∀ x∈xs,∀ H,Aq H1 H->∀ R:Bool->Hp->Prop,(∀ H',Aq H H'->R (p x) H')->tt (some x::σ) H R)
  (he:∀ x∈xs,p x=true->∀ H,Aq H1 H->∀ R:VK,(∀ H',Aq H H'->R (f x) H')->te (some x::σ) H R)
  (hq:∀ D H,H1 D=none->Aq H1 H->H D=some (.lst ((xs.filter p).map f))->Q (.ref D) H):D_ (Qw K a) σ H1 Q tt te :=
 HW p f hz (fun i H x hs hx=>⟨xs,x,hs.seq hl,hx⟩) (fun i H y H' hs _ hy=>⟨hy.1,hy.2 xs (hs.seq hl)⟩) (fun H hs=>⟨xs,hs.seq hl,ah _⟩) ht he hq
theorem Ko {J:It} {xs:List V} (p:V->Bool) (f:V->List V) (hz:xs.length<sizeLine)
  (hgo:∀ i H x,Aq H1 H->xs[i]? = some x->J.go i H) (hy:∀ i H y H',Aq H1 H->i<xs.length->J.yld i H y H'->H'=H/\xs[i]? = some y) (hstop:∀ H,Aq H1 H->J.stop xs.length H)
  (ht:∀ x∈xs,∀ H,Aq H1 H->∀ R:Bool->Hp->Prop,(∀ H',Aq H H'->R (p x) H')->tt (some x::σ) H R)
  (he:∀ x∈xs,p x=true->∀ H,Aq H1 H->∀ R:VK,(∀ y H',Aq H H'->TupAt H' (f x) y->R y H')->te (some x::σ) H R)
  (hq:∀ D H ys,H1 D=none->Aq H1 H->H D=some (.lst ys)->Paired (fun x y=>TupAt H (f x) y) (xs.filter p) ys->Q (.ref D) H):D_ J σ H1 Q tt te:=by
 intro D hD
 have s0:Aq H1 (upd H1 D (.lst [])):=fun b o e=>by rw [Am (Av e hD)]; exact e
 refine ⟨fun i m ys H=>m=xs.length - i/\i<=xs.length/\H D=some (.lst ys)/\Paired (fun x y=>TupAt H (f x) y) ((xs.take i).filter p) ys/\Aq H1 H,⟨xs.length,by simp,Nat.zero_le _,Ag,by simpa using Paired.nil,s0⟩,?_⟩
 rintro i m ys H ⟨rfl,hi,hd,hp,hs⟩
 by_cases hlt:i<xs.length
 ·obtain ⟨x,hx⟩:∃ x,xs[i]? = some x:=⟨xs[i],by simp [hlt]⟩
  refine .inr ⟨hgo i H x hs hx,fun y H3 hyl=>?_⟩
  obtain ⟨rfl,hy'⟩:=hy i H y H3 hs hlt hyl
  rw [hx] at hy'
  cases hy'
  have hm:x∈xs:=aI hx
  have hlen:ys.length<sizeLine:=by
   rw [← hp.length]
   refine bv (dS _ _) (bv ?_ hz)
   rw [ci]; omega
  refine ht x hm _ hs _ fun H4 s4=>?_
  by_cases hpx:p x=true
  ·rw [if_pos hpx]
   refine he x hm hpx H4 (hs.trans s4) _ fun y H5 s5 hφ=>?_
   refine ⟨s5 _ _ (s4 _ _ hd),hlen,xs.length - (i+1),by omega,rfl,hlt,Ag,?_,fun b o e=>?_⟩
   ·rw [take_succ_filter p xs i x hx,if_pos hpx]
    exact (Bl (Ax (s4.trans s5) hp) (s5 _ _ (s4 _ _ hd))).snoc (hφ.upd (s5 _ _ (s4 _ _ hd)))
   ·rw [Am (Av e hD)]; exact s5 _ _ (s4 _ _ (hs _ _ e))
  ·rw [if_neg hpx]
   refine ⟨xs.length - (i+1),by omega,rfl,hlt,s4 _ _ hd,?_,hs.trans s4⟩
   rw [take_succ_filter p xs i x hx,if_neg hpx,ij]
   exact Ax s4 hp
 ·have e:i=xs.length:=by omega
  subst e
  rw [eD] at hp
  exact .inl ⟨hstop H hs,hq D H ys hD hs hd hp⟩
theorem M9 {K:PySem.W.Frag} {a:Addr} {xs:List V} (p:V->Bool) (f:V->List V) (hl:CZ K H1 a xs) (hz:xs.length<sizeLine)
  (ht:∀ x∈xs,∀ H,Aq H1 H->∀ R:Bool->Hp->Prop,(∀ H',Aq H H'->R (p x) H')->tt (some x::σ) H R)
  (he:∀ x∈xs,p x=true->∀ H,Aq H1 H->∀ R:VK,(∀ y H',Aq H H'->TupAt H' (f x) y->R y H')->te (some x::σ) H R)
  (hq:∀ D H ys,H1 D=none->Aq H1 H->H D=some (.lst ys)->Paired (fun x y=>TupAt H (f x) y) (xs.filter p) ys->Q (.ref D) H):D_ (Qw K a) σ H1 Q tt te :=
 Ko p f hz (fun i H x hs hx=>⟨xs,x,hs.seq hl,hx⟩) (fun i H y H' hs _ hy=>⟨hy.1,hy.2 xs (hs.seq hl)⟩) (fun H hs=>⟨xs,hs.seq hl,ah _⟩) ht he hq
theorem Lj {α β:Type} {F:α->β->Prop} (g:Nat->α):∀ {n:Nat} {l:List α} {ys:List β},Paired F l ys->l=(List.range n).map g->Paired (fun i y=>F (g i) y) (List.range n) ys:=by
 intro n
 have key:∀ (js:List Nat) (ys:List β),Paired F (js.map g) ys->Paired (fun i y=>F (g i) y) js ys:=by
  intro js
  induction js with
  | nil=>intro ys h; cases h; exact .nil
  | cons j js ih =>
   intro ys h
   cases h with
   | cons a b=>exact .cons a (ih _ b)
 intro l ys h e
 subst e
 exact key _ _ h
theorem Ri {n:Nat} (f:Nat->List V) (hz:n<sizeLine)
  (he:∀ i:Nat,i<n->∀ H,Aq H1 H->∀ R:VK,(∀ y H',Aq H H'->TupAt H' (f i) y->R y H')->te (some (.int (i:Int))::σ) H R)
  (hq:∀ D H ys,H1 D=none->Aq H1 H->H D=some (.lst ys)->Paired (fun i y=>TupAt H (f i) y) (List.range n) ys->Q (.ref D) H):D_ (Xr 0 n) σ H1 Q V5 te:=by
 let g:V->Nat:=fun v=>match v with | .int i=>i.toNat | _=>0
 have hxs:∀ i:Nat,i<n->((List.range n).map fun (i:Nat)=>V.int (i:Int))[i]? = some (.int i):=fun i hi=>by simp [hi]
 refine Ko (xs:=(List.range n).map fun (i:Nat)=>V.int (i:Int)) (fun _=>true) (fun v=>f (g v)) (by simpa using hz) (fun i H x _ hx=>?_) (fun i H y H' _ hi hy=>?_) (fun H _=>?_) (fun x hx H hs R k=>k H (Aq.refl H)) (fun x hx _ H hs R k=>?_) (fun D H ys h1 h2 h3 h4=>?_)
 ·have:i<((List.range n).map fun (i:Nat)=>V.int (i:Int)).length:=(af.mp hx).1
  show i<n
  simpa using this
 ·obtain ⟨e1,e2⟩:=hy
  have hi':i<n:=by simpa using hi
  refine ⟨e1,?_⟩
  rw [hxs i hi',e2,Int.zero_add]
 ·show n<=_
  simp
 ·obtain ⟨i,hi,rfl⟩:=bt.mp hx
  exact he i (dv.mp hi) H hs R k
 ·rw [cK.mpr (fun _ _=>rfl)] at h4
  exact hq D H ys h1 h2 h3 (Lj (F:=fun x y=>TupAt H (f (g x)) y) (fun i=>V.int (i:Int)) h4 rfl)
theorem VJ {K:PySem.W.Frag} {a b:Addr} {xs ys:List V} (f:V->V->V) (hx:Eg K H1 a xs) (hy:Eg K H1 b ys) (hl:xs.length=ys.length) (hz:xs.length<sizeLine)
  (he:∀ (i:Nat) x y,xs[i]? = some x->ys[i]? = some y->∀ H,Aq H1 H->∀ R:VK,(∀ H',Aq H H'->R (f x y) H')->te (some x::some y::σ) H R)
  (hq:∀ D H,H1 D=none->Aq H1 H->H D=some (.lst (List.zipWith f xs ys))->Q (.ref D) H):Lr (jV K a b) σ H1 Q (M7 K 2 (Dv (CV 0) (Dv (CV 1) NP))) V5 te:=by
 intro D hD
 have s0:Aq H1 (upd H1 D (.lst [])):=fun b o e=>by rw [Am (Av e hD)]; exact e
 refine ⟨fun i m zs H=>m=xs.length - i/\i<=xs.length/\zs=(List.zipWith f xs ys).take i/\H D=some (.lst zs)/\Aq H1 H,⟨xs.length,by simp,Nat.zero_le _,by simp,Ag,s0⟩,?_⟩
 rintro i m zs H ⟨rfl,hi,rfl,hd,hs⟩
 have hzl:(List.zipWith f xs ys).length=xs.length:=by rw [List.length_zipWith]; omega
 by_cases hlt:i<xs.length
 ·have ex:xs[i]? = some xs[i]:=ae hlt
  have ey:ys[i]? = some ys[i]:=ae (hl ▸ hlt)
  refine .inr ⟨⟨xs,ys,_,_,hs.tup hx,hs.tup hy,ex,ey⟩,fun v H3 hv v0 v1=>?_⟩
  obtain ⟨T,hT,rfl,hv⟩:=hv
  obtain ⟨x,y,qx,qy,rfl⟩:=hv xs ys (hs.tup hx) (hs.tup hy)
  have s3:Aq H (upd H T (.tup [x,y])):=fun b o e=>by rw [Am (Av e hT)]; exact e
  refine ⟨T,[x,y],rfl,lc Ag,rfl,x,[y],rfl,y,[],rfl,rfl,⟨_,_,rfl⟩,?_⟩
  unfold V5
  dsimp only
  rw [if_pos rfl]
  refine he i x y qx qy _ (hs.trans s3) _ fun H5 s5=>?_
  refine ⟨s5 _ _ (s3 _ _ hd),?_,xs.length - (i+1),by omega,rfl,hlt,?_,Ag,fun b o e=>?_⟩
  ·rw [ci,hzl]
   omega
  ·rw [cf,List.getElem?_zipWith,qx,qy]
   rfl
  ·rw [Am (Av e hD)]
   exact s5 _ _ (s3 _ _ (hs _ _ e))
 ·have e:i=xs.length:=by omega
  subst e
  rw [← hzl,eD] at hd
  exact .inl ⟨⟨xs,hs.tup hx,ah _⟩,hq D H hD hs hd⟩
end
theorem Jm {K:PySem.W.Frag} {a:Addr} {xs:List V} {g:TG} {tb:TS} {D:Ends} {σ:St} {H:Hp} (Pv:Nat->St->Hp->Prop) (h0:Pv 0 σ H) (hl:∀ i σ H,i<=xs.length->Pv i σ H->CZ K H a xs)
  (hb:∀ (i:Nat) x σ H T,xs[i]? = some x->Pv i σ H->H T=none->g (.ref T) σ (upd H T (.tup [.int (i:Int),x])) fun σ' H'=>tb { D with nx:=Pv (i+1),ct:=Pv (i+1),bk:=D.nx } σ' H')
  (hn:∀ σ H,Pv xs.length σ H->D.nx σ H):∃ W:Nat->Nat->St->Hp->Prop,(∃ m,W 0 m σ H)/\∀ i m σ H,W i m σ H ->
   ((fX K a).stop i H/\D.nx σ H) \/ ((fX K a).go i H/\∃ N:St->Hp->Prop,(∀ σ H,N σ H->∃ m',m'<m/\W (i+1) m' σ H)/\∀ x H',(fX K a).yld i H x H'->g x σ H' fun σ' H''=>tb { D with nx:=N,ct:=N,bk:=D.nx } σ' H''):=by
 refine ⟨fun i m σ H=>m=xs.length - i/\i<=xs.length/\Pv i σ H,⟨_,rfl,cm _,h0⟩,?_⟩
 rintro i m σ H ⟨rfl,hi,hp⟩
 by_cases hlt:i<xs.length
 ·refine .inr ⟨⟨xs,_,hl i σ H hi hp,ae hlt⟩,Pv (i+1),fun σ' H' h=>⟨xs.length - (i+1),by omega,rfl,hlt,h⟩,fun v H' hv=>?_⟩
  obtain ⟨T,hT,rfl,hv⟩:=hv
  obtain ⟨x,qx,rfl⟩:=hv xs (hl i σ H hi hp)
  exact hb i x σ H T qx hp hT
 ·have e:i=xs.length:=by omega
  subst e
  exact .inl ⟨⟨xs,hl _ σ H hi hp,ah _⟩,hn σ H hp⟩
end L2
namespace L2
open PySem PySem.Spec PySem.Calls PyProof.Rows
section
variable {prog:Program} {w:World} {A:Around} {E:Value->Shared->Prop} {s:Shared} {K:PySem.W.Frag} {x C:Addr} {ox:Obj} {od:Option Obj} {name:Str} {tk:Tok} {R:Result->Shared->Prop}
end
end L2
namespace L2
open PySem PySem.Spec PySem.Calls PyProof.Rows
section
variable {prog:Program} {w:World} {A:Around} {E:Value->Shared->Prop} {K:PySem.W.Frag} {C:Addr} {h:Heap} {g:Array GenState} {d:Drawn} {t:Nat} {os:OsState}
end
end L2
namespace L2
open PySem PySem.Spec PySem.Calls PyProof.Rows
noncomputable def bU (x C:Addr) (od:Option Addr):HO:=.ext fun h=>∃ (d:Data) (sl:Array (Option Value)),h.get? x=some ⟨.ref C,od,d,sl⟩/\PySem.W.notCls ⟨.ref C,od,d,sl⟩=true
noncomputable def m8 (dx:Addr) (fs:List (Str × V)):HO:=.ext fun h=>∃ mA,h.Ns1 dx mA/\∀ f,Fg (fs.lookup f) (mA f)
section
variable {P:Program} {w:World} {H H':Hp} {h:Heap} {x C dx:Addr} {od:Option Addr} {fs:List (Str × V)}
inductive X6 (H:Hp) (x C:Addr):List (Str × V)->Prop where
 | bare (e:H x=some (bU x C none)):X6 H x C []
 | full {dx:Addr} {fs:List (Str × V)} (e:H x=some (bU x C (some dx))) (d:H dx=some (m8 dx fs)):X6 H x C fs
end
section
variable {P:Program} {w:World} {X:Cx} {pins:List (Addr × Obj)} {σ:St} {H:Hp} {s:Shared} {h':Heap} {a:Addr} {o:HO}
end
section
variable {X:Cx} {C:Addr} {x:Str} {e:Expr} {es:List Expr} {t:TA} {p pos:Pos}
end
section
variable {X:Cx} {e:Expr} {f:Str} {pos:Pos} {ta:TE}
end
section
variable {prog:Program} {w:World} {A:Around} {E:Value->Shared->Prop} {s:Shared} {K:PySem.W.Frag} {x C:Addr} {name:Str} {v:Value} {R:Result->Shared->Prop} {d:Data} {sl:Array (Option Value)}
end
section
variable {X:Cx} {pins:List (Addr × Obj)} {σ:St} {H:Hp} {s:Shared} {h':Heap} {x C dx:Addr} {f:Str} {y:V} {u:Value}
end
section
variable {X:Cx} {o value:Expr} {f:Str} {pos pos':Pos} {ta tv:TE}
end
section
variable {X:Cx} {C f:Addr} {fd:FuncData} {ps:List Str} {sp:Sp} {k:Nat} {x:Str} {e:Expr} {es:List Expr} {t:TA} {p pos:Pos}
end
noncomputable def YL:List V->List V->Bool
 | [],[]=>true
 | x::xs,y::ys=>Kr x y && YL xs ys
 | _,_=>false
theorem Kv:∀ (xs ys:List V),xs.length=ys.length->((List.range xs.length).all fun j=>Kr (xs.getD j .non) (ys.getD j .non))=YL xs ys
 | [],[],_=>rfl
 | x::xs,y::ys,h=>by
  have ih:=Kv xs ys (by simpa using h)
  rw [dc,List.range_succ_eq_map,kN,List.all_map]
  show (Kr x y && _)=(Kr x y && YL xs ys)
  rw [← ih]
  rfl
 | [],_::_,h=>by simp at h
 | _::_,[],h=>by simp at h
theorem Qv:∀ (xs ys:List V),xs.length ≠ ys.length->YL xs ys=false
 | [],[],h=>absurd rfl h
 | x::xs,y::ys,h=>by
  show (Kr x y && YL xs ys)=false
  rw [Qv xs ys (fun e=>h (by simp [e])),Bool.and_false]
 | [],_::_,_=>rfl
 | _::_,[],_=>rfl
theorem Vo {x:V} (h:F_ x=true):Kr x x=true:=by
 cases x with
 | non=>rfl
 | bl b=>simp [Kr]
 | int i=>simp [Kr]
 | str z=>simp [Kr]
 | _=>exact absurd (show false=true from h) Bool.false_ne_true
theorem Mg:∀ {xs:List V},xs.all F_=true->YL xs xs=true
 | [],_=>rfl
 | x::xs,h=>by
  rw [kN,ib] at h
  show (Kr x x && YL xs xs)=true
  rw [Vo h.1,Mg h.2]
  rfl
section
variable {X:Cx}
theorem Qh {xs:List V} {j:Nat} (h:xs.all F_=true) (hj:j<xs.length):F_ (xs.getD j .non)=true:=by
 have e:xs.getD j .non=xs[j]:=by simp [hj]
 rw [e]
 exact fh.mp h _ (eR hj)
theorem Vt {xs:List V} {us:List Value} {j:Nat} (r:Vals xs us) (hj:j<us.length):RelV (xs.getD j .non) us[j]:=by
 have hl:=r.length
 have hx:xs[j]? = some xs[j]:=by simp [hl,hj]
 obtain ⟨u,hu,ru⟩:=r.get hx
 rw [ae hj] at hu
 cases hu
 have e:xs.getD j .non=xs[j]:=by simp [hl,hj]
 rw [e]
 exact ru
end
end L2
namespace Wd
noncomputable def mk (l:List Nat):Nat:=l.foldl (fun s n=>s ||| 2 ^ n) 0
noncomputable def len (n:Nat):Nat:=if n=0 then 0 else n.log2+1
noncomputable def mem (n:Nat):List Nat:=(List.range (len n)).filter n.testBit
noncomputable def stay (l:List Nat) (k:Int) (c:Nat):List Nat:=l.filter fun n=>decide (0<=(n:Int)+k) && decide ((n:Int)+k<c)
end Wd
namespace L2
open PySem PySem.Spec PySem.Calls PyProof.Rows
theorem QR:∀ {xs:List V} {us:List Value},xs.length=us.length->(∀ (j:Nat) x u,xs[j]? = some x->us[j]? = some u->RelV x u)->Vals xs us
 | [],[],_,_=>.nil
 | [],_::_,h,_=>by simp at h
 | _::_,[],h,_=>by simp at h
 | x::xs,u::us,h,f=>.cons (f 0 x u rfl rfl) (QR (by simpa using h) fun j y v hy hv=>f (j+1) y v (by simpa using hy) (by simpa using hv))
noncomputable def UV (K:PySem.W.Frag) (a b:Addr):It :=
 ⟨fun i H=>∃ xs ys x y,CZ K H a xs/\CZ K H b ys/\xs[i]? = some x/\ys[i]? = some y,fun i H v H'=>∃ T,H T=none/\v=.ref T/\∀ xs ys,CZ K H a xs->CZ K H b ys->∃ x y,xs[i]? = some x/\ys[i]? = some y/\H'=upd H T (.tup [x,y]),
  fun i H=>∃ xs ys,CZ K H a xs/\CZ K H b ys/\(xs.length<=i \/ ys.length<=i)⟩
theorem RM {P:Program} {w:World} {K:PySem.W.Frag} {es:List Expr} {k1:Nat} {pos:Pos} (a b n:Nat) (ha:a<n) (hb:b<n) :
  Turn P w K (.Tuple es k1 pos) (UV K a b) [n,n+1,n+2,n+3,n+4] (n+4) (fun i h=>IsZip h (n+4) (n+2) (n+3) .none/\IsPair h (n+2) (.ref n) (.ref (n+1))/\(∃ x y,IsPair h (n+3) x y)/\h.IsListIter n a i/\h.IsListIter (n+1) b i) where
 mem:=by simp
 obj:=fun i h st c hc=>by
  obtain ⟨hz,hI,⟨x,y,hO⟩,⟨o1,e1,_,d1⟩,⟨o2,e2,_,d2⟩⟩:=st
  refine Rb (P:=fun c=>∃ o,h.get? c=some o/\∀ v,o.data ≠ .cell v) ⟨_,e1,fun v z=>?_⟩ ⟨_,e2,fun v z=>?_⟩ ⟨_,hI,fun v z=>?_⟩ ⟨_,hO,fun v z=>?_⟩ ⟨_,hz,fun v z=>?_⟩ hc
  ·rw [d1] at z; cases z
  ·rw [d2] at z; cases z
  ·have z':Data.seq _ _=Data.cell v:=z
   cases z'
  ·have z':Data.seq _ _=Data.cell v:=z
   cases z'
  ·have z':Data.fields _=Data.cell v:=z
   cases z'
 keep:=fun i h h' st k=>by
  obtain ⟨hz,hI,⟨x,y,hO⟩,j1,j2⟩:=st
  exact ⟨k _ (by simp) _ hz,k _ (by simp) _ hI,⟨x,y,k _ (by simp) _ hO⟩,j1.at fun o q=>k _ (by simp) o q,j2.at fun o q=>k _ (by simp) o q⟩
 item:=by
  intro X hP hw hK hc i pins s σ H E I hf st hg
  subst hP hw hK
  obtain ⟨xs,ys,x,y,q1,q2,hx,hy⟩:=hg
  obtain ⟨it1,r1,p1,_⟩:=I.list q1
  obtain ⟨it2,r2,p2,_⟩:=I.list q2
  obtain ⟨u,hu,ru⟩:=r1.get hx
  obtain ⟨v,hv,rv⟩:=r2.get hy
  obtain ⟨hz,hI,⟨x0,y0,hO⟩,j1,j2⟩:=st
  have D:=MN ha hb
  have sz:n+4<s.heap.objs.size:=Heap.lt_size hz
  refine wpAny_pyNext_zip_item D hz hI hO j1 j2 p1.isList p2.isList (x:=u) (y:=v) (by simpa using hu) (by simpa using hv) fun h1 n1 n2 n3 n4 n5 n6 n7=>?_
  refine ⟨_,rfl,wpAny_letOwnedTupleGo_zip (s:={ s with heap:=h1 }) n1 fun h2 m1 m2=>?_⟩
  have fr:H s.heap.objs.size=none:=I.hok.fresh (ah _)
  have nw:By X.prog X.w (upd H s.heap.objs.size (.tup [x,y])) h2 s.heap.objs.size (.tup [x,y]) :=
   ⟨by show 2<=sizeLine; decide,[u,v],.cons ru (.cons rv .nil),_,m2.extBut _ _ (Nat.ne_of_gt sz) n5,rfl,_,rfl⟩
  have hI2:IsPair h1 (n+2) (.ref n) (.ref (n+1)):=n7 _ _ D.TIz D.TITO D.TIi1 D.TIi2 hI
  refine ⟨.ref s.heap.objs.size,_,I.JV (t':=s.toks) (ch:=[n,n+1,n+2,n+3,n+4]) hf (fun c o hc q=>?_) (ah _) nw,rfl,⟨_,fr,rfl,fun xs' ys' h1 h2=>⟨x,y,by rw [I.Hk h1 q1]; exact hx,by rw [I.Hk h2 q2]; exact hy,rfl⟩⟩,
   ⟨m1,m2.extBut _ _ D.TIz hI2,⟨u,v,m2.extBut _ _ D.TOz n2⟩,n3.at fun o q=>m2.extBut _ _ D.i1z q,n4.at fun o q=>m2.extBut _ _ D.i2z q⟩,fun c hc=>?_⟩
  ·have z:∀ d,d∈[n,n+1,n+2,n+3,n+4]->c ≠ d:=fun d hd q=>hc (q ▸ hd)
   exact m2.extBut _ _ (z _ (by simp)) (n7 c o (z _ (by simp)) (z _ (by simp)) (z _ (by simp)) (z _ (by simp)) q)
  ·rw [Am ?_]
   ·exact (hf c hc).1
   ·have lt:c<=n+4:=Rb (P:=fun c=>c<=n+4) (by omega) (by omega) (by omega) (by omega) (ah _) hc
    exact aS (bv lt sz)
 done:=by
  intro X hP hw hK hc i pins s σ H E I hf st hg
  subst hP hw hK
  obtain ⟨xs,ys,q1,q2,hx⟩:=hg
  obtain ⟨it1,r1,p1,_⟩:=I.list q1
  obtain ⟨it2,r2,p2,_⟩:=I.list q2
  obtain ⟨hz,hI,⟨x0,y0,hO⟩,j1,j2⟩:=st
  have D:=MN ha hb
  have l1:=r1.length
  have l2:=r2.length
  refine wpAny_pyNext_zip_end (I.ok.hd hc) D hz hI hO j1 j2 p1.isList p2.isList (by rcases hx with h | h; exact .inl (by simp; omega); exact .inr (by simp; omega)) fun h1 k1=>?_
  refine ⟨rfl,I.Lz (t':=s.toks) (ch:=[n,n+1,n+2,n+3,n+4]) hf fun c o hc q=>?_⟩
  have z:∀ d,d∈[n,n+1,n+2,n+3,n+4]->c ≠ d:=fun d hd q=>hc (q ▸ hd)
  exact k1 c o (z _ (by simp)) (z _ (by simp)) (z _ (by simp)) (z _ (by simp)) q
 self:=fun _ _ _ _ _ st h=>wpAny_pyIter_zip st.1 h
section
variable {X:Cx} {es:List Expr} {k1:Nat} {tpos:Pos}
noncomputable def eQ (K:PySem.W.Frag) (ta:TA):TI:=fun σ H R=>ta σ H fun vs H1=>∃ a b,vs=[.ref a,.ref b]/\(∃ xs,CZ K H1 a xs)/\(∃ ys,CZ K H1 b ys)/\R (UV K a b) H1
theorem WR {x y:Expr} {ta:TA} {p pos:Pos} (hg:Gl X "zip") (hm:X.mg "zip" = none) (ha:PA X [x,y] ta) (hs:starEach [x,y] X.env=[(false,eval x X.env),(false,eval y X.env)]:=by rfl) (hs2:starEach [y] X.env=[(false,eval y X.env)]:=by rfl) :
  PI X (.Tuple es k1 tpos) (.Call (.Name "zip" p) [x,y] [] pos) (eQ X.K ta):=by
 intro pins s σ H R I h
 refine Call_ (Ft I hg hm boot_zip (PyProof.Rows.callWith_type1 (Bq (ha pos pins s σ H _ I h) fun us s1 ⟨vs,H1,I1,r1,q1⟩=>?_) (by rw [hs,hs2]) (by rw [hs2]; rfl)))
 obtain ⟨a,b,e,⟨xs,q1⟩,⟨ys,q2⟩,q⟩:=q1
 subst e
 obtain ⟨u,v,rfl,ru,rv⟩:=Vals.two r1
 cases ru
 cases rv
 obtain ⟨it1,r1,p1,_⟩:=I1.list q1
 obtain ⟨it2,r2,p2,_⟩:=I1.list q2
 have l1:a<s1.heap.objs.size:=by obtain ⟨_,e,_⟩:=p1.isList; exact Heap.lt_size e
 have l2:b<s1.heap.objs.size:=by obtain ⟨_,e,_⟩:=p2.isList; exact Heap.lt_size e
 refine call_zip_2 p1.isList p2.isList fun h1 n1 n2 n3 n4 n5 n6 n7=>?_
 refine wpAny_pyIter_zip (s:={ s1 with heap:=h1 }) n1 ?_
 refine ⟨_,[s1.heap.objs.size,s1.heap.objs.size+1,s1.heap.objs.size+2,s1.heap.objs.size+3,s1.heap.objs.size+4],_,_,H1,rfl,I1.kept (t':=s1.toks) n7,RM a b s1.heap.objs.size l1 l2,⟨n1,n2,⟨_,_,n3⟩,n4,n5⟩,fun c hc=>?_,q⟩
 have lt:s1.heap.objs.size<=c:=Rb (P:=fun c=>s1.heap.objs.size<=c) (by omega) (by omega) (by omega) (by omega) (by omega) hc
 exact I1.JL lt (I1.hok.fresh lt)
theorem GK (hc:X.calm=true):Du X (.type "list") (fun xs H Q=>∃ (a:Addr) (kvs:List (Key × V)) (js:List Int),xs=[V.ref a]/\H a=some (.dK kvs)/\kvs.map (·.1)=js.map Sum.inl/\∀ l,H l=none->Q (.ref l) (upd H l (.lst (js.map V.int)))):=by
 intro pins s σ H xs us Q I r h
 obtain ⟨a,kvs,js,rfl,ha,hj,q⟩:=h
 obtain ⟨u,rfl,ru⟩:=vals1 r
 cases ru
 obtain ⟨hz,lo,vs,rel,o,es,ep,e1,e2,e3,e4,e5,e6⟩:=I.hok a _ ha
 have hl:kvs.length=vs.length:=Paired.length rel
 have hda:s.heap.DictAt (CK X.prog X.w) a vs ep:=⟨o,es,e1,e2,e3,e4,e5,e6⟩
 refine PySem.W.kdl_call (PySem.W.kdl_dict (knd:=CK X.prog X.w) (kvs:=vs) (ep:=ep) lo) (I.ok.hd hc) hda (by omega) ?_
 intro h' tk acc' c' hk hD hacc
 have hjl:js.length=vs.length:=by
  have:=congrArg List.length hj
  rw [ag,ag] at this
  omega
 have hv:Vals (js.map V.int) acc'.toList:=by
  refine QR (by have h1:acc'.toList.length=acc'.size:=Array.length_toList; have h2:=hacc.1; rw [ag]; omega) fun j x u hx hu=>?_
  rw [Array.getElem?_toList] at hu
  obtain ⟨k,y,hk1,hk2⟩:=hacc.2 j u hu
  rw [ax] at hx
  obtain ⟨i,hi,rfl⟩:=aE.mp hx
  have e1:(kvs.map (·.1))[j]? = some (Sum.inl i):=by rw [hj,ax,hi]; rfl
  rw [ax] at e1
  obtain ⟨kv,hkv,ekv⟩:=aE.mp e1
  have rel':∀ {l:List (Key × V)} {m:List (Key × Value)},KV l m->∀ {j:Nat} {p q},l[j]? = some p->m[j]? = some q->p.1=q.1:=by
   intro l m h
   unfold KV at h
   induction h with
   | nil=>intro j p q hp; simp at hp
   | cons a b ih =>
    intro j p q hp hq
    cases j with
    | zero =>
     simp at hp hq
     subst hp hq
     exact a.1
    | succ j=>exact ih (by simpa using hp) (by simpa using hq)
  have e2:=rel' rel hkv hk1
  rw [ekv] at e2
  have e3:k=Sum.inl i:=e2.symm
  subst e3
  rcases CQ (show JT (Sum.inl i) u=true from hk2) with ⟨i',t,e,rfl⟩ | ⟨x,t,e,_⟩
  ·cases e
   exact ⟨t,rfl⟩
  ·cases e
 refine ⟨.ref s.heap.objs.size,_,I.laid (t':=tk) (o:=.lst (js.map V.int)) hk (Nat.le_refl _) ⟨by rw [List.length_map]; omega,acc'.toList,c',hv,by simpa using hD⟩,rfl,q _ (I.hok.fresh (Nat.le_refl _))⟩
end
end L2
namespace Wd
open PySem
noncomputable abbrev TY (xs:Array Nat):Prop:=xs.toList.Pairwise (· < ·)
theorem MT {xs:Array Nat} (r:TY xs) {i k:Nat} (h:i<k) (hk:k<xs.size):xs.getD i 0<xs.getD k 0:=by
 have hi:i<xs.size:=kK h hk
 have:=(List.pairwise_iff_getElem.mp r) i k (by simpa using hi) (by simpa using hk) h
 simpa [Array.getD,hi,hk] using this
structure Cut (xs:Array Nat) (j p:Nat):Prop where
 le:p<=xs.size
 lo:∀ i,i<p->xs.getD i 0<j
 hi:∀ i,p<=i->i<xs.size->j<=xs.getD i 0
theorem Ji {xs:Array Nat} (r:TY xs) (j:Nat):∀ (fuel lo hi:Nat),hi<=xs.size->hi - lo<=fuel->lo<=hi->(∀ i,i<lo->xs.getD i 0<j)->(∀ i,hi<=i->i<xs.size->j<=xs.getD i 0)->Cut xs j (SetTable.below.go xs j fuel lo hi)
 | 0,lo,hi,h1,h2,h3,a,b=>by
  have e:lo=hi:=by omega
  subst e
  exact ⟨h1,a,b⟩
 | fuel+1,lo,hi,h1,h2,h3,a,b=>by
  unfold SetTable.below.go
  split
  ·rename_i hlt
   have hm:(lo+hi) / 2<xs.size:=by omega
   have e:xs.getD ((lo+hi) / 2) j=xs.getD ((lo+hi) / 2) 0:=by simp [Array.getD,hm]
   dsimp only
   rw [e]
   by_cases hj:xs.getD ((lo+hi) / 2) 0<j
   ·rw [if_pos hj]
    refine Ji r j fuel ((lo+hi) / 2+1) hi h1 (by omega) (by omega) (fun i hi'=>?_) b
    by_cases q:i=(lo+hi) / 2
    ·rw [q]; exact hj
    ·have:=MT r (i:=i) (k:=(lo+hi) / 2) (by omega) hm
     omega
   ·rw [if_neg hj]
    refine Ji r j fuel lo ((lo+hi) / 2) (by omega) (by omega) (by omega) a fun i hi' hs=>?_
    by_cases q:i=(lo+hi) / 2
    ·rw [q]; omega
    ·have:=MT r (i:=(lo+hi) / 2) (k:=i) (by omega) hs
     omega
  ·have e:lo=hi:=by omega
   subst e
   exact ⟨h1,a,b⟩
theorem Ht {xs:Array Nat} (r:TY xs) (j:Nat):Cut xs j (SetTable.below xs j) :=
 Ji r j xs.size 0 xs.size (ah _) (by omega) (cm _) (fun i h=>absurd h (iq _)) (fun i h1 h2=>absurd h2 (by omega))
theorem PP {xs:Array Nat} {j:Nat} (r:TY xs) (h:xs[SetTable.below xs j]? ≠ some j):j ∉ xs.toList:=fun hm=>by
 have c:=Ht r j
 obtain ⟨i,hi,e⟩:=gp.mp hm
 have hi':i<xs.size:=by simpa using hi
 have ei:xs.getD i 0=j:=by simpa [Array.getD,hi'] using e
 have h1:SetTable.below xs j<=i:=by
  rcases Nat.lt_or_ge i (SetTable.below xs j) with q | q
  ·have:=c.lo i q; omega
  ·exact q
 have h2:SetTable.below xs j<xs.size:=bv h1 hi'
 have h3:=c.hi _ (ah _) h2
 have h4:SetTable.below xs j=i:=by
  rcases Nat.lt_or_ge (SetTable.below xs j) i with q | q
  ·have:=MT r q hi'; omega
  ·omega
 refine h ?_
 have e':xs[i]=j:=by simpa [Array.getD,hi'] using ei
 rw [h4,Array.getElem?_eq_getElem hi',e']
theorem PK {xs:Array Nat} {j:Nat} (r:TY xs) (h:xs[SetTable.below xs j]? ≠ some j):TY (SetTable.insertAt xs (SetTable.below xs j) j):=by
 have c:=Ht r j
 have nm:=PP r h
 show (SetTable.insertAt xs (SetTable.below xs j) j).toList.Pairwise _
 rw [SetTable.toList_insertAt,fF,gL]
 have lt1:∀ a∈xs.toList.take (SetTable.below xs j),a<j:=fun a ha=>by
  obtain ⟨i,hi,e⟩:=gp.mp ha
  rw [ci] at hi
  have hi2:i<xs.size:=by simp at hi; omega
  have:=c.lo i (by omega)
  simp [Array.getD,hi2] at this
  rw [List.getElem_take] at e
  rw [← e]
  simpa using this
 have Q9:∀ a∈xs.toList.drop (SetTable.below xs j),j<a:=fun a ha=>by
  obtain ⟨i,hi,e⟩:=gp.mp ha
  rw [gE] at hi
  have hi2:SetTable.below xs j+i<xs.size:=by simp at hi; omega
  have:=c.hi (SetTable.below xs j+i) (Nat.le_add_right _ _) hi2
  simp [Array.getD,hi2] at this
  rw [List.getElem_drop] at e
  have hle:j<=a:=by rw [← e]; simpa using this
  have hne:j ≠ a:=fun z=>nm (by rw [z]; exact List.mem_of_mem_drop ha)
  omega
 exact ⟨r.sublist (List.take_sublist _ _),⟨Q9,r.sublist (List.drop_sublist _ _)⟩,fun a ha b hb=>by
  rcases bi.mp hb with e | hb
  ·rw [e]; exact lt1 a ha
  ·have:=lt1 a ha; have:=Q9 b hb; omega⟩
theorem Ru {t:SetTable} {j:Nat} (h:∀ i,t.slot j ≠ .live i):t.place[SetTable.below t.place j]? ≠ some j:=fun e=>by
 refine h (SetTable.below t.place j) ?_
 unfold SetTable.slot
 dsimp only
 rw [e]
 simp
theorem G4 (t:SetTable) (p:SetTable.Probe):(t.advance p).dummy=p.dummy:=by
 unfold SetTable.advance
 split <;> rfl
theorem G8 {t:SetTable} {f:Nat->Int} {h:Int}:∀ (fuel:Nat) (p:SetTable.Probe) (j:Nat) (dm:Option Nat),(∀ d,p.dummy=some d->t.slot d=.dummy)->SetTable.probe.go t f h fuel p=some (.empty j dm) ->
  t.slot j=.empty/\∀ d,dm=some d->t.slot d=.dummy
 | 0,p,j,dm,hd,e=>by unfold SetTable.probe.go at e; cases e
 | fuel+1,p,j,dm,hd,e=>by
  unfold SetTable.probe.go at e
  split at e
  ·rename_i hs
   cases e
   exact ⟨hs,hd⟩
  ·rename_i hs
   refine G8 fuel _ j dm (fun d q=>?_) e
   rw [G4] at q
   cases q
   exact hs
  ·split at e
   ·cases e
   ·refine G8 fuel _ j dm (fun d q=>?_) e
    rw [G4] at q
    exact hd d q
theorem SJ {t:SetTable} {h:Int} {j:Nat} {d:Bool} (e:t.freeSlot h=some (j,d)):∀ i,t.slot j ≠ .live i:=by
 unfold SetTable.freeSlot at e
 split at e
 ·rename_i j' dm q
  unfold SetTable.probe at q
  obtain ⟨h1,h2⟩:=G8 _ _ _ _ (fun d hd=>by simp [SetTable.probeStart] at hd) q
  cases dm with
  | none=>cases e; intro i z; rw [show (none:Option Nat).getD j'=j' from rfl,h1] at z; cases z
  | some d' =>
   cases e
   intro i z
   rw [show (some d').getD j'=d' from rfl,h2 d' rfl] at z
   cases z
 ·cases e
structure Good (t:SetTable) (led:Bool):Prop where
 led:t.led=led
 ris:t.plain=true->TY t.place
theorem Oe (led:Bool):Good (.fresh 0 0 led) led:=⟨rfl,fun _=>by simp [SetTable.fresh,TY]⟩
theorem Fv {t:SetTable} {led:Bool} (g:Good t led) (n:Nat):Good (t.standIn n) led:=⟨g.led,fun h=>by simp [SetTable.standIn] at h⟩
theorem XS {t:SetTable} {led:Bool} (g:Good t led) (n:Nat):Good (t.orStandIn n) led:=by
 unfold SetTable.orStandIn
 split
 ·exact g
 ·exact Fv g n
theorem UW {t:SetTable} {led:Bool} (g:Good t led) (es:Array (Int × Value)) (h:Int) (x:Value):Good (layNew t es h x).2.1 led:=by
 unfold layNew
 split
 ·rename_i slot wd e
  refine XS (t:=(t.put slot).1) ⟨g.led,fun hp=>?_⟩ _
  exact PK (g.ris hp) (Ru (SJ e))
 ·exact Fv g _
theorem RL {mask finger moves:Nat} {led plain:Bool} {hs:Array Int} {t:SetTable} {o:Array Nat} (e:SetTable.laid mask finger moves led plain hs=some (t,o)):Good t led/\t.plain=plain:=by
 unfold SetTable.laid at e
 simp only [Option.bind_eq_bind,Option.bind_eq_some_iff] at e
 obtain ⟨owner,_,e⟩:=e
 cases e
 refine ⟨⟨rfl,fun _=>?_⟩,rfl⟩
 show List.Pairwise _ ((List.map _ _).toArray).toList
 rw [fo,List.pairwise_filterMap]
 refine List.pairwise_lt_range.imp fun {a b} hab x hx y hy=>?_
 obtain ⟨u,_,rfl⟩:=aE.mp hx
 obtain ⟨v,_,rfl⟩:=aE.mp hy
 exact hab
theorem O7 {t:SetTable} {led:Bool} (g:Good t led) (es:Array (Int × Value)) (n:Nat):Good (relayAll t es n).2.1 led:=by
 unfold relayAll
 split
 ·rename_i t' order e
  dsimp only
  split
  ·have:=RL e
   rw [g.led] at this
   exact this.1
  ·exact Fv g _
 ·exact Fv g _
theorem Qm {α:Type} [DecidableEq α]:∀ {l m:List α},l.Nodup->(∀ x∈l,x∈m)->m.length<=l.length->l.Perm m
 | [],m,_,_,h=>by
  have:m=[]:=List.eq_nil_of_length_eq_zero (by simpa using h)
  rw [this]
 | a::l,m,nd,hs,h=>by
  obtain ⟨n1,n2⟩:=fR.mp nd
  have ha:=hs a am
  have p:=List.perm_cons_erase ha
  have hl:=p.length_eq
  refine (List.Perm.cons a (Qm n2 (fun x hx=>?_) ?_)).trans p.symm
  ·have hx':=p.mem_iff.mp (hs x (av _ hx))
   rcases bi.mp hx' with e | e
   ·exact absurd (e ▸ hx) n1
   ·exact e
  ·simp only [List.length_cons] at hl h
   omega
end Wd
namespace Wd
open PySem PySem.Spec PyProof.Rows
noncomputable def GD (prog:Program) (w:World) (h:Heap) (a:Addr) (led:Bool) (σ:List Int):Prop :=
 ∃ es ep t,h.get? a=some { cls:=.type "set",dict:=none,data:=.set es ep t }/\ElemsOf (intKind prog w) es.toList/\(∀ k,k∈σ ↔ ∃ e∈es.toList,(intKind prog w).is k e.2=true)/\es.size=σ.length/\σ.Nodup /\
  σ.length<scanBound/\t.fits es.size=true/\Good t led
noncomputable def Ex (σ:List Int) (k:Int):List Int:=if k∈σ then σ else σ++[k]
section
variable {prog:Program} {w:World} {A:Around} {E:Value->Shared->Prop} {s:Shared} {a:Addr} {led:Bool} {σ:List Int} {k:Int} {tk:Tok}
theorem QT {h:Heap} {es es':Array (Int × Value)} {ep:Nat} {t t':SetTable} (ho:h.get? a=some { cls:=.type "set",dict:=none,data:=.set es ep t }) :
  (h.update a (Obj.putSet es' t')).get? a=some { cls:=.type "set",dict:=none,data:=.set es' (ep+1) t' } :=
 (Heap.get?_update_self (Obj.putSet es' t') ho (by rw [putSet_of es' t' rfl]; rfl)).trans (by rw [putSet_of es' t' rfl])
theorem cX {Q:Bool->Shared->Prop} (hS:GD prog w s.heap a led σ) (room:σ.length+1<scanBound)
  (h:∀ b h',Heap.SameBut a s.heap h'->GD prog w h' a led (Ex σ k)->Q b { s with heap:=h' }):wpAny (model prog w) A (setAddHashed a (.int k tk) ((intKind prog w).hash k)) Q E s:=by
 obtain ⟨es,ep,t,ho,hel,hmem,hn,nd,hb,hf,g⟩:=hS
 have hkey:(intKind prog w).is k (.int k tk)=true:=intKind_is _ _ _ _
 have hbe:es.size<scanBound:=by rw [hn]; exact hb
 unfold setAddHashed setAddHashedIn
 refine wpAny_holding (wpAny_bind (wpAny_setState_of ho rfl hf ?_))
 dsimp only
 rw [byScan_of rfl hbe hel,if_pos rfl]
 unfold setAddByScan
 refine wpAny_bind (wpAny_bind (wpAny_rule (wpAny_bind (wpAny_setScan_of hkey ho rfl hf hel ?_))))
 cases hr:List.findIdx? (fun e=>(intKind prog w).is k e.2) es.toList with
 | some j =>
  obtain ⟨hj,hpj,_⟩:=List.findIdx?_eq_some_iff_getElem.mp hr
  have hk:k∈σ:=(hmem k).mpr ⟨_,eR hj,hpj⟩
  refine wpAny_pure (wpAny_pure ?_)
  have:=h false s.heap (Heap.SameBut.refl a s.heap) (by unfold Ex; rw [if_pos hk]; exact ⟨es,ep,t,ho,hel,hmem,hn,nd,hb,hf,g⟩)
  exact this
 | none =>
  have hk:k ∉ σ:=fun q=>by
   obtain ⟨e,he,hp⟩:=(hmem k).mp q
   have:=List.findIdx?_eq_none_iff.mp hr e he
   rw [hp] at this
   cases this
  dsimp only
  have hperm:=layNew_perm t es ((intKind prog w).hash k) (.int k tk)
  have hfits:=layNew_fits t es ((intKind prog w).hash k) (.int k tk)
  have hgood:=UW g es ((intKind prog w).hash k) (.int k tk)
  generalize layNew t es ((intKind prog w).hash k) (.int k tk)=L at hperm hfits hgood ⊢
  obtain ⟨es1,t1,wd,gave⟩:=L
  dsimp only at hperm hfits hgood ⊢
  rw [Array.toList_push] at hperm
  have hel1:ElemsOf (intKind prog w) es1.toList:=(hel.push hkey rfl).perm hperm
  have sz1:es1.size=(σ++[k]).length:=by
   have:=hperm.length_eq
   simp only [List.length_append,Array.length_toList,List.length_singleton] at this
   simp only [List.length_append,List.length_singleton]
   omega
  have mem1:∀ k',k'∈σ++[k] ↔ ∃ e∈es1.toList,(intKind prog w).is k' e.2=true:=fun k'=>by
   have:=mem_push_iff (knd:=intKind prog w) (S:=fun k'=>decide (k'∈σ)) hkey (fun k'=>by rw [decide_eq_true_eq]; exact hmem k') hperm k'
   rw [← this]
   simp
  have nd1:(σ++[k]).Nodup:=List.nodup_append.mpr ⟨nd,by simp,fun x hx y hy=>by
   rw [ai.mp hy]
   intro q
   exact hk (q ▸ hx)⟩
  have hb1:(σ++[k]).length<scanBound:=by simp only [List.length_append,List.length_singleton]; exact room
  have hb1':es1.size<scanBound:=by rw [sz1]; exact hb1
  have fin:∀ (es2:Array (Int × Value)) (t2:SetTable) (ep2:Nat) (h2:Heap),Heap.SameBut a s.heap h2->h2.get? a=some { cls:=.type "set",dict:=none,data:=.set es2 ep2 t2 }->es2.toList.Perm es1.toList->t2.fits es2.size=true->Good t2 led ->
    Q true { s with heap:=h2 }:=fun es2 t2 ep2 h2 sb e2 p2 f2 g2=>by
   refine h true h2 sb ?_
   unfold Ex
   rw [if_neg hk]
   refine ⟨es2,ep2,t2,e2,hel1.perm p2,fun k'=>(mem1 k').trans ⟨fun ⟨e,he,q⟩=>⟨e,p2.mem_iff.mpr he,q⟩,fun ⟨e,he,q⟩=>⟨e,p2.mem_iff.mp he,q⟩⟩,?_,nd1,hb1,f2,g2⟩
   rw [← Array.length_toList,p2.length_eq,Array.length_toList,sz1]
  have tail:∀ (t2:SetTable),t2.fits es1.size=true->Good t2 led->wpAny (model prog w) A (do
    storeSet a es1 t2
    if (!wd && t2.tooFull)=true then do
      (match (relayAll t2 es1 (SetTable.grown es1.size)).2.2 with | true=>rule "set.scan.the-table-gave-way" | false=>pure ())
      storeSet a (relayAll t2 es1 (SetTable.grown es1.size)).1 (relayAll t2 es1 (SetTable.grown es1.size)).2.1
      pure (some true)
     else pure (some true)) (fun r s'=>match r with | some b=>Q b s' | none=>False) E s:=fun t2 f2 g2=>by
   refine wpAny_bind (wpAny_storeSet_of ho rfl ?_ (fits_of_scanBound hb1'))
   have sb1:=Heap.SameBut.update s.heap a (Obj.putSet es1 t2)
   have e1:=QT (es':=es1) (t':=t2) ho
   split
   ·have hp:=relayAll_perm t2 es1 (SetTable.grown es1.size)
    have hq:=relayAll_fits t2 es1 (SetTable.grown es1.size)
    have hg:=O7 g2 es1 (SetTable.grown es1.size)
    generalize relayAll t2 es1 (SetTable.grown es1.size)=R at hp hq hg ⊢
    obtain ⟨es2,t3,gv⟩:=R
    dsimp only at hp hq hg ⊢
    have hb2:es2.size<scanBound:=by rw [← Array.length_toList,hp.length_eq,Array.length_toList]; exact hb1'
    have last:wpAny (model prog w) A (do storeSet a es2 t3; pure (some true)) (fun r s'=>match r with | some b=>Q b s' | none=>False) E { s with heap:=s.heap.update a (Obj.putSet es1 t2) }:=by
     refine wpAny_bind (wpAny_storeSet_of e1 rfl ?_ (fits_of_scanBound hb2))
     exact wpAny_pure (fin es2 t3 _ _ (sb1.trans (Heap.SameBut.update _ a _)) (QT e1) hp hq hg)
    cases gv
    ·exact wpAny_bind (wpAny_pure last)
    ·exact wpAny_bind (wpAny_rule last)
   ·exact wpAny_pure (fin es1 t2 _ _ sb1 e1 (List.Perm.refl _) f2 g2)
  have tail':∀ (t2:SetTable),t2.fits es1.size=true->Good t2 led->wpAny (model prog w) A (do
    storeSet a es1 t2
    if (!wd && t2.tooFull)=true then do
      (match (relayAll t2 es1 (SetTable.grown es1.size)).2.2 with | true=>rule "set.scan.the-table-gave-way" | false=>pure ())
      storeSet a (relayAll t2 es1 (SetTable.grown es1.size)).1 (relayAll t2 es1 (SetTable.grown es1.size)).2.1
      pure (some true)
     else pure (some true)) (fun r s'=>wpAny (model prog w) A (match r with | some added=>pure added | none=>setAddHashedIn a (.int k tk) ((intKind prog w).hash k) 99999) Q E s') E s:=fun t2 f2 g2 =>
   wpAny_mono (tail t2 f2 g2) (fun r s' q=>by
    cases r with
    | none=>exact q.elim
    | some b=>exact wpAny_pure q) fun _ _ e=>e
  have mid:wpAny (model prog w) A (do
    let byValue ← if t1.plain then hashByValue 8 (.int k tk) else pure true
    let t2:=if byValue=true then t1 else { t1 with plain:=false }
    storeSet a es1 t2
    if (!wd && t2.tooFull)=true then do
      (match (relayAll t2 es1 (SetTable.grown es1.size)).2.2 with | true=>rule "set.scan.the-table-gave-way" | false=>pure ())
      storeSet a (relayAll t2 es1 (SetTable.grown es1.size)).1 (relayAll t2 es1 (SetTable.grown es1.size)).2.1
      pure (some true)
     else pure (some true)) (fun r s'=>wpAny (model prog w) A (match r with | some added=>pure added | none=>setAddHashedIn a (.int k tk) ((intKind prog w).hash k) 99999) Q E s') E s:=by
   split
   ·rw [hashByValue_scannable 8 rfl]
    exact wpAny_bind (wpAny_pure (tail' t1 hfits hgood))
   ·exact wpAny_bind (wpAny_pure (tail' t1 hfits hgood))
  cases gave
  ·exact wpAny_bind (wpAny_pure mid)
  ·exact wpAny_bind (wpAny_rule mid)
end
end Wd
namespace Wd
open PySem PySem.Spec PyProof.Rows
theorem GD.keep {prog:Program} {w:World} {h h':Heap} {a:Addr} {led:Bool} {σ:List Int} (g:GD prog w h a led σ) (k:∀ o,h.get? a=some o->h'.get? a=some o):GD prog w h' a led σ :=
 let ⟨es,ep,t,e,r⟩:=g; ⟨es,ep,t,k _ e,r⟩
theorem S5 (σ:List Int) (k:Int):(Ex σ k).length<=σ.length+1:=by
 unfold Ex
 split
 ·omega
 ·simp
theorem En:∀ (ns:List Int) (σ:List Int),(ns.foldl Ex σ).length<=σ.length+ns.length
 | [],σ=>by simp
 | k::ns,σ=>by
  have h1:=En ns (Ex σ k)
  have h2:=S5 σ k
  simp only [List.foldl_cons,List.length_cons]
  omega
theorem Kz:∀ (ns:List Int) (σ:List Int) (x:Int),x∈ns.foldl Ex σ ↔ x∈σ \/ x∈ns
 | [],σ,x=>by simp
 | k::ns,σ,x=>by
  rw [List.foldl_cons,Kz ns (Ex σ k) x]
  unfold Ex
  split
  ·rename_i h
   simp only [List.mem_cons]
   constructor
   ·rintro (q | q)
    ·exact .inl q
    ·exact .inr (.inr q)
   ·rintro (q | q | q)
    ·exact .inl q
    ·exact .inl (q ▸ h)
    ·exact .inr q
  ·simp [or_assoc]
section
variable {prog:Program} {w:World} {A:Around} {R:Result->Shared->Prop} {I:Addr} {fp wr:List Addr} {G:Array GenState->Array GenState->Prop} {n:Nat} {P:Nat->Value->Prop} {St:Nat->Shared->Prop} {led:Bool}
theorem Yo (W:WalksS prog w A.in1 I fp wr G n P St) (S:Addr) (hSf:S ∉ fp) (ns:List Int) (hn:ns.length=n) (hval:∀ i v,P i v->∃ t,v=.int (ns.getD i 0) t) (hb:n+1<scanBound) :
  ∀ (k i:Nat) (s:Shared),n - i=k->i<=n->St i s->GD prog w s.heap S led ((ns.take i).foldl Ex []) ->
   (∀ s',Moved (S::wr) G s s'->GD prog w s'.heap S led (ns.foldl Ex [])->R (.ok (.ret .none)) s')->codeAny (model prog w) A (.builtin "set.update.loop" ⟨[.ref S,.ref I],[]⟩) R s:=by
 have nw:S ∉ wr:=fun z=>hSf (W.sub _ z)
 have up:∀ b∈wr,b∈S::wr:=fun b z=>av _ z
 intro k
 induction k with
 | zero =>
  intro i s hk hi st g hR
  obtain rfl:i=n:=by omega
  refine codeAny_builtin F.entry_set_update_loop ?_
  rw [Around.under_plainId F.plain_set_update_loop _]
  refine wpAny_bind (W.done s _ _ st fun s' m=>wpAny_pure (hR s' (m.mono up) ?_))
  rw [bq (by omega)] at g
  exact g.keep fun o e=>m.heap S o nw e
 | succ k ih =>
  intro i s hk hi st g hR
  have lt:i<n:=by omega
  refine codeAny_builtin F.entry_set_update_loop ?_
  rw [Around.under_plainId F.plain_set_update_loop _]
  refine wpAny_bind (W.item i s _ _ lt st fun v s' p st' m=>?_)
  obtain ⟨t,rfl⟩:=hval i v p
  have g':=g.keep (h':=s'.heap) fun o e=>m.heap S o nw e
  refine wpAny_bind (wpAny_holding (wpAny_holding (wpAny_bind ((intKind prog w).pyHash (k:=ns.getD i 0) (intKind_is _ _ _ _) ?_))))
  have room:((ns.take i).foldl Ex []).length+1<scanBound:=by
   have:=En (ns.take i) []
   rw [ci] at this
   simp at this
   omega
  have tk:ns.take (i+1)=ns.take i++[ns.getD i 0]:=by
   have hl:i<ns.length:=by omega
   rw [cf,ae hl]
   simp [hl]
  refine cX (s:={ s' with toks:=s'.toks+1 }) g' room fun b h' sb g2=>?_
  have g3:GD prog w h' S led ((ns.take (i+1)).foldl Ex []):=by
   rw [tk,hV]
   exact g2
  refine wpAny_pure ⟨plainId_quiet F.plain_set_update_loop _,ih (i+1) _ (by omega) lt (W.frame _ s' _ _ st' (iO _) fun b hb o e=>?_) g3 fun s'' m2 g4=>?_⟩
  ·rw [sb.2 b (fun z:b=S=>hSf (z ▸ hb))]
   exact e
  ·refine hR s'' (Moved.trans W.gtrans ((m.mono up).then_heap (iO _) fun b o hb e=>?_) m2) g4
   rw [sb.2 b (fun z:b=S=>hb (by rw [z]; exact am))]
   exact e
end
section
variable {prog:Program} {w:World} {A:Around} {E:Value->Shared->Prop} {s:Shared}
noncomputable abbrev DP (w:World):Bool:=!w.params.followText "set-order"
theorem XN (h:Heap):GD prog w (h.push { cls:=.type "set",dict:=none,data:=.set #[] 0 (.fresh 0 0 (DP w)) }) h.objs.size (DP w) [] :=
 ⟨#[],0,_,Heap.get?_push_size _ rfl,fun e he=>by simp at he,fun k=>by simp,rfl,.nil,by decide,by rfl,Oe _⟩
theorem cR (a:Value) {Q1:Value->Shared->Prop} (h:Q1 (.ref s.heap.objs.size) { s with heap:=s.heap.push { cls:=.type "set",dict:=none,data:=.set #[] 0 (.fresh 0 0 (DP w)) } }) :
  codeAny (model prog w) A (.call (.builtin "set.__new__") ⟨[.type "set",a],[]⟩) (wants Q1 E) s:=by
 refine codeAny_of_tree ?_
 show wpAny _ A.in1 (do checkBuiltinCall "set.__new__" ⟨[.type "set",a],[]⟩; again (.builtin "set.__new__" ⟨[.type "set",a],[]⟩)) _ _ s
 refine wpAny_bind (wpAny_of_eq (F.newCall_set_1 a) (wpAny_pure ⟨plainId_quiet F.plain_set_new _,codeAny_builtin F.entry_set_new ?_⟩))
 rw [Around.under_plainId F.plain_set_new _]
 unfold Builtin.«set.__new__» Builtin.Frozenset.newClass
 have hsub:=sub_set_self
 obtain ⟨hp,g,d,tk,os⟩:=s
 dsimp only
 wp_walk
 refine wpAny_askSetting (wpAny_pure ?_)
 dsimp only
 simp only [newObj]
 exact wpAny_bind (wpAny_alloc (wpAny_pure (wpAny_pure h)))
set_option maxHeartbeats 4000000 in
theorem Z1 {l:Addr} {items:Array Value} {ns:List Int} {Q:Value->Shared->Prop} (hh:A.handled=none) (hl:s.heap.IsList l items) (hi:IntsAre items.toList ns) (hb:ns.length+1<scanBound)
  (h:∀ h' tk,GD prog w h' s.heap.objs.size (DP w) (ns.foldl Ex [])->(∀ b o,s.heap.get? b=some o->h'.get? b=some o)->Q (.ref s.heap.objs.size) { s with heap:=h',toks:=tk }) :
  wpAny (model prog w) A (call (.type "set") [.ref l]) Q E s:=by
 obtain ⟨c,tl,hmro⟩:=F.called_set.mro
 have hmade:=F.called_set.made
 have hsub:=F.called_set.sub
 have hlen:items.size=ns.length:=by rw [← IntsAre.length hi]; simp
 refine wpAny_call (codeAny_of_tree ?_)
 show wpAny _ _ (callAny (.type "set") _) _ _ _
 refine wpAny_pure ⟨Code.quiet_builtin _ (by decide +kernel),codeAny_builtin F.entry_type_call ?_⟩
 rw [Around.under_plain (weight_type_call_type "set" [.ref l] []) rfl]
 have h1:=F.called_set.notType
 have h2:=F.called_set.canCreate
 have hct:=F.typeCall_set_1 (.ref l)
 repeat (any_goals (first | assumption | wp_step))
 refine codeAny_mono (cR (.ref l) (E:=E) (Q1:=fun obj s1=>obj=.ref s.heap.objs.size/\s1 = { s with heap:=s.heap.push { cls:=.type "set",dict:=none,data:=.set #[] 0 (.fresh 0 0 (DP w)) } }) ⟨rfl,rfl⟩) fun r s1 hr=>?_
 rcases r with e | fl
 ·exact hr
 obtain ⟨obj,rfl,hr⟩:∃ obj,fl=.ret obj/\(obj=.ref s.heap.objs.size/\s1 = { s with heap:=s.heap.push { cls:=.type "set",dict:=none,data:=.set #[] 0 (.fresh 0 0 (DP w)) } }):=by
  cases fl with
  | ret v=>exact ⟨v,rfl,hr⟩
  | _=>exact hr.elim
 obtain ⟨rfl,rfl⟩:=hr
 have hS:(s.heap.push { cls:=.type "set",dict:=none,data:=.set #[] 0 (.fresh 0 0 (DP w)) }).get? s.heap.objs.size=some { cls:=.type "set",dict:=none,data:=.set #[] 0 (.fresh 0 0 (DP w)) }:=Heap.get?_push_size _ rfl
 have hT:Shared.TypeIs { s with heap:=s.heap.push { cls:=.type "set",dict:=none,data:=.set #[] 0 (.fresh 0 0 (DP w)) } } (.ref s.heap.objs.size) "set":=⟨_,hS,rfl⟩
 have hli:=F.called_set.init.lookup
 have hbi:=F.called_set.init.bind (.ref s.heap.objs.size)
 repeat (any_goals (first | assumption | wp_step))
 refine codeAny_mono (codeAny_call_builtin (R:=wants (fun r s2=>r=.none/\∃ h' tk,s2 = { s with heap:=h',toks:=tk }/\GD prog w h' s.heap.objs.size (DP w) (ns.foldl Ex [])/\∀ b o,s.heap.get? b=some o->h'.get? b=some o) E)
  F.called_set.init.plain F.entry_set_init (check_set_init_1 hT ?_)) fun r2 s2 hr2=>?_
 ·obtain ⟨ol,hol,hcl,nl,hdl⟩:=hl
  obtain ⟨ocls,odict,odata,oslots⟩:=ol
  simp only at hcl hdl
  subst hcl; subst hdl
  have hol':(s.heap.push { cls:=.type "set",dict:=none,data:=.set #[] 0 (.fresh 0 0 (DP w)) }).get? l=some { cls:=.type "list",dict:=odict,data:=.seq items nl,slots:=oslots }:=Heap.get?_push_of_some _ hol
  have hsls:=F.sub_list_set
  have hslf:=F.sub_list_frozenset
  have hne:(Value.type "list" == Value.type "dict")=false:=by decide
  have hl1:(s.heap.push { cls:=.type "set",dict:=none,data:=.set #[] 0 (.fresh 0 0 (DP w)) }).IsList l items:=⟨_,hol',rfl,nl,rfl⟩
  unfold Builtin.«set.__init__» noKeywords Builtin.Frozenset.updateFrom
  generalize hPI:pyIter=PI
  wp_walk
  subst hPI
  refine wpAny_pyIter_list hl1 (wpAny_bind (wpAny_runValue ?_))
  have lS:l<s.heap.objs.size:=Heap.lt_size hol
  have h3:A.in1.in1.in1.handled=none:=by simp [hh]
  have nI:l ≠ (s.heap.push { cls:=.type "set",dict:=none,data:=.set #[] 0 (.fresh 0 0 (DP w)) }).objs.size:=by
   rw [Heap.size_push]
   exact aS (fm lS)
  have nf:s.heap.objs.size ∉ [(s.heap.push { cls:=.type "set",dict:=none,data:=.set #[] 0 (.fresh 0 0 (DP w)) }).objs.size,l]:=by
   rw [Heap.size_push]
   intro z
   rcases bi.mp z with q | q
   ·exact absurd q (aS (gz _))
   ·exact absurd (ai.mp q) (fq lS)
  refine Yo ((Walks.list h3 _ l nI items).toS) s.heap.objs.size nf ns hlen.symm (fun i v hv=>IntsAre.int_at hi i v (by rw [Array.getElem?_toList]; exact hv)) (by rw [hlen]; exact hb) (items.size - 0) 0 _ rfl (cm _)
   ⟨⟨_,Heap.get?_push_size _ rfl,rfl,rfl⟩,(hl1.push _)⟩ ((XN s.heap).keep fun o e=>Heap.get?_push_of_some _ e) fun s' m g=>?_
  obtain ⟨h',g',d',tk',os'⟩:=s'
  obtain rfl:g'=s.gens:=m.gens
  obtain rfl:d'=s.drawn:=m.drawn
  obtain rfl:os'=s.os:=m.os
  show wpAny _ _ _ _ _ _
  refine wpAny_pure ?_
  show wpAny _ _ (ret Value.none) _ _ _
  refine wpAny_pure ⟨rfl,h',tk',rfl,g,fun b o e=>?_⟩
  have b1:=Heap.lt_size e
  refine m.heap b o (fun z=>?_) (Heap.get?_push_of_some _ (Heap.get?_push_of_some _ e))
  rcases bi.mp z with q | q
  ·exact absurd q (aS b1)
  ·have:=ai.mp q
   rw [Heap.size_push] at this
   exact absurd this (aS (fm b1))
 ·rcases r2 with e | fl2
  ·exact hr2
  obtain ⟨r,rfl,hr2⟩:∃ r,fl2=.ret r/\(r=.none/\∃ h' tk,s2 = { s with heap:=h',toks:=tk }/\GD prog w h' s.heap.objs.size (DP w) (ns.foldl Ex [])/\∀ b o,s.heap.get? b=some o->h'.get? b=some o):=by
   cases fl2 with
   | ret v=>exact ⟨v,rfl,hr2⟩
   | _=>exact hr2.elim
  obtain ⟨rfl,h',tk,rfl,g,hk⟩:=hr2
  repeat (any_goals (first | assumption | wp_step))
  exact h _ _ g hk
end
end Wd
namespace Wd
open PySem PySem.Spec PyProof.Rows
theorem Fo:Slot "set_iterator" "__next__" "set_iterator.__next__" :=
 .of (owner:="set_iterator") (n:="__next__") (by rw [typeLookup_type,builtinLookup_eq_fast]; kernel_rfl) (by decide +kernel) (by decide +kernel) (by decide +kernel) (by first | exact .inl (by decide +kernel) | exact .inr (by decide +kernel)) (by rw [isSubtype_type]; kernel_rfl)
theorem Gx:entryFor table "set_iterator.__next__" = some Builtin.«set_iterator.__next__»:=entryFor_of_tree (by kernel_rfl)
theorem HX (a:Value):argsOk "set_iterator.__next__" ⟨[a],[]⟩:=by
 unfold argsOk
 kernel_rfl
theorem Qj:Slot "set_iterator" "__iter__" "set_iterator.__iter__" :=
 .of (owner:="set_iterator") (n:="__iter__") (by rw [typeLookup_type,builtinLookup_eq_fast]; kernel_rfl) (by decide +kernel) (by decide +kernel) (by decide +kernel) (by first | exact .inl (by decide +kernel) | exact .inr (by decide +kernel)) (by rw [isSubtype_type]; kernel_rfl)
theorem KZ:entryFor table "set_iterator.__iter__" = some Builtin.«dict_keyiterator.__iter__»:=entryFor_alias (id':="dict_keyiterator.__iter__") (by kernel_rfl) rfl (by decide +kernel) (by kernel_rfl)
theorem K5 (a:Value):argsOk "set_iterator.__iter__" ⟨[a],[]⟩:=by
 unfold argsOk
 kernel_rfl
theorem Jc:entryFor table "set.__iter__" = some Builtin.«frozenset.__iter__»:=entryFor_alias (id':="frozenset.__iter__") (by kernel_rfl) rfl (by decide +kernel) (by kernel_rfl)
end Wd
namespace Wd
open PySem PySem.Spec PyProof.Rows
section
variable {M:Model} {A:Around} {E:Value->Shared->Prop}
theorem Wa {src:Source} {n:Nat} {s:Shared} {Q:Nat->Shared->Prop} (hn:n ≠ 0) (h:∀ i d,i<n->Q i { s with drawn:=d }):wpAny M A (choose src n) Q E s :=
 fun _ _ _=>⟨hn,h _ _ (Nat.mod_lt _ (Nat.pos_of_ne_zero hn))⟩
theorem Lk {α:Type}:∀ {l:List α} {i:Nat} {x:α},l[i]? = some x->(x::l.eraseIdx i).Perm l
 | [],_,_,h=>by simp at h
 | a::l,0,x,h=>by
  simp at h
  subst h
  exact List.Perm.refl _
 | a::l,i+1,x,h=>by
  have ih:=Lk (l:=l) (i:=i) (x:=x) (by simpa using h)
  exact (List.Perm.swap a x _).trans (ih.cons a)
theorem Np {α:Type}:∀ (n:Nat) (xs:List α) (s:Shared) (Q:List α->Shared->Prop),xs.length=n->(∀ r d,r.Perm xs->Q r { s with drawn:=d })->wpAny M A (drawOrder n xs) Q E s
 | 0,xs,s,Q,hn,h=>by
  have e:xs=[]:=ka hn
  subst e
  exact wpAny_pure (h [] s.drawn (List.Perm.refl _))
 | n+1,[],s,Q,hn,h=>by simp at hn
 | n+1,x::xs,s,Q,hn,h=>by
  unfold drawOrder
  refine wpAny_bind (Wa (by simp) fun i d hi=>?_)
  have hx:(x::xs)[i]? = some (x::xs)[i]:=ae hi
  rw [hx]
  dsimp only
  have p:=Lk hx
  refine wpAny_bind (Np n ((x::xs).eraseIdx i) _ _ (by have:=p.length_eq; simp only [List.length_cons] at this hn ⊢; omega) fun r d2 pr=>?_)
  exact wpAny_pure (h _ d2 ((pr.cons _).trans p))
end
theorem Qi {α:Type} (next:Nat->Nat):∀ (fuel k:Nat) (left:List α) (out:Array α),left.length=fuel->(pickOrder.go next fuel k left out).toList.Perm (out.toList++left)
 | 0,k,left,out,h=>by
  have e:left=[]:=ka h
  subst e
  unfold pickOrder.go
  simp
 | fuel+1,k,left,out,h=>by
  have hi:next k % left.length<left.length:=Nat.mod_lt _ (by omega)
  have hx:left[next k % left.length]? = some left[next k % left.length]:=ae hi
  unfold pickOrder.go
  rw [hx]
  dsimp only
  have p:=Lk hx
  refine (Qi next fuel (k+1) _ _ (by have:=p.length_eq; simp only [List.length_cons] at this; omega)).trans ?_
  rw [Array.toList_push,hU]
  exact List.Perm.append_left _ p
theorem Ku {α:Type} (next:Nat->Nat) (xs:Array α):(pickOrder next xs).toList.Perm xs.toList:=by
 have:=Qi next xs.size 0 xs.toList #[] (by simp)
 simpa [pickOrder] using this
noncomputable def Dz (first:Value) (i:Nat) (a:Addr) (n ep:Nat):Obj:={ cls:=.type "set_iterator",data:=.fields #[first,rawInt i,.ref a,rawInt n,rawInt ep] }
inductive Way (w:World) (a:Addr) (es:Array (Int × Value)) (ep:Nat) (t:SetTable) (h:Heap):(Nat->Value)->List Value->List Addr->Prop where
 | text (hb:w.params.followText "set-order" = true):Way w a es ep t h (fun _=>rawInt 0) ((pickOrder (w.params.setOrder a ep) es).toList.map (·.2)) []
 | drawn {tp:Addr} {ps:List Nat} (hb:w.params.followText "set-order" = false) (hp:ps.Perm (List.range es.size)) (ht:∃ n,h.get? tp=some { cls:=.type "tuple",data:=.seq (ps.map fun (i:Nat)=>rawInt i).toArray n }) :
   Way w a es ep t h (fun _=>.ref tp) (ps.map fun i=>(es.getD i (0,.none)).2) [tp]
 | plain (hb:w.params.followText "set-order" = false) (hd:(!t.plain && decide (es.size > 1))=false) (hl:t.led=true) (hr:TY t.place) (hs:t.place.size=es.size) :
   Way w a es ep t h (fun i=>rawInt (if i=0 then 0 else t.place.getD (i - 1) 0+1:Nat)) (es.toList.map (·.2)) []
section
variable {prog:Program} {w:World} {A:Around} {E:Value->Shared->Prop} {s:Shared} {a it:Addr} {es:Array (Int × Value)} {ep:Nat} {t:SetTable} {first:Nat->Value} {vs:List Value} {more:List Addr}
theorem Q0 (hb:w.params.followText "set-order" = true) {Q:Array (Int × Value)->Shared->Prop} (ha:s.heap.get? a=some { cls:=.type "set",dict:=none,data:=.set es ep t }) (hf:t.fits es.size=true)
  (h:Q (pickOrder (w.params.setOrder a ep) es) s):wpAny (model prog w) A (setWalk a) Q E s:=by
 unfold setWalk setsByText
 refine wpAny_bind (wpAny_setState_of ha rfl hf (wpAny_bind (wpAny_bind (wpAny_askSetting (wpAny_pure ?_)))))
 have hb':(model prog w).w.params.followText "set-order" = true:=hb
 dsimp only
 rw [hb',if_pos rfl]
 exact wpAny_bind (wpAny_askSetting (wpAny_pure h))
theorem Kl (hb:w.params.followText "set-order" = true) {slot i:Nat} {Q:Option (Value × Nat)->Shared->Prop} (ha:s.heap.get? a=some { cls:=.type "set",dict:=none,data:=.set es ep t }) (hf:t.fits es.size=true)
  (h:Q (((pickOrder (w.params.setOrder a ep) es)[i]?).map fun e=>(e.2,slot)) s):wpAny (model prog w) A (setNext a slot i ep) Q E s:=by
 unfold setNext setsByText
 refine wpAny_bind (wpAny_setState_of ha rfl hf (wpAny_bind (wpAny_bind (wpAny_askSetting (wpAny_pure ?_)))))
 have hb':(model prog w).w.params.followText "set-order" = true:=hb
 dsimp only
 rw [hb',if_pos rfl,if_neg (by simp)]
 exact wpAny_bind (Q0 hb ha hf (wpAny_pure h))
theorem Jq (hb:w.params.followText "set-order" = false) (hd:(!t.plain && decide (es.size > 1))=false) (hl:t.led=true) {slot i:Nat} {Q:Option (Value × Nat)->Shared->Prop} (ha:s.heap.get? a=some { cls:=.type "set",dict:=none,data:=.set es ep t })
  (hf:t.fits es.size=true) (h:Q (match es[SetTable.below t.place slot]?,t.place[SetTable.below t.place slot]? with | some (_,x),some j=>some (x,j+1) | _,_=>none) s):wpAny (model prog w) A (setNext a slot i ep) Q E s:=by
 unfold setNext setsByText
 refine wpAny_bind (wpAny_setState_of ha rfl hf (wpAny_bind (wpAny_bind (wpAny_askSetting (wpAny_pure ?_)))))
 have hb':(model prog w).w.params.followText "set-order" = false:=hb
 dsimp only
 rw [hb',if_neg (by simp)]
 refine wpAny_ite_split (fun hc=>absurd (show (!t.plain && decide (es.size > 1))=true from hc) (by rw [hd]; simp)) (fun _=>wpAny_bind ?_)
 show wpAny _ _ (if (!t.led && !es.isEmpty)=true then unsupported _ else pure ()) _ _ _
 rw [hl]
 exact wpAny_pure (wpAny_pure h)
theorem O3 {place:Nat} {x:Int × Value} {Q:Value->Shared->Prop} (ha:s.heap.get? a=some { cls:=.type "set",dict:=none,data:=.set es ep t }) (hf:t.fits es.size=true) (hx:es[place]? = some x) (h:Q x.2 s) :
  wpAny (model prog w) A (setNextDrawn a place ep) Q E s:=by
 unfold setNextDrawn
 refine wpAny_bind (wpAny_setState_of ha rfl hf ?_)
 dsimp only
 rw [if_neg (by simp),hx]
 exact wpAny_pure h
theorem Va {first':Value} {i n:Nat} {h:Heap} (first:Value) (hit:h.get? it=some (Dz first i a n ep)) :
  ((h.update it (Obj.mapFields (·.setIfInBounds 0 first'))).update it (Obj.mapFields (·.setIfInBounds 1 (rawInt ((i:Int)+1))))).get? it=some (Dz first' (i+1) a n ep):=by
 have h1:=Heap.get?_update_self (Obj.mapFields (·.setIfInBounds 0 first')) hit rfl
 have h2:=Heap.get?_update_self (Obj.mapFields (·.setIfInBounds 1 (rawInt ((i:Int)+1)))) h1 rfl
 refine h2.trans ?_
 unfold Dz
 simp [Obj.mapFields]
theorem Xf {i n:Nat} {h:Heap} {first:Value} (hit:h.get? it=some (Dz first i a n ep)) :
  (h.update it (Obj.mapFields (·.setIfInBounds 1 (rawInt ((i:Int)+1))))).get? it=some (Dz first (i+1) a n ep):=by
 have h2:=Heap.get?_update_self (Obj.mapFields (·.setIfInBounds 1 (rawInt ((i:Int)+1)))) hit rfl
 refine h2.trans ?_
 unfold Dz
 simp [Obj.mapFields]
theorem below_at {xs:Array Nat} (r:TY xs) {i:Nat} (h:i<=xs.size):SetTable.below xs (if i=0 then 0 else xs.getD (i - 1) 0+1)=i:=by
 have c:=Ht r (if i=0 then 0 else xs.getD (i - 1) 0+1)
 generalize SetTable.below xs (if i=0 then 0 else xs.getD (i - 1) 0+1)=p at c
 by_cases h0:i=0
 ·rw [if_pos h0] at c
  by_cases hp:p=0
  ·omega
  ·have:=c.lo 0 (by omega)
   omega
 ·rw [if_neg h0] at c
  rcases Nat.lt_trichotomy p i with q | q | q
  ·have h1:=c.hi (i - 1) (by omega) (by omega)
   omega
  ·exact q
  ·have h1:=c.lo i q
   have h2:=MT r (i:=i - 1) (k:=i) (by omega) (by have:=c.le; omega)
   omega
theorem M_ {i:Nat} {v:Value} {Q:Option Value->Shared->Prop} (W:Way w a es ep t s.heap first vs more) (hit:s.heap.get? it=some (Dz (first i) i a es.size ep)) (ha:s.heap.get? a=some { cls:=.type "set",dict:=none,data:=.set es ep t })
  (hf:t.fits es.size=true) (hv:vs[i]? = some v) (hQ:∀ h',h'.get? it=some (Dz (first (i+1)) (i+1) a es.size ep)->Heap.SameBut it s.heap h'->Q (some v) { s with heap:=h' }):wpAny (model prog w) A (pyNext (.ref it)) Q E s:=by
 have hT:s.TypeIs (.ref it) "set_iterator":=⟨_,hit,rfl⟩
 unfold pyNext
 refine wpAny_bind (wpAny_attempt (wpAny_callSpecial?_slot (name:=Str.ofString "__next__") hT Fo (wpAny_call_entry Fo hT Gx ?_ (HX _))))
 unfold Builtin.«set_iterator.__next__»
 refine wpAny_bind (m:=slotArgs _ _ _) (wpAny_pure (wpAny_bind ?_))
 unfold fieldsOf
 refine wpAny_bind (wpAny_load hit (wpAny_pure ?_))
 refine wpAny_bind (wpAny_setEntries_of ha rfl hf ?_)
 rw [if_neg (by simp)]
 cases W with
 | text hb =>
  dsimp only [rawInt]
  rw [ce,ce]
  refine wpAny_bind (Kl hb ha hf ?_)
  rw [ax,Array.getElem?_toList] at hv
  obtain ⟨x,hx,rfl⟩:=aE.mp hv
  rw [hx]
  refine wpAny_bind (wpAny_setField hit rfl (by simp) ?_)
  refine wpAny_bind (wpAny_setField (Heap.get?_update_self _ hit rfl) rfl (by simp) ?_)
  exact wpAny_pure ⟨_,rfl,wpAny_pure (hQ _ (Va _ hit) ((Heap.SameBut.update ..).trans (Heap.SameBut.update ..)))⟩
 | @drawn tp ps hb hp ht =>
  obtain ⟨n,ht⟩:=ht
  rw [ax] at hv
  obtain ⟨p,hx,rfl⟩:=aE.mp hv
  have e:((i:Int)).toNat=i:=ce i
  have hp':p<es.size:=dv.mp (hp.mem_iff.mp (aI hx))
  have hes:es[p]? = some (es.getD p (0,.none)):=by simp [Array.getD,hp']
  have hpl:((List.map (fun (i:Nat)=>rawInt i) ps).toArray)[i]? = some (rawInt p):=by
   rw [List.getElem?_toArray,ax,hx]
   rfl
  have sq:∀ (Q':Option (Array Value)->Shared->Prop) (E':Value->Shared->Prop),Q' (some (List.map (fun (i:Nat)=>rawInt i) ps).toArray) s->wpAny (model prog w) A.in1 (seqItems? (.ref tp)) Q' E' s:=fun Q' E' q=>by
   exact wpAny_seqItems ht rfl q
  refine wpAny_bind (sq _ _ ?_)
  dsimp only
  rw [e,hpl]
  dsimp only [rawInt]
  rw [ce,ce]
  refine wpAny_bind (O3 ha hf hes ?_)
  refine wpAny_bind (wpAny_setField hit rfl (by simp) ?_)
  exact wpAny_pure ⟨_,rfl,wpAny_pure (hQ _ (Xf hit) (Heap.SameBut.update ..))⟩
 | plain hb hd hl hr hs =>
  have hi:i<es.size:=by
   have:=(af.mp hv).1
   simpa using this
  rw [ax,Array.getElem?_toList,Array.getElem?_eq_getElem hi] at hv
  cases hv
  have hb':SetTable.below t.place (if i=0 then 0 else t.place.getD (i - 1) 0+1)=i:=below_at hr (by omega)
  dsimp only [rawInt]
  rw [ce,ce,ce]
  refine wpAny_bind (Jq hb hd hl ha hf ?_)
  rw [hb',Array.getElem?_eq_getElem hi,Array.getElem?_eq_getElem (by omega:i<t.place.size)]
  refine wpAny_bind (wpAny_setField hit rfl (by simp) ?_)
  refine wpAny_bind (wpAny_setField (Heap.get?_update_self _ hit rfl) rfl (by simp) ?_)
  refine wpAny_pure ⟨_,rfl,wpAny_pure (hQ _ ?_ ((Heap.SameBut.update ..).trans (Heap.SameBut.update ..)))⟩
  have e2:t.place.getD i 0=t.place[i]'(by omega):=by simp [Array.getD,(by omega:i<t.place.size)]
  have:=Va (first':=rawInt ((t.place[i]'(by omega):Nat)+1:Nat)) _ hit
  show _=some (Dz (rawInt ((if i+1=0 then 0 else t.place.getD (i+1 - 1) 0+1:Nat))) (i+1) a es.size ep)
  rw [if_neg (Nat.succ_ne_zero i),Nat.add_sub_cancel,e2]
  exact this
theorem O9 {s0:Shared} {Q:Option Value->Shared->Prop} (hh:A.handled=none) (hQ:∀ h',(∀ b o,s0.heap.get? b=some o->h'.get? b=some o)->Q none { s0 with heap:=h' }) :
  wpAny (model prog w) A.in1 (newExc (.type "StopIteration") [] >>= fun e=>(raiseNew e:Sem Fin)) (fun fin s'=>∃ v,fin=Fin.done (Flow.ret v)/\wpAny (model prog w) A (match (Except.ok (some v):Except Value (Option Value)) with | Except.ok (some v)=>pure (some v) | Except.ok none=>unsupported "iter:the-iterator's-class-has-lost-its-__next__-amid-the-walk" | Except.error e=>do
    if ← isInstance e (.type "StopIteration") then pure none else throw e) Q E s')
   (fun e s'=>wpAny (model prog w) A (match (Except.error e:Except Value (Option Value)) with | Except.ok (some v)=>pure (some v) | Except.ok none=>unsupported "iter:the-iterator's-class-has-lost-its-__next__-amid-the-walk" | Except.error e=>do
    if ← isInstance e (.type "StopIteration") then pure none else throw e) Q E s') s0:=by
 refine wpAny_bind ?_
 simp only [newExc,newTuple]
 refine wpAny_bind (wpAny_newObj_type ?_ (by size_fits))
 refine wpAny_bind (m:=firstArgMember _ _) (wpAny_of_eq (a:=Value.none) (by first | rfl | (simp only [firstArgMember]; rfl)) ?_)
 refine wpAny_newObj_type ?_ (by size_fits)
 simp only [raiseNew]
 refine wpAny_bind (wpAny_handled ?_)
 rw [show A.in1.handled=none from hh]
 refine wpAny_bind (wpAny_pure (wpAny_throw ?_))
 refine wpAny_bind (wpAny_isInstance (T:="StopIteration") (b:=true) ⟨_,Heap.get?_push_size _ rfl,rfl⟩ isSubtype_stop ?_)
 exact wpAny_pure (hQ _ fun b o e=>Heap.get?_push_of_some _ (Heap.get?_push_of_some _ e))
theorem Mt {Q:Option Value->Shared->Prop} (hh:A.handled=none) (W:Way w a es ep t s.heap first vs more) (hit:s.heap.get? it=some (Dz (first es.size) es.size a es.size ep)) (ha:s.heap.get? a=some { cls:=.type "set",dict:=none,data:=.set es ep t })
  (hf:t.fits es.size=true) (hQ:∀ h',(∀ b o,b ≠ it->s.heap.get? b=some o->h'.get? b=some o)->Q none { s with heap:=h' }):wpAny (model prog w) A (pyNext (.ref it)) Q E s:=by
 have hT:s.TypeIs (.ref it) "set_iterator":=⟨_,hit,rfl⟩
 unfold pyNext
 refine wpAny_bind (wpAny_attempt (wpAny_callSpecial?_slot (name:=Str.ofString "__next__") hT Fo (wpAny_call_entry Fo hT Gx ?_ (HX _))))
 unfold Builtin.«set_iterator.__next__»
 refine wpAny_bind (m:=slotArgs _ _ _) (wpAny_pure (wpAny_bind ?_))
 unfold fieldsOf
 refine wpAny_bind (wpAny_load hit (wpAny_pure ?_))
 refine wpAny_bind (wpAny_setEntries_of ha rfl hf ?_)
 rw [if_neg (by simp)]
 have fin:∀ {f g:Array Value->Array Value} (b:Addr) (o:Obj),b ≠ it->s.heap.get? b=some o->(s.heap.update it (Obj.mapFields f)).get? b=some o:=fun b o hb e=>(Heap.get?_update_other _ _ (Ne.symm hb)).trans e
 cases W with
 | text hb =>
  dsimp only [rawInt]
  rw [ce,ce]
  refine wpAny_bind (Kl hb ha hf ?_)
  have hx:(pickOrder (w.params.setOrder a ep) es)[es.size]? = none:=by
   have:=(Ku (w.params.setOrder a ep) es).length_eq
   simp only [Array.length_toList] at this
   rw [Array.getElem?_eq_none (by omega)]
  rw [hx]
  refine wpAny_bind (wpAny_setField hit rfl (by simp) (O9 hh fun h' k=>hQ h' fun b o hb e=>k b o ?_))
  exact (Heap.get?_update_other _ _ (Ne.symm hb)).trans e
 | @drawn tp ps hb hp ht =>
  obtain ⟨n,ht⟩:=ht
  have hlen:ps.length=es.size:=by have:=hp.length_eq; simpa using this
  have hpl:((List.map (fun (i:Nat)=>rawInt i) ps).toArray)[((es.size:Nat):Int).toNat]? = none:=by
   rw [ce,List.getElem?_toArray,ax,ff (by omega)]
   rfl
  refine wpAny_bind (wpAny_seqItems ht rfl ?_)
  dsimp only
  rw [hpl]
  refine wpAny_bind (wpAny_setField hit rfl (by simp) (wpAny_bind (wpAny_setField (Heap.get?_update_self _ hit rfl) rfl (by simp) (O9 hh fun h' k=>hQ h' fun b o hb e=>k b o ?_))))
  exact (Heap.get?_update_other _ _ (Ne.symm hb)).trans ((Heap.get?_update_other _ _ (Ne.symm hb)).trans e)
 | plain hb hd hl hr hs =>
  have hb':SetTable.below t.place (if es.size=0 then 0 else t.place.getD (es.size - 1) 0+1)=es.size:=below_at hr (by omega)
  dsimp only [rawInt]
  rw [ce,ce,ce]
  refine wpAny_bind (Jq hb hd hl ha hf ?_)
  rw [hb',Array.getElem?_eq_none (ah _)]
  refine wpAny_bind (wpAny_setField hit rfl (by simp) (O9 hh fun h' k=>hQ h' fun b o hb e=>k b o ?_))
  exact (Heap.get?_update_other _ _ (Ne.symm hb)).trans e
end
end Wd
section PartSetJ
set_option maxHeartbeats 1000000
namespace Wd
open PySem PySem.Spec PyProof.Rows
theorem Way.keep {w:World} {a:Addr} {es:Array (Int × Value)} {ep:Nat} {t:SetTable} {h h':Heap} {first:Nat->Value} {vs:List Value} {more:List Addr} (W:Way w a es ep t h first vs more) (k:∀ b∈more,∀ o,h.get? b=some o->h'.get? b=some o):Way w a es ep t h' first vs more:=by
 cases W with
 | text hb=>exact .text hb
 | drawn hb hp ht =>
  obtain ⟨n,ht⟩:=ht
  exact .drawn hb hp ⟨n,k _ (by simp) _ ht⟩
 | plain hb hd hl hr hs=>exact .plain hb hd hl hr hs
theorem Way.perm {w:World} {a:Addr} {es:Array (Int × Value)} {ep:Nat} {t:SetTable} {h:Heap} {first:Nat->Value} {vs:List Value} {more:List Addr} (W:Way w a es ep t h first vs more):vs.Perm (es.toList.map (·.2)):=by
 cases W with
 | text hb=>exact (Ku _ es).map _
 | @drawn tp ps hb hp ht =>
  refine (hp.map _).trans ?_
  have e:(List.range es.size).map (fun i=>(es.getD i (0,Value.none)).2)=es.toList.map (·.2):=by
   refine List.ext_getElem (by simp) fun i h1 h2=>?_
   have hi:i<es.size:=by simpa using h1
   simp [Array.getD,hi]
  rw [e]
 | plain hb hd hl hr hs=>exact List.Perm.refl _
theorem ints_of {prog:Program} {w:World} {es:Array (Int × Value)} {σ:List Int} {vs:List Value} (hel:ElemsOf (intKind prog w) es.toList) (hmem:∀ k,k∈σ ↔ ∃ e∈es.toList,(intKind prog w).is k e.2=true) (hn:es.size=σ.length) (nd:σ.Nodup)
  (p:vs.Perm (es.toList.map (·.2))):IntsAre vs (vs.map numOf)/\(vs.map numOf).Perm σ:=by
 have isI:∀ e∈es.toList,∃ n t,e.2=Value.int n t:=fun e he=>by
  obtain ⟨⟨k,hk,_⟩,_⟩:=hel e he
  obtain ⟨t,q⟩:=Value.isInt_shape (k:=k) (v:=e.2) hk
  exact ⟨k,t,q⟩
 refine ⟨intsAre_map vs fun v hv=>?_,(p.map numOf).trans ?_⟩
 ·obtain ⟨e,he,rfl⟩:=bt.mp (p.mem_iff.mp hv)
  exact isI e he
 ·refine (Qm nd (fun x hx=>?_) (by simp [hn])).symm
  obtain ⟨e,he,hk⟩:=(hmem x).mp hx
  obtain ⟨t,q⟩:=Value.isInt_shape (k:=x) (v:=e.2) hk
  rw [cE]
  refine bt.mpr ⟨e,he,?_⟩
  show numOf e.2=x
  rw [q]
  rfl
section
variable {prog:Program} {w:World} {A:Around} {E:Value->Shared->Prop} {s:Shared} {a:Addr} {σ:List Int}
theorem Wz {es:Array (Int × Value)} {ep:Nat} {t:SetTable} {Q:Bool->Shared->Prop} (ha:s.heap.get? a=some { cls:=.type "set",dict:=none,data:=.set es ep t }) (hf:t.fits es.size=true)
  (h:Q (!w.params.followText "set-order" && (!t.plain && decide (es.size > 1))) s):wpAny (model prog w) A (setDrawn a) Q E s:=by
 unfold setDrawn setsByText
 exact wpAny_bind (wpAny_setState_of ha rfl hf (wpAny_bind (wpAny_bind (wpAny_askSetting (wpAny_pure (wpAny_pure h))))))
theorem Ys {Q:Value->Shared->Prop} (hS:GD prog w s.heap a (DP w) σ)
  (h:∀ es ep t d h' it first vs more,s.heap.get? a=some { cls:=.type "set",dict:=none,data:=.set es ep t }->t.fits es.size=true->es.size=σ.length->Way w a es ep t h' first vs more->h'.get? it=some (Dz (first 0) 0 a es.size ep) ->
   (∀ b o,s.heap.get? b=some o->h'.get? b=some o)->s.heap.objs.size<=it->it ∉ more->(∀ b∈more,s.heap.objs.size<=b)->IntsAre vs (vs.map numOf)->(vs.map numOf).Perm σ->Q (.ref it) { s with heap:=h',drawn:=d }) :
  wpAny (model prog w) A (pyIter (.ref a)) Q E s:=by
 obtain ⟨es,ep,t,ha,hel,hmem,hn,nd,hb,hf,g⟩:=hS
 have hT:s.TypeIs (.ref a) "set":=⟨_,ha,rfl⟩
 have sz:es.size<=sizeLine:=by rw [hn]; exact fits_of_scanBound hb
 refine wpAny_pyIter_slot hT F.slot_set_iter (wpAny_call_entry F.slot_set_iter hT Jc ?_ (F.args_set_iter_1 _))
 unfold Builtin.«frozenset.__iter__» Builtin.Frozenset.slot0
 refine wpAny_bind (wpAny_bind (m:=slotArgs _ _ _) (wpAny_pure (wpAny_pure ?_)))
 unfold Builtin.Frozenset.sizeOf
 refine wpAny_bind (wpAny_bind (wpAny_setEntries_of ha rfl hf (wpAny_pure (wpAny_bind (Wz ha hf ?_)))))
 have fits':t.place.size=es.size:=by
  simp only [SetTable.fits,Bool.and_eq_true,beq_iff_eq] at hf
  exact hf.1
 by_cases hd:(!w.params.followText "set-order" && (!t.plain && decide (es.size > 1)))=true
 ·rw [hd]
  have hb0:w.params.followText "set-order" = false:=by simp at hd; exact hd.1
  refine wpAny_bind (Np es.size (List.range es.size) _ _ (by simp) fun ps d hp=>?_)
  have hl:ps.length=es.size:=by have:=hp.length_eq; simpa using this
  simp only [newTuple]
  refine wpAny_bind (wpAny_newObj_type ?_ (by show (List.map (fun (i:Nat)=>rawInt i) ps).toArray.size<=sizeLine; simp; omega))
  have ha1:(s.heap.push { cls:=.type "tuple",data:=.seq (ps.map fun (i:Nat)=>rawInt i).toArray }).get? a=some { cls:=.type "set",dict:=none,data:=.set es ep t }:=Heap.get?_push_of_some _ ha
  refine wpAny_bind (m:=setEpoch a) (wpAny_setEpoch_of ha1 rfl hf ?_)
  unfold newFields
  refine wpAny_bind (wpAny_newObj_type ?_ (by size_fits))
  have W:Way w a es ep t ((s.heap.push { cls:=.type "tuple",data:=.seq (ps.map fun (i:Nat)=>rawInt i).toArray }).push (Dz (.ref s.heap.objs.size) 0 a es.size ep)) (fun _=>.ref s.heap.objs.size) (ps.map fun i=>(es.getD i (0,.none)).2) [s.heap.objs.size] :=
   .drawn hb0 hp ⟨0,Heap.get?_push_of_some _ (Heap.get?_push_size _ rfl)⟩
  obtain ⟨i1,i2⟩:=ints_of hel hmem hn nd W.perm
  have e2:(s.heap.push { cls:=.type "tuple",data:=.seq (ps.map fun (i:Nat)=>rawInt i).toArray }).objs.size=s.heap.objs.size+1:=Heap.size_push _ _
  refine wpAny_pure ⟨_,rfl,"set_iterator",_,⟨_,Heap.get?_push_size _ rfl,rfl⟩,Fo.lookup,?_⟩
  refine h es ep t d _ _ _ _ _ ha hf hn W (Heap.get?_push_size _ rfl) (fun b o e=>Heap.get?_push_of_some _ (Heap.get?_push_of_some _ e)) ?_ ?_ (fun b hb=>?_) i1 i2
  ·rw [e2]; exact iO _
  ·rw [e2]
   intro z
   exact absurd (ai.mp z) (Nat.succ_ne_self _)
  ·rw [ai.mp hb]
   exact ah _
 ·have hd':(!w.params.followText "set-order" && (!t.plain && decide (es.size > 1)))=false:=(kR _).mp hd
  rw [hd']
  refine wpAny_bind (wpAny_pure ?_)
  refine wpAny_bind (m:=setEpoch a) (wpAny_setEpoch_of ha rfl hf ?_)
  unfold newFields
  refine wpAny_bind (wpAny_newObj_type ?_ (by size_fits))
  refine wpAny_pure ⟨_,rfl,"set_iterator",_,⟨_,Heap.get?_push_size _ rfl,rfl⟩,Fo.lookup,?_⟩
  cases hb0:w.params.followText "set-order" with
  | true =>
   have W:Way w a es ep t (s.heap.push (Dz (rawInt 0) 0 a es.size ep)) (fun _=>rawInt 0) ((pickOrder (w.params.setOrder a ep) es).toList.map (·.2)) []:=.text hb0
   obtain ⟨i1,i2⟩:=ints_of hel hmem hn nd W.perm
   exact h es ep t s.drawn _ _ _ _ _ ha hf hn W (Heap.get?_push_size _ rfl) (fun b o e=>Heap.get?_push_of_some _ e) (Nat.le_refl _) (by simp) (by simp) i1 i2
  | false =>
   rw [hb0] at hd'
   have hd2:(!t.plain && decide (es.size > 1))=false:=hd'
   have hr:TY t.place:=by
    cases hp:t.plain with
    | true=>exact g.ris hp
    | false =>
     rw [hp] at hd2
     have:es.size<=1:=by simpa using hd2
     show t.place.toList.Pairwise _
     have hl:t.place.toList.length<=1:=by simp; omega
     match hq:t.place.toList,hl with
     | [],_=>exact .nil
     | [x],_=>exact iA _ _
     | _::_::_,hl=>simp at hl
   have W:Way w a es ep t (s.heap.push (Dz (rawInt 0) 0 a es.size ep)) (fun i=>rawInt (if i=0 then 0 else t.place.getD (i - 1) 0+1:Nat)) (es.toList.map (·.2)) []:=.plain hb0 hd2 (by rw [g.led]; simp [DP,hb0]) hr fits'
   obtain ⟨i1,i2⟩:=ints_of hel hmem hn nd W.perm
   exact h es ep t s.drawn _ _ _ _ _ ha hf hn W (Heap.get?_push_size _ rfl) (fun b o e=>Heap.get?_push_of_some _ e) (Nat.le_refl _) (by simp) (by simp) i1 i2
theorem WD {it:Addr} {first:Value} {i n ep:Nat} {Q:Value->Shared->Prop} (hit:s.heap.get? it=some (Dz first i a n ep)) (h:Q (.ref it) s):wpAny (model prog w) A (pyIter (.ref it)) Q E s:=by
 have hT:s.TypeIs (.ref it) "set_iterator":=⟨_,hit,rfl⟩
 refine wpAny_pyIter_slot hT Qj (wpAny_call_entry Qj hT KZ ?_ (K5 _))
 exact wpAny_pure ⟨_,rfl,"set_iterator",_,hT,Fo.lookup,h⟩
theorem XM (hh:A.handled=none) {it:Addr} {es:Array (Int × Value)} {ep:Nat} {t:SetTable} {first:Nat->Value} {vs:List Value} {more:List Addr} (hf:t.fits es.size=true) (hl:vs.length=es.size) (n1:it ≠ a) (n2:it ∉ more) :
  Walks prog w A it (it::a::more) [it] es.size (fun i v=>vs[i]? = some v) (fun i h=>h.get? it=some (Dz (first i) i a es.size ep)/\h.get? a=some { cls:=.type "set",dict:=none,data:=.set es ep t }/\Way w a es ep t h first vs more) where
 sub:=fun b hb=>by rw [ai.mp hb]; exact am
 frame:=fun i h h' ⟨s1,s2,s3⟩ k=>⟨k it am _ s1,k a (av _ am) _ s2,s3.keep fun b hb o e=>k b (av _ (av _ hb)) o e⟩
 item:=fun i s Q E hi ⟨s1,s2,s3⟩ hQ=>by
  have hv:vs[i]? = some (vs[i]'(by omega)):=ae _
  refine M_ s3 s1 s2 hf hv fun h' e sb=>?_
  have:=hQ _ h' s.toks hv ⟨e,(sb.2 a (Ne.symm n1)).trans s2,s3.keep fun b hb o q=>(sb.2 b (fun z=>n2 (z ▸ hb))).trans q⟩ fun b o hb q=>(sb.2 b (fun z=>hb (by rw [z]; simp))).trans q
  exact this
 done:=fun s Q E ⟨s1,s2,s3⟩ hQ=>by
  refine Mt hh s3 s1 s2 hf fun h' k=>?_
  have:=hQ h' s.toks fun b o hb q=>k b o (fun z=>hb (by rw [z]; simp)) q
  exact this
 self:=fun i s Q E ⟨s1,s2,s3⟩ h=>WD s1 h
theorem Vs {Q:Bool->Shared->Prop} (hT:s.TypeIs (.ref a) "set") (h:Q false s):wpAny (model prog w) A (Builtin.List.listLengthHint (.ref a)) Q E s:=by
 unfold Builtin.List.listLengthHint
 refine wpAny_bind (wpAny_specialOf hT F.slot_set_len.lookup ?_)
 generalize hid:("set.__len__" : String)=id0
 wp_delta
 rw [show splitId id0=some ("set","__len__") from by subst hid; decide +kernel]
 subst hid
 refine wpAny_bind (wpAny_isInstance (T:="set") (b:=true) hT sub_set_self ?_)
 refine wpAny_ite_split (fun hab=>absurd hab (by decide)) (fun _=>wpAny_ite_split (fun _=>wpAny_bind (wpAny_typeOf hT (wpAny_pure h))) (fun hab=>absurd (by decide +kernel) hab))
end
end Wd
end PartSetJ
section PartSetK
set_option maxHeartbeats 1000000
namespace Wd
open PySem PySem.Spec PyProof.Rows
section
variable {prog:Program} {w:World} {A:Around} {E:Value->Shared->Prop} {s:Shared} {a:Addr} {σ:List Int}
theorem Tf {R:Result->Shared->Prop} {S:Addr} {c0:Nat} (hh:A.handled=none) (hS:GD prog w s.heap a (DP w) σ) (hL:s.heap.get? S=some { cls:=.type "list",data:=.seq #[] c0 })
  (hR:∀ h' tk d acc c,(∀ b o,b ≠ S->s.heap.get? b=some o->h'.get? b=some o)->h'.get? S=some { cls:=.type "list",dict:=none,data:=.seq acc c,slots:=#[] }->(∃ ks,IntsAre acc.toList ks/\ks.Perm σ)->R (.ok (.ret (.ref S))) { s with heap:=h',toks:=tk,drawn:=d }) :
  wpAny (model prog w) A.in1 (Builtin.List.listExtendWith (.ref S) (.ref a) (.ref S))
   (fun fin s'=>match fin with | .done f=>R (.ok f) s' | .again c'=>c'.quiet=true/\codeAny (model prog w) A c' R s') (fun e s'=>R (.error e) s') s:=by
 obtain ⟨es0,ep0,t0,ha0,rest0⟩:=id hS
 have hT:s.TypeIs (.ref a) "set":=⟨_,ha0,rfl⟩
 have nSa:S ≠ a:=fun z=>by rw [z,ha0] at hL; simp at hL
 unfold Builtin.List.listExtendWith
 refine wpAny_bind (wpAny_typeOf (T:="set") hT ?_)
 have h1:Builtin.List.listSameRef (.ref S) (.ref a)=false:=by simp [Builtin.List.listSameRef,nSa]
 have h2:(Value.type "set" == Value.type "list")=false:=by decide
 have h3:(Value.type "set" == Value.type "tuple")=false:=by decide
 simp only [h1,h2,h3,Bool.or_false,Bool.false_eq_true,if_false]
 refine wpAny_bind (Ys hS fun es ep t d h' it first vs more ha hf hn W e0 hk g1 g2 g3 i1 i2=>?_)
 have sz:es.size<=sizeLine:=by
  obtain ⟨_,_,_,_,hb,_⟩:=rest0
  rw [hn]
  exact fits_of_scanBound hb
 have hl:vs.length=es.size:=by have:=i2.length_eq; rw [ag] at this; omega
 have lt:=Heap.lt_size ha
 have ltS:=Heap.lt_size hL
 have nSf:S ∉ it::a::more:=fun z=>by
  rcases bi.mp z with q | z
  ·rw [q] at ltS; exact absurd (ay ltS g1) (ed _)
  rcases bi.mp z with q | z
  ·exact nSa q
  ·exact absurd (ay ltS (g3 _ z)) (ed _)
 have n1:it ≠ a:=fun z=>by rw [← z] at lt; exact absurd (ay lt g1) (ed _)
 have Wk:=XM (prog:=prog) (w:=w) (A:=A.in1) (a:=a) (it:=it) (es:=es) (ep:=ep) (t:=t) (first:=first) (vs:=vs) (more:=more) (by simpa using hh) hf hl n1 g2
 have hL1:=hk _ _ hL
 have st0:h'.get? it=some (Dz (first 0) 0 a es.size ep)/\h'.get? a=some { cls:=.type "set",dict:=none,data:=.set es ep t }/\Way w a es ep t h' first vs more:=⟨e0,hk _ _ ha,W⟩
 have key:∀ (h2:Heap) (c1 tk:Nat),(h2.get? it=some (Dz (first 0) 0 a es.size ep)/\h2.get? a=some { cls:=.type "set",dict:=none,data:=.set es ep t }/\Way w a es ep t h2 first vs more)->(∀ b o,b ≠ S->s.heap.get? b=some o->h2.get? b=some o) ->
   h2.get? S=some { cls:=.type "list",data:=.seq #[] c1 }->codeAny (model prog w) A (.builtin "list.extend.loop" ⟨[.ref S,.ref it,.ref S],[]⟩) R { s with heap:=h2,toks:=tk,drawn:=d }:=by
  intro h2 c1 tk st k2 e2
  refine codeAny_extend_loopS Wk.toS sz S nSf (.ref S) es.size 0 _ #[] c1 rfl (cm _) st e2 (ItemsOf.nil _) fun s' acc c m e3 hacc=>?_
  obtain ⟨h3,g',d',tk',os'⟩:=s'
  obtain rfl:g'=s.gens:=m.gens
  obtain rfl:d'=d:=m.drawn
  obtain rfl:os'=s.os:=m.os
  refine hR h3 tk' d' acc c (fun b o hb e=>m.heap b o (fun z=>?_) (k2 b o hb e)) e3 ?_
  ·rcases bi.mp z with q | z
   ·exact hb q
   ·have lb:=Heap.lt_size e
    rw [ai.mp z] at lb
    exact absurd (ay lb g1) (ed _)
  ·have ev:acc.toList=vs:=by
    refine fN fun j=>?_
    by_cases hj:j<acc.size
    ·have q:acc[j]? = some acc[j]:=Array.getElem?_eq_getElem hj
     rw [Array.getElem?_toList,q,hacc.2 j _ q]
    ·rw [List.getElem?_eq_none (by simp; omega),List.getElem?_eq_none (by rw [hl,← hacc.1]; omega)]
   rw [ev]
   exact ⟨_,i1,i2⟩
 refine wpAny_bind (wpAny_holding (Vs ⟨_,hk _ _ ha,rfl⟩ ?_))
 refine wpAny_ite_split (fun _=>?_) (fun _=>wpAny_pure ⟨plainId_quiet PySem.F.plain_extend_loop _,key _ c0 _ st0 (fun b o _ e=>hk b o e) hL1⟩)
 refine wpAny_bind (wpAny_rule (wpAny_bind ?_))
 show wpAny _ _ (updateSeq S (·.push .none) >>= fun _=>updateSeq S (·.pop)) _ _ _
 refine wpAny_bind (wpAny_updateSeq hL1 rfl ?_)
 have hL2:=Heap.get?_update_self (Obj.mapSeq (·.push Value.none)) hL1 rfl
 refine wpAny_updateSeq (hz:=by seq_fits) hL2 rfl ?_
 have hL3:=Heap.get?_update_self (Obj.mapSeq (·.pop)) hL2 rfl
 have oth:∀ b o,b ≠ S->h'.get? b=some o->((h'.update S (Obj.mapSeq (·.push Value.none))).update S (Obj.mapSeq (·.pop))).get? b=some o:=fun b o hb e=>(Heap.get?_update_other _ _ (Ne.symm hb)).trans ((Heap.get?_update_other _ _ (Ne.symm hb)).trans e)
 refine wpAny_pure ⟨plainId_quiet PySem.F.plain_extend_loop _,key _ _ _ (Wk.frame 0 _ _ st0 fun b hb o e=>oth b o (fun z=>nSf (z ▸ hb)) e) (fun b o hb e=>oth b o hb (hk b o e)) hL3⟩
theorem Rq {R:List Value->Shared->Prop} (hh:A.handled=none) (hS:GD prog w s.heap a (DP w) σ)
  (h:∀ h' tk d acc ks,(∀ b o,s.heap.get? b=some o->h'.get? b=some o)->s.heap.objs.size<h'.objs.size->IntsAre acc ks->ks.Perm σ->R acc { s with heap:=h',toks:=tk,drawn:=d }):wpAny (model prog w) A (collect (.ref a)) R E s:=by
 unfold collect
 refine wpAny_bind (wpAny_runValue (codeAny_builtin PySem.F.entry_proto_collect ?_))
 rw [Around.under_plainId PySem.F.plain_proto_collect _]
 show wpAny _ A.in1 (newList [] >>= fun l=>again (.builtin "list.__iadd__" ⟨[l,.ref a],[]⟩)) _ _ s
 refine wpAny_bind (wpAny_newObj_type (wpAny_pure ⟨plainId_quiet PySem.F.plain_list_iadd _,codeAny_builtin PySem.F.entry_list_iadd ?_⟩))
 rw [Around.under_plainId PySem.F.plain_list_iadd _]
 have e1:(s.heap.push { cls:=.type "list",data:=.seq ([]:List Value).toArray }).get? s.heap.objs.size=some { cls:=.type "list",data:=.seq #[] }:=Heap.get?_push_size _ rfl
 show wpAny _ A.in1 (Builtin.List.listExtendWith (.ref s.heap.objs.size) (.ref a) (.ref s.heap.objs.size)) _ _ _
 have key:=Tf (A:=A) (s:={ s with heap:=s.heap.push { cls:=.type "list",data:=.seq ([]:List Value).toArray } }) (S:=s.heap.objs.size) (R:=fun q s'=>∃ h' tk d acc c,q=.ok (.ret (.ref s.heap.objs.size))/\s' = { s with heap:=h',toks:=tk,drawn:=d } /\
   (∀ b o,s.heap.get? b=some o->h'.get? b=some o)/\h'.get? s.heap.objs.size=some { cls:=.type "list",dict:=none,data:=.seq acc c,slots:=#[] }/\∃ ks,IntsAre acc.toList ks/\ks.Perm σ) hh (hS.keep fun o e=>Heap.get?_push_of_some _ e) e1
  fun h' tk d acc c k e2 hx=>⟨h',tk,d,acc,c,rfl,rfl,fun b o e=>k b o (aS (Heap.lt_size e)) (Heap.get?_push_of_some _ e),e2,hx⟩
 refine wpAny_mono key (fun fin s' x=>?_) fun e s' x=>?_
 ·cases fin with
  | done f =>
   obtain ⟨h',tk,d,acc,c,e,rfl,k,e2,ks,i1,i2⟩:=x
   cases e
   exact wpAny_bind (wpAny_load e2 (wpAny_pure (h h' tk d acc.toList ks k (Heap.lt_size e2) i1 i2)))
  | again c1 =>
   refine ⟨x.1,codeAny_mono x.2 fun q s2 y=>?_⟩
   obtain ⟨h',tk,d,acc,c,rfl,rfl,k,e2,ks,i1,i2⟩:=y
   exact wpAny_bind (wpAny_load e2 (wpAny_pure (h h' tk d acc.toList ks k (Heap.lt_size e2) i1 i2)))
 ·obtain ⟨_,_,_,_,_,e',_⟩:=x
  cases e'
end
end Wd
end PartSetK
namespace L2
open PySem PySem.Spec PyProof.Rows
noncomputable def Xe (P:Program) (w:World) (a:Addr) (τ:List Int):HO:=.ext fun h=>Wd.GD P w h a (Wd.DP w) τ
theorem Xa {P:Program} {w:World} {H:Hp} {h:Heap} {a:Addr} {τ:List Int} (g:Wd.GD P w h a (Wd.DP w) τ):By P w H h a (Xe P w a τ) :=
 ⟨g,(let ⟨_,_,_,e,_⟩:=g; ⟨_,e⟩),fun _ _ g k=>g.keep k⟩
theorem Kw:∀ {ns:List Int} {us:List Value},Vals (ns.map V.int) us->IntsAre us ns
 | [],_,r=>by cases r; exact .nil
 | n::ns,_,r=>by
  cases r with
  | cons r t =>
   obtain ⟨tk,rfl⟩:=r
   exact .cons n tk (Kw t)
section
variable {X:Cx} {pins:List (Addr × Obj)} {σ:St} {H:Hp} {s:Shared} {h':Heap} {a:Addr} {o:HO}
theorem Inv.YH {t':Nat} {d':Drawn} (I:Inv X pins σ H s) (k:∀ b u,s.heap.get? b=some u->h'.get? b=some u) (hp:s.heap.objs.size<=a) (new:By X.prog X.w (upd H a o) h' a o) :
  Inv X pins σ (upd H a o) { s with heap:=h',drawn:=d',toks:=t' } :=
 I.call (g':=s.gens) (d':=d') (t':=t') (ch:=[]) (Un.laid k hp (I.hok.fresh hp)) (I.hok.laid k hp new) I.bare fun b z=>absurd z (by simp)
theorem NT (hc:X.calm=true):Du X (.type "set") (fun xs H Q=>∃ (l:Addr) (ns:List Int),xs=[V.ref l]/\CZ X.K H l (ns.map V.int)/\ns.length<=1000/\∀ p,H p=none->Q (.ref p) (upd H p (Xe X.prog X.w p (ns.foldl Wd.Ex [])))):=by
 intro pins s σ H xs us Q I r h
 obtain ⟨l,ns,rfl,hl,hz,q⟩:=h
 obtain ⟨u,rfl,ru⟩:=vals1 r
 cases ru
 obtain ⟨its,rv,pl,_⟩:=I.list hl
 have hn:H s.heap.objs.size=none:=I.hok.fresh (ah _)
 refine Wd.Z1 (I.ok.hd hc) pl.isList (by simpa using Kw rv) (by unfold scanBound; omega) fun h' tk g k=>?_
 exact ⟨.ref s.heap.objs.size,_,I.laid (t':=tk) k (ah _) (Xa g),rfl,q _ hn⟩
end
end L2
namespace L2
open PySem PySem.Spec PyProof.Rows
section
variable {X:Cx}
end
section
variable {prog:Program} {w:World} {A:Around} {E:Value->Shared->Prop} {s:Shared} {r l:Addr}
end
section
variable {X:Cx} {p1 p2 q1 q2:Pos} {e:Expr} {te:TE}
end
end L2
namespace L2
open PySem PySem.Spec PyProof.Rows
noncomputable def d_ (K:PySem.W.Frag) (a:Addr) (xs:List V):It :=
 ⟨fun i H=>CZ K H a xs/\i<xs.length,fun i H x H'=>H'=H/\xs[xs.length - 1 - i]? = some x,fun i H=>CZ K H a xs/\i=xs.length⟩
theorem UG {P:Program} {w:World} {K:PySem.W.Frag} {tg:Expr} (a it:Addr) (xs:List V):Turn P w K tg (d_ K a xs) [it] it (fun i h=>h.IsRevIter it a ((xs.length:Int) - 1 - (i:Nat))) where
 mem:=by simp
 obj:=fun i h st b hb=>by
  have e:b=it:=by simpa using hb
  subst e
  obtain ⟨o,e,c,d⟩:=st
  exact ⟨o,e,fun v z=>by rw [d] at z; cases z⟩
 keep:=fun i h h' st k=>st.at fun o e=>k it (by simp) o e
 item:=by
  intro X hP hw hK hc i pins s σ H E I hf st hg
  subst hP hw hK
  obtain ⟨hq,hlt⟩:=hg
  obtain ⟨its,rv,p,hz⟩:=I.list hq
  have hx:xs[xs.length - 1 - i]? = some (xs[xs.length - 1 - i]'(by omega)):=ae (by omega)
  obtain ⟨u,hu,ru⟩:=rv.get hx
  obtain ⟨f0,f1,f2,f3,f4,f5⟩:=hf it (by simp)
  have e:(xs.length:Int) - 1 - ((i:Nat):Int)=((xs.length - 1 - i:Nat):Int):=by omega
  rw [e] at st
  refine wpAny_pyNext_rev_item st p.isList (x:=u) (by simpa using hu) fun h' st' sb=>?_
  have I1:Inv X pins σ H { s with heap:=h' }:=I.turned (t':=s.toks) (fun b o hb e=>(sb.2 b hb).trans e) f0 f1 f3 f4 f5
  have e2:((xs.length - 1 - i:Nat):Int) - 1=(xs.length:Int) - 1 - ((i+1:Nat):Int):=by omega
  rw [e2] at st'
  obtain ⟨o,eo,c,d⟩:=id st'
  exact ⟨u,rfl,N5 (s:={ s with heap:=h' }) eo c d (by decide) ⟨_,H,I1,ru,⟨rfl,hx⟩,st',fun b hb=>(hf b hb).1⟩⟩
 done:=by
  intro X hP hw hK hc i pins s σ H E I hf st hg
  subst hP hw hK
  obtain ⟨hq,rfl⟩:=hg
  obtain ⟨f0,f1,f2,f3,f4,f5⟩:=hf it (by simp)
  have e:(xs.length:Int) - 1 - ((xs.length:Nat):Int) = -1:=by omega
  rw [e] at st
  exact wpAny_pyNext_rev_end (I.ok.hd hc) st fun h' eb=>⟨rfl,I.turned (t':=s.toks) (fun b o hb e=>eb b o hb e) f0 f1 f3 f4 f5⟩
 self:=fun _ _ _ _ _ st h=>wpAny_pyIter_revIter st h
section
variable {X:Cx} {tg:Expr}
noncomputable def iV (K:PySem.W.Frag) (ta:TA):TI:=fun σ H R=>ta σ H fun vs H1=>∃ a xs,vs=[.ref a]/\CZ K H1 a xs/\R (d_ K a xs) H1
theorem Y0 {l:Expr} {ta:TA} {p pos:Pos} (hg:Gl X "reversed") (hm:X.mg "reversed" = none) (ha:PA X [l] ta) (hs:starEach [l] X.env=[(false,eval l X.env)]:=by rfl):PI X tg (.Call (.Name "reversed" p) [l] [] pos) (iV X.K ta):=by
 intro pins s σ H R I h
 refine Call_ (Ft I hg hm PyProof.Rows.boot_reversed (PyProof.Rows.callWith_type1 (Bq (ha pos pins s σ H _ I h) fun us s1 ⟨vs,H1,I1,r1,q1⟩=>?_) hs rfl))
 obtain ⟨a,xs,e,hq,q⟩:=q1
 subst e
 obtain ⟨u,rfl,ru⟩:=vals1 r1
 cases ru
 obtain ⟨its,rv,pl,hz⟩:=I1.list hq
 refine call_reversed_list pl.isList ?_
 have hit:(s1.heap.push (revObj a ((its.toArray.size:Int) - 1))).IsRevIter s1.heap.objs.size a ((its.toArray.size:Int) - 1):=⟨_,Heap.get?_push_size _ rfl,rfl,rfl⟩
 refine wpAny_pyIter_revIter (s:={ s1 with heap:=s1.heap.push (revObj a ((its.toArray.size:Int) - 1)) }) hit ?_
 refine ⟨s1.heap.objs.size,[s1.heap.objs.size],_,_,H1,rfl,I1.kept (t':=s1.toks) fun b o e=>Heap.get?_push_of_some _ e,UG a _ xs,?_,fun b hb=>?_,q⟩
 ·have hl:=rv.length
  have e2:((its.toArray.size:Nat):Int) - 1=(xs.length:Int) - 1 - ((0:Nat):Int):=by
   rw [bo]
   omega
  show (s1.heap.push (revObj a ((its.toArray.size:Int) - 1))).IsRevIter s1.heap.objs.size a ((xs.length:Int) - 1 - ((0:Nat):Int))
  rw [← e2]
  exact hit
 ·have e:b=s1.heap.objs.size:=by simpa using hb
  subst e
  exact I1.JL (ah _) (I1.hok.fresh (ah _))
theorem V2 {K:PySem.W.Frag} {a:Addr} {xs:List V} {g:TG} {tb:TS} {D:Ends} {σ:St} {H:Hp} (Pv:Nat->St->Hp->Prop) (h0:Pv 0 σ H) (hl:∀ i σ H,i<=xs.length->Pv i σ H->CZ K H a xs)
  (hs:∀ i x σ H,i<xs.length->xs[xs.length - 1 - i]? = some x->Pv i σ H->g x σ H fun σ2 H2=>tb { D with nx:=Pv (i+1),ct:=Pv (i+1),bk:=D.nx } σ2 H2) (hd:∀ σ H,Pv xs.length σ H->D.nx σ H) :
  ∃ W:Nat->Nat->St->Hp->Prop,(∃ m,W 0 m σ H)/\∀ i m σ H,W i m σ H ->
   ((d_ K a xs).stop i H/\D.nx σ H) \/ ((d_ K a xs).go i H/\∃ N:St->Hp->Prop,(∀ σ' H',N σ' H'->∃ m',m'<m/\W (i+1) m' σ' H')/\∀ x H',(d_ K a xs).yld i H x H'->g x σ H' fun σ2 H2=>tb { D with nx:=N,ct:=N,bk:=D.nx } σ2 H2):=by
 refine ⟨fun i m σ H=>m=xs.length - i/\i<=xs.length/\Pv i σ H,⟨xs.length,by simp,Nat.zero_le _,h0⟩,?_⟩
 rintro i m σ H ⟨rfl,hi,p⟩
 have q:=hl i σ H hi p
 by_cases hlt:i<xs.length
 ·refine .inr ⟨⟨q,hlt⟩,Pv (i+1),fun σ' H' p'=>⟨xs.length - (i+1),by omega,rfl,by omega,p'⟩,?_⟩
  rintro x H' ⟨rfl,hx⟩
  exact hs i x σ H' hlt hx p
 ·have e:i=xs.length:=by omega
  subst e
  exact .inl ⟨⟨q,rfl⟩,hd σ H p⟩
end
end L2
namespace L2
open PySem PySem.Spec PyProof.Rows
structure m9 (K:PySem.W.Frag) (x qual:Str) (st:Stmt) (f:Addr) (fd:FuncData):Prop where
 ex:∃ (oc:Value) (od:Option Addr) (dV kV doc pm:Value) (an:Option Addr) (cdv ct:Value) (osl:Array (Option Value)),
  fd=PySem.W.fnOf x qual (Ck st) (Cd st) (Ah st) dV kV doc pm an cdv ct/\K.lookup f=some ⟨oc,od,.func fd,osl⟩/\PySem.W.codeIn K cdv qual=true
 kp:PySem.W.keepIn K (.ref f)=true
section
variable {P:Program} {w:World} {K:PySem.W.Frag} {mg:Str->Option Value} {base:Heap}
end
end L2
namespace L2
open PySem PySem.Spec PySem.Calls PyProof.Rows
section
variable {X:Cx}
theorem range_any (bs:List Bool):((List.range bs.length).any fun i=>(bs[i]?).getD false)=bs.any id:=by
 rw [eu,ke,ke]
 constructor
 ·rintro ⟨i,hi,e⟩
  have hi':=dv.mp hi
  rw [ae hi'] at e
  exact ⟨_,eR hi',e⟩
 ·rintro ⟨b,hb,e⟩
  obtain ⟨i,hi,q⟩:=gp.mp hb
  refine ⟨i,dv.mpr hi,?_⟩
  rw [ae hi,q]
  exact e
theorem Jy (hc:X.calm=true):Du X (.builtin "any") (fun xs H Q=>∃ (p:Addr) (bs:List Bool),xs=[V.ref p]/\CZ X.K H p (bs.map V.bl)/\Q (.bl (bs.any id)) H):=by
 intro pins s σ H xs us Q I r h
 obtain ⟨p,bs,rfl,hp,q⟩:=h
 obtain ⟨u,rfl,ru⟩:=vals1 r
 cases ru
 obtain ⟨its,rv,pl,hz⟩:=I.list hp
 have hlen:bs.length=its.length:=by have:=rv.length; rw [ag] at this; exact this
 have hlt:p<s.heap.objs.size:=by obtain ⟨_,e,_⟩:=pl.isList; exact Heap.lt_size e
 refine call_any_walk (wpAny_pyIter_list pl.isList ?_)
 refine ⟨s.heap.objs.size,[s.heap.objs.size,p],[s.heap.objs.size],its.toArray.size,_,_,fun i=>(bs[i]?).getD false,rfl,Walks.list (A:=X.A.in1) (I.ok.hd hc) _ p (aS hlt) its.toArray,
  ⟨⟨_,Heap.get?_push_size _ rfl,rfl,rfl⟩,pl.isList.push _⟩,fun i v s' Q' E' hP hQ=>?_,fun h' tk hk=>?_⟩
 ·have hP':its[i]? = some v:=by simpa using hP
  have hi:i<its.length:=(af.mp hP').1
  have hb:bs[i]? = some bs[i]:=by simp [hlen,hi]
  obtain ⟨u,hu,ru⟩:=rv.get (i:=i) (x:=.bl bs[i]) (by rw [ax,hb]; rfl)
  rw [hP'] at hu
  cases hu
  cases ru
  dsimp only at hQ
  rw [hb] at hQ
  exact wpAny_truthy_bool hQ
 ·have e:((List.range its.toArray.size).any fun i=>(bs[i]?).getD false)=bs.any id:=by rw [bo,← hlen]; exact range_any bs
  rw [e]
  refine ⟨.bl (bs.any id),H,I.kept (t':=tk) fun b o eb=>hk b o (fun hm=>?_) (Heap.get?_push_of_some _ eb),rfl,q⟩
  rw [ai.mp hm] at eb
  exact ed _ (Heap.lt_size eb)
theorem Gf (ns:List Int):∀ j,j<=ns.length->preSum (fun i=>(ns[i]?).getD 0) j=(ns.take j).sum
 | 0,_=>rfl
 | j+1,h=>by
  have ih:=Gf ns j (by omega)
  show preSum _ j+(ns[j]?).getD 0=_
  rw [ih,cf,ae (by omega),kD]
  simp
structure KDict (K:PySem.W.Frag) (P:Params) (a:Addr):Prop where
 is:∃ es n,K.lookup a=some ⟨.type "dict",none,.dict es n,#[]⟩/\PySem.W.KeysLit P es.toList
 lo:(a == sysModules)=false
noncomputable def bA (K:PySem.W.Frag) (P:Params) (td ty:TE):TE:=fun σ H Q=>td σ H fun x H1=>ty σ H1 fun y H2=>∃ a z v u,x=.ref a/\y=.str z/\KDict K P a/\PySem.W.nsIn K a z=some (some u)/\RelV v u/\Q v H2
noncomputable def cQ (K:PySem.W.Frag) (P:Params) (neg:Bool) (ty td:TE):TE:=fun σ H Q=>ty σ H fun y H1=>td σ H1 fun x H2=>∃ a z r,x=.ref a/\y=.str z/\KDict K P a/\PySem.W.nsIn K a z=some r/\Q (.bl (if neg then !r.isSome else r.isSome)) H2
variable {o i:Expr} {pos:Pos} {td ty:TE}
theorem LR (ho:PE X o td) (hi:PE X i ty) (hs:Y6 i):PE X (.Subscript o i pos) (bA X.K X.w.params td ty):=by
 intro pins s σ H Q I h
 refine QK iF hs (Bq (ho pins s σ H _ I h) fun u s1 ⟨x,H1,I1,rx,q1⟩=>Bq (hi pins s1 σ H1 _ I1 q1) fun iv s2 hq0=>?_)
 obtain ⟨y,H2,I2,ry,a,z,v,w,ex,ey,kd,hw,rw',q2⟩:=hq0
 subst ex ey
 cases rx
 obtain ⟨t,rfl⟩:=ry
 obtain ⟨⟨es,n,hl,hk⟩,lo⟩:=kd
 have hm:=PySem.W.mapOf_K (prog:=X.prog) I2.Ho hl hk
 exact ⟨hm.typeIs,wpAny_getItem_of (strKind_is X.prog X.w z t) hm (PySem.W.find_K hl hw) ⟨v,H2,I2.tok _,rw',q2⟩⟩
theorem U0 (hi:PE X i ty) (ho:PE X o td):PC X .In i o (cQ X.K X.w.params false ty td):=by
 intro pins s σ H Q I h
 refine Bq (hi pins s σ H _ I h) fun iv s1 ⟨y,H1,I1,ry,q1⟩=>Bq (ho pins s1 σ H1 _ I1 q1) fun u s2 hq0=>?_
 obtain ⟨x,H2,I2,rx,a,z,r,ex,ey,kd,hw,q2⟩:=hq0
 subst ex ey
 cases rx
 obtain ⟨t,rfl⟩:=ry
 obtain ⟨⟨es,n,hl,hk⟩,lo⟩:=kd
 refine wpAny_in_of (strKind_is X.prog X.w z t) lo (PySem.W.mapOf_K (prog:=X.prog) I2.Ho hl hk) ?_
 rw [PySem.W.find_K hl hw]
 exact ⟨.bl r.isSome,H2,I2.tok _,rfl,q2⟩
theorem Rh (hi:PE X i ty) (ho:PE X o td):PC X .NotIn i o (cQ X.K X.w.params true ty td):=by
 intro pins s σ H Q I h
 refine Bq (hi pins s σ H _ I h) fun iv s1 ⟨y,H1,I1,ry,q1⟩=>Bq (ho pins s1 σ H1 _ I1 q1) fun u s2 hq0=>?_
 obtain ⟨x,H2,I2,rx,a,z,r,ex,ey,kd,hw,q2⟩:=hq0
 subst ex ey
 cases rx
 obtain ⟨t,rfl⟩:=ry
 obtain ⟨⟨es,n,hl,hk⟩,lo⟩:=kd
 refine wpAny_notIn_of (strKind_is X.prog X.w z t) lo (PySem.W.mapOf_K (prog:=X.prog) I2.Ho hl hk) ?_
 rw [PySem.W.find_K hl hw]
 exact ⟨.bl (!r.isSome),H2,I2.tok _,rfl,q2⟩
end
noncomputable def stepV (xs:List V) (lo hi:Option Int) (k:Int):List V:=(sliceRange (sliceBounds lo hi (some k) xs.length).1 (sliceBounds lo hi (some k) xs.length).2.1 (sliceBounds lo hi (some k) xs.length).2.2).filterMap (xs[·]?)
section
variable {X:Cx} {e st:Expr} {lo hi:Option Expr} {te ts:TE} {tl th:TO} {p2 pos:Pos}
end
end L2
namespace Og
open PySem L2
theorem Ao {X:Cx} {K:PySem.W.Frag} (h:X.K=K):Zu X (cH K):=h ▸ ZL
theorem Bu {X:Cx} {K:PySem.W.Frag} (h:X.K=K):Zu X (bJ K):=h ▸ Bm
theorem Jh {X:Cx} {K:PySem.W.Frag} (h:X.K=K):GF X (compareOp .In) (mU K false):=h ▸ RT
theorem Vh {X:Cx} {e:Expr}:PE X e (fun _ _ _=>False):=fun _ _ _ _ _ _ h=>h.elim
structure R where
 w:Str
 nm:Str
 rest:List V
noncomputable abbrev R.v (r:R):List V:=.str r.w :: .str r.nm::r.rest
noncomputable def isNm (z:Str):Prop:=1<=z.length/\z.length<=8/\∀ c∈z.cps.toList,97<=c/\c<=122
noncomputable def Rows (H:Hp) (ρ:V->R) (vs:List V):Prop:=∀ v∈vs,TupAt H (ρ v).v v
theorem Rows.mono {H H':Hp} {ρ:V->R} {vs:List V} (s:Aq H H') (h:Rows H ρ vs):Rows H' ρ vs:=fun v hv=>(h v hv).mono s
theorem Rows.sub {H:Hp} {ρ:V->R} {vs us:List V} (h:Rows H ρ vs) (hs:∀ v∈us,v∈vs):Rows H ρ us:=fun v hv=>h v (hs v hv)
noncomputable abbrev pw (ρ:V->R) (w:Str) (v:V):Bool:=decide (V.str (ρ v).w=V.str w)
noncomputable abbrev pn (ρ:V->R) (t:Str) (v:V):Bool:=decide (V.str (ρ v).nm=V.str t)
noncomputable def X4 (ρ:V->R) (vs:List V) (w t:Str):Bool:=(vs.filter (pw ρ w)).any (pn ρ t)
noncomputable def KTup (K:PySem.W.Frag) (a:Addr) (xs:List V):Prop:=∃ (o:Obj) (its:Array Value) (n:Nat),K.lookup a=some o/\o.cls=.type "tuple" /\ o.data=.seq its n/\its.size<=sizeLine/\Vals xs its.toList
theorem KTup.sq {K:PySem.W.Frag} {a:Addr} {xs:List V} (h:KTup K a xs) (H:Hp):Eg K H a xs:=.inr h
noncomputable abbrev named:List Str:=["board","rank","stop","coupler","mute"]
noncomputable def Js (K:PySem.W.Frag) (aB:Addr) (ρ:V->R) (vs:List V) (x:V) (part:Str):Prop :=
 (∃ (i lo hi:Int) (b:Addr),x=.int i/\PySem.W.nsIn K aB part=some (some (.ref b))/\KTup K b [.int lo,.int hi]/\lo<=i/\i<=hi) \/
 (PySem.W.nsIn K aB part=some none/\part = "new" /\ ∃ t,x=.str t/\isNm t/\∀ w∈named,X4 ρ vs w t=false) \/
 (PySem.W.nsIn K aB part=some none/\¬ part = "new" /\ ∃ t,x=.str t/\isNm t/\X4 ρ vs part t=true)
structure Vb (K:PySem.W.Frag) (aB aP aM:Addr) (ρ:V->R) (vs:List V) (r:R):Prop where
 ns:¬ r.w = "step"
 nl:¬ r.w = "line"
 parts:∃ (ap:Addr) (ps:List Str),PySem.W.nsIn K aP r.w=some (some (.ref ap))/\KTup K ap (ps.map V.str)/\(V.str r.nm::r.rest).length=ps.length/\ps.length<=10 /\
  ∀ (i:Nat) x y,(V.str r.nm::r.rest)[i]? = some x->ps[i]? = some y->Js K aB ρ vs x y
 room:∃ (m:Int) (t:Tok),PySem.W.nsIn K aM r.w=some (some (.int m t))/\(((vs.filter (pw ρ r.w)).length:Nat):Int)<m
noncomputable def letters:Str:="abcdefghijklmnopqrstuvwxyz"
noncomputable abbrev fj (y:Str) (c:Nat):Bool:=!(Builtin.Str.occurrences y ⟨#[c]⟩ 0 y.length 1).isEmpty
theorem WT:∀ c<128,fj letters c=decide (97<=c/\c<=122):=by decide +kernel
theorem Aw {H:Hp} {p:Addr} {o:HO} (h:H p=none):Aq H (upd H p o):=fun b u e=>by rw [Am (Av e h)]; exact e
theorem HD {H:Hp} {p:Addr} {o:HO} (h:H p=none):∃ H',upd H p o=H'/\Aq H H'/\H' p=some o:=⟨_,rfl,Aw h,Ag⟩
theorem FQ {n:Nat} (h:n<=1000):n<=sizeLine:=fI (Az h)
theorem ty_int {K:PySem.W.Frag}:PySem.W.kitOne K (.type "int") (.type "int")=some true:=by kernel_rfl
theorem dZ {K:PySem.W.Frag}:PySem.W.kitOne K (.type "int") (.type "bool")=some false:=by kernel_rfl
theorem U9 {K:PySem.W.Frag}:PySem.W.kitOne K (.type "list") (.type "list")=some true:=by kernel_rfl
theorem YB {K:PySem.W.Frag}:PySem.W.kitOne K (.type "tuple") (.type "tuple")=some true:=by kernel_rfl
theorem Xl {K:PySem.W.Frag}:PySem.W.kitOne K (.type "str") (.type "str")=some true:=by kernel_rfl
theorem S9 (vs:List V) (n:Nat) (h:n<=vs.length):El vs none (some (n:Int))=vs.take n:=by
 unfold El
 have e1:HT.Dj vs.length 0 none=0:=rfl
 have e2:HT.Dj vs.length vs.length (some (n:Int))=n:=by
  rw [HT.JC]
  omega
 rw [e1,e2]
 simp
theorem Gy {α:Type} (p:α->Bool) (l:List α):(l.filter p).length<=l.length:=dS _ _
noncomputable abbrev bV (b:Str × Nat):List V:=[.str b.1,.int (b.2:Nat)]
noncomputable abbrev HB (b:Str × Nat):R:=⟨"board",b.1,[.int (b.2:Nat)]⟩
noncomputable abbrev qV (q:Nat × Nat):List V:=[.int (q.1:Nat),.int (q.2:Nat)]
noncomputable def HY (bs:List (Str × Nat)):List (Nat × Nat):=bs.zipIdx.flatMap fun p=>(List.range p.1.2).map fun e=>(p.2,e)
theorem Nv (bs:List (Str × Nat)) (b:Str × Nat):HY (bs++[b])=HY bs++(List.range b.2).map fun e=>(bs.length,e):=by
 unfold HY
 rw [List.zipIdx_append]
 simp
theorem Hf {bs:List (Str × Nat)} {i:Nat} {b:Str × Nat} (h:bs[i]? = some b):HY (bs.take (i+1))=HY (bs.take i)++(List.range b.2).map fun e=>(i,e):=by
 have hi:i<bs.length:=(af.mp h).1
 rw [cf,h]
 show HY (bs.take i++[b])=_
 rw [Nv,ci,Nat.min_eq_left (by omega)]
theorem Xi (bs:List (Str × Nat)) (M:Nat):(∀ b∈bs,b.2<=M)->(HY bs).length<=bs.length * M:=by
 intro h
 have key:∀ i,i<=bs.length->(HY (bs.take i)).length<=i * M:=by
  intro i
  induction i with
  | zero=>intro _; simp [HY]
  | succ i ih =>
   intro hi
   have hlt:i<bs.length:=by omega
   rw [Hf (ae hlt),ar,ag,cS]
   have h1:=ih (by omega)
   have h2:=h bs[i] (eR hlt)
   have:(i+1) * M=i * M+M:=by rw [Nat.add_mul,Nat.one_mul]
   omega
 have:=key bs.length (ah _)
 rw [eD] at this
 exact this
theorem Ec {α β:Type} {F:α->β->Prop} {l:List α} {vs:List β} (h:Paired F l vs):∀ {v},v∈vs->∃ a∈l,F a v:=by
 induction h with
 | nil=>intro v hv; cases hv
 | cons a b ih =>
  intro v hv
  rcases bi.mp hv with rfl | hv
  ·exact ⟨_,am ..,a⟩
  ·obtain ⟨x,hx,q⟩:=ih hv
   exact ⟨x,av _ hx,q⟩
theorem Fq {α β:Type} {F:α->β->Prop} {l:List α} {vs:List β} (h:Paired F l vs):∀ {i:Nat} {a},l[i]? = some a->∃ v,vs[i]? = some v/\F a v:=by
 induction h with
 | nil=>intro i a ha; simp at ha
 | cons x y ih =>
  intro i a ha
  cases i with
  | zero =>
   simp at ha
   subst ha
   exact ⟨_,rfl,x⟩
  | succ i=>exact ih (by simpa using ha)
theorem Cg {α β:Type} {F:α->β->Prop} {l:List α} {vs:List β} (h:Paired F l vs):∀ {i:Nat} {v},vs[i]? = some v->∃ a,l[i]? = some a/\F a v:=by
 induction h with
 | nil=>intro i a ha; simp at ha
 | cons x y ih =>
  intro i a ha
  cases i with
  | zero =>
   simp at ha
   subst ha
   exact ⟨_,rfl,x⟩
  | succ i=>exact ih (by simpa using ha)
theorem GR {α β:Type} {F:α->β->Prop} {l:List α} {vs:List β} (h:Paired F l vs):∀ n:Nat,Paired F (l.take n) (vs.take n):=by
 induction h with
 | nil=>intro n; simp; exact .nil
 | cons x y ih =>
  intro n
  cases n with
  | zero=>exact .nil
  | succ n=>exact .cons x (ih n)
theorem Eb {α β:Type} {F:α->β->Prop} {l l':List α} {vs vs':List β} (h:Paired F l vs) (h':Paired F l' vs'):Paired F (l++l') (vs++vs'):=by
 induction h with
 | nil=>exact h'
 | cons x y ih=>exact .cons x ih
theorem CP {α β γ:Type} {F:γ->β->Prop} (g:α->γ) {l:List α} {vs:List β} (h:Paired (fun a v=>F (g a) v) l vs):Paired F (l.map g) vs:=by
 induction h with
 | nil=>exact .nil
 | cons x y ih=>exact .cons x ih
theorem FP {α β γ:Type} {F:γ->β->Prop} (g:α->γ):∀ {l:List α} {vs:List β},Paired F (l.map g) vs->Paired (fun a v=>F (g a) v) l vs
 | [],_,h=>by cases h; exact .nil
 | a::l,_,h=>by
  cases h with
  | cons x y=>exact .cons x (FP g y)
noncomputable def V9 (H:Hp) (k:Nat):V->V
 | .ref T=>match H T with
  | some (.tup xs)=>xs.getD k .non
  | _=>.non
 | _=>.non
theorem K_ {H:Hp} {zs:List V} {v:V} (h:TupAt H zs v) (k:Nat):V9 H k v=zs.getD k .non:=by
 obtain ⟨T,rfl,e⟩:=h
 show (match H T with | some (.tup xs)=>xs.getD k V.non | _=>V.non)=_
 rw [e]
theorem Ql {α:Type} {H:Hp} {g:α->List V} (k:Nat) {l:List α} {vs:List V} (h:Paired (fun a v=>TupAt H (g a) v) l vs):vs.map (V9 H k)=l.map fun a=>(g a).getD k .non:=by
 induction h with
 | nil=>rfl
 | cons x y ih=>rw [ee,ee,ih,K_ x]
noncomputable def SX (x:Addr) (H H':Hp):Prop:=∀ b o,H b=some o->b ≠ x->H' b=some o
theorem SX.trans {x:Addr} {H H1 H2:Hp} (a:SX x H H1) (b:SX x H1 H2):SX x H H2:=fun c o h n=>b c o (a c o h n) n
theorem SX.of {x:Addr} {H H':Hp} (s:Aq H H'):SX x H H':=fun b o h _=>s b o h
theorem SX.up {x:Addr} {H:Hp} {o:HO}:SX x H (upd H x o):=fun b u h n=>by rw [Am n]; exact h
theorem SX.tup {x:Addr} {H H':Hp} {zs:List V} {y:V} {C dx:Addr} {fs:List (Str × V)} (s:SX x H H') (hx:H x=some (.ins C dx fs)) (h:TupAt H zs y):TupAt H' zs y:=by
 obtain ⟨T,e,q⟩:=h
 exact ⟨T,e,s _ _ q fun z=>by rw [z,hx] at q; cases q⟩
theorem SX.pair {α:Type} {x:Addr} {H H':Hp} {f:α->List V} {l:List α} {vs:List V} {C dx:Addr} {fs:List (Str × V)} (s:SX x H H') (hx:H x=some (.ins C dx fs)) (h:Paired (fun a y=>TupAt H (f a) y) l vs):Paired (fun a y=>TupAt H' (f a) y) l vs:=Paired.FJ h fun _ _ q=>s.tup hx q
theorem SX.lst {x a:Addr} {H H':Hp} {xs:List V} {C dx:Addr} {fs:List (Str × V)} (s:SX x H H') (hx:H x=some (.ins C dx fs)) (h:H a=some (.lst xs)):H' a=some (.lst xs):=s _ _ h fun z=>by rw [z,hx] at h; cases h
theorem SX.dk {x a:Addr} {H H':Hp} {kvs:List (Key × V)} {C dx:Addr} {fs:List (Str × V)} (s:SX x H H') (hx:H x=some (.ins C dx fs)) (h:H a=some (.dK kvs)):H' a=some (.dK kvs):=s _ _ h fun z=>by rw [z,hx] at h; cases h
noncomputable abbrev meths:List Str:=["ranks","pipe_count","pipe","rank_of","board_of_knob","boards","key_count","key","board_of","coupler","knobs","knob_number","board_number","stop","mute","steps","rows"]
structure Px (C:Addr) (H:Hp) (x:Addr) (bs:List (Str × Nat)) (ks:List R):Prop where
 ob:∃ (dx:Addr) (fs:List (Str × V)) (bl bn kp kr:Addr) (bvs pvs uvs:List V) (kvs:List (Key × V)),H x=some (.ins C dx fs)/\fs.lookup ("board_list" : Str)=some (.ref bl)/\fs.lookup ("board_numbers" : Str)=some (.ref bn)/\fs.lookup ("key_places" : Str)=some (.ref kp)/\fs.lookup ("knob_rows" : Str)=some (.ref kr) /\
  (∀ m∈meths,fs.lookup m=none)/\H bl=some (.lst bvs)/\Paired (fun b y=>TupAt H (bV b) y) bs bvs/\H bn=some (.dK kvs)/\(∀ (i:Nat) b,bs[i]? = some b->DQ kvs (Sum.inr b.1)=some (.int (i:Nat))) /\
  H kp=some (.lst pvs)/\Paired (fun q y=>TupAt H (qV q) y) (HY bs) pvs/\H kr=some (.lst uvs)/\Paired (fun (r:R) y=>TupAt H r.v y) ks uvs
 nb:bs.length<=5
 sz:∀ b∈bs,b.2<=61
 nk:ks.length<=200
theorem Px.mono {C:Addr} {H H':Hp} {x:Addr} {bs:List (Str × Nat)} {ks:List R} (s:Aq H H') (h:Px C H x bs ks):Px C H' x bs ks:=by
 obtain ⟨⟨dx,fs,bl,bn,kp,kr,bvs,pvs,uvs,kvs,h1,l1,l2,l3,l4,lm,h2,h3,h4,h5,h6,h7,h8,h9⟩,a,b,c⟩:=h
 exact ⟨⟨dx,fs,bl,bn,kp,kr,bvs,pvs,uvs,kvs,s _ _ h1,l1,l2,l3,l4,lm,s _ _ h2,Ax s h3,s _ _ h4,h5,s _ _ h6,Ax s h7,s _ _ h8,Ax s h9⟩,a,b,c⟩
end Og
namespace Og
open PySem L2 PyProof.Rows
inductive Kb where
 | cp (i j:Nat) (s:Int)
 | pl (w:Str) (i:Nat)
noncomputable def Kb.w:Kb->Str
 | .cp _ _ _=>"coupler"
 | .pl w _=>w
noncomputable def Kb.v:Kb->List V
 | .cp i j s=>[.str "coupler",.int (i:Nat),.int (j:Nat),.int s]
 | .pl w i=>[.str w,.int (i:Nat)]
noncomputable def Kb.ok (n:Nat):Kb->Prop
 | .cp i j s=>i<n/\j<n /\ -60<=s/\s<=60
 | .pl w i=>i<n/\(w = "mute" \/ w = "stop")
noncomputable def mO (w:Str):Nat:=if w = "coupler" then 12 else if w = "mute" then 5 else 24
structure KF (K:PySem.W.Frag) (aB aP aM:Addr):Prop where
 pB:∃ a,PySem.W.nsIn K aP "board" = some (some (.ref a))/\KTup K a (["new","keys"].map fun s:String=>V.str s)
 pS:∃ a,PySem.W.nsIn K aP "stop" = some (some (.ref a))/\KTup K a (["new","board"].map fun s:String=>V.str s)
 pM:∃ a,PySem.W.nsIn K aP "mute" = some (some (.ref a))/\KTup K a (["new","board"].map fun s:String=>V.str s)
 pC:∃ a,PySem.W.nsIn K aP "coupler" = some (some (.ref a))/\KTup K a (["new","board","board","leap"].map fun s:String=>V.str s)
 bK:∃ a,PySem.W.nsIn K aB "keys" = some (some (.ref a))/\KTup K a [.int 1,.int 61]
 bL:∃ a,PySem.W.nsIn K aB "leap" = some (some (.ref a))/\KTup K a [.int (-60),.int 60]
 bN:PySem.W.nsIn K aB "new" = some none
 bB:PySem.W.nsIn K aB "board" = some none
 mB:∃ t,PySem.W.nsIn K aM "board" = some (some (.int 5 t))
 mS:∃ t,PySem.W.nsIn K aM "stop" = some (some (.int 24 t))
 mC:∃ t,PySem.W.nsIn K aM "coupler" = some (some (.int 12 t))
 mM:∃ t,PySem.W.nsIn K aM "mute" = some (some (.int 5 t))
noncomputable def Vy (H:Hp):V->R
 | .ref T=>match H T with
  | some (.tup (.str w :: .str n::r))=>⟨w,n,r⟩
  | _=>⟨"","",[]⟩
 | _=>⟨"","",[]⟩
theorem Ux {H:Hp} {r:R} {v:V} (h:TupAt H r.v v):Vy H v=r:=by
 obtain ⟨T,rfl,e⟩:=h
 show (match H T with | some (.tup (.str w :: .str n::r))=>(⟨w,n,r⟩:R) | _=>⟨"","",[]⟩)=r
 rw [e]
theorem Wx {H:Hp} {rs:List R} {vs:List V} (h:Paired (fun (r:R) v=>TupAt H r.v v) rs vs):vs.map (Vy H)=rs:=by
 induction h with
 | nil=>rfl
 | cons x y ih=>rw [ee,ih,Ux x]
theorem Bs (f:Str) (v:V):∀ l:List (Str × V),(Bb f v l).length<=l.length+1
 | []=>ah _
 | p::r=>by
  unfold Bb
  split
  ·simp
  ·have:=Bs f v r
   simp only [List.length_cons]
   omega
noncomputable abbrev JD (s:Str):Bool:=inV (.str s) [.str "stop",.str "coupler",.str "mute"]
structure nG (K:PySem.W.Frag) (aB aP aM:Addr) (ρ:V->R) (us:List V) (bs:List (Str × Nat)) (ks:List R):Prop where
 kinds:∀ v∈us,(ρ v).w = "board" \/ (ρ v).w = "stop" \/ (ρ v).w = "coupler" \/ (ρ v).w = "mute"
 eb:(us.filter (pw ρ "board")).map ρ=bs.map HB
 ek:(us.filter (fun v=>JD (ρ v).w)).map ρ=ks
 b0:1<=bs.length
 b5:bs.length<=5
 sz:∀ b∈bs,b.2<=61
 nk:ks.length<=100
 nb:(bs.map (·.1)).Nodup
 nn:(ks.map (·.nm)).Nodup
 len:us.length<=105
 ok:∀ (i:Nat) v,us[i]? = some v->Vb K aB aP aM ρ (us.take i) (ρ v)
noncomputable def KY (ρ:V->R) (vs:List V):List (Str × Str):=vs.map fun v=>((ρ v).w,(ρ v).nm)
noncomputable abbrev cI (wn:List (Str × Str)) (w t:Str):Bool:=(wn.filter fun p=>decide (p.1=w)).any fun p=>decide (p.2=t)
noncomputable abbrev Yy (wn:List (Str × Str)) (w:Str):Nat:=(wn.filter fun p=>decide (p.1=w)).length
theorem Gu (a b:Str):decide (V.str a=V.str b)=decide (a=b):=by
 rw [eu,decide_eq_true_eq,decide_eq_true_eq]
 exact ⟨V.str.inj,congrArg V.str⟩
theorem Tv (ρ:V->R) (vs:List V) (w t:Str):X4 ρ vs w t=cI (KY ρ vs) w t:=by
 unfold X4 KY
 show _=((vs.map fun v=>((ρ v).w,(ρ v).nm)).filter fun p=>decide (p.1=w)).any fun p=>decide (p.2=t)
 rw [ip,List.any_map]
 have e1:pw ρ w=(fun p:Str × Str=>decide (p.1=w)) ∘ fun v=>((ρ v).w,(ρ v).nm):=by
  funext v
  exact Gu _ _
 have e2:pn ρ t=(fun p:Str × Str=>decide (p.2=t)) ∘ fun v=>((ρ v).w,(ρ v).nm):=by
  funext v
  exact Gu _ _
 rw [e1,e2]
theorem LC (ρ:V->R) (vs:List V) (w:Str):(vs.filter (pw ρ w)).length=Yy (KY ρ vs) w:=by
 unfold KY
 show _=((vs.map fun v=>((ρ v).w,(ρ v).nm)).filter fun p=>decide (p.1=w)).length
 rw [ip,ag]
 have e1:pw ρ w=(fun p:Str × Str=>decide (p.1=w)) ∘ fun v=>((ρ v).w,(ρ v).nm):=by
  funext v
  exact Gu _ _
 rw [e1]
section
variable {K:PySem.W.Frag} {aB aP aM:Addr} {ρ:V->R} {vs:List V} {wn:List (Str × Str)} {t:Str}
theorem Nb (F:KF K aB aP aM) (e:KY ρ vs=wn) (ht:isNm t) (h:∀ w∈named,cI wn w t=false):Js K aB ρ vs (.str t) "new" :=
 .inr (.inl ⟨F.bN,rfl,_,rfl,ht,fun w hw=>by rw [Tv,e]; exact h w hw⟩)
theorem Rw (F:KF K aB aP aM) (e:KY ρ vs=wn) (ht:isNm t) (h:∀ w∈named,cI wn w t=false) (hc:Yy wn "board" < 5) {n:Nat} (h1:1<=n) (h2:n<=61):Vb K aB aP aM ρ vs (HB (t,n)):=by
 obtain ⟨ap,g1,g2⟩:=F.pB
 obtain ⟨ab,g3,g4⟩:=F.bK
 obtain ⟨tk,g5⟩:=F.mB
 refine ⟨by show ¬ ("board" : Str) = "step"; decide +kernel,by show ¬ ("board" : Str) = "line"; decide +kernel,⟨ap,["new","keys"],g1,g2,rfl,by decide,fun j x y hx hy=>?_⟩,⟨5,tk,g5,?_⟩⟩
 ·match j,hx,hy with
  | 0,hx,hy =>
   cases (Option.some.inj hx)
   cases (Option.some.inj hy)
   exact Nb F e ht h
  | 1,hx,hy =>
   cases (Option.some.inj hx)
   cases (Option.some.inj hy)
   exact .inl ⟨_,1,61,ab,rfl,g3,g4,by omega,by omega⟩
  | j+2,hx,hy=>simp at hy
 ·rw [LC,e]
  show ((Yy wn "board" : Nat):Int)<5
  omega
end
theorem Qx {α:Type} {l:List α} (h:∀ (i j:Nat) x,l[i]? = some x->l[j]? = some x->i=j):l.Nodup:=by
 refine df.mpr fun i j hi hj hij e=>?_
 have:=h i j l[i] (ae hi) (by rw [e]; exact ae hj)
 omega
theorem QH {bs:List (Str × Nat)}:∀ {i a n:Nat},(HY bs)[i]? = some (a,n)->∃ b,bs[a]? = some b/\n<b.2/\i=((bs.map (·.2)).take a).sum+n:=by
 have key:∀ m,m<=bs.length->∀ {i a n:Nat},(HY (bs.take m))[i]? = some (a,n)->∃ b,bs[a]? = some b/\n<b.2/\i=((bs.map (·.2)).take a).sum+n:=by
  intro m
  induction m with
  | zero =>
   intro _ i a n h
   simp [HY] at h
  | succ m ih =>
   intro hm i a n h
   have hlt:m<bs.length:=by omega
   have hb:=ae hlt
   rw [Hf hb] at h
   have hlen:(HY (bs.take m)).length=((bs.map (·.2)).take m).sum:=by
    have g:∀ m,m<=bs.length->(HY (bs.take m)).length=((bs.map (·.2)).take m).sum:=by
     intro m
     induction m with
     | zero=>intro _; simp [HY]
     | succ m ih =>
      intro hm
      have hlt:m<bs.length:=by omega
      rw [Hf (ae hlt),ar,ih (by omega),ag,cS,cf,ax,ae hlt,kD]
      simp
    exact g m (by omega)
   by_cases hi:i<(HY (bs.take m)).length
   ·rw [dE hi] at h
    exact ih (by omega) h
   ·rw [eS (by omega),ax] at h
    obtain ⟨e,he,q⟩:=aE.mp h
    have he':i - (HY (bs.take m)).length<bs[m].2/\e=i - (HY (bs.take m)).length:=by
     obtain ⟨h1,h2⟩:=af.mp he
     rw [cS] at h1
     rw [List.getElem_range] at h2
     exact ⟨h1,h2.symm⟩
    obtain ⟨q1,q2⟩:=Prod.mk.inj q
    subst q1 q2
    refine ⟨bs[m],hb,by omega,?_⟩
    rw [← hlen]
    omega
 intro i a n h
 refine key bs.length (ah _) ?_
 rw [eD]
 exact h
end Og
namespace Og
open PySem L2
noncomputable def lu (bs:List (Str × Nat)) (j1 j2:Nat) (s:Int) (qd:Nat × Nat) (z2:Nat):V :=
 if qd.1=j1/\0<=(qd.2:Int)+s/\(qd.2:Int)+s<z2 then .int ((((bs.take j2).map (·.2)).sum:Nat)+((qd.2:Int)+s)) else .non
noncomputable def gl (bs:List (Str × Nat)):Kb->Nat->Option Nat
 | .cp j1 j2 s,i=>match (HY bs)[i]?,bs[j2]? with
  | some qd,some b2=>match lu bs j1 j2 s qd b2.2 with
   | .int v=>some v.toNat
   | _=>none
  | _,_=>none
 | .pl _ _,_=>none
noncomputable def stp (bs:List (Str × Nat)) (kbs:List Kb) (D:Nat) (i j:Nat):Prop:=∃ k z,D.testBit k=true/\kbs[k]? = some z/\gl bs z i=some j
inductive iY (st:Nat->Nat->Prop) (hd:Nat->Prop):Nat->Prop
 | one {i j:Nat}:hd i->st i j->iY st hd j
 | more {i j:Nat}:iY st hd i->st i j->iY st hd j
theorem Kc:∀ (T:Nat) {l:List Nat},l.Nodup->(∀ x∈l,x<T)->l.length<=T
 | 0,l,_,h=>by
  cases l with
  | nil=>exact ah _
  | cons a l=>exact absurd (h a (am ..)) (iq _)
 | T+1,l,nd,h=>by
  have ih:=Kc T (l:=l.erase T) (nd.erase T) fun x hx=>by
   have h1:=h x (List.mem_of_mem_erase hx)
   have h2:x ≠ T:=fun z=>by
    subst z
    exact nd.not_mem_erase hx
   omega
  have:=List.length_erase (a:=T) (l:=l)
  split at this <;> omega
end Og
namespace Og
open PySem L2 PyProof.Rows
noncomputable abbrev Th:=Str × Nat × List V
noncomputable abbrev tV (a:Th):List V:=.str a.1 :: .int (a.2.1:Nat)::a.2.2
noncomputable abbrev tN (a:Th):Str × Nat:=(a.1,a.2.1)
noncomputable abbrev Wg (r:Str × Nat × Int):Th:=(r.1,r.2.1,[.int r.2.2])
noncomputable abbrev jJ (b:Str × Nat):Th:=(b.1,b.2,[])
noncomputable abbrev V4 (r:Str × Nat × Int):Str × Nat:=(r.1,r.2.1)
noncomputable abbrev Hn (r:Str × Nat × Int):R:=⟨"rank",r.1,[.int (r.2.1:Nat),.int r.2.2]⟩
structure Ln where
 r:Nat
 sh:Int
 lo:Int
 hi:Int
noncomputable abbrev m7 (l:Ln):List V:=[.int (l.r:Nat),.int l.sh,.int l.lo,.int l.hi]
noncomputable def G_ (H:Hp) (l:List Ln) (v:V):Prop:=∃ (A:Addr) (ts:List V),v=.ref A/\H A=some (.lst ts)/\Paired (fun x y=>TupAt H (m7 x) y) l ts
noncomputable def Fp (H:Hp) (D:Addr) (ls:List (List Ln)):Prop:=∃ lv,H D=some (.lst lv)/\Paired (fun l v=>G_ H l v) ls lv
theorem G_.mono {H H':Hp} {l:List Ln} {v:V} (s:Aq H H') (h:G_ H l v):G_ H' l v:=by
 obtain ⟨A,ts,e,h1,h2⟩:=h
 exact ⟨A,ts,e,s _ _ h1,Ax s h2⟩
theorem Fp.mono {H H':Hp} {D:Addr} {ls:List (List Ln)} (s:Aq H H') (h:Fp H D ls):Fp H' D ls:=by
 obtain ⟨lv,h1,h2⟩:=h
 exact ⟨lv,s _ _ h1,Paired.FJ h2 fun _ _ q=>q.mono s⟩
structure Cr (C:Addr) (H:Hp) (x:Addr) (bs:List (Str × Nat)) (rk:List (Str × Nat × Int)) (ks:List R) (ls:List (List Ln)):Prop where
 o:Px C H x bs ks
 r:∃ (dx:Addr) (fs:List (Str × V)) (rl rn pp kl:Addr) (rvs pvs:List V) (kvs:List (Key × V)),H x=some (.ins C dx fs)/\fs.lookup ("rank_list" : Str)=some (.ref rl)/\fs.lookup ("rank_numbers" : Str)=some (.ref rn)/\fs.lookup ("pipe_places" : Str)=some (.ref pp)/\fs.lookup ("knob_lines" : Str)=some (.ref kl) /\
  H rl=some (.lst rvs)/\Paired (fun (a:Th) y=>TupAt H (tV a) y) (rk.map Wg) rvs/\H rn=some (.dK kvs)/\(∀ (i:Nat) r,rk[i]? = some r->DQ kvs (Sum.inr r.1)=some (.int (i:Nat))) /\
  H pp=some (.lst pvs)/\Paired (fun q y=>TupAt H (qV q) y) (HY (rk.map V4)) pvs/\Fp H kl ls
 nr:rk.length<=12
 nz:∀ r∈rk,r.2.1<=97
 nl:ls.length=ks.length
theorem Cr.mono {C:Addr} {H H':Hp} {x:Addr} {bs:List (Str × Nat)} {rk:List (Str × Nat × Int)} {ks:List R} {ls:List (List Ln)} (s:Aq H H') (h:Cr C H x bs rk ks ls):Cr C H' x bs rk ks ls:=by
 obtain ⟨o,⟨dx,fs,rl,rn,pp,kl,rvs,pvs,kvs,h1,l1,l2,l3,l4,h2,h3,h4,h5,h6,h7,h8⟩,a,b,c⟩:=h
 exact ⟨o.mono s,⟨dx,fs,rl,rn,pp,kl,rvs,pvs,kvs,s _ _ h1,l1,l2,l3,l4,s _ _ h2,Ax s h3,s _ _ h4,h5,s _ _ h6,Ax s h7,h8.mono s⟩,a,b,c⟩
structure YM (ρ:V->R) (us:List V) (i:Nat):Prop where
 all:∀ j,j<i->∃ v,us[us.length - 1 - j]? = some v/\(ρ v).w = "line"
 lt:i<us.length
 no:∃ v,us[us.length - 1 - i]? = some v/\¬ (ρ v).w = "line"
noncomputable def Z0 (r:R):Int:=match r.rest with
 | [.int m]=>m
 | _=>0
noncomputable abbrev keyOf (ρ:V->R) (us:List V) (bd:Str) (n:Int):Bool:=(us.filter (pw ρ "board")).any fun v=>pn ρ bd v && decide (n<Z0 (ρ v))
structure Td (ρ:V->R) (us:List V) (ro:R):Prop where
 ex:∃ (cnt:Nat) (v:V) (sh lo hi:Int) (bd:Str) (rs:List V),ro.rest=[.int sh,.int lo,.int hi]/\YM ρ us cnt/\cnt<4/\us[us.length - 1 - cnt]? = some v/\(ρ v).w = "stop" /\ (ρ v).rest=.str bd::rs/\lo<=hi/\keyOf ρ us bd hi=true
noncomputable abbrev Fe (ρ:V->R) (us:List V):Prop:=∀ v∈us,(ρ v).w = "board"->∃ m,(ρ v).rest=[.int m]
structure G7 (K:PySem.W.Frag) (aB aP aM:Addr) (ρ:V->R) (vs:List V) (r:R):Prop where
 ns:¬ r.w = "step"
 parts:∃ (ap:Addr) (ps:List Str),PySem.W.nsIn K aP r.w=some (some (.ref ap))/\KTup K ap (ps.map V.str)/\(V.str r.nm::r.rest).length=ps.length/\ps.length<=10 /\
  ∀ (i:Nat) x y,(V.str r.nm::r.rest)[i]? = some x->ps[i]? = some y->Js K aB ρ vs x y
 room:(r.w = "line" /\ PySem.W.nsIn K aM r.w=some none) \/ ∃ (m:Int) (t:Tok),PySem.W.nsIn K aM r.w=some (some (.int m t))/\(((vs.filter (pw ρ r.w)).length:Nat):Int)<m
 line:r.w = "line"->Td ρ vs r
 iC:Fe ρ vs
noncomputable def lnOf (rk:List (Str × Nat × Int)) (r:R):Ln:=match r.rest with
 | [.int sh,.int lo,.int hi]=>⟨(rk.map (·.1)).idxOf r.nm,sh,lo,hi⟩
 | _=>⟨0,0,0,0⟩
noncomputable def putL (acc:List (List Ln)) (l:Ln):List (List Ln):=match acc.getLast? with
 | some z=>acc.dropLast++[z++[l]]
 | none=>[]
noncomputable def GQ (rk:List (Str × Nat × Int)) (acc:List (List Ln)) (r:R):List (List Ln):=if JD r.w=true then acc++[[]] else if r.w = "line" then putL acc (lnOf rk r) else acc
noncomputable def linesOf (rk:List (Str × Nat × Int)) (rs:List R):List (List Ln):=rs.foldl (GQ rk) []
theorem Ci (rk:List (Str × Nat × Int)) (rs:List R) (r:R):linesOf rk (rs++[r])=GQ rk (linesOf rk rs) r:=by
 unfold linesOf
 rw [hV]
 rfl
theorem Hv (acc:List (List Ln)) (z:List Ln) (l:Ln):putL (acc++[z]) l=acc++[z++[l]]:=by
 unfold putL
 rw [ko,fg]
structure cB (K:PySem.W.Frag) (aB aP aM:Addr) (ρ:V->R) (us:List V) (bs:List (Str × Nat)) (rk:List (Str × Nat × Int)) (ks:List R):Prop where
 kinds:∀ v∈us,(ρ v).w = "board" \/ (ρ v).w = "rank" \/ (ρ v).w = "line" \/ (ρ v).w = "stop" \/ (ρ v).w = "coupler" \/ (ρ v).w = "mute"
 eb:(us.filter (pw ρ "board")).map ρ=bs.map HB
 er:(us.filter (pw ρ "rank")).map ρ=rk.map Hn
 ek:(us.filter (fun v=>JD (ρ v).w)).map ρ=ks
 ln:∀ (i:Nat) v,us[i]? = some v->(ρ v).w = "line"->(∃ (j:Nat) (r:Str × Nat × Int) (sh lo hi:Int),rk[j]? = some r/\r.1=(ρ v).nm/\(ρ v).rest=[.int sh,.int lo,.int hi])/\∃ u∈us.take i,JD (ρ u).w=true
 b0:1<=bs.length
 b5:bs.length<=5
 sz:∀ b∈bs,b.2<=61
 nr:rk.length<=12
 nz:∀ r∈rk,r.2.1<=97
 nk:ks.length<=100
 nb:(bs.map (·.1)).Nodup
 nrr:(rk.map (·.1)).Nodup
 nn:(ks.map (·.nm)).Nodup
 len:us.length<=150
 ok:∀ (i:Nat) v,us[i]? = some v->G7 K aB aP aM ρ (us.take i) (ρ v)
theorem cB.none {K:PySem.W.Frag} {aB aP aM:Addr} {ρ:V->R} {us:List V} {bs:List (Str × Nat)} {rk:List (Str × Nat × Int)} {ks:List R} (h:cB K aB aP aM ρ us bs rk ks):us.filter (pw ρ "step")=[]:=by
 refine List.filter_eq_nil_iff.mpr fun v hv=>?_
 unfold pw
 rcases h.kinds v hv with e | e | e | e | e | e <;> rw [e] <;> decide +kernel
end Og
namespace Sq
open PySem PySem.W PyProof.Rows
structure lH (lt:Nat->Nat->Bool):Prop where
 irr:∀ a,lt a a=false
 asy:∀ a b,lt a b=true->lt b a=false
 tr:∀ a b c,lt b a=false->lt c b=false->lt c a=false
noncomputable def run {α:Type} (lt:Nat->Nat->Bool):KasT α->α
 | .ret a=>a
 | .ask i j k=>run lt (k (lt i j))
theorem run_bind {α β:Type} {lt:Nat->Nat->Bool} {f:α->KasT β}:∀ t:KasT α,run lt (t.bind f)=run lt (f (run lt t))
 | .ret a=>rfl
 | .ask i j k=>run_bind (k (lt i j))
theorem Dt {α:Type} {lt:Nat->Nat->Bool} {c:Prop} [Decidable c] {a b:KasT α}:run lt (if c then a else b)=if c then run lt a else run lt b:=by split <;> rfl
noncomputable def K (p:Array Nat) (i:Nat):Nat:=(p[i]?).getD 0
theorem K_eq (p:Array Nat) (i:Nat):p.getD i 0=K p i:=by
 unfold K
 by_cases h:i<p.size <;> simp [Array.getD,h]
theorem Gz {p:Array Nat} {i j:Nat} (hj:j<=p.size) (k:Nat):K (kas_rev p i j) k=if i<=k/\k<j then K p (i+j - 1 - k) else K p k:=by
 unfold K kas_rev
 rw [getElem?_mirror_all hj]
 split <;> rfl
theorem Jv (p:Array Nat) (i j:Nat):(kas_rev p i j).size=p.size:=mirror_size _ _ _ _
theorem Eh (p:Array Nat) (i j:Nat):(kas_rev p i j).Perm p:=mirror_perm _ _ _ _
theorem X7 {p:Array Nat} {k l:Nat} (hk:k<p.size) (hl:l<=k) (i:Nat):K (bubble p k (k - l)) i=if i=l then K p k else if l<i/\i<=k then K p (i - 1) else K p i:=by
 unfold K
 rw [getElem?_bubble hk _ (by omega)]
 have e:k - (k - l)=l:=by omega
 rw [e]
 repeat' split
 all_goals rfl
section
variable {lt:Nat->Nat->Bool} (O:lH lt)
include O
noncomputable def Up (lt:Nat->Nat->Bool) (p:Array Nat) (n:Nat):Prop:=∀ i j,i<=j->j<n->lt (K p j) (K p i)=false
noncomputable def Dn (lt:Nat->Nat->Bool) (p:Array Nat) (n:Nat):Prop:=∀ i j,i<=j->j<n->lt (K p i) (K p j)=false
theorem Xg {p:Array Nat} {n:Nat} (h:Up lt p (n+1)) (c:lt (K p (n+1)) (K p n)=false):Up lt p (n+2):=by
 intro i j hij hj
 by_cases e:j=n+1
 ·subst e
  by_cases e2:i=n+1
  ·subst e2; exact O.irr _
  ·exact O.tr _ _ _ (h i n (by omega) (by omega)) c
 ·exact h i j hij (by omega)
theorem HR {p:Array Nat} {n:Nat} (h:Dn lt p (n+1)) (c:lt (K p n) (K p (n+1))=false):Dn lt p (n+2):=by
 intro i j hij hj
 by_cases e:j=n+1
 ·subst e
  by_cases e2:i=n+1
  ·subst e2; exact O.irr _
  ·exact O.tr _ _ _ c (h i n (by omega) (by omega))
 ·exact h i j hij (by omega)
theorem O5 {p:Array Nat}:∀ (f n:Nat),1<=n->Up lt p n->∃ m,run lt (kas_asc p f n)=m/\n<=m/\m<=n+f/\Up lt p m/\(m<n+f->lt (K p m) (K p (m - 1))=true)
 | 0,n,_,h=>⟨n,rfl,ah _,ah _,h,fun z=>absurd z (ed _)⟩
 | f+1,n,h1,h=>by
  unfold kas_asc
  show ∃ m,run lt (if lt (p.getD n 0) (p.getD (n - 1) 0)=true then _ else _)=m/\_
  rw [K_eq,K_eq,Dt]
  by_cases c:lt (K p n) (K p (n - 1))=true
  ·rw [if_pos c]
   exact ⟨n,rfl,ah _,by omega,h,fun _=>c⟩
  ·rw [if_neg c]
   obtain ⟨n',rfl⟩:∃ n',n=n'+1:=⟨n - 1,by omega⟩
   obtain ⟨m,e,a,b,u,l⟩:=O5 f (n'+1+1) (by omega) (Xg O h (by simpa using c))
   exact ⟨m,e,by omega,by omega,u,fun z=>l (by omega)⟩
structure De (lt:Nat->Nat->Bool) (p:Array Nat) (n q:Nat):Prop where
 dn:Dn lt p n
 hq:q+1<=n
 eq:∀ i,n - (q+1)<=i->i<n->lt (K p i) (K p (n - 1))=false/\lt (K p (n - 1)) (K p i)=false
theorem Vg {p:Array Nat} {n q:Nat} (h:De lt p n q) (hs:n<=p.size):Dn lt (kas_rev p (n - (q+1)) n) n:=by
 have hq:=h.hq
 have al:∀ a b,n - (q+1)<=a->a<n->n - (q+1)<=b->b<n->lt (K p a) (K p b)=false:=fun a b a1 a2 b1 b2=>O.tr _ _ _ (h.eq b b1 b2).2 (h.eq a a1 a2).1
 intro i j hij hj
 rw [Gz hs,Gz hs]
 by_cases hi:n - (q+1)<=i
 ·rw [if_pos ⟨hi,by omega⟩,if_pos ⟨by omega,hj⟩]
  exact al _ _ (by omega) (by omega) (by omega) (by omega)
 ·rw [if_neg (by omega)]
  by_cases hj2:n - (q+1)<=j
  ·rw [if_pos ⟨hj2,hj⟩]
   exact h.dn _ _ (by omega) (by omega)
  ·rw [if_neg (by omega)]
   exact h.dn _ _ hij hj
theorem Iv:∀ (f:Nat) (p:Array Nat) (n q:Nat),De lt p n q->n+f<=p.size->∃ p' n' q',run lt (kas_desc f p n q)=(p',n',q')/\De lt p' n' q'/\n<=n'/\n'<=n+f/\p'.Perm p
 | 0,p,n,q,h,_=>⟨p,n,q,rfl,h,ah _,ah _,Array.Perm.refl _⟩
 | f+1,p,n,q,h,hs=>by
  have hq:=h.hq
  obtain ⟨n1,rfl⟩:∃ n1,n=n1+1:=⟨n - 1,by omega⟩
  have one:∀ {p':Array Nat},Dn lt p' (n1+2)->De lt p' (n1+2) 0:=fun {p'} d=>⟨d,by omega,fun i i1 i2=>by
   have:i=n1+1:=by omega
   subst this
   exact ⟨O.irr _,O.irr _⟩⟩
  unfold kas_desc
  show ∃ p' n' q',run lt (if lt (p.getD (n1+1) 0) (p.getD (n1+1 - 1) 0)=true then _ else _)=(p',n',q')/\_
  rw [K_eq,K_eq,Dt]
  by_cases c:lt (K p (n1+1)) (K p (n1+1 - 1))=true
  ·rw [if_pos c,Dt]
   by_cases hq0:q > 0
   ·rw [if_pos hq0]
    have d1:=Vg O h (by omega)
    have k1:K (kas_rev p (n1+1 - (q+1)) (n1+1)) (n1+1)=K p (n1+1):=by rw [Gz (by omega),if_neg (by omega)]
    have k2:lt (K (kas_rev p (n1+1 - (q+1)) (n1+1)) n1) (K p (n1+1))=false:=by
     rw [Gz (by omega),if_pos (by omega)]
     exact O.tr _ _ _ (O.asy _ _ c) (h.eq _ (by omega) (by omega)).1
    obtain ⟨p',n',q',e,d,a,b,pm⟩:=Iv f (kas_rev p (n1+1 - (q+1)) (n1+1)) (n1+2) 0 (one (HR O d1 (by rw [k1]; exact k2))) (by rw [Jv]; omega)
    exact ⟨p',n',q',e,d,by omega,by omega,pm.trans (Eh _ _ _)⟩
   ·rw [if_neg hq0]
    obtain ⟨p',n',q',e,d,a,b,pm⟩:=Iv f p (n1+2) 0 (one (HR O h.dn (O.asy _ _ c))) (by omega)
    exact ⟨p',n',q',e,d,by omega,by omega,pm⟩
  ·rw [if_neg c]
   have c':lt (K p (n1+1)) (K p n1)=false:=by simpa using c
   show ∃ p' n' q',run lt (if lt (K p (n1+1 - 1)) (K p (n1+1))=true then _ else _)=(p',n',q')/\_
   rw [Dt]
   by_cases g:lt (K p (n1+1 - 1)) (K p (n1+1))=true
   ·rw [if_pos g]
    exact ⟨p,n1+1,q,rfl,h,ah _,by omega,Array.Perm.refl _⟩
   ·rw [if_neg g]
    have g':lt (K p n1) (K p (n1+1))=false:=by simpa using g
    have d2:De lt p (n1+2) (q+1):=⟨HR O h.dn g',by omega,fun i i1 i2=>by
     by_cases e:i=n1+1
     ·subst e; exact ⟨O.irr _,O.irr _⟩
     ·have:=h.eq i (by omega) (by omega)
      exact ⟨O.tr _ _ _ g' this.1,O.tr _ _ _ this.2 c'⟩⟩
    obtain ⟨p',n',q',e,d,a,b,pm⟩:=Iv f p (n1+2) (q+1) d2 (by omega)
    exact ⟨p',n',q',e,d,by omega,by omega,pm⟩
theorem Y_ {p:Array Nat} {n:Nat} (h:Dn lt p n) (hs:n<=p.size):Up lt (kas_rev p 0 n) n:=by
 intro i j hij hj
 rw [Gz hs,Gz hs,if_pos (by omega),if_pos (by omega)]
 exact h _ _ (by omega) (by omega)
theorem QX {p:Array Nat} {n r:Nat} (h:Dn lt p n) (h1:1<=n) (hn:n<=r) (hs:r<=p.size):∃ m p',run lt (kas_tail3 n r p)=(m,p')/\Up lt p' m/\1<=m/\m<=r/\p'.Perm p:=by
 unfold kas_tail3
 rw [run_bind]
 obtain ⟨m,e,a,b,u,_⟩:=O5 O (r - n) n h1 (Y_ O h (by omega))
 rw [e]
 exact ⟨m,_,rfl,u,by omega,by omega,Eh _ _ _⟩
theorem P0 {p:Array Nat} {n r:Nat} (h:Dn lt p (n+1)) (hn:n+1<=r) (hs:r<=p.size):∃ m p',run lt (kas_descPart n r p)=(m,p')/\Up lt p' m/\1<=m/\m<=r/\p'.Perm p:=by
 unfold kas_descPart
 rw [run_bind]
 obtain ⟨p1,n1,q1,e,d,a,b,pm⟩:=Iv O (r - (n+1)) p (n+1) 0 ⟨h,by omega,fun i i1 i2=>by
  have:i=n:=by omega
  subst this
  exact ⟨O.irr _,O.irr _⟩⟩ (by omega)
 have z:=pm.size_eq
 rw [e]
 show ∃ m p',run lt (if q1 > 0 then _ else _)=_/\_
 rw [Dt]
 by_cases hq:q1 > 0
 ·rw [if_pos hq]
  obtain ⟨m,p',e2,u,x,y,pm2⟩:=QX O (Vg O d (by omega)) (by omega) (show n1<=r by omega) (by rw [Jv]; omega)
  exact ⟨m,p',e2,u,x,y,pm2.trans ((Eh _ _ _).trans pm)⟩
 ·rw [if_neg hq]
  obtain ⟨m,p',e2,u,x,y,pm2⟩:=QX O d.dn (by omega) (show n1<=r by omega) (by omega)
  exact ⟨m,p',e2,u,x,y,pm2.trans pm⟩
theorem Vi {p:Array Nat} {r:Nat} (h1:1<=r) (hs:r<=p.size):∃ m p',run lt (kas_count r p)=(m,p')/\Up lt p' m/\1<=m/\m<=r/\p'.Perm p:=by
 unfold kas_count
 rw [run_bind]
 obtain ⟨n,e,a,b,u,l⟩:=O5 O (p:=p) (r - 1) 1 (ah _) (fun i j hij hj=>by
  have h0:i=0:=by omega
  have h2:j=0:=by omega
  subst h0 h2
  exact O.irr _)
 rw [e,Dt]
 by_cases hn:(n == r)=true
 ·rw [if_pos hn]
  exact ⟨n,p,rfl,u,by omega,by omega,Array.Perm.refl _⟩
 ·rw [if_neg hn,Dt]
  have hn':n ≠ r:=by simpa using hn
  have c:=l (by omega)
  by_cases h2:n > 1
  ·rw [if_pos h2]
   show ∃ m p',run lt (if lt (p.getD 0 0) (p.getD (n - 1) 0)=true then _ else _)=_/\_
   rw [K_eq,K_eq,Dt]
   by_cases g:lt (K p 0) (K p (n - 1))=true
   ·rw [if_pos g]
    exact ⟨n,p,rfl,u,by omega,by omega,Array.Perm.refl _⟩
   ·rw [if_neg g]
    have g':lt (K p 0) (K p (n - 1))=false:=by simpa using g
    have al:∀ i j,i<n->j<n->lt (K p i) (K p j)=false:=fun i j hi hj=>by
     have x1:=u j (n - 1) (by omega) (by omega)
     have x2:=u 0 i (by omega) (by omega)
     exact O.tr _ _ _ x1 (O.tr _ _ _ g' x2)
    obtain ⟨n1,rfl⟩:∃ n1,n=n1+1:=⟨n - 1,by omega⟩
    have d:Dn lt (kas_rev p 0 (n1+1)) (n1+1):=fun i j hij hj=>by
     rw [Gz (by omega),Gz (by omega),if_pos (by omega),if_pos (by omega)]
     exact al _ _ (by omega) (by omega)
    have k1:K (kas_rev p 0 (n1+1)) (n1+1)=K p (n1+1):=by rw [Gz (by omega),if_neg (by omega)]
    have k2:lt (K (kas_rev p 0 (n1+1)) n1) (K p (n1+1))=false:=by
     rw [Gz (by omega),if_pos (by omega)]
     exact O.tr _ _ _ (O.asy _ _ c) (al _ _ (by omega) (by omega))
    obtain ⟨m,p',e2,u2,x,y,pm⟩:=P0 O (n:=n1+1) (HR O d (by rw [k1]; exact k2)) (show n1+1+1<=r by omega) (by rw [Jv]; omega)
    exact ⟨m,p',e2,u2,x,y,pm.trans (Eh _ _ _)⟩
  ·rw [if_neg h2]
   have e1:n=1:=by omega
   subst e1
   have d:Dn lt p 1:=fun i j hij hj=>by
    have h0:i=0:=by omega
    have h2:j=0:=by omega
    subst h0 h2
    exact O.irr _
   exact P0 O (n:=1) (HR O d (O.asy _ _ c)) (show 1+1<=r by omega) hs
theorem J9 {p:Array Nat} {k:Nat} (h:Up lt p k):∀ (f l r:Nat),l<=r->r<=k->r - l<=f->(∀ i,i<l->lt (K p k) (K p i)=false)->(∀ i,r<=i->i<k->lt (K p k) (K p i)=true) ->
  ∃ m,run lt (kas_place p k f l r)=m/\m<=k/\(∀ i,i<m->lt (K p k) (K p i)=false)/\(∀ i,m<=i->i<k->lt (K p k) (K p i)=true)
 | 0,l,r,hl,hr,hf,a,b=>⟨l,rfl,by omega,a,fun i i1 i2=>b i (by omega) i2⟩
 | f+1,l,r,hl,hr,hf,a,b=>by
  unfold kas_place
  rw [Dt]
  by_cases g:l ≥ r
  ·rw [if_pos g]
   exact ⟨l,rfl,by omega,a,fun i i1 i2=>b i (by omega) i2⟩
  ·rw [if_neg g]
   show ∃ m,run lt (if lt (p.getD k 0) (p.getD ((l+r) / 2) 0)=true then _ else _)=m/\_
   rw [K_eq,K_eq,Dt]
   by_cases c:lt (K p k) (K p ((l+r) / 2))=true
   ·rw [if_pos c]
    refine J9 h f l ((l+r) / 2) (by omega) (by omega) (by omega) a fun i i1 i2=>?_
    cases hc:lt (K p k) (K p i) with
    | true=>rfl
    | false =>
     have:=O.tr _ _ _ (h ((l+r) / 2) i i1 i2) hc
     rw [c] at this
     cases this
   ·rw [if_neg c]
    refine J9 h f ((l+r) / 2+1) r (by omega) hr (by omega) (fun i i1=>?_) b
    exact O.tr _ _ _ (h i ((l+r) / 2) (by omega) (by omega)) (by simpa using c)
theorem Zj {p:Array Nat} {k m:Nat} (h:Up lt p k) (hk:k<p.size) (hm:m<=k) (a:∀ i,i<m->lt (K p k) (K p i)=false) (b:∀ i,m<=i->i<k->lt (K p k) (K p i)=true):Up lt (bubble p k (k - m)) (k+1):=by
 intro i j hij hj
 rw [X7 hk hm,X7 hk hm]
 by_cases j1:j=m
 ·rw [if_pos j1]
  by_cases i1:i=m
  ·rw [if_pos i1]; exact O.irr _
  ·rw [if_neg i1,if_neg (by omega)]
   exact a i (by omega)
 ·rw [if_neg j1]
  by_cases j2:m<j/\j<=k
  ·rw [if_pos j2]
   by_cases i1:i=m
   ·rw [if_pos i1]
    exact O.asy _ _ (b (j - 1) (by omega) (by omega))
   ·rw [if_neg i1]
    by_cases i2:m<i/\i<=k
    ·rw [if_pos i2]
     exact h _ _ (by omega) (by omega)
    ·rw [if_neg i2]
     exact h _ _ (by omega) (by omega)
  ·rw [if_neg j2]
   rw [if_neg (by omega),if_neg (by omega)]
   exact h _ _ hij (by omega)
theorem UL:∀ (f:Nat) (p:Array Nat) (k:Nat),Up lt p k->k+f<=p.size->∃ p',run lt (kas_bin f p k)=p'/\Up lt p' (k+f)/\p'.Perm p
 | 0,p,k,h,_=>⟨p,rfl,h,Array.Perm.refl _⟩
 | f+1,p,k,h,hs=>by
  unfold kas_bin
  rw [run_bind]
  obtain ⟨m,e,hm,a,b⟩:=J9 O h k 0 k (by omega) (by omega) (by omega) (fun i hi=>absurd hi (iq _)) (fun i i1 i2=>by omega)
  rw [e]
  obtain ⟨p',e2,u,pm⟩:=UL f (bubble p k (k - m)) (k+1) (Zj O h (by omega) hm a b) (by rw [bubble_size]; omega)
  exact ⟨p',e2,by rw [show k+(f+1)=k+1+f by omega]; exact u,pm.trans (bubble_perm _ _ _)⟩
theorem WY {n:Nat} (h1:1<=n):∃ p,run lt (kas_sort n)=p/\p.toList.Perm (List.range n)/\p.toList.Pairwise (fun i j=>lt j i=false):=by
 have fin:∀ p:Array Nat,Up lt p n->p.Perm (List.toArray (List.range n))->p.toList.Perm (List.range n)/\p.toList.Pairwise (fun i j=>lt j i=false):=fun p u pm=>by
  have pl:p.toList.Perm (List.range n):=by simpa using Array.perm_iff_toList_perm.mp pm
  refine ⟨pl,?_⟩
  have hl:p.toList.length=n:=by rw [pl.length_eq,cS]
  rw [df]
  intro i j hi hj hij
  have ki:∀ {i:Nat} (hi:i<p.toList.length),K p i=p.toList[i]:=fun {i} hi=>by
   unfold K
   have:i<p.size:=by simpa using hi
   simp [this]
  have:=u i j (fI hij) (by omega)
  rw [ki hi,ki hj] at this
  exact this
 unfold kas_sort
 rw [run_bind]
 obtain ⟨m,p,e,u,m1,m2,pm⟩:=Vi O (p:=List.toArray (List.range n)) h1 (by simp)
 have z:p.size=n:=by have:=pm.size_eq; simpa using this
 rw [e]
 show ∃ q,run lt (if m<n then _ else _)=q/\_
 rw [Dt]
 by_cases g:m<n
 ·rw [if_pos g]
  have em:max m 1=m:=by omega
  obtain ⟨q,e2,u2,pm2⟩:=UL O (n - m) p m u (by omega)
  have en:m+(n - m)=n:=by omega
  rw [en] at u2
  refine ⟨q,?_,fin q u2 (pm2.trans pm)⟩
  show run lt (kas_bin (n - max m 1) p (max m 1))=q
  rw [em]
  exact e2
 ·rw [if_neg g]
  have:m=n:=by omega
  subst this
  exact ⟨p,rfl,fin p u pm⟩
end
end Sq
namespace Sq
open PySem PySem.W PyProof.Rows
noncomputable def Rn {α:Type} (N:Nat):KasT α->(α->Prop)->Prop
 | .ret a,P=>P a
 | .ask i j k,P=>i<N/\j<N/\∀ b,Rn N (k b) P
theorem Rn.bnd {α β:Type} {N:Nat} {P:α->Prop} {Q:β->Prop} {f:α->KasT β} (h:∀ a,P a->Rn N (f a) Q):∀ t:KasT α,Rn N t P->Rn N (t.bind f) Q
 | .ret a,r=>h a r
 | .ask i j k,r=>⟨r.1,r.2.1,fun b=>Rn.bnd h (k b) (r.2.2 b)⟩
theorem Rn.it {α:Type} {N:Nat} {P:α->Prop} {c:Prop} [Decidable c] {a b:KasT α} (h1:Rn N a P) (h2:Rn N b P):Rn N (if c then a else b) P:=by
 split
 ·exact h1
 ·exact h2
noncomputable def Bd (N:Nat) (p:Array Nat):Prop:=0<N/\∀ x∈p.toList,x<N
theorem Bd.at {N:Nat} {p:Array Nat} (h:Bd N p) (i:Nat):p.getD i 0<N:=by
 by_cases hi:i<p.size
 ·have e:p.getD i 0=p[i]:=by simp [Array.getD,hi]
  rw [e]
  exact h.2 _ (by simp)
 ·have e:p.getD i 0=0:=by simp [Array.getD,hi]
  rw [e]
  exact h.1
theorem Bd.pm {N:Nat} {p q:Array Nat} (h:Bd N p) (z:q.Perm p):Bd N q:=⟨h.1,fun x hx=>h.2 x ((Array.perm_iff_toList_perm.mp z).mem_iff.mp hx)⟩
section
variable {N:Nat}
theorem O8 {p:Array Nat} (h:Bd N p):∀ f n,Rn N (kas_asc p f n) (fun _=>True)
 | 0,n=>trivial
 | f+1,n=>⟨h.at _,h.at _,fun b=>Rn.it trivial (O8 h f (n+1))⟩
theorem Iz:∀ f (p:Array Nat) n q,Bd N p->Rn N (kas_desc f p n q) (fun r=>Bd N r.1)
 | 0,p,n,q,h=>h
 | f+1,p,n,q,h=>⟨h.at _,h.at _,fun b=>Rn.it (Rn.it (Iz f _ _ _ (h.pm (Eh _ _ _))) (Iz f _ _ _ h)) ⟨h.at _,h.at _,fun b=>Rn.it h (Iz f _ _ _ h)⟩⟩
theorem QM {p:Array Nat} {n r:Nat} (h:Bd N p):Rn N (kas_tail3 n r p) (fun r=>Bd N r.2):=by
 have h':Bd N (kas_rev p 0 n):=h.pm (Eh _ _ _)
 unfold kas_tail3
 refine Rn.bnd (P:=fun _=>True) (fun a _=>?_) _ (O8 h' _ _)
 exact h'
theorem QV {p:Array Nat} {n r:Nat} (h:Bd N p):Rn N (kas_descPart n r p) (fun r=>Bd N r.2):=by
 unfold kas_descPart
 refine Rn.bnd (P:=fun r=>Bd N r.1) (fun a ha=>?_) _ (Iz _ _ _ _ h)
 exact Rn.it (QM (ha.pm (Eh _ _ _))) (QM ha)
theorem Ur {p:Array Nat} {r:Nat} (h:Bd N p):Rn N (kas_count r p) (fun r=>Bd N r.2):=by
 unfold kas_count
 refine Rn.bnd (P:=fun _=>True) (fun a _=>?_) _ (O8 h _ _)
 refine Rn.it ?_ (Rn.it ?_ (QV h))
 ·exact h
 ·refine ⟨h.at _,h.at _,fun b=>Rn.it ?_ (QV (h.pm (Eh _ _ _)))⟩
  exact h
theorem Jf {p:Array Nat} {k:Nat} (h:Bd N p):∀ f l r,Rn N (kas_place p k f l r) (fun _=>True)
 | 0,l,r=>trivial
 | f+1,l,r=>Rn.it trivial ⟨h.at _,h.at _,fun b=>Rn.it (Jf h f _ _) (Jf h f _ _)⟩
theorem VR:∀ f (p:Array Nat) k,Bd N p->Rn N (kas_bin f p k) (fun _=>True)
 | 0,p,k,h=>trivial
 | f+1,p,k,h=>Rn.bnd (fun a _=>VR f _ _ (h.pm (bubble_perm _ _ _))) _ (Jf h _ _ _)
theorem V_ (h:0<N):Rn N (kas_sort N) (fun _=>True):=by
 unfold kas_sort
 have h0:Bd N (List.toArray (List.range N)):=⟨h,fun x hx=>by simpa using hx⟩
 refine Rn.bnd (P:=fun r:Nat × Array Nat=>Bd N r.2) (fun a ha=>Rn.it (VR _ _ _ ha) ?_) _ (Ur h0)
 exact trivial
end
theorem X3 {α:Type} {cmp:Nat->Nat->(Bool->Shared->Prop)->Shared->Prop} {lt:Nat->Nat->Bool} {Q:α->Shared->Prop} {s:Shared} {N:Nat} {P:α->Prop} (h:∀ i j C,i<N->j<N->C (lt i j) s->cmp i j C s):∀ t:KasT α,Rn N t P->Q (run lt t) s->t.kasWp cmp Q s
 | .ret a,_,q=>q
 | .ask i j k,r,q=>h i j _ r.1 r.2.1 (X3 h (k (lt i j)) (r.2.2 _) q)
theorem sorts {cmp:Nat->Nat->(Bool->Shared->Prop)->Shared->Prop} {lt:Nat->Nat->Bool} (O:lH lt) {Q:Array Nat->Shared->Prop} {s:Shared} {n:Nat} (hn:1<=n) (h:∀ i j C,i<n->j<n->C (lt i j) s->cmp i j C s)
  (q:∀ p:Array Nat,p.toList.Perm (List.range n)->p.toList.Pairwise (fun i j=>lt j i=false)->Q p s):(kas_sort n).kasWp cmp Q s:=by
 obtain ⟨p,e,a,b⟩:=WY O hn
 refine X3 h _ (V_ hn) ?_
 rw [e]
 exact q p a b
theorem Zn {β:Type} {blt:β->β->Bool} (f:Nat->β) (irr:∀ a,blt a a=false) (asy:∀ a b,blt a b=true->blt b a=false) (tr:∀ a b c,blt b a=false->blt c b=false->blt c a=false):lH fun i j=>blt (f i) (f j):=⟨fun a=>irr _,fun a b=>asy _ _,fun a b c=>tr _ _ _⟩
end Sq
namespace Sq
open PySem PySem.W PyProof.Rows
noncomputable abbrev T3:=Int × Int × Int
noncomputable def GC (a b:T3):Bool:=decide (a.1<b.1) || (decide (a.1=b.1) && (decide (a.2.1<b.2.1) || (decide (a.2.1=b.2.1) && decide (a.2.2<b.2.2))))
theorem J4 {a b:T3}:GC a b=true ↔ a.1<b.1 \/ (a.1=b.1/\(a.2.1<b.2.1 \/ (a.2.1=b.2.1/\a.2.2<b.2.2))):=by
 unfold GC
 simp
theorem J2 {a b:T3}:GC a b=false ↔ ¬ (a.1<b.1 \/ (a.1=b.1/\(a.2.1<b.2.1 \/ (a.2.1=b.2.1/\a.2.2<b.2.2)))):=by rw [← J4]; simp
theorem Y4 (a:T3):GC a a=false:=by rw [J2]; omega
theorem Zh (a b:T3) (h:GC a b=true):GC b a=false:=by rw [J2]; rw [J4] at h; omega
theorem fU (a b c:T3) (h1:GC b a=false) (h2:GC c b=false):GC c a=false:=by rw [J2] at *; omega
noncomputable def Ir (h:Heap) (v:Value) (t:T3):Prop:=∃ (x:Addr) (o:Obj) (k1 k2 k3:Tok) (n:Nat),v=.ref x/\h.get? x=some o/\o.cls=.type "tuple" /\ o.data=.seq #[.int t.1 k1,.int t.2.1 k2,.int t.2.2 k3] n
section
variable {prog:Program} {w:World} {A:Around} {E:Value->Shared->Prop} {s:Shared}
theorem Yp {v u:Value} {a b:T3} {Q:Bool->Shared->Prop} (hv:Ir s.heap v a) (hu:Ir s.heap u b) (q:Q (GC a b) s):wpAny (model prog w) A (keyLt' (tuples' true) v u) Q E s:=by
 obtain ⟨x,ox,k1,k2,k3,n,rfl,hx,_,dx⟩:=hv
 obtain ⟨y,oy,l1,l2,l3,m,rfl,hy,_,dy⟩:=hu
 refine kat_lt hx dx hy dy ?_
 show KatLex prog w A true _ Q [(Value.int a.1 k1,Value.int b.1 l1),(Value.int a.2.1 k2,Value.int b.2.1 l2),(Value.int a.2.2 k3,Value.int b.2.2 l3)] 0 s
 refine kat_cons (wpAny_eqBool_int ?_)
 refine kat_go (fun e1=>kat_yes ?_) (fun e1=>kat_no ?_)
 ·have e1:a.1=b.1:=by simpa using e1
  refine kat_cons (wpAny_eqBool_int ?_)
  refine kat_go (fun e2=>kat_yes ?_) (fun e2=>kat_no ?_)
  ·have e2:a.2.1=b.2.1:=by simpa using e2
   refine kat_cons (wpAny_eqBool_int ?_)
   refine kat_go (fun e3=>kat_yes ?_) (fun e3=>kat_no ?_)
   ·have e3:a.2.2=b.2.2:=by simpa using e3
    refine kat_nil ?_
    have z:GC a b=false:=by rw [J2]; omega
    rw [z] at q
    exact q
   ·have z:GC a b=decide (a.2.2<b.2.2):=by rw [eu,J4,decide_eq_true_eq]; omega
    rw [z] at q
    exact kat_one _ _ (lt_int q)
  ·have e2:¬ a.2.1=b.2.1:=by simpa using e2
   have z:GC a b=decide (a.2.1<b.2.1):=by rw [eu,J4,decide_eq_true_eq]; omega
   rw [z] at q
   exact kat_one _ _ (lt_int q)
 ·have e1:¬ a.1=b.1:=by simpa using e1
  have z:GC a b=decide (a.1<b.1):=by rw [eu,J4,decide_eq_true_eq]; omega
  rw [z] at q
  exact oneLt_int q
end
end Sq
namespace Sq
open PySem PySem.W PySem.Calls PyProof.Rows
section
variable {prog:Program} {w:World} {A:Around} {E:Value->Shared->Prop} {s:Shared}
theorem Ir.keep {h h':Heap} {v:Value} {t:T3} (r:Ir h v t) (k:∀ b o,h.get? b=some o->o.cls=.type "tuple"->h'.get? b=some o):Ir h' v t:=by
 obtain ⟨x,o,k1,k2,k3,n,e,g,c,d⟩:=r
 exact ⟨x,o,k1,k2,k3,n,e,k x o g c,c,d⟩
theorem Qk {h:Heap}:∀ (vs:List Value) (ts:List T3),vs.length=ts.length->(∀ (i:Nat) v t,vs[i]? = some v->ts[i]? = some t->Ir h v t)->∃ fs,KatTups h vs fs/\fs.length=vs.length/\∀ f∈fs,∃ i k,f=Value.int i k
 | [],[],_,_=>⟨[],KatTups.nil,rfl,fun f hf=>by cases hf⟩
 | [],_::_,l,_=>by simp at l
 | _::_,[],l,_=>by simp at l
 | v::vs,t::ts,l,r=>by
  obtain ⟨fs,a,b,c⟩:=Qk vs ts (by simpa using l) fun i u z hu hz=>r (i+1) u z (by simpa using hu) (by simpa using hz)
  obtain ⟨x,o,k1,k2,k3,n,e,g,cl,d⟩:=r 0 v t rfl rfl
  subst e
  refine ⟨Value.int t.1 k1::fs,KatTups.cons g cl d rfl a,by simp [b],fun f hf=>?_⟩
  rcases bi.mp hf with rfl | hf
  ·exact ⟨_,_,rfl⟩
  ·exact c f hf
theorem Qt (vs:List Value):(List.range vs.length).map (fun i=>vs.getD i Value.none)=vs:=by
 refine List.ext_getElem (by simp) fun i h1 h2=>?_
 simp [List.getD_eq_getElem?_getD,h2]
end
end Sq
namespace Sq
open PySem PySem.W PySem.Calls PyProof.Rows
noncomputable abbrev T2:=Int × Int
noncomputable def Ew (a b:T2):Bool:=decide (a.1<b.1) || (decide (a.1=b.1) && decide (a.2<b.2))
theorem K9 {a b:T2}:Ew a b=true ↔ a.1<b.1 \/ (a.1=b.1/\a.2<b.2):=by
 unfold Ew
 simp
theorem J_ {a b:T2}:Ew a b=false ↔ ¬ (a.1<b.1 \/ (a.1=b.1/\a.2<b.2)):=by rw [← K9]; simp
theorem Zb (a:T2):Ew a a=false:=by rw [J_]; omega
theorem Zk (a b:T2) (h:Ew a b=true):Ew b a=false:=by rw [J_]; rw [K9] at h; omega
theorem bj (a b c:T2) (h1:Ew b a=false) (h2:Ew c b=false):Ew c a=false:=by rw [J_] at *; omega
noncomputable def JS (h:Heap) (v:Value) (t:T2):Prop:=∃ (x:Addr) (o:Obj) (k1 k2:Tok) (n:Nat),v=.ref x/\h.get? x=some o/\o.cls=.type "tuple" /\ o.data=.seq #[.int t.1 k1,.int t.2 k2] n
theorem JS.keep {h h':Heap} {v:Value} {t:T2} (r:JS h v t) (k:∀ b o,h.get? b=some o->o.cls=.type "tuple"->h'.get? b=some o):JS h' v t:=by
 obtain ⟨x,o,k1,k2,n,e,g,c,d⟩:=r
 exact ⟨x,o,k1,k2,n,e,k x o g c,c,d⟩
section
variable {prog:Program} {w:World} {A:Around} {E:Value->Shared->Prop} {s:Shared}
theorem Wr {v u:Value} {a b:T2} {Q:Bool->Shared->Prop} (hv:JS s.heap v a) (hu:JS s.heap u b) (q:Q (Ew a b) s):wpAny (model prog w) A (keyLt' (tuples' true) v u) Q E s:=by
 obtain ⟨x,ox,k1,k2,n,rfl,hx,_,dx⟩:=hv
 obtain ⟨y,oy,l1,l2,m,rfl,hy,_,dy⟩:=hu
 refine kat_lt hx dx hy dy ?_
 show KatLex prog w A true _ Q [(Value.int a.1 k1,Value.int b.1 l1),(Value.int a.2 k2,Value.int b.2 l2)] 0 s
 refine kat_cons (wpAny_eqBool_int ?_)
 refine kat_go (fun e1=>kat_yes ?_) (fun e1=>kat_no ?_)
 ·have e1:a.1=b.1:=by simpa using e1
  refine kat_cons (wpAny_eqBool_int ?_)
  refine kat_go (fun e2=>kat_yes ?_) (fun e2=>kat_no ?_)
  ·have e2:a.2=b.2:=by simpa using e2
   refine kat_nil ?_
   have z:Ew a b=false:=by rw [J_]; omega
   rw [z] at q
   exact q
  ·have z:Ew a b=decide (a.2<b.2):=by rw [eu,K9,decide_eq_true_eq]; omega
   rw [z] at q
   exact kat_one _ _ (lt_int q)
 ·have e1:¬ a.1=b.1:=by simpa using e1
  have z:Ew a b=decide (a.1<b.1):=by rw [eu,K9,decide_eq_true_eq]; omega
  rw [z] at q
  exact oneLt_int q
theorem Tg {h:Heap}:∀ (vs:List Value) (ts:List T2),vs.length=ts.length->(∀ (i:Nat) v t,vs[i]? = some v->ts[i]? = some t->JS h v t)->∃ fs,KatTups h vs fs/\fs.length=vs.length/\∀ f∈fs,∃ i k,f=Value.int i k
 | [],[],_,_=>⟨[],KatTups.nil,rfl,fun f hf=>by cases hf⟩
 | [],_::_,l,_=>by simp at l
 | _::_,[],l,_=>by simp at l
 | v::vs,t::ts,l,r=>by
  obtain ⟨fs,a,b,c⟩:=Tg vs ts (by simpa using l) fun i u z hu hz=>r (i+1) u z (by simpa using hu) (by simpa using hz)
  obtain ⟨x,o,k1,k2,n,e,g,cl,d⟩:=r 0 v t rfl rfl
  subst e
  refine ⟨Value.int t.1 k1::fs,KatTups.cons g cl d rfl a,by simp [b],fun f hf=>?_⟩
  rcases bi.mp hf with rfl | hf
  ·exact ⟨_,_,rfl⟩
  ·exact c f hf
end
end Sq
namespace Sq
open PySem PySem.W PySem.Calls PyProof.Rows
noncomputable def X_ (prog:Program) (w:World) (A:Around) (f:Value) (s:Shared) (kS:Addr) (v:Value) (t:T2):Prop :=
 ∀ (h1:Heap) (tk1:Nat),(∀ b o,b ≠ kS->s.heap.get? b=some o->h1.get? b=some o)->s.heap.objs.size<=h1.objs.size->∀ R:Value->Shared->Prop,
  (∀ k h2 tk2,JS h2 k t->(∀ b o,h1.get? b=some o->h2.get? b=some o)->h1.objs.size<=h2.objs.size->R k { s with heap:=h2,toks:=tk2 })->wpAny (model prog w) A (call f [v]) R (fun _ _=>False) { s with heap:=h1,toks:=tk1 }
section
variable {prog:Program} {w:World} {A:Around} {E:Value->Shared->Prop} {s:Shared}
end
end Sq
section PartSortXs
set_option maxHeartbeats 800000
namespace Sx
open PySem PySem.W PySem.Calls PyProof.Rows Sq
section
variable {β:Type} {blt:β->β->Bool}
structure Or (blt:β->β->Bool):Prop where
 irr:∀ a,blt a a=false
 asy:∀ a b,blt a b=true->blt b a=false
 tr:∀ a b c,blt b a=false->blt c b=false->blt c a=false
end
section
variable {prog:Program} {w:World} {A:Around} {E:Value->Shared->Prop} {s:Shared} {β:Type} {blt:β->β->Bool} {d:β}
theorem QQ {κ:SortKind} {ks vs:List Value} {ts:List β} {Q:Unit × SortSt->Shared->Prop} (h2:2<=ks.length) (h64:ks.length<64) (O:Or blt) (hk:ks.length=vs.length) (hl:ks.length=ts.length)
  (cmp:∀ (i j:Nat) u v a b,ks[i]? = some u->ks[j]? = some v->ts[i]? = some a->ts[j]? = some b->∀ C:Bool->Shared->Prop,C (blt a b) s->wpAny (model prog w) A (keyLt' κ u v) C (fun _ _=>False) s)
  (h:∀ (st:SortSt) (ix:List Nat),(arrOf st).map (·.2)=(ix.map fun i=>vs.getD i Value.none).toArray->failedOf st=none->ix.Perm (List.range vs.length)->ix.Pairwise (fun i j=>blt (ts.getD j d) (ts.getD i d)=false)->Q ((),st) s) :
  wpAny (model prog w) A (sortRuns'.run (SortSt.mk' κ (ks.toArray.zip vs.toArray) #[] 7 none)) Q E s:=by
 have Od:=Zn (blt:=blt) (fun i=>ts.getD i d) O.irr O.asy O.tr
 have rn:=kat_run (prog:=prog) (w:=w) (A:=A) (E:=E) (s:=s) (κ:=κ) (ks:=ks) (vs:=vs)
  (Q:=fun st s'=>∃ ix:List Nat,s'=s/\(arrOf st).map (·.2)=(ix.map fun i=>vs.getD i Value.none).toArray/\failedOf st=none/\ix.Perm (List.range vs.length)/\ix.Pairwise (fun i j=>blt (ts.getD j d) (ts.getD i d)=false))
  (G:=fun p s'=>s'=s/\p.toList.Perm (List.range vs.length)/\p.toList.Pairwise (fun i j=>blt (ts.getD j d) (ts.getD i d)=false))
  hk (by omega) (by omega) (fun p st' s' a1 a2 a3 a4=>⟨p.toList,a4.1,kat_snds hk a2,a3,a4.2.1,a4.2.2⟩)
  (sorts Od (by omega) (fun i j C hi hj q=>by
   have hki:i<ks.length:=by omega
   have hkj:j<ks.length:=by omega
   have hti:i<ts.length:=by omega
   have htj:j<ts.length:=by omega
   have e1:ks.getD i Value.none=ks[i]:=by simp [List.getD_eq_getElem?_getD,hki]
   have e2:ks.getD j Value.none=ks[j]:=by simp [List.getD_eq_getElem?_getD,hkj]
   have e3:ts.getD i d=ts[i]:=by simp [List.getD_eq_getElem?_getD,hti]
   have e4:ts.getD j d=ts[j]:=by simp [List.getD_eq_getElem?_getD,htj]
   unfold kas_ask
   rw [e1,e2]
   rw [e3,e4] at q
   exact wpAny_mono (cmp i j _ _ _ _ (ae hki) (ae hkj) (ae hti) (ae htj) C q) (fun _ _ z=>z) (fun _ _ z=>z.elim)) fun p x y=>⟨rfl,x,y⟩)
 refine wpAny_mono rn (fun r s' z=>?_) fun _ _ z=>z
 obtain ⟨⟨⟩,st⟩:=r
 obtain ⟨ix,rfl,e1,e2,e3,e4⟩:=z
 exact h st ix e1 e2 e3 e4
end
end Sx
end PartSortXs
section PartSortYs
set_option maxHeartbeats 800000
namespace Sx
open PySem PySem.W PySem.Calls PyProof.Rows Sq
section
variable {prog:Program} {w:World} {A:Around} {E:Value->Shared->Prop} {s:Shared} {β:Type} {blt:β->β->Bool} {d:β}
theorem U_ {a:Addr} {vs:List Value} {ts:List β} {κ:SortKind} {n:Nat} {P:PySem.Fin->Shared->Prop} (O:Or blt) (gA:s.heap.get? a=some (seqObj "list" vs.toArray n)) (h64:vs.length<64) (hl:vs.length=ts.length)
  (fn:∀ (i j:Nat) v a b,vs[i]? = some v->vs[j]? = some v->ts[i]? = some a->ts[j]? = some b->a=b)
  (kd:∀ h6:Heap,(∀ b o,b ≠ a->s.heap.get? b=some o->h6.get? b=some o)->2<=vs.length->∀ Q:SortKind->Shared->Prop,Q κ (Shared.mk h6 s.gens s.drawn s.toks s.os)->wpAny (model prog w) A (keyKind' vs.toArray) Q E (Shared.mk h6 s.gens s.drawn s.toks s.os))
  (cmp:∀ h6:Heap,(∀ b o,b ≠ a->s.heap.get? b=some o->h6.get? b=some o)->∀ (i j:Nat) u v a b,vs[i]? = some u->vs[j]? = some v->ts[i]? = some a->ts[j]? = some b->∀ C:Bool->Shared->Prop,C (blt a b) (Shared.mk h6 s.gens s.drawn s.toks s.os)->wpAny (model prog w) A (keyLt' κ u v) C (fun _ _=>False) (Shared.mk h6 s.gens s.drawn s.toks s.os))
  (h:∀ ix:List Nat,ix.Perm (List.range vs.length)->ix.Pairwise (fun i j=>blt (ts.getD j d) (ts.getD i d)=false)->P (.done (.ret .none)) { s with heap:=sortedHeap s.heap a vs (ix.map fun i=>vs.getD i Value.none).toArray }) :
  wpAny (model prog w) A (Builtin.«list.sort» ⟨[.ref a],[]⟩) P E s:=by
 have zl:vs.length<=sizeLine:=by rw [sizeLine_eq]; omega
 obtain ⟨e1,g1⟩:∃ e1,(s.heap.update a (Obj.mapSeq fun _=>(#[]:Array Value))).get? a=some (seqObj "list" #[] e1):=⟨_,get?_update_seq gA fun _=>#[]⟩
 have oth:∀ b o,b ≠ a->s.heap.get? b=some o->(((s.heap.update a (Obj.mapSeq fun _=>(#[]:Array Value))).push (seqObj "tuple" vs.toArray 0)).push (seqObj "list" #[] 0)).get? b=some o:=fun b o hb e=>Heap.get?_push_of_some _ (Heap.get?_push_of_some _ ((Heap.get?_update_other _ _ (Ne.symm hb)).trans e))
 have g6:(((s.heap.update a (Obj.mapSeq fun _=>(#[]:Array Value))).push (seqObj "tuple" vs.toArray 0)).push (seqObj "list" #[] 0)).get? a=some (seqObj "list" #[] e1):=Heap.get?_push_of_some _ (Heap.get?_push_of_some _ g1)
 have kd':=kd _ oth
 have cmp':=cmp _ oth
 clear kd cmp
 rw [list_sort_plain]
 refine wpAny_bind (listItems_at gA rfl ?_)
 refine wpAny_bind (listUpdate_at gA rfl ?_ (by simpa using zl) (Nat.zero_le _))
 refine wpAny_bind (seqEpoch_at g1 rfl (wpAny_bind (wpAny_newTuple ?_ zl)))
 refine wpAny_bind (wpAny_newList (wpAny_holding ?_) (cm _))
 show wpAny (model prog w) A _ P E (Shared.mk (((s.heap.update a (Obj.mapSeq fun _=>(#[]:Array Value))).push (seqObj "tuple" vs.toArray 0)).push (seqObj "list" #[] 0)) s.gens s.drawn s.toks s.os)
 dsimp only
 by_cases h2:vs.toArray.size<2
 ·have h2':vs.length<2:=by simpa using h2
  rw [if_pos h2,if_pos h2]
  refine wpAny_bind (wpAny_pure (a:=general') ?_)
  rw [StateT.run_pure]
  refine wpAny_bind (wpAny_pure (wpAny_bind (seqEpoch_at g6 rfl ?_)))
  have eo:(vs.toArray.zip vs.toArray).map (·.2)=((List.range vs.length).map fun i=>vs.getD i Value.none).toArray:=by
   rw [Qt]
   apply Array.toList_inj.mp
   rw [Array.toList_map,Array.toList_zip]
   exact List.map_snd_zip (ah _)
  have q:=h (List.range vs.length) (List.Perm.refl _) (by
   rw [df]
   intro i j hi hj hij
   simp at hi hj
   omega)
  rw [← eo] at q
  refine wpAny_bind (listUpdate_at g6 rfl ?_ (Nat.zero_le _) (by show ((vs.toArray.zip vs.toArray).map (fun x=>x.2)).size<=_; rw [Array.size_map,Array.size_zip,List.size_toArray]; omega))
  simp only [bne_self_eq_false,Bool.false_eq_true,if_false]
  exact wpAny_pure q
 ·have h2':2<=vs.length:=by have:¬ vs.length<2:=(by simpa using h2); omega
  rw [if_neg h2,if_neg h2]
  refine wpAny_bind (kd' h2' _ ?_)
  refine wpAny_bind (QQ (d:=d) h2' h64 O rfl hl cmp' fun st ix eo ef pm pw=>?_)
  have q:=h ix pm pw
  have eo':(arrOf st).map (fun x=>x.2)=(ix.map fun i=>vs.getD i Value.none).toArray:=eo
  refine wpAny_bind (seqEpoch_at g6 rfl ?_)
  have zi:ix.length=vs.length:=by rw [pm.length_eq,cS]
  rw [← eo'] at q
  refine wpAny_bind (listUpdate_at g6 rfl ?_ (Nat.zero_le _) (by show ((arrOf st).map (fun x=>x.2)).size<=_; rw [eo']; simp [zi]; omega))
  dsimp only
  rw [ef]
  simp only [bne_self_eq_false,Bool.false_eq_true,if_false]
  exact wpAny_pure q
theorem Nm {l:Addr} {vs:List Value} {ts:List β} {κ:SortKind} {Q:Value->Shared->Prop} (O:Or blt) (hL:s.heap.IsList l vs.toArray) (h64:vs.length<64) (hl:vs.length=ts.length)
  (fn:∀ (i j:Nat) v a b,vs[i]? = some v->vs[j]? = some v->ts[i]? = some a->ts[j]? = some b->a=b)
  (kd:∀ (A:Around) (E:Value->Shared->Prop) (h6:Heap),(∀ b o,s.heap.get? b=some o->h6.get? b=some o)->2<=vs.length->∀ Q:SortKind->Shared->Prop,Q κ (Shared.mk h6 s.gens s.drawn s.toks s.os)->wpAny (model prog w) A (keyKind' vs.toArray) Q E (Shared.mk h6 s.gens s.drawn s.toks s.os))
  (cmp:∀ (A:Around) (h6:Heap),(∀ b o,s.heap.get? b=some o->h6.get? b=some o)->∀ (i j:Nat) u v a b,vs[i]? = some u->vs[j]? = some v->ts[i]? = some a->ts[j]? = some b->∀ C:Bool->Shared->Prop,C (blt a b) (Shared.mk h6 s.gens s.drawn s.toks s.os)->wpAny (model prog w) A (keyLt' κ u v) C (fun _ _=>False) (Shared.mk h6 s.gens s.drawn s.toks s.os))
  (h:∀ D h' c ix,s.heap.objs.size<=D->(∀ b o,s.heap.get? b=some o->h'.get? b=some o)->h'.get? D=some { cls:=.type "list",data:=.seq (List.map (fun i=>vs.getD i Value.none) ix).toArray c }->ix.Perm (List.range vs.length)->ix.Pairwise (fun i j=>blt (ts.getD j d) (ts.getD i d)=false)->Q (.ref D) { s with heap:=h' }) :
  wpAny (model prog w) A (call (.builtin "sorted") [.ref l]) Q E s:=by
 have zl:vs.length<=sizeLine:=by rw [sizeLine_eq]; omega
 refine Calls.call_function_entry kind_sorted plain_sorted entry_sorted (args_sorted1 _) ?_
 unfold Builtin.«sorted»
 refine wpAny_bind (m:=checkCount "sorted" 1 1 _) (wpAny_pure (wpAny_bind (collect_list hL (wpAny_bind (wpAny_newList ?_ zl)) zl)))
 have k0:∀ b o,s.heap.get? b=some o->((s.heap.push (seqObj "list" #[] 0)).update s.heap.objs.size (Obj.mapSeq (· ++ vs.toArray))).get? b=some o:=fun b o e=>(Heap.get?_update_other _ _ (fq (Heap.lt_size e))).trans (Heap.get?_push_of_some _ e)
 have z0:s.heap.objs.size<=((s.heap.push (seqObj "list" #[] 0)).update s.heap.objs.size (Obj.mapSeq (· ++ vs.toArray))).objs.size:=by rw [Heap.size_update,size_push']; exact iO _
 generalize (s.heap.push (seqObj "list" #[] 0)).update s.heap.objs.size (Obj.mapSeq (· ++ vs.toArray))=h0 at k0 z0 ⊢
 have e1:(h0.push (seqObj "list" vs.toArray 0)).get? h0.objs.size=some (seqObj "list" vs.toArray 0):=Heap.get?_push_size _ rfl
 have up:∀ h6:Heap,(∀ b o,b ≠ h0.objs.size->(h0.push (seqObj "list" vs.toArray 0)).get? b=some o->h6.get? b=some o)->∀ b o,s.heap.get? b=some o->h6.get? b=some o:=fun h6 k b o e=>k b o (aS (ay (Heap.lt_size e) z0)) (Heap.get?_push_of_some _ (k0 b o e))
 refine wpAny_bind (wpAny_holding (wpAny_call_entry slot_list_sort ⟨_,e1,rfl⟩ entry_list_sort (U_ (d:=d) O e1 h64 hl fn (fun h6 k=>kd _ _ h6 (up h6 k)) (fun h6 k=>cmp _ h6 (up h6 k)) fun ix pm pw=>⟨_,rfl,?_⟩) (args_list_sort _)))
 obtain ⟨c,e2⟩:=sortedHeap_at (out:=(List.map (fun i=>vs.getD i Value.none) ix).toArray) e1
 refine wpAny_pure ⟨_,rfl,h h0.objs.size _ c ix z0 (fun b o e=>?_) e2 pm pw⟩
 have lb:=Heap.lt_size (k0 b o e)
 rw [sortedHeap_old (aS lb) (by rw [size_push']; exact fm lb)]
 exact Heap.get?_push_of_some _ (k0 b o e)
noncomputable def lV (a b:Int):Bool:=decide (a<b)
theorem Tj:Or lV:=⟨fun a=>decide_eq_false (by omega),fun a b h=>by have:=of_decide_eq_true h; exact decide_eq_false (by omega),fun a b c h1 h2=>by
 have:=of_decide_eq_false h1
 have:=of_decide_eq_false h2
 exact decide_eq_false (by omega)⟩
theorem Ff:∀ {vs:List Value} {ns:List Int},IntsAre vs ns->∀ (i:Nat) v n,vs[i]? = some v->ns[i]? = some n->∃ t,v=.int n t
 | _,_,.nil,i,v,n,hv,_=>by simp at hv
 | _,_,.cons m t r,0,v,n,hv,hn=>by
  simp at hv hn
  subst hv hn
  exact ⟨t,rfl⟩
 | _,_,.cons m t r,i+1,v,n,hv,hn=>Ff r i v n (by simpa using hv) (by simpa using hn)
theorem Jx:∀ {vs:List Value} {ns:List Int},IntsAre vs ns->vs.length=ns.length
 | _,_,.nil=>rfl
 | _,_,.cons m t r=>congrArg (· + 1) (Jx r)
theorem ints_of:∀ {vs:List Value} {ns:List Int},vs.length=ns.length->(∀ (i:Nat) v n,vs[i]? = some v->ns[i]? = some n->∃ t,v=.int n t)->IntsAre vs ns
 | [],[],_,_=>.nil
 | [],_::_,h,_=>by simp at h
 | _::_,[],h,_=>by simp at h
 | v::vs,n::ns,h,g=>by
  obtain ⟨t,rfl⟩:=g 0 v n rfl rfl
  exact .cons n t (ints_of (by simpa using h) fun i v m hv hm=>g (i+1) v m (by simpa using hv) (by simpa using hm))
theorem S8 {l:Addr} {vs:List Value} {ns:List Int} {Q:Value->Shared->Prop} (hL:s.heap.IsList l vs.toArray) (hI:IntsAre vs ns) (h64:vs.length<64)
  (h:∀ D h' c us ms,s.heap.objs.size<=D->(∀ b o,s.heap.get? b=some o->h'.get? b=some o)->h'.get? D=some { cls:=.type "list",data:=.seq (List.toArray us) c }->IntsAre us ms->ms.Perm ns->ms.Pairwise (· <= ·)->Q (.ref D) { s with heap:=h' }) :
  wpAny (model prog w) A (call (.builtin "sorted") [.ref l]) Q E s:=by
 have zl:vs.length<=sizeLine:=by rw [sizeLine_eq]; omega
 have ll:=Jx hI
 have at':=Ff hI
 refine Nm (blt:=lV) (d:=0) (ts:=ns) (κ:=oneType') Tj hL h64 ll (fun i j v a b hv hu ha hb=>?_) (fun A E h6 k h2 Q q=>?_) (fun A h6 k i j u v a b hu hv ha hb C c=>?_) fun D h' c ix hD kk g pm pw=>?_
 ·obtain ⟨t,rfl⟩:=at' i v a hv ha
  obtain ⟨t',e⟩:=at' j _ b hu hb
  cases e
  rfl
 ·match vs,hI,h2 with
  | [],_,h2=>simp at h2
  | [_],_,h2=>simp at h2
  | v₁::v₂::rest,hI,_ =>
   rw [keyKind_ints hI]
   exact wpAny_pure q
 ·obtain ⟨t,rfl⟩:=at' i u a hu ha
  obtain ⟨t',rfl⟩:=at' j v b hv hb
  rw [keyLt'_oneType]
  exact oneLt_int c
 ·refine h D h' c _ (ix.map fun i=>ns.getD i 0) hD kk g (ints_of (by simp) fun i v n hv hn=>?_) ?_ ?_
  ·rw [ax] at hv hn
   cases hi:ix[i]? with
   | none=>rw [hi] at hv; cases hv
   | some z =>
    rw [hi] at hv hn
    have hz:z<vs.length:=dv.mp (pm.mem_iff.mp (aI hi))
    have hz':z<ns.length:=by omega
    have e1:vs.getD z Value.none=vs[z]:=by simp [List.getD_eq_getElem?_getD,hz]
    have e2:ns.getD z 0=ns[z]:=by simp [List.getD_eq_getElem?_getD,hz']
    simp only [Option.map_some,Option.some.injEq] at hv hn
    rw [e1] at hv
    rw [e2] at hn
    exact at' z v n (by rw [← hv]; exact ae hz) (by rw [← hn]; exact ae hz')
  ·have:(List.range vs.length).map (fun i=>ns.getD i 0)=ns:=by
    refine List.ext_getElem (by simp [ll]) fun i h1 h2=>?_
    simp [List.getD_eq_getElem?_getD,h2]
   have q:=pm.map (fun i=>ns.getD i 0)
   rw [this] at q
   exact q
  ·rw [fo]
   exact pw.imp fun {i j} e=>Int.not_lt.mp (of_decide_eq_false e)
end
end Sx
end PartSortYs
section PartSortZs
set_option maxHeartbeats 800000
namespace Sx
open PySem PySem.W PySem.Calls PyProof.Rows Sq
theorem di:Or GC:=⟨Y4,Zh,fU⟩
theorem aO:Or Ew:=⟨Zb,Zk,bj⟩
theorem _root_.Sq.Ir.fn {h:Heap} {v:Value} {x y:T3} (a:Ir h v x) (b:Ir h v y):x=y:=by
 obtain ⟨p,o,k1,k2,k3,n,rfl,g,c,d⟩:=a
 obtain ⟨p',o',l1,l2,l3,m,e,g',c',d'⟩:=b
 cases e
 rw [g] at g'
 cases g'
 rw [d] at d'
 obtain ⟨x1,x2,x3⟩:=x
 obtain ⟨y1,y2,y3⟩:=y
 simp at d'
 obtain ⟨⟨⟨rfl,_⟩,⟨rfl,_⟩,rfl,_⟩,_⟩:=d'
 rfl
section
variable {prog:Program} {w:World} {A:Around} {E:Value->Shared->Prop} {s:Shared}
theorem Ub {l:Addr} {vs:List Value} {ts:List T3} {Q:Value->Shared->Prop} (hL:s.heap.IsList l vs.toArray) (hl:vs.length=ts.length) (ht:∀ (i:Nat) v t,vs[i]? = some v->ts[i]? = some t->Ir s.heap v t) (h64:vs.length<64)
  (h:∀ D h' c ix,s.heap.objs.size<=D->(∀ b o,s.heap.get? b=some o->h'.get? b=some o)->h'.get? D=some { cls:=.type "list",data:=.seq (List.map (fun i=>vs.getD i Value.none) ix).toArray c }->ix.Perm (List.range vs.length)->ix.Pairwise (fun i j=>GC (ts.getD j (0,0,0)) (ts.getD i (0,0,0))=false)->Q (.ref D) { s with heap:=h' }) :
  wpAny (model prog w) A (call (.builtin "sorted") [.ref l]) Q E s:=by
 have zl:vs.length<=sizeLine:=by rw [sizeLine_eq]; omega
 refine Nm (κ:=tuples' true) (d:=(0,0,0)) di hL h64 hl (fun i j v x y hv hu hx hy=>(ht i v x hv hx).fn (ht j v y hu hy)) (fun A E h6 k h2 Q q=>?_) (fun A h6 k i j u v x y hu hv hx hy C c=>Yp ((ht i u x hu hx).keep fun b o e _=>k b o e) ((ht j v y hv hy).keep fun b o e _=>k b o e) c) h
 obtain ⟨fs,kf,lf,fi⟩:=Qk (h:=h6) vs ts hl fun i v t hv hz=>(ht i v t hv hz).keep fun b o e _=>k b o e
 refine kat_kind (T:=.type "int") kf (by omega) (fun v hv=>?_) (by decide) ?_
 ·obtain ⟨i,k,rfl⟩:=fi v hv
  exact .now
 ·have eb:(Value.type "int" != Value.type "tuple")=true:=by decide
  rw [eb]
  exact q
theorem eZ {a kS:Addr} {vs ks:List Value} {ts:List T2} {e e1:Nat} {P:PySem.Fin->Shared->Prop} (hne:kS ≠ a) (gK:s.heap.get? kS=some (seqObj "list" ks.toArray e)) (gA:s.heap.get? a=some (seqObj "list" #[] e1)) (hk:ks.length=vs.length) (hl:ks.length=ts.length)
  (ht:∀ (i:Nat) v t,ks[i]? = some v->ts[i]? = some t->JS s.heap v t) (h64:vs.length<64)
  (h:∀ h' tk c ix,(∀ b o,b ≠ kS->b ≠ a->s.heap.get? b=some o->h'.get? b=some o)->h'.get? a=some (seqObj "list" (List.map (fun i=>vs.getD i Value.none) ix).toArray c)->ix.Perm (List.range vs.length)->ix.Pairwise (fun i j=>Ew (ts.getD j (0,0)) (ts.getD i (0,0))=false)->P (.done (.ret .none)) { s with heap:=h',toks:=tk }) :
  wpAny (model prog w) A (ksk_end a false vs.toArray e1 (.ref kS) ks.toArray) P E s:=by
 have zl:vs.length<=sizeLine:=by rw [sizeLine_eq]; omega
 have fin:∀ (st:SortSt) (ix:List Nat),(arrOf st).map (·.2)=(ix.map fun i=>vs.getD i Value.none).toArray->failedOf st=none->ix.Perm (List.range vs.length)->ix.Pairwise (fun i j=>Ew (ts.getD j (0,0)) (ts.getD i (0,0))=false)->wpAny (model prog w) A (ksk_tail a false e1 (.ref kS) st) P E s:=fun st ix eo ef pm pw=>by
  have zi:ix.length=vs.length:=by rw [pm.length_eq,cS]
  have g2:(s.heap.update kS (Obj.mapSeq fun _=>(#[]:Array Value))).get? a=some (seqObj "list" #[] e1):=(Heap.get?_update_other _ _ hne).trans gA
  unfold ksk_tail
  dsimp only
  refine wpAny_bind (listUpdate_at gK rfl ?_ (by rw [bo]; omega) (cm _))
  refine wpAny_bind (wpAny_letGo (wpAny_bind (seqEpoch_at g2 rfl ?_)))
  simp only [Bool.false_eq_true,if_false]
  rw [eo,ef]
  refine wpAny_bind (listUpdate_at g2 rfl ?_ (Nat.zero_le _) (by simp [zi]; omega))
  simp only [bne_self_eq_false,Bool.false_eq_true,if_false]
  obtain ⟨c,gc⟩:∃ c,((s.heap.update kS (Obj.mapSeq fun _=>(#[]:Array Value))).update a (Obj.mapSeq fun _=>(List.map (fun i=>vs.getD i Value.none) ix).toArray)).get? a=some (seqObj "list" (List.map (fun i=>vs.getD i Value.none) ix).toArray c):=⟨_,get?_update_seq g2 fun _=>(List.map (fun i=>vs.getD i Value.none) ix).toArray⟩
  exact wpAny_pure (h _ _ c ix (fun b o b1 b2 z=>(Heap.get?_update_other _ _ (Ne.symm b2)).trans ((Heap.get?_update_other _ _ (Ne.symm b1)).trans z)) gc pm pw)
 unfold ksk_end
 simp only [Bool.false_eq_true,if_false]
 by_cases h2:vs.toArray.size<2
 ·have h2':vs.length<2:=by simpa using h2
  rw [if_pos h2,if_pos h2]
  refine wpAny_bind (wpAny_pure (a:=general') ?_)
  rw [StateT.run_pure]
  refine wpAny_bind (wpAny_pure ?_)
  refine fin _ (List.range vs.length) ?_ rfl (List.Perm.refl _) (by
   rw [df]
   intro i j hi hj hij
   simp at hi hj
   omega)
  rw [Qt]
  apply Array.toList_inj.mp
  show ((ks.toArray.zip vs.toArray).map (·.2)).toList=_
  rw [Array.toList_map,Array.toList_zip]
  exact List.map_snd_zip (Nat.le_of_eq hk.symm)
 ·have h2':2<=vs.length:=by have:¬ vs.length<2:=(by simpa using h2); omega
  rw [if_neg h2,if_neg h2]
  obtain ⟨fs,kf,lf,fi⟩:=Tg ks ts hl ht
  refine wpAny_bind (kat_kind (T:=.type "int") kf (by omega) (fun v hv=>?_) (by decide) ?_)
  ·obtain ⟨i,k,rfl⟩:=fi v hv
   exact .now
  ·have eb:(Value.type "int" != Value.type "tuple")=true:=by decide
   rw [eb]
   refine wpAny_bind (QQ (d:=(0,0)) (by simp at h2; omega) (by omega) aO hk hl (fun i j u v x y hu hv hx hy C c=>Wr (ht i u x hu hx) (ht j v y hv hy) c) fun st ix eo ef pm pw=>?_)
   exact fin st ix eo ef pm pw
theorem Yq {a kS:Addr} {f:Value} {vs:List Value} {ts:List T2} {e1:Nat} {P:PySem.Fin->Shared->Prop} (hne:kS ≠ a) (gK:s.heap.get? kS=some (seqObj "list" #[] 0)) (gA:s.heap.get? a=some (seqObj "list" #[] e1)) (hl:vs.length=ts.length) (h64:vs.length<64)
  (cl:∀ (i:Nat) v t,vs[i]? = some v->ts[i]? = some t->X_ prog w A f s kS v t)
  (h:∀ h' tk c ix,(∀ b o,b ≠ kS->b ≠ a->s.heap.get? b=some o->h'.get? b=some o)->h'.get? a=some (seqObj "list" (List.map (fun i=>vs.getD i Value.none) ix).toArray c)->ix.Perm (List.range vs.length)->ix.Pairwise (fun i j=>Ew (ts.getD j (0,0)) (ts.getD i (0,0))=false)->P (.done (.ret .none)) { s with heap:=h',toks:=tk }) :
  wpAny (model prog w) A (ksk_rest a f false vs.toArray e1 (.ref kS)) P E s:=by
 have zl:vs.length<=sizeLine:=by rw [sizeLine_eq]; omega
 unfold ksk_rest
 refine wpAny_bind (wpAny_rule ?_)
 rw [List.forIn_toArray]
 refine wpAny_bind (ksk_fold (fun i s'=>∃ h1 tk1 ks e,s' = { s with heap:=h1,toks:=tk1 }/\ks.length=i/\h1.get? kS=some (seqObj "list" (List.toArray ks) e)/\(∀ b o,b ≠ kS->s.heap.get? b=some o->h1.get? b=some o)/\s.heap.objs.size<=h1.objs.size/\∀ (j:Nat) v t,ks[j]? = some v->ts[j]? = some t->JS h1 v t) vs 0 s
  ⟨s.heap,s.toks,[],0,rfl,rfl,gK,(fun b o _ z=>z),Nat.le_refl _,fun j v t z=>by simp at z⟩ (fun j x s' hx hi=>?_) fun s' hd=>?_)
 ·obtain ⟨h1,tk1,ks,e,rfl,lk,g1,kp,sz,pr⟩:=hi
  have hj:j<vs.length:=(af.mp hx).1
  obtain ⟨t,ht⟩:∃ t,ts[j]? = some t:=⟨_,ae (by omega)⟩
  refine wpAny_bind (wpAny_attempt (wpAny_mono (cl j x t hx ht h1 tk1 kp sz (fun k s2=>∃ h2 tk2,s2 = { s with heap:=h2,toks:=tk2 }/\JS h2 k t/\(∀ b o,h1.get? b=some o->h2.get? b=some o)/\h1.objs.size<=h2.objs.size) fun k h2 tk2 x1 x2 x3=>⟨h2,tk2,rfl,x1,x2,x3⟩) (fun k s2 z=>?_) fun _ _ z=>z.elim))
  obtain ⟨h2,tk2,rfl,pk,k2,z2⟩:=z
  dsimp only
  have g2:=k2 _ _ g1
  obtain ⟨c,gc⟩:∃ c,(h2.update kS (Obj.mapSeq (·.push k))).get? kS=some (seqObj "list" (List.toArray ks |>.push k) c):=⟨_,get?_update_seq g2 (·.push k)⟩
  have upT:∀ b o,h2.get? b=some o->o.cls=.type "tuple"->(h2.update kS (Obj.mapSeq (·.push k))).get? b=some o:=fun b o z cz=>(Heap.get?_update_other _ _ (fun q=>by rw [← q,g2] at z; cases z; simp at cz)).trans z
  refine wpAny_bind (listUpdate_at g2 rfl ?_ (by rw [bo]; omega) (by rw [Array.size_push,bo]; omega))
  refine wpAny_pure ⟨rfl,_,tk2,ks++[k],c,rfl,by rw [List.length_append,lk]; simp,?_,fun b o hb z=>(Heap.get?_update_other _ _ (Ne.symm hb)).trans (k2 _ _ (kp b o hb z)),?_,fun i v u hv hu=>?_⟩
  ·rw [gc]
   simp
  ·show s.heap.objs.size<=(h2.update kS (Obj.mapSeq (·.push k))).objs.size
   rw [Heap.size_update]
   exact br sz z2
  ·by_cases hi:i<ks.length
   ·rw [dE hi] at hv
    exact ((pr i v u hv hu).keep fun b o z _=>k2 b o z).keep upT
   ·have hlt:=(af.mp hv).1
    rw [ar] at hlt
    have e9:i=ks.length:=by simp at hlt; omega
    subst e9
    rw [eS (ah _)] at hv
    simp at hv
    have e8:ks.length=j:=by omega
    rw [e8,ht] at hu
    cases hu
    cases hv
    exact pk.keep upT
 ·obtain ⟨h1,tk1,ks,e,rfl,lk,g1,kp,sz,pr⟩:=hd
  have lk':ks.length=vs.length:=by omega
  refine wpAny_bind (listItems_at g1 rfl ?_)
  refine eZ hne g1 (kp _ _ (Ne.symm hne) gA) lk' (by omega) pr h64 fun h' tk c ix kk g pm pw=>?_
  exact h h' tk c ix (fun b o b1 b2 z=>kk b o b1 b2 (kp b o b1 z)) g pm pw
theorem Tt {l q:Addr} {vs:List Value} {ts:List T2} {Q:Value->Shared->Prop} (hL:s.heap.IsList l vs.toArray) (hl:vs.length=ts.length) (h64:vs.length<64)
  (cl:∀ (s1:Shared) (kS:Addr),(∃ h1,s1 = { s with heap:=h1 }/\∀ b o,s.heap.get? b=some o->h1.get? b=some o)->s.heap.objs.size<=kS->∀ (i:Nat) v t,vs[i]? = some v->ts[i]? = some t->X_ prog w A.in1.in1 (.ref q) s1 kS v t)
  (h:∀ D h' tk c ix,s.heap.objs.size<=D->(∀ b o,s.heap.get? b=some o->h'.get? b=some o)->h'.get? D=some { cls:=.type "list",data:=.seq (List.map (fun i=>vs.getD i Value.none) ix).toArray c }->ix.Perm (List.range vs.length)->ix.Pairwise (fun i j=>Ew (ts.getD j (0,0)) (ts.getD i (0,0))=false)->Q (.ref D) { s with heap:=h',toks:=tk }) :
  wpAny (model prog w) A (call (.builtin "sorted") [.ref l] [(Str.ofString "key",.ref q)]) Q E s:=by
 have zl:vs.length<=sizeLine:=by rw [sizeLine_eq]; omega
 refine call_function_entry_kw kind_sorted plain_sorted entry_sorted (ksk_s1 _ _) ?_
 unfold Builtin.«sorted»
 refine wpAny_bind (m:=checkCount "sorted" 1 1 _) (wpAny_pure (wpAny_bind (collect_list hL (wpAny_bind (wpAny_newList ?_ zl)) zl)))
 have k0:∀ b o,s.heap.get? b=some o->((s.heap.push (seqObj "list" #[] 0)).update s.heap.objs.size (Obj.mapSeq (· ++ vs.toArray))).get? b=some o:=fun b o e=>(Heap.get?_update_other _ _ (fq (Heap.lt_size e))).trans (Heap.get?_push_of_some _ e)
 have z0:s.heap.objs.size<=((s.heap.push (seqObj "list" #[] 0)).update s.heap.objs.size (Obj.mapSeq (· ++ vs.toArray))).objs.size:=by rw [Heap.size_update,size_push']; exact iO _
 generalize (s.heap.push (seqObj "list" #[] 0)).update s.heap.objs.size (Obj.mapSeq (· ++ vs.toArray))=h0 at k0 z0 ⊢
 have e1:(h0.push (seqObj "list" vs.toArray 0)).get? h0.objs.size=some (seqObj "list" vs.toArray 0):=Heap.get?_push_size _ rfl
 refine wpAny_bind (wpAny_holding (wpAny_call_entry_kw slot_list_sort ⟨_,e1,rfl⟩ entry_list_sort ?_ (ksk_l1 _ _)))
 show wpAny (model prog w) A.in1.in1 (Builtin.«list.sort» ⟨[.ref h0.objs.size],[(Str.ofString "key",.ref q)]⟩) _ _ _
 rw [ksk_t1]
 unfold ksk_tree
 have lD:h0.objs.size<(h0.push (seqObj "list" vs.toArray 0)).objs.size:=Heap.lt_size e1
 obtain ⟨c1,g1⟩:∃ c1,((h0.push (seqObj "list" vs.toArray 0)).update h0.objs.size (Obj.mapSeq fun _=>(#[]:Array Value))).get? h0.objs.size=some (seqObj "list" #[] c1):=⟨_,get?_update_seq e1 fun _=>#[]⟩
 have kA:∀ b o,s.heap.get? b=some o->((h0.push (seqObj "list" vs.toArray 0)).update h0.objs.size (Obj.mapSeq fun _=>(#[]:Array Value))).get? b=some o:=fun b o z=>(Heap.get?_update_other _ _ (fq (ay (Heap.lt_size z) z0))).trans (Heap.get?_push_of_some _ (k0 b o z))
 have zA:h0.objs.size<((h0.push (seqObj "list" vs.toArray 0)).update h0.objs.size (Obj.mapSeq fun _=>(#[]:Array Value))).objs.size:=by rw [Heap.size_update]; exact lD
 refine wpAny_bind (listItems_at e1 rfl ?_)
 refine wpAny_bind (listUpdate_at e1 rfl ?_ (by simpa using zl) (Nat.zero_le _))
 generalize (h0.push (seqObj "list" vs.toArray 0)).update h0.objs.size (Obj.mapSeq fun _=>(#[]:Array Value))=hA at g1 kA zA ⊢
 refine wpAny_bind (seqEpoch_at g1 rfl (wpAny_bind (wpAny_newTuple ?_ zl)))
 have kB:∀ b o,hA.get? b=some o->(hA.push (seqObj "tuple" vs.toArray 0)).get? b=some o:=fun b o z=>Heap.get?_push_of_some _ z
 have zB:hA.objs.size<(hA.push (seqObj "tuple" vs.toArray 0)).objs.size:=by rw [size_push']; exact gz _
 show wpAny (model prog w) A.in1.in1 _ _ _ (Shared.mk (hA.push (seqObj "tuple" vs.toArray 0)) s.gens s.drawn s.toks s.os)
 generalize hA.push (seqObj "tuple" vs.toArray 0)=hB at kB zB ⊢
 refine wpAny_bind (wpAny_newList (wpAny_holding ?_) (cm _))
 show wpAny (model prog w) A.in1.in1 (ksk_rest h0.objs.size (.ref q) false vs.toArray c1 (.ref hB.objs.size)) _ _ (Shared.mk (hB.push (seqObj "list" #[] 0)) s.gens s.drawn s.toks s.os)
 have ne:hB.objs.size ≠ h0.objs.size:=fq (kK zA zB)
 have kC:∀ b o,s.heap.get? b=some o->(hB.push (seqObj "list" #[] 0)).get? b=some o:=fun b o z=>Heap.get?_push_of_some _ (kB b o (kA b o z))
 refine Yq ne (Heap.get?_push_size _ rfl) (Heap.get?_push_of_some _ (kB _ _ g1)) hl h64 (cl _ hB.objs.size ⟨_,rfl,kC⟩ (br z0 (fI (kK zA zB)))) fun h' tk c ix kk g pm pw=>⟨_,rfl,?_⟩
 refine wpAny_pure ⟨_,rfl,h h0.objs.size h' tk c ix z0 (fun b o z=>?_) g pm pw⟩
 have lb:=Heap.lt_size z
 exact kk b o (aS (ay lb (br z0 (fI (kK zA zB))))) (aS (ay lb z0)) (kC b o z)
end
end Sx
end PartSortZs
namespace L2
open PySem PySem.Spec PyProof.Rows Og
noncomputable abbrev Gm (t:Sq.T3):List V:=[.int t.1,.int t.2.1,.int t.2.2]
theorem GZ:∀ {xs:List V} {us:List Value},Vals xs us->∀ {i:Nat} {u:Value},us[i]? = some u->∃ x,xs[i]? = some x/\RelV x u
 | _,_,.nil,i,u,h=>by simp at h
 | x::xs,u'::us,.cons r t,i,u,h=>by
  cases i with
  | zero=>exact ⟨x,rfl,by simp at h; exact h ▸ r⟩
  | succ i=>exact GZ t (by simpa using h)
theorem Pg {X:Cx} {pins:List (Addr × Obj)} {σ:St} {H:Hp} {s:Shared} (I:Inv X pins σ H s) {t:Sq.T3} {x:V} {u:Value} (h:TupAt H (Gm t) x) (r:RelV x u):Sq.Ir s.heap u t:=by
 obtain ⟨T,rfl,hT⟩:=h
 cases r
 obtain ⟨its,rv,pl,_⟩:=I.tuple (show Eg X.K H T (Gm t) from .inl (.inl hT))
 cases rv with
 | cons r1 rv =>
  cases rv with
  | cons r2 rv =>
   cases rv with
   | cons r3 rv =>
    cases rv
    obtain ⟨k1,rfl⟩:=r1
    obtain ⟨k2,rfl⟩:=r2
    obtain ⟨k3,rfl⟩:=r3
    obtain ⟨o,e,c,n,d⟩:=pl
    exact ⟨T,o,k1,k2,k3,n,rfl,e,c,d⟩
section
variable {X:Cx}
theorem LQ (hc:X.calm=true):Du X (.builtin "sorted") (fun xs H Q=>∃ (a:Addr) (ts:List Sq.T3) (vs:List V),xs=[V.ref a]/\CZ X.K H a vs/\Paired (fun t y=>TupAt H (Gm t) y) ts vs/\vs.length<64/\∀ (p:Addr) (ix:List Nat),H p=none->ix.Perm (List.range vs.length)->ix.Pairwise (fun i j=>Sq.GC (ts.getD j (0,0,0)) (ts.getD i (0,0,0))=false)->Q (.ref p) (upd H p (.lst (ix.map fun i=>vs.getD i .non)))):=by
 intro pins s σ H xs us Q I r h
 obtain ⟨a,ts,vs,rfl,hS,hp,h64,q⟩:=h
 obtain ⟨u,rfl,ru⟩:=vals1 r
 cases ru
 obtain ⟨its,rv,pl,hz⟩:=I.list hS
 have lv:=rv.length
 have lt:=hp.length
 refine Sx.Ub (ts:=ts) pl.isList (by omega) (fun i v t hv ht=>?_) (by omega) fun D h' c ix le k e pm pw=>?_
 ·obtain ⟨x,hx,rx⟩:=GZ rv hv
  obtain ⟨t',ht',hta⟩:=Cg hp hx
  rw [ht] at ht'
  cases ht'
  exact Pg I hta rx
 ·have hn:H D=none:=I.hok.fresh le
  have li:its.length=vs.length:=by omega
  rw [li] at pm
  have vv:Vals (ix.map fun i=>vs.getD i .non) (ix.map fun i=>its.getD i .none):=by
   have hb:∀ i∈ix,i<vs.length:=fun i hi=>dv.mp (pm.mem_iff.mp hi)
   clear e pm pw
   induction ix with
   | nil=>exact .nil
   | cons i ix ih =>
    refine .cons ?_ (ih fun j hj=>hb j (av _ hj))
    have hi:=hb i (am ..)
    have hi':i<its.length:=by omega
    obtain ⟨x,hx,rx⟩:=GZ rv (ae hi')
    show RelV (vs.getD i V.non) (its.getD i Value.none)
    rw [bX,bX,hx,ae hi']
    exact rx
  have zl:(ix.map fun i=>vs.getD i .non).length<=sizeLine:=by
   rw [ag,pm.length_eq,cS,sizeLine_eq]
   omega
  exact ⟨.ref D,_,I.YH (o:=.lst (ix.map fun i=>vs.getD i .non)) (t':=s.toks) (d':=s.drawn) k le ⟨zl,_,c,vv,e⟩,rfl,q D ix hn pm pw⟩
end
end L2
namespace L2
open PySem PySem.Spec PyProof.Rows
section
variable {X:Cx}
theorem XJ (xs ys:List V):((List.range (min xs.length ys.length)).all (fun j=>Kr (xs.getD j .non) (ys.getD j .non)) && xs.length == ys.length)=YL xs ys:=by
 by_cases h:xs.length=ys.length
 ·rw [show min xs.length ys.length=xs.length by omega,Kv xs ys h,beq_iff_eq.mpr h,Bool.and_true]
 ·rw [Qv xs ys h,beq_eq_false_iff_ne.mpr h,Bool.and_false]
noncomputable def QG (r r' r'':R2) (ta tb tc td:TE):TE:=fun σ H Q=>ta σ H fun x H1=>tb σ H1 fun y H2=>r x y H2 fun z H3=>∃ k,z=.bl k /\
 (if k=true then tc σ H3 fun w H4=>r' y w H4 fun z2 H5=>∃ k2,z2=.bl k2/\(if k2=true then td σ H5 fun v H6=>r'' w v H6 Q else Q (.bl false) H5) else Q (.bl false) H3)
theorem Qy {op op' op'':CmpOp} {r r' r'':R2} {a b c d:Expr} {ta tb tc td:TE} {pos:Pos} (ho:GF X (compareOp op) r) (ho':GF X (compareOp op') r') (ho'':GF X (compareOp op'') r'') (ha:PE X a ta) (hb:PE X b tb) (hc:PE X c tc) (hd:PE X d td)
  (hm:lastMarks [op,op',op''] [b,c,d]=false:=by with_unfolding_all rfl):PE X (.Compare a [op,op',op''] [b,c,d] pos) (QG r r' r'' ta tb tc td):=by
 intro pins s σ H Q I h
 refine Compare_chain (Bq (ha pins s σ H _ I h) fun v s1 ⟨x,H1,I1,r1,q1⟩=>chain_link (Bq (hb pins s1 σ H1 _ I1 q1) fun u s2 ⟨y,H2,I2,r2,q2⟩ =>
  Bq (ho pins s2 σ H2 x y v u _ I2 r1 r2 q2) fun d s3 ⟨z,H3,I3,r3,k,e,q3⟩=>?_)) hm
 subst e
 cases r3
 refine wpAny_truthy_bool ?_
 cases k with
 | false=>exact ite_ff ⟨.bl false,H3,I3,rfl,q3⟩
 | true =>
  refine ite_tt (chain_link (Bq (hc pins s3 σ H3 _ I3 q3) fun w' s4 ⟨z',H4,I4,r4,q4⟩=>Bq (ho' pins s4 σ H4 y z' u w' _ I4 r2 r4 q4) fun d5 s5 hq0=>?_))
  obtain ⟨z5,H5,I5,r5,k5,e5,q5⟩:=hq0
  subst e5
  cases r5
  refine wpAny_truthy_bool ?_
  cases k5 with
  | false=>exact ite_ff ⟨.bl false,H5,I5,rfl,q5⟩
  | true=>exact ite_tt (chain_last (Bq (hd pins s5 σ H5 _ I5 q5) fun w6 s6 ⟨z6,H6,I6,r6,q6⟩=>ho'' pins s6 σ H6 z' z6 w' w6 Q I6 r4 r6 q6))
theorem Ti:GF X (binaryOp .FloorDiv) (rI (fun _ j=>0<j/\j<2 ^ 200) fun i j=>.int (i / j)):=eY fun i j _ _ _ _ _ hc q=>by
 have h1:(0:Int)<j:=hc.1
 have h2:j<2 ^ 200:=hc.2
 refine floordiv_int (by omega) (by rw [Int.fdiv_eq_ediv_of_nonneg i (by omega)]; exact q) (.inl (PyProof.noPylong_of_log2 ?_))
 have h3:j.natAbs<2 ^ 200:=by omega
 have h4:j.natAbs ≠ 0:=by omega
 have:=(Nat.log2_lt h4).mpr h3
 omega
end
end L2
namespace L2
open PySem PySem.Spec PyProof.Rows
section
variable {σ:St} {H1:Hp} {Q:VK} {tt:TT} {te:TE}
end
end L2
namespace L2
open PySem PySem.Spec PyProof.Rows
theorem Xp:∀ {ns:List Int} {us:List Value},Vals (ns.map V.int) us->IntsAre us ns
 | [],_,r=>by cases r; exact .nil
 | n::ns,_,r=>by
  cases r with
  | cons r t =>
   obtain ⟨tk,rfl⟩:=r
   exact .cons n tk (Xp t)
theorem Ui:∀ {ns:List Int} {us:List Value},IntsAre us ns->Vals (ns.map V.int) us
 | _,_,.nil=>.nil
 | _,_,.cons n t r=>.cons ⟨t,rfl⟩ (Ui r)
section
variable {X:Cx}
end
end L2
namespace L2
open PySem PySem.Spec PySem.Calls PyProof.Rows
noncomputable def BZ (X:Cx) (x z y3:Str) (scope:Scope) (C:Addr) (s₀:Shared) (H₀:Hp) (fp:List Addr):Cx where
 prog:=X.prog
 w:=X.w
 K:=X.K
 mg:=X.mg
 base:=X.base
 A:=X.A
 N:=x::z::y3::X.N
 s₀:=s₀
 H₀:=H₀
 env:=compEnvC scope (CT X.env scope.names []) C X.env
 outer:=X.stack
 stack:=X.stack
 ex:=fp
 fn:=fun _=>false
 calm:=X.calm
 pn:=[]
 xe:=fun _ _=>False
structure Dh (X:Cx) (x z y3:Str) (scope:Scope):Prop where
 kind:scope.kind=.function
 nocell:∀ y∈scope.names,y.2 ≠ .cell
 names:∀ y∈scope.names,y.2=.local->scope.names.lookup y.1=some .local
 loc:scope.names.lookup x=some .local
 loz:scope.names.lookup z=some .local
 lo3:scope.names.lookup y3=some .local
 free:∀ y∈scope.names,y.2=.free->X.env.kindOf y.1=some .cell \/ X.env.kindOf y.1=some .free
 nd:(x::z::y3::X.N).Nodup
 only:∀ y∈X.N,scope.names.lookup y ≠ some .local
section
variable {X:Cx} {pins:List (Addr × Obj)} {σ:St} {H:Hp} {s:Shared} {x z y3:Str} {scope:Scope} {fp:List Addr} {C:Addr}
theorem Mr {h':Heap} {tk:Nat} {m:Str->Option Value} (I:Inv X pins σ H s) (S:Dh X x z y3 scope) (hf:∀ b∈fp,Ek X pins H b) (hlt:∀ b∈fp,b<s.heap.objs.size) (hC:s.heap.objs.size<=C) (hn:h'.Ns C m)
  (hk:∀ b o,s.heap.get? b=some o->h'.get? b=some o):Inv (BZ X x z y3 scope C s H fp) [] (none::none::none::σ) H { s with heap:=h',toks:=tk }:=by
 have cl:∀ y c,(CT X.env scope.names []).lookup y=some c->X.env.cells.lookup y=some c:=fun y c e=>by
  rcases Eo X.env scope.names [] y c e with z | z
  ·cases z
  ·exact z
 have cellK:∀ c v,s.heap.IsCell c v->h'.IsCell c v:=fun c v ⟨o,ho,hd⟩=>⟨o,hk c o ho,hd⟩
 have look:∀ y,(BZ X x z y3 scope C s H fp).env.scope.names.lookup y=(scope.names.lookup y).map fun k=>if (k == NameKind.free && X.env.scope.kind == .function && X.env.kindOf y == some .cell) then NameKind.cell else k:=fun y=>Dw X.env y scope.names
 refine ⟨⟨I.ok.mod,S.kind,I.ok.glob,I.ok.blt,hC,fun y z c e1 e2=>I.ok.inj y z c (cl y c e1) (cl z c e2),fun y hy=>?_,fun y c e _=>(by cases e),fun h=>I.ok.hd h,I.ok.frames,.inl rfl,fun b hb=>?_,I.bs,br I.ok.bsz I.sz,fun b o e hb=>?_,fun b hb hb'=>?_,I.stack,I.I_⟩,
  rfl,I.bare,Un.kept hk,⟨m,hn,fun i y v h1 h2 h3=>?_⟩,fun y c e=>?_,I.hok.fresh hC,fun y c e=>I.freeC y c (cl y c e),fun p hp=>absurd (show p∈([]:List (Addr × Obj)) from hp) (by simp),I.hok.kept hk,?_⟩
 ·have hy':(BZ X x z y3 scope C s H fp).env.scope.names.lookup y=some .cell \/ (BZ X x z y3 scope C s H fp).env.scope.names.lookup y=some .free:=hy
  rw [look y] at hy'
  cases e:scope.names.lookup y with
  | none=>rw [e] at hy'; rcases hy' with z | z <;> cases z
  | some k =>
   have hm:=PySem.mem_of_lookup e
   have hfree:k=.free:=by
    rw [e] at hy'
    cases k with
    | free=>rfl
    | cell=>exact absurd rfl (S.nocell _ hm)
    | _=>rcases hy' with z | z <;> simp at z
   subst hfree
   obtain ⟨c,hc⟩:=I.ok.has y (S.free _ hm rfl)
   exact dL.mp (DK X.env scope.names [] y hm (by rw [hc]; rfl))
 ·obtain ⟨f0,f1,f2,f3,f4,f5⟩:=hf b hb
  exact ⟨aS (ay (hlt b hb) hC),fun y c e=>f4 y c (cl y c e)⟩
 ·obtain ⟨f0,f1,f2,f3,f4,f5⟩:=hf b hb
  rcases f3 with z | z
  ·exact I.ok.noex b o e z
  ·exact absurd (ay (Heap.lt_size e) (br I.ok.bsz z)) (ed _)
 ·obtain ⟨f0,f1,f2,f3,f4,f5⟩:=hf b hb
  rcases bi.mp (I.JN b hb') with e | e
  ·exact f1 e
  ·exact f2 e
 ·match i,h1,h2 with
  | 0,h1,h2 =>
   have h2':(some none:Option (Option V))=some (some v):=h2
   cases h2'
  | 1,h1,h2 =>
   have h2':(some none:Option (Option V))=some (some v):=h2
   cases h2'
  | 2,h1,h2 =>
   have h2':(some none:Option (Option V))=some (some v):=h2
   cases h2'
  | i+3,h1,h2 =>
   have e0:X.N[i]? = some y:=h1
   have h2':σ[i]? = some (some v):=h2
   have hmem:y∈X.N:=aI e0
   have h3':(BZ X x z y3 scope C s H fp).env.scope.names.lookup y=some .local \/ (BZ X x z y3 scope C s H fp).env.scope.names.lookup y=some .cell \/ (BZ X x z y3 scope C s H fp).env.scope.names.lookup y=some .free:=h3
   rw [look y] at h3'
   cases e:scope.names.lookup y with
   | none=>rw [e] at h3'; rcases h3' with z | z | z <;> cases z
   | some k =>
    have hm:=PySem.mem_of_lookup e
    have hfree:k=.free:=by
     rw [e] at h3'
     cases k with
     | free=>rfl
     | cell=>exact absurd rfl (S.nocell _ hm)
     | «local»=>exact absurd e (S.only y hmem)
     | _=>rcases h3' with z | z | z <;> simp at z
    subst hfree
    have kd:=S.free _ hm rfl
    obtain ⟨m0,hn0,hl0⟩:=I.loc
    obtain ⟨u,r,l⟩:=hl0 i y v e0 h2' (by rcases kd with z | z; exact .inr (.inl z); exact .inr (.inr z))
    refine ⟨u,r,.inr ⟨?_,?_⟩⟩
    ·have hk':(BZ X x z y3 scope C s H fp).env.scope.names.lookup y=some (if (NameKind.free == NameKind.free && X.env.scope.kind == .function && X.env.kindOf y == some .cell) then NameKind.cell else NameKind.free):=by
      rw [look y,e]; rfl
     by_cases c:(NameKind.free == NameKind.free && X.env.scope.kind == .function && X.env.kindOf y == some .cell)=true
     ·rw [if_pos c] at hk'; exact .inl hk'
     ·rw [if_neg c] at hk'; exact .inr hk'
    ·rcases l with ⟨lk,_⟩ | ⟨_,c,hc,hcell⟩
     ·exfalso
      rcases kd with z | z <;> (rw [show X.env.kindOf y=some NameKind.local from lk] at z; cases z)
     ·obtain ⟨c',hc'⟩:=dL.mp (DK X.env scope.names [] y hm (by rw [hc]; rfl))
      have:=cl y c' hc'
      rw [hc] at this
      cases this
      exact ⟨c,hc',cellK c _ hcell⟩
 ·obtain ⟨v,z⟩:=I.cell y c (cl y c e)
  exact ⟨v,cellK c v z⟩
 ·show (none::none::none::σ).length=(x::z::y3::X.N).length
  simp [I.len]
end
noncomputable def MF (J:It) (σ:St) (H1:Hp) (Q:VK) (g:TG) (tt:TT) (te:TE):Prop:=∀ D,H1 D=none->∃ W:Nat->Nat->List V->Hp->Prop,(∃ m,W 0 m [] (upd H1 D (.lst [])))/\∀ i m ys H2,W i m ys H2 ->
 (J.stop i H2/\Q (.ref D) H2) \/ (J.go i H2/\∀ x H3,J.yld i H2 x H3->∀ v0 v1 v2,g x (v0::v1::v2::σ) H3 fun σ' H3'=>(∃ w0 w1 w2,σ'=w0::w1::w2::σ)/\tt σ' H3' fun b H4 =>
  if b=true then te σ' H4 fun y H5=>H5 D=some (.lst ys)/\ys.length<sizeLine/\∃ m',m'<m/\W (i+1) m' (ys++[y]) (upd H5 D (.lst (ys++[y])))
  else ∃ m',m'<m/\W (i+1) m' ys H4)
noncomputable def Ot (wi:TI) (g:TG) (tt:TT) (te:TE):TE:=fun σ H Q=>wi σ H fun J H1=>MF J σ H1 Q g tt te
section
variable {X:Cx} {x z y3:Str} {scope:Scope}
theorem Ie {tg:Expr} {pos:Pos} {iter elt:Expr} {ifs:List Expr} {g:TG} {tt:TT} {te:TE} {pins:List (Addr × Obj)} {σ:St} {s2:Shared} {H2:Hp} {it:Addr} {fp:List Addr} {tn:Nat->Heap->Prop} {J:It} {E:Value->Shared->Prop}
  {RR:Value->Addr->Result->Shared->Prop} {Q:VK}
  (hc:X.calm=true) (S:Dh X x z y3 scope) (hg:∀ C s₀ H₀ fp,PG (BZ X x z y3 scope C s₀ H₀ fp) tg g) (ht:∀ C s₀ H₀ fp,Ik (BZ X x z y3 scope C s₀ H₀ fp) ifs tt) (he:∀ C s₀ H₀ fp,PE (BZ X x z y3 scope C s₀ H₀ fp) elt te)
  (I2:Inv X pins σ H2 s2) (T:Turn X.prog X.w X.K tg J fp it tn) (st2:tn 0 s2.heap) (f2:∀ b∈fp,Ek X pins H2 b) (q:MF J σ H2 Q g tt te)
  (hRR:∀ D C s' H' m,s'.heap.Ns C m->Ek X pins H' C->Inv X pins σ H' s'->Q (.ref D) H'->RR (.ref D) C (.ok .next) s') :
  wpAny (model X.prog X.w) X.A (newList []) (fun acc s₃=>wpAny (model X.prog X.w) X.A (newFunctionEnv scope X.env.globals (CT X.env scope.names []) [] X.env.qual none .none (some X.env)) (fun cenv s₄ =>
   codeAny (model X.prog X.w) X.A (.compStart (.ListComp elt [⟨tg,iter,ifs,0⟩] scope pos) 0 (.ref it) acc { cenv with scope:=relabel scope X.env }) (RR acc cenv.locals) s₄) E s₃) E s2:=by
 refine wpAny_newObj_type (wpAny_newFunctionEnv S.nocell (by intro y hy; simp at hy) (fun h₁ hns₁ hsb₁=>?_) S.kind)
 have I3:=I2.Uy (its:=[]) (ys:=[]) (t':=s2.toks) .nil (cm _)
 have hD0:H2 s2.heap.objs.size=none:=I2.fresh
 obtain ⟨W,⟨m0,w0⟩,turn⟩:=q _ hD0
 generalize hs3:({ s2 with heap:=s2.heap.push { cls:=.type "list",data:=.seq ([]:List Value).toArray },toks:=s2.toks }:Shared)=s3 at I3
 have e3:s3.heap=s2.heap.push { cls:=.type "list",data:=.seq ([]:List Value).toArray }:=by rw [← hs3]
 have hlt:∀ b∈fp,b<s2.heap.objs.size:=fun b hb=>let ⟨_,e,_⟩:=T.obj _ _ st2 b hb; Heap.lt_size e
 have hlt3:∀ b∈fp,b<s3.heap.objs.size:=fun b hb=>by rw [e3,Heap.size_push]; exact fm (hlt b hb)
 have f3:∀ b∈fp,Ek X pins (upd H2 s2.heap.objs.size (.lst [])) b:=fun b hb=>⟨by rw [Am (aS (hlt b hb))]; exact (f2 b hb).1,(f2 b hb).2⟩
 have hk1:∀ b o,s3.heap.get? b=some o->h₁.get? b=some o:=fun b o e=>by
  have hne:b ≠ s3.heap.objs.size:=aS (Heap.lt_size e)
  rw [e3] at e hne
  exact hsb₁.extBut b o hne (Heap.get?_push_of_some _ e)
 have hC:s3.heap.objs.size=(s2.heap.push { cls:=.type "list",data:=.seq ([]:List Value).toArray }).objs.size:=by rw [e3]
 have hns:h₁.Ns s3.heap.objs.size (fun x=>([]:List (Str × Value)).reverse.lookup x):=by rw [hC]; exact hns₁
 have st3:tn 0 h₁:=T.keep _ _ _ st2 fun b hb o e=>hk1 b o (by rw [e3]; exact Heap.get?_push_of_some _ e)
 have start:∀ tk,Inv (BZ X x z y3 scope s3.heap.objs.size s3 (upd H2 s2.heap.objs.size (.lst [])) fp) [] (none::none::none::σ) (upd H2 s2.heap.objs.size (.lst [])) { s3 with heap:=h₁,toks:=tk }:=fun tk =>
  Mr I3 S f3 hlt3 (ah _) hns hk1
 have loop:∀ tk,codeAny (model X.prog X.w) X.A (.compLoop (.ListComp elt [⟨tg,iter,ifs,0⟩] scope pos) 0 (.ref it) (.ref s2.heap.objs.size) (compEnvC scope (CT X.env scope.names []) s3.heap.objs.size X.env))
   (RR (.ref s2.heap.objs.size) s3.heap.objs.size) { s3 with heap:=h₁,toks:=tk }:=by
  intro tk
  refine Pz (fun n s'=>∃ i ys v0 v1 v2 H',Inv (BZ X x z y3 scope s3.heap.objs.size s3 (upd H2 s2.heap.objs.size (.lst [])) fp) [] (v0::v1::v2::σ) H' s'/\tn i s'.heap/\(∀ b∈fp,H' b=none)/\W i n ys H') rfl ?_ m0
   ⟨0,[],none,none,none,_,start tk,st3,fun b hb=>(f3 b hb).1,w0⟩
  rintro n s4 ⟨i,ys,v0,v1,v2,H4,I4,st4,fr4,w4⟩
  have stat:∀ {H':Hp},(∀ b∈fp,H' b=none)->∀ b∈fp,Ek (BZ X x z y3 scope s3.heap.objs.size s3 (upd H2 s2.heap.objs.size (.lst [])) fp) [] H' b:=fun hn b hb=>by
   refine ⟨hn b hb,(I4.ok.exf b hb).1,I4.ok.exfs b hb,.inl hb,(I4.ok.exf b hb).2,fun p hp=>absurd (show p∈([]:List (Addr × Obj)) from hp) (by simp)⟩
  rcases turn i n ys H4 w4 with ⟨stop,qn⟩ | ⟨go,step⟩
  ·refine Bq (T.done (BZ X x z y3 scope s3.heap.objs.size s3 (upd H2 s2.heap.objs.size (.lst [])) fp) rfl rfl rfl hc i [] s4 (v0::v1::v2::σ) H4 _ I4 (stat fr4) st4 stop) fun r s5 ⟨hr,I5⟩=>?_
   subst hr
   obtain ⟨m,hn,_⟩:=I5.loc
   refine hRR _ _ s5 H4 m hn (I3.JL (ah _) I5.free) (I3.call' (s':=s5) (ch:=fp) I5.os I5.base I5.hok I5.bare (fun b hb=>?_)) qn
   obtain ⟨_,g1,_,g3,g4,g5⟩:=f3 b hb
   exact ⟨g3,g1,g4,g5⟩
  ·refine Bq (T.item (BZ X x z y3 scope s3.heap.objs.size s3 (upd H2 s2.heap.objs.size (.lst [])) fp) rfl rfl rfl hc i [] s4 (v0::v1::v2::σ) H4 _ I4 (stat fr4) st4 go) fun r s5 ⟨u,hr,h5⟩=>?_
   subst hr
   refine Bq h5 fun _ s6 h6=>?_
   obtain ⟨xv,H6,I6,r6,y6,st6,fr6⟩:=h6
   have I6':=I6.pinned (stat fr6) (T.obj _ _ st6)
   have again:∀ {s7:Shared} {H7:Hp} {ys':List V} {w0 w1 w2:Option V},Inv (BZ X x z y3 scope s3.heap.objs.size s3 (upd H2 s2.heap.objs.size (.lst [])) fp) ([]++G6 fp s6.heap) (w0::w1::w2::σ) H7 s7->(∃ m',m'<n/\W (i+1) m' ys' H7) ->
     ∃ m,m<n/\∃ i ys v0 v1 v2 H',Inv (BZ X x z y3 scope s3.heap.objs.size s3 (upd H2 s2.heap.objs.size (.lst [])) fp) [] (v0::v1::v2::σ) H' s7/\tn i s7.heap/\(∀ b∈fp,H' b=none)/\W i m ys H':=fun {s7 H7 ys' w0 w1 w2} I7 hw=>by
    obtain ⟨m',hm,w7⟩:=hw
    refine ⟨m',hm,i+1,ys',w0,w1,w2,H7,I7.FT,T.keep _ _ _ st6 fun b hb o e=>(I7.pin (b,o) (aT _ (aT _ (Cy hb e)))).1,fun b hb=>?_,w7⟩
    obtain ⟨o,e,d⟩:=T.obj _ _ st6 b hb
    exact (I7.pin (b,o) (aT _ (aT _ (Cy hb e)))).2.1
   refine JR (hg _ _ _ _ _ s6 (v0::v1::v2::σ) H6 xv u _ I6' r6 (step xv H6 y6 v0 v1 v2)) fun _ s7 ⟨σ7,H7,I7,⟨w0,w1,w2,e7⟩,q7⟩=>?_
   subst e7
   refine JR (ht _ _ _ _ _ s7 (w0::w1::w2::σ) H7 _ I7 q7) fun b s8 hq0=>?_
   obtain ⟨H8,I8,q8⟩:=hq0
   cases b with
   | false =>
    rw [if_neg dl] at q8 ⊢
    exact again I8 q8
   | true =>
    rw [if_pos rfl] at q8 ⊢
    refine JR (he _ _ _ _ _ s8 (w0::w1::w2::σ) H8 _ I8 q8) fun y s9 hq0=>?_
    obtain ⟨yv,H9,I9,r9,hD9,hz9,q9⟩:=hq0
    refine JR (Bx (X:=BZ X x z y3 scope s3.heap.objs.size s3 (upd H2 s2.heap.objs.size (.lst [])) fp) _ s9 (w0::w1::w2::σ) H9 (.ref s2.heap.objs.size) [yv] (.ref s2.heap.objs.size) [y] (fun _ H'=>H'=upd H9 s2.heap.objs.size (.lst (ys++[yv]))) I9 rfl (.cons r9 .nil)
     ⟨_,ys,yv,rfl,rfl,hD9,hz9,rfl⟩) fun _ s10 ⟨_,H10,I10,_,e10⟩=>?_
    subst e10
    exact again I10 q9
 have key:=fun tk=>codeAny_compStart_list (R:=RR (.ref s2.heap.objs.size) s3.heap.objs.size) (loop tk) (T.self X.A 0 { s3 with heap:=h₁,toks:=tk } (fun it' s'=>codeAny (model X.prog X.w) X.A (.compLoop (.ListComp elt [⟨tg,iter,ifs,0⟩] scope pos) 0 it' (.ref s2.heap.objs.size) (compEnvC scope (CT X.env scope.names []) s3.heap.objs.size X.env)) (RR (.ref s2.heap.objs.size) s3.heap.objs.size) s') _ st3 (loop tk))
 subst hs3
 exact key _
theorem Uu {tg:Expr} {pos:Pos} {iter elt:Expr} {ifs:List Expr} {wi:TI} {g:TG} {tt:TT} {te:TE} (hc:X.calm=true) (S:Dh X x z y3 scope) (hi:PI X tg iter wi) (hg:∀ C s₀ H₀ fp,PG (BZ X x z y3 scope C s₀ H₀ fp) tg g)
  (ht:∀ C s₀ H₀ fp,Ik (BZ X x z y3 scope C s₀ H₀ fp) ifs tt) (he:∀ C s₀ H₀ fp,PE (BZ X x z y3 scope C s₀ H₀ fp) elt te) (hs:∀ x,foldedSetIterable iter X.env x=pure x:=by intro _; rfl) :
  PE X (.ListComp elt [⟨tg,iter,ifs,0⟩] scope pos) (Ot wi g tt te):=by
 intro pins s σ H Q I h
 rw [eval_ListComp]
 refine wpAny_comprehension_free (use:=none) (cl:=CT X.env scope.names []) rfl hs (Es fun y hy hk=>I.ok.has y.1 (S.free y hy hk)) S.kind S.names (Bq (hi pins s σ H _ I h) fun v s1 h1=>Bq h1 fun itv s2 h2=>?_)
 obtain ⟨it,fp,tn,J,H2,e,I2,T,st2,f2,q⟩:=h2
 subst e
 refine Ie (RR:=fun acc C=>compPost (model X.prog X.w) X.A X.xe none (EP X pins σ Q) acc C) (Q:=Q) hc S hg ht he I2 T st2 f2 q ?_
 intro D C s' H' m hn hf hI hq
 exact ⟨m,hn,fun h' sb=>⟨.ref D,H',hI.sameBut hf sb,rfl,hq⟩⟩
end
noncomputable def Mh (x z y3:Str) (scope osc:Scope) (N:List Str):Bool :=
 (scope.kind == .function) && scope.names.all (fun y=>y.2 != .cell && (y.2 != .local || scope.names.lookup y.1 == some .local) && (y.2 != .free || osc.names.lookup y.1 == some .cell || osc.names.lookup y.1 == some .free)) && (scope.names.lookup x == some .local) && (scope.names.lookup z == some .local) && (scope.names.lookup y3 == some .local) &&
 decide ((x::z::y3::N).Nodup) && N.all (fun y=>scope.names.lookup y != some .local)
theorem Jg {X:Cx} {x z y3:Str} {scope osc:Scope} {N:List Str} (hsc:X.env.scope=osc) (hN:X.N=N) (h:Mh x z y3 scope osc N=true):Dh X x z y3 scope:=by
 unfold Mh at h
 simp only [Bool.and_eq_true] at h
 obtain ⟨⟨⟨⟨⟨⟨h1,h2⟩,h3⟩,h3'⟩,h3x⟩,h4⟩,h5⟩:=h
 rw [fh] at h2 h5
 have kind:∀ y,X.env.kindOf y=osc.names.lookup y:=fun y=>by show X.env.scope.names.lookup y=_; rw [hsc]
 refine ⟨by simpa using h1,fun y hy=>?_,fun y hy hk=>?_,by simpa using h3,by simpa using h3',by simpa using h3x,fun y hy hk=>?_,by rw [hN]; exact of_decide_eq_true h4,fun y hy=>?_⟩
 ·have:=h2 y hy
  simp only [Bool.and_eq_true,bne_iff_ne] at this
  exact this.1.1
 ·have:=h2 y hy
  simp only [Bool.and_eq_true] at this
  simpa [hk] using this.1.2
 ·have:=h2 y hy
  simp only [Bool.and_eq_true] at this
  rw [kind]
  simpa [hk] using this.2
 ·have:=h5 y (by rw [← hN]; exact hy)
  simpa using this
section
variable {X:Cx} {x z y3:Str} {scope:Scope}
theorem T_ {px pz p3 pos:Pos} {k:Nat} {C:Addr} {s₀:Shared} {H₀:Hp} {fp:List Addr} (hc:X.calm=true) (S:Dh X x z y3 scope) :
  PG (BZ X x z y3 scope C s₀ H₀ fp) (.Tuple [.Name x px,.Name z pz,.Name y3 p3] k pos) (M7 X.K 3 (Dv (CV 0) (Dv (CV 1) (Dv (CV 2) NP)))):=by
 have l1:(BZ X x z y3 scope C s₀ H₀ fp).env.scope.names.lookup x=some .local:=lookup_relabel_local S.loc
 have l2:(BZ X x z y3 scope C s₀ H₀ fp).env.scope.names.lookup z=some .local:=lookup_relabel_local S.loz
 have l3:(BZ X x z y3 scope C s₀ H₀ fp).env.scope.names.lookup y3=some .local:=lookup_relabel_local S.lo3
 exact Gi (X:=BZ X x z y3 scope C s₀ H₀ fp) (n:=3) hc (Bo (Ba (X:=BZ X x z y3 scope C s₀ H₀ fp) (i:=0) S.nd rfl (.inl l1) (.inr l1)) (Bo (Ba (X:=BZ X x z y3 scope C s₀ H₀ fp) (i:=1) S.nd rfl (.inl l2) (.inr l2)) (Bo (Ba (X:=BZ X x z y3 scope C s₀ H₀ fp) (i:=2) S.nd rfl (.inl l3) (.inr l3)) Em)))
theorem Yd {px pz p3 tpos:Pos} {k:Nat} {pos:Pos} {iter elt:Expr} {ifs:List Expr} {wi:TI} {tt:TT} {te:TE} (hc:X.calm=true) (S:Dh X x z y3 scope) (hi:PI X (.Tuple [.Name x px,.Name z pz,.Name y3 p3] k tpos) iter wi)
  (ht:∀ C s₀ H₀ fp,Ik (BZ X x z y3 scope C s₀ H₀ fp) ifs tt) (he:∀ C s₀ H₀ fp,PE (BZ X x z y3 scope C s₀ H₀ fp) elt te) (hs:∀ x,foldedSetIterable iter X.env x=pure x:=by intro _; rfl) :
  PE X (.ListComp elt [⟨.Tuple [.Name x px,.Name z pz,.Name y3 p3] k tpos,iter,ifs,0⟩] scope pos) (Ot wi (M7 X.K 3 (Dv (CV 0) (Dv (CV 1) (Dv (CV 2) NP)))) tt te) :=
 Uu hc S hi (fun _ _ _ _=>T_ hc S) ht he hs
end
section
variable {X:Cx} {x z y3:Str} {scope:Scope}
theorem Yz {i:Nat} {y:Str} {px pz p3 tpos py pos spos:Pos} {kk:Nat} {iter elt:Expr} {ifs:List Expr} {wi:TI} {tt:TT} {te:TE} (hN:X.N.Nodup) (hi':X.N[i]? = some y) (hy:X.env.scope.names.lookup y=some .local) (hc:X.calm=true) (S:Dh X x z y3 scope) (hi:PI X (.Tuple [.Name x px,.Name z pz,.Name y3 p3] kk tpos) iter wi)
  (ht:∀ C s₀ H₀ fp,Ik (BZ X x z y3 scope C s₀ H₀ fp) ifs tt) (he:∀ C s₀ H₀ fp,PE (BZ X x z y3 scope C s₀ H₀ fp) elt te) (hsw:swapsWith (.ListComp elt [⟨.Tuple [.Name x px,.Name z pz,.Name y3 p3] kk tpos,iter,ifs,0⟩] scope pos) (some (.Name y py)) spos.line X.env=pure true:=by rfl) (hs:∀ x,foldedSetIterable iter X.env x=pure x:=by intro _; rfl) :
  PS X (.Assign [.Name y py] (.ListComp elt [⟨.Tuple [.Name x px,.Name z pz,.Name y3 p3] kk tpos,iter,ifs,0⟩] scope pos) spos) (TJ (Ot wi (M7 X.K 3 (Dv (CV 0) (Dv (CV 1) (Dv (CV 2) NP)))) tt te) (CV i)):=by
 intro pins s σ H D' I h
 rw [exec_Assign_Name_used _ _ _ _ hsw]
 refine wpAny_bind (wpAny_standAt (wpAny_bind ?_))
 show wpAny _ X.A (do let _ ← comprehension (.ListComp elt [⟨.Tuple [.Name x px,.Name z pz,.Name y3 p3] kk tpos,iter,ifs,0⟩] scope pos) scope X.env _ (newList []) false (eval iter X.env) (some (assign (.Name y py) X.env))) _ _ s
 refine wpAny_bind (wpAny_mono (wpAny_comprehension_free (use:=some (assign (.Name y py) X.env)) (cl:=CT X.env scope.names []) (Q:=fun _ s'=>SP X pins D' .next s') rfl hs (Es fun y hy hk=>I.ok.has y.1 (S.free y hy hk)) S.kind S.names
  (Bq (hi pins s σ H _ I h) fun v s1 h1=>Bq h1 fun itv s2 h2=>?_)) (fun _ s' hq=>wpAny_pure (wpAny_pure hq)) fun _ _ e=>e)
 obtain ⟨it,fp,tn,J,H2,e,I2,T,st2,f2,q⟩:=h2
 subst e
 refine Ie (RR:=fun acc C=>compPost (model X.prog X.w) X.A X.xe (some (assign (.Name y py) X.env)) (fun _ s'=>SP X pins D' .next s') acc C) (Q:=fun x H1=>CV i x σ H1 D'.nx) hc S (fun _ _ _ _=>T_ hc S) ht he I2 T st2 f2 q ?_
 intro D C s' H' m hn hf hI hq
 show wpAny _ X.A (assign (.Name y py) X.env (.ref D)) _ _ _
 refine wpAny_assign_Name (IV hI hN hi' (.inl hy) (v:=.ref D) rfl (fun s6 I6 hch=>?_) (.inr hy))
 obtain ⟨a,sb,ha⟩:=hch
 have hCa:C ≠ a:=by
  rcases ha with z | z
  ·rw [z]; exact hf.2.1
  ·exact Ne.symm (hf.2.2.2.2.1 y a z)
 exact ⟨m,hn.sameBut sb hCa,fun h' sb'=>⟨_,H',I6.sameBut hf sb',hq⟩⟩
end
section
variable {σ:St} {H1:Hp} {Q:VK} {tt:TT} {te:TE}
theorem Mv {K:PySem.W.Frag} {a:Addr} {α:Type} {l:List α} {vs:List V} (e:α->List V) (p:α->Bool) (f:α->List V) (hl:CZ K H1 a vs) (hp:Paired (fun x v=>TupAt H1 (e x) v) l vs) (h3:∀ x,∃ a b c,e x=[a,b,c]) (hz:vs.length<sizeLine)
  (ht:∀ x∈l,∀ a b c,e x=[a,b,c]->∀ H,Aq H1 H->∀ R:Bool->Hp->Prop,(∀ H',Aq H H'->R (p x) H')->tt (some a::some b::some c::σ) H R)
  (he:∀ x∈l,p x=true->∀ a b c,e x=[a,b,c]->∀ H,Aq H1 H->∀ R:VK,(∀ y H',Aq H H'->TupAt H' (f x) y->R y H')->te (some a::some b::some c::σ) H R)
  (hq:∀ D H ys,H1 D=none->Aq H1 H->H D=some (.lst ys)->Paired (fun x y=>TupAt H (f x) y) (l.filter p) ys->Q (.ref D) H):MF (Qw K a) σ H1 Q (M7 K 3 (Dv (CV 0) (Dv (CV 1) (Dv (CV 2) NP)))) tt te:=by
 intro D hD
 have s0:Aq H1 (upd H1 D (.lst [])):=fun b o e=>by rw [Am (Av e hD)]; exact e
 have hll:=hp.length
 refine ⟨fun i m ys H=>m=vs.length - i/\i<=vs.length/\H D=some (.lst ys)/\Paired (fun x y=>TupAt H (f x) y) ((l.take i).filter p) ys/\Aq H1 H,⟨vs.length,by simp,Nat.zero_le _,Ag,by simpa using Paired.nil,s0⟩,?_⟩
 rintro i m ys H ⟨rfl,hi,hd,hpr,hs⟩
 by_cases hlt:i<vs.length
 ·obtain ⟨y,hy⟩:∃ y,vs[i]? = some y:=⟨vs[i],by simp [hlt]⟩
  obtain ⟨x,hx,T,rfl,hT⟩:=Og.Cg hp hy
  obtain ⟨v1,v2,v3,e3⟩:=h3 x
  have hxl:=aI hx
  refine .inr ⟨⟨vs,_,hs.seq hl,hy⟩,fun y2 H3 hyl=>?_⟩
  obtain ⟨rfl,hy2⟩:=hyl
  have hy3:=hy2 vs (hs.seq hl)
  rw [hy] at hy3
  cases hy3
  intro u0 u1 u2
  rw [e3] at hT
  refine ⟨T,[v1,v2,v3],rfl,lc (hs _ _ hT),rfl,v1,_,rfl,v2,_,rfl,v3,_,rfl,rfl,⟨_,_,_,rfl⟩,?_⟩
  refine ht x hxl v1 v2 v3 e3 H3 hs _ fun H4 s4=>?_
  have hlen:ys.length<=i:=by
   rw [← hpr.length]
   exact br (dS ..) (by rw [ci]; omega)
  have etake:(l.take (i+1)).filter p=(l.take i).filter p++(if p x=true then [x] else []):=by
   rw [cf,hx,iE]
   congr 1
   by_cases hpx:p x=true
   ·simp [hpx]
   ·simp [hpx]
  by_cases hpx:p x=true
  ·rw [if_pos hpx]
   refine he x hxl hpx v1 v2 v3 e3 H4 (hs.trans s4) _ fun y H5 s5 hty=>⟨s5 _ _ (s4 _ _ hd),by omega,vs.length - (i+1),by omega,rfl,hlt,Ag,?_,?_⟩
   ·rw [etake,if_pos hpx]
    exact Paired.snoc (Bl (Ax (s4.trans s5) hpr) (s5 _ _ (s4 _ _ hd))) (hty.upd (s5 _ _ (s4 _ _ hd)))
   ·intro b o eb
    rw [Am (Av eb hD)]
    exact s5 _ _ (s4 _ _ (hs _ _ eb))
  ·rw [if_neg hpx]
   refine ⟨vs.length - (i+1),by omega,rfl,hlt,s4 _ _ hd,?_,hs.trans s4⟩
   rw [etake,if_neg hpx,ij]
   exact Ax s4 hpr
 ·have e:i=vs.length:=by omega
  subst e
  refine .inl ⟨⟨vs,hs.seq hl,ah _⟩,hq D H ys hD hs hd ?_⟩
  rw [bq (by omega)] at hpr
  exact hpr
end
end L2
namespace Sq
open PySem PySem.Spec PySem.Calls PyProof.Rows
noncomputable abbrev Fj (x:Str) (p1 q1 s1 p2 q2 s2 tp:Pos) (j1 j2 k:Nat):Expr:=.Tuple [.Subscript (.Name x p1) (.Constant (.int 1) j1 q1) s1,.Subscript (.Name x p2) (.Constant (.int 0) j2 q2) s2] k tp
section
variable {prog:Program} {w:World} {A:Around} {s:Shared}
theorem item_at {E:Value->Shared->Prop} {Q:Value->Shared->Prop} {env:Env} {x:Str} {p q sp:Pos} {jj:Nat} {i:Int} {j:Nat} {m:Str->Option Value} {u:Value} {o:Obj} {a:Addr} {its:Array Value} {n:Nat}
  (hk:env.scope.kind=.function) (hl:env.kindOf x=some .local) (hn:s.heap.Ns env.locals m) (hv:m x=some (.ref a)) (hd:(x == ("__debug__" : Str))=false)
  (ho:s.heap.get? a=some o) (hc:o.cls=.type "tuple") (hdt:o.data=.seq its n) (hi:seqIndex? i its.size=some j) (h1 : -(2 ^ 63)<=i) (h2:i<2 ^ 63) (hj:its[j]? = some u)
  (h:∀ tk,Q u { s with toks:=tk }):wpAny (model prog w) A (eval (.Subscript (.Name x p) (.Constant (.int i) jj q) sp) env) Q E s:=by
 refine Subscript_ (wpAny_Name (wpAny_loadName_local hk hl hn hv (wpAny_Constant_int ?_)) hd)
 have pl:Heap.IsTuple s.heap a its:=⟨o,ho,hc,n,hdt⟩
 exact subscriptTail_builtinR (x:=u) (s:={ s with toks:=s.toks+1 }) ⟨o,ho,hc⟩ slot_tuple_getitem.lookup (getItem_tuple (j:=j) (Q:=fun r s'=>r=u/\Q r s') pl h1 h2 hi hj ⟨rfl,h _⟩) (by with_unfolding_all rfl)
theorem Ss {f:Addr} {o:Obj} {name qual x:Str} {params:Arguments} {scope:Scope} {pm cdv ct v:Value} {t:T3} {p1 q1 s1 p2 q2 s2 tp:Pos} {j1 j2 k:Nat} {R:Value->Shared->Prop}
  (hroom:A.depth<recursionLimit) (ho:s.heap.get? f=some o) (hdat:o.data=.func (PySem.W.kla_fn name qual params (Fj x p1 q1 s1 p2 q2 s2 tp j1 j2 k) scope [] pm cdv ct)) (hcd:s.heap.CodeRec cdv qual) (lim:s.heap.NoLimit)
  (hbind:∀ v:Value,bindArgs (PySem.W.kla_fn name qual params (Fj x p1 q1 s1 p2 q2 s2 tp j1 j2 k) scope [] pm cdv ct) ⟨[v],[]⟩=pure [(x,v)]) (hloc:scope.names.lookup x=some .local) (hcell:∀ y∈scope.names,y.2 ≠ .cell)
  (hco:scope.isCoroutine=false) (hgen:scope.isGenerator=false) (hk:scope.kind=.function) (hdb:(x == ("__debug__" : Str))=false)
  (ht:Ir s.heap v t)
  (h:∀ kv h2 tk2,JS h2 kv (t.2.1,t.1)->(∀ b o,s.heap.get? b=some o->h2.get? b=some o)->s.heap.objs.size<=h2.objs.size->R kv { s with heap:=h2,toks:=tk2 }) :
  wpAny (model prog w) A (call (.ref f) [v]) R (fun _ _=>False) s:=by
 refine wpAny_call (PySem.W.kla_callFunE hroom ho hdat hco hgen rfl hcd ?_)
 rw [hbind v]
 refine wpAny_pure (wpAny_newFunctionEnv hcell (fun y hy=>by rw [ai.mp hy]; exact hloc) (fun h₁ hns hsb=>?_) hk)
 have hk₁:∀ b o,s.heap.get? b=some o->h₁.get? b=some o:=fun b o e=>hsb.extBut b o (aS (Heap.lt_size e)) (Heap.get?_push_of_some _ e)
 have hsz:s.heap.objs.size<=h₁.objs.size:=by
  obtain ⟨_,_,_,e,_⟩:=hns
  exact fI (Heap.lt_size e)
 refine ⟨lim.keeps hk₁,PySem.W.kla_codeExpr (wpAny_Tuple_spliced ?_)⟩
 obtain ⟨a,oa,k1,k2,k3,n,rfl,ea,ca,da⟩:=ht
 have ea1:=hk₁ _ _ ea
 have hm:(fun y=>[(x,Value.ref a)].reverse.lookup y) x=some (.ref a):=by
  show [(x,Value.ref a)].lookup x=_
  rw [gI,beq_self_eq_true]
 refine Calls.spliced_cons (item_at (j:=1) (u:=.int t.2.1 k2) hk (show scope.names.lookup x=some .local from hloc) hns hm hdb ea1 ca da rfl (by decide) (by decide) rfl fun tk1=>?_)
 refine Calls.spliced_cons (item_at (j:=0) (u:=.int t.1 k1) hk (show scope.names.lookup x=some .local from hloc) hns hm hdb ea1 ca da rfl (by decide) (by decide) rfl fun tk2=>?_)
 refine Calls.spliced_nil ⟨by show 2<=sizeLine; decide,?_⟩
 refine h _ _ _ ⟨h₁.objs.size,_,k2,k1,0,rfl,Heap.get?_push_size _ rfl,rfl,rfl⟩ (fun b o e=>Heap.get?_push_of_some _ (hk₁ b o e)) ?_
 rw [Heap.size_push]
 exact iP hsz
end
end Sq
namespace L2
open PySem PySem.Spec PySem.Calls PyProof.Rows Og
noncomputable def M8 (c:Addr) (qual:Str):HO:=.ext fun h=>h.CodeRec (.ref c) qual
theorem Vu {P:Program} {w:World} {H:Hp} {h:Heap} {c:Addr} {qual:Str} (g:h.CodeRec (.ref c) qual):By P w H h c (M8 c qual):=by
 refine ⟨g,?_,fun h1 h2 g1 k=>?_⟩
 ·obtain ⟨c',o,vs,t,e,q,r⟩:=g
  cases e
  exact ⟨o,q⟩
 ·obtain ⟨c',o,vs,t,e,q,r⟩:=g1
  cases e
  exact ⟨_,o,vs,t,rfl,k _ q,r⟩
noncomputable def Mi (H:Hp) (P:Addr) (pos:Pos) (qual:Str):Prop:=H P=some (.tbl #[]) \/ ∃ c',H P=some (.tbl #[rawInt pos.line,rawInt pos.col,.ref c'])/\H c'=some (M8 c' qual)
theorem Mi.same {H H':Hp} {P:Addr} {pos:Pos} {qual:Str} (t:Mi H P pos qual) (s:Aq H H'):Mi H' P pos qual:=by
 rcases t with t | ⟨c',t1,t2⟩
 ·exact .inl (s _ _ t)
 ·exact .inr ⟨c',s _ _ t1,s _ _ t2⟩
structure HH (mg:Str->Option Value) (base:Heap) (c P:Addr):Prop where
 hd:PySem.W.CodeHd base c P
 bm:∃ bm o,mg "__builtins__" = some (.ref bm)/\bm ≠ builtinsNs/\base.get? bm=some o/\o.cls=.type "module" /\ o.dict=some builtinsNs/\o.data=.plain
noncomputable def Uj (t:Sq.T3):Sq.T2:=(t.2.1,t.1)
noncomputable def VF (K:PySem.W.Frag) (P:Addr) (pos:Pos) (qual:Str) (te:TE):TE:=fun σ H Q=>te σ H fun v H1=>∃ (a:Addr) (ts:List Sq.T3) (vs:List V),v=.ref a/\CZ K H1 a vs/\Paired (fun t y=>TupAt H1 (Gm t) y) ts vs/\vs.length<64/\Mi H1 P pos qual /\
 ∀ (p:Addr) (ix:List Nat) (H2:Hp),H1 p=none->H2 p=none->(∀ b o,b ≠ P->H1 b=some o->H2 b=some o)->Mi H2 P pos qual->ix.Perm (List.range vs.length) ->
  ix.Pairwise (fun i j=>Sq.Ew (Uj (ts.getD j (0,0,0))) (Uj (ts.getD i (0,0,0)))=false)->Q (.ref p) (upd H2 p (.lst (ix.map fun i=>vs.getD i .non)))
section
variable {X:Cx} {pins:List (Addr × Obj)} {σ:St} {H:Hp} {s:Shared}
theorem Inv.grow {P c':Addr} {ps:Array Value} {qual:Str} {h':Heap} {tk:Nat} {pos:Pos} (I:Inv X pins σ H s) (hP:H P=some (.tbl #[])) (hx:Heap.ExtBut P s.heap h') (hge:s.heap.objs.size<=c') (hrec:h'.CodeRec (.ref c') qual)
  (htb:h'.get? P=some (PySem.W.tabObj #[rawInt pos.line,rawInt pos.col,.ref c'])) (o:Obj) :
  Inv X pins σ (upd (upd H c' (M8 c' qual)) P (.tbl #[rawInt pos.line,rawInt pos.col,.ref c'])) { s with heap:=h'.push o,toks:=tk }:=by
 have hn:H c'=none:=I.hok.fresh hge
 have eP:s.heap.get? P=some (PySem.W.tabObj #[]):=I.hok P _ hP
 have hcP:c' ≠ P:=fq (ay (Heap.lt_size eP) hge)
 have kp:∀ b u,b ≠ P->s.heap.get? b=some u->(h'.push o).get? b=some u:=fun b u hb e=>Heap.get?_push_of_some _ (hx b u hb e)
 have old:∀ {b:Addr} {u:HO},b ≠ P->H b=some u->upd (upd H c' (M8 c' qual)) P (.tbl #[rawInt pos.line,rawInt pos.col,.ref c']) b=some u:=fun {b u} hb e=>by
  rw [Am hb,Am (Av e hn)]
  exact e
 refine I.un ⟨fun b u q n _ _=>kp b u (fun z=>by rw [z,hP] at n; cases n) q,fun b u q n _ _=>⟨u.slots,kp b u (fun z=>by rw [z,hP] at n; cases n) q⟩,fun b u q n _=>?_,fun b u q _=>?_,fun b xs q=>old (fun z=>by rw [z,hP] at q; cases q) q,fun b u xs q=>old (fun z=>by rw [z,hP] at q; cases q) q,fun b ps q=>?_⟩ fun b u e=>?_
 ·have hb:b ≠ P:=fun z=>by rw [z,hP] at n; cases n
  rw [Am hb,Am (aS (ay (Heap.lt_size q) hge))]
  exact n
 ·by_cases hb:b=P
  ·subst hb
   exact ⟨_,Heap.get?_push_of_some _ htb⟩
  ·exact ⟨u,kp b u hb q⟩
 ·by_cases hb:b=P
  ·subst hb
   rw [hP] at q
   cases q
   exact ⟨#[rawInt pos.line,rawInt pos.col,.ref c'],by rw [Ag]; rfl⟩
  ·exact ⟨#[],by rw [old hb q]; simp⟩
 ·by_cases hb:b=P
  ·subst hb
   rw [Ag] at e
   cases e
   exact Heap.get?_push_of_some _ htb
  ·rw [Am hb] at e
   by_cases hc:b=c'
   ·subst hc
    rw [Ag] at e
    cases e
    exact Vu (hrec.push o)
   ·rw [Am hc] at e
    refine (I.hok b u e).stay (fun d v hd q=>kp d v ?_ q) (fun d q=>old (fun z=>by rw [z,hP] at q; cases q) q) fun d xs q=>old (fun z=>by rw [z,hP] at q; cases q) q
    rcases hd with rfl | hd
    ·exact hb
    ·exact fun z=>by rw [z,hP] at hd; cases hd
end
section
variable {X:Cx} {c P:Addr} {e:Expr} {te:TE} {x:Str} {params:Arguments} {scope:Scope} {p pos kp lpos p1 q1 w1 p2 q2 w2 tp:Pos} {j1 j2 kk:Nat}
theorem PQ (hcode:X.env.code=.ref c) (T:HH X.mg X.base c P) (hr:BW 0 X.A) (hg:Gl X "sorted") (hm:X.mg "sorted" = none) (he:PE X e te)
  (hdef:defaultsOf params X.env=([],[])) (hcl:closureFor scope X.env=pure [])
  (hbind:∀ (pm cdv ct v:Value),bindArgs (PySem.W.kla_fn "<lambda>" (X.env.qual ++ "<lambda>") params (Sq.Fj x p1 q1 w1 p2 q2 w2 tp j1 j2 kk) scope [] pm cdv ct) ⟨[v],[]⟩=pure [(x,v)])
  (hloc:scope.names.lookup x=some .local) (hcell:∀ y∈scope.names,y.2 ≠ .cell) (hco:scope.isCoroutine=false) (hgen:scope.isGenerator=false) (hk:scope.kind=.function) (hdb:(x == ("__debug__" : Str))=false)
  (hst:starEach [e] X.env=[(false,eval e X.env)]) :
  PE X (.Call (.Name "sorted" p) [e] [⟨some "key",.Lambda params (Sq.Fj x p1 q1 w1 p2 q2 w2 tp j1 j2 kk) scope lpos,kp⟩] pos) (VF X.K P lpos (X.env.qual ++ "<lambda>") te):=by
 intro pins s σ H Q I h
 refine wpAny_Call_Name_kw (Ft I hg hm eI ?_)
 have hba:backTo pos (starEach [e] X.env)=[(false,eval e X.env)]:=by rw [hst]; rfl
 refine PyProof.Rows.callWith_kw ?_ (by rw [hba]; rfl) (by rw [hba]; rfl)
 rw [hba]
 refine Calls.spliced_cons (Bq (he pins s σ H _ I h) fun u s1 ⟨v,H1,I1,rv,a,ts,vs,ev,hS,hp,h64,tb,q⟩=>Calls.spliced_nil ?_)
 subst ev
 obtain rfl:u=Value.ref a:=rv
 refine PyProof.Rows.kws_cons (PySem.W.kla_eval hdef ?_)
 have fin:∀ (f:Addr) (cdv ct:Value) (H2:Hp) (s2:Shared),Inv X pins σ H2 s2->(∃ o:Obj,s2.heap.get? f=some o/\o.data=.func (PySem.W.kla_fn "<lambda>" (X.env.qual ++ "<lambda>") params (Sq.Fj x p1 q1 w1 p2 q2 w2 tp j1 j2 kk) scope [] ((X.mg "__name__").getD .none) cdv ct)) ->
   s2.heap.CodeRec cdv (X.env.qual ++ "<lambda>")->(∀ b o,b ≠ P->H1 b=some o->H2 b=some o)->Mi H2 P lpos (X.env.qual ++ "<lambda>")->(∀ b,s2.heap.objs.size<=b->H1 b=none) ->
   wpAny (model X.prog X.w) X.A (call (.builtin "sorted") [.ref a] [(Str.ofString "key",.ref f)]) (EP X pins σ Q) X.xe s2:=fun f cdv ct H2 s2' I2 hf hcd kH tb2 fr=>by
  obtain ⟨of,hof,hdf⟩:=hf
  have hP0:∀ {b:Addr} {u:HO},H1 b=some u->(∀ ps,u ≠ .tbl ps)->H2 b=some u:=fun {b u} e hne=>kH b u (fun z=>by
   rcases tb with t | ⟨c',t,_⟩
   ·rw [z,t] at e; exact hne _ (Option.some.inj e).symm
   ·rw [z,t] at e; exact hne _ (Option.some.inj e).symm) e
  have hS2:CZ X.K H2 a vs:=by
   rcases hS with (hS | ⟨o,hS⟩) | hS
   ·exact .inl (.inl (hP0 hS (fun _ z=>by cases z)))
   ·exact .inl (.inr ⟨o,hP0 hS (fun _ z=>by cases z)⟩)
   ·exact .inr hS
  have hp2:Paired (fun t y=>TupAt H2 (Gm t) y) ts vs:=Paired.FJ hp fun t y ⟨T1,e1,e2⟩=>⟨T1,e1,hP0 e2 (fun _ z=>by cases z)⟩
  obtain ⟨its,rvs,pl,hz⟩:=I2.list hS2
  have lv:=rvs.length
  have lt:=hp2.length
  have hfl:f<s2'.heap.objs.size:=Heap.lt_size hof
  refine Sx.Tt (ts:=ts.map Uj) pl.isList (by rw [ag]; omega) (by omega) (fun s3 kS hs3 hkS i v t hv ht=>?_) fun D h' tk cc ix le k e pm pw=>?_
  ·obtain ⟨h3,rfl,k3⟩:=hs3
   rw [ax] at ht
   obtain ⟨t3,ht3,rfl⟩:=aE.mp ht
   obtain ⟨y,hy,ry⟩:=GZ rvs hv
   obtain ⟨t',ht',hta⟩:=Cg hp2 hy
   rw [ht3] at ht'
   cases ht'
   have tr:=Pg I2 hta ry
   intro h4 tk4 k4 z4 R hR
   have kk4:∀ b o,s2'.heap.get? b=some o->h4.get? b=some o:=fun b o e=>k4 b o (aS (ay (Heap.lt_size e) hkS)) (k3 b o e)
   refine Sq.Ss (s:={ s2' with heap:=h4,toks:=tk4 }) (by have:=hr.depth; exact this) (kk4 _ _ hof) hdf (hcd.keeps kk4) (I2.nolimit.keeps kk4) (hbind _ _ _) hloc hcell hco hgen hk hdb (tr.keep fun b o e _=>kk4 b o e) fun kv h2 tk2 g1 g2 g3=>hR kv h2 tk2 g1 g2 g3
  ·have hn:H2 D=none:=I2.hok.fresh le
   have li:its.length=vs.length:=by omega
   rw [li] at pm
   have hb:∀ i∈ix,i<vs.length:=fun i hi=>dv.mp (pm.mem_iff.mp hi)
   have vv:Vals (ix.map fun i=>vs.getD i .non) (ix.map fun i=>its.getD i .none):=by
    clear e pm pw
    induction ix with
    | nil=>exact .nil
    | cons i ix ih =>
     refine .cons ?_ (ih fun j hj=>hb j (av _ hj))
     have hi:=hb i (am ..)
     have hi':i<its.length:=by omega
     obtain ⟨x,hx,rx⟩:=GZ rvs (ae hi')
     show RelV (vs.getD i V.non) (its.getD i Value.none)
     rw [bX,bX,hx,ae hi']
     exact rx
   have zl:(ix.map fun i=>vs.getD i V.non).length<=sizeLine:=by
    rw [ag,pm.length_eq,cS,sizeLine_eq]
    omega
   have gd:∀ i,i<vs.length->(ts.map Uj).getD i (0,0)=Uj (ts.getD i (0,0,0)):=fun i hi=>by
    rw [List.getD_eq_getElem?_getD,List.getD_eq_getElem?_getD,List.getElem?_map,List.getElem?_eq_getElem (show i<ts.length by omega)]
    rfl
   have pw':ix.Pairwise (fun i j=>Sq.Ew (Uj (ts.getD j (0,0,0))) (Uj (ts.getD i (0,0,0)))=false):=by
    refine ic (fun {i j} hi hj hh=>?_) pw
    rw [gd i (hb i hi),gd j (hb j hj)] at hh
    exact hh
   exact ⟨.ref D,_,I2.laid (o:=.lst (ix.map fun i=>vs.getD i .non)) (t':=tk) k le ⟨zl,_,cc,vv,e⟩,rfl,q D ix H2 (fr D le) hn kH tb2 pm pw'⟩
 have hns:=X.env
 obtain ⟨bm,ob,b1,b2,b3,b4,b5,b6⟩:=T.bm
 have glob:=I1.mod.glob.keeps I1.bk
 have b3':=I1.bk _ _ b3
 have hbG:bm ≠ mainGlobals:=fun q=>by
  obtain ⟨o,es,ep,e,hd,_⟩:=glob
  rw [q,e] at b3'; cases b3'; rw [hd] at b6; cases b6
 rcases tb with t0 | ⟨c',t1,t2⟩
 ·have eP:s1.heap.get? P=some (PySem.W.tabObj #[]):=I1.hok P _ t0
  have hgP:mainGlobals ≠ P:=fun q=>by
   obtain ⟨o,es,ep,e,hd,_⟩:=glob
   rw [q,eP] at e; cases e; cases hd
  have hbP:bm ≠ P:=fun q=>by
   rw [q,eP] at b3'; cases b3'; cases b4
  refine PySem.W.kla_makeFunction (ps:=#[]) (mg:=X.mg) hcl I1.ok.glob glob hcode (T.hd.keeps I1.bk) eP trivial rfl hgP ⟨bm,ob,b1,b2,hbG,hbP,b3',b4,b5,b6⟩ fun c' ctv h' tk hx hge hlt hrec htb=>?_
  refine PyProof.Rows.kws_nil ?_
  have I2:=I1.grow (pos:=lpos) (tk:=tk) (ps:=#[]) t0 hx hge hrec (by simpa using htb) (PySem.W.kla_obj "<lambda>" (X.env.qual ++ "<lambda>") params (Sq.Fj x p1 q1 w1 p2 q2 w2 tp j1 j2 kk) scope [] ((X.mg "__name__").getD .none) c' ctv)
  have hcP:c' ≠ P:=fq (ay (Heap.lt_size eP) hge)
  refine fin h'.objs.size (.ref c') ctv _ _ I2 ⟨_,Heap.get?_push_size _ rfl,rfl⟩ (hrec.push _) (fun b o hb e=>by rw [Am hb,Am (Av e (I1.hok.fresh hge))]; exact e) (.inr ⟨c',Ag,by rw [Am hcP,Ag]⟩) (fun b hb=>I1.hok.fresh ?_)
  have hb':(h'.push (PySem.W.kla_obj "<lambda>" (X.env.qual ++ "<lambda>") params (Sq.Fj x p1 q1 w1 p2 q2 w2 tp j1 j2 kk) scope [] ((X.mg "__name__").getD .none) c' ctv)).objs.size<=b:=hb
  rw [Heap.size_push] at hb'
  omega
 ·have eP:s1.heap.get? P=some (PySem.W.tabObj #[rawInt lpos.line,rawInt lpos.col,.ref c']):=I1.hok P _ t1
  have hbP:bm ≠ P:=fun q=>by
   rw [q,eP] at b3'; cases b3'; cases b4
  have hrec:s1.heap.CodeRec (.ref c') (X.env.qual ++ "<lambda>"):=(I1.hok c' _ t2).1
  refine PySem.W.kla_makeFunctionHit (mg:=X.mg) (cv:=.ref c') hcl I1.ok.glob glob hcode (T.hd.keeps I1.bk) eP (by simp [TriplesOk,rawInt]) ?_ ⟨bm,ob,b1,b2,hbG,hbP,b3',b4,b5,b6⟩ fun ctv h' tk kx hge=>?_
  ·simp [codeAmong,rawInt]
  refine PyProof.Rows.kws_nil ?_
  refine fin h'.objs.size (.ref c') ctv H1 _ (I1.kept (t':=tk) fun b o e=>Heap.get?_push_of_some _ (kx b o e)) ⟨_,Heap.get?_push_size _ rfl,rfl⟩ ((hrec.keeps kx).push _) (fun b o _ e=>e) (.inr ⟨c',t1,t2⟩) (fun b hb=>I1.hok.fresh ?_)
  have hb':(h'.push _).objs.size<=b:=hb
  rw [Heap.size_push] at hb'
  omega
end
end L2
namespace L2
open PySem PySem.Spec PyProof.Rows
noncomputable def gD (Ps:List Addr) (H:Hp):Prop:=∀ b,H b=none \/ (∃ o xs,H b=some (.frz o (.lst xs))) \/ (b∈Ps/\H b=some (.tbl #[]))
theorem Ra {P:Program} {w:World} {K:PySem.W.Frag} {mg mb:Str->Option Value} {CX:QF} {k:Nat} {fa a:Addr} {fd:FuncData} {x:Str} {sp:Sp} {s₁:Shared} {vs:List Value} {ns:List Int} {tabs:List (Addr × Addr)}
  (KX:K.In s₁.heap) (hns:s₁.heap.Ns mainGlobals mg) (hb:s₁.heap.Ns builtinsNs mb) (hbb:∀ x:Str,x ≠ "__name__"->mb x=bootBuiltins x) (hlim:s₁.heap.NoLimit) (hg:s₁.gens = #[])
  (hT:PySem.W.TabsAt tabs s₁.heap) (hnt:PySem.W.noTabs K=true) (hbm:∃ bm o,mg "__builtins__" = some (.ref bm)/\bm ≠ builtinsNs/\s₁.heap.get? bm=some o/\o.cls=.type "module" /\ o.dict=some builtinsNs/\o.data=.plain)
  (ha:s₁.heap.get? a=some { cls:=.type "list",data:=.seq vs.toArray }) (hi:IntsAre vs ns) (hl:ns.length<=sizeLine) (hr:BW k callerA)
  (F:∀ base:Heap,K.In base->base.Ns mainGlobals mg->(∀ q∈tabs,HH mg base q.1 q.2)->BP P w K mg base CX k fa fd [x] sp) (hbind:∀ (s:Shared) (u:Value),BindsTo s fd ⟨[u],[]⟩ [(x,u)])
  (hsp:∀ H:Hp,(∀ q∈tabs,H q.2=some (.tbl #[]))->CZ K H a (ns.map V.int)->sp [.ref a] H (fun v _=>v=.bl true) fun _ _ _=>False)
  (hCX:∀ H e s',CX [] H s₁ (fun _ _ _=>False) e s'->False) :
  codeAny (model P w) callerA (.call (.ref fa) ⟨[.ref a],[]⟩) (fun r s'=>r=.ok (.ret (.bool true))/\OldK s₁.heap s'.heap/\s'.os=s₁.os/\AllBare s'.gens) s₁:=by
 have rv:=K3 hi
 have lenV:=hi.length
 have tabP:∀ b,b∈tabs.map (·.2)->s₁.heap.get? b=some (PySem.W.tabObj #[]):=fun b hb=>by
  obtain ⟨q,hq,rfl⟩:=bt.mp hb
  exact (hT q hq).2
 have aP:a ∉ tabs.map (·.2):=fun z=>by
  have:=tabP a z
  rw [ha] at this
  cases this
 have core:∀ H:Hp,gD (tabs.map (·.2)) H->(∀ q∈tabs,H q.2=some (.tbl #[]))->CZ K H a (ns.map V.int)->HF P w H s₁.heap->(∀ b,H b ≠ none->b=a \/ b∈tabs.map (·.2))->(H a ≠ none->K.lookup a=none) ->
   codeAny (model P w) callerA (.call (.ref fa) ⟨[.ref a],[]⟩) (fun r s'=>r=.ok (.ret (.bool true))/\OldK s₁.heap s'.heap/\s'.os=s₁.os/\AllBare s'.gens) s₁:=by
  intro H hO hTH hS hok hA hK
  have base_of:∀ {b:Addr} {o:Obj},s₁.heap.get? b=some o->H b=none->(KN s₁.heap H).get? b=some o:=fun e n=>Te e n
  have noA:∀ {b:Addr} {o:Obj} {es:Array DictEntry} {ep:Nat},s₁.heap.get? b=some o->o.data=.dict es ep->H b=none:=fun {b o es ep} e d=>by
   cases q:H b with
   | none=>rfl
   | some u =>
    rcases hA b (by rw [q]; simp) with e' | e'
    ·subst e'
     rw [ha] at e; cases e
     have d':Data.seq vs.toArray _=Data.dict es ep:=d
     cases d'
    ·rw [tabP b e'] at e
     cases e
     cases d
  have nsK:∀ {b:Addr} {m:Str->Option Value},s₁.heap.Ns b m->(KN s₁.heap H).Ns b m:=fun {b m} ⟨o,es,ep,e,d,r⟩=>⟨o,es,ep,base_of e (noA e d),d,r⟩
  have hKb:K.In (KN s₁.heap H):=fun b o e=>base_of (KX b o e) (by
   cases q:H b with
   | none=>rfl
   | some u =>
    rcases hA b (by rw [q]; simp) with e' | e'
    ·subst e'
     rw [hK (by rw [q]; simp)] at e; cases e
    ·have e2:=KX b o e
     rw [tabP b e'] at e2
     have h2:=fh.mp hnt (b,o) (PySem.W.mem_of_lookupK e)
     cases e2
     exact absurd (show false=true from h2) Bool.false_ne_true)
  have hM:Mod K mg (KN s₁.heap H):=⟨hKb,nsK hns,⟨mb,nsK hb,hbb⟩,let ⟨mc,h1,h2⟩:=hlim; ⟨mc,nsK h1,h2⟩⟩
  have e0:Ng P w K mg (KN s₁.heap H) callerA [] s₁ H:=⟨rfl,hM,fun b o e=>Wn e,Nat.le_of_eq (Qz _ _),trivial,fun b hb=>absurd (show b∈([]:List Addr) from hb) (by simp),hok,.of_eq hg⟩
  have tk:∀ q∈tabs,HH mg (KN s₁.heap H) q.1 q.2:=fun q hq=>by
   have plain:∀ {b:Addr} {o:Obj},s₁.heap.get? b=some o->(∀ xs n,o.data ≠ .seq xs n)->o.cls ≠ .none->H b=none:=fun {b o} e h1 h2=>by
    cases z:H b with
    | none=>rfl
    | some u =>
     rcases hA b (by rw [z]; simp) with e' | e'
     ·subst e'
      rw [ha] at e; cases e
      exact absurd rfl (h1 _ _)
     ·rw [tabP b e'] at e
      cases e
      exact absurd rfl h2
   obtain ⟨o,vs',file,tf,flags,tg,inF,text,tt,e1,r1,r2,r3⟩:=(hT q hq).1
   obtain ⟨bm,ob,b1,b2,b3,b4,b5,b6⟩:=hbm
   refine ⟨⟨o,vs',file,tf,flags,tg,inF,text,tt,base_of e1 (plain e1 (fun xs n z=>by rw [r2] at z; cases z) (fun z=>by rw [r1] at z; cases z)),r1,r2,r3⟩,bm,ob,b1,b2,base_of b3 (plain b3 (fun xs n z=>by rw [b6] at z; cases z) (fun z=>by rw [b4] at z; cases z)),b4,b5,b6⟩
  refine codeAny_mono ((F _ hKb (nsK hns) tk).run callerA [] s₁ H ⟨[.ref a],[]⟩ [.ref a] [.ref a] _ _ hr e0 (hbind s₁ (.ref a)) (.cons rfl .nil) (hsp H hTH hS)) fun r s' h=>?_
  cases r with
  | error e=>exact (hCX H e s' h).elim
  | ok fl =>
   cases fl with
   | next=>exact False.elim h
   | brk=>exact False.elim h
   | cont=>exact False.elim h
   | ret u =>
    obtain ⟨v,H',os,bare,un,hok',r',q⟩:=h
    have q':v=.bl true:=q
    subst q'
    obtain rfl:u=Value.bool true:=r'
    have grown:∀ b o,b∈tabs.map (·.2)->s₁.heap.get? b=some o->isCodeTable s₁.heap b/\o=PySem.W.tabObj #[]/\∃ ps,s'.heap.get? b=some (PySem.W.tabObj ps):=fun b o hb e=>by
     obtain ⟨q,hq,rfl⟩:=bt.mp hb
     have e2:=(hT q hq).2
     rw [e] at e2
     obtain ⟨more,hm⟩:=un.tbls _ _ (hTH q hq)
     exact ⟨((hT q hq).1.tab (hT q hq).2).isCodeTable,Option.some.inj e2,_,hok' _ _ hm⟩
    have keep:∀ b o,b ∉ tabs.map (·.2)->s₁.heap.get? b=some o->s'.heap.get? b=some o:=fun b o hb e=>by
     cases q:H b with
     | none=>exact un.keep b o e q (by intro z; exact absurd (show b∈([]:List Addr) from z) (by simp)) (by simp)
     | some u =>
      rcases hO b with z | ⟨ob,xs,z⟩ | ⟨z,_⟩
      ·rw [q] at z; cases z
      ·have z2:=un.frzs b ob _ z
       obtain ⟨e1,_⟩:=hok b _ z
       obtain ⟨e2,_⟩:=hok' b _ z2
       rw [e] at e1; cases e1
       exact e2
      ·exact absurd z hb
    refine ⟨rfl,⟨fun b o e=>?_,fun b o e=>?_⟩,os,bare⟩
    ·by_cases hb:b∈tabs.map (·.2)
     ·obtain ⟨ht,rfl,ps,hP⟩:=grown b o hb e
      exact .inr (.inl ⟨ht,rfl,#[],ps,rfl,by rw [Array.empty_append]; exact hP⟩)
     ·exact .inl (keep b o hb e)
    ·by_cases hb:b∈tabs.map (·.2)
     ·obtain ⟨_,_,ps,hP⟩:=grown b o hb e
      exact ⟨_,hP⟩
     ·exact ⟨o,keep b o hb e⟩
 have hsplit:∀ (H0:Hp),(∀ b u,H0 b=some u->b=a)->∀ q∈tabs,(fun b=>if b∈tabs.map (·.2) then some (HO.tbl #[]) else H0 b) q.2=some (.tbl #[]):=fun H0 _ q hq=>if_pos (eJ hq)
 cases hk:K.lookup a with
 | some o =>
  have e:=KX a o hk
  rw [ha] at e
  cases e
  refine core (fun b=>if b∈tabs.map (·.2) then some (.tbl #[]) else none) (fun b=>?_) (hsplit (fun _=>none) (fun b u z=>by cases z)) (.inr ⟨_,vs.toArray,_,hk,rfl,rfl,rfl,by rw [List.size_toArray,lenV]; exact hl,by simpa using rv⟩) (fun b u z=>?_) (fun b z=>?_) fun z=>absurd (if_neg aP) z
  ·by_cases hb:b∈tabs.map (·.2)
   ·exact .inr (.inr ⟨hb,if_pos hb⟩)
   ·exact .inl (if_neg hb)
  ·by_cases hb:b∈tabs.map (·.2)
   ·have z':=(if_pos hb).symm.trans z
    cases z'
    exact tabP b hb
   ·have z':=(if_neg hb).symm.trans z
    cases z'
  ·by_cases hb:b∈tabs.map (·.2)
   ·exact .inr hb
   ·exact absurd (if_neg hb) z
 | none =>
  refine core (fun b=>if b∈tabs.map (·.2) then some (.tbl #[]) else if b=a then some (.frz { cls:=.type "list",data:=.seq vs.toArray } (.lst (ns.map V.int))) else none) (fun b=>?_) (fun q hq=>if_pos (eJ hq)) (.inl (.inr ⟨{ cls:=.type "list",data:=.seq vs.toArray },(if_neg aP).trans (if_pos rfl)⟩)) (fun b u z=>?_) (fun b z=>?_) fun _=>hk
  ·by_cases hb:b∈tabs.map (·.2)
   ·exact .inr (.inr ⟨hb,if_pos hb⟩)
   ·by_cases hc:b=a
    ·exact .inr (.inl ⟨_,_,(if_neg hb).trans (if_pos hc)⟩)
    ·exact .inl ((if_neg hb).trans (if_neg hc))
  ·by_cases hb:b∈tabs.map (·.2)
   ·have z':=(if_pos hb).symm.trans z
    cases z'
    exact tabP b hb
   ·have z1:=(if_neg hb).symm.trans z
    by_cases hc:b=a
    ·have z':=(if_pos hc).symm.trans z1
     cases z'
     subst hc
     exact ⟨ha,by rw [ag]; exact hl,vs,_,rv,ha⟩
    ·have z':=(if_neg hc).symm.trans z1
     cases z'
  ·by_cases hb:b∈tabs.map (·.2)
   ·exact .inr hb
   ·by_cases hc:b=a
    ·exact .inl hc
    ·exact absurd ((if_neg hb).trans (if_neg hc)) z
theorem VG {l:PySem.W.OpenLaw} {n k:Nat} {q:Program} {loose:List Str} {XP:(Str->Option Value)->Heap->Prop} {YP:World->Heap->Prop} {d:DefRec} {K:Params->PySem.W.Frag} {CX:World->QF} {sp:World->Sp} {x:Str} {tabs:List (Addr × Addr)}
  (hn:l.most=some n) (hn2:n<=sizeLine) (hdf:d.params.defaults=[]) (hr:BW k callerA)
  (hY:∀ (w:World) (h:Heap),YP w h->(K w.params).In h) (hnt:∀ w:World,PySem.W.noTabs (K w.params)=true)
  (hT:∀ (w:World) (mg mb:Str->Option Value) (mean:ExcName->Option Value) (h:Heap),Top q (PySem.W.looseW q loose) mean mg mb h->(K w.params).In h->PySem.W.TabsAt tabs h)
  (F:∀ (w:World) (mg:Str->Option Value) (fa:Addr) (h:Heap),(K w.params).In h->h.Ns mainGlobals mg->mg d.name=some (.ref fa) ->
   ∃ fd:FuncData,(∀ (s:Shared) (u:Value),BindsTo s fd ⟨[u],[]⟩ [(x,u)]) /\
    ∀ base:Heap,(K w.params).In base->base.Ns mainGlobals mg->(∀ q∈tabs,HH mg base q.1 q.2)->BP l.prog w (K w.params) mg base (CX w) k fa fd [x] (sp w))
  (hsp:∀ (w:World) (H:Hp) (a:Addr) (ns:List Int),ns.length<=n->(∀ q∈tabs,H q.2=some (.tbl #[]))->CZ (K w.params) H a (ns.map V.int)->sp w [.ref a] H (fun v _=>v=.bl true) fun _ _ _=>False)
  (hCX:∀ (w:World) (H:Hp) (s:Shared) (e:Value) (s':Shared),CX w [] H s (fun _ _ _=>False) e s'->False) :
  PySem.W.WalkO q loose XP YP l.row.toRowW d [] (fun f vs=>PySem.call f vs):=by
 refine Att.My hn hdf fun w s₀ s₁ mg mb fa o pm cd doc a vs ns G Y ho hd hcd hmg hobj hints hlen hg=>?_
 have KX:=hY w _ Y
 obtain ⟨fd,hb,hF⟩:=F w mg fa _ KX G.T.g hmg
 obtain ⟨bm,ob,b1,b2,b3,b4,b5,b6⟩:=G.T.bmain
 exact Ra KX G.T.g G.T.b G.T.builtins G.T.nolimit hg (hT w mg mb _ _ G.T KX) (hnt w) ⟨bm,ob,b1,b2,b3,b4,b5,b6⟩ hobj hints (br hlen hn2) hr hF hb (fun H hTH hS=>hsp w H a ns hlen hTH hS) fun H e s'=>hCX w H s₁ e s'
end L2
namespace Bw
noncomputable abbrev Tr:=Int × Int × Int
noncomputable abbrev Dr:=List Tr
noncomputable def Chain:Int->Dr->Prop
 | _,[]=>True
 | t,x::r=>x.1=t/\x.1<x.2.1/\Chain x.2.1 r
noncomputable def cnt (x:Tr):Nat:=(x.2.1 - x.1).toNat
noncomputable def tk (P:Int):Dr->List Int
 | []=>[]
 | x::r=>List.replicate (cnt x) (x.2.2 - P)++tk P r
theorem Vw (P:Int):∀ (a b:Dr),tk P (a++b)=tk P a++tk P b
 | [],b=>rfl
 | x::a,b=>by
  show List.replicate (cnt x) (x.2.2 - P)++tk P (a++b)=List.replicate (cnt x) (x.2.2 - P)++tk P a++tk P b
  rw [Vw P a b,hU]
noncomputable def stp (e x:Int):Int:=max 0 (e+x)
noncomputable def EF (e:Int) (W:List Int):Int:=W.foldl stp e
noncomputable abbrev E (W:List Int):Int:=EF 0 W
theorem Hu (e:Int) (A B:List Int):EF e (A++B)=EF (EF e A) B:=hV
theorem Pq:∀ (W:List Int) {e:Int},0<=e->0<=EF e W
 | [],e,h=>h
 | x::r,e,h=>Pq r (by unfold stp; omega)
theorem Ja (x:Int):∀ (c:Nat) {e:Int},0<=e->EF e (List.replicate c x)=max 0 (e+(c:Int) * x)
 | 0,e,h=>by show e=_; simp; omega
 | c+1,e,h=>by
  rw [List.replicate_succ',Hu,Ja x c h]
  show stp _ x=_
  unfold stp
  have e1:(((c+1:Nat):Int)) * x=(c:Int) * x+x:=by
   rw [Int.natCast_add,Int.add_mul]; simp
  rw [e1]
  by_cases hx:0<=x
  ·have:=iS (Int.natCast_nonneg c) hx
   omega
  ·omega
theorem Mp {x:Int} {k c:Nat} (h:k<=c) (hx:0<=x):(k:Int) * x<=(c:Int) * x:=Int.mul_le_mul_of_nonneg_right (by omega) hx
theorem QS {x:Int} {k:Nat} (hx:x<=0):(k:Int) * x<=0:=Int.mul_nonpos_of_nonneg_of_nonpos (by omega) hx
theorem Qp (x:Int):∀ c:Nat,(List.replicate c x).sum=(c:Int) * x
 | 0=>by simp
 | c+1=>by
  rw [fe,hZ,Qp x c,Int.natCast_add,Int.add_mul]
  simp
  omega
structure Qu (W:List Int) (b0 b1 b2 taken since:Int):Prop where
 e:E W=max 0 taken
 le:∀ t,t<=W.length->E (W.take t)<=b0
 s0:0<=since
 s1:since<=W.length
 tk:taken=W.sum - (W.take since.toNat).sum
 b:(b0=0/\b1=0/\b2=0) \/ (0<b0/\0<=b1/\b1<b2/\b2<=W.length/\b0=(W.take b2.toNat).sum - (W.take b1.toNat).sum/\E (W.take b2.toNat)=b0)
theorem Qu.start:Qu [] 0 0 0 0 0:=⟨rfl,fun t _=>by rw [List.take_nil]; exact fz _,fz _,fz _,rfl,.inl ⟨rfl,rfl,rfl⟩⟩
theorem take_left {W:List Int} (B:List Int) {t:Nat} (h:t<=W.length):(W++B).take t=W.take t:=fA h
theorem Qu.nn {W:List Int} {b0 b1 b2 taken since:Int} (I:Qu W b0 b1 b2 taken since):0<=b0:=by
 rcases I.b with h | h
 ·omega
 ·omega
theorem Qu.step {W:List Int} {b0 b1 b2 taken since:Int} (I:Qu W b0 b1 b2 taken since) {c:Nat} (hc:0<c) {x t0 s0 t1:Int}
  (h0:t0=if taken<=0 then 0 else taken) (hs:s0=if taken<=0 then (W.length:Int) else since) (h1:t1=t0+(c:Int) * x) :
  (t1 > b0->Qu (W++List.replicate c x) t1 s0 ((W.length:Int)+c) t1 s0)/\(¬ t1 > b0->Qu (W++List.replicate c x) b0 b1 b2 t1 s0):=by
 have hb:=I.nn
 have he:EF 0 W=max 0 taken:=I.e
 have hl:∀ t,t<=W.length->EF 0 (W.take t)<=b0:=I.le
 have hE:EF (E W) (List.replicate c x)=max 0 t1:=by
  rw [Ja x c (Pq W (fz 0)),he,h1,h0]
  split <;> omega
 have hEW:E (W++List.replicate c x)=max 0 t1:=by rw [show E (W++List.replicate c x)=EF (E W) (List.replicate c x) from Hu 0 _ _,hE]
 have hS:(W++List.replicate c x).sum=W.sum+(c:Int) * x:=by rw [kD,Qp]
 have hs1:0<=s0/\s0<=(W.length:Int):=by
  have:=I.s0
  have:=I.s1
  rw [hs]; split <;> omega
 have hlen:((W++List.replicate c x).length:Int)=(W.length:Int)+c:=by simp
 have hT:t1=(W++List.replicate c x).sum - ((W++List.replicate c x).take s0.toNat).sum:=by
  rw [hS,take_left _ (by omega),h1,h0,hs]
  split
  ·rw [show ((W.length:Int)).toNat=W.length by omega,List.take_length]; omega
  ·have:=I.tk
   omega
 have hle:∀ (m:Int),b0<=m->t1<=m->∀ t,t<=(W++List.replicate c x).length->E ((W++List.replicate c x).take t)<=m:=by
  intro m hm1 hm2 t ht
  by_cases htl:t<=W.length
  ·rw [take_left _ htl]
   exact kU (hl t htl) hm1
  ·have e1:(W++List.replicate c x).take t=W++List.replicate (t - W.length) x:=by
    rw [List.take_append,bq (by omega),List.take_replicate]
    congr 2
    rw [ar,cq] at ht
    omega
   rw [e1,show E (W++List.replicate (t - W.length) x)=EF (E W) (List.replicate (t - W.length) x) from Hu 0 _ _,Ja x _ (Pq W (Int.le_refl 0))]
   have hk:t - W.length<=c:=by
    rw [ar,cq] at ht
    omega
   have hEle:=hl W.length (ah _)
   rw [eD] at hEle
   by_cases hx:0<=x
   ·have:=Mp hk hx
    have:t1=max 0 taken+(c:Int) * x:=by rw [h1,h0]; split <;> omega
    omega
   ·have:=QS (x:=x) (k:=t - W.length) (by omega)
    omega
 refine ⟨fun hg=>⟨hEW,hle t1 (by omega) (fz _),hs1.1,by omega,hT,.inr ⟨by omega,hs1.1,by omega,by omega,?_,?_⟩⟩,fun hg=>⟨hEW,hle b0 (fz _) (by omega),hs1.1,by omega,hT,?_⟩⟩
 ·rw [show ((W.length:Int)+c).toNat=(W++List.replicate c x).length by simp; omega,List.take_length]
  exact hT
 ·rw [show ((W.length:Int)+c).toNat=(W++List.replicate c x).length by simp; omega,List.take_length,hEW]
  omega
 ·rcases I.b with h | ⟨g1,g2,g3,g4,g5,g6⟩
  ·exact .inl h
  ·refine .inr ⟨g1,g2,g3,by omega,?_,?_⟩
   ·rw [take_left _ (by omega),take_left _ (by omega)]; exact g5
   ·rw [take_left _ (by omega)]; exact g6
theorem Chain.at:∀ {d:Dr} {t:Int} (P:Int),Chain t d->∀ {a b:Dr} {x:Tr},d=a++x::b->x.1=t+((tk P a).length:Int)/\x.1<x.2.1
 | [],t,P,_,a,b,x,e=>by simp at e
 | y::r,t,P,⟨h1,h2,h3⟩,a,b,x,e=>by
  cases a with
  | nil =>
   obtain ⟨rfl,rfl⟩:y=x/\r=b:=by simpa using e
   exact ⟨by simp [tk]; omega,h2⟩
  | cons z a =>
   obtain ⟨rfl,rfl⟩:y=z/\r=a++x::b:=by simpa using e
   have ih:=Chain.at P h3 rfl
   refine ⟨?_,ih.2⟩
   show x.1=t+((List.replicate (cnt y) (y.2.2 - P)++tk P a).length:Int)
   rw [ar,cq]
   unfold cnt
   omega
noncomputable def fl (cap:Int):Int->List Int->Option Nat
 | _,[]=>none
 | e,x::r=>if e+x > cap then some 0 else (fl cap (stp e x) r).map (· + 1)
noncomputable def good (cap e x:Int) (c:Nat):Int:=if cap - e - x<0 then 0 else if -x ≥ 0 then (c:Int) else min (c:Int) ((cap - e) / x)
noncomputable def cut (T:Int) (d:Dr):Dr:=(d.filter fun x=>decide (x.1<=T)).map fun x=>(x.1,min x.2.1 (T+1),x.2.2)
theorem We (P:Int) (d:Dr) (x:Tr):tk P (d++[x])=tk P d++List.replicate (cnt x) (x.2.2 - P):=by
 rw [Vw]
 show _++(List.replicate (cnt x) (x.2.2 - P)++[])=_
 simp
noncomputable def ps:Int->List Int->List Int
 | s,[]=>[s]
 | s,x::r=>s::ps (s+x) r
structure nD (W:List Int) (t:Nat) (low due:Int):Prop where
 e:(W.take t).sum - low=E (W.take t)
 le:∀ s,s<=t->E (W.take s)<=due
 ex:∃ s,s<=t/\E (W.take s)=due
end Bw
namespace Bw
end Bw
namespace Bw
noncomputable def ov (f b:Int) (x:Tr):Int:=max 0 (min x.2.1 b - max x.1 f)
end Bw
namespace Bw
end Bw
namespace Bw
end Bw
namespace Bw
end Bw
namespace Bw
open PySem L2 Og
theorem S6 (ns:List Int) (lo hi:Option Int):∃ ms:List Int,El (ns.map V.int) lo hi=ms.map V.int/\ms.length<=ns.length:=by
 unfold El
 refine ⟨(ns.drop (HT.Dj (ns.map V.int).length 0 lo)).take (HT.Dj (ns.map V.int).length (ns.map V.int).length hi - HT.Dj (ns.map V.int).length 0 lo),?_,?_⟩
 ·rw [← List.map_drop,← List.map_take]
 ·rw [ci,gE]
  omega
theorem Ff {ns:List Int} {i:Int} (h0:0<=i) (h1:i<ns.length):∃ c,ns[i.toNat]? = some c/\c∈ns/\Mf (ns.map V.int) i=some (.int c):=by
 have hlt:i.toNat<ns.length:=by omega
 refine ⟨ns[i.toNat],ae hlt,eR hlt,?_⟩
 have e:(ns.map V.int)[i.toNat]? = some (.int ns[i.toNat]):=by rw [ax,ae hlt]; rfl
 have:=Af e
 rw [show ((i.toNat:Nat):Int)=i by omega] at this
 exact this
theorem Gq {α:Type} {xs:List α} {v:α}:Mf (xs++[v]) (-1)=some v:=by
 unfold Mf Vc
 rw [if_neg (by decide),if_pos (by simp; omega)]
 simp
 rw [show (-1+((xs.length:Int)+1)).toNat=xs.length by omega]
 simp
theorem Sw {n:Nat} {i:Int} (h0:0<=i) (h1:i<n):Vc n i=some i.toNat:=by unfold Vc; rw [if_pos h0,if_pos h1]
noncomputable abbrev Cm (x:Tr):List V:=[.int x.1,.int x.2.1,.int x.2.2]
structure H_ (H:Hp) (a:Addr) (d:Dr) (ys:List V):Prop where
 l:H a=some (.lst ys)
 p:Paired (fun x v=>TupAt H (Cm x) v) d ys
theorem H_.mono {H H':Hp} {a:Addr} {d:Dr} {ys:List V} (h:H_ H a d ys) (s:Aq H H'):H_ H' a d ys:=⟨s _ _ h.l,Ax s h.p⟩
theorem H_.len {H:Hp} {a:Addr} {d:Dr} {ys:List V} (h:H_ H a d ys):d.length=ys.length:=h.p.length
theorem H_.at {H:Hp} {a:Addr} {d:Dr} {ys:List V} (h:H_ H a d ys) {i:Nat} {y:V} (hi:ys[i]? = some y):∃ x T,d[i]? = some x/\x∈d/\y=.ref T/\H T=some (.tup (Cm x)):=by
 obtain ⟨x,hx,T,e,q⟩:=Og.Cg h.p hi
 exact ⟨x,T,hx,aI hx,e,q⟩
theorem J1 {α:Type} {l:List α} {i:Nat} {x:α} (h:l[i]? = some x):l=l.take i++x::l.drop (i+1)/\l.take (i+1)=l.take i++[x]:=by
 obtain ⟨hi,e⟩:=af.mp h
 refine ⟨?_,?_⟩
 ·rw [← e,← List.drop_eq_getElem_cons hi,ja]
 ·rw [cf,h]; rfl
noncomputable def Bd (d:Dr):Prop:=∀ x∈d,0<=x.2.2/\x.2.2<2 ^ 41/\x.2.1 - x.1<2 ^ 35
noncomputable def DH (H:Hp) (dh pc:Addr) (n:Nat):Prop:=∃ (cs:List Int) (m r:Int),H dh=some (.lst [.ref pc,.int m,.int r,.int (n:Int)])/\H pc=some (.lst (cs.map V.int))/\dh ≠ pc/\(∀ c∈cs,0<=c)/\0<=m/\m<=cs.length/\0<=r/\r<2147483647/\1<=cs.length/\cs.length<=64
noncomputable def KD (H H':Hp) (dh pc:Addr):Prop:=∀ b,b ≠ dh->b ≠ pc->H' b=H b
theorem PJ {c A B:Prop} [Decidable c] (hc:c) (h:A):if decide c=true then A else B:=by
 rw [decide_eq_true hc]
 exact Ey h
theorem YF {c A B:Prop} [Decidable c] (hc:¬ c) (h:B):if decide c=true then A else B:=by
 rw [decide_eq_false hc]
 exact Dm h
theorem DH.same {H H':Hp} {dh pc:Addr} {n:Nat} (D:DH H dh pc n) (s:Aq H H'):DH H' dh pc n:=by
 obtain ⟨cs,m,r,e1,e2,e3⟩:=D
 exact ⟨cs,m,r,s _ _ e1,s _ _ e2,e3⟩
theorem DH.upd {H:Hp} {dh pc l:Addr} {n:Nat} {o:HO} (D:DH H dh pc n) (h1:l ≠ dh) (h2:l ≠ pc):DH (upd H l o) dh pc n:=by
 obtain ⟨cs,m,r,e1,e2,e3⟩:=D
 exact ⟨cs,m,r,by rw [Am (Ne.symm h1)]; exact e1,by rw [Am (Ne.symm h2)]; exact e2,e3⟩
theorem H_.snoc {H:Hp} {l T:Addr} {d:Dr} {ys:List V} {x:Tr} (A:H_ H l d ys) (hT:H T=some (.tup (Cm x))):H_ (L2.upd H l (.lst (ys++[.ref T]))) l (d++[x]) (ys++[.ref T]) :=
 ⟨Ag,Paired.snoc (Bl A.p A.l) (TupAt.upd ⟨T,rfl,hT⟩ A.l)⟩
noncomputable def Mu:Sp:=fun vs H Q _=>∃ (x:V) (b:Bool),vs=[x]/\((∃ i,x=.int i/\b=true) \/ (x=.non/\b=false))/\Q (.bl b) H
noncomputable def aJ (K:PySem.W.Frag):Sp:=fun vs H Q _=>∃ (a:Addr) (st:Int) (ns:List Int),vs=[.ref a,.int st]/\CZ K H a (ns.map V.int)/\0<=st/\st<2147483647/\ns.length<=63/\∀ dh pc H',H dh=none->H pc=none->Aq H H'->DH H' dh pc 0->Q (.ref dh) H'
noncomputable def YS (K:PySem.W.Frag):Sp:=fun vs H Q _=>∃ (a:Addr) (st:Nat) (far:Bool) (ns:List Int),vs=[.ref a,.int (st:Nat),.bl far]/\CZ K H a (ns.map V.int)/\ns.length<=63 /\
 ∀ l ys d H',Aq H H'->H_ H' l d ys->Chain 0 d->d ≠ []->d.length<=20->Bd d->(far=false->∀ x∈d,x.2.1 - x.1<=4/\x.2.2<=10)->Q (.ref l) H'
noncomputable def gd (th ri c:Int):Int:=if th+ri<0 then 0 else if ri ≥ 0 then c else if th / -ri<c then th / -ri else c
theorem U6 {c:TT} {tb u:TS} {D:Ends} {r:VK} {b k:St->Hp->Prop} {σ:St} {H:Hp} (h:La c tb { D with nx:=u D } σ H):({ nx:=ZQ (La c tb) u D,rt:=r,bk:=b,ct:=k }:Ends).nx σ H:=h
end Bw
namespace Ro
noncomputable abbrev T3:=Int × Int × Int
noncomputable def Cv (l:List T3) (tr t:Int):Prop:=∃ h∈l,h.1=tr/\h.2.1<=t/\t<h.2.2
theorem Cv.app {a b:List T3} {tr t:Int}:Cv (a++b) tr t ↔ Cv a tr t \/ Cv b tr t:=by
 constructor
 ·rintro ⟨h,hm,r⟩
  rcases bp.mp hm with hm | hm
  ·exact .inl ⟨h,hm,r⟩
  ·exact .inr ⟨h,hm,r⟩
 ·rintro (⟨h,hm,r⟩ | ⟨h,hm,r⟩)
  ·exact ⟨h,dt _ hm,r⟩
  ·exact ⟨h,aT _ hm,r⟩
theorem Cv.one {h:T3} {tr t:Int}:Cv [h] tr t ↔ h.1=tr/\h.2.1<=t/\t<h.2.2:=by
 constructor
 ·rintro ⟨g,hm,r⟩
  rw [ai.mp hm] at r
  exact r
 ·intro r
  exact ⟨h,ai.mpr rfl,r⟩
theorem Cv.perm {a b:List T3} (p:∀ x,x∈a ↔ x∈b) {tr t:Int}:Cv a tr t ↔ Cv b tr t :=
 ⟨fun ⟨h,hm,r⟩=>⟨h,(p h).mp hm,r⟩,fun ⟨h,hm,r⟩=>⟨h,(p h).mpr hm,r⟩⟩
noncomputable def Sep (l:List T3):Prop:=(∀ h∈l,h.2.1<h.2.2)/\∀ g∈l,∀ h∈l,g.1=h.1->g=h \/ g.2.2<h.2.1 \/ h.2.2<g.2.1
noncomputable def Q9 (a b:T3):Prop:=a.2.1<b.2.1 \/ (a.2.1=b.2.1/\a.1<b.1)
structure Canon (l:List T3):Prop where
 sep:Sep l
 srt:l.Pairwise Q9
noncomputable def Yn (a b:T3):Prop:=a.1<b.1 \/ (a.1=b.1/\(a.2.1<b.2.1 \/ (a.2.1=b.2.1/\a.2.2<=b.2.2)))
structure PB (pre hs:List T3):Prop where
 pos:∀ h∈hs,h.2.1<h.2.2
 ord:hs.Pairwise fun a b=>a.1<b.1 \/ (a.1=b.1/\a.2.2<b.2.1)
 cov:∀ tr t,Cv hs tr t ↔ Cv pre tr t
 lst:∀ ini h,hs=ini++[h]->∃ g∈pre,g.1=h.1/\g.2.1=h.2.1
 mx:∀ h∈hs,∃ g∈pre,g.1=h.1/\h.2.1<=g.2.1
theorem PB.nil:PB [] []:=⟨fun _ h=>absurd h List.not_mem_nil,.nil,fun _ _=>Iff.rfl,fun ini h e=>by simp at e,fun _ h=>absurd h List.not_mem_nil⟩
theorem PB.push {pre hs:List T3} {s:T3} (M:PB pre hs) (hs1:s.2.1<s.2.2) (hle:∀ g∈pre,Yn g s) (hno:∀ ini h,hs=ini++[h]->¬ (h.1=s.1/\s.2.1<=h.2.2)):PB (pre++[s]) (hs++[s]):=by
 have beh:∀ h∈hs,h.1<s.1 \/ (h.1=s.1/\h.2.2<s.2.1):=fun h hm=>by
  have lastcase:∀ ini z,hs=ini++[z]->z.1<s.1 \/ (z.1=s.1/\z.2.2<s.2.1):=fun ini z e=>by
   obtain ⟨g,gm,e1,e2⟩:=M.mx z (by rw [e]; simp)
   have hg:=hle g gm
   have hn:=hno ini z e
   unfold Yn at hg
   by_cases e3:z.1=s.1
   ·refine .inr ⟨e3,?_⟩
    by_cases h4:s.2.1<=z.2.2
    ·exact absurd ⟨e3,h4⟩ hn
    ·omega
   ·omega
  rcases ft hs with e | ⟨ini,z,e⟩
  ·rw [e] at hm; cases hm
  ·have e':hs=ini++[z]:=by rw [e]; simp
   have hl:=lastcase ini z e'
   have zp:=M.pos z (by rw [e']; simp)
   rw [e'] at hm
   rcases bp.mp hm with hm | hm
   ·have ho:=M.ord
    rw [e',fF] at ho
    have:=ho.2.2 h hm z (ai.mpr rfl)
    omega
   ·rw [ai.mp hm]; exact hl
 refine ⟨fun h hm=>?_,?_,fun tr t=>?_,fun ini h e=>?_,fun h hm=>?_⟩
 ·rcases bp.mp hm with hm | hm
  ·exact M.pos h hm
  ·rw [ai.mp hm]; exact hs1
 ·rw [fF]
  refine ⟨M.ord,iA _ _,fun a ha b hb=>?_⟩
  rw [ai.mp hb]
  exact beh a ha
 ·rw [Cv.app,Cv.app,M.cov]
 ·have:h=s:=by
   have:=congrArg List.getLast? e
   simp at this
   exact this.symm
  subst this
  exact ⟨h,by simp,rfl,rfl⟩
 ·rcases bp.mp hm with hm | hm
  ·obtain ⟨g,gm,r⟩:=M.mx h hm
   exact ⟨g,dt _ gm,r⟩
  ·rw [ai.mp hm]
   exact ⟨s,by simp,rfl,Int.le_refl _⟩
theorem PB.join {pre ini:List T3} {h s:T3} (M:PB pre (ini++[h])) (hle:∀ g∈pre,Yn g s) (h1:h.1=s.1) (h2:s.2.1<=h.2.2):PB (pre++[s]) (ini++[(s.1,h.2.1,max h.2.2 s.2.2)]):=by
 have hp:=M.pos h (by simp)
 obtain ⟨g,gm,e1,e2⟩:=M.lst ini h rfl
 have hg:=hle g gm
 unfold Yn at hg
 have hf:h.2.1<=s.2.1:=by omega
 have ho:=M.ord
 rw [fF] at ho
 refine ⟨fun k km=>?_,?_,fun tr t=>?_,fun i2 k e=>?_,fun k km=>?_⟩
 ·rcases bp.mp km with km | km
  ·exact M.pos k (dt _ km)
  ·rw [ai.mp km]
   show h.2.1<max h.2.2 s.2.2
   omega
 ·rw [fF]
  refine ⟨ho.1,iA _ _,fun a ha b hb=>?_⟩
  rw [ai.mp hb]
  have:=ho.2.2 a ha h (ai.mpr rfl)
  show a.1<s.1 \/ (a.1=s.1/\a.2.2<h.2.1)
  omega
 ·rw [Cv.app,Cv.app,← M.cov,Cv.app,Cv.one,Cv.one,Cv.one]
  show (_ \/ (s.1=tr/\h.2.1<=t/\t<max h.2.2 s.2.2)) ↔ _
  rw [h1]
  constructor
  ·rintro (c | ⟨c1,c2,c3⟩)
   ·exact .inl (.inl c)
   ·by_cases c4:t<h.2.2
    ·exact .inl (.inr ⟨c1,c2,c4⟩)
    ·exact .inr ⟨c1,by omega,by omega⟩
  ·rintro ((c | ⟨c1,c2,c3⟩) | ⟨c1,c2,c3⟩)
   ·exact .inl c
   ·exact .inr ⟨c1,c2,by omega⟩
   ·exact .inr ⟨c1,by omega,by omega⟩
 ·have:k=(s.1,h.2.1,max h.2.2 s.2.2):=by
   have:=congrArg List.getLast? e
   simp at this
   exact this.symm
  subst this
  exact ⟨g,List.mem_append_left _ gm,by show g.1=s.1; omega,e2⟩
 ·rcases bp.mp km with km | km
  ·obtain ⟨g',gm',r⟩:=M.mx k (dt _ km)
   exact ⟨g',dt _ gm',r⟩
  ·rw [ai.mp km]
   exact ⟨s,by simp,rfl,hf⟩
theorem PB.sep {pre hs:List T3} (M:PB pre hs):Sep hs:=by
 refine ⟨M.pos,?_⟩
 have key:∀ {l:List T3},l.Pairwise (fun a b=>a.1<b.1 \/ (a.1=b.1/\a.2.2<b.2.1))->∀ g∈l,∀ h∈l,g.1=h.1->g=h \/ g.2.2<h.2.1 \/ h.2.2<g.2.1:=fun {l}=>by
  induction l with
  | nil=>intro _ g hg; cases hg
  | cons x l ih =>
   intro hp g hg h hh e
   obtain ⟨p1,p2⟩:=gL.mp hp
   rcases bi.mp hg with eg | hg2
   ·rcases bi.mp hh with eh | hh2
    ·exact .inl (eg.trans eh.symm)
    ·have:=p1 h hh2
     rw [← eg] at this
     omega
   ·rcases bi.mp hh with eh | hh2
    ·have:=p1 g hg2
     rw [← eh] at this
     omega
    ·exact ih p2 g hg2 h hh2 e
 exact key M.ord
theorem Sep.perm {a b:List T3} (s:Sep a) (p:∀ x,x∈b->x∈a):Sep b:=⟨fun h hm=>s.1 h (p h hm),fun g gm h hm e=>s.2 g (p g gm) h (p h hm) e⟩
theorem Rp {l:List T3} (s:Sep l) (nd:l.Nodup) (hw:l.Pairwise fun a b=>¬ Q9 b a):l.Pairwise Q9:=by
 have key:∀ {l:List T3},Sep l->l.Nodup->l.Pairwise (fun a b=>¬ Q9 b a)->l.Pairwise Q9:=fun {l}=>by
  induction l with
  | nil=>intro _ _ _; exact .nil
  | cons x l ih =>
   intro s nd hw
   obtain ⟨w1,w2⟩:=gL.mp hw
   obtain ⟨n1,n2⟩:=fR.mp nd
   refine gL.mpr ⟨fun y hy=>?_,ih (s.perm fun z hz=>av _ hz) n2 w2⟩
   have h1:=w1 y hy
   have hxb:=s.1 x (am ..)
   have hyb:=s.1 y (av _ hy)
   unfold Q9 at h1 ⊢
   by_cases e:x.2.1=y.2.1/\x.1=y.1
   ·rcases s.2 x (am ..) y (av _ hy) e.2 with e2 | e2 | e2
    ·exact absurd (e2 ▸ hy) n1
    ·omega
    ·omega
   ·omega
 exact key s nd hw
end Ro
namespace Ro
structure LH (C:Int->Prop) (tr:Int) (cs:List Int) (bg:Option Int) (out:List T3):Prop where
 mx:∀ h∈out,h.1=tr/\h.2.1<h.2.2/\(∀ t,h.2.1<=t->t<h.2.2->C t)/\¬ C (h.2.1 - 1)/\¬ C h.2.2
 le:∀ h∈out,h.2.2∈cs
 bgn:∀ b,bg=some b->b∈cs/\¬ C (b - 1)/\∀ c,c∈cs->b<=c->∀ t,b<=t->t<=c->C t
 no:bg=none->∀ c,cs.getLast? = some c->¬ C c
 all:∀ t c,c∈cs->t<=c->C t->(∃ h∈out,h.2.1<=t/\t<h.2.2) \/ (∃ b,bg=some b/\b<=t)
 ord:out.Pairwise fun a b=>a.2.2<=b.2.1
 obg:∀ b,bg=some b->∀ h∈out,h.2.2<=b
section
variable {C:Int->Prop} {tr c:Int} {cs:List Int} {bg:Option Int} {out:List T3}
structure Nx (C:Int->Prop) (cs:List Int) (c:Int):Prop where
 lt:∀ d∈cs,d<c
 z:cs=[]->∀ t,t<c->¬ C t
 mid:∀ d,cs.getLast? = some d->∀ t,d<=t->t<c->(C t ↔ C d)
 top:∀ d,cs.getLast? = some d->d∈cs/\∀ e∈cs,e<=d
end
end Ro
namespace Ro
open PySem L2 Og
noncomputable abbrev Bh:=Bw.H_
structure Hq where
 P1:Addr
 pos1:Pos
 q1:Str
noncomputable def Tb (B:Hq) (H:Hp):Prop:=Mi H B.P1 B.pos1 B.q1
noncomputable def Kp (B:Hq) (H H':Hp):Prop:=∀ b o,(∀ ps,o ≠ .tbl ps)->H b=some o->H' b=some o
theorem Kp.of {B:Hq} {H H':Hp} (s:Aq H H'):Kp B H H':=fun b o _ e=>s b o e
theorem Kp.trans {B:Hq} {H H1 H2:Hp} (a:Kp B H H1) (b:Kp B H1 H2):Kp B H H2:=fun c o n e=>b c o n (a c o n e)
theorem Tb.same {B:Hq} {H H':Hp} (t:Tb B H) (s:Aq H H'):Tb B H':=Mi.same t s
theorem Bh.kp {B:Hq} {H H':Hp} {a:Addr} {d:List T3} {ys:List V} (h:Bh H a d ys) (k:Kp B H H'):Bh H' a d ys :=
 ⟨k _ _ (fun _ z=>by cases z) h.l,Paired.FJ h.p fun x v ⟨T,e,q⟩=>⟨T,e,k _ _ (fun _ z=>by cases z) q⟩⟩
theorem Ih {H:Hp} {ts:List T3} {vs:List V} (hp:Paired (fun t y=>TupAt H (Gm t) y) ts vs) {ix:List Nat} (hb:∀ i∈ix,i<vs.length):Paired (fun t y=>TupAt H (Gm t) y) (ix.map fun i=>ts.getD i (0,0,0)) (ix.map fun i=>vs.getD i .non):=by
 induction ix with
 | nil=>exact .nil
 | cons i ix ih =>
  refine .cons ?_ (ih fun j hj=>hb j (av _ hj))
  have hi:=hb i (am ..)
  obtain ⟨t,ht,hta⟩:=Cg hp (ae hi)
  show TupAt H (Gm (ts.getD i (0,0,0))) (vs.getD i .non)
  rw [bX,bX,ht,ae hi]
  exact hta
theorem HJ {α:Type} {ts:List α} {z:α} {ix:List Nat} (pm:ix.Perm (List.range ts.length)) (x:α):x∈ix.map (fun i=>ts.getD i z) ↔ x∈ts:=by
 rw [bt]
 constructor
 ·rintro ⟨i,hi,rfl⟩
  have:=dv.mp (pm.mem_iff.mp hi)
  rw [bX,ae this]
  exact eR this
 ·intro hx
  obtain ⟨i,hi,e⟩:=List.getElem_of_mem hx
  exact ⟨i,pm.mem_iff.mpr (dv.mpr hi),by rw [bX,ae hi]; exact e⟩
theorem Oq {α:Type} {ts:List α} {z:α} {ix:List Nat} (pm:ix.Perm (List.range ts.length)) (nd:ts.Nodup):(ix.map fun i=>ts.getD i z).Nodup:=by
 have e:ts=(List.range ts.length).map fun i=>ts.getD i z:=by
  refine fN fun i=>?_
  by_cases hi:i<ts.length
  ·rw [ax,fS hi,ae hi]
   show some _=some (ts.getD i z)
   rw [bX,ae hi]; rfl
  ·rw [List.getElem?_eq_none (by omega),List.getElem?_eq_none (by simp; omega)]
 have p2:(ix.map fun i=>ts.getD i z).Perm ts:=by
  have:=pm.map fun i=>ts.getD i z
  rw [← e] at this
  exact this
 exact p2.nodup_iff.mpr nd
theorem Wo {ts:List T3} {ix:List Nat} (pw:ix.Pairwise (fun i j=>Sq.GC (ts.getD j (0,0,0)) (ts.getD i (0,0,0))=false)):(ix.map fun i=>ts.getD i (0,0,0)).Pairwise Yn:=by
 rw [fo]
 refine pw.imp fun {i j} h=>?_
 rw [Sq.J2] at h
 unfold Yn
 omega
theorem Vp {ts:List T3} {ix:List Nat} (pw:ix.Pairwise (fun i j=>Sq.Ew (Uj (ts.getD j (0,0,0))) (Uj (ts.getD i (0,0,0)))=false)):(ix.map fun i=>ts.getD i (0,0,0)).Pairwise fun a b=>¬ Q9 b a:=by
 rw [fo]
 refine pw.imp fun {i j} h=>?_
 rw [Sq.J_] at h
 unfold Q9
 exact h
theorem canon_of {hs:List T3} {ix:List Nat} (s:Sep hs) (nd:hs.Nodup) (pm:ix.Perm (List.range hs.length)) (pw:ix.Pairwise (fun i j=>Sq.Ew (Uj (hs.getD j (0,0,0))) (Uj (hs.getD i (0,0,0)))=false)):Canon (ix.map fun i=>hs.getD i (0,0,0)) :=
 ⟨s.perm fun x hx=>(HJ pm x).mp hx,Rp (s.perm fun x hx=>(HJ pm x).mp hx) (Oq pm nd) (Vp pw)⟩
theorem PB.nodup {pre hs:List T3} (M:PB pre hs):hs.Nodup:=by
 have hp:=M.pos
 have ho:=M.ord
 clear M
 induction hs with
 | nil=>exact .nil
 | cons x l ih =>
  obtain ⟨o1,o2⟩:=gL.mp ho
  refine fR.mpr ⟨fun hx=>?_,ih (fun h hm=>hp h (av _ hm)) o2⟩
  have h1:=o1 x hx
  have h2:=hp x (am ..)
  omega
structure Ww (K:PySem.W.Frag) (x qual:Str) (st:Stmt) (f:Addr) (fd:FuncData) (c:Addr):Prop where
 ex:∃ (oc:Value) (od:Option Addr) (kV doc pm:Value) (an:Option Addr) (ct:Value) (osl:Array (Option Value)),
  fd=PySem.W.fnOf x qual (Ck st) (Cd st) (Ah st) .none kV doc pm an (.ref c) ct/\K.lookup f=some ⟨oc,od,.func fd,osl⟩/\PySem.W.codeIn K (.ref c) qual=true
 kp:PySem.W.keepIn K (.ref f)=true
theorem Ww.ok {P:Program} {w:World} {K:PySem.W.Frag} {mg:Str->Option Value} {base:Heap} {x qual:Str} {st:Stmt} {f:Addr} {fd:FuncData} {c:Addr} {N ps:List Str} {k:Nat} {sp:Sp} (F:Ww K x qual st f fd c) (S:BJ N ps (Ah st)) (len:∀ vs H Q E,sp vs H Q E->vs.length=ps.length)
  (hbody:∀ (A:Around) (outer:List Env) (s:Shared) (H:Hp) (vs:List V) (Q:VK) (E:XK),BW k (A.deeper (PyProof.Rows.envOfC qual (Ah st) s.heap.objs.size f (.ref c)))->sp vs H Q E ->
   ∃ t,QL (NQ Bp P w K mg base N qual (Ah st) f (.ref c) A outer s H E).Zx (Cd st) t/\t { nx:=fun _ H'=>Q .non H',rt:=Q } (start N vs) H):BP P w K mg base Bp (k+1) f fd ps sp:=by
 obtain ⟨oc,od,kV,doc,pm,an,ct,osl,rfl,lk,hcd⟩:=F.ex
 refine Xo lk hcd S len fun A outer s H vs Q E hr hsp=>?_
 obtain ⟨t,h,q⟩:=hbody A outer s H vs Q E hr hsp
 exact ⟨t,h.Zx,q⟩
theorem PN {τ:List Int} (h:τ.Nodup) (k:Int):(Wd.Ex τ k).Nodup:=by
 unfold Wd.Ex
 split
 ·exact h
 ·rename_i hk
  exact List.nodup_append.mpr ⟨h,by simp,fun x hx y hy=>by
   rw [ai.mp hy]
   intro q
   exact hk (q ▸ hx)⟩
theorem Ig:∀ (ns τ:List Int),τ.Nodup->(ns.foldl Wd.Ex τ).Nodup
 | [],_,h=>h
 | n::ns,τ,h=>Ig ns _ (PN h n)
theorem JX {ms ns:List Int} (pm:ms.Perm (ns.foldl Wd.Ex [])) (po:ms.Pairwise (· <= ·)):ms.Pairwise (· < ·)/\∀ x,x∈ms ↔ x∈ns:=by
 have nd:ms.Nodup:=pm.nodup_iff.mpr (Ig ns [] .nil)
 refine ⟨?_,fun x=>?_⟩
 ·have:=List.pairwise_and_iff.mpr ⟨po,nd⟩
  refine this.imp fun {a b} h=>?_
  have h1:=h.1
  have h2:a ≠ b:=h.2
  omega
 ·rw [pm.mem_iff,Wd.Kz]
  simp
theorem P_ {K:PySem.W.Frag} {σ:St} {H1:Hp} {Q:VK} {tt:TT} {te:TE} {l:Addr} {d:List T3} {ys:List V} (p:T3->Bool) (f:T3->V) (A:Bh H1 l d ys) (hz:ys.length<sizeLine)
  (ht:∀ x∈d,∀ T,H1 T=some (.tup (Gm x))->∀ H,Aq H1 H->∀ R:Bool->Hp->Prop,(∀ H',Aq H H'->R (p x) H')->tt (some (.ref T)::σ) H R)
  (he:∀ x∈d,p x=true->∀ T,H1 T=some (.tup (Gm x))->∀ H,Aq H1 H->∀ R:VK,(∀ H',Aq H H'->R (f x) H')->te (some (.ref T)::σ) H R)
  (hq:∀ D H,H1 D=none->Aq H1 H->H D=some (.lst ((d.filter p).map f))->Q (.ref D) H):D_ (Qw K l) σ H1 Q tt te:=by
 let rd:V->T3:=fun v=>match v with | .ref T=>(match H1 T with | some (.tup [.int a,.int b,.int c])=>(a,b,c) | _=>(0,0,0)) | _=>(0,0,0)
 have hrd:∀ {x:T3} {T:Addr},H1 T=some (.tup (Gm x))->rd (.ref T)=x:=fun {x T} h=>by
  show (match H1 T with | some (.tup [.int a,.int b,.int c])=>(a,b,c) | _=>(0,0,0))=x
  rw [h]
 refine Dg (K:=K) (xs:=ys) (fun v=>p (rd v)) (fun v=>f (rd v)) (.inl (.inl A.l)) hz (fun y hy H' hs R k=>?_) (fun y hy hp H' hs R k=>?_) (fun D H2 hD hs hl=>hq D H2 hD hs ?_)
 ·obtain ⟨i,hi⟩:=gs hy
  obtain ⟨x,T0,hx,hxd,rfl,hT⟩:=A.at hi
  rw [hrd hT] at k
  exact ht x hxd T0 hT H' hs R k
 ·obtain ⟨i,hi⟩:=gs hy
  obtain ⟨x,T0,hx,hxd,rfl,hT⟩:=A.at hi
  rw [hrd hT] at k hp
  exact he x hxd hp T0 hT H' hs R k
 ·rw [hl]
  congr 2
  have key:∀ {d:List T3} {ys:List V},Paired (fun x v=>TupAt H1 (Gm x) v) d ys->(ys.filter fun v=>p (rd v)).map (fun v=>f (rd v))=(d.filter p).map f:=fun {d ys} pr=>by
   induction pr with
   | nil=>rfl
   | @cons x v d ys h1 h2 ih =>
    obtain ⟨T0,rfl,hT⟩:=h1
    have e0:p (rd (.ref T0))=p x:=by rw [hrd hT]
    rw [fE,fE,e0]
    by_cases hp:p x=true
    ·rw [if_pos hp,if_pos hp,ee,ee,ih,hrd hT]
    ·rw [if_neg hp,if_neg hp,ih]
  exact key A.p
theorem Rz {K:PySem.W.Frag} {σ:St} {H1:Hp} {Q:VK} {tt:TT} {te:TE} {l:Addr} {d:List T3} {ys:List V} (p:T3->Bool) (A:Bh H1 l d ys) (hz:ys.length<sizeLine)
  (ht:∀ x∈d,∀ T,H1 T=some (.tup (Gm x))->∀ H,Aq H1 H->∀ R:Bool->Hp->Prop,(∀ H',Aq H H'->R (p x) H')->tt (some (.ref T)::σ) H R)
  (he:∀ T H,Aq H1 H->∀ R:VK,(∀ H',Aq H H'->R (.ref T) H')->te (some (.ref T)::σ) H R)
  (hq:∀ D H zs,H1 D=none->Aq H1 H->Bh H D (d.filter p) zs->Q (.ref D) H):D_ (Qw K l) σ H1 Q tt te:=by
 let rd:V->T3:=fun v=>match v with | .ref T=>(match H1 T with | some (.tup [.int a,.int b,.int c])=>(a,b,c) | _=>(0,0,0)) | _=>(0,0,0)
 have hrd:∀ {x:T3} {T:Addr},H1 T=some (.tup (Gm x))->rd (.ref T)=x:=fun {x T} h=>by
  show (match H1 T with | some (.tup [.int a,.int b,.int c])=>(a,b,c) | _=>(0,0,0))=x
  rw [h]
 refine Dg (K:=K) (xs:=ys) (fun v=>p (rd v)) (fun v=>v) (.inl (.inl A.l)) hz (fun y hy H' hs R k=>?_) (fun y hy hp H' hs R k=>?_) (fun D H2 hD hs hl=>?_)
 ·obtain ⟨i,hi⟩:=gs hy
  obtain ⟨x,T0,hx,hxd,rfl,hT⟩:=A.at hi
  rw [hrd hT] at k
  exact ht x hxd T0 hT H' hs R k
 ·obtain ⟨i,hi⟩:=gs hy
  obtain ⟨x,T0,hx,hxd,rfl,hT⟩:=A.at hi
  exact he T0 H' hs R k
 ·rw [List.map_id'] at hl
  refine hq D H2 _ hD hs ⟨hl,?_⟩
  have key:∀ {d:List T3} {ys:List V},Paired (fun x v=>TupAt H1 (Gm x) v) d ys->Paired (fun x v=>TupAt H2 (Gm x) v) (d.filter p) (ys.filter fun v=>p (rd v)):=fun {d ys} pr=>by
   induction pr with
   | nil=>exact .nil
   | @cons x v d ys h1 h2 ih =>
    obtain ⟨T0,rfl,hT⟩:=h1
    have e0:p (rd (.ref T0))=p x:=by rw [hrd hT]
    rw [fE,fE,e0]
    by_cases hp:p x=true
    ·rw [if_pos hp,if_pos hp]
     exact .cons ⟨T0,rfl,hs _ _ hT⟩ ih
    ·rw [if_neg hp,if_neg hp]
     exact ih
  exact key A.p
noncomputable def Cq (H:Hp) (r:Addr) (len:Int) (hs:List T3):Prop:=∃ p zs,H r=some (.tup [.int len,.ref p])/\Bh H p hs zs
noncomputable def Xm (H H':Hp) (r:Addr) (len:Int) (hs:List T3):Prop:=∃ p zs,H p=none/\H' r=some (.tup [.int len,.ref p])/\Bh H' p hs zs
theorem Xm.ro {H H':Hp} {r:Addr} {len:Int} {hs:List T3} (h:Xm H H' r len hs):Cq H' r len hs:=by
 obtain ⟨p,zs,_,e,A⟩:=h
 exact ⟨p,zs,e,A⟩
theorem S_ {X:Cx} {A:Around} {pins:List (Addr × Obj)} {σ:St} {H:Hp} {s:Shared} (I:Inv X pins σ H s) (hu:A.units<cLine) {a b:Addr} {t:T3} (ha:H a=some (.tup (Gm t))) (hb:H b=some (.tup (Gm t))):SeqAt.EqAt A s (.ref a) (.ref b) true:=by
 by_cases hab:a=b
 ·subst hab
  exact SeqAt.EqAt.same _
 ·obtain ⟨i1,r1,p1,_⟩:=I.tuple (show Eg X.K H a (Gm t) from .inl (.inl ha))
  obtain ⟨i2,r2,p2,_⟩:=I.tuple (show Eg X.K H b (Gm t) from .inl (.inl hb))
  have l1:=r1.length
  have l2:=r2.length
  have h:=SeqAt.RcAt.tuples (A:=A) (e:=fun j=>Kr ((Gm t).getD j .non) ((Gm t).getD j .non)) p1 p2 hu (fun j h1 h2=>by
   have h1':j<i1.length:=by simpa using h1
   have h2':j<i2.length:=by simpa using h2
   simp only [List.getElem_toArray]
   exact VV (Vt r1 h1') (Vt r2 h2') (Qh rfl (by omega)) (Qh rfl (by omega)))
  refine SeqAt.EqAt.of_refs hab ?_
  rw [bo,bo,← l1,← l2,XJ,Mg rfl] at h
  exact h
noncomputable def Wm (B:Hq):Sp:=fun vs H Q _=>∃ (a:Addr) (ts:List T3) (ys:List V),vs=[.ref a]/\Bh H a ts ys/\ys.length<64/\(∀ t∈ts,t.2.1<t.2.2)/\Tb B H /\
 ∀ (p:Addr) (hs:List T3) (zs:List V) (H':Hp),H p=none->Kp B H H'->Tb B H'->Bh H' p hs zs->Canon hs->(∀ tr t,Cv hs tr t ↔ Cv ts tr t)->hs.length<=ts.length->Q (.ref p) H'
noncomputable def Zv (len:Int) (t:T3):Prop:=0<=t.1/\t.1<1200/\0<=t.2.1/\t.2.1<t.2.2/\t.2.2<=len
noncomputable def fu:Sp:=fun vs H Q _=>∃ i:Int,vs=[.int i]/\0<=i/\i<1200/\Q (.bl true) H
noncomputable def aX:Sp:=fun vs H Q _=>∃ i:Int,vs=[.int i]/\0<=i/\i<=1000000000000/\Q (.bl true) H
noncomputable def Z8:Sp:=fun vs H Q _=>∃ (T:Addr) (t:T3) (len:Int),vs=[.ref T,.int len]/\H T=some (.tup (Gm t))/\Zv len t/\Q (.bl true) H
noncomputable def bc:Sp:=fun vs H Q _=>∃ (a:Addr) (ts:List T3) (ys:List V) (len:Int),vs=[.ref a,.int len]/\Bh H a ts ys/\ys.length<900/\(∀ t∈ts,Zv len t)/\∀ H',Aq H H'->Q (.bl true) H'
theorem Cq.kp {B:Hq} {H H':Hp} {r:Addr} {len:Int} {hs:List T3} (h:Cq H r len hs) (k:Kp B H H'):Cq H' r len hs:=by
 obtain ⟨p,zs,e,A⟩:=h
 exact ⟨p,zs,k _ _ (fun _ z=>by cases z) e,Bh.kp A k⟩
noncomputable def Uz (B:Hq):Sp:=fun vs H Q _=>∃ (a:Addr) (ts:List T3) (ys:List V) (len:Int),vs=[.int len,.ref a]/\len<=1000000000000/\Bh H a ts ys/\ys.length<64/\(∀ t∈ts,t.2.1<t.2.2)/\Tb B H /\
 ∀ (r:Addr) (hs:List T3) (H':Hp),Kp B H H'->Tb B H'->Xm H H' r len hs->Canon hs->(∀ tr t,Cv hs tr t ↔ Cv ts tr t)->hs.length<=ts.length->Q (.ref r) H'
noncomputable def Lf (B:Hq):Sp:=fun vs H Q _=>∃ (a:Addr) (ts:List T3) (ys:List V) (len:Int),vs=[.int len,.ref a]/\0<=len/\len<=1000000000000/\Bh H a ts ys/\ys.length<64/\(∀ t∈ts,Zv len t)/\Tb B H /\
 ∀ (r:Addr) (hs:List T3) (H':Hp),Kp B H H'->Tb B H'->Xm H H' r len hs->Canon hs->(∀ tr t,Cv hs tr t ↔ Cv ts tr t)->hs.length<=ts.length->Q (.ref r) H'
theorem Q8 {hs:List T3} (c:Canon hs) {tick:Int} {ms:List Int} (pm:ms.Perm ((hs.filter fun h=>decide (h.2.1<=tick) && decide (tick<h.2.2)).map (·.1))) (po:ms.Pairwise (· <= ·)):ms.Pairwise (· < ·)/\∀ x,x∈ms ↔ Cv hs x tick:=by
 have hm:∀ x,x∈ms ↔ Cv hs x tick:=fun x=>by
  rw [pm.mem_iff,bt]
  constructor
  ·rintro ⟨h,hm,rfl⟩
   obtain ⟨h1,h2⟩:=dr.mp hm
   simp at h2
   exact ⟨h,h1,rfl,h2.1,h2.2⟩
  ·rintro ⟨h,h1,rfl,h2,h3⟩
   exact ⟨h,List.mem_filter.mpr ⟨h1,by simp; exact ⟨h2,h3⟩⟩,rfl⟩
 have nd:((hs.filter fun h=>decide (h.2.1<=tick) && decide (tick<h.2.2)).map (·.1)).Nodup:=by
  have hnd:(hs.filter fun h=>decide (h.2.1<=tick) && decide (tick<h.2.2)).Pairwise Q9:=c.srt.sublist List.filter_sublist
  have hal:∀ x∈(hs.filter fun h=>decide (h.2.1<=tick) && decide (tick<h.2.2)),x∈hs/\x.2.1<=tick/\tick<x.2.2:=fun x hx=>by
   obtain ⟨h1,h2⟩:=dr.mp hx
   simp at h2
   exact ⟨h1,h2.1,h2.2⟩
  generalize (hs.filter fun h=>decide (h.2.1<=tick) && decide (tick<h.2.2))=l at hnd hal
  refine fo.mpr (ic (fun {a b} ha hb hlt=>?_) hnd)
  obtain ⟨a1,a2,a3⟩:=hal a ha
  obtain ⟨b1,b2,b3⟩:=hal b hb
  intro e
  rcases c.sep.2 a a1 b b1 e with e2 | e2 | e2
  ·subst e2; unfold Q9 at hlt; omega
  ·omega
  ·omega
 refine ⟨?_,hm⟩
 have:=List.pairwise_and_iff.mpr ⟨po,pm.nodup_iff.mpr nd⟩
 refine this.imp fun {a b} h=>?_
 have h1:=h.1
 have h2:a ≠ b:=h.2
 omega
noncomputable def ZW (K:PySem.W.Frag):Sp:=fun vs H Q _=>∃ (l:Addr) (cs:List Int) (len c:Int),vs=[.ref l,.int len,.int c]/\CZ K H l (cs.map V.int)/\cs.length<=63/\0<=len/\len<=1000000000000 /\
 ∀ (p:Addr) (ts:List T3) (ys:List V) (pts:List Int) H',Aq H H'->Bh H' p ts ys->(∀ t∈ts,Zv len t/\t.2.1∈pts/\t.2.2∈pts)->pts.length<=16->ts.length<=cs.length->Q (.ref p) H'
noncomputable def YX:Sp:=fun vs H Q _=>∃ (r a:Addr) (len tick:Int) (hs ts:List T3) (ys:List V),vs=[.ref r,.ref a,.int tick]/\Cq H r len hs/\Canon hs/\hs.length<64/\Bh H a ts ys/\ys.length<64/\(∀ tr t,Cv hs tr t ↔ Cv ts tr t)/\∀ H',Aq H H'->Q (.bl true) H'
end Ro
namespace L2
open PySem PySem.Spec PySem.Calls PyProof.Rows
section
variable {M:Model} {A:Around} {E:Value->Shared->Prop} {s:Shared} {base:Heap} {env:Env} {outer:List Env} {L x T C:Addr} {od:Option Addr} {Q:Unit->Shared->Prop}
end
section
variable {P:Program} {w:World} {fs:List Addr} {H H':Hp} {h h1 h2 h3:Heap} {x T T':Addr}
end
section
variable {X:Cx} {C:Addr} {x:Str} {e:Expr} {es:List Expr} {t:TA} {np cpos pos:Pos} {E:XK}
end
section
variable {X:Cx} {pins:List (Addr × Obj)} {σ:St} {H:Hp} {s:Shared}
end
noncomputable def Ends.drop (D:Ends) (i:Nat):Ends:={ nx:=fun σ H=>D.nx (σ.set i none) H,rt:=D.rt,bk:=fun σ H=>D.bk (σ.set i none) H,ct:=fun σ H=>D.ct (σ.set i none) H }
section
variable {X:Cx} {k i:Nat} {f O:Addr} {fd:FuncData} {ps:List Str} {sp:Sp} {dvs:List V} {ds:List Value} {fx cn n:Str} {p np cpos epos hpos pos:Pos} {e:Expr} {es:List Expr} {t:TA} {b0:Stmt} {suite:List Stmt} {ts:TS}
end
structure Z7 (k:Nat) (A:Around):Prop where
 dp:A.depth+3 * k+5<recursionLimit
 un:A.units+16 * k+200<cLine
structure mY (P:Program) (w:World) (K:PySem.W.Frag) (mg:Str->Option Value) (base:Heap) (CX:QF) (k:Nat) (f:Addr) (fd:FuncData) (ps:List Str) (sp:Sp):Prop where
 len:∀ vs H Q E,sp vs H Q E->vs.length=ps.length
 run:∀ (A:Around) (outer:List Env) (s:Shared) (H:Hp) (args:Args) (us:List Value) (vs:List V) (Q:VK) (E:XK),Z7 k A->Ng P w K mg base A outer s H->BindsTo s fd args (ps.zip us)->Vals vs us->sp vs H Q E ->
  codeAny (model P w) A (.call (.ref f) args) (CR CX outer P w H s Q E) s
noncomputable abbrev mQ (CX:QF) (P:Program) (w:World) (K:PySem.W.Frag) (mg:Str->Option Value) (base:Heap) (N:List Str) (qual:Str) (scope:Scope) (f:Addr) (cd:Value) (A:Around) (outer:List Env) (s:Shared) (H:Hp) (E:XK):Cx :=
 { NQ CX P w K mg base N qual scope f cd A outer s H E with calm:=false }
section
variable {P:Program} {w:World} {K:PySem.W.Frag} {mg:Str->Option Value} {base:Heap}
end
section
variable {X:Cx} {CX:QF} {k:Nat} {f:Addr} {fd:FuncData} {ps:List Str} {sp:Sp} {dvs:List V} {ds:List Value} {E:XK} {x:Str} {p pos:Pos} {e:Expr} {es:List Expr} {t:TA}
end
end L2
namespace L2
open PySem PySem.Spec PySem.Calls PyProof.Rows
section
variable {X:Cx} {e st:Expr} {te ts:TE} {p2 pos:Pos}
end
end L2
namespace Ro
open PySem L2 Og
section
variable {X:Cx}
theorem VM {A:Around} {pins:List (Addr × Obj)} {σ:St} {H:Hp} {s:Shared} (I:Inv X pins σ H s) (hu:A.units+4<cLine) {p p2:Addr} {hs:List T3} {zs zs2:List V} (A1:Bh H p hs zs) (A2:Bh H p2 hs zs2) {j1 j2:List Value} (w1:Vals zs j1) (w2:Vals zs2 j2) :
  ∀ j (h1:j<j1.toArray.size) (h2:j<j2.toArray.size),SeqAt.EqAt A s j1.toArray[j] j2.toArray[j] true:=fun j h1 h2=>by
 have n1:=w1.length
 have n3:=A1.len
 have h1':j<j1.length:=by simpa using h1
 have h2':j<j2.length:=by simpa using h2
 simp only [List.getElem_toArray]
 have hj:j<hs.length:=by omega
 obtain ⟨z1,hz1,y1⟩:=Og.Fq A1.p (ae hj)
 obtain ⟨z2,hz2,y2⟩:=Og.Fq A2.p (ae hj)
 obtain ⟨T1,rfl,hT1⟩:=y1
 obtain ⟨T2,rfl,hT2⟩:=y2
 obtain ⟨u1,hu1,ru1⟩:=w1.get hz1
 obtain ⟨u2,hu2,ru2⟩:=w2.get hz2
 rw [ae h1'] at hu1
 rw [ae h2'] at hu2
 cases ru1
 cases ru2
 rw [Option.some.inj hu1,Option.some.inj hu2]
 exact S_ I (by omega) hT1 hT2
end
noncomputable def ZR (B:Hq):Sp:=fun vs H Q _=>∃ (r:Addr) (len:Int) (hs:List T3),vs=[.ref r]/\Cq H r len hs/\Canon hs/\hs.length<64/\0<=len/\len<=1000000000000/\(∀ t∈hs,Zv len t)/\Tb B H /\
 ∀ (H':Hp),Kp B H H'->Tb B H'->Q (.bl true) H'
end Ro
namespace L2
open PySem PySem.Spec PySem.Calls PyProof.Rows
end L2
namespace Ro
open PySem L2 Og
noncomputable def Zz (k:Int) (h:T3):T3:=(h.1,h.2.1 * k,h.2.2 * k)
end Ro
namespace Ro
open PySem L2 Og
theorem JQ {K:PySem.W.Frag} {σ:St} {H1:Hp} {Q:VK} {tt:TT} {te:TE} {l:Addr} {d:List T3} {xs:List V} (f:T3->T3) (A:Bh H1 l d xs) (hz:xs.length<sizeLine)
  (ht:∀ x∈xs,∀ H,Aq H1 H->∀ R:Bool->Hp->Prop,(∀ H',Aq H H'->R true H')->tt (some x::σ) H R)
  (he:∀ x∈d,∀ T,H1 T=some (.tup (Gm x))->∀ H,Aq H1 H->∀ R:VK,(∀ T' H',Aq H H'->H' T'=some (.tup (Gm (f x)))->R (.ref T') H')->te (some (.ref T)::σ) H R)
  (hq:∀ D H zs,H1 D=none->Aq H1 H->Bh H D (d.map f) zs->Q (.ref D) H):D_ (Qw K l) σ H1 Q tt te:=by
 intro D hD
 have hl:CZ K H1 l xs:=.inl (.inl A.l)
 have ld:=A.len
 have s0:Aq H1 (upd H1 D (.lst [])):=fun b o e=>by rw [Am (Av e hD)]; exact e
 refine ⟨fun i m ys H=>m=xs.length - i/\i<=xs.length/\Aq H1 H/\Bh H D ((d.take i).map f) ys,⟨xs.length,by simp,Nat.zero_le _,s0,⟨Ag,.nil⟩⟩,?_⟩
 rintro i m ys H ⟨rfl,hi,hs,B⟩
 by_cases hlt:i<xs.length
 ·obtain ⟨x,hx⟩:∃ x,xs[i]? = some x:=⟨xs[i],by simp [hlt]⟩
  obtain ⟨t,T0,ht0,htd,rfl,hT⟩:=A.at hx
  refine .inr ⟨⟨xs,_,hs.seq hl,hx⟩,fun y H3 hyl=>?_⟩
  obtain ⟨rfl,hy'⟩:=hyl
  have hy2:=hy' xs (hs.seq hl)
  rw [hx] at hy2
  cases hy2
  have lb:=B.len
  rw [ag,ci] at lb
  refine ht _ (aI hx) _ hs _ fun H4 s4=>?_
  rw [if_pos rfl]
  refine he t htd T0 hT H4 (hs.trans s4) _ fun T' H5 s5 hT'=>?_
  have B5:=B.mono (s4.trans s5)
  refine ⟨B5.l,by omega,xs.length - (i+1),by omega,rfl,hlt,fun b o e=>?_,?_⟩
  ·rw [Am (Av e hD)]; exact s5 _ _ (s4 _ _ (hs _ _ e))
  ·have e2:(d.take (i+1)).map f=(d.take i).map f++[f t]:=by
    rw [cf,ht0,dA]
    rfl
   rw [e2]
   exact B5.snoc hT'
 ·have e:i=xs.length:=by omega
  subst e
  rw [bq (by omega)] at B
  exact .inl ⟨⟨xs,hs.seq hl,ah _⟩,hq D H ys hD hs B⟩
end Ro
namespace Ro
open PySem L2 Og
end Ro
namespace L2
open PySem PySem.Spec PyProof.Rows
section
variable {X:Cx}
theorem Hm:Du X (.builtin "sorted") (fun xs H Q=>∃ (a:Addr) (ns:List Int),xs=[V.ref a]/\CZ X.K H a (ns.map V.int)/\ns.length<64/\∀ (p:Addr) (ms:List Int),H p=none->ms.Perm ns->ms.Pairwise (· <= ·)->Q (.ref p) (upd H p (.lst (ms.map V.int)))):=by
 intro pins s σ H xs us Q I r h
 obtain ⟨a,ns,rfl,ha,h6,q⟩:=h
 obtain ⟨u,rfl,ru⟩:=vals1 r
 cases ru
 obtain ⟨its,rv,pl,hz⟩:=I.list ha
 have hi:=Xp rv
 have hlen:its.length<64:=by have:=rv.length; rw [ag] at this; omega
 refine Sx.S8 pl.isList hi hlen fun D h' c us ms hD kk e i1 pm pw=>?_
 have hn:H D=none:=I.hok.fresh hD
 have hl2:(ms.map V.int).length<=sizeLine:=by
  rw [ag,pm.length_eq,sizeLine_eq]
  have:=rv.length
  rw [ag] at this
  omega
 exact ⟨.ref D,_,I.laid (t':=s.toks) (o:=.lst (ms.map V.int)) kk hD ⟨hl2,us,c,Ui i1,e⟩,rfl,q _ ms hn pm pw⟩
end
end L2
namespace Wd
open PySem PyProof.Rows
section
variable {prog:Program} {w:World} {A:Around} {E:Value->Shared->Prop} {s:Shared} {a:Addr} {σ:List Int}
theorem Vj {Q:Value->Shared->Prop} (hh:A.handled=none) (hS:GD prog w s.heap a (DP w) σ) (hz:σ.length<64)
  (h:∀ D h' tk d us c ns,s.heap.objs.size<=D->(∀ b o,s.heap.get? b=some o->h'.get? b=some o)->h'.get? D=some { cls:=.type "list",data:=.seq (List.toArray us) c }->IntsAre us ns->ns.Perm σ->ns.Pairwise (· <= ·)->Q (.ref D) { s with heap:=h',toks:=tk,drawn:=d }) :
  wpAny (model prog w) A (call (.builtin "sorted") [.ref a]) Q E s:=by
 refine Calls.call_function_entry kind_sorted plain_sorted entry_sorted (args_sorted1 _) ?_
 unfold Builtin.«sorted»
 refine wpAny_bind (m:=checkCount "sorted" 1 1 _) (wpAny_pure (wpAny_bind (Rq (A:=A.in1) (by simpa using hh) hS fun h' tk d acc ks k lt i1 i2=>?_)))
 have l64:acc.length<64:=by rw [IntsAre.length i1,i2.length_eq]; exact hz
 have len:acc.length<=sizeLine:=by rw [sizeLine_eq]; omega
 have ll:=Sx.Jx i1
 have at':=Sx.Ff i1
 refine wpAny_bind (wpAny_newList ?_ len)
 have e1:(h'.push (seqObj "list" acc.toArray 0)).get? h'.objs.size=some (seqObj "list" acc.toArray 0):=Heap.get?_push_size _ rfl
 refine wpAny_bind (wpAny_holding (wpAny_call_entry slot_list_sort ⟨_,e1,rfl⟩ entry_list_sort (Sx.U_ (blt:=Sx.lV) (d:=0) (ts:=ks) (κ:=oneType') Sx.Tj e1 l64 ll (fun i j v x y hv hu hx hy=>?_) (fun h6 kk h2 Q q=>?_) (fun h6 kk i j u v x y hu hv hx hy C c=>?_) fun ix pm pw=>⟨_,rfl,?_⟩) (args_list_sort _)))
 ·obtain ⟨t,rfl⟩:=at' i v x hv hx
  obtain ⟨t',e⟩:=at' j _ y hu hy
  cases e
  rfl
 ·match acc,i1,h2 with
  | [],_,h2=>simp at h2
  | [_],_,h2=>simp at h2
  | v₁::v₂::rest,i1,_ =>
   rw [keyKind_ints i1]
   exact wpAny_pure q
 ·obtain ⟨t,rfl⟩:=at' i u x hu hx
  obtain ⟨t',rfl⟩:=at' j v y hv hy
  rw [keyLt'_oneType]
  exact oneLt_int c
 ·obtain ⟨c,e2⟩:=sortedHeap_at (out:=(List.map (fun i=>acc.getD i Value.none) ix).toArray) e1
  refine wpAny_pure ⟨_,rfl,h h'.objs.size _ tk d _ c (ix.map fun i=>ks.getD i 0) (Nat.le_of_lt lt) (fun b o e=>?_) e2 (Sx.ints_of (by simp) fun i v n hv hn=>?_) ?_ ?_⟩
  ·have lb:=Heap.lt_size (k b o e)
   rw [sortedHeap_old (aS lb) (by rw [size_push']; exact fm lb)]
   exact Heap.get?_push_of_some _ (k b o e)
  ·rw [ax] at hv hn
   cases hi:ix[i]? with
   | none=>rw [hi] at hv; cases hv
   | some z =>
    rw [hi] at hv hn
    have hz:z<acc.length:=dv.mp (pm.mem_iff.mp (aI hi))
    have hz':z<ks.length:=by omega
    have e1:acc.getD z Value.none=acc[z]:=by simp [List.getD_eq_getElem?_getD,hz]
    have e2:ks.getD z 0=ks[z]:=by simp [List.getD_eq_getElem?_getD,hz']
    simp only [Option.map_some,Option.some.injEq] at hv hn
    rw [e1] at hv
    rw [e2] at hn
    exact at' z v n (by rw [← hv]; exact ae hz) (by rw [← hn]; exact ae hz')
  ·have e:(List.range acc.length).map (fun i=>ks.getD i 0)=ks:=by
    refine List.ext_getElem (by simp [ll]) fun i h1 h2=>?_
    simp [List.getD_eq_getElem?_getD,h2]
   have q:=pm.map (fun i=>ks.getD i 0)
   rw [e] at q
   exact q.trans i2
  ·rw [fo]
   exact pw.imp fun {i j} e=>Int.not_lt.mp (of_decide_eq_false e)
end
end Wd
namespace L2
open PySem PySem.Spec PyProof.Rows
section
variable {X:Cx}
theorem HQ (hc:X.calm=true):Du X (.builtin "sorted") (fun xs H Q=>∃ (a:Addr) (τ:List Int),xs=[V.ref a]/\H a=some (Xe X.prog X.w a τ)/\τ.length<64/\∀ (p:Addr) (ns:List Int),H p=none->ns.Perm τ->ns.Pairwise (· <= ·)->Q (.ref p) (upd H p (.lst (ns.map V.int)))):=by
 intro pins s σ H xs us Q I r h
 obtain ⟨a,τ,rfl,ha,hz,q⟩:=h
 obtain ⟨u,rfl,ru⟩:=vals1 r
 cases ru
 obtain ⟨g,_,_⟩:=(show By X.prog X.w H s.heap a (Xe X.prog X.w a τ) from I.hok a _ ha)
 refine Wd.Vj (I.ok.hd hc) g hz fun D h' tk d us c ns le k e i1 p o=>?_
 have hn:H D=none:=I.hok.fresh le
 have hlen:(ns.map V.int).length<=sizeLine:=by
  rw [ag,p.length_eq,sizeLine_eq]
  omega
 exact ⟨.ref D,_,I.YH (o:=.lst (ns.map V.int)) (t':=tk) (d':=d) k le ⟨hlen,us,c,Ui i1,e⟩,rfl,q D ns hn p o⟩
end
end L2
namespace PySem
section
variable {prog:Program} {w:World} {A:Around} {E:Value->Shared->Prop} {s:Shared} {κ:Type} [DecidableEq κ] {knd:KeyKind prog w κ}
theorem Yr {kvs:List (κ × Value)} {k:κ} (h:valueAt kvs k=none):kvs.findIdx? (fun kv=>decide (kv.1=k))=none:=by
 unfold valueAt at h
 rw [Option.map_eq_none_iff,List.find?_eq_none] at h
 rw [List.findIdx?_eq_none_iff]
 intro x hx
 have:=h x hx
 simpa using this
theorem Je {d:Addr} {kvs:List (κ × Value)} {k:κ} {key x:Value} {Q:Value->Shared->Prop} (hkey:knd.is k key=true) (hm:s.heap.DictOf knd d kvs) (hv:valueAt kvs k=none) (hsz:kvs.length<=sizeLine)
  (hQ:∀ h',h'.DictOf knd d (kvs++[(k,x)])->Heap.SameBut d s.heap h'->Q x { s with heap:=h',toks:=s.toks+1 }):wpAny (model prog w) A (dictSetDefault d key x) Q E s:=by
 have hno:=Yr hv
 have hnot:k ∉ kvs.map (·.1):=not_mem_of_findIdx_none hno
 obtain ⟨o,es,ep,ho,hc,hd,hk,hp,hn⟩:=hm
 have hes:es.size<=sizeLine:=by
  have e1:=hp.length
  have e2:es.toList.length=es.size:=by simp
  omega
 have hi:(es.findIdx? fun e=>knd.is k e.key)=none:=by
  have h2:=hp.findIdx k
  rw [hno] at h2
  rw [← h2]
  obtain ⟨l⟩:=es
  simp
 unfold dictSetDefault
 try with_reducible refine wpAny_holding ?_
 refine wpAny_bind (knd.pyHash hkey (wpAny_bind (wpAny_dictFind_of (s:={ s with toks:=s.toks+1 }) hkey ho hd hk ?_)))
 rw [hi]
 refine wpAny_bind (wpAny_rule (wpAny_bind (wpAny_updateDictKeys (hz:=hes) (s:={ s with toks:=s.toks+1 }) ho hd (wpAny_pure (hQ _ ⟨_,_,ep+1,Heap.get?_update_self _ ho (Obj.isFreed_of_dict (Obj.data_mapDictKeys hd _)),hc.mapDictKeys _,Obj.data_mapDictKeys hd _,hk.push hkey _,?_,?_⟩ (Heap.SameBut.update ..))))))
 ·have h3:=hp.append hkey (knd.hash k) x
  obtain ⟨l⟩:=es
  simpa using h3
 ·rw [dA,List.nodup_append]
  refine ⟨hn,by simp,fun a ha b hb=>?_⟩
  simp only [List.map_cons,List.map_nil,List.mem_singleton] at hb
  subst hb
  exact fun e=>hnot (e ▸ ha)
theorem Wq {d:Addr} {kvs:List (κ × Value)} {n:Nat} (hm:s.heap.DictOf knd d kvs) (h:kvs.length<=n):s.heap.DictLe d n:=fun o' es' ep' ho' hd'=>by
 obtain ⟨o,es,ep,ho,hc,hd,hk,hp,hn⟩:=hm
 rw [ho] at ho'
 cases ho'
 rw [hd] at hd'
 cases hd'
 have e1:=hp.length
 have e2:es'.toList.length=es'.size:=by simp
 omega
theorem Fl {d:Addr} {k:κ} {key:Value} (hkey:knd.is k key=true) (hd:(d == sysModules)=false) (x:Value) :
  MeetsIn prog w (Builtin.«dict.setdefault» ⟨[.ref d,key,x],[]⟩) (fun _ R s=>∃ kvs,s.heap.DictOf knd d kvs/\kvs.length<=sizeLine/\(∀ v,valueAt kvs k=some v->R (.ok (.ret v)) { s with toks:=s.toks+1 }) /\
   (valueAt kvs k=none->∀ h',h'.DictOf knd d (kvs++[(k,x)])->Heap.SameBut d s.heap h'->R (.ok (.ret x)) { s with heap:=h',toks:=s.toks+1 })) :=
 .of_wp fun A R s ⟨kvs,hm,hz,h1,h2⟩=>by
  unfold Builtin.«dict.setdefault»
  refine wpAny_bind ?_
  unfold Builtin.Dict.keyAndDefault
  refine wpAny_bind (wpAny_notOrdered_dict hm.typeIs ?_)
  show wpAny _ _ (pure (d,key,some x)) _ _ s
  refine wpAny_pure ?_
  show wpAny _ _ (if (d == sysModules)=true then _ else (dictSetDefault d key x >>= _)) _ _ s
  rw [if_neg (by rw [hd]; exact dl)]
  cases hv:valueAt kvs k with
  | none=>exact wpAny_bind (Je hkey hm hv hz fun h' hm' hs'=>wpAny_pure ⟨x,rfl,h2 hv h' hm' hs'⟩)
  | some v=>exact wpAny_bind (wpAny_dictSetDefault_of (hz:=Wq hm hz) hkey hm.mapOf (fun u hu=>wpAny_pure ⟨u,rfl,h1 u hu⟩) fun hn=>by rw [hv] at hn; cases hn)
end
end PySem
namespace L2
open PySem PySem.Spec PySem.Calls PyProof.Rows
noncomputable def Zo (td ty tx:TE):TE:=fun σ H Q=>td σ H fun x H1=>∃ a,x=.ref a/\lE H1 a/\ty σ H1 fun y H2=>tx σ H2 fun z H3=>∃ kvs k,H3 a=some (.dK kvs)/\y=kV k/\kvs.length<sizeLine /\
 (∀ v,DQ kvs k=some v->Q v H3)/\(DQ kvs k=none->Q z (upd H3 a (.dK (kvs++[(k,z)]))))
section
variable {X:Cx} {o e f:Expr} {apos cpos:Pos} {td ty tx:TE}
theorem UJ (ho:PE X o td) (he:PE X e ty) (hf:PE X f tx) (m:M2 X o "setdefault" apos e f cpos):PE X (.Call (.Attribute o "setdefault" apos) [e,f] [] cpos) (Zo td ty tx):=by
 intro pins s σ H Q I h
 refine wpAny_Call_method m.base m.few m.line PySem.F.plainAttrs_dict PySem.F.slot_dict_setdefault PySem.F.type_dict_setdefault (Bq (ho pins s σ H _ I h) fun u s1 hq0=>?_)
 obtain ⟨x,H1,I1,rx,a,ex,d,q1⟩:=hq0
 subst ex
 obtain rfl:u=Value.ref a:=rx
 obtain ⟨t1,t2,_⟩:=Ue I1 d
 refine ⟨t1,t2,?_⟩
 rw [m.trees]
 refine Calls.callWith_builtin rfl (Calls.evalArgs_plain (Calls.spliced_cons (Bq (he pins s1 σ H1 _ I1 q1) fun iv s2 ⟨y,H2,I2,ry,q2⟩ =>
  Calls.spliced_cons (Bq (hf pins s2 σ H2 _ I2 q2) fun fv s3 ⟨z,H3,I3,rz,kvs,k,ea,ey,hl,q3,q4⟩=>Calls.spliced_nil ?_))))
 subst ey
 obtain ⟨hz,hd,vs,rel,dd⟩:=Xn I3.hok ea
 have hlen:=rel.length
 have hrel:=rel.val k
 refine call_meetsIn PySem.F.slot_dict_setdefault dd.typeIs PySem.F.entry_dict_setdefault (PySem.F.args_dict_setdefault_3 _ _ _) (Fl (knd:=CK X.prog X.w) (Nk ry) hd fv) ⟨vs,dd,by omega,fun v hv=>?_,fun hv h' dd' hs=>?_⟩
 ·rw [hv] at hrel
  cases l:DQ kvs k with
  | none=>rw [l] at hrel; exact hrel.elim
  | some w'=>rw [l] at hrel; exact ⟨w',H3,I3.tok _,hrel,q3 w' l⟩
 ·rw [hv] at hrel
  cases l:DQ kvs k with
  | some w'=>rw [l] at hrel; exact hrel.elim
  | none =>
   have he:∃ q,h'.get? a=some q:=let ⟨q,_,_,hq,_⟩:=dd'; ⟨q,hq⟩
   refine ⟨z,_,MP I3 (ob:=.dK (kvs++[(k,z)])) (by rw [ea]; exact True.intro) hs he (Vm (by rw [List.length_append]; show _+1<=sizeLine; omega) hd (Paired.snoc rel ⟨rfl,rz⟩) dd'),rz,q4 l⟩
end
end L2
namespace Ro
open PySem L2 Og
noncomputable def Tk (hs:List T3) (t:Int):Prop:=∃ h∈hs,h.2.1=t \/ h.2.2=t
noncomputable def jT (a b:List T3) (t:Int):Prop:=¬ ∀ tr,Cv a tr t ↔ Cv b tr t
theorem VL {hs:List T3} {S T:Int} (h1:S<=T) (h:∀ t,Tk hs t->t<=T->t<=S) (tr:Int):Cv hs tr T ↔ Cv hs tr S:=by
 constructor
 ·rintro ⟨x,xm,e,a,b⟩
  have:=h x.2.1 ⟨x,xm,.inl rfl⟩ a
  exact ⟨x,xm,e,this,by omega⟩
 ·rintro ⟨x,xm,e,a,b⟩
  refine ⟨x,xm,e,by omega,?_⟩
  by_cases hc:x.2.2<=T
  ·have:=h x.2.2 ⟨x,xm,.inr rfl⟩ hc
   omega
  ·omega
noncomputable def nF (a b:List T3) (v:V):Prop:=(v=.non/\∀ T,¬ jT a b T) \/ ∃ T:Int,v=.int T/\jT a b T/\∀ T',T'<T->¬ jT a b T'
theorem Pk {ts:List T3} {k tr T:Int} (hk:1<=k):Cv (ts.map (Zz k)) tr T ↔ Cv ts tr (T / k):=by
 have k0:0<k:=by omega
 constructor
 ·rintro ⟨h,hm,e,a,b⟩
  obtain ⟨x,xm,rfl⟩:=bt.mp hm
  have a:x.2.1 * k<=T:=a
  have b:T<x.2.2 * k:=b
  exact ⟨x,xm,e,(iL k0).mpr a,(iN k0).mpr b⟩
 ·rintro ⟨x,xm,e,a,b⟩
  exact ⟨Zz k x,bt.mpr ⟨x,xm,rfl⟩,e,(iL k0).mp a,(iN k0).mp b⟩
noncomputable def pt (k:Int) (h:T3):Int:=if k=1 then h.2.1 else h.2.2
noncomputable def dH:Sp:=fun vs H Q _=>∃ (p:Addr) (hs:List T3) (zs:List V) (k:Int),vs=[.ref p,.int k]/\Bh H p hs zs/\zs.length<64/\(k=1 \/ k=2) /\
 ∀ (D:Addr) (kvs:List (Key × V)) (js:List Int) (H':Hp),Aq H H'->H D=none->H' D=some (.dK kvs)->kvs.map (·.1)=js.map Sum.inl->(∀ t,t∈js ↔ ∃ h∈hs,pt k h=t)->js.length<=hs.length->(∀ kv∈kvs,∃ l ns,kv.2=V.ref l/\H' l=some (.lst (List.map V.int ns))/\ns.length<64)->Q (.ref D) H'
noncomputable def VP (H:Hp) (m:Int) (y:V):Prop:=∃ T a b,y=V.ref T/\H T=some (.tup [.int m,.ref a,.ref b])
noncomputable def cJ:Sp:=fun vs H Q _=>∃ (r:Addr) (len:Int) (hs:List T3),vs=[.ref r]/\Cq H r len hs/\hs.length<28 /\
 ∀ (F:Addr) (ys:List V) (ms:List Int) (H':Hp),Aq H H'->H' F=some (.lst ys)->Paired (VP H') ms ys->(∀ t,t∈ms ↔ Tk hs t)->ms.length<56->Q (.ref F) H'
noncomputable def b8:Sp:=fun vs H Q _=>∃ (r:Addr) (len:Int) (hs:List T3),vs=[.ref r]/\Cq H r len hs/\hs.length<28 /\
 ∀ (F:Addr) (ms:List Int) (H':Hp),Aq H H'->H' F=some (.lst (ms.map V.int))->(∀ t,t∈ms ↔ Tk hs t)->ms.length<56->Q (.ref F) H'
noncomputable def YW (B:Hq):Sp:=fun vs H Q _=>∃ (a:Addr) (ts:List T3) (ys:List V) (len k:Int),vs=[.int len,.ref a,.int k]/\Bh H a ts ys/\ys.length<200/\(∀ t∈ts,Zv len t)/\1<=k/\k<=2000000000/\0<=len/\len<=50/\Tb B H /\
 ∀ (r:Addr) (hs:List T3) (H':Hp),Kp B H H'->Tb B H'->Xm H H' r (len * k) hs->Canon hs->(∀ tr t,Cv hs tr t ↔ Cv (ts.map (Zz k)) tr t)->hs.length<=ts.length->Q (.ref r) H'
end Ro
namespace Ro
open PySem L2 Og
noncomputable def YK:Sp:=fun vs H Q _=>∃ (r:Addr) (len tick:Int) (hs:List T3),vs=[.ref r,.int tick]/\Cq H r len hs/\Canon hs/\hs.length<64 /\
 ∀ (l:Addr) (ms:List Int) (H':Hp),Aq H H'->H' l=some (.lst (ms.map V.int))->ms.Pairwise (· < ·)->(∀ x,x∈ms ↔ Cv hs x tick)->Q (.ref l) H'
end Ro
namespace Ro
open PySem L2 Og
theorem Jz {K:PySem.W.Frag} {σ:St} {H1:Hp} {Q:VK} {tt:TT} {te:TE} {l:Addr} {xs:List V} (P:Hp->V->V->Prop) (pm:∀ H H' x y,Aq H H'->P H x y->P H' x y) (pu:∀ H x y D us ws,H D=some (.lst us)->P H x y->P (upd H D (.lst ws)) x y)
  (hl:CZ K H1 l xs) (hz:xs.length<sizeLine)
  (ht:∀ x∈xs,∀ H,Aq H1 H->∀ R:Bool->Hp->Prop,(∀ H',Aq H H'->R true H')->tt (some x::σ) H R)
  (he:∀ x∈xs,∀ H,Aq H1 H->∀ R:VK,(∀ y H',Aq H H'->P H' x y->R y H')->te (some x::σ) H R)
  (hq:∀ D H zs,H1 D=none->Aq H1 H->H D=some (.lst zs)->Paired (P H) xs zs->Q (.ref D) H):D_ (Qw K l) σ H1 Q tt te:=by
 intro D hD
 have s0:Aq H1 (upd H1 D (.lst [])):=fun b o e=>by rw [Am (Av e hD)]; exact e
 refine ⟨fun i m ys H=>m=xs.length - i/\i<=xs.length/\Aq H1 H/\H D=some (.lst ys)/\Paired (P H) (xs.take i) ys,⟨xs.length,by simp,Nat.zero_le _,s0,Ag,.nil⟩,?_⟩
 rintro i m ys H ⟨rfl,hi,hs,hd,B⟩
 by_cases hlt:i<xs.length
 ·obtain ⟨x,hx⟩:∃ x,xs[i]? = some x:=⟨xs[i],by simp [hlt]⟩
  refine .inr ⟨⟨xs,_,hs.seq hl,hx⟩,fun y H3 hyl=>?_⟩
  obtain ⟨rfl,hy'⟩:=hyl
  have hy2:=hy' xs (hs.seq hl)
  rw [hx] at hy2
  cases hy2
  have lb:=B.length
  rw [ci] at lb
  refine ht _ (aI hx) _ hs _ fun H4 s4=>?_
  rw [if_pos rfl]
  refine he x (aI hx) H4 (hs.trans s4) _ fun y H5 s5 hy=>?_
  have d5:=s5 _ _ (s4 _ _ hd)
  refine ⟨d5,by omega,xs.length - (i+1),by omega,rfl,hlt,fun b o e=>?_,Ag,?_⟩
  ·rw [Am (Av e hD)]; exact s5 _ _ (s4 _ _ (hs _ _ e))
  ·rw [cf,hx]
   exact Paired.snoc (Paired.FJ B fun x y p=>pu _ _ _ _ _ _ d5 (pm _ _ _ _ (s4.trans s5) p)) (pu _ _ _ _ _ _ d5 hy)
 ·have e:i=xs.length:=by omega
  subst e
  rw [bq (ah _)] at B
  exact .inl ⟨⟨xs,hs.seq hl,ah _⟩,hq D H ys hD hs hd B⟩
noncomputable def Zy (H:Hp) (x y:V):Prop:=∃ m T a b,x=V.int m/\y=V.ref T/\H T=some (.tup [.int m,.ref a,.ref b])
theorem Sv (H H':Hp) (x y:V) (s:Aq H H') (h:Zy H x y):Zy H' x y:=by
 obtain ⟨m,T,a,b,e,f,g⟩:=h
 exact ⟨m,T,a,b,e,f,s _ _ g⟩
theorem XR (H:Hp) (x y:V) (D:Addr) (us ws:List V) (hd:H D=some (.lst us)) (h:Zy H x y):Zy (upd H D (.lst ws)) x y:=by
 obtain ⟨m,T,a,b,e,f,g⟩:=h
 exact ⟨m,T,a,b,e,f,by rw [Am (Ei g hd (fun z=>by cases z))]; exact g⟩
theorem Us {H:Hp}:∀ {ms:List Int} {ys:List V},Paired (Zy H) (ms.map V.int) ys->Paired (VP H) ms ys
 | [],_,h=>by cases h; exact .nil
 | m::ms,_,h=>by
  cases h with
  | cons a b =>
   obtain ⟨m',T,a1,b1,e,f,g⟩:=a
   cases e
   exact .cons ⟨T,a1,b1,f,g⟩ (Us b)
end Ro
namespace L2
open PySem
theorem Gw {X:Cx} {K:PySem.W.Frag} (hk:X.K=K):Du X (.builtin "sorted") (fun xs H Q=>∃ (a:Addr) (ns:List Int),xs=[V.ref a]/\CZ K H a (ns.map V.int)/\ns.length<64/\∀ (p:Addr) (ms:List Int),H p=none->ms.Perm ns->ms.Pairwise (· <= ·)->Q (.ref p) (upd H p (.lst (ms.map V.int)))):=by
 subst hk
 exact Hm
end L2
namespace Ro
open PySem L2 Og
theorem Kd {H:Hp} {kvs:List (Key × V)} {k:Key} {ln:Addr} (lk:∀ kv∈kvs,∃ l ns,kv.2=V.ref l/\H l=some (.lst (List.map V.int ns))/\ns.length<64) (hn:H ln=some (.lst [])):∃ l ns,(DQ kvs k).getD (V.ref ln)=V.ref l/\H l=some (.lst (List.map V.int ns))/\ns.length<64:=by
 cases h:DQ kvs k with
 | none=>exact ⟨ln,[],rfl,hn,by decide⟩
 | some v =>
  obtain ⟨kv,hf,rfl⟩:=aE.mp h
  obtain ⟨l,ns,a,b⟩:=lk kv (List.mem_of_find?_eq_some hf)
  exact ⟨l,ns,a,b⟩
theorem JB {H H':Hp} {kvs:List (Key × V)} (lk:∀ kv∈kvs,∃ l ns,kv.2=V.ref l/\H l=some (.lst (List.map V.int ns))/\ns.length<64) (s:Aq H H'):∀ kv∈kvs,∃ l ns,kv.2=V.ref l/\H' l=some (.lst (List.map V.int ns))/\ns.length<64:=fun kv h=>by
 obtain ⟨l,ns,a,b,c⟩:=lk kv h
 exact ⟨l,ns,a,s _ _ b,c⟩
end Ro
namespace Ro
open PySem L2 Og
end Ro
namespace Ro
open PySem L2 Og Bw
end Ro
namespace L2
open PySem PySem.Spec PySem.Calls PyProof.Rows
section
variable {X:Cx}
end
end L2
namespace L2
open PySem PySem.Spec PySem.Calls PyProof.Rows
section
variable {X:Cx}
theorem Vl (hu:X.A.units<cLine):GF X (compareOp .NotEq) (fun x y H Q=>∃ p q xs,x=V.ref p/\y=V.ref q/\CZ X.K H p xs/\CZ X.K H q []/\Q (.bl (!xs.isEmpty)) H):=by
 intro pins s σ H x y v u Q I rx ry h
 obtain ⟨p,q,xs,rfl,rfl,hp,hq,k⟩:=h
 cases rx
 cases ry
 obtain ⟨its,r,pl,hz⟩:=I.list hp
 obtain ⟨its2,r2,pl2,hz2⟩:=I.list hq
 have l1:=r.length
 cases r2
 cases xs with
 | nil =>
  cases r
  refine SeqAt.RcNeAt.lists (e:=fun _=>true) pl.isList pl2.isList rfl hu (fun j h1 h2=>?_) _ _ _ _ ⟨.bl _,H,I,rfl,k⟩
  exact absurd h1 (iq _)
 | cons a b =>
  refine SeqAt.RcNeAt.lists_lengths pl.isList pl2.isList (by simp; intro z; rw [z] at l1; simp at l1) hu _ _ _ _ ⟨.bl _,H,I,rfl,k⟩
end
end L2
namespace L2
open PySem PySem.Spec PyProof.Rows
end L2
namespace L2
open PySem PySem.Spec PyProof.Rows
section
variable {X:Cx} {pins:List (Addr × Obj)} {σ:St} {H:Hp} {s:Shared} {x z:Str} {scope:Scope} {fp:List Addr} {C:Addr}
end
section
variable {X:Cx} {x z:Str} {scope:Scope}
end
section
variable {X:Cx} {x z:Str} {scope:Scope}
end
end L2
namespace L2
open PySem PySem.Spec PyProof.Rows
section
variable {X:Cx}
noncomputable def iW (K:PySem.W.Frag) (n:Nat) (t:XD):TG:=fun v σ H Q=>∃ a xs,v=.ref a/\CZ K H a xs/\xs.length=n/\t xs σ H Q
theorem Yx {es:List Expr} {k} {pos:Pos} {t:XD} {n:Nat} (hc:X.calm=true) (h:fV X es t)
  (hn:(assignEach es X.env).length=n:=by rfl) (hst:(assignEach es X.env).findIdx? (·.1)=none:=by rfl):PG X (.Tuple es k pos) (iW X.K n t):=by
 intro pins s σ H v u Q I r hw
 obtain ⟨a,xs,e1,hq,hl,hw⟩:=hw
 subst e1
 cases r
 obtain ⟨its,rv,p,hz⟩:=I.list hq
 rw [assign_Tuple]
 refine wpAny_bind (wpAny_standAt ?_)
 unfold unpack
 have hlen:(assignEach es X.env).length=its.toArray.size:=by simp [hn,← hl,rv.length]
 rw [hlen,hst]
 refine wpAny_bind (wpAny_holding (PySem.W.kun_itemsOf (I.ok.hd hc) p.isList fun h' hx=>?_))
 have I1:Inv X pins σ H { s with heap:=h' }:=I.kept (t':=s.toks) fun b o e=>hx b o (aS (Heap.lt_size e)) e
 exact h pins _ σ H xs _ Q I1 (by simpa using rv) hw
end
end L2
namespace L2
open PySem PySem.Spec PySem.Calls PyProof.Rows
section
variable {X:Cx} {a b c d:Expr} {ta tb tc td:TE} {pos:Pos}
theorem Q4 {op op' op'':CmpOp} {r r' r'':R2} (ho:GF X (compareOp op) r) (ho':GF X (compareOp op') r') (ho'':GF X (compareOp op'') r'') (ha:PE X a ta) (hb:PE X b tb) (hc:PE X c tc) (hd:PE X d td)
  (hm:lastMarks [op,op',op''] [b,c,d]=false:=by with_unfolding_all rfl):PT X (.Compare a [op,op',op''] [b,c,d] pos) (TQ (QG r r' r'' ta tb tc td)):=by
 intro pins s σ H Q I h
 refine isTrue_chain (Bq (ha pins s σ H _ I h) fun v s1 ⟨x,H1,I1,r1,q1⟩=>test_link (Bq (hb pins s1 σ H1 _ I1 q1) fun u s2 ⟨y,H2,I2,r2,q2⟩ =>
  Bq (ho pins s2 σ H2 x y v u _ I2 r1 r2 q2) fun d s3 ⟨z,H3,I3,r3,k,e,q3⟩=>?_)) hm
 subst e
 cases r3
 refine wpAny_truthy_bool ?_
 cases k with
 | false =>
  obtain ⟨k',e',q'⟩:=q3
  cases e'
  exact ite_ff ⟨H3,I3,q'⟩
 | true =>
  refine ite_tt (test_link (Bq (hc pins s3 σ H3 _ I3 q3) fun w' s4 ⟨z',H4,I4,r4,q4⟩=>Bq (ho' pins s4 σ H4 y z' u w' _ I4 r2 r4 q4) fun d5 s5 hq0=>?_))
  obtain ⟨z5,H5,I5,r5,k5,e5,q5⟩:=hq0
  subst e5
  cases r5
  refine wpAny_truthy_bool ?_
  cases k5 with
  | false =>
   obtain ⟨k',e',q'⟩:=q5
   cases e'
   exact ite_ff ⟨H5,I5,q'⟩
  | true =>
   refine ite_tt (test_last (Bq (hd pins s5 σ H5 _ I5 q5) fun w6 s6 ⟨z6,H6,I6,r6,q6⟩=>Bq (ho'' pins s6 σ H6 z' z6 w' w6 _ I6 r4 r6 q6) fun d7 s7 hq0=>?_))
   obtain ⟨z7,H7,I7,r7,k7,e7,q7⟩:=hq0
   subst e7
   cases r7
   exact wpAny_truthy_bool ⟨H7,I7,q7⟩
end
end L2
namespace Ro
open PySem L2 Og
noncomputable def Xw (k:Int) (h:T3):T3:=(h.1,h.2.1+k,h.2.2+k)
noncomputable def K6 (f b:Int) (h:T3):T3:=(h.1,max h.2.1 f,min h.2.2 b)
noncomputable def ne3 (h:T3):Bool:=decide (h.2.1<h.2.2)
noncomputable def WN (l:List T3) (f b tr t:Int):Prop:=0<=t/\t<b - f/\Cv l tr (t+f)
theorem Qf {l:List T3} {k tr t:Int}:Cv (l.map (Xw k)) tr t ↔ Cv l tr (t - k):=by
 constructor
 ·rintro ⟨h,hm,r1,r2,r3⟩
  obtain ⟨x,xm,rfl⟩:=bt.mp hm
  have r2:x.2.1+k<=t:=r2
  have r3:t<x.2.2+k:=r3
  exact ⟨x,xm,r1,by omega,by omega⟩
 ·rintro ⟨x,xm,r1,r2,r3⟩
  exact ⟨Xw k x,List.mem_map.mpr ⟨x,xm,rfl⟩,r1,by show x.2.1+k<=t; omega,by show t<x.2.2+k; omega⟩
theorem Vr {l:List T3} {f b tr t:Int}:Cv (((l.map (K6 f b)).filter ne3).map (Xw (-f))) tr t ↔ WN l f b tr t:=by
 rw [Qf]
 constructor
 ·rintro ⟨h,hm,r1,r2,r3⟩
  obtain ⟨hm1,_⟩:=dr.mp hm
  obtain ⟨x,xm,rfl⟩:=bt.mp hm1
  have r2:max x.2.1 f<=t - -f:=r2
  have r3:t - -f<min x.2.2 b:=r3
  exact ⟨by omega,by omega,x,xm,r1,by omega,by omega⟩
 ·rintro ⟨h1,h2,x,xm,r1,r2,r3⟩
  have a1:max x.2.1 f<=t - -f:=by omega
  have a2:t - -f<min x.2.2 b:=by omega
  exact ⟨K6 f b x,List.mem_filter.mpr ⟨List.mem_map.mpr ⟨x,xm,rfl⟩,decide_eq_true (by show max x.2.1 f<min x.2.2 b; omega)⟩,r1,a1,a2⟩
theorem VD {l:List T3} {f b:Int}:∀ t∈((l.map (K6 f b)).filter ne3).map (Xw (-f)),t.2.1<t.2.2:=fun t ht=>by
 obtain ⟨x,xm,rfl⟩:=bt.mp ht
 have:=of_decide_eq_true (dr.mp xm).2
 show x.2.1 + -f<x.2.2 + -f
 omega
theorem Ut {l:List T3} {f b:Int}:(((l.map (K6 f b)).filter ne3).map (Xw (-f))).length<=l.length:=by
 rw [ag]
 exact br (dS ..) (by rw [ag]; exact ah _)
noncomputable def lf (lo hi:Int) (h:T3):T3:=(h.1,max h.2.1 lo - lo,min h.2.2 hi - lo)
noncomputable def ZK:Sp:=fun vs H Q _=>∃ (a:Addr) (ts:List T3) (ys:List V) (k:Int),vs=[.ref a,.int k]/\Bh H a ts ys/\ys.length<64/\∀ (p:Addr) (zs:List V) (H':Hp),Aq H H'->H p=none->Bh H' p (ts.map (Xw k)) zs->Q (.ref p) H'
noncomputable def cA (B:Hq):Sp:=fun vs H Q _=>∃ (r1 r2:Addr) (l1 l2:Int) (h1 h2:List T3),vs=[.ref r1,.ref r2]/\Cq H r1 l1 h1/\Cq H r2 l2 h2/\h1.length+h2.length<64/\(∀ t∈h1,t.2.1<t.2.2)/\(∀ t∈h2,t.2.1<t.2.2)/\l1+l2<=1000000000000/\Tb B H /\
 ∀ (r:Addr) (hs:List T3) (H':Hp),Kp B H H'->Tb B H'->Xm H H' r (l1+l2) hs->Canon hs->(∀ tr t,Cv hs tr t ↔ (Cv h1 tr t \/ Cv h2 tr (t - l1)))->hs.length<=h1.length+h2.length->Q (.ref r) H'
noncomputable def YT (B:Hq):Sp:=fun vs H Q _=>∃ (a:Addr) (ts:List T3) (ys:List V) (pts:List Int) (lo hi:Int),vs=[.ref a,.int lo,.int hi]/\Bh H a ts ys/\ys.length<64/\(∀ t∈ts,t.2.1∈pts/\t.2.2∈pts)/\pts.length<=16/\Tb B H /\
 ∀ (p:Addr) (hs:List T3) (zs:List V) (H':Hp),Kp B H H'->Tb B H'->Bh H' p hs zs->Canon hs->(∀ tr t,Cv hs tr t ↔ WN ts lo hi tr t)->Q (.ref p) H'
end Ro
namespace Ro
end Ro
namespace L2
open PySem PySem.Spec PyProof.Rows
section
variable {X:Cx} {o e f:Expr} {apos cpos:Pos} {td ty tx:TE}
end
end L2
namespace L2
open PySem PySem.Spec PyProof.Rows
theorem BL {X:Cx} {x:Str} {e:Expr} {te:TE} {pos' pos:Pos} (i:Nat) (hN:X.N.Nodup) (hi:X.N[i]? = some x) (hx:Loc X.env.scope x) (he:PE X e te) (hs:swapsWith e (some (.Name x pos')) pos.line X.env=pure false) (hf:X.fn x=true \/ X.env.scope.names.lookup x=some .local) :
  PS X (.Assign [.Name x pos'] e pos) (TJ te (CV i)):=Fi hN hi hx he hs hf
end L2
namespace L2
open PySem PySem.Spec PyProof.Rows
theorem Ak {X:Cx} {e:Expr} {es:List Expr} {te:TE} {t:TA} (h:starEach (e::es) X.env=(false,eval e X.env)::starEach es X.env) (he:PE X e te) (ht:PA X es t):PA X (e::es) (Xy te t):=Ai he ht h
end L2
namespace L2
open PySem PySem.Spec PyProof.Rows
end L2
namespace Ro
open PySem L2 Og
noncomputable def ZF (hs:List T3) (x t:Int):Bool:=hs.any fun h=>decide (h.1=x) && (decide (h.2.1<=t) && decide (t<h.2.2))
theorem JM {hs:List T3} {x t:Int}:ZF hs x t=true ↔ Cv hs x t:=by
 unfold ZF
 rw [ke]
 constructor
 ·rintro ⟨h,hm,e⟩
  simp only [Bool.and_eq_true,decide_eq_true_eq] at e
  exact ⟨h,hm,e⟩
 ·rintro ⟨h,hm,e⟩
  exact ⟨h,hm,by simpa only [Bool.and_eq_true,decide_eq_true_eq] using e⟩
noncomputable def Uw (n:Nat) (hs:List T3) (t:Int):List Nat:=(List.range n).filter fun p=>ZF hs (p:Int) t
noncomputable def Dd (W:List Int) (hs:List T3) (t:Int):Int:=((Uw W.length hs t).map fun p=>W.getD p 0).sum
theorem Li {n:Nat} {hs:List T3} {t:Int} {p:Nat}:p∈Uw n hs t ↔ p<n/\Cv hs (p:Int) t:=by
 unfold Uw
 rw [dr,dv,JM]
theorem RC (n:Nat) (hs:List T3) (t:Int):(Uw n hs t).Nodup:=List.Nodup.sublist List.filter_sublist List.nodup_range
theorem Fb {W:List Int} {hs hs':List T3} {t t':Int} (h:∀ x,Cv hs x t ↔ Cv hs' x t'):Dd W hs t=Dd W hs' t':=by
 unfold Dd
 have:Uw W.length hs t=Uw W.length hs' t':=by
  unfold Uw
  refine List.filter_congr fun p _=>?_
  rw [eu,JM,JM]
  exact h _
 rw [this]
theorem VH {l m:List Int} (h:l.Perm m):l.sum=m.sum:=by
 induction h with
 | nil=>rfl
 | cons x _ ih=>rw [hZ,hZ,ih]
 | swap x y l=>simp only [List.sum_cons]; omega
 | trans _ _ a b=>exact a.trans b
theorem ZZ {W:List Int} {hs:List T3} {t:Int} {ms:List Int} (nd:ms.Nodup) (hm:∀ x,x∈ms ↔ Cv hs x t) (hb:∀ x∈ms,0<=x/\x<W.length):(ms.map fun x=>W.getD x.toNat 0).sum=Dd W hs t:=by
 have hp:ms.Perm ((Uw W.length hs t).map fun (p:Nat)=>(p:Int)):=by
  refine (List.perm_ext_iff_of_nodup nd ?_).mpr fun x=>?_
  ·refine fo.mpr (List.Pairwise.imp (fun {a b} h e=>h (Int.ofNat_inj.mp e)) (RC _ _ _))
  ·rw [bt]
   constructor
   ·intro hx
    obtain ⟨h0,h1⟩:=hb x hx
    exact ⟨x.toNat,Li.mpr ⟨by omega,by rw [Int.toNat_of_nonneg h0]; exact (hm x).mp hx⟩,by omega⟩
   ·rintro ⟨p,hp,rfl⟩
    exact (hm _).mpr (Li.mp hp).2
 have:=VH (hp.map fun x=>W.getD x.toNat 0)
 rw [this,cE]
 rfl
noncomputable def KH (d:List T3) (a b v:Int):List T3:=match d.getLast? with
 | some x=>if x.2.2=v then d.dropLast++[(x.1,b,v)] else d++[(a,b,v)]
 | none=>d++[(a,b,v)]
noncomputable def Lx (f:Int->Int):List T3->List Int->List T3
 | d,a::b::r=>Lx f (KH d a b (f a)) (b::r)
 | d,_=>d
theorem Jb (f:Int->Int):∀ (T:List Int) (d:List T3) (a b:Int),Lx f d (T++[a,b])=KH (Lx f d (T++[a])) a b (f a)
 | [],d,a,b=>rfl
 | [x],d,a,b=>rfl
 | x::y::T,d,a,b=>Jb f (y::T) _ a b
structure C_ (f:Int->Int) (e:Int) (d:List T3):Prop where
 ch:Bw.Chain 0 d
 en:(d=[]/\e=0) \/ ∃ x,d.getLast? = some x/\x.2.1=e
 un:∀ (i:Nat) x y,d[i]? = some x->d[i+1]? = some y->x.2.2 ≠ y.2.2
 wd:∀ x∈d,∀ t,x.1<=t->t<x.2.1->f t=x.2.2
theorem chain_snoc:∀ {d:List T3} {s:Int} {x:T3},Bw.Chain s d->(d=[]/\x.1=s \/ ∃ y,d.getLast? = some y/\x.1=y.2.1)->x.1<x.2.1->Bw.Chain s (d++[x])
 | [],s,x,_,h,hl=>by
  rcases h with ⟨_,h⟩ | ⟨y,h,_⟩
  ·exact ⟨h,hl,trivial⟩
  ·simp at h
 | [y],s,x,h,h2,hl=>by
  rcases h2 with ⟨z,_⟩ | ⟨y',e,e2⟩
  ·cases z
  ·simp at e
   subst e
   exact ⟨h.1,h.2.1,e2,hl,trivial⟩
 | y::z::d,s,x,h,h2,hl=>by
  refine ⟨h.1,h.2.1,chain_snoc h.2.2 ?_ hl⟩
  rcases h2 with ⟨z,_⟩ | ⟨y',e,e2⟩
  ·cases z
  ·exact .inr ⟨y',by simpa using e,e2⟩
theorem JZ:∀ {d:List T3} {s:Int} {x:T3},Bw.Chain s (d++[x])->Bw.Chain s d/\x.1<x.2.1/\(d=[]/\x.1=s \/ ∃ y,d.getLast? = some y/\x.1=y.2.1)
 | [],s,x,h=>⟨trivial,h.2.1,.inl ⟨rfl,h.1⟩⟩
 | [y],s,x,h=>⟨⟨h.1,h.2.1,trivial⟩,h.2.2.2.1,.inr ⟨y,rfl,h.2.2.1⟩⟩
 | y::z::d,s,x,h=>by
  obtain ⟨h1,h2,h3⟩:=JZ (d:=z::d) h.2.2
  refine ⟨⟨h.1,h.2.1,h1⟩,h2,.inr ?_⟩
  rcases h3 with ⟨e,_⟩ | ⟨y',e,e2⟩
  ·cases e
  ·exact ⟨y',by simpa using e,e2⟩
theorem Qq {d:List T3} {x:T3} (h:d.getLast? = some x):∃ r,d=r++[x]:=by
 rcases ft d with e | ⟨a,b,e⟩
 ·rw [e] at h; cases h
 ·rw [gS] at e
  subst e
  simp at h
  exact ⟨a,by rw [h]⟩
theorem C_.nil (f:Int->Int):C_ f 0 []:=⟨trivial,.inl ⟨rfl,rfl⟩,fun i x y h=>by simp at h,fun x h=>nomatch h⟩
theorem QB {d:List T3} {x:T3} (h:∀ (i:Nat) x y,d[i]? = some x->d[i+1]? = some y->x.2.2 ≠ y.2.2) (h2:∀ y,d.getLast? = some y->y.2.2 ≠ x.2.2):∀ (i:Nat) a b,(d++[x])[i]? = some a->(d++[x])[i+1]? = some b->a.2.2 ≠ b.2.2:=fun i a b ha hb=>by
 by_cases hi:i+1<d.length
 ·rw [dE (by omega)] at ha
  rw [dE hi] at hb
  exact h i a b ha hb
 ·have hl:=(af.mp hb).1
  rw [ar,ck] at hl
  have e:i+1=d.length:=by omega
  rw [dE (by omega)] at ha
  rw [List.getElem?_append_right (by omega),show i+1 - d.length=0 by omega] at hb
  have eb:x=b:=by simpa using hb
  rw [← eb]
  refine h2 a ?_
  rw [List.getLast?_eq_getElem?,← ha]
  congr 1
  omega
theorem C_.step {f:Int->Int} {a b:Int} {d:List T3} (h:C_ f a d) (hab:a<b) (hf:∀ t,a<=t->t<b->f t=f a):C_ f b (KH d a b (f a)):=by
 have push:(∀ y,d.getLast? = some y->y.2.2 ≠ f a)->C_ f b (d++[(a,b,f a)]):=fun hne=>by
  refine ⟨chain_snoc h.ch ?_ hab,.inr ⟨(a,b,f a),by simp,rfl⟩,QB h.un hne,fun x hx=>?_⟩
  ·rcases h.en with ⟨e1,e2⟩ | ⟨y,e1,e2⟩
   ·exact .inl ⟨e1,e2⟩
   ·exact .inr ⟨y,e1,e2.symm⟩
  ·rcases bp.mp hx with z | z
   ·exact h.wd x z
   ·rw [ai.mp z]
    exact hf
 unfold KH
 cases e:d.getLast? with
 | none=>exact push fun y z=>by rw [e] at z; cases z
 | some x =>
  dsimp only
  by_cases hx:x.2.2=f a
  ·rw [if_pos hx]
   obtain ⟨r,rfl⟩:=Qq e
   rw [fg]
   obtain ⟨c1,c2,c3⟩:=JZ h.ch
   have ea:x.2.1=a:=by
    rcases h.en with ⟨z,_⟩ | ⟨y,e1,e2⟩
    ·simp at z
    ·rw [e] at e1
     cases e1
     exact e2
   refine ⟨chain_snoc c1 c3 (by show x.1<b; omega),.inr ⟨(x.1,b,f a),by simp,rfl⟩,QB (fun i u v hu hv=>h.un i u v (by rw [List.getElem?_append_left (List.getElem?_eq_some_iff.mp hu).1]; exact hu) (by rw [List.getElem?_append_left (List.getElem?_eq_some_iff.mp hv).1]; exact hv)) (fun y hy=>?_),fun u hu=>?_⟩
   ·obtain ⟨r',rfl⟩:=Qq hy
    have:=h.un r'.length y x (by simp) (by simp)
    show y.2.2 ≠ f a
    rw [← hx]
    exact this
   ·rcases bp.mp hu with z | z
    ·exact h.wd u (dt _ z)
    ·rw [ai.mp z]
     intro t h1 h2
     by_cases ht:t<x.2.1
     ·show f t=f a
      rw [← hx]
      exact h.wd x (aT _ am) t h1 ht
     ·exact hf t (by omega) h2
  ·rw [if_neg hx]
   exact push fun y z=>by rw [e] at z; cases z; exact hx
structure Tks (len:Int) (hs:List T3) (T:List Int):Prop where
 st:T.Pairwise (· < ·)
 mm:∀ t,t∈T ↔ t=0 \/ t=len \/ Tk hs t
theorem Tks.ok {len:Int} {hs:List T3} {T:List Int} (W:List Int) (h:Tks len hs T) (h0:0<=len) (hh:∀ x∈hs,0<=x.2.1/\x.2.1<x.2.2/\x.2.2<=len):∀ (i:Nat) (e:Int),T[i]? = some e->C_ (Dd W hs) e (Lx (Dd W hs) [] (T.take (i+1))):=by
 have lo:∀ t∈T,0<=t:=fun t ht=>by
  rcases (h.mm t).mp ht with e | e | ⟨x,hx,e⟩
  ·omega
  ·omega
  ·have:=hh x hx
   omega
 intro i
 induction i with
 | zero =>
  intro e he
  have e0:e=0:=by
   obtain ⟨j,hj⟩:=fw.mp ((h.mm 0).mpr (.inl rfl))
   have:=lo e (aI he)
   by_cases hj0:j=0
   ·subst hj0
    rw [he] at hj
    exact Option.some.inj hj
   ·have l1:=(af.mp hj)
    have l2:=(af.mp he)
    have:=df.mp h.st 0 j l2.1 l1.1 (by omega)
    omega
  subst e0
  obtain ⟨hd,r,rfl⟩:∃ x r,T=x::r:=by
   cases T with
   | nil=>simp at he
   | cons x r=>exact ⟨x,r,rfl⟩
  exact C_.nil _
 | succ i ih =>
  intro e he
  have hi:i+1<T.length:=(af.mp he).1
  have ha:=ae (l:=T) (i:=i) (by omega)
  have hlt:T[i]<e:=by
   have:=df.mp h.st i (i+1) (by omega) hi (by omega)
   rw [(af.mp he).2] at this
   exact this
  have tk1:T.take (i+1)=T.take i++[T[i]]:=by
   rw [cf,ha]
   rfl
  have tk:T.take (i+1+1)=T.take i++[T[i],e]:=by
   rw [cf,he,tk1]
   show T.take i++[T[i]]++[e]=_
   rw [hU]
   rfl
  have I:=ih _ ha
  rw [tk1] at I
  rw [tk,Jb]
  refine I.step hlt fun t h1 h2=>Fb fun x=>VL h1 (fun u hu hut=>?_) x
  refine Classical.byContradiction fun hc=>?_
  obtain ⟨j,hj⟩:=fw.mp ((h.mm u).mpr (.inr (.inr hu)))
  obtain ⟨l1,e1⟩:=af.mp hj
  have l2:=(af.mp he).2
  by_cases hji:j<=i
  ·by_cases ej:j=i
   ·subst ej
    omega
   ·have:=df.mp h.st j i l1 (by omega) (by omega)
    omega
  ·by_cases ej:j=i+1
   ·subst ej
    omega
   ·have:=df.mp h.st (i+1) j hi l1 (by omega)
    omega
theorem Tks.last {len:Int} {hs:List T3} {T:List Int} (h:Tks len hs T) (h0:0<=len) (hh:∀ x∈hs,0<=x.2.1/\x.2.1<x.2.2/\x.2.2<=len):T ≠ []/\T[T.length - 1]? = some len:=by
 have hm:=(h.mm len).mpr (.inr (.inl rfl))
 have ne:T ≠ []:=fun z=>by rw [z] at hm; cases hm
 have hl:0<T.length:=List.length_pos_iff.mpr ne
 refine ⟨ne,?_⟩
 rw [ae (by omega)]
 congr 1
 have hi:∀ t∈T,t<=len:=fun t ht=>by
  rcases (h.mm t).mp ht with e | e | ⟨x,hx,e⟩
  ·omega
  ·omega
  ·have:=hh x hx
   omega
 obtain ⟨j,hj⟩:=fw.mp hm
 obtain ⟨l1,e1⟩:=af.mp hj
 have:=hi T[T.length - 1] (eR _)
 by_cases ej:j=T.length - 1
 ·subst ej
  exact e1
 ·have:=df.mp h.st j (T.length - 1) l1 (by omega) (by omega)
  omega
theorem Tks.all {len:Int} {hs:List T3} {T:List Int} (W:List Int) (h:Tks len hs T) (h0:0<=len) (hh:∀ x∈hs,0<=x.2.1/\x.2.1<x.2.2/\x.2.2<=len):C_ (Dd W hs) len (Lx (Dd W hs) [] T):=by
 obtain ⟨ne,hl⟩:=h.last h0 hh
 have:=h.ok W h0 hh _ _ hl
 have hp:0<T.length:=List.length_pos_iff.mpr ne
 rw [show T.length - 1+1=T.length by omega,List.take_length] at this
 exact this
end Ro
namespace L2
open PySem PySem.Spec PyProof.Rows
theorem T8 {K:PySem.W.Frag} {a b:Addr} {xs ys:List V} {g:TG} {tb:TS} {D:Ends} {σ:St} {H:Hp} (Pv:Nat->St->Hp->Prop) (h0:Pv 0 σ H) (hl:∀ i σ H,i<=xs.length->Pv i σ H->CZ K H a xs/\CZ K H b ys)
  (hb:∀ (i:Nat) x y σ H T,xs[i]? = some x->ys[i]? = some y->Pv i σ H->H T=none->g (.ref T) σ (upd H T (.tup [x,y])) fun σ' H'=>tb { D with nx:=Pv (i+1),ct:=Pv (i+1),bk:=D.nx } σ' H')
  (hn:∀ i σ H,¬ (i<xs.length/\i<ys.length)->i<=xs.length->Pv i σ H->D.nx σ H):∃ W:Nat->Nat->St->Hp->Prop,(∃ m,W 0 m σ H)/\∀ i m σ H,W i m σ H ->
   ((UV K a b).stop i H/\D.nx σ H) \/ ((UV K a b).go i H/\∃ N:St->Hp->Prop,(∀ σ H,N σ H->∃ m',m'<m/\W (i+1) m' σ H)/\∀ x H',(UV K a b).yld i H x H'->g x σ H' fun σ' H''=>tb { D with nx:=N,ct:=N,bk:=D.nx } σ' H''):=by
 refine ⟨fun i m σ H=>m=xs.length - i/\i<=xs.length/\Pv i σ H,⟨_,rfl,cm _,h0⟩,?_⟩
 rintro i m σ H ⟨rfl,hi,hp⟩
 obtain ⟨q1,q2⟩:=hl i σ H hi hp
 by_cases hlt:i<xs.length/\i<ys.length
 ·refine .inr ⟨⟨xs,ys,_,_,q1,q2,ae hlt.1,ae hlt.2⟩,Pv (i+1),fun σ' H' h=>⟨xs.length - (i+1),by omega,rfl,hlt.1,h⟩,fun v H' hv=>?_⟩
  obtain ⟨T,hT,rfl,hv⟩:=hv
  obtain ⟨x,y,qx,qy,rfl⟩:=hv xs ys q1 q2
  exact hb i x y σ H T qx qy hp hT
 ·exact .inl ⟨⟨xs,ys,q1,q2,by omega⟩,hn i σ H hlt hi hp⟩
section
variable {X:Cx}
end
end L2
namespace L2
open PySem PySem.Spec PyProof.Rows
theorem Ly:∀ ns:List Int,(∀ n∈ns,0<=n)->0<=ns.sum
 | [],_=>fz _
 | x::r,h=>by
  rw [hZ]
  have h1:=h x (am ..)
  have h2:=Ly r fun y hy=>h y (av _ hy)
  omega
theorem WL (ns:List Int) (j:Nat) (h:∀ n∈ns,0<=n):0<=(ns.take j).sum/\(ns.take j).sum<=ns.sum:=by
 have e:ns.sum=(ns.take j).sum+(ns.drop j).sum:=by rw [← kD,ja]
 have h1:=Ly (ns.take j) fun n hn=>h n (ia hn)
 have h2:=Ly (ns.drop j) fun n hn=>h n (List.mem_of_mem_drop hn)
 omega
theorem Jl:∀ ns:List Int,(∀ n∈ns,0<=n)->∀ n∈ns,n<=ns.sum
 | [],_,n,hn=>nomatch hn
 | x::r,h,n,hn=>by
  rw [hZ]
  have h1:=h x (am ..)
  have h2:=Ly r fun y hy=>h y (av _ hy)
  rcases bi.mp hn with rfl | hn
  ·omega
  ·have:=Jl r (fun y hy=>h y (av _ hy)) n hn
   omega
section
variable {X:Cx}
theorem Q_ (hc:X.calm=true):Du X (.builtin "sum") (fun xs H Q=>∃ (p:Addr) (ns:List Int),xs=[V.ref p]/\CZ X.K H p (ns.map V.int)/\(∀ n∈ns,0<=n)/\ns.sum<=4611686018427387904/\Q (.int ns.sum) H):=by
 intro pins s σ H xs us Q I r h
 obtain ⟨p,ns,rfl,hp,hb,hl,q⟩:=h
 obtain ⟨u,rfl,ru⟩:=vals1 r
 cases ru
 obtain ⟨its,rv,pl,hz⟩:=I.list hp
 have hlen:ns.length=its.length:=by have:=rv.length; rw [ag] at this; exact this
 have hlt:p<s.heap.objs.size:=by obtain ⟨_,e,_⟩:=pl.isList; exact Heap.lt_size e
 refine call_sum_walk (wpAny_pyIter_list pl.isList ?_)
 refine ⟨s.heap.objs.size,[s.heap.objs.size,p],[s.heap.objs.size],its.toArray.size,_,_,fun i=>(ns[i]?).getD 0,rfl,Walks.list (A:=X.A.in1) (I.ok.hd hc) _ p (aS hlt) its.toArray,
  ⟨⟨_,Heap.get?_push_size _ rfl,rfl,rfl⟩,pl.isList.push _⟩,fun b hb=>?_,fun i v hP=>?_,fun j hj=>?_,fun h' tk t' hk=>?_⟩
 ·rw [Heap.size_push]
  rcases bi.mp hb with rfl | hb
  ·exact gz _
  ·rw [ai.mp hb]
   exact fm hlt
 ·have hP':its[i]? = some v:=by simpa using hP
  have hi:i<its.length:=(af.mp hP').1
  have hb:ns[i]? = some ns[i]:=by simp [hlen,hi]
  obtain ⟨u,hu,ru⟩:=rv.get (i:=i) (x:=.int ns[i]) (by rw [ax,hb]; rfl)
  rw [hP'] at hu
  cases hu
  obtain ⟨t,rfl⟩:=ru
  exact ⟨t,by dsimp only; rw [hb]; rfl⟩
 ·have hj':j<ns.length:=by rw [hlen]; simpa using hj
  rw [Gf ns (j+1) (by omega)]
  have h1:=hb ns[j] (eR hj')
  have h2:=WL ns (j+1) hb
  have h3:=Jl ns hb ns[j] (eR hj')
  unfold InLong
  dsimp only
  rw [ae hj']
  rw [Option.getD_some]
  refine ⟨⟨?_,?_⟩,⟨?_,?_⟩⟩ <;> omega
 ·have e:preSum (fun i=>(ns[i]?).getD 0) its.toArray.size=ns.sum:=by rw [bo,← hlen,Gf ns _ (ah _),eD]
  rw [e]
  refine ⟨.int ns.sum,H,I.kept (t':=tk) fun b o eb=>hk b o (fun hm=>?_) (Heap.get?_push_of_some _ eb),⟨_,rfl⟩,q⟩
  rw [ai.mp hm] at eb
  exact ed _ (Heap.lt_size eb)
end
end L2
namespace Og
end Og
namespace Ro
open PySem L2 Og
structure DN (f:Int->Int) (s e:Int) (d:List T3):Prop where
 ch:Bw.Chain s d
 en:(d=[]/\e=s) \/ ∃ x,d.getLast? = some x/\x.2.1=e
 un:∀ (i:Nat) x y,d[i]? = some x->d[i+1]? = some y->x.2.2 ≠ y.2.2
 wd:∀ x∈d,∀ t,x.1<=t->t<x.2.1->f t=x.2.2
theorem C_.g {f:Int->Int} {e:Int} {d:List T3} (h:C_ f e d):DN f 0 e d:=⟨h.ch,h.en,h.un,h.wd⟩
theorem DN.tl {f:Int->Int} {s e:Int} {x:T3} {d:List T3} (h:DN f s e (x::d)):DN f x.2.1 e d:=by
 refine ⟨h.ch.2.2,?_,fun i a b ha hb=>h.un (i+1) a b ha hb,fun y hy=>h.wd y (av _ hy)⟩
 rcases h.en with ⟨z,_⟩ | ⟨y,hy,e2⟩
 ·cases z
 ·cases d with
  | nil =>
   simp at hy
   subst hy
   exact .inl ⟨rfl,e2.symm⟩
  | cons z d=>exact .inr ⟨y,by simpa using hy,e2⟩
theorem DN.le {f:Int->Int}:∀ {d:List T3} {s e:Int},DN f s e d->s<=e
 | [],s,e,h=>by
  rcases h.en with ⟨_,z⟩ | ⟨y,hy,_⟩
  ·omega
  ·cases hy
 | x::d,s,e,h=>by
  have:=DN.le h.tl
  have:=h.ch.1
  have:=h.ch.2.1
  omega
theorem DN.Mz {f:Int->Int}:∀ {d d':List T3} {s e:Int},DN f s e d->DN f s e d'->d=d'
 | [],[],_,_,_,_=>rfl
 | [],x::d,s,e,h,h'=>by
  have h1:=DN.le h'.tl
  have:=h'.ch.1
  have:=h'.ch.2.1
  rcases h.en with ⟨_,z⟩ | ⟨y,hy,_⟩
  ·omega
  ·cases hy
 | x::d,[],s,e,h,h'=>by
  have h1:=DN.le h.tl
  have:=h.ch.1
  have:=h.ch.2.1
  rcases h'.en with ⟨_,z⟩ | ⟨y,hy,_⟩
  ·omega
  ·cases hy
 | x::d,y::d',s,e,h,h'=>by
  have key:∀ {x y:T3} {d d':List T3},DN f s e (x::d)->DN f s e (y::d')->¬ x.2.1<y.2.1:=fun {x y d d'} h h' hlt=>by
   have x1:=h.ch.1
   have x2:=h.ch.2.1
   have y1:=h'.ch.1
   have hle:=DN.le h'.tl
   have e1:=h.wd x am s (by omega) (by omega)
   have e2:=h'.wd y am s (by omega) (by omega)
   have e3:=h'.wd y am x.2.1 (by omega) hlt
   cases d with
   | nil =>
    rcases h.tl.en with ⟨_,z⟩ | ⟨w,hw,_⟩
    ·omega
    ·cases hw
   | cons z d =>
    have z1:=h.tl.ch.1
    have z2:=h.tl.ch.2.1
    have e4:=h.tl.wd z am x.2.1 (by omega) (by omega)
    have:=h.un 0 x z rfl rfl
    omega
  have a:=key h h'
  have b:=key h' h
  have e0:x.2.1=y.2.1:=by omega
  have x1:=h.ch.1
  have y1:=h'.ch.1
  have x2:=h.ch.2.1
  have y2:=h'.ch.2.1
  have e1:=h.wd x am s (by omega) (by omega)
  have e2:=h'.wd y am s (by omega) (by omega)
  have exy:x=y:=by
   obtain ⟨p,q,r⟩:=x
   obtain ⟨p',q',r'⟩:=y
   dsimp only at *
   rw [x1,y1,e0,← e1,← e2]
  subst exy
  rw [DN.Mz h.tl h'.tl]
theorem C_.Mz {f:Int->Int} {e:Int} {d d':List T3} (h:C_ f e d) (h':C_ f e d'):d=d':=DN.Mz h.g h'.g
end Ro
namespace Og
open PySem L2 PyProof.Rows
variable {K:PySem.W.Frag}
structure Zw (K:PySem.W.Frag) (aB aP aM:Addr):Prop where
 f:KF K aB aP aM
 pR:∃ a,PySem.W.nsIn K aP "rank" = some (some (.ref a))/\KTup K a (["new","pipes","wind"].map fun s:String=>V.str s)
 pL:∃ a,PySem.W.nsIn K aP "line" = some (some (.ref a))/\KTup K a (["rank","shift","low","high"].map fun s:String=>V.str s)
 bP:∃ a,PySem.W.nsIn K aB "pipes" = some (some (.ref a))/\KTup K a [.int 1,.int 97]
 bW:∃ a,PySem.W.nsIn K aB "wind" = some (some (.ref a))/\KTup K a [.int 0,.int 1000000000]
 bS:∃ a,PySem.W.nsIn K aB "shift" = some (some (.ref a))/\KTup K a [.int (-200),.int 200]
 bLo:∃ a,PySem.W.nsIn K aB "low" = some (some (.ref a))/\KTup K a [.int 0,.int 60]
 bHi:∃ a,PySem.W.nsIn K aB "high" = some (some (.ref a))/\KTup K a [.int 0,.int 60]
 bR:PySem.W.nsIn K aB "rank" = some none
 mR:∃ t,PySem.W.nsIn K aM "rank" = some (some (.int 12 t))
 mL:PySem.W.nsIn K aM "line" = some none
section
variable {aB aP aM:Addr} {ρ:V->R} {vs:List V} {wn:List (Str × Str)} {t:Str}
theorem V1 {r:R} (h:Vb K aB aP aM ρ vs r) (hb:Fe ρ vs):G7 K aB aP aM ρ vs r:=⟨h.ns,h.parts,.inr h.room,fun z=>absurd z h.nl,hb⟩
theorem RQ (F:Zw K aB aP aM) (e:KY ρ vs=wn) (ht:isNm t) (h:∀ w∈named,cI wn w t=false) (hc:Yy wn "rank" < 12) {n:Nat} {wi:Int} (h1:1<=n) (h2:n<=97) (h3:0<=wi) (h4:wi<=1000000000) (hb:Fe ρ vs):G7 K aB aP aM ρ vs (Hn (t,n,wi)):=by
 obtain ⟨ap,g1,g2⟩:=F.pR
 obtain ⟨ab,g3,g4⟩:=F.bP
 obtain ⟨aw,g6,g7⟩:=F.bW
 obtain ⟨tk,g5⟩:=F.mR
 refine ⟨by show ¬ ("rank" : Str) = "step"; decide +kernel,⟨ap,["new","pipes","wind"],g1,g2,rfl,by decide,fun j x y hx hy=>?_⟩,.inr ⟨12,tk,g5,?_⟩,fun z=>absurd z (by show ¬ ("rank" : Str) = "line"; decide +kernel),hb⟩
 ·match j,hx,hy with
  | 0,hx,hy =>
   cases (Option.some.inj hx)
   cases (Option.some.inj hy)
   exact Nb F.f e ht h
  | 1,hx,hy =>
   cases (Option.some.inj hx)
   cases (Option.some.inj hy)
   exact .inl ⟨((n:Nat):Int),1,97,ab,rfl,g3,g4,by omega,by omega⟩
  | 2,hx,hy =>
   cases (Option.some.inj hx)
   cases (Option.some.inj hy)
   exact .inl ⟨_,0,1000000000,aw,rfl,g6,g7,h3,h4⟩
  | j+3,hx,hy=>simp at hy
 ·rw [LC,e]
  show ((Yy wn "rank" : Nat):Int)<12
  omega
end
structure KQ (K:PySem.W.Frag) (aB aP aM:Addr) (ρ:V->R) (us:List V) (bs:List (Str × Nat)) (rk:List (Str × Nat × Int)) (ks:List R):Prop where
 kinds:∀ v∈us,(ρ v).w = "board" \/ (ρ v).w = "rank" \/ (ρ v).w = "line" \/ (ρ v).w = "stop" \/ (ρ v).w = "coupler" \/ (ρ v).w = "mute"
 eb:(us.filter (pw ρ "board")).map ρ=bs.map HB
 er:(us.filter (pw ρ "rank")).map ρ=rk.map Hn
 ek:(us.filter (fun v=>JD (ρ v).w)).map ρ=ks
 ln:∀ (i:Nat) v,us[i]? = some v->(ρ v).w = "line"->(∃ (j:Nat) (r:Str × Nat × Int) (sh lo hi:Int),rk[j]? = some r/\r.1=(ρ v).nm/\(ρ v).rest=[.int sh,.int lo,.int hi])/\∃ u∈us.take i,JD (ρ u).w=true
 ok:∀ (i:Nat) v,us[i]? = some v->G7 K aB aP aM ρ (us.take i) (ρ v)
section
variable {aB aP aM:Addr} {ρ:V->R} {us:List V} {v:V} {bs bs':List (Str × Nat)} {rk rk':List (Str × Nat × Int)} {ks ks':List R}
theorem Wu {w t:Str}:X4 ρ us w t=true ↔ ∃ v∈us,(ρ v).w=w/\(ρ v).nm=t:=by
 unfold X4
 rw [ke]
 constructor
 ·rintro ⟨v,hv,hn⟩
  obtain ⟨h1,h2⟩:=dr.mp hv
  exact ⟨v,h1,V.str.inj (of_decide_eq_true h2),V.str.inj (of_decide_eq_true hn)⟩
 ·rintro ⟨v,hv,h1,h2⟩
  exact ⟨v,dr.mpr ⟨hv,decide_eq_true (congrArg V.str h1)⟩,decide_eq_true (congrArg V.str h2)⟩
theorem KQ.nil:KQ K aB aP aM ρ [] [] [] []:=⟨(fun _ h=>nomatch h),rfl,rfl,rfl,(fun i v h=>by simp at h),(fun i v h=>by simp at h)⟩
theorem KQ.Xk (h:KQ K aB aP aM ρ us bs rk ks) (hv:v∈us) (hw:(ρ v).w = "board"):∃ b∈bs,HB b=ρ v:=by
 have:ρ v∈(us.filter (pw ρ "board")).map ρ:=eJ (dr.mpr ⟨hv,decide_eq_true (congrArg V.str hw)⟩)
 rw [h.eb] at this
 exact bt.mp this
theorem KQ.fK (h:KQ K aB aP aM ρ us bs rk ks) (hv:v∈us) (hw:(ρ v).w = "rank"):∃ b∈rk,Hn b=ρ v:=by
 have:ρ v∈(us.filter (pw ρ "rank")).map ρ:=eJ (dr.mpr ⟨hv,decide_eq_true (congrArg V.str hw)⟩)
 rw [h.er] at this
 exact bt.mp this
theorem KQ.U3 (h:KQ K aB aP aM ρ us bs rk ks) (hv:v∈us) (hw:JD (ρ v).w=true):ρ v∈ks:=by
 have:ρ v∈(us.filter (fun v=>JD (ρ v).w)).map ρ:=eJ (dr.mpr ⟨hv,hw⟩)
 rw [h.ek] at this
 exact this
theorem KQ.iC (h:KQ K aB aP aM ρ us bs rk ks):Fe ρ us:=fun v hv hw=>by
 obtain ⟨b,_,e⟩:=h.Xk hv hw
 exact ⟨_,by rw [← e]⟩
theorem Ou {w:Str} (h:w = "stop" \/ w = "coupler" \/ w = "mute"):JD w=true:=by rcases h with rfl | rfl | rfl <;> decide +kernel
theorem KQ.fresh (h:KQ K aB aP aM ρ us bs rk ks) {t:Str} (hb:∀ b∈bs,b.1 ≠ t) (hr:∀ r∈rk,r.1 ≠ t) (hk:∀ k∈ks,k.nm ≠ t):∀ w∈named,cI (KY ρ us) w t=false:=by
 intro w hw
 rw [← Tv,← kR,Wu]
 rintro ⟨v,hv,hw',hn⟩
 simp only [List.mem_cons,List.mem_singleton,List.not_mem_nil,or_false] at hw
 rcases hw with rfl | rfl | rfl | rfl | rfl
 ·obtain ⟨b,hb',e⟩:=h.Xk hv hw'
  exact hb b hb' (by rw [← hn,← e])
 ·obtain ⟨b,hb',e⟩:=h.fK hv hw'
  exact hr b hb' (by rw [← hn,← e])
 ·exact hk _ (h.U3 hv (Ou (.inl hw'))) hn
 ·exact hk _ (h.U3 hv (Ou (.inr (.inl hw')))) hn
 ·exact hk _ (h.U3 hv (Ou (.inr (.inr hw')))) hn
theorem KQ.dX (h:KQ K aB aP aM ρ us bs rk ks):Yy (KY ρ us) "board" = bs.length:=by
 rw [← LC,← ag (f:=ρ),h.eb,ag]
theorem KQ.dF (h:KQ K aB aP aM ρ us bs rk ks):Yy (KY ρ us) "rank" = rk.length:=by
 rw [← LC,← ag (f:=ρ),h.er,ag]
theorem KQ.snoc (h:KQ K aB aP aM ρ us bs rk ks) (hk:(ρ v).w = "board" \/ (ρ v).w = "rank" \/ (ρ v).w = "line" \/ (ρ v).w = "stop" \/ (ρ v).w = "coupler" \/ (ρ v).w = "mute")
  (eb:((us++[v]).filter (pw ρ "board")).map ρ=bs'.map HB) (er:((us++[v]).filter (pw ρ "rank")).map ρ=rk'.map Hn) (ek:((us++[v]).filter (fun v=>JD (ρ v).w)).map ρ=ks')
  (hr:∀ (j:Nat) r,rk[j]? = some r->rk'[j]? = some r)
  (hl:(ρ v).w = "line"->(∃ (j:Nat) (r:Str × Nat × Int) (sh lo hi:Int),rk'[j]? = some r/\r.1=(ρ v).nm/\(ρ v).rest=[.int sh,.int lo,.int hi])/\∃ u∈us,JD (ρ u).w=true)
  (ok:G7 K aB aP aM ρ us (ρ v)):KQ K aB aP aM ρ (us++[v]) bs' rk' ks':=by
 have at_:∀ {i:Nat} {u:V},(us++[v])[i]? = some u->us[i]? = some u/\(us++[v]).take i=us.take i \/ u=v/\(us++[v]).take i=us:=fun {i u} hi=>by
  by_cases hlt:i<us.length
  ·rw [dE hlt] at hi
   exact .inl ⟨hi,fA (fI hlt)⟩
  ·have h2:=(af.mp hi).1
   rw [ar,ck] at h2
   have hil:i=us.length:=by omega
   subst hil
   rw [eS (ah _),kX] at hi
   exact .inr ⟨(Option.some.inj hi).symm,by rw [fA (ah _),eD]⟩
 refine ⟨fun u hu=>?_,eb,er,ek,fun i u hi hw=>?_,fun i u hi=>?_⟩
 ·rcases bp.mp hu with h' | h'
  ·exact h.kinds u h'
  ·rw [ai.mp h']
   exact hk
 ·rcases at_ hi with ⟨h1,h2⟩ | ⟨rfl,h2⟩
  ·rw [h2]
   obtain ⟨⟨j,r,sh,lo,hi',g1,g2,g3⟩,g4⟩:=h.ln i u h1 hw
   exact ⟨⟨j,r,sh,lo,hi',hr j r g1,g2,g3⟩,g4⟩
  ·rw [h2]
   exact hl hw
 ·rcases at_ hi with ⟨h1,h2⟩ | ⟨rfl,h2⟩
  ·rw [h2]
   exact h.ok i u h1
  ·rw [h2]
   exact ok
theorem NB {p:V->Bool} (h:p v=true):(us++[v]).filter p=us.filter p++[v]:=by
 rw [iE,fE,if_pos h]
 rfl
theorem JH {p:V->Bool} (h:p v=false):(us++[v]).filter p=us.filter p:=by
 rw [iE,fE,if_neg (by rw [h]; decide)]
 simp
end
structure RZ (K:PySem.W.Frag) (aB aP aM:Addr) (rows:List R) (bs:List (Str × Nat)) (rk:List (Str × Nat × Int)) (ks:List R) (ls:List (List Ln)):Prop where
 ok:∀ (ρ:V->R) (us:List V),us.map ρ=rows->KQ K aB aP aM ρ us bs rk ks
 ln0:ks=[]->∀ rk',linesOf rk' rows=[]
 ln:linesOf rk rows=ls
section
variable {aB aP aM:Addr} {rows:List R} {bs:List (Str × Nat)} {rk:List (Str × Nat × Int)} {ks:List R} {ls:List (List Ln)}
theorem RZ.nil:RZ K aB aP aM [] [] [] [] []:=⟨fun ρ us e=>by rw [List.map_eq_nil_iff.mp e]; exact KQ.nil,fun _ _=>rfl,rfl⟩
theorem Pj {ρ:V->R} {us:List V} {r:R} (e:us.map ρ=rows++[r]):∃ us' v,us=us'++[v]/\us'.map ρ=rows/\ρ v=r:=by
 obtain ⟨a,b,rfl,h1,h2⟩:=List.map_eq_append_iff.mp e
 obtain ⟨v,l,rfl,h3,h4⟩:=List.map_eq_cons_iff.mp h2
 rw [List.map_eq_nil_iff.mp h4]
 exact ⟨a,v,rfl,h1,h3⟩
theorem RZ.Z6 (F:Zw K aB aP aM) (h:RZ K aB aP aM rows bs [] [] []) {t:Str} {n:Nat} (ht:isNm t) (hf:∀ b∈bs,b.1 ≠ t) (hb:bs.length<5) (h1:1<=n) (h2:n<=61):RZ K aB aP aM (rows++[HB (t,n)]) (bs++[(t,n)]) [] [] []:=by
 refine ⟨fun ρ us e=>?_,fun _ rk'=>?_,?_⟩
 ·obtain ⟨us',v,rfl,e',hv⟩:=Pj e
  have O:=h.ok ρ us' e'
  refine O.snoc (.inl (by rw [hv])) ?_ ?_ ?_ (fun _ _ h=>h) (fun z=>absurd (hv ▸ z) (by show ¬ ("board" : Str) = "line"; decide +kernel)) ?_
  ·rw [NB (by unfold pw; rw [hv]; exact decide_eq_true rfl),List.map_append,O.eb,List.map_append,List.map_singleton,hv]
   rfl
  ·rw [JH (by unfold pw; rw [hv]; show decide (V.str "board" = V.str "rank")=false; decide +kernel),O.er]
  ·rw [JH (by rw [hv]; show JD "board" = false; decide +kernel),O.ek]
  ·rw [hv]
   exact V1 (Rw F.f rfl ht (O.fresh hf (fun _ z=>nomatch z) (fun _ z=>nomatch z)) (by rw [O.dX]; exact hb) h1 h2) O.iC
 ·rw [Ci,h.ln0 rfl rk']
  rfl
 ·rw [Ci,h.ln0 rfl []]
  rfl
theorem RZ.rank (F:Zw K aB aP aM) (h:RZ K aB aP aM rows bs rk [] []) {t:Str} {n:Nat} {wi:Int} (ht:isNm t) (hf:∀ b∈bs,b.1 ≠ t) (hr:∀ r∈rk,r.1 ≠ t) (hc:rk.length<12) (h1:1<=n) (h2:n<=97) (h3:0<=wi) (h4:wi<=1000000000):RZ K aB aP aM (rows++[Hn (t,n,wi)]) bs (rk++[(t,n,wi)]) [] []:=by
 refine ⟨fun ρ us e=>?_,fun _ rk'=>?_,?_⟩
 ·obtain ⟨us',v,rfl,e',hv⟩:=Pj e
  have O:=h.ok ρ us' e'
  refine O.snoc (.inr (.inl (by rw [hv]))) ?_ ?_ ?_ (fun j r h=>by rw [List.getElem?_append_left (List.getElem?_eq_some_iff.mp h).1]; exact h) (fun z=>absurd (hv ▸ z) (by show ¬ ("rank" : Str) = "line"; decide +kernel)) ?_
  ·rw [JH (by unfold pw; rw [hv]; show decide (V.str "rank" = V.str "board")=false; decide +kernel),O.eb]
  ·rw [NB (by unfold pw; rw [hv]; exact decide_eq_true rfl),List.map_append,O.er,List.map_append,List.map_singleton,hv]
   rfl
  ·rw [JH (by rw [hv]; show JD "rank" = false; decide +kernel),O.ek]
  ·rw [hv]
   exact RQ F rfl ht (O.fresh hf hr (fun _ z=>nomatch z)) (by rw [O.dF]; exact hc) h1 h2 h3 h4 O.iC
 ·rw [Ci,h.ln0 rfl rk']
  rfl
 ·rw [Ci,h.ln0 rfl _]
  rfl
noncomputable def Tl (rows:List R) (bd:Str) (cnt:Nat):Prop:=∃ (r0:List R) (st:R) (lr:List R),rows=r0++st::lr/\st.w = "stop" /\ st.rest=[.str bd]/\lr.length=cnt/\∀ r∈lr,r.w = "line"
theorem RZ.fin {H:Hp} {vs:List V} (h:RZ K aB aP aM rows bs rk ks ls) (hv:Paired (fun (r:R) v=>TupAt H r.v v) rows vs) (b0:1<=bs.length) (b5:bs.length<=5) (sz:∀ b∈bs,b.2<=61) (nr:rk.length<=12) (nz:∀ r∈rk,r.2.1<=97) (nk:ks.length<=100) (nb:(bs.map (·.1)).Nodup) (nrr:(rk.map (·.1)).Nodup) (nn:(ks.map (·.nm)).Nodup) (len:rows.length<=150) :
  Rows H (Vy H) vs/\cB K aB aP aM (Vy H) vs bs rk ks/\linesOf rk (vs.map (Vy H))=ls:=by
 have em:=Wx hv
 have O:=h.ok (Vy H) vs em
 refine ⟨fun v hv'=>?_,⟨O.kinds,O.eb,O.er,O.ek,O.ln,b0,b5,sz,nr,nz,nk,nb,nrr,nn,by rw [← hv.length]; exact len,O.ok⟩,by rw [em]; exact h.ln⟩
 obtain ⟨r,_,hr⟩:=Ec hv hv'
 rw [Ux hr]
 exact hr
end
end Og
namespace PySem
open Sem (wp)
namespace F
end F
end PySem
namespace L2
open PySem PySem.Spec PySem.Calls PyProof.Rows
section
variable {X:Cx}
end
end L2
namespace L2
open PySem PySem.Spec PyProof.Rows
section
variable {prog:Program} {w:World} {A:Around} {E:Value->Shared->Prop} {s:Shared}
noncomputable def mz (d:Addr) (ks:List Value) (ep:Nat) (h:Heap):Prop:=∃ o es,h.get? d=some o/\o.ExactDict/\o.data=.dict es ep/\es.toList.map (·.key)=ks
end
section
variable {X:Cx}
end
end L2
namespace Ro
open PySem L2 Og
theorem DN.in {f:Int->Int}:∀ {d:List T3} {s e:Int},DN f s e d->∀ x∈d,s<=x.1/\x.1<x.2.1/\x.2.1<=e
 | [],_,_,_,x,hx=>nomatch hx
 | y::d,s,e,h,x,hx=>by
  have y1:=h.ch.1
  have y2:=h.ch.2.1
  have hl:=h.tl.le
  rcases bi.mp hx with rfl | hx
  ·omega
  ·have:=DN.in h.tl x hx
   omega
theorem DN.congr {f g:Int->Int} {s e:Int} {d:List T3} (h:DN f s e d) (he:∀ t,s<=t->t<e->f t=g t):DN g s e d :=
 ⟨h.ch,h.en,h.un,fun x hx t h1 h2=>by
  have:=h.in x hx
  rw [← he t (by omega) (by omega)]
  exact h.wd x hx t h1 h2⟩
theorem DN.ok {f:Int->Int} {e:Int} {d:List T3} (h:DN f 0 e d):C_ f e d:=⟨h.ch,h.en,h.un,h.wd⟩
theorem DN.tk {f:Int->Int} (P:Int):∀ {d:List T3} {s e:Int},DN f s e d->Bw.tk P d=(List.range (e - s).toNat).map fun (i:Nat)=>f (s+(i:Int)) - P
 | [],s,e,h=>by
  rcases h.en with ⟨_,z⟩ | ⟨y,hy,_⟩
  ·rw [z,Int.sub_self]; rfl
  ·cases hy
 | x::d,s,e,h=>by
  have x1:=h.ch.1
  have x2:=h.ch.2.1
  have hl:=h.tl.le
  show List.replicate (Bw.cnt x) (x.2.2 - P)++Bw.tk P d=_
  rw [DN.tk P h.tl]
  have ec:(e - s).toNat=Bw.cnt x+(e - x.2.1).toNat:=by unfold Bw.cnt; omega
  rw [ec,List.range_add,dA,cE]
  congr 1
  ·refine fN fun i=>?_
   rw [im,ax]
   by_cases hi:i<Bw.cnt x
   ·rw [if_pos hi,fS hi]
    show some (x.2.2 - P)=some (f (s+(i:Int)) - P)
    unfold Bw.cnt at hi
    rw [h.wd x am (s+(i:Int)) (by omega) (by omega)]
   ·rw [if_neg hi,ff (by rw [cS]; omega)]
    rfl
  ·refine kF fun i _=>?_
   show f (x.2.1+(i:Int)) - P=f (s+((Bw.cnt x+i:Nat):Int)) - P
   unfold Bw.cnt
   congr 2
   omega
structure Mw (W:List Int) (b:Int):Prop where
 le:∀ t,t<=W.length->Bw.E (W.take t)<=b
 at_:∃ t,t<=W.length/\Bw.E (W.take t)=b
theorem Qu.m {W:List Int} {b0 b1 b2 tk s:Int} (h:Bw.Qu W b0 b1 b2 tk s):Mw W b0:=by
 refine ⟨h.le,?_⟩
 rcases h.b with ⟨e,_⟩ | ⟨_,h1,h2,h3,_,h5⟩
 ·exact ⟨0,cm _,by rw [List.take_zero,e]; rfl⟩
 ·exact ⟨b2.toNat,by omega,h5⟩
theorem Mw.Mz {W:List Int} {b b':Int} (h:Mw W b) (h':Mw W b'):b=b':=by
 obtain ⟨t,ht,e⟩:=h.at_
 obtain ⟨t',ht',e'⟩:=h'.at_
 have:=h.le t' ht'
 have:=h'.le t ht
 omega
theorem Ph:∀ (W:List Int) {e e':Int},e<=e'->Bw.EF e W<=Bw.EF e' W
 | [],e,e',h=>h
 | x::r,e,e',h=>Ph r (by unfold Bw.stp; omega)
theorem Yj (W:List Int) (a m:Nat):Bw.E ((W.drop a).take m)<=Bw.E (W.take (a+m)):=by
 rw [List.take_add,show Bw.E (W.take a++(W.drop a).take m)=Bw.EF (Bw.E (W.take a)) ((W.drop a).take m) from Bw.Hu 0 _ _]
 exact Ph _ (Bw.Pq _ (fz 0))
theorem Mw.sub {W:List Int} {b b':Int} (a c:Nat) (h:Mw W b) (h':Mw ((W.drop a).take c) b'):b'<=b:=by
 obtain ⟨t,ht,e⟩:=h'.at_
 rw [List.take_take] at e
 rw [← e]
 have h1:=Yj W a (min t c)
 by_cases hl:a+min t c<=W.length
 ·exact kU h1 (h.le _ hl)
 ·rw [show W.take (a+min t c)=W from List.take_of_length_le (by omega)] at h1
  have:=h.le W.length (ah _)
  rw [eD] at this
  exact kU h1 this
theorem Mw.kE {W V:List Int} {b b':Int} (h:Mw (W++V) b) (h':Mw W b'):b'<=b:=by
 refine h.sub 0 W.length ?_
 rw [List.drop_zero,fT rfl]
 exact h'
theorem Mw.kW {W V:List Int} {b b':Int} (h:Mw (W++V) b) (h':Mw V b'):b'<=b:=by
 refine h.sub W.length V.length ?_
 rw [List.drop_left' rfl,eD]
 exact h'
noncomputable def Io (k:Nat) (W:List Int):List Int:=W.flatMap fun x=>List.replicate k x
theorem Qa (k:Nat) (W:List Int):(Io k W).length=W.length * k:=by
 unfold Io
 induction W with
 | nil=>simp
 | cons x r ih=>rw [gt,ar,cq,ih,dc,Nat.succ_mul,Nat.add_comm]
theorem OD {k:Nat}:∀ (W:List Int) {e:Int},0<=e->Bw.EF ((k:Int) * e) (Io k W)=(k:Int) * Bw.EF e W
 | [],e,_=>rfl
 | x::r,e,h=>by
  have hk:(0:Int)<=(k:Int) * e:=iS (by omega) h
  show Bw.EF ((k:Int) * e) (List.replicate k x++Io k r)=(k:Int) * Bw.EF (Bw.stp e x) r
  rw [Bw.Hu,Bw.Ja x k hk,← Int.mul_add]
  have e1:max 0 ((k:Int) * (e+x))=(k:Int) * Bw.stp e x:=by
   unfold Bw.stp
   by_cases hx:0<=e+x
   ·have:=Int.mul_nonneg (show (0:Int)<=(k:Int) by omega) hx
    rw [Int.max_eq_right hx,Int.max_eq_right this]
   ·have:=Int.mul_nonpos_of_nonneg_of_nonpos (show (0:Int)<=(k:Int) by omega) (show e+x<=0 by omega)
    rw [Int.max_eq_left this,Int.max_eq_left (show e+x<=0 by omega),Int.mul_zero]
  rw [e1]
  exact OD r (by unfold Bw.stp; omega)
theorem VN {k:Nat} {b:Int}:∀ (W:List Int) {e:Int},0<=e->(∀ t,t<=W.length->Bw.EF e (W.take t)<=b)->∀ t,Bw.EF ((k:Int) * e) ((Io k W).take t)<=(k:Int) * b
 | [],e,h,hb,t=>by
  have:=hb 0 (ah _)
  show Bw.EF _ (List.take t [])<=_
  rw [List.take_nil]
  exact kg this (by omega)
 | x::r,e,h,hb,t=>by
  have hk:(0:Int)<=(k:Int) * e:=iS (by omega) h
  have b0:e<=b:=hb 0 (cm _)
  have b1:Bw.stp e x<=b:=hb 1 (by rw [dc]; omega)
  show Bw.EF _ ((List.replicate k x++Io k r).take t)<=_
  by_cases ht:t<=k
  ·rw [fA (by rw [cq]; exact ht),List.take_replicate,Nat.min_eq_left ht,Bw.Ja x t hk]
   have kb:(0:Int)<=(k:Int) * b:=iS (by omega) (by omega)
   by_cases hx:0<=x
   ·have h1:=Bw.Mp (x:=x) ht hx
    have h2:(k:Int) * (e+x)<=(k:Int) * b:=Int.mul_le_mul_of_nonneg_left (by unfold Bw.stp at b1; omega) (by omega)
    rw [Int.mul_add] at h2
    omega
   ·have h1:=Bw.QS (x:=x) (k:=t) (by omega)
    have h2:(k:Int) * e<=(k:Int) * b:=kg b0 (by omega)
    omega
  ·rw [List.take_append,cq,bq (by rw [cq]; omega),Bw.Hu]
   have e1:Bw.EF ((k:Int) * e) (List.replicate k x)=(k:Int) * Bw.stp e x:=by
    have:=OD (k:=k) [x] h
    unfold Io at this
    rw [gt,List.flatMap_nil,ij] at this
    exact this
   rw [e1]
   exact VN r (by unfold Bw.stp; omega) (fun t' ht'=>hb (t'+1) (by rw [List.length_cons]; omega)) _
theorem Mw.Io {k:Nat} {W:List Int} {b:Int} (h:Mw W b):Mw (Io k W) ((k:Int) * b):=by
 refine ⟨fun t _=>?_,?_⟩
 ·have:=VN (k:=k) W (fz 0) h.le t
  rw [Int.mul_zero] at this
  exact this
 ·obtain ⟨t,ht,e⟩:=h.at_
  refine ⟨t * k,by rw [Qa]; exact Nat.mul_le_mul_right _ ht,?_⟩
  have et:(Ro.Io k W).take (t * k)=Ro.Io k (W.take t):=by
   have e2:Ro.Io k W=Ro.Io k (W.take t)++Ro.Io k (W.drop t):=by
    unfold Ro.Io
    rw [← kG,ja]
   rw [e2,fT (by rw [Qa,ci,Nat.min_eq_left ht])]
  rw [et]
  have:=OD (k:=k) (W.take t) (fz 0)
  rw [Int.mul_zero] at this
  rw [← e]
  exact this
end Ro
namespace Ro
open PySem L2 Og
theorem DN.cons {f:Int->Int} {s e:Int} {x:T3} {d:List T3} (h:DN f x.2.1 e d) (h1:x.1=s) (h2:x.1<x.2.1) (hu:∀ y,d.head? = some y->x.2.2 ≠ y.2.2) (hw:∀ t,x.1<=t->t<x.2.1->f t=x.2.2):DN f s e (x::d):=by
 refine ⟨⟨h1,h2,h.ch⟩,.inr ?_,fun i a b ha hb=>?_,fun y hy=>?_⟩
 ·rcases h.en with ⟨rfl,z⟩ | ⟨y,hy,z⟩
  ·exact ⟨x,rfl,z.symm⟩
  ·cases d with
   | nil=>cases hy
   | cons w d=>exact ⟨y,by simpa using hy,z⟩
 ·cases i with
  | zero =>
   cases ha
   refine hu b ?_
   rw [List.head?_eq_getElem?]
   exact hb
  | succ i=>exact h.un i a b ha hb
 ·rcases bi.mp hy with rfl | hy
  ·exact hw
  ·exact h.wd y hy
theorem DN.hd {f:Int->Int} {s e:Int} {x:T3} {d:List T3} (h:DN f s e (x::d)):∀ y,d.head? = some y->x.2.2 ≠ y.2.2:=fun y hy=>h.un 0 x y rfl (by rw [List.head?_eq_getElem?] at hy; exact hy)
theorem DN.nil {f:Int->Int} {s:Int}:DN f s s []:=⟨trivial,.inl ⟨rfl,rfl⟩,fun i x y h=>by simp at h,fun x h=>nomatch h⟩
noncomputable def Ma (d:List T3) (L:List T3):List T3:=L.foldl (fun d x=>KH d x.1 x.2.1 x.2.2) d
theorem C_.stepV {f:Int->Int} {a b v:Int} {d:List T3} (h:C_ f a d) (hab:a<b) (hf:∀ t,a<=t->t<b->f t=v):C_ f b (KH d a b v):=by
 have e:=hf a (fz _) hab
 rw [← e] at hf ⊢
 exact h.step hab hf
theorem N7 {f:Int->Int}:∀ {L:List T3} {s e:Int} {d:List T3},DN f s e L->C_ f s d->C_ f e (Ma d L)
 | [],s,e,d,h,D=>by
  rcases h.en with ⟨_,z⟩ | ⟨y,hy,_⟩
  ·rw [z]; exact D
  ·cases hy
 | x::L,s,e,d,h,D=>by
  have x1:=h.ch.1
  have x2:=h.ch.2.1
  refine N7 (L:=L) h.tl ?_
  show C_ f x.2.1 (KH d x.1 x.2.1 x.2.2)
  rw [x1]
  exact D.stepV (by omega) fun t a b=>h.wd x am t (by omega) b
noncomputable def Oc (m:Int) (x:T3):T3:=(x.1+m,x.2.1+m,x.2.2)
theorem DN.sh {f:Int->Int} (m:Int):∀ {d:List T3} {s e:Int},DN f s e d->DN (fun t=>f (t - m)) (s+m) (e+m) (d.map (Oc m))
 | [],s,e,h=>by
  rcases h.en with ⟨_,z⟩ | ⟨y,hy,_⟩
  ·rw [z]; exact DN.nil
  ·cases hy
 | x::d,s,e,h=>by
  have x1:=h.ch.1
  have x2:=h.ch.2.1
  refine DN.cons (x:=Oc m x) (DN.sh m h.tl) (by show x.1+m=s+m; omega) (by show x.1+m<x.2.1+m; omega) (fun y hy=>?_) fun t a b=>?_
  ·rw [List.head?_map] at hy
   obtain ⟨z,hz,rfl⟩:=aE.mp hy
   exact h.hd z hz
  ·have a':x.1+m<=t:=a
   have b':t<x.2.1+m:=b
   exact h.wd x am (t - m) (by omega) (by omega)
noncomputable def SQ (k:Int) (x:T3):T3:=(x.1 * k,x.2.1 * k,x.2.2)
theorem DN.sc {f:Int->Int} {k:Int} (hk:1<=k):∀ {d:List T3} {s e:Int},DN f s e d->DN (fun t=>f (t / k)) (s * k) (e * k) (d.map (SQ k))
 | [],s,e,h=>by
  rcases h.en with ⟨_,z⟩ | ⟨y,hy,_⟩
  ·rw [z]; exact DN.nil
  ·cases hy
 | x::d,s,e,h=>by
  have x1:=h.ch.1
  have x2:=h.ch.2.1
  refine DN.cons (x:=SQ k x) (DN.sc hk h.tl) (by show x.1 * k=s * k; rw [x1]) (Int.mul_lt_mul_of_pos_right x2 (by omega)) (fun y hy=>?_) fun t a b=>?_
  ·rw [List.head?_map] at hy
   obtain ⟨z,hz,rfl⟩:=aE.mp hy
   exact h.hd z hz
  ·have a':x.1 * k<=t:=a
   have b':t<x.2.1 * k:=b
   exact h.wd x am (t / k) ((iL (by omega)).mpr a') ((iN (by omega)).mpr b')
noncomputable def KC (a b:Int) (x:T3):Option T3:=if max x.1 a<min x.2.1 b then some (max x.1 a - a,min x.2.1 b - a,x.2.2) else none
theorem J8 {a b:Int}:∀ {d:List T3} {s:Int},Bw.Chain s d->b<=s->d.filterMap (KC a b)=[]
 | [],_,_,_=>rfl
 | x::d,s,h,hs=>by
  have x1:=h.1
  have x2:=h.2.1
  rw [List.filterMap_cons,show KC a b x=none from if_neg (by omega)]
  exact J8 h.2.2 (by omega)
theorem DN.K6 {f:Int->Int} {a b:Int}:∀ {d:List T3} {s e:Int},DN f s e d->a<=s->s<b->b<=e->DN (fun t=>f (t+a)) (s - a) (b - a) (d.filterMap (KC a b))
 | [],s,e,h,_,h2,h3=>by
  rcases h.en with ⟨_,z⟩ | ⟨y,hy,_⟩
  ·omega
  ·cases hy
 | x::d,s,e,h,h1,h2,h3=>by
  have x1:=h.ch.1
  have x2:=h.ch.2.1
  have ex:KC a b x=some (x.1 - a,min x.2.1 b - a,x.2.2):=by
   unfold KC
   rw [if_pos (by omega),show max x.1 a=x.1 by omega]
  rw [ku,ex]
  dsimp only
  by_cases hb:x.2.1<b
  ·refine DN.cons (x:=(x.1 - a,min x.2.1 b - a,x.2.2)) ?_ (by show x.1 - a=s - a; omega) (by show x.1 - a<min x.2.1 b - a; omega) (fun y hy=>?_) fun t u v=>?_
   ·show DN _ (min x.2.1 b - a) _ _
    rw [show min x.2.1 b=x.2.1 by omega]
    exact DN.K6 h.tl (by omega) hb h3
   ·have hl:=h.tl.le
    cases d with
    | nil=>cases hy
    | cons z d =>
     have z1:=h.tl.ch.1
     have z2:=h.tl.ch.2.1
     rw [List.filterMap_cons,show KC a b z=some (z.1 - a,min z.2.1 b - a,z.2.2) by unfold KC; rw [if_pos (by omega),show max z.1 a=z.1 by omega]] at hy
     cases hy
     exact h.hd z rfl
   ·have u':x.1 - a<=t:=u
    have v':t<min x.2.1 b - a:=v
    exact h.wd x am (t+a) (by omega) (by omega)
  ·rw [J8 h.ch.2.2 (by omega)]
   refine DN.cons (x:=(x.1 - a,min x.2.1 b - a,x.2.2)) ?_ (by show x.1 - a=s - a; omega) (by show x.1 - a<min x.2.1 b - a; omega) (fun y hy=>by cases hy) fun t u v=>?_
   ·show DN _ (min x.2.1 b - a) _ _
    rw [show min x.2.1 b=b by omega]
    exact DN.nil
   ·have u':x.1 - a<=t:=u
    have v':t<min x.2.1 b - a:=v
    exact h.wd x am (t+a) (by omega) (by omega)
theorem DN.cut {f:Int->Int} {a b:Int}:∀ {d:List T3} {s e:Int},DN f s e d->s<=a->a<b->b<=e->DN (fun t=>f (t+a)) 0 (b - a) (d.filterMap (KC a b))
 | [],s,e,h,_,h2,h3=>by
  rcases h.en with ⟨_,z⟩ | ⟨y,hy,_⟩
  ·omega
  ·cases hy
 | x::d,s,e,h,h1,h2,h3=>by
  have x1:=h.ch.1
  have x2:=h.ch.2.1
  by_cases ha:x.2.1<=a
  ·rw [List.filterMap_cons,show KC a b x=none from if_neg (by omega)]
   exact DN.cut h.tl ha h2 h3
  ·have ex:KC a b x=some (0,min x.2.1 b - a,x.2.2):=by
    unfold KC
    rw [if_pos (by omega),show max x.1 a=a by omega,Int.sub_self]
   rw [ku,ex]
   dsimp only
   by_cases hb:x.2.1<b
   ·refine DN.cons (x:=(0,min x.2.1 b - a,x.2.2)) ?_ rfl (by show 0<min x.2.1 b - a; omega) (fun y hy=>?_) fun t u v=>?_
    ·show DN _ (min x.2.1 b - a) _ _
     rw [show min x.2.1 b=x.2.1 by omega]
     exact DN.K6 h.tl (by omega) hb h3
    ·cases d with
     | nil=>cases hy
     | cons z d =>
      have z1:=h.tl.ch.1
      have z2:=h.tl.ch.2.1
      rw [List.filterMap_cons,show KC a b z=some (z.1 - a,min z.2.1 b - a,z.2.2) by unfold KC; rw [if_pos (by omega),show max z.1 a=z.1 by omega]] at hy
      cases hy
      exact h.hd z rfl
    ·have u':0<=t:=u
     have v':t<min x.2.1 b - a:=v
     exact h.wd x am (t+a) (by omega) (by omega)
   ·rw [J8 h.ch.2.2 (by omega)]
    refine DN.cons (x:=(0,min x.2.1 b - a,x.2.2)) ?_ rfl (by show 0<min x.2.1 b - a; omega) (fun y hy=>by cases hy) fun t u v=>?_
    ·show DN _ (min x.2.1 b - a) _ _
     rw [show min x.2.1 b=b by omega]
     exact DN.nil
    ·have u':0<=t:=u
     have v':t<min x.2.1 b - a:=v
     exact h.wd x am (t+a) (by omega) (by omega)
end Ro
namespace Ro
open PySem L2 Og
section
variable {X:Cx}
theorem Jp (hu:X.A.units+8<cLine):GF X (compareOp .NotEq) (fun x y H Q=>∃ p p2 hs zs zs2,x=V.ref p/\y=V.ref p2/\Bh H p hs zs/\Bh H p2 hs zs2/\Q (.bl false) H):=by
 intro pins s σ H x y v u Q I rx ry h
 obtain ⟨p,p2,hs,zs,zs2,rfl,rfl,A1,A2,k⟩:=h
 cases rx
 cases ry
 obtain ⟨j1,w1,m1,_⟩:=I.list (show CZ X.K H p zs from .inl (.inl A1.l))
 obtain ⟨j2,w2,m2,_⟩:=I.list (show CZ X.K H p2 zs2 from .inl (.inl A2.l))
 have n1:=w1.length
 have n2:=w2.length
 have n3:=A1.len
 have n4:=A2.len
 refine SeqAt.RcNeAt.lists (e:=fun j=>true) m1.isList m2.isList (by simp; omega) (by omega) (VM I (by show X.A.units+1+4<cLine; omega) A1 A2 w1 w2) _ _ _ _ ⟨.bl false,H,I,?_,k⟩
 have e:((List.range j1.toArray.size).all fun _=>true)=true:=fh.mpr fun _ _=>rfl
 rw [e]
 exact rfl
end
theorem Tu {K:PySem.W.Frag} {σ:St} {H1:Hp} {Q:VK} {tt:TT} {te:TE} {l:Addr} {xs:List V} (G:Hp->V->Addr->Prop) (gm:∀ H H' x a,Aq H H'->G H x a->G H' x a) (gu:∀ H x a D us ws,H D=some (.lst us)->a ≠ D->G H x a->G (upd H D (.lst ws)) x a)
  (hl:CZ K H1 l xs) (hz:xs.length<sizeLine)
  (ht:∀ x∈xs,∀ H,Aq H1 H->∀ R:Bool->Hp->Prop,(∀ H',Aq H H'->R true H')->tt (some x::σ) H R)
  (he:∀ x∈xs,∀ H,Aq H1 H->∀ R:VK,(∀ a H',H a=none->Aq H H'->G H' x a->R (.ref a) H')->te (some x::σ) H R)
  (hq:∀ D H zs,H1 D=none->Aq H1 H->H D=some (.lst zs)->Paired (fun x z=>∃ a,z=V.ref a/\a ≠ D/\G H x a) xs zs->Q (.ref D) H):D_ (Qw K l) σ H1 Q tt te:=by
 intro D hD
 have s0:Aq H1 (upd H1 D (.lst [])):=fun b o e=>by rw [Am (Av e hD)]; exact e
 refine ⟨fun i m ys H=>m=xs.length - i/\i<=xs.length/\Aq H1 H/\H D=some (.lst ys)/\Paired (fun x z=>∃ a,z=V.ref a/\a ≠ D/\G H x a) (xs.take i) ys,⟨xs.length,by simp,Nat.zero_le _,s0,Ag,.nil⟩,?_⟩
 rintro i m ys H ⟨rfl,hi,hs,hd,B⟩
 by_cases hlt:i<xs.length
 ·obtain ⟨x,hx⟩:∃ x,xs[i]? = some x:=⟨xs[i],by simp [hlt]⟩
  refine .inr ⟨⟨xs,_,hs.seq hl,hx⟩,fun y H3 hyl=>?_⟩
  obtain ⟨rfl,hy'⟩:=hyl
  have hy2:=hy' xs (hs.seq hl)
  rw [hx] at hy2
  cases hy2
  have lb:=B.length
  rw [ci] at lb
  refine ht _ (aI hx) _ hs _ fun H4 s4=>?_
  rw [if_pos rfl]
  refine he x (aI hx) H4 (hs.trans s4) _ fun a H5 ha s5 hy=>?_
  have d4:=s4 _ _ hd
  have d5:=s5 _ _ d4
  have naD:a ≠ D:=fun z=>by rw [z,d4] at ha; cases ha
  refine ⟨d5,by omega,xs.length - (i+1),by omega,rfl,hlt,fun b o e=>?_,Ag,?_⟩
  ·rw [Am (Av e hD)]; exact s5 _ _ (s4 _ _ (hs _ _ e))
  ·rw [cf,hx]
   exact Paired.snoc (Paired.FJ B fun x y ⟨a,e1,e2,p⟩=>⟨a,e1,e2,gu _ _ _ _ _ _ d5 e2 (gm _ _ _ _ (s4.trans s5) p)⟩) ⟨a,rfl,naD,gu _ _ _ _ _ _ d5 naD hy⟩
 ·have e:i=xs.length:=by omega
  subst e
  rw [bq (ah _)] at B
  exact .inl ⟨⟨xs,hs.seq hl,ah _⟩,hq D H ys hD hs hd B⟩
theorem Qd {H:Hp} {a:Addr} {d d':List T3} {ys ys':List V} (h:Bh H a d ys) (h':Bh H a d' ys'):d=d':=by
 have e:=h.l
 rw [h'.l] at e
 have e2:ys'=ys:=by
  injection e with e
  injection e
 subst e2
 have p1:=h.p
 have p2:=h'.p
 clear e h h'
 induction p1 generalizing d' with
 | nil=>cases p2; rfl
 | cons x y ih =>
  cases p2 with
  | cons u v =>
   obtain ⟨T,rfl,e1⟩:=x
   obtain ⟨T',e3,e2⟩:=u
   cases e3
   rw [e1] at e2
   rw [ih v]
   congr 1
   injection e2 with e2
   injection e2 with e2
   injection e2 with a1 e2
   injection e2 with a2 e2
   injection e2 with a3 _
   have b1:=V.int.inj a1
   have b2:=V.int.inj a2
   have b3:=V.int.inj a3
   exact Prod.ext b1 (Prod.ext b2 b3)
end Ro
namespace Ro
open PySem L2 Og
theorem Tz:∀ {T L:List Int},T.Nodup->(∀ t∈T,t∈L)->T.length<=L.length
 | [],L,_,_=>cm _
 | t::T,L,nd,hs=>by
  rw [fR] at nd
  have hm:=hs t am
  have h1:=Tz (T:=T) (L:=L.erase t) nd.2 (fun x hx=>(List.mem_erase_of_ne (a:=x) (b:=t) (fun e=>nd.1 (e ▸ hx))).mpr (hs x (av _ hx)))
  rw [List.length_erase_of_mem hm] at h1
  have h2:=List.length_pos_of_mem hm
  simp only [List.length_cons]
  omega
noncomputable def ends (hs:List T3):List Int:=hs.flatMap fun h=>[h.2.1,h.2.2]
theorem Nf:∀ hs:List T3,(ends hs).length=2 * hs.length
 | []=>rfl
 | h::hs=>by
  have:=Nf hs
  unfold ends at this ⊢
  rw [gt,ar,this]
  simp only [List.length_cons,List.length_nil]
  omega
theorem Tks.len {len:Int} {hs:List T3} {T:List Int} (h:Tks len hs T):T.length<=2 * hs.length+2:=by
 have nd:T.Nodup:=h.st.imp fun z=>Int.ne_of_lt z
 have:=Tz (L:=0::len::ends hs) nd fun t ht=>by
  rcases (h.mm t).mp ht with e | e | ⟨x,hx,e⟩
  ·rw [e]; exact am
  ·rw [e]; exact av _ am
  ·refine av _ (av _ (List.mem_flatMap.mpr ⟨x,hx,?_⟩))
   rcases e with e | e <;> rw [← e] <;> simp
 simp only [List.length_cons,Nf] at this
 omega
noncomputable abbrev Ws (len:Int) (hs:List T3):Prop:=∀ h∈hs,0<=h.2.1/\h.2.1<h.2.2/\h.2.2<=len
theorem in_of {len:Int} {hs:List T3} (c:Canon hs) (h:∀ x t,Cv hs x t->0<=t/\t<len):Ws len hs:=fun x hx=>by
 have hx1:x.2.1<x.2.2:=c.sep.1 x hx
 have a:=h x.1 x.2.1 ⟨x,hx,rfl,by omega,hx1⟩
 have b:=h x.1 (x.2.2 - 1) ⟨x,hx,rfl,by omega,by omega⟩
 omega
theorem Ws.cov {len:Int} {hs:List T3} (h:Ws len hs) {x t:Int} (c:Cv hs x t):0<=t/\t<len:=by
 obtain ⟨y,hy,_,a,b⟩:=c
 have:=h y hy
 omega
theorem YG (P m:Int):∀ d:List T3,Bw.tk P (d.map (Oc m))=Bw.tk P d
 | []=>rfl
 | x::d=>by
  show List.replicate (Bw.cnt (Oc m x)) (x.2.2 - P)++Bw.tk P (d.map (Oc m))=List.replicate (Bw.cnt x) (x.2.2 - P)++Bw.tk P d
  rw [YG P m d,show Bw.cnt (Oc m x)=Bw.cnt x by unfold Bw.cnt Oc; simp only; omega]
theorem Wh {W:List Int} {h1 h2 hb:List T3} {l1 l2:Int} {d1 d2 db:List T3} (g1:Ws l1 h1) (g2:Ws l2 h2) (cv:∀ tr t,Cv hb tr t ↔ (Cv h1 tr t \/ Cv h2 tr (t - l1))) (D1:C_ (Dd W h1) l1 d1) (D2:C_ (Dd W h2) l2 d2) (Db:C_ (Dd W hb) (l1+l2) db):db=Ma [] (d1++d2.map (Oc l1))/\∀ P,Bw.tk P db=Bw.tk P d1++Bw.tk P d2:=by
 have e1:∀ t,0<=t->t<l1->Dd W h1 t=Dd W hb t:=fun t _ b=>Fb fun x=>⟨fun c=>(cv x t).mpr (.inl c),fun c=>((cv x t).mp c).resolve_right fun c=>by have:=g2.cov c; omega⟩
 have e2:∀ t,l1<=t->Dd W h2 (t - l1)=Dd W hb t:=fun t a=>Fb fun x=>⟨fun c=>(cv x t).mpr (.inr c),fun c=>((cv x t).mp c).resolve_left fun c=>by have:=g1.cov c; omega⟩
 have G1:DN (Dd W hb) 0 l1 d1:=D1.g.congr e1
 have G2:DN (Dd W hb) l1 (l1+l2) (d2.map (Oc l1)):=by
  have h:=(D2.g.sh l1).congr (g:=Dd W hb) fun t a _=>e2 t (by omega)
  rw [Int.zero_add,Int.add_comm l2 l1] at h
  exact h
 have n1:=G1.le
 have n2:=G2.le
 refine ⟨?_,fun P=>?_⟩
 ·have es:Ma [] (d1++d2.map (Oc l1))=Ma (Ma [] d1) (d2.map (Oc l1)):=by
   unfold Ma
   rw [hV]
  rw [es]
  exact Db.Mz (N7 G2 (N7 G1 (C_.nil _)))
 ·rw [← YG P l1 d2,G1.tk P,G2.tk P,Db.g.tk P,show (l1+l2 - 0).toNat=(l1 - 0).toNat+(l1+l2 - l1).toNat by omega,List.range_add,List.map_append,List.map_map]
  congr 1
  refine kF fun i _=>?_
  show Dd W hb (0+(((l1 - 0).toNat+i:Nat):Int)) - P=Dd W hb (l1+(i:Int)) - P
  congr 2
  omega
theorem XX (k n:Nat) (v:Int):Io k (List.replicate n v)=List.replicate (n * k) v:=by
 induction n with
 | zero=>rw [Nat.zero_mul]; rfl
 | succ n ih =>
  unfold Io at ih ⊢
  rw [fe,gt,ih,List.replicate_append_replicate,Nat.succ_mul,Nat.add_comm]
theorem YC (P:Int) (k:Nat):∀ d:List T3,(∀ x∈d,x.1<x.2.1)->Bw.tk P (d.map (SQ (k:Nat)))=Io k (Bw.tk P d)
 | [],_=>rfl
 | x::d,h=>by
  show List.replicate (Bw.cnt (SQ (k:Nat) x)) (x.2.2 - P)++Bw.tk P (d.map (SQ (k:Nat)))=Io k (List.replicate (Bw.cnt x) (x.2.2 - P)++Bw.tk P d)
  have ea:Io k (List.replicate (Bw.cnt x) (x.2.2 - P)++Bw.tk P d)=Io k (List.replicate (Bw.cnt x) (x.2.2 - P))++Io k (Bw.tk P d):=by
   unfold Io
   rw [kG]
  rw [ea,XX,YC P k d fun y hy=>h y (av _ hy)]
  have hx:=h x am
  obtain ⟨n,en⟩:=Int.eq_ofNat_of_zero_le (show 0<=x.2.1 - x.1 by omega)
  have ec:Bw.cnt (SQ (k:Nat) x)=Bw.cnt x * k:=by
   unfold Bw.cnt SQ
   simp only
   rw [← Int.sub_mul,en,← Int.natCast_mul]
   rfl
  rw [ec]
theorem WW {W:List Int} {hs h':List T3} {l:Int} {k:Nat} {d d':List T3} (hk:1<=k) (cv:∀ tr t,Cv h' tr t ↔ Cv (hs.map (Zz (k:Nat))) tr t) (D:C_ (Dd W hs) l d) (D':C_ (Dd W h') (l * (k:Nat)) d'):d'=d.map (SQ (k:Nat))/\∀ P,Bw.tk P d'=Io k (Bw.tk P d):=by
 have e:d'=d.map (SQ (k:Nat)):=by
  have h:=(D.g.sc (k:=(k:Nat)) (by omega)).congr (g:=Dd W h') fun t _ _=>Fb fun x=>by rw [cv,Pk (by omega)]
  rw [Int.zero_mul] at h
  exact D'.Mz h.ok
 refine ⟨e,fun P=>?_⟩
 rw [e]
 exact YC P k d fun x hx=>(D.g.in x hx).2.1
theorem ZC {W:List Int} {hs h':List T3} {l a b:Int} {d d':List T3} (h0:0<=a) (hab:a<b) (hb:b<=l) (cv:∀ tr t,Cv h' tr t ↔ WN hs a b tr t) (D:C_ (Dd W hs) l d) (D':C_ (Dd W h') (b - a) d'):d'=d.filterMap (KC a b)/\∀ P,Bw.tk P d'=((Bw.tk P d).drop a.toNat).take (b - a).toNat:=by
 have h:=(D.g.cut h0 hab hb).congr (g:=Dd W h') fun t u v=>Fb fun x=>by
  rw [cv]
  exact ⟨fun c=>⟨u,v,c⟩,fun c=>c.2.2⟩
 have e:d'=d.filterMap (KC a b):=D'.Mz h.ok
 refine ⟨e,fun P=>?_⟩
 have h2:=D.g.cut h0 hab hb
 rw [e,h2.tk P,D.g.tk P]
 refine fN fun i=>?_
 rw [ax,List.getElem?_take]
 by_cases hi:i<(b - a).toNat
 ·rw [if_pos hi,List.getElem?_drop,ax,fS (by omega),fS (by omega)]
  show some (Dd W hs (0+(i:Int)+a) - P)=some (Dd W hs (0+((a.toNat+i:Nat):Int)) - P)
  congr 3
  omega
 ·rw [if_neg hi,ff (by rw [cS]; omega)]
  rfl
end Ro
section PartK74a
set_option maxHeartbeats 4000000
namespace K74
open PySem L2 Og Bw Ro
noncomputable def top (i:Nat):Stmt:=PySem.Challenge.pw_windchest_k74_whole_barrels_joined.main.body.getD i (.Pass ⟨0,0,0,0⟩)
noncomputable abbrev kh:Stmt:=top 9
noncomputable abbrev gw:Stmt:=top 10
noncomputable abbrev ir:Stmt:=top 11
noncomputable abbrev h_:Stmt:=top 46
noncomputable abbrev gH:Stmt:=top 47
noncomputable abbrev iM:Stmt:=top 48
noncomputable abbrev gR:Stmt:=top 49
noncomputable abbrev gO:Stmt:=top 50
noncomputable abbrev jU:Stmt:=top 51
noncomputable abbrev gq:Stmt:=top 52
noncomputable abbrev lG:Stmt:=top 53
noncomputable abbrev jc:Stmt:=top 55
noncomputable abbrev ig:Stmt:=top 56
noncomputable abbrev j_:Stmt:=top 57
noncomputable abbrev jl:Stmt:=top 58
noncomputable abbrev lW:Stmt:=top 61
noncomputable abbrev mZ:Stmt:=top 62
noncomputable abbrev iB:Stmt:=top 63
noncomputable abbrev j4:Stmt:=top 64
noncomputable abbrev kY:Stmt:=top 14
noncomputable abbrev mF:Stmt:=top 15
noncomputable abbrev je:Stmt:=top 20
noncomputable abbrev jh:Stmt:=top 21
noncomputable abbrev gM:Stmt:=top 22
noncomputable abbrev Vx:Stmt:=top 23
noncomputable abbrev jO:Stmt:=top 24
noncomputable abbrev lF:Stmt:=top 25
noncomputable abbrev i_:Stmt:=top 26
noncomputable abbrev gW:Stmt:=top 27
noncomputable abbrev jD:Stmt:=top 32
noncomputable abbrev gJ:Stmt:=top 33
noncomputable abbrev g_:Stmt:=top 34
noncomputable abbrev gk:Stmt:=top 36
noncomputable abbrev gP:Stmt:=top 37
noncomputable abbrev gf:Stmt:=top 28
noncomputable abbrev eE:Stmt:=top 29
noncomputable abbrev lJ:Stmt:=top 30
noncomputable abbrev gU:Stmt:=top 31
noncomputable abbrev jk:Stmt:=top 38
noncomputable abbrev gQ:Stmt:=top 74
noncomputable abbrev l_:Stmt:=top 75
noncomputable abbrev jK:Stmt:=top 76
noncomputable abbrev gG:Stmt:=top 68
noncomputable abbrev jW:Stmt:=top 69
noncomputable abbrev j7:Stmt:=top 70
noncomputable abbrev iK:Stmt:=top 71
noncomputable abbrev jf:Stmt:=top 72
noncomputable abbrev k_:Stmt:=top 73
noncomputable abbrev Vz:Stmt:=inClass (top 66) 0
noncomputable abbrev mG:Stmt:=inClass (top 66) 13
noncomputable abbrev mH:Stmt:=inClass (top 66) 15
noncomputable abbrev lM:Stmt:=inClass (top 66) 3
noncomputable abbrev iy:Stmt:=inClass (top 66) 6
noncomputable abbrev iG:Stmt:=inClass (top 66) 10
noncomputable abbrev Il:Stmt:=top 77
structure Txt (K:PySem.W.Frag) (P:Params) (mg:Str->Option Value) (C aN aK aB aP aM:Addr):Prop where
 len:mg "len" = none
 isin:mg "isinstance" = none
 int:mg "int" = none
 bool:mg "bool" = none
 str:mg "str" = none
 list:mg "list" = none
 tuple:mg "tuple" = none
 all:mg "all" = none
 any:mg "any" = none
 sum:mg "sum" = none
 range:mg "range" = none
 zip:mg "zip" = none
 enumerate:mg "enumerate" = none
 max:mg "max" = none
 reversed:mg "reversed" = none
 set:mg "set" = none
 abs:mg "abs" = none
 min:mg "min" = none
 sorted:mg "sorted" = none
 letters:∃ t,mg "LETTERS" = some (.str letters t)
 mostL:∃ t,mg "MOST_LETTERS" = some (.int 8 t)
 mostR:∃ t,mg "MOST_ROWS" = some (.int 150 t)
 mostLn:∃ t,mg "MOST_LINES" = some (.int 4 t)
 cMOST_TICKS:∃ t,mg "MOST_TICKS" = some (.int 1000000000000 t)
 cMOST_HOLES:∃ t,mg "MOST_HOLES" = some (.int 400 t)
 cMOST_TIMES:∃ t,mg "MOST_TIMES" = some (.int 1000 t)
 below:∃ t,mg "MEMBERS_BELOW" = some (.int 1200 t)
 mN:mg "NAMED" = some (.ref aN)
 mK:mg "KNOBS" = some (.ref aK)
 mB:mg "BOUNDS" = some (.ref aB)
 mP:mg "PARTS" = some (.ref aP)
 mM:mg "MOST_OF" = some (.ref aM)
 tN:KTup K aN (named.map V.str)
 tK:KTup K aK [.str "stop",.str "coupler",.str "mute"]
 dB:KDict K P aB
 dP:KDict K P aP
 dM:KDict K P aM
 cl:U7 K C
 mC:mg "Organ" = some (.ref C)
 n_row_list:Cw K C "row_list"
 n_board_list:Cw K C "board_list"
 n_rank_list:Cw K C "rank_list"
 n_knob_rows:Cw K C "knob_rows"
 n_board_numbers:Cw K C "board_numbers"
 n_rank_numbers:Cw K C "rank_numbers"
 n_knob_numbers:Cw K C "knob_numbers"
 n_key_places:Cw K C "key_places"
 n_pipe_places:Cw K C "pipe_places"
 n_knob_lines:Cw K C "knob_lines"
 n_step_sets:Cw K C "step_sets"
set_option genInjectivity false in
set_option genSizeOf false in
set_option genSizeOfSpec false in
structure Ad where
 (fWh fMd fNm fRo fTo fWi fPa fHp fCl fIk fSb fWm fHr fIr fCk fNu fCa fPl fLi fMy fSt fIl fHw fAh fHo fFh fRf fR1 fOa fTk fCh fCt fWp fDg fMv fRp fEe fSl fLc fLm fSm fCu fDn fDw fLg fLv fGr fSs fOi fBk fOp fOr fOq fOx:Addr)
 (dWh dMd dNm dRo dTo dWi dPa dHp dCl dIk dSb dWm dHr dIr dCk dNu dCa dPl dLi dMy dSt dIl dHw dAh dHo dFh dRf dR1 dOa dTk dCh dCt dWp dDg dMv dRp dEe dSl dLc dLm dSm dCu dDn dDw dLg dLv dGr dSs dOi dBk dOp dOr dOq dOx:FuncData)
structure V0 (K:PySem.W.Frag) (mg:Str->Option Value) (C c1:Addr) (aD:Ad):Prop where
 FWh:DX K "is_whole" "is_whole" kh aD.fWh aD.dWh∧Binds K aD.dWh ["thing"] []∧mg "is_whole" = some (.ref aD.fWh)
 FMd:DX K "is_made_of" "is_made_of" gw aD.fMd aD.dMd∧Binds K aD.dMd ["text","signs","most"] []∧mg "is_made_of" = some (.ref aD.fMd)
 FNm:DX K "is_name" "is_name" ir aD.fNm aD.dNm∧Binds K aD.dNm ["thing"] []∧mg "is_name" = some (.ref aD.fNm)
 FRo:DX K "rows_of" "rows_of" h_ aD.fRo aD.dRo∧Binds K aD.dRo ["rows","word"] []∧mg "rows_of" = some (.ref aD.fRo)
 FTo:DX K "is_told" "is_told" gH aD.fTo aD.dTo∧Binds K aD.dTo ["rows","word","thing"] []∧mg "is_told" = some (.ref aD.fTo)
 FWi:DX K "is_within" "is_within" iM aD.fWi aD.dWi∧Binds K aD.dWi ["thing","bounds"] []∧mg "is_within" = some (.ref aD.fWi)
 FPa:DX K "is_part" "is_part" gR aD.fPa aD.dPa∧Binds K aD.dPa ["thing","part","ahead"] []∧mg "is_part" = some (.ref aD.fPa)
 FHp:DX K "has_parts" "has_parts" gO aD.fHp aD.dHp∧Binds K aD.dHp ["row","ahead"] []∧mg "has_parts" = some (.ref aD.fHp)
 FCl:DX K "count_of_last_lines" "count_of_last_lines" jU aD.fCl aD.dCl∧Binds K aD.dCl ["rows"] []∧mg "count_of_last_lines" = some (.ref aD.fCl)
 FIk:DX K "is_key_of" "is_key_of" gq aD.fIk aD.dIk∧Binds K aD.dIk ["number","board","ahead"] []∧mg "is_key_of" = some (.ref aD.fIk)
 FSb:DX K "stands_behind_stop" "stands_behind_stop" lG aD.fSb aD.dSb∧Binds K aD.dSb ["line","ahead"] []∧mg "stands_behind_stop" = some (.ref aD.fSb)
 FWm:DX K "is_well_made" "is_well_made" jc aD.fWm aD.dWm∧Binds K aD.dWm ["row","ahead"] []∧mg "is_well_made" = some (.ref aD.fWm)
 FHr:DX K "has_room" "has_room" ig aD.fHr aD.dHr∧Binds K aD.dHr ["word","ahead"] []∧mg "has_room" = some (.ref aD.fHr)
 FIr:DX K "is_row" "is_row" j_ aD.fIr aD.dIr∧Binds K aD.dIr ["thing","ahead"] []∧mg "is_row" = some (.ref aD.fIr)
 FCk:DX K "check_rows" "check_rows" jl aD.fCk aD.dCk∧Binds K aD.dCk ["rows"] []∧mg "check_rows" = some (.ref aD.fCk)
 FNu:DX K "numbers_of" "numbers_of" lW aD.fNu aD.dNu∧Binds K aD.dNu ["names"] []∧mg "numbers_of" = some (.ref aD.fNu)
 FCa:DX K "count_in_all" "count_in_all" mZ aD.fCa aD.dCa∧Binds K aD.dCa ["things"] []∧mg "count_in_all" = some (.ref aD.fCa)
 FPl:DX K "places_of" "places_of" iB aD.fPl aD.dPl∧Binds K aD.dPl ["things"] []∧mg "places_of" = some (.ref aD.fPl)
 FLi:DX K "lines_by_knob" "lines_by_knob" j4 aD.fLi aD.dLi∧Binds K aD.dLi ["rows","rank_numbers"] []∧mg "lines_by_knob" = some (.ref aD.fLi)
 FMy:DX K "may_be_member" "may_be_member" kY aD.fMy aD.dMy∧Binds K aD.dMy ["thing"] []∧mg "may_be_member" = some (.ref aD.fMy)
 FSt:DX K "set_of" "set_of" mF aD.fSt aD.dSt∧Binds K aD.dSt ["numbers"] []∧mg "set_of" = some (.ref aD.fSt)
 FIl:DX K "is_length" "is_length" je aD.fIl aD.dIl∧Binds K aD.dIl ["thing"] []∧mg "is_length" = some (.ref aD.fIl)
 FHw:DX K "is_hole_within" "is_hole_within" jh aD.fHw aD.dHw∧Binds K aD.dHw ["thing","length"] []∧mg "is_hole_within" = some (.ref aD.fHw)
 FAh:DX K "are_holes_within" "are_holes_within" gM aD.fAh aD.dAh∧Binds K aD.dAh ["thing","length"] []∧mg "are_holes_within" = some (.ref aD.fAh)
 FHo:Ww K "holes_of" "holes_of" Vx aD.fHo aD.dHo c1∧Binds K aD.dHo ["spans"] []∧mg "holes_of" = some (.ref aD.fHo)
 FFh:DX K "few_holes_of" "few_holes_of" jO aD.fFh aD.dFh∧Binds K aD.dFh ["spans"] []∧mg "few_holes_of" = some (.ref aD.fFh)
 FRf:DX K "roll_from" "roll_from" lF aD.fRf aD.dRf∧Binds K aD.dRf ["length","spans"] []∧mg "roll_from" = some (.ref aD.fRf)
 FR1:DX K "roll_of" "roll_of" i_ aD.fR1 aD.dR1∧Binds K aD.dR1 ["length","spans"] []∧mg "roll_of" = some (.ref aD.fR1)
 FOa:DX K "open_at" "open_at" gW aD.fOa aD.dOa∧Binds K aD.dOa ["roll","tick"] []∧mg "open_at" = some (.ref aD.fOa)
 FTk:DX K "tracks_by_tick" "tracks_by_tick" jD aD.fTk aD.dTk∧Binds K aD.dTk ["holes","part"] []∧mg "tracks_by_tick" = some (.ref aD.fTk)
 FCh:DX K "changes_of" "changes_of" gJ aD.fCh aD.dCh∧Binds K aD.dCh ["roll"] []∧mg "changes_of" = some (.ref aD.fCh)
 FCt:DX K "change_ticks" "change_ticks" g_ aD.fCt aD.dCt∧Binds K aD.dCt ["roll"] []∧mg "change_ticks" = some (.ref aD.fCt)
 FWp:DX K "winds_of_pipes" "winds_of_pipes" gk aD.fWp aD.dWp∧Binds K aD.dWp ["organ"] []∧mg "winds_of_pipes" = some (.ref aD.fWp)
 FDg:DX K "draught_of" "draught_of" gP aD.fDg aD.dDg∧Binds K aD.dDg ["organ","barrel"] []∧mg "draught_of" = some (.ref aD.fDg)
 FMv:DX K "moved" "moved" gf aD.fMv aD.dMv∧Binds K aD.dMv ["holes","ticks"] []∧mg "moved" = some (.ref aD.fMv)
 FRp:DX K "roll_part" "roll_part" eE aD.fRp aD.dRp∧Binds K aD.dRp ["roll","first","behind"] []∧mg "roll_part" = some (.ref aD.fRp)
 FEe:DX K "end_to_end" "end_to_end" lJ aD.fEe aD.dEe∧Binds K aD.dEe ["one","other"] []∧mg "end_to_end" = some (.ref aD.fEe)
 FSl:DX K "slowed_by" "slowed_by" gU aD.fSl aD.dSl∧Binds K aD.dSl ["roll","times"] []∧mg "slowed_by" = some (.ref aD.fSl)
 FLc:DX K "least_cap" "least_cap" jk aD.fLc aD.dLc∧Binds K aD.dLc ["draught","pump"] []∧mg "least_cap" = some (.ref aD.fLc)
 FLm:DX K "_law_moved" "_law_moved" gQ aD.fLm aD.dLm∧Binds K aD.dLm ["_law_stretches","_law_more"] []∧mg "_law_moved" = some (.ref aD.fLm)
 FSm:DX K "_law_seamless" "_law_seamless" l_ aD.fSm aD.dSm∧Binds K aD.dSm ["_law_stretches"] []∧mg "_law_seamless" = some (.ref aD.fSm)
 FCu:DX K "_law_cut" "_law_cut" jK aD.fCu aD.dCu∧Binds K aD.dCu ["_law_stretches","_law_first","_law_behind"] []∧mg "_law_cut" = some (.ref aD.fCu)
 FDn:DX K "_law_drawn" "_law_drawn" gG aD.fDn aD.dDn∧Binds K aD.dDn ["_law_script","_law_start"] []∧mg "_law_drawn" = some (.ref aD.fDn)
 FDw:DX K "_law_draw" "_law_draw" jW aD.fDw aD.dDw∧Binds K aD.dDw ["_law_drawn_here","_law_many"] []∧mg "_law_draw" = some (.ref aD.fDw)
 FLg:DX K "_law_organ" "_law_organ" j7 aD.fLg aD.dLg∧Binds K aD.dLg ["_law_drawn_here"] []∧mg "_law_organ" = some (.ref aD.fLg)
 FLv:DX K "_law_winds" "_law_winds" iK aD.fLv aD.dLv∧Binds K aD.dLv ["_law_rows"] []∧mg "_law_winds" = some (.ref aD.fLv)
 FGr:DX K "_law_great" "_law_great" jf aD.fGr aD.dGr∧Binds K aD.dGr ["_law_drawn_here","_law_most"] []∧mg "_law_great" = some (.ref aD.fGr)
 FSs:DX K "_law_spans" "_law_spans" k_ aD.fSs aD.dSs∧Binds K aD.dSs ["_law_drawn_here","_law_pipes","_law_length","_law_many"] []∧mg "_law_spans" = some (.ref aD.fSs)
 FOi:DX K "__init__" "Organ.__init__" Vz aD.fOi aD.dOi∧Binds K aD.dOi ["self","rows"] []∧Mk K C aD.fOi
 FBk:DX K "board_of_knob" "Organ.board_of_knob" mG aD.fBk aD.dBk∧Binds K aD.dBk ["self","knob"] []∧Meth K C "board_of_knob" aD.fBk
 FOp:DX K "coupler" "Organ.coupler" mH aD.fOp aD.dOp∧Binds K aD.dOp ["self","knob"] []∧Meth K C "coupler" aD.fOp
 FOr:DX K "ranks" "Organ.ranks" lM aD.fOr aD.dOr∧Binds K aD.dOr ["self"] []∧Meth K C "ranks" aD.fOr
 FOq:DX K "pipe_count" "Organ.pipe_count" iy aD.fOq aD.dOq∧Binds K aD.dOq ["self"] []∧Meth K C "pipe_count" aD.fOq
 FOx:DX K "rank_of" "Organ.rank_of" iG aD.fOx aD.dOx∧Binds K aD.dOx ["self","pipe"] []∧Meth K C "rank_of" aD.fOx
section
variable {P:Program} {w:World} {K:PySem.W.Frag} {mg:Str->Option Value} {base:Heap} {C c1 P1 aN aK aB aP aM:Addr} {aD:Ad}
variable (N:V0 K mg C c1 aD) (T:Txt K w.params mg C aN aK aB aP aM)
noncomputable def Mu:Sp:=fun vs H Q _=>∃ i:Int,vs=[.int i]/\Q (.bl true) H
theorem jr:BJ ["thing"] ["thing"] (Ah kh):=CG
include N T in
theorem K4:BP P w K mg base Bp 1 aD.fWh aD.dWh ["thing"] Mu:=by
 refine N.FWh.1.ok jr (fun vs H Q E h=>?_) (fun cdv A outer s H vs Q E hr h=>?_)
 ·obtain ⟨i,rfl,_⟩:=h
  rfl
 ·obtain ⟨i,rfl,q⟩:=h
  refine ⟨_,(Aj (BR (Cj (BK Dl rfl T.isin de (Ai (pv 0) (Ai (E_ (v:=.ty "int") rfl T.int PyProof.Rows.boot_int rfl) Aa))) (Cu (Vf (BK Dl rfl T.isin de (Ai (pv 0) (Ai (E_ (v:=.ty "bool") rfl T.bool PyProof.Rows.boot_bool rfl) Aa)))))))),?_⟩
  refine ⟨_,rfl,_,"int",_,_,rfl,.int i,ty_int,_,rfl,Ey ?_⟩
  exact ⟨_,rfl,_,"bool",_,_,rfl,.int i,dZ,_,rfl,q⟩
noncomputable def YW:Sp:=fun vs H Q _=>∃ z:Str,vs=[.str z,.str letters,.int 8]/\isNm z/\∀ H',Aq H H'->Q (.bl true) H'
theorem kI:BJ ["text","signs","most"] ["text","signs","most"] (Ah gw):=CG
include N T in
theorem cD:BP P w K mg base Bp 1 aD.fMd aD.dMd ["text","signs","most"] YW:=by
 refine N.FMd.1.ok kI (fun vs H Q E h=>?_) (fun cdv A outer s H vs Q E hr h=>?_)
 ·obtain ⟨z,rfl,_⟩:=h
  rfl
 ·obtain ⟨z,rfl,hz,q⟩:=h
  refine ⟨_,(Aj (BR (Cj (Hh Dc Dc Ac (BK Le rfl T.len dQ (Ai (pv 0) Aa)) (pv 2)) (Cu (BK (Jt rfl) rfl T.all jp (Ai (Bt rfl (BX (osc:=Ah gw) (N:=["text","signs","most"]) rfl rfl (by decide +kernel)) (ZJ (pv 0)) (fun _ _ _ _=>B_) (fun _ _ _ _=>(Ef Rf (pv 0) (pv 2) rfl))) Aa)))))),?_⟩
  have hzl:z.length<sizeLine:=Az (by have:=hz.2.1; omega)
  refine ⟨_,rfl,z,rfl,fI hzl,_,_,rfl,rfl,_,rfl,?_⟩
  refine Df (fun h1=>?_) (fun h1=>absurd (decide_eq_true (by have:=hz.1; omega)) h1)
  refine ⟨_,rfl,_,_,rfl,rfl,_,rfl,?_⟩
  refine Df (fun h2=>?_) (fun h2=>absurd (decide_eq_true (by have:=hz.2.1; omega)) h2)
  refine ⟨_,rfl,z,rfl,U5 (fun _=>true) (fun c=>.bl (fj letters c)) hzl (fun c hc H' hs R k=>k H' (Aq.refl H')) (fun c hc _ H' hs R k=>⟨_,rfl,_,rfl,_,_,rfl,rfl,k H' (Aq.refl H')⟩) (fun D H' hD hs hl=>?_)⟩
  refine ⟨D,z.cps.toList.map (fj letters),rfl,.inl (.inl ?_),?_⟩
  ·rw [hl,cK.mpr (fun _ _=>rfl),cE]
   rfl
  ·have e:(z.cps.toList.map (fj letters)).all id=true:=by
    rw [List.all_map,fh]
    intro c hc
    have:=hz.2.2 c hc
    show fj letters c=true
    rw [WT c (by omega)]
    exact decide_eq_true this
   rw [e]
   exact q H' hs
noncomputable def ZX:Sp:=fun vs H Q _=>∃ z:Str,vs=[.str z]/\isNm z/\∀ H',Aq H H'->Q (.bl true) H'
theorem kJ:BJ ["thing"] ["thing"] (Ah ir):=CG
include N T in
theorem Xu:BP P w K mg base Bp 2 aD.fNm aD.dNm ["thing"] ZX:=by
 refine N.FNm.1.ok kJ (fun vs H Q E h=>?_) (fun cdv A outer s H vs Q E hr h=>?_)
 ·obtain ⟨z,rfl,_⟩:=h
  rfl
 ·obtain ⟨z,rfl,hz,q⟩:=h
  obtain ⟨tLET,hLET⟩:=T.letters
  obtain ⟨tML,hML⟩:=T.mostL
  refine ⟨_,(Aj (BR (Cj (BK Dl rfl T.isin de (Ai (pv 0) (Ai (E_ (v:=.ty "str") rfl T.str PyProof.Rows.boot_str rfl) Aa))) (Cu (An (cD N T) (ad hr) rfl N.FMd.2.2 N.FMd.1.kp N.FMd.2.1 .nil A_ (Ai (pv 0) (Ai (CW (v:=.str letters) rfl hLET ⟨tLET,rfl⟩) (Ai (CW (v:=.int 8) rfl hML ⟨tML,rfl⟩) Aa)))))))),?_⟩
  refine ⟨_,rfl,_,"str",_,_,rfl,.str z,Xl,_,rfl,Ey ?_⟩
  exact ⟨_,rfl,z,rfl,hz,q⟩
noncomputable def Lf:Sp:=fun vs H Q _=>∃ (p:Addr) (us:List V) (w:Str) (ρ:V->R),vs=[.ref p,.str w]/\H p=some (.lst us)/\Rows H ρ us/\us.length<=500/\∀ D H',H D=none->Aq H H'->H' D=some (.lst (us.filter (pw ρ w)))->Q (.ref D) H'
theorem lg:BJ ["rows","word"] ["rows","word"] (Ah h_):=CG
include N T in
theorem Ni:BP P w K mg base Bp 1 aD.fRo aD.dRo ["rows","word"] Lf:=by
 refine N.FRo.1.ok lg (fun vs H Q E h=>?_) (fun cdv A outer s H vs Q E hr h=>?_)
 ·obtain ⟨p,us,w,ρ,rfl,_⟩:=h
  rfl
 ·obtain ⟨p,us,w,ρ,rfl,hp,hR,hl,q⟩:=h
  refine ⟨_,(Aj (BR (Bt rfl (BX (osc:=Ah h_) (N:=["rows","word"]) rfl rfl (by decide +kernel)) (Bc (pv 0)) (fun _ _ _ _=>(Lw (Be Ej (Ar (Ao (K:=K) rfl) (pv 0) Ac (fun _ _=>rfl)) (pv 2) (Bf _)))) (fun _ _ _ _=>(pv 0))))),?_⟩
  have hS:CZ K H p us:=.inl (.inl hp)
  refine ⟨_,rfl,p,rfl,⟨_,hS⟩,Dg (K:=K) (xs:=us) (pw ρ w) id hS (Az (by omega)) (fun x hx H' hs R k=>?_) (fun x hx _ H' hs R k=>⟨_,rfl,k H' (Aq.refl H')⟩) (fun D H' hD hs hl'=>?_)⟩
  ·obtain ⟨T0,rfl,hT⟩:=(hR x hx).mono hs
   exact ⟨_,rfl,T0,_,_,_,rfl,rfl,lc hT,Af (j:=0) rfl,_,rfl,rfl,_,rfl,k H' (Aq.refl H')⟩
  ·rw [List.map_id] at hl'
   exact q D H' hD hs hl'
noncomputable def YX:Sp:=fun vs H Q _=>∃ (p:Addr) (us:List V) (w t:Str) (ρ:V->R),vs=[.ref p,.str w,.str t]/\H p=some (.lst us)/\Rows H ρ us/\us.length<=500/\isNm t/\∀ H',Aq H H'->Q (.bl (X4 ρ us w t)) H'
theorem jZ:BJ ["rows","word","thing"] ["rows","word","thing"] (Ah gH):=CG
include N T in
theorem aV:BP P w K mg base Bp 3 aD.fTo aD.dTo ["rows","word","thing"] YX:=by
 refine N.FTo.1.ok jZ (fun vs H Q E h=>?_) (fun cdv A outer s H vs Q E hr h=>?_)
 ·obtain ⟨p,us,w,t,ρ,rfl,_⟩:=h
  rfl
 ·obtain ⟨p,us,w,t,ρ,rfl,hp,hR,hl,ht,q⟩:=h
  refine ⟨_,(Aj (BR (Cj (An (Xu N T) (ad hr) rfl N.FNm.2.2 N.FNm.1.kp N.FNm.2.1 .nil A_ (Ai (pv 2) Aa)) (Cu (BK (Jy rfl) rfl T.any jv (Ai (Bt rfl (BX (osc:=Ah gH) (N:=["rows","word","thing"]) rfl rfl (by decide +kernel)) (Bc (An (Ni N T) (ad hr) rfl N.FRo.2.2 N.FRo.1.kp N.FRo.2.1 .nil A_ (Ai (pv 0) (Ai (pv 1) Aa)))) (fun _ _ _ _=>B_) (fun _ _ _ _=>(Ef Ej (Ar (Ao (K:=K) rfl) (pv 0) Ac (fun _ _=>rfl)) (pv 3) (Bf _)))) Aa)))))),?_⟩
  refine ⟨_,rfl,t,rfl,ht,fun H1 s1=>⟨_,rfl,Ey ?_⟩⟩
  refine ⟨_,rfl,_,rfl,p,us,w,ρ,rfl,s1 _ _ hp,hR.mono s1,hl,fun D H2 hD s2 hl2=>?_⟩
  have hS:CZ K H2 D (us.filter (pw ρ w)):=.inl (.inl hl2)
  refine ⟨D,rfl,⟨_,hS⟩,Dg (K:=K) (xs:=us.filter (pw ρ w)) (fun _=>true) (fun v=>.bl (pn ρ t v)) hS (Az (by have:=Gy (pw ρ w) us; omega)) (fun x hx H' hs R k=>k H' (Aq.refl H')) (fun x hx _ H' hs R k=>?_) (fun D3 H3 hD3 s3 hl3=>?_)⟩
  ·obtain ⟨T0,rfl,hT⟩:=(((hR.mono s1).mono s2).mono hs) x (dr.mp hx).1
   exact ⟨_,rfl,T0,_,_,_,rfl,rfl,lc hT,Af (j:=1) rfl,_,rfl,rfl,k H' (Aq.refl H')⟩
  ·refine ⟨D3,(us.filter (pw ρ w)).map (pn ρ t),rfl,.inl (.inl ?_),?_⟩
   ·rw [hl3,cK.mpr (fun _ _=>rfl),cE]
    rfl
   ·have e:((us.filter (pw ρ w)).map (pn ρ t)).any id=X4 ρ us w t:=by
     rw [List.any_map]
     rfl
    rw [e]
    exact q H3 ((s1.trans s2).trans s3)
noncomputable def aG (K:PySem.W.Frag):Sp:=fun vs H Q _=>∃ (i lo hi:Int) (b:Addr),vs=[.int i,.ref b]/\KTup K b [.int lo,.int hi]/\lo<=i/\i<=hi/\Q (.bl true) H
theorem jo:BJ ["thing","bounds"] ["thing","bounds"] (Ah iM):=CG
include N T in
theorem bu:BP P w K mg base Bp 2 aD.fWi aD.dWi ["thing","bounds"] (aG K):=by
 refine N.FWi.1.ok jo (fun vs H Q E h=>?_) (fun cdv A outer s H vs Q E hr h=>?_)
 ·obtain ⟨i,lo,hi,b,rfl,_⟩:=h
  rfl
 ·obtain ⟨i,lo,hi,b,rfl,hb,h1,h2,q⟩:=h
  refine ⟨_,(Aj (BR (Cj (An (K4 N T) (ad hr) rfl N.FWh.2.2 N.FWh.1.kp N.FWh.2.1 .nil A_ (Ai (pv 0) Aa)) (Cu (Hh Dc Dc (Ar (Ao (K:=K) rfl) (pv 1) Ac (fun _ _=>rfl)) (pv 0) (Ar (Ao (K:=K) rfl) (pv 1) Ac (fun _ _=>rfl))))))),?_⟩
  refine ⟨_,rfl,i,rfl,_,rfl,Ey ?_⟩
  refine ⟨_,rfl,b,_,_,_,rfl,rfl,hb.sq _,Af (j:=0) rfl,_,rfl,_,_,rfl,rfl,_,rfl,?_⟩
  refine Df (fun _=>?_) (fun z=>absurd (decide_eq_true h1) z)
  refine ⟨_,rfl,b,_,_,_,rfl,rfl,hb.sq _,Af (j:=1) rfl,_,_,rfl,rfl,?_⟩
  show Q (.bl (decide (i<=hi))) H
  rw [decide_eq_true h2]
  exact q
noncomputable def a_ (K:PySem.W.Frag) (aB:Addr):Sp:=fun vs H Q _=>∃ (x:V) (part:Str) (p:Addr) (us:List V) (ρ:V->R),vs=[x,.str part,.ref p]/\H p=some (.lst us)/\Rows H ρ us/\us.length<=500/\Js K aB ρ us x part/\∀ H',Aq H H'->Q (.bl true) H'
theorem lX:BJ ["thing","part","ahead"] ["thing","part","ahead"] (Ah gR):=CG
include N T in
theorem dR:BP P w K mg base Bp 4 aD.fPa aD.dPa ["thing","part","ahead"] (a_ K aB):=by
 refine N.FPa.1.ok lX (fun vs H Q E h=>?_) (fun cdv A outer s H vs Q E hr h=>?_)
 ·obtain ⟨x,part,p,us,ρ,rfl,_⟩:=h
  rfl
 ·obtain ⟨x,part,p,us,ρ,rfl,hp,hR,hl,hok,q⟩:=h
  refine ⟨_,(Ae (Ca (Yw (U0 (pv 1) (CW (v:=.ref aB) rfl T.mB rfl))) (Aj (BR (An (bu N T) (ad hr) rfl N.FWi.2.2 N.FWi.1.kp N.FWi.2.1 .nil A_ (Ai (pv 0) (Ai (LR (CW (v:=.ref aB) rfl T.mB rfl) (pv 1) (fun _ _=>rfl)) Aa))))) Bk)
   (Ae (Ca (Be Ej (pv 1) Di (Bf _)) (Aj (BR (Cj (An (Xu N T) (ad hr) rfl N.FNm.2.2 N.FNm.1.kp N.FNm.2.1 .nil A_ (Ai (pv 0) Aa)) (Cu (Vf (BK (Jy rfl) rfl T.any jv (Ai (Bt rfl (BX (osc:=Ah gR) (N:=["thing","part","ahead"]) rfl rfl (by decide +kernel)) (Zt (CW (v:=.ref aN) rfl T.mN rfl)) (fun _ _ _ _=>B_) (fun _ _ _ _=>(An (aV N T) (ad hr) rfl N.FTo.2.2 N.FTo.1.kp N.FTo.2.1 .nil A_ (Ai (pv 3) (Ai (pv 0) (Ai (pv 1) Aa)))))) Aa))))))) Bk)
   (Aj (BR (An (aV N T) (ad hr) rfl N.FTo.2.2 N.FTo.1.kp N.FTo.2.1 .nil A_ (Ai (pv 2) (Ai (pv 1) (Ai (pv 0) Aa)))))))),?_⟩
  rcases hok with ⟨i,lo,hi,b,rfl,hn,hb,h1,h2⟩ | ⟨hn,rfl,t,rfl,ht,hno⟩ | ⟨hn,hne,t,rfl,ht,hyes⟩
  ·refine ⟨_,rfl,aB,part,_,rfl,rfl,T.dB,hn,_,rfl,Ey ?_⟩
   exact ⟨_,rfl,_,rfl,aB,part,.ref b,_,rfl,rfl,T.dB,hn,rfl,i,lo,hi,b,rfl,hb,h1,h2,q H (Aq.refl H)⟩
  ·refine ⟨_,rfl,aB,_,_,rfl,rfl,T.dB,hn,_,rfl,Dm ?_⟩
   refine ⟨_,rfl,rfl,_,rfl,Ey ?_⟩
   refine ⟨_,rfl,t,rfl,ht,fun H1 s1=>⟨_,rfl,Ey ?_⟩⟩
   have hS:Eg K H1 aN (named.map V.str):=T.tN.sq _
   refine ⟨aN,rfl,⟨_,hS⟩,HW (xs:=named.map V.str) (fun _=>true) (fun _=>.bl false) (by show 5<sizeLine; decide) (fun i H2 x hs hx=>⟨_,x,hs.tup hS,hx⟩) (fun i H2 y H3 hs _ hy=>⟨hy.1,hy.2 _ (hs.tup hS)⟩) (fun H2 hs=>⟨_,hs.tup hS,Nat.le_refl _⟩)
    (fun x hx H' hs R k=>k H' (Aq.refl H')) (fun x hx _ H' hs R k=>?_) (fun D H2 hD s2 hl2=>?_)⟩
   ·obtain ⟨w0,hw0,rfl⟩:=bt.mp hx
    refine ⟨_,rfl,_,rfl,_,rfl,p,us,w0,t,ρ,rfl,hs _ _ (s1 _ _ hp),(hR.mono s1).mono hs,hl,ht,fun H'' s''=>?_⟩
    rw [hno w0 hw0]
    exact k H'' s''
   ·refine ⟨D,[false,false,false,false,false],rfl,lc hl2,_,rfl,?_⟩
    exact q H2 (s1.trans s2)
  ·refine ⟨_,rfl,aB,_,_,rfl,rfl,T.dB,hn,_,rfl,Dm ?_⟩
   refine ⟨_,rfl,rfl,_,rfl,?_⟩
   refine Df (fun z=>absurd (V.str.inj (of_decide_eq_true z)) hne) (fun _=>?_)
   refine ⟨_,rfl,_,rfl,_,rfl,p,us,part,t,ρ,rfl,hp,hR,hl,ht,fun H' hs=>?_⟩
   rw [hyes]
   exact q H' hs
noncomputable def fH (K:PySem.W.Frag) (aB aP:Addr):Sp:=fun vs H Q _=>∃ (r p:Addr) (w:Str) (xs:List V) (us:List V) (ρ:V->R) (ap:Addr) (ps:List Str),vs=[.ref r,.ref p]/\H r=some (.tup (.str w::xs))/\H p=some (.lst us)/\Rows H ρ us/\us.length<=500 /\
 PySem.W.nsIn K aP w=some (some (.ref ap))/\KTup K ap (ps.map V.str)/\xs.length=ps.length/\ps.length<=10/\(∀ (i:Nat) x y,xs[i]? = some x->ps[i]? = some y->Js K aB ρ us x y)/\∀ H',Aq H H'->Q (.bl true) H'
theorem aQ:BJ ["row","ahead","parts"] ["row","ahead"] (Ah gO):=CG
include N T in
theorem bf:BP P w K mg base Bp 5 aD.fHp aD.dHp ["row","ahead"] (fH K aB aP):=by
 refine N.FHp.1.ok aQ (fun vs H Q E h=>?_) (fun cdv A outer s H vs Q E hr h=>?_)
 ·obtain ⟨r,p,w,xs,us,ρ,ap,ps,rfl,_⟩:=h
  rfl
 ·obtain ⟨r,p,w,xs,us,ρ,ap,ps,rfl,hr0,hp,hR,hl,hn,hap,hlen,hps,hok,q⟩:=h
  refine ⟨_,(Ae (Fi (i:=2) aQ.nd rfl (Or.inl rfl) (LR (CW (v:=.ref aP) rfl T.mP rfl) (Ar (Ao (K:=K) rfl) (pv 0) Ac (fun _ _=>rfl)) (fun _ _=>rfl)))
   (Ae (Ca (Be QJ (BK Bj rfl T.len dQ (Ai (pv 0) Aa)) (BV Bv Ac (BK Bj rfl T.len dQ (Ai (pv 2) Aa))) (Bf _)) (Aj (BR Kq)) Bk)
   (Aj (BR (BK (Jt rfl) rfl T.all jp (Ai (XQ rfl (Oz (osc:=Ah gO) (N:=["row","ahead","parts"]) rfl rfl (by decide +kernel)) (Wf rfl T.zip (Ai (Gj Zq (pv 0) (Hg Ac) Hl) (Ai (pv 2) Aa))) (fun _ _ _ _=>B_) (fun _ _ _ _=>(An (dR N T) (ad hr) rfl N.FPa.2.2 N.FPa.1.kp N.FPa.2.1 .nil A_ (Ai (pv 0) (Ai (pv 1) (Ai (pv 3) Aa)))))) Aa)))))),?_⟩
  refine ⟨_,rfl,r,_,_,_,rfl,rfl,lc hr0,Af (j:=0) rfl,aP,w,.ref ap,_,rfl,rfl,T.dP,hn,rfl,?_⟩
  refine ⟨_,rfl,r,_,rfl,.inr (.inl (.inl hr0)),_,rfl,ap,_,rfl,.inr (hap.sq _),_,_,rfl,rfl,rfl,_,rfl,?_⟩
  refine Df (fun z=>?_) (fun _=>?_)
  ·exfalso
   have e:(((V.str w::xs).length:Nat):Int)=1+(((ps.map V.str).length:Nat):Int):=by
    rw [dc,ag,hlen]
    omega
   rw [e] at z
   simp at z
  ·have hcut:El (V.str w::xs) (some 1) none=xs:=by
    unfold El
    have e1:HT.Dj (V.str w::xs).length 0 (some ((1:Nat):Int))=1:=by rw [HT.JC,dc]; omega
    have e1':HT.Dj (V.str w::xs).length 0 (some (1:Int))=1:=e1
    rw [e1',HT.Uv,List.drop_succ_cons,List.drop_zero]
    exact bq (by rw [dc]; omega)
   refine ⟨_,rfl,_,rfl,r,_,rfl,lc hr0,(fun z=>?_),fun p2 hp2=>?_⟩
   ·have e1:HT.Dj (V.str w::xs).length 0 (some ((1:Nat):Int))=1:=by rw [HT.JC,dc]; omega
    have:=z.1.symm.trans e1
    cases this
   rw [hcut]
   obtain ⟨H2,eqH,s2,a2⟩:=HD (o:=HO.tup xs) hp2
   rw [eqH]
   have h1:Eg K H2 p2 xs:=.inl (.inl a2)
   refine ⟨_,rfl,p2,ap,rfl,⟨_,h1⟩,⟨_,hap.sq _⟩,VJ (K:=K) (xs:=xs) (ys:=ps.map V.str) (fun _ _=>.bl true) h1 (hap.sq _) (by rw [ag]; exact hlen) (Az (by omega)) (fun i x y hx hy H3 s3 R k=>?_) (fun D H3 hD s3 hl3=>?_)⟩
   ·rw [ax] at hy
    obtain ⟨part,hpart,rfl⟩:=aE.mp hy
    exact ⟨_,rfl,_,rfl,_,rfl,x,part,p,us,ρ,rfl,s3 _ _ (s2 _ _ hp),(hR.mono s2).mono s3,hl,hok i x part hx hpart,fun H4 s4=>k H4 s4⟩
   ·have e:List.zipWith (fun _ _=>V.bl true) xs (ps.map V.str)=(List.replicate xs.length true).map V.bl:=by
     rw [List.map_replicate]
     refine fN fun i=>?_
     rw [List.getElem?_zipWith]
     by_cases hi:i<xs.length
     ·rw [ae hi,ae (by rw [ag]; omega),ae (by rw [cq]; exact hi)]
      simp
     ·rw [ff (by omega),ff (l:=List.replicate _ _) (by rw [cq]; omega)]
    rw [e] at hl3
    refine ⟨D,List.replicate xs.length true,rfl,lc hl3,?_⟩
    have e2:(List.replicate xs.length true).all id=true:=by simp
    rw [e2]
    exact q H3 (s2.trans s3)
noncomputable def bF:Sp:=fun vs H Q _=>∃ (p:Addr) (us:List V) (ρ:V->R) (c:Nat),vs=[.ref p]/\H p=some (.lst us)/\Rows H ρ us/\us.length<=500/\YM ρ us c/\Q (.int (c:Nat)) H
theorem Wj:BJ ["rows","count","row"] ["rows"] (Ah jU):=CG
include N T in
theorem Z4:BP P w K mg base Bp 1 aD.fCl aD.dCl ["rows"] bF:=by
 refine N.FCl.1.ok Wj (fun vs H Q E h=>?_) (fun cdv A outer s H vs Q E hr h=>?_)
 ·obtain ⟨p,us,ρ,c,rfl,_⟩:=h
  rfl
 ·obtain ⟨p,us,ρ,c,rfl,hp,hR,hl,hc,q⟩:=h
  refine ⟨_,(Ae (Fi (i:=1) Wj.nd rfl (Or.inl rfl) Ac)
   (Ae (DR PassesOwn.never rfl (Y0 rfl T.reversed (Ai (pv 0) Aa)) (Ba (i:=2) Wj.nd rfl (Or.inl rfl)) (Ae (Ca (Be QJ (Ar (Ao (K:=K) rfl) (pv 2) Ac (fun _ _=>rfl)) Di (Bf _)) (Aj Sy) Bk)
   (Aj (Fi (i:=1) Wj.nd rfl (Or.inl rfl) (BV Bv (pv 1) Ac)))))
   (Aj (BR (pv 1))))),?_⟩
  have hS:CZ K H p us:=.inl (.inl hp)
  refine ⟨_,rfl,p,us,rfl,hS,V2 (K:=K) (a:=p) (xs:=us) (fun i σ H4=>H4=H/\i<=c/\∃ v2,σ=[some (.ref p),some (.int (i:Nat)),v2]) ⟨rfl,cm _,_,rfl⟩ (fun i σ H4 _ h=>by rw [h.1]; exact hS) ?_ ?_⟩
  ·rintro i x σ H4 hi hx ⟨rfl,hic,v2,rfl⟩
   obtain ⟨r,rfl,hr0⟩:=hR x (aI hx)
   refine ⟨_,rfl,r,_,_,_,rfl,rfl,lc hr0,Af (j:=0) rfl,rfl,_,rfl,?_⟩
   by_cases e:(ρ (.ref r)).w = "line"
   ·have hne:i ≠ c:=fun z=>by
     obtain ⟨v,hv,hno⟩:=hc.no
     rw [← z,hx] at hv
     cases hv
     exact hno e
    refine Qc (congrArg V.str e) ?_
    exact ⟨_,rfl,_,_,rfl,rfl,rfl,by omega,_,rfl⟩
   ·have hic':i=c:=by
     refine Classical.byContradiction fun z=>?_
     obtain ⟨v,hv,hyes⟩:=hc.all i (by omega)
     rw [hx] at hv
     cases hv
     exact e hyes
    subst hic'
    rw [decide_eq_false fun z=>e (V.str.inj z)]
    refine Ey ?_
    exact ⟨_,rfl,q⟩
  ·rintro σ H4 ⟨rfl,hic,v2,rfl⟩
   have:=hc.lt
   omega
noncomputable def ak:Sp:=fun vs H Q _=>∃ (n:Int) (bd:Str) (p:Addr) (us:List V) (ρ:V->R),vs=[.int n,.str bd,.ref p]/\H p=some (.lst us)/\Rows H ρ us/\us.length<=500/\Fe ρ us/\∀ H',Aq H H'->Q (.bl (keyOf ρ us bd n)) H'
theorem jz:BJ ["number","board","ahead"] ["number","board","ahead"] (Ah gq):=CG
include N T in
theorem bC:BP P w K mg base Bp 2 aD.fIk aD.dIk ["number","board","ahead"] ak:=by
 refine N.FIk.1.ok jz (fun vs H Q E h=>?_) (fun cdv A outer s H vs Q E hr h=>?_)
 ·obtain ⟨n,bd,p,us,ρ,rfl,_⟩:=h
  rfl
 ·obtain ⟨n,bd,p,us,ρ,rfl,hp,hR,hl,hB,q⟩:=h
  refine ⟨_,(Aj (BR (BK (Jy rfl) rfl T.any jv (Ai (Bt rfl (BX (osc:=Ah gq) (N:=["number","board","ahead"]) rfl rfl (by decide +kernel)) (Bc (An (Ni N T) (ad hr) rfl N.FRo.2.2 N.FRo.1.kp N.FRo.2.1 .nil A_ (Ai (pv 2) (Ai Di Aa)))) (fun _ _ _ _=>B_) (fun _ _ _ _=>(Cj (Ef Ej (Ar (Ao (K:=K) rfl) (pv 0) Ac (fun _ _=>rfl)) (pv 2) (Bf _)) (Cu (Ef Ii (pv 1) (Ar (Ao (K:=K) rfl) (pv 0) Ac (fun _ _=>rfl)) (Bf _)))))) Aa)))),?_⟩
  refine ⟨_,rfl,p,us,"board",ρ,rfl,hp,hR,hl,fun D H2 hD s2 hl2=>?_⟩
  have hS:CZ K H2 D (us.filter (pw ρ "board")):=.inl (.inl hl2)
  refine ⟨D,rfl,⟨_,hS⟩,Dg (K:=K) (xs:=us.filter (pw ρ "board")) (fun _=>true) (fun v=>.bl (pn ρ bd v && decide (n<Z0 (ρ v)))) hS (Az (by have:=Gy (pw ρ "board") us; omega)) (fun x hx H' hs R k=>k H' (Aq.refl H')) (fun x hx _ H' hs R k=>?_) (fun D3 H3 hD3 s3 hl3=>?_)⟩
  ·have hx':=dr.mp hx
   obtain ⟨m,em⟩:=hB x hx'.1 (V.str.inj (of_decide_eq_true hx'.2))
   have hz:Z0 (ρ x)=m:=by unfold Z0; rw [em]
   have hT:=((hR.mono s2).mono hs) x hx'.1
   have kk:=k H' (Aq.refl H')
   rw [hz] at kk
   obtain ⟨T0,rfl,hT⟩:=hT
   have kk:R (.bl (decide (V.str (ρ (.ref T0)).nm=V.str bd) && decide (n<m))) H':=kk
   have hT':H' T0=some (.tup (.str (ρ (.ref T0)).w :: .str (ρ (.ref T0)).nm::(ρ (.ref T0)).rest)):=hT
   rw [em] at hT'
   refine ⟨_,rfl,T0,_,_,_,rfl,rfl,lc hT',Af (j:=1) rfl,_,rfl,rfl,_,rfl,?_⟩
   refine Df (fun g=>?_) (fun g=>?_)
   ·rw [g,Bool.true_and] at kk
    exact ⟨_,rfl,_,rfl,T0,_,_,_,rfl,rfl,lc hT',Af (j:=2) rfl,_,_,rfl,rfl,kk⟩
   ·rw [(kR _).mp g,Bool.false_and] at kk
    exact kk
  ·refine ⟨D3,(us.filter (pw ρ "board")).map (fun v=>pn ρ bd v && decide (n<Z0 (ρ v))),rfl,.inl (.inl ?_),?_⟩
   ·rw [hl3,cK.mpr (fun _ _=>rfl),cE]
    rfl
   ·have e:((us.filter (pw ρ "board")).map (fun v=>pn ρ bd v && decide (n<Z0 (ρ v)))).any id=keyOf ρ us bd n:=by
     rw [List.any_map]
     rfl
    rw [e]
    exact q H3 (s2.trans s3)
noncomputable def gC:Sp:=fun vs H Q _=>∃ (r p:Addr) (ro:R) (us:List V) (ρ:V->R),vs=[.ref r,.ref p]/\H r=some (.tup ro.v)/\H p=some (.lst us)/\Rows H ρ us/\us.length<=500/\Td ρ us ro/\Fe ρ us/\∀ H',Aq H H'->Q (.bl true) H'
theorem ZM:BJ ["line","ahead","count","row"] ["line","ahead"] (Ah lG):=CG
include N T in
theorem eX:BP P w K mg base Bp 3 aD.fSb aD.dSb ["line","ahead"] gC:=by
 refine N.FSb.1.ok ZM (fun vs H Q E h=>?_) (fun cdv A outer s H vs Q E hr h=>?_)
 ·obtain ⟨r,p,ro,us,ρ,rfl,_⟩:=h
  rfl
 ·obtain ⟨r,p,ro,us,ρ,rfl,hr0,hp,hR,hl,hL,hB,q⟩:=h
  obtain ⟨tML4,hML4⟩:=T.mostLn
  refine ⟨_,(Ae (Fi (i:=2) ZM.nd rfl (Or.inl rfl) (An (Z4 N T) (ad hr) rfl N.FCl.2.2 N.FCl.1.kp N.FCl.2.1 .nil A_ (Ai (pv 1) Aa)))
   (Ae (Fi (i:=3) ZM.nd rfl (Or.inl rfl) (Ar Bm (pv 1) (BV Fx (BV Fx (BK Bj rfl T.len dQ (Ai (pv 1) Aa)) Ac) (pv 2)) (fun _ _=>rfl)))
   (Ae (Ca (PW.pt (Ge (Be QJ (Ar (Ao (K:=K) rfl) (pv 3) Ac (fun _ _=>rfl)) Di (Bf _)) (Gg (Be X8 (pv 2) (CW (v:=.int 4) rfl hML4 ⟨tML4,rfl⟩) (Bf _))))) (Aj (BR Kq)) Bk)
   (Aj (BR (Cj (Ef Dc (Ar (Ao (K:=K) rfl) (pv 0) Ac (fun _ _=>rfl)) (Ar (Ao (K:=K) rfl) (pv 0) Ac (fun _ _=>rfl)) (Bf _)) (Cu (An (bC N T) (ad hr) rfl N.FIk.2.2 N.FIk.1.kp N.FIk.2.1 .nil A_ (Ai (Ar (Ao (K:=K) rfl) (pv 0) Ac (fun _ _=>rfl)) (Ai (Ar (Ao (K:=K) rfl) (pv 3) Ac (fun _ _=>rfl)) (Ai (pv 1) Aa))))))))))),?_⟩
  obtain ⟨cnt,v,sh,lo,hi,bd,rs,er,hc,h4,hv,hw,hrest,hle,hk⟩:=hL.ex
  have hr1:H r=some (.tup [.str ro.w,.str ro.nm,.int sh,.int lo,.int hi]):=by rw [hr0,← er]
  obtain ⟨r2,rfl,hr2⟩:=hR v (aI hv)
  have hr2':H r2=some (.tup (.str (ρ (.ref r2)).w :: .str (ρ (.ref r2)).nm :: .str bd::rs)):=by rw [hr2,← hrest]
  have hlt:=hc.lt
  have ei:((us.length:Nat):Int) - 1 - ((cnt:Nat):Int)=((us.length - 1 - cnt:Nat):Int):=by omega
  have hS:CZ K H p us:=.inl (.inl hp)
  refine ⟨_,rfl,p,us,ρ,cnt,rfl,hp,hR,hl,hc,?_⟩
  refine ⟨_,rfl,_,rfl,p,us,rfl,.inl hS,_,_,rfl,rfl,_,rfl,_,_,rfl,rfl,p,us,_,_,rfl,rfl,hS,(by rw [ei]; exact Af hv),?_⟩
  refine ⟨_,rfl,r2,_,_,_,rfl,rfl,lc hr2',Af (j:=0) rfl,rfl,_,rfl,Qc (congrArg V.str hw) ?_⟩
  refine ⟨_,rfl,_,_,rfl,rfl,_,rfl,?_⟩
  refine Df (fun z=>?_) (fun _=>?_)
  ·have:=of_decide_eq_true z
   omega
  refine ⟨_,rfl,r,_,_,_,rfl,rfl,lc hr1,Af (j:=3) rfl,_,rfl,r,_,_,_,rfl,rfl,lc hr1,Af (j:=4) rfl,_,_,rfl,rfl,_,rfl,?_⟩
  refine Df (fun _=>?_) (fun z=>absurd (decide_eq_true hle) z)
  refine ⟨_,rfl,r,_,_,_,rfl,rfl,lc hr1,Af (j:=4) rfl,_,rfl,r2,_,_,_,rfl,rfl,lc hr2',Af (j:=2) rfl,_,rfl,hi,bd,p,us,ρ,rfl,hp,hR,hl,hB,fun H' s'=>?_⟩
  rw [hk]
  exact q H' s'
noncomputable def Yg (K:PySem.W.Frag) (aB aP aM:Addr):Sp:=fun vs H Q _=>∃ (r p:Addr) (ro:R) (us:List V) (ρ:V->R),vs=[.ref r,.ref p]/\H r=some (.tup ro.v)/\H p=some (.lst us)/\Rows H ρ us/\us.length<=500/\G7 K aB aP aM ρ us ro/\∀ H',Aq H H'->Q (.bl true) H'
theorem jn:BJ ["row","ahead"] ["row","ahead"] (Ah jc):=CG
include N T in
theorem bY:BP P w K mg base Bp 6 aD.fWm aD.dWm ["row","ahead"] (Yg K aB aP aM):=by
 refine N.FWm.1.ok jn (fun vs H Q E h=>?_) (fun cdv A outer s H vs Q E hr h=>?_)
 ·obtain ⟨r,p,ro,us,ρ,rfl,_⟩:=h
  rfl
 ·obtain ⟨r,p,ro,us,ρ,rfl,hr0,hp,hR,hl,ok,q⟩:=h
  refine ⟨_,(Ae (Ca (Be Ej (Ar (Ao (K:=K) rfl) (pv 0) Ac (fun _ _=>rfl)) Di (Bf _)) (Aj Dq) Bk)
   (Ae (Ca (Be Ej (Ar (Ao (K:=K) rfl) (pv 0) Ac (fun _ _=>rfl)) Di (Bf _)) (Aj (BR (Cj (An (bf N T) (ad hr) rfl N.FHp.2.2 N.FHp.1.kp N.FHp.2.1 .nil A_ (Ai (pv 0) (Ai (pv 1) Aa))) (Cu (An (eX N T) (ad hr) rfl N.FSb.2.2 N.FSb.1.kp N.FSb.2.1 .nil A_ (Ai (pv 0) (Ai (pv 1) Aa))))))) Bk)
   (Aj (BR (Cj (Uo (U0 (Ar (Ao (K:=K) rfl) (pv 0) Ac (fun _ _=>rfl)) (CW (v:=.ref aP) rfl T.mP rfl))) (Cu (An (bf N T) (ad hr) rfl N.FHp.2.2 N.FHp.1.kp N.FHp.2.1 .nil A_ (Ai (pv 0) (Ai (pv 1) Aa))))))))),?_⟩
  obtain ⟨ap,ps,hn,hap,hlen,hps,hok⟩:=ok.parts
  refine ⟨_,rfl,r,_,_,_,rfl,rfl,lc hr0,Af (j:=0) rfl,rfl,_,rfl,?_⟩
  refine Df (fun z=>absurd (V.str.inj (of_decide_eq_true z)) ok.ns) (fun _=>?_)
  refine ⟨_,rfl,r,_,_,_,rfl,rfl,lc hr0,Af (j:=0) rfl,rfl,_,rfl,?_⟩
  refine Df (fun z=>?_) (fun _=>?_)
  ·have hline:=ok.line (V.str.inj (of_decide_eq_true z))
   refine ⟨_,rfl,_,rfl,r,p,ro.w,_,us,ρ,ap,ps,rfl,hr0,hp,hR,hl,hn,hap,hlen,hps,hok,fun H1 s1=>⟨_,rfl,Ey ?_⟩⟩
   exact ⟨_,rfl,_,rfl,r,p,ro,us,ρ,rfl,s1 _ _ hr0,s1 _ _ hp,hR.mono s1,hl,hline,ok.iC,fun H2 s2=>q H2 (s1.trans s2)⟩
  refine ⟨_,rfl,r,_,_,_,rfl,rfl,lc hr0,Af (j:=0) rfl,aP,_,_,rfl,rfl,T.dP,hn,_,rfl,Ey ?_⟩
  exact ⟨_,rfl,_,rfl,r,p,ro.w,_,us,ρ,ap,ps,rfl,hr0,hp,hR,hl,hn,hap,hlen,hps,hok,q⟩
noncomputable def eV (K:PySem.W.Frag) (aM:Addr):Sp:=fun vs H Q _=>∃ (p:Addr) (w:Str) (us:List V) (ρ:V->R),vs=[.str w,.ref p]/\H p=some (.lst us)/\Rows H ρ us/\us.length<=500/\(PySem.W.nsIn K aM w=some none \/ ∃ (m:Int) (t:Tok),PySem.W.nsIn K aM w=some (some (.int m t))/\(((us.filter (pw ρ w)).length:Nat):Int)<m)/\∀ H',Aq H H'->Q (.bl true) H'
theorem kj:BJ ["word","ahead"] ["word","ahead"] (Ah ig):=CG
include N T in
theorem dz:BP P w K mg base Bp 2 aD.fHr aD.dHr ["word","ahead"] (eV K aM):=by
 refine N.FHr.1.ok kj (fun vs H Q E h=>?_) (fun cdv A outer s H vs Q E hr h=>?_)
 ·obtain ⟨p,w,us,ρ,rfl,_⟩:=h
  rfl
 ·obtain ⟨p,w,us,ρ,rfl,hp,hR,hl,hroom,q⟩:=h
  refine ⟨_,(Aj (BR (dw (Uo (Rh (pv 0) (CW (v:=.ref aM) rfl T.mM rfl))) (Cu (Ef Ii (BK Bj rfl T.len dQ (Ai (An (Ni N T) (ad hr) rfl N.FRo.2.2 N.FRo.1.kp N.FRo.2.1 .nil A_ (Ai (pv 1) (Ai (pv 0) Aa))) Aa)) (LR (CW (v:=.ref aM) rfl T.mM rfl) (pv 0) (fun _ _=>rfl)) (Bf _)))))),?_⟩
  rcases hroom with hn | ⟨m,t,hn,hm⟩
  ·refine ⟨_,rfl,aM,w,_,rfl,rfl,T.dM,hn,_,rfl,Ey ?_⟩
   exact q H (Aq.refl H)
  refine ⟨_,rfl,aM,w,_,rfl,rfl,T.dM,hn,_,rfl,Dm ?_⟩
  refine ⟨_,rfl,_,rfl,p,us,w,ρ,rfl,hp,hR,hl,fun D H2 hD s2 hl2=>?_⟩
  refine ⟨D,_,rfl,lc (.inl hl2),_,rfl,aM,w,.int m,_,rfl,rfl,T.dM,hn,⟨t,rfl⟩,_,_,rfl,rfl,?_⟩
  show Q (.bl (decide ((((us.filter (pw ρ w)).length:Nat):Int)<m))) H2
  rw [decide_eq_true hm]
  exact q H2 s2
noncomputable def ZR (K:PySem.W.Frag) (aB aP aM:Addr):Sp:=Yg K aB aP aM
theorem jt:BJ ["thing","ahead"] ["thing","ahead"] (Ah j_):=CG
include N T in
theorem bH:BP P w K mg base Bp 7 aD.fIr aD.dIr ["thing","ahead"] (ZR K aB aP aM):=by
 refine N.FIr.1.ok jt (fun vs H Q E h=>?_) (fun cdv A outer s H vs Q E hr h=>?_)
 ·obtain ⟨r,p,ro,us,ρ,rfl,_⟩:=h
  rfl
 ·obtain ⟨r,p,ro,us,ρ,rfl,hr0,hp,hR,hl,ok,q⟩:=h
  refine ⟨_,(Ae (Ca (PW.pt (Ge (Dk (Et (BK Dl rfl T.isin de (Ai (pv 0) (Ai (E_ (v:=.ty "tuple") rfl T.tuple PyProof.Rows.boot_tuple rfl) Aa))))) (Ge (Be Ej (BK Bj rfl T.len dQ (Ai (pv 0) Aa)) Ac (Bf _)) (Gg (Dk (Et (BK Dl rfl T.isin de (Ai (Ar (Ao (K:=K) rfl) (pv 0) Ac (fun _ _=>rfl)) (Ai (E_ (v:=.ty "str") rfl T.str PyProof.Rows.boot_str rfl) Aa))))))))) (Aj (BR Kq)) Bk)
   (Aj (BR (Cj (An (bY N T) (ad hr) rfl N.FWm.2.2 N.FWm.1.kp N.FWm.2.1 .nil A_ (Ai (pv 0) (Ai (pv 1) Aa))) (Cu (An (dz N T) (ad hr) rfl N.FHr.2.2 N.FHr.1.kp N.FHr.2.1 .nil A_ (Ai (Ar (Ao (K:=K) rfl) (pv 0) Ac (fun _ _=>rfl)) (Ai (pv 1) Aa)))))))),?_⟩
  have hroom:PySem.W.nsIn K aM ro.w=some none \/ ∃ (m:Int) (t:Tok),PySem.W.nsIn K aM ro.w=some (some (.int m t))/\(((us.filter (pw ρ ro.w)).length:Nat):Int)<m:=ok.room.elim (fun z=>.inl z.2) .inr
  refine ⟨_,rfl,_,"tuple",_,_,rfl,.tup hr0,YB,_,rfl,Dm ?_⟩
  refine ⟨_,rfl,r,_,rfl,.inr (.inl (.inl hr0)),rfl,_,rfl,?_⟩
  refine Df (fun z=>?_) (fun _=>?_)
  ·exfalso
   have:=of_decide_eq_true z
   have:=V.int.inj this
   simp at this
   omega
  refine ⟨_,rfl,r,_,_,_,rfl,rfl,lc hr0,Af (j:=0) rfl,_,"str",_,_,rfl,.str _,Xl,_,rfl,Dm ?_⟩
  refine ⟨_,rfl,_,rfl,r,p,ro,us,ρ,rfl,hr0,hp,hR,hl,ok,fun H1 s1=>⟨_,rfl,Ey ?_⟩⟩
  exact ⟨_,rfl,r,_,_,_,rfl,rfl,lc (s1 _ _ hr0),Af (j:=0) rfl,_,rfl,p,ro.w,us,ρ,rfl,s1 _ _ hp,hR.mono s1,hl,hroom,fun H2 s2=>q H2 (s1.trans s2)⟩
noncomputable def cF (K:PySem.W.Frag) (aB aP aM:Addr):Sp:=fun vs H Q _=>∃ (p:Addr) (us:List V) (ρ:V->R),vs=[.ref p]/\H p=some (.lst us)/\Rows H ρ us/\1<=us.length/\us.length<=150/\(∀ (i:Nat) v,us[i]? = some v->G7 K aB aP aM ρ (us.take i) (ρ v))/\(us.filter (pw ρ "board")).isEmpty=false/\∀ H',Aq H H'->Q .non H'
theorem Yi:BJ ["rows","at","row"] ["rows"] (Ah jl):=CG
include N T in
theorem ao:BP P w K mg base Bp 8 aD.fCk aD.dCk ["rows"] (cF K aB aP aM):=by
 refine N.FCk.1.ok Yi (fun vs H Q E h=>?_) (fun cdv A outer s H vs Q E hr h=>?_)
 ·obtain ⟨p,us,ρ,rfl,_⟩:=h
  rfl
 ·obtain ⟨p,us,ρ,rfl,hp,hR,h1,h2,hok,hb,q⟩:=h
  obtain ⟨tMR,hMR⟩:=T.mostR
  refine ⟨_,(Ae (Ca (PW.pt (Ge (Dk (Et (BK Dl rfl T.isin de (Ai (pv 0) (Ai (E_ (v:=.ty "list") rfl T.list fk rfl) Aa))))) (Gg (Dk (J6 Dc Dc Ac (BK Bj rfl T.len dQ (Ai (pv 0) Aa)) (CW (v:=.int 150) rfl hMR ⟨tMR,rfl⟩)))))) (Aj Dq) Bk)
   (Ae (DR PassesOwn.never rfl (LK rfl T.enumerate (Ai (pv 0) Aa)) (Gi rfl (Bo (Ba (i:=1) Yi.nd rfl (Or.inl rfl)) (Bo (Ba (i:=2) Yi.nd rfl (Or.inl rfl)) Em))) (Aj (Ca (Dk (Et (An (bH N T) (ad hr) rfl N.FIr.2.2 N.FIr.1.kp N.FIr.2.1 .nil A_ (Ai (pv 2) (Ai (Gj Iw (pv 0) Hl (Hg (pv 1))) Aa))))) (Aj Dq) Bk)))
   (Aj (Ca (Dk (JK (An (Ni N T) (ad hr) rfl N.FRo.2.2 N.FRo.1.kp N.FRo.2.1 .nil A_ (Ai (pv 0) (Ai Di Aa))) (fun _=>rfl))) (Aj Dq) Bk)))),?_⟩
  have hS:CZ K H p us:=.inl (.inl hp)
  refine ⟨_,rfl,_,"list",_,_,rfl,.lst hp,U9,_,rfl,Dm ?_⟩
  refine ⟨_,rfl,p,_,rfl,.inl hS,_,_,rfl,rfl,_,rfl,?_⟩
  refine Df (fun _=>?_) (fun z=>absurd (decide_eq_true (by omega)) z)
  refine ⟨_,_,rfl,rfl,_,rfl,?_⟩
  have e150:decide ((us.length:Int)<=150)=true:=decide_eq_true (by omega)
  rw [e150]
  refine Dm ?_
  refine ⟨_,rfl,p,rfl,⟨_,hS⟩,Jm (K:=K) (a:=p) (xs:=us) (fun i σ H4=>Aq H H4/\∃ v1 v2,σ=[some (.ref p),v1,v2]) ⟨Aq.refl H,_,_,rfl⟩ (fun i σ H4 _ h=>h.1.seq hS) ?_ ?_⟩
  ·rintro i x σ H4 T0 hx ⟨s4,v1,v2,rfl⟩ hT
   have s5:=Aw (o:=HO.tup [.int (i:Int),x]) hT
   refine ⟨T0,_,rfl,lc Ag,rfl,_,_,rfl,_,_,rfl,rfl,?_⟩
   generalize upd H4 T0 (HO.tup [.int (i:Int),x])=H5 at s5 ⊢
   have s05:=s4.trans s5
   have hi:i<us.length:=(af.mp hx).1
   obtain ⟨r,rfl,hr0⟩:=(hR.mono s05) x (aI hx)
   refine ⟨_,rfl,_,rfl,_,rfl,_,rfl,p,_,rfl,s05.seq hS,fun p6 hp6=>?_⟩
   have s6:=Aw (o:=HO.lst (El us none (some (i:Int)))) hp6
   have a6:upd H5 p6 (HO.lst (El us none (some (i:Int)))) p6=_:=Ag
   generalize upd H5 p6 (HO.lst (El us none (some (i:Int))))=H6 at s6 a6 ⊢
   rw [S9 us i (by omega)] at a6
   have s06:=s05.trans s6
   refine ⟨r,p6,ρ (.ref r),us.take i,ρ,rfl,s6 _ _ hr0,a6,(hR.mono s06).sub fun v hv=>ia hv,by rw [ci]; omega,hok i _ hx,fun H7 s7=>⟨_,rfl,Dm ?_⟩⟩
   exact ⟨s06.trans s7,_,_,rfl⟩
  ·rintro σ H4 ⟨s4,v1,v2,rfl⟩
   refine ⟨_,rfl,p,us,"board",ρ,rfl,s4 _ _ hp,hR.mono s4,by omega,fun D H5 hD s5 hl5=>?_⟩
   refine ⟨_,.inl ⟨_,lc hl5,rfl⟩,?_⟩
   rw [hb]
   exact Dm (q H5 (s4.trans s5))
noncomputable def aL:Sp:=fun vs H Q _=>∃ (p:Addr) (ts:List Str),vs=[.ref p]/\H p=some (.lst (ts.map V.str))/\ts.length<=300/\ts.Nodup/\∀ D (kvs:List (Key × V)) H',H D=none->Aq H H'->H' D=some (.dK kvs)->(∀ (i:Nat) t,ts[i]? = some t->DQ kvs (Sum.inr t)=some (.int (i:Nat)))->Q (.ref D) H'
theorem Wy:BJ ["names","numbers","number","name"] ["names"] (Ah lW):=CG
include N T in
theorem dJ:BP P w K mg base Bp 1 aD.fNu aD.dNu ["names"] aL:=by
 refine N.FNu.1.ok Wy (fun vs H Q E h=>?_) (fun cdv A outer s H vs Q E hr h=>?_)
 ·obtain ⟨p,ts,rfl,_⟩:=h
  rfl
 ·obtain ⟨p,ts,rfl,hp,hl,nd,q⟩:=h
  have hu:=Su hr
  refine ⟨_,(Ae (Fi (i:=1) Wy.nd rfl (Or.inl rfl) Nt)
   (Ae (DR PassesOwn.never rfl (LK rfl T.enumerate (Ai (pv 0) Aa)) (Gi rfl (Bo (Ba (i:=2) Wy.nd rfl (Or.inl rfl)) (Bo (Ba (i:=3) Wy.nd rfl (Or.inl rfl)) Em))) (Aj (Wt hu (pv 1) (pv 3) (pv 2) rfl)))
   (Aj (BR (pv 1))))),?_⟩
  intro D hD
  have s0:=Aw (o:=HO.dK []) hD
  have hS:CZ K H p (ts.map V.str):=.inl (.inl hp)
  refine ⟨_,rfl,p,rfl,⟨_,s0.seq hS⟩,Jm (K:=K) (a:=p) (xs:=ts.map V.str) (fun i σ H4=>Aq H H4/\∃ (kvs:List (Key × V)),H4 D=some (.dK kvs)/\kvs.length<=i/\(∀ (j:Nat) t,j<i->ts[j]? = some t->DQ kvs (Sum.inr t)=some (.int (j:Nat)))/\∃ v2 v3,σ=[some (.ref p),some (.ref D),v2,v3])
   ⟨s0,[],Ag,ah _,fun j t hj=>absurd hj (iq _),_,_,rfl⟩ (fun i σ H4 _ h=>h.1.seq hS) ?_ ?_⟩
  ·rintro i x σ H4 T0 hx ⟨s4,kvs,hd,hk,hv,v2,v3,rfl⟩ hT
   rw [ax] at hx
   obtain ⟨t,ht,rfl⟩:=aE.mp hx
   have hi:i<ts.length:=(af.mp ht).1
   have s5:=Aw (o:=HO.tup [.int (i:Int),.str t]) hT
   refine ⟨T0,_,rfl,lc Ag,rfl,_,_,rfl,_,_,rfl,rfl,?_⟩
   generalize upd H4 T0 (HO.tup [.int (i:Int),.str t])=H5 at s5 ⊢
   refine ⟨_,rfl,_,rfl,_,rfl,D,_,rfl,TF.k (k:=Sum.inr t) (s5 _ _ hd) (Az (by omega)),?_⟩
   refine ⟨fun b u e=>?_,putK kvs (Sum.inr t) (.int (i:Int)),Ag,br (GX _ _ _) (by omega),fun j t' hj ht'=>?_,_,_,rfl⟩
   ·rw [Am (Av e hD)]
    exact s5 _ _ (s4 _ _ e)
   ·rw [Tp]
    by_cases e:t'=t
    ·subst e
     have:j=i:=by
      obtain ⟨h1,e1⟩:=af.mp ht'
      obtain ⟨h2,e2⟩:=af.mp ht
      exact (List.getElem_inj nd).mp (e1.trans e2.symm)
     subst this
     rw [if_pos rfl]
    ·rw [if_neg fun z=>e (Sum.inr.inj z)]
     refine hv j t' ?_ ht'
     rcases Nat.lt_succ_iff_lt_or_eq.mp hj with z | z
     ·exact z
     ·subst z
      rw [ht] at ht'
      exact absurd (Option.some.inj ht').symm e
  ·rintro σ H4 ⟨s4,kvs,hd,hk,hv,v2,v3,rfl⟩
   refine ⟨_,rfl,q D kvs H4 hD s4 hd fun i t ht=>hv i t ?_ ht⟩
   rw [ag]
   exact (af.mp ht).1
theorem dW {n:Nat} (h:n<=3000):n<sizeLine:=bv h (by decide)
noncomputable def cu:Sp:=fun vs H Q _=>∃ (p:Addr) (as:List Th) (us:List V),vs=[.ref p]/\H p=some (.lst us)/\Paired (fun (a:Th) y=>TupAt H (tV a) y) as us/\as.length<=12/\(∀ a∈as,a.2.1<=97)/\∀ D ys H',H D=none->Aq H H'->H' D=some (.lst ys)->Paired (fun q y=>TupAt H' (qV q) y) (HY (as.map tN)) ys->Q (.ref D) H'
theorem WM:BJ ["things","places","number","thing"] ["things"] (Ah iB):=CG
include N T in
theorem bZ:BP P w K mg base Bp 1 aD.fPl aD.dPl ["things"] cu:=by
 refine N.FPl.1.ok WM (fun vs H Q E h=>?_) (fun cdv A outer s H vs Q E hr h=>?_)
 ·obtain ⟨p,as,us,rfl,_⟩:=h
  rfl
 ·obtain ⟨p,as,us,rfl,hp,hb,hl,hz,q⟩:=h
  refine ⟨_,(Ae (Fi (i:=1) WM.nd rfl (Or.inl rfl) (CN Aa))
   (Ae (DR PassesOwn.never rfl (LK rfl T.enumerate (Ai (pv 0) Aa)) (Gi rfl (Bo (Ba (i:=2) WM.nd rfl (Or.inr rfl)) (Bo (Ba (i:=3) WM.nd rfl (Or.inl rfl)) Em))) (Aj (DG (Fz bE PySem.F.slot_list_extend PySem.F.type_list_extend Ry (pv 1) (Ai (Bt rfl (BX (osc:=Ah iB) (N:=["things","places","number","thing"]) rfl rfl (by decide +kernel)) (Ep rfl T.range (Ai (Ar (Ao (K:=K) rfl) (pv 3) Ac (fun _ _=>rfl)) Aa)) (fun _ _ _ _=>B_) (fun _ _ _ _=>(Ce (Ai (pv 3) (Ai (pv 0) Aa))))) Aa)))))
   (Aj (BR (pv 1))))),?_⟩
  refine ⟨FQ (by simp),fun D hD=>?_⟩
  have s0:=Aw (o:=HO.lst []) hD
  have hS:CZ K H p us:=.inl (.inl hp)
  have hul:=hb.length
  refine ⟨_,rfl,p,rfl,⟨_,s0.seq hS⟩,Jm (K:=K) (a:=p) (xs:=us) (fun i σ H4=>Aq H H4/\∃ ys,H4 D=some (.lst ys)/\Paired (fun q y=>TupAt H4 (qV q) y) (HY ((as.map tN).take i)) ys/\∃ v2 v3,σ=[some (.ref p),some (.ref D),v2,v3])
   ⟨s0,[],Ag,.nil,_,_,rfl⟩ (fun i σ H4 _ h=>h.1.seq hS) ?_ ?_⟩
  ·rintro i x σ H4 T0 hx ⟨s4,ys,hd,hpr,v2,v3,rfl⟩ hT
   obtain ⟨b,hbi,hxb⟩:=Cg hb hx
   have hi:i<as.length:=(af.mp hbi).1
   have hb97:=hz b (aI hbi)
   have hbi':(as.map tN)[i]? = some (tN b):=by rw [ax,hbi]; rfl
   have s5:=Aw (o:=HO.tup [.int (i:Int),x]) hT
   refine ⟨T0,_,rfl,lc Ag,rfl,_,_,rfl,_,_,rfl,rfl,?_⟩
   generalize upd H4 T0 (HO.tup [.int (i:Int),x])=H5 at s5 ⊢
   obtain ⟨r,rfl,hr0⟩:=hxb.mono (s4.trans s5)
   have p5:=Ax s5 hpr
   have d5:=s5 _ _ hd
   refine ⟨_,rfl,.inl ⟨rfl,_,lc d5⟩,_,rfl,r,_,_,_,rfl,rfl,lc hr0,Af (j:=1) rfl,_,rfl,by omega,by omega,?_⟩
   rw [ce]
   refine Ri (n:=b.2.1) (fun e=>qV (i,e)) (Az (by omega)) (fun e he H6 s6 R k=>?_) (fun D6 H6 zs hD6 s6 hl6 hz6=>?_)
   ·refine ⟨_,rfl,_,rfl,by show 2<=sizeLine; decide,fun T6 hT6=>?_⟩
    exact k _ _ (Aw hT6) ⟨T6,rfl,Ag⟩
   ·have ly:=(Ax s6 p5).length
    have lz:=hz6.length
    have lp:=Xi ((as.map tN).take i) 97 fun b hb=>by
     obtain ⟨a,ha,rfl⟩:=bt.mp (ia hb)
     exact hz a ha
    rw [ci,ag] at lp
    rw [cS] at lz
    have:min i as.length * 97<=12 * 97:=Nat.mul_le_mul_right _ (by omega)
    refine ⟨D,D6,ys,zs,rfl,rfl,s6 _ _ d5,hl6,fI (dW (by omega)),?_⟩
    refine ⟨fun b u e=>?_,ys++zs,Ag,?_,_,_,rfl⟩
    ·rw [Am (Av e hD)]
     exact s6 _ _ (s5 _ _ (s4 _ _ e))
    ·rw [Hf hbi']
     exact Eb (Bl (Ax s6 p5) (s6 _ _ d5)) (CP (F:=fun q y=>TupAt _ (qV q) y) (fun e=>(i,e)) (Bl hz6 (s6 _ _ d5)))
  ·rintro σ H4 ⟨s4,ys,hd,hpr,v2,v3,rfl⟩
   rw [← hul,bq (by rw [ag]; exact ah _)] at hpr
   exact ⟨_,rfl,q D ys H4 hD s4 hd hpr⟩
theorem Gq {α:Type} (l:List α) (x:α):Mf (l++[x]) (-1)=some x:=by
 unfold Mf Vc
 rw [if_neg (by decide),if_pos (by rw [ar,ck]; omega)]
 show (l++[x])[(-1+(((l++[x]).length:Nat):Int)).toNat]? = some x
 have e:(-1+(((l++[x]).length:Nat):Int)).toNat=l.length:=by
  rw [ar,ck]
  omega
 rw [e,eS (ah _),kX]
 rfl
theorem Jo {H:Hp} {l:List Ln} {v:V} {A:Addr} {xs ys:List V} (h:G_ H l v) (hA:H A=some (.lst xs)) (hv:v ≠ .ref A):G_ (upd H A (.lst ys)) l v:=by
 obtain ⟨B,ts,rfl,h1,h2⟩:=h
 have:B ≠ A:=fun z=>hv (by rw [z])
 exact ⟨B,ts,rfl,by rw [Am this]; exact h1,Bl h2 hA⟩
theorem GJ {α β:Type} {F G:α->β->Prop}:∀ {l:List α} {vs:List β},Paired F l vs->(∀ a b,b∈vs->F a b->G a b)->Paired G l vs
 | [],_,h,_=>by cases h; exact .nil
 | a::l,_,h,k=>by
  cases h with
  | cons x y=>exact .cons (k _ _ (am ..) x) (GJ y fun a b hb=>k a b (av _ hb))
theorem HS {α β:Type} {F:α->β->Prop}:∀ {l:List α} {z:α} {vs:List β},Paired F (l++[z]) vs->∃ us u,vs=us++[u]/\Paired F l us/\F z u
 | [],z,_,h=>by
  cases h with
  | cons x y=>cases y; exact ⟨[],_,rfl,.nil,x⟩
 | a::l,z,_,h=>by
  cases h with
  | cons x y =>
   obtain ⟨us,u,rfl,h1,h2⟩:=HS y
   exact ⟨_::us,u,rfl,.cons x h1,h2⟩
theorem Ez {α:Type} {l:List α} (h:l ≠ []):∃ a z,l=a++[z]:=⟨l.dropLast,l.getLast h,(List.dropLast_concat_getLast h).symm⟩
theorem Mx {rk:List (Str × Nat × Int)}:∀ {rs:List R},(∃ r∈rs,JD r.w=true)->linesOf rk rs ≠ []:=by
 have key:∀ (n:Nat) (rs:List R),rs.length=n->(∃ r∈rs,JD r.w=true)->linesOf rk rs ≠ []:=by
  intro n
  induction n with
  | zero =>
   rintro rs hl ⟨r,hr,_⟩
   cases rs with
   | nil=>cases hr
   | cons a b=>cases hl
  | succ n ih =>
   rintro rs hl ⟨r,hr,hk⟩
   obtain ⟨a,z,rfl⟩:=Ez (l:=rs) (by intro e; rw [e] at hl; cases hl)
   rw [Ci]
   rw [ar,ck] at hl
   unfold GQ
   by_cases hz:JD z.w=true
   ·rw [if_pos hz]
    simp
   ·rw [if_neg hz]
    have hr':r∈a:=by
     rcases bp.mp hr with h | h
     ·exact h
     ·rw [ai.mp h] at hk
      exact absurd hk hz
    have ih':=ih a (by omega) ⟨r,hr',hk⟩
    split
    ·obtain ⟨b,y,e⟩:=Ez ih'
     rw [e,Hv]
     simp
    ·exact ih'
 exact fun {rs} h=>key rs.length rs rfl h
noncomputable def fJ:Sp:=fun vs H Q _=>∃ (p d:Addr) (us:List V) (ρ:V->R) (rk:List (Str × Nat × Int)) (kvs:List (Key × V)),vs=[.ref p,.ref d]/\H p=some (.lst us)/\Rows H ρ us/\us.length<=500/\H d=some (.dK kvs)/\(∀ (i:Nat) r,rk[i]? = some r->DQ kvs (Sum.inr r.1)=some (.int (i:Nat)))/\(rk.map (·.1)).Nodup /\
 (∀ (i:Nat) v,us[i]? = some v->(ρ v).w = "line"->(∃ (j:Nat) (r:Str × Nat × Int) (sh lo hi:Int),rk[j]? = some r/\r.1=(ρ v).nm/\(ρ v).rest=[.int sh,.int lo,.int hi])/\∃ u∈us.take i,JD (ρ u).w=true)/\∀ D H',H D=none->Aq H H'->Fp H' D (linesOf rk (us.map ρ))->Q (.ref D) H'
theorem Yt {rk:List (Str × Nat × Int)} {j:Nat} {r:Str × Nat × Int} (nd:(rk.map (·.1)).Nodup) (h:rk[j]? = some r):(rk.map (·.1)).idxOf r.1=j:=by
 have hj:j<(rk.map (·.1)).length:=by rw [ag]; exact (af.mp h).1
 have e:(rk.map (·.1))[j]=r.1:=by
  rw [List.getElem_map]
  exact congrArg (·.1) (af.mp h).2
 rw [← e]
 exact List.Nodup.idxOf_getElem nd j hj
theorem ZV:BJ ["rows","rank_numbers","lines","row"] ["rows","rank_numbers"] (Ah j4):=CG
include N T in
theorem gB:BP P w K mg base Bp 1 aD.fLi aD.dLi ["rows","rank_numbers"] fJ:=by
 refine N.FLi.1.ok ZV (fun vs H Q E h=>?_) (fun cdv A outer s H vs Q E hr h=>?_)
 ·obtain ⟨p,d,us,ρ,rk,kvs,rfl,_⟩:=h
  rfl
 ·obtain ⟨p,d,us,ρ,rk,kvs,rfl,hp,hR,hl,hdk,hval,hnd,hln,q⟩:=h
  have hu:=Su hr
  refine ⟨_,(Ae (Fi (i:=2) ZV.nd rfl (Or.inl rfl) (CN Aa))
   (Ae (DR PassesOwn.never rfl (Bc (pv 0)) (Ba (i:=3) ZV.nd rfl (Or.inl rfl)) (Ae (Ca (Be (Jh (K:=K) rfl) (Ar (Ao (K:=K) rfl) (pv 3) Ac (fun _ _=>rfl)) (CW (v:=.ref aK) rfl T.mK rfl) rfl) (Aj (DG (Fz bE cr cy Bx (pv 2) (Ai (CN Aa) Aa)))) Bk)
   (Aj (Ca (Be Ej (Ar (Ao (K:=K) rfl) (pv 3) Ac (fun _ _=>rfl)) Di (Bf _)) (Aj (DG (Fz bE cr cy Bx (Ar (Bu (K:=K) rfl) (pv 2) (Kf Hz Ac) (fun _ _=>rfl)) (Ai (Ce (Ai (WP hu (pv 1) (Ar (Ao (K:=K) rfl) (pv 3) Ac (fun _ _=>rfl)) (fun _ _=>rfl)) (Ai (Ar (Ao (K:=K) rfl) (pv 3) Ac (fun _ _=>rfl)) (Ai (Ar (Ao (K:=K) rfl) (pv 3) Ac (fun _ _=>rfl)) (Ai (Ar (Ao (K:=K) rfl) (pv 3) Ac (fun _ _=>rfl)) Aa))))) Aa)))) Bk))))
   (Aj (BR (pv 2))))),?_⟩
  refine ⟨FQ (by simp),fun D hD=>?_⟩
  have s0:=Aw (o:=HO.lst []) hD
  have hS:CZ K H p us:=.inl (.inl hp)
  refine ⟨_,rfl,p,rfl,⟨_,s0.seq hS⟩,Er (K:=K) (a:=p) (xs:=us) (fun i σ H4=>Aq H H4/\∃ lv,H4 D=some (.lst lv)/\Paired (fun l v=>G_ H4 l v) (linesOf rk ((us.take i).map ρ)) lv/\lv.Nodup/\(∀ v∈lv,v ≠ .ref D)/\(∀ v∈lv,∃ A,v=.ref A/\H A=none)/\lv.length<=i/\(∀ l∈linesOf rk ((us.take i).map ρ),l.length<=i)/\∃ v3,σ=[some (.ref p),some (.ref d),some (.ref D),v3])
   ⟨s0,[],Ag,.nil,List.nodup_nil,(fun v hv=>nomatch hv),(fun v hv=>nomatch hv),ah _,(fun l hl=>nomatch hl),_,rfl⟩ (fun i σ H4 _ h=>h.1.seq hS) ?_ ?_⟩
  ·rintro i x σ H4 hx ⟨s4,lv,hd,hpr,nd,hne,hA0,hlv,hll,v3,rfl⟩
   have hm:=aI hx
   have hi:i<us.length:=(af.mp hx).1
   obtain ⟨r,rfl,hr0⟩:=(hR.mono s4) x hm
   have etake:(us.take (i+1)).map ρ=(us.take i).map ρ++[ρ (.ref r)]:=by
    rw [cf,hx,dA]
    rfl
   have est:linesOf rk ((us.take (i+1)).map ρ)=GQ rk (linesOf rk ((us.take i).map ρ)) (ρ (.ref r)):=by rw [etake,Ci]
   have lvl:(linesOf rk ((us.take i).map ρ)).length=lv.length:=hpr.length
   by_cases hk:JD (ρ (.ref r)).w=true
   ·have hnl:¬ (ρ (.ref r)).w = "line":=fun z=>by rw [z] at hk; exact absurd hk (by decide +kernel)
    have est2:linesOf rk ((us.take (i+1)).map ρ)=linesOf rk ((us.take i).map ρ)++[[]]:=by rw [est]; unfold GQ; rw [if_pos hk]
    refine ⟨_,rfl,r,_,_,_,rfl,rfl,lc hr0,Af (j:=0) rfl,aK,_,rfl,.inr (T.tK.sq _),rfl,rfl,_,rfl,?_⟩
    refine Df (fun _=>?_) (fun z=>absurd hk z)
    refine ⟨_,rfl,.inl ⟨rfl,_,lc hd⟩,FQ (by simp),fun p5 hp5=>?_⟩
    obtain ⟨H5,eqH,s5,u5⟩:=HD (o:=HO.lst []) hp5
    rw [eqH]
    have hd5:=s5 _ _ hd
    refine ⟨D,lv,_,rfl,rfl,hd5,Az (by omega),?_⟩
    have hrD:r ≠ D:=Ei (s5 _ _ hr0) hd5 (by intro z; cases z)
    have hpD:p5 ≠ D:=fun z=>by rw [z,hd] at hp5; cases hp5
    refine ⟨_,rfl,r,_,_,_,rfl,rfl,lc (by rw [Am hrD]; exact s5 _ _ hr0),Af (j:=0) rfl,rfl,_,rfl,?_⟩
    refine Df (fun z=>absurd (V.str.inj (of_decide_eq_true z)) hnl) (fun _=>?_)
    refine ⟨fun b u e=>?_,lv++[.ref p5],Ag,?_,?_,?_,?_,by simp; omega,?_,_,rfl⟩
    ·rw [Am (Av e hD)]
     exact s5 _ _ (s4 _ _ e)
    ·rw [est2]
     refine Eb (GJ hpr fun l v hv h=>Jo (h.mono s5) hd5 (hne v hv)) (.cons ⟨p5,[],rfl,by rw [Am hpD]; exact u5,.nil⟩ .nil)
    ·refine Pu nd fun hm=>?_
     obtain ⟨l,_,hA⟩:=Ec hpr hm
     obtain ⟨A,ts,e,h1,_⟩:=hA
     cases e
     rw [h1] at hp5
     cases hp5
    ·intro v hv
     rcases bp.mp hv with h | h
     ·exact hne v h
     ·rw [ai.mp h]
      intro z
      exact hpD (V.ref.inj z)
    ·intro v hv
     rcases bp.mp hv with h | h
     ·exact hA0 v h
     ·exact ⟨p5,ai.mp h,s4.free hp5⟩
    ·intro l hl'
     rw [est2] at hl'
     rcases bp.mp hl' with h | h
     ·exact iP (hll l h)
     ·rw [ai.mp h]
      exact cm _
   ·refine ⟨_,rfl,r,_,_,_,rfl,rfl,lc hr0,Af (j:=0) rfl,aK,_,rfl,.inr (T.tK.sq _),rfl,rfl,_,rfl,?_⟩
    refine Df (fun z=>absurd z hk) (fun _=>?_)
    refine ⟨_,rfl,r,_,_,_,rfl,rfl,lc hr0,Af (j:=0) rfl,rfl,_,rfl,?_⟩
    by_cases hwl:(ρ (.ref r)).w = "line"
    ·refine Df (fun _=>?_) (fun z=>absurd (decide_eq_true (congrArg V.str hwl)) z)
     obtain ⟨⟨j,rr,sh,lo,hi',hj,hnm,hrest⟩,u,hu,hku⟩:=hln i _ hx hwl
     have hne0:linesOf rk ((us.take i).map ρ) ≠ []:=Mx ⟨ρ u,eJ hu,hku⟩
     obtain ⟨ac,z,eac⟩:=Ez hne0
     rw [eac] at hpr
     obtain ⟨lv',v,rfl,hpr',hz⟩:=HS hpr
     obtain ⟨A,ts,rfl,hA,htp⟩:=hz
     have est2:linesOf rk ((us.take (i+1)).map ρ)=ac++[z++[⟨j,sh,lo,hi'⟩]]:=by
      rw [est]
      unfold GQ
      rw [if_neg hk,if_pos hwl,eac,Hv]
      unfold lnOf
      rw [hrest,← hnm,Yt hnd hj]
     have hr1:H4 r=some (.tup [.str (ρ (.ref r)).w,.str (ρ (.ref r)).nm,.int sh,.int lo,.int hi']):=by rw [hr0,← hrest]
     have g:=KR.k (k:=Sum.inr rr.1) (s4 _ _ hdk)
     rw [hval j rr hj,hnm] at g
     have hAD:A ≠ D:=fun e=>hne (.ref A) (by simp) (by rw [e])
     have hzl:z.length<=i:=hll z (by rw [eac]; simp)
     have htl:=htp.length
     refine ⟨_,rfl,_,rfl,D,_,_,_,rfl,rfl,lc hd,Gq lv' (V.ref A),.inl ⟨rfl,_,lc hA⟩,_,rfl,_,rfl,r,_,_,_,rfl,rfl,lc hr1,Af (j:=1) rfl,d,_,rfl,g,_,rfl,r,_,_,_,rfl,rfl,lc hr1,Af (j:=2) rfl,_,rfl,r,_,_,_,rfl,rfl,lc hr1,Af (j:=3) rfl,_,rfl,r,_,_,_,rfl,rfl,lc hr1,Af (j:=4) rfl,by show 4<=sizeLine; decide,fun T5 hT5=>?_⟩
     obtain ⟨H5,eqH,s5,u5⟩:=HD (o:=HO.tup [.int (j:Nat),.int sh,.int lo,.int hi']) hT5
     rw [eqH]
     have hA5:=s5 _ _ hA
     have hTA:T5 ≠ A:=fun e=>by rw [e,hA] at hT5; cases hT5
     have hdj:D ≠ A:=fun e=>hAD e.symm
     obtain ⟨nd1,_,hdisj⟩:=List.nodup_append.mp nd
     refine ⟨A,ts,_,rfl,rfl,hA5,Az (by omega),?_⟩
     refine ⟨fun b u e=>?_,lv'++[.ref A],by rw [Am hdj]; exact s5 _ _ hd,?_,nd,hne,hA0,by omega,?_,_,rfl⟩
     ·obtain ⟨A',eA,hA'⟩:=hA0 (.ref A) (by simp)
      cases eA
      rw [Am (Av e hA')]
      exact s5 _ _ (s4 _ _ e)
     ·rw [est2]
      refine Eb (GJ hpr' fun l v hv h=>Jo (h.mono s5) hA5 (fun e=>hdisj v hv _ (ai.mpr rfl) e)) (.cons ⟨A,ts++[.ref T5],rfl,Ag,Eb (Bl (Ax s5 htp) hA5) (.cons ⟨T5,rfl,by rw [Am hTA]; exact u5⟩ .nil)⟩ .nil)
     ·intro l hl'
      rw [est2] at hl'
      rcases bp.mp hl' with h | h
      ·exact iP (hll l (by rw [eac]; exact dt _ h))
      ·rw [ai.mp h,ar,ck]
       omega
    ·refine Df (fun z=>absurd (V.str.inj (of_decide_eq_true z)) hwl) (fun _=>?_)
     have est2:linesOf rk ((us.take (i+1)).map ρ)=linesOf rk ((us.take i).map ρ):=by rw [est]; unfold GQ; rw [if_neg hk,if_neg hwl]
     rw [← est2] at hpr hll
     exact ⟨s4,lv,hd,hpr,nd,hne,hA0,by omega,fun l hl'=>iP (hll l hl'),_,rfl⟩
  ·rintro σ H4 ⟨s4,lv,hd,hpr,nd,hne,hA0,hlv,hll,v3,rfl⟩
   rw [eD] at hpr
   exact ⟨_,rfl,q D H4 hD s4 ⟨lv,hd,hpr⟩⟩
noncomputable abbrev V8:List Str:=["row_list","board_list","rank_list","knob_rows","board_numbers","rank_numbers","knob_numbers","key_places","pipe_places","knob_lines","step_sets"]
theorem Dy:∀ m∈meths,∀ f∈V8,¬ m=f:=by decide +kernel
theorem NZ {H H':Hp} {D x C dx:Addr} {fs:List (Str × V)} {ls:List (List Ln)} (h:Fp H D ls) (s:SX x H H') (hx:H x=some (.ins C dx fs)):Fp H' D ls:=by
 obtain ⟨lv,h1,h2⟩:=h
 refine ⟨lv,s.lst hx h1,Paired.FJ h2 fun _ _ q=>?_⟩
 obtain ⟨A,ts,e,h3,h4⟩:=q
 exact ⟨A,ts,e,s.lst hx h3,s.pair hx h4⟩
theorem Rm {rk:List (Str × Nat × Int)} {ρ:V->R} {us:List V} {P1:Nat->V->Prop} (h:∀ (i:Nat) v,us[i]? = some v->(ρ v).w = "line"->P1 i v/\∃ u∈us.take i,JD (ρ u).w=true):(linesOf rk (us.map ρ)).length=(us.filter (fun v=>JD (ρ v).w)).length:=by
 have key:∀ n,n<=us.length->(linesOf rk ((us.take n).map ρ)).length=((us.take n).filter (fun v=>JD (ρ v).w)).length:=by
  intro n
  induction n with
  | zero=>intro _; rfl
  | succ n ih =>
   intro hn
   have hx:=ae (l:=us) (i:=n) (by omega)
   rw [cf,hx,dA]
   show (linesOf rk ((us.take n).map ρ++[ρ us[n]])).length=((us.take n++[us[n]]).filter _).length
   rw [Ci,iE,ar,← ih (by omega)]
   unfold GQ
   by_cases hk:JD (ρ us[n]).w=true
   ·rw [if_pos hk,fE,if_pos hk]
    simp
   ·rw [if_neg hk,fE,if_neg hk]
    by_cases hl:(ρ us[n]).w = "line"
    ·rw [if_pos hl]
     obtain ⟨_,u,hu,hku⟩:=h n _ hx hl
     obtain ⟨a,z,e⟩:=Ez (Mx (rk:=rk) ⟨ρ u,eJ hu,hku⟩)
     rw [e,Hv]
     simp
    ·rw [if_neg hl]
     simp
 have:=key us.length (ah _)
 rw [eD] at this
 exact this
noncomputable def b_ (K:PySem.W.Frag) (aB aP aM C:Addr):Sp:=fun vs H Q _=>∃ (x dx p:Addr) (us:List V) (ρ:V->R) (bs:List (Str × Nat)) (rk:List (Str × Nat × Int)) (ks:List R),vs=[.ref x,.ref p]/\H x=some (.ins C dx [])/\H p=some (.lst us)/\Rows H ρ us/\cB K aB aP aM ρ us bs rk ks/\∀ H',Cr C H' x bs rk ks (linesOf rk (us.map ρ))->SX x H H'->Q .non H'
theorem iT:BJ ["self","rows"] ["self","rows"] (Ah Vz):=CG
include N T in
theorem aF:BP P w K mg base Bp 9 aD.fOi aD.dOi ["self","rows"] (b_ K aB aP aM C):=by
 refine N.FOi.1.ok iT (fun vs H Q E h=>?_) (fun cdv A outer s H vs Q E hr h=>?_)
 ·obtain ⟨x,dx,p,us,ρ,bs,rk,ks,rfl,_⟩:=h
  rfl
 ·obtain ⟨x,dx,p,us,ρ,bs,rk,ks,rfl,hx,hp,hR,O,q⟩:=h
  refine ⟨_,(Ae (DG (An (ao N T) (ad hr) rfl N.FCk.2.2 N.FCk.1.kp N.FCk.2.1 .nil A_ (Ai (pv 1) Aa)))
   (Ae (Eu (pv 0) (Ea HN rfl T.list fk (Ai (pv 1) Aa)) rfl)
   (Ae (Eu (pv 0) (Bt rfl (BX (osc:=Ah Vz) (N:=["self","rows"]) rfl rfl (by decide +kernel)) (Bc (An (Ni N T) (ad hr) rfl N.FRo.2.2 N.FRo.1.kp N.FRo.2.1 .nil A_ (Ai (pv 1) (Ai Di Aa)))) (fun _ _ _ _=>B_) (fun _ _ _ _=>(Ce (Ai (Ar (Ao (K:=K) rfl) (pv 0) Ac (fun _ _=>rfl)) (Ai (Ar (Ao (K:=K) rfl) (pv 0) Ac (fun _ _=>rfl)) Aa))))) rfl)
   (Ae (Eu (pv 0) (Bt rfl (BX (osc:=Ah Vz) (N:=["self","rows"]) rfl rfl (by decide +kernel)) (Bc (An (Ni N T) (ad hr) rfl N.FRo.2.2 N.FRo.1.kp N.FRo.2.1 .nil A_ (Ai (pv 1) (Ai Di Aa)))) (fun _ _ _ _=>B_) (fun _ _ _ _=>(Ce (Ai (Ar (Ao (K:=K) rfl) (pv 0) Ac (fun _ _=>rfl)) (Ai (Ar (Ao (K:=K) rfl) (pv 0) Ac (fun _ _=>rfl)) (Ai (Ar (Ao (K:=K) rfl) (pv 0) Ac (fun _ _=>rfl)) Aa)))))) rfl)
   (Ae (Eu (pv 0) (Bt rfl (BX (osc:=Ah Vz) (N:=["self","rows"]) rfl rfl (by decide +kernel)) (Bc (pv 1)) (fun _ _ _ _=>(Lw (Be (Jh (K:=K) rfl) (Ar (Ao (K:=K) rfl) (pv 0) Ac (fun _ _=>rfl)) (CW (v:=.ref aK) rfl T.mK rfl) rfl))) (fun _ _ _ _=>(pv 0))) rfl)
   (Ae (Eu (pv 0) (An (dJ N T) (ad hr) rfl N.FNu.2.2 N.FNu.1.kp N.FNu.2.1 .nil A_ (Ai (Bt rfl (BX (osc:=Ah Vz) (N:=["self","rows"]) rfl rfl (by decide +kernel)) (Bc (Fw (pv 0) rfl)) (fun _ _ _ _=>B_) (fun _ _ _ _=>(Ar (Ao (K:=K) rfl) (pv 0) Ac (fun _ _=>rfl)))) Aa)) rfl)
   (Ae (Eu (pv 0) (An (dJ N T) (ad hr) rfl N.FNu.2.2 N.FNu.1.kp N.FNu.2.1 .nil A_ (Ai (Bt rfl (BX (osc:=Ah Vz) (N:=["self","rows"]) rfl rfl (by decide +kernel)) (Bc (Fw (pv 0) rfl)) (fun _ _ _ _=>B_) (fun _ _ _ _=>(Ar (Ao (K:=K) rfl) (pv 0) Ac (fun _ _=>rfl)))) Aa)) rfl)
   (Ae (Eu (pv 0) (An (dJ N T) (ad hr) rfl N.FNu.2.2 N.FNu.1.kp N.FNu.2.1 .nil A_ (Ai (Bt rfl (BX (osc:=Ah Vz) (N:=["self","rows"]) rfl rfl (by decide +kernel)) (Bc (Fw (pv 0) rfl)) (fun _ _ _ _=>B_) (fun _ _ _ _=>(Ar (Ao (K:=K) rfl) (pv 0) Ac (fun _ _=>rfl)))) Aa)) rfl)
   (Ae (Eu (pv 0) (An (bZ N T) (ad hr) rfl N.FPl.2.2 N.FPl.1.kp N.FPl.2.1 .nil A_ (Ai (Fw (pv 0) rfl) Aa)) rfl)
   (Ae (Eu (pv 0) (An (bZ N T) (ad hr) rfl N.FPl.2.2 N.FPl.1.kp N.FPl.2.1 .nil A_ (Ai (Fw (pv 0) rfl) Aa)) rfl)
   (Ae (Eu (pv 0) (An (gB N T) (ad hr) rfl N.FLi.2.2 N.FLi.1.kp N.FLi.2.1 .nil A_ (Ai (pv 1) (Ai (Fw (pv 0) rfl) Aa))) rfl)
   (Aj (Eu (pv 0) (Bt rfl (BX (osc:=Ah Vz) (N:=["self","rows"]) rfl rfl (by decide +kernel)) (Bc (An (Ni N T) (ad hr) rfl N.FRo.2.2 N.FRo.1.kp N.FRo.2.1 .nil A_ (Ai (pv 1) (Ai Di Aa)))) (fun _ _ _ _=>B_) (fun _ _ _ _=>Vh)) rfl))))))))))))),?_⟩
  have hlen:=O.len
  obtain ⟨ur,hur⟩:∃ ur,us.filter (pw ρ "rank")=ur:=⟨_,rfl⟩
  have er:ur.map ρ=rk.map Hn:=by rw [← hur]; exact O.er
  have lr:ur.length=rk.length:=by have:=congrArg List.length er; simpa using this
  have inR:∀ {v},v∈ur->v∈us:=fun {v} hv=>by rw [← hur] at hv; exact (dr.mp hv).1
  have ofR:∀ {v},v∈ur->∃ b∈rk,ρ v=Hn b:=fun {v} hv=>by
   have:ρ v∈rk.map Hn:=by rw [← er]; exact eJ hv
   obtain ⟨b,hb,e⟩:=bt.mp this
   exact ⟨b,hb,e.symm⟩
  obtain ⟨ub,hub⟩:∃ ub,us.filter (pw ρ "board")=ub:=⟨_,rfl⟩
  obtain ⟨uk,huk⟩:∃ uk,us.filter (fun v=>JD (ρ v).w)=uk:=⟨_,rfl⟩
  have eb:ub.map ρ=bs.map HB:=by rw [← hub]; exact O.eb
  have ek:uk.map ρ=ks:=by rw [← huk]; exact O.ek
  have lb:ub.length=bs.length:=by have:=congrArg List.length eb; simpa using this
  have lku:uk.length=ks.length:=by have:=congrArg List.length ek; simpa using this
  have inB:∀ {v},v∈ub->v∈us:=fun {v} hv=>by rw [← hub] at hv; exact (dr.mp hv).1
  have inKn:∀ {v},v∈uk->v∈us:=fun {v} hv=>by rw [← huk] at hv; exact (dr.mp hv).1
  have ofB:∀ {v},v∈ub->∃ b∈bs,ρ v=HB b:=fun {v} hv=>by
   have:ρ v∈bs.map HB:=by rw [← eb]; exact eJ hv
   obtain ⟨b,hb,e⟩:=bt.mp this
   exact ⟨b,hb,e.symm⟩
  have l1us:1<=us.length:=by
   have h1:=O.b0
   have h2:ub.length<=us.length:=by rw [← hub]; exact dS _ _
   omega
  refine ⟨_,rfl,p,us,ρ,rfl,hp,hR,l1us,by omega,O.ok,?_,fun H1 s1=>?_⟩
  ·rw [hub]
   cases ub with
   | nil =>
    have:=O.b0
    simp at lb
    omega
   | cons a b=>rfl
  have c1:SX x H H1:=SX.of s1
  have x1:=s1 _ _ hx
  refine ⟨_,rfl,p,_,rfl,lc (.inl (s1 _ _ hp)),fun l1 hl1=>?_⟩
  have s2:=Aw (o:=HO.lst us) hl1
  generalize upd H1 l1 (HO.lst us)=H2 at s2 ⊢
  refine ⟨_,rfl,x,C,dx,_,rfl,s2 _ _ x1,T.cl,T.n_row_list,(by show 0<1000; decide),?_⟩
  have c2:SX x H _:=(c1.trans (SX.of s2)).trans (SX.up (o:=HO.ins C dx (Bb "row_list" (.ref l1) [])))
  have x2:upd H2 x (HO.ins C dx (Bb "row_list" (.ref l1) [])) x=_:=Ag
  generalize upd H2 x (HO.ins C dx (Bb "row_list" (.ref l1) []))=H3 at c2 x2 ⊢
  have R3:Rows H3 ρ us:=fun v hv=>c2.tup hx (hR v hv)
  refine ⟨_,rfl,p,_,"board",ρ,rfl,c2.lst hx hp,R3,by omega,fun D4 H4 hD4 s4 hl4=>?_⟩
  rw [hub] at hl4
  have hS4:CZ K H4 D4 ub:=.inl (.inl hl4)
  refine ⟨D4,rfl,⟨_,hS4⟩,M9 (K:=K) (xs:=ub) (fun _=>true) (fun v=>[.str (ρ v).nm,(ρ v).rest.getD 0 .non]) hS4 (Az (by have:=O.b5; omega)) (fun y hy H' hs R k=>k H' (Aq.refl H')) (fun y hy _ H' hs R k=>?_) (fun D5 H5 bvs hD5 s5 hl5 hb5=>?_)⟩
  ·obtain ⟨b,_,e⟩:=ofB hy
   have hT:=(R3 y (inB hy)).mono (s4.trans hs)
   rw [e] at hT k
   obtain ⟨T0,rfl,hT⟩:=hT
   exact ⟨_,rfl,T0,_,_,_,rfl,rfl,lc hT,Af (j:=1) rfl,_,rfl,T0,_,_,_,rfl,rfl,lc hT,Af (j:=2) rfl,by show 2<=sizeLine; decide,fun T6 hT6=>k _ _ (Aw hT6) ⟨T6,rfl,Ag⟩⟩
  rw [cK.mpr (fun _ _=>rfl)] at hb5
  have hb5':Paired (fun b y=>TupAt H5 (bV b) y) bs bvs:=by
   have h1:=CP (F:=fun (r:R) y=>TupAt H5 [.str r.nm,r.rest.getD 0 .non] y) ρ hb5
   rw [eb] at h1
   exact FP HB h1
  clear hb5
  refine ⟨_,rfl,x,C,dx,_,rfl,s5 _ _ (s4 _ _ x2),T.cl,T.n_board_list,Nat.lt_of_le_of_lt (Bs _ _ _) (by show 1<1000; decide),?_⟩
  have u6:SX x H5 _:=SX.up (o:=HO.ins C dx (Bb "board_list" (.ref D5) (Bb "row_list" (.ref l1) [])))
  have x5:=s5 _ _ (s4 _ _ x2)
  have c6:SX x H _:=(c2.trans (SX.of (s4.trans s5))).trans u6
  have x6:upd H5 x (HO.ins C dx (Bb "board_list" (.ref D5) (Bb "row_list" (.ref l1) []))) x=_:=Ag
  have hl6:=u6.lst x5 hl5
  have hb6:=u6.pair x5 hb5'
  generalize upd H5 x (HO.ins C dx (Bb "board_list" (.ref D5) (Bb "row_list" (.ref l1) [])))=H6 at c6 x6 hl6 hb6 ⊢
  clear u6
  have R6:Rows H6 ρ us:=fun v hv=>c6.tup hx (hR v hv)
  refine ⟨_,rfl,p,_,"rank",ρ,rfl,c6.lst hx hp,R6,by omega,fun D7 H7 hD7 s7 hl7=>?_⟩
  rw [hur] at hl7
  have hS7:CZ K H7 D7 ur:=.inl (.inl hl7)
  refine ⟨D7,rfl,⟨_,hS7⟩,M9 (K:=K) (xs:=ur) (fun _=>true) (fun v=>[.str (ρ v).nm,(ρ v).rest.getD 0 .non,(ρ v).rest.getD 1 .non]) hS7 (Az (by have:=O.nr; omega)) (fun y hy H' hs R k=>k H' (Aq.refl H')) (fun y hy _ H' hs R k=>?_) (fun D8 H8 rvs hD8 s8 hl8 hr8=>?_)⟩
  ·obtain ⟨b,_,e⟩:=ofR hy
   have hT:=(R6 y (inR hy)).mono (s7.trans hs)
   rw [e] at hT k
   obtain ⟨T0,rfl,hT⟩:=hT
   exact ⟨_,rfl,T0,_,_,_,rfl,rfl,lc hT,Af (j:=1) rfl,_,rfl,T0,_,_,_,rfl,rfl,lc hT,Af (j:=2) rfl,_,rfl,T0,_,_,_,rfl,rfl,lc hT,Af (j:=3) rfl,by show 3<=sizeLine; decide,fun T6 hT6=>k _ _ (Aw hT6) ⟨T6,rfl,Ag⟩⟩
  rw [cK.mpr (fun _ _=>rfl)] at hr8
  have hr8':Paired (fun (a:Th) y=>TupAt H8 (tV a) y) (rk.map Wg) rvs:=by
   have h1:=CP (F:=fun (r:R) y=>TupAt H8 [.str r.nm,r.rest.getD 0 .non,r.rest.getD 1 .non] y) ρ hr8
   rw [er] at h1
   exact CP (F:=fun (a:Th) y=>TupAt H8 (tV a) y) Wg (FP Hn h1)
  clear hr8
  refine ⟨_,rfl,x,C,dx,_,rfl,s8 _ _ (s7 _ _ x6),T.cl,T.n_rank_list,Nat.lt_of_le_of_lt (Nat.le_trans (Bs _ _ _) (Nat.succ_le_succ (Bs _ _ _))) (by show 2<1000; decide),?_⟩
  have s68:=s7.trans s8
  have x8:=s68 _ _ x6
  have c8:SX x H H8:=c6.trans (SX.of s68)
  have hl8b:=s68 _ _ hl6
  have hb8:=Ax s68 hb6
  have u9:SX x H8 _:=SX.up (o:=HO.ins C dx (Bb "rank_list" (.ref D8) (Bb "board_list" (.ref D5) (Bb "row_list" (.ref l1) []))))
  have x9:upd H8 x (HO.ins C dx (Bb "rank_list" (.ref D8) (Bb "board_list" (.ref D5) (Bb "row_list" (.ref l1) [])))) x=_:=Ag
  have c9:=c8.trans u9
  have bl9:=u9.lst x8 hl8b
  have bp9:=u9.pair x8 hb8
  have rl9:=u9.lst x8 hl8
  have rp9:=u9.pair x8 hr8'
  generalize hf9:Bb "rank_list" (.ref D8) (Bb "board_list" (.ref D5) (Bb "row_list" (.ref l1) []))=f9 at x9 c9 bl9 bp9 rl9 rp9 u9 ⊢
  generalize upd H8 x (HO.ins C dx f9)=H9 at x9 c9 bl9 bp9 rl9 rp9 ⊢
  have n9:f9.length<=3:=by rw [← hf9]; exact br (Bs _ _ _) (eT (br (Bs _ _ _) (eT (Bs _ _ _))))
  have lb9:f9.lookup ("board_list" : Str)=some (.ref D5):=by rw [← hf9,Ay,if_neg (by decide +kernel),Ay,if_pos rfl]
  have lr9:f9.lookup ("rank_list" : Str)=some (.ref D8):=by rw [← hf9,Ay,if_pos rfl]
  have no9:∀ m∈meths,f9.lookup m=none:=fun m hm=>by
   rw [← hf9,Ay,if_neg (Dy m hm _ (by decide +kernel)),Ay,if_neg (Dy m hm _ (by decide +kernel)),Ay,if_neg (Dy m hm _ (by decide +kernel))]
   rfl
  clear u9 hf9
  have R9:Rows H9 ρ us:=fun v hv=>c9.tup hx (hR v hv)
  have hS9:CZ K H9 p us:=.inl (.inl (c9.lst hx hp))
  refine ⟨_,rfl,p,rfl,⟨_,hS9⟩,Dg (K:=K) (xs:=us) (fun v=>JD (ρ v).w) id hS9 (Az (by omega)) (fun y hy H' hs R k=>?_) (fun y hy _ H' hs R k=>⟨_,rfl,k H' (Aq.refl H')⟩) (fun D10 H10 hD10 s10 hl10=>?_)⟩
  ·obtain ⟨T0,rfl,hT⟩:=(R9.mono hs) y hy
   exact ⟨_,rfl,T0,_,_,_,rfl,rfl,lc hT,Af (j:=0) rfl,aK,_,rfl,.inr (T.tK.sq _),rfl,rfl,_,rfl,k H' (Aq.refl H')⟩
  rw [List.map_id,huk] at hl10
  refine ⟨_,rfl,x,C,dx,_,rfl,s10 _ _ x9,T.cl,T.n_knob_rows,by omega,?_⟩
  have x10:=s10 _ _ x9
  have u11:SX x H10 _:=SX.up (o:=HO.ins C dx (Bb "knob_rows" (.ref D10) f9))
  have x11:upd H10 x (HO.ins C dx (Bb "knob_rows" (.ref D10) f9)) x=_:=Ag
  have c11:=(c9.trans (SX.of s10)).trans u11
  have bl11:=u11.lst x10 (s10 _ _ bl9)
  have bp11:=u11.pair x10 (Ax s10 bp9)
  have rl11:=u11.lst x10 (s10 _ _ rl9)
  have rp11:=u11.pair x10 (Ax s10 rp9)
  have kr11:=u11.lst x10 hl10
  generalize upd H10 x (HO.ins C dx (Bb "knob_rows" (.ref D10) f9))=H11 at x11 c11 bl11 bp11 rl11 rp11 kr11 ⊢
  clear u11
  have hul:=bp11.length
  have hS11:CZ K H11 D5 bvs:=.inl (.inl bl11)
  refine ⟨_,rfl,x,C,dx,_,_,rfl,x11,T.cl,T.n_board_list,(by rw [Ay,if_neg (by decide +kernel)]; exact lb9),D5,rfl,⟨_,hS11⟩,Dg (K:=K) (xs:=bvs) (fun _=>true) (V9 H11 0) hS11 (Az (by have:=O.b5; omega)) (fun y hy H' hs R k=>k H' (Aq.refl H')) (fun y hy _ H' hs R k=>?_) (fun D12 H12 hD12 s12 hl12=>?_)⟩
  ·obtain ⟨b,_,hx'⟩:=Ec bp11 hy
   have e:=K_ hx' 0
   obtain ⟨T0,rfl,hT⟩:=hx'.mono hs
   refine ⟨_,rfl,T0,_,_,_,rfl,rfl,lc hT,Af (j:=0) rfl,?_⟩
   have:=k H' (Aq.refl H')
   rw [e] at this
   exact this
  rw [cK.mpr (fun _ _=>rfl),Ql 0 bp11] at hl12
  have e12:(bs.map fun b=>(bV b).getD 0 V.non)=(bs.map (·.1)).map V.str:=by
   rw [cE]
   rfl
  rw [e12] at hl12
  refine ⟨D12,_,rfl,hl12,by rw [ag]; have:=O.b5; omega,O.nb,fun D13 kvs H13 hD13 s13 hl13 hv13=>?_⟩
  have s1113:=s12.trans s13
  have x13:=s1113 _ _ x11
  refine ⟨_,rfl,x,C,dx,_,rfl,x13,T.cl,T.n_board_numbers,bv (Bs _ _ _) (by omega),?_⟩
  have u14:SX x H13 _:=SX.up (o:=HO.ins C dx (Bb "board_numbers" (.ref D13) (Bb "knob_rows" (.ref D10) f9)))
  have x14:upd H13 x (HO.ins C dx (Bb "board_numbers" (.ref D13) (Bb "knob_rows" (.ref D10) f9))) x=_:=Ag
  have c14:=(c11.trans (SX.of s1113)).trans u14
  have bl14:=u14.lst x13 (s1113 _ _ bl11)
  have bp14:=u14.pair x13 (Ax s1113 bp11)
  have rl14:=u14.lst x13 (s1113 _ _ rl11)
  have rp14:=u14.pair x13 (Ax s1113 rp11)
  have kr14:=u14.lst x13 (s1113 _ _ kr11)
  have bn14:=u14.dk x13 hl13
  generalize upd H13 x (HO.ins C dx (Bb "board_numbers" (.ref D13) (Bb "knob_rows" (.ref D10) f9)))=H14 at x14 c14 bl14 bp14 rl14 rp14 kr14 bn14 ⊢
  clear u14
  have hrl:=rp14.length
  rw [ag] at hrl
  have hS14:CZ K H14 D8 rvs:=.inl (.inl rl14)
  refine ⟨_,rfl,x,C,dx,_,_,rfl,x14,T.cl,T.n_rank_list,(by rw [Ay,if_neg (by decide +kernel),Ay,if_neg (by decide +kernel)]; exact lr9),D8,rfl,⟨_,hS14⟩,Dg (K:=K) (xs:=rvs) (fun _=>true) (V9 H14 0) hS14 (Az (by have:=O.nr; omega)) (fun y hy H' hs R k=>k H' (Aq.refl H')) (fun y hy _ H' hs R k=>?_) (fun D15 H15 hD15 s15 hl15=>?_)⟩
  ·obtain ⟨b,_,hx'⟩:=Ec rp14 hy
   have e:=K_ hx' 0
   obtain ⟨T0,rfl,hT⟩:=hx'.mono hs
   refine ⟨_,rfl,T0,_,_,_,rfl,rfl,lc hT,Af (j:=0) rfl,?_⟩
   have:=k H' (Aq.refl H')
   rw [e] at this
   exact this
  rw [cK.mpr (fun _ _=>rfl),Ql 0 rp14] at hl15
  have e15:((rk.map Wg).map fun b=>(tV b).getD 0 V.non)=(rk.map (·.1)).map V.str:=by
   rw [cE,cE]
   rfl
  rw [e15] at hl15
  refine ⟨D15,_,rfl,hl15,by rw [ag]; have:=O.nr; omega,O.nrr,fun D16 kvs16 H16 hD16 s16 hl16 hv16=>?_⟩
  have s1416:=s15.trans s16
  have x16:=s1416 _ _ x14
  refine ⟨_,rfl,x,C,dx,_,rfl,x16,T.cl,T.n_rank_numbers,bv (br (Bs _ _ _) (eT (Bs _ _ _))) (by omega),?_⟩
  have u17:SX x H16 _:=SX.up (o:=HO.ins C dx (Bb "rank_numbers" (.ref D16) (Bb "board_numbers" (.ref D13) (Bb "knob_rows" (.ref D10) f9))))
  have x17:upd H16 x (HO.ins C dx (Bb "rank_numbers" (.ref D16) (Bb "board_numbers" (.ref D13) (Bb "knob_rows" (.ref D10) f9)))) x=_:=Ag
  have c17:=(c14.trans (SX.of s1416)).trans u17
  have bl17:=u17.lst x16 (s1416 _ _ bl14)
  have bp17:=u17.pair x16 (Ax s1416 bp14)
  have rl17:=u17.lst x16 (s1416 _ _ rl14)
  have rp17:=u17.pair x16 (Ax s1416 rp14)
  have kr17:=u17.lst x16 (s1416 _ _ kr14)
  have bn17:=u17.dk x16 (s1416 _ _ bn14)
  have rn17:=u17.dk x16 hl16
  generalize hf17:Bb "rank_numbers" (.ref D16) (Bb "board_numbers" (.ref D13) (Bb "knob_rows" (.ref D10) f9))=f17 at x17 c17 bl17 bp17 rl17 rp17 kr17 bn17 rn17 u17 ⊢
  generalize upd H16 x (HO.ins C dx f17)=H17 at x17 c17 bl17 bp17 rl17 rp17 kr17 bn17 rn17 ⊢
  have n17:f17.length<=6:=by rw [← hf17]; exact br (Bs _ _ _) (eT (br (Bs _ _ _) (eT (br (Bs _ _ _) (eT n9)))))
  have lb17:f17.lookup ("board_list" : Str)=some (.ref D5):=by rw [← hf17,Ay,if_neg (by decide +kernel),Ay,if_neg (by decide +kernel),Ay,if_neg (by decide +kernel)]; exact lb9
  have lr17:f17.lookup ("rank_list" : Str)=some (.ref D8):=by rw [← hf17,Ay,if_neg (by decide +kernel),Ay,if_neg (by decide +kernel),Ay,if_neg (by decide +kernel)]; exact lr9
  have lrn17:f17.lookup ("rank_numbers" : Str)=some (.ref D16):=by rw [← hf17,Ay,if_pos rfl]
  have lbn17:f17.lookup ("board_numbers" : Str)=some (.ref D13):=by rw [← hf17,Ay,if_neg (by decide +kernel),Ay,if_pos rfl]
  have lkr17:f17.lookup ("knob_rows" : Str)=some (.ref D10):=by rw [← hf17,Ay,if_neg (by decide +kernel),Ay,if_neg (by decide +kernel),Ay,if_pos rfl]
  have no17:∀ m∈meths,f17.lookup m=none:=fun m hm=>by
   rw [← hf17,Ay,if_neg (Dy m hm _ (by decide +kernel)),Ay,if_neg (Dy m hm _ (by decide +kernel)),Ay,if_neg (Dy m hm _ (by decide +kernel))]
   exact no9 m hm
  clear u17 hf17
  have hS17:CZ K H17 D10 uk:=.inl (.inl kr17)
  have R17:Rows H17 ρ us:=fun v hv=>c17.tup hx (hR v hv)
  refine ⟨_,rfl,x,C,dx,_,_,rfl,x17,T.cl,T.n_knob_rows,lkr17,D10,rfl,⟨_,hS17⟩,Dg (K:=K) (xs:=uk) (fun _=>true) (fun v=>.str (ρ v).nm) hS17 (Az (by have:=O.nk; omega)) (fun y hy H' hs R k=>k H' (Aq.refl H')) (fun y hy _ H' hs R k=>?_) (fun D18 H18 hD18 s18 hl18=>?_)⟩
  ·obtain ⟨T0,rfl,hT⟩:=(R17.mono hs) y (inKn hy)
   exact ⟨_,rfl,T0,_,_,_,rfl,rfl,lc hT,Af (j:=1) rfl,k H' (Aq.refl H')⟩
  rw [cK.mpr (fun _ _=>rfl)] at hl18
  have e18:(uk.map fun v=>V.str (ρ v).nm)=(ks.map (·.nm)).map V.str:=by
   rw [← ek,cE,cE]
   rfl
  rw [e18] at hl18
  refine ⟨D18,_,rfl,hl18,by rw [ag]; have:=O.nk; omega,O.nn,fun D19 kvs19 H19 hD19 s19 hl19 hv19=>?_⟩
  have s1719:=s18.trans s19
  have x19:=s1719 _ _ x17
  refine ⟨_,rfl,x,C,dx,_,rfl,x19,T.cl,T.n_knob_numbers,by omega,?_⟩
  have u20:SX x H19 _:=SX.up (o:=HO.ins C dx (Bb "knob_numbers" (.ref D19) f17))
  have x20:upd H19 x (HO.ins C dx (Bb "knob_numbers" (.ref D19) f17)) x=_:=Ag
  have c20:=(c17.trans (SX.of s1719)).trans u20
  have bl20:=u20.lst x19 (s1719 _ _ bl17)
  have bp20:=u20.pair x19 (Ax s1719 bp17)
  have rl20:=u20.lst x19 (s1719 _ _ rl17)
  have rp20:=u20.pair x19 (Ax s1719 rp17)
  have kr20:=u20.lst x19 (s1719 _ _ kr17)
  have bn20:=u20.dk x19 (s1719 _ _ bn17)
  have rn20:=u20.dk x19 (s1719 _ _ rn17)
  generalize upd H19 x (HO.ins C dx (Bb "knob_numbers" (.ref D19) f17))=H20 at x20 c20 bl20 bp20 rl20 rp20 kr20 bn20 rn20 ⊢
  clear u20
  refine ⟨_,rfl,x,C,dx,_,_,rfl,x20,T.cl,T.n_board_list,(by rw [Ay,if_neg (by decide +kernel)]; exact lb17),D5,bs.map jJ,bvs,rfl,bl20,CP (F:=fun (a:Th) y=>TupAt H20 (tV a) y) jJ bp20,(by rw [List.length_map]; have:=O.b5; omega),(fun a ha=>by obtain ⟨b,hb,rfl⟩:=List.mem_map.mp ha; have:=O.sz b hb; show b.2<=97; omega),fun D21 pvs H21 hD21 s21 hl21 hp21=>?_⟩
  have e21:(bs.map jJ).map tN=bs:=by
   rw [cE]
   exact List.map_id bs
  rw [e21] at hp21
  have x21:=s21 _ _ x20
  refine ⟨_,rfl,x,C,dx,_,rfl,x21,T.cl,T.n_key_places,bv (Bs _ _ _) (by omega),?_⟩
  have u22:SX x H21 _:=SX.up (o:=HO.ins C dx (Bb "key_places" (.ref D21) (Bb "knob_numbers" (.ref D19) f17)))
  have x22:upd H21 x (HO.ins C dx (Bb "key_places" (.ref D21) (Bb "knob_numbers" (.ref D19) f17))) x=_:=Ag
  have c22:=(c20.trans (SX.of s21)).trans u22
  have bl22:=u22.lst x21 (s21 _ _ bl20)
  have bp22:=u22.pair x21 (Ax s21 bp20)
  have rl22:=u22.lst x21 (s21 _ _ rl20)
  have rp22:=u22.pair x21 (Ax s21 rp20)
  have kr22:=u22.lst x21 (s21 _ _ kr20)
  have bn22:=u22.dk x21 (s21 _ _ bn20)
  have rn22:=u22.dk x21 (s21 _ _ rn20)
  have kp22:=u22.lst x21 hl21
  have kq22:=u22.pair x21 hp21
  generalize upd H21 x (HO.ins C dx (Bb "key_places" (.ref D21) (Bb "knob_numbers" (.ref D19) f17)))=H22 at x22 c22 bl22 bp22 rl22 rp22 kr22 bn22 rn22 kp22 kq22 ⊢
  clear u22
  refine ⟨_,rfl,x,C,dx,_,_,rfl,x22,T.cl,T.n_rank_list,(by rw [Ay,if_neg (by decide +kernel),Ay,if_neg (by decide +kernel)]; exact lr17),D8,rk.map Wg,rvs,rfl,rl22,rp22,(by rw [ag]; exact O.nr),(fun a ha=>by obtain ⟨r,hr,rfl⟩:=bt.mp ha; exact O.nz r hr),fun D23 qvs H23 hD23 s23 hl23 hp23=>?_⟩
  have e23:(rk.map Wg).map tN=rk.map V4:=by
   rw [cE]
   rfl
  rw [e23] at hp23
  have x23:=s23 _ _ x22
  refine ⟨_,rfl,x,C,dx,_,rfl,x23,T.cl,T.n_pipe_places,bv (br (Bs _ _ _) (eT (Bs _ _ _))) (by omega),?_⟩
  have u24:SX x H23 _:=SX.up (o:=HO.ins C dx (Bb "pipe_places" (.ref D23) (Bb "key_places" (.ref D21) (Bb "knob_numbers" (.ref D19) f17))))
  have x24:upd H23 x (HO.ins C dx (Bb "pipe_places" (.ref D23) (Bb "key_places" (.ref D21) (Bb "knob_numbers" (.ref D19) f17)))) x=_:=Ag
  have c24:=(c22.trans (SX.of s23)).trans u24
  have bl24:=u24.lst x23 (s23 _ _ bl22)
  have bp24:=u24.pair x23 (Ax s23 bp22)
  have kr24:=u24.lst x23 (s23 _ _ kr22)
  have rl24:=u24.lst x23 (s23 _ _ rl22)
  have rp24:=u24.pair x23 (Ax s23 rp22)
  have pp24:=u24.lst x23 hl23
  have pq24:=u24.pair x23 hp23
  have bn24:=u24.dk x23 (s23 _ _ bn22)
  have rn24:=u24.dk x23 (s23 _ _ rn22)
  have kp24:=u24.lst x23 (s23 _ _ kp22)
  have kq24:=u24.pair x23 (Ax s23 kq22)
  generalize hf24:Bb "pipe_places" (.ref D23) (Bb "key_places" (.ref D21) (Bb "knob_numbers" (.ref D19) f17))=f24 at x24 c24 bl24 bp24 kr24 rl24 rp24 pp24 pq24 bn24 rn24 kp24 kq24 u24 ⊢
  generalize upd H23 x (HO.ins C dx f24)=H24 at x24 c24 bl24 bp24 kr24 rl24 rp24 pp24 pq24 bn24 rn24 kp24 kq24 ⊢
  have n24:f24.length<=9:=by rw [← hf24]; exact br (Bs _ _ _) (eT (br (Bs _ _ _) (eT (br (Bs _ _ _) (eT n17)))))
  have old24:∀ {f:Str} {v:V},¬ f = "pipe_places"->¬ f = "key_places"->¬ f = "knob_numbers"->f17.lookup f=some v->f24.lookup f=some v:=fun h1 h2 h3 h=>by
   rw [← hf24,Ay,if_neg h1,Ay,if_neg h2,Ay,if_neg h3]; exact h
  have lb24:=old24 (by decide +kernel) (by decide +kernel) (by decide +kernel) lb17
  have lbn24:=old24 (by decide +kernel) (by decide +kernel) (by decide +kernel) lbn17
  have lr24:=old24 (by decide +kernel) (by decide +kernel) (by decide +kernel) lr17
  have lpp24:f24.lookup ("pipe_places" : Str)=some (.ref D23):=by rw [← hf24,Ay,if_pos rfl]
  have lrn24:=old24 (by decide +kernel) (by decide +kernel) (by decide +kernel) lrn17
  have lkr24:=old24 (by decide +kernel) (by decide +kernel) (by decide +kernel) lkr17
  have lkp24:f24.lookup ("key_places" : Str)=some (.ref D21):=by rw [← hf24,Ay,if_neg (by decide +kernel),Ay,if_pos rfl]
  have no24:∀ m∈meths,f24.lookup m=none:=fun m hm=>by
   rw [← hf24,Ay,if_neg (Dy m hm _ (by decide +kernel)),Ay,if_neg (Dy m hm _ (by decide +kernel)),Ay,if_neg (Dy m hm _ (by decide +kernel))]
   exact no17 m hm
  clear u24 hf24 old24
  have R24:Rows H24 ρ us:=fun v hv=>c24.tup hx (hR v hv)
  refine ⟨_,rfl,_,rfl,x,C,dx,_,_,rfl,x24,T.cl,T.n_rank_numbers,lrn24,p,D16,us,ρ,rk,kvs16,rfl,c24.lst hx hp,R24,by omega,rn24,(fun i r hr=>hv16 i r.1 (by rw [ax,hr]; rfl)),O.nrr,O.ln,fun D25 H25 hD25 s25 hl25=>?_⟩
  have x25:=s25 _ _ x24
  refine ⟨_,rfl,x,C,dx,_,rfl,x25,T.cl,T.n_knob_lines,by omega,?_⟩
  have u26:SX x H25 _:=SX.up (o:=HO.ins C dx (Bb "knob_lines" (.ref D25) f24))
  have x26:upd H25 x (HO.ins C dx (Bb "knob_lines" (.ref D25) f24)) x=_:=Ag
  have c26:=(c24.trans (SX.of s25)).trans u26
  have bl26:=u26.lst x25 (s25 _ _ bl24)
  have bp26:=u26.pair x25 (Ax s25 bp24)
  have kr26:=u26.lst x25 (s25 _ _ kr24)
  have rl26:=u26.lst x25 (s25 _ _ rl24)
  have rp26:=u26.pair x25 (Ax s25 rp24)
  have pp26:=u26.lst x25 (s25 _ _ pp24)
  have pq26:=u26.pair x25 (Ax s25 pq24)
  have ln26:=NZ hl25 u26 x25
  have bn26:=u26.dk x25 (s25 _ _ bn24)
  have rn26:=u26.dk x25 (s25 _ _ rn24)
  have kp26:=u26.lst x25 (s25 _ _ kp24)
  have kq26:=u26.pair x25 (Ax s25 kq24)
  generalize upd H25 x (HO.ins C dx (Bb "knob_lines" (.ref D25) f24))=H26 at x26 c26 bl26 bp26 kr26 rl26 rp26 pp26 pq26 ln26 bn26 rn26 kp26 kq26 ⊢
  clear u26
  have R26:Rows H26 ρ us:=fun v hv=>c26.tup hx (hR v hv)
  refine ⟨_,rfl,p,_,"step",ρ,rfl,c26.lst hx hp,R26,by omega,fun D27 H27 hD27 s27 hl27=>?_⟩
  rw [O.none] at hl27
  have hS27:CZ K H27 D27 []:=.inl (.inl hl27)
  refine ⟨D27,rfl,⟨_,hS27⟩,Dg (K:=K) (xs:=[]) (fun _=>true) id hS27 (Az (by simp)) (fun y hy=>nomatch hy) (fun y hy=>nomatch hy) (fun D28 H28 hD28 s28 hl28=>?_)⟩
  have s2628:=s27.trans s28
  have x28:=s2628 _ _ x26
  refine ⟨_,rfl,x,C,dx,_,rfl,x28,T.cl,T.n_step_sets,bv (Bs _ _ _) (by omega),?_⟩
  have u29:SX x H28 _:=SX.up (o:=HO.ins C dx (Bb "step_sets" (.ref D28) (Bb "knob_lines" (.ref D25) f24)))
  have old:∀ {f:Str},¬ f = "step_sets"->¬ f = "knob_lines"->(Bb "step_sets" (.ref D28) (Bb "knob_lines" (.ref D25) f24)).lookup f=f24.lookup f:=fun h1 h2=>by rw [Ay,if_neg h1,Ay,if_neg h2]
  refine q _ ⟨⟨⟨dx,_,D5,D13,D21,D10,bvs,pvs,uk,kvs,Ag,(old (by decide +kernel) (by decide +kernel)).trans lb24,(old (by decide +kernel) (by decide +kernel)).trans lbn24,(old (by decide +kernel) (by decide +kernel)).trans lkp24,(old (by decide +kernel) (by decide +kernel)).trans lkr24,
   fun m hm=>(old (Dy m hm _ (by decide +kernel)) (Dy m hm _ (by decide +kernel))).trans (no24 m hm),u29.lst x28 (s2628 _ _ bl26),u29.pair x28 (Ax s2628 bp26),u29.dk x28 (s2628 _ _ bn26),fun i b hb=>hv13 i b.1 (by rw [ax,hb]; rfl),u29.lst x28 (s2628 _ _ kp26),u29.pair x28 (Ax s2628 kq26),u29.lst x28 (s2628 _ _ kr26),?_⟩,O.b5,O.sz,by have:=O.nk; omega⟩,⟨dx,_,D8,D16,D23,D25,rvs,qvs,kvs16,Ag,(old (by decide +kernel) (by decide +kernel)).trans lr24,(old (by decide +kernel) (by decide +kernel)).trans lrn24,(old (by decide +kernel) (by decide +kernel)).trans lpp24,(by rw [Ay,if_neg (by decide +kernel),Ay,if_pos rfl]),u29.lst x28 (s2628 _ _ rl26),u29.pair x28 (Ax s2628 rp26),u29.dk x28 (s2628 _ _ rn26),(fun i r hr=>hv16 i r.1 (by rw [ax,hr]; rfl)),u29.lst x28 (s2628 _ _ pp26),u29.pair x28 (Ax s2628 pq26),NZ (ln26.mono s2628) u29 x28⟩,O.nr,O.nz,?_⟩ ((c26.trans (SX.of s2628)).trans u29)
  case refine_2=>rw [Rm O.ln,← ek,ag,huk]
  rw [← ek]
  refine CP (F:=fun (r:R) y=>TupAt _ r.v y) ρ ?_
  have R29:Rows _ ρ uk:=fun v hv=>u29.tup x28 ((R26.mono s2628) v (inKn hv))
  generalize upd H28 x _=H29 at R29 ⊢
  have key:∀ l:List V,(∀ v∈l,TupAt H29 (ρ v).v v)->Paired (fun v y=>TupAt H29 (ρ v).v y) l l:=by
   intro l
   induction l with
   | nil=>intro _; exact .nil
   | cons a b ih=>intro h; exact .cons (h a (am ..)) (ih fun v hv=>h v (av _ hv))
  exact key uk R29
noncomputable abbrev tb (P1:Addr):Hq:=⟨P1,⟨55,29,55,60⟩,"holes_of" ++ ".<locals>." ++ "<lambda>"⟩
theorem _root_.L2.BW.z {k:Nat} {A:Around} (r:BW k A):BW 0 A:=r.mono (cm _)
theorem XH:BJ ["spans","holes","span","ahead"] ["spans"] (Ah Vx):=CG
theorem bM (N:V0 K mg C c1 aD) (T:Txt K w.params mg C aN aK aB aP aM) (K1:HH mg base c1 P1):BP P w K mg base Bp 1 aD.fHo aD.dHo ["spans"] (Wm (tb P1)):=by
 refine N.FHo.1.ok XH (fun vs H Q E h=>?_) (fun A outer s H vs Q E hr h=>?_)
 ·obtain ⟨a,ts,ys,rfl,_⟩:=h
  rfl
 ·obtain ⟨a,ts,ys,rfl,A0,h64,hpos,hTb,q⟩:=h
  refine ⟨_,(@Ae _ _ _ _ _ (@BL _ _ _ _ _ _ 1 XH.nd rfl (Or.inl rfl) (@CN _ _ _ _ Aa) (by kernel_rfl) (.inl rfl))
   (@Ae _ _ _ _ _ (DR PassesOwn.never rfl (Bc (BK (LQ rfl) rfl T.sorted eI (@Ak _ _ _ _ _ rfl (pv 0) Aa))) (Ba (i:=2) XH.nd rfl (Or.inl rfl)) (@Aj _ _ _ (@Ca _ _ _ _ _ _ _ _ (PW.pt (J7 (JK (pv 1) (fun _=>rfl)) (J7 (Be Ej (@Ar _ _ _ _ _ _ _ (Ao (K:=K) rfl) (@Ar _ _ _ _ _ _ _ Bm (pv 1) (Kf Hz Ac) (fun _ _=>rfl)) Ac (fun _ _=>rfl)) (@Ar _ _ _ _ _ _ _ (Ao (K:=K) rfl) (pv 2) Ac (fun _ _=>rfl)) (Bf _)) (JF (Be Dc (@Ar _ _ _ _ _ _ _ (Ao (K:=K) rfl) (pv 2) Ac (fun _ _=>rfl)) (@Ar _ _ _ _ _ _ _ (Ao (K:=K) rfl) (@Ar _ _ _ _ _ _ _ Bm (pv 1) (Kf Hz Ac) (fun _ _=>rfl)) Ac (fun _ _=>rfl)) (Bf _)))))) (@Ae _ _ _ _ _ (@BL _ _ _ _ _ _ 3 XH.nd rfl (Or.inl rfl) (O_ bE jI jS O2 (pv 1)) (by kernel_rfl) (.inl rfl))
   (@Aj _ _ _ (DG (Fz bE cr cy Bx (pv 1) (@Ak _ _ _ _ _ rfl (@Ce _ _ _ _ _ (@Ak _ _ _ _ _ rfl (@Ar _ _ _ _ _ _ _ (Ao (K:=K) rfl) (pv 2) Ac (fun _ _=>rfl)) (@Ak _ _ _ _ _ rfl (@Ar _ _ _ _ _ _ _ (Ao (K:=K) rfl) (pv 3) Ac (fun _ _=>rfl)) (@Ak _ _ _ _ _ rfl (BK (FW rfl) rfl T.max ge (@Ak _ _ _ _ _ rfl (@Ar _ _ _ _ _ _ _ (Ao (K:=K) rfl) (pv 3) Ac (fun _ _=>rfl)) (@Ak _ _ _ _ _ rfl (@Ar _ _ _ _ _ _ _ (Ao (K:=K) rfl) (pv 2) Ac (fun _ _=>rfl)) Aa))) Aa)))) Aa))))) (@Aj _ _ _ (DG (Fz bE cr cy Bx (pv 1) (@Ak _ _ _ _ _ rfl (pv 2) Aa)))))))
   (@Aj _ _ _ (@BR _ _ _ _ (PQ rfl K1 hr.z rfl T.sorted (pv 1) rfl rfl (fun _ _ _ _=>rfl) rfl (by decide +kernel) rfl rfl rfl rfl rfl))))),?_⟩
  refine ⟨cm _,fun l hl=>?_⟩
  have s1:=Aw (o:=HO.lst []) hl
  have A1:=A0.mono s1
  have l1:upd H l (HO.lst []) l=some (.lst []):=Ag
  generalize upd H l (HO.lst [])=H1 at s1 A1 l1 ⊢
  refine ⟨_,rfl,a,ts,ys,rfl,lc A1.l,A1.p,by omega,fun p ix hp pm pw=>?_⟩
  have s2:=Aw (o:=HO.lst (ix.map fun i=>ys.getD i V.non)) hp
  have hb:∀ i∈ix,i<ys.length:=fun i hi=>dv.mp (pm.mem_iff.mp hi)
  have hlp:l ≠ p:=Av l1 hp
  have A2:Bh (upd H1 p (HO.lst (ix.map fun i=>ys.getD i V.non))) p (ix.map fun i=>ts.getD i (0,0,0)) (ix.map fun i=>ys.getD i V.non):=⟨Ag,Ax s2 (Ih A1.p hb)⟩
  have l2:=s2 _ _ l1
  have s02:=s1.trans s2
  generalize upd H1 p (HO.lst (ix.map fun i=>ys.getD i V.non))=H2 at s2 A2 l2 s02 ⊢
  have lt:=A0.len
  have pm':ix.Perm (List.range ts.length):=by rw [lt]; exact pm
  have hmem:=HJ (z:=((0,0,0):Ro.T3)) pm'
  have hord:=Wo pw
  have hlen:(ix.map fun i=>ts.getD i ((0,0,0):Ro.T3)).length=ts.length:=by rw [ag,pm'.length_eq,cS]
  generalize (ix.map fun i=>ts.getD i ((0,0,0):Ro.T3))=ss at A2 hmem hord hlen
  generalize (ix.map fun i=>ys.getD i V.non)=us at A2
  have hp0:H p=none:=s1.free hp
  refine ⟨p,rfl,⟨_,lc A2.l⟩,Er (K:=K) (a:=p) (xs:=us) (fun i σ H4=>∃ (hs:List Ro.T3) (zs:List V) (v2 v3:Option V),σ=[some (.ref a),some (.ref l),v2,v3]/\Bh H4 l hs zs/\PB (ss.take i) hs/\hs.length<=i/\Aq H H4/\Bh H4 p ss us) ⟨[],[],_,_,rfl,⟨l2,.nil⟩,PB.nil,ah _,s02,A2⟩ (fun i σ H4 _ h=>by obtain ⟨_,_,_,_,_,_,_,_,_,h⟩:=h; exact lc h.l) ?_ ?_⟩
  ·rintro i y σ H4 hi ⟨hs,zs,v2,v3,rfl,L4,M4,hn4,s4,A4⟩
   obtain ⟨x,T0,hx,hxd,rfl,hT⟩:=A4.at hi
   obtain ⟨e1,e2⟩:=J1 hx
   have qT:Eg K H4 T0 (Cm x):=.inl (.inl hT)
   have hx1:=hpos x ((hmem x).mp hxd)
   have hle:∀ g∈ss.take i,Yn g x:=fun g hg=>by
    rw [e1,fF] at hord
    exact hord.2.2 g hg x (am ..)
   have hil:i<us.length:=(af.mp hi).1
   have hus:us.length<400:=by have:=A4.len; omega
   have hzl:zs.length<=i:=by have:=L4.len; omega
   have push:¬ (∃ ini h,hs=ini++[h]/\h.1=x.1/\x.2.1<=h.2.2)->Bh (upd H4 l (HO.lst (zs++[V.ref T0]))) l (hs++[x]) (zs++[V.ref T0])/\PB (ss.take (i+1)) (hs++[x])/\(hs++[x]).length<=i+1/\Aq H (upd H4 l (HO.lst (zs++[V.ref T0])))/\Bh (upd H4 l (HO.lst (zs++[V.ref T0]))) p ss us:=fun hno=>by
    refine ⟨L4.snoc hT,?_,by rw [ar,ck]; omega,fun b o e=>by rw [Am (Av e hl)]; exact s4 b o e,⟨by rw [Am (Ne.symm hlp)]; exact A4.l,Bl A4.p L4.l⟩⟩
    rw [e2]
    exact M4.push hx1 hle fun ini h e hh=>hno ⟨ini,h,e,hh⟩
   rcases ft hs with e0 | ⟨ini,h,e0⟩
   ·subst e0
    have hz0:zs=[]:=gy.mp (by rw [← L4.len]; rfl)
    subst hz0
    refine ⟨_,rfl,false,.inl ⟨[],lc L4.l,rfl⟩,Dm (Dm ?_)⟩
    refine ⟨_,rfl,.inl ⟨rfl,_,lc L4.l⟩,_,rfl,l,_,_,rfl,rfl,L4.l,by show 0<sizeLine; decide,?_⟩
    obtain ⟨k1,k2,k3,k4,k5⟩:=push (fun ⟨ini,h,e,_⟩=>by simp at e)
    exact ⟨_,_,_,_,rfl,k1,k2,k3,k4,k5⟩
   ·have e0':hs=ini++[h]:=by rw [e0]; simp
    subst e0'
    obtain ⟨zi,zh,ez⟩:∃ zi zh,zs=zi++[zh]:=by
     have hz:zs.length=ini.length+1:=by rw [← L4.len]; simp
     exact ⟨zs.dropLast,zs.getLast (by intro z; rw [z] at hz; simp at hz),(List.dropLast_concat_getLast _).symm⟩
    subst ez
    have hzi:zi.length=ini.length:=by have:=L4.len; simp at this; omega
    obtain ⟨h',Th,hh',_,rfl,hTh⟩:=L4.at (i:=zi.length) (y:=zh) (by simp)
    have eh:h'=h:=by
     rw [hzi] at hh'
     simpa using hh'.symm
    subst eh
    have qL:CZ K H4 l (zi++[V.ref Th]):=.inl (.inl L4.l)
    have qh:Eg K H4 Th (Cm h'):=.inl (.inl hTh)
    refine ⟨_,rfl,true,.inl ⟨_,qL,by simp⟩,Ey ?_⟩
    refine ⟨_,rfl,_,rfl,l,_,_,_,rfl,rfl,qL,Bw.Gq,Th,_,_,_,rfl,rfl,qh,Af (j:=0) rfl,_,rfl,T0,_,_,_,rfl,rfl,qT,Af (j:=0) rfl,rfl,_,rfl,?_⟩
    refine Df (fun g1=>?_) (fun g1=>?_)
    ·have g1':h'.1=x.1:=V.int.inj (of_decide_eq_true g1)
     refine ⟨_,rfl,T0,_,_,_,rfl,rfl,qT,Af (j:=1) rfl,_,rfl,_,rfl,l,_,_,_,rfl,rfl,qL,Bw.Gq,Th,_,_,_,rfl,rfl,qh,Af (j:=2) rfl,_,_,rfl,rfl,_,rfl,?_⟩
     refine Df (fun g2=>?_) (fun g2=>?_)
     ·have g2':x.2.1<=h'.2.2:=of_decide_eq_true g2
      refine ⟨_,rfl,.inl ⟨rfl,_,qL⟩,l,_,V.ref Th,rfl,rfl,L4.l,by simp,?_⟩
      have L5:Bh (upd H4 l (HO.lst (zi++[V.ref Th]).dropLast)) l ini zi:=by
       rw [fg]
       refine ⟨Ag,Bl (ws:=zi) ?_ L4.l⟩
       have hp5:=L4.p
       have tk:=Og.GR hp5 ini.length
       rw [fT rfl,← hzi,fT rfl] at tk
       exact tk
      have hT5:upd H4 l (HO.lst (zi++[V.ref Th]).dropLast) T0=some (.tup (Cm x)):=by rw [Am (Ei hT L4.l (fun z=>by cases z))]; exact hT
      have hTh5:upd H4 l (HO.lst (zi++[V.ref Th]).dropLast) Th=some (.tup (Cm h')):=by rw [Am (Ei hTh L4.l (fun z=>by cases z))]; exact hTh
      have s5:Aq H (upd H4 l (HO.lst (zi++[V.ref Th]).dropLast)):=fun b o e=>by rw [Am (Av e hl)]; exact s4 b o e
      have A5:Bh (upd H4 l (HO.lst (zi++[V.ref Th]).dropLast)) p ss us:=⟨by rw [Am (Ne.symm hlp)]; exact A4.l,Bl A4.p L4.l⟩
      generalize upd H4 l (HO.lst (zi++[V.ref Th]).dropLast)=H5 at L5 hT5 hTh5 s5 A5 ⊢
      have qT5:Eg K H5 T0 (Cm x):=.inl (.inl hT5)
      have qh5:Eg K H5 Th (Cm h'):=.inl (.inl hTh5)
      refine ⟨_,rfl,.inl ⟨rfl,_,lc L5.l⟩,_,rfl,T0,_,_,_,rfl,rfl,qT5,Af (j:=0) rfl,_,rfl,Th,_,_,_,rfl,rfl,qh5,Af (j:=1) rfl,_,rfl,Th,_,_,_,rfl,rfl,qh5,Af (j:=2) rfl,_,rfl,T0,_,_,_,rfl,rfl,qT5,Af (j:=2) rfl,_,_,rfl,by show 3<=sizeLine; decide,fun t6 ht6=>?_⟩
      have emx:(if x.2.2 > h'.2.2 then x.2.2 else h'.2.2)=max h'.2.2 x.2.2:=by split <;> omega
      rw [emx]
      have s6:=Aw (o:=HO.tup [V.int x.1,V.int h'.2.1,V.int (max h'.2.2 x.2.2)]) ht6
      have hT6:upd H5 t6 (HO.tup [V.int x.1,V.int h'.2.1,V.int (max h'.2.2 x.2.2)]) t6=some (.tup (Cm (x.1,h'.2.1,max h'.2.2 x.2.2))):=Ag
      have L6:=L5.mono s6
      have A6:=A5.mono s6
      generalize upd H5 t6 (HO.tup [V.int x.1,V.int h'.2.1,V.int (max h'.2.2 x.2.2)])=H6 at s6 hT6 L6 A6 ⊢
      refine ⟨l,_,_,rfl,rfl,L6.l,Az (by simp at hzl; omega),?_⟩
      refine ⟨ini++[(x.1,h'.2.1,max h'.2.2 x.2.2)],_,_,_,rfl,L6.snoc hT6,?_,by simp at hn4 ⊢; omega,fun b o e=>by rw [Am (Av e hl)]; exact s6 _ _ (s5 b o e),⟨by rw [Am (Ne.symm hlp)]; exact A6.l,Bl A6.p L6.l⟩⟩
      rw [e2]
      exact M4.join hle g1' g2'
     ·refine ⟨_,rfl,.inl ⟨rfl,_,qL⟩,_,rfl,l,_,_,rfl,rfl,L4.l,Az (by omega),?_⟩
      obtain ⟨k1,k2,k3,k4,k5⟩:=push (fun ⟨ini2,h2,e,_,z⟩=>by
       have:h2=h':=by have:=congrArg List.getLast? e; simp at this; exact this.symm
       subst this
       exact g2 (decide_eq_true z))
      exact ⟨_,_,_,_,rfl,k1,k2,k3,k4,k5⟩
    ·refine Dm ?_
     refine ⟨_,rfl,.inl ⟨rfl,_,qL⟩,_,rfl,l,_,_,rfl,rfl,L4.l,Az (by omega),?_⟩
     obtain ⟨k1,k2,k3,k4,k5⟩:=push (fun ⟨ini2,h2,e,z,_⟩=>by
      have:h2=h':=by have:=congrArg List.getLast? e; simp at this; exact this.symm
      subst this
      exact g1 (decide_eq_true (by rw [z])))
     exact ⟨_,_,_,_,rfl,k1,k2,k3,k4,k5⟩
  ·rintro σ H4 ⟨hs,zs,v2,v3,rfl,L4,M4,hn4,s4,A4⟩
   rw [bq (by rw [A4.len]; exact ah _)] at M4
   have hus:=A4.len
   have hzl:=L4.len
   have tb4:=hTb.same s4
   refine ⟨_,rfl,l,hs,zs,rfl,lc L4.l,L4.p,by omega,tb4,fun p5 ix5 H5 h51 h52 k5 tb5 pm5 pw5=>?_⟩
   have pm6:ix5.Perm (List.range hs.length):=by rw [hzl]; exact pm5
   have kp5:Kp (tb P1) H4 H5:=fun b o ho e=>k5 b o (fun z=>by
    rcases tb4 with t1 | ⟨c,t1,_⟩
    ·rw [z] at e; rw [t1] at e; exact ho _ (Option.some.inj e).symm
    ·rw [z] at e; rw [t1] at e; exact ho _ (Option.some.inj e).symm) e
   have L5:=Bh.kp L4 kp5
   have s6:=Aw (o:=HO.lst (ix5.map fun i=>zs.getD i V.non)) h52
   have tbH5:Tb (tb P1) H5:=tb5
   refine q p5 (ix5.map fun i=>hs.getD i (0,0,0)) _ _ (s4.free h51) ((Kp.of (B:=tb P1) s4).trans (kp5.trans (Kp.of s6))) (tbH5.same s6) ⟨Ag,Ax s6 (Ih L5.p fun i hi=>dv.mp (pm5.mem_iff.mp hi))⟩ (canon_of M4.sep M4.nodup pm6 pw5) (fun tr t=>?_) (by rw [ag,pm6.length_eq,cS]; omega)
   rw [Cv.perm (HJ pm6),M4.cov,Cv.perm hmem]
theorem iu:BJ ["thing"] ["thing"] (Ah kY):=CG
include N T in
theorem fc:BP P w K mg base Bp 2 aD.fMy aD.dMy ["thing"] fu:=by
 refine N.FMy.1.ok iu (fun vs H Q E h=>?_) (fun cdv A outer s H vs Q E hr h=>?_)
 ·obtain ⟨i,rfl,_⟩:=h
  rfl
 ·obtain ⟨i,rfl,h0,h1,q⟩:=h
  obtain ⟨tMB,hMB⟩:=T.below
  refine ⟨_,(@Aj _ _ _ (@BR _ _ _ _ (Cj (An (K4 N T) (ad hr) rfl N.FWh.2.2 N.FWh.1.kp N.FWh.2.1 .nil A_ (@Ak _ _ _ _ _ rfl (pv 0) Aa)) (Cu (Hh Dc Ii Ac (pv 0) (CW (v:=.int 1200) rfl hMB ⟨tMB,rfl⟩)))))),?_⟩
  refine ⟨_,rfl,i,rfl,_,rfl,Ey ?_⟩
  refine ⟨_,rfl,_,_,rfl,rfl,_,rfl,PJ h0 ?_⟩
  refine ⟨_,_,rfl,rfl,?_⟩
  have e:decide (i<1200)=true:=decide_eq_true h1
  dsimp only
  rw [e]
  exact q
theorem jd:BJ ["thing"] ["thing"] (Ah je):=CG
include N T in
theorem dY:BP P w K mg base Bp 2 aD.fIl aD.dIl ["thing"] aX:=by
 refine N.FIl.1.ok jd (fun vs H Q E h=>?_) (fun cdv A outer s H vs Q E hr h=>?_)
 ·obtain ⟨i,rfl,_⟩:=h
  rfl
 ·obtain ⟨i,rfl,h0,h1,q⟩:=h
  obtain ⟨tMOST_TICKS,hMOST_TICKS⟩:=T.cMOST_TICKS
  refine ⟨_,(@Aj _ _ _ (@BR _ _ _ _ (Cj (An (K4 N T) (ad hr) rfl N.FWh.2.2 N.FWh.1.kp N.FWh.2.1 .nil A_ (@Ak _ _ _ _ _ rfl (pv 0) Aa)) (Cu (Hh Dc Dc Ac (pv 0) (CW (v:=.int 1000000000000) rfl hMOST_TICKS ⟨tMOST_TICKS,rfl⟩)))))),?_⟩
  refine ⟨_,rfl,i,rfl,_,rfl,Ey ?_⟩
  refine ⟨_,rfl,_,_,rfl,rfl,_,rfl,PJ h0 ?_⟩
  refine ⟨_,_,rfl,rfl,?_⟩
  have e:decide (i<=1000000000000)=true:=decide_eq_true h1
  dsimp only
  rw [e]
  exact q
theorem lC:BJ ["thing","length"] ["thing","length"] (Ah jh):=CG
include N T in
theorem cP:BP P w K mg base Bp 3 aD.fHw aD.dHw ["thing","length"] Z8:=by
 refine N.FHw.1.ok lC (fun vs H Q E h=>?_) (fun cdv A outer s H vs Q E hr h=>?_)
 ·obtain ⟨T0,t,len,rfl,_⟩:=h
  rfl
 ·obtain ⟨T0,t,len,rfl,hT,ok,q⟩:=h
  refine ⟨_,(@Ae _ _ _ _ _ (@Ca _ _ _ _ _ _ _ _ (PW.pt (Ge (Dk (Et (BK Dl rfl T.isin de (@Ak _ _ _ _ _ rfl (pv 0) (@Ak _ _ _ _ _ rfl (E_ (v:=.ty "tuple") rfl T.tuple PyProof.Rows.boot_tuple rfl) Aa))))) (Ge (Be QJ (BK Bj rfl T.len dQ (@Ak _ _ _ _ _ rfl (pv 0) Aa)) Ac (Bf _)) (Gg (Dk (Et (An (fc N T) (ad hr) rfl N.FMy.2.2 N.FMy.1.kp N.FMy.2.1 .nil A_ (@Ak _ _ _ _ _ rfl (@Ar _ _ _ _ _ _ _ (Ao (K:=K) rfl) (pv 0) Ac (fun _ _=>rfl)) Aa)))))))) (@Aj _ _ _ (@BR _ _ _ _ Kq)) Bk)
   (@Aj _ _ _ (@BR _ _ _ _ (Cj (An (K4 N T) (ad hr) rfl N.FWh.2.2 N.FWh.1.kp N.FWh.2.1 .nil A_ (@Ak _ _ _ _ _ rfl (@Ar _ _ _ _ _ _ _ (Ao (K:=K) rfl) (pv 0) Ac (fun _ _=>rfl)) Aa)) (Cj (An (K4 N T) (ad hr) rfl N.FWh.2.2 N.FWh.1.kp N.FWh.2.1 .nil A_ (@Ak _ _ _ _ _ rfl (@Ar _ _ _ _ _ _ _ (Ao (K:=K) rfl) (pv 0) Ac (fun _ _=>rfl)) Aa)) (Cu (Qy Dc Ii Dc Ac (@Ar _ _ _ _ _ _ _ (Ao (K:=K) rfl) (pv 0) Ac (fun _ _=>rfl)) (@Ar _ _ _ _ _ _ _ (Ao (K:=K) rfl) (pv 0) Ac (fun _ _=>rfl)) (pv 1)))))))),?_⟩
  obtain ⟨o1,o2,o3,o4,o5⟩:=ok
  have qT:Eg K H T0 (Gm t):=.inl (.inl hT)
  refine ⟨_,rfl,_,"tuple",_,_,rfl,.tup hT,YB,_,rfl,Dm ?_⟩
  refine ⟨_,rfl,T0,_,rfl,.inr qT,rfl,_,rfl,Qc rfl ?_⟩
  refine ⟨_,rfl,T0,_,_,_,rfl,rfl,qT,Af (j:=0) rfl,t.1,rfl,o1,o2,_,rfl,Dm ?_⟩
  refine ⟨_,rfl,T0,_,_,_,rfl,rfl,qT,Af (j:=1) rfl,_,rfl,_,rfl,Ey ?_⟩
  refine ⟨_,rfl,T0,_,_,_,rfl,rfl,qT,Af (j:=2) rfl,_,rfl,_,rfl,Ey ?_⟩
  refine ⟨_,rfl,T0,_,_,_,rfl,rfl,qT,Af (j:=1) rfl,_,_,rfl,rfl,_,rfl,PJ o3 ?_⟩
  refine ⟨_,rfl,T0,_,_,_,rfl,rfl,qT,Af (j:=2) rfl,_,_,rfl,rfl,_,rfl,PJ o4 ?_⟩
  refine ⟨_,rfl,_,_,rfl,rfl,?_⟩
  have e:decide (t.2.2<=len)=true:=decide_eq_true o5
  dsimp only
  rw [e]
  exact q
theorem U9 {K:PySem.W.Frag}:PySem.W.kitOne K (.type "list") (.type "list")=some true:=by kernel_rfl
theorem iR:BJ ["thing","length"] ["thing","length"] (Ah gM):=CG
include N T in
theorem eO:BP P w K mg base Bp 4 aD.fAh aD.dAh ["thing","length"] bc:=by
 refine N.FAh.1.ok iR (fun vs H Q E h=>?_) (fun cdv A outer s H vs Q E hr h=>?_)
 ·obtain ⟨a,ts,ys,len,rfl,_⟩:=h
  rfl
 ·obtain ⟨a,ts,ys,len,rfl,A0,hz,ok,q⟩:=h
  refine ⟨_,(@Aj _ _ _ (@BR _ _ _ _ (Cj (BK Dl rfl T.isin de (@Ak _ _ _ _ _ rfl (pv 0) (@Ak _ _ _ _ _ rfl (E_ (v:=.ty "list") rfl T.list fk rfl) Aa))) (Cu (BK (Jt rfl) rfl T.all jp (@Ak _ _ _ _ _ rfl (Bt rfl (BX (osc:=Ah gM) (N:=["thing","length"]) rfl rfl (by decide +kernel)) (Bc (pv 0)) (fun _ _ _ _=>B_) (fun _ _ _ _=>(An (cP N T) (ad hr) rfl N.FHw.2.2 N.FHw.1.kp N.FHw.2.1 .nil A_ (@Ak _ _ _ _ _ rfl (pv 0) (@Ak _ _ _ _ _ rfl (pv 2) Aa))))) Aa)))))),?_⟩
  refine ⟨_,rfl,_,"list",_,_,rfl,.lst A0.l,U9,_,rfl,Ey ?_⟩
  refine ⟨_,rfl,a,rfl,⟨_,lc A0.l⟩,P_ (K:=K) (fun _=>true) (fun _=>.bl true) A0 (Az (by omega)) (fun x hx T1 hT1 H' hs R k=>k H' (Aq.refl H')) (fun x hx _ T1 hT1 H' hs R k=>?_) (fun D H2 hD hs hl=>?_)⟩
  ·exact ⟨_,rfl,_,rfl,T1,x,len,rfl,hs _ _ hT1,ok x hx,k H' (Aq.refl H')⟩
  ·refine ⟨D,(ts.filter fun _=>true).map fun _=>true,rfl,lc (by rw [hl,cE]; rfl),?_⟩
   have e:((ts.filter fun _=>true).map fun _=>true).all id=true:=by simp
   rw [e]
   exact q _ hs
theorem bO:BJ ["spans","holes"] ["spans"] (Ah jO):=CG
theorem aq (N:V0 K mg C c1 aD) (T:Txt K w.params mg C aN aK aB aP aM) (K1:HH mg base c1 P1):BP P w K mg base Bp 2 aD.fFh aD.dFh ["spans"] (Wm (tb P1)):=by
 have GHo:BP P w K mg base Bp 1 aD.fHo aD.dHo ["spans"] (Wm (tb P1)):=bM N T K1
 refine N.FFh.1.ok bO (fun vs H Q E h=>?_) (fun cdv A outer s H vs Q E hr h=>?_)
 ·obtain ⟨a,ts,ys,rfl,_⟩:=h
  rfl
 ·obtain ⟨a,ts,ys,rfl,A0,h64,hpos,hTb,q⟩:=h
  obtain ⟨tMOST_HOLES,hMOST_HOLES⟩:=T.cMOST_HOLES
  refine ⟨_,(@Ae _ _ _ _ _ (@BL _ _ _ _ _ _ 1 bO.nd rfl (Or.inl rfl) (An GHo (ad hr) rfl N.FHo.2.2 N.FHo.1.kp N.FHo.2.1 .nil A_ (@Ak _ _ _ _ _ rfl (pv 0) Aa)) (by kernel_rfl) (.inl rfl))
   (@Ae _ _ _ _ _ (@Ca _ _ _ _ _ _ _ _ (Be T7 (BK Bj rfl T.len dQ (@Ak _ _ _ _ _ rfl (pv 1) Aa)) (CW (v:=.int 400) rfl hMOST_HOLES ⟨tMOST_HOLES,rfl⟩) (Bf _)) (@Aj _ _ _ Dq) Bk)
   (@Aj _ _ _ (@BR _ _ _ _ (pv 1))))),?_⟩
  refine ⟨_,rfl,a,ts,ys,rfl,A0,h64,hpos,hTb,fun p hs zs H1 f1 k1 t1 A1 c1 v1 n1=>?_⟩
  have l1:=A1.len
  have l0:=A0.len
  refine ⟨_,rfl,p,_,rfl,lc (.inl A1.l),_,_,rfl,rfl,_,rfl,YF (by omega) ?_⟩
  exact ⟨_,rfl,q p hs zs H1 f1 k1 t1 A1 c1 v1 n1⟩
theorem jF:BJ ["length","spans"] ["length","spans"] (Ah lF):=CG
theorem Pa (N:V0 K mg C c1 aD) (T:Txt K w.params mg C aN aK aB aP aM) (K1:HH mg base c1 P1):BP P w K mg base Bp 3 aD.fRf aD.dRf ["length","spans"] (Uz (tb P1)):=by
 have GFh:BP P w K mg base Bp 2 aD.fFh aD.dFh ["spans"] (Wm (tb P1)):=aq N T K1
 refine N.FRf.1.ok jF (fun vs H Q E h=>?_) (fun cdv A outer s H vs Q E hr h=>?_)
 ·obtain ⟨a,ts,ys,len,rfl,_⟩:=h
  rfl
 ·obtain ⟨a,ts,ys,len,rfl,hlen,A0,h64,hpos,hTb,q⟩:=h
  obtain ⟨tMOST_TICKS,hMOST_TICKS⟩:=T.cMOST_TICKS
  refine ⟨_,(@Ae _ _ _ _ _ (@Ca _ _ _ _ _ _ _ _ (Be T7 (pv 0) (CW (v:=.int 1000000000000) rfl hMOST_TICKS ⟨tMOST_TICKS,rfl⟩) (Bf _)) (@Aj _ _ _ Dq) Bk)
   (@Aj _ _ _ (@BR _ _ _ _ (@Ce _ _ _ _ _ (@Ak _ _ _ _ _ rfl (pv 0) (@Ak _ _ _ _ _ rfl (An GFh (ad hr) rfl N.FFh.2.2 N.FFh.1.kp N.FFh.2.1 .nil A_ (@Ak _ _ _ _ _ rfl (pv 1) Aa)) Aa)))))),?_⟩
  refine ⟨_,rfl,_,_,rfl,rfl,_,rfl,YF (by omega) ?_⟩
  refine ⟨_,rfl,_,rfl,a,ts,ys,rfl,A0,h64,hpos,hTb,fun p hs zs H1 f1 k1 t1 A1 c1 v1 n1=>⟨by show 2<=sizeLine; decide,fun r hr1=>?_⟩⟩
  have s2:=Aw (o:=HO.tup [V.int len,V.ref p]) hr1
  exact q r hs _ (k1.trans (Kp.of s2)) (t1.same s2) ⟨p,zs,f1,Ag,A1.mono s2⟩ c1 v1 n1
theorem iJ:BJ ["length","spans"] ["length","spans"] (Ah i_):=CG
theorem aY (N:V0 K mg C c1 aD) (T:Txt K w.params mg C aN aK aB aP aM) (K1:HH mg base c1 P1):BP P w K mg base Bp 5 aD.fR1 aD.dR1 ["length","spans"] (Ro.Lf (tb P1)):=by
 have GRf:BP P w K mg base Bp 3 aD.fRf aD.dRf ["length","spans"] (Uz (tb P1)):=Pa N T K1
 refine N.FR1.1.ok iJ (fun vs H Q E h=>?_) (fun cdv A outer s H vs Q E hr h=>?_)
 ·obtain ⟨a,ts,ys,len,rfl,_⟩:=h
  rfl
 ·obtain ⟨a,ts,ys,len,rfl,hl0,hl1,A0,h64,ok,hTb,q⟩:=h
  refine ⟨_,(@Ae _ _ _ _ _ (@Ca _ _ _ _ _ _ _ _ (PW.pt (Ge (Dk (Et (An (dY N T) (ad hr) rfl N.FIl.2.2 N.FIl.1.kp N.FIl.2.1 .nil A_ (@Ak _ _ _ _ _ rfl (pv 0) Aa)))) (Gg (Dk (Et (An (eO N T) (ad hr) rfl N.FAh.2.2 N.FAh.1.kp N.FAh.2.1 .nil A_ (@Ak _ _ _ _ _ rfl (pv 1) (@Ak _ _ _ _ _ rfl (pv 0) Aa)))))))) (@Aj _ _ _ Dq) Bk)
   (@Aj _ _ _ (@BR _ _ _ _ (An GRf (ad hr) rfl N.FRf.2.2 N.FRf.1.kp N.FRf.2.1 .nil A_ (@Ak _ _ _ _ _ rfl (pv 0) (@Ak _ _ _ _ _ rfl (pv 1) Aa)))))),?_⟩
  refine ⟨_,rfl,len,rfl,hl0,hl1,_,rfl,Dm ?_⟩
  refine ⟨_,rfl,_,rfl,a,ts,ys,len,rfl,A0,by omega,ok,fun H1 s1=>⟨_,rfl,Dm ?_⟩⟩
  refine ⟨_,rfl,_,rfl,a,ts,ys,len,rfl,hl1,A0.mono s1,h64,fun t ht=>(ok t ht).2.2.2.1,hTb.same s1,fun r hs H2 k2 t2 A2 c2 v2 n2=>?_⟩
  obtain ⟨p,zs,f,e,A⟩:=A2
  exact q r hs H2 ((Kp.of s1).trans k2) t2 ⟨p,zs,s1.free f,e,A⟩ c2 v2 n2
theorem lN:BJ ["roll","tick"] ["roll","tick"] (Ah gW):=CG
include N T in
theorem fD:BP P w K mg base Bp 1 aD.fOa aD.dOa ["roll","tick"] YK:=by
 refine N.FOa.1.ok lN (fun vs H Q E h=>?_) (fun cdv A outer s H vs Q E hr h=>?_)
 ·obtain ⟨r,len,tick,hs,rfl,_⟩:=h
  rfl
 ·obtain ⟨r,len,tick,hs,rfl,⟨p,zs,hr1,A0⟩,c0,h64,q⟩:=h
  refine ⟨_,(@Aj _ _ _ (@BR _ _ _ _ (BK Hm rfl T.sorted eI (@Ak _ _ _ _ _ rfl (Bt rfl (BX (osc:=Ah gW) (N:=["roll","tick"]) rfl rfl (by decide +kernel)) (Bc (@Ar _ _ _ _ _ _ _ (Ao (K:=K) rfl) (pv 0) Ac (fun _ _=>rfl))) (fun _ _ _ _=>(Lw (J6 Dc Ii (@Ar _ _ _ _ _ _ _ (Ao (K:=K) rfl) (pv 0) Ac (fun _ _=>rfl)) (pv 2) (@Ar _ _ _ _ _ _ _ (Ao (K:=K) rfl) (pv 0) Ac (fun _ _=>rfl))))) (fun _ _ _ _=>(@Ar _ _ _ _ _ _ _ (Ao (K:=K) rfl) (pv 0) Ac (fun _ _=>rfl)))) Aa)))),?_⟩
  have l0:=A0.len
  refine ⟨_,rfl,r,_,_,_,rfl,rfl,lc hr1,Af (j:=1) rfl,p,rfl,⟨_,lc A0.l⟩,P_ (K:=K) (fun h=>decide (h.2.1<=tick) && decide (tick<h.2.2)) (fun h=>.int h.1) A0 (Az (by omega)) (fun x hx T1 hT1 H' hs R k=>?_) (fun x hx _ T1 hT1 H' hs R k=>?_) (fun D H2 hD hs2 hl=>?_)⟩
  ·refine ⟨_,rfl,T1,_,_,_,rfl,rfl,lc (hs _ _ hT1),Af (j:=1) rfl,_,rfl,_,_,rfl,rfl,_,rfl,?_⟩
   have kk:=k H' (Aq.refl H')
   refine Df (fun g1=>?_) (fun g1=>?_)
   ·refine ⟨_,rfl,T1,_,_,_,rfl,rfl,lc (hs _ _ hT1),Af (j:=2) rfl,_,_,rfl,rfl,_,rfl,?_⟩
    rw [show decide (x.2.1<=tick)=true from g1,Bool.true_and] at kk
    exact kk
   ·rw [show decide (x.2.1<=tick)=false from (Bool.not_eq_true _).mp g1,Bool.false_and] at kk
    exact ⟨_,rfl,kk⟩
  ·exact ⟨_,rfl,T1,_,_,_,rfl,rfl,lc (hs _ _ hT1),Af (j:=0) rfl,k H' (Aq.refl H')⟩
  have hl':H2 D=some (.lst (((hs.filter fun h=>decide (h.2.1<=tick) && decide (tick<h.2.2)).map (·.1)).map V.int)):=by rw [hl,cE]; rfl
  refine ⟨D,_,rfl,lc hl',(by rw [ag]; exact bv (dS ..) h64),fun l ms hl2 pm po=>?_⟩
  obtain ⟨g1,g2⟩:=Q8 c0 pm po
  exact q l ms _ (hs2.trans (Aw hl2)) Ag g1 g2
theorem Zm:BJ ["holes","part","tracks","hole"] ["holes","part"] (Ah jD):=CG
include N T in
theorem cO:BP P w K mg base Bp 1 aD.fTk aD.dTk ["holes","part"] dH:=by
 refine N.FTk.1.ok Zm (fun vs H Q E h=>?_) (fun cdv A outer s H vs Q E hr h=>?_)
 ·obtain ⟨p,hs,zs,k,rfl,_⟩:=h
  rfl
 ·obtain ⟨p,hs,zs,k,rfl,A0,hz,hk,q⟩:=h
  refine ⟨_,(@Ae _ _ _ _ _ (@BL _ _ _ _ _ _ 2 Zm.nd rfl (Or.inl rfl) Nt (by kernel_rfl) (.inl rfl))
   (@Ae _ _ _ _ _ (DR PassesOwn.never rfl (Bc (pv 0)) (Ba (i:=3) Zm.nd rfl (Or.inl rfl)) (@Aj _ _ _ (DG (Fz bE cr cy Bx (UJ (pv 2) (@Ar _ _ _ _ _ _ _ (Ao (K:=K) rfl) (pv 3) (pv 1) (fun _ _=>rfl)) (@CN _ _ _ _ Aa) ⟨rfl,rfl,rfl,rfl⟩) (@Ak _ _ _ _ _ rfl (@Ar _ _ _ _ _ _ _ (Ao (K:=K) rfl) (pv 3) Ac (fun _ _=>rfl)) Aa)))))
   (@Aj _ _ _ (@BR _ _ _ _ (pv 2))))),?_⟩
  have l0:=A0.len
  refine fun D hD=>?_
  obtain ⟨H1,eqH,s1,d1⟩:=HD (o:=HO.dK []) hD
  rw [eqH]
  refine ⟨_,rfl,p,rfl,⟨_,.inl (.inl (A0.mono s1).l)⟩,Er (K:=K) (a:=p) (xs:=zs) (fun i σ H4=>∃ (kvs:List (Key × V)) (js:List Int) (v3:Option V),σ=[some (.ref p),some (.int k),some (.ref D),v3]/\Aq H H4/\H4 D=some (.dK kvs)/\kvs.map (·.1)=js.map Sum.inl/\(∀ t,t∈js ↔ ∃ h∈hs.take i,pt k h=t)/\js.length<=i/\∀ kv∈kvs,∃ l ns,kv.2=V.ref l/\H l=none/\H4 l=some (.lst (List.map V.int ns))/\ns.length<=i) ⟨[],[],_,rfl,s1,d1,rfl,fun t=>⟨fun h=>absurd h kT,fun ⟨_,h,_⟩=>absurd h kT⟩,ah _,fun _ h=>absurd h kT⟩ (fun i σ H4 _ h=>by obtain ⟨_,_,_,_,s,_⟩:=h; exact .inl (.inl (A0.mono s).l)) ?_ ?_⟩
  ·rintro i y σ H4 hi ⟨kvs,js,v3,rfl,s4,d4,ek,mj,nj,lk⟩
   obtain ⟨x,T0,hx,hxd,rfl,hT⟩:=(A0.mono s4).at hi
   obtain ⟨e1,e2⟩:=J1 hx
   have hil:i<zs.length:=(af.mp hi).1
   have lkv:kvs.length=js.length:=by have:=congrArg List.length ek; simpa using this
   have qT:Eg K H4 T0 (Cm x):=.inl (.inl hT)
   have hat:Mf (Cm x) k=some (.int (pt k x)):=by
    rcases hk with rfl | rfl
    ·exact Af (j:=1) rfl
    ·exact Af (j:=2) rfl
   refine ⟨_,rfl,D,rfl,.inl ⟨kvs,.inl d4⟩,_,rfl,_,rfl,T0,_,_,_,rfl,rfl,qT,hat,cm _,fun ln hln=>?_⟩
   have s5:=Aw (o:=HO.lst []) hln
   have a5:upd H4 ln (HO.lst []) ln=some (.lst []):=Ag
   have d5:=s5 _ _ d4
   have hT5:=s5 _ _ hT
   have hln0:H ln=none:=s4.free hln
   have s05:=s4.trans s5
   have lk5:∀ kv∈kvs,∃ l ns,kv.2=V.ref l/\H l=none/\upd H4 ln (HO.lst []) l=some (.lst (List.map V.int ns))/\ns.length<=i/\l ≠ ln:=fun kv hkv=>by
    obtain ⟨l,ns,a,b,c,d⟩:=lk kv hkv
    exact ⟨l,ns,a,b,s5 _ _ c,d,Av c hln⟩
   generalize upd H4 ln (HO.lst [])=H5 at s5 a5 d5 hT5 s05 lk5 ⊢
   have qT5:Eg K H5 T0 (Cm x):=.inl (.inl hT5)
   refine ⟨kvs,Sum.inl (pt k x),d5,rfl,Az (by omega),fun v hv=>?_,fun hv=>?_⟩
   ·obtain ⟨kv,hf,rfl⟩:=aE.mp hv
    have hkv:kv∈kvs:=List.mem_of_find?_eq_some hf
    have hke:kv.1=Sum.inl (pt k x):=by have:=List.find?_some hf; simpa using this
    obtain ⟨l,ns,a,b,c,d,hne⟩:=lk5 kv hkv
    have hin:pt k x∈js:=by
     have:Sum.inl (pt k x)∈js.map (Sum.inl (β:=Str)):=by rw [← ek,← hke]; exact bt.mpr ⟨kv,hkv,rfl⟩
     obtain ⟨z,hz1,hz2⟩:=bt.mp this
     cases hz2
     exact hz1
    rw [a]
    refine ⟨.inl ⟨rfl,_,lc c⟩,_,rfl,T0,_,_,_,rfl,rfl,qT5,Af (j:=0) rfl,l,_,_,rfl,rfl,c,Az (by rw [ag]; omega),?_⟩
    have hDl:D ≠ l:=Ei d5 c (fun z=>by cases z)
    refine ⟨kvs,js,_,rfl,fun b' o e=>by rw [Am (Av e b)]; exact s05 b' o e,by rw [Am hDl]; exact d5,ek,fun t=>?_,by omega,fun kv' hkv'=>?_⟩
    ·rw [mj,e2]
     constructor
     ·rintro ⟨h,hm,e⟩
      exact ⟨h,dt _ hm,e⟩
     ·rintro ⟨h,hm,e⟩
      rcases bp.mp hm with hm | hm
      ·exact ⟨h,hm,e⟩
      ·rw [ai.mp hm] at e
       exact (mj t).mp (e ▸ hin)
    ·obtain ⟨l',ns',a',b',c',d',_⟩:=lk5 kv' hkv'
     by_cases hll:l'=l
     ·subst hll
      exact ⟨l',ns++[x.1],a',b',by rw [Ag,List.map_append]; rfl,by rw [List.length_append]; show _+1<=_; omega⟩
     ·exact ⟨l',ns',a',b',by rw [Am hll]; exact c',by omega⟩
   ·have hDn:D ≠ ln:=Ei d5 a5 (fun z=>by cases z)
    have a6:upd H5 D (HO.dK (kvs++[(Sum.inl (pt k x),V.ref ln)])) ln=some (.lst []):=by rw [Am (Ne.symm hDn)]; exact a5
    have d6:upd H5 D (HO.dK (kvs++[(Sum.inl (pt k x),V.ref ln)])) D=some (.dK (kvs++[(Sum.inl (pt k x),V.ref ln)])):=Ag
    have hT6:upd H5 D (HO.dK (kvs++[(Sum.inl (pt k x),V.ref ln)])) T0=some (.tup (Cm x)):=by rw [Am (Ei hT5 d5 (fun z=>by cases z))]; exact hT5
    have s06:Aq H (upd H5 D (HO.dK (kvs++[(Sum.inl (pt k x),V.ref ln)]))):=fun b' o e=>by rw [Am (Av e hD)]; exact s05 b' o e
    have lk6:∀ kv∈kvs,∃ l ns,kv.2=V.ref l/\H l=none/\upd H5 D (HO.dK (kvs++[(Sum.inl (pt k x),V.ref ln)])) l=some (.lst (List.map V.int ns))/\ns.length<=i/\l ≠ ln:=fun kv hkv=>by
     obtain ⟨l,ns,a,b,c,d,e⟩:=lk5 kv hkv
     exact ⟨l,ns,a,b,by rw [Am (Ei c d5 (fun z=>by cases z))]; exact c,d,e⟩
    generalize upd H5 D (HO.dK (kvs++[(Sum.inl (pt k x),V.ref ln)]))=H6 at a6 d6 hT6 s06 lk6 ⊢
    refine ⟨.inl ⟨rfl,_,lc a6⟩,_,rfl,T0,_,_,_,rfl,rfl,lc hT6,Af (j:=0) rfl,ln,_,_,rfl,rfl,a6,by show 0<sizeLine; decide,?_⟩
    refine ⟨_,js++[pt k x],_,rfl,fun b' o e=>by rw [Am (Av e hln0)]; exact s06 b' o e,by rw [Am hDn]; exact d6,by rw [List.map_append,List.map_append,ek]; rfl,fun t=>?_,by rw [List.length_append]; show _+1<=_; omega,fun kv' hkv'=>?_⟩
    ·rw [bp,mj,e2]
     constructor
     ·rintro (⟨h,hm,e⟩ | e)
      ·exact ⟨h,dt _ hm,e⟩
      ·exact ⟨x,aT _ (ai.mpr rfl),(ai.mp e).symm⟩
     ·rintro ⟨h,hm,e⟩
      rcases bp.mp hm with hm | hm
      ·exact .inl ⟨h,hm,e⟩
      ·rw [ai.mp hm] at e
       exact .inr (ai.mpr e.symm)
    ·rcases bp.mp hkv' with hkv' | hkv'
     ·obtain ⟨l',ns',a',b',c',d',e'⟩:=lk6 kv' hkv'
      exact ⟨l',ns',a',b',by rw [Am e']; exact c',by omega⟩
     ·rw [ai.mp hkv']
      exact ⟨ln,[x.1],rfl,hln0,Ag,by show 1<=i+1; omega⟩
  ·rintro σ H4 ⟨kvs,js,v3,rfl,s4,d4,ek,mj,nj,lk⟩
   rw [bq (by omega)] at mj
   exact ⟨_,rfl,q D kvs js H4 s4 hD d4 ek mj (by omega) fun kv hkv=>by
    obtain ⟨l,ns,a,_,b,c⟩:=lk kv hkv
    exact ⟨l,ns,a,b,by omega⟩⟩
theorem Xd:BJ ["roll","opened","closed","ticks"] ["roll"] (Ah gJ):=CG
include N T in
theorem aU:BP P w K mg base Bp 2 aD.fCh aD.dCh ["roll"] cJ:=by
 refine N.FCh.1.ok Xd (fun vs H Q E h=>?_) (fun cdv A outer s H vs Q E hr h=>?_)
 ·obtain ⟨r,len,hs,rfl,_⟩:=h
  rfl
 ·obtain ⟨r,len,hs,rfl,⟨p,zs,e1,A1⟩,hn,q⟩:=h
  have hu:=bv (gx (by decide:1<=64) _) hr.units
  refine ⟨_,(@Ae _ _ _ _ _ (@BL _ _ _ _ _ _ 1 Xd.nd rfl (Or.inr rfl) (An (cO N T) (ad hr) rfl N.FTk.2.2 N.FTk.1.kp N.FTk.2.1 .nil A_ (@Ak _ _ _ _ _ rfl (@Ar _ _ _ _ _ _ _ (Ao (K:=K) rfl) (pv 0) Ac (fun _ _=>rfl)) (@Ak _ _ _ _ _ rfl Ac Aa))) (by kernel_rfl) (.inl rfl))
   (@Ae _ _ _ _ _ (@BL _ _ _ _ _ _ 2 Xd.nd rfl (Or.inr rfl) (An (cO N T) (ad hr) rfl N.FTk.2.2 N.FTk.1.kp N.FTk.2.1 .nil A_ (@Ak _ _ _ _ _ rfl (@Ar _ _ _ _ _ _ _ (Ao (K:=K) rfl) (pv 0) Ac (fun _ _=>rfl)) (@Ak _ _ _ _ _ rfl Ac Aa))) (by kernel_rfl) (.inl rfl))
   (@Ae _ _ _ _ _ (@BL _ _ _ _ _ _ 3 Xd.nd rfl (Or.inl rfl) (BK (HQ rfl) rfl T.sorted eI (@Ak _ _ _ _ _ rfl (Ea (NT rfl) rfl T.set PyProof.Rows.boot_set (@Ak _ _ _ _ _ rfl (BV Hs (Ea (GK rfl) rfl T.list fk (@Ak _ _ _ _ _ rfl (pv 1) Aa)) (Ea (GK rfl) rfl T.list fk (@Ak _ _ _ _ _ rfl (pv 2) Aa))) Aa)) Aa)) (by kernel_rfl) (.inl rfl))
   (@Aj _ _ _ (@BR _ _ _ _ (Bt rfl (BX (osc:=Ah gJ) (N:=["roll","opened","closed","ticks"]) rfl rfl (by decide +kernel)) (Bc (pv 3)) (fun _ _ _ _=>B_) (fun _ _ _ _=>(@Ce _ _ _ _ _ (@Ak _ _ _ _ _ rfl (pv 0) (@Ak _ _ _ _ _ rfl (BK (Gw (K:=K) rfl) rfl T.sorted eI (@Ak _ _ _ _ _ rfl (Ms hu (pv 2) (pv 0) (@CN _ _ _ _ Aa) ⟨rfl,rfl,rfl,rfl⟩) Aa)) (@Ak _ _ _ _ _ rfl (BK (Gw (K:=K) rfl) rfl T.sorted eI (@Ak _ _ _ _ _ rfl (Ms hu (pv 3) (pv 0) (@CN _ _ _ _ Aa) ⟨rfl,rfl,rfl,rfl⟩) Aa)) Aa))))))))))),?_⟩
  have lz:=A1.len
  have qr:Eg K H r [V.int len,V.ref p]:=.inl (.inl e1)
  refine ⟨_,rfl,r,_,_,_,rfl,rfl,qr,Af (j:=1) rfl,p,hs,zs,1,rfl,A1,by omega,.inl rfl,fun D1 k1 j1 H1 s1 n1 d1 ek1 mj1 nj1 lk1=>?_⟩
  have qr1:Eg K H1 r [V.int len,V.ref p]:=.inl (.inl (s1 _ _ e1))
  refine ⟨_,rfl,r,_,_,_,rfl,rfl,qr1,Af (j:=1) rfl,p,hs,zs,2,rfl,A1.mono s1,by omega,.inr rfl,fun D2 k2 j2 H2 s2 n2 d2 ek2 mj2 nj2 lk2=>?_⟩
  have d1':=s2 _ _ d1
  refine ⟨_,rfl,D1,k1,j1,rfl,d1',ek1,fun l3 hl3=>?_⟩
  obtain ⟨H3,eqH,s3,a3⟩:=HD (o:=HO.lst (j1.map V.int)) hl3
  rw [eqH]
  refine ⟨_,rfl,D2,k2,j2,rfl,s3 _ _ d2,ek2,fun l4 hl4=>?_⟩
  obtain ⟨H4,eqH,s4,a4⟩:=HD (o:=HO.lst (j2.map V.int)) hl4
  rw [eqH]
  refine ⟨l3,l4,_,_,rfl,rfl,s4 _ _ a3,a4,FQ (by rw [ag,ag]; omega),fun l5 hl5=>?_⟩
  have s5:=Aw (o:=HO.lst (j1.map V.int++j2.map V.int)) hl5
  have a5:upd H4 l5 (HO.lst (j1.map V.int++j2.map V.int)) l5=some (.lst ((j1++j2).map V.int)):=by rw [Ag,dA]
  generalize upd H4 l5 (HO.lst (j1.map V.int++j2.map V.int))=H5 at s5 a5 ⊢
  refine ⟨l5,j1++j2,rfl,lc a5,by rw [ar]; omega,fun p6 hp6=>⟨p6,_,rfl,Ag,?_,fun p7 ms hp7 pm po=>?_⟩⟩
  ·have:=Wd.En (j1++j2) []
   simp only [List.length_nil,Nat.zero_add,List.length_append] at this
   omega
  obtain ⟨m1,m2⟩:=JX pm po
  have hml:ms.length<56:=by
   have:=Wd.En (j1++j2) []
   simp only [List.length_nil,Nat.zero_add,List.length_append] at this
   have e:=pm.length_eq
   omega
  generalize e7:upd (upd H5 p6 _) p7 (HO.lst (ms.map V.int))=H7
  have s7:Aq H5 H7:=by rw [← e7]; exact (Aw hp6).trans (Aw hp7)
  have a7:H7 p7=some (.lst (ms.map V.int)):=by rw [← e7]; exact Ag
  clear e7
  have s27:=s3.trans (s4.trans (s5.trans s7))
  have s07:=s1.trans (s2.trans s27)
  have d1':=s27 _ _ d1'
  have d2':=s27 _ _ d2
  refine ⟨_,rfl,p7,rfl,⟨_,lc a7⟩,Jz (K:=K) (xs:=ms.map V.int) Zy Sv XR (lc a7) (Az (by rw [ag]; omega)) (fun x hx H' hs R kk=>kk H' (Aq.refl H')) (fun x hx H' hs R kk=>?_) (fun D8 H8 ys hD8 s8 a8 pr=>?_)⟩
  ·obtain ⟨t,ht,rfl⟩:=bt.mp hx
   have lA:=JB lk1 (s2.trans (s27.trans hs))
   have lB:=JB lk2 (s27.trans hs)
   refine ⟨_,rfl,_,rfl,D1,rfl,.inl ⟨k1,.inl (hs _ _ d1')⟩,_,rfl,cm _,fun ln hln=>?_⟩
   have sa:=Aw (o:=HO.lst []) hln
   have aa:upd H' ln (HO.lst []) ln=some (.lst []):=Ag
   generalize upd H' ln (HO.lst [])=Ha at sa aa ⊢
   obtain ⟨l9,ns9,e9,f9,g9⟩:=Kd (k:=Sum.inl t) (JB lA sa) aa
   refine ⟨DQ k1 (Sum.inl t),KR.k (k:=Sum.inl t) (sa _ _ (hs _ _ d1')),?_⟩
   rw [e9]
   refine ⟨l9,ns9,rfl,lc f9,g9,fun pb mb hpb _ _=>?_⟩
   have sb:=Aw (o:=HO.lst (mb.map V.int)) hpb
   generalize upd Ha pb (HO.lst (mb.map V.int))=Hb at sb ⊢
   refine ⟨_,rfl,D2,rfl,.inl ⟨k2,.inl (sb _ _ (sa _ _ (hs _ _ d2')))⟩,_,rfl,cm _,fun lm hlm=>?_⟩
   obtain ⟨Hc,eqH,sc,ac⟩:=HD (o:=HO.lst []) hlm
   rw [eqH]
   obtain ⟨l8,ns8,e8,f8,g8⟩:=Kd (k:=Sum.inl t) (JB lB (sa.trans (sb.trans sc))) ac
   refine ⟨DQ k2 (Sum.inl t),KR.k (k:=Sum.inl t) (sc _ _ (sb _ _ (sa _ _ (hs _ _ d2')))),?_⟩
   rw [e8]
   refine ⟨l8,ns8,rfl,lc f8,g8,fun pd md hpd _ _=>?_⟩
   have sd:=Aw (o:=HO.lst (md.map V.int)) hpd
   generalize upd Hc pd (HO.lst (md.map V.int))=Hd at sd ⊢
   exact ⟨by show 3<=sizeLine; decide,fun T hT=>kk _ _ (sa.trans (sb.trans (sc.trans (sd.trans (Aw hT))))) ⟨t,T,pb,pd,rfl,rfl,Ag⟩⟩
  ·exact q D8 ys ms H8 (s07.trans s8) a8 (Us pr) (fun t=>by
    rw [m2,bp,mj1,mj2]
    unfold Tk pt
    simp only [if_true,show ¬ ((2:Int)=1) by decide,if_false]
    constructor
    ·rintro (⟨h,hm,e⟩ | ⟨h,hm,e⟩)
     ·exact ⟨h,hm,.inl e⟩
     ·exact ⟨h,hm,.inr e⟩
    ·rintro ⟨h,hm,e | e⟩
     ·exact .inl ⟨h,hm,e⟩
     ·exact .inr ⟨h,hm,e⟩) hml
theorem lK:BJ ["roll"] ["roll"] (Ah g_):=CG
include N T in
theorem fY:BP P w K mg base Bp 3 aD.fCt aD.dCt ["roll"] b8:=by
 refine N.FCt.1.ok lK (fun vs H Q E h=>?_) (fun cdv A outer s H vs Q E hr h=>?_)
 ·obtain ⟨r,len,hs,rfl,_⟩:=h
  rfl
 ·obtain ⟨r,len,hs,rfl,R,hn,q⟩:=h
  refine ⟨_,(@Aj _ _ _ (@BR _ _ _ _ (Bt rfl (BX (osc:=Ah g_) (N:=["roll"]) rfl rfl (by decide +kernel)) (Bc (An (aU N T) (ad hr) rfl N.FCh.2.2 N.FCh.1.kp N.FCh.2.1 .nil A_ (@Ak _ _ _ _ _ rfl (pv 0) Aa))) (fun _ _ _ _=>B_) (fun _ _ _ _=>(@Ar _ _ _ _ _ _ _ (Ao (K:=K) rfl) (pv 0) Ac (fun _ _=>rfl)))))),?_⟩
  refine ⟨_,rfl,r,len,hs,rfl,R,hn,fun F ys ms H1 s1 a1 pr mm nl=>?_⟩
  have ll:=pr.length
  refine ⟨F,rfl,⟨_,lc a1⟩,Jz (K:=K) (xs:=ys) (fun _ y z=>∃ m,z=V.int m/\VP H1 m y) (fun _ _ _ _ _ p=>p) (fun _ _ _ _ _ _ _ p=>p) (lc a1) (Az (by omega)) (fun x hx H' hs R kk=>kk H' (Aq.refl H')) (fun x hx H' hs R kk=>?_) (fun D H2 zs hD s2 a2 p2=>?_)⟩
  ·obtain ⟨i,hi⟩:=gs hx
   obtain ⟨m,hm,T,a,b,rfl,hT⟩:=Cg pr hi
   exact ⟨_,rfl,T,_,_,_,rfl,rfl,lc (hs _ _ hT),Af (j:=0) rfl,kk _ H' (Aq.refl H') ⟨m,rfl,T,a,b,rfl,hT⟩⟩
  have e:zs=ms.map V.int:=by
   have key:∀ {ms:List Int} {ys zs:List V},Paired (VP H1) ms ys->Paired (fun y z=>∃ m,z=V.int m/\VP H1 m y) ys zs->zs=ms.map V.int:=fun {ms ys zs} p1 p2=>by
    induction p1 generalizing zs with
    | nil=>cases p2; rfl
    | cons a b ih =>
     cases p2 with
     | cons c d =>
      obtain ⟨m',rfl,T',a',b',e',f'⟩:=c
      obtain ⟨T,a1,b1,e1,f1⟩:=a
      rw [e1] at e'
      cases e'
      rw [f1] at f'
      cases f'
      rw [ih d]
      rfl
   exact key pr p2
  subst e
  exact q D ms H2 (s1.trans s2) a2 mm nl
noncomputable def au (C:Addr):Sp:=fun vs H Q _=>∃ (x:Addr) (bs:List (Str × Nat)) (rk:List (Str × Nat × Int)) (ks:List R) (ls:List (List Ln)),vs=[.ref x]/\Cr C H x bs rk ks ls/\∀ D rvs H',H D=none->Aq H H'->H' D=some (.lst rvs)->Paired (fun (a:Th) y=>TupAt H' (tV a) y) (rk.map Wg) rvs->Q (.ref D) H'
theorem jg:BJ ["self"] ["self"] (Ah lM):=CG
include N T in
theorem fG:BP P w K mg base Bp 1 aD.fOr aD.dOr ["self"] (au C):=by
 refine N.FOr.1.ok jg (fun vs H Q E h=>?_) (fun cdv A outer s H vs Q E hr h=>?_)
 ·obtain ⟨x,bs,rk,ks,ls,rfl,_⟩:=h
  rfl
 ·obtain ⟨x,bs,rk,ks,ls,rfl,O,q⟩:=h
  refine ⟨_,(Aj (BR (Ea HN rfl T.list fk (Ai (Fw (pv 0) rfl) Aa)))),?_⟩
  obtain ⟨⟨dx,fs,bl,bn,kp,kr,bvs,pvs,uvs,kvs,h1,l1,l2,l3,l4,lm,h2,h3,h4,h5,h6,h7,h8,h9⟩,ob5,osz,onk⟩:=id O.o
  obtain ⟨dx',fs',rl,rn,pp,kl,rvs,qvs,kvs',g1,m1,m2,m3,m4,g2,g3,g4,g5,g6,g7,lv,g8,g9⟩:=id O.r
  obtain ⟨e1,e2⟩:dx'=dx/\fs'=fs:=by rw [h1] at g1; cases g1; exact ⟨rfl,rfl⟩
  subst e1 e2
  exact ⟨_,rfl,x,C,_,_,_,rfl,h1,T.cl,T.n_rank_list,m1,rl,rvs,rfl,lc (.inl g2),fun l hl=>q l rvs _ hl (Aw hl) Ag (Ax (Aw hl) g3)⟩
noncomputable def gF (C:Addr):Sp:=fun vs H Q _=>∃ (x:Addr) (bs:List (Str × Nat)) (rk:List (Str × Nat × Int)) (ks:List R) (ls:List (List Ln)),vs=[.ref x]/\Cr C H x bs rk ks ls/\Q (.int ((HY (rk.map V4)).length:Nat)) H
theorem jY:BJ ["self"] ["self"] (Ah iy):=CG
include N T in
theorem dj:BP P w K mg base Bp 1 aD.fOq aD.dOq ["self"] (gF C):=by
 refine N.FOq.1.ok jY (fun vs H Q E h=>?_) (fun cdv A outer s H vs Q E hr h=>?_)
 ·obtain ⟨x,bs,rk,ks,ls,rfl,_⟩:=h
  rfl
 ·obtain ⟨x,bs,rk,ks,ls,rfl,O,q⟩:=h
  refine ⟨_,(Aj (BR (BK Bj rfl T.len dQ (Ai (Fw (pv 0) rfl) Aa)))),?_⟩
  obtain ⟨⟨dx,fs,bl,bn,kp,kr,bvs,pvs,uvs,kvs,h1,l1,l2,l3,l4,lm,h2,h3,h4,h5,h6,h7,h8,h9⟩,ob5,osz,onk⟩:=id O.o
  obtain ⟨dx',fs',rl,rn,pp,kl,rvs,qvs,kvs',g1,m1,m2,m3,m4,g2,g3,g4,g5,g6,g7,lv,g8,g9⟩:=id O.r
  obtain ⟨e1,e2⟩:dx'=dx/\fs'=fs:=by rw [h1] at g1; cases g1; exact ⟨rfl,rfl⟩
  subst e1 e2
  refine ⟨_,rfl,x,C,_,_,_,rfl,h1,T.cl,T.n_pipe_places,m3,pp,qvs,rfl,lc (.inl g6),?_⟩
  rw [← g7.length]
  exact q
noncomputable def bQ (C:Addr):Sp:=fun vs H Q _=>∃ (x:Addr) (bs:List (Str × Nat)) (rk:List (Str × Nat × Int)) (ks:List R) (ls:List (List Ln)) (i:Nat) (qd:Nat × Nat),vs=[.ref x,.int (i:Nat)]/\Cr C H x bs rk ks ls/\(HY (rk.map V4))[i]? = some qd/\∀ y,TupAt H (qV qd) y->Q y H
theorem j8:BJ ["self","pipe"] ["self","pipe"] (Ah iG):=CG
include N T in
theorem Z3:BP P w K mg base Bp 1 aD.fOx aD.dOx ["self","pipe"] (bQ C):=by
 refine N.FOx.1.ok j8 (fun vs H Q E h=>?_) (fun cdv A outer s H vs Q E hr h=>?_)
 ·obtain ⟨x,bs,rk,ks,ls,i,qd,rfl,_⟩:=h
  rfl
 ·obtain ⟨x,bs,rk,ks,ls,i,qd,rfl,O,hq,q⟩:=h
  refine ⟨_,(Aj (BR (Ar Bm (Fw (pv 0) rfl) (pv 1) (fun _ _=>rfl)))),?_⟩
  obtain ⟨⟨dx,fs,bl,bn,kp,kr,bvs,pvs,uvs,kvs,h1,l1,l2,l3,l4,lm,h2,h3,h4,h5,h6,h7,h8,h9⟩,ob5,osz,onk⟩:=id O.o
  obtain ⟨dx',fs',rl,rn,pp,kl,rvs,qvs,kvs',g1,m1,m2,m3,m4,g2,g3,g4,g5,g6,g7,lv,g8,g9⟩:=id O.r
  obtain ⟨e1,e2⟩:dx'=dx/\fs'=fs:=by rw [h1] at g1; cases g1; exact ⟨rfl,rfl⟩
  subst e1 e2
  obtain ⟨y,hy,ht⟩:=Fq g7 hq
  exact ⟨_,rfl,x,C,_,_,_,rfl,h1,T.cl,T.n_pipe_places,m3,_,rfl,pp,qvs,_,_,rfl,rfl,lc g6,Af hy,q y ht⟩
noncomputable def Gv (rk:List (Str × Nat × Int)):List Int:=(HY (rk.map V4)).map fun q=>((rk[q.1]?).map fun r=>r.2.2).getD 0
noncomputable def aA (C:Addr):Sp:=fun vs H Q _=>∃ (x:Addr) (bs:List (Str × Nat)) (rk:List (Str × Nat × Int)) (ks:List R) (ls:List (List Ln)),vs=[.ref x]/\Cr C H x bs rk ks ls/\(Gv rk).length<=1000/\∀ D H',H D=none->Aq H H'->H' D=some (.lst ((Gv rk).map V.int))->Q (.ref D) H'
theorem bT:BJ ["organ","ranks"] ["organ"] (Ah gk):=CG
include N T in
theorem dC:BP P w K mg base Bp 2 aD.fWp aD.dWp ["organ"] (aA C):=by
 refine N.FWp.1.ok bT (fun vs H Q E h=>?_) (fun cdv A outer s H vs Q E hr h=>?_)
 ·obtain ⟨x,bs,rk,ks,ls,rfl,_⟩:=h
  rfl
 ·obtain ⟨x,bs,rk,ks,ls,rfl,O,hn,q⟩:=h
  refine ⟨_,(Ae (BL 1 bT.nd rfl (Or.inr rfl) (Nr (pv 0) T.cl N.FOr.2.2 (fG N T) (ad hr) N.FOr.2.1 .nil A_) (by kernel_rfl) (.inl rfl))
   (Aj (BR (Bt rfl (BX (osc:=Ah gk) (N:=["organ","ranks"]) rfl rfl (by decide +kernel)) (Ep rfl T.range (Ai (Nr (pv 0) T.cl N.FOq.2.2 (dj N T) (ad hr) N.FOq.2.1 .nil A_) Aa)) (fun _ _ _ _=>B_) (fun _ _ _ _=>(Ar (Ao (K:=K) rfl) (Ar (Bu (K:=K) rfl) (pv 2) (Ar (Ao (K:=K) rfl) (V6 (pv 1) T.cl N.FOx.2.2 (Z3 N T) (ad hr) N.FOx.2.1 .nil A_ (Ai (pv 0) Aa)) Ac (fun _ _=>rfl)) (fun _ _=>rfl)) Ac (fun _ _=>rfl))))))),?_⟩
  have meth:∀ {H':Hp},Cr C H' x bs rk ks ls->∃ dx fs,H' x=some (.ins C dx fs)/\∀ m∈meths,fs.lookup m=none:=fun O'=>by
   obtain ⟨⟨dx,fs,_,_,_,_,_,_,_,_,h1,_,_,_,_,lm,_⟩,_⟩:=O'.o
   exact ⟨dx,fs,h1,lm⟩
  obtain ⟨dx,fs,h1,lm⟩:=meth O
  refine ⟨_,rfl,x,dx,fs,rfl,h1,lm _ (by decide +kernel),x,bs,rk,ks,ls,rfl,O,fun D rvs H1 hD s1 hl1 P1=>?_⟩
  have O1:=O.mono s1
  obtain ⟨dx1,fs1,h11,lm1⟩:=meth O1
  have hl:(HY (rk.map V4)).length=(Gv rk).length:=by unfold Gv; rw [List.length_map]
  refine ⟨_,rfl,x,dx1,fs1,rfl,h11,lm1 _ (by decide +kernel),x,bs,rk,ks,ls,rfl,O1,_,rfl,by omega,by omega,?_⟩
  rw [ce]
  refine Oo (lo:=0) (n:=(HY (rk.map V4)).length) (fun _=>true) (fun i=>.int ((Gv rk).getD i.toNat 0)) (Az (by omega)) (fun i hi H' hs R k=>k H' (Aq.refl H')) (fun i hi _ H' hs R k=>?_) (fun D3 H3 hD3 s3 hl3=>?_)
  ·have et:((0:Int)+(i:Int))=((i:Nat):Int):=by omega
   rw [et] at k ⊢
   have O':=O1.mono hs
   obtain ⟨dx2,fs2,h12,lm2⟩:=meth O'
   have hq:=ae hi
   generalize (HY (rk.map V4))[i]=qd at hq
   obtain ⟨b0,hb0,_,_⟩:=QH (a:=qd.1) (n:=qd.2) hq
   rw [ax] at hb0
   obtain ⟨r0,hr0,_⟩:=aE.mp hb0
   obtain ⟨y0,hy0,T0,rfl,hT0⟩:=Fq P1 (show (rk.map Wg)[qd.1]? = some (Wg r0) by rw [List.getElem?_map,hr0]; rfl)
   refine ⟨_,rfl,_,rfl,x,dx2,fs2,rfl,h12,lm2 _ (by decide +kernel),_,rfl,x,bs,rk,ks,ls,i,qd,rfl,O',hq,fun y hy=>?_⟩
   obtain ⟨T1,rfl,hT1⟩:=hy
   have kk:=k H' (Aq.refl H')
   have ew:(Gv rk).getD ((i:Nat):Int).toNat 0=r0.2.2:=by
    unfold Gv
    rw [ce,bX,ax,hq]
    show ((rk[qd.1]?).map fun r=>r.2.2).getD 0=_
    rw [hr0]
    rfl
   rw [ew] at kk
   exact ⟨T1,_,_,_,rfl,rfl,lc hT1,Af (j:=0) rfl,D,rvs,_,_,rfl,rfl,lc (hs _ _ hl1),Af hy0,T0,_,_,_,rfl,rfl,lc (hs _ _ hT0),Af (j:=2) rfl,kk⟩
  refine q D3 H3 (s1.free hD3) (s1.trans s3) ?_
  rw [hl3,cK.mpr (fun _ _=>rfl)]
  congr 2
  rw [cE]
  refine fN fun i=>?_
  rw [ax,ax]
  by_cases h:i<(Gv rk).length
  ·rw [fS (by omega),ae h]
   show some (V.int ((Gv rk).getD ((0:Int)+(i:Int)).toNat 0))=some (V.int (Gv rk)[i])
   rw [Int.zero_add,ce,bX,ae h]
   rfl
  ·rw [ff (by rw [cS]; omega),ff (by omega)]
   rfl
noncomputable def YS (C:Addr):Sp:=fun vs H Q _=>∃ (x r:Addr) (bs:List (Str × Nat)) (rk:List (Str × Nat × Int)) (ks:List R) (ls:List (List Ln)) (len:Int) (hs:List Ro.T3),vs=[.ref x,.ref r]/\Cr C H x bs rk ks ls/\(Gv rk).length<=1000/\(∀ v∈Gv rk,0<=v/\v<=1000000000)/\Cq H r len hs/\Canon hs/\hs.length<28/\(∀ x t,Cv hs x t->0<=x/\x<(Gv rk).length) /\
 ∀ D T ys H',H D=none->Aq H H'->Tks len hs T->Bh H' D (Lx (Dd (Gv rk) hs) [] T) ys->Q (.ref D) H'
theorem Lq (f:Int->Int):∀ (T:List Int) (d:List Ro.T3),(Lx f d T).length<=d.length+T.length
 | [],d=>by show d.length<=_; omega
 | [_],d=>by show d.length<=_; omega
 | a::b::r,d=>by
  have:=Lq f (b::r) (KH d a b (f a))
  have h2:(KH d a b (f a)).length<=d.length+1:=by
   unfold KH
   split
   ·split
    ·rw [ar,kn]
     show _+1<=_
     omega
    ·rw [ar]; exact ah _
   ·rw [ar]; exact ah _
  show (Lx f (KH d a b (f a)) (b::r)).length<=_
  simp only [List.length_cons] at this ⊢
  omega
theorem Qn (xs:List V):El xs (some 1) none=xs.drop 1:=by
 unfold El
 have e1:HT.Dj xs.length 0 (some 1)=min 1 xs.length:=HT.JC xs.length 0 1
 have e2:HT.Dj xs.length xs.length none=xs.length:=rfl
 rw [e1,e2]
 cases xs with
 | nil=>rfl
 | cons x r =>
  rw [show min 1 (x::r).length=1 by rw [List.length_cons]; omega]
  exact bq (by rw [gE]; omega)
theorem PL {W:List Int} (hW:∀ v∈W,0<=v/\v<=1000000000):∀ l:List Nat,(∀ p∈l,p<W.length)->((∀ n∈l.map (fun p=>W.getD p 0),0<=n)/\(l.map fun p=>W.getD p 0).sum<=1000000000 * l.length)
 | [],_=>⟨fun n hn=>(nomatch hn),by show (0:Int)<=_; omega⟩
 | p::l,h=>by
  obtain ⟨h1,h2⟩:=PL hW l fun q hq=>h q (av _ hq)
  have hp:=h p am
  have hv:0<=W.getD p 0/\W.getD p 0<=1000000000:=by
   rw [bX,ae hp]
   exact hW _ (eR hp)
  constructor
  ·intro n hn
   rcases bi.mp hn with e | e
   ·rw [e]; exact hv.1
   ·exact h1 n e
  ·rw [ee,hZ,dc]
   omega
theorem M3:BJ ["organ","barrel","winds","ticks","draught","first","behind","wind"] ["organ","barrel"] (Ah gP):=CG
include N T in
theorem aj:BP P w K mg base Bp 4 aD.fDg aD.dDg ["organ","barrel"] (YS C):=by
 refine N.FDg.1.ok M3 (fun vs H Q E h=>?_) (fun cdv A outer s H vs Q E hr h=>?_)
 ·obtain ⟨x,r,bs,rk,ks,ls,len,hs,rfl,_⟩:=h
  rfl
 ·obtain ⟨x,r,bs,rk,ks,ls,len,hs,rfl,O,hn,hv,R0,c0,hh,hb,q⟩:=h
  refine ⟨_,(@Ae _ _ _ _ _ (@BL _ _ _ _ _ _ 2 M3.nd rfl (Or.inr rfl) (An (dC N T) (ad hr) rfl N.FWp.2.2 N.FWp.1.kp N.FWp.2.1 .nil A_ (@Ak _ _ _ _ _ rfl (pv 0) Aa)) (by kernel_rfl) (.inl rfl))
   (@Ae _ _ _ _ _ (@BL _ _ _ _ _ _ 3 M3.nd rfl (Or.inl rfl) (BK (HQ rfl) rfl T.sorted eI (@Ak _ _ _ _ _ rfl (Ea (NT rfl) rfl T.set PyProof.Rows.boot_set (@Ak _ _ _ _ _ rfl (BV Hs (@CN _ _ _ _ (@Ak _ _ _ _ _ rfl Ac (@Ak _ _ _ _ _ rfl (@Ar _ _ _ _ _ _ _ (Ao (K:=K) rfl) (pv 1) Ac (fun _ _=>rfl)) Aa))) (An (fY N T) (ad hr) rfl N.FCt.2.2 N.FCt.1.kp N.FCt.2.1 .nil A_ (@Ak _ _ _ _ _ rfl (pv 1) Aa))) Aa)) Aa)) (by kernel_rfl) (.inl rfl))
   (@Ae _ _ _ _ _ (@BL _ _ _ _ _ _ 4 M3.nd rfl (Or.inl rfl) (@CN _ _ _ _ Aa) (by kernel_rfl) (.inl rfl))
   (@Ae _ _ _ _ _ (DR PassesOwn.never rfl (WR rfl T.zip (@Ak _ _ _ _ _ rfl (pv 3) (@Ak _ _ _ _ _ rfl (Gj Iw (pv 3) (Hg Ac) Hl) Aa))) (Gi rfl (Bo (Ba (i:=5) M3.nd rfl (Or.inl rfl)) (Bo (Ba (i:=6) M3.nd rfl (Or.inl rfl)) Em))) (@Ae _ _ _ _ _ (@BL _ _ _ _ _ _ 7 M3.nd rfl (Or.inl rfl) (BK (Q_ rfl) rfl T.sum PyProof.Rows.boot_sum (@Ak _ _ _ _ _ rfl (Bt rfl (BX (osc:=Ah gP) (N:=["organ","barrel","winds","ticks","draught","first","behind","wind"]) rfl rfl (by decide +kernel)) (Bc (An (fD N T) (ad hr) rfl N.FOa.2.2 N.FOa.1.kp N.FOa.2.1 .nil A_ (@Ak _ _ _ _ _ rfl (pv 1) (@Ak _ _ _ _ _ rfl (pv 5) Aa)))) (fun _ _ _ _=>B_) (fun _ _ _ _=>(@Ar _ _ _ _ _ _ _ (Bu (K:=K) rfl) (pv 3) (pv 0) (fun _ _=>rfl)))) Aa)) (by kernel_rfl) (.inl rfl))
   (@Ae _ _ _ _ _ (@Ca _ _ _ _ _ _ _ _ (PW.pt (J7 (JK (pv 4) (fun _=>rfl)) (JF (Be Ej (@Ar _ _ _ _ _ _ _ (Ao (K:=K) rfl) (@Ar _ _ _ _ _ _ _ Bm (pv 4) (Kf Hz Ac) (fun _ _=>rfl)) Ac (fun _ _=>rfl)) (pv 7) (Bf _))))) (@Aj _ _ _ (@BL _ _ _ _ _ _ 5 M3.nd rfl (Or.inl rfl) (@Ar _ _ _ _ _ _ _ (Ao (K:=K) rfl) (O_ bE jI jS O2 (pv 4)) Ac (fun _ _=>rfl)) (by kernel_rfl) (.inl rfl))) Bk)
   (@Aj _ _ _ (DG (Fz bE cr cy Bx (pv 4) (@Ak _ _ _ _ _ rfl (@Ce _ _ _ _ _ (@Ak _ _ _ _ _ rfl (pv 5) (@Ak _ _ _ _ _ rfl (pv 6) (@Ak _ _ _ _ _ rfl (pv 7) Aa)))) Aa)))))))
   (@Aj _ _ _ (@BR _ _ _ _ (pv 4))))))),?_⟩
  obtain ⟨W,eW⟩:∃ W,W=Gv rk:=⟨_,rfl⟩
  rw [← eW] at hn hv hb q
  refine ⟨_,rfl,x,bs,rk,ks,ls,rfl,O,by rw [← eW]; exact hn,fun lw H1 hlw s1 aw=>?_⟩
  rw [← eW] at aw
  obtain ⟨p0,zs0,er,A0⟩:=id R0
  have er1:=s1 _ _ er
  refine ⟨_,rfl,r,_,_,_,rfl,rfl,lc er1,Af (j:=0) rfl,by show 2<=sizeLine; decide,fun l2 hl2=>?_⟩
  have s2:=Aw (o:=HO.lst [V.int 0,V.int len]) hl2
  have a2:upd H1 l2 (HO.lst [V.int 0,V.int len]) l2=some (.lst ([0,len].map V.int)):=Ag
  generalize upd H1 l2 (HO.lst [V.int 0,V.int len])=H2 at s2 a2 ⊢
  have R2:Cq H2 r len hs:=⟨p0,zs0,s2 _ _ er1,(A0.mono s1).mono s2⟩
  refine ⟨_,rfl,r,len,hs,rfl,R2,hh,fun F ms H3 s3 a3 mm nl=>?_⟩
  refine ⟨l2,F,_,_,rfl,rfl,s3 _ _ a2,a3,FQ (by rw [List.length_map,List.length_map]; show 2+_<=_; omega),fun l5 hl5=>?_⟩
  have s5:=Aw (o:=HO.lst ([0,len].map V.int++ms.map V.int)) hl5
  have a5:upd H3 l5 (HO.lst ([0,len].map V.int++ms.map V.int)) l5=some (.lst (([0,len]++ms).map V.int)):=by rw [Ag,dA]
  generalize upd H3 l5 (HO.lst ([0,len].map V.int++ms.map V.int))=H5 at s5 a5 ⊢
  refine ⟨l5,[0,len]++ms,rfl,lc a5,by rw [List.length_append]; show 2+_<=_; omega,fun p6 hp6=>⟨p6,_,rfl,Ag,?_,fun p7 T hp7 pm po=>?_⟩⟩
  ·have:=Wd.En ([0,len]++ms) []
   simp only [List.length_nil,Nat.zero_add,List.length_append,List.length_cons] at this
   omega
  obtain ⟨m1,m2⟩:=JX pm po
  have hml:T.length<410:=by
   have:=Wd.En ([0,len]++ms) []
   simp only [List.length_nil,Nat.zero_add,List.length_append,List.length_cons] at this
   have e:=pm.length_eq
   omega
  have K0:Tks len hs T:=⟨m1,fun t=>by
   rw [m2,bp,mm]
   simp only [List.mem_cons,List.not_mem_nil,or_false]
   exact or_assoc⟩
  generalize e7:upd (upd H5 p6 _) p7 (HO.lst (T.map V.int))=H7
  have s7:Aq H5 H7:=by rw [← e7]; exact (Aw hp6).trans (Aw hp7)
  have a7:H7 p7=some (.lst (T.map V.int)):=by rw [← e7]; exact Ag
  clear e7
  have s27:=s3.trans (s5.trans s7)
  have s07:=s1.trans (s2.trans s27)
  have aw7:=s27 _ _ (s2 _ _ aw)
  have R7:Cq H7 r len hs:=⟨p0,zs0,s07 _ _ er,A0.mono s07⟩
  refine ⟨cm _,fun D hD=>?_⟩
  have s8:=Aw (o:=HO.lst []) hD
  have a8:Bh (upd H7 D (HO.lst [])) D [] []:=⟨Ag,.nil⟩
  have hD0:H D=none:=s07.free hD
  generalize upd H7 D (HO.lst [])=H8 at s8 a8 ⊢
  have aw8:=s8 _ _ aw7
  have a78:=s8 _ _ a7
  have s08:=s07.trans s8
  have T1:El (T.map V.int) (some 1) none=(T.drop 1).map V.int:=by rw [Qn]; rw [List.map_drop]
  refine ⟨_,rfl,_,rfl,_,rfl,p7,_,rfl,lc a78,fun p9 hp9=>?_⟩
  have s9:=Aw (o:=HO.lst (El (T.map V.int) (some 1) none)) hp9
  have a9:upd H8 p9 (HO.lst (El (T.map V.int) (some 1) none)) p9=some (.lst ((T.drop 1).map V.int)):=by rw [Ag,T1]
  generalize upd H8 p9 (HO.lst (El (T.map V.int) (some 1) none))=H9 at s9 a9 ⊢
  have aw9:=s9 _ _ aw8
  have a79:=s9 _ _ a78
  have s09:=s08.trans s9
  have a89:Bh H9 D [] []:=a8.mono s9
  have nD7:D ≠ p7:=fun z=>by rw [z,a7] at hD; cases hD
  have nDw:D ≠ lw:=fun z=>by rw [z,aw7] at hD; cases hD
  have nD9:D ≠ p9:=fun z=>by rw [← z,a8.l] at hp9; cases hp9
  refine ⟨p7,p9,rfl,⟨_,lc a79⟩,⟨_,lc a9⟩,T8 (K:=K) (a:=p7) (b:=p9) (xs:=T.map V.int) (ys:=(T.drop 1).map V.int) (fun i σ H4=>Aq H H4/\H4 p7=some (.lst (T.map V.int))/\H4 p9=some (.lst ((T.drop 1).map V.int))/\H4 lw=some (.lst (W.map V.int))/\∃ (ys:List V) (v5 v6 v7:Option V),σ=[some (.ref x),some (.ref r),some (.ref lw),some (.ref p7),some (.ref D),v5,v6,v7]/\Bh H4 D (Lx (Dd W hs) [] (T.take (i+1))) ys)
   ⟨s09,a79,a9,aw9,[],_,_,_,rfl,by cases T with | nil=>exact a89 | cons t r=>exact a89⟩ (fun i σ H4 _ h=>⟨lc h.2.1,lc h.2.2.1⟩) ?_ ?_⟩
  ·rintro i xx yy σ H4 T0 hxx hyy ⟨s4,b7,b9,bw,ys,v5,v6,v7,rfl,A4⟩ hT0
   rw [ax] at hxx hyy
   obtain ⟨ta,hta,rfl⟩:=aE.mp hxx
   obtain ⟨tb',htb,rfl⟩:=aE.mp hyy
   rw [List.getElem?_drop] at htb
   rw [show 1+i=i+1 by omega] at htb
   have ti:=Aw (o:=HO.tup [.int ta,.int tb']) hT0
   refine ⟨T0,_,rfl,lc Ag,rfl,_,_,rfl,_,_,rfl,rfl,?_⟩
   generalize upd H4 T0 (HO.tup [.int ta,.int tb'])=H10 at ti ⊢
   have s10:=s4.trans ti
   have R10:Cq H10 r len hs:=⟨p0,zs0,s10 _ _ er,A0.mono s10⟩
   refine ⟨_,rfl,_,rfl,r,len,ta,hs,rfl,R10,c0,by omega,fun lo ms1 H11 s11 a11 po1 mo1=>?_⟩
   have hms:∀ z∈ms1,0<=z/\z<W.length:=fun z hz=>hb z ta ((mo1 z).mp hz)
   have nd1:ms1.Nodup:=List.Pairwise.imp (fun {a b} h=>Int.ne_of_lt h) po1
   have bw11:=s11 _ _ (ti _ _ bw)
   have hS11:CZ K H11 lo (ms1.map V.int):=.inl (.inl a11)
   have ml1:ms1.length<=W.length:=by
    have:=Kc W.length (l:=ms1.map Int.toNat) (fo.mpr (ic (fun {a b} ha hb' ne e=>ne (by have:=hms a ha; have:=hms b hb'; omega)) nd1)) (fun y hy=>by
     obtain ⟨z,hz,rfl⟩:=bt.mp hy
     have:=hms z hz
     omega)
    rw [ag] at this
    exact this
   refine ⟨lo,rfl,⟨_,hS11⟩,Dg (K:=K) (xs:=ms1.map V.int) (fun _=>true) (fun v=>match v with | .int z=>.int (W.getD z.toNat 0) | _=>.non) hS11 (Az (by rw [ag]; omega)) (fun y hy H' hs' R k=>k H' (Aq.refl H')) (fun y hy _ H' hs' R k=>?_) (fun D12 H12 hD12 s12 hl12=>?_)⟩
   ·obtain ⟨z,hz,rfl⟩:=bt.mp hy
    obtain ⟨z0,z1⟩:=hms z hz
    have hW:(W.map V.int)[z.toNat]? = some (.int (W.getD z.toNat 0)):=by rw [ax,ae (by omega),bX,ae (by omega)]; rfl
    have:=Af hW
    rw [show ((z.toNat:Nat):Int)=z by omega] at this
    exact ⟨_,rfl,_,rfl,lw,_,_,_,rfl,rfl,lc (hs' _ _ bw11),this,k H' (Aq.refl H')⟩
   have hl12':H12 D12=some (.lst ((ms1.map fun z=>W.getD z.toNat 0).map V.int)):=by
    rw [hl12,cK.mpr (fun _ _=>rfl),cE,cE]
    rfl
   have ews:=ZZ (W:=W) (hs:=hs) (t:=ta) nd1 mo1 hms
   have hle:(∀ n∈ms1.map fun z=>W.getD z.toNat 0,0<=n)/\(ms1.map fun z=>W.getD z.toNat 0).sum<=1000000000 * ms1.length:=by
    have:=PL hv (ms1.map Int.toNat) (fun y hy=>by
     obtain ⟨z,hz,rfl⟩:=bt.mp hy
     have:=hms z hz
     omega)
    rw [cE,ag] at this
    exact this
   refine ⟨D12,ms1.map fun z=>W.getD z.toNat 0,rfl,lc hl12',hle.1,by omega,?_⟩
   rw [ews]
   have s412:=ti.trans (s11.trans s12)
   have s012:=s4.trans s412
   have A12:=A4.mono s412
   have b7':=s412 _ _ b7
   have b9':=s412 _ _ b9
   have bw':=s412 _ _ bw
   clear hl12 hl12' hS11 a11 hD12 s12 s11 ti R10 s10 bw11
   have hTi:T.take (i+1+1)=T.take i++[ta,tb']:=by
    rw [cf,htb,cf,hta]
    show T.take i++[ta]++[tb']=_
    rw [hU]
    rfl
   have hTi1:T.take (i+1)=T.take i++[ta]:=by rw [cf,hta]; rfl
   have edg:Lx (Dd W hs) [] (T.take (i+1+1))=KH (Lx (Dd W hs) [] (T.take (i+1))) ta tb' (Dd W hs ta):=by rw [hTi,Jb,hTi1]
   have dlen:=Lq (Dd W hs) (T.take (i+1)) []
   rw [ci,kz] at dlen
   generalize Lx (Dd W hs) [] (T.take (i+1))=dd at A12 edg dlen
   have yl:=A12.len
   have fin:∀ {H13:Hp} {zi:List V} {ii:List Ro.T3} {fa:Int},Bh H13 D ii zi->Aq H H13->H13 p7=some (.lst (T.map V.int))->H13 p9=some (.lst ((T.drop 1).map V.int))->H13 lw=some (.lst (W.map V.int))->ii.length<=450->Lx (Dd W hs) [] (T.take (i+1+1))=ii++[(fa,tb',Dd W hs ta)] ->
     ∀ {σ':St} {Tn:Addr},H13 Tn=none->Aq H (upd (upd H13 Tn (.tup (Cm (fa,tb',Dd W hs ta)))) D (.lst (zi++[.ref Tn])))/\(upd (upd H13 Tn (.tup (Cm (fa,tb',Dd W hs ta)))) D (.lst (zi++[.ref Tn]))) p7=some (.lst (T.map V.int))/\(upd (upd H13 Tn (.tup (Cm (fa,tb',Dd W hs ta)))) D (.lst (zi++[.ref Tn]))) p9=some (.lst ((T.drop 1).map V.int))/\(upd (upd H13 Tn (.tup (Cm (fa,tb',Dd W hs ta)))) D (.lst (zi++[.ref Tn]))) lw=some (.lst (W.map V.int))/\Bh (upd (upd H13 Tn (.tup (Cm (fa,tb',Dd W hs ta)))) D (.lst (zi++[.ref Tn]))) D (Lx (Dd W hs) [] (T.take (i+1+1))) (zi++[.ref Tn]):=by
    intro H13 zi ii fa A13 s13 c7 c9 cw _ edf σ' Tn hTn
    have t14:=Aw (o:=HO.tup (Cm (fa,tb',Dd W hs ta))) hTn
    have A14:=A13.mono t14
    refine ⟨fun b o e=>?_,?_,?_,?_,?_⟩
    ·rw [Am (Av e hD0)]; exact t14 _ _ (s13 _ _ e)
    ·rw [Am (Ne.symm nD7)]; exact t14 _ _ c7
    ·rw [Am (Ne.symm nD9)]; exact t14 _ _ c9
    ·rw [Am (Ne.symm nDw)]; exact t14 _ _ cw
    ·rw [edf]
     exact A14.snoc Ag
   have app:∀ {H13:Hp} {zi:List V} {ii:List Ro.T3},Bh H13 D ii zi->ii.length<=450->CZ K H13 D zi/\zi.length<sizeLine:=fun A13 hl=>⟨.inl (.inl A13.l),Az (by have:=A13.len; omega)⟩
   rcases ft dd with e0 | ⟨ini,h,e0⟩
   ·subst e0
    have hz0:ys=[]:=gy.mp (by rw [← yl]; rfl)
    subst hz0
    refine ⟨_,rfl,false,.inl ⟨[],lc A12.l,rfl⟩,Dm (Dm ?_)⟩
    refine ⟨_,rfl,.inl ⟨rfl,_,lc A12.l⟩,_,rfl,_,rfl,_,rfl,by show 3<=sizeLine; decide,fun Tn hTn=>?_⟩
    refine ⟨D,_,_,rfl,rfl,(Aw hTn) _ _ A12.l,by show 0<sizeLine; decide,?_⟩
    obtain ⟨f1,f2,f3,f4,f5⟩:=fin A12 s012 b7' b9' bw' (by show 0<=450; decide) (show _=[]++[(ta,tb',Dd W hs ta)] from edg) (σ':=[]) hTn
    exact ⟨f1,f2,f3,f4,_,_,_,_,rfl,f5⟩
   ·rw [gS] at e0
    subst e0
    obtain ⟨zi,zh,ez⟩:∃ zi zh,ys=zi++[zh]:=by
     have hz:ys.length=ini.length+1:=by rw [← yl]; simp
     exact ⟨ys.dropLast,ys.getLast (by intro z; rw [z] at hz; simp at hz),(List.dropLast_concat_getLast _).symm⟩
    subst ez
    have hzi:zi.length=ini.length:=by simp at yl; omega
    obtain ⟨h',Th,hh',_,rfl,hTh⟩:=A12.at (i:=zi.length) (y:=zh) (by simp)
    have eh:h'=h:=by
     rw [hzi] at hh'
     simpa using hh'.symm
    subst eh
    have qL:CZ K H12 D (zi++[V.ref Th]):=.inl (.inl A12.l)
    have qh:Eg K H12 Th (Cm h'):=.inl (.inl hTh)
    have il:ini.length<=420:=by rw [ar,ck] at dlen; omega
    refine ⟨_,rfl,true,.inl ⟨_,qL,by simp⟩,Ey ?_⟩
    refine ⟨_,rfl,_,rfl,D,_,_,_,rfl,rfl,qL,Bw.Gq,Th,_,_,_,rfl,rfl,qh,Af (j:=2) rfl,_,rfl,rfl,_,rfl,?_⟩
    have eds:KH (ini++[h']) ta tb' (Dd W hs ta)=if h'.2.2=Dd W hs ta then ini++[(h'.1,tb',Dd W hs ta)] else (ini++[h'])++[(ta,tb',Dd W hs ta)]:=by
     unfold KH
     rw [ko,fg]
    refine Df (fun g1=>?_) (fun g1=>?_)
    ·have g1':h'.2.2=Dd W hs ta:=V.int.inj (of_decide_eq_true g1)
     rw [eds,if_pos g1'] at edg
     refine ⟨_,rfl,.inl ⟨rfl,_,qL⟩,D,_,V.ref Th,rfl,rfl,A12.l,by simp,?_⟩
     have L5:Bh (upd H12 D (HO.lst (zi++[V.ref Th]).dropLast)) D ini zi:=by
      rw [fg]
      refine ⟨Ag,Bl (ws:=zi) ?_ A12.l⟩
      have tk:=Og.GR A12.p ini.length
      rw [fT rfl,← hzi,fT rfl] at tk
      exact tk
     have hTh5:upd H12 D (HO.lst (zi++[V.ref Th]).dropLast) Th=some (.tup (Cm h')):=by rw [Am (Ei hTh A12.l (fun z=>by cases z))]; exact hTh
     have s5':Aq H (upd H12 D (HO.lst (zi++[V.ref Th]).dropLast)):=fun b o e=>by rw [Am (Av e hD0)]; exact s012 b o e
     have c7:upd H12 D (HO.lst (zi++[V.ref Th]).dropLast) p7=some (.lst (T.map V.int)):=by rw [Am (Ne.symm nD7)]; exact b7'
     have c9:upd H12 D (HO.lst (zi++[V.ref Th]).dropLast) p9=some (.lst ((T.drop 1).map V.int)):=by rw [Am (Ne.symm nD9)]; exact b9'
     have cw:upd H12 D (HO.lst (zi++[V.ref Th]).dropLast) lw=some (.lst (W.map V.int)):=by rw [Am (Ne.symm nDw)]; exact bw'
     generalize upd H12 D (HO.lst (zi++[V.ref Th]).dropLast)=H13 at L5 hTh5 s5' c7 c9 cw ⊢
     refine ⟨Th,_,_,_,rfl,rfl,lc hTh5,Af (j:=0) rfl,?_⟩
     refine ⟨_,rfl,.inl ⟨rfl,_,lc L5.l⟩,_,rfl,_,rfl,_,rfl,by show 3<=sizeLine; decide,fun Tn hTn=>?_⟩
     refine ⟨D,_,_,rfl,rfl,(Aw hTn) _ _ L5.l,(app L5 (by omega)).2,?_⟩
     obtain ⟨f1,f2,f3,f4,f5⟩:=fin L5 s5' c7 c9 cw (by omega) edg (σ':=[]) hTn
     exact ⟨f1,f2,f3,f4,_,_,_,_,rfl,f5⟩
    ·have g1':¬ h'.2.2=Dd W hs ta:=fun z=>g1 (decide_eq_true (by rw [z]))
     rw [eds,if_neg g1'] at edg
     refine ⟨_,rfl,.inl ⟨rfl,_,qL⟩,_,rfl,_,rfl,_,rfl,by show 3<=sizeLine; decide,fun Tn hTn=>?_⟩
     have il2:(ini++[h']).length<=450:=by rw [ar,ck]; omega
     refine ⟨D,_,_,rfl,rfl,(Aw hTn) _ _ A12.l,(app A12 il2).2,?_⟩
     obtain ⟨f1,f2,f3,f4,f5⟩:=fin A12 s012 b7' b9' bw' il2 edg (σ':=[]) hTn
     exact ⟨f1,f2,f3,f4,_,_,_,_,rfl,f5⟩
  ·rintro i σ H4 hst hi ⟨s4,b7,b9,bw,ys,v5,v6,v7,rfl,A4⟩
   have hl:T.length<=i+1:=by
    rw [ag,ag,gE] at hst
    omega
   rw [bq hl] at A4
   exact ⟨_,rfl,q D T ys H4 hD0 s4 K0 A4⟩
theorem jL:BJ ["holes","ticks"] ["holes","ticks"] (Ah gf):=CG
include N T in
theorem Xq:BP P w K mg base Bp 1 aD.fMv aD.dMv ["holes","ticks"] ZK:=by
 refine N.FMv.1.ok jL (fun vs H Q E h=>?_) (fun cdv A outer s H vs Q E hr h=>?_)
 ·obtain ⟨a,ts,ys,k,rfl,_⟩:=h
  rfl
 ·obtain ⟨a,ts,ys,k,rfl,A,hz,q⟩:=h
  refine ⟨_,(@Aj _ _ _ (@BR _ _ _ _ (Bt rfl (BX (osc:=Ah gf) (N:=["holes","ticks"]) rfl rfl (by decide +kernel)) (Bc (pv 0)) (fun _ _ _ _=>B_) (fun _ _ _ _=>(@Ce _ _ _ _ _ (@Ak _ _ _ _ _ rfl (@Ar _ _ _ _ _ _ _ (Ao (K:=K) rfl) (pv 0) Ac (fun _ _=>rfl)) (@Ak _ _ _ _ _ rfl (BV Bv (@Ar _ _ _ _ _ _ _ (Ao (K:=K) rfl) (pv 0) Ac (fun _ _=>rfl)) (pv 2)) (@Ak _ _ _ _ _ rfl (BV Bv (@Ar _ _ _ _ _ _ _ (Ao (K:=K) rfl) (pv 0) Ac (fun _ _=>rfl)) (pv 2)) Aa)))))))),?_⟩
  refine ⟨_,rfl,a,rfl,⟨_,lc A.l⟩,JQ (K:=K) (Xw k) A (Az (by omega)) (fun x hx H' hs R kk=>kk H' (Aq.refl H')) (fun x hx T1 hT1 H' hs R kk=>?_) (fun D H2 zs hD s2 B=>q D zs H2 s2 hD B)⟩
  have qT:Eg K H' T1 (Gm x):=.inl (.inl (hs _ _ hT1))
  exact ⟨_,rfl,T1,_,_,_,rfl,rfl,qT,Af (j:=0) rfl,_,rfl,T1,_,_,_,rfl,rfl,qT,Af (j:=1) rfl,_,rfl,_,_,rfl,rfl,_,rfl,T1,_,_,_,rfl,rfl,qT,Af (j:=2) rfl,_,rfl,_,_,rfl,rfl,by show 3<=sizeLine; decide,fun t ht=>kk t _ (Aw ht) Ag⟩
theorem jq:BJ ["one","other"] ["one","other"] (Ah lJ):=CG
theorem eF (N:V0 K mg C c1 aD) (T:Txt K w.params mg C aN aK aB aP aM) (K1:HH mg base c1 P1):BP P w K mg base Bp 4 aD.fEe aD.dEe ["one","other"] (cA (tb P1)):=by
 have GRf:BP P w K mg base Bp 3 aD.fRf aD.dRf ["length","spans"] (Uz (tb P1)):=Pa N T K1
 refine N.FEe.1.ok jq (fun vs H Q E h=>?_) (fun cdv A outer s H vs Q E hr h=>?_)
 ·obtain ⟨r1,r2,l1,l2,h1,h2,rfl,_⟩:=h
  rfl
 ·obtain ⟨r1,r2,l1,l2,h1,h2,rfl,R1,R2,hn,ps1,ps2,hl,hTb,q⟩:=h
  refine ⟨_,(@Aj _ _ _ (@BR _ _ _ _ (An GRf (ad hr) rfl N.FRf.2.2 N.FRf.1.kp N.FRf.2.1 .nil A_ (@Ak _ _ _ _ _ rfl (BV Bv (@Ar _ _ _ _ _ _ _ (Ao (K:=K) rfl) (pv 0) Ac (fun _ _=>rfl)) (@Ar _ _ _ _ _ _ _ (Ao (K:=K) rfl) (pv 1) Ac (fun _ _=>rfl))) (@Ak _ _ _ _ _ rfl (BV Hs (@Ar _ _ _ _ _ _ _ (Ao (K:=K) rfl) (pv 0) Ac (fun _ _=>rfl)) (An (Xq N T) (ad hr) rfl N.FMv.2.2 N.FMv.1.kp N.FMv.2.1 .nil A_ (@Ak _ _ _ _ _ rfl (@Ar _ _ _ _ _ _ _ (Ao (K:=K) rfl) (pv 1) Ac (fun _ _=>rfl)) (@Ak _ _ _ _ _ rfl (@Ar _ _ _ _ _ _ _ (Ao (K:=K) rfl) (pv 0) Ac (fun _ _=>rfl)) Aa)))) Aa))))),?_⟩
  obtain ⟨p1,z1,e1,A1⟩:=R1
  obtain ⟨p2,z2,e2,A2⟩:=R2
  have n1:=A1.len
  have n2:=A2.len
  have q1:Eg K H r1 [V.int l1,V.ref p1]:=.inl (.inl e1)
  have q2:Eg K H r2 [V.int l2,V.ref p2]:=.inl (.inl e2)
  refine ⟨_,rfl,r1,_,_,_,rfl,rfl,q1,Af (j:=0) rfl,_,rfl,r2,_,_,_,rfl,rfl,q2,Af (j:=0) rfl,_,_,rfl,rfl,_,rfl,r1,_,_,_,rfl,rfl,q1,Af (j:=1) rfl,_,rfl,r2,_,_,_,rfl,rfl,q2,Af (j:=1) rfl,_,rfl,r1,_,_,_,rfl,rfl,q1,Af (j:=0) rfl,p2,h2,z2,l1,rfl,A2,by omega,fun p4 z4 H4 s4 hp4 B4=>?_⟩
  have n4:=B4.len
  rw [ag] at n4
  have A4:=A1.mono s4
  refine ⟨p1,p4,_,_,rfl,rfl,A4.l,B4.l,FQ (by omega),fun p5 hp5=>?_⟩
  have s5:=Aw (o:=HO.lst (z1++z4)) hp5
  have C5:Bh (upd H4 p5 (HO.lst (z1++z4))) p5 (h1++h2.map (Xw l1)) (z1++z4):=⟨Ag,Ax s5 (Eb A4.p B4.p)⟩
  generalize upd H4 p5 (HO.lst (z1++z4))=H5 at s5 C5 ⊢
  have s05:=s4.trans s5
  refine ⟨p5,_,_,l1+l2,rfl,hl,C5,by rw [ar]; omega,fun t ht=>?_,hTb.same s05,fun r hs H6 k6 t6 R6 c6 v6 n6=>?_⟩
  ·rcases bp.mp ht with ht | ht
   ·exact ps1 t ht
   ·obtain ⟨x,xm,rfl⟩:=bt.mp ht
    have:=ps2 x xm
    show x.2.1+l1<x.2.2+l1
    omega
  obtain ⟨p',z',f',e',A'⟩:=R6
  exact q r hs H6 ((Kp.of s05).trans k6) t6 ⟨p',z',s05.free f',e',A'⟩ c6 (fun tr t=>by rw [v6,Cv.app,Qf]) (by rw [ar,ag] at n6; exact n6)
noncomputable def YQ (B:Hq):Sp:=fun vs H Q _=>∃ (r:Addr) (len k:Int) (hs:List Ro.T3),vs=[.ref r,.int k]/\Cq H r len hs/\(∀ t∈hs,t.2.1<t.2.2)/\hs.length<64/\1<=k/\k<=1000/\0<=len/\len * k<=1000000000000/\(∀ t∈hs,0<=t.2.1/\t.2.2<=1000000000000)/\Tb B H /\
 ∀ (r':Addr) (hs':List Ro.T3) (H':Hp),Kp B H H'->Tb B H'->Xm H H' r' (len * k) hs'->Canon hs'->(∀ tr t,Cv hs' tr t ↔ Cv (hs.map (Zz k)) tr t)->hs'.length<=hs.length->Q (.ref r') H'
theorem jx:BJ ["roll","times"] ["roll","times"] (Ah gU):=CG
theorem Z9 (N:V0 K mg C c1 aD) (T:Txt K w.params mg C aN aK aB aP aM) (K1:HH mg base c1 P1):BP P w K mg base Bp 4 aD.fSl aD.dSl ["roll","times"] (YQ (tb P1)):=by
 have GRf:BP P w K mg base Bp 3 aD.fRf aD.dRf ["length","spans"] (Uz (tb P1)):=Pa N T K1
 refine N.FSl.1.ok jx (fun vs H Q E h=>?_) (fun cdv A outer s H vs Q E hr h=>?_)
 ·obtain ⟨r,len,k,hs,rfl,_⟩:=h
  rfl
 ·obtain ⟨r,len,k,hs,rfl,R,ps,hn,k1,k2,l0,lk,hb,hTb,q⟩:=h
  obtain ⟨tMOST_TIMES,hMOST_TIMES⟩:=T.cMOST_TIMES
  refine ⟨_,(@Ae _ _ _ _ _ (@Ca _ _ _ _ _ _ _ _ (PW.pt (Ge (Dk (Et (An (K4 N T) (ad hr) rfl N.FWh.2.2 N.FWh.1.kp N.FWh.2.1 .nil A_ (@Ak _ _ _ _ _ rfl (pv 1) Aa)))) (Gg (Dk (J6 Dc Dc Ac (pv 1) (CW (v:=.int 1000) rfl hMOST_TIMES ⟨tMOST_TIMES,rfl⟩)))))) (@Aj _ _ _ Dq) Bk)
   (@Aj _ _ _ (@BR _ _ _ _ (An GRf (ad hr) rfl N.FRf.2.2 N.FRf.1.kp N.FRf.2.1 .nil A_ (@Ak _ _ _ _ _ rfl (BV DW (@Ar _ _ _ _ _ _ _ (Ao (K:=K) rfl) (pv 0) Ac (fun _ _=>rfl)) (pv 1)) (@Ak _ _ _ _ _ rfl (Bt rfl (BX (osc:=Ah gU) (N:=["roll","times"]) rfl rfl (by decide +kernel)) (Bc (@Ar _ _ _ _ _ _ _ (Ao (K:=K) rfl) (pv 0) Ac (fun _ _=>rfl))) (fun _ _ _ _=>B_) (fun _ _ _ _=>(@Ce _ _ _ _ _ (@Ak _ _ _ _ _ rfl (@Ar _ _ _ _ _ _ _ (Ao (K:=K) rfl) (pv 0) Ac (fun _ _=>rfl)) (@Ak _ _ _ _ _ rfl (BV DW (@Ar _ _ _ _ _ _ _ (Ao (K:=K) rfl) (pv 0) Ac (fun _ _=>rfl)) (pv 2)) (@Ak _ _ _ _ _ rfl (BV DW (@Ar _ _ _ _ _ _ _ (Ao (K:=K) rfl) (pv 0) Ac (fun _ _=>rfl)) (pv 2)) Aa)))))) Aa)))))),?_⟩
  obtain ⟨p,zs,e1,A1⟩:=R
  have n1:=A1.len
  have qr:Eg K H r [V.int len,V.ref p]:=.inl (.inl e1)
  refine ⟨_,rfl,k,rfl,_,rfl,Dm ?_⟩
  refine ⟨_,rfl,_,_,rfl,rfl,_,rfl,PJ k1 ?_⟩
  refine ⟨_,_,rfl,rfl,_,rfl,?_⟩
  rw [show decide (k<=1000)=true from decide_eq_true k2]
  refine Dm ?_
  refine ⟨_,rfl,r,_,_,_,rfl,rfl,qr,Af (j:=0) rfl,_,rfl,_,_,rfl,rfl,.inr ⟨by omega,by omega⟩,_,rfl,r,_,_,_,rfl,rfl,qr,Af (j:=1) rfl,p,rfl,⟨_,lc A1.l⟩,JQ (K:=K) (Zz k) A1 (Az (by omega)) (fun x hx H' hs R kk=>kk H' (Aq.refl H')) (fun x hx T1 hT1 H' hs R kk=>?_) (fun D H2 z2 hD s2 B=>?_)⟩
  ·have qT:Eg K H' T1 (Gm x):=.inl (.inl (hs _ _ hT1))
   exact ⟨_,rfl,T1,_,_,_,rfl,rfl,qT,Af (j:=0) rfl,_,rfl,T1,_,_,_,rfl,rfl,qT,Af (j:=1) rfl,_,rfl,_,_,rfl,rfl,.inr ⟨by omega,by omega⟩,_,rfl,T1,_,_,_,rfl,rfl,qT,Af (j:=2) rfl,_,rfl,_,_,rfl,rfl,.inr ⟨by omega,by omega⟩,by show 3<=sizeLine; decide,fun t ht=>kk t _ (Aw ht) Ag⟩
  have bl:=B.len
  rw [ag] at bl
  refine ⟨D,_,z2,len * k,rfl,lk,B,by omega,fun t ht=>?_,hTb.same s2,fun r' hs' H3 k3 t3 R3 c3 v3 n3=>?_⟩
  ·obtain ⟨x,xm,rfl⟩:=bt.mp ht
   exact Int.mul_lt_mul_of_pos_right (ps x xm) (by omega)
  obtain ⟨p',z',f',e',A'⟩:=R3
  exact q r' hs' H3 ((Kp.of s2).trans k3) t3 ⟨p',z',s2.free f',e',A'⟩ c3 v3 (by rw [ag] at n3; exact n3)
noncomputable def Xx (B:Hq):Sp:=fun vs H Q _=>∃ (r:Addr) (len f b:Int) (hs:List Ro.T3),vs=[.ref r,.int f,.int b]/\Cq H r len hs/\hs.length<64/\len<=1000000000000/\0<=f/\f<=b/\b<=len/\Tb B H /\
 ∀ (r':Addr) (hs':List Ro.T3) (H':Hp),Kp B H H'->Tb B H'->Xm H H' r' (b - f) hs'->Canon hs'->(∀ tr t,Cv hs' tr t ↔ WN hs f b tr t)->hs'.length<=hs.length->Q (.ref r') H'
theorem bz:BJ ["roll","first","behind","cut"] ["roll","first","behind"] (Ah eE):=CG
theorem eU (N:V0 K mg C c1 aD) (T:Txt K w.params mg C aN aK aB aP aM) (K1:HH mg base c1 P1):BP P w K mg base Bp 4 aD.fRp aD.dRp ["roll","first","behind"] (Xx (tb P1)):=by
 have GRf:BP P w K mg base Bp 3 aD.fRf aD.dRf ["length","spans"] (Uz (tb P1)):=Pa N T K1
 refine N.FRp.1.ok bz (fun vs H Q E h=>?_) (fun cdv A outer s H vs Q E hr h=>?_)
 ·obtain ⟨r,len,f,b,hs,rfl,_⟩:=h
  rfl
 ·obtain ⟨r,len,f,b,hs,rfl,R,hn,l1,f0,fb,bl,hTb,q⟩:=h
  refine ⟨_,(@Ae _ _ _ _ _ (@Ca _ _ _ _ _ _ _ _ (PW.pt (Ge (Dk (Et (An (K4 N T) (ad hr) rfl N.FWh.2.2 N.FWh.1.kp N.FWh.2.1 .nil A_ (@Ak _ _ _ _ _ rfl (pv 1) Aa)))) (Ge (Dk (Et (An (K4 N T) (ad hr) rfl N.FWh.2.2 N.FWh.1.kp N.FWh.2.1 .nil A_ (@Ak _ _ _ _ _ rfl (pv 2) Aa)))) (Gg (Dk (Q4 Dc Dc Dc Ac (pv 1) (pv 2) (@Ar _ _ _ _ _ _ _ (Ao (K:=K) rfl) (pv 0) Ac (fun _ _=>rfl)))))))) (@Aj _ _ _ Dq) Bk)
   (@Ae _ _ _ _ _ (Qo (i:=3) bz.nd rfl rfl rfl (BX (osc:=Ah eE) (N:=["roll","first","behind","cut"]) rfl rfl (by decide +kernel)) (Bc (@Ar _ _ _ _ _ _ _ (Ao (K:=K) rfl) (pv 0) Ac (fun _ _=>rfl))) (fun _ _ _ _=>B_) (fun _ _ _ _=>(@Ce _ _ _ _ _ (@Ak _ _ _ _ _ rfl (@Ar _ _ _ _ _ _ _ (Ao (K:=K) rfl) (pv 0) Ac (fun _ _=>rfl)) (@Ak _ _ _ _ _ rfl (BK (FW rfl) rfl T.max ge (@Ak _ _ _ _ _ rfl (@Ar _ _ _ _ _ _ _ (Ao (K:=K) rfl) (pv 0) Ac (fun _ _=>rfl)) (@Ak _ _ _ _ _ rfl (pv 2) Aa))) (@Ak _ _ _ _ _ rfl (BK (Gr rfl) rfl T.min gT (@Ak _ _ _ _ _ rfl (@Ar _ _ _ _ _ _ _ (Ao (K:=K) rfl) (pv 0) Ac (fun _ _=>rfl)) (@Ak _ _ _ _ _ rfl (pv 3) Aa))) Aa))))))
   (@Aj _ _ _ (@BR _ _ _ _ (An GRf (ad hr) rfl N.FRf.2.2 N.FRf.1.kp N.FRf.2.1 .nil A_ (@Ak _ _ _ _ _ rfl (BV Fx (pv 2) (pv 1)) (@Ak _ _ _ _ _ rfl (An (Xq N T) (ad hr) rfl N.FMv.2.2 N.FMv.1.kp N.FMv.2.1 .nil A_ (@Ak _ _ _ _ _ rfl (Bt rfl (BX (osc:=Ah eE) (N:=["roll","first","behind","cut"]) rfl rfl (by decide +kernel)) (Bc (pv 3)) (fun _ _ _ _=>(Lw (Be Ii (@Ar _ _ _ _ _ _ _ (Ao (K:=K) rfl) (pv 0) Ac (fun _ _=>rfl)) (@Ar _ _ _ _ _ _ _ (Ao (K:=K) rfl) (pv 0) Ac (fun _ _=>rfl)) (Bf _)))) (fun _ _ _ _=>(pv 0))) (@Ak _ _ _ _ _ rfl (Kf Hz (pv 1)) Aa))) Aa))))))),?_⟩
  obtain ⟨p,zs,e1,A1⟩:=R
  have n1:=A1.len
  have qr:Eg K H r [V.int len,V.ref p]:=.inl (.inl e1)
  refine ⟨_,rfl,f,rfl,_,rfl,Dm ?_⟩
  refine ⟨_,rfl,b,rfl,_,rfl,Dm ?_⟩
  refine ⟨_,rfl,_,_,rfl,rfl,_,rfl,PJ f0 ?_⟩
  refine ⟨_,rfl,_,_,rfl,rfl,_,rfl,PJ fb ?_⟩
  refine ⟨_,rfl,r,_,_,_,rfl,rfl,qr,Af (j:=0) rfl,_,_,rfl,rfl,_,rfl,Qc bl ?_⟩
  refine ⟨_,rfl,r,_,_,_,rfl,rfl,qr,Af (j:=1) rfl,p,rfl,⟨_,lc A1.l⟩,JQ (K:=K) (K6 f b) A1 (Az (by omega)) (fun x hx H' hs R kk=>kk H' (Aq.refl H')) (fun x hx T1 hT1 H' hs R kk=>?_) (fun D H2 zs2 hD s2 B2=>?_)⟩
  ·have qT:Eg K H' T1 (Gm x):=.inl (.inl (hs _ _ hT1))
   have em1:(if f > x.2.1 then f else x.2.1)=max x.2.1 f:=by split <;> omega
   have em2:(if b<x.2.2 then b else x.2.2)=min x.2.2 b:=by split <;> omega
   refine ⟨_,rfl,T1,_,_,_,rfl,rfl,qT,Af (j:=0) rfl,_,rfl,T1,_,_,_,rfl,rfl,qT,Af (j:=1) rfl,_,rfl,_,_,rfl,_,rfl,T1,_,_,_,rfl,rfl,qT,Af (j:=2) rfl,_,rfl,_,_,rfl,by show 3<=sizeLine; decide,fun t ht=>kk t _ (Aw ht) ?_⟩
   rw [Ag,em1,em2]
   rfl
  have lb:=B2.len
  rw [ag] at lb
  refine ⟨_,rfl,_,rfl,_,_,rfl,rfl,_,rfl,D,rfl,⟨_,lc B2.l⟩,Rz (K:=K) ne3 B2 (Az (by omega)) (fun x hx T1 hT1 H' hs R kk=>?_) (fun T1 H' hs R kk=>⟨_,rfl,kk H' (Aq.refl H')⟩) (fun D3 H3 zs3 hD3 s3 B3=>?_)⟩
  ·have qT:Eg K H' T1 (Gm x):=.inl (.inl (hs _ _ hT1))
   exact ⟨_,rfl,T1,_,_,_,rfl,rfl,qT,Af (j:=1) rfl,_,rfl,T1,_,_,_,rfl,rfl,qT,Af (j:=2) rfl,_,_,rfl,rfl,_,rfl,kk H' (Aq.refl H')⟩
  have lb3:=B3.len
  have lf3:((hs.map (K6 f b)).filter ne3).length<=hs.length:=br (dS ..) (by rw [ag]; exact ah _)
  refine ⟨_,rfl,_,rfl,D3,_,zs3,-f,rfl,B3,by omega,fun p4 z4 H4 s4 hp4 B4=>?_⟩
  have lb4:=B4.len
  rw [ag] at lb4
  have s04:=s2.trans (s3.trans s4)
  refine ⟨p4,_,z4,b - f,rfl,by omega,B4,by omega,VD,hTb.same s04,fun r' hs' H5 k5 t5 R5 c5 v5 n5=>?_⟩
  obtain ⟨p',z',f',e',A'⟩:=R5
  exact q r' hs' H5 ((Kp.of s04).trans k5) t5 ⟨p',z',s04.free f',e',A'⟩ c5 (fun tr t=>(v5 tr t).trans Vr) (br n5 Ut)
noncomputable def mD (d:Bw.Dr):Prop:=∀ x∈d,0<=x.2.2/\x.2.2<2 ^ 41/\x.2.1 - x.1<2 ^ 60
noncomputable def X5:Sp:=fun vs H Q _=>∃ (a:Addr) (d:Bw.Dr) (ys:List V) (P:Int),vs=[.ref a,.int P]/\H_ H a d ys/\Bw.Chain 0 d/\mD d/\d.length<=1000 /\
 ∀ p b0 b1 b2 taken since H',Aq H H'->H' p=some (.tup [.int b0,.int b1,.int b2])->Qu (tk P d) b0 b1 b2 taken since->Q (.ref p) H'
theorem Jj:BJ ["draught","pump","best","taken","since","first","behind","wind"] ["draught","pump"] (Ah jk):=CG
include N T in
theorem cN:BP P w K mg base Bp 1 aD.fLc aD.dLc ["draught","pump"] X5:=by
 refine N.FLc.1.ok Jj (fun vs H Q E h=>?_) (fun cdv A outer s H vs Q E hr h=>?_)
 ·obtain ⟨a,d,ys,P,rfl,_⟩:=h
  rfl
 ·obtain ⟨a,d,ys,P,rfl,A,c,bd,hz,q⟩:=h
  refine ⟨_,(@Ae _ _ _ _ _ (@BL _ _ _ _ _ _ 2 Jj.nd rfl (Or.inl rfl) (@Ce _ _ _ _ _ (@Ak _ _ _ _ _ rfl Ac (@Ak _ _ _ _ _ rfl Ac (@Ak _ _ _ _ _ rfl Ac Aa)))) (by kernel_rfl) (.inl rfl))
   (@Ae _ _ _ _ _ (@BL _ _ _ _ _ _ 3 Jj.nd rfl (Or.inl rfl) Ac (by kernel_rfl) (.inl rfl))
   (@Ae _ _ _ _ _ (@BL _ _ _ _ _ _ 4 Jj.nd rfl (Or.inl rfl) Ac (by kernel_rfl) (.inl rfl))
   (@Ae _ _ _ _ _ (DR PassesOwn.never rfl (Bc (pv 0)) (Gi rfl (Bo (Ba (i:=5) Jj.nd rfl (Or.inl rfl)) (Bo (Ba (i:=6) Jj.nd rfl (Or.inl rfl)) (Bo (Ba (i:=7) Jj.nd rfl (Or.inl rfl)) Em)))) (@Ae _ _ _ _ _ (@Ca _ _ _ _ _ _ _ _ (Be Dc (pv 3) Ac (Bf _)) (@Ae _ _ _ _ _ (@BL _ _ _ _ _ _ 3 Jj.nd rfl (Or.inl rfl) Ac (by kernel_rfl) (.inl rfl))
   (@Aj _ _ _ (@BL _ _ _ _ _ _ 4 Jj.nd rfl (Or.inl rfl) (pv 5) (by kernel_rfl) (.inl rfl)))) Bk)
   (@Ae _ _ _ _ _ (@BL _ _ _ _ _ _ 3 Jj.nd rfl (Or.inl rfl) (BV Bv (pv 3) (BV DW (BV Fx (pv 6) (pv 5)) (BV Fx (pv 7) (pv 1)))) (by kernel_rfl) (.inl rfl))
   (@Aj _ _ _ (@Ca _ _ _ _ _ _ _ _ (Be T7 (pv 3) (@Ar _ _ _ _ _ _ _ (Ao (K:=K) rfl) (pv 2) Ac (fun _ _=>rfl)) (Bf _)) (@Aj _ _ _ (@BL _ _ _ _ _ _ 2 Jj.nd rfl (Or.inl rfl) (@Ce _ _ _ _ _ (@Ak _ _ _ _ _ rfl (pv 3) (@Ak _ _ _ _ _ rfl (pv 4) (@Ak _ _ _ _ _ rfl (pv 6) Aa)))) (by kernel_rfl) (.inl rfl))) Bk)))))
   (@Aj _ _ _ (@BR _ _ _ _ (pv 2))))))),?_⟩
  refine ⟨by show 3<=sizeLine; decide,fun pb hpb=>?_⟩
  obtain ⟨H1,eqH,s1,l1⟩:=HD (o:=HO.tup [V.int 0,V.int 0,V.int 0]) hpb
  rw [eqH]
  refine ⟨_,rfl,a,rfl,⟨_,.inl (.inl (A.mono s1).l)⟩,Er (K:=K) (a:=a) (xs:=ys) (fun i σ H4=>∃ (pb:Addr) (b0 b1 b2 tkn sin:Int) (v5 v6 v7:Option V),σ=[some (.ref a),some (.int P),some (.ref pb),some (.int tkn),some (.int sin),v5,v6,v7]/\Aq H H4/\H4 pb=some (.tup [.int b0,.int b1,.int b2])/\Qu (tk P (d.take i)) b0 b1 b2 tkn sin) ⟨pb,0,0,0,0,0,_,_,_,rfl,s1,l1,Qu.start⟩ (fun i σ H4 _ h=>by obtain ⟨_,_,_,_,_,_,_,_,_,_,s,_⟩:=h; exact .inl (.inl (A.mono s).l)) ?_ ?_⟩
  ·rintro i y σ H4 hi ⟨pb,b0,b1,b2,tkn,sin,v5,v6,v7,rfl,s4,hpb,L⟩
   obtain ⟨x,T0,hx,hxd,rfl,hT⟩:=(A.mono s4).at hi
   obtain ⟨e1,e2⟩:=J1 hx
   obtain ⟨g1,g2⟩:=c.at P e1
   have bx:=bd x hxd
   have hc:((cnt x:Nat):Int)=x.2.1 - x.1:=by unfold cnt; omega
   refine ⟨T0,_,rfl,lc hT,rfl,_,_,rfl,_,_,rfl,_,_,rfl,rfl,?_⟩
   have hb:((tk P (d.take i)).length:Int)+((cnt x:Nat):Int)=x.2.1:=by omega
   refine ⟨_,rfl,_,_,rfl,rfl,_,rfl,?_⟩
   refine Df (fun h1=>?Bq) (fun h1=>?els)
   case' Bq =>
    have h1':tkn<=0:=of_decide_eq_true h1
    have st:=L.step (c:=cnt x) (by omega) (x:=x.2.2 - P) (t0:=0) (s0:=x.1) (t1:=0+(x.2.1 - x.1) * (x.2.2 - P)) (by rw [if_pos h1']) (by rw [if_pos h1']; omega) (by rw [hc])
    refine ⟨_,rfl,?_⟩
   case' els =>
    have h1':¬ tkn<=0:=fun z=>h1 (decide_eq_true z)
    have st:=L.step (c:=cnt x) (by omega) (x:=x.2.2 - P) (t0:=tkn) (s0:=sin) (t1:=tkn+(x.2.1 - x.1) * (x.2.2 - P)) (by rw [if_neg h1']) (by rw [if_neg h1']) (by rw [hc])
   all_goals
    rw [hb,← We,← e2] at st
    refine ⟨_,rfl,_,rfl,_,rfl,_,_,rfl,rfl,_,rfl,_,rfl,_,_,rfl,rfl,_,_,rfl,rfl,.inl ⟨by omega,by omega⟩,_,_,rfl,rfl,?_⟩
    refine ⟨_,rfl,_,rfl,pb,_,_,_,rfl,rfl,lc hpb,Af (j:=0) rfl,_,_,rfl,rfl,_,rfl,?_⟩
    refine Df (fun h2=>?_) (fun h2=>?_)
    ·refine ⟨_,rfl,_,rfl,_,rfl,by show 3<=sizeLine; decide,fun p hp=>?_⟩
     exact ⟨p,_,_,_,_,_,_,_,_,rfl,s4.trans (Aw hp),Ag,st.1 (of_decide_eq_true h2)⟩
    ·exact ⟨pb,_,_,_,_,_,_,_,_,rfl,s4,hpb,st.2 fun z=>h2 (decide_eq_true z)⟩
  ·rintro σ H4 ⟨pb,b0,b1,b2,tkn,sin,v5,v6,v7,rfl,s4,hpb,L⟩
   rw [bq (by rw [A.len]; exact ah _)] at L
   exact ⟨_,rfl,q pb b0 b1 b2 tkn sin H4 s4 hpb L⟩
noncomputable def Do (H H':Hp) (dh pc:Addr):Prop:=∀ b o,b ≠ dh->b ≠ pc->H b=some o->H' b=some o
theorem Do.of2 {H H':Hp} {dh pc:Addr} (f:KD H H' dh pc):Do H H' dh pc:=fun b o h1 h2 e=>by rw [f b h1 h2]; exact e
theorem Do.same {H H':Hp} {dh pc:Addr} (s:Aq H H'):Do H H' dh pc:=fun b o _ _ e=>s b o e
theorem Do.trans {H H1 H2:Hp} {dh pc:Addr} (f:Do H H1 dh pc) (g:Do H1 H2 dh pc):Do H H2 dh pc:=fun b o h1 h2 e=>g b o h1 h2 (f b o h1 h2 e)
theorem Ld {H H':Hp} {dh pc l:Addr} {n:Nat} {vs:List V} (D:DH H dh pc n) (f:Do H H' dh pc) (hl:H l=some (.lst vs)) (hr:∀ v∈vs,∃ T,v=.ref T):H' l=some (.lst vs):=by
 obtain ⟨cs,m,r,e1,e2,ne,_,_,_,_,_,h1,_⟩:=D
 refine f _ _ (fun e=>?_) (fun e=>?_) hl
 ·rw [e,e1] at hl
  cases hl
  obtain ⟨T,hT⟩:=hr (.int m) (by simp)
  cases hT
 ·rw [e,e2] at hl
  cases hl
  cases cs with
  | nil=>exact absurd h1 (by simp)
  | cons a l =>
   obtain ⟨T,hT⟩:=hr (.int a) (by simp)
   cases hT
theorem FN {H H':Hp} {dh pc l:Addr} {n:Nat} {o:HO} (D:DH H dh pc n) (f:Do H H' dh pc) (hl:H l=some o) (hn:∀ z,o ≠ .lst z):H' l=some o:=by
 obtain ⟨cs,m,r,e1,e2,_⟩:=D
 exact f _ _ (fun e=>by rw [e,e1] at hl; cases hl; exact hn _ rfl) (fun e=>by rw [e,e2] at hl; cases hl; exact hn _ rfl) hl
theorem Za {H H':Hp} {dh pc:Addr} {n:Nat} {zs:List V} {y:V} (D:DH H dh pc n) (f:Do H H' dh pc) (h:TupAt H zs y):TupAt H' zs y:=by
 obtain ⟨T,rfl,hT⟩:=h
 exact ⟨T,rfl,FN D f hT (by simp)⟩
theorem Gh {α:Type} {F:α->List V} {H H':Hp} {dh pc l:Addr} {n:Nat} {xs:List α} {vs:List V} (D:DH H dh pc n) (f:Do H H' dh pc) (hl:H l=some (.lst vs)) (h:Paired (fun a y=>TupAt H (F a) y) xs vs):H' l=some (.lst vs)/\Paired (fun a y=>TupAt H' (F a) y) xs vs :=
 ⟨Ld D f hl (fun v hv=>by obtain ⟨a,_,T,e,_⟩:=Ec h hv; exact ⟨T,e⟩),Paired.FJ h fun _ _ z=>Za D f z⟩
theorem Sd {C:Addr} {H H':Hp} {dh pc x:Addr} {n:Nat} {bs:List (Str × Nat)} {rk:List (Str × Nat × Int)} {ks:List R} {ls:List (List Ln)} (D:DH H dh pc n) (f:Do H H' dh pc) (O:Cr C H x bs rk ks ls):Cr C H' x bs rk ks ls:=by
 obtain ⟨⟨⟨dx,fs,bl,bn,kp,kr,bvs,pvs,uvs,kvs,h1,l1,l2,l3,l4,lm,h2,h3,h4,h5,h6,h7,h8,h9⟩,a1,a2,a3⟩,⟨dx',fs',rl,rn,pp,kl,rvs,pvs',kvs',g1,m1,m2,m3,m4,g2,g3,g4,g5,g6,g7,lv,g8,g9⟩,b1,b2,b3⟩:=O
 obtain ⟨p1,p2⟩:=Gh D f h2 h3
 obtain ⟨p3,p4⟩:=Gh D f h6 h7
 obtain ⟨p5,p6⟩:=Gh D f h8 h9
 obtain ⟨q1,q2⟩:=Gh D f g2 g3
 obtain ⟨q3,q4⟩:=Gh D f g6 g7
 refine ⟨⟨⟨dx,fs,bl,bn,kp,kr,bvs,pvs,uvs,kvs,FN D f h1 (by simp),l1,l2,l3,l4,lm,p1,p2,FN D f h4 (by simp),h5,p3,p4,p5,p6⟩,a1,a2,a3⟩,⟨dx',fs',rl,rn,pp,kl,rvs,pvs',kvs',FN D f g1 (by simp),m1,m2,m3,m4,q1,q2,FN D f g4 (by simp),g5,q3,q4,lv,?_,?_⟩,b1,b2,b3⟩
 ·refine Ld D f g8 fun v hv=>?_
  obtain ⟨a,_,A,ts,e,_⟩:=Ec g9 hv
  exact ⟨A,e⟩
 ·refine Paired.FJ g9 fun l v h=>?_
  obtain ⟨A,ts,e,k1,k2⟩:=h
  obtain ⟨r1,r2⟩:=Gh D f k1 k2
  exact ⟨A,ts,e,r1,r2⟩
theorem Do.rl {H H':Hp} {dh pc l:Addr} {k:Nat} {d:List Ro.T3} {ys:List V} (f:Do H H' dh pc) (D:DH H dh pc k) (A:Bh H l d ys):Bh H' l d ys:=by
 obtain ⟨a,b⟩:=Gh (F:=fun x=>Cm x) D f A.l A.p
 exact ⟨a,b⟩
theorem jM {c:Int}:0<=(if c<0 then -c else c):=by split <;> omega
noncomputable def Mj:Sp:=fun vs H Q _=>∃ (dh pc:Addr) (n:Nat) (many:Int),vs=[.ref dh,.int many]/\DH H dh pc n/\n<1000000/\0<many/\many<2 ^ 200/\∀ (r:Int) H',0<=r->r<many->DH H' dh pc (n+1)->KD H H' dh pc->Q (.int r) H'
theorem Rt:BJ ["_law_script","_law_start","_law_cells","_law_number","_law_k","_law_mixed"] ["_law_script","_law_start"] (Ah gG):=CG
include N T in
theorem cW:BP P w K mg base Bp 1 aD.fDn aD.dDn ["_law_script","_law_start"] (aJ K):=by
 refine N.FDn.1.ok Rt (fun vs H Q E h=>?_) (fun cdv A outer s H vs Q E hr h=>?_)
 ·obtain ⟨a,st,ns,rfl,_⟩:=h
  rfl
 ·obtain ⟨a,st,ns,rfl,hS,h0,h1,hz,q⟩:=h
  refine ⟨_,(@Ae _ _ _ _ _ (@BL _ _ _ _ _ _ 2 Rt.nd rfl (Or.inl rfl) (BV Hs (Bt rfl (BX (osc:=Ah gG) (N:=["_law_script","_law_start","_law_cells","_law_number","_law_k","_law_mixed"]) rfl rfl (by decide +kernel)) (Bc (Gj Iw (pv 0) Hl (Hg Ac))) (fun _ _ _ _=>B_) (fun _ _ _ _=>(BK VB rfl T.abs PyProof.Rows.boot_abs (@Ak _ _ _ _ _ rfl (pv 0) Aa)))) (@CN _ _ _ _ (@Ak _ _ _ _ _ rfl Ac Aa))) (by kernel_rfl) (.inl rfl))
   (@Ae _ _ _ _ _ (@BL _ _ _ _ _ _ 3 Rt.nd rfl (Or.inl rfl) (pv 1) (by kernel_rfl) (.inl rfl))
   (@Ae _ _ _ _ _ (DR PassesOwn.never rfl (Ep rfl T.range (@Ak _ _ _ _ _ rfl (BK Bj rfl T.len dQ (@Ak _ _ _ _ _ rfl (pv 2) Aa)) Aa)) (Ba (i:=4) Rt.nd rfl (Or.inl rfl)) (@Aj _ _ _ (@BL _ _ _ _ _ _ 3 Rt.nd rfl (Or.inl rfl) (BV GP (BV Bv (BV Bv (BV DW (pv 3) Ac) (BV DW (BV GP (@Ar _ _ _ _ _ _ _ Bm (pv 2) (pv 4) (fun _ _=>rfl)) Ac) (BV Bv (BV DW (pv 4) (pv 4)) Ac))) Ac) Ac) (by kernel_rfl) (.inl rfl))))
   (@Ae _ _ _ _ _ (@BL _ _ _ _ _ _ 5 Rt.nd rfl (Or.inl rfl) (BV DW (BV GP (@Ar _ _ _ _ _ _ _ Bm (pv 2) Ac (fun _ _=>rfl)) Ac) (BK Bj rfl T.len dQ (@Ak _ _ _ _ _ rfl (pv 2) Aa))) (by kernel_rfl) (.inl rfl))
   (@Ae _ _ _ _ _ (IK (BV Pb (@Ar _ _ _ _ _ _ _ Bm (pv 2) Ac (fun _ _=>rfl)) Ac) (J0 (pv 2) Ac set_list))
   (@Aj _ _ _ (@BR _ _ _ _ (@CN _ _ _ _ (@Ak _ _ _ _ _ rfl (pv 2) (@Ak _ _ _ _ _ rfl (pv 5) (@Ak _ _ _ _ _ rfl (pv 3) (@Ak _ _ _ _ _ rfl Ac Aa)))))))))))),?_⟩
  refine ⟨_,rfl,_,rfl,a,_,rfl,hS,fun p1 hp1=>?_⟩
  obtain ⟨ms,em,hm⟩:=S6 ns none (some 63)
  rw [em]
  have s1:=Aw (o:=HO.lst (ms.map V.int)) hp1
  have l1:CZ K (upd H p1 (HO.lst (ms.map V.int))) p1 (ms.map V.int):=.inl (.inl Ag)
  generalize upd H p1 (HO.lst (ms.map V.int))=H1 at s1 l1 ⊢
  refine ⟨p1,rfl,⟨_,l1⟩,Dg (K:=K) (xs:=ms.map V.int) (fun _=>true) (fun v=>match v with | .int i=>.int (if i<0 then -i else i) | x=>x) l1 (Az (by simp; omega)) (fun x hx H' hs R k=>k H' (Aq.refl H')) (fun x hx _ H' hs R k=>?_) (fun D H2 hD hs hl=>?_)⟩
  ·obtain ⟨i,_,rfl⟩:=bt.mp hx
   exact ⟨_,rfl,i,rfl,k H' (Aq.refl H')⟩
  rw [cK.mpr (fun _ _=>rfl),cE] at hl
  have hl':H2 D=some (.lst ((ms.map fun i=>if i<0 then -i else i).map V.int)):=by rw [hl,cE]; rfl
  clear hl
  have hnn:∀ c∈ms.map (fun i:Int=>if i<0 then -i else i),(0:Int)<=c:=fun c hc=>by
   obtain ⟨i,_,rfl⟩:=bt.mp hc
   exact jM
  have hml:(ms.map fun i:Int=>if i<0 then -i else i).length<=63:=by rw [ag]; omega
  generalize (ms.map fun i:Int=>if i<0 then -i else i)=as at hl' hnn hml
  refine ⟨by show 1<=sizeLine; decide,fun p3 hp3=>?_⟩
  obtain ⟨H3,eqH,s3,l3⟩:=HD (o:=HO.lst [V.int 0]) hp3
  rw [eqH]
  refine ⟨D,p3,_,_,rfl,rfl,s3 _ _ hl',l3,FQ (by simp; omega),fun pc hpc=>?_⟩
  have s4:=Aw (o:=HO.lst (as.map V.int++[V.int 0])) hpc
  have l4:upd H3 pc (HO.lst (as.map V.int++[V.int 0])) pc=some (.lst ((as++[0]).map V.int)):=by rw [Ag,dA]; rfl
  have hn4:∀ c∈as++[0],(0:Int)<=c:=fun c hc=>by
   rcases bp.mp hc with h | h
   ·exact hnn c h
   ·rw [ai.mp h]; exact fz _
  have hl4:0<(as++[0]).length/\(as++[(0:Int)]).length<=64:=by rw [ar,ck]; omega
  have hfree:H pc=none:=(s1.trans (hs.trans s3)).free hpc
  have s04:=s1.trans (hs.trans (s3.trans s4))
  generalize upd H3 pc (HO.lst (as.map V.int++[V.int 0]))=H4 at s4 l4 s04 ⊢
  generalize as++[0]=cs at l4 hn4 hl4
  clear s1 l1 hl' hnn hml s3 l3 s4 hpc hp3 hp1 hD hs
  have qc:CZ K H4 pc (cs.map V.int):=.inl (.inl l4)
  have hlen:(cs.map V.int).length=cs.length:=ag ..
  refine ⟨_,rfl,?_⟩
  refine ⟨_,rfl,pc,_,rfl,.inl qc,_,rfl,by omega,by omega,Gn (lo:=0) (n:=(((cs.map V.int).length:Nat):Int).toNat) (fun i σ H5=>H5=H4/\∃ (num:Int) (v4:Option V),0<=num/\num<2147483647/\σ=[some (.ref a),some (.int st),some (.ref pc),some (.int num),v4,none]) ⟨rfl,st,none,h0,h1,rfl⟩ ?_ ?_⟩
  ·rintro i σ H5 hi ⟨rfl,num,v4,hn0,hn1,rfl⟩
   obtain ⟨c,_,hc,hat⟩:=Ff (ns:=cs) (i:=(0:Int)+(i:Int)) (by omega) (by omega)
   have c0:0<=c % 2147483647/\c % 2147483647<2147483647:=⟨gX _ (by decide),gg _ (by decide)⟩
   refine ⟨_,rfl,_,_,rfl,rfl,.inr ⟨by decide,by decide⟩,_,rfl,_,rfl,pc,_,_,_,rfl,rfl,qc,hat,_,_,rfl,rfl,(by show (0:Int)<2147483647; decide),_,rfl,_,rfl,_,_,rfl,rfl,.inl ⟨by omega,by omega⟩,_,_,rfl,rfl,_,_,rfl,rfl,.inl ⟨by omega,by omega⟩,_,_,rfl,rfl,_,_,rfl,rfl,_,_,rfl,rfl,(by show (0:Int)<2147483629; decide),?_⟩
   refine ⟨rfl,_,_,gX _ (by decide),?_,rfl⟩
   exact Int.lt_trans (gg _ (by decide)) (by decide)
  ·rintro σ H5 ⟨rfl,num,v4,hn0,hn1,rfl⟩
   obtain ⟨c,ec,hc,hat⟩:=Ff (ns:=cs) (i:=0) (by decide) (by omega)
   have m2:0<=c % 2/\c % 2<2:=⟨gX _ (by decide),gg _ (by decide)⟩
   refine ⟨_,rfl,pc,_,_,_,rfl,rfl,qc,hat,_,_,rfl,rfl,(by show (0:Int)<2; decide),_,rfl,pc,_,rfl,.inl qc,_,_,rfl,rfl,.inl ⟨by omega,by omega⟩,?_⟩
   have hmx:0<=c % 2 * ((cs.map V.int).length:Int)/\c % 2 * ((cs.map V.int).length:Int)<=cs.length:=by
    rw [hlen]
    have:c % 2=0 \/ c % 2=1:=by omega
    rcases this with e | e <;> rw [e] <;> omega
   show CV 5 (V.int (c % 2 * ((cs.map V.int).length:Int))) _ _ _
   generalize c % 2 * ((cs.map V.int).length:Int)=mx at hmx
   refine ⟨_,rfl,pc,_,_,_,rfl,rfl,qc,hat,_,_,rfl,rfl,⟨by decide,by decide⟩,_,rfl,pc,_,0,0,rfl,rfl,l4,Sw (by decide) (by omega),?_⟩
   have e5:((cs.map V.int).set 0 (V.int (c / 2)))=(cs.set 0 (c / 2)).map V.int:=by rw [List.map_set]
   have l5:upd H5 pc (HO.lst ((cs.map V.int).set 0 (V.int (c / 2)))) pc=some (.lst ((cs.set 0 (c / 2)).map V.int)):=by rw [Ag,e5]
   have s5:Aq H (upd H5 pc (HO.lst ((cs.map V.int).set 0 (V.int (c / 2))))):=fun b o e=>by rw [Am (Av e hfree)]; exact s04 b o e
   generalize upd H5 pc (HO.lst ((cs.map V.int).set 0 (V.int (c / 2))))=H6 at l5 s5 ⊢
   refine ⟨_,rfl,_,rfl,_,rfl,by show 4<=sizeLine; decide,fun dh hdh=>?_⟩
   refine q dh pc _ (s5.free hdh) hfree (s5.trans (Aw hdh)) ?_
   refine ⟨cs.set 0 (c / 2),mx,num,Ag,?_,?_,?_,hmx.1,by rw [io]; exact hmx.2,hn0,hn1,by rw [io]; exact hl4⟩
   ·rw [Am (Av l5 hdh)]
    exact l5
   ·intro e
    rw [e,l5] at hdh
    cases hdh
   ·intro x hx
    rcases List.mem_or_eq_of_mem_set hx with h | h
    ·exact hn4 x h
    ·rw [h]
     have:=hn4 c hc
     omega
theorem Wc:BJ ["_law_drawn_here","_law_many","_law_cells","_law_turn","_law_digit"] ["_law_drawn_here","_law_many"] (Ah jW):=CG
include N T in
theorem QD:BP P w K mg base Bp 1 aD.fDw aD.dDw ["_law_drawn_here","_law_many"] Mj:=by
 refine N.FDw.1.ok Wc (fun vs H Q E h=>?_) (fun cdv A outer s H vs Q E hr h=>?_)
 ·obtain ⟨dh,pc,n,many,rfl,_⟩:=h
  rfl
 ·obtain ⟨dh,pc,n,many,rfl,⟨cs,m,r,hd,hp,ne,hn,hm0,hm1,hr0,hr1,hl⟩,hnn,hma,hmb,q⟩:=h
  refine ⟨_,(@Ae _ _ _ _ _ (@BL _ _ _ _ _ _ 2 Wc.nd rfl (Or.inl rfl) (@Ar _ _ _ _ _ _ _ Bm (pv 0) Ac (fun _ _=>rfl)) (by kernel_rfl) (.inl rfl))
   (@Ae _ _ _ _ _ (IK (BV Bv (@Ar _ _ _ _ _ _ _ Bm (pv 0) Ac (fun _ _=>rfl)) Ac) (J0 (pv 0) Ac set_list))
   (@Ae _ _ _ _ _ (S7 PassesOwn.never (PW.pt (J7 (Be Ii (@Ar _ _ _ _ _ _ _ Bm (pv 0) Ac (fun _ _=>rfl)) (BK Bj rfl T.len dQ (@Ak _ _ _ _ _ rfl (pv 2) Aa)) (Bf _)) (JF (Be Ej (@Ar _ _ _ _ _ _ _ Bm (pv 2) (@Ar _ _ _ _ _ _ _ Bm (pv 0) Ac (fun _ _=>rfl)) (fun _ _=>rfl)) Ac (Bf _))))) (@Aj _ _ _ (IK (BV Bv (@Ar _ _ _ _ _ _ _ Bm (pv 0) Ac (fun _ _=>rfl)) Ac) (J0 (pv 0) Ac set_list))))
   (@Ae _ _ _ _ _ (@Ca _ _ _ _ _ _ _ _ (Be Ej (@Ar _ _ _ _ _ _ _ Bm (pv 0) Ac (fun _ _=>rfl)) (BK Bj rfl T.len dQ (@Ak _ _ _ _ _ rfl (pv 2) Aa)) (Bf _)) (@Ae _ _ _ _ _ (@BL _ _ _ _ _ _ 3 Wc.nd rfl (Or.inl rfl) (@Ar _ _ _ _ _ _ _ Bm (pv 0) Ac (fun _ _=>rfl)) (by kernel_rfl) (.inl rfl))
   (@Ae _ _ _ _ _ (IK (BV GP (BV Bv (BV Bv (BV DW (@Ar _ _ _ _ _ _ _ Bm (pv 0) Ac (fun _ _=>rfl)) Ac) (BV DW (BV DW (pv 3) (pv 3)) (pv 3))) Ac) Ac) (J0 (pv 0) Ac set_list))
   (@Aj _ _ _ (@BR _ _ _ _ (BV GP (BV Pb (BV GP (BV DW (@Ar _ _ _ _ _ _ _ Bm (pv 0) Ac (fun _ _=>rfl)) (@Ar _ _ _ _ _ _ _ Bm (pv 0) Ac (fun _ _=>rfl))) Ac) Ac) (pv 1)))))) Bk)
   (@Ae _ _ _ _ _ (@BL _ _ _ _ _ _ 4 Wc.nd rfl (Or.inl rfl) (BV GP (@Ar _ _ _ _ _ _ _ Bm (pv 2) (@Ar _ _ _ _ _ _ _ Bm (pv 0) Ac (fun _ _=>rfl)) (fun _ _=>rfl)) (pv 1)) (by kernel_rfl) (.inl rfl))
   (@Ae _ _ _ _ _ (IK (BV Ti (@Ar _ _ _ _ _ _ _ Bm (pv 2) (@Ar _ _ _ _ _ _ _ Bm (pv 0) Ac (fun _ _=>rfl)) (fun _ _=>rfl)) (pv 1)) (J0 (pv 2) (@Ar _ _ _ _ _ _ _ Bm (pv 0) Ac (fun _ _=>rfl)) set_list))
   (@Aj _ _ _ (@BR _ _ _ _ (pv 4))))))))),?_⟩
  have qd:CZ K H dh _:=.inl (.inl hd)
  refine ⟨_,rfl,dh,_,_,_,rfl,rfl,qd,Af (j:=0) rfl,?_⟩
  refine ⟨_,rfl,dh,_,_,_,rfl,rfl,qd,Af (j:=3) rfl,_,_,rfl,rfl,_,rfl,dh,_,3,3,rfl,rfl,hd,rfl,?_⟩
  have d1:upd H dh (HO.lst ([V.ref pc,V.int m,V.int r,V.int (n:Int)].set 3 (V.int ((n:Int)+1)))) dh=some (.lst [V.ref pc,V.int m,V.int r,V.int ((n+1:Nat):Int)]):=Ag
  have f1:KD H (upd H dh (HO.lst ([V.ref pc,V.int m,V.int r,V.int (n:Int)].set 3 (V.int ((n:Int)+1))))) dh pc:=fun b h1 h2=>Am h1
  have p1:upd H dh (HO.lst ([V.ref pc,V.int m,V.int r,V.int (n:Int)].set 3 (V.int ((n:Int)+1)))) pc=some (.lst (cs.map V.int)):=by rw [Am (Ne.symm ne)]; exact hp
  generalize upd H dh (HO.lst ([V.ref pc,V.int m,V.int r,V.int (n:Int)].set 3 (V.int ((n:Int)+1))))=H1 at d1 f1 p1 ⊢
  refine U6 ?_
  have hlen:(cs.map V.int).length=cs.length:=ag ..
  refine Ug (fun σ H4=>σ=[some (.ref dh),some (.int many),some (.ref pc),none,none]/\∃ m,0<=m/\m<=(cs.length:Int)/\H4 dh=some (.lst [V.ref pc,V.int m,V.int r,V.int ((n+1:Nat):Int)])/\H4 pc=some (.lst (cs.map V.int))/\KD H H4 dh pc)
   (fun _ H4=>match H4 dh with | some (.lst [_,.int m,_,_])=>((cs.length:Int) - m).toNat | _=>0) ⟨rfl,m,hm0,hm1,d1,p1,f1⟩ ?_ ?_
  ·rintro σ H4 ⟨rfl,m,hm0,hm1,d4,p4,f4⟩
   have qd:CZ K H4 dh _:=.inl (.inl d4)
   have qc:CZ K H4 pc _:=.inl (.inl p4)
   refine ⟨_,rfl,dh,_,_,_,rfl,rfl,qd,Af (j:=1) rfl,_,rfl,pc,_,rfl,.inl qc,_,_,rfl,rfl,_,rfl,?_⟩
   refine Df (fun h1=>?_) (fun h1=>?_)
   ·have h1':m<cs.length:=by have:=of_decide_eq_true h1; omega
    obtain ⟨c,ec,hc,hat⟩:=Ff (ns:=cs) (i:=m) hm0 h1'
    refine ⟨_,rfl,_,rfl,dh,_,_,_,rfl,rfl,qd,Af (j:=1) rfl,pc,_,_,_,rfl,rfl,qc,hat,rfl,_,rfl,?_⟩
    refine Df (fun h2=>?_) (fun h2=>?_)
    ·refine ⟨_,rfl,dh,_,_,_,rfl,rfl,qd,Af (j:=1) rfl,_,_,rfl,rfl,_,rfl,dh,_,1,1,rfl,rfl,d4,rfl,?_⟩
     have d5:upd H4 dh (HO.lst ([V.ref pc,V.int m,V.int r,V.int ((n+1:Nat):Int)].set 1 (V.int (m+1)))) dh=some (.lst [V.ref pc,V.int (m+1),V.int r,V.int ((n+1:Nat):Int)]):=Ag
     refine ⟨⟨rfl,m+1,by omega,by omega,d5,by rw [Am (Ne.symm ne)]; exact p4,fun b h3 h4=>by rw [Am h3]; exact f4 b h3 h4⟩,?_⟩
     dsimp only
     rw [d4,d5]
     show ((cs.length:Int) - (m+1)).toNat<((cs.length:Int) - m).toNat
     omega
    ·have hcz:c ≠ 0:=fun z=>h2 (by rw [z]; rfl)
     refine ⟨_,rfl,dh,_,_,_,rfl,rfl,qd,Af (j:=1) rfl,_,rfl,pc,_,rfl,.inl qc,rfl,_,rfl,?_⟩
     refine Df (fun h3=>?_) (fun h3=>?_)
     ·have h3':V.int m=V.int ((cs.map V.int).length:Int):=of_decide_eq_true h3
      have:=V.int.inj h3'
      omega
     ·refine ⟨_,rfl,_,rfl,dh,_,_,_,rfl,rfl,qd,Af (j:=1) rfl,pc,_,_,_,rfl,rfl,qc,hat,_,rfl,_,_,rfl,rfl,hma,?_⟩
      refine ⟨_,rfl,_,rfl,dh,_,_,_,rfl,rfl,qd,Af (j:=1) rfl,pc,_,_,_,rfl,rfl,qc,hat,_,rfl,_,_,rfl,rfl,⟨hma,hmb⟩,_,rfl,_,rfl,dh,_,_,_,rfl,rfl,qd,Af (j:=1) rfl,pc,_,_,m.toNat,rfl,rfl,p4,Sw hm0 (by omega),?_⟩
      have l5:upd H4 pc (HO.lst ((cs.map V.int).set m.toNat (V.int (c / many)))) pc=some (.lst ((cs.set m.toNat (c / many)).map V.int)):=by rw [Ag,List.map_set]
      refine ⟨_,rfl,q (c % many) _ (gX _ (by omega)) (gg _ hma) ⟨cs.set m.toNat (c / many),m,r,by rw [Am ne]; exact d4,l5,ne,fun x hx=>?_,hm0,by rw [io]; omega,hr0,hr1,by rw [io]; exact hl⟩ (fun b h3 h4=>by rw [Am h4]; exact f4 b h3 h4)⟩
      rcases List.mem_or_eq_of_mem_set hx with h | h
      ·exact hn x h
      ·rw [h]
       exact Int.ediv_nonneg (hn c hc) (by omega)
   ·have h1':¬ m<cs.length:=fun z=>h1 (decide_eq_true (by omega))
    have em:m=((cs.map V.int).length:Int):=by omega
    refine ⟨_,rfl,dh,_,_,_,rfl,rfl,qd,Af (j:=1) rfl,_,rfl,pc,_,rfl,.inl qc,rfl,_,rfl,?_⟩
    refine Df (fun h3=>?_) (fun h3=>absurd (decide_eq_true (by rw [em])) h3)
    refine ⟨_,rfl,dh,_,_,_,rfl,rfl,qd,Af (j:=3) rfl,?_⟩
    refine ⟨_,rfl,dh,_,_,_,rfl,rfl,qd,Af (j:=2) rfl,_,_,rfl,rfl,.inr ⟨by decide,by decide⟩,_,rfl,_,rfl,_,_,rfl,rfl,.inl ⟨by omega,by omega⟩,_,rfl,_,_,rfl,rfl,.inr ⟨by omega,by omega⟩,_,_,rfl,rfl,_,_,rfl,rfl,_,_,rfl,rfl,(by show (0:Int)<2147483647; decide),_,rfl,dh,_,2,2,rfl,rfl,d4,rfl,?_⟩
    dsimp only
    have hb0:=Int.emod_nonneg (r * 48271+((n+1:Nat):Int) * ((n+1:Nat):Int) * ((n+1:Nat):Int)+1) (show (2147483647:Int) ≠ 0 by decide)
    have hb1:=Int.emod_lt_of_pos (r * 48271+((n+1:Nat):Int) * ((n+1:Nat):Int) * ((n+1:Nat):Int)+1) (show (0:Int)<2147483647 by decide)
    generalize (r * 48271+((n+1:Nat):Int) * ((n+1:Nat):Int) * ((n+1:Nat):Int)+1) % 2147483647=r2 at hb0 hb1 ⊢
    have d5:upd H4 dh (HO.lst ([V.ref pc,V.int m,V.int r,V.int ((n+1:Nat):Int)].set 2 (V.int r2))) dh=some (.lst [V.ref pc,V.int m,V.int r2,V.int ((n+1:Nat):Int)]):=Ag
    have p5:upd H4 dh (HO.lst ([V.ref pc,V.int m,V.int r,V.int ((n+1:Nat):Int)].set 2 (V.int r2))) pc=some (.lst (cs.map V.int)):=by rw [Am (Ne.symm ne)]; exact p4
    have f5:KD H (upd H4 dh (HO.lst ([V.ref pc,V.int m,V.int r,V.int ((n+1:Nat):Int)].set 2 (V.int r2)))) dh pc:=fun b h3 h4=>by rw [Am h3]; exact f4 b h3 h4
    generalize upd H4 dh (HO.lst ([V.ref pc,V.int m,V.int r,V.int ((n+1:Nat):Int)].set 2 (V.int r2)))=H5 at d5 p5 f5 ⊢
    have qd5:CZ K H5 dh _:=.inl (.inl d5)
    refine ⟨_,rfl,dh,_,_,_,rfl,rfl,qd5,Af (j:=2) rfl,_,rfl,dh,_,_,_,rfl,rfl,qd5,Af (j:=2) rfl,_,_,rfl,rfl,.inl ⟨by omega,by omega⟩,_,_,rfl,rfl,(by show (0:Int)<2147483629; decide),_,_,rfl,rfl,⟨by decide,by decide⟩,_,rfl,_,_,rfl,rfl,hma,?_⟩
    exact q _ _ (gX _ (by omega)) (gg _ hma) ⟨cs,m,r2,d5,p5,ne,hn,hm0,hm1,hb0,hb1,hl⟩ f5
  ·rintro σ H4 Q1 Q2 hq ⟨v,e1,p,xs,i,z,e2,e3,hs,ha,v2,e4,p2,ys,e5,hy,i2,j2,e6,e7,k,e8,hh⟩
   refine ⟨v,e1,p,xs,i,z,e2,e3,hs,ha,v2,e4,p2,ys,e5,hy,i2,j2,e6,e7,k,e8,?_⟩
   cases k with
   | false =>
    rw [if_neg dl] at hh
    exact Dm (hq _ _ hh)
   | true =>
    rw [if_pos rfl] at hh
    obtain ⟨v3,f1,v4,f2,p3,xs3,i3,z3,f3,f4,hs3,ha3,p4,xs4,i4,z4,f5,f6,hs4,ha4,f7,k2,f8,hQ⟩:=hh
    exact Ey ⟨v3,f1,v4,f2,p3,xs3,i3,z3,f3,f4,hs3,ha3,p4,xs4,i4,z4,f5,f6,hs4,ha4,f7,k2,f8,hq _ _ hQ⟩
noncomputable def Wb:Sp:=fun vs H Q _=>∃ (dh pc:Addr) (n:Nat) (most:Int),vs=[.ref dh,.int most]/\DH H dh pc n/\n<900000/\0<most/\∀ (r:Int) H',0<=r->r<most->DH H' dh pc (n+2)->KD H H' dh pc->Q (.int r) H'
theorem KD.trans {H H1 H2:Hp} {dh pc:Addr} (f:KD H H1 dh pc) (g:KD H1 H2 dh pc):KD H H2 dh pc:=fun b h1 h2=>(g b h1 h2).trans (f b h1 h2)
theorem cU:BJ ["_law_drawn_here","_law_most","_law_number"] ["_law_drawn_here","_law_most"] (Ah jf):=CG
include N T in
theorem Uh:BP P w K mg base Bp 2 aD.fGr aD.dGr ["_law_drawn_here","_law_most"] Wb:=by
 refine N.FGr.1.ok cU (fun vs H Q E h=>?_) (fun cdv A outer s H vs Q E hr h=>?_)
 ·obtain ⟨dh,pc,n,most,rfl,_⟩:=h
  rfl
 ·obtain ⟨dh,pc,n,most,rfl,D,hn,hm,q⟩:=h
  refine ⟨_,(@Ae _ _ _ _ _ (@BL _ _ _ _ _ _ 2 cU.nd rfl (Or.inl rfl) (BV Bv (BV DW (An (QD N T) (ad hr) rfl N.FDw.2.2 N.FDw.1.kp N.FDw.2.1 .nil A_ (@Ak _ _ _ _ _ rfl (pv 0) (@Ak _ _ _ _ _ rfl Ac Aa))) Ac) (An (QD N T) (ad hr) rfl N.FDw.2.2 N.FDw.1.kp N.FDw.2.1 .nil A_ (@Ak _ _ _ _ _ rfl (pv 0) (@Ak _ _ _ _ _ rfl Ac Aa)))) (by kernel_rfl) (.inl rfl))
   (@Aj _ _ _ (@BR _ _ _ _ (BV GP (pv 2) (pv 1))))),?_⟩
  refine ⟨_,rfl,dh,pc,n,2147483647,rfl,D,by omega,by decide,by decide,fun r1 H1 a1 b1 D1 f1=>?_⟩
  refine ⟨_,_,rfl,rfl,.inr ⟨by decide,by decide⟩,_,rfl,dh,pc,n+1,2147483647,rfl,D1,by omega,by decide,by decide,fun r2 H2 a2 b2 D2 f2=>?_⟩
  refine ⟨_,_,rfl,rfl,?_⟩
  exact ⟨_,rfl,_,rfl,_,_,rfl,rfl,hm,q _ H2 (gX _ (by omega)) (gg _ hm) D2 (KD.trans f1 f2)⟩
noncomputable def rN (j:Nat):Str:=⟨#[97+j]⟩
theorem fL {i:Int} (h0:0<=i) (h:i<4):Mf ("abcd" : Str).cps.toList i=some (97+i.toNat):=by
 have:i=0 \/ i=1 \/ i=2 \/ i=3:=by omega
 rcases this with rfl | rfl | rfl | rfl <;> decide +kernel
theorem Ua:("abcd" : Str).length<=sizeLine:=by decide +kernel
theorem az {i:Nat} (h:i<4):isNm (rN i):=⟨by show 1<=1; decide,by show 1<=8; decide,fun c hc=>by
 have:c=97+i:=by simpa [rN] using hc
 omega⟩
theorem Tq {i j:Nat} (h:rN i=rN j):i=j:=by
 have:=congrArg (fun s:Str=>s.cps.toList) h
 have e:97+i=97+j:=by simpa [rN] using this
 omega
theorem dO:isNm "x":=⟨by decide +kernel,by decide +kernel,by decide +kernel⟩
theorem bI {i:Nat} (h:i<4):rN i ≠ "x":=fun e=>by
 have:i=0 \/ i=1 \/ i=2 \/ i=3:=by omega
 rcases this with rfl | rfl | rfl | rfl <;> exact absurd e (by decide +kernel)
theorem aR {a b c:V} {r:Int} (h0:0<=r) (h:r<3):∃ v,Mf [a,b,c] r=some v/\(v=a \/ v=b \/ v=c):=by
 have:r=0 \/ r=1 \/ r=2:=by omega
 rcases this with rfl | rfl | rfl
 ·exact ⟨a,Af (j:=0) rfl,.inl rfl⟩
 ·exact ⟨b,Af (j:=1) rfl,.inr (.inl rfl)⟩
 ·exact ⟨c,Af (j:=2) rfl,.inr (.inr rfl)⟩
theorem fW {a b:V} (k:Bool):∃ v,Mf [a,b] (if k then 1 else 0)=some v/\(v=a \/ v=b):=by
 cases k with
 | false=>exact ⟨a,Af (j:=0) rfl,.inl rfl⟩
 | true=>exact ⟨b,Af (j:=1) rfl,.inr rfl⟩
theorem Jr {H:Hp} {dh pc l:Addr} {n:Nat} (D:DH H dh pc n) (h:H l=none):l ≠ dh/\l ≠ pc:=by
 obtain ⟨_,_,_,e1,e2,_⟩:=D
 exact ⟨fun z=>(by rw [z,e1] at h; cases h),fun z=>(by rw [z,e2] at h; cases h)⟩
structure SN (K:PySem.W.Frag) (aB aP aM:Addr) (H:Hp) (p:Addr) (rk:List (Str × Nat × Int)) (vs:List V):Prop where
 l:H p=some (.lst vs)
 p:Paired (fun (r:R) v=>TupAt H r.v v) (HB ("x",1)::rk.map Hn) vs
 b:RZ K aB aP aM (HB ("x",1)::rk.map Hn) [("x",1)] rk [] []
 n:∀ (i:Nat) r,rk[i]? = some r->r.1=rN i/\1<=r.2.1/\r.2.1<=97/\0<=r.2.2/\r.2.2<=1000000000
theorem SN.fr {K:PySem.W.Frag} {aB aP aM:Addr} {H H':Hp} {p dh pc:Addr} {k:Nat} {rk:List (Str × Nat × Int)} {vs:List V} (h:SN K aB aP aM H p rk vs) (D:DH H dh pc k) (f:Do H H' dh pc):SN K aB aP aM H' p rk vs:=by
 obtain ⟨a,b⟩:=Gh (F:=fun r:R=>r.v) D f h.l h.p
 exact ⟨a,b,h.b,h.n⟩
noncomputable def Z_ (K:PySem.W.Frag) (aB aP aM:Addr):Sp:=fun vs H Q _=>∃ (dh pc:Addr) (n:Nat),vs=[.ref dh]/\DH H dh pc n/\n<1000/\Zw K aB aP aM /\
 ∀ p rk vs' n' H',H p=none->Do H H' dh pc->DH H' dh pc n'->n'<=n+25->SN K aB aP aM H' p rk vs'->1<=rk.length->rk.length<=4->Q (.ref p) H'
theorem XF:BJ ["_law_drawn_here","_law_rows","_law_k","_law_wind"] ["_law_drawn_here"] (Ah j7):=CG
include N T in
theorem fM:BP P w K mg base Bp 3 aD.fLg aD.dLg ["_law_drawn_here"] (Z_ K aB aP aM):=by
 refine N.FLg.1.ok XF (fun vs H Q E h=>?_) (fun cdv A outer s H vs Q E hr h=>?_)
 ·obtain ⟨dh,pc,n,rfl,_⟩:=h
  rfl
 ·obtain ⟨dh,pc,n,rfl,D,hn,F0,q⟩:=h
  refine ⟨_,(@Ae _ _ _ _ _ (@BL _ _ _ _ _ _ 1 XF.nd rfl (Or.inl rfl) (@CN _ _ _ _ (@Ak _ _ _ _ _ rfl (@Ce _ _ _ _ _ (@Ak _ _ _ _ _ rfl Di (@Ak _ _ _ _ _ rfl Di (@Ak _ _ _ _ _ rfl Ac Aa)))) Aa)) (by kernel_rfl) (.inl rfl))
   (@Ae _ _ _ _ _ (DR PassesOwn.never rfl (Ep rfl T.range (@Ak _ _ _ _ _ rfl (BV Bv Ac (An (QD N T) (ad hr) rfl N.FDw.2.2 N.FDw.1.kp N.FDw.2.1 .nil A_ (@Ak _ _ _ _ _ rfl (pv 0) (@Ak _ _ _ _ _ rfl Ac Aa)))) Aa)) (Ba (i:=2) XF.nd rfl (Or.inl rfl)) (@Ae _ _ _ _ _ (@BL _ _ _ _ _ _ 3 XF.nd rfl (Or.inl rfl) (@Ar _ _ _ _ _ _ _ (Bu (K:=K) rfl) (@CN _ _ _ _ (@Ak _ _ _ _ _ rfl (An (QD N T) (ad hr) rfl N.FDw.2.2 N.FDw.1.kp N.FDw.2.1 .nil A_ (@Ak _ _ _ _ _ rfl (pv 0) (@Ak _ _ _ _ _ rfl Ac Aa))) (@Ak _ _ _ _ _ rfl (An (Uh N T) (ad hr) rfl N.FGr.2.2 N.FGr.1.kp N.FGr.2.1 .nil A_ (@Ak _ _ _ _ _ rfl (pv 0) (@Ak _ _ _ _ _ rfl (BV MK Ac Ac) Aa))) (@Ak _ _ _ _ _ rfl (BV MK Ac Ac) Aa)))) (An (QD N T) (ad hr) rfl N.FDw.2.2 N.FDw.1.kp N.FDw.2.1 .nil A_ (@Ak _ _ _ _ _ rfl (pv 0) (@Ak _ _ _ _ _ rfl Ac Aa))) (fun _ _=>rfl)) (by kernel_rfl) (.inl rfl))
   (@Aj _ _ _ (DG (Fz bE cr cy Bx (pv 1) (@Ak _ _ _ _ _ rfl (@Ce _ _ _ _ _ (@Ak _ _ _ _ _ rfl Di (@Ak _ _ _ _ _ rfl (@Ar _ _ _ _ _ _ _ YZ Di (pv 2) (fun _ _=>rfl)) (@Ak _ _ _ _ _ rfl (@Ar _ _ _ _ _ _ _ (Bu (K:=K) rfl) (@CN _ _ _ _ (@Ak _ _ _ _ _ rfl (BV Bv Ac (An (QD N T) (ad hr) rfl N.FDw.2.2 N.FDw.1.kp N.FDw.2.1 .nil A_ (@Ak _ _ _ _ _ rfl (pv 0) (@Ak _ _ _ _ _ rfl Ac Aa)))) (@Ak _ _ _ _ _ rfl Ac Aa))) (Ea RK rfl T.int PyProof.Rows.boot_int (@Ak _ _ _ _ _ rfl (Ef Ej (An (QD N T) (ad hr) rfl N.FDw.2.2 N.FDw.1.kp N.FDw.2.1 .nil A_ (@Ak _ _ _ _ _ rfl (pv 0) (@Ak _ _ _ _ _ rfl Ac Aa))) Ac (Bf _)) Aa)) (fun _ _=>rfl)) (@Ak _ _ _ _ _ rfl (pv 3) Aa))))) Aa))))))
   (@Aj _ _ _ (@BR _ _ _ _ (pv 1))))),?_⟩
  refine ⟨by show 3<=sizeLine; decide,fun T0 hT0=>?_⟩
  have s0:=Aw (o:=HO.tup [V.str "board",V.str "x",V.int 1]) hT0
  have u0:upd H T0 (HO.tup [V.str "board",V.str "x",V.int 1]) T0=some (.tup (HB ("x",1)).v):=Ag
  generalize upd H T0 (HO.tup [V.str "board",V.str "x",V.int 1])=H0 at s0 u0 ⊢
  refine ⟨by show 1<=sizeLine; decide,fun p hp=>?_⟩
  have s1:=Aw (o:=HO.lst [V.ref T0]) hp
  have u1:upd H0 p (HO.lst [V.ref T0]) p=some (.lst [V.ref T0]):=Ag
  have hp0:H p=none:=s0.free hp
  generalize upd H0 p (HO.lst [V.ref T0])=H1 at s1 u1 ⊢
  have s01:=s0.trans s1
  have D1:=D.same s01
  have B0:RZ K aB aP aM [HB ("x",1)] [("x",1)] [] [] []:=RZ.nil.Z6 F0 dO (fun _ z=>nomatch z) (by decide) (by decide) (by decide)
  have k9:(10:Int) ^ (9:Int).toNat=1000000000:=by decide
  obtain ⟨np1,np2⟩:=Jr D hp0
  refine ⟨_,rfl,dh,pc,n,4,rfl,D1,by omega,by decide,by decide,fun r0 H2 a0 b0 D2 f2=>?_⟩
  refine ⟨_,_,rfl,rfl,_,rfl,by omega,by omega,?_⟩
  have e4:(1+r0).toNat<=4:=by omega
  have e1:1<=(1+r0).toNat:=by omega
  generalize (1+r0).toNat=nn at e4 e1 ⊢
  have u2:H2 p=some (.lst [V.ref T0]):=Do.of2 f2 _ _ np1 np2 u1
  have R2:SN K aB aP aM H2 p [] [V.ref T0]:=SN.fr (H:=H1) ⟨u1,.cons ⟨T0,rfl,s1 _ _ u0⟩ .nil,B0,fun i r h=>by simp at h⟩ D1 (Do.of2 f2)
  refine Gn (lo:=0) (n:=nn) (fun i σ H4=>∃ (rk:List (Str × Nat × Int)) (vs':List V) (n':Nat) (v3 v2:Option V),σ=[some (.ref dh),some (.ref p),v2,v3]/\Do H H4 dh pc/\DH H4 dh pc n'/\n'<=n+1+6 * i/\SN K aB aP aM H4 p rk vs'/\rk.length=i) ⟨[],_,n+1,_,_,rfl,(Do.same s01).trans (Do.of2 f2),D2,by omega,R2,rfl⟩ ?_ ?_
  ·rintro i σ H4 hi ⟨rk,vs',n',v3,v2,rfl,f4,D4,hn',R4,rl⟩
   have et:((0:Int)+(i:Int))=((i:Nat):Int):=by omega
   refine ⟨_,rfl,dh,pc,n',4,rfl,D4,by omega,by decide,by decide,fun w1 H5 wa wb D5 f5=>?_⟩
   refine ⟨_,rfl,_,_,rfl,rfl,⟨by decide,by decide,by decide⟩,dh,pc,n'+1,1000000000,(by show [V.ref dh,V.int ((10:Int) ^ (9:Int).toNat)]=_; rw [k9]),D5,by omega,by decide,fun w2 H6 xa xb D6 f6=>?_⟩
   refine ⟨_,_,rfl,rfl,⟨by decide,by decide,by decide⟩,by show 3<=sizeLine; decide,fun l6 hl6=>?_⟩
   have s6:=Aw (o:=HO.lst [V.int w1,V.int w2,V.int ((10:Int) ^ (9:Int).toNat)]) hl6
   have u6:upd H6 l6 (HO.lst [V.int w1,V.int w2,V.int ((10:Int) ^ (9:Int).toNat)]) l6=some (.lst [V.int w1,V.int w2,V.int ((10:Int) ^ (9:Int).toNat)]):=Ag
   obtain ⟨nl1,nl2⟩:=Jr D6 hl6
   generalize upd H6 l6 (HO.lst [V.int w1,V.int w2,V.int ((10:Int) ^ (9:Int).toNat)])=H7 at s6 u6 ⊢
   have D7:=D6.same s6
   refine ⟨_,rfl,dh,pc,n'+1+2,3,rfl,D7,by omega,by decide,by decide,fun w3 H8 ya yb D8 f8=>?_⟩
   have u8:=Do.of2 f8 _ _ nl1 nl2 u6
   obtain ⟨v,hv,hvv⟩:=aR (a:=V.int w1) (b:=V.int w2) (c:=V.int ((10:Int) ^ (9:Int).toNat)) ya yb
   obtain ⟨wi,rfl,wi0,wi1⟩:∃ wi:Int,v=.int wi/\0<=wi/\wi<=1000000000:=by
    rcases hvv with rfl | rfl | rfl
    ·exact ⟨_,rfl,wa,by omega⟩
    ·exact ⟨_,rfl,xa,by omega⟩
    ·exact ⟨_,rfl,by rw [k9]; decide,by rw [k9]; decide⟩
   refine ⟨l6,_,_,_,rfl,rfl,lc u8,hv,?_⟩
   have f48:Do H4 H8 dh pc:=(Do.of2 (KD.trans f5 f6)).trans ((Do.same s6).trans (Do.of2 f8))
   have R8:=R4.fr D4 f48
   refine ⟨_,rfl,.inl ⟨rfl,_,lc R8.l⟩,_,rfl,_,_,_,rfl,rfl,Ua,fL (by omega) (by omega),_,rfl,dh,pc,n'+1+2+1,6,rfl,D8,by omega,by decide,by decide,fun g1 H9 ga gb D9 f9=>?_⟩
   refine ⟨_,_,rfl,rfl,by show 2<=sizeLine; decide,fun l9 hl9=>?_⟩
   have s9:=Aw (o:=HO.lst [V.int (1+g1),V.int 97]) hl9
   have u9:upd H9 l9 (HO.lst [V.int (1+g1),V.int 97]) l9=some (.lst [V.int (1+g1),V.int 97]):=Ag
   obtain ⟨nk1,nk2⟩:=Jr D9 hl9
   generalize upd H9 l9 (HO.lst [V.int (1+g1),V.int 97])=H10 at s9 u9 ⊢
   have D10:=D9.same s9
   refine ⟨_,rfl,dh,pc,n'+1+2+1+1,9,rfl,D10,by omega,by decide,by decide,fun g2 H11 ha hb D11 f11=>?_⟩
   refine ⟨rfl,.inr ⟨_,rfl,?_⟩⟩
   have u11:=Do.of2 f11 _ _ nk1 nk2 u9
   obtain ⟨v',hv',hvv'⟩:=fW (a:=V.int (1+g1)) (b:=V.int 97) (decide (V.int g2=V.int 4))
   obtain ⟨pz,rfl,pz0,pz1⟩:∃ pz:Nat,v'=.int (pz:Nat)/\1<=pz/\pz<=97:=by
    rcases hvv' with rfl | rfl
    ·exact ⟨(1+g1).toNat,by rw [Int.toNat_of_nonneg (by omega)],by omega,by omega⟩
    ·exact ⟨97,rfl,by decide,by decide⟩
   have f811:Do H8 H11 dh pc:=(Do.of2 f9).trans ((Do.same s9).trans (Do.of2 f11))
   have R11:=R8.fr D8 f811
   refine ⟨l9,_,_,_,rfl,rfl,lc u11,hv',_,rfl,by show 4<=sizeLine; decide,fun T12 hT12=>?_⟩
   rw [et,show (97+((i:Nat):Int).toNat)=97+i by omega]
   have t12:=Aw (o:=HO.tup (Hn (rN i,pz,wi)).v) hT12
   have vl:=R11.p.length
   rw [dc,ag] at vl
   refine ⟨p,vs',_,rfl,rfl,t12 _ _ R11.l,Az (by omega),?_⟩
   have d12:=t12 _ _ R11.l
   refine ⟨rk++[(rN i,pz,wi)],vs'++[.ref T12],n'+1+2+1+1+1,_,_,rfl,?_,?_,by omega,⟨Ag,?_,?_,?_⟩,by rw [ar,rl]; rfl⟩
   ·exact fun b o h1 h2 e=>by
     rw [Am (Av e hp0)]
     exact t12 _ _ (f811 _ _ h1 h2 (f48 _ _ h1 h2 (f4 _ _ h1 h2 e)))
   ·exact (D11.same t12).upd np1 np2
   ·rw [dA,kL,← kQ]
    exact (Bl (Ax t12 R11.p) d12).snoc (TupAt.upd ⟨T12,rfl,Ag⟩ d12)
   ·rw [dA,kL,← kQ]
    refine R11.b.rank F0 (az (by omega)) (fun b hb e=>?_) (fun r hr e=>?_) (by omega) pz0 pz1 wi0 wi1
    ·rw [ai.mp hb] at e
     exact bI (by omega) e.symm
    ·obtain ⟨j,hj⟩:=fw.mp hr
     have:=R11.n j r hj
     have:=Tq (this.1.symm.trans e)
     have:=(af.mp hj).1
     omega
   ·intro j r hj
    by_cases hjl:j<rk.length
    ·rw [dE hjl] at hj
     exact R11.n j r hj
    ·have hl:=(af.mp hj).1
     rw [ar,ck] at hl
     have ej:j=rk.length:=by omega
     subst ej
     rw [eS (ah _),kX] at hj
     cases hj
     exact ⟨by rw [rl],pz0,pz1,wi0,wi1⟩
  ·rintro σ H4 ⟨rk,vs',n',v3,v2,rfl,f4,D4,hn',R4,rl⟩
   exact ⟨_,rfl,q p rk vs' n' H4 hp0 f4 D4 (by omega) R4 (by omega) (by omega)⟩
noncomputable def wL (rk:List (Str × Nat × Int)):List Int:=rk.flatMap fun r=>List.replicate r.2.1 r.2.2
theorem Qe (rk:List (Str × Nat × Int)) (r:Str × Nat × Int):wL (rk++[r])=wL rk++List.replicate r.2.1 r.2.2:=by
 unfold wL
 rw [kG,List.flatMap_singleton]
theorem T4 (rk:List (Str × Nat × Int)) (r:Str × Nat × Int):Gv (rk++[r])=Gv rk++List.replicate r.2.1 r.2.2:=by
 unfold Gv
 rw [dA,kL,Nv,dA]
 congr 1
 ·refine kF fun q hq=>?_
  obtain ⟨i,hi⟩:=fw.mp hq
  obtain ⟨b0,hb0,_,_⟩:=QH (a:=q.1) (n:=q.2) hi
  have hl:=(af.mp hb0).1
  rw [ag] at hl
  rw [dE hl]
 ·rw [cE]
  refine fN fun i=>?_
  rw [ax,im]
  by_cases h:i<r.2.1
  ·rw [fS h,if_pos h]
   show some ((((rk++[r])[(rk.map V4).length]?).map fun r=>r.2.2).getD 0)=some r.2.2
   rw [ag,eS (ah _),kX]
   rfl
  ·rw [List.getElem?_eq_none (by rw [List.length_range]; show r.2.1<=i; omega),if_neg h]
   rfl
theorem Uk:∀ (n:Nat) (rk:List (Str × Nat × Int)),rk.length=n->Gv rk=wL rk:=fun n=>by
 induction n with
 | zero=>intro rk h; rw [gy.mp h]; rfl
 | succ n ih =>
  intro rk h
  rcases ft rk with e | ⟨a,b,e⟩
  ·rw [e] at h; cases h
  ·rw [gS] at e
   subst e
   rw [T4,Qe,ih a (by rw [ar] at h; exact Nat.succ.inj h)]
theorem U8 (n:Nat) (v:Int):(List.replicate n [V.int v]).flatten=(List.replicate n v).map V.int:=by
 induction n with
 | zero=>rfl
 | succ n ih=>rw [fe,hG,ih]; rfl
theorem Uc {rk:List (Str × Nat × Int)} (h:∀ r∈rk,r.2.1<=97):(wL rk).length<=97 * rk.length:=by
 unfold wL
 induction rk with
 | nil=>exact ah _
 | cons r rk ih =>
  rw [gt,ar,cq,dc]
  have:=ih fun x hx=>h x (av _ hx)
  have:=h r am
  omega
theorem SN.m {K:PySem.W.Frag} {aB aP aM:Addr} {H:Hp} {p:Addr} {rk:List (Str × Nat × Int)} {vs:List V} (h:SN K aB aP aM H p rk vs):∀ r∈rk,1<=r.2.1/\r.2.1<=97/\0<=r.2.2/\r.2.2<=1000000000:=fun r hr=>by
 obtain ⟨i,hi⟩:=fw.mp hr
 exact (h.n i r hi).2
noncomputable def aH (K:PySem.W.Frag) (aB aP aM:Addr):Sp:=fun vs H Q _=>∃ (p:Addr) (rk:List (Str × Nat × Int)) (us:List V),vs=[.ref p]/\SN K aB aP aM H p rk us/\rk.length<=4/\∀ l H',H l=none->Aq H H'->H' l=some (.lst ((Gv rk).map V.int))->Q (.ref l) H'
theorem WQ:BJ ["_law_rows","_law_winds_here","_law_row"] ["_law_rows"] (Ah iK):=CG
include N T in
theorem d8:BP P w K mg base Bp 1 aD.fLv aD.dLv ["_law_rows"] (aH K aB aP aM):=by
 refine N.FLv.1.ok WQ (fun vs H Q E h=>?_) (fun cdv A outer s H vs Q E hr h=>?_)
 ·obtain ⟨p,rk,us,rfl,_⟩:=h
  rfl
 ·obtain ⟨p,rk,us,rfl,R0,h4,q⟩:=h
  refine ⟨_,(@Ae _ _ _ _ _ (@BL _ _ _ _ _ _ 1 WQ.nd rfl (Or.inl rfl) (@CN _ _ _ _ Aa) (by kernel_rfl) (.inl rfl))
   (@Ae _ _ _ _ _ (DR PassesOwn.never rfl (Bc (Gj Iw (pv 0) (Hg Ac) Hl)) (Ba (i:=2) WQ.nd rfl (Or.inl rfl)) (@Aj _ _ _ (@BL _ _ _ _ _ _ 1 WQ.nd rfl (Or.inl rfl) (BV Hs (pv 1) (BV Yl (@CN _ _ _ _ (@Ak _ _ _ _ _ rfl (@Ar _ _ _ _ _ _ _ (Ao (K:=K) rfl) (pv 2) Ac (fun _ _=>rfl)) Aa)) (@Ar _ _ _ _ _ _ _ (Ao (K:=K) rfl) (pv 2) Ac (fun _ _=>rfl)))) (by kernel_rfl) (.inl rfl))))
   (@Aj _ _ _ (@BR _ _ _ _ (pv 1))))),?_⟩
  obtain ⟨u0,us,rfl,hus⟩:∃ u0 us',us=u0::us'/\Paired (fun (r:R) v=>TupAt H r.v v) (rk.map Hn) us':=by
   have:=R0.p
   cases this with
   | cons a b=>exact ⟨_,_,rfl,b⟩
  have ul:=hus.length
  rw [ag] at ul
  refine ⟨cm _,fun l0 hl0=>?_⟩
  have s0:=Aw (o:=HO.lst []) hl0
  have a0:upd H l0 (HO.lst []) l0=some (.lst (([]:List Int).map V.int)):=Ag
  generalize upd H l0 (HO.lst [])=H0 at s0 a0 ⊢
  refine ⟨_,rfl,_,rfl,p,_,rfl,lc (s0 _ _ R0.l),fun ps hps=>?_⟩
  have s1:=Aw (o:=HO.lst (El (u0::us) (some 1) none)) hps
  have a1:upd H0 ps (HO.lst (El (u0::us) (some 1) none)) ps=some (.lst us):=by rw [Ag,Qn]; rfl
  generalize upd H0 ps (HO.lst (El (u0::us) (some 1) none))=H1 at s1 a1 ⊢
  have s01:=s0.trans s1
  refine ⟨ps,rfl,⟨_,lc a1⟩,Er (K:=K) (a:=ps) (xs:=us) (fun i σ H4=>Aq H H4/\H4 ps=some (.lst us)/\∃ (l:Addr) (v2:Option V),σ=[some (.ref p),some (.ref l),v2]/\H l=none/\H4 l=some (.lst ((wL (rk.take i)).map V.int))) ⟨s01,a1,l0,_,rfl,hl0,s1 _ _ a0⟩ (fun i σ H4 _ h=>lc h.2.1) ?_ ?_⟩
  ·rintro i y σ H4 hi ⟨s4,b4,l,v2,rfl,hl,a4⟩
   obtain ⟨r9,hr9,T0,rfl,hT0⟩:=Cg hus hi
   rw [ax] at hr9
   obtain ⟨r,hr,rfl⟩:=aE.mp hr9
   have hT4:=s4 _ _ hT0
   have hm:=R0.m r (aI hr)
   have tl:=Uc (rk:=rk.take i) fun x hx=>(R0.m x (ia hx)).2.1
   rw [ci] at tl
   refine ⟨_,rfl,_,rfl,T0,_,_,_,rfl,rfl,lc hT4,Af (j:=3) rfl,by show 1<=sizeLine; decide,fun l1 hl1=>?_⟩
   obtain ⟨H5,eqH,t1,u1⟩:=HD (o:=HO.lst [V.int r.2.2]) hl1
   rw [eqH]
   refine ⟨_,rfl,T0,_,_,_,rfl,rfl,lc (t1 _ _ hT4),Af (j:=2) rfl,l1,_,_,rfl,rfl,u1,by omega,by omega,FQ (by show 1 * ((r.2.1:Nat):Int).toNat<=_; omega),fun p2 hp2=>?_⟩
   rw [ce,U8]
   obtain ⟨H6,eqH,t2,u2⟩:=HD (o:=HO.lst ((List.replicate r.2.1 r.2.2).map V.int)) hp2
   rw [eqH]
   have s6:=s4.trans (t1.trans t2)
   refine ⟨l,p2,_,_,rfl,rfl,t2 _ _ (t1 _ _ a4),u2,FQ (by rw [ag,ag,cq]; omega),fun p3 hp3=>?_⟩
   have t3:=Aw (o:=HO.lst ((wL (rk.take i)).map V.int++(List.replicate r.2.1 r.2.2).map V.int)) hp3
   refine ⟨s6.trans t3,(t1.trans (t2.trans t3)) _ _ b4,p3,_,rfl,s6.free hp3,?_⟩
   rw [Ag,← dA,cf,hr]
   show _=some (HO.lst ((wL (rk.take i++[r])).map V.int))
   rw [Qe]
  ·rintro σ H4 ⟨s4,b4,l,v2,rfl,hl,a4⟩
   rw [bq (by omega),← Uk _ rk rfl] at a4
   exact ⟨_,rfl,q l H4 hl s4 a4⟩
theorem Z2 {c:TT} {t t2 u:TS} {D:Ends} {σ:St} {H:Hp} (P:St->Hp->Prop) (h1:∀ D':Ends,(∀ σ' H',P σ' H'->D'.nx σ' H')->Ym c t t2 D' σ H) (h2:∀ σ' H',P σ' H'->u D σ' H'):ZQ (Ym c t t2) u D σ H:=h1 { D with nx:=u D } h2
theorem gN {i:Nat} {v:V} {σ:St} {H:Hp} {Q:St->Hp->Prop} (h:Q (σ.set i (some v)) H):CV i v σ H Q:=h
noncomputable def jb (n len:Int) (t:Ro.T3):Prop:=0<=t.1/\t.1<n/\0<=t.2.1/\t.2.1<t.2.2/\t.2.2<=len
noncomputable def ZW:Sp:=fun vs H Q _=>∃ (dh pc:Addr) (n:Nat) (pn len:Int) (many:Nat),vs=[.ref dh,.int pn,.int len,.int (many:Nat)]/\DH H dh pc n/\n<1000/\1<=pn/\pn<=1000/\1<=len/\many<=24 /\
 ∀ l ts ys n' H',H l=none->Do H H' dh pc->DH H' dh pc n'->n'<=n+250->Bh H' l ts ys->(∀ t∈ts,jb pn len t)->ts.length<=many->Q (.ref l) H'
theorem RN:BJ ["_law_drawn_here","_law_pipes","_law_length","_law_many","_law_spans_here","_law_k","_law_first","_law_behind"] ["_law_drawn_here","_law_pipes","_law_length","_law_many"] (Ah k_):=CG
include N T in
theorem du:BP P w K mg base Bp 3 aD.fSs aD.dSs ["_law_drawn_here","_law_pipes","_law_length","_law_many"] ZW:=by
 refine N.FSs.1.ok RN (fun vs H Q E h=>?_) (fun cdv A outer s H vs Q E hr h=>?_)
 ·obtain ⟨dh,pc,n,pn,len,many,rfl,_⟩:=h
  rfl
 ·obtain ⟨dh,pc,n,pn,len,many,rfl,D,hn,p1,p2,l1,hm,q⟩:=h
  refine ⟨_,(@Ae _ _ _ _ _ (@BL _ _ _ _ _ _ 4 RN.nd rfl (Or.inl rfl) (@CN _ _ _ _ Aa) (by kernel_rfl) (.inl rfl))
   (@Ae _ _ _ _ _ (DR PassesOwn.never rfl (Ep rfl T.range (@Ak _ _ _ _ _ rfl (pv 3) Aa)) (Ba (i:=5) RN.nd rfl (Or.inl rfl)) (@Ae _ _ _ _ _ (@BL _ _ _ _ _ _ 6 RN.nd rfl (Or.inl rfl) (An (Uh N T) (ad hr) rfl N.FGr.2.2 N.FGr.1.kp N.FGr.2.1 .nil A_ (@Ak _ _ _ _ _ rfl (pv 0) (@Ak _ _ _ _ _ rfl (pv 2) Aa))) (by kernel_rfl) (.inl rfl))
   (@Ae _ _ _ _ _ (@BL _ _ _ _ _ _ 7 RN.nd rfl (Or.inl rfl) (BV Bv (BV Bv (pv 6) Ac) (An (Uh N T) (ad hr) rfl N.FGr.2.2 N.FGr.1.kp N.FGr.2.1 .nil A_ (@Ak _ _ _ _ _ rfl (pv 0) (@Ak _ _ _ _ _ rfl (BV Fx (pv 2) (pv 6)) Aa)))) (by kernel_rfl) (.inl rfl))
   (@Ae _ _ _ _ _ (@Ca _ _ _ _ _ _ _ _ (Be Ej (An (QD N T) (ad hr) rfl N.FDw.2.2 N.FDw.1.kp N.FDw.2.1 .nil A_ (@Ak _ _ _ _ _ rfl (pv 0) (@Ak _ _ _ _ _ rfl Ac Aa))) Ac (Bf _)) (@Aj _ _ _ (@BL _ _ _ _ _ _ 7 RN.nd rfl (Or.inl rfl) (BK (Gr rfl) rfl T.min gT (@Ak _ _ _ _ _ rfl (pv 2) (@Ak _ _ _ _ _ rfl (BV Bv (BV Bv (pv 6) Ac) (An (QD N T) (ad hr) rfl N.FDw.2.2 N.FDw.1.kp N.FDw.2.1 .nil A_ (@Ak _ _ _ _ _ rfl (pv 0) (@Ak _ _ _ _ _ rfl Ac Aa)))) Aa))) (by kernel_rfl) (.inl rfl))) Bk)
   (@Aj _ _ _ (DG (Fz bE cr cy Bx (pv 4) (@Ak _ _ _ _ _ rfl (@Ce _ _ _ _ _ (@Ak _ _ _ _ _ rfl (An (QD N T) (ad hr) rfl N.FDw.2.2 N.FDw.1.kp N.FDw.2.1 .nil A_ (@Ak _ _ _ _ _ rfl (pv 0) (@Ak _ _ _ _ _ rfl (pv 1) Aa))) (@Ak _ _ _ _ _ rfl (pv 6) (@Ak _ _ _ _ _ rfl (pv 7) Aa)))) Aa))))))))
   (@Aj _ _ _ (@BR _ _ _ _ (pv 4))))),?_⟩
  refine ⟨cm _,fun l hl=>?_⟩
  have s0:=Aw (o:=HO.lst []) hl
  have a0:Bh (upd H l (HO.lst [])) l [] []:=⟨Ag,.nil⟩
  generalize upd H l (HO.lst [])=H0 at s0 a0 ⊢
  obtain ⟨np1,np2⟩:=Jr D hl
  refine ⟨_,rfl,_,rfl,by omega,by omega,?_⟩
  rw [ce]
  refine Gn (lo:=0) (n:=many) (fun i σ H4=>∃ (ts:List Ro.T3) (ys:List V) (n':Nat) (v5 v6 v7:Option V),σ=[some (.ref dh),some (.int pn),some (.int len),some (.int (many:Nat)),some (.ref l),v5,v6,v7]/\Do H H4 dh pc/\DH H4 dh pc n'/\n'<=n+10 * i/\Bh H4 l ts ys/\(∀ t∈ts,jb pn len t)/\ts.length=i) ⟨[],[],n,_,_,_,rfl,Do.same s0,D.same s0,by omega,a0,fun t ht=>(nomatch ht),rfl⟩ ?_ ?_
  ·rintro i σ H4 hi ⟨ts,ys,n',v5,v6,v7,rfl,f4,D4,hn',A4,ok4,tl⟩
   refine ⟨_,rfl,_,rfl,dh,pc,n',len,rfl,D4,by omega,by omega,fun fi H5 fa fb D5 f5=>?_⟩
   refine ⟨_,rfl,_,_,rfl,rfl,_,rfl,_,rfl,_,rfl,_,_,rfl,rfl,dh,pc,n'+2,len - fi,rfl,D5,by omega,by omega,fun be H6 ba bb D6 f6=>⟨_,_,rfl,rfl,?_⟩⟩
   show CV 7 (V.int (fi+1+be)) _ _ _
   refine gN (i:=7) ?_
   dsimp only
   refine Z2 (fun σ' H'=>∃ (bh:Int) (n9:Nat),σ'=[some (.ref dh),some (.int pn),some (.int len),some (.int (many:Nat)),some (.ref l),some (.int (0+(i:Int))),some (.int fi),some (.int bh)]/\fi<bh/\bh<=len/\KD H4 H' dh pc/\DH H' dh pc n9/\n9<=n'+6) (fun D' rest=>?_) ?_
   ·refine ⟨_,rfl,dh,pc,n'+2+2,3,rfl,D6,by omega,by decide,by decide,fun x1 H7 _ _ D7 f7=>⟨rfl,_,rfl,Df (fun _=>?_) (fun _=>?_)⟩⟩
    ·refine ⟨_,rfl,_,rfl,_,_,rfl,rfl,_,rfl,dh,pc,n'+2+2+1,3,rfl,D7,by omega,by decide,by decide,fun x2 H8 x20 x21 D8 f8=>⟨_,_,rfl,rfl,_,_,rfl,?_⟩⟩
     refine rest _ _ ⟨(if fi+1+x2<len then fi+1+x2 else len),n'+2+2+1+1,rfl,by split <;> omega,by split <;> omega,KD.trans (KD.trans f5 f6) (KD.trans f7 f8),D8,by omega⟩
    ·exact rest _ _ ⟨fi+1+be,n'+2+2+1,rfl,by omega,by omega,KD.trans (KD.trans f5 f6) f7,D7,by omega⟩
   rintro σ H9 ⟨bh,n9,rfl,b0,b1,f9,D9,hn9⟩
   have A9:=(Do.of2 f9).rl D4 A4
   refine ⟨_,rfl,.inl ⟨rfl,_,lc A9.l⟩,_,rfl,_,rfl,dh,pc,n9,pn,rfl,D9,by omega,by omega,by omega,fun tr H10 ta tb D10 f10=>?_⟩
   have A10:=(Do.of2 f10).rl D9 A9
   refine ⟨_,rfl,_,rfl,by show 3<=sizeLine; decide,fun T0 hT0=>?_⟩
   have t11:=Aw (o:=HO.tup (Cm (tr,fi,bh))) hT0
   have A11:=A10.mono t11
   have u11:upd H10 T0 (HO.tup (Cm (tr,fi,bh))) T0=some (.tup (Cm (tr,fi,bh))):=Ag
   have D11:=D10.same t11
   have f411:Do H4 (upd H10 T0 (HO.tup (Cm (tr,fi,bh)))) dh pc:=(Do.of2 (KD.trans f9 f10)).trans (Do.same t11)
   generalize upd H10 T0 (HO.tup (Cm (tr,fi,bh)))=H11 at A11 u11 D11 f411 ⊢
   have yl:=A11.len
   refine ⟨l,_,_,rfl,rfl,A11.l,Az (by omega),?_⟩
   refine ⟨ts++[(tr,fi,bh)],_,n9+1,_,_,_,rfl,fun b o h1 h2 e=>?_,D11.upd np1 np2,by omega,A11.snoc u11,fun t ht=>?_,by rw [ar,tl]; rfl⟩
   ·rw [Am (Av e hl)]
    exact f411 _ _ h1 h2 (f4 _ _ h1 h2 e)
   ·rcases bp.mp ht with z | z
    ·exact ok4 t z
    ·rw [ai.mp z]
     exact ⟨ta,tb,fa,b0,b1⟩
  ·rintro σ H4 ⟨ts,ys,n',v5,v6,v7,rfl,f4,D4,hn',A4,ok4,tl⟩
   exact ⟨_,rfl,q l ts ys n' H4 hl f4 D4 (by omega) A4 ok4 (by omega)⟩
noncomputable def cj:Sp:=fun vs H Q _=>∃ (a:Addr) (d:List Ro.T3) (ys:List V) (m:Int),vs=[.ref a,.int m]/\Bh H a d ys/\d.length<450/\∀ (p:Addr) (zs:List V) (H':Hp),Aq H H'->H p=none->Bh H' p (d.map (Oc m)) zs->Q (.ref p) H'
theorem lO:BJ ["_law_stretches","_law_more"] ["_law_stretches","_law_more"] (Ah gQ):=CG
include N T in
theorem fB:BP P w K mg base Bp 1 aD.fLm aD.dLm ["_law_stretches","_law_more"] cj:=by
 refine N.FLm.1.ok lO (fun vs H Q E h=>?_) (fun cdv A outer s H vs Q E hr h=>?_)
 ·obtain ⟨a,d,ys,m,rfl,_⟩:=h
  rfl
 ·obtain ⟨a,d,ys,m,rfl,A,hz,q⟩:=h
  refine ⟨_,(@Aj _ _ _ (@BR _ _ _ _ (Yd rfl (Jg (osc:=Ah gQ) (N:=["_law_stretches","_law_more"]) rfl rfl (by decide +kernel)) (Bc (pv 0)) (fun _ _ _ _=>B_) (fun _ _ _ _=>(@Ce _ _ _ _ _ (@Ak _ _ _ _ _ rfl (BV Bv (pv 0) (pv 4)) (@Ak _ _ _ _ _ rfl (BV Bv (pv 1) (pv 4)) (@Ak _ _ _ _ _ rfl (pv 2) Aa)))))))),?_⟩
  have yl:=A.len
  refine ⟨_,rfl,a,rfl,⟨_,lc A.l⟩,Mv (K:=K) (l:=d) (vs:=ys) Gm (fun _=>true) (fun x=>Gm (Oc m x)) (lc A.l) A.p (fun x=>⟨_,_,_,rfl⟩) (Az (by omega)) (fun x hx v1 v2 v3 e H' hs R kk=>kk H' (Aq.refl H')) (fun x hx _ v1 v2 v3 e H' hs R kk=>?_) (fun D H2 z2 hD s2 hl hp=>?_)⟩
  ·cases e
   exact ⟨_,rfl,_,rfl,_,_,rfl,rfl,_,rfl,_,rfl,_,_,rfl,rfl,_,rfl,by show 3<=sizeLine; decide,fun t ht=>kk _ _ (Aw ht) ⟨t,rfl,Ag⟩⟩
  rw [cK.mpr (fun _ _=>rfl)] at hp
  exact q D z2 H2 s2 hD ⟨hl,CP _ hp⟩
theorem U4 (L:List Ro.T3) (x:Ro.T3) (d:List Ro.T3):Ma d (L++[x])=KH (Ma d L) x.1 x.2.1 x.2.2:=by
 unfold Ma
 rw [hV]
 rfl
theorem Py:∀ (L d:List Ro.T3),(Ma d L).length<=d.length+L.length
 | [],d=>ah _
 | x::L,d=>by
  have h2:(KH d x.1 x.2.1 x.2.2).length<=d.length+1:=by
   unfold KH
   split
   ·split
    ·rw [ar,kn]
     show _+1<=_
     omega
    ·rw [ar]; exact ah _
   ·rw [ar]; exact ah _
  have:=Py L (KH d x.1 x.2.1 x.2.2)
  show (Ma (KH d x.1 x.2.1 x.2.2) L).length<=_
  simp only [List.length_cons]
  omega
noncomputable def cg:Sp:=fun vs H Q _=>∃ (a:Addr) (d:List Ro.T3) (ys:List V),vs=[.ref a]/\Bh H a d ys/\d.length<900/\∀ (p:Addr) (zs:List V) (H':Hp),Aq H H'->H p=none->Bh H' p (Ma [] d) zs->Q (.ref p) H'
theorem Xh:BJ ["_law_stretches","_law_found","_law_one"] ["_law_stretches"] (Ah l_):=CG
include N T in
theorem d9:BP P w K mg base Bp 1 aD.fSm aD.dSm ["_law_stretches"] cg:=by
 refine N.FSm.1.ok Xh (fun vs H Q E h=>?_) (fun cdv A outer s H vs Q E hr h=>?_)
 ·obtain ⟨a,d,ys,rfl,_⟩:=h
  rfl
 ·obtain ⟨a,d,ys,rfl,A0,hz,q⟩:=h
  have hu:=Su hr
  refine ⟨_,(@Ae _ _ _ _ _ (@BL _ _ _ _ _ _ 1 Xh.nd rfl (Or.inl rfl) (@CN _ _ _ _ Aa) (by kernel_rfl) (.inl rfl))
   (@Ae _ _ _ _ _ (DR PassesOwn.never rfl (Bc (pv 0)) (Ba (i:=2) Xh.nd rfl (Or.inl rfl)) (@Ae _ _ _ _ _ (@Ca _ _ _ _ _ _ _ _ (PW.pt (J7 (Be (Vl (Nat.lt_of_succ_lt hu)) (pv 1) (@CN _ _ _ _ Aa) (Bf _)) (JF (Be Ej (@Ar _ _ _ _ _ _ _ (Ao (K:=K) rfl) (@Ar _ _ _ _ _ _ _ Bm (pv 1) (Kf Hz Ac) (fun _ _=>rfl)) Ac (fun _ _=>rfl)) (@Ar _ _ _ _ _ _ _ (Ao (K:=K) rfl) (pv 2) Ac (fun _ _=>rfl)) (Bf _))))) (@Aj _ _ _ (@BL _ _ _ _ _ _ 2 Xh.nd rfl (Or.inl rfl) (@Ce _ _ _ _ _ (@Ak _ _ _ _ _ rfl (@Ar _ _ _ _ _ _ _ (Ao (K:=K) rfl) (O_ bE jI jS O2 (pv 1)) Ac (fun _ _=>rfl)) (@Ak _ _ _ _ _ rfl (@Ar _ _ _ _ _ _ _ (Ao (K:=K) rfl) (pv 2) Ac (fun _ _=>rfl)) (@Ak _ _ _ _ _ rfl (@Ar _ _ _ _ _ _ _ (Ao (K:=K) rfl) (pv 2) Ac (fun _ _=>rfl)) Aa)))) (by kernel_rfl) (.inl rfl))) Bk)
   (@Aj _ _ _ (DG (Fz bE cr cy Bx (pv 1) (@Ak _ _ _ _ _ rfl (pv 2) Aa))))))
   (@Aj _ _ _ (@BR _ _ _ _ (pv 1))))),?_⟩
  have yl:=A0.len
  refine ⟨cm _,fun D hD=>?_⟩
  have s0:=Aw (o:=HO.lst []) hD
  have a0:Bh (upd H D (HO.lst [])) D [] []:=⟨Ag,.nil⟩
  generalize upd H D (HO.lst [])=H0 at s0 a0 ⊢
  refine ⟨_,rfl,a,rfl,⟨_,.inl (.inl (A0.mono s0).l)⟩,Er (K:=K) (a:=a) (xs:=ys) (fun i σ H4=>Aq H H4/\∃ (zs:List V) (v2:Option V),σ=[some (.ref a),some (.ref D),v2]/\Bh H4 D (Ma [] (d.take i)) zs) ⟨s0,[],_,rfl,a0⟩ (fun i σ H4 _ h=>.inl (.inl (A0.mono h.1).l)) ?_ ?_⟩
  ·rintro i y σ H4 hi ⟨s4,zs,v2,rfl,A4⟩
   obtain ⟨x,T0,hx,hxd,rfl,hT⟩:=(A0.mono s4).at hi
   have hil:=(af.mp hx).1
   have tk:d.take (i+1)=d.take i++[x]:=by rw [cf,hx]; rfl
   have edg:Ma [] (d.take (i+1))=KH (Ma [] (d.take i)) x.1 x.2.1 x.2.2:=by rw [tk,U4]
   have dlen:=Py (d.take i) []
   rw [ci,kz] at dlen
   generalize Ma [] (d.take i)=dd at A4 edg dlen
   have zl:=A4.len
   refine ⟨_,rfl,cm _,fun z hz9=>?_⟩
   have sz:=Aw (o:=HO.lst []) hz9
   refine ⟨D,z,zs,rfl,rfl,lc (sz _ _ A4.l),lc Ag,_,rfl,?_⟩
   have A5:=A4.mono sz
   have s5:=s4.trans sz
   have hT5:=sz _ _ hT
   generalize upd H4 z (HO.lst [])=H5 at A5 s5 hT5 sz ⊢
   have put:∀ {H6:Hp} {Tn:Addr} {ii:List Ro.T3} {zi:List V} {u:Ro.T3},Aq H H6->Bh H6 D ii zi->H6 Tn=some (.tup (Cm u))->ii.length<=900->Ma [] (d.take (i+1))=ii++[u]->zi.length<sizeLine/\Aq H (upd H6 D (.lst (zi++[.ref Tn])))/\Bh (upd H6 D (.lst (zi++[.ref Tn]))) D (Ma [] (d.take (i+1))) (zi++[.ref Tn]):=fun s6 A6 h6 hl e=>by
    have:=A6.len
    refine ⟨Az (by omega),fun b o e'=>by rw [Am (Av e' hD)]; exact s6 _ _ e',?_⟩
    rw [e]
    exact A6.snoc h6
   rcases ft dd with e0 | ⟨ini,h,e0⟩
   ·subst e0
    have hz0:zs=[]:=gy.mp (by rw [← zl]; rfl)
    subst hz0
    refine Dm (Dm ?_)
    obtain ⟨p1,p2,p3⟩:=put s5 A5 hT5 (by show 0<=900; decide) (show _=[]++[x] from edg)
    exact ⟨_,rfl,.inl ⟨rfl,_,lc A5.l⟩,_,rfl,D,_,_,rfl,rfl,A5.l,p1,p2,_,_,rfl,p3⟩
   ·rw [gS] at e0
    subst e0
    obtain ⟨zi,zh,ez⟩:∃ zi zh,zs=zi++[zh]:=by
     have hz:zs.length=ini.length+1:=by rw [← zl]; simp
     exact ⟨zs.dropLast,zs.getLast (by intro z; rw [z] at hz; simp at hz),(List.dropLast_concat_getLast _).symm⟩
    subst ez
    have hzi:zi.length=ini.length:=by simp at zl; omega
    obtain ⟨h',Th,hh',_,rfl,hTh⟩:=A5.at (i:=zi.length) (y:=zh) (by simp)
    have eh:h'=h:=by
     rw [hzi] at hh'
     simpa using hh'.symm
    subst eh
    have qL:CZ K H5 D (zi++[V.ref Th]):=.inl (.inl A5.l)
    have qh:Eg K H5 Th (Cm h'):=.inl (.inl hTh)
    have qT:Eg K H5 T0 (Cm x):=.inl (.inl hT5)
    have il:ini.length<=899:=by rw [ar,ck] at dlen; omega
    have ene:(!(zi++[V.ref Th]).isEmpty)=true:=by simp
    rw [ene]
    refine Ey ?_
    refine ⟨_,rfl,_,rfl,D,_,_,_,rfl,rfl,qL,Bw.Gq,Th,_,_,_,rfl,rfl,qh,Af (j:=2) rfl,_,rfl,T0,_,_,_,rfl,rfl,qT,Af (j:=2) rfl,rfl,_,rfl,?_⟩
    have eds:KH (ini++[h']) x.1 x.2.1 x.2.2=if h'.2.2=x.2.2 then ini++[(h'.1,x.2.1,x.2.2)] else (ini++[h'])++[(x.1,x.2.1,x.2.2)]:=by
     unfold KH
     rw [ko,fg]
    refine Df (fun g1=>?_) (fun g1=>?_)
    ·have g1':h'.2.2=x.2.2:=V.int.inj (of_decide_eq_true g1)
     rw [eds,if_pos g1'] at edg
     refine ⟨_,rfl,.inl ⟨rfl,_,qL⟩,D,_,V.ref Th,rfl,rfl,A5.l,by simp,?_⟩
     have L5:Bh (upd H5 D (HO.lst (zi++[V.ref Th]).dropLast)) D ini zi:=by
      rw [fg]
      refine ⟨Ag,Bl (ws:=zi) ?_ A5.l⟩
      have tk:=Og.GR A5.p ini.length
      rw [fT rfl,← hzi,fT rfl] at tk
      exact tk
     have hTh5:upd H5 D (HO.lst (zi++[V.ref Th]).dropLast) Th=some (.tup (Cm h')):=by rw [Am (Ei hTh A5.l (fun z=>by cases z))]; exact hTh
     have hT6:upd H5 D (HO.lst (zi++[V.ref Th]).dropLast) T0=some (.tup (Cm x)):=by rw [Am (Ei hT5 A5.l (fun z=>by cases z))]; exact hT5
     have s5':Aq H (upd H5 D (HO.lst (zi++[V.ref Th]).dropLast)):=fun b o e=>by rw [Am (Av e hD)]; exact s5 b o e
     generalize upd H5 D (HO.lst (zi++[V.ref Th]).dropLast)=H6 at L5 hTh5 hT6 s5' ⊢
     have qT6:Eg K H6 T0 (Cm x):=.inl (.inl hT6)
     refine ⟨Th,_,_,_,rfl,rfl,lc hTh5,Af (j:=0) rfl,_,rfl,T0,_,_,_,rfl,rfl,qT6,Af (j:=1) rfl,_,rfl,T0,_,_,_,rfl,rfl,qT6,Af (j:=2) rfl,by show 3<=sizeLine; decide,fun Tn hTn=>?_⟩
     have t7:=Aw (o:=HO.tup (Cm (h'.1,x.2.1,x.2.2))) hTn
     obtain ⟨p1,p2,p3⟩:=put (Tn:=Tn) (s5'.trans t7) (L5.mono t7) Ag (by omega) edg
     exact ⟨_,rfl,.inl ⟨rfl,_,.inl (.inl (L5.mono t7).l)⟩,_,rfl,D,_,_,rfl,rfl,(L5.mono t7).l,p1,p2,_,_,rfl,p3⟩
    ·have g1':¬ h'.2.2=x.2.2:=fun z=>g1 (decide_eq_true (by rw [z]))
     rw [eds,if_neg g1'] at edg
     obtain ⟨p1,p2,p3⟩:=put s5 A5 hT5 (by rw [ar,ck]; omega) edg
     exact ⟨_,rfl,.inl ⟨rfl,_,qL⟩,_,rfl,D,_,_,rfl,rfl,A5.l,p1,p2,_,_,rfl,p3⟩
  ·rintro σ H4 ⟨s4,zs,v2,rfl,A4⟩
   rw [bq (by omega)] at A4
   exact ⟨_,rfl,q D zs H4 s4 hD A4⟩
noncomputable def YT:Sp:=fun vs H Q _=>∃ (l:Addr) (d:List Ro.T3) (ys:List V) (a b:Int),vs=[.ref l,.int a,.int b]/\Bh H l d ys/\d.length<450/\∀ (p:Addr) (zs:List V) (H':Hp),Aq H H'->H p=none->Bh H' p (d.filterMap (KC a b)) zs->Q (.ref p) H'
theorem UT:BJ ["_law_stretches","_law_first","_law_behind","_law_found","_law_begin","_law_end","_law_wind"] ["_law_stretches","_law_first","_law_behind"] (Ah jK):=CG
include N T in
theorem cG:BP P w K mg base Bp 1 aD.fCu aD.dCu ["_law_stretches","_law_first","_law_behind"] YT:=by
 refine N.FCu.1.ok UT (fun vs H Q E h=>?_) (fun cdv A outer s H vs Q E hr h=>?_)
 ·obtain ⟨l,d,ys,a,b,rfl,_⟩:=h
  rfl
 ·obtain ⟨l,d,ys,a,b,rfl,A0,hz,q⟩:=h
  refine ⟨_,(@Ae _ _ _ _ _ (@BL _ _ _ _ _ _ 3 UT.nd rfl (Or.inl rfl) (@CN _ _ _ _ Aa) (by kernel_rfl) (.inl rfl))
   (@Ae _ _ _ _ _ (DR PassesOwn.never rfl (Bc (pv 0)) (Gi rfl (Bo (Ba (i:=4) UT.nd rfl (Or.inl rfl)) (Bo (Ba (i:=5) UT.nd rfl (Or.inl rfl)) (Bo (Ba (i:=6) UT.nd rfl (Or.inl rfl)) Em)))) (@Aj _ _ _ (@Ca _ _ _ _ _ _ _ _ (Be Ii (BK (FW rfl) rfl T.max ge (@Ak _ _ _ _ _ rfl (pv 4) (@Ak _ _ _ _ _ rfl (pv 1) Aa))) (BK (Gr rfl) rfl T.min gT (@Ak _ _ _ _ _ rfl (pv 5) (@Ak _ _ _ _ _ rfl (pv 2) Aa))) (Bf _)) (@Aj _ _ _ (DG (Fz bE cr cy Bx (pv 3) (@Ak _ _ _ _ _ rfl (@Ce _ _ _ _ _ (@Ak _ _ _ _ _ rfl (BV Fx (BK (FW rfl) rfl T.max ge (@Ak _ _ _ _ _ rfl (pv 4) (@Ak _ _ _ _ _ rfl (pv 1) Aa))) (pv 1)) (@Ak _ _ _ _ _ rfl (BV Fx (BK (Gr rfl) rfl T.min gT (@Ak _ _ _ _ _ rfl (pv 5) (@Ak _ _ _ _ _ rfl (pv 2) Aa))) (pv 1)) (@Ak _ _ _ _ _ rfl (pv 6) Aa)))) Aa)))) Bk)))
   (@Aj _ _ _ (@BR _ _ _ _ (pv 3))))),?_⟩
  have yl:=A0.len
  refine ⟨cm _,fun D hD=>?_⟩
  have s0:=Aw (o:=HO.lst []) hD
  have a0:Bh (upd H D (HO.lst [])) D [] []:=⟨Ag,.nil⟩
  generalize upd H D (HO.lst [])=H0 at s0 a0 ⊢
  refine ⟨_,rfl,l,rfl,⟨_,.inl (.inl (A0.mono s0).l)⟩,Er (K:=K) (a:=l) (xs:=ys) (fun i σ H4=>Aq H H4/\∃ (zs:List V) (v4 v5 v6:Option V),σ=[some (.ref l),some (.int a),some (.int b),some (.ref D),v4,v5,v6]/\Bh H4 D ((d.take i).filterMap (KC a b)) zs) ⟨s0,[],_,_,_,rfl,a0⟩ (fun i σ H4 _ h=>.inl (.inl (A0.mono h.1).l)) ?_ ?_⟩
  ·rintro i y σ H4 hi ⟨s4,zs,v4,v5,v6,rfl,A4⟩
   obtain ⟨x,T0,hx,hxd,rfl,hT⟩:=(A0.mono s4).at hi
   have tk:d.take (i+1)=d.take i++[x]:=by rw [cf,hx]; rfl
   have hil:=(af.mp hx).1
   have fl:((d.take i).filterMap (KC a b)).length<=i:=br (List.length_filterMap_le _ _) (by rw [ci]; omega)
   have zl:=A4.len
   have em1:(if a > x.1 then a else x.1)=max x.1 a:=by split <;> omega
   have em2:(if b<x.2.1 then b else x.2.1)=min x.2.1 b:=by split <;> omega
   refine ⟨T0,_,rfl,lc hT,rfl,_,_,rfl,_,_,rfl,_,_,rfl,rfl,?_⟩
   refine ⟨_,rfl,_,rfl,_,_,rfl,_,rfl,_,rfl,_,_,rfl,_,_,rfl,rfl,_,rfl,?_⟩
   dsimp only
   rw [em1,em2]
   refine Df (fun g=>?_) (fun g=>?_)
   ·have g':max x.1 a<min x.2.1 b:=of_decide_eq_true g
    have ec:(d.take (i+1)).filterMap (KC a b)=(d.take i).filterMap (KC a b)++[(max x.1 a - a,min x.2.1 b - a,x.2.2)]:=by
     rw [tk,List.filterMap_append,List.filterMap_cons,show KC a b x=some (max x.1 a - a,min x.2.1 b - a,x.2.2) from if_pos g']
     rfl
    refine ⟨_,rfl,.inl ⟨rfl,_,lc A4.l⟩,_,rfl,_,rfl,_,_,rfl,_,rfl,_,_,rfl,rfl,_,rfl,_,rfl,_,_,rfl,_,rfl,_,_,rfl,rfl,_,rfl,by show 3<=sizeLine; decide,fun Tn hTn=>?_⟩
    rw [em1,em2]
    have t7:=Aw (o:=HO.tup (Cm (max x.1 a - a,min x.2.1 b - a,x.2.2))) hTn
    have A7:=A4.mono t7
    refine ⟨D,_,_,rfl,rfl,A7.l,Az (by omega),fun b' o e=>?_,zs++[.ref Tn],_,_,_,rfl,?_⟩
    ·rw [Am (Av e hD)]
     exact t7 _ _ (s4 _ _ e)
    ·rw [ec]
     exact A7.snoc Ag
   ·have g':¬ max x.1 a<min x.2.1 b:=fun z=>g (decide_eq_true z)
    refine ⟨s4,zs,_,_,_,rfl,?_⟩
    rw [tk,List.filterMap_append,List.filterMap_cons,show KC a b x=none from if_neg g',List.filterMap_nil,List.append_nil]
    exact A4
  ·rintro σ H4 ⟨s4,zs,v4,v5,v6,rfl,A4⟩
   rw [bq (by omega)] at A4
   exact ⟨_,rfl,q D zs H4 s4 hD A4⟩
noncomputable def WK (K:PySem.W.Frag) (B:Hq):Sp:=fun vs H Q _=>∃ (a:Addr) (ns:List Int),vs=[.ref a]/\CZ K H a (ns.map V.int)/\ns.length<=63/\Tb B H/\∀ H',Q (.bl true) H'
theorem Tb.fr {B:Hq} {H H':Hp} {dh pc:Addr} {n:Nat} (t:Tb B H) (D:DH H dh pc n) (f:Do H H' dh pc):Tb B H':=by
 rcases t with t | ⟨c,t1,t2⟩
 ·exact .inl (FN D f t (by simp))
 ·exact .inr ⟨c,FN D f t1 (by simp),FN D f t2 (by unfold M8; simp)⟩
theorem DH.kp {B:Hq} {H H':Hp} {dh pc:Addr} {n:Nat} (D:DH H dh pc n) (k:Kp B H H'):DH H' dh pc n:=by
 obtain ⟨cs,m,r,e1,e2,e3⟩:=D
 exact ⟨cs,m,r,k _ _ (fun _ z=>by cases z) e1,k _ _ (fun _ z=>by cases z) e2,e3⟩
theorem Cq.fr {H H':Hp} {dh pc r:Addr} {n:Nat} {len:Int} {hs:List Ro.T3} (h:Cq H r len hs) (D:DH H dh pc n) (f:Do H H' dh pc):Cq H' r len hs:=by
 obtain ⟨p,zs,e,A⟩:=h
 exact ⟨p,zs,FN D f e (by simp),f.rl D A⟩
theorem SN.fin {K:PySem.W.Frag} {aB aP aM:Addr} {H:Hp} {p:Addr} {rk:List (Str × Nat × Int)} {vs:List V} (h:SN K aB aP aM H p rk vs) (h4:rk.length<=4):Rows H (Vy H) vs/\cB K aB aP aM (Vy H) vs [("x",1)] rk []/\linesOf rk (vs.map (Vy H))=[]:=by
 refine h.b.fin h.p (by decide) (by decide) (fun b hb=>?_) (by omega) (fun r hr=>(h.m r hr).2.1) (by decide) (by simp) ?_ (by simp) (by rw [List.length_cons,List.length_map]; omega)
 ·rw [ai.mp hb]
  decide
 ·refine Qx fun i j x hi hj=>?_
  rw [ax] at hi hj
  obtain ⟨a,ha,rfl⟩:=aE.mp hi
  obtain ⟨b,hb,e⟩:=aE.mp hj
  exact Tq (((h.n i a ha).1.symm.trans e.symm).trans (h.n j b hb).1)
theorem cL {rk:List (Str × Nat × Int)} (h:∀ r∈rk,1<=r.2.1/\r.2.1<=97/\0<=r.2.2/\r.2.2<=1000000000) (h4:rk.length<=4) (h1:1<=rk.length):(1<=(Gv rk).length/\(Gv rk).length<=388)/\∀ v∈Gv rk,0<=v/\v<=1000000000:=by
 rw [Uk _ rk rfl]
 have l1:=Uc (rk:=rk) fun r hr=>(h r hr).2.1
 refine ⟨⟨?_,by omega⟩,fun v hv=>?_⟩
 ·cases rk with
  | nil=>simp at h1
  | cons r rk =>
   unfold wL
   rw [gt,ar,cq]
   have:=(h r am).1
   omega
 ·unfold wL at hv
  obtain ⟨r,hr,hv⟩:=List.mem_flatMap.mp hv
  rw [List.eq_of_mem_replicate hv]
  exact (h r hr).2.2
theorem Vn {B:Hq} {C:Addr} {H H':Hp} {x:Addr} {bs:List (Str × Nat)} {rk:List (Str × Nat × Int)} {ks:List R} {ls:List (List Ln)} (k:Kp B H H') (O:Cr C H x bs rk ks ls):Cr C H' x bs rk ks ls:=by
 have kt:∀ {zs:List V} {y:V},TupAt H zs y->TupAt H' zs y:=fun h=>by
  obtain ⟨T,rfl,hT⟩:=h
  exact ⟨T,rfl,k _ _ (fun _ z=>by cases z) hT⟩
 have kl:∀ {l:Addr} {vs:List V},H l=some (.lst vs)->H' l=some (.lst vs):=fun h=>k _ _ (fun _ z=>by cases z) h
 obtain ⟨⟨⟨dx,fs,bl,bn,kp,kr,bvs,pvs,uvs,kvs,h1,l1,l2,l3,l4,lm,h2,h3,h4,h5,h6,h7,h8,h9⟩,a1,a2,a3⟩,⟨dx',fs',rl,rn,pp,kl',rvs,pvs',kvs',g1,m1,m2,m3,m4,g2,g3,g4,g5,g6,g7,lv,g8,g9⟩,b1,b2,b3⟩:=O
 refine ⟨⟨⟨dx,fs,bl,bn,kp,kr,bvs,pvs,uvs,kvs,k _ _ (fun _ z=>by cases z) h1,l1,l2,l3,l4,lm,kl h2,Paired.FJ h3 fun _ _=>kt,k _ _ (fun _ z=>by cases z) h4,h5,kl h6,Paired.FJ h7 fun _ _=>kt,kl h8,Paired.FJ h9 fun _ _=>kt⟩,a1,a2,a3⟩,⟨dx',fs',rl,rn,pp,kl',rvs,pvs',kvs',k _ _ (fun _ z=>by cases z) g1,m1,m2,m3,m4,kl g2,Paired.FJ g3 fun _ _=>kt,k _ _ (fun _ z=>by cases z) g4,g5,kl g6,Paired.FJ g7 fun _ _=>kt,lv,kl g8,Paired.FJ g9 fun l v h=>?_⟩,b1,b2,b3⟩
 obtain ⟨A,ts,e,k1,k2⟩:=h
 exact ⟨A,ts,e,kl k1,Paired.FJ k2 fun _ _=>kt⟩
structure GB (n:Nat) (len:Int) (hs:List Ro.T3):Prop where
 l1:1<=len
 l2:len<=1000000000
 c:Canon hs
 nn:hs.length<=10
 v:∀ x t,Cv hs x t->0<=x/\x<(n:Int)
 b:∀ h∈hs,0<=h.2.1/\h.2.1<h.2.2/\h.2.2<=len
theorem GB.of {n:Nat} {len:Int} {hs ts:List Ro.T3} (l1:1<=len) (l2:len<=1000000000) (c:Canon hs) (cv:∀ x t,Cv hs x t ↔ Cv ts x t) (hn:hs.length<=ts.length) (tn:ts.length<=10) (ok:∀ t∈ts,jb (n:Nat) len t):GB n len hs:=by
 refine ⟨l1,l2,c,by omega,fun x t hc=>?_,fun x hx=>?_⟩
 ·obtain ⟨h,hm,e,_⟩:=(cv x t).mp hc
  have:=ok h hm
  rw [← e]
  exact ⟨this.1,this.2.1⟩
 ·have hx1:x.2.1<x.2.2:=c.sep.1 x hx
  obtain ⟨h1,m1,e1,a1,b1⟩:=(cv x.1 x.2.1).mp ⟨x,hx,rfl,by omega,hx1⟩
  obtain ⟨h2,m2,e2,a2,b2⟩:=(cv x.1 (x.2.2 - 1)).mp ⟨x,hx,rfl,by omega,by omega⟩
  have o1:=ok h1 m1
  have o2:=ok h2 m2
  exact ⟨kU o1.2.2.1 a1,hx1,by have:=o2.2.2.2.2; omega⟩
theorem QW {H:Hp} {r:Addr} {len len':Int} {hs hs':List Ro.T3} (h:Cq H r len hs) (h':Cq H r len' hs'):len=len'/\hs=hs':=by
 obtain ⟨p,zs,e,A⟩:=h
 obtain ⟨p',zs',e',A'⟩:=h'
 rw [e] at e'
 injection e' with e'
 injection e' with e'
 injection e' with a1 e'
 injection e' with a2 _
 have b1:=V.int.inj a1
 have b2:=V.ref.inj a2
 subst b2
 exact ⟨b1,Qd A A'⟩
structure W7 (B:Hq) (C dh pc x bl r1 r2:Addr) (rk:List (Str × Nat × Int)) (l1 l2:Int) (h1 h2:List Ro.T3) (H:Hp) (n:Nat) (L:List (Addr × List Ro.T3)):Prop where
 D:DH H dh pc n
 T:Tb B H
 O:Cr C H x [("x",1)] rk [] []
 B:H bl=some (.lst [.ref r1,.ref r2])
 R1:Cq H r1 l1 h1
 R2:Cq H r2 l2 h2
 S:∀ q∈L,∃ ys,Bh H q.1 q.2 ys
section
variable {B:Hq} {x bl r1 r2 dh pc:Addr} {rk:List (Str × Nat × Int)} {l1 l2:Int} {h1 h2:List Ro.T3} {H H':Hp} {n n':Nat} {L:List (Addr × List Ro.T3)}
theorem Cq.sm {r:Addr} {len:Int} {hs:List Ro.T3} (h:Cq H r len hs) (s:Aq H H'):Cq H' r len hs:=by
 obtain ⟨p,zs,e,A⟩:=h
 exact ⟨p,zs,s _ _ e,A.mono s⟩
theorem W7.same (h:W7 B C dh pc x bl r1 r2 rk l1 l2 h1 h2 H n L) (s:Aq H H'):W7 B C dh pc x bl r1 r2 rk l1 l2 h1 h2 H' n L :=
 ⟨h.D.same s,h.T.same s,h.O.mono s,s _ _ h.B,Cq.sm h.R1 s,Cq.sm h.R2 s,fun q hq=>let ⟨ys,A⟩:=h.S q hq; ⟨ys,A.mono s⟩⟩
theorem W7.kp (h:W7 B C dh pc x bl r1 r2 rk l1 l2 h1 h2 H n L) (k:Kp B H H') (t:Tb B H'):W7 B C dh pc x bl r1 r2 rk l1 l2 h1 h2 H' n L :=
 ⟨DH.kp h.D k,t,Vn k h.O,k _ _ (fun _ z=>by cases z) h.B,h.R1.kp k,h.R2.kp k,fun q hq=>let ⟨ys,A⟩:=h.S q hq; ⟨ys,Bh.kp A k⟩⟩
theorem W7.fr (h:W7 B C dh pc x bl r1 r2 rk l1 l2 h1 h2 H n L) (f:KD H H' dh pc) (D:DH H' dh pc n'):W7 B C dh pc x bl r1 r2 rk l1 l2 h1 h2 H' n' L :=
 ⟨D,Tb.fr h.T h.D (Do.of2 f),Sd h.D (Do.of2 f) h.O,Ld h.D (Do.of2 f) h.B (fun v hv=>by simp at hv; rcases hv with rfl | rfl <;> exact ⟨_,rfl⟩),Cq.fr h.R1 h.D (Do.of2 f),Cq.fr h.R2 h.D (Do.of2 f),fun q hq=>let ⟨ys,A⟩:=h.S q hq; ⟨ys,(Do.of2 f).rl h.D A⟩⟩
theorem W7.add (h:W7 B C dh pc x bl r1 r2 rk l1 l2 h1 h2 H n L) {a:Addr} {d:List Ro.T3} {ys:List V} (A:Bh H a d ys):W7 B C dh pc x bl r1 r2 rk l1 l2 h1 h2 H n ((a,d)::L) :=
 ⟨h.D,h.T,h.O,h.B,h.R1,h.R2,fun q hq=>by
  rcases bi.mp hq with rfl | hq
  ·exact ⟨ys,A⟩
  ·exact h.S q hq⟩
end
theorem Zi {W:List Int} {hs:List Ro.T3} (hW:∀ v∈W,0<=v/\v<=1000000000) (hl:W.length<=388) (t:Int):0<=Dd W hs t/\Dd W hs t<2 ^ 41:=by
 unfold Dd
 have hm:∀ p∈Uw W.length hs t,p<W.length:=fun p hp=>(Li.mp hp).1
 obtain ⟨a,b⟩:=PL hW _ hm
 have hn:(Uw W.length hs t).length<=W.length:=by
  unfold Uw
  exact br (dS ..) (by rw [cS]; exact ah _)
 refine ⟨?_,by omega⟩
 have key:∀ l:List Int,(∀ n∈l,0<=n)->0<=l.sum:=by
  intro l
  induction l with
  | nil=>intro _; exact fz _
  | cons y l ih =>
   intro h
   rw [hZ]
   have:=h y am
   have:=ih fun n hn=>h n (av _ hn)
   omega
 exact key _ a
theorem C_.bd {f:Int->Int} {e:Int} {d:List Ro.T3} (h:C_ f e d) (hf:∀ t,0<=f t/\f t<2 ^ 41) (he:e<=1000000000000):mD d:=fun x hx=>by
 have:=h.g.in x hx
 have hw:=h.wd x hx x.1 (by omega) (by omega)
 rw [← hw]
 exact ⟨(hf _).1,(hf _).2,by omega⟩
noncomputable def Q3 (H:Hp) (r p:Addr) (len:Int) (hs:List Ro.T3):Prop:=H r=some (.tup [.int len,.ref p])/\∃ zs,Bh H p hs zs
theorem Q3.ro {H:Hp} {r p:Addr} {len:Int} {hs:List Ro.T3} (h:Q3 H r p len hs):Cq H r len hs:=let ⟨e,zs,A⟩:=h; ⟨p,zs,e,A⟩
noncomputable def N6 (dh pc:Addr) (H H':Hp):Prop:=∀ b o,(∀ ps,o ≠ .tbl ps)->b ≠ dh->b ≠ pc->H b=some o->H' b=some o
theorem N6.trans {dh pc:Addr} {H H1 H2:Hp} (a:N6 dh pc H H1) (b:N6 dh pc H1 H2):N6 dh pc H H2:=fun c o h1 h2 h3 e=>b c o h1 h2 h3 (a c o h1 h2 h3 e)
theorem N6.fr {dh pc:Addr} {H H':Hp} (f:Do H H' dh pc):N6 dh pc H H':=fun b o _ h1 h2 e=>f b o h1 h2 e
theorem N6.kp {B:Hq} {dh pc:Addr} {H H':Hp} (k:Kp B H H'):N6 dh pc H H':=fun b o h _ _ e=>k b o h e
theorem N6.org {B:Hq} {dh pc:Addr} {H H':Hp} {n:Nat} {x:Addr} {bs:List (Str × Nat)} {rk:List (Str × Nat × Int)} {ks:List R} {ls:List (List Ln)} (D:DH H dh pc n) (g:N6 dh pc H H') (O:Cr C H x bs rk ks ls):Cr C H' x bs rk ks ls:=by
 have f:Do H (fun b=>if b=dh \/ b=pc then H' b else H b) dh pc:=fun b o h1 h2 e=>by
  show (if b=dh \/ b=pc then H' b else H b)=some o
  rw [if_neg (fun z=>z.elim h1 h2)]
  exact e
 refine Vn (B:=B) (fun b o ho e=>?_) (Sd D f O)
 by_cases h:b=dh \/ b=pc
 ·rw [if_pos h] at e; exact e
 ·rw [if_neg h] at e
  exact g b o ho (fun z=>h (.inl z)) (fun z=>h (.inr z)) e
theorem Q3.fr {H H':Hp} {dh pc r p:Addr} {n:Nat} {len:Int} {hs:List Ro.T3} (h:Q3 H r p len hs) (D:DH H dh pc n) (f:Do H H' dh pc):Q3 H' r p len hs:=let ⟨e,zs,A⟩:=h; ⟨FN D f e (by simp),zs,f.rl D A⟩
theorem Q3.kp {B:Hq} {H H':Hp} {r p:Addr} {len:Int} {hs:List Ro.T3} (h:Q3 H r p len hs) (k:Kp B H H'):Q3 H' r p len hs:=let ⟨e,zs,A⟩:=h; ⟨k _ _ (fun _ z=>by cases z) e,zs,Bh.kp A k⟩
theorem Q3.upd {H:Hp} {r p b:Addr} {len:Int} {hs:List Ro.T3} {us ws:List V} (h:Q3 H r p len hs) (hb:H b=some (.lst us)) (ne:p ≠ b):Q3 (upd H b (.lst ws)) r p len hs:=by
 obtain ⟨e,zs,A⟩:=h
 exact ⟨by rw [Am (Ei e hb (fun z=>by cases z))]; exact e,zs,by rw [Am ne]; exact A.l,Bl A.p hb⟩
theorem Tb.nC {B:Hq} {H:Hp} {b:Addr} {us ws:List V} (t:Tb B H) (hb:H b=some (.lst us)):Tb B (upd H b (.lst ws)):=by
 rcases t with t | ⟨c,t1,t2⟩
 ·exact .inl (by rw [Am (Ei t hb (fun z=>by cases z))]; exact t)
 ·exact .inr ⟨c,by rw [Am (Ei t1 hb (fun z=>by cases z))]; exact t1,by rw [Am (Ei t2 hb (fun z=>by cases z))]; exact t2⟩
theorem DY:BJ ["_law_script","_law_drawn_here","_law_rows","_law_organ_here","_law_pipes","_law_barrels","_law_k","_law_length","_law_one","_law_other","_law_due","_law_both","_law_times","_law_slow","_law_first","_law_behind","_law_part","_law_longer","_law_pump","_law_caps"] ["_law_script"] (Ah Il):=CG
theorem Yu {f:Addr} {fd:FuncData} (F:DX K "law" "law" Il f fd) (N:V0 K mg C c1 aD) (T:Txt K w.params mg C aN aK aB aP aM) (K1:HH mg base c1 P1) (F0:Zw K aB aP aM):BP P w K mg base Bp 11 f fd ["_law_script"] (WK K (tb P1)):=by
 have GR1:BP P w K mg base Bp 5 aD.fR1 aD.dR1 ["length","spans"] (Ro.Lf (tb P1)):=aY N T K1
 have GEe:BP P w K mg base Bp 4 aD.fEe aD.dEe ["one","other"] (cA (tb P1)):=eF N T K1
 have GSl:BP P w K mg base Bp 4 aD.fSl aD.dSl ["roll","times"] (YQ (tb P1)):=Z9 N T K1
 have GRp:BP P w K mg base Bp 4 aD.fRp aD.dRp ["roll","first","behind"] (Xx (tb P1)):=eU N T K1
 refine F.ok DY (fun vs H Q E h=>?_) (fun cdv A outer s H vs Q E hr h=>?_)
 ·obtain ⟨a,ns,rfl,_⟩:=h
  rfl
 ·obtain ⟨a,ns,rfl,hS,hlen,hTb,q⟩:=h
  refine ⟨_,(@Ae _ _ _ _ _ (@BL _ _ _ _ _ _ 1 DY.nd rfl (Or.inl rfl) (An (cW N T) (ad hr) rfl N.FDn.2.2 N.FDn.1.kp N.FDn.2.1 .nil A_ (@Ak _ _ _ _ _ rfl (pv 0) (@Ak _ _ _ _ _ rfl Ac Aa))) (by kernel_rfl) (.inl rfl))
   (@Ae _ _ _ _ _ (@BL _ _ _ _ _ _ 2 DY.nd rfl (Or.inl rfl) (An (fM N T) (ad hr) rfl N.FLg.2.2 N.FLg.1.kp N.FLg.2.1 .nil A_ (@Ak _ _ _ _ _ rfl (pv 1) Aa)) (by kernel_rfl) (.inl rfl))
   (@Ae _ _ _ _ _ (@BL _ _ _ _ _ _ 3 DY.nd rfl (Or.inr rfl) (V3 N.FOi.2.2 (aF N T) hr rfl T.mC N.FOi.2.1 .nil A_ (@Ak _ _ _ _ _ rfl (pv 2) Aa)) (by kernel_rfl) (.inl rfl))
   (@Ae _ _ _ _ _ (@BL _ _ _ _ _ _ 4 DY.nd rfl (Or.inl rfl) (BK Bj rfl T.len dQ (@Ak _ _ _ _ _ rfl (An (d8 N T) (ad hr) rfl N.FLv.2.2 N.FLv.1.kp N.FLv.2.1 .nil A_ (@Ak _ _ _ _ _ rfl (pv 2) Aa)) Aa)) (by kernel_rfl) (.inl rfl))
   (@Ae _ _ _ _ _ (@BL _ _ _ _ _ _ 5 DY.nd rfl (Or.inl rfl) (@CN _ _ _ _ Aa) (by kernel_rfl) (.inl rfl))
   (@Ae _ _ _ _ _ (DR PassesOwn.never rfl (Ep rfl T.range (@Ak _ _ _ _ _ rfl Ac Aa)) (Ba (i:=6) DY.nd rfl (Or.inl rfl)) (@Ae _ _ _ _ _ (@BL _ _ _ _ _ _ 7 DY.nd rfl (Or.inl rfl) (BV Bv Ac (An (Uh N T) (ad hr) rfl N.FGr.2.2 N.FGr.1.kp N.FGr.2.1 .nil A_ (@Ak _ _ _ _ _ rfl (pv 1) (@Ak _ _ _ _ _ rfl (@Ar _ _ _ _ _ _ _ (Bu (K:=K) rfl) (@CN _ _ _ _ (@Ak _ _ _ _ _ rfl Ac (@Ak _ _ _ _ _ rfl (BV MK Ac Ac) Aa))) (An (QD N T) (ad hr) rfl N.FDw.2.2 N.FDw.1.kp N.FDw.2.1 .nil A_ (@Ak _ _ _ _ _ rfl (pv 1) (@Ak _ _ _ _ _ rfl Ac Aa))) (fun _ _=>rfl)) Aa)))) (by kernel_rfl) (.inl rfl))
   (@Aj _ _ _ (DG (Fz bE cr cy Bx (pv 5) (@Ak _ _ _ _ _ rfl (An GR1 (ad hr) rfl N.FR1.2.2 N.FR1.1.kp N.FR1.2.1 .nil A_ (@Ak _ _ _ _ _ rfl (pv 7) (@Ak _ _ _ _ _ rfl (An (du N T) (ad hr) rfl N.FSs.2.2 N.FSs.1.kp N.FSs.2.1 .nil A_ (@Ak _ _ _ _ _ rfl (pv 1) (@Ak _ _ _ _ _ rfl (pv 4) (@Ak _ _ _ _ _ rfl (pv 7) (@Ak _ _ _ _ _ rfl (An (QD N T) (ad hr) rfl N.FDw.2.2 N.FDw.1.kp N.FDw.2.1 .nil A_ (@Ak _ _ _ _ _ rfl (pv 1) (@Ak _ _ _ _ _ rfl Ac Aa))) Aa))))) Aa))) Aa))))))
   (@Ae _ _ _ _ _ (IK (Bt rfl (BX (osc:=Ah Il) (N:=["_law_script","_law_drawn_here","_law_rows","_law_organ_here","_law_pipes","_law_barrels","_law_k","_law_length","_law_one","_law_other","_law_due","_law_both","_law_times","_law_slow","_law_first","_law_behind","_law_part","_law_longer","_law_pump","_law_caps"]) rfl rfl (by decide +kernel)) (Bc (pv 5)) (fun _ _ _ _=>B_) (fun _ _ _ _=>(An (aj N T) (ad hr) rfl N.FDg.2.2 N.FDg.1.kp N.FDg.2.1 .nil A_ (@Ak _ _ _ _ _ rfl (pv 4) (@Ak _ _ _ _ _ rfl (pv 0) Aa))))) (Yx rfl (Bo (Ba (i:=8) DY.nd rfl (Or.inl rfl)) (Bo (Ba (i:=9) DY.nd rfl (Or.inl rfl)) Em))))
   (@Ae _ _ _ _ _ (@BL _ _ _ _ _ _ 7 DY.nd rfl (Or.inl rfl) (@Ar _ _ _ _ _ _ _ (Ao (K:=K) rfl) (@Ar _ _ _ _ _ _ _ (Bu (K:=K) rfl) (pv 5) Ac (fun _ _=>rfl)) Ac (fun _ _=>rfl)) (by kernel_rfl) (.inl rfl))
   (@Ae _ _ _ _ _ (@BL _ _ _ _ _ _ 10 DY.nd rfl (Or.inl rfl) (An (d9 N T) (ad hr) rfl N.FSm.2.2 N.FSm.1.kp N.FSm.2.1 .nil A_ (@Ak _ _ _ _ _ rfl (BV Hs (pv 8) (An (fB N T) (ad hr) rfl N.FLm.2.2 N.FLm.1.kp N.FLm.2.1 .nil A_ (@Ak _ _ _ _ _ rfl (pv 9) (@Ak _ _ _ _ _ rfl (pv 7) Aa)))) Aa)) (by kernel_rfl) (.inl rfl))
   (@Ae _ _ _ _ _ (@BL _ _ _ _ _ _ 11 DY.nd rfl (Or.inl rfl) (An (aj N T) (ad hr) rfl N.FDg.2.2 N.FDg.1.kp N.FDg.2.1 .nil A_ (@Ak _ _ _ _ _ rfl (pv 3) (@Ak _ _ _ _ _ rfl (An GEe (ad hr) rfl N.FEe.2.2 N.FEe.1.kp N.FEe.2.1 .nil A_ (@Ak _ _ _ _ _ rfl (@Ar _ _ _ _ _ _ _ (Bu (K:=K) rfl) (pv 5) Ac (fun _ _=>rfl)) (@Ak _ _ _ _ _ rfl (@Ar _ _ _ _ _ _ _ (Bu (K:=K) rfl) (pv 5) Ac (fun _ _=>rfl)) Aa))) Aa))) (by kernel_rfl) (.inl rfl))
   (@Ae _ _ _ _ _ (@BL _ _ _ _ _ _ 12 DY.nd rfl (Or.inr rfl) (BV Bv Ac (An (QD N T) (ad hr) rfl N.FDw.2.2 N.FDw.1.kp N.FDw.2.1 .nil A_ (@Ak _ _ _ _ _ rfl (pv 1) (@Ak _ _ _ _ _ rfl Ac Aa)))) (by kernel_rfl) (.inl rfl))
   (@Ae _ _ _ _ _ (@BL _ _ _ _ _ _ 13 DY.nd rfl (Or.inl rfl) (An (aj N T) (ad hr) rfl N.FDg.2.2 N.FDg.1.kp N.FDg.2.1 .nil A_ (@Ak _ _ _ _ _ rfl (pv 3) (@Ak _ _ _ _ _ rfl (An GSl (ad hr) rfl N.FSl.2.2 N.FSl.1.kp N.FSl.2.1 .nil A_ (@Ak _ _ _ _ _ rfl (@Ar _ _ _ _ _ _ _ (Bu (K:=K) rfl) (pv 5) Ac (fun _ _=>rfl)) (@Ak _ _ _ _ _ rfl (pv 12) Aa))) Aa))) (by kernel_rfl) (.inl rfl))
   (@Ae _ _ _ _ _ (@BL _ _ _ _ _ _ 14 DY.nd rfl (Or.inl rfl) (An (Uh N T) (ad hr) rfl N.FGr.2.2 N.FGr.1.kp N.FGr.2.1 .nil A_ (@Ak _ _ _ _ _ rfl (pv 1) (@Ak _ _ _ _ _ rfl (pv 7) Aa))) (by kernel_rfl) (.inl rfl))
   (@Ae _ _ _ _ _ (@BL _ _ _ _ _ _ 15 DY.nd rfl (Or.inl rfl) (BV Bv (BV Bv (pv 14) Ac) (An (Uh N T) (ad hr) rfl N.FGr.2.2 N.FGr.1.kp N.FGr.2.1 .nil A_ (@Ak _ _ _ _ _ rfl (pv 1) (@Ak _ _ _ _ _ rfl (BV Fx (pv 7) (pv 14)) Aa)))) (by kernel_rfl) (.inl rfl))
   (@Ae _ _ _ _ _ (@BL _ _ _ _ _ _ 16 DY.nd rfl (Or.inl rfl) (An (aj N T) (ad hr) rfl N.FDg.2.2 N.FDg.1.kp N.FDg.2.1 .nil A_ (@Ak _ _ _ _ _ rfl (pv 3) (@Ak _ _ _ _ _ rfl (An GRp (ad hr) rfl N.FRp.2.2 N.FRp.1.kp N.FRp.2.1 .nil A_ (@Ak _ _ _ _ _ rfl (@Ar _ _ _ _ _ _ _ (Bu (K:=K) rfl) (pv 5) Ac (fun _ _=>rfl)) (@Ak _ _ _ _ _ rfl (pv 14) (@Ak _ _ _ _ _ rfl (pv 15) Aa)))) Aa))) (by kernel_rfl) (.inl rfl))
   (@Ae _ _ _ _ _ (Yz (i:=17) DY.nd rfl rfl rfl (Jg (osc:=Ah Il) (N:=["_law_script","_law_drawn_here","_law_rows","_law_organ_here","_law_pipes","_law_barrels","_law_k","_law_length","_law_one","_law_other","_law_due","_law_both","_law_times","_law_slow","_law_first","_law_behind","_law_part","_law_longer","_law_pump","_law_caps"]) rfl rfl (by decide +kernel)) (Bc (pv 8)) (fun _ _ _ _=>B_) (fun _ _ _ _=>(@Ce _ _ _ _ _ (@Ak _ _ _ _ _ rfl (BV DW (pv 0) (pv 15)) (@Ak _ _ _ _ _ rfl (BV DW (pv 1) (pv 15)) (@Ak _ _ _ _ _ rfl (pv 2) Aa))))))
   (@Ae _ _ _ _ _ (@Ca _ _ _ _ _ _ _ _ (PW.pt (Ge (Be (Jp (bv (gx (by decide:8<=64) _) hr.units)) (pv 11) (pv 10) (Bf _)) (Gg (Be (Jp (bv (gx (by decide:8<=64) _) hr.units)) (pv 13) (pv 17) (Bf _))))) (@Aj _ _ _ (@BR _ _ _ _ Kq)) Bk)
   (@Ae _ _ _ _ _ (@Ca _ _ _ _ _ _ _ _ (Be (Jp (bv (gx (by decide:8<=64) _) hr.units)) (pv 16) (An (cG N T) (ad hr) rfl N.FCu.2.2 N.FCu.1.kp N.FCu.2.1 .nil A_ (@Ak _ _ _ _ _ rfl (pv 8) (@Ak _ _ _ _ _ rfl (pv 14) (@Ak _ _ _ _ _ rfl (pv 15) Aa)))) (Bf _)) (@Aj _ _ _ (@BR _ _ _ _ Kq)) Bk)
   (@Ae _ _ _ _ _ (@BL _ _ _ _ _ _ 18 DY.nd rfl (Or.inr rfl) (An (Uh N T) (ad hr) rfl N.FGr.2.2 N.FGr.1.kp N.FGr.2.1 .nil A_ (@Ak _ _ _ _ _ rfl (pv 1) (@Ak _ _ _ _ _ rfl (@Ar _ _ _ _ _ _ _ (Bu (K:=K) rfl) (@CN _ _ _ _ (@Ak _ _ _ _ _ rfl Ac (@Ak _ _ _ _ _ rfl (BV MK Ac Ac) Aa))) (An (QD N T) (ad hr) rfl N.FDw.2.2 N.FDw.1.kp N.FDw.2.1 .nil A_ (@Ak _ _ _ _ _ rfl (pv 1) (@Ak _ _ _ _ _ rfl Ac Aa))) (fun _ _=>rfl)) Aa))) (by kernel_rfl) (.inl rfl))
   (@Ae _ _ _ _ _ (Qo (i:=19) DY.nd rfl rfl rfl (BX (osc:=Ah Il) (N:=["_law_script","_law_drawn_here","_law_rows","_law_organ_here","_law_pipes","_law_barrels","_law_k","_law_length","_law_one","_law_other","_law_due","_law_both","_law_times","_law_slow","_law_first","_law_behind","_law_part","_law_longer","_law_pump","_law_caps"]) rfl rfl (by decide +kernel)) (Bc (@CN _ _ _ _ (@Ak _ _ _ _ _ rfl (pv 8) (@Ak _ _ _ _ _ rfl (pv 9) (@Ak _ _ _ _ _ rfl (pv 11) (@Ak _ _ _ _ _ rfl (pv 13) (@Ak _ _ _ _ _ rfl (pv 16) Aa))))))) (fun _ _ _ _=>B_) (fun _ _ _ _=>(@Ar _ _ _ _ _ _ _ (Ao (K:=K) rfl) (An (cN N T) (ad hr) rfl N.FLc.2.2 N.FLc.1.kp N.FLc.2.1 .nil A_ (@Ak _ _ _ _ _ rfl (pv 0) (@Ak _ _ _ _ _ rfl (pv 19) Aa))) Ac (fun _ _=>rfl))))
   (@Aj _ _ _ (@BR _ _ _ _ (Cj (Ef Ej (@Ar _ _ _ _ _ _ _ (Bu (K:=K) rfl) (pv 19) Ac (fun _ _=>rfl)) (BV DW (@Ar _ _ _ _ _ _ _ (Bu (K:=K) rfl) (pv 19) Ac (fun _ _=>rfl)) (pv 12)) (Bf _)) (Cj (Ef Dc (@Ar _ _ _ _ _ _ _ (Bu (K:=K) rfl) (pv 19) Ac (fun _ _=>rfl)) (@Ar _ _ _ _ _ _ _ (Bu (K:=K) rfl) (pv 19) Ac (fun _ _=>rfl)) (Bf _)) (Cu (Ef X8 (@Ar _ _ _ _ _ _ _ (Bu (K:=K) rfl) (pv 19) Ac (fun _ _=>rfl)) (BK (FW rfl) rfl T.max ge (@Ak _ _ _ _ _ rfl (@Ar _ _ _ _ _ _ _ (Bu (K:=K) rfl) (pv 19) Ac (fun _ _=>rfl)) (@Ak _ _ _ _ _ rfl (@Ar _ _ _ _ _ _ _ (Bu (K:=K) rfl) (pv 19) Ac (fun _ _=>rfl)) Aa))) (Bf _))))))))))))))))))))))))))),?_⟩
  refine ⟨_,rfl,a,61,ns,rfl,hS,by decide,by decide,hlen,fun dh pc H1 hdh hpc s1 D1=>?_⟩
  refine ⟨_,rfl,dh,pc,0,rfl,D1,by decide,F0,fun p rk vs' n2 H2 hp f2 D2 hn2 R2 r1 r4=>?_⟩
  have T2:=Tb.fr (hTb.same s1) D1 f2
  obtain ⟨⟨wl1,wl2⟩,wb⟩:=cL R2.m r4 r1
  obtain ⟨RW,O4,eL⟩:=R2.fin r4
  refine ⟨_,rfl,?_⟩
  intro x dx nx ndx nex
  have sx:Aq H2 (upd (upd H2 dx (.own x)) x (.ins C dx [])):=fun b o e=>by
   rw [Am (Av e nx),Am (Av e ndx)]
   exact e
  refine ⟨x,dx,p,vs',Vy H2,[("x",1)],rk,[],rfl,Ag,sx _ _ R2.l,RW.mono sx,O4,fun H3 OA SXh=>⟨rfl,?_⟩⟩
  rw [eL] at OA
  have s3:Aq H2 H3:=fun b o e=>SXh b o (sx b o e) (Av e nx)
  clear SXh sx nx ndx nex RW O4 eL
  refine ⟨_,rfl,p,rk,vs',rfl,R2.fr D2 (Do.same s3),r4,fun lw H4 hlw s4 aw=>?_⟩
  refine ⟨lw,_,rfl,lc (.inl aw),?_⟩
  rw [ag]
  refine ⟨cm _,fun bl hbl=>?_⟩
  obtain ⟨H5,eqH,s5,u5⟩:=HD (o:=HO.lst []) hbl
  rw [eqH]
  have D4:DH H4 dh pc n2:=(D2.same s3).same s4
  obtain ⟨nb1,nb2⟩:=Jr D4 hbl
  have O4:=OA.mono s4
  have T5:=(T2.same (s3.trans s4)).same s5
  have D5:=D4.same s5
  clear OA T2 D2 R2 aw s3 s4 f2 D1 s1
  have k9:(10:Int) ^ (9:Int).toNat=1000000000:=by decide
  have k10:(10:Int) ^ (10:Int).toNat=10000000000:=by decide
  generalize hW:Gv rk=W at wl1 wl2 wb ⊢
  refine ⟨_,rfl,by decide,by decide,?_⟩
  refine Gn (lo:=0) (n:=2) (fun i σ H6=>∃ (bs:List (Addr × Addr × Int × List Ro.T3)) (n6:Nat) (v6 v7:Option V),σ=[some (.ref a),some (.ref dh),some (.ref p),some (.ref x),some (.int (W.length:Nat)),some (.ref bl),v6,v7,none,none,none,none,none,none,none,none,none,none,none,none]/\bs.length=i/\DH H6 dh pc n6/\n6<=30+300 * i/\Tb (tb P1) H6/\N6 dh pc H4 H6/\H6 bl=some (.lst (bs.map fun q=>V.ref q.1))/\∀ q∈bs,Q3 H6 q.1 q.2.1 q.2.2.1 q.2.2.2/\q.2.1 ≠ bl/\GB W.length q.2.2.1 q.2.2.2) ⟨[],n2,_,_,rfl,rfl,D5,by omega,T5,N6.fr (Do.same s5),u5,fun q hq=>(nomatch hq)⟩ ?_ ?_
  ·rintro i σ H6 hi ⟨bs,n6,v6,v7,rfl,bn,D6,hn6,T6,g6,u6,RB⟩
   refine ⟨_,rfl,_,_,rfl,rfl,⟨by decide,by decide,by decide⟩,by show 2<=sizeLine; decide,fun l7 hl7=>?_⟩
   obtain ⟨H7,eqH,s7,u7⟩:=HD (o:=HO.lst [V.int 40,V.int ((10:Int) ^ (9:Int).toNat)]) hl7
   rw [eqH]
   rw [k9] at u7
   obtain ⟨ne71,ne72⟩:=Jr D6 hl7
   refine ⟨_,rfl,dh,pc,n6,2,rfl,D6.same s7,by omega,by decide,by decide,fun c0 H8 ca cb D8 f8=>?_⟩
   have u8:=Do.of2 f8 _ _ ne71 ne72 u7
   obtain ⟨most,hat,mo1,mo2⟩:∃ most:Int,Mf [V.int 40,V.int 1000000000] c0=some (.int most)/\0<most/\most<=1000000000:=by
    have:c0=0 \/ c0=1:=by omega
    rcases this with e | e <;> rw [e]
    ·exact ⟨40,Af (j:=0) rfl,by decide,by decide⟩
    ·exact ⟨1000000000,Af (j:=1) rfl,by decide,by decide⟩
   refine ⟨l7,_,_,_,rfl,rfl,lc u8,hat,dh,pc,n6+1,most,rfl,D8,by omega,mo1,fun g9 H9 ga gb D9 f9=>⟨_,_,rfl,rfl,?_⟩⟩
   have f69:Do H6 H9 dh pc:=(Do.same s7).trans (Do.of2 (KD.trans f8 f9))
   have D6':=D6
   have u9:=f69 _ _ nb1 nb2 u6
   have T9:=Tb.fr T6 D6 f69
   have len1:1<=1+g9:=by omega
   have len2:1+g9<=1000000000:=by omega
   show CV 7 (V.int (1+g9)) _ _ _
   generalize 1+g9=len at len1 len2 ⊢
   refine gN (i:=7) ?_
   dsimp only
   refine ⟨_,rfl,.inl ⟨rfl,_,lc u9⟩,_,rfl,_,rfl,_,rfl,_,rfl,_,rfl,dh,pc,n6+1+2,11,rfl,D9,by omega,by decide,by decide,fun m10 H10 ma mb D10 f10=>?_⟩
   obtain ⟨mm,em⟩:=Int.eq_ofNat_of_zero_le ma
   rw [em]
   refine ⟨dh,pc,n6+1+2+1,_,len,mm,rfl,D10,by omega,by omega,by omega,len1,by omega,fun ls ts ys n11 H11 hls f11 D11 hn11 A11 ok11 tl11=>?_⟩
   have f911:Do H9 H11 dh pc:=(Do.of2 f10).trans f11
   have yl:=A11.len
   refine ⟨ls,ts,ys,len,rfl,by omega,by omega,A11,by omega,fun t ht=>?_,Tb.fr T9 D9 f911,fun r hs H12 kp12 T12 RF12 cn12 cv12 hl12=>?_⟩
   ·obtain ⟨o1,o2,o3,o4,o5⟩:=ok11 t ht
    exact ⟨o1,by omega,o3,o4,o5⟩
   have u11:=f911 _ _ nb1 nb2 u9
   have u12:=kp12 _ _ (fun _ z=>by cases z) u11
   obtain ⟨pN,zN,nN,eN,AN⟩:=RF12
   have neN:pN ≠ bl:=fun z=>by rw [z,u11] at nN; cases nN
   have G12:GB W.length len hs:=GB.of len1 len2 cn12 cv12 hl12 (by omega) ok11
   have f611:=f69.trans f911
   have g12:N6 dh pc H4 H12:=(g6.trans (N6.fr f611)).trans (N6.kp kp12)
   refine ⟨bl,_,_,rfl,rfl,u12,Az (by rw [ag]; omega),?_⟩
   refine ⟨bs++[(r,pN,len,hs)],n11,_,_,rfl,by rw [ar,bn]; rfl,(DH.kp D11 kp12).upd nb1 nb2,by omega,Tb.nC T12 u12,fun b o h1 h2 h3 e=>?_,?_,fun q hq=>?_⟩
   ·rw [Am (Av e hbl)]
    exact g12 b o h1 h2 h3 e
   ·rw [Ag,dA]
    rfl
   ·rcases bp.mp hq with hq | hq
    ·obtain ⟨R,ne,G⟩:=RB q hq
     exact ⟨((R.fr D6 f611).kp kp12).upd u12 ne,ne,G⟩
    ·rw [ai.mp hq]
     exact ⟨Q3.upd ⟨eN,zN,AN⟩ u12 neN,neN,G12⟩
  rintro σ H6 ⟨bs,n6,v6,v7,rfl,bn,D6,hn6,T6,g6,u6,RB⟩
  obtain ⟨⟨r1,p1,l1,h1⟩,⟨r2,p2,l2,h2⟩,rfl⟩:∃ q1 q2,bs=[q1,q2]:=by
   match bs,bn with
   | [q1,q2],_=>exact ⟨q1,q2,rfl⟩
  obtain ⟨R1,_,B1⟩:=RB _ am
  obtain ⟨R2,_,B2⟩:=RB _ (av _ am)
  have W0:W7 (tb P1) C dh pc x bl r1 r2 rk l1 l2 h1 h2 H6 n6 []:=⟨D6,T6,N6.org (B:=tb P1) D4 g6 O4,u6,R1.ro,R2.ro,fun q hq=>(nomatch hq)⟩
  clear RB R1 R2 u6 g6 T6 D6 O4 T5 D5 D4 u5 s5 hbl nb1 nb2 hlw bn
  dsimp only at B1 B2 W0
  have wd:(Gv rk).length<=1000:=by rw [hW]; omega
  have wb':∀ v∈Gv rk,0<=v/\v<=1000000000:=by rw [hW]; exact wb
  have SqB:∀ {Hx:Hp},Hx bl=some (.lst [V.ref r1,V.ref r2])->CZ K Hx bl [V.ref r1,V.ref r2]:=fun h=>.inl (.inl h)
  have fin:∀ {len:Int} {hs:List Ro.T3} {TT:List Int},0<=len->Ws len hs->hs.length<=48->Tks len hs TT->C_ (Dd W hs) len (Lx (Dd (Gv rk) hs) [] TT)/\(Lx (Dd (Gv rk) hs) [] TT).length<=100:=fun {len hs TT} h0 hi hl k=>⟨by rw [← hW]; exact k.all (Gv rk) h0 hi,by have h1:=Lq (Dd (Gv rk) hs) TT []; have h2:=k.len; rw [kz] at h1; omega⟩
  have ps1:∀ t∈h1,t.2.1<t.2.2:=fun t ht=>(B1.b t ht).2.1
  have ps2:∀ t∈h2,t.2.1<t.2.2:=fun t ht=>(B2.b t ht).2.1
  obtain ⟨b1a,b1b,_,b1n,b1v,b1i⟩:=id B1
  obtain ⟨b2a,b2b,_,b2n,b2v,b2i⟩:=id B2
  refine ⟨_,rfl,bl,rfl,⟨_,SqB W0.B⟩,Tu (K:=K) (fun H y b=>∃ r len hs d ys,y=V.ref r/\Cq H6 r len hs/\Bh H b d ys/\C_ (Dd W hs) len d/\d.length<=100) ?_ ?_ (SqB W0.B) (Az (show 2<=1000 by decide)) (fun y hy H' hs R kk=>kk H' (Aq.refl H')) (fun y hy H' s' R kk=>?_) (fun D7 H7 zs7 hD7 s7 hl7 B7=>?_)⟩
  ·rintro H H' y b s ⟨r,len,hs,d,ys,e1,e2,A,e4⟩
   exact ⟨r,len,hs,d,ys,e1,e2,A.mono s,e4⟩
  ·rintro H y b D us ws hD ne ⟨r,len,hs,d,ys,e1,e2,A,e4⟩
   exact ⟨r,len,hs,d,ys,e1,e2,⟨by rw [Am ne]; exact A.l,Bl A.p hD⟩,e4⟩
  ·have W1:=W0.same s'
   have go:∃ r len hs,y=V.ref r/\Cq H6 r len hs/\GB W.length len hs:=by
    rcases bi.mp hy with rfl | hy
    ·exact ⟨_,_,_,rfl,W0.R1,B1⟩
    ·rw [ai.mp hy]
     exact ⟨_,_,_,rfl,W0.R2,B2⟩
   obtain ⟨r,len,hs,rfl,R6,ga,gb,gc,gn,gv,gi⟩:=go
   refine ⟨_,rfl,_,rfl,x,r,_,rk,_,_,len,hs,rfl,W1.O,wd,wb',Cq.sm R6 s',gc,by omega,by rw [hW]; exact gv,fun D TT ys H'' hD s'' Kt A=>?_⟩
   exact kk D H'' hD s'' ⟨r,len,hs,_,ys,rfl,R6,A,fin (by omega) gi (by omega) Kt⟩
  cases B7 with
  | cons z1 B7 =>
  cases B7 with
  | cons z2 B7 =>
  cases B7
  obtain ⟨a1,rfl,_,q1,len1,hs1,d1,ys1,e1,e2,A1,G1,dl1⟩:=z1
  cases e1
  obtain ⟨rfl,rfl⟩:=QW W0.R1 e2
  clear e2
  obtain ⟨a2,rfl,_,q2,len2,hs2,d2,ys2,e1,e2,A2,G2,dl2⟩:=z2
  cases e1
  obtain ⟨rfl,rfl⟩:=QW W0.R2 e2
  clear e2
  refine ⟨D7,_,rfl,lc hl7,rfl,_,_,rfl,_,_,rfl,rfl,?_⟩
  have W1:=((W0.same s7).add A1).add A2
  clear hl7 s7 W0 B1 B2
  obtain ⟨pr1,zr1,er1,Ar1⟩:=id W1.R1
  refine ⟨_,rfl,bl,_,_,_,rfl,rfl,SqB W1.B,Af (j:=0) rfl,r1,_,_,_,rfl,rfl,lc er1,Af (j:=0) rfl,?_⟩
  clear er1 Ar1
  refine ⟨_,rfl,_,rfl,_,rfl,a2,d2,ys2,l1,rfl,A2,by omega,fun p8 zs8 H8 s8 hp8 A8=>?_⟩
  have yl1:=A1.len
  have yl8:=A8.len
  rw [ag] at yl8
  refine ⟨a1,p8,_,_,rfl,rfl,s8 _ _ A1.l,A8.l,FQ (by omega),fun p9 hp9=>?_⟩
  have s9:=Aw (o:=HO.lst (ys1++zs8)) hp9
  have A9:Bh (upd H8 p9 (HO.lst (ys1++zs8))) p9 (d1++d2.map (Oc l1)) (ys1++zs8):=⟨Ag,Eb (A1.mono (s8.trans s9)).p (A8.mono s9).p⟩
  generalize upd H8 p9 (HO.lst (ys1++zs8))=H9 at s9 A9 ⊢
  refine ⟨p9,_,_,rfl,A9,by rw [ar,ag]; omega,fun p10 zs10 H10 s10 hp10 A10=>?_⟩
  have W2:=(W1.same (s8.trans (s9.trans s10))).add A10
  clear A9 A8 s8 s9 s10 W1 A10 A1 A2 hp8 hp9 hp10
  refine ⟨_,rfl,_,rfl,bl,_,_,_,rfl,rfl,SqB W2.B,Af (j:=0) rfl,_,rfl,bl,_,_,_,rfl,rfl,SqB W2.B,Af (j:=1) rfl,r1,r2,l1,l2,h1,h2,rfl,W2.R1,W2.R2,by omega,ps1,ps2,by omega,W2.T,fun rb hb H11 k11 T11 RF11 cn11 cv11 n11=>?_⟩
  have W3:=W2.kp k11 T11
  refine ⟨x,rb,_,rk,_,_,l1+l2,hb,rfl,W3.O,wd,wb',RF11.ro,cn11,by omega,fun z t c=>by rw [hW]; exact ((cv11 z t).mp c).elim (b1v z t) (b2v z _),fun Db TT ysb H12 hDb s12 Kb Ab=>?_⟩
  obtain ⟨Gb,Lb⟩:=fin (by omega) (in_of cn11 fun z t c=>by
   rcases (cv11 z t).mp c with c | c
   ·have:=Ws.cov b1i c; omega
   ·have:=Ws.cov b2i c; omega) (by omega) Kb
  generalize Lx (Dd (Gv rk) hb) [] TT=db at Ab Gb Lb
  obtain ⟨eb,tkb⟩:=Wh b1i b2i cv11 G1 G2 Gb
  have W4:=(W3.same s12).add Ab
  clear Ab s12 W3 W2 k11 T11 RF11 Kb cv11 cn11 n11 hDb TT
  refine ⟨_,rfl,dh,pc,n6,300,rfl,W4.D,by omega,by decide,by decide,fun c13 H13 ca cb D13 f13=>⟨_,_,rfl,rfl,?_⟩⟩
  have W5:=W4.fr f13 D13
  have km1:1<=1+c13:=by omega
  have km2:1+c13<=300:=by omega
  show CV 12 (V.int (1+c13)) _ _ _
  generalize 1+c13=km at km1 km2 ⊢
  obtain ⟨k,rfl⟩:=Int.eq_ofNat_of_zero_le (show 0<=km by omega)
  refine gN (i:=12) ?_
  dsimp only
  clear W4 f13 D13 ca cb
  have lk:l1 * (k:Int)<=1000000000 * 300:=Int.mul_le_mul b1b km2 (by omega) (by decide)
  have lk0:0<=l1 * (k:Int):=iS (by omega) (by omega)
  refine ⟨_,rfl,_,rfl,bl,_,_,_,rfl,rfl,SqB W5.B,Af (j:=0) rfl,_,rfl,r1,l1,(k:Nat),h1,rfl,W5.R1,ps1,by omega,km1,by omega,by omega,by omega,fun t ht=>by have:=b1i t ht; omega,W5.T,fun rs hs H14 k14 T14 RF14 cn14 cv14 n14=>?_⟩
  have W6:=W5.kp k14 T14
  have cw:∀ z t,Cv hs z t->Cv h1 z (t / (k:Int)):=fun z t c=>(Pk km1).mp ((cv14 z t).mp c)
  refine ⟨x,rs,_,rk,_,_,l1 * (k:Nat),hs,rfl,W6.O,wd,wb',RF14.ro,cn14,by omega,fun z t c=>by rw [hW]; exact b1v z _ (cw z t c),fun Ds TT yss H15 hDs s15 Ks As=>?_⟩
  obtain ⟨Gs,Ls⟩:=fin lk0 (in_of cn14 fun z t c=>by
   obtain ⟨u1,u2⟩:=Ws.cov b1i (cw z t c)
   have v1:=(Int.le_ediv_iff_mul_le (show 0<(k:Int) by omega)).mp u1
   have v2:=(Int.ediv_lt_iff_lt_mul (show 0<(k:Int) by omega)).mp u2
   rw [Int.zero_mul] at v1
   exact ⟨v1,v2⟩) (by omega) Ks
  generalize Lx (Dd (Gv rk) hs) [] TT=ds at As Gs Ls
  obtain ⟨es,tks⟩:=WW (by omega) cv14 G1 Gs
  have W7':=(W6.same s15).add As
  clear As s15 W6 W5 k14 T14 RF14 Ks cv14 cn14 n14 hDs TT cw
  refine ⟨_,rfl,_,rfl,dh,pc,n6+1,l1,rfl,W7'.D,by omega,by omega,fun g15 H16 ga gb D16 f16=>?_⟩
  have W8:=W7'.fr f16 D16
  refine ⟨_,rfl,_,_,rfl,rfl,_,rfl,_,rfl,_,rfl,_,_,rfl,rfl,dh,pc,n6+1+2,l1 - g15,rfl,W8.D,by omega,by omega,fun g16 H17 gc gd D17 f17=>⟨_,_,rfl,rfl,?_⟩⟩
  have W9:=W8.fr f17 D17
  have be1:g15<g15+1+g16:=by omega
  have be2:g15+1+g16<=l1:=by omega
  show CV 15 (V.int (g15+1+g16)) _ _ _
  generalize g15+1+g16=be at be1 be2 ⊢
  refine gN (i:=15) ?_
  dsimp only
  clear W8 W7' f16 f17 D16 D17 gb gc gd
  refine ⟨_,rfl,_,rfl,bl,_,_,_,rfl,rfl,SqB W9.B,Af (j:=0) rfl,_,rfl,_,rfl,r1,l1,g15,be,h1,rfl,W9.R1,by omega,by omega,ga,by omega,be2,W9.T,fun rp hp' H18 k18 T18 RF18 cn18 cv18 n18=>?_⟩
  have W10:=W9.kp k18 T18
  refine ⟨x,rp,_,rk,_,_,be - g15,hp',rfl,W10.O,wd,wb',RF18.ro,cn18,by omega,fun z t c=>by rw [hW]; exact b1v z _ ((cv18 z t).mp c).2.2,fun Dp TT ysp H19 hDp s19 Kp' Ap=>?_⟩
  obtain ⟨Gp,Lp⟩:=fin (by omega) (in_of cn18 fun z t c=>let ⟨u,v,_⟩:=(cv18 z t).mp c; ⟨u,v⟩) (by omega) Kp'
  generalize Lx (Dd (Gv rk) hp') [] TT=dp at Ap Gp Lp
  obtain ⟨ep,tkp⟩:=ZC ga be1 be2 cv18 G1 Gp
  have W11:=(W10.same s19).add Ap
  clear Ap s19 W10 W9 k18 T18 RF18 Kp' cv18 cn18 n18 hDp TT
  obtain ⟨y1,A1⟩:=W11.S (a1,d1) (by simp)
  dsimp only at A1
  have yl:=A1.len
  refine ⟨_,rfl,a1,rfl,⟨_,lc A1.l⟩,Mv (K:=K) (l:=d1) (vs:=y1) Gm (fun _=>true) (fun x=>Gm (SQ (k:Nat) x)) (lc A1.l) A1.p (fun x=>⟨_,_,_,rfl⟩) (Az (by omega)) (fun x hx v1 v2 v3 e H' hs R kk=>kk H' (Aq.refl H')) (fun x hx _ v1 v2 v3 e H' hs R kk=>?_) (fun D20 H20 z20 hD20 s20 hl20 hp20=>?_)⟩
  ·cases e
   exact ⟨_,rfl,_,rfl,_,_,rfl,rfl,.inr ⟨by omega,by omega⟩,_,rfl,_,rfl,_,_,rfl,rfl,.inr ⟨by omega,by omega⟩,_,rfl,by show 3<=sizeLine; decide,fun t ht=>kk _ _ (Aw ht) ⟨t,rfl,Ag⟩⟩
  rw [cK.mpr (fun _ _=>rfl)] at hp20
  have A20:Bh H20 D20 (d1.map (SQ (k:Nat))) z20:=⟨hl20,CP _ hp20⟩
  have W12:=(W11.same s20).add A20
  clear W11 A20 hp20 hl20 s20 hD20 A1 yl y1
  obtain ⟨yb,Ab⟩:=W12.S (Db,db) (by simp)
  obtain ⟨yd,Ad⟩:=W12.S (p10,Ma [] (d1++d2.map (Oc l1))) (by simp)
  obtain ⟨ys',As⟩:=W12.S (Ds,ds) (by simp)
  obtain ⟨yl,Al⟩:=W12.S (D20,d1.map (SQ (k:Nat))) (by simp)
  dsimp only at Ab Ad As Al
  rw [← eb] at Ad
  rw [← es] at Al
  refine ⟨_,rfl,_,rfl,Db,p10,db,yb,yd,rfl,rfl,Ab,Ad,_,rfl,?_⟩
  refine Dm ⟨_,rfl,_,rfl,Ds,D20,ds,ys',yl,rfl,rfl,As,Al,_,rfl,Dm ?_⟩
  clear Ab Ad As Al
  obtain ⟨y1,A1⟩:=W12.S (a1,d1) (by simp)
  obtain ⟨yp,Ap⟩:=W12.S (Dp,dp) (by simp)
  refine ⟨_,rfl,_,rfl,_,rfl,_,rfl,a1,d1,y1,g15,be,rfl,A1,by omega,fun p21 z21 H21 s21 hp21 A21=>?_⟩
  rw [← ep] at A21
  refine ⟨Dp,p21,dp,yp,z21,rfl,rfl,Ap.mono s21,A21,_,rfl,Dm ?_⟩
  have W13:=W12.same s21
  clear A21 s21 hp21 W12 A1 Ap
  refine ⟨_,rfl,_,_,rfl,rfl,⟨by decide,by decide,by decide⟩,by show 2<=sizeLine; decide,fun l22 hl22=>?_⟩
  obtain ⟨H22,eqH,s22,u22⟩:=HD (o:=HO.lst [V.int 9,V.int ((10:Int) ^ (10:Int).toNat)]) hl22
  rw [eqH]
  rw [k10] at u22
  obtain ⟨ne1,ne2⟩:=Jr W13.D hl22
  refine ⟨_,rfl,dh,pc,n6+1+2+2,2,rfl,W13.D.same s22,by omega,by decide,by decide,fun c0 H23 ca cb D23 f23=>?_⟩
  have u23:=Do.of2 f23 _ _ ne1 ne2 u22
  obtain ⟨most,hat,mo1⟩:∃ most:Int,Mf [V.int 9,V.int 10000000000] c0=some (.int most)/\0<most:=by
   have:c0=0 \/ c0=1:=by omega
   rcases this with e | e <;> rw [e]
   ·exact ⟨9,Af (j:=0) rfl,by decide⟩
   ·exact ⟨10000000000,Af (j:=1) rfl,by decide⟩
  refine ⟨l22,_,_,_,rfl,rfl,lc u23,hat,dh,pc,n6+1+2+2+1,most,rfl,D23,by omega,mo1,fun pu H24 pa pb D24 f24=>?_⟩
  have W14:=(W13.same s22).fr (KD.trans f23 f24) D24
  clear W13 s22 u22 u23 f23 f24 D23 D24 hat mo1 hl22 ne1 ne2
  refine ⟨_,rfl,_,rfl,_,rfl,_,rfl,_,rfl,by show 5<=sizeLine; decide,fun lq hlq=>?_⟩
  obtain ⟨H25,eqH,s25,u25⟩:=HD (o:=HO.lst [V.ref a1,V.ref a2,V.ref Db,V.ref Ds,V.ref Dp]) hlq
  rw [eqH]
  have W15:=W14.same s25
  obtain ⟨y1,A1⟩:=W15.S (a1,d1) (by simp)
  obtain ⟨y2,A2⟩:=W15.S (a2,d2) (by simp)
  obtain ⟨yb,Ab⟩:=W15.S (Db,db) (by simp)
  obtain ⟨ys',As⟩:=W15.S (Ds,ds) (by simp)
  obtain ⟨yp,Ap⟩:=W15.S (Dp,dp) (by simp)
  dsimp only at A1 A2 Ab As Ap
  have fb:∀ hs t,0<=Dd W hs t/\Dd W hs t<2 ^ 41:=fun hs t=>Zi wb wl2 t
  refine ⟨lq,rfl,⟨_,lc u25⟩,Jz (K:=K) (fun _ y v=>∃ b,v=V.int b/\∀ l d ys,y=V.ref l->Bh H25 l d ys->Mw (tk pu d) b) (fun _ _ _ _ _ h=>h) (fun _ _ _ _ _ _ _ h=>h) (lc u25) (Az (show 5<=1000 by decide)) (fun y hy H' hs R kk=>kk H' (Aq.refl H')) (fun y hy H' s' R kk=>?_) (fun D26 H26 zs26 hD26 s26 hl26 B26=>?_)⟩
  ·have go:∃ l d ys hs e,y=V.ref l/\Bh H25 l d ys/\C_ (Dd W hs) e d/\e<=1000000000000/\d.length<=100:=by
    simp only [List.mem_cons,List.not_mem_nil,or_false] at hy
    rcases hy with rfl | rfl | rfl | rfl | rfl
    ·exact ⟨_,_,_,_,_,rfl,A1,G1,by omega,dl1⟩
    ·exact ⟨_,_,_,_,_,rfl,A2,G2,by omega,dl2⟩
    ·exact ⟨_,_,_,_,_,rfl,Ab,Gb,by omega,Lb⟩
    ·exact ⟨_,_,_,_,_,rfl,As,Gs,by omega,Ls⟩
    ·exact ⟨_,_,_,_,_,rfl,Ap,Gp,by omega,Lp⟩
   obtain ⟨l,d,ys,hs,e,rfl,A,Gd,he,hl⟩:=go
   refine ⟨_,rfl,_,rfl,l,d,ys,pu,rfl,A.mono s',Gd.ch,C_.bd Gd (fb hs) he,by omega,fun pp b0 b1 b2 taken since H'' s'' epp LI=>?_⟩
   refine ⟨pp,_,_,_,rfl,rfl,lc epp,Af (j:=0) rfl,kk _ _ s'' ⟨b0,rfl,fun l' d' ys' el A'=>?_⟩⟩
   cases el
   rw [← Qd A A']
   exact Qu.m LI
  cases B26 with
  | cons z1 B26 =>
  cases B26 with
  | cons z2 B26 =>
  cases B26 with
  | cons z3 B26 =>
  cases B26 with
  | cons z4 B26 =>
  cases B26 with
  | cons z5 B26 =>
  cases B26
  obtain ⟨m1,rfl,z1⟩:=z1
  obtain ⟨m2,rfl,z2⟩:=z2
  obtain ⟨mb,rfl,z3⟩:=z3
  obtain ⟨ms,rfl,z4⟩:=z4
  obtain ⟨mp,rfl,z5⟩:=z5
  have I1:=z1 _ _ _ rfl A1
  have I2:=z2 _ _ _ rfl A2
  have Ib:=z3 _ _ _ rfl Ab
  have Is:=z4 _ _ _ rfl As
  have Ip:=z5 _ _ _ rfl Ap
  rw [tkb] at Ib
  rw [tks] at Is
  rw [tkp] at Ip
  have c1:ms=(k:Int) * m1:=Is.Mz I1.Io
  have c2:mp<=m1:=I1.sub _ _ Ip
  have c3:m1<=mb:=Ib.kE I1
  have c4:m2<=mb:=Ib.kW I2
  clear I1 I2 Ib Is Ip z1 z2 z3 z4 z5
  have qC:CZ K H26 D26 [V.int m1,V.int m2,V.int mb,V.int ms,V.int mp]:=.inl (.inl hl26)
  refine gN (i:=19) ?_
  dsimp only
  refine ⟨_,rfl,D26,_,_,_,rfl,rfl,qC,Af (j:=3) rfl,_,rfl,D26,_,_,_,rfl,rfl,qC,Af (j:=0) rfl,?_⟩
  refine ⟨_,rfl,_,_,rfl,rfl,.inr ⟨by omega,by omega⟩,?_⟩
  have e1:V.int ms=V.int (m1 * (k:Int)):=by rw [c1,Int.mul_comm]
  refine ⟨rfl,_,rfl,Df (fun _=>?_) (fun g=>absurd (decide_eq_true e1) g)⟩
  refine ⟨_,rfl,D26,_,_,_,rfl,rfl,qC,Af (j:=4) rfl,_,rfl,D26,_,_,_,rfl,rfl,qC,Af (j:=0) rfl,_,_,rfl,rfl,_,rfl,Df (fun _=>?_) (fun g=>absurd (decide_eq_true c2) g)⟩
  refine ⟨_,rfl,D26,_,_,_,rfl,rfl,qC,Af (j:=2) rfl,_,rfl,D26,_,_,_,rfl,rfl,qC,Af (j:=0) rfl,_,rfl,D26,_,_,_,rfl,rfl,qC,Af (j:=1) rfl,_,_,rfl,_,_,rfl,rfl,?_⟩
  have c5:(if m2 > m1 then m2 else m1)<=mb:=by split <;> omega
  show Q (.bl (decide ((if m2 > m1 then m2 else m1)<=mb))) _
  rw [decide_eq_true c5]
  exact q _
end
end K74
end PartK74a
section PartK74z
set_option maxHeartbeats 4000000
theorem UL1 {α:Type} {us:List α} (h:us.length=1):∃ a,us=[a]:=match us,h with | [a],_=>⟨a,rfl⟩
theorem UL2 {α:Type} {us:List α} (h:us.length=2):∃ a b,us=[a,b]:=match us,h with | [a,b],_=>⟨a,b,rfl⟩
theorem UL3 {α:Type} {us:List α} (h:us.length=3):∃ a b c,us=[a,b,c]:=match us,h with | [a,b,c],_=>⟨a,b,c,rfl⟩
theorem UL4 {α:Type} {us:List α} (h:us.length=4):∃ a b c d,us=[a,b,c,d]:=match us,h with | [a,b,c,d],_=>⟨a,b,c,d,rfl⟩
theorem UL5 {α:Type} {us:List α} (h:us.length=5):∃ a b c d e,us=[a,b,c,d,e]:=match us,h with | [a,b,c,d,e],_=>⟨a,b,c,d,e,rfl⟩
namespace K74
open PySem L2 Og Bw Ro
section
variable {K:W.Frag}
noncomputable abbrev DA (K:W.Frag) (x:Str) (st:Stmt) (f:Addr):Prop:=W.nsIn K mainGlobals x=some (some (.ref f))/\∃ fd,DX K x x st f fd
noncomputable abbrev MA (K:W.Frag) (C:Addr) (x q:Str) (st:Stmt) (f:Addr):Prop:=W.findIn K (.ref C) x=some (some (.ref f))/\W.isFn K (.ref f)=true/\∃ fd,DX K x q st f fd
theorem Fy {x q:Str} {st:Stmt} {f:Addr} {fd:FuncData} {ps:List Str} (F:DX K x q st f fd) (hl:ps.length=1:=by rfl) (h:∀ (kV doc pm:Value) (an:Option Addr) (cdv ct:Value) (u:Value),bindArgs (W.fnOf x q (Ck st) (Cd st) (Ah st) .none kV doc pm an cdv ct) ⟨[u],[]⟩=pure (ps.zip [u]):=by intros; rfl):Binds K fd ps []:=F.binds fun kV doc pm an cdv ct us hu=>by obtain ⟨u,rfl⟩:=UL1 (hu.trans hl); exact h kV doc pm an cdv ct u
theorem Ed {x q:Str} {st:Stmt} {f:Addr} {fd:FuncData} {ps:List Str} (F:DX K x q st f fd) (hl:ps.length=2:=by rfl) (h:∀ (kV doc pm:Value) (an:Option Addr) (cdv ct:Value) (u v:Value),bindArgs (W.fnOf x q (Ck st) (Cd st) (Ah st) .none kV doc pm an cdv ct) ⟨[u,v],[]⟩=pure (ps.zip [u,v]):=by intros; rfl):Binds K fd ps []:=F.binds fun kV doc pm an cdv ct us hu=>by obtain ⟨u,v,rfl⟩:=UL2 (hu.trans hl); exact h kV doc pm an cdv ct u v
theorem Rx {x q:Str} {st:Stmt} {f:Addr} {fd:FuncData} {ps:List Str} (F:DX K x q st f fd) (hl:ps.length=3:=by rfl) (h:∀ (kV doc pm:Value) (an:Option Addr) (cdv ct:Value) (u v a:Value),bindArgs (W.fnOf x q (Ck st) (Cd st) (Ah st) .none kV doc pm an cdv ct) ⟨[u,v,a],[]⟩=pure (ps.zip [u,v,a]):=by intros; rfl):Binds K fd ps []:=F.binds fun kV doc pm an cdv ct us hu=>by obtain ⟨u,v,a,rfl⟩:=UL3 (hu.trans hl); exact h kV doc pm an cdv ct u v a
theorem lQ {x q:Str} {st:Stmt} {f:Addr} {fd:FuncData} {ps:List Str} (F:DX K x q st f fd) (hl:ps.length=4:=by rfl) (h:∀ (kV doc pm:Value) (an:Option Addr) (cdv ct:Value) (u v a b:Value),bindArgs (W.fnOf x q (Ck st) (Cd st) (Ah st) .none kV doc pm an cdv ct) ⟨[u,v,a,b],[]⟩=pure (ps.zip [u,v,a,b]):=by intros; rfl):Binds K fd ps []:=F.binds fun kV doc pm an cdv ct us hu=>by obtain ⟨u,v,a,b,rfl⟩:=UL4 (hu.trans hl); exact h kV doc pm an cdv ct u v a b
end
theorem Y5 {l:W.OpenLaw} {w:World} {K:W.Frag} {h:Heap} {mg:Str->Option Value} {fa c1 P1:Addr} (X:K.In h) (G:h.Ns mainGlobals mg) (hfa:mg "law" = some (.ref fa))
  {C aN aK aB aP aM p1 p2 p3 p4 p5 p6 b1 b2 b3 b4 b5 b6 b7 fWh fMd fNm fRo fTo fWi fPa fHp fCl fIk fSb fWm fHr fIr fCk fNu fCa fPl fLi fMy fSt fIl fHw fAh fHo fFh fRf fR1 fOa fTk fCh fCt fWp fDg fMv fRp fEe fSl fLc fLm fSm fCu fDn fDw fLg fLv fGr fSs fOi fBk fOp fOr fOq fOx fZ:Addr} {odHo anHo odZ anZ:Option Addr} {slHo slZ:Array (Option Value)} {ocHo kVHo dcHo pmHo ctHo ocZ kVZ dcZ pmZ cdZ ctZ:Value}
  {tMOST_TICKS tMOST_HOLES tMOST_TIMES tLET tML tMR tMLn tMB tm1 tm2 tm3 tm4 tm5 ttN_0 ttN_1 ttN_2 ttN_3 ttN_4 ttK_0 ttK_1 ttK_2 ttp1_0 ttp1_1 ttp2_0 ttp2_1 ttp3_0 ttp3_1 ttp4_0 ttp4_1 ttp4_2 ttp4_3 ttp5_0 ttp5_1 ttp5_2 ttp6_0 ttp6_1 ttp6_2 ttp6_3 ttb1_0 ttb1_1 ttb2_0 ttb2_1 ttb3_0 ttb3_1 ttb4_0 ttb4_1 ttb5_0 ttb5_1 ttb6_0 ttb6_1 ttb7_0 ttb7_1:Tok} {od_N od_K od_p1 od_p2 od_p3 od_p4 od_p5 od_p6 od_b1 od_b2 od_b3 od_b4 od_b5 od_b6 od_b7:Option Addr} {sl_N sl_K sl_p1 sl_p2 sl_p3 sl_p4 sl_p5 sl_p6 sl_b1 sl_b2 sl_b3 sl_b4 sl_b5 sl_b6 sl_b7:Array (Option Value)} {n_N n_K n_p1 n_p2 n_p3 n_p4 n_p5 n_p6 n_b1 n_b2 n_b3 n_b4 n_b5 n_b6 n_b7 nB nP nM:Nat} {eB eP eM:Array DictEntry}
  (FWh:DA K "is_whole" kh fWh)
  (FMd:DA K "is_made_of" gw fMd)
  (FNm:DA K "is_name" ir fNm)
  (FRo:DA K "rows_of" h_ fRo)
  (FTo:DA K "is_told" gH fTo)
  (FWi:DA K "is_within" iM fWi)
  (FPa:DA K "is_part" gR fPa)
  (FHp:DA K "has_parts" gO fHp)
  (FCl:DA K "count_of_last_lines" jU fCl)
  (FIk:DA K "is_key_of" gq fIk)
  (FSb:DA K "stands_behind_stop" lG fSb)
  (FWm:DA K "is_well_made" jc fWm)
  (FHr:DA K "has_room" ig fHr)
  (FIr:DA K "is_row" j_ fIr)
  (FCk:DA K "check_rows" jl fCk)
  (FNu:DA K "numbers_of" lW fNu)
  (FCa:DA K "count_in_all" mZ fCa)
  (FPl:DA K "places_of" iB fPl)
  (FLi:DA K "lines_by_knob" j4 fLi)
  (FMy:DA K "may_be_member" kY fMy)
  (FSt:DA K "set_of" mF fSt)
  (FIl:DA K "is_length" je fIl)
  (FHw:DA K "is_hole_within" jh fHw)
  (FAh:DA K "are_holes_within" gM fAh)
  (aHo:W.nsIn K mainGlobals "holes_of" = some (some (.ref fHo)))
  (lHo:K.lookup fHo=some ⟨ocHo,odHo,.func (W.fnOf "holes_of" "holes_of" (Ck Vx) (Cd Vx) (Ah Vx) .none kVHo dcHo pmHo anHo (.ref c1) ctHo),slHo⟩) (cHo:W.codeIn K (.ref c1) "holes_of" = true) (kHo:W.keepIn K (.ref fHo)=true)
  (FFh:DA K "few_holes_of" jO fFh)
  (FRf:DA K "roll_from" lF fRf)
  (FR1:DA K "roll_of" i_ fR1)
  (FOa:DA K "open_at" gW fOa)
  (FTk:DA K "tracks_by_tick" jD fTk)
  (FCh:DA K "changes_of" gJ fCh)
  (FCt:DA K "change_ticks" g_ fCt)
  (FWp:DA K "winds_of_pipes" gk fWp)
  (FDg:DA K "draught_of" gP fDg)
  (FMv:DA K "moved" gf fMv)
  (FRp:DA K "roll_part" eE fRp)
  (FEe:DA K "end_to_end" lJ fEe)
  (FSl:DA K "slowed_by" gU fSl)
  (FLc:DA K "least_cap" jk fLc)
  (FLm:DA K "_law_moved" gQ fLm)
  (FSm:DA K "_law_seamless" l_ fSm)
  (FCu:DA K "_law_cut" jK fCu)
  (FDn:DA K "_law_drawn" gG fDn)
  (FDw:DA K "_law_draw" jW fDw)
  (FLg:DA K "_law_organ" j7 fLg)
  (FLv:DA K "_law_winds" iK fLv)
  (FGr:DA K "_law_great" jf fGr)
  (FSs:DA K "_law_spans" k_ fSs)
  (aZ:W.nsIn K mainGlobals "law" = some (some (.ref fZ)))
  (lZ:K.lookup fZ=some ⟨ocZ,odZ,.func (W.fnOf "law" "law" (Ck Il) (Cd Il) (Ah Il) .none kVZ dcZ pmZ anZ cdZ ctZ),slZ⟩) (cZ:W.codeIn K cdZ "law" = true) (kZ:W.keepIn K (.ref fZ)=true)
  (aC:W.nsIn K mainGlobals "Organ" = some (some (.ref C)))
  (FOi:MA K C "__init__" "Organ.__init__" Vz fOi)
  (FBk:MA K C "board_of_knob" "Organ.board_of_knob" mG fBk)
  (FOp:MA K C "coupler" "Organ.coupler" mH fOp)
  (FOr:MA K C "ranks" "Organ.ranks" lM fOr)
  (FOq:MA K C "pipe_count" "Organ.pipe_count" iy fOq)
  (FOx:MA K C "rank_of" "Organ.rank_of" iG fOx)
  (pg:W.plainGet K C Str.empty=true)
  (hd:W.hasDictIn K C=true)
  (po:W.plainOver K C=true)
  (sa:W.findIn K (.ref C) "__setattr__" = some (some (.builtin "object.__setattr__")))
  (mkC:W.makesIn K C=true)
  (kc:W.keepIn K (.ref C)=true)
  (n_row_list_:W.findIn K (.ref C) "row_list" = some none)
  (n_board_list_:W.findIn K (.ref C) "board_list" = some none)
  (n_rank_list_:W.findIn K (.ref C) "rank_list" = some none)
  (n_knob_rows_:W.findIn K (.ref C) "knob_rows" = some none)
  (n_board_numbers_:W.findIn K (.ref C) "board_numbers" = some none)
  (n_rank_numbers_:W.findIn K (.ref C) "rank_numbers" = some none)
  (n_knob_numbers_:W.findIn K (.ref C) "knob_numbers" = some none)
  (n_key_places_:W.findIn K (.ref C) "key_places" = some none)
  (n_pipe_places_:W.findIn K (.ref C) "pipe_places" = some none)
  (n_knob_lines_:W.findIn K (.ref C) "knob_lines" = some none)
  (n_step_sets_:W.findIn K (.ref C) "step_sets" = some none)
  (zlen:W.nsIn K mainGlobals "len" = some none)
  (zisinstance:W.nsIn K mainGlobals "isinstance" = some none)
  (zint:W.nsIn K mainGlobals "int" = some none)
  (zbool:W.nsIn K mainGlobals "bool" = some none)
  (zstr:W.nsIn K mainGlobals "str" = some none)
  (zlist:W.nsIn K mainGlobals "list" = some none)
  (ztuple:W.nsIn K mainGlobals "tuple" = some none)
  (zall:W.nsIn K mainGlobals "all" = some none)
  (zany:W.nsIn K mainGlobals "any" = some none)
  (zsum:W.nsIn K mainGlobals "sum" = some none)
  (zrange:W.nsIn K mainGlobals "range" = some none)
  (zzip:W.nsIn K mainGlobals "zip" = some none)
  (zenumerate:W.nsIn K mainGlobals "enumerate" = some none)
  (zmax:W.nsIn K mainGlobals "max" = some none)
  (zreversed:W.nsIn K mainGlobals "reversed" = some none)
  (zset:W.nsIn K mainGlobals "set" = some none)
  (zabs:W.nsIn K mainGlobals "abs" = some none)
  (zmin:W.nsIn K mainGlobals "min" = some none)
  (zsorted:W.nsIn K mainGlobals "sorted" = some none)
  (zLET:W.nsIn K mainGlobals "LETTERS" = some (some (.str letters tLET)))
  (zML:W.nsIn K mainGlobals "MOST_LETTERS" = some (some (.int 8 tML)))
  (zMR:W.nsIn K mainGlobals "MOST_ROWS" = some (some (.int 150 tMR)))
  (zMOST_TICKS:W.nsIn K mainGlobals "MOST_TICKS" = some (some (.int 1000000000000 tMOST_TICKS)))
  (zMOST_HOLES:W.nsIn K mainGlobals "MOST_HOLES" = some (some (.int 400 tMOST_HOLES)))
  (zMOST_TIMES:W.nsIn K mainGlobals "MOST_TIMES" = some (some (.int 1000 tMOST_TIMES)))
  (zMLn:W.nsIn K mainGlobals "MOST_LINES" = some (some (.int 4 tMLn)))
  (zMB:W.nsIn K mainGlobals "MEMBERS_BELOW" = some (some (.int 1200 tMB)))
  (rN:W.nsIn K mainGlobals "NAMED" = some (some (.ref aN)))
  (rK:W.nsIn K mainGlobals "KNOBS" = some (some (.ref aK)))
  (rB:W.nsIn K mainGlobals "BOUNDS" = some (some (.ref aB)))
  (rP:W.nsIn K mainGlobals "PARTS" = some (some (.ref aP)))
  (rM:W.nsIn K mainGlobals "MOST_OF" = some (some (.ref aM)))
  (dB:K.lookup aB=some ⟨.type "dict",none,.dict eB nB,#[]⟩)
  (kB:W.KeysLit w.params eB.toList)
  (oB:(aB == sysModules)=false)
  (dP:K.lookup aP=some ⟨.type "dict",none,.dict eP nP,#[]⟩)
  (kP:W.KeysLit w.params eP.toList)
  (oP:(aP == sysModules)=false)
  (dM:K.lookup aM=some ⟨.type "dict",none,.dict eM nM,#[]⟩)
  (kM:W.KeysLit w.params eM.toList)
  (oM:(aM == sysModules)=false)
  (qp1:W.nsIn K aP "board" = some (some (.ref p1)))
  (qp2:W.nsIn K aP "stop" = some (some (.ref p2)))
  (qp3:W.nsIn K aP "mute" = some (some (.ref p3)))
  (qp4:W.nsIn K aP "coupler" = some (some (.ref p4)))
  (qp5:W.nsIn K aP "rank" = some (some (.ref p5)))
  (qp6:W.nsIn K aP "line" = some (some (.ref p6)))
  (qb1:W.nsIn K aB "keys" = some (some (.ref b1)))
  (qb2:W.nsIn K aB "leap" = some (some (.ref b2)))
  (qb3:W.nsIn K aB "pipes" = some (some (.ref b3)))
  (qb4:W.nsIn K aB "wind" = some (some (.ref b4)))
  (qb5:W.nsIn K aB "shift" = some (some (.ref b5)))
  (qb6:W.nsIn K aB "low" = some (some (.ref b6)))
  (qb7:W.nsIn K aB "high" = some (some (.ref b7)))
  (qn:W.nsIn K aB "new" = some none)
  (qb:W.nsIn K aB "board" = some none)
  (qr:W.nsIn K aB "rank" = some none)
  (ql:W.nsIn K aM "line" = some none)
  (qm1:W.nsIn K aM "board" = some (some (.int 5 tm1)))
  (qm2:W.nsIn K aM "stop" = some (some (.int 24 tm2)))
  (qm3:W.nsIn K aM "coupler" = some (some (.int 12 tm3)))
  (qm4:W.nsIn K aM "mute" = some (some (.int 5 tm4)))
  (qm5:W.nsIn K aM "rank" = some (some (.int 12 tm5)))
  (uN:K.lookup aN=some ⟨.type "tuple",od_N,.seq #[.str "board" ttN_0,.str "rank" ttN_1,.str "stop" ttN_2,.str "coupler" ttN_3,.str "mute" ttN_4] n_N,sl_N⟩)
  (uK:K.lookup aK=some ⟨.type "tuple",od_K,.seq #[.str "stop" ttK_0,.str "coupler" ttK_1,.str "mute" ttK_2] n_K,sl_K⟩)
  (up1:K.lookup p1=some ⟨.type "tuple",od_p1,.seq #[.str "new" ttp1_0,.str "keys" ttp1_1] n_p1,sl_p1⟩)
  (up2:K.lookup p2=some ⟨.type "tuple",od_p2,.seq #[.str "new" ttp2_0,.str "board" ttp2_1] n_p2,sl_p2⟩)
  (up3:K.lookup p3=some ⟨.type "tuple",od_p3,.seq #[.str "new" ttp3_0,.str "board" ttp3_1] n_p3,sl_p3⟩)
  (up4:K.lookup p4=some ⟨.type "tuple",od_p4,.seq #[.str "new" ttp4_0,.str "board" ttp4_1,.str "board" ttp4_2,.str "leap" ttp4_3] n_p4,sl_p4⟩)
  (up5:K.lookup p5=some ⟨.type "tuple",od_p5,.seq #[.str "new" ttp5_0,.str "pipes" ttp5_1,.str "wind" ttp5_2] n_p5,sl_p5⟩)
  (up6:K.lookup p6=some ⟨.type "tuple",od_p6,.seq #[.str "rank" ttp6_0,.str "shift" ttp6_1,.str "low" ttp6_2,.str "high" ttp6_3] n_p6,sl_p6⟩)
  (ub1:K.lookup b1=some ⟨.type "tuple",od_b1,.seq #[.int (1) ttb1_0,.int (61) ttb1_1] n_b1,sl_b1⟩)
  (ub2:K.lookup b2=some ⟨.type "tuple",od_b2,.seq #[.int (-60) ttb2_0,.int (60) ttb2_1] n_b2,sl_b2⟩)
  (ub3:K.lookup b3=some ⟨.type "tuple",od_b3,.seq #[.int (1) ttb3_0,.int (97) ttb3_1] n_b3,sl_b3⟩)
  (ub4:K.lookup b4=some ⟨.type "tuple",od_b4,.seq #[.int (0) ttb4_0,.int (1000000000) ttb4_1] n_b4,sl_b4⟩)
  (ub5:K.lookup b5=some ⟨.type "tuple",od_b5,.seq #[.int (-200) ttb5_0,.int (200) ttb5_1] n_b5,sl_b5⟩)
  (ub6:K.lookup b6=some ⟨.type "tuple",od_b6,.seq #[.int (0) ttb6_0,.int (60) ttb6_1] n_b6,sl_b6⟩)
  (ub7:K.lookup b7=some ⟨.type "tuple",od_b7,.seq #[.int (0) ttb7_0,.int (60) ttb7_1] n_b7,sl_b7⟩)
  : ∃ fd:FuncData,(∀ (s:Shared) (v:Value),BindsTo s fd ⟨[v],[]⟩ [("_law_script",v)])/\∀ base:Heap,K.In base->base.Ns mainGlobals mg->(∀ q∈[(c1,P1)],HH mg base q.1 q.2)->BP l.prog w K mg base Bp 11 fa fd ["_law_script"] (WK K (tb P1)):=by
 refine Classical.byContradiction fun hng=>?_
 obtain ⟨aWh,dWh,FWh⟩:=FWh
 obtain ⟨aMd,dMd,FMd⟩:=FMd
 obtain ⟨aNm,dNm,FNm⟩:=FNm
 obtain ⟨aRo,dRo,FRo⟩:=FRo
 obtain ⟨aTo,dTo,FTo⟩:=FTo
 obtain ⟨aWi,dWi,FWi⟩:=FWi
 obtain ⟨aPa,dPa,FPa⟩:=FPa
 obtain ⟨aHp,dHp,FHp⟩:=FHp
 obtain ⟨aCl,dCl,FCl⟩:=FCl
 obtain ⟨aIk,dIk,FIk⟩:=FIk
 obtain ⟨aSb,dSb,FSb⟩:=FSb
 obtain ⟨aWm,dWm,FWm⟩:=FWm
 obtain ⟨aHr,dHr,FHr⟩:=FHr
 obtain ⟨aIr,dIr,FIr⟩:=FIr
 obtain ⟨aCk,dCk,FCk⟩:=FCk
 obtain ⟨aNu,dNu,FNu⟩:=FNu
 obtain ⟨aCa,dCa,FCa⟩:=FCa
 obtain ⟨aPl,dPl,FPl⟩:=FPl
 obtain ⟨aLi,dLi,FLi⟩:=FLi
 obtain ⟨aMy,dMy,FMy⟩:=FMy
 obtain ⟨aSt,dSt,FSt⟩:=FSt
 obtain ⟨aIl,dIl,FIl⟩:=FIl
 obtain ⟨aHw,dHw,FHw⟩:=FHw
 obtain ⟨aAh,dAh,FAh⟩:=FAh
 obtain ⟨aFh,dFh,FFh⟩:=FFh
 obtain ⟨aRf,dRf,FRf⟩:=FRf
 obtain ⟨aR1,dR1,FR1⟩:=FR1
 obtain ⟨aOa,dOa,FOa⟩:=FOa
 obtain ⟨aTk,dTk,FTk⟩:=FTk
 obtain ⟨aCh,dCh,FCh⟩:=FCh
 obtain ⟨aCt,dCt,FCt⟩:=FCt
 obtain ⟨aWp,dWp,FWp⟩:=FWp
 obtain ⟨aDg,dDg,FDg⟩:=FDg
 obtain ⟨aMv,dMv,FMv⟩:=FMv
 obtain ⟨aRp,dRp,FRp⟩:=FRp
 obtain ⟨aEe,dEe,FEe⟩:=FEe
 obtain ⟨aSl,dSl,FSl⟩:=FSl
 obtain ⟨aLc,dLc,FLc⟩:=FLc
 obtain ⟨aLm,dLm,FLm⟩:=FLm
 obtain ⟨aSm,dSm,FSm⟩:=FSm
 obtain ⟨aCu,dCu,FCu⟩:=FCu
 obtain ⟨aDn,dDn,FDn⟩:=FDn
 obtain ⟨aDw,dDw,FDw⟩:=FDw
 obtain ⟨aLg,dLg,FLg⟩:=FLg
 obtain ⟨aLv,dLv,FLv⟩:=FLv
 obtain ⟨aGr,dGr,FGr⟩:=FGr
 obtain ⟨aSs,dSs,FSs⟩:=FSs
 obtain ⟨aOi,iOi,dOi,FOi⟩:=FOi
 obtain ⟨aBk,iBk,dBk,FBk⟩:=FBk
 obtain ⟨aOp,iOp,dOp,FOp⟩:=FOp
 obtain ⟨aOr,iOr,dOr,FOr⟩:=FOr
 obtain ⟨aOq,iOq,dOq,FOq⟩:=FOq
 obtain ⟨aOx,iOx,dOx,FOx⟩:=FOx
 refine hng ?_
 have e:=hfa.symm.trans (W.mg_of X G aZ)
 cases e
 have FHo:Ww K "holes_of" "holes_of" Vx fHo (W.fnOf "holes_of" "holes_of" (Ck Vx) (Cd Vx) (Ah Vx) .none kVHo dcHo pmHo anHo (.ref c1) ctHo) c1:=⟨⟨_,_,_,_,_,_,_,_,rfl,lHo,cHo⟩,kHo⟩
 have FZ:=Lg (st:=Il) lZ cZ kZ
 have bHo:=(Lg (st:=Vx) lHo cHo kHo).binds (ps:=["spans"]) fun _ _ _ _ _ _ us hl=>(by obtain ⟨_,rfl⟩:=UL1 hl;exact rfl)
 have gN:KTup K aN [.str "board",.str "rank",.str "stop",.str "coupler",.str "mute"]:=(⟨_,_,_,uN,rfl,rfl,by show 5<=sizeLine; decide,.cons ⟨_,rfl⟩ (.cons ⟨_,rfl⟩ (.cons ⟨_,rfl⟩ (.cons ⟨_,rfl⟩ (.cons ⟨_,rfl⟩ (.nil)))))⟩)
 have gK:KTup K aK [.str "stop",.str "coupler",.str "mute"]:=(⟨_,_,_,uK,rfl,rfl,by show 3<=sizeLine; decide,.cons ⟨_,rfl⟩ (.cons ⟨_,rfl⟩ (.cons ⟨_,rfl⟩ (.nil)))⟩)
 have gp1:KTup K p1 [.str "new",.str "keys"]:=(⟨_,_,_,up1,rfl,rfl,by show 2<=sizeLine; decide,.cons ⟨_,rfl⟩ (.cons ⟨_,rfl⟩ (.nil))⟩)
 have gp2:KTup K p2 [.str "new",.str "board"]:=(⟨_,_,_,up2,rfl,rfl,by show 2<=sizeLine; decide,.cons ⟨_,rfl⟩ (.cons ⟨_,rfl⟩ (.nil))⟩)
 have gp3:KTup K p3 [.str "new",.str "board"]:=(⟨_,_,_,up3,rfl,rfl,by show 2<=sizeLine; decide,.cons ⟨_,rfl⟩ (.cons ⟨_,rfl⟩ (.nil))⟩)
 have gp4:KTup K p4 [.str "new",.str "board",.str "board",.str "leap"]:=(⟨_,_,_,up4,rfl,rfl,by show 4<=sizeLine; decide,.cons ⟨_,rfl⟩ (.cons ⟨_,rfl⟩ (.cons ⟨_,rfl⟩ (.cons ⟨_,rfl⟩ (.nil))))⟩)
 have gp5:KTup K p5 [.str "new",.str "pipes",.str "wind"]:=(⟨_,_,_,up5,rfl,rfl,by show 3<=sizeLine; decide,.cons ⟨_,rfl⟩ (.cons ⟨_,rfl⟩ (.cons ⟨_,rfl⟩ (.nil)))⟩)
 have gp6:KTup K p6 [.str "rank",.str "shift",.str "low",.str "high"]:=(⟨_,_,_,up6,rfl,rfl,by show 4<=sizeLine; decide,.cons ⟨_,rfl⟩ (.cons ⟨_,rfl⟩ (.cons ⟨_,rfl⟩ (.cons ⟨_,rfl⟩ (.nil))))⟩)
 have gb1:KTup K b1 [.int (1),.int (61)]:=(⟨_,_,_,ub1,rfl,rfl,by show 2<=sizeLine; decide,.cons ⟨_,rfl⟩ (.cons ⟨_,rfl⟩ (.nil))⟩)
 have gb2:KTup K b2 [.int (-60),.int (60)]:=(⟨_,_,_,ub2,rfl,rfl,by show 2<=sizeLine; decide,.cons ⟨_,rfl⟩ (.cons ⟨_,rfl⟩ (.nil))⟩)
 have gb3:KTup K b3 [.int (1),.int (97)]:=(⟨_,_,_,ub3,rfl,rfl,by show 2<=sizeLine; decide,.cons ⟨_,rfl⟩ (.cons ⟨_,rfl⟩ (.nil))⟩)
 have gb4:KTup K b4 [.int (0),.int (1000000000)]:=(⟨_,_,_,ub4,rfl,rfl,by show 2<=sizeLine; decide,.cons ⟨_,rfl⟩ (.cons ⟨_,rfl⟩ (.nil))⟩)
 have gb5:KTup K b5 [.int (-200),.int (200)]:=(⟨_,_,_,ub5,rfl,rfl,by show 2<=sizeLine; decide,.cons ⟨_,rfl⟩ (.cons ⟨_,rfl⟩ (.nil))⟩)
 have gb6:KTup K b6 [.int (0),.int (60)]:=(⟨_,_,_,ub6,rfl,rfl,by show 2<=sizeLine; decide,.cons ⟨_,rfl⟩ (.cons ⟨_,rfl⟩ (.nil))⟩)
 have gb7:KTup K b7 [.int (0),.int (60)]:=(⟨_,_,_,ub7,rfl,rfl,by show 2<=sizeLine; decide,.cons ⟨_,rfl⟩ (.cons ⟨_,rfl⟩ (.nil))⟩)
 have F0:Zw K aB aP aM:=⟨⟨⟨_,qp1,gp1⟩,⟨_,qp2,gp2⟩,⟨_,qp3,gp3⟩,⟨_,qp4,gp4⟩,⟨_,qb1,gb1⟩,⟨_,qb2,gb2⟩,qn,qb,⟨_,qm1⟩,⟨_,qm2⟩,⟨_,qm3⟩,⟨_,qm4⟩⟩,⟨_,qp5,gp5⟩,⟨_,qp6,gp6⟩,⟨_,qb3,gb3⟩,⟨_,qb4,gb4⟩,⟨_,qb5,gb5⟩,⟨_,qb6,gb6⟩,⟨_,qb7,gb7⟩,qr,⟨_,qm5⟩,ql⟩
 have T:Txt K w.params mg C aN aK aB aP aM:=⟨W.mg_none_of X G zlen,W.mg_none_of X G zisinstance,W.mg_none_of X G zint,W.mg_none_of X G zbool,W.mg_none_of X G zstr,W.mg_none_of X G zlist,W.mg_none_of X G ztuple,W.mg_none_of X G zall,W.mg_none_of X G zany,W.mg_none_of X G zsum,W.mg_none_of X G zrange,W.mg_none_of X G zzip,W.mg_none_of X G zenumerate,W.mg_none_of X G zmax,W.mg_none_of X G zreversed,W.mg_none_of X G zset,W.mg_none_of X G zabs,W.mg_none_of X G zmin,W.mg_none_of X G zsorted,⟨_,W.mg_of X G zLET⟩,⟨_,W.mg_of X G zML⟩,⟨_,W.mg_of X G zMR⟩,⟨_,W.mg_of X G zMLn⟩,⟨_,W.mg_of X G zMOST_TICKS⟩,⟨_,W.mg_of X G zMOST_HOLES⟩,⟨_,W.mg_of X G zMOST_TIMES⟩,⟨_,W.mg_of X G zMB⟩,W.mg_of X G rN,W.mg_of X G rK,W.mg_of X G rB,W.mg_of X G rP,W.mg_of X G rM,gN,gK,⟨⟨_,_,dB,kB⟩,oB⟩,⟨⟨_,_,dP,kP⟩,oP⟩,⟨⟨_,_,dM,kM⟩,oM⟩,⟨pg,hd,po,sa⟩,W.mg_of X G aC,n_row_list_,n_board_list_,n_rank_list_,n_knob_rows_,n_board_numbers_,n_rank_numbers_,n_knob_numbers_,n_key_places_,n_pipe_places_,n_knob_lines_,n_step_sets_⟩
 have N:V0 K mg C c1 ⟨fWh,fMd,fNm,fRo,fTo,fWi,fPa,fHp,fCl,fIk,fSb,fWm,fHr,fIr,fCk,fNu,fCa,fPl,fLi,fMy,fSt,fIl,fHw,fAh,fHo,fFh,fRf,fR1,fOa,fTk,fCh,fCt,fWp,fDg,fMv,fRp,fEe,fSl,fLc,fLm,fSm,fCu,fDn,fDw,fLg,fLv,fGr,fSs,fOi,fBk,fOp,fOr,fOq,fOx,_,_,_,_,_,_,_,_,_,_,_,_,_,_,_,_,_,_,_,_,_,_,_,_,_,_,_,_,_,_,_,_,_,_,_,_,_,_,_,_,_,_,_,_,_,_,_,_,_,_,_,_,_,_⟩:=⟨⟨FWh,(Fy FWh),W.mg_of X G aWh⟩,⟨FMd,(Rx FMd),W.mg_of X G aMd⟩,⟨FNm,(Fy FNm),W.mg_of X G aNm⟩,⟨FRo,(Ed FRo),W.mg_of X G aRo⟩,⟨FTo,(Rx FTo),W.mg_of X G aTo⟩,⟨FWi,(Ed FWi),W.mg_of X G aWi⟩,⟨FPa,(Rx FPa),W.mg_of X G aPa⟩,⟨FHp,(Ed FHp),W.mg_of X G aHp⟩,⟨FCl,(Fy FCl),W.mg_of X G aCl⟩,⟨FIk,(Rx FIk),W.mg_of X G aIk⟩,⟨FSb,(Ed FSb),W.mg_of X G aSb⟩,⟨FWm,(Ed FWm),W.mg_of X G aWm⟩,⟨FHr,(Ed FHr),W.mg_of X G aHr⟩,⟨FIr,(Ed FIr),W.mg_of X G aIr⟩,⟨FCk,(Fy FCk),W.mg_of X G aCk⟩,⟨FNu,(Fy FNu),W.mg_of X G aNu⟩,⟨FCa,(Fy FCa),W.mg_of X G aCa⟩,⟨FPl,(Fy FPl),W.mg_of X G aPl⟩,⟨FLi,(Ed FLi),W.mg_of X G aLi⟩,⟨FMy,(Fy FMy),W.mg_of X G aMy⟩,⟨FSt,(Fy FSt),W.mg_of X G aSt⟩,⟨FIl,(Fy FIl),W.mg_of X G aIl⟩,⟨FHw,(Ed FHw),W.mg_of X G aHw⟩,⟨FAh,(Ed FAh),W.mg_of X G aAh⟩,⟨FHo,bHo,W.mg_of X G aHo⟩,⟨FFh,(Fy FFh),W.mg_of X G aFh⟩,⟨FRf,(Ed FRf),W.mg_of X G aRf⟩,⟨FR1,(Ed FR1),W.mg_of X G aR1⟩,⟨FOa,(Ed FOa),W.mg_of X G aOa⟩,⟨FTk,(Ed FTk),W.mg_of X G aTk⟩,⟨FCh,(Fy FCh),W.mg_of X G aCh⟩,⟨FCt,(Fy FCt),W.mg_of X G aCt⟩,⟨FWp,(Fy FWp),W.mg_of X G aWp⟩,⟨FDg,(Ed FDg),W.mg_of X G aDg⟩,⟨FMv,(Ed FMv),W.mg_of X G aMv⟩,⟨FRp,(Rx FRp),W.mg_of X G aRp⟩,⟨FEe,(Ed FEe),W.mg_of X G aEe⟩,⟨FSl,(Ed FSl),W.mg_of X G aSl⟩,⟨FLc,(Ed FLc),W.mg_of X G aLc⟩,⟨FLm,(Ed FLm),W.mg_of X G aLm⟩,⟨FSm,(Fy FSm),W.mg_of X G aSm⟩,⟨FCu,(Rx FCu),W.mg_of X G aCu⟩,⟨FDn,(Ed FDn),W.mg_of X G aDn⟩,⟨FDw,(Ed FDw),W.mg_of X G aDw⟩,⟨FLg,(Fy FLg),W.mg_of X G aLg⟩,⟨FLv,(Fy FLv),W.mg_of X G aLv⟩,⟨FGr,(Ed FGr),W.mg_of X G aGr⟩,⟨FSs,(lQ FSs),W.mg_of X G aSs⟩,⟨FOi,(Ed FOi),⟨mkC,aOi,iOi,kc⟩⟩,⟨FBk,(Ed FBk),⟨aBk,iBk,FBk.kp⟩⟩,⟨FOp,(Ed FOp),⟨aOp,iOp,FOp.kp⟩⟩,⟨FOr,(Fy FOr),⟨aOr,iOr,FOr.kp⟩⟩,⟨FOq,(Fy FOq),⟨aOq,iOq,FOq.kp⟩⟩,⟨FOx,(Ed FOx),⟨aOx,iOx,FOx.kp⟩⟩⟩
 exact ⟨W.fnOf "law" "law" (Ck Il) (Cd Il) (Ah Il) .none kVZ dcZ pmZ anZ cdZ ctZ,fun s v=>.of_eq rfl,fun base _ _ hK=>Yu FZ N T (hK (c1,P1) (by simp)) F0⟩
theorem walk {l:W.OpenLaw} {q:Program} {loose:List Str} {XP:(Str->Option Value)->Heap->Prop} {YP:World->Heap->Prop} {d:DefRec} {K:Params->W.Frag} {c1 P1:Addr} (hn:l.most=some 63) (hdf:d.params.defaults=[])
  (hY:∀ (w:World) (h:Heap),YP w h->(K w.params).In h) (hnt:∀ w:World,W.noTabs (K w.params)=true)
  (hT:∀ (w:World) (mg mb:Str->Option Value) (mean:ExcName->Option Value) (h:Heap),PyProof.Rows.Top q (W.looseW q loose) mean mg mb h->(K w.params).In h->W.TabsAt [(c1,P1)] h)
  (F:∀ (w:World) (mg:Str->Option Value) (fa:Addr) (h:Heap),(K w.params).In h->h.Ns mainGlobals mg->mg d.name=some (.ref fa) ->
   ∃ fd:FuncData,(∀ (s:Shared) (u:Value),BindsTo s fd ⟨[u],[]⟩ [("_law_script",u)])/\∀ base:Heap,(K w.params).In base->base.Ns mainGlobals mg->(∀ q∈[(c1,P1)],HH mg base q.1 q.2)->BP l.prog w (K w.params) mg base Bp 11 fa fd ["_law_script"] (WK (K w.params) (tb P1))) :
  W.WalkO q loose XP YP l.row.toRowW d [] (fun f vs=>PySem.call f vs) :=
 L2.VG (n:=63) (k:=11) (tabs:=[(c1,P1)]) (x:="_law_script") (CX:=fun _=>Bp) (sp:=fun w=>WK (K w.params) (tb P1)) hn (by decide) hdf ⟨rfl,by decide,by decide⟩ hY hnt hT F (fun _ H a ns hl hTH hS=>⟨a,ns,rfl,hS,hl,.inl (hTH _ (am ..)),fun _=>rfl⟩) fun _ _ _ _ _ z=>z
end K74
open PySem PySem.W PyProof.Rows
noncomputable def PySem.W.Fast.tw12378185218627133258:Unit:=()
noncomputable def PySem.W.Fast.tw9841900274810031171:Unit:=()
noncomputable def PySem.W.Fast.tw301282620667118695:Unit:=()
noncomputable def PySem.W.Fast.tw6855769611747305189:Unit:=()
noncomputable def PySem.W.Fast.tw2632226088228915646:Unit:=()
noncomputable def PySem.W.Fast.tw8877749817497624786:Unit:=()
noncomputable def PySem.W.Fast.tw12370725904211338698:Unit:=()
noncomputable def PySem.W.Fast.tw4941753007039425599:Unit:=()
noncomputable def PySem.W.Fast.tw15750208390985641716:Unit:=()
noncomputable def PySem.W.Fast.tw17354022834397410533:Unit:=()
noncomputable def PySem.W.Fast.tw3100769938347847408:Unit:=()
noncomputable def PySem.W.Fast.tw16477112698630760507:Unit:=()
noncomputable def PySem.W.Fast.tw9428841618076671252:Unit:=()
noncomputable def PySem.W.Fast.tw3099649669000412148:Unit:=()
noncomputable def PySem.W.Fast.tw9614718878494718395:Unit:=()
noncomputable def PySem.W.Fast.tw7781112490026321412:Unit:=()
noncomputable def PySem.W.Fast.tw14573909074058938243:Unit:=()
noncomputable def PySem.W.Fast.tw11008563507246893013:Unit:=()
noncomputable def PySem.W.Fast.tw12160139768142083400:Unit:=()
noncomputable def PySem.W.Fast.tw9598881762015964065:Unit:=()
noncomputable def PySem.W.Fast.tw16086456159761326234:Unit:=()
noncomputable def PySem.W.Fast.tw9411109335299563670:Unit:=()
noncomputable def PySem.W.Fast.tw4546914498483350516:Unit:=()
noncomputable def PySem.W.Fast.tw13213026814026325967:Unit:=()
noncomputable def PySem.W.Fast.tw408215725136681879:Unit:=()
noncomputable def PySem.W.Fast.tw15149979662355287294:Unit:=()
noncomputable def PySem.W.Fast.tw16743152753642415252:Unit:=()
noncomputable def PySem.W.Fast.tw7347860111497022120:Unit:=()
noncomputable def PySem.W.Fast.tw7078550337105636419:Unit:=()
noncomputable def PySem.W.Fast.tw8984586492125964811:Unit:=()
noncomputable def PySem.W.Fast.tw8241301790352341985:Unit:=()
noncomputable def PySem.W.Fast.tw12100679652186200043:Unit:=()
noncomputable def PySem.W.Fast.tw14006713523926942822:Unit:=()
noncomputable def PySem.W.Fast.tw2941655273916425390:Unit:=()
noncomputable def PySem.W.Fast.tw4904344114001287296:Unit:=()
noncomputable def PySem.W.Fast.tw13178168261096851416:Unit:=()
noncomputable def PySem.W.Fast.tw12898707541516556425:Unit:=()
noncomputable def PySem.W.Fast.tw15164109217020007585:Unit:=()
noncomputable def PySem.W.Fast.tw17574470720187305457:Unit:=()
noncomputable def PySem.W.Fast.tw12984478565005153752:Unit:=()
noncomputable def PySem.W.Fast.tw14490116129028085743:Unit:=()
noncomputable def PySem.W.Fast.tw8449498590095220707:Unit:=()
noncomputable def PySem.W.Fast.tw292903395231052054:Unit:=()
noncomputable def PySem.W.Fast.tw10201356313151848870:Unit:=()
noncomputable def PySem.W.Fast.tw10886900104629847905:Unit:=()
noncomputable def PySem.W.Fast.tw5883569728365940643:Unit:=()
noncomputable def PySem.W.Fast.tw12059456350786984876:Unit:=()
noncomputable def PySem.W.Fast.tw17459317082429757979:Unit:=()
noncomputable def PySem.W.Fast.tw14981445006679282733:Unit:=()
noncomputable def PySem.W.Fast.tw13315741214795434106:Unit:=()
noncomputable def PySem.W.Fast.tw11264206659611730854:Unit:=()
noncomputable def PySem.W.Fast.tw2501735459407787387:Unit:=()
noncomputable def PySem.W.Fast.tw14721015494099043360:Unit:=()
noncomputable def PySem.W.Fast.tw7125338726134903171:Unit:=()
noncomputable def PySem.W.Fast.tw12504324796188076327:Unit:=()
noncomputable def PySem.W.Fast.tw12911014547487627053:Unit:=()
noncomputable def PySem.W.Fast.tw17091772433988557381:Unit:=()
noncomputable def PySem.W.Fast.tw10300899512103323806:Unit:=()
noncomputable def PySem.W.Fast.tw14120153992961210791:Unit:=()
noncomputable def PySem.W.Fast.tw16012533159187921842:Unit:=()
noncomputable def PySem.W.Fast.tw14173564870124780531:Unit:=()
noncomputable def PySem.W.Fast.tw9468600981275925963:Unit:=()
noncomputable def PySem.W.Fast.tw14399733424579948517:Unit:=()
noncomputable def PySem.W.Fast.tw7245308070672478102:Unit:=()
noncomputable def PySem.W.Fast.tw2153283529538869946:Unit:=()
noncomputable def PySem.W.Fast.tw4668901910181440195:Unit:=()
noncomputable def PySem.W.Fast.tw13918300783994544332:Unit:=()
noncomputable def PySem.W.Fast.tw16020538448021320218:Unit:=()
noncomputable def PySem.W.Fast.tw15387863183636644787:Unit:=()
noncomputable def PySem.W.Fast.tw7801576565918979374:Unit:=()
noncomputable def PySem.W.Fast.tw9237308881235695250:Unit:=()
noncomputable def PySem.W.Fast.tw2322977962205456069:Unit:=()
noncomputable def PySem.W.Fast.tw11661678177215119260:Unit:=()
noncomputable def PySem.W.Fast.tw18257773212357089423:Unit:=()
noncomputable def PySem.W.Fast.tw850645070059134792:Unit:=()
noncomputable def PySem.W.Fast.tw14683804170026625384:Unit:=()
noncomputable def PySem.W.Fast.tw17526366588741008889:Unit:=()
noncomputable def PySem.W.Fast.tw1846789374074289342:Unit:=()
noncomputable def PySem.W.Fast.tw15160592284727815004:Unit:=()
noncomputable def PySem.W.Fast.tw2402768972595568029:Unit:=()
noncomputable def PySem.W.Fast.tw2167766782021524596:Unit:=()
set_option maxRecDepth 100000 in
set_option maxHeartbeats 0 in
theorem PySem.Challenge.cw_windchest_k74_whole_barrels_joined_holds : PySem.Challenge.rw_windchest_k74_whole_barrels_joined.Holds := by
 w_on; o_law; k_head; (case hw=>w_witness2)
 k_fill
 refine K74.walk (l:=PySem.Challenge.rw_windchest_k74_whole_barrels_joined) (c1:=133) (P1:=129) rfl rfl (fun w h Y=>PySem.W.km_in_of Y) ?nt ?T ?F
 case nt=>exact (fun w=>by kernel_rfl)
 case T =>
  intro w mg mb mean h T KX
  exact List.forall_mem_cons.mpr ⟨PySem.W.tab_of (x:="holes_of") (c:=133) (P:=129) T KX rfl (by kernel_rfl),fun _ h=>nomatch h⟩
 case F =>
  intro w mg fa h KX G hmg
  refine' K74.Y5 (c1:=133) (P1:=129) KX G hmg ?_ ?_ ?_ ?_ ?_ ?_ ?_ ?_ ?_ ?_ ?_ ?_ ?_ ?_ ?_ ?_ ?_ ?_ ?_ ?_ ?_ ?_ ?_ ?_ ?_ ?_ ?_ ?_ ?_ ?_ ?_ ?_ ?_ ?_ ?_ ?_ ?_ ?_ ?_ ?_ ?_ ?_ ?_ ?_ ?_ ?_ ?_ ?_ ?_ ?_ ?_ ?_ ?_ ?_ ?_ ?_ ?_ ?_ ?_ ?_ ?_ ?_ ?_ ?_ ?_ ?_ ?_ ?_ ?_ ?_ ?_ ?_ ?_ ?_ ?_ ?_ ?_ ?_ ?_ ?_ ?_ ?_ ?_ ?_ ?_ ?_ ?_ ?_ ?_ ?_ ?_ ?_ ?_ ?_ ?_ ?_ ?_ ?_ ?_ ?_ ?_ ?_ ?_ ?_ ?_ ?_ ?_ ?_ ?_ ?_ ?_ ?_ ?_ ?_ ?_ ?_ ?_ ?_ ?_ ?_ ?_ ?_ ?_ ?_ ?_ ?_ ?_ ?_ ?_ ?_ ?_ ?_ ?_ ?_ ?_ ?_ ?_ ?_ ?_ ?_ ?_ ?_ ?_ ?_ ?_ ?_ ?_ ?_ ?_ ?_ ?_ ?_ ?_ ?_ ?_ ?_ ?_
  all_goals first | (k_is; done) | (refine' ⟨?a,_,L2.Lg ?l ?c ?k⟩; (case a=>k_is); (case l=>k_is); (case c=>k_is); case k=>k_is) | (refine' ⟨?a,?i,_,L2.Lg ?l ?c ?k⟩; (case a=>k_is); (case i=>k_is); (case l=>k_is); (case c=>k_is); case k=>k_is) | (k_keys; done) | decide | kernel_rfl! | skip
end PartK74z
