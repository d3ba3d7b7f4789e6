import PyProof.Rows.All
import Wide.All
import OpenK.AllK
import Wide.FinOn
import Lean
import PyProof.EqAt
import PyProof.EqKinds
import PyProof.TupleCall
import PyProof.ZipIter
import PyProof.WalksEnum
import PyProof.EnumMake
import PyProof.NeKinds
import KE.KDictList
import PyProof.Rows.SetFrom
import PyProof.StrWalks
import PyProof.CollectWalk
import PyProof.Rows.SortWalk
import PyProof.Rows.BitMore
import PyProof.Rows.IntCalls
import KE.KRevIter
import PyProof.SetRoads
import OpenK.KTop
import PyProof.Rows.StrWeight2
import PyProof.SumWalk
import PyProof.SliceList
import PyProof.FactsAll.subtypes_4
import PyProof.StationsW
import PyProof.NsDelKeeps
import PyProof.Rows.StrClose
import PyProof.Rows.CatFin
import PyProof.SeqI3
import PyProof.Rows.StrCase
import PyProof.PureStr
import PyProof.IsRules
import PyProof.Rows.SortRunsK
import KE.KSortAsk
import KE.KSortTup
import PySem.Challenge.RW_windchest_k45_knobs_in_force
abbrev vSP:=PySem.Value->PySem.Shared->Prop
def ae:=@List.getElem?_eq_getElem
def af:=@List.length_map
def ag:=@List.getElem?_eq_some_iff
def ah:=@Nat.le_refl
def ai:=@List.mem_of_getElem?
def al:=@List.getElem?_map
def am:=@List.length_append
def ar:=@List.mem_map
def av:=@List.mem_singleton
def ax:=@List.map_map
def ay:=@List.length_singleton
def aE:=@Option.map_eq_some_iff
def aI:=@List.mem_map_of_mem
def aS:=@List.mem_filter
def aT:=@Nat.lt_of_le_of_lt
def ba:=@Nat.le_trans
def bb:=@Int.toNat_natCast
def be:=@PyProof.Rows.boot_isinstance
def bg:=@List.filter_eq_self
def bi:=@Nat.lt_of_lt_of_le
def bo:=@PySem.boot_len
def bp:=@List.length_cons
def bq:=@List.mem_cons_of_mem
def br:=@Nat.ne_of_lt
def bt:=@List.mem_append_right
def bE:=@List.length_filter_le
def bX:=@List.mem_append
def cc:=@List.getD_eq_getElem?_getD
def ce:=@List.mem_cons_self
def cf:=@List.mem_cons
def ci:=@List.size_toArray
def ck:=@List.length_take
def cm:=@List.map_append
def cq:=@PySem.F.plainAttrs_list
def cr:=@List.take_add_one
def cw:=@List.map_cons
def cy:=@List.mem_append_left
def dc:=@List.getElem?_append_right
def dn:=@Nat.succ_le_succ
def dt:=@List.getElem?_eq_none
def dA:=@Nat.zero_le
def dE:=@List.getElem?_of_mem
def dL:=@List.getElem_mem
def dS:=@List.append_nil
def ee:=@PySem.F.slot_list_append
def et:=@PySem.F.type_list_append
def eD:=@List.take_length
def eI:=@PyProof.Rows.boot_list
def eJ:=@PySem.F.slot_dict_get
def eR:=@List.filter_map
def fb:=@Bool.false_ne_true
def fe:=@Bool.eq_iff_iff
def ff:=@List.filter_cons
def fg:=@List.take_append_of_le_length
def fh:=@Option.isSome_iff_exists
def fi:=@List.filter_append
def fk:=@Bool.and_eq_true
def fm:=@List.all_eq_true
def fo:=@Bool.not_eq_true
def fq:=@List.ext_getElem?
def ft:=@List.map_congr_left
def fw:=@List.getElem?_append_left
def fA:=@Nat.le_of_lt
def fE:=@List.sum_append
def fF:=@List.any_eq_true
def fI:=@List.mem_iff_getElem
def fN:=@List.mem_of_mem_take
def fR:=@Nat.lt_irrefl
def fS:=@List.mem_range
def fT:=@Nat.lt_succ_of_lt
def gc:=@List.append_assoc
def gd:=@List.idxOf_lt_length_of_mem
def ge:=@List.take_of_length_le
def gg:=@List.getElem?_zipWith
def gi:=@List.take_append_drop
def gp:=@PyProof.Rows.boot_int
def gu:=@PyProof.Rows.boot_all
def gx:=@List.pairwise_iff_forall_sublist
def gy:=@List.nodup_cons
def gz:=@List.length_range
def gE:=@Int.zero_add
def gI:=@PySem.F.plainAttrs_dict
def gL:=@Bool.true_and
def gS:=@Bool.false_and
def gT:=@Int.natCast_nonneg
def gX:=@Nat.ne_of_gt
def hG:=@PyProof.Rows.boot_str
def hU:=@List.map_take
def hV:=@List.nodup_append
def hZ:=@Nat.le_succ_of_le
def ic:=@List.getElem?_zipIdx
def ii:=@Nat.lt_pow_two_of_testBit
def ij:=@Nat.lt_succ_self
def im:=@List.lookup_cons
def io:=@List.length_zipWith
def ip:=@Nat.not_lt_zero
def iq:=@Nat.add_sub_cancel_left
def ix:=@PyProof.Rows.boot_tuple
def iA:=@Int.eq_ofNat_of_zero_le
def iE:=@Int.emod_lt_of_pos
def iF:=@PySem.F.slot_dict_getitem.lookup
def iL:=@PyProof.Rows.boot_bool
def iN:=@Nat.le_succ
def iO:=@List.map_id
def iP:=@List.nodup_nil
def iS:=@List.length_replicate
def iX:=@PySem.F.type_dict_get
def ja:=@PyProof.Rows.boot_any
def jp:=@List.mem_of_mem_drop
def jv:=@Nat.mul_le_mul_right
def jI:=@Nat.pow_le_pow_right
def jS:=@List.any_cons
def ke:=@List.sum_cons
def kg:=@Option.map_some
def ki:=@Int.toNat_of_nonneg
def ko:=@Int.emod_nonneg
def kq:=@Nat.sub_self
def ku:=@List.take_sublist
def kx:=@List.pairwise_map
def kz:=@List.foldl_append
def kA:=@Nat.lt_of_succ_lt
def kC:=@List.length_drop
def kD:=@List.getElem_map
def kF:=@List.not_mem_nil
def kG:=@List.map_nil
theorem kK {p q r:Prop} (h:p):(p∨q)∨r:=.inl (.inl h)
local macro_rules|`(tactic|decide)=>`(tactic|decide +kernel)
local macro_rules | `(tactic| omega) => `(tactic| lia)
set_option Elab.async false
set_option linter.all false
set_option maxRecDepth 100000
noncomputable section
namespace L2
open PySem PySem.Spec PyProof.Rows
variable {s:Shared} {n i j t' dr sh m:Nat} {A:Around} {pos p d6:Pos} {a C f y Cy sd b dx aB aP aM pE pA z D Cp it hd:Addr} {E Q:vSP} {x t qual:Str} {a8:List (Addr × Obj)} {prog P:Program} {e tg iter k8:Expr} {u:Value} {h h' base:Heap} {fd:FuncData} {ps ns nms:List Str} {es k7:List Expr} {sts:List Nat} {st:Stmt} {c:Nat->Nat} {scope:Scope} {mg:Str->Option Value} {fp:List Addr} {led:Bool}
abbrev Key:=Sum Int Str
def Jl:Key->Value->Bool
 | .inl k,v=>Value.isInt k v
 | .inr x,v=>Value.isStrOf x v
def uP (w:World):Key->Int
 | .inl k=>hashInt k
 | .inr x=>hashStr w x
theorem CT:∀ {k:Key} {v:Value},Jl k v=true->(∃ i t,k=Sum.inl i/\v=Value.int i t) \/ (∃ x t,k=Sum.inr x/\v=Value.str x t)
 | .inl i,v,h=>by
  obtain⟨t,e⟩:=Value.isInt_shape (k:=i) (v:=v) h
  exact .inl ⟨i,t,rfl,e⟩
 | .inr x,v,h=>by
  obtain⟨t,e⟩:=Value.isStrOf_shape (x:=x) (v:=v) h
  exact .inr ⟨x,t,rfl,e⟩
theorem VD (i:Int) (t:Tok):Jl (.inl i) (.int i t)=true:=by simp[Jl,Value.isInt]
theorem UG (x:Str) (t:Tok):Jl (.inr x) (.str x t)=true:=by simp[Jl,Value.isStrOf]
theorem iK (a b:Int):decide ((Sum.inl a:Key)=Sum.inl b)=(a == b):=by
 by_cases e:a=b
 ·subst e;simp
 ·have h:¬ (Sum.inl a:Key)=Sum.inl b:=λq=>e (Sum.inl.inj q)
  rw[decide_eq_false h]
  exact (beq_eq_false_iff_ne.mpr e).symm
theorem jQ (a b:Str):decide ((Sum.inr a:Key)=Sum.inr b)=decide (a=b):=by
 by_cases e:a=b
 ·subst e;simp
 ·have h:¬ (Sum.inr a:Key)=Sum.inr b:=λq=>e (Sum.inr.inj q)
  rw[decide_eq_false h,decide_eq_false e]
theorem gY (a:Int) (b:Str):decide ((Sum.inl a:Key)=Sum.inr b)=false:=decide_eq_false (λq=>nomatch q)
theorem d7 (a:Str) (b:Int):decide ((Sum.inr a:Key)=Sum.inl b)=false:=decide_eq_false (λq=>nomatch q)
def Bt (prog:Program) (w:World):PySem.KeyKind prog w Key where
 is:=Jl
 hash:=uP w
 inj:=λv a b ha hb=>by
  rcases CT ha with⟨i,t,rfl,rfl⟩ | ⟨x,t,rfl,rfl⟩
  ·rcases CT hb with⟨j,u,rfl,e⟩ | ⟨y,u,rfl,e⟩
   ·injection e with e1 _;rw[e1]
   ·exact nomatch e
  ·rcases CT hb with⟨j,u,rfl,e⟩ | ⟨y,u,rfl,e⟩
   ·exact nomatch e
   ·injection e with e1 _;rw[e1]
 byValue:=λk v h=>by
  rcases CT h with⟨i,t,rfl,rfl⟩ | ⟨x,t,rfl,rfl⟩ <;> rfl
 pyHash:=λhv h=>by
  rcases CT hv with⟨i,t,rfl,rfl⟩ | ⟨x,t,rfl,rfl⟩
  ·exact wpAny_pyHash_int h
  ·exact wpAny_pyHash_str h
 eqBool:=λhu hv h=>by
  rcases CT hu with⟨i,t,rfl,rfl⟩ | ⟨x,t,rfl,rfl⟩
  ·rcases CT hv with⟨j,u,rfl,rfl⟩ | ⟨y,u,rfl,rfl⟩
   ·rw[iK] at h;exact wpAny_eqBool_int h
   ·rw[gY] at h;exact SeqAt.EqAt.int_str i t y u _ _ _ _ h
  ·rcases CT hv with⟨j,u,rfl,rfl⟩ | ⟨y,u,rfl,rfl⟩
   ·rw[d7] at h;exact SeqAt.EqAt.str_int x t j u _ _ _ _ h
   ·rw[jQ] at h;exact wpAny_eqBool_str h
 «strs»:=λk x t v h=>by
  rcases CT h with⟨i,u,rfl,e⟩ | ⟨y,u,rfl,e⟩
  ·exact nomatch e
  ·injection e with e1 _
   subst e1
   cases v <;> rfl
theorem O8 (prog:Program) (w:World) (i:Int) (t:Tok):(Bt prog w).is (.inl i) (.int i t)=true:=VD i t
theorem QM (prog:Program) (w:World) (x:Str) (t:Tok):(Bt prog w).is (.inr x) (.str x t)=true:=UG x t
inductive V where
 | non | bl (b:Bool) | int (i:Int) | str (x:Str) | byt (b:Array UInt8) | flt (b:UInt64) | ref (a:Addr) | ty (n:String)
 deriving DecidableEq
def RelV:V->Value->Prop
 | .non,u=>u=Value.none
 | .bl b,u=>u=Value.bool b
 | .int i,u=>∃ t,u=Value.int i t
 | .str x,u=>∃ t,u=Value.str x t
 | .byt b,u=>∃ t,u=Value.bytes b t
 | .flt b,u=>∃ t,u=Value.float b t
 | .ref a,u=>u=Value.ref a
 | .ty n,u=>u=Value.type n
abbrev Vals:List V->List Value->Prop:=Paired RelV
theorem Vals.length {xs:List V} {us:List Value} (r:Vals xs us):xs.length=us.length:=Paired.length r
theorem Vals.get:∀ {xs:List V} {us:List Value} {i:Nat} {x:V},Vals xs us->xs[i]? = some x->∃ u,us[i]? = some u/\RelV x u
 | _,_,_,_,.nil,e=>by simp at e
 | _,_,0,_,.cons r _,e=>by simp at e;subst e;exact⟨_,rfl,r⟩
 | _,_,i+1,x,.cons _ t,e=>by
  obtain⟨u,b,a⟩:=Vals.get (i:=i) (x:=x) t (by simpa using e)
  exact⟨u,by simpa using b,a⟩
theorem Vals.append:∀ {xs ys:List V} {us ws:List Value},Vals xs us->Vals ys ws->Vals (xs++ys) (us++ws)
 | _,_,_,_,.nil,s=>s
 | _,_,_,_,.cons r t,s=>.cons r (Vals.append t s)
theorem Vals.take:∀ {xs:List V} {us:List Value} (n:Nat),Vals xs us->Vals (xs.take n) (us.take n)
 | _,_,0,_=>.nil
 | _,_,_+1,.nil=>.nil
 | _,_,n+1,.cons r t=>.cons r (Vals.take n t)
theorem Vals.drop:∀ {xs:List V} {us:List Value} (n:Nat),Vals xs us->Vals (xs.drop n) (us.drop n)
 | _,_,0,r=>r
 | _,_,_+1,.nil=>.nil
 | _,_,n+1,.cons _ t=>Vals.drop n t
def HF:Option V->Option Value->Prop
 | some v,some u=>RelV v u
 | none,none=>True
 | _,_=>False
def KV {κ:Type}:List (κ × V)->List (κ × Value)->Prop:=Paired λ(p:κ × V) (q:κ × Value)=>p.1=q.1/\RelV p.2 q.2
def kV:Key->V
 | .inl i=>.int i
 | .inr x=>.str x
inductive HO where
 | lst (xs:List V)
 | tup (xs:List V)
 | dK (kvs:List (Key × V)) | dT (kvs:List (List Key × V))
 | set (S:Int->Bool) (n:Nat)
 | ins (C dx:Addr) (fs:List (Str × V))
 | own (x:Addr)
 | xd (fs:List (Str × V))
 | met (f x:Addr)
 | rng (lo hi:Int)
 | frz (o:Obj) (u:HO)
 | tbl (ps:Array Value)
 | ext (φ:Heap->Prop)
abbrev Hp:=Addr->Option HO
variable {H H' H1 Ho H2:Hp} {kvs:List (Key × V)} {xs vs us:List V} {o:HO}
def upd (H:Hp) (a:Addr) (o:HO):Hp:=λb=>if b=a then some o else H b
theorem Ak:upd H a o a=some o:=by unfold upd;rw[if_pos rfl]
theorem Aw (h:b ≠ a):upd H a o b=H b:=by unfold upd;rw[if_neg h]
theorem cQ {u:HO} (h:H a=some o) (h':H b=some u) (d:o ≠ u):a ≠ b:=by
 intro e;subst e;rw[h] at h';exact d (Option.some.inj h')
theorem Ai (h:H a=some o) (h':H b=none):a ≠ b:=by
 intro e;subst e;rw[h] at h';cases h'
section
variable (P:Program) (w:World)
def CQ (H:Hp) (h:Heap) (a:Addr):HO->Prop
 | .lst xs=>xs.length<=sizeLine/\∃ (its:List Value) (n:Nat),Vals xs its/\h.get? a=some { cls:=.type "list",data:=.seq its.toArray n }
 | .tup xs=>xs.length<=sizeLine/\∃ its:List Value,Vals xs its/\IsTup h a its.toArray
 | .dK kvs=>kvs.length<=sizeLine/\(a == sysModules)=false/\∃ vs,KV kvs vs/\h.DictOf (Bt P w) a vs
 | .dT kvs=>kvs.length<=sizeLine/\(a == sysModules)=false/\∃ xs:List (List Key × Addr × Value),
   Paired (λ(p:List Key × V) (q:List Key × Addr × Value)=>p.1=q.1/\H q.2.1=some (.tup (p.1.map kV))/\RelV p.2 q.2.2) kvs xs /\
   ∃ o es ep,h.get? a=some o/\o.ExactDict/\o.data=.dict es ep/\es.toList=xs.map (entryOfKey (tupleKind (Bt P w)))/\(xs.map (·.1)).Nodup
 | .set S n=>h.SetOf (intKind P w) a S n
 | .ins C dx fs=>H dx=some (.own a)/\fs.length<=1000/\dx ≠ a/\h.get? a=some (W.instObj C dx) /\
   ∃ mA,h.Ns1 dx mA/\(∀ f,HF (fs.lookup f) (mA f))/\PySem.Within mA (fs.map (·.1))
 | .own _=>∃ o,h.get? a=some o
 | .xd fs=>∃ mA,h.Ns1 a mA/\∀ f,HF (fs.lookup f) (mA f)
 | .rng lo hi=>∃ t u v,h.get? a=some { cls:=.type "range",data:=.fields #[.int lo t,.int hi u,.int 1 v] }
 | .frz o u=>h.get? a=some o/\CQ H h a u
 | .tbl ps=>h.get? a=some { cls:=.none,data:=.fields ps }
 | .met f x=>h.get? a=some (W.methodObj (.ref f) (.ref x))
 | .ext φ=>φ h/\(∃ o,h.get? a=some o)/\∀ h1 h2:Heap,φ h1->(∀ o,h1.get? a=some o->h2.get? a=some o)->φ h2
def GK (H:Hp) (h:Heap):Prop:=∀ a o,H a=some o->CQ P w H h a o
end
section
variable {w:World}
theorem CQ.lt (x:CQ P w H h a o):a<h.objs.size:=by
 cases o with
 | lst c=>obtain⟨_,_,_,_,e⟩:=x;exact Heap.lt_size e
 | tup c=>obtain⟨_,_,_,p⟩:=x;exact p.lt
 | dK b=>obtain⟨_,_,_,_,o,_,_,e,_⟩:=x;exact Heap.lt_size e
 | dT b=>obtain⟨_,_,_,_,o,_,_,e,_⟩:=x;exact Heap.lt_size e
 | set S n=>obtain⟨o,_,_,_,e,_⟩:=x;exact Heap.lt_size e
 | ins C i fs=>obtain⟨_,_,_,e,_⟩:=x;exact Heap.lt_size e
 | own y=>obtain⟨_,e⟩:=x;exact Heap.lt_size e
 | xd fs=>obtain⟨_,⟨_,_,_,e,_⟩,_⟩:=x;exact Heap.lt_size e
 | rng lo d=>obtain⟨_,_,_,e⟩:=x;exact Heap.lt_size e
 | frz j u=>obtain⟨e,_⟩:=x;exact Heap.lt_size e
 | tbl g=>exact Heap.lt_size (show h.get? a=some _ from x)
 | met f y=>exact Heap.lt_size (show h.get? a=some _ from x)
 | ext φ=>obtain⟨_,⟨_,e⟩,_⟩:=x;exact Heap.lt_size e
theorem Paired.Ku {α β:Type} {F G:α->β->Prop}:∀ {l₁:List α} {l₂:List β},Paired F l₁ l₂->(∀ a b,F a b->G a b)->Paired G l₁ l₂
 | _,_,.nil,_=>.nil
 | _,_,.cons r t,f=>.cons (f _ _ r) (Paired.Ku t f)
theorem CQ.stay (x:CQ P w H h a o) (k:∀ b u,(b=a \/ H b=some (.own a))->h.get? b=some u->h'.get? b=some u)
  (G:∀ b,H b=some (.own a)->H' b=some (.own a)) (E:∀ b xs,H b=some (.tup xs)->H' b=some (.tup xs)):CQ P w H' h' a o:=by
 induction o with
 | lst xs=>obtain⟨z,l,n,r,e⟩:=x;exact⟨z,l,n,r,k _ _ (.inl rfl) e⟩
 | tup xs=>obtain⟨z,l,r,g,e,c⟩:=x;exact⟨z,l,r,g,k _ _ (.inl rfl) e,c⟩
 | dK m=>obtain⟨z,y,D,r,g,j,i,e,c⟩:=x;exact⟨z,y,D,r,g,j,i,k _ _ (.inl rfl) e,c⟩
 | dT m =>
  obtain⟨z,y,xs,r,g,j,i,e,c⟩:=x
  exact⟨z,y,xs,Paired.Ku r λp q z=>⟨z.1,E _ _ z.2.1,z.2.2⟩,g,j,i,k _ _ (.inl rfl) e,c⟩
 | set S n=>obtain⟨g,j,i,t,e,c⟩:=x;exact⟨g,j,i,t,k _ _ (.inl rfl) e,c⟩
 | ins C K fs =>
  obtain⟨d,z,ne,e,A,⟨s,j,i,I,c⟩,r⟩:=x
  exact⟨G _ d,z,ne,k _ _ (.inl rfl) e,A,⟨s,j,i,k _ _ (.inr d) I,c⟩,r⟩
 | own y=>obtain⟨g,e⟩:=x;exact⟨g,k _ _ (.inl rfl) e⟩
 | xd fs=>obtain⟨A,⟨s,j,i,e,c⟩,r⟩:=x;exact⟨A,⟨s,j,i,k _ _ (.inl rfl) e,c⟩,r⟩
 | rng lo J=>obtain⟨t,u,v,e⟩:=x;exact⟨t,u,v,k _ _ (.inl rfl) e⟩
 | frz g u F=>obtain⟨e,q⟩:=x;exact⟨k _ _ (.inl rfl) e,F q⟩
 | tbl B =>
  have e:h.get? a=some { cls:=.none,data:=.fields B }:=x
  show h'.get? a=some { cls:=.none,data:=.fields B }
  exact k a _ (.inl rfl) e
 | met f y =>
  have e:h.get? a=some (W.methodObj (.ref f) (.ref y)):=x
  show h'.get? a=some (W.methodObj (.ref f) (.ref y))
  exact k a _ (.inl rfl) e
 | ext φ=>obtain⟨p,⟨o,e⟩,st⟩:=x;exact⟨st _ _ p λo q=>k _ _ (.inl rfl) q,⟨o,k _ _ (.inl rfl) e⟩,st⟩
theorem GK.lt (x:GK P w H h) (e:H a=some o):a<h.objs.size:=(x a o e).lt
theorem GK.fresh (x:GK P w H h) (e:h.objs.size<=a):H a=none:=by
 cases q:H a with
 | none=>rfl
 | some u=>exact absurd (bi (x.lt q) e) (fR _)
theorem GK.kept (x:GK P w H h) (k:∀ b u,h.get? b=some u->h'.get? b=some u):GK P w H h':=λa o e =>
 (x a o e).stay (λb u _ q=>k b u q) (λ_ q=>q) λ_ _ q=>q
theorem GK.laid (x:GK P w H h) (k:∀ b u,h.get? b=some u->h'.get? b=some u) (g:h.objs.size<=a) (new:CQ P w (upd H a o) h' a o):GK P w (upd H a o) h':=λb u e=>by
 have d:=x.fresh g
 by_cases f:b=a
 ·subst f;rw[Ak] at e;cases e;exact new
 ·rw[Aw f] at e
  exact (x b u e).stay (λc v _ q=>k c v q) (λc q=>by rw[Aw (Ai q d)];exact q) λc i q=>by rw[Aw (Ai q d)];exact q
end
def Rd (H:Hp) (a:Addr) (u:HO):Prop:=H a=some u \/ ∃ o,H a=some (.frz o u)
theorem Rd.ok {w:World} {u:HO} (r:Rd H a u) (x:GK P w H h):CQ P w H h a u:=by
 rcases r with r | ⟨o,r⟩
 ·exact x a u r
 ·obtain⟨_,q⟩:=x a _ r
  exact q
def jy:Option HO->Prop
 | some (.lst _)=>True
 | some (.dK _)=>True
 | some (.dT _)=>True
 | some (.set _ _)=>True
 | some (.ins _ _ _)=>True
 | some (.ext _)=>True
 | _=>False
section
variable {w:World} {x e:Addr} {o':HO}
theorem GK.write (ok:GK P w H h) (i:jy (H x)) (n:e=x \/ H e=some (.own x)) (k:∀ b u,b ≠ e->h.get? b=some u->h'.get? b=some u) (p:∃ u,h'.get? e=some u)
  (new:CQ P w (upd H x o') h' x o'):GK P w (upd H x o') h':=λb u q=>by
 have d:∀ c y,H c=some (.own y)->c ≠ x:=λc y r z=>by subst z;rw[r] at i;exact i
 have f:∀ c l,H c=some (.tup l)->c ≠ x:=λc l r z=>by subst z;rw[r] at i;exact i
 by_cases j:b=x
 ·subst j;rw[Ak] at q;cases q;exact new
 ·rw[Aw j] at q
  by_cases a:b=e
  ·have m:H b=some (.own x):=by
    rcases n with z | z
    ·exact absurd (a.trans z) j
    ·rw[a];exact z
   rw[q] at m;cases m
   obtain⟨v,o⟩:=p
   exact⟨v,by rw[a];exact o⟩
  ·refine (ok b u q).stay (λc v g r=>k c v ?_ r) (λc r=>by rw[Aw (d c b r)];exact r) λc l r=>by rw[Aw (f c l r)];exact r
   rcases g with rfl | g
   ·exact a
   ·rintro rfl
    rcases n with z | z
    ·exact d c b g z
    ·rw[g] at z;cases z;exact j rfl
end
structure Un (fs ex:List Addr) (H H':Hp) (h h':Heap):Prop where
 keep:∀ b o,h.get? b=some o->H b=none->b ∉ fs->b ∉ ex->h'.get? b=some o
 slot:∀ b o,h.get? b=some o->H b=none->b∈fs->b ∉ ex->∃ sl,h'.get? b=some { o with slots:=sl }
 free:∀ b o,h.get? b=some o->H b=none->b ∉ ex->H' b=none
 there:∀ b o,h.get? b=some o->b ∉ ex->∃ o',h'.get? b=some o'
 tups:∀ b xs,H b=some (.tup xs)->H' b=some (.tup xs)
 frzs:∀ b o u,H b=some (.frz o u)->H' b=some (.frz o u)
 tbls:∀ b ps,H b=some (.tbl ps)->∃ more,H' b=some (.tbl (ps++more))
section
variable {fs pf ex ex':List Addr} {h1 h2:Heap} {x e:Addr}
theorem Un.any (u:Un fs ex H H1 h h1) {a:Obj} (q:h.get? b=some a) (n:H b=none) (d:b ∉ ex):∃ sl,h1.get? b=some { a with slots:=sl }:=by
 by_cases c:b∈fs
 ·exact u.slot b a q n c d
 ·exact⟨a.slots,u.keep b a q n c d⟩
theorem Un.trans (a:Un fs ex H H1 h h1) (b:Un fs ex H1 H2 h1 h2):Un fs ex H H2 h h2 where
 keep:=λc d q n g e=>b.keep c d (a.keep c d q n g e) (a.free c d q n e) g e
 slot:=λc d q n g e=>by
  obtain⟨r,f⟩:=a.slot c d q n g e
  obtain⟨m,j⟩:=b.slot c _ f (a.free c d q n e) g e
  exact⟨m,j⟩
 free:=λc d q n e=>by
  obtain⟨k,f⟩:=a.there c d q e
  exact b.free c k f (a.free c d q n e) e
 there:=λc d q e=>by
  obtain⟨k,f⟩:=a.there c d q e
  exact b.there c k f e
 tups:=λc i q=>b.tups c i (a.tups c i q)
 frzs:=λc d i q=>b.frzs c d i (a.frzs c d i q)
 tbls:=λc l q=>by
  obtain⟨p,f⟩:=a.tbls c l q
  obtain⟨o,j⟩:=b.tbls c _ f
  exact⟨p++o,by rw[j,Array.append_assoc]⟩
theorem Un.kept (k:∀ b u,h.get? b=some u->h'.get? b=some u):Un fs ex H H h h' :=
 ⟨λb a q _ _ _=>k b a q,λb a q _ _ _=>⟨a.slots,k b a q⟩,λ_ _ _ n _=>n,λb a q _=>⟨a,k b a q⟩,λ_ _ q=>q,λ_ _ _ q=>q,λ_ c q=>⟨#[],by rw[q];simp⟩⟩
theorem Un.refl:Un fs ex H H h h:=Un.kept λ_ _ q=>q
theorem Un.laid (k:∀ b u,h.get? b=some u->h'.get? b=some u) (d:h.objs.size<=a) (c:H a=none):Un fs ex H (upd H a o) h h' where
 keep:=λb u q _ _ _=>k b u q
 slot:=λb u q _ _ _=>⟨u.slots,k b u q⟩
 free:=λb u q n _=>by rw[Aw (br (bi (Heap.lt_size q) d))];exact n
 there:=λb u q _=>⟨u,k b u q⟩
 tups:=λb e q=>by rw[Aw (Ai q c)];exact q
 frzs:=λb u e q=>by rw[Aw (Ai q c)];exact q
 tbls:=λb f q=>⟨#[],by rw[Aw (Ai q c),q];simp⟩
theorem Un.write (c:jy (H x)) (l:e=x \/ H e=some (.own x)) (k:∀ b u,b ≠ e->h.get? b=some u->h'.get? b=some u) (m:∃ u,h'.get? e=some u):Un fs ex H (upd H x o) h h':=by
 have f:∀ b,H b=none->b ≠ x:=λb n z=>by subst z;rw[n] at c;exact c
 have g:∀ b,H b=none->b ≠ e:=λb n z=>by
  subst z
  rcases l with r | r
  ·exact f b n r
  ·rw[n] at r;cases r
 have d:∀ b u,H b=some u->¬ jy (some u)->b ≠ x:=λb u q i z=>by subst z;rw[q] at c;exact i c
 refine⟨λb u q n _ _=>k b u (g b n) q,λb u q n _ _=>⟨u.slots,k b u (g b n) q⟩,λb u q n _=>by rw[Aw (f b n)];exact n,λb u q _=>?_,
  λb j q=>by rw[Aw (d b _ q λz=>z)];exact q,λb u j q=>by rw[Aw (d b _ q λz=>z)];exact q,λb p q=>⟨#[],by rw[Aw (d b _ q λz=>z),q];simp⟩⟩
 by_cases a:b=e
 ·subst a;exact m
 ·exact⟨u,k b u a q⟩
end
def qw (h:Heap) (H:Hp):List Addr:=(List.range h.objs.size).filter λa=>(H a).isSome
def N8 (h:Heap) (H:Hp):Heap:=W.hideAll h (qw h H)
theorem VH (h:Heap) (H:Hp):(N8 h H).objs.size=h.objs.size:=W.hideAll_size _ _
theorem V4 {o:Obj} (e:h.get? b=some o) (n:H b=none):(N8 h H).get? b=some o :=
 W.hideAll_get _ e λa=>by
  have q:(H b).isSome=true:=(aS.mp a).2
  rw[n] at q;simp at q
theorem ZR {o:Obj} (e:(N8 h H).get? b=some o):h.get? b=some o/\H b=none:=by
 have a:h.get? b=some o:=W.of_hideAll (qw h H) e
 refine⟨a,?_⟩
 cases q:H b with
 | none=>rfl
 | some x =>
  have c:b∈qw h H:=List.mem_filter.mpr ⟨List.mem_range.mpr (Heap.lt_size a),by simp[q]⟩
  have z:(N8 h H).get? b=none:=W.hideAll_none (qw h H) c
  rw[z] at e;cases e
def Yq (g h:Heap) (L:Addr):List (Addr × Obj):=(List.range h.objs.size).filterMap λa=>if a=L \/ (g.get? a).isSome=true then none else (h.get? a).map λo=>(a,o)
def rest (g h:Heap) (L d:Addr):List (Addr × Obj):=(Yq g h L).filter λp=>decide (p.1 ≠ d)
structure Mod (K:W.Frag) (mg:Str->Option Value) (base:Heap):Prop where
 kin:K.In base
 glob:base.Ns mainGlobals mg
 blt:∃ mb,base.Ns builtinsNs mb/\∀ x:Str,x ≠ "__name__"->mb x=bootBuiltins x
 nolimit:base.NoLimit
structure Cx where
 prog:Program
 w:World
 K:W.Frag
 mg:Str->Option Value
 base:Heap
 A:Around
 N:List Str
 s₀:Shared
 H₀:Hp
 env:Env
 outer:List Env
 stack:List Env
 ex:List Addr
 fn:Str->Bool
 calm:Bool
 pn:List (Addr × Obj)
 xe:Value->Shared->Prop
def frs (l:List Env):List Addr:=l.filterMap (·.frame)
abbrev Cx.fs (X:Cx):List Addr:=frs X.outer
def yz (sc:Scope) (x:Str):Prop:=sc.names.lookup x=some .local \/ sc.names.lookup x=some .cell \/ sc.names.lookup x=some .free
def Loc (sc:Scope) (x:Str):Prop:=sc.names.lookup x=some .local \/ sc.names.lookup x=some .cell
def Look (env:Env) (h:Heap) (m:Str->Option Value) (x:Str) (u:Value):Prop :=
 (env.kindOf x=some .local/\m x=some u) \/ ((env.kindOf x=some .cell \/ env.kindOf x=some .free)/\∃ c,env.cells.lookup x=some c/\h.IsCell c (some u))
structure Cx.Ok (X:Cx):Prop where
 mod:Mod X.K X.mg X.base
 kind:X.env.scope.kind=.function
 glob:X.env.globals=mainGlobals
 blt:X.env.builtins=builtinsNs
 above:X.s₀.heap.objs.size<=X.env.locals
 inj:∀ x y c,X.env.cells.lookup x=some c->X.env.cells.lookup y=some c->x=y
 has:∀ x,(X.env.kindOf x=some .cell \/ X.env.kindOf x=some .free)->∃ c,X.env.cells.lookup x=some c
 cab:∀ x c,X.fn x=true->X.env.cells.lookup x=some c->X.s₀.heap.objs.size<=c
 hd:X.calm=true->X.A.handled=none
 frames:X.A.frames=some X.stack
 stk:X.stack=X.outer \/ (X.stack=X.env::X.outer/\X.env.frame=some X.env.locals)
 exf:∀ b∈X.ex,b ≠ X.env.locals/\∀ x c,X.env.cells.lookup x=some c->c ≠ b
 bs:∀ b o,X.base.get? b=some o->X.s₀.heap.get? b=some o/\X.H₀ b=none
 bsz:X.base.objs.size<=X.s₀.heap.objs.size
 noex:∀ b o,X.base.get? b=some o->b ∉ X.ex
 exfs:∀ b∈X.ex,b ∉ X.fs
 J3:X.s₀.heap.FunFrames X.base X.outer
 frf:∀ b∈X.fs,X.H₀ b=none
structure Inv (X:Cx) (a8:List (Addr × Obj)) (σ:List (Option V)) (H:Hp) (s:Shared):Prop where
 ok:X.Ok
 os:s.os=X.s₀.os
 bare:AllBare s.gens
 base:Un X.fs X.ex X.H₀ H X.s₀.heap s.heap
 loc:∃ m,s.heap.Ns X.env.locals m/\∀ (i:Nat) (x:Str) (v:V),X.N[i]? = some x->σ[i]? = some (some v)->yz X.env.scope x->∃ u,RelV v u/\Look X.env s.heap m x u
 cell:∀ x c,X.env.cells.lookup x=some c->∃ v,s.heap.IsCell c v
 free:H X.env.locals=none
 freeC:∀ x c,X.env.cells.lookup x=some c->H c=none
 pin:∀ p∈X.pn++a8,s.heap.get? p.1=some p.2/\H p.1=none/\p.1 ≠ X.env.locals/\p.1 ∉ X.fs/\∀ v,p.2.data ≠ .cell v
 hok:GK X.prog X.w H s.heap
 len:σ.length=X.N.length
section
variable {X:Cx} {σ:List (Option V)}
theorem Cx.Ok.yr (ok:X.Ok) {o:Obj} (e:X.base.get? b=some o):b ∉ X.fs:=λa=>by
 have:=(ok.J3.mem a).1
 rw[e] at this;cases this
theorem Inv.bs (I:Inv X a8 σ H s):∀ b o,X.base.get? b=some o->s.heap.get? b=some o/\H b=none:=λb o e =>
 ⟨I.base.keep b o (I.ok.bs b o e).1 (I.ok.bs b o e).2 (I.ok.yr e) (I.ok.noex b o e),I.base.free b o (I.ok.bs b o e).1 (I.ok.bs b o e).2 (I.ok.noex b o e)⟩
theorem Inv.bk (I:Inv X a8 σ H s):∀ b o,X.base.get? b=some o->s.heap.get? b=some o:=λb o e=>(I.bs b o e).1
theorem Inv.mod (I:Inv X a8 σ H s):Mod X.K X.mg X.base:=I.ok.mod
theorem Inv.HH (I:Inv X a8 σ H s):X.K.In s.heap:=I.ok.mod.kin.keeps I.bk
theorem Inv.lt (I:Inv X a8 σ H s):X.env.locals<s.heap.objs.size:=let ⟨_,a,_⟩:=I.loc;a.lt
theorem Inv.sz (I:Inv X a8 σ H s):X.s₀.heap.objs.size<=s.heap.objs.size:=ba I.ok.above (fA I.lt)
theorem Inv.xu (I:Inv X a8 σ H s) (h:s.heap.objs.size<=a):a ∉ X.fs:=λb=>by
 obtain⟨_,o,c,_⟩:=I.ok.J3.mem b
 exact absurd (bi (Heap.lt_size c) (ba I.sz h)) (fR _)
theorem Inv.ik (I:Inv X a8 σ H s):∀ x c,X.env.cells.lookup x=some c->c ≠ X.env.locals:=λx c e z=>by
 obtain⟨v,o,b,a⟩:=I.cell x c e
 obtain⟨m,⟨i,h,g,f,d,_⟩,_⟩:=I.loc
 rw[z,f] at b;cases b;rw[d] at a;cases a
theorem Inv.J3 (I:Inv X a8 σ H s):s.heap.FunFrames X.base X.outer:=by
 have all:∀ (l:List Env),(∀ b∈frs l,b∈X.fs)->X.s₀.heap.FunFrames X.base l->s.heap.FunFrames X.base l:=by
  intro l
  induction l with
  | nil=>intro _ _;trivial
  | cons k r i =>
   intro f hl
   obtain⟨n,⟨L,o,d,g,m,j⟩,h⟩:=hl
   have c:L∈X.fs:=f L (by unfold frs;rw[List.filterMap_cons,d];exact List.mem_cons_self)
   obtain⟨p,e⟩:=I.base.slot L o m (I.ok.frf L c) c λz=>I.ok.exfs L z c
   exact⟨n,⟨L,_,d,g,e,j⟩,i (λb a=>f b (by unfold frs;rw[List.filterMap_cons,d];exact List.mem_cons_of_mem _ a)) h⟩
 exact all X.outer (λ_ a=>a) I.ok.J3
theorem Inv.stack (I:Inv X a8 σ H s):s.heap.FunFrames X.base X.stack:=by
 rcases I.ok.stk with e | ⟨e,b⟩
 ·rw[e];exact I.J3
 ·rw[e]
  obtain⟨m,a,_⟩:=I.loc
  refine .cons (by rw[I.ok.kind];decide) b a ?_ I.J3
  exact Heap.get?_none_of_le (ba I.ok.bsz I.ok.above)
theorem Inv.Oe (I:Inv X a8 σ H s):∀ b∈frs X.stack,b∈X.env.locals::X.fs:=λb a=>by
 rcases I.ok.stk with e | ⟨e,c⟩
 ·rw[e] at a;exact bq _ a
 ·rw[e] at a
  unfold frs at a
  rw[List.filterMap_cons,c] at a
  exact a
theorem Inv.Il (I:Inv X a8 σ H s):∀ b∈frs X.stack,H b=none:=λb a=>by
 rcases cf.mp (I.Oe b a) with e | a
 ·rw[e];exact I.free
 ·obtain⟨_,o,c,_⟩:=I.ok.J3.mem a
  exact I.base.free b o c (I.ok.frf b a) λz=>I.ok.exfs b z a
theorem Inv.step {g':Array GenState} {t':Nat} {d':Drawn} {ch:List Addr} (I:Inv X a8 σ H s)
  (G:∀ b∈ch,(b∈X.ex \/ X.s₀.heap.objs.size<=b)/\b ≠ X.env.locals/\(∀ x c,X.env.cells.lookup x=some c->c ≠ b)/\∀ p∈X.pn++a8,p.1 ≠ b)
  (keep:∀ b o,b ≠ X.env.locals->b ∉ X.fs->b ∉ ch->s.heap.get? b=some o->H b=none->h'.get? b=some o)
  (t:∀ b o,b ≠ X.env.locals->b∈X.fs->b ∉ ch->s.heap.get? b=some o->H b=none->∃ sl,h'.get? b=some { o with slots:=sl }) (free:∀ b o,b ∉ ch->s.heap.get? b=some o->H b=none->H' b=none)
  (w:∀ b o,b ∉ ch->s.heap.get? b=some o->∃ o',h'.get? b=some o')
  (C:∀ b xs,H b=some (.tup xs)->H' b=some (.tup xs)) (D:∀ b o u,H b=some (.frz o u)->H' b=some (.frz o u)) (B:∀ b ps,H b=some (.tbl ps)->∃ more,H' b=some (.tbl (ps++more)))
  (ns:∀ m,s.heap.Ns X.env.locals m->h'.Ns X.env.locals m) (J:GK X.prog X.w H' h') (S:AllBare g') :
  Inv X a8 σ H' { s with heap:=h',gens:=g',drawn:=d',toks:=t' }:=by
 have E:∀ b o,X.s₀.heap.get? b=some o->b ≠ X.env.locals:=λb o e=>br (bi (Heap.lt_size e) I.ok.above)
 have h:∀ b o,X.s₀.heap.get? b=some o->b ∉ X.ex->b ∉ ch:=λb o e a y=>by
  rcases (G b y).1 with z | z
  ·exact a z
  ·exact absurd (bi (Heap.lt_size e) z) (fR _)
 have g:∀ x c,X.env.cells.lookup x=some c->∀ v,s.heap.IsCell c v->h'.IsCell c v:=λx c e v ⟨o,A,K⟩=>by
  have f:c ∉ ch:=λz=>(G c z).2.2.1 x c e rfl
  by_cases M:c∈X.fs
  ·obtain⟨sl,q⟩:=t c o (I.ik x c e) M f A (I.freeC x c e)
   exact⟨_,q,K⟩
  ·exact⟨o,keep c o (I.ik x c e) M f A (I.freeC x c e),K⟩
 refine⟨I.ok,I.os,S,⟨λb o e n y a=>?_,λb o e n y a=>?_,λb o e n a=>?_,λb o e a=>?_,λb xs e=>C b xs (I.base.tups b xs e),λb o xs e=>D b o xs (I.base.frzs b o xs e),λb ps e=>?_⟩,?_,λx c e=>?_,?_,λx c e=>?_,λp L=>?_,J,I.len⟩
 ·exact keep b o (E b o e) y (h b o e a) (I.base.keep b o e n y a) (I.base.free b o e n a)
 ·obtain⟨sl,j⟩:=I.base.slot b o e n y a
  obtain⟨R,F⟩:=t b _ (E b o e) y (h b o e a) j (I.base.free b o e n a)
  exact⟨R,F⟩
 ·obtain⟨o',j⟩:=I.base.there b o e a
  exact free b o' (h b o e a) j (I.base.free b o e n a)
 ·obtain⟨o',j⟩:=I.base.there b o e a
  exact w b o' (h b o e a) j
 ·obtain⟨Q,j⟩:=I.base.tbls b ps e
  obtain⟨T,F⟩:=B b _ j
  exact⟨Q++T,by rw[F,Array.append_assoc]⟩
 ·obtain⟨m,O,hl⟩:=I.loc
  refine⟨m,ns m O,λi x v j F P=>?_⟩
  obtain⟨u,r,l⟩:=hl i x v j F P
  refine⟨u,r,?_⟩
  rcases l with l | ⟨k,c,e,z⟩
  ·exact .inl l
  ·exact .inr ⟨k,c,e,g x c e _ z⟩
 ·obtain⟨v,z⟩:=I.cell x c e
  exact⟨v,g x c e v z⟩
 ·obtain⟨m,⟨o,_,_,A,_⟩,_⟩:=I.loc
  exact free _ o (λz=>(G _ z).2.1 rfl) A I.free
 ·obtain⟨v,o,A,K⟩:=I.cell x c e
  exact free c o (λz=>(G c z).2.2.1 x c e rfl) A (I.freeC x c e)
 ·obtain⟨e,n,ne,N,d⟩:=I.pin p L
  have f:p.1 ∉ ch:=λz=>(G p.1 z).2.2.2 p L rfl
  exact⟨keep p.1 p.2 ne N f e n,free p.1 p.2 f e n,ne,N,d⟩
theorem Inv.un {t':Nat} (I:Inv X a8 σ H s) (u:Un X.fs [] H H' s.heap h') (d:GK X.prog X.w H' h'):Inv X a8 σ H' { s with heap:=h',toks:=t' }:=by
 obtain⟨m,⟨o,t,l,g,r⟩,_⟩:=id I.loc
 obtain⟨p,h⟩:=u.any g I.free (by simp)
 exact I.step (g':=s.gens) (d':=s.drawn) (ch:=[]) (λ_ z=>nomatch z) (λb o _ c _ e n=>u.keep b o e n c (by simp)) (λb o _ c _ e n=>u.slot b o e n c (by simp)) (λb o _ e n=>u.free b o e n (by simp)) (λb o _ e=>u.there b o e (by simp)) u.tups u.frzs u.tbls (λq i=>by
  obtain⟨v,a,j,f,k⟩:=i
  rw[g] at f;cases f
  exact⟨_,a,j,h,k⟩) d I.bare
theorem Inv.call {g':Array GenState} {t':Nat} {d':Drawn} {ch:List Addr} (I:Inv X a8 σ H s) (u:Un (frs X.stack) ch H H' s.heap h') (g:GK X.prog X.w H' h') (l:AllBare g')
  (j:∀ b∈ch,(b∈X.ex \/ X.s₀.heap.objs.size<=b)/\b ≠ X.env.locals/\(∀ x c,X.env.cells.lookup x=some c->c ≠ b)/\∀ p∈X.pn++a8,p.1 ≠ b) :
  Inv X a8 σ H' { s with heap:=h',gens:=g',drawn:=d',toks:=t' }:=by
 obtain⟨m,⟨o,B,w,i,r⟩,_⟩:=id I.loc
 obtain⟨y,f⟩:=u.any i I.free λz=>(j _ z).2.1 rfl
 exact I.step (ch:=ch) j (λb o f k a e n=>u.keep b o e n (λz=>(cf.mp (I.Oe b z)).elim f k) a) (λb o _ _ a e n=>u.any e n a) (λb o a e n=>u.free b o e n a) (λb o a e=>u.there b o e a) u.tups u.frzs u.tbls (λA q=>by
  obtain⟨C,d,t,h,v⟩:=q
  rw[i] at h;cases h
  exact⟨_,d,t,f,v⟩) g l
theorem Inv.turned {t':Nat} (I:Inv X a8 σ H s) (k:∀ b o,b ≠ it->s.heap.get? b=some o->h'.get? b=some o) (g:H it=none) (f:it ≠ X.env.locals)
  (y:it∈X.ex \/ X.s₀.heap.objs.size<=it) (l:∀ x c,X.env.cells.lookup x=some c->c ≠ it) (A:∀ p∈X.pn++a8,p.1 ≠ it):Inv X a8 σ H { s with heap:=h',toks:=t' }:=by
 have d:∀ b u,H b=some u->b ≠ it:=λb u e z=>by rw[z,g] at e;cases e
 refine I.step (g':=s.gens) (d':=s.drawn) (ch:=[it]) (λb i=>?_) (λb o _ _ a e _=>k b o (λz=>a (by simp[z])) e) (λb o _ _ a e _=>⟨o.slots,k b o (λz=>a (by simp[z])) e⟩) (λ_ _ _ _ n=>n)
  (λb o a e=>⟨o,k b o (λz=>a (by simp[z])) e⟩) (λ_ _ e=>e) (λ_ _ _ e=>e) (λb B e=>⟨#[],by rw[e];simp⟩) (λm j=>?_) (λb u e=>?_) I.bare
 ·have e:b=it:=by simpa using i
  subst e
  exact⟨y,f,l,A⟩
 ·obtain⟨o,w,h,t,r⟩:=j
  exact⟨o,w,h,k _ o (Ne.symm f) t,r⟩
 ·refine (I.hok b u e).stay (λc v a q=>k c v ?_ q) (λ_ q=>q) λ_ _ q=>q
  rcases a with z | z
  ·rw[z];exact d b u e
  ·exact d c _ z
theorem Inv.tok (I:Inv X a8 σ H s) (t:Nat):Inv X a8 σ H { s with toks:=t }:=I.un (h':=s.heap) (t':=t) Un.refl I.hok
theorem Inv.kept {t':Nat} (I:Inv X a8 σ H s) (k:∀ b u,s.heap.get? b=some u->h'.get? b=some u):Inv X a8 σ H { s with heap:=h',toks:=t' }:=I.un (Un.kept k) (I.hok.kept k)
theorem Inv.laid {t':Nat} (I:Inv X a8 σ H s) (k:∀ b u,s.heap.get? b=some u->h'.get? b=some u) (c:s.heap.objs.size<=a) (new:CQ X.prog X.w (upd H a o) h' a o) :
  Inv X a8 σ (upd H a o) { s with heap:=h',toks:=t' }:=I.un (Un.laid k c (I.hok.fresh c)) (I.hok.laid k c new)
theorem Inv.write {x e:Addr} {t':Nat} (I:Inv X a8 σ H s) (a:jy (H x)) (c:e=x \/ H e=some (.own x)) (k:∀ b u,b ≠ e->s.heap.get? b=some u->h'.get? b=some u) (d:∃ u,h'.get? e=some u)
  (new:CQ X.prog X.w (upd H x o) h' x o):Inv X a8 σ (upd H x o) { s with heap:=h',toks:=t' }:=I.un (Un.write a c k d) (I.hok.write a c k d new)
theorem Inv.Rt {a:List (Addr × Obj)} (I:Inv X a8 σ H s) (h:∀ p∈a,s.heap.get? p.1=some p.2/\H p.1=none/\p.1 ≠ X.env.locals/\p.1 ∉ X.fs/\∀ v,p.2.data ≠ .cell v):Inv X a σ H s :=
 ⟨I.ok,I.os,I.bare,I.base,I.loc,I.cell,I.free,I.freeC,λp b=>(bX.mp b).elim (λz=>I.pin p (cy _ z)) (h p),I.hok,I.len⟩
theorem Pk {N:List Str} (e:N.Nodup) (a:N[i]? = some x) (b:N[j]? = some x):i=j:=by
 obtain⟨f,d⟩:=ag.mp a
 obtain⟨g,c⟩:=ag.mp b
 exact (List.getElem_inj e).mp (d.trans c.symm)
theorem J0 {M:Model} {v:V} {Q:Unit->Shared->Prop} (I:Inv X a8 σ H s) (hN:X.N.Nodup) (hi:X.N[i]? = some x) (w:Loc X.env.scope x) (r:RelV v u)
  (h:∀ s',Inv X a8 (σ.set i (some v)) H s'->(∃ a,Heap.SameBut a s.heap s'.heap/\(a=X.env.locals \/ X.env.cells.lookup x=some a))->Q () s') (hf:X.fn x=true \/ X.env.scope.names.lookup x=some .local:=by first | exact .inl rfl | exact .inr rfl | assumption):wpAny M A (storeName X.env x u) Q E s:=by
 obtain⟨m,S,hl⟩:=id I.loc
 have N:(X.env.scope.kind == .class || (X.env.scope.kind == .module && X.env.locals != X.env.globals))=false:=by rw[I.ok.kind];rfl
 have L:i<σ.length:=by rw[I.len];exact (ag.mp hi).1
 have ik:=I.ik
 have g:∀ {a:Addr} {J:Heap},(∃ o,s.heap.get? a=some o/\H a=none)->Heap.SameBut a s.heap J->GK X.prog X.w H J:=λ{a J} ha f b ob e=>by
  obtain⟨_,_,B⟩:=ha
  refine (I.hok b ob e).stay (λc R t q=>(f.2 c ?_).trans q) (λ_ q=>q) λ_ _ q=>q
  rintro rfl
  rcases t with rfl | t
  ·rw[B] at e;cases e
  ·rw[B] at t;cases t
 rcases w with D | D
 ·refine wpAny_storeName_local D S (λJ ab f=>?_) N
  obtain⟨oL,_,_,W,_⟩:=id S
  refine h _ ⟨I.ok,I.os,I.bare,⟨λb o e n F w=>?_,λb o e n F w=>?_,I.base.free,λb o e w=>?_,I.base.tups,I.base.frzs,I.base.tbls⟩,⟨_,ab,λj y v' l C T=>?_⟩,λy c e=>?_,I.free,I.freeC,λp Z=>?_,g ⟨oL,W,I.free⟩ f,by simpa using I.len⟩ ⟨_,f,.inl rfl⟩
  ·exact (f.2 b (br (bi (Heap.lt_size e) I.ok.above))).trans (I.base.keep b o e n F w)
  ·obtain⟨U,l⟩:=I.base.slot b o e n F w
   exact⟨U,(f.2 b (br (bi (Heap.lt_size e) I.ok.above))).trans l⟩
  ·obtain⟨o',l⟩:=I.base.there b o e w
   exact⟨o',(f.2 b (br (bi (Heap.lt_size e) I.ok.above))).trans l⟩
  ·by_cases G:j=i
   ·subst G
    rw[hi] at l;cases l
    rw[List.getElem?_set_self L] at C
    cases C
    exact⟨u,r,.inl ⟨D,by simp⟩⟩
   ·rw[List.getElem?_set_ne (Ne.symm G)] at C
    obtain⟨u',r',q⟩:=hl j y v' l C T
    refine⟨u',r',?_⟩
    rcases q with⟨k,e⟩ | ⟨k,c,e,z⟩
    ·refine .inl ⟨k,?_⟩
     have:y ≠ x:=λe=>G (Pk hN l (e ▸ hi))
     simp[this,e]
    ·exact .inr ⟨k,c,e,z.sameBut f (ik y c e)⟩
  ·obtain⟨R,z⟩:=I.cell y c e
   exact⟨R,z.sameBut f (ik y c e)⟩
  ·obtain⟨e,n,ne,nf,d⟩:=I.pin p Z
   exact⟨(f.2 p.1 ne).trans e,n,ne,nf,d⟩
 ·have Y:X.fn x=true:=by
   rcases hf with z | z
   ·exact z
   ·rw[z] at D;cases D
  obtain⟨c,t⟩:=I.ok.has x (.inl D)
  obtain⟨R,z⟩:=I.cell x c t
  refine wpAny_storeName_cell I.ok.kind D t z (λJ O f=>?_)
  obtain⟨oc,XZ,Op⟩:=id z
  refine h { s with heap:=J } ⟨I.ok,I.os,I.bare,⟨λb o e n F w=>?_,λb o e n F w=>?_,I.base.free,λb o e w=>?_,I.base.tups,I.base.frzs,I.base.tbls⟩,⟨m,S.sameBut f (Ne.symm (ik x c t)),λj y v' l C T=>?_⟩,λy P e=>?_,I.free,I.freeC,λp Z=>?_,g ⟨oc,XZ,I.freeC x c t⟩ f,by simpa using I.len⟩ ⟨c,f,.inr t⟩
  ·exact (f.2 b (br (bi (Heap.lt_size e) (I.ok.cab x c Y t)))).trans (I.base.keep b o e n F w)
  ·obtain⟨U,l⟩:=I.base.slot b o e n F w
   exact⟨U,(f.2 b (br (bi (Heap.lt_size e) (I.ok.cab x c Y t)))).trans l⟩
  ·obtain⟨o',l⟩:=I.base.there b o e w
   exact⟨o',(f.2 b (br (bi (Heap.lt_size e) (I.ok.cab x c Y t)))).trans l⟩
  ·by_cases G:j=i
   ·subst G
    rw[hi] at l;cases l
    rw[List.getElem?_set_self L] at C
    cases C
    exact⟨u,r,.inr ⟨.inl D,c,t,O⟩⟩
   ·rw[List.getElem?_set_ne (Ne.symm G)] at C
    obtain⟨u',r',q⟩:=hl j y v' l C T
    refine⟨u',r',?_⟩
    rcases q with q | ⟨k,P,e,z'⟩
    ·exact .inl q
    ·refine .inr ⟨k,P,e,z'.sameBut f ?_⟩
     rintro rfl
     exact G (Pk hN l (I.ok.inj _ _ _ e t ▸ hi))
  ·by_cases K:P=c
   ·subst K;exact⟨_,O⟩
   ·obtain⟨w2,z2⟩:=I.cell y P e
    exact⟨w2,z2.sameBut f K⟩
  ·obtain⟨e,n,ne,nf,d⟩:=I.pin p Z
   refine⟨(f.2 p.1 ?_).trans e,n,ne,nf,d⟩
   intro q
   rw[q,XZ] at e
   have q':oc=p.2:=Option.some.inj e
   exact d R (by rw[<-q'];exact Op)
theorem Ly {M:Model} {v:V} {Q:Unit->Shared->Prop} (I:Inv X a8 σ H s) (d:X.N.Nodup) (hi:X.N[i]? = some x) (b:Loc X.env.scope x) (r:RelV v u)
  (h:∀ s',Inv X a8 (σ.set i (some v)) H s'->Q () s') (a:X.fn x=true \/ X.env.scope.names.lookup x=some .local:=by first | exact .inl rfl | exact .inr rfl | assumption):wpAny M A (storeName X.env x u) Q E s :=
 J0 I d hi b r (λs' c _=>h s' c) a
theorem Inv.call' {s':Shared} {ch:List Addr} (I:Inv X a8 σ H s) (f:s'.os=s.os) (u:Un (frs X.stack) ch H H' s.heap s'.heap) (a:GK X.prog X.w H' s'.heap) (d:AllBare s'.gens)
  (h:∀ b∈ch,(b∈X.ex \/ X.s₀.heap.objs.size<=b)/\b ≠ X.env.locals/\(∀ x c,X.env.cells.lookup x=some c->c ≠ b)/\∀ p∈X.pn++a8,p.1 ≠ b):Inv X a8 σ H' s':=by
 obtain⟨i,g',d',t',g⟩:=s'
 have e:g=s.os:=f
 subst e
 exact I.call (g':=g') (t':=t') (d':=d') u a d h
end
abbrev XK:=Value->Option Addr->Hp->Prop
abbrev St:=List (Option V)
abbrev VK:=V->Hp->Prop
abbrev TE:=St->Hp->VK->Prop
variable {X:Cx} {σ:St} {te ta:TE}
abbrev TT:=St->Hp->(Bool->Hp->Prop)->Prop
abbrev TA:=St->Hp->(List V->Hp->Prop)->Prop
structure Ends where
 nx:St->Hp->Prop
 rt:VK
 bk:St->Hp->Prop:=λ_ _=>False
 ct:St->Hp->Prop:=λ_ _=>False
abbrev TS:=Ends->St->Hp->Prop
inductive EP (X:Cx) (a8:List (Addr × Obj)) (σ:St) (Q:VK) (u:Value) (s':Shared):Prop
 | mk (v H':_):Inv X a8 σ H' s'->RelV v u->Q v H'->EP X a8 σ Q u s'
inductive TP (X:Cx) (a8:List (Addr × Obj)) (σ:St) (Q:Bool->Hp->Prop) (b:Bool) (s':Shared):Prop
 | mk (H':_):Inv X a8 σ H' s'->Q b H'->TP X a8 σ Q b s'
inductive AP (X:Cx) (a8:List (Addr × Obj)) (σ:St) (Q:List V->Hp->Prop) (us:List Value) (s':Shared):Prop
 | mk (vs H':_):Inv X a8 σ H' s'->Vals vs us->Q vs H'->AP X a8 σ Q us s'
def SP (X:Cx) (a8:List (Addr × Obj)) (D:Ends) (f:Flow) (s':Shared):Prop :=
 match f with
 | .next=>∃ σ' H',Inv X a8 σ' H' s'/\D.nx σ' H'
 | .brk=>∃ σ' H',Inv X a8 σ' H' s'/\D.bk σ' H'
 | .cont=>∃ σ' H',Inv X a8 σ' H' s'/\D.ct σ' H'
 | .ret u=>∃ v σ' H',Inv X a8 σ' H' s'/\RelV v u/\D.rt v H'
def PE (X:Cx) (e:Expr) (t:TE):Prop :=
 ∀ (a8:List (Addr × Obj)) (s:Shared) (σ:St) (H:Hp) (Q:VK),Inv X a8 σ H s->t σ H Q->wpAny (model X.prog X.w) X.A (eval e X.env) (EP X a8 σ Q) X.xe s
def PT (X:Cx) (e:Expr) (t:TT):Prop :=
 ∀ (a8:List (Addr × Obj)) (s:Shared) (σ:St) (H:Hp) (Q:Bool->Hp->Prop),Inv X a8 σ H s->t σ H Q->wpAny (model X.prog X.w) X.A (isTrue e X.env (eval e X.env)) (TP X a8 σ Q) X.xe s
def PW (X:Cx) (e:Expr) (t:TT):Prop :=
 ∀ (mi:Sem Value) (a8:List (Addr × Obj)) (s:Shared) (σ:St) (H:Hp) (Q:Bool->Hp->Prop),Inv X a8 σ H s->t σ H Q->wpAny (model X.prog X.w) X.A (isTrue e X.env mi) (TP X a8 σ Q) X.xe s
theorem PW.pt {t:TT} (h:PW X e t):PT X e t:=h _
def PA (X:Cx) (es:List Expr) (t:TA):Prop :=
 ∀ (pos:Pos) (a8:List (Addr × Obj)) (s:Shared) (σ:St) (H:Hp) (Q:List V->Hp->Prop),Inv X a8 σ H s->t σ H Q->wpAny (model X.prog X.w) X.A (spliced (backTo pos (starEach es X.env))) (AP X a8 σ Q) X.xe s
def PS (X:Cx) (st:Stmt) (t:TS):Prop :=
 ∀ (a8:List (Addr × Obj)) (s:Shared) (σ:St) (H:Hp) (D:Ends),Inv X a8 σ H s->t D σ H->wpAny (model X.prog X.w) X.A (exec st X.env) (SP X a8 D) X.xe s
def Ni (X:Cx) (st:List Stmt) (t:TS):Prop :=
 ∀ (a8:List (Addr × Obj)) (s:Shared) (σ:St) (H:Hp) (D:Ends),Inv X a8 σ H s->t D σ H->wpAny (model X.prog X.w) X.A (execs st X.env) (SP X a8 D) X.xe s
theorem CK {α:Type} {t:Sem α} {Q b:α->Shared->Prop} {M:Model} (h:wpAny M A t Q E s) (c:∀ a s,Q a s->b a s):wpAny M A t b E s:=wpAny_mono h c λ_ _ x=>x
section
inductive Tz (i:Nat) (σ:St) (H:Hp) (Q:VK):Prop
 | mk (v:_):σ[i]? = some (some v)->Q v H->Tz i σ H Q
def tC (v:V):TE:=λ_ H Q=>Q v H
theorem dU (j:X.N[i]? = some x) (p:yz X.env.scope x) (d:(x == ("__debug__" : Str))=false:=by decide) (k:(x == ("__classdict__" : Str))=false:=by decide):PE X (.Name x pos) (Tz i):=by
 intro n s σ H Q I h
 obtain⟨v,e,h⟩:=h
 obtain⟨m,g,hl⟩:=I.loc
 obtain⟨u,r,l⟩:=hl i x v j e p
 have fin:EP X n σ Q u s:=⟨v,H,I,r,h⟩
 rcases l with⟨b,o⟩ | ⟨b,c,f,a⟩
 ·exact wpAny_Name (wpAny_loadName_local I.ok.kind b g o fin) d
 ·rcases b with b | b
  ·exact wpAny_Name (wpAny_loadName_cell I.ok.kind b f a fin) d
  ·exact wpAny_Name (wpAny_loadName_free I.ok.kind b f a fin k) d
theorem Ac {i j pos}:PE X (.Constant (.int i) j pos) (tC (.int i)):=λ_ _ _ H _ I h=>wpAny_Constant_int ⟨.int i,H,I.tok _,⟨_,rfl⟩,h⟩
theorem Gv {b j pos}:PE X (.Constant (.bool b) j pos) (tC (.bl b)):=λ_ _ _ H _ I h=>Constant_bool ⟨.bl b,H,I,rfl,h⟩
theorem Gg {j pos}:PE X (.Constant .none j pos) (tC .non):=λ_ _ _ H _ I h=>Constant_none ⟨.non,H,I,rfl,h⟩
theorem BP {x j pos}:PE X (.Constant (.str x) j pos) (tC (.str x)):=λ_ _ _ H _ I h=>Calls.Constant_str ⟨.str x,H,I.tok _,⟨_,rfl⟩,h⟩
def Gl (X:Cx) (x:Str):Prop:=X.env.kindOf x=some .globalImplicit
theorem Jy (I:Inv X a8 σ H s) (b:Gl X x) (c:X.mg x=some u) (h:Q u s)
  (a:(x == ("__debug__" : Str))=false:=by decide):wpAny (model X.prog X.w) X.A (eval (.Name x pos) X.env) Q E s :=
 Calls.Name_function_global I.ok.kind b (Calls.loadGlobal_global (by rw[I.ok.glob];exact I.mod.glob.keeps I.bk) c h) a
theorem JM (I:Inv X a8 σ H s) (c:Gl X x) (d:X.mg x=none) (g:bootBuiltins x=some u) (h:Q u s)
  (a:x ≠ "__name__":=by decide) (b:(x == ("__debug__" : Str))=false:=by decide):wpAny (model X.prog X.w) X.A (eval (.Name x pos) X.env) Q E s:=by
 obtain⟨i,f,e⟩:=I.mod.blt
 exact Calls.Name_function_global I.ok.kind c (Calls.loadGlobal_builtin (by rw[I.ok.glob];exact I.mod.glob.keeps I.bk) d (by rw[I.ok.blt];exact f.keeps I.bk) ((e x a).trans g) h) b
theorem Cr {v:V} (b:Gl X x) (c:X.mg x=some u) (r:RelV v u) (a:(x == ("__debug__" : Str))=false:=by decide):PE X (.Name x pos) (tC v) :=
 λ_ _ _ H _ I h=>Jy I b c ⟨v,H,I,r,h⟩ a
theorem Dm {v:V} (c:Gl X x) (d:X.mg x=none) (e:bootBuiltins x=some u) (r:RelV v u) (a:x ≠ "__name__":=by decide) (b:(x == ("__debug__" : Str))=false:=by decide):PE X (.Name x pos) (tC v) :=
 λ_ _ _ H _ I h=>JM I c d e ⟨v,H,I,r,h⟩ a b
variable {a b:Expr} {tb:TE}
def PC (X:Cx) (op:CmpOp) (a b:Expr) (t:TE):Prop :=
 ∀ (a8:List (Addr × Obj)) (s:Shared) (σ:St) (H:Hp) (Q:VK),Inv X a8 σ H s->t σ H Q ->
  wpAny (model X.prog X.w) X.A (eval a X.env) (λv s₁=>wpAny (model X.prog X.w) X.A (eval b X.env) (λu s₂=>wpAny (model X.prog X.w) X.A (compareOp op v u) (EP X a8 σ Q) X.xe s₂) X.xe s₁) X.xe s
inductive zY (Q:Bool->Hp->Prop) (x:V) (H1:Hp):Prop
 | mk (c:_):x=.bl c->Q c H1->zY Q x H1
def tB (t:TE):TT:=λσ H Q=>t σ H λx H1=>zY Q x H1
theorem Xv {c:CmpOp} {t:TE} (h:PC X c a b t) (f:behindInMarks c b=false:=by first | exact nobehind _ (by decide) (by decide) | rfl):PE X (.Compare a [c] [b] pos) t:=λd s σ H Q I e=>wpAny_Compare1 (h d s σ H Q I e) f
theorem RD {e:CmpOp} {t:TE} (h:PC X e a b t) (f:behindInMarks e b=false:=by first | exact nobehind _ (by decide) (by decide) | rfl):PT X (.Compare a [e] [b] pos) (tB t):=by
 intro k s σ H Q I m
 refine wpAny_isTrue_Compare1 (CK (h k s σ H _ I m) λv o f=>CK f λu r l=>CK l λc p ⟨x,g,i,n,j⟩=>?_) f
 obtain⟨d,rfl,q⟩:=j
 cases n
 exact wpAny_truthy_bool ⟨g,i,q⟩
theorem DK {t:TE} (h:PE X e t) (j:∀ mi,isTrue e X.env mi=(do let v <-mi;standAt e.pos;holding [v] (truthy v)):=by intro _;rfl):PT X e (tB t):=by
 intro f s σ H Q I g
 refine isTrue_plain (CK (h f s σ H _ I g) λv k ⟨x,a,b,i,c⟩=>?_) (j _)
 obtain⟨d,rfl,q⟩:=c
 cases i
 exact wpAny_truthy_bool ⟨a,b,q⟩
variable {tA L4:TT} {rest:List Expr}
def t_ (t u:TT):TT:=λσ H Q=>t σ H λc H1=>if c=true then u σ H1 Q else Q false H1
def x_ (t u:TT):TT:=λσ H Q=>t σ H λc H1=>if c=true then Q true H1 else u σ H1 Q
def yZ (t:TT):TT:=λσ H Q=>t σ H λc H1=>Q (!c) H1
theorem Jo (d:PT X a tA):PW X (.BoolOp .And [a] pos) tA:=by
 intro g b s σ H Q I h
 refine isTrue_and (CK (d b s σ H Q I h) λc f e=>?_)
 cases c with
 | true=>exact isTrue_and_nil e
 | false=>exact e
theorem Ej (d:PT X a tA):PW X (.BoolOp .Or [a] pos) tA:=by
 intro g b s σ H Q I h
 refine isTrue_or (CK (d b s σ H Q I h) λc f e=>?_)
 cases c with
 | false=>exact isTrue_or_nil e
 | true=>exact e
theorem Lz (j:PT X a tA) (k:PW X (.BoolOp .And (b::rest) pos) L4):PW X (.BoolOp .And (a::b::rest) pos) (t_ tA L4):=by
 intro l e s σ H Q I h
 refine isTrue_and (CK (j e s σ H _ I h) λc i m=>?_)
 obtain⟨f,g,d⟩:=m
 cases c with
 | true=>exact k l e i σ f Q g d
 | false=>exact⟨f,g,d⟩
theorem Ew (j:PT X a tA) (k:PW X (.BoolOp .Or (b::rest) pos) L4):PW X (.BoolOp .Or (a::b::rest) pos) (x_ tA L4):=by
 intro l e s σ H Q I h
 refine isTrue_or (CK (j e s σ H _ I h) λc i m=>?_)
 obtain⟨f,g,d⟩:=m
 cases c with
 | true=>exact⟨f,g,d⟩
 | false=>exact k l e i σ f Q g d
theorem Cu (f:PT X a tA):PT X (.UnaryOp .Not a pos) (yZ tA):=by
 intro e s σ H Q I h
 exact isTrue_not (CK (f e s σ H (λc b=>Q (!c) b) I h) λc i ⟨b,g,d⟩=>⟨b,g,d⟩)
inductive Vp (tb:TE) (σ:St) (Q:VK) (x:V) (H1:Hp):Prop
 | mk (c:_):x=.bl c->(if c=true then tb σ H1 Q else Q (.bl false) H1)->Vp tb σ Q x H1
def nG (ta tb:TE):TE:=λσ H Q=>ta σ H λx H1=>Vp tb σ Q x H1
inductive bA (tb:TE) (σ:St) (Q:VK) (x:V) (H1:Hp):Prop
 | mk (c:_):x=.bl c->(if c=true then Q (.bl true) H1 else tb σ H1 Q)->bA tb σ Q x H1
def uI (ta tb:TE):TE:=λσ H Q=>ta σ H λx H1=>bA tb σ Q x H1
inductive Wz (Q:VK) (x:V) (H1:Hp):Prop
 | mk (c:_):x=.bl c->Q (.bl (!c)) H1->Wz Q x H1
def mX (ta:TE):TE:=λσ H Q=>ta σ H λx H1=>Wz Q x H1
theorem Dl {op} {t:TE} (h:PE X a t):PE X (.BoolOp op [a] pos) t:=λb s σ H Q I c=>BoolOp_one (h b s σ H Q I c)
theorem Dp (j:PE X a ta) (k:PE X (.BoolOp .And (b::rest) pos) tb):PE X (.BoolOp .And (a::b::rest) pos) (nG ta tb):=by
 intro g s σ H Q I h
 refine BoolOp_and (CK (j g s σ H _ I h) λv i l=>?_)
 obtain⟨x,e,f,m,d⟩:=l
 obtain⟨c,rfl,d⟩:=d
 cases m
 refine wpAny_truthy_bool ?_
 cases c with
 | true=>exact k g i σ e Q f d
 | false=>exact⟨.bl false,e,f,rfl,d⟩
theorem mZ (j:PE X a ta) (k:PE X (.BoolOp .Or (b::rest) pos) tb):PE X (.BoolOp .Or (a::b::rest) pos) (uI ta tb):=by
 intro g s σ H Q I h
 refine BoolOp_or (CK (j g s σ H _ I h) λv i l=>?_)
 obtain⟨x,e,f,m,d⟩:=l
 obtain⟨c,rfl,d⟩:=d
 cases m
 refine wpAny_truthy_bool ?_
 cases c with
 | false=>exact k g i σ e Q f d
 | true=>exact⟨.bl true,e,f,rfl,d⟩
theorem Qy (d:PE X a ta):PE X (.UnaryOp .Not a pos) (mX ta):=by
 intro i s σ H Q I h
 refine UnaryOp_ (CK (d i s σ H _ I h) λv k g=>?_)
 obtain⟨x,e,f,j,b⟩:=g
 obtain⟨c,rfl,b⟩:=b
 cases j
 exact not_of (wpAny_truthy_bool ⟨.bl (!c),e,f,rfl,b⟩)
def z6 (t:TT) (ta tb:TE):TE:=λσ H Q=>t σ H λc H1=>if c=true then ta σ H1 Q else tb σ H1 Q
theorem Jq {c:Expr} (k:PT X c tA) (l:PE X a ta) (m:PE X b tb):PE X (.IfExp c a b pos) (z6 tA ta tb):=by
 intro e s σ H Q I h
 refine wpAny_IfExp (CK (k e s σ H _ I h) λd g n=>?_)
 obtain⟨i,j,f⟩:=n
 cases d with
 | true=>exact l e g σ i Q j f
 | false=>exact m e g σ i Q j f
end
variable {tt:TT} {tb:TS}
def Dg (K:W.Frag) (H:Hp) (a:Addr) (xs:List V):Prop :=
 Rd H a (.lst xs) \/
  ∃ (o:Obj) (its:Array Value) (n:Nat),K.lookup a=some o/\o.cls=.type "list" /\ o.dict=none/\o.data=.seq its n/\its.size<=sizeLine/\Vals xs its.toList
def HY (K:W.Frag) (H:Hp) (a:Addr) (xs:List V):Prop :=
 Rd H a (.tup xs) \/
  ∃ (o:Obj) (its:Array Value) (n:Nat),K.lookup a=some o/\o.cls=.type "tuple" /\ o.data=.seq its n/\its.size<=sizeLine/\Vals xs its.toList
def vz:Value->Option V
 | .none=>some .non
 | .bool b=>some (.bl b)
 | .int i _=>some (.int i)
 | .str x _=>some (.str x)
 | .bytes b _=>some (.byt b)
 | .float b _=>some (.flt b)
 | .ref a=>some (.ref a)
 | .type n=>some (.ty n)
 | _=>none
theorem RelV.abs {x:V} (r:RelV x u):vz u=some x:=by
 cases x with
 | non=>cases r;rfl
 | bl _=>cases r;rfl
 | int _=>obtain⟨t,rfl⟩:=r;rfl
 | str _=>obtain⟨t,rfl⟩:=r;rfl
 | byt _=>obtain⟨t,rfl⟩:=r;rfl
 | flt _=>obtain⟨t,rfl⟩:=r;rfl
 | ref _=>cases r;rfl
 | ty _=>cases r;rfl
theorem RelV.inj {x y:V} (r:RelV x u) (q:RelV y u):x=y:=Option.some.inj (r.abs.symm.trans q.abs)
theorem Vals.inj:∀ {xs ys:List V} {us:List Value},Vals xs us->Vals ys us->xs=ys
 | _,_,_,.nil,.nil=>rfl
 | _,_,_,.cons r t,.cons b a=>by rw[r.inj b,Vals.inj t a]
section
variable {ys:List V}
theorem Inv.list (I:Inv X a8 σ H s) (h:Dg X.K H a xs):∃ its:List Value,Vals xs its/\PlainL s.heap a its.toArray/\xs.length<=sizeLine:=by
 rcases h with h | ⟨o,its,n,d,c,b,f,g,r⟩
 ·obtain⟨z,its,n,r,e⟩:=h.ok I.hok
  exact⟨its,r,⟨_,n,e,rfl,rfl,rfl⟩,z⟩
 ·refine⟨its.toList,r,⟨o,n,I.HH a o d,c,b,by simpa using f⟩,?_⟩
  have e:=r.length
  simp only[Array.length_toList] at e
  omega
theorem Inv.tuple (I:Inv X a8 σ H s) (h:HY X.K H a xs):∃ its:List Value,Vals xs its/\IsTup s.heap a its.toArray/\xs.length<=sizeLine:=by
 rcases h with h | ⟨o,its,n,d,b,c,f,r⟩
 ·obtain⟨z,its,r,p⟩:=h.ok I.hok
  exact⟨its,r,p,z⟩
 ·refine⟨its.toList,r,⟨o,I.HH a o d,b,n,by simpa using c⟩,?_⟩
  have e:=r.length
  simp only[Array.length_toList] at e
  omega
theorem Inv.PL (I:Inv X a8 σ H s) (h:Dg X.K H a xs) (h':Dg X.K H a ys):xs=ys:=by
 obtain⟨c,r,⟨o,n,e,_,_,d⟩,_⟩:=I.list h
 obtain⟨b,i,⟨k,j,g,_,_,f⟩,_⟩:=I.list h'
 rw[e] at g;cases g
 rw[d] at f
 injection f with d1 _
 have:c=b:=by simpa using congrArg Array.toList d1
 subst this
 exact r.inj i
theorem Inv.J5 (I:Inv X a8 σ H s) (h:HY X.K H a xs) (h':HY X.K H a ys):xs=ys:=by
 obtain⟨c,r,⟨o,e,_,n,d⟩,_⟩:=I.tuple h
 obtain⟨b,i,⟨k,g,_,j,f⟩,_⟩:=I.tuple h'
 rw[e] at g;cases g
 rw[d] at f
 injection f with d1 _
 have:c=b:=by simpa using congrArg Array.toList d1
 subst this
 exact r.inj i
end
abbrev Cx.wish (X:Cx) (E:vSP):Cx:={ X with xe:=E }
abbrev Cx.oE (X:Cx):Cx:=X.wish λ_ _=>False
theorem Cx.Ok.wish (ok:X.Ok) (E:vSP):(X.wish E).Ok :=
 ⟨ok.mod,ok.kind,ok.glob,ok.blt,ok.above,ok.inj,ok.has,ok.cab,ok.hd,ok.frames,ok.stk,ok.exf,ok.bs,ok.bsz,ok.noex,ok.exfs,ok.J3,ok.frf⟩
theorem Cx.Ok.Hh (ok:(X.wish E).Ok):X.Ok :=
 ⟨ok.mod,ok.kind,ok.glob,ok.blt,ok.above,ok.inj,ok.has,ok.cab,ok.hd,ok.frames,ok.stk,ok.exf,ok.bs,ok.bsz,ok.noex,ok.exfs,ok.J3,ok.frf⟩
theorem Inv.wish (I:Inv X a8 σ H s) (E:vSP):Inv (X.wish E) a8 σ H s:=⟨I.ok.wish E,I.os,I.bare,I.base,I.loc,I.cell,I.free,I.freeC,I.pin,I.hok,I.len⟩
theorem Inv.Hh (I:Inv (X.wish E) a8 σ H s):Inv X a8 σ H s:=⟨I.ok.Hh,I.os,I.bare,I.base,I.loc,I.cell,I.free,I.freeC,I.pin,I.hok,I.len⟩
theorem SP.Hh {D:Ends} {f:Flow} {s':Shared} (h:SP (X.wish E) a8 D f s'):SP X a8 D f s':=by
 cases f with
 | next=>obtain⟨b,a,I,q⟩:=h;exact⟨b,a,I.Hh,q⟩
 | brk=>obtain⟨b,a,I,q⟩:=h;exact⟨b,a,I.Hh,q⟩
 | cont=>obtain⟨b,a,I,q⟩:=h;exact⟨b,a,I.Hh,q⟩
 | ret u=>obtain⟨v,b,a,I,r,q⟩:=h;exact⟨v,b,a,I.Hh,r,q⟩
theorem Ni.oE {st:List Stmt} {t:TS} (h:Ni X.oE st t):Ni X st t:=λa s σ H D I b =>
 wpAny_mono (h a s σ H D (I.wish _) b) (λ_ _ q=>q.Hh) λ_ _ z=>False.elim z
section
variable {rest:List Stmt} {t u:TS}
def m6:TS:=λD σ H=>D.nx σ H
def iu (t u:TS):TS:=λD σ H=>t { D with nx:=u D } σ H
theorem Be:Ni X [] m6:=λ_ _ σ H _ I h=>wpAny_execs_nil ⟨σ,H,I,h⟩
theorem Af (g:PS X st t) (c:Ni X rest u):Ni X (st::rest) (iu t u):=by
 intro a s σ H D I h
 refine wpAny_execs_cons (CK (g a s σ H { D with nx:=u D } I h) λf b q=>?_)
 cases f with
 | next =>
  obtain⟨e,d,i,q⟩:=q
  exact c a b e d D i q
 | ret v=>exact q
 | brk=>exact q
 | cont=>exact q
theorem Ah (b:PS X st t):Ni X [st] t:=by
 intro a s σ H D I h
 refine wpAny_execs_cons (CK (b a s σ H D I h) λf c q=>?_)
 cases f with
 | next=>exact wpAny_execs_nil q
 | ret v=>exact q
 | brk=>exact q
 | cont=>exact q
def gq:TS:=λD σ H=>D.bk σ H
theorem Xo:PS X (.Break pos) gq:=λ_ _ σ H _ I h=>wpAny_Break ⟨σ,H,I,h⟩
theorem Inv.quiet (I:Inv X a8 σ H s):interactive X.env=false:=by simp[interactive,I.ok.kind]
def az (te:TE):TS:=λD σ H=>te σ H λ_ H1=>D.nx σ H1
theorem CG (g:PE X e te) (c:swapsWith e none pos.line X.env=pure false:=by rfl):PS X (.Expr e pos) (az te):=by
 intro b s σ H D I h
 exact wpAny_Expr_any (CK (g b s σ H _ I h) λv i ⟨x,d,f,j,a⟩=>⟨σ,d,f,a⟩) I.quiet c
def vZ (te:TE):TS:=λD σ H=>te σ H D.rt
theorem Ax (g:PE X e te):PS X (.Return (some e) pos) (vZ te):=by
 intro b s σ H D I h
 exact wpAny_Return_some (CK (g b s σ H _ I h) λv i ⟨x,d,f,c,a⟩=>⟨x,σ,d,f,c,a⟩)
def ZQ (c:TT) (t u:TS):TS:=λD σ H=>c σ H λb H1=>if b=true then t D σ H1 else u D σ H1
theorem Bl {c:Expr} {a b:List Stmt} {g:TT} (l:PT X c g) (m:Ni X a t) (n:Ni X b u):PS X (.If c a b pos) (ZQ g t u):=by
 intro e s σ H D I h
 refine wpAny_If (CK (l e s σ H _ I h) λd f o=>?_)
 obtain⟨i,j,k⟩:=o
 cases d with
 | true=>exact m e f σ i D j k
 | false=>exact n e f σ i D j k
def fL:TS:=λ_ _ _=>False
theorem Hk:PS X st fL:=λ_ _ _ _ _ _ h=>h.elim
end
abbrev TG:=V->St->Hp->(St->Hp->Prop)->Prop
abbrev jg:=List V->St->Hp->(St->Hp->Prop)->Prop
def PG (X:Cx) (AF:Expr) (t:TG):Prop :=
 ∀ (a8:List (Addr × Obj)) (s:Shared) (σ:St) (H:Hp) (v:V) (u:Value) (Q:St->Hp->Prop),Inv X a8 σ H s->RelV v u->t v σ H Q ->
  wpAny (model X.prog X.w) X.A (assign AF X.env u) (λ_ s'=>∃ σ' H',Inv X a8 σ' H' s'/\Q σ' H') X.xe s
def rG (X:Cx) (ts:List Expr) (t:jg):Prop :=
 ∀ (a8:List (Addr × Obj)) (s:Shared) (σ:St) (H:Hp) (vs:List V) (us:List Value) (Q:St->Hp->Prop),Inv X a8 σ H s->Vals vs us->t vs σ H Q ->
  wpAny (model X.prog X.w) X.A (assignInOrder ((assignEach ts X.env).map (·.2)) us) (λ_ s'=>∃ σ' H',Inv X a8 σ' H' s'/\Q σ' H') X.xe s
def Dc (i:Nat):TG:=λv σ H Q=>Q (σ.set i (some v)) H
theorem Cd (c:X.N.Nodup) (hi:X.N[i]? = some x) (a:Loc X.env.scope x) (d:X.fn x=true \/ X.env.scope.names.lookup x=some .local:=by first | exact .inl rfl | exact .inr rfl | assumption):PG X (.Name x pos) (Dc i):=by
 intro f s σ H v u Q I r h
 exact wpAny_assign_Name (Ly I c hi a r (λe b=>⟨_,H,b,h⟩) d)
def P_:jg:=λvs σ H Q=>vs=[]/\Q σ H
inductive Ff (t:TG) (u:jg) (vs:List V) (σ:St) (H:Hp) (Q:St->Hp->Prop):Prop
 | mk (v r:_):vs=v::r->(t v σ H λσ' H'=>u r σ' H' Q)->Ff t u vs σ H Q
theorem Jf:rG X [] P_:=by
 intro a s σ H b c Q I r h
 obtain⟨e,h⟩:=h
 subst e
 cases r
 exact assignInOrder_nil ⟨σ,H,I,h⟩
theorem Ed {t:TG} {u:jg} (n:PG X e t) (l:rG X es u)
  (f:(assignEach (e::es) X.env).map (·.2)=assign e X.env::(assignEach es X.env).map (·.2):=by rfl):rG X (e::es) (Ff t u):=by
 intro a s σ H q o Q I r h
 obtain⟨v,p,m,h⟩:=h
 subst m
 cases r with
 | cons r c =>
  rw[f]
  refine assignInOrder_cons (CK (n a s σ H _ _ _ I r h) λ_ b g=>?_)
  obtain⟨k,d,i,j⟩:=g
  exact l a b k d _ _ Q i c j
inductive Ot (K:W.Frag) (n:Nat) (t:jg) (v:V) (σ:St) (H:Hp) (Q:St->Hp->Prop):Prop
 | mk (a xs:_):v=.ref a->HY K H a xs->xs.length=n->t xs σ H Q->Ot K n t v σ H Q
theorem K5 {k:Nat} {t:jg} (l:X.calm=true) (h:rG X es t)
  (i:(assignEach es X.env).length=n:=by rfl) (c:(assignEach es X.env).findIdx? (·.1)=none:=by rfl):PG X (.Tuple es k pos) (Ot X.K n t):=by
 intro f s σ H v u Q I r d
 obtain⟨a,y,w,x,hl,d⟩:=d
 subst w
 cases r
 obtain⟨z,g,p,A⟩:=I.tuple x
 refine assign_Tuple_tuple (I.ok.hd l) p (by simp[i,<-hl,g.length]) c λj m=>?_
 have q:Inv X f σ H { s with heap:=j }:=I.kept (t':=s.toks) λb o e=>m b o (br (Heap.lt_size e)) e
 exact h f _ σ H y _ Q q (by simpa using g) d
def Uc (te:TE) (g:TG):TS:=λD σ H=>te σ H λx H1=>g x σ H1 D.nx
theorem eU {g:TG} (k:PE X e te) (j:PG X tg g) (d:swapsWithSole [tg] e pos.line X.env=pure false:=by rfl) (l:swappedStores [tg] e X.env=pure none:=by rfl)
  (m:(assignEach [tg] X.env).map (·.2)=[assign tg X.env]:=by rfl):PS X (.Assign [tg] e pos) (Uc te g):=by
 intro a s σ H D I h
 refine wpAny_Assign_stores (CK (k a s σ H _ I h) λv b ⟨x,c,f,n,i⟩=>?_) d l
 rw[m]
 exact CK (j a b σ c x v _ f n i) λ_ o q=>q
theorem Ba {a:Pos} (g:X.N.Nodup) (hi:X.N[i]? = some x) (b:Loc X.env.scope x) (m:PE X e te) (d:swapsWith e (some (.Name x a)) pos.line X.env=pure false:=by rfl) (k:X.fn x=true \/ X.env.scope.names.lookup x=some .local:=by first | exact .inl rfl | exact .inr rfl | assumption) :
  PS X (.Assign [.Name x a] e pos) (Uc te (Dc i)):=by
 intro l s σ H D I h
 refine wpAny_Assign_Name (CK (m l s σ H _ I h) λv p ⟨y,c,f,n,j⟩=>?_) d
 exact Ly f g hi b n (λq o=>⟨_,c,o,j⟩) k
def Oo (c:TT) (tb:TS):TS:=λD σ H=>∃ W:Nat->St->Hp->Prop,(∃ m,W m σ H)/\∀ m σ H,W m σ H ->
 c σ H λb H1=>if b=true then ∃ N:St->Hp->Prop,(∀ σ' H',N σ' H'->∃ m',m'<m/\W m' σ' H')/\tb { D with nx:=N,ct:=N,bk:=D.nx } σ H1 else D.nx σ H1
theorem Ww {c:Expr} {a:List Stmt} {z:TT} (w:PassesOwn (model X.prog X.w) X.A X.env X.xe) (K:PT X c z) (C:Ni X a tb):PS X (.While c a [] pos) (Oo z tb):=by
 intro m s σ H D I h
 obtain⟨W,⟨B,P⟩,J⟩:=h
 refine wpAny_While (codeAny_whileLoop (λn M=>∃ t r,Inv X m t r M/\W n t r) ?_ B ⟨σ,H,I,P⟩)
 rintro n L ⟨j,A,O,F⟩
 refine wpAny_passesOwn w (CK (K m L j A _ O (J n j A F)) λb G E=>?_)
 obtain⟨y,x,i⟩:=E
 cases b with
 | true =>
  obtain⟨N,u,i⟩:=i
  rw[if_pos rfl]
  refine wpAny_passesOwn w (CK (C m G j y _ x i) λf Q g=>?_)
  cases f with
  | next =>
   obtain⟨d,e,q,k⟩:=g
   obtain⟨p,o,l⟩:=u d e k
   exact⟨p,o,d,e,q,l⟩
  | cont =>
   obtain⟨d,e,q,k⟩:=g
   obtain⟨p,o,l⟩:=u d e k
   exact⟨p,o,d,e,q,l⟩
  | brk=>exact g
  | ret v=>exact g
 | false =>
  rw[if_neg fb]
  exact wpAny_execs_nil ⟨j,y,x,i⟩
structure It where
 go:Nat->Hp->Prop
 yld:Nat->Hp->V->Hp->Prop
 stop:Nat->Hp->Prop
def G7 (X:Cx) (a8:List (Addr × Obj)) (H:Hp) (b:Addr):Prop :=
 H b=none/\b ≠ X.env.locals/\b ∉ X.fs/\(b∈X.ex \/ X.s₀.heap.objs.size<=b)/\(∀ x c,X.env.cells.lookup x=some c->c ≠ b)/\∀ p∈X.pn++a8,p.1 ≠ b
theorem Inv.Ms (I:Inv X a8 σ H s) (a:s.heap.objs.size<=b) (d:H' b=none):G7 X a8 H' b:=by
 refine⟨d,gX (bi I.lt a),I.xu a,.inr (ba I.sz a),λx c e z=>?_,λp f z=>?_⟩
 ·obtain⟨v,q⟩:=I.cell x c e
  exact absurd (bi q.lt (by rw[z];exact a)) (fR _)
 ·exact absurd (bi (Heap.lt_size (I.pin p f).1) (by rw[z];exact a)) (fR _)
structure Turn (P:Program) (w:World) (K:W.Frag) (tg:Expr) (J:It) (fp:List Addr) (it:Addr) (tn:Nat->Heap->Prop):Prop where
 mem:it∈fp
 obj:∀ i h,tn i h->∀ b∈fp,∃ o,h.get? b=some o/\∀ v,o.data ≠ .cell v
 keep:∀ i h h',tn i h->(∀ b∈fp,∀ o,h.get? b=some o->h'.get? b=some o)->tn i h'
 item:∀ (X:Cx),X.prog=P->X.w=w->X.K=K->X.calm=true->∀ (i:Nat) (a8:List (Addr × Obj)) (s:Shared) (σ:St) (H:Hp) (E:vSP),Inv X a8 σ H s->(∀ b∈fp,G7 X a8 H b)->tn i s.heap->J.go i H ->
  wpAny (model P w) X.A (pyNext (.ref it)) (λr s1=>∃ u,r=some u /\
   wpAny (model P w) X.A (letOwnedTupleGo tg (.ref it) u) (λ_ s2=>∃ x H',Inv X a8 σ H' s2/\RelV x u/\J.yld i H x H'/\tn (i+1) s2.heap/\∀ b∈fp,H' b=none) E s1) E s
 done:∀ (X:Cx),X.prog=P->X.w=w->X.K=K->X.calm=true->∀ (i:Nat) (a8:List (Addr × Obj)) (s:Shared) (σ:St) (H:Hp) (E:vSP),Inv X a8 σ H s->(∀ b∈fp,G7 X a8 H b)->tn i s.heap->J.stop i H ->
  wpAny (model P w) X.A (pyNext (.ref it)) (λr s1=>r=none/\Inv X a8 σ H s1) E s
 self:∀ (A:Around) (i:Nat) (s:Shared) (Q:vSP) (E:vSP),tn i s.heap->Q (.ref it) s->wpAny (model P w) A (pyIter (.ref it)) Q E s
abbrev TI:=St->Hp->(It->Hp->Prop)->Prop
inductive PIE (X:Cx) (a8:List (Addr × Obj)) (σ:St) (tg:Expr) (R:It->Hp->Prop) (y':Value) (s2:Shared):Prop
 | mk (it:Addr) (fp:List Addr) (tn:Nat->Heap->Prop) (J:It) (H':Hp):y'=.ref it->Inv X a8 σ H' s2->Turn X.prog X.w X.K tg J fp it tn->tn 0 s2.heap->(∀ b∈fp,G7 X a8 H' b)->R J H'->PIE X a8 σ tg R y' s2
def PI (X:Cx) (tg iter:Expr) (wi:TI):Prop :=
 ∀ (a8:List (Addr × Obj)) (s:Shared) (σ:St) (H:Hp) (R:It->Hp->Prop),Inv X a8 σ H s->wi σ H R ->
  wpAny (model X.prog X.w) X.A (eval iter X.env) (λv s1=>wpAny (model X.prog X.w) X.A (pyIter v) (PIE X a8 σ tg R) X.xe s1) X.xe s
theorem QT {M:Model} {o:Obj} {n:String} {vs:Array Value} {Q:Unit->Shared->Prop} (e:s.heap.get? it=some o) (d:o.cls=.type n) (c:o.data=.fields vs)
  (b:["enumerate","zip","dict_itemiterator","dict_reverseitemiterator","odict_iterator","itertools.zip_longest","itertools.pairwise"].contains n=false) (a:Q () s):wpAny M A (letOwnedTupleGo tg (.ref it) u) Q E s:=by
 unfold letOwnedTupleGo
 cases tg <;> first
  | exact wpAny_pure a
  | (cases u <;> first
    | exact wpAny_pure a
    | (refine wpAny_bind (wpAny_load e ?_)
       rw[d,c]
       show wpAny M A (if (["enumerate","zip","dict_itemiterator","dict_reverseitemiterator","odict_iterator","itertools.zip_longest","itertools.pairwise"].contains n && vs[0]? == some (rawInt _))=true then _ else _) Q E s
       rw[if_neg (by intro h;rw[b,gS] at h;cases h)]
       exact wpAny_pure a))
def a_ (K:W.Frag) (a:Addr):It :=
 ⟨λi H=>∃ xs x,Dg K H a xs/\xs[i]? = some x,λi H x H'=>H'=H/\∀ xs,Dg K H a xs->xs[i]? = some x,λi H=>∃ xs,Dg K H a xs/\xs.length<=i⟩
def tD (K:W.Frag) (a:Addr):It :=
 ⟨λi H=>∃ xs x,HY K H a xs/\xs[i]? = some x,λi H x H'=>H'=H/\∀ xs,HY K H a xs->xs[i]? = some x,λi H=>∃ xs,HY K H a xs/\xs.length<=i⟩
def bY (lo:Int) (n:Nat):It:=⟨λi _=>i<n,λi H x H'=>H'=H/\x=.int (lo+i),λi _=>n<=i⟩
theorem Uo {w:World} {K:W.Frag} (a g:Addr):Turn P w K tg (a_ K a) [g] g (λi h=>h.IsListIter g a i) where
 mem:=by simp
 obj:=λi h st b f=>by
  have e:b=g:=by simpa using f
  subst e
  obtain⟨o,e,c,d⟩:=st
  exact⟨o,e,λv z=>by rw[d] at z;cases z⟩
 keep:=λi h j st k=>st.at λo e=>k g (by simp) o e
 item:=by
  intro X C n y M i L s σ H E I m st D
  subst C n y
  obtain⟨Z,x,l,A⟩:=D
  obtain⟨r,F,p,Q⟩:=I.list l
  obtain⟨u,T,U⟩:=F.get A
  obtain⟨J,q,Y,t,G,B⟩:=m g (by simp)
  refine wpAny_pyNext_list_item st p.isList (x:=u) (by simpa using T) λj N O=>?_
  have V:Inv X L σ H { s with heap:=j }:=I.turned (t':=s.toks) (λb o f e=>(O.2 b f).trans e) J q t G B
  obtain⟨o,e,c,d⟩:=id N
  exact⟨u,rfl,QT (s:={ s with heap:=j }) e c d (by decide) ⟨x,H,V,U,⟨rfl,λys S=>by rw[I.PL S l];exact A⟩,N,λb f=>(m b f).1⟩⟩
 done:=by
  intro X C n y M i L s σ H E I m st D
  subst C n y
  obtain⟨Z,l,A⟩:=D
  obtain⟨r,F,p,Q⟩:=I.list l
  obtain⟨J,q,Y,t,G,B⟩:=m g (by simp)
  have hl:=F.length
  exact wpAny_pyNext_list_end (I.ok.hd M) st p.isList (by simp;omega) λj R=>⟨rfl,I.turned (t':=s.toks) (λb o f e=>R b o f e) J q t G B⟩
 self:=λ_ _ _ _ _ st h=>wpAny_pyIter_listiter st h
theorem Ql {w:World} {K:W.Frag} (a j:Addr):Turn P w K tg (tD K a) [j] j (λi h=>h.IsTupleIter j a i) where
 mem:=by simp
 obj:=λi h st b f=>by
  have e:b=j:=by simpa using f
  subst e
  obtain⟨o,e,c,d⟩:=st
  exact⟨o,e,λv z=>by rw[d] at z;cases z⟩
 keep:=λi h l st k=>st.at λo e=>k j (by simp) o e
 item:=by
  intro X C q y M i L s σ H E I n st D
  subst C q y
  obtain⟨Z,x,m,A⟩:=D
  obtain⟨g,F,p,Q⟩:=I.tuple m
  obtain⟨u,T,U⟩:=F.get A
  obtain⟨J,r,Y,t,G,B⟩:=n j (by simp)
  refine wpAny_pyNext_tuple_item st (show s.heap.IsTuple a g.toArray from p) (x:=u) (by simpa using T) λl N O=>?_
  have V:Inv X L σ H { s with heap:=l }:=I.turned (t':=s.toks) (λb o f e=>(O.2 b f).trans e) J r t G B
  obtain⟨o,e,c,d⟩:=id N
  exact⟨u,rfl,QT (s:={ s with heap:=l }) e c d (by decide) ⟨x,H,V,U,⟨rfl,λys S=>by rw[I.J5 S m];exact A⟩,N,λb f=>(n b f).1⟩⟩
 done:=by
  intro X C q y M i L s σ H E I n st D
  subst C q y
  obtain⟨Z,m,A⟩:=D
  obtain⟨g,F,p,Q⟩:=I.tuple m
  obtain⟨J,r,Y,t,G,B⟩:=n j (by simp)
  have hl:=F.length
  exact wpAny_pyNext_tuple_end (I.ok.hd M) st (show s.heap.IsTuple a g.toArray from p) (by simp;omega) λl R=>⟨rfl,I.turned (t':=s.toks) (λb o f e=>R b o f e) J r t G B⟩
 self:=λ_ _ _ _ _ st h=>wpAny_pyIter_tupleiter st h
theorem Qj {w:World} {K:W.Frag} (a:Addr) (lo:Int) (n:Nat):Turn P w K tg (bY lo n) [a] a (λi h=>IsRangeIter h a (lo+(i:Nat) * 1) ((n:Int) - (i:Nat)) 1) where
 mem:=by simp
 obj:=λi h st b c=>by
  have e:b=a:=by simpa using c
  subst e
  exact⟨_,st,λv z=>by
   have F:Data.fields _=Data.cell v:=z
   cases F⟩
 keep:=λi h d st k=>k a (by simp) _ st
 item:=by
  intro X r g m p i B s σ H E I f st u
  subst r g m
  obtain⟨y,j,J,l,x,q⟩:=f a (by simp)
  have W:=Walks.range (prog:=X.prog) (w:=X.w) (I.ok.hd p) a lo 1 n
  refine W.item i s _ _ u st λv d A M C L=>?_
  obtain⟨t,rfl⟩:=M
  have G:Inv X B σ H { s with heap:=d,toks:=A }:=I.turned (λb o c e=>L b o (by simpa using c) e) y j l x q
  refine⟨_,rfl,QT (s:={ s with heap:=d,toks:=A }) (n:="range_iterator") C rfl rfl (by decide) ⟨.int (lo+i),H,G,⟨t,?_⟩,⟨rfl,rfl⟩,C,λb c=>(f b c).1⟩⟩
  rw[Int.mul_one]
 done:=by
  intro X r g m p i B s σ H E I f st u
  subst r g m
  obtain⟨y,j,J,l,x,q⟩:=f a (by simp)
  exact wpAny_pyNext_range_end (I.ok.hd p) st (by have:n<=i:=u;omega) λd D=>⟨rfl,I.turned (t':=s.toks) (λb o c e=>D b o c e) y j l x q⟩
 self:=λ_ _ _ _ _ st h=>wpAny_pyIter_rangeiter st h
inductive YC (K:W.Frag) (R:It->Hp->Prop) (x:V) (H1:Hp):Prop
 | mk (a:_):x=.ref a->(∃ xs,Dg K H1 a xs)->R (a_ K a) H1->YC K R x H1
def oW (K:W.Frag) (tl:TE):TI:=λσ H R=>tl σ H λx H1=>YC K R x H1
inductive aV (K:W.Frag) (R:It->Hp->Prop) (x:V) (H1:Hp):Prop
 | mk (a:_):x=.ref a->(∃ xs,HY K H1 a xs)->R (tD K a) H1->aV K R x H1
def wM (K:W.Frag) (tl:TE):TI:=λσ H R=>tl σ H λx H1=>aV K R x H1
theorem Bx {l:Expr} {f:TE} (hl:PE X l f):PI X tg l (oW X.K f):=by
 intro m s σ H R I h
 refine CK (hl m s σ H _ I h) λv c j=>?_
 obtain⟨x,i,d,r,k⟩:=j
 obtain⟨a,e,⟨y,n⟩,q⟩:=k
 subst e
 cases r
 obtain⟨t,w,p,u⟩:=d.list n
 refine wpAny_pyIter_list p.isList ?_
 refine⟨c.heap.objs.size,[c.heap.objs.size],_,_,i,rfl,d.kept (t':=c.toks) λb o e=>Heap.get?_push_of_some _ e,Uo a _,⟨_,Heap.get?_push_size _ rfl,rfl,rfl⟩,λb g=>?_,q⟩
 have e:b=c.heap.objs.size:=by simpa using g
 subst e
 exact d.Ms (ah _) (d.hok.fresh (ah _))
theorem Q5 {l:Expr} {g:TE} (hl:PE X l g):PI X tg l (wM X.K g):=by
 intro n s σ H R I h
 refine CK (hl n s σ H _ I h) λv c k=>?_
 obtain⟨x,j,d,t,m⟩:=k
 obtain⟨a,e,⟨y,r⟩,q⟩:=m
 subst e
 cases t
 obtain⟨f,w,p,u⟩:=d.tuple r
 refine wpAny_pyIter_tuple (show c.heap.IsTuple a f.toArray from p) ?_
 refine⟨c.heap.objs.size,[c.heap.objs.size],_,_,j,rfl,d.kept (t':=c.toks) λb o e=>Heap.get?_push_of_some _ e,Ql a _,⟨_,Heap.get?_push_size _ rfl,rfl,rfl⟩,λb i=>?_,q⟩
 have e:b=c.heap.objs.size:=by simpa using i
 subst e
 exact d.Ms (ah _) (d.hok.fresh (ah _))
theorem Wr {R:It->Hp->Prop} {lo hi:Int} {t u v:Tok} {a:Nat} (I:Inv X a8 σ H s) (i : -(2 ^ 62)<=lo) (f:lo<2 ^ 62) (k : -(2 ^ 62)<=hi) (j:hi<2 ^ 62)
  (q:R (bY lo (hi - lo).toNat) H):wpAny (model X.prog X.w) X.A (pyIter (.ref s.heap.objs.size)) (PIE X a8 σ tg R) E { s with heap:=s.heap.push { cls:=.type "range",data:=.fields #[.int lo t,.int hi u,.int 1 v] },toks:=a }:=by
 refine wpAny_pyIter_range (IsRange.new ..) (small_one i f k j) ?_
 have c:Inv X a8 σ H { s with heap:=s.heap.push { cls:=.type "range",data:=.fields #[.int lo t,.int hi u,.int 1 v] },toks:=a }:=I.kept λb o e=>Heap.get?_push_of_some _ e
 refine⟨(s.heap.push { cls:=.type "range",data:=.fields #[.int lo t,.int hi u,.int 1 v] }).objs.size,[(s.heap.push { cls:=.type "range",data:=.fields #[.int lo t,.int hi u,.int 1 v] }).objs.size],_,_,H,rfl,
  c.kept (t':=a) λb o e=>Heap.get?_push_of_some _ e,Qj _ lo (hi - lo).toNat,?_,λb d=>?_,q⟩
 ·have g:lo+((0:Nat):Int) * 1=lo:=by simp
  have h:(((hi - lo).toNat:Nat):Int) - ((0:Nat):Int)=Builtin.Range.rangeSize lo hi 1:=by rw[rangeSize_one];split <;> omega
  show IsRangeIter _ _ (lo+((0:Nat):Int) * 1) ((((hi - lo).toNat:Nat):Int) - ((0:Nat):Int)) 1
  rw[g,h]
  exact Heap.get?_push_size _ rfl
 ·have e:b=(s.heap.push { cls:=.type "range",data:=.fields #[.int lo t,.int hi u,.int 1 v] }).objs.size:=by simpa using d
  subst e
  exact c.Ms (ah _) (c.hok.fresh (ah _))
inductive Xe (R:It->Hp->Prop) (vs:List V) (H1:Hp):Prop
 | mk (j:Int):vs=[.int j]->-(2 ^ 62)<=j->j<2 ^ 62->R (bY 0 j.toNat) H1->Xe R vs H1
def nJ (ta:TA):TI:=λσ H R=>ta σ H λvs H1=>Xe R vs H1
theorem Dv {a:Expr} {c:TA} (l:Gl X "range") (n:X.mg "range" = none) (d:PA X [a] c) (i:starEach [a] X.env=[(false,eval a X.env)]:=by rfl):PI X tg (.Call (.Name "range" p) [a] [] pos) (nJ c):=by
 intro m s σ H R I h
 refine Call_ (JM I l n boot_range (PyProof.Rows.callWith_type1 (CK (d pos m s σ H _ I h) λv u ⟨x,w,g,o,b⟩=>?_) i rfl))
 obtain⟨j,e,b,k,q⟩:=b
 subst e
 cases o with
 | cons r f =>
  cases f
  obtain⟨t,rfl⟩:=r
  exact call_range_1 (Wr g (by omega) (by omega) b k (by simpa using q))
def xx (wi:TI) (g:TG) (tb:TS):TS:=λD σ H=>wi σ H λJ H1=>∃ W:Nat->Nat->St->Hp->Prop,(∃ m,W 0 m σ H1)/\∀ i m σ H,W i m σ H ->
 (J.stop i H/\D.nx σ H) \/ (J.go i H/\∃ N:St->Hp->Prop,(∀ σ' H',N σ' H'->∃ m',m'<m/\W (i+1) m' σ' H')/\∀ x H',J.yld i H x H'->g x σ H' λσ2 H2=>tb { D with nx:=N,ct:=N,bk:=D.nx } σ2 H2)
def KZ (fp:List Addr) (h:Heap):List (Addr × Obj):=fp.filterMap λb=>(h.get? b).map λo=>(b,o)
theorem Ez {o:Obj} (a:b∈fp) (e:h.get? b=some o):(b,o)∈KZ fp h:=List.mem_filterMap.mpr ⟨b,a,by rw[e];rfl⟩
theorem Ue {p:Addr × Obj} (d:p∈KZ fp h):p.1∈fp/\h.get? p.1=some p.2:=by
 obtain⟨b,c,e⟩:=List.mem_filterMap.mp d
 cases q:h.get? b with
 | none=>rw[q] at e;cases e
 | some o =>
  rw[q] at e
  have a:(b,o)=p:=Option.some.inj e
  subst a
  exact⟨c,q⟩
theorem Inv.pinned (I:Inv X a8 σ H s) (f:∀ b∈fp,G7 X a8 H b) (i:∀ b∈fp,∃ o,s.heap.get? b=some o/\∀ v,o.data ≠ .cell v):Inv X (a8++KZ fp s.heap) σ H s :=
 I.Rt λp h=>(bX.mp h).elim (λz=>I.pin p (bt _ z)) λz=>by
  obtain⟨c,e⟩:=Ue z
  obtain⟨k,j,g,_⟩:=f p.1 c
  obtain⟨o,a,d⟩:=i p.1 c
  rw[e] at a;cases a
  exact⟨e,k,j,g,d⟩
theorem Inv.H_ {pl:List (Addr × Obj)} (I:Inv X (a8++pl) σ H s):Inv X a8 σ H s:=I.Rt λp a=>I.pin p (bt _ (cy _ a))
theorem Eo {t:List Stmt} {wi:TI} {g:TG} (B:PassesOwn (model X.prog X.w) X.A X.env X.xe) (hc:X.calm=true) (hi:PI X tg iter wi) (hg:PG X tg g) (a:Ni X t tb)
  (hs:∀ x,foldedSetIterable iter X.env x=pure x:=by intro _;rfl):PS X (.For tg iter t [] pos) (xx wi g tb):=by
 intro w s σ H D I h
 refine wpAny_For (CK (hi w s σ H _ I h) λv s1 h1=>CK h1 λy' s2 h2=>?_) hs
 obtain⟨it,E,Q,J,H2,e,I2,T,pV,V,W,⟨m0,w0⟩,oj⟩:=h2
 subst e
 have c:∀ {p:Hp},(∀ b∈E,p b=none)->∀ b∈E,G7 X w p b:=λhn b a=>⟨hn b a,(V b a).2⟩
 refine codeAny_forLoop_any (λn U=>∃ i z p,Inv X w z p U/\Q i U.heap/\(∀ b∈E,p b=none)/\W i n z p) ?_ m0 ⟨0,σ,H2,I2,pV,λb a=>(V b a).1,w0⟩
 rintro n Z ⟨i,A,F,I3,C,S,w3⟩
 rcases oj i n A F w3 with⟨stop,qn⟩ | ⟨go,N,hN,step⟩
 ·refine wpAny_passesOwn B (CK (T.done X rfl rfl rfl hc i w Z A F X.xe I3 (c S) C stop) λr s4 ⟨K,I4⟩=>?_)
  subst K
  exact wpAny_execs_nil ⟨A,F,I4,qn⟩
 ·refine wpAny_passesOwn B (CK (T.item X rfl rfl rfl hc i w Z A F X.xe I3 (c S) C go) λr s4 ⟨u,K,h4⟩=>?_)
  subst K
  refine wpAny_passesOwn B (CK h4 λ_ Y M=>?_)
  obtain⟨x,R,I5,r5,y5,P,O⟩:=M
  have L:=I5.pinned (c O) (T.obj _ _ P)
  refine wpAny_passesOwn B (CK (hg _ Y A R x u _ L r5 (step x R y5)) λ_ s6 M=>?_)
  obtain⟨σ6,H6,I6,q6⟩:=M
  refine wpAny_passesOwn B (CK (a _ s6 σ6 H6 _ I6 q6) λf G q=>?_)
  have again:∀ {l:St} {j:Hp},Inv X (w++KZ E Y.heap) l j G->N l j->∃ m,m<n/\∃ i z p,Inv X w z p G/\Q i G.heap/\(∀ b∈E,p b=none)/\W i m z p:=λ{l j} k y=>by
   obtain⟨m',hm,w7⟩:=hN l j y
   refine⟨m',hm,i+1,l,j,k.H_,T.keep _ _ _ P λb a o e=>(k.pin (b,o) (bt _ (bt _ (Ez a e)))).1,λb a=>?_,w7⟩
   obtain⟨o,e,d⟩:=T.obj _ _ P b a
   exact (k.pin (b,o) (bt _ (bt _ (Ez a e)))).2.1
  cases f with
  | next=>obtain⟨l,j,k,y⟩:=q;exact again k y
  | cont=>obtain⟨l,j,k,y⟩:=q;exact again k y
  | brk=>obtain⟨l,j,k,q⟩:=q;exact⟨l,j,k.H_,q⟩
  | ret v=>obtain⟨x7,l,j,k,r7,q⟩:=q;exact⟨x7,l,j,k.H_,r7,q⟩
variable {g:TG}
theorem Hz {K:W.Frag} {D:Ends} (b:Nat->St->Hp->Prop) (h:b 0 σ H) (hl:∀ i σ H,i<=xs.length->b i σ H->Dg K H a xs)
  (f:∀ i x σ H,xs[i]? = some x->b i σ H->g x σ H λσ2 H2=>tb { D with nx:=b (i+1),ct:=b (i+1),bk:=D.nx } σ2 H2) (j:∀ σ H,b xs.length σ H->D.nx σ H) :
  ∃ W:Nat->Nat->St->Hp->Prop,(∃ m,W 0 m σ H)/\∀ i m σ H,W i m σ H ->
   ((a_ K a).stop i H/\D.nx σ H) \/ ((a_ K a).go i H/\∃ N:St->Hp->Prop,(∀ σ' H',N σ' H'->∃ m',m'<m/\W (i+1) m' σ' H')/\∀ x H',(a_ K a).yld i H x H'->g x σ H' λσ2 H2=>tb { D with nx:=N,ct:=N,bk:=D.nx } σ2 H2):=by
 refine⟨λi m σ H=>m=xs.length - i/\i<=xs.length/\b i σ H,⟨xs.length,by simp,Nat.zero_le _,h⟩,?_⟩
 rintro i m σ H ⟨rfl,d,p⟩
 have q:=hl i σ H d p
 by_cases c:i<xs.length
 ·refine .inr ⟨⟨xs,xs[i],q,by simp[c]⟩,b (i+1),λσ' H' k=>⟨xs.length - (i+1),by omega,rfl,c,k⟩,λx H' y=>?_⟩
  obtain⟨e,y⟩:=y
  subst e
  exact f i x σ _ (y xs q) p
 ·have e:i=xs.length:=by omega
  subst e
  exact .inl ⟨⟨xs,q,ah _⟩,j σ H p⟩
theorem Gx {lo:Int} {D:Ends} (b:Nat->St->Hp->Prop) (d:b 0 σ H)
  (c:∀ i σ H,i<n->b i σ H->g (.int (lo+i)) σ H λσ2 H2=>tb { D with nx:=b (i+1),ct:=b (i+1),bk:=D.nx } σ2 H2) (f:∀ σ H,b n σ H->D.nx σ H) :
  ∃ W:Nat->Nat->St->Hp->Prop,(∃ m,W 0 m σ H)/\∀ i m σ H,W i m σ H ->
   ((bY lo n).stop i H/\D.nx σ H) \/ ((bY lo n).go i H/\∃ N:St->Hp->Prop,(∀ σ' H',N σ' H'->∃ m',m'<m/\W (i+1) m' σ' H')/\∀ x H',(bY lo n).yld i H x H'->g x σ H' λσ2 H2=>tb { D with nx:=N,ct:=N,bk:=D.nx } σ2 H2):=by
 refine⟨λi m σ H=>m=n - i/\i<=n/\b i σ H,⟨n,by simp,Nat.zero_le _,d⟩,?_⟩
 rintro i m σ H ⟨rfl,j,p⟩
 by_cases a:i<n
 ·refine .inr ⟨a,b (i+1),λσ' H' h=>⟨n - (i+1),by omega,rfl,a,h⟩,λx H' y=>?_⟩
  obtain⟨e,y⟩:=y
  subst e y
  exact c i σ _ a p
 ·have e:i=n:=by omega
  subst e
  exact .inl ⟨ah _,f σ H p⟩
theorem YK {c:TT} {D:Ends} (a:St->Hp->Prop) (μ:St->Hp->Nat) (e:a σ H)
  (d:∀ σ H,a σ H->c σ H λb H1=>if b=true then tb { D with nx:=λσ' H'=>a σ' H'/\μ σ' H'<μ σ H,ct:=λσ' H'=>a σ' H'/\μ σ' H'<μ σ H,bk:=D.nx } σ H1 else D.nx σ H1)
  (mono:∀ σ H Q Q',(∀ b H1,Q b H1->Q' b H1)->c σ H Q->c σ H Q'):Oo c tb D σ H:=by
 refine⟨λm σ H=>m=μ σ H/\a σ H,⟨_,rfl,e⟩,?_⟩
 rintro m σ H ⟨rfl,p⟩
 refine mono σ H _ _ (λb H1 q=>?_) (d σ H p)
 cases b with
 | true=>exact⟨_,λσ' H' ⟨f,l⟩=>⟨_,l,rfl,f⟩,q⟩
 | false=>exact q
abbrev R2:=V->V->Hp->VK->Prop
def HN (X:Cx) (f:Value->Value->Sem Value) (r:R2):Prop :=
 ∀ (a8:List (Addr × Obj)) (s:Shared) (σ:St) (H:Hp) (x y:V) (v u:Value) (Q:VK),Inv X a8 σ H s->RelV x v->RelV y u->r x y H Q ->
  wpAny (model X.prog X.w) X.A (f v u) (EP X a8 σ Q) X.xe s
def rE (X:Cx) (f:Value->Sem Value) (r:V->Hp->VK->Prop):Prop :=
 ∀ (a8:List (Addr × Obj)) (s:Shared) (σ:St) (H:Hp) (x:V) (v:Value) (Q:VK),Inv X a8 σ H s->RelV x v->r x H Q ->
  wpAny (model X.prog X.w) X.A (f v) (EP X a8 σ Q) X.xe s
def FW (X:Cx) (f:Value) (r:List V->Hp->VK->Prop):Prop :=
 ∀ (a8:List (Addr × Obj)) (s:Shared) (σ:St) (H:Hp) (xs:List V) (us:List Value) (Q:VK),Inv X a8 σ H s->Vals xs us->r xs H Q ->
  wpAny (model X.prog X.w) X.A (call f us) (EP X a8 σ Q) X.xe s
def uL (X:Cx) (r:V->Hp->(Bool->Hp->Prop)->Prop):Prop :=
 ∀ (a8:List (Addr × Obj)) (s:Shared) (σ:St) (H:Hp) (x:V) (v:Value) (Q:Bool->Hp->Prop),Inv X a8 σ H s->RelV x v->r x H Q ->
  wpAny (model X.prog X.w) X.A (truthy v) (TP X a8 σ Q) X.xe s
def Zv (r:R2) (ta tb:TE):TE:=λσ H Q=>ta σ H λx H1=>tb σ H1 λy H2=>r x y H2 Q
def z9 (r:V->Hp->VK->Prop) (ta:TE):TE:=λσ H Q=>ta σ H λx H1=>r x H1 Q
inductive rI (C:Int->Int->Prop) (g:Int->Int->V) (x:V) (y:V) (H:Hp) (Q:VK):Prop
 | mk (i j:_):x=.int i->y=.int j->C i j->Q (g i j) H->rI C g x y H Q
inductive XN (g:Int->Int->V) (x:V) (y:V) (H:Hp) (Q:VK):Prop
 | mk (i j:_):x=.int i->y=.int j->Q (g i j) H->XN g x y H Q
inductive rU (g:Int->V) (x:V) (H:Hp) (Q:VK):Prop
 | mk (i:_):x=.int i->Q (g i) H->rU g x H Q
section
variable {a b c:Expr} {tb tc:TE}
theorem iJ (g:PE X a ta) (i:PE X b tb) {R:V->V->Hp->Prop} (I:Inv X a8 σ H s)
  (h:ta σ H λx H1=>tb σ H1 λy H2=>R x y H2) {f:Value->Value->Sem Value}
  (m:∀ v u s2 x y H2,Inv X a8 σ H2 s2->RelV x v->RelV y u->R x y H2->wpAny (model X.prog X.w) X.A (f v u) Q X.xe s2) :
  wpAny (model X.prog X.w) X.A (eval a X.env) (λv s₁=>wpAny (model X.prog X.w) X.A (eval b X.env) (λu s₂=>wpAny (model X.prog X.w) X.A (f v u) Q X.xe s₂) X.xe s₁) X.xe s:=by
 refine CK (g a8 s σ H _ I h) λv e c=>?_
 obtain⟨x,H1,j,n,l⟩:=c
 refine CK (i a8 e σ H1 _ j l) λu s2 c=>?_
 obtain⟨y,H2,o,d,k⟩:=c
 exact m v u s2 x y H2 o n d k
theorem BX {c:Operator} {r:R2} (k:HN X (binaryOp c) r) (e:PE X a ta) (g:PE X b tb):PE X (.BinOp a c b pos) (Zv r ta tb):=by
 intro i s σ H Q I h
 exact wpAny_BinOp (iJ e g I h λv u m x y d l j f q=>k i m σ d x y v u Q l j f q)
theorem Ji {c:UnaryOp} {r:V->Hp->VK->Prop} (g:rE X (unaryOp c) r) (f:PE X a ta):PE X (.UnaryOp c a pos) (z9 r ta):=by
 intro b s σ H Q I h
 exact UnaryOp_ (CK (f b s σ H _ I h) λv e ⟨x,j,k,i,d⟩=>g b e σ j x v Q k i d)
theorem jK {f:Value->Value->Sem Value} {C:Int->Int->Prop} {g:Int->Int->Int}
  (rule:∀ (i j:Int) (t u:Tok) (s:Shared) (Q:vSP) (E:vSP),C i j->Q (.int (g i j) s.toks) { s with toks:=s.toks+1 }->wpAny (model X.prog X.w) X.A (f (.int i t) (.int j u)) Q E s) :
  HN X f (rI C λi j=>.int (g i j)):=by
 intro e s σ H x y v u Q I d b h
 obtain⟨i,j,rfl,rfl,a,q⟩:=h
 obtain⟨t,rfl⟩:=d
 obtain⟨c,rfl⟩:=b
 exact rule i j t c s _ _ a ⟨.int (g i j),H,I.tok _,⟨_,rfl⟩,q⟩
theorem aA {f:Value->Value->Sem Value} {g:Int->Int->Int}
  (rule:∀ (i j:Int) (t u:Tok) (s:Shared) (Q:vSP) (E:vSP),Q (.int (g i j) s.toks) { s with toks:=s.toks+1 }->wpAny (model X.prog X.w) X.A (f (.int i t) (.int j u)) Q E s) :
  HN X f (XN λi j=>.int (g i j)):=by
 intro d s σ H x y v u Q I c a h
 obtain⟨i,j,rfl,rfl,q⟩:=h
 obtain⟨t,rfl⟩:=c
 obtain⟨b,rfl⟩:=a
 exact rule i j t b s _ _ ⟨.int (g i j),H,I.tok _,⟨_,rfl⟩,q⟩
theorem ZV {f:Value->Value->Sem Value} {g:Int->Int->Bool}
  (rule:∀ (i j:Int) (t u:Tok) (s:Shared) (Q:vSP) (E:vSP),Q (.bool (g i j)) s->wpAny (model X.prog X.w) X.A (f (.int i t) (.int j u)) Q E s) :
  HN X f (XN λi j=>.bl (g i j)):=by
 intro d s σ H x y v u Q I c a h
 obtain⟨i,j,rfl,rfl,q⟩:=h
 obtain⟨t,rfl⟩:=c
 obtain⟨b,rfl⟩:=a
 exact rule i j t b s _ _ ⟨.bl (g i j),H,I,rfl,q⟩
def ye (i j:Int):Prop:=0<j/\j<1073741824
def p_ (i j:Int):Prop:=0<=j/\j<=1000000/\i.natAbs<2 ^ 64
def dF (i j:Int):Prop:=(-(2 ^ 64)<i/\i<2 ^ 64) \/ (-(2 ^ 64)<j/\j<2 ^ 64)
theorem dF.ok {i j:Int} (h:dF i j):IntMulOk i j:=by
 rcases h with⟨a,b⟩ | ⟨a,b⟩
 ·exact .of_left (intBits_le_64 a b)
 ·exact .of_right (intBits_le_64 a b)
theorem two_pow_nn (k:Nat):(0:Int)<=2 ^ k:=by
 rw[two_pow_cast]
 exact gT _
theorem Br:HN X (binaryOp .Add) (XN λi j=>.int (i+j)):=aA λ_ _ _ _ _ _ _ q=>add_int q
theorem Fz:HN X (binaryOp .Sub) (XN λi j=>.int (i - j)):=aA λ_ _ _ _ _ _ _ q=>sub_int q
theorem JQ:HN X (binaryOp .Mult) (rI dF λi j=>.int (i * j)):=jK λ_ _ _ _ _ _ _ a q=>mul_int q a.ok
theorem Oc:HN X (binaryOp .FloorDiv) (rI ye λi j=>.int (i / j)):=jK λi j _ _ _ _ _ a q=>by
 have b:(0:Int)<j:=a.1
 have c:j<1073741824:=a.2
 exact floordiv_int (by omega) (by rw[Int.fdiv_eq_ediv_of_nonneg i (by omega)];exact q) (.inl (PyProof.noPylong_small (by omega)))
theorem E_:HN X (binaryOp .Mod) (rI (λ_ j=>0<j) λi j=>.int (i % j)):=jK λi j _ _ _ _ _ a q=>by
 have b:(0:Int)<j:=a
 exact mod_int' (by omega) (by rw[Int.fmod_eq_emod_of_nonneg i (by omega)];exact q)
theorem dH:HN X (binaryOp .Pow) (rI p_ λi j=>.int (i ^ j.toNat)):=jK λ_ _ _ _ _ _ _ a q=>pow_int_small a.1 a.2.1 a.2.2 q
theorem V3:HN X (binaryOp .LShift) (rI p_ λi j=>.int (i * 2 ^ j.toNat)):=jK λ_ _ _ _ _ _ _ a q=>lshift_int_small a.1 a.2.1 a.2.2 q
theorem Wq:HN X (binaryOp .RShift) (rI (λ_ j=>0<=j) λi j=>.int (i / 2 ^ j.toNat)):=jK λi j _ _ _ _ _ a q =>
 rshift_int a (by rw[Int.fdiv_eq_ediv_of_nonneg i (two_pow_nn _)];exact q)
theorem JS:HN X (binaryOp .BitAnd) (XN λi j=>.int (Builtin.bitAnd i j)):=aA λ_ _ _ _ _ _ _ q=>and_int q
theorem M3:HN X (binaryOp .BitOr) (XN λi j=>.int (Builtin.bitOr i j)):=aA λ_ _ _ _ _ _ _ q=>or_int q
theorem zQ {f:Value->Sem Value} {g:Int->Int}
  (rule:∀ (i:Int) (t:Tok) (s:Shared) (Q:vSP) (E:vSP),Q (.int (g i) s.toks) { s with toks:=s.toks+1 }->wpAny (model X.prog X.w) X.A (f (.int i t)) Q E s) :
  rE X f (rU λi=>.int (g i)):=by
 intro b s σ H x v Q I a h
 obtain⟨i,rfl,q⟩:=h
 obtain⟨t,rfl⟩:=a
 exact rule i t s _ _ ⟨.int (g i),H,I.tok _,⟨_,rfl⟩,q⟩
theorem LQ:rE X (unaryOp .USub) (rU λi=>.int (-i)):=zQ λ_ _ _ _ _ q=>neg_int q
theorem Ow:rE X (unaryOp .Invert) (rU λi=>.int (Builtin.bitNot i)):=zQ λ_ _ _ _ _ q=>invert_int q
end
def jM:V->V->Bool
 | .non,.non=>true | .non,.int _=>true | .int _,.non=>true | .non,.bl _=>true | .bl _,.non=>true | .non,.str _=>true | .str _,.non=>true
 | .int _,.int _=>true | .bl _,.bl _=>true | .str _,.str _=>true | .byt _,.byt _=>true
 | .int _,.str _=>true | .str _,.int _=>true | .bl _,.str _=>true | .str _,.bl _=>true
 | _,_=>false
def zT:R2:=λx y H Q=>jM x y=true/\Q (.bl (decide (x=y))) H
def rNe:R2:=λx y H Q=>jM x y=true/\Q (.bl (!decide (x=y))) H
theorem TJ {i j:Int}:decide (V.int i=V.int j)=(i == j):=by
 rw[fe]
 simp
theorem YL {i j:Bool}:decide (V.bl i=V.bl j)=(i == j):=by
 rw[fe]
 simp
theorem Ii {i j:Str}:decide (V.str i=V.str j)=(i == j):=by
 rw[fe]
 simp
theorem Rv {i j:Array UInt8}:decide (V.byt i=V.byt j)=(i.toList == j.toList):=by
 rw[fe]
 cases i
 cases j
 simp
section
variable {a b c:Expr} {tb tc:TE}
theorem Bv {Q:VK} {k a:Bool} (I:Inv X a8 σ H s) (q:Q (.bl k) H) (e:k=a):EP X a8 σ Q (.bool a) s:=by
 subst e
 exact⟨.bl k,H,I,rfl,q⟩
theorem Bw:HN X (compareOp .Eq) zT:=by
 intro e s σ H x y v u Q I d a h
 obtain⟨c,q⟩:=h
 cases x with
 | non =>
  cases d
  cases y with
  | non=>cases a;exact PySem.EqNone.eq_none_none (Bv I q (by simp))
  | bl j=>cases a;exact PySem.EqNone.eq_none_bool (Bv I q (by simp))
  | int j=>obtain⟨b,rfl⟩:=a;exact PySem.EqNone.eq_none_int (Bv I q (by simp))
  | str j=>obtain⟨b,rfl⟩:=a;exact PySem.EqNone.eq_none_str (Bv I q (by simp))
  | _=>exact absurd (show false=true from c) Bool.false_ne_true
 | bl i =>
  cases d
  cases y with
  | non=>cases a;exact PySem.EqNone.eq_bool_none (Bv I q (by simp))
  | bl j=>cases a;exact eq_bool (Bv I q YL)
  | str j=>obtain⟨b,rfl⟩:=a;exact PySem.EqMixed.eq_bool_str (Bv I q (by simp))
  | _=>exact absurd (show false=true from c) Bool.false_ne_true
 | int i =>
  obtain⟨t,rfl⟩:=d
  cases y with
  | non=>cases a;exact PySem.EqNone.eq_int_none (Bv I q (by simp))
  | int j=>obtain⟨b,rfl⟩:=a;exact eq_int (Bv I q TJ)
  | str j=>obtain⟨b,rfl⟩:=a;exact PySem.EqMixed.eq_int_str (Bv I q (by simp))
  | _=>exact absurd (show false=true from c) Bool.false_ne_true
 | str i =>
  obtain⟨t,rfl⟩:=d
  cases y with
  | non=>cases a;exact PySem.EqNone.eq_str_none (Bv I q (by simp))
  | bl j=>cases a;exact PySem.EqMixed.eq_str_bool (Bv I q (by simp))
  | int j=>obtain⟨b,rfl⟩:=a;exact PySem.EqMixed.eq_str_int (Bv I q (by simp))
  | str j=>obtain⟨b,rfl⟩:=a;exact eq_str (Bv I q Ii)
  | _=>exact absurd (show false=true from c) Bool.false_ne_true
 | byt i =>
  obtain⟨t,rfl⟩:=d
  cases y with
  | byt j=>obtain⟨b,rfl⟩:=a;exact W.eq_bytes (Bv I q Rv)
  | _=>exact absurd (show false=true from c) Bool.false_ne_true
 | _=>cases y <;> exact absurd (show false=true from c) Bool.false_ne_true
theorem Ko:HN X (compareOp .NotEq) rNe:=by
 intro e s σ H x y v u Q I d a h
 obtain⟨c,q⟩:=h
 cases x with
 | non =>
  cases d
  cases y with
  | non=>cases a;exact PySem.EqNone.ne_none_none (Bv I q (by simp))
  | bl j=>cases a;exact PySem.EqNone.ne_none_bool (Bv I q (by simp))
  | int j=>obtain⟨b,rfl⟩:=a;exact PySem.EqNone.ne_none_int (Bv I q (by simp))
  | str j=>obtain⟨b,rfl⟩:=a;exact PySem.EqNone.ne_none_str (Bv I q (by simp))
  | _=>exact absurd (show false=true from c) Bool.false_ne_true
 | bl i =>
  cases d
  cases y with
  | non=>cases a;exact PySem.EqNone.ne_bool_none (Bv I q (by simp))
  | bl j=>cases a;exact ne_bool (Bv I q (congrArg not YL))
  | str j=>obtain⟨b,rfl⟩:=a;exact PySem.EqMixed.ne_bool_str (Bv I q (by simp))
  | _=>exact absurd (show false=true from c) Bool.false_ne_true
 | int i =>
  obtain⟨t,rfl⟩:=d
  cases y with
  | non=>cases a;exact PySem.EqNone.ne_int_none (Bv I q (by simp))
  | int j=>obtain⟨b,rfl⟩:=a;exact ne_int (Bv I q (congrArg not TJ))
  | str j=>obtain⟨b,rfl⟩:=a;exact PySem.EqMixed.ne_int_str (Bv I q (by simp))
  | _=>exact absurd (show false=true from c) Bool.false_ne_true
 | str i =>
  obtain⟨t,rfl⟩:=d
  cases y with
  | non=>cases a;exact PySem.EqNone.ne_str_none (Bv I q (by simp))
  | bl j=>cases a;exact PySem.EqMixed.ne_str_bool (Bv I q (by simp))
  | int j=>obtain⟨b,rfl⟩:=a;exact PySem.EqMixed.ne_str_int (Bv I q (by simp))
  | str j=>obtain⟨b,rfl⟩:=a;exact ne_str (Bv I q (congrArg not Ii))
  | _=>exact absurd (show false=true from c) Bool.false_ne_true
 | byt i =>
  obtain⟨t,rfl⟩:=d
  cases y with
  | byt j=>obtain⟨b,rfl⟩:=a;exact W.ne_bytes (Bv I q (congrArg not Rv))
  | _=>exact absurd (show false=true from c) Bool.false_ne_true
 | _=>cases y <;> exact absurd (show false=true from c) Bool.false_ne_true
theorem HR:HN X (compareOp .Lt) (XN λi j=>.bl (decide (i<j))):=ZV λ_ _ _ _ _ _ _ q=>lt_int q
theorem FT:HN X (compareOp .LtE) (XN λi j=>.bl (decide (i<=j))):=ZV λ_ _ _ _ _ _ _ q=>le_int q
theorem Rj:HN X (compareOp .Gt) (XN λi j=>.bl (decide (j<i))):=ZV λ_ _ _ _ _ _ _ q=>gt_int q
theorem qT:HN X (compareOp .GtE) (XN λi j=>.bl (decide (j<=i))):=ZV λ_ _ _ _ _ _ _ q=>ge_int q
theorem NK:HN X (compareOp .In) (λx y H Q=>∃ i j,x=.str i/\y=.str j/\Q (.bl (!(Builtin.Str.occurrences j i 0 j.length 1).isEmpty)) H):=by
 intro d s σ H x y v u Q I b a h
 obtain⟨i,j,rfl,rfl,q⟩:=h
 obtain⟨t,rfl⟩:=b
 obtain⟨c,rfl⟩:=a
 exact in_str (Bv I q rfl)
theorem Qu:HN X (compareOp .Is) (λx y H Q=>y=.non/\Q (.bl (decide (x=.non))) H):=by
 intro c s σ H x y v u Q I a b h
 obtain⟨rfl,q⟩:=h
 cases b
 refine is_none_gen (Bv I q ?_)
 cases x <;> first
  | (cases a;rfl)
  | (obtain⟨t,rfl⟩:=a;rfl)
theorem Zb:HN X (compareOp .IsNot) (λx y H Q=>y=.non/\Q (.bl (!decide (x=.non))) H):=by
 intro c s σ H x y v u Q I a b h
 obtain⟨rfl,q⟩:=h
 cases b
 refine isnot_none_gen (Bv I q ?_)
 cases x <;> first
  | (cases a;rfl)
  | (obtain⟨t,rfl⟩:=a;rfl)
theorem BW (b:Expr) {a:CmpOp} (h:a ≠ .In:=by decide) (c:a ≠ .NotIn:=by decide):behindInMarks a b=false:=by
 have d:(a == CmpOp.In)=false:=by cases a <;> first | rfl | exact absurd rfl h
 have e:(a == CmpOp.NotIn)=false:=by cases a <;> first | rfl | exact absurd rfl c
 cases b <;> simp[behindInMarks,d,e]
theorem Dw {c:CmpOp} {r:R2} (k:HN X (compareOp c) r) (e:PE X a ta) (g:PE X b tb) (j:behindInMarks c b=false):PE X (.Compare a [c] [b] pos) (Zv r ta tb):=by
 intro i s σ H Q I h
 exact wpAny_Compare1 (iJ e g I h λv u n x y d l m f q=>k i n σ d x y v u Q l m f q) j
inductive XD (Q:Bool->Hp->Prop) (x:V) (H':Hp):Prop
 | mk (k:_):x=.bl k->Q k H'->XD Q x H'
def XS (t:TE):TT:=λσ H Q=>t σ H λx H'=>XD Q x H'
theorem BL {f:CmpOp} {r:R2} (C:HN X (compareOp f) r) (m:PE X a ta) (n:PE X b tb) (B:behindInMarks f b=false):PT X (.Compare a [f] [b] pos) (XS (Zv r ta tb)):=by
 intro d s σ H Q I h
 refine wpAny_isTrue_Compare1 (CK (m d s σ H _ I h) λv l ⟨x,p,q,E,w⟩=>CK (n d l σ p _ q w) λu G ⟨y,g,F,j,t⟩ =>
  CK (C d G σ g x y v u _ F E j t) λc J ⟨z,o,A,D,k,e,i⟩=>?_) B
 subst e
 cases D
 exact wpAny_truthy_bool ⟨o,A,i⟩
inductive Rm (r':R2) (tc:TE) (σ:St) (Q:VK) (y:V) (z:V) (H3:Hp):Prop
 | mk (k:_):z=.bl k->(if k=true then tc σ H3 λw' H4=>r' y w' H4 Q else Q (.bl false) H3)->Rm r' tc σ Q y z H3
def XX (r r':R2) (ta tb tc:TE):TE:=λσ H Q=>ta σ H λx H1=>tb σ H1 λy H2=>r x y H2 λz H3=>Rm r' tc σ Q y z H3
theorem Gr {i g:CmpOp} {r l:R2} (T:HN X (compareOp i) r) (M:HN X (compareOp g) l) (q:PE X a ta) (w:PE X b tb) (K:PE X c tc)
  (C:lastMarks [i,g] [b,c]=false:=by with_unfolding_all rfl):PE X (.Compare a [i,g] [b,c] pos) (XX r l ta tb tc):=by
 intro f s σ H Q I h
 refine Compare_chain (CK (q f s σ H _ I h) λv L ⟨x,N,P,D,R⟩=>chain_link (CK (w f L σ N _ P R) λu G ⟨y,J,F,m,A⟩ =>
  CK (T f G σ J x y v u _ F D m A) λd E ⟨z,n,o,U,k,e,j⟩=>?_)) C
 subst e
 cases U
 refine wpAny_truthy_bool ?_
 cases k with
 | false=>exact ite_ff ⟨.bl false,n,o,rfl,j⟩
 | true=>exact ite_tt (chain_last (CK (K f E σ n _ o j) λW t ⟨O,B,V,S,p⟩=>M f t σ B y O u W Q V m S p))
theorem Hq {i g:CmpOp} {r l:R2} (ho:HN X (compareOp i) r) (T:HN X (compareOp g) l) (q:PE X a ta) (B:PE X b tb) (R:PE X c tc)
  (G:lastMarks [i,g] [b,c]=false:=by with_unfolding_all rfl):PT X (.Compare a [i,g] [b,c] pos) (XS (XX r l ta tb tc)):=by
 intro f s σ H Q I h
 refine isTrue_chain (CK (q f s σ H _ I h) λv S ⟨x,U,W,J,Y⟩=>test_link (CK (B f S σ U _ W Y) λu M ⟨y,O,L,m,E⟩ =>
  CK (ho f M σ O x y v u _ L J m E) λd K ⟨z,n,o,r3,k,e,j⟩=>?_)) G
 subst e
 cases r3
 refine wpAny_truthy_bool ?_
 cases k with
 | false =>
  obtain⟨k',A,q'⟩:=j
  cases A
  exact ite_ff ⟨n,o,q'⟩
 | true =>
  refine ite_tt (test_last (CK (R f K σ n _ o j) λw' t ⟨V,F,I4,Z,p⟩=>CK (T f t σ F y V u w' _ I4 m Z p) λd' s5 D=>?_))
  obtain⟨z2,C,N,w,k2,e2,P⟩:=D
  subst e2
  cases w
  exact wpAny_truthy_bool ⟨C,N,P⟩
def oO (K:W.Frag) (x:V) (H:Hp) (k:Bool):Prop :=
 match x with
 | .non=>k=false
 | .bl b=>k=b
 | .int i=>k=(i != 0)
 | .str y=>y.length<=sizeLine/\k=((y.length:Int) != 0)
 | .byt y=>y.size<=sizeLine/\k=((y.size:Int) != 0)
 | .ref p=>(∃ xs,Dg K H p xs/\k = !xs.isEmpty) \/ (∃ xs,HY K H p xs/\k = !xs.isEmpty) \/ ∃ kvs,H p=some (.dK kvs)/\k = !kvs.isEmpty
 | _=>False
theorem Q0 {κ:Type} {kvs:List (κ × V)} {vs:List (κ × Value)} (r:KV kvs vs):(!vs.isEmpty) = !kvs.isEmpty:=by
 cases r <;> rfl
theorem MP {its:List Value} (r:Vals xs its):(!its.toArray.isEmpty) = !xs.isEmpty:=by
 cases r <;> simp
theorem J8:(sizeLine:Nat)<2 ^ 63:=by rw[sizeLine_eq];decide
theorem ir:uL X (λx H Q=>∃ k,oO X.K x H k/\Q k H):=by
 intro B s σ H x v Q I g h
 obtain⟨k,e,q⟩:=h
 have hl:=J8
 have A:sizeLine=16777216:=sizeLine_eq
 cases x with
 | non =>
  cases g
  have a:k=false:=e
  subst a
  exact truthy_none ⟨H,I,q⟩
 | bl b =>
  cases g
  have a:k=b:=e
  subst a
  exact wpAny_truthy_bool ⟨H,I,q⟩
 | int i =>
  obtain⟨t,rfl⟩:=g
  have a:k=(i != 0):=e
  subst a
  exact PySem.P.truthy_int ⟨H,I,q⟩
 | str y =>
  obtain⟨t,rfl⟩:=g
  obtain⟨w,a⟩:y.length<=sizeLine/\k=((y.length:Int) != 0):=e
  subst a
  exact PySem.P.truthy_str (by omega) ⟨H,I.tok _,q⟩
 | byt y =>
  obtain⟨t,rfl⟩:=g
  obtain⟨w,a⟩:y.size<=sizeLine/\k=((y.size:Int) != 0):=e
  subst a
  exact W.truthy_bytes (by omega) ⟨H,I.tok _,q⟩
 | ref p =>
  cases g
  have a:(∃ f,Dg X.K H p f/\k = !f.isEmpty) \/ (∃ f,HY X.K H p f/\k = !f.isEmpty) \/ ∃ c,H p=some (.dK c)/\k = !c.isEmpty:=e
  rcases a with⟨f,j,a⟩ | ⟨f,j,a⟩ | ⟨c,j,a⟩
  ·subst a
   obtain⟨o,r,n,u⟩:=I.list j
   have d:=r.length
   exact wpAny_truthy_list n.isList (by simp only[List.size_toArray];omega) ⟨H,I.tok _,by rw[MP r];exact q⟩
  ·subst a
   obtain⟨o,r,n,u⟩:=I.tuple j
   have d:=r.length
   exact truthy_tuple n (by simp only[List.size_toArray];omega) ⟨H,I.tok _,by rw[MP r];exact q⟩
  ·subst a
   obtain⟨u,z,l,r,m⟩:c.length<=sizeLine/\(p == sysModules)=false/\∃ l,KV c l/\s.heap.DictOf (Bt X.prog X.w) p l:=I.hok p _ j
   have d:c.length=l.length:=Paired.length r
   exact wpAny_truthy_dict z m (by omega) ⟨H,I.tok _,by rw[Q0 r];exact q⟩
 | _=>exact (show False from e).elim
theorem Ma (d:PE X a ta) (j:∀ mi,isTrue a X.env mi=(do let v <-mi;standAt a.pos;holding [v] (truthy v))) :
  PT X a (λσ H Q=>ta σ H λx H'=>∃ k,oO X.K x H' k/\Q k H'):=by
 intro b s σ H Q I h
 exact isTrue_plain (CK (d b s σ H _ I h) λv c ⟨x,e,f,i,g⟩=>ir b c σ e x v Q f i g) (j _)
theorem vals1 {x:V} {us:List Value} (r:Vals [x] us):∃ u,us=[u]/\RelV x u:=by
 cases r with
 | cons b a=>cases a;exact⟨_,rfl,b⟩
theorem vals2 {x y:V} {us:List Value} (r:Vals [x,y] us):∃ u w',us=[u,w']/\RelV x u/\RelV y w':=by
 cases r with
 | cons d a =>
  cases a with
  | cons c b=>cases b;exact⟨_,_,rfl,d,c⟩
theorem Nf (b:X.calm=true):FW X (.builtin "max") (λxs H Q=>∃ i j,xs=[.int i,.int j]/\Q (.int (if j > i then j else i)) H):=by
 intro g s σ H xs d Q I r h
 obtain⟨i,j,rfl,q⟩:=h
 obtain⟨u,l,rfl,⟨t,rfl⟩,⟨f,rfl⟩⟩:=vals2 r
 refine max_two_ints (I.ok.hd b) λc e k=>⟨_,H,I.kept k,?_,q⟩
 by_cases a:j > i
 ·rw[if_pos a,if_pos a];exact⟨_,rfl⟩
 ·rw[if_neg a,if_neg a];exact⟨_,rfl⟩
theorem Nr (b:X.calm=true):FW X (.builtin "min") (λxs H Q=>∃ i j,xs=[.int i,.int j]/\Q (.int (if j<i then j else i)) H):=by
 intro g s σ H xs d Q I r h
 obtain⟨i,j,rfl,q⟩:=h
 obtain⟨u,l,rfl,⟨t,rfl⟩,⟨f,rfl⟩⟩:=vals2 r
 refine min_two_ints (I.ok.hd b) λc e k=>⟨_,H,I.kept k,?_,q⟩
 by_cases a:j<i
 ·rw[if_pos a,if_pos a];exact⟨_,rfl⟩
 ·rw[if_neg a,if_neg a];exact⟨_,rfl⟩
theorem Nv:FW X (.type "int") (λxs H Q=>(∃ i,xs=[.int i]/\Q (.int i) H) \/ ∃ k,xs=[.bl k]/\Q (.int (if k then 1 else 0)) H):=by
 intro c s σ H xs b Q I r h
 rcases h with⟨i,rfl,q⟩ | ⟨k,rfl,q⟩
 ·obtain⟨u,rfl,t,rfl⟩:=vals1 r
  exact call_int_int ⟨.int i,H,I,⟨_,rfl⟩,q⟩
 ·obtain⟨u,rfl,a⟩:=vals1 r
  cases a
  exact call_int_bool ⟨.int (if k then 1 else 0),H,I.tok _,⟨_,rfl⟩,q⟩
end
structure Qe (h:Heap) (x dx C:Addr) (mA:Str->Option Value):Prop where
 obj:h.get? x=some (W.instObj C dx)
 ns:h.Ns1 dx mA
 ne:dx ≠ x
theorem Us {c:Str->Option Value} (n:h.Ns1 dx c):∃ od,h.get? dx=some od/\∀ name,W.lookIn name od=some (c name):=by
 obtain⟨o,d,m,k,i,l,_,g⟩:=n
 refine⟨o,k,λname=>?_⟩
 have e:=g name
 unfold nsFind findBy at e
 rw[<-Array.find?_toList] at e
 unfold W.lookIn
 rw[i]
 dsimp only
 split
 ·rename_i y q
  rw[q] at e
  exact congrArg some e
 ·rename_i q
  rw[q] at e
  have a:d.toList.any (·.refKey)=false:=by
   rw[List.any_eq_false]
   intro y f
   obtain⟨z,t,b⟩:=l y (Array.mem_toList_iff.mp f)
   simp[DictEntry.refKey,b]
  have j:¬ d.toList.any (·.refKey)=true:=by rw[a];exact fb
  rw[if_neg j]
  exact congrArg some e
theorem Qe.look {x:Addr} {a:Str->Option Value} (I:Qe h x dx C a):∃ od,W.InstAt h x (W.instObj C dx) C (some od)/\∀ name,W.lookIn name od=some (a name) :=
 let ⟨od,b,hl⟩:=Us I.ns
 ⟨od,⟨I.obj,rfl,rfl,b⟩,hl⟩
section
variable {w:World} {K:W.Frag} {x:Addr} {mA:Str->Option Value} {name:Str} {v:Value}
theorem Y9 {e:Bool} (X:K.In s.heap) (I:Qe s.heap x dx C mA) (b:W.plainGet K C name=true) (a:W.hasDictIn K C=true)
  (c:W.findIn K (.ref C) name=some none) (f:mA name=some v) (d:W.handedIn v=true) (h:Q v { s with toks:=s.toks+1 }) :
  wpAny (model prog w) A (getAttr (.ref x) name e) Q E s:=by
 obtain⟨g,J,hl⟩:=I.look
 exact W.get_value X J (W.plainGet_of b).1 (W.findObj_own a c rfl (by rw[hl,f])) d h
theorem WY {pl:Sem Bool} {Q:Value × List Value->Shared->Prop} (X:K.In s.heap) (I:Qe s.heap x dx C mA) (a:W.plainGet K C name=true)
  (b:W.findIn K (.ref C) name=some (some (.ref f))) (c:W.isFn K (.ref f)=true) (e:mA name=none) (h:Q (.ref f,[.ref x]) s) :
  wpAny (model prog w) A (getMethod (.ref x) name pl) Q E s:=by
 obtain⟨d,J,hl⟩:=I.look
 exact W.method_fn X J (W.plainGet_of a).1 (W.plainGet_of a).2 b (beq_iff_eq.mp c) (by show (W.lookIn name d).map (·.isSome)=some false;rw[hl,e];rfl) h
theorem ZX {Q:Unit->Shared->Prop} (X:K.In s.heap) (I:Qe s.heap x dx C mA)
  (m:W.findIn K (.ref C) "__setattr__" = some (some (.builtin "object.__setattr__"))) (q:W.plainOver K C=true) (l:W.takerIn K C name=some none) (n:W.hasDictIn K C=true)
  (t:PySem.Within mA ns) (hsz:ns.length<=sizeLine)
  (h:∀ h',Qe h' x dx C (λy=>if y=name then some v else mA y)->Heap.SameBut dx s.heap h'->Q () { s with heap:=h',toks:=s.toks+2 }) :
  wpAny (model prog w) A (setAttr (.ref x) name v) Q E s:=by
 obtain⟨B,J,hl⟩:=I.look
 refine W.set_plain X J m (W.osa_open (s:={ s with toks:=s.toks+1 }) (r:=none) X J q l λb=>?_)
 obtain⟨z,j,o⟩:=W.any_some n
 have k:s.heap.get? x=some ⟨.ref C,some dx,.plain,#[]⟩:=I.obj
 refine wpAny_bind (wpAny_pure (wpAny_bind (wpAny_bind (wpAny_loadPart k (wpAny_bind (W.Looks.here (s:={ s with toks:=s.toks+1 }) (W.looks_clsIn X j) ?_))))))
 rw[o]
 refine wpAny_pure (a:=some dx) (wpAny_bind (wpAny_pure (wpAny_bind ?_)))
 refine wpAny_nsSet1 (s:={ s with toks:=s.toks+1 }) I.ns λh' c g=>?_
 obtain⟨u,i,p,e,d,f⟩:=c.count (PySem.Within.cons name v t)
 refine wpAny_bind (wpAny_lookBehind e (by rw[d];exact pastItsLine_dict (ba f (by rw[bp];omega))) ?_)
 exact wpAny_pure (h _ ⟨(g.2 _ (Ne.symm I.ne)).trans I.obj,c,I.ne⟩ g)
theorem Vo {R:Result->Shared->Prop} {vs:List Value} {b:List (Str × Value)} (X:K.In s.heap) (e:W.makesIn K C=true)
  (hi:W.findIn K (.ref C) "__init__" = some (some (.ref f))) (c:W.typeIn K (.ref f)=some (.type "function"))
  (h:codeAny (model prog w) (A.under (.builtin "type.__call__" ⟨.ref C::vs,b⟩)) (.call (.ref f) ⟨.ref (s.heap.objs.size+1)::vs,b⟩) (W.InitBack (s.heap.objs.size+1) R)
   { s with heap:=(s.heap.push W.emptyDict).push (W.instObj C s.heap.objs.size) }) :
  codeAny (model prog w) A (.call (.ref C) ⟨vs,b⟩) R s:=by
 obtain⟨i,g,d,t,os⟩:=s
 exact W.make_core (W.makes_of X e) (W.looks_findIn X hi) (λa=>W.bind_fn X a c) (.inl rfl) h
end
def BV (f:Str) (v:V):List (Str × V)->List (Str × V)
 | []=>[(f,v)]
 | (g,x)::r=>if g=f then (g,v)::r else (g,x)::BV f v r
theorem Aj (f g:Str) (v:V):∀ fs:List (Str × V),(BV f v fs).lookup g=if g=f then some v else fs.lookup g
 | []=>by
  show List.lookup g [(f,v)]=_
  by_cases h:g=f
  ·have a:(g == f)=true:=beq_iff_eq.mpr h
   simp only[List.lookup,a,if_pos h]
  ·have a:(g == f)=false:=beq_eq_false_iff_ne.mpr h
   simp only[List.lookup,a,if_neg h]
 | (k,x)::r=>by
  have c:=Aj f g v r
  rw[show BV f v ((k,x)::r)=(if k=f then (k,v)::r else (k,x)::BV f v r) from rfl]
  by_cases b:k=f
  ·rw[if_pos b]
   by_cases h:g=k
   ·have a:(g == k)=true:=beq_iff_eq.mpr h
    simp only[List.lookup,a,if_pos (h.trans b)]
   ·have a:(g == k)=false:=beq_eq_false_iff_ne.mpr h
    simp only[List.lookup,a,if_neg (λe:g=f=>h (e.trans b.symm))]
  ·rw[if_neg b]
   by_cases h:g=k
   ·have a:(g == k)=true:=beq_iff_eq.mpr h
    simp only[List.lookup,a,if_neg (λe:g=f=>b (h.symm.trans e))]
   ·have a:(g == k)=false:=beq_eq_false_iff_ne.mpr h
    simp only[List.lookup,a]
    exact c
theorem KJ (f:Str) (v:V):∀ fs:List (Str × V),f∈(BV f v fs).map (·.1)/\∀ g,g∈fs.map (·.1)->g∈(BV f v fs).map (·.1)
 | []=>⟨by simp[BV],λg h=>by simp at h⟩
 | (k,x)::r=>by
  obtain⟨c,b⟩:=KJ f v r
  rw[show BV f v ((k,x)::r)=(if k=f then (k,v)::r else (k,x)::BV f v r) from rfl]
  by_cases a:k=f
  ·rw[if_pos a]
   subst a
   exact⟨by simp,λg h=>by simpa using h⟩
  ·rw[if_neg a]
   refine⟨?_,λg h=>?_⟩
   ·rw[cw]
    exact bq _ c
   ·rw[cw] at h |-
    rcases cf.mp h with e | e
    ·exact cf.mpr (.inl e)
    ·exact bq _ (b g e)
theorem Ke (f:Str) (v:V):∀ fs:List (Str × V),(BV f v fs).length<=fs.length+1
 | []=>by simp[BV]
 | (k,x)::r=>by
  have b:=Ke f v r
  rw[show BV f v ((k,x)::r)=(if k=f then (k,v)::r else (k,x)::BV f v r) from rfl]
  by_cases a:k=f
  ·rw[if_pos a,bp,bp];omega
  ·rw[if_neg a,bp,bp];omega
theorem HF.some_of {v:V} {o:Option Value} (r:HF (some v) o):∃ u,o=some u/\RelV v u:=by
 cases o with
 | none=>exact (show False from r).elim
 | some u=>exact⟨u,rfl,r⟩
theorem HF.none_of {o:Option Value} (r:HF none o):o=none:=by
 cases o with
 | none=>rfl
 | some u=>exact (show False from r).elim
theorem U5 {v:V} (r:RelV v u):W.handedIn u=true:=by
 cases v with
 | non=>cases (show u=Value.none from r);rfl
 | bl b=>cases (show u=Value.bool b from r);rfl
 | int i=>obtain⟨t,e⟩:=(show ∃ t,u=Value.int i t from r);cases e;rfl
 | str x=>obtain⟨t,e⟩:=(show ∃ t,u=Value.str x t from r);cases e;rfl
 | byt b=>obtain⟨t,e⟩:=(show ∃ t,u=Value.bytes b t from r);cases e;rfl
 | flt b=>obtain⟨t,e⟩:=(show ∃ t,u=Value.float b t from r);cases e;rfl
 | ref a=>cases (show u=Value.ref a from r);rfl
 | ty n=>cases (show u=Value.type n from r);rfl
section
variable {w:World} {fs pf:List (Str × V)}
theorem Kw (b:GK P w H h) (e:H a=some (.ins C dx fs)):∃ mA,Qe h a dx C mA/\(∀ f,HF (fs.lookup f) (mA f))/\PySem.Within mA (fs.map (·.1))/\fs.length<=1000/\H dx=some (.own a):=by
 obtain⟨d,z,ne,c,mA,n,r,q⟩:=(show CQ P w H h a (.ins C dx fs) from b a _ e)
 exact⟨mA,⟨c,n,ne⟩,r,q,z,d⟩
end
structure O4 (K:W.Frag) (C:Addr):Prop where
 pg:W.plainGet K C Str.empty=true
 hd:W.hasDictIn K C=true
 po:W.plainOver K C=true
 sa:W.findIn K (.ref C) "__setattr__" = some (some (.builtin "object.__setattr__"))
theorem O4.get {K:W.Frag} (c:O4 K C) (f:Str):W.plainGet K C f=true:=c.pg
def CZ (K:W.Frag) (C:Addr) (f:Str):Prop:=W.findIn K (.ref C) f=some none
theorem CZ.taker {K:W.Frag} {f:Str} (n:CZ K C f):W.takerIn K C f=some none:=by
 unfold W.takerIn
 rw[show W.findIn K (.ref C) f=some none from n]
 rfl
structure ZZ (K:W.Frag) (C:Addr) (f:Str) (v:V) (u:Value):Prop where
 at_:W.findIn K (.ref C) f=some (some u)
 rel:RelV v u
 get:W.specialIn K u "__get__" = some none
 cp:W.copiedNames.contains f=false
structure Meth (K:W.Frag) (C:Addr) (m:Str) (f:Addr):Prop where
 at_:W.findIn K (.ref C) m=some (some (.ref f))
 fn:W.isFn K (.ref f)=true
 kp:W.keepIn K (.ref f)=true
section
variable {fs:List (Str × V)} {f:Str} {v:V}
theorem Qv {b:Bool} (I:Inv X a8 σ H s) (e:H a=some (.ins C dx fs)) (c:O4 X.K C) (n:CZ X.K C f) (l:fs.lookup f=some v)
  (h:∀ u s',Inv X a8 σ H s'->RelV v u->Q u s'):wpAny (model X.prog X.w) A (getAttr (.ref a) f b) Q E s:=by
 obtain⟨i,O,r,_,_,_⟩:=Kw I.hok e
 obtain⟨u,g,d⟩:=HF.some_of (v:=v) (o:=i f) (by rw[<-l];exact r f)
 exact Y9 I.HH O (c.get f) c.hd n g (U5 d) (h u _ (I.tok _) d)
theorem Fw {m:Str} {g:Addr} {pl:Sem Bool} {Q:Value × List Value->Shared->Prop} (I:Inv X a8 σ H s) (e:H a=some (.ins C dx fs)) (c:O4 X.K C) (k:Meth X.K C m g) (l:fs.lookup m=none)
  (h:Q (.ref g,[.ref a]) s):wpAny (model X.prog X.w) A (getMethod (.ref a) m pl) Q E s:=by
 obtain⟨d,O,r,_,_,_⟩:=Kw I.hok e
 have b:d m=none:=HF.none_of (by rw[<-l];exact r m)
 exact WY I.HH O (c.get m) k.at_ k.fn b h
theorem Qx {y:V} {Q:Unit->Shared->Prop} (I:Inv X a8 σ H s) (e:H a=some (.ins C dx fs)) (c:O4 X.K C) (n:CZ X.K C f) (hl:fs.length<1000) (t:RelV y u)
  (h:∀ s',Inv X a8 σ (upd H a (.ins C dx (BV f y fs))) s'->Q () s'):wpAny (model X.prog X.w) A (setAttr (.ref a) f u) Q E s:=by
 obtain⟨i,O,r,j,_,k⟩:=Kw I.hok e
 have p:(fs.map (·.1)).length<=sizeLine:=by rw[af,sizeLine_eq];omega
 refine ZX I.HH O c.sa c.po n.taker c.hd j p λm d l=>h _ ?_
 have B:∃ o,m.get? dx=some o:=let ⟨o,_,_,w,_⟩:=d.ns;⟨o,w⟩
 refine I.write (x:=a) (e:=dx) (by rw[e];exact True.intro) (.inr k) (λb q v z=>(l.2 b v).trans z) B ?_
 refine⟨by rw[Aw O.ne];exact k,?_,O.ne,d.obj,_,d.ns,λg=>?_,λg D=>?_⟩
 ·have:=Ke f y fs;omega
 ·show HF ((BV f y fs).lookup g) (if g=f then some u else i g)
  rw[Aj]
  by_cases q:g=f
  ·rw[if_pos q,if_pos q];exact t
  ·rw[if_neg q,if_neg q];exact r g
 ·by_cases q:g=f
  ·rw[q];exact (KJ f y fs).1
  ·refine (KJ f y fs).2 g (j g λz=>D ?_)
   show (if g=f then some u else i g)=none
   rw[if_neg q];exact z
theorem Inv.made (I:Inv X a8 σ H s):Inv X a8 σ (upd (upd H s.heap.objs.size (.own (s.heap.objs.size+1))) (s.heap.objs.size+1) (.ins C s.heap.objs.size []))
  { s with heap:=(s.heap.push W.emptyDict).push (W.instObj C s.heap.objs.size) }:=by
 have c:(s.heap.push W.emptyDict).get? s.heap.objs.size=some W.emptyDict:=Heap.get?_push_size s.heap rfl
 have h:((s.heap.push W.emptyDict).push (W.instObj C s.heap.objs.size)).get? (s.heap.objs.size+1)=some (W.instObj C s.heap.objs.size):=by
  have:=Heap.get?_push_size (s.heap.push W.emptyDict) (o:=W.instObj C s.heap.objs.size) rfl
  rwa [Heap.size_push] at this
 have f:(s.heap.push W.emptyDict).Ns s.heap.objs.size (λ_=>none):=⟨W.emptyDict,#[],_,c,rfl,(λe i=>absurd i (by simp)),λ_=>rfl⟩
 have g:=I.laid (a:=s.heap.objs.size) (o:=.own (s.heap.objs.size+1)) (h':=s.heap.push W.emptyDict) (t':=s.toks) (λb u q=>Heap.get?_push_of_some _ q) (ah _) ⟨_,c⟩
 refine g.laid (a:=s.heap.objs.size+1) (o:=.ins C s.heap.objs.size []) (t':=s.toks) (λb u q=>Heap.get?_push_of_some _ q) (Nat.le_of_eq (Heap.size_push _ _)) ?_
 have ne:s.heap.objs.size ≠ s.heap.objs.size+1:=br (ij _)
 refine⟨by rw[Aw ne,Ak],dA _,ne,h,λ_=>none,(Heap.Ns1.of_empty f).at λo q=>Heap.get?_push_of_some _ q,λ_=>True.intro,λy d=>absurd rfl d⟩
theorem Yl {w:World} {a:Env} {f:Str} (b:attributeBase e f a (eval e a)=eval e a)
  (h:wpAny (model prog w) A (eval e a) (λo s₁=>wpAny (model prog w) A (getAttr o f true) Q E s₁) E s):wpAny (model prog w) A (eval (.Attribute e f pos) a) Q E s :=
 Attribute_any_ h (by rw[arm_eval_Attribute,b])
end
inductive ak (K:W.Frag) (f:Str) (Q:VK) (x:V) (H1:Hp):Prop
 | mk (a C dx fs v:_):x=.ref a->H1 a=some (.ins C dx fs)->O4 K C->CZ K C f->fs.lookup f=some v->Q v H1->ak K f Q x H1
def lN (K:W.Frag) (ta:TE) (f:Str):TE:=λσ H Q=>ta σ H λx H1=>ak K f Q x H1
inductive ao (K:W.Frag) (f:Str) (D:Ends) (σ:St) (y:V) (x:V) (H2:Hp):Prop
 | mk (a C dx fs:_):x=.ref a->H2 a=some (.ins C dx fs)->O4 K C->CZ K C f->fs.length<1000->D.nx σ (upd H2 a (.ins C dx (BV f y fs)))->ao K f D σ y x H2
def xR (K:W.Frag) (ta tv:TE) (f:Str):TS:=λD σ H=>tv σ H λy H1=>ta σ H1 λx H2=>ao K f D σ y x H2
section
variable {o value:Expr} {f:Str} {ll lf:Pos} {tv:TE}
theorem Bc (m:PE X e ta) (d:attributeBase e f X.env (eval e X.env)=eval e X.env):PE X (.Attribute e f pos) (lN X.K ta f):=by
 intro k s σ H Q I h
 refine Yl d (CK (m k s σ H _ I h) λu w j=>?_)
 obtain⟨x,g,i,o,a,C,y,fs,v,t,p,c,n,l,q⟩:=j
 subst t
 obtain rfl:u=Value.ref a:=o
 exact Qv i p c n l λz A r b=>⟨v,g,r,b,q⟩
theorem Cv (g:PE X o ta) (A:PE X value tv) (k:swapsWith value (some (.Attribute o f ll)) pos.line X.env=pure false):PS X (.Assign [.Attribute o f ll] value pos) (xR X.K ta tv f):=by
 intro b s σ H D I h
 refine plainObj_wpAny_Assign_Attribute (CK (A b s σ H _ I h) λu e ⟨y,j,m,i,q⟩=>CK (g b e σ j _ m q) λd E ⟨x,B,v,w,a,C,F,fs,z,t,c,n,l,p⟩=>?_) k
 subst z
 obtain rfl:d=Value.ref a:=w
 exact Qx v t c n l i λG r=>⟨σ,_,r,p⟩
end
section
variable {c:Value} {b:Bool}
inductive Jh (K:W.Frag) (H:Hp):V->Value->Prop where
 | non:Jh K H .non (.type "NoneType")
 | bl (x:Bool):Jh K H (.bl x) (.type "bool")
 | int (i:Int):Jh K H (.int i) (.type "int")
 | str (x:Str):Jh K H (.str x) (.type "str")
 | flt (x:UInt64):Jh K H (.flt x) (.type "float")
 | lst {a:Addr} {xs:List V} (e:H a=some (.lst xs)):Jh K H (.ref a) (.type "list")
 | frz {a:Addr} {o:Obj} {xs:List V} (e:H a=some (.frz o (.lst xs))):Jh K H (.ref a) (.type "list")
 | tup {a:Addr} {xs:List V} (e:H a=some (.tup xs)):Jh K H (.ref a) (.type "tuple")
 | dK {a:Addr} {kvs:List (Key × V)} (e:H a=some (.dK kvs)):Jh K H (.ref a) (.type "dict")
 | dT {a:Addr} {kvs:List (List Key × V)} (e:H a=some (.dT kvs)):Jh K H (.ref a) (.type "dict")
 | ins {a C dx:Addr} {fs:List (Str × V)} (e:H a=some (.ins C dx fs)) (cl:O4 K C) (ha:W.findIn K (.ref C) "__class__" = some (some (.builtin "object.__class__")))
   (hn:W.specialIn K (.builtin "object.__class__") "__get__" = some (some (.builtin "getset_descriptor.__get__"))) (VY:W.takesIn K (.builtin "object.__class__")=some true)
   (hm:W.mroIn K C (.type "object")=some true):Jh K H (.ref a) (.ref C)
theorem Ui {x:V} {t:Value} (I:Inv X a8 σ H s) (d:RelV x u) (G:Jh X.K H x t) (e:W.kitOne X.K t c=some b) (h:∀ tk,Q (.bool b) { s with toks:=tk }) :
  wpAny (model X.prog X.w) A (call (.builtin "isinstance") [u,c]) Q E s:=by
 cases G with
 | non=>cases (show u=Value.none from d);exact W.kia_one W.kitx_none I.HH True.intro e (λz=>nomatch z) h
 | bl y=>cases (show u=Value.bool y from d);exact W.kia_one W.kitx_bool I.HH True.intro e (λz=>nomatch z) h
 | int i=>obtain⟨t,q⟩:=(show ∃ t,u=Value.int i t from d);cases q;exact W.kia_one W.kitx_int I.HH True.intro e (λz=>nomatch z) h
 | str y=>obtain⟨t,q⟩:=(show ∃ t,u=Value.str y t from d);cases q;exact W.kia_one W.kitx_str I.HH True.intro e (λz=>nomatch z) h
 | flt y=>obtain⟨t,q⟩:=(show ∃ t,u=Value.float y t from d);cases q;exact W.kia_one W.kitx_float I.HH True.intro e (λz=>nomatch z) h
 | @lst a k f =>
  cases (show u=Value.ref a from d)
  obtain⟨_,_,n,_,g⟩:=(show CQ X.prog X.w H s.heap a (.lst k) from I.hok a _ f)
  exact W.kia_one W.kitx_list I.HH ⟨_,g,rfl⟩ e (λz=>nomatch z) h
 | @frz a B k f =>
  cases (show u=Value.ref a from d)
  obtain⟨_,_,_,n,_,g⟩:=(show CQ X.prog X.w H s.heap a (.frz B (.lst k)) from I.hok a _ f)
  exact W.kia_one W.kitx_list I.HH ⟨_,g,rfl⟩ e (λz=>nomatch z) h
 | @tup a k f =>
  cases (show u=Value.ref a from d)
  obtain⟨_,_,_,p⟩:=(show CQ X.prog X.w H s.heap a (.tup k) from I.hok a _ f)
  obtain⟨o,g,l,_⟩:=p
  exact W.kia_one W.kitx_tuple I.HH ⟨o,g,l⟩ e (λz=>nomatch z) h
 | @dK a j f =>
  cases (show u=Value.ref a from d)
  obtain⟨_,_,L,_,p⟩:=(show CQ X.prog X.w H s.heap a (.dK j) from I.hok a _ f)
  obtain⟨o,K,F,g,l,_⟩:=p
  exact W.kia_one W.kitx_dict I.HH ⟨o,g,l.1⟩ e (λz=>nomatch z) h
 | @dT a j f =>
  cases (show u=Value.ref a from d)
  obtain⟨_,_,k,_,o,K,F,g,l,_⟩:=(show CQ X.prog X.w H s.heap a (.dT j) from I.hok a _ f)
  exact W.kia_one W.kitx_dict I.HH ⟨o,g,l.1⟩ e (λz=>nomatch z) h
 | @ins a C P fs f m v r w D =>
  cases (show u=Value.ref a from d)
  obtain⟨N,O,_⟩:=Kw I.hok f
  obtain⟨M,J,_⟩:=O.look
  exact W.kia_one (W.kitx_own (m.get _) m.hd v r w D) I.HH J e (λz=>nomatch z) h
end
structure Az (k:Nat) (A:Around):Prop where
 hd:A.handled=none
 dp:A.depth+3 * k+5<recursionLimit
 un:A.units+16 * k+200<cLine
theorem Az.mono {k:Nat} (r:Az k A) (h:j<=k):Az j A:=⟨r.hd,by have:=r.dp;omega,by have:=r.un;omega⟩
theorem ad {k:Nat} (r:Az k A) (h:j<=k:=by decide):Az j A:=r.mono h
theorem Az.deeper {k:Nat} (r:Az (k+1) A) (a:Env):Az k (A.deeper a) :=
 ⟨r.hd,by have:=r.dp;show A.depth+1+3 * k+5<_;omega,by have:=r.un;show A.units+3+16 * k+200<_;omega⟩
theorem RW {us:List Value} {a:List (Str × Value)}:(A.under (.builtin "type.__call__" ⟨.ref C::us,a⟩)).depth=A.depth+1:=by
 first | rfl | simp[Around.under,Code.weight,Code.isCreation,Code.isGuard,Code.isCaller,Code.frames,Code.isFrame,guardIds]
theorem Qi {us:List Value} {a:List (Str × Value)}:(A.under (.builtin "type.__call__" ⟨.ref C::us,a⟩)).units=A.units+1:=by
 first | rfl | simp[Around.under,Code.cUnits,Code.frames,Code.isFrame]
theorem Az.make {k:Nat} (r:Az (k+1) A) (C:Addr) (us:List Value) (a:List (Str × Value)):Az k (A.under (.builtin "type.__call__" ⟨.ref C::us,a⟩)) :=
 ⟨r.hd,by have:=r.dp;rw[RW];omega,by have:=r.un;rw[Qi];omega⟩
theorem Az.depth {k:Nat} (r:Az k A):A.depth<recursionLimit:=by have:=r.dp;omega
theorem Az.units {k:Nat} (r:Az k A):A.units+64<cLine:=by have:=r.un;omega
def pX:TA:=λ_ H Q=>Q [] H
def cT (ta:TE) (tr:TA):TA:=λσ H Q=>ta σ H λx H1=>tr σ H1 λxs H2=>Q (x::xs) H2
section
variable {t:TA}
theorem Ab:PA X [] pX:=λ_ _ _ _ H Q I h=>Calls.spliced_nil ⟨[],H,I,.nil,h⟩
theorem Aa (g:PE X e te) (i:PA X es t) (k:starEach (e::es) X.env=(false,eval e X.env)::starEach es X.env:=by rfl):PA X (e::es) (cT te t):=by
 intro a b s σ H Q I h
 rw[k]
 show wpAny _ _ (spliced ((false,eval e X.env)::backTo a (starEach es X.env))) _ _ s
 refine Calls.spliced_cons (CK (g b s σ H _ I h) λu f l=>?_)
 obtain⟨x,j,o,p,n⟩:=l
 exact CK (i a b f σ j _ o n) λv w ⟨q,c,r,d,m⟩=>⟨x::q,c,r,.cons p d,m⟩
def ue (t:TA):TE:=λσ H Q=>t σ H λxs H1=>xs.length<=sizeLine/\∀ p,H1 p=none->Q (.ref p) (upd H1 p (.tup xs))
def zG (t:TA):TE:=λσ H Q=>t σ H λxs H1=>xs.length<=sizeLine/\∀ p,H1 p=none->Q (.ref p) (upd H1 p (.lst xs))
theorem Cm {x1} (h:PA X es t):PE X (.Tuple es x1 pos) (ue t):=by
 intro i s σ H Q I j
 refine wpAny_Tuple_spliced (CK (h pos i s σ H _ I j) λf a ⟨k,c,d,r,z,q⟩=>⟨by rw[<-r.length];exact z,?_⟩)
 have g:c a.heap.objs.size=none:=d.hok.fresh (ah _)
 refine⟨.ref a.heap.objs.size,upd c a.heap.objs.size (.tup k),d.laid (t':=a.toks) (λb u e=>Heap.get?_push_of_some _ e) (ah _) ?_,rfl,q _ g⟩
 exact⟨z,f,r,⟨_,Heap.get?_push_size _ rfl,rfl,_,rfl⟩⟩
theorem Eb (h:PA X es t):PE X (.List es pos) (zG t):=by
 intro i s σ H Q I j
 refine wpAny_List_spliced (CK (h pos i s σ H _ I j) λf a ⟨k,c,d,r,z,q⟩=>⟨by rw[<-r.length];exact z,?_⟩)
 have g:c a.heap.objs.size=none:=d.hok.fresh (ah _)
 refine⟨.ref a.heap.objs.size,upd c a.heap.objs.size (.lst k),d.laid (t':=a.toks) (λb u e=>Heap.get?_push_of_some _ e) (ah _) ?_,rfl,q _ g⟩
 exact⟨z,f,0,r,Heap.get?_push_size _ rfl⟩
end
abbrev Sp:=List V->Hp->VK->XK->Prop
abbrev QZ:=List Env->Hp->Shared->XK->Value->Shared->Prop
structure Pq (P:Program) (w:World) (K:W.Frag) (mg:Str->Option Value) (base:Heap) (A:Around) (outer:List Env) (s:Shared) (H:Hp):Prop where
 frames:A.frames=some outer
 mod:Mod K mg base
 bs:∀ b o,base.get? b=some o->s.heap.get? b=some o/\H b=none
 bsz:base.objs.size<=s.heap.objs.size
 J3:s.heap.FunFrames base outer
 frf:∀ b∈frs outer,H b=none
 hok:GK P w H s.heap
 bare:AllBare s.gens
inductive CE (outer:List Env) (P:Program) (w:World) (H:Hp) (s:Shared) (Q:VK) (u:Value) (s':Shared):Prop
 | mk (v H':_):s'.os=s.os->AllBare s'.gens->Un (frs outer) [] H H' s.heap s'.heap->GK P w H' s'.heap->RelV v u->Q v H'->CE outer P w H s Q u s'
def CR (CX:QZ) (outer:List Env) (P:Program) (w:World) (H:Hp) (s:Shared) (Q:VK) (E:XK) (r:Result) (s':Shared):Prop :=
 match r with
 | .ok (.ret u)=>CE outer P w H s Q u s'
 | .ok _=>False
 | .error e=>CX outer H s E e s'
structure Ao (P:Program) (w:World) (K:W.Frag) (mg:Str->Option Value) (base:Heap) (CX:QZ) (k:Nat) (f:Addr) (fd:FuncData) (ps:List Str) (sp:Sp):Prop where
 len:∀ vs H Q E,sp vs H Q E->vs.length=ps.length
 run:∀ (A:Around) (outer:List Env) (s:Shared) (H:Hp) (args:Args) (us:List Value) (vs:List V) (Q:VK) (E:XK),Az k A->Pq P w K mg base A outer s H->BindsTo s fd args (ps.zip us)->Vals vs us->sp vs H Q E ->
  codeAny (model P w) A (.call (.ref f) args) (CR CX outer P w H s Q E) s
theorem Pq.make {w:World} {K:W.Frag} {a:List Env} (e:Pq P w K mg base A a s H) (C:Addr) (us:List Value) (b:List (Str × Value)) :
  Pq P w K mg base (A.under (.builtin "type.__call__" ⟨.ref C::us,b⟩)) a s H:=⟨by first | exact e.frames | (simpa [Around.under,Code.envs,Code.isFrame,pushEnvs] using e.frames),e.mod,e.bs,e.bsz,e.J3,e.frf,e.hok,e.bare⟩
section
variable {s':Shared}
theorem Inv.env0 (I:Inv X a8 σ H s):Pq X.prog X.w X.K X.mg X.base X.A X.stack s H :=
 ⟨I.ok.frames,I.ok.mod,I.bs,ba I.ok.bsz I.sz,I.stack,I.Il,I.hok,I.bare⟩
theorem Inv.after {Q:VK} (I:Inv X a8 σ H s) (h:CE X.stack X.prog X.w H s Q u s'):EP X a8 σ Q u s':=by
 obtain⟨v,f,os,a,un,c,r,q⟩:=h
 obtain⟨e,g,d,t,i⟩:=s'
 obtain rfl:i=s.os:=os
 exact⟨v,f,I.call (h':=e) (g':=g) (d':=d) (t':=t) (ch:=[]) un c a (λb z=>absurd z (by simp)),r,q⟩
end
def bh (sp:Sp) (dvs:List V) (E:XK) (t:TA):TE:=λσ H Q=>t σ H λvs H1=>sp (vs++dvs) H1 Q E
inductive YM (C:Addr) (m:Str) (sp:Sp) (dvs:List V) (E:XK) (t:TA) (σ:St) (Q:VK) (x:V) (H1:Hp):Prop
 | mk (a dx fs:_):x=.ref a->H1 a=some (.ins C dx fs)->fs.lookup m=none->(t σ H1 λvs H2=>sp (x::(vs++dvs)) H2 Q E)->YM C m sp dvs E t σ Q x H1
def Xa (C:Addr) (m:Str) (sp:Sp) (dvs:List V) (E:XK) (ta:TE) (t:TA):TE:=λσ H Q=>ta σ H λx H1=>YM C m sp dvs E t σ Q x H1
def kW (C:Addr) (sp:Sp) (dvs:List V) (E:XK) (t:TA):TE:=λσ H Q=>t σ H λvs H1=>∀ x dx,H1 x=none->H1 dx=none->dx ≠ x ->
 sp (.ref x::(vs++dvs)) (upd (upd H1 dx (.own x)) x (.ins C dx [])) (λv H2=>v=.non/\Q (.ref x) H2) E
def Binds (K:W.Frag) (fd:FuncData) (ps:List Str) (ds:List Value):Prop :=
 ∀ (s:Shared) (us:List Value),K.In s.heap->(us++ds).length=ps.length->BindsTo s fd ⟨us,[]⟩ (ps.zip (us++ds))
theorem Binds.all {K:W.Frag} (h:∀ us:List Value,us.length=ps.length->bindArgs fd ⟨us,[]⟩=pure (ps.zip us)):Binds K fd ps []:=λs us _ hl=>by
 rw[dS] at hl |-
 exact .of_eq (h us hl)
def Gh (CX:QZ) (X:Cx) (E:XK):Prop:=∀ (a8:List (Addr × Obj)) (σ:St) (H:Hp) (s:Shared) (e:Value) (s':Shared),Inv X a8 σ H s->CX X.stack H s E e s'->X.xe e s'
section
variable {CX:QZ} {k:Nat} {sp:Sp} {dvs:List V} {ds:List Value} {E:XK} {m:Str} {o:Expr} {t:TA}
theorem KH {Q:VK} {us:List Value} (F:Ao X.prog X.w X.K X.mg X.base CX k f fd ps sp) (l:Az k X.A) (j:Binds X.K fd ps ds) (c:Vals dvs ds) (d:Gh CX X E)
  (I:Inv X a8 σ H s) (r:Vals vs us) (h:sp (vs++dvs) H Q E):wpAny (model X.prog X.w) X.A (call (.ref f) us) (EP X a8 σ Q) X.xe s:=by
 have b:Vals (vs++dvs) (us++ds):=r.append c
 have hl:(us++ds).length=ps.length:=by rw[<-b.length];exact F.len _ _ _ _ h
 refine wpAny_call (codeAny_mono (F.run X.A X.stack s H ⟨us,[]⟩ (us++ds) (vs++dvs) Q E l I.env0 (j s us I.HH hl) b h) λr i a=>?_)
 cases r with
 | error e=>exact d a8 σ H s e i I a
 | ok g =>
  cases g with
  | ret u=>exact I.after a
  | next=>exact False.elim a
  | brk=>exact False.elim a
  | cont=>exact False.elim a
theorem Al (F:Ao X.prog X.w X.K X.mg X.base CX k f fd ps sp) (i:Az k X.A) (l:Gl X x) (n:X.mg x=some (.ref f)) (u:W.keepIn X.K (.ref f)=true) (g:Binds X.K fd ps ds) (j:Vals dvs ds) (d:Gh CX X E)
  (c:PA X (e::es) t) (o:(x == ("__debug__" : Str))=false:=by decide) (v:starEach (e::es) X.env=(false,eval e X.env)::starEach es X.env:=by rfl) (a:(backTo pos (starEach es X.env)).any (·.1)=false:=by rfl) :
  PE X (.Call (.Name x p) (e::es) [] pos) (bh sp dvs E t):=by
 intro m s σ H Q I h
 refine wpAny_Call_Name_kw (Jy I l n ?_ o)
 refine W.callWith_K (h₀:=X.base) I.ok.mod.kin u (CK (c pos m s σ H _ I h) λy w ⟨A,z,b,r,q⟩=>⟨b.HH,?_⟩) v a
 exact KH F i g j d b r q
theorem Bp {pl:Sem Bool} (A:PE X o ta) (c:O4 X.K C) (i:Meth X.K C m f) (F:Ao X.prog X.w X.K X.mg X.base CX k f fd ps sp) (J:Az k X.A) (v:Binds X.K fd ps ds) (L:Vals dvs ds) (D:Gh CX X E) (p:PA X (e::es) t)
  (b:starEach (e::es) X.env=(false,eval e X.env)::starEach es X.env:=by rfl) (d:(backTo pos (starEach es X.env)).any (·.1)=false:=by rfl)
  (G:eval (.Call (.Attribute o m d6) (e::es) [] pos) X.env=(do
   let ov <-eval o X.env
   standAt d6.atName
   let (f,first) <-holding [ov] (getMethod ov m pl)
   callWith pos f first (backTo pos (starEach (e::es) X.env)) (backToKw pos (keywordEach [] X.env))):=by rfl) :
  PE X (.Call (.Attribute o m d6) (e::es) [] pos) (Xa C m sp dvs E ta t):=by
 intro g s σ H Q I h
 refine W.methodCall_KW (pl:=pl) (CK (A g s σ H _ I h) λu B ⟨x,K,n,y,a,P,fs,z,M,l,q⟩=>?_) G
 subst z
 obtain rfl:u=Value.ref a:=y
 refine Fw n M c i l ?_
 refine W.callWith_K (first:=[.ref a]) (h₀:=X.base) I.ok.mod.kin i.kp (CK (p pos g B σ K _ n q) λus N ⟨vs,O,j,r,w⟩=>⟨j.HH,?_⟩) b d
 exact KH (us:=.ref a::us) (vs:=.ref a::vs) F J v L D j (.cons rfl r) w
theorem Bo {pl:Sem Bool} (w:PE X o ta) (c:O4 X.K C) (d:Meth X.K C m f) (F:Ao X.prog X.w X.K X.mg X.base CX k f fd ps sp) (n:Az k X.A) (j:Binds X.K fd ps ds) (p:Vals dvs ds) (g:Gh CX X E)
  (i:eval (.Call (.Attribute o m d6) [] [] pos) X.env=(do
   let ov <-eval o X.env
   standAt d6.atName
   let (f,first) <-holding [ov] (getMethod ov m pl)
   callWith pos f first (backTo pos (starEach [] X.env)) (backToKw pos (keywordEach [] X.env))):=by rfl) :
  PE X (.Call (.Attribute o m d6) [] [] pos) (Xa C m sp dvs E ta pX):=by
 intro r s σ H Q I h
 refine W.methodCall_KW (pl:=pl) (CK (w r s σ H _ I h) λu y ⟨x,z,b,v,a,A,fs,e,t,l,q⟩=>?_) i
 subst e
 obtain rfl:u=Value.ref a:=v
 refine Fw b t c d l ?_
 exact W.callWith_K0 (first:=[.ref a]) b.HH d.kp (KH (us:=[.ref a]) (vs:=[.ref a]) F n j p g b (.cons rfl .nil) q)
structure Mk (K:W.Frag) (C f:Addr):Prop where
 makes:W.makesIn K C=true
 init:W.findIn K (.ref C) "__init__" = some (some (.ref f))
 fn:W.isFn K (.ref f)=true
 kp:W.keepIn K (.ref C)=true
theorem Wy {Q:VK} {us:List Value} (M:Mk X.K C f) (F:Ao X.prog X.w X.K X.mg X.base CX k f fd ps sp) (o:Az (k+1) X.A) (n:Binds X.K fd ps ds) (q:Vals dvs ds)
  (j:Gh CX X E) (I:Inv X a8 σ H s) (r:Vals vs us)
  (h:∀ x dx,H x=none->H dx=none->dx ≠ x->sp (.ref x::(vs++dvs)) (upd (upd H dx (.own x)) x (.ins C dx [])) (λv H2=>v=.non/\Q (.ref x) H2) E) :
  wpAny (model X.prog X.w) X.A (call (.ref C) us) (EP X a8 σ Q) X.xe s:=by
 have d:=h (s.heap.objs.size+1) s.heap.objs.size (I.hok.fresh (iN _)) (I.hok.fresh (ah _)) (br (ij _))
 have b:=Inv.made (C:=C) I
 have c:Vals (V.ref (s.heap.objs.size+1)::(vs++dvs)) (Value.ref (s.heap.objs.size+1)::(us++ds)):=.cons rfl (r.append q)
 have hl:(Value.ref (s.heap.objs.size+1)::us++ds).length=ps.length:=by
  have e:=c.length
  rw[F.len _ _ _ _ d] at e
  exact e.symm
 refine wpAny_call (Vo (f:=f) I.HH M.makes M.init (beq_iff_eq.mp M.fn) (codeAny_mono (F.run _ X.stack _ _ ⟨Value.ref (s.heap.objs.size+1)::us,[]⟩ (Value.ref (s.heap.objs.size+1)::(us++ds)) _ _ E (o.make C us [])
  (b.env0.make C us []) (n _ (Value.ref (s.heap.objs.size+1)::us) b.HH hl) c d) λr m a=>?_))
 cases r with
 | error e=>exact j a8 σ _ _ e m b a
 | ok l =>
  cases l with
  | ret u =>
   obtain⟨v,i,t,w,p,g⟩:=b.after a
   subst p
   exact⟨w,⟨V.ref (s.heap.objs.size+1),i,t,rfl,g⟩⟩
  | next=>exact False.elim a
  | brk=>exact False.elim a
  | cont=>exact False.elim a
theorem Ib (M:Mk X.K C f) (F:Ao X.prog X.w X.K X.mg X.base CX k f fd ps sp) (i:Az (k+1) X.A) (l:Gl X x) (n:X.mg x=some (.ref C)) (g:Binds X.K fd ps ds) (j:Vals dvs ds) (d:Gh CX X E)
  (c:PA X (e::es) t) (o:(x == ("__debug__" : Str))=false:=by decide) (u:starEach (e::es) X.env=(false,eval e X.env)::starEach es X.env:=by rfl) (a:(backTo pos (starEach es X.env)).any (·.1)=false:=by rfl) :
  PE X (.Call (.Name x p) (e::es) [] pos) (kW C sp dvs E t):=by
 intro m s σ H Q I h
 refine wpAny_Call_Name_kw (Jy I l n ?_ o)
 refine W.callWith_K (h₀:=X.base) I.ok.mod.kin M.kp (CK (c pos m s σ H _ I h) λw v ⟨z,y,b,r,q⟩=>⟨b.HH,?_⟩) u a
 exact Wy M F i g j d b r q
end
section
variable {CX:QZ} {k:Nat} {ks:List Str} {sp:Sp} {E:XK} {m:Str} {kpos:Pos} {o:Expr} {kws:List Keyword} {t tk:TA} {nm:Option Str}
variable {g:List Value->List Value->List Value} {gV:List V->List V->List V}
end
structure Av (N P:List Str) (sc:Scope):Prop where
 kind:sc.kind=.function
 co:sc.isCoroutine=false
 gen:sc.isGenerator=false
 nd:N.Nodup
 pre:N.take P.length=P
 par:∀ x∈P,sc.names.lookup x=some .local \/ sc.names.lookup x=some .cell
 nofree:∀ y∈sc.names,y.2 ≠ .free
theorem Bh {N P:List Str} {h:Scope} (a:h.kind=.function:=by rfl) (b:h.isCoroutine=false:=by rfl) (c:h.isGenerator=false:=by rfl) (d:N.Nodup:=by decide) (e:N.take P.length=P:=by rfl) (f:∀ x∈P,h.names.lookup x=some .local \/ h.names.lookup x=some .cell:=by decide) (g:∀ y∈h.names,y.2 ≠ .free:=by decide):Av N P h:=⟨a,b,c,d,e,f,g⟩
theorem NQ {kindOf:Str->Option NameKind}:∀ {binds:List (Str × Value)} {m:Str->Option Value},(∀ v,(x,v) ∉ binds)->bindL kindOf binds m x=m x
 | [],_,_=>rfl
 | (n,v)::r,m,h=>by
  unfold bindL
  rw[NQ λw a=>h w (bq _ a)]
  split
  ·have:x ≠ n:=by rintro rfl;exact h v ce
   simp[this]
  ·rfl
theorem Ng {kindOf:Str->Option NameKind}:∀ {binds:List (Str × Value)} {m:Str->Option Value},(∀ v,(x,v) ∉ binds)->bindC kindOf binds m x=m x
 | [],_,_=>rfl
 | (n,v)::r,m,h=>by
  unfold bindC
  rw[Ng λw a=>h w (bq _ a)]
  split
  ·rfl
  ·have:x ≠ n:=by rintro rfl;exact h v ce
   simp[this]
theorem Nt {kindOf:Str->Option NameKind} {v:Value}:∀ {P:List Str} {vs:List Value} {i:Nat} {m:Str->Option Value},P.Nodup->P[i]? = some x->vs[i]? = some v->kindOf x=some .local ->
  bindL kindOf (P.zip vs) m x=some v
 | [],_,_,_,_,h,_,_=>by simp at h
 | _::_,[],_,_,_,_,h,_=>by simp at h
 | p::P,w::vs,0,m,c,b,a,d=>by
  simp at b a;subst b;subst a
  show bindL kindOf ((p,w)::P.zip vs) m p=_
  unfold bindL
  rw[NQ λv e=>(gy.mp c).1 (List.of_mem_zip e).1,if_pos d]
  simp
 | p::P,w::vs,i+1,m,c,b,a,d=>by
  show bindL kindOf ((p,w)::P.zip vs) m x=_
  unfold bindL
  exact Nt (i:=i) (List.nodup_cons.mp c).2 (by simpa using b) (by simpa using a) d
theorem Nm {kindOf:Str->Option NameKind} {v:Value}:∀ {P:List Str} {vs:List Value} {i:Nat} {m:Str->Option Value},P.Nodup->P[i]? = some x->vs[i]? = some v->kindOf x ≠ some .local ->
  bindC kindOf (P.zip vs) m x=some v
 | [],_,_,_,_,h,_,_=>by simp at h
 | _::_,[],_,_,_,_,h,_=>by simp at h
 | p::P,w::vs,0,m,c,b,a,d=>by
  simp at b a;subst b;subst a
  show bindC kindOf ((p,w)::P.zip vs) m p=_
  unfold bindC
  rw[Ng λv e=>(gy.mp c).1 (List.of_mem_zip e).1,if_neg d]
  simp
 | p::P,w::vs,i+1,m,c,b,a,d=>by
  show bindC kindOf ((p,w)::P.zip vs) m x=_
  unfold bindC
  exact Nm (i:=i) (List.nodup_cons.mp c).2 (by simpa using b) (by simpa using a) d
def start (N:List Str) (vs:List V):St:=vs.map some++List.replicate (N.length - vs.length) none
def KR (CX:QZ) (P:Program) (w:World) (K:W.Frag) (mg:Str->Option Value) (base:Heap) (N:List Str) (qual:Str) (scope:Scope) (f:Addr) (cd:Value) (A:Around) (outer:List Env) (s:Shared) (H:Hp) (E:XK):Cx where
 prog:=P
 w:=w
 K:=K
 mg:=mg
 base:=base
 A:=A.deeper (envOfC qual scope s.heap.objs.size f cd)
 N:=N
 s₀:=s
 H₀:=H
 env:=envOfC qual scope s.heap.objs.size f cd
 outer:=outer
 stack:=envOfC qual scope s.heap.objs.size f cd::outer
 ex:=[]
 calm:=true
 fn:=λ_=>true
 pn:=[]
 xe:=λe s'=>wpAny (model P w) (A.deeper (envOfC qual scope s.heap.objs.size f cd)) (leaving (envOfC qual scope s.heap.objs.size f cd) e) (λ_ BF=>CX outer H s E e BF) (λe' BF=>CX outer H s E e' BF) s'
theorem QX {a:Scope} (h:a.names.lookup x=some .cell):∃ c,(cellsFrom n a.names []).lookup x=some c:=by
 have q:=W.cellsFrom_some a.names n [] (.inl h)
 exact fh.mp q
theorem Uy {CX:QZ} {w:World} {K:W.Frag} {N:List Str} {C:Value} {d:List Env} {I:Shared} {E:XK} {us:List Value}
  (S:Av N ps scope) (M:A.handled=none) (j:Pq P w K mg base A d s H) (hl:vs.length=ps.length) (r:Vals vs us)
  (x:InCallC s s.heap.objs.size (bindL (envOfC qual scope s.heap.objs.size f C).kindOf (ps.zip us) λ_=>none) (cellsFrom (s.heap.objs.size+1) scope.names []) (bindC (envOfC qual scope s.heap.objs.size f C).kindOf (ps.zip us) λ_=>none) I) :
  Inv (KR CX P w K mg base N qual scope f C A d s H E) [] (start N vs) H I:=by
 have L:ps.length<=N.length:=by have:=congrArg List.length S.pre;rw[ck] at this;omega
 obtain⟨B,Q,rfl,G⟩:=x.done
 have l:∀ b:Addr,b ∉ (KR CX P w K mg base N qual scope f C A d s H E).ex:=λb z=>absurd (show b∈([]:List Addr) from z) (by simp)
 refine⟨⟨j.mod,S.kind,rfl,rfl,ah _,λy z c B g=>?_,λy m=>?_,λy c _ h=>?_,λ_=>M,Around.frames_deeper j.frames,.inr ⟨rfl,rfl⟩,λb z=>absurd z (l b),j.bs,j.bsz,λb _ _=>l b,λb z=>absurd z (l b),j.J3,j.frf⟩,
  rfl,j.bare,Un.kept G,⟨_,x.toInCall.ns,λi y v B g R=>?_⟩,λy c h=>⟨_,x.cell y c h⟩,j.hok.fresh (Nat.le_refl _),λy c h=>?_,λp t=>absurd (show p∈([]:List (Addr × Obj)) from t) (by simp),j.hok.kept G,?_⟩
 ·exact name_of_addr x.apart (PySem.mem_of_lookup B) (PySem.mem_of_lookup g)
 ·have m:scope.names.lookup y=some .cell \/ scope.names.lookup y=some .free:=m
  rcases m with m | m
  ·exact QX m
  ·exact absurd rfl (S.nofree _ (PySem.mem_of_lookup m))
 ·exact fA (x.above y c (PySem.mem_of_lookup h))
 ·have D:i<vs.length:=by
   unfold start at g
   by_cases D:i<vs.length
   ·exact D
   ·rw[List.getElem?_append_right (by simpa using D)] at g
    rw[List.getElem?_replicate] at g
    split at g <;> cases g
  have J:vs[i]? = some v:=by
   unfold start at g
   rw[List.getElem?_append_left (by simpa using D),List.getElem?_map] at g
   cases e:vs[i]? with
   | none=>rw[e] at g;cases g
   | some a=>rw[e] at g;cases g;rfl
  obtain⟨u,F,O⟩:=r.get J
  have t:ps[i]? = some y:=by
   rw[<-S.pre,List.getElem?_take_of_lt (by omega)];exact B
  have o:ps.Nodup:=by rw[<-S.pre];exact S.nd.sublist (ku _ _)
  refine⟨u,O,?_⟩
  rcases S.par y (ai t) with k | k
  ·exact .inl ⟨k,Nt o t F k⟩
  ·obtain⟨c,e⟩:=QX (n:=s.heap.objs.size+1) k
   refine .inr ⟨.inl k,c,e,?_⟩
   have q:=x.cell y c e
   rw[Nm o t F (by show scope.names.lookup y ≠ _;rw[k];decide)] at q
   exact q
 ·exact j.hok.fresh (fA (x.above y c (PySem.mem_of_lookup h)))
 ·unfold start
  show _=N.length
  rw[am,af,iS]
  omega
theorem Xn {CX:QZ} {w:World} {K:W.Frag} {k:Nat} {name:Str} {c:Arguments} {d:List Stmt} {M kV F D g ct U:Value} {O od:Option Addr}
  {qc:Array (Option Value)} {N:List Str} {sp:Sp} (R:K.lookup f=some ⟨U,od,.func (W.fnOf name qual c d scope M kV F D O g ct),qc⟩) (Y:W.codeIn K g qual=true) (S:Av N ps scope)
  (len:∀ vs H Q E,sp vs H Q E->vs.length=ps.length)
  (kN:∀ (A:Around) (a:List Env) (s:Shared) (H:Hp) (vs:List V) (Q:VK) (E:XK),Az k (A.deeper (envOfC qual scope s.heap.objs.size f g))->sp vs H Q E ->
   ∃ t,Ni (KR CX P w K mg base N qual scope f g A a s H E) d t/\t { nx:=λ_ H'=>Q .non H',rt:=Q } (start N vs) H) :
  Ao P w K mg base CX (k+1) f (W.fnOf name qual c d scope M kV F D O g ct) ps sp:=by
 refine⟨len,λA a s H args us vs Q E z j T r L=>?_⟩
 have hl:=len _ _ _ _ L
 have C:K.In s.heap:=j.mod.kin.keeps λb o e=>(j.bs b o e).1
 have m:s.heap.NoLimit:=j.mod.nolimit.keeps λb o e=>(j.bs b o e).1
 have h:∀ y∈ps.zip us,scope.names.lookup y.1=some .local \/ (scope.names.lookup y.1=some .cell/\((cellsFrom (s.heap.objs.size+1) scope.names []).lookup y.1).isSome=true):=λ⟨n,v⟩ X=>by
  rcases S.par n (List.of_mem_zip X).1 with q | q
  ·exact .inl q
  ·exact .inr ⟨q,W.cellsFrom_some _ _ _ (.inl q)⟩
 refine codeAny_call_function z.depth (C _ _ R) rfl S.co S.gen rfl (W.codeRec_of C Y) (T _ _ _ _ ?_)
 refine wpAny_newFunctionEnv_cells S.kind h λZ he G x=>?_
 subst he
 refine⟨m.keeps x.toInCall.keep,codeAny_func ?_⟩
 obtain⟨t,ht,hq⟩:=kN A a s H vs Q E (z.deeper _) L
 have I:Inv (KR CX P w K mg base N qual scope f g A a s H E) [] (start N vs) H G:=Uy S z.hd j hl r x
 refine wpAny_mono (ht [] G (start N vs) H _ I hq) (λfl p i=>?_) λe p i=>i
 have fin:∀ {l:St} {H':Hp} {v:V} {u:Value},Inv (KR CX P w K mg base N qual scope f g A a s H E) [] l H' p->RelV v u->Q v H'->CE a P w H s Q u p :=
  λ{l H' v u} J B q=>⟨v,H',J.os,J.bare,J.base,J.hok,B,q⟩
 cases fl with
 | ret u =>
  obtain⟨v,l,H',J,B,q⟩:=i
  exact fin J B q
 | next =>
  obtain⟨l,H',J,q⟩:=i
  exact fin (v:=V.non) (u:=Value.none) J rfl q
 | brk =>
  obtain⟨_,_,_,q⟩:=i
  exact False.elim q
 | cont =>
  obtain⟨_,_,_,q⟩:=i
  exact False.elim q
section
variable {t:TA} {id T:String} {r:List V->Hp->VK->Prop}
def zN (r:List V->Hp->VK->Prop) (t:TA):TE:=λσ H Q=>t σ H λvs H1=>r vs H1 Q
theorem A_ (d:FW X (.builtin id) r) (m:Gl X x) (n:X.mg x=none) (w:bootBuiltins x=some (.builtin id)) (g:PA X (e::es) t) (c:x ≠ "__name__":=by decide) (u:(x == ("__debug__" : Str))=false:=by decide)
  (o:starEach (e::es) X.env=(false,eval e X.env)::starEach es X.env:=by rfl) (a:(backTo pos (starEach es X.env)).any (·.1)=false:=by rfl):PE X (.Call (.Name x p) (e::es) [] pos) (zN r t):=by
 intro b s σ H Q I h
 refine wpAny_Call_Name_kw (JM I m n w ?_ c u)
 exact PyProof.Rows.callWith_builtin1 (CK (g pos b s σ H _ I h) λi f ⟨q,j,k,v,l⟩=>d b f σ j q i Q k v l) o a
theorem Dk (d:FW X (.type T) r) (m:Gl X x) (n:X.mg x=none) (w:bootBuiltins x=some (.type T)) (g:PA X (e::es) t) (c:x ≠ "__name__":=by decide) (u:(x == ("__debug__" : Str))=false:=by decide)
  (o:starEach (e::es) X.env=(false,eval e X.env)::starEach es X.env:=by rfl) (a:(backTo pos (starEach es X.env)).any (·.1)=false:=by rfl):PE X (.Call (.Name x p) (e::es) [] pos) (zN r t):=by
 intro b s σ H Q I h
 refine wpAny_Call_Name_kw (JM I m n w ?_ c u)
 exact PyProof.Rows.callWith_type1 (CK (g pos b s σ H _ I h) λi f ⟨q,j,k,v,l⟩=>d b f σ j q i Q k v l) o a
end
section
variable {κ:Type} [DecidableEq κ]
def CP (kvs:List (κ × V)) (k:κ):Option V:=(kvs.find? λkv=>decide (kv.1=k)).map (·.2)
def putK (kvs:List (κ × V)) (k:κ) (v:V):List (κ × V) :=
 if (kvs.any λkv=>decide (kv.1=k))=true then kvs.map (λkv=>if kv.1=k then (kv.1,v) else kv) else kvs++[(k,v)]
def zX (kvs:List (κ × V)) (k:κ):List (κ × V):=kvs.filter λkv=>decide (kv.1 ≠ k)
theorem Vz {k:κ}:CP ([]:List (κ × V)) k=none:=rfl
theorem Do {p:κ × V} {r:List (κ × V)} {k:κ} (e:p.1=k):CP (p::r) k=some p.2:=by simp[CP,List.find?_cons,e]
theorem Dq {p:κ × V} {r:List (κ × V)} {k:κ} (e:¬ p.1=k):CP (p::r) k=CP r k:=by simp[CP,List.find?_cons,e]
theorem Gu (k:κ):∀ kvs:List (κ × V),(kvs.any λkv=>decide (kv.1=k))=(CP kvs k).isSome
 | []=>rfl
 | p::r=>by
  rw[jS]
  by_cases e:p.1=k
  ·simp only[Do e,decide_eq_true e,Bool.true_or,Option.isSome_some]
  ·rw[Dq e,decide_eq_false e,Bool.false_or];exact Gu k r
theorem QV (k j:κ) (y:V):∀ kvs:List (κ × V),CP (kvs.map λkv=>if kv.1=k then (kv.1,y) else kv) j=(CP kvs j).map λx=>if j=k then y else x
 | []=>rfl
 | p::r=>by
  have a:=QV k j y r
  rw[cw]
  by_cases h:p.1=k
  ·rw[if_pos h]
   by_cases e:p.1=j
   ·rw[Do (p:=(p.1,y)) e,Do e,kg,if_pos (e.symm.trans h)]
   ·rw[Dq (p:=(p.1,y)) e,Dq e,a]
  ·rw[if_neg h]
   by_cases e:p.1=j
   ·rw[Do (p:=p) e,Do e,kg,if_neg (λz=>h (e.trans z))]
   ·rw[Dq (p:=p) e,Dq e,a]
theorem Ip (k j:κ) (y:V):∀ kvs:List (κ × V),CP kvs k=none->CP (kvs++[(k,y)]) j=if j=k then some y else CP kvs j
 | [],_=>by
  by_cases e:k=j
  ·rw[if_pos e.symm];exact Do (p:=(k,y)) e
  ·rw[if_neg (λz=>e z.symm)];exact Dq (p:=(k,y)) e
 | p::r,a=>by
  rw[List.cons_append]
  have b:¬ p.1=k:=λz=>by rw[Do z] at a;cases a
  rw[Dq b] at a
  have c:=Ip k j y r a
  by_cases e:p.1=j
  ·rw[Do e,Do e,if_neg (λz=>b (e.trans z))]
  ·rw[Dq e,Dq e,c]
theorem Gy (kvs:List (κ × V)) (k j:κ) (y:V):CP (putK kvs k y) j=if j=k then some y else CP kvs j:=by
 unfold putK
 by_cases a:(kvs.any λc=>decide (c.1=k))=true
 ·rw[if_pos a,QV]
  rw[Gu] at a
  by_cases e:j=k
  ·obtain⟨x,b⟩:=fh.mp a
   rw[if_pos e,e,b,kg,if_pos rfl]
  ·rw[if_neg e]
   cases CP kvs j with
   | none=>rfl
   | some x=>rw[kg,if_neg e]
 ·rw[if_neg a]
  refine Ip k j y kvs ?_
  rw[Gu] at a
  cases q:CP kvs k with
  | none=>rfl
  | some x=>rw[q] at a;exact (a rfl).elim
theorem GZ (kvs:List (κ × V)) (k:κ) (v:V):(putK kvs k v).length<=kvs.length+1:=by
 unfold putK
 split
 ·rw[af];omega
 ·rw[am,bp,List.length_nil];omega
theorem X_ {kvs:List (κ × V)} {k:κ} (v:V) (h:CP kvs k=none):putK kvs k v=kvs++[(k,v)]:=by
 unfold putK
 rw[Gu,h]
 exact if_neg (by decide)
theorem HF.J9 {o:Option V} {u:Option Value} (r:HF o u):o.isSome=u.isSome:=by
 cases o with
 | none=>cases u with
  | none=>rfl
  | some _=>exact (show False from r).elim
 | some _=>cases u with
  | none=>exact (show False from r).elim
  | some _=>rfl
theorem HF.getD {o:Option V} {u:Option Value} {d:V} {d':Value} (r:HF o u) (a:RelV d d'):RelV (o.getD d) (u.getD d'):=by
 cases o with
 | none=>cases u with
  | none=>exact a
  | some _=>exact (show False from r).elim
 | some _=>cases u with
  | none=>exact (show False from r).elim
  | some _=>exact r
theorem KV.val {kvs:List (κ × V)} {vs:List (κ × Value)} (r:KV kvs vs) (k:κ):HF (CP kvs k) (valueAt vs k):=by
 unfold KV at r
 induction r with
 | nil=>exact True.intro
 | @cons p q i a h t f =>
  obtain⟨d,g⟩:=h
  by_cases e:p.1=k
  ·have c:q.1=k:=d.symm.trans e
   have b:valueAt (q::a) k=some q.2:=by simp[valueAt,List.find?_cons,c]
   rw[Do e,b];exact g
  ·have c:¬ q.1=k:=λz=>e (d.trans z)
   have b:valueAt (q::a) k=valueAt a k:=by simp[valueAt,List.find?_cons,c]
   rw[Dq e,b];exact f
theorem KV.any {kvs:List (κ × V)} {vs:List (κ × Value)} (r:KV kvs vs) (k:κ):(kvs.any λkv=>decide (kv.1=k))=vs.any λkv=>decide (kv.1=k):=by
 unfold KV at r
 induction r with
 | nil=>rfl
 | cons h t a=>rw[jS,jS,a,h.1]
theorem KV.repl {kvs:List (κ × V)} {vs:List (κ × Value)} (r:KV kvs vs) (k:κ) {y:V} (d:RelV y u) :
  KV (kvs.map λkv=>if kv.1=k then (kv.1,y) else kv) (vs.map λkv=>if kv.1=k then (kv.1,u) else kv):=by
 unfold KV at r |-
 induction r with
 | nil=>exact .nil
 | @cons p q g f h t c =>
  rw[cw,cw]
  refine .cons ?_ c
  obtain⟨a,b⟩:=h
  by_cases e:p.1=k
  ·rw[if_pos e,if_pos (a.symm.trans e)];exact⟨a,d⟩
  ·rw[if_neg e,if_neg (λz=>e (a.trans z))];exact⟨a,b⟩
theorem KV.put {kvs:List (κ × V)} {vs:List (κ × Value)} (r:KV kvs vs) (k:κ) {y:V} (a:RelV y u):KV (putK kvs k y) (stored vs k u):=by
 unfold putK stored
 rw[r.any k]
 by_cases e:(vs.any λb=>decide (b.1=k))=true
 ·rw[if_pos e,if_pos e];exact r.repl k a
 ·rw[if_neg e,if_neg e];exact Paired.snoc r ⟨rfl,a⟩
theorem KV.length {kvs:List (κ × V)} {vs:List (κ × Value)} (r:KV kvs vs):kvs.length=vs.length:=Paired.length r
end
theorem Nb {w:World} {k:Key} (r:RelV (kV k) u):(Bt P w).is k u=true:=by
 cases k with
 | inl i=>obtain⟨t,e⟩:=(show ∃ t,u=Value.int i t from r);subst e;exact O8 P w i t
 | inr x=>obtain⟨t,e⟩:=(show ∃ t,u=Value.str x t from r);subst e;exact QM P w x t
theorem Nz {w:World}:∀ {ks:List Key} {us:List Value},Vals (ks.map kV) us->ItemsAre (Bt P w) ks us
 | [],_,r=>by rw[kG] at r;cases r;exact .nil
 | k::ks,_,r=>by
  rw[cw] at r
  cases r with
  | cons h t=>exact .cons (Nb h) (Nz t)
abbrev KT (H:Hp):List (List Key × V)->List (List Key × Addr × Value)->Prop:=Paired λp q=>p.1=q.1/\H q.2.1=some (.tup (p.1.map kV))/\RelV p.2 q.2.2
theorem KT.val {kvs:List (List Key × V)} {xs:List (List Key × Addr × Value)} (r:KT H kvs xs) (k:List Key):HF (CP kvs k) ((atKey xs k).map (·.2)):=by
 induction r with
 | nil=>exact True.intro
 | @cons p q i a h t f =>
  obtain⟨d,_,g⟩:=h
  by_cases e:p.1=k
  ·have c:q.1=k:=d.symm.trans e
   have b:atKey (q::a) k=some q.2:=by simp[atKey,List.find?_cons,c]
   rw[Do e,b];exact g
  ·have c:¬ q.1=k:=λz=>e (d.trans z)
   have b:atKey (q::a) k=atKey a k:=by simp[atKey,List.find?_cons,c]
   rw[Dq e,b];exact f
theorem KT.repl {kvs:List (List Key × V)} {xs:List (List Key × Addr × Value)} (r:KT H kvs xs) (k:List Key) {y:V} (c:RelV y u) :
  KT H (kvs.map λkv=>if kv.1=k then (kv.1,y) else kv) (xs.map (putAt k u)):=by
 induction r with
 | nil=>exact .nil
 | @cons p q i g h t d =>
  rw[cw,cw]
  refine .cons ?_ d
  obtain⟨a,b,f⟩:=h
  unfold putAt
  by_cases e:p.1=k
  ·rw[if_pos e,if_pos (a.symm.trans e)];exact⟨a,b,c⟩
  ·rw[if_neg e,if_neg (λz=>e (a.trans z))];exact⟨a,b,f⟩
theorem KT.put {kvs:List (List Key × V)} {xs:List (List Key × Addr × Value)} (r:KT H kvs xs) (k:List Key) {y:V} (d:H b=some (.tup (k.map kV))) (a:RelV y u) :
  KT H (putK kvs k y) (storedH xs k b u):=by
 have e:(kvs.any λc=>decide (c.1=k))=(atKey xs k).isSome:=by
  rw[Gu,(r.val k).J9,Option.isSome_map]
 unfold putK storedH
 rw[e]
 by_cases q:(atKey xs k).isSome=true
 ·rw[if_pos q,if_pos q];exact r.repl k a
 ·rw[if_neg q,if_neg q];exact Paired.snoc r ⟨rfl,d,a⟩
theorem KT.keeps {kvs:List (List Key × V)} {xs:List (List Key × Addr × Value)} (r:KT H kvs xs) (a:∀ b ys,H b=some (.tup ys)->H' b=some (.tup ys)):KT H' kvs xs :=
 Paired.Ku r λ_ _ z=>⟨z.1,a _ _ z.2.1,z.2.2⟩
section
variable {w:World}
theorem aX {u:HO} (ok:GK P w H h) (e:Rd H a u):CQ P w H h a u:=e.ok ok
theorem Mf (ok:GK P w H h) (e:Rd H a (.dK kvs)):kvs.length<=sizeLine/\(a == sysModules)=false/\∃ vs,KV kvs vs/\h.DictOf (Bt P w) a vs :=
 show CQ P w H h a (.dK kvs) from aX ok e
theorem lW (ok:GK P w H h) (e:H a=some (.dK kvs)):kvs.length<=sizeLine/\(a == sysModules)=false/\∃ vs,KV kvs vs/\h.DictOf (Bt P w) a vs:=Mf ok (.inl e)
theorem Gk {ks:List Key} (ok:GK P w H h) (e:H a=some (.tup (ks.map kV))):(tupleKind (Bt P w)).is h ks a:=by
 obtain⟨_,b,r,o,d,c,n,f⟩:=(show CQ P w H h a (.tup (ks.map kV)) from ok a _ e)
 exact⟨o,b.toArray,n,d,c,f,by simpa using Nz r⟩
theorem Mi {kvs:List (List Key × V)} (ok:GK P w H h) (e:Rd H a (.dT kvs)):kvs.length<=sizeLine/\(a == sysModules)=false /\
  ∃ xs,KT H kvs xs/\h.DictOfH (tupleKind (Bt P w)) a xs:=by
 obtain⟨z,y,xs,r,o,j,d,k,i,n,s,g⟩:=(show CQ P w H h a (.dT kvs) from aX ok e)
 refine⟨z,y,xs,r,o,j,d,k,i,n,s,λx b=>?_,g⟩
 have all:∀ {l:List (List Key × V)} {m:List (List Key × Addr × Value)},KT H l m->∀ x∈m,(tupleKind (Bt P w)).is h x.1 x.2.1:=by
  intro l m q
  induction q with
  | nil=>intro x b;exact nomatch b
  | @cons p q v u c t f =>
   intro x b
   rcases cf.mp b with e | b
   ·subst e
    exact Gk ok (by rw[<-c.1];exact c.2.1)
   ·exact f x b
 exact all r x b
theorem pq {kvs:List (List Key × V)} (ok:GK P w H h) (e:H a=some (.dT kvs)):kvs.length<=sizeLine/\(a == sysModules)=false /\
  ∃ xs,KT H kvs xs/\h.DictOfH (tupleKind (Bt P w)) a xs:=Mi ok (.inl e)
end
def Em (H:Hp) (a:Addr) (y:V) (r:Option V):Prop :=
 (∃ kvs k,Rd H a (.dK kvs)/\y=kV k/\r=CP kvs k) \/ ∃ kvs k b,Rd H a (.dT kvs)/\y=.ref b/\H b=some (.tup (k.map kV))/\r=CP kvs k
def Ks (H:Hp) (a:Addr) (y v:V) (H':Hp):Prop :=
 (∃ kvs k,H a=some (.dK kvs)/\y=kV k/\kvs.length<sizeLine/\H'=upd H a (.dK (putK kvs k v))) \/
 ∃ kvs k b,H a=some (.dT kvs)/\y=.ref b/\H b=some (.tup (k.map kV))/\kvs.length<sizeLine/\H'=upd H a (.dT (putK kvs k v))
theorem Em.k {k:Key} (e:H a=some (.dK kvs)):Em H a (kV k) (CP kvs k):=.inl ⟨kvs,k,.inl e,rfl,rfl⟩
theorem Ks.k {k:Key} {v:V} (e:H a=some (.dK kvs)) (hl:kvs.length<sizeLine):Ks H a (kV k) v (upd H a (.dK (putK kvs k v))):=.inl ⟨kvs,k,e,rfl,hl,rfl⟩
section
variable {y v:V} {r:Value} {o:Option V}
theorem Inv.big (I:Inv X a8 σ H s):sysModules<s.heap.objs.size:=by
 have h:mainGlobals<s.heap.objs.size:=(I.mod.glob.keeps I.bk).lt
 exact Nat.lt_trans (by decide) h
theorem VG (q:A.units+1<cLine) (I:Inv X a8 σ H s) (g:Em H a y (some v)) (n:RelV y u) (h:∀ w' s',Inv X a8 σ H s'->RelV v w'->Q w' s') :
  wpAny (model X.prog X.w) A (getItem (.ref a) u) Q E s:=by
 rcases g with⟨f,k,e,d,l⟩ | ⟨f,k,b,e,d,r,l⟩
 ·subst d
  obtain⟨z,t,B,c,j⟩:=Mf I.hok e
  obtain⟨w',m,i⟩:=HF.some_of (v:=v) (o:=valueAt B k) (by rw[l];exact c.val k)
  exact wpAny_getItem_of (Nb n) j.mapOf m (h w' _ (I.tok _) i)
 ·subst d
  cases (show u=Value.ref b from n)
  obtain⟨z,t,C,c,j⟩:=Mi I.hok e
  obtain⟨w',m,i⟩:=HF.some_of (v:=v) (o:=(atKey C k).map (·.2)) (by rw[l];exact c.val k)
  obtain⟨p,x,w⟩:=aE.mp m
  refine wpAny_getItem_heap (tupleKind_room_in1 q) (Gk I.hok r) j x ?_
  rw[w]
  exact h w' _ (I.tok _) i
theorem Zi (n:A.units+1<cLine) (I:Inv X a8 σ H s) (g:Em H a y o) (m:RelV y u) (h:∀ s',Inv X a8 σ H s'->Q (.bool (!o.isSome)) s') :
  wpAny (model X.prog X.w) A (compareOp .NotIn u (.ref a)) Q E s:=by
 rcases g with⟨f,k,e,d,l⟩ | ⟨f,k,b,e,d,p,l⟩
 ·subst d
  obtain⟨z,i,r,c,j⟩:=Mf I.hok e
  refine wpAny_notIn_of (Nb m) i j.mapOf ?_
  rw[<-(c.val k).J9,<-l]
  exact h _ (I.tok _)
 ·subst d
  cases (show u=Value.ref b from m)
  obtain⟨z,i,t,c,j⟩:=Mi I.hok e
  refine wpAny_notIn_heap (tupleKind_room_in1 n) (Gk I.hok p) i j ?_
  have q:=(c.val k).J9
  rw[Option.isSome_map] at q
  rw[<-q,<-l]
  exact h _ (I.tok _)
theorem Rp {t':Nat} {c:HO} (I:Inv X a8 σ H s) (d:jy (H a)) (f:Heap.SameBut a s.heap h') (h:∃ q,h'.get? a=some q) (new:CQ X.prog X.w (upd H a c) h' a c) :
  Inv X a8 σ (upd H a c) { s with heap:=h',toks:=t' } :=
 I.write (x:=a) (e:=a) d (.inl rfl) (λb q g z=>(f.2 b g).trans z) h new
theorem iy {w:World} {vs:List (Key × Value)} (z:kvs.length<=sizeLine) (c:(a == sysModules)=false) (b:KV kvs vs) (dd:h'.DictOf (Bt P w) a vs) :
  CQ P w H' h' a (.dK kvs):=⟨z,c,vs,b,dd⟩
theorem T4 {Q:Unit->Shared->Prop} (M:A.units+1<cLine) (I:Inv X a8 σ H s) (g:Ks H a y v H') (B:RelV y u) (F:RelV v r) (h:∀ s',Inv X a8 σ H' s'->Q () s') :
  wpAny (model X.prog X.w) A (setItem (.ref a) u r) Q E s:=by
 rcases g with⟨d,k,e,m,l,p⟩ | ⟨d,k,b,e,m,C,l,p⟩
 ·subst m p
  obtain⟨z,w,G,f,t⟩:=lW I.hok e
  have n:G.length<=sizeLine:=by rw[<-f.length];exact z
  have hl:(putK d k v).length<=sizeLine:=by have:=GZ d k v;omega
  refine wpAny_setItem_pairs (hsz:=n) (Nb B) t λx j o=>h _ ?_
  have L:∃ q,x.get? a=some q:=let ⟨q,_,_,i,_⟩:=j;⟨q,i⟩
  exact Rp I (by rw[e];exact True.intro) o L (iy hl w (f.put k F) j)
 ·subst m p
  cases (show u=Value.ref b from B)
  obtain⟨z,w,S,f,t⟩:=pq I.hok e
  have n:S.length<=sizeLine:=by rw[<-Paired.length f];exact z
  have hl:(putK d k v).length<=sizeLine:=by have:=GZ d k v;omega
  refine wpAny_setItem_heap (hsz:=n) (tupleKind_room_in1 M) (Gk I.hok C) t λx j o=>h _ ?_
  obtain⟨q,R,N,i,P,K,J,_,O⟩:=j
  refine Rp I (by rw[e];exact True.intro) o ⟨q,i⟩ ⟨hl,w,_,(f.put k C F).keeps λc T D=>?_,q,R,N,i,P,K,J,O⟩
  rw[Aw (cQ D e (λz=>nomatch z))]
  exact D
end
section
variable {k:Key}
end
def dg (i:Expr):Prop:=∀ ov iv,subscripted i false ov iv=operate [ov,iv] (getItem ov iv)
theorem Rk {w:World} {c:Env} {b a:Expr} {T id:String}
  (hl:typeLookup (.type T) "__getitem__" = pure (some (.builtin id))) (g:dg a)
  (h:wpAny (model prog w) A (eval b c) (λo s₁=>wpAny (model prog w) A (eval a c) (λi s₂=>s₂.TypeIs o T/\wpAny (model prog w) A (getItem o i) Q E s₂) E s₁) E s) :
  wpAny (model prog w) A (eval (.Subscript b a pos) c) Q E s:=by
 refine Subscript_ (wpAny_mono h (λo s₁ k=>wpAny_mono k (λi s₂ d=>?_) λ_ _ x=>x) λ_ _ x=>x)
 obtain⟨e,d⟩:=d
 unfold subscriptTail
 refine wpAny_bind ?_
 rw[getitemInPython_of_ne e.not_modules]
 refine wpAny_bind (wpAny_specialOf e hl ?_)
 have fin:wpAny (model prog w) A (subscripted a false o i) (λr f=>wpAny (model prog w) A (letTemporaryGo b o r >>= λ_=>pure r) Q E f) E s₂:=by
  rw[g o i]
  exact wpAny_operating (wpAny_mono d (λr f j=>wpAny_bind (wpAny_letTemporaryGo (wpAny_pure j))) λ_ _ x=>x)
 first
  | exact wpAny_pure (wpAny_bind fin)
  | exact wpAny_bind (wpAny_pure (wpAny_bind fin))
  | exact wpAny_bind fin
theorem O7 {y:V} {o:Option V} (I:Inv X a8 σ H s) (g:Em H a y o):s.TypeIs (.ref a) "dict":=by
 rcases g with⟨d,k,e,_,_⟩ | ⟨d,k,b,e,_,_,_⟩
 ·obtain⟨_,_,f,_,c⟩:=Mf I.hok e
  exact c.typeIs
 ·obtain⟨_,_,h,_,c⟩:=Mi I.hok e
  exact c.typeIs
inductive Vu (Q:VK) (x:V) (y:V) (H2:Hp):Prop
 | mk (a v:_):x=.ref a->Em H2 a y (some v)->Q v H2->Vu Q x y H2
def jx (td ty:TE):TE:=λσ H Q=>td σ H λx H1=>ty σ H1 λy H2=>Vu Q x y H2
inductive QC (Q:VK) (y:V) (x:V) (H2:Hp):Prop
 | mk (a o:_):x=.ref a->Em H2 a y o->Q (.bl (!o.isSome)) H2->QC Q y x H2
def Z5 (ty td:TE):TE:=λσ H Q=>ty σ H λy H1=>td σ H1 λx H2=>QC Q y x H2
inductive V6 (D:Ends) (σ:St) (v:V) (x:V) (y:V) (H3:Hp):Prop
 | mk (a H4:_):x=.ref a->Ks H3 a y v H4->D.nx σ H4->V6 D σ v x y H3
def qK (td ty tv:TE):TS:=λD σ H=>tv σ H λv H1=>td σ H1 λx H2=>ty σ H2 λy H3=>V6 D σ v x y H3
section
variable {o i value:Expr} {ll lf:Pos} {td ty tv:TE}
theorem Fo (f:X.A.units+1<cLine) (w:PE X o td) (hi:PE X i ty) (n:dg i):PE X (.Subscript o i pos) (jx td ty):=by
 intro b s σ H Q I h
 refine Rk iF n (CK (w b s σ H _ I h) λu e ⟨x,l,m,z,q⟩=>CK (hi b e σ l _ m q) λB E p=>?_)
 obtain⟨y,d,c,j,a,v,A,g,r⟩:=p
 subst A
 obtain rfl:u=Value.ref a:=z
 exact⟨O7 c g,VG f c g j λC D t k=>⟨v,d,t,k,r⟩⟩
theorem Nk (f:X.A.units+1<cLine) (hi:PE X i ty) (r:PE X o td):PC X .NotIn i o (Z5 ty td):=by
 intro b s σ H Q I h
 refine CK (hi b s σ H _ I h) λz e ⟨y,k,l,j,p⟩=>CK (r b e σ k _ l p) λu B m=>?_
 obtain⟨x,c,t,v,a,d,w,g,n⟩:=m
 subst w
 obtain rfl:u=Value.ref a:=v
 exact Zi f t g j λA q=>⟨.bl (!d.isSome),c,q,rfl,n⟩
theorem G_ (t:X.A.units+1<cLine) (E:PE X o td) (hi:PE X i ty) (G:PE X value tv) (e:swapsWith value (some (.Subscript o i ll)) pos.line X.env=pure false) :
  PS X (.Assign [.Subscript o i ll] value pos) (qK td ty tv):=by
 intro b s σ H D I h
 refine wpAny_Assign_Subscript (CK (G b s σ H _ I h) λr q ⟨v,w,z,C,A⟩=>CK (E b q σ w _ z A) λu n ⟨x,p,k,l,f⟩=>CK (hi b n σ p _ k f) λL K ⟨y,M,B,d,a,j,m,g,c⟩=>?_) e
 subst m
 obtain rfl:u=Value.ref a:=l
 exact T4 t B g d C λJ F=>⟨σ,j,F,c⟩
end
theorem YB {w:World} (h:Heap) (a:sysModules<h.objs.size):CQ P w H (h.push { cls:=.type "dict",data:=.dict #[] }) h.objs.size (.dK []) :=
 ⟨dA _,beq_eq_false_iff_ne.mpr (Ne.symm (br a)),[],.nil,Heap.DictOf.new h⟩
def gA:TE:=λ_ H Q=>∀ p,H p=none->Q (.ref p) (upd H p (.dK []))
theorem IV:PE X (.Dict [] [] pos) gA:=λb s σ H Q I h =>
 wpAny_Dict_empty ⟨.ref s.heap.objs.size,_,I.laid (a:=s.heap.objs.size) (o:=.dK []) (t':=s.toks) (λ_ _ q=>Heap.get?_push_of_some _ q) (ah _) (YB s.heap I.big),rfl,h _ (I.hok.fresh (ah _))⟩
def uf (kvs more:List (Key × V)):List (Key × V):=more.foldl (λd0 kv=>putK d0 kv.1 kv.2) kvs
structure M1 (X:Cx) (o:Expr) (m:Str) (d6:Pos) (e:Expr) (f':Pos):Prop where
 base:attributeBase o m X.env (eval o X.env)=eval o X.env
 few:((backTo f' (starEach [e] X.env)).all (λx=>!x.1) && (backToKw f' (keywordEach [] X.env)).all (λx=>x.1.isSome)
  && decide (([e]:List Expr).length+([]:List Keyword).length+(if ([]:List Keyword).isEmpty then 0 else 1)<30))=true
 line:(d6.endLine == f'.line)=true
 trees:backTo f' (starEach [e] X.env)=[(false,eval e X.env)]
structure M2 (X:Cx) (o:Expr) (m:Str) (d6:Pos) (e f:Expr) (f':Pos):Prop where
 base:attributeBase o m X.env (eval o X.env)=eval o X.env
 few:((backTo f' (starEach [e,f] X.env)).all (λx=>!x.1) && (backToKw f' (keywordEach [] X.env)).all (λx=>x.1.isSome)
  && decide (([e,f]:List Expr).length+([]:List Keyword).length+(if ([]:List Keyword).isEmpty then 0 else 1)<30))=true
 line:(d6.endLine == f'.line)=true
 trees:backTo f' (starEach [e,f] X.env)=[(false,eval e X.env),(false,eval f X.env)]
def sZ (H:Hp) (a:Addr):Prop:=(∃ kvs,Rd H a (.dK kvs)) \/ ∃ kvs,Rd H a (.dT kvs)
theorem Rh (I:Inv X a8 σ H s) (d:sZ H a) :
  s.TypeIs (.ref a) "dict" /\ (∀ b,Value.ref a=.ref b->∃ ob,s.heap.get? b=some ob/\ob.dict=none)/\(a == sysModules)=false:=by
 rcases d with⟨h,e⟩ | ⟨h,e⟩
 ·obtain⟨_,f,j,_,c⟩:=Mf I.hok e
  refine⟨c.typeIs,λb q=>?_,f⟩
  cases q
  obtain⟨ob,_,_,i,g,_⟩:=c
  exact⟨ob,i,g.2.1⟩
 ·obtain⟨_,f,k,_,c⟩:=Mi I.hok e
  refine⟨c.typeIs,λb q=>?_,f⟩
  cases q
  obtain⟨ob,_,_,i,g,_⟩:=c
  exact⟨ob,i,g.2.1⟩
section
variable {y d:V} {r:Value} {o:Option V}
theorem dJ (n:A.units+1<cLine) (I:Inv X a8 σ H s) (g:Em H a y o) (m:RelV y u) (h:∀ w' s',Inv X a8 σ H s'->RelV (o.getD .non) w'->Q w' s') :
  wpAny (model X.prog X.w) A (call (.builtin "dict.get") [.ref a,u]) Q E s:=by
 rcases g with⟨i,k,e,f,l⟩ | ⟨i,k,b,e,f,p,l⟩
 ·subst f
  obtain⟨z,j,r,c,d⟩:=Mf I.hok e
  refine call_meetsIn eJ d.typeIs PySem.F.entry_dict_get (PySem.F.args_dict_get_2 _ _) (meets_dict_get (Bt X.prog X.w) a (Nb m) j) ⟨_,d.mapOf,h _ _ (I.tok _) ?_⟩
  rw[l]
  exact (c.val k).getD rfl
 ·subst f
  cases (show u=Value.ref b from m)
  obtain⟨z,j,q,c,d⟩:=Mi I.hok e
  refine call_meetsIn eJ d.typeIs PySem.F.entry_dict_get (PySem.F.args_dict_get_2 _ _) (meetsH_dict_get (tupleKind (Bt X.prog X.w)) a b j) ⟨tupleKind_room_in1 n,k,q,Gk I.hok p,d,h _ _ (I.tok _) ?_⟩
  rw[l]
  exact (c.val k).getD rfl
theorem fu (q:A.units+1<cLine) (I:Inv X a8 σ H s) (g:Em H a y o) (n:RelV y u) (p:RelV d r) (h:∀ w' s',Inv X a8 σ H s'->RelV (o.getD d) w'->Q w' s') :
  wpAny (model X.prog X.w) A (call (.builtin "dict.get") [.ref a,u,r]) Q E s:=by
 rcases g with⟨j,k,e,i,l⟩ | ⟨j,k,b,e,i,t,l⟩
 ·subst i
  obtain⟨z,m,w,c,f⟩:=Mf I.hok e
  refine call_meetsIn eJ f.typeIs PySem.F.entry_dict_get (PySem.F.args_dict_get_3 _ _ _) (meets_dict_get_default (Bt X.prog X.w) a (Nb n) m r) ⟨_,f.mapOf,h _ _ (I.tok _) ?_⟩
  rw[l]
  exact (c.val k).getD p
 ·subst i
  cases (show u=Value.ref b from n)
  obtain⟨z,m,v,c,f⟩:=Mi I.hok e
  refine call_meetsIn eJ f.typeIs PySem.F.entry_dict_get (PySem.F.args_dict_get_3 _ _ _) (meetsH_dict_get_default (tupleKind (Bt X.prog X.w)) a b m r) ⟨tupleKind_room_in1 q,k,v,Gk I.hok t,f,h _ _ (I.tok _) ?_⟩
  rw[l]
  exact (c.val k).getD p
end
inductive Tg (ty:TE) (σ:St) (Q:VK) (x:V) (H1:Hp):Prop
 | mk (a:_):x=.ref a->sZ H1 a->(ty σ H1 λy H2=>∃ o,Em H2 a y o/\Q (o.getD .non) H2)->Tg ty σ Q x H1
def gh (td ty:TE):TE:=λσ H Q=>td σ H λx H1=>Tg ty σ Q x H1
inductive Rx (ty tx:TE) (σ:St) (Q:VK) (x:V) (H1:Hp):Prop
 | mk (a:_):x=.ref a->sZ H1 a->(ty σ H1 λy H2=>tx σ H2 λz H3=>∃ o,Em H3 a y o/\Q (o.getD z) H3)->Rx ty tx σ Q x H1
def jN (td ty tx:TE):TE:=λσ H Q=>td σ H λx H1=>Rx ty tx σ Q x H1
section
variable {o f:Expr} {f':Pos} {td ty tx:TE}
theorem QR (z:X.A.units+1<cLine) (D:PE X o td) (t:PE X e ty) (m:M1 X o "get" d6 e f'):PE X (.Call (.Attribute o "get" d6) [e] [] f') (gh td ty):=by
 intro b s σ H Q I h
 refine wpAny_Call_method m.base m.few m.line gI eJ iX (CK (D b s σ H _ I h) λu w j=>?_)
 obtain⟨x,A,c,p,a,r,d,B⟩:=j
 subst r
 obtain rfl:u=Value.ref a:=p
 obtain⟨n,l,_⟩:=Rh c d
 refine⟨n,l,?_⟩
 rw[m.trees]
 refine Calls.callWith_builtin rfl (Calls.evalArgs_plain (Calls.spliced_cons (CK (t b w σ A _ c B) λG F ⟨y,v,q,f,J,g,k⟩=>Calls.spliced_nil ?_)))
 exact dJ z q g f λK E C i=>⟨_,v,C,i,k⟩
theorem Lh (E:X.A.units+1<cLine) (M:PE X o td) (A:PE X e ty) (K:PE X f tx) (m:M2 X o "get" d6 e f f'):PE X (.Call (.Attribute o "get" d6) [e,f] [] f') (jN td ty tx):=by
 intro b s σ H Q I h
 refine wpAny_Call_method m.base m.few m.line gI eJ iX (CK (M b s σ H _ I h) λu D l=>?_)
 obtain⟨x,G,c,v,a,w,d,J⟩:=l
 subst w
 obtain rfl:u=Value.ref a:=v
 obtain⟨r,q,_⟩:=Rh c d
 refine⟨r,q,?_⟩
 rw[m.trees]
 refine Calls.callWith_builtin rfl (Calls.evalArgs_plain (Calls.spliced_cons (CK (A b D σ G _ c J) λR B ⟨y,C,t,j,n⟩ =>
  Calls.spliced_cons (CK (K b B σ C _ t n) λU P ⟨z,F,L,p,S,g,i⟩=>Calls.spliced_nil ?_))))
 exact fu E L g j p λT O N k=>⟨_,F,N,k,i⟩
end
section
variable {y:V}
end
end L2
variable {H H' H1 Ho H2:L2.Hp} {X:L2.Cx} {s:PySem.Shared} {n i j t' dr sh m:Nat} {A:PySem.Around} {pos p d6:PySem.Pos} {a C f y Cy sd b dx aB aP aM pE pA z D Cp it hd:PySem.Addr} {σ:L2.St} {E Q:vSP} {x t qual:PySem.Str} {a8:List (PySem.Addr × PySem.Obj)} {prog P:PySem.Program} {e tg iter k8:PySem.Expr} {kvs:List (L2.Key × L2.V)} {u:PySem.Value} {xs vs us:List L2.V} {h h' base:PySem.Heap} {te ta:L2.TE} {fd:PySem.FuncData} {ps ns nms:List PySem.Str} {es k7:List PySem.Expr} {sts:List Nat} {o:L2.HO} {st:PySem.Stmt} {c:Nat->Nat} {scope:PySem.Scope} {mg:PySem.Str->Option PySem.Value} {tt:L2.TT} {fp:List PySem.Addr} {led:Bool} {g:L2.TG} {tb:L2.TS}
namespace HT
open PySem PyProof.Rows
section
open PySem.SeqAt
open PySem.AutoSeq1 (wpAny_loadPart')
open PySem.MeetsSeq PySem.MeetsSeq2 PySem.MeetsSeq3
end
section
variable {w:World}
theorem Zx {t:Addr} {vs a:List Value} (u:IsTup s.heap t vs.toArray) (v:IsTup s.heap b a.toArray) (r:vs ≠ [])
  (y:a=[]->Q (.ref t) s) (x:a ≠ []->Q (.ref s.heap.objs.size) { s with heap:=s.heap.push { cls:=.type "tuple",data:=.seq (vs++a).toArray } })
  (hsz:vs.length+a.length<=sizeLine):wpAny (model prog w) A (binaryOp .Add (.ref t) (.ref b)) Q E s:=by
 obtain⟨⟨cls,m,data,j⟩,d,h,n,l⟩:=id u
 obtain⟨⟨g,o,data2,k⟩,c,q,p,i⟩:=id v
 simp only at h l q i
 subst h l q i
 have e:vs.toArray++a.toArray=(vs++a).toArray:=by simp
 by_cases f:a=[]
 ·exact concat_meets ⟨_,d,rfl⟩ ⟨_,c,rfl⟩ noFill_tuple_add seq_tuple_add PySem.F.slot_tuple_add PySem.F.entry_tuple_add (PySem.F.args_tuple_add_2 _ _)
   (tuple_addW1 t b vs.toArray a.toArray n p m o j k (by simpa using r) (by simp[f])) ⟨d,c,y f⟩
 ·refine concat_meets ⟨_,d,rfl⟩ ⟨_,c,rfl⟩ noFill_tuple_add seq_tuple_add PySem.F.slot_tuple_add PySem.F.entry_tuple_add (PySem.F.args_tuple_add_2 _ _)
   (tuple_addW2 t b vs.toArray a.toArray n p m o j k (by simpa using r) (by simpa using f) (by rw[List.size_toArray,List.size_toArray];exact hsz)) ⟨d,c,?_⟩
  rw[e]
  exact x f
def Ea (n d:Nat):Option Int->Nat
 | none=>d
 | some v=>if v<0 then (v+(n:Int)).toNat else min v.toNat n
theorem Mp (n d:Nat):Ea n d none=d:=rfl
theorem FP (n d k:Nat):Ea n d (some (k:Int))=min k n:=by
 show (if (k:Int)<0 then ((k:Int)+(n:Int)).toNat else min (k:Int).toNat n)=min k n
 rw[if_neg (by omega),bb]
theorem iU (n d:Nat) (b:d<=n) (o:Option Int):Ea n d o<=n:=by
 cases o with
 | none=>exact b
 | some v =>
  show (if v<0 then (v+(n:Int)).toNat else min v.toNat n)<=n
  by_cases a:v<0
  ·rw[if_pos a];omega
  ·rw[if_neg a];exact Nat.min_le_right _ _
theorem TV (v:Int) (n d:Nat):(if v<0 then max (v+(n:Int)) 0 else min v (n:Int))=((Ea n d (some v):Nat):Int):=by
 show (if v<0 then max (v+(n:Int)) 0 else min v (n:Int))=(((if v<0 then (v+(n:Int)).toNat else min v.toNat n):Nat):Int)
 by_cases a:v<0
 ·simp only[if_pos a];omega
 ·simp only[if_neg a];omega
theorem Qc (lo hi:Option Int) (n:Nat):Builtin.Slice.sliceAdjust lo hi 1 (n:Int)=(((Ea n 0 lo:Nat):Int),((Ea n n hi:Nat):Int)):=by
 have a:¬ ((1:Int)<0):=by omega
 unfold Builtin.Slice.sliceAdjust
 simp only[a,if_false]
 refine Prod.ext ?_ ?_
 ·cases lo with
  | none=>rfl
  | some v=>exact TV v n 0
 ·cases hi with
  | none=>rfl
  | some v=>exact TV v n n
theorem RB (i j:Nat):Builtin.Slice.slicePlaces (i:Int) (j:Int) 1=j - i:=by
 unfold Builtin.Slice.slicePlaces
 have a:(1:Int) > 0:=by omega
 simp only[a,if_true,Int.ediv_one]
 split <;> omega
theorem K9 {v:Value} {o:Option Int} {Q:Option Int->Shared->Prop} (p:IsPart v o) (h:Q o s):wpAny (model prog w) A (Builtin.Slice.slicePartIndex v) Q E s:=by
 cases p with
 | none=>exact slicePart_none h
 | int i t=>exact slicePart_int h
theorem KY {e:Addr} {a b:Value} {lo hi:Option Int} {Q:Int × Int × Nat->Shared->Prop} (g:s.heap.IsSliceOf e a b .none) (pl:IsPart a lo) (f:IsPart b hi)
  (h:Q (((Ea n 0 lo:Nat):Int),1,Ea n n hi - Ea n 0 lo) s):wpAny (model prog w) A (Builtin.Slice.sliceApplied (.ref e) (pure (n:Int))) Q E s:=by
 obtain⟨os,d,i,c⟩:=id g
 unfold Builtin.Slice.sliceApplied Builtin.Slice.sliceFields
 refine wpAny_bind (wpAny_bind (wpAny_field d c (x:=a) rfl (wpAny_bind (wpAny_field d c (x:=b) rfl (wpAny_bind (wpAny_field d c (x:=.none) rfl (wpAny_pure ?_)))))))
 refine wpAny_bind (slicePart_none ?_)
 show wpAny _ _ (if ((1:Int) == 0)=true then _ else _) _ _ s
 rw[if_neg (by decide)]
 refine wpAny_bind (K9 pl (wpAny_bind (K9 f (wpAny_bind (wpAny_pure ?_)))))
 show wpAny _ _ (match Builtin.Slice.sliceAdjust lo hi 1 (n:Int) with | (lo,hi)=>pure (lo,(1:Int),Builtin.Slice.slicePlaces lo hi 1)) _ _ s
 rw[Qc lo hi n]
 show wpAny _ _ (pure (((Ea n 0 lo:Nat):Int),(1:Int),Builtin.Slice.slicePlaces ((Ea n 0 lo:Nat):Int) ((Ea n n hi:Nat):Int) 1)) _ _ s
 rw[RB]
 exact wpAny_pure h
theorem WQ (xs:Array Value) (i k:Nat):((List.range k).filterMap λ(m:Nat)=>xs[((i:Int)+(m:Int) * 1).toNat]?).toArray=((xs.toList.drop i).take k).toArray:=by
 have e:(λ(m:Nat)=>xs[((i:Int)+(m:Int) * 1).toNat]?)=λm=>xs[i+m]?:=by
  funext m
  have:((i:Int)+(m:Int) * 1).toNat=i+m:=by omega
  rw[this]
 rw[e]
 have:=pick_run xs i k
 rw[List.filterMap_map] at this
 have a:((λx=>xs[x]?) ∘ λx=>i+x)=λm=>xs[i+m]?:=rfl
 rw[a] at this
 rw[this]
theorem Ju {t e:Addr} {a:Array Value} {g i:Value} {lo hi:Option Int} (c:IsTup s.heap t a) (j:s.heap.IsSliceOf e g i .none) (pl:IsPart g lo) (k:IsPart i hi)
  (n:¬ (Ea a.size 0 lo=0/\Ea a.size a.size hi=a.size))
  (h:Q (.ref s.heap.objs.size) { s with heap:=s.heap.push { cls:=.type "tuple",data:=.seq ((a.toList.drop (Ea a.size 0 lo)).take (Ea a.size a.size hi - Ea a.size 0 lo)).toArray } })
  (hsz:a.size<=sizeLine):wpAny (model prog w) A (getItem (.ref t) (.ref e)) Q E s:=by
 have b:sizeOk (.seq ((a.toList.drop (Ea a.size 0 lo)).take (Ea a.size a.size hi - Ea a.size 0 lo)).toArray):=by
  show ((a.toList.drop (Ea a.size 0 lo)).take (Ea a.size a.size hi - Ea a.size 0 lo)).toArray.size<=sizeLine
  rw[ci,ck,kC,Array.length_toList]
  omega
 have p:Ea a.size a.size hi<=a.size:=iU _ _ (ah _) hi
 obtain⟨os,o,l,v⟩:=id j
 have f:s.TypeIs (.ref e) "slice":=⟨os,o,l⟩
 unfold getItem
 try with_reducible refine wpAny_holding ?_
 first | refine wpAny_bind (wpAny_pure ?_) | skip
 refine wpAny_bind (wpAny_sequenceKey c.typeIs (by decide) ?_)
 refine wpAny_bind (wpAny_callSpecial?_slot (name:=Str.ofString "__getitem__") c.typeIs PyProof.Rows.slot_tuple_getitem
  (wpAny_call_entry PyProof.Rows.slot_tuple_getitem c.typeIs entry_tuple_getitem ?_ (args_tuple_getitem _ _)))
 show wpAny _ _ (Builtin.Tuple.tupleItemsOf (.ref t) >>= _) _ _ s
 refine wpAny_bind (tupleItemsOf_ c ?_)
 refine wpAny_bind (wpAny_typeOf f ?_)
 rw[if_pos (by decide)]
 refine wpAny_bind (KY j pl k ?_)
 have d:¬ ((((Ea a.size 0 lo:Nat):Int) == 0 && (1:Int) == 1 && (Ea a.size a.size hi - Ea a.size 0 lo) == a.size)=true):=by
  intro q
  rw[fk,fk] at q
  have u:((Ea a.size 0 lo:Nat):Int)=0:=eq_of_beq q.1.1
  have r:Ea a.size a.size hi - Ea a.size 0 lo=a.size:=eq_of_beq q.2
  exact n ⟨by omega,by omega⟩
 show wpAny _ _ (if (((Ea a.size 0 lo:Nat):Int) == 0 && (1:Int) == 1 && (Ea a.size a.size hi - Ea a.size 0 lo) == a.size)=true then _ else _) _ _ s
 rw[if_neg d,WQ]
 first
  | exact wpAny_bind (m:=Builtin.Tuple.tupleExact _) (wpAny_newObj_type (wpAny_pure ⟨_,rfl,wpAny_pure h⟩) b)
  | exact wpAny_bind (m:=Builtin.Tuple.tupleExact _) (wpAny_newObj_type (wpAny_bind (wpAny_pure (wpAny_pure ⟨_,rfl,wpAny_pure h⟩))) b)
  | exact wpAny_bind (wpAny_bind (m:=Builtin.Tuple.tupleExact _) (wpAny_newObj_type (wpAny_pure (wpAny_pure ⟨_,rfl,wpAny_pure h⟩)) b))
  | exact wpAny_bind (wpAny_bind (m:=Builtin.Tuple.tupleExact _) (wpAny_newObj_type (wpAny_pure ⟨_,rfl,wpAny_pure h⟩) b))
end
end HT
namespace L2
open PySem PySem.Spec PyProof.Rows
abbrev TO:=St->Hp->(Option Int->Hp->Prop)->Prop
def PO (X:Cx) (e:Option Expr) (t:TO):Prop :=
 ∀ (a8:List (Addr × Obj)) (s:Shared) (σ:St) (H:Hp) (Q:Option Int->Hp->Prop),Inv X a8 σ H s->t σ H Q ->
  wpAny (model X.prog X.w) X.A (evalPart e X.env) (λu s'=>∃ o H',Inv X a8 σ H' s'/\IsPart u o/\Q o H') X.xe s
def Yw:TO:=λ_ H Q=>Q none H
inductive Vj (Q:Option Int->Hp->Prop) (x:V) (H1:Hp):Prop
 | mk (i:_):x=.int i->Q (some i) H1->Vj Q x H1
def k_ (t:TE):TO:=λσ H Q=>t σ H λx H1=>Vj Q x H1
section
variable {lo hi:Option Expr} {tl th:TO} {p2:Pos}
theorem Gd:PO X none Yw:=by
 intro a s σ H Q I h
 rw[evalPart_none]
 exact wpAny_pure ⟨none,H,I,.none,h⟩
theorem Eh (h:PE X e te):PO X (some e) (k_ te):=by
 intro f s σ H Q I g
 rw[evalPart_some]
 refine CK (h f s σ H _ I g) λu k c=>?_
 obtain⟨x,a,b,j,d⟩:=c
 obtain⟨i,rfl,q⟩:=d
 obtain⟨t,rfl⟩:=j
 exact⟨some i,a,b,.int i t,q⟩
def vK (X:Cx) (r:V->Option Int->Option Int->Hp->VK->Prop):Prop :=
 ∀ (a8:List (Addr × Obj)) (s:Shared) (σ:St) (H:Hp) (x:V) (v vl vu:Value) (lo hi:Option Int) (sl:Addr) (Q:VK),Inv X a8 σ H s->RelV x v->s.heap.IsSliceOf sl vl vu .none->IsPart vl lo->IsPart vu hi->r x lo hi H Q ->
  ∃ T id,typeLookup (.type T) "__getitem__" = pure (some (.builtin id))/\s.TypeIs v T/\wpAny (model X.prog X.w) X.A (getItem v (.ref sl)) (EP X a8 σ Q) X.xe s
def tSl (r:V->Option Int->Option Int->Hp->VK->Prop) (te:TE) (tl th:TO):TE:=λσ H Q=>te σ H λx H1=>tl σ H1 λl H2=>th σ H2 λu H3=>r x l u H3 Q
theorem Ec {r:V->Option Int->Option Int->Hp->VK->Prop} (B:vK X r) (o:PE X e te) (hl:PO X lo tl) (y:PO X hi th):PE X (.Subscript e (.Slice lo hi none p2) pos) (tSl r te tl th):=by
 intro c s σ H Q I h
 refine Subscript_ (CK (o c s σ H _ I h) λv w g=>?_)
 obtain⟨x,D,E,m,F⟩:=g
 refine wpAny_Slice (CK (hl c w σ D _ E F) λd p ⟨l,t,n,K,k⟩=>CK (y c p σ t _ n k) λf a g=>?_)
 obtain⟨u,i,G,C,j⟩:=g
 rw[evalPart_none]
 refine wpAny_pure ?_
 have L:Inv X c σ i { a with heap:=a.heap.push { cls:=.type "slice",data:=.fields #[d,f,.none] } }:=G.kept (t':=a.toks) λb M q=>Heap.get?_push_of_some _ q
 obtain⟨T,id,A,z,J⟩:=B c { a with heap:=a.heap.push { cls:=.type "slice",data:=.fields #[d,f,.none] } } σ i x v d f l u a.heap.objs.size Q L m (Heap.IsSliceOf.new ..) K C j
 show wpAny (model X.prog X.w) X.A (subscriptTail e (.Slice lo hi none p2) v (.ref a.heap.objs.size)) (EP X c σ Q) X.xe { a with heap:=a.heap.push { cls:=.type "slice",data:=.fields #[d,f,.none] } }
 exact tail_any (ops:=[.ref a.heap.objs.size,v]) z A J (by with_unfolding_all rfl)
def Dy (xs:List V) (lo hi:Option Int):List V:=(xs.drop (HT.Ea xs.length 0 lo)).take (HT.Ea xs.length xs.length hi - HT.Ea xs.length 0 lo)
theorem Kf (xs:List V) (lo hi:Option Int):(Dy xs lo hi).length<=xs.length:=by
 unfold Dy
 rw[ck,kC]
 omega
inductive m7 (K:W.Frag) (x:V) (lo:Option Int) (hi:Option Int) (H:Hp) (Q:VK):Prop
 | mk (a xs:_):x=.ref a->HY K H a xs->¬ (HT.Ea xs.length 0 lo=0/\HT.Ea xs.length xs.length hi=xs.length)->(∀ p,H p=none->Q (.ref p) (upd H p (.tup (Dy xs lo hi))))->m7 K x lo hi H Q
theorem N7:vK X (m7 X.K):=by
 intro z s σ H x v t u lo e w Q I p l n k h
 obtain⟨a,d,rfl,j,m,q⟩:=h
 cases p
 obtain⟨f,r,i,g⟩:=I.tuple j
 have c:f.toArray.size=d.length:=by rw[ci];exact r.length.symm
 refine⟨"tuple",_,PyProof.Rows.slot_tuple_getitem.lookup,i.typeIs,?_⟩
 refine HT.Ju i l n k (by rw[c];exact m) ?_ (by rw[c];exact g)
 rw[c]
 refine⟨.ref s.heap.objs.size,_,I.laid (t':=s.toks) (o:=.tup (Dy d lo e)) (λb y q=>Heap.get?_push_of_some _ q) (ah _) ?_,rfl,q _ (I.hok.fresh (ah _))⟩
 exact⟨ba (Kf d lo e) g,_,(r.drop (HT.Ea d.length 0 lo)).take (HT.Ea d.length d.length e - HT.Ea d.length 0 lo),IsTup.new _ _⟩
inductive bx (K:W.Frag) (x:V) (y:V) (H:Hp) (Q:VK):Prop
 | mk (a b xs ys:_):x=.ref a->y=.ref b->HY K H a xs->HY K H b ys->xs ≠ []->xs.length+ys.length<=sizeLine->(ys=[]->Q (.ref a) H)->(ys ≠ []->∀ p,H p=none->Q (.ref p) (upd H p (.tup (xs++ys))))->bx K x y H Q
theorem Vals.Oh {us:List Value} (r:Vals xs us):us=[] ↔ xs=[]:=by
 cases r with
 | nil=>simp
 | cons _ _=>simp
theorem ZG:HN X (binaryOp .Add) (bx X.K):=by
 intro D s σ H x y v u Q I t j h
 obtain⟨a,b,r,n,rfl,rfl,f,k,g,e,m,l⟩:=h
 cases t
 cases j
 obtain⟨A,d,p,_⟩:=I.tuple f
 obtain⟨B,c,i,_⟩:=I.tuple k
 refine HT.Zx p i (λz=>g (d.Oh.mp z)) (λz=>⟨.ref a,H,I,rfl,m (c.Oh.mp z)⟩) (λz=>?_) (by rw[<-d.length,<-c.length];exact e)
 refine⟨.ref s.heap.objs.size,_,I.laid (t':=s.toks) (o:=.tup (r++n)) (λb C q=>Heap.get?_push_of_some _ q) (ah _) ?_,rfl,l (λw=>z (c.Oh.mpr w)) _ (I.hok.fresh (ah _))⟩
 exact⟨by rw[am];exact e,_,d.append c,IsTup.new _ _⟩
end
def fK (n:Nat) (i:Int):Option Nat:=if 0<=i then (if i<n then some i.toNat else none) else if -(n:Int)<=i then some (i+n).toNat else none
def VV {α:Type} (xs:List α) (i:Int):Option α:=(fK xs.length i).bind λj=>xs[j]?
theorem ZS {i:Int} (h:fK n i=some j):seqIndex? i n=some j/\j<n /\ -(n:Int)<=i/\i<n:=by
 unfold fK at h
 by_cases b:0<=i
 ·rw[if_pos b] at h
  by_cases a:i<n
  ·rw[if_pos a] at h
   have e:i.toNat=j:=Option.some.inj h
   exact⟨by rw[seqIndex_of b a,e],by omega,by omega,a⟩
  ·rw[if_neg a] at h;cases h
 ·rw[if_neg b] at h
  by_cases a : -(n:Int)<=i
  ·rw[if_pos a] at h
   have e:(i+n).toNat=j:=Option.some.inj h
   exact⟨by rw[seqIndex_neg (by omega) a,e],by omega,a,by omega⟩
  ·rw[if_neg a] at h;cases h
theorem Oq {α:Type} {xs:List α} {i:Int} {v:α} (h:VV xs i=some v):∃ j,seqIndex? i xs.length=some j/\xs[j]? = some v/\j<xs.length /\ -(xs.length:Int)<=i/\i<xs.length:=by
 unfold VV at h
 cases e:fK xs.length i with
 | none=>rw[e] at h;cases h
 | some j =>
  rw[e] at h
  obtain⟨d,a,c,b⟩:=ZS e
  exact⟨j,d,h,a,c,b⟩
theorem Ag {α:Type} {xs:List α} {v:α} (h:xs[j]? = some v):VV xs (j:Int)=some v:=by
 have a:j<xs.length:=(ag.mp h).1
 have e:fK xs.length (j:Int)=some j:=by
  unfold fK
  rw[if_pos (by omega),if_pos (by omega)];simp
 unfold VV;rw[e];exact h
def ZM (b:Expr):Prop:=∀ o i,subscripted b false o i=operate [o,i] (getItem o i)
def jh (X:Cx) (r:R2):Prop :=
 ∀ (value slice:Expr) (a8:List (Addr × Obj)) (s:Shared) (σ:St) (H:Hp) (x y:V) (v u:Value) (Q:VK),Inv X a8 σ H s->RelV x v->RelV y u->r x y H Q ->
  subscripted slice false v u=operate [v,u] (getItem v u)->wpAny (model X.prog X.w) X.A (subscriptTail value slice v u) (EP X a8 σ Q) X.xe s
def sV (X:Cx) (id:String) (r:V->List V->Hp->VK->Prop):Prop :=
 ∀ (a8:List (Addr × Obj)) (s:Shared) (σ:St) (H:Hp) (x:V) (xs:List V) (v:Value) (us:List Value) (Q:VK),Inv X a8 σ H s->RelV x v->Vals xs us->r x xs H Q ->
  wpAny (model X.prog X.w) X.A (call (.builtin id) (v::us)) (EP X a8 σ Q) X.xe s
section
variable {a b:Expr} {tb:TE}
theorem Ay {r:R2} (g:jh X r) (d:PE X a ta) (f:PE X b tb) (i:ZM b):PE X (.Subscript a b pos) (Zv r ta tb):=by
 intro j s σ H Q I h
 exact Subscript_ (iJ d f I h λv u m x y c l k e q=>g a b j m σ c x y v u Q l k e q (i _ _))
inductive jP (K:W.Frag) (x:V) (y:V) (H:Hp) (Q:VK):Prop
 | mk (p xs i v:_):x=.ref p->y=.int i->Dg K H p xs->VV xs i=some v->Q v H->jP K x y H Q
inductive Y4 (K:W.Frag) (x:V) (y:V) (H:Hp) (Q:VK):Prop
 | mk (p xs i v:_):x=.ref p->y=.int i->HY K H p xs->VV xs i=some v->Q v H->Y4 K x y H Q
inductive m9 (x:V) (y:V) (H:Hp) (Q:VK):Prop
 | mk (z i c:_):x=.str z->y=.int i->z.length<=sizeLine->VV z.cps.toList i=some c->Q (.str ⟨#[c]⟩) H->m9 x y H Q
theorem Ij:jh X (jP X.K):=by
 intro b d l s σ H x y v u Q I C n h g
 obtain⟨p,M,i,z,rfl,rfl,A,D,q⟩:=h
 cases C
 obtain⟨t,rfl⟩:=n
 obtain⟨c,r,f,K⟩:=I.list A
 obtain⟨j,a,G,L,B,F⟩:=Oq D
 obtain⟨w,m,o⟩:=r.get G
 have hl:=r.length
 have J:=J8
 have fin:EP X l σ Q w s:=⟨z,H,I,o,q⟩
 by_cases k:0<=i
 ·have e:i.toNat=j:=by
   rw[seqIndex_of k F] at a
   exact Option.some.inj a
  exact item_listR f.isList k (by omega) (by rw[e];simpa using m) fin g
 ·have e:(i+(c.toArray.size:Int)).toNat=j:=by
   rw[seqIndex_neg (by omega) B] at a
   rw[ci,<-hl]
   exact Option.some.inj a
  exact subscriptTail_builtinR (x:=w) f.isList.typeIs slot_list_getitem.lookup
   (wpAny_getItem_list_neg (Q:=λr E=>r=w/\EP X l σ Q r E) f.isList (by omega) (by rw[List.size_toArray] <;> omega) (by omega) (by rw[e];simpa using m) ⟨rfl,fin⟩) g
theorem dN:jh X (Y4 X.K):=by
 intro a b c s σ H x y v u Q I l e h g
 obtain⟨p,K,i,z,rfl,rfl,k,n,q⟩:=h
 cases l
 obtain⟨t,rfl⟩:=e
 obtain⟨m,r,d,E⟩:=I.tuple k
 obtain⟨j,B,A,G,F,J⟩:=Oq n
 obtain⟨w,C,f⟩:=r.get A
 have hl:=r.length
 have D:=J8
 have fin:EP X c σ Q w s:=⟨z,H,I,f,q⟩
 exact subscriptTail_builtinR (x:=w) d.typeIs slot_tuple_getitem.lookup
  (getItem_tuple (j:=j) (Q:=λr o=>r=w/\EP X c σ Q r o) d (by omega) (by omega) (by rw[List.size_toArray,<-hl];exact B) (by simpa using C) ⟨rfl,fin⟩) g
theorem jT:jh X m9:=by
 intro a b B s σ H x y v u Q I o e h f
 obtain⟨z,i,c,rfl,rfl,w,p,q⟩:=h
 obtain⟨t,rfl⟩:=o
 obtain⟨A,rfl⟩:=e
 obtain⟨j,d,k,C,n,g⟩:=Oq p
 have hl:z.cps.toList.length=z.length:=by simp[Str.length]
 rw[hl] at d n g
 have r:=J8
 exact tail_any (typeIs_str s z t) slot_str_getitem.lookup (getItem_str (c:=c) (by
  have l:decide (i < -(2 ^ 63:Int))=false:=decide_eq_false (by omega)
  have m:decide (i ≥ 2 ^ 63)=false:=decide_eq_false (by omega)
  rw[l,m,Bool.or_false]) (by rw[d];simpa using k) ⟨.str ⟨#[c]⟩,H,I.tok _,⟨_,rfl⟩,q⟩) f
theorem Om (lo hi:Option Int) (n:Nat):(sliceBounds lo hi none n).1=((HT.Ea n 0 lo:Nat):Int)/\(sliceBounds lo hi none n).2.1=((HT.Ea n n hi:Nat):Int)/\(sliceBounds lo hi none n).2.2=1:=by
 refine⟨?_,?_,rfl⟩
 ·cases lo with
  | none=>simp[sliceBounds,HT.Ea]
  | some i =>
   simp only[sliceBounds,HT.Ea,Option.getD_none,show (1:Int) > 0 by decide,if_true]
   by_cases h:i<0
   ·simp only[h,if_true] <;> omega
   ·simp only[h,if_false] <;> omega
 ·cases hi with
  | none=>simp[sliceBounds,HT.Ea]
  | some i =>
   simp only[sliceBounds,HT.Ea,Option.getD_none,show (1:Int) > 0 by decide,if_true]
   by_cases h:i<0
   ·simp only[h,if_true] <;> omega
   ·simp only[h,if_false] <;> omega
theorem Mu (its:List Value) (lo hi:Option Int):slicePick its.toArray lo hi none=((its.drop (HT.Ea its.length 0 lo)).take (HT.Ea its.length its.length hi - HT.Ea its.length 0 lo)).toArray:=by
 obtain⟨a,c,b⟩:=Om lo hi its.toArray.size
 unfold slicePick
 rw[a,c,b]
 simp only[sliceRange_one,pick_run,List.size_toArray] <;> rfl
inductive pQ (K:W.Frag) (x:V) (lo:Option Int) (hi:Option Int) (H:Hp) (Q:VK):Prop
 | mk (a xs:_):x=.ref a->Dg K H a xs->(∀ p,H p=none->Q (.ref p) (upd H p (.lst (Dy xs lo hi))))->pQ K x lo hi H Q
theorem Ia:vK X (pQ X.K):=by
 intro y s σ H x v p t lo e u Q I m k l j h
 obtain⟨a,c,rfl,g,q⟩:=h
 cases m
 obtain⟨n,r,f,i⟩:=I.list g
 have d:=r.length
 refine⟨"list",_,slot_list_getitem.lookup,f.isList.typeIs,?_⟩
 refine wpAny_getItem_list_slice f.isList k l j .none (by simp) ?_ (by rw[List.size_toArray] <;> omega)
 rw[Mu,<-d]
 refine⟨.ref s.heap.objs.size,_,I.laid (t':=s.toks) (o:=.lst (Dy c lo e)) (λb w q=>Heap.get?_push_of_some _ q) (ah _) ?_,rfl,q _ (I.hok.fresh (ah _))⟩
 exact⟨ba (Kf c lo e) i,_,0,(r.drop (HT.Ea c.length 0 lo)).take (HT.Ea c.length c.length e - HT.Ea c.length 0 lo),Heap.get?_push_size _ rfl⟩
def Ge:V->Bool
 | .non=>true
 | .bl _=>true
 | .int _=>true
 | .str _=>true
 | _=>false
def Qn:V->V->Bool
 | .non,.non=>true
 | .bl a,.bl b=>a == b
 | .bl a,.int b=>(if a then 1 else 0) == b
 | .int a,.bl b=>a == (if b then 1 else 0)
 | .int a,.int b=>a == b
 | .str a,.str b=>a == b
 | _,_=>false
theorem X4 {y x:V} {v:Value} (f:RelV y u) (c:RelV x v) (g:Ge y=true) (e:Ge x=true):SeqAt.EqAt A s u v (Qn y x):=by
 cases y with
 | non =>
  cases f
  cases x with
  | non=>cases c;exact SeqAt.EqAt.same _
  | bl b=>cases c;exact SeqAt.EqAt.none_bool b
  | int b=>obtain⟨t,rfl⟩:=c;exact SeqAt.EqAt.none_int b t
  | str b=>obtain⟨t,rfl⟩:=c;exact SeqAt.EqAt.none_str b t
  | _=>exact absurd (show false=true from e) Bool.false_ne_true
 | bl a =>
  cases f
  cases x with
  | non=>cases c;exact SeqAt.EqAt.bool_none a
  | bl b=>cases c;exact SeqAt.EqAt.bool_bool a b
  | int b=>obtain⟨t,rfl⟩:=c;exact SeqAt.EqAt.bool_int a b t
  | str b=>obtain⟨t,rfl⟩:=c;exact SeqAt.EqAt.bool_str a b t
  | _=>exact absurd (show false=true from e) Bool.false_ne_true
 | int a =>
  obtain⟨d,rfl⟩:=f
  cases x with
  | non=>cases c;exact SeqAt.EqAt.int_none a d
  | bl b=>cases c;exact SeqAt.EqAt.int_bool a d b
  | int b=>obtain⟨t,rfl⟩:=c;exact SeqAt.EqAt.int_int a d b t
  | str b=>obtain⟨t,rfl⟩:=c;exact SeqAt.EqAt.int_str a d b t
  | _=>exact absurd (show false=true from e) Bool.false_ne_true
 | str a =>
  obtain⟨d,rfl⟩:=f
  cases x with
  | non=>cases c;exact SeqAt.EqAt.str_none a d
  | bl b=>cases c;exact SeqAt.EqAt.str_bool a d b
  | int b=>obtain⟨t,rfl⟩:=c;exact SeqAt.EqAt.str_int a d b t
  | str b=>obtain⟨t,rfl⟩:=c;exact SeqAt.EqAt.str_str a d b t
  | _=>exact absurd (show false=true from e) Bool.false_ne_true
 | _=>exact absurd (show false=true from g) Bool.false_ne_true
def Qo (x:V) (u:Value):Bool:=match u with
 | .none=>Qn .non x
 | .bool b=>Qn (.bl b) x
 | .int i _=>Qn (.int i) x
 | .str z _=>Qn (.str z) x
 | _=>false
theorem Xi {x y:V} (r:RelV y u) (f:Ge y=true):Qo x u=Qn y x:=by
 cases y with
 | non=>cases r;rfl
 | bl b=>cases r;rfl
 | int i=>obtain⟨t,rfl⟩:=r;rfl
 | str z=>obtain⟨t,rfl⟩:=r;rfl
 | _=>exact absurd (show false=true from f) Bool.false_ne_true
theorem Je {x:V}:∀ {xs:List V} {us:List Value},Vals xs us->xs.all Ge=true->us.any (Qo x)=xs.any λy=>Qn y x
 | _,_,.nil,_=>rfl
 | y::xs,u::us,.cons r t,f=>by
  rw[List.all_cons,fk] at f
  rw[jS,jS,Xi r f.1,Je t f.2]
theorem Hu {x:V} {v:Value} (c:RelV x v) (b:Ge x=true):∀ {xs:List V} {us:List Value},Vals xs us->xs.all Ge=true->∀ u∈us,SeqAt.EqAt A s u v (Qo x u)
 | _,_,.nil,_=>λu a=>by cases a
 | y::xs,u::us,.cons r t,f=>λd a=>by
  rw[List.all_cons,fk] at f
  rcases cf.mp a with rfl | a
  ·rw[Xi r f.1];exact X4 r c f.1 b
  ·exact Hu c b t f.2 d a
def inV (x:V) (xs:List V):Bool:=xs.any λy=>Qn y x
inductive lE (K:W.Frag) (neg:Bool) (x:V) (y:V) (H:Hp) (Q:VK):Prop
 | mk (p xs:_):y=.ref p->(Dg K H p xs \/ HY K H p xs)->Ge x=true->xs.all Ge=true->Q (.bl (if neg then !inV x xs else inV x xs)) H->lE K neg x y H Q
theorem Nu:HN X (compareOp .In) (lE X.K false):=by
 intro j s σ H x y v u Q I f i h
 obtain⟨p,k,rfl,b,e,fs,q⟩:=h
 cases i
 rcases b with b | b
 ·obtain⟨a,r,d,g⟩:=I.list b
  refine SeqAt.in_listAt (Qo x) d.isList (λw c=>Hu f e r fs w (by simpa using c)) ⟨.bl _,H,I,rfl,?_⟩
  rw[show a.toArray.any (Qo x)=a.any (Qo x) by simp,Je r fs]
  exact q
 ·obtain⟨a,r,d,g⟩:=I.tuple b
  refine SeqAt.in_tupleAt (Qo x) d (λw c=>Hu f e r fs w (by simpa using c)) ⟨.bl _,H,I,rfl,?_⟩
  rw[show a.toArray.any (Qo x)=a.any (Qo x) by simp,Je r fs]
  exact q
theorem Oz:HN X (compareOp .NotIn) (lE X.K true):=by
 intro j s σ H x y v u Q I f i h
 obtain⟨p,k,rfl,b,e,fs,q⟩:=h
 cases i
 rcases b with b | b
 ·obtain⟨a,r,d,g⟩:=I.list b
  refine SeqAt.notIn_listAt (Qo x) d.isList (λw c=>Hu f e r fs w (by simpa using c)) ⟨.bl _,H,I,rfl,?_⟩
  rw[show a.toArray.any (Qo x)=a.any (Qo x) by simp,Je r fs]
  exact q
 ·obtain⟨a,r,d,g⟩:=I.tuple b
  refine SeqAt.notIn_tupleAt (Qo x) d (λw c=>Hu f e r fs w (by simpa using c)) ⟨.bl _,H,I,rfl,?_⟩
  rw[show a.toArray.any (Qo x)=a.any (Qo x) by simp,Je r fs]
  exact q
theorem BZ:FW X (.builtin "len") (λxs H Q=>∃ p ys,xs=[.ref p]/\(Dg X.K H p ys \/ HY X.K H p ys)/\Q (.int ys.length) H):=by
 intro k s σ H xs j Q I r h
 obtain⟨p,ys,rfl,b,q⟩:=h
 obtain⟨u,rfl,g⟩:=vals1 r
 cases g
 have i:=J8
 rcases b with b | b
 ·obtain⟨e,d,c,f⟩:=I.list b
  have a:=d.length
  exact Calls.call_len_list c.isList (by simp only[List.size_toArray] <;> omega) ⟨.int ys.length,H,I.tok _,⟨s.toks+1,by rw[List.size_toArray,a]⟩,q⟩
 ·obtain⟨e,d,c,f⟩:=I.tuple b
  have a:=d.length
  exact len_tuple c (by simp only[List.size_toArray] <;> omega) ⟨.int ys.length,H,I.tok _,⟨s.toks+1,by rw[List.size_toArray,a]⟩,q⟩
theorem Ja:FW X (.builtin "len") (λxs H Q=>∃ z,xs=[.str z]/\z.length<=sizeLine/\Q (.int z.length) H):=by
 intro b s σ H xs c Q I r h
 obtain⟨z,rfl,d,q⟩:=h
 obtain⟨u,rfl,t,rfl⟩:=vals1 r
 have a:=J8
 exact len_str (by omega) ⟨.int z.length,H,I.tok _,⟨_,rfl⟩,q⟩
theorem Ep:FW X (.type "list") (λxs H Q=>∃ p ys,xs=[.ref p]/\(Dg X.K H p ys \/ HY X.K H p ys)/\∀ l,H l=none->Q (.ref l) (upd H l (.lst ys))):=by
 intro y s σ H xs A Q I r h
 obtain⟨p,ys,rfl,i,q⟩:=h
 obtain⟨u,rfl,z⟩:=vals1 r
 cases z
 have fin:∀ (a:List Value),Vals ys a->ys.length<=sizeLine->∀ (c:Heap) (d:Nat),(∀ b x,s.heap.get? b=some x->c.get? b=some x) ->
   c.get? s.heap.objs.size=some { cls:=.type "list",dict:=none,data:=.seq a.toArray d,slots:=#[] }->EP X y σ Q (.ref s.heap.objs.size) { s with heap:=c }:=λa f g c d k e =>
  ⟨.ref s.heap.objs.size,_,I.laid (t':=s.toks) k (Nat.le_refl _) (show CQ X.prog X.w _ c _ (.lst ys) from ⟨g,a,d,f,e⟩),rfl,q _ (I.hok.fresh (Nat.le_refl _))⟩
 rcases i with i | i
 ·obtain⟨a,f,w,g⟩:=I.list i
  have j:=f.length
  obtain⟨o,v,m,n,t⟩:=w.isList
  exact call_list_seq p (.inl rfl) v m t (λc d k e=>fin a f g c d k e) (by simp only[List.size_toArray] <;> omega)
 ·obtain⟨a,f,w,g⟩:=I.tuple i
  have j:=f.length
  obtain⟨o,v,m,n,t⟩:=w
  exact call_list_seq p (.inr rfl) v m t (λc d k e=>fin a f g c d k e) (by simp only[List.size_toArray] <;> omega)
theorem Mt:FW X (.type "tuple") (λxs H Q=>∃ p ys,xs=[.ref p]/\((Dg X.K H p ys/\∀ l,H l=none->Q (.ref l) (upd H l (.tup ys))) \/ (HY X.K H p ys/\Q (.ref p) H))):=by
 intro m s σ H xs w Q I r h
 obtain⟨p,ys,rfl,h⟩:=h
 obtain⟨u,rfl,v⟩:=vals1 r
 cases v
 rcases h with⟨d,q⟩ | ⟨d,q⟩
 ·obtain⟨a,g,f,i⟩:=I.list d
  have j:=g.length
  refine call_tuple_list f.isList (λc n=>?_) (by simp only[List.size_toArray] <;> omega)
  have k:Inv X m σ H { s with heap:=c }:=I.kept (t':=s.toks) n
  have t:Inv X m σ (upd H c.objs.size (.tup ys)) { s with heap:=c.push { cls:=.type "tuple",data:=.seq a.toArray } } :=
   k.laid (t':=s.toks) (λb o e=>Heap.get?_push_of_some _ e) (Nat.le_refl _) (show CQ X.prog X.w _ _ _ (.tup ys) from ⟨i,a,g,IsTup.new _ _⟩)
  exact⟨.ref c.objs.size,_,t,rfl,q _ (k.hok.fresh (ah _))⟩
 ·obtain⟨a,g,f,i⟩:=I.tuple d
  exact call_tuple_same f ⟨.ref p,H,I,rfl,q⟩
def wD (K:W.Frag) (T:String) (x:V) (H:Hp):Prop:=match x with
 | .str _=>T = "str"
 | .int _=>T = "int"
 | .ref p=>(T = "list" /\ ∃ xs,Dg K H p xs) \/ (T = "tuple" /\ ∃ o,K.lookup p=some o/\o.cls=.type "tuple" /\ o.dict=none) \/
   (T = "dict" /\ ((∃ kvs,H p=some (.dK kvs)) \/ ∃ kvs,H p=some (.dT kvs))) \/ (T = "set" /\ ∃ S n,H p=some (.set S n))
 | _=>False
theorem V1 {T:String} {x:V} {v:Value} (I:Inv X a8 σ H s) (r:RelV x v) (f:wD X.K T x H) :
  s.TypeIs v T/\∀ a,v=.ref a->∃ ob,s.heap.get? a=some ob/\ob.dict=none:=by
 cases x with
 | str z =>
  obtain⟨t,rfl⟩:=r
  cases (show T = "str" from f)
  exact⟨typeIs_str s z t,λ_ e=>nomatch e⟩
 | int i =>
  obtain⟨t,rfl⟩:=r
  cases (show T = "int" from f)
  exact⟨typeIs_int s i t,λ_ e=>nomatch e⟩
 | ref p =>
  cases r
  rcases f with⟨rfl,u,m⟩ | ⟨rfl,o,b,l,h⟩ | ⟨rfl,b⟩ | ⟨rfl,S,n,b⟩
  ·obtain⟨q,_,k,_⟩:=I.list m
   refine⟨k.isList.typeIs,λa e=>?_⟩
   cases e
   obtain⟨o,n,e,c,h,_⟩:=k
   exact⟨o,e,h⟩
  ·refine⟨⟨o,I.HH p o b,l⟩,λa e=>?_⟩
   cases e
   exact⟨o,I.HH _ o b,h⟩
  ·have z:∃ o,s.heap.get? p=some o/\o.ExactDict:=by
    rcases b with⟨g,b⟩ | ⟨g,b⟩
    ·obtain⟨_,_,_,_,o,_,_,e,d,_⟩:=I.hok p _ b
     exact⟨o,e,d⟩
    ·obtain⟨_,_,_,_,o,_,_,e,d,_⟩:=I.hok p _ b
     exact⟨o,e,d⟩
   obtain⟨o,e,d⟩:=z
   refine⟨⟨o,e,d.1⟩,λa j=>?_⟩
   cases j
   exact⟨o,e,d.2.1⟩
  ·obtain⟨o,_,_,_,e,d,_⟩:=I.hok p _ b
   refine⟨⟨o,e,d.1⟩,λa j=>?_⟩
   cases j
   exact⟨o,e,d.2.1⟩
 | _=>exact False.elim f
def yl (K:W.Frag) (T:String) (r:V->List V->Hp->VK->Prop) (to:TE):TE:=λσ H Q=>to σ H λx H1=>wD K T x H1/\r x [] H1 Q
def tBM (K:W.Frag) (T:String) (r:V->List V->Hp->VK->Prop) (to:TE) (t:TA):TE:=λσ H Q=>to σ H λx H1=>wD K T x H1/\t σ H1 λxs H2=>r x xs H2 Q
variable {o:Expr} {to:TE} {t:TA} {name:Str} {f':Pos} {T id:String} {r:V->List V->Hp->VK->Prop}
theorem W5 (l:PlainAttrs T) (b:Slot T name id) (i:typeOf (.builtin id)=pure (.type "method_descriptor")) (n:sV X id r) (p:PE X o to)
  (a:attributeBase o name X.env (eval o X.env)=eval o X.env:=by rfl) (t:(d6.endLine == f'.line)=true:=by rfl):PE X (.Call (.Attribute o name d6) [] [] f') (yl X.K T r to):=by
 intro d s σ H Q I h
 refine wpAny_Call_method0_late a t (CK (p d s σ H _ I h) λv f j=>?_)
 obtain⟨x,g,c,e,m,k⟩:=j
 obtain⟨u,q⟩:=V1 c e m
 exact⟨T,id,l,b,i,u,q,Calls.callWith_builtin rfl (PySem.evalArgs_none (n d f σ g x [] v [] Q c e .nil k))⟩
theorem IK (B:PlainAttrs T) (c:Slot T name id) (w:typeOf (.builtin id)=pure (.type "method_descriptor")) (D:sV X id r) (E:PE X o to) (m:PA X (e::es) t)
  (b:attributeBase o name X.env (eval o X.env)=eval o X.env:=by rfl)
  (p:((backTo f' (starEach (e::es) X.env)).all (λx=>!x.1) && (backToKw f' (keywordEach [] X.env)).all (λx=>x.1.isSome)
   && decide ((e::es).length+([]:List Keyword).length+(if ([]:List Keyword).isEmpty then 0 else 1)<30))=true:=by rfl)
  (J:(d6.endLine == f'.line)=true:=by rfl) (u:starEach (e::es) X.env=(false,eval e X.env)::starEach es X.env:=by rfl) (a:(backTo f' (starEach es X.env)).any (·.1)=false:=by rfl) :
  PE X (.Call (.Attribute o name d6) (e::es) [] f') (tBM X.K T r to t):=by
 intro d s σ H Q I h
 refine wpAny_Call_method_late b p J rfl (CK (E d s σ H _ I h) λv l y=>?_)
 obtain⟨x,q,f,g,C,A⟩:=y
 obtain⟨K,F⟩:=V1 f g C
 refine⟨T,id,B,c,w,K,F,?_⟩
 have i:=m f' d l σ q _ f A
 rw[u] at i |-
 refine Calls.callWith_builtin (by show (false || (backTo f' (starEach es X.env)).any (·.1))=false;rw[a] <;> rfl) (Calls.evalArgs_plain ?_)
 exact CK i λn M ⟨G,j,L,k,z⟩=>D d M σ j x G v n Q L g k z
end
def tG (X:Cx) (id:String) (r:V->List V->Hp->VK->Prop):Prop :=
 ∀ (a8:List (Addr × Obj)) (s:Shared) (σ:St) (H:Hp) (x:V) (xs:List V) (v:Value) (us:List Value) (Q:VK),Inv X a8 σ H s->RelV x v->Vals xs us->r x xs H Q ->
  wpAny (model X.prog X.w) X.A (call (.builtin id) (v::us)) (EP X a8 σ Q) X.xe s
theorem Vals.one:∀ {x:V} {us:List Value},Vals [x] us->∃ u,us=[u]/\RelV x u:=λh=>by cases h with | cons r t=>cases t;exact⟨_,rfl,r⟩
theorem Vals.two:∀ {x y:V} {us:List Value},Vals [x,y] us->∃ u v,us=[u,v]/\RelV x u/\RelV y v:=λh=>by cases h with | cons r t=>cases t with | cons q t=>cases t;exact⟨_,_,rfl,r,q⟩
theorem Vals.eraseIdx:∀ {xs:List V} {us:List Value} (i:Nat),Vals xs us->Vals (xs.eraseIdx i) (us.eraseIdx i)
 | _,_,_,.nil=>.nil
 | _,_,0,.cons _ t=>t
 | _,_,i+1,.cons r t=>.cons r (Vals.eraseIdx i t)
theorem Mx {α:Type}:∀ (l:List α) (i:Nat),(l.eraseIdx i).length<=l.length
 | [],_=>ah _
 | _::_,0=>iN _
 | _::r,i+1=>dn (Mx r i)
section
variable {l:Addr} {ys zs:List V}
theorem Inv.gP {its its':List Value} {f:Array Value->Array Value} {t':Nat} (I:Inv X a8 σ H s) (g:H l=some (.lst xs))
  (e:s.heap.get? l=some { cls:=.type "list",data:=.seq its.toArray n }) (a:f its.toArray=its'.toArray) (h:Vals ys its') (c:ys.length<=sizeLine) :
  Inv X a8 σ (upd H l (.lst ys)) { s with heap:=s.heap.update l (Obj.mapSeq f),toks:=t' }:=by
 have q:=PySem.IsL.update e f
 rw[a] at q
 refine I.write (x:=l) (e:=l) (by rw[g];exact trivial) (.inl rfl) (λi u d b=>(Heap.get?_update_other s.heap (Obj.mapSeq f) (Ne.symm d)).trans b) ⟨_,q⟩ ?_
 exact⟨c,its',_,h,q⟩
theorem Inv.gj {its:List Value} {t':Nat} (I:Inv X a8 σ H s) (b:Vals ys its) (a:ys.length<=sizeLine) :
  Inv X a8 σ (upd H s.heap.objs.size (.lst ys)) { s with heap:=s.heap.push { cls:=.type "list",data:=.seq its.toArray },toks:=t' } :=
 I.laid (λ_ _ q=>Heap.get?_push_of_some _ q) (ah _) ⟨a,its,0,b,Heap.get?_push_size _ rfl⟩
theorem Inv.fresh (I:Inv X a8 σ H s):H s.heap.objs.size=none:=I.hok.fresh (ah _)
theorem Inv.U4 (I:Inv X a8 σ H s) (a:H l=some (.lst xs)):xs.length<=sizeLine/\∃ (its:List Value) (n:Nat),Vals xs its/\xs.length=its.length/\s.heap.get? l=some { cls:=.type "list",data:=.seq its.toArray n }:=by
 obtain⟨z,its,n,r,e⟩:=I.hok l _ a
 exact⟨z,its,n,r,r.length,e⟩
theorem Vw (h:n<=sizeLine):Builtin.List.listTooLong n=false:=by
 unfold Builtin.List.listTooLong
 exact decide_eq_false (by omega)
end
inductive SM (x:V) (vs:List V) (H:Hp) (Q:VK):Prop
 | mk (l xs y:_):x=.ref l->vs=[y]->H l=some (.lst xs)->xs.length<sizeLine->Q .non (upd H l (.lst (xs++[y])))->SM x vs H Q
theorem Dj:tG X "list.append" SM:=by
 intro j s σ H x k v g Q I f d h
 obtain⟨l,m,y,rfl,rfl,b,i,q⟩:=h
 cases f
 obtain⟨u,rfl,c⟩:=d.one
 obtain⟨z,a,n,r,hl,e⟩:=I.U4 b
 refine call_meets F.slot_list_append ⟨_,e,rfl⟩ F.entry_list_append (F.args_list_append_2 _ _) (PySem.list_append l a.toArray n u (by rw[ci];omega)) ⟨e,?_⟩
 refine⟨.non,_,I.gP (its':=a++[u]) b e (by simp) (r.append (.cons c .nil)) ?_,rfl,q⟩
 rw[am,ay]
 omega
inductive TQ (x:V) (vs:List V) (H:Hp) (Q:VK):Prop
 | mk (l b xs zs:_):x=.ref l->vs=[.ref b]->H l=some (.lst xs)->H b=some (.lst zs)->xs.length+zs.length<=sizeLine->Q .non (upd H l (.lst (xs++zs)))->TQ x vs H Q
theorem Ua:tG X "list.extend" TQ:=by
 intro C s σ H x w v E Q I i m h
 obtain⟨l,b,y,G,rfl,rfl,g,p,A,q⟩:=h
 cases i
 obtain⟨u,rfl,k⟩:=m.one
 cases k
 obtain⟨z,a,n,r,hl,e⟩:=I.U4 g
 obtain⟨B,d,t,j,D,o⟩:=I.U4 p
 have f:a.toArray.size+d.toArray.size<=sizeLine:=by rw[ci,ci];omega
 have c:¬ (!a.toArray.isEmpty && Builtin.List.listTooLong (a.toArray.size+d.toArray.size))=true:=by
  rw[Vw f,Bool.and_false]
  exact fb
 refine call_meets F.slot_list_extend ⟨_,e,rfl⟩ F.entry_list_extend (F.args_list_extend_2 _ _)
  (AutoSeq1.list_extend_list_list_0 l a.toArray n b d.toArray t c (by rw[ci];omega) (by omega)) ⟨e,o,?_⟩
 refine⟨.non,_,I.gP (its':=a++d) g e (by simp) (r.append j) ?_,rfl,q⟩
 rw[am]
 omega
inductive XC (x:V) (vs:List V) (H:Hp) (Q:VK):Prop
 | mk (l xs i k y:_):x=.ref l->vs=[.int i]->H l=some (.lst xs)->-(2 ^ 63)<=i->i<2 ^ 63->seqIndex? i xs.length=some k->xs[k]? = some y->Q y (upd H l (.lst (xs.eraseIdx k)))->XC x vs H Q
theorem YW:tG X "list.pop" XC:=by
 intro D s σ H x E v C Q I B g h
 obtain⟨l,A,i,k,y,rfl,rfl,b,p,j,o,f,q⟩:=h
 cases B
 obtain⟨u,rfl,c⟩:=g.one
 obtain⟨t,rfl⟩:=c
 obtain⟨z,a,n,r,hl,e⟩:=I.U4 b
 obtain⟨w,m,d⟩:=r.get f
 refine call_meets F.slot_list_pop ⟨_,e,rfl⟩ F.entry_list_pop (F.args_list_pop_2 _ _)
  (MeetsSeq.list_pop_at l a.toArray n i t k w (fitsIndex_both p j) (by rw[ci,<-hl];exact o) (by rw[<-Array.getElem?_toList];exact m) (by rw[ci];omega)) ⟨e,?_⟩
 refine⟨y,_,I.gP (its':=a.eraseIdx k) b e ?_ (r.eraseIdx k) ?_,d,q⟩
 ·show a.toArray.eraseIdxIfInBounds k=(a.eraseIdx k).toArray
  rw[List.eraseIdxIfInBounds_toArray]
 ·have:=Mx A k
  omega
inductive iD (x:V) (y:V) (H:Hp) (Q:VK):Prop
 | mk (l b xs zs:_):x=.ref l->y=.ref b->H l=some (.lst xs)->H b=some (.lst zs)->xs.length+zs.length<=sizeLine->(∀ p,H p=none->Q (.ref p) (upd H p (.lst (xs++zs))))->iD x y H Q
theorem RQ:HN X (binaryOp .Add) iD:=by
 intro B s σ H x y v u Q I m f h
 obtain⟨l,b,C,w,rfl,rfl,g,k,p,q⟩:=h
 cases m
 cases f
 obtain⟨z,a,n,r,hl,e⟩:=I.U4 g
 obtain⟨A,c,o,d,t,i⟩:=I.U4 k
 refine PySem.P.add_list e i ?_ (by rw[ci,ci];omega)
 have j:a.toArray++c.toArray=(a++c).toArray:=by simp
 rw[j]
 exact⟨.ref _,_,I.gj (t':=s.toks) (r.append d) (by rw[am];omega),rfl,q _ I.fresh⟩
section
variable {w:World}
end
end L2
namespace Att
open PySem PySem.W PySem.Calls PyProof.Rows
theorem Kv {P:Params}:∀ (ns:List Int) (vs:List Value),WellAll P h vs (ns.map WData.int)->IntsAre vs ns:=by
 intro ns
 induction ns with
 | nil =>
  intro vs w
  rw[kG] at w
  cases w
  exact .nil
 | cons n ns c =>
  intro vs w
  rw[cw] at w
  cases w with
  | cons a b =>
   cases a
   exact .cons _ _ (c _ b)
theorem Uw {l:OpenLaw} (o:l.most=some n) {P:Params} {args:List WData} {k:List Value}
  (m:l.row.toRowW.claim.pre args=true) (g:WellAll P h k args) :
  ∃ a vs ns,k=[Value.ref a]/\args=[WData.list (ns.map WData.int)]/\h.get? a=some { cls:=.type "list",data:=.seq vs.toArray }/\IntsAre vs ns/\ns.length<=n:=by
 have i:WShape.hasAll [] args [.list .int]=true:=(pre_splitW m).1
 have j:l.pre.holds [] { args:=args }=true:=(pre_splitW m).2
 obtain⟨d,r,rfl,w,t⟩:=hasAllW_cons i
 obtain rfl:=hasAllW_nil t
 obtain⟨y,rfl,x⟩:=hasW_list w
 obtain⟨ns,rfl⟩:=items_int x
 have c:ns.length<=n:=by
  unfold OpenLaw.pre at j
  have f:(WTm.not (.lt (.lit (.int (n:Int))) (.len (.arg 0)))).holds [] { args:=[.list (ns.map .int)] }=true:=by
   have f:=(holds_andW j).1
   rw[o] at f
   exact f
  have e:=condW_of f (w_not (w_lt w_lit (w_len_list (w_arg rfl))))
  rw[af] at e
  refine Nat.le_of_not_lt λq=>?_
  have p:(n:Int)<((ns.length:Nat):Int):=by omega
  first
   | (rw[decide_eq_true p] at e;exact absurd e (by decide))
   | (simp at e;omega)
 cases g with
 | cons v s =>
  cases s
  cases v with
  | list u b=>exact⟨_,_,ns,rfl,rfl,u,Kv ns _ b,c⟩
theorem T_ (l:OpenLaw) (args:List WData):l.row.toRowW.claim.post args (.bool true) args=true :=
 postW_of (r:=l.row.toRowW) (X:=(true == true))
  (show WShape.has [] (.bool true) .bool=true by first | rfl | decide | simp[WShape.has,WShape.arms,WShape.armsAll])
  (show (WTm.eq .res (.lit (.bool true))).value [] { args:=args,res:=some (.bool true),after:=args }=some (.bool (true == true)) from w_eq_bool (w_res rfl) w_lit) rfl
theorem Pg {l:OpenLaw} {q:Program} {v:List Str} {u:(Str->Option Value)->Heap->Prop} {x:World->Heap->Prop} {d:DefRec}
  (y:l.most=some n) (K:d.params.defaults=[])
  (call:∀ (w:World) (p b:Shared) (h m:Str->Option Value) (c:Addr) (o:Obj) (j g k:Value) (a:Addr) (vs:List Value) (ns:List Int),
   Ground q v [] u w p h m b.heap->x w b.heap ->
   b.heap.get? c=some o->o.data=.func (docDef d.name d.params d.body d.scope j g k)->b.heap.CodeRec g d.name->h d.name=some (.ref c) ->
   b.heap.get? a=some { cls:=.type "list",data:=.seq vs.toArray }->IntsAre vs ns->ns.length<=n->b.gens = #[] ->
   codeAny (model l.prog w) callerA (.call (.ref c) ⟨[.ref a],[]⟩) (λr s'=>r=.ok (.ret (.bool true))/\OldK b.heap s'.heap/\s'.os=b.os/\AllBare s'.gens) b) :
  WalkO q v u x l.row.toRowW d [] (λf vs=>PySem.call f vs):=by
 intro w p b h m G Y c o j g k M kV O L A s B N args S R J t D i z
 obtain rfl:M=.none:=Dflts.none s K
 obtain rfl:kV=.none:=Dflts.noKw s
 obtain⟨a,vs,ns,rfl,rfl,P,I,e⟩:=Uw y J i
 refine enter_call (codeAny_mono (call w p b h m c o j g k a vs ns G Y O (fd_plain L) A B P I e N) λr s' E=>?_)
 obtain⟨rfl,Q,H,F⟩:=E
 exact⟨.inl ⟨.bool true,.bool true,[],rfl,λ_=>rfl,.bool true,T_ l _,λ_=>⟨List.Pairwise.nil,λ_ C=>(nomatch C)⟩⟩,Q,H,F⟩
section
variable {w:World} {K:Frag}
end
end Att
namespace L2
open PySem PySem.Spec PyProof.Rows
theorem My:∀ {vs:List Value} {ns:List Int},IntsAre vs ns->Vals (ns.map V.int) vs
 | _,_,.nil=>.nil
 | _,_,.cons n t h=>.cons ⟨t,rfl⟩ (My h)
def Only (H:Hp):Prop:=∀ b,H b=none \/ ∃ o xs,H b=some (.frz o (.lst xs))
theorem Xk {w:World} {K:W.Frag} {J:Str->Option Value} {CX:QZ} {k:Nat} {G:Addr} {sp:Sp} {c:Shared} {vs:List Value} {ns:List Int}
  (N:K.In c.heap) (y:c.heap.Ns mainGlobals mg) (g:c.heap.Ns builtinsNs J) (I:∀ x:Str,x ≠ "__name__"->J x=bootBuiltins x) (UN:c.heap.NoLimit) (hg:c.gens = #[])
  (D:c.heap.get? a=some { cls:=.type "list",data:=.seq vs.toArray }) (hi:IntsAre vs ns) (hl:ns.length<=sizeLine) (Z:Az k callerA)
  (F:∀ base:Heap,K.In base->base.Ns mainGlobals mg->Ao P w K mg base CX k G fd [x] sp) (HG:∀ (s:Shared) (u:Value),BindsTo s fd ⟨[u],[]⟩ [(x,u)])
  (sK:∀ H:Hp,Only H->Dg K H a (ns.map V.int)->sp [.ref a] H (λv _=>v=.bl true) λ_ _ _=>False)
  (S:∀ H e s',CX [] H c (λ_ _ _=>False) e s'->False) :
  codeAny (model P w) callerA (.call (.ref G) ⟨[.ref a],[]⟩) (λr s'=>r=.ok (.ret (.bool true))/\OldK c.heap s'.heap/\s'.os=c.os/\AllBare s'.gens) c:=by
 have O:=My hi
 have NI:=hi.length
 have j:∀ H:Hp,Only H->Dg K H a (ns.map V.int)->GK P w H c.heap->(∀ b,H b ≠ none->b=a)->(H a ≠ none->K.lookup a=none) ->
   codeAny (model P w) callerA (.call (.ref G) ⟨[.ref a],[]⟩) (λr s'=>r=.ok (.ret (.bool true))/\OldK c.heap s'.heap/\s'.os=c.os/\AllBare s'.gens) c:=by
  intro H M hS B Q Y
  have f:∀ {b:Addr} {o:Obj},c.heap.get? b=some o->H b=none->(N8 c.heap H).get? b=some o:=λe n=>V4 e n
  have E:∀ {b:Addr} {o:Obj} {C:Array DictEntry} {p:Nat},c.heap.get? b=some o->o.data=.dict C p->H b=none:=λ{b o C p} e d=>by
   cases q:H b with
   | none=>rfl
   | some u =>
    have L:b=a:=Q b (by rw[q];simp)
    subst L
    rw[D] at e;cases e
    have T:Data.seq vs.toArray _=Data.dict C p:=d
    cases T
  have i:∀ {b:Addr} {m:Str->Option Value},c.heap.Ns b m->(N8 c.heap H).Ns b m:=λ{b m} ⟨o,C,p,e,d,r⟩=>⟨o,C,p,f e (E e d),d,r⟩
  have l:K.In (N8 c.heap H):=λb o e=>f (N b o e) (by
   cases q:H b with
   | none=>rfl
   | some u =>
    have L:b=a:=Q b (by rw[q];simp)
    subst L
    rw[Y (by rw[q];simp)] at e;cases e)
  have hM:Mod K mg (N8 c.heap H):=⟨l,i y,⟨J,i g,I⟩,let ⟨mc,h1,h2⟩:=UN;⟨mc,i h1,h2⟩⟩
  have U:Pq P w K mg (N8 c.heap H) callerA [] c H:=⟨rfl,hM,λb o e=>ZR e,Nat.le_of_eq (VH _ _),trivial,λb g=>absurd (show b∈([]:List Addr) from g) (by simp),B,.of_eq hg⟩
  refine codeAny_mono ((F _ l (i y)).run callerA [] c H ⟨[.ref a],[]⟩ [.ref a] [.ref a] _ _ Z U (HG c (.ref a)) (.cons rfl .nil) (sK H M hS)) λr s' h=>?_
  cases r with
  | error e=>exact (S H e s' h).elim
  | ok fl =>
   cases fl with
   | next=>exact False.elim h
   | brk=>exact False.elim h
   | cont=>exact False.elim h
   | ret u =>
    obtain⟨v,H',os,A,un,QU,r',q⟩:=h
    have q':v=.bl true:=q
    subst q'
    obtain rfl:u=Value.bool true:=r'
    refine⟨rfl,OldK.of_keep λb o e=>?_,os,A⟩
    cases q:H b with
    | none=>exact un.keep b o e q (by intro z;exact absurd (show b∈([]:List Addr) from z) (by simp)) (by simp)
    | some u =>
     rcases M b with z | ⟨X,xs,z⟩
     ·rw[q] at z;cases z
     ·have z2:=un.frzs b X _ z
      obtain⟨R,_⟩:=B b _ z
      obtain⟨e2,_⟩:=QU b _ z2
      rw[e] at R;cases R
      exact e2
 cases hk:K.lookup a with
 | some o =>
  have e:=N a o hk
  rw[D] at e
  cases e
  refine j (λ_=>none) (λ_=>.inl rfl) (.inr ⟨_,vs.toArray,_,hk,rfl,rfl,rfl,by rw[List.size_toArray,NI];exact hl,by simpa using O⟩) (λb u z=>by have t:(none:Option HO)=some u:=z;cases t) (λb z=>absurd rfl z) λz=>absurd rfl z
 | none =>
  refine j (λb=>if b=a then some (.frz { cls:=.type "list",data:=.seq vs.toArray } (.lst (ns.map V.int))) else none) (λb=>?_) (.inl (.inr ⟨{ cls:=.type "list",data:=.seq vs.toArray },if_pos rfl⟩)) (λb u z=>?_) (λb z=>?_) λ_=>hk
  ·by_cases g:b=a
   ·exact .inr ⟨_,_,if_pos g⟩
   ·exact .inl (if_neg g)
  ·by_cases g:b=a
   ·have t:=(if_pos g).symm.trans z
    cases t
    subst g
    exact⟨D,by rw[af];exact hl,vs,_,O,D⟩
   ·have t:=(if_neg g).symm.trans z
    cases t
  ·by_cases g:b=a
   ·exact g
   ·exact absurd (if_neg g) z
theorem Y_ {l:W.OpenLaw} {k:Nat} {q:Program} {E:List Str} {B:(Str->Option Value)->Heap->Prop} {m:World->Heap->Prop} {d:DefRec} {K:Params->W.Frag} {CX:World->QZ} {sp:World->Sp}
  (p:l.most=some n) (i:n<=sizeLine) (M:d.params.defaults=[]) (L:Az k callerA)
  (D:∀ (w:World) (h:Heap),m w h->(K w.params).In h)
  (F:∀ (w:World) (c:Str->Option Value) (g:Addr) (h:Heap),(K w.params).In h->h.Ns mainGlobals c->c d.name=some (.ref g) ->
   ∃ fd:FuncData,(∀ (s:Shared) (u:Value),BindsTo s fd ⟨[u],[]⟩ [(x,u)]) /\
    ∀ base:Heap,(K w.params).In base->base.Ns mainGlobals c->Ao l.prog w (K w.params) c base (CX w) k g fd [x] (sp w))
  (J:∀ (w:World) (H:Hp) (a:Addr) (ns:List Int),ns.length<=n->Only H->Dg (K w.params) H a (ns.map V.int)->sp w [.ref a] H (λv _=>v=.bl true) λ_ _ _=>False)
  (r:∀ (w:World) (H:Hp) (s:Shared) (e:Value) (s':Shared),CX w [] H s (λ_ _ _=>False) e s'->False) :
  W.WalkO q E B m l.row.toRowW d [] (λf vs=>PySem.call f vs):=by
 refine Att.Pg p M λw s₀ A c U g o S R T a vs ns G Y Z X Q y O C b N=>?_
 have j:=D w _ Y
 obtain⟨fd,t,I⟩:=F w c g _ j G.T.g y
 exact Xk j G.T.g G.T.b G.T.builtins G.T.nolimit N O C (ba b i) L I t (λH z P=>J w H a ns b z P) λH e s'=>r w H A e s'
def inClass (s:Stmt) (j:Nat):Stmt:=match s with
 | .ClassDef _ _ _ body _ _ _ _ _ _ _=>body.getD j (.Pass ⟨0,0,0,0⟩)
 | _=>.Pass ⟨0,0,0,0⟩
def DP (s:Stmt):Arguments:=match s with
 | .FunctionDef _ a _ _ _ _ _ _ _ _=>a
 | _=>{ posonlyargs:=[],args:=[],vararg:=none,kwonlyargs:=[],kw_defaults:=[],kwarg:=none,defaults:=[] }
def CV (s:Stmt):List Stmt:=match s with
 | .FunctionDef _ _ b _ _ _ _ _ _ _=>b
 | _=>[]
def Ae (s:Stmt):Scope:=match s with
 | .FunctionDef _ _ _ _ _ _ sc _ _ _=>sc
 | _=>{ kind:=.function,names:=[],isGenerator:=false,isCoroutine:=false }
abbrev Bb:QZ:=λ_ _ _ _ _ _=>False
abbrev E0:XK:=λ_ _ _=>False
theorem Aq:Gh Bb X E0:=λ_ _ _ _ _ _ _ h=>h.elim
structure Ce (K:W.Frag) (x qual:Str) (st:Stmt) (f:Addr) (fd:FuncData):Prop where
 ex:∃ (oc:Value) (od:Option Addr) (kV kL pm:Value) (an:Option Addr) (i4 ct:Value) (qc:Array (Option Value)),
  fd=W.fnOf x qual (DP st) (CV st) (Ae st) .none kV kL pm an i4 ct/\K.lookup f=some ⟨oc,od,.func fd,qc⟩/\W.codeIn K i4 qual=true
 kp:W.keepIn K (.ref f)=true
section
variable {w:World} {K:W.Frag}
theorem Ce.ok {N:List Str} {k:Nat} {sp:Sp} (F:Ce K x qual st f fd) (S:Av N ps (Ae st)) (len:∀ vs H Q E,sp vs H Q E->vs.length=ps.length)
  (g:∀ (b:Value) (A:Around) (a:List Env) (s:Shared) (H:Hp) (vs:List V) (Q:VK) (E:XK),Az k (A.deeper (envOfC qual (Ae st) s.heap.objs.size f b))->sp vs H Q E ->
   ∃ t,Ni (KR Bb P w K mg base N qual (Ae st) f b A a s H E).oE (CV st) t/\t { nx:=λ_ H'=>Q .non H',rt:=Q } (start N vs) H):Ao P w K mg base Bb (k+1) f fd ps sp:=by
 obtain⟨n,r,kV,l,j,o,b,m,p,rfl,c,i⟩:=F.ex
 refine Xn c i S len λA a s H vs Q E e d=>?_
 obtain⟨t,h,q⟩:=g b A a s H vs Q E e d
 exact⟨t,h.oE,q⟩
theorem Ce.DX {N:List Str} {k:Nat} {sp:Sp} (F:Ce K x qual st f fd) (S:Av N ps (Ae st))
  (c:∀ {b:Value} {A:Around} {a:List Env} {s:Shared} (H:Hp) (vs:List V) (Q:VK) (E:XK),Az k (A.deeper (envOfC qual (Ae st) s.heap.objs.size f b))->sp vs H Q E ->
   ∃ t,Ni (KR Bb P w K mg base N qual (Ae st) f b A a s H E).oE (CV st) t/\t { nx:=λ_ H'=>Q .non H',rt:=Q } (start N vs) H)
  (len:∀ vs H Q E,sp vs H Q E->vs.length=ps.length:=by intro _ _ _ _ h;cases h;subst_vars;rfl):Ao P w K mg base Bb (k+1) f fd ps sp:=F.ok S len λ_ _ _ _ H vs Q E=>c H vs Q E
theorem Ce.binds (F:Ce K x qual st f fd)
  (h:∀ (kV b a:Value) (d:Option Addr) (c ct:Value) (us:List Value),us.length=ps.length->bindArgs (W.fnOf x qual (DP st) (CV st) (Ae st) .none kV b a d c ct) ⟨us,[]⟩=pure (ps.zip us)):Binds K fd ps []:=by
 obtain⟨g,k,kV,b,a,d,c,ct,j,rfl,e,i⟩:=F.ex
 exact .all (h kV b a d c ct)
theorem Qd {h:Value} {i e:Option Addr} {g:Array (Option Value)} {kV d b a ct:Value} (l:K.lookup f=some ⟨h,i,.func (W.fnOf x qual (DP st) (CV st) (Ae st) .none kV d b e a ct),g⟩)
  (c:W.codeIn K a qual=true) (k:W.keepIn K (.ref f)=true):Ce K x qual st f (W.fnOf x qual (DP st) (CV st) (Ae st) .none kV d b e a ct):=⟨⟨h,i,kV,d,b,e,a,ct,g,rfl,l,c⟩,k⟩
end
theorem CJ {k:Nat} (a:Az k A):A.units+1<cLine:=aT (Nat.add_le_add_left (by decide:1<=64) _) a.units
theorem BJ (h:n<=1000):n<sizeLine:=aT h (by decide)
theorem pv (i:Nat) (c:X.N[i]? = some x:=by rfl) (d:yz X.env.scope x:=by first | exact Or.inl rfl | exact Or.inr (Or.inl rfl) | exact Or.inr (Or.inr rfl)) (a:(x == ("__debug__" : Str))=false:=by decide)
  (b:(x == ("__classdict__" : Str))=false:=by decide):PE X (.Name x pos) (Tz i):=dU c d a b
theorem wT {K:W.Frag} {T:Addr} {x:V} {w:Str} {Q:Bool->Hp->Prop} (b:H T=some (.tup (x::xs))) (h:Q (decide (x=V.str w)) H) (c:σ[i]? = some (some (.ref T)):=by rfl) (a:jM x (.str w)=true:=by rfl):XS (Zv zT (Zv (Y4 K) (Tz i) (tC (.int 0))) (tC (.str w))) σ H Q:=⟨_,c,T,_,_,_,rfl,rfl,.inl (.inl b),Ag (j:=0) rfl,a,_,rfl,h⟩
theorem Bk {A B:Prop} (h:B):if false=true then A else B:=by
 rw[if_neg fb]
 exact h
theorem DY {A B:Prop} (h:A):if true=true then A else B:=by
 rw[if_pos rfl]
 exact h
theorem Cz {c A B:Prop} [Decidable c] (a:c->A) (b:¬ c->B):if c then A else B:=by
 by_cases h:c
 ·rw[if_pos h]
  exact a h
 ·rw[if_neg h]
  exact b h
theorem bc {c A B:Prop} [Decidable c] (a:c) (h:B):if (!decide c)=true then A else B:=by
 rw[decide_eq_true a]
 exact Bk h
def Am (H H':Hp):Prop:=∀ b o,H b=some o->H' b=some o
theorem Am.refl (H:Hp):Am H H:=λ_ _ h=>h
theorem Am.trans (a:Am H H1) (b:Am H1 H2):Am H H2:=λc o h=>b c o (a c o h)
theorem Am.free (e:Am H H') {l:Addr} (h:H' l=Option.none):H l=Option.none:=by
 cases q:H l with
 | none=>rfl
 | some o =>
  rw[e l o q] at h
  cases h
theorem Am.seq {K:W.Frag} (e:Am H H') (h:Dg K H a xs):Dg K H' a xs:=by
 rcases h with (h | ⟨o,h⟩) | h
 ·exact .inl (.inl (e _ _ h))
 ·exact .inl (.inr ⟨o,e _ _ h⟩)
 ·exact .inr h
section
variable {κ:Type} [DecidableEq κ]
theorem SQ:∀ {l:List κ} {k:κ},l.Nodup->¬ k∈l->(l++[k]).Nodup
 | [],k,_,_=>by simp
 | a::r,k,h,b=>by
  obtain⟨d,c⟩:=gy.mp h
  show (a::(r++[k])).Nodup
  refine gy.mpr ⟨λm=>?_,SQ c λm=>b (cf.mpr (Or.inr m))⟩
  rcases bX.mp m with q | q
  ·exact d q
  ·exact b (cf.mpr (Or.inl (av.mp q).symm))
end
section
variable {w:World}
theorem Li {f:Array Value} {x:Value} (j:s.heap.IsTupleIter it a i) (h:s.heap.IsTuple a f) (g:f[i]? = some x)
  (q:∀ h',h'.IsTupleIter it a (i+1)->Heap.SameBut it s.heap h'->Q x { s with heap:=h' }):wpAny (model prog w) A (Builtin.SmallTypes.nextOf (.ref it)) Q E s:=by
 have b:=j
 obtain⟨o,e,c,d⟩:=j
 obtain⟨m,k,_,n,l⟩:=h
 unfold Builtin.SmallTypes.nextOf
 refine wpAny_bind (wpAny_callSpecial?_slot (name:=Str.ofString "__next__") b.typeIs F.slot_tuple_iterator_next (wpAny_call_entry F.slot_tuple_iterator_next b.typeIs F.entry_tuple_iterator_next ?_ (F.args_tuple_iterator_next_1 _)))
 refine (show wpAny _ _ (field (.ref it) 0 >>= _) _ _ s from wpAny_bind (wpAny_field e d (x:=.ref a) rfl ?_))
 refine (show wpAny _ _ (if (Value.ref a == Value.none)=true then _ else _) _ _ s from ?_)
 rw[if_neg (by exact fb)]
 refine (show wpAny _ _ (field (.ref it) 1 >>= _) _ _ s from wpAny_bind (wpAny_field e d (x:=.int i 0) rfl ?_))
 refine (show wpAny _ _ (seqItems? (.ref a) >>= _) _ _ s from wpAny_bind (wpAny_seqItems k l ?_))
 simp only[Int.toNat_natCast,g]
 exact wpAny_bind (wpAny_setField e d (by simp) (wpAny_pure ⟨x,rfl,wpAny_pure (q _ ⟨_,Heap.get?_update_self _ e (Obj.isFreed_of_fields (Obj.data_mapFields d _)),(Obj.cls_mapFields ..).trans c,by rw[Obj.data_mapFields d];simp[rawInt]⟩ (Heap.SameBut.update ..))⟩))
theorem Mg {g:Array Value} (b:A.handled=none) (j:s.heap.IsTupleIter it a i) (k:s.heap.IsTuple a g) (h:g[i]? = none)
  (q:∀ h' e,Heap.ExtBut it s.heap h'->(∃ o,h'.get? e=some o/\o.cls=.type "StopIteration")->E (.ref e) { s with heap:=h' }):wpAny (model prog w) A (Builtin.SmallTypes.nextOf (.ref it)) Q E s:=by
 have f:=j
 obtain⟨o,e,c,d⟩:=j
 obtain⟨r,l,_,n,p⟩:=k
 unfold Builtin.SmallTypes.nextOf
 refine wpAny_bind (wpAny_callSpecial?_slot (name:=Str.ofString "__next__") f.typeIs F.slot_tuple_iterator_next (wpAny_call_entry F.slot_tuple_iterator_next f.typeIs F.entry_tuple_iterator_next ?_ (F.args_tuple_iterator_next_1 _)))
 refine (show wpAny _ _ (field (.ref it) 0 >>= _) _ _ s from wpAny_bind (wpAny_field e d (x:=.ref a) rfl ?_))
 refine (show wpAny _ _ (if (Value.ref a == Value.none)=true then _ else _) _ _ s from ?_)
 rw[if_neg (by exact fb)]
 refine (show wpAny _ _ (field (.ref it) 1 >>= _) _ _ s from wpAny_bind (wpAny_field e d (x:=.int i 0) rfl ?_))
 refine (show wpAny _ _ (seqItems? (.ref a) >>= _) _ _ s from wpAny_bind (wpAny_seqItems l p ?_))
 simp only[Int.toNat_natCast,h]
 refine wpAny_bind (wpAny_rule (wpAny_bind (wpAny_setField e d (by simp) (show wpAny _ _ (newExc (.type "StopIteration") [] >>= _) _ _ _ from wpAny_bind ?_))))
 simp only[newExc,newTuple]
 refine wpAny_bind (wpAny_newObj_type (wpAny_bind (m:=firstArgMember _ _) (wpAny_of_eq (a:=Value.none) (by first | rfl | (simp only[firstArgMember];rfl)) (wpAny_newObj_type ?_ (by size_fits)))) (by size_fits))
 simp only[raiseNew]
 refine wpAny_bind (wpAny_handled ?_)
 first | rw[show A.in1.handled=none from b] | rw[b]
 exact wpAny_bind (wpAny_pure (wpAny_throw (q _ _ (((Heap.SameBut.update ..).extBut.push _).push _) ⟨_,Heap.get?_push_size _ rfl,rfl⟩)))
theorem UL {TI TO g f t r:Addr} {k:Nat} {xs ys:Array Value} {x y a b:Value} (D:ZipApart z TI TO g f t r)
  (n:IsZip s.heap z TI TO .none) (U:IsPair s.heap TI (.ref g) (.ref f)) (Z:IsPair s.heap TO a b)
  (j1:s.heap.IsTupleIter g t k) (T:s.heap.IsTupleIter f r k) (t1:s.heap.IsTuple t xs) (t2:s.heap.IsTuple r ys) (hx:xs[k]? = some x) (X:ys[k]? = some y)
  (q:∀ h',IsZip h' z TI TO (rawInt s.heap.objs.size)->IsPair h' TO x y->h'.IsTupleIter g t (k+1)->h'.IsTupleIter f r (k+1)->IsPair h' s.heap.objs.size x y->h'.objs.size=s.heap.objs.size+1 ->
   (∀ c o,c ≠ z->c ≠ TO->c ≠ g->c ≠ f->s.heap.get? c=some o->h'.get? c=some o)->Q (.ref s.heap.objs.size) { s with heap:=h' }) :
  wpAny (model prog w) A (Builtin.«zip.__next__» ⟨[.ref z],[]⟩) (λfin s'=>∃ v,fin=.done (.ret v)/\Q v s') E s:=by
 refine (show wpAny _ _ (field (.ref z) 2 >>= _) _ _ _ from wpAny_bind (wpAny_field n rfl (x:=.bool false) rfl (show wpAny _ _ (field (.ref z) 3 >>= _) _ _ _ from wpAny_bind (wpAny_field n rfl (x:=.ref TI) rfl (wpAny_bind (wpAny_seqItems U rfl ?_))))))
 refine (show wpAny _ _ (Builtin.SmallTypes.ownedTupleIsFree (.ref z) >>= _) _ _ _ from wpAny_bind ?_)
 unfold Builtin.SmallTypes.ownedTupleIsFree
 refine wpAny_bind (wpAny_field n rfl (x:=.none) rfl (wpAny_pure ?_))
 simp only[if_true]
 refine wpAny_bind (wpAny_rule (wpAny_bind (wpAny_field n rfl (x:=.ref TO) rfl (wpAny_bind (wpAny_setField_rec n (by simp) λh1 z1 h=>?_)))))
 have y1:IsZip h1 z TI TO .ellipsis:=z1
 refine wpAny_bind ?_
 simp only[List.zipIdx_cons,List.zipIdx_nil,List.forIn_cons,List.forIn_nil]
 refine wpAny_bind (wpAny_bind (wpAny_onRaise (show wpAny _ _ (Builtin.SmallTypes.nextOf (.ref g) >>= _) _ _ _ from wpAny_bind (Li (j1.at λo e=>h.extBut _ _ D.i1z e) (t1.at λo e=>h.extBut _ _ D.l1z e) hx λh2 n1 l=>wpAny_pure ?_))))
 have R:IsPair h2 TO a b:=l.extBut _ _ D.TOi1 (h.extBut _ _ D.TOz Z)
 refine wpAny_bind (wpAny_seqItems R rfl (wpAny_bind (wpAny_updateSeq_pair R λh3 p3 j=>?_)))
 have W:IsPair h3 TO x b:=p3
 refine wpAny_bind (wpAny_letGo (wpAny_pure ?_))
 refine wpAny_bind (wpAny_bind (wpAny_onRaise (show wpAny _ _ (Builtin.SmallTypes.nextOf (.ref f) >>= _) _ _ _ from wpAny_bind (Li (T.at λo e=>j.extBut _ _ D.TOi2.symm (l.extBut _ _ D.i12.symm (h.extBut _ _ D.i2z e)))
  (t2.at λo e=>j.extBut _ _ D.l2TO (l.extBut _ _ D.l2i1 (h.extBut _ _ D.l2z e))) X λh4 n2 p=>wpAny_pure ?_))))
 have M:IsPair h4 TO x b:=p.extBut _ _ D.TOi2 W
 refine wpAny_bind (wpAny_seqItems M rfl (wpAny_bind (wpAny_updateSeq_pair M λd p5 u=>?_)))
 have N:IsPair d TO x y:=p5
 refine wpAny_bind (wpAny_letGo (wpAny_pure (wpAny_pure (wpAny_bind (wpAny_seqItems N rfl (wpAny_bind (wpAny_newTuple ?_)))))))
 have O:d.objs.size=s.heap.objs.size:=by rw[u.1,p.1,j.1,l.1,h.1]
 have L:IsZip d z TI TO .ellipsis:=u.extBut _ _ D.TOz.symm (p.extBut _ _ D.i2z.symm (j.extBut _ _ D.TOz.symm (l.extBut _ _ D.i1z.symm y1)))
 have Y:∀ c o,c ≠ z->c ≠ TO->c ≠ g->c ≠ f->s.heap.get? c=some o->d.get? c=some o:=λc o i B C H e=>u.extBut _ _ B (p.extBut _ _ H (j.extBut _ _ B (l.extBut _ _ C (h.extBut _ _ i e))))
 have V:d.IsTupleIter g t (k+1):=n1.at λo e=>u.extBut _ _ D.TOi1.symm (p.extBut _ _ D.i12 (j.extBut _ _ D.TOi1.symm e))
 have m2:d.IsTupleIter f r (k+1):=n2.at λo e=>u.extBut _ _ D.TOi2.symm e
 have J:z<d.objs.size:=Heap.lt_size L
 refine (show wpAny _ _ (Builtin.SmallTypes.ownedTupleHandOut (.ref z) (.ref d.objs.size) >>= _) _ _ _ from wpAny_bind ?_)
 unfold Builtin.SmallTypes.ownedTupleHandOut
 have y6:IsZip (d.push { cls:=.type "tuple",data:=.seq #[x,y] }) z TI TO .ellipsis:=Heap.get?_push_of_some _ L
 refine wpAny_bind (wpAny_setField_rec y6 (by simp) λS p7 F=>?_)
 have y7:IsZip S z TI TO (rawInt d.objs.size):=p7
 refine wpAny_setField_rec y7 (by simp) λm p8 G=>?_
 have K:IsZip m z TI TO (rawInt d.objs.size):=p8
 have up:∀ c o,c ≠ z->d.get? c=some o->m.get? c=some o:=λc o i e=>G.extBut _ _ i (F.extBut _ _ i (Heap.get?_push_of_some _ e))
 have P:IsPair m d.objs.size x y:=G.extBut _ _ (gX J) (F.extBut _ _ (gX J) (Heap.get?_push_size _ rfl))
 have I:m.objs.size=d.objs.size+1:=by rw[G.1,F.1,Heap.size_push]
 rw[O] at K P I
 refine wpAny_pure ⟨_,rfl,?_⟩
 show Q (.ref d.objs.size) _
 rw[O]
 exact q m K (up _ _ D.TOz N) (V.at λo e=>up _ o D.i1z e) (m2.at λo e=>up _ o D.i2z e) P I λc o i B C H e=>up c o i (Y c o i B C H e)
theorem Vk {TI TO f g j v:Addr} {k:Nat} {xs:Array Value} {a b:Value} {Q:Fin->Shared->Prop} (K:A.handled=none) (D:ZipApart z TI TO f g j v)
  (d:IsZip s.heap z TI TO .none) (t:IsPair s.heap TI (.ref f) (.ref g)) (O:IsPair s.heap TO a b)
  (j1:s.heap.IsTupleIter f j k) (B:s.heap.IsTuple j xs) (H:xs[k]? = none)
  (q:∀ h' e,(∀ c o,c ≠ z->c ≠ TO->c ≠ f->c ≠ g->s.heap.get? c=some o->h'.get? c=some o)->(∃ o,h'.get? e=some o/\o.cls=.type "StopIteration")->E (.ref e) { s with heap:=h' }) :
  wpAny (model prog w) A (Builtin.«zip.__next__» ⟨[.ref z],[]⟩) Q E s:=by
 refine (show wpAny _ _ (field (.ref z) 2 >>= _) _ _ _ from wpAny_bind (wpAny_field d rfl (x:=.bool false) rfl (show wpAny _ _ (field (.ref z) 3 >>= _) _ _ _ from wpAny_bind (wpAny_field d rfl (x:=.ref TI) rfl (wpAny_bind (wpAny_seqItems t rfl ?_))))))
 refine (show wpAny _ _ (Builtin.SmallTypes.ownedTupleIsFree (.ref z) >>= _) _ _ _ from wpAny_bind ?_)
 unfold Builtin.SmallTypes.ownedTupleIsFree
 refine wpAny_bind (wpAny_field d rfl (x:=.none) rfl (wpAny_pure ?_))
 simp only[if_true]
 refine wpAny_bind (wpAny_rule (wpAny_bind (wpAny_field d rfl (x:=.ref TO) rfl (wpAny_bind (wpAny_setField_rec d (by simp) λM J i=>?_)))))
 have F:IsZip M z TI TO .ellipsis:=J
 refine wpAny_bind ?_
 simp only[List.zipIdx_cons,List.zipIdx_nil,List.forIn_cons,List.forIn_nil]
 refine wpAny_bind (wpAny_bind (wpAny_onRaise (show wpAny _ _ (Builtin.SmallTypes.nextOf (.ref f) >>= _) _ _ _ from wpAny_bind (Mg K (j1.at λo e=>i.extBut _ _ D.i1z e) (B.at λo e=>i.extBut _ _ D.l1z e) H λL x n N=>?_))))
 obtain⟨G,h,l⟩:=N
 have p:IsZip L z TI TO .ellipsis:=n _ _ D.i1z.symm F
 have I:x ≠ z:=λu=>by subst u;rw[p] at h;cases h;simp at l
 exact wpAny_setField_rec p (by simp) λC _ m=>q C x (λc o r _ y _ e=>m.extBut _ _ r (n _ _ y (i.extBut _ _ r e))) ⟨G,m.extBut _ _ I h,l⟩
end
abbrev sH (h:Heap) (a1:Addr):Heap:=h.push { cls:=.type "tuple_iterator",data:=.fields #[.ref a1,.int 0 0] }
abbrev sX (h:Heap) (a1 a2:Addr):Heap:=(sH h a1).push { cls:=.type "tuple_iterator",data:=.fields #[.ref a2,.int 0 0] }
abbrev rF (h:Heap) (a1 a2:Addr):Heap:=(sX h a1 a2).push { cls:=.type "tuple",data:=.seq #[.ref h.objs.size,.ref (sH h a1).objs.size] }
abbrev rC (h:Heap) (a1 a2:Addr):Heap:=(rF h a1 a2).push { cls:=.type "tuple",data:=.seq #[.none,.none] }
abbrev jW (h:Heap) (a1 a2:Addr):Heap:=(rC h a1 a2).push { cls:=.type "zip",data:=.fields #[.none,.bool false,.bool false,.ref (sX h a1 a2).objs.size,.ref (rF h a1 a2).objs.size] }
theorem Vv (a b:Addr) (xs ys:Array Value):Meets (Builtin.«zip.__new__» ⟨[.type "zip",.ref a,.ref b],[]⟩) (λ_ R s=>s.heap.IsTuple a xs/\s.heap.IsTuple b ys /\
   R (.ok (.ret (.ref (rC s.heap a b).objs.size))) { s with heap:=jW s.heap a b }) :=
 .of_wp λj w A R s h=>by
  obtain⟨i,g,d,f,os⟩:=s
  obtain⟨n,m,h⟩:=h
  have c:=sub_zip
  have k:Heap.IsTuple (Shared.heap ⟨i,g,d,f,os⟩) a xs:=n
  have l:Heap.IsTuple (Shared.heap ⟨i.push { cls:=.type "tuple_iterator",data:=.fields #[.ref a,.int 0 0] },g,d,f,os⟩) b ys:=Heap.IsTuple.at m λo e=>Heap.get?_push_of_some _ e
  wp_walk using wpAny_pyIter_tuple k,wpAny_pyIter_tuple l
  exact⟨_,rfl,h⟩
section
variable {w:World}
theorem Ud {a b:Addr} {xs ys:Array Value} (t:s.heap.IsTuple a xs) (r:s.heap.IsTuple b ys)
  (q:∀ h' n,n=s.heap.objs.size->IsZip h' (n+4) (n+2) (n+3) .none->IsPair h' (n+2) (.ref n) (.ref (n+1))->IsPair h' (n+3) .none .none->h'.IsTupleIter n a 0->h'.IsTupleIter (n+1) b 0->h'.objs.size=n+5 ->
   (∀ c o,s.heap.get? c=some o->h'.get? c=some o)->Q (.ref (n+4)) { s with heap:=h' }):wpAny (model prog w) A (call (.type "zip") [.ref a,.ref b]) Q E s:=by
 refine callType_new F.called_zip (by decide) (F.typeCall_zip_2 _ _) (F.newCall_zip_2 _ _) (λi=>F.args_object_init_3 i _ _) F.entry_zip_new (Vv a b xs ys) ⟨t,r,?_⟩
 have h:(sH s.heap a).objs.size=s.heap.objs.size+1:=Heap.size_push ..
 have f:(sX s.heap a b).objs.size=s.heap.objs.size+2:=by rw[Heap.size_push,h]
 have g:(rF s.heap a b).objs.size=s.heap.objs.size+3:=by rw[Heap.size_push,f]
 have d:(rC s.heap a b).objs.size=s.heap.objs.size+4:=by rw[Heap.size_push,g]
 have p:(jW s.heap a b).objs.size=s.heap.objs.size+5:=by rw[Heap.size_push,d]
 have j:(jW s.heap a b).get? (rC s.heap a b).objs.size=some _:=Heap.get?_push_size _ rfl
 have k:(jW s.heap a b).get? (rF s.heap a b).objs.size=some _:=Heap.get?_push_of_some _ (Heap.get?_push_size _ rfl)
 have l:(jW s.heap a b).get? (sX s.heap a b).objs.size=some _:=Heap.get?_push_of_some _ (Heap.get?_push_of_some _ (Heap.get?_push_size _ rfl))
 have m:(jW s.heap a b).get? (sH s.heap a).objs.size=some _:=Heap.get?_push_of_some _ (Heap.get?_push_of_some _ (Heap.get?_push_of_some _ (Heap.get?_push_size _ rfl)))
 have u:(jW s.heap a b).get? s.heap.objs.size=some _:=Heap.get?_push_of_some _ (Heap.get?_push_of_some _ (Heap.get?_push_of_some _ (Heap.get?_push_of_some _ (Heap.get?_push_size _ rfl))))
 refine (show _/\_ from ?_)
 rw[f,g,d] at j
 rw[h,f] at l
 rw[g] at k
 rw[h] at m
 rw[d]
 exact⟨⟨_,j,rfl⟩,q _ _ rfl j l k ⟨_,u,rfl,rfl⟩ ⟨_,m,rfl,rfl⟩ p λc o e=>Heap.get?_push_of_some _ (Heap.get?_push_of_some _ (Heap.get?_push_of_some _ (Heap.get?_push_of_some _ (Heap.get?_push_of_some _ e))))⟩
end
def Dd (env:Env):List (Str × NameKind)->List (Str × Addr)->List (Str × Addr)
 | [],d0=>d0
 | (n,k)::r,d0=>if k == .free then (match env.cells.lookup n with | some a=>Dd env r ((n,a)::d0) | none=>Dd env r d0) else Dd env r d0
theorem G8 {b:Env} (h:∀ y∈scope.names,y.2=.free->∃ c,b.cells.lookup y.1=some c):closureFor scope b=pure (Dd b scope.names []):=by
 unfold closureFor
 have g:∀ (l:List (Str × NameKind)) (f:List (Str × Addr)),(∀ y∈l,y.2=.free->∃ c,b.cells.lookup y.1=some c) ->
   (forIn l f λ(x:Str × NameKind) (o:List (Str × Addr))=>(match x with | (name,kind)=>if (kind == NameKind.free)=true then (do let a <-cellOf b name;pure (ForInStep.yield ((name,a)::o))) else pure (ForInStep.yield o):Sem (ForInStep (List (Str × Addr)))))=(pure (Dd b l f):Sem _):=by
  intro l
  induction l with
  | nil=>intro f _;rfl
  | cons x r p =>
   intro f hl
   obtain⟨n,k⟩:=x
   rw[List.forIn_cons]
   unfold Dd
   by_cases j:(k == NameKind.free)=true
   ·obtain⟨c,q⟩:=hl (n,k) List.mem_cons_self (by simpa using j)
    have d:b.cells.lookup n=some c:=q
    have e:cellOf b n=pure c:=by unfold cellOf;rw[d]
    simp only[j,if_true,e,d]
    exact p _ λy i=>hl y (bq _ i)
   ·simp only[j]
    exact p _ λy i=>hl y (bq _ i)
 have:=g scope.names [] h
 exact (congrArg (λ(m:Sem (List (Str × Addr)))=>m >>= λz=>pure z) this).trans rfl
theorem Gw (b:Env):∀ (l:List (Str × NameKind)) (d0:List (Str × Addr)) (y:Str) (c:Addr),(Dd b l d0).lookup y=some c->d0.lookup y=some c \/ b.cells.lookup y=some c
 | [],_,_,_,h=>.inl h
 | (n,k)::r,d0,y,c,h=>by
  unfold Dd at h
  split at h
  ·split at h
   ·rename_i a d
    rcases Gw b r _ y c h with z | z
    ·rw[im] at z
     split at z
     ·rename_i e
      cases z
      have f:y=n:=by simpa using e
      subst f
      exact .inr d
     ·exact .inl z
    ·exact .inr z
   ·exact Gw b r _ y c h
  ·exact Gw b r _ y c h
theorem Io (a:Env):∀ (l:List (Str × NameKind)) (d0:List (Str × Addr)) (y:Str),(d0.lookup y).isSome=true->((Dd a l d0).lookup y).isSome=true
 | [],_,_,h=>h
 | (n,k)::r,d0,y,h=>by
  unfold Dd
  split
  ·split
   ·refine Io a r _ y ?_
    rw[im]
    split
    ·rfl
    ·exact h
   ·exact Io a r _ y h
  ·exact Io a r _ y h
theorem Ex (a:Env):∀ (l:List (Str × NameKind)) (d0:List (Str × Addr)) (y:Str),(y,NameKind.free)∈l->(a.cells.lookup y).isSome=true->((Dd a l d0).lookup y).isSome=true
 | [],_,_,h,_=>nomatch h
 | (n,k)::r,d0,y,h,b=>by
  unfold Dd
  rcases cf.mp h with e | h
  ·obtain⟨c,d⟩:=Prod.mk.inj e
   subst c
   subst d
   rw[if_pos (by decide)]
   split
   ·refine Io a r _ y ?_
    rw[im]
    simp
   ·rename_i e
    rw[e] at b
    cases b
  ·split
   ·split
    ·exact Ex a r _ y h b
    ·exact Ex a r _ y h b
   ·exact Ex a r _ y h b
def JC (x:Str) (N:List Str):List Str:=N.map λy=>if y=x then "" else y
def Ck (X:Cx) (x:Str) (scope:Scope) (C:Addr) (s₀:Shared) (H₀:Hp) (fp:List Addr):Cx where
 prog:=X.prog
 w:=X.w
 K:=X.K
 mg:=X.mg
 base:=X.base
 A:=X.A
 N:=x::JC x X.N
 s₀:=s₀
 H₀:=H₀
 env:=compEnvC scope (Dd X.env scope.names []) C X.env
 outer:=X.stack
 stack:=X.stack
 ex:=fp
 fn:=λ_=>false
 calm:=X.calm
 pn:=[]
 xe:=λ_ _=>False
theorem Fx (a:Env) (y:Str):∀ names:List (Str × NameKind),
  (names.map λ(n,k)=>if (k == NameKind.free && a.scope.kind == .function && a.kindOf n == some .cell) then (n,NameKind.cell) else (n,k)).lookup y =
   (names.lookup y).map λk=>if (k == NameKind.free && a.scope.kind == .function && a.kindOf y == some .cell) then NameKind.cell else k
 | []=>rfl
 | (n,k)::r=>by
  have b:=Fx a y r
  rw[cw]
  show List.lookup y ((if (k == NameKind.free && a.scope.kind == .function && a.kindOf n == some .cell)=true then (n,NameKind.cell) else (n,k))::_)=_
  have c:(if (k == NameKind.free && a.scope.kind == .function && a.kindOf n == some .cell)=true then (n,NameKind.cell) else (n,k))=(n,if (k == NameKind.free && a.scope.kind == .function && a.kindOf n == some .cell)=true then NameKind.cell else k):=by split <;> rfl
  rw[c,im,im]
  cases hx:y == n with
  | true =>
   have e:y=n:=by simpa using hx
   subst e
   rfl
  | false=>exact b
structure Gq (X:Cx) (x:Str) (scope:Scope):Prop where
 kind:scope.kind=.function
 nocell:∀ y∈scope.names,y.2 ≠ .cell
 names:∀ y∈scope.names,y.2=.local->scope.names.lookup y.1=some .local
 loc:scope.names.lookup x=some .local
 free:∀ y∈scope.names,y.2=.free->X.env.kindOf y.1=some .cell \/ X.env.kindOf y.1=some .free
 nd:(x::JC x X.N).Nodup
 only:∀ y∈JC x X.N,scope.names.lookup y ≠ some .local
 noE:scope.names.lookup ("" : Str)=none
theorem Qq {tk:Nat} {m:Str->Option Value} (I:Inv X a8 σ H s) (S:Gq X x scope) (Q:∀ b∈fp,G7 X a8 H b) (P:∀ b∈fp,b<s.heap.objs.size) (M:s.heap.objs.size<=C) (hn:h'.Ns C m)
  (W:∀ b o,s.heap.get? b=some o->h'.get? b=some o):Inv (Ck X x scope C s H fp) [] (none::σ) H { s with heap:=h',toks:=tk }:=by
 have E:∀ y c,(Dd X.env scope.names []).lookup y=some c->X.env.cells.lookup y=some c:=λy c e=>by
  rcases Gw X.env scope.names [] y c e with z | z
  ·cases z
  ·exact z
 have t:∀ c v,s.heap.IsCell c v->h'.IsCell c v:=λc v ⟨o,ho,hd⟩=>⟨o,W c o ho,hd⟩
 have look:∀ y,(Ck X x scope C s H fp).env.scope.names.lookup y=(scope.names.lookup y).map λk=>if (k == NameKind.free && X.env.scope.kind == .function && X.env.kindOf y == some .cell) then NameKind.cell else k:=λy=>Fx X.env y scope.names
 refine⟨⟨I.ok.mod,S.kind,I.ok.glob,I.ok.blt,M,λy z c e1 e2=>I.ok.inj y z c (E y c e1) (E z c e2),λy hy=>?_,λy c e _=>(by cases e),λh=>I.ok.hd h,I.ok.frames,.inl rfl,λb D=>?_,I.bs,ba I.ok.bsz I.sz,λb o e D=>?_,λb D U=>?_,I.stack,I.Il⟩,
  rfl,I.bare,Un.kept W,⟨m,hn,λi y v h1 Z h3=>?_⟩,λy c e=>?_,I.hok.fresh M,λy c e=>I.freeC y c (E y c e),λp hp=>absurd (show p∈([]:List (Addr × Obj)) from hp) (by simp),I.hok.kept W,?_⟩
 ·-- every cell of the block is there
  have n:(Ck X x scope C s H fp).env.scope.names.lookup y=some .cell \/ (Ck X x scope C s H fp).env.scope.names.lookup y=some .free:=hy
  rw[look y] at n
  cases e:scope.names.lookup y with
  | none=>rw[e] at n;rcases n with z | z <;> cases z
  | some k =>
   have w:=PySem.mem_of_lookup e
   have a:k=.free:=by
    rw[e] at n
    cases k with
    | free=>rfl
    | cell=>exact absurd rfl (S.nocell _ w)
    | _=>rcases n with z | z <;> simp at z
   subst a
   obtain⟨c,J⟩:=I.ok.has y (S.free _ w rfl)
   exact fh.mp (Ex X.env scope.names [] y w (by rw[J];rfl))
 ·obtain⟨f0,L,R,O,T,Y⟩:=Q b D
  exact⟨br (bi (P b D) M),λy c e=>T y c (E y c e)⟩
 ·obtain⟨f0,L,R,O,T,Y⟩:=Q b D
  rcases O with z | z
  ·exact I.ok.noex b o e z
  ·exact absurd (bi (Heap.lt_size e) (ba I.ok.bsz z)) (fR _)
 ·obtain⟨f0,L,R,O,T,Y⟩:=Q b D
  rcases cf.mp (I.Oe b U) with e | e
  ·exact L e
  ·exact R e
 ·cases i with
  | zero =>
   have B:(some none:Option (Option V))=some (some v):=Z
   cases B
  | succ i =>
   have d:(JC x X.N)[i]? = some y:=h1
   have B:σ[i]? = some (some v):=Z
   have G:y∈JC x X.N:=ai d
   unfold JC at d
   rw[al] at d
   cases e0:X.N[i]? with
   | none=>rw[e0] at d;cases d
   | some j =>
    rw[e0] at d
    have g:(if j=x then ("" : Str) else j)=y:=Option.some.inj d
    have f:(Ck X x scope C s H fp).env.scope.names.lookup y=some .local \/ (Ck X x scope C s H fp).env.scope.names.lookup y=some .cell \/ (Ck X x scope C s H fp).env.scope.names.lookup y=some .free:=h3
    rw[look y] at f
    have N:j=y:=by
     by_cases q:j=x
     ·rw[if_pos q] at g
      rw[<-g,S.noE] at f
      rcases f with z | z | z <;> cases z
     ·rw[if_neg q] at g
      exact g
    subst N
    cases e:scope.names.lookup j with
    | none=>rw[e] at f;rcases f with z | z | z <;> cases z
    | some k =>
     have w:=PySem.mem_of_lookup e
     have a:k=.free:=by
      rw[e] at f
      cases k with
      | free=>rfl
      | cell=>exact absurd rfl (S.nocell _ w)
      | «local»=>exact absurd e (S.only j G)
      | _=>rcases f with z | z | z <;> simp at z
     subst a
     have kd:=S.free _ w rfl
     obtain⟨m0,Ix,Sn⟩:=I.loc
     obtain⟨u,r,l⟩:=Sn i j v e0 B (by rcases kd with z | z;exact .inr (.inl z);exact .inr (.inr z))
     refine⟨u,r,.inr ⟨?_,?_⟩⟩
     ·have K:(Ck X x scope C s H fp).env.scope.names.lookup j=some (if (NameKind.free == NameKind.free && X.env.scope.kind == .function && X.env.kindOf j == some .cell) then NameKind.cell else NameKind.free):=by
       rw[look j,e];rfl
      by_cases c:(NameKind.free == NameKind.free && X.env.scope.kind == .function && X.env.kindOf j == some .cell)=true
      ·rw[if_pos c] at K;exact .inl K
      ·rw[if_neg c] at K;exact .inr K
     ·rcases l with⟨lk,_⟩ | ⟨_,c,J,A⟩
      ·exfalso
       rcases kd with z | z <;> (rw[show X.env.kindOf j=some NameKind.local from lk] at z;cases z)
      ·obtain⟨c',F⟩:=fh.mp (Ex X.env scope.names [] j w (by rw[J];rfl))
       have:=E j c' F
       rw[J] at this
       cases this
       exact⟨c,F,t c _ A⟩
 ·obtain⟨v,z⟩:=I.cell y c (E y c e)
  exact⟨v,t c v z⟩
 ·show (none::σ).length=(x::JC x X.N).length
  simp[JC,I.len]
def Ob (X:Cx) (k7:List Expr) (t:TT):Prop :=
 ∀ (a8:List (Addr × Obj)) (s:Shared) (σ:St) (H:Hp) (Q:Bool->Hp->Prop),Inv X a8 σ H s->t σ H Q ->
  wpAny (model X.prog X.w) X.A (forIn k7 true λc r=>if r=true then do let ok <-isTrue c X.env (eval c X.env);pure (ForInStep.yield ok) else pure (ForInStep.yield r)) (TP X a8 σ Q) X.xe s
def VN:TT:=λ_ H Q=>Q true H
theorem Cq:Ob X [] VN:=λ_ _ _ H _ I h=>wpAny_tests_nil ⟨H,I,h⟩
theorem G6 {c:Expr} {t:TT} (h:PT X c t):Ob X [c] t:=λa s σ H Q I q=>wpAny_tests_one (h a s σ H Q I q)
def HB (J:It) (σ:St) (H1:Hp) (Q:VK) (tt:TT) (te:TE):Prop:=∀ D,H1 D=none->∃ W:Nat->Nat->List V->Hp->Prop,(∃ m,W 0 m [] (upd H1 D (.lst [])))/\∀ i m ys H2,W i m ys H2 ->
 (J.stop i H2/\Q (.ref D) H2) \/ (J.go i H2/\∀ x H3,J.yld i H2 x H3->tt (some x::σ) H3 λb H4 =>
  if b=true then te (some x::σ) H4 λy H5=>H5 D=some (.lst ys)/\ys.length<sizeLine/\∃ m',m'<m/\W (i+1) m' (ys++[y]) (upd H5 D (.lst (ys++[y])))
  else ∃ m',m'<m/\W (i+1) m' ys H4)
def bZ (wi:TI) (tt:TT) (te:TE):TE:=λσ H Q=>wi σ H λJ H1=>HB J σ H1 Q tt te
theorem Qh {α:Type} {t:Sem α} {Q b:α->Shared->Prop} {M:Model} (h:wpAny M A t Q (λ_ _=>False) s) (c:∀ a s,Q a s->b a s):wpAny M A t b E s:=wpAny_mono h c λ_ _ x=>x.elim
theorem Inv.sameBut (I:Inv X a8 σ H s) (f:G7 X a8 H C) (a:Heap.SameBut C s.heap h'):Inv X a8 σ H { s with heap:=h' } :=
 I.turned (t':=s.toks) (λb o c e=>(a.2 b c).trans e) f.1 f.2.1 f.2.2.2.1 f.2.2.2.2.1 f.2.2.2.2.2
theorem K7 {px:Pos} {c:Shared} {A:Nat->Heap->Prop} {J:It} {E:vSP}
  {RR:Value->Addr->Result->Shared->Prop} {Q:VK}
  (hc:X.calm=true) (S:Gq X x scope) (ht:∀ C s₀ H₀ fp,Ob (Ck X x scope C s₀ H₀ fp) k7 tt) (he:∀ C s₀ H₀ fp,PE (Ck X x scope C s₀ H₀ fp) k8 te)
  (I2:Inv X a8 σ H2 c) (T:Turn X.prog X.w X.K (.Name x px) J fp it A) (pV:A 0 c.heap) (f2:∀ b∈fp,G7 X a8 H2 b)
  (q:∀ D,H2 D=none->∃ W:Nat->Nat->List V->Hp->Prop,(∃ m,W 0 m [] (upd H2 D (.lst [])))/\∀ i m ys H2,W i m ys H2 ->
   (J.stop i H2/\Q (.ref D) H2) \/ (J.go i H2/\∀ x H3,J.yld i H2 x H3->tt (some x::σ) H3 λb H4 =>
    if b=true then te (some x::σ) H4 λy H5=>H5 D=some (.lst ys)/\ys.length<sizeLine/\∃ m',m'<m/\W (i+1) m' (ys++[y]) (upd H5 D (.lst (ys++[y])))
    else ∃ m',m'<m/\W (i+1) m' ys H4))
  (RF:∀ D C s' H' m,s'.heap.Ns C m->G7 X a8 H' C->Inv X a8 σ H' s'->Q (.ref D) H'->RR (.ref D) C (.ok .next) s') :
  wpAny (model X.prog X.w) X.A (newList []) (λd0 s₃=>wpAny (model X.prog X.w) X.A (newFunctionEnv scope X.env.globals (Dd X.env scope.names []) [] X.env.qual none .none (some X.env)) (λtJ s₄ =>
   codeAny (model X.prog X.w) X.A (.compStart (.ListComp k8 [⟨.Name x px,iter,k7,0⟩] scope pos) 0 (.ref it) d0 { tJ with scope:=relabel scope X.env }) (RR d0 tJ.locals) s₄) E s₃) E c:=by
 refine wpAny_newObj_type (wpAny_newFunctionEnv S.nocell (by intro y hy;simp at hy) (λz yB AC=>?_) S.kind)
 have Z:=I2.gj (its:=[]) (ys:=[]) (t':=c.toks) .nil (dA _)
 have an:H2 c.heap.objs.size=none:=I2.fresh
 obtain⟨W,⟨m0,w0⟩,oj⟩:=q _ an
 generalize M:({ c with heap:=c.heap.push { cls:=.type "list",data:=.seq ([]:List Value).toArray },toks:=c.toks }:Shared)=a at Z
 have B:a.heap=c.heap.push { cls:=.type "list",data:=.seq ([]:List Value).toArray }:=by rw[<-M]
 have G:∀ b∈fp,b<c.heap.objs.size:=λb f=>let ⟨_,e,_⟩:=T.obj _ _ pV b f;Heap.lt_size e
 have L:∀ b∈fp,b<a.heap.objs.size:=λb f=>by rw[B,Heap.size_push];exact fT (G b f)
 have f3:∀ b∈fp,G7 X a8 (upd H2 c.heap.objs.size (.lst [])) b:=λb f=>⟨by rw[Aw (br (G b f))];exact (f2 b f).1,(f2 b f).2⟩
 have I:∀ b o,a.heap.get? b=some o->z.get? b=some o:=λb o e=>by
  have K:b ≠ a.heap.objs.size:=br (Heap.lt_size e)
  rw[B] at e K
  exact AC.extBut b o K (Heap.get?_push_of_some _ e)
 have hC:a.heap.objs.size=(c.heap.push { cls:=.type "list",data:=.seq ([]:List Value).toArray }).objs.size:=by rw[B]
 have ac:z.Ns a.heap.objs.size (λx=>([]:List (Str × Value)).reverse.lookup x):=by rw[hC];exact yB
 have F:A 0 z:=T.keep _ _ _ pV λb f o e=>I b o (by rw[B];exact Heap.get?_push_of_some _ e)
 have aw:c.heap.objs.size ≠ a.heap.objs.size:=by rw[B,Heap.size_push];exact br (ij _)
 have start:∀ h,Inv (Ck X x scope a.heap.objs.size a (upd H2 c.heap.objs.size (.lst [])) fp) [] (none::σ) (upd H2 c.heap.objs.size (.lst [])) { a with heap:=z,toks:=h }:=λh =>
  Qq Z S f3 L (ah _) ac I
 generalize s:Ck X x scope a.heap.objs.size a (upd H2 c.heap.objs.size (.lst [])) fp=H at start
 have eA:H.A=X.A:=by rw[<-s];rfl
 have eP:H.prog=X.prog:=by rw[<-s];rfl
 have eW:H.w=X.w:=by rw[<-s];rfl
 have eK:H.K=X.K:=by rw[<-s];rfl
 have eC:H.env.locals=a.heap.objs.size:=by rw[<-s];rfl
 have j:∀ h,codeAny (model X.prog X.w) X.A (.compLoop (.ListComp k8 [⟨.Name x px,iter,k7,0⟩] scope pos) 0 (.ref it) (.ref c.heap.objs.size) (compEnvC scope (Dd X.env scope.names []) a.heap.objs.size X.env))
   (RR (.ref c.heap.objs.size) a.heap.objs.size) { a with heap:=z,toks:=h }:=by
  intro h
  subst s
  refine codeAny_compLoop_tests (λn s'=>∃ i ys l H',Inv (Ck X x scope a.heap.objs.size a (upd H2 c.heap.objs.size (.lst [])) fp) [] (l::σ) H' s'/\A i s'.heap/\(∀ b∈fp,H' b=none)/\W i n ys H') ?_ m0
   ⟨0,[],none,_,start h,F,λb f=>(f3 b f).1,w0⟩
  rintro n s4 ⟨i,ys,l,H4,N,HI,Kj,w4⟩
  have g:∀ {H':Hp},(∀ b∈fp,H' b=none)->∀ b∈fp,G7 (Ck X x scope a.heap.objs.size a (upd H2 c.heap.objs.size (.lst [])) fp) [] H' b:=λhn b f=>by
   refine⟨hn b f,(N.ok.exf b f).1,N.ok.exfs b f,.inl f,(N.ok.exf b f).2,λp hp=>absurd (show p∈([]:List (Addr × Obj)) from hp) (by simp)⟩
  rcases oj i n ys H4 w4 with⟨stop,qn⟩ | ⟨go,step⟩
  ·refine CK (T.done (Ck X x scope a.heap.objs.size a (upd H2 c.heap.objs.size (.lst [])) fp) rfl rfl rfl hc i [] s4 (l::σ) H4 _ N (g Kj) HI stop) λr P ⟨hr,w⟩=>?_
   subst hr
   obtain⟨m,hn,_⟩:=w.loc
   refine RF _ _ P H4 m hn (Z.Ms (ah _) w.free) (Z.call' (s':=P) (ch:=fp) w.os w.base w.hok w.bare (λb f=>?_)) qn
   obtain⟨_,g1,_,g3,g4,g5⟩:=f3 b f
   exact⟨g3,g1,g4,g5⟩
  ·refine CK (T.item (Ck X x scope a.heap.objs.size a (upd H2 c.heap.objs.size (.lst [])) fp) rfl rfl rfl hc i [] s4 (l::σ) H4 _ N (g Kj) HI go) λr P ⟨u,hr,h5⟩=>?_
   subst hr
   intro Γ p hΓ
   obtain⟨v,H6,I6,r6,y6,Cb,PD⟩:=h5 Γ p hΓ
   refine (?_:wpAny _ _ _ _ _ _) Γ p hΓ
   have NV:=I6.pinned (g PD) (T.obj _ _ Cb)
   have k:(Ck X x scope a.heap.objs.size a (upd H2 c.heap.objs.size (.lst [])) fp).env.scope.names.lookup x=some .local:=lookup_relabel_local S.loc
   have again:∀ {t:Shared} {Y:Hp} {xC:List V},Inv (Ck X x scope a.heap.objs.size a (upd H2 c.heap.objs.size (.lst [])) fp) ([]++KZ fp P.heap) (some v::σ) Y t->(∃ m',m'<n/\W (i+1) m' xC Y) ->
     ∃ m,m<n/\∃ i ys l H',Inv (Ck X x scope a.heap.objs.size a (upd H2 c.heap.objs.size (.lst [])) fp) [] (l::σ) H' t/\A i t.heap/\(∀ b∈fp,H' b=none)/\W i m ys H':=λ{t Y xC} O hw=>by
    obtain⟨m',hm,w7⟩:=hw
    refine⟨m',hm,i+1,xC,some v,Y,O.H_,T.keep _ _ _ Cb λb f o e=>(O.pin (b,o) (bt _ (bt _ (Ez f e)))).1,λb f=>?_,w7⟩
    obtain⟨o,e,d⟩:=T.obj _ _ Cb b f
    exact (O.pin (b,o) (bt _ (bt _ (Ez f e)))).2.1
   refine wpAny_assign_Name (Ly (X:=Ck X x scope a.heap.objs.size a (upd H2 c.heap.objs.size (.lst [])) fp) (i:=0) NV S.nd rfl (.inl k) r6 (λt O=>?_) (.inr k))
   refine Qh (ht _ _ _ _ _ t (some v::σ) H6 _ O (step v H6 y6)) λb s8 i3=>?_
   obtain⟨H8,I8,U⟩:=i3
   cases b with
   | false =>
    rw[if_neg fb] at U |-
    exact again I8 U
   | true =>
    rw[if_pos rfl] at U |-
    refine Qh (he _ _ _ _ _ s8 (some v::σ) H8 _ I8 U) λy s9 i3=>?_
    obtain⟨yv,H9,I9,r9,SL,TN,q9⟩:=i3
    refine Qh (Dj (X:=Ck X x scope a.heap.objs.size a (upd H2 c.heap.objs.size (.lst [])) fp) _ s9 (some v::σ) H9 (.ref c.heap.objs.size) [yv] (.ref c.heap.objs.size) [y] (λ_ H'=>H'=upd H9 c.heap.objs.size (.lst (ys++[yv]))) I9 rfl (.cons r9 .nil)
     ⟨_,ys,yv,rfl,rfl,SL,TN,rfl⟩) λ_ as ⟨_,mI,MX,_,ap⟩=>?_
    subst ap
    exact again MX q9
 have ab:=λh=>codeAny_compStart_list (R:=RR (.ref c.heap.objs.size) a.heap.objs.size) (j h) (T.self X.A 0 { a with heap:=z,toks:=h } (λSj s'=>codeAny (model X.prog X.w) X.A (.compLoop (.ListComp k8 [⟨.Name x px,iter,k7,0⟩] scope pos) 0 Sj (.ref c.heap.objs.size) (compEnvC scope (Dd X.env scope.names []) a.heap.objs.size X.env)) (RR (.ref c.heap.objs.size) a.heap.objs.size) s') _ F (j h))
 subst M
 exact ab _
theorem Bq {c:Pos} {b:TI} (r:X.calm=true) (S:Gq X x scope) (hi:PI X (.Name x c) iter b)
  (t:∀ C s₀ H₀ fp,Ob (Ck X x scope C s₀ H₀ fp) k7 tt) (p:∀ C s₀ H₀ fp,PE (Ck X x scope C s₀ H₀ fp) k8 te) (j:∀ x,foldedSetIterable iter X.env x=pure x:=by intro _;rfl) :
  PE X (.ListComp k8 [⟨.Name x c,iter,k7,0⟩] scope pos) (bZ b tt te):=by
 intro a s σ H Q I h
 rw[eval_ListComp]
 refine wpAny_comprehension_free (use:=none) (cl:=Dd X.env scope.names []) rfl j (G8 λy l B=>I.ok.has y.1 (S.free y l B)) S.kind S.names (CK (hi a s σ H _ I h) λv N E=>CK E λP L A=>?_)
 obtain⟨K,fp,G,J,M,e,o,T,w,z,q⟩:=A
 subst e
 refine K7 (RR:=λk C=>compPost (model X.prog X.w) X.A X.xe none (EP X a σ Q) k C) (Q:=Q) r S t p o T w z q ?_
 intro D C O g m d u i n
 exact⟨m,d,λF f=>⟨.ref D,g,i.sameBut u f,rfl,n⟩⟩
theorem Yg {y:Str} {f b p:Pos} {r:TI} (K:X.N.Nodup) (j:X.N[i]? = some y) (d:X.env.scope.names.lookup y=some .local) (P:X.calm=true) (S:Gq X x scope) (hi:PI X (.Name x f) iter r)
  (R:∀ C s₀ H₀ fp,Ob (Ck X x scope C s₀ H₀ fp) k7 tt) (O:∀ C s₀ H₀ fp,PE (Ck X x scope C s₀ H₀ fp) k8 te) (A:swapsWith (.ListComp k8 [⟨.Name x f,iter,k7,0⟩] scope pos) (some (.Name y b)) p.line X.env=pure true:=by rfl) (G:∀ x,foldedSetIterable iter X.env x=pure x:=by intro _;rfl) :
  PS X (.Assign [.Name y b] (.ListComp k8 [⟨.Name x f,iter,k7,0⟩] scope pos) p) (Uc (bZ r tt te) (Dc i)):=by
 intro k s σ H n I h
 rw[exec_Assign_Name_used _ _ _ _ A]
 refine wpAny_bind (wpAny_standAt (wpAny_bind ?_))
 show wpAny _ X.A (do let _ <-comprehension (.ListComp k8 [⟨.Name x f,iter,k7,0⟩] scope pos) scope X.env _ (newList []) false (eval iter X.env) (some (assign (.Name y b) X.env))) _ _ s
 refine wpAny_bind (wpAny_mono (wpAny_comprehension_free (use:=some (assign (.Name y b) X.env)) (cl:=Dd X.env scope.names []) (Q:=λ_ c=>SP X k n .next c) rfl G (G8 λy d Z=>I.ok.has y.1 (S.free y d Z)) S.kind S.names
  (CK (hi k s σ H _ I h) λv s1 h1=>CK h1 λy' s2 Y=>?_)) (λ_ c l=>wpAny_pure (wpAny_pure l)) λ_ _ e=>e)
 obtain⟨it,fp,tn,J,H2,e,M,T,V,W,q⟩:=Y
 subst e
 refine K7 (RR:=λL C=>compPost (model X.prog X.w) X.A X.xe (some (assign (.Name y b) X.env)) (λ_ c=>SP X k n .next c) L C) (Q:=λx U=>Dc i x σ U n.nx) P S R O M T V W q ?_
 intro D C c w m t o F l
 show wpAny _ X.A (assign (.Name y b) X.env (.ref D)) _ _ _
 refine wpAny_assign_Name (J0 F K j (.inl d) (v:=.ref D) rfl (λs6 N ri=>?_) (.inr d))
 obtain⟨a,E,B⟩:=ri
 have g:C ≠ a:=by
  rcases B with z | z
  ·rw[z];exact o.2.1
  ·exact Ne.symm (o.2.2.2.2.1 y a z)
 exact⟨m,t.sameBut E g,λh' u=>⟨_,w,N.sameBut o u,l⟩⟩
section
variable {Q:VK}
theorem Hj {J:It} (p:V->Bool) (f:V->V) (E:xs.length<sizeLine)
  (v:∀ i H x,Am H1 H->xs[i]? = some x->J.go i H) (F:∀ i H y H',Am H1 H->i<xs.length->J.yld i H y H'->H'=H/\xs[i]? = some y) (u:∀ H,Am H1 H->J.stop xs.length H)
  (A:∀ x∈xs,∀ H,Am H1 H->∀ R:Bool->Hp->Prop,(∀ H',Am H H'->R (p x) H')->tt (some x::σ) H R)
  (z:∀ x∈xs,p x=true->∀ H,Am H1 H->∀ R:VK,(∀ H',Am H H'->R (f x) H')->te (some x::σ) H R)
  (G:∀ D H,H1 D=none->Am H1 H->H D=some (.lst ((xs.filter p).map f))->Q (.ref D) H):HB J σ H1 Q tt te:=by
 intro D n
 have C:Am H1 (upd H1 D (.lst [])):=λb o e=>by rw[Aw (Ai e n)];exact e
 refine⟨λi m r H=>m=xs.length - i/\i<=xs.length/\r=((xs.take i).filter p).map f/\H D=some (.lst r)/\Am H1 H,⟨xs.length,by simp,Nat.zero_le _,by simp,Ak,C⟩,?_⟩
 rintro i m r H ⟨rfl,K,rfl,l,c⟩
 by_cases a:i<xs.length
 ·obtain⟨x,j⟩:∃ x,xs[i]? = some x:=⟨xs[i],by simp[a]⟩
  refine .inr ⟨v i H x c j,λy B q=>?_⟩
  obtain⟨rfl,h⟩:=F i H y B c a q
  rw[j] at h
  cases h
  have s:x∈xs:=ai j
  have k:(((xs.take i).filter p).map f).length<sizeLine:=by
   rw[af]
   refine aT (bE _ _) (aT ?_ E)
   rw[ck];omega
  refine A x s _ c _ λw d=>?_
  by_cases g:p x=true
  ·rw[if_pos g]
   refine z x s g w (c.trans d) _ λI t=>?_
   refine⟨t _ _ (d _ _ l),k,xs.length - (i+1),by omega,rfl,a,?_,Ak,λb o e=>?_⟩
   ·rw[take_succ_filter p xs i x j,if_pos g,cm];rfl
   ·rw[Aw (Ai e n)];exact t _ _ (d _ _ (c _ _ e))
  ·rw[if_neg g]
   refine⟨xs.length - (i+1),by omega,rfl,a,?_,d _ _ l,c.trans d⟩
   rw[take_succ_filter p xs i x j,if_neg g,dS]
 ·have e:i=xs.length:=by omega
  subst e
  rw[eD] at l
  exact .inl ⟨u H c,G D H n c l⟩
theorem JK {lo:Int} (p:Int->Bool) (f:Int->V) (e:n<sizeLine)
  (h:∀ i:Nat,i<n->∀ H,Am H1 H->∀ R:Bool->Hp->Prop,(∀ H',Am H H'->R (p (lo+i)) H')->tt (some (.int (lo+i))::σ) H R)
  (s:∀ i:Nat,i<n->p (lo+i)=true->∀ H,Am H1 H->∀ R:VK,(∀ H',Am H H'->R (f (lo+i)) H')->te (some (.int (lo+i))::σ) H R)
  (m:∀ D H,H1 D=none->Am H1 H->H D=some (.lst ((((List.range n).map λ(i:Nat)=>lo+(i:Int)).filter p).map f))->Q (.ref D) H):HB (bY lo n) σ H1 Q tt te:=by
 let g:V->Int:=λv=>match v with | .int i=>i | _=>0
 have d:∀ i:Nat,i<n->((List.range n).map λ(i:Nat)=>V.int (lo+(i:Int)))[i]? = some (.int (lo+i)):=λi a=>by simp[a]
 refine Hj (xs:=(List.range n).map λ(i:Nat)=>V.int (lo+(i:Int))) (λv=>p (g v)) (λv=>f (g v)) (by simpa using e) (λi H x _ b=>?_) (λi H y H' _ a j=>?_) (λH _=>?_) (λx b=>?_) (λx b=>?_) (λD H q k r=>?_)
 ·have:i<((List.range n).map λ(i:Nat)=>V.int (lo+(i:Int))).length:=(ag.mp b).1
  show i<n
  simpa using this
 ·have c:i<n:=by simpa using a
  obtain⟨l,o⟩:=j
  subst o
  exact⟨l,d i c⟩
 ·show n<=_
  simp
 ·obtain⟨i,a,rfl⟩:=ar.mp b
  exact h i (fS.mp a)
 ·obtain⟨i,a,rfl⟩:=ar.mp b
  exact s i (fS.mp a)
 ·refine m D H q k ?_
  rw[r,eR,ax,eR,ax]
  rfl
def rY (z:Str):It:=⟨λi _=>i<z.cps.size,λi H x H'=>H'=H/\∃ c,z.cps[i]? = some c/\x=.str ⟨#[c]⟩,λi _=>z.cps.size<=i⟩
theorem V5 {w:World} {K:W.Frag} {z:Str} {t0:Tok} {l:String} (y:l = "str_ascii_iterator" \/ l = "str_iterator"):Turn P w K tg (rY z) [it] it (λi h=>h.IsStrIter it l z t0 i) where
 mem:=by simp
 obj:=λi h st b f=>by
  have e:b=it:=by simpa using f
  subst e
  obtain⟨o,R,p,Y⟩:=st
  exact⟨o,R,λv q=>by rw[Y] at q;cases q⟩
 keep:=λi h a st k=>let ⟨o,R,r⟩:=st;⟨o,k it (by simp) o R,r⟩
 item:=by
  intro X N L M p i J s σ H E I B st O
  subst N L M
  obtain⟨D,m,Z,n,C,t⟩:=B it (by simp)
  have g:i<z.cps.size:=O
  have j:z.cps[i]? = some z.cps[i]:=Array.getElem?_eq_getElem g
  have fin:∀ a,a.IsStrIter it l z t0 (i+1)->Heap.SameBut it s.heap a->∃ u,some (Value.str ⟨#[z.cps[i]]⟩ s.toks)=some u /\
    wpAny (model X.prog X.w) X.A (letOwnedTupleGo tg (.ref it) u) (λ_ S=>∃ x F,Inv X J σ F S/\RelV x u/\(rY z).yld i H x F/\S.heap.IsStrIter it l z t0 (i+1)/\∀ b∈[it],F b=none) E { s with heap:=a,toks:=s.toks+1 }:=λa T U=>by
   have V:Inv X J σ H { s with heap:=a,toks:=s.toks+1 }:=I.turned (λb o f e=>(U.2 b f).trans e) D m n C t
   obtain⟨o,e,c,d⟩:=id T
   refine⟨_,rfl,QT (s:={ s with heap:=a,toks:=s.toks+1 }) e c d (by rcases y with rfl | rfl <;> decide) ⟨.str ⟨#[z.cps[i]]⟩,H,V,⟨_,rfl⟩,⟨rfl,_,j,rfl⟩,T,λb f=>(B b f).1⟩⟩
  rcases y with rfl | rfl
  ·exact wpAny_pyNext_ascii_item st j fin
  ·exact wpAny_pyNext_wide_item st j fin
 done:=by
  intro X N L M p i J s σ H E I B st O
  subst N L M
  obtain⟨D,m,Z,n,C,t⟩:=B it (by simp)
  have j:z.cps[i]? = none:=by
   have g:z.cps.size<=i:=O
   simpa using g
  rcases y with rfl | rfl
  ·exact wpAny_pyNext_ascii_end (I.ok.hd p) st j λa G=>⟨rfl,I.turned (t':=s.toks) (λb o f e=>G b o f e) D m n C t⟩
  ·exact wpAny_pyNext_wide_end (I.ok.hd p) st j λa G=>⟨rfl,I.turned (t':=s.toks) (λb o f e=>G b o f e) D m n C t⟩
 self:=λA i s Q E st h=>by
  rcases y with rfl | rfl
  ·exact wpAny_pyIter_striter_ascii st h
  ·exact wpAny_pyIter_striter_wide st h
end
inductive cj (R:It->Hp->Prop) (x:V) (H1:Hp):Prop
 | mk (z:_):x=.str z->R (rY z) H1->cj R x H1
def tQ (tl:TE):TI:=λσ H R=>tl σ H λx H1=>cj R x H1
theorem Vm {l:Expr} {f:TE} (hl:PE X l f):PI X tg l (tQ f):=by
 intro g s σ H R I h
 refine CK (hl g s σ H _ I h) λv a m=>?_
 obtain⟨x,j,d,p,n⟩:=m
 obtain⟨z,e,q⟩:=n
 subst e
 obtain⟨t,rfl⟩:=p
 have fin:∀ c,(c = "str_ascii_iterator" \/ c = "str_iterator")->PIE X g σ tg R (.ref a.heap.objs.size) { a with heap:=a.heap.push { cls:=.type c,data:=.fields #[.str z t,.int 0 0] } }:=λc k=>by
  refine⟨a.heap.objs.size,[a.heap.objs.size],_,_,j,rfl,d.kept (t':=a.toks) λb o e=>Heap.get?_push_of_some _ e,V5 (z:=z) (t0:=t) k,⟨_,Heap.get?_push_size _ rfl,rfl,rfl⟩,λb i=>?_,q⟩
  have e:b=a.heap.objs.size:=by simpa using i
  subst e
  exact d.Ms (ah _) (d.hok.fresh (ah _))
 cases ha:z.cps.all (· < 128)
 ·exact wpAny_pyIter_wide ha (fin _ (.inr rfl))
 ·exact wpAny_pyIter_ascii ha (fin _ (.inl rfl))
section
variable {Q:VK}
def sgn (c:Nat):V:=.str ⟨#[c]⟩
theorem Px {z:Str} (p:Nat->Bool) (f:Nat->V) (d:z.length<sizeLine)
  (e:∀ c∈z.cps.toList,∀ H,Am H1 H->∀ R:Bool->Hp->Prop,(∀ H',Am H H'->R (p c) H')->tt (some (sgn c)::σ) H R)
  (o:∀ c∈z.cps.toList,p c=true->∀ H,Am H1 H->∀ R:VK,(∀ H',Am H H'->R (f c) H')->te (some (sgn c)::σ) H R)
  (l:∀ D H,H1 D=none->Am H1 H->H D=some (.lst ((z.cps.toList.filter p).map f))->Q (.ref D) H):HB (rY z) σ H1 Q tt te:=by
 let g:V->Nat:=λv=>match v with | .str y=>y.cps.getD 0 0 | _=>0
 refine Hj (xs:=z.cps.toList.map sgn) (λv=>p (g v)) (λv=>f (g v)) (by simpa [Str.length] using d) (λi H x _ b=>?_) (λi H y H' _ q h=>?_) (λH _=>?_) (λx b=>?_) (λx b=>?_) (λD H m j n=>?_)
 ·have:i<(z.cps.toList.map sgn).length:=(ag.mp b).1
  show i<z.cps.size
  simpa using this
 ·obtain⟨k,c,a,rfl⟩:=h
  refine⟨k,?_⟩
  rw[al,Array.getElem?_toList,a];rfl
 ·show z.cps.size<=_
  simp
 ·obtain⟨c,a,rfl⟩:=ar.mp b
  exact e c a
 ·obtain⟨c,a,rfl⟩:=ar.mp b
  exact o c a
 ·refine l D H m j ?_
  rw[n,eR,ax]
  rfl
end
theorem range_all (bs:List Bool):((List.range bs.length).all λi=>(bs[i]?).getD true)=bs.all id:=by
 rw[fe,fm,fm]
 constructor
 ·intro h b d
  obtain⟨i,c,e⟩:=fI.mp d
  have:=h i (fS.mpr c)
  rw[ae c,e] at this
  exact this
 ·intro h i c
  have a:=fS.mp c
  rw[ae a]
  exact h _ (dL a)
theorem Hi (B:X.calm=true):FW X (.builtin "all") (λxs H Q=>∃ (p:Addr) (bs:List Bool),xs=[V.ref p]/\Dg X.K H p (bs.map V.bl)/\Q (.bl (bs.all id)) H):=by
 intro K s σ H xs L Q I r h
 obtain⟨p,bs,rfl,z,q⟩:=h
 obtain⟨u,rfl,j⟩:=vals1 r
 cases j
 obtain⟨a,t,k,G⟩:=I.list z
 have c:bs.length=a.length:=by have:=t.length;rw[af] at this;exact this
 have g:p<s.heap.objs.size:=by obtain⟨_,e,_⟩:=k.isList;exact Heap.lt_size e
 refine call_all_walk (wpAny_pyIter_list k.isList ?_)
 refine⟨s.heap.objs.size,[s.heap.objs.size,p],[s.heap.objs.size],a.toArray.size,_,_,λi=>(bs[i]?).getD true,rfl,Walks.list (A:=X.A.in1) (I.ok.hd B) _ p (br g) a.toArray,
  ⟨⟨_,Heap.get?_push_size _ rfl,rfl,rfl⟩,k.isList.push _⟩,λi v M N J D f=>?_,λF w E=>?_⟩
 ·have n:a[i]? = some v:=by simpa using D
  have C:i<a.length:=(ag.mp n).1
  have l:bs[i]? = some bs[i]:=by simp[c,C]
  obtain⟨u,m,j⟩:=t.get (i:=i) (x:=.bl bs[i]) (by rw[al,l];rfl)
  rw[n] at m
  cases m
  cases j
  dsimp only at f
  rw[l] at f
  exact wpAny_truthy_bool f
 ·have e:((List.range a.toArray.size).all λi=>(bs[i]?).getD true)=bs.all id:=by rw[ci,<-c];exact range_all bs
  rw[e]
  refine⟨.bl (bs.all id),H,I.kept (t':=w) λb o d=>E b o (λy=>?_) (Heap.get?_push_of_some _ d),rfl,q⟩
  rw[av.mp y] at d
  exact fR _ (Heap.lt_size d)
theorem Cj:FW X (.builtin "isinstance") (λxs H Q=>∃ x T t b,xs=[x,V.ty T]/\Jh X.K H x t/\W.kitOne X.K t (.type T)=some b/\Q (.bl b) H):=by
 intro i s σ H xs g Q I r h
 obtain⟨x,T,t,b,rfl,c,e,q⟩:=h
 obtain⟨u,v,rfl,a,d⟩:=Vals.two r
 cases d
 exact Ui I a c e λf=>⟨.bl b,H,I.tok _,rfl,q⟩
def Tj (x:Str) (scope osc:Scope) (N:List Str):Bool :=
 (scope.kind == .function) && scope.names.all (λy=>y.2 != .cell) && scope.names.all (λy=>y.2 != .local || scope.names.lookup y.1 == some .local) && (scope.names.lookup x == some .local) &&
 scope.names.all (λy=>y.2 != .free || osc.names.lookup y.1 == some .cell || osc.names.lookup y.1 == some .free) && decide ((x::JC x N).Nodup) && (JC x N).all (λy=>scope.names.lookup y != some .local) && (scope.names.lookup ("" : Str) == none)
theorem Bf {osc:Scope} {N:List Str} (n:X.env.scope=osc) (f:X.N=N) (h:Tj x scope osc N=true):Gq X x scope:=by
 unfold Tj at h
 simp only[Bool.and_eq_true] at h
 obtain⟨⟨⟨⟨⟨⟨⟨m,d⟩,g⟩,l⟩,b⟩,j⟩,c⟩,i⟩:=h
 rw[fm] at d g b c
 have k:∀ y,X.env.kindOf y=osc.names.lookup y:=λy=>by rw[<-n];rfl
 refine⟨by simpa using m,λy a=>by simpa using d y a,λy a e=>?_,by simpa using l,λy a e=>?_,by rw[f];exact of_decide_eq_true j,λy a=>?_,by simpa using i⟩
 ·have:=g y a
  rw[e] at this
  simpa using this
 ·have:=b y a
  rw[e] at this
  rw[k]
  simpa using this
 ·rw[f] at a
  simpa using c y a
theorem Inv.MN {ch:List Addr} {t':Nat} (I:Inv X a8 σ H s) (h:∀ b∈ch,G7 X a8 H b) (k:∀ b u,b ∉ ch->s.heap.get? b=some u->h'.get? b=some u) (i:s.heap.objs.size<=a)
  (new:CQ X.prog X.w (upd H a o) h' a o):Inv X a8 σ (upd H a o) { s with heap:=h',toks:=t' }:=by
 have l:H a=none:=I.hok.fresh i
 have up:∀ b u,H b=some u->upd H a o b=some u:=λb u e=>by rw[Aw (Ai e l)];exact e
 refine I.step (g':=s.gens) (d':=s.drawn) (ch:=ch) (λb f=>?_) (λb u _ _ d e _=>k b u d e) (λb u _ _ d e _=>⟨u.slots,k b u d e⟩) (λb u _ e n=>?_)
  (λb u d e=>⟨u,k b u d e⟩) (λb F e=>up _ _ e) (λb u x e=>up _ _ e) (λb D e=>⟨#[],by rw[up _ _ e];simp⟩) (λm w=>?_) (λb u e=>?_) I.bare
 ·obtain⟨G,C,E,j,y,t⟩:=h b f
  exact⟨j,C,y,t⟩
 ·rw[Aw (br (bi (Heap.lt_size e) i))]
  exact n
 ·obtain⟨u,B,p,A,r⟩:=w
  exact⟨u,B,p,k _ u (λz=>(h _ z).2.1 rfl) A,r⟩
 ·by_cases f:b=a
  ·subst f
   rw[Ak] at e
   cases e
   exact new
  ·rw[Aw f] at e
   refine (I.hok b u e).stay (λc v d q=>k c v (λz=>?_) q) (λ_ q=>up _ _ q) λ_ _ q=>up _ _ q
   have g:=(h c z).1
   rcases d with d | d
   ·rw[d,e] at g
    cases g
   ·rw[d] at g
    cases g
theorem Inv.N_ {ch:List Addr} {t':Nat} (I:Inv X a8 σ H s) (f:∀ b∈ch,G7 X a8 H b) (k:∀ b u,b ∉ ch->s.heap.get? b=some u->h'.get? b=some u):Inv X a8 σ H { s with heap:=h',toks:=t' }:=by
 refine I.step (g':=s.gens) (d':=s.drawn) (ch:=ch) (λb j=>?_) (λb u _ _ a e _=>k b u a e) (λb u _ _ a e _=>⟨u.slots,k b u a e⟩) (λb u _ e n=>n)
  (λb u a e=>⟨u,k b u a e⟩) (λb B e=>e) (λb u x e=>e) (λb y e=>⟨#[],by rw[e];simp⟩) (λm o=>?_) (λb u e=>?_) I.bare
 ·obtain⟨C,w,A,g,l,i⟩:=f b j
  exact⟨g,w,l,i⟩
 ·obtain⟨u,t,h,p,r⟩:=o
  exact⟨u,t,h,k _ u (λz=>(f _ z).2.1 rfl) p,r⟩
 ·refine (I.hok b u e).stay (λc v a q=>k c v (λz=>?_) q) (λ_ q=>q) λ_ _ q=>q
  have d:=(f c z).1
  rcases a with a | a
  ·rw[a,e] at d
   cases d
  ·rw[a] at d
   cases d
def jl (K:W.Frag) (a:Addr):It :=
 ⟨λi H=>∃ xs x,Dg K H a xs/\xs[i]? = some x,λi H v H'=>∃ T,H T=none/\v=.ref T/\∀ xs,Dg K H a xs->∃ x,xs[i]? = some x/\H'=upd H T (.tup [.int (i:Int),x]),λi H=>∃ xs,Dg K H a xs/\xs.length<=i⟩
def vo (K:W.Frag) (a b:Addr):It :=
 ⟨λi H=>∃ xs ys x y,HY K H a xs/\HY K H b ys/\xs[i]? = some x/\ys[i]? = some y,λi H v H'=>∃ T,H T=none/\v=.ref T/\∀ xs ys,HY K H a xs->HY K H b ys->∃ x y,xs[i]? = some x/\ys[i]? = some y/\H'=upd H T (.tup [x,y]),
  λi H=>∃ xs,HY K H a xs/\xs.length<=i⟩
theorem Ur {w:World} {K:W.Frag} {k1:Nat} (a e j:Addr) (m:e ≠ j) :
  Turn P w K (.Tuple es k1 pos) (jl K a) [e,j] e (λi h=>(∃ old,IsEnum h e j i old)/\h.IsListIter j a i) where
 mem:=by simp
 obj:=λi h st b f=>by
  obtain⟨⟨old,g⟩,o,ho,c,d⟩:=st
  rcases cf.mp f with rfl | f
  ·exact⟨_,g,λv z=>by
    have z':Data.fields _=Data.cell v:=z
    cases z'⟩
  ·have q:b=j:=by simpa using f
   subst q
   exact⟨o,ho,λv z=>by rw[d] at z;cases z⟩
 keep:=λi h h' st k=>by
  obtain⟨⟨old,g⟩,l⟩:=st
  exact⟨⟨old,k e (by simp) _ g⟩,l.at λo q=>k j (by simp) o q⟩
 item:=by
  intro X D y B L i V s σ H E I n st F
  subst D y B
  obtain⟨xs,x,t,C⟩:=F
  obtain⟨A,G,p,S⟩:=I.list t
  obtain⟨u,hu,ru⟩:=G.get C
  obtain⟨⟨old,g⟩,l⟩:=st
  refine wpAny_pyNext_enum_item g l p.isList (x:=u) (by simpa using hu) m λN Z Y O n4 n5=>?_
  refine⟨_,rfl,wpAny_letOwnedTupleGo_enum (s:={ s with heap:=N,toks:=s.toks+1 }) Z λh2 Q J=>?_⟩
  have M:s.heap.objs.size ≠ e:=gX (Heap.lt_size g)
  have T:s.heap.objs.size ≠ j:=by obtain⟨_,q,_⟩:=l;exact gX (Heap.lt_size q)
  have fr:H s.heap.objs.size=none:=I.hok.fresh (ah _)
  have nw:CQ X.prog X.w (upd H s.heap.objs.size (.tup [.int (i:Int),x])) h2 s.heap.objs.size (.tup [.int (i:Int),x]) :=
   ⟨by show 2<=sizeLine;decide,[.int i s.toks,u],.cons ⟨_,rfl⟩ (.cons ru .nil),_,J.extBut _ _ M O,rfl,_,rfl⟩
  refine⟨.ref s.heap.objs.size,_,I.MN (t':=s.toks+1) (ch:=[e,j]) n (λb o f q=>?_) (ah _) nw,rfl,⟨_,fr,rfl,λys U=>⟨x,by rw[I.PL U t];exact C,rfl⟩⟩,⟨⟨u,?_⟩,Y.at λo q=>J.extBut _ _ (Ne.symm m) q⟩,λb f=>?_⟩
  ·exact J.extBut _ _ (λz=>f (by simp[z])) (n5 b o (λz=>f (by simp[z])) (λz=>f (by simp[z])) q)
  ·have e1:((i:Int)+1)=((i+1:Nat):Int):=by omega
   rw[<-e1]
   exact Q
  ·have r:=f
   rcases cf.mp f with rfl | f
   ·rw[Aw (Ne.symm M)]
    exact (n _ r).1
   ·have q:b=j:=by simpa using f
    subst q
    rw[Aw (Ne.symm T)]
    exact (n _ r).1
 done:=by
  intro X D y B L i V s σ H E I n st F
  subst D y B
  obtain⟨xs,t,C⟩:=F
  obtain⟨A,G,p,S⟩:=I.list t
  obtain⟨⟨old,g⟩,l⟩:=st
  have hl:=G.length
  exact wpAny_pyNext_enum_end (I.ok.hd L) g l p.isList (by simp;omega) λN R=>⟨rfl,I.N_ (t':=s.toks) (ch:=[e,j]) n λb o f q=>R b o (λz=>f (by simp[z])) q⟩
 self:=λ_ _ _ _ _ st h=>by
  obtain⟨⟨old,g⟩,_⟩:=st
  exact wpAny_pyIter_enum g h
theorem X7 {a b:Nat} (c:a<n) (d:b<n):ZipApart (n+4) (n+2) (n+3) n (n+1) a b:=by
 constructor <;> (refine (show @Ne Nat _ _ from ?_);omega)
theorem jC {b:Nat} {P:Nat->Prop} (g:P n) (d:P (n+1)) (c:P (n+2)) (f:P (n+3)) (e:P (n+4)) (a:b∈[n,n+1,n+2,n+3,n+4]):P b:=by
 simp at a
 rcases a with rfl | rfl | rfl | rfl | rfl <;> assumption
theorem Ub {w:World} {K:W.Frag} {k1:Nat} (a b n:Nat) (ha:a<n) (hb:b<n) :
  Turn P w K (.Tuple es k1 pos) (vo K a b) [n,n+1,n+2,n+3,n+4] (n+4) (λi h=>IsZip h (n+4) (n+2) (n+3) .none/\IsPair h (n+2) (.ref n) (.ref (n+1))/\(∃ x y,IsPair h (n+3) x y)/\h.IsTupleIter n a i/\h.IsTupleIter (n+1) b i) where
 mem:=by simp
 obj:=λi h st c e=>by
  obtain⟨f,g,⟨x,y,j⟩,⟨o1,e1,_,d1⟩,⟨o2,e2,_,d2⟩⟩:=st
  refine jC (P:=λc=>∃ o,h.get? c=some o/\∀ v,o.data ≠ .cell v) ⟨_,e1,λv z=>?_⟩ ⟨_,e2,λv z=>?_⟩ ⟨_,g,λv z=>?_⟩ ⟨_,j,λv z=>?_⟩ ⟨_,f,λv z=>?_⟩ e
  ·rw[d1] at z;cases z
  ·rw[d2] at z;cases z
  ·have r:Data.seq _ _=Data.cell v:=z
   cases r
  ·have r:Data.seq _ _=Data.cell v:=z
   cases r
  ·have r:Data.fields _=Data.cell v:=z
   cases r
 keep:=λi h h' st k=>by
  obtain⟨f,g,⟨x,y,j⟩,m,A⟩:=st
  exact⟨k _ (by simp) _ f,k _ (by simp) _ g,⟨x,y,k _ (by simp) _ j⟩,m.at λo q=>k _ (by simp) o q,A.at λo q=>k _ (by simp) o q⟩
 item:=by
  intro X N R M e i a8 s σ H E I C st Q
  subst N R M
  obtain⟨xs,ys,x,y,B,q2,U,hy⟩:=Q
  obtain⟨J,S,L,_⟩:=I.tuple B
  obtain⟨OW,r2,p2,_⟩:=I.tuple q2
  obtain⟨u,hu,ru⟩:=S.get U
  obtain⟨v,hv,rv⟩:=r2.get hy
  obtain⟨f,g,⟨x0,y0,j⟩,m,A⟩:=st
  have D:=X7 ha hb
  have p:s.TypeIs (.ref (n+4)) "zip":=⟨_,f,rfl⟩
  have sz:n+4<s.heap.objs.size:=Heap.lt_size f
  unfold pyNext
  refine wpAny_bind (wpAny_attempt (wpAny_callSpecial?_slot (name:=Str.ofString "__next__") p F.slot_zip_next (wpAny_call_entry F.slot_zip_next p F.entry_zip_next
   (UL D f g j m A (show s.heap.IsTuple a J.toArray from L) (show s.heap.IsTuple b OW.toArray from p2) (x:=u) (y:=v) (by simpa using hu) (by simpa using hv) λt n1 n2 n3 n4 n5 n6 n7=>wpAny_pure ?_) (F.args_zip_next_1 _))))
  refine⟨_,rfl,wpAny_letOwnedTupleGo_zip (s:={ s with heap:=t }) n1 λY m1 l=>?_⟩
  have fr:H s.heap.objs.size=none:=I.hok.fresh (ah _)
  have nw:CQ X.prog X.w (upd H s.heap.objs.size (.tup [x,y])) Y s.heap.objs.size (.tup [x,y]) :=
   ⟨by show 2<=sizeLine;decide,[u,v],.cons ru (.cons rv .nil),_,l.extBut _ _ (Nat.ne_of_gt sz) n5,rfl,_,rfl⟩
  have Z:IsPair t (n+2) (.ref n) (.ref (n+1)):=n7 _ _ D.TIz D.TITO D.TIi1 D.TIi2 g
  refine⟨.ref s.heap.objs.size,_,I.MN (t':=s.toks) (ch:=[n,n+1,n+2,n+3,n+4]) C (λc o e q=>?_) (ah _) nw,rfl,⟨_,fr,rfl,λab xC t Y=>⟨x,y,by rw[I.J5 t B];exact U,by rw[I.J5 Y q2];exact hy,rfl⟩⟩,
   ⟨m1,l.extBut _ _ D.TIz Z,⟨u,v,l.extBut _ _ D.TOz n2⟩,n3.at λo q=>l.extBut _ _ D.i1z q,n4.at λo q=>l.extBut _ _ D.i2z q⟩,λc e=>?_⟩
  ·have z:∀ d,d∈[n,n+1,n+2,n+3,n+4]->c ≠ d:=λd O q=>e (q ▸ O)
   exact l.extBut _ _ (z _ (by simp)) (n7 c o (z _ (by simp)) (z _ (by simp)) (z _ (by simp)) (z _ (by simp)) q)
  ·rw[Aw ?_]
   ·exact (C c e).1
   ·have lt:c<=n+4:=jC (P:=λc=>c<=n+4) (by omega) (by omega) (by omega) (by omega) (ah _) e
    exact br (aT lt sz)
 done:=by
  intro X N R M e i a8 s σ H E I C st Q
  subst N R M
  obtain⟨xs,B,U⟩:=Q
  obtain⟨J,S,L,_⟩:=I.tuple B
  obtain⟨f,g,⟨x0,y0,j⟩,m,A⟩:=st
  have D:=X7 ha hb
  have p:s.TypeIs (.ref (n+4)) "zip":=⟨_,f,rfl⟩
  have hl:=S.length
  unfold pyNext
  refine wpAny_bind (wpAny_attempt (wpAny_callSpecial?_slot (name:=Str.ofString "__next__") p F.slot_zip_next (wpAny_call_entry F.slot_zip_next p F.entry_zip_next
   (Vk (I.ok.hd e) D f g j m (show s.heap.IsTuple a J.toArray from L) (by simp;omega) λt x k1 G=>?_) (F.args_zip_next_1 _))))
  obtain⟨o,ho,V⟩:=G
  refine wpAny_bind (wpAny_isInstance (T:="StopIteration") (b:=true) ⟨o,ho,V⟩ isSubtype_stop (wpAny_pure ?_))
  refine⟨rfl,I.N_ (t':=s.toks) (ch:=[n,n+1,n+2,n+3,n+4]) C λc o e q=>?_⟩
  have z:∀ d,d∈[n,n+1,n+2,n+3,n+4]->c ≠ d:=λd O q=>e (q ▸ O)
  exact k1 c o (z _ (by simp)) (z _ (by simp)) (z _ (by simp)) (z _ (by simp)) q
 self:=λ_ _ _ _ _ st h=>wpAny_pyIter_zip st.1 h
section
variable {k1:Nat} {lf:Pos}
inductive Ve (K:W.Frag) (R:It->Hp->Prop) (vs:List V) (H1:Hp):Prop
 | mk (a:_):vs=[.ref a]->(∃ xs,Dg K H1 a xs)->R (jl K a) H1->Ve K R vs H1
def qN (K:W.Frag) (ta:TA):TI:=λσ H R=>ta σ H λvs H1=>Ve K R vs H1
inductive cU (K:W.Frag) (R:It->Hp->Prop) (vs:List V) (H1:Hp):Prop
 | mk (a b:_):vs=[.ref a,.ref b]->(∃ xs,HY K H1 a xs)->(∃ ys,HY K H1 b ys)->R (vo K a b) H1->cU K R vs H1
def vq (K:W.Frag) (ta:TA):TI:=λσ H R=>ta σ H λvs H1=>cU K R vs H1
theorem K1 {l:Expr} {i:TA} (z:Gl X "enumerate") (n:X.mg "enumerate" = none) (j:PA X [l] i) (k:starEach [l] X.env=[(false,eval l X.env)]:=by rfl) :
  PI X (.Tuple es k1 lf) (.Call (.Name "enumerate" p) [l] [] pos) (qN X.K i):=by
 intro m s σ H R I h
 refine Call_ (JM I z n boot_enumerate (PyProof.Rows.callWith_type1 (CK (j pos m s σ H _ I h) λG c ⟨F,x,d,r,y⟩=>?_) k rfl))
 obtain⟨a,e,⟨K,o⟩,q⟩:=y
 subst e
 obtain⟨u,rfl,w⟩:=vals1 r
 cases w
 obtain⟨v,J,B,E⟩:=d.list o
 refine call_enumerate_list B.isList λC g t D A=>?_
 refine wpAny_pyIter_enum (s:={ c with heap:=C }) g ?_
 refine⟨_,[c.heap.objs.size+1,c.heap.objs.size],_,_,x,rfl,d.kept (t':=c.toks) A,Ur a _ _ (Nat.succ_ne_self _),⟨⟨_,g⟩,t⟩,λb f=>?_,q⟩
 have lt:c.heap.objs.size<=b:=by
  rcases cf.mp f with rfl | f
  ·exact iN _
  ·exact Nat.le_of_eq ((av.mp f).symm)
 exact d.Ms lt (d.hok.fresh lt)
theorem ZW {x y:Expr} {r:TA} (O:Gl X "zip") (E:X.mg "zip" = none) (w:PA X [x,y] r) (B:starEach [x,y] X.env=[(false,eval x X.env),(false,eval y X.env)]:=by rfl) (k:starEach [y] X.env=[(false,eval y X.env)]:=by rfl) :
  PI X (.Tuple es k1 lf) (.Call (.Name "zip" p) [x,y] [] pos) (vq X.K r):=by
 intro D s σ H R I h
 refine Call_ (JM I O E boot_zip (PyProof.Rows.callWith_type1 (CK (w pos D s σ H _ I h) λus d ⟨W,L,f,l,i⟩=>?_) (by rw[B,k]) (by rw[k];rfl)))
 obtain⟨a,b,e,⟨xs,i⟩,⟨Y,C⟩,q⟩:=i
 subst e
 obtain⟨u,v,rfl,K,Q⟩:=Vals.two l
 cases K
 cases Q
 obtain⟨F,l,m,_⟩:=f.tuple i
 obtain⟨M,Z,j,_⟩:=f.tuple C
 refine Ud (show d.heap.IsTuple a F.toArray from m) (show d.heap.IsTuple b M.toArray from j) λU n g o G t S T V z=>?_
 refine wpAny_pyIter_zip (s:={ d with heap:=U }) o ?_
 have A:a<n:=by rw[g];exact m.lt
 have N:b<n:=by rw[g];exact j.lt
 refine⟨_,[n,n+1,n+2,n+3,n+4],_,_,L,rfl,f.kept (t':=d.toks) z,Ub a b n A N,⟨o,G,⟨_,_,t⟩,S,T⟩,λc J=>?_,q⟩
 have lt:d.heap.objs.size<=c:=by
  rw[<-g]
  exact jC (P:=λc=>n<=c) (by omega) (by omega) (by omega) (by omega) (by omega) J
 exact f.Ms lt (f.hok.fresh lt)
end
theorem Yo {w:World} {R:Result->Shared->Prop} {b d:Value} {a:Env} (J:Nat->Shared->Prop) (j:E=notedBy (model prog w) A a λe s'=>R (.error e) s')
  (t:∀ n s,J n s->wpAny (model prog w) A (pyNext b) (λr s1=>match r with
   | none=>R (.ok .next) s1
   | some v=>wpAny (model prog w) A (letOwnedTupleGo tg b v) (λ_ s2=>wpAny (model prog w) A (assign tg a v) (λ_ s3 =>
     wpAny (model prog w) A (forIn k7 true λc r=>if r=true then do let ok <-isTrue c a (eval c a);pure (ForInStep.yield ok) else pure (ForInStep.yield r)) (λok s4 =>
      if ok=true then wpAny (model prog w) A (eval k8 a) (λx s5=>wpAny (model prog w) A (call (.builtin "list.append") [d,x]) (λ_ s6=>∃ m,m<n/\J m s6) E s5) E s4
      else ∃ m,m<n/\J m s4) E s3) E s2) E s1) E s) (n:Nat) (h:J n s) :
  codeAny (model prog w) A (.compLoop (.ListComp k8 [⟨tg,iter,k7,0⟩] scope pos) 0 b d a) R s:=by
 subst j
 refine codeAny_loop rfl J (λn s k=>(show wpAny _ A ((compTurn (.ListComp k8 [⟨tg,iter,k7,0⟩] scope pos) 0 b d a).onRaise (λx=>do noteFrame x a;theTreesLotGoes x)) _ _ s from wpAny_noted ?_)) n h
 rw[compTurn_list]
 refine wpAny_bind (wpAny_standAt (wpAny_bind (wpAny_mono (t n s k) (λr s1 f=>?_) λ_ _ q=>q)))
 cases r with
 | none=>exact wpAny_pure f
 | some v =>
  refine wpAny_bind (wpAny_mono f (λ_ s2 o=>wpAny_bind (wpAny_mono o (λ_ s3 p=>wpAny_bind (wpAny_mono p (λok s4 g=>?_) λ_ _ q=>q)) λ_ _ q=>q)) λ_ _ q=>q)
  cases ok with
  | false=>exact wpAny_pure ⟨rfl,g⟩
  | true=>exact wpAny_bind (wpAny_bind (wpAny_mono g (λx s5 l=>wpAny_bind (wpAny_mono l (λ_ s6 i=>wpAny_pure (wpAny_pure ⟨rfl,i⟩)) λ_ _ q=>q)) λ_ _ q=>q))
def Bj (X:Cx) (x z:Str) (scope:Scope) (C:Addr) (s₀:Shared) (H₀:Hp) (fp:List Addr):Cx where
 prog:=X.prog
 w:=X.w
 K:=X.K
 mg:=X.mg
 base:=X.base
 A:=X.A
 N:=x::z::X.N
 s₀:=s₀
 H₀:=H₀
 env:=compEnvC scope (Dd X.env scope.names []) C X.env
 outer:=X.stack
 stack:=X.stack
 ex:=fp
 fn:=λ_=>false
 calm:=X.calm
 pn:=[]
 xe:=λ_ _=>False
structure Ei (X:Cx) (x z:Str) (scope:Scope):Prop where
 kind:scope.kind=.function
 nocell:∀ y∈scope.names,y.2 ≠ .cell
 names:∀ y∈scope.names,y.2=.local->scope.names.lookup y.1=some .local
 loc:scope.names.lookup x=some .local
 loz:scope.names.lookup z=some .local
 free:∀ y∈scope.names,y.2=.free->X.env.kindOf y.1=some .cell \/ X.env.kindOf y.1=some .free
 nd:(x::z::X.N).Nodup
 only:∀ y∈X.N,scope.names.lookup y ≠ some .local
section
variable {z:Str}
theorem QG {tk:Nat} {m:Str->Option Value} (I:Inv X a8 σ H s) (S:Ei X x z scope) (N:∀ b∈fp,G7 X a8 H b) (M:∀ b∈fp,b<s.heap.objs.size) (K:s.heap.objs.size<=C) (Z:h'.Ns C m)
  (R:∀ b o,s.heap.get? b=some o->h'.get? b=some o):Inv (Bj X x z scope C s H fp) [] (none::none::σ) H { s with heap:=h',toks:=tk }:=by
 have A:∀ y c,(Dd X.env scope.names []).lookup y=some c->X.env.cells.lookup y=some c:=λy c e=>by
  rcases Gw X.env scope.names [] y c e with z | z
  ·cases z
  ·exact z
 have g:∀ c v,s.heap.IsCell c v->h'.IsCell c v:=λc v ⟨o,ho,hd⟩=>⟨o,R c o ho,hd⟩
 have look:∀ y,(Bj X x z scope C s H fp).env.scope.names.lookup y=(scope.names.lookup y).map λk=>if (k == NameKind.free && X.env.scope.kind == .function && X.env.kindOf y == some .cell) then NameKind.cell else k:=λy=>Fx X.env y scope.names
 refine⟨⟨I.ok.mod,S.kind,I.ok.glob,I.ok.blt,K,λy z c e1 e2=>I.ok.inj y z c (A y c e1) (A z c e2),λy hy=>?_,λy c e _=>(by cases e),λh=>I.ok.hd h,I.ok.frames,.inl rfl,λb w=>?_,I.bs,ba I.ok.bsz I.sz,λb o e w=>?_,λb w Q=>?_,I.stack,I.Il⟩,
  rfl,I.bare,Un.kept R,⟨m,Z,λi y v E t h3=>?_⟩,λy c e=>?_,I.hok.fresh K,λy c e=>I.freeC y c (A y c e),λp hp=>absurd (show p∈([]:List (Addr × Obj)) from hp) (by simp),I.hok.kept R,?_⟩
 ·have d:(Bj X x z scope C s H fp).env.scope.names.lookup y=some .cell \/ (Bj X x z scope C s H fp).env.scope.names.lookup y=some .free:=hy
  rw[look y] at d
  cases e:scope.names.lookup y with
  | none=>rw[e] at d;rcases d with z | z <;> cases z
  | some k =>
   have n:=PySem.mem_of_lookup e
   have a:k=.free:=by
    rw[e] at d
    cases k with
    | free=>rfl
    | cell=>exact absurd rfl (S.nocell _ n)
    | _=>rcases d with z | z <;> simp at z
   subst a
   obtain⟨c,F⟩:=I.ok.has y (S.free _ n rfl)
   exact fh.mp (Ex X.env scope.names [] y n (by rw[F];rfl))
 ·obtain⟨Y,J,O,L,P,U⟩:=N b w
  exact⟨br (bi (M b w) K),λy c e=>P y c (A y c e)⟩
 ·obtain⟨Y,J,O,L,P,U⟩:=N b w
  rcases L with z | z
  ·exact I.ok.noex b o e z
  ·exact absurd (bi (Heap.lt_size e) (ba I.ok.bsz z)) (fR _)
 ·obtain⟨Y,J,O,L,P,U⟩:=N b w
  rcases cf.mp (I.Oe b Q) with e | e
  ·exact J e
  ·exact O e
 ·match i,E,t with
  | 0,E,t =>
   have j:(some none:Option (Option V))=some (some v):=t
   cases j
  | 1,E,t =>
   have j:(some none:Option (Option V))=some (some v):=t
   cases j
  | i+2,E,t =>
   have T:X.N[i]? = some y:=E
   have j:σ[i]? = some (some v):=t
   have D:y∈X.N:=ai T
   have f:(Bj X x z scope C s H fp).env.scope.names.lookup y=some .local \/ (Bj X x z scope C s H fp).env.scope.names.lookup y=some .cell \/ (Bj X x z scope C s H fp).env.scope.names.lookup y=some .free:=h3
   rw[look y] at f
   cases e:scope.names.lookup y with
   | none=>rw[e] at f;rcases f with z | z | z <;> cases z
   | some k =>
    have n:=PySem.mem_of_lookup e
    have a:k=.free:=by
     rw[e] at f
     cases k with
     | free=>rfl
     | cell=>exact absurd rfl (S.nocell _ n)
     | «local»=>exact absurd e (S.only y D)
     | _=>rcases f with z | z | z <;> simp at z
    subst a
    have W:=S.free _ n rfl
    obtain⟨m0,Ix,Sn⟩:=I.loc
    obtain⟨u,r,l⟩:=Sn i y v T j (by rcases W with z | z;exact .inr (.inl z);exact .inr (.inr z))
    refine⟨u,r,.inr ⟨?_,?_⟩⟩
    ·have G:(Bj X x z scope C s H fp).env.scope.names.lookup y=some (if (NameKind.free == NameKind.free && X.env.scope.kind == .function && X.env.kindOf y == some .cell) then NameKind.cell else NameKind.free):=by
      rw[look y,e];rfl
     by_cases c:(NameKind.free == NameKind.free && X.env.scope.kind == .function && X.env.kindOf y == some .cell)=true
     ·rw[if_pos c] at G;exact .inl G
     ·rw[if_neg c] at G;exact .inr G
    ·rcases l with⟨lk,_⟩ | ⟨_,c,F,q⟩
     ·exfalso
      rcases W with z | z <;> (rw[show X.env.kindOf y=some NameKind.local from lk] at z;cases z)
     ·obtain⟨c',B⟩:=fh.mp (Ex X.env scope.names [] y n (by rw[F];rfl))
      have:=A y c' B
      rw[F] at this
      cases this
      exact⟨c,B,g c _ q⟩
 ·obtain⟨v,z⟩:=I.cell y c (A y c e)
  exact⟨v,g c v z⟩
 ·show (none::none::σ).length=(x::z::X.N).length
  simp[I.len]
end
def Im (J:It) (σ:St) (H1:Hp) (Q:VK) (g:TG) (tt:TT) (te:TE):Prop:=∀ D,H1 D=none->∃ W:Nat->Nat->List V->Hp->Prop,(∃ m,W 0 m [] (upd H1 D (.lst [])))/\∀ i m ys H2,W i m ys H2 ->
 (J.stop i H2/\Q (.ref D) H2) \/ (J.go i H2/\∀ x H3,J.yld i H2 x H3->∀ v0 v1,g x (v0::v1::σ) H3 λσ' H3'=>(∃ w0 w1,σ'=w0::w1::σ)/\tt σ' H3' λb H4 =>
  if b=true then te σ' H4 λy H5=>H5 D=some (.lst ys)/\ys.length<sizeLine/\∃ m',m'<m/\W (i+1) m' (ys++[y]) (upd H5 D (.lst (ys++[y])))
  else ∃ m',m'<m/\W (i+1) m' ys H4)
def RL (wi:TI) (g:TG) (tt:TT) (te:TE):TE:=λσ H Q=>wi σ H λJ H1=>Im J σ H1 Q g tt te
section
variable {z:Str}
theorem Kh {c:Shared} {G:Nat->Heap->Prop} {J:It} {E:vSP}
  {RR:Value->Addr->Result->Shared->Prop} {Q:VK}
  (hc:X.calm=true) (S:Ei X x z scope) (hg:∀ C s₀ H₀ fp,PG (Bj X x z scope C s₀ H₀ fp) tg g) (ht:∀ C s₀ H₀ fp,Ob (Bj X x z scope C s₀ H₀ fp) k7 tt) (he:∀ C s₀ H₀ fp,PE (Bj X x z scope C s₀ H₀ fp) k8 te)
  (I2:Inv X a8 σ H2 c) (T:Turn X.prog X.w X.K tg J fp it G) (pV:G 0 c.heap) (f2:∀ b∈fp,G7 X a8 H2 b) (q:Im J σ H2 Q g tt te)
  (RF:∀ D C s' H' m,s'.heap.Ns C m->G7 X a8 H' C->Inv X a8 σ H' s'->Q (.ref D) H'->RR (.ref D) C (.ok .next) s') :
  wpAny (model X.prog X.w) X.A (newList []) (λd0 s₃=>wpAny (model X.prog X.w) X.A (newFunctionEnv scope X.env.globals (Dd X.env scope.names []) [] X.env.qual none .none (some X.env)) (λtJ s₄ =>
   codeAny (model X.prog X.w) X.A (.compStart (.ListComp k8 [⟨tg,iter,k7,0⟩] scope pos) 0 (.ref it) d0 { tJ with scope:=relabel scope X.env }) (RR d0 tJ.locals) s₄) E s₃) E c:=by
 refine wpAny_newObj_type (wpAny_newFunctionEnv S.nocell (by intro y hy;simp at hy) (λF yB AC=>?_) S.kind)
 have I3:=I2.gj (its:=[]) (ys:=[]) (t':=c.toks) .nil (dA _)
 have an:H2 c.heap.objs.size=none:=I2.fresh
 obtain⟨W,⟨m0,k⟩,oj⟩:=q _ an
 generalize N:({ c with heap:=c.heap.push { cls:=.type "list",data:=.seq ([]:List Value).toArray },toks:=c.toks }:Shared)=a at I3
 have U:a.heap=c.heap.push { cls:=.type "list",data:=.seq ([]:List Value).toArray }:=by rw[<-N]
 have I:∀ b∈fp,b<c.heap.objs.size:=λb f=>let ⟨_,e,_⟩:=T.obj _ _ pV b f;Heap.lt_size e
 have M:∀ b∈fp,b<a.heap.objs.size:=λb f=>by rw[U,Heap.size_push];exact fT (I b f)
 have f3:∀ b∈fp,G7 X a8 (upd H2 c.heap.objs.size (.lst [])) b:=λb f=>⟨by rw[Aw (br (I b f))];exact (f2 b f).1,(f2 b f).2⟩
 have K:∀ b o,a.heap.get? b=some o->F.get? b=some o:=λb o e=>by
  have L:b ≠ a.heap.objs.size:=br (Heap.lt_size e)
  rw[U] at e L
  exact AC.extBut b o L (Heap.get?_push_of_some _ e)
 have hC:a.heap.objs.size=(c.heap.push { cls:=.type "list",data:=.seq ([]:List Value).toArray }).objs.size:=by rw[U]
 have ac:F.Ns a.heap.objs.size (λx=>([]:List (Str × Value)).reverse.lookup x):=by rw[hC];exact yB
 have H:G 0 F:=T.keep _ _ _ pV λb f o e=>K b o (by rw[U];exact Heap.get?_push_of_some _ e)
 have start:∀ j,Inv (Bj X x z scope a.heap.objs.size a (upd H2 c.heap.objs.size (.lst [])) fp) [] (none::none::σ) (upd H2 c.heap.objs.size (.lst [])) { a with heap:=F,toks:=j }:=λj =>
  QG I3 S f3 M (ah _) ac K
 have s:∀ j,codeAny (model X.prog X.w) X.A (.compLoop (.ListComp k8 [⟨tg,iter,k7,0⟩] scope pos) 0 (.ref it) (.ref c.heap.objs.size) (compEnvC scope (Dd X.env scope.names []) a.heap.objs.size X.env))
   (RR (.ref c.heap.objs.size) a.heap.objs.size) { a with heap:=F,toks:=j }:=by
  intro j
  refine Yo (λn s'=>∃ i ys l t H',Inv (Bj X x z scope a.heap.objs.size a (upd H2 c.heap.objs.size (.lst [])) fp) [] (l::t::σ) H' s'/\G i s'.heap/\(∀ b∈fp,H' b=none)/\W i n ys H') rfl ?_ m0
   ⟨0,[],none,none,_,start j,H,λb f=>(f3 b f).1,k⟩
  rintro n s4 ⟨i,ys,l,t,Y,O,HI,Kj,w4⟩
  have h:∀ {H':Hp},(∀ b∈fp,H' b=none)->∀ b∈fp,G7 (Bj X x z scope a.heap.objs.size a (upd H2 c.heap.objs.size (.lst [])) fp) [] H' b:=λhn b f=>by
   refine⟨hn b f,(O.ok.exf b f).1,O.ok.exfs b f,.inl f,(O.ok.exf b f).2,λp hp=>absurd (show p∈([]:List (Addr × Obj)) from hp) (by simp)⟩
  rcases oj i n ys Y w4 with⟨stop,qn⟩ | ⟨go,step⟩
  ·refine CK (T.done (Bj X x z scope a.heap.objs.size a (upd H2 c.heap.objs.size (.lst [])) fp) rfl rfl rfl hc i [] s4 (l::t::σ) Y _ O (h Kj) HI stop) λr s5 ⟨hr,B⟩=>?_
   subst hr
   obtain⟨m,hn,_⟩:=B.loc
   refine RF _ _ s5 Y m hn (I3.Ms (ah _) B.free) (I3.call' (s':=s5) (ch:=fp) B.os B.base B.hok B.bare (λb f=>?_)) qn
   obtain⟨_,g1,_,g3,g4,g5⟩:=f3 b f
   exact⟨g3,g1,g4,g5⟩
  ·refine CK (T.item (Bj X x z scope a.heap.objs.size a (upd H2 c.heap.objs.size (.lst [])) fp) rfl rfl rfl hc i [] s4 (l::t::σ) Y _ O (h Kj) HI go) λr s5 ⟨u,hr,h5⟩=>?_
   subst hr
   refine CK h5 λ_ s6 h6=>?_
   obtain⟨xv,H6,I6,r6,y6,Cb,PD⟩:=h6
   have NV:=I6.pinned (h PD) (T.obj _ _ Cb)
   have again:∀ {w:Shared} {A:Hp} {xC:List V} {k v:Option V},Inv (Bj X x z scope a.heap.objs.size a (upd H2 c.heap.objs.size (.lst [])) fp) ([]++KZ fp s6.heap) (k::v::σ) A w->(∃ m',m'<n/\W (i+1) m' xC A) ->
     ∃ m,m<n/\∃ i ys l t H',Inv (Bj X x z scope a.heap.objs.size a (upd H2 c.heap.objs.size (.lst [])) fp) [] (l::t::σ) H' w/\G i w.heap/\(∀ b∈fp,H' b=none)/\W i m ys H':=λ{w A xC k v} P hw=>by
    obtain⟨m',hm,w7⟩:=hw
    refine⟨m',hm,i+1,xC,k,v,A,P.H_,T.keep _ _ _ Cb λb f o e=>(P.pin (b,o) (bt _ (bt _ (Ez f e)))).1,λb f=>?_,w7⟩
    obtain⟨o,e,d⟩:=T.obj _ _ Cb b f
    exact (P.pin (b,o) (bt _ (bt _ (Ez f e)))).2.1
   refine Qh (hg _ _ _ _ _ s6 (l::t::σ) H6 xv u _ NV r6 (step xv H6 y6 l t)) λ_ w ⟨σ7,A,P,⟨k,v,e7⟩,q7⟩=>?_
   subst e7
   refine Qh (ht _ _ _ _ _ w (k::v::σ) A _ P q7) λb s8 i3=>?_
   obtain⟨H8,I8,Z⟩:=i3
   cases b with
   | false =>
    rw[if_neg fb] at Z |-
    exact again I8 Z
   | true =>
    rw[if_pos rfl] at Z |-
    refine Qh (he _ _ _ _ _ s8 (k::v::σ) H8 _ I8 Z) λy s9 i3=>?_
    obtain⟨yv,H9,I9,r9,SL,TN,q9⟩:=i3
    refine Qh (Dj (X:=Bj X x z scope a.heap.objs.size a (upd H2 c.heap.objs.size (.lst [])) fp) _ s9 (k::v::σ) H9 (.ref c.heap.objs.size) [yv] (.ref c.heap.objs.size) [y] (λ_ H'=>H'=upd H9 c.heap.objs.size (.lst (ys++[yv]))) I9 rfl (.cons r9 .nil)
     ⟨_,ys,yv,rfl,rfl,SL,TN,rfl⟩) λ_ as ⟨_,mI,MX,_,ap⟩=>?_
    subst ap
    exact again MX q9
 have ab:=λj=>codeAny_compStart_list (R:=RR (.ref c.heap.objs.size) a.heap.objs.size) (s j) (T.self X.A 0 { a with heap:=F,toks:=j } (λSj s'=>codeAny (model X.prog X.w) X.A (.compLoop (.ListComp k8 [⟨tg,iter,k7,0⟩] scope pos) 0 Sj (.ref c.heap.objs.size) (compEnvC scope (Dd X.env scope.names []) a.heap.objs.size X.env)) (RR (.ref c.heap.objs.size) a.heap.objs.size) s') _ H (s j))
 subst N
 exact ab _
theorem YT {b:TI} (r:X.calm=true) (S:Ei X x z scope) (hi:PI X tg iter b) (A:∀ C s₀ H₀ fp,PG (Bj X x z scope C s₀ H₀ fp) tg g)
  (t:∀ C s₀ H₀ fp,Ob (Bj X x z scope C s₀ H₀ fp) k7 tt) (p:∀ C s₀ H₀ fp,PE (Bj X x z scope C s₀ H₀ fp) k8 te) (j:∀ x,foldedSetIterable iter X.env x=pure x:=by intro _;rfl) :
  PE X (.ListComp k8 [⟨tg,iter,k7,0⟩] scope pos) (RL b g tt te):=by
 intro a s σ H Q I h
 rw[eval_ListComp]
 refine wpAny_comprehension_free (use:=none) (cl:=Dd X.env scope.names []) rfl j (G8 λy l F=>I.ok.has y.1 (S.free y l F)) S.kind S.names (CK (hi a s σ H _ I h) λv P G=>CK G λU N E=>?_)
 obtain⟨M,fp,L,J,O,e,o,T,w,B,q⟩:=E
 subst e
 refine Kh (RR:=λk C=>compPost (model X.prog X.w) X.A X.xe none (EP X a σ Q) k C) (Q:=Q) r S A t p o T w B q ?_
 intro D C R f m c u i n
 exact⟨m,c,λK d=>⟨.ref D,f,i.sameBut u d,rfl,n⟩⟩
end
open PySem PySem.Spec PySem.Calls PyProof.Rows
theorem Am.tup {K:W.Frag} (e:Am H H') (h:HY K H a xs):HY K H' a xs:=by
 rcases h with (h | ⟨o,h⟩) | h
 ·exact .inl (.inl (e _ _ h))
 ·exact .inl (.inr ⟨o,e _ _ h⟩)
 ·exact .inr h
inductive TupAt (H:Hp) (zs:List V) (y:V):Prop
 | mk (T:_):y=.ref T->H T=some (.tup zs)->TupAt H zs y
theorem TupAt.mono {a:List V} {y:V} (s:Am H H') (h:TupAt H a y):TupAt H' a y:=let ⟨T,e,q⟩:=h;⟨T,e,s _ _ q⟩
theorem TupAt.upd {a ys b:List V} {y:V} (h:TupAt H a y) (c:H D=some (.lst ys)):TupAt (upd H D (.lst b)) a y:=by
 obtain⟨T,e,q⟩:=h
 refine⟨T,e,?_⟩
 rw[Aw λz=>by rw[z,c] at q;cases q]
 exact q
theorem CW {α:Type} {f:α->List V} {l:List α} {ys b:List V} (h:Paired (λa y=>TupAt H (f a) y) l vs) (c:H D=some (.lst ys)):Paired (λa y=>TupAt (upd H D (.lst b)) (f a) y) l vs:=Paired.Ku h λ_ _ q=>q.upd c
theorem Ar {α:Type} {f:α->List V} {l:List α} (s:Am H H') (h:Paired (λa y=>TupAt H (f a) y) l vs):Paired (λa y=>TupAt H' (f a) y) l vs:=Paired.Ku h λ_ _ q=>q.mono s
def PB (x z:Str) (scope osc:Scope) (N:List Str):Bool :=
 (scope.kind == .function) && scope.names.all (λy=>y.2 != .cell && (y.2 != .local || scope.names.lookup y.1 == some .local) && (y.2 != .free || osc.names.lookup y.1 == some .cell || osc.names.lookup y.1 == some .free)) && (scope.names.lookup x == some .local) && (scope.names.lookup z == some .local) &&
 decide ((x::z::N).Nodup) && N.all (λy=>scope.names.lookup y != some .local)
theorem G4 {z:Str} {osc:Scope} {N:List Str} (l:X.env.scope=osc) (g:X.N=N) (h:PB x z scope osc N=true):Ei X x z scope:=by
 unfold PB at h
 simp only[Bool.and_eq_true] at h
 obtain⟨⟨⟨⟨⟨j,c⟩,k⟩,e⟩,i⟩,f⟩:=h
 rw[fm] at c f
 have b:∀ y,X.env.kindOf y=osc.names.lookup y:=λy=>by show X.env.scope.names.lookup y=_;rw[l]
 refine⟨by simpa using j,λy a=>?_,λy a d=>?_,by simpa using k,by simpa using e,λy a d=>?_,by rw[g];exact of_decide_eq_true i,λy a=>?_⟩
 ·have:=c y a
  simp only[Bool.and_eq_true,bne_iff_ne] at this
  exact this.1.1
 ·have:=c y a
  simp only[Bool.and_eq_true] at this
  simpa [d] using this.1.2
 ·have:=c y a
  simp only[Bool.and_eq_true] at this
  rw[b]
  simpa [d] using this.2
 ·have:=f y (by rw[<-g];exact a)
  simpa using this
section
variable {z:Str}
theorem TF {g f:Pos} {k:Nat} {b:Shared} {a:Hp} (e:X.calm=true) (S:Ei X x z scope) :
  PG (Bj X x z scope C b a fp) (.Tuple [.Name x g,.Name z f] k pos) (Ot X.K 2 (Ff (Dc 0) (Ff (Dc 1) P_))):=by
 have c:(Bj X x z scope C b a fp).env.scope.names.lookup x=some .local:=lookup_relabel_local S.loc
 have d:(Bj X x z scope C b a fp).env.scope.names.lookup z=some .local:=lookup_relabel_local S.loz
 exact K5 (X:=Bj X x z scope C b a fp) (n:=2) e (Ed (Cd (X:=Bj X x z scope C b a fp) (i:=0) S.nd rfl (.inl c) (.inr c)) (Ed (Cd (X:=Bj X x z scope C b a fp) (i:=1) S.nd rfl (.inl d) (.inr d)) Jf))
theorem Oj {e d a:Pos} {k:Nat} {c:TI} (b:X.calm=true) (S:Ei X x z scope) (hi:PI X (.Tuple [.Name x e,.Name z d] k a) iter c)
  (f:∀ C s₀ H₀ fp,Ob (Bj X x z scope C s₀ H₀ fp) k7 tt) (h:∀ C s₀ H₀ fp,PE (Bj X x z scope C s₀ H₀ fp) k8 te) (g:∀ x,foldedSetIterable iter X.env x=pure x:=by intro _;rfl) :
  PE X (.ListComp k8 [⟨.Tuple [.Name x e,.Name z d] k a,iter,k7,0⟩] scope pos) (RL c (Ot X.K 2 (Ff (Dc 0) (Ff (Dc 1) P_))) tt te) :=
 YT b S hi (λ_ _ _ _=>TF b S) f h g
end
section
variable {Q:VK}
theorem C_ {K:W.Frag} (p:V->Bool) (f:V->V) (hl:Dg K H1 a xs) (e:xs.length<sizeLine)
  (g:∀ x∈xs,∀ H,Am H1 H->∀ R:Bool->Hp->Prop,(∀ H',Am H H'->R (p x) H')->tt (some x::σ) H R)
  (j:∀ x∈xs,p x=true->∀ H,Am H1 H->∀ R:VK,(∀ H',Am H H'->R (f x) H')->te (some x::σ) H R)
  (h:∀ D H,H1 D=none->Am H1 H->H D=some (.lst ((xs.filter p).map f))->Q (.ref D) H):HB (a_ K a) σ H1 Q tt te :=
 Hj p f e (λi H x b d=>⟨xs,x,b.seq hl,d⟩) (λi H y H' b _ c=>⟨c.1,c.2 xs (b.seq hl)⟩) (λH b=>⟨xs,b.seq hl,ah _⟩) g j h
theorem M8 {J:It} (p:V->Bool) (f:V->List V) (v:xs.length<sizeLine)
  (w:∀ i H x,Am H1 H->xs[i]? = some x->J.go i H) (z:∀ i H y H',Am H1 H->i<xs.length->J.yld i H y H'->H'=H/\xs[i]? = some y) (u:∀ H,Am H1 H->J.stop xs.length H)
  (E:∀ x∈xs,∀ H,Am H1 H->∀ R:Bool->Hp->Prop,(∀ H',Am H H'->R (p x) H')->tt (some x::σ) H R)
  (C:∀ x∈xs,p x=true->∀ H,Am H1 H->∀ R:VK,(∀ y H',Am H H'->TupAt H' (f x) y->R y H')->te (some x::σ) H R)
  (B:∀ D H ys,H1 D=none->Am H1 H->H D=some (.lst ys)->Paired (λx y=>TupAt H (f x) y) (xs.filter p) ys->Q (.ref D) H):HB J σ H1 Q tt te:=by
 intro D r
 have G:Am H1 (upd H1 D (.lst [])):=λb o e=>by rw[Aw (Ai e r)];exact e
 refine⟨λi m ys H=>m=xs.length - i/\i<=xs.length/\H D=some (.lst ys)/\Paired (λx y=>TupAt H (f x) y) ((xs.take i).filter p) ys/\Am H1 H,⟨xs.length,by simp,Nat.zero_le _,Ak,by simpa using Paired.nil,G⟩,?_⟩
 rintro i m ys H ⟨rfl,L,l,h,g⟩
 by_cases d:i<xs.length
 ·obtain⟨x,k⟩:∃ x,xs[i]? = some x:=⟨xs[i],by simp[d]⟩
  refine .inr ⟨w i H x g k,λy F s=>?_⟩
  obtain⟨rfl,j⟩:=z i H y F g d s
  rw[k] at j
  cases j
  have t:x∈xs:=ai k
  have q:ys.length<sizeLine:=by
   rw[<-h.length]
   refine aT (bE _ _) (aT ?_ v)
   rw[ck];omega
  refine E x t _ g _ λA c=>?_
  by_cases a:p x=true
  ·rw[if_pos a]
   refine C x t a A (g.trans c) _ λy K n I=>?_
   refine⟨n _ _ (c _ _ l),q,xs.length - (i+1),by omega,rfl,d,Ak,?_,λb o e=>?_⟩
   ·rw[take_succ_filter p xs i x k,if_pos a]
    exact (CW (Ar (c.trans n) h) (n _ _ (c _ _ l))).snoc (I.upd (n _ _ (c _ _ l)))
   ·rw[Aw (Ai e r)];exact n _ _ (c _ _ (g _ _ e))
  ·rw[if_neg a]
   refine⟨xs.length - (i+1),by omega,rfl,d,c _ _ l,?_,g.trans c⟩
   rw[take_succ_filter p xs i x k,if_neg a,dS]
   exact Ar c h
 ·have e:i=xs.length:=by omega
  subst e
  rw[eD] at h
  exact .inl ⟨u H g,B D H ys r g l h⟩
theorem Mj {K:W.Frag} (p:V->Bool) (f:V->List V) (hl:Dg K H1 a xs) (e:xs.length<sizeLine)
  (g:∀ x∈xs,∀ H,Am H1 H->∀ R:Bool->Hp->Prop,(∀ H',Am H H'->R (p x) H')->tt (some x::σ) H R)
  (j:∀ x∈xs,p x=true->∀ H,Am H1 H->∀ R:VK,(∀ y H',Am H H'->TupAt H' (f x) y->R y H')->te (some x::σ) H R)
  (h:∀ D H ys,H1 D=none->Am H1 H->H D=some (.lst ys)->Paired (λx y=>TupAt H (f x) y) (xs.filter p) ys->Q (.ref D) H):HB (a_ K a) σ H1 Q tt te :=
 M8 p f e (λi H x b d=>⟨xs,x,b.seq hl,d⟩) (λi H y H' b _ c=>⟨c.1,c.2 xs (b.seq hl)⟩) (λH b=>⟨xs,b.seq hl,ah _⟩) g j h
theorem Ou {α β:Type} {F:α->β->Prop} (g:Nat->α):∀ {n:Nat} {l:List α} {ys:List β},Paired F l ys->l=(List.range n).map g->Paired (λi y=>F (g i) y) (List.range n) ys:=by
 intro n
 have d:∀ (c:List Nat) (ys:List β),Paired F (c.map g) ys->Paired (λi y=>F (g i) y) c ys:=by
  intro c
  induction c with
  | nil=>intro ys h;cases h;exact .nil
  | cons j c f =>
   intro ys h
   cases h with
   | cons a b=>exact .cons a (f _ b)
 intro l ys h e
 subst e
 exact d _ _ h
theorem VL (f:Nat->List V) (j:n<sizeLine)
  (t:∀ i:Nat,i<n->∀ H,Am H1 H->∀ R:VK,(∀ y H',Am H H'->TupAt H' (f i) y->R y H')->te (some (.int (i:Int))::σ) H R)
  (p:∀ D H ys,H1 D=none->Am H1 H->H D=some (.lst ys)->Paired (λi y=>TupAt H (f i) y) (List.range n) ys->Q (.ref D) H):HB (bY 0 n) σ H1 Q VN te:=by
 let g:V->Nat:=λv=>match v with | .int i=>i.toNat | _=>0
 have d:∀ i:Nat,i<n->((List.range n).map λ(i:Nat)=>V.int (i:Int))[i]? = some (.int i):=λi a=>by simp[a]
 refine M8 (xs:=(List.range n).map λ(i:Nat)=>V.int (i:Int)) (λ_=>true) (λv=>f (g v)) (by simpa using j) (λi H x _ b=>?_) (λi H y H' _ a l=>?_) (λH _=>?_) (λx b H e R k=>k H (Am.refl H)) (λx b _ H e R k=>?_) (λD H ys r m s h=>?_)
 ·have:i<((List.range n).map λ(i:Nat)=>V.int (i:Int)).length:=(ag.mp b).1
  show i<n
  simpa using this
 ·obtain⟨o,q⟩:=l
  have c:i<n:=by simpa using a
  refine⟨o,?_⟩
  rw[d i c,q,gE]
 ·show n<=_
  simp
 ·obtain⟨i,a,rfl⟩:=ar.mp b
  exact t i (fS.mp a) H e R k
 ·rw[bg.mpr (λ_ _=>rfl)] at h
  exact p D H ys r m s (Ou (F:=λx y=>TupAt H (f (g x)) y) (λi=>V.int (i:Int)) h rfl)
theorem WN {K:W.Frag} {ys:List V} (f:V->V->V) (k:HY K H1 a xs) (q:HY K H1 b ys) (hl:xs.length=ys.length) (F:xs.length<sizeLine)
  (A:∀ (i:Nat) x y,xs[i]? = some x->ys[i]? = some y->∀ H,Am H1 H->∀ R:VK,(∀ H',Am H H'->R (f x y) H')->te (some x::some y::σ) H R)
  (w:∀ D H,H1 D=none->Am H1 H->H D=some (.lst (List.zipWith f xs ys))->Q (.ref D) H):Im (vo K a b) σ H1 Q (Ot K 2 (Ff (Dc 0) (Ff (Dc 1) P_))) VN te:=by
 intro D h
 have C:Am H1 (upd H1 D (.lst [])):=λb o e=>by rw[Aw (Ai e h)];exact e
 refine⟨λi m n H=>m=xs.length - i/\i<=xs.length/\n=(List.zipWith f xs ys).take i/\H D=some (.lst n)/\Am H1 H,⟨xs.length,by simp,Nat.zero_le _,by simp,Ak,C⟩,?_⟩
 rintro i m n H ⟨rfl,I,rfl,l,c⟩
 have g:(List.zipWith f xs ys).length=xs.length:=by rw[io];omega
 by_cases d:i<xs.length
 ·have z:xs[i]? = some xs[i]:=ae d
  have u:ys[i]? = some ys[i]:=ae (hl ▸ d)
  refine .inr ⟨⟨xs,ys,_,_,c.tup k,c.tup q,z,u⟩,λv L p E J=>?_⟩
  obtain⟨T,B,rfl,p⟩:=p
  obtain⟨x,y,r,s,rfl⟩:=p xs ys (c.tup k) (c.tup q)
  have j:Am H (upd H T (.tup [x,y])):=λb o e=>by rw[Aw (Ai e B)];exact e
  refine⟨T,[x,y],rfl,kK Ak,rfl,x,[y],rfl,y,[],rfl,rfl,⟨_,_,rfl⟩,?_⟩
  unfold VN
  dsimp only
  rw[if_pos rfl]
  refine A i x y r s _ (c.trans j) _ λG t=>?_
  refine⟨t _ _ (j _ _ l),?_,xs.length - (i+1),by omega,rfl,d,?_,Ak,λb o e=>?_⟩
  ·rw[ck,g]
   omega
  ·rw[cr,gg,r,s]
   rfl
  ·rw[Aw (Ai e h)]
   exact t _ _ (j _ _ (c _ _ e))
 ·have e:i=xs.length:=by omega
  subst e
  rw[<-g,eD] at l
  exact .inl ⟨⟨xs,c.tup k,ah _⟩,w D H h c l⟩
theorem Um {K:W.Frag} (p:Nat->V->Bool) (f:Nat->V->V) (r:Dg K H1 a xs) (z:xs.length<sizeLine)
  (E:∀ (i:Nat) x,xs[i]? = some x->∀ H,Am H1 H->∀ R:Bool->Hp->Prop,(∀ H',Am H H'->R (p i x) H')->tt (some (.int (i:Int))::some x::σ) H R)
  (C:∀ (i:Nat) x,xs[i]? = some x->p i x=true->∀ H,Am H1 H->∀ R:VK,(∀ H',Am H H'->R (f i x) H')->te (some (.int (i:Int))::some x::σ) H R)
  (A:∀ D H,H1 D=none->Am H1 H->H D=some (.lst ((xs.zipIdx.filter λq=>p q.2 q.1).map λq=>f q.2 q.1))->Q (.ref D) H):Im (jl K a) σ H1 Q (Ot K 2 (Ff (Dc 0) (Ff (Dc 1) P_))) tt te:=by
 intro D n
 have G:Am H1 (upd H1 D (.lst [])):=λb o e=>by rw[Aw (Ai e n)];exact e
 refine⟨λi m t H=>m=xs.length - i/\i<=xs.length/\t=(((xs.zipIdx.take i).filter λq=>p q.2 q.1).map λq=>f q.2 q.1)/\H D=some (.lst t)/\Am H1 H,⟨xs.length,by simp,Nat.zero_le _,by simp,Ak,G⟩,?_⟩
 rintro i m t H ⟨rfl,M,rfl,l,c⟩
 by_cases d:i<xs.length
 ·have B:xs[i]? = some xs[i]:=ae d
  refine .inr ⟨⟨xs,_,c.seq r,B⟩,λv O u I N=>?_⟩
  obtain⟨T,F,rfl,u⟩:=u
  obtain⟨x,s,rfl⟩:=u xs (c.seq r)
  have g:Am H (upd H T (.tup [.int (i:Int),x])):=λb o e=>by rw[Aw (Ai e F)];exact e
  have w:xs.zipIdx[i]? = some (x,i):=by rw[List.getElem?_zipIdx,s];simp
  have k:(((xs.zipIdx.take i).filter λq=>p q.2 q.1).map λq=>f q.2 q.1).length<sizeLine:=by
   rw[af]
   refine aT (bE _ _) (aT ?_ z)
   rw[ck,List.length_zipIdx];omega
  refine⟨T,[.int (i:Int),x],rfl,kK Ak,rfl,_,[x],rfl,x,[],rfl,rfl,⟨_,_,rfl⟩,?_⟩
  refine E i x s _ (c.trans g) _ λL h=>?_
  by_cases j:p i x=true
  ·rw[if_pos j]
   refine C i x s j _ (c.trans (g.trans h)) _ λJ y=>?_
   refine⟨y _ _ (h _ _ (g _ _ l)),k,xs.length - (i+1),by omega,rfl,d,?_,Ak,λb o e=>?_⟩
   ·rw[take_succ_filter (λq:V × Nat=>p q.2 q.1) xs.zipIdx i (x,i) w,if_pos j,cm]
    rfl
   ·rw[Aw (Ai e n)]
    exact y _ _ (h _ _ (g _ _ (c _ _ e)))
  ·rw[if_neg j]
   refine⟨xs.length - (i+1),by omega,rfl,d,?_,h _ _ (g _ _ l),c.trans (g.trans h)⟩
   rw[take_succ_filter (λq:V × Nat=>p q.2 q.1) xs.zipIdx i (x,i) w,if_neg j,dS]
 ·have e:i=xs.length:=by omega
  subst e
  rw[List.take_of_length_le (by simp)] at l
  exact .inl ⟨⟨xs,c.seq r,ah _⟩,A D H n c l⟩
end
theorem Lj {K:W.Frag} {D:Ends} (b:Nat->St->Hp->Prop) (p:b 0 σ H) (hl:∀ i σ H,i<=xs.length->b i σ H->Dg K H a xs)
  (n:∀ (i:Nat) x σ H T,xs[i]? = some x->b i σ H->H T=none->g (.ref T) σ (upd H T (.tup [.int (i:Int),x])) λσ' H'=>tb { D with nx:=b (i+1),ct:=b (i+1),bk:=D.nx } σ' H')
  (k:∀ σ H,b xs.length σ H->D.nx σ H):∃ W:Nat->Nat->St->Hp->Prop,(∃ m,W 0 m σ H)/\∀ i m σ H,W i m σ H ->
   ((jl K a).stop i H/\D.nx σ H) \/ ((jl K a).go i H/\∃ N:St->Hp->Prop,(∀ σ H,N σ H->∃ m',m'<m/\W (i+1) m' σ H)/\∀ x H',(jl K a).yld i H x H'->g x σ H' λσ' rg=>tb { D with nx:=N,ct:=N,bk:=D.nx } σ' rg):=by
 refine⟨λi m σ H=>m=xs.length - i/\i<=xs.length/\b i σ H,⟨_,rfl,dA _,p⟩,?_⟩
 rintro i m σ H ⟨rfl,f,d⟩
 by_cases c:i<xs.length
 ·refine .inr ⟨⟨xs,_,hl i σ H f d,ae c⟩,b (i+1),λσ' H' h=>⟨xs.length - (i+1),by omega,rfl,c,h⟩,λv H' j=>?_⟩
  obtain⟨T,o,rfl,j⟩:=j
  obtain⟨x,l,rfl⟩:=j xs (hl i σ H f d)
  exact n i x σ H T l d o
 ·have e:i=xs.length:=by omega
  subst e
  exact .inl ⟨⟨xs,hl _ σ H f d,ah _⟩,k σ H d⟩
structure pP (K:W.Frag) (C:Addr):Prop where
 ga:W.findIn K (.ref C) "__getattribute__" = some (some (.builtin "BaseException.__getattribute__"))
 gt:W.findIn K (.ref C) "__getattr__" = some none
 mb:W.mroIn K C (.type "BaseException")=some true
 hd:W.hasDictIn K C=true
 ca:W.findIn K (.ref C) "__class__" = some (some (.builtin "object.__class__"))
 cg:W.specialIn K (.builtin "object.__class__") "__get__" = some (some (.builtin "getset_descriptor.__get__"))
 ct:W.takesIn K (.builtin "object.__class__")=some true
 mo:W.mroIn K C (.type "object")=some true
section
variable {w:World} {K:W.Frag} {x:Addr} {ox:Obj} {od:Option Obj} {name:Str} {tk:Tok} {R:Result->Shared->Prop}
end
abbrev Q4:List Value:=[.type "ValueError",.type "Exception",.type "BaseException",.type "object"]
section
variable {w:World} {K:W.Frag} {g:Array GenState} {d:Drawn} {t:Nat} {os:OsState}
end
def qi (x C:Addr) (od:Option Addr):HO:=.ext λh=>∃ (d:Data) (sl:Array (Option Value)),h.get? x=some ⟨.ref C,od,d,sl⟩/\W.notCls ⟨.ref C,od,d,sl⟩=true
def XdO (dx:Addr) (fs:List (Str × V)):HO:=.ext λh=>∃ mA,h.Ns1 dx mA/\∀ f,HF (fs.lookup f) (mA f)
section
variable {w:World} {x:Addr} {od:Option Addr} {fs:List (Str × V)}
inductive cL (H:Hp) (x C:Addr):List (Str × V)->Prop where
 | bare (e:H x=some (qi x C none)):cL H x C []
 | full {dx:Addr} {fs:List (Str × V)} (e:H x=some (qi x C (some dx))) (d:H dx=some (XdO dx fs)):cL H x C fs
end
section
variable {w:World}
theorem GK.none_of (x:GK P w H h) (e:h.get? a=none):H a=none:=by
 cases q:H a with
 | none=>rfl
 | some u =>
  exfalso
  obtain⟨o,c⟩:∃ o,h.get? a=some o:=by
   have z:=x a u q
   cases u with
   | lst d=>obtain⟨_,_,_,_,e⟩:=z;exact⟨_,e⟩
   | tup d=>obtain⟨_,_,_,o,e,_⟩:=z;exact⟨_,e⟩
   | dK b=>obtain⟨_,_,_,_,o,_,_,e,_⟩:=z;exact⟨_,e⟩
   | dT b=>obtain⟨_,_,_,_,o,_,_,e,_⟩:=z;exact⟨_,e⟩
   | set S n=>obtain⟨o,_,_,_,e,_⟩:=z;exact⟨_,e⟩
   | ins C j fs=>obtain⟨_,_,_,e,_⟩:=z;exact⟨_,e⟩
   | own y=>obtain⟨_,e⟩:=z;exact⟨_,e⟩
   | xd fs=>obtain⟨_,⟨_,_,_,e,_⟩,_⟩:=z;exact⟨_,e⟩
   | rng lo g=>obtain⟨_,_,_,e⟩:=z;exact⟨_,e⟩
   | frz k u=>obtain⟨e,_⟩:=z;exact⟨_,e⟩
   | tbl i=>exact⟨_,(show h.get? a=some _ from z)⟩
   | met f y=>exact⟨_,(show h.get? a=some _ from z)⟩
   | ext φ=>obtain⟨_,⟨_,e⟩,_⟩:=z;exact⟨_,e⟩
  rw[e] at c;cases c
end
theorem Ru {K:W.Frag} (X:K.In h) (q:W.excIn K C Q4 "ValueError.__new__" = true) :
  ∃ bm N nm qn bs hdct sn sub ab col dd k0 k1 k2 k3 k5 mN,h.get? C=some (excClassObj nm qn C N bs bm hdct sn sub ab col dd k0 k1 k2 k3 k5 "ValueError.__new__")/\h.Ns N mN/\mN "__init__" = none/\OwnTail h Q4 bm:=by
 unfold W.excIn at q
 split at q
 ·rename_i dd k c p
  split at q
  ·rename_i s bm k0 k1 k2 k3 n k5 f d
   simp only[Bool.and_eq_true,beq_iff_eq,Bool.not_eq_true'] at q
   obtain⟨⟨⟨⟨⟨rfl,rfl⟩,g⟩,m⟩,a⟩,e⟩:=q
   obtain⟨nm,bs,i,j,qn,o,sn,sub,ab,col,r⟩:=k
   dsimp only at f g a e
   subst f g
   have b:c = #[k0,k1,k2,k3,some (.builtin "ValueError.__new__"),k5]:=by
    obtain⟨l⟩:=c
    simp only at d
    rw[d]
   subst b
   exact⟨bm,j,nm,qn,bs,o,sn,sub,ab,col,dd,k0,k1,k2,k3,k5,_,X _ _ p,.of_isNs (W.isNs_of_in X a),W.nsMap_none_of_in X a e,W.tail_of_in X m⟩
  ·cases q
 ·cases q
section
variable {t:TA}
end
section
variable {f:Str}
end
section
variable {w:World} {K:W.Frag} {x:Addr} {name:Str} {v:Value} {R:Result->Shared->Prop} {d:Data} {sl:Array (Option Value)}
end
section
variable {x:Addr} {f:Str} {y:V}
end
section
variable {o value:Expr} {f:Str} {ll:Pos} {tv:TE}
end
section
variable {sp:Sp} {k:Nat} {t:TA}
end
def Vd:List V->List V->Bool
 | [],[]=>true
 | x::xs,y::ys=>Qn x y && Vd xs ys
 | _,_=>false
theorem Nj:∀ (xs ys:List V),xs.length=ys.length->((List.range xs.length).all λj=>Qn (xs.getD j .non) (ys.getD j .non))=Vd xs ys
 | [],[],_=>rfl
 | x::xs,y::ys,h=>by
  have a:=Nj xs ys (by simpa using h)
  rw[bp,List.range_succ_eq_map,List.all_cons,List.all_map]
  show (Qn x y && _)=(Qn x y && Vd xs ys)
  rw[<-a]
  rfl
 | [],_::_,h=>by simp at h
 | _::_,[],h=>by simp at h
theorem Tw:∀ (xs ys:List V),xs.length ≠ ys.length->Vd xs ys=false
 | [],[],h=>absurd rfl h
 | x::xs,y::ys,h=>by
  show (Qn x y && Vd xs ys)=false
  rw[Tw xs ys (λe=>h (by simp[e])),Bool.and_false]
 | [],_::_,_=>rfl
 | _::_,[],_=>rfl
theorem SN (h:xs.all Ge=true) (a:j<xs.length):Ge (xs.getD j .non)=true:=by
 have e:xs.getD j .non=xs[j]:=by simp[a]
 rw[e]
 exact fm.mp h _ (dL a)
theorem YH {us:List Value} (r:Vals xs us) (a:j<us.length):RelV (xs.getD j .non) us[j]:=by
 have hl:=r.length
 have c:xs[j]? = some xs[j]:=by simp[hl,a]
 obtain⟨u,b,d⟩:=r.get c
 rw[ae a] at b
 cases b
 have e:xs.getD j .non=xs[j]:=by simp[hl,a]
 rw[e]
 exact d
inductive qF (K:W.Frag) (neg:Bool) (x:V) (y:V) (H:Hp) (Q:VK):Prop
 | mk (p q xs ys:_):x=.ref p->y=.ref q->Dg K H p xs->Dg K H q ys->xs.all Ge=true->ys.all Ge=true->Q (.bl (if neg then !Vd xs ys else Vd xs ys)) H->qF K neg x y H Q
theorem RC (i:X.A.units<cLine):HN X (compareOp .NotEq) (qF X.K true):=by
 intro J s σ H x y v u Q I t z h
 obtain⟨p,q,a,b,rfl,rfl,o,A,C,n,k⟩:=h
 cases t
 cases z
 obtain⟨d,r,l,G⟩:=I.list o
 obtain⟨D,g,m,F⟩:=I.list A
 have B:=r.length
 have K:=g.length
 by_cases hl:a.length=b.length
 ·refine SeqAt.RcNeAt.lists (e:=λj=>Qn (a.getD j .non) (b.getD j .non)) l.isList m.isList (by simp;omega) i (λj w E=>?_) _ _ _ _ ⟨.bl (!Vd a b),H,I,?_,k⟩
  ·have c:j<d.length:=by simpa using w
   have f:j<D.length:=by simpa using E
   simp only[List.getElem_toArray]
   exact X4 (YH r c) (YH g f) (SN C (by omega)) (SN n (by omega))
  ·rw[ci,<-B,Nj a b hl]
   exact rfl
 ·refine SeqAt.RcNeAt.lists_lengths l.isList m.isList (by simp;omega) i _ _ _ _ ⟨.bl (!Vd a b),H,I,?_,k⟩
  rw[Tw a b hl]
  exact rfl
end L2
namespace Wd
def mk (l:List Nat):Nat:=l.foldl (λs n=>s ||| 2 ^ n) 0
theorem U6 (l:List Nat):∀ (s i:Nat),(l.foldl (λs n=>s ||| 2 ^ n) s).testBit i=(s.testBit i || decide (i∈l)):=by
 induction l with
 | nil=>intro s i;simp
 | cons n l b =>
  intro s i
  rw[List.foldl_cons,b,Nat.testBit_or,Nat.testBit_two_pow]
  by_cases h:n=i
  ·subst h;simp
  ·have a:¬ i=n:=λe=>h e.symm
   simp[h,a]
theorem Hr (l:List Nat) (i:Nat):(mk l).testBit i=decide (i∈l):=by
 unfold mk;rw[U6];simp
def len (n:Nat):Nat:=if n=0 then 0 else n.log2+1
theorem Vb (h:n.testBit i=true):i<len n:=by
 unfold len
 have a:n ≠ 0:=by intro e;subst e;simp at h
 rw[if_neg a]
 have b:2 ^ i<=n:=Nat.ge_two_pow_of_testBit h
 have c:i<=n.log2:=(Nat.le_log2 a).mpr b
 omega
def mem (n:Nat):List Nat:=(List.range (len n)).filter n.testBit
theorem mem_iff:i∈mem n ↔ n.testBit i=true:=by
 unfold mem
 rw[aS,fS]
 exact⟨λh=>h.2,λh=>⟨Vb h,h⟩⟩
theorem Qz (n:Nat):(mem n).Pairwise (· < ·):=List.Pairwise.filter _ List.pairwise_lt_range
theorem K6 {k:Nat} (h:n<2 ^ k):len n<=k:=by
 unfold len
 split
 ·omega
 ·rename_i a
  have:n.log2<k:=(Nat.log2_lt a).mpr h
  omega
theorem Mm:∀ {a b:List Nat},a.Pairwise (· < ·)->b.Pairwise (· < ·)->(∀ i,i∈a ↔ i∈b)->a=b
 | [],[],_,_,_=>rfl
 | [],y::b,_,_,h=>absurd ((h y).mpr List.mem_cons_self) (by simp)
 | x::a,[],_,_,h=>absurd ((h x).mp List.mem_cons_self) (by simp)
 | x::a,y::b,d,f,h=>by
  rw[List.pairwise_cons] at d f
  have j:x=y:=by
   have l:=(h x).mp ce
   have k:=(h y).mpr ce
   rcases cf.mp l with e | e
   ·exact e
   ·rcases cf.mp k with g | g
    ·exact g.symm
    ·have:=f.1 x e
     have:=d.1 y g
     omega
  subst j
  congr 1
  refine Mm d.2 f.2 λi=>⟨λc=>?_,λc=>?_⟩
  ·rcases cf.mp ((h i).mp (bq _ c)) with e | e
   ·have:=d.1 i c
    omega
   ·exact e
  ·rcases cf.mp ((h i).mpr (bq _ c)) with e | e
   ·have:=f.1 i c
    omega
   ·exact e
theorem jb {l:List Nat} (h:l.Pairwise (· < ·)):mem (mk l)=l :=
 Mm (Qz _) h λi=>by rw[mem_iff,Hr];simp
def mv (n:Nat) (k:Int) (c:Nat):Nat:=(if 0<k then n * 2 ^ k.toNat else n / 2 ^ (-k).toNat) % 2 ^ c
theorem La (n:Nat) (k:Int) (c i:Nat):(mv n k c).testBit i=(decide (i<c) && (decide (0<=(i:Int) - k) && n.testBit ((i:Int) - k).toNat)):=by
 unfold mv
 rw[Nat.testBit_mod_two_pow]
 congr 1
 split
 ·rename_i h
  rw[Nat.testBit_mul_two_pow]
  by_cases b:k.toNat<=i
  ·have e:((i:Int) - k).toNat=i - k.toNat:=by omega
   have a:(0:Int)<=i - k:=by omega
   rw[decide_eq_true a,e];simp[b]
  ·have a:¬ (0:Int)<=i - k:=by omega
   rw[decide_eq_false a];simp[b]
 ·rename_i h
  rw[Nat.testBit_div_two_pow]
  have e:((i:Int) - k).toNat=i+(-k).toNat:=by omega
  have a:(0:Int)<=i - k:=by omega
  rw[decide_eq_true a,e];simp
def stay (l:List Nat) (k:Int) (c:Nat):List Nat:=l.filter λn=>decide (0<=(n:Int)+k) && decide ((n:Int)+k<c)
theorem Ry {l:List Nat} (a:∀ n∈l,n<1200):mk l<2 ^ 1200:=by
 refine ii _ λi b=>?_
 rw[Hr]
 exact decide_eq_false λh=>absurd (a i h) (by omega)
theorem Ye (l:List Nat) (n:Nat):mk (l++[n])=mk l ||| 2 ^ n:=by
 unfold mk;rw[List.foldl_append];rfl
end Wd
namespace L2
open PySem PySem.Spec PySem.Calls PyProof.Rows
theorem Oi:∀ {xs:List V} {us:List Value},xs.length=us.length->(∀ (j:Nat) x u,xs[j]? = some x->us[j]? = some u->RelV x u)->Vals xs us
 | [],[],_,_=>.nil
 | [],_::_,h,_=>by simp at h
 | _::_,[],h,_=>by simp at h
 | x::xs,u::us,h,f=>.cons (f 0 x u rfl rfl) (Oi (by simpa using h) λj y v a b=>f (j+1) y v (by simpa using a) (by simpa using b))
section
variable {k1:Nat} {lf:Pos}
theorem Mh (R:X.calm=true):FW X (.type "list") (λxs H Q=>∃ (a:Addr) (kvs:List (Key × V)) (js:List Int),xs=[V.ref a]/\H a=some (.dK kvs)/\kvs.map (·.1)=js.map Sum.inl/\∀ l,H l=none->Q (.ref l) (upd H l (.lst (js.map V.int)))):=by
 intro a8 s σ H xs us Q I r h
 obtain⟨a,kvs,js,rfl,K,D,q⟩:=h
 obtain⟨u,rfl,S⟩:=vals1 r
 cases S
 obtain⟨hz,lo,n,f,o,es,ep,v,w,A,e4,e5,J⟩:=I.hok a _ K
 have hl:kvs.length=n.length:=Paired.length f
 have B:s.heap.DictAt (Bt X.prog X.w) a n ep:=⟨o,es,v,w,A,e4,e5,J⟩
 refine W.kdl_call (W.kdl_dict (knd:=Bt X.prog X.w) (kvs:=n) (ep:=ep) lo) (I.ok.hd R) B (by omega) ?_
 intro h' M g N hk L G
 have P:js.length=n.length:=by
  have:=congrArg List.length D
  rw[af,af] at this
  omega
 have hv:Vals (js.map V.int) g.toList:=by
  refine Oi (by have h1:g.toList.length=g.size:=Array.length_toList;have h2:=G.1;rw[af];omega) λj x u F E=>?_
  rw[Array.getElem?_toList] at E
  obtain⟨k,y,z,Y⟩:=G.2 j u E
  rw[al] at F
  obtain⟨i,T,rfl⟩:=aE.mp F
  have v:(kvs.map (·.1))[j]? = some (Sum.inl i):=by rw[D,al,T];rfl
  rw[al] at v
  obtain⟨kv,O,Z⟩:=aE.mp v
  have c:∀ {l:List (Key × V)} {m:List (Key × Value)},KV l m->∀ {j:Nat} {p q},l[j]? = some p->m[j]? = some q->p.1=q.1:=by
   intro l m h
   unfold KV at h
   induction h with
   | nil=>intro j p q d;simp at d
   | cons a b U =>
    intro j p q d C
    cases j with
    | zero =>
     simp at d C
     subst d C
     exact a.1
    | succ j=>exact U (by simpa using d) (by simpa using C)
  have w:=c f O z
  rw[Z] at w
  have A:k=Sum.inl i:=w.symm
  subst A
  rcases CT (show Jl (Sum.inl i) u=true from Y) with⟨i',t,e,rfl⟩ | ⟨x,t,e,_⟩
  ·cases e
   exact⟨t,rfl⟩
  ·cases e
 refine⟨.ref s.heap.objs.size,_,I.laid (t':=M) (o:=.lst (js.map V.int)) hk (Nat.le_refl _) ⟨by rw[List.length_map];omega,g.toList,N,hv,by simpa using L⟩,rfl,q _ (I.hok.fresh (Nat.le_refl _))⟩
theorem QQ:sV X "int.bit_length" (λx xs H Q=>∃ i,x=V.int i/\xs=[]/\Q (.int (Builtin.Int.intBits i)) H):=by
 intro c s σ H x xs v b Q I a r h
 obtain⟨i,rfl,rfl,q⟩:=h
 obtain⟨t,rfl⟩:=a
 cases r
 exact PyProof.Rows.call_int_bit_length ⟨.int _,H,I.tok _,⟨_,rfl⟩,q⟩
end
theorem Ik (a b:Nat):Builtin.bitOr (a:Int) (b:Int)=((a ||| b:Nat):Int):=by
 have e:¬ 0<=Builtin.bitNot (a:Int):=by unfold Builtin.bitNot;omega
 have d:¬ 0<=Builtin.bitNot (b:Int):=by unfold Builtin.bitNot;omega
 have c:∀ x:Int,Builtin.bitNot (Builtin.bitNot x)=x:=λx=>by unfold Builtin.bitNot;omega
 unfold Builtin.bitOr
 rw[bitAnd_nn e d,c,c,c]
 simp
theorem Lp (a b:Nat):Builtin.bitAnd (a:Int) (b:Int)=((a &&& b:Nat):Int):=by
 rw[bitAnd_pp (gT a) (gT b)]
 simp
theorem KC (n:Nat):Builtin.Int.intBits (n:Int)=Wd.len n:=by
 unfold Builtin.Int.intBits Wd.len
 by_cases h:n=0
 ·subst h;rfl
 ·have a:((n:Int) == 0)=false:=by simpa using h
  rw[a,if_neg h]
  simp
theorem Hv (k:Nat):(2:Int) ^ k=((2 ^ k:Nat):Int):=by simp
end L2
namespace Wd
open PySem
abbrev aF (xs:Array Nat):Prop:=xs.toList.Pairwise (· < ·)
theorem RV {xs:Array Nat} (r:aF xs) {k:Nat} (h:i<k) (a:k<xs.size):xs.getD i 0<xs.getD k 0:=by
 have b:i<xs.size:=Nat.lt_trans h a
 have:=(List.pairwise_iff_getElem.mp r) i k (by simpa using b) (by simpa using a) h
 simpa [Array.getD,b,a] using this
structure Cut (xs:Array Nat) (j p:Nat):Prop where
 le:p<=xs.size
 lo:∀ i,i<p->xs.getD i 0<j
 hi:∀ i,p<=i->i<xs.size->j<=xs.getD i 0
theorem Ml {xs:Array Nat} (r:aF xs) (j:Nat):∀ (fuel lo hi:Nat),hi<=xs.size->hi - lo<=fuel->lo<=hi->(∀ i,i<lo->xs.getD i 0<j)->(∀ i,hi<=i->i<xs.size->j<=xs.getD i 0)->Cut xs j (SetTable.below.go xs j fuel lo hi)
 | 0,lo,hi,c,m,n,a,b=>by
  have e:lo=hi:=by omega
  subst e
  exact⟨c,a,b⟩
 | fuel+1,lo,hi,c,m,n,a,b=>by
  unfold SetTable.below.go
  split
  ·rename_i h
   have g:(lo+hi) / 2<xs.size:=by omega
   have e:xs.getD ((lo+hi) / 2) j=xs.getD ((lo+hi) / 2) 0:=by simp[Array.getD,g]
   dsimp only
   rw[e]
   by_cases d:xs.getD ((lo+hi) / 2) 0<j
   ·rw[if_pos d]
    refine Ml r j fuel ((lo+hi) / 2+1) hi c (by omega) (by omega) (λi f=>?_) b
    by_cases q:i=(lo+hi) / 2
    ·rw[q];exact d
    ·have:=RV r (i:=i) (k:=(lo+hi) / 2) (by omega) g
     omega
   ·rw[if_neg d]
    refine Ml r j fuel lo ((lo+hi) / 2) (by omega) (by omega) (by omega) a λi f l=>?_
    by_cases q:i=(lo+hi) / 2
    ·rw[q];omega
    ·have:=RV r (i:=(lo+hi) / 2) (k:=i) (by omega) l
     omega
  ·have e:lo=hi:=by omega
   subst e
   exact⟨c,a,b⟩
theorem NZ {xs:Array Nat} (r:aF xs) (j:Nat):Cut xs j (SetTable.below xs j) :=
 Ml r j xs.size 0 xs.size (ah _) (by omega) (dA _) (λi h=>absurd h (ip _)) (λi b a=>absurd a (by omega))
theorem RT {xs:Array Nat} (r:aF xs) (h:xs[SetTable.below xs j]? ≠ some j):j ∉ xs.toList:=λf=>by
 have c:=NZ r j
 obtain⟨i,b,e⟩:=fI.mp f
 have a:i<xs.size:=by simpa using b
 have k:xs.getD i 0=j:=by simpa [Array.getD,a] using e
 have l:SetTable.below xs j<=i:=by
  rcases Nat.lt_or_ge i (SetTable.below xs j) with q | q
  ·have:=c.lo i q;omega
  ·exact q
 have g:SetTable.below xs j<xs.size:=aT l a
 have n:=c.hi _ (ah _) g
 have m:SetTable.below xs j=i:=by
  rcases Nat.lt_or_ge (SetTable.below xs j) i with q | q
  ·have:=RV r q a;omega
  ·omega
 refine h ?_
 have d:xs[i]=j:=by simpa [Array.getD,a] using k
 rw[m,Array.getElem?_eq_getElem a,d]
theorem Qf {xs:Array Nat} (r:aF xs) (h:xs[SetTable.below xs j]? ≠ some j):aF (SetTable.insertAt xs (SetTable.below xs j) j):=by
 have c:=NZ r j
 have p:=RT r h
 show (SetTable.insertAt xs (SetTable.below xs j) j).toList.Pairwise _
 rw[SetTable.toList_insertAt,List.pairwise_append,List.pairwise_cons]
 have l:∀ a∈xs.toList.take (SetTable.below xs j),a<j:=λa f=>by
  obtain⟨i,k,e⟩:=fI.mp f
  rw[ck] at k
  have d:i<xs.size:=by simp at k;omega
  have:=c.lo i (by omega)
  simp[Array.getD,d] at this
  rw[List.getElem_take] at e
  rw[<-e]
  simpa using this
 have g:∀ a∈xs.toList.drop (SetTable.below xs j),j<a:=λa f=>by
  obtain⟨i,k,e⟩:=fI.mp f
  rw[kC] at k
  have d:SetTable.below xs j+i<xs.size:=by simp at k;omega
  have:=c.hi (SetTable.below xs j+i) (Nat.le_add_right _ _) d
  simp[Array.getD,d] at this
  rw[List.getElem_drop] at e
  have o:j<=a:=by rw[<-e];simpa using this
  have n:j ≠ a:=λz=>p (by rw[z];exact jp f)
  omega
 exact⟨r.sublist (ku _ _),⟨g,r.sublist (List.drop_sublist _ _)⟩,λa f b m=>by
  rcases cf.mp m with e | m
  ·rw[e];exact l a f
  ·have:=l a f;have:=g b m;omega⟩
theorem VM {t:SetTable} (h:∀ i,t.slot j ≠ .live i):t.place[SetTable.below t.place j]? ≠ some j:=λe=>by
 refine h (SetTable.below t.place j) ?_
 unfold SetTable.slot
 dsimp only
 rw[e]
 simp
theorem Iw (t:SetTable) (p:SetTable.Probe):(t.advance p).dummy=p.dummy:=by
 unfold SetTable.advance
 split <;> rfl
theorem JN {t:SetTable} {f:Nat->Int} {h:Int}:∀ (fuel:Nat) (p:SetTable.Probe) (j:Nat) (dm:Option Nat),(∀ d,p.dummy=some d->t.slot d=.dummy)->SetTable.probe.go t f h fuel p=some (.empty j dm) ->
  t.slot j=.empty/\∀ d,dm=some d->t.slot d=.dummy
 | 0,p,j,dm,a,e=>by unfold SetTable.probe.go at e;cases e
 | fuel+1,p,j,dm,a,e=>by
  unfold SetTable.probe.go at e
  split at e
  ·rename_i b
   cases e
   exact⟨b,a⟩
  ·rename_i b
   refine JN fuel _ j dm (λd q=>?_) e
   rw[Iw] at q
   cases q
   exact b
  ·split at e
   ·cases e
   ·refine JN fuel _ j dm (λd q=>?_) e
    rw[Iw] at q
    exact a d q
theorem U0 {t:SetTable} {h:Int} {d:Bool} (e:t.freeSlot h=some (j,d)):∀ i,t.slot j ≠ .live i:=by
 unfold SetTable.freeSlot at e
 split at e
 ·rename_i a f q
  unfold SetTable.probe at q
  obtain⟨k,g⟩:=JN _ _ _ _ (λd c=>by simp[SetTable.probeStart] at c) q
  cases f with
  | none=>cases e;intro i z;rw[show (none:Option Nat).getD a=a from rfl,k] at z;cases z
  | some b =>
   cases e
   intro i z
   rw[show (some b).getD a=b from rfl,g b rfl] at z
   cases z
 ·cases e
structure Good (t:SetTable) (led:Bool):Prop where
 led:t.led=led
 ris:t.plain=true->aF t.place
theorem RK (a:Bool):Good (.fresh 0 0 a) a:=⟨rfl,λ_=>by simp[SetTable.fresh,aF]⟩
theorem G5 {t:SetTable} (g:Good t led) (n:Nat):Good (t.standIn n) led:=⟨g.led,λh=>by simp[SetTable.standIn] at h⟩
theorem Zz {t:SetTable} (g:Good t led) (n:Nat):Good (t.orStandIn n) led:=by
 unfold SetTable.orStandIn
 split
 ·exact g
 ·exact G5 g n
theorem Vs {t:SetTable} (g:Good t led) (c:Array (Int × Value)) (h:Int) (x:Value):Good (layNew t c h x).2.1 led:=by
 unfold layNew
 split
 ·rename_i a wd e
  refine Zz (t:=(t.put a).1) ⟨g.led,λb=>?_⟩ _
  exact Qf (g.ris b) (VM (U0 e))
 ·exact G5 g _
theorem Uj {h d g:Nat} {plain:Bool} {i:Array Int} {t:SetTable} {o:Array Nat} (e:SetTable.laid h d g led plain i=some (t,o)):Good t led/\t.plain=plain:=by
 unfold SetTable.laid at e
 simp only[Option.bind_eq_bind,Option.bind_eq_some_iff] at e
 obtain⟨k,_,e⟩:=e
 cases e
 refine⟨⟨rfl,λ_=>?_⟩,rfl⟩
 show List.Pairwise _ ((List.map _ _).toArray).toList
 rw[kx,List.pairwise_filterMap]
 refine List.pairwise_lt_range.imp λ{a b} c x f y j=>?_
 obtain⟨u,_,rfl⟩:=aE.mp f
 obtain⟨v,_,rfl⟩:=aE.mp j
 exact c
theorem Ra {t:SetTable} (g:Good t led) (b:Array (Int × Value)) (n:Nat):Good (relayAll t b n).2.1 led:=by
 unfold relayAll
 split
 ·rename_i c a e
  dsimp only
  split
  ·have:=Uj e
   rw[g.led] at this
   exact this.1
  ·exact G5 g _
 ·exact G5 g _
open PySem PySem.Spec PyProof.Rows
def yc (prog:Program) (w:World) (h:Heap) (a:Addr) (led:Bool) (σ:List Int):Prop :=
 ∃ es ep t,h.get? a=some { cls:=.type "set",dict:=none,data:=.set es ep t }/\ElemsOf (intKind prog w) es.toList/\(∀ k,k∈σ ↔ ∃ e∈es.toList,(intKind prog w).is k e.2=true)/\es.size=σ.length/\σ.Nodup /\
  σ.length<scanBound/\t.fits es.size=true/\Good t led
section
variable {w:World} {σ:List Int} {k:Int} {tk:Tok}
theorem R_ {b es':Array (Int × Value)} {ep:Nat} {t t':SetTable} (c:h.get? a=some { cls:=.type "set",dict:=none,data:=.set b ep t }) :
  (h.update a (Obj.putSet es' t')).get? a=some { cls:=.type "set",dict:=none,data:=.set es' (ep+1) t' } :=
 (Heap.get?_update_self (Obj.putSet es' t') c (by rw[putSet_of es' t' rfl];rfl)).trans (by rw[putSet_of es' t' rfl])
end
section
variable {w:World} {R:Result->Shared->Prop} {I:Addr} {wr:List Addr} {G:Array GenState->Array GenState->Prop} {P:Nat->Value->Prop} {St:Nat->Shared->Prop}
end
section
variable {w:World}
abbrev Et (w:World):Bool:=!w.params.followText "set-order"
theorem kY (a:Value) {Q1:vSP} (h:Q1 (.ref s.heap.objs.size) { s with heap:=s.heap.push { cls:=.type "set",dict:=none,data:=.set #[] 0 (.fresh 0 0 (Et w)) } }) :
  codeAny (model prog w) A (.call (.builtin "set.__new__") ⟨[.type "set",a],[]⟩) (wants Q1 E) s:=by
 refine codeAny_of_tree ?_
 show wpAny _ A.in1 (do checkBuiltinCall "set.__new__" ⟨[.type "set",a],[]⟩;again (.builtin "set.__new__" ⟨[.type "set",a],[]⟩)) _ _ s
 refine wpAny_bind (wpAny_of_eq (F.newCall_set_1 a) (wpAny_pure ⟨plainId_quiet F.plain_set_new _,codeAny_builtin F.entry_set_new ?_⟩))
 rw[Around.under_plainId F.plain_set_new _]
 unfold Builtin.«set.__new__» Builtin.Frozenset.newClass
 have b:=sub_set_self
 obtain⟨c,g,d,e,os⟩:=s
 dsimp only
 wp_walk
 refine wpAny_askSetting (wpAny_pure ?_)
 dsimp only
 simp only[newObj]
 exact wpAny_bind (wpAny_alloc (wpAny_pure (wpAny_pure h)))
end
section
variable {M:Model}
end
inductive Way (w:World) (a:Addr) (es:Array (Int × Value)) (ep:Nat) (t:SetTable) (h:Heap):(Nat->Value)->List Value->List Addr->Prop where
 | text (hb:w.params.followText "set-order" = true):Way w a es ep t h (λ_=>rawInt 0) ((pickOrder (w.params.setOrder a ep) es).toList.map (·.2)) []
 | drawn {tp:Addr} {ps:List Nat} (hb:w.params.followText "set-order" = false) (hp:ps.Perm (List.range es.size)) (ht:∃ n,h.get? tp=some { cls:=.type "tuple",data:=.seq (ps.map λ(i:Nat)=>rawInt i).toArray n }) :
   Way w a es ep t h (λ_=>.ref tp) (ps.map λi=>(es.getD i (0,.none)).2) [tp]
 | plain (hb:w.params.followText "set-order" = false) (hd:(!t.plain && decide (es.size > 1))=false) (hl:t.led=true) (hr:aF t.place) (hs:t.place.size=es.size) :
   Way w a es ep t h (λi=>rawInt (if i=0 then 0 else t.place.getD (i - 1) 0+1:Nat)) (es.toList.map (·.2)) []
section
variable {w:World} {es:Array (Int × Value)} {ep:Nat} {t:SetTable} {first:Nat->Value} {vs:List Value} {more:List Addr}
end
end Wd
section PartSetJ
set_option maxHeartbeats 1000000
namespace Wd
open PySem PySem.Spec PyProof.Rows
section
variable {w:World} {σ:List Int}
end
set_option maxHeartbeats 1000000
section
variable {w:World} {σ:List Int}
end
end Wd
end PartSetJ
namespace L2
open PySem PySem.Spec PyProof.Rows
def SetO (P:Program) (w:World) (a:Addr) (τ:List Int):HO:=.ext λh=>Wd.yc P w h a (Wd.Et w) τ
theorem M_:∀ {ns:List Int} {us:List Value},Vals (ns.map V.int) us->IntsAre us ns
 | [],_,r=>by cases r;exact .nil
 | n::ns,_,r=>by
  cases r with
  | cons r t =>
   obtain⟨a,rfl⟩:=r
   exact .cons n a (M_ t)
theorem Jk:∀ {ns:List Int} {us:List Value},IntsAre us ns->Vals (ns.map V.int) us
 | _,_,.nil=>.nil
 | _,_,.cons n t r=>.cons ⟨t,rfl⟩ (Jk r)
theorem aG:HN X (binaryOp .LShift) (rI (λi j=>0<=j/\(Builtin.Int.intBits i:Int)+j<=2 ^ 27) λi j=>.int (i * 2 ^ j.toNat)):=jK λ_ _ _ _ _ _ _ a q=>lshift_int a.1 a.2 q
section
variable {w:World} {r l:Addr}
end
section
variable {p1 p2 q1 q2:Pos}
end
def qU (K:W.Frag) (a:Addr) (xs:List V):It :=
 ⟨λi H=>Dg K H a xs/\i<xs.length,λi H x H'=>H'=H/\xs[xs.length - 1 - i]? = some x,λi H=>Dg K H a xs/\i=xs.length⟩
theorem YJ {w:World} {K:W.Frag} (a g:Addr) (xs:List V):Turn P w K tg (qU K a xs) [g] g (λi h=>h.IsRevIter g a ((xs.length:Int) - 1 - (i:Nat))) where
 mem:=by simp
 obj:=λi h st b f=>by
  have e:b=g:=by simpa using f
  subst e
  obtain⟨o,e,c,d⟩:=st
  exact⟨o,e,λv z=>by rw[d] at z;cases z⟩
 keep:=λi h j st k=>st.at λo e=>k g (by simp) o e
 item:=by
  intro X y m r J i F s σ H E I l st B
  subst y m r
  obtain⟨G,R⟩:=B
  obtain⟨Q,Z,p,hz⟩:=I.list G
  have L:xs[xs.length - 1 - i]? = some (xs[xs.length - 1 - i]'(by omega)):=ae (by omega)
  obtain⟨u,S,T⟩:=Z.get L
  obtain⟨D,n,Y,q,C,t⟩:=l g (by simp)
  have e:(xs.length:Int) - 1 - ((i:Nat):Int)=((xs.length - 1 - i:Nat):Int):=by omega
  rw[e] at st
  refine wpAny_pyNext_rev_item st p.isList (x:=u) (by simpa using S) λj A M=>?_
  have U:Inv X F σ H { s with heap:=j }:=I.turned (t':=s.toks) (λb o f e=>(M.2 b f).trans e) D n q C t
  have e2:((xs.length - 1 - i:Nat):Int) - 1=(xs.length:Int) - 1 - ((i+1:Nat):Int):=by omega
  rw[e2] at A
  obtain⟨o,O,c,d⟩:=id A
  exact⟨u,rfl,QT (s:={ s with heap:=j }) O c d (by decide) ⟨_,H,U,T,⟨rfl,L⟩,A,λb f=>(l b f).1⟩⟩
 done:=by
  intro X y m r J i F s σ H E I l st B
  subst y m r
  obtain⟨G,rfl⟩:=B
  obtain⟨D,n,Y,q,C,t⟩:=l g (by simp)
  have e:(xs.length:Int) - 1 - ((xs.length:Nat):Int) = -1:=by omega
  rw[e] at st
  exact wpAny_pyNext_rev_end (I.ok.hd J) st λj N=>⟨rfl,I.turned (t':=s.toks) (λb o f e=>N b o f e) D n q C t⟩
 self:=λ_ _ _ _ _ st h=>wpAny_pyIter_revIter st h
inductive bI (K:W.Frag) (R:It->Hp->Prop) (vs:List V) (H1:Hp):Prop
 | mk (a xs:_):vs=[.ref a]->Dg K H1 a xs->R (qU K a xs) H1->bI K R vs H1
def uH (K:W.Frag) (ta:TA):TI:=λσ H R=>ta σ H λvs H1=>bI K R vs H1
theorem jH {l:Expr} {j:TA} (v:Gl X "reversed") (n:X.mg "reversed" = none) (k:PA X [l] j) (z:starEach [l] X.env=[(false,eval l X.env)]:=by rfl):PI X tg (.Call (.Name "reversed" p) [l] [] pos) (uH X.K j):=by
 intro A s σ H R I h
 refine Call_ (JM I v n PyProof.Rows.boot_reversed (PyProof.Rows.callWith_type1 (CK (k pos A s σ H _ I h) λG d ⟨E,t,g,C,D⟩=>?_) z rfl))
 obtain⟨a,i,e,B,q⟩:=D
 subst e
 obtain⟨u,rfl,r⟩:=vals1 C
 cases r
 obtain⟨c,w,y,F⟩:=g.list B
 refine call_reversed_list y.isList ?_
 have f:(d.heap.push (revObj a ((c.toArray.size:Int) - 1))).IsRevIter d.heap.objs.size a ((c.toArray.size:Int) - 1):=⟨_,Heap.get?_push_size _ rfl,rfl,rfl⟩
 refine wpAny_pyIter_revIter (s:={ d with heap:=d.heap.push (revObj a ((c.toArray.size:Int) - 1)) }) f ?_
 refine⟨d.heap.objs.size,[d.heap.objs.size],_,_,t,rfl,g.kept (t':=d.toks) λb o e=>Heap.get?_push_of_some _ e,YJ a _ i,?_,λb m=>?_,q⟩
 ·have hl:=w.length
  have x:((c.toArray.size:Nat):Int) - 1=(i.length:Int) - 1 - ((0:Nat):Int):=by
   rw[ci]
   omega
  show (d.heap.push (revObj a ((c.toArray.size:Int) - 1))).IsRevIter d.heap.objs.size a ((i.length:Int) - 1 - ((0:Nat):Int))
  rw[<-x]
  exact f
 ·have e:b=d.heap.objs.size:=by simpa using m
  subst e
  exact g.Ms (ah _) (g.hok.fresh (ah _))
theorem Zj {K:W.Frag} {D:Ends} (b:Nat->St->Hp->Prop) (j:b 0 σ H) (hl:∀ i σ H,i<=xs.length->b i σ H->Dg K H a xs)
  (h:∀ i x σ H,i<xs.length->xs[xs.length - 1 - i]? = some x->b i σ H->g x σ H λσ2 H2=>tb { D with nx:=b (i+1),ct:=b (i+1),bk:=D.nx } σ2 H2) (k:∀ σ H,b xs.length σ H->D.nx σ H) :
  ∃ W:Nat->Nat->St->Hp->Prop,(∃ m,W 0 m σ H)/\∀ i m σ H,W i m σ H ->
   ((qU K a xs).stop i H/\D.nx σ H) \/ ((qU K a xs).go i H/\∃ N:St->Hp->Prop,(∀ σ' H',N σ' H'->∃ m',m'<m/\W (i+1) m' σ' H')/\∀ x H',(qU K a xs).yld i H x H'->g x σ H' λσ2 H2=>tb { D with nx:=N,ct:=N,bk:=D.nx } σ2 H2):=by
 refine⟨λi m σ H=>m=xs.length - i/\i<=xs.length/\b i σ H,⟨xs.length,by simp,Nat.zero_le _,j⟩,?_⟩
 rintro i m σ H ⟨rfl,f,p⟩
 have q:=hl i σ H f p
 by_cases c:i<xs.length
 ·refine .inr ⟨⟨q,c⟩,b (i+1),λσ' H' l=>⟨xs.length - (i+1),by omega,rfl,by omega,l⟩,?_⟩
  rintro x H' ⟨rfl,d⟩
  exact h i x σ H' c d p
 ·have e:i=xs.length:=by omega
  subst e
  exact .inl ⟨⟨q,rfl⟩,k σ H p⟩
open PySem PySem.Spec PySem.Calls PyProof.Rows
section
theorem range_any (bs:List Bool):((List.range bs.length).any λi=>(bs[i]?).getD false)=bs.any id:=by
 rw[fe,fF,fF]
 constructor
 ·rintro⟨i,c,e⟩
  have a:=fS.mp c
  rw[ae a] at e
  exact⟨_,dL a,e⟩
 ·rintro⟨b,d,e⟩
  obtain⟨i,c,q⟩:=fI.mp d
  refine⟨i,fS.mpr c,?_⟩
  rw[ae c,q]
  exact e
theorem MJ (B:X.calm=true):FW X (.builtin "any") (λxs H Q=>∃ (p:Addr) (bs:List Bool),xs=[V.ref p]/\Dg X.K H p (bs.map V.bl)/\Q (.bl (bs.any id)) H):=by
 intro K s σ H xs L Q I r h
 obtain⟨p,bs,rfl,z,q⟩:=h
 obtain⟨u,rfl,j⟩:=vals1 r
 cases j
 obtain⟨a,t,k,G⟩:=I.list z
 have c:bs.length=a.length:=by have:=t.length;rw[af] at this;exact this
 have g:p<s.heap.objs.size:=by obtain⟨_,e,_⟩:=k.isList;exact Heap.lt_size e
 refine call_any_walk (wpAny_pyIter_list k.isList ?_)
 refine⟨s.heap.objs.size,[s.heap.objs.size,p],[s.heap.objs.size],a.toArray.size,_,_,λi=>(bs[i]?).getD false,rfl,Walks.list (A:=X.A.in1) (I.ok.hd B) _ p (br g) a.toArray,
  ⟨⟨_,Heap.get?_push_size _ rfl,rfl,rfl⟩,k.isList.push _⟩,λi v M N J D f=>?_,λF w E=>?_⟩
 ·have n:a[i]? = some v:=by simpa using D
  have C:i<a.length:=(ag.mp n).1
  have l:bs[i]? = some bs[i]:=by simp[c,C]
  obtain⟨u,m,j⟩:=t.get (i:=i) (x:=.bl bs[i]) (by rw[al,l];rfl)
  rw[n] at m
  cases m
  cases j
  dsimp only at f
  rw[l] at f
  exact wpAny_truthy_bool f
 ·have e:((List.range a.toArray.size).any λi=>(bs[i]?).getD false)=bs.any id:=by rw[ci,<-c];exact range_any bs
  rw[e]
  refine⟨.bl (bs.any id),H,I.kept (t':=w) λb o d=>E b o (λy=>?_) (Heap.get?_push_of_some _ d),rfl,q⟩
  rw[av.mp y] at d
  exact fR _ (Heap.lt_size d)
theorem Hs (ns:List Int):∀ j,j<=ns.length->preSum (λi=>(ns[i]?).getD 0) j=(ns.take j).sum
 | 0,_=>rfl
 | j+1,h=>by
  have a:=Hs ns j (by omega)
  show preSum _ j+(ns[j]?).getD 0=_
  rw[a,cr,ae (by omega),fE]
  simp
theorem Vl (M:Int):∀ ns:List Int,(∀ n∈ns,0<=n/\n<=M)->0<=ns.sum/\ns.sum<=ns.length * M
 | [],_=>by simp
 | n::r,h=>by
  have c:=h n (ce ..)
  have b:=Vl M r λx a=>h x (bq _ a)
  have e:((n::r).length:Int) * M=r.length * M+M:=by rw[bp];push_cast;rw[Int.add_mul,Int.one_mul]
  rw[e,ke]
  omega
theorem Xd (G:X.calm=true):FW X (.builtin "sum") (λxs H Q=>∃ (p:Addr) (ns:List Int),xs=[V.ref p]/\Dg X.K H p (ns.map V.int)/\(∀ n∈ns,0<=n/\n<=100000)/\ns.length<=1000/\Q (.int ns.sum) H):=by
 intro O s σ H xs R Q I r h
 obtain⟨p,ns,rfl,E,d,hl,q⟩:=h
 obtain⟨u,rfl,k⟩:=vals1 r
 cases k
 obtain⟨a,z,l,N⟩:=I.list E
 have c:ns.length=a.length:=by have:=z.length;rw[af] at this;exact this
 have f:p<s.heap.objs.size:=by obtain⟨_,e,_⟩:=l.isList;exact Heap.lt_size e
 refine call_sum_walk (wpAny_pyIter_list l.isList ?_)
 refine⟨s.heap.objs.size,[s.heap.objs.size,p],[s.heap.objs.size],a.toArray.size,_,_,λi=>(ns[i]?).getD 0,rfl,Walks.list (A:=X.A.in1) (I.ok.hd G) _ p (br f) a.toArray,
  ⟨⟨_,Heap.get?_push_size _ rfl,rfl,rfl⟩,l.isList.push _⟩,λb d=>?_,λi v K=>?_,λj F=>?_,λM C t' L=>?_⟩
 ·rw[Heap.size_push]
  rcases cf.mp d with rfl | d
  ·exact ij _
  ·rw[av.mp d]
   exact fT f
 ·have w:a[i]? = some v:=by simpa using K
  have J:i<a.length:=(ag.mp w).1
  have d:ns[i]? = some ns[i]:=by simp[c,J]
  obtain⟨u,m,k⟩:=z.get (i:=i) (x:=.int ns[i]) (by rw[al,d];rfl)
  rw[w] at m
  cases m
  obtain⟨t,rfl⟩:=k
  exact⟨t,by dsimp only;rw[d];rfl⟩
 ·have y:j<ns.length:=by rw[c];simpa using F
  rw[Hs ns (j+1) (by omega)]
  have T:=d ns[j] (dL y)
  have S:=Vl 100000 (ns.take (j+1)) λn B=>d n (fN B)
  have P:(ns.take (j+1)).length<=1000:=by rw[ck];omega
  unfold InLong
  dsimp only
  rw[ae y]
  rw[Option.getD_some]
  refine⟨⟨?_,?_⟩,⟨?_,?_⟩⟩ <;> omega
 ·have e:preSum (λi=>(ns[i]?).getD 0) a.toArray.size=ns.sum:=by rw[ci,<-c,Hs ns _ (ah _),eD]
  rw[e]
  refine⟨.int ns.sum,H,I.kept (t':=C) λb o g=>L b o (λD=>?_) (Heap.get?_push_of_some _ g),⟨_,rfl⟩,q⟩
  rw[av.mp D] at g
  exact fR _ (Heap.lt_size g)
theorem PN:∀ {ts:List Str} {its:List Value},Vals (ts.map V.str) its->∃ l:List (Str × Tok),its=strValues l/\l.map (·.1)=ts
 | [],_,h=>by
  cases h
  exact⟨[],rfl,rfl⟩
 | t::ts,_,h=>by
  cases h with
  | cons a b =>
   obtain⟨k,rfl⟩:=a
   obtain⟨l,rfl,rfl⟩:=PN b
   exact⟨(t,k)::l,rfl,rfl⟩
theorem Z9:sV X "str.join" (λx xs H Q=>∃ (z:Str) (p:Addr) (ts:List Str),x=V.str z/\xs=[V.ref p]/\Dg X.K H p (ts.map V.str)/\JoinOk z ts=true/\Q (.str (Txt.join z ts)) H):=by
 intro o s σ H x xs v j Q I g r h
 obtain⟨z,p,ts,rfl,rfl,d,a,q⟩:=h
 obtain⟨t,rfl⟩:=g
 obtain⟨w,rfl,c⟩:=Vals.one r
 cases c
 obtain⟨i,e,f,m⟩:=I.list d
 obtain⟨l,rfl,b⟩:=PN e
 exact SC.join f.isList b a λn k=>⟨.str _,H,I.tok _,⟨_,rfl⟩,q⟩
structure KDict (K:W.Frag) (P:Params) (a:Addr):Prop where
 is:∃ es n,K.lookup a=some ⟨.type "dict",none,.dict es n,#[]⟩/\W.KeysLit P es.toList
 lo:(a == sysModules)=false
inductive Xm (K:W.Frag) (P:Params) (Q:VK) (x:V) (y:V) (H2:Hp):Prop
 | mk (a z v u:_):x=.ref a->y=.str z->KDict K P a->W.nsIn K a z=some (some u)->RelV v u->Q v H2->Xm K P Q x y H2
def jz (K:W.Frag) (P:Params) (td ty:TE):TE:=λσ H Q=>td σ H λx H1=>ty σ H1 λy H2=>Xm K P Q x y H2
inductive bU (K:W.Frag) (P:Params) (neg:Bool) (Q:VK) (y:V) (x:V) (H2:Hp):Prop
 | mk (a z r:_):x=.ref a->y=.str z->KDict K P a->W.nsIn K a z=some r->Q (.bl (if neg then !r.isSome else r.isSome)) H2->bU K P neg Q y x H2
def nW (K:W.Frag) (P:Params) (neg:Bool) (ty td:TE):TE:=λσ H Q=>ty σ H λy H1=>td σ H1 λx H2=>bU K P neg Q y x H2
variable {o i:Expr} {td ty:TE}
theorem Oa (E:PE X o td) (hi:PE X i ty) (j:dg i):PE X (.Subscript o i pos) (jz X.K X.w.params td ty):=by
 intro b s σ H Q I h
 refine Rk iF j (CK (E b s σ H _ I h) λu A ⟨x,B,C,p,D⟩=>CK (hi b A σ B _ C D) λK J k=>?_)
 obtain⟨y,r,d,f,a,z,v,w,q,e,F,m,g,l⟩:=k
 subst q e
 cases p
 obtain⟨t,rfl⟩:=f
 obtain⟨⟨L,n,hl,G⟩,lo⟩:=F
 have c:=W.mapOf_K (prog:=X.prog) d.HH hl G
 exact⟨c.typeIs,wpAny_getItem_of (strKind_is X.prog X.w z t) c (W.find_K hl m) ⟨v,r,d.tok _,g,l⟩⟩
theorem Wi (hi:PE X i ty) (A:PE X o td):PC X .In i o (nW X.K X.w.params false ty td):=by
 intro b s σ H Q I h
 refine CK (hi b s σ H _ I h) λE p ⟨y,q,v,e,w⟩=>CK (A b p σ q _ v w) λu D f=>?_
 obtain⟨x,m,c,k,a,z,r,l,d,B,j,g⟩:=f
 subst l d
 cases k
 obtain⟨t,rfl⟩:=e
 obtain⟨⟨F,n,hl,C⟩,lo⟩:=B
 refine wpAny_in_of (strKind_is X.prog X.w z t) lo (W.mapOf_K (prog:=X.prog) c.HH hl C) ?_
 rw[W.find_K hl j]
 exact⟨.bl r.isSome,m,c.tok _,rfl,g⟩
theorem Uk (hi:PE X i ty) (A:PE X o td):PC X .NotIn i o (nW X.K X.w.params true ty td):=by
 intro b s σ H Q I h
 refine CK (hi b s σ H _ I h) λE p ⟨y,q,v,e,w⟩=>CK (A b p σ q _ v w) λu D f=>?_
 obtain⟨x,m,c,k,a,z,r,l,d,B,j,g⟩:=f
 subst l d
 cases k
 obtain⟨t,rfl⟩:=e
 obtain⟨⟨F,n,hl,C⟩,lo⟩:=B
 refine wpAny_notIn_of (strKind_is X.prog X.w z t) lo (W.mapOf_K (prog:=X.prog) c.HH hl C) ?_
 rw[W.find_K hl j]
 exact⟨.bl (!r.isSome),m,c.tok _,rfl,g⟩
end
section
variable {st:Expr} {lo hi:Option Expr} {ts:TE} {tl th:TO} {p2:Pos}
end
end L2
namespace Og
open PySem L2
theorem An {K:W.Frag} (h:X.K=K):jh X (Y4 K):=h ▸ dN
theorem Bm {K:W.Frag} (h:X.K=K):jh X (jP K):=h ▸ Ij
theorem MK {K:W.Frag} (h:X.K=K):HN X (compareOp .In) (lE K false):=h ▸ Nu
structure R where
 w:Str
 nm:Str
 rest:List V
abbrev R.v (r:R):List V:=.str r.w :: .str r.nm::r.rest
def isNm (z:Str):Prop:=1<=z.length/\z.length<=8/\∀ c∈z.cps.toList,97<=c/\c<=122
def Rows (H:Hp) (ρ:V->R) (vs:List V):Prop:=∀ v∈vs,TupAt H (ρ v).v v
theorem Rows.mono {ρ:V->R} (s:Am H H') (h:Rows H ρ vs):Rows H' ρ vs:=λv a=>(h v a).mono s
theorem Rows.sub {ρ:V->R} (h:Rows H ρ vs) (b:∀ v∈us,v∈vs):Rows H ρ us:=λv a=>h v (b v a)
abbrev pw (ρ:V->R) (w:Str) (v:V):Bool:=decide (V.str (ρ v).w=V.str w)
abbrev pn (ρ:V->R) (t:Str) (v:V):Bool:=decide (V.str (ρ v).nm=V.str t)
def YX (ρ:V->R) (vs:List V) (w t:Str):Bool:=(vs.filter (pw ρ w)).any (pn ρ t)
def KTup (K:W.Frag) (a:Addr) (xs:List V):Prop:=∃ (o:Obj) (its:Array Value) (n:Nat),K.lookup a=some o/\o.cls=.type "tuple" /\ o.data=.seq its n/\its.size<=sizeLine/\Vals xs its.toList
theorem KTup.sq {K:W.Frag} (h:KTup K a xs) (H:Hp):HY K H a xs:=.inr h
abbrev named:List Str:=["board","rank","stop","coupler","mute"]
def JL (K:W.Frag) (aB:Addr) (ρ:V->R) (vs:List V) (x:V) (part:Str):Prop :=
 (∃ (i lo hi:Int) (b:Addr),x=.int i/\W.nsIn K aB part=some (some (.ref b))/\KTup K b [.int lo,.int hi]/\lo<=i/\i<=hi) \/
 (W.nsIn K aB part=some none/\part = "new" /\ ∃ t,x=.str t/\isNm t/\∀ w∈named,YX ρ vs w t=false) \/
 (W.nsIn K aB part=some none/\¬ part = "new" /\ ∃ t,x=.str t/\isNm t/\YX ρ vs part t=true)
structure M9 (K:W.Frag) (aB aP aM:Addr) (ρ:V->R) (vs:List V) (r:R):Prop where
 ns:¬ r.w = "step"
 nl:¬ r.w = "line"
 parts:∃ (ap:Addr) (ps:List Str),W.nsIn K aP r.w=some (some (.ref ap))/\KTup K ap (ps.map V.str)/\(V.str r.nm::r.rest).length=ps.length/\ps.length<=10 /\
  ∀ (i:Nat) x y,(V.str r.nm::r.rest)[i]? = some x->ps[i]? = some y->JL K aB ρ vs x y
 room:∃ (m:Int) (t:Tok),W.nsIn K aM r.w=some (some (.int m t))/\(((vs.filter (pw ρ r.w)).length:Nat):Int)<m
def letters:Str:="abcdefghijklmnopqrstuvwxyz"
abbrev Yi (y:Str) (c:Nat):Bool:=!(Builtin.Str.occurrences y ⟨#[c]⟩ 0 y.length 1).isEmpty
theorem OJ:∀ c<128,Yi letters c=decide (97<=c/\c<=122):=by decide
theorem BR {p:Addr} (h:H p=none):Am H (upd H p o):=λb u e=>by rw[Aw (Ai e h)];exact e
theorem El {p:Addr} (h:H p=none):∃ H',upd H p o=H'/\Am H H'/\H' p=some o:=⟨_,rfl,BR h,Ak⟩
theorem Cg (h:n<=1000):n<=sizeLine:=fA (BJ h)
theorem ty_int {K:W.Frag}:W.kitOne K (.type "int") (.type "int")=some true:=by kernel_rfl
theorem XJ {K:W.Frag}:W.kitOne K (.type "int") (.type "bool")=some false:=by kernel_rfl
theorem cJ {K:W.Frag}:W.kitOne K (.type "list") (.type "list")=some true:=by kernel_rfl
theorem I_ {K:W.Frag}:W.kitOne K (.type "tuple") (.type "tuple")=some true:=by kernel_rfl
theorem HQ {K:W.Frag}:W.kitOne K (.type "str") (.type "str")=some true:=by kernel_rfl
theorem JZ (vs:List V) (n:Nat) (h:n<=vs.length):Dy vs none (some (n:Int))=vs.take n:=by
 unfold Dy
 have a:HT.Ea vs.length 0 none=0:=rfl
 have b:HT.Ea vs.length vs.length (some (n:Int))=n:=by
  rw[HT.FP]
  omega
 rw[a,b]
 simp
theorem JB {α:Type} (p:α->Bool) (l:List α):(l.filter p).length<=l.length:=bE _ _
abbrev bV (b:Str × Nat):List V:=[.str b.1,.int (b.2:Nat)]
abbrev Es (b:Str × Nat):R:=⟨"board",b.1,[.int (b.2:Nat)]⟩
abbrev qV (q:Nat × Nat):List V:=[.int (q.1:Nat),.int (q.2:Nat)]
def Fi (bs:List (Str × Nat)):List (Nat × Nat):=bs.zipIdx.flatMap λp=>(List.range p.1.2).map λe=>(p.2,e)
theorem WP (bs:List (Str × Nat)) (b:Str × Nat):Fi (bs++[b])=Fi bs++(List.range b.2).map λe=>(bs.length,e):=by
 unfold Fi
 rw[List.zipIdx_append]
 simp
theorem Ht {bs:List (Str × Nat)} {b:Str × Nat} (h:bs[i]? = some b):Fi (bs.take (i+1))=Fi (bs.take i)++(List.range b.2).map λe=>(i,e):=by
 have a:i<bs.length:=(ag.mp h).1
 rw[cr,h]
 show Fi (bs.take i++[b])=_
 rw[WP,ck,Nat.min_eq_left (by omega)]
theorem O3 (bs:List (Str × Nat)) (M:Nat):(∀ b∈bs,b.2<=M)->(Fi bs).length<=bs.length * M:=by
 intro h
 have c:∀ i,i<=bs.length->(Fi (bs.take i)).length<=i * M:=by
  intro i
  induction i with
  | zero=>intro _;simp[Fi]
  | succ i d =>
   intro e
   have a:i<bs.length:=by omega
   rw[Ht (ae a),am,af,gz]
   have g:=d (by omega)
   have f:=h bs[i] (dL a)
   have:(i+1) * M=i * M+M:=by rw[Nat.add_mul,Nat.one_mul]
   omega
 have:=c bs.length (ah _)
 rw[eD] at this
 exact this
theorem De {α β:Type} {F:α->β->Prop} {l:List α} {vs:List β} (h:Paired F l vs):∀ {v},v∈vs->∃ a∈l,F a v:=by
 induction h with
 | nil=>intro v c;cases c
 | cons a b e =>
  intro v c
  rcases cf.mp c with rfl | c
  ·exact⟨_,ce ..,a⟩
  ·obtain⟨x,d,q⟩:=e c
   exact⟨x,bq _ d,q⟩
theorem CN {α β:Type} {F:α->β->Prop} {l:List α} {vs:List β} (h:Paired F l vs):∀ {i:Nat} {a},l[i]? = some a->∃ v,vs[i]? = some v/\F a v:=by
 induction h with
 | nil=>intro i a b;simp at b
 | cons x y c =>
  intro i a b
  cases i with
  | zero =>
   simp at b
   subst b
   exact⟨_,rfl,x⟩
  | succ i=>exact c (by simpa using b)
theorem QF {α β:Type} {F:α->β->Prop} {l:List α} {vs:List β} (h:Paired F l vs):∀ {i:Nat} {v},vs[i]? = some v->∃ a,l[i]? = some a/\F a v:=by
 induction h with
 | nil=>intro i a b;simp at b
 | cons x y c =>
  intro i a b
  cases i with
  | zero =>
   simp at b
   subst b
   exact⟨_,rfl,x⟩
  | succ i=>exact c (by simpa using b)
theorem Km {α β:Type} {F:α->β->Prop} {l:List α} {vs:List β} (h:Paired F l vs):∀ n:Nat,Paired F (l.take n) (vs.take n):=by
 induction h with
 | nil=>intro n;simp;exact .nil
 | cons x y a =>
  intro n
  cases n with
  | zero=>exact .nil
  | succ n=>exact .cons x (a n)
theorem Du {α β:Type} {F:α->β->Prop} {l a:List α} {vs b:List β} (h:Paired F l vs) (h':Paired F a b):Paired F (l++a) (vs++b):=by
 induction h with
 | nil=>exact h'
 | cons x y c=>exact .cons x c
theorem By {α β γ:Type} {F:γ->β->Prop} (g:α->γ) {l:List α} {vs:List β} (h:Paired (λa v=>F (g a) v) l vs):Paired F (l.map g) vs:=by
 induction h with
 | nil=>exact .nil
 | cons x y b=>exact .cons x b
theorem Gi {α β γ:Type} {F:γ->β->Prop} (g:α->γ):∀ {l:List α} {vs:List β},Paired F (l.map g) vs->Paired (λa v=>F (g a) v) l vs
 | [],_,h=>by cases h;exact .nil
 | a::l,_,h=>by
  cases h with
  | cons x y=>exact .cons x (Gi g y)
def Uz (H:Hp) (k:Nat):V->V
 | .ref T=>match H T with
  | some (.tup xs)=>xs.getD k .non
  | _=>.non
 | _=>.non
theorem Jx {a:List V} {v:V} (h:TupAt H a v) (k:Nat):Uz H k v=a.getD k .non:=by
 obtain⟨T,rfl,e⟩:=h
 show (match H T with | some (.tup xs)=>xs.getD k V.non | _=>V.non)=_
 rw[e]
theorem Kz {α:Type} {g:α->List V} (k:Nat) {l:List α} (h:Paired (λa v=>TupAt H (g a) v) l vs):vs.map (Uz H k)=l.map λa=>(g a).getD k .non:=by
 induction h with
 | nil=>rfl
 | cons x y b=>rw[cw,cw,b,Jx x]
def SX (x:Addr) (H H':Hp):Prop:=∀ b o,H b=some o->b ≠ x->H' b=some o
theorem SX.trans {x:Addr} (a:SX x H H1) (b:SX x H1 H2):SX x H H2:=λc o h n=>b c o (a c o h n) n
theorem SX.refl {x:Addr}:SX x H H:=λ_ _ h _=>h
theorem SX.of {x:Addr} (s:Am H H'):SX x H H':=λb o h _=>s b o h
theorem SX.up {x:Addr}:SX x H (upd H x o):=λb u h n=>by rw[Aw n];exact h
theorem SX.tup {x:Addr} {a:List V} {y:V} {fs:List (Str × V)} (s:SX x H H') (b:H x=some (.ins C dx fs)) (h:TupAt H a y):TupAt H' a y:=by
 obtain⟨T,e,q⟩:=h
 exact⟨T,e,s _ _ q λz=>by rw[z,b] at q;cases q⟩
theorem SX.pair {α:Type} {x:Addr} {f:α->List V} {l:List α} {fs:List (Str × V)} (s:SX x H H') (b:H x=some (.ins C dx fs)) (h:Paired (λa y=>TupAt H (f a) y) l vs):Paired (λa y=>TupAt H' (f a) y) l vs:=Paired.Ku h λ_ _ q=>s.tup b q
theorem SX.lst {x:Addr} {fs:List (Str × V)} (s:SX x H H') (b:H x=some (.ins C dx fs)) (h:H a=some (.lst xs)):H' a=some (.lst xs):=s _ _ h λz=>by rw[z,b] at h;cases h
theorem SX.dk {x:Addr} {fs:List (Str × V)} (s:SX x H H') (b:H x=some (.ins C dx fs)) (h:H a=some (.dK kvs)):H' a=some (.dK kvs):=s _ _ h λz=>by rw[z,b] at h;cases h
abbrev meths:List Str:=["ranks","pipe_count","pipe","rank_of","board_of_knob","boards","key_count","key","board_of","coupler","knobs","knob_number","board_number","stop","mute","steps","rows"]
inductive o6 (C:Addr) (H:Hp) (x:Addr) (bs:List (Str × Nat)) (ks:List R):Prop
 | mk (dx:Addr) (fs:List (Str × V)) (bl bn kp kr:Addr) (i5 lh l8:List V) (kvs:List (Key × V)):H x=some (.ins C dx fs)->fs.lookup ("board_list" : Str)=some (.ref bl)->fs.lookup ("board_numbers" : Str)=some (.ref bn)->fs.lookup ("key_places" : Str)=some (.ref kp)->fs.lookup ("knob_rows" : Str)=some (.ref kr)->(∀ m∈meths,fs.lookup m=none)->H bl=some (.lst i5)->Paired (λb y=>TupAt H (bV b) y) bs i5->H bn=some (.dK kvs)->(∀ (i:Nat) b,bs[i]? = some b->CP kvs (Sum.inr b.1)=some (.int (i:Nat)))->H kp=some (.lst lh)->Paired (λq y=>TupAt H (qV q) y) (Fi bs) lh->H kr=some (.lst l8)->Paired (λ(r:R) y=>TupAt H r.v y) ks l8->o6 C H x bs ks
structure Ds (C:Addr) (H:Hp) (x:Addr) (bs:List (Str × Nat)) (ks:List R):Prop where
 ob:o6 C H x bs ks
 nb:bs.length<=5
 sz:∀ b∈bs,b.2<=61
 nk:ks.length<=200
theorem Ds.mono {x:Addr} {bs:List (Str × Nat)} {ks:List R} (s:Am H H') (h:Ds C H x bs ks):Ds C H' x bs ks:=by
 obtain⟨⟨w,fs,B,f,A,i,o,r,n,d,D,p,t,y,u,k,z,m,l,v,j,g,e,q⟩,a,b,c⟩:=h
 exact⟨⟨w,fs,B,f,A,i,o,r,n,d,s _ _ D,p,t,y,u,k,s _ _ z,Ar s m,s _ _ l,v,s _ _ j,Ar s g,s _ _ e,Ar s q⟩,a,b,c⟩
end Og
variable {ks rows:List Og.R} {r:Og.R} {ρ:L2.V->Og.R}
namespace L2
open PySem PySem.Spec PyProof.Rows
section
variable {Q:VK}
theorem QD {K:W.Frag} (p:V->Bool) (f:V->V) (hl:HY K H1 a xs) (e:xs.length<sizeLine)
  (g:∀ x∈xs,∀ H,Am H1 H->∀ R:Bool->Hp->Prop,(∀ H',Am H H'->R (p x) H')->tt (some x::σ) H R)
  (j:∀ x∈xs,p x=true->∀ H,Am H1 H->∀ R:VK,(∀ H',Am H H'->R (f x) H')->te (some x::σ) H R)
  (h:∀ D H,H1 D=none->Am H1 H->H D=some (.lst ((xs.filter p).map f))->Q (.ref D) H):HB (tD K a) σ H1 Q tt te :=
 Hj p f e (λi H x b d=>⟨xs,x,b.tup hl,d⟩) (λi H y H' b _ c=>⟨c.1,c.2 xs (b.tup hl)⟩) (λH b=>⟨xs,b.tup hl,ah _⟩) g j h
end
end L2
namespace Og
open PySem L2 PyProof.Rows
inductive Kb where
 | cp (i j:Nat) (s:Int)
 | pl (w:Str) (i:Nat)
def Kb.w:Kb->Str
 | .cp _ _ _=>"coupler"
 | .pl w _=>w
def Kb.v:Kb->List V
 | .cp i j s=>[.str "coupler",.int (i:Nat),.int (j:Nat),.int s]
 | .pl w i=>[.str w,.int (i:Nat)]
def Kb.ok (n:Nat):Kb->Prop
 | .cp i j s=>i<n/\j<n /\ -60<=s/\s<=60
 | .pl w i=>i<n/\(w = "mute" \/ w = "stop")
theorem Kb.wo {k:Kb} (h:k.ok n):k.w = "stop" \/ k.w = "coupler" \/ k.w = "mute":=by
 cases k with
 | cp i j s=>exact .inr (.inl rfl)
 | pl w i=>rcases h.2 with e | e;exact .inr (.inr e);exact .inl e
def Iz (w:Str):Nat:=if w = "coupler" then 12 else if w = "mute" then 5 else 24
abbrev Gb (w:Str) (z:Kb):Bool:=decide (V.str z.w=V.str w)
structure R7 (n:Nat) (kbs:List Kb):Prop where
 ok:∀ k∈kbs,k.ok n
 room:∀ (i:Nat) k,kbs[i]? = some k->((kbs.take i).filter (Gb k.w)).length<Iz k.w
 len:kbs.length<=70
def X3 (c:Nat->Str) (k:Nat):Kb->R
 | .cp i j s=>⟨"coupler",c (30+k),[.str (c i),.str (c j),.int s]⟩
 | .pl w i=>⟨w,c (30+k),[.str (c i)]⟩
theorem J_ (c:Nat->Str) (k:Nat) (z:Kb):(X3 c k z).w=z.w:=by cases z <;> rfl
def Bg (c:Nat->Str) (sz:List Nat):List (Str × Nat):=sz.zipIdx.map λp=>(c p.2,p.1)
def Bu (c:Nat->Str) (kbs:List Kb):List R:=kbs.zipIdx.map λp=>X3 c p.2 p.1
theorem GJ {c:Nat->Str} {sz:List Nat} {z:Nat} (h:sz[i]? = some z):(Bg c sz)[i]? = some (c i,z):=by
 unfold Bg
 rw[al,ic,h]
 simp
theorem UJ {c:Nat->Str} {sz:List Nat} {b:Str × Nat} (h:(Bg c sz)[i]? = some b):∃ z,sz[i]? = some z/\b=(c i,z):=by
 have d:i<(Bg c sz).length:=(ag.mp h).1
 have a:i<sz.length:=by simpa [Bg] using d
 refine⟨sz[i],ae a,?_⟩
 rw[GJ (ae a)] at h
 exact (Option.some.inj h).symm
theorem L_ (c:Nat->Str) (sz:List Nat):(Bg c sz).length=sz.length:=by simp[Bg]
theorem DW (c:Nat->Str) (sz:List Nat):(Bg c sz).map (·.2)=sz:=by
 unfold Bg
 rw[ax]
 refine fq λi=>?_
 rw[al,ic]
 cases sz[i]? <;> simp
theorem Ft {c:Nat->Str} {kbs:List Kb} {z:Kb} (h:kbs[i]? = some z):(Bu c kbs)[i]? = some (X3 c i z):=by
 unfold Bu
 rw[al,ic,h]
 simp
theorem Gz {c:Nat->Str} {kbs:List Kb} (h:(Bu c kbs)[i]? = some r):∃ z,kbs[i]? = some z/\r=X3 c i z:=by
 have b:i<(Bu c kbs).length:=(ag.mp h).1
 have a:i<kbs.length:=by simpa [Bu] using b
 refine⟨kbs[i],ae a,?_⟩
 rw[Ft (ae a)] at h
 exact (Option.some.inj h).symm
theorem QS (c:Nat->Str) (kbs:List Kb):(Bu c kbs).length=kbs.length:=by simp[Bu]
structure KF (K:W.Frag) (aB aP aM:Addr):Prop where
 pB:∃ a,W.nsIn K aP "board" = some (some (.ref a))/\KTup K a (["new","keys"].map λs:String=>V.str s)
 pS:∃ a,W.nsIn K aP "stop" = some (some (.ref a))/\KTup K a (["new","board"].map λs:String=>V.str s)
 pM:∃ a,W.nsIn K aP "mute" = some (some (.ref a))/\KTup K a (["new","board"].map λs:String=>V.str s)
 pC:∃ a,W.nsIn K aP "coupler" = some (some (.ref a))/\KTup K a (["new","board","board","leap"].map λs:String=>V.str s)
 bK:∃ a,W.nsIn K aB "keys" = some (some (.ref a))/\KTup K a [.int 1,.int 61]
 bL:∃ a,W.nsIn K aB "leap" = some (some (.ref a))/\KTup K a [.int (-60),.int 60]
 bN:W.nsIn K aB "new" = some none
 bB:W.nsIn K aB "board" = some none
 mB:∃ t,W.nsIn K aM "board" = some (some (.int 5 t))
 mS:∃ t,W.nsIn K aM "stop" = some (some (.int 24 t))
 mC:∃ t,W.nsIn K aM "coupler" = some (some (.int 12 t))
 mM:∃ t,W.nsIn K aM "mute" = some (some (.int 5 t))
def Mq (H:Hp):V->R
 | .ref T=>match H T with
  | some (.tup (.str w :: .str n::r))=>⟨w,n,r⟩
  | _=>⟨"","",[]⟩
 | _=>⟨"","",[]⟩
theorem LR {v:V} (h:TupAt H r.v v):Mq H v=r:=by
 obtain⟨T,rfl,e⟩:=h
 show (match H T with | some (.tup (.str w :: .str n::r))=>(⟨w,n,r⟩:R) | _=>⟨"","",[]⟩)=r
 rw[e]
theorem Ss {a:List R} (h:Paired (λ(r:R) v=>TupAt H r.v v) a vs):vs.map (Mq H)=a:=by
 induction h with
 | nil=>rfl
 | cons x y b=>rw[cw,b,LR x]
theorem B_ (f:Str) (v:V):∀ l:List (Str × V),(BV f v l).length<=l.length+1
 | []=>ah _
 | p::r=>by
  unfold BV
  split
  ·simp
  ·have:=B_ f v r
   simp only[List.length_cons]
   omega
abbrev G3 (s:Str):Bool:=inV (.str s) [.str "stop",.str "coupler",.str "mute"]
structure Ok3 (K:W.Frag) (aB aP aM:Addr) (ρ:V->R) (us:List V) (bs:List (Str × Nat)) (ks:List R):Prop where
 kinds:∀ v∈us,(ρ v).w = "board" \/ (ρ v).w = "stop" \/ (ρ v).w = "coupler" \/ (ρ v).w = "mute"
 eb:(us.filter (pw ρ "board")).map ρ=bs.map Es
 ek:(us.filter (λv=>G3 (ρ v).w)).map ρ=ks
 b0:1<=bs.length
 b5:bs.length<=5
 sz:∀ b∈bs,b.2<=61
 nk:ks.length<=100
 nb:(bs.map (·.1)).Nodup
 nn:(ks.map (·.nm)).Nodup
 len:us.length<=105
 ok:∀ (i:Nat) v,us[i]? = some v->M9 K aB aP aM ρ (us.take i) (ρ v)
def Hw (ρ:V->R) (vs:List V):List (Str × Str):=vs.map λv=>((ρ v).w,(ρ v).nm)
abbrev Tv (wn:List (Str × Str)) (w t:Str):Bool:=(wn.filter λp=>decide (p.1=w)).any λp=>decide (p.2=t)
abbrev WM (wn:List (Str × Str)) (w:Str):Nat:=(wn.filter λp=>decide (p.1=w)).length
theorem Ii (a b:Str):decide (V.str a=V.str b)=decide (a=b):=by
 rw[fe,decide_eq_true_eq,decide_eq_true_eq]
 exact⟨V.str.inj,congrArg V.str⟩
theorem Ka (ρ:V->R) (vs:List V) (w t:Str):YX ρ vs w t=Tv (Hw ρ vs) w t:=by
 unfold YX Hw
 show _=((vs.map λv=>((ρ v).w,(ρ v).nm)).filter λp=>decide (p.1=w)).any λp=>decide (p.2=t)
 rw[eR,List.any_map]
 have b:pw ρ w=(λp:Str × Str=>decide (p.1=w)) ∘ λv=>((ρ v).w,(ρ v).nm):=by
  funext v
  exact Ii _ _
 have a:pn ρ t=(λp:Str × Str=>decide (p.2=t)) ∘ λv=>((ρ v).w,(ρ v).nm):=by
  funext v
  exact Ii _ _
 rw[b,a]
theorem JP (ρ:V->R) (vs:List V) (w:Str):(vs.filter (pw ρ w)).length=WM (Hw ρ vs) w:=by
 unfold Hw
 show _=((vs.map λv=>((ρ v).w,(ρ v).nm)).filter λp=>decide (p.1=w)).length
 rw[eR,af]
 have a:pw ρ w=(λp:Str × Str=>decide (p.1=w)) ∘ λv=>((ρ v).w,(ρ v).nm):=by
  funext v
  exact Ii _ _
 rw[a]
section
variable {K:W.Frag} {wn:List (Str × Str)}
theorem Jt (F:KF K aB aP aM) (e:Hw ρ vs=wn) (a:isNm t) (h:∀ w∈named,Tv wn w t=false):JL K aB ρ vs (.str t) "new" :=
 .inr (.inl ⟨F.bN,rfl,_,rfl,a,λw b=>by rw[Ka,e];exact h w b⟩)
theorem JT (F:KF K aB aP aM) (e:Hw ρ vs=wn) (a:isNm t) (h:Tv wn "board" t=true):JL K aB ρ vs (.str t) "board" :=
 .inr (.inr ⟨F.bB,by decide,_,rfl,a,by rw[Ka,e];exact h⟩)
theorem Ut (F:KF K aB aP aM) (e:Hw ρ vs=wn) (d:isNm t) (h:∀ w∈named,Tv wn w t=false) (p:WM wn "board" < 5) (r:1<=n) (q:n<=61):M9 K aB aP aM ρ vs (Es (t,n)):=by
 obtain⟨k,m,i⟩:=F.pB
 obtain⟨f,o,g⟩:=F.bK
 obtain⟨c,l⟩:=F.mB
 refine⟨by show ¬ ("board" : Str) = "step";decide,by show ¬ ("board" : Str) = "line";decide,⟨k,["new","keys"],m,i,rfl,by decide,λj x y b a=>?_⟩,⟨5,c,l,?_⟩⟩
 ·match j,b,a with
  | 0,b,a =>
   cases (Option.some.inj b)
   cases (Option.some.inj a)
   exact Jt F e d h
  | 1,b,a =>
   cases (Option.some.inj b)
   cases (Option.some.inj a)
   exact .inl ⟨_,1,61,f,rfl,o,g,by omega,by omega⟩
  | j+2,b,a=>simp at a
 ·rw[JP,e]
  show ((WM wn "board" : Nat):Int)<5
  omega
theorem QH (F:KF K aB aP aM) (e:Hw ρ vs=wn) (l:isNm t) (h:∀ w∈named,Tv wn w t=false) (B:WM wn "coupler" < 12) {a b:Str} (i:isNm a) (f:Tv wn "board" a=true) (m:isNm b) (g:Tv wn "board" b=true) {s:Int} (v : -60<=s) (u:s<=60):M9 K aB aP aM ρ vs ⟨"coupler",t,[.str a,.str b,.int s]⟩:=by
 obtain⟨q,z,p⟩:=F.pC
 obtain⟨n,A,o⟩:=F.bL
 obtain⟨k,r⟩:=F.mC
 refine⟨by show ¬ ("coupler" : Str) = "step";decide,by show ¬ ("coupler" : Str) = "line";decide,⟨q,["new","board","board","leap"],z,p,rfl,by decide,λj x y d c=>?_⟩,⟨12,k,r,?_⟩⟩
 ·match j,d,c with
  | 0,d,c =>
   cases (Option.some.inj d)
   cases (Option.some.inj c)
   exact Jt F e l h
  | 1,d,c =>
   cases (Option.some.inj d)
   cases (Option.some.inj c)
   exact JT F e i f
  | 2,d,c =>
   cases (Option.some.inj d)
   cases (Option.some.inj c)
   exact JT F e m g
  | 3,d,c =>
   cases (Option.some.inj d)
   cases (Option.some.inj c)
   exact .inl ⟨_,-60,60,n,rfl,A,o,v,u⟩
  | j+4,d,c=>simp at c
 ·rw[JP,e]
  show ((WM wn "coupler" : Nat):Int)<12
  omega
end
theorem M4 {α:Type} {l:List α} (h:∀ (i j:Nat) x,l[i]? = some x->l[j]? = some x->i=j):l.Nodup:=by
 refine List.pairwise_iff_getElem.mpr λi j b a c e=>?_
 have:=h i j l[i] (ae b) (by rw[e];exact ae a)
 omega
theorem Tu {bs:List (Str × Nat)}:∀ {i a n:Nat},(Fi bs)[i]? = some (a,n)->∃ b,bs[a]? = some b/\n<b.2/\i=((bs.map (·.2)).take a).sum+n:=by
 have f:∀ m,m<=bs.length->∀ {i a n:Nat},(Fi (bs.take m))[i]? = some (a,n)->∃ b,bs[a]? = some b/\n<b.2/\i=((bs.map (·.2)).take a).sum+n:=by
  intro m
  induction m with
  | zero =>
   intro _ i a n h
   simp[Fi] at h
  | succ m j =>
   intro s i a n h
   have c:m<bs.length:=by omega
   have k:=ae c
   rw[Ht k] at h
   have d:(Fi (bs.take m)).length=((bs.map (·.2)).take m).sum:=by
    have g:∀ m,m<=bs.length->(Fi (bs.take m)).length=((bs.map (·.2)).take m).sum:=by
     intro m
     induction m with
     | zero=>intro _;simp[Fi]
     | succ m j =>
      intro s
      have c:m<bs.length:=by omega
      rw[Ht (ae c),am,j (by omega),af,gz,cr,al,ae c,fE]
      simp
    exact g m (by omega)
   by_cases u:i<(Fi (bs.take m)).length
   ·rw[fw u] at h
    exact j (by omega) h
   ·rw[dc (by omega),al] at h
    obtain⟨e,t,q⟩:=aE.mp h
    have p:i - (Fi (bs.take m)).length<bs[m].2/\e=i - (Fi (bs.take m)).length:=by
     obtain⟨o,l⟩:=ag.mp t
     rw[gz] at o
     rw[List.getElem_range] at l
     exact⟨o,l.symm⟩
    obtain⟨v,r⟩:=Prod.mk.inj q
    subst v r
    refine⟨bs[m],k,by omega,?_⟩
    rw[<-d]
    omega
 intro i a n h
 refine f bs.length (ah _) ?_
 rw[eD]
 exact h
theorem FN (bs:List (Str × Nat)):(Fi bs).length=(bs.map (·.2)).sum:=by
 unfold Fi
 rw[List.length_flatMap]
 have:(bs.zipIdx.map λp=>((List.range p.1.2).map λe=>(p.2,e)).length)=bs.map (·.2):=by
  refine fq λi=>?_
  rw[al,al,ic]
  cases bs[i]? <;> simp
 rw[this]
open PySem L2
def QK (bs:List (Str × Nat)) (j1 j2:Nat) (s:Int) (qd:Nat × Nat) (z2:Nat):V :=
 if qd.1=j1/\0<=(qd.2:Int)+s/\(qd.2:Int)+s<z2 then .int ((((bs.take j2).map (·.2)).sum:Nat)+((qd.2:Int)+s)) else .non
def gl (bs:List (Str × Nat)):Kb->Nat->Option Nat
 | .cp j1 j2 s,i=>match (Fi bs)[i]?,bs[j2]? with
  | some qd,some b2=>match QK bs j1 j2 s qd b2.2 with
   | .int v=>some v.toNat
   | _=>none
  | _,_=>none
 | .pl _ _,_=>none
theorem Ov (l:List Nat):∀ {a b:Nat},a<=b->(l.take a).sum<=(l.take b).sum:=by
 intro a b h
 have e:l.take a=(l.take b).take a:=by rw[List.take_take,Nat.min_eq_left h]
 rw[e]
 have:=congrArg List.sum (gi a (l.take b))
 rw[fE] at this
 omega
theorem W6 {bs:List (Str × Nat)} {j1 a:Nat} {s:Int} {b:Nat × Nat} {c:Str × Nat} (f:(Fi bs)[i]? = some b) (d:bs[a]? = some c) :
  (QK bs j1 a s b c.2=.non/\gl bs (.cp j1 a s) i=none) \/ ∃ j:Nat,QK bs j1 a s b c.2=.int (j:Nat)/\gl bs (.cp j1 a s) i=some j/\j<(bs.map (·.2)).sum:=by
 have e:gl bs (.cp j1 a s) i=match QK bs j1 a s b c.2 with | .int v=>some v.toNat | _=>none:=by
  simp only[gl,f,d]
 rw[e]
 unfold QK
 by_cases h:b.1=j1/\0<=(b.2:Int)+s/\(b.2:Int)+s<c.2
 ·rw[if_pos h]
  obtain⟨l,k,m⟩:=h
  have n:((bs.map (·.2)).take (a+1)).sum=(((bs.take a).map (·.2)).sum+c.2):=by
   rw[cr,al,d,fE,hU]
   simp
  have g:((bs.map (·.2)).take (a+1)).sum<=(bs.map (·.2)).sum:=by
   have:=congrArg List.sum (gi (a+1) (bs.map (·.2)))
   rw[fE] at this
   omega
  refine .inr ⟨((((bs.take a).map (·.2)).sum:Nat)+((b.2:Int)+s)).toNat,?_,rfl,by omega⟩
  rw[ki (by omega)]
 ·rw[if_neg h]
  exact .inl ⟨rfl,rfl⟩
theorem au {bs:List (Str × Nat)} {z:Kb} (h:gl bs z i=some j):j<(bs.map (·.2)).sum:=by
 cases z with
 | pl w a=>cases h
 | cp j1 b s =>
  cases hq:(Fi bs)[i]? with
  | none =>
   simp only[gl,hq] at h
   cases h
  | some d =>
   cases hb:bs[b]? with
   | none =>
    simp only[gl,hq,hb] at h
    cases h
   | some f =>
    rcases W6 (j1:=j1) (s:=s) hq hb with⟨_,e⟩ | ⟨c,_,e,lt⟩
    ·rw[e] at h
     cases h
    ·rw[e] at h
     cases h
     exact lt
abbrev gU (z:Kb):Bool:=decide (V.str z.w=V.str "coupler")
theorem jq {bs:List (Str × Nat)} {z:Kb} (h:gl bs z i=some j):gU z=true:=by
 cases z with
 | pl w a=>cases h
 | cp b c s=>exact decide_eq_true rfl
theorem Zr {z:Kb} (b:z.ok n) (h:gU z=true):∃ i j s,z=.cp i j s:=by
 cases z with
 | cp i j s=>exact⟨i,j,s,rfl⟩
 | pl w i =>
  exfalso
  have a:=V.str.inj (of_decide_eq_true h)
  rcases b.2 with rfl | rfl
  ·exact absurd a (by show ¬ ("mute" : Str) = "coupler";decide)
  ·exact absurd a (by show ¬ ("stop" : Str) = "coupler";decide)
inductive stp (bs:List (Str × Nat)) (kbs:List Kb) (D:Nat) (i j:Nat):Prop
 | mk (k z:_):D.testBit k=true->kbs[k]? = some z->gl bs z i=some j->stp bs kbs D i j
inductive PK (st:Nat->Nat->Prop) (hd:Nat->Prop):Nat->Prop
 | one {i j:Nat}:hd i->st i j->PK st hd j
 | more {i j:Nat}:PK st hd i->st i j->PK st hd j
theorem PK.lt {bs:List (Str × Nat)} {kbs:List Kb} {D:Nat} {h:Nat->Prop} (r:PK (stp bs kbs D) h j):j<(bs.map (·.2)).sum:=by
 cases r with
 | one a b=>obtain⟨k,z,_,_,e⟩:=b;exact au e
 | more a b=>obtain⟨k,z,_,_,e⟩:=b;exact au e
theorem PK.all {st:Nat->Nat->Prop} {c:Nat->Prop} {W:Nat->Prop} (e:∀ j,W j->PK st c j) (d:∀ i,(c i \/ W i)->∀ j,st i j->W j) (j:Nat):W j ↔ PK st c j:=by
 refine⟨e j,λh=>?_⟩
 induction h with
 | one a b=>exact d _ (.inl a) _ b
 | more a b f=>exact d _ (.inr f) _ b
theorem Fq:∀ (T:Nat) {l:List Nat},l.Nodup->(∀ x∈l,x<T)->l.length<=T
 | 0,l,_,h=>by
  cases l with
  | nil=>exact ah _
  | cons a l=>exact absurd (h a (ce ..)) (ip _)
 | T+1,l,b,h=>by
  have f:=Fq T (l:=l.erase T) (b.erase T) λx c=>by
   have e:=h x (List.mem_of_mem_erase c)
   have d:x ≠ T:=λz=>by
    subst z
    exact b.not_mem_erase c
   omega
  have:=List.length_erase (a:=T) (l:=l)
  split at this <;> omega
theorem Wh (a b i:Nat):(a ||| b).testBit i=true ↔ a.testBit i=true \/ b.testBit i=true:=by
 rw[Nat.testBit_or,Bool.or_eq_true]
theorem Zf {a b:Nat} (h:∀ i,a.testBit i=true ↔ b.testBit i=true):a=b:=Nat.eq_of_testBit_eq λi=>fe.mpr (h i)
open PySem L2 PyProof.Rows
abbrev Th:=Str × Nat × List V
abbrev tV (a:Th):List V:=.str a.1 :: .int (a.2.1:Nat)::a.2.2
abbrev tN (a:Th):Str × Nat:=(a.1,a.2.1)
abbrev X6 (r:Str × Nat × Int):Th:=(r.1,r.2.1,[.int r.2.2])
abbrev jn (b:Str × Nat):Th:=(b.1,b.2,[])
abbrev jU (r:Str × Nat × Int):Str × Nat:=(r.1,r.2.1)
abbrev Fv (r:Str × Nat × Int):R:=⟨"rank",r.1,[.int (r.2.1:Nat),.int r.2.2]⟩
structure Ln where
 r:Nat
 sh:Int
 lo:Int
 hi:Int
abbrev Z8 (l:Ln):List V:=[.int (l.r:Nat),.int l.sh,.int l.lo,.int l.hi]
inductive HD (H:Hp) (l:List Ln) (v:V):Prop
 | mk (A:Addr) (ts:List V):v=.ref A->H A=some (.lst ts)->Paired (λx y=>TupAt H (Z8 x) y) l ts->HD H l v
inductive Ie (H:Hp) (D:Addr) (ls:List (List Ln)):Prop
 | mk (lv:_):H D=some (.lst lv)->Paired (λl v=>HD H l v) ls lv->Ie H D ls
theorem HD.mono {l:List Ln} {v:V} (s:Am H H') (h:HD H l v):HD H' l v:=by
 obtain⟨A,a,e,c,b⟩:=h
 exact⟨A,a,e,s _ _ c,Ar s b⟩
theorem Ie.mono {a:List (List Ln)} (s:Am H H') (h:Ie H D a):Ie H' D a:=by
 obtain⟨b,c,d⟩:=h
 exact⟨b,s _ _ c,Paired.Ku d λ_ _ q=>q.mono s⟩
inductive l_ (C:Addr) (H:Hp) (x:Addr) (bs:List (Str × Nat)) (rk:List (Str × Nat × Int)) (ks:List R) (ls:List (List Ln)):Prop
 | mk (dx:Addr) (fs:List (Str × V)) (rl rn pp kl:Addr) (kU lh:List V) (kvs:List (Key × V)):H x=some (.ins C dx fs)->fs.lookup ("rank_list" : Str)=some (.ref rl)->fs.lookup ("rank_numbers" : Str)=some (.ref rn)->fs.lookup ("pipe_places" : Str)=some (.ref pp)->fs.lookup ("knob_lines" : Str)=some (.ref kl)->H rl=some (.lst kU)->Paired (λ(a:Th) y=>TupAt H (tV a) y) (rk.map X6) kU->H rn=some (.dK kvs)->(∀ (i:Nat) r,rk[i]? = some r->CP kvs (Sum.inr r.1)=some (.int (i:Nat)))->H pp=some (.lst lh)->Paired (λq y=>TupAt H (qV q) y) (Fi (rk.map jU)) lh->Ie H kl ls->l_ C H x bs rk ks ls
structure En (C:Addr) (H:Hp) (x:Addr) (bs:List (Str × Nat)) (rk:List (Str × Nat × Int)) (ks:List R) (ls:List (List Ln)):Prop where
 o:Ds C H x bs ks
 r:l_ C H x bs rk ks ls
 nr:rk.length<=12
 nz:∀ r∈rk,r.2.1<=97
 nl:ls.length=ks.length
theorem En.mono {x:Addr} {bs:List (Str × Nat)} {rk:List (Str × Nat × Int)} {e:List (List Ln)} (s:Am H H') (h:En C H x bs rk ks e):En C H' x bs rk ks e:=by
 obtain⟨o,⟨u,fs,m,t,p,f,y,l,d,A,k,n,v,q,w,B,z,r,j,i,g⟩,a,b,c⟩:=h
 exact⟨o.mono s,⟨u,fs,m,t,p,f,y,l,d,s _ _ A,k,n,v,q,s _ _ w,Ar s B,s _ _ z,r,s _ _ j,Ar s i,g.mono s⟩,a,b,c⟩
structure bf (ρ:V->R) (us:List V) (i:Nat):Prop where
 all:∀ j,j<i->∃ v,us[us.length - 1 - j]? = some v/\(ρ v).w = "line"
 lt:i<us.length
 no:∃ v,us[us.length - 1 - i]? = some v/\¬ (ρ v).w = "line"
def iZ (r:R):Int:=match r.rest with
 | [.int m]=>m
 | _=>0
abbrev keyOf (ρ:V->R) (us:List V) (bd:Str) (n:Int):Bool:=(us.filter (pw ρ "board")).any λv=>pn ρ bd v && decide (n<iZ (ρ v))
structure RX (ρ:V->R) (us:List V) (ro:R):Prop where
 ex:∃ (cnt:Nat) (v:V) (sh lo hi:Int) (bd:Str) (rs:List V),ro.rest=[.int sh,.int lo,.int hi]/\bf ρ us cnt/\cnt<4/\us[us.length - 1 - cnt]? = some v/\(ρ v).w = "stop" /\ (ρ v).rest=.str bd::rs/\lo<=hi/\keyOf ρ us bd hi=true
abbrev GC (ρ:V->R) (us:List V):Prop:=∀ v∈us,(ρ v).w = "board"->∃ m,(ρ v).rest=[.int m]
structure J4 (K:W.Frag) (aB aP aM:Addr) (ρ:V->R) (vs:List V) (r:R):Prop where
 ns:¬ r.w = "step"
 parts:∃ (ap:Addr) (ps:List Str),W.nsIn K aP r.w=some (some (.ref ap))/\KTup K ap (ps.map V.str)/\(V.str r.nm::r.rest).length=ps.length/\ps.length<=10 /\
  ∀ (i:Nat) x y,(V.str r.nm::r.rest)[i]? = some x->ps[i]? = some y->JL K aB ρ vs x y
 room:(r.w = "line" /\ W.nsIn K aM r.w=some none) \/ ∃ (m:Int) (t:Tok),W.nsIn K aM r.w=some (some (.int m t))/\(((vs.filter (pw ρ r.w)).length:Nat):Int)<m
 line:r.w = "line"->RX ρ vs r
 jj:GC ρ vs
def lnOf (rk:List (Str × Nat × Int)) (r:R):Ln:=match r.rest with
 | [.int sh,.int lo,.int hi]=>⟨(rk.map (·.1)).idxOf r.nm,sh,lo,hi⟩
 | _=>⟨0,0,0,0⟩
def putL (d0:List (List Ln)) (l:Ln):List (List Ln):=match d0.getLast? with
 | some z=>d0.dropLast++[z++[l]]
 | none=>[]
def Dr (rk:List (Str × Nat × Int)) (d0:List (List Ln)) (r:R):List (List Ln):=if G3 r.w=true then d0++[[]] else if r.w = "line" then putL d0 (lnOf rk r) else d0
def linesOf (rk:List (Str × Nat × Int)) (rs:List R):List (List Ln):=rs.foldl (Dr rk) []
theorem DG (rk:List (Str × Nat × Int)) (a:List R) (r:R):linesOf rk (a++[r])=Dr rk (linesOf rk a) r:=by
 unfold linesOf
 rw[kz]
 rfl
theorem IW (a:List (List Ln)) (z:List Ln) (l:Ln):putL (a++[z]) l=a++[z++[l]]:=by
 unfold putL
 rw[List.getLast?_concat,List.dropLast_concat]
structure Ok4 (K:W.Frag) (aB aP aM:Addr) (ρ:V->R) (us:List V) (bs:List (Str × Nat)) (rk:List (Str × Nat × Int)) (ks:List R):Prop where
 kinds:∀ v∈us,(ρ v).w = "board" \/ (ρ v).w = "rank" \/ (ρ v).w = "line" \/ (ρ v).w = "stop" \/ (ρ v).w = "coupler" \/ (ρ v).w = "mute"
 eb:(us.filter (pw ρ "board")).map ρ=bs.map Es
 er:(us.filter (pw ρ "rank")).map ρ=rk.map Fv
 ek:(us.filter (λv=>G3 (ρ v).w)).map ρ=ks
 ln:∀ (i:Nat) v,us[i]? = some v->(ρ v).w = "line"->(∃ (j:Nat) (r:Str × Nat × Int) (sh lo hi:Int),rk[j]? = some r/\r.1=(ρ v).nm/\(ρ v).rest=[.int sh,.int lo,.int hi])/\∃ u∈us.take i,G3 (ρ u).w=true
 b0:1<=bs.length
 b5:bs.length<=5
 sz:∀ b∈bs,b.2<=61
 nr:rk.length<=12
 nz:∀ r∈rk,r.2.1<=97
 nk:ks.length<=100
 nb:(bs.map (·.1)).Nodup
 nrr:(rk.map (·.1)).Nodup
 nn:(ks.map (·.nm)).Nodup
 len:us.length<=150
 ok:∀ (i:Nat) v,us[i]? = some v->J4 K aB aP aM ρ (us.take i) (ρ v)
end Og
variable {kbs:List Og.Kb} {ls:List (List Og.Ln)}
namespace Ws
open PySem PySem.Spec PyProof.Rows Wd
def Jj (prog:Program) (w:World) (h:Heap) (a:Addr) (led:Bool) (σ:List Str):Prop :=
 ∃ es ep t,h.get? a=some { cls:=.type "set",dict:=none,data:=.set es ep t }/\ElemsOf (strKind prog w) es.toList/\(∀ k,k∈σ ↔ ∃ e∈es.toList,(strKind prog w).is k e.2=true)/\es.size=σ.length/\σ.Nodup /\
  σ.length<scanBound/\t.fits es.size=true/\Good t led
def Gm (σ:List Str) (k:Str):List Str:=if k∈σ then σ else σ++[k]
section
variable {w:World} {σ:List Str} {k:Str} {tk:Tok}
theorem qI {Q:Bool->Shared->Prop} (hS:Jj prog w s.heap a led σ) (room:σ.length+1<scanBound)
  (h:∀ b h',Heap.SameBut a s.heap h'->Jj prog w h' a led (Gm σ k)->Q b { s with heap:=h' }):wpAny (model prog w) A (setAddHashed a (.str k tk) ((strKind prog w).hash k)) Q E s:=by
 obtain⟨B,ep,t,O,W,i,hn,nd,hb,hf,g⟩:=hS
 have m:(strKind prog w).is k (.str k tk)=true:=strKind_is _ _ _ _
 have ab:B.size<scanBound:=by rw[hn];exact hb
 unfold setAddHashed setAddHashedIn
 refine wpAny_holding (wpAny_bind (wpAny_setState_of O rfl hf ?_))
 dsimp only
 rw[byScan_of rfl ab W,if_pos rfl]
 unfold setAddByScan
 refine wpAny_bind (wpAny_bind (wpAny_rule (wpAny_bind (wpAny_setScan_of m O rfl hf W ?_))))
 cases hr:List.findIdx? (λe=>(strKind prog w).is k e.2) B.toList with
 | some j =>
  obtain⟨hj,an,_⟩:=List.findIdx?_eq_some_iff_getElem.mp hr
  have Y:k∈σ:=(i k).mpr ⟨_,dL hj,an⟩
  refine wpAny_pure (wpAny_pure ?_)
  have:=h false s.heap (Heap.SameBut.refl a s.heap) (by unfold Gm;rw[if_pos Y];exact⟨B,ep,t,O,W,i,hn,nd,hb,hf,g⟩)
  exact this
 | none =>
  have Y:k ∉ σ:=λq=>by
   obtain⟨e,I,D⟩:=(i k).mp q
   have:=List.findIdx?_eq_none_iff.mp hr e I
   rw[D] at this
   cases this
  dsimp only
  have C:=layNew_perm t B ((strKind prog w).hash k) (.str k tk)
  have X:=layNew_fits t B ((strKind prog w).hash k) (.str k tk)
  have V:=Vs g B ((strKind prog w).hash k) (.str k tk)
  generalize layNew t B ((strKind prog w).hash k) (.str k tk)=L at C X V |-
  obtain⟨c,H,wd,UB⟩:=L
  dsimp only at C X V |-
  rw[Array.toList_push] at C
  have J:ElemsOf (strKind prog w) c.toList:=(W.push m rfl).perm C
  have P:c.size=(σ++[k]).length:=by
   have:=C.length_eq
   simp only[List.length_append,Array.length_toList,List.length_singleton] at this
   simp only[List.length_append,List.length_singleton]
   omega
  have G:∀ o,o∈σ++[k] ↔ ∃ e∈c.toList,(strKind prog w).is o e.2=true:=λo=>by
   have:=mem_push_iff (knd:=strKind prog w) (S:=λo=>decide (o∈σ)) m (λo=>by rw[decide_eq_true_eq];exact i o) C o
   rw[<-this]
   simp
  have ac:(σ++[k]).Nodup:=List.nodup_append.mpr ⟨nd,by simp,λx hx y hy=>by
   rw[av.mp hy]
   intro q
   exact Y (q ▸ hx)⟩
  have T:(σ++[k]).length<scanBound:=by simp only[List.length_append,List.length_singleton];exact room
  have z:c.size<scanBound:=by rw[P];exact T
  have fin:∀ (p:Array (Int × Value)) (d:SetTable) (Z:Nat) (N:Heap),Heap.SameBut a s.heap N->N.get? a=some { cls:=.type "set",dict:=none,data:=.set p Z d }->p.toList.Perm c.toList->d.fits p.size=true->Good d led ->
    Q true { s with heap:=N }:=λp d Z N sb e2 U M F=>by
   refine h true N sb ?_
   unfold Gm
   rw[if_neg Y]
   refine⟨p,Z,d,e2,J.perm U,λo=>(G o).trans ⟨λ⟨e,I,q⟩=>⟨e,U.mem_iff.mpr I,q⟩,λ⟨e,I,q⟩=>⟨e,U.mem_iff.mp I,q⟩⟩,?_,ac,T,M,F⟩
   rw[<-Array.length_toList,U.length_eq,Array.length_toList,P]
  have tail:∀ (d:SetTable),d.fits c.size=true->Good d led->wpAny (model prog w) A (do
    storeSet a c d
    if (!wd && d.tooFull)=true then do
      (match (relayAll d c (SetTable.grown c.size)).2.2 with | true=>rule "set.scan.the-table-gave-way" | false=>pure ())
      storeSet a (relayAll d c (SetTable.grown c.size)).1 (relayAll d c (SetTable.grown c.size)).2.1
      pure (some true)
     else pure (some true)) (λr v=>match r with | some b=>Q b v | none=>False) E s:=λd M F=>by
   refine wpAny_bind (wpAny_storeSet_of O rfl ?_ (fits_of_scanBound z))
   have XA:=Heap.SameBut.update s.heap a (Obj.putSet c d)
   have e1:=R_ (es':=c) (t':=d) O
   split
   ·have D:=relayAll_perm d c (SetTable.grown c.size)
    have hq:=relayAll_fits d c (SetTable.grown c.size)
    have hg:=Ra F c (SetTable.grown c.size)
    generalize relayAll d c (SetTable.grown c.size)=R at D hq hg |-
    obtain⟨p,t3,gv⟩:=R
    dsimp only at D hq hg |-
    have ap:p.size<scanBound:=by rw[<-Array.length_toList,D.length_eq,Array.length_toList];exact z
    have u:wpAny (model prog w) A (do storeSet a p t3;pure (some true)) (λr v=>match r with | some b=>Q b v | none=>False) E { s with heap:=s.heap.update a (Obj.putSet c d) }:=by
     refine wpAny_bind (wpAny_storeSet_of e1 rfl ?_ (fits_of_scanBound ap))
     exact wpAny_pure (fin p t3 _ _ (XA.trans (Heap.SameBut.update _ a _)) (R_ e1) D hq hg)
    cases gv
    ·exact wpAny_bind (wpAny_pure u)
    ·exact wpAny_bind (wpAny_rule u)
   ·exact wpAny_pure (fin c d _ _ XA e1 (List.Perm.refl _) M F)
  have n:∀ (d:SetTable),d.fits c.size=true->Good d led->wpAny (model prog w) A (do
    storeSet a c d
    if (!wd && d.tooFull)=true then do
      (match (relayAll d c (SetTable.grown c.size)).2.2 with | true=>rule "set.scan.the-table-gave-way" | false=>pure ())
      storeSet a (relayAll d c (SetTable.grown c.size)).1 (relayAll d c (SetTable.grown c.size)).2.1
      pure (some true)
     else pure (some true)) (λr v=>wpAny (model prog w) A (match r with | some f=>pure f | none=>setAddHashedIn a (.str k tk) ((strKind prog w).hash k) 99999) Q E v) E s:=λd M F =>
   wpAny_mono (tail d M F) (λr v q=>by
    cases r with
    | none=>exact q.elim
    | some b=>exact wpAny_pure q) λ_ _ e=>e
  have K:wpAny (model prog w) A (do
    let l <-if H.plain then hashByValue 8 (.str k tk) else pure true
    let d:=if l=true then H else { H with plain:=false }
    storeSet a c d
    if (!wd && d.tooFull)=true then do
      (match (relayAll d c (SetTable.grown c.size)).2.2 with | true=>rule "set.scan.the-table-gave-way" | false=>pure ())
      storeSet a (relayAll d c (SetTable.grown c.size)).1 (relayAll d c (SetTable.grown c.size)).2.1
      pure (some true)
     else pure (some true)) (λr v=>wpAny (model prog w) A (match r with | some f=>pure f | none=>setAddHashedIn a (.str k tk) ((strKind prog w).hash k) 99999) Q E v) E s:=by
   split
   ·rw[hashByValue_scannable 8 rfl]
    exact wpAny_bind (wpAny_pure (n { H with plain:=false } X ⟨V.led,λh=>by cases h⟩))
   ·exact wpAny_bind (wpAny_pure (n H X V))
  cases UB
  ·exact wpAny_bind (wpAny_pure K)
  ·exact wpAny_bind (wpAny_rule K)
end
inductive StrsAre:List Value->List Str->Prop
 | nil:StrsAre [] []
 | cons (z:Str) (t:Tok) {us:List Value} {zs:List Str}:StrsAre us zs->StrsAre (.str z t::us) (z::zs)
theorem StrsAre.length:∀ {us:List Value} {zs:List Str},StrsAre us zs->us.length=zs.length
 | _,_,.nil=>rfl
 | _,_,.cons z t r=>congrArg (· + 1) r.length
theorem StrsAre.Vq:∀ {us:List Value} {zs:List Str},StrsAre us zs->∀ (i:Nat) (v:Value),us[i]? = some v->∃ t,v=.str (zs.getD i "") t
 | _,_,.nil,i,v,h=>by simp at h
 | _,_,.cons z t r,0,v,h=>by simp at h;exact⟨t,h.symm⟩
 | _,_,.cons z t r,i+1,v,h=>by
  have a:_:=h
  rw[List.getElem?_cons_succ] at a
  obtain⟨b,e⟩:=r.Vq i v a
  exact⟨b,by rw[e];rfl⟩
theorem Jj.keep {w:World} {σ:List Str} (g:Jj prog w h a led σ) (k:∀ o,h.get? a=some o->h'.get? a=some o):Jj prog w h' a led σ :=
 let ⟨c,b,t,e,r⟩:=g;⟨c,b,t,k _ e,r⟩
theorem Va (σ:List Str) (k:Str):(Gm σ k).length<=σ.length+1:=by
 unfold Gm
 split
 ·omega
 ·simp
theorem Nh:∀ (ns:List Str) (σ:List Str),(ns.foldl Gm σ).length<=σ.length+ns.length
 | [],σ=>by simp
 | k::ns,σ=>by
  have a:=Nh ns (Gm σ k)
  have b:=Va σ k
  simp only[List.foldl_cons,List.length_cons]
  omega
section
variable {w:World} {R:Result->Shared->Prop} {I:Addr} {wr:List Addr} {G:Array GenState->Array GenState->Prop} {P:Nat->Value->Prop} {St:Nat->Shared->Prop}
theorem jF (W:WalksS prog w A.in1 I fp wr G n P St) (S:Addr) (a:S ∉ fp) (ns:List Str) (J:ns.length=n) (u:∀ i v,P i v->∃ t,v=.str (ns.getD i "") t) (c:n+1<scanBound) :
  ∀ (k i:Nat) (s:Shared),n - i=k->i<=n->St i s->Jj prog w s.heap S led ((ns.take i).foldl Gm []) ->
   (∀ s',Moved (S::wr) G s s'->Jj prog w s'.heap S led (ns.foldl Gm [])->R (.ok (.ret .none)) s')->codeAny (model prog w) A (.builtin "set.update.loop" ⟨[.ref S,.ref I],[]⟩) R s:=by
 have h:S ∉ wr:=λz=>a (W.sub _ z)
 have up:∀ b∈wr,b∈S::wr:=λb z=>bq _ z
 intro k
 induction k with
 | zero =>
  intro i s H x st g d
  obtain rfl:i=n:=by omega
  refine codeAny_builtin F.entry_set_update_loop ?_
  rw[Around.under_plainId F.plain_set_update_loop _]
  refine wpAny_bind (W.done s _ _ st λs' m=>wpAny_pure (d s' (m.mono up) ?_))
  rw[ge (by omega)] at g
  exact g.keep λo e=>m.heap S o h e
 | succ k y =>
  intro i s H x st g d
  have lt:i<n:=by omega
  refine codeAny_builtin F.entry_set_update_loop ?_
  rw[Around.under_plainId F.plain_set_update_loop _]
  refine wpAny_bind (W.item i s _ _ lt st λv s' p C m=>?_)
  obtain⟨t,rfl⟩:=u i v p
  have j:=g.keep (h':=s'.heap) λo e=>m.heap S o h e
  refine wpAny_bind (wpAny_holding (wpAny_holding (wpAny_bind ((strKind prog w).pyHash (k:=ns.getD i "") (strKind_is _ _ _ _) ?_))))
  have room:((ns.take i).foldl Gm []).length+1<scanBound:=by
   have:=Nh (ns.take i) []
   rw[ck] at this
   simp at this
   omega
  have l:ns.take (i+1)=ns.take i++[ns.getD i ""]:=by
   have hl:i<ns.length:=by omega
   rw[cr,ae hl]
   simp[hl]
  refine qI (s:={ s' with toks:=s'.toks+1 }) j room λb h' f B=>?_
  have r:Jj prog w h' S led ((ns.take (i+1)).foldl Gm []):=by
   rw[l,kz]
   exact B
  refine wpAny_pure ⟨plainId_quiet F.plain_set_update_loop _,y (i+1) _ (by omega) lt (W.frame _ s' _ _ C (iN _) λb c o e=>?_) r λD E q=>?_⟩
  ·rw[f.2 b (λz:b=S=>a (z ▸ c))]
   exact e
  ·refine d D (Moved.trans W.gtrans ((m.mono up).then_heap (iN _) λb o c e=>?_) E) q
   rw[f.2 b (λz:b=S=>c (by rw[z];exact ce))]
   exact e
end
section
variable {w:World}
theorem Y0 (h:Heap):Jj prog w (h.push { cls:=.type "set",dict:=none,data:=.set #[] 0 (.fresh 0 0 (Et w)) }) h.objs.size (Et w) [] :=
 ⟨#[],0,_,Heap.get?_push_size _ rfl,λe a=>by simp at a,λk=>by simp,rfl,.nil,by decide,by rfl,RK _⟩
set_option maxHeartbeats 4000000 in
theorem lJ {l:Addr} {f:Array Value} (hh:A.handled=none) (hl:s.heap.IsTuple l f) (hi:StrsAre f.toList ns) (U:ns.length+1<scanBound)
  (h:∀ h' tk,Jj prog w h' s.heap.objs.size (Et w) (ns.foldl Gm [])->(∀ b o,s.heap.get? b=some o->h'.get? b=some o)->Q (.ref s.heap.objs.size) { s with heap:=h',toks:=tk }) :
  wpAny (model prog w) A (call (.type "set") [.ref l]) Q E s:=by
 obtain⟨c,tl,Fa⟩:=F.called_set.mro
 have WH:=F.called_set.made
 have J:=F.called_set.sub
 have d:f.size=ns.length:=by rw[<-StrsAre.length hi];simp
 refine wpAny_call (codeAny_of_tree ?_)
 show wpAny _ _ (callAny (.type "set") _) _ _ _
 refine wpAny_pure ⟨Code.quiet_builtin _ (by decide),codeAny_builtin F.entry_type_call ?_⟩
 rw[Around.under_plain (weight_type_call_type "set" [.ref l] []) rfl]
 have h1:=F.called_set.notType
 have h2:=F.called_set.canCreate
 have YO:=F.typeCall_set_1 (.ref l)
 repeat (any_goals (first | assumption | wp_step))
 refine codeAny_mono (kY (.ref l) (E:=E) (Q1:=λa D=>a=.ref s.heap.objs.size/\D = { s with heap:=s.heap.push { cls:=.type "set",dict:=none,data:=.set #[] 0 (.fresh 0 0 (Et w)) } }) ⟨rfl,rfl⟩) λr D u=>?_
 rcases r with e | M
 ·exact u
 obtain⟨a,rfl,u⟩:∃ a,M=.ret a/\(a=.ref s.heap.objs.size/\D = { s with heap:=s.heap.push { cls:=.type "set",dict:=none,data:=.set #[] 0 (.fresh 0 0 (Et w)) } }):=by
  cases M with
  | ret v=>exact⟨v,rfl,u⟩
  | _=>exact u.elim
 obtain⟨rfl,rfl⟩:=u
 have hS:(s.heap.push { cls:=.type "set",dict:=none,data:=.set #[] 0 (.fresh 0 0 (Et w)) }).get? s.heap.objs.size=some { cls:=.type "set",dict:=none,data:=.set #[] 0 (.fresh 0 0 (Et w)) }:=Heap.get?_push_size _ rfl
 have hT:Shared.TypeIs { s with heap:=s.heap.push { cls:=.type "set",dict:=none,data:=.set #[] 0 (.fresh 0 0 (Et w)) } } (.ref s.heap.objs.size) "set":=⟨_,hS,rfl⟩
 have O0:=F.called_set.init.lookup
 have LF:=F.called_set.init.bind (.ref s.heap.objs.size)
 repeat (any_goals (first | assumption | wp_step))
 refine codeAny_mono (codeAny_call_builtin (R:=wants (λr C=>r=.none/\∃ h' tk,C = { s with heap:=h',toks:=tk }/\Jj prog w h' s.heap.objs.size (Et w) (ns.foldl Gm [])/\∀ b o,s.heap.get? b=some o->h'.get? b=some o) E)
  F.called_set.init.plain F.entry_set_init (check_set_init_1 hT ?_)) λZ C p=>?_
 ·obtain⟨ol,G,t,H,n⟩:=hl
  obtain⟨I,W,XI,AY⟩:=ol
  simp only at t n
  subst t;subst n
  have x:(s.heap.push { cls:=.type "set",dict:=none,data:=.set #[] 0 (.fresh 0 0 (Et w)) }).get? l=some { cls:=.type "tuple",dict:=W,data:=.seq f H,slots:=AY }:=Heap.get?_push_of_some _ G
  have O:=F.sub_tuple_set
  have L:=F.sub_tuple_frozenset
  have T:(Value.type "tuple" == Value.type "dict")=false:=by decide
  have k:(s.heap.push { cls:=.type "set",dict:=none,data:=.set #[] 0 (.fresh 0 0 (Et w)) }).IsTuple l f:=⟨_,x,rfl,H,rfl⟩
  unfold Builtin.«set.__init__» noKeywords Builtin.Frozenset.updateFrom
  generalize B:pyIter=PI
  wp_walk
  subst B
  refine wpAny_pyIter_tuple k (wpAny_bind (wpAny_runValue ?_))
  have K:l<s.heap.objs.size:=Heap.lt_size G
  have Y:A.in1.in1.in1.handled=none:=by simp[hh]
  have X:l ≠ (s.heap.push { cls:=.type "set",dict:=none,data:=.set #[] 0 (.fresh 0 0 (Et w)) }).objs.size:=by
   rw[Heap.size_push]
   exact br (fT K)
  have nf:s.heap.objs.size ∉ [(s.heap.push { cls:=.type "set",dict:=none,data:=.set #[] 0 (.fresh 0 0 (Et w)) }).objs.size,l]:=by
   rw[Heap.size_push]
   intro z
   rcases cf.mp z with q | q
   ·exact absurd q (br (ij _))
   ·exact absurd (av.mp q) (gX K)
  refine jF ((Walks.tuple Y _ l X f).toS) s.heap.objs.size nf ns d.symm (λi v hv=>StrsAre.Vq hi i v (by rw[Array.getElem?_toList];exact hv)) (by rw[d];exact U) (f.size - 0) 0 _ rfl (dA _)
   ⟨⟨_,Heap.get?_push_size _ rfl,rfl,rfl⟩,(k.push _)⟩ ((Y0 s.heap).keep λo e=>Heap.get?_push_of_some _ e) λs' m g=>?_
  obtain⟨h',P,V,y,S⟩:=s'
  obtain rfl:P=s.gens:=m.gens
  obtain rfl:V=s.drawn:=m.drawn
  obtain rfl:S=s.os:=m.os
  show wpAny _ _ _ _ _ _
  refine wpAny_pure ?_
  show wpAny _ _ (ret Value.none) _ _ _
  refine wpAny_pure ⟨rfl,h',y,rfl,g,λb o e=>?_⟩
  have N:=Heap.lt_size e
  refine m.heap b o (λz=>?_) (Heap.get?_push_of_some _ (Heap.get?_push_of_some _ e))
  rcases cf.mp z with q | q
  ·exact absurd q (br N)
  ·have:=av.mp q
   rw[Heap.size_push] at this
   exact absurd this (br (fT N))
 ·rcases Z with e | j
  ·exact p
  obtain⟨r,rfl,p⟩:∃ r,j=.ret r/\(r=.none/\∃ h' tk,C = { s with heap:=h',toks:=tk }/\Jj prog w h' s.heap.objs.size (Et w) (ns.foldl Gm [])/\∀ b o,s.heap.get? b=some o->h'.get? b=some o):=by
   cases j with
   | ret v=>exact⟨v,rfl,p⟩
   | _=>exact p.elim
  obtain⟨rfl,h',tk,rfl,g,hk⟩:=p
  repeat (any_goals (first | assumption | wp_step))
  exact h _ _ g hk
end
end Ws
namespace L2
open PySem PySem.Spec PyProof.Rows
def O_ (P:Program) (w:World) (a:Addr) (τ:List Str):HO:=.ext λh=>Ws.Jj P w h a (Wd.Et w) τ
theorem WT {w:World} {τ:List Str} (g:Ws.Jj P w h a (Wd.Et w) τ):CQ P w H h a (O_ P w a τ) :=
 ⟨g,(let ⟨_,_,_,e,_⟩:=g;⟨_,e⟩),λ_ _ g k=>g.keep k⟩
theorem Mz:∀ {ts:List Str} {us:List Value},Vals (ts.map V.str) us->Ws.StrsAre us ts
 | [],_,r=>by cases r;exact .nil
 | n::ns,_,r=>by
  cases r with
  | cons r t =>
   obtain⟨a,rfl⟩:=r
   exact .cons n a (Mz t)
theorem U_ (b:X.calm=true):FW X (.type "set") (λxs H Q=>∃ (l:Addr) (ts:List Str),xs=[V.ref l]/\HY X.K H l (ts.map V.str)/\ts.length<=1000/\∀ p,H p=none->Q (.ref p) (upd H p (O_ X.prog X.w p (ts.foldl Ws.Gm [])))):=by
 intro o s σ H xs m Q I r h
 obtain⟨l,ts,rfl,hl,n,q⟩:=h
 obtain⟨u,rfl,c⟩:=vals1 r
 cases c
 obtain⟨i,e,f,_⟩:=I.tuple hl
 have a:H s.heap.objs.size=none:=I.hok.fresh (ah _)
 refine Ws.lJ (I.ok.hd b) f (by simpa using Mz e) (by unfold scanBound;omega) λj d g k=>?_
 exact⟨.ref s.heap.objs.size,_,I.laid (t':=d) k (ah _) (WT g),rfl,q _ a⟩
theorem Mr:FW X (.builtin "len") (λxs H Q=>∃ (a:Addr) (τ:List Str),xs=[V.ref a]/\H a=some (O_ X.prog X.w a τ)/\Q (.int (τ.length:Nat)) H):=by
 intro n s σ H xs k Q I r h
 obtain⟨a,τ,rfl,c,q⟩:=h
 obtain⟨u,rfl,d⟩:=vals1 r
 cases d
 obtain⟨⟨g,l,t,f,o,j,i,p,b,e,m⟩,_,_⟩:=(show CQ X.prog X.w H s.heap a (O_ X.prog X.w a τ) from I.hok a _ c)
 unfold scanBound at b
 refine call_len_set f ⟨rfl,rfl,rfl⟩ rfl e (by omega) ⟨.int ((g.size:Nat):Int),H,I.tok _,⟨_,rfl⟩,?_⟩
 rw[i]
 exact q
theorem M6:∀ (ts τ:List Str),(τ++ts).Nodup->(ts.foldl Ws.Gm τ)=τ++ts
 | [],τ,_=>(dS _).symm
 | t::ts,τ,h=>by
  have a:t ∉ τ:=λz=>by
   rw[hV] at h
   exact h.2.2 t z t (ce ..) rfl
  rw[List.foldl_cons]
  have e:Ws.Gm τ t=τ++[t]:=by unfold Ws.Gm;rw[if_neg a]
  rw[e,M6 ts (τ++[t]) (by rw[gc];exact h),gc]
  rfl
end L2
namespace Og
open PySem L2
theorem aO {K:W.Frag} {f:Str} (b:X.K=K) (c:PE X e ta) (a:attributeBase e f X.env (eval e X.env)=eval e X.env):PE X (.Attribute e f pos) (lN K ta f):=by
 rw[<-b]
 exact Bc c a
structure d8 (K:W.Frag) (aM:Addr) (ρ:V->R) (vs:List V) (r:R):Prop where
 w:r.w = "step"
 ts:∃ ts:List Str,V.str r.nm::r.rest=ts.map V.str/\ts.Nodup/\ts.length<=24/\∀ t∈ts,isNm t/\YX ρ vs "stop" t=true
 room:∃ (m:Int) (t:Tok),W.nsIn K aM r.w=some (some (.int m t))/\(((vs.filter (pw ρ r.w)).length:Nat):Int)<m
abbrev Hg (K:W.Frag) (aB aP aM:Addr) (ρ:V->R) (vs:List V) (r:R):Prop:=J4 K aB aP aM ρ vs r \/ d8 K aM ρ vs r
theorem Hg.room {K:W.Frag} (h:Hg K aB aP aM ρ vs r):W.nsIn K aM r.w=some none \/ ∃ (m:Int) (t:Tok),W.nsIn K aM r.w=some (some (.int m t))/\(((vs.filter (pw ρ r.w)).length:Nat):Int)<m :=
 h.elim (λh=>h.room.elim (λz=>.inl z.2) .inr) (λh=>.inr h.room)
def N6 (r:R):List Str:=(V.str r.nm::r.rest).map λv=>match v with | .str t=>t | _=>""
theorem J7 {a:List Str} (h:V.str r.nm::r.rest=a.map V.str):N6 r=a:=by
 unfold N6
 rw[h,ax]
 exact iO a
def stN (ks:List R) (r:R):Nat:=Wd.mk ((N6 r).map λt=>(ks.map (·.nm)).idxOf t)
structure tW (K:W.Frag) (aB aP aM:Addr) (ρ:V->R) (us:List V) (bs:List (Str × Nat)) (rk:List (Str × Nat × Int)) (ks:List R):Prop where
 eb:(us.filter (pw ρ "board")).map ρ=bs.map Es
 er:(us.filter (pw ρ "rank")).map ρ=rk.map Fv
 ek:(us.filter (λv=>G3 (ρ v).w)).map ρ=ks
 ln:∀ (i:Nat) v,us[i]? = some v->(ρ v).w = "line"->(∃ (j:Nat) (r:Str × Nat × Int) (sh lo hi:Int),rk[j]? = some r/\r.1=(ρ v).nm/\(ρ v).rest=[.int sh,.int lo,.int hi])/\∃ u∈us.take i,G3 (ρ u).w=true
 st:∀ v∈us,(ρ v).w = "step"->∃ ts:List Str,V.str (ρ v).nm::(ρ v).rest=ts.map V.str/\ts.length<=24/\∀ t∈ts,t∈ks.map (·.nm)
 b0:1<=bs.length
 b5:bs.length<=5
 sz:∀ b∈bs,b.2<=61
 nr:rk.length<=12
 nz:∀ r∈rk,r.2.1<=97
 nk:ks.length<=100
 nb:(bs.map (·.1)).Nodup
 nrr:(rk.map (·.1)).Nodup
 nn:(ks.map (·.nm)).Nodup
 len:us.length<=150
 ok:∀ (i:Nat) v,us[i]? = some v->Hg K aB aP aM ρ (us.take i) (ρ v)
inductive lF (C:Addr) (H:Hp) (x:Addr) (us:List V) (bs:List (Str × Nat)) (rk:List (Str × Nat × Int)) (ks:List R) (ls:List (List Ln)) (sts:List Nat):Prop
 | mk (dx:Addr) (fs:List (Str × V)) (rl kd ss:Addr) (kvs:List (Key × V)) (q1:H x=some (.ins C dx fs)) (q2:fs.lookup ("row_list" : Str)=some (.ref rl)) (q3:fs.lookup ("knob_numbers" : Str)=some (.ref kd)) (q4:fs.lookup ("step_sets" : Str)=some (.ref ss)) (q5:H rl=some (.lst us)) (q6:H kd=some (.dK kvs)) (q7:(∀ (i:Nat) t,(ks.map (·.nm))[i]? = some t->CP kvs (Sum.inr t)=some (.int (i:Nat)))) (q8:(∀ t,t ∉ ks.map (·.nm)->CP kvs (Sum.inr t)=none)) (q9:H ss=some (.lst (sts.map λn:Nat=>V.int (n:Int)))) (bn:Addr) (kb:List (Key × V)):fs.lookup ("board_numbers" : Str)=some (.ref bn)->H bn=some (.dK kb)->(∀ t,t ∉ bs.map (·.1)->CP kb (Sum.inr t)=none)->lF C H x us bs rk ks ls sts
structure Iv (C:Addr) (H:Hp) (x:Addr) (us:List V) (bs:List (Str × Nat)) (rk:List (Str × Nat × Int)) (ks:List R) (ls:List (List Ln)) (sts:List Nat):Prop where
 o:En C H x bs rk ks ls
 m:lF C H x us bs rk ks ls sts
theorem Iv.mono {x:Addr} {bs:List (Str × Nat)} {rk:List (Str × Nat × Int)} (s:Am H H') (h:Iv C H x us bs rk ks ls sts):Iv C H' x us bs rk ks ls sts:=by
 obtain⟨o,m,fs,i,q,k,a,t,f,j,n,p,u,r,l,e,c,v,d,b,g⟩:=h
 exact⟨o.mono s,m,fs,i,q,k,a,s _ _ t,f,j,n,s _ _ p,s _ _ u,r,l,s _ _ e,c,v,d,s _ _ b,g⟩
inductive Ef (p:Addr) (H:Hp) (D:Addr) (ls:List (List Ln)):Prop
 | mk (lv:_):H D=some (.lst lv)->D ≠ p->Paired (λl v=>HD H l v/\v ≠ .ref p) ls lv->Ef p H D ls
theorem Ef.mono {p:Addr} (s:Am H H') (h:Ef p H D ls):Ef p H' D ls:=by
 obtain⟨b,c,a,d⟩:=h
 exact⟨b,s _ _ c,a,Paired.Ku d λ_ _ q=>⟨q.1.mono s,q.2⟩⟩
theorem Ef.sx {p x:Addr} {fs:List (Str × V)} (h:Ef p H D ls) (s:SX x H H') (a:H x=some (.ins C dx fs)):Ef p H' D ls:=by
 obtain⟨f,g,d,j⟩:=h
 refine⟨f,s.lst a g,d,Paired.Ku j λ_ _ q=>⟨?_,q.2⟩⟩
 obtain⟨A,c,e,i,b⟩:=q.1
 exact⟨A,c,e,s.lst a i,s.pair a b⟩
theorem XH {p:Addr} {a:List V} {y:V} (s:SX p H H') (b:H p=some (.lst us)) (h:TupAt H a y):TupAt H' a y:=by
 obtain⟨T,rfl,e⟩:=h
 exact⟨T,rfl,s _ _ e λz=>by rw[z,b] at e;cases e⟩
theorem Jd {α:Type} {f:α->List V} {p:Addr} {l:List α} (s:SX p H H') (b:H p=some (.lst us)) (h:Paired (λa y=>TupAt H (f a) y) l vs):Paired (λa y=>TupAt H' (f a) y) l vs:=Paired.Ku h λ_ _ q=>XH s b q
theorem Tr {p:Addr} (s:SX p H H') (b:H p=some (.lst us)) (h:H a=some (.dK kvs)):H' a=some (.dK kvs):=s _ _ h λz=>by rw[z,b] at h;cases h
theorem Ef.sp {p:Addr} (h:Ef p H D ls) (s:SX p H H') (d:H p=some (.lst us)):Ie H' D ls:=by
 obtain⟨f,g,e,i⟩:=h
 refine⟨f,s _ _ g e,Paired.Ku i λ_ v q=>?_⟩
 obtain⟨⟨A,c,rfl,j,a⟩,b⟩:=q
 exact⟨A,c,rfl,s _ _ j (λz=>b (by rw[z])),Jd s d a⟩
end Og
namespace L2
open PySem PySem.Spec PyProof.Rows
open PySem PySem.Spec PySem.Calls PyProof.Rows
inductive aW (h:Heap) (x T C:Addr) (od:Option Addr) (fl:Value):Prop
 | mk (vs ts:Array Value) (sl:Array (Option Value:_)) (oT:Obj):h.get? x=some ⟨.ref C,od,.fields vs,sl⟩->vs[1]? = some (.ref T)->T ≠ x->h.get? T=some oT->oT.data=.fields ts->ts[3]? = some fl->aW h x T C od fl
structure Mv (fs:List Addr) (x T:Addr) (h h':Heap):Prop where
 keep:∀ b o,h.get? b=some o->b ≠ x->b ≠ T->b ∉ fs->h'.get? b=some o
 any:∀ b o,h.get? b=some o->b ≠ x->b ≠ T->∃ sl,h'.get? b=some { o with slots:=sl }
section
variable {M:Model} {env:Env} {outer:List Env} {L x T:Addr} {od:Option Addr} {Q:Unit->Shared->Prop}
theorem K8 {vs:Array Value} {j:Array (Option Value)} {head:Value} {F:Bool} (n:A.frames=some (env::outer)) (hl:s.heap.FunFrames base (env::outer)) (y:env.frame=some L)
  (u:s.heap.get? x=some ⟨.ref C,od,.fields vs,j⟩) (hsz:1<vs.size)
  (h:∀ h' T',aW h' x T' C od (rawInt L)->Mv (frs (env::outer)) x x s.heap h'->s.heap.get? T'=none->Q () { s with heap:=h' }) :
  wpAny M A (do let a <-frameOf env;let pl <-entryPlaceOf L F;let b <-EntryCells.newEntry head a .none (rawInt L) .none pl;setField (.ref x) 1 b) Q E s:=by
 have d:x ∉ (env::outer).filterMap (·.frame):=λz=>by
  obtain⟨_,o,k,B⟩:=hl.mem z
  rw[u] at k;injection k with k;subst k;exact B vs rfl
 refine wpAny_bind (wpAny_frameOf_fun n hl y λc i=>?_)
 refine wpAny_bind (wpAny_entryPlaceOf λpl e=>?_)
 unfold EntryCells.newEntry newFields
 refine wpAny_bind (wpAny_newObj_type ?_ (e.sizeOk5 _ _ _ _ _))
 have g:c.get? x=some ⟨.ref C,od,.fields vs,j⟩:=(i.2.1 x d).trans u
 have t:=Heap.get?_push_of_some (h:=c) { cls:=.type "traceback",dict:=none,data:=.fields ([head,.ref L,.none,rawInt L,.none]++(if pl.isEmpty then List.replicate 6 Value.none else pl)).toArray } g
 refine wpAny_setField t rfl hsz ?_
 have f:c.objs.size ≠ x:=gX (Heap.lt_size g)
 have r:=Obj.data_mapFields (o:=⟨.ref C,od,.fields vs,j⟩) rfl (·.setIfInBounds 1 (Value.ref c.objs.size))
 have l:=Heap.get?_update_self (Obj.mapFields (·.setIfInBounds 1 (Value.ref c.objs.size))) t (Obj.isFreed_of_fields r)
 have m:=(Heap.get?_update_other (c.push { cls:=.type "traceback",dict:=none,data:=.fields ([head,.ref L,.none,rawInt L,.none]++(if pl.isEmpty then List.replicate 6 Value.none else pl)).toArray })
  (Obj.mapFields (·.setIfInBounds 1 (Value.ref c.objs.size))) (Ne.symm f)).trans (Heap.get?_push_size c rfl)
 refine h _ c.objs.size ⟨_,_,j,_,l,by simp[hsz],f,m,rfl,by first | (simp;done) | (rcases e with rfl | ⟨_,_,_,_,_,_,_,rfl⟩ <;> simp)⟩ ⟨λb o q p _ v=>?_,λb o q p _=>?_⟩ ?_
 ·rw[Heap.get?_update_other _ _ (Ne.symm p)]
  exact Heap.get?_push_of_some _ ((i.2.1 b v).trans q)
 ·obtain⟨D,w⟩:=i.2.2 b o q
  rw[Heap.get?_update_other _ _ (Ne.symm p)]
  exact⟨D,Heap.get?_push_of_some _ w⟩
 ·refine Heap.get?_none_of_le ?_
  rw[i.1]
  exact ah _
theorem Q3 {vs:Array Value} {e:Array (Option Value)} (a:A.frames=some (env::outer)) (hl:s.heap.FunFrames base (env::outer)) (b:env.frame=some L)
  (d:s.heap.get? x=some ⟨.ref C,od,.fields vs,e⟩) (c:vs[1]? = some .none)
  (h:∀ h' T',aW h' x T' C od (rawInt L)->Mv (frs (env::outer)) x x s.heap h'->s.heap.get? T'=none->Q () { s with heap:=h' }):wpAny M A (noteFrame (.ref x) env) Q E s:=by
 unfold noteFrame
 simp only[b]
 refine wpAny_bind (wpAny_field d rfl c ?_)
 rw[if_neg (by decide)]
 exact K8 a hl b d (Array.getElem?_eq_some_iff.mp c).1 h
theorem Sv (j:A.frames=some (env::outer)) (hl:s.heap.FunFrames base (env::outer)) (u:env.frame=some L) (G:aW s.heap x T C od .none)
  (h:∀ h' T',aW h' x T' C od (rawInt L)->Mv (frs (env::outer)) x T s.heap h'->s.heap.get? T'=none->Q () { s with heap:=h' }):wpAny M A (noteFrame (.ref x) env) Q E s:=by
 obtain⟨v,H,J,K,D,w,p,g,i,B⟩:=G
 have f:=(Array.getElem?_eq_some_iff.mp B).1
 unfold noteFrame
 simp only[u]
 refine wpAny_bind (wpAny_field D rfl w ?_)
 rw[if_pos (show (Value.ref T != Value.none)=true from by simp)]
 refine wpAny_bind (wpAny_field g i B ?_)
 rw[if_neg (show ¬ ((Value.none == rawInt L)=true) from by simp[rawInt])]
 refine wpAny_bind (wpAny_setField g i f ?_)
 have a:∀ b,b ≠ T->(s.heap.update T (Obj.mapFields (·.setIfInBounds 3 Value.none))).get? b=s.heap.get? b:=λb c=>Heap.get?_update_other _ _ (Ne.symm c)
 have l:=Heap.get?_update_self (Obj.mapFields (·.setIfInBounds 3 Value.none)) g (Obj.isFreed_of_fields (Obj.data_mapFields i _))
 have d:∀ b o,s.heap.get? b=some o->(∀ v,o.data ≠ .fields v)->b ≠ T:=λb o c r q=>by
  rw[q,g] at c;injection c with c;subst c;exact r H i
 refine K8 (s:={ s with heap:=s.heap.update T (Obj.mapFields (·.setIfInBounds 3 Value.none)) }) j (hl.of_keeps λb o c r=>⟨o,(a b (d b o c r)).trans c,rfl⟩) u ((a x (Ne.symm p)).trans D) (Array.getElem?_eq_some_iff.mp w).1 λh' T' y m n=>?_
 have I:T' ≠ T:=λz=>by
  subst z
  have t:(s.heap.update T' (Obj.mapFields (·.setIfInBounds 3 Value.none))).get? T'=none:=n
  rw[l] at t;cases t
 exact h h' T' y ⟨λb o c e k F=>m.keep b o ((a b k).trans c) e e F,λb o c e k=>m.any b o ((a b k).trans c) e e⟩ ((a T' I).symm.trans n)
theorem GX {m:Value} (p:aW s.heap x T C od m) (h:∀ h',aW h' x T C od .none->Mv [] x T s.heap h'->Q () { s with heap:=h' }):wpAny M A (setFlight (.ref x) none) Q E s:=by
 obtain⟨r,q,n,u,l,k,e,j,i,t⟩:=p
 have c:3<q.size:=(Array.getElem?_eq_some_iff.mp t).1
 have a:∀ b,b ≠ T->(s.heap.update T (Obj.mapFields (·.setIfInBounds 3 ((none:Option Addr).elim Value.none λf=>rawInt f)))).get? b=s.heap.get? b :=
  λb d=>Heap.get?_update_other _ _ (Ne.symm d)
 unfold setFlight
 refine wpAny_bind (wpAny_field l rfl k ?_)
 rw[if_pos (show (Value.ref T != Value.none)=true from by simp)]
 refine wpAny_setField j i c (h _ ?_ ⟨λb o d _ g _=>(a b g).trans d,λb o d _ g=>⟨o.slots,(a b g).trans d⟩⟩)
 exact⟨r,_,n,_,(a x (Ne.symm e)).trans l,k,e,Heap.get?_update_self _ j (Obj.isFreed_of_fields (Obj.data_mapFields i _)),Obj.data_mapFields i _,by simp[c]⟩
end
section
variable {w:World} {fs:List Addr} {h1 h2 h3:Heap} {x T T':Addr}
theorem Xp {o:Obj} (e:h.get? b=some o) (n:h.get? y=none):b ≠ y:=λz=>by
 rw[z,n] at e
 cases e
theorem GK.mv (k:GK P w H h) (m:Mv fs x T h h1) (g:H x=none) (i:H T=none) (l:∀ b∈fs,H b=none):GK P w H h1:=λb u e=>by
 have ne:∀ c,H c ≠ none->c ≠ x/\c ≠ T/\c ∉ fs:=λc q=>⟨λz=>q (z ▸ g),λz=>q (z ▸ i),λz=>q (l c z)⟩
 refine (k b u e).stay (λc v f q=>?_) (λ_ q=>q) λ_ _ q=>q
 have d:H c ≠ none:=by
  rcases f with z | z
  ·rw[z,e];simp
  ·rw[z];simp
 obtain⟨j,a,n⟩:=ne c d
 exact m.keep c v q j a n
theorem Un.mv {g:List Addr} (u:Un g [] H H' h h1) (m:Mv fs x T h1 h2) (k:h.get? x=none) (l:h.get? T=none) (q:∀ b∈fs,b ∉ g->h.get? b=none):Un g [] H H' h h2:=by
 have ne:∀ b o,h.get? b=some o->b ≠ x/\b ≠ T:=λb o e=>⟨Xp e k,Xp e l⟩
 refine⟨λb o e n f a=>?_,λb o e n f a=>?_,u.free,λb o e a=>?_,u.tups,u.frzs,u.tbls⟩
 ·obtain⟨c,d⟩:=ne b o e
  refine m.keep b o (u.keep b o e n f a) c d λz=>?_
  have:=q b z f
  rw[e] at this;cases this
 ·obtain⟨c,d⟩:=ne b o e
  obtain⟨p,i⟩:=u.slot b o e n f a
  obtain⟨r,j⟩:=m.any b _ i c d
  exact⟨r,j⟩
 ·obtain⟨c,d⟩:=ne b o e
  obtain⟨s,i⟩:=u.there b o e a
  obtain⟨p,j⟩:=m.any b s i c d
  exact⟨_,j⟩
end
def Fy (P:Program) (w:World):QZ:=λouter H s E e s'=>∃ (x T C:Addr) (od:Option Addr) (H':Hp),e=.ref x/\s'.os=s.os/\AllBare s'.gens/\aW s'.heap x T C od .none/\s.heap.get? x=none/\s.heap.get? T=none /\
 H' x=none/\H' T=none/\GK P w H' s'.heap/\Un (frs outer) [] H H' s.heap s'.heap/\E (.ref C) od H'
def pZ (X:Cx) (C:Addr) (E:XK):Prop:=∀ (a8:List (Addr × Obj)) (σ:St) (H:Hp) (s:Shared) (h':Heap) (x:Addr) (as:List Value),Inv X a8 σ H s->Heap.MadeExcOf s.heap h' x (.ref C) as->E (.ref C) none H->X.xe (.ref x) { s with heap:=h' }
theorem HJ {w:World} {K:W.Frag} {N:List Str} {i:Value} {a:List Env} {E:XK} :
  pZ (KR (Fy P w) P w K mg base N qual scope f i A a s H E) C E:=by
 intro a8 σ d j B x as I g q
 obtain⟨t,Z,Y,ht⟩:=g.there
 have c:∀ b,j.heap.get? b=none->s.heap.get? b=none:=λb e=>by
  cases z:s.heap.get? b with
  | none=>rfl
  | some o =>
   obtain⟨o',Q⟩:=I.base.there b o z (by show b ∉ ([]:List Addr);simp)
   rw[e] at Q;cases Q
 have h:d x=none:=I.hok.none_of g.new
 have frees:∀ b∈frs (envOfC qual scope s.heap.objs.size f i::a),d b=none:=I.Il
 have D:(A.deeper (envOfC qual scope s.heap.objs.size f i)).frames=some (envOfC qual scope s.heap.objs.size f i::a):=I.ok.frames
 have J:j.heap.FunFrames base (envOfC qual scope s.heap.objs.size f i::a):=I.stack
 have u0:Un (frs a) [] H d s.heap j.heap:=I.base
 have k:GK P w d j.heap:=I.hok
 have G:∀ b∈frs (envOfC qual scope s.heap.objs.size f i::a),b ∉ frs a->s.heap.get? b=none:=λb F U=>by
  rcases List.mem_cons.mp (show b∈s.heap.objs.size::frs a from F) with z | z
  ·rw[z];exact Heap.get?_none_of_le (ah _)
  ·exact absurd z U
 show wpAny (model P w) (A.deeper (envOfC qual scope s.heap.objs.size f i)) (leaving (envOfC qual scope s.heap.objs.size f i) (.ref x)) _ _ _
 unfold leaving
 refine wpAny_bind (Q3 (s:={ j with heap:=B }) (L:=s.heap.objs.size) D (J.of_keeps λb o F _=>⟨o,g.keeps b o F,rfl⟩) rfl Z rfl λM T y m n=>?_)
 refine GX (s:={ j with heap:=M }) y λR y3 S=>?_
 have l:j.heap.get? T=none:=by
  cases z:j.heap.get? T with
  | none=>rfl
  | some o =>
   have O:B.get? T=none:=n
   rw[g.keeps T o z] at O;cases O
 have u:d T=none:=k.none_of l
 have r:GK P w d B:=k.kept g.keeps
 have v:GK P w d M:=r.mv m h h frees
 have p:GK P w d R:=v.mv S h u (λ_ z=>nomatch z)
 have uA:Un (frs a) [] H d s.heap B:=u0.trans (Un.kept g.keeps)
 have X:Un (frs a) [] H d s.heap M:=uA.mv m (c x g.new) (c x g.new) G
 have V:Un (frs a) [] H d s.heap R:=X.mv S (c x g.new) (c T l) (λ_ z=>nomatch z)
 exact⟨x,T,C,none,d,rfl,I.os,I.bare,y3,c x g.new,c T l,h,u,p,V,q⟩
section
variable {t:TA} {np f':Pos} {E:XK}
def fQ (C:Addr) (E:XK) (t:TA):TS:=λ_ σ H=>t σ H λvs H1=>vs.length<=1000/\E (.ref C) none H1
theorem GF (q:W.excIn X.K C Q4 "ValueError.__new__" = true) (F:Gl X x) (p:X.mg x=some (.ref C)) (w:X.calm=true) (hl:pZ X C E) (j:PA X (e::es) t)
  (u:(x == ("__debug__" : Str))=false:=by decide) (g:starEach (e::es) X.env=(false,eval e X.env)::starEach es X.env:=by rfl) (c:(backTo f' (starEach es X.env)).any (·.1)=false:=by rfl) :
  PS X (.Raise (some (.Call (.Name x np) (e::es) [] f')) none pos) (fQ C E t):=by
 intro f s σ H D I h
 obtain⟨bm,N,nm,m,bs,hdct,sn,sub,ab,col,dd,k0,k1,k2,k3,k5,mN,v,n,o,d⟩:=Ru I.ok.mod.kin q
 have a:(backTo f' (starEach (e::es) X.env)).any (·.1)=false:=by
  rw[g]
  show (false || (backTo f' (starEach es X.env)).any (·.1))=false
  rw[c];rfl
 refine wpAny_Raise_call_subU (nm:=nm) (q:=m) (C:=C) (N:=N) (bs:=bs) (bm:=bm) (hdct:=hdct) (sn:=sn) (sub:=sub) (ab:=ab) (col:=col) (dd:=dd) (k0:=k0) (k1:=k1) (k2:=k2) (k3:=k3) (k5:=k5) (mN:=mN)
  PySem.F.excBase_ValueError (by decide) PySem.F.excBase_ValueError (d.hasType (by decide)) (I.ok.hd w) a o (Jy I F p ⟨rfl,?_⟩ u)
 have:=j f' f s σ H _ I h
 rw[g] at this |-
 refine Calls.evalArgs_plain (CK this λz y ⟨G,A,b,r,l,B⟩=>⟨rfl,?_,b.bk _ _ v,n.keeps b.bk,d.keeps b.bk,λi x k=>?_⟩)
 ·show z.length<=sizeLine
  rw[<-r.length]
  exact fA (BJ l)
 ·exact hl f σ A y i x _ b k B
end
theorem Pj {w:World} {K:W.Frag} {x O:Addr} {o:Option Addr} {d:Data} {k:Array (Option Value)} {b:Bool} {Q:Bool->Shared->Prop}
  (X:K.In s.heap) (n:s.heap.get? x=some ⟨.ref C,o,d,k⟩) (q:W.excIn K O Q4 "ValueError.__new__" = true) (m:W.mroIn K C (.ref O)=some b) (h:Q b s):wpAny (model prog w) A (excMatches (.ref x) (.ref O)) Q E s:=by
 obtain⟨e,N,P,u,bs,i,t,sub,D,p,G,z,R,J,r,H,y,j,B,F,l⟩:=Ru X q
 have a:e.contains (.type "BaseException")=true:=l.hasType (by decide)
 have c:(Value.ref O::e).contains (.type "BaseException")=true:=by rw[List.contains_cons,a,Bool.or_true]
 have L:=W.looks_mroIn (M:=model prog w) X m
 have f:=tc_notTuple
 obtain⟨I,g,S,v,os⟩:=s
 unfold excMatches
 repeat (first | with_reducible refine wpAny_loadPart_at n ?_ | with_reducible refine wpAny_loadPart_at j ?_ | (with_reducible refine wpAny_isSubtype_exc j ?_;rw[c]) | with_reducible refine L.at ?_ | wp_step)
 cases b <;> (wp_walk;exact h)
abbrev Cx.inX (X:Cx) (x:Addr):Cx:={ X with A:=X.A.mark (some (.ref x)),calm:=false }
theorem Inv.inX (I:Inv X a8 σ H s) (x:Addr):Inv (X.inX x) a8 σ H s :=
 ⟨⟨I.ok.mod,I.ok.kind,I.ok.glob,I.ok.blt,I.ok.above,I.ok.inj,I.ok.has,I.ok.cab,(λz=>nomatch z),I.ok.frames,I.ok.stk,I.ok.exf,I.ok.bs,I.ok.bsz,I.ok.noex,I.ok.exfs,I.ok.J3,I.ok.frf⟩,
  I.os,I.bare,I.base,I.loc,I.cell,I.free,I.freeC,I.pin,I.hok,I.len⟩
theorem Inv.Zk {x:Addr} (ok:X.Ok) (I:Inv (X.inX x) a8 σ H s):Inv X a8 σ H s:=⟨ok,I.os,I.bare,I.base,I.loc,I.cell,I.free,I.freeC,I.pin,I.hok,I.len⟩
def Ends.drop (D:Ends) (i:Nat):Ends:={ nx:=λσ H=>D.nx (σ.set i none) H,rt:=D.rt,bk:=λσ H=>D.bk (σ.set i none) H,ct:=λσ H=>D.ct (σ.set i none) H }
section
variable {k:Nat} {O:Addr} {sp:Sp} {dvs:List V} {ds:List Value} {fx cn n:Str} {np f' NE vt:Pos} {t:TA} {b0:Stmt} {oI:List Stmt} {ts:TS}
end
structure nu (k:Nat) (A:Around):Prop where
 dp:A.depth+3 * k+5<recursionLimit
 un:A.units+16 * k+200<cLine
structure zV (P:Program) (w:World) (K:W.Frag) (mg:Str->Option Value) (base:Heap) (CX:QZ) (k:Nat) (f:Addr) (fd:FuncData) (ps:List Str) (sp:Sp):Prop where
 len:∀ vs H Q E,sp vs H Q E->vs.length=ps.length
 run:∀ (A:Around) (outer:List Env) (s:Shared) (H:Hp) (args:Args) (us:List Value) (vs:List V) (Q:VK) (E:XK),nu k A->Pq P w K mg base A outer s H->BindsTo s fd args (ps.zip us)->Vals vs us->sp vs H Q E ->
  codeAny (model P w) A (.call (.ref f) args) (CR CX outer P w H s Q E) s
section
variable {w:World} {K:W.Frag}
theorem Ce.yx {N:List Str} {k:Nat} {sp:Sp} (F:Ce K x qual st f fd) (S:Av N ps (Ae st)) (len:∀ vs H Q E,sp vs H Q E->vs.length=ps.length)
  (g:∀ (b:Value) (A:Around) (a:List Env) (s:Shared) (H:Hp) (vs:List V) (Q:VK) (E:XK),Az k (A.deeper (envOfC qual (Ae st) s.heap.objs.size f b))->sp vs H Q E ->
   ∃ t,Ni (KR (Fy P w) P w K mg base N qual (Ae st) f b A a s H E) (CV st) t/\t { nx:=λ_ H'=>Q .non H',rt:=Q } (start N vs) H):Ao P w K mg base (Fy P w) (k+1) f fd ps sp:=by
 obtain⟨n,r,kV,l,j,o,b,m,p,rfl,c,i⟩:=F.ex
 refine Xn c i S len λA a s H vs Q E e d=>?_
 obtain⟨t,h,q⟩:=g b A a s H vs Q E e d
 exact⟨t,h,q⟩
theorem Ce.Jr {N:List Str} {k:Nat} {sp:Sp} (F:Ce K x qual st f fd) (S:Av N ps (Ae st))
  (c:∀ {b:Value} {A:Around} {a:List Env} {s:Shared} (H:Hp) (vs:List V) (Q:VK) (E:XK),Az k (A.deeper (envOfC qual (Ae st) s.heap.objs.size f b))->sp vs H Q E ->
   ∃ t,Ni (KR (Fy P w) P w K mg base N qual (Ae st) f b A a s H E) (CV st) t/\t { nx:=λ_ H'=>Q .non H',rt:=Q } (start N vs) H)
  (len:∀ vs H Q E,sp vs H Q E->vs.length=ps.length:=by intro _ _ _ _ h;cases h;subst_vars;rfl):Ao P w K mg base (Fy P w) (k+1) f fd ps sp:=F.yx S len λ_ _ _ _ H vs Q E=>c H vs Q E
end
section
variable {CX:QZ} {k:Nat} {sp:Sp} {dvs:List V} {ds:List Value} {E:XK} {t:TA}
end
theorem Un.yR {fs g:List Addr} {k j:Heap} (a:Un fs [] H H1 h k) (b:Un g [] H1 H2 k j) (s:∀ x∈g,x∈fs \/ h.get? x=none):Un fs [] H H2 h j where
 keep:=λc o q n f d=>by
  have t:c ∉ g:=λz=>by
   rcases s c z with e | e
   ·exact f e
   ·rw[q] at e;cases e
  exact b.keep c o (a.keep c o q n f d) (a.free c o q n d) t d
 slot:=λc o q n f d=>by
  obtain⟨B,e⟩:=a.slot c o q n f d
  obtain⟨y,r⟩:=b.any e (a.free c o q n d) d
  exact⟨y,r⟩
 free:=λc o q n d=>by
  obtain⟨i,e⟩:=a.there c o q d
  exact b.free c i e (a.free c o q n d) d
 there:=λc o q d=>by
  obtain⟨i,e⟩:=a.there c o q d
  exact b.there c i e d
 tups:=λc l q=>b.tups c l (a.tups c l q)
 frzs:=λc o u q=>b.frzs c o u (a.frzs c o u q)
 tbls:=λc m q=>by
  obtain⟨p,v⟩:=a.tbls c m q
  obtain⟨w,A⟩:=b.tbls c _ v
  exact⟨p++w,by rw[A,Array.append_assoc]⟩
theorem Df {w:World} {K:W.Frag} {N:List Str} {d:Value} {a:List Env} {E:XK} :
  Gh (Fy P w) (KR (Fy P w) P w K mg base N qual scope f d A a s H E) E:=by
 rintro a8 σ Y j e s' I ⟨x,T,C,od,i,rfl,os,h,y,B,nT,M,oq,G,Z,q⟩
 have c:∀ b,j.heap.get? b=none->s.heap.get? b=none:=λb e=>by
  cases z:s.heap.get? b with
  | none=>rfl
  | some o =>
   obtain⟨o',l⟩:=I.base.there b o z (by show b ∉ ([]:List Addr);simp)
   rw[e] at l;cases l
 have v:j.os=s.os:=I.os
 obtain⟨k,g,O,t,BG⟩:=s'
 obtain rfl:BG=j.os:=os
 have U:=I.call (h':=k) (g':=g) (d':=O) (t':=t) (ch:=[]) Z G h (λb z=>absurd z (by simp))
 have r:(A.deeper (envOfC qual scope s.heap.objs.size f d)).frames=some (envOfC qual scope s.heap.objs.size f d::a):=I.ok.frames
 have J:k.FunFrames base (envOfC qual scope s.heap.objs.size f d::a):=U.stack
 have frees:∀ b∈frs (envOfC qual scope s.heap.objs.size f d::a),i b=none:=U.Il
 have m:∀ b∈frs (envOfC qual scope s.heap.objs.size f d::a),b∈frs a \/ s.heap.get? b=none:=λb u=>by
  rcases List.mem_cons.mp (show b∈s.heap.objs.size::frs a from u) with z | z
  ·rw[z];exact .inr (Heap.get?_none_of_le (ah _))
  ·exact .inl z
 have u0:Un (frs a) [] H Y s.heap j.heap:=I.base
 have X:Un (frs a) [] H i s.heap k:=u0.yR (show Un (frs (envOfC qual scope s.heap.objs.size f d::a)) [] Y i j.heap k from Z) m
 show wpAny (model P w) (A.deeper (envOfC qual scope s.heap.objs.size f d)) (leaving (envOfC qual scope s.heap.objs.size f d) (.ref x)) _ _ _
 unfold leaving
 refine wpAny_bind (Sv (s:=⟨k,g,O,t,j.os⟩) (L:=s.heap.objs.size) r J rfl y λR T3 y3 V Q=>?_)
 refine GX (s:=⟨R,g,O,t,j.os⟩) y3 λh4 y4 S=>?_
 have n:s.heap.get? T3=none:=by
  cases z:s.heap.get? T3 with
  | none=>rfl
  | some o =>
   obtain⟨o',l⟩:=X.there T3 o z (by simp)
   have D:k.get? T3=none:=Q
   rw[D] at l;cases l
 have p:i T3=none:=G.none_of Q
 have F:∀ b∈frs (envOfC qual scope s.heap.objs.size f d::a),b ∉ frs a->s.heap.get? b=none:=λb u hn=>(m b u).resolve_left hn
 have u3:=X.mv V (c x B) (c T nT) F
 have u4:=u3.mv S (c x B) n (λ_ z=>nomatch z)
 have k3:GK P w i R:=GK.mv (P:=P) (w:=w) G V M oq frees
 have k4:GK P w i h4:=k3.mv S M p (λ_ z=>nomatch z)
 exact⟨x,T3,C,od,i,rfl,v,h,y4,c x B,n,M,p,k4,u4,q⟩
section
variable {o i value:Expr} {td ty tv:TE} {ll:Pos}
end
section
variable {k:Nat} {O:Addr} {sp:Sp} {dvs:List V} {ds:List Value} {fx cn n:Str} {np f' NE vt:Pos} {t:TA} {b0:Stmt} {oI:List Stmt} {ts:TS}
end
abbrev XR:=Value->Option Addr->St->Hp->Prop
inductive XT (X:Cx) (a8:List (Addr × Obj)) (ER:XR) (e:Value) (s':Shared):Prop
 | mk (σ H1 s1:_):Inv X a8 σ H1 s1->Fy X.prog X.w X.stack H1 s1 (λC od H2=>ER C od σ H2) e s'->XT X a8 ER e s'
def tR (X:Cx) (ER:XR) (st:Stmt) (t:TS):Prop :=
 ∀ (a8:List (Addr × Obj)) (s:Shared) (σ:St) (H:Hp) (D:Ends),Inv X a8 σ H s->t D σ H->wpAny (model X.prog X.w) X.A (exec st X.env) (SP X a8 D) (XT X a8 ER) s
def WK (X:Cx) (ER:XR) (st:List Stmt) (t:TS):Prop :=
 ∀ (a8:List (Addr × Obj)) (s:Shared) (σ:St) (H:Hp) (D:Ends),Inv X a8 σ H s->t D σ H->wpAny (model X.prog X.w) X.A (execs st X.env) (SP X a8 D) (XT X a8 ER) s
def PET (X:Cx) (ER:XR) (e:Expr) (t:TE):Prop :=
 ∀ (a8:List (Addr × Obj)) (s:Shared) (σ:St) (H:Hp) (Q:VK),Inv X a8 σ H s->t σ H Q->wpAny (model X.prog X.w) X.A (eval e X.env) (EP X a8 σ Q) (XT X a8 ER) s
section
variable {ER:XR} {sts:List Stmt} {t u:TS}
theorem WL (h:Ni X sts t) (a:X.xe=λ_ _=>False):WK X ER sts t:=λb s σ H D I q =>
 wpAny_mono (h b s σ H D I q) (λ_ _ z=>z) λe c z=>by
  rw[a] at z
  exact z.elim
theorem DQ (b:tR X ER st t):WK X ER [st] t:=by
 intro a s σ H D I h
 refine wpAny_execs_cons (CK (b a s σ H D I h) λf c q=>?_)
 cases f with
 | next=>exact wpAny_execs_nil q
 | brk=>exact q
 | cont=>exact q
 | ret u=>exact q
theorem J6 {c:Expr} {a b:List Stmt} {i:TT} (m:PT X c i) (n:WK X ER a t) (o:WK X ER b u) (p:X.xe=λ_ _=>False):tR X ER (.If c a b pos) (ZQ i t u):=by
 intro f s σ H D I h
 refine wpAny_If (wpAny_mono (m f s σ H _ I h) (λd g ⟨j,k,l⟩=>?_) λe q z=>?_)
 ·cases d with
  | true=>exact n f g σ j D k l
  | false=>exact o f g σ j D k l
 ·rw[p] at z
  exact z.elim
theorem F_ (g:PET X ER e te) (c:swapsWith e none pos.line X.env=pure false:=by rfl):tR X ER (.Expr e pos) (az te):=by
 intro b s σ H D I h
 exact wpAny_Expr_any (CK (g b s σ H _ I h) λv i ⟨x,d,f,j,a⟩=>⟨σ,d,f,a⟩) I.quiet c
end
section
variable {ER:XR} {k:Nat} {sp:Sp} {dvs:List V} {ds:List Value} {m:Str} {o:Expr} {t:TA}
def d9 (C:Addr) (m:Str) (sp:Sp) (dvs:List V) (ER:XR) (ta:TE) (t:TA):TE:=λσ H Q=>Xa C m sp dvs (λC od H2=>ER C od σ H2) ta t σ H Q
theorem Yn {Q:VK} {us:List Value} (F:Ao X.prog X.w X.K X.mg X.base (Fy X.prog X.w) k f fd ps sp) (g:Az k X.A) (d:Binds X.K fd ps ds) (i:Vals dvs ds)
  (I:Inv X a8 σ H s) (r:Vals vs us) (h:sp (vs++dvs) H Q (λC od H2=>ER C od σ H2)):wpAny (model X.prog X.w) X.A (call (.ref f) us) (EP X a8 σ Q) (XT X a8 ER) s:=by
 have b:Vals (vs++dvs) (us++ds):=r.append i
 have hl:(us++ds).length=ps.length:=by rw[<-b.length];exact F.len _ _ _ _ h
 refine wpAny_call (codeAny_mono (F.run X.A X.stack s H ⟨us,[]⟩ (us++ds) (vs++dvs) Q _ g I.env0 (d s us I.HH hl) b h) λr j a=>?_)
 cases r with
 | error e=>exact⟨σ,H,s,I,a⟩
 | ok c =>
  cases c with
  | ret u=>exact I.after a
  | next=>exact False.elim a
  | brk=>exact False.elim a
  | cont=>exact False.elim a
theorem GD {pl:Sem Bool} (D:PE X o ta) (c:O4 X.K C) (j:Meth X.K C m f) (F:Ao X.prog X.w X.K X.mg X.base (Fy X.prog X.w) k f fd ps sp) (K:Az k X.A) (w:Binds X.K fd ps ds) (M:Vals dvs ds) (v:PA X (e::es) t)
  (g:X.xe=λ_ _=>False) (b:starEach (e::es) X.env=(false,eval e X.env)::starEach es X.env:=by rfl) (d:(backTo pos (starEach es X.env)).any (·.1)=false:=by rfl)
  (G:eval (.Call (.Attribute o m d6) (e::es) [] pos) X.env=(do
   let ov <-eval o X.env
   standAt d6.atName
   let (f,first) <-holding [ov] (getMethod ov m pl)
   callWith pos f first (backTo pos (starEach (e::es) X.env)) (backToKw pos (keywordEach [] X.env))):=by rfl) :
  PET X ER (.Call (.Attribute o m d6) (e::es) [] pos) (d9 C m sp dvs ER ta t):=by
 intro i s σ H Q I h
 refine W.methodCall_KW (pl:=pl) (wpAny_mono (D i s σ H _ I h) (λu E ⟨x,L,p,A,a,R,fs,B,N,l,q⟩=>?_) λe J z=>?_) G
 ·subst B
  obtain rfl:u=Value.ref a:=A
  refine Fw p N c j l ?_
  refine W.callWith_K (first:=[.ref a]) (h₀:=X.base) I.ok.mod.kin j.kp (wpAny_mono (v pos i E σ L _ p q) (λus O ⟨vs,P,n,r,y⟩=>⟨n.HH,?_⟩) λe J z=>?_) b d
  ·exact Yn (us:=.ref a::us) (vs:=.ref a::vs) F K w M n (.cons rfl r) y
  ·rw[g] at z
   exact z.elim
 ·rw[g] at z
  exact z.elim
end
section
variable {O:Addr} {cn n:Str} {np vt:Pos} {body:List Stmt} {b0:Stmt} {oI:List Stmt} {ts:TS} {tb:XR->TS}
end
end L2
namespace Og
open PySem L2 PyProof.Rows
theorem eF:∀ n<26,letters.cps.toList[n]? = some (97+n):=by decide
theorem jR {i:Int} (b:0<=i) (a:i<26):VV letters.cps.toList i=some (97+i.toNat):=by
 have h:=Ag (eF i.toNat (by omega))
 have e:((i.toNat:Nat):Int)=i:=by omega
 rw[e] at h
 exact h
theorem Yp:(("" : Str)).cps = #[]:=by decide
theorem RM (b:List Nat):(Txt.join ("" : Str) (b.map λc=>(⟨#[c]⟩:Str))).cps.toList=b:=by
 have d:∀ (l:List Nat) (a:Array Nat),((l.map λc=>(⟨#[c]⟩:Str)).foldl (λa p=>a++("" : Str).cps++p.cps) a).toList=a.toList++l:=by
  intro l
  induction l with
  | nil=>intro a;simp
  | cons c l e =>
   intro a
   rw[cw,List.foldl_cons,e,Yp]
   simp
 unfold Txt.join Builtin.Str.glued
 cases b with
 | nil=>decide
 | cons c l =>
  show (((((c::l).map λc=>(⟨#[c]⟩:Str)).drop 1)).foldl (λa p=>a++("" : Str).cps++p.cps) #[c]).toList=_
  rw[cw,List.drop_succ_cons,List.drop_zero,d]
  rfl
variable {K:W.Frag}
structure Yc (K:W.Frag) (aB aP aM:Addr):Prop where
 f:KF K aB aP aM
 pR:∃ a,W.nsIn K aP "rank" = some (some (.ref a))/\KTup K a (["new","pipes","wind"].map λs:String=>V.str s)
 pL:∃ a,W.nsIn K aP "line" = some (some (.ref a))/\KTup K a (["rank","shift","low","high"].map λs:String=>V.str s)
 bP:∃ a,W.nsIn K aB "pipes" = some (some (.ref a))/\KTup K a [.int 1,.int 97]
 bW:∃ a,W.nsIn K aB "wind" = some (some (.ref a))/\KTup K a [.int 0,.int 1000000000]
 bS:∃ a,W.nsIn K aB "shift" = some (some (.ref a))/\KTup K a [.int (-200),.int 200]
 bLo:∃ a,W.nsIn K aB "low" = some (some (.ref a))/\KTup K a [.int 0,.int 60]
 bHi:∃ a,W.nsIn K aB "high" = some (some (.ref a))/\KTup K a [.int 0,.int 60]
 bR:W.nsIn K aB "rank" = some none
 mR:∃ t,W.nsIn K aM "rank" = some (some (.int 12 t))
 mL:W.nsIn K aM "line" = some none
section
variable {wn:List (Str × Str)}
theorem S_ (h:M9 K aB aP aM ρ vs r) (a:GC ρ vs):J4 K aB aP aM ρ vs r:=⟨h.ns,h.parts,.inr h.room,λz=>absurd z h.nl,a⟩
theorem VF (F:KF K aB aP aM) {wd:Str} (r:wd = "stop" \/ wd = "mute") (e:Hw ρ vs=wn) (p:isNm t) (h:∀ w∈named,Tv wn w t=false) (s:WM wn wd<Iz wd) {a:Str} (o:isNm a) (m:Tv wn "board" a=true):M9 K aB aP aM ρ vs ⟨wd,t,[.str a]⟩:=by
 have b:∀ (j:Nat) x (y:Str),[V.str t,.str a][j]? = some x->(["new","board"]:List Str)[j]? = some y->JL K aB ρ vs x y:=λj x y d c=>by
  match j,d,c with
  | 0,d,c =>
   cases (Option.some.inj d)
   cases (Option.some.inj c)
   exact Jt F e p h
  | 1,d,c =>
   cases (Option.some.inj d)
   cases (Option.some.inj c)
   exact JT F e o m
  | j+2,d,c=>simp at c
 have f:=JP ρ vs wd
 rw[e] at f
 rcases r with rfl | rfl
 ·obtain⟨k,n,i⟩:=F.pS
  obtain⟨g,l⟩:=F.mS
  have q:Iz "stop" = 24:=by decide
  refine⟨by show ¬ ("stop" : Str) = "step";decide,by show ¬ ("stop" : Str) = "line";decide,⟨k,["new","board"],n,i,rfl,by decide,b⟩,⟨24,g,l,?_⟩⟩
  show (((vs.filter (pw ρ "stop")).length:Nat):Int)<24
  omega
 ·obtain⟨k,n,i⟩:=F.pM
  obtain⟨g,l⟩:=F.mM
  have q:Iz "mute" = 5:=by decide
  refine⟨by show ¬ ("mute" : Str) = "step";decide,by show ¬ ("mute" : Str) = "line";decide,⟨k,["new","board"],n,i,rfl,by decide,b⟩,⟨5,g,l,?_⟩⟩
  show (((vs.filter (pw ρ "mute")).length:Nat):Int)<5
  omega
theorem Uv (F:Yc K aB aP aM) (e:Hw ρ vs=wn) (g:isNm t) (h:∀ w∈named,Tv wn w t=false) (B:WM wn "rank" < 12) {c:Int} (D:1<=n) (C:n<=97) (v:0<=c) (s:c<=1000000000) (i:GC ρ vs):J4 K aB aP aM ρ vs (Fv (t,n,c)):=by
 obtain⟨q,u,o⟩:=F.pR
 obtain⟨l,A,m⟩:=F.bP
 obtain⟨p,k,d⟩:=F.bW
 obtain⟨f,r⟩:=F.mR
 refine⟨by show ¬ ("rank" : Str) = "step";decide,⟨q,["new","pipes","wind"],u,o,rfl,by decide,λj x y b a=>?_⟩,.inr ⟨12,f,r,?_⟩,λz=>absurd z (by show ¬ ("rank" : Str) = "line";decide),i⟩
 ·match j,b,a with
  | 0,b,a =>
   cases (Option.some.inj b)
   cases (Option.some.inj a)
   exact Jt F.f e g h
  | 1,b,a =>
   cases (Option.some.inj b)
   cases (Option.some.inj a)
   exact .inl ⟨((n:Nat):Int),1,97,l,rfl,A,m,by omega,by omega⟩
  | 2,b,a =>
   cases (Option.some.inj b)
   cases (Option.some.inj a)
   exact .inl ⟨_,0,1000000000,p,rfl,k,d,v,s⟩
  | j+3,b,a=>simp at a
 ·rw[JP,e]
  show ((WM wn "rank" : Nat):Int)<12
  omega
theorem U8 (F:Yc K aB aP aM) (e:Hw ρ vs=wn) (k:isNm t) (h:Tv wn "rank" t=true) {sh lo hi:Int} (v : -200<=sh) (l:sh<=200) (p:0<=lo) (c:lo<=60) (f:0<=hi) (i:hi<=60) (m:GC ρ vs) (hl:RX ρ vs ⟨"line",t,[.int sh,.int lo,.int hi]⟩):J4 K aB aP aM ρ vs ⟨"line",t,[.int sh,.int lo,.int hi]⟩:=by
 obtain⟨s,z,q⟩:=F.pL
 obtain⟨n,A,o⟩:=F.bS
 obtain⟨r,u,B⟩:=F.bLo
 obtain⟨w,d,g⟩:=F.bHi
 refine⟨by show ¬ ("line" : Str) = "step";decide,⟨s,["rank","shift","low","high"],z,q,rfl,by decide,λj x y b a=>?_⟩,.inl ⟨rfl,F.mL⟩,λ_=>hl,m⟩
 match j,b,a with
 | 0,b,a =>
  cases (Option.some.inj b)
  cases (Option.some.inj a)
  exact .inr (.inr ⟨F.bR,by decide,_,rfl,k,by rw[Ka,e];exact h⟩)
 | 1,b,a =>
  cases (Option.some.inj b)
  cases (Option.some.inj a)
  exact .inl ⟨_,-200,200,n,rfl,A,o,v,l⟩
 | 2,b,a =>
  cases (Option.some.inj b)
  cases (Option.some.inj a)
  exact .inl ⟨_,0,60,r,rfl,u,B,p,c⟩
 | 3,b,a =>
  cases (Option.some.inj b)
  cases (Option.some.inj a)
  exact .inl ⟨_,0,60,w,rfl,d,g,f,i⟩
 | j+4,b,a=>simp at a
end
structure zj (K:W.Frag) (aB aP aM:Addr) (ρ:V->R) (us:List V) (bs:List (Str × Nat)) (rk:List (Str × Nat × Int)) (ks:List R):Prop where
 kinds:∀ v∈us,(ρ v).w = "board" \/ (ρ v).w = "rank" \/ (ρ v).w = "line" \/ (ρ v).w = "stop" \/ (ρ v).w = "coupler" \/ (ρ v).w = "mute"
 eb:(us.filter (pw ρ "board")).map ρ=bs.map Es
 er:(us.filter (pw ρ "rank")).map ρ=rk.map Fv
 ek:(us.filter (λv=>G3 (ρ v).w)).map ρ=ks
 ln:∀ (i:Nat) v,us[i]? = some v->(ρ v).w = "line"->(∃ (j:Nat) (r:Str × Nat × Int) (sh lo hi:Int),rk[j]? = some r/\r.1=(ρ v).nm/\(ρ v).rest=[.int sh,.int lo,.int hi])/\∃ u∈us.take i,G3 (ρ u).w=true
 ok:∀ (i:Nat) v,us[i]? = some v->J4 K aB aP aM ρ (us.take i) (ρ v)
section
variable {v:V} {bs OU:List (Str × Nat)} {rk AI:List (Str × Nat × Int)} {SB:List R}
theorem Ky {w:Str}:YX ρ us w t=true ↔ ∃ v∈us,(ρ v).w=w/\(ρ v).nm=t:=by
 unfold YX
 rw[fF]
 constructor
 ·rintro⟨v,c,d⟩
  obtain⟨a,b⟩:=aS.mp c
  exact⟨v,a,V.str.inj (of_decide_eq_true b),V.str.inj (of_decide_eq_true d)⟩
 ·rintro⟨v,c,a,b⟩
  exact⟨v,aS.mpr ⟨c,decide_eq_true (congrArg V.str a)⟩,decide_eq_true (congrArg V.str b)⟩
theorem Kd {w:Str} (h:w = "stop" \/ w = "coupler" \/ w = "mute"):G3 w=true:=by rcases h with rfl | rfl | rfl <;> decide
theorem Lx {p:V->Bool} (h:p v=true):(us++[v]).filter p=us.filter p++[v]:=by
 rw[fi,ff,if_pos h]
 rfl
theorem Eg {p:V->Bool} (h:p v=false):(us++[v]).filter p=us.filter p:=by
 rw[fi,ff,if_neg (by rw[h];decide)]
 simp
end
structure Bld (K:W.Frag) (aB aP aM:Addr) (rows:List R) (bs:List (Str × Nat)) (rk:List (Str × Nat × Int)) (ks:List R) (ls:List (List Ln)):Prop where
 ok:∀ (ρ:V->R) (us:List V),us.map ρ=rows->zj K aB aP aM ρ us bs rk ks
 ln0:ks=[]->∀ AI,linesOf AI rows=[]
 ln:linesOf rk rows=ls
section
variable {bs:List (Str × Nat)} {rk:List (Str × Nat × Int)}
theorem Jg (e:us.map ρ=rows++[r]):∃ nc v,us=nc++[v]/\nc.map ρ=rows/\ρ v=r:=by
 obtain⟨a,b,rfl,d,c⟩:=List.map_eq_append_iff.mp e
 obtain⟨v,l,rfl,g,f⟩:=List.map_eq_cons_iff.mp c
 rw[List.map_eq_nil_iff.mp f]
 exact⟨a,v,rfl,d,g⟩
inductive Tl (rows:List R) (bd:Str) (cnt:Nat):Prop
 | mk (r0:List R) (st:R) (lr:List R):rows=r0++st::lr->st.w = "stop"->st.rest=[.str bd]->lr.length=cnt->(∀ r∈lr,r.w = "line")->Tl rows bd cnt
theorem Tl.stop (a:List R) (t b:Str):Tl (a++[⟨"stop",t,[.str b]⟩]) b 0:=⟨a,_,[],rfl,rfl,rfl,rfl,λ_ h=>nomatch h⟩
theorem Tl.line {a:Str} {cnt:Nat} (h:Tl rows a cnt) (d:r.w = "line"):Tl (rows++[r]) a (cnt+1):=by
 obtain⟨f,st,e,rfl,i,b,k,j⟩:=h
 refine⟨f,st,e++[r],by simp,i,b,by simp[k],λx c=>?_⟩
 rcases bX.mp c with g | g
 ·exact j x g
 ·rw[av.mp g]
  exact d
end
variable {K:W.Frag}
structure JG (K:W.Frag) (aB aP aM:Addr) (ρ:V->R) (us:List V) (bs:List (Str × Nat)) (rk:List (Str × Nat × Int)) (ks:List R):Prop where
 eb:(us.filter (pw ρ "board")).map ρ=bs.map Es
 er:(us.filter (pw ρ "rank")).map ρ=rk.map Fv
 ek:(us.filter (λv=>G3 (ρ v).w)).map ρ=ks
 ln:∀ (i:Nat) v,us[i]? = some v->(ρ v).w = "line"->(∃ (j:Nat) (r:Str × Nat × Int) (sh lo hi:Int),rk[j]? = some r/\r.1=(ρ v).nm/\(ρ v).rest=[.int sh,.int lo,.int hi])/\∃ u∈us.take i,G3 (ρ u).w=true
 ok:∀ (i:Nat) v,us[i]? = some v->Hg K aB aP aM ρ (us.take i) (ρ v)
section
variable {v:V} {bs OU:List (Str × Nat)} {rk AI:List (Str × Nat × Int)} {SB:List R}
theorem JG.nil:JG K aB aP aM ρ [] [] [] []:=⟨rfl,rfl,rfl,(λi v h=>by simp at h),(λi v h=>by simp at h)⟩
theorem JG.bj (h:JG K aB aP aM ρ us bs rk ks) (a:v∈us) (c:(ρ v).w = "board"):∃ b∈bs,Es b=ρ v:=by
 have:ρ v∈(us.filter (pw ρ "board")).map ρ:=aI (aS.mpr ⟨a,decide_eq_true (congrArg V.str c)⟩)
 rw[h.eb] at this
 exact ar.mp this
theorem JG.qR (h:JG K aB aP aM ρ us bs rk ks) (a:v∈us) (c:(ρ v).w = "rank"):∃ b∈rk,Fv b=ρ v:=by
 have:ρ v∈(us.filter (pw ρ "rank")).map ρ:=aI (aS.mpr ⟨a,decide_eq_true (congrArg V.str c)⟩)
 rw[h.er] at this
 exact ar.mp this
theorem JG.Wl (h:JG K aB aP aM ρ us bs rk ks) (a:v∈us) (b:G3 (ρ v).w=true):ρ v∈ks:=by
 have:ρ v∈(us.filter (λv=>G3 (ρ v).w)).map ρ:=aI (aS.mpr ⟨a,b⟩)
 rw[h.ek] at this
 exact this
theorem JG.jj (h:JG K aB aP aM ρ us bs rk ks):GC ρ us:=λv a c=>by
 obtain⟨b,_,e⟩:=h.bj a c
 exact⟨_,by rw[<-e]⟩
theorem JG.cX (h:JG K aB aP aM ρ us bs rk ks) {b:Str × Nat} (a:b∈bs):∃ v∈us,ρ v=Es b:=by
 have:Es b∈(us.filter (pw ρ "board")).map ρ:=by rw[h.eb];exact aI a
 obtain⟨v,c,e⟩:=ar.mp this
 exact⟨v,(aS.mp c).1,e⟩
theorem JG.lu (h:JG K aB aP aM ρ us bs rk ks) {r:Str × Nat × Int} (a:r∈rk):∃ v∈us,ρ v=Fv r:=by
 have:Fv r∈(us.filter (pw ρ "rank")).map ρ:=by rw[h.er];exact aI a
 obtain⟨v,b,e⟩:=ar.mp this
 exact⟨v,(aS.mp b).1,e⟩
theorem JG.Rb (h:JG K aB aP aM ρ us bs rk ks) {b:Str × Nat} (a:b∈bs):Tv (Hw ρ us) "board" b.1=true:=by
 obtain⟨v,c,e⟩:=h.cX a
 rw[<-Ka,Ky]
 exact⟨v,c,by rw[e],by rw[e]⟩
theorem JG.gG (h:JG K aB aP aM ρ us bs rk ks) {r:Str × Nat × Int} (a:r∈rk):Tv (Hw ρ us) "rank" r.1=true:=by
 obtain⟨v,b,e⟩:=h.lu a
 rw[<-Ka,Ky]
 exact⟨v,b,by rw[e],by rw[e]⟩
theorem JG.fresh (h:JG K aB aP aM ρ us bs rk ks) (j:∀ b∈bs,b.1 ≠ t) (l:∀ r∈rk,r.1 ≠ t) (g:∀ k∈ks,k.nm ≠ t):∀ w∈named,Tv (Hw ρ us) w t=false:=by
 intro w i
 rw[<-Ka,<-fo,Ky]
 rintro⟨v,f,d,c⟩
 simp only[List.mem_cons,List.mem_singleton,List.not_mem_nil,or_false] at i
 rcases i with rfl | rfl | rfl | rfl | rfl
 ·obtain⟨b,a,e⟩:=h.bj f d
  exact j b a (by rw[<-c,<-e])
 ·obtain⟨b,a,e⟩:=h.qR f d
  exact l b a (by rw[<-c,<-e])
 ·exact g _ (h.Wl f (Kd (.inl d))) c
 ·exact g _ (h.Wl f (Kd (.inr (.inl d)))) c
 ·exact g _ (h.Wl f (Kd (.inr (.inr d)))) c
theorem JG.oG (h:JG K aB aP aM ρ us bs rk ks):WM (Hw ρ us) "board" = bs.length:=by
 rw[<-JP,<-af (f:=ρ),h.eb,af]
theorem JG.m_ (h:JG K aB aP aM ρ us bs rk ks):WM (Hw ρ us) "rank" = rk.length:=by
 rw[<-JP,<-af (f:=ρ),h.er,af]
theorem JG.cz (h:JG K aB aP aM ρ us bs rk ks) {w:Str} (a:w = "stop" \/ w = "coupler" \/ w = "mute"):WM (Hw ρ us) w=(ks.filter λr=>decide (V.str r.w=V.str w)).length:=by
 rw[<-JP,<-h.ek,eR,af,List.filter_filter]
 refine congrArg List.length (List.filter_congr λv _=>?_)
 show pw ρ w v=(pw ρ w v && G3 (ρ v).w)
 by_cases e:(ρ v).w=w
 ·rw[Kd (by rw[e];exact a),Bool.and_true]
 ·have:pw ρ w v=false:=decide_eq_false λz=>e (V.str.inj z)
  rw[this,gS]
theorem JG.snoc (h:JG K aB aP aM ρ us bs rk ks)
  (m:((us++[v]).filter (pw ρ "board")).map ρ=OU.map Es) (k:((us++[v]).filter (pw ρ "rank")).map ρ=AI.map Fv) (l:((us++[v]).filter (λv=>G3 (ρ v).w)).map ρ=SB)
  (n:∀ (j:Nat) r,rk[j]? = some r->AI[j]? = some r)
  (hl:(ρ v).w = "line"->(∃ (j:Nat) (r:Str × Nat × Int) (sh lo hi:Int),AI[j]? = some r/\r.1=(ρ v).nm/\(ρ v).rest=[.int sh,.int lo,.int hi])/\∃ u∈us,G3 (ρ u).w=true)
  (ok:Hg K aB aP aM ρ us (ρ v)):JG K aB aP aM ρ (us++[v]) OU AI SB:=by
 have c:∀ {i:Nat} {u:V},(us++[v])[i]? = some u->us[i]? = some u/\(us++[v]).take i=us.take i \/ u=v/\(us++[v]).take i=us:=λ{i u} hi=>by
  by_cases b:i<us.length
  ·rw[fw b] at hi
   exact .inl ⟨hi,fg (fA b)⟩
  ·have a:=(ag.mp hi).1
   rw[am,ay] at a
   have e:i=us.length:=by omega
   subst e
   rw[dc (ah _),kq] at hi
   exact .inr ⟨(Option.some.inj hi).symm,by rw[fg (ah _),eD]⟩
 refine⟨m,k,l,λi u hi g=>?_,λi u hi=>?_⟩
 ·rcases c hi with⟨f,a⟩ | ⟨rfl,a⟩
  ·rw[a]
   obtain⟨⟨j,r,sh,lo,d,q,p,s⟩,o⟩:=h.ln i u f g
   exact⟨⟨j,r,sh,lo,d,n j r q,p,s⟩,o⟩
  ·rw[a]
   exact hl g
 ·rcases c hi with⟨f,a⟩ | ⟨rfl,a⟩
  ·rw[a]
   exact h.ok i u f
  ·rw[a]
   exact ok
end
theorem Rf {rk:List (Str × Nat × Int)} {x:Str × Nat × Int}:∀ {rows:List R},(∀ r∈rows,r.w = "line"->r.nm∈rk.map (·.1))->linesOf (rk++[x]) rows=linesOf rk rows:=by
 have d:∀ (rows:List R),(∀ r∈rows,r.w = "line"->r.nm∈rk.map (·.1))->∀ a,rows.foldl (Dr (rk++[x])) a=rows.foldl (Dr rk) a:=by
  intro rows
  induction rows with
  | nil=>intro _ _;rfl
  | cons r f i =>
   intro h a
   have e:Dr (rk++[x]) a r=Dr rk a r:=by
    unfold Dr
    by_cases c:G3 r.w=true
    ·rw[if_pos c,if_pos c]
    ·rw[if_neg c,if_neg c]
     by_cases b:r.w = "line"
     ·rw[if_pos b,if_pos b]
      have g:=h r (ce ..) b
      have:lnOf (rk++[x]) r=lnOf rk r:=by
       unfold lnOf
       rw[cm,List.idxOf_append,if_pos g]
      rw[this]
     ·rw[if_neg b,if_neg b]
   show f.foldl _ (Dr (rk++[x]) a r)=f.foldl _ (Dr rk a r)
   rw[e]
   exact i (λr j=>h r (bq _ j)) _
 exact λ{rows} h=>d rows h []
theorem XQ {k:R} (h:∀ t∈N6 r,t∈ks.map (·.nm)):stN (ks++[k]) r=stN ks r:=by
 unfold stN
 refine congrArg Wd.mk (ft λt a=>?_)
 rw[cm,List.idxOf_append,if_pos (h t a)]
abbrev ZP (r:R):Bool:=decide (V.str r.w=V.str "step")
def zp (w:Str):Prop:=w = "board" \/ w = "rank" \/ w = "stop" \/ w = "coupler" \/ w = "mute" \/ w = "line" \/ w = "step"
structure HX (K:W.Frag) (aB aP aM:Addr) (rows:List R) (bs:List (Str × Nat)) (rk:List (Str × Nat × Int)) (ks:List R) (ls:List (List Ln)) (sts:List Nat):Prop where
 ok:∀ (ρ:V->R) (us:List V),us.map ρ=rows->JG K aB aP aM ρ us bs rk ks
 ln:linesOf rk rows=ls
 st:(rows.filter ZP).map (stN ks)=sts
 lm:∀ r∈rows,r.w = "line"->r.nm∈rk.map (·.1)
 sm:∀ r∈rows,r.w = "step"->∃ ts:List Str,V.str r.nm::r.rest=ts.map V.str/\ts.length<=24/\∀ t∈ts,t∈ks.map (·.nm)
 wd:∀ r∈rows,zp r.w
 pk:∀ r∈rows,(∀ i:Int,V.int i∈r.rest->i.natAbs<10 ^ 12)/\r.rest.length<=24
section
variable {bs:List (Str × Nat)} {rk:List (Str × Nat × Int)}
theorem HX.nil:HX K aB aP aM [] [] [] [] [] []:=⟨λρ a e=>by rw[List.map_eq_nil_iff.mp e];exact JG.nil,rfl,rfl,(λ_ z=>nomatch z),(λ_ z=>nomatch z),(λ_ z=>nomatch z),(λ_ z=>nomatch z)⟩
theorem Ti (h:r.w ≠ "step"):(rows++[r]).filter ZP=rows.filter ZP:=by
 rw[fi,ff,if_neg (by intro z;exact h (V.str.inj (of_decide_eq_true z)))]
 simp
theorem Gp {Q:R->Prop} (h:∀ r∈rows,Q r) (a:Q r):∀ x∈rows++[r],Q x:=λx b=>by
 rcases bX.mp b with z | z
 ·exact h x z
 ·rw[av.mp z]
  exact a
theorem HX.W4 (F:Yc K aB aP aM) (h:HX K aB aP aM rows bs rk ks ls sts) (d:isNm t) (m:∀ b∈bs,b.1 ≠ t) (g:∀ r∈rk,r.1 ≠ t) (p:∀ k∈ks,k.nm ≠ t) (f:bs.length<5) (q:1<=n) (o:n<=61):HX K aB aP aM (rows++[Es (t,n)]) (bs++[(t,n)]) rk ks ls sts:=by
 refine⟨λρ s e=>?_,?_,?_,Gp h.lm (λz=>absurd z (by show ¬ ("board" : Str) = "line";decide)),Gp h.sm (λz=>absurd z (by show ¬ ("board" : Str) = "step";decide)),Gp h.wd (.inl rfl),Gp h.pk ⟨(λi c=>by simp only[Es,List.mem_cons,List.not_mem_nil,or_false,V.int.injEq,reduceCtorEq,false_or] at c;omega),by show 1<=24;decide⟩⟩
 ·obtain⟨l,v,rfl,j,a⟩:=Jg e
  have O:=h.ok ρ l j
  refine O.snoc ?_ ?_ ?_ (λ_ _ h=>h) (λz=>absurd (a ▸ z) (by show ¬ ("board" : Str) = "line";decide)) ?_
  ·rw[Lx (by unfold pw;rw[a];exact decide_eq_true rfl),List.map_append,O.eb,List.map_append,List.map_singleton,a]
   rfl
  ·rw[Eg (by unfold pw;rw[a];show decide (V.str "board" = V.str "rank")=false;decide),O.er]
  ·rw[Eg (by rw[a];show G3 "board" = false;decide),O.ek]
  ·rw[a]
   exact .inl (S_ (Ut F.f rfl d (O.fresh m g p) (by rw[O.oG];exact f) q o) O.jj)
 ·rw[DG,h.ln]
  rfl
 ·rw[Ti (by show ¬ ("board" : Str) = "step";decide)]
  exact h.st
theorem HX.rank (F:Yc K aB aP aM) (h:HX K aB aP aM rows bs rk ks ls sts) {c:Int} (m:isNm t) (q:∀ b∈bs,b.1 ≠ t) (d:∀ r∈rk,r.1 ≠ t) (u:∀ k∈ks,k.nm ≠ t) (g:rk.length<12) (w:1<=n) (s:n<=97) (y:0<=c) (x:c<=1000000000):HX K aB aP aM (rows++[Fv (t,n,c)]) bs (rk++[(t,n,c)]) ks ls sts:=by
 have f:∀ r∈rows,r.w = "line"->r.nm∈(rk++[(t,n,c)]).map (·.1):=λr d z=>by
  rw[cm]
  exact cy _ (h.lm r d z)
 refine⟨λρ A e=>?_,?_,?_,Gp f (λz=>absurd z (by show ¬ ("rank" : Str) = "line";decide)),Gp h.sm (λz=>absurd z (by show ¬ ("rank" : Str) = "step";decide)),Gp h.wd (.inr (.inl rfl)),Gp h.pk ⟨(λi l=>by simp only[Fv,List.mem_cons,List.not_mem_nil,or_false,V.int.injEq,reduceCtorEq,false_or] at l;omega),by show 2<=24;decide⟩⟩
 ·obtain⟨p,v,rfl,o,a⟩:=Jg e
  have O:=h.ok ρ p o
  refine O.snoc ?_ ?_ ?_ (λj r h=>by rw[List.getElem?_append_left (List.getElem?_eq_some_iff.mp h).1];exact h) (λz=>absurd (a ▸ z) (by show ¬ ("rank" : Str) = "line";decide)) ?_
  ·rw[Eg (by unfold pw;rw[a];show decide (V.str "rank" = V.str "board")=false;decide),O.eb]
  ·rw[Lx (by unfold pw;rw[a];exact decide_eq_true rfl),List.map_append,O.er,List.map_append,List.map_singleton,a]
   rfl
  ·rw[Eg (by rw[a];show G3 "rank" = false;decide),O.ek]
  ·rw[a]
   exact .inl (Uv F rfl m (O.fresh q d u) (by rw[O.m_];exact g) w s y x O.jj)
 ·rw[DG,Rf h.lm,h.ln]
  rfl
 ·rw[Ti (by show ¬ ("rank" : Str) = "step";decide)]
  exact h.st
theorem HX.cM (h:HX K aB aP aM rows bs rk ks ls sts) (a:r.w = "stop" \/ r.w = "coupler" \/ r.w = "mute") (j:(∀ i:Int,V.int i∈r.rest->i.natAbs<10 ^ 12)/\r.rest.length<=24) (s:∀ (ρ:V->R) (us:List V),us.map ρ=rows->M9 K aB aP aM ρ us r):HX K aB aP aM (rows++[r]) bs rk (ks++[r]) (ls++[[]]) sts:=by
 have o:=Kd a
 have l:∀ c∈rows,c.w = "step"->∃ d:List Str,V.str c.nm::c.rest=d.map V.str/\d.length<=24/\∀ t∈d,t∈(ks++[r]).map (·.nm):=λc b z=>by
  obtain⟨d,n,k,m⟩:=h.sm c b z
  exact⟨d,n,k,λt g=>by rw[cm];exact cy _ (m t g)⟩
 refine⟨λρ us e=>?_,?_,?_,Gp h.lm (λz=>?_),Gp l (λz=>?_),Gp h.wd (a.elim (λz=>.inr (.inr (.inl z))) (λz=>z.elim (λz=>.inr (.inr (.inr (.inl z)))) (λz=>.inr (.inr (.inr (.inr (.inl z))))))),Gp h.pk j⟩
 ·obtain⟨q,v,rfl,p,f⟩:=Jg e
  have O:=h.ok ρ q p
  refine O.snoc ?_ ?_ ?_ (λ_ _ h=>h) (λz=>?_) ?_
  ·rw[Eg (by unfold pw;rw[f];rcases a with e | e | e <;> rw[e] <;> decide),O.eb]
  ·rw[Eg (by unfold pw;rw[f];rcases a with e | e | e <;> rw[e] <;> decide),O.er]
  ·rw[Lx (by rw[f];exact o),cm,O.ek,List.map_singleton,f]
  ·rw[f] at z
   rcases a with e | e | e <;> rw[e] at z <;> exact absurd z (by decide)
  ·rw[f]
   exact .inl (S_ (s ρ q p) O.jj)
 ·rw[DG,h.ln]
  unfold Dr
  rw[if_pos o]
 ·rw[Ti (by rcases a with e | e | e <;> rw[e] <;> decide),<-h.st]
  refine ft λc b=>XQ λt g=>?_
  obtain⟨n,k⟩:=aS.mp b
  obtain⟨d,m,_,u⟩:=h.sm c n (V.str.inj (of_decide_eq_true k))
  rw[J7 m] at g
  exact u t g
 ·rcases a with e | e | e <;> rw[e] at z <;> exact absurd z (by decide)
 ·rcases a with e | e | e <;> rw[e] at z <;> exact absurd z (by decide)
theorem HX.Zn (F:Yc K aB aP aM) (h:HX K aB aP aM rows bs rk ks ls sts) {a b:Str} {s:Int} (p:isNm t) (q:∀ b∈bs,b.1 ≠ t) (u:∀ r∈rk,r.1 ≠ t) (w:∀ k∈ks,k.nm ≠ t) (g:(ks.filter λr=>decide (V.str r.w=V.str "coupler")).length<12) (j:isNm a) (c:(a,n)∈bs) (f:isNm b) (d:(b,m)∈bs) (x : -60<=s) (v:s<=60) :
  HX K aB aP aM (rows++[⟨"coupler",t,[.str a,.str b,.int s]⟩]) bs rk (ks++[⟨"coupler",t,[.str a,.str b,.int s]⟩]) (ls++[[]]) sts :=
 h.cM (.inr (.inl rfl)) ⟨(λi l=>by simp only[List.mem_cons,List.not_mem_nil,or_false,V.int.injEq,reduceCtorEq,false_or] at l;omega),by show 3<=24;decide⟩ λρ o e=>by
  have O:=h.ok ρ o e
  exact QH F.f rfl p (O.fresh q u w) (by rw[O.cz (.inr (.inl rfl))];exact g) j (O.Rb c) f (O.Rb d) x v
theorem HX.plain (F:Yc K aB aP aM) (h:HX K aB aP aM rows bs rk ks ls sts) {wd a:Str} (f:wd = "stop" \/ wd = "mute") (o:isNm t) (p:∀ b∈bs,b.1 ≠ t) (q:∀ r∈rk,r.1 ≠ t) (s:∀ k∈ks,k.nm ≠ t) (g:(ks.filter λr=>decide (V.str r.w=V.str wd)).length<Iz wd) (j:isNm a) (d:(a,n)∈bs) :
  HX K aB aP aM (rows++[⟨wd,t,[.str a]⟩]) bs rk (ks++[⟨wd,t,[.str a]⟩]) (ls++[[]]) sts:=by
 have c:wd = "stop" \/ wd = "coupler" \/ wd = "mute":=by rcases f with e | e;exact .inl e;exact .inr (.inr e)
 exact h.cM c ⟨(λi l=>by rcases List.mem_cons.mp l with e | e <;> cases e),by show 1<=24;decide⟩ λρ m e=>by
  have O:=h.ok ρ m e
  exact VF F.f f rfl o (O.fresh p q s) (by rw[O.cz c];exact g) j (O.Rb d)
theorem HX.line (F:Yc K aB aP aM) {x:List Ln} (h:HX K aB aP aM rows bs rk ks (ls++[x]) sts) {l:Str} {cnt:Nat} (T:Tl rows l cnt) (Q:cnt<4) {n:Nat} {Z sh lo hi:Int} (f:rk[j]? = some (t,m,Z)) (B:(rk.map (·.1)).Nodup) (U:isNm t) (S:(l,n)∈bs) (y:lo<=hi) (H:hi<(n:Int)) (b1 : -200<=sh) (W:sh<=200) (X:0<=lo) (J:hi<=60) :
  HX K aB aP aM (rows++[⟨"line",t,[.int sh,.int lo,.int hi]⟩]) bs rk ks (ls++[x++[⟨j,sh,lo,hi⟩]]) sts:=by
 obtain⟨r0,st,lr,P,r,Y,N,M⟩:=T
 have G:G3 "line" = false:=by decide
 refine⟨λρ us e=>?_,?_,?_,Gp h.lm (λ_=>List.mem_map.mpr ⟨_,List.mem_of_getElem? f,rfl⟩),Gp h.sm (λz=>absurd z (by show ¬ ("line" : Str) = "step";decide)),Gp h.wd (.inr (.inr (.inr (.inr (.inr (.inl rfl)))))),Gp h.pk ⟨(λi hi=>by simp only[List.mem_cons,List.not_mem_nil,or_false,V.int.injEq,reduceCtorEq,false_or] at hi;omega),by show 3<=24;decide⟩⟩
 ·obtain⟨a,v,rfl,C,b⟩:=Jg e
  have O:=h.ok ρ a C
  obtain⟨A,u1,k,m1,m2⟩:=List.map_eq_append_iff.mp (C.trans P)
  obtain⟨d,q,e1,o,D⟩:=List.map_eq_cons_iff.mp m2
  subst e1
  have p:d∈a:=by rw[k];simp
  have s:q.length=cnt:=by rw[<-N,<-D,af]
  have L:a.length=A.length+(cnt+1):=by rw[k,am,bp,s]
  refine O.snoc ?_ ?_ ?_ (λ_ _ h=>h) (λ_=>⟨⟨j,_,sh,lo,hi,f,by rw[b],by rw[b]⟩,d,p,by rw[o,r];decide⟩) ?_
  ·rw[Eg (by unfold pw;rw[b];show decide (V.str "line" = V.str "board")=false;decide),O.eb]
  ·rw[Eg (by unfold pw;rw[b];show decide (V.str "line" = V.str "rank")=false;decide),O.er]
  ·rw[Eg (by rw[b];exact G),O.ek]
  ·rw[b]
   have c:a[a.length - 1 - cnt]? = some d:=by
    have:a.length - 1 - cnt=A.length:=by omega
    rw[this,k,dc (ah _),kq]
    rfl
   refine .inl ?_
   refine U8 F rfl U (O.gG (ai f)) b1 W X (by omega) (by omega) J O.jj ⟨cnt,d,sh,lo,hi,l,[],rfl,⟨λi I=>?_,by omega,d,c,by rw[o,r];decide⟩,Q,c,by rw[o,r],by rw[o,Y],y,?_⟩
   ·have g:cnt - 1 - i<q.length:=by omega
    refine⟨q[cnt - 1 - i],?_,?_⟩
    ·have:a.length - 1 - i=A.length+((cnt - 1 - i)+1):=by omega
     rw[this,k,dc (Nat.le_add_right _ _),iq,List.getElem?_cons_succ]
     exact ae g
    ·refine M _ ?_
     rw[<-D]
     exact aI (dL g)
   ·obtain⟨u,R,E⟩:=O.cX S
    rw[fF]
    refine⟨u,aS.mpr ⟨R,?_⟩,?_⟩
    ·unfold pw
     rw[E]
     exact decide_eq_true rfl
    ·show (pn ρ l u && decide (hi<iZ (ρ u)))=true
     unfold pn
     rw[E,fk]
     exact⟨decide_eq_true rfl,decide_eq_true H⟩
 ·rw[DG,h.ln]
  unfold Dr
  rw[if_neg (by show ¬ G3 "line" = true;rw[G];decide),if_pos rfl,IW]
  have w:=(ag.mp f).1
  have:(rk.map (·.1)).idxOf t=j:=by
   have hl:j<(rk.map (·.1)).length:=by rw[af];exact w
   have e2:(rk.map (·.1))[j]=t:=by
    rw[kD]
    have:=(ag.mp f).2
    rw[this]
   rw[<-e2]
   exact B.idxOf_getElem j hl
  show ls++[x++[⟨(rk.map (·.1)).idxOf t,sh,lo,hi⟩]]=_
  rw[this]
 ·rw[Ti (by show ¬ ("line" : Str) = "step";decide)]
  exact h.st
theorem HX.step (h:HX K aB aP aM rows bs rk ks ls sts) (m:∃ t,W.nsIn K aM "step" = some (some (.int 12 t))) {t0:Str} {a:List Str} (p:(t0::a).Nodup) (l:(t0::a).length<=24) (b:∀ t∈t0::a,isNm t/\∃ k∈ks,k.w = "stop" /\ k.nm=t) (D:sts.length<12):HX K aB aP aM (rows++[⟨"step",t0,a.map V.str⟩]) bs rk ks ls (sts++[Wd.mk ((t0::a).map λt=>(ks.map (·.nm)).idxOf t)]):=by
 have f:V.str t0::a.map V.str=(t0::a).map V.str:=rfl
 have j:∀ t∈t0::a,t∈ks.map (·.nm):=λt d=>by
  obtain⟨_,k,A,_,rfl⟩:=b t d
  exact aI A
 refine⟨λρ E e=>?_,?_,?_,Gp h.lm (λz=>absurd z (by show ¬ ("step" : Str) = "line";decide)),Gp h.sm (λ_=>⟨t0::a,f,l,j⟩),Gp h.wd (.inr (.inr (.inr (.inr (.inr (.inr rfl)))))),Gp h.pk ⟨(λi q=>by obtain⟨t,_,e⟩:=List.mem_map.mp q;cases e),by show (a.map V.str).length<=24;rw[List.length_map];rw[List.length_cons] at l;omega⟩⟩
 ·obtain⟨g,v,rfl,n,c⟩:=Jg e
  have O:=h.ok ρ g n
  refine O.snoc ?_ ?_ ?_ (λ_ _ h=>h) (λz=>absurd (c ▸ z) (by show ¬ ("step" : Str) = "line";decide)) ?_
  ·rw[Eg (by unfold pw;rw[c];show decide (V.str "step" = V.str "board")=false;decide),O.eb]
  ·rw[Eg (by unfold pw;rw[c];show decide (V.str "step" = V.str "rank")=false;decide),O.er]
  ·rw[Eg (by rw[c];show G3 "step" = false;decide),O.ek]
  ·rw[c]
   obtain⟨s,m⟩:=m
   refine .inr ⟨rfl,⟨t0::a,f,p,l,λt d=>?_⟩,12,s,m,?_⟩
   ·obtain⟨C,k,o,B,w⟩:=b t d
    refine⟨C,Ky.mpr ?_⟩
    rw[<-O.ek] at o
    obtain⟨u,x,rfl⟩:=ar.mp o
    exact⟨u,(aS.mp x).1,B,w⟩
   ·have:(g.filter (pw ρ "step")).length=sts.length:=by
     rw[<-h.st,af,<-n,eR,af]
     rfl
    show (((g.filter (pw ρ "step")).length:Nat):Int)<12
    omega
 ·rw[DG,h.ln]
  rfl
 ·rw[fi,cm,h.st]
  have y:([(⟨"step",t0,a.map V.str⟩:R)]).filter ZP=[⟨"step",t0,a.map V.str⟩]:=rfl
  rw[y]
  show sts++[stN ks _]=_
  unfold stN
  rw[J7 (r:=⟨"step",t0,a.map V.str⟩) f]
theorem HX.fin (h:HX K aB aP aM rows bs rk ks ls sts) (e:Paired (λ(r:R) v=>TupAt H r.v v) rows vs) (n:1<=bs.length) (g:bs.length<=5) (sz:∀ b∈bs,b.2<=61) (nr:rk.length<=12) (k:∀ r∈rk,r.2.1<=97) (l:ks.length<=100) (nb:(bs.map (·.1)).Nodup) (d:(rk.map (·.1)).Nodup) (j:(ks.map (·.nm)).Nodup) (len:rows.length<=150) :
  Rows H (Mq H) vs/\tW K aB aP aM (Mq H) vs bs rk ks/\linesOf rk (vs.map (Mq H))=ls/\((vs.filter (pw (Mq H) "step")).map λv=>stN ks (Mq H v))=sts:=by
 have a:=Ss e
 have O:=h.ok (Mq H) vs a
 have i:Rows H (Mq H) vs:=λv c=>by
  obtain⟨r,_,f⟩:=De e c
  rw[LR f]
  exact f
 refine⟨i,⟨O.eb,O.er,O.ek,O.ln,λv c m=>?_,n,g,sz,nr,k,l,nb,d,j,by rw[<-e.length];exact len,O.ok⟩,by rw[a];exact h.ln,?_⟩
 ·refine h.sm (Mq H v) ?_ m
  rw[<-a]
  exact aI c
 ·rw[<-h.st,<-a,eR,ax]
  rfl
end
def isBs (b:Str):Prop:=b.length<=6/\∀ c∈b.cps.toList,97<=c/\c<=122
def lB (n:Nat):Str:=⟨#[97+n]⟩
def yP (b:Str) (k:Nat):Str:=if 26<=k then b++lB (k % 26)++lB (k / 26 * 5 % 26) else b++lB (k % 26)
open PySem L2
structure zM where
 p:Addr
 r:Addr
 b:Addr
 k:Addr
 n:Addr
 d:Addr
 s:Addr
inductive Dt where
 | stop (b:Nat) (L:Addr)
 | coup (a b:Nat) (s:Int)
 | mute (b:Nat)
def Dt.L:Dt->List Addr
 | .stop _ L=>[L]
 | _=>[]
structure Pl where
 rows:List R
 bs:List (Str × Nat)
 rk:List (Str × Nat × Int)
 ks:List R
 ls:List (List Ln)
 ds:List Dt
 ch:List (List Nat)
abbrev Pl.Ls (S:Pl):List Addr:=S.ds.flatMap Dt.L
inductive pD (H:Hp) (L:Addr) (l:List Ln):Prop
 | mk (ts:_):H L=some (.lst ts)->Paired (λ(y:Ln) z=>TupAt H (Z8 y) z) l ts->pD H L l
def wC (H:Hp) (x:Dt × List Ln) (v:V):Prop:=match x.1 with
 | .stop b L=>TupAt H [.int (b:Nat),.ref L] v/\pD H L x.2
 | .coup a b s=>TupAt H [.int (a:Nat),.int (b:Nat),.int s] v
 | .mute b=>v=.int (b:Nat)
abbrev rkV (r:Str × Nat × Int):List V:=[.str r.1,.int (r.2.1:Nat),.int r.2.2]
abbrev knV (r:R):List V:=[.str r.w,.str r.nm]
structure PlAt (H0 H:Hp) (A:zM) (S:Pl) (Cs:List Addr) (lo:V):Prop where
 dp:∃ kvs:List (Key × V),H A.p=some (.dK kvs)/\kvs.length<=7/\CP kvs (Sum.inr "rows")=some (.ref A.r)/\CP kvs (Sum.inr "boards")=some (.ref A.b)/\CP kvs (Sum.inr "ranks")=some (.ref A.k)/\CP kvs (Sum.inr "knobs")=some (.ref A.n)/\CP kvs (Sum.inr "details")=some (.ref A.d)/\CP kvs (Sum.inr "steps")=some (.ref A.s)/\CP kvs (Sum.inr "lines")=some lo
 nd:(A.r::A.b::A.k::A.n::A.d::A.s::(S.Ls++Cs)).Nodup
 sm:Am H0 H
 f0:H0 A.p=none
 fr:∀ a∈A.r::A.b::A.k::A.n::A.d::A.s::S.Ls,H0 a=none
 r:∃ vs,H A.r=some (.lst vs)/\Paired (λ(r:R) v=>TupAt H r.v v) S.rows vs
 b:∃ vs,H A.b=some (.lst vs)/\Paired (λb v=>TupAt H (bV b) v) S.bs vs
 k:∃ vs,H A.k=some (.lst vs)/\Paired (λr v=>TupAt H (rkV r) v) S.rk vs
 n:∃ vs,H A.n=some (.lst vs)/\Paired (λ(r:R) v=>TupAt H (knV r) v) S.ks vs
 d:∃ vs,H A.d=some (.lst vs)/\S.ds.length=S.ls.length/\Paired (wC H) (S.ds.zip S.ls) vs
 s:H A.s=some (.lst (Cs.map V.ref))
 c:Paired (λC (l:List Nat)=>H C=some (.lst (l.map λn:Nat=>V.int (n:Int)))) Cs S.ch
section
variable {H0:Hp} {A:zM} {S:Pl} {Cs:List Addr} {lo:V}
end
variable {K:W.Frag}
def uO (bs:List (Str × Nat)) (r:R):Dt->Prop
 | .stop b _=>r.w = "stop" /\ ∃ x,bs[b]? = some x/\r.rest=[.str x.1]
 | .coup a b s=>r.w = "coupler" /\ ∃ x y,bs[a]? = some x/\bs[b]? = some y/\r.rest=[.str x.1,.str y.1,.int s]
 | .mute b=>r.w = "mute" /\ ∃ x,bs[b]? = some x/\r.rest=[.str x.1]
structure PlOk (K:W.Frag) (aB aP aM:Addr) (base:Str) (S:Pl) (lo:V):Prop where
 bl:HX K aB aP aM S.rows S.bs S.rk S.ks S.ls (S.ch.map Wd.mk)
 nb:∀ x∈S.bs,∃ i,i<S.rows.length/\x.1=yP base i
 nr:∀ x∈S.rk,∃ i,i<S.rows.length/\x.1=yP base i
 nk:∀ x∈S.ks,∃ i,i<S.rows.length/\x.nm=yP base i
 db:(S.bs.map (·.1)).Nodup
 dr:(S.rk.map (·.1)).Nodup
 dk:(S.ks.map (·.nm)).Nodup
 b5:S.bs.length<=5
 sb:∀ x∈S.bs,1<=x.2/\x.2<=61
 r12:S.rk.length<=12
 sr:∀ x∈S.rk,1<=x.2.1/\x.2.1<=97
 lk:S.ks.length<=S.rows.length
 pd:Paired (uO S.bs) S.ks S.ds
 ch:∀ l∈S.ch,l.Nodup/\∀ i∈l,∃ k,S.ks[i]? = some k/\k.w = "stop"
 op:lo=.non \/ ∃ ds0 b L x ls0 l0,S.ds=ds0++[.stop b L]/\S.ls=ls0++[l0]/\lo=.ref L/\S.bs[b]? = some x/\Tl S.rows x.1 l0.length
section
variable {base:Str} {S:Pl} {lo:V}
def nmK (ks:List R) (i:Nat):Str:=((ks[i]?).map (·.nm)).getD ""
abbrev z_ (a1 a2 a3 a4 a5 a6:Addr):List (Key × V):=[(Sum.inr "rows",.ref a1),(Sum.inr "boards",.ref a2),(Sum.inr "ranks",.ref a3),(Sum.inr "knobs",.ref a4),(Sum.inr "details",.ref a5),(Sum.inr "steps",.ref a6),(Sum.inr "lines",.non)]
end
def pOk (x:V):Prop:=(∃ t,x=.str t) \/ ∃ i,x=.int i
def z7 (H:Hp) (vs:List V):Prop:=∀ v∈vs,∃ (T:Addr) (xs:List V),v=.ref T/\H T=some (.tup xs)/\∀ x∈xs,pOk x
variable {K:W.Frag}
def zc (rows:List R):V->R
 | .int i=>(rows[i.toNat]?).getD ⟨"","",[]⟩
 | _=>⟨"","",[]⟩
end Og
namespace L2
open PySem PySem.Spec PyProof.Rows
open PySem PySem.Spec PySem.Calls PySem.Builtin PySem.Builtin.Str PyProof.Rows
end L2
namespace Og
open PySem L2
theorem VB (a b:List (Str × Nat)):∃ t,Fi (a++b)=Fi a++t:=by
 unfold Fi
 rw[List.zipIdx_append,List.flatMap_append]
 exact⟨_,rfl⟩
theorem ZJ {bs:List (Str × Nat)} {b:Str × Nat} (h:bs[i]? = some b) (a:n<b.2):(Fi bs)[((bs.take i).map (·.2)).sum+n]? = some (i,n):=by
 obtain⟨t,e⟩:=VB (bs.take (i+1)) (bs.drop (i+1))
 rw[gi] at e
 have hl:=FN (bs.take i)
 rw[e,Ht h,gc,dc (by omega),<-hl,iq,fw (by rw[af,gz];exact a),al,List.getElem?_range a]
 rfl
def Tx (t:Str):Prop:=t.length<=1000/\∀ c∈t.cps.toList,c<128
theorem isNm.tx (h:isNm t):Tx t:=⟨by have:=h.2.1;omega,λc a=>by have:=h.2.2 c a;omega⟩
inductive Ci (H:Hp):V->Prop where
 | non:Ci H .non
 | bl (b:Bool):Ci H (.bl b)
 | int (i:Int):Ci H (.int i)
 | lst {a:Addr} {xs:List V} (h:H a=some (.lst xs)):Ci H (.ref a)
 | tup {a:Addr} {xs:List V} (h:H a=some (.tup xs)):Ci H (.ref a)
 | str {t:Str} (h:Tx t):Ci H (.str t)
theorem Ci.mono {v:V} (s:Am H H') (h:Ci H v):Ci H' v:=by
 cases h with
 | non=>exact .non
 | bl b=>exact .bl b
 | int i=>exact .int i
 | lst h=>exact .lst (s _ _ h)
 | tup h=>exact .tup (s _ _ h)
 | str h=>exact .str h
def Gj (ns:List Str):V->V
 | .str t=>if t∈ns then .int ((ns.idxOf t:Nat):Int) else .non
 | _=>.non
theorem Jc (h:t∈ns):ns[ns.idxOf t]? = some t:=by
 have hl:=gd h
 rw[ae hl,List.getElem_idxOf hl]
def YS (K:W.Frag) (C:Addr):Bool:=(W.findIn K (.ref C) "__getattribute__" == some (some (.builtin "BaseException.__getattribute__"))) && (W.findIn K (.ref C) "__getattr__" == some none) &&
 (W.mroIn K C (.type "BaseException") == some true) && W.hasDictIn K C && (W.findIn K (.ref C) "__class__" == some (some (.builtin "object.__class__"))) &&
 (W.specialIn K (.builtin "object.__class__") "__get__" == some (some (.builtin "getset_descriptor.__get__"))) && (W.takesIn K (.builtin "object.__class__") == some true) && (W.mroIn K C (.type "object") == some true) && W.keepIn K (.ref C)
theorem QW {K:W.Frag} (h:YS K C=true):pP K C/\W.keepIn K (.ref C)=true:=by
 simp only[YS,Bool.and_eq_true,beq_iff_eq] at h
 obtain⟨⟨⟨⟨⟨⟨⟨⟨i,f⟩,j⟩,g⟩,b⟩,d⟩,c⟩,a⟩,e⟩:=h
 exact⟨⟨i,f,j,g,b,d,c,a⟩,e⟩
def MF (K:W.Frag) (C cO:Addr) (ds:List Addr):Bool :=
 YS K C && (W.kitOne K (.ref C) (.ref C) == some true) && (W.kitOne K (.ref C) (.type "ValueError") == some true) && (W.kitAny K (.ref C) (ds.map Value.ref) == some false) && (ds.all λD=>W.kitOne K (.ref C) (.ref D) == some false) &&
 W.excIn K C Q4 "ValueError.__new__" && (W.mroIn K C (.ref cO) == some true)
structure Rc (K:W.Frag) (C cO:Addr) (ds:List Addr):Prop where
 xc:pP K C
 kp:W.keepIn K (.ref C)=true
 k0:W.kitOne K (.ref C) (.ref C)=some true
 kv:W.kitOne K (.ref C) (.type "ValueError")=some true
 ka:W.kitAny K (.ref C) (ds.map Value.ref)=some false
 kf:∀ D∈ds,W.kitOne K (.ref C) (.ref D)=some false
 ex:W.excIn K C Q4 "ValueError.__new__" = true
 mro:W.mroIn K C (.ref cO)=some true
theorem Rc.of {K:W.Frag} {b:Addr} {a:List Addr} (h:MF K C b a=true):Rc K C b a:=by
 unfold MF at h
 simp only[Bool.and_eq_true,beq_iff_eq,List.all_eq_true] at h
 obtain⟨⟨⟨⟨⟨⟨c,d⟩,i⟩,e⟩,j⟩,f⟩,g⟩:=h
 exact⟨(QW c).1,(QW c).2,d,i,e,j,f,g⟩
structure Ex4 (K:W.Frag) (mg:Str->Option Value) (cK cP cB cS cO:Addr):Prop where
 verr:mg "ValueError" = none
 mK:mg "NoKnob" = some (.ref cK)
 mP:mg "NoPiston" = some (.ref cP)
 mB:mg "NoBoard" = some (.ref cB)
 mS:mg "NoStep" = some (.ref cS)
 mO:mg "OrganError" = some (.ref cO)
 exO:W.excIn K cO Q4 "ValueError.__new__" = true
 rK:Rc K cK cO [cB,cP,cS]
 rP:Rc K cP cO [cB,cK,cS]
 rB:Rc K cB cO [cK,cP,cS]
 rS:Rc K cS cO [cB,cK,cP]
abbrev Ol:List Str:=["__init__","draw","pull","push","store","press","cancel","shoe","drawn","knobs","step"]
structure Dh (Cy:Addr) (H:Hp) (y x:Addr) (dr sh:Nat) (sd:Addr):Prop where
 ex:∃ dy fs,H y=some (.ins Cy dy fs)/\fs.lookup ("organ" : Str)=some (.ref x)/\fs.lookup ("drawn_set" : Str)=some (.int (dr:Nat))/\fs.lookup ("shoe_step" : Str)=some (.int (sh:Nat))/\fs.lookup ("stored" : Str)=some (.ref sd)/\fs.length<=4/\∀ m∈Ol,fs.lookup m=none
theorem Dh.mono {x:Addr} (s:Am H H') (h:Dh Cy H y x dr sh sd):Dh Cy H' y x dr sh sd:=by
 obtain⟨a,fs,b,c⟩:=h.ex
 exact⟨a,fs,s _ _ b,c⟩
structure ZZ (C Cy:Addr) (Ho H:Hp) (y x:Addr) (us:List V) (bs:List (Str × Nat)) (rk:List (Str × Nat × Int)) (ks:List R) (ls:List (List Ln)) (sts:List Nat) (dr sh:Nat) (sd:Addr):Prop where
 o:Iv C Ho x us bs rk ks ls sts
 s:Am Ho H
 n:Ho y=none
 c:Dh Cy H y x dr sh sd
theorem ZZ.mono {x:Addr} {bs:List (Str × Nat)} {rk:List (Str × Nat × Int)} (s:Am H H') (h:ZZ C Cy Ho H y x us bs rk ks ls sts dr sh sd):ZZ C Cy Ho H' y x us bs rk ks ls sts dr sh sd :=
 ⟨h.o,h.s.trans s,h.n,h.c.mono s⟩
theorem LK {f:Str} {v u:V}:∀ {fs:List (Str × V)},fs.lookup f=some u->(BV f v fs).length=fs.length
 | [],h=>by cases h
 | (g,x)::r,h=>by
  unfold BV
  by_cases e:g=f
  ·rw[if_pos e]
   rfl
  ·rw[if_neg e]
   rw[List.lookup_cons,show (f == g)=false from beq_eq_false_iff_ne.mpr (Ne.symm e)] at h
   rw[bp,bp,LK h]
theorem FJ (f:Str) (v:V):∀ fs:List (Str × V),(BV f v fs).length<=fs.length+1
 | []=>ah _
 | (g,x)::r=>by
  unfold BV
  split
  ·exact iN _
  ·exact dn (FJ f v r)
theorem Dh.new {a x:Addr} (h:H y=some (.ins Cy a (BV "stored" (.ref sd) (BV "shoe_step" (.int 0) (BV "drawn_set" (.int 0) (BV "organ" (.ref x) [])))))):Dh Cy H y x 0 0 sd:=by
 refine⟨a,_,h,?_,?_,?_,?_,?_,λm c=>?_⟩
 ·rw[Aj,if_neg (by decide),Aj,if_neg (by decide),Aj,if_neg (by decide),Aj,if_pos rfl]
 ·rw[Aj,if_neg (by decide),Aj,if_neg (by decide),Aj,if_pos rfl]
  rfl
 ·rw[Aj,if_neg (by decide),Aj,if_pos rfl]
  rfl
 ·rw[Aj,if_pos rfl]
 ·have i:=FJ "stored" (.ref sd) (BV "shoe_step" (.int 0) (BV "drawn_set" (.int 0) (BV "organ" (.ref x) [])))
  have g:=FJ "shoe_step" (.int 0) (BV "drawn_set" (.int 0) (BV "organ" (.ref x) []))
  have k:=FJ "drawn_set" (.int 0) (BV "organ" (.ref x) [])
  have j:=FJ "organ" (.ref x) []
  have d:([]:List (Str × V)).length=0:=rfl
  omega
 ·have ne:∀ f:Str,f ∉ Ol->¬ m=f:=λf b e=>b (e ▸ c)
  rw[Aj,if_neg (ne _ (by decide)),Aj,if_neg (ne _ (by decide)),Aj,if_neg (ne _ (by decide)),Aj,if_neg (ne _ (by decide))]
  rfl
theorem Dh.putD {a x:Addr} {k sh:Nat} {fs:List (Str × V)} (n:Nat) (d:fs.lookup ("organ" : Str)=some (.ref x)) (g:fs.lookup ("drawn_set" : Str)=some (.int (k:Nat))) (c:fs.lookup ("shoe_step" : Str)=some (.int (sh:Nat))) (i:fs.lookup ("stored" : Str)=some (.ref sd)) (f:fs.length<=4) (j:∀ m∈Ol,fs.lookup m=none) (h:H y=some (.ins Cy a (BV "drawn_set" (.int (n:Nat)) fs))):Dh Cy H y x n sh sd:=by
 refine⟨a,_,h,?_,?_,?_,?_,by rw[LK g];exact f,λm b=>?_⟩
 ·rw[Aj,if_neg (by decide)]
  exact d
 ·rw[Aj,if_pos rfl]
 ·rw[Aj,if_neg (by decide)]
  exact c
 ·rw[Aj,if_neg (by decide)]
  exact i
 ·rw[Aj,if_neg λe=>absurd b (by rw[e];decide)]
  exact j m b
theorem Dh.lD {a x:Addr} {c sh:Nat} {fs:List (Str × V)} (n:Nat) (f:fs.lookup ("organ" : Str)=some (.ref x)) (i:fs.lookup ("drawn_set" : Str)=some (.int (c:Nat))) (d:fs.lookup ("shoe_step" : Str)=some (.int (sh:Nat))) (j:fs.lookup ("stored" : Str)=some (.ref sd)) (g:fs.length<=4) (k:∀ m∈Ol,fs.lookup m=none) (h:H y=some (.ins Cy a (BV "shoe_step" (.int (n:Nat)) fs))):Dh Cy H y x c n sd:=by
 refine⟨a,_,h,?_,?_,?_,?_,by rw[LK d];exact g,λm b=>?_⟩
 ·rw[Aj,if_neg (by decide)]
  exact f
 ·rw[Aj,if_neg (by decide)]
  exact i
 ·rw[Aj,if_pos rfl]
 ·rw[Aj,if_neg (by decide)]
  exact j
 ·rw[Aj,if_neg λe=>absurd b (by rw[e];decide)]
  exact k m b
structure ExH (K:W.Frag) (mg:Str->Option Value) (cH cO:Addr):Prop where
 verr:mg "ValueError" = none
 mH:mg "NotHeld" = some (.ref cH)
 mO:mg "OrganError" = some (.ref cO)
 exH:W.excIn K cH Q4 "ValueError.__new__" = true
 rH:Rc K cH cO []
 mHH:W.mroIn K cH (.ref cH)=some true
abbrev Vy:List Str:=["__init__","hold","leave","act","do","sound","held","knobs"]
structure JX (Cp:Addr) (H:Hp) (z x y hd:Addr):Prop where
 ex:∃ dz fs,H z=some (.ins Cp dz fs)/\fs.lookup ("organ" : Str)=some (.ref x)/\fs.lookup ("console" : Str)=some (.ref y)/\fs.lookup ("hands" : Str)=some (.ref hd)/\∀ m∈Vy,fs.lookup m=none
theorem JX.mono {x:Addr} (s:Am H H') (h:JX Cp H z x y hd):JX Cp H' z x y hd:=by
 obtain⟨c,fs,d,b,e,a,f⟩:=h.ex
 exact⟨c,fs,s _ _ d,b,e,a,f⟩
end Og
namespace L2
open PySem PySem.Spec PyProof.Rows
structure VJ (K:W.Frag) (x qual:Str) (st:Stmt) (f:Addr) (fd:FuncData):Prop where
 ex:∃ (oc:Value) (od:Option Addr) (dV kV kL pm:Value) (an:Option Addr) (i4 ct:Value) (qc:Array (Option Value)),
  fd=W.fnOf x qual (DP st) (CV st) (Ae st) dV kV kL pm an i4 ct/\K.lookup f=some ⟨oc,od,.func fd,qc⟩/\W.codeIn K i4 qual=true
 kp:W.keepIn K (.ref f)=true
section
variable {w:World} {K:W.Frag}
theorem Yz {i:Value} {j g:Option Addr} {h:Array (Option Value)} {b kV e d a ct:Value} (l:K.lookup f=some ⟨i,j,.func (W.fnOf x qual (DP st) (CV st) (Ae st) b kV e d g a ct),h⟩)
  (c:W.codeIn K a qual=true) (k:W.keepIn K (.ref f)=true):VJ K x qual st f (W.fnOf x qual (DP st) (CV st) (Ae st) b kV e d g a ct):=⟨⟨i,j,b,kV,e,d,g,a,ct,h,rfl,l,c⟩,k⟩
theorem dO {t:Addr} {b:Value} {d:Option Addr} {a:Array Value} {f:Array (Option Value)} (lt:K.lookup t=some ⟨b,d,.seq a n,f⟩) (c:fd.defaults=.ref t)
  (h:∀ us:List Value,us.length=ps.length->∃ k,bindArgs fd ⟨us,[]⟩=seqItems? fd.defaults >>= k/\k (some a)=pure (ps.zip us)):Binds K fd ps []:=λs us e hl=>by
 rw[dS] at hl |-
 obtain⟨k,i,g⟩:=h us hl
 exact BindsTo.of_defaults c (e _ _ lt) rfl i g
end
section
variable {K:W.Frag}
theorem Yv {a:List Value} {t:Addr} {c:Value} {e:Option Addr} {b:Array Value} {g:Array (Option Value)} (lt:K.lookup t=some ⟨c,e,.seq b n,g⟩) (d:fd.defaults=.ref t)
  (h:∀ us:List Value,(us++a).length=ps.length->∃ k,bindArgs fd ⟨us,[]⟩=seqItems? fd.defaults >>= k/\k (some b)=pure (ps.zip (us++a))):Binds K fd ps a:=λs us f hl=>by
 obtain⟨k,j,i⟩:=h us hl
 exact BindsTo.of_defaults d (f _ _ lt) rfl j i
end
open PySem PySem.Spec PySem.Calls PyProof.Rows
structure bD (K:W.Frag) (C:Addr) (m:Str) (f:Addr) (mc:Value):Prop where
 ga:W.specialIn K (.ref C) "__getattribute__" = some (some (.builtin "type.__getattribute__"))
 rd:W.readsIn K C mc=true
 fc:W.findCls K (.ref C) mc m=some (.val (.ref f))
 kp:W.keepIn K (.ref f)=true
section
variable {CX:QZ} {k:Nat} {sp:Sp} {dvs:List V} {ds:List Value} {E:XK} {m:Str} {t:TA} {mc:Value}
theorem Q8 {pl:Sem Bool} (B:Gl X x) (o:X.mg x=some (.ref C)) (M:bD X.K C m f mc) (F:Ao X.prog X.w X.K X.mg X.base CX k f fd ps sp) (z:Az k X.A) (l:Binds X.K fd ps ds) (A:Vals dvs ds) (L:Gh CX X E) (j:PA X (e::es) t)
  (G:(x == ("__debug__" : Str))=false:=by decide)
  (d:starEach (e::es) X.env=(false,eval e X.env)::starEach es X.env:=by rfl) (a:(backTo pos (starEach es X.env)).any (·.1)=false:=by rfl)
  (y:eval (.Call (.Attribute (.Name x p) m d6) (e::es) [] pos) X.env=(do
   let ov <-eval (.Name x p) X.env
   standAt d6.atName
   let (f,first) <-holding [ov] (getMethod ov m pl)
   callWith pos f first (backTo pos (starEach (e::es) X.env)) (backToKw pos (keywordEach [] X.env))):=by rfl) :
  PE X (.Call (.Attribute (.Name x p) m d6) (e::es) [] pos) (bh sp dvs E t):=by
 intro g s σ H Q I h
 have q:PE X (.Name x p) (tC (.ref C)):=Cr B o rfl G
 refine W.methodCall_KW (pl:=pl) (CK (q g s σ H (λv b=>v=.ref C/\b=H) I ⟨rfl,rfl⟩) λu K ⟨v,b,c,D,N,w⟩=>?_) y
 subst N
 subst w
 obtain rfl:u=Value.ref C:=D
 refine W.method_cls c.HH M.ga (W.cls_value c.HH M.rd M.fc rfl ?_)
 have J:=c.tok (K.toks+1)
 refine W.callWith_K (first:=[]) (h₀:=X.base) I.ok.mod.kin M.kp (CK (j pos g _ σ b _ J h) λus P ⟨vs,O,i,r,n⟩=>⟨i.HH,?_⟩) d a
 exact KH (us:=us) (vs:=vs) F z l A L i r n
end
section
variable {CX:QZ} {k:Nat} {f1 f2 C1 C2:Addr} {WI VZ:FuncData} {ZB Xt:List Str} {Ct AM:Sp} {E:XK} {m:Str} {o:Expr} {t:TA}
inductive Ro (C1 C2:Addr) (m:Str) (Ct AM:Sp) (E:XK) (t:TA) (σ:St) (Q:VK) (x:V) (H1:Hp):Prop
 | mk (a dx fs:_):x=.ref a->fs.lookup m=none->((H1 a=some (.ins C1 dx fs)/\t σ H1 λvs H2=>Ct (x::(vs++[])) H2 Q E) \/ (H1 a=some (.ins C2 dx fs)/\t σ H1 λvs H2=>AM (x::(vs++[])) H2 Q E))->Ro C1 C2 m Ct AM E t σ Q x H1
def ie (C1 C2:Addr) (m:Str) (Ct AM:Sp) (E:XK) (ta:TE) (t:TA):TE:=λσ H Q=>ta σ H λx H1=>Ro C1 C2 m Ct AM E t σ Q x H1
theorem Wu {pl:Sem Bool} (M:PE X o ta) (P:O4 X.K C1) (D:Meth X.K C1 m f1) (F:Ao X.prog X.w X.K X.mg X.base CX k f1 WI ZB Ct) (v:Binds X.K WI ZB [])
  (G:O4 X.K C2) (y:Meth X.K C2 m f2) (R:Ao X.prog X.w X.K X.mg X.base CX k f2 VZ Xt AM) (n:Binds X.K VZ Xt []) (B:Az k X.A) (A:Gh CX X E) (w:PA X (e::es) t)
  (b:starEach (e::es) X.env=(false,eval e X.env)::starEach es X.env:=by rfl) (d:(backTo pos (starEach es X.env)).any (·.1)=false:=by rfl)
  (O:eval (.Call (.Attribute o m d6) (e::es) [] pos) X.env=(do
   let ov <-eval o X.env
   standAt d6.atName
   let (f,first) <-holding [ov] (getMethod ov m pl)
   callWith pos f first (backTo pos (starEach (e::es) X.env)) (backToKw pos (keywordEach [] X.env))):=by rfl) :
  PE X (.Call (.Attribute o m d6) (e::es) [] pos) (ie C1 C2 m Ct AM E ta t):=by
 intro j s σ H Q I h
 refine W.methodCall_KW (pl:=pl) (CK (M j s σ H _ I h) λu z ⟨x,C,g,J,a,S,fs,K,l,q⟩=>?_) O
 subst K
 obtain rfl:u=Value.ref a:=J
 rcases q with⟨p,q⟩ | ⟨p,q⟩
 ·refine Fw g p P D l ?_
  refine W.callWith_K (first:=[.ref a]) (h₀:=X.base) I.ok.mod.kin D.kp (CK (w pos j z σ C _ g q) λus L ⟨vs,N,c,r,i⟩=>⟨c.HH,?_⟩) b d
  exact KH (us:=.ref a::us) (vs:=.ref a::vs) F B v .nil A c (.cons rfl r) i
 ·refine Fw g p G y l ?_
  refine W.callWith_K (first:=[.ref a]) (h₀:=X.base) I.ok.mod.kin y.kp (CK (w pos j z σ C _ g q) λus L ⟨vs,N,c,r,i⟩=>⟨c.HH,?_⟩) b d
  exact KH (us:=.ref a::us) (vs:=.ref a::vs) R B n .nil A c (.cons rfl r) i
end
section
variable {w:World} {K:W.Frag}
theorem VJ.yx {N:List Str} {k:Nat} {sp:Sp} (F:VJ K x qual st f fd) (S:Av N ps (Ae st)) (len:∀ vs H Q E,sp vs H Q E->vs.length=ps.length)
  (g:∀ (b:Value) (A:Around) (a:List Env) (s:Shared) (H:Hp) (vs:List V) (Q:VK) (E:XK),Az k (A.deeper (envOfC qual (Ae st) s.heap.objs.size f b))->sp vs H Q E ->
   ∃ t,Ni (KR (Fy P w) P w K mg base N qual (Ae st) f b A a s H E) (CV st) t/\t { nx:=λ_ H'=>Q .non H',rt:=Q } (start N vs) H):Ao P w K mg base (Fy P w) (k+1) f fd ps sp:=by
 obtain⟨n,u,p,kV,l,j,o,b,m,r,rfl,c,i⟩:=F.ex
 refine Xn c i S len λA a s H vs Q E e d=>?_
 obtain⟨t,h,q⟩:=g b A a s H vs Q E e d
 exact⟨t,h,q⟩
theorem VJ.Jr {N:List Str} {k:Nat} {sp:Sp} (F:VJ K x qual st f fd) (S:Av N ps (Ae st))
  (c:∀ {b:Value} {A:Around} {a:List Env} {s:Shared} (H:Hp) (vs:List V) (Q:VK) (E:XK),Az k (A.deeper (envOfC qual (Ae st) s.heap.objs.size f b))->sp vs H Q E ->
   ∃ t,Ni (KR (Fy P w) P w K mg base N qual (Ae st) f b A a s H E) (CV st) t/\t { nx:=λ_ H'=>Q .non H',rt:=Q } (start N vs) H)
  (len:∀ vs H Q E,sp vs H Q E->vs.length=ps.length:=by intro _ _ _ _ h;cases h;subst_vars;rfl):Ao P w K mg base (Fy P w) (k+1) f fd ps sp:=F.yx S len λ_ _ _ _ H vs Q E=>c H vs Q E
end
end L2
namespace Og
open PySem L2
structure zA (K:W.Frag) (mg:Str->Option Value) (pB pE pA:Addr):Prop where
 mB:mg "Piston" = some (.ref pB)
 mE:mg "Every" = some (.ref pE)
 mA:mg "Part" = some (.ref pA)
 cE:O4 K pE
 cA:O4 K pA
 nEk:CZ K pE "knob_set"
 nAk:CZ K pA "knob_set"
 nAw:CZ K pA "whole_set"
 most:∃ t,mg "PISTON_COUNT" = some (.int 10 t)
inductive Ps where
 | every (k:Nat)
 | part (k w:Nat)
def Ps.put:Ps->Nat->Nat
 | .every k,_=>k
 | .part k w,d=>(d - (d &&& w)) ||| k
def Eu (pE pA:Addr) (H:Hp) (o:Addr):Ps->Prop
 | .every k=>∃ dx,H o=some (.ins pE dx [("knob_set",.int (k:Nat))])
 | .part k w=>∃ dx,H o=some (.ins pA dx [("knob_set",.int (k:Nat)),("whole_set",.int (w:Nat))])
structure RN (pE pA:Addr) (H:Hp) (sd:Addr) (m:Nat->Option Ps) (c:Nat):Prop where
 ex:∃ kvs:List (Key × V),H sd=some (.dK kvs)/\kvs.length<=c/\(∀ p,p<10->m p=none->CP kvs (Sum.inl (p:Nat))=none)/\∀ p ps,p<10->m p=some ps->∃ o,CP kvs (Sum.inl (p:Nat))=some (.ref o)/\Eu pE pA H o ps
theorem Eu.keep {o:Addr} {ps:Ps} (h:Eu pE pA H o ps) (f:∀ c dx fs,H o=some (.ins c dx fs)->H' o=some (.ins c dx fs)):Eu pE pA H' o ps:=by
 cases ps with
 | every k =>
  obtain⟨dx,e⟩:=h
  exact⟨dx,f _ _ _ e⟩
 | part k w =>
  obtain⟨dx,e⟩:=h
  exact⟨dx,f _ _ _ e⟩
theorem RN.mono {m:Nat->Option Ps} {c:Nat} (s:Am H H') (h:RN pE pA H sd m c):RN pE pA H' sd m c:=by
 obtain⟨a,j,k,b,l⟩:=h.ex
 refine⟨a,s _ _ j,k,b,λp i f g=>?_⟩
 obtain⟨o,n,d⟩:=l p i f g
 exact⟨o,n,d.keep λ_ _ _ e=>s _ _ e⟩
structure zf (K:W.Frag) (mg:Str->Option Value) (cY cD cP:Addr):Prop where
 mY:mg "NoKey" = some (.ref cY)
 mD:mg "NoDeed" = some (.ref cD)
 exY:W.excIn K cY Q4 "ValueError.__new__" = true
 mPP:W.mroIn K cP (.ref cP)=some true
 exD:W.excIn K cD Q4 "ValueError.__new__" = true
def wA:List (Str × List V):=[("hold",[.int 3]),("leave",[.int 3]),("pull",[.int 2]),("push",[.int 2]),("store",[.int 2,.int 3]),("press",[.int 2]),("cancel",[.int 1]),("shoe",[.int 2])]
abbrev Pt:=Nat × Nat
def Wlk (nx:Pt->Option Pt) (p0:Pt) (ps:List Pt):Prop:=∀ (i:Nat) (p q:Pt),(p0::ps)[i]? = some p->(p0::ps)[i+1]? = some q->nx p=some q
def zP (s0 s1 b:Nat):Nat:=if b=0 then s0 else s1
def enc (s0:Nat) (p:Pt):Nat:=p.1 * s0+p.2
abbrev Way:=Option (Nat × Int)
def wy (w0 w1:Way) (b:Nat):Way:=if b=0 then w0 else w1
def nxt (s0 s1:Nat) (w0 w1:Way) (p:Pt):Option Pt:=match wy w0 w1 p.1 with
 | none=>none
 | some (g,s)=>if 0<=(p.2:Int)+s/\(p.2:Int)+s<(zP s0 s1 g:Nat) then some (g,((p.2:Int)+s).toNat) else none
structure OnB (s0 s1:Nat) (p:Pt):Prop where
 b:p.1<2
 n:p.2<zP s0 s1 p.1
structure Fit (kbs:List Kb) (D:Nat) (w0 w1:Way):Prop where
 out:∀ k z,D.testBit k=true->kbs[k]? = some z->∃ j1 j2 s,z=.cp j1 j2 s/\wy w0 w1 j1=some (j2,s)/\j2<2
 back:∀ b g s,b<2->wy w0 w1 b=some (g,s)->∃ k,D.testBit k=true/\kbs[k]? = some (.cp b g s)
inductive gC (nx:Pt->Option Pt) (hd:Pt->Prop):Pt->Prop
 | one {p q:Pt}:hd p->nx p=some q->gC nx hd q
 | more {p q:Pt}:gC nx hd p->nx p=some q->gC nx hd q
structure zq (kbs:List Kb) (D:Nat) (w0 w1:Way):Prop where
 out:∀ (k:Nat) (z:Kb),D.testBit k=true->kbs[k]? = some z->(∃ w i,z=.pl w i) \/ ∃ j1 j2 s,z=.cp j1 j2 s/\wy w0 w1 j1=some (j2,s)/\j2<2
 back:∀ b g s,b<2->wy w0 w1 b=some (g,s)->∃ k:Nat,D.testBit k=true/\kbs[k]? = some (.cp b g s)
end Og
namespace L2
open PySem PySem.Spec PySem.Calls PyProof.Rows
theorem Vt (c:X.A.units<cLine):HN X (compareOp .NotEq) (λx y H Q=>∃ p q xs,x=V.ref p/\y=V.ref q/\Dg X.K H p xs/\Dg X.K H q []/\Q (.bl (!xs.isEmpty)) H):=by
 intro D s σ H x y v u Q I w l h
 obtain⟨p,q,xs,rfl,rfl,m,o,k⟩:=h
 cases w
 cases l
 obtain⟨A,r,g,C⟩:=I.list m
 obtain⟨B,i,d,n⟩:=I.list o
 have f:=r.length
 cases i
 cases xs with
 | nil =>
  cases r
  refine SeqAt.RcNeAt.lists (e:=λ_=>true) g.isList d.isList rfl c (λj t E=>?_) _ _ _ _ ⟨.bl _,H,I,rfl,k⟩
  exact absurd t (ip _)
 | cons a b =>
  refine SeqAt.RcNeAt.lists_lengths g.isList d.isList (by simp;intro z;rw[z] at f;simp at f) c _ _ _ _ ⟨.bl _,H,I,rfl,k⟩
end L2
namespace Gn
end Gn
namespace L2
open PySem PySem.Spec PySem.Calls PyProof.Rows
inductive o_ (K:W.Frag) (O:Addr) (ts:TS) (D:Ends) (C:Value) (od:Option Addr) (σ:St) (H2:Hp):Prop
 | mk (Ca:_):C=.ref Ca->W.mroIn K Ca (.ref O)=some true->ts D σ H2->o_ K O ts D C od σ H2
def pY (K:W.Frag) (tb:XR->TS) (O:Addr) (ts:TS):TS:=λD σ H=>tb (o_ K O ts D) D σ H
section
variable {O:Addr} {cn:Str} {np vt:Pos} {body:List Stmt} {b0:Stmt} {oI:List Stmt} {ts:TS} {tb:XR->TS}
theorem SJ (hb:∀ ER,WK X ER body (tb ER)) (U:Gl X cn) (N:X.mg cn=some (.ref O)) (qO:W.excIn X.K O Q4 "ValueError.__new__" = true)
  (hs:∀ x,Ni (X.inX x) (b0::oI) ts) (xl:X.xe=λ_ _=>False:=by rfl) (w:X.stack=X.env::X.outer:=by rfl) (SV:X.env.frame=some X.env.locals:=by rfl) (H:(cn == ("__debug__" : Str))=false:=by decide) :
  PS X (.Try body [.ExceptHandler (some (.Name cn np)) none (b0::oI) vt] [] [] pos) (pY X.K tb O ts):=by
 intro A s₀ σ₀ H₀ D I₀ h₀
 refine wpAny_Try_except (wpAny_mono (hb _ A s₀ σ₀ H₀ D I₀ h₀) (λR s' q=>?_) λt s' q=>?_)
 ·cases R with
  | next=>exact wpAny_execs_nil q
  | brk=>exact q
  | cont=>exact q
  | ret u=>exact q
 ·obtain⟨σ,H1,d,f,x,T,C,od,h,rfl,os,a,y,I,nT,M,oq,Q,L,Ca,eC,Fa,G⟩:=q
  cases eC
  obtain⟨p,g,e,c,BG⟩:=s'
  obtain rfl:BG=d.os:=os
  have I2:Inv X A σ h ⟨p,g,e,c,d.os⟩:=f.call (h':=p) (g':=g) (d':=e) (t':=c) (ch:=[]) L Q a (λb z=>absurd z (by simp))
  have k:=f.ok.frames
  have n:=I2.stack
  rw[w] at k n
  refine Sv (s:=⟨p,g,e,c,d.os⟩) k n SV y λP T3 y3 m3 Y=>?_
  refine GX (s:=⟨P,g,e,c,d.os⟩) y3 λl V m4=>?_
  have m:d.heap.get? T3=none:=by
   cases z:d.heap.get? T3 with
   | none=>rfl
   | some o =>
    obtain⟨o',t⟩:=L.there T3 o z (by simp)
    have K:p.get? T3=none:=Y
    rw[K] at t;cases t
  have r:h T3=none:=Q.none_of Y
  have B:Mv (frs X.stack) x T p P:=by rw[w];exact m3
  have u3:=L.mv B I nT (λb z z'=>absurd z z')
  have u4:=u3.mv m4 I m (λ_ z=>nomatch z)
  have k3:GK X.prog X.w h P:=Q.mv B M oq I2.Il
  have k4:GK X.prog X.w h l:=k3.mv m4 M r (λ_ z=>nomatch z)
  have I4:Inv X A σ h ⟨l,g,e,c,d.os⟩:=f.call (h':=l) (g':=g) (d':=e) (t':=c) (ch:=[]) u4 k4 a (λb z=>absurd z (by simp))
  refine wpAny_handleBy_cons (codeAny_handlers_test (Jy (I4.inX x) U N ?_ H)) (by intro q;cases q)
  obtain⟨ws,wt,sl,oT,ex,_⟩:=id V
  refine Pj (s:=⟨l,g,e,c,d.os⟩) I4.HH ex qO Fa ?_
  refine codeAny_handlers_suite (GX (s:=⟨l,g,e,c,d.os⟩) V λS y5 m5=>?_)
  have u5:=u4.mv m5 I m (λ_ z=>nomatch z)
  have k5:GK X.prog X.w h S:=k4.mv m5 M r (λ_ z=>nomatch z)
  have I5:Inv X A σ h ⟨S,g,e,c,d.os⟩:=f.call (h':=S) (g':=g) (d':=e) (t':=c) (ch:=[]) u5 k5 a (λb z=>absurd z (by simp))
  refine wpAny_mono (hs x A _ _ _ _ (I5.inX x) G) (λR Z j=>?_) λt Z j=>?_
  ·cases R with
   | next=>obtain⟨F,E,J,i⟩:=j;exact⟨_,_,J.Zk f.ok,i⟩
   | brk=>obtain⟨F,E,J,i⟩:=j;exact⟨_,_,J.Zk f.ok,i⟩
   | cont=>obtain⟨F,E,J,i⟩:=j;exact⟨_,_,J.Zk f.ok,i⟩
   | ret u=>obtain⟨v,F,E,J,rv,i⟩:=j;exact⟨_,_,_,J.Zk f.ok,rv,i⟩
  ·have YN:X.xe t Z:=j
   rw[xl] at YN
   exact YN.elim
end
open PySem PySem.Spec PyProof.Rows
end L2
namespace Og
end Og
namespace L2
open PySem PySem.Spec PyProof.Rows
section
variable {o f:Expr} {f':Pos} {td ty tx:TE}
inductive Su (K:W.Frag) (P:Params) (ty tx:TE) (σ:St) (Q:VK) (x:V) (H1:Hp):Prop
 | mk (a:_):x=.ref a->KDict K P a->(ty σ H1 λy H2=>tx σ H2 λd H3=>∃ z r,y=.str z/\W.nsIn K a z=some r/\∃ v,RelV v (r.getD .none)/\(r.isSome=true->Q v H3)/\(r.isSome=false->Q d H3))->Su K P ty tx σ Q x H1
def jX (K:W.Frag) (P:Params) (td ty tx:TE):TE:=λσ H Q=>td σ H λx H1=>Su K P ty tx σ Q x H1
theorem YF (V:PE X o td) (M:PE X e ty) (T:PE X f tx) (m:M2 X o "get" d6 e f f'):PE X (.Call (.Attribute o "get" d6) [e,f] [] f') (jX X.K X.w.params td ty tx):=by
 intro c s σ H Q I h
 refine wpAny_Call_method m.base m.few m.line gI eJ iX (CK (V c s σ H _ I h) λu P C=>?_)
 obtain⟨x,R,g,K,a,L,d,S⟩:=C
 subst L
 obtain rfl:u=Value.ref a:=K
 obtain⟨⟨es,n,hl,l⟩,lo⟩:=d
 have Y:=W.mapOf_K (prog:=X.prog) g.HH hl l
 refine⟨Y.typeIs,λb q=>?_,?_⟩
 ·cases q
  exact⟨_,g.HH _ _ hl,rfl⟩
 rw[m.trees]
 refine Calls.callWith_builtin rfl (Calls.evalArgs_plain (Calls.spliced_cons (CK (M c P σ R _ g S) λiv N ⟨y,O,J,B,D⟩ =>
  Calls.spliced_cons (CK (T c N σ O _ J D) λZ s3 ⟨E,k,i,F,z,r,A,G,v,U,p,w⟩=>Calls.spliced_nil ?_))))
 subst A
 obtain⟨t,rfl⟩:=B
 have j:=W.mapOf_K (prog:=X.prog) i.HH hl l
 refine call_meetsIn eJ j.typeIs PySem.F.entry_dict_get (PySem.F.args_dict_get_3 _ _ _) (meets_dict_get_default (strKind X.prog X.w) a (strKind_is X.prog X.w z t) lo Z) ⟨_,j,?_⟩
 rw[W.find_K hl G]
 cases r with
 | none=>exact⟨E,k,i.tok _,F,w rfl⟩
 | some u=>exact⟨v,k,i.tok _,U,p rfl⟩
end
theorem Cw {X:Cx} {x:Str} {e:Expr} {b:TE} {c a:Pos} (i:Nat) (h:X.N.Nodup) (hi:X.N[i]? = some x) (f:Loc X.env.scope x) (j:PE X e b) (g:swapsWith e (some (.Name x c)) a.line X.env=pure false) (d:X.fn x=true \/ X.env.scope.names.lookup x=some .local) :
  PS X (.Assign [.Name x c] e a) (Uc b (Dc i)):=Ba h hi f j g d
theorem BK {X:Cx} {e:Expr} {a:List Expr} {b:TE} {t:TA} (h:starEach (e::a) X.env=(false,eval e X.env)::starEach a X.env) (c:PE X e b) (d:PA X a t):PA X (e::a) (cT b t):=Aa c d h
end L2
namespace Og
open PySem L2
def zm (kd a k:Nat):Str:=if kd=0 then lB k++Txt.mul "v" (a:Nat) else if kd=1 then Txt.mul "o" (((1+k % 6:Nat)):Int)++Txt.mul "b" (((k / 6:Nat)):Int) else (Txt.slice "qrst" none (some (a:Nat))++lB k)++Txt.slice "qrst" (some (a:Nat)) none
def nmB (z:Str):Bool:=decide (1<=z.length) && decide (z.length<=8) && z.cps.toList.all (λc=>decide (97<=c/\c<=122)) && (match z.cps.toList with | c::_=>decide (c<=116) | []=>false)
def zu (z:Str):Nat:=z.cps.toList.headD 0
structure zK where
 rows:List R
 bs:List (Str × Nat)
 rk:List (Str × Nat × Int)
 ks:List R
 ls:List (List Ln)
 sts:List Nat
 sn:List Str
structure zb (K:W.Frag) (aB aP aM:Addr) (kd a i m:Nat) (S:zK):Prop where
 bl:HX K aB aP aM S.rows S.bs S.rk S.ks S.ls S.sts
 rb:∀ (j:Nat) b,S.bs[j]? = some b->S.rows[j]? = some (Es b)
 b1:1<=S.bs.length
 b3:S.bs.length<=3
 sb:∀ b∈S.bs,isNm b.1/\120<=zu b.1/\1<=b.2/\b.2<=61
 db:(S.bs.map (·.1)).Nodup
 rk1:∃ (m:Nat) (wi:Int),S.rk=[(("u" : Str),m,wi)]/\1<=m/\m<=97
 ek:S.rows.filter (λr=>G3 r.w)=S.ks
 nk:S.ks.map (·.nm)=(List.range i).map (zm kd a)
 sn:∀ t∈S.sn,∃ k∈S.ks,k.w = "stop" /\ k.nm=t
 sd:S.sn.Nodup
 sl:S.sn.length<=i
 st:S.sts.length<=i
 lr:S.rows.length<=m
 kb:∀ r∈S.ks,∃ b∈S.bs,∃ rs,r.rest=V.str b.1::rs
 bz:∀ b∈S.bs,b.1 ≠ "zz"
section
variable {K:W.Frag} {kd a:Nat} {S:zK}
end
end Og
namespace L2
open PySem PySem.Spec PySem.Calls PyProof.Rows
theorem Inv.freeze (I:Inv X a8 σ H s) (e:H a=some (.dK kvs)):∃ o,Inv X a8 σ (upd H a (.frz o (.dK kvs))) s:=by
 have h:CQ X.prog X.w H s.heap a (.dK kvs):=I.hok a _ e
 obtain⟨_,_,r,j,f,t,p,k,_⟩:=id h
 have up1:∀ b x,H b=some (.own x)->upd H a (.frz f (.dK kvs)) b=some (.own x):=λb x q=>by
  rw[Aw λz=>by rw[z,e] at q;cases q];exact q
 have d:∀ b i,H b=some (.tup i)->upd H a (.frz f (.dK kvs)) b=some (.tup i):=λb x q=>by
  rw[Aw λz=>by rw[z,e] at q;cases q];exact q
 refine⟨f,I.step (h':=s.heap) (g':=s.gens) (d':=s.drawn) (t':=s.toks) (ch:=[]) (λ_ z=>nomatch z) (λb o _ _ _ q _=>q) (λb o _ _ _ q _=>⟨o.slots,q⟩) (λb o _ _ n=>?_) (λb o _ q=>⟨o,q⟩) d (λb o u q=>?_) (λb l q=>⟨#[],?_⟩) (λm q=>q) (λb u q=>?_) I.bare⟩
 ·rw[Aw λz=>by rw[z,e] at n;cases n];exact n
 ·rw[Aw λz=>by rw[z,e] at q;cases q];exact q
 ·rw[Aw (λz=>by rw[z,e] at q;cases q),q];simp
 ·by_cases g:b=a
  ·subst g
   rw[Ak] at q
   cases q
   exact⟨k,h.stay (λ_ _ _ q=>q) (λc q=>up1 c _ q) d⟩
  ·rw[Aw g] at q
   exact (I.hok b u q).stay (λ_ _ _ q=>q) (λc q=>up1 c _ q) d
def WR (o:Obj):Nat:=match o.data with | .dict _ n=>n | _=>0
def vm (a:Addr) (o:Obj) (kvs:List (Key × V)):It :=
 ⟨λi H=>H a=some (.frz o (.dK kvs))/\i<kvs.length,λi H v H'=>∃ T kv,H T=none/\v=.ref T/\kvs[i]? = some kv/\H'=upd H T (.tup [kV kv.1,kv.2]),λi H=>H a=some (.frz o (.dK kvs))/\kvs.length<=i⟩
theorem my {w:World} {k:Key} (h:(Bt P w).is k u=true):RelV (kV k) u:=by
 rcases CT (show Jl k u=true from h) with⟨i,t,rfl,rfl⟩ | ⟨x,t,rfl,rfl⟩
 ·exact⟨t,rfl⟩
 ·exact⟨t,rfl⟩
theorem gW:∀ {l:List (Key × V)} {m:List (Key × Value)},KV l m->∀ {j:Nat} {p:Key × V},l[j]? = some p->∃ q,m[j]? = some q/\p.1=q.1/\RelV p.2 q.2:=by
 intro l m h
 unfold KV at h
 induction h with
 | nil=>intro j p c;simp at c
 | cons a b d =>
  intro j p c
  cases j with
  | zero =>
   simp at c
   subst c
   exact⟨_,rfl,a⟩
  | succ j=>exact d (by simpa using c)
theorem Q_ {w:World} {K:W.Frag} {k1:Nat} (a d:Addr) (o:Obj) (kvs:List (Key × V)) (ab:a ≠ d) :
  Turn P w K (.Tuple es k1 pos) (vm a o kvs) [d] d (λi h=>∃ ok ov,IsItemIter h d a i kvs.length (WR o) ok ov) where
 mem:=by simp
 obj:=λi h st b e=>by
  obtain⟨ok,ov,c⟩:=st
  have q:b=d:=by simpa using e
  subst q
  exact⟨_,c,λv z=>by
   have z':Data.fields _=Data.cell v:=z
   cases z'⟩
 keep:=λi h h' st k=>by
  obtain⟨ok,ov,c⟩:=st
  exact⟨ok,ov,k d (by simp) _ c⟩
 item:=by
  intro X L S J Z i a8 s σ H E I A st N
  subst L S J
  obtain⟨C,hi⟩:=N
  obtain⟨ok,ov,c⟩:=st
  have M:CQ X.prog X.w H s.heap a (.frz o (.dK kvs)):=I.hok a _ C
  obtain⟨t,_,_,y,f,ob,l,G,n,O,m,Q,R,B⟩:=M
  rw[t] at n
  cases n
  have j:WR o=G:=by unfold WR;rw[m]
  have g:s.heap.DictAt (Bt X.prog X.w) a y (WR o):=⟨o,l,t,O,by rw[j];exact m,Q,R,B⟩
  have hl:=f.length
  obtain⟨⟨k,x⟩,hx⟩:∃ p,kvs[i]? = some p:=⟨kvs[i],by simp[hi]⟩
  obtain⟨⟨k',u⟩,hu,ek,ru⟩:∃ q,y[i]? = some q/\k=q.1/\RelV x q.2:=by
   exact gW f hx
  have D:k=k':=ek
  subst D
  rw[hl] at c
  refine wpAny_pyNext_items_item c g hu λF Y r n1 n3 n4 n5=>?_
  refine⟨_,rfl,wpAny_letOwnedTupleGo_items (s:={ s with heap:=Y }) n1 λh2 m1 U=>?_⟩
  have T:s.heap.objs.size ≠ d:=gX (Heap.lt_size c)
  have fr:H s.heap.objs.size=none:=I.hok.fresh (ah _)
  have nw:CQ X.prog X.w (upd H s.heap.objs.size (.tup [kV k,x])) h2 s.heap.objs.size (.tup [kV k,x]) :=
   ⟨by show 2<=sizeLine;decide,[F,u],.cons (my r) (.cons ru .nil),_,U.extBut _ _ T n3,rfl,_,rfl⟩
  refine⟨.ref s.heap.objs.size,_,I.MN (t':=s.toks) (ch:=[d]) A (λb o e q=>?_) (ah _) nw,rfl,⟨_,(k,x),fr,rfl,hx,rfl⟩,⟨_,_,by rw[hl];exact m1⟩,λb e=>?_⟩
  ·exact U.extBut _ _ (λz=>e (by simp[z])) (n5 b o (λz=>e (by simp[z])) q)
  ·have q:b=d:=by simpa using e
   subst q
   rw[Aw (Ne.symm T)]
   exact (A _ e).1
 done:=by
  intro X L S J Z i a8 s σ H E I A st N
  subst L S J
  obtain⟨C,hi⟩:=N
  obtain⟨ok,ov,c⟩:=st
  have M:CQ X.prog X.w H s.heap a (.frz o (.dK kvs)):=I.hok a _ C
  obtain⟨t,_,_,y,f,ob,l,G,n,O,m,Q,R,B⟩:=M
  rw[t] at n
  cases n
  have j:WR o=G:=by unfold WR;rw[m]
  have g:s.heap.DictAt (Bt X.prog X.w) a y (WR o):=⟨o,l,t,O,by rw[j];exact m,Q,R,B⟩
  have hl:=f.length
  rw[hl] at c
  exact wpAny_pyNext_items_end (I.ok.hd Z) c g (List.getElem?_eq_none (by omega)) λY eb=>⟨rfl,I.N_ (t':=s.toks) (ch:=[d]) A λb o e q=>eb b o (λz=>e (by simp[z])) q⟩
 self:=λ_ _ _ _ _ st h=>by
  obtain⟨ok,ov,c⟩:=st
  exact W.kcp_self c h
inductive TY (R:It->Hp->Prop) (x:V) (H1:Hp):Prop
 | mk (a o kvs:_):x=.ref a->H1 a=some (.frz o (.dK kvs))->R (vm a o kvs) H1->TY R x H1
def iH (td:TE):TI:=λσ H R=>td σ H λx H1=>TY R x H1
theorem Vn {k1:Nat} {C w:Pos} {o:Expr} {A:TE} (Q:PE X o A)
  (g:attributeBase o "items" X.env (eval o X.env)=eval o X.env:=by rfl) (U:(d6.endLine == w.line)=true:=by rfl):PI X (.Tuple es k1 C) (.Call (.Attribute o "items" d6) [] [] w) (iH A):=by
 intro J s σ H R I h
 refine wpAny_Call_method0_late g U (CK (Q J s σ H _ I h) λv c G=>?_)
 obtain⟨x,z,r,M,a,f,kvs,N,B,q⟩:=G
 subst N
 cases M
 obtain⟨u,K,O⟩:=Rh r (.inl ⟨kvs,.inr ⟨f,B⟩⟩)
 refine⟨"dict","dict.items",gI,PySem.F.slot_dict_items,PySem.F.type_dict_items,u,K,Calls.callWith_builtin rfl (PySem.evalArgs_none ?_)⟩
 have P:CQ X.prog X.w z c.heap a (.frz f (.dK kvs)):=r.hok a _ B
 obtain⟨j,_,_,l,k,W,p,L,y,S,t,T,V,D⟩:=P
 rw[j] at y
 cases y
 have n:WR f=L:=by unfold WR;rw[t]
 have i:c.heap.DictAt (Bt X.prog X.w) a l (WR f):=⟨f,p,j,S,by rw[n];exact t,T,V,D⟩
 have hl:=k.length
 refine call_meetsIn PySem.F.slot_dict_items u PySem.F.entry_dict_items (PySem.F.args_dict_items_1 _) (meets_dict_items (Bt X.prog X.w) a O) ⟨⟨l,i.dictOf⟩,?_⟩
 have E:a<c.heap.objs.size:=Heap.lt_size j
 refine wpAny_pyIter_items (v:=c.heap.objs.size) (d:=a) (kvs:=l) (ep:=WR f) ⟨_,Heap.get?_push_size _ rfl,rfl,rfl⟩ (i.push _) ?_
 have m:=r.kept (h':=c.heap.push { cls:=.type "dict_items",data:=.fields #[.ref a] }) (t':=c.toks) λb o e=>Heap.get?_push_of_some _ e
 refine⟨_,[_],_,_,z,rfl,m.kept (t':=c.toks) λb o e=>Heap.get?_push_of_some _ e,Q_ a _ f kvs ?_,⟨_,_,by rw[hl];exact Heap.get?_push_size _ rfl⟩,λb F=>?_,q⟩
 ·rw[Heap.size_push]
  exact br (fT E)
 ·have e:b=(c.heap.push { cls:=.type "dict_items",data:=.fields #[.ref a] }).objs.size:=by simpa using F
  subst e
  exact m.Ms (ah _) (m.hok.fresh (ah _))
section
variable {Q:VK}
theorem RG {K:W.Frag} {o:Obj} (p:Key × V->Bool) (f:Key × V->V) (t:H1 a=some (.frz o (.dK kvs))) (w:kvs.length<sizeLine)
  (z:∀ kv∈kvs,∀ H,Am H1 H->∀ R:Bool->Hp->Prop,(∀ H',Am H H'->R (p kv) H')->tt (some (kV kv.1)::some kv.2::σ) H R)
  (y:∀ kv∈kvs,p kv=true->∀ H,Am H1 H->∀ R:VK,(∀ H',Am H H'->R (f kv) H')->te (some (kV kv.1)::some kv.2::σ) H R)
  (x:∀ D H,H1 D=none->Am H1 H->H D=some (.lst ((kvs.filter p).map f))->Q (.ref D) H):Im (vm a o kvs) σ H1 Q (Ot K 2 (Ff (Dc 0) (Ff (Dc 1) P_))) tt te:=by
 intro D q
 have B:Am H1 (upd H1 D (.lst [])):=λb o e=>by rw[Aw (Ai e q)];exact e
 refine⟨λi m s H=>m=kvs.length - i/\i<=kvs.length/\s=(((kvs.take i).filter p).map f)/\H D=some (.lst s)/\Am H1 H,⟨kvs.length,by simp,Nat.zero_le _,by simp,Ak,B⟩,?_⟩
 rintro i m s H ⟨rfl,I,rfl,n,c⟩
 by_cases d:i<kvs.length
 ·refine .inr ⟨⟨c _ _ t,d⟩,λv L C E J=>?_⟩
  obtain⟨T,kv,A,rfl,r,rfl⟩:=C
  have h:=ai r
  have g:Am H (upd H T (.tup [kV kv.1,kv.2])):=λb o e=>by rw[Aw (Ai e A)];exact e
  have l:(((kvs.take i).filter p).map f).length<sizeLine:=by
   rw[af]
   refine aT (bE _ _) (aT ?_ w)
   rw[ck];omega
  refine⟨T,[kV kv.1,kv.2],rfl,kK Ak,rfl,_,[kv.2],rfl,kv.2,[],rfl,rfl,⟨_,_,rfl⟩,?_⟩
  refine z kv h _ (c.trans g) _ λG j=>?_
  by_cases k:p kv=true
  ·rw[if_pos k]
   refine y kv h k _ (c.trans (g.trans j)) _ λF u=>?_
   refine⟨u _ _ (j _ _ (g _ _ n)),l,kvs.length - (i+1),by omega,rfl,d,?_,Ak,λb o e=>?_⟩
   ·rw[take_succ_filter p kvs i kv r,if_pos k,cm]
    rfl
   ·rw[Aw (Ai e q)]
    exact u _ _ (j _ _ (g _ _ (c _ _ e)))
  ·rw[if_neg k]
   refine⟨kvs.length - (i+1),by omega,rfl,d,?_,j _ _ (g _ _ n),c.trans (g.trans j)⟩
   rw[take_succ_filter p kvs i kv r,if_neg k,dS]
 ·have e:i=kvs.length:=by omega
  subst e
  rw[eD] at n
  exact .inl ⟨⟨c _ _ t,ah _⟩,x D H q c n⟩
end
open PySem PySem.Spec PyProof.Rows
section
variable {Q:VK}
end
open PySem PySem.Spec PySem.Calls PyProof.Rows
theorem Inv.wj {o:Obj} {u:HO} (I:Inv X a8 σ H s) (e:H a=some (.frz o u)) (nb:∀ o' u',X.H₀ a ≠ some (.frz o' u')):Inv X a8 σ (upd H a u) s:=by
 have m:CQ X.prog X.w H s.heap a (.frz o u):=I.hok a _ e
 obtain⟨A,v⟩:=id m
 have up1:∀ b x,H b=some (.own x)->upd H a u b=some (.own x):=λb x q=>by
  rw[Aw λz=>by rw[z,e] at q;cases q];exact q
 have d:∀ b g,H b=some (.tup g)->upd H a u b=some (.tup g):=λb x q=>by
  rw[Aw λz=>by rw[z,e] at q;cases q];exact q
 have h:∀ b,H b=none->upd H a u b=none:=λb n=>by rw[Aw λz=>by rw[z,e] at n;cases n];exact n
 refine⟨I.ok,I.os,I.bare,⟨I.base.keep,I.base.slot,λb o q n k=>h b (I.base.free b o q n k),I.base.there,λb g q=>d b g (I.base.tups b g q),λb o' u' q=>?_,λb l q=>?_⟩,I.loc,I.cell,h _ I.free,λx c q=>h _ (I.freeC x c q),λp t=>?_,λb u' q=>?_,I.len⟩
 ·have:=I.base.frzs b o' u' q
  rw[Aw λz=>nb o' u' (by rw[<-z];exact q)]
  exact this
 ·obtain⟨f,i⟩:=I.base.tbls b l q
  exact⟨f,by rw[Aw λz=>by rw[z,e] at i;cases i];exact i⟩
 ·obtain⟨y,r,w⟩:=I.pin p t
  exact⟨y,h _ r,w⟩
 ·by_cases j:b=a
  ·subst j
   rw[Ak] at q
   cases q
   exact v.stay (λ_ _ _ q=>q) (λc q=>up1 c _ q) d
  ·rw[Aw j] at q
   exact (I.hok b u' q).stay (λ_ _ _ q=>q) (λc q=>up1 c _ q) d
theorem Inv.mV (I:Inv X a8 σ H s) (e:H a=some (.dK kvs)):∀ o' u',X.H₀ a ≠ some (.frz o' u'):=λo' u' q=>by
 have:=I.base.frzs a o' u' q
 rw[e] at this
 cases this
inductive Wj (t:TE) (σ:St) (H:Hp) (Q:VK):Prop
 | mk (a kvs:_):H a=some (.dK kvs)->(∀ o,t σ (upd H a (.frz o (.dK kvs))) λv H'=>H' a=some (.frz o (.dK kvs))/\Q v (upd H' a (.dK kvs)))->Wj t σ H Q
theorem V8 {t:TE} (h:PE X e t):PE X e (Wj t):=by
 intro g s σ H Q I q
 obtain⟨a,c,b,q⟩:=q
 have nb:=I.mV b
 obtain⟨o,J⟩:=I.freeze b
 refine CK (h g s σ _ _ J (q o)) λv l i=>?_
 obtain⟨x,k,j,r,d,f⟩:=i
 exact⟨x,_,j.wj d nb,r,f⟩
end L2
namespace Og
open PySem L2
structure EY (kvs:List (Key × V)) (c:Nat->Nat):Prop where
 e:∀ kv∈kvs,∃ k:Nat,kv=(Sum.inl (k:Int),V.int ((c k:Nat):Int))/\k<1200
 v:∀ k:Nat,CP kvs (Sum.inl (k:Int))=some (.int ((c k:Nat):Int)) \/ (CP kvs (Sum.inl (k:Int))=none/\c k=0)
theorem EY.nil:EY [] λ_=>0:=⟨(λ_ h=>nomatch h),λk=>.inr ⟨rfl,rfl⟩⟩
theorem EY.getD (h:EY kvs c) (k:Nat):(CP kvs (Sum.inl (k:Int))).getD (.int 0)=.int ((c k:Nat):Int):=by
 rcases h.v k with e | ⟨e,z⟩
 ·rw[e];rfl
 ·rw[e,z];rfl
theorem Xh {k:Key} {v:V} {b:Key × V} (h:b∈putK kvs k v):b=(k,v) \/ (b∈kvs/\b.1 ≠ k):=by
 unfold putK at h
 split at h
 ·obtain⟨p,d,e⟩:=ar.mp h
  by_cases a:p.1=k
  ·rw[if_pos a] at e
   first | exact .inl e.symm | (left;rw[<-e,a])
  ·rw[if_neg a] at e
   exact .inr ⟨e ▸ d,e ▸ a⟩
 ·rename_i c
  rcases bX.mp h with z | z
  ·refine .inr ⟨z,λa=>c ?_⟩
   exact fF.mpr ⟨b,z,decide_eq_true a⟩
  ·exact .inl (av.mp z)
theorem Pn {k:Key} {v:V}:(putK kvs k v).length<=kvs.length+1:=by
 unfold putK
 split
 ·rw[af];omega
 ·rw[am];exact ah _
abbrev setC (c:Nat->Nat) (k n:Nat):Nat->Nat:=λj=>if j=k then n else c j
theorem EY.put {k:Nat} (h:EY kvs c) (f:k<1200):EY (putK kvs (Sum.inl (k:Int)) (.int ((n:Nat):Int))) (setC c k n):=by
 refine⟨λe b=>?_,λj=>?_⟩
 ·rcases Xh b with rfl | ⟨g,d⟩
  ·exact⟨k,by rw[show setC c k n k=n from if_pos rfl],f⟩
  ·obtain⟨j,rfl,a⟩:=h.e e g
   refine⟨j,?_,a⟩
   rw[show setC c k n j=c j from if_neg λz=>d (by rw[z])]
 ·rw[Gy]
  by_cases a:j=k
  ·subst a
   rw[if_pos rfl,show setC c j n j=n from if_pos rfl]
   exact .inl rfl
  ·rw[if_neg (λz=>a (by have:=Sum.inl.inj z;omega)),show setC c k n j=c j from if_neg a]
   exact h.v j
def D_ (kvs:List (Key × V)):List Nat:=(kvs.filter λkv=>match kv.2 with | .int n=>decide (0<n) | _=>false).map λkv=>match kv.1 with | .inl i=>i.toNat | _=>0
theorem EY.mem (h:EY kvs c) (k:Nat):k∈D_ kvs ↔ 0<c k:=by
 unfold D_
 rw[ar]
 constructor
 ·rintro⟨a,f,e⟩
  obtain⟨n,g⟩:=aS.mp f
  obtain⟨j,rfl,_⟩:=h.e a n
  have o:decide (0<((c j:Nat):Int))=true:=g
  have:0<((c j:Nat):Int):=of_decide_eq_true o
  have b:(j:Int).toNat=k:=e
  rw[bb] at b
  subst b
  omega
 ·intro q
  rcases h.v k with e | ⟨_,z⟩
  ·unfold CP at e
   obtain⟨a,d,l⟩:=aE.mp e
   have i:=List.mem_of_find?_eq_some d
   have m:a.1=Sum.inl (k:Int):=of_decide_eq_true (List.find?_some (p:=λa:Key × V=>decide (a.1=Sum.inl (k:Int))) d)
   refine⟨a,aS.mpr ⟨i,?_⟩,?_⟩
   ·rw[l]
    exact decide_eq_true (by omega)
   ·rw[m]
    exact bb k
  ·omega
theorem EY.bound (h:EY kvs c):∀ k∈D_ kvs,k<1200:=λk d=>by
 obtain⟨b,a,e⟩:=ar.mp d
 obtain⟨j,rfl,g⟩:=h.e b (aS.mp a).1
 have f:(j:Int).toNat=k:=e
 rw[bb] at f
 omega
theorem Ug (kvs:List (Key × V)):(D_ kvs).length<=kvs.length:=by
 unfold D_
 rw[af]
 exact bE _ _
structure VR (C Cy Cp:Addr) (Ho H:Hp) (z x y hd:Addr) (us:List V) (bs:List (Str × Nat)) (rk:List (Str × Nat × Int)) (ks:List R) (ls:List (List Ln)) (sts:List Nat) (dr sh:Nat) (sd:Addr) (kvs:List (Key × V)) (c:Nat->Nat):Prop where
 con:ZZ C Cy Ho H y x us bs rk ks ls sts dr sh sd
 O5:JX Cp H z x y hd
 n:Ho hd=none
 d:H hd=some (.dK kvs)
 h:EY kvs c
section
variable {x:Addr} {bs:List (Str × Nat)} {rk:List (Str × Nat × Int)} {g0:List (Key × V)} {c':Nat->Nat}
theorem VR.mono (s:Am H H') (p:VR C Cy Cp Ho H z x y hd us bs rk ks ls sts dr sh sd kvs c):VR C Cy Cp Ho H' z x y hd us bs rk ks ls sts dr sh sd kvs c :=
 ⟨⟨p.con.o,p.con.s.trans s,p.con.n,p.con.c.mono s⟩,p.O5.mono s,p.n,s _ _ p.d,p.h⟩
theorem VR.put (p:VR C Cy Cp Ho H z x y hd us bs rk ks ls sts dr sh sd kvs c) (h:EY g0 c'):VR C Cy Cp Ho (upd H hd (.dK g0)) z x y hd us bs rk ks ls sts dr sh sd g0 c':=by
 obtain⟨f,fs,a,k⟩:=p.con.c.ex
 obtain⟨l,i,d,g⟩:=p.O5.ex
 have m:y ≠ hd:=λe=>by rw[e,p.d] at a;cases a
 have j:z ≠ hd:=λe=>by rw[e,p.d] at d;cases d
 exact⟨⟨p.con.o,λb o e=>by rw[Aw (Ai e p.n)];exact p.con.s b o e,p.con.n,f,fs,by rw[Aw m];exact a,k⟩,⟨l,i,by rw[Aw j];exact d,g⟩,p.n,Ak,h⟩
end
end Og
namespace Sm
open PySem PyProof.Rows
local macro_rules | `(tactic| delta gallopOpen)=>`(tactic| delta $(Lean.mkCIdent (Lean.mkPrivateNameCore `PySem.Builtin.List.W1All `PySem.Builtin.gallop)))
section
variable {w:World}
end
section
variable {α:Type} {L:α->α->Bool} {A B:List α}
structure Swo (L:α->α->Bool):Prop where
 asym:∀ x y,L x y=true->L y x=false
 co:∀ x y z,L x z=true->L x y=true \/ L y z=true
def bG (L:α->α->Bool) (l:List α):Prop:=l.Pairwise λx y=>L y x=false
structure Jm (L:α->α->Bool) (A B out:List α) (ia ib:Nat):Prop where
 la:ia<=A.length
 lb:ib<=B.length
 pm:out.Perm (A.take ia++B.take ib)
 rs:bG L out
 lo:∀ x∈out,∀ y,y∈A.drop ia \/ y∈B.drop ib->L y x=false
def Good (L:α->α->Bool) (A B r:List α):Prop:=r.Perm (A++B)/\bG L r
end
section
variable {α:Type} {L:α->α->Bool} {A B:List α}
end
end Sm
section PartSortM3
set_option maxHeartbeats 800000
namespace Sm
open PySem PyProof.Rows
local macro_rules | `(tactic| delta mergeHiOpen)=>`(tactic| delta $(Lean.mkCIdent (Lean.mkPrivateNameCore `PySem.Builtin.List.W1All `PySem.Builtin.mergeHi)))
section
variable {α:Type} {L:α->α->Bool} {A B:List α}
abbrev Fl (L:α->α->Bool):α->α->Bool:=λx y=>L y x
end
section
variable {w:World}
end
end Sm
end PartSortM3
section PartSortN
set_option maxHeartbeats 800000
namespace Sm
open PySem PyProof.Rows
section
variable {w:World} {ρ:Keyed->Nat} {S:Keyed->Prop} {κ:SortKind} {p0:Array (Nat × Nat × Nat)} {a0:Array Keyed} {lo:Nat}
def R (ρ:Keyed->Nat) (xs:Array Keyed) (i:Nat):Nat:=match xs[i]? with
 | some x=>ρ x
 | none=>0
structure Bs (κ:SortKind) (p0:Array (Nat × Nat × Nat)) (a0:Array Keyed) (lo:Nat) (st:SortSt):Prop where
 kind:kindOf st=κ
 pend:pendingOf st=p0
 fail:failedOf st=none
 perm:(arrOf st).Perm a0
 pre:∀ i,i<lo->(arrOf st)[i]? = a0[i]?
def Up (ρ:Keyed->Nat) (xs:Array Keyed) (a b:Nat):Prop:=∀ i j,a<=i->i<=j->j<b->R ρ xs i<=R ρ xs j
end
end Sm
end PartSortN
section PartSortP
set_option maxHeartbeats 800000
namespace Sm
open PySem PyProof.Rows
section
variable {w:World} {ρ:Keyed->Nat} {S:Keyed->Prop} {κ:SortKind}
def za (ρ:Keyed->Nat) (xs:Array Keyed):Nat->List (Nat × Nat × Nat)->Nat->Prop
 | a,[],b=>a=b
 | a,(p,n,_)::r,b=>p=a/\1<=n/\Up ρ xs a (a+n)/\za ρ xs (a+n) r b
structure Gs (ρ:Keyed->Nat) (κ:SortKind) (a0:Array Keyed) (ps:List (Nat × Nat × Nat)) (hi:Nat) (st:SortSt):Prop where
 kind:kindOf st=κ
 pend:pendingOf st=ps.toArray
 fail:failedOf st=none
 perm:(arrOf st).Perm a0
 adj:za ρ (arrOf st) 0 ps hi
end
end Sm
end PartSortP
namespace Sq
open PySem PySem.W PyProof.Rows
structure zx (lt:Nat->Nat->Bool):Prop where
 irr:∀ a,lt a a=false
 asy:∀ a b,lt a b=true->lt b a=false
 tr:∀ a b c,lt b a=false->lt c b=false->lt c a=false
def run {α:Type} (lt:Nat->Nat->Bool):KasT α->α
 | .ret a=>a
 | .ask i j k=>run lt (k (lt i j))
def K (p:Array Nat) (i:Nat):Nat:=(p[i]?).getD 0
section
variable {lt:Nat->Nat->Bool} (O:zx lt)
include O
def Up (lt:Nat->Nat->Bool) (p:Array Nat) (n:Nat):Prop:=∀ i j,i<=j->j<n->lt (K p j) (K p i)=false
end
end Sq
namespace Sq
open PySem PySem.W PyProof.Rows
def Rn {α:Type} (N:Nat):KasT α->(α->Prop)->Prop
 | .ret a,P=>P a
 | .ask i j k,P=>i<N/\j<N/\∀ b,Rn N (k b) P
def Bd (N:Nat) (p:Array Nat):Prop:=0<N/\∀ x∈p.toList,x<N
section
variable {N:Nat}
end
end Sq
namespace Sq
open PySem PySem.W PyProof.Rows
abbrev T3:=Int × Int × Int
def t3lt (a b:T3):Bool:=decide (a.1<b.1) || (decide (a.1=b.1) && (decide (a.2.1<b.2.1) || (decide (a.2.1=b.2.1) && decide (a.2.2<b.2.2))))
inductive uX (h:Heap) (v:Value) (t:T3):Prop
 | mk (x:Addr) (o:Obj) (k1 k2 k3:Tok) (n:Nat):v=.ref x->h.get? x=some o->o.cls=.type "tuple"->o.data=.seq #[.int t.1 k1,.int t.2.1 k2,.int t.2.2 k3] n->uX h v t
section
variable {w:World}
end
end Sq
namespace Sq
open PySem PySem.W PySem.Calls PyProof.Rows
section
variable {w:World}
end
end Sq
namespace Sq
open PySem PySem.W PySem.Calls PyProof.Rows
abbrev T2:=Int × Int
inductive yp (h:Heap) (v:Value) (t:T2):Prop
 | mk (x:Addr) (o:Obj) (k1 k2:Tok) (n:Nat):v=.ref x->h.get? x=some o->o.cls=.type "tuple"->o.data=.seq #[.int t.1 k1,.int t.2 k2] n->yp h v t
section
variable {w:World}
end
end Sq
namespace Sq
open PySem PySem.W PySem.Calls PyProof.Rows
section
variable {w:World}
end
end Sq
section PartSortX
set_option maxHeartbeats 800000
namespace Sx
open PySem PySem.W PySem.Calls PyProof.Rows Sm Sq
section
variable {β:Type} {blt:β->β->Bool}
structure Or (blt:β->β->Bool):Prop where
 irr:∀ a,blt a a=false
 asy:∀ a b,blt a b=true->blt b a=false
 tr:∀ a b c,blt b a=false->blt c b=false->blt c a=false
def rk (blt:β->β->Bool) (ts:List β) (c:β):Nat:=ts.countP λz=>blt z c
end
section
variable {w:World} {β:Type} {blt:β->β->Bool} {d:β}
end
end Sx
end PartSortX
namespace L2
open PySem PySem.Spec PyProof.Rows
end L2
namespace Wd
open PySem PyProof.Rows
section
variable {w:World} {σ:List Int}
end
end Wd
namespace L2
open PySem PySem.Spec PyProof.Rows
open PySem PySem.Spec PySem.Calls PyProof.Rows
theorem U3 (c:X.A.units<cLine):HN X (compareOp .Eq) (λx y H Q=>∃ p q xs,x=V.ref p/\y=V.ref q/\Dg X.K H p xs/\Dg X.K H q []/\Q (.bl xs.isEmpty) H):=by
 intro D s σ H x y v u Q I w l h
 obtain⟨p,q,xs,rfl,rfl,m,o,k⟩:=h
 cases w
 cases l
 obtain⟨A,r,g,C⟩:=I.list m
 obtain⟨B,i,d,n⟩:=I.list o
 have f:=r.length
 cases i
 cases xs with
 | nil =>
  cases r
  refine SeqAt.RcAt.lists (e:=λ_=>true) g.isList d.isList rfl c (λj t E=>?_) _ _ _ _ ⟨.bl _,H,I,rfl,k⟩
  exact absurd t (ip _)
 | cons a b =>
  refine SeqAt.RcAt.lists_lengths g.isList d.isList (by simp;intro z;rw[z] at f;simp at f) c _ _ _ _ ⟨.bl _,H,I,rfl,k⟩
open PySem PySem.Spec PyProof.Rows
theorem NT {α β:Type} {F:α->β->Prop}:∀ {l:List α} {vs:List β},Paired F l vs->∀ {i:Nat} {v},vs[i]? = some v->∃ a,l[i]? = some a/\F a v
 | [],_,h,i,v,b=>by cases h;simp at b
 | a::l,_,h,i,v,b=>by
  cases h with
  | cons x y =>
   cases i with
   | zero=>simp at b;subst b;exact⟨_,rfl,x⟩
   | succ i=>exact NT y (by simpa using b)
theorem Qw {K:W.Frag} {Q:VK} {ps:List (V × V)} (f:V × V->V) (k:Dg K H1 a vs) (n:Paired (λq v=>TupAt H1 [q.1,q.2] v) ps vs) (C:vs.length<sizeLine)
  (t:∀ q∈ps,∀ H,Am H1 H->∀ R:VK,(∀ H',Am H H'->R (f q) H')->te (some q.1::some q.2::σ) H R)
  (y:∀ D H,H1 D=none->Am H1 H->H D=some (.lst (ps.map f))->Q (.ref D) H):Im (a_ K a) σ H1 Q (Ot K 2 (Ff (Dc 0) (Ff (Dc 1) P_))) VN te:=by
 intro D g
 have w:Am H1 (upd H1 D (.lst [])):=λb o e=>by rw[Aw (Ai e g)];exact e
 have hl:=n.length
 refine⟨λi m l H=>m=vs.length - i/\i<=vs.length/\l=(ps.map f).take i/\H D=some (.lst l)/\Am H1 H,⟨vs.length,by simp,Nat.zero_le _,by simp,Ak,w⟩,?_⟩
 rintro i m l H ⟨rfl,E,rfl,h,c⟩
 by_cases d:i<vs.length
 ·have s:vs[i]? = some vs[i]:=ae d
  refine .inr ⟨⟨vs,_,c.seq k,s⟩,λv B j z F=>?_⟩
  obtain⟨rfl,j⟩:=j
  have x:=j vs (c.seq k)
  obtain⟨q,p,T,rfl,u⟩:=NT n x
  refine⟨T,[q.1,q.2],rfl,kK (c _ _ u),rfl,q.1,[q.2],rfl,q.2,[],rfl,rfl,⟨_,_,rfl⟩,?_⟩
  unfold VN
  dsimp only
  rw[if_pos rfl]
  refine t q (ai p) _ c _ λA r=>?_
  refine⟨r _ _ h,?_,vs.length - (i+1),by omega,rfl,d,?_,Ak,λb o e=>?_⟩
  ·rw[ck,af]
   omega
  ·rw[cr,al,p]
   rfl
  ·rw[Aw (Ai e g)]
   exact r _ _ (c _ _ e)
 ·have e:i=vs.length:=by omega
  subst e
  rw[<-hl,<-af (f:=f) (as:=ps),eD] at h
  exact .inl ⟨⟨vs,c.seq k,ah _⟩,y D H g c h⟩
section
variable {z:Str}
theorem Zw {k:Nat} {y:Str} {j g d b u:Pos} {A:TI} (N:X.N.Nodup) (n:X.N[i]? = some y) (f:X.env.scope.names.lookup y=some .local) (w:X.calm=true) (S:Ei X x z scope) (hi:PI X (.Tuple [.Name x j,.Name z g] k d) iter A)
  (W:∀ C s₀ H₀ fp,Ob (Bj X x z scope C s₀ H₀ fp) k7 tt) (V:∀ C s₀ H₀ fp,PE (Bj X x z scope C s₀ H₀ fp) k8 te) (G:swapsWith (.ListComp k8 [⟨.Tuple [.Name x j,.Name z g] k d,iter,k7,0⟩] scope pos) (some (.Name y b)) u.line X.env=pure true:=by rfl) (O:∀ x,foldedSetIterable iter X.env x=pure x:=by intro _;rfl) :
  PS X (.Assign [.Name y b] (.ListComp k8 [⟨.Tuple [.Name x j,.Name z g] k d,iter,k7,0⟩] scope pos) u) (Uc (RL A (Ot X.K 2 (Ff (Dc 0) (Ff (Dc 1) P_))) tt te) (Dc i)):=by
 intro o s σ H r I h
 rw[exec_Assign_Name_used _ _ _ _ G]
 refine wpAny_bind (wpAny_standAt (wpAny_bind ?_))
 show wpAny _ X.A (do let _ <-comprehension (.ListComp k8 [⟨.Tuple [.Name x j,.Name z g] k d,iter,k7,0⟩] scope pos) scope X.env _ (newList []) false (eval iter X.env) (some (assign (.Name y b) X.env))) _ _ s
 refine wpAny_bind (wpAny_mono (wpAny_comprehension_free (use:=some (assign (.Name y b) X.env)) (cl:=Dd X.env scope.names []) (Q:=λ_ c=>SP X o r .next c) rfl O (G8 λy f hk=>I.ok.has y.1 (S.free y f hk)) S.kind S.names
  (CK (hi o s σ H _ I h) λv s1 h1=>CK h1 λy' s2 h2=>?_)) (λ_ c p=>wpAny_pure (wpAny_pure p)) λ_ _ e=>e)
 obtain⟨it,fp,tn,J,H2,e,R,T,Z,f2,q⟩:=h2
 subst e
 refine Kh (RR:=λP C=>compPost (model X.prog X.w) X.A X.xe (some (assign (.Name y b) X.env)) (λ_ c=>SP X o r .next c) P C) (Q:=λx Y=>Dc i x σ Y r.nx) w S (λ_ _ _ _=>TF w S) W V R T Z f2 q ?_
 intro D C c F m B t M p
 show wpAny _ X.A (assign (.Name y b) X.env (.ref D)) _ _ _
 refine wpAny_assign_Name (J0 M N n (.inl f) (v:=.ref D) rfl (λs6 U ri=>?_) (.inr f))
 obtain⟨a,L,K⟩:=ri
 have l:C ≠ a:=by
  rcases K with z | z
  ·rw[z];exact t.2.1
  ·exact Ne.symm (t.2.2.2.2.1 y a z)
 exact⟨m,B.sameBut L l,λh' E=>⟨_,F,U.sameBut t E,p⟩⟩
end
end L2
namespace Wd
open PySem PyProof.Rows
section
variable {w:World} {T:String} {r d:Addr} {P:Nat->Value->Prop} {OK:Heap->Prop}
theorem U7 {R:List Value->Shared->Prop} (K:W.KdlSrc prog w T r d n P OK) (z:A.handled=none) (i:OK s.heap) (p:n<=sizeLine)
  (h:∀ h' tk d0,(∀ b o,s.heap.get? b=some o->h'.get? b=some o)->s.heap.objs.size<h'.objs.size->ItemsOf P d0 n->R d0.toList { s with heap:=h',toks:=tk }):wpAny (model prog w) A (collect (.ref r)) R E s:=by
 unfold collect
 refine wpAny_bind (wpAny_runValue (codeAny_builtin PySem.F.entry_proto_collect ?_))
 rw[Around.under_plainId PySem.F.plain_proto_collect _]
 show wpAny _ A.in1 (newList [] >>= λl=>again (.builtin "list.__iadd__" ⟨[l,.ref r],[]⟩)) _ _ s
 refine wpAny_bind (wpAny_newObj_type (wpAny_pure ⟨plainId_quiet PySem.F.plain_list_iadd _,codeAny_builtin PySem.F.entry_list_iadd ?_⟩))
 rw[Around.under_plainId PySem.F.plain_list_iadd _]
 have B:(s.heap.push { cls:=.type "list",data:=.seq ([]:List Value).toArray }).get? s.heap.objs.size=some { cls:=.type "list",data:=.seq #[] }:=Heap.get?_push_size _ rfl
 obtain⟨t,v⟩:=K.there _ i
 show wpAny _ A.in1 (Builtin.List.listExtendWith (.ref s.heap.objs.size) (.ref r) (.ref s.heap.objs.size)) _ _ _
 have m:=W.kdl_extend (A:=A) (s:={ s with heap:=s.heap.push { cls:=.type "list",data:=.seq ([]:List Value).toArray } }) (R:=λq j=>∃ h' tk d0 c,q=.ok (.ret (.ref s.heap.objs.size))/\j = { s with heap:=h',toks:=tk } /\
   (∀ b o,s.heap.get? b=some o->h'.get? b=some o)/\h'.get? s.heap.objs.size=some { cls:=.type "list",dict:=none,data:=.seq d0 c,slots:=#[] }/\ItemsOf P d0 n) K z (K.keep _ _ i λb _ o e=>Heap.get?_push_of_some _ e) s.heap.objs.size (Ne.symm (br t)) (Ne.symm (br v)) (.ref s.heap.objs.size) 0 B
  (λh' tk d0 c k a g=>⟨h',tk,d0,c,rfl,rfl,λb o e=>k b o (br (Heap.lt_size e)) (Heap.get?_push_of_some _ e),a,g⟩) p
 refine wpAny_mono m (λfin j x=>?_) λe j x=>?_
 ·cases fin with
  | done f =>
   obtain⟨h',tk,d0,c,e,rfl,k,a,g⟩:=x
   cases e
   exact wpAny_bind (wpAny_load a (wpAny_pure (h h' tk d0 k (Heap.lt_size a) g)))
  | again C =>
   refine⟨x.1,codeAny_mono x.2 λq D y=>?_⟩
   obtain⟨h',tk,d0,c,rfl,rfl,k,a,g⟩:=y
   exact wpAny_bind (wpAny_load a (wpAny_pure (h h' tk d0 k (Heap.lt_size a) g)))
 ·obtain⟨_,_,_,_,u,_⟩:=x
  cases u
theorem X5 {js:List Int} (K:W.KdlSrc prog w T r d n P OK) (q:A.handled=none) (a:OK s.heap) (j:n<64) (l:∀ d0:Array Value,ItemsOf P d0 n->IntsAre d0.toList js)
  (h:∀ D h' tk out c ns,s.heap.objs.size<=D->(∀ b o,s.heap.get? b=some o->h'.get? b=some o)->h'.get? D=some { cls:=.type "list",data:=.seq out c }->IntsAre out.toList ns->ns.Perm js->ns.Pairwise (· <= ·)->Q (.ref D) { s with heap:=h',toks:=tk }) :
  wpAny (model prog w) A (call (.builtin "sorted") [.ref r]) Q E s:=by
 refine Calls.call_function_entry kind_sorted plain_sorted entry_sorted (args_sorted1 _) ?_
 unfold Builtin.«sorted»
 refine wpAny_bind (m:=checkCount "sorted" 1 1 _) (wpAny_pure (wpAny_bind (U7 (A:=A.in1) K (by simpa using q) a (by rw[sizeLine_eq];omega) λh' tk d0 k lt g=>?_)))
 have u:=l d0 g
 have len:d0.toList.length<64:=by rw[Array.length_toList,g.1];exact j
 refine wpAny_bind (wpAny_newList ?_ (by rw[sizeLine_eq];omega))
 have f:(h'.push (seqObj "list" d0.toList.toArray 0)).get? h'.objs.size=some (seqObj "list" d0.toList.toArray 0):=Heap.get?_push_size _ rfl
 refine wpAny_bind (wpAny_holding (wpAny_call_entry slot_list_sort ⟨_,f,rfl⟩ entry_list_sort (list_sort_tree f u len λout ns p t x=>⟨_,rfl,?_⟩) (args_list_sort _)))
 obtain⟨c,v⟩:=sortedHeap_at (out:=out) f
 refine wpAny_pure ⟨_,rfl,h h'.objs.size _ tk out c ns (fA lt) (λb o e=>?_) v p t x⟩
 have i:=Heap.lt_size (k b o e)
 rw[sortedHeap_old (br i) (by rw[size_push'];exact fT i)]
 exact Heap.get?_push_of_some _ (k b o e)
end
end Wd
namespace L2
open PySem PySem.Spec PyProof.Rows
theorem J2 (hc:X.calm=true):FW X (.builtin "sorted") (λxs H Q=>∃ (a:Addr) (kvs:List (Key × V)) (js:List Int),xs=[V.ref a]/\H a=some (.dK kvs)/\kvs.map (·.1)=js.map Sum.inl/\kvs.length<64/\∀ (p:Addr) (ns:List Int),H p=none->ns.Perm js->ns.Pairwise (· <= ·)->Q (.ref p) (upd H p (.lst (ns.map V.int)))):=by
 intro a8 s σ H xs us Q I r h
 obtain⟨a,kvs,js,rfl,O,J,S,q⟩:=h
 obtain⟨u,rfl,T⟩:=vals1 r
 cases T
 obtain⟨hz,lo,v,g,o,es,ep,z,w,A,Z,e5,N⟩:=I.hok a _ O
 have hl:kvs.length=v.length:=Paired.length g
 have C:s.heap.DictAt (Bt X.prog X.w) a v ep:=⟨o,es,z,w,A,Z,e5,N⟩
 have R:js.length=v.length:=by
  have:=congrArg List.length J
  rw[af,af] at this
  omega
 refine Wd.X5 (js:=js) (W.kdl_dict (knd:=Bt X.prog X.w) (kvs:=v) (ep:=ep) lo) (I.ok.hd hc) C (by omega) (λG M=>?_) λD h' P F c ns le k e U p o=>?_
 ·refine M_ ?_
  refine Oi (by have h1:G.toList.length=G.size:=Array.length_toList;have h2:=M.1;rw[af];omega) λj x u L K=>?_
  rw[Array.getElem?_toList] at K
  obtain⟨k,y,B,TU⟩:=M.2 j u K
  rw[al] at L
  obtain⟨i,hi,rfl⟩:=aE.mp L
  have z:(kvs.map (·.1))[j]? = some (Sum.inl i):=by rw[J,al,hi];rfl
  rw[al] at z
  obtain⟨kv,mr,Y⟩:=aE.mp z
  have d:∀ {l:List (Key × V)} {m:List (Key × Value)},KV l m->∀ {j:Nat} {p q},l[j]? = some p->m[j]? = some q->p.1=q.1:=by
   intro l m h
   unfold KV at h
   induction h with
   | nil=>intro j p q f;simp at f
   | cons a b ih =>
    intro j p q f E
    cases j with
    | zero =>
     simp at f E
     subst f E
     exact a.1
    | succ j=>exact ih (by simpa using f) (by simpa using E)
  have w:=d g mr B
  rw[Y] at w
  have A:k=Sum.inl i:=w.symm
  subst A
  rcases CT (show Jl (Sum.inl i) u=true from TU) with⟨i',t,e,rfl⟩ | ⟨x,t,e,_⟩
  ·cases e
   exact⟨t,rfl⟩
  ·cases e
 have hn:H D=none:=I.hok.fresh le
 have n:(ns.map V.int).length<=sizeLine:=by
  rw[af,p.length_eq,sizeLine_eq]
  omega
 exact⟨.ref D,_,I.laid (o:=.lst (ns.map V.int)) (t':=P) k le ⟨n,F.toList,c,Jk U,e⟩,rfl,q D ns hn p o⟩
end L2
section PartK45a
set_option maxHeartbeats 4000000
namespace K45
open PySem L2 Og
abbrev sF:List Str:=["_law_script","_law_organ","_law_knobs","_law_player","_law_console","_law_hands","_law_cell","_law_deed_here","_law_good","_law_key","_law_found"]
abbrev sN:List Str:=["self"]
abbrev tf:List Str:=["organ","knobs","held"]
abbrev ti:List Str:=["self","name"]
abbrev tF:List Str:=["_law_script","_law_first","_law_boards","_law_k","_law_ranks","_law_wind","_law_rows_here","_law_stops","_law_found"]
abbrev tS:List Str:=["self","knob"]
abbrev tT:List Str:=["organ","name"]
abbrev ui:List Str:=["self","piston","board"]
abbrev uB:List Str:=["thing"]
abbrev uC:List Str:=["organ","knobs","keys"]
abbrev vb:List Str:=["self","key"]
abbrev ve:List Str:=["_law_cell","_law_by","_law_many"]
abbrev vr:List Str:=["_law_cell","_law_boards","_law_ranks","_law_name_here"]
abbrev vw:List Str:=["self","rows"]
abbrev vE:List Str:=["text","signs","most"]
abbrev v2:List Str:=["_law_cell","_law_organ","_law_player","_law_knobs"]
abbrev v4:List Str:=["row","ahead"]
abbrev wc:List Str:=["self","deed"]
abbrev we:List Str:=["number","board","ahead"]
abbrev wh:List Str:=["console","word","parts"]
abbrev wm:List Str:=["self","organ"]
abbrev wp:List Str:=["self","drawn"]
abbrev wv:List Str:=["_law_cell","_law_number","_law_letters","_law_size","_law_at"]
abbrev wE:List Str:=["thing","part","ahead"]
abbrev xb:List Str:=["rows","word","thing"]
abbrev xk:List Str:=["self","knobs"]
abbrev xp:List Str:=["row","knob_numbers"]
abbrev xE:List Str:=["_law_script"]
abbrev xI:List Str:=["self","piston"]
abbrev yY:List Str:=["organ","name","number"]
abbrev y8:List Str:=["self","board","number"]
abbrev zi:List Str:=["_law_console","_law_deed_here"]
abbrev zn:List Str:=["_law_script","_law_k"]
abbrev z3:List Str:=["_law_player","_law_deed_here"]
abbrev z4:List Str:=["self","rank","number"]
abbrev z5:List Str:=["self","knobs","whole"]
abbrev z8:List Str:=["organ","knobs","word","words"]
abbrev At:List Str:=["self","step"]
abbrev AR:List Str:=["organ","knobs"]
abbrev A6:List Str:=["_law_cell","_law_number"]
abbrev BC:List Str:=["things"]
abbrev BT:List Str:=["organ","knob","keys","stop","numbers"]
abbrev B6:List Str:=["organ","line","numbers"]
abbrev Cl:List Str:=["rows","word"]
abbrev CB:List Str:=["thing","bounds"]
abbrev CC:List Str:=["some","steps","count"]
abbrev CH:List Str:=["organ","knobs","word"]
abbrev CL:List Str:=["organ","board","keys"]
abbrev C3:List Str:=["organ","name","board"]
abbrev Dx:List Str:=["rows","rank_numbers"]
abbrev DE:List Str:=["organ","knob","keys"]
abbrev DF:List Str:=["thing","ahead"]
abbrev DI:List Str:=["some","number"]
abbrev DS:List Str:=["organ","knob","key"]
abbrev DV:List Str:=["word","ahead"]
abbrev DZ:List Str:=["organ","held"]
theorem zC {k kj:Nat} {sp:Sp} {q:Str} {t:TA} (F:Ao X.prog X.w X.K X.mg X.base Bb k f fd ps sp) (i:Az kj X.A) (b:Gl X x) (h:Ce X.K x q st f fd∧Binds X.K fd ps []∧X.mg x=some (.ref f)) (c:PA X (e::es) t) (d:k<=kj:=by decide) (g:(x == ("__debug__" : Str))=false:=by decide) (j:starEach (e::es) X.env=(false,eval e X.env)::starEach es X.env:=by rfl) (a:(backTo pos (starEach es X.env)).any (·.1)=false:=by rfl):PE X (.Call (.Name x p) (e::es) [] pos) (bh sp [] E0 t):=Al F (i.mono d) b h.2.2 h.1.kp h.2.1 .nil Aq c g j a
def top (i:Nat):Stmt:=PySem.Challenge.pw_windchest_k45_knobs_in_force.main.body.getD i (.Pass ⟨0,0,0,0⟩)
abbrev xV:Stmt:=top 19
abbrev mG:Stmt:=top 20
abbrev tL:Stmt:=top 21
abbrev sJ:Stmt:=top 65
abbrev sY:Stmt:=top 66
abbrev vJ:Stmt:=top 67
abbrev sG:Stmt:=top 68
abbrev qz:Stmt:=top 69
abbrev xO:Stmt:=top 70
abbrev q_:Stmt:=top 71
abbrev tZ:Stmt:=top 72
abbrev sE:Stmt:=top 73
abbrev wu:Stmt:=top 74
abbrev yQ:Stmt:=top 75
abbrev vH:Stmt:=top 76
abbrev xn:Stmt:=top 77
abbrev uw:Stmt:=top 80
abbrev sO:Stmt:=top 81
abbrev rW:Stmt:=top 82
abbrev xr:Stmt:=top 83
abbrev sI:Stmt:=top 84
abbrev tU:Stmt:=top 24
abbrev rJ:Stmt:=top 25
abbrev vh:Stmt:=top 26
abbrev qt:Stmt:=top 27
abbrev yM:Stmt:=top 28
abbrev xU:Stmt:=top 29
abbrev vO:Stmt:=top 38
abbrev lM:Stmt:=top 39
abbrev xg:Stmt:=top 40
abbrev uD:Stmt:=top 41
abbrev wI:Stmt:=top 42
abbrev rT:Stmt:=top 44
abbrev rO:Stmt:=top 45
abbrev xJ:Stmt:=top 46
abbrev yW:Stmt:=top 47
abbrev tH:Stmt:=top 48
abbrev rD:Stmt:=top 49
abbrev sS:Stmt:=top 50
abbrev uY:Stmt:=top 51
abbrev zH:Stmt:=top 32
abbrev rR:Stmt:=top 34
abbrev tO:Stmt:=top 35
abbrev uF:Stmt:=top 33
abbrev vd:Stmt:=top 55
abbrev xM:Stmt:=top 56
abbrev vQ:Stmt:=top 54
abbrev ul:Stmt:=top 87
abbrev xG:Stmt:=top 88
abbrev qu:Stmt:=top 89
abbrev yL:Stmt:=top 90
abbrev sW:Stmt:=top 91
abbrev tY:Stmt:=top 92
abbrev yC:Stmt:=top 93
abbrev vB:Stmt:=top 94
abbrev YZ:Stmt:=inClass (top 85) 0
abbrev wY:Stmt:=inClass (top 85) 2
abbrev yw:Stmt:=inClass (top 85) 5
abbrev xK:Stmt:=inClass (top 85) 7
abbrev xP:Stmt:=inClass (top 85) 8
abbrev vg:Stmt:=inClass (top 85) 13
abbrev yg:Stmt:=inClass (top 85) 15
abbrev vX:Stmt:=inClass (top 85) 3
abbrev yd:Stmt:=inClass (top 85) 6
abbrev yU:Stmt:=inClass (top 85) 9
abbrev wW:Stmt:=inClass (top 85) 14
abbrev yu:Stmt:=inClass (top 85) 16
abbrev xf:Stmt:=inClass (top 85) 11
abbrev su:Stmt:=inClass (top 85) 12
abbrev xT:Stmt:=inClass (top 85) 17
abbrev rA:Stmt:=inClass (top 85) 4
abbrev vG:Stmt:=inClass (top 36) 0
abbrev y_:Stmt:=inClass (top 36) 1
abbrev yX:Stmt:=inClass (top 36) 2
abbrev vf:Stmt:=inClass (top 36) 3
abbrev yI:Stmt:=inClass (top 36) 9
abbrev vI:Stmt:=inClass (top 36) 7
abbrev VP:Stmt:=inClass (top 36) 4
abbrev xF:Stmt:=inClass (top 36) 5
abbrev wV:Stmt:=inClass (top 36) 6
abbrev yE:Stmt:=inClass (top 13) 0
abbrev vC:Stmt:=inClass (top 14) 0
abbrev uE:Stmt:=inClass (top 15) 0
abbrev v_:Stmt:=inClass (top 15) 1
abbrev xN:Stmt:=inClass (top 57) 0
abbrev yt:Stmt:=inClass (top 57) 1
abbrev wk:Stmt:=inClass (top 57) 2
abbrev xm:Stmt:=inClass (top 57) 3
abbrev tM:Stmt:=inClass (top 57) 4
abbrev uU:Stmt:=inClass (top 57) 5
abbrev rZ:Stmt:=inClass (top 57) 6
abbrev yH:Stmt:=inClass (top 57) 7
abbrev Lk:Stmt:=top 95
structure Txt (K:W.Frag) (P:Params) (mg:Str->Option Value) (C Cy Cp pB pE pA cK cP cB cS cO cH cY cD aQ aN aK aB aP aM:Addr):Prop where
 len:mg "len" = none
 isin:mg "isinstance" = none
 int:mg "int" = none
 bool:mg "bool" = none
 str:mg "str" = none
 list:mg "list" = none
 tuple:mg "tuple" = none
 all:mg "all" = none
 any:mg "any" = none
 sum:mg "sum" = none
 range:mg "range" = none
 zip:mg "zip" = none
 enumerate:mg "enumerate" = none
 max:mg "max" = none
 reversed:mg "reversed" = none
 set:mg "set" = none
 min:mg "min" = none
 sorted:mg "sorted" = none
 letters:∃ t,mg "LETTERS" = some (.str letters t)
 mostL:∃ t,mg "MOST_LETTERS" = some (.int 8 t)
 mostR:∃ t,mg "MOST_ROWS" = some (.int 150 t)
 mostLn:∃ t,mg "MOST_LINES" = some (.int 4 t)
 below:∃ t,mg "MEMBERS_BELOW" = some (.int 1200 t)
 mN:mg "NAMED" = some (.ref aN)
 mK:mg "KNOBS" = some (.ref aK)
 mB:mg "BOUNDS" = some (.ref aB)
 mP:mg "PARTS" = some (.ref aP)
 mM:mg "MOST_OF" = some (.ref aM)
 tN:KTup K aN (named.map V.str)
 tK:KTup K aK [.str "stop",.str "coupler",.str "mute"]
 dB:KDict K P aB
 dP:KDict K P aP
 dM:KDict K P aM
 cl:O4 K C
 mC:mg "Organ" = some (.ref C)
 clR:O4 K Cy
 mCR:mg "Console" = some (.ref Cy)
 nr_organ:CZ K Cy "organ"
 nr_drawn_set:CZ K Cy "drawn_set"
 nr_shoe_step:CZ K Cy "shoe_step"
 nr_stored:CZ K Cy "stored"
 x4:Ex4 K mg cK cP cB cS cO
 pis:zA K mg pB pE pA
 clP:O4 K Cp
 mCP:mg "Player" = some (.ref Cp)
 np_organ:CZ K Cp "organ"
 np_console:CZ K Cp "console"
 np_hands:CZ K Cp "hands"
 xH:ExH K mg cH cO
 xY:zf K mg cY cD cP
 mQ:mg "PART_COUNTS" = some (.ref aQ)
 dQ:KDict K P aQ
 pc:∀ e∈wA,∃ q,W.nsIn K aQ e.1=some (some (.ref q))/\KTup K q e.2
 n_row_list:CZ K C "row_list"
 n_board_list:CZ K C "board_list"
 n_rank_list:CZ K C "rank_list"
 n_knob_rows:CZ K C "knob_rows"
 n_board_numbers:CZ K C "board_numbers"
 n_rank_numbers:CZ K C "rank_numbers"
 n_knob_numbers:CZ K C "knob_numbers"
 n_key_places:CZ K C "key_places"
 n_pipe_places:CZ K C "pipe_places"
 n_knob_lines:CZ K C "knob_lines"
 n_step_sets:CZ K C "step_sets"
set_option genInjectivity false in
set_option genSizeOf false in
set_option genSizeOfSpec false in
structure Ad where
 (fWh fMd fNm fRo fTo fWi fPa fHp fCl fIk fSb fIs fWm fHr fIr fCk fNu fCa fPl fLi fSs fMy fSt fHa fMe fSh fUn fLe fDc fHk fWa fCq fMu fUk fSk fNb fLl fBs fBa fSo fKn fKb fIp fBn fKy fDz fId fCe fMi fNa fLj fRw fDe fAs fBe fOi fOb fOc fOk fOo fBk fOp fOr fOq fOe fOs fOm fOu fOj fOy fOz fXi fXd fXp fXq fXk fXh fXt fXr fXc fPi fEp fAi fAp fQi fQh fQl fQa fQd fQs fQe fQk:Addr)
 (dWh dMd dNm dRo dTo dWi dPa dHp dCl dIk dSb dIs dWm dHr dIr dCk dNu dCa dPl dLi dSs dMy dSt dHa dMe dSh dUn dLe dDc dHk dWa dCq dMu dUk dSk dNb dLl dBs dBa dSo dKn dKb dIp dBn dKy dDz dId dCe dMi dNa dLj dRw dDe dAs dBe dOi dOb dOc dOk dOo dBk dOp dOr dOq dOe dOs dOm dOu dOj dOy dOz dXi dXd dXp dXq dXk dXh dXt dXr dXc dPi dEp dAi dAp dQi dQh dQl dQa dQd dQs dQe dQk:FuncData)
abbrev so (K:PySem.W.Frag) (mg:Str->Option Value) (x q:Str) (st:Stmt) (f:Addr) (d:FuncData) (p:List Str):Prop:=Ce K x q st f d∧Binds K d p []∧mg x=some (.ref f)
abbrev sv (K:PySem.W.Frag) (C:Addr) (x q:Str) (st:Stmt) (f:Addr) (d:FuncData) (p:List Str):Prop:=Ce K x q st f d∧Binds K d p []∧Meth K C x f
structure wN (K:W.Frag) (mg:Str->Option Value) (C Cy Cp pB pE pA:Addr) (aD:Ad):Prop where
 FWh:so K mg "is_whole" "is_whole" xV aD.fWh aD.dWh uB
 FMd:so K mg "is_made_of" "is_made_of" mG aD.fMd aD.dMd vE
 FNm:so K mg "is_name" "is_name" tL aD.fNm aD.dNm uB
 FRo:so K mg "rows_of" "rows_of" sJ aD.fRo aD.dRo Cl
 FTo:so K mg "is_told" "is_told" sY aD.fTo aD.dTo xb
 FWi:so K mg "is_within" "is_within" vJ aD.fWi aD.dWi CB
 FPa:so K mg "is_part" "is_part" sG aD.fPa aD.dPa wE
 FHp:so K mg "has_parts" "has_parts" qz aD.fHp aD.dHp v4
 FCl:so K mg "count_of_last_lines" "count_of_last_lines" xO aD.fCl aD.dCl ["rows"]
 FIk:so K mg "is_key_of" "is_key_of" q_ aD.fIk aD.dIk we
 FSb:so K mg "stands_behind_stop" "stands_behind_stop" tZ aD.fSb aD.dSb ["line","ahead"]
 FIs:so K mg "is_step" "is_step" sE aD.fIs aD.dIs v4
 FWm:so K mg "is_well_made" "is_well_made" wu aD.fWm aD.dWm v4
 FHr:so K mg "has_room" "has_room" yQ aD.fHr aD.dHr DV
 FIr:so K mg "is_row" "is_row" vH aD.fIr aD.dIr DF
 FCk:so K mg "check_rows" "check_rows" xn aD.fCk aD.dCk ["rows"]
 FNu:so K mg "numbers_of" "numbers_of" uw aD.fNu aD.dNu ["names"]
 FCa:so K mg "count_in_all" "count_in_all" sO aD.fCa aD.dCa BC
 FPl:so K mg "places_of" "places_of" rW aD.fPl aD.dPl BC
 FLi:so K mg "lines_by_knob" "lines_by_knob" xr aD.fLi aD.dLi Dx
 FSs:so K mg "set_of_step" "set_of_step" sI aD.fSs aD.dSs xp
 FMy:so K mg "may_be_member" "may_be_member" tU aD.fMy aD.dMy uB
 FSt:so K mg "set_of" "set_of" rJ aD.fSt aD.dSt ["numbers"]
 FHa:so K mg "has_member" "has_member" vh aD.fHa aD.dHa DI
 FMe:so K mg "members_of" "members_of" qt aD.fMe aD.dMe ["some"]
 FSh:so K mg "shifted" "shifted" yM aD.fSh aD.dSh CC
 FUn:so K mg "union_of" "union_of" xU aD.fUn aD.dUn ["sets"]
 FLe:so K mg "led_to" "led_to" vO aD.fLe aD.dLe DS
 FDc:so K mg "drawn_of" "drawn_of" lM aD.fDc aD.dDc CH
 FHk:so K mg "held_keys" "held_keys" xg aD.fHk aD.dHk DZ
 FWa:so K mg "coupled_ways" "coupled_ways" uD aD.fWa aD.dWa tf
 FCq:so K mg "coupled_keys" "coupled_keys" wI aD.fCq aD.dCq tf
 FMu:so K mg "muted_boards" "muted_boards" rT aD.fMu aD.dMu AR
 FUk:so K mg "unmuted_keys" "unmuted_keys" rO aD.fUk aD.dUk uC
 FSk:so K mg "speaking_keys" "speaking_keys" xJ aD.fSk aD.dSk tf
 FNb:so K mg "numbers_on_board" "numbers_on_board" yW aD.fNb aD.dNb CL
 FLl:so K mg "led_by_line" "led_by_line" tH aD.fLl aD.dLl B6
 FBs:so K mg "brought_by_stop" "brought_by_stop" rD aD.fBs aD.dBs DE
 FBa:so K mg "brought_in_all" "brought_in_all" sS aD.fBa aD.dBa uC
 FSo:so K mg "sounding_pipes" "sounding_pipes" uY aD.fSo aD.dSo tf
 FKn:so K mg "knob_named" "knob_named" zH aD.fKn aD.dKn tT
 FKb:so K mg "knobs_of_board" "knobs_of_board" rR aD.fKb aD.dKb tT
 FIp:so K mg "is_piston" "is_piston" tO aD.fIp aD.dIp uB
 FBn:so K mg "board_named" "board_named" uF aD.fBn aD.dBn tT
 FKy:so K mg "key_on_board" "key_on_board" vd aD.fKy aD.dKy yY
 FDz:so K mg "do_at_console" "do_at_console" xM aD.fDz aD.dDz wh
 FId:so K mg "is_deed" "is_deed" vQ aD.fId aD.dId uB
 FCe:so K mg "_law_cell_at" "_law_cell_at" ul aD.fCe aD.dCe zn
 FMi:so K mg "_law_mix" "_law_mix" xG aD.fMi aD.dMi ve
 FNa:so K mg "_law_name" "_law_name" qu aD.fNa aD.dNa A6
 FLj:so K mg "_law_knob" "_law_knob" yL aD.fLj aD.dLj vr
 FRw:so K mg "_law_rows" "_law_rows" sW aD.fRw aD.dRw xE
 FDe:so K mg "_law_deed" "_law_deed" tY aD.fDe aD.dDe v2
 FAs:so K mg "_law_asked" "_law_asked" yC aD.fAs aD.dAs z3
 FBe:so K mg "_law_beside" "_law_beside" vB aD.fBe aD.dBe zi
 FOi:Ce K "__init__" "Organ.__init__" YZ aD.fOi aD.dOi∧Binds K aD.dOi vw []∧Mk K C aD.fOi
 FOb:sv K C "boards" "Organ.boards" wY aD.fOb aD.dOb sN
 FOc:sv K C "key_count" "Organ.key_count" yw aD.fOc aD.dOc sN
 FOk:sv K C "key" "Organ.key" xK aD.fOk aD.dOk y8
 FOo:sv K C "board_of" "Organ.board_of" xP aD.fOo aD.dOo vb
 FBk:sv K C "board_of_knob" "Organ.board_of_knob" vg aD.fBk aD.dBk tS
 FOp:sv K C "coupler" "Organ.coupler" yg aD.fOp aD.dOp tS
 FOr:sv K C "ranks" "Organ.ranks" vX aD.fOr aD.dOr sN
 FOq:sv K C "pipe_count" "Organ.pipe_count" yd aD.fOq aD.dOq sN
 FOe:sv K C "pipe" "Organ.pipe" yU aD.fOe aD.dOe z4
 FOs:sv K C "stop" "Organ.stop" wW aD.fOs aD.dOs tS
 FOm:sv K C "mute" "Organ.mute" yu aD.fOm aD.dOm tS
 FOu:sv K C "board_number" "Organ.board_number" xf aD.fOu aD.dOu ti
 FOj:sv K C "knob_number" "Organ.knob_number" su aD.fOj aD.dOj ti
 FOy:sv K C "steps" "Organ.steps" xT aD.fOy aD.dOy sN
 FOz:sv K C "knobs" "Organ.knobs" rA aD.fOz aD.dOz sN
 FXi:Ce K "__init__" "Console.__init__" vG aD.fXi aD.dXi∧Binds K aD.dXi wm []∧Mk K Cy aD.fXi
 FXd:sv K Cy "draw" "Console.draw" y_ aD.fXd aD.dXd xk
 FXp:sv K Cy "pull" "Console.pull" yX aD.fXp aD.dXp ti
 FXq:sv K Cy "push" "Console.push" vf aD.fXq aD.dXq ti
 FXk:sv K Cy "knobs" "Console.knobs" yI aD.fXk aD.dXk sN
 FXh:sv K Cy "shoe" "Console.shoe" vI aD.fXh aD.dXh At
 FXt:VJ K "store" "Console.store" VP aD.fXt aD.dXt∧Binds K aD.dXt ui []∧Meth K Cy "store" aD.fXt
 FXr:sv K Cy "press" "Console.press" xF aD.fXr aD.dXr xI
 FXc:sv K Cy "cancel" "Console.cancel" wV aD.fXc aD.dXc sN
 FPi:Ce K "__init__" "Piston.__init__" yE aD.fPi aD.dPi∧Binds K aD.dPi xk []∧Mk K pE aD.fPi
 FEp:sv K pE "put" "Every.put" vC aD.fEp aD.dEp wp
 FAi:Ce K "__init__" "Part.__init__" uE aD.fAi aD.dAi∧Binds K aD.dAi z5 []∧Mk K pA aD.fAi
 FAp:sv K pA "put" "Part.put" v_ aD.fAp aD.dAp wp
 FQi:Ce K "__init__" "Player.__init__" xN aD.fQi aD.dQi∧Binds K aD.dQi wm []∧Mk K Cp aD.fQi
 FQh:sv K Cp "hold" "Player.hold" yt aD.fQh aD.dQh vb
 FQl:sv K Cp "leave" "Player.leave" wk aD.fQl aD.dQl vb
 FQa:sv K Cp "act" "Player.act" xm aD.fQa aD.dQa wc
 FQd:sv K Cp "do" "Player.do" tM aD.fQd aD.dQd wc
 FQs:sv K Cp "sound" "Player.sound" uU aD.fQs aD.dQs sN
 FQe:sv K Cp "held" "Player.held" rZ aD.fQe aD.dQe sN
 FQk:sv K Cp "knobs" "Player.knobs" yH aD.fQk aD.dQk sN
 bXt0:Binds K aD.dXt ui [.none]
 cPi:bD K pB "__init__" aD.fPi (.type "type")
section
variable {w:World} {K:W.Frag} {pB cK cP cB cS cO cH cY cD aQ aN aK:Addr} {aD:Ad}
variable (N:wN K mg C Cy Cp pB pE pA aD) (T:Txt K w.params mg C Cy Cp pB pE pA cK cP cB cS cO cH cY cD aQ aN aK aB aP aM)
inductive Yk (vs:List V) (H:Hp) (Q:VK) (b9:XK):Prop
 | mk (i:Int):vs=[.int i]->Q (.bl true) H->Yk vs H Q b9
theorem oA:Av uB uB (Ae xV):=Bh
include N T in
theorem bT:Ao P w K mg base Bb 1 aD.fWh aD.dWh uB Yk:=by
 refine N.FWh.1.DX oA λH a Q E b h=>?_
 obtain⟨i,rfl,q⟩:=h
 refine⟨_,(Ah (Ax (Dp (A_ Cj rfl T.isin be (Aa (pv 0) (Aa (Dm (v:=.ty "int") rfl T.int gp rfl) Ab))) (Dl (Qy (A_ Cj rfl T.isin be (Aa (pv 0) (Aa (Dm (v:=.ty "bool") rfl T.bool iL rfl) Ab)))))))),?_⟩
 refine⟨_,rfl,_,"int",_,_,rfl,.int i,ty_int,_,rfl,DY ?_⟩
 exact⟨_,rfl,_,"bool",_,_,rfl,.int i,XJ,_,rfl,q⟩
inductive eX (vs:List V) (H:Hp) (Q:VK) (b9:XK):Prop
 | mk (z:Str):vs=[.str z,.str letters,.int 8]->isNm z->(∀ H',Am H H'->Q (.bl true) H')->eX vs H Q b9
theorem qJ:Av vE vE (Ae mG):=Bh
include N T in
theorem pO:Ao P w K mg base Bb 1 aD.fMd aD.dMd vE eX:=by
 refine N.FMd.1.DX qJ λH n Q E m h=>?_
 obtain⟨z,rfl,d,q⟩:=h
 refine⟨_,(Ah (Ax (Dp (Gr FT FT Ac (A_ Ja rfl T.len bo (Aa (pv 0) Ab)) (pv 2)) (Dl (A_ (Hi rfl) rfl T.all gu (Aa (Bq rfl (Bf (osc:=Ae mG) (N:=vE) rfl rfl (by decide)) (Vm (pv 0)) (λ_ _ _ _=>Cq) (λ_ _ _ _=>(Dw NK (pv 0) (pv 2) rfl))) Ab)))))),?_⟩
 have b:z.length<sizeLine:=BJ (by have:=d.2.1;omega)
 refine⟨_,rfl,z,rfl,fA b,_,_,rfl,rfl,_,rfl,?_⟩
 refine Cz (λj=>?_) (λj=>absurd (decide_eq_true (by have:=d.1;omega)) j)
 refine⟨_,rfl,_,_,rfl,rfl,_,rfl,?_⟩
 refine Cz (λi=>?_) (λi=>absurd (decide_eq_true (by have:=d.2.1;omega)) i)
 refine⟨_,rfl,z,rfl,Px (λ_=>true) (λc=>.bl (Yi letters c)) b (λc f a g R k=>k a (Am.refl a)) (λc f _ a g R k=>⟨_,rfl,_,rfl,_,_,rfl,rfl,k a (Am.refl a)⟩) (λD a l g hl=>?_)⟩
 refine⟨D,z.cps.toList.map (Yi letters),rfl,.inl (.inl ?_),?_⟩
 ·rw[hl,bg.mpr (λ_ _=>rfl),ax]
  rfl
 ·have e:(z.cps.toList.map (Yi letters)).all id=true:=by
   rw[List.all_map,fm]
   intro c f
   have:=d.2.2 c f
   show Yi letters c=true
   rw[OJ c (by omega)]
   exact decide_eq_true this
  rw[e]
  exact q a g
inductive Zd (vs:List V) (H:Hp) (Q:VK) (b9:XK):Prop
 | mk (z:Str):vs=[.str z]->isNm z->(∀ H',Am H H'->Q (.bl true) H')->Zd vs H Q b9
theorem lV:Av uB uB (Ae tL):=Bh
include N T in
theorem aU:Ao P w K mg base Bb 2 aD.fNm aD.dNm uB Zd:=by
 refine N.FNm.1.DX lV λH g Q E d h=>?_
 obtain⟨z,rfl,c,q⟩:=h
 obtain⟨a,e⟩:=T.letters
 obtain⟨b,f⟩:=T.mostL
 refine⟨_,(Ah (Ax (Dp (A_ Cj rfl T.isin be (Aa (pv 0) (Aa (Dm (v:=.ty "str") rfl T.str hG rfl) Ab))) (Dl (zC (pO N T) d rfl N.FMd (Aa (pv 0) (Aa (Cr (v:=.str letters) rfl e ⟨a,rfl⟩) (Aa (Cr (v:=.int 8) rfl f ⟨b,rfl⟩) Ab)))))))),?_⟩
 refine⟨_,rfl,_,"str",_,_,rfl,.str z,HQ,_,rfl,DY ?_⟩
 exact⟨_,rfl,z,rfl,c,q⟩
inductive Q9 (vs:List V) (H:Hp) (Q:VK) (b9:XK):Prop
 | mk (p:Addr) (us:List V) (w:Str) (ρ:V->R):vs=[.ref p,.str w]->H p=some (.lst us)->Rows H ρ us->us.length<=500->(∀ D H',H D=none->Am H H'->H' D=some (.lst (us.filter (pw ρ w)))->Q (.ref D) H')->Q9 vs H Q b9
theorem ut:Av Cl Cl (Ae sJ):=Bh
include N T in
theorem P0:Ao P w K mg base Bb 1 aD.fRo aD.dRo Cl Q9:=by
 refine N.FRo.1.DX ut λH r Q E o h=>?_
 obtain⟨p,d,w,ρ,rfl,n,l,hl,q⟩:=h
 refine⟨_,(Ah (Ax (Bq rfl (Bf (osc:=Ae sJ) (N:=Cl) rfl rfl (by decide)) (Bx (pv 0)) (λ_ _ _ _=>(G6 (BL Bw (Ay (An (K:=K) rfl) (pv 0) Ac (λ_ _=>rfl)) (pv 2) (BW _)))) (λ_ _ _ _=>(pv 0))))),?_⟩
 have f:Dg K H p d:=.inl (.inl n)
 refine⟨_,rfl,p,rfl,⟨_,f⟩,C_ (K:=K) (xs:=d) (pw ρ w) id f (BJ (by omega)) (λx c a b R k=>?_) (λx c _ a b R k=>⟨_,rfl,k a (Am.refl a)⟩) (λD a i b e=>?_)⟩
 ·obtain⟨g,rfl,m⟩:=(l x c).mono b
  exact⟨_,rfl,g,_,_,_,rfl,rfl,kK m,Ag (j:=0) rfl,_,rfl,rfl,_,rfl,k a (Am.refl a)⟩
 ·rw[iO] at e
  exact q D a i b e
inductive Zc (vs:List V) (H:Hp) (Q:VK) (b9:XK):Prop
 | mk (p:Addr) (us:List V) (w t:Str) (ρ:V->R):vs=[.ref p,.str w,.str t]->H p=some (.lst us)->Rows H ρ us->us.length<=500->isNm t->(∀ H',Am H H'->Q (.bl (YX ρ us w t)) H')->Zc vs H Q b9
theorem vU:Av xb xb (Ae sY):=Bh
include N T in
theorem aq:Ao P w K mg base Bb 3 aD.fTo aD.dTo xb Zc:=by
 refine N.FTo.1.DX vU λH I Q E l h=>?_
 obtain⟨p,a,w,t,ρ,rfl,o,d,hl,z,q⟩:=h
 refine⟨_,(Ah (Ax (Dp (zC (aU N T) l rfl N.FNm (Aa (pv 2) Ab)) (Dl (A_ (MJ rfl) rfl T.any ja (Aa (Bq rfl (Bf (osc:=Ae sY) (N:=xb) rfl rfl (by decide)) (Bx (zC (P0 N T) l rfl N.FRo (Aa (pv 0) (Aa (pv 1) Ab)))) (λ_ _ _ _=>Cq) (λ_ _ _ _=>(Dw Bw (Ay (An (K:=K) rfl) (pv 0) Ac (λ_ _=>rfl)) (pv 3) (BW _)))) Ab)))))),?_⟩
 refine⟨_,rfl,t,rfl,z,λJ c=>⟨_,rfl,DY ?_⟩⟩
 refine⟨_,rfl,_,rfl,p,a,w,ρ,rfl,c _ _ o,d.mono c,hl,λD s F g y=>?_⟩
 have m:Dg K s D (a.filter (pw ρ w)):=.inl (.inl y)
 refine⟨D,rfl,⟨_,m⟩,C_ (K:=K) (xs:=a.filter (pw ρ w)) (λ_=>true) (λv=>.bl (pn ρ t v)) m (BJ (by have:=JB (pw ρ w) a;omega)) (λx i b f R k=>k b (Am.refl b)) (λx i _ b f R k=>?_) (λB A G r n=>?_)⟩
 ·obtain⟨u,rfl,C⟩:=(((d.mono c).mono g).mono f) x (aS.mp i).1
  exact⟨_,rfl,u,_,_,_,rfl,rfl,kK C,Ag (j:=1) rfl,_,rfl,rfl,k b (Am.refl b)⟩
 ·refine⟨B,(a.filter (pw ρ w)).map (pn ρ t),rfl,.inl (.inl ?_),?_⟩
  ·rw[n,bg.mpr (λ_ _=>rfl),ax]
   rfl
  ·have e:((a.filter (pw ρ w)).map (pn ρ t)).any id=YX ρ a w t:=by
    rw[List.any_map]
    rfl
   rw[e]
   exact q A ((c.trans g).trans r)
inductive gf (K:W.Frag) (vs:List V) (H:Hp) (Q:VK) (b9:XK):Prop
 | mk (i lo hi:Int) (b:Addr):vs=[.int i,.ref b]->KTup K b [.int lo,.int hi]->lo<=i->i<=hi->Q (.bl true) H->gf K vs H Q b9
theorem wL:Av CB CB (Ae vJ):=Bh
include N T in
theorem pF:Ao P w K mg base Bb 2 aD.fWi aD.dWi CB (gf K):=by
 refine N.FWi.1.DX wL λH g Q E d h=>?_
 obtain⟨i,lo,c,b,rfl,a,f,e,q⟩:=h
 refine⟨_,(Ah (Ax (Dp (zC (bT N T) d rfl N.FWh (Aa (pv 0) Ab)) (Dl (Gr FT FT (Ay (An (K:=K) rfl) (pv 1) Ac (λ_ _=>rfl)) (pv 0) (Ay (An (K:=K) rfl) (pv 1) Ac (λ_ _=>rfl))))))),?_⟩
 refine⟨_,rfl,i,rfl,_,rfl,DY ?_⟩
 refine⟨_,rfl,b,_,_,_,rfl,rfl,a.sq _,Ag (j:=0) rfl,_,rfl,_,_,rfl,rfl,_,rfl,?_⟩
 refine Cz (λ_=>?_) (λz=>absurd (decide_eq_true f) z)
 refine⟨_,rfl,b,_,_,_,rfl,rfl,a.sq _,Ag (j:=1) rfl,_,_,rfl,rfl,?_⟩
 show Q (.bl (decide (i<=c))) H
 rw[decide_eq_true e]
 exact q
inductive gF (K:W.Frag) (aB:Addr) (vs:List V) (H:Hp) (Q:VK) (b9:XK):Prop
 | mk (x:V) (part:Str) (p:Addr) (us:List V) (ρ:V->R):vs=[x,.str part,.ref p]->H p=some (.lst us)->Rows H ρ us->us.length<=500->JL K aB ρ us x part->(∀ H',Am H H'->Q (.bl true) H')->gF K aB vs H Q b9
theorem vP:Av wE wE (Ae sG):=Bh
include N T in
theorem oU:Ao P w K mg base Bb 4 aD.fPa aD.dPa wE (gF K aB):=by
 refine N.FPa.1.DX vP λH Z Q E j h=>?_
 obtain⟨x,part,p,C,ρ,rfl,B,u,hl,o,q⟩:=h
 refine⟨_,(Af (Bl (RD (Wi (pv 1) (Cr (v:=.ref aB) rfl T.mB rfl))) (Ah (Ax (zC (pF N T) j rfl N.FWi (Aa (pv 0) (Aa (Oa (Cr (v:=.ref aB) rfl T.mB rfl) (pv 1) (λ_ _=>rfl)) Ab))))) Be)
  (Af (Bl (BL Bw (pv 1) BP (BW _)) (Ah (Ax (Dp (zC (aU N T) j rfl N.FNm (Aa (pv 0) Ab)) (Dl (Qy (A_ (MJ rfl) rfl T.any ja (Aa (Bq rfl (Bf (osc:=Ae sG) (N:=wE) rfl rfl (by decide)) (Q5 (Cr (v:=.ref aN) rfl T.mN rfl)) (λ_ _ _ _=>Cq) (λ_ _ _ _=>(zC (aq N T) j rfl N.FTo (Aa (pv 3) (Aa (pv 0) (Aa (pv 1) Ab)))))) Ab))))))) Be)
  (Ah (Ax (zC (aq N T) j rfl N.FTo (Aa (pv 2) (Aa (pv 1) (Aa (pv 0) Ab)))))))),?_⟩
 rcases o with⟨i,lo,M,b,rfl,c,I,X,U⟩ | ⟨c,rfl,t,rfl,g,m⟩ | ⟨c,n,t,rfl,g,W⟩
 ·refine⟨_,rfl,aB,part,_,rfl,rfl,T.dB,c,_,rfl,DY ?_⟩
  exact⟨_,rfl,_,rfl,aB,part,.ref b,_,rfl,rfl,T.dB,c,rfl,i,lo,M,b,rfl,I,X,U,q H (Am.refl H)⟩
 ·refine⟨_,rfl,aB,_,_,rfl,rfl,T.dB,c,_,rfl,Bk ?_⟩
  refine⟨_,rfl,rfl,_,rfl,DY ?_⟩
  refine⟨_,rfl,t,rfl,g,λO r=>⟨_,rfl,DY ?_⟩⟩
  have l:HY K O aN (named.map V.str):=T.tN.sq _
  refine⟨aN,rfl,⟨_,l⟩,Hj (xs:=named.map V.str) (λ_=>true) (λ_=>.bl false) (by show 5<sizeLine;decide) (λi e x a f=>⟨_,x,a.tup l,f⟩) (λi e y H3 a _ A=>⟨A.1,A.2 _ (a.tup l)⟩) (λe a=>⟨_,a.tup l,Nat.le_refl _⟩)
   (λx f d a R k=>k d (Am.refl d)) (λx f _ d a R k=>?_) (λD e Y J L=>?_)⟩
  ·obtain⟨F,s,rfl⟩:=ar.mp f
   refine⟨_,rfl,_,rfl,_,rfl,p,C,F,t,ρ,rfl,a _ _ (r _ _ B),(u.mono r).mono a,hl,g,λG S=>?_⟩
   rw[m F s]
   exact k G S
  ·refine⟨D,[false,false,false,false,false],rfl,kK L,_,rfl,?_⟩
   exact q e (r.trans J)
 ·refine⟨_,rfl,aB,_,_,rfl,rfl,T.dB,c,_,rfl,Bk ?_⟩
  refine⟨_,rfl,rfl,_,rfl,?_⟩
  refine Cz (λz=>absurd (V.str.inj (of_decide_eq_true z)) n) (λ_=>?_)
  refine⟨_,rfl,_,rfl,_,rfl,p,C,part,t,ρ,rfl,B,u,hl,g,λd a=>?_⟩
  rw[W]
  exact q d a
inductive iG (K:W.Frag) (aB aP:Addr) (vs:List V) (H:Hp) (Q:VK) (b9:XK):Prop
 | mk (r p:Addr) (w:Str) (xs:List V) (us:List V) (ρ:V->R) (ap:Addr) (ps:List Str):vs=[.ref r,.ref p]->H r=some (.tup (.str w::xs))->H p=some (.lst us)->Rows H ρ us->us.length<=500->W.nsIn K aP w=some (some (.ref ap))->KTup K ap (ps.map V.str)->xs.length=ps.length->ps.length<=10->(∀ (i:Nat) x y,xs[i]? = some x->ps[i]? = some y->JL K aB ρ us x y)->(∀ H',Am H H'->Q (.bl true) H')->iG K aB aP vs H Q b9
theorem oN:Av ["row","ahead","parts"] v4 (Ae qz):=Bh
include N T in
theorem pU:Ao P w K mg base Bb 5 aD.fHp aD.dHp v4 (iG K aB aP):=by
 refine N.FHp.1.DX oN λH vs Q E hr h=>?_
 obtain⟨r,p,w,xs,Z,ρ,t,n,rfl,m,U,M,hl,J,s,a,E4,d,q⟩:=h
 refine⟨_,(Af (Ba (i:=2) oN.nd rfl (Or.inl rfl) (Oa (Cr (v:=.ref aP) rfl T.mP rfl) (Ay (An (K:=K) rfl) (pv 0) Ac (λ_ _=>rfl)) (λ_ _=>rfl)))
  (Af (Bl (BL Ko (A_ BZ rfl T.len bo (Aa (pv 0) Ab)) (BX Br Ac (A_ BZ rfl T.len bo (Aa (pv 2) Ab))) (BW _)) (Ah (Ax Gv)) Be)
  (Ah (Ax (A_ (Hi rfl) rfl T.all gu (Aa (Oj rfl (G4 (osc:=Ae qz) (N:=["row","ahead","parts"]) rfl rfl (by decide)) (ZW rfl T.zip (Aa (Ec N7 (pv 0) (Eh Ac) Gd) (Aa (pv 2) Ab))) (λ_ _ _ _=>Cq) (λ_ _ _ _=>(zC (oU N T) hr rfl N.FPa (Aa (pv 0) (Aa (pv 1) (Aa (pv 3) Ab)))))) Ab)))))),?_⟩
 refine⟨_,rfl,r,_,_,_,rfl,rfl,kK m,Ag (j:=0) rfl,aP,w,.ref t,_,rfl,rfl,T.dP,J,rfl,?_⟩
 refine⟨_,rfl,r,_,rfl,.inr (.inl (.inl m)),_,rfl,t,_,rfl,.inr (s.sq _),_,_,rfl,rfl,rfl,_,rfl,?_⟩
 refine Cz (λz=>?_) (λ_=>?_)
 ·exfalso
  have e:(((V.str w::xs).length:Nat):Int)=1+(((n.map V.str).length:Nat):Int):=by
   rw[bp,af,a]
   omega
  rw[e] at z
  simp at z
 ·have b:Dy (V.str w::xs) (some 1) none=xs:=by
   unfold Dy
   have u:HT.Ea (V.str w::xs).length 0 (some ((1:Nat):Int))=1:=by rw[HT.FP,bp];omega
   have f:HT.Ea (V.str w::xs).length 0 (some (1:Int))=1:=u
   rw[f,HT.Mp,List.drop_succ_cons,List.drop_zero]
   exact ge (by rw[bp];omega)
  refine⟨_,rfl,_,rfl,r,_,rfl,kK m,(λz=>?_),λA vk=>?_⟩
  ·have u:HT.Ea (V.str w::xs).length 0 (some ((1:Nat):Int))=1:=by rw[HT.FP,bp];omega
   have:=z.1.symm.trans u
   cases this
  rw[b]
  obtain⟨X,W,g,O⟩:=El (o:=HO.tup xs) vk
  rw[W]
  have I:HY K X A xs:=.inl (.inl O)
  refine⟨_,rfl,A,t,rfl,⟨_,I⟩,⟨_,s.sq _⟩,WN (K:=K) (xs:=xs) (ys:=n.map V.str) (λ_ _=>.bl true) I (s.sq _) (by rw[af];exact a) (BJ (by omega)) (λi x y Y B G c R k=>?_) (λD G hD c C=>?_)⟩
  ·rw[al] at B
   obtain⟨part,FC,rfl⟩:=aE.mp B
   exact⟨_,rfl,_,rfl,_,rfl,x,part,p,Z,ρ,rfl,c _ _ (g _ _ U),(M.mono g).mono c,hl,d i x part Y FC,λS L=>k S L⟩
  ·have e:List.zipWith (λ_ _=>V.bl true) xs (n.map V.str)=(List.replicate xs.length true).map V.bl:=by
    rw[List.map_replicate]
    refine fq λi=>?_
    rw[gg]
    by_cases F:i<xs.length
    ·rw[ae F,ae (by rw[af];omega),ae (by rw[iS];exact F)]
     simp
    ·rw[dt (by omega),dt (l:=List.replicate _ _) (by rw[iS];omega)]
   rw[e] at C
   refine⟨D,List.replicate xs.length true,rfl,kK C,?_⟩
   have e2:(List.replicate xs.length true).all id=true:=by simp
   rw[e2]
   exact q G (g.trans c)
inductive jY (vs:List V) (H:Hp) (Q:VK) (b9:XK):Prop
 | mk (p:Addr) (us:List V) (ρ:V->R) (c:Nat):vs=[.ref p]->H p=some (.lst us)->Rows H ρ us->us.length<=500->bf ρ us c->Q (.int (c:Nat)) H->jY vs H Q b9
theorem Y7:Av ["rows","count","row"] ["rows"] (Ae xO):=Bh
include N T in
theorem pK:Ao P w K mg base Bb 1 aD.fCl aD.dCl ["rows"] jY:=by
 refine N.FCl.1.DX Y7 λH F Q E D h=>?_
 obtain⟨p,k,ρ,c,rfl,y,t,hl,f,q⟩:=h
 refine⟨_,(Af (Ba (i:=1) Y7.nd rfl (Or.inl rfl) Ac)
  (Af (Eo PassesOwn.never rfl (jH rfl T.reversed (Aa (pv 0) Ab)) (Cd (i:=2) Y7.nd rfl (Or.inl rfl)) (Af (Bl (BL Ko (Ay (An (K:=K) rfl) (pv 2) Ac (λ_ _=>rfl)) BP (BW _)) (Ah Xo) Be)
  (Ah (Ba (i:=1) Y7.nd rfl (Or.inl rfl) (BX Br (pv 1) Ac)))))
  (Ah (Ax (pv 1))))),?_⟩
 have o:Dg K H p k:=.inl (.inl y)
 refine⟨_,rfl,p,k,rfl,o,Zj (K:=K) (a:=p) (xs:=k) (λi σ d=>d=H/\i<=c/\∃ m,σ=[some (.ref p),some (.int (i:Nat)),m]) ⟨rfl,dA _,_,rfl⟩ (λi σ d _ h=>by rw[h.1];exact o) ?_ ?_⟩
 ·rintro i x σ d C g ⟨rfl,n,m,rfl⟩
  obtain⟨r,rfl,s⟩:=t x (ai g)
  refine⟨_,rfl,r,_,_,_,rfl,rfl,kK s,Ag (j:=0) rfl,rfl,_,rfl,?_⟩
  by_cases e:(ρ (.ref r)).w = "line"
  ·have B:i ≠ c:=λz=>by
    obtain⟨v,b,l⟩:=f.no
    rw[<-z,g] at b
    cases b
    exact l e
   refine bc (congrArg V.str e) ?_
   exact⟨_,rfl,_,_,rfl,rfl,rfl,by omega,_,rfl⟩
  ·have u:i=c:=by
    refine Classical.byContradiction λz=>?_
    obtain⟨v,b,A⟩:=f.all i (by omega)
    rw[g] at b
    cases b
    exact e A
   subst u
   rw[decide_eq_false λz=>e (V.str.inj z)]
   refine DY ?_
   exact⟨_,rfl,q⟩
 ·rintro σ d ⟨rfl,n,m,rfl⟩
  have:=f.lt
  omega
inductive eE (vs:List V) (H:Hp) (Q:VK) (b9:XK):Prop
 | mk (n:Int) (bd:Str) (p:Addr) (us:List V) (ρ:V->R):vs=[.int n,.str bd,.ref p]->H p=some (.lst us)->Rows H ρ us->us.length<=500->GC ρ us->(∀ H',Am H H'->Q (.bl (keyOf ρ us bd n)) H')->eE vs H Q b9
theorem wQ:Av we we (Ae q_):=Bh
include N T in
theorem mJ:Ao P w K mg base Bb 2 aD.fIk aD.dIk we eE:=by
 refine N.FIk.1.DX wQ λH W Q E L h=>?_
 obtain⟨n,l,p,f,ρ,rfl,C,r,hl,O,q⟩:=h
 refine⟨_,(Ah (Ax (A_ (MJ rfl) rfl T.any ja (Aa (Bq rfl (Bf (osc:=Ae q_) (N:=we) rfl rfl (by decide)) (Bx (zC (P0 N T) L rfl N.FRo (Aa (pv 2) (Aa BP Ab)))) (λ_ _ _ _=>Cq) (λ_ _ _ _=>(Dp (Dw Bw (Ay (An (K:=K) rfl) (pv 0) Ac (λ_ _=>rfl)) (pv 2) (BW _)) (Dl (Dw HR (pv 1) (Ay (An (K:=K) rfl) (pv 0) Ac (λ_ _=>rfl)) (BW _)))))) Ab)))),?_⟩
 refine⟨_,rfl,p,f,"board",ρ,rfl,C,r,hl,λD G S t I=>?_⟩
 have z:Dg K G D (f.filter (pw ρ "board")):=.inl (.inl I)
 refine⟨D,rfl,⟨_,z⟩,C_ (K:=K) (xs:=f.filter (pw ρ "board")) (λ_=>true) (λv=>.bl (pn ρ l v && decide (n<iZ (ρ v)))) z (BJ (by have:=JB (pw ρ "board") f;omega)) (λx u a s R k=>k a (Am.refl a)) (λx u _ a s R k=>?_) (λM J U F B=>?_)⟩
 ·have b:=aS.mp u
  obtain⟨m,y⟩:=O x b.1 (V.str.inj (of_decide_eq_true b.2))
  have A:iZ (ρ x)=m:=by unfold iZ;rw[y]
  have o:=((r.mono t).mono s) x b.1
  have i:=k a (Am.refl a)
  rw[A] at i
  obtain⟨c,rfl,o⟩:=o
  have i:R (.bl (decide (V.str (ρ (.ref c)).nm=V.str l) && decide (n<m))) a:=i
  have d:a c=some (.tup (.str (ρ (.ref c)).w :: .str (ρ (.ref c)).nm::(ρ (.ref c)).rest)):=o
  rw[y] at d
  refine⟨_,rfl,c,_,_,_,rfl,rfl,kK d,Ag (j:=1) rfl,_,rfl,rfl,_,rfl,?_⟩
  refine Cz (λg=>?_) (λg=>?_)
  ·rw[g,gL] at i
   exact⟨_,rfl,_,rfl,c,_,_,_,rfl,rfl,kK d,Ag (j:=2) rfl,_,_,rfl,rfl,i⟩
  ·rw[(fo _).mp g,gS] at i
   exact i
 ·refine⟨M,(f.filter (pw ρ "board")).map (λv=>pn ρ l v && decide (n<iZ (ρ v))),rfl,.inl (.inl ?_),?_⟩
  ·rw[B,bg.mpr (λ_ _=>rfl),ax]
   rfl
  ·have e:((f.filter (pw ρ "board")).map (λv=>pn ρ l v && decide (n<iZ (ρ v)))).any id=keyOf ρ f l n:=by
    rw[List.any_map]
    rfl
   rw[e]
   exact q J (t.trans F)
inductive dI (vs:List V) (H:Hp) (Q:VK) (b9:XK):Prop
 | mk (r p:Addr) (ro:R) (us:List V) (ρ:V->R):vs=[.ref r,.ref p]->H r=some (.tup ro.v)->H p=some (.lst us)->Rows H ρ us->us.length<=500->RX ρ us ro->GC ρ us->(∀ H',Am H H'->Q (.bl true) H')->dI vs H Q b9
theorem gJ:Av ["line","ahead","count","row"] ["line","ahead"] (Ae tZ):=Bh
include N T in
theorem pG:Ao P w K mg base Bb 3 aD.fSb aD.dSb ["line","ahead"] dI:=by
 refine N.FSb.1.DX gJ λH U Q E n h=>?_
 obtain⟨r,p,o,b,ρ,rfl,I,f,e,hl,L,S,q⟩:=h
 obtain⟨O,M⟩:=T.mostLn
 refine⟨_,(Af (Ba (i:=2) gJ.nd rfl (Or.inl rfl) (zC (pK N T) n rfl N.FCl (Aa (pv 1) Ab)))
  (Af (Ba (i:=3) gJ.nd rfl (Or.inl rfl) (Ay Ij (pv 1) (BX Fz (BX Fz (A_ BZ rfl T.len bo (Aa (pv 1) Ab)) Ac) (pv 2)) (λ_ _=>rfl)))
  (Af (Bl (PW.pt (Ew (BL Ko (Ay (An (K:=K) rfl) (pv 3) Ac (λ_ _=>rfl)) BP (BW _)) (Ej (BL qT (pv 2) (Cr (v:=.int 4) rfl M ⟨O,rfl⟩) (BW _))))) (Ah (Ax Gv)) Be)
  (Ah (Ax (Dp (Dw FT (Ay (An (K:=K) rfl) (pv 0) Ac (λ_ _=>rfl)) (Ay (An (K:=K) rfl) (pv 0) Ac (λ_ _=>rfl)) (BW _)) (Dl (zC (mJ N T) n rfl N.FIk (Aa (Ay (An (K:=K) rfl) (pv 0) Ac (λ_ _=>rfl)) (Aa (Ay (An (K:=K) rfl) (pv 3) Ac (λ_ _=>rfl)) (Aa (pv 1) Ab))))))))))),?_⟩
 obtain⟨cnt,v,G,lo,m,k,A,F,l,W,t,B,y,g,R⟩:=L.ex
 have c:H r=some (.tup [.str o.w,.str o.nm,.int G,.int lo,.int m]):=by rw[I,<-F]
 obtain⟨d,rfl,x⟩:=e v (ai t)
 have a:H d=some (.tup (.str (ρ (.ref d)).w :: .str (ρ (.ref d)).nm :: .str k::A)):=by rw[x,<-y]
 have D:=l.lt
 have C:((b.length:Nat):Int) - 1 - ((cnt:Nat):Int)=((b.length - 1 - cnt:Nat):Int):=by omega
 have s:Dg K H p b:=.inl (.inl f)
 refine⟨_,rfl,p,b,ρ,cnt,rfl,f,e,hl,l,?_⟩
 refine⟨_,rfl,_,rfl,p,b,rfl,.inl s,_,_,rfl,rfl,_,rfl,_,_,rfl,rfl,p,b,_,_,rfl,rfl,s,(by rw[C];exact Ag t),?_⟩
 refine⟨_,rfl,d,_,_,_,rfl,rfl,kK a,Ag (j:=0) rfl,rfl,_,rfl,bc (congrArg V.str B) ?_⟩
 refine⟨_,rfl,_,_,rfl,rfl,_,rfl,?_⟩
 refine Cz (λz=>?_) (λ_=>?_)
 ·have:=of_decide_eq_true z
  omega
 refine⟨_,rfl,r,_,_,_,rfl,rfl,kK c,Ag (j:=3) rfl,_,rfl,r,_,_,_,rfl,rfl,kK c,Ag (j:=4) rfl,_,_,rfl,rfl,_,rfl,?_⟩
 refine Cz (λ_=>?_) (λz=>absurd (decide_eq_true g) z)
 refine⟨_,rfl,r,_,_,_,rfl,rfl,kK c,Ag (j:=4) rfl,_,rfl,d,_,_,_,rfl,rfl,kK a,Ag (j:=2) rfl,_,rfl,m,k,p,b,ρ,rfl,f,e,hl,S,λu J=>?_⟩
 rw[R]
 exact q u J
inductive jE (vs:List V) (H:Hp) (Q:VK) (b9:XK):Prop
 | mk (r p:Addr) (ro:R) (us:List V) (ρ:V->R) (ts:List Str):vs=[.ref r,.ref p]->H r=some (.tup ro.v)->H p=some (.lst us)->Rows H ρ us->us.length<=500->V.str ro.nm::ro.rest=ts.map V.str->ts.Nodup->ts.length<=24->(∀ t∈ts,isNm t/\YX ρ us "stop" t=true)->(∀ H',Am H H'->Q (.bl true) H')->jE vs H Q b9
theorem ju:Av ["row","ahead","names"] v4 (Ae sE):=Bh
include N T in
theorem kO:Ao P w K mg base Bb 5 aD.fIs aD.dIs v4 jE:=by
 refine N.FIs.1.DX ju λH vs Q E hr h=>?_
 obtain⟨r,p,d,Z,ρ,c,rfl,C,U,L,hl,G,J,AK,n,q⟩:=h
 refine⟨_,(Af (Ba (i:=2) ju.nd rfl (Or.inl rfl) (Ec N7 (pv 0) (Eh Ac) Gd))
  (Af (Bl (PW.pt (Ew (BL Bw (A_ BZ rfl T.len bo (Aa (pv 2) Ab)) Ac (BW _)) (Ej (Cu (DK (A_ (Hi rfl) rfl T.all gu (Aa (Bq rfl (Bf (osc:=Ae sE) (N:=["row","ahead","names"]) rfl rfl (by decide)) (Q5 (pv 2)) (λ_ _ _ _=>Cq) (λ_ _ _ _=>(zC (aq N T) hr rfl N.FTo (Aa (pv 2) (Aa BP (Aa (pv 0) Ab)))))) Ab))))))) (Ah (Ax Gv)) Be)
  (Ah (Ax (Dw Bw (A_ Mr rfl T.len bo (Aa (Dk (U_ rfl) rfl T.set PyProof.Rows.boot_set (Aa (pv 2) Ab)) Ab)) (A_ BZ rfl T.len bo (Aa (pv 2) Ab)) (BW _)))))),?_⟩
 have hv:d.v=V.str d.w::c.map V.str:=by
  show V.str d.w::(V.str d.nm::d.rest)=_
  rw[G]
 rw[hv] at C
 have X:1<=c.length:=by
  cases c with
  | nil=>cases G
  | cons a b=>exact dn (dA _)
 have g:Dy (V.str d.w::c.map V.str) (some 1) none=c.map V.str:=by
  unfold Dy
  have y:HT.Ea (V.str d.w::c.map V.str).length 0 (some 1)=1:=by
   rw[show (some (1:Int))=some ((1:Nat):Int) from rfl,HT.FP]
   simp
  rw[y,HT.Mp]
  simp
  exact ge (by rw[af];exact ah _)
 refine⟨_,rfl,_,rfl,r,_,rfl,kK C,?_,λf Ix=>?_⟩
 ·rintro⟨z,_⟩
  have y:HT.Ea (V.str d.w::c.map V.str).length 0 (some 1)=1:=by
   rw[show (some (1:Int))=some ((1:Nat):Int) from rfl,HT.FP]
   simp
  rw[y] at z
  cases z
 rw[g]
 obtain⟨H1,W,s,I⟩:=El (o:=HO.tup (c.map V.str)) Ix
 rw[W]
 have v:HY K H1 f (c.map V.str):=.inl (.inl I)
 have t:(c.map V.str).length=c.length:=af ..
 refine⟨_,rfl,f,_,rfl,.inr v,rfl,_,rfl,Cz (λz=>?_) (λ_=>?_)⟩
 ·exfalso
  have:=V.int.inj (of_decide_eq_true z)
  omega
 refine⟨_,rfl,f,rfl,⟨_,v⟩,QD (K:=K) (xs:=c.map V.str) (λ_=>true) (λ_=>.bl true) v (BJ (by omega)) (λx F l m R k=>k l (Am.refl l)) (λx F _ l m R k=>?_) (λD H2 hD B Y=>?_)⟩
 ·obtain⟨z,M,rfl⟩:=ar.mp F
  obtain⟨z1,O⟩:=n z M
  refine⟨_,rfl,_,rfl,p,Z,"stop",z,ρ,rfl,m _ _ (s _ _ U),(L.mono s).mono m,hl,z1,λH3 j=>?_⟩
  rw[O]
  exact k H3 j
 ·refine⟨D,List.replicate c.length true,rfl,.inl (.inl ?_),_,rfl,?_⟩
  ·rw[Y,bg.mpr (λ_ _=>rfl),ax]
   congr 2
   refine fq λi=>?_
   rw[al,al,List.getElem?_replicate]
   by_cases u:i<c.length
   ·rw[ae u,if_pos u]
    rfl
   ·rw[dt (by omega),if_neg u]
    rfl
  have ea:(List.replicate c.length true).all id=true:=by simp
  rw[ea]
  refine Bk ?_
  have A:=B _ _ I
  refine⟨_,rfl,f,c,rfl,kK A,by omega,λS hS=>?_⟩
  have j:=BR (o:=O_ P w S (c.foldl Ws.Gm [])) hS
  refine⟨S,_,rfl,Ak,_,rfl,f,_,rfl,.inr (.inl (.inl (j _ _ A))),rfl,?_⟩
  have e:c.foldl Ws.Gm []=c:=(M6 c [] (by rw[List.nil_append];exact J)).trans (List.nil_append _)
  have e2:decide (V.int (((c.foldl Ws.Gm []).length:Nat):Int)=V.int (((c.map V.str).length:Nat):Int))=true:=decide_eq_true (by rw[e,t])
  rw[e2]
  exact q _ (s.trans (B.trans j))
inductive aR (K:W.Frag) (aB aP aM:Addr) (vs:List V) (H:Hp) (Q:VK) (b9:XK):Prop
 | mk (r p:Addr) (ro:R) (us:List V) (ρ:V->R):vs=[.ref r,.ref p]->H r=some (.tup ro.v)->H p=some (.lst us)->Rows H ρ us->us.length<=500->Hg K aB aP aM ρ us ro->(∀ H',Am H H'->Q (.bl true) H')->aR K aB aP aM vs H Q b9
theorem vV:Av v4 v4 (Ae wu):=Bh
include N T in
theorem j_:Ao P w K mg base Bb 6 aD.fWm aD.dWm v4 (aR K aB aP aM):=by
 refine N.FWm.1.DX vV λH G Q E i h=>?_
 obtain⟨r,p,k,g,ρ,rfl,b,e,d,hl,n,q⟩:=h
 refine⟨_,(Af (Bl (BL Bw (Ay (An (K:=K) rfl) (pv 0) Ac (λ_ _=>rfl)) BP (BW _)) (Ah (Ax (zC (kO N T) i rfl N.FIs (Aa (pv 0) (Aa (pv 1) Ab))))) Be)
  (Af (Bl (BL Bw (Ay (An (K:=K) rfl) (pv 0) Ac (λ_ _=>rfl)) BP (BW _)) (Ah (Ax (Dp (zC (pU N T) i rfl N.FHp (Aa (pv 0) (Aa (pv 1) Ab))) (Dl (zC (pG N T) i rfl N.FSb (Aa (pv 0) (Aa (pv 1) Ab))))))) Be)
  (Ah (Ax (Dp (Xv (Wi (Ay (An (K:=K) rfl) (pv 0) Ac (λ_ _=>rfl)) (Cr (v:=.ref aP) rfl T.mP rfl))) (Dl (zC (pU N T) i rfl N.FHp (Aa (pv 0) (Aa (pv 1) Ab))))))))),?_⟩
 refine⟨_,rfl,r,_,_,_,rfl,rfl,kK b,Ag (j:=0) rfl,rfl,_,rfl,?_⟩
 rcases n with ok | ok
 case inr =>
  obtain⟨D,B,x,C,m⟩:=ok.ts
  refine Cz (λ_=>?_) (λz=>absurd (decide_eq_true (congrArg V.str ok.w)) z)
  exact⟨_,rfl,_,rfl,r,p,k,g,ρ,D,rfl,b,e,d,hl,B,x,C,m,q⟩
 obtain⟨u,s,l,o,a,t,c⟩:=ok.parts
 refine Cz (λz=>absurd (V.str.inj (of_decide_eq_true z)) ok.ns) (λ_=>?_)
 refine⟨_,rfl,r,_,_,_,rfl,rfl,kK b,Ag (j:=0) rfl,rfl,_,rfl,?_⟩
 refine Cz (λz=>?_) (λ_=>?_)
 ·have F:=ok.line (V.str.inj (of_decide_eq_true z))
  refine⟨_,rfl,_,rfl,r,p,k.w,_,g,ρ,u,s,rfl,b,e,d,hl,l,o,a,t,c,λI f=>⟨_,rfl,DY ?_⟩⟩
  exact⟨_,rfl,_,rfl,r,p,k,g,ρ,rfl,f _ _ b,f _ _ e,d.mono f,hl,F,ok.jj,λA y=>q A (f.trans y)⟩
 refine⟨_,rfl,r,_,_,_,rfl,rfl,kK b,Ag (j:=0) rfl,aP,_,_,rfl,rfl,T.dP,l,_,rfl,DY ?_⟩
 exact⟨_,rfl,_,rfl,r,p,k.w,_,g,ρ,u,s,rfl,b,e,d,hl,l,o,a,t,c,q⟩
inductive je (K:W.Frag) (aM:Addr) (vs:List V) (H:Hp) (Q:VK) (b9:XK):Prop
 | mk (p:Addr) (w:Str) (us:List V) (ρ:V->R):vs=[.str w,.ref p]->H p=some (.lst us)->Rows H ρ us->us.length<=500->(W.nsIn K aM w=some none \/ ∃ (m:Int) (t:Tok),W.nsIn K aM w=some (some (.int m t))/\(((us.filter (pw ρ w)).length:Nat):Int)<m)->(∀ H',Am H H'->Q (.bl true) H')->je K aM vs H Q b9
theorem uW:Av DV DV (Ae yQ):=Bh
include N T in
theorem pH:Ao P w K mg base Bb 2 aD.fHr aD.dHr DV (je K aM):=by
 refine N.FHr.1.DX uW λH n Q E g h=>?_
 obtain⟨p,w,d,ρ,rfl,i,f,hl,a,q⟩:=h
 refine⟨_,(Ah (Ax (mZ (Xv (Uk (pv 0) (Cr (v:=.ref aM) rfl T.mM rfl))) (Dl (Dw HR (A_ BZ rfl T.len bo (Aa (zC (P0 N T) g rfl N.FRo (Aa (pv 1) (Aa (pv 0) Ab))) Ab)) (Oa (Cr (v:=.ref aM) rfl T.mM rfl) (pv 0) (λ_ _=>rfl)) (BW _)))))),?_⟩
 rcases a with b | ⟨m,t,b,j⟩
 ·refine⟨_,rfl,aM,w,_,rfl,rfl,T.dM,b,_,rfl,DY ?_⟩
  exact q H (Am.refl H)
 refine⟨_,rfl,aM,w,_,rfl,rfl,T.dM,b,_,rfl,Bk ?_⟩
 refine⟨_,rfl,_,rfl,p,d,w,ρ,rfl,i,f,hl,λD c l k e=>?_⟩
 refine⟨D,_,rfl,kK (.inl e),_,rfl,aM,w,.int m,_,rfl,rfl,T.dM,b,⟨t,rfl⟩,_,_,rfl,rfl,?_⟩
 show Q (.bl (decide ((((d.filter (pw ρ w)).length:Nat):Int)<m))) c
 rw[decide_eq_true j]
 exact q c k
def lH (K:W.Frag) (aB aP aM:Addr):Sp:=aR K aB aP aM
theorem yV:Av DF DF (Ae vH):=Bh
include N T in
theorem nA:Ao P w K mg base Bb 7 aD.fIr aD.dIr DF (lH K aB aP aM):=by
 refine N.FIr.1.ok yV (λn H Q E h=>?_) (λu A f s H n Q E i h=>?_)
 ·obtain⟨r,p,b,e,ρ,rfl,_⟩:=h
  rfl
 ·obtain⟨r,p,b,e,ρ,rfl,c,k,g,hl,ok,q⟩:=h
  refine⟨_,(Af (Bl (PW.pt (Ew (Cu (DK (A_ Cj rfl T.isin be (Aa (pv 0) (Aa (Dm (v:=.ty "tuple") rfl T.tuple ix rfl) Ab))))) (Ew (BL Bw (A_ BZ rfl T.len bo (Aa (pv 0) Ab)) Ac (BW _)) (Ej (Cu (DK (A_ Cj rfl T.isin be (Aa (Ay (An (K:=K) rfl) (pv 0) Ac (λ_ _=>rfl)) (Aa (Dm (v:=.ty "str") rfl T.str hG rfl) Ab))))))))) (Ah (Ax Gv)) Be)
   (Ah (Ax (Dp (zC (j_ N T) i rfl N.FWm (Aa (pv 0) (Aa (pv 1) Ab))) (Dl (zC (pH N T) i rfl N.FHr (Aa (Ay (An (K:=K) rfl) (pv 0) Ac (λ_ _=>rfl)) (Aa (pv 1) Ab)))))))),?_⟩
  have a:W.nsIn K aM b.w=some none \/ ∃ (m:Int) (t:Tok),W.nsIn K aM b.w=some (some (.int m t))/\(((e.filter (pw ρ b.w)).length:Nat):Int)<m:=Hg.room ok
  refine⟨_,rfl,_,"tuple",_,_,rfl,.tup c,I_,_,rfl,Bk ?_⟩
  refine⟨_,rfl,r,_,rfl,.inr (.inl (.inl c)),rfl,_,rfl,?_⟩
  refine Cz (λz=>?_) (λ_=>?_)
  ·exfalso
   have:=of_decide_eq_true z
   have:=V.int.inj this
   simp at this
   omega
  refine⟨_,rfl,r,_,_,_,rfl,rfl,kK c,Ag (j:=0) rfl,_,"str",_,_,rfl,.str _,HQ,_,rfl,Bk ?_⟩
  refine⟨_,rfl,_,rfl,r,p,b,e,ρ,rfl,c,k,g,hl,ok,λx d=>⟨_,rfl,DY ?_⟩⟩
  exact⟨_,rfl,r,_,_,_,rfl,rfl,kK (d _ _ c),Ag (j:=0) rfl,_,rfl,p,b.w,e,ρ,rfl,d _ _ k,g.mono d,hl,a,λl o=>q l (d.trans o)⟩
inductive dj (K:W.Frag) (aB aP aM:Addr) (vs:List V) (H:Hp) (Q:VK) (b9:XK):Prop
 | mk (p:Addr) (us:List V) (ρ:V->R):vs=[.ref p]->H p=some (.lst us)->Rows H ρ us->1<=us.length->us.length<=150->(∀ (i:Nat) v,us[i]? = some v->Hg K aB aP aM ρ (us.take i) (ρ v))->(us.filter (pw ρ "board")).isEmpty=false->(∀ H',Am H H'->Q .non H')->dj K aB aP aM vs H Q b9
theorem jA:Av ["rows","at","row"] ["rows"] (Ae xn):=Bh
include N T in
theorem qH:Ao P w K mg base Bb 8 aD.fCk aD.dCk ["rows"] (dj K aB aP aM):=by
 refine N.FCk.1.DX jA λH Y Q E I h=>?_
 obtain⟨p,b,ρ,rfl,t,l,h1,h2,s,M,q⟩:=h
 obtain⟨S,y⟩:=T.mostR
 refine⟨_,(Af (Bl (PW.pt (Ew (Cu (DK (A_ Cj rfl T.isin be (Aa (pv 0) (Aa (Dm (v:=.ty "list") rfl T.list eI rfl) Ab))))) (Ej (Cu (Hq FT FT Ac (A_ BZ rfl T.len bo (Aa (pv 0) Ab)) (Cr (v:=.int 150) rfl y ⟨S,rfl⟩)))))) (Ah Hk) Be)
  (Af (Eo PassesOwn.never rfl (K1 rfl T.enumerate (Aa (pv 0) Ab)) (K5 rfl (Ed (Cd (i:=1) jA.nd rfl (Or.inl rfl)) (Ed (Cd (i:=2) jA.nd rfl (Or.inl rfl)) Jf))) (Ah (Bl (Cu (DK (zC (nA N T) I rfl N.FIr (Aa (pv 2) (Aa (Ec Ia (pv 0) Gd (Eh (pv 1))) Ab))))) (Ah Hk) Be)))
  (Ah (Bl (Cu (Ma (zC (P0 N T) I rfl N.FRo (Aa (pv 0) (Aa BP Ab))) (λ_=>rfl))) (Ah Hk) Be)))),?_⟩
 have j:Dg K H p b:=.inl (.inl t)
 refine⟨_,rfl,_,"list",_,_,rfl,.lst t,cJ,_,rfl,Bk ?_⟩
 refine⟨_,rfl,p,_,rfl,.inl j,_,_,rfl,rfl,_,rfl,?_⟩
 refine Cz (λ_=>?_) (λz=>absurd (decide_eq_true (by omega)) z)
 refine⟨_,_,rfl,rfl,_,rfl,?_⟩
 have e:decide ((b.length:Int)<=150)=true:=decide_eq_true (by omega)
 rw[e]
 refine Bk ?_
 refine⟨_,rfl,p,rfl,⟨_,j⟩,Lj (K:=K) (a:=p) (xs:=b) (λi σ d=>Am H d/\∃ B u,σ=[some (.ref p),B,u]) ⟨Am.refl H,_,_,rfl⟩ (λi σ d _ h=>h.1.seq j) ?_ ?_⟩
 ·rintro i x σ d G A ⟨c,B,u,rfl⟩ U
  have g:=BR (o:=HO.tup [.int (i:Int),x]) U
  refine⟨G,_,rfl,kK Ak,rfl,_,_,rfl,_,_,rfl,rfl,?_⟩
  generalize upd d G (HO.tup [.int (i:Int),x])=f at g |-
  have m:=c.trans g
  have hi:i<b.length:=(ag.mp A).1
  obtain⟨r,rfl,R⟩:=(l.mono m) x (ai A)
  refine⟨_,rfl,_,rfl,_,rfl,_,rfl,p,_,rfl,m.seq j,λk F=>?_⟩
  have n:=BR (o:=HO.lst (Dy b none (some (i:Int)))) F
  have C:upd f k (HO.lst (Dy b none (some (i:Int)))) k=_:=Ak
  generalize upd f k (HO.lst (Dy b none (some (i:Int))))=W at n C |-
  rw[JZ b i (by omega)] at C
  have J:=m.trans n
  refine⟨r,k,ρ (.ref r),b.take i,ρ,rfl,n _ _ R,C,(l.mono J).sub λv V=>fN V,by rw[ck];omega,s i _ A,λZ O=>⟨_,rfl,Bk ?_⟩⟩
  exact⟨J.trans O,_,_,rfl⟩
 ·rintro σ d ⟨c,B,u,rfl⟩
  refine⟨_,rfl,p,b,"board",ρ,rfl,c _ _ t,l.mono c,by omega,λD f X g L=>?_⟩
  refine⟨_,.inl ⟨_,kK L,rfl⟩,?_⟩
  rw[M]
  exact Bk (q f (c.trans g))
inductive fY (vs:List V) (H:Hp) (Q:VK) (b9:XK):Prop
 | mk (p:Addr) (ts:List Str):vs=[.ref p]->H p=some (.lst (ts.map V.str))->ts.length<=300->ts.Nodup->(∀ D (kvs:List (Key × V)) H',H D=none->Am H H'->H' D=some (.dK kvs)->(∀ (i:Nat) t,ts[i]? = some t->CP kvs (Sum.inr t)=some (.int (i:Nat)))->(∀ t,t ∉ ts->CP kvs (Sum.inr t)=none)->Q (.ref D) H')->fY vs H Q b9
theorem Y8:Av ["names","numbers","number","name"] ["names"] (Ae uw):=Bh
include N T in
theorem lA:Ao P w K mg base Bb 1 aD.fNu aD.dNu ["names"] fY:=by
 refine N.FNu.1.DX Y8 λH vs Q E U h=>?_
 obtain⟨p,l,rfl,O,hl,M,q⟩:=h
 have R:=CJ U
 refine⟨_,(Af (Ba (i:=1) Y8.nd rfl (Or.inl rfl) IV)
  (Af (Eo PassesOwn.never rfl (K1 rfl T.enumerate (Aa (pv 0) Ab)) (K5 rfl (Ed (Cd (i:=2) Y8.nd rfl (Or.inl rfl)) (Ed (Cd (i:=3) Y8.nd rfl (Or.inl rfl)) Jf))) (Ah (G_ R (pv 1) (pv 3) (pv 2) rfl)))
  (Ah (Ax (pv 1))))),?_⟩
 intro D r
 have J:=BR (o:=HO.dK []) r
 have L:Dg K H p (l.map V.str):=.inl (.inl O)
 refine⟨_,rfl,p,rfl,⟨_,J.seq L⟩,Lj (K:=K) (a:=p) (xs:=l.map V.str) (λi σ d=>Am H d/\∃ (c:List (Key × V)),d D=some (.dK c)/\c.length<=i/\(∀ (j:Nat) t,j<i->l[j]? = some t->CP c (Sum.inr t)=some (.int (j:Nat)))/\(∀ t,t ∉ l->CP c (Sum.inr t)=none)/\∃ v n,σ=[some (.ref p),some (.ref D),v,n])
  ⟨J,[],Ak,ah _,λj t y=>absurd y (ip _),λt _=>Vz,_,_,rfl⟩ (λi σ d _ h=>h.1.seq L) ?_ ?_⟩
 ·rintro i x σ d G I ⟨s,c,B,X,F,A,v,n,rfl⟩ S
  rw[al] at I
  obtain⟨t,f,rfl⟩:=aE.mp I
  have hi:i<l.length:=(ag.mp f).1
  have C:=BR (o:=HO.tup [.int (i:Int),.str t]) S
  refine⟨G,_,rfl,kK Ak,rfl,_,_,rfl,_,_,rfl,rfl,?_⟩
  generalize upd d G (HO.tup [.int (i:Int),.str t])=Z at C |-
  refine⟨_,rfl,_,rfl,_,rfl,D,_,rfl,Ks.k (k:=Sum.inr t) (C _ _ B) (BJ (by omega)),?_⟩
  refine⟨λb u e=>?_,putK c (Sum.inr t) (.int (i:Int)),Ak,ba (GZ _ _ _) (by omega),λj m y g=>?_,λm g=>(by rw[Gy,if_neg λz=>g (by rw[Sum.inr.inj z];exact ai f)];exact A m g),_,_,rfl⟩
  ·rw[Aw (Ai e r)]
   exact C _ _ (s _ _ e)
  ·rw[Gy]
   by_cases e:m=t
   ·subst e
    have:j=i:=by
     obtain⟨h1,W⟩:=ag.mp g
     obtain⟨h2,Y⟩:=ag.mp f
     exact (List.getElem_inj M).mp (W.trans Y.symm)
    subst this
    rw[if_pos rfl]
   ·rw[if_neg λz=>e (Sum.inr.inj z)]
    refine F j m ?_ g
    rcases Nat.lt_succ_iff_lt_or_eq.mp y with z | z
    ·exact z
    ·subst z
     rw[f] at g
     exact absurd (Option.some.inj g).symm e
 ·rintro σ d ⟨s,c,B,X,F,A,v,n,rfl⟩
  refine⟨_,rfl,q D c d r s B (λi t f=>F i t ?_ f) A⟩
  rw[af]
  exact (ag.mp f).1
inductive Z2 (vs:List V) (H:Hp) (Q:VK) (b9:XK):Prop
 | mk (p:Addr) (as:List Th) (us:List V):vs=[.ref p]->H p=some (.lst us)->Paired (λ(a:Th) y=>TupAt H (tV a) y) as us->as.length<=500->(∀ a∈as,a.2.1<=100)->(∀ H',Am H H'->Q (.int ((as.map λa=>a.2.1).sum:Nat)) H')->Z2 vs H Q b9
theorem R5:∀ l:List Nat,(l.map λn:Nat=>(n:Int)).sum=((l.sum:Nat):Int)
 | []=>rfl
 | n::l=>by
  rw[cw,ke,ke,R5 l]
  omega
theorem wz:Av BC BC (Ae sO):=Bh
include N T in
theorem bC:Ao P w K mg base Bb 1 aD.fCa aD.dCa BC Z2:=by
 refine N.FCa.1.DX wz λH F Q E G h=>?_
 obtain⟨p,o,s,rfl,u,g,hl,A,q⟩:=h
 refine⟨_,(Ah (Ax (A_ (Xd rfl) rfl T.sum PyProof.Rows.boot_sum (Aa (Bq rfl (Bf (osc:=Ae sO) (N:=BC) rfl rfl (by decide)) (Bx (pv 0)) (λ_ _ _ _=>Cq) (λ_ _ _ _=>(Ay (An (K:=K) rfl) (pv 0) Ac (λ_ _=>rfl)))) Ab)))),?_⟩
 have t:Dg K H p s:=.inl (.inl u)
 have I:=g.length
 refine⟨_,rfl,p,rfl,⟨_,t⟩,C_ (K:=K) (xs:=s) (λ_=>true) (Uz H 1) t (BJ (by omega)) (λx r c f R k=>k c (Am.refl c)) (λx r _ c f R k=>?_) (λD c C f i=>?_)⟩
 ·obtain⟨b,_,d⟩:=De g r
  have e:=Jx d 1
  obtain⟨B,rfl,y⟩:=d.mono f
  refine⟨_,rfl,B,_,_,_,rfl,rfl,kK y,Ag (j:=1) rfl,?_⟩
  have:=k c (Am.refl c)
  rw[e] at this
  exact this
 ·rw[bg.mpr (λ_ _=>rfl),Kz 1 g] at i
  have e:(o.map λa=>(tV a).getD 1 V.non)=((o.map λa=>a.2.1).map λn:Nat=>(n:Int)).map V.int:=by
   rw[ax,ax]
   rfl
  rw[e] at i
  refine⟨D,_,rfl,kK i,λn z=>?_,by simp;omega,?_⟩
  ·obtain⟨m,v,rfl⟩:=ar.mp z
   obtain⟨b,l,rfl⟩:=ar.mp v
   have:=A b l
   omega
  ·rw[R5]
   exact q c f
theorem kE (h:n<=3000):n<sizeLine:=aT h (by decide)
inductive fX (vs:List V) (H:Hp) (Q:VK) (b9:XK):Prop
 | mk (p:Addr) (as:List Th) (us:List V):vs=[.ref p]->H p=some (.lst us)->Paired (λ(a:Th) y=>TupAt H (tV a) y) as us->as.length<=12->(∀ a∈as,a.2.1<=97)->(∀ D ys H',H D=none->Am H H'->H' D=some (.lst ys)->Paired (λq y=>TupAt H' (qV q) y) (Fi (as.map tN)) ys->Q (.ref D) H')->fX vs H Q b9
theorem Z6:Av ["things","places","number","thing"] BC (Ae rW):=Bh
include N T in
theorem j7:Ao P w K mg base Bb 1 aD.fPl aD.dPl BC fX:=by
 refine N.FPl.1.DX Z6 λH vs Q E hr h=>?_
 obtain⟨p,g,S,rfl,hp,t,hl,L,q⟩:=h
 refine⟨_,(Af (Ba (i:=1) Z6.nd rfl (Or.inl rfl) (Eb Ab))
  (Af (Eo PassesOwn.never rfl (K1 rfl T.enumerate (Aa (pv 0) Ab)) (K5 rfl (Ed (Cd (i:=2) Z6.nd rfl (Or.inr rfl)) (Ed (Cd (i:=3) Z6.nd rfl (Or.inl rfl)) Jf))) (Ah (CG (IK cq PySem.F.slot_list_extend PySem.F.type_list_extend Ua (pv 1) (Aa (Bq rfl (Bf (osc:=Ae rW) (N:=["things","places","number","thing"]) rfl rfl (by decide)) (Dv rfl T.range (Aa (Ay (An (K:=K) rfl) (pv 3) Ac (λ_ _=>rfl)) Ab)) (λ_ _ _ _=>Cq) (λ_ _ _ _=>(Cm (Aa (pv 3) (Aa (pv 0) Ab))))) Ab)))))
  (Ah (Ax (pv 1))))),?_⟩
 refine⟨Cg (by simp),λD C=>?_⟩
 have W:=BR (o:=HO.lst []) C
 have Y:Dg K H p S:=.inl (.inl hp)
 have L1:=t.length
 refine⟨_,rfl,p,rfl,⟨_,W.seq Y⟩,Lj (K:=K) (a:=p) (xs:=S) (λi σ c=>Am H c/\∃ f,c D=some (.lst f)/\Paired (λq y=>TupAt c (qV q) y) (Fi ((g.map tN).take i)) f/\∃ G B,σ=[some (.ref p),some (.ref D),G,B])
  ⟨W,[],Ak,.nil,_,_,rfl⟩ (λi σ c _ h=>h.1.seq Y) ?_ ?_⟩
 ·rintro i x σ c O hx ⟨s,f,I,v,G,B,rfl⟩ hT
  obtain⟨b,J,A⟩:=QF t hx
  have hi:i<g.length:=(ag.mp J).1
  have M:=L b (ai J)
  have l:(g.map tN)[i]? = some (tN b):=by rw[al,J];rfl
  have m:=BR (o:=HO.tup [.int (i:Int),x]) hT
  refine⟨O,_,rfl,kK Ak,rfl,_,_,rfl,_,_,rfl,rfl,?_⟩
  generalize upd c O (HO.tup [.int (i:Int),x])=H5 at m |-
  obtain⟨r,rfl,i9⟩:=A.mono (s.trans m)
  have U:=Ar m v
  have z:=m _ _ I
  refine⟨_,rfl,.inl ⟨rfl,_,kK z⟩,_,rfl,r,_,_,_,rfl,rfl,kK i9,Ag (j:=1) rfl,_,rfl,by omega,by omega,?_⟩
  rw[bb]
  refine VL (n:=b.2.1) (λe=>qV (i,e)) (BJ (by omega)) (λe he Z d R k=>?_) (λD6 Z V ab d CD X=>?_)
  ·refine⟨_,rfl,_,rfl,by show 2<=sizeLine;decide,λT6 sA=>?_⟩
   exact k _ _ (BR sA) ⟨T6,rfl,Ak⟩
  ·have ly:=(Ar d U).length
   have lz:=X.length
   have lp:=O3 ((g.map tN).take i) 97 λb t=>by
    obtain⟨a,ha,rfl⟩:=ar.mp (fN t)
    exact L a ha
   rw[ck,af] at lp
   rw[gz] at lz
   have:min i g.length * 97<=12 * 97:=jv _ (by omega)
   refine⟨D,D6,f,V,rfl,rfl,d _ _ z,CD,fA (kE (by omega)),?_⟩
   refine⟨λb u e=>?_,f++V,Ak,?_,_,_,rfl⟩
   ·rw[Aw (Ai e C)]
    exact d _ _ (m _ _ (s _ _ e))
   ·rw[Ht l]
    exact Du (CW (Ar d U) (d _ _ z)) (By (F:=λq y=>TupAt _ (qV q) y) (λe=>(i,e)) (CW X (d _ _ z)))
 ·rintro σ c ⟨s,f,I,v,G,B,rfl⟩
  rw[<-L1,ge (by rw[af];exact ah _)] at v
  exact⟨_,rfl,q D f c C s I v⟩
theorem Z0 {α:Type} (l:List α) (x:α):VV (l++[x]) (-1)=some x:=by
 unfold VV fK
 rw[if_neg (by decide),if_pos (by rw[am,ay];omega)]
 show (l++[x])[(-1+(((l++[x]).length:Nat):Int)).toNat]? = some x
 have e:(-1+(((l++[x]).length:Nat):Int)).toNat=l.length:=by
  rw[am,ay]
  omega
 rw[e,dc (ah _),kq]
 rfl
theorem Lf {l:List Ln} {v:V} {A:Addr} {ys:List V} (h:HD H l v) (e:H A=some (.lst xs)) (d:v ≠ .ref A):HD (upd H A (.lst ys)) l v:=by
 obtain⟨B,a,rfl,c,b⟩:=h
 have:B ≠ A:=λz=>d (by rw[z])
 exact⟨B,a,rfl,by rw[Aw this];exact c,CW b e⟩
theorem Gf {α β:Type} {F G:α->β->Prop}:∀ {l:List α} {vs:List β},Paired F l vs->(∀ a b,b∈vs->F a b->G a b)->Paired G l vs
 | [],_,h,_=>by cases h;exact .nil
 | a::l,_,h,k=>by
  cases h with
  | cons x y=>exact .cons (k _ _ (ce ..) x) (Gf y λa b c=>k a b (bq _ c))
theorem Jw {α β:Type} {F:α->β->Prop}:∀ {l:List α} {z:α} {vs:List β},Paired F (l++[z]) vs->∃ us u,vs=us++[u]/\Paired F l us/\F z u
 | [],z,_,h=>by
  cases h with
  | cons x y=>cases y;exact⟨[],_,rfl,.nil,x⟩
 | a::l,z,_,h=>by
  cases h with
  | cons x y =>
   obtain⟨us,u,rfl,c,b⟩:=Jw y
   exact⟨_::us,u,rfl,.cons x c,b⟩
theorem FQ {α:Type} {l:List α} (h:l ≠ []):∃ a z,l=a++[z]:=⟨l.dropLast,l.getLast h,(List.dropLast_concat_getLast h).symm⟩
theorem O6 {rk:List (Str × Nat × Int)}:∀ {rs:List R},(∃ r∈rs,G3 r.w=true)->linesOf rk rs ≠ []:=by
 have d:∀ (n:Nat) (rs:List R),rs.length=n->(∃ r∈rs,G3 r.w=true)->linesOf rk rs ≠ []:=by
  intro n
  induction n with
  | zero =>
   rintro rs hl ⟨r,f,_⟩
   cases rs with
   | nil=>cases f
   | cons a b=>cases hl
  | succ n k =>
   rintro rs hl ⟨r,f,g⟩
   obtain⟨a,z,rfl⟩:=FQ (l:=rs) (by intro e;rw[e] at hl;cases hl)
   rw[DG]
   rw[am,ay] at hl
   unfold Dr
   by_cases c:G3 z.w=true
   ·rw[if_pos c]
    simp
   ·rw[if_neg c]
    have i:r∈a:=by
     rcases bX.mp f with h | h
     ·exact h
     ·rw[av.mp h] at g
      exact absurd g c
    have j:=k a (by omega) ⟨r,i,g⟩
    split
    ·obtain⟨b,y,e⟩:=FQ j
     rw[e,IW]
     simp
    ·exact j
 exact λ{rs} h=>d rs.length rs rfl h
inductive gr (vs:List V) (H:Hp) (Q:VK) (b9:XK):Prop
 | mk (p d:Addr) (us:List V) (ρ:V->R) (rk:List (Str × Nat × Int)) (kvs:List (Key × V)):vs=[.ref p,.ref d]->H p=some (.lst us)->Rows H ρ us->us.length<=500->H d=some (.dK kvs)->(∀ (i:Nat) r,rk[i]? = some r->CP kvs (Sum.inr r.1)=some (.int (i:Nat)))->(rk.map (·.1)).Nodup->(∀ (i:Nat) v,us[i]? = some v->(ρ v).w = "line"->(∃ (j:Nat) (r:Str × Nat × Int) (sh lo hi:Int),rk[j]? = some r/\r.1=(ρ v).nm/\(ρ v).rest=[.int sh,.int lo,.int hi])/\∃ u∈us.take i,G3 (ρ u).w=true)->(∀ D H',H D=none->Am H H'->Ef p H' D (linesOf rk (us.map ρ))->Q (.ref D) H')->gr vs H Q b9
theorem gQ {rk:List (Str × Nat × Int)} {r:Str × Nat × Int} (b:(rk.map (·.1)).Nodup) (h:rk[j]? = some r):(rk.map (·.1)).idxOf r.1=j:=by
 have a:j<(rk.map (·.1)).length:=by rw[af];exact (ag.mp h).1
 have e:(rk.map (·.1))[j]=r.1:=by
  rw[kD]
  exact congrArg (·.1) (ag.mp h).2
 rw[<-e]
 exact List.Nodup.idxOf_getElem b j a
theorem fB:Av ["rows","rank_numbers","lines","row"] Dx (Ae xr):=Bh
include N T in
theorem ph:Ao P w K mg base Bb 1 aD.fLi aD.dLi Dx gr:=by
 refine N.FLi.1.DX fB λH vs Q E hr h=>?_
 obtain⟨p,d,f,ρ,rk,a0,rfl,hp,hR,hl,aN,tP,aw,tq,q⟩:=h
 have hu:=CJ hr
 refine⟨_,(Af (Ba (i:=2) fB.nd rfl (Or.inl rfl) (Eb Ab))
  (Af (Eo PassesOwn.never rfl (Bx (pv 0)) (Cd (i:=3) fB.nd rfl (Or.inl rfl)) (Af (Bl (BL (MK (K:=K) rfl) (Ay (An (K:=K) rfl) (pv 3) Ac (λ_ _=>rfl)) (Cr (v:=.ref aK) rfl T.mK rfl) rfl) (Ah (CG (IK cq ee et Dj (pv 2) (Aa (Eb Ab) Ab)))) Be)
  (Ah (Bl (BL Bw (Ay (An (K:=K) rfl) (pv 3) Ac (λ_ _=>rfl)) BP (BW _)) (Ah (CG (IK cq ee et Dj (Ay (Bm (K:=K) rfl) (pv 2) (Ji LQ Ac) (λ_ _=>rfl)) (Aa (Cm (Aa (Fo hu (pv 1) (Ay (An (K:=K) rfl) (pv 3) Ac (λ_ _=>rfl)) (λ_ _=>rfl)) (Aa (Ay (An (K:=K) rfl) (pv 3) Ac (λ_ _=>rfl)) (Aa (Ay (An (K:=K) rfl) (pv 3) Ac (λ_ _=>rfl)) (Aa (Ay (An (K:=K) rfl) (pv 3) Ac (λ_ _=>rfl)) Ab))))) Ab)))) Be))))
  (Ah (Ax (pv 2))))),?_⟩
 refine⟨Cg (by simp),λD hD=>?_⟩
 have s0:=BR (o:=HO.lst []) hD
 have hS:Dg K H p f:=.inl (.inl hp)
 refine⟨_,rfl,p,rfl,⟨_,s0.seq hS⟩,Hz (K:=K) (a:=p) (xs:=f) (λi σ I=>Am H I/\∃ m,I D=some (.lst m)/\Paired (λl v=>HD I l v) (linesOf rk ((f.take i).map ρ)) m/\m.Nodup/\(∀ v∈m,v ≠ .ref D)/\(∀ v∈m,∃ A,v=.ref A/\H A=none)/\m.length<=i/\(∀ l∈linesOf rk ((f.take i).map ρ),l.length<=i)/\∃ v3,σ=[some (.ref p),some (.ref d),some (.ref D),v3])
  ⟨s0,[],Ak,.nil,iP,(λv n=>nomatch n),(λv n=>nomatch n),ah _,(λl hl=>nomatch hl),_,rfl⟩ (λi σ I _ h=>h.1.seq hS) ?_ ?_⟩
 ·rintro i x σ I hx ⟨G,m,J,C,Z,s,Y,aC,W,v3,rfl⟩
  have hm:=ai hx
  have hi:i<f.length:=(ag.mp hx).1
  obtain⟨r,rfl,X⟩:=(hR.mono G) x hm
  have S:(f.take (i+1)).map ρ=(f.take i).map ρ++[ρ (.ref r)]:=by
   rw[cr,hx,cm]
   rfl
  have M:linesOf rk ((f.take (i+1)).map ρ)=Dr rk (linesOf rk ((f.take i).map ρ)) (ρ (.ref r)):=by rw[S,DG]
  have a1:(linesOf rk ((f.take i).map ρ)).length=m.length:=C.length
  by_cases O:G3 (ρ (.ref r)).w=true
  ·have JE:¬ (ρ (.ref r)).w = "line":=λz=>by rw[z] at O;exact absurd O (by decide)
   have c:linesOf rk ((f.take (i+1)).map ρ)=linesOf rk ((f.take i).map ρ)++[[]]:=by rw[M];unfold Dr;rw[if_pos O]
   refine⟨_,rfl,r,_,_,_,rfl,rfl,kK X,Ag (j:=0) rfl,aK,_,rfl,.inr (T.tK.sq _),rfl,rfl,_,rfl,?_⟩
   refine Cz (λ_=>?_) (λz=>absurd O z)
   refine⟨_,rfl,.inl ⟨rfl,_,kK J⟩,Cg (by simp),λp5 t=>?_⟩
   obtain⟨H5,i7,B,u5⟩:=El (o:=HO.lst []) t
   rw[i7]
   have NR:=B _ _ J
   refine⟨D,m,_,rfl,rfl,NR,BJ (by omega),?_⟩
   have aQ:r ≠ D:=cQ (B _ _ X) NR (by intro z;cases z)
   have an:p5 ≠ D:=λz=>by rw[z,J] at t;cases t
   refine⟨_,rfl,r,_,_,_,rfl,rfl,kK (by rw[Aw aQ];exact B _ _ X),Ag (j:=0) rfl,rfl,_,rfl,?_⟩
   refine Cz (λz=>absurd (V.str.inj (of_decide_eq_true z)) JE) (λ_=>?_)
   refine⟨λb u e=>?_,m++[.ref p5],Ak,?_,?_,?_,?_,by simp;omega,?_,_,rfl⟩
   ·rw[Aw (Ai e hD)]
    exact B _ _ (G _ _ e)
   ·rw[c]
    refine Du (Gf C λl v n h=>Lf (h.mono B) NR (s v n)) (.cons ⟨p5,[],rfl,by rw[Aw an];exact u5,.nil⟩ .nil)
   ·refine SQ Z λhm=>?_
    obtain⟨l,_,L⟩:=De C hm
    obtain⟨A,ts,e,h1,_⟩:=L
    cases e
    rw[h1] at t
    cases t
   ·intro v n
    rcases bX.mp n with h | h
    ·exact s v h
    ·rw[av.mp h]
     intro z
     exact an (V.ref.inj z)
   ·intro v n
    rcases bX.mp n with h | h
    ·exact Y v h
    ·exact⟨p5,av.mp h,G.free t⟩
   ·intro l U
    rw[c] at U
    rcases bX.mp U with h | h
    ·exact hZ (W l h)
    ·rw[av.mp h]
     exact dA _
  ·refine⟨_,rfl,r,_,_,_,rfl,rfl,kK X,Ag (j:=0) rfl,aK,_,rfl,.inr (T.tK.sq _),rfl,rfl,_,rfl,?_⟩
   refine Cz (λz=>absurd z O) (λ_=>?_)
   refine⟨_,rfl,r,_,_,_,rfl,rfl,kK X,Ag (j:=0) rfl,rfl,_,rfl,?_⟩
   by_cases y:(ρ (.ref r)).w = "line"
   ·refine Cz (λ_=>?_) (λz=>absurd (decide_eq_true (congrArg V.str y)) z)
    obtain⟨⟨j,rr,sh,lo,R,hj,SI,rL⟩,u,hu,Tk⟩:=tq i _ hx y
    have ab:linesOf rk ((f.take i).map ρ) ≠ []:=O6 ⟨ρ u,aI hu,Tk⟩
    obtain⟨ac,z,Lu⟩:=FQ ab
    rw[Lu] at C
    obtain⟨YU,v,rfl,UO,hz⟩:=Jw C
    obtain⟨A,ts,rfl,L,DU⟩:=hz
    have c:linesOf rk ((f.take (i+1)).map ρ)=ac++[z++[⟨j,sh,lo,R⟩]]:=by
     rw[M]
     unfold Dr
     rw[if_neg O,if_pos y,Lu,IW]
     unfold lnOf
     rw[rL,<-SI,gQ aw hj]
    have F:I r=some (.tup [.str (ρ (.ref r)).w,.str (ρ (.ref r)).nm,.int sh,.int lo,.int R]):=by rw[X,<-rL]
    have g:=Em.k (k:=Sum.inr rr.1) (G _ _ aN)
    rw[tP j rr hj,SI] at g
    have ap:A ≠ D:=λe=>s (.ref A) (by simp) (by rw[e])
    have a3:z.length<=i:=W z (by rw[Lu];simp)
    have aZ:=DU.length
    refine⟨_,rfl,_,rfl,D,_,_,_,rfl,rfl,kK J,Z0 YU (V.ref A),.inl ⟨rfl,_,kK L⟩,_,rfl,_,rfl,r,_,_,_,rfl,rfl,kK F,Ag (j:=1) rfl,d,_,rfl,g,_,rfl,r,_,_,_,rfl,rfl,kK F,Ag (j:=2) rfl,_,rfl,r,_,_,_,rfl,rfl,kK F,Ag (j:=3) rfl,_,rfl,r,_,_,_,rfl,rfl,kK F,Ag (j:=4) rfl,by show 4<=sizeLine;decide,λT5 OV=>?_⟩
    obtain⟨H5,i7,B,u5⟩:=El (o:=HO.tup [.int (j:Nat),.int sh,.int lo,.int R]) OV
    rw[i7]
    have ON:=B _ _ L
    have aM:T5 ≠ A:=λe=>by rw[e,L] at OV;cases OV
    have aB:D ≠ A:=λe=>ap e.symm
    obtain⟨a2,_,FY⟩:=hV.mp Z
    refine⟨A,ts,_,rfl,rfl,ON,BJ (by omega),?_⟩
    refine⟨λb u e=>?_,YU++[.ref A],by rw[Aw aB];exact B _ _ J,?_,Z,s,Y,by omega,?_,_,rfl⟩
    ·obtain⟨A',eA,as⟩:=Y (.ref A) (by simp)
     cases eA
     rw[Aw (Ai e as)]
     exact B _ _ (G _ _ e)
    ·rw[c]
     refine Du (Gf UO λl v n h=>Lf (h.mono B) ON (λe=>FY v n _ (av.mpr rfl) e)) (.cons ⟨A,ts++[.ref T5],rfl,Ak,Du (CW (Ar B DU) ON) (.cons ⟨T5,rfl,by rw[Aw aM];exact u5⟩ .nil)⟩ .nil)
    ·intro l U
     rw[c] at U
     rcases bX.mp U with h | h
     ·exact hZ (W l (by rw[Lu];exact cy _ h))
     ·rw[av.mp h,am,ay]
      omega
   ·refine Cz (λz=>absurd (V.str.inj (of_decide_eq_true z)) y) (λ_=>?_)
    have c:linesOf rk ((f.take (i+1)).map ρ)=linesOf rk ((f.take i).map ρ):=by rw[M];unfold Dr;rw[if_neg O,if_neg y]
    rw[<-c] at C W
    exact⟨G,m,J,C,Z,s,Y,by omega,λl U=>hZ (W l U),_,rfl⟩
 ·rintro σ I ⟨G,m,J,C,Z,s,Y,aC,W,v3,rfl⟩
  rw[eD] at C
  have aP:D ≠ p:=Ne.symm (Ai hp hD)
  refine⟨_,rfl,q D I hD G ⟨m,J,aP,Gf C λl v n h=>⟨h,λz=>?_⟩⟩⟩
  obtain⟨A,e,L⟩:=Y v n
  rw[e] at z
  rw[V.ref.inj z,hp] at L
  cases L
abbrev nV (l:List Nat):List V:=l.map λn:Nat=>V.int (n:Int)
inductive iR (vs:List V) (H:Hp) (Q:VK) (b9:XK):Prop
 | mk (i:Int):vs=[.int i]->Q (.bl (decide (0<=i) && decide (i<1200))) H->iR vs H Q b9
theorem wB:Av uB uB (Ae tU):=Bh
include N T in
theorem oH:Ao P w K mg base Bb 2 aD.fMy aD.dMy uB iR:=by
 refine N.FMy.1.DX wB λH e Q E d h=>?_
 obtain⟨i,rfl,q⟩:=h
 obtain⟨c,a⟩:=T.below
 refine⟨_,(Ah (Ax (Dp (zC (bT N T) d rfl N.FWh (Aa (pv 0) Ab)) (Dl (Gr FT HR Ac (pv 0) (Cr (v:=.int 1200) rfl a ⟨c,rfl⟩)))))),?_⟩
 refine⟨_,rfl,i,rfl,_,rfl,DY ?_⟩
 refine⟨_,rfl,_,_,rfl,rfl,_,rfl,?_⟩
 refine Cz (λb=>?_) (λb=>?_)
 ·rw[b,gL] at q
  exact⟨_,_,rfl,rfl,q⟩
 ·rw[(fo _).mp b,gS] at q
  exact q
inductive Ph (vs:List V) (H:Hp) (Q:VK) (b9:XK):Prop
 | mk (p:Addr) (l:List Nat):vs=[.ref p]->H p=some (.lst (nV l))->l.length<=500->(∀ n∈l,n<1200)->(∀ H',Am H H'->Q (.int (Wd.mk l:Nat)) H')->Ph vs H Q b9
theorem n_ (l:List Nat) (n:Nat):Builtin.bitOr ((Wd.mk l:Nat):Int) (1 * 2 ^ ((n:Nat):Int).toNat)=((Wd.mk (l++[n]):Nat):Int):=by
 rw[Int.one_mul,bb,Hv,Ik,Wd.Ye]
theorem Y5:Av ["numbers","some","number"] ["numbers"] (Ae rJ):=Bh
include N T in
theorem M5:Ao P w K mg base Bb 3 aD.fSt aD.dSt ["numbers"] Ph:=by
 refine N.FSt.1.DX Y5 λH F Q E u h=>?_
 obtain⟨p,l,rfl,t,C,s,q⟩:=h
 refine⟨_,(Af (Bl (PW.pt (Ew (Cu (DK (A_ Cj rfl T.isin be (Aa (pv 0) (Aa (Dm (v:=.ty "list") rfl T.list eI rfl) Ab))))) (Ej (Cu (DK (A_ (Hi rfl) rfl T.all gu (Aa (Bq rfl (Bf (osc:=Ae rJ) (N:=["numbers","some","number"]) rfl rfl (by decide)) (Bx (pv 0)) (λ_ _ _ _=>Cq) (λ_ _ _ _=>(zC (oH N T) u rfl N.FMy (Aa (pv 0) Ab)))) Ab))))))) (Ah Hk) Be)
  (Af (Ba (i:=1) Y5.nd rfl (Or.inl rfl) Ac)
  (Af (Eo PassesOwn.never rfl (Bx (pv 0)) (Cd (i:=2) Y5.nd rfl (Or.inl rfl)) (Ah (Ba (i:=1) Y5.nd rfl (Or.inl rfl) (BX M3 (pv 1) (BX V3 Ac (pv 2))))))
  (Ah (Ax (pv 1)))))),?_⟩
 have g:Dg K H p (nV l):=.inl (.inl t)
 refine⟨_,rfl,_,"list",_,_,rfl,.lst t,cJ,_,rfl,Bk ?_⟩
 have j:(nV l).length<sizeLine:=BJ (by simp;omega)
 refine⟨_,rfl,p,rfl,⟨_,g⟩,C_ (K:=K) (xs:=nV l) (λ_=>true) (λ_=>.bl true) g j (λx o b c R k=>k b (Am.refl b)) (λx o _ b c R k=>?_) (λD b B c hl=>?_)⟩
 ·obtain⟨n,d,rfl⟩:=ar.mp o
  refine⟨_,rfl,(n:Int),rfl,?_⟩
  have e:(decide ((0:Int)<=(n:Int)) && decide ((n:Int)<1200))=true:=by
   have:=s n d
   simp
   omega
  rw[e]
  exact k b (Am.refl b)
 ·refine⟨D,(nV l).map λ_=>true,rfl,.inl (.inl ?_),?_⟩
  ·rw[hl,bg.mpr (λ_ _=>rfl)]
   simp
  ·have e:((nV l).map λ_=>true).all id=true:=by simp
   rw[e]
   refine⟨_,rfl,Bk ?_⟩
   refine⟨_,rfl,p,rfl,⟨_,c.seq g⟩,Hz (K:=K) (a:=p) (xs:=nV l) (λi σ f=>f=b/\∃ m,σ=[some (.ref p),some (.int (Wd.mk (l.take i):Nat)),m]) ⟨rfl,_,rfl⟩ (λi σ f _ h=>by rw[h.1];exact c.seq g) ?_ ?_⟩
   ·rintro i y σ f r ⟨rfl,m,rfl⟩
    rw[al] at r
    obtain⟨n,d,rfl⟩:=aE.mp r
    have A:=s n (ai d)
    refine⟨_,rfl,_,rfl,_,_,rfl,rfl,⟨by omega,by omega,by decide⟩,_,_,rfl,rfl,?_⟩
    refine⟨rfl,some (.int (n:Int)),?_⟩
    try dsimp only
    rw[n_,cr,d]
    rfl
   ·rintro σ f ⟨rfl,m,rfl⟩
    have z:l.take (nV l).length=l:=List.take_of_length_le (by simp)
    rw[z]
    exact⟨_,rfl,q _ c⟩
def zW (nms:List Str):V->V
 | .str t=>.int (nms.idxOf t:Nat)
 | _=>.non
theorem UT (h:t∈nms):nms[nms.idxOf t]? = some t:=by
 rw[ae (gd h),List.getElem_idxOf]
inductive fG (vs:List V) (H:Hp) (Q:VK) (b9:XK):Prop
 | mk (r kd:Addr) (ro:R) (kvs:List (Key × V)) (nms ts:List Str):vs=[.ref r,.ref kd]->H r=some (.tup ro.v)->H kd=some (.dK kvs)->V.str ro.nm::ro.rest=ts.map V.str->ts.length<=24->nms.length<=300->(∀ (i:Nat) t,nms[i]? = some t->CP kvs (Sum.inr t)=some (.int (i:Nat)))->(∀ t∈ts,t∈nms)->(∀ H',Am H H'->Q (.int (Wd.mk (ts.map λt=>nms.idxOf t):Nat)) H')->fG vs H Q b9
theorem uT:Av xp xp (Ae sI):=Bh
include N T in
theorem nj:Ao P w K mg base Bb 4 aD.fSs aD.dSs xp fG:=by
 refine N.FSs.1.DX uT λH vs Q E v h=>?_
 obtain⟨r,Y,c,C,b,a,rfl,s,J,O,AK,SI,S,e,q⟩:=h
 have L:=CJ v
 refine⟨_,(Ah (Ax (zC (M5 N T) v rfl N.FSt (Aa (Bq rfl (Bf (osc:=Ae sI) (N:=xp) rfl rfl (by decide)) (Q5 (Ec N7 (pv 0) (Eh Ac) Gd)) (λ_ _ _ _=>Cq) (λ_ _ _ _=>(Fo L (pv 2) (pv 0) (λ_ _=>rfl)))) Ab)))),?_⟩
 have hv:c.v=V.str c.w::a.map V.str:=by
  show V.str c.w::(V.str c.nm::c.rest)=_
  rw[O]
 rw[hv] at s
 have A:HT.Ea (V.str c.w::a.map V.str).length 0 (some 1)=1:=by
  rw[show (some (1:Int))=some ((1:Nat):Int) from rfl,HT.FP]
  simp
 have f:Dy (V.str c.w::a.map V.str) (some 1) none=a.map V.str:=by
  unfold Dy
  rw[A,HT.Mp]
  simp
  exact ge (by rw[af];exact ah _)
 refine⟨_,rfl,_,rfl,r,_,rfl,kK s,?_,λl Ix=>?_⟩
 ·rintro⟨z,_⟩
  rw[A] at z
  cases z
 rw[f]
 obtain⟨X,G,p,U⟩:=El (o:=HO.tup (a.map V.str)) Ix
 rw[G]
 have y:HY K X l (a.map V.str):=.inl (.inl U)
 have M:(a.map V.str).length=a.length:=af ..
 refine⟨l,rfl,⟨_,y⟩,QD (K:=K) (xs:=a.map V.str) (λ_=>true) (zW b) y (BJ (by omega)) (λx u d m R k=>k d (Am.refl d)) (λx u _ d m R k=>?_) (λD H2 hD I i=>?_)⟩
 ·obtain⟨t,j,rfl⟩:=ar.mp u
  have g:=Em.k (k:=Sum.inr t) (m _ _ (p _ _ J))
  rw[S _ t (UT (e t j))] at g
  exact⟨_,rfl,_,rfl,Y,_,rfl,g,k d (Am.refl d)⟩
 ·rw[bg.mpr (λ_ _=>rfl),ax] at i
  have Z:a.map (zW b ∘ V.str)=nV (a.map λt=>b.idxOf t):=by
   unfold nV
   rw[ax]
   rfl
  rw[Z] at i
  refine⟨D,_,rfl,i,by rw[af];omega,λn B=>?_,λW F=>q W (p.trans (I.trans F))⟩
  obtain⟨t,j,rfl⟩:=ar.mp B
  have:=gd (e t j)
  omega
abbrev ZK:List Str:=["row_list","board_list","rank_list","knob_rows","board_numbers","rank_numbers","knob_numbers","key_places","pipe_places","knob_lines","step_sets"]
theorem Er:∀ m∈meths,∀ f∈ZK,¬ m=f:=by decide
theorem Ux {rk:List (Str × Nat × Int)} {k:Nat->V->Prop} (h:∀ (i:Nat) v,us[i]? = some v->(ρ v).w = "line"->k i v/\∃ u∈us.take i,G3 (ρ u).w=true):(linesOf rk (us.map ρ)).length=(us.filter (λv=>G3 (ρ v).w)).length:=by
 have c:∀ n,n<=us.length->(linesOf rk ((us.take n).map ρ)).length=((us.take n).filter (λv=>G3 (ρ v).w)).length:=by
  intro n
  induction n with
  | zero=>intro _;rfl
  | succ n g =>
   intro m
   have d:=ae (l:=us) (i:=n) (by omega)
   rw[cr,d,cm]
   show (linesOf rk ((us.take n).map ρ++[ρ us[n]])).length=((us.take n++[us[n]]).filter _).length
   rw[DG,fi,am,<-g (by omega)]
   unfold Dr
   by_cases b:G3 (ρ us[n]).w=true
   ·rw[if_pos b,ff,if_pos b]
    simp
   ·rw[if_neg b,ff,if_neg b]
    by_cases hl:(ρ us[n]).w = "line"
    ·rw[if_pos hl]
     obtain⟨_,u,f,j⟩:=h n _ d hl
     obtain⟨a,z,e⟩:=FQ (O6 (rk:=rk) ⟨ρ u,aI f,j⟩)
     rw[e,IW]
     simp
    ·rw[if_neg hl]
     simp
 have:=c us.length (ah _)
 rw[eD] at this
 exact this
inductive il (K:W.Frag) (aB aP aM C:Addr) (vs:List V) (H:Hp) (Q:VK) (b9:XK):Prop
 | mk (x dx p:Addr) (us:List V) (ρ:V->R) (bs:List (Str × Nat)) (rk:List (Str × Nat × Int)) (ks:List R):vs=[.ref x,.ref p]->H x=some (.ins C dx [])->H p=some (.lst us)->Rows H ρ us->tW K aB aP aM ρ us bs rk ks->(∀ H',Iv C H' x us bs rk ks (linesOf rk (us.map ρ)) ((us.filter (pw ρ "step")).map λv=>stN ks (ρ v))->(∀ rg,SX p H' rg->Iv C rg x us bs rk ks (linesOf rk (us.map ρ)) ((us.filter (pw ρ "step")).map λv=>stN ks (ρ v)))->SX x H H'->Q .non H')->il K aB aP aM C vs H Q b9
theorem tX:Av vw vw (Ae YZ):=Bh
include N T in
theorem oh:Ao P w K mg base Bb 9 aD.fOi aD.dOi vw (il K aB aP aM C):=by
 refine N.FOi.1.DX tX λH vs Q E hr h=>?_
 obtain⟨x,c,p,I,ρ,bs,rk,ks,rfl,M,hp,hR,O,q⟩:=h
 refine⟨_,(Af (CG (zC (qH N T) hr rfl N.FCk (Aa (pv 1) Ab)))
  (Af (Cv (pv 0) (Dk Ep rfl T.list eI (Aa (pv 1) Ab)) rfl)
  (Af (Cv (pv 0) (Bq rfl (Bf (osc:=Ae YZ) (N:=vw) rfl rfl (by decide)) (Bx (zC (P0 N T) hr rfl N.FRo (Aa (pv 1) (Aa BP Ab)))) (λ_ _ _ _=>Cq) (λ_ _ _ _=>(Cm (Aa (Ay (An (K:=K) rfl) (pv 0) Ac (λ_ _=>rfl)) (Aa (Ay (An (K:=K) rfl) (pv 0) Ac (λ_ _=>rfl)) Ab))))) rfl)
  (Af (Cv (pv 0) (Bq rfl (Bf (osc:=Ae YZ) (N:=vw) rfl rfl (by decide)) (Bx (zC (P0 N T) hr rfl N.FRo (Aa (pv 1) (Aa BP Ab)))) (λ_ _ _ _=>Cq) (λ_ _ _ _=>(Cm (Aa (Ay (An (K:=K) rfl) (pv 0) Ac (λ_ _=>rfl)) (Aa (Ay (An (K:=K) rfl) (pv 0) Ac (λ_ _=>rfl)) (Aa (Ay (An (K:=K) rfl) (pv 0) Ac (λ_ _=>rfl)) Ab)))))) rfl)
  (Af (Cv (pv 0) (Bq rfl (Bf (osc:=Ae YZ) (N:=vw) rfl rfl (by decide)) (Bx (pv 1)) (λ_ _ _ _=>(G6 (BL (MK (K:=K) rfl) (Ay (An (K:=K) rfl) (pv 0) Ac (λ_ _=>rfl)) (Cr (v:=.ref aK) rfl T.mK rfl) rfl))) (λ_ _ _ _=>(pv 0))) rfl)
  (Af (Cv (pv 0) (zC (lA N T) hr rfl N.FNu (Aa (Bq rfl (Bf (osc:=Ae YZ) (N:=vw) rfl rfl (by decide)) (Bx (Bc (pv 0) rfl)) (λ_ _ _ _=>Cq) (λ_ _ _ _=>(Ay (An (K:=K) rfl) (pv 0) Ac (λ_ _=>rfl)))) Ab)) rfl)
  (Af (Cv (pv 0) (zC (lA N T) hr rfl N.FNu (Aa (Bq rfl (Bf (osc:=Ae YZ) (N:=vw) rfl rfl (by decide)) (Bx (Bc (pv 0) rfl)) (λ_ _ _ _=>Cq) (λ_ _ _ _=>(Ay (An (K:=K) rfl) (pv 0) Ac (λ_ _=>rfl)))) Ab)) rfl)
  (Af (Cv (pv 0) (zC (lA N T) hr rfl N.FNu (Aa (Bq rfl (Bf (osc:=Ae YZ) (N:=vw) rfl rfl (by decide)) (Bx (Bc (pv 0) rfl)) (λ_ _ _ _=>Cq) (λ_ _ _ _=>(Ay (An (K:=K) rfl) (pv 0) Ac (λ_ _=>rfl)))) Ab)) rfl)
  (Af (Cv (pv 0) (zC (j7 N T) hr rfl N.FPl (Aa (Bc (pv 0) rfl) Ab)) rfl)
  (Af (Cv (pv 0) (zC (j7 N T) hr rfl N.FPl (Aa (Bc (pv 0) rfl) Ab)) rfl)
  (Af (Cv (pv 0) (zC (ph N T) hr rfl N.FLi (Aa (pv 1) (Aa (Bc (pv 0) rfl) Ab))) rfl)
  (Ah (Cv (pv 0) (Bq rfl (Bf (osc:=Ae YZ) (N:=vw) rfl rfl (by decide)) (Bx (zC (P0 N T) hr rfl N.FRo (Aa (pv 1) (Aa BP Ab)))) (λ_ _ _ _=>Cq) (λ_ _ _ _=>(zC (nj N T) hr rfl N.FSs (Aa (pv 0) (Aa (aO (K:=K) rfl (pv 1) rfl) Ab))))) rfl))))))))))))),?_⟩
 have d3:=O.len
 obtain⟨ur,NA⟩:∃ ur,I.filter (pw ρ "rank")=ur:=⟨_,rfl⟩
 have er:ur.map ρ=rk.map Fv:=by rw[<-NA];exact O.er
 have lr:ur.length=rk.length:=by have:=congrArg List.length er;simpa using this
 have inR:∀ {v},v∈ur->v∈I:=λ{v} D=>by rw[<-NA] at D;exact (aS.mp D).1
 have cD:∀ {v},v∈ur->∃ b∈rk,ρ v=Fv b:=λ{v} D=>by
  have:ρ v∈rk.map Fv:=by rw[<-er];exact aI D
  obtain⟨b,hb,e⟩:=ar.mp this
  exact⟨b,hb,e.symm⟩
 obtain⟨ub,xA⟩:∃ ub,I.filter (pw ρ "board")=ub:=⟨_,rfl⟩
 obtain⟨uk,LB⟩:∃ uk,I.filter (λv=>G3 (ρ v).w)=uk:=⟨_,rfl⟩
 have eb:ub.map ρ=bs.map Es:=by rw[<-xA];exact O.eb
 have ek:uk.map ρ=ks:=by rw[<-LB];exact O.ek
 have lb:ub.length=bs.length:=by have:=congrArg List.length eb;simpa using this
 have d6:uk.length=ks.length:=by have:=congrArg List.length ek;simpa using this
 have cs:∀ {v},v∈ub->v∈I:=λ{v} D=>by rw[<-xA] at D;exact (aS.mp D).1
 have a2:∀ {v},v∈uk->v∈I:=λ{v} D=>by rw[<-LB] at D;exact (aS.mp D).1
 have cH:∀ {v},v∈ub->∃ b∈bs,ρ v=Es b:=λ{v} D=>by
  have:ρ v∈bs.map Es:=by rw[<-eb];exact aI D
  obtain⟨b,hb,e⟩:=ar.mp this
  exact⟨b,hb,e.symm⟩
 have bW:1<=I.length:=by
  have h1:=O.b0
  have h2:ub.length<=I.length:=by rw[<-xA];exact bE _ _
  omega
 refine⟨_,rfl,p,I,ρ,rfl,hp,hR,bW,by omega,O.ok,?_,λH1 s1=>?_⟩
 ·rw[xA]
  cases ub with
  | nil =>
   have:=O.b0
   simp at lb
   omega
  | cons a b=>rfl
 have c1:SX x H H1:=SX.of s1
 have x1:=s1 _ _ M
 refine⟨_,rfl,p,_,rfl,kK (.inl (s1 _ _ hp)),λl1 b5=>?_⟩
 have cP:l1 ≠ p:=Ne.symm (Ai (s1 _ _ hp) b5)
 obtain⟨H2,i7,s2,cB⟩:=El (o:=HO.lst I) b5
 rw[i7]
 refine⟨_,rfl,x,C,c,_,rfl,s2 _ _ x1,T.cl,T.n_row_list,(by show 0<1000;decide),?_⟩
 have c2:SX x H _:=(c1.trans (SX.of s2)).trans (SX.up (o:=HO.ins C c (BV "row_list" (.ref l1) [])))
 have x2:upd H2 x (HO.ins C c (BV "row_list" (.ref l1) [])) x=_:=Ak
 have YV:=(SX.up (o:=HO.ins C c (BV "row_list" (.ref l1) [])):SX x H2 _).lst (s2 _ _ x1) cB
 generalize upd H2 x (HO.ins C c (BV "row_list" (.ref l1) []))=H3 at c2 x2 YV |-
 have c0:=c2
 replace hR:Rows H3 ρ I:=λv D=>c2.tup M (hR v D)
 replace hp:=c2.lst M hp
 clear c2
 replace M:=x2
 have c2:SX x H3 H3:=SX.of (Am.refl _)
 have R3:Rows H3 ρ I:=λv D=>c2.tup M (hR v D)
 refine⟨_,rfl,p,_,"board",ρ,rfl,c2.lst M hp,R3,by omega,λD4 H4 ed s4 XG=>?_⟩
 rw[xA] at XG
 have b7:Dg K H4 D4 ub:=.inl (.inl XG)
 refine⟨D4,rfl,⟨_,b7⟩,Mj (K:=K) (xs:=ub) (λ_=>true) (λv=>[.str (ρ v).nm,(ρ v).rest.getD 0 .non]) b7 (BJ (by have:=O.b5;omega)) (λy Y s X R k=>k s (Am.refl s)) (λy Y _ s X R k=>?_) (λD5 H5 i5 NL s5 qf bz=>?_)⟩
 ·obtain⟨b,_,e⟩:=cH Y
  have W:=(R3 y (cs Y)).mono (s4.trans X)
  rw[e] at W k
  obtain⟨T0,rfl,W⟩:=W
  exact⟨_,rfl,T0,_,_,_,rfl,rfl,kK W,Ag (j:=1) rfl,_,rfl,T0,_,_,_,rfl,rfl,kK W,Ag (j:=2) rfl,by show 2<=sizeLine;decide,λT6 sA=>k _ _ (BR sA) ⟨T6,rfl,Ak⟩⟩
 rw[bg.mpr (λ_ _=>rfl)] at bz
 have b4:Paired (λb y=>TupAt H5 (bV b) y) bs i5:=by
  have h1:=By (F:=λ(r:R) y=>TupAt H5 [.str r.nm,r.rest.getD 0 .non] y) ρ bz
  rw[eb] at h1
  exact Gi Es h1
 clear bz
 refine⟨_,rfl,x,C,c,_,rfl,s5 _ _ (s4 _ _ x2),T.cl,T.n_board_list,Nat.lt_of_le_of_lt (B_ _ _ _) (by show 1<1000;decide),?_⟩
 have u6:SX x H5 _:=SX.up (o:=HO.ins C c (BV "board_list" (.ref D5) (BV "row_list" (.ref l1) [])))
 have x5:=s5 _ _ (s4 _ _ x2)
 have c6:=(c2.trans (SX.of (s4.trans s5))).trans u6
 have x6:upd H5 x (HO.ins C c (BV "board_list" (.ref D5) (BV "row_list" (.ref l1) []))) x=_:=Ak
 have CD:=u6.lst x5 qf
 have YE:=u6.pair x5 b4
 generalize upd H5 x (HO.ins C c (BV "board_list" (.ref D5) (BV "row_list" (.ref l1) [])))=H6 at c6 x6 CD YE |-
 clear u6
 have R6:Rows H6 ρ I:=λv D=>c6.tup M (hR v D)
 refine⟨_,rfl,p,_,"rank",ρ,rfl,c6.lst M hp,R6,by omega,λD7 H7 d4 s7 WA=>?_⟩
 rw[NA] at WA
 have cb:Dg K H7 D7 ur:=.inl (.inl WA)
 refine⟨D7,rfl,⟨_,cb⟩,Mj (K:=K) (xs:=ur) (λ_=>true) (λv=>[.str (ρ v).nm,(ρ v).rest.getD 0 .non,(ρ v).rest.getD 1 .non]) cb (BJ (by have:=O.nr;omega)) (λy Y s X R k=>k s (Am.refl s)) (λy Y _ s X R k=>?_) (λD8 H8 kU dd s8 sM AU=>?_)⟩
 ·obtain⟨b,_,e⟩:=cD Y
  have W:=(R6 y (inR Y)).mono (s7.trans X)
  rw[e] at W k
  obtain⟨T0,rfl,W⟩:=W
  exact⟨_,rfl,T0,_,_,_,rfl,rfl,kK W,Ag (j:=1) rfl,_,rfl,T0,_,_,_,rfl,rfl,kK W,Ag (j:=2) rfl,_,rfl,T0,_,_,_,rfl,rfl,kK W,Ag (j:=3) rfl,by show 3<=sizeLine;decide,λT6 sA=>k _ _ (BR sA) ⟨T6,rfl,Ak⟩⟩
 rw[bg.mpr (λ_ _=>rfl)] at AU
 have b2:Paired (λ(a:Th) y=>TupAt H8 (tV a) y) (rk.map X6) kU:=by
  have h1:=By (F:=λ(r:R) y=>TupAt H8 [.str r.nm,r.rest.getD 0 .non,r.rest.getD 1 .non] y) ρ AU
  rw[er] at h1
  exact By (F:=λ(a:Th) y=>TupAt H8 (tV a) y) X6 (Gi Fv h1)
 clear AU
 refine⟨_,rfl,x,C,c,_,rfl,s8 _ _ (s7 _ _ x6),T.cl,T.n_rank_list,Nat.lt_of_le_of_lt (Nat.le_trans (B_ _ _ _) (Nat.succ_le_succ (B_ _ _ _))) (by show 2<1000;decide),?_⟩
 have xt:=s7.trans s8
 have x8:=xt _ _ x6
 have c8:=c6.trans (SX.of xt)
 have Uf:=xt _ _ CD
 have JJ:=Ar xt YE
 have u9:SX x H8 _:=SX.up (o:=HO.ins C c (BV "rank_list" (.ref D8) (BV "board_list" (.ref D5) (BV "row_list" (.ref l1) []))))
 have x9:upd H8 x (HO.ins C c (BV "rank_list" (.ref D8) (BV "board_list" (.ref D5) (BV "row_list" (.ref l1) [])))) x=_:=Ak
 have c9:=c8.trans u9
 have NH:=u9.lst x8 Uf
 have OA:=u9.pair x8 JJ
 have NF:=u9.lst x8 sM
 have Sk:=u9.pair x8 b2
 generalize as:BV "rank_list" (.ref D8) (BV "board_list" (.ref D5) (BV "row_list" (.ref l1) []))=f9 at x9 c9 NH OA NF Sk u9 |-
 generalize upd H8 x (HO.ins C c f9)=H9 at x9 c9 NH OA NF Sk |-
 have n9:f9.length<=3:=by rw[<-as];exact ba (B_ _ _ _) (dn (ba (B_ _ _ _) (dn (B_ _ _ _))))
 have ca:f9.lookup ("board_list" : Str)=some (.ref D5):=by rw[<-as,Aj,if_neg (by decide),Aj,if_pos rfl]
 have dr:f9.lookup ("row_list" : Str)=some (.ref l1):=by rw[<-as,Aj,if_neg (by decide),Aj,if_neg (by decide),Aj,if_pos rfl]
 have b8:f9.lookup ("rank_list" : Str)=some (.ref D8):=by rw[<-as,Aj,if_pos rfl]
 have dp:∀ m∈meths,f9.lookup m=none:=λm hm=>by
  rw[<-as,Aj,if_neg (Er m hm _ (by decide)),Aj,if_neg (Er m hm _ (by decide)),Aj,if_neg (Er m hm _ (by decide))]
  rfl
 clear u9 as
 have R9:Rows H9 ρ I:=λv D=>c9.tup M (hR v D)
 have b0:Dg K H9 p I:=.inl (.inl (c9.lst M hp))
 refine⟨_,rfl,p,rfl,⟨_,b0⟩,C_ (K:=K) (xs:=I) (λv=>G3 (ρ v).w) id b0 (BJ (by omega)) (λy Y s X R k=>?_) (λy Y _ s X R k=>⟨_,rfl,k s (Am.refl s)⟩) (λrV mI NY ap a1=>?_)⟩
 ·obtain⟨T0,rfl,W⟩:=(R9.mono X) y Y
  exact⟨_,rfl,T0,_,_,_,rfl,rfl,kK W,Ag (j:=0) rfl,aK,_,rfl,.inr (T.tK.sq _),rfl,rfl,_,rfl,k s (Am.refl s)⟩
 rw[iO,LB] at a1
 refine⟨_,rfl,x,C,c,_,rfl,ap _ _ x9,T.cl,T.n_knob_rows,by omega,?_⟩
 have E8:=ap _ _ x9
 have an:SX x mI _:=SX.up (o:=HO.ins C c (BV "knob_rows" (.ref rV) f9))
 have bv:upd mI x (HO.ins C c (BV "knob_rows" (.ref rV) f9)) x=_:=Ak
 have XU:=(c9.trans (SX.of ap)).trans an
 have CM:=an.lst E8 (ap _ _ NH)
 have uu:=an.pair E8 (Ar ap OA)
 have FM:=an.lst E8 (ap _ _ NF)
 have IN:=an.pair E8 (Ar ap Sk)
 have IH:=an.lst E8 a1
 generalize upd mI x (HO.ins C c (BV "knob_rows" (.ref rV) f9))=I0 at bv XU CM uu FM IN IH |-
 clear an
 have L1:=uu.length
 have a8:Dg K I0 D5 i5:=.inl (.inl CM)
 refine⟨_,rfl,x,C,c,_,_,rfl,bv,T.cl,T.n_board_list,(by rw[Aj,if_neg (by decide)];exact ca),D5,rfl,⟨_,a8⟩,C_ (K:=K) (xs:=i5) (λ_=>true) (Uz I0 0) a8 (BJ (by have:=O.b5;omega)) (λy Y s X R k=>k s (Am.refl s)) (λy Y _ s X R k=>?_) (λdz mn d0 cZ rX=>?_)⟩
 ·obtain⟨b,_,aN⟩:=De uu Y
  have e:=Jx aN 0
  obtain⟨T0,rfl,W⟩:=aN.mono X
  refine⟨_,rfl,T0,_,_,_,rfl,rfl,kK W,Ag (j:=0) rfl,?_⟩
  have:=k s (Am.refl s)
  rw[e] at this
  exact this
 rw[bg.mpr (λ_ _=>rfl),Kz 0 uu] at rX
 have cA:(bs.map λb=>(bV b).getD 0 V.non)=(bs.map (·.1)).map V.str:=by
  rw[ax]
  rfl
 rw[cA] at rX
 refine⟨dz,_,rfl,rX,by rw[af];have:=O.b5;omega,O.nb,λwb b3 CY dQ cn NM M' MG=>?_⟩
 have mf:=cZ.trans cn
 have zk:=mf _ _ bv
 refine⟨_,rfl,x,C,c,_,rfl,zk,T.cl,T.n_board_numbers,aT (B_ _ _ _) (by omega),?_⟩
 have ac:SX x CY _:=SX.up (o:=HO.ins C c (BV "board_numbers" (.ref wb) (BV "knob_rows" (.ref rV) f9)))
 have bL:upd CY x (HO.ins C c (BV "board_numbers" (.ref wb) (BV "knob_rows" (.ref rV) f9))) x=_:=Ak
 have Zp:=(XU.trans (SX.of mf)).trans ac
 have JI:=ac.lst zk (mf _ _ CM)
 have GH:=ac.pair zk (Ar mf uu)
 have BS:=ac.lst zk (mf _ _ FM)
 have tj:=ac.pair zk (Ar mf IN)
 have F':=ac.lst zk (mf _ _ IH)
 have FO:=ac.dk zk NM
 generalize upd CY x (HO.ins C c (BV "board_numbers" (.ref wb) (BV "knob_rows" (.ref rV) f9)))=BE at bL Zp JI GH BS tj F' FO |-
 clear ac
 have da:=tj.length
 rw[af] at da
 have a6:Dg K BE D8 kU:=.inl (.inl BS)
 refine⟨_,rfl,x,C,c,_,_,rfl,bL,T.cl,T.n_rank_list,(by rw[Aj,if_neg (by decide),Aj,if_neg (by decide)];exact b8),D8,rfl,⟨_,a6⟩,C_ (K:=K) (xs:=kU) (λ_=>true) (Uz BE 0) a6 (BJ (by have:=O.nr;omega)) (λy Y s X R k=>k s (Am.refl s)) (λy Y _ s X R k=>?_) (λdv XE dK B9 Cc=>?_)⟩
 ·obtain⟨b,_,aN⟩:=De tj Y
  have e:=Jx aN 0
  obtain⟨T0,rfl,W⟩:=aN.mono X
  refine⟨_,rfl,T0,_,_,_,rfl,rfl,kK W,Ag (j:=0) rfl,?_⟩
  have:=k s (Am.refl s)
  rw[e] at this
  exact this
 rw[bg.mpr (λ_ _=>rfl),Kz 0 tj] at Cc
 have c5:((rk.map X6).map λb=>(tV b).getD 0 V.non)=(rk.map (·.1)).map V.str:=by
  rw[ax,ax]
  rfl
 rw[c5] at Cc
 refine⟨dv,_,rfl,Cc,by rw[af];have:=O.nr;omega,O.nrr,λDL xy LI d1 No UU FB dV=>?_⟩
 have lI:=B9.trans No
 have xD:=lI _ _ bL
 refine⟨_,rfl,x,C,c,_,rfl,xD,T.cl,T.n_rank_numbers,aT (ba (B_ _ _ _) (dn (B_ _ _ _))) (by omega),?_⟩
 have ab:SX x LI _:=SX.up (o:=HO.ins C c (BV "rank_numbers" (.ref DL) (BV "board_numbers" (.ref wb) (BV "knob_rows" (.ref rV) f9))))
 have aZ:upd LI x (HO.ins C c (BV "rank_numbers" (.ref DL) (BV "board_numbers" (.ref wb) (BV "knob_rows" (.ref rV) f9)))) x=_:=Ak
 have LO:=(Zp.trans (SX.of lI)).trans ab
 have Co:=ab.lst xD (lI _ _ JI)
 have B1:=ab.pair xD (Ar lI GH)
 have BQ:=ab.lst xD (lI _ _ BS)
 have B7:=ab.pair xD (Ar lI tj)
 have vF:=ab.lst xD (lI _ _ F')
 have CS:=ab.dk xD (lI _ _ FO)
 have B0:=ab.dk xD UU
 generalize G:BV "rank_numbers" (.ref DL) (BV "board_numbers" (.ref wb) (BV "knob_rows" (.ref rV) f9))=g at aZ LO Co B1 BQ B7 vF CS B0 ab |-
 generalize upd LI x (HO.ins C c g)=bS at aZ LO Co B1 BQ B7 vF CS B0 |-
 have cp:g.length<=6:=by rw[<-G];exact ba (B_ _ _ _) (dn (ba (B_ _ _ _) (dn (ba (B_ _ _ _) (dn n9)))))
 have a7:g.lookup ("board_list" : Str)=some (.ref D5):=by rw[<-G,Aj,if_neg (by decide),Aj,if_neg (by decide),Aj,if_neg (by decide)];exact ca
 have b1:g.lookup ("row_list" : Str)=some (.ref l1):=by rw[<-G,Aj,if_neg (by decide),Aj,if_neg (by decide),Aj,if_neg (by decide)];exact dr
 have a4:g.lookup ("rank_list" : Str)=some (.ref D8):=by rw[<-G,Aj,if_neg (by decide),Aj,if_neg (by decide),Aj,if_neg (by decide)];exact b8
 have bm:g.lookup ("rank_numbers" : Str)=some (.ref DL):=by rw[<-G,Aj,if_pos rfl]
 have bd:g.lookup ("board_numbers" : Str)=some (.ref wb):=by rw[<-G,Aj,if_neg (by decide),Aj,if_pos rfl]
 have aw:g.lookup ("knob_rows" : Str)=some (.ref rV):=by rw[<-G,Aj,if_neg (by decide),Aj,if_neg (by decide),Aj,if_pos rfl]
 have b6:∀ m∈meths,g.lookup m=none:=λm hm=>by
  rw[<-G,Aj,if_neg (Er m hm _ (by decide)),Aj,if_neg (Er m hm _ (by decide)),Aj,if_neg (Er m hm _ (by decide))]
  exact dp m hm
 clear ab G
 have a5:Dg K bS rV uk:=.inl (.inl vF)
 have cK:Rows bS ρ I:=λv D=>LO.tup M (hR v D)
 refine⟨_,rfl,x,C,c,_,_,rfl,aZ,T.cl,T.n_knob_rows,aw,rV,rfl,⟨_,a5⟩,C_ (K:=K) (xs:=uk) (λ_=>true) (λv=>.str (ρ v).nm) a5 (BJ (by have:=O.nk;omega)) (λy Y s X R k=>k s (Am.refl s)) (λy Y _ s X R k=>?_) (λc3 d5 dM cO BO=>?_)⟩
 ·obtain⟨T0,rfl,W⟩:=(cK.mono X) y (a2 Y)
  exact⟨_,rfl,T0,_,_,_,rfl,rfl,kK W,Ag (j:=1) rfl,k s (Am.refl s)⟩
 rw[bg.mpr (λ_ _=>rfl)] at BO
 have dB:(uk.map λv=>V.str (ρ v).nm)=(ks.map (·.nm)).map V.str:=by
  rw[<-ek,ax,ax]
  rfl
 rw[dB] at BO
 refine⟨c3,_,rfl,BO,by rw[af];have:=O.nk;omega,O.nn,λsQ xh N0 dT ct MY Go QI=>?_⟩
 have li:=cO.trans ct
 have wl:=li _ _ aZ
 refine⟨_,rfl,x,C,c,_,rfl,wl,T.cl,T.n_knob_numbers,by omega,?_⟩
 have Z:SX x N0 _:=SX.up (o:=HO.ins C c (BV "knob_numbers" (.ref sQ) g))
 have bK:upd N0 x (HO.ins C c (BV "knob_numbers" (.ref sQ) g)) x=_:=Ak
 have MQ:=(LO.trans (SX.of li)).trans Z
 have yn:=Z.lst wl (li _ _ Co)
 have zw:=Z.pair wl (Ar li B1)
 have FU:=Z.lst wl (li _ _ BQ)
 have KA:=Z.pair wl (Ar li B7)
 have EK:=Z.lst wl (li _ _ vF)
 have GE:=Z.dk wl MY
 have Fk:=Z.dk wl (li _ _ CS)
 have JU:=Z.dk wl (li _ _ B0)
 generalize upd N0 x (HO.ins C c (BV "knob_numbers" (.ref sQ) g))=cg at bK MQ yn zw FU KA EK Fk JU GE |-
 clear Z
 refine⟨_,rfl,x,C,c,_,_,rfl,bK,T.cl,T.n_board_list,(by rw[Aj,if_neg (by decide)];exact a7),D5,bs.map jn,i5,rfl,yn,By (F:=λ(a:Th) y=>TupAt cg (tV a) y) jn zw,(by rw[List.length_map];have:=O.b5;omega),(λa ha=>by obtain⟨b,hb,rfl⟩:=List.mem_map.mp ha;have:=O.sz b hb;show b.2<=97;omega),λvx lh P8 N2 va MC FH=>?_⟩
 have cY:(bs.map jn).map tN=bs:=by
  rw[ax]
  exact iO bs
 rw[cY] at FH
 have tm:=va _ _ bK
 refine⟨_,rfl,x,C,c,_,rfl,tm,T.cl,T.n_key_places,aT (B_ _ _ _) (by omega),?_⟩
 have L:SX x P8 _:=SX.up (o:=HO.ins C c (BV "key_places" (.ref vx) (BV "knob_numbers" (.ref sQ) g)))
 have bl:upd P8 x (HO.ins C c (BV "key_places" (.ref vx) (BV "knob_numbers" (.ref sQ) g))) x=_:=Ak
 have MB:=(MQ.trans (SX.of va)).trans L
 have HM:=L.lst tm (va _ _ yn)
 have EQ:=L.pair tm (Ar va zw)
 have Bn:=L.lst tm (va _ _ FU)
 have BB:=L.pair tm (Ar va KA)
 have KI:=L.lst tm (va _ _ EK)
 have KG:=L.dk tm (va _ _ GE)
 have IU:=L.dk tm (va _ _ Fk)
 have GS:=L.dk tm (va _ _ JU)
 have FF:=L.lst tm MC
 have HV:=L.pair tm FH
 generalize upd P8 x (HO.ins C c (BV "key_places" (.ref vx) (BV "knob_numbers" (.ref sQ) g)))=ea at bl MB HM EQ Bn BB KI IU GS FF HV KG |-
 clear L
 refine⟨_,rfl,x,C,c,_,_,rfl,bl,T.cl,T.n_rank_list,(by rw[Aj,if_neg (by decide),Aj,if_neg (by decide)];exact a4),D8,rk.map X6,kU,rfl,Bn,BB,(by rw[af];exact O.nr),(λa ha=>by obtain⟨r,hr,rfl⟩:=ar.mp ha;exact O.nz r hr),λDM D0 OG UK sL Of HC=>?_⟩
 have cE:(rk.map X6).map tN=rk.map jU:=by
  rw[ax]
  rfl
 rw[cE] at HC
 have r8:=sL _ _ bl
 refine⟨_,rfl,x,C,c,_,rfl,r8,T.cl,T.n_pipe_places,aT (ba (B_ _ _ _) (dn (B_ _ _ _))) (by omega),?_⟩
 have B:SX x OG _:=SX.up (o:=HO.ins C c (BV "pipe_places" (.ref DM) (BV "key_places" (.ref vx) (BV "knob_numbers" (.ref sQ) g))))
 have a0:upd OG x (HO.ins C c (BV "pipe_places" (.ref DM) (BV "key_places" (.ref vx) (BV "knob_numbers" (.ref sQ) g)))) x=_:=Ak
 have IZ:=(MB.trans (SX.of sL)).trans B
 have C8:=B.lst r8 (sL _ _ HM)
 have B8:=B.pair r8 (Ar sL EQ)
 have zt:=B.lst r8 (sL _ _ KI)
 have C7:=B.lst r8 (sL _ _ Bn)
 have C4:=B.pair r8 (Ar sL BB)
 have yA:=B.lst r8 Of
 have A0:=B.pair r8 HC
 have CF:=B.dk r8 (sL _ _ KG)
 have AX:=B.dk r8 (sL _ _ IU)
 have vj:=B.dk r8 (sL _ _ GS)
 have A2:=B.lst r8 (sL _ _ FF)
 have CI:=B.pair r8 (Ar sL HV)
 generalize S:BV "pipe_places" (.ref DM) (BV "key_places" (.ref vx) (BV "knob_numbers" (.ref sQ) g))=J at a0 IZ C8 B8 zt C7 C4 yA A0 AX vj A2 CI B CF |-
 generalize upd OG x (HO.ins C c J)=c4 at a0 IZ C8 B8 zt C7 C4 yA A0 AX vj A2 CI CF |-
 have ec:J.length<=9:=by rw[<-S];exact ba (B_ _ _ _) (dn (ba (B_ _ _ _) (dn (ba (B_ _ _ _) (dn cp)))))
 have A:∀ {f:Str} {v:V},¬ f = "pipe_places"->¬ f = "key_places"->¬ f = "knob_numbers"->g.lookup f=some v->J.lookup f=some v:=λh1 h2 h3 h=>by
  rw[<-S,Aj,if_neg h1,Aj,if_neg h2,Aj,if_neg h3];exact h
 have RE:=A (by decide) (by decide) (by decide) a7
 have xa:=A (by decide) (by decide) (by decide) bd
 have N1:=A (by decide) (by decide) (by decide) b1
 have aC:J.lookup ("knob_numbers" : Str)=some (.ref sQ):=by rw[<-S,Aj,if_neg (by decide),Aj,if_neg (by decide),Aj,if_pos rfl]
 have N9:=A (by decide) (by decide) (by decide) a4
 have bN:J.lookup ("pipe_places" : Str)=some (.ref DM):=by rw[<-S,Aj,if_pos rfl]
 have xi:=A (by decide) (by decide) (by decide) bm
 have IC:=A (by decide) (by decide) (by decide) aw
 have a9:J.lookup ("key_places" : Str)=some (.ref vx):=by rw[<-S,Aj,if_neg (by decide),Aj,if_pos rfl]
 have cd:∀ m∈meths,J.lookup m=none:=λm hm=>by
  rw[<-S,Aj,if_neg (Er m hm _ (by decide)),Aj,if_neg (Er m hm _ (by decide)),Aj,if_neg (Er m hm _ (by decide))]
  exact b6 m hm
 clear B S A
 have co:Rows c4 ρ I:=λv D=>IZ.tup M (hR v D)
 refine⟨_,rfl,_,rfl,x,C,c,_,_,rfl,a0,T.cl,T.n_rank_numbers,xi,p,DL,I,ρ,rk,xy,rfl,IZ.lst M hp,co,by omega,vj,(λi r hr=>FB i r.1 (by rw[al,hr];rfl)),O.nrr,O.ln,λDJ QA d2 rc Rl=>?_⟩
 have rq:=rc _ _ a0
 refine⟨_,rfl,x,C,c,_,rfl,rq,T.cl,T.n_knob_lines,by omega,?_⟩
 have u:SX x QA _:=SX.up (o:=HO.ins C c (BV "knob_lines" (.ref DJ) J))
 have bB:upd QA x (HO.ins C c (BV "knob_lines" (.ref DJ) J)) x=_:=Ak
 have BY:=(IZ.trans (SX.of rc)).trans u
 have IQ:=u.lst rq (rc _ _ C8)
 have Gc:=u.pair rq (Ar rc B8)
 have FL:=u.lst rq (rc _ _ zt)
 have E7:=u.lst rq (rc _ _ C7)
 have GU:=u.pair rq (Ar rc C4)
 have G':=u.lst rq (rc _ _ yA)
 have Ki:=u.pair rq (Ar rc A0)
 have E1:=Rl.sx u rq
 have AZ:=u.dk rq (rc _ _ CF)
 have AV:=u.dk rq (rc _ _ AX)
 have EX:=u.dk rq (rc _ _ vj)
 have FR:=u.lst rq (rc _ _ A2)
 have GB:=u.pair rq (Ar rc CI)
 generalize upd QA x (HO.ins C c (BV "knob_lines" (.ref DJ) J))=ds at bB BY IQ Gc FL E7 GU G' Ki E1 AV EX FR GB AZ |-
 clear u
 have bn:Rows ds ρ I:=λv D=>BY.tup M (hR v D)
 refine⟨_,rfl,p,_,"step",ρ,rfl,BY.lst M hp,bn,by omega,λXs dy dP Fs OY=>?_⟩
 have Me:=Fs _ _ AZ
 have db:=Fs _ _ bB
 have a3:Dg K dy Xs (I.filter (pw ρ "step")):=.inl (.inl OY)
 have ef:(I.filter (pw ρ "step")).length<=I.length:=bE _ _
 refine⟨Xs,rfl,⟨_,a3⟩,C_ (K:=K) (xs:=I.filter (pw ρ "step")) (λ_=>true) (λv=>.int (stN ks (ρ v):Nat)) a3 (BJ (by omega)) (λy Y s X R k=>k s (Am.refl s)) (λy Y _ s X R k=>?_) (λL' XW SK cx A9=>?_)⟩
 ·obtain⟨bR,dm⟩:=aS.mp Y
  obtain⟨ts,vn,de,cS⟩:=O.st y bR (V.str.inj (of_decide_eq_true dm))
  obtain⟨T0,rfl,W⟩:=((bn.mono Fs).mono X) y bR
  refine⟨_,rfl,_,rfl,x,C,c,_,_,rfl,X _ _ db,T.cl,T.n_knob_numbers,(by rw[Aj,if_neg (by decide)];exact aC),T0,sQ,ρ (.ref T0),xh,ks.map (·.nm),ts,rfl,W,X _ _ Me,vn,de,(by rw[af];have:=O.nk;omega),Go,cS,λH3 s3=>?_⟩
  have e:Wd.mk (ts.map λt=>(ks.map (·.nm)).idxOf t)=stN ks (ρ (.ref T0)):=by unfold stN;rw[J7 vn]
  rw[e]
  exact k H3 s3
 rw[bg.mpr (λ_ _=>rfl)] at A9
 have i6:=Fs.trans cx
 have om:=i6 _ _ bB
 refine⟨_,rfl,x,C,c,_,rfl,om,T.cl,T.n_step_sets,aT (B_ _ _ _) (by omega),?_⟩
 have d:SX x XW _:=SX.up (o:=HO.ins C c (BV "step_sets" (.ref L') (BV "knob_lines" (.ref DJ) J)))
 have U:∀ {f:Str},¬ f = "step_sets"->¬ f = "knob_lines"->(BV "step_sets" (.ref L') (BV "knob_lines" (.ref DJ) J)).lookup f=J.lookup f:=λh1 h2=>by rw[Aj,if_neg h1,Aj,if_neg h2]
 have es:((I.filter (pw ρ "step")).map λv=>V.int (stN ks (ρ v):Nat))=(((I.filter (pw ρ "step")).map λv=>stN ks (ρ v)).map λn:Nat=>V.int (n:Int)):=by rw[ax];rfl
 rw[es] at A9
 have uS:=d.lst om (i6 _ _ (BY.lst M hp))
 have nx:x ≠ p:=λz=>by rw[z,hp] at M;cases M
 have n5:D5 ≠ p:=Ne.symm (Ai (s4 _ _ hp) NL)
 have n8:D8 ≠ p:=Ne.symm (Ai (s7 _ _ (c6.lst M hp)) dd)
 have ch:rV ≠ p:=Ne.symm (Ai (c9.lst M hp) NY)
 have cv:vx ≠ p:=Ne.symm (Ai (MQ.lst M hp) N2)
 have cl:DM ≠ p:=Ne.symm (Ai (MB.lst M hp) UK)
 have df:L' ≠ p:=Ne.symm (Ai (Fs _ _ (BY.lst M hp)) SK)
 suffices aQ:∀ rg,SX p (upd XW x _) rg->Iv C rg x I bs rk ks (linesOf rk (I.map ρ)) ((I.filter (pw ρ "step")).map λv=>stN ks (ρ v)) from q _ (aQ _ SX.refl) aQ  (c0.trans ((BY.trans (SX.of i6)).trans d))
 intro rg sp
 refine⟨⟨⟨⟨c,_,D5,wb,vx,rV,i5,lh,uk,b3,sp _ _ Ak nx,(U (by decide) (by decide)).trans RE,(U (by decide) (by decide)).trans xa,(U (by decide) (by decide)).trans a9,(U (by decide) (by decide)).trans IC,
  λm hm=>(U (Er m hm _ (by decide)) (Er m hm _ (by decide))).trans (cd m hm),sp _ _ (d.lst om (i6 _ _ IQ)) n5,Jd sp uS (d.pair om (Ar i6 Gc)),Tr sp uS (d.dk om (i6 _ _ AV)),λi b hb=>M' i b.1 (by rw[al,hb];rfl),sp _ _ (d.lst om (i6 _ _ FR)) cv,Jd sp uS (d.pair om (Ar i6 GB)),sp _ _ (d.lst om (i6 _ _ FL)) ch,?_⟩,O.b5,O.sz,by have:=O.nk;omega⟩,⟨c,_,D8,DL,DM,DJ,kU,D0,xy,sp _ _ Ak nx,(U (by decide) (by decide)).trans N9,(U (by decide) (by decide)).trans xi,(U (by decide) (by decide)).trans bN,(by rw[Aj,if_neg (by decide),Aj,if_pos rfl]),sp _ _ (d.lst om (i6 _ _ E7)) n8,Jd sp uS (d.pair om (Ar i6 GU)),Tr sp uS (d.dk om (i6 _ _ EX)),(λi r hr=>FB i r.1 (by rw[al,hr];rfl)),sp _ _ (d.lst om (i6 _ _ G')) cl,Jd sp uS (d.pair om (Ar i6 Ki)),((E1.mono i6).sx d om).sp sp uS⟩,O.nr,O.nz,?_⟩,c,_,l1,sQ,L',xh,sp _ _ Ak nx,(U (by decide) (by decide)).trans N1,(U (by decide) (by decide)).trans aC,(by rw[Aj,if_pos rfl]),sp _ _ (d.lst om (i6 _ _ (BY.lst M YV))) cP,Tr sp uS (d.dk om (i6 _ _ AZ)),Go,QI,sp _ _ (d.lst om A9) df,wb,b3,(U (by decide) (by decide)).trans xa,Tr sp uS (d.dk om (i6 _ _ AV)),MG⟩
 case refine_2=>rw[Ux O.ln,<-ek,af,LB]
 rw[<-ek]
 refine By (F:=λ(r:R) y=>TupAt _ r.v y) ρ ?_
 have bP:Rows _ ρ uk:=λv D=>XH sp uS (d.tup om ((bn.mono i6) v (a2 D)))
 generalize rg=b9 at bP |-
 have aQ:∀ l:List V,(∀ v∈l,TupAt b9 (ρ v).v v)->Paired (λv y=>TupAt b9 (ρ v).v y) l l:=by
  intro l
  induction l with
  | nil=>intro _;exact .nil
  | cons a b ih=>intro h;exact .cons (h a (ce ..)) (ih λv D=>h v (bq _ D))
 exact aQ uk bP
inductive Ul (C:Addr) (vs:List V) (H:Hp) (Q:VK) (b9:XK):Prop
 | mk (x:Addr) (bs:List (Str × Nat)) (ks:List R):vs=[.ref x]->Ds C H x bs ks->(∀ D i5 H',H D=none->Am H H'->H' D=some (.lst i5)->Paired (λb y=>TupAt H' (bV b) y) bs i5->Q (.ref D) H')->Ul C vs H Q b9
theorem wG:Av sN sN (Ae wY):=Bh
include N T in
theorem R8:Ao P w K mg base Bb 1 aD.fOb aD.dOb sN (Ul C):=by
 refine N.FOb.1.DX wG λH r Q E B h=>?_
 obtain⟨x,bs,v,rfl,O,q⟩:=h
 refine⟨_,(Ah (Ax (Dk Ep rfl T.list eI (Aa (Bc (pv 0) rfl) Ab)))),?_⟩
 obtain⟨⟨e,fs,g,k,L,n,a,A,y,b,i,d,D,J,F,p,f,c,u,I,o,m,j,z⟩,s,G,t⟩:=id O
 exact⟨_,rfl,x,C,e,_,_,rfl,i,T.cl,T.n_board_list,d,g,a,rfl,kK (.inl f),λl hl=>q l a _ hl (BR hl) Ak (Ar (BR hl) c)⟩
inductive Yr (C:Addr) (vs:List V) (H:Hp) (Q:VK) (b9:XK):Prop
 | mk (x:Addr) (bs:List (Str × Nat)) (ks:List R):vs=[.ref x]->Ds C H x bs ks->Q (.int ((Fi bs).length:Nat)) H->Yr C vs H Q b9
theorem xZ:Av sN sN (Ae yw):=Bh
include N T in
theorem c7:Ao P w K mg base Bb 1 aD.fOc aD.dOc sN (Yr C):=by
 refine N.FOc.1.DX xZ λH n Q E A h=>?_
 obtain⟨x,bs,s,rfl,O,q⟩:=h
 refine⟨_,(Ah (Ax (A_ BZ rfl T.len bo (Aa (Bc (pv 0) rfl) Ab)))),?_⟩
 obtain⟨⟨e,fs,J,k,g,l,v,d,u,c,i,y,B,f,D,m,I,t,r,G,b,a,j,z⟩,o,F,p⟩:=id O
 refine⟨_,rfl,x,C,e,_,_,rfl,i,T.cl,T.n_key_places,f,g,d,rfl,kK (.inl b),?_⟩
 rw[<-a.length]
 exact q
inductive UW (C:Addr) (vs:List V) (H:Hp) (Q:VK) (b9:XK):Prop
 | mk (x:Addr) (bs:List (Str × Nat)) (ks:List R) (j:Nat) (b:Str × Nat) (n:Int):vs=[.ref x,.str b.1,.int n]->Ds C H x bs ks->bs[j]? = some b->(∀ H',Am H H'->Q (.int ((((bs.take j).map (·.2)).sum:Nat)+n)) H')->UW C vs H Q b9
theorem uZ:Av y8 y8 (Ae xK):=Bh
include N T in
theorem R1:Ao P w K mg base Bb 2 aD.fOk aD.dOk y8 (UW C):=by
 refine N.FOk.1.DX uZ λH vs Q E r h=>?_
 obtain⟨x,bs,ks,j,b,n,rfl,O,m,q⟩:=h
 have L:=CJ r
 refine⟨_,(Ah (Ax (BX Br (zC (bC N T) r rfl N.FCa (Aa (Ec Ia (Bc (pv 0) rfl) Gd (Eh (Fo L (Bc (pv 0) rfl) (pv 1) (λ_ _=>rfl)))) Ab)) (pv 2)))),?_⟩
 obtain⟨⟨s,fs,V,u,kp,Z,c,lh,l8,A,t,J,M,l3,l4,lm,U,p,I,S,h6,Y,X,h9⟩,re,R,rf⟩:=id O
 have hj:j<bs.length:=(ag.mp m).1
 have hl:=p.length
 have g:=Em.k (k:=Sum.inr b.1) I
 rw[S j b m] at g
 refine⟨_,rfl,x,C,s,_,_,rfl,t,T.cl,T.n_board_list,J,_,rfl,x,C,s,_,_,rfl,t,T.cl,T.n_board_numbers,M,_,rfl,u,_,rfl,g,_,rfl,V,c,rfl,kK U,λd f=>?_⟩
 have e:=BR (o:=HO.lst (Dy c none (some (j:Int)))) f
 have i:upd H d (HO.lst (Dy c none (some (j:Int)))) d=_:=Ak
 generalize upd H d (HO.lst (Dy c none (some (j:Int))))=v at e i |-
 rw[JZ c j (by omega)] at i
 refine⟨d,(bs.take j).map jn,c.take j,rfl,i,By (F:=λ(a:Th) y=>TupAt v (tV a) y) jn (Km (Ar e p) j),(by rw[List.length_map,List.length_take];omega),(λa z=>by obtain⟨G,l,rfl⟩:=List.mem_map.mp z;exact Nat.le_trans (R G (List.mem_of_mem_take l)) (by show 61<=100;decide)),λW D=>?_⟩
 have B:((bs.take j).map jn).map (λa=>a.2.1)=(bs.take j).map (·.2):=by
  rw[ax]
  rfl
 rw[B]
 exact⟨_,rfl,_,_,rfl,rfl,q W (e.trans D)⟩
inductive W0 (C:Addr) (vs:List V) (H:Hp) (Q:VK) (b9:XK):Prop
 | mk (x:Addr) (bs:List (Str × Nat)) (ks:List R) (i:Nat) (qd:Nat × Nat):vs=[.ref x,.int (i:Nat)]->Ds C H x bs ks->(Fi bs)[i]? = some qd->(∀ y,TupAt H (qV qd) y->Q y H)->W0 C vs H Q b9
theorem uR:Av vb vb (Ae xP):=Bh
include N T in
theorem Xj:Ao P w K mg base Bb 1 aD.fOo aD.dOo vb (W0 C):=by
 refine N.FOo.1.DX uR λH t Q E J h=>?_
 obtain⟨x,bs,A,i,r,rfl,O,e,q⟩:=h
 refine⟨_,(Ah (Ax (Ay Ij (Bc (pv 0) rfl) (pv 1) (λ_ _=>rfl)))),?_⟩
 obtain⟨⟨j,fs,V,o,l,p,F,f,D,c,m,G,L,k,M,s,U,B,z,S,b,a,n,I⟩,u,R,v⟩:=id O
 obtain⟨y,d,g⟩:=CN a e
 exact⟨_,rfl,x,C,j,_,_,rfl,m,T.cl,T.n_key_places,k,_,rfl,l,f,_,_,rfl,rfl,kK b,Ag d,q y g⟩
inductive gB (C:Addr) (vs:List V) (H:Hp) (Q:VK) (b9:XK):Prop
 | mk (x:Addr) (bs:List (Str × Nat)) (ks:List R) (k j1 j2:Nat) (b1 b2:Str × Nat) (nm:Str) (s:Int):vs=[.ref x,.int (k:Nat)]->Ds C H x bs ks->ks[k]? = some ⟨"coupler",nm,[.str b1.1,.str b2.1,.int s]⟩->bs[j1]? = some b1->bs[j2]? = some b2->(∀ y H',Am H H'->TupAt H' [.int (j1:Nat),.int (j2:Nat),.int s] y->Q y H')->gB C vs H Q b9
inductive QL (C:Addr) (vs:List V) (H:Hp) (Q:VK) (b9:XK):Prop
 | mk (x:Addr) (bs:List (Str × Nat)) (ks:List R) (k j1:Nat) (b1:Str × Nat) (wd nm:Str) (rs:List V):vs=[.ref x,.int (k:Nat)]->Ds C H x bs ks->ks[k]? = some ⟨wd,nm,.str b1.1::rs⟩->bs[j1]? = some b1->Q (.int (j1:Nat)) H->QL C vs H Q b9
theorem wH:Av tS tS (Ae vg):=Bh
include N T in
theorem R4:Ao P w K mg base Bb 1 aD.fBk aD.dBk tS (QL C):=by
 refine N.FBk.1.DX wH λH L Q E v h=>?_
 obtain⟨x,bs,S,k,o,d,wd,Z,J,rfl,O,D,a,q⟩:=h
 have t:=CJ v
 refine⟨_,(Ah (Ax (Fo t (Bc (pv 0) rfl) (Ay (An (K:=K) rfl) (Ay Ij (Bc (pv 0) rfl) (pv 1) (λ_ _=>rfl)) Ac (λ_ _=>rfl)) (λ_ _=>rfl)))),?_⟩
 obtain⟨⟨c,fs,bl,g,kp,i,V,X,p,l,e,W,z,l3,A,I,h2,U,n,B,G,F,f,s⟩,M,Y,R⟩:=id O
 obtain⟨y,m,r,rfl,u⟩:=CN s D
 have b:=Em.k (k:=Sum.inr d.1) n
 rw[B o d a] at b
 exact⟨_,rfl,x,C,c,_,_,rfl,e,T.cl,T.n_board_numbers,z,_,rfl,x,C,c,_,_,rfl,e,T.cl,T.n_knob_rows,A,_,rfl,i,p,_,_,rfl,rfl,kK f,Ag m,r,_,_,_,rfl,rfl,kK u,Ag (j:=2) rfl,g,_,rfl,b,q⟩
theorem nF:Av ["self","knob","row"] tS (Ae yg):=Bh
include N T in
theorem o9:Ao P w K mg base Bb 2 aD.fOp aD.dOp tS (gB C):=by
 refine N.FOp.1.DX nF λH X Q E o h=>?_
 obtain⟨x,bs,J,k,g,A,d,m,nm,s0,rfl,O,t,a,b,q⟩:=h
 have R:=CJ o
 refine⟨_,(Af (Ba (i:=2) nF.nd rfl (Or.inl rfl) (Ay Ij (Bc (pv 0) rfl) (pv 1) (λ_ _=>rfl)))
  (Ah (Ax (Cm (Aa (Bp (pv 0) T.cl N.FBk.2.2 (R4 N T) (ad o) N.FBk.2.1 .nil Aq (Aa (pv 1) Ab)) (Aa (Fo R (Bc (pv 0) rfl) (Ay (An (K:=K) rfl) (pv 2) Ac (λ_ _=>rfl)) (λ_ _=>rfl)) (Aa (Ay (An (K:=K) rfl) (pv 2) Ac (λ_ _=>rfl)) Ab))))))),?_⟩
 obtain⟨⟨c,fs,bl,v,kp,z,i5,lh,L,B,e,l1,S,l3,U,D,h2,h3,f,s,W,V,u,M⟩,Y,pr,Z⟩:=id O
 obtain⟨y,F,l,rfl,n⟩:=CN M t
 have I:=Em.k (k:=Sum.inr d.1) f
 rw[s g d a] at I
 have r:=Em.k (k:=Sum.inr m.1) f
 rw[s A m b] at r
 refine⟨_,rfl,x,C,c,_,_,rfl,e,T.cl,T.n_knob_rows,U,_,rfl,z,L,_,_,rfl,rfl,kK u,Ag F,?_⟩
 refine⟨_,rfl,x,c,fs,rfl,e,D _ (by decide),_,rfl,x,bs,J,k,g,d,_,_,_,rfl,O,t,a,?_⟩
 refine⟨_,rfl,x,C,c,_,_,rfl,e,T.cl,T.n_board_numbers,S,_,rfl,l,_,_,_,rfl,rfl,kK n,Ag (j:=3) rfl,v,_,rfl,r,?_⟩
 exact⟨_,rfl,l,_,_,_,rfl,rfl,kK n,Ag (j:=4) rfl,by show 3<=sizeLine;decide,λp G=>q _ _ (BR G) ⟨p,rfl,Ak⟩⟩
inductive iB (C:Addr) (vs:List V) (H:Hp) (Q:VK) (b9:XK):Prop
 | mk (x:Addr) (bs:List (Str × Nat)) (ks:List R) (k i j1 j2:Nat) (b1 b2:Str × Nat) (qd:Nat × Nat) (nm:Str) (s:Int):vs=[.ref x,.int (k:Nat),.int (i:Nat)]->Ds C H x bs ks->(Fi bs)[i]? = some qd->ks[k]? = some ⟨"coupler",nm,[.str b1.1,.str b2.1,.int s]⟩->bs[j1]? = some b1->bs[j2]? = some b2->(∀ H',Am H H'->Q (QK bs j1 j2 s qd b2.2) H')->iB C vs H Q b9
theorem Xc:Av ["organ","knob","key","coupler","place","second","number"] DS (Ae vO):=Bh
include N T in
theorem j6:Ao P w K mg base Bb 3 aD.fLe aD.dLe DS (iB C):=by
 refine N.FLe.1.DX Xc λH vs Q E o h=>?_
 obtain⟨x,bs,l,k,i,A,X,b1,r,b,nm,e,rfl,O,U,hk,B,c,q⟩:=h
 refine⟨_,(Af (Bl (Cu (Hq FT HR Ac (pv 2) (Bo (pv 0) T.cl N.FOc.2.2 (c7 N T) (ad o) N.FOc.2.1 .nil Aq))) (Ah (Ax Gg)) Be)
  (Af (Ba (i:=3) Xc.nd rfl (Or.inl rfl) (Bp (pv 0) T.cl N.FOp.2.2 (o9 N T) (ad o) N.FOp.2.1 .nil Aq (Aa (pv 1) Ab)))
  (Af (Ba (i:=4) Xc.nd rfl (Or.inl rfl) (Bp (pv 0) T.cl N.FOo.2.2 (Xj N T) (ad o) N.FOo.2.1 .nil Aq (Aa (pv 2) Ab)))
  (Af (Ba (i:=5) Xc.nd rfl (Or.inl rfl) (Ay (Bm (K:=K) rfl) (Bo (pv 0) T.cl N.FOb.2.2 (R8 N T) (ad o) N.FOb.2.1 .nil Aq) (Ay (An (K:=K) rfl) (pv 3) Ac (λ_ _=>rfl)) (λ_ _=>rfl)))
  (Af (Ba (i:=6) Xc.nd rfl (Or.inl rfl) (BX Br (Ay (An (K:=K) rfl) (pv 4) Ac (λ_ _=>rfl)) (Ay (An (K:=K) rfl) (pv 3) Ac (λ_ _=>rfl))))
  (Af (Bl (PW.pt (Ew (BL Ko (Ay (An (K:=K) rfl) (pv 4) Ac (λ_ _=>rfl)) (Ay (An (K:=K) rfl) (pv 3) Ac (λ_ _=>rfl)) (BW _)) (Ej (Cu (Hq FT HR Ac (pv 6) (Ay (An (K:=K) rfl) (pv 5) Ac (λ_ _=>rfl))))))) (Ah (Ax Gg)) Be)
  (Ah (Ax (Bp (pv 0) T.cl N.FOk.2.2 (R1 N T) (ad o) N.FOk.2.1 .nil Aq (Aa (Ay (An (K:=K) rfl) (pv 5) Ac (λ_ _=>rfl)) (Aa (pv 6) Ab))))))))))),?_⟩
 have hi:i<(Fi bs).length:=(ag.mp U).1
 have a:∀ {S:Hp},Ds C S x bs l->∃ g fs,S x=some (.ins C g fs)/\∀ m∈meths,fs.lookup m=none:=λO'=>by
  obtain⟨⟨g,fs,_,_,_,_,_,_,_,_,h1,_,_,_,_,y,_⟩,_⟩:=O'
  exact⟨g,fs,h1,y⟩
 obtain⟨g,fs,hx,y⟩:=a O
 refine⟨_,rfl,_,_,rfl,rfl,_,rfl,?_⟩
 refine Cz (λ_=>?_) (λz=>absurd (decide_eq_true (by omega)) z)
 refine⟨_,rfl,x,g,fs,rfl,hx,y _ (by decide),x,bs,l,rfl,O,_,_,rfl,rfl,_,rfl,?_⟩
 rw[decide_eq_true (by omega:(i:Int)<((Fi bs).length:Nat))]
 refine Bk ?_
 refine⟨_,rfl,x,g,fs,rfl,hx,y _ (by decide),_,rfl,x,bs,l,k,A,X,b1,r,nm,e,rfl,O,hk,B,c,λy1 H1 R L=>?_⟩
 have t:=O.mono R
 obtain⟨Y,Z,n,ZY⟩:=a t
 refine⟨_,rfl,x,Y,Z,rfl,n,ZY _ (by decide),_,rfl,x,bs,l,i,b,rfl,t,U,λy2 LH=>?_⟩
 refine⟨_,rfl,x,Y,Z,rfl,n,ZY _ (by decide),x,bs,l,rfl,t,λD i5 H2 hD f kX Si=>?_⟩
 obtain⟨I,rfl,G⟩:=L.mono f
 obtain⟨T2,rfl,s⟩:=LH.mono f
 obtain⟨v3,KM,T3,rfl,W⟩:=CN Si c
 refine⟨_,rfl,I,_,_,_,rfl,rfl,kK G,Ag (j:=1) rfl,D,i5,_,_,rfl,rfl,kK kX,Ag KM,?_⟩
 refine⟨_,rfl,T2,_,_,_,rfl,rfl,kK s,Ag (j:=1) rfl,_,rfl,I,_,_,_,rfl,rfl,kK G,Ag (j:=2) rfl,_,_,rfl,rfl,?_⟩
 refine⟨_,rfl,T2,_,_,_,rfl,rfl,kK s,Ag (j:=0) rfl,_,rfl,I,_,_,_,rfl,rfl,kK G,Ag (j:=0) rfl,rfl,_,rfl,?_⟩
 have fin:=q H2 (R.trans f)
 unfold QK at fin
 by_cases u:b.1=A
 ·have z:(!decide (V.int (b.1:Nat)=V.int (A:Nat)))=false:=by rw[u];simp
  rw[z]
  refine Bk ?_
  refine⟨_,rfl,_,_,rfl,rfl,_,rfl,?_⟩
  refine Cz (λv=>?_) (λv=>?_)
  ·refine⟨_,rfl,T3,_,_,_,rfl,rfl,kK W,Ag (j:=1) rfl,_,_,rfl,rfl,_,rfl,?_⟩
   have d:0<=(b.2:Int)+e:=of_decide_eq_true v
   by_cases p:(b.2:Int)+e<(r.2:Nat)
   ·have F:decide ((b.2:Int)+e<(r.2:Nat))=true:=decide_eq_true p
    rw[F]
    refine Bk ?_
    rw[if_pos ⟨u,d,p⟩] at fin
    obtain⟨GT,M,qh,GL⟩:=a (t.mono f)
    refine⟨_,rfl,x,GT,M,rfl,qh,GL _ (by decide),_,rfl,T3,_,_,_,rfl,rfl,kK W,Ag (j:=0) rfl,_,rfl,x,bs,l,X,r,_,rfl,t.mono f,c,λH3 s3=>?_⟩
    have J:=q H3 ((R.trans f).trans s3)
    unfold QK at J
    rw[if_pos ⟨u,d,p⟩] at J
    exact J
   ·have F:decide ((b.2:Int)+e<(r.2:Nat))=false:=decide_eq_false p
    rw[F]
    refine DY ?_
    rw[if_neg λz=>p z.2.2] at fin
    exact fin
  ·refine⟨_,rfl,?_⟩
   have d:decide (0<=(b.2:Int)+e)=false:=(fo _).mp v
   rw[if_neg λz=>absurd (decide_eq_true z.2.1) v] at fin
   exact DY fin
 ·have z:(!decide (V.int (b.1:Nat)=V.int (A:Nat)))=true:=by
   rw[decide_eq_false λz=>u (by have:=V.int.inj z;omega)]
   rfl
  rw[z]
  refine DY ?_
  rw[if_neg λz=>u z.1] at fin
  exact fin
inductive Wc (vs:List V) (H:Hp) (Q:VK) (b9:XK):Prop
 | mk (n:Nat) (i:Int):vs=[.int n,.int i]->Q (.bl (decide (0<=i) && n.testBit i.toNat)) H->Wc vs H Q b9
theorem fO (n:Nat) (i:Int):decide (V.int (Builtin.bitAnd ((n:Int) / 2 ^ i.toNat) 1)=V.int 1)=n.testBit i.toNat:=by
 rw[Hv,show (1:Int)=((1:Nat):Int) from rfl,<-Int.natCast_ediv,Lp,Bool.eq_iff_iff]
 rw[Nat.testBit_eq_decide_div_mod_eq,Nat.and_one_is_mod]
 simp only[decide_eq_true_eq,V.int.injEq]
 exact Int.ofNat_inj
theorem wZ:Av DI DI (Ae vh):=Bh
include N T in
theorem Xu:Ao P w K mg base Bb 1 aD.fHa aD.dHa DI Wc:=by
 refine N.FHa.1.DX wZ λH d Q E f h=>?_
 obtain⟨n,i,rfl,q⟩:=h
 refine⟨_,(Ah (Ax (Dp (Gr FT HR Ac (pv 1) (W5 PySem.F.plainAttrs_int PySem.F.slot_int_bit_length PySem.F.type_int_bit_length QQ (pv 0))) (Dl (Dw Bw (BX JS (BX Wq (pv 0) (pv 1)) Ac) Ac (BW _)))))),?_⟩
 refine⟨_,rfl,_,_,rfl,rfl,_,rfl,?_⟩
 refine Cz (λa=>?_) (λa=>?_)
 ·have c:0<=i:=of_decide_eq_true a
  refine⟨_,rfl,rfl,(n:Int),rfl,rfl,_,_,rfl,rfl,_,rfl,?_⟩
  rw[KC]
  refine Cz (λb=>?_) (λb=>?_)
  ·refine⟨_,rfl,_,rfl,_,_,rfl,rfl,c,_,_,rfl,rfl,rfl,?_⟩
   try dsimp only
   rw[fO]
   rw[a,gL] at q
   exact q
  ·have e:n.testBit i.toNat=false:=by
    cases hb:n.testBit i.toNat with
    | false=>rfl
    | true =>
     have:=Wd.Vb hb
     exact absurd (decide_eq_true (by omega:i<(Wd.len n:Int))) b
   rw[e,Bool.and_false] at q
   exact q
 ·rw[(fo _).mp a,gS] at q
  exact⟨_,rfl,Bk q⟩
inductive RZ (vs:List V) (H:Hp) (Q:VK) (b9:XK):Prop
 | mk (n:Nat):vs=[.int n]->n<2 ^ 1200->(∀ p H',H p=none->Am H H'->H' p=some (.lst (nV (Wd.mem n)))->Q (.ref p) H')->RZ vs H Q b9
theorem XM (n:Nat):((((List.range (Wd.len n)).map λ(i:Nat)=>(0:Int)+(i:Int)).filter λi=>decide (0<=i) && n.testBit i.toNat).map λi=>V.int i)=nV (Wd.mem n):=by
 unfold Wd.mem
 rw[eR,ax]
 have e:((λi:Int=>decide (0<=i) && n.testBit i.toNat) ∘ λ(i:Nat)=>(0:Int)+(i:Int))=n.testBit:=by
  funext i
  show (decide (0<=(0:Int)+(i:Int)) && n.testBit ((0:Int)+(i:Int)).toNat)=n.testBit i
  have b:(0:Int)<=0+(i:Int):=by omega
  have a:((0:Int)+(i:Int)).toNat=i:=by omega
  rw[decide_eq_true b,a,gL]
 rw[e]
 refine ft λi _=>?_
 show V.int ((0:Int)+(i:Int))=V.int (i:Int)
 rw[gE]
theorem zE:Av ["some"] ["some"] (Ae qt):=Bh
include N T in
theorem QJ:Ao P w K mg base Bb 2 aD.fMe aD.dMe ["some"] RZ:=by
 refine N.FMe.1.DX zE λH j Q E g h=>?_
 obtain⟨n,rfl,d,q⟩:=h
 refine⟨_,(Ah (Ax (Bq rfl (Bf (osc:=Ae qt) (N:=["some"]) rfl rfl (by decide)) (Dv rfl T.range (Aa (W5 PySem.F.plainAttrs_int PySem.F.slot_int_bit_length PySem.F.type_int_bit_length QQ (pv 0)) Ab)) (λ_ _ _ _=>(G6 (DK (zC (Xu N T) g rfl N.FHa (Aa (pv 1) (Aa (pv 0) Ab)))))) (λ_ _ _ _=>(pv 0))))),?_⟩
 have b:Wd.len n<=1200:=Wd.K6 d
 refine⟨_,rfl,rfl,(n:Int),rfl,rfl,?_⟩
 rw[KC]
 refine⟨_,rfl,by omega,by omega,?_⟩
 rw[bb]
 refine JK (lo:=0) (n:=Wd.len n) (λi=>decide (0<=i) && n.testBit i.toNat) (λi=>.int i) (aT b (by decide)) (λi f a c R k=>?_) (λi f _ a c R k=>⟨_,rfl,k a (Am.refl a)⟩) (λD a e c hl=>?_)
 ·exact⟨_,rfl,_,rfl,n,_,rfl,_,rfl,k a (Am.refl a)⟩
 ·rw[XM] at hl
  exact q D a e c hl
inductive Wo (vs:List V) (H:Hp) (Q:VK) (b9:XK):Prop
 | mk (n:Nat) (k:Int) (c:Nat):vs=[.int n,.int k,.int c]->n<2 ^ 1200->-1200<=k->k<=1200->c<=1200->Q (.int (Wd.mv n k c:Nat)) H->Wo vs H Q b9
theorem Rw (m c:Nat):Builtin.bitAnd (m:Int) (1 * 2 ^ ((if (0:Int) > (c:Int) then (0:Int) else (c:Int))).toNat - 1)=((m % 2 ^ c:Nat):Int):=by
 have h:¬ (0:Int) > (c:Int):=by omega
 rw[if_neg h,Int.one_mul,bb,Hv]
 have a:1<=2 ^ c:=Nat.one_le_two_pow
 have e:((2 ^ c:Nat):Int) - 1=((2 ^ c - 1:Nat):Int):=by omega
 rw[e,Lp,Nat.and_two_pow_sub_one_eq_mod]
theorem o8:Av ["some","steps","count","moved"] CC (Ae yM):=Bh
include N T in
theorem XF:Ao P w K mg base Bb 1 aD.fSh aD.dSh CC Wo:=by
 refine N.FSh.1.DX o8 λH j Q E o h=>?_
 obtain⟨n,k,c,rfl,f,p,l,m,q⟩:=h
 refine⟨_,(Af (Ba (i:=3) o8.nd rfl (Or.inl rfl) (Jq (BL Rj (pv 1) Ac (BW _)) (BX aG (pv 0) (pv 1)) (BX Wq (pv 0) (Ji LQ (pv 1)))))
  (Ah (Ax (BX JS (pv 3) (BX Fz (BX V3 Ac (A_ (Nf rfl) rfl T.max PyProof.Rows.boot_max (Aa (pv 2) (Aa Ac Ab)))) Ac))))),?_⟩
 have d:Wd.len n<=1200:=Wd.K6 f
 have g:(2:Int) ^ 27=134217728:=by decide
 refine⟨_,rfl,_,_,rfl,rfl,_,rfl,?_⟩
 refine Cz (λb=>?_) (λb=>?_)
 ·have a:0<k:=of_decide_eq_true b
  refine⟨_,rfl,_,rfl,_,_,rfl,rfl,⟨by omega,by rw[KC,g];omega⟩,?_⟩
  refine⟨_,rfl,_,rfl,_,_,rfl,⟨_,_,rfl,rfl,⟨by split <;> omega,by split <;> omega,by decide⟩,_,_,rfl,rfl,_,_,rfl,rfl,?_⟩⟩
  try dsimp only
  have e:((n:Int) * 2 ^ k.toNat)=((n * 2 ^ k.toNat:Nat):Int):=by rw[Hv];simp
  rw[e,Rw]
  unfold Wd.mv at q
  rw[if_pos a] at q
  exact q
 ·have a:¬ 0<k:=λz=>b (decide_eq_true z)
  refine⟨_,rfl,_,rfl,_,rfl,_,_,rfl,rfl,by omega,?_⟩
  refine⟨_,rfl,_,rfl,_,_,rfl,⟨_,_,rfl,rfl,⟨by split <;> omega,by split <;> omega,by decide⟩,_,_,rfl,rfl,_,_,rfl,rfl,?_⟩⟩
  try dsimp only
  have e:((n:Int) / 2 ^ (-k).toNat)=((n / 2 ^ (-k).toNat:Nat):Int):=by rw[Hv];simp
  rw[e,Rw]
  unfold Wd.mv at q
  rw[if_neg a] at q
  exact q
inductive Vg (C:Addr) (vs:List V) (H:Hp) (Q:VK) (b9:XK):Prop
 | mk (x:Addr) (bs:List (Str × Nat)) (ks:List R):vs=[.ref x]->Ds C H x bs ks->(∀ D ys H',H D=none->Am H H'->H' D=some (.lst ys)->Paired (λ(r:R) y=>TupAt H' [.str r.w,.str r.nm] y) ks ys->Q (.ref D) H')->Vg C vs H Q b9
theorem uz:Av sN sN (Ae rA):=Bh
include N T in
theorem Wv:Ao P w K mg base Bb 1 aD.fOz aD.dOz sN (Vg C):=by
 refine N.FOz.1.DX uz λH U Q E hr h=>?_
 obtain⟨x,bs,Y,rfl,O,q⟩:=h
 refine⟨_,(Ah (Ax (Bq rfl (Bf (osc:=Ae rA) (N:=sN) rfl rfl (by decide)) (Bx (Bc (pv 0) rfl)) (λ_ _ _ _=>Cq) (λ_ _ _ _=>(Cm (Aa (Ay (An (K:=K) rfl) (pv 0) Ac (λ_ _=>rfl)) (Aa (Ay (An (K:=K) rfl) (pv 0) Ac (λ_ _=>rfl)) Ab))))))),?_⟩
 obtain⟨⟨B,fs,bl,J,kp,d,i5,lh,g,s,G,l1,l2,l3,A,S,h2,Z,X,h5,M,L,p,c⟩,V,pr,W⟩:=id O
 have n:Dg K H d g:=.inl (.inl p)
 have L1:=c.length
 refine⟨_,rfl,x,C,B,_,_,rfl,G,T.cl,T.n_knob_rows,A,d,rfl,⟨_,n⟩,Mj (K:=K) (xs:=g) (λ_=>true) (λv=>[.str (Mq H v).w,.str (Mq H v).nm]) n (BJ (by omega)) (λy f a b R k=>k a (Am.refl a)) (λy f _ a b R k=>?_) (λD a z t b hl o=>?_)⟩
 ·obtain⟨r,_,l⟩:=De c f
  have e:=LR l
  rw[e] at k
  obtain⟨i,rfl,m⟩:=l.mono b
  exact⟨_,rfl,i,_,_,_,rfl,rfl,kK m,Ag (j:=0) rfl,_,rfl,i,_,_,_,rfl,rfl,kK m,Ag (j:=1) rfl,by show 2<=sizeLine;decide,λu I=>k _ _ (BR I) ⟨u,rfl,Ak⟩⟩
 ·rw[bg.mpr (λ_ _=>rfl)] at o
  have h:=By (F:=λ(r:R) y=>TupAt a [.str r.w,.str r.nm] y) (Mq H) o
  rw[Ss c] at h
  exact q D z a t b hl h
inductive WF (C:Addr) (vs:List V) (H:Hp) (Q:VK) (b9:XK):Prop
 | mk (x:Addr) (bs:List (Str × Nat)) (ks:List R) (wd:Str) (D:Nat):vs=[.ref x,.int (D:Nat),.str wd]->Ds C H x bs ks->(∀ L (cl:List Nat) H',H L=none->Am H H'->H' L=some (.lst (nV cl))->(∀ k,k∈cl ↔ ∃ r,ks[k]? = some r/\r.w=wd/\D.testBit k=true)->cl.length<=200->Q (.ref L) H')->WF C vs H Q b9
theorem lX:Av z8 CH (Ae lM):=Bh
include N T in
theorem Xz:Ao P w K mg base Bb 2 aD.fDc aD.dDc CH (WF C):=by
 refine N.FDc.1.DX lX λH vs Q E M h=>?_
 obtain⟨x,bs,b,wd,D,rfl,O,q⟩:=h
 refine⟨_,(Af (Yg (i:=3) lX.nd rfl rfl rfl (Bf (osc:=Ae lM) (N:=z8) rfl rfl (by decide)) (Bx (Bo (pv 0) T.cl N.FOz.2.2 (Wv N T) (ad M) N.FOz.2.1 .nil Aq)) (λ_ _ _ _=>Cq) (λ_ _ _ _=>(Ay (An (K:=K) rfl) (pv 0) Ac (λ_ _=>rfl))))
  (Ah (Ax (Oj rfl (G4 (osc:=Ae lM) (N:=z8) rfl rfl (by decide)) (K1 rfl T.enumerate (Aa (pv 3) Ab)) (λ_ _ _ _=>G6 (PW.pt (Lz (BL Bw (pv 1) (pv 4) (BW _)) (Jo (DK (zC (Xu N T) M rfl N.FHa (Aa (pv 3) (Aa (pv 0) Ab)))))))) (λ_ _ _ _=>(pv 0)))))),?_⟩
 obtain⟨⟨dx,fs,bl,bn,kp,kr,i5,lh,l8,ac,B,l1,l2,l3,l4,lm,s,m,h4,h5,h6,h7,h8,h9⟩,re,pr,rf⟩:=id O
 refine⟨_,rfl,x,dx,fs,rfl,B,lm _ (by decide),x,_,_,rfl,O,λJ Y S JY s1 t A=>?_⟩
 have f:Dg K S J Y:=.inl (.inl t)
 have ab:=A.length
 refine⟨J,rfl,⟨_,f⟩,C_ (K:=K) (xs:=Y) (λ_=>true) (Uz S 0) f (BJ (by omega)) (λy X a o R k=>k a (Am.refl a)) (λy X _ a o R k=>?_) (λI H2 sf Z G=>?_)⟩
 ·obtain⟨r,_,L⟩:=De A X
  have e:=Jx L 0
  obtain⟨T0,rfl,hT⟩:=L.mono o
  have c:=k a (Am.refl a)
  rw[e] at c
  exact⟨_,rfl,T0,_,_,_,rfl,rfl,kK hT,Ag (j:=0) rfl,c⟩
 rw[bg.mpr (λ_ _=>rfl),Kz 0 A] at G
 have e2:(b.map λr=>([V.str r.w,V.str r.nm]:List V).getD 0 .non)=b.map λr=>V.str r.w:=rfl
 rw[e2] at G
 have n:Dg K H2 I (b.map λr=>V.str r.w):=.inl (.inl G)
 refine⟨_,rfl,I,rfl,⟨_,n⟩,Um (K:=K) (xs:=b.map λr=>V.str r.w) (λi v=>decide (v=.str wd) && D.testBit i) (λi _=>.int (i:Nat)) n (BJ (by rw[af];omega)) (λi v F a o R k=>?_) (λi v F _ a o R k=>⟨_,rfl,k a (Am.refl a)⟩) (λD3 H3 DC s3 lT=>?_)⟩
 ·rw[al] at F
  obtain⟨z,W,rfl⟩:=aE.mp F
  have c:=k a (Am.refl a)
  refine⟨_,rfl,_,rfl,rfl,_,rfl,?_⟩
  refine Cz (λg=>?_) (λg=>?_)
  ·rw[g,gL] at c
   refine⟨_,rfl,_,rfl,D,_,rfl,_,rfl,?_⟩
   rw[decide_eq_true (by omega:(0:Int)<=(i:Nat)),gL,bb]
   exact c
  ·rw[(fo _).mp g,gS] at c
   exact c
 ·refine q D3 (((b.map λr=>V.str r.w).zipIdx.filter λp=>decide (p.1=V.str wd) && D.testBit p.2).map (·.2)) H3 ((s1.trans Z).free DC) ((s1.trans Z).trans s3) ?_ (λk=>?_) ?_
  ·rw[lT]
   refine congrArg (λl=>some (HO.lst l)) ?_
   unfold nV
   rw[ax]
   rfl
  ·constructor
   ·intro hk
    obtain⟨⟨v,U⟩,hm,rfl⟩:=ar.mp hk
    obtain⟨B,s⟩:=aS.mp hm
    have m:=List.mem_zipIdx' B
    rw[kD] at m
    obtain⟨u,m⟩:=m
    rw[fk] at s
    have d:U<b.length:=by simpa using u
    refine⟨b[U],ae d,?_,s.2⟩
    have:=s.1
    rw[m] at this
    exact V.str.inj (of_decide_eq_true this)
   ·rintro⟨z,W,hc,hd⟩
    refine ar.mpr ⟨(V.str z.w,k),aS.mpr ⟨?_,?_⟩,rfl⟩
    ·rw[List.mem_zipIdx_iff_getElem?,al,W]
     rfl
    ·show (decide (V.str z.w=V.str wd) && D.testBit k)=true
     rw[hc,hd,decide_eq_true rfl]
     rfl
  ·rw[af]
   refine ba (bE _ _) ?_
   rw[List.length_zipIdx,af]
   omega
inductive Ys (C:Addr) (vs:List V) (H:Hp) (Q:VK) (b9:XK):Prop
 | mk (x:Addr) (bs:List (Str × Nat)) (ks:List R) (n:Nat):vs=[.ref x,.int (n:Nat)]->Ds C H x bs ks->n<2 ^ 1200->Q (.int (Wd.mv n 0 (bs.map (·.2)).sum:Nat)) H->Ys C vs H Q b9
theorem Fj {x:Addr} {bs:List (Str × Nat)} (O:Ds C H x bs ks):(bs.map (·.2)).sum<=305:=by
 have h:=O3 bs 61 O.sz
 rw[FN] at h
 have:=O.nb
 have:bs.length * 61<=5 * 61:=jv _ this
 omega
theorem ww:Av DZ DZ (Ae xg):=Bh
include N T in
theorem bJ:Ao P w K mg base Bb 2 aD.fHk aD.dHk DZ (Ys C):=by
 refine N.FHk.1.DX ww λH u Q E a h=>?_
 obtain⟨x,bs,g,n,rfl,O,b,q⟩:=h
 refine⟨_,(Ah (Ax (zC (XF N T) a rfl N.FSh (Aa (pv 1) (Aa Ac (Aa (Bo (pv 0) T.cl N.FOc.2.2 (c7 N T) (ad a) N.FOc.2.1 .nil Aq) Ab)))))),?_⟩
 obtain⟨⟨e,fs,y,i,v,l,k,p,j,c,f,m,r,t,s,d,_⟩,_⟩:=id O
 have o:=Fj O
 refine⟨_,rfl,_,rfl,x,e,fs,rfl,f,d _ (by decide),x,bs,g,rfl,O,n,0,(Fi bs).length,rfl,b,by decide,by decide,by rw[FN];omega,?_⟩
 rw[FN]
 exact q
theorem Zm (h:n<=3000):n<sizeLine:=aT h (by decide)
theorem Xy {v:V} {Q:St->Hp->Prop}:Dc i v σ H Q=Q (σ.set i (some v)) H:=rfl
theorem Xr {c:TT} {u:TS} {D:Ends} {r:VK} {b k:St->Hp->Prop} (h:Oo c tb { D with nx:=u D } σ H):({ nx:=iu (Oo c tb) u D,rt:=r,bk:=b,ct:=k }:Ends).nx σ H:=h
def dX:Option HO->Nat
 | some (.lst xs)=>xs.length
 | _=>0
def eG:Option HO->Nat
 | some (.dK kvs)=>kvs.length
 | _=>0
abbrev kI (j:Nat):Key:=Sum.inl ((j:Nat):Int)
theorem YG {js:List Nat} (h:kvs.map (·.1)=js.map kI) (j:Nat):(CP kvs (kI j)).isSome=decide (j∈js):=by
 rw[<-Gu]
 rw[fe,fF,decide_eq_true_eq]
 constructor
 ·rintro⟨p,b,e⟩
  have:p.1∈js.map kI:=by rw[<-h];exact aI b
  obtain⟨a,f,g⟩:=ar.mp this
  have d:kI a=kI j:=g.trans (of_decide_eq_true e)
  have:((a:Nat):Int)=(j:Nat):=Sum.inl.inj d
  have:a=j:=by omega
  subst this
  exact f
 ·intro c
  have:kI j∈kvs.map (·.1):=by rw[h];exact aI c
  obtain⟨p,b,e⟩:=ar.mp this
  exact⟨p,b,decide_eq_true e⟩
def PQ (H:Hp) (bs:List (Str × Nat)) (kbs:List Kb) (D n:Nat) (kvs:List (Key × V)) (js:List Nat):Prop:=∀ (m j:Nat),js[m]? = some j->∃ (k i:Nat) (T:Addr) (z:Kb),CP kvs (kI j)=some (.ref T)/\H T=some (.tup [V.int (k:Nat),V.int (i:Nat)])/\D.testBit k=true/\kbs[k]? = some z/\gl bs z i=some j/\(n.testBit i=true \/ i∈js.take m)
theorem PQ.zU {bs:List (Str × Nat)} {D:Nat} {js:List Nat} (h:PQ H bs kbs D n kvs js) (e:∀ T xs,H T=some (.tup xs)->H' T=some (.tup xs)):PQ H' bs kbs D n kvs js:=λm j a=>by
 obtain⟨k,i,T,z,c,b,d⟩:=h m j a
 exact⟨k,i,T,z,c,e _ _ b,d⟩
theorem PQ.mono {bs:List (Str × Nat)} {D:Nat} {js:List Nat} (h:PQ H bs kbs D n kvs js) (s:Am H H'):PQ H' bs kbs D n kvs js:=h.zU λT a e=>s _ _ e
theorem PQ.upd {bs:List (Str × Nat)} {D:Nat} {js:List Nat} {A:Addr} {u:HO} (h:PQ H bs kbs D n kvs js) (b:H A=some u) (a:∀ xs,u ≠ .tup xs):PQ (L2.upd H A o) bs kbs D n kvs js:=h.zU λT xs e=>by
 rw[Aw (λz=>by rw[z,b] at e;exact a xs (Option.some.inj e))]
 exact e
theorem PQ.snoc {bs:List (Str × Nat)} {D:Nat} {js:List Nat} {k b:Nat} {T:Addr} {z:Kb} (h:PQ H bs kbs D n kvs js) (f:CP kvs (kI j)=none) (q:H T=some (.tup [V.int (k:Nat),V.int (b:Nat)])) (x:D.testBit k=true) (p:kbs[k]? = some z) (u:gl bs z b=some j) (hi:n.testBit b=true \/ b∈js) :
  PQ H bs kbs D n (kvs++[(kI j,.ref T)]) (js++[j]):=λm d c=>by
 by_cases a:m<js.length
 ·rw[fw a] at c
  obtain⟨v,A,i,r,g,w,C,B,t,l⟩:=h m d c
  refine⟨v,A,i,r,?_,w,C,B,t,?_⟩
  ·rw[Ip _ _ _ _ f]
   by_cases e:kI d=kI j
   ·rw[e,f] at g
    cases g
   ·rw[if_neg e]
    exact g
  ·rw[fg (fA a)]
   exact l
 ·have o:=(ag.mp c).1
  rw[am,ay] at o
  have y:m=js.length:=by omega
  subst y
  rw[dc (ah _),kq] at c
  have s:j=d:=by simpa using c
  subst s
  refine⟨k,b,T,z,?_,q,x,p,u,?_⟩
  ·rw[Ip _ _ _ _ f,if_pos rfl]
  ·rw[fg (ah _),eD]
   exact hi
inductive iI (C:Addr) (vs:List V) (H:Hp) (Q:VK) (b9:XK):Prop
 | mk (x:Addr) (c:Nat->Str) (sz:List Nat) (kbs:List Kb) (D n:Nat):vs=[.ref x,.int (D:Nat),.int (n:Nat)]->Ds C H x (Bg c sz) (Bu c kbs)->R7 sz.length kbs->n<2 ^ 1200->(∀ i,n.testBit i=true->i<sz.sum)->(∀ W (kvs:List (Key × V)) (js:List Nat) H',H W=none->Am H H'->H' W=some (.dK kvs)->kvs.map (·.1)=js.map kI->js.Nodup->PQ H' (Bg c sz) kbs D n kvs js->(∀ j,j∈js ↔ PK (stp (Bg c sz) kbs D) (λi=>n.testBit i=true) j)->Q (.ref W) H')->iI C vs H Q b9
theorem RJ:Av ["organ","knobs","held","couplers","ways","left","ahead","knob","key"] tf (Ae uD):=Bh
include N T in
theorem lY:Ao P w K mg base Bb 4 aD.fWa aD.dWa tf (iI C):=by
 refine N.FWa.1.DX RJ λH vs Q E hr h=>?_
 obtain⟨x,c,sz,p,D,n,rfl,O,oo,hn,qA,q⟩:=h
 have hu:=CJ hr
 refine⟨_,(Af (Ba (i:=3) RJ.nd rfl (Or.inl rfl) (zC (Xz N T) hr rfl N.FDc (Aa (pv 0) (Aa (pv 1) (Aa BP Ab)))))
  (Af (Ba (i:=4) RJ.nd rfl (Or.inl rfl) IV)
  (Af (Ba (i:=5) RJ.nd rfl (Or.inl rfl) (zC (QJ N T) hr rfl N.FMe (Aa (pv 2) Ab)))
  (Af (Ww PassesOwn.never (Ma (pv 5) (λ_=>rfl)) (Af (Ba (i:=6) RJ.nd rfl (Or.inl rfl) (IK cq PySem.F.slot_list_pop PySem.F.type_list_pop YW (pv 5) (Aa Ac Ab)))
  (Ah (Eo PassesOwn.never rfl (Bx (pv 3)) (Cd (i:=7) RJ.nd rfl (Or.inl rfl)) (Af (Ba (i:=8) RJ.nd rfl (Or.inl rfl) (zC (j6 N T) hr rfl N.FLe (Aa (pv 0) (Aa (pv 7) (Aa (pv 6) Ab)))))
  (Ah (Bl (PW.pt (Lz (BL Zb (pv 8) Gg (BW _)) (Jo (RD (Nk hu (pv 8) (pv 4)))))) (Af (G_ hu (pv 4) (pv 8) (Cm (Aa (pv 7) (Aa (pv 6) Ab))) rfl)
  (Ah (Bl (Cu (DK (zC (Xu N T) hr rfl N.FHa (Aa (pv 2) (Aa (pv 8) Ab))))) (Ah (CG (IK cq ee et Dj (pv 5) (Aa (pv 8) Ab)))) Be))) Be)))))))
  (Ah (Ax (pv 4))))))),?_⟩
 have J:((Bg c sz).map (·.2)).sum=sz.sum:=by rw[DW]
 generalize ab:stp (Bg c sz) p D=st
 have hR:∀ {j},PK st (λi=>n.testBit i=true) j->j<sz.sum:=λ{j} r=>by
  rw[<-ab] at r
  have:=r.lt
  rw[J] at this
  exact this
 refine⟨_,rfl,_,rfl,x,Bg c sz,Bu c p,"coupler",D,rfl,O,λR cl H1 Zs s1 aB AT C6=>?_⟩
 have aZ:∀ k,k∈cl ↔ ∃ z,p[k]? = some z/\gU z=true/\D.testBit k=true:=λk=>by
  rw[AT]
  constructor
  ·rintro⟨r,hr,hw,hd⟩
   obtain⟨z,hz,rfl⟩:=Gz hr
   rw[J_] at hw
   exact⟨z,hz,decide_eq_true (congrArg V.str hw),hd⟩
  ·rintro⟨z,hz,hc,hd⟩
   exact⟨_,Ft hz,(J_ _ _ _).trans (V.str.inj (of_decide_eq_true hc)),hd⟩
 intro W hW
 obtain⟨H2,i7,t2,u2⟩:=El (o:=HO.dK []) hW
 rw[i7]
 refine⟨_,rfl,n,rfl,hn,λL H3 hL s3 lT=>?_⟩
 have aQ:=t2.trans s3
 have bl:=s1.trans aQ
 have a1:H W=none:=s1.free hW
 have a6:H L=none:=(s1.trans t2).free hL
 have aM:W ≠ L:=λz=>by rw[<-z,s3 _ _ u2] at lT;cases lT
 have c3:=aQ _ _ aB
 have bR:Dg K H3 R (nV cl):=.inl (.inl c3)
 have a9:R ≠ W:=λz=>by rw[z,s3 _ _ u2] at c3;cases c3
 have ap:R ≠ L:=λz=>by rw[z] at aB;rw[t2 _ _ aB] at hL;cases hL
 show Dc 5 _ _ _ _
 rw[Xy]
 refine Xr ?_
 refine YK (λσ G=>Am H G/\G R=some (.lst (nV cl))/\∃ (t:List (Key × V)) (F A:List Nat),G W=some (.dK t)/\G L=some (.lst (nV A))/\t.map (·.1)=F.map kI/\F.Nodup/\PQ G (Bg c sz) p D n t F/\(∀ j∈F,PK st (λi=>n.testBit i=true) j)/\(∀ i∈A,n.testBit i=true \/ i∈F)/\(∀ i,(n.testBit i=true \/ i∈F)->i∈A \/ ∀ j,st i j->j∈F)/\A.length+(sz.sum - F.length)<=1600/\∃ v6 v7 v8,σ=[some (.ref x),some (.int (D:Nat)),some (.int (n:Nat)),some (.ref R),some (.ref W),some (.ref L),v6,v7,v8])
  (λ_ G=>dX (G L)+(sz.sum - eG (G W))) ⟨bl,c3,[],[],Wd.mem n,s3 _ _ u2,lT,rfl,List.nodup_nil,(λm j hm=>by simp at hm),(λj hj=>nomatch hj),(λi U=>.inl (Wd.mem_iff.mp U)),(λi U=>.inl (Wd.mem_iff.mpr (U.resolve_right (by simp)))),?_,_,_,_,rfl⟩ ?_ ?_
 ·have:=Wd.K6 hn
  have:(Wd.mem n).length<=Wd.len n:=by unfold Wd.mem;exact Nat.le_trans (List.length_filter_le _ _) (by simp)
  have k6:=Fj O
  rw[J] at k6
  simp
  omega
 ·rintro σ G ⟨s4,c4,t,F,A,hw,hl,mr,nd,FX,hj,sR,EH,IT,v6,v7,v8,rfl⟩
  refine⟨_,rfl,_,.inl ⟨_,kK hl,rfl⟩,?_⟩
  have bP:F.length<=sz.sum:=Fq sz.sum nd λj h=>hR (hj j h)
  have bd:t.length=F.length:=by have:=congrArg List.length mr;simpa using this
  cases A with
  | nil =>
   refine Bk ?_
   refine⟨_,rfl,q W t F G a1 s4 hw mr nd FX λj=>?_⟩
   rw[ab]
   exact PK.all (W:=λj=>j∈F) hj (λi U=>(EH i U).resolve_left (by simp)) j
  | cons f A =>
   refine DY ?_
   refine⟨_,rfl,.inl ⟨rfl,_,kK hl⟩,L,_,0,0,.int (f:Nat),rfl,rfl,hl,by decide,by decide,seqIndex_of (by decide) (by simp),rfl,?_⟩
   have w5:upd G L (.lst ((nV (f::A)).eraseIdx 0)) W=some (.dK t):=by rw[Aw aM];exact hw
   have l5:upd G L (.lst ((nV (f::A)).eraseIdx 0)) L=some (.lst (nV A)):=Ak
   have c5:upd G L (.lst ((nV (f::A)).eraseIdx 0)) R=some (.lst (nV cl)):=by rw[Aw ap];exact c4
   have s5:Am H (upd G L (.lst ((nV (f::A)).eraseIdx 0))):=λb o e=>by rw[Aw (Ai e a6)];exact s4 _ _ e
   have em:dX (G L)+(sz.sum - eG (G W))=A.length+1+(sz.sum - F.length):=by
    rw[hl,hw]
    show (nV (f::A)).length+(sz.sum - t.length)=_
    rw[bd]
    simp
   rw[em]
   have as:PQ (upd G L (.lst ((nV (f::A)).eraseIdx 0))) (Bg c sz) p D n t F:=FX.upd hl (λxs z=>by cases z)
   generalize upd G L (.lst ((nV (f::A)).eraseIdx 0))=H5 at w5 l5 c5 s5 as |-
   have bm:f<sz.sum:=by
    rcases sR f (ce ..) with h | h
    ·exact qA f h
    ·exact hR (hj f h)
   have a4:∀ j,st f j->PK st (λi=>n.testBit i=true) j:=λj h=>by
    rcases sR f (ce ..) with g | g
    ·exact .one g h
    ·exact .more (hj f g) h
   obtain⟨qd,hq⟩:∃ qd,(Fi (Bg c sz))[f]? = some qd:=⟨_,ae (by rw[FN,J];exact bm)⟩
   have M:A.length+(sz.sum - F.length)<A.length+1+(sz.sum - F.length):=by omega
   refine⟨_,rfl,R,rfl,⟨_,kK c5⟩,Hz (K:=K) (a:=R) (xs:=nV cl) (λm σ H6=>Am H H6/\H6 R=some (.lst (nV cl))/\∃ (l:List (Key × V)) (d u:List Nat),H6 W=some (.dK l)/\H6 L=some (.lst (nV u))/\l.map (·.1)=d.map kI/\d.Nodup/\PQ H6 (Bg c sz) p D n l d/\(∀ j∈d,PK st (λi=>n.testBit i=true) j)/\(∀ i∈u,n.testBit i=true \/ i∈d)/\(∀ i,(n.testBit i=true \/ i∈d)->i=f \/ i∈u \/ ∀ j,st i j->j∈d)/\(∀ k∈cl.take m,∀ z j,p[k]? = some z->gl (Bg c sz) z f=some j->j∈d)/\(n.testBit f=true \/ f∈d)/\u.length+(sz.sum - d.length)<=A.length+(sz.sum - F.length)/\∃ v7 v8,σ=[some (.ref x),some (.int (D:Nat)),some (.int (n:Nat)),some (.ref R),some (.ref W),some (.ref L),some (.int (f:Nat)),v7,v8])
    ⟨s5,c5,t,F,A,w5,l5,mr,nd,as,hj,(λi U=>sR i (List.mem_cons_of_mem _ U)),(λi U=>?_),(λk hk=>by simp at hk),sR f (List.mem_cons_self ..),Nat.le_refl _,_,_,rfl⟩ (λm σ H6 _ h=>.inl (.inl h.2.1)) ?_ ?_⟩
   ·rcases EH i U with h | h
    ·rcases cf.mp h with rfl | h
     ·exact .inl rfl
     ·exact .inr (.inl h)
    ·exact .inr (.inr h)
   ·rintro m y σ H6 hm ⟨s6,c6,l,d,u,w6,l6,wq,EA,sT,xw,sw,sC,uj,si,t4,v7,v8,rfl⟩
    rw[al] at hm
    obtain⟨k,hk,rfl⟩:=aE.mp hm
    obtain⟨z,hz,bz,VO⟩:=(aZ k).mp (ai hk)
    have ZA:=oo.ok z (ai hz)
    obtain⟨j1,j2,s0,rfl⟩:=Zr ZA bz
    obtain⟨bB,bv,_,_⟩:=ZA
    have aP:(Bg c sz)[j1]? = some (c j1,sz[j1]):=GJ (ae bB)
    have an:(Bg c sz)[j2]? = some (c j2,sz[j2]):=GJ (ae bv)
    have aw:(Bu c p)[k]? = some ⟨"coupler",c (30+k),[.str (c j1),.str (c j2),.int s0]⟩:=Ft hz
    have bN:d.length<=sz.sum:=Fq sz.sum EA λj h=>hR (xw j h)
    have ac:l.length=d.length:=by have:=congrArg List.length wq;simpa using this
    have k6:=Fj O
    rw[J] at k6
    refine⟨_,rfl,_,rfl,_,rfl,x,Bg c sz,Bu c p,k,f,j1,j2,(c j1,sz[j1]),(c j2,sz[j2]),qd,c (30+k),s0,rfl,O.mono s6,hq,aw,aP,an,λH7 I=>?_⟩
    have B:∀ {LM:List Nat},(∀ j∈d,j∈LM)->(∀ j,gl (Bg c sz) (.cp j1 j2 s0) f=some j->j∈LM)->∀ k'∈cl.take (m+1),∀ z j,p[k']? = some z->gl (Bg c sz) z f=some j->j∈LM:=λ{LM} a3 a2 k' oC z' j ED hg=>by
     rw[cr,hk] at oC
     rcases bX.mp oC with h | h
     ·exact a3 j (uj k' h z' j ED hg)
     ·have:k'=k:=by simpa using h
      subst this
      rw[hz] at ED
      cases ED
      exact a2 j hg
    rcases W6 (j1:=j1) (s:=s0) hq an with⟨e,eg⟩ | ⟨j,e,eg,bS⟩
    ·rw[e]
     refine⟨_,rfl,rfl,_,rfl,Bk (Bk ?_)⟩
     exact⟨s6.trans I,I _ _ c6,l,d,u,I _ _ w6,I _ _ l6,wq,EA,sT.mono I,xw,sw,sC,B (λj h=>h) (λj h=>by rw[eg] at h;cases h),si,t4,_,_,rfl⟩
    ·rw[e]
     have a5:st f j:=by rw[<-ab];exact⟨k,_,VO,hz,eg⟩
     refine⟨_,rfl,rfl,_,rfl,DY ?_⟩
     refine⟨_,rfl,_,rfl,W,_,rfl,Em.k (k:=kI j) (I _ _ w6),_,rfl,?_⟩
     rw[YG wq j]
     by_cases S:j∈d
     ·rw[decide_eq_true S]
      refine Bk ?_
      exact⟨s6.trans I,I _ _ c6,l,d,u,I _ _ w6,I _ _ l6,wq,EA,sT.mono I,xw,sw,sC,B (λj h=>h) (λZ h=>by rw[eg] at h;cases h;exact S),si,t4,_,_,rfl⟩
     ·rw[decide_eq_false S]
      refine DY ?_
      have nv:CP l (kI j)=none:=by
       have:=YG wq j
       rw[decide_eq_false S] at this
       exact Option.not_isSome_iff_eq_none.mp (by rw[this];decide)
      have aK:(d++[j]).Nodup:=List.nodup_append.mpr ⟨EA,by simp,λa ha b hb=>by rw[List.mem_singleton.mp hb];intro z;exact S (z ▸ ha)⟩
      have aC:∀ Z∈d++[j],PK st (λi=>n.testBit i=true) Z:=λZ h=>by
       rcases bX.mp h with h | h
       ·exact xw Z h
       ·rw[av.mp h]
        exact a4 j a5
      have a0:(d++[j]).length<=sz.sum:=Fq sz.sum aK λj h=>hR (aC j h)
      rw[am,ay] at a0
      refine⟨_,rfl,_,rfl,by show 2<=sizeLine;decide,λY bL=>?_⟩
      obtain⟨H8,i7,t8,RY⟩:=El (o:=HO.tup [V.int (k:Nat),V.int (f:Nat)]) bL
      rw[i7]
      have w8:=t8 _ _ (I _ _ w6)
      refine⟨_,rfl,_,rfl,W,_,rfl,Ks.k (k:=kI j) w8 (BJ (by omega)),?_⟩
      have u9:upd H8 W (.dK (putK l (kI j) (.ref Y))) W=some (.dK (l++[(kI j,.ref Y)])):=by rw[<-X_ _ nv];exact Ak
      have l9:upd H8 W (.dK (putK l (kI j) (.ref Y))) L=some (.lst (nV u)):=by rw[Aw aM.symm];exact t8 _ _ (I _ _ l6)
      have c9:upd H8 W (.dK (putK l (kI j) (.ref Y))) R=some (.lst (nV cl)):=by rw[Aw a9];exact t8 _ _ (I _ _ c6)
      have s9:Am H (upd H8 W (.dK (putK l (kI j) (.ref Y)))):=λb o e=>by rw[Aw (Ai e a1)];exact t8 _ _ (I _ _ (s6 _ _ e))
      have X:PQ (upd H8 W (.dK (putK l (kI j) (.ref Y)))) (Bg c sz) p D n (l++[(kI j,.ref Y)]) (d++[j]):=by
       have p8:=((sT.mono I).mono t8).upd (o:=.dK (putK l (kI j) (.ref Y))) w8 (λxs z=>by cases z)
       exact p8.snoc nv (by rw[Aw (λz=>by rw[z,w8] at RY;cases RY)];exact RY) VO hz eg si
      generalize upd H8 W (.dK (putK l (kI j) (.ref Y)))=H9 at u9 l9 c9 s9 X |-
      have aN:(l++[(kI j,V.ref Y)]).map (·.1)=(d++[j]).map kI:=by rw[cm,cm,wq];rfl
      refine⟨_,rfl,_,rfl,n,_,rfl,_,rfl,?_⟩
      have eb:(decide ((0:Int)<=(j:Nat)) && n.testBit ((j:Nat):Int).toNat)=n.testBit j:=by rw[decide_eq_true (by omega),gL,bb]
      rw[eb]
      cases hb:n.testBit j with
      | true =>
       refine Bk ?_
       refine⟨s9,c9,_,d++[j],u,u9,l9,aN,aK,X,aC,(λi h=>(sw i h).imp id (List.mem_append_left _)),(λi h=>?_),B (λj h=>List.mem_append_left _ h) (λZ h=>by rw[eg] at h;cases h;simp),si.imp id (List.mem_append_left _),?_,_,_,rfl⟩
       ·have h':n.testBit i=true \/ i∈d:=by
         rcases h with h | h
         ·exact .inl h
         ·rcases bX.mp h with h | h
          ·exact .inr h
          ·rw[av.mp h]
           exact .inl hb
        rcases sC i h' with g | g | g
        ·exact .inl g
        ·exact .inr (.inl g)
        ·exact .inr (.inr λZ qS=>cy _ (g Z qS))
       ·rw[am,ay]
        omega
      | false =>
       refine DY ?_
       refine⟨_,rfl,.inl ⟨rfl,_,kK l9⟩,_,rfl,L,_,_,rfl,rfl,l9,Zm (by simp only[List.length_cons] at IT;rw[List.length_map];omega),?_⟩
       have bn:upd H9 L (.lst (nV u++[V.int (j:Nat)])) L=some (.lst (nV (u++[j]))):=by
        have e9:nV (u++[j])=nV u++[V.int (j:Nat)]:=cm
        rw[e9]
        exact Ak
       have a8:upd H9 L (.lst (nV u++[V.int (j:Nat)])) W=some (.dK (l++[(kI j,.ref Y)])):=by rw[Aw aM];exact u9
       have a7:upd H9 L (.lst (nV u++[V.int (j:Nat)])) R=some (.lst (nV cl)):=by rw[Aw ap];exact c9
       have bK:Am H (upd H9 L (.lst (nV u++[V.int (j:Nat)]))):=λb o e=>by rw[Aw (Ai e a6)];exact s9 _ _ e
       refine⟨bK,a7,_,d++[j],u++[j],a8,bn,aN,aK,X.upd l9 (λxs z=>by cases z),aC,(λi h=>?_),(λi h=>?_),B (λj h=>List.mem_append_left _ h) (λZ h=>by rw[eg] at h;cases h;simp),si.imp id (List.mem_append_left _),?_,_,_,rfl⟩
       ·rcases bX.mp h with h | h
        ·exact (sw i h).imp id (cy _)
        ·exact .inr (bt _ h)
       ·have h':(n.testBit i=true \/ i∈d) \/ i=j:=by
         rcases h with h | h
         ·exact .inl (.inl h)
         ·rcases bX.mp h with h | h
          ·exact .inl (.inr h)
          ·exact .inr (av.mp h)
        rcases h' with h' | rfl
        ·rcases sC i h' with g | g | g
         ·exact .inl g
         ·exact .inr (.inl (cy _ g))
         ·exact .inr (.inr λZ qS=>cy _ (g Z qS))
        ·exact .inr (.inl (by simp))
       ·rw[am,am,ay]
        omega
   ·rintro σ H6 ⟨s6,c6,l,d,u,w6,l6,wq,EA,sT,xw,sw,sC,uj,si,t4,v7,v8,rfl⟩
    have ac:l.length=d.length:=by have:=congrArg List.length wq;simpa using this
    refine⟨⟨s6,c6,l,d,u,w6,l6,wq,EA,sT,xw,sw,(λi U=>?_),by simp only[List.length_cons] at IT;omega,_,_,_,rfl⟩,?_⟩
    ·rcases sC i U with rfl | g | g
     ·refine .inr λj OM=>?_
      rw[<-ab] at OM
      obtain⟨k,z,SY,WZ,hg⟩:=OM
      refine uj k ?_ z j WZ hg
      rw[List.take_of_length_le (by simp)]
      exact (aZ k).mpr ⟨z,WZ,jq hg,SY⟩
     ·exact .inl g
     ·exact .inr g
    ·show dX (H6 L)+(sz.sum - eG (H6 W))<_
     rw[l6,w6]
     show (nV u).length+(sz.sum - l.length)<_
     rw[af,ac]
     omega
 ·rintro σ H' Q1 Q2 hm ⟨v,hv,k,hk,h⟩
  exact⟨v,hv,k,hk,hm _ _ h⟩
inductive gD (C:Addr) (vs:List V) (H:Hp) (Q:VK) (b9:XK):Prop
 | mk (x:Addr) (c:Nat->Str) (sz:List Nat) (kbs:List Kb) (D n:Nat):vs=[.ref x,.int (D:Nat),.int (n:Nat)]->Ds C H x (Bg c sz) (Bu c kbs)->R7 sz.length kbs->n<2 ^ 1200->(∀ i,n.testBit i=true->i<sz.sum)->(∀ (m:Nat) H',Am H H'->(∀ j,m.testBit j=true ↔ PK (stp (Bg c sz) kbs D) (λi=>n.testBit i=true) j)->Q (.int (m:Nat)) H')->gD C vs H Q b9
theorem Rr {T:Nat} (h:∀ i,n.testBit i=true->i<T):Wd.mv n 0 T=n:=by
 refine Zf λi=>?_
 rw[Wd.La]
 simp
 intro a
 exact h i a
theorem yS:Av tf tf (Ae wI):=Bh
include N T in
theorem qQ:Ao P w K mg base Bb 5 aD.fCq aD.dCq tf (gD C):=by
 refine N.FCq.1.DX yS λH F Q E i h=>?_
 obtain⟨x,c,sz,g,D,n,rfl,O,z,o,m,q⟩:=h
 refine⟨_,(Ah (Ax (zC (M5 N T) i rfl N.FSt (Aa (Dk (Mh rfl) rfl T.list eI (Aa (zC (lY N T) i rfl N.FWa (Aa (pv 0) (Aa (pv 1) (Aa (zC (bJ N T) i rfl N.FHk (Aa (pv 0) (Aa (pv 2) Ab))) Ab)))) Ab)) Ab)))),?_⟩
 have a:((Bg c sz).map (·.2)).sum=sz.sum:=by rw[DW]
 have y:=Fj O
 rw[a] at y
 refine⟨_,rfl,_,rfl,_,rfl,_,rfl,x,Bg c sz,Bu c g,n,rfl,O,o,?_⟩
 rw[a,Rr m]
 refine⟨x,c,sz,g,D,n,rfl,O,z,o,m,λW e b I G A u t p _ k=>?_⟩
 have d:∀ j∈b,j<sz.sum:=λj h=>by
  have:=((k j).mp h).lt
  rw[a] at this
  exact this
 have r:=Fq sz.sum p d
 have f:e.map (·.1)=(b.map λj:Nat=>(j:Int)).map Sum.inl:=by rw[t,ax];rfl
 refine⟨W,e,_,rfl,u,f,λl hl=>?_⟩
 have B:(b.map λj:Nat=>(j:Int)).map V.int=nV b:=by rw[ax];rfl
 rw[B]
 refine⟨l,b,rfl,Ak,by omega,λj h=>by have:=d j h;omega,λs v=>?_⟩
 refine q (Wd.mk b) s ((A.trans (BR hl)).trans v) λj=>?_
 rw[Wd.Hr,decide_eq_true_eq]
 exact k j
theorem Mw {K:W.Frag} (h:X.K=K):HN X (compareOp .NotIn) (lE K true):=h ▸ Oz
theorem Wk (l:List Nat):(nV l).all Ge=true:=fm.mpr λv a=>by
 obtain⟨n,_,rfl⟩:=ar.mp a
 rfl
theorem aJ (j:Nat) (js:List Nat):inV (.int (j:Nat)) (nV js)=decide (j∈js):=by
 rw[fe,decide_eq_true_eq]
 unfold inV
 rw[fF]
 constructor
 ·rintro⟨y,a,e⟩
  obtain⟨n,b,rfl⟩:=ar.mp a
  have c:(((n:Nat):Int) == ((j:Nat):Int))=true:=e
  have d:((n:Nat):Int)=(j:Nat):=eq_of_beq c
  have:n=j:=by omega
  subst this
  exact b
 ·intro h
  exact⟨_,List.mem_map_of_mem h,by show (((j:Nat):Int) == ((j:Nat):Int))=true;exact beq_self_eq_true _⟩
theorem wJ:Av tS tS (Ae yu):=Bh
include N T in
theorem qg:Ao P w K mg base Bb 2 aD.fOm aD.dOm tS (QL C):=by
 refine N.FOm.1.DX wJ λH u Q E g h=>?_
 obtain⟨x,bs,e,k,f,m,wd,i,d,rfl,O,l,a,q⟩:=h
 refine⟨_,(Ah (Ax (Bp (pv 0) T.cl N.FBk.2.2 (R4 N T) (ad g) N.FBk.2.1 .nil Aq (Aa (pv 1) Ab)))),?_⟩
 obtain⟨⟨j,fs,W,p,V,s,D,I,B,b,n,F,J,S,L,c,U,A,z,R,t,r,o,G⟩,v,M,y⟩:=id O
 exact⟨_,rfl,x,j,fs,rfl,n,c _ (by decide),_,rfl,x,bs,e,k,f,m,wd,i,d,rfl,O,l,a,q⟩
inductive iQ (C:Addr) (vs:List V) (H:Hp) (Q:VK) (b9:XK):Prop
 | mk (x:Addr) (bs:List (Str × Nat)) (rk:List (Str × Nat × Int)) (ks:List R) (ls:List (List Ln:_)) (k j1:Nat) (b1:Str × Nat) (wd nm:Str) (rs:List V) (l:List Ln):vs=[.ref x,.int (k:Nat)]->En C H x bs rk ks ls->ks[k]? = some ⟨wd,nm,.str b1.1::rs⟩->bs[j1]? = some b1->ls[k]? = some l->(∀ (T0 L0:Addr) (ts:List V) H',H L0=none->Am H H'->H' T0=some (.tup [.int (j1:Nat),.ref L0])->H' L0=some (.lst ts)->Paired (λx y=>TupAt H' (Z8 x) y) l ts->Q (.ref T0) H')->iQ C vs H Q b9
theorem u_:Av tS tS (Ae wW):=Bh
include N T in
theorem kj:Ao P w K mg base Bb 2 aD.fOs aD.dOs tS (iQ C):=by
 refine N.FOs.1.DX u_ λH vs Q E s h=>?_
 obtain⟨x,bs,rk,R,ls,k,g,v,wd,X,M,l,rfl,O,u,e,hl,q⟩:=h
 refine⟨_,(Ah (Ax (Cm (Aa (Bp (pv 0) T.cl N.FBk.2.2 (R4 N T) (ad s) N.FBk.2.1 .nil Aq (Aa (pv 1) Ab)) (Aa (Dk Ep rfl T.list eI (Aa (Ay (Bm (K:=K) rfl) (Bc (pv 0) rfl) (pv 1) (λ_ _=>rfl)) Ab)) Ab))))),?_⟩
 obtain⟨⟨t,fs,bl,bn,kp,kr,i5,lh,l8,F,d,l1,l2,l3,l4,p,h2,h3,h4,h5,h6,h7,h8,h9⟩,re,pr,rf⟩:=id O.o
 obtain⟨n,I,rl,rn,pp,D,kU,D0,g0,j,m1,m2,m3,S,g2,g3,g4,g5,g6,g7,r,W,G⟩:=id O.r
 obtain⟨Z,z⟩:n=t/\I=fs:=by rw[d] at j;cases j;exact⟨rfl,rfl⟩
 subst Z z
 obtain⟨y,J,A,c,rfl,B,L⟩:=CN G hl
 refine⟨_,rfl,x,_,_,rfl,d,p _ (by decide),_,rfl,x,bs,R,k,g,v,wd,X,M,rfl,O.o,u,e,?_⟩
 refine⟨_,rfl,x,C,_,_,_,rfl,d,T.cl,T.n_knob_lines,S,_,rfl,D,r,_,_,rfl,rfl,kK W,Ag J,A,c,rfl,kK (.inl B),λi a=>?_⟩
 obtain⟨H1,U,f,m⟩:=El (o:=HO.lst c) a
 rw[U]
 refine⟨by show 2<=sizeLine;decide,λV Y=>?_⟩
 have b:=BR (o:=HO.tup [.int (g:Nat),.ref i]) Y
 exact q V i c _ a (f.trans b) Ak (b _ _ m) (Ar (f.trans b) L)
inductive jV (C:Addr) (vs:List V) (H:Hp) (Q:VK) (b9:XK):Prop
 | mk (x:Addr) (bs:List (Str × Nat)) (rk:List (Str × Nat × Int)) (ks:List R) (ls:List (List Ln:_)):vs=[.ref x]->En C H x bs rk ks ls->(∀ D kU H',H D=none->Am H H'->H' D=some (.lst kU)->Paired (λ(a:Th) y=>TupAt H' (tV a) y) (rk.map X6) kU->Q (.ref D) H')->jV C vs H Q b9
theorem yG:Av sN sN (Ae vX):=Bh
include N T in
theorem qm:Ao P w K mg base Bb 1 aD.fOr aD.dOr sN (jV C):=by
 refine N.FOr.1.DX yG λH F Q E hr h=>?_
 obtain⟨x,bs,rk,M,y,rfl,O,q⟩:=h
 refine⟨_,(Ah (Ax (Dk Ep rfl T.list eI (Aa (Bc (pv 0) rfl) Ab)))),?_⟩
 obtain⟨⟨m,fs,bl,s,kp,u,W,lh,V,d,c,Y,l2,l3,l4,B,h2,R,L,h5,v,t,r,Z⟩,G,pr,I⟩:=id O.o
 obtain⟨e,g,j,rn,A,p,a,D0,g0,b,f,m2,U,S,k,i,D,g5,g6,X,J,g8,z⟩:=id O.r
 obtain⟨n,o⟩:e=m/\g=fs:=by rw[c] at b;cases b;exact⟨rfl,rfl⟩
 subst n o
 exact⟨_,rfl,x,C,_,_,_,rfl,c,T.cl,T.n_rank_list,f,j,a,rfl,kK (.inl k),λl hl=>q l a _ hl (BR hl) Ak (Ar (BR hl) i)⟩
inductive eV (C:Addr) (vs:List V) (H:Hp) (Q:VK) (b9:XK):Prop
 | mk (x:Addr) (bs:List (Str × Nat)) (rk:List (Str × Nat × Int)) (ks:List R) (ls:List (List Ln:_)):vs=[.ref x]->En C H x bs rk ks ls->Q (.int ((Fi (rk.map jU)).length:Nat)) H->eV C vs H Q b9
theorem wX:Av sN sN (Ae yd):=Bh
include N T in
theorem qY:Ao P w K mg base Bb 1 aD.fOq aD.dOq sN (eV C):=by
 refine N.FOq.1.DX wX λH F Q E hr h=>?_
 obtain⟨x,bs,rk,M,v,rfl,O,q⟩:=h
 refine⟨_,(Ah (Ax (A_ BZ rfl T.len bo (Aa (Bc (pv 0) rfl) Ab)))),?_⟩
 obtain⟨⟨j,fs,bl,r,kp,t,W,Z,V,c,b,X,l2,l3,l4,A,h2,R,L,h5,u,s,p,Y⟩,G,pr,I⟩:=id O.o
 obtain⟨d,e,rl,rn,f,o,D,k,g0,a,y,m2,g,U,g2,S,B,g5,n,i,J,g8,z⟩:=id O.r
 obtain⟨l,m⟩:d=j/\e=fs:=by rw[b] at a;cases a;exact⟨rfl,rfl⟩
 subst l m
 refine⟨_,rfl,x,C,_,_,_,rfl,b,T.cl,T.n_pipe_places,g,f,k,rfl,kK (.inl n),?_⟩
 rw[<-i.length]
 exact q
inductive jL (C:Addr) (vs:List V) (H:Hp) (Q:VK) (b9:XK):Prop
 | mk (x:Addr) (bs:List (Str × Nat)) (rk:List (Str × Nat × Int)) (ks:List R) (ls:List (List Ln:_)) (j:Nat) (r:Str × Nat × Int) (n:Int):vs=[.ref x,.str r.1,.int n]->En C H x bs rk ks ls->rk[j]? = some r->(∀ H',Am H H'->Q (.int ((((rk.take j).map (λr=>r.2.1)).sum:Nat)+n)) H')->jL C vs H Q b9
theorem wF:Av z4 z4 (Ae yU):=Bh
include N T in
theorem oR:Ao P w K mg base Bb 2 aD.fOe aD.dOe z4 (jL C):=by
 refine N.FOe.1.DX wF λH vs Q E p h=>?_
 obtain⟨x,bs,rk,ks,ls,j,r,n,rfl,O,m,q⟩:=h
 have B:=CJ p
 refine⟨_,(Ah (Ax (BX Br (zC (bC N T) p rfl N.FCa (Aa (Ec Ia (Bc (pv 0) rfl) Gd (Eh (Fo B (Bc (pv 0) rfl) (pv 1) (λ_ _=>rfl)))) Ab)) (pv 2)))),?_⟩
 obtain⟨⟨F,fs,bl,Z,kp,kr,i5,lh,l8,L,f,l1,l2,l3,l4,lm,h2,h3,h4,h5,h6,h7,Y,h9⟩,re,pr,rf⟩:=id O.o
 obtain⟨v,M,U,V,pp,kl,b,D0,g0,s,y,G,m3,m4,D,t,R,W,g6,g7,lv,g8,g9⟩:=id O.r
 obtain⟨X,I⟩:v=F/\M=fs:=by rw[f] at s;cases s;exact⟨rfl,rfl⟩
 subst X I
 have hj:j<rk.length:=(ag.mp m).1
 have hl:=t.length
 rw[af] at hl
 have g:=Em.k (k:=Sum.inr r.1) R
 rw[W j r m] at g
 refine⟨_,rfl,x,C,_,_,_,rfl,f,T.cl,T.n_rank_list,y,_,rfl,x,C,_,_,_,rfl,f,T.cl,T.n_rank_numbers,G,_,rfl,V,_,rfl,g,_,rfl,U,b,rfl,kK D,λc e=>?_⟩
 have d:=BR (o:=HO.lst (Dy b none (some (j:Int)))) e
 have i:upd H c (HO.lst (Dy b none (some (j:Int)))) c=_:=Ak
 generalize upd H c (HO.lst (Dy b none (some (j:Int))))=H6 at d i |-
 rw[JZ b j (by omega)] at i
 refine⟨c,(rk.map X6).take j,b.take j,rfl,i,Km (Ar d t) j,(by rw[ck,af];have:=O.nr;omega),(λa u=>by obtain⟨S,l,rfl⟩:=ar.mp (fN u);exact ba (O.nz S l) (by decide)),λJ A=>?_⟩
 have z:(((rk.map X6).take j).map λa=>a.2.1)=(rk.take j).map (λr=>r.2.1):=by
  rw[<-hU,ax]
  rfl
 rw[z]
 exact⟨_,rfl,_,_,rfl,rfl,q J (d.trans A)⟩
def Pz (l:List Nat):Nat:=l.foldl (· ||| ·) 0
theorem Pr (l:List Nat) (n:Nat):Pz (l++[n])=Pz l ||| n:=by
 unfold Pz
 rw[kz]
 rfl
theorem Tn:∀ (l:List Nat) (i:Nat),(Pz l).testBit i=true ↔ ∃ n∈l,n.testBit i=true:=by
 have f:∀ (k:Nat) (l:List Nat) (i:Nat),l.length=k->((Pz l).testBit i=true ↔ ∃ n∈l,n.testBit i=true):=by
  intro k
  induction k with
  | zero =>
   intro l i h
   cases l with
   | nil=>exact⟨λz=>absurd z (by unfold Pz;rw[List.foldl_nil,Nat.zero_testBit];decide),λ⟨n,d,_⟩=>nomatch d⟩
   | cons a b=>cases h
  | succ k g =>
   intro l i h
   obtain⟨a,z,rfl⟩:=FQ (l:=l) (by intro e;rw[e] at h;cases h)
   rw[am,ay] at h
   rw[Pr,Wh,g a i (by omega)]
   constructor
   ·rintro (⟨n,d,c⟩ | c)
    ·exact⟨n,cy _ d,c⟩
    ·exact⟨z,by simp,c⟩
   ·rintro⟨n,d,c⟩
    rcases bX.mp d with h | h
    ·exact .inl ⟨n,h,c⟩
    ·rw[av.mp h] at c
     exact .inr c
 exact λl i=>f l.length l i rfl
inductive W_ (vs:List V) (H:Hp) (Q:VK) (b9:XK):Prop
 | mk (p:Addr) (l:List Nat):vs=[.ref p]->H p=some (.lst (nV l))->l.length<=500->Q (.int (Pz l:Nat)) H->W_ vs H Q b9
theorem Zg:Av ["sets","some","each"] ["sets"] (Ae xU):=Bh
include N T in
theorem V7:Ao P w K mg base Bb 1 aD.fUn aD.dUn ["sets"] W_:=by
 refine N.FUn.1.DX Zg λH o Q E m h=>?_
 obtain⟨p,l,rfl,j,k,q⟩:=h
 refine⟨_,(Af (Ba (i:=1) Zg.nd rfl (Or.inl rfl) Ac)
  (Af (Eo PassesOwn.never rfl (Bx (pv 0)) (Cd (i:=2) Zg.nd rfl (Or.inl rfl)) (Ah (Ba (i:=1) Zg.nd rfl (Or.inl rfl) (BX M3 (pv 1) (pv 2)))))
  (Ah (Ax (pv 1))))),?_⟩
 have e:Dg K H p (nV l):=.inl (.inl j)
 refine⟨_,rfl,p,rfl,⟨_,e⟩,Hz (K:=K) (a:=p) (xs:=nV l) (λi σ b=>b=H/\∃ c,σ=[some (.ref p),some (.int (Pz (l.take i):Nat)),c]) ⟨rfl,_,rfl⟩ (λi σ b _ h=>by rw[h.1];exact e) ?_ ?_⟩
 ·rintro i y σ b d ⟨rfl,c,rfl⟩
  rw[al] at d
  obtain⟨n,f,rfl⟩:=aE.mp d
  refine⟨_,rfl,_,rfl,_,_,rfl,rfl,?_⟩
  refine⟨rfl,some (.int (n:Int)),?_⟩
  try dsimp only
  rw[Ik,cr,f]
  show _=[some (V.ref p),some (V.int ((Pz (l.take i++[n]):Nat):Int)),_]
  rw[Pr]
  rfl
 ·rintro σ b ⟨rfl,c,rfl⟩
  have g:l.take (nV l).length=l:=List.take_of_length_le (by simp)
  rw[g]
  exact⟨_,rfl,q⟩
def JW (kbs:List Kb) (k:Nat):Nat:=match kbs[k]? with
 | some (.pl _ b)=>b
 | some (.cp b _ _)=>b
 | none=>0
theorem Sy {c:Nat->Str} {k:Nat} (h:(Bu c kbs)[k]? = some r):∃ rs,r=⟨r.w,r.nm,.str (c (JW kbs k))::rs⟩:=by
 obtain⟨z,a,rfl⟩:=Gz h
 unfold JW
 rw[a]
 cases z with
 | cp i j s=>exact⟨_,rfl⟩
 | pl w i=>exact⟨_,rfl⟩
theorem Xx {k:Nat} {z:Kb} (h:R7 n kbs) (b:kbs[k]? = some z):JW kbs k<n:=by
 have a:=h.ok z (ai b)
 unfold JW
 rw[b]
 cases z with
 | cp i j s=>exact a.1
 | pl w i=>exact a.1
inductive Ri (kbs:List Kb) (D b:Nat):Prop
 | mk (k:Nat) (z:Kb):kbs[k]? = some z->z.w = "mute"->D.testBit k=true->JW kbs k=b->Ri kbs D b
inductive gk (C:Addr) (vs:List V) (H:Hp) (Q:VK) (b9:XK):Prop
 | mk (x:Addr) (c:Nat->Str) (sz:List Nat) (kbs:List Kb) (D:Nat):vs=[.ref x,.int (D:Nat)]->Ds C H x (Bg c sz) (Bu c kbs)->R7 sz.length kbs->(∀ L (ml:List Nat) H',H L=none->Am H H'->H' L=some (.lst (nV ml))->(∀ b,b∈ml ↔ Ri kbs D b)->ml.length<=200->Q (.ref L) H')->gk C vs H Q b9
theorem wO:Av AR AR (Ae rT):=Bh
include N T in
theorem qC:Ao P w K mg base Bb 3 aD.fMu aD.dMu AR (gk C):=by
 refine N.FMu.1.DX wO λH vs Q E d h=>?_
 obtain⟨x,c,sz,a,D,rfl,O,Z,q⟩:=h
 refine⟨_,(Ah (Ax (Bq rfl (Bf (osc:=Ae rT) (N:=AR) rfl rfl (by decide)) (Bx (zC (Xz N T) d rfl N.FDc (Aa (pv 0) (Aa (pv 1) (Aa BP Ab))))) (λ_ _ _ _=>Cq) (λ_ _ _ _=>(Bp (pv 1) T.cl N.FOm.2.2 (qg N T) (ad d) N.FOm.2.1 .nil Aq (Aa (pv 0) Ab)))))),?_⟩
 refine⟨_,rfl,_,rfl,x,Bg c sz,Bu c a,"mute",D,rfl,O,λG n H1 Zs u s f C6=>?_⟩
 have m:Dg K H1 G (nV n):=.inl (.inl s)
 have B:=O.mono u
 let g:V->V:=λv=>match v with | .int k=>.int (JW a k.toNat:Nat) | _=>.non
 refine⟨G,rfl,⟨_,m⟩,C_ (K:=K) (xs:=nV n) (λ_=>true) g m (BJ (by rw[af];omega)) (λy F j t R k=>k j (Am.refl j)) (λy F _ j t R k=>?_) (λI X U W A=>?_)⟩
 ·obtain⟨i,hi,rfl⟩:=ar.mp F
  obtain⟨r,d,o,p⟩:=(f i).mp hi
  obtain⟨S,Y⟩:=Sy d
  rw[Y] at d
  obtain⟨z,l,_⟩:=Gz d
  have L:=Xx Z l
  obtain⟨⟨dx,fs,bl,bn,kp,kr,i5,lh,l8,J,h1,l1,l2,l3,l4,M,_⟩,_⟩:=id (B.mono t)
  have kk:=k j (Am.refl j)
  refine⟨_,rfl,x,dx,fs,rfl,h1,M _ (by decide),_,rfl,x,Bg c sz,Bu c a,i,JW a i,(c (JW a i),sz[JW a i]),_,_,S,rfl,B.mono t,d,GJ (ae L),kk⟩
 ·rw[bg.mpr (λ_ _=>rfl)] at A
  have e:(nV n).map g=nV (n.map (JW a)):=by
   unfold nV
   rw[ax,ax]
   rfl
  rw[e] at A
  refine q I _ X (u.free U) (u.trans W) A (λb=>?_) (by rw[af];exact C6)
  rw[ar]
  constructor
  ·rintro⟨k,hk,rfl⟩
   obtain⟨r,d,o,p⟩:=(f k).mp hk
   obtain⟨z,l,rfl⟩:=Gz d
   exact⟨k,z,l,(J_ _ _ _).symm.trans o,p,rfl⟩
  ·rintro⟨k,z,l,o,p,rfl⟩
   exact⟨k,(f k).mpr ⟨_,Ft l,(J_ _ _ _).trans o,p⟩,rfl⟩
inductive ji (sz:List Nat) (i b:Nat):Prop
 | mk (n:_):n<sz.getD b 0->b<sz.length->i=(sz.take b).sum+n->ji sz i b
theorem WW {c:Nat->Str} {sz:List Nat} {a:Nat} (h:(Fi (Bg c sz))[i]? = some (a,n)):ji sz i a:=by
 obtain⟨b,g,f,d⟩:=Tu h
 obtain⟨z,e,rfl⟩:=UJ g
 rw[DW] at d
 refine⟨n,?_,(ag.mp e).1,d⟩
 rw[cc,e]
 exact f
theorem Vx {sz:List Nat} {a b:Nat} (g:ji sz i a) (k:ji sz i b):a=b:=by
 obtain⟨n,d,f,rfl⟩:=g
 obtain⟨m,l,j,e⟩:=k
 have c:∀ {a b n m:Nat},a<b->b<sz.length->n<sz.getD a 0->(sz.take a).sum+n ≠ (sz.take b).sum+m:=λ{a b n m} o j d e=>by
  have g:(sz.take (a+1)).sum<=(sz.take b).sum:=Ov sz (by omega)
  have f:a<sz.length:=by omega
  rw[cr,ae f,fE] at g
  rw[cc,ae f] at d
  have p:n<sz[a]:=d
  simp at g
  omega
 rcases Nat.lt_trichotomy a b with h | h | h
 ·exact absurd e (c h j d)
 ·exact h
 ·exact absurd e.symm (c h f l)
inductive gn (C:Addr) (vs:List V) (H:Hp) (Q:VK) (b9:XK):Prop
 | mk (x:Addr) (c:Nat->Str) (sz:List Nat) (kbs:List Kb) (D n:Nat):vs=[.ref x,.int (D:Nat),.int (n:Nat)]->Ds C H x (Bg c sz) (Bu c kbs)->R7 sz.length kbs->n<2 ^ 1200->(∀ i,n.testBit i=true->i<sz.sum)->sz.sum<=305->(∀ (m:Nat) H',Am H H'->(∀ j,m.testBit j=true ↔ n.testBit j=true/\∀ b,ji sz j b->¬ Ri kbs D b)->Q (.int (m:Nat)) H')->gn C vs H Q b9
theorem mW:Av ["organ","knobs","keys","muted"] uC (Ae rO):=Bh
include N T in
theorem pI:Ao P w K mg base Bb 4 aD.fUk aD.dUk uC (gn C):=by
 refine N.FUk.1.DX mW λH vs Q E B h=>?_
 obtain⟨x,c,sz,u,D,n,rfl,O,oo,hn,L,k6,q⟩:=h
 refine⟨_,(Af (Ba (i:=3) mW.nd rfl (Or.inr rfl) (zC (qC N T) B rfl N.FMu (Aa (pv 0) (Aa (pv 1) Ab))))
  (Ah (Ax (zC (M5 N T) B rfl N.FSt (Aa (Bq rfl (Bf (osc:=Ae rO) (N:=["organ","knobs","keys","muted"]) rfl rfl (by decide)) (Bx (zC (QJ N T) B rfl N.FMe (Aa (pv 2) Ab))) (λ_ _ _ _=>(G6 (BL (Mw (K:=K) rfl) (Ay (An (K:=K) rfl) (Bp (pv 1) T.cl N.FOo.2.2 (Xj N T) (ad B) N.FOo.2.1 .nil Aq (Aa (pv 0) Ab)) Ac (λ_ _=>rfl)) (pv 4) rfl))) (λ_ _ _ _=>(pv 0))) Ab))))),?_⟩
 refine⟨_,rfl,_,rfl,x,c,sz,u,D,rfl,O,oo,λML f H1 ID s1 G X Z=>?_⟩
 refine⟨_,rfl,n,rfl,hn,λP1 H2 SF S kX=>?_⟩
 have t:Dg K H2 P1 (nV (Wd.mem n)):=.inl (.inl kX)
 have O2:=O.mono (s1.trans S)
 have ab:=Wd.K6 hn
 have Y:(Wd.mem n).length<=305:=by
  have nd:(Wd.mem n).Nodup:=by unfold Wd.mem;exact List.Pairwise.filter _ List.nodup_range
  refine ba (Fq sz.sum nd λi g=>L i (Wd.mem_iff.mp g)) k6
 have e:∀ {i},i∈Wd.mem n->∃ a m,(Fi (Bg c sz))[i]? = some (a,m):=λ{i} g=>by
  have J:i<(Fi (Bg c sz)).length:=by rw[FN,DW];exact L i (Wd.mem_iff.mp g)
  exact⟨_,_,ae J⟩
 let p:V->Bool:=λv=>match v with | .int i=>(match (Fi (Bg c sz))[i.toNat]? with | some (a,_)=>!decide (a∈f) | none=>true) | _=>true
 refine⟨P1,rfl,⟨_,t⟩,C_ (K:=K) (xs:=nV (Wd.mem n)) p id t (BJ (by rw[af];omega)) (λy hy o F R k=>?_) (λy hy _ o F R k=>⟨_,rfl,k o (Am.refl o)⟩) (λD3 H3 DC s3 I=>?_)⟩
 ·obtain⟨i,g,rfl⟩:=ar.mp hy
  obtain⟨a,m,d⟩:=e g
  have r:p (V.int (i:Nat)) = !decide (a∈f):=by
   show (match (Fi (Bg c sz))[((i:Nat):Int).toNat]? with | some (a,_)=>!decide (a∈f) | none=>true)=_
   rw[bb,d]
  have kk:=k o (Am.refl o)
  rw[r] at kk
  obtain⟨⟨dx,fs,bl,bn,kp,kr,i5,lh,l8,ac,l,l1,l2,l3,l4,lm,_⟩,_⟩:=id (O2.mono F)
  refine⟨_,rfl,x,dx,fs,rfl,l,lm _ (by decide),_,rfl,x,Bg c sz,Bu c u,i,(a,m),rfl,O2.mono F,d,λyv U=>?_⟩
  obtain⟨T0,rfl,hT⟩:=U
  refine⟨T0,_,_,_,rfl,rfl,kK hT,Ag (j:=0) rfl,_,rfl,ML,_,rfl,.inl (kK (F _ _ (S _ _ G))),rfl,Wk f,_,rfl,?_⟩
  have W:inV (V.int (a:Nat)) (nV f)=decide (a∈f):=aJ a f
  rw[W]
  exact kk
 ·rw[iO] at I
  have e3:(nV (Wd.mem n)).filter p=nV ((Wd.mem n).filter λi=>p (.int (i:Nat))):=by
   unfold nV
   rw[eR]
   rfl
  rw[e3] at I
  have s:∀ i∈(Wd.mem n).filter (λi=>p (.int (i:Nat))),i<sz.sum:=λi g=>L i (Wd.mem_iff.mp (aS.mp g).1)
  refine⟨D3,_,rfl,I,ba (bE _ _) (by omega),λi g=>by have:=s i g;omega,λH4 s4=>?_⟩
  refine q _ H4 (s1.trans (S.trans (s3.trans s4))) λj=>?_
  rw[Wd.Hr,decide_eq_true_eq,aS,Wd.mem_iff]
  constructor
  ·rintro⟨l,A⟩
   refine⟨l,λb hb hm=>?_⟩
   obtain⟨a,m,d⟩:=e (Wd.mem_iff.mpr l)
   have r:p (V.int (j:Nat)) = !decide (a∈f):=by
    show (match (Fi (Bg c sz))[((j:Nat):Int).toNat]? with | some (a,_)=>!decide (a∈f) | none=>true)=_
    rw[bb,d]
   rw[r] at A
   have M:=Vx hb (WW d)
   subst M
   rw[decide_eq_true ((X b).mpr hm)] at A
   cases A
  ·rintro⟨l,A⟩
   refine⟨l,?_⟩
   obtain⟨a,m,d⟩:=e (Wd.mem_iff.mpr l)
   have r:p (V.int (j:Nat)) = !decide (a∈f):=by
    show (match (Fi (Bg c sz))[((j:Nat):Int).toNat]? with | some (a,_)=>!decide (a∈f) | none=>true)=_
    rw[bb,d]
   rw[r,decide_eq_false λz=>A a (WW d) ((X a).mp z)]
   rfl
def Qm (c:Nat->Str) (sz:List Nat) (kbs:List Kb) (D n j:Nat):Prop:=PK (stp (Bg c sz) kbs D) (λi=>n.testBit i=true) j \/ (n.testBit j=true/\∀ b,ji sz j b->¬ Ri kbs D b)
inductive eO (C:Addr) (vs:List V) (H:Hp) (Q:VK) (b9:XK):Prop
 | mk (x:Addr) (c:Nat->Str) (sz:List Nat) (kbs:List Kb) (D n:Nat):vs=[.ref x,.int (D:Nat),.int (n:Nat)]->Ds C H x (Bg c sz) (Bu c kbs)->R7 sz.length kbs->n<2 ^ 1200->(∀ i,n.testBit i=true->i<sz.sum)->(∀ (m:Nat) H',Am H H'->(∀ j,m.testBit j=true ↔ Qm c sz kbs D n j)->Q (.int (m:Nat)) H')->eO C vs H Q b9
theorem yO:Av tf tf (Ae xJ):=Bh
include N T in
theorem qD:Ao P w K mg base Bb 6 aD.fSk aD.dSk tf (eO C):=by
 refine N.FSk.1.DX yO λH u Q E f h=>?_
 obtain⟨x,c,sz,b,D,n,rfl,O,l,d,g,q⟩:=h
 refine⟨_,(Ah (Ax (BX M3 (zC (qQ N T) f rfl N.FCq (Aa (pv 0) (Aa (pv 1) (Aa (pv 2) Ab)))) (zC (pI N T) f rfl N.FUk (Aa (pv 0) (Aa (pv 1) (Aa (zC (bJ N T) f rfl N.FHk (Aa (pv 0) (Aa (pv 2) Ab))) Ab))))))),?_⟩
 have a:((Bg c sz).map (·.2)).sum=sz.sum:=by rw[DW]
 have k:=Fj O
 rw[a] at k
 refine⟨_,rfl,_,rfl,_,rfl,x,c,sz,b,D,n,rfl,O,l,d,g,λm t e r=>?_⟩
 refine⟨_,rfl,_,rfl,_,rfl,_,rfl,x,Bg c sz,Bu c b,n,rfl,O.mono e,d,?_⟩
 rw[a,Rr g]
 refine⟨x,c,sz,b,D,n,rfl,O.mono e,l,d,g,k,λo i s p=>?_⟩
 refine⟨_,_,rfl,rfl,?_⟩
 show Q (.int (Builtin.bitOr (m:Int) (o:Int))) i
 rw[Ik]
 refine q (m ||| o) i (e.trans s) λj=>?_
 rw[Wh,r,p]
 rfl
def Ze (sz:List Nat) (b n:Nat):Nat:=Wd.mv n (-((sz.take b).sum:Int)) (sz.getD b 0)
theorem Xl (n:Nat) (k:Int) (c:Nat):Wd.mv n k c<2 ^ c:=by
 unfold Wd.mv
 exact Nat.mod_lt _ (Nat.two_pow_pos _)
inductive iM (C:Addr) (vs:List V) (H:Hp) (Q:VK) (b9:XK):Prop
 | mk (x:Addr) (c:Nat->Str) (sz:List Nat) (ks:List R) (b n:Nat):vs=[.ref x,.int (b:Nat),.int (n:Nat)]->Ds C H x (Bg c sz) ks->b<sz.length->n<2 ^ 1200->(∀ H',Am H H'->Q (.int (Ze sz b n:Nat)) H')->iM C vs H Q b9
theorem oK:Av ["organ","board","keys","told"] CL (Ae yW):=Bh
include N T in
theorem pW:Ao P w K mg base Bb 3 aD.fNb aD.dNb CL (iM C):=by
 refine N.FNb.1.DX oK λH vs Q E r h=>?_
 obtain⟨x,c,sz,k,b,n,rfl,O,v,B,q⟩:=h
 refine⟨_,(Af (Ba (i:=3) oK.nd rfl (Or.inl rfl) (Ay (Bm (K:=K) rfl) (Bo (pv 0) T.cl N.FOb.2.2 (R8 N T) (ad r) N.FOb.2.1 .nil Aq) (pv 1) (λ_ _=>rfl)))
  (Ah (Ax (zC (XF N T) r rfl N.FSh (Aa (pv 2) (Aa (Ji LQ (Bp (pv 0) T.cl N.FOk.2.2 (R1 N T) (ad r) N.FOk.2.1 .nil Aq (Aa (Ay (An (K:=K) rfl) (pv 3) Ac (λ_ _=>rfl)) (Aa Ac Ab)))) (Aa (Ay (An (K:=K) rfl) (pv 3) Ac (λ_ _=>rfl)) Ab))))))),?_⟩
 have M:=Fj O
 rw[DW] at M
 have I:(sz.take b).sum<=sz.sum:=by
  have:=congrArg List.sum (gi b sz)
  rw[fE] at this
  omega
 have e:(Bg c sz)[b]? = some (c b,sz[b]):=GJ (ae v)
 have s:=O.sz (c b,sz[b]) (ai e)
 have y:sz[b]<=61:=s
 have a:(((Bg c sz).take b).map (·.2)).sum=(sz.take b).sum:=by rw[hU,DW]
 have t:sz.getD b 0=sz[b]:=by rw[cc,ae v];rfl
 have d:∀ {u:Hp},Ds C u x (Bg c sz) k->∃ f fs,u x=some (.ins C f fs)/\∀ m∈meths,fs.lookup m=none:=λG=>by
  obtain⟨⟨f,fs,_,_,_,_,_,_,_,_,W,_,_,_,_,g,_⟩,_⟩:=G
  exact⟨f,fs,W,g⟩
 obtain⟨f,fs,R,g⟩:=d O
 refine⟨_,rfl,x,f,fs,rfl,R,g _ (by decide),x,Bg c sz,k,rfl,O,λD L H2 Z l S p=>?_⟩
 obtain⟨Y,F,T3,rfl,A⟩:=CN p e
 refine⟨_,rfl,D,L,_,_,rfl,rfl,kK S,Ag F,?_⟩
 obtain⟨J,o,X,V⟩:=d (O.mono l)
 refine⟨_,rfl,_,rfl,x,J,o,rfl,X,V _ (by decide),_,rfl,T3,_,_,_,rfl,rfl,kK A,Ag (j:=0) rfl,x,Bg c sz,k,b,(c b,sz[b]),0,rfl,O.mono l,e,λU z=>?_⟩
 refine⟨_,rfl,_,rfl,T3,_,_,_,rfl,rfl,kK (z _ _ A),Ag (j:=1) rfl,n,_,sz[b],rfl,B,?_,?_,by omega,?_⟩
 ·rw[a]
  omega
 ·rw[a]
  omega
 ·have fin:=q U (l.trans z)
  unfold Ze at fin
  rw[t] at fin
  rw[a,Int.add_zero]
  exact fin
def jD (rk:List (Str × Nat × Int)) (r:Nat):Nat:=((rk.take r).map (λr=>r.2.1)).sum
def Qp (rk:List (Str × Nat × Int)) (r:Nat):Nat:=(rk.map (λr=>r.2.1)).getD r 0
def Yd (rk:List (Str × Nat × Int)):Nat:=(rk.map (λr=>r.2.1)).sum
structure jf (rk:List (Str × Nat × Int)) (l:Ln):Prop where
 r:l.r<rk.length
 lo:0<=l.lo
 le:l.lo<=l.hi
 hi:l.hi<=60
 s1 : -200<=l.sh
 s2:l.sh<=200
def PX (rk:List (Str × Nat × Int)) (l:Ln) (n:Nat):Nat:=Wd.mv (Wd.mv (Wd.mv n (-l.lo) (l.hi - l.lo+1).toNat) (l.lo+l.sh) (Qp rk l.r)) (jD rk l.r:Nat) (Yd rk)
theorem Q7 {rk:List (Str × Nat × Int)} {r:Nat} (h:r<rk.length):jD rk r+Qp rk r<=Yd rk:=by
 unfold jD Qp Yd
 have e:((rk.map (λr=>r.2.1)).take (r+1)).sum=((rk.take r).map (λr=>r.2.1)).sum+(rk.map (λr=>r.2.1)).getD r 0:=by
  rw[cr,ae (by rw[af];exact h),fE,hU,cc,ae (by rw[af];exact h)]
  simp
 have:=congrArg List.sum (gi (r+1) (rk.map (λr=>r.2.1)))
 rw[fE] at this
 omega
theorem eZ {rk:List (Str × Nat × Int)} (c:rk.length<=12) (a:∀ r∈rk,r.2.1<=97):Yd rk<=1164:=by
 have h:=O3 (rk.map jU) 97 λb d=>by
  obtain⟨r,f,rfl⟩:=ar.mp d
  exact a r f
 rw[FN,ax,af] at h
 have:rk.length * 97<=12 * 97:=jv _ c
 have e:Yd rk=(rk.map ((·.2) ∘ jU)).sum:=rfl
 omega
inductive iz (C:Addr) (vs:List V) (H:Hp) (Q:VK) (b9:XK):Prop
 | mk (x:Addr) (bs:List (Str × Nat)) (rk:List (Str × Nat × Int)) (ks:List R) (ls:List (List Ln:_)) (y:V) (l:Ln) (n:Nat):vs=[.ref x,y,.int (n:Nat)]->En C H x bs rk ks ls->TupAt H (Z8 l) y->jf rk l->n<2 ^ 1200->(∀ H',Am H H'->Q (.int (PX rk l n:Nat)) H')->iz C vs H Q b9
theorem Yt:Av ["organ","line","numbers","rank","from_low","on_rank"] B6 (Ae tH):=Bh
include N T in
theorem lL:Ao P w K mg base Bb 3 aD.fLl aD.dLl B6 (iz C):=by
 refine N.FLl.1.DX Yt λH vs Q E c h=>?_
 obtain⟨x,bs,rk,t,s,y,l,n,rfl,O,hy,b,hn,q⟩:=h
 refine⟨_,(Af (Ba (i:=3) Yt.nd rfl (Or.inl rfl) (Ay (Bm (K:=K) rfl) (Bo (pv 0) T.cl N.FOr.2.2 (qm N T) (ad c) N.FOr.2.1 .nil Aq) (Ay (An (K:=K) rfl) (pv 1) Ac (λ_ _=>rfl)) (λ_ _=>rfl)))
  (Af (Ba (i:=4) Yt.nd rfl (Or.inl rfl) (zC (XF N T) c rfl N.FSh (Aa (pv 2) (Aa (Ji LQ (Ay (An (K:=K) rfl) (pv 1) Ac (λ_ _=>rfl))) (Aa (BX Br (BX Fz (Ay (An (K:=K) rfl) (pv 1) Ac (λ_ _=>rfl)) (Ay (An (K:=K) rfl) (pv 1) Ac (λ_ _=>rfl))) Ac) Ab)))))
  (Af (Ba (i:=5) Yt.nd rfl (Or.inl rfl) (zC (XF N T) c rfl N.FSh (Aa (pv 4) (Aa (BX Br (Ay (An (K:=K) rfl) (pv 1) Ac (λ_ _=>rfl)) (Ay (An (K:=K) rfl) (pv 1) Ac (λ_ _=>rfl))) (Aa (Ay (An (K:=K) rfl) (pv 3) Ac (λ_ _=>rfl)) Ab)))))
  (Ah (Ax (zC (XF N T) c rfl N.FSh (Aa (pv 5) (Aa (Bp (pv 0) T.cl N.FOe.2.2 (oR N T) (ad c) N.FOe.2.1 .nil Aq (Aa (Ay (An (K:=K) rfl) (pv 3) Ac (λ_ _=>rfl)) (Aa Ac Ab))) (Aa (Bo (pv 0) T.cl N.FOq.2.2 (qY N T) (ad c) N.FOq.2.1 .nil Aq) Ab))))))))),?_⟩
 obtain⟨f,rfl,hT⟩:=hy
 have ab:=eZ O.nr O.nz
 have k:l.r<rk.length:=b.r
 have ac:=Q7 k
 have v:=ae k
 have Z:rk[l.r].2.1<=97:=O.nz _ (dL b.r)
 have L:Qp rk l.r=rk[l.r].2.1:=by
  unfold Qp
  rw[cc,al,v]
  rfl
 have p:(Fi (rk.map jU)).length=Yd rk:=by
  rw[FN,ax]
  rfl
 have W:=b.lo
 have h2:=b.le
 have h3:=b.hi
 have h4:=b.s1
 have h5:=b.s2
 have a:∀ {R:Hp},En C R x bs rk t s->∃ o fs,R x=some (.ins C o fs)/\∀ m∈meths,fs.lookup m=none:=λO'=>by
  obtain⟨⟨o,fs,_,_,_,_,_,_,_,_,W,_,_,_,_,I,_⟩,_⟩:=O'.o
  exact⟨o,fs,W,I⟩
 obtain⟨o,fs,hx,I⟩:=a O
 refine⟨_,rfl,x,o,fs,rfl,hx,I _ (by decide),x,bs,rk,t,s,rfl,O,λD kU H2 hD d kX z=>?_⟩
 have e:=d _ _ hT
 have g:(rk.map X6)[l.r]? = some (X6 rk[l.r]):=by rw[al,v];rfl
 obtain⟨v3,Y,T3,rfl,U⟩:=CN z g
 refine⟨_,rfl,f,_,_,_,rfl,rfl,kK e,Ag (j:=0) rfl,D,kU,_,_,rfl,rfl,kK kX,Ag Y,?_⟩
 have e1:l.hi - l.lo+1=(((l.hi - l.lo+1).toNat:Nat):Int):=by omega
 refine⟨_,rfl,_,rfl,f,_,_,_,rfl,rfl,kK e,Ag (j:=2) rfl,_,rfl,_,rfl,f,_,_,_,rfl,rfl,kK e,Ag (j:=3) rfl,_,rfl,f,_,_,_,rfl,rfl,kK e,Ag (j:=2) rfl,_,_,rfl,rfl,_,_,rfl,rfl,n,-l.lo,(l.hi - l.lo+1).toNat,(by rw[<-e1] <;> rfl),hn,by omega,by omega,by omega,?_⟩
 have V:=Xl n (-l.lo) (l.hi - l.lo+1).toNat
 generalize J:Wd.mv n (-l.lo) (l.hi - l.lo+1).toNat=u at V |-
 have G:u<2 ^ 1200:=bi V (jI (by decide) (by omega))
 refine⟨_,rfl,_,rfl,f,_,_,_,rfl,rfl,kK e,Ag (j:=2) rfl,_,rfl,f,_,_,_,rfl,rfl,kK e,Ag (j:=1) rfl,_,_,rfl,rfl,_,rfl,T3,_,_,_,rfl,rfl,kK U,Ag (j:=1) rfl,u,l.lo+l.sh,rk[l.r].2.1,rfl,G,by omega,by omega,by omega,?_⟩
 have X:=Xl u (l.lo+l.sh) rk[l.r].2.1
 generalize A:Wd.mv u (l.lo+l.sh) rk[l.r].2.1=S at X |-
 have B:S<2 ^ 1200:=bi X (jI (by decide) (by omega))
 obtain⟨GT,M,qh,GL⟩:=a (O.mono d)
 refine⟨_,rfl,_,rfl,x,GT,M,rfl,qh,GL _ (by decide),_,rfl,T3,_,_,_,rfl,rfl,kK U,Ag (j:=0) rfl,x,bs,rk,t,s,l.r,rk[l.r],0,rfl,O.mono d,v,λH3 F=>?_⟩
 obtain⟨K',Ee,Kk,A4⟩:=a ((O.mono d).mono F)
 refine⟨_,rfl,x,K',Ee,rfl,Kk,A4 _ (by decide),x,bs,rk,t,s,rfl,(O.mono d).mono F,S,_,(Fi (rk.map jU)).length,rfl,B,?_,?_,?_,?_⟩
 ·omega
 ·have:((rk.take l.r).map (λr=>r.2.1)).sum=jD rk l.r:=rfl
  omega
 ·omega
 ·have fin:=q H3 (d.trans F)
  unfold PX at fin
  rw[J,L,A] at fin
  rw[p,Int.add_zero]
  exact fin
def sU (H:Hp):V->Ln
 | .ref T=>match H T with
  | some (.tup [.int r,.int sh,.int lo,.int hi])=>⟨r.toNat,sh,lo,hi⟩
  | _=>⟨0,0,0,0⟩
 | _=>⟨0,0,0,0⟩
theorem YD {l:Ln} {v:V} (h:TupAt H (Z8 l) v):sU H v=l:=by
 obtain⟨T,rfl,e⟩:=h
 show (match H T with | some (.tup [.int r,.int sh,.int lo,.int hi])=>(⟨r.toNat,sh,lo,hi⟩:Ln) | _=>⟨0,0,0,0⟩)=l
 rw[e]
 show (⟨((l.r:Nat):Int).toNat,l.sh,l.lo,l.hi⟩:Ln)=l
 rw[bb]
theorem Z_ {l:List Ln} (h:Paired (λx y=>TupAt H (Z8 x) y) l vs):vs.map (sU H)=l:=by
 induction h with
 | nil=>rfl
 | cons x y a=>rw[cw,a,YD x]
def cu (sz:List Nat) (rk:List (Str × Nat × Int)) (b:Nat) (l:List Ln) (n:Nat):Nat:=Pz (l.map λln=>PX rk ln (Ze sz b n))
inductive gH (C:Addr) (vs:List V) (H:Hp) (Q:VK) (b9:XK):Prop
 | mk (x:Addr) (c:Nat->Str) (sz:List Nat) (rk:List (Str × Nat × Int)) (kbs:List Kb) (ls:List (List Ln:_)) (k n:Nat) (z:Kb) (l:List Ln):vs=[.ref x,.int (k:Nat),.int (n:Nat)]->En C H x (Bg c sz) rk (Bu c kbs) ls->R7 sz.length kbs->kbs[k]? = some z->ls[k]? = some l->l.length<=100->(∀ ln∈l,jf rk ln)->n<2 ^ 1200->(∀ H',Am H H'->Q (.int (cu sz rk (JW kbs k) l n:Nat)) H')->gH C vs H Q b9
theorem fH:Av BT DE (Ae rD):=Bh
include N T in
theorem jr:Ao P w K mg base Bb 4 aD.fBs aD.dBs DE (gH C):=by
 refine N.FBs.1.DX fH λH vs Q E b h=>?_
 obtain⟨x,c,sz,rk,a,u,k,n,z,l,rfl,O,oo,W,hl,Y1,hg,hn,q⟩:=h
 refine⟨_,(Af (Ba (i:=3) fH.nd rfl (Or.inl rfl) (Bp (pv 0) T.cl N.FOs.2.2 (kj N T) (ad b) N.FOs.2.1 .nil Aq (Aa (pv 1) Ab)))
  (Af (Ba (i:=4) fH.nd rfl (Or.inr rfl) (zC (pW N T) b rfl N.FNb (Aa (pv 0) (Aa (Ay (An (K:=K) rfl) (pv 3) Ac (λ_ _=>rfl)) (Aa (pv 2) Ab)))))
  (Ah (Ax (zC (V7 N T) b rfl N.FUn (Aa (Bq rfl (Bf (osc:=Ae rD) (N:=BT) rfl rfl (by decide)) (Bx (Ay (An (K:=K) rfl) (pv 3) Ac (λ_ _=>rfl))) (λ_ _ _ _=>Cq) (λ_ _ _ _=>(zC (lL N T) b rfl N.FLl (Aa (pv 1) (Aa (pv 0) (Aa (pv 5) Ab)))))) Ab)))))),?_⟩
 have b:=Ft (c:=c) W
 obtain⟨rs,er⟩:=Sy b
 rw[er] at b
 have A:=Xx oo W
 have r:(Bg c sz)[JW a k]? = some (c (JW a k),sz[JW a k]):=GJ (ae A)
 have o:∀ {d:Hp},En C d x (Bg c sz) rk (Bu c a) u->∃ s fs,d x=some (.ins C s fs)/\∀ m∈meths,fs.lookup m=none:=λO'=>by
  obtain⟨⟨s,fs,_,_,_,_,_,_,_,_,h1,_,_,_,_,D,_⟩,_⟩:=O'.o
  exact⟨s,fs,h1,D⟩
 obtain⟨s,fs,hx,D⟩:=o O
 refine⟨_,rfl,x,s,fs,rfl,hx,D _ (by decide),_,rfl,x,Bg c sz,rk,Bu c a,u,k,JW a k,(c (JW a k),sz[JW a k]),_,_,rs,l,rfl,O,b,r,hl,λZ L0 M H1 _ s1 sP S DU=>?_⟩
 have U:=O.mono s1
 refine⟨_,rfl,_,rfl,Z,_,_,_,rfl,rfl,kK sP,Ag (j:=0) rfl,_,rfl,x,c,sz,Bu c a,JW a k,n,rfl,U.o,A,hn,λI g=>?_⟩
 have O2:=U.mono g
 have L:=Xl n (-((sz.take (JW a k)).sum:Int)) (sz.getD (JW a k) 0)
 have ac:sz.getD (JW a k) 0<=61:=by
  rw[cc,ae A]
  exact O.o.sz _ (ai r)
 have p:Ze sz (JW a k) n<2 ^ 1200:=bi L (jI (by decide) (by omega))
 have J:=g _ _ S
 have G:=Ar g DU
 have ab:=G.length
 have f:Dg K I L0 M:=.inl (.inl J)
 refine⟨_,rfl,Z,_,_,_,rfl,rfl,kK (g _ _ sP),Ag (j:=1) rfl,L0,rfl,⟨_,f⟩,C_ (K:=K) (xs:=M) (λ_=>true) (λv=>.int (PX rk (sU I v) (Ze sz (JW a k) n):Nat)) f (BJ (by omega)) (λy X d B R k=>k d (Am.refl d)) (λy X _ d B R k'=>?_) (λD3 H3 DC s3 F=>?_)⟩
 ·obtain⟨t,tq,Y⟩:=De G X
  have e:=YD Y
  rw[e] at k'
  exact⟨_,rfl,_,rfl,_,rfl,x,Bg c sz,rk,Bu c a,u,y,t,_,rfl,O2.mono B,Y.mono B,hg t tq,p,λH4 s4=>k' H4 s4⟩
 ·rw[bg.mpr (λ_ _=>rfl)] at F
  have e3:(M.map λv=>V.int (PX rk (sU I v) (Ze sz (JW a k) n):Nat))=nV (l.map λt=>PX rk t (Ze sz (JW a k) n)):=by
   rw[<-Z_ G]
   unfold nV
   rw[ax,ax]
   rfl
  rw[e3] at F
  exact⟨D3,_,rfl,F,(by rw[af];omega),q H3 (s1.trans (g.trans s3))⟩
def dZ (sz:List Nat) (rk:List (Str × Nat × Int)) (kbs:List Kb) (ls:List (List Ln)) (cl:List Nat) (n:Nat):Nat:=Pz (cl.map λk=>cu sz rk (JW kbs k) (ls.getD k []) n)
abbrev gO (rk:List (Str × Nat × Int)) (ls:List (List Ln)):Prop:=∀ l∈ls,l.length<=100/\∀ ln∈l,jf rk ln
inductive dD (C:Addr) (vs:List V) (H:Hp) (Q:VK) (b9:XK):Prop
 | mk (x:Addr) (c:Nat->Str) (sz:List Nat) (rk:List (Str × Nat × Int)) (kbs:List Kb) (ls:List (List Ln:_)) (D n:Nat):vs=[.ref x,.int (D:Nat),.int (n:Nat)]->En C H x (Bg c sz) rk (Bu c kbs) ls->R7 sz.length kbs->gO rk ls->n<2 ^ 1200->(∀ (cl:List Nat) H',Am H H'->(∀ k,k∈cl ↔ ∃ z,kbs[k]? = some z/\z.w = "stop" /\ D.testBit k=true)->Q (.int (dZ sz rk kbs ls cl n:Nat)) H')->dD C vs H Q b9
theorem vA:Av uC uC (Ae sS):=Bh
include N T in
theorem nq:Ao P w K mg base Bb 5 aD.fBa aD.dBa uC (dD C):=by
 refine N.FBa.1.DX vA λH vs Q E m h=>?_
 obtain⟨x,c,sz,rk,a,b,D,n,rfl,O,oo,sR,X,q⟩:=h
 refine⟨_,(Ah (Ax (zC (V7 N T) m rfl N.FUn (Aa (Bq rfl (Bf (osc:=Ae sS) (N:=uC) rfl rfl (by decide)) (Bx (zC (Xz N T) m rfl N.FDc (Aa (pv 0) (Aa (pv 1) (Aa BP Ab))))) (λ_ _ _ _=>Cq) (λ_ _ _ _=>(zC (jr N T) m rfl N.FBs (Aa (pv 1) (Aa (pv 0) (Aa (pv 3) Ab)))))) Ab)))),?_⟩
 refine⟨_,rfl,_,rfl,x,Bg c sz,Bu c a,"stop",D,rfl,O.o,λL f H1 Zs M u AT C6=>?_⟩
 have l:∀ k,k∈f ↔ ∃ z,a[k]? = some z/\z.w = "stop" /\ D.testBit k=true:=λk=>by
  rw[AT]
  constructor
  ·rintro⟨r,m,p,s⟩
   obtain⟨z,d,rfl⟩:=Gz m
   exact⟨z,d,(J_ _ _ _).symm.trans p,s⟩
  ·rintro⟨z,d,p,s⟩
   exact⟨_,Ft d,(J_ _ _ _).trans p,s⟩
 have o:Dg K H1 L (nV f):=.inl (.inl u)
 have Y:=O.mono M
 let g:V->V:=λv=>match v with | .int k=>.int (cu sz rk (JW a k.toNat) (b.getD k.toNat []) n:Nat) | _=>.non
 refine⟨L,rfl,⟨_,o⟩,C_ (K:=K) (xs:=nV f) (λ_=>true) g o (BJ (by rw[af];omega)) (λy G t F R k=>k t (Am.refl t)) (λy G _ t F R k=>?_) (λW H2 sf s2 A=>?_)⟩
 ·obtain⟨i,hi,rfl⟩:=ar.mp G
  obtain⟨z,d,p,s⟩:=(l i).mp hi
  have j:i<b.length:=by
   rw[O.nl,QS]
   exact (ag.mp d).1
  have J:=ae j
  have B:b.getD i []=b[i]:=by rw[cc,J];rfl
  have S:=sR b[i] (dL j)
  refine⟨_,rfl,_,rfl,_,rfl,x,c,sz,rk,a,b,i,n,z,b[i],rfl,Y.mono F,oo,d,J,S.1,S.2,X,λI Z=>?_⟩
  have U:R (.int (cu sz rk (JW a i) (b.getD i []) n:Nat)) I:=k I Z
  rw[B] at U
  exact U
 ·rw[bg.mpr (λ_ _=>rfl)] at A
  have e:(nV f).map g=nV (f.map λk=>cu sz rk (JW a k) (b.getD k []) n):=by
   unfold nV
   rw[ax,ax]
   rfl
  rw[e] at A
  exact⟨W,_,rfl,A,(by rw[af];omega),q f H2 (M.trans s2) l⟩
inductive iW (C:Addr) (vs:List V) (H:Hp) (Q:VK) (b9:XK):Prop
 | mk (x:Addr) (c:Nat->Str) (sz:List Nat) (rk:List (Str × Nat × Int)) (kbs:List Kb) (ls:List (List Ln:_)) (D n:Nat):vs=[.ref x,.int (D:Nat),.int (n:Nat)]->En C H x (Bg c sz) rk (Bu c kbs) ls->R7 sz.length kbs->gO rk ls->n<2 ^ 1200->(∀ i,n.testBit i=true->i<sz.sum)->(∀ (cl:List Nat) (m:Nat) H',Am H H'->(∀ k,k∈cl ↔ ∃ z,kbs[k]? = some z/\z.w = "stop" /\ D.testBit k=true)->(∀ j,m.testBit j=true ↔ Qm c sz kbs D n j)->Q (.int (dZ sz rk kbs ls cl m:Nat)) H')->iW C vs H Q b9
theorem xW:Av tf tf (Ae uY):=Bh
include N T in
theorem qZ:Ao P w K mg base Bb 7 aD.fSo aD.dSo tf (iW C):=by
 refine N.FSo.1.DX xW λH y Q E j h=>?_
 obtain⟨x,c,sz,rk,b,o,D,n,rfl,O,f,s,l,k,q⟩:=h
 refine⟨_,(Ah (Ax (zC (nq N T) j rfl N.FBa (Aa (pv 0) (Aa (pv 1) (Aa (zC (qD N T) j rfl N.FSk (Aa (pv 0) (Aa (pv 1) (Aa (pv 2) Ab)))) Ab)))))),?_⟩
 have v:=Fj O.o
 rw[DW] at v
 refine⟨_,rfl,_,rfl,_,rfl,_,rfl,_,rfl,x,c,sz,b,D,n,rfl,O.o,f,l,k,λm A g e=>?_⟩
 have a:m<2 ^ 1200:=by
  refine ii m λi z=>?_
  rw[<-fo]
  intro p
  rcases (e i).mp p with h | h
  ·have:=h.lt
   rw[DW] at this
   omega
  ·have:=k i h.1
   omega
 exact⟨x,c,sz,rk,b,o,D,m,rfl,O.mono g,f,s,a,λr u t d=>q r m u (g.trans t) d e⟩
theorem Wt (sz:List Nat) (b n i:Nat):(Ze sz b n).testBit i=true ↔ i<sz.getD b 0/\n.testBit ((sz.take b).sum+i)=true:=by
 unfold Ze
 rw[Wd.La]
 have e:((i:Int) - -(((sz.take b).sum:Nat):Int)).toNat=(sz.take b).sum+i:=by omega
 rw[e,fk,fk,decide_eq_true_eq,decide_eq_true_eq]
 exact⟨λh=>⟨h.1,h.2.2⟩,λh=>⟨h.1,by omega,h.2⟩⟩
theorem Te {rk:List (Str × Nat × Int)} {l:Ln} (g:jf rk l) (n p:Nat):(PX rk l n).testBit p=true ↔ ∃ i:Nat,n.testBit i=true/\l.lo<=(i:Int)/\(i:Int)<=l.hi/\0<=(i:Int)+l.sh/\(i:Int)+l.sh<(Qp rk l.r:Nat)/\(p:Int)=(jD rk l.r:Nat)+((i:Int)+l.sh):=by
 have o:=g.lo
 have j:=g.le
 have r:=Q7 g.r
 unfold PX
 rw[Wd.La,Wd.La,Wd.La]
 simp only[Bool.and_eq_true,decide_eq_true_eq]
 constructor
 ·rintro⟨b,c,k,f,q,s,a⟩
  exact⟨_,a,by omega,by omega,by omega,by omega,by omega⟩
 ·rintro⟨i,a,b,c,m,h,e⟩
  have d:(((((((p:Int) - ((jD rk l.r:Nat):Int)).toNat:Nat):Int) - (l.lo+l.sh)).toNat:Nat):Int) - -l.lo=(i:Int):=by omega
  refine⟨by omega,by omega,by omega,by omega,by omega,by omega,?_⟩
  rw[d,bb]
  exact a
theorem jc {sz:List Nat} {rk:List (Str × Nat × Int)} {b:Nat} {l:List Ln} {p:Nat} (g:∀ ln∈l,jf rk ln):(cu sz rk b l n).testBit p=true ↔ ∃ ln∈l,∃ i:Nat,i<sz.getD b 0/\n.testBit ((sz.take b).sum+i)=true/\ln.lo<=(i:Int)/\(i:Int)<=ln.hi/\0<=(i:Int)+ln.sh/\(i:Int)+ln.sh<(Qp rk ln.r:Nat)/\(p:Int)=(jD rk ln.r:Nat)+((i:Int)+ln.sh):=by
 unfold cu
 rw[Tn]
 constructor
 ·rintro⟨m,d,c⟩
  obtain⟨ln,hl,rfl⟩:=ar.mp d
  obtain⟨i,a,r⟩:=(Te (g ln hl) _ _).mp c
  obtain⟨x,y⟩:=(Wt _ _ _ _).mp a
  exact⟨ln,hl,i,x,y,r⟩
 ·rintro⟨ln,hl,i,x,y,r⟩
  exact⟨_,aI hl,(Te (g ln hl) _ _).mpr ⟨i,(Wt _ _ _ _).mpr ⟨x,y⟩,r⟩⟩
theorem h_ {sz:List Nat} {rk:List (Str × Nat × Int)} {cl:List Nat} {p:Nat}:(dZ sz rk kbs ls cl n).testBit p=true ↔ ∃ k∈cl,(cu sz rk (JW kbs k) (ls.getD k []) n).testBit p=true:=by
 unfold dZ
 rw[Tn]
 constructor
 ·rintro⟨m,c,b⟩
  obtain⟨k,a,rfl⟩:=ar.mp c
  exact⟨k,a,b⟩
 ·rintro⟨k,a,b⟩
  exact⟨_,aI a,b⟩
inductive YQ (C:Addr) (vs:List V) (H:Hp) (Q:VK) (b9:XK):Prop
 | mk (x:Addr) (us:List V) (bs:List (Str × Nat)) (rk:List (Str × Nat × Int)) (ks:List R) (ls:List (List Ln:_)) (sts:List Nat):vs=[.ref x]->Iv C H x us bs rk ks ls sts->(∀ D H',H D=none->Am H H'->H' D=some (.lst (nV sts))->Q (.ref D) H')->YQ C vs H Q b9
theorem wg:Av sN sN (Ae xT):=Bh
include N T in
theorem V9:Ao P w K mg base Bb 1 aD.fOy aD.dOy sN (YQ C):=by
 refine N.FOy.1.DX wg λH s Q E n h=>?_
 obtain⟨x,k,bs,rk,v,i,c,rfl,O,q⟩:=h
 refine⟨_,(Ah (Ax (Dk Ep rfl T.list eI (Aa (Bc (pv 0) rfl) Ab)))),?_⟩
 obtain⟨_,e,fs,m,t,d,b,g,j,o,f,r,y,u,p,a,_⟩:=id O
 exact⟨_,rfl,x,C,e,_,_,rfl,g,T.cl,T.n_step_sets,f,d,_,rfl,kK (.inl a),λl hl=>q l _ hl (BR hl) Ak⟩
inductive Xg (vs:List V) (H:Hp) (Q:VK) (b9:XK):Prop
 | mk (z:Str):vs=[.str z,.str letters,.int 8]->Tx z->(∀ b H',Am H H'->(b=true ↔ isNm z)->Q (.bl b) H')->Xg vs H Q b9
include N T in
theorem iY:Ao P w K mg base Bb 1 aD.fMd aD.dMd vE Xg:=by
 refine N.FMd.1.DX qJ λH r Q E p h=>?_
 obtain⟨z,rfl,f,q⟩:=h
 refine⟨_,(Ah (Ax (Dp (Gr FT FT Ac (A_ Ja rfl T.len bo (Aa (pv 0) Ab)) (pv 2)) (Dl (A_ (Hi rfl) rfl T.all gu (Aa (Bq rfl (Bf (osc:=Ae mG) (N:=vE) rfl rfl (by decide)) (Vm (pv 0)) (λ_ _ _ _=>Cq) (λ_ _ _ _=>(Dw NK (pv 0) (pv 2) rfl))) Ab)))))),?_⟩
 have d:z.length<sizeLine:=BJ f.1
 have l:¬ isNm z->Q (.bl false) H:=λh=>q false H (Am.refl H) ⟨λz=>(nomatch z),λz=>absurd z h⟩
 refine⟨_,rfl,z,rfl,fA d,_,_,rfl,rfl,_,rfl,?_⟩
 refine Cz (λj=>?_) (λj=>⟨_,rfl,Bk (l λc=>j (decide_eq_true (by have:=c.1;omega)))⟩)
 refine⟨_,rfl,_,_,rfl,rfl,_,rfl,?_⟩
 refine Cz (λi=>?_) (λi=>l λc=>i (decide_eq_true (by have:=c.2.1;omega)))
 refine⟨_,rfl,z,rfl,Px (λ_=>true) (λc=>.bl (Yi letters c)) d (λc a b g R k=>k b (Am.refl b)) (λc a _ b g R k=>⟨_,rfl,_,rfl,_,_,rfl,rfl,k b (Am.refl b)⟩) (λD b o g hl=>?_)⟩
 refine⟨D,z.cps.toList.map (Yi letters),rfl,.inl (.inl ?_),q _ b g ?_⟩
 ·rw[hl,bg.mpr (λ_ _=>rfl),ax]
  rfl
 ·rw[List.all_map,fm]
  have n:1<=z.length:=by have:=of_decide_eq_true j;omega
  have m:z.length<=8:=by have:=of_decide_eq_true i;omega
  constructor
  ·intro h
   refine⟨n,m,λc a=>?_⟩
   have e:Yi letters c=true:=h c a
   rw[OJ c (f.2 c a)] at e
   exact of_decide_eq_true e
  ·intro h c a
   show Yi letters c=true
   rw[OJ c (f.2 c a)]
   exact decide_eq_true (h.2.2 c a)
theorem yj {K:W.Frag}:W.kitOne K (.type "int") (.type "str")=some false:=by kernel_rfl
theorem yf {K:W.Frag}:W.kitOne K (.type "bool") (.type "str")=some false:=by kernel_rfl
theorem vR {K:W.Frag}:W.kitOne K (.type "NoneType") (.type "str")=some false:=by kernel_rfl
theorem vN {K:W.Frag}:W.kitOne K (.type "list") (.type "str")=some false:=by kernel_rfl
theorem uv {K:W.Frag}:W.kitOne K (.type "tuple") (.type "str")=some false:=by kernel_rfl
def isStr:V->Bool
 | .str _=>true
 | _=>false
theorem dG (K:W.Frag) {v:V} (h:Ci H v):∃ n,Jh K H v (.type n)/\W.kitOne K (.type n) (.type "str")=some (isStr v):=by
 cases h with
 | non=>exact⟨_,.non,vR⟩
 | bl b=>exact⟨_,.bl b,yf⟩
 | int i=>exact⟨_,.int i,yj⟩
 | lst h=>exact⟨_,.lst h,vN⟩
 | tup h=>exact⟨_,.tup h,uv⟩
 | str h=>exact⟨_,.str _,HQ⟩
inductive jZ (v:V):Prop
 | mk (t:_):v=.str t->isNm t->jZ v
inductive Sw (vs:List V) (H:Hp) (Q:VK) (b9:XK):Prop
 | mk (v:V):vs=[v]->Ci H v->(∀ b H',Am H H'->(b=true ↔ jZ v)->Q (.bl b) H')->Sw vs H Q b9
include N T in
theorem WD:Ao P w K mg base Bb 2 aD.fNm aD.dNm uB Sw:=by
 refine N.FNm.1.DX lV λH o Q E g h=>?_
 obtain⟨v,rfl,a,q⟩:=h
 obtain⟨c,m⟩:=T.letters
 obtain⟨j,i⟩:=T.mostL
 refine⟨_,(Ah (Ax (Dp (A_ Cj rfl T.isin be (Aa (pv 0) (Aa (Dm (v:=.ty "str") rfl T.str hG rfl) Ab))) (Dl (zC (iY N T) g rfl N.FMd (Aa (pv 0) (Aa (Cr (v:=.str letters) rfl m ⟨c,rfl⟩) (Aa (Cr (v:=.int 8) rfl i ⟨j,rfl⟩) Ab)))))))),?_⟩
 obtain⟨n,k,l⟩:=dG K a
 refine⟨_,rfl,_,"str",_,_,rfl,k,l,_,rfl,?_⟩
 cases a with
 | str h =>
  refine DY ⟨_,rfl,_,rfl,h,λb d s f=>q b d s (f.trans ⟨λz=>⟨_,rfl,z⟩,λ⟨t,e,z⟩=>by cases e;exact z⟩)⟩
 | _=>exact Bk (q false H (Am.refl H) ⟨λz=>(nomatch z),λ⟨t,e,z⟩=>(nomatch e)⟩)
inductive dq (C:Addr) (vs:List V) (H:Hp) (Q:VK) (b9:XK):Prop
 | mk (x:Addr) (us:List V) (bs:List (Str × Nat)) (rk:List (Str × Nat × Int)) (ks:List R) (ls:List (List Ln:_)) (sts:List Nat) (v:V):vs=[.ref x,v]->Iv C H x us bs rk ks ls sts->Ci H v->(∀ n∈bs.map (·.1),isNm n)->(∀ H',Am H H'->Q (Gj (bs.map (·.1)) v) H')->dq C vs H Q b9
inductive dY (C:Addr) (vs:List V) (H:Hp) (Q:VK) (b9:XK):Prop
 | mk (x:Addr) (us:List V) (bs:List (Str × Nat)) (rk:List (Str × Nat × Int)) (ks:List R) (ls:List (List Ln:_)) (sts:List Nat) (v:V):vs=[.ref x,v]->Iv C H x us bs rk ks ls sts->Ci H v->(∀ n∈ks.map (·.nm),isNm n)->(∀ H',Am H H'->Q (Gj (ks.map (·.nm)) v) H')->dY C vs H Q b9
theorem TX {v:V} (a:∀ n∈ns,isNm n) (h:¬ jZ v):Gj ns v=.non:=by
 cases v with
 | str t=>exact if_neg λz=>h ⟨t,rfl,a t z⟩
 | _=>rfl
theorem valN (a:∀ (i:Nat) t,ns[i]? = some t->CP kvs (Sum.inr t)=some (.int (i:Nat))) (b:∀ t,t ∉ ns->CP kvs (Sum.inr t)=none) (t:Str):(CP kvs (Sum.inr t)).getD .non=Gj ns (.str t):=by
 by_cases h:t∈ns
 ·rw[a _ t (Jc h)]
  exact (if_pos h).symm
 ·rw[b t h]
  exact (if_neg h).symm
theorem uc:Av ti ti (Ae su):=Bh
include N T in
theorem mj:Ao P w K mg base Bb 3 aD.fOj aD.dOj ti (dY C):=by
 refine N.FOj.1.DX uc λH J Q E g h=>?_
 obtain⟨x,U,bs,rk,L,G,n,v,rfl,O,y,i,q⟩:=h
 have m:=CJ g
 refine⟨_,(Ah (Ax (Jq (DK (zC (WD N T) g rfl N.FNm (Aa (pv 1) Ab))) (QR m (Bc (pv 0) rfl) (pv 1) ⟨rfl,rfl,rfl,rfl⟩) Gg))),?_⟩
 obtain⟨I,r,fs,V,s,Y,j,u,R,o,Z,h2,f,l,p,F,B,M,D,A,S⟩:=id O
 refine⟨_,rfl,v,rfl,y,λb X a d=>⟨_,rfl,?_⟩⟩
 refine Cz (λz=>?_) (λz=>?_)
 ·obtain⟨t,rfl,W⟩:=d.mp z
  refine⟨_,rfl,x,C,r,_,_,rfl,a _ _ u,T.cl,T.n_knob_numbers,o,s,rfl,.inl ⟨_,.inl (a _ _ f)⟩,_,rfl,_,Em.k (k:=Sum.inr t) (a _ _ f),?_⟩
  rw[valN l p t]
  exact q _ a
 ·have e:=TX i λc=>z (d.mpr c)
  rw[e] at q
  exact q _ a
theorem du (k:Nat):Wd.mk [k]=2 ^ k:=by
 show 0 ||| 2 ^ k=2 ^ k
 rw[Nat.zero_or]
theorem qP (h:t∈ns):Gj ns (.str t)=.int ((ns.idxOf t:Nat):Int):=if_pos h
inductive ZD (C cK:Addr) (vs:List V) (H:Hp) (Q:VK) (E:XK):Prop
 | mk (x:Addr) (us:List V) (bs:List (Str × Nat)) (rk:List (Str × Nat × Int)) (ks:List R) (ls:List (List Ln:_)) (sts:List Nat) (v:V):vs=[.ref x,v]->Iv C H x us bs rk ks ls sts->Ci H v->(∀ n∈ks.map (·.nm),isNm n)->ks.length<=100->(∀ t H',Am H H'->v=.str t->t∈ks.map (·.nm)->Q (.int ((2 ^ (ks.map (·.nm)).idxOf t:Nat):Int)) H')->(∀ H',Am H H'->Gj (ks.map (·.nm)) v=.non->E (.ref cK) none H')->ZD C cK vs H Q E
theorem Nx (ns:List Str) (v:V):Gj ns v=.non \/ ∃ t,v=.str t/\t∈ns/\Gj ns v=.int ((ns.idxOf t:Nat):Int):=by
 cases v with
 | str t =>
  by_cases h:t∈ns
  ·exact .inr ⟨t,rfl,h,if_pos h⟩
  ·exact .inl (if_neg h)
 | _=>exact .inl rfl
theorem nO:Av ["organ","name","knob"] tT (Ae zH):=Bh
include N T in
theorem bF:Ao P w K mg base (Fy P w) 4 aD.fKn aD.dKn tT (ZD C cK):=by
 refine N.FKn.1.Jr nO λH I Q E d h=>?_
 obtain⟨x,u,bs,rk,a,j,c,v,rfl,O,G,b,hl,q,m⟩:=h
 have J:=CJ d
 refine⟨_,(Af (Ba (i:=2) nO.nd rfl (Or.inl rfl) (Bp (pv 0) T.cl N.FOj.2.2 (mj N T) (ad d) N.FOj.2.1 .nil Aq (Aa (pv 1) Ab)))
  (Af (Bl (BL Qu (pv 2) Gg (BW _)) (Ah (GF T.x4.rK.ex rfl T.x4.mK rfl HJ (Aa BP Ab))) Be)
  (Ah (Ax (zC (M5 N T) d rfl N.FSt (Aa (Eb (Aa (pv 2) Ab)) Ab)))))),?_⟩
 obtain⟨⟨⟨B,fs,_,_,_,_,_,_,_,_,D,_,_,_,_,l,_⟩,_⟩,_⟩:=id O.o
 refine⟨_,rfl,x,B,fs,rfl,D,l _ (by decide),_,rfl,x,u,bs,rk,a,j,c,v,rfl,O,G,b,λz f=>?_⟩
 rcases Nx (a.map (·.nm)) v with e | ⟨t,rfl,g,e⟩
 ·have F:=m z f e
  rw[e]
  exact⟨_,rfl,rfl,_,rfl,DY ⟨by show 1<=1000;decide,F⟩⟩
 ·rw[e]
  have s:=gd g
  rw[af] at s
  refine⟨_,rfl,rfl,_,rfl,Bk ?_⟩
  refine⟨_,rfl,Cg (by simp),λk A=>?_⟩
  have r:=BR (o:=HO.lst [V.int (((a.map (·.nm)).idxOf t:Nat):Int)]) A
  refine⟨k,[(a.map (·.nm)).idxOf t],rfl,Ak,by simp,λn b=>by rw[List.mem_singleton.mp b];omega,λy p=>?_⟩
  rw[du]
  exact q t y (f.trans (r.trans p)) rfl g
inductive Yh (Cy:Addr) (vs:List V) (H:Hp) (Q:VK) (b9:XK):Prop
 | mk (y dy x:Addr):vs=[.ref y,.ref x]->H y=some (.ins Cy dy [])->(∀ (sd:Addr) H',SX y H H'->H sd=none->H' sd=some (.dK [])->Dh Cy H' y x 0 0 sd->Q .non H')->Yh Cy vs H Q b9
inductive Qs (Cy:Addr) (vs:List V) (H:Hp) (Q:VK) (b9:XK):Prop
 | mk (y x:Addr) (dr sh:Nat) (sd:Addr) (n:Nat):vs=[.ref y,.int (n:Nat)]->Dh Cy H y x dr sh sd->(∀ H',SX y H H'->Dh Cy H' y x n sh sd->Q (.bl (!decide (n=dr))) H')->Qs Cy vs H Q b9
theorem yF:Av wm wm (Ae vG):=Bh
include N T in
theorem cN:Ao P w K mg base Bb 1 aD.fXi aD.dXi wm (Yh Cy):=by
 refine N.FXi.1.DX yF λH D Q E u h=>?_
 obtain⟨y,a,x,rfl,A,q⟩:=h
 have G:=CJ u
 refine⟨_,(Af (Cv (pv 0) (pv 1) rfl)
  (Af (Cv (pv 0) Ac rfl)
  (Af (Cv (pv 0) Ac rfl)
  (Ah (Cv (pv 0) IV rfl))))),?_⟩
 refine⟨_,rfl,_,rfl,y,Cy,a,_,rfl,A,T.clR,T.nr_organ,by show 0<1000;decide,?_⟩
 have p:upd H y (HO.ins Cy a (BV "organ" (.ref x) [])) y=some (.ins Cy a (BV "organ" (.ref x) [])):=Ak
 have r:SX y H (upd H y (HO.ins Cy a (BV "organ" (.ref x) []))):=SX.up
 generalize upd H y (HO.ins Cy a (BV "organ" (.ref x) []))=d at p r |-
 have J:=FJ "organ" (.ref x) []
 have C:=FJ "drawn_set" (.int 0) (BV "organ" (.ref x) [])
 have F:=FJ "shoe_step" (.int 0) (BV "drawn_set" (.int 0) (BV "organ" (.ref x) []))
 have L:([]:List (Str × V)).length=0:=rfl
 refine⟨_,rfl,y,Cy,a,_,rfl,p,T.clR,T.nr_drawn_set,by omega,?_⟩
 have i:upd d y (HO.ins Cy a (BV "drawn_set" (.int 0) (BV "organ" (.ref x) []))) y=some (.ins Cy a (BV "drawn_set" (.int 0) (BV "organ" (.ref x) []))):=Ak
 have n:SX y d (upd d y (HO.ins Cy a (BV "drawn_set" (.int 0) (BV "organ" (.ref x) [])))):=SX.up
 generalize upd d y (HO.ins Cy a (BV "drawn_set" (.int 0) (BV "organ" (.ref x) [])))=c at i n |-
 refine⟨_,rfl,y,Cy,a,_,rfl,i,T.clR,T.nr_shoe_step,by omega,?_⟩
 have e:upd c y (HO.ins Cy a (BV "shoe_step" (.int 0) (BV "drawn_set" (.int 0) (BV "organ" (.ref x) [])))) y=some (.ins Cy a (BV "shoe_step" (.int 0) (BV "drawn_set" (.int 0) (BV "organ" (.ref x) [])))):=Ak
 have l:SX y c (upd c y (HO.ins Cy a (BV "shoe_step" (.int 0) (BV "drawn_set" (.int 0) (BV "organ" (.ref x) []))))):=SX.up
 generalize upd c y (HO.ins Cy a (BV "shoe_step" (.int 0) (BV "drawn_set" (.int 0) (BV "organ" (.ref x) []))))=I at e l |-
 intro b f
 obtain⟨B,t,j,v⟩:=El (o:=HO.dK []) f
 rw[t]
 refine⟨_,rfl,y,Cy,a,_,rfl,j _ _ e,T.clR,T.nr_stored,by omega,?_⟩
 have k:b ≠ y:=Ne.symm (Ai e f)
 have m:=r.trans (n.trans l)
 have g:H b=none:=by
  cases z:H b with
  | none=>rfl
  | some s =>
   have:=m b s z k
   rw[f] at this
   cases this
 exact q b _ (m.trans ((SX.of j).trans SX.up)) g (by rw[Aw k];exact v) (Dh.new Ak)
theorem qL:Av ["self","knobs","changed"] xk (Ae y_):=Bh
include N T in
theorem Tt:Ao P w K mg base Bb 1 aD.fXd aD.dXd xk (Qs Cy):=by
 refine N.FXd.1.DX qL λH v Q E l h=>?_
 obtain⟨y,x,f,g,r,n,rfl,D,q⟩:=h
 have u:=CJ l
 refine⟨_,(Af (Ba (i:=2) qL.nd rfl (Or.inl rfl) (Dw Ko (pv 1) (Bc (pv 0) rfl) (BW _)))
  (Af (Cv (pv 0) (pv 1) rfl)
  (Ah (Ax (pv 2))))),?_⟩
 obtain⟨a,fs,d,j,b,s,m,k,o⟩:=id D.ex
 refine⟨_,rfl,_,rfl,y,Cy,a,_,_,rfl,d,T.clR,T.nr_drawn_set,b,rfl,?_⟩
 refine⟨_,rfl,_,rfl,y,Cy,a,_,rfl,d,T.clR,T.nr_drawn_set,by omega,?_⟩
 have t:SX y H (upd H y (HO.ins Cy a (BV "drawn_set" (.int (n:Nat)) fs))):=SX.up
 have p:Dh Cy (upd H y (HO.ins Cy a (BV "drawn_set" (.int (n:Nat)) fs))) y x n g r:=Dh.putD n j b s m k o Ak
 have e:(!decide (V.int ((n:Nat):Int)=V.int ((f:Nat):Int))) = !decide (n=f):=by
  congr 1
  rw[decide_eq_decide]
  constructor
  ·intro z
   have:=V.int.inj z
   omega
  ·rintro rfl
   rfl
 have c:=q _ t p
 rw[<-e] at c
 exact⟨_,rfl,c⟩
theorem Rz (a b:Nat):Builtin.bitAnd (a:Int) (Builtin.bitNot (b:Int))=((a - (a &&& b):Nat):Int):=by
 have h:¬ 0<=Builtin.bitNot (b:Int):=by unfold Builtin.bitNot;omega
 have d:Builtin.bitNot (Builtin.bitNot (b:Int))=(b:Int):=by unfold Builtin.bitNot;omega
 have c:a &&& b<=a:=Nat.and_le_left
 unfold Builtin.bitAnd
 rw[decide_eq_true (gT a),decide_eq_false h]
 show (a:Int) - ((((a:Int).toNat &&& (Builtin.bitNot (Builtin.bitNot (b:Int))).toNat:Nat)):Int)=_
 rw[d,bb,bb]
 omega
abbrev Ih (ks:List R):List Str:=ks.map (·.nm)
def Ga (C Cy:Addr) (Ho H:Hp) (y x:Addr) (ks:List R) (sts:List Nat) (dr sh:Nat) (sd:Addr):Prop:=(∃ us bs rk ls,ZZ C Cy Ho H y x us bs rk ks ls sts dr sh sd)/\(∀ n∈Ih ks,isNm n)/\ks.length<=100
theorem Ga.mono {x:Addr} (s:Am H H') (h:Ga C Cy Ho H y x ks sts dr sh sd):Ga C Cy Ho H' y x ks sts dr sh sd:=by
 obtain⟨⟨c,bs,rk,a,d⟩,b,e⟩:=h
 exact⟨⟨c,bs,rk,a,d.mono s⟩,b,e⟩
theorem Ga.put {x:Addr} {f d:Nat} (h:Ga C Cy Ho H y x ks sts dr sh sd) (s:SX y H H') (c:Dh Cy H' y x f d sd):Ga C Cy Ho H' y x ks sts f d sd:=by
 obtain⟨⟨j,bs,rk,g,a⟩,i,k⟩:=h
 exact⟨⟨j,bs,rk,g,a.o,λb o e=>s b o (a.s b o e) (Ai e a.n),a.n,c⟩,i,k⟩
inductive Qk (up:Bool) (C Cy cK:Addr) (vs:List V) (H:Hp) (Q:VK) (E:XK):Prop
 | mk (Ho:Hp) (y x:Addr) (ks:List R) (sts:List Nat) (dr sh:Nat) (sd:Addr) (v:V):vs=[.ref y,v]->Ga C Cy Ho H y x ks sts dr sh sd->Ci H v->(∀ t d2 H',SX y H H'->v=.str t->t∈Ih ks->d2=(if up then dr ||| 2 ^ (Ih ks).idxOf t else dr - (dr &&& 2 ^ (Ih ks).idxOf t))->Ga C Cy Ho H' y x ks sts d2 sh sd->Q (.bl (!decide (d2=dr))) H')->(∀ H',Am H H'->Gj (Ih ks) v=.non->E (.ref cK) none H')->Qk up C Cy cK vs H Q E
theorem vp:Av ti ti (Ae yX):=Bh
include N T in
theorem cG:Ao P w K mg base (Fy P w) 5 aD.fXp aD.dXp ti (Qk true C Cy cK):=by
 have f:Ao P w K mg base (Fy P w) 4 aD.fKn aD.dKn tT (ZD C cK):=bF N T
 refine N.FXp.1.Jr vp λH L Q E d h=>?_
 obtain⟨V,y,x,r,c,J,u,o,v,rfl,O,I,q,p⟩:=h
 have M:=CJ d
 refine⟨_,(Ah (Ax (Bp (pv 0) T.clR N.FXd.2.2 (Tt N T) (ad d) N.FXd.2.1 .nil Aq (Aa (BX M3 (Bc (pv 0) rfl) (Al f (ad d) rfl N.FKn.2.2 N.FKn.1.kp N.FKn.2.1 .nil Df (Aa (Bc (pv 0) rfl) (Aa (pv 1) Ab)))) Ab)))),?_⟩
 obtain⟨⟨A,bs,rk,m,D⟩,l,hl⟩:=id O
 obtain⟨b,fs,g,z,F,U,S,R,n⟩:=id D.c.ex
 refine⟨_,rfl,y,b,fs,rfl,g,n _ (by decide),_,rfl,y,Cy,b,_,_,rfl,g,T.clR,T.nr_drawn_set,F,_,rfl,y,Cy,b,_,_,rfl,g,T.clR,T.nr_organ,z,_,rfl,x,A,bs,rk,r,m,c,v,rfl,D.o.mono D.s,I,l,hl,λt j a G B=>?_,λj a e=>p j a e⟩
 subst G
 refine⟨_,_,rfl,rfl,?_⟩
 try dsimp only
 rw[Ik]
 refine⟨y,x,J,u,o,_,rfl,D.c.mono a,λs i k=>?_⟩
 exact q t _ s ((SX.of a).trans i) rfl B rfl ((O.mono a).put i k)
theorem uG:Av ti ti (Ae vf):=Bh
include N T in
theorem bH:Ao P w K mg base (Fy P w) 5 aD.fXq aD.dXq ti (Qk false C Cy cK):=by
 have f:Ao P w K mg base (Fy P w) 4 aD.fKn aD.dKn tT (ZD C cK):=bF N T
 refine N.FXq.1.Jr uG λH L Q E d h=>?_
 obtain⟨V,y,x,r,c,J,u,o,v,rfl,O,I,q,p⟩:=h
 have M:=CJ d
 refine⟨_,(Ah (Ax (Bp (pv 0) T.clR N.FXd.2.2 (Tt N T) (ad d) N.FXd.2.1 .nil Aq (Aa (BX JS (Bc (pv 0) rfl) (Ji Ow (Al f (ad d) rfl N.FKn.2.2 N.FKn.1.kp N.FKn.2.1 .nil Df (Aa (Bc (pv 0) rfl) (Aa (pv 1) Ab))))) Ab)))),?_⟩
 obtain⟨⟨A,bs,rk,m,D⟩,l,hl⟩:=id O
 obtain⟨b,fs,g,z,F,U,S,R,n⟩:=id D.c.ex
 refine⟨_,rfl,y,b,fs,rfl,g,n _ (by decide),_,rfl,y,Cy,b,_,_,rfl,g,T.clR,T.nr_drawn_set,F,_,rfl,y,Cy,b,_,_,rfl,g,T.clR,T.nr_organ,z,_,rfl,x,A,bs,rk,r,m,c,v,rfl,D.o.mono D.s,I,l,hl,λt j a G B=>?_,λj a e=>p j a e⟩
 subst G
 refine⟨_,rfl,_,_,rfl,rfl,?_⟩
 try dsimp only
 rw[Rz]
 refine⟨y,x,J,u,o,_,rfl,D.c.mono a,λs i k=>?_⟩
 exact q t _ s ((SX.of a).trans i) rfl B rfl ((O.mono a).put i k)
inductive Z1 (C Cy:Addr) (vs:List V) (H:Hp) (Q:VK) (b9:XK):Prop
 | mk (Ho:Hp) (y x:Addr) (ks:List R) (sts:List Nat) (dr sh:Nat) (sd:Addr):vs=[.ref y]->Ga C Cy Ho H y x ks sts dr sh sd->sh<=sts.length->sts.length<=100->(∀ H',Am H H'->Q (.int ((dr ||| Pz (sts.take sh):Nat):Int)) H')->Z1 C Cy vs H Q b9
theorem uy:Av sN sN (Ae yI):=Bh
include N T in
theorem aa:Ao P w K mg base Bb 2 aD.fXk aD.dXk sN (Z1 C Cy):=by
 refine N.FXk.1.DX uy λH X Q E f h=>?_
 obtain⟨S,y,x,r,a,dr,b,W,rfl,O,z,p,q⟩:=h
 have Y:=CJ f
 refine⟨_,(Ah (Ax (BX M3 (Bc (pv 0) rfl) (zC (V7 N T) f rfl N.FUn (Aa (Ec Ia (Bo (Bc (pv 0) rfl) T.cl N.FOy.2.2 (V9 N T) (ad f) N.FOy.2.1 .nil Aq) Gd (Eh (Bc (pv 0) rfl))) Ab))))),?_⟩
 obtain⟨⟨v,bs,rk,m,D⟩,R,hl⟩:=id O
 obtain⟨e,fs,g,t,A,J,l4,Z,U⟩:=id D.c.ex
 have i:=D.o.mono D.s
 obtain⟨⟨⟨L,F,_,_,_,_,_,_,_,_,G,_,_,_,_,u,_⟩,_⟩,_⟩:=id i.o
 refine⟨_,rfl,y,Cy,e,_,_,rfl,g,T.clR,T.nr_drawn_set,A,_,rfl,y,Cy,e,_,_,rfl,g,T.clR,T.nr_organ,t,x,L,F,rfl,G,u _ (by decide),x,v,bs,rk,r,m,a,rfl,i,λn l JY k B=>?_⟩
 refine⟨_,rfl,y,Cy,e,_,_,rfl,k _ _ g,T.clR,T.nr_shoe_step,J,_,rfl,n,_,rfl,kK B,λc I=>?_⟩
 have j:=BR (o:=HO.lst (Dy (nV a) none (some (b:Int)))) I
 have d:upd l c (HO.lst (Dy (nV a) none (some (b:Int)))) c=_:=Ak
 generalize upd l c (HO.lst (Dy (nV a) none (some (b:Int))))=s at j d |-
 have V:(nV a).length=a.length:=af _
 rw[JZ (nV a) b (by omega)] at d
 have M:(nV a).take b=nV (a.take b):=(hU ..).symm
 rw[M] at d
 refine⟨c,a.take b,rfl,d,by rw[ck];omega,_,_,rfl,rfl,?_⟩
 try dsimp only
 rw[Ik]
 exact q s (k.trans j)
def isI:V->Bool
 | .int _=>true
 | _=>false
theorem xX {K:W.Frag}:W.kitOne K (.type "NoneType") (.type "int")=some false:=by kernel_rfl
theorem ux {K:W.Frag}:W.kitOne K (.type "bool") (.type "int")=some true:=by kernel_rfl
theorem wR {K:W.Frag}:W.kitOne K (.type "bool") (.type "bool")=some true:=by kernel_rfl
theorem ug {K:W.Frag}:W.kitOne K (.type "list") (.type "int")=some false:=by kernel_rfl
theorem wK {K:W.Frag}:W.kitOne K (.type "tuple") (.type "int")=some false:=by kernel_rfl
theorem vM {K:W.Frag}:W.kitOne K (.type "str") (.type "int")=some false:=by kernel_rfl
inductive Pa (vs:List V) (H:Hp) (Q:VK) (b9:XK):Prop
 | mk (v:V):vs=[v]->Ci H v->Q (.bl (isI v)) H->Pa vs H Q b9
include N T in
theorem Qt:Ao P w K mg base Bb 1 aD.fWh aD.dWh uB Pa:=by
 refine N.FWh.1.DX oA λH c Q E d h=>?_
 obtain⟨v,rfl,a,q⟩:=h
 refine⟨_,(Ah (Ax (Dp (A_ Cj rfl T.isin be (Aa (pv 0) (Aa (Dm (v:=.ty "int") rfl T.int gp rfl) Ab))) (Dl (Qy (A_ Cj rfl T.isin be (Aa (pv 0) (Aa (Dm (v:=.ty "bool") rfl T.bool iL rfl) Ab)))))))),?_⟩
 cases a with
 | non=>exact⟨_,rfl,_,"int",_,_,rfl,.non,xX,_,rfl,Bk q⟩
 | bl b=>exact⟨_,rfl,_,"int",_,_,rfl,.bl b,ux,_,rfl,DY ⟨_,rfl,_,"bool",_,_,rfl,.bl b,wR,_,rfl,q⟩⟩
 | int i=>exact⟨_,rfl,_,"int",_,_,rfl,.int i,ty_int,_,rfl,DY ⟨_,rfl,_,"bool",_,_,rfl,.int i,XJ,_,rfl,q⟩⟩
 | lst h=>exact⟨_,rfl,_,"int",_,_,rfl,.lst h,ug,_,rfl,Bk q⟩
 | tup h=>exact⟨_,rfl,_,"int",_,_,rfl,.tup h,wK,_,rfl,Bk q⟩
 | str h=>exact⟨_,rfl,_,"int",_,_,rfl,.str _,vM,_,rfl,Bk q⟩
def jd (n:Nat):V->Bool
 | .int i=>decide (0<=i) && decide (i<=(n:Nat))
 | _=>false
inductive ZL (C Cy cS:Addr) (vs:List V) (H:Hp) (Q:VK) (E:XK):Prop
 | mk (Ho:Hp) (y x:Addr) (ks:List R) (sts:List Nat) (dr sh:Nat) (sd:Addr) (v:V):vs=[.ref y,v]->Ga C Cy Ho H y x ks sts dr sh sd->Ci H v->(∀ (i:Nat) H',v=.int (i:Nat)->i<=sts.length->SX y H H'->Ga C Cy Ho H' y x ks sts dr i sd->Q .non H')->(∀ H',Am H H'->jd sts.length v=false->E (.ref cS) none H')->ZL C Cy cS vs H Q E
theorem wU:Av At At (Ae vI):=Bh
include N T in
theorem bQ:Ao P w K mg base (Fy P w) 3 aD.fXh aD.dXh At (ZL C Cy cS):=by
 refine N.FXh.1.Jr wU λH X Q E e h=>?_
 obtain⟨V,y,x,r,a,dr,Y,W,v,rfl,O,S,q,d⟩:=h
 have Z:=CJ e
 refine⟨_,(Af (Bl (PW.pt (Ew (Cu (DK (zC (Qt N T) e rfl N.FWh (Aa (pv 1) Ab)))) (Ej (Cu (Hq FT FT Ac (pv 1) (A_ BZ rfl T.len bo (Aa (Bo (Bc (pv 0) rfl) T.cl N.FOy.2.2 (V9 N T) (ad e) N.FOy.2.1 .nil Aq) Ab))))))) (Ah (GF T.x4.rS.ex rfl T.x4.mS rfl HJ (Aa BP Ab))) Be)
  (Ah (Cv (pv 0) (pv 1) rfl))),?_⟩
 obtain⟨⟨u,bs,rk,m,D⟩,U,hl⟩:=id O
 obtain⟨g,fs,l,k,B,M,G,A,o⟩:=id D.c.ex
 have f:=D.o.mono D.s
 obtain⟨⟨⟨R,J,_,_,_,_,_,_,_,_,L,_,_,_,_,s,_⟩,_⟩,_⟩:=id f.o
 refine⟨_,rfl,v,rfl,S,_,rfl,?_⟩
 cases v with
 | int i =>
  refine Bk ⟨_,rfl,_,_,rfl,rfl,_,rfl,Cz (λc=>?_) (λc=>?_)⟩
  ·refine⟨_,rfl,y,Cy,g,_,_,rfl,l,T.clR,T.nr_organ,k,x,R,J,rfl,L,s _ (by decide),x,u,bs,rk,r,m,a,rfl,f,λp F JY b I=>?_⟩
   refine⟨p,_,rfl,kK (.inl I),_,_,rfl,rfl,decide (i<=(((nV a).length:Nat):Int)),rfl,?_⟩
   have lst:(nV a).length=a.length:=af _
   by_cases t:i<=((a.length:Nat):Int)
   ·rw[decide_eq_true (show i<=(((nV a).length:Nat):Int) by omega)]
    have n:0<=i:=of_decide_eq_true c
    refine Bk ?_
    refine⟨_,rfl,_,rfl,y,Cy,g,_,rfl,b _ _ l,T.clR,T.nr_shoe_step,by omega,?_⟩
    obtain⟨j,rfl⟩:=iA n
    exact q j _ rfl (by omega) ((SX.of b).trans SX.up) ((O.mono b).put SX.up (Dh.lD j k B M G A o Ak))
   ·rw[decide_eq_false (show ¬ i<=(((nV a).length:Nat):Int) by omega)]
    exact DY ⟨by show 1<=1000;decide,d F b (by show (decide (0<=i) && decide (i<=((a.length:Nat):Int)))=false;rw[decide_eq_false t,Bool.and_false])⟩
  ·exact⟨_,rfl,DY ⟨by show 1<=1000;decide,d H (Am.refl H) (by show (decide (0<=i) && decide (i<=((a.length:Nat):Int)))=false;rw[decide_eq_false (λz=>c (decide_eq_true z)),Bool.false_and])⟩⟩
 | _=>exact DY ⟨by show 1<=1000;decide,d H (Am.refl H) rfl⟩
inductive Zu (pE pA:Addr) (vs:List V) (H:Hp) (Q:VK) (b9:XK):Prop
 | mk (x c dx:Addr) (k:Nat):vs=[.ref x,.int (k:Nat)]->(c=pE \/ c=pA)->H x=some (.ins c dx [])->Q .non (upd H x (.ins c dx [("knob_set",.int (k:Nat))]))->Zu pE pA vs H Q b9
inductive dw (pE pA:Addr) (vs:List V) (H:Hp) (Q:VK) (b9:XK):Prop
 | mk (x dx:Addr) (k w:Nat):vs=[.ref x,.int (k:Nat),.int (w:Nat)]->H x=some (.ins pA dx [])->(∀ H',SX x H H'->Eu pE pA H' x (.part k w)->Q .non H')->dw pE pA vs H Q b9
inductive g_ (pE:Addr) (vs:List V) (H:Hp) (Q:VK) (b9:XK):Prop
 | mk (x dx:Addr) (k d:Nat):vs=[.ref x,.int (d:Nat)]->H x=some (.ins pE dx [("knob_set",.int (k:Nat))])->Q (.int (k:Nat)) H->g_ pE vs H Q b9
inductive dC (pA:Addr) (vs:List V) (H:Hp) (Q:VK) (b9:XK):Prop
 | mk (x dx:Addr) (k w d:Nat):vs=[.ref x,.int (d:Nat)]->H x=some (.ins pA dx [("knob_set",.int (k:Nat)),("whole_set",.int (w:Nat))])->Q (.int (((d - (d &&& w)) ||| k:Nat):Int)) H->dC pA vs H Q b9
theorem uq:Av xk xk (Ae yE):=Bh
include N T in
theorem bM:Ao P w K mg base Bb 1 aD.fPi aD.dPi xk (Zu pE pA):=by
 refine N.FPi.1.DX uq λH g Q E e h=>?_
 obtain⟨x,c,a,k,rfl,d,b,q⟩:=h
 have f:=CJ e
 refine⟨_,(Ah (Cv (pv 0) (pv 1) rfl)),?_⟩
 rcases d with rfl | rfl
 ·exact⟨_,rfl,_,rfl,x,_,a,_,rfl,b,T.pis.cE,T.pis.nEk,by show 0<1000;decide,q⟩
 ·exact⟨_,rfl,_,rfl,x,_,a,_,rfl,b,T.pis.cA,T.pis.nAk,by show 0<1000;decide,q⟩
theorem uh:Av z5 z5 (Ae uE):=Bh
include N T in
theorem lQ:Ao P w K mg base Bb 2 aD.fAi aD.dAi z5 (dw pE pA):=by
 refine N.FAi.1.DX uh λH f Q E b h=>?_
 obtain⟨x,a,k,e,rfl,c,q⟩:=h
 have d:=CJ b
 refine⟨_,(Af (CG (Q8 rfl T.pis.mB N.cPi (bM N T) (ad b) N.FPi.2.1 .nil Aq (Aa (pv 0) (Aa (pv 1) Ab))))
  (Ah (Cv (pv 0) (pv 2) rfl))),?_⟩
 refine⟨_,rfl,_,rfl,x,pA,a,k,rfl,.inr rfl,c,?_⟩
 refine⟨_,rfl,_,rfl,x,pA,a,_,rfl,Ak,T.pis.cA,T.pis.nAw,by show 1<1000;decide,?_⟩
 exact q _ (SX.up.trans SX.up) ⟨a,Ak⟩
theorem uQ:Av wp wp (Ae vC):=Bh
include N T in
theorem lO:Ao P w K mg base Bb 1 aD.fEp aD.dEp wp (g_ pE):=by
 refine N.FEp.1.DX uQ λH f Q E c h=>?_
 obtain⟨x,a,k,d,rfl,b,q⟩:=h
 have e:=CJ c
 refine⟨_,(Ah (Ax (Bc (pv 0) rfl))),?_⟩
 exact⟨_,rfl,x,pE,a,_,_,rfl,b,T.pis.cE,T.pis.nEk,rfl,q⟩
theorem vD:Av wp wp (Ae v_):=Bh
include N T in
theorem qM:Ao P w K mg base Bb 1 aD.fAp aD.dAp wp (dC pA):=by
 refine N.FAp.1.DX vD λH g Q E c h=>?_
 obtain⟨x,a,k,f,d,rfl,b,q⟩:=h
 have e:=CJ c
 refine⟨_,(Ah (Ax (BX M3 (BX JS (pv 1) (Ji Ow (Bc (pv 0) rfl))) (Bc (pv 0) rfl)))),?_⟩
 refine⟨_,rfl,_,rfl,x,pA,a,_,_,rfl,b,T.pis.cA,T.pis.nAw,rfl,_,rfl,_,_,rfl,rfl,_,rfl,x,pA,a,_,_,rfl,b,T.pis.cA,T.pis.nAk,rfl,_,_,rfl,rfl,?_⟩
 try dsimp only
 rw[Rz,Ik]
 exact q
def KD:V->Bool
 | .int i=>decide (0<=i) && decide (i<10)
 | _=>false
inductive Z4 (vs:List V) (H:Hp) (Q:VK) (b9:XK):Prop
 | mk (v:V):vs=[v]->Ci H v->Q (.bl (KD v)) H->Z4 vs H Q b9
theorem uV:Av uB uB (Ae tO):=Bh
include N T in
theorem bw:Ao P w K mg base Bb 2 aD.fIp aD.dIp uB Z4:=by
 refine N.FIp.1.DX uV λH g Q E d h=>?_
 obtain⟨v,rfl,f,q⟩:=h
 obtain⟨c,a⟩:=T.pis.most
 refine⟨_,(Ah (Ax (Dp (zC (Qt N T) d rfl N.FWh (Aa (pv 0) Ab)) (Dl (Gr FT HR Ac (pv 0) (Cr (v:=.int 10) rfl a ⟨c,rfl⟩)))))),?_⟩
 refine⟨_,rfl,v,rfl,f,_,rfl,?_⟩
 cases v with
 | int i =>
  refine DY ⟨_,rfl,_,_,rfl,rfl,_,rfl,Cz (λb=>?_) (λb=>?_)⟩
  ·refine⟨_,_,rfl,rfl,?_⟩
   have e:KD (.int i)=decide (i<10):=by
    show (decide (0<=i) && decide (i<10))=_
    rw[b,gL]
   rw[e] at q
   exact q
  ·have e:KD (.int i)=false:=by
    show (decide (0<=i) && decide (i<10))=_
    rw[(fo _).mp b,gS]
   rw[e] at q
   exact q
 | _=>exact Bk q
theorem zF:Av ti ti (Ae xf):=Bh
include N T in
theorem qp:Ao P w K mg base Bb 3 aD.fOu aD.dOu ti (dq C):=by
 refine N.FOu.1.DX zF λH Z Q E l h=>?_
 obtain⟨x,us,bs,rk,ks,ls,J,v,rfl,O,D,F,q⟩:=h
 have u:=CJ l
 obtain⟨sB,wS⟩:=T.letters
 obtain⟨D9,ID⟩:=T.mostL
 refine⟨_,(Ah (Ax (Jq (DK (zC (WD N T) l rfl N.FNm (Aa (pv 1) Ab))) (QR u (Bc (pv 0) rfl) (pv 1) ⟨rfl,rfl,rfl,rfl⟩) Gg))),?_⟩
 obtain⟨G,A,fs,rl,kd,ss,I,o,l1,l2,l3,h2,h3,h4,h5,R,r,kb,j,f,y⟩:=id O
 obtain⟨⟨S,pf,bl,s,kp,kr,i5,lh,l8,g0,p,U,m,m3,m4,W,e2,L,n,B,M,X,Y,V⟩,re,pr,rf⟩:=id G.o
 rw[o] at p
 cases p
 rw[j] at m
 cases m
 rw[f] at n
 cases n
 refine⟨_,rfl,v,rfl,D,λb H1 a d=>⟨_,rfl,?_⟩⟩
 refine Cz (λz=>?_) (λz=>?_)
 ·obtain⟨t,rfl,g⟩:=d.mp z
  refine⟨_,rfl,x,C,A,_,_,rfl,a _ _ o,T.cl,T.n_board_numbers,j,r,rfl,.inl ⟨_,.inl (a _ _ f)⟩,_,rfl,_,Em.k (k:=Sum.inr t) (a _ _ f),?_⟩
  rw[valN (λi t g=>by rw[al] at g;obtain⟨b,d,rfl⟩:=aE.mp g;exact B i b d) y t]
  exact q _ a
 ·have e:=TX F λc=>z (d.mpr c)
  rw[e] at q
  exact q _ a
inductive Z3 (C cB:Addr) (vs:List V) (H:Hp) (Q:VK) (E:XK):Prop
 | mk (x:Addr) (us:List V) (bs:List (Str × Nat)) (rk:List (Str × Nat × Int)) (ks:List R) (ls:List (List Ln:_)) (sts:List Nat) (v:V):vs=[.ref x,v]->Iv C H x us bs rk ks ls sts->Ci H v->(∀ n∈bs.map (·.1),isNm n)->(∀ t H',Am H H'->v=.str t->t∈bs.map (·.1)->Q (.int (((bs.map (·.1)).idxOf t:Nat):Int)) H')->(∀ H',Am H H'->Gj (bs.map (·.1)) v=.non->E (.ref cB) none H')->Z3 C cB vs H Q E
theorem mF:Av C3 tT (Ae uF):=Bh
include N T in
theorem b_:Ao P w K mg base (Fy P w) 4 aD.fBn aD.dBn tT (Z3 C cB):=by
 refine N.FBn.1.Jr mF λH y Q E c h=>?_
 obtain⟨x,j,bs,rk,p,g,a,v,rfl,O,s,f,q,n⟩:=h
 have u:=CJ c
 refine⟨_,(Af (Ba (i:=2) mF.nd rfl (Or.inl rfl) (Bp (pv 0) T.cl N.FOu.2.2 (qp N T) (ad c) N.FOu.2.1 .nil Aq (Aa (pv 1) Ab)))
  (Af (Bl (BL Qu (pv 2) Gg (BW _)) (Ah (GF T.x4.rB.ex rfl T.x4.mB rfl HJ (Aa BP Ab))) Be)
  (Ah (Ax (pv 2))))),?_⟩
 obtain⟨⟨⟨m,fs,_,_,_,_,_,_,_,_,o,_,_,_,_,l,_⟩,_⟩,_⟩:=id O.o
 refine⟨_,rfl,x,m,fs,rfl,o,l _ (by decide),_,rfl,x,j,bs,rk,p,g,a,v,rfl,O,s,f,λd b=>?_⟩
 rcases Nx (bs.map (·.1)) v with e | ⟨t,rfl,k,e⟩
 ·have r:=n d b e
  rw[e]
  exact⟨_,rfl,rfl,_,rfl,DY ⟨by show 1<=1000;decide,r⟩⟩
 ·rw[e]
  exact⟨_,rfl,rfl,_,rfl,Bk ⟨_,rfl,q t d b rfl k⟩⟩
def Yb (ks:List R) (t:Str) (k:Nat):Bool:=match ks[k]? with
 | some r=>decide (r.rest.head? = some (V.str t))
 | none=>false
def JF (ks:List R) (t:Str):Nat:=Wd.mk ((List.range ks.length).filter (Yb ks t))
inductive dh (C cB:Addr) (vs:List V) (H:Hp) (Q:VK) (E:XK):Prop
 | mk (x:Addr) (us:List V) (bs:List (Str × Nat)) (rk:List (Str × Nat × Int)) (ks:List R) (ls:List (List Ln:_)) (sts:List Nat) (v:V):vs=[.ref x,v]->Iv C H x us bs rk ks ls sts->Ci H v->(∀ n∈bs.map (·.1),isNm n)->(bs.map (·.1)).Nodup->ks.length<=100->(∀ r∈ks,∃ b∈bs,∃ rs,r.rest=.str b.1::rs)->(∀ t H',Am H H'->v=.str t->t∈bs.map (·.1)->Q (.int ((JF ks t:Nat):Int)) H')->(∀ H',Am H H'->Gj (bs.map (·.1)) v=.non->E (.ref cB) none H')->dh C cB vs H Q E
theorem oJ:Av C3 tT (Ae rR):=Bh
include N T in
theorem mz:Ao P w K mg base (Fy P w) 5 aD.fKb aD.dKb tT (dh C cB):=by
 have I:Ao P w K mg base (Fy P w) 4 aD.fBn aD.dBn tT (Z3 C cB):=b_ N T
 refine N.FKb.1.Jr oJ λH vs Q E d h=>?_
 obtain⟨x,us,bs,rk,a,ls,G,v,rfl,O,hv,B,Z,hl,oo,q,qe⟩:=h
 have hu:=CJ d
 refine⟨_,(Af (Ba (i:=2) oJ.nd rfl (Or.inr rfl) (Al I (ad d) rfl N.FBn.2.2 N.FBn.1.kp N.FBn.2.1 .nil Df (Aa (pv 0) (Aa (pv 1) Ab))))
  (Ah (Ax (zC (M5 N T) d rfl N.FSt (Aa (Bq rfl (Bf (osc:=Ae rR) (N:=C3) rfl rfl (by decide)) (Dv rfl T.range (Aa (A_ BZ rfl T.len bo (Aa (Bo (pv 0) T.cl N.FOz.2.2 (Wv N T) (ad d) N.FOz.2.1 .nil Aq) Ab)) Ab)) (λ_ _ _ _=>(G6 (BL Bw (Bp (pv 1) T.cl N.FBk.2.2 (R4 N T) (ad d) N.FBk.2.1 .nil Aq (Aa (pv 0) Ab)) (pv 3) (BW _)))) (λ_ _ _ _=>(pv 0))) Ab))))),?_⟩
 refine⟨_,rfl,_,rfl,x,us,bs,rk,a,ls,G,v,rfl,O,hv,B,λt J g ev y=>?_,λJ g e=>qe J g e⟩
 subst ev
 have D:=O.mono g
 obtain⟨⟨⟨dx,fs,_,_,_,_,_,_,_,_,h1,_,_,_,_,lm,_⟩,_⟩,_⟩:=id D.o
 refine⟨_,rfl,x,dx,fs,rfl,h1,lm _ (by decide),x,_,_,rfl,D.o.o,λD2 m H2 sf L q2 p2=>?_⟩
 have p:m.length=a.length:=p2.length.symm
 refine⟨D2,_,rfl,kK (.inl q2),_,rfl,by omega,by omega,JK (lo:=0) (n:=m.length) (λz=>Yb a t z.toNat) (λz=>.int z) (BJ (by omega)) (λi hi f X R l=>?_) (λi hi _ f X R l=>⟨_,rfl,l f (Am.refl f)⟩) (λD3 H3 DC s3 S=>?_)⟩
 ·have ei:(0:Int)+((i:Nat):Int)=((i:Nat):Int):=by omega
  rw[ei] at l |-
  obtain⟨r,d⟩:∃ r,a[i]? = some r:=⟨_,ae (by omega)⟩
  obtain⟨b,hb,Y,M⟩:=oo r (ai d)
  obtain⟨j,U⟩:=dE hb
  have e1:Yb a t i=decide (V.int ((j:Nat):Int)=V.int (((bs.map (·.1)).idxOf t:Nat):Int)):=by
   unfold Yb
   rw[d]
   show decide (r.rest.head? = some (V.str t))=_
   rw[M,decide_eq_decide]
   have c:(bs.map (·.1))[j]? = some b.1:=by rw[al,U];rfl
   constructor
   ·intro z
    have A:b.1=t:=V.str.inj (Option.some.inj z)
    rw[A] at c
    have o:=(ag.mp c).1
    rw[(List.getElem?_inj o Z).mp (c.trans (Jc y).symm)]
   ·intro z
    have A:j=(bs.map (·.1)).idxOf t:=by have:=V.int.inj z;omega
    rw[A,Jc y] at c
    show some (V.str b.1)=some (V.str t)
    rw[<-Option.some.inj c]
  obtain⟨s,rn,rr⟩:=r
  obtain rfl:rr=.str b.1::Y:=M
  have W:=(D.mono L).mono X
  obtain⟨⟨⟨vc,pf,_,_,_,_,_,_,_,_,u,_,_,_,_,F,_⟩,_⟩,_⟩:=id W.o
  refine⟨_,rfl,x,vc,pf,rfl,u,F _ (by decide),_,rfl,x,bs,a,i,j,b,s,rn,Y,rfl,W.o.o,d,U,_,rfl,rfl,_,rfl,?_⟩
  have:=l f (Am.refl f)
  rw[bb,e1] at this
  exact this
 have el:((((List.range m.length).map λ(i:Nat)=>(0:Int)+(i:Int)).filter λz=>Yb a t z.toNat).map λz=>V.int z)=nV ((List.range a.length).filter (Yb a t)):=by
  rw[p,eR,ax]
  have ef:((λz:Int=>Yb a t z.toNat) ∘ λ(i:Nat)=>(0:Int)+(i:Int))=Yb a t:=by
   funext k
   show Yb a t ((0:Int)+(k:Int)).toNat=Yb a t k
   rw[gE,bb]
  rw[ef]
  unfold nV
  refine ft λk _=>?_
  show V.int ((0:Int)+(k:Int))=V.int (k:Int)
  rw[gE]
 rw[el] at S
 refine⟨D3,_,rfl,S,ba (bE _ _) (by rw[gz];omega),λn B=>?_,λH4 s4=>q t H4 (g.trans (L.trans (s3.trans s4))) rfl y⟩
 have:=fS.mp (aS.mp B).1
 omega
structure d_ (bs:List (Str × Nat)) (ks:List R):Prop where
 bn:∀ n∈bs.map (·.1),isNm n
 bd:(bs.map (·.1)).Nodup
 kn:∀ n∈Ih ks,isNm n
 kd:(Ih ks).Nodup
 kl:ks.length<=12
 kb:∀ r∈ks,∃ b∈bs,∃ rs,r.rest=.str b.1::rs
structure Di (C Cy pE pA:Addr) (Ho H:Hp) (y x:Addr) (bs:List (Str × Nat)) (ks:List R) (sts:List Nat) (dr sh:Nat) (sd:Addr) (m:Nat->Option Ps) (c:Nat):Prop where
 o:∃ us rk ls,ZZ C Cy Ho H y x us bs rk ks ls sts dr sh sd
 f:d_ bs ks
 hs:Ho sd=none
 ny:sd ≠ y
 st:RN pE pA H sd m c
section
variable {x:Addr} {bs:List (Str × Nat)} {EF DD:Nat} {m m':Nat->Option Ps} {c c':Nat}
theorem Di.ok (h:Di C Cy pE pA Ho H y x bs ks sts dr sh sd m c):Ga C Cy Ho H y x ks sts dr sh sd:=by
 obtain⟨a,rk,d,b⟩:=h.o
 exact⟨⟨a,bs,rk,d,b⟩,h.f.kn,by have:=h.f.kl;omega⟩
theorem Di.mono (s:Am H H') (h:Di C Cy pE pA Ho H y x bs ks sts dr sh sd m c):Di C Cy pE pA Ho H' y x bs ks sts dr sh sd m c:=by
 obtain⟨a,rk,d,b⟩:=h.o
 exact⟨⟨a,rk,d,b.mono s⟩,h.f,h.hs,h.ny,h.st.mono s⟩
theorem Di.at (h:Di C Cy pE pA Ho H y x bs ks sts dr sh sd m c):Dh Cy H y x dr sh sd:=by
 obtain⟨b,rk,d,a⟩:=h.o
 exact a.c
theorem Di.not (h:Di C Cy pE pA Ho H y x bs ks sts dr sh sd m c) {o:Addr} {ps:Ps} (f:Eu pE pA H o ps):o ≠ y/\o ≠ sd:=by
 obtain⟨p,fs,n,g,_⟩:=h.at.ex
 obtain⟨i,j,_⟩:=h.st.ex
 have d:∃ c a b,H o=some (.ins c a b)/\b.lookup ("organ" : Str)=none:=by
  cases ps with
  | every k =>
   obtain⟨a,e⟩:=f
   exact⟨_,_,_,e,by rw[List.lookup_cons,show (("organ" : Str) == "knob_set")=false by decide];rfl⟩
  | part k w =>
   obtain⟨a,e⟩:=f
   exact⟨_,_,_,e,by rw[List.lookup_cons,show (("organ" : Str) == "knob_set")=false by decide];show List.lookup _ _=none;rw[List.lookup_cons,show (("organ" : Str) == "whole_set")=false by decide];rfl⟩
 obtain⟨q,a,b,e,l⟩:=d
 refine⟨λz=>?_,λz=>by rw[z,j] at e;cases e⟩
 rw[z,n] at e
 cases e
 rw[g] at l
 cases l
theorem Di.put (h:Di C Cy pE pA Ho H y x bs ks sts dr sh sd m c) (s:SX y H H') (a:Dh Cy H' y x EF DD sd):Di C Cy pE pA Ho H' y x bs ks sts EF DD sd m c:=by
 obtain⟨l,rk,j,d⟩:=h.o
 obtain⟨f,u,q,i,n⟩:=h.st.ex
 refine⟨⟨l,rk,j,d.o,λb o e=>s b o (d.s b o e) (Ai e d.n),d.n,a⟩,h.f,h.hs,h.ny,f,s _ _ u h.ny,q,i,λp k r t=>?_⟩
 obtain⟨o,v,g⟩:=n p k r t
 exact⟨o,v,g.keep λ_ _ _ e=>s _ _ e (h.not g).1⟩
end
def Le (m:Nat->Option Ps) (p:Nat) (ps:Ps):Nat->Option Ps:=λq=>if q=p then some ps else m q
theorem Ym (kvs:List (Key × V)) (k:Key) (v:V):(putK kvs k v).length<=kvs.length+1:=by
 unfold putK
 split
 ·rw[af]
  omega
 ·rw[am]
  exact ah _
theorem RP {v:V} (h:KD v=true):∃ p:Nat,v=.int (p:Nat)/\p<10:=by
 cases v with
 | int i =>
  have a:(decide (0<=i) && decide (i<10))=true:=h
  rw[fk,decide_eq_true_eq,decide_eq_true_eq] at a
  obtain⟨j,rfl⟩:=iA a.1
  exact⟨j,rfl,by omega⟩
 | _=>cases h
theorem dW {p:Nat} (h:p<10):KD (.int (p:Nat))=true:=by
 show (decide (0<=(p:Int)) && decide ((p:Int)<10))=true
 rw[decide_eq_true (gT p),decide_eq_true (by omega)]
 rfl
section
variable {x:Addr} {bs:List (Str × Nat)} {EF DD:Nat} {m m':Nat->Option Ps} {c c':Nat}
theorem Di.keep (h:Di C Cy pE pA Ho H y x bs ks sts dr sh sd m c) {p:Nat} {ps:Ps} {o:Addr} (e:H sd=some (.dK kvs)) (F:kvs.length<=c) (w:∀ p,p<10->m p=none->CP kvs (Sum.inl (p:Nat))=none) (B:∀ p ps,p<10->m p=some ps->∃ o,CP kvs (Sum.inl (p:Nat))=some (.ref o)/\Eu pE pA H o ps) (l:Eu pE pA H o ps) :
  Di C Cy pE pA Ho (upd H sd (.dK (putK kvs (Sum.inl (p:Nat)) (.ref o)))) y x bs ks sts dr sh sd (Le m p ps) (c+1):=by
 obtain⟨u,rk,t,g⟩:=h.o
 have up:SX sd H (upd H sd (.dK (putK kvs (Sum.inl (p:Nat)) (.ref o)))):=SX.up
 have i:∀ {o ps},Eu pE pA H o ps->Eu pE pA (upd H sd (.dK (putK kvs (Sum.inl (p:Nat)) (.ref o)))) o ps:=λ{_ _} f=>f.keep λ_ _ _ e=>by
  rw[Aw (h.not f).2]
  exact e
 have ne:∀ q:Nat,¬ q=p->¬ (Sum.inl ((q:Nat):Int):Key)=Sum.inl ((p:Nat):Int):=λq d z=>d (by have:=Sum.inl.inj z;omega)
 refine⟨⟨u,rk,t,g.o,λb k j=>up b k (g.s b k j) (λz=>by rw[z,h.hs] at j;cases j),g.n,?_⟩,h.f,h.hs,h.ny,_,Ak,ba (Ym _ _ _) (by omega),λq d a=>?_,λq r d a=>?_⟩
 ·obtain⟨s,fs,v,A⟩:=g.c.ex
  exact⟨s,fs,by rw[Aw (Ne.symm h.ny)];exact v,A⟩
 ·unfold Le at a
  by_cases z:q=p
  ·rw[if_pos z] at a
   cases a
  ·rw[if_neg z] at a
   rw[Gy,if_neg (ne q z)]
   exact w q d a
 ·unfold Le at a
  by_cases z:q=p
  ·rw[if_pos z] at a
   cases a
   subst z
   exact⟨o,by rw[Gy,if_pos rfl],l.keep λ_ _ _ e=>by rw[Aw (h.not l).2];exact e⟩
  ·rw[if_neg z] at a
   obtain⟨E,D,n⟩:=B q r d a
   exact⟨E,by rw[Gy,if_neg (ne q z)];exact D,n.keep λ_ _ _ e=>by rw[Aw (h.not n).2];exact e⟩
end
inductive Yj (C Cy pE pA:Addr) (vs:List V) (H:Hp) (Q:VK) (b9:XK):Prop
 | mk (Ho:Hp) (y x:Addr) (bs:List (Str × Nat)) (ks:List R) (sts:List Nat) (dr sh:Nat) (sd:Addr) (m:Nat->Option Ps) (c:Nat):vs=[.ref y]->Di C Cy pE pA Ho H y x bs ks sts dr sh sd m c->(∀ H',SX y H H'->Di C Cy pE pA Ho H' y x bs ks sts 0 0 sd m c->Q .non H')->Yj C Cy pE pA vs H Q b9
inductive Zh (C Cy pE pA cP:Addr) (vs:List V) (H:Hp) (Q:VK) (E:XK):Prop
 | mk (Ho:Hp) (y x:Addr) (bs:List (Str × Nat)) (ks:List R) (sts:List Nat) (dr sh:Nat) (sd:Addr) (m:Nat->Option Ps) (c:Nat) (v:V):vs=[.ref y,v]->Di C Cy pE pA Ho H y x bs ks sts dr sh sd m c->Ci H v->(∀ (p:Nat) ps H',v=.int (p:Nat)->p<10->m p=some ps->SX y H H'->Di C Cy pE pA Ho H' y x bs ks sts (ps.put dr) sh sd m c->Q .non H')->(∀ H',Am H H'->(∀ p:Nat,v=.int (p:Nat)->p<10->m p=none)->E (.ref cP) none H')->Zh C Cy pE pA cP vs H Q E
inductive Zt (C Cy pE pA cP cB:Addr) (vs:List V) (H:Hp) (Q:VK) (E:XK):Prop
 | mk (Ho:Hp) (y x:Addr) (bs:List (Str × Nat)) (ks:List R) (sts:List Nat) (dr sh:Nat) (sd:Addr) (m:Nat->Option Ps) (c:Nat) (v b:V):vs=[.ref y,v,b]->Di C Cy pE pA Ho H y x bs ks sts dr sh sd m c->c<900->Ci H v->Ci H b->(∀ (p:Nat) H',v=.int (p:Nat)->p<10->b=.non->SX sd H H'->Di C Cy pE pA Ho H' y x bs ks sts dr sh sd (Le m p (.every dr)) (c+1)->Q .non H')->(∀ (p:Nat) t H',v=.int (p:Nat)->p<10->b=.str t->t∈bs.map (·.1)->SX sd H H'->Di C Cy pE pA Ho H' y x bs ks sts dr sh sd (Le m p (.part (dr &&& JF ks t) (JF ks t))) (c+1)->Q .non H')->(∀ H',Am H H'->KD v=false->E (.ref cP) none H')->(∀ H',Am H H'->KD v=true->b ≠ .non->Gj (bs.map (·.1)) b=.non->E (.ref cB) none H')->Zt C Cy pE pA cP cB vs H Q E
theorem uo:Av sN sN (Ae wV):=Bh
include N T in
theorem cC:Ao P w K mg base Bb 2 aD.fXc aD.dXc sN (Yj C Cy pE pA):=by
 refine N.FXc.1.DX uo λH F Q E d h=>?_
 obtain⟨B,y,x,bs,G,s,v,r,k,m,c,rfl,O,q⟩:=h
 have J:=CJ d
 refine⟨_,(Af (CG (Bp (pv 0) T.clR N.FXd.2.2 (Tt N T) (ad d) N.FXd.2.1 .nil Aq (Aa Ac Ab)))
  (Ah (Cv (pv 0) Ac rfl))),?_⟩
 obtain⟨L,rk,z,D⟩:=id O.o
 obtain⟨p,fs,u,I,R,V,U,M,j⟩:=id D.c.ex
 refine⟨_,rfl,y,p,fs,rfl,u,j _ (by decide),y,x,v,r,k,0,rfl,D.c,λS e b=>?_⟩
 obtain⟨a,A,t,o,g,l,f,i,n⟩:=id b.ex
 refine⟨_,rfl,y,Cy,a,_,rfl,t,T.clR,T.nr_shoe_step,by omega,?_⟩
 exact q _ (e.trans SX.up) ((O.put e b).put SX.up (Dh.lD 0 o g l f i n Ak))
theorem xq:Av xI xI (Ae xF):=Bh
include N T in
theorem cV:Ao P w K mg base (Fy P w) 3 aD.fXr aD.dXr xI (Zh C Cy pE pA cP):=by
 refine N.FXr.1.Jr xq λH vs Q E i h=>?_
 obtain⟨Ho,y,x,bs,ks,U,j,S,l,m,c,v,rfl,O,hv,q,s⟩:=h
 have z:=CJ i
 refine⟨_,(Af (Bl (PW.pt (Ew (Cu (DK (zC (bw N T) i rfl N.FIp (Aa (pv 1) Ab)))) (Ej (RD (Nk z (pv 1) (Bc (pv 0) rfl)))))) (Ah (GF T.x4.rP.ex rfl T.x4.mP rfl HJ (Aa BP Ab))) Be)
  (Ah (CG (Bp (pv 0) T.clR N.FXd.2.2 (Tt N T) (ad i) N.FXd.2.1 .nil Aq (Aa (Wu (Fo z (Bc (pv 0) rfl) (pv 1) (λ_ _=>rfl)) T.pis.cE N.FEp.2.2 (lO N T) N.FEp.2.1 T.pis.cA N.FAp.2.2 (qM N T) N.FAp.2.1 (ad i) Aq (Aa (Bc (pv 0) rfl) Ab)) Ab))))),?_⟩
 obtain⟨us,rk,ls,D⟩:=id O.o
 obtain⟨b,fs,f,l1,A,l3,B,l5,J⟩:=id D.c.ex
 obtain⟨I,t,d2,R,X⟩:=id O.st.ex
 refine⟨_,rfl,v,rfl,hv,_,rfl,?_⟩
 cases hb:KD v with
 | false =>
  refine DY ⟨by show 1<=1000;decide,s H (Am.refl H) λp r a=>?_⟩
  rw[r,dW a] at hb
  cases hb
 | true =>
  obtain⟨p,rfl,a⟩:=RP hb
  refine Bk ⟨_,rfl,_,rfl,y,Cy,b,_,_,rfl,f,T.clR,T.nr_stored,B,l,_,rfl,Em.k (k:=Sum.inl ((p:Nat):Int)) t,_,rfl,?_⟩
  cases hm:m p with
  | none =>
   rw[R p a hm]
   exact DY ⟨by show 1<=1000;decide,s H (Am.refl H) λp' r _=>by rw[show p'=p by have:=V.int.inj r;omega];exact hm⟩
  | some g =>
   obtain⟨o,u,F⟩:=X p g a hm
   rw[u]
   refine Bk ⟨_,rfl,y,b,fs,rfl,f,J _ (by decide),_,rfl,y,Cy,b,_,_,rfl,f,T.clR,T.nr_stored,B,_,rfl,l,_,rfl,u ▸ Em.k (k:=Sum.inl ((p:Nat):Int)) t,?_⟩
   have fin:∀ {E0:XK} (n:Nat),n=g.put j->Qs Cy [.ref y,.int (n:Nat)] H (λ_ M=>Q .non M) E0:=λn Z=>⟨y,x,j,S,l,n,rfl,D.c,λW G L=>q p g W rfl a hm G (Z ▸ O.put G L)⟩
   cases g with
   | every k =>
    obtain⟨d,e⟩:=F
    refine⟨o,d,_,rfl,by rw[List.lookup_cons,show (("put" : Str) == "knob_set")=false by decide];rfl,.inl ⟨e,_,rfl,y,Cy,b,_,_,rfl,f,T.clR,T.nr_drawn_set,A,o,d,k,j,rfl,e,fin k rfl⟩⟩
   | part k Y =>
    obtain⟨d,e⟩:=F
    refine⟨o,d,_,rfl,by rw[List.lookup_cons,show (("put" : Str) == "knob_set")=false by decide];show List.lookup _ _=none;rw[List.lookup_cons,show (("put" : Str) == "whole_set")=false by decide];rfl,.inr ⟨e,_,rfl,y,Cy,b,_,_,rfl,f,T.clR,T.nr_drawn_set,A,o,d,k,Y,j,rfl,e,fin _ rfl⟩⟩
theorem lG:Av ["self","piston","board","whole"] ui (Ae VP):=Bh
include N T in
theorem cR:Ao P w K mg base (Fy P w) 6 aD.fXt aD.dXt ui (Zt C Cy pE pA cP cB):=by
 have W:Ao P w K mg base (Fy P w) 5 aD.fKb aD.dKb tT (dh C cB):=mz N T
 refine N.FXt.1.Jr lG λH vs Q E z h=>?_
 obtain⟨Ho,y,x,bs,ks,u,n,sh,r,m,c,v,b,rfl,O,hc,hv,hb,q1,q2,G,R⟩:=h
 have hu:=CJ z
 refine⟨_,(Af (Bl (Cu (DK (zC (bw N T) z rfl N.FIp (Aa (pv 1) Ab)))) (Ah (GF T.x4.rP.ex rfl T.x4.mP rfl HJ (Aa BP Ab))) Be)
  (Ah (Bl (BL Qu (pv 2) Gg (BW _)) (Ah (G_ hu (Bc (pv 0) rfl) (pv 1) (Ib N.FPi.2.2 (bM N T) (z.mono (by decide)) rfl T.pis.mE N.FPi.2.1 .nil Aq (Aa (Bc (pv 0) rfl) Ab)) rfl)) (Af (Ba (i:=3) lG.nd rfl (Or.inl rfl) (Al W (ad z) rfl N.FKb.2.2 N.FKb.1.kp N.FKb.2.1 .nil Df (Aa (Bc (pv 0) rfl) (Aa (pv 2) Ab))))
  (Ah (G_ hu (Bc (pv 0) rfl) (pv 1) (Ib N.FAi.2.2 (lQ N T) (z.mono (by decide)) rfl T.pis.mA N.FAi.2.1 .nil Aq (Aa (BX JS (Bc (pv 0) rfl) (pv 3)) (Aa (pv 3) Ab))) rfl)))))),?_⟩
 obtain⟨us,rk,ls,D⟩:=id O.o
 obtain⟨s,fs,B,l1,l2,l3,l4,l5,lm⟩:=id D.c.ex
 refine⟨_,rfl,v,rfl,hv,_,rfl,?_⟩
 cases hk:KD v with
 | false=>exact DY ⟨by show 1<=1000;decide,G H (Am.refl H) hk⟩
 | true =>
  obtain⟨p,rfl,hp⟩:=RP hk
  refine Bk ?_
  have q:∀ f,Am H f->∀ (o:Addr) (S:Ps),Eu pE pA f o S->∃ g,Ks f r (.int ((p:Nat):Int)) (.ref o) g/\SX r H g/\Di C Cy pE pA Ho g y x bs ks u n sh r (Le m p S) (c+1):=λf j o S E4=>by
   obtain⟨ab,d1,d2,d3,d4⟩:=(O.mono j).st.ex
   exact⟨_,Ks.k (k:=Sum.inl ((p:Nat):Int)) d1 (BJ (by omega)),(SX.of j).trans SX.up,(O.mono j).keep d1 d2 d3 d4 E4⟩
  by_cases X:b=.non
  ·subst X
   refine⟨_,rfl,rfl,_,rfl,DY ⟨_,rfl,y,Cy,s,_,_,rfl,B,T.clR,T.nr_drawn_set,l2,λo d A J I=>?_⟩⟩
   refine⟨o,pE,d,n,rfl,.inl rfl,Ak,rfl,?_⟩
   have l:Am H (upd (upd (upd H d (.own o)) o (.ins pE d [])) o (.ins pE d [("knob_set",.int (n:Nat))])):=λa Z e=>by
    rw[Aw (Ai e A),Aw (Ai e A),Aw (Ai e J)]
    exact e
   have F:Eu pE pA (upd (upd (upd H d (.own o)) o (.ins pE d [])) o (.ins pE d [("knob_set",.int (n:Nat))])) o (.every n):=⟨d,Ak⟩
   generalize (upd (upd (upd H d (.own o)) o (.ins pE d [])) o (.ins pE d [("knob_set",.int (n:Nat))]))=f at l F |-
   obtain⟨g,M,U,L⟩:=q f l o _ F
   exact⟨_,rfl,y,Cy,s,_,_,rfl,l _ _ B,T.clR,T.nr_stored,l4,_,rfl,r,g,rfl,M,q1 p g rfl hp rfl U L⟩
  ·have Y:(decide (b=V.non))=false:=decide_eq_false X
   refine⟨_,rfl,rfl,_,rfl,?_⟩
   rw[Y]
   refine Bk ?_
   refine⟨_,rfl,y,Cy,s,_,_,rfl,B,T.clR,T.nr_organ,l1,_,rfl,x,us,bs,rk,ks,ls,u,b,rfl,D.o.mono D.s,hb,O.f.bn,O.f.bd,ba O.f.kl (by decide),O.f.kb,λt f j ev ht=>?_,λf j e=>R f j hk X e⟩
   subst ev
   refine⟨_,rfl,y,Cy,s,_,_,rfl,j _ _ B,T.clR,T.nr_drawn_set,l2,_,rfl,_,_,rfl,rfl,_,rfl,λo d A J I=>?_⟩
   try dsimp only
   rw[Lp]
   refine⟨o,d,_,_,rfl,Ak,λg c2 F=>⟨rfl,?_⟩⟩
   have l:Am f g:=λa Z e=>c2 a Z (by rw[Aw (Ai e A),Aw (Ai e J)];exact e) (Ai e A)
   obtain⟨H3,M,U,L⟩:=q g (j.trans l) o _ F
   exact⟨_,rfl,y,Cy,s,_,_,rfl,l _ _ (j _ _ B),T.clR,T.nr_stored,l4,_,rfl,r,H3,rfl,M,q2 p t H3 rfl hp rfl ht U L⟩
inductive jO (K:W.Frag) (vs:List V) (H:Hp) (Q:VK) (b9:XK):Prop
 | mk (a:Addr) (k:Nat) (ns:List Int):vs=[.ref a,.int (k:Nat)]->Dg K H a (ns.map V.int)->Q (.int (ns.getD k 0)) H->jO K vs H Q b9
theorem vy:Av zn zn (Ae ul):=Bh
include N T in
theorem qG:Ao P w K mg base Bb 1 aD.fCe aD.dCe zn (jO K):=by
 refine N.FCe.1.DX vy λH g Q E i h=>?_
 obtain⟨a,k,e,rfl,f,q⟩:=h
 refine⟨_,(Af (Bl (BL HR (pv 1) (A_ BZ rfl T.len bo (Aa (pv 0) Ab)) (BW _)) (Ah (Ax (Ay Ij (pv 0) (pv 1) (λ_ _=>rfl)))) Be)
  (Ah (Ax Ac))),?_⟩
 refine⟨_,rfl,_,rfl,a,_,rfl,.inl f,_,_,rfl,rfl,_,rfl,?_⟩
 rw[cc] at q
 refine Cz (λd=>?_) (λd=>?_)
 ·have b:k<e.length:=by have:=of_decide_eq_true d;rw[af] at this;omega
  rw[ae b] at q
  exact⟨_,rfl,_,rfl,a,_,_,.int e[k],rfl,rfl,f,Ag (by rw[al,ae b];rfl),q⟩
 ·have c:e.length<=k:=by
   rw[af,decide_eq_true_eq] at d
   omega
  rw[dt c] at q
  exact q
def Iu (c b m:Int):Int:=(c % 1000003+7) * b % 2147483647 * ((c % 1000003+7) * b % 2147483647) % 2147483629 / 64 % m
theorem Lg (c b:Int) {m:Int} (a:0<m):0<=Iu c b m/\Iu c b m<m:=⟨ko _ (by omega),iE _ a⟩
inductive jG (vs:List V) (H:Hp) (Q:VK) (b9:XK):Prop
 | mk (c b m:Int):vs=[.int c,.int b,.int m]->0<m->0<=b->b<4611686018427387904->Q (.int (Iu c b m)) H->jG vs H Q b9
theorem Uq:Av ["_law_cell","_law_by","_law_many","_law_number"] ve (Ae xG):=Bh
include N T in
theorem jw:Ao P w K mg base Bb 1 aD.fMi aD.dMi ve jG:=by
 refine N.FMi.1.DX Uq λH f Q E j h=>?_
 obtain⟨c,b,m,rfl,a,k,d,q⟩:=h
 refine⟨_,(Af (Ba (i:=3) Uq.nd rfl (Or.inl rfl) (BX E_ (BX JQ (BX Br (BX E_ (pv 0) Ac) Ac) (pv 1)) Ac))
  (Ah (Ax (BX E_ (BX Oc (BX E_ (BX JQ (pv 3) (pv 3)) Ac) Ac) (pv 2))))),?_⟩
 refine⟨_,rfl,_,_,rfl,rfl,(by show (0:Int)<1000003;decide),_,_,rfl,rfl,_,rfl,_,_,rfl,rfl,.inr ⟨by omega,by omega⟩,_,_,rfl,rfl,(by show (0:Int)<2147483647;decide),?_⟩
 have g:0<=(c % 1000003+7) * b % 2147483647:=ko _ (by decide)
 have e:(c % 1000003+7) * b % 2147483647<2147483647:=iE _ (by decide)
 exact⟨_,rfl,_,rfl,_,_,rfl,rfl,.inl ⟨by omega,by omega⟩,_,_,rfl,rfl,(by show (0:Int)<2147483629;decide),_,_,rfl,rfl,⟨by decide,by decide⟩,_,rfl,_,_,rfl,rfl,a,q⟩
def SrcAt (H:Hp) (p:Addr):Prop:=∃ u s:Int,H p=some (.lst [.int u,.int s])/\0<=u/\0<=s/\s<2147483647
def PJ (c:Int):Nat:=(1+Iu c 950706376 8).toNat
theorem Vc (c:Int):1<=PJ c/\PJ c<=8:=by
 have:=Lg c 950706376 (m:=8) (by decide)
 unfold PJ
 omega
theorem jt (c:Int):1+Iu c 950706376 8=((PJ c:Nat):Int):=by
 have:=Lg c 950706376 (m:=8) (by decide)
 unfold PJ
 omega
def Wf (c:Int):Nat:=(Iu c 742938285 (PJ c:Nat)).toNat
theorem cW (c:Int):Wf c<PJ c/\Iu c 742938285 (PJ c:Nat)=((Wf c:Nat):Int):=by
 have h:=Lg c 742938285 (m:=((PJ c:Nat):Int)) (by have:=(Vc c).1;omega)
 unfold Wf
 omega
def cF (c:Int) (n:Nat) (i:Int):Nat:=97+((Iu (c+i) 62089911 26+(n:Int) * (if decide (V.int i=V.int ((Wf c:Nat):Int))=true then 1 else 0)) % 26).toNat
theorem tu (c:Int) (n:Nat) (i:Int):97<=cF c n i/\cF c n i<=122:=by
 unfold cF
 have b:=Int.emod_nonneg (Iu (c+i) 62089911 26+(n:Int) * (if decide (V.int i=V.int ((Wf c:Nat):Int))=true then 1 else 0)) (show (26:Int) ≠ 0 by decide)
 have a:=Int.emod_lt_of_pos (Iu (c+i) 62089911 26+(n:Int) * (if decide (V.int i=V.int ((Wf c:Nat):Int))=true then 1 else 0)) (show (0:Int)<26 by decide)
 omega
def Qa (c:Int) (n:Nat):List Nat:=(List.range (PJ c)).map λj:Nat=>cF c n ((0:Int)+(j:Int))
def HS (c:Int) (n:Nat):Str:=⟨(Qa c n).toArray⟩
theorem Td (c:Int) (n:Nat):(Qa c n).length=PJ c:=by unfold Qa;rw[List.length_map,List.length_range]
theorem Yx (l:List Nat):Txt.join ("" : Str) (l.map λx=>(⟨#[x]⟩:Str))=(⟨l.toArray⟩:Str):=by
 have h:=RM l
 generalize Txt.join ("" : Str) (l.map λx=>(⟨#[x]⟩:Str))=z at h
 obtain⟨a⟩:=z
 have b:a.toList=l:=h
 rw[<-b]
theorem G9 (c:Int) (n:Nat):isNm (HS c n):=by
 have hl:(HS c n).length=PJ c:=by
  have:=Td c n
  show (Qa c n).toArray.size=PJ c
  rw[ci]
  exact this
 have b:=Vc c
 refine⟨by rw[hl];exact b.1,by rw[hl];exact b.2,λx d=>?_⟩
 have a:x∈Qa c n:=d
 unfold Qa at a
 obtain⟨j,_,rfl⟩:=ar.mp a
 exact tu c n _
theorem Js {c:Int} {n':Nat} (h:n<26) (h':n'<26) (e:HS c n=HS c n'):n=n':=by
 have f:(Qa c n).toArray=(Qa c n').toArray:=congrArg Str.cps e
 have g:Qa c n=Qa c n':=by
  have:=congrArg Array.toList f
  exact this
 have d:=(cW c).1
 have a:(Qa c n)[Wf c]? = (Qa c n')[Wf c]?:=by rw[g]
 unfold Qa at a
 rw[al,al,List.getElem?_range d] at a
 have b:cF c n ((0:Int)+((Wf c:Nat):Int))=cF c n' ((0:Int)+((Wf c:Nat):Int)):=Option.some.inj a
 unfold cF at b
 rw[gE,decide_eq_true rfl,if_pos rfl,Int.mul_one,Int.mul_one] at b
 generalize Iu (c+((Wf c:Nat):Int)) 62089911 26=x at b
 omega
theorem Za {l:List Nat} (h:l.length<=8):JoinOk ("" : Str) (l.map λx=>(⟨#[x]⟩:Str))=true:=by
 refine PyProof.Rows.joinOk_of_weight ?_ (by decide)
 rw[ax,af]
 have b:(l.map ((λx:Str=>x.length) ∘ λx=>(⟨#[x]⟩:Str))).sum=l.length:=by
  clear h
  induction l with
  | nil=>rfl
  | cons a l c =>
   rw[cw,ke,c,bp]
   show 1+l.length=l.length+1
   omega
 rw[b]
 omega
inductive fW (vs:List V) (H:Hp) (Q:VK) (b9:XK):Prop
 | mk (c:Int) (n:Nat):vs=[.int c,.int (n:Nat)]->n<=100->(∀ H',Am H H'->Q (.str (HS c n)) H')->fW vs H Q b9
theorem aL:Av wv A6 (Ae qu):=Bh
include N T in
theorem nZ:Ao P w K mg base Bb 2 aD.fNa aD.dNa A6 fW:=by
 refine N.FNa.1.DX aL λH v Q E d h=>?_
 obtain⟨c,n,rfl,s,q⟩:=h
 refine⟨_,(@Af _ _ _ _ _ (@Cw _ _ _ _ _ _ 2 aL.nd rfl (Or.inr rfl) BP (by kernel_rfl) (.inl rfl))
  (@Af _ _ _ _ _ (@Cw _ _ _ _ _ _ 3 aL.nd rfl (Or.inl rfl) (BX Br Ac (zC (jw N T) d rfl N.FMi (@BK _ _ _ _ _ rfl (pv 0) (@BK _ _ _ _ _ rfl Ac (@BK _ _ _ _ _ rfl Ac Ab))))) (by kernel_rfl) (.inl rfl))
  (@Af _ _ _ _ _ (@Cw _ _ _ _ _ _ 4 aL.nd rfl (Or.inr rfl) (zC (jw N T) d rfl N.FMi (@BK _ _ _ _ _ rfl (pv 0) (@BK _ _ _ _ _ rfl Ac (@BK _ _ _ _ _ rfl (pv 3) Ab)))) (by kernel_rfl) (.inl rfl))
  (@Ah _ _ _ (@Ax _ _ _ _ (IK PySem.F.plainAttrs_str PySem.F.slot_str_join PySem.F.type_str_join Z9 BP (@BK _ _ _ _ _ rfl (Bq rfl (Bf (osc:=Ae qu) (N:=wv) rfl rfl (by decide)) (Dv rfl T.range (@BK _ _ _ _ _ rfl (pv 3) Ab)) (λ_ _ _ _=>Cq) (λ_ _ _ _=>(@Ay _ _ _ _ _ _ _ jT (pv 3) (BX E_ (BX Br (zC (jw N T) d rfl N.FMi (@BK _ _ _ _ _ rfl (BX Br (pv 1) (pv 0)) (@BK _ _ _ _ _ rfl Ac (@BK _ _ _ _ _ rfl Ac Ab)))) (BX JQ (pv 2) (Dk Nv rfl T.int gp (@BK _ _ _ _ _ rfl (Dw Bw (pv 0) (pv 5) (BW _)) Ab)))) Ac) (λ_ _=>rfl)))) Ab))))))),?_⟩
 have u:=Vc c
 have g:=cW c
 refine⟨_,rfl,c,950706376,8,rfl,by decide,by decide,by decide,_,_,rfl,rfl,?_⟩
 show Dc 3 (V.int (1+Iu c 950706376 8)) _ _ _
 rw[jt]
 refine⟨_,rfl,_,rfl,c,742938285,_,rfl,(by show (0:Int)<((PJ c:Nat):Int);omega),by decide,by decide,?_⟩
 rw[g.2]
 refine⟨rfl,_,rfl,((PJ c:Nat):Int),rfl,by omega,by omega,?_⟩
 rw[bb]
 refine JK (lo:=0) (n:=PJ c) (λ_=>true) (λi=>.str ⟨#[cF c n i]⟩) (BJ (by omega)) (λi j a o R k=>k a (Am.refl a)) (λi j _ a o R k=>?_) (λD m t f b=>?_)
 ·have r:=k a (Am.refl a)
  refine⟨_,rfl,_,rfl,_,rfl,_,_,rfl,rfl,_,62089911,26,rfl,by decide,by decide,by decide,_,rfl,_,rfl,_,rfl,rfl,.inr ⟨_,rfl,_,_,rfl,rfl,.inl ⟨by omega,by omega⟩,_,_,rfl,rfl,_,_,rfl,rfl,(by show (0:Int)<26;decide),letters,_,_,rfl,rfl,Cg (by decide),jR (Int.emod_nonneg _ (by decide)) (Int.emod_lt_of_pos _ (by decide)),r⟩⟩
 have p:((((List.range (PJ c)).map λ(i:Nat)=>(0:Int)+(i:Int)).filter λ_=>true).map λi=>V.str ⟨#[cF c n i]⟩)=((Qa c n).map λx=>(⟨#[x]⟩:Str)).map V.str:=by
  rw[bg.mpr (λ_ _=>rfl)]
  unfold Qa
  rw[ax,ax,ax]
  rfl
 rw[p] at b
 have e:=Za (l:=Qa c n) (by rw[Td];omega)
 refine⟨("" : Str),D,_,rfl,rfl,kK b,e,?_⟩
 rw[Yx]
 exact q m f
inductive Z7 (vs:List V) (H:Hp) (Q:VK) (b9:XK):Prop
 | mk (c b m:Int):vs=[.int c,.int b,.int m]->0<m->0<=b->b<4611686018427387904->(∀ (z:Nat) H',((z:Nat):Int)<m->Am H H'->True->Q (.int (z:Nat)) H')->Z7 vs H Q b9
include N T in
theorem aj:Ao P w K mg base Bb 1 aD.fMi aD.dMi ve Z7:=by
 refine N.FMi.1.DX Uq λH g Q E j h=>?_
 obtain⟨c,b,m,rfl,a,k,e,d⟩:=h
 refine⟨_,(@Af _ _ _ _ _ (@Cw _ _ _ _ _ _ 3 Uq.nd rfl (Or.inl rfl) (BX E_ (BX JQ (BX Br (BX E_ (pv 0) Ac) Ac) (pv 1)) Ac) (by kernel_rfl) (.inl rfl))
  (@Ah _ _ _ (@Ax _ _ _ _ (BX E_ (BX Oc (BX E_ (BX JQ (pv 3) (pv 3)) Ac) Ac) (pv 2))))),?_⟩
 have q:Q (.int (Iu c b m)) H:=by
  have h:=Lg c b a
  have:=d (Iu c b m).toNat H (by omega) (Am.refl H) trivial
  rw[ki h.1] at this
  exact this
 refine⟨_,rfl,_,_,rfl,rfl,(by show (0:Int)<1000003;decide),_,_,rfl,rfl,_,rfl,_,_,rfl,rfl,.inr ⟨by omega,by omega⟩,_,_,rfl,rfl,(by show (0:Int)<2147483647;decide),?_⟩
 have i:0<=(c % 1000003+7) * b % 2147483647:=ko _ (by decide)
 have f:(c % 1000003+7) * b % 2147483647<2147483647:=iE _ (by decide)
 exact⟨_,rfl,_,rfl,_,_,rfl,rfl,.inl ⟨by omega,by omega⟩,_,_,rfl,rfl,(by show (0:Int)<2147483629;decide),_,_,rfl,rfl,⟨by decide,by decide⟩,_,rfl,_,_,rfl,rfl,a,q⟩
structure GQ (H H':Hp):Prop where
 s:Am H H'
theorem GQ.sx (h:GQ H H') (b:Addr) (o:HO) (e:H b=some o) (_:True):H' b=some o:=h.s b o e
theorem GQ.refl (_:True):GQ H H:=⟨Am.refl H⟩
theorem GQ.same (h:GQ H H1) (s:Am H1 H2):GQ H H2:=⟨h.s.trans s⟩
theorem GQ.draw (h:GQ H H1) (f:Am H1 H2) (_:True):GQ H H2:=⟨h.s.trans f⟩
theorem GQ.trans (h:GQ H H1) (g:GQ H1 H2):GQ H H2:=⟨h.s.trans g.s⟩
theorem GQ.free (h:GQ H H') (a:H' D=none):H D=none:=h.s.free a
theorem GQ.ne (h:GQ H H') (a:H' D=none):True:=trivial
theorem GQ.put (h:GQ H H') (a:H D=none) (_:True):GQ H (upd H' D o):=⟨λb u e=>by rw[Aw (Ai e a)];exact h.s b u e⟩
theorem GQ.tup {v:V} (h:GQ H H') (_:True) (t:TupAt H xs v):TupAt H' xs v:=t.mono h.s
theorem GQ.Xb {α:Type} {f:α->List V} {l:List α} (h:GQ H H') (_:True) (t:Paired (λa v=>TupAt H (f a) v) l vs):Paired (λa v=>TupAt H' (f a) v) l vs:=Paired.Ku t λ_ _ z=>h.tup trivial z
theorem GQ.sr (h:GQ H H'):True:=trivial
def kR (cb:Nat->Str) (nm:Str):Kb->R
 | .cp i j s=>⟨"coupler",nm,[.str (cb i),.str (cb j),.int s]⟩
 | .pl w i=>⟨w,nm,[.str (cb i)]⟩
theorem Q6 (a:Nat->Str) (nm:Str) (z:Kb):(kR a nm z).w=z.w:=by cases z <;> rfl
theorem M7 (a:Nat->Str) (nm:Str) (z:Kb):(kR a nm z).nm=nm:=by cases z <;> rfl
def lR (rn:Nat->Str) (l:Ln):R:=⟨"line",rn l.r,[.int l.sh,.int l.lo,.int l.hi]⟩
abbrev nB (bs:List (Str × Nat)) (i:Nat):Str:=(bs.getD i ("",0)).1
abbrev zB (bs:List (Str × Nat)) (i:Nat):Nat:=(bs.getD i ("",0)).2
abbrev nR (rk:List (Str × Nat × Int)) (i:Nat):Str:=(rk.getD i ("",0,0)).1
def zR:Kb->Nat
 | .cp i _ _=>i
 | .pl _ i=>i
structure zJ (bs:List (Str × Nat)) (rk:List (Str × Nat × Int)) (z:Kb) (l:List Ln):Prop where
 ok:z.ok bs.length
 len:l.length<=3
 ln:∀ x∈l,x.r<rk.length/\0<=x.lo/\x.lo<=x.hi/\x.hi<(zB bs (zR z):Nat) /\ -2<=x.sh/\x.sh<=5
 st:z.w ≠ "stop"->l=[]
 cp:∀ i j s,z=.cp i j s->-4<=s/\s<=4
theorem Pu {bs:List (Str × Nat)} {a:Nat} (h:a<bs.length):bs[a]? = some (nB bs a,zB bs a):=by
 unfold nB zB
 rw[cc,ae h]
 rfl
theorem jo {rk:List (Str × Nat × Int)} {a:Nat} (h:a<rk.length):∃ m wi,rk[a]? = some (nR rk a,m,wi):=by
 refine⟨rk[a].2.1,rk[a].2.2,?_⟩
 unfold nR
 rw[cc,ae h]
 rfl
theorem X8 {c:TT} {t a u:TS} {D:Ends} (P:St->Hp->Prop) (d:∀ D':Ends,(∀ σ' H',P σ' H'->D'.nx σ' H')->ZQ c t a D' σ H) (b:∀ σ' H',P σ' H'->u D σ' H'):iu (ZQ c t a) u D σ H:=d { D with nx:=u D } b
theorem gN {v:V} {Q:St->Hp->Prop} (h:Q (σ.set i (some v)) H):Dc i v σ H Q:=h
inductive di (vs:List V) (H:Hp) (Q:VK) (b9:XK):Prop
 | mk (c0:Int) (B RA:Addr) (bs:List (Str × Nat)) (rk:List (Str × Nat × Int)) (i5 kU:List V) (nm:Str):vs=[.int c0,.ref B,.ref RA,.str nm]->True->H B=some (.lst i5)->True->Paired (λb v=>TupAt H (Es b).v v) bs i5->1<=bs.length->bs.length<=5->(∀ b∈bs,1<=b.2/\b.2<=61)->H RA=some (.lst kU)->True->Paired (λr v=>TupAt H (Fv r).v v) rk kU->1<=rk.length->rk.length<=12->(∀ (D:Addr) (ws:List V) (z:Kb) (l:List Ln) H',H D=none->GQ H H'->H' D=some (.lst ws)->Paired (λ(r:R) v=>TupAt H' r.v v) (kR (nB bs) nm z::l.map (lR (nR rk))) ws->zJ bs rk z l->Q (.ref D) H')->di vs H Q b9
theorem Lr:Av ["_law_cell","_law_boards","_law_ranks","_law_name_here","_law_at","_law_way","_law_to","_law_rows_here","_law_k","_law_rank","_law_low","_law_high"] vr (Ae yL):=Bh
include N T in
theorem lU:Ao P w K mg base Bb 3 aD.fLj aD.dLj vr di:=by
 refine N.FLj.1.DX Lr λH vs Q E u h=>?_
 obtain⟨c0,B,RA,bs,rk,i5,kU,A,rfl,L,I,M,xz,b1,b5,aK,hR,Pw,xB,r1,a2,q⟩:=h
 refine⟨_,(@Af _ _ _ _ _ (@Cw _ _ _ _ _ _ 4 Lr.nd rfl (Or.inl rfl) (zC (aj N T) u rfl N.FMi (@BK _ _ _ _ _ rfl (pv 0) (@BK _ _ _ _ _ rfl Ac (@BK _ _ _ _ _ rfl (A_ BZ rfl T.len bo (@BK _ _ _ _ _ rfl (pv 1) Ab)) Ab)))) (by kernel_rfl) (.inl rfl))
  (@Af _ _ _ _ _ (@Cw _ _ _ _ _ _ 5 Lr.nd rfl (Or.inl rfl) (zC (aj N T) u rfl N.FMi (@BK _ _ _ _ _ rfl (pv 0) (@BK _ _ _ _ _ rfl Ac (@BK _ _ _ _ _ rfl Ac Ab)))) (by kernel_rfl) (.inl rfl))
  (@Af _ _ _ _ _ (@Bl _ _ _ _ _ _ _ _ (BL Bw (pv 5) Ac (BW _)) (@Ah _ _ _ (@Ax _ _ _ _ (@Eb _ _ _ _ (@BK _ _ _ _ _ rfl (@Cm _ _ _ _ _ (@BK _ _ _ _ _ rfl BP (@BK _ _ _ _ _ rfl (pv 3) (@BK _ _ _ _ _ rfl (@Ay _ _ _ _ _ _ _ (An (K:=K) rfl) (@Ay _ _ _ _ _ _ _ (Bm (K:=K) rfl) (pv 1) (pv 4) (λ_ _=>rfl)) Ac (λ_ _=>rfl)) Ab)))) Ab)))) Be)
  (@Af _ _ _ _ _ (@Bl _ _ _ _ _ _ _ _ (BL HR (pv 5) Ac (BW _)) (@Af _ _ _ _ _ (@Cw _ _ _ _ _ _ 6 Lr.nd rfl (Or.inl rfl) (@Ay _ _ _ _ _ _ _ (An (K:=K) rfl) (@Ay _ _ _ _ _ _ _ (Bm (K:=K) rfl) (pv 1) (zC (aj N T) u rfl N.FMi (@BK _ _ _ _ _ rfl (pv 0) (@BK _ _ _ _ _ rfl Ac (@BK _ _ _ _ _ rfl (A_ BZ rfl T.len bo (@BK _ _ _ _ _ rfl (pv 1) Ab)) Ab)))) (λ_ _=>rfl)) Ac (λ_ _=>rfl)) (by kernel_rfl) (.inl rfl))
  (@Ah _ _ _ (@Ax _ _ _ _ (@Eb _ _ _ _ (@BK _ _ _ _ _ rfl (@Cm _ _ _ _ _ (@BK _ _ _ _ _ rfl BP (@BK _ _ _ _ _ rfl (pv 3) (@BK _ _ _ _ _ rfl (@Ay _ _ _ _ _ _ _ (An (K:=K) rfl) (@Ay _ _ _ _ _ _ _ (Bm (K:=K) rfl) (pv 1) (pv 4) (λ_ _=>rfl)) Ac (λ_ _=>rfl)) (@BK _ _ _ _ _ rfl (pv 6) (@BK _ _ _ _ _ rfl (BX Fz (zC (aj N T) u rfl N.FMi (@BK _ _ _ _ _ rfl (pv 0) (@BK _ _ _ _ _ rfl Ac (@BK _ _ _ _ _ rfl Ac Ab)))) Ac) Ab)))))) Ab))))) Be)
  (@Af _ _ _ _ _ (@Cw _ _ _ _ _ _ 7 Lr.nd rfl (Or.inl rfl) (@Eb _ _ _ _ (@BK _ _ _ _ _ rfl (@Cm _ _ _ _ _ (@BK _ _ _ _ _ rfl BP (@BK _ _ _ _ _ rfl (pv 3) (@BK _ _ _ _ _ rfl (@Ay _ _ _ _ _ _ _ (An (K:=K) rfl) (@Ay _ _ _ _ _ _ _ (Bm (K:=K) rfl) (pv 1) (pv 4) (λ_ _=>rfl)) Ac (λ_ _=>rfl)) Ab)))) Ab)) (by kernel_rfl) (.inl rfl))
  (@Af _ _ _ _ _ (Eo PassesOwn.never rfl (Dv rfl T.range (@BK _ _ _ _ _ rfl (BX Br Ac (zC (aj N T) u rfl N.FMi (@BK _ _ _ _ _ rfl (pv 0) (@BK _ _ _ _ _ rfl Ac (@BK _ _ _ _ _ rfl Ac Ab))))) Ab)) (Cd (i:=8) Lr.nd rfl (Or.inl rfl)) (@Af _ _ _ _ _ (@Cw _ _ _ _ _ _ 9 Lr.nd rfl (Or.inl rfl) (@Ay _ _ _ _ _ _ _ (An (K:=K) rfl) (@Ay _ _ _ _ _ _ _ (Bm (K:=K) rfl) (pv 2) (zC (aj N T) u rfl N.FMi (@BK _ _ _ _ _ rfl (BX Br (pv 0) (pv 8)) (@BK _ _ _ _ _ rfl Ac (@BK _ _ _ _ _ rfl (A_ BZ rfl T.len bo (@BK _ _ _ _ _ rfl (pv 2) Ab)) Ab)))) (λ_ _=>rfl)) Ac (λ_ _=>rfl)) (by kernel_rfl) (.inl rfl))
  (@Af _ _ _ _ _ (@Cw _ _ _ _ _ _ 10 Lr.nd rfl (Or.inl rfl) (zC (aj N T) u rfl N.FMi (@BK _ _ _ _ _ rfl (BX Br (pv 0) (pv 8)) (@BK _ _ _ _ _ rfl Ac (@BK _ _ _ _ _ rfl (@Ay _ _ _ _ _ _ _ (An (K:=K) rfl) (@Ay _ _ _ _ _ _ _ (Bm (K:=K) rfl) (pv 1) (pv 4) (λ_ _=>rfl)) Ac (λ_ _=>rfl)) Ab)))) (by kernel_rfl) (.inl rfl))
  (@Af _ _ _ _ _ (@Cw _ _ _ _ _ _ 11 Lr.nd rfl (Or.inl rfl) (BX Br (pv 10) (zC (aj N T) u rfl N.FMi (@BK _ _ _ _ _ rfl (BX Br (pv 0) (pv 8)) (@BK _ _ _ _ _ rfl Ac (@BK _ _ _ _ _ rfl (BX Fz (@Ay _ _ _ _ _ _ _ (An (K:=K) rfl) (@Ay _ _ _ _ _ _ _ (Bm (K:=K) rfl) (pv 1) (pv 4) (λ_ _=>rfl)) Ac (λ_ _=>rfl)) (pv 10)) Ab))))) (by kernel_rfl) (.inl rfl))
  (@Af _ _ _ _ _ (@Bl _ _ _ _ _ _ _ _ (BL HR (pv 5) Ac (BW _)) (@Af _ _ _ _ _ (@Cw _ _ _ _ _ _ 10 Lr.nd rfl (Or.inl rfl) Ac (by kernel_rfl) (.inl rfl))
  (@Ah _ _ _ (@Cw _ _ _ _ _ _ 11 Lr.nd rfl (Or.inl rfl) (BX Fz (@Ay _ _ _ _ _ _ _ (An (K:=K) rfl) (@Ay _ _ _ _ _ _ _ (Bm (K:=K) rfl) (pv 1) (pv 4) (λ_ _=>rfl)) Ac (λ_ _=>rfl)) Ac) (by kernel_rfl) (.inl rfl)))) Be)
  (@Ah _ _ _ (CG (IK cq ee et Dj (pv 7) (@BK _ _ _ _ _ rfl (@Cm _ _ _ _ _ (@BK _ _ _ _ _ rfl BP (@BK _ _ _ _ _ rfl (pv 9) (@BK _ _ _ _ _ rfl (BX Fz (zC (aj N T) u rfl N.FMi (@BK _ _ _ _ _ rfl (BX Br (pv 0) (pv 8)) (@BK _ _ _ _ _ rfl Ac (@BK _ _ _ _ _ rfl Ac Ab)))) Ac) (@BK _ _ _ _ _ rfl (pv 10) (@BK _ _ _ _ _ rfl (pv 11) Ab)))))) Ab)))))))))
  (@Ah _ _ _ (@Ax _ _ _ _ (pv 7))))))))),?_⟩
 have lb:=xz.length
 have lr:=xB.length
 refine⟨_,rfl,_,rfl,B,_,rfl,kK (.inl I),_,_,_,rfl,(by show (0:Int)<((i5.length:Nat):Int);omega),by decide,by decide,λa H1 ha f1 KU=>?_⟩
 have St:GQ H H1:=(GQ.refl L).draw f1 KU
 have s:a<bs.length:=by omega
 obtain⟨bv,U,K0⟩:=CN xz (Pu s)
 have Y2:=aK _ (ai (Pu s))
 refine⟨_,rfl,_,_,8,rfl,by decide,by decide,by decide,λwy H2 a3 f2 KW=>?_⟩
 have k:=St.draw f2 KW
 refine⟨_,rfl,rfl,_,rfl,Cz (λg=>?_) (λg=>?_)⟩
 ·have Y:=k.sx _ _ I M
  obtain⟨T,rfl,hT⟩:=k.tup L K0
  refine⟨_,rfl,_,rfl,_,rfl,B,_,_,_,rfl,rfl,kK Y,Ag U,T,_,_,_,rfl,rfl,kK hT,Ag (j:=1) rfl,by show 3<=sizeLine;decide,λc sA=>⟨Cg (by simp),λD m=>?_⟩⟩
  have y:=BR (o:=HO.tup [V.str "mute",V.str A,V.str (nB bs a)]) sA
  have G:=BR (o:=HO.lst [V.ref c]) m
  exact q D [V.ref c] (.pl "mute" a) [] _ (k.free (y.free m)) (k.same (y.trans G)) Ak (.cons ⟨c,rfl,G _ _ Ak⟩ .nil) ⟨⟨s,.inl rfl⟩,by decide,(λ_ h=>nomatch h),λ_=>rfl,λ_ _ _ h=>nomatch h⟩
 refine⟨_,rfl,_,_,rfl,rfl,_,rfl,Cz (λg2=>?_) (λg2=>?_)⟩
 ·have Y:=k.sx _ _ I M
  refine⟨_,rfl,_,rfl,_,rfl,B,_,rfl,kK (.inl Y),_,_,_,rfl,(by show (0:Int)<((i5.length:Nat):Int);omega),by decide,by decide,λb H3 hb f3 IM=>?_⟩
  have S3:=k.draw f3 IM
  have ap:b<bs.length:=by omega
  obtain⟨cv,aB,YO⟩:=CN xz (Pu ap)
  have VS:=S3.sx _ _ I M
  obtain⟨T,rfl,hT⟩:=S3.tup L K0
  obtain⟨T2,rfl,oq⟩:=S3.tup L YO
  refine⟨B,_,_,_,rfl,rfl,kK VS,Ag aB,T2,_,_,_,rfl,rfl,kK oq,Ag (j:=1) rfl,?_⟩
  refine⟨_,rfl,_,rfl,_,rfl,B,_,_,_,rfl,rfl,kK VS,Ag U,T,_,_,_,rfl,rfl,kK hT,Ag (j:=1) rfl,_,rfl,_,rfl,_,_,9,rfl,by decide,by decide,by decide,λe H4 he f4 LW=>⟨_,_,rfl,rfl,by show 5<=sizeLine;decide,λc sA=>⟨Cg (by simp),λD m=>?_⟩⟩⟩
  have S4:=S3.draw f4 LW
  generalize an:upd H4 c _=p at m |-
  have y:Am H4 p:=an ▸ BR sA
  have u6:p c=some (.tup (kR (nB bs) A (.cp a b (((e:Nat):Int) - 4))).v):=by
   rw[<-an,Ak]
   rfl
  have G:=BR (o:=HO.lst [V.ref c]) m
  exact q D [V.ref c] (.cp a b (((e:Nat):Int) - 4)) [] _ (S4.free (y.free m)) (S4.same (y.trans G)) Ak (.cons ⟨c,rfl,G _ _ u6⟩ .nil) ⟨⟨s,ap,by omega,by omega⟩,by decide,(λ_ h=>nomatch h),λ_=>rfl,λ_ _ _ h=>by injection h with _ _ h;omega⟩
 have Y:=k.sx _ _ I M
 have a5:=k.sx _ _ hR Pw
 obtain⟨T,eT,hT⟩:=k.tup L K0
 subst eT
 refine⟨_,rfl,_,rfl,_,rfl,B,_,_,_,rfl,rfl,kK Y,Ag U,T,_,_,_,rfl,rfl,kK hT,Ag (j:=1) rfl,by show 3<=sizeLine;decide,λc sA=>⟨Cg (by simp),λD m=>?_⟩⟩
 have y:=BR (o:=HO.tup [V.str "stop",V.str A,V.str (nB bs a)]) sA
 have u6:upd H2 c (HO.tup [V.str "stop",V.str A,V.str (nB bs a)]) c=some (.tup (kR (nB bs) A (.pl "stop" a)).v):=Ak
 generalize upd H2 c (HO.tup [V.str "stop",V.str A,V.str (nB bs a)])=H3 at y u6 m |-
 obtain⟨H4,i7,G,u7⟩:=El (o:=HO.lst [V.ref c]) m
 rw[i7]
 have S4:=k.same (y.trans G)
 have Z:H D=none:=k.free (y.free m)
 have ab:True:=(k.same y).ne m
 refine⟨_,rfl,_,_,3,rfl,by decide,by decide,by decide,λt H5 ht f5 IF=>⟨_,_,rfl,rfl,_,rfl,by omega,by omega,?_⟩⟩
 have S5:=S4.draw f5 IF
 have u5:H5 D=some (.lst [V.ref c]):=f5 _ _ u7
 have w5:TupAt H5 (kR (nB bs) A (.pl "stop" a)).v (.ref c):=by
  refine⟨c,rfl,?_⟩
  have h6:=G _ _ u6
  exact f5 _ _ h6
 refine Gx (lo:=0) (n:=(1+((t:Nat):Int)).toNat) (λi σ p=>GQ H p/\∃ (J:List V) (l:List Ln),p D=some (.lst J)/\Paired (λ(r:R) v=>TupAt p r.v v) (kR (nB bs) A (.pl "stop" a)::l.map (lR (nR rk))) J/\l.length=i/\(∀ x∈l,x.r<rk.length/\0<=x.lo/\x.lo<=x.hi/\x.hi<(zB bs a:Nat) /\ -2<=x.sh/\x.sh<=5)/\∃ v6 v8 v9 vS TZ,σ=[some (.int c0),some (.ref B),some (.ref RA),some (.str A),some (.int (a:Nat)),some (.int (wy:Nat)),v6,some (.ref D),v8,v9,vS,TZ])
  ⟨S5,[V.ref c],[],u5,.cons w5 .nil,rfl,(λ_ h=>nomatch h),_,_,_,_,_,rfl⟩ ?_ ?_
 ·rintro i σ p hi ⟨F,J,l,UP,C,hl,O,v6,v8,v9,vS,TZ,rfl⟩
  have a1:=F.sx _ _ hR Pw
  refine⟨_,rfl,_,rfl,_,rfl,_,_,rfl,rfl,_,rfl,RA,_,rfl,kK (.inl a1),_,_,_,rfl,(by show (0:Int)<((kU.length:Nat):Int);omega),by decide,by decide,λr H7 u f7 LL=>?_⟩
  have ac:GQ p H7:=(GQ.refl F.sr).draw f7 LL
  have S7:=F.trans ac
  have aw:r<rk.length:=by omega
  obtain⟨rm,rw,aZ⟩:=jo aw
  obtain⟨rv,LV,aC⟩:=CN xB aZ
  obtain⟨T2,rfl,oq⟩:=S7.tup L aC
  refine⟨RA,_,_,_,rfl,rfl,kK (S7.sx _ _ hR Pw),Ag LV,T2,_,_,_,rfl,rfl,kK oq,Ag (j:=1) rfl,?_⟩
  have tb:∀ {X:Hp},GQ H X->X T=some (.tup (Es (nB bs a,zB bs a)).v):=λS'=>by
   obtain⟨T',e',aM⟩:=S'.tup L K0
   cases e'
   exact aM
  refine⟨_,rfl,_,rfl,_,_,rfl,rfl,_,rfl,_,rfl,B,_,_,_,rfl,rfl,kK (S7.sx _ _ I M),Ag U,T,_,_,_,rfl,rfl,kK (tb S7),Ag (j:=2) rfl,_,_,_,rfl,(by show (0:Int)<((zB bs a:Nat):Int);have:=Y2.1;omega),by decide,by decide,λlo H8 a4 f8 w9=>?_⟩
  have ZU:=ac.draw f8 w9
  have S8:=F.trans ZU
  refine⟨_,rfl,_,rfl,_,rfl,_,_,rfl,rfl,_,rfl,_,rfl,B,_,_,_,rfl,rfl,kK (S8.sx _ _ I M),Ag U,T,_,_,_,rfl,rfl,kK (tb S8),Ag (j:=2) rfl,_,rfl,_,_,rfl,rfl,_,_,_,rfl,(by show (0:Int)<((zB bs a:Nat):Int) - ((lo:Nat):Int);omega),by decide,by decide,λd H9 hd f9 sg=>⟨_,_,rfl,rfl,?_⟩⟩
  have OL:=ZU.draw f9 sg
  have S9:=F.trans OL
  refine gN (i:=11) ?_
  try dsimp only
  refine X8 (λσ' X=>X=H9/\∃ S W:Int,0<=S/\S<=W/\W<((zB bs a:Nat):Int)/\σ'=[some (.int c0),some (.ref B),some (.ref RA),some (.str A),some (.int (a:Nat)),some (.int (wy:Nat)),v6,some (.ref D),some (.int ((0:Int)+(i:Int))),some (.str (nR rk r)),some (.int S),some (.int W)]) (λD' EI=>?_) ?_
  ·refine⟨_,rfl,_,_,rfl,rfl,_,rfl,Cz (λg3=>?_) (λg3=>?_)⟩
   ·refine⟨_,rfl,_,rfl,B,_,_,_,rfl,rfl,kK (S9.sx _ _ I M),Ag U,T,_,_,_,rfl,rfl,kK (tb S9),Ag (j:=2) rfl,_,_,rfl,rfl,EI _ _ ⟨rfl,0,((zB bs a:Nat):Int) - 1,by decide,by have:=Y2.1;omega,by omega,rfl⟩⟩
   ·exact EI _ _ ⟨rfl,((lo:Nat):Int),((lo:Nat):Int)+((d:Nat):Int),by omega,by omega,by have:=hd;omega,rfl⟩
  ·rintro σ' X ⟨rfl,S,W,w1,w2,w3,rfl⟩
   have dl:∀ {Hx:Hp},GQ p Hx->Hx D=some (.lst J):=λS'=>S'.sx _ _ UP ab
   refine⟨_,rfl,.inl ⟨rfl,_,kK (dl OL)⟩,_,rfl,_,rfl,_,rfl,_,_,rfl,rfl,_,_,8,rfl,by decide,by decide,by decide,λsh Ha a6 fa aN=>⟨_,_,rfl,rfl,_,rfl,_,rfl,by show 5<=sizeLine;decide,λT9 aQ=>?_⟩⟩
   have Sa:=OL.draw fa aN
   generalize as:upd Ha T9 _=Hb
   have a0:Am Ha Hb:=as ▸ BR aQ
   have ub:Hb T9=some (.tup (lR (nR rk) ⟨r,((sh:Nat):Int) - 2,S,W⟩).v):=by
    rw[<-as,Ak]
    rfl
   have Sb:=Sa.same a0
   have pb:=dl Sb
   have aP:=C.length
   rw[bp,af] at aP
   refine⟨D,J,_,rfl,rfl,pb,BJ (by omega),?_⟩
   refine⟨(F.trans Sb).put Z ab,J++[V.ref T9],l++[⟨r,((sh:Nat):Int) - 2,S,W⟩],Ak,?_,by rw[am,ay,hl],λx hx=>?_,_,_,_,_,_,rfl⟩
   ·rw[cm]
    exact (CW (Sb.Xb (f:=λr:R=>r.v) F.sr C) pb).snoc (TupAt.upd ⟨T9,rfl,ub⟩ pb)
   ·rcases bX.mp hx with hx | hx
    ·exact O x hx
    ·rw[av.mp hx]
     exact⟨aw,w1,w2,w3,by show (-2:Int)<=((sh:Nat):Int) - 2;omega,by show ((sh:Nat):Int) - 2<=5;omega⟩
 ·rintro σ p ⟨F,J,l,UP,C,hl,O,v6,v8,v9,vS,TZ,rfl⟩
  exact⟨_,rfl,q D J (.pl "stop" a) l p Z F UP C ⟨⟨s,.inr rfl⟩,by omega,O,(λz=>absurd rfl z),λ_ _ _ h=>nomatch h⟩⟩
theorem Kq {α:Type} {F:α->V->Prop} (p:α->Bool) (q:V->Bool):∀ {xs:List α} {ys:List V},Paired F xs ys->(∀ x y,x∈xs->F x y->q y=p x)->Paired F (xs.filter p) (ys.filter q)
 | [],_,h,_=>by
  cases h
  exact .nil
 | x::xs,_,h,e=>by
  cases h with
  | cons a b =>
   have c:=Kq p q b λx y d h=>e x y (bq _ d) h
   rw[ff,ff,e x _ ce a]
   split
   ·exact .cons a c
   ·exact c
structure qX (K:W.Frag) (aB aP aM:Addr):Prop where
 f:Yc K aB aP aM
 mT:∃ t,W.nsIn K aM "step" = some (some (.int 12 t))
structure OD (c:Int) (bs:List (Str × Nat)) (rk:List (Str × Nat × Int)):Prop where
 b:∀ (j:Nat) b,bs[j]? = some b->b.1=HS c j/\1<=b.2/\b.2<=61
 r:∀ (j:Nat) r,rk[j]? = some r->r.1=HS c (3+j)/\1<=r.2.1/\r.2.1<=97/\0<=r.2.2/\r.2.2<=1000000000
 lb:bs.length<=3
 lr:rk.length<=3
theorem OD.nb {c:Int} {bs:List (Str × Nat)} {rk:List (Str × Nat × Int)} (h:OD c bs rk) (g:bs.length<=n) (f:n<26):∀ b∈bs,b.1 ≠ HS c n:=λb d e=>by
 obtain⟨j,a⟩:=dE d
 have hl:=(ag.mp a).1
 have:=h.lb
 have:=Js (c:=c) (n:=j) (n':=n) (by omega) f ((h.b j b a).1.symm.trans e)
 omega
theorem OD.nr {c:Int} {bs:List (Str × Nat)} {rk:List (Str × Nat × Int)} (h:OD c bs rk) (g:3+rk.length<=n) (f:n<26):∀ r∈rk,r.1 ≠ HS c n:=λb d e=>by
 obtain⟨j,a⟩:=dE d
 have hl:=(ag.mp a).1
 have:=h.lr
 have:=Js (c:=c) (n:=3+j) (n':=n) (by omega) f ((h.r j b a).1.symm.trans e)
 omega
theorem Ld {α:Type} {l:List α} {x y:α} (h:(l++[x])[j]? = some y):l[j]? = some y \/ (j=l.length/\y=x):=by
 by_cases a:j<l.length
 ·rw[fw a] at h
  exact .inl h
 ·have hl:=(ag.mp h).1
  rw[am,ay] at hl
  have e:j=l.length:=by omega
  subst e
  rw[dc (ah _),kq] at h
  exact .inr ⟨rfl,(Option.some.inj h).symm⟩
theorem OD.W4 {c:Int} {bs:List (Str × Nat)} (h:OD c bs []) (hl:bs.length<3) (e:1<=m) (d:m<=61):OD c (bs++[(HS c bs.length,m)]) []:=by
 refine⟨λj b a=>?_,λj r a=>by simp at a,by rw[List.length_append,List.length_singleton];omega,by decide⟩
 rcases Ld a with a | ⟨rfl,rfl⟩
 ·exact h.b j b a
 ·exact⟨rfl,e,d⟩
theorem OD.rank {c:Int} {bs:List (Str × Nat)} {rk:List (Str × Nat × Int)} (h:OD c bs rk) (hl:rk.length<3) {b:Int} (e:1<=m) (d:m<=97) (g:0<=b) (f:b<=1000000000):OD c bs (rk++[(HS c (3+rk.length),m,b)]):=by
 refine⟨h.b,λj r a=>?_,h.lb,by rw[am,ay];omega⟩
 rcases Ld a with a | ⟨rfl,rfl⟩
 ·exact h.r j r a
 ·exact⟨rfl,e,d,g,f⟩
theorem OD.zO {c:Int} {bs:List (Str × Nat)} {rk:List (Str × Nat × Int)} (h:OD c bs rk):(bs.map (·.1)).Nodup:=by
 refine M4 λi j x e d=>?_
 rw[al] at e d
 obtain⟨g,b,f⟩:=aE.mp e
 obtain⟨k,a,l⟩:=aE.mp d
 have:=(ag.mp b).1
 have:=(ag.mp a).1
 have:=h.lb
 exact Js (c:=c) (by omega) (by omega) ((h.b i g b).1.symm.trans ((f.trans l.symm).trans (h.b j k a).1))
theorem OD.zL {c:Int} {bs:List (Str × Nat)} {rk:List (Str × Nat × Int)} (h:OD c bs rk):(rk.map (·.1)).Nodup:=by
 refine M4 λi j x e d=>?_
 rw[al] at e d
 obtain⟨g,b,f⟩:=aE.mp e
 obtain⟨k,a,l⟩:=aE.mp d
 have:=(ag.mp b).1
 have:=(ag.mp a).1
 have:=h.lr
 have:=Js (c:=c) (n:=3+i) (n':=3+j) (by omega) (by omega) ((h.r i g b).1.symm.trans ((f.trans l.symm).trans (h.r j k a).1))
 omega
def Kl (bs:List (Str × Nat)) (nms:List Str) (kbs:List Kb):List R:=List.zipWith (kR (nB bs)) nms kbs
abbrev U9 (z:Kb):Bool:=!decide (V.str z.w=V.str "stop")
structure Jz (K:W.Frag) (aB aP aM:Addr) (c:Int) (k ld m:Nat) (bs:List (Str × Nat)) (rk:List (Str × Nat × Int)) (rows:List R) (nms:List Str) (kbs:List Kb) (ls:List (List Ln)) (sts:List Nat) (sn:List Str):Prop where
 bl:HX K aB aP aM rows bs rk (Kl bs nms kbs) ls sts
 ek:rows.filter (λr=>G3 r.w)=Kl bs nms kbs
 bd:OD c bs rk
 nl:nms.length=kbs.length
 nk:kbs.length<=k
 nm:∀ t∈nms,∃ j,j<k/\t=HS c (6+j)
 nd:nms.Nodup
 kb:R7 bs.length kbs
 mu:(kbs.filter (Gb "mute")).length<=5
 lq:(kbs.filter U9).length<=ld
 lg:gO rk ls
 sq:∀ t∈sn,∃ r∈Kl bs nms kbs,r.w = "stop" /\ r.nm=t
 sd:sn.Nodup
 sk:sn.length<=k
 rl:rows.length<=m
 st:sts.length<=2
theorem Jv {α β γ:Type} (f:α->β->γ):∀ {l:List α} {m:List β} (a:α) (b:β),l.length=m.length->List.zipWith f (l++[a]) (m++[b])=List.zipWith f l m++[f a b]
 | [],[],_,_,_=>rfl
 | x::l,y::m,a,b,h=>by
  show f x y::List.zipWith f (l++[a]) (m++[b])=_
  rw[Jv f a b (Nat.succ.inj h)]
  rfl
theorem Od {bs:List (Str × Nat)} (h:r∈Kl bs nms kbs):∃ t∈nms,∃ z∈kbs,r=kR (nB bs) t z:=by
 unfold Kl at h
 obtain⟨i,a,e⟩:=fI.mp h
 rw[List.getElem_zipWith] at e
 rw[io] at a
 exact⟨_,dL (by omega),_,dL (by omega),e.symm⟩
theorem N5 {bs:List (Str × Nat)} (wd:Str):∀ {nms:List Str} {kbs:List Kb},nms.length=kbs.length->((Kl bs nms kbs).filter λr=>decide (V.str r.w=V.str wd)).length=(kbs.filter (Gb wd)).length
 | [],[],_=>rfl
 | t::nms,z::kbs,h=>by
  have a:=N5 wd (nms:=nms) (kbs:=kbs) (bs:=bs) (Nat.succ.inj h)
  show ((kR (nB bs) t z::Kl bs nms kbs).filter _).length=_
  rw[ff,ff,Q6]
  have e:Gb wd z=decide (V.str z.w=V.str wd):=rfl
  rw[e]
  split
  ·rw[bp,bp,a]
  ·exact a
theorem Ny (F:Yc K aB aP aM) {bs:List (Str × Nat)} {rk:List (Str × Nat × Int)} {b:Str} (a:(rk.map (·.1)).Nodup) (g:∀ r∈rk,isNm r.1) (e:(b,n)∈bs) (c:n<=61):∀ (l l0:List Ln) (rows:List R),HX K aB aP aM rows bs rk ks (ls++[l0]) sts->Tl rows b l0.length->l0.length+l.length<=4->(∀ x∈l,x.r<rk.length/\0<=x.lo/\x.lo<=x.hi/\x.hi<(n:Nat) /\ -2<=x.sh/\x.sh<=5)->HX K aB aP aM (rows++l.map (lR (nR rk))) bs rk ks (ls++[l0++l]) sts
 | [],l0,rows,h,_,_,_=>by
  rw[kG,dS,dS]
  exact h
 | x::l,l0,rows,h,t,hl,d=>by
  rw[bp] at hl
  obtain⟨q,j,k,s,w,v⟩:=d x ce
  obtain⟨m,u,f⟩:=jo q
  have i:=h.line F (sh:=x.sh) (lo:=x.lo) (hi:=x.hi) t (by omega) f a (g (nR rk x.r,m,u) (ai f)) e k s (by omega) (by omega) j (by omega)
  have p:Tl (rows++[lR (nR rk) x]) b (l0++[x]).length:=by
   rw[am,ay]
   exact t.line rfl
  have r:=Ny F a g e c l (l0++[x]) (rows++[lR (nR rk) x]) i p (by rw[am,ay];omega) λy o=>d y (bq _ o)
  rw[gc,gc] at r
  exact r
theorem Vh (h:R7 n kbs) {z:Kb} (c:z.ok n) (d:(kbs.filter (Gb z.w)).length<Iz z.w) (hl:kbs.length<70):R7 n (kbs++[z]):=by
 refine⟨λk a=>?_,λi k a=>?_,by rw[am,ay];omega⟩
 ·rcases bX.mp a with a | a
  ·exact h.ok k a
  ·rw[av.mp a]
   exact c
 ·rcases Ld a with b | ⟨rfl,rfl⟩
  ·rw[fg (fA (ag.mp b).1)]
   exact h.room i k b
  ·rw[List.take_left']
   ·exact d
   ·rfl
section
variable {c:Int} {k ld:Nat} {bs:List (Str × Nat)} {rk:List (Str × Nat × Int)} {sn:List Str}
theorem Jz.skip (h:Jz K aB aP aM c k ld m bs rk rows nms kbs ls sts sn):Jz K aB aP aM c (k+1) ld (m+4) bs rk rows nms kbs ls sts sn :=
 ⟨h.bl,h.ek,h.bd,h.nl,hZ h.nk,λt a=>by
  obtain⟨j,b,e⟩:=h.nm t a
  exact⟨j,by omega,e⟩,h.nd,h.kb,h.mu,h.lq,h.lg,h.sq,h.sd,hZ h.sk,by have:=h.rl;omega,h.st⟩
theorem Jz.add (F:qX K aB aP aM) (h:Jz K aB aP aM c k ld m bs rk rows nms kbs ls sts sn) (hk:k<12) (h0:sts=[]) {z:Kb} {l:List Ln} (f:zJ bs rk z l) (O:z.w = "mute"->(kbs.filter (Gb "mute")).length<5) {E:Nat} (KO:ld<=E) (UQ:z.w ≠ "stop"->(kbs.filter U9).length<E) :
  Jz K aB aP aM c (k+1) E (m+4) bs rk (rows++(kR (nB bs) (HS c (6+k)) z::l.map (lR (nR rk)))) (nms++[HS c (6+k)]) (kbs++[z]) (ls++[l]) sts (sn++if z.w = "stop" then [HS c (6+k)] else []):=by
 have H:=h.nl
 have ab:=h.nk
 have S:HS c (6+k) ∉ nms:=λR=>by
  obtain⟨j,J,e⟩:=h.nm _ R
  have:=Js (c:=c) (by omega) (by omega) e
  omega
 have Q:=h.bd.nb (n:=6+k) (by have:=h.bd.lb;omega) (by omega)
 have T:=h.bd.nr (n:=6+k) (by have:=h.bd.lr;omega) (by omega)
 have I:∀ r∈Kl bs nms kbs,r.nm ≠ HS c (6+k):=λr v e=>by
  obtain⟨t,a,R,_,rfl⟩:=Od v
  rw[M7] at e
  exact S (e ▸ a)
 have g:∀ {b:Nat},b<bs.length->isNm (nB bs b)/\(nB bs b,zB bs b)∈bs/\zB bs b<=61:=λ{b} C=>by
  have U:=Pu C
  have:=h.bd.b b _ U
  refine⟨?_,ai U,this.2.2⟩
  have e:nB bs b=HS c b:=this.1
  rw[e]
  exact G9 _ _
 have o:(kbs.filter (Gb z.w)).length<Iz z.w:=by
  have A:=bE (Gb z.w) kbs
  have Y:Iz "coupler" = 12:=by decide
  have m2:Iz "stop" = 24:=by decide
  have m3:Iz "mute" = 5:=by decide
  rcases Kb.wo f.ok with e | e | e
  ·rw[e,m2];rw[e] at A;omega
  ·rw[e,Y];rw[e] at A;omega
  ·rw[e,m3];have:=O e;omega
 have M:=o
 rw[<-N5 (bs:=bs) z.w H] at M
 have u:Kl bs (nms++[HS c (6+k)]) (kbs++[z])=Kl bs nms kbs++[kR (nB bs) (HS c (6+k)) z]:=Jv _ _ _ H
 have B:HX K aB aP aM (rows++[kR (nB bs) (HS c (6+k)) z]) bs rk (Kl bs nms kbs++[kR (nB bs) (HS c (6+k)) z]) (ls++[[]]) sts:=by
  have N:=f.ok
  cases z with
  | cp p q s =>
   obtain⟨i,P,b1,b2⟩:=N
   exact h.bl.Zn F.f (G9 _ _) Q T I M (g i).1 (g i).2.1 (g P).1 (g P).2.1 b1 b2
  | pl wd p =>
   obtain⟨i,w⟩:=N
   exact h.bl.plain F.f (w.elim .inr .inl) (G9 _ _) Q T I M (g i).1 (g i).2.1
 have L:HX K aB aP aM (rows++(kR (nB bs) (HS c (6+k)) z::l.map (lR (nR rk)))) bs rk (Kl bs nms kbs++[kR (nB bs) (HS c (6+k)) z]) (ls++[l]) sts:=by
  by_cases w:z.w = "stop"
  ·cases z with
   | cp p q s=>exact absurd (show ("coupler" : Str) = "stop" from w) (by decide)
   | pl wd p =>
    obtain rfl:wd = "stop":=w
    have i:=f.ok.1
    have r:=Ny F.f h.bd.zL (λr v=>by
     obtain⟨j,J⟩:=dE v
     rw[(h.bd.r j r J).1]
     exact G9 _ _) (g i).2.1 (g i).2.2 l [] _ B (Tl.stop rows _ (nB bs p)) (by have:=f.len;rw[List.length_nil];omega) f.ln
    rw[gc] at r
    exact r
  ·rw[f.st w]
   exact B
 have G:∀ x∈l.map (lR (nR rk)),G3 x.w=false:=λx d=>by
  obtain⟨y,_,rfl⟩:=ar.mp d
  exact (by decide:G3 "line" = false)
 refine⟨by rw[u];exact L,?_,h.bd,by rw[am,am,H];rfl,by rw[am,ay];omega,λt a=>?_,?_,Vh h.kb f.ok o (by omega),?_,?_,λx d=>?_,λt a=>?_,?_,?_,?_,h.st⟩
 ·rw[fi,h.ek,u,ff,if_pos (by rw[Q6];exact Kd (Kb.wo f.ok)),List.filter_eq_nil_iff.mpr λx d=>by rw[G x d];decide]
 ·rcases bX.mp a with a | a
  ·obtain⟨j,J,e⟩:=h.nm t a
   exact⟨j,by omega,e⟩
  ·exact⟨k,by omega,av.mp a⟩
 ·refine hV.mpr ⟨h.nd,gy.mpr ⟨kF,iP⟩,λx d y D e=>S ?_⟩
  rw[<-av.mp D,<-e]
  exact d
 ·rw[fi,am]
  by_cases e:z.w = "mute"
  ·have:=O e
   have:=bE (Gb "mute") [z]
   rw[ay] at this
   omega
  ·rw[List.filter_cons,if_neg (show ¬ Gb "mute" z=true from λy=>e (V.str.inj (of_decide_eq_true y)))]
   exact h.mu
 ·rw[fi,am]
  by_cases e:z.w = "stop"
  ·rw[List.filter_cons,if_neg (show ¬ U9 z=true from by rw[show U9 z = !decide (V.str z.w=V.str "stop") from rfl,e,decide_eq_true rfl];decide)]
   have:=h.lq
   show _+0<=_
   omega
  ·have:=UQ e
   have:=bE U9 [z]
   rw[ay] at this
   omega
 ·rcases bX.mp d with d | d
  ·exact h.lg x d
  ·rw[av.mp d]
   refine⟨by have:=f.len;omega,λln W=>?_⟩
   obtain⟨x1,X,x3,x4,x5,x6⟩:=f.ln ln W
   have C:zR z<bs.length:=by
    have:=f.ok
    cases z with
    | cp p q s=>exact this.1
    | pl wd p=>exact this.1
   have:=(g C).2.2
   exact⟨x1,X,x3,by omega,by omega,by omega⟩
 ·rw[u]
  rcases bX.mp a with a | a
  ·obtain⟨r,v,e⟩:=h.sq t a
   exact⟨r,cy _ v,e⟩
  ·by_cases e:z.w = "stop"
   ·rw[if_pos e] at a
    exact⟨_,bt _ (av.mpr rfl),by rw[Q6];exact e,by rw[M7];exact (av.mp a).symm⟩
   ·rw[if_neg e] at a
    cases a
 ·by_cases e:z.w = "stop"
  ·rw[if_pos e]
   refine hV.mpr ⟨h.sd,gy.mpr ⟨kF,iP⟩,λx d y D Z=>?_⟩
   obtain⟨r,v,_,er⟩:=h.sq x d
   exact I r v (er.trans (Z.trans (av.mp D)))
  ·rw[if_neg e,dS]
   exact h.sd
 ·rw[am]
  have:=h.sk
  split
  ·show _+1<=_;omega
  ·show _+0<=_;omega
 ·rw[am,bp,af]
  have:=h.rl
  have:=f.len
  omega
theorem Jz.step (F:qX K aB aP aM) (h:Jz K aB aP aM c k ld m bs rk rows nms kbs ls sts sn) {t0:Str} {a:List Str} (e:(t0::a).Nodup) (hl:(t0::a).length<=24) (i:∀ t∈t0::a,t∈sn) (p:sts.length<2):∃ vv,vv.length=sts.length+1/\Jz K aB aP aM c k ld (m+1) bs rk (rows++[⟨"step",t0,a.map V.str⟩]) nms kbs ls vv sn:=by
 refine⟨sts++[Wd.mk ((t0::a).map λt=>((Kl bs nms kbs).map (·.nm)).idxOf t)],by rw[am,ay],?_⟩
 ·refine⟨h.bl.step F.mT e hl (λt g=>?_) (by omega),?_,h.bd,h.nl,h.nk,h.nm,h.nd,h.kb,h.mu,h.lq,h.lg,h.sq,h.sd,h.sk,by rw[am];exact dn h.rl,by rw[am,ay];omega⟩
  ·obtain⟨r,d,o,b⟩:=h.sq t (i t g)
   refine⟨?_,r,d,o,b⟩
   obtain⟨n,l,z,_,rfl⟩:=Od d
   rw[M7] at b
   obtain⟨j,_,f⟩:=h.nm n l
   rw[<-b,f]
   exact G9 _ _
  ·rw[List.filter_append,h.ek,List.filter_cons,if_neg (by show ¬ G3 "step" = true;decide)]
   exact dS _
end
theorem J1 {c:Hp} (s:Am c H) (h:c a=none):Am c (upd H a o):=λb u e=>by
 rw[Aw (Ai e h)]
 exact s _ _ e
theorem Jz.yo {c:Int} {k ld:Nat} {bs:List (Str × Nat)} {rk:List (Str × Nat × Int)} {sn:List Str} (h:Jz K aB aP aM c k ld m bs rk rows nms kbs ls sts sn):(rows.filter λr=>decide (V.str r.w=V.str "mute")).length=(kbs.filter (Gb "mute")).length:=by
 rw[<-N5 (bs:=bs) "mute" h.nl,<-h.ek,List.filter_filter]
 refine congrArg List.length (List.filter_congr λr _=>?_)
 by_cases e:r.w = "mute"
 ·rw[e]
  decide
 ·rw[decide_eq_false λz=>e (V.str.inj z)]
  rfl
theorem Jz.zr {c:Int} {k ld a:Nat} {bs:List (Str × Nat)} {rk:List (Str × Nat × Int)} {sn:List Str} (h:Jz K aB aP aM c k ld m bs rk rows nms kbs ls sts sn) (hl:ld<=a):Jz K aB aP aM c k a m bs rk rows nms kbs ls sts sn :=
 ⟨h.bl,h.ek,h.bd,h.nl,h.nk,h.nm,h.nd,h.kb,h.mu,ba h.lq hl,h.lg,h.sq,h.sd,h.sk,h.rl,h.st⟩
theorem Jz.fin {c:Int} {k b ld d a:Nat} {bs:List (Str × Nat)} {rk:List (Str × Nat × Int)} {sn:List Str} (h:Jz K aB aP aM c k ld m bs rk rows nms kbs ls sts sn) (f:k<=b) (hl:ld<=d) (g:m<=a):Jz K aB aP aM c b d a bs rk rows nms kbs ls sts sn :=
 ⟨h.bl,h.ek,h.bd,h.nl,ba h.nk f,(λt i=>by
  obtain⟨j,l,e⟩:=h.nm t i
  exact⟨j,by omega,e⟩),h.nd,h.kb,h.mu,ba h.lq hl,h.lg,h.sq,h.sd,ba h.sk f,ba h.rl g,h.st⟩
theorem Du {α:Type} {F:α->V->Prop}:∀ {l m:List α} {vs ws:List V},Paired F l vs->Paired F m ws->Paired F (l++m) (vs++ws)
 | [],_,_,_,h,g=>by
  cases h
  exact g
 | _::_,_,_,_,h,g=>by
  cases h with
  | cons x y=>exact .cons x (Du y g)
theorem Jz.start {c:Int} {bs:List (Str × Nat)} {rk:List (Str × Nat × Int)} (d:OD c bs rk) (e:HX K aB aP aM (bs.map Es++rk.map Fv) bs rk [] [] []):Jz K aB aP aM c 0 0 6 bs rk (bs.map Es++rk.map Fv) [] [] [] [] []:=by
 refine⟨e,?_,d,rfl,Nat.le_refl _,(λ_ h=>nomatch h),List.nodup_nil,⟨(λ_ h=>nomatch h),(λi k h=>by simp at h),by decide⟩,by decide,by decide,(λ_ h=>nomatch h),(λ_ h=>nomatch h),List.nodup_nil,by decide,?_,by decide⟩
 ·refine List.filter_eq_nil_iff.mpr λr a=>?_
  rcases bX.mp a with a | a
  ·obtain⟨b,_,rfl⟩:=ar.mp a
   exact (by decide:¬ G3 "board" = true)
  ·obtain⟨b,_,rfl⟩:=ar.mp a
   exact (by decide:¬ G3 "rank" = true)
 ·rw[am,af,af]
  have:=d.lb
  have:=d.lr
  omega
structure W9 (H Hx:Hp) (B RA:Addr) (bs:List (Str × Nat)) (rk:List (Str × Nat × Int)):Prop where
 s:Am H Hx
 b:∃ i5,Hx B=some (.lst i5)/\Paired (λb v=>TupAt Hx (Es b).v v) bs i5
 r:∃ kU,Hx RA=some (.lst kU)/\Paired (λr v=>TupAt Hx (Fv r).v v) rk kU
theorem W9.same {b c:Hp} {B a:Addr} {bs:List (Str × Nat)} {rk:List (Str × Nat × Int)} (h:W9 H b B a bs rk) (s:Am b c):W9 H c B a bs rk:=by
 obtain⟨j,⟨d,k,i⟩,⟨g,e,f⟩⟩:=h
 exact⟨j.trans s,⟨d,s _ _ k,Ar s i⟩,⟨g,s _ _ e,Ar s f⟩⟩
theorem W9.put {b:Hp} {B a:Addr} {l g:List V} {bs:List (Str × Nat)} {rk:List (Str × Nat × Int)} (h:W9 H b B a bs rk) (f:H D=none) (o:D ≠ B) (c:D ≠ a) (e:b D=some (.lst l)):W9 H (upd b D (.lst g)) B a bs rk:=by
 obtain⟨n,⟨i,p,m⟩,⟨k,j,d⟩⟩:=h
 exact⟨J1 n f,⟨i,by rw[Aw (Ne.symm o)];exact p,CW m e⟩,⟨k,by rw[Aw (Ne.symm c)];exact j,CW d e⟩⟩
inductive eY (vs:List V) (H:Hp) (Q:VK) (b9:XK):Prop
 | mk (c b m:Int):vs=[.int c,.int b,.int m]->0<m->0<=b->b<4611686018427387904->(∀ z:Nat,((z:Nat):Int)<m->Q (.int (z:Nat)) H)->eY vs H Q b9
inductive fJ (K:W.Frag) (aB aP aM:Addr) (vs:List V) (H:Hp) (Q:VK) (b9:XK):Prop
 | mk (a:Addr) (ns:List Int):vs=[.ref a]->Dg K H a (ns.map V.int)->ns.length<=63->qX K aB aP aM->(∀ (D:Addr) (Kt:List V) (c:Int) (bs:List (Str × Nat)) (rk:List (Str × Nat × Int)) (rows:List R) (nms:List Str) (kbs:List Kb) (ls:List (List Ln)) (sts:List Nat) (sn:List Str) H',H D=none->Am H H'->H' D=some (.lst Kt)->Paired (λ(r:R) v=>TupAt H' r.v v) rows Kt->1<=bs.length->1<=rk.length->Jz K aB aP aM c 8 8 100 bs rk rows nms kbs ls sts sn->Q (.ref D) H')->fJ K aB aP aM vs H Q b9
include N T in
theorem m8:Ao P w K mg base Bb 1 aD.fMi aD.dMi ve eY:=by
 refine N.FMi.1.DX Uq λH g Q E k h=>?_
 obtain⟨c,b,m,rfl,a,l,e,d⟩:=h
 refine⟨_,(Af (Ba (i:=3) Uq.nd rfl (Or.inl rfl) (BX E_ (BX JQ (BX Br (BX E_ (pv 0) Ac) Ac) (pv 1)) Ac))
  (Ah (Ax (BX E_ (BX Oc (BX E_ (BX JQ (pv 3) (pv 3)) Ac) Ac) (pv 2))))),?_⟩
 have q:Q (.int (Iu c b m)) H:=by
  have h:=Lg c b a
  have:=d (Iu c b m).toNat (by omega)
  rw[ki h.1] at this
  exact this
 refine⟨_,rfl,_,_,rfl,rfl,(by show (0:Int)<1000003;decide),_,_,rfl,rfl,_,rfl,_,_,rfl,rfl,.inr ⟨by omega,by omega⟩,_,_,rfl,rfl,(by show (0:Int)<2147483647;decide),?_⟩
 have j:0<=(c % 1000003+7) * b % 2147483647:=ko _ (by decide)
 have f:(c % 1000003+7) * b % 2147483647<2147483647:=iE _ (by decide)
 exact⟨_,rfl,_,rfl,_,_,rfl,rfl,.inl ⟨by omega,by omega⟩,_,_,rfl,rfl,(by show (0:Int)<2147483629;decide),_,_,rfl,rfl,⟨by decide,by decide⟩,_,rfl,_,_,rfl,rfl,a,q⟩
theorem KQ:Av tF xE (Ae sW):=Bh
include N T in
theorem qW:Ao P w K mg base Bb 5 aD.fRw aD.dRw xE (fJ K aB aP aM):=by
 refine N.FRw.1.DX KQ λH s Q E hr h=>?_
 obtain⟨a,ns,rfl,hS,b1,F0,q⟩:=h
 refine⟨_,(Af (Ba (i:=1) KQ.nd rfl (Or.inl rfl) (zC (qG N T) hr rfl N.FCe (Aa (pv 0) (Aa Ac Ab))))
  (Af (Ba (i:=2) KQ.nd rfl (Or.inl rfl) (Eb Ab))
  (Af (Eo PassesOwn.never rfl (Dv rfl T.range (Aa (BX Br Ac (zC (m8 N T) hr rfl N.FMi (Aa (pv 1) (Aa Ac (Aa Ac Ab))))) Ab)) (Cd (i:=3) KQ.nd rfl (Or.inl rfl)) (Ah (CG (IK cq ee et Dj (pv 2) (Aa (Cm (Aa BP (Aa (zC (nZ N T) hr rfl N.FNa (Aa (pv 1) (Aa (pv 3) Ab))) (Aa (BX Br Ac (zC (m8 N T) hr rfl N.FMi (Aa (BX Br (pv 1) (pv 3)) (Aa Ac (Aa Ac Ab))))) Ab)))) Ab)))))
  (Af (Ba (i:=4) KQ.nd rfl (Or.inl rfl) (Eb Ab))
  (Af (Eo PassesOwn.never rfl (Dv rfl T.range (Aa (BX Br Ac (zC (m8 N T) hr rfl N.FMi (Aa (pv 1) (Aa Ac (Aa Ac Ab))))) Ab)) (Cd (i:=3) KQ.nd rfl (Or.inl rfl)) (Af (Ba (i:=5) KQ.nd rfl (Or.inl rfl) (zC (m8 N T) hr rfl N.FMi (Aa (BX Br (pv 1) (pv 3)) (Aa Ac (Aa (BX Br (BX dH Ac Ac) Ac) Ab)))))
  (Ah (CG (IK cq ee et Dj (pv 4) (Aa (Cm (Aa BP (Aa (zC (nZ N T) hr rfl N.FNa (Aa (pv 1) (Aa (BX Br Ac (pv 3)) Ab))) (Aa (BX Br Ac (zC (m8 N T) hr rfl N.FMi (Aa (BX Br (pv 1) (pv 3)) (Aa Ac (Aa Ac Ab))))) (Aa (pv 5) Ab))))) Ab))))))
  (Af (Ba (i:=6) KQ.nd rfl (Or.inl rfl) (BX RQ (pv 2) (pv 4)))
  (Af (Ba (i:=7) KQ.nd rfl (Or.inl rfl) (Eb Ab))
  (Af (Eo PassesOwn.never rfl (Dv rfl T.range (Aa (A_ (Nr rfl) rfl T.min PyProof.Rows.boot_min (Aa Ac (Aa (A_ (Nf rfl) rfl T.max PyProof.Rows.boot_max (Aa Ac (Aa (BX Fz (A_ BZ rfl T.len bo (Aa (pv 0) Ab)) Ac) Ab))) Ab))) Ab)) (Cd (i:=3) KQ.nd rfl (Or.inl rfl)) (Af (Ba (i:=8) KQ.nd rfl (Or.inl rfl) (zC (lU N T) hr rfl N.FLj (Aa (Ay (Bm (K:=K) rfl) (pv 0) (BX Br Ac (pv 3)) (λ_ _=>rfl)) (Aa (pv 2) (Aa (pv 4) (Aa (zC (nZ N T) hr rfl N.FNa (Aa (pv 1) (Aa (BX Br Ac (pv 3)) Ab))) Ab))))))
  (Af (Bl (PW.pt (Ew (BL Ko (Ay (An (K:=K) rfl) (Ay (Bm (K:=K) rfl) (pv 8) Ac (λ_ _=>rfl)) Ac (λ_ _=>rfl)) BP (BW _)) (Ej (BL HR (A_ BZ rfl T.len bo (Aa (Bq rfl (Bf (osc:=Ae sW) (N:=tF) rfl rfl (by decide)) (Bx (pv 6)) (λ_ _ _ _=>(G6 (BL Bw (Ay (An (K:=K) rfl) (pv 0) Ac (λ_ _=>rfl)) BP (BW _)))) (λ_ _ _ _=>(pv 0))) Ab)) Ac (BW _))))) (Ah (Ba (i:=6) KQ.nd rfl (Or.inl rfl) (BX RQ (pv 6) (pv 8)))) Be)
  (Ah (Bl (BL Bw (Ay (An (K:=K) rfl) (Ay (Bm (K:=K) rfl) (pv 8) Ac (λ_ _=>rfl)) Ac (λ_ _=>rfl)) BP (BW _)) (Ah (CG (IK cq ee et Dj (pv 7) (Aa (Ay (An (K:=K) rfl) (Ay (Bm (K:=K) rfl) (pv 8) Ac (λ_ _=>rfl)) Ac (λ_ _=>rfl)) Ab)))) Be)))))
  (Af (Eo PassesOwn.never rfl (Dv rfl T.range (Aa (A_ (Nr rfl) rfl T.min PyProof.Rows.boot_min (Aa Ac (Aa (A_ BZ rfl T.len bo (Aa (pv 7) Ab)) Ab))) Ab)) (Cd (i:=3) KQ.nd rfl (Or.inl rfl)) (Ah (CG (IK cq ee et Dj (pv 6) (Aa (BX ZG (Cm (Aa BP Ab)) (Dk Mt rfl T.tuple ix (Aa (Ec Ia (pv 7) (Eh (pv 3)) (Eh (BX Br (BX Br (pv 3) Ac) (zC (m8 N T) hr rfl N.FMi (Aa (pv 1) (Aa Ac (Aa Ac Ab))))))) Ab))) Ab)))))
  (Ah (Ax (pv 6)))))))))))),?_⟩
 refine⟨_,rfl,a,0,ns,rfl,hS,?_⟩
 generalize ns.getD 0 0=c
 refine⟨Cg (by simp),λB hB=>?_⟩
 obtain⟨H3,i7,t3,u3⟩:=El (o:=HO.lst []) hB
 rw[i7]
 refine⟨_,rfl,_,_,_,rfl,by decide,by decide,by decide,λt ht=>⟨_,_,rfl,rfl,_,rfl,by omega,by omega,?_⟩⟩
 have ht:((t:Nat):Int)<3:=ht
 refine Gx (lo:=0) (n:=(1+((t:Nat):Int)).toNat) (λi σ H5=>Am H H5/\∃ (bs:List (Str × Nat)) (i5:List V),H5 B=some (.lst i5)/\Paired (λb v=>TupAt H5 (Es b).v v) bs i5/\bs.length=i/\OD c bs []/\HX K aB aP aM (bs.map Es) bs [] [] [] []/\∃ U v5 J v7 v8 O,σ=[some (.ref a),some (.int c),some (.ref B),U,v5,J,v7,v8,O])
  ⟨t3,[],[],u3,.nil,rfl,⟨(λj b h=>by simp at h),(λj b h=>by simp at h),by decide,by decide⟩,HX.nil,_,_,_,_,_,_,rfl⟩ ?_ ?_
 ·rintro i σ H5 hi ⟨Z,bs,i5,ab,W,qf,EO,LD,U,v5,J,v7,v8,O,rfl⟩
  have ei:((0:Int)+(i:Int))=(i:Int):=gE _
  refine⟨_,rfl,.inl ⟨rfl,_,kK ab⟩,_,rfl,_,rfl,c,i,(by rw[ei];rfl),by omega,λH6 s6=>?_⟩
  refine⟨_,rfl,_,rfl,_,_,rfl,rfl,_,_,_,rfl,by decide,by decide,by decide,λz hz=>⟨_,_,rfl,rfl,by show 3<=sizeLine;decide,λT hT=>?_⟩⟩
  have hz:((z:Nat):Int)<5:=hz
  generalize a3:upd H6 T _=H8
  have t8:Am H6 H8:=a3 ▸ BR hT
  have u8:H8 T=some (.tup (Es (HS c bs.length,1+z)).v):=by
   rw[<-a3,Ak,qf]
   show some (HO.tup [V.str "board",V.str (HS c i),V.int (1+((z:Nat):Int))])=some (HO.tup [V.str "board",V.str (HS c i),V.int ((1+z:Nat):Int)])
   rw[Int.natCast_add]
   rfl
  have xt:=s6.trans t8
  have b8:=xt _ _ ab
  have lv:=W.length
  refine⟨B,i5,_,rfl,rfl,b8,BJ (by omega),?_⟩
  refine⟨J1 (Z.trans xt) hB,bs++[(HS c bs.length,1+z)],i5++[V.ref T],Ak,(CW (Ar xt W) b8).snoc (TupAt.upd ⟨T,rfl,u8⟩ b8),by rw[am,ay,qf],EO.W4 (by omega) (by omega) (by omega),?_,_,_,_,_,_,_,rfl⟩
  rw[cm]
  exact LD.W4 F0.f (G9 _ _) (EO.nb (ah _) (by omega)) (λ_ h=>nomatch h) (λ_ h=>nomatch h) (by omega) (by omega) (by omega)
 rintro σ H5 ⟨Z,bs,i5,ab,W,qf,EO,LD,U,v5,J,v7,v8,O,rfl⟩
 have aw:1<=bs.length/\bs.length<=3:=by omega
 clear qf ht u3 t3 hB
 refine⟨Cg (by simp),λA LA=>?_⟩
 obtain⟨H6,i7,t6,u6⟩:=El (o:=HO.lst []) LA
 rw[i7]
 have bB:H A=none:=Z.free LA
 have a6:A ≠ B:=Ne.symm (Ai ab LA)
 refine⟨_,rfl,_,_,_,rfl,by decide,by decide,by decide,λt2 aK=>⟨_,_,rfl,rfl,_,rfl,by omega,by omega,?_⟩⟩
 have aK:((t2:Nat):Int)<3:=aK
 have W7:W9 H H6 B A bs []:=⟨Z.trans t6,⟨i5,t6 _ _ ab,Ar t6 W⟩,⟨[],u6,.nil⟩⟩
 clear u6 t6 LA ab W Z
 refine Gx (lo:=0) (n:=(1+((t2:Nat):Int)).toNat) (λi σ H5=>∃ rk:List (Str × Nat × Int),W9 H H5 B A bs rk/\rk.length=i/\OD c bs rk/\HX K aB aP aM (bs.map Es++rk.map Fv) bs rk [] [] []/\∃ U J v7 v8 O,σ=[some (.ref a),some (.int c),some (.ref B),U,some (.ref A),J,v7,v8,O])
  ⟨[],W7,rfl,EO,by rw[kG,dS];exact LD,_,_,_,_,_,rfl⟩ ?_ ?_
 ·rintro i σ H8 hi ⟨rk,W8,sM,Cf,LJ,U,J,v7,v8,O,rfl⟩
  have ei:((0:Int)+(i:Int))=(i:Int):=gE _
  refine⟨_,rfl,_,rfl,_,_,rfl,rfl,_,_,rfl,rfl,⟨by decide,by decide,by decide⟩,_,_,rfl,rfl,_,_,_,rfl,(by show (0:Int)<10 ^ (9:Int).toNat+1;decide),by decide,by decide,λwd a5=>?_⟩
  have a2:((wd:Nat):Int)<10 ^ (9:Int).toNat+1:=a5
  have e9:(10:Int) ^ (9:Int).toNat+1=1000000001:=by decide
  rw[e9] at a2
  obtain⟨kU,WC,xB⟩:=W8.r
  refine⟨_,rfl,.inl ⟨rfl,_,kK WC⟩,_,rfl,_,rfl,_,_,rfl,rfl,c,3+i,(by rw[ei];rfl),by omega,λHb sb=>?_⟩
  refine⟨_,rfl,_,rfl,_,_,rfl,rfl,_,_,_,rfl,by decide,by decide,by decide,λz hz=>⟨_,_,rfl,rfl,_,rfl,by show 4<=sizeLine;decide,λT hT=>?_⟩⟩
  have hz:((z:Nat):Int)<14:=hz
  generalize a4:upd Hb T _=Hd
  have td:Am Hb Hd:=a4 ▸ BR hT
  have ud:Hd T=some (.tup (Fv (HS c (3+rk.length),1+z,((wd:Nat):Int))).v):=by
   rw[<-a4,Ak,sM]
   show some (HO.tup [V.str "rank",V.str (HS c (3+i)),V.int (1+((z:Nat):Int)),V.int ((wd:Nat):Int)])=some (HO.tup [V.str "rank",V.str (HS c (3+i)),V.int ((1+z:Nat):Int),V.int ((wd:Nat):Int)])
   rw[Int.natCast_add]
   rfl
  have PZ:=sb.trans td
  have CO:=W8.same PZ
  have rd:=PZ _ _ WC
  have pd:=Ar PZ xB
  have lv:=xB.length
  refine⟨A,kU,_,rfl,rfl,rd,BJ (by omega),?_⟩
  obtain⟨bv,tz,xz⟩:=CO.b
  refine⟨rk++[(HS c (3+rk.length),1+z,((wd:Nat):Int))],⟨J1 CO.s bB,⟨bv,by rw[Aw (Ne.symm a6)];exact tz,CW xz rd⟩,⟨kU++[V.ref T],Ak,(CW pd rd).snoc (TupAt.upd ⟨T,rfl,ud⟩ rd)⟩⟩,by rw[am,ay,sM],Cf.rank (by omega) (by omega) (by omega) (by omega) (by omega),?_,_,_,_,_,_,rfl⟩
  rw[cm,<-gc]
  exact LJ.rank F0.f (G9 _ _) (Cf.nb (by have:=Cf.lb;omega) (by omega)) (Cf.nr (ah _) (by omega)) (λ_ h=>nomatch h) (by omega) (by omega) (by omega) (by omega) (by omega)
 rintro σ H8 ⟨rk,W8,sM,Cf,LJ,U,J,v7,v8,O,rfl⟩
 have as:1<=rk.length/\rk.length<=3:=by omega
 clear sM aK W7 LD EO
 obtain⟨ET,JJ,As⟩:=W8.b
 obtain⟨Kx,AU,B3⟩:=W8.r
 have bz:=As.length
 have bL:=B3.length
 refine⟨_,rfl,_,rfl,B,A,_,_,rfl,rfl,JJ,AU,Cg (by omega),λD hD=>?_⟩
 obtain⟨H9,i7,t9,u9⟩:=El (o:=HO.lst (ET++Kx)) hD
 rw[i7]
 have C:H D=none:=W8.s.free hD
 have M:D ≠ B:=Ne.symm (Ai JJ hD)
 have L:D ≠ A:=Ne.symm (Ai AU hD)
 have a1:Paired (λ(r:R) v=>TupAt H9 r.v v) (bs.map Es++rk.map Fv) (ET++Kx):=Du (By (F:=λ(r:R) v=>TupAt H9 r.v v) Es (Ar t9 As)) (By (F:=λ(r:R) v=>TupAt H9 r.v v) Fv (Ar t9 B3))
 have Wn:=W8.same t9
 have R0:=Jz.start Cf LJ
 clear JJ As AU B3 t9 hD bz bL W8 LJ
 refine⟨Cg (by simp),λS x=>?_⟩
 obtain⟨Ha,i7,ta,ua⟩:=El (o:=HO.lst []) x
 rw[i7]
 have Wa:=Wn.same ta
 have bR:H S=none:=Wn.s.free x
 have bP:S ≠ B:=by
  obtain⟨bv,h,_⟩:=Wn.b
  exact Ne.symm (Ai h x)
 have bd:S ≠ A:=by
  obtain⟨bv,h,_⟩:=Wn.r
  exact Ne.symm (Ai h x)
 have G:D ≠ S:=Ai u9 x
 have da:=ta _ _ u9
 have bN:=Ar ta a1
 clear u9 a1 Wn ta x
 refine⟨_,rfl,a,_,rfl,.inl (Wa.s.seq hS),_,_,rfl,rfl,_,_,rfl,_,_,rfl,?_⟩
 obtain⟨mk,XB,b5⟩:∃ mk:Int,(if (if (((ns.map V.int).length:Nat):Int) - 2 > 0 then (((ns.map V.int).length:Nat):Int) - 2 else 0)<8 then (if (((ns.map V.int).length:Nat):Int) - 2 > 0 then (((ns.map V.int).length:Nat):Int) - 2 else 0) else 8)=mk/\0<=mk/\mk<=8/\(mk=0 \/ mk+2<=((ns.length:Nat):Int)):=by
  rw[af]
  exact⟨_,rfl,by split <;> split <;> omega,by split <;> split <;> omega,by split <;> split <;> omega⟩
 refine⟨mk,by rw[<-XB],by omega,by omega,?_⟩
 clear XB
 refine Gx (lo:=0) (n:=mk.toNat) (λi σ Y=>W9 H Y B A bs rk/\∃ (D:Addr) (s:List V) (f:List R) (u:List Str) (p:List Kb) (ls:List (List Ln)) (m:List Str),H D=none/\D ≠ B/\D ≠ A/\D ≠ S/\Y D=some (.lst s)/\Paired (λ(r:R) v=>TupAt Y r.v v) f s/\Y S=some (.lst (m.map V.str))/\Jz K aB aP aM c i 8 (6+4 * i) bs rk f u p ls [] m/\∃ U J O,σ=[some (.ref a),some (.int c),some (.ref B),U,some (.ref A),J,some (.ref D),some (.ref S),O])
  ⟨Wa,D,_,_,_,_,_,[],C,M,L,G,da,bN,ua,R0.zr (dA _),_,_,_,rfl⟩ ?_ ?_
 ·rintro i σ Y hi ⟨Wx,D,s,f,u,p,ls,m,C,M,L,G,dx,xo,sx,X,U,J,O,rfl⟩
  have ei:((0:Int)+(i:Int))=(i:Int):=gE _
  have b0:i<8:=by omega
  have bK:2+i<ns.length:=by omega
  obtain⟨bv,tz,xz⟩:=Wx.b
  obtain⟨rv,LV,xB⟩:=Wx.r
  refine⟨_,rfl,_,rfl,_,_,rfl,rfl,a,_,_,_,rfl,rfl,Wx.s.seq hS,(by rw[ei];exact Ag (j:=2+i) (by rw[al,ae bK];rfl)),_,rfl,_,rfl,_,rfl,_,rfl,_,_,rfl,rfl,c,6+i,(by rw[ei];rfl),by omega,λHc sc=>?_⟩
  refine⟨_,B,A,bs,rk,bv,rv,HS c (6+i),rfl,trivial,sc _ _ tz,trivial,Ar sc xz,aw.1,by omega,(λb hb=>by
   obtain⟨j,hj⟩:=dE hb
   exact (Cf.b j b hj).2),sc _ _ LV,trivial,Ar sc xB,as.1,by omega,λF ws z l Hd hF Sd KO Nc hz=>?_⟩
  have EN:=sc.trans Sd.s
  have CO:=Wx.same EN
  have dd:=EN _ _ dx
  have sd:=EN _ _ sx
  have Xb:Paired (λ(r:R) v=>TupAt Hd r.v v) f s:=Ar EN xo
  have b3:H F=none:=(Wx.s.trans sc).free hF
  have b4:F ≠ D:=Ne.symm (Ai (sc _ _ dx) hF)
  have b2:F ≠ S:=Ne.symm (Ai (sc _ _ sx) hF)
  have bn:=Nc.length
  rw[bp,af] at bn
  obtain⟨y0,aZ,WS⟩:=CN Nc (i:=0) rfl
  have vl:=Xb.length
  have rl:=X.rl
  clear tz xz LV xB hF sc EN Wx dx xo sx
  refine gN (i:=8) ?_
  try dsimp only
  refine X8 (λσ' I=>W9 H I B A bs rk/\I F=some (.lst ws)/\TupAt I (kR (nB bs) (HS c (6+i)) z).v y0/\I S=some (.lst (m.map V.str))/\∃ (D:Addr) (s:List V) (f:List R) (u:List Str) (p:List Kb) (ls:List (List Ln)),H D=none/\D ≠ B/\D ≠ A/\D ≠ S/\I D=some (.lst s)/\Paired (λ(r:R) v=>TupAt I r.v v) f s/\Jz K aB aP aM c (i+1) 8 (6+4 * i+4) bs rk f u p ls [] (m++if z.w = "stop" then [HS c (6+i)] else [])/\σ'=[some (.ref a),some (.int c),some (.ref B),some (.int ((0:Int)+(i:Int))),some (.ref A),J,some (.ref D),some (.ref S),some (.ref F)]) (λD' EI=>?_) ?_
  ·have add:∀ I,Am Hd I->(z.w = "mute"->(p.filter (Gb "mute")).length<5)->(z.w ≠ "stop"->(p.filter U9).length<8)->Uc (Zv (iD) (Tz 6) (Tz 8)) (Dc 6) D' [some (.ref a),some (.int c),some (.ref B),some (.int ((0:Int)+(i:Int))),some (.ref A),J,some (.ref D),some (.ref S),some (.ref F)] I:=λI s' g1 g2=>by
    obtain⟨T0,rfl,sP⟩:=WS.mono s'
    refine⟨_,rfl,_,rfl,D,F,_,_,rfl,rfl,s' _ _ dd,s' _ _ KO,Cg (by have:=hz.len;omega),λD2 sf=>?_⟩
    have t2:=BR (o:=HO.lst (s++ws)) sf
    have st:=s'.trans t2
    have W2:=CO.same s'
    refine EI _ _ ⟨CO.same st,st _ _ KO,⟨T0,rfl,t2 _ _ sP⟩,st _ _ sd,D2,s++ws,_,_,_,_,CO.s.free (s'.free sf),?_,?_,Ne.symm (Ai (s' _ _ sd) sf),Ak,Du (Ar st Xb) (Ar st Nc),X.add F0 (by omega) rfl hz g1 (ah _) g2,rfl⟩
    ·obtain⟨bv,h,_⟩:=W2.b
     exact Ne.symm (Ai h sf)
    ·obtain⟨bv,h,_⟩:=W2.r
     exact Ne.symm (Ai h sf)
   obtain⟨T0,rfl,sP⟩:=id WS
   refine⟨_,rfl,F,_,_,_,rfl,rfl,kK KO,Ag (j:=0) aZ,T0,_,_,_,rfl,rfl,kK sP,Ag (j:=0) rfl,rfl,_,rfl,Cz (λg=>?_) (λg=>?_)⟩
   ·have gw:z.w ≠ "mute":=λe=>by
     rw[decide_eq_true (congrArg V.str (by rw[Q6];exact e))] at g
     cases g
    refine DY ?_
    exact add Hd (Am.refl _) (λe=>absurd e gw) (λ_=>aT (bE _ _) (by have:=X.nk;omega))
   ·have gw:z.w = "mute":=by
     have g1:decide (V.str (kR (nB bs) (HS c (6+i)) z).w=V.str "mute")=true:=by
      cases e:decide (V.str (kR (nB bs) (HS c (6+i)) z).w=V.str "mute") with
      | true=>rfl
      | false=>exact absurd (by rw[e];rfl) g
     have:=V.str.inj (of_decide_eq_true g1)
     rw[Q6] at this
     exact this
    have bW:=Xb
    have x:Dg K Hd D s:=.inl (.inl dd)
    refine⟨_,rfl,D,rfl,⟨_,x⟩,C_ (K:=K) (xs:=s) (λv=>decide (V.str (Mq Hd v).w=V.str "mute")) id x (BJ (by omega)) (λy hy I hs R k=>?_) (λy hy _ I hs R k=>⟨_,rfl,k I (Am.refl I)⟩) (λD5 H5 NL Z qf=>?_)⟩
    ·obtain⟨r,_,ht⟩:=De Xb hy
     have er:=LR ht
     obtain⟨T,rfl,hT⟩:=ht.mono hs
     have kk:=k I (Am.refl I)
     rw[er] at kk
     exact⟨_,rfl,T,_,_,_,rfl,rfl,kK hT,Ag (j:=0) rfl,rfl,_,rfl,kk⟩
    rw[iO] at qf
    have el:(s.filter λv=>decide (V.str (Mq Hd v).w=V.str "mute")).length=(p.filter (Gb "mute")).length:=by
     rw[<-(Kq (λr:R=>decide (V.str r.w=V.str "mute")) (λv=>decide (V.str (Mq Hd v).w=V.str "mute")) Xb λr v _ h=>by rw[LR h]).length]
     exact X.yo
    refine⟨D5,_,rfl,kK (.inl qf),_,_,rfl,rfl,_,rfl,?_⟩
    rw[el]
    refine Cz (λg2=>?_) (λg2=>?_)
    ·have bl:(p.filter (Gb "mute")).length<5:=by have:=of_decide_eq_true g2;omega
     exact add H5 Z (λ_=>bl) (λ_=>aT (bE _ _) (by have:=X.nk;omega))
    ·refine EI _ _ ⟨CO.same Z,Z _ _ KO,⟨T0,rfl,Z _ _ sP⟩,Z _ _ sd,D,s,f,u,p,ls,C,M,L,G,Z _ _ dd,Ar Z Xb,?_,rfl⟩
     rw[if_neg (by rw[gw];decide),dS]
     exact X.skip
  ·rintro σ' I ⟨We,WU,⟨T0,rfl,sP⟩,se,D,s,f,u,p,ls,C,M,L,G,de,a0,Re,rfl⟩
   refine⟨_,rfl,F,_,_,_,rfl,rfl,kK WU,Ag (j:=0) aZ,T0,_,_,_,rfl,rfl,kK sP,Ag (j:=0) rfl,rfl,_,rfl,Cz (λg=>?_) (λg=>?_)⟩
   ·have gw:z.w = "stop":=by
     have:=V.str.inj (of_decide_eq_true g)
     rw[Q6] at this
     exact this
    rw[if_pos gw] at Re
    have sl:=Re.sk
    rw[am] at sl
    refine⟨_,rfl,.inl ⟨rfl,_,kK se⟩,_,rfl,F,_,_,_,rfl,rfl,kK WU,Ag (j:=0) aZ,T0,_,_,_,rfl,rfl,kK sP,Ag (j:=1) rfl,S,_,_,rfl,rfl,se,BJ (by rw[af];omega),?_⟩
    refine⟨We.put bR bP bd se,D,s,f,u,p,ls,_,C,M,L,G,by rw[Aw G];exact de,CW a0 se,?_,Re,_,_,_,rfl⟩
    rw[Ak,cm]
    show some (HO.lst (m.map V.str++[V.str (kR (nB bs) (HS c (6+i)) z).nm]))=_
    rw[M7]
    rfl
   ·have gw:z.w ≠ "stop":=λe=>g (decide_eq_true (congrArg V.str (by rw[Q6];exact e)))
    rw[if_neg gw,dS] at Re
    exact⟨We,D,s,f,u,p,ls,_,C,M,L,G,de,a0,se,Re,_,_,_,rfl⟩
 rintro σ Y ⟨Wx,D,s,f,u,p,ls,m,C,M,L,G,dx,xo,sx,X,U,J,O,rfl⟩
 have bS:(m.map V.str).length=m.length:=af ..
 refine⟨_,rfl,S,_,rfl,kK (.inl sx),_,_,rfl,?_⟩
 obtain⟨m2,YI,b9,ca,b7⟩:∃ m2:Int,(if (((m.map V.str).length:Nat):Int)<2 then (((m.map V.str).length:Nat):Int) else 2)=m2/\0<=m2/\m2<=2/\m2<=((m.length:Nat):Int):=⟨_,rfl,by split <;> omega,by split <;> omega,by split <;> omega⟩
 refine⟨m2,by rw[<-YI],by omega,by omega,?_⟩
 clear YI
 refine Gx (lo:=0) (n:=m2.toNat) (λj σ Y=>W9 H Y B A bs rk/\∃ (s:List V) (f:List R) (ap:List Nat),Y D=some (.lst s)/\Paired (λ(r:R) v=>TupAt Y r.v v) f s/\Y S=some (.lst (m.map V.str))/\ap.length=j/\Jz K aB aP aM c mk.toNat 8 (6+4 * mk.toNat+j) bs rk f u p ls ap m/\∃ U J O,σ=[some (.ref a),some (.int c),some (.ref B),U,some (.ref A),J,some (.ref D),some (.ref S),O])
  ⟨Wx,s,f,[],dx,xo,sx,rfl,X,_,_,_,rfl⟩ ?_ ?_
 ·rintro j σ Y hj ⟨Wx,s,f,ap,dx,xo,sx,a7,X,U,J,O,rfl⟩
  have ej:((0:Int)+(j:Int))=(j:Int):=gE _
  refine⟨_,rfl,.inl ⟨rfl,_,kK dx⟩,by show 1<=sizeLine;decide,λT1 bm=>?_⟩
  obtain⟨Hb,i7,t1,u1⟩:=El (o:=HO.tup [V.str "step"]) bm
  rw[i7]
  have Wb:=Wx.same t1
  refine⟨_,rfl,_,rfl,_,rfl,_,rfl,_,_,rfl,rfl,_,rfl,_,_,_,rfl,by decide,by decide,by decide,λd hd=>⟨_,_,rfl,rfl,_,rfl,?_⟩⟩
  have hd:((d:Nat):Int)<2:=hd
  have VU:=t1 _ _ sx
  have a8:=t1 _ _ dx
  have XV:=Ar t1 xo
  have aN:j<m.length:=by omega
  have an:Dy (m.map V.str) (some ((0:Int)+(j:Int))) (some ((0:Int)+(j:Int)+1+((d:Nat):Int)))=((m[j]::((m.drop (j+1)).take (min (j+1+d) m.length - (j+1)))).map V.str):=by
   have e2:(0:Int)+(j:Int)+1+((d:Nat):Int)=((j+1+d:Nat):Int):=by omega
   rw[e2,ej]
   unfold Dy
   rw[HT.FP,HT.FP,bS,<-List.map_drop,<-hU]
   refine congrArg (List.map V.str) ?_
   rw[Nat.min_eq_left (by omega:j<=m.length),List.drop_eq_getElem_cons aN]
   have e3:min (j+1+d) m.length - j=(min (j+1+d) m.length - (j+1))+1:=by omega
   rw[e3,List.take_succ_cons]
  have aQ:∀ t∈m[j]::((m.drop (j+1)).take (min (j+1+d) m.length - (j+1))),t∈m:=λt ht=>by
   rcases cf.mp ht with rfl | ht
   ·exact dL aN
   ·exact jp (fN ht)
  have aC:(m[j]::((m.drop (j+1)).take (min (j+1+d) m.length - (j+1)))).Nodup:=by
   have h0:(m.drop j).Nodup:=X.sd.sublist (List.drop_sublist _ _)
   rw[List.drop_eq_getElem_cons aN] at h0
   exact h0.sublist (List.Sublist.cons_cons _ (ku _ _))
  have ac:(m[j]::((m.drop (j+1)).take (min (j+1+d) m.length - (j+1)))).length<=24:=by
   rw[bp,ck]
   omega
  obtain⟨vv,b6,RH⟩:=X.step F0 aC ac aQ (by omega)
  generalize (m.drop (j+1)).take (min (j+1+d) m.length - (j+1))=ts at an aQ aC ac RH
  generalize m[j]=t0 at an aQ aC ac RH
  refine⟨S,_,rfl,kK VU,λp5 W=>?_⟩
  rw[an]
  obtain⟨Hd,i7,t5,u5⟩:=El (o:=HO.lst ((t0::ts).map V.str)) W
  rw[i7]
  refine⟨p5,_,rfl,.inl ⟨.inl (.inl u5),λT2 oq=>?_⟩⟩
  obtain⟨He,i7,t6,u6⟩:=El (o:=HO.tup ((t0::ts).map V.str)) oq
  rw[i7]
  refine⟨T1,T2,_,_,rfl,rfl,kK (t6 _ _ (t5 _ _ u1)),kK u6,List.cons_ne_nil _ _,Cg (by rw[List.length_map];show 1+_<=_;omega),(λz=>absurd z (List.cons_ne_nil _ _)),λ_ T3 a9=>?_⟩
  have t7:=BR (o:=HO.tup ([V.str "step"]++(t0::ts).map V.str)) a9
  have u7:upd He T3 (HO.tup ([V.str "step"]++(t0::ts).map V.str)) T3=some (.tup (⟨"step",t0,ts.map V.str⟩:R).v):=Ak
  generalize upd He T3 (HO.tup ([V.str "step"]++(t0::ts).map V.str))=Hf at t7 u7 |-
  have LZ:=t5.trans (t6.trans t7)
  have df:=LZ _ _ a8
  have vl:=XV.length
  have rl:=X.rl
  refine⟨D,s,_,rfl,rfl,df,BJ (by omega),?_⟩
  exact⟨(Wb.same LZ).put C M L df,s++[V.ref T3],_,vv,Ak,(CW (Ar LZ XV) df).snoc (TupAt.upd ⟨T3,rfl,u7⟩ df),by rw[Aw (Ne.symm G)];exact LZ _ _ VU,by omega,RH,_,_,_,rfl⟩
 ·rintro σ Y ⟨Wx,s,f,ap,dx,xo,sx,a7,X,U,J,O,rfl⟩
  exact⟨_,rfl,q D s c bs rk f u p ls ap m Y C Wx.s dx xo aw.1 as.1 (X.fin (by omega) (by decide) (by omega))⟩
inductive Fd where
 | pull (v:V)
 | push (v:V)
 | store (v:V)
 | storeB (v b:V)
 | press (v:V)
 | shoe (v:V)
 | cancel
def Fd.v:Fd->List V
 | .pull v=>[.str "pull",v]
 | .push v=>[.str "push",v]
 | .store v=>[.str "store",v]
 | .storeB v b=>[.str "store",v,b]
 | .press v=>[.str "press",v]
 | .shoe v=>[.str "shoe",v]
 | .cancel=>[.str "cancel"]
theorem Ey {c A B:Prop} [Decidable c] (a:c) (h:A):if decide c=true then A else B:=by
 rw[decide_eq_true a,if_pos rfl]
 exact h
theorem GR {c A B:Prop} [Decidable c] (a:¬ c) (h:B):if decide c=true then A else B:=by
 rw[decide_eq_false a,if_neg fb]
 exact h
theorem Ek {a b:Str} (h:(a == b)=false):¬ V.str a=V.str b:=λz=>by
 rw[V.str.inj z,beq_self_eq_true] at h
 cases h
theorem Dn {a b:Str} {A B:Prop} (h:B) (c:(a == b)=false:=by decide):if decide (V.str a=V.str b)=true then A else B:=GR (Ek c) h
def zZ (cK cP cB cS:Addr):Nat->Addr
 | 0=>cK
 | 1=>cP
 | 2=>cB
 | _=>cS
structure Cs where
 dr:Nat
 sh:Nat
 m:Nat->Option Ps
inductive Rs where
 | told (v:V)
 | no (i:Nat)
def Lw (ks:List R):V->Option Nat
 | .str t=>if t∈Ih ks then some ((Ih ks).idxOf t) else none
 | _=>none
def Kr:V->Option Nat
 | .int i=>if 0<=i/\i<10 then some i.toNat else none
 | _=>none
def Rg (n:Nat):V->Option Nat
 | .int i=>if 0<=i/\i<=(n:Nat) then some i.toNat else none
 | _=>none
def ym (ns:List Str) (ks:List R) (dr:Nat):V->Option Ps
 | .non=>some (.every dr)
 | .str t=>if t∈ns then some (.part (dr &&& JF ks t) (JF ks t)) else none
 | _=>none
def Py (up:Bool) (dr k:Nat):Nat:=if up then dr ||| 2 ^ k else dr - (dr &&& 2 ^ k)
def act (ns:List Str) (ks:List R) (n:Nat) (s:Cs):Fd->Cs × Rs
 | .pull v=>match Lw ks v with
  | some k=>(⟨Py true s.dr k,s.sh,s.m⟩,.told (.bl (!decide (Py true s.dr k=s.dr))))
  | none=>(s,.no 0)
 | .push v=>match Lw ks v with
  | some k=>(⟨Py false s.dr k,s.sh,s.m⟩,.told (.bl (!decide (Py false s.dr k=s.dr))))
  | none=>(s,.no 0)
 | .store v=>match Kr v with
  | some p=>(⟨s.dr,s.sh,Le s.m p (.every s.dr)⟩,.told .non)
  | none=>(s,.no 1)
 | .storeB v b=>match Kr v with
  | some p=>match ym ns ks s.dr b with
   | some ps=>(⟨s.dr,s.sh,Le s.m p ps⟩,.told .non)
   | none=>(s,.no 2)
  | none=>(s,.no 1)
 | .press v=>match (Kr v).bind s.m with
  | some ps=>(⟨ps.put s.dr,s.sh,s.m⟩,.told .non)
  | none=>(s,.no 1)
 | .shoe v=>match Rg n v with
  | some i=>(⟨s.dr,i,s.m⟩,.told .non)
  | none=>(s,.no 3)
 | .cancel=>(⟨0,0,s.m⟩,.told .non)
theorem Qg {v:V} (h:Gj ns v=.non) (e:v=.str t) (a:t∈ns):False:=by
 subst e
 rw[qP a] at h
 cases h
theorem Tc {v:V} (h:Gj (Ih ks) v=.non):Lw ks v=none:=by
 cases v with
 | str t=>exact if_neg λz=>Qg h rfl z
 | _=>rfl
theorem Vr {v:V} (h:KD v=false):Kr v=none:=by
 cases v with
 | int i =>
  refine if_neg λz=>?_
  have a:(decide (0<=i) && decide (i<10))=false:=h
  rw[decide_eq_true z.1,decide_eq_true z.2] at a
  cases a
 | _=>rfl
theorem Jb {p:Nat} (h:p<10):Kr (.int (p:Nat))=some p:=if_pos ⟨by omega,by omega⟩
theorem iV {v:V} {p:Nat} (h:Kr v=some p):v=.int (p:Nat)/\p<10:=by
 cases v with
 | int i =>
  have a:(if 0<=i/\i<10 then some i.toNat else none)=some p:=h
  by_cases c:0<=i/\i<10
  ·rw[if_pos c] at a
   have:=Option.some.inj a
   exact⟨congrArg V.int (by omega),by omega⟩
  ·rw[if_neg c] at a
   cases a
 | _=>cases h
theorem Yy {v:V} (h:jd n v=false):Rg n v=none:=by
 cases v with
 | int i =>
  refine if_neg λz=>?_
  have a:(decide (0<=i) && decide (i<=(n:Nat)))=false:=h
  rw[decide_eq_true z.1,decide_eq_true z.2] at a
  cases a
 | _=>rfl
theorem V2 (h:i<=n):Rg n (.int (i:Nat))=some i:=if_pos ⟨by omega,by omega⟩
section
variable {s:Cs} {v b:V}
theorem LC (h:t∈Ih ks):act ns ks n s (.pull (.str t))=(⟨Py true s.dr ((Ih ks).idxOf t),s.sh,s.m⟩,.told (.bl (!decide (Py true s.dr ((Ih ks).idxOf t)=s.dr)))):=by
 unfold act
 try dsimp only
 rw[show Lw ks (.str t)=some _ from if_pos h]
theorem K_ (h:t∈Ih ks):act ns ks n s (.push (.str t))=(⟨Py false s.dr ((Ih ks).idxOf t),s.sh,s.m⟩,.told (.bl (!decide (Py false s.dr ((Ih ks).idxOf t)=s.dr)))):=by
 unfold act
 try dsimp only
 rw[show Lw ks (.str t)=some _ from if_pos h]
theorem Np (h:Gj (Ih ks) v=.non):act ns ks n s (.pull v)=(s,.no 0):=by
 unfold act
 try dsimp only
 rw[Tc h]
theorem NP (h:Gj (Ih ks) v=.non):act ns ks n s (.push v)=(s,.no 0):=by
 unfold act
 try dsimp only
 rw[Tc h]
theorem Kc {p:Nat} (h:p<10):act ns ks n s (.store (.int (p:Nat)))=(⟨s.dr,s.sh,Le s.m p (.every s.dr)⟩,.told .non):=by
 unfold act
 try dsimp only
 rw[Jb h]
theorem Lq (h:KD v=false):act ns ks n s (.store v)=(s,.no 1):=by
 unfold act
 try dsimp only
 rw[Vr h]
theorem JR {p:Nat} (h:p<10):act ns ks n s (.storeB (.int (p:Nat)) .non)=(⟨s.dr,s.sh,Le s.m p (.every s.dr)⟩,.told .non):=by
 unfold act
 try dsimp only
 rw[Jb h]
 rfl
theorem JH {p:Nat} (h:p<10) (a:t∈ns):act ns ks n s (.storeB (.int (p:Nat)) (.str t))=(⟨s.dr,s.sh,Le s.m p (.part (s.dr &&& JF ks t) (JF ks t))⟩,.told .non):=by
 unfold act
 try dsimp only
 rw[Jb h,show ym ns ks s.dr (.str t)=some _ from if_pos a]
theorem Kg (h:KD v=false):act ns ks n s (.storeB v b)=(s,.no 1):=by
 unfold act
 try dsimp only
 rw[Vr h]
theorem Kp (h:KD v=true) (d:b ≠ .non) (c:Gj ns b=.non):act ns ks n s (.storeB v b)=(s,.no 2):=by
 obtain⟨p,rfl,a⟩:=RP h
 unfold act
 try dsimp only
 rw[Jb a]
 have e:ym ns ks s.dr b=none:=by
  cases b with
  | non=>exact (d rfl).elim
  | str t=>exact if_neg λz=>Qg c rfl z
  | _=>rfl
 rw[e]
theorem KN {p:Nat} {ps:Ps} (h:p<10) (a:s.m p=some ps):act ns ks n s (.press (.int (p:Nat)))=(⟨ps.put s.dr,s.sh,s.m⟩,.told .non):=by
 unfold act
 try dsimp only
 rw[Jb h,Option.bind_some,a]
theorem JV (h:∀ p:Nat,v=.int (p:Nat)->p<10->s.m p=none):act ns ks n s (.press v)=(s,.no 1):=by
 unfold act
 try dsimp only
 have e:(Kr v).bind s.m=none:=by
  cases z:Kr v with
  | none=>rfl
  | some p =>
   obtain⟨e,a⟩:=iV z
   exact h p e a
 rw[e]
theorem MT (h:i<=n):act ns ks n s (.shoe (.int (i:Nat)))=(⟨s.dr,i,s.m⟩,.told .non):=by
 unfold act
 try dsimp only
 rw[V2 h]
theorem Nq (h:jd n v=false):act ns ks n s (.shoe v)=(s,.no 3):=by
 unfold act
 try dsimp only
 rw[Yy h]
end
def Fb (H H':Hp) (a b:Addr):Prop:=∀ c o,H c=some o->c ≠ a->c ≠ b->H' c=some o
theorem Di.le {x:Addr} {bs:List (Str × Nat)} {m:Nat->Option Ps} {c b:Nat} (h:Di C Cy pE pA Ho H y x bs ks sts dr sh sd m c) (e:c<=b):Di C Cy pE pA Ho H y x bs ks sts dr sh sd m b:=by
 obtain⟨a,f,g,d⟩:=h.st.ex
 exact⟨h.o,h.f,h.hs,h.ny,a,f,ba g e,d⟩
theorem Ga.jk {x:Addr} (h:Ga C Cy Ho H y x ks sts dr sh sd):Dh Cy H y x dr sh sd:=by
 obtain⟨⟨d,bs,rk,b,a⟩,c,e⟩:=h
 exact a.c
def Fd.wd:Fd->Str
 | .pull _=>"pull"
 | .push _=>"push"
 | .store _=>"store"
 | .storeB _ _=>"store"
 | .press _=>"press"
 | .shoe _=>"shoe"
 | .cancel=>"cancel"
def Fd.args:Fd->List V
 | .pull v=>[v]
 | .push v=>[v]
 | .store v=>[v]
 | .storeB v b=>[v,b]
 | .press v=>[v]
 | .shoe v=>[v]
 | .cancel=>[]
def Fd.odd (H:Hp):Fd->Prop
 | .pull v=>Ci H v
 | .push v=>Ci H v
 | .store v=>Ci H v
 | .storeB v b=>Ci H v/\Ci H b
 | .press v=>Ci H v
 | .shoe v=>Ci H v
 | .cancel=>True
theorem Fd.odd.mono (s:Am H H') {d:Fd} (h:d.odd H):d.odd H':=by
 cases d with
 | pull v=>exact Ci.mono s h
 | push v=>exact Ci.mono s h
 | store v=>exact Ci.mono s h
 | storeB v b=>exact⟨Ci.mono s h.1,Ci.mono s h.2⟩
 | press v=>exact Ci.mono s h
 | shoe v=>exact Ci.mono s h
 | cancel=>exact h
theorem Fd.v_eq (d:Fd):d.v=.str d.wd::d.args:=by cases d <;> rfl
inductive Y6 (C Cy pE pA cK cP cB cS:Addr) (vs:List V) (H:Hp) (Q:VK) (E:XK):Prop
 | mk (Ho:Hp) (y x:Addr) (bs:List (Str × Nat)) (ks:List R) (sts:List Nat) (s:Cs) (sd:Addr) (c:Nat) (Tp:Addr) (d:Fd):vs=[.ref y,.str d.wd,.ref Tp]->Di C Cy pE pA Ho H y x bs ks sts s.dr s.sh sd s.m c->c<900->H Tp=some (.tup d.args)->d.odd H->(∀ s' u H',act (bs.map (·.1)) ks sts.length s d=(s',.told u)->Fb H H' y sd->Di C Cy pE pA Ho H' y x bs ks sts s'.dr s'.sh sd s'.m (c+1)->Q .non H')->(∀ i H',act (bs.map (·.1)) ks sts.length s d=(s,.no i)->Am H H'->E (.ref (zZ cK cP cB cS i)) none H')->Y6 C Cy pE pA cK cP cB cS vs H Q E
theorem vL:Av wh wh (Ae xM):=Bh
include N T in
theorem j8:Ao P w K mg base (Fy P w) 7 aD.fDz aD.dDz wh (Y6 C Cy pE pA cK cP cB cS):=by
 have Z:Ao P w K mg base (Fy P w) 5 aD.fXp aD.dXp ti (Qk true C Cy cK):=cG N T
 have Y:Ao P w K mg base (Fy P w) 5 aD.fXq aD.dXq ti (Qk false C Cy cK):=bH N T
 have an:Ao P w K mg base (Fy P w) 6 aD.fXt aD.dXt ui (Zt C Cy pE pA cP cB):=cR N T
 have ac:Ao P w K mg base (Fy P w) 3 aD.fXr aD.dXr xI (Zh C Cy pE pA cP):=cV N T
 have ab:Ao P w K mg base (Fy P w) 3 aD.fXh aD.dXh At (ZL C Cy cS):=bQ N T
 refine N.FDz.1.Jr vL λH vs Q E L h=>?_
 obtain⟨S,y,x,bs,I,k,s,q,c,r,d,rfl,O,hc,u,M,B,G⟩:=h
 have hu:=CJ L
 refine⟨_,(Ah (Bl (BL Bw (pv 1) BP (BW _)) (Ah (CG (Bp (pv 0) T.clR N.FXp.2.2 Z (ad L) N.FXp.2.1 .nil Df (Aa (Ay (An (K:=K) rfl) (pv 2) Ac (λ_ _=>rfl)) Ab)))) (Ah (Bl (BL Bw (pv 1) BP (BW _)) (Ah (CG (Bp (pv 0) T.clR N.FXq.2.2 Y (ad L) N.FXq.2.1 .nil Df (Aa (Ay (An (K:=K) rfl) (pv 2) Ac (λ_ _=>rfl)) Ab)))) (Ah (Bl (BL Bw (pv 1) BP (BW _)) (Ah (CG (Bp (pv 0) T.clR N.FXt.2.2 an (ad L) N.FXt.2.1 .nil Df (Aa (Ay (An (K:=K) rfl) (pv 2) Ac (λ_ _=>rfl)) (Aa (Jq (BL Bw (A_ BZ rfl T.len bo (Aa (pv 2) Ab)) Ac (BW _)) (Ay (An (K:=K) rfl) (pv 2) Ac (λ_ _=>rfl)) Gg) Ab))))) (Ah (Bl (BL Bw (pv 1) BP (BW _)) (Ah (CG (Bp (pv 0) T.clR N.FXr.2.2 ac (ad L) N.FXr.2.1 .nil Df (Aa (Ay (An (K:=K) rfl) (pv 2) Ac (λ_ _=>rfl)) Ab)))) (Ah (Bl (BL Bw (pv 1) BP (BW _)) (Ah (CG (Bo (pv 0) T.clR N.FXc.2.2 (cC N T) (ad L) N.FXc.2.1 .nil Aq))) (Ah (CG (Bp (pv 0) T.clR N.FXh.2.2 ab (ad L) N.FXh.2.1 .nil Df (Aa (Ay (An (K:=K) rfl) (pv 2) Ac (λ_ _=>rfl)) Ab)))))))))))))),?_⟩
 obtain⟨J,fs,R,_,_,_,_,_,D⟩:=id O.at.ex
 have U:∀ {a},SX y H a->Fb H a y q:=λ{_} c b o e n _=>c b o e n
 have fd:∀ {a},SX q H a->Fb H a y q:=λ{_} c b o e _ n=>c b o e n
 cases d with
 | pull v =>
  refine⟨_,rfl,rfl,_,rfl,Ey rfl ⟨_,rfl,y,J,fs,rfl,R,D _ (by decide),_,rfl,r,_,_,_,rfl,rfl,kK u,Ag (j:=0) rfl,S,y,x,I,k,s.dr,s.sh,q,v,rfl,O.ok,M,(λt d2 a g l W ed X=>?_),(λa m f=>G 0 a (Np f) m)⟩⟩
  subst l
  subst ed
  exact B _ _ a (LC W) (U g) ((O.put g X.jk).le (by omega))
 | push v =>
  refine⟨_,rfl,rfl,_,rfl,GR (Ek (show (("push" : Str) == "pull")=false by decide)) ⟨_,rfl,rfl,_,rfl,Ey rfl ⟨_,rfl,y,J,fs,rfl,R,D _ (by decide),_,rfl,r,_,_,_,rfl,rfl,kK u,Ag (j:=0) rfl,S,y,x,I,k,s.dr,s.sh,q,v,rfl,O.ok,M,(λt d2 a g l W ed X=>?_),(λa m f=>G 0 a (NP f) m)⟩⟩⟩
  subst l
  subst ed
  exact B _ _ a (K_ W) (U g) ((O.put g X.jk).le (by omega))
 | store v =>
  refine⟨_,rfl,rfl,_,rfl,GR (Ek (show (("store" : Str) == "pull")=false by decide)) ⟨_,rfl,rfl,_,rfl,GR (Ek (show (("store" : Str) == "push")=false by decide)) ⟨_,rfl,rfl,_,rfl,Ey rfl ⟨_,rfl,y,J,fs,rfl,R,D _ (by decide),_,rfl,r,_,_,_,rfl,rfl,kK u,Ag (j:=0) rfl,_,rfl,r,_,rfl,.inr (kK u),rfl,_,rfl,GR (λz=>absurd (V.int.inj z) (by show ¬ ((1:Nat):Int)=2;decide)) ?_⟩⟩⟩⟩
  refine⟨S,y,x,bs,I,k,s.dr,s.sh,q,s.m,c,v,.non,rfl,O,hc,M,.non,(λp a l F _ g A=>?_),(λp t a _ _ l=>nomatch l),(λa m f=>G 1 a (Lq f) m),(λa _ _ h=>(h rfl).elim)⟩
  subst l
  exact B _ _ a (Kc F) (fd g) A
 | storeB v b =>
  refine⟨_,rfl,rfl,_,rfl,GR (Ek (show (("store" : Str) == "pull")=false by decide)) ⟨_,rfl,rfl,_,rfl,GR (Ek (show (("store" : Str) == "push")=false by decide)) ⟨_,rfl,rfl,_,rfl,Ey rfl ⟨_,rfl,y,J,fs,rfl,R,D _ (by decide),_,rfl,r,_,_,_,rfl,rfl,kK u,Ag (j:=0) rfl,_,rfl,r,_,rfl,.inr (kK u),rfl,_,rfl,Ey rfl ⟨_,rfl,r,_,_,_,rfl,rfl,kK u,Ag (j:=1) rfl,?_⟩⟩⟩⟩⟩
  refine⟨S,y,x,bs,I,k,s.dr,s.sh,q,s.m,c,v,b,rfl,O,hc,M.1,M.2,(λp a l F eb g A=>?_),(λp t a l F eb W g A=>?_),(λa m f=>G 1 a (Kg f) m),(λa m h8 h9 f=>G 2 a (Kp h8 h9 f) m)⟩
  ·subst l
   subst eb
   exact B _ _ a (JR F) (fd g) A
  ·subst l
   subst eb
   exact B _ _ a (JH F W) (fd g) A
 | press v =>
  refine⟨_,rfl,rfl,_,rfl,GR (Ek (show (("press" : Str) == "pull")=false by decide)) ⟨_,rfl,rfl,_,rfl,GR (Ek (show (("press" : Str) == "push")=false by decide)) ⟨_,rfl,rfl,_,rfl,GR (Ek (show (("press" : Str) == "store")=false by decide)) ⟨_,rfl,rfl,_,rfl,Ey rfl ⟨_,rfl,y,J,fs,rfl,R,D _ (by decide),_,rfl,r,_,_,_,rfl,rfl,kK u,Ag (j:=0) rfl,S,y,x,bs,I,k,s.dr,s.sh,q,s.m,c,v,rfl,O,M,(λp ps a l F hm g A=>?_),(λa m f=>G 1 a (JV f) m)⟩⟩⟩⟩⟩
  subst l
  exact B _ _ a (KN F hm) (U g) (A.le (by omega))
 | shoe v =>
  refine⟨_,rfl,rfl,_,rfl,GR (Ek (show (("shoe" : Str) == "pull")=false by decide)) ⟨_,rfl,rfl,_,rfl,GR (Ek (show (("shoe" : Str) == "push")=false by decide)) ⟨_,rfl,rfl,_,rfl,GR (Ek (show (("shoe" : Str) == "store")=false by decide)) ⟨_,rfl,rfl,_,rfl,GR (Ek (show (("shoe" : Str) == "press")=false by decide)) ⟨_,rfl,rfl,_,rfl,GR (Ek (show (("shoe" : Str) == "cancel")=false by decide)) ⟨_,rfl,y,J,fs,rfl,R,D _ (by decide),_,rfl,r,_,_,_,rfl,rfl,kK u,Ag (j:=0) rfl,S,y,x,I,k,s.dr,s.sh,q,v,rfl,O.ok,M,(λi a l hi g X=>?_),(λa m f=>G 3 a (Nq f) m)⟩⟩⟩⟩⟩⟩
  subst l
  exact B _ _ a (MT hi) (U g) ((O.put g X.jk).le (by omega))
 | cancel =>
  refine⟨_,rfl,rfl,_,rfl,GR (Ek (show (("cancel" : Str) == "pull")=false by decide)) ⟨_,rfl,rfl,_,rfl,GR (Ek (show (("cancel" : Str) == "push")=false by decide)) ⟨_,rfl,rfl,_,rfl,GR (Ek (show (("cancel" : Str) == "store")=false by decide)) ⟨_,rfl,rfl,_,rfl,GR (Ek (show (("cancel" : Str) == "press")=false by decide)) ⟨_,rfl,rfl,_,rfl,Ey rfl ⟨_,rfl,y,J,fs,rfl,R,D _ (by decide),S,y,x,bs,I,k,s.dr,s.sh,q,s.m,c,rfl,O,λa g A=>?_⟩⟩⟩⟩⟩⟩
  exact B _ _ a rfl (U g) (A.le (by omega))
def ZC (n:Nat):V->Bool
 | .int i=>decide (0<=i) && decide (i<(n:Nat))
 | _=>false
inductive jJ (C cB cY:Addr) (vs:List V) (H:Hp) (Q:VK) (E:XK):Prop
 | mk (x:Addr) (us:List V) (bs:List (Str × Nat)) (rk:List (Str × Nat × Int)) (ks:List R) (ls:List (List Ln:_)) (sts:List Nat) (v u:V):vs=[.ref x,v,u]->Iv C H x us bs rk ks ls sts->Ci H v->Ci H u->(∀ n∈bs.map (·.1),isNm n)->(∀ (j n:Nat) (b:Str × Nat) H',Am H H'->v=.str b.1->u=.int (n:Nat)->bs[j]? = some b->(bs.map (·.1)).idxOf b.1=j->n<b.2->Q (.int ((((bs.take j).map (·.2)).sum+n:Nat):Int)) H')->(∀ H',Am H H'->Gj (bs.map (·.1)) v=.non->E (.ref cB) none H')->(∀ (j:Nat) (b:Str × Nat) H',Am H H'->v=.str b.1->bs[j]? = some b->(bs.map (·.1)).idxOf b.1=j->ZC b.2 u=false->E (.ref cY) none H')->jJ C cB cY vs H Q E
theorem nC:Av ["organ","name","number","board"] yY (Ae vd):=Bh
include N T in
theorem nH:Ao P w K mg base (Fy P w) 5 aD.fKy aD.dKy yY (jJ C cB cY):=by
 have D:Ao P w K mg base (Fy P w) 4 aD.fBn aD.dBn tT (Z3 C cB):=b_ N T
 refine N.FKy.1.Jr nC λH vs Q E g h=>?_
 obtain⟨x,X,bs,rk,p,L,A,v,u,rfl,O,hv,s,J,q,U,r⟩:=h
 have hu:=CJ g
 refine⟨_,(Af (Ba (i:=3) nC.nd rfl (Or.inl rfl) (Ay (Bm (K:=K) rfl) (Bo (pv 0) T.cl N.FOb.2.2 (R8 N T) (ad g) N.FOb.2.1 .nil Aq) (Al D (ad g) rfl N.FBn.2.2 N.FBn.1.kp N.FBn.2.1 .nil Df (Aa (pv 0) (Aa (pv 1) Ab))) (λ_ _=>rfl)))
  (Af (Bl (PW.pt (Ew (Cu (DK (zC (Qt N T) g rfl N.FWh (Aa (pv 2) Ab)))) (Ej (Cu (Hq FT HR Ac (pv 2) (Ay (An (K:=K) rfl) (pv 3) Ac (λ_ _=>rfl))))))) (Ah (GF T.xY.exY rfl T.xY.mY rfl HJ (Aa BP Ab))) Be)
  (Ah (Ax (Bp (pv 0) T.cl N.FOk.2.2 (R1 N T) (ad g) N.FOk.2.1 .nil Aq (Aa (pv 1) (Aa (pv 2) Ab))))))),?_⟩
 obtain⟨⟨⟨G,fs,_,_,_,_,_,_,_,_,I,_,_,_,_,F,_⟩,_⟩,_⟩:=id O.o
 refine⟨_,rfl,x,G,fs,rfl,I,F _ (by decide),x,bs,p,rfl,O.o.o,λDB W H1 Zl l m nL=>?_⟩
 refine⟨_,rfl,_,rfl,x,X,bs,rk,p,L,A,v,rfl,O.mono l,Ci.mono l hv,J,λt f d ev Z=>?_,λf d e=>U f (l.trans d) e⟩
 subst ev
 have B:=Jc Z
 rw[al] at B
 obtain⟨b,c,rfl⟩:=aE.mp B
 generalize k:(bs.map (·.1)).idxOf b.1=j at c
 clear B
 have a:=l.trans d
 obtain⟨yb,M,Y,rfl,S⟩:=CN (Ar d nL) c
 refine⟨DB,W,_,_,rfl,rfl,kK (d _ _ m),Ag M,?_⟩
 refine⟨_,rfl,u,rfl,Ci.mono a s,_,rfl,?_⟩
 cases u with
 | int i =>
  refine Bk ⟨_,rfl,_,_,rfl,rfl,_,rfl,Cz (λo=>?_) (λo=>?_)⟩
  ·refine⟨_,rfl,Y,_,_,_,rfl,rfl,kK S,Ag (j:=1) rfl,_,_,rfl,rfl,decide (i<((b.2:Nat):Int)),rfl,?_⟩
   by_cases y:i<((b.2:Nat):Int)
   ·rw[decide_eq_true y]
    have R:0<=i:=of_decide_eq_true o
    refine Bk ?_
    obtain⟨n,rfl⟩:=iA R
    refine⟨_,rfl,x,G,fs,rfl,a _ _ I,F _ (by decide),_,rfl,_,rfl,x,bs,p,j,b,((n:Nat):Int),rfl,(O.mono a).o.o,c,λH3 V=>?_⟩
    have e:((((bs.take j).map (·.2)).sum:Nat):Int)+((n:Nat):Int)=((((bs.take j).map (·.2)).sum+n:Nat):Int):=by omega
    rw[e]
    exact q j n b H3 (a.trans V) rfl rfl c k (by omega)
   ·rw[decide_eq_false y]
    exact DY ⟨by show 1<=1000;decide,r j b f a rfl c k (by show (decide (0<=i) && decide (i<((b.2:Nat):Int)))=false;rw[decide_eq_false y,Bool.and_false])⟩
  ·exact⟨_,rfl,DY ⟨by show 1<=1000;decide,r j b f a rfl c k (by show (decide (0<=i) && decide (i<((b.2:Nat):Int)))=false;rw[decide_eq_false (λz=>o (decide_eq_true z)),Bool.false_and])⟩⟩
 | _=>exact DY ⟨by show 1<=1000;decide,r j b f a rfl c k rfl⟩
theorem JX.new {x b:Addr} (h:H z=some (.ins Cp b (BV "hands" (.ref hd) (BV "console" (.ref y) (BV "organ" (.ref x) []))))):JX Cp H z x y hd:=⟨b,_,h,rfl,rfl,rfl,λm a=>by
 simp only[Vy,List.mem_cons,List.not_mem_nil,or_false] at a
 rcases a with rfl | rfl | rfl | rfl | rfl | rfl | rfl | rfl <;> rfl⟩
inductive jB (Cy Cp:Addr) (vs:List V) (H:Hp) (Q:VK) (b9:XK):Prop
 | mk (z dz x:Addr):vs=[.ref z,.ref x]->H z=some (.ins Cp dz [])->(∀ (y sd hd:Addr) H',SX z H H'->H y=none->H hd=none->H' hd=some (.dK [])->Dh Cy H' y x 0 0 sd->JX Cp H' z x y hd->H sd=none->H' sd=some (.dK [])->sd ≠ y->hd ≠ sd->z ≠ y->Q .non H')->jB Cy Cp vs H Q b9
theorem xQ:Av wm wm (Ae xN):=Bh
include N T in
theorem ni:Ao P w K mg base Bb 3 aD.fQi aD.dQi wm (jB Cy Cp):=by
 refine N.FQi.1.DX xQ λH vs Q E Z h=>?_
 obtain⟨z,d,x,rfl,h1,q⟩:=h
 have hu:=CJ Z
 have m:Az 2 _:=Z
 refine⟨_,(Af (Cv (pv 0) (pv 1) rfl)
  (Af (Cv (pv 0) (Ib N.FXi.2.2 (cN N T) m rfl T.mCR N.FXi.2.1 .nil Aq (Aa (pv 1) Ab)) rfl)
  (Ah (Cv (pv 0) IV rfl)))),?_⟩
 refine⟨_,rfl,_,rfl,z,Cp,d,_,rfl,h1,T.clP,T.np_organ,by show 0<1000;decide,?_⟩
 have C:upd H z (HO.ins Cp d (BV "organ" (.ref x) [])) z=some (.ins Cp d (BV "organ" (.ref x) [])):=Ak
 have F:SX z H (upd H z (HO.ins Cp d (BV "organ" (.ref x) []))):=SX.up
 generalize upd H z (HO.ins Cp d (BV "organ" (.ref x) []))=B at C F |-
 have z1:=FJ "organ" (.ref x) []
 have z0:([]:List (Str × V)).length=0:=rfl
 refine⟨_,rfl,?_⟩
 intro y M A G ab
 have X:Am B (upd (upd B M (.own y)) y (.ins Cy M [])):=λb o e=>by
  rw[Aw (Ai e A),Aw (Ai e G)]
  exact e
 refine⟨y,M,x,rfl,Ak,λr i S U Pe CA=>⟨rfl,?_⟩⟩
 have p:Am B i:=λb o e=>S b o (X b o e) (Ai e A)
 have x2:=p _ _ C
 have t:B r=none:=X.free U
 have j:r ≠ z:=Ne.symm (Ai C t)
 have z2:=FJ "console" (.ref y) (BV "organ" (.ref x) [])
 refine⟨_,rfl,z,Cp,d,_,rfl,x2,T.clP,T.np_console,by omega,?_⟩
 have f:y ≠ z:=Ne.symm (Ai C A)
 have J:upd i z (HO.ins Cp d (BV "console" (.ref y) (BV "organ" (.ref x) []))) z=some (.ins Cp d (BV "console" (.ref y) (BV "organ" (.ref x) []))):=Ak
 have W:SX z i (upd i z (HO.ins Cp d (BV "console" (.ref y) (BV "organ" (.ref x) [])))):=SX.up
 have u:Dh Cy (upd i z (HO.ins Cp d (BV "console" (.ref y) (BV "organ" (.ref x) [])))) y x 0 0 r:=by
  obtain⟨L,g,R,k⟩:=CA.ex
  exact⟨L,g,by rw[Aw f];exact R,k⟩
 have l:upd i z (HO.ins Cp d (BV "console" (.ref y) (BV "organ" (.ref x) []))) r=some (.dK []):=by rw[Aw j];exact Pe
 generalize upd i z (HO.ins Cp d (BV "console" (.ref y) (BV "organ" (.ref x) [])))=H3 at J W u l |-
 intro hd D
 obtain⟨H4,i7,v,e4⟩:=El (o:=HO.dK []) D
 rw[i7]
 refine⟨_,rfl,z,Cp,d,_,rfl,v _ _ J,T.clP,T.np_hands,by omega,?_⟩
 have s:hd ≠ z:=Ne.symm (Ai J D)
 have Y:=F.trans ((SX.of p).trans W)
 have free:∀ {a:Addr} {I:Hp},SX z H I->a ≠ z->I a=none->H a=none:=λ{a} {I} c n h=>by
  cases e:H a with
  | none=>rfl
  | some ob =>
   have:=c a ob e n
   rw[h] at this
   cases this
 have O:=u.mono v
 refine q y r hd _ (Y.trans ((SX.of v).trans SX.up)) (free F f A) (free Y s D) (by rw[Aw s];exact e4) ?_ (JX.new Ak) (free F j t) (by rw[Aw j];exact v _ _ l) (Ne.symm (Ai Ak U)) (Ne.symm (Ai l D)) (Ne.symm f)
 obtain⟨L,g,R,k⟩:=O.ex
 exact⟨L,g,by rw[Aw f];exact R,k⟩
abbrev kH (k:Nat):Key:=Sum.inl ((k:Nat):Int)
inductive fj (C Cy Cp:Addr) (vs:List V) (H:Hp) (Q:VK) (b9:XK):Prop
 | mk (Ho:Hp) (z x y hd:Addr) (us:List V) (bs:List (Str × Nat)) (rk:List (Str × Nat × Int)) (ks:List R) (ls:List (List Ln:_)) (sts:List Nat) (dr sh:Nat) (sd:Addr) (kvs:List (Key × V)) (c:Nat->Nat) (k:Nat):vs=[.ref z,.int (k:Nat)]->VR C Cy Cp Ho H z x y hd us bs rk ks ls sts dr sh sd kvs c->kvs.length<=900->k<1200->Q .non (upd H hd (.dK (putK kvs (kH k) (.int ((c k+1:Nat):Int)))))->fj C Cy Cp vs H Q b9
inductive iw (C Cy Cp cH:Addr) (vs:List V) (H:Hp) (Q:VK) (E:XK):Prop
 | mk (Ho:Hp) (z x y hd:Addr) (us:List V) (bs:List (Str × Nat)) (rk:List (Str × Nat × Int)) (ks:List R) (ls:List (List Ln:_)) (sts:List Nat) (dr sh:Nat) (sd:Addr) (kvs:List (Key × V)) (c:Nat->Nat) (k:Nat):vs=[.ref z,.int (k:Nat)]->VR C Cy Cp Ho H z x y hd us bs rk ks ls sts dr sh sd kvs c->kvs.length<=900->k<1200->(c k=0->E (.ref cH) none H)->(0<c k->Q .non (upd H hd (.dK (putK kvs (kH k) (.int ((c k - 1:Nat):Int))))))->iw C Cy Cp cH vs H Q E
inductive Vi (C Cy Cp:Addr) (vs:List V) (H:Hp) (Q:VK) (b9:XK):Prop
 | mk (Ho:Hp) (z x y hd:Addr) (us:List V) (bs:List (Str × Nat)) (rk:List (Str × Nat × Int)) (ks:List R) (ls:List (List Ln:_)) (sts:List Nat) (dr sh:Nat) (sd:Addr) (kvs:List (Key × V)) (c:Nat->Nat):vs=[.ref z]->VR C Cy Cp Ho H z x y hd us bs rk ks ls sts dr sh sd kvs c->kvs.length<=500->(∀ H',Am H H'->Q (.int ((Wd.mk (D_ kvs):Nat):Int)) H')->Vi C Cy Cp vs H Q b9
theorem vW:Av vb vb (Ae yt):=Bh
include N T in
theorem mU:Ao P w K mg base Bb 1 aD.fQh aD.dQh vb (fj C Cy Cp):=by
 refine N.FQh.1.DX vW λH v Q E m h=>?_
 obtain⟨D,z,x,y,g,r,bs,rk,B,o,l,F,n,u,a,c,k,rfl,d,hl,A,q⟩:=h
 have f:=CJ m
 refine⟨_,(Ah (G_ f (Bc (pv 0) rfl) (pv 1) (BX Br (Lh f (Bc (pv 0) rfl) (pv 1) Ac ⟨rfl,rfl,rfl,rfl⟩) Ac) rfl)),?_⟩
 obtain⟨e,fs,j,p,s,i,t⟩:=id d.O5.ex
 have b:=d.d
 refine⟨_,rfl,z,Cp,e,fs,_,rfl,j,T.clP,T.np_hands,i,g,rfl,.inl ⟨a,.inl b⟩,_,rfl,_,Em.k (k:=kH k) b,((c k:Nat):Int),1,d.h.getD k,rfl,?_⟩
 exact⟨_,rfl,z,Cp,e,fs,_,rfl,j,T.clP,T.np_hands,i,_,rfl,g,_,rfl,Ks.k (k:=kH k) b (BJ (by omega)),q⟩
theorem vY:Av vb vb (Ae wk):=Bh
include N T in
theorem o7:Ao P w K mg base (Fy P w) 1 aD.fQl aD.dQl vb (iw C Cy Cp cH):=by
 refine N.FQl.1.Jr vY λH F Q E s h=>?_
 obtain⟨R,z,x,y,j,L,bs,rk,G,A,r,S,I,D,a,c,k,rfl,d,hl,O,p,t⟩:=h
 have f:=CJ s
 refine⟨_,(Af (Bl (BL Bw (Lh f (Bc (pv 0) rfl) (pv 1) Ac ⟨rfl,rfl,rfl,rfl⟩) Ac (BW _)) (Ah (GF T.xH.exH rfl T.xH.mH rfl HJ (Aa BP Ab))) Be)
  (Ah (G_ f (Bc (pv 0) rfl) (pv 1) (BX Fz (Fo f (Bc (pv 0) rfl) (pv 1) (λ_ _=>rfl)) Ac) rfl))),?_⟩
 obtain⟨i,fs,m,J,M,l,B⟩:=id d.O5.ex
 have b:=d.d
 refine⟨_,rfl,z,Cp,i,fs,_,rfl,m,T.clP,T.np_hands,l,j,rfl,.inl ⟨a,.inl b⟩,_,rfl,_,Em.k (k:=kH k) b,?_⟩
 rw[d.h.getD k]
 refine⟨rfl,_,rfl,Cz (λe=>?_) (λe=>?_)⟩
 ·have:=V.int.inj (of_decide_eq_true e)
  exact⟨by show 1<=1000;decide,p (by omega)⟩
 have q:0<c k:=Nat.pos_of_ne_zero λn=>e (decide_eq_true (by rw[n];rfl))
 have v:CP a (kH k)=some (.int ((c k:Nat):Int)):=(d.h.v k).resolve_right λn=>by omega
 have g:=Em.k (k:=kH k) b
 rw[v] at g
 refine⟨_,rfl,z,Cp,i,fs,_,rfl,m,T.clP,T.np_hands,l,_,rfl,j,_,rfl,g,_,_,rfl,rfl,?_⟩
 have u:((c k:Nat):Int) - 1=((c k - 1:Nat):Int):=by omega
 have o:=t q
 rw[<-u] at o
 exact⟨_,rfl,z,Cp,i,fs,_,rfl,m,T.clP,T.np_hands,l,_,rfl,j,_,rfl,Ks.k (k:=kH k) b (BJ (by omega)),o⟩
theorem Zq (h:EY kvs c):((kvs.filter λkv=>match kv.2 with | .int n=>decide (0<n) | _=>false).map λkv=>kV kv.1)=nV (D_ kvs):=by
 unfold D_ nV
 rw[ax]
 refine ft λkv a=>?_
 obtain⟨j,rfl,_⟩:=h.e kv (aS.mp a).1
 show V.int (j:Int)=V.int (((j:Int).toNat:Nat):Int)
 rw[bb]
theorem yh:Av sN sN (Ae rZ):=Bh
include N T in
theorem Xq:Ao P w K mg base Bb 4 aD.fQe aD.dQe sN (Vi C Cy Cp):=by
 refine N.FQe.1.DX yh λH vs Q E F h=>?_
 obtain⟨Z,z,x,y,d,us,bs,rk,ks,Y,S,dr,sh,sd,a,c,rfl,m,hl,q⟩:=h
 have hu:=CJ F
 refine⟨_,(Ah (Ax (zC (M5 N T) F rfl N.FSt (Aa (V8 (Oj rfl (G4 (osc:=Ae rZ) (N:=sN) rfl rfl (by decide)) (Vn (Bc (pv 0) rfl)) (λ_ _ _ _=>(G6 (BL Rj (pv 1) Ac (BW _)))) (λ_ _ _ _=>(pv 0)))) Ab)))),?_⟩
 obtain⟨B,fs,r,l1,l2,V,lm⟩:=id m.O5.ex
 have p:=m.d
 have U:z ≠ d:=λe=>by rw[e,p] at r;cases r
 refine⟨d,a,p,λg=>?_⟩
 have l:upd H d (HO.frz g (HO.dK a)) d=some (.frz g (.dK a)):=Ak
 have G:upd H d (HO.frz g (HO.dK a)) z=some (.ins Cp B fs):=by rw[Aw U];exact r
 have s:SX d H (upd H d (HO.frz g (HO.dK a))):=SX.up
 generalize upd H d (HO.frz g (HO.dK a))=H2 at l G s |-
 refine⟨_,rfl,z,Cp,B,fs,_,rfl,G,T.clP,T.np_hands,V,d,g,a,rfl,l,RG (K:=K) (λf=>match f.2 with | .int n=>decide (0<n) | _=>false) (λf=>kV f.1) l (BJ (by omega)) (λf t i L R k=>?_) (λf t _ i L R k=>⟨_,rfl,k i (Am.refl i)⟩) (λD H3 I A v=>?_)⟩
 ·have W:=k i (Am.refl i)
  obtain⟨j,rfl,_⟩:=m.h.e f t
  exact⟨_,rfl,_,_,rfl,rfl,_,rfl,W⟩
 have M:=A _ _ l
 refine⟨M,?_⟩
 have O:D ≠ d:=Ne.symm (Ai l I)
 rw[Zq m.h] at v
 refine⟨D,D_ a,rfl,by rw[Aw O];exact v,by have:=Ug a;omega,m.h.bound,λJ X=>?_⟩
 refine q J λb u e=>X b u ?_
 by_cases o:b=d
 ·rw[o,Ak,<-e,o,p]
 ·rw[Aw o]
  exact A b u (s b u e o)
inductive Yu (C Cy Cp:Addr) (vs:List V) (H:Hp) (Q:VK) (b9:XK):Prop
 | mk (Ho:Hp) (z x y hd:Addr) (us:List V) (bs:List (Str × Nat)) (rk:List (Str × Nat × Int)) (ks:List R) (ls:List (List Ln:_)) (sts:List Nat) (dr sh:Nat) (sd:Addr) (kvs:List (Key × V)) (c:Nat->Nat):vs=[.ref z]->VR C Cy Cp Ho H z x y hd us bs rk ks ls sts dr sh sd kvs c->(∀ n∈Ih ks,isNm n)->ks.length<=100->sh<=sts.length->sts.length<=100->(∀ H',Am H H'->Q (.int ((dr ||| Pz (sts.take sh):Nat):Int)) H')->Yu C Cy Cp vs H Q b9
theorem uJ:Av sN sN (Ae yH):=Bh
include N T in
theorem aY:Ao P w K mg base Bb 3 aD.fQk aD.dQk sN (Yu C Cy Cp):=by
 refine N.FQk.1.DX uJ λH G Q E e h=>?_
 obtain⟨B,z,x,y,L,s,bs,rk,m,g,b,D,o,k,i,c,rfl,a,f,v,j,d,q⟩:=h
 have J:=CJ e
 refine⟨_,(Ah (Ax (Bo (Bc (pv 0) rfl) T.clR N.FXk.2.2 (aa N T) (ad e) N.FXk.2.1 .nil Aq))),?_⟩
 obtain⟨r,fs,A,I,t,O,F⟩:=id a.O5.ex
 have M:=a.d
 obtain⟨n,u,l,_,_,_,_,_,p⟩:=id a.con.c.ex
 exact⟨_,rfl,z,Cp,r,fs,_,rfl,A,T.clP,T.np_console,t,y,n,u,rfl,l,p _ (by decide),B,y,x,m,b,D,o,k,rfl,⟨⟨s,bs,rk,g,a.con⟩,f,v⟩,j,d,q⟩
inductive JD (cn:Nat->Str) (sz:List Nat) (rk:List (Str × Nat × Int)) (kbs:List Kb) (ls:List (List Ln)) (D n p:Nat):Prop
 | mk (cl:List Nat) (m:Nat):(∀ k,k∈cl ↔ ∃ z,kbs[k]? = some z/\z.w = "stop" /\ D.testBit k=true)->(∀ j,m.testBit j=true ↔ Qm cn sz kbs D n j)->p=dZ sz rk kbs ls cl m->JD cn sz rk kbs ls D n p
structure bu (cn:Nat->Str) (sz:List Nat) (rk:List (Str × Nat × Int)) (kbs:List Kb) (ls:List (List Ln)) (sts:List Nat) (sh:Nat) (kvs:List (Key × V)) (c:Nat->Nat):Prop where
 kb:R7 sz.length kbs
 lg:gO rk ls
 nm:∀ n∈Ih (Bu cn kbs),isNm n
 nk:(Bu cn kbs).length<=100
 sh:sh<=sts.length
 st:sts.length<=100
 kc:∀ k,0<c k->k<sz.sum
 kl:kvs.length<=500
inductive iT (C Cy Cp:Addr) (vs:List V) (H:Hp) (Q:VK) (b9:XK):Prop
 | mk (Ho:Hp) (z x y hd:Addr) (us:List V) (rk:List (Str × Nat × Int)) (ls:List (List Ln:_)) (sts:List Nat) (dr sh:Nat) (sd:Addr) (kvs:List (Key × V)) (c:Nat->Nat) (cn:Nat->Str) (sz:List Nat) (kbs:List Kb):vs=[.ref z]->VR C Cy Cp Ho H z x y hd us (Bg cn sz) rk (Bu cn kbs) ls sts dr sh sd kvs c->bu cn sz rk kbs ls sts sh kvs c->(∀ (p:Nat) H',Am H H'->JD cn sz rk kbs ls (dr ||| Pz (sts.take sh)) (Wd.mk (D_ kvs)) p->Q (.int (p:Nat)) H')->iT C Cy Cp vs H Q b9
theorem um:Av sN sN (Ae uU):=Bh
include N T in
theorem kJ:Ao P w K mg base Bb 8 aD.fQs aD.dQs sN (iT C Cy Cp):=by
 refine N.FQs.1.DX um λH M Q E f h=>?_
 obtain⟨A,z,x,y,v,u,rk,g,d,B,s,p,b,c,L,sz,l,rfl,a,ok,q⟩:=h
 have R:=CJ f
 refine⟨_,(Ah (Ax (zC (qZ N T) f rfl N.FSo (Aa (Bc (pv 0) rfl) (Aa (Bo (pv 0) T.clP N.FQk.2.2 (aY N T) (ad f) N.FQk.2.1 .nil Aq) (Aa (Bo (pv 0) T.clP N.FQe.2.2 (Xq N T) (ad f) N.FQe.2.1 .nil Aq) Ab)))))),?_⟩
 obtain⟨k,fs,n,I,U,W,o⟩:=id a.O5.ex
 have V:=a.d
 refine⟨_,rfl,z,Cp,k,fs,_,rfl,n,T.clP,T.np_organ,I,_,rfl,z,k,fs,rfl,n,o _ (by decide),A,z,x,y,v,u,_,rk,_,g,d,B,s,p,b,c,rfl,a,ok.nm,ok.nk,ok.sh,ok.st,λS e=>?_⟩
 refine⟨_,rfl,z,k,fs,rfl,e _ _ n,o _ (by decide),A,z,x,y,v,u,_,rk,_,g,d,B,s,p,b,c,rfl,a.mono e,ok.kl,λO r=>?_⟩
 exact⟨x,L,sz,rk,l,g,_,_,rfl,(a.con.o.o).mono (a.con.s.trans (e.trans r)),ok.kb,ok.lg,Wd.Ry a.h.bound,(λi t=>ok.kc i ((a.h.mem i).mp (by rw[Wd.Hr] at t;exact of_decide_eq_true t))),λD m J G j F=>q _ J ((e.trans r).trans G) ⟨D,m,j,F,rfl⟩⟩
inductive Dz where
 | hold (v u:V)
 | leave (v u:V)
 | con (d:Fd)
def Dz.v:Dz->List V
 | .hold v u=>[.str "hold",v,u]
 | .leave v u=>[.str "leave",v,u]
 | .con d=>d.v
def Dz.odd (H:Hp):Dz->Prop
 | .hold v u=>Ci H v/\Ci H u
 | .leave v u=>Ci H v/\Ci H u
 | .con d=>d.odd H
theorem Dz.odd.mono (s:Am H H') {d:Dz} (h:d.odd H):d.odd H':=by
 cases d with
 | hold v u=>exact⟨Ci.mono s h.1,Ci.mono s h.2⟩
 | leave v u=>exact⟨Ci.mono s h.1,Ci.mono s h.2⟩
 | con d=>exact Fd.odd.mono s h
inductive Fg (bs:List (Str × Nat)) (v u:V) (k:Nat):Prop
 | mk (j n:Nat) (b:Str × Nat):v=.str b.1->u=.int (n:Nat)->bs[j]? = some b->(bs.map (·.1)).idxOf b.1=j->n<b.2->k=((bs.take j).map (·.2)).sum+n->Fg bs v u k
structure HW (C Cy Cp pE pA:Addr) (Ho H:Hp) (z x y hd:Addr) (us:List V) (bs:List (Str × Nat)) (rk:List (Str × Nat × Int)) (ks:List R) (ls:List (List Ln)) (sts:List Nat) (s:Cs) (sd:Addr) (kvs:List (Key × V)) (c:Nat->Nat) (n:Nat):Prop where
 p:VR C Cy Cp Ho H z x y hd us bs rk ks ls sts s.dr s.sh sd kvs c
 f:d_ bs ks
 hs:Ho sd=none
 ny:sd ≠ y
 st:RN pE pA H sd s.m n
 zy:z ≠ y
 hh:hd ≠ sd
def Fp (H H':Hp) (y sd hd:Addr):Prop:=∀ b o,H b=some o->b ≠ y->b ≠ sd->b ≠ hd->H' b=some o
section
variable {x:Addr} {bs:List (Str × Nat)} {rk:List (Str × Nat × Int)} {s s':Cs} {g0:List (Key × V)} {c':Nat->Nat} {n':Nat}
theorem Fp.of (h:Am H H'):Fp H H' y sd hd:=λb o e _ _ _=>h b o e
theorem Fp.trans {a:Hp} (h:Fp H H' y sd hd) (g:Fp H' a y sd hd):Fp H a y sd hd:=λb o e d c f=>g b o (h b o e d c f) d c f
theorem HW.con (h:HW C Cy Cp pE pA Ho H z x y hd us bs rk ks ls sts s sd kvs c n):Di C Cy pE pA Ho H y x bs ks sts s.dr s.sh sd s.m n:=⟨⟨us,rk,ls,h.p.con⟩,h.f,h.hs,h.ny,h.st⟩
theorem HW.mono (e:Am H H') (h:HW C Cy Cp pE pA Ho H z x y hd us bs rk ks ls sts s sd kvs c n):HW C Cy Cp pE pA Ho H' z x y hd us bs rk ks ls sts s sd kvs c n:=⟨h.p.mono e,h.f,h.hs,h.ny,h.st.mono e,h.zy,h.hh⟩
theorem HW.le (e:n<=n') (h:HW C Cy Cp pE pA Ho H z x y hd us bs rk ks ls sts s sd kvs c n):HW C Cy Cp pE pA Ho H z x y hd us bs rk ks ls sts s sd kvs c n':=by
 obtain⟨q,d,a,b⟩:=h.st.ex
 exact⟨h.p,h.f,h.hs,h.ny,⟨q,d,ba a e,b⟩,h.zy,h.hh⟩
theorem HW.lC (h:HW C Cy Cp pE pA Ho H z x y hd us bs rk ks ls sts s sd kvs c n) (f:Fb H H' y sd) (k:Di C Cy pE pA Ho H' y x bs ks sts s'.dr s'.sh sd s'.m n'):HW C Cy Cp pE pA Ho H' z x y hd us bs rk ks ls sts s' sd kvs c n':=by
 obtain⟨d,p,i,b⟩:=k.o
 obtain⟨j,l,a,g⟩:=h.p.O5.ex
 obtain⟨q,r,_⟩:=h.st.ex
 obtain⟨u,fs,t,_⟩:=h.p.con.c.ex
 have o:z ≠ sd:=λe=>by rw[e,r] at a;cases a
 have m:hd ≠ y:=λe=>by
  have:=h.p.d
  rw[e,t] at this
  cases this
 exact⟨⟨⟨h.p.con.o,b.s,h.p.con.n,b.c⟩,⟨j,l,f _ _ a h.zy o,g⟩,h.p.n,f _ _ h.p.d m h.hh,h.p.h⟩,h.f,h.hs,h.ny,k.st,h.zy,h.hh⟩
theorem HW.cI (h:HW C Cy Cp pE pA Ho H z x y hd us bs rk ks ls sts s sd kvs c n) (g:EY g0 c'):HW C Cy Cp pE pA Ho (upd H hd (.dK g0)) z x y hd us bs rk ks ls sts s sd g0 c' n:=by
 refine⟨h.p.put g,h.f,h.hs,h.ny,?_,h.zy,h.hh⟩
 obtain⟨q,j,k,a,l⟩:=h.st.ex
 refine⟨q,by rw[Aw (Ne.symm h.hh)];exact j,k,a,λp i d f=>?_⟩
 obtain⟨o,m,b⟩:=l p i d f
 refine⟨o,m,b.keep λ_ _ _ e=>?_⟩
 rw[Aw λz=>by rw[z,h.p.d] at e;cases e]
 exact e
end
theorem fP {s:Cs} (h:s.sh<=n) (d:Fd):(act ns ks n s d).1.sh<=n:=by
 cases d with
 | pull v =>
  unfold act
  try dsimp only
  split <;> exact h
 | push v =>
  unfold act
  try dsimp only
  split <;> exact h
 | store v =>
  unfold act
  try dsimp only
  split <;> exact h
 | storeB v b =>
  unfold act
  try dsimp only
  split
  ·split <;> exact h
  ·exact h
 | press v =>
  unfold act
  try dsimp only
  split <;> exact h
 | shoe v =>
  unfold act
  try dsimp only
  split
  ·rename_i i c
   cases v with
   | int k =>
    have a:(if 0<=k/\k<=(n:Nat) then some k.toNat else none)=some i:=c
    by_cases e:0<=k/\k<=(n:Nat)
    ·rw[if_pos e] at a
     have:=Option.some.inj a
     show i<=n
     omega
    ·rw[if_neg e] at a
     cases a
   | _=>cases c
  ·exact h
 | cancel=>exact dA _
def Sh (bs:List (Str × Nat)) (ks:List R) (n:Nat) (s:Cs) (c:Nat->Nat) (d:Dz) (s':Cs) (c':Nat->Nat):Prop:=match d with
 | .hold v u=>s'=s/\∃ k,Fg bs v u k/\c'=setC c k (c k+1)
 | .leave v u=>s'=s/\∃ k,Fg bs v u k/\0<c k/\c'=setC c k (c k - 1)
 | .con d=>c'=c/\∃ u,act (bs.map (·.1)) ks n s d=(s',.told u)
def V0 (cK cP cB cS cH cY:Addr) (bs:List (Str × Nat)) (ks:List R) (n:Nat) (s:Cs) (c:Nat->Nat) (d:Dz) (a:Addr):Prop:=match d with
 | .hold v u=>(a=cB/\Gj (bs.map (·.1)) v=.non) \/ (a=cY/\∃ (j:Nat) (b:Str × Nat),v=.str b.1/\bs[j]? = some b/\(bs.map (·.1)).idxOf b.1=j/\ZC b.2 u=false)
 | .leave v u=>(a=cB/\Gj (bs.map (·.1)) v=.non) \/ (a=cY/\∃ (j:Nat) (b:Str × Nat),v=.str b.1/\bs[j]? = some b/\(bs.map (·.1)).idxOf b.1=j/\ZC b.2 u=false) \/ (a=cH/\∃ k,Fg bs v u k/\c k=0)
 | .con d=>∃ i,act (bs.map (·.1)) ks n s d=(s,.no i)/\a=zZ cK cP cB cS i
inductive fC (K:W.Frag) (vs:List V) (H:Hp) (Q:VK) (b9:XK):Prop
 | mk (t:Addr) (d:Dz):vs=[.ref t]->H t=some (.tup d.v)->(∀ H',Am H H'->Q (.bl true) H')->fC K vs H Q b9
theorem uM:Av uB uB (Ae vQ):=Bh
include N T in
theorem qj:Ao P w K mg base Bb 1 aD.fId aD.dId uB (fC K):=by
 refine N.FId.1.DX uM λH l Q E k h=>?_
 obtain⟨t,d,rfl,a,q⟩:=h
 refine⟨_,(Af (Bl (PW.pt (Ew (Cu (DK (A_ Cj rfl T.isin be (Aa (pv 0) (Aa (Dm (v:=.ty "tuple") rfl T.tuple ix rfl) Ab))))) (Ew (Cu (Ma (pv 0) (λ_=>rfl))) (Ej (Cu (DK (A_ Cj rfl T.isin be (Aa (Ay (An (K:=K) rfl) (pv 0) Ac (λ_ _=>rfl)) (Aa (Dm (v:=.ty "str") rfl T.str hG rfl) Ab))))))))) (Ah (Ax Gv)) Be)
  (Ah (Ax (Dw Nu (A_ BZ rfl T.len bo (Aa (pv 0) Ab)) (YF (Cr (v:=.ref aQ) rfl T.mQ rfl) (Ay (An (K:=K) rfl) (pv 0) Ac (λ_ _=>rfl)) (Cm Ab) ⟨rfl,rfl,rfl,rfl⟩) rfl)))),?_⟩
 cases d with
 | hold v u =>
  obtain⟨c,e,g⟩:=T.pc ("hold",[.int 3]) (.head _)
  refine⟨_,rfl,_,"tuple",_,_,rfl,.tup a,I_,_,rfl,Bk ?_⟩
  refine⟨_,rfl,_,.inr (.inl ⟨_,kK a,rfl⟩),Bk ?_⟩
  refine⟨_,rfl,t,_,_,_,rfl,rfl,kK a,Ag (j:=0) rfl,_,"str",_,_,rfl,.str _,HQ,_,rfl,Bk ?_⟩
  refine⟨_,rfl,t,_,rfl,.inr (kK a),aQ,rfl,T.dQ,_,rfl,t,_,_,_,rfl,rfl,kK a,Ag (j:=0) rfl,Cg (dA _),λi f=>?_⟩
  exact⟨_,_,rfl,e,.ref c,rfl,λ_=>⟨c,_,rfl,.inr (g.sq _),rfl,rfl,q _ (BR f)⟩,λh=>by cases h⟩
 | leave v u =>
  obtain⟨c,e,g⟩:=T.pc ("leave",[.int 3]) (.tail _ (.head _))
  refine⟨_,rfl,_,"tuple",_,_,rfl,.tup a,I_,_,rfl,Bk ?_⟩
  refine⟨_,rfl,_,.inr (.inl ⟨_,kK a,rfl⟩),Bk ?_⟩
  refine⟨_,rfl,t,_,_,_,rfl,rfl,kK a,Ag (j:=0) rfl,_,"str",_,_,rfl,.str _,HQ,_,rfl,Bk ?_⟩
  refine⟨_,rfl,t,_,rfl,.inr (kK a),aQ,rfl,T.dQ,_,rfl,t,_,_,_,rfl,rfl,kK a,Ag (j:=0) rfl,Cg (dA _),λi f=>?_⟩
  exact⟨_,_,rfl,e,.ref c,rfl,λ_=>⟨c,_,rfl,.inr (g.sq _),rfl,rfl,q _ (BR f)⟩,λh=>by cases h⟩
 | con d =>
  cases d with
  | pull v =>
   obtain⟨c,e,g⟩:=T.pc ("pull",[.int 2]) (.tail _ (.tail _ (.head _)))
   refine⟨_,rfl,_,"tuple",_,_,rfl,.tup a,I_,_,rfl,Bk ?_⟩
   refine⟨_,rfl,_,.inr (.inl ⟨_,kK a,rfl⟩),Bk ?_⟩
   refine⟨_,rfl,t,_,_,_,rfl,rfl,kK a,Ag (j:=0) rfl,_,"str",_,_,rfl,.str _,HQ,_,rfl,Bk ?_⟩
   refine⟨_,rfl,t,_,rfl,.inr (kK a),aQ,rfl,T.dQ,_,rfl,t,_,_,_,rfl,rfl,kK a,Ag (j:=0) rfl,Cg (dA _),λi f=>?_⟩
   exact⟨_,_,rfl,e,.ref c,rfl,λ_=>⟨c,_,rfl,.inr (g.sq _),rfl,rfl,q _ (BR f)⟩,λh=>by cases h⟩
  | push v =>
   obtain⟨c,e,g⟩:=T.pc ("push",[.int 2]) (.tail _ (.tail _ (.tail _ (.head _))))
   refine⟨_,rfl,_,"tuple",_,_,rfl,.tup a,I_,_,rfl,Bk ?_⟩
   refine⟨_,rfl,_,.inr (.inl ⟨_,kK a,rfl⟩),Bk ?_⟩
   refine⟨_,rfl,t,_,_,_,rfl,rfl,kK a,Ag (j:=0) rfl,_,"str",_,_,rfl,.str _,HQ,_,rfl,Bk ?_⟩
   refine⟨_,rfl,t,_,rfl,.inr (kK a),aQ,rfl,T.dQ,_,rfl,t,_,_,_,rfl,rfl,kK a,Ag (j:=0) rfl,Cg (dA _),λi f=>?_⟩
   exact⟨_,_,rfl,e,.ref c,rfl,λ_=>⟨c,_,rfl,.inr (g.sq _),rfl,rfl,q _ (BR f)⟩,λh=>by cases h⟩
  | store v =>
   obtain⟨c,e,g⟩:=T.pc ("store",[.int 2,.int 3]) (.tail _ (.tail _ (.tail _ (.tail _ (.head _)))))
   refine⟨_,rfl,_,"tuple",_,_,rfl,.tup a,I_,_,rfl,Bk ?_⟩
   refine⟨_,rfl,_,.inr (.inl ⟨_,kK a,rfl⟩),Bk ?_⟩
   refine⟨_,rfl,t,_,_,_,rfl,rfl,kK a,Ag (j:=0) rfl,_,"str",_,_,rfl,.str _,HQ,_,rfl,Bk ?_⟩
   refine⟨_,rfl,t,_,rfl,.inr (kK a),aQ,rfl,T.dQ,_,rfl,t,_,_,_,rfl,rfl,kK a,Ag (j:=0) rfl,Cg (dA _),λi f=>?_⟩
   exact⟨_,_,rfl,e,.ref c,rfl,λ_=>⟨c,_,rfl,.inr (g.sq _),rfl,rfl,q _ (BR f)⟩,λh=>by cases h⟩
  | storeB v b =>
   obtain⟨c,e,g⟩:=T.pc ("store",[.int 2,.int 3]) (.tail _ (.tail _ (.tail _ (.tail _ (.head _)))))
   refine⟨_,rfl,_,"tuple",_,_,rfl,.tup a,I_,_,rfl,Bk ?_⟩
   refine⟨_,rfl,_,.inr (.inl ⟨_,kK a,rfl⟩),Bk ?_⟩
   refine⟨_,rfl,t,_,_,_,rfl,rfl,kK a,Ag (j:=0) rfl,_,"str",_,_,rfl,.str _,HQ,_,rfl,Bk ?_⟩
   refine⟨_,rfl,t,_,rfl,.inr (kK a),aQ,rfl,T.dQ,_,rfl,t,_,_,_,rfl,rfl,kK a,Ag (j:=0) rfl,Cg (dA _),λi f=>?_⟩
   exact⟨_,_,rfl,e,.ref c,rfl,λ_=>⟨c,_,rfl,.inr (g.sq _),rfl,rfl,q _ (BR f)⟩,λh=>by cases h⟩
  | press v =>
   obtain⟨c,e,g⟩:=T.pc ("press",[.int 2]) (.tail _ (.tail _ (.tail _ (.tail _ (.tail _ (.head _))))))
   refine⟨_,rfl,_,"tuple",_,_,rfl,.tup a,I_,_,rfl,Bk ?_⟩
   refine⟨_,rfl,_,.inr (.inl ⟨_,kK a,rfl⟩),Bk ?_⟩
   refine⟨_,rfl,t,_,_,_,rfl,rfl,kK a,Ag (j:=0) rfl,_,"str",_,_,rfl,.str _,HQ,_,rfl,Bk ?_⟩
   refine⟨_,rfl,t,_,rfl,.inr (kK a),aQ,rfl,T.dQ,_,rfl,t,_,_,_,rfl,rfl,kK a,Ag (j:=0) rfl,Cg (dA _),λi f=>?_⟩
   exact⟨_,_,rfl,e,.ref c,rfl,λ_=>⟨c,_,rfl,.inr (g.sq _),rfl,rfl,q _ (BR f)⟩,λh=>by cases h⟩
  | shoe v =>
   obtain⟨c,e,g⟩:=T.pc ("shoe",[.int 2]) (.tail _ (.tail _ (.tail _ (.tail _ (.tail _ (.tail _ (.tail _ (.head _))))))))
   refine⟨_,rfl,_,"tuple",_,_,rfl,.tup a,I_,_,rfl,Bk ?_⟩
   refine⟨_,rfl,_,.inr (.inl ⟨_,kK a,rfl⟩),Bk ?_⟩
   refine⟨_,rfl,t,_,_,_,rfl,rfl,kK a,Ag (j:=0) rfl,_,"str",_,_,rfl,.str _,HQ,_,rfl,Bk ?_⟩
   refine⟨_,rfl,t,_,rfl,.inr (kK a),aQ,rfl,T.dQ,_,rfl,t,_,_,_,rfl,rfl,kK a,Ag (j:=0) rfl,Cg (dA _),λi f=>?_⟩
   exact⟨_,_,rfl,e,.ref c,rfl,λ_=>⟨c,_,rfl,.inr (g.sq _),rfl,rfl,q _ (BR f)⟩,λh=>by cases h⟩
  | cancel =>
   obtain⟨c,e,g⟩:=T.pc ("cancel",[.int 1]) (.tail _ (.tail _ (.tail _ (.tail _ (.tail _ (.tail _ (.head _)))))))
   refine⟨_,rfl,_,"tuple",_,_,rfl,.tup a,I_,_,rfl,Bk ?_⟩
   refine⟨_,rfl,_,.inr (.inl ⟨_,kK a,rfl⟩),Bk ?_⟩
   refine⟨_,rfl,t,_,_,_,rfl,rfl,kK a,Ag (j:=0) rfl,_,"str",_,_,rfl,.str _,HQ,_,rfl,Bk ?_⟩
   refine⟨_,rfl,t,_,rfl,.inr (kK a),aQ,rfl,T.dQ,_,rfl,t,_,_,_,rfl,rfl,kK a,Ag (j:=0) rfl,Cg (dA _),λi f=>?_⟩
   exact⟨_,_,rfl,e,.ref c,rfl,λ_=>⟨c,_,rfl,.inr (g.sq _),rfl,rfl,q _ (BR f)⟩,λh=>by cases h⟩
inductive iC (C Cy Cp pE pA cK cP cB cS cH cY:Addr) (vs:List V) (H:Hp) (Q:VK) (E:XK):Prop
 | mk (Ho:Hp) (z x y hd:Addr) (us:List V) (bs:List (Str × Nat)) (rk:List (Str × Nat × Int)) (ks:List R) (ls:List (List Ln:_)) (sts:List Nat) (s:Cs) (sd:Addr) (kvs:List (Key × V)) (c:Nat->Nat) (n:Nat) (t:Addr) (d:Dz):vs=[.ref z,.ref t]->H t=some (.tup d.v)->d.odd H->HW C Cy Cp pE pA Ho H z x y hd us bs rk ks ls sts s sd kvs c n->kvs.length<=900->n<900->(∀ v u k,Fg bs v u k->k<1200)->(∀ s' g0 c' H',Sh bs ks sts.length s c d s' c'->Fp H H' y sd hd->HW C Cy Cp pE pA Ho H' z x y hd us bs rk ks ls sts s' sd g0 c' (n+1)->g0.length<=kvs.length+1->Q .non H')->(∀ a H',V0 cK cP cB cS cH cY bs ks sts.length s c d a->Am H H'->E (.ref a) none H')->iC C Cy Cp pE pA cK cP cB cS cH cY vs H Q E
theorem yK:Av wc wc (Ae xm):=Bh
include N T in
theorem oF:Ao P w K mg base (Fy P w) 8 aD.fQa aD.dQa wc (iC C Cy Cp pE pA cK cP cB cS cH cY):=by
 have ab:Ao P w K mg base (Fy P w) 5 aD.fKy aD.dKy yY (jJ C cB cY):=nH N T
 have an:Ao P w K mg base (Fy P w) 1 aD.fQl aD.dQl vb (iw C Cy Cp cH):=o7 N T
 have ac:Ao P w K mg base (Fy P w) 7 aD.fDz aD.dDz wh (Y6 C Cy pE pA cK cP cB cS):=j8 N T
 refine N.FQa.1.Jr yK λH vs Q E S h=>?_
 obtain⟨Ho,z,x,y,lP,us,bs,rk,ks,ls,I,s,sd,F,c,n,t,d,rfl,ht,hd,J,hl,Fc,hk,q1,Z⟩:=h
 have hu:=CJ S
 refine⟨_,(Af (Bl (Cu (DK (zC (qj N T) S rfl N.FId (Aa (pv 1) Ab)))) (Ah Hk) Be)
  (Ah (Bl (BL Bw (Ay (An (K:=K) rfl) (pv 1) Ac (λ_ _=>rfl)) BP (BW _)) (Ah (CG (Bp (pv 0) T.clP N.FQh.2.2 (mU N T) (ad S) N.FQh.2.1 .nil Aq (Aa (Al ab (ad S) rfl N.FKy.2.2 N.FKy.1.kp N.FKy.2.1 .nil Df (Aa (Bc (pv 0) rfl) (Aa (Ay (An (K:=K) rfl) (pv 1) Ac (λ_ _=>rfl)) (Aa (Ay (An (K:=K) rfl) (pv 1) Ac (λ_ _=>rfl)) Ab)))) Ab)))) (Ah (Bl (BL Bw (Ay (An (K:=K) rfl) (pv 1) Ac (λ_ _=>rfl)) BP (BW _)) (Ah (CG (Bp (pv 0) T.clP N.FQl.2.2 an (ad S) N.FQl.2.1 .nil Df (Aa (Al ab (ad S) rfl N.FKy.2.2 N.FKy.1.kp N.FKy.2.1 .nil Df (Aa (Bc (pv 0) rfl) (Aa (Ay (An (K:=K) rfl) (pv 1) Ac (λ_ _=>rfl)) (Aa (Ay (An (K:=K) rfl) (pv 1) Ac (λ_ _=>rfl)) Ab)))) Ab)))) (Ah (CG (Al ac (ad S) rfl N.FDz.2.2 N.FDz.1.kp N.FDz.2.1 .nil Df (Aa (Bc (pv 0) rfl) (Aa (Ay (An (K:=K) rfl) (pv 1) Ac (λ_ _=>rfl)) (Aa (Ec N7 (pv 1) (Eh Ac) Gd) Ab))))))))))),?_⟩
 obtain⟨D,fs,G,l1,W,l3,lm⟩:=id J.p.O5.ex
 have qa:=J.p.d
 refine⟨_,rfl,t,d,rfl,ht,λH1 l=>⟨_,rfl,Bk ?_⟩⟩
 have Ap:=J.mono l
 have a:=l _ _ ht
 cases d with
 | hold v u =>
  refine (wT a (Ey rfl ?_))
  refine⟨_,rfl,z,D,fs,rfl,l _ _ G,lm _ (by decide),_,rfl,z,Cp,D,fs,_,rfl,l _ _ G,T.clP,T.np_organ,l1,_,rfl,t,_,_,_,rfl,rfl,kK a,Ag (j:=1) rfl,_,rfl,t,_,_,_,rfl,rfl,kK a,Ag (j:=2) rfl,x,us,bs,rk,ks,ls,I,v,u,rfl,Ap.p.con.o.mono Ap.p.con.s,Ci.mono l hd.1,Ci.mono l hd.2,J.f.bn,(λj m b B A X eu O Y R=>?_),(λB A r=>Z cB B (.inl ⟨rfl,r⟩) (l.trans A)),(λj b B A X O Y r=>Z cY B (.inr ⟨rfl,j,b,X,O,Y,r⟩) (l.trans A))⟩
  have M:Fg bs v u (((bs.take j).map (·.2)).sum+m):=⟨j,m,b,X,eu,O,Y,R,rfl⟩
  have U:=hk _ _ _ M
  generalize ((bs.take j).map (·.2)).sum+m=k at M U |-
  have p:=l.trans A
  have L:=J.mono p
  refine⟨Ho,z,x,y,lP,us,bs,rk,ks,ls,I,s.dr,s.sh,sd,F,c,k,rfl,L.p,hl,U,?_⟩
  exact q1 s (putK F (kH k) (.int ((c k+1:Nat):Int))) (setC c k (c k+1)) _ ⟨rfl,k,M,rfl⟩ ((Fp.of p).trans λb o e _ _ e3=>by rw[Aw e3];exact e) ((L.cI (J.p.h.put (n:=c k+1) U)).le (by omega)) Pn
 | leave v u =>
  refine (wT a (Dn ((wT a (Ey rfl ?_)))))
  refine⟨_,rfl,z,D,fs,rfl,l _ _ G,lm _ (by decide),_,rfl,z,Cp,D,fs,_,rfl,l _ _ G,T.clP,T.np_organ,l1,_,rfl,t,_,_,_,rfl,rfl,kK a,Ag (j:=1) rfl,_,rfl,t,_,_,_,rfl,rfl,kK a,Ag (j:=2) rfl,x,us,bs,rk,ks,ls,I,v,u,rfl,Ap.p.con.o.mono Ap.p.con.s,Ci.mono l hd.1,Ci.mono l hd.2,J.f.bn,(λj m b B A X eu O Y R=>?_),(λB A r=>Z cB B (.inl ⟨rfl,r⟩) (l.trans A)),(λj b B A X O Y r=>Z cY B (.inr (.inl ⟨rfl,j,b,X,O,Y,r⟩)) (l.trans A))⟩
  have M:Fg bs v u (((bs.take j).map (·.2)).sum+m):=⟨j,m,b,X,eu,O,Y,R,rfl⟩
  have U:=hk _ _ _ M
  generalize ((bs.take j).map (·.2)).sum+m=k at M U |-
  have p:=l.trans A
  have L:=J.mono p
  refine⟨Ho,z,x,y,lP,us,bs,rk,ks,ls,I,s.dr,s.sh,sd,F,c,k,rfl,L.p,hl,U,(λe0=>Z cH B (.inr (.inr ⟨rfl,k,M,e0⟩)) p),(λe0=>?_)⟩
  exact q1 s (putK F (kH k) (.int ((c k - 1:Nat):Int))) (setC c k (c k - 1)) _ ⟨rfl,k,M,e0,rfl⟩ ((Fp.of p).trans λb o e _ _ e3=>by rw[Aw e3];exact e) ((L.cI (J.p.h.put (n:=c k - 1) U)).le (by omega)) Pn
 | con d =>
  have fin:∀ (xs:List V),xs=d.args->∀ q,H1 q=none->Y6 C Cy pE pA cK cP cB cS [.ref y,.str d.wd,.ref q] (upd H1 q (.tup xs)) (λ_ B=>Q .non B) E:=λxs ex q g=>by
   subst ex
   have A:=BR (o:=HO.tup d.args) g
   have p:=l.trans A
   have L:=J.mono p
   refine⟨Ho,y,x,bs,ks,I,s,sd,n,q,d,rfl,L.con,Fc,Ak,Fd.odd.mono p hd,(λs' u H' ha f k=>?_),(λi H' ha s3=>Z _ H' ⟨i,ha,rfl⟩ (p.trans s3))⟩
   exact q1 s' F c H' ⟨rfl,u,ha⟩ ((Fp.of p).trans λb o e e1 e2 _=>f b o e e1 e2) (L.lC f k) (iN _)
  cases d with
  | pull v =>
   refine (wT a (Dn ((wT a (Dn  ?_)))))
   refine⟨_,rfl,z,Cp,D,fs,_,rfl,l _ _ G,T.clP,T.np_console,W,_,rfl,t,_,_,_,rfl,rfl,kK a,Ag (j:=0) rfl,_,rfl,_,rfl,t,_,rfl,kK a,(λe=>absurd e.1 (show ¬ HT.Ea 2 0 (some 1)=0 by decide)),λq g=>?_⟩
   exact fin _ rfl q g
  | push v =>
   refine (wT a (Dn ((wT a (Dn  ?_)))))
   refine⟨_,rfl,z,Cp,D,fs,_,rfl,l _ _ G,T.clP,T.np_console,W,_,rfl,t,_,_,_,rfl,rfl,kK a,Ag (j:=0) rfl,_,rfl,_,rfl,t,_,rfl,kK a,(λe=>absurd e.1 (show ¬ HT.Ea 2 0 (some 1)=0 by decide)),λq g=>?_⟩
   exact fin _ rfl q g
  | store v =>
   refine (wT a (Dn ((wT a (Dn  ?_)))))
   refine⟨_,rfl,z,Cp,D,fs,_,rfl,l _ _ G,T.clP,T.np_console,W,_,rfl,t,_,_,_,rfl,rfl,kK a,Ag (j:=0) rfl,_,rfl,_,rfl,t,_,rfl,kK a,(λe=>absurd e.1 (show ¬ HT.Ea 2 0 (some 1)=0 by decide)),λq g=>?_⟩
   exact fin _ rfl q g
  | storeB v b =>
   refine (wT a (Dn ((wT a (Dn  ?_)))))
   refine⟨_,rfl,z,Cp,D,fs,_,rfl,l _ _ G,T.clP,T.np_console,W,_,rfl,t,_,_,_,rfl,rfl,kK a,Ag (j:=0) rfl,_,rfl,_,rfl,t,_,rfl,kK a,(λe=>absurd e.1 (show ¬ HT.Ea 3 0 (some 1)=0 by decide)),λq g=>?_⟩
   exact fin _ rfl q g
  | press v =>
   refine (wT a (Dn ((wT a (Dn  ?_)))))
   refine⟨_,rfl,z,Cp,D,fs,_,rfl,l _ _ G,T.clP,T.np_console,W,_,rfl,t,_,_,_,rfl,rfl,kK a,Ag (j:=0) rfl,_,rfl,_,rfl,t,_,rfl,kK a,(λe=>absurd e.1 (show ¬ HT.Ea 2 0 (some 1)=0 by decide)),λq g=>?_⟩
   exact fin _ rfl q g
  | shoe v =>
   refine (wT a (Dn ((wT a (Dn  ?_)))))
   refine⟨_,rfl,z,Cp,D,fs,_,rfl,l _ _ G,T.clP,T.np_console,W,_,rfl,t,_,_,_,rfl,rfl,kK a,Ag (j:=0) rfl,_,rfl,_,rfl,t,_,rfl,kK a,(λe=>absurd e.1 (show ¬ HT.Ea 2 0 (some 1)=0 by decide)),λq g=>?_⟩
   exact fin _ rfl q g
  | cancel =>
   refine (wT a (Dn ((wT a (Dn  ?_)))))
   refine⟨_,rfl,z,Cp,D,fs,_,rfl,l _ _ G,T.clP,T.np_console,W,_,rfl,t,_,_,_,rfl,rfl,kK a,Ag (j:=0) rfl,_,rfl,_,rfl,t,_,rfl,kK a,(λe=>absurd e.1 (show ¬ HT.Ea 1 0 (some 1)=0 by decide)),λq g=>?_⟩
   exact fin _ rfl q g
def gb (a b:Nat):Nat:=a - (a &&& b)
theorem Sg (a b:Nat):Builtin.bitAnd ((a:Nat):Int) (Builtin.bitNot ((b:Nat):Int))=((gb a b:Nat):Int):=by
 unfold Builtin.bitAnd Builtin.bitNot gb
 have c:decide (0<=((a:Nat):Int))=true:=decide_eq_true (by omega)
 have e:decide (0 <= -((b:Nat):Int) - 1)=false:=decide_eq_false (by omega)
 rw[c,e]
 show ((a:Nat):Int) - (((((a:Nat):Int).toNat &&& (-(-((b:Nat):Int) - 1) - 1).toNat:Nat)):Int)=_
 have d:(-(-((b:Nat):Int) - 1) - 1).toNat=b:=by omega
 rw[d,bb]
 have:=@Nat.and_le_left a b
 omega
theorem Vf (a b:Nat):gb a b<=a:=Nat.sub_le _ _
structure Ir (C Cy Cp pE pA:Addr) (Ho H:Hp) (z x y hd:Addr) (us:List V) (rk:List (Str × Nat × Int)) (ls:List (List Ln)) (sts:List Nat) (s:Cs) (sd:Addr) (kvs:List (Key × V)) (c:Nat->Nat) (n:Nat) (cn:Nat->Str) (sz:List Nat) (kbs:List Kb):Prop where
 p:HW C Cy Cp pE pA Ho H z x y hd us (Bg cn sz) rk (Bu cn kbs) ls sts s sd kvs c n
 o:bu cn sz rk kbs ls sts s.sh kvs c
 bd:∀ D n p,JD cn sz rk kbs ls D n p->p<2 ^ 1200
 ky:∀ v u k,Fg (Bg cn sz) v u k->k<sz.sum
 ks:sz.sum<1200
abbrev tE (s:Cs) (sts:List Nat):Nat:=s.dr ||| Pz (sts.take s.sh)
section
variable {x:Addr} {rk:List (Str × Nat × Int)} {s s':Cs} {g0:List (Key × V)} {c':Nat->Nat} {n':Nat} {cn:Nat->Str} {sz:List Nat}
theorem Ir.mono (e:Am H H') (h:Ir C Cy Cp pE pA Ho H z x y hd us rk ls sts s sd kvs c n cn sz kbs):Ir C Cy Cp pE pA Ho H' z x y hd us rk ls sts s sd kvs c n cn sz kbs:=⟨h.p.mono e,h.o,h.bd,h.ky,h.ks⟩
theorem Ir.step (h:Ir C Cy Cp pE pA Ho H z x y hd us rk ls sts s sd kvs c n cn sz kbs) {d:Dz} (e:Sh (Bg cn sz) (Bu cn kbs) sts.length s c d s' c') (g:HW C Cy Cp pE pA Ho H' z x y hd us (Bg cn sz) rk (Bu cn kbs) ls sts s' sd g0 c' n') (hl:g0.length<=500):Ir C Cy Cp pE pA Ho H' z x y hd us rk ls sts s' sd g0 c' n' cn sz kbs:=by
 have b:s'.sh<=sts.length/\∀ k,0<c' k->k<sz.sum:=by
  cases d with
  | hold v u =>
   obtain⟨rfl,k,f,rfl⟩:=e
   refine⟨h.o.sh,λi a=>?_⟩
   by_cases z:i=k
   ·rw[z];exact h.ky _ _ _ f
   ·rw[show setC c k (c k+1) i=c i from if_neg z] at a
    exact h.o.kc i a
  | leave v u =>
   obtain⟨rfl,k,f,l,rfl⟩:=e
   refine⟨h.o.sh,λi a=>?_⟩
   by_cases z:i=k
   ·rw[z];exact h.ky _ _ _ f
   ·rw[show setC c k (c k - 1) i=c i from if_neg z] at a
    exact h.o.kc i a
  | con d =>
   obtain⟨rfl,u,j⟩:=e
   have:=fP (ns:=(Bg cn sz).map (·.1)) (ks:=Bu cn kbs) h.o.sh d
   rw[j] at this
   exact⟨this,h.o.kc⟩
 exact⟨g,⟨h.o.kb,h.o.lg,h.o.nm,h.o.nk,b.1,h.o.st,b.2,hl⟩,h.bd,h.ky,h.ks⟩
end
inductive fD (C Cy Cp pE pA cK cP cB cS cH cY:Addr) (vs:List V) (H:Hp) (Q:VK) (E:XK):Prop
 | mk (Ho:Hp) (z x y hd:Addr) (us:List V) (rk:List (Str × Nat × Int)) (ls:List (List Ln:_)) (sts:List Nat) (s:Cs) (sd:Addr) (kvs:List (Key × V)) (c:Nat->Nat) (n:Nat) (cn:Nat->Str) (sz:List Nat) (kbs:List Kb) (t:Addr) (d:Dz):vs=[.ref z,.ref t]->H t=some (.tup d.v)->d.odd H->Ir C Cy Cp pE pA Ho H z x y hd us rk ls sts s sd kvs c n cn sz kbs->kvs.length<=400->n<900->(∀ s' g0 c' (p1 p2:Nat) (Ta D1 D2:Addr) Hm H',Sh (Bg cn sz) (Bu cn kbs) sts.length s c d s' c'->Fp H Hm y sd hd->Ir C Cy Cp pE pA Ho Hm z x y hd us rk ls sts s' sd g0 c' (n+1) cn sz kbs->g0.length<=kvs.length+1->JD cn sz rk kbs ls (tE s sts) (Wd.mk (D_ kvs)) p1->JD cn sz rk kbs ls (tE s' sts) (Wd.mk (D_ g0)) p2->Am Hm H'->Hm Ta=none->Hm D1=none->Hm D2=none->D1 ≠ D2->H' Ta=some (.tup [.ref D1,.ref D2])->H' D1=some (.lst (nV (Wd.mem (gb p2 p1))))->H' D2=some (.lst (nV (Wd.mem (gb p1 p2))))->Q (.ref Ta) H')->(∀ a (p1:Nat) H',V0 cK cP cB cS cH cY (Bg cn sz) (Bu cn kbs) sts.length s c d a->JD cn sz rk kbs ls (tE s sts) (Wd.mk (D_ kvs)) p1->Am H H'->E (.ref a) none H')->fD C Cy Cp pE pA cK cP cB cS cH cY vs H Q E
theorem gR:Av ["self","deed","ahead","behind"] wc (Ae tM):=Bh
include N T in
theorem j9:Ao P w K mg base (Fy P w) 9 aD.fQd aD.dQd wc (fD C Cy Cp pE pA cK cP cB cS cH cY):=by
 have I:Ao P w K mg base (Fy P w) 8 aD.fQa aD.dQa wc (iC C Cy Cp pE pA cK cP cB cS cH cY):=oF N T
 refine N.FQd.1.Jr gR λH vs Q E b h=>?_
 obtain⟨S,z,x,y,G,O,rk,J,f,s,A,m,c,n,cn,sz,p,t,d,rfl,ht,hd,e,hl,Fc,q1,q0⟩:=h
 have hu:=CJ b
 refine⟨_,(Af (Ba (i:=2) gR.nd rfl (Or.inl rfl) (Bo (pv 0) T.clP N.FQs.2.2 (kJ N T) (ad b) N.FQs.2.1 .nil Aq))
  (Af (CG (Bp (pv 0) T.clP N.FQa.2.2 I (ad b) N.FQa.2.1 .nil Df (Aa (pv 1) Ab)))
  (Af (Ba (i:=3) gR.nd rfl (Or.inl rfl) (Bo (pv 0) T.clP N.FQs.2.2 (kJ N T) (ad b) N.FQs.2.1 .nil Aq))
  (Ah (Ax (Cm (Aa (zC (QJ N T) b rfl N.FMe (Aa (BX JS (pv 3) (Ji Ow (pv 2))) Ab)) (Aa (zC (QJ N T) b rfl N.FMe (Aa (BX JS (pv 2) (Ji Ow (pv 3))) Ab)) Ab)))))))),?_⟩
 obtain⟨dz,fs,h1,l1,l2,l3,lm⟩:=id e.p.p.O5.ex
 refine⟨_,rfl,z,dz,fs,rfl,h1,lm _ (by decide),S,z,x,y,G,O,rk,J,f,s.dr,s.sh,A,m,c,cn,sz,p,rfl,e.p.p,e.o,λg H1 j L=>?_⟩
 have Ap:=e.mono j
 refine⟨_,rfl,z,dz,fs,rfl,j _ _ h1,lm _ (by decide),_,rfl,S,z,x,y,G,O,_,rk,_,J,f,s,A,m,c,n,t,d,rfl,j _ _ ht,Dz.odd.mono j hd,Ap.p,(by omega),Fc,(λv u k hk=>Nat.lt_trans (e.ky v u k hk) e.ks),(λF g0 Z D st f2 pp kX=>?_),(λa D b s2=>q0 a g D b L (j.trans s2))⟩
 have q:=Ap.step st pp (by omega)
 have M:=(Fp.of j).trans f2
 obtain⟨Z',Ee,R,_,_,_,A4⟩:=id q.p.p.O5.ex
 refine⟨_,rfl,z,Z',Ee,rfl,R,A4 _ (by decide),S,z,x,y,G,O,rk,J,f,F.dr,F.sh,A,g0,Z,cn,sz,p,rfl,q.p.p,q.o,λl H4 r S2=>?_⟩
 have b1:=e.bd _ _ _ L
 have b2:=e.bd _ _ _ S2
 refine⟨_,rfl,_,rfl,_,rfl,_,_,rfl,rfl,gb l g,congrArg (λv:Int=>[V.int v]) (Sg l g),aT (Vf _ _) b2,λD1 H5 JY s5 l5=>?_⟩
 refine⟨_,rfl,_,rfl,_,rfl,_,_,rfl,rfl,gb g l,congrArg (λv:Int=>[V.int v]) (Sg g l),aT (Vf _ _) b1,λW H6 sf Y l6=>?_⟩
 refine⟨by show 2<=sizeLine;decide,λT7 X=>?_⟩
 have B:=BR (o:=HO.tup [.ref D1,.ref W]) X
 have U':=(r.trans s5).trans Y
 have U:=U'.trans B
 exact q1 F g0 Z g l T7 D1 W D _ st M q kX L S2 U (U'.free X) (r.free JY) ((r.trans s5).free sf) (Ai l5 sf) Ak (B _ _ (Y _ _ l5)) (B _ _ l6)
def Lb (bs:List (Str × Nat)) (ks:List R) (n:Nat) (c:Nat->Nat):Dz->Prop
 | .hold v u=>∃ k,Fg bs v u k
 | .leave v u=>∃ k,Fg bs v u k/\0<c k
 | .con (.pull v)=>∃ t,v=.str t/\t∈Ih ks
 | .con (.push v)=>∃ t,v=.str t/\t∈Ih ks
 | .con (.store v)=>∃ p:Nat,v=.int (p:Nat)/\p<10
 | .con (.storeB v b)=>(∃ p:Nat,v=.int (p:Nat)/\p<10)/\(b=.non \/ ∃ t,b=.str t/\t∈bs.map (·.1))
 | .con (.press v)=>∃ p:Nat,v=.int (p:Nat)/\p<10
 | .con (.shoe v)=>∃ i:Nat,v=.int (i:Nat)/\i<=n
 | .con .cancel=>True
theorem Xf (h:n<2 ^ 1200):(Wd.mem n).length<=1200:=by
 have:=Wd.K6 h
 have:(Wd.mem n).length<=Wd.len n:=by unfold Wd.mem;exact Nat.le_trans (List.length_filter_le _ _) (by simp)
 omega
theorem Ig {a:Hp} (s:Am a H) (n:True) (h:GQ H H'):Am a H':=s.trans h.s
abbrev yJ:List V:=[.str "hold",.str "hold",.str "hold",.str "hold",.str "leave",.str "leave",.str "leave",.str "pull",.str "pull",.str "pull",.str "push",.str "shoe",.str "store"]
abbrev W3:List V:=[.str "press",.str "press",.str "cancel"]
theorem w16 {r:Nat} (h:r<16):∃ t:Str,VV (yJ++W3) ((r:Nat):Int)=some (.str t)/\(t = "hold" \/ t = "leave" \/ t = "pull" \/ t = "push" \/ t = "shoe" \/ t = "store" \/ t = "press" \/ t = "cancel"):=by
 obtain rfl | rfl | rfl | rfl | rfl | rfl | rfl | rfl | rfl | rfl | rfl | rfl | rfl | rfl | rfl | rfl:r=0 \/ r=1 \/ r=2 \/ r=3 \/ r=4 \/ r=5 \/ r=6 \/ r=7 \/ r=8 \/ r=9 \/ r=10 \/ r=11 \/ r=12 \/ r=13 \/ r=14 \/ r=15:=by omega
 ·exact⟨_,Ag (j:=0) rfl,.inl rfl⟩
 ·exact⟨_,Ag (j:=1) rfl,.inl rfl⟩
 ·exact⟨_,Ag (j:=2) rfl,.inl rfl⟩
 ·exact⟨_,Ag (j:=3) rfl,.inl rfl⟩
 ·exact⟨_,Ag (j:=4) rfl,.inr (.inl rfl)⟩
 ·exact⟨_,Ag (j:=5) rfl,.inr (.inl rfl)⟩
 ·exact⟨_,Ag (j:=6) rfl,.inr (.inl rfl)⟩
 ·exact⟨_,Ag (j:=7) rfl,.inr (.inr (.inl rfl))⟩
 ·exact⟨_,Ag (j:=8) rfl,.inr (.inr (.inl rfl))⟩
 ·exact⟨_,Ag (j:=9) rfl,.inr (.inr (.inl rfl))⟩
 ·exact⟨_,Ag (j:=10) rfl,.inr (.inr (.inr (.inl rfl)))⟩
 ·exact⟨_,Ag (j:=11) rfl,.inr (.inr (.inr (.inr (.inl rfl))))⟩
 ·exact⟨_,Ag (j:=12) rfl,.inr (.inr (.inr (.inr (.inr (.inl rfl)))))⟩
 ·exact⟨_,Ag (j:=13) rfl,.inr (.inr (.inr (.inr (.inr (.inr (.inl rfl))))))⟩
 ·exact⟨_,Ag (j:=14) rfl,.inr (.inr (.inr (.inr (.inr (.inr (.inl rfl))))))⟩
 ·exact⟨_,Ag (j:=15) rfl,.inr (.inr (.inr (.inr (.inr (.inr (.inr rfl))))))⟩
structure DeC (C Cy Cp pE pA:Addr) (H0 H:Hp) (KL:Addr) (Ho:Hp) (z x y hd:Addr) (us:List V) (rk:List (Str × Nat × Int)) (ls:List (List Ln)) (sts:List Nat) (s:Cs) (sd:Addr) (kvs:List (Key × V)) (c:Nat->Nat) (n:Nat) (cn:Nat->Str) (sz:List Nat) (kbs:List Kb):Prop where
 pl:Ir C Cy Cp pE pA Ho H0 z x y hd us rk ls sts s sd kvs c n cn sz kbs
 kl:H0 KL=some (.lst ((Ih (Bu cn kbs)).map V.str))
 sm:Am H0 H
 np:True
 sr:True
 z1:∀ k∈sz,1<=k
 l1:1<=sz.length
 nd:((Bg cn sz).map (·.1)).Nodup
theorem gM (b:ns.Nodup) (h:ns[j]? = some t):ns.idxOf t=j:=by
 have a:=ai h
 have hl:=(ag.mp h).1
 exact ((List.getElem?_inj hl b).mp (h.trans (Jc a).symm)).symm
theorem Gk {bs:List (Str × Nat)} (c:(bs.map (·.1)).Nodup) {b:Str × Nat} (a:bs[j]? = some b) (d:n<b.2):Fg bs (.str b.1) (.int (n:Nat)) (((bs.take j).map (·.2)).sum+n):=⟨j,n,b,rfl,rfl,a,gM c (by rw[al,a];rfl),d,rfl⟩
inductive dR (C Cy Cp pE pA:Addr) (vs:List V) (H:Hp) (Q:VK) (b9:XK):Prop
 | mk (H0:Hp) (cl:Int) (KL:Addr) (Ho:Hp) (z x y hd:Addr) (us:List V) (rk:List (Str × Nat × Int)) (ls:List (List Ln:_)) (sts:List Nat) (s:Cs) (sd:Addr) (kvs:List (Key × V)) (c:Nat->Nat) (n:Nat) (cn:Nat->Str) (sz:List Nat) (kbs:List Kb):vs=[.int cl,.ref x,.ref z,.ref KL]->DeC C Cy Cp pE pA H0 H KL Ho z x y hd us rk ls sts s sd kvs c n cn sz kbs->(∀ (Ta:Addr) (d:Dz) H',H0 Ta=none->Am H0 H'->H' Ta=some (.tup d.v)->(∀ H2,d.odd H2)->Lb (Bg cn sz) (Bu cn kbs) sts.length c d->Q (.ref Ta) H')->dR C Cy Cp pE pA vs H Q b9
theorem QB:Av ["_law_cell","_law_organ","_law_player","_law_knobs","_law_boards","_law_word","_law_board","_law_held","_law_at","_law_number"] v2 (Ae tY):=Bh
include N T in
theorem oV:Ao P w K mg base Bb 6 aD.fDe aD.dDe v2 (dR C Cy Cp pE pA):=by
 refine N.FDe.1.DX QB λH vs Q E B h=>?_
 obtain⟨H0,cl,KL,Ho,z,x,y,lP,us,rk,ls,W,s,sd,F,c,n,A,sz,u,rfl,D,q⟩:=h
 have hu:=CJ B
 refine⟨_,(@Af _ _ _ _ _ (@Cw _ _ _ _ _ _ 4 QB.nd rfl (Or.inl rfl) (Bo (pv 1) T.cl N.FOb.2.2 (R8 N T) (ad B) N.FOb.2.1 .nil Aq) (by kernel_rfl) (.inl rfl))
  (@Af _ _ _ _ _ (@Cw _ _ _ _ _ _ 5 QB.nd rfl (Or.inl rfl) (@Eb _ _ _ _ (@BK _ _ _ _ _ rfl BP (@BK _ _ _ _ _ rfl BP (@BK _ _ _ _ _ rfl BP (@BK _ _ _ _ _ rfl BP (@BK _ _ _ _ _ rfl BP (@BK _ _ _ _ _ rfl BP (@BK _ _ _ _ _ rfl BP (@BK _ _ _ _ _ rfl BP (@BK _ _ _ _ _ rfl BP (@BK _ _ _ _ _ rfl BP (@BK _ _ _ _ _ rfl BP (@BK _ _ _ _ _ rfl BP (@BK _ _ _ _ _ rfl BP Ab)))))))))))))) (by kernel_rfl) (.inl rfl))
  (@Af _ _ _ _ _ (@Cw _ _ _ _ _ _ 5 QB.nd rfl (Or.inl rfl) (@Ay _ _ _ _ _ _ _ (Bm (K:=K) rfl) (BX RQ (pv 5) (@Eb _ _ _ _ (@BK _ _ _ _ _ rfl BP (@BK _ _ _ _ _ rfl BP (@BK _ _ _ _ _ rfl BP Ab))))) (zC (aj N T) B rfl N.FMi (@BK _ _ _ _ _ rfl (pv 0) (@BK _ _ _ _ _ rfl Ac (@BK _ _ _ _ _ rfl Ac Ab)))) (λ_ _=>rfl)) (by kernel_rfl) (.inl rfl))
  (@Af _ _ _ _ _ (@Cw _ _ _ _ _ _ 6 QB.nd rfl (Or.inl rfl) (@Ay _ _ _ _ _ _ _ (Bm (K:=K) rfl) (pv 4) (zC (aj N T) B rfl N.FMi (@BK _ _ _ _ _ rfl (pv 0) (@BK _ _ _ _ _ rfl Ac (@BK _ _ _ _ _ rfl (A_ BZ rfl T.len bo (@BK _ _ _ _ _ rfl (pv 4) Ab)) Ab)))) (λ_ _=>rfl)) (by kernel_rfl) (.inl rfl))
  (@Af _ _ _ _ _ (@Bl _ _ _ _ _ _ _ _ (BL Bw (pv 5) BP (BW _)) (@Ah _ _ _ (@Ax _ _ _ _ (@Cm _ _ _ _ _ (@BK _ _ _ _ _ rfl BP (@BK _ _ _ _ _ rfl (@Ay _ _ _ _ _ _ _ (An (K:=K) rfl) (pv 6) Ac (λ_ _=>rfl)) (@BK _ _ _ _ _ rfl (zC (aj N T) B rfl N.FMi (@BK _ _ _ _ _ rfl (pv 0) (@BK _ _ _ _ _ rfl Ac (@BK _ _ _ _ _ rfl (@Ay _ _ _ _ _ _ _ (An (K:=K) rfl) (pv 6) Ac (λ_ _=>rfl)) Ab)))) Ab)))))) Be)
  (@Af _ _ _ _ _ (@Bl _ _ _ _ _ _ _ _ (BL Bw (pv 5) BP (BW _)) (@Af _ _ _ _ _ (@Cw _ _ _ _ _ _ 7 QB.nd rfl (Or.inl rfl) (zC (QJ N T) B rfl N.FMe (@BK _ _ _ _ _ rfl (Bo (pv 2) T.clP N.FQe.2.2 (Xq N T) (ad B) N.FQe.2.1 .nil Aq) Ab)) (by kernel_rfl) (.inl rfl))
  (@Af _ _ _ _ _ (@Bl _ _ _ _ _ _ _ _ (BL (U3 (kA hu)) (pv 7) (@Eb _ _ _ _ Ab) (BW _)) (@Ah _ _ _ (@Ax _ _ _ _ (@Cm _ _ _ _ _ (@BK _ _ _ _ _ rfl BP (@BK _ _ _ _ _ rfl (@Ay _ _ _ _ _ _ _ (An (K:=K) rfl) (pv 6) Ac (λ_ _=>rfl)) (@BK _ _ _ _ _ rfl (zC (aj N T) B rfl N.FMi (@BK _ _ _ _ _ rfl (pv 0) (@BK _ _ _ _ _ rfl Ac (@BK _ _ _ _ _ rfl (@Ay _ _ _ _ _ _ _ (An (K:=K) rfl) (pv 6) Ac (λ_ _=>rfl)) Ab)))) Ab)))))) Be)
  (@Af _ _ _ _ _ (eU (Bp (pv 1) T.cl N.FOo.2.2 (Xj N T) (ad B) N.FOo.2.1 .nil Aq (@BK _ _ _ _ _ rfl (@Ay _ _ _ _ _ _ _ (Bm (K:=K) rfl) (pv 7) (zC (aj N T) B rfl N.FMi (@BK _ _ _ _ _ rfl (pv 0) (@BK _ _ _ _ _ rfl Ac (@BK _ _ _ _ _ rfl (A_ BZ rfl T.len bo (@BK _ _ _ _ _ rfl (pv 7) Ab)) Ab)))) (λ_ _=>rfl)) Ab)) (K5 rfl (Ed (Cd (i:=8) QB.nd rfl (Or.inl rfl)) (Ed (Cd (i:=9) QB.nd rfl (Or.inl rfl)) Jf))))
  (@Ah _ _ _ (@Ax _ _ _ _ (@Cm _ _ _ _ _ (@BK _ _ _ _ _ rfl BP (@BK _ _ _ _ _ rfl (@Ay _ _ _ _ _ _ _ (An (K:=K) rfl) (@Ay _ _ _ _ _ _ _ (Bm (K:=K) rfl) (pv 4) (pv 8) (λ_ _=>rfl)) Ac (λ_ _=>rfl)) (@BK _ _ _ _ _ rfl (pv 9) Ab))))))))) Be)
  (@Af _ _ _ _ _ (@Bl _ _ _ _ _ _ _ _ (PW.pt (Lz (PW.pt (Ew (BL Bw (pv 5) BP (BW _)) (Ej (BL Bw (pv 5) BP (BW _))))) (Jo (BL (Vt (kA hu)) (pv 3) (@Eb _ _ _ _ Ab) (BW _))))) (@Ah _ _ _ (@Ax _ _ _ _ (@Cm _ _ _ _ _ (@BK _ _ _ _ _ rfl (pv 5) (@BK _ _ _ _ _ rfl (@Ay _ _ _ _ _ _ _ (Bm (K:=K) rfl) (pv 3) (zC (aj N T) B rfl N.FMi (@BK _ _ _ _ _ rfl (pv 0) (@BK _ _ _ _ _ rfl Ac (@BK _ _ _ _ _ rfl (A_ BZ rfl T.len bo (@BK _ _ _ _ _ rfl (pv 3) Ab)) Ab)))) (λ_ _=>rfl)) Ab))))) Be)
  (@Af _ _ _ _ _ (@Bl _ _ _ _ _ _ _ _ (BL Bw (pv 5) BP (BW _)) (@Ah _ _ _ (@Ax _ _ _ _ (@Cm _ _ _ _ _ (@BK _ _ _ _ _ rfl BP (@BK _ _ _ _ _ rfl (zC (aj N T) B rfl N.FMi (@BK _ _ _ _ _ rfl (pv 0) (@BK _ _ _ _ _ rfl Ac (@BK _ _ _ _ _ rfl (BX Br Ac (A_ BZ rfl T.len bo (@BK _ _ _ _ _ rfl (Bo (pv 1) T.cl N.FOy.2.2 (V9 N T) (ad B) N.FOy.2.1 .nil Aq) Ab))) Ab)))) Ab))))) Be)
  (@Af _ _ _ _ _ (@Bl _ _ _ _ _ _ _ _ (PW.pt (Lz (BL Bw (pv 5) BP (BW _)) (Jo (BL Rj (zC (aj N T) B rfl N.FMi (@BK _ _ _ _ _ rfl (pv 0) (@BK _ _ _ _ _ rfl Ac (@BK _ _ _ _ _ rfl Ac Ab)))) Ac (BW _))))) (@Ah _ _ _ (@Ax _ _ _ _ (@Cm _ _ _ _ _ (@BK _ _ _ _ _ rfl BP (@BK _ _ _ _ _ rfl (zC (aj N T) B rfl N.FMi (@BK _ _ _ _ _ rfl (pv 0) (@BK _ _ _ _ _ rfl Ac (@BK _ _ _ _ _ rfl Ac Ab)))) (@BK _ _ _ _ _ rfl (@Ay _ _ _ _ _ _ _ (Bm (K:=K) rfl) (@Eb _ _ _ _ (@BK _ _ _ _ _ rfl (@Ay _ _ _ _ _ _ _ (An (K:=K) rfl) (pv 6) Ac (λ_ _=>rfl)) (@BK _ _ _ _ _ rfl Gg Ab))) (BX Fz (zC (aj N T) B rfl N.FMi (@BK _ _ _ _ _ rfl (pv 0) (@BK _ _ _ _ _ rfl Ac (@BK _ _ _ _ _ rfl Ac Ab)))) Ac) (λ_ _=>rfl)) Ab)))))) Be)
  (@Af _ _ _ _ _ (@Bl _ _ _ _ _ _ _ _ (PW.pt (Ew (BL Bw (pv 5) BP (BW _)) (Ej (BL Bw (pv 5) BP (BW _))))) (@Ah _ _ _ (@Ax _ _ _ _ (@Cm _ _ _ _ _ (@BK _ _ _ _ _ rfl (pv 5) (@BK _ _ _ _ _ rfl (zC (aj N T) B rfl N.FMi (@BK _ _ _ _ _ rfl (pv 0) (@BK _ _ _ _ _ rfl Ac (@BK _ _ _ _ _ rfl Ac Ab)))) Ab))))) Be)
  (@Ah _ _ _ (@Ax _ _ _ _ (@Cm _ _ _ _ _ (@BK _ _ _ _ _ rfl BP Ab)))))))))))))),?_⟩
 have L:=D.pl
 have Nn:=L.p.p.con.o.mono L.p.p.con.s
 have OX:=Nn.mono D.sm
 have LN:=L.p.f.bn
 have k6:=Fj OX.o.o
 obtain⟨⟨⟨dx,fs,_,_,_,_,_,_,_,_,hx,_,_,_,_,lm,_⟩,re,pr,rf⟩,_⟩:=id OX.o
 have bn:=D.l1
 have fin:∀ (d:Dz) (Hn:Hp),GQ H Hn->(∀ G,d.odd G)->Lb (Bg A sz) (Bu A u) W.length c d->∀ p,Hn p=none->Q (.ref p) (upd Hn p (.tup d.v)):=λd Hn sn ho hl p t =>
  q p d _ ((Ig D.sm D.np sn).free t) ((Ig D.sm D.np sn).trans (BR t)) Ak ho hl
 have aB:GQ H H:=GQ.refl D.sr
 refine⟨_,rfl,x,dx,fs,rfl,hx,lm _ (by decide),x,_,_,rfl,OX.o.o,λDB i5 H1 Zl s1 a0 nL=>?_⟩
 have KU:=aB.same s1
 refine⟨by show 13<=sizeLine;decide,λP1 SF=>?_⟩
 obtain⟨G,I,s2,e2⟩:=El (o:=HO.lst yJ) SF
 rw[I]
 have KW:=KU.same s2
 refine⟨_,rfl,by show 3<=sizeLine;decide,λP2 X2=>?_⟩
 obtain⟨H3,I,s3,e3⟩:=El (o:=HO.lst W3) X2
 rw[I]
 have IM:=KW.same s3
 refine⟨P1,P2,_,_,rfl,rfl,s3 _ _ e2,e3,by show 16<=sizeLine;decide,λP3 Oy=>?_⟩
 obtain⟨H4,I,s4,e4⟩:=El (o:=HO.lst (yJ++W3)) Oy
 rw[I]
 have LW:=IM.same s4
 have n3:True:=IM.ne Oy
 refine⟨_,rfl,_,_,16,rfl,by decide,by decide,by decide,λr H5 a4 f5 x'=>?_⟩
 have IF:=LW.draw f5 x'
 obtain⟨wd,E3,hw⟩:=w16 (r:=r) (by omega)
 refine⟨P3,_,_,_,rfl,rfl,kK (f5 _ _ e4),E3,?_⟩
 have Y:GQ H1 H5:=((((GQ.refl KU.sr).same s2).same s3).same s4).draw f5 x'
 have an:True:=aB.ne Zl
 have qf:=Y.sx _ _ a0 an
 have ab:Paired (λb y=>TupAt H5 (bV b) y) (Bg A sz) i5:=Y.Xb (f:=bV) trivial nL
 have aP:=ab.length
 rw[L_] at aP
 have bm:(Bg A sz).length=sz.length:=L_ ..
 have l5:sz.length<=5:=by omega
 clear Y e4 e3 e2 s2 s3 s4 SF X2 Oy f5 x' LW IM KW n3 E3 a4
 refine⟨_,rfl,_,rfl,_,rfl,DB,_,rfl,kK (.inl qf),_,_,_,rfl,(by show (0:Int)<((i5.length:Nat):Int);omega),by decide,by decide,λj H6 xw f6 Cn=>?_⟩
 have Z:=IF.draw f6 Cn
 have U:GQ H5 H6:=(GQ.refl IF.sr).draw f6 Cn
 have CD:=U.sx _ _ qf an
 have aC:Paired (λb y=>TupAt H6 (bV b) y) (Bg A sz) i5:=U.Xb (f:=bV) trivial ab
 obtain⟨b,hb⟩:∃ b,(Bg A sz)[j]? = some b:=⟨_,ae (by omega)⟩
 obtain⟨yb,OF,Tb,rfl,EC⟩:=CN aC hb
 have bl:1<=b.2/\b.2<=305:=by
  have hm:b.2∈(Bg A sz).map (·.2):=aI (ai hb)
  have bd:=pr b (ai hb)
  rw[DW] at hm
  exact⟨D.z1 _ hm,by omega⟩
 refine⟨DB,_,_,_,rfl,rfl,kK CD,Ag OF,?_⟩
 clear U f6 Cn IF qf ab xw
 have Ll:=Ig D.sm D.np Z
 rcases hw with rfl | rfl | rfl | rfl | rfl | rfl | rfl | rfl
 ·refine⟨_,rfl,rfl,_,rfl,Ey rfl ?_⟩
  refine⟨_,rfl,Tb,_,_,_,rfl,rfl,kK EC,Ag (j:=0) rfl,_,rfl,_,rfl,Tb,_,_,_,rfl,rfl,kK EC,Ag (j:=1) rfl,_,_,_,rfl,(by show (0:Int)<((b.2:Nat):Int);omega),by decide,by decide,λm Hn hm fn PH=>⟨by show 3<=sizeLine;decide,λp t=>?_⟩⟩
  exact fin (.hold (.str b.1) (.int (m:Nat))) Hn (Z.draw fn PH) (λG=>⟨.str (LN _ (aI (ai hb))).tx,.int _⟩) ⟨_,Gk D.nd hb (by omega)⟩ p t
 ·refine⟨_,rfl,rfl,_,rfl,Dn ⟨_,rfl,rfl,_,rfl,Ey rfl ?_⟩⟩
  have aw:=L.mono Ll
  obtain⟨dz,gs,hz,_,_,_,LS⟩:=id aw.p.p.O5.ex
  refine⟨_,rfl,z,dz,gs,rfl,hz,LS _ (by decide),Ho,z,x,y,lP,us,_,rk,_,ls,W,s.dr,s.sh,sd,F,c,rfl,aw.p.p,L.o.kl,λH7 s7=>?_⟩
  refine⟨_,rfl,Wd.Ry L.p.p.h.bound,λL8 H8 MV s8 sM=>?_⟩
  have w9:=(Z.same s7).same s8
  have R:=s8 _ _ (s7 _ _ EC)
  refine⟨_,rfl,Cg (by simp),λP9 xL=>?_⟩
  obtain⟨H9,I,O,e9⟩:=El (o:=HO.lst []) xL
  rw[I]
  have S:=w9.same O
  have EB:=O _ _ sM
  refine⟨L8,P9,_,rfl,rfl,kK EB,kK e9,_,rfl,Cz (λg=>?_) (λg=>?_)⟩
  ·have FI:=O _ _ R
   refine⟨_,rfl,Tb,_,_,_,rfl,rfl,kK FI,Ag (j:=0) rfl,_,rfl,_,rfl,Tb,_,_,_,rfl,rfl,kK FI,Ag (j:=1) rfl,_,_,_,rfl,(by show (0:Int)<((b.2:Nat):Int);omega),by decide,by decide,λm Hn hm fn PH=>⟨by show 3<=sizeLine;decide,λp t=>?_⟩⟩
   exact fin (.hold (.str b.1) (.int (m:Nat))) Hn (S.draw fn PH) (λG=>⟨.str (LN _ (aI (ai hb))).tx,.int _⟩) ⟨_,Gk D.nd hb (by omega)⟩ p t
  have aM:1<=(Wd.mem (Wd.mk (D_ F))).length:=by
   cases e:Wd.mem (Wd.mk (D_ F)) with
   | nil=>rw[e] at g;exact absurd rfl g
   | cons a l=>simp
  have bd:=Xf (Wd.Ry L.p.p.h.bound)
  have Z8:(nV (Wd.mem (Wd.mk (D_ F)))).length=(Wd.mem (Wd.mk (D_ F))).length:=af ..
  refine⟨_,rfl,x,dx,fs,rfl,S.sx _ _ hx trivial,lm _ (by decide),_,rfl,_,rfl,_,rfl,L8,_,rfl,kK (.inl EB),_,_,_,rfl,(by rw[Z8];omega),by decide,by decide,λr2 J pi M k9=>?_⟩
  have ng:=S.draw M k9
  have bB:True:=(Z.same s7).ne MV
  have as:J L8=some (.lst (nV (Wd.mem (Wd.mk (D_ F))))):=M _ _ EB
  rw[Z8] at pi
  obtain⟨k,hk⟩:∃ k,(Wd.mem (Wd.mk (D_ F)))[r2]? = some k:=⟨_,ae (by omega)⟩
  have aZ:k∈D_ F:=by
   have:=Wd.mem_iff.mp (ai hk)
   rw[Wd.Hr] at this
   exact of_decide_eq_true this
  have XY:=(L.p.p.h.mem k).mp aZ
  have MM:=L.o.kc k XY
  have a1:k<(Fi (Bg A sz)).length:=by rw[FN,DW];exact MM
  obtain⟨⟨a,m⟩,Wp⟩:∃ qd,(Fi (Bg A sz))[k]? = some qd:=⟨_,ae a1⟩
  obtain⟨b2,ac,DO,ek⟩:=Tu Wp
  have Os:=Ig D.sm D.np ng
  refine⟨L8,_,_,_,rfl,rfl,kK as,Ag (by unfold nV;rw[List.getElem?_map,hk];rfl),x,_,_,k,(a,m),rfl,(Nn.mono Os).o.o,Wp,λyq a6=>?_⟩
  obtain⟨Tq,rfl,a8⟩:=a6
  refine⟨Tq,_,rfl,kK a8,rfl,_,_,rfl,_,_,rfl,rfl,?_⟩
  have X:GQ H6 J:=((((GQ.refl Z.sr).same s7).same s8).same O).draw M k9
  have HK:=X.sx _ _ CD an
  have ap:Paired (λb y=>TupAt J (bV b) y) (Bg A sz) i5:=X.Xb (f:=bV) trivial aC
  obtain⟨bz,QO,a9,rfl,OQ⟩:=CN ap ac
  refine⟨_,rfl,_,rfl,DB,_,_,_,rfl,rfl,kK HK,Ag QO,a9,_,_,_,rfl,rfl,kK OQ,Ag (j:=0) rfl,_,rfl,by show 3<=sizeLine;decide,λp t=>?_⟩
  refine fin (.leave (.str b2.1) (.int (m:Nat))) J ng (λG=>⟨.str (LN _ (aI (ai ac))).tx,.int _⟩) ⟨_,Gk D.nd ac DO,?_⟩ p t
  rw[hU,<-ek]
  exact XY
 ·have MI:=Ll _ _ D.kl
  refine⟨_,rfl,rfl,_,rfl,Dn ⟨_,rfl,rfl,_,rfl,Dn ⟨_,rfl,rfl,_,rfl,Ey rfl (DY ⟨_,rfl,Cg (by simp),λP9 xL=>?_⟩)⟩⟩⟩
  obtain⟨H9,I,O,e9⟩:=El (o:=HO.lst []) xL
  rw[I]
  have S:=Z.same O
  have Iq:=O _ _ MI
  have lK:((Ih (Bu A u)).map V.str).length=(Bu A u).length:=by rw[af,af]
  refine⟨KL,P9,_,rfl,rfl,kK Iq,kK e9,_,rfl,Cz (λg=>?_) (λg=>?_)⟩
  ·have aM:1<=((Ih (Bu A u)).map V.str).length:=by
    cases e:(Ih (Bu A u)).map V.str with
    | nil=>rw[e] at g;cases g
    | cons a l=>simp
   refine⟨_,rfl,_,rfl,_,rfl,_,rfl,KL,_,rfl,kK (.inl Iq),_,_,_,rfl,(by omega),by decide,by decide,λr2 J pi M k9=>?_⟩
   have ng:=S.draw M k9
   have yk:=(Ig D.sm D.np ng) _ _ D.kl
   obtain⟨tk,hk⟩:∃ tk,(Ih (Bu A u))[r2]? = some tk:=⟨_,ae (by rw[af];omega)⟩
   refine⟨KL,_,_,_,rfl,rfl,kK yk,Ag (by rw[List.getElem?_map,hk];rfl),by show 2<=sizeLine;decide,λp t=>?_⟩
   exact fin (.con (.pull (.str tk))) J ng (λG=>.str (L.p.f.kn _ (ai hk)).tx) ⟨tk,rfl,ai hk⟩ p t
  ·refine⟨_,rfl,rfl,_,rfl,Dn ⟨_,rfl,rfl,_,rfl,Dn (Bk (⟨_,rfl,rfl,_,rfl,Dn ⟨_,rfl,rfl,_,rfl,Dn ⟨by show 1<=sizeLine;decide,λp t=>?_⟩⟩⟩))⟩⟩
   exact fin (.con .cancel) H9 S (λG=>trivial) trivial p t
 ·have MI:=Ll _ _ D.kl
  refine⟨_,rfl,rfl,_,rfl,Dn ⟨_,rfl,rfl,_,rfl,Dn ⟨_,rfl,rfl,_,rfl,Dn ⟨_,rfl,rfl,_,rfl,Ey rfl ⟨_,rfl,Cg (by simp),λP9 xL=>?_⟩⟩⟩⟩⟩
  obtain⟨H9,I,O,e9⟩:=El (o:=HO.lst []) xL
  rw[I]
  have S:=Z.same O
  have Iq:=O _ _ MI
  have lK:((Ih (Bu A u)).map V.str).length=(Bu A u).length:=by rw[af,af]
  refine⟨KL,P9,_,rfl,rfl,kK Iq,kK e9,_,rfl,Cz (λg=>?_) (λg=>?_)⟩
  ·have aM:1<=((Ih (Bu A u)).map V.str).length:=by
    cases e:(Ih (Bu A u)).map V.str with
    | nil=>rw[e] at g;cases g
    | cons a l=>simp
   refine⟨_,rfl,_,rfl,_,rfl,_,rfl,KL,_,rfl,kK (.inl Iq),_,_,_,rfl,(by omega),by decide,by decide,λr2 J pi M k9=>?_⟩
   have ng:=S.draw M k9
   have yk:=(Ig D.sm D.np ng) _ _ D.kl
   obtain⟨tk,hk⟩:∃ tk,(Ih (Bu A u))[r2]? = some tk:=⟨_,ae (by rw[af];omega)⟩
   refine⟨KL,_,_,_,rfl,rfl,kK yk,Ag (by rw[List.getElem?_map,hk];rfl),by show 2<=sizeLine;decide,λp t=>?_⟩
   exact fin (.con (.push (.str tk))) J ng (λG=>.str (L.p.f.kn _ (ai hk)).tx) ⟨tk,rfl,ai hk⟩ p t
  ·refine⟨_,rfl,rfl,_,rfl,Dn ⟨_,rfl,rfl,_,rfl,Dn (Bk (⟨_,rfl,rfl,_,rfl,Dn ⟨_,rfl,rfl,_,rfl,Dn ⟨by show 1<=sizeLine;decide,λp t=>?_⟩⟩⟩))⟩⟩
   exact fin (.con .cancel) H9 S (λG=>trivial) trivial p t
 ·refine⟨_,rfl,rfl,_,rfl,Dn ⟨_,rfl,rfl,_,rfl,Dn ⟨_,rfl,rfl,_,rfl,Dn ⟨_,rfl,rfl,_,rfl,Dn (Bk (⟨_,rfl,rfl,_,rfl,Ey rfl ?_⟩))⟩⟩⟩⟩
  have aK:=Nn.mono Ll
  obtain⟨⟨⟨aQ,a7,_,_,_,_,_,_,_,_,a5,_,_,_,_,a2,_⟩,_⟩,_⟩:=id aK.o
  refine⟨_,rfl,_,rfl,x,aQ,a7,rfl,a5,a2 _ (by decide),x,us,_,rk,_,ls,W,rfl,aK,λL8 H8 MV s8 sM=>?_⟩
  have w9:=Z.same s8
  have aN:(nV W).length=W.length:=af ..
  have bK:=L.o.st
  refine⟨L8,_,rfl,kK (.inl sM),_,_,rfl,rfl,_,_,_,rfl,(by rw[aN];omega),by decide,by decide,λr2 J pi M k9=>⟨by show 2<=sizeLine;decide,λp t=>?_⟩⟩
  rw[aN] at pi
  exact fin (.con (.shoe (.int (r2:Nat)))) J (w9.draw M k9) (λG=>.int _) ⟨r2,rfl,by omega⟩ p t
 ·refine⟨_,rfl,rfl,_,rfl,Dn ⟨_,rfl,rfl,_,rfl,Dn ⟨_,rfl,rfl,_,rfl,Dn ⟨_,rfl,rfl,_,rfl,Dn (Bk (⟨_,rfl,rfl,_,rfl,Dn ⟨_,rfl,rfl,_,rfl,Ey rfl ⟨_,rfl,_,_,3,rfl,by decide,by decide,by decide,λr2 H7 pi f7 OE=>?_⟩⟩⟩))⟩⟩⟩⟩
  have LL:=Z.draw f7 OE
  refine⟨_,_,rfl,rfl,_,rfl,Cz (λg=>?_) (λg=>?_)⟩
  ·have Sr:H7 Tb=some (.tup (bV b)):=f7 _ _ EC
   refine⟨_,rfl,_,_,3,rfl,by decide,by decide,by decide,λr3 H8 W1 f8 tI=>?_⟩
   have w9:=LL.draw f8 tI
   have R:H8 Tb=some (.tup (bV b)):=f8 _ _ Sr
   refine⟨_,rfl,Tb,_,_,_,rfl,rfl,kK R,Ag (j:=0) rfl,by show 2<=sizeLine;decide,λP9 xL=>?_⟩
   obtain⟨H9,I,O,e9⟩:=El (o:=HO.lst [V.str b.1,V.non]) xL
   rw[I]
   have S:=w9.same O
   have n9:True:=w9.ne xL
   refine⟨_,rfl,_,_,3,rfl,by decide,by decide,by decide,λr4 J bv M k9=>?_⟩
   have ng:=S.draw M k9
   have a3:J P9=some (.lst [V.str b.1,V.non]):=M _ _ e9
   obtain⟨v,hv,U1⟩:∃ v,VV [V.str b.1,V.non] (((r4:Nat):Int) - 1)=some v/\(v=.non \/ v=.str b.1):=by
    obtain rfl | rfl | rfl:r4=0 \/ r4=1 \/ r4=2:=by omega
    ·exact⟨_,rfl,.inl rfl⟩
    ·exact⟨_,rfl,.inr rfl⟩
    ·exact⟨_,rfl,.inl rfl⟩
   refine⟨_,_,rfl,rfl,P9,_,_,_,rfl,rfl,kK a3,hv,by show 3<=sizeLine;decide,λp t=>?_⟩
   have X0:=aI (f:=λx:Str × Nat=>x.1) (ai hb)
   refine fin (.con (.storeB (.int (r3:Nat)) v)) J ng (λG=>⟨.int _,?_⟩) ⟨⟨r3,rfl,by omega⟩,U1.imp id λe=>⟨b.1,e,X0⟩⟩ p t
   rcases U1 with rfl | rfl
   ·exact .non
   ·exact .str (LN _ X0).tx
  ·refine⟨_,rfl,rfl,_,rfl,Ey rfl (DY ?_)⟩
   refine⟨_,rfl,_,rfl,_,_,3,rfl,by decide,by decide,by decide,λr3 H8 W1 f8 tI=>⟨by show 2<=sizeLine;decide,λp t=>?_⟩⟩
   exact fin (.con (.store (.int (r3:Nat)))) H8 (LL.draw f8 tI) (λG=>.int _) ⟨r3,rfl,by omega⟩ p t
 ·refine⟨_,rfl,rfl,_,rfl,Dn ⟨_,rfl,rfl,_,rfl,Dn ⟨_,rfl,rfl,_,rfl,Dn ⟨_,rfl,rfl,_,rfl,Dn (Bk (⟨_,rfl,rfl,_,rfl,Dn ⟨_,rfl,rfl,_,rfl,Dn (Bk (⟨_,rfl,rfl,_,rfl,Dn ⟨_,rfl,rfl,_,rfl,Ey rfl ?_⟩⟩))⟩⟩))⟩⟩⟩⟩
  refine⟨_,rfl,_,rfl,_,_,3,rfl,by decide,by decide,by decide,λr3 H8 W1 f8 tI=>⟨by show 2<=sizeLine;decide,λp t=>?_⟩⟩
  exact fin (.con (.press (.int (r3:Nat)))) H8 (Z.draw f8 tI) (λG=>.int _) ⟨r3,rfl,by omega⟩ p t
 ·refine⟨_,rfl,rfl,_,rfl,Dn ⟨_,rfl,rfl,_,rfl,Dn ⟨_,rfl,rfl,_,rfl,Dn ⟨_,rfl,rfl,_,rfl,Dn (Bk (⟨_,rfl,rfl,_,rfl,Dn ⟨_,rfl,rfl,_,rfl,Dn (Bk (⟨_,rfl,rfl,_,rfl,Dn ⟨_,rfl,rfl,_,rfl,Dn ⟨by show 1<=sizeLine;decide,λp t=>?_⟩⟩⟩))⟩⟩))⟩⟩⟩⟩
  exact fin (.con .cancel) H6 Z (λG=>trivial) trivial p t
theorem V_ {bs:List (Str × Nat)} {v u:V} {k c:Nat} (h:Fg bs v u k) (g:Fg bs v u c):k=c:=by
 obtain⟨j,n,b,rfl,rfl,q,d,o,rfl⟩:=h
 obtain⟨r,p,s,f,e,l,a,m,rfl⟩:=g
 have i:=V.str.inj f
 rw[<-i,d] at a
 subst a
 have:=V.int.inj e
 omega
theorem Pb {bs:List (Str × Nat)} {s:Cs} {d:Fd} (h:Lb bs ks n c (.con d)) (a:act (bs.map (·.1)) ks n s d=(s,.no i)):i=1:=by
 cases d with
 | pull v =>
  obtain⟨t,rfl,g⟩:=h
  rw[LC g] at a
  cases (congrArg Prod.snd a)
 | push v =>
  obtain⟨t,rfl,g⟩:=h
  rw[K_ g] at a
  cases (congrArg Prod.snd a)
 | store v =>
  obtain⟨p,rfl,f⟩:=h
  rw[Kc f] at a
  cases (congrArg Prod.snd a)
 | storeB v b =>
  obtain⟨⟨p,rfl,f⟩,rfl | ⟨t,rfl,g⟩⟩:=h
  ·rw[JR f] at a
   cases (congrArg Prod.snd a)
  ·rw[JH f g] at a
   cases (congrArg Prod.snd a)
 | press v =>
  obtain⟨p,rfl,f⟩:=h
  cases hm:s.m p with
  | none =>
   rw[JV λq e _=>by rw[show q=p by have:=V.int.inj e;omega];exact hm] at a
   have:=congrArg Prod.snd a
   cases this
   rfl
  | some k =>
   rw[KN f hm] at a
   cases (congrArg Prod.snd a)
 | shoe v =>
  obtain⟨i,rfl,j⟩:=h
  rw[MT j] at a
  cases (congrArg Prod.snd a)
 | cancel=>cases (congrArg Prod.snd a)
def Dz.hl:Dz->Bool
 | .con _=>false
 | _=>true
theorem Jp {H z B A F y:Addr} {bs:List (Str × Nat)} {s:Cs} {d:Dz} (h:Lb bs ks n c d) (D:d.hl=true) (g:V0 H z B A F y bs ks n s c d a):False:=by
 have o:∀ {v u k},Fg bs v u k->Gj (bs.map (·.1)) v=.non->False:=λ{v u k} h g=>by
  obtain⟨j,n,b,rfl,rfl,l,p,x,rfl⟩:=h
  exact Qg g rfl (aI (ai l))
 have t:∀ {v u k},Fg bs v u k->(∃ (j:Nat) (b:Str × Nat),v=.str b.1/\bs[j]? = some b/\(bs.map (·.1)).idxOf b.1=j/\ZC b.2 u=false)->False:=λ{v u k} h g=>by
  obtain⟨j,n,b,rfl,rfl,l,p,x,rfl⟩:=h
  obtain⟨J,I,C,m,r,i⟩:=g
  have G:=V.str.inj C
  rw[<-G,p] at r
  subst r
  obtain rfl:=Option.some.inj (l.symm.trans m)
  have w:(decide (0<=(n:Int)) && decide ((n:Int)<((b.2:Nat):Int)))=false:=i
  rw[decide_eq_true (by omega),decide_eq_true (by omega)] at w
  cases w
 cases d with
 | hold v u =>
  obtain⟨k,f⟩:=h
  rcases g with⟨_,g⟩ | ⟨_,g⟩
  ·exact o f g
  ·exact t f g
 | leave v u =>
  obtain⟨k,f,q⟩:=h
  rcases g with⟨_,g⟩ | ⟨_,g⟩ | ⟨_,K,E,e⟩
  ·exact o f g
  ·exact t f g
  ·rw[V_ f E,e] at q
   cases q
 | con d =>
  cases D
theorem UV {k b m l f e:Addr} {bs:List (Str × Nat)} {s:Cs} {d:Dz} (h:Lb bs ks n c d) (g:V0 k b m l f e bs ks n s c d a):a=b:=by
 cases d with
 | hold v u=>exact (Jp h rfl g).elim
 | leave v u=>exact (Jp h rfl g).elim
 | con d =>
  obtain⟨i,j,rfl⟩:=g
  rw[Pb h j]
  rfl
def GoB (cK cP cB cS cH cY:Addr) (bs:List (Str × Nat)) (ks:List R) (n:Nat) (s:Cs) (c:Nat->Nat) (d:Dz) (b:Bool) (s':Cs) (c':Nat->Nat):Prop:=(b=true/\Sh bs ks n s c d s' c') \/ (b=false/\V0 cK cP cB cS cH cY bs ks n s c d cP/\s'=s/\c'=c)
inductive e_ (C Cy Cp pE pA cK cP cB cS cH cY:Addr) (vs:List V) (H:Hp) (Q:VK) (b9:XK):Prop
 | mk (Ho:Hp) (z x y hd:Addr) (us:List V) (rk:List (Str × Nat × Int)) (ls:List (List Ln:_)) (sts:List Nat) (s:Cs) (sd:Addr) (kvs:List (Key × V)) (c:Nat->Nat) (n:Nat) (cn:Nat->Str) (sz:List Nat) (kbs:List Kb) (t:Addr) (d:Dz):vs=[.ref z,.ref t]->H t=some (.tup d.v)->(∀ H2,d.odd H2)->Lb (Bg cn sz) (Bu cn kbs) sts.length c d->Ir C Cy Cp pE pA Ho H z x y hd us rk ls sts s sd kvs c n cn sz kbs->kvs.length<=400->n<900->(∀ b s' g0 c' H',GoB cK cP cB cS cH cY (Bg cn sz) (Bu cn kbs) sts.length s c d b s' c'->Fp H H' y sd hd->Ir C Cy Cp pE pA Ho H' z x y hd us rk ls sts s' sd g0 c' (n+1) cn sz kbs->g0.length<=kvs.length+1->Q (.bl b) H')->e_ C Cy Cp pE pA cK cP cB cS cH cY vs H Q b9
theorem fV:Av ["_law_player","_law_deed_here","_law_good"] z3 (Ae yC):=Bh
include N T in
theorem oX:Ao P w K mg base Bb 10 aD.fAs aD.dAs z3 (e_ C Cy Cp pE pA cK cP cB cS cH cY):=by
 have o:Ao P w K mg base (Fy P w) 9 aD.fQd aD.dQd wc (fD C Cy Cp pE pA cK cP cB cS cH cY):=j9 N T
 refine N.FAs.1.ok fV (λO H Q E h=>?_) (λi4 A p s0 H O Q E V h=>?_)
 ·obtain⟨I,z,x,y,D,G,rk,F,g,s,u,e,c,n,B,sz,j,t,d,rfl,_⟩:=h
  rfl
 ·obtain⟨I,z,x,y,D,G,rk,F,g,s,u,e,c,n,B,sz,j,t,d,rfl,U,W,o0,b,hl,J,q⟩:=h
  obtain⟨S,fs,X,l1,l2,l3,L⟩:=id b.p.p.O5.ex
  refine⟨_,(Af (Ba (i:=2) fV.nd rfl (Or.inl rfl) Gv)
   (Af (SJ (λER=>(DQ (F_ (GD (pv 0) T.clP N.FQd.2.2 o (ad V) N.FQd.2.1 .nil (Aa (pv 1) Ab) rfl)))) rfl T.x4.mP T.x4.rP.ex (λx=>(Ah (Ba (i:=2) fV.nd rfl (Or.inl rfl) Gv))))
   (Ah (Ax (pv 2))))),?_⟩
  refine⟨_,rfl,z,S,fs,rfl,X,L _ (by decide),_,rfl,I,z,x,y,D,G,rk,F,g,s,u,e,c,n,B,sz,j,t,d,rfl,U,W H,b,hl,J,?_,?_⟩
  ·intro k Y M R p2 T7 D1 D2 Hm m st f ps l Z S2 v a1 a2 a3 a4 a5 a6 a7
   exact⟨_,rfl,q true k Y M m (.inl ⟨rfl,st⟩) (f.trans (Fp.of v)) (ps.mono v) l⟩
  ·intro a R m r Z k
   obtain rfl:=UV o0 r
   exact⟨_,rfl,T.xY.mPP,_,rfl,q false s e c m (.inr ⟨rfl,r,rfl,rfl⟩) (Fp.of k) ⟨(b.mono k).p.le (by omega),b.o,b.bd,b.ky,b.ks⟩ (by omega)⟩
def bO (r:Rs):Bool:=match r with
 | .told _=>true
 | .no _=>false
inductive i_ (C Cy pE pA:Addr) (vs:List V) (H:Hp) (Q:VK) (b9:XK):Prop
 | mk (Ho:Hp) (y x:Addr) (bs:List (Str × Nat)) (ks:List R) (sts:List Nat) (s:Cs) (sd:Addr) (c:Nat) (T:Addr) (d:Fd) (hc:Nat->Nat):vs=[.ref y,.ref T]->Di C Cy pE pA Ho H y x bs ks sts s.dr s.sh sd s.m c->c<900->H T=some (.tup d.v)->(∀ H2,d.odd H2)->Lb bs ks sts.length hc (.con d)->(∀ H',Fb H H' y sd->Di C Cy pE pA Ho H' y x bs ks sts (act (bs.map (·.1)) ks sts.length s d).1.dr (act (bs.map (·.1)) ks sts.length s d).1.sh sd (act (bs.map (·.1)) ks sts.length s d).1.m (c+1)->Q (.bl (bO (act (bs.map (·.1)) ks sts.length s d).2)) H')->i_ C Cy pE pA vs H Q b9
theorem eN:Av ["_law_console","_law_deed_here","_law_good"] zi (Ae vB):=Bh
include N T in
theorem nU:Ao P w K mg base Bb 7 aD.fBe aD.dBe zi (i_ C Cy pE pA):=by
 have aw:Ao P w K mg base (Fy P w) 3 aD.fXr aD.dXr xI (Zh C Cy pE pA cP):=cV N T
 have ab:Ao P w K mg base (Fy P w) 6 aD.fXt aD.dXt ui (Zt C Cy pE pA cP cB):=cR N T
 have ac:Ao P w K mg base (Fy P w) 5 aD.fXp aD.dXp ti (Qk true C Cy cK):=cG N T
 have as:Ao P w K mg base (Fy P w) 5 aD.fXq aD.dXq ti (Qk false C Cy cK):=bH N T
 have an:Ao P w K mg base (Fy P w) 3 aD.fXh aD.dXh At (ZL C Cy cS):=bQ N T
 refine N.FBe.1.ok eN (λvs H Q E h=>?_) (λi4 A aB s0 H vs Q E R h=>?_)
 ·obtain⟨M,y,x,bs,F,l,s,B,c,T,d,ap,rfl,_⟩:=h
  rfl
 ·obtain⟨M,y,x,bs,F,l,s,B,c,L,d,ap,rfl,O,hc,f,hd,o0,q⟩:=h
  have hu:=CJ R
  refine⟨_,(Af (Ba (i:=2) eN.nd rfl (Or.inl rfl) Gv)
   (Af (SJ (λER=>(DQ (J6 (BL Bw (Ay (An (K:=K) rfl) (pv 1) Ac (λ_ _=>rfl)) BP (BW _)) (DQ (F_ (GD (pv 0) T.clR N.FXp.2.2 ac (ad R) N.FXp.2.1 .nil (Aa (Ay (An (K:=K) rfl) (pv 1) Ac (λ_ _=>rfl)) Ab) rfl))) (DQ (J6 (BL Bw (Ay (An (K:=K) rfl) (pv 1) Ac (λ_ _=>rfl)) BP (BW _)) (DQ (F_ (GD (pv 0) T.clR N.FXq.2.2 as (ad R) N.FXq.2.1 .nil (Aa (Ay (An (K:=K) rfl) (pv 1) Ac (λ_ _=>rfl)) Ab) rfl))) (DQ (J6 (BL Bw (Ay (An (K:=K) rfl) (pv 1) Ac (λ_ _=>rfl)) BP (BW _)) (DQ (F_ (GD (pv 0) T.clR N.FXr.2.2 aw (ad R) N.FXr.2.1 .nil (Aa (Ay (An (K:=K) rfl) (pv 1) Ac (λ_ _=>rfl)) Ab) rfl))) (DQ (J6 (BL Bw (Ay (An (K:=K) rfl) (pv 1) Ac (λ_ _=>rfl)) BP (BW _)) (DQ (F_ (GD (pv 0) T.clR N.FXh.2.2 an (ad R) N.FXh.2.1 .nil (Aa (Ay (An (K:=K) rfl) (pv 1) Ac (λ_ _=>rfl)) Ab) rfl))) (DQ (J6 (PW.pt (Lz (BL Bw (Ay (An (K:=K) rfl) (pv 1) Ac (λ_ _=>rfl)) BP (BW _)) (Jo (BL Bw (A_ BZ rfl T.len bo (Aa (pv 1) Ab)) Ac (BW _))))) (DQ (F_ (GD (pv 0) T.clR N.FXt.2.2 ab (ad R) N.FXt.2.1 .nil (Aa (Ay (An (K:=K) rfl) (pv 1) Ac (λ_ _=>rfl)) (Aa (Ay (An (K:=K) rfl) (pv 1) Ac (λ_ _=>rfl)) Ab)) rfl))) (DQ (J6 (BL Bw (Ay (An (K:=K) rfl) (pv 1) Ac (λ_ _=>rfl)) BP (BW _)) (DQ (F_ (GD (dvs:=[.non]) (pv 0) T.clR N.FXt.2.2 ab (ad R) N.bXt0 (.cons rfl .nil) (Aa (Ay (An (K:=K) rfl) (pv 1) Ac (λ_ _=>rfl)) Ab) rfl))) (WL (Ah (CG (Bo (pv 0) T.clR N.FXc.2.2 (cC N T) (ad R) N.FXc.2.1 .nil Aq))) rfl) rfl)) rfl)) rfl)) rfl)) rfl)) rfl))) rfl T.x4.mP T.x4.rP.ex (λx=>(Ah (Ba (i:=2) eN.nd rfl (Or.inl rfl) Gv))))
   (Ah (Ax (pv 2))))),?_⟩
  obtain⟨Y,fs,X,_,_,_,_,_,S⟩:=id O.at.ex
  have G:∀ (i:Nat) (a:Hp),act (bs.map (·.1)) F l.length s d=(s,.no i)->Am H a->Q (.bl false) a:=λi a ha D=>by
   have:=q a (λc o e _ _=>D _ _ e)
   rw[ha] at this
   exact this ((O.mono D).le (by omega))
  have k:∀ (s':Cs) (u:V) (a:Hp),act (bs.map (·.1)) F l.length s d=(s',.told u)->Fb H a y B->Di C Cy pE pA M a y x bs F l s'.dr s'.sh B s'.m (c+1)->Q (.bl true) a:=λs' u a ha f2 I=>by
   have:=q a f2
   rw[ha] at this
   exact this I
  have J:∀ {i:Nat},act (bs.map (·.1)) F l.length s d=(s,.no i)->i=1:=λha=>Pb o0 ha
  have fy:∀ {a},SX y H a->Fb H a y B:=λ{_} c b o e n _=>c b o e n
  have fd:∀ {a},SX B H a->Fb H a y B:=λ{_} c b o e _ n=>c b o e n
  have W:=hd H
  cases d with
  | pull v =>
   refine (wT f (Ey rfl ⟨_,rfl,y,Y,fs,rfl,X,S _ (by decide),_,rfl,L,_,_,_,rfl,rfl,kK f,Ag (j:=1) rfl,M,y,x,F,l,s.dr,s.sh,B,v,rfl,O.ok,W,(λt d2 a m r ht ed Z=>?_),(λa D g=>absurd (J (Np g)) (by decide))⟩))
   subst r
   subst ed
   exact⟨_,rfl,k _ _ a (LC ht) (fy m) ((O.put m Z.jk).le (by omega))⟩
  | push v =>
   refine (wT f (Dn (wT f (Ey rfl ⟨_,rfl,y,Y,fs,rfl,X,S _ (by decide),_,rfl,L,_,_,_,rfl,rfl,kK f,Ag (j:=1) rfl,M,y,x,F,l,s.dr,s.sh,B,v,rfl,O.ok,W,(λt d2 a m r ht ed Z=>?_),(λa D g=>absurd (J (NP g)) (by decide))⟩))))
   subst r
   subst ed
   exact⟨_,rfl,k _ _ a (K_ ht) (fy m) ((O.put m Z.jk).le (by omega))⟩
  | store v =>
   refine (wT f (Dn (wT f (Dn (wT f (Dn (wT f (Dn (wT f (Ey rfl ⟨_,rfl,L,_,rfl,.inr (kK f),rfl,_,rfl,GR (λz=>absurd (V.int.inj z) (by show ¬ ((2:Nat):Int)=3;decide)) (wT f (Ey rfl ⟨_,rfl,y,Y,fs,rfl,X,S _ (by decide),_,rfl,L,_,_,_,rfl,rfl,kK f,Ag (j:=1) rfl,M,y,x,bs,F,l,s.dr,s.sh,B,s.m,c,v,.non,rfl,O,hc,W,.non,(λp a r U _ m I=>?_),(λp t a _ _ r=>nomatch r),(λa D g=>⟨_,rfl,T.xY.mPP,_,rfl,G _ a (Lq g) D⟩),(λa _ _ h=>(h rfl).elim)⟩))⟩))))))))))
   subst r
   exact⟨_,rfl,k _ _ a (Kc U) (fd m) I⟩
  | storeB v b =>
   refine (wT f (Dn (wT f (Dn (wT f (Dn (wT f (Dn (wT f (Ey rfl ⟨_,rfl,L,_,rfl,.inr (kK f),rfl,_,rfl,Ey rfl ⟨_,rfl,y,Y,fs,rfl,X,S _ (by decide),_,rfl,L,_,_,_,rfl,rfl,kK f,Ag (j:=1) rfl,_,rfl,L,_,_,_,rfl,rfl,kK f,Ag (j:=2) rfl,M,y,x,bs,F,l,s.dr,s.sh,B,s.m,c,v,b,rfl,O,hc,W.1,W.2,(λp a r U eb m I=>?_),(λp t a r U eb ht m I=>?_),(λa D g=>⟨_,rfl,T.xY.mPP,_,rfl,G _ a (Kg g) D⟩),(λa D h8 h9 g=>absurd (J (Kp h8 h9 g)) (by decide))⟩⟩))))))))))
   ·subst r
    subst eb
    exact⟨_,rfl,k _ _ a (JR U) (fd m) I⟩
   ·subst r
    subst eb
    exact⟨_,rfl,k _ _ a (JH U ht) (fd m) I⟩
  | press v =>
   refine (wT f (Dn (wT f (Dn (wT f (Ey rfl ⟨_,rfl,y,Y,fs,rfl,X,S _ (by decide),_,rfl,L,_,_,_,rfl,rfl,kK f,Ag (j:=1) rfl,M,y,x,bs,F,l,s.dr,s.sh,B,s.m,c,v,rfl,O,W,(λp ps a r U hm m I=>?_),(λa D g=>⟨_,rfl,T.xY.mPP,_,rfl,G _ a (JV g) D⟩)⟩))))))
   subst r
   exact⟨_,rfl,k _ _ a (KN U hm) (fy m) (I.le (by omega))⟩
  | shoe v =>
   refine (wT f (Dn (wT f (Dn (wT f (Dn (wT f (Ey rfl ⟨_,rfl,y,Y,fs,rfl,X,S _ (by decide),_,rfl,L,_,_,_,rfl,rfl,kK f,Ag (j:=1) rfl,M,y,x,F,l,s.dr,s.sh,B,v,rfl,O.ok,W,(λi a r hi m Z=>?_),(λa D g=>absurd (J (Nq g)) (by decide))⟩))))))))
   subst r
   exact⟨_,rfl,k _ _ a (MT hi) (fy m) ((O.put m Z.jk).le (by omega))⟩
  | cancel =>
   refine (wT f (Dn (wT f (Dn (wT f (Dn (wT f (Dn (wT f (Dn (Bk ((wT f (Dn ⟨_,rfl,y,Y,fs,rfl,X,S _ (by decide),M,y,x,bs,F,l,s.dr,s.sh,B,s.m,c,rfl,O,λa m I=>?_⟩))))))))))))))
   exact⟨_,rfl,k _ _ a rfl (fy m) (I.le (by omega))⟩
inductive PP (K:W.Frag) (vs:List V) (H:Hp) (Q:VK) (b9:XK):Prop
 | mk (a:Addr) (ns:List Int):vs=[.ref a]->Dg K H a (ns.map V.int)->ns.length<=63->(∀ H',Q (.bl true) H')->PP K vs H Q b9
def c9 (bs:List (Str × Nat)) (nms:List Str):Nat->Str:=λj=>if j<30 then nB bs j else nms.getD (j - 30) ""
theorem bs9 {bs:List (Str × Nat)} (nms:List Str) (h:bs.length<=3):Bg (c9 bs nms) (bs.map (·.2))=bs:=by
 refine fq λi=>?_
 by_cases a:i<bs.length
 ·have b:(bs.map (·.2))[i]? = some (zB bs i):=by rw[al,Pu a];rfl
  rw[GJ b,Pu a]
  show some (c9 bs nms i,zB bs i)=some (nB bs i,zB bs i)
  unfold c9
  rw[if_pos (by omega)]
 ·rw[dt (by rw[L_,af];omega),dt (by omega)]
theorem zg {bs:List (Str × Nat)} (h:bs.length<=3) (hl:nms.length=kbs.length) (j:∀ z∈kbs,z.ok bs.length):Bu (c9 bs nms) kbs=Kl bs nms kbs:=by
 refine fq λi=>?_
 unfold Kl
 by_cases e:i<kbs.length
 ·have f:=ae e
  have c:nms[i]? = some nms[i]:=ae (by omega)
  rw[Ft f,gg,f,c]
  have g:c9 bs nms (30+i)=nms[i]:=by
   unfold c9
   rw[if_neg (by omega),iq,cc,c]
   rfl
  have d:∀ {b:Nat},b<bs.length->c9 bs nms b=nB bs b:=λ{b} k=>by
   unfold c9
   rw[if_pos (by omega)]
  have a:=j _ (dL e)
  show some (X3 (c9 bs nms) i kbs[i])=some (kR (nB bs) nms[i] kbs[i])
  generalize kbs[i]=z at a
  cases z with
  | cp p q s =>
   show some (⟨"coupler",c9 bs nms (30+i),[.str (c9 bs nms p),.str (c9 bs nms q),.int s]⟩:R)=some ⟨"coupler",nms[i],[.str (nB bs p),.str (nB bs q),.int s]⟩
   rw[g,d a.1,d a.2.1]
  | pl wd p =>
   show some (⟨wd,c9 bs nms (30+i),[.str (c9 bs nms p)]⟩:R)=some ⟨wd,nms[i],[.str (nB bs p)]⟩
   rw[g,d a.1]
 ·rw[dt (by rw[QS];omega),dt (by rw[io];omega)]
theorem Jz.org {c:Int} {k ld:Nat} {bs:List (Str × Nat)} {rk:List (Str × Nat × Int)} {sn:List Str} (h:Jz K aB aP aM c k ld m bs rk rows nms kbs ls sts sn) (n:1<=bs.length) (p:m<=150) (q:k<=12) (o:Paired (λ(r:R) v=>TupAt H r.v v) rows vs):Rows H (Mq H) vs/\tW K aB aP aM (Mq H) vs bs rk (Kl bs nms kbs)/\linesOf rk (vs.map (Mq H))=ls/\((vs.filter (pw (Mq H) "step")).map λv=>stN (Kl bs nms kbs) (Mq H v))=sts:=by
 have l:(Kl bs nms kbs).length=kbs.length:=by
  unfold Kl
  rw[io,h.nl]
  exact Nat.min_self _
 refine h.bl.fin o n (by have:=h.bd.lb;omega) (λb f=>?_) (by have:=h.bd.lr;omega) (λr g=>?_) (by have:=h.nk;omega) h.bd.zO h.bd.zL ?_ (by have:=h.rl;omega)
 ·obtain⟨j,a⟩:=dE f
  exact (h.bd.b j b a).2.2
 ·obtain⟨j,a⟩:=dE g
  exact (h.bd.r j r a).2.2.1
 ·have e:(Kl bs nms kbs).map (·.nm)=nms:=by
   refine fq λi=>?_
   unfold Kl
   rw[al,gg]
   by_cases d:i<nms.length
   ·rw[ae d,ae (by have:=h.nl;omega:i<kbs.length)]
    exact congrArg some (M7 _ _ _)
   ·rw[dt (by omega:nms.length<=i)]
    rfl
  rw[e]
  exact h.nd
theorem oY {sz:List Nat} {rk:List (Str × Nat × Int)} {cl:List Nat} {p:Nat} (d:gO rk ls) (h:(dZ sz rk kbs ls cl n).testBit p=true):p<Yd rk:=by
 obtain⟨k,_,f⟩:=h_.mp h
 have c:∀ b∈ls.getD k [],jf rk b:=λb a=>by
  rw[cc] at a
  cases e:ls[k]? with
  | none=>rw[e] at a;cases a
  | some l=>rw[e] at a;exact (d l (ai e)).2 b a
 obtain⟨b,hl,i,_,_,_,_,g,m,j⟩:=(jc c).mp f
 have:=Q7 (c b hl).r
 omega
theorem pJ {sz:List Nat} {rk:List (Str × Nat × Int)} {cl:List Nat} (a:gO rk ls) (h:Yd rk<=1164):dZ sz rk kbs ls cl n<2 ^ 1200:=by
 refine ii _ λi c=>?_
 rw[<-fo]
 intro b
 have:=oY a b
 omega
theorem ZF {c:Int} {bs:List (Str × Nat)} {rk:List (Str × Nat × Int)} (h:OD c bs rk):Yd rk<=1164:=by
 have a:∀ l:List (Str × Nat × Int),(∀ r∈l,r.2.1<=97)->(l.map (λr=>r.2.1)).sum<=97 * l.length:=λl=>by
  induction l with
  | nil=>intro _;exact ah _
  | cons r l f =>
   intro d
   have:=f λr b=>d r (bq _ b)
   have:=d r ce
   rw[cw,ke,bp]
   omega
 have:=a rk λr b=>by
  obtain⟨j,e⟩:=dE b
  exact (h.r j r e).2.2.1
 have:=h.lr
 unfold Yd
 omega
theorem Wg {bs:List (Str × Nat)} (h:nms.length=kbs.length):Ih (Kl bs nms kbs)=nms:=by
 refine fq λi=>?_
 unfold Ih Kl
 rw[al,gg]
 by_cases a:i<nms.length
 ·rw[ae a,ae (by omega:i<kbs.length)]
  exact congrArg some (M7 _ _ _)
 ·rw[dt (by omega:nms.length<=i)]
  rfl
theorem fM {bs:List (Str × Nat)} {v u:V} {k:Nat} (h:Fg bs v u k):k<(bs.map (·.2)).sum:=by
 obtain⟨j,n,b,_,_,e,_,c,rfl⟩:=h
 have d:=ZJ e c
 have a:=(ag.mp d).1
 rw[FN] at a
 exact a
structure Zo (C:Addr) (H:Hp) (x:Addr) (us:List V) (rk:List (Str × Nat × Int)) (ls:List (List Ln)) (sts:List Nat) (cn:Nat->Str) (sz:List Nat) (kbs:List Kb):Prop where
 o:Iv C H x us (Bg cn sz) rk (Bu cn kbs) ls sts
 f:d_ (Bg cn sz) (Bu cn kbs)
 kb:R7 sz.length kbs
 lg:gO rk ls
 st:sts.length<=2
 bd:∀ D n p,JD cn sz rk kbs ls D n p->p<2 ^ 1200
 z1:∀ k∈sz,1<=k
 l1:1<=sz.length
theorem Jz.og {c:Int} {k ld:Nat} {bs:List (Str × Nat)} {rk:List (Str × Nat × Int)} {sn:List Str} (h:Jz K aB aP aM c k ld m bs rk rows nms kbs ls sts sn) (w:1<=bs.length) (A:k<=12) {x:Addr} (u:Iv C H x us bs rk (Kl bs nms kbs) ls sts):∃ (cn:Nat->Str) (sz:List Nat),Zo C H x us rk ls sts cn sz kbs:=by
 have o:=h.bd.lb
 have i:=bs9 nms o
 have l:=zg o h.nl h.kb.ok
 refine⟨c9 bs nms,bs.map (·.2),?_,?_,by rw[af];exact h.kb,h.lg,h.st,?_,?_,by rw[af];exact w⟩
 ·rw[i,l]
  exact u
 ·rw[i,l]
  refine⟨λn d=>?_,h.bd.zO,λn d=>?_,?_,?_,λr v=>?_⟩
  ·obtain⟨b,f,rfl⟩:=ar.mp d
   obtain⟨j,g⟩:=dE f
   rw[(h.bd.b j b g).1]
   exact G9 _ _
  ·rw[Wg h.nl] at d
   obtain⟨j,_,rfl⟩:=h.nm n d
   exact G9 _ _
  ·rw[Wg h.nl]
   exact h.nd
  ·have:(Kl bs nms kbs).length=kbs.length:=by unfold Kl;rw[List.length_zipWith,h.nl];exact Nat.min_self _
   have:=h.nk
   omega
  ·obtain⟨t,_,z,e,rfl⟩:=Od v
   have ok:=h.kb.ok z e
   cases z with
   | cp p q s =>
    have a:p<bs.length:=ok.1
    exact⟨_,ai (Pu a),_,rfl⟩
   | pl wd p =>
    have a:p<bs.length:=ok.1
    exact⟨_,ai (Pu a),_,rfl⟩
 ·intro D n p a
  obtain⟨y,m,_,_,rfl⟩:=a
  exact pJ h.lg (ZF h.bd)
 ·intro z e
  obtain⟨b,f,rfl⟩:=ar.mp e
  obtain⟨j,g⟩:=dE f
  exact (h.bd.b j b g).2.1
theorem Zo.O5 {a:Hp} {x:Addr} {rk:List (Str × Nat × Int)} {b:Nat->Str} {sz:List Nat} (g:Zo C a x us rk ls sts b sz kbs) (s:Am a H) (e:a y=none) (l:a hd=none) (ns:a sd=none) (j:H hd=some (.dK [])) (i:Dh Cy H y x 0 0 sd) (f:JX Cp H z x y hd) (m:H sd=some (.dK [])) (o:sd ≠ y) (n:hd ≠ sd) (d:z ≠ y):Ir C Cy Cp pE pA a H z x y hd us rk ls sts ⟨0,0,λ_=>none⟩ sd [] (λ_=>0) 0 b sz kbs:=by
 have r:(Bu b kbs).length<=12:=g.f.kl
 have c:=Fj g.o.o.o
 rw[DW] at c
 refine⟨⟨⟨⟨g.o,s,e,i⟩,f,l,j,EY.nil⟩,g.f,ns,o,⟨[],m,ah _,λp _ _=>rfl,λp q _ h=>nomatch h⟩,d,n⟩,⟨g.kb,g.lg,g.f.kn,by omega,dA _,by have:=g.st;omega,(λk h=>absurd h (by decide)),by decide⟩,g.bd,λv u k h=>?_,by omega⟩
 have:=fM h
 rw[DW] at this
 exact this
theorem NB:∀ l:List Nat,Vd (nV l) (nV l)=true
 | []=>rfl
 | a::l=>by
  show (Qn (.int (a:Nat)) (.int (a:Nat)) && Vd (nV l) (nV l))=true
  rw[NB l,Bool.and_true]
  show decide (((a:Nat):Int)=((a:Nat):Int))=true
  exact decide_eq_true rfl
theorem Tf (l:List Nat):(nV l).all Ge=true:=fm.mpr λv a=>by
 obtain⟨n,_,rfl⟩:=ar.mp a
 rfl
theorem oZ:(Dy xs (some 2) (some 32)).length<=30:=by
 unfold Dy
 rw[List.length_take,List.length_drop,show (some 2:Option Int)=some ((2:Nat):Int) from rfl,show (some 32:Option Int)=some ((32:Nat):Int) from rfl,HT.FP,HT.FP]
 omega
theorem aH (k:Key) (v:V) (h:(kvs.map (·.1)).Nodup):((putK kvs k v).map (·.1)).Nodup:=by
 unfold putK
 split
 ·rw[ax]
  rw[show kvs.map ((λx:Key × V=>x.1) ∘ λp=>if p.1=k then (p.1,v) else p)=kvs.map (·.1) from List.map_congr_left λp _=>by
   show (if p.1=k then (p.1,v) else p).1=p.1
   split <;> rfl]
  exact h
 ·rename_i b
  rw[cm]
  refine hV.mpr ⟨h,gy.mpr ⟨kF,iP⟩,λx d y a e=>b ?_⟩
  obtain⟨p,c,rfl⟩:=ar.mp d
  exact fF.mpr ⟨p,c,decide_eq_true (e.trans (av.mp a))⟩
theorem Uh (h:EY kvs c) {k:Nat} (d:(Sum.inl (k:Int):Key)∈kvs.map (·.1)):CP kvs (Sum.inl (k:Int))=some (.int ((c k:Nat):Int)):=by
 rcases h.v k with e | ⟨e,_⟩
 ·exact e
 ·exfalso
  obtain⟨b,a,f⟩:=ar.mp d
  unfold CP at e
  rw[Option.map_eq_none_iff] at e
  exact List.find?_eq_none.mp e b a (decide_eq_true f)
theorem Xw (h:EY kvs c):∃ js:List Nat,kvs.map (·.1)=(js.map λk:Nat=>(k:Int)).map Sum.inl:=by
 refine⟨kvs.map λa=>match a.1 with | .inl i=>i.toNat | _=>0,?_⟩
 rw[ax,ax]
 refine ft λa b=>?_
 obtain⟨k,rfl,_⟩:=h.e a b
 exact congrArg Sum.inl (show ((k:Nat):Int)=(((k:Nat):Int).toNat:Int) by omega)
theorem xj (d:Fd):(d.wd == ("hold" : Str))=false:=by cases d <;> (dsimp only[Fd.wd];decide)
theorem yN (d:Fd):(d.wd == ("leave" : Str))=false:=by cases d <;> (dsimp only[Fd.wd];decide)
def posV (c:Nat->Nat):V->Bool
 | .int i=>decide (0<((c i.toNat:Nat):Int))
 | _=>false
theorem Uu {g:List (Key × V)} {js:List Nat} {d:List Int} (h:EY g c) (x:EY kvs c) (r:(g.map (·.1)).Nodup) (q:g.map (·.1)=(js.map λk:Nat=>(k:Int)).map Sum.inl) (m:d.Perm (js.map λk:Nat=>(k:Int))) (pw:d.Pairwise (· <= ·)):(d.map V.int).filter (posV c)=nV (Wd.mem (Wd.mk (D_ kvs))):=by
 have s:∀ i∈d,0<=i:=λi f=>by
  obtain⟨k,_,rfl⟩:=ar.mp (m.mem_iff.mp f)
  omega
 have p:d.Nodup:=by
  rw[q,List.Nodup,kx] at r
  exact m.nodup_iff.mpr (r.imp λo e=>o (congrArg Sum.inl e))
 have w:((d.filter λi=>decide (0<((c i.toNat:Nat):Int))).map Int.toNat).Pairwise (· < ·):=by
  rw[kx]
  refine gx.mpr λ{a b} sub=>?_
  have n:=sub.trans (List.filter_sublist ..)
  have z:a<=b:=gx.mp pw n
  have A:a ≠ b:=gx.mp p n
  have:=s a (n.subset ce)
  omega
 have y:Wd.mk (D_ kvs)=Wd.mk ((d.filter λi=>decide (0<((c i.toNat:Nat):Int))).map Int.toNat):=by
  refine Nat.eq_of_testBit_eq λk=>?_
  rw[Wd.Hr,Wd.Hr,fe,decide_eq_true_eq,decide_eq_true_eq,x.mem,ar]
  constructor
  ·intro u
   have t:(Sum.inl (k:Int):Key)∈g.map (·.1):=by
    obtain⟨v,l,e⟩:=ar.mp ((h.mem k).mpr u)
    have l:=(aS.mp l).1
    obtain⟨j,rfl,_⟩:=h.e v l
    have e:((j:Nat):Int).toNat=k:=e
    rw[bb] at e
    subst e
    exact aI l
   rw[q] at t
   obtain⟨i,f,e⟩:=ar.mp t
   have e:i=((k:Nat):Int):=Sum.inl.inj e
   subst e
   exact⟨_,aS.mpr ⟨m.mem_iff.mpr f,decide_eq_true (by rw[bb];omega)⟩,bb k⟩
  ·rintro⟨i,f,rfl⟩
   have:=of_decide_eq_true (aS.mp f).2
   omega
 rw[y,Wd.jb w,eR]
 unfold nV
 rw[ax]
 refine ft λi f=>?_
 have:=s i (aS.mp f).1
 exact congrArg V.int (show i=((i.toNat:Nat):Int) by omega)
section
variable {x:Addr} {bs:List (Str × Nat)} {rk:List (Str × Nat × Int)} {s:Cs} {cn:Nat->Str} {sz:List Nat} {m:Nat->Option Ps} {Z:Addr->Prop}
theorem WX (h:RN pE pA H sd m n) (f:∀ c o,H c=some o->¬ Z c->H' c=some o) (d:¬ Z sd) (j:∀ o ps,Eu pE pA H o ps->¬ Z o):RN pE pA H' sd m n:=by
 obtain⟨a,r,k,g,i⟩:=h.ex
 refine⟨a,f _ _ r d,k,g,λp ps l q=>?_⟩
 obtain⟨o,s,b⟩:=i p ps l q
 exact⟨o,s,b.keep λ_ _ _ e=>f _ _ e (j o ps b)⟩
theorem Rq (g:ZZ C Cy Ho H y x us bs rk ks ls sts dr sh sd) (f:∀ c o,H c=some o->¬ Z c->H' c=some o) (j:∀ c,Z c->Ho c=none) (h:¬ Z y):ZZ C Cy Ho H' y x us bs rk ks ls sts dr sh sd:=by
 obtain⟨a,fs,i,d⟩:=g.c.ex
 exact⟨g.o,(λb o e=>f b o (g.s b o e) (λz=>by rw[j b z] at e;cases e)),g.n,a,fs,f _ _ i h,d⟩
theorem Di.frX (h:Di C Cy pE pA Ho H y x bs ks sts dr sh sd m n) (f:∀ c o,H c=some o->¬ Z c->H' c=some o) (j:∀ c,Z c->Ho c=none) (i:¬ Z y) (a:¬ Z sd) (b:∀ o ps,Eu pE pA H o ps->¬ Z o):Di C Cy pE pA Ho H' y x bs ks sts dr sh sd m n:=by
 obtain⟨e,rk,d,g⟩:=h.o
 exact⟨⟨e,rk,d,Rq g f j i⟩,h.f,h.hs,h.ny,WX h.st f a b⟩
theorem Ir.frX (h:Ir C Cy Cp pE pA Ho H z x y hd us rk ls sts s sd kvs c n cn sz kbs) (f:∀ c o,H c=some o->¬ Z c->H' c=some o) (m:∀ c,Z c->Ho c=none) (l:¬ Z z) (j:¬ Z y) (i:¬ Z hd) (d:¬ Z sd) (e:∀ o ps,Eu pE pA H o ps->¬ Z o):Ir C Cy Cp pE pA Ho H' z x y hd us rk ls sts s sd kvs c n cn sz kbs:=by
 obtain⟨g,b,k,a⟩:=h.p.p.O5.ex
 exact⟨⟨⟨Rq h.p.p.con f m j,⟨g,b,f _ _ k l,a⟩,h.p.p.n,f _ _ h.p.p.d i,h.p.p.h⟩,h.p.f,h.p.hs,h.p.ny,WX h.p.st f d e,h.p.zy,h.p.hh⟩,h.o,h.bd,h.ky,h.ks⟩
theorem Zy {o:Addr} {ps:Ps} (h:Eu pE pA H o ps):∃ c d fs,H o=some (.ins c d fs):=by
 cases ps with
 | every k =>
  obtain⟨a,e⟩:=h
  exact⟨_,_,_,e⟩
 | part k w =>
  obtain⟨a,e⟩:=h
  exact⟨_,_,_,e⟩
theorem Wm {o:Addr} {ps:Ps} {c:List (Key × V)} (h:Eu pE pA H o ps) (e:H a=some (.dK c)):o ≠ a:=λz=>by
 obtain⟨_,_,_,b⟩:=Zy h
 rw[z,e] at b
 cases b
end
structure gZ (C Cy Cp pE pA:Addr) (Ho H:Hp) (z x y hd:Addr) (us:List V) (rk:List (Str × Nat × Int)) (ls:List (List Ln)) (sts:List Nat) (sd:Addr) (cn:Nat->Str) (sz:List Nat) (kbs:List Kb) (y2 mx DH:Addr) (s:Cs) (kvs kh:List (Key × V)) (c:Nat->Nat) (n:Nat):Prop where
 sm:Am Ho H
 p:Ir C Cy Cp pE pA Ho H z x y hd us rk ls sts s sd kvs c n cn sz kbs
 kl:kvs.length<=n
 k:Di C Cy pE pA Ho H y2 x (Bg cn sz) (Bu cn kbs) sts s.dr s.sh mx s.m n
 d:H DH=some (.dK kh)
 h:EY kh c
 nd:(kh.map (·.1)).Nodup
 hl:kh.length<=n
theorem gZ.mono {x:Addr} {rk:List (Str × Nat × Int)} {e:Nat->Str} {sz:List Nat} {a d b:Addr} {s:Cs} {f:List (Key × V)} (t:Am H H') (h:gZ C Cy Cp pE pA Ho H z x y hd us rk ls sts sd e sz kbs a d b s kvs f c n):gZ C Cy Cp pE pA Ho H' z x y hd us rk ls sts sd e sz kbs a d b s kvs f c n:=⟨h.sm.trans t,h.p.mono t,h.kl,h.k.mono t,t _ _ h.d,h.h,h.nd,h.hl⟩
theorem Hl:Av sF xE (Ae Lk):=Bh
theorem ig (F:Ce K "law" "law" Lk f fd) (N:wN K mg C Cy Cp pB pE pA aD) (T:Txt K w.params mg C Cy Cp pB pE pA cK cP cB cS cO cH cY cD aQ aN aK aB aP aM) (F0:qX K aB aP aM):Ao P w K mg base Bb 12 f fd xE (PP K):=by
 refine F.DX Hl λH vs Q E hr h=>?_
 obtain⟨a,ns,rfl,hS,bK,q⟩:=h
 have hu:=CJ hr
 refine⟨_,(@Af _ _ _ _ _ (Ba (i:=1) Hl.nd rfl (Or.inl rfl) (Ib N.FOi.2.2 (oh N T) (ad hr) rfl T.mC N.FOi.2.1 .nil Aq (@BK _ _ _ _ _ rfl (zC (qW N T) hr rfl N.FRw (@BK _ _ _ _ _ rfl (pv 0) Ab)) Ab)))
  (@Af _ _ _ _ _ (Zw (i:=2) Hl.nd rfl rfl rfl (G4 (osc:=Ae Lk) (N:=sF) rfl rfl (by decide)) (Bx (Bo (pv 1) T.cl N.FOz.2.2 (Wv N T) (ad hr) N.FOz.2.1 .nil Aq)) (λ_ _ _ _=>Cq) (λ_ _ _ _=>(pv 1)))
  (@Af _ _ _ _ _ (Ba (i:=3) Hl.nd rfl (Or.inl rfl) (Ib N.FQi.2.2 (ni N T) (ad hr) rfl T.mCP N.FQi.2.1 .nil Aq (@BK _ _ _ _ _ rfl (pv 1) Ab)))
  (@Af _ _ _ _ _ (Ba (i:=4) Hl.nd rfl (Or.inl rfl) (Ib N.FXi.2.2 (cN N T) (ad hr) rfl T.mCR N.FXi.2.1 .nil Aq (@BK _ _ _ _ _ rfl (pv 1) Ab)))
  (@Af _ _ _ _ _ (Ba (i:=5) Hl.nd rfl (Or.inr rfl) IV)
  (@Af _ _ _ _ _ (Eo PassesOwn.never rfl (Bx (Ec Ia (pv 0) (Eh Ac) (Eh Ac))) (Cd (i:=6) Hl.nd rfl (Or.inl rfl)) (@Af _ _ _ _ _ (Ba (i:=7) Hl.nd rfl (Or.inl rfl) (zC (oV N T) hr rfl N.FDe (@BK _ _ _ _ _ rfl (pv 6) (@BK _ _ _ _ _ rfl (pv 1) (@BK _ _ _ _ _ rfl (pv 3) (@BK _ _ _ _ _ rfl (pv 2) Ab))))))
  (@Af _ _ _ _ _ (Ba (i:=8) Hl.nd rfl (Or.inl rfl) (zC (oX N T) hr rfl N.FAs (@BK _ _ _ _ _ rfl (pv 3) (@BK _ _ _ _ _ rfl (pv 7) Ab))))
  (@Af _ _ _ _ _ (@Bl _ _ _ _ _ _ _ _ (PW.pt (Ew (BL Bw (@Ay _ _ _ _ _ _ _ (An (K:=K) rfl) (pv 7) Ac (λ_ _=>rfl)) BP (BW _)) (Ej (BL Bw (@Ay _ _ _ _ _ _ _ (An (K:=K) rfl) (pv 7) Ac (λ_ _=>rfl)) BP (BW _))))) (@Af _ _ _ _ _ (Ba (i:=9) Hl.nd rfl (Or.inl rfl) (Bp (pv 1) T.cl N.FOk.2.2 (R1 N T) (ad hr) N.FOk.2.1 .nil Aq (@BK _ _ _ _ _ rfl (@Ay _ _ _ _ _ _ _ (An (K:=K) rfl) (pv 7) Ac (λ_ _=>rfl)) (@BK _ _ _ _ _ rfl (@Ay _ _ _ _ _ _ _ (An (K:=K) rfl) (pv 7) Ac (λ_ _=>rfl)) Ab))))
  (@Ah _ _ _ (G_ hu (pv 5) (pv 9) (BX Br (Lh hu (pv 5) (pv 9) Ac ⟨rfl,rfl,rfl,rfl⟩) (@Ay _ _ _ _ _ _ _ (Bm (K:=K) rfl) (@Eb _ _ _ _ (@BK _ _ _ _ _ rfl (Ji LQ Ac) (@BK _ _ _ _ _ rfl Ac Ab))) (Dk Nv rfl T.int gp (@BK _ _ _ _ _ rfl (Dw Bw (@Ay _ _ _ _ _ _ _ (An (K:=K) rfl) (pv 7) Ac (λ_ _=>rfl)) BP (BW _)) Ab)) (λ_ _=>rfl))) rfl))) (@Ah _ _ _ (@Bl _ _ _ _ _ _ _ _ (BL Ko (zC (nU N T) hr rfl N.FBe (@BK _ _ _ _ _ rfl (pv 4) (@BK _ _ _ _ _ rfl (pv 7) Ab))) (pv 8) (BW _)) (@Ah _ _ _ (@Ax _ _ _ _ Gv)) Be)))
  (@Af _ _ _ _ _ (Ba (i:=10) Hl.nd rfl (Or.inl rfl) (Bo (pv 3) T.clP N.FQk.2.2 (aY N T) (ad hr) N.FQk.2.1 .nil Aq))
  (@Af _ _ _ _ _ (@Bl _ _ _ _ _ _ _ _ (PW.pt (Ew (Cu (DK (A_ Cj rfl T.isin be (@BK _ _ _ _ _ rfl (pv 10) (@BK _ _ _ _ _ rfl (Dm (v:=.ty "int") rfl T.int gp rfl) Ab))))) (Ew (DK (A_ Cj rfl T.isin be (@BK _ _ _ _ _ rfl (pv 10) (@BK _ _ _ _ _ rfl (Dm (v:=.ty "bool") rfl T.bool iL rfl) Ab)))) (Ej (BL Ko (pv 10) (Bo (pv 4) T.clR N.FXk.2.2 (aa N T) (ad hr) N.FXk.2.1 .nil Aq) (BW _)))))) (@Ah _ _ _ (@Ax _ _ _ _ Gv)) Be)
  (@Ah _ _ _ (@Bl _ _ _ _ _ _ _ _ (BL (RC (kA hu)) (zC (QJ N T) hr rfl N.FMe (@BK _ _ _ _ _ rfl (Bo (pv 3) T.clP N.FQe.2.2 (Xq N T) (ad hr) N.FQe.2.1 .nil Aq) Ab)) (Bq rfl (Bf (osc:=Ae Lk) (N:=sF) rfl rfl (by decide)) (Bx (A_ (J2 rfl) rfl T.sorted PyProof.Rows.boot_sorted (@BK _ _ _ _ _ rfl (pv 5) Ab))) (λ_ _ _ _=>(G6 (BL Rj (Fo hu (pv 6) (pv 0) (λ_ _=>rfl)) Ac (BW _)))) (λ_ _ _ _=>(pv 0))) (BW _)) (@Ah _ _ _ (@Ax _ _ _ _ Gv)) Be))))))))
  (@Ah _ _ _ (@Ax _ _ _ _ Gv)))))))),?_⟩
 refine⟨_,rfl,a,ns,rfl,hS,bK,F0,λDR tw c0 bs rk cb cx l ls A sn H9 _ ZT EB ZO W r1 R9=>?_⟩
 obtain⟨ZN,O9,eL,eS⟩:=R9.org W (by decide) (by decide) ZO
 intro x dx nx ZE b5
 have sx:Am H9 (upd (upd H9 dx (.own x)) x (.ins C dx [])):=λb o e=>by
  rw[Aw (Ai e nx),Aw (Ai e ZE)]
  exact e
 refine⟨x,dx,DR,tw,Mq H9,_,_,_,rfl,Ak,sx _ _ EB,ZN.mono sx,O9,λmI OX _ Yf=>⟨rfl,?_⟩⟩
 rw[eL,eS] at OX
 have aw:Am H9 mI:=λb o e=>Yf b o (sx b o e) (Ai e nx)
 have UF:=ZT.trans aw
 obtain⟨B,sz,og⟩:=R9.og W (by decide) OX
 clear Yf sx nx ZE b5 ZN O9 ZO EB eL eS aw ZT OX R9 W r1
 obtain⟨⟨⟨dx,fs,_,_,_,_,_,_,_,_,hx,_,_,_,_,lm,_⟩,_⟩,_⟩:=id og.o.o
 refine⟨_,rfl,x,dx,fs,rfl,hx,lm _ (by decide),x,_,_,rfl,og.o.o.o,λD1 ys I0 JY VQ F3 zS=>?_⟩
 have b9:ys.length=(Bu B l).length:=zS.length.symm
 have nk:=og.f.kl
 have a0:Dg K I0 D1 ys:=.inl (.inl F3)
 refine⟨D1,rfl,⟨_,a0⟩,Qw (K:=K) (ps:=(Bu B l).map λr=>(V.str r.w,V.str r.nm)) (λq=>q.2) a0 (By (F:=λ(q:V × V) v=>TupAt I0 [q.1,q.2] v) (λr:R=>(V.str r.w,V.str r.nm)) zS) (BJ (by omega)) (λq hq H' hs R k=>⟨_,rfl,k H' (Am.refl H')⟩) (λKL I cs bm rX=>?_)⟩
 have a6:((Bu B l).map λr=>(V.str r.w,V.str r.nm)).map (λq=>q.2)=(Ih (Bu B l)).map V.str:=by
  rw[ax,ax]
  rfl
 rw[a6] at rX
 have Y:Zo C I x tw rk ls A B sz l:=⟨og.o.mono (VQ.trans bm),og.f,og.kb,og.lg,og.st,og.bd,og.z1,og.l1⟩
 refine⟨_,rfl,λz dz a1 a2 a3=>⟨z,dz,x,rfl,Ak,λy sd X CY g1 g2 g3 g4 g5 g6 g7 g8 g9 Y3 WV=>⟨rfl,?_⟩⟩⟩
 have S:Am I CY:=λb o e=>g1 b o (by rw[Aw (Ai e a1),Aw (Ai e a2)];exact e) (Ai e a1)
 have fr:∀ {b:Addr},upd (upd I dz (.own z)) z (.ins Cp dz []) b=none->I b=none:=λ{b} h=>by
  have W:b ≠ z:=λe=>by rw[e,Ak] at h;cases h
  rw[Aw W] at h
  have b2:b ≠ dz:=λe=>by rw[e,Ak] at h;cases h
  rw[Aw b2] at h
  exact h
 have ny:=fr g2
 have nh:=fr g3
 have VE:=fr g7
 have pl:=Y.O5 (pE:=pE) (pA:=pA) S ny nh VE g4 g5 g6 g8 g9 Y3 WV
 have SU:=UF.trans (VQ.trans bm)
 clear g1 g2 g3 g4 g5 g6 g7 g8 g9 Y3 WV fr a1 a2 a3 zS F3 a0 b9 a6
 refine⟨_,rfl,λG DT W b2 b3=>⟨G,DT,x,rfl,Ak,λO BE g1 g2 g3 g4=>⟨rfl,?_⟩⟩⟩
 have J:Am CY BE:=λb o e=>g1 b o (by rw[Aw (Ai e W),Aw (Ai e b2)];exact e) (Ai e W)
 have q1:O ≠ G:=λe=>by rw[e,Ak] at g2;cases g2
 have f2:CY O=none:=by
  rw[Aw q1] at g2
  have q2:O ≠ DT:=λe=>by rw[e,Ak] at g2;cases g2
  rw[Aw q2] at g2
  exact g2
 have aZ:I G=none:=S.free W
 have ab:I O=none:=S.free f2
 have K45:Di C Cy pE pA I BE G x (Bg B sz) (Bu B l) A 0 0 O (λ_=>none) 0:=⟨⟨tw,rk,ls,Y.o,S.trans J,aZ,g4⟩,Y.f,ab,q1,⟨[],g3,ah _,λp _ _=>rfl,λp ps _ h=>nomatch h⟩⟩
 obtain⟨Z',ch,vT,_⟩:=id pl.p.p.O5.ex
 obtain⟨cp,ct,wf,_⟩:=id pl.p.p.con.c.ex
 obtain⟨cE,ra,_⟩:=id pl.p.st.ex
 have rh:=pl.p.p.d
 obtain⟨cd,c2,F8,_⟩:=id g4.ex
 have zy:z ≠ G:=Ai vT W
 have zs:z ≠ O:=Ai vT f2
 have yy:y ≠ G:=Ai wf W
 have ys:y ≠ O:=Ai wf f2
 have sy:sd ≠ G:=Ai ra W
 have ss:sd ≠ O:=Ai ra f2
 have hy:X ≠ G:=Ai rh W
 have hs:X ≠ O:=Ai rh f2
 intro D vi
 have B9:=BR (o:=HO.dK []) vi
 have aC:upd BE D (.dK []) D=some (.dK []):=Ak
 have zD:z ≠ D:=Ai (J _ _ vT) vi
 have yD:y ≠ D:=Ai (J _ _ wf) vi
 have sD:sd ≠ D:=Ai (J _ _ ra) vi
 have bn:X ≠ D:=Ai (J _ _ rh) vi
 have bv:G ≠ D:=Ai F8 vi
 have bz:O ≠ D:=Ai g3 vi
 have a9:I D=none:=(S.trans J).free vi
 generalize upd BE D (.dK [])=XE at B9 aC |-
 have L0:gZ C Cy Cp pE pA I XE z x y X tw rk ls A sd B sz l G O D ⟨0,0,λ_=>none⟩ [] [] (λ_=>0) 0:=⟨S.trans (J.trans B9),(pl.mono J).mono B9,ah _,K45.mono B9,aC,EY.nil,iP,ah _⟩
 clear pl K45 S J B9 aC g1 g2 g3 g4 W b2 b3 vT wf ra rh F8 f2 vi
 have b0:((Bg B sz).map (·.1)).Nodup:=og.f.bd
 refine⟨_,rfl,2,rfl,32,rfl,a,_,rfl,(SU.trans L0.sm).seq hS,λp2 vk=>?_⟩
 obtain⟨LI,i7,No,SG⟩:=El (o:=HO.lst (Dy (ns.map V.int) (some 2) (some 32))) vk
 rw[i7]
 have bB:(Dy (ns.map V.int) (some 2) (some 32)).length<=30:=oZ
 have a7:∀ v∈Dy (ns.map V.int) (some 2) (some 32),∃ i,v=V.int i:=λv hv=>by
  obtain⟨i,_,rfl⟩:=ar.mp (jp (fN hv))
  exact⟨i,rfl⟩
 generalize Dy (ns.map V.int) (some 2) (some 32)=M at SG bB a7
 refine⟨p2,rfl,⟨_,kK SG⟩,Hz (K:=K) (a:=p2) (xs:=M) (λi σ Hx=>Hx p2=some (.lst M)/\∃ (s:Cs) (an kh:List (Key × V)) (c:Nat->Nat) (v6 v7 v8 v9 vS:Option V),gZ C Cy Cp pE pA I Hx z x y X tw rk ls A sd B sz l G O D s an kh c i/\σ=[some (.ref a),some (.ref x),some (.ref KL),some (.ref z),some (.ref G),some (.ref D),v6,v7,v8,v9,vS]) ⟨SG,_,_,_,_,none,none,none,none,none,L0.mono No,rfl⟩ (λi σ Hx _ h=>kK h.1) ?_ ?_⟩
 rotate_left
 ·rintro σ Hx _
  exact q Hx
 rintro i v σ Hx hi ⟨a8,s,an,kh,c,v6,v7,v8,v9,vS,L,rfl⟩
 have c1:=(ag.mp hi).1
 obtain⟨cl,rfl⟩:=a7 v (ai hi)
 refine⟨_,rfl,_,rfl,_,rfl,_,rfl,Hx,cl,KL,I,z,x,y,X,tw,rk,ls,A,s,sd,an,c,i,B,sz,l,rfl,⟨L.p,L.sm _ _ rX,Am.refl _,trivial,trivial,og.z1,og.l1,b0⟩,λTa d H2 _ s2 lc ho o0=>?_⟩
 have L2:=L.mono s2
 have BD:=s2 _ _ a8
 clear L a8 s2
 refine⟨_,rfl,_,rfl,I,z,x,y,X,tw,rk,ls,A,s,sd,an,c,i,B,sz,l,Ta,d,rfl,lc,ho,o0,L2.p,by have:=L2.kl;omega,by omega,λb U g0 c' H3 go f3 p3 b7=>?_⟩
 have fz:∀ c o,H2 c=some o->¬ (c=y \/ c=sd \/ c=X)->H3 c=some o:=λc o e n=>f3 c o e (λz=>n (.inl z)) (λz=>n (.inr (.inl z))) (λz=>n (.inr (.inr z)))
 have h0:∀ c,(c=y \/ c=sd \/ c=X)->I c=none:=by
  rintro c (rfl | rfl | rfl)
  ·exact ny
  ·exact VE
  ·exact nh
 obtain⟨ca,cA,LH,_⟩:=id L2.p.p.p.con.c.ex
 obtain⟨cg,IB,_⟩:=id L2.p.p.st.ex
 have yi:=L2.p.p.p.d
 have nT:∀ {t:Addr} {o:HO},H2 t=some o->(∀ c d f,o ≠ .ins c d f)->(∀ k,o ≠ .dK k)->¬ (t=y \/ t=sd \/ t=X):=λ{t o} e n1 n2=>by
  rintro (rfl | rfl | rfl)
  ·exact n1 _ _ _ (Option.some.inj (e.symm.trans LH))
  ·exact n2 _ (Option.some.inj (e.symm.trans IB))
  ·exact n2 _ (Option.some.inj (e.symm.trans yi))
 have md:=fz _ _ lc (nT lc (λ_ _ _=>nofun) λ_=>nofun)
 have BN:=fz _ _ BD (nT BD (λ_ _ _=>nofun) λ_=>nofun)
 have M0:=L2.p.p.con
 have K3:=L2.k.frX fz h0 (by rintro (e | e | e);exact yy e.symm;exact sy e.symm;exact hy e.symm) (by rintro (e | e | e);exact ys e.symm;exact ss e.symm;exact hs e.symm) (λo ps hp=>by rintro (e | e | e);exact (M0.not hp).1 e;exact (M0.not hp).2 e;exact Wm hp yi e)
 have d3:=fz _ _ L2.d (by rintro (e | e | e);exact yD e.symm;exact sD e.symm;exact bn e.symm)
 have ac:Am I H3:=p3.p.p.con.s
 have LU:=Y.o.mono ac
 obtain⟨⟨⟨K',Ee,_,_,_,_,_,_,_,_,Kk,_,_,_,_,A4,_⟩,_⟩,_⟩:=id LU.o
 have co:=L2.kl
 have put:∀ (k m:Nat) (H5:Hp),Am H3 H5->c'=setC c k m->k<1200->U=s->∃ EG,gZ C Cy Cp pE pA I (upd H5 D (.dK (putK kh (kH k) (.int ((m:Nat):Int))))) z x y X tw rk ls A sd B sz l G O D U g0 EG c' (i+1)/\upd H5 D (.dK (putK kh (kH k) (.int ((m:Nat):Int)))) p2=some (.lst M)/\∃ v9,[some (V.ref a),some (.ref x),some (.ref KL),some (.ref z),some (.ref G),some (.ref D),some (.int cl),some (.ref Ta),some (.bl b),some (.int ((k:Nat):Int)),vS]=[some (.ref a),some (.ref x),some (.ref KL),some (.ref z),some (.ref G),some (.ref D),some (.int cl),some (.ref Ta),some (.bl b),v9,vS]:=λk m H5 s5 ec hk es=>by
  have fd:∀ c o,H5 c=some o->¬ (c=D)->upd H5 D (.dK (putK kh (kH k) (.int ((m:Nat):Int)))) c=some o:=λc o e n=>by rw[Aw n];exact e
  have d5:=s5 _ _ d3
  have hd:∀ c,c=D->I c=none:=λc e=>by rw[e];exact a9
  have pa:∀ o ps,Eu pE pA H5 o ps->¬ (o=D):=λo ps hp=>Wm hp d5
  refine⟨_,⟨(λb o e=>fd b o ((ac.trans s5) b o e) (λz=>by rw[z,a9] at e;cases e)),(p3.mono s5).frX fd hd zD yD bn sD pa,by omega,?_,Ak,by rw[ec];exact L2.h.put hk,aH _ _ L2.nd,ba (GZ _ _ _) (by have:=L2.hl;omega)⟩,by rw[Aw λz=>by rw[z,d3] at BN;cases BN];exact s5 _ _ BN,_,rfl⟩
  rw[es]
  exact ((K3.mono s5).le (by omega)).frX fd hd bv bz pa
 refine gN (i:=8) ?_
 try dsimp only
 refine X8 (λσ' H'=>∃ EG,gZ C Cy Cp pE pA I H' z x y X tw rk ls A sd B sz l G O D U g0 EG c' (i+1)/\H' p2=some (.lst M)/\∃ v9,σ'=[some (.ref a),some (.ref x),some (.ref KL),some (.ref z),some (.ref G),some (.ref D),some (.int cl),some (.ref Ta),some (.bl b),v9,vS]) (λD' hD=>?_) (λσ' H' h=>?_)
 ·cases d with
  | hold v u =>
   rcases go with⟨rfl,a4⟩ | ⟨_,a5,_⟩
   rotate_left
   ·exact (Jp o0 rfl a5).elim
   obtain⟨rfl,k,hk,rfl⟩:=a4
   have Ev:=L2.p.ky _ _ _ hk
   have MM:=L2.p.ks
   obtain⟨j,n,b,rfl,rfl,hb,hj,hn,rfl⟩:=hk
   refine (wT md (Ey rfl (DY ?_)))
   refine⟨_,rfl,x,K',Ee,rfl,Kk,A4 _ (by decide),_,rfl,Ta,_,_,_,rfl,rfl,kK md,Ag (j:=1) rfl,_,rfl,Ta,_,_,_,rfl,rfl,kK md,Ag (j:=2) rfl,x,Bg B sz,Bu B l,j,b,((n:Nat):Int),rfl,LU.o.o,hb,λH4 s4=>?_⟩
   rw[show ((((Bg B sz).take j).map (·.2)).sum:Nat)+((n:Nat):Int)=((((((Bg B sz).take j).map (·.2)).sum+n:Nat):Nat):Int) by omega]
   generalize (((Bg B sz).take j).map (·.2)).sum+n=k at Ev put hD |-
   have d4:=s4 _ _ d3
   refine⟨_,rfl,D,rfl,.inl ⟨kh,.inl d4⟩,_,rfl,_,Em.k (k:=kH k) d4,_,rfl,by show 2<=sizeLine;decide,λP5 Pi=>?_⟩
   obtain⟨H5,i7,s5,u5⟩:=El (o:=HO.lst [V.int (-1),V.int 1]) Pi
   rw[i7]
   have zd:=s4.trans s5
   refine⟨_,rfl,Ta,_,_,_,rfl,rfl,kK (zd _ _ md),Ag (j:=0) rfl,rfl,.inr ⟨_,rfl,P5,_,_,_,rfl,rfl,kK u5,Ag (j:=1) rfl,((c k:Nat):Int),1,L2.h.getD k,rfl,?_⟩⟩
   rw[show ((c k:Nat):Int)+1=((c k+1:Nat):Int) by omega]
   exact⟨_,rfl,_,rfl,D,_,rfl,Ks.k (k:=kH k) (zd _ _ d3) (BJ (by have:=L2.hl;omega)),hD _ _ (put k (c k+1) H5 zd rfl (by omega) rfl)⟩
  | leave v u =>
   rcases go with⟨rfl,a4⟩ | ⟨_,a5,_⟩
   rotate_left
   ·exact (Jp o0 rfl a5).elim
   obtain⟨rfl,k,hk,b4,rfl⟩:=a4
   have Ev:=L2.p.ky _ _ _ hk
   have MM:=L2.p.ks
   obtain⟨j,n,b,rfl,rfl,hb,hj,hn,rfl⟩:=hk
   refine (wT md (Dn (wT md (Ey rfl ?_))))
   refine⟨_,rfl,x,K',Ee,rfl,Kk,A4 _ (by decide),_,rfl,Ta,_,_,_,rfl,rfl,kK md,Ag (j:=1) rfl,_,rfl,Ta,_,_,_,rfl,rfl,kK md,Ag (j:=2) rfl,x,Bg B sz,Bu B l,j,b,((n:Nat):Int),rfl,LU.o.o,hb,λH4 s4=>?_⟩
   rw[show ((((Bg B sz).take j).map (·.2)).sum:Nat)+((n:Nat):Int)=((((((Bg B sz).take j).map (·.2)).sum+n:Nat):Nat):Int) by omega]
   generalize (((Bg B sz).take j).map (·.2)).sum+n=k at Ev b4 put hD |-
   have d4:=s4 _ _ d3
   refine⟨_,rfl,D,rfl,.inl ⟨kh,.inl d4⟩,_,rfl,_,Em.k (k:=kH k) d4,_,rfl,by show 2<=sizeLine;decide,λP5 Pi=>?_⟩
   obtain⟨H5,i7,s5,u5⟩:=El (o:=HO.lst [V.int (-1),V.int 1]) Pi
   rw[i7]
   have zd:=s4.trans s5
   refine⟨_,rfl,Ta,_,_,_,rfl,rfl,kK (zd _ _ md),Ag (j:=0) rfl,rfl,.inr ⟨_,rfl,P5,_,_,_,rfl,rfl,kK u5,Ag (j:=0) rfl,((c k:Nat):Int),(-1),L2.h.getD k,rfl,?_⟩⟩
   rw[show ((c k:Nat):Int)+(-1)=((c k - 1:Nat):Int) by omega]
   exact⟨_,rfl,_,rfl,D,_,rfl,Ks.k (k:=kH k) (zd _ _ d3) (BJ (by have:=L2.hl;omega)),hD _ _ (put k (c k - 1) H5 zd rfl (by omega) rfl)⟩
  | con d =>
   have ap:H3 Ta=some (.tup (.str d.wd::d.args)):=by
    rw[<-Fd.v_eq d]
    exact md
   refine (wT ap (GR (Ek (xj d)) (wT ap (GR (Ek (yN d)) ?_))))
   refine⟨_,rfl,_,rfl,I,G,x,Bg B sz,Bu B l,A,s,O,i,Ta,d,c,rfl,K3,by omega,md,ho,o0,λH4 f4 K4=>?_⟩
   have ea:(act ((Bg B sz).map (·.1)) (Bu B l) A.length s d).1=U/\bO (act ((Bg B sz).map (·.1)) (Bu B l) A.length s d).2=b/\c'=c:=by
    rcases go with⟨rfl,hc,u,ha⟩ | ⟨rfl,⟨i1,ha,_⟩,rfl,rfl⟩
    ·rw[ha]
     exact⟨rfl,rfl,hc⟩
    ·rw[ha]
     exact⟨rfl,rfl,rfl⟩
   obtain⟨e1,e2,e3⟩:=ea
   rw[e1] at K4
   rw[e2]
   refine⟨_,rfl,rfl,_,rfl,?_⟩
   rw[decide_eq_true (rfl:V.bl b=V.bl b)]
   refine Bk (hD _ _ ⟨kh,⟨λb o e=>f4 b o (ac b o e) (Ai e aZ) (Ai e ab),p3.frX (Z:=λc=>c=G \/ c=O) (λc o e n=>f4 c o e (λz=>n (.inl z)) (λz=>n (.inr z))) ?_ ?_ ?_ ?_ ?_ ?_,by omega,K4,f4 _ _ d3 (Ne.symm bv) (Ne.symm bz),by rw[e3];exact L2.h,L2.nd,by have:=L2.hl;omega⟩,f4 _ _ BN (λz=>by obtain⟨_,_,e,_⟩:=K3.at.ex;rw[<-z,BN] at e;cases e) (λz=>by obtain⟨_,e,_⟩:=K3.st.ex;rw[<-z,BN] at e;cases e),_,rfl⟩)
   ·rintro c (rfl | rfl)
    ·exact aZ
    ·exact ab
   ·rintro (e | e)
    ·exact zy e
    ·exact zs e
   ·rintro (e | e)
    ·exact yy e
    ·exact ys e
   ·rintro (e | e)
    ·exact hy e
    ·exact hs e
   ·rintro (e | e)
    ·exact sy e
    ·exact ss e
   ·rintro o ps hp (e | e)
    ·exact (K3.not hp).1 e
    ·exact (K3.not hp).2 e
 obtain⟨EG,L3,bW,bS,rfl⟩:=h
 clear put M0 K3 d3 ac LU Kk A4 md BN nT yi IB LH h0 fz f3 p3 go b7 L2 lc BD
 obtain⟨dz,gs,hz,_,_,_,LS⟩:=id L3.p.p.p.O5.ex
 refine⟨_,rfl,z,dz,gs,rfl,hz,LS _ (by decide),I,z,x,y,X,tw,_,rk,_,ls,A,U.dr,U.sh,sd,g0,c',rfl,L3.p.p.p,L3.p.o.nm,L3.p.o.nk,L3.p.o.sh,L3.p.o.st,λH5 s5=>?_⟩
 have L5:=L3.mono s5
 refine⟨_,rfl,_,"int",_,_,rfl,.int _,ty_int,_,rfl,Bk ?_⟩
 refine⟨_,rfl,_,"bool",_,_,rfl,.int _,XJ,_,rfl,Bk ?_⟩
 obtain⟨bL,bN,bP,_,_,_,_,_,bR⟩:=id L5.k.at.ex
 refine⟨_,rfl,_,rfl,G,bL,bN,rfl,bP,bR _ (by decide),I,G,x,Bu B l,A,U.dr,U.sh,O,rfl,L5.k.ok,L5.p.o.sh,L5.p.o.st,λH6 s6=>⟨rfl,_,rfl,?_⟩⟩
 rw[decide_eq_true (rfl:V.int ((U.dr ||| Pz (A.take U.sh):Nat):Int)=V.int ((U.dr ||| Pz (A.take U.sh):Nat):Int))]
 refine Bk ?_
 have L6:=L5.mono s6
 refine⟨_,rfl,z,dz,gs,rfl,(s5.trans s6) _ _ hz,LS _ (by decide),I,z,x,y,X,tw,_,rk,_,ls,A,U.dr,U.sh,sd,g0,c',rfl,L6.p.p.p,L6.p.o.kl,λH7 s7=>?_⟩
 refine⟨_,rfl,Wd.Ry L6.p.p.p.h.bound,λL8 H8 MV s8 sM=>?_⟩
 have LP:=L6.mono (s7.trans s8)
 obtain⟨js,hj⟩:=Xw LP.h
 have cZ:=LP.hl
 refine⟨_,rfl,D,EG,_,rfl,LP.d,hj,by omega,λpS ms b8 pm pw=>?_⟩
 obtain⟨H9,i7,s9,l9⟩:=El (o:=HO.lst (ms.map V.int)) b8
 rw[i7]
 have L9:=LP.mono s9
 have cv:ms.length<=40:=by
  have h1:=congrArg List.length hj
  have h2:=pm.length_eq
  rw[af] at h1 h2
  rw[af,af] at h1
  omega
 have bl:Dg K H9 pS (ms.map V.int):=.inl (.inl l9)
 refine⟨pS,rfl,⟨_,bl⟩,C_ (K:=K) (xs:=ms.map V.int) (posV c') id bl (BJ (by rw[af];omega)) (λy hy H' hs R k=>?_) (λy hy _ H' hs R k=>⟨_,rfl,k H' (Am.refl H')⟩) (λD5 mI NL bd as=>?_)⟩
 ·obtain⟨i0,b6,rfl⟩:=ar.mp hy
  have Ev:=pm.mem_iff.mp b6
  obtain⟨k0,_,rfl⟩:=ar.mp Ev
  have g:=Em.k (k:=kH k0) (hs _ _ L9.d)
  rw[Uh L9.h (by rw[hj];exact aI Ev)] at g
  exact⟨_,rfl,_,rfl,D,_,rfl,g,_,_,rfl,rfl,_,rfl,k H' (Am.refl H')⟩
 rw[iO,Uu L9.h L9.p.p.p.h L9.nd hj pm pw] at as
 have E5:=s9.trans bd
 refine⟨L8,D5,_,_,rfl,rfl,kK (E5 _ _ sM),kK as,Tf _,Tf _,_,rfl,?_⟩
 rw[NB]
 refine Bk ?_
 have Na:=s5.trans (s6.trans (s7.trans (s8.trans E5)))
 exact⟨Na _ _ bW,U,g0,EG,c',_,_,_,bS,_,L9.mono bd,rfl⟩
end
end K45
end PartK45a
set_option maxHeartbeats 4000000
theorem UL1 {α:Type} {us:List α} (h:us.length=1):∃ a,us=[a]:=match us,h with | [a],_=>⟨a,rfl⟩
theorem UL2 {α:Type} {us:List α} (h:us.length=2):∃ a b,us=[a,b]:=match us,h with | [a,b],_=>⟨a,b,rfl⟩
theorem UL3 {α:Type} {us:List α} (h:us.length=3):∃ a b c,us=[a,b,c]:=match us,h with | [a,b,c],_=>⟨a,b,c,rfl⟩
theorem UL4 {α:Type} {us:List α} (h:us.length=4):∃ a b c d,us=[a,b,c,d]:=match us,h with | [a,b,c,d],_=>⟨a,b,c,d,rfl⟩
theorem UL5 {α:Type} {us:List α} (h:us.length=5):∃ a b c d e,us=[a,b,c,d,e]:=match us,h with | [a,b,c,d,e],_=>⟨a,b,c,d,e,rfl⟩
namespace K45
open PySem L2 Og
theorem mq {K:W.Frag} {a i h b d c f g j:Addr} (r:W.nsIn K a "hold" = some (some (.ref i))/\KTup K i [.int 3]) (p:W.nsIn K a "leave" = some (some (.ref h))/\KTup K h [.int 3]) (t:W.nsIn K a "pull" = some (some (.ref b))/\KTup K b [.int 2]) (s:W.nsIn K a "push" = some (some (.ref d))/\KTup K d [.int 2]) (o:W.nsIn K a "store" = some (some (.ref c))/\KTup K c [.int 2,.int 3]) (n:W.nsIn K a "press" = some (some (.ref f))/\KTup K f [.int 2]) (m:W.nsIn K a "cancel" = some (some (.ref g))/\KTup K g [.int 1]) (l:W.nsIn K a "shoe" = some (some (.ref j))/\KTup K j [.int 2]):∀ e∈wA,∃ q,W.nsIn K a e.1=some (some (.ref q))/\KTup K q e.2:=λe k=>by
 simp only[wA,List.mem_cons,List.not_mem_nil,or_false] at k
 rcases k with rfl | rfl | rfl | rfl | rfl | rfl | rfl | rfl
 ·exact⟨_,r⟩
 ·exact⟨_,p⟩
 ·exact⟨_,t⟩
 ·exact⟨_,s⟩
 ·exact⟨_,o⟩
 ·exact⟨_,n⟩
 ·exact⟨_,m⟩
 ·exact⟨_,l⟩
section
variable {K:W.Frag}
abbrev DA (K:W.Frag) (x:Str) (st:Stmt) (f:Addr):Prop:=W.nsIn K mainGlobals x=some (some (.ref f))/\∃ fd,Ce K x x st f fd
abbrev MA (K:W.Frag) (C:Addr) (x q:Str) (st:Stmt) (f:Addr):Prop:=W.findIn K (.ref C) x=some (some (.ref f))/\W.isFn K (.ref f)=true/\∃ fd,Ce K x q st f fd
theorem Fe {q:Str} (F:Ce K x q st f fd) (hl:ps.length=1:=by rfl) (h:∀ (kV b a:Value) (d:Option Addr) (c ct:Value) (u:Value),bindArgs (W.fnOf x q (DP st) (CV st) (Ae st) .none kV b a d c ct) ⟨[u],[]⟩=pure (ps.zip [u]):=by intros;rfl):Binds K fd ps []:=F.binds λkV b a d c ct g e=>by obtain⟨u,rfl⟩:=UL1 (e.trans hl);exact h kV b a d c ct u
theorem DN {q:Str} (F:Ce K x q st f fd) (hl:ps.length=2:=by rfl) (h:∀ (kV b a:Value) (d:Option Addr) (c ct:Value) (u v:Value),bindArgs (W.fnOf x q (DP st) (CV st) (Ae st) .none kV b a d c ct) ⟨[u,v],[]⟩=pure (ps.zip [u,v]):=by intros;rfl):Binds K fd ps []:=F.binds λkV b a d c ct g e=>by obtain⟨u,v,rfl⟩:=UL2 (e.trans hl);exact h kV b a d c ct u v
theorem GP {q:Str} (F:Ce K x q st f fd) (hl:ps.length=3:=by rfl) (h:∀ (kV c b:Value) (e:Option Addr) (d ct:Value) (u v a:Value),bindArgs (W.fnOf x q (DP st) (CV st) (Ae st) .none kV c b e d ct) ⟨[u,v,a],[]⟩=pure (ps.zip [u,v,a]):=by intros;rfl):Binds K fd ps []:=F.binds λkV c b e d ct i g=>by obtain⟨u,v,a,rfl⟩:=UL3 (g.trans hl);exact h kV c b e d ct u v a
theorem nY {q:Str} (F:Ce K x q st f fd) (hl:ps.length=4:=by rfl) (h:∀ (kV d c:Value) (g:Option Addr) (e ct:Value) (u v a b:Value),bindArgs (W.fnOf x q (DP st) (CV st) (Ae st) .none kV d c g e ct) ⟨[u,v,a,b],[]⟩=pure (ps.zip [u,v,a,b]):=by intros;rfl):Binds K fd ps []:=F.binds λkV d c g e ct j i=>by obtain⟨u,v,a,b,rfl⟩:=UL4 (i.trans hl);exact h kV d c g e ct u v a b
end
theorem fU {l:W.OpenLaw} {w:World} {K:W.Frag} {fa:Addr} (X:K.In h) (G:h.Ns mainGlobals mg) (lv:mg "law" = some (.ref fa))
 {pB cK cP cB cS cO cH cY cD a q1 q2 q3 q4 q5 q6 q7 q8 aN aK p1 p2 p3 p4 p5 p6 b1 b2 b3 b4 b5 b6 b7 d1 ea df f2 eh e6 eC f0 ep eA fz fc ej fp d2 eq fy es eL dx ed f8 dv fx dT fn f1 ex de gt e0 e1 f5 el dp eu ef em f6 eb fv da f7 d6 c8 dK f4 eW er ey eo dd c6 dV d3 e3 en ga go fl e7 db ez e4 e8 ei ev dz dr eS e9 eT d5 eH ek d4 gm M f3 eK c5 e2 f9 gs d0 ds dm ew ec e5 fr dy fZ:Addr} {PU yT lS XO:Option Addr} {So i6:Array (Option Value)} {To AH Bi C5 wP ya hJ WG Ya V' NS X9:Value}
  {OH sB D9 SR Pf TW ly l1 g8 ms kk hi Jn EM FE GV IG E6 G1 FD xS BM C0 BA A3 A5 B2 AG Bz B5 B' AD AQ AN Ch AO zI AE A1 zh zo AS BH C9 zv CU AW ze Db AJ y9 BI zl BU AA Au Da A7 B4 A8:Tok} {MU OB GA IP GY KB Fm IX F7 FA HP IS IR Fu Iy GG GN KP GM IY HA Kn F5:Option Addr} {PF QY EL EJ F6 Fh HL EV ES E9 JO IE GO G0 FS II KS IJ FG JA HE EU Ic:Array (Option Value)} {gv nT RI Ts SO PV On UR Se RS MW Md OC SW NW MR OZ UA TC UC SS MD TB nB nP nM nQ:Nat} {eB eP eM eQ:Array DictEntry}
  {wa:Addr} {OS:Option Addr} {Pp:Array (Option Value)} {Sl:Nat}
  (a0:DA K "is_whole" xV d1)
  (cx:DA K "is_made_of" mG ea)
  (co:DA K "is_name" tL df)
  (cg:DA K "rows_of" sJ f2)
  (Y:DA K "is_told" sY eh)
  (bv:DA K "is_within" vJ e6)
  (bd:DA K "is_part" sG eC)
  (cA:DA K "has_parts" qz f0)
  (bK:DA K "count_of_last_lines" xO ep)
  (ap:DA K "is_key_of" q_ eA)
  (cE:DA K "stands_behind_stop" tZ fz)
  (b9:DA K "is_step" sE fc)
  (bm:DA K "is_well_made" wu ej)
  (a8:DA K "has_room" yQ fp)
  (bN:DA K "is_row" vH d2)
  (a3:DA K "check_rows" xn eq)
  (Z:DA K "numbers_of" uw fy)
  (V:DA K "count_in_all" sO es)
  (a4:DA K "places_of" rW eL)
  (ab:DA K "lines_by_knob" xr dx)
  (a9:DA K "set_of_step" sI ed)
  (cs:DA K "may_be_member" tU f8)
  (bW:DA K "set_of" rJ dv)
  (U:DA K "has_member" vh fx)
  (cb:DA K "members_of" qt dT)
  (ca:DA K "shifted" yM fn)
  (a6:DA K "union_of" xU f1)
  (a5:DA K "led_to" vO ex)
  (cn:DA K "drawn_of" lM de)
  (bB:DA K "held_keys" xg gt)
  (b8:DA K "coupled_ways" uD e0)
  (cd:DA K "coupled_keys" wI e1)
  (c2:DA K "muted_boards" rT f5)
  (aw:DA K "unmuted_keys" rO el)
  (a1:DA K "speaking_keys" xJ dp)
  (cv:DA K "numbers_on_board" yW eu)
  (cp:DA K "led_by_line" tH ef)
  (S:DA K "brought_by_stop" rD em)
  (c0:DA K "brought_in_all" sS f6)
  (bL:DA K "sounding_pipes" uY eb)
  (bl:DA K "knob_named" zH fv)
  (as:DA K "knobs_of_board" rR da)
  (ac:DA K "is_piston" tO f7)
  (bP:DA K "board_named" uF d6)
  (cl:DA K "key_on_board" vd c8)
  (ct:DA K "do_at_console" xM dK)
  (c1:DA K "is_deed" vQ f4)
  (an:DA K "_law_cell_at" ul eW)
  (c4:DA K "_law_mix" xG er)
  (a2:DA K "_law_name" qu ey)
  (bz:DA K "_law_knob" yL eo)
  (bn:DA K "_law_rows" sW dd)
  (aD:DA K "_law_deed" tY c6)
  (b0:DA K "_law_asked" yC dV)
  (bR:DA K "_law_beside" vB d3)
  (aZ:W.nsIn K mainGlobals "law" = some (some (.ref fZ)))
  (lZ:K.lookup fZ=some ⟨hJ,lS,.func (W.fnOf "law" "law" (DP Lk) (CV Lk) (Ae Lk) .none WG Ya V' XO NS X9),i6⟩) (cZ:W.codeIn K NS "law" = true) (kZ:W.keepIn K (.ref fZ)=true)
  (aC:W.nsIn K mainGlobals "Organ" = some (some (.ref C)))
  (bS:MA K C "__init__" "Organ.__init__" YZ e3)
  (t:MA K C "boards" "Organ.boards" wY en)
  (o:MA K C "key_count" "Organ.key_count" yw ga)
  (F:MA K C "key" "Organ.key" xK go)
  (d:MA K C "board_of" "Organ.board_of" xP fl)
  (r:MA K C "board_of_knob" "Organ.board_of_knob" vg e7)
  (j:MA K C "coupler" "Organ.coupler" yg db)
  (H:MA K C "ranks" "Organ.ranks" vX ez)
  (E:MA K C "pipe_count" "Organ.pipe_count" yd e4)
  (J:MA K C "pipe" "Organ.pipe" yU e8)
  (x:MA K C "stop" "Organ.stop" wW ei)
  (q:MA K C "mute" "Organ.mute" yu ev)
  (k:MA K C "board_number" "Organ.board_number" xf dz)
  (c:MA K C "knob_number" "Organ.knob_number" su dr)
  (y:MA K C "steps" "Organ.steps" xT eS)
  (B:MA K C "knobs" "Organ.knobs" rA e9)
  (kh:W.nsIn K mainGlobals "Console" = some (some (.ref Cy)))
  (ch:MA K Cy "__init__" "Console.__init__" vG eT)
  (I:MA K Cy "draw" "Console.draw" y_ d5)
  (P:MA K Cy "pull" "Console.pull" yX eH)
  (A:MA K Cy "push" "Console.push" vf ek)
  (m:MA K Cy "knobs" "Console.knobs" yI d4)
  (i:MA K Cy "shoe" "Console.shoe" vI gm)
  (lr:W.findIn K (.ref Cy) "store" = some (some (.ref M)))
  (h8:W.isFn K (.ref M)=true)
  (nL:K.lookup M=some ⟨To,PU,.func (W.fnOf "store" "Console.store" (DP VP) (CV VP) (Ae VP) (.ref wa) AH Bi C5 yT wP ya),So⟩) (j3:W.codeIn K wP "Console.store" = true) (WJ:W.keepIn K (.ref M)=true)
  (L:MA K Cy "press" "Console.press" xF f3)
  (z:MA K Cy "cancel" "Console.cancel" wV eK)
  (kS:W.plainGet K Cy Str.empty=true)
  (Lv:W.hasDictIn K Cy=true)
  (oj:W.plainOver K Cy=true)
  (hj:W.findIn K (.ref Cy) "__setattr__" = some (some (.builtin "object.__setattr__")))
  (P4:W.makesIn K Cy=true)
  (ia:W.keepIn K (.ref Cy)=true)
  (Mc:W.findIn K (.ref Cy) "organ" = some none)
  (Po:W.findIn K (.ref Cy) "drawn_set" = some none)
  (N':W.findIn K (.ref Cy) "shoe_step" = some none)
  (MZ:W.findIn K (.ref Cy) "stored" = some none)
  (YR:W.nsIn K mainGlobals "ValueError" = some none)
  (kr:W.nsIn K mainGlobals "NoKnob" = some (some (.ref cK)))
  (n0:W.nsIn K mainGlobals "NoPiston" = some (some (.ref cP)))
  (kl:W.nsIn K mainGlobals "NoBoard" = some (some (.ref cB)))
  (mi:W.nsIn K mainGlobals "NoStep" = some (some (.ref cS)))
  (Y':W.nsIn K mainGlobals "OrganError" = some (some (.ref cO)))
  (mO:W.nsIn K mainGlobals "NotHeld" = some (some (.ref cH)))
  (g9:W.nsIn K mainGlobals "NoKey" = some (some (.ref cY)))
  (l8:W.nsIn K mainGlobals "NoDeed" = some (some (.ref cD)))
  (hY:W.excIn K cO Q4 "ValueError.__new__" = true)
  (kb:W.excIn K cH Q4 "ValueError.__new__" = true)
  (l5:W.excIn K cY Q4 "ValueError.__new__" = true)
  (hK:W.excIn K cD Q4 "ValueError.__new__" = true)
  (hW:MF K cK cO [cB,cP,cS]=true)
  (gV:MF K cP cO [cB,cK,cS]=true)
  (n6:MF K cB cO [cK,cP,cS]=true)
  (g3:MF K cS cO [cB,cK,cP]=true)
  (m0:MF K cH cO []=true)
  (QE:W.mroIn K cH (.ref cH)=some true)
  (Pd:W.mroIn K cP (.ref cP)=some true)
  (mo:W.nsIn K mainGlobals "Piston" = some (some (.ref pB)))
  (mA:W.nsIn K mainGlobals "Every" = some (some (.ref pE)))
  (hm:W.nsIn K mainGlobals "Part" = some (some (.ref pA)))
  (p:MA K pE "__init__" "Piston.__init__" yE c5)
  (O:MA K pE "put" "Every.put" vC e2)
  (a7:MA K pA "__init__" "Part.__init__" uE f9)
  (b:MA K pA "put" "Part.put" v_ gs)
  (TR:W.plainGet K pE Str.empty=true)
  (Sc:W.hasDictIn K pE=true)
  (N3:W.plainOver K pE=true)
  (TM:W.findIn K (.ref pE) "__setattr__" = some (some (.builtin "object.__setattr__")))
  (SE:W.makesIn K pE=true)
  (Mn:W.keepIn K (.ref pE)=true)
  (MO:W.findIn K (.ref pE) "knob_set" = some none)
  (Pm:W.plainGet K pA Str.empty=true)
  (RO:W.hasDictIn K pA=true)
  (OT:W.plainOver K pA=true)
  (Sz:W.findIn K (.ref pA) "__setattr__" = some (some (.builtin "object.__setattr__")))
  (OI:W.makesIn K pA=true)
  (P7:W.keepIn K (.ref pA)=true)
  (Nl:W.findIn K (.ref pA) "knob_set" = some none)
  (UM:W.findIn K (.ref pA) "whole_set" = some none)
  (nf:W.nsIn K mainGlobals "PISTON_COUNT" = some (some (.int 10 OH)))
  (n2:W.specialIn K (.ref pB) "__getattribute__" = some (some (.builtin "type.__getattribute__")))
  (lg:W.readsIn K pB (.type "type")=true)
  (mQ:W.findCls K (.ref pB) (.type "type") "__init__" = some (.val (.ref c5)))
  (mE:W.nsIn K mainGlobals "Player" = some (some (.ref Cp)))
  (c3:MA K Cp "__init__" "Player.__init__" xN d0)
  (u:MA K Cp "hold" "Player.hold" yt ds)
  (R:MA K Cp "leave" "Player.leave" wk dm)
  (f:MA K Cp "act" "Player.act" xm ew)
  (n:MA K Cp "do" "Player.do" tM ec)
  (g:MA K Cp "sound" "Player.sound" uU e5)
  (Q:MA K Cp "held" "Player.held" rZ fr)
  (D:MA K Cp "knobs" "Player.knobs" yH dy)
  (mm:W.plainGet K Cp Str.empty=true)
  (h5:W.hasDictIn K Cp=true)
  (lm:W.plainOver K Cp=true)
  (nN:W.findIn K (.ref Cp) "__setattr__" = some (some (.builtin "object.__setattr__")))
  (Mo:W.makesIn K Cp=true)
  (nv:W.keepIn K (.ref Cp)=true)
  (UI:W.findIn K (.ref Cp) "organ" = some none)
  (UE:W.findIn K (.ref Cp) "console" = some none)
  (OO:W.findIn K (.ref Cp) "hands" = some none)
  (rQ:W.nsIn K mainGlobals "PART_COUNTS" = some (some (.ref a)))
  (dQ:K.lookup a=some ⟨.type "dict",none,.dict eQ nQ,#[]⟩)
  (kQ:W.KeysLit w.params eQ.toList)
  (oQ:(a == sysModules)=false)
  (kT:W.nsIn K a "hold" = some (some (.ref q1)))
  (mR:W.nsIn K a "leave" = some (some (.ref q2)))
  (nc:W.nsIn K a "pull" = some (some (.ref q3)))
  (l9:W.nsIn K a "push" = some (some (.ref q4)))
  (mt:W.nsIn K a "store" = some (some (.ref q5)))
  (gw:W.nsIn K a "press" = some (some (.ref q6)))
  (n4:W.nsIn K a "cancel" = some (some (.ref q7)))
  (nh:W.nsIn K a "shoe" = some (some (.ref q8)))
  (pg:W.plainGet K C Str.empty=true)
  (hd:W.hasDictIn K C=true)
  (po:W.plainOver K C=true)
  (sa:W.findIn K (.ref C) "__setattr__" = some (some (.builtin "object.__setattr__")))
  (jm:W.makesIn K C=true)
  (kc:W.keepIn K (.ref C)=true)
  (oS:W.findIn K (.ref C) "row_list" = some none)
  (nt:W.findIn K (.ref C) "board_list" = some none)
  (oz:W.findIn K (.ref C) "rank_list" = some none)
  (oy:W.findIn K (.ref C) "knob_rows" = some none)
  (lx:W.findIn K (.ref C) "board_numbers" = some none)
  (me:W.findIn K (.ref C) "rank_numbers" = some none)
  (ma:W.findIn K (.ref C) "knob_numbers" = some none)
  (na:W.findIn K (.ref C) "key_places" = some none)
  (mh:W.findIn K (.ref C) "pipe_places" = some none)
  (nE:W.findIn K (.ref C) "knob_lines" = some none)
  (on:W.findIn K (.ref C) "step_sets" = some none)
  (S0:W.nsIn K mainGlobals "len" = some none)
  (pe:W.nsIn K mainGlobals "isinstance" = some none)
  (QP:W.nsIn K mainGlobals "int" = some none)
  (F4:W.nsIn K mainGlobals "bool" = some none)
  (NU:W.nsIn K mainGlobals "str" = some none)
  (F9:W.nsIn K mainGlobals "list" = some none)
  (AB:W.nsIn K mainGlobals "tuple" = some none)
  (NO:W.nsIn K mainGlobals "all" = some none)
  (RU:W.nsIn K mainGlobals "any" = some none)
  (SH:W.nsIn K mainGlobals "sum" = some none)
  (AL:W.nsIn K mainGlobals "range" = some none)
  (NJ:W.nsIn K mainGlobals "zip" = some none)
  (qo:W.nsIn K mainGlobals "enumerate" = some none)
  (P6:W.nsIn K mainGlobals "max" = some none)
  (sj:W.nsIn K mainGlobals "reversed" = some none)
  (TH:W.nsIn K mainGlobals "set" = some none)
  (PY:W.nsIn K mainGlobals "min" = some none)
  (wx:W.nsIn K mainGlobals "sorted" = some none)
  (R':W.nsIn K mainGlobals "LETTERS" = some (some (.str letters sB)))
  (ks:W.nsIn K mainGlobals "MOST_LETTERS" = some (some (.int 8 D9)))
  (hb:W.nsIn K mainGlobals "MOST_ROWS" = some (some (.int 150 SR)))
  (Nd:W.nsIn K mainGlobals "MOST_LINES" = some (some (.int 4 Pf)))
  (ls:W.nsIn K mainGlobals "MEMBERS_BELOW" = some (some (.int 1200 TW)))
  (rN:W.nsIn K mainGlobals "NAMED" = some (some (.ref aN)))
  (rK:W.nsIn K mainGlobals "KNOBS" = some (some (.ref aK)))
  (rB:W.nsIn K mainGlobals "BOUNDS" = some (some (.ref aB)))
  (rP:W.nsIn K mainGlobals "PARTS" = some (some (.ref aP)))
  (rM:W.nsIn K mainGlobals "MOST_OF" = some (some (.ref aM)))
  (dB:K.lookup aB=some ⟨.type "dict",none,.dict eB nB,#[]⟩)
  (kB:W.KeysLit w.params eB.toList)
  (oB:(aB == sysModules)=false)
  (dP:K.lookup aP=some ⟨.type "dict",none,.dict eP nP,#[]⟩)
  (kP:W.KeysLit w.params eP.toList)
  (oP:(aP == sysModules)=false)
  (dM:K.lookup aM=some ⟨.type "dict",none,.dict eM nM,#[]⟩)
  (kM:W.KeysLit w.params eM.toList)
  (oM:(aM == sysModules)=false)
  (np:W.nsIn K aP "board" = some (some (.ref p1)))
  (hB:W.nsIn K aP "stop" = some (some (.ref p2)))
  (mN:W.nsIn K aP "mute" = some (some (.ref p3)))
  (ns:W.nsIn K aP "coupler" = some (some (.ref p4)))
  (md:W.nsIn K aP "rank" = some (some (.ref p5)))
  (g0:W.nsIn K aP "line" = some (some (.ref p6)))
  (km:W.nsIn K aB "keys" = some (some (.ref b1)))
  (j0:W.nsIn K aB "leap" = some (some (.ref b2)))
  (nl:W.nsIn K aB "pipes" = some (some (.ref b3)))
  (hO:W.nsIn K aB "wind" = some (some (.ref b4)))
  (mS:W.nsIn K aB "shift" = some (some (.ref b5)))
  (oq:W.nsIn K aB "low" = some (some (.ref b6)))
  (hx:W.nsIn K aB "high" = some (some (.ref b7)))
  (qn:W.nsIn K aB "new" = some none)
  (qb:W.nsIn K aB "board" = some none)
  (qr:W.nsIn K aB "rank" = some none)
  (ql:W.nsIn K aM "line" = some none)
  (nS:W.nsIn K aM "board" = some (some (.int 5 ly)))
  (hs:W.nsIn K aM "stop" = some (some (.int 24 l1)))
  (op:W.nsIn K aM "coupler" = some (some (.int 12 g8)))
  (k6:W.nsIn K aM "mute" = some (some (.int 5 ms)))
  (k5:W.nsIn K aM "rank" = some (some (.int 12 kk)))
  (i4:W.nsIn K aM "step" = some (some (.int 12 hi)))
  (uN:K.lookup aN=some ⟨.type "tuple",MU,.seq #[.str "board" Jn,.str "rank" EM,.str "stop" FE,.str "coupler" GV,.str "mute" IG] gv,PF⟩)
  (uK:K.lookup aK=some ⟨.type "tuple",OB,.seq #[.str "stop" E6,.str "coupler" G1,.str "mute" FD] nT,QY⟩)
  (up1:K.lookup p1=some ⟨.type "tuple",GA,.seq #[.str "new" xS,.str "keys" BM] RI,EL⟩)
  (j1:K.lookup p2=some ⟨.type "tuple",IP,.seq #[.str "new" C0,.str "board" BA] Ts,EJ⟩)
  (lP:K.lookup p3=some ⟨.type "tuple",GY,.seq #[.str "new" A3,.str "board" A5] SO,F6⟩)
  (kp:K.lookup p4=some ⟨.type "tuple",KB,.seq #[.str "new" B2,.str "board" AG,.str "board" Bz,.str "leap" B5] PV,Fh⟩)
  (mx:K.lookup p5=some ⟨.type "tuple",Fm,.seq #[.str "new" B',.str "pipes" AD,.str "wind" AQ] On,HL⟩)
  (hL:K.lookup p6=some ⟨.type "tuple",IX,.seq #[.str "rank" AN,.str "shift" Ch,.str "low" AO,.str "high" zI] UR,EV⟩)
  (UZ:K.lookup wa=some ⟨.type "tuple",OS,.seq #[.none] Sl,Pp⟩)
  (mI:K.lookup b1=some ⟨.type "tuple",F7,.seq #[.int (1) AE,.int (61) A1] Se,ES⟩)
  (l3:K.lookup b2=some ⟨.type "tuple",FA,.seq #[.int (-60) zh,.int (60) zo] RS,E9⟩)
  (k3:K.lookup b3=some ⟨.type "tuple",HP,.seq #[.int (1) AS,.int (97) BH] MW,JO⟩)
  (n7:K.lookup b4=some ⟨.type "tuple",IS,.seq #[.int (0) C9,.int (1000000000) zv] Md,IE⟩)
  (ou:K.lookup b5=some ⟨.type "tuple",IR,.seq #[.int (-200) CU,.int (200) AW] OC,GO⟩)
  (j2:K.lookup b6=some ⟨.type "tuple",Fu,.seq #[.int (0) ze,.int (60) Db] SW,G0⟩)
  (lh:K.lookup b7=some ⟨.type "tuple",Iy,.seq #[.int (0) AJ,.int (60) y9] NW,FS⟩)
  (h6:K.lookup q1=some ⟨.type "tuple",GG,.seq #[.int (3) BI] MR,II⟩)
  (l6:K.lookup q2=some ⟨.type "tuple",GN,.seq #[.int (3) zl] OZ,KS⟩)
  (g2:K.lookup q3=some ⟨.type "tuple",KP,.seq #[.int (2) BU] UA,IJ⟩)
  (ky:K.lookup q4=some ⟨.type "tuple",GM,.seq #[.int (2) AA] TC,FG⟩)
  (hr:K.lookup q5=some ⟨.type "tuple",IY,.seq #[.int (2) Au,.int (3) Da] UC,JA⟩)
  (lq:K.lookup q6=some ⟨.type "tuple",HA,.seq #[.int (2) A7] SS,HE⟩)
  (k2:K.lookup q7=some ⟨.type "tuple",Kn,.seq #[.int (1) B4] MD,EU⟩)
  (mH:K.lookup q8=some ⟨.type "tuple",F5,.seq #[.int (2) A8] TB,Ic⟩)
  : ∃ fd:FuncData,(∀ (s:Shared) (v:Value),BindsTo s fd ⟨[v],[]⟩ [("_law_script",v)])/\∀ base:Heap,K.In base->base.Ns mainGlobals mg->Ao l.prog w K mg base Bb 12 fa fd xE (PP K):=by
 refine Classical.byContradiction λhA=>?_
 obtain⟨g4,pd,a0⟩:=a0
 obtain⟨hw,ox,cx⟩:=cx
 obtain⟨is,o1,co⟩:=co
 obtain⟨hX,o5,cg⟩:=cg
 obtain⟨g7,pV,Y⟩:=Y
 obtain⟨hf,qq,bv⟩:=bv
 obtain⟨l7,pc,bd⟩:=bd
 obtain⟨or,pf,cA⟩:=cA
 obtain⟨n3,pu,bK⟩:=bK
 obtain⟨lj,q0,ap⟩:=ap
 obtain⟨hg,qc,cE⟩:=cE
 obtain⟨ow,ra,b9⟩:=b9
 obtain⟨ov,oT,bm⟩:=bm
 obtain⟨mb,qv,a8⟩:=a8
 obtain⟨i2,pa,bN⟩:=bN
 obtain⟨ol,oC,a3⟩:=a3
 obtain⟨oo,r1,Z⟩:=Z
 obtain⟨it,py,V⟩:=V
 obtain⟨od,ro,a4⟩:=a4
 obtain⟨mP,rv,ab⟩:=ab
 obtain⟨h3,pN,a9⟩:=a9
 obtain⟨hz,qh,cs⟩:=cs
 obtain⟨mM,pL,bW⟩:=bW
 obtain⟨hT,pC,U⟩:=U
 obtain⟨m2,ps,cb⟩:=cb
 obtain⟨m4,pz,ca⟩:=ca
 obtain⟨ho,rS,a6⟩:=a6
 obtain⟨h2,pj,a5⟩:=a5
 obtain⟨hE,rc,cn⟩:=cn
 obtain⟨n8,pR,bB⟩:=bB
 obtain⟨hn,qa,b8⟩:=b8
 obtain⟨hu,rn,cd⟩:=cd
 obtain⟨hh,oL,c2⟩:=c2
 obtain⟨nd,px,aw⟩:=aw
 obtain⟨j5,pM,a1⟩:=a1
 obtain⟨n5,rq,cv⟩:=cv
 obtain⟨kw,p0,cp⟩:=cp
 obtain⟨mc,rX,S⟩:=S
 obtain⟨kt,oD,c0⟩:=c0
 obtain⟨hy,ri,bL⟩:=bL
 obtain⟨ih,qe,bl⟩:=bl
 obtain⟨hP,qd,as⟩:=as
 obtain⟨mT,rr,ac⟩:=ac
 obtain⟨m5,r0,bP⟩:=bP
 obtain⟨ob,rH,cl⟩:=cl
 obtain⟨mL,pi,ct⟩:=ct
 obtain⟨kd,rm,c1⟩:=c1
 obtain⟨i0,o2,an⟩:=an
 obtain⟨m1,rV,c4⟩:=c4
 obtain⟨ib,rg,a2⟩:=a2
 obtain⟨i3,qk,bz⟩:=bz
 obtain⟨oa,qs,bn⟩:=bn
 obtain⟨mf,qy,aD⟩:=aD
 obtain⟨g1,oI,b0⟩:=b0
 obtain⟨lK,rz,bR⟩:=bR
 obtain⟨ht,n9,q9,bS⟩:=bS
 obtain⟨h0,oi,qO,t⟩:=t
 obtain⟨lc,kU,o4,o⟩:=o
 obtain⟨nn,ng,re,F⟩:=F
 obtain⟨i5,ot,pm,d⟩:=d
 obtain⟨ha,hc,rx,r⟩:=r
 obtain⟨hp,kL,qS,j⟩:=j
 obtain⟨lz,mY,rL,H⟩:=H
 obtain⟨mD,kf,rs,E⟩:=E
 obtain⟨i1,ln,rh,J⟩:=J
 obtain⟨no,mK,pr,x⟩:=x
 obtain⟨mC,n1,qB,q⟩:=q
 obtain⟨k7,kn,p7,k⟩:=k
 obtain⟨nx,hI,pS,c⟩:=c
 obtain⟨i7,hC,qx,y⟩:=y
 obtain⟨ny,mr,rd,B⟩:=B
 obtain⟨l4,hv,ry,ch⟩:=ch
 obtain⟨kX,js,pk,I⟩:=I
 obtain⟨g6,m3,rt,P⟩:=P
 obtain⟨hR,lw,o3,A⟩:=A
 obtain⟨mn,hS,p9,m⟩:=m
 obtain⟨iv,i8,qE,i⟩:=i
 obtain⟨lp,oc,pl,L⟩:=L
 obtain⟨k1,nK,qA,z⟩:=z
 obtain⟨hH,nw,o0,p⟩:=p
 obtain⟨kN,k8,rf,O⟩:=O
 obtain⟨hN,mB,rp,a7⟩:=a7
 obtain⟨l0,k9,qf,b⟩:=b
 obtain⟨hk,k0,pT,c3⟩:=c3
 obtain⟨mp,nk,rb,u⟩:=u
 obtain⟨nD,oe,p8,R⟩:=R
 obtain⟨h9,lT,pb,f⟩:=f
 obtain⟨li,h1,rj,n⟩:=n
 obtain⟨hQ,lk,ru,g⟩:=g
 obtain⟨lb,nI,pp,Q⟩:=Q
 obtain⟨h4,hM,rl,D⟩:=D
 refine hA ?_
 have e:=lv.symm.trans (W.mg_of X G aZ)
 cases e
 have he:=Yz (st:=VP) nL j3 WJ
 have FZ:=Qd (st:=Lk) lZ cZ kZ
 have nz:Binds K (W.fnOf "store" "Console.store" (DP VP) (CV VP) (Ae VP) (.ref wa) AH Bi C5 yT wP ya) ui []:=dO UZ rfl λus hl=>by obtain⟨_,_,_,rfl⟩:=UL3 hl;exact⟨_,rfl,rfl⟩
 have gN:KTup K aN [.str "board",.str "rank",.str "stop",.str "coupler",.str "mute"]:=(⟨_,_,_,uN,rfl,rfl,by show 5<=sizeLine;decide,.cons ⟨_,rfl⟩ (.cons ⟨_,rfl⟩ (.cons ⟨_,rfl⟩ (.cons ⟨_,rfl⟩ (.cons ⟨_,rfl⟩ (.nil)))))⟩)
 have gK:KTup K aK [.str "stop",.str "coupler",.str "mute"]:=(⟨_,_,_,uK,rfl,rfl,by show 3<=sizeLine;decide,.cons ⟨_,rfl⟩ (.cons ⟨_,rfl⟩ (.cons ⟨_,rfl⟩ (.nil)))⟩)
 have hF:KTup K p1 [.str "new",.str "keys"]:=(⟨_,_,_,up1,rfl,rfl,by show 2<=sizeLine;decide,.cons ⟨_,rfl⟩ (.cons ⟨_,rfl⟩ (.nil))⟩)
 have nX:KTup K p2 [.str "new",.str "board"]:=(⟨_,_,_,j1,rfl,rfl,by show 2<=sizeLine;decide,.cons ⟨_,rfl⟩ (.cons ⟨_,rfl⟩ (.nil))⟩)
 have ml:KTup K p3 [.str "new",.str "board"]:=(⟨_,_,_,lP,rfl,rfl,by show 2<=sizeLine;decide,.cons ⟨_,rfl⟩ (.cons ⟨_,rfl⟩ (.nil))⟩)
 have ll:KTup K p4 [.str "new",.str "board",.str "board",.str "leap"]:=(⟨_,_,_,kp,rfl,rfl,by show 4<=sizeLine;decide,.cons ⟨_,rfl⟩ (.cons ⟨_,rfl⟩ (.cons ⟨_,rfl⟩ (.cons ⟨_,rfl⟩ (.nil))))⟩)
 have h7:KTup K p5 [.str "new",.str "pipes",.str "wind"]:=(⟨_,_,_,mx,rfl,rfl,by show 3<=sizeLine;decide,.cons ⟨_,rfl⟩ (.cons ⟨_,rfl⟩ (.cons ⟨_,rfl⟩ (.nil)))⟩)
 have lI:KTup K p6 [.str "rank",.str "shift",.str "low",.str "high"]:=(⟨_,_,_,hL,rfl,rfl,by show 4<=sizeLine;decide,.cons ⟨_,rfl⟩ (.cons ⟨_,rfl⟩ (.cons ⟨_,rfl⟩ (.cons ⟨_,rfl⟩ (.nil))))⟩)
 have nm:KTup K b1 [.int (1),.int (61)]:=(⟨_,_,_,mI,rfl,rfl,by show 2<=sizeLine;decide,.cons ⟨_,rfl⟩ (.cons ⟨_,rfl⟩ (.nil))⟩)
 have kv:KTup K b2 [.int (-60),.int (60)]:=(⟨_,_,_,l3,rfl,rfl,by show 2<=sizeLine;decide,.cons ⟨_,rfl⟩ (.cons ⟨_,rfl⟩ (.nil))⟩)
 have hD:KTup K b3 [.int (1),.int (97)]:=(⟨_,_,_,k3,rfl,rfl,by show 2<=sizeLine;decide,.cons ⟨_,rfl⟩ (.cons ⟨_,rfl⟩ (.nil))⟩)
 have mu:KTup K b4 [.int (0),.int (1000000000)]:=(⟨_,_,_,n7,rfl,rfl,by show 2<=sizeLine;decide,.cons ⟨_,rfl⟩ (.cons ⟨_,rfl⟩ (.nil))⟩)
 have i9:KTup K b5 [.int (-200),.int (200)]:=(⟨_,_,_,ou,rfl,rfl,by show 2<=sizeLine;decide,.cons ⟨_,rfl⟩ (.cons ⟨_,rfl⟩ (.nil))⟩)
 have mw:KTup K b6 [.int (0),.int (60)]:=(⟨_,_,_,j2,rfl,rfl,by show 2<=sizeLine;decide,.cons ⟨_,rfl⟩ (.cons ⟨_,rfl⟩ (.nil))⟩)
 have k4:KTup K b7 [.int (0),.int (60)]:=(⟨_,_,_,lh,rfl,rfl,by show 2<=sizeLine;decide,.cons ⟨_,rfl⟩ (.cons ⟨_,rfl⟩ (.nil))⟩)
 have j4:KTup K q1 [.int (3)]:=(⟨_,_,_,h6,rfl,rfl,by show 1<=sizeLine;decide,.cons ⟨_,rfl⟩ (.nil)⟩)
 have l2:KTup K q2 [.int (3)]:=(⟨_,_,_,l6,rfl,rfl,by show 1<=sizeLine;decide,.cons ⟨_,rfl⟩ (.nil)⟩)
 have la:KTup K q3 [.int (2)]:=(⟨_,_,_,g2,rfl,rfl,by show 1<=sizeLine;decide,.cons ⟨_,rfl⟩ (.nil)⟩)
 have g5:KTup K q4 [.int (2)]:=(⟨_,_,_,ky,rfl,rfl,by show 1<=sizeLine;decide,.cons ⟨_,rfl⟩ (.nil)⟩)
 have hq:KTup K q5 [.int (2),.int (3)]:=(⟨_,_,_,hr,rfl,rfl,by show 2<=sizeLine;decide,.cons ⟨_,rfl⟩ (.cons ⟨_,rfl⟩ (.nil))⟩)
 have lf:KTup K q6 [.int (2)]:=(⟨_,_,_,lq,rfl,rfl,by show 1<=sizeLine;decide,.cons ⟨_,rfl⟩ (.nil)⟩)
 have om:KTup K q7 [.int (1)]:=(⟨_,_,_,k2,rfl,rfl,by show 1<=sizeLine;decide,.cons ⟨_,rfl⟩ (.nil)⟩)
 have ka:KTup K q8 [.int (2)]:=(⟨_,_,_,mH,rfl,rfl,by show 1<=sizeLine;decide,.cons ⟨_,rfl⟩ (.nil)⟩)
 have F2:Yc K aB aP aM:=⟨⟨⟨_,np,hF⟩,⟨_,hB,nX⟩,⟨_,mN,ml⟩,⟨_,ns,ll⟩,⟨_,km,nm⟩,⟨_,j0,kv⟩,qn,qb,⟨_,nS⟩,⟨_,hs⟩,⟨_,op⟩,⟨_,k6⟩⟩,⟨_,md,h7⟩,⟨_,g0,lI⟩,⟨_,nl,hD⟩,⟨_,hO,mu⟩,⟨_,mS,i9⟩,⟨_,oq,mw⟩,⟨_,hx,k4⟩,qr,⟨_,k5⟩,ql⟩
 have F0:qX K aB aP aM:=⟨F2,⟨_,i4⟩⟩
 have T:Txt K w.params mg C Cy Cp pB pE pA cK cP cB cS cO cH cY cD a aN aK aB aP aM:=⟨W.mg_none_of X G S0,W.mg_none_of X G pe,W.mg_none_of X G QP,W.mg_none_of X G F4,W.mg_none_of X G NU,W.mg_none_of X G F9,W.mg_none_of X G AB,W.mg_none_of X G NO,W.mg_none_of X G RU,W.mg_none_of X G SH,W.mg_none_of X G AL,W.mg_none_of X G NJ,W.mg_none_of X G qo,W.mg_none_of X G P6,W.mg_none_of X G sj,W.mg_none_of X G TH,W.mg_none_of X G PY,W.mg_none_of X G wx,⟨_,W.mg_of X G R'⟩,⟨_,W.mg_of X G ks⟩,⟨_,W.mg_of X G hb⟩,⟨_,W.mg_of X G Nd⟩,⟨_,W.mg_of X G ls⟩,W.mg_of X G rN,W.mg_of X G rK,W.mg_of X G rB,W.mg_of X G rP,W.mg_of X G rM,gN,gK,⟨⟨_,_,dB,kB⟩,oB⟩,⟨⟨_,_,dP,kP⟩,oP⟩,⟨⟨_,_,dM,kM⟩,oM⟩,⟨pg,hd,po,sa⟩,W.mg_of X G aC,⟨kS,Lv,oj,hj⟩,W.mg_of X G kh,Mc,Po,N',MZ,⟨W.mg_none_of X G YR,W.mg_of X G kr,W.mg_of X G n0,W.mg_of X G kl,W.mg_of X G mi,W.mg_of X G Y',hY,Rc.of hW,Rc.of gV,Rc.of n6,Rc.of g3⟩,⟨W.mg_of X G mo,W.mg_of X G mA,W.mg_of X G hm,⟨TR,Sc,N3,TM⟩,⟨Pm,RO,OT,Sz⟩,MO,Nl,UM,⟨_,W.mg_of X G nf⟩⟩,⟨mm,h5,lm,nN⟩,W.mg_of X G mE,UI,UE,OO,⟨W.mg_none_of X G YR,W.mg_of X G mO,W.mg_of X G Y',kb,Rc.of m0,QE⟩,⟨W.mg_of X G g9,W.mg_of X G l8,l5,Pd,hK⟩,W.mg_of X G rQ,⟨⟨_,_,dQ,kQ⟩,oQ⟩,mq ⟨kT,j4⟩ ⟨mR,l2⟩ ⟨nc,la⟩ ⟨l9,g5⟩ ⟨mt,hq⟩ ⟨gw,lf⟩ ⟨n4,om⟩ ⟨nh,ka⟩,oS,nt,oz,oy,lx,me,ma,na,mh,nE,on⟩
 have eg:Binds K (W.fnOf "store" "Console.store" (DP VP) (CV VP) (Ae VP) (.ref wa) AH Bi C5 yT wP ya) ui [.none]:=Yv UZ rfl λus hl=>match us,(show us.length=2 by simpa using hl) with | [_,_],_=>⟨_,rfl,rfl⟩
 have N:wN K mg C Cy Cp pB pE pA ⟨d1,ea,df,f2,eh,e6,eC,f0,ep,eA,fz,fc,ej,fp,d2,eq,fy,es,eL,dx,ed,f8,dv,fx,dT,fn,f1,ex,de,gt,e0,e1,f5,el,dp,eu,ef,em,f6,eb,fv,da,f7,d6,c8,dK,f4,eW,er,ey,eo,dd,c6,dV,d3,e3,en,ga,go,fl,e7,db,ez,e4,e8,ei,ev,dz,dr,eS,e9,eT,d5,eH,ek,d4,gm,M,f3,eK,c5,e2,f9,gs,d0,ds,dm,ew,ec,e5,fr,dy,_,_,_,_,_,_,_,_,_,_,_,_,_,_,_,_,_,_,_,_,_,_,_,_,_,_,_,_,_,_,_,_,_,_,_,_,_,_,_,_,_,_,_,_,_,_,_,_,_,_,_,_,_,_,_,_,_,_,_,_,_,_,_,_,_,_,_,_,_,_,_,_,_,_,_,_,_,_,_,_,_,_,_,_,_,_,_,_,_,_,_,_⟩:=⟨⟨a0,(Fe a0),W.mg_of X G g4⟩,⟨cx,(GP cx),W.mg_of X G hw⟩,⟨co,(Fe co),W.mg_of X G is⟩,⟨cg,(DN cg),W.mg_of X G hX⟩,⟨Y,(GP Y),W.mg_of X G g7⟩,⟨bv,(DN bv),W.mg_of X G hf⟩,⟨bd,(GP bd),W.mg_of X G l7⟩,⟨cA,(DN cA),W.mg_of X G or⟩,⟨bK,(Fe bK),W.mg_of X G n3⟩,⟨ap,(GP ap),W.mg_of X G lj⟩,⟨cE,(DN cE),W.mg_of X G hg⟩,⟨b9,(DN b9),W.mg_of X G ow⟩,⟨bm,(DN bm),W.mg_of X G ov⟩,⟨a8,(DN a8),W.mg_of X G mb⟩,⟨bN,(DN bN),W.mg_of X G i2⟩,⟨a3,(Fe a3),W.mg_of X G ol⟩,⟨Z,(Fe Z),W.mg_of X G oo⟩,⟨V,(Fe V),W.mg_of X G it⟩,⟨a4,(Fe a4),W.mg_of X G od⟩,⟨ab,(DN ab),W.mg_of X G mP⟩,⟨a9,(DN a9),W.mg_of X G h3⟩,⟨cs,(Fe cs),W.mg_of X G hz⟩,⟨bW,(Fe bW),W.mg_of X G mM⟩,⟨U,(DN U),W.mg_of X G hT⟩,⟨cb,(Fe cb),W.mg_of X G m2⟩,⟨ca,(GP ca),W.mg_of X G m4⟩,⟨a6,(Fe a6),W.mg_of X G ho⟩,⟨a5,(GP a5),W.mg_of X G h2⟩,⟨cn,(GP cn),W.mg_of X G hE⟩,⟨bB,(DN bB),W.mg_of X G n8⟩,⟨b8,(GP b8),W.mg_of X G hn⟩,⟨cd,(GP cd),W.mg_of X G hu⟩,⟨c2,(DN c2),W.mg_of X G hh⟩,⟨aw,(GP aw),W.mg_of X G nd⟩,⟨a1,(GP a1),W.mg_of X G j5⟩,⟨cv,(GP cv),W.mg_of X G n5⟩,⟨cp,(GP cp),W.mg_of X G kw⟩,⟨S,(GP S),W.mg_of X G mc⟩,⟨c0,(GP c0),W.mg_of X G kt⟩,⟨bL,(GP bL),W.mg_of X G hy⟩,⟨bl,(DN bl),W.mg_of X G ih⟩,⟨as,(DN as),W.mg_of X G hP⟩,⟨ac,(Fe ac),W.mg_of X G mT⟩,⟨bP,(DN bP),W.mg_of X G m5⟩,⟨cl,(GP cl),W.mg_of X G ob⟩,⟨ct,(GP ct),W.mg_of X G mL⟩,⟨c1,(Fe c1),W.mg_of X G kd⟩,⟨an,(DN an),W.mg_of X G i0⟩,⟨c4,(GP c4),W.mg_of X G m1⟩,⟨a2,(DN a2),W.mg_of X G ib⟩,⟨bz,(nY bz),W.mg_of X G i3⟩,⟨bn,(Fe bn),W.mg_of X G oa⟩,⟨aD,(nY aD),W.mg_of X G mf⟩,⟨b0,(DN b0),W.mg_of X G g1⟩,⟨bR,(DN bR),W.mg_of X G lK⟩,⟨bS,(DN bS),⟨jm,ht,n9,kc⟩⟩,⟨t,(Fe t),⟨h0,oi,t.kp⟩⟩,⟨o,(Fe o),⟨lc,kU,o.kp⟩⟩,⟨F,(GP F),⟨nn,ng,F.kp⟩⟩,⟨d,(DN d),⟨i5,ot,d.kp⟩⟩,⟨r,(DN r),⟨ha,hc,r.kp⟩⟩,⟨j,(DN j),⟨hp,kL,j.kp⟩⟩,⟨H,(Fe H),⟨lz,mY,H.kp⟩⟩,⟨E,(Fe E),⟨mD,kf,E.kp⟩⟩,⟨J,(GP J),⟨i1,ln,J.kp⟩⟩,⟨x,(DN x),⟨no,mK,x.kp⟩⟩,⟨q,(DN q),⟨mC,n1,q.kp⟩⟩,⟨k,(DN k),⟨k7,kn,k.kp⟩⟩,⟨c,(DN c),⟨nx,hI,c.kp⟩⟩,⟨y,(Fe y),⟨i7,hC,y.kp⟩⟩,⟨B,(Fe B),⟨ny,mr,B.kp⟩⟩,⟨ch,(DN ch),⟨P4,l4,hv,ia⟩⟩,⟨I,(DN I),⟨kX,js,I.kp⟩⟩,⟨P,(DN P),⟨g6,m3,P.kp⟩⟩,⟨A,(DN A),⟨hR,lw,A.kp⟩⟩,⟨m,(Fe m),⟨mn,hS,m.kp⟩⟩,⟨i,(DN i),⟨iv,i8,i.kp⟩⟩,⟨he,nz,⟨lr,h8,WJ⟩⟩,⟨L,(DN L),⟨lp,oc,L.kp⟩⟩,⟨z,(Fe z),⟨k1,nK,z.kp⟩⟩,⟨p,(DN p),⟨SE,hH,nw,Mn⟩⟩,⟨O,(DN O),⟨kN,k8,O.kp⟩⟩,⟨a7,(GP a7),⟨OI,hN,mB,P7⟩⟩,⟨b,(DN b),⟨l0,k9,b.kp⟩⟩,⟨c3,(DN c3),⟨Mo,hk,k0,nv⟩⟩,⟨u,(DN u),⟨mp,nk,u.kp⟩⟩,⟨R,(DN R),⟨nD,oe,R.kp⟩⟩,⟨f,(DN f),⟨h9,lT,f.kp⟩⟩,⟨n,(DN n),⟨li,h1,n.kp⟩⟩,⟨g,(Fe g),⟨hQ,lk,g.kp⟩⟩,⟨Q,(Fe Q),⟨lb,nI,Q.kp⟩⟩,⟨D,(Fe D),⟨h4,hM,D.kp⟩⟩,eg,⟨n2,lg,mQ,p.kp⟩⟩
 exact⟨W.fnOf "law" "law" (DP Lk) (CV Lk) (Ae Lk) .none WG Ya V' XO NS X9,λs v=>.of_eq rfl,λbase _ _=>ig FZ N T F0⟩
theorem walk {l:W.OpenLaw} {q:Program} {j:List Str} {p:(Str->Option Value)->Heap->Prop} {c:World->Heap->Prop} {d:DefRec} {K:Params->W.Frag} (i:l.most=some 63) (o:d.params.defaults=[])
  (g:∀ (w:World) (h:Heap),c w h->(K w.params).In h)
  (F:∀ (w:World) (b:Str->Option Value) (e:Addr) (h:Heap),(K w.params).In h->h.Ns mainGlobals b->b d.name=some (.ref e) ->
   ∃ fd:FuncData,(∀ (s:Shared) (u:Value),BindsTo s fd ⟨[u],[]⟩ [("_law_script",u)])/\∀ base:Heap,(K w.params).In base->base.Ns mainGlobals b->Ao l.prog w (K w.params) b base Bb 12 e fd xE (PP (K w.params))) :
  W.WalkO q j p c l.row.toRowW d [] (λf vs=>PySem.call f vs) :=
 L2.Y_ (n:=63) (k:=12) (x:="_law_script") (CX:=λ_=>Bb) (sp:=λw=>PP (K w.params)) i (by decide) o ⟨rfl,by decide,by decide⟩ g F (λ_ _ a m hl _ r=>⟨a,m,rfl,r,hl,λ_=>rfl⟩) λ_ _ _ _ _ z=>z
end K45
open PySem PySem.W PyProof.Rows
namespace PySem.W.Fast
def tw7616351497485238476:=()
def tw2385768217787961469:=()
def tw11976119787204926118:=()
def tw17318147435464082243:=()
def tw6216597374606947879:=()
def tw12517689764877948062:=()
def tw5595875121856146058:=()
def tw2155629377539301624:=()
def tw12200462623987210674:=()
def tw10613065755285827371:=()
def tw11787938903013036491:=()
def tw1884037803839620388:=()
def tw4950187015768861377:=()
def tw7199544063155178337:=()
def tw13129936846080208186:=()
def tw16199280134532867389:=()
def tw12714494722407812128:=()
def tw4905518684581987397:=()
def tw17860430214662046246:=()
def tw18170603270040588972:=()
def tw5469892216873636326:=()
def tw7427811690050458526:=()
def tw5150891009975701768:=()
def tw8915858126063288691:=()
def tw1553535347347178140:=()
def tw3867814252987251640:=()
def tw6084492332268134394:=()
def tw8392594779935611649:=()
def tw790538285932678314:=()
def tw943549019330003916:=()
def tw7083672854826234848:=()
def tw7906423519812129310:=()
def tw2507420420803174579:=()
def tw14477937487084822826:=()
def tw14779638761044229943:=()
def tw11842338587197868672:=()
def tw2124543425616134190:=()
def tw10938143400590703972:=()
def tw10058518446433573241:=()
def tw18125350822018520955:=()
def tw10146828340105961062:=()
def tw12673621858453673748:=()
def tw11931663404521023837:=()
def tw1623989221513854521:=()
def tw6464779753671991028:=()
def tw15332232919246423376:=()
def tw8139103703854063738:=()
def tw2291477408478087396:=()
def tw9801411818929385688:=()
def tw8347817186198398006:=()
def tw9941762297293301318:=()
def tw3393975677227690725:=()
def tw6632374469108718018:=()
def tw763135695691433787:=()
def tw1527246931814793053:=()
def tw712129519692891395:=()
def tw15093146639864195919:=()
def tw12865464728844964283:=()
def tw16036002991887562995:=()
def tw16252879142725079052:=()
def tw12963200962167445458:=()
def tw8450419622156462276:=()
def tw5801113350764860853:=()
def tw16022028030192178737:=()
def tw6038706374262861264:=()
def tw17180805526584987082:=()
def tw15524980752730579138:=()
def tw13769062746916822330:=()
def tw4408987602340040425:=()
def tw971937136763369011:=()
def tw4772830433785609802:=()
def tw3730875382902367052:=()
def tw12327609242723193855:=()
def tw9924185592835345929:=()
def tw1207893995044948497:=()
def tw9592619267765646731:=()
def tw6792748481488242609:=()
def tw11968326613876164539:=()
def tw10910059467367233111:=()
def tw4546573541580293992:=()
def tw14461546558129220405:=()
def tw10270511285154045058:=()
def tw3256337265721685270:=()
def tw15076345288563705205:=()
def tw5357488857029005658:=()
def tw9743216929129304763:=()
def tw8077768761732967595:=()
def tw5506931008759304167:=()
def tw14105601687609220575:=()
def tw11099956012715462519:=()
def tw8605680892042695378:=()
def tw11370530647887974285:=()
def tw9494888972047335367:=()
def tw926151618321750956:=()
def tw12917517074799637354:=()
def tw2683388446772902808:=()
def tw4338538658714644475:=()
def tw17748907335023817557:=()
def tw12444401989587965251:=()
def tw3542667709584030781:=()
def tw12863042673772853799:=()
def tw10716444015386651517:=()
def tw2275053976083134275:=()
def tw1800243342607293598:=()
def tw2687701313036649915:=()
def tw14833155312668105045:=()
def tw80797228466802291:=()
def tw13176445896523936369:=()
def tw8891352631819401455:=()
def tw10966135549845143369:=()
def tw10625511105917398870:=()
def tw14656088318164280282:=()
def tw3803196089190450259:=()
def tw8875016509339416251:=()
def tw7958210747847879462:=()
def tw8427300595731377381:=()
def tw6425850467565104880:=()
def tw5761273469091808309:=()
def tw6879869700746367513:=()
def tw17684684613541413081:=()
def tw16628817150577137610:=()
end PySem.W.Fast
set_option maxRecDepth 100000 in
set_option maxHeartbeats 0 in
theorem PySem.Challenge.cw_windchest_k45_knobs_in_force_holds : PySem.Challenge.rw_windchest_k45_knobs_in_force.Holds := by
 w_on; o_law; k_head; (case hw=>w_witness2)
 k_fill
 refine K45.walk (l:=PySem.Challenge.rw_windchest_k45_knobs_in_force) rfl rfl (fun w h Y=>PySem.W.kIn_of Y) ?F
 case F =>
  intro w mg fa h KX G hmg
  refine' K45.fU KX G hmg ?_ ?_ ?_ ?_ ?_ ?_ ?_ ?_ ?_ ?_ ?_ ?_ ?_ ?_ ?_ ?_ ?_ ?_ ?_ ?_ ?_ ?_ ?_ ?_ ?_ ?_ ?_ ?_ ?_ ?_ ?_ ?_ ?_ ?_ ?_ ?_ ?_ ?_ ?_ ?_ ?_ ?_ ?_ ?_ ?_ ?_ ?_ ?_ ?_ ?_ ?_ ?_ ?_ ?_ ?_ ?_ ?_ ?_ ?_ ?_ ?_ ?_ ?_ ?_ ?_ ?_ ?_ ?_ ?_ ?_ ?_ ?_ ?_ ?_ ?_ ?_ ?_ ?_ ?_ ?_ ?_ ?_ ?_ ?_ ?_ ?_ ?_ ?_ ?_ ?_ ?_ ?_ ?_ ?_ ?_ ?_ ?_ ?_ ?_ ?_ ?_ ?_ ?_ ?_ ?_ ?_ ?_ ?_ ?_ ?_ ?_ ?_ ?_ ?_ ?_ ?_ ?_ ?_ ?_ ?_ ?_ ?_ ?_ ?_ ?_ ?_ ?_ ?_ ?_ ?_ ?_ ?_ ?_ ?_ ?_ ?_ ?_ ?_ ?_ ?_ ?_ ?_ ?_ ?_ ?_ ?_ ?_ ?_ ?_ ?_ ?_ ?_ ?_ ?_ ?_ ?_ ?_ ?_ ?_ ?_ ?_ ?_ ?_ ?_ ?_ ?_ ?_ ?_ ?_ ?_ ?_ ?_ ?_ ?_ ?_ ?_ ?_ ?_ ?_ ?_ ?_ ?_ ?_ ?_ ?_ ?_ ?_ ?_ ?_ ?_ ?_ ?_ ?_ ?_ ?_ ?_ ?_ ?_ ?_ ?_ ?_ ?_ ?_ ?_ ?_ ?_ ?_ ?_ ?_ ?_ ?_ ?_ ?_ ?_ ?_ ?_ ?_ ?_ ?_ ?_ ?_ ?_ ?_ ?_ ?_ ?_ ?_ ?_ ?_ ?_ ?_ ?_ ?_ ?_ ?_ ?_ ?_ ?_ ?_ ?_ ?_ ?_ ?_ ?_ ?_ ?_ ?_ ?_ ?_ ?_ ?_ ?_ ?_ ?_ ?_ ?_ ?_ ?_ ?_ ?_ ?_ ?_ ?_ ?_ ?_ ?_ ?_ ?_ ?_ ?_ ?_ ?_ ?_ ?_ ?_ ?_ ?_
  all_goals first | (k_is; done) | (refine' ⟨?a,_,L2.Qd ?l ?c ?k⟩; (case a=>k_is); (case l=>k_is); (case c=>k_is); case k=>k_is) | (refine' ⟨?a,?i,_,L2.Qd ?l ?c ?k⟩; (case a=>k_is); (case i=>k_is); (case l=>k_is); (case c=>k_is); case k=>k_is) | (k_keys; done) | decide | kernel_rfl! | skip
