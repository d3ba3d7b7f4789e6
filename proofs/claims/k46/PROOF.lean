import PyProof.Rows.All
import Wide.All
import OpenK.AllK
import Wide.FinOn
import Lean
import PyProof.EqAt
import PyProof.EqKinds
import PyProof.TupleCall
import PyProof.ZipIter
import PyProof.WalksEnum
import PyProof.EnumMake
import PyProof.NeKinds
import KE.KDictList
import PyProof.Rows.SetFrom
import PyProof.StrWalks
import PyProof.CollectWalk
import PyProof.Rows.SortWalk
import PyProof.Rows.BitMore
import PyProof.Rows.IntCalls
import KE.KRevIter
import PyProof.SetRoads
import OpenK.KTop
import PyProof.Rows.StrWeight2
import PyProof.SumWalk
import PyProof.SliceList
import PyProof.FactsAll.subtypes_4
import PyProof.StationsW
import PyProof.NsDelKeeps
import PyProof.Rows.StrClose
import PyProof.Rows.CatFin
import PyProof.SeqI3
import PyProof.Rows.StrCase
import PyProof.PureStr
import PyProof.IsRules
import PyProof.Rows.SortRunsK
import KE.KSortAsk
import KE.KSortTup
import PySem.Challenge.RW_windchest_k46_whole_pipes_in_turn
theorem U{α}{a:α}:a=a:=rfl
abbrev vSP:=PySem.Value->PySem.Shared->Prop
def ae:=@List.getElem?_eq_getElem
def af:=@List.length_map
def ag:=@List.getElem?_eq_some_iff
def ah:=@List.mem_of_getElem?
def ai:=@List.length_append
def al:=@Nat.le_refl
def am:=@List.getElem?_map
def ar:=@List.mem_map
def av:=@Option.map_eq_some_iff
def ax:=@List.mem_singleton
def ay:=@List.map_map
def aE:=@List.mem_map_of_mem
def aI:=@List.length_singleton
def aS:=@Int.toNat_natCast
def aT:=@Nat.lt_of_le_of_lt
def ba:=@List.mem_cons_of_mem
def bb:=@List.mem_filter
def be:=@Nat.le_trans
def bg:=@List.mem_cons_self
def bi:=@List.getD_eq_getElem?_getD
def bo:=@PySem.boot_len
def bp:=@List.length_cons
def bq:=@List.filter_eq_self
def br:=@Nat.lt_of_lt_of_le
def bt:=@PyProof.Rows.boot_isinstance
def bE:=@List.mem_append
def bX:=@List.size_toArray
def cc:=@List.length_filter_le
def ce:=@List.mem_cons
def cf:=@Nat.ne_of_lt
def ci:=@PySem.F.plainAttrs_list
def cm:=@List.mem_append_right
def cq:=@List.map_append
def cr:=@List.take_add_one
def cw:=@List.map_cons
def cy:=@List.length_take
def db:=@Bool.eq_iff_iff
def dc:=@PySem.F.slot_list_append
def dn:=@PySem.F.type_list_append
def dt:=@List.take_length
def dA:=@List.getElem?_append_right
def dE:=@List.append_nil
def dL:=@PyProof.Rows.boot_list
def dS:=@List.mem_append_left
def eD:=@Nat.succ_le_succ
def eI:=@List.getElem?_eq_none
def eJ:=@Nat.zero_le
def eK:=@List.getElem?_of_mem
def eR:=@List.getElem_mem
def eW:=@Bool.false_ne_true
def fb:=@List.all_eq_true
def fe:=@Nat.eq_of_testBit_eq
def ff:=@PySem.F.slot_dict_get
def fg:=@List.filter_map
def fh:=@List.map_congr_left
def fi:=@Bool.and_eq_true
def fk:=@List.filter_cons
def fo:=@Bool.not_eq_true
def fq:=@List.take_append_of_le_length
def fw:=@List.nodup_cons
def fA:=@List.sum_append
def fE:=@List.filter_append
def fF:=@List.any_eq_true
def fI:=@List.ext_getElem?
def fN:=@List.append_assoc
def fR:=@List.mem_range
def fS:=@List.getElem?_append_left
def fT:=@Nat.le_of_lt
def gc:=@List.take_append_drop
def gd:=@PyProof.Rows.boot_int
def ge:=@List.mem_iff_getElem
def gg:=@List.length_range
def gi:=@List.idxOf_lt_length_of_mem
def gp:=@List.take_of_length_le
def gu:=@Nat.lt_succ_self
def gx:=@Nat.lt_irrefl
def gz:=@List.length_replicate
def gE:=@List.getElem?_zipWith
def gI:=@List.sum_cons
def gL:=@PyProof.Rows.boot_all
def gS:=@List.mem_of_find?_eq_some
def gT:=@List.drop_eq_getElem_cons
def gX:=@List.pairwise_iff_forall_sublist
def hG:=@List.mem_of_mem_take
def hU:=@Option.isSome_iff_exists
def hV:=@Nat.lt_succ_of_lt
def hX:=@List.pairwise_map
def hZ:=@Int.zero_add
def ia:=@PySem.F.plainAttrs_dict
def ib:=@List.map_take
def ic:=@Bool.true_and
def ii:=@PyProof.Rows.boot_tuple
def ij:=@Int.eq_ofNat_of_zero_le
def im:=@Nat.zero_testBit
def io:=@Bool.false_and
def ip:=@Int.natCast_nonneg
def iq:=@Int.emod_lt_of_pos
def ix:=@Nat.ne_of_gt
def iA:=@Nat.not_lt_zero
def iE:=@PyProof.Rows.boot_str
def iF:=@List.nodup_append
def iL:=@Nat.le_succ_of_le
def iN:=@List.getElem?_zipIdx
def iO:=@Nat.pow_le_pow_right
def iP:=@Nat.lt_pow_two_of_testBit
def iS:=@List.nodup_nil
def iX:=@List.lookup_cons
def ja:=@Nat.mod_eq_of_lt
def jp:=@List.length_zipWith
def jv:=@Nat.add_sub_cancel_left
def jI:=@Int.emod_nonneg
def jS:=@PySem.F.slot_dict_getitem.lookup
def ke:=@Nat.le_succ
def kg:=@List.reverse_cons
def ki:=@List.map_id
def ko:=@Nat.lt_trans
def kq:=@PySem.F.type_dict_get
def ku:=@Nat.sub_self
def kx:=@PyProof.Rows.boot_any
def kz:=@PyProof.Rows.boot_min
def kA:=@List.count_cons_of_ne
def kC:=@Nat.mul_le_mul_right
def kD:=@List.any_cons
def kF:=@Option.map_some
def kG:=@List.flatMap_append
def kK:=@Nat.lt_two_pow_self
def kL:=@List.find?_some
def kN:=@List.take_sublist
def kS:=@List.foldl_append
def kT:=@Nat.lt_of_succ_lt
def kU:=@List.flatMap_cons
def kX:=@List.getElem_inj
def lc:=@List.length_drop
def lf:=@Nat.le_add_right
def li:=@List.getElem_map
def lj:=@List.not_mem_nil
def lI:=@List.map_nil
def lP:=@List.any_map
def lT:=@Int.mul_one
theorem ma{p q r:Prop}(h:p):(p∨q)∨r:=.inl (.inl h)
local macro_rules|`(tactic|decide)=>`(tactic|decide +kernel)
local macro_rules | `(tactic| omega) => `(tactic| lia)
set_option Elab.async false
set_option linter.all false
set_option maxRecDepth 100000
noncomputable section
namespace L2
open PySem PySem.Spec PyProof.Rows
variable{n i j t' dr sh m:Nat}{s:Shared}{a C p f y Cy sd b D pE pA z Cp dx aB aP aM hd cK cP cB cS cH cY:Addr}{pos mr g0 px:Pos}{x t qual:Str}{A:Around}{a8:List (Addr×Obj)}{P prog:Program}{E Q:vSP}{e tg iter mw:Expr}{c:Nat->Nat}{u:Value}{h h' base:Heap}{sts:List Nat}{fd:FuncData}{ps ns nms:List Str}{es mn:List Expr}{scope:Scope}{mg:Str->Option Value}{fp:List Addr}{led:Bool}
abbrev Key:=Sum Int Str
def Jw:Key->Value->Bool
 |.inl k,v=>Value.isInt k v
 |.inr x,v=>Value.isStrOf x v
def xX(w:World):Key->Int
 |.inl k=>hashInt k
 |.inr x=>hashStr w x
theorem CV:∀{k:Key}{v:Value},Jw k v=true->(∃i t,k=Sum.inl i/\v=Value.int i t) \/ (∃x t,k=Sum.inr x/\v=Value.str x t)
 |.inl i,v,h=>by
  obtain⟨t,e⟩:=Value.isInt_shape (k:=i) (v:=v) h;exact .inl ⟨i,t,U,e⟩
 |.inr x,v,h=>by
  obtain⟨t,e⟩:=Value.isStrOf_shape (x:=x) (v:=v) h;exact .inr ⟨x,t,U,e⟩
theorem VR(i:Int)(t:Tok):Jw (.inl i) (.int i t)=true:=by simp[Jw,Value.isInt]
theorem U5(x:Str)(t:Tok):Jw (.inr x) (.str x t)=true:=by simp[Jw,Value.isStrOf]
theorem lF(a b:Int):decide ((Sum.inl a:Key)=Sum.inl b)=(a == b):=by
 by_cases e:a=b
 ·subst e;simp
 ·have h:¬ (Sum.inl a:Key)=Sum.inl b:=λq=>e<|Sum.inl.inj q
  rw[decide_eq_false h];exact (beq_eq_false_iff_ne.mpr e).symm
theorem jU(a b:Str):decide ((Sum.inr a:Key)=Sum.inr b)=decide (a=b):=by
 by_cases e:a=b
 ·subst e;simp
 ·have h:¬ (Sum.inr a:Key)=Sum.inr b:=λq=>e<|Sum.inr.inj q
  rw[decide_eq_false h,decide_eq_false e]
theorem gB(a:Int)(b:Str):decide ((Sum.inl a:Key)=Sum.inr b)=false:=decide_eq_false (λq=>nomatch q)
theorem lV(a:Str)(b:Int):decide ((Sum.inr a:Key)=Sum.inl b)=false:=decide_eq_false (λq=>nomatch q)
def Bs(prog:Program)(w:World):PySem.KeyKind prog w Key where
 is:=Jw
 hash:=xX w
 inj:=λv a b ha hb=>by
  rcases CV ha with⟨i,t,rfl,rfl⟩ | ⟨x,t,rfl,rfl⟩
  ·rcases CV hb with⟨j,u,rfl,e⟩ | ⟨y,u,rfl,e⟩
   ·injection e with e1 _;rw[e1]
   ·exact nomatch e
  ·rcases CV hb with⟨j,u,rfl,e⟩ | ⟨y,u,rfl,e⟩
   ·exact nomatch e
   ·injection e with e1 _;rw[e1]
 byValue:=λk v h=>by
  rcases CV h with⟨i,t,rfl,rfl⟩ | ⟨x,t,rfl,rfl⟩ <;> rfl
 pyHash:=λhv h=>by
  rcases CV hv with⟨i,t,rfl,rfl⟩ | ⟨x,t,rfl,rfl⟩
  ·exact wpAny_pyHash_int h
  ·exact wpAny_pyHash_str h
 eqBool:=λhu hv h=>by
  rcases CV hu with⟨i,t,rfl,rfl⟩ | ⟨x,t,rfl,rfl⟩
  ·rcases CV hv with⟨j,u,rfl,rfl⟩ | ⟨y,u,rfl,rfl⟩
   ·rw[lF] at h;exact wpAny_eqBool_int h
   ·rw[gB] at h;exact SeqAt.EqAt.int_str i t y u _ _ _ _ h
  ·rcases CV hv with⟨j,u,rfl,rfl⟩ | ⟨y,u,rfl,rfl⟩
   ·rw[lV] at h;exact SeqAt.EqAt.str_int x t j u _ _ _ _ h
   ·rw[jU] at h;exact wpAny_eqBool_str h
 «strs»:=λk x t v h=>by
  rcases CV h with⟨i,u,rfl,e⟩ | ⟨y,u,rfl,e⟩
  ·exact nomatch e
  ·injection e with e1 _
   subst e1
   cases v <;> rfl
theorem Qj(prog:Program)(w:World)(i:Int)(t:Tok):(Bs prog w).is (.inl i) (.int i t)=true:=VR i t
theorem Ql(prog:Program)(w:World)(x:Str)(t:Tok):(Bs prog w).is (.inr x) (.str x t)=true:=U5 x t
inductive V where
 | non | bl (b:Bool) | int (i:Int) | str (x:Str) | byt (b:Array UInt8) | flt (b:UInt64) | ref (a:Addr) | ty (n:String)
 deriving DecidableEq
def RelV:V->Value->Prop
 |.non,u=>u=Value.none
 |.bl b,u=>u=Value.bool b
 |.int i,u=>∃t,u=Value.int i t
 |.str x,u=>∃t,u=Value.str x t
 |.byt b,u=>∃t,u=Value.bytes b t
 |.flt b,u=>∃t,u=Value.float b t
 |.ref a,u=>u=Value.ref a
 |.ty n,u=>u=Value.type n
abbrev Vals:List V->List Value->Prop:=Paired RelV
theorem Vals.length{xs:List V}{us:List Value}(r:Vals xs us):xs.length=us.length:=Paired.length r
theorem Vals.get:∀{xs:List V}{us:List Value}{i:Nat}{x:V},Vals xs us->xs[i]? = some x->∃u,us[i]? = some u/\RelV x u
 |_,_,_,_,.nil,e=>by simp at e
 |_,_,0,_,.cons r _,e=>by simp at e;subst e;exact⟨_,U,r⟩
 |_,_,i+1,x,.cons _ t,e=>by
  obtain⟨u,a,b⟩:=Vals.get (i:=i) (x:=x) t<|by simpa using e
  exact⟨u,by simpa using a,b⟩
theorem Vals.set{x:V}(r:RelV x u):∀{xs:List V}{us:List Value}(i:Nat),Vals xs us->Vals (xs.set i x) (us.set i u)
 |_,_,_,.nil=>.nil
 |_,_,0,.cons _ t=>.cons r t
 |_,_,i+1,.cons q t=>.cons q<|Vals.set r i t
theorem Vals.append:∀{xs ys:List V}{us ws:List Value},Vals xs us->Vals ys ws->Vals (xs++ys) (us++ws)
 |_,_,_,_,.nil,s=>s
 |_,_,_,_,.cons r t,s=>.cons r<|Vals.append t s
theorem Vals.take:∀{xs:List V}{us:List Value}(n:Nat),Vals xs us->Vals (xs.take n) (us.take n)
 |_,_,0,_=>.nil
 |_,_,_+1,.nil=>.nil
 |_,_,n+1,.cons r t=>.cons r<|Vals.take n t
theorem Vals.drop:∀{xs:List V}{us:List Value}(n:Nat),Vals xs us->Vals (xs.drop n) (us.drop n)
 |_,_,0,r=>r
 |_,_,_+1,.nil=>.nil
 |_,_,n+1,.cons _ t=>Vals.drop n t
def Hk:Option V->Option Value->Prop
 |some v,some u=>RelV v u
 |none,none=>True
 |_,_=>False
def KV{κ:Type}:List (κ×V)->List (κ×Value)->Prop:=Paired λ(p:κ×V) (q:κ×Value)=>p.1=q.1/\RelV p.2 q.2
def kV:Key->V
 |.inl i=>.int i
 |.inr x=>.str x
inductive HO where
 | lst(xs:List V)
 | tup(xs:List V)
 | dK(kvs:List (Key×V)) | dT (kvs:List (List Key×V))
 | set(S:Int->Bool)(n:Nat)
 | ins(C dx:Addr)(fs:List (Str×V))
 | own(x:Addr)
 | xd(fs:List (Str×V))
 | met(f x:Addr)
 | rng(lo hi:Int)
 | frz(o:Obj)(u:HO)
 | tbl(ps:Array Value)
 | ext(φ:Heap->Prop)
variable{kvs kd:List (Key×V)}{xs vs us:List V}{o:HO}
abbrev Hp:=Addr->Option HO
def upd(H:Hp)(a:Addr)(o:HO):Hp:=λb=>if b=a then some o else H b
theorem Aj{H:Hp}:upd H a o a=some o:=by unfold upd;rw[if_pos U]
theorem Aw{H:Hp}(h:b≠a):upd H a o b=H b:=by unfold upd;rw[if_neg h]
theorem d_{H:Hp}{u:HO}(h:H a=some o)(h':H b=some u)(d:o≠u):a≠b:=by
 intro e;subst e;rw[h] at h';exact d<|Option.some.inj h'
theorem Ai{H:Hp}(h:H a=some o)(h':H b=none):a≠b:=by
 intro e;subst e;rw[h] at h';cases h'
section
variable(P:Program)(w:World)
def CW(H:Hp)(h:Heap)(a:Addr):HO->Prop
 |.lst xs=>xs.length<=sizeLine/\∃(its:List Value)(n:Nat),Vals xs its/\h.get? a=some { cls:=.type "list",data:=.seq its.toArray n }
 |.tup xs=>xs.length<=sizeLine/\∃its:List Value,Vals xs its/\IsTup h a its.toArray
 |.dK kvs=>kvs.length<=sizeLine/\(a == sysModules)=false/\∃vs,KV kvs vs/\h.DictOf (Bs P w) a vs
 |.dT kvs=>kvs.length<=sizeLine/\(a == sysModules)=false/\∃xs:List<|List Key×Addr×Value,
   Paired (λ(p:List Key×V) (q:List Key×Addr×Value)=>p.1=q.1/\H q.2.1=some (.tup<|p.1.map kV)/\RelV p.2 q.2.2) kvs xs /\
   ∃o es ep,h.get? a=some o/\o.ExactDict/\o.data=.dict es ep/\es.toList=xs.map (entryOfKey<|tupleKind<|Bs P w)/\(xs.map (·.1)).Nodup
 |.set S n=>h.SetOf (intKind P w) a S n
 |.ins C dx fs=>H dx=some (.own a)/\fs.length<=1000/\dx≠a/\h.get? a=some (W.instObj C dx) /\
   ∃mA,h.Ns1 dx mA/\(∀f,Hk (fs.lookup f)<|mA f)/\PySem.Within mA (fs.map (·.1))
 |.own _=>∃o,h.get? a=some o
 |.xd fs=>∃mA,h.Ns1 a mA/\∀f,Hk (fs.lookup f)<|mA f
 |.rng lo hi=>∃t u v,h.get? a=some { cls:=.type "range",data:=.fields #[.int lo t,.int hi u,.int 1 v] }
 |.frz o u=>h.get? a=some o/\CW H h a u
 |.tbl ps=>h.get? a=some { cls:=.none,data:=.fields ps }
 |.met f x=>h.get? a=some (W.methodObj (.ref f)<|.ref x)
 |.ext φ=>φ h/\(∃o,h.get? a=some o)/\∀h1 h2:Heap,φ h1->(∀o,h1.get? a=some o->h2.get? a=some o)->φ h2
def GQ(H:Hp)(h:Heap):Prop:=∀a o,H a=some o->CW P w H h a o
end
section
variable{w:World}{H H':Hp}
theorem CW.lt(x:CW P w H h a o):a<h.objs.size:=by
 cases o with
 |lst c=>obtain⟨_,_,_,_,e⟩:=x;exact Heap.lt_size e
 |tup c=>obtain⟨_,_,_,p⟩:=x;exact p.lt
 |dK b=>obtain⟨_,_,_,_,o,_,_,e,_⟩:=x;exact Heap.lt_size e
 |dT b=>obtain⟨_,_,_,_,o,_,_,e,_⟩:=x;exact Heap.lt_size e
 |set S n=>obtain⟨o,_,_,_,e,_⟩:=x;exact Heap.lt_size e
 |ins C d fs=>obtain⟨_,_,_,e,_⟩:=x;exact Heap.lt_size e
 |own y=>obtain⟨_,e⟩:=x;exact Heap.lt_size e
 |xd fs=>obtain⟨_,⟨_,_,_,e,_⟩,_⟩:=x;exact Heap.lt_size e
 |rng lo j=>obtain⟨_,_,_,e⟩:=x;exact Heap.lt_size e
 |frz i u=>obtain⟨e,_⟩:=x;exact Heap.lt_size e
 |tbl g=>exact Heap.lt_size (show h.get? a=some _ from x)
 |met f y=>exact Heap.lt_size (show h.get? a=some _ from x)
 |ext φ=>obtain⟨_,⟨_,e⟩,_⟩:=x;exact Heap.lt_size e
theorem Paired.HW{α β:Type}{F G:α->β->Prop}:∀{l₁:List α}{l₂:List β},Paired F l₁ l₂->(∀a b,F a b->G a b)->Paired G l₁ l₂
 |_,_,.nil,_=>.nil
 |_,_,.cons r t,f=>.cons (f _ _ r)<|Paired.HW t f
theorem CW.stay(x:CW P w H h a o)(k:∀b u,(b=a \/ H b=some (.own a))->h.get? b=some u->h'.get? b=some u)
  (G:∀b,H b=some (.own a)->H' b=some (.own a))(E:∀b xs,H b=some (.tup xs)->H' b=some (.tup xs)):CW P w H' h' a o:=by
 induction o with
 |lst xs=>obtain⟨z,l,n,r,e⟩:=x;exact⟨z,l,n,r,k _ _ (.inl U) e⟩
 |tup xs=>obtain⟨z,l,r,g,e,c⟩:=x;exact⟨z,l,r,g,k _ _ (.inl U) e,c⟩
 |dK m=>obtain⟨z,y,F,r,g,i,j,e,c⟩:=x;exact⟨z,y,F,r,g,i,j,k _ _ (.inl U) e,c⟩
 |dT m =>
  obtain⟨z,y,xs,r,g,i,j,e,c⟩:=x;exact⟨z,y,xs,Paired.HW r λp q z=>⟨z.1,E _ _ z.2.1,z.2.2⟩,g,i,j,k _ _ (.inl U) e,c⟩
 |set S n=>obtain⟨g,i,j,t,e,c⟩:=x;exact⟨g,i,j,t,k _ _ (.inl U) e,c⟩
 |ins C K fs =>
  obtain⟨d,z,ne,e,A,⟨s,i,j,I,c⟩,r⟩:=x;exact⟨G _ d,z,ne,k _ _ (.inl U) e,A,⟨s,i,j,k _ _ (.inr d) I,c⟩,r⟩
 |own y=>obtain⟨g,e⟩:=x;exact⟨g,k _ _ (.inl U) e⟩
 |xd fs=>obtain⟨A,⟨s,i,j,e,c⟩,r⟩:=x;exact⟨A,⟨s,i,j,k _ _ (.inl U) e,c⟩,r⟩
 |rng lo J=>obtain⟨t,u,v,e⟩:=x;exact⟨t,u,v,k _ _ (.inl U) e⟩
 |frz g u D=>obtain⟨e,q⟩:=x;exact⟨k _ _ (.inl U) e,D q⟩
 |tbl B =>
  have e:h.get? a=some { cls:=.none,data:=.fields B }:=x;show h'.get? a=some { cls:=.none,data:=.fields B };exact k a _ (.inl U) e
 |met f y =>
  have e:h.get? a=some (W.methodObj (.ref f)<|.ref y):=x;show h'.get? a=some (W.methodObj (.ref f)<|.ref y);exact k a _ (.inl U) e
 |ext φ=>obtain⟨p,⟨o,e⟩,st⟩:=x;exact⟨st _ _ p λo q=>k _ _ (.inl U) q,⟨o,k _ _ (.inl U) e⟩,st⟩
theorem GQ.lt(x:GQ P w H h)(e:H a=some o):a<h.objs.size:=(x a o e).lt
theorem GQ.fresh(x:GQ P w H h)(e:h.objs.size<=a):H a=none:=by
 cases q:H a with
 |none=>rfl
 |some u=>exact absurd (br (x.lt q) e)<|gx _
theorem GQ.kept(x:GQ P w H h)(k:∀b u,h.get? b=some u->h'.get? b=some u):GQ P w H h':=λa o e =>
 (x a o e).stay (λb u _ q=>k b u q) (λ_ q=>q) λ_ _ q=>q
theorem GQ.laid(x:GQ P w H h)(k:∀b u,h.get? b=some u->h'.get? b=some u)(g:h.objs.size<=a)(new:CW P w (upd H a o) h' a o):GQ P w (upd H a o) h':=λb u e=>by
 have f:=x.fresh g;by_cases d:b=a
 ·subst d;rw[Aj] at e;cases e;exact new
 ·rw[Aw d] at e;exact (x b u e).stay (λc v _ q=>k c v q) (λc q=>by rw[Aw (Ai q f)];exact q) λc i q=>by rw[Aw (Ai q f)];exact q
end
def Rd(H:Hp)(a:Addr)(u:HO):Prop:=H a=some u \/ ∃o,H a=some (.frz o u)
theorem Rd.ok{w:World}{H:Hp}{u:HO}(r:Rd H a u)(x:GQ P w H h):CW P w H h a u:=by
 rcases r with r | ⟨o,r⟩
 ·exact x a u r
 ·obtain⟨_,q⟩:=x a _ r;exact q
def qZ:Option HO->Prop
 |some (.lst _)=>True
 |some (.dK _)=>True
 |some (.dT _)=>True
 |some (.set _ _)=>True
 |some (.ins _ _ _)=>True
 |some (.ext _)=>True
 |_=>False
section
variable{w:World}{H:Hp}{x e:Addr}{o':HO}
theorem GQ.write(ok:GQ P w H h)(g:qZ<|H x)(n:e=x \/ H e=some (.own x))(k:∀b u,b≠e->h.get? b=some u->h'.get? b=some u)(o:∃u,h'.get? e=some u)
  (new:CW P w (upd H x o') h' x o'):GQ P w (upd H x o') h':=λb u q=>by
 have d:∀c y,H c=some (.own y)->c≠x:=λc y r z=>by subst z;rw[r] at g;exact g
 have f:∀c i,H c=some (.tup i)->c≠x:=λc i r z=>by subst z;rw[r] at g;exact g
 by_cases l:b=x
 ·subst l;rw[Aj] at q;cases q;exact new
 ·rw[Aw l] at q;by_cases a:b=e
  ·have m:H b=some (.own x):=by
    rcases n with z | z
    ·exact absurd (a.trans z) l
    ·rw[a];exact z
   rw[q] at m;cases m;obtain⟨v,p⟩:=o;exact⟨v,by rw[a];exact p⟩
  ·refine (ok b u q).stay (λc v j r=>k c v ?_ r) (λc r=>by rw[Aw (d c b r)];exact r) λc i r=>by rw[Aw (f c i r)];exact r
   rcases j with rfl | j
   ·exact a
   ·rintro rfl;rcases n with z | z
    ·exact d c b j z
    ·rw[j] at z;cases z;exact l U
end
structure Un(fs ex:List Addr)(H H':Hp)(h h':Heap):Prop where
 keep:∀b o,h.get? b=some o->H b=none->b ∉ fs->b ∉ ex->h'.get? b=some o
 slot:∀b o,h.get? b=some o->H b=none->b∈fs->b ∉ ex->∃sl,h'.get? b=some { o with slots:=sl }
 free:∀b o,h.get? b=some o->H b=none->b ∉ ex->H' b=none
 there:∀b o,h.get? b=some o->b ∉ ex->∃o',h'.get? b=some o'
 tups:∀b xs,H b=some (.tup xs)->H' b=some (.tup xs)
 frzs:∀b o u,H b=some (.frz o u)->H' b=some (.frz o u)
 tbls:∀b ps,H b=some (.tbl ps)->∃more,H' b=some (.tbl<|ps++more)
section
variable{fs rL ex ex':List Addr}{H H1 H2:Hp}{h1 h2:Heap}{x e:Addr}
theorem Un.any(u:Un fs ex H H1 h h1){a:Obj}(q:h.get? b=some a)(n:H b=none)(d:b ∉ ex):∃sl,h1.get? b=some { a with slots:=sl }:=by
 by_cases c:b∈fs
 ·exact u.slot b a q n c d
 ·exact⟨a.slots,u.keep b a q n c d⟩
theorem Un.trans(a:Un fs ex H H1 h h1)(b:Un fs ex H1 H2 h1 h2):Un fs ex H H2 h h2 where
 keep:=λc e q n g d=>b.keep c e (a.keep c e q n g d) (a.free c e q n d) g d
 slot:=λc e q n g d=>by
  obtain⟨r,f⟩:=a.slot c e q n g d;obtain⟨p,j⟩:=b.slot c _ f (a.free c e q n d) g d;exact⟨p,j⟩
 free:=λc e q n d=>by
  obtain⟨k,f⟩:=a.there c e q d;exact b.free c k f (a.free c e q n d) d
 there:=λc e q d=>by
  obtain⟨k,f⟩:=a.there c e q d;exact b.there c k f d
 tups:=λc i q=>b.tups c i<|a.tups c i q
 frzs:=λc e i q=>b.frzs c e i<|a.frzs c e i q
 tbls:=λc m q=>by
  obtain⟨l,f⟩:=a.tbls c m q;obtain⟨o,j⟩:=b.tbls c _ f;exact⟨l++o,by rw[j,Array.append_assoc]⟩
theorem Un.kept(k:∀b u,h.get? b=some u->h'.get? b=some u):Un fs ex H H h h' :=
 ⟨λb a q _ _ _=>k b a q,λb a q _ _ _=>⟨a.slots,k b a q⟩,λ_ _ _ n _=>n,λb a q _=>⟨a,k b a q⟩,λ_ _ q=>q,λ_ _ _ q=>q,λ_ c q=>⟨#[],by rw[q];simp⟩⟩
theorem Un.refl:Un fs ex H H h h:=Un.kept λ_ _ q=>q
theorem Un.laid(k:∀b u,h.get? b=some u->h'.get? b=some u)(e:h.objs.size<=a)(c:H a=none):Un fs ex H (upd H a o) h h' where
 keep:=λb u q _ _ _=>k b u q
 slot:=λb u q _ _ _=>⟨u.slots,k b u q⟩
 free:=λb u q n _=>by rw[Aw (cf<|br (Heap.lt_size q) e)];exact n
 there:=λb u q _=>⟨u,k b u q⟩
 tups:=λb d q=>by rw[Aw (Ai q c)];exact q
 frzs:=λb u d q=>by rw[Aw (Ai q c)];exact q
 tbls:=λb f q=>⟨#[],by rw[Aw (Ai q c),q];simp⟩
theorem Un.write(c:qZ<|H x)(j:e=x \/ H e=some (.own x))(k:∀b u,b≠e->h.get? b=some u->h'.get? b=some u)(i:∃u,h'.get? e=some u):Un fs ex H (upd H x o) h h':=by
 have f:∀b,H b=none->b≠x:=λb n z=>by subst z;rw[n] at c;exact c
 have g:∀b,H b=none->b≠e:=λb n z=>by
  subst z;rcases j with r | r
  ·exact f b n r
  ·rw[n] at r;cases r
 have d:∀b u,H b=some u->¬ qZ (some u)->b≠x:=λb u q l z=>by subst z;rw[q] at c;exact l c
 refine⟨λb u q n _ _=>k b u (g b n) q,λb u q n _ _=>⟨u.slots,k b u (g b n) q⟩,λb u q n _=>by rw[Aw (f b n)];exact n,λb u q _=>?_,
  λb m q=>by rw[Aw (d b _ q λz=>z)];exact q,λb u m q=>by rw[Aw (d b _ q λz=>z)];exact q,λb p q=>⟨#[],by rw[Aw (d b _ q λz=>z),q];simp⟩⟩
 by_cases a:b=e
 ·subst a;exact i
 ·exact⟨u,k b u a q⟩
end
def uo(h:Heap)(H:Hp):List Addr:=(List.range h.objs.size).filter λa=>(H a).isSome
def Pa(h:Heap)(H:Hp):Heap:=W.hideAll h<|uo h H
theorem Vr(h:Heap)(H:Hp):(Pa h H).objs.size=h.objs.size:=W.hideAll_size _ _
variable{H H' H1 Ho H2:Hp}
theorem W6{o:Obj}(e:h.get? b=some o)(n:H b=none):(Pa h H).get? b=some o :=
 W.hideAll_get _ e λa=>by
  have q:(H b).isSome=true:=(bb.mp a).2;rw[n] at q;simp at q
theorem bH{o:Obj}(e:(Pa h H).get? b=some o):h.get? b=some o/\H b=none:=by
 have a:h.get? b=some o:=W.of_hideAll (uo h H) e;refine⟨a,?_⟩
 cases q:H b with
 |none=>rfl
 |some x =>
  have c:b∈uo h H:=List.mem_filter.mpr ⟨List.mem_range.mpr<|Heap.lt_size a,by simp[q]⟩;have z:(Pa h H).get? b=none:=W.hideAll_none (uo h H) c;rw[z] at e;cases e
def cI(g h:Heap)(L:Addr):List<|Addr×Obj:=(List.range h.objs.size).filterMap λa=>if a=L \/ (g.get? a).isSome=true then none else (h.get? a).map λo=>(a,o)
def rest(g h:Heap)(L d:Addr):List<|Addr×Obj:=(cI g h L).filter λp=>decide (p.1≠d)
structure Mod(K:W.Frag)(mg:Str->Option Value)(base:Heap):Prop where
 kin:K.In base
 glob:base.Ns mainGlobals mg
 blt:∃mb,base.Ns builtinsNs mb/\∀x:Str,x≠"__name__"->mb x=bootBuiltins x
 nolimit:base.NoLimit
structure Cx where
 prog:Program
 w:World
 K:W.Frag
 mg:Str->Option Value
 base:Heap
 A:Around
 N:List Str
 s₀:Shared
 H₀:Hp
 env:Env
 outer:List Env
 stack:List Env
 ex:List Addr
 fn:Str->Bool
 calm:Bool
 pn:List<|Addr×Obj
 xe:Value->Shared->Prop
def frs(l:List Env):List Addr:=l.filterMap (·.frame)
abbrev Cx.fs(X:Cx):List Addr:=frs X.outer
def Vis(sc:Scope)(x:Str):Prop:=sc.names.lookup x=some .local \/ sc.names.lookup x=some .cell \/ sc.names.lookup x=some .free
def Loc(sc:Scope)(x:Str):Prop:=sc.names.lookup x=some .local \/ sc.names.lookup x=some .cell
def Look(env:Env)(h:Heap)(m:Str->Option Value)(x:Str)(u:Value):Prop :=
 (env.kindOf x=some .local/\m x=some u) \/ ((env.kindOf x=some .cell \/ env.kindOf x=some .free)/\∃c,env.cells.lookup x=some c/\h.IsCell c (some u))
structure Cx.Ok(X:Cx):Prop where
 mod:Mod X.K X.mg X.base
 kind:X.env.scope.kind=.function
 glob:X.env.globals=mainGlobals
 blt:X.env.builtins=builtinsNs
 above:X.s₀.heap.objs.size<=X.env.locals
 inj:∀x y c,X.env.cells.lookup x=some c->X.env.cells.lookup y=some c->x=y
 has:∀x,(X.env.kindOf x=some .cell \/ X.env.kindOf x=some .free)->∃c,X.env.cells.lookup x=some c
 cab:∀x c,X.fn x=true->X.env.cells.lookup x=some c->X.s₀.heap.objs.size<=c
 hd:X.calm=true->X.A.handled=none
 frames:X.A.frames=some X.stack
 stk:X.stack=X.outer \/ (X.stack=X.env::X.outer/\X.env.frame=some X.env.locals)
 exf:∀b∈X.ex,b≠X.env.locals/\∀x c,X.env.cells.lookup x=some c->c≠b
 bs:∀b o,X.base.get? b=some o->X.s₀.heap.get? b=some o/\X.H₀ b=none
 bsz:X.base.objs.size<=X.s₀.heap.objs.size
 noex:∀b o,X.base.get? b=some o->b ∉ X.ex
 exfs:∀b∈X.ex,b ∉ X.fs
 Kc:X.s₀.heap.FunFrames X.base X.outer
 frf:∀b∈X.fs,X.H₀ b=none
structure Inv(X:Cx)(a8:List<|Addr×Obj)(σ:List<|Option V)(H:Hp)(s:Shared):Prop where
 ok:X.Ok
 os:s.os=X.s₀.os
 bare:AllBare s.gens
 base:Un X.fs X.ex X.H₀ H X.s₀.heap s.heap
 loc:∃m,s.heap.Ns X.env.locals m/\∀(i:Nat)(x:Str)(v:V),X.N[i]? = some x->σ[i]? = some (some v)->Vis X.env.scope x->∃u,RelV v u/\Look X.env s.heap m x u
 cell:∀x c,X.env.cells.lookup x=some c->∃v,s.heap.IsCell c v
 free:H X.env.locals=none
 freeC:∀x c,X.env.cells.lookup x=some c->H c=none
 pin:∀p∈X.pn++a8,s.heap.get? p.1=some p.2/\H p.1=none/\p.1≠X.env.locals/\p.1 ∉ X.fs/\∀v,p.2.data≠.cell v
 hok:GQ X.prog X.w H s.heap
 len:σ.length=X.N.length
section
variable{X:Cx}{σ:List (Option V)}
theorem Cx.Ok.zA(ok:X.Ok){o:Obj}(e:X.base.get? b=some o):b ∉ X.fs:=λa=>by
 have:=(ok.Kc.mem a).1;rw[e] at this;cases this
theorem Inv.bs(I:Inv X a8 σ H s):∀b o,X.base.get? b=some o->s.heap.get? b=some o/\H b=none:=λb o e =>
 ⟨I.base.keep b o (I.ok.bs b o e).1 (I.ok.bs b o e).2 (I.ok.zA e)<|I.ok.noex b o e,I.base.free b o (I.ok.bs b o e).1 (I.ok.bs b o e).2 (I.ok.noex b o e)⟩
theorem Inv.bk(I:Inv X a8 σ H s):∀b o,X.base.get? b=some o->s.heap.get? b=some o:=λb o e=>(I.bs b o e).1
theorem Inv.mod(I:Inv X a8 σ H s):Mod X.K X.mg X.base:=I.ok.mod
theorem Inv.G_(I:Inv X a8 σ H s):X.K.In s.heap:=I.ok.mod.kin.keeps I.bk
theorem Inv.lt(I:Inv X a8 σ H s):X.env.locals<s.heap.objs.size:=let ⟨_,a,_⟩:=I.loc;a.lt
theorem Inv.sz(I:Inv X a8 σ H s):X.s₀.heap.objs.size<=s.heap.objs.size:=be I.ok.above<|fT I.lt
theorem Inv.vy(I:Inv X a8 σ H s)(h:s.heap.objs.size<=a):a ∉ X.fs:=λc=>by
 obtain⟨_,o,b,_⟩:=I.ok.Kc.mem c;exact absurd (br (Heap.lt_size b)<|be I.sz h)<|gx _
theorem Inv.mW(I:Inv X a8 σ H s):∀x c,X.env.cells.lookup x=some c->c≠X.env.locals:=λx c e z=>by
 obtain⟨v,o,b,a⟩:=I.cell x c e;obtain⟨m,⟨i,g,h,f,d,_⟩,_⟩:=I.loc;rw[z,f] at b;cases b;rw[d] at a;cases a
theorem Inv.Kc(I:Inv X a8 σ H s):s.heap.FunFrames X.base X.outer:=by
 have all:∀(l:List Env),(∀b∈frs l,b∈X.fs)->X.s₀.heap.FunFrames X.base l->s.heap.FunFrames X.base l:=by
  intro l
  induction l with
  |nil=>intro _ _;trivial
  |cons n r h =>
   intro f hl;obtain⟨k,⟨L,o,a,j,m,i⟩,g⟩:=hl;have c:L∈X.fs:=f L<|by unfold frs;rw[List.filterMap_cons,a];exact List.mem_cons_self
   obtain⟨p,e⟩:=I.base.slot L o m (I.ok.frf L c) c λz=>I.ok.exfs L z c;exact⟨k,⟨L,_,a,j,e,i⟩,h (λb d=>f b<|by unfold frs;rw[List.filterMap_cons,a];exact List.mem_cons_of_mem _ d) g⟩
 exact all X.outer (λ_ d=>d) I.ok.Kc
theorem Inv.stack(I:Inv X a8 σ H s):s.heap.FunFrames X.base X.stack:=by
 rcases I.ok.stk with e | ⟨e,a⟩
 ·rw[e];exact I.Kc
 ·rw[e];obtain⟨m,b,_⟩:=I.loc;refine .cons (by rw[I.ok.kind];decide) a b ?_ I.Kc;exact Heap.get?_none_of_le<|be I.ok.bsz I.ok.above
theorem Inv.RC(I:Inv X a8 σ H s):∀b∈frs X.stack,b∈X.env.locals::X.fs:=λb a=>by
 rcases I.ok.stk with e | ⟨e,c⟩
 ·rw[e] at a;exact ba _ a
 ·rw[e] at a;unfold frs at a;rw[List.filterMap_cons,c] at a;exact a
theorem Inv.Jd(I:Inv X a8 σ H s):∀b∈frs X.stack,H b=none:=λb a=>by
 rcases ce.mp (I.RC b a) with e | a
 ·rw[e];exact I.free
 ·obtain⟨_,o,c,_⟩:=I.ok.Kc.mem a;exact I.base.free b o c (I.ok.frf b a) λz=>I.ok.exfs b z a
theorem Inv.step{g':Array GenState}{t':Nat}{d':Drawn}{ch:List Addr}(I:Inv X a8 σ H s)
  (C:∀b∈ch,(b∈X.ex \/ X.s₀.heap.objs.size<=b)/\b≠X.env.locals/\(∀x c,X.env.cells.lookup x=some c->c≠b)/\∀p∈X.pn++a8,p.1≠b)
  (keep:∀b o,b≠X.env.locals->b ∉ X.fs->b ∉ ch->s.heap.get? b=some o->H b=none->h'.get? b=some o)
  (t:∀b o,b≠X.env.locals->b∈X.fs->b ∉ ch->s.heap.get? b=some o->H b=none->∃sl,h'.get? b=some { o with slots:=sl })(free:∀b o,b ∉ ch->s.heap.get? b=some o->H b=none->H' b=none)
  (w:∀b o,b ∉ ch->s.heap.get? b=some o->∃o',h'.get? b=some o')
  (B:∀b xs,H b=some (.tup xs)->H' b=some (.tup xs))(F:∀b o u,H b=some (.frz o u)->H' b=some (.frz o u))(G:∀b ps,H b=some (.tbl ps)->∃more,H' b=some (.tbl<|ps++more))
  (ns:∀m,s.heap.Ns X.env.locals m->h'.Ns X.env.locals m) (J:GQ X.prog X.w H' h') (Q:AllBare g') :
  Inv X a8 σ H' { s with heap:=h',gens:=g',drawn:=d',toks:=t' }:=by
 have E:∀b o,X.s₀.heap.get? b=some o->b≠X.env.locals:=λb o e=>cf<|br (Heap.lt_size e) I.ok.above
 have h:∀b o,X.s₀.heap.get? b=some o->b ∉ X.ex->b ∉ ch:=λb o e a y=>by
  rcases (C b y).1 with z | z
  ·exact a z
  ·exact absurd (br (Heap.lt_size e) z)<|gx _
 have g:∀x c,X.env.cells.lookup x=some c->∀v,s.heap.IsCell c v->h'.IsCell c v:=λx c e v ⟨o,A,K⟩=>by
  have f:c ∉ ch:=λz=>(C c z).2.2.1 x c e U;by_cases M:c∈X.fs
  ·obtain⟨sl,q⟩:=t c o (I.mW x c e) M f A<|I.freeC x c e;exact⟨_,q,K⟩
  ·exact⟨o,keep c o (I.mW x c e) M f A<|I.freeC x c e,K⟩
 refine⟨I.ok,I.os,Q,⟨λb o e n y a=>?_,λb o e n y a=>?_,λb o e n a=>?_,λb o e a=>?_,λb xs e=>B b xs<|I.base.tups b xs e,λb o xs e=>F b o xs<|I.base.frzs b o xs e,λb ps e=>?_⟩,?_,λx c e=>?_,?_,λx c e=>?_,λp N=>?_,J,I.len⟩
 ·exact keep b o (E b o e) y (h b o e a) (I.base.keep b o e n y a)<|I.base.free b o e n a
 ·obtain⟨sl,j⟩:=I.base.slot b o e n y a;obtain⟨T,D⟩:=t b _ (E b o e) y (h b o e a) j<|I.base.free b o e n a;exact⟨T,D⟩
 ·obtain⟨o',j⟩:=I.base.there b o e a;exact free b o' (h b o e a) j<|I.base.free b o e n a
 ·obtain⟨o',j⟩:=I.base.there b o e a;exact w b o' (h b o e a) j
 ·obtain⟨R,j⟩:=I.base.tbls b ps e;obtain⟨P,D⟩:=G b _ j;exact⟨R++P,by rw[D,Array.append_assoc]⟩
 ·obtain⟨m,S,hl⟩:=I.loc;refine⟨m,ns m S,λi x v j D O=>?_⟩;obtain⟨u,r,l⟩:=hl i x v j D O;refine⟨u,r,?_⟩;rcases l with l | ⟨k,c,e,z⟩
  ·exact .inl l
  ·exact .inr ⟨k,c,e,g x c e _ z⟩
 ·obtain⟨v,z⟩:=I.cell x c e;exact⟨v,g x c e v z⟩
 ·obtain⟨m,⟨o,_,_,A,_⟩,_⟩:=I.loc;exact free _ o (λz=>(C _ z).2.1 rfl) A I.free
 ·obtain⟨v,o,A,K⟩:=I.cell x c e;exact free c o (λz=>(C c z).2.2.1 x c e U) A<|I.freeC x c e
 ·obtain⟨e,n,ne,L,d⟩:=I.pin p N;have f:p.1 ∉ ch:=λz=>(C p.1 z).2.2.2 p N U;exact⟨keep p.1 p.2 ne L f e n,free p.1 p.2 f e n,ne,L,d⟩
theorem Inv.un{t':Nat}(I:Inv X a8 σ H s)(u:Un X.fs [] H H' s.heap h')(a:GQ X.prog X.w H' h'):Inv X a8 σ H' { s with heap:=h',toks:=t' }:=by
 obtain⟨m,⟨o,p,v,g,r⟩,_⟩:=id I.loc;obtain⟨t,k⟩:=u.any g I.free<|by simp
 exact I.step (g':=s.gens) (d':=s.drawn) (ch:=[]) (λ_ z=>nomatch z) (λb o _ d _ e n=>u.keep b o e n d<|by simp) (λb o _ d _ e n=>u.slot b o e n d<|by simp) (λb o _ e n=>u.free b o e n<|by simp) (λb o _ e=>u.there b o e<|by simp) u.tups u.frzs u.tbls (λl h=>by
  obtain⟨q,c,i,f,j⟩:=h;rw[g] at f;cases f;exact⟨_,c,i,k,j⟩) a I.bare
theorem Inv.call{g':Array GenState}{t':Nat}{d':Drawn}{ch:List Addr}(I:Inv X a8 σ H s)(u:Un (frs X.stack) ch H H' s.heap h')(d:GQ X.prog X.w H' h')(t:AllBare g')
  (h:∀b∈ch,(b∈X.ex \/ X.s₀.heap.objs.size<=b)/\b≠X.env.locals/\(∀x c,X.env.cells.lookup x=some c->c≠b)/\∀p∈X.pn++a8,p.1≠b) :
  Inv X a8 σ H' { s with heap:=h',gens:=g',drawn:=d',toks:=t' }:=by
 obtain⟨m,⟨o,y,C,j,r⟩,_⟩:=id I.loc;obtain⟨B,f⟩:=u.any j I.free λz=>(h _ z).2.1 rfl;exact I.step (ch:=ch) h (λb o f v a e n=>u.keep b o e n (λz=>(ce.mp<|I.RC b z).elim f v) a) (λb o _ _ a e n=>u.any e n a) (λb o a e n=>u.free b o e n a) (λb o a e=>u.there b o e a) u.tups u.frzs u.tbls (λw k=>by
  obtain⟨A,g,l,i,q⟩:=k;rw[j] at i;cases i;exact⟨_,g,l,f,q⟩) d t
theorem Inv.turned{t':Nat}{a:Addr}(I:Inv X a8 σ H s)(k:∀b o,b≠a->s.heap.get? b=some o->h'.get? b=some o)(t:H a=none)(g:a≠X.env.locals)
  (h:a∈X.ex \/ X.s₀.heap.objs.size<=a)(w:∀x c,X.env.cells.lookup x=some c->c≠a)(B:∀p∈X.pn++a8,p.1≠a):Inv X a8 σ H { s with heap:=h',toks:=t' }:=by
 have f:∀b u,H b=some u->b≠a:=λb u e z=>by rw[z,t] at e;cases e
 refine I.step (g':=s.gens) (d':=s.drawn) (ch:=[a]) (λb A=>?_) (λb o _ _ d e _=>k b o (λz=>d<|by simp[z]) e) (λb o _ _ d e _=>⟨o.slots,k b o (λz=>d<|by simp[z]) e⟩) (λ_ _ _ _ n=>n)
  (λb o d e=>⟨o,k b o (λz=>d<|by simp[z]) e⟩) (λ_ _ e=>e) (λ_ _ _ e=>e) (λb C e=>⟨#[],by rw[e];simp⟩) (λm i=>?_) (λb u e=>?_) I.bare
 ·have e:b=a:=by simpa using A
  subst e;exact⟨h,g,w,B⟩
 ·obtain⟨o,j,l,y,r⟩:=i;exact⟨o,j,l,k _ o (Ne.symm g) y,r⟩
 ·refine (I.hok b u e).stay (λc v d q=>k c v ?_ q) (λ_ q=>q) λ_ _ q=>q;rcases d with z | z
  ·rw[z];exact f b u e
  ·exact f c _ z
theorem Inv.tok(I:Inv X a8 σ H s)(t:Nat):Inv X a8 σ H { s with toks:=t }:=I.un (h':=s.heap) (t':=t) Un.refl I.hok
theorem Inv.kept{t':Nat}(I:Inv X a8 σ H s)(k:∀b u,s.heap.get? b=some u->h'.get? b=some u):Inv X a8 σ H { s with heap:=h',toks:=t' }:=I.un (Un.kept k)<|I.hok.kept k
theorem Inv.laid{t':Nat}(I:Inv X a8 σ H s)(k:∀b u,s.heap.get? b=some u->h'.get? b=some u)(c:s.heap.objs.size<=a)(new:CW X.prog X.w (upd H a o) h' a o) :
  Inv X a8 σ (upd H a o) { s with heap:=h',toks:=t' }:=I.un (Un.laid k c<|I.hok.fresh c)<|I.hok.laid k c new
theorem Inv.write{x e:Addr}{t':Nat}(I:Inv X a8 σ H s)(a:qZ<|H x)(d:e=x \/ H e=some (.own x))(k:∀b u,b≠e->s.heap.get? b=some u->h'.get? b=some u)(c:∃u,h'.get? e=some u)
  (new:CW X.prog X.w (upd H x o) h' x o):Inv X a8 σ (upd H x o) { s with heap:=h',toks:=t' }:=I.un (Un.write a d k c)<|I.hok.write a d k c new
theorem Inv.Uw{a:List (Addr×Obj)}(I:Inv X a8 σ H s)(h:∀p∈a,s.heap.get? p.1=some p.2/\H p.1=none/\p.1≠X.env.locals/\p.1 ∉ X.fs/\∀v,p.2.data≠.cell v):Inv X a σ H s :=
 ⟨I.ok,I.os,I.bare,I.base,I.loc,I.cell,I.free,I.freeC,λp b=>(bE.mp b).elim (λz=>I.pin p<|dS _ z)<|h p,I.hok,I.len⟩
theorem Qu{N:List Str}(c:N.Nodup)(a:N[i]? = some x)(b:N[j]? = some x):i=j:=by
 obtain⟨f,e⟩:=ag.mp a;obtain⟨g,d⟩:=ag.mp b;exact (kX c).mp<|e.trans d.symm
theorem Nf{M:Model}{v:V}{Q:Unit->Shared->Prop}(I:Inv X a8 σ H s)(hN:X.N.Nodup)(hi:X.N[i]? = some x)(w:Loc X.env.scope x)(r:RelV v u)
  (h:∀s',Inv X a8 (σ.set i<|some v) H s'->(∃a,Heap.SameBut a s.heap s'.heap/\(a=X.env.locals \/ X.env.cells.lookup x=some a))->Q () s')(hf:X.fn x=true \/ X.env.scope.names.lookup x=some .local:=by first | exact .inl rfl | exact .inr rfl | assumption):wpAny M A (storeName X.env x u) Q E s:=by
 obtain⟨m,hn,hl⟩:=id I.loc;have K:(X.env.scope.kind == .class || (X.env.scope.kind == .module && X.env.locals != X.env.globals))=false:=by rw[I.ok.kind];rfl
 have N:i<σ.length:=by rw[I.len];exact (ag.mp hi).1
 have mW:=I.mW;have l:∀{a:Addr}{J:Heap},(∃o,s.heap.get? a=some o/\H a=none)->Heap.SameBut a s.heap J->GQ X.prog X.w H J:=λ{a J} ha f b ob e=>by
  obtain⟨_,_,B⟩:=ha;refine (I.hok b ob e).stay (λc R t q=>(f.2 c ?_).trans q) (λ_ q=>q) λ_ _ q=>q;rintro rfl;rcases t with rfl | t
  ·rw[B] at e;cases e
  ·rw[B] at t;cases t
 rcases w with D | D
 ·refine wpAny_storeName_local D hn (λJ ab f=>?_) K;obtain⟨oL,_,_,ac,_⟩:=id hn;refine h _ ⟨I.ok,I.os,I.bare,⟨λb o e n G w=>?_,λb o e n G w=>?_,I.base.free,λb o e w=>?_,I.base.tups,I.base.frzs,I.base.tbls⟩,⟨_,ab,λj y Z g C W=>?_⟩,λy c e=>?_,I.free,I.freeC,λp hp=>?_,l ⟨oL,ac,I.free⟩ f,by simpa using I.len⟩ ⟨_,f,.inl U⟩
  ·exact (f.2 b<|cf<|br (Heap.lt_size e) I.ok.above).trans<|I.base.keep b o e n G w
  ·obtain⟨sl,g⟩:=I.base.slot b o e n G w;exact⟨sl,(f.2 b<|cf<|br (Heap.lt_size e) I.ok.above).trans g⟩
  ·obtain⟨T,g⟩:=I.base.there b o e w;exact⟨T,(f.2 b<|cf<|br (Heap.lt_size e) I.ok.above).trans g⟩
  ·by_cases F:j=i
   ·subst F;rw[hi] at g;cases g;rw[List.getElem?_set_self N] at C
    cases C;exact⟨u,r,.inl ⟨D,by simp⟩⟩
   ·rw[List.getElem?_set_ne (Ne.symm F)] at C;obtain⟨Y,r',q⟩:=hl j y Z g C W;refine⟨Y,r',?_⟩;rcases q with⟨k,e⟩ | ⟨k,c,e,z⟩
    ·refine .inl ⟨k,?_⟩;have:y≠x:=λe=>F<|Qu hN g<|e ▸ hi
     simp[this,e]
    ·exact .inr ⟨k,c,e,z.sameBut f<|mW y c e⟩
  ·obtain⟨R,z⟩:=I.cell y c e;exact⟨R,z.sameBut f<|mW y c e⟩
  ·obtain⟨e,n,ne,nf,d⟩:=I.pin p hp;exact⟨(f.2 p.1 ne).trans e,n,ne,nf,d⟩
 ·have Xt:X.fn x=true:=by
   rcases hf with z | z
   ·exact z
   ·rw[z] at D;cases D
  obtain⟨c,t⟩:=I.ok.has x<|.inl D;obtain⟨R,z⟩:=I.cell x c t;refine wpAny_storeName_cell I.ok.kind D t z<|λJ P f=>?_
  obtain⟨oc,L,RY⟩:=id z;refine h { s with heap:=J } ⟨I.ok,I.os,I.bare,⟨λb o e n G w=>?_,λb o e n G w=>?_,I.base.free,λb o e w=>?_,I.base.tups,I.base.frzs,I.base.tbls⟩,⟨m,hn.sameBut f<|Ne.symm<|mW x c t,λj y Z g C W=>?_⟩,λy S e=>?_,I.free,I.freeC,λp hp=>?_,l ⟨oc,L,I.freeC x c t⟩ f,by simpa using I.len⟩ ⟨c,f,.inr t⟩
  ·exact (f.2 b<|cf<|br (Heap.lt_size e)<|I.ok.cab x c Xt t).trans<|I.base.keep b o e n G w
  ·obtain⟨sl,g⟩:=I.base.slot b o e n G w;exact⟨sl,(f.2 b<|cf<|br (Heap.lt_size e)<|I.ok.cab x c Xt t).trans g⟩
  ·obtain⟨T,g⟩:=I.base.there b o e w;exact⟨T,(f.2 b<|cf<|br (Heap.lt_size e)<|I.ok.cab x c Xt t).trans g⟩
  ·by_cases F:j=i
   ·subst F;rw[hi] at g;cases g;rw[List.getElem?_set_self N] at C
    cases C;exact⟨u,r,.inr ⟨.inl D,c,t,P⟩⟩
   ·rw[List.getElem?_set_ne (Ne.symm F)] at C;obtain⟨Y,r',q⟩:=hl j y Z g C W;refine⟨Y,r',?_⟩;rcases q with q | ⟨k,S,e,z'⟩
    ·exact .inl q
    ·refine .inr ⟨k,S,e,z'.sameBut f ?_⟩;rintro rfl;exact F<|Qu hN g<|I.ok.inj _ _ _ e t ▸ hi
  ·by_cases O:S=c
   ·subst O;exact⟨_,P⟩
   ·obtain⟨w2,z2⟩:=I.cell y S e;exact⟨w2,z2.sameBut f O⟩
  ·obtain⟨e,n,ne,nf,d⟩:=I.pin p hp;refine⟨(f.2 p.1 ?_).trans e,n,ne,nf,d⟩;intro q;rw[q,L] at e;have q':oc=p.2:=Option.some.inj e;exact d R<|by rw[<-q'];exact RY
theorem Ma{M:Model}{v:V}{Q:Unit->Shared->Prop}(I:Inv X a8 σ H s)(a:X.N.Nodup)(hi:X.N[i]? = some x)(b:Loc X.env.scope x)(r:RelV v u)
  (h:∀s',Inv X a8 (σ.set i<|some v) H s'->Q () s')(d:X.fn x=true \/ X.env.scope.names.lookup x=some .local:=by first | exact .inl rfl | exact .inr rfl | assumption):wpAny M A (storeName X.env x u) Q E s :=
 Nf I a hi b r (λs' c _=>h s' c) d
theorem Inv.call'{s':Shared}{ch:List Addr}(I:Inv X a8 σ H s)(f:s'.os=s.os)(u:Un (frs X.stack) ch H H' s.heap s'.heap)(a:GQ X.prog X.w H' s'.heap)(g:AllBare s'.gens)
  (d:∀b∈ch,(b∈X.ex \/ X.s₀.heap.objs.size<=b)/\b≠X.env.locals/\(∀x c,X.env.cells.lookup x=some c->c≠b)/\∀p∈X.pn++a8,p.1≠b):Inv X a8 σ H' s':=by
 obtain⟨i,g',d',t',h⟩:=s';have e:h=s.os:=f;subst e;exact I.call (g':=g') (t':=t') (d':=d') u a g d
end
abbrev XK:=Value->Option Addr->Hp->Prop
abbrev St:=List<|Option V
abbrev VK:=V->Hp->Prop
abbrev TE:=St->Hp->VK->Prop
variable{X:Cx}{σ:St}{te ta:TE}
abbrev TT:=St->Hp->(Bool->Hp->Prop)->Prop
abbrev TA:=St->Hp->(List V->Hp->Prop)->Prop
structure Ends where
 nx:St->Hp->Prop
 rt:VK
 bk:St->Hp->Prop:=λ_ _=>False
 ct:St->Hp->Prop:=λ_ _=>False
abbrev TS:=Ends->St->Hp->Prop
inductive EP(X:Cx)(a8:List<|Addr×Obj)(σ:St)(Q:VK)(u:Value)(s':Shared):Prop
 | mk(v H':_):Inv X a8 σ H' s'->RelV v u->Q v H'->EP X a8 σ Q u s'
inductive TP(X:Cx)(a8:List<|Addr×Obj)(σ:St)(Q:Bool->Hp->Prop)(b:Bool)(s':Shared):Prop
 | mk(H':_):Inv X a8 σ H' s'->Q b H'->TP X a8 σ Q b s'
inductive AP(X:Cx)(a8:List<|Addr×Obj)(σ:St)(Q:List V->Hp->Prop)(us:List Value)(s':Shared):Prop
 | mk(vs H':_):Inv X a8 σ H' s'->Vals vs us->Q vs H'->AP X a8 σ Q us s'
def SP(X:Cx)(a8:List<|Addr×Obj)(D:Ends)(f:Flow)(s':Shared):Prop :=
 match f with
 |.next=>∃σ' H',Inv X a8 σ' H' s'/\D.nx σ' H'
 |.brk=>∃σ' H',Inv X a8 σ' H' s'/\D.bk σ' H'
 |.cont=>∃σ' H',Inv X a8 σ' H' s'/\D.ct σ' H'
 |.ret u=>∃v σ' H',Inv X a8 σ' H' s'/\RelV v u/\D.rt v H'
def PE(X:Cx)(e:Expr)(t:TE):Prop :=
 ∀(a8:List<|Addr × Obj)(s:Shared)(σ:St)(H:Hp)(Q:VK),Inv X a8 σ H s->t σ H Q->wpAny (model X.prog X.w) X.A (eval e X.env) (EP X a8 σ Q) X.xe s
def PT(X:Cx)(e:Expr)(t:TT):Prop :=
 ∀(a8:List<|Addr × Obj)(s:Shared)(σ:St)(H:Hp)(Q:Bool->Hp->Prop),Inv X a8 σ H s->t σ H Q->wpAny (model X.prog X.w) X.A (isTrue e X.env<|eval e X.env) (TP X a8 σ Q) X.xe s
def PW(X:Cx)(e:Expr)(t:TT):Prop :=
 ∀(oI:Sem Value)(a8:List<|Addr × Obj)(s:Shared)(σ:St)(H:Hp)(Q:Bool->Hp->Prop),Inv X a8 σ H s->t σ H Q->wpAny (model X.prog X.w) X.A (isTrue e X.env oI) (TP X a8 σ Q) X.xe s
theorem PW.pt{t:TT}(h:PW X e t):PT X e t:=h _
def PA(X:Cx)(es:List Expr)(t:TA):Prop :=
 ∀(pos:Pos)(a8:List<|Addr × Obj)(s:Shared)(σ:St)(H:Hp)(Q:List V->Hp->Prop),Inv X a8 σ H s->t σ H Q->wpAny (model X.prog X.w) X.A (spliced<|backTo pos<|starEach es X.env) (AP X a8 σ Q) X.xe s
def PS(X:Cx)(st:Stmt)(t:TS):Prop :=
 ∀(a8:List<|Addr × Obj)(s:Shared)(σ:St)(H:Hp)(D:Ends),Inv X a8 σ H s->t D σ H->wpAny (model X.prog X.w) X.A (exec st X.env) (SP X a8 D) X.xe s
def PN(X:Cx)(st:List Stmt)(t:TS):Prop :=
 ∀(a8:List<|Addr × Obj)(s:Shared)(σ:St)(H:Hp)(D:Ends),Inv X a8 σ H s->t D σ H->wpAny (model X.prog X.w) X.A (execs st X.env) (SP X a8 D) X.xe s
theorem CT{α:Type}{t:Sem α}{Q b:α->Shared->Prop}{M:Model}(h:wpAny M A t Q E s)(c:∀a s,Q a s->b a s):wpAny M A t b E s:=wpAny_mono h c λ_ _ x=>x
section
inductive Uy(i:Nat)(σ:St)(H:Hp)(Q:VK):Prop
 | mk(v:_):σ[i]? = some (some v)->Q v H->Uy i σ H Q
def tC(v:V):TE:=λ_ H Q=>Q v H
theorem jY(k:X.N[i]? = some x)(g:Vis X.env.scope x)(d:(x == ("__debug__" : Str))=false:=by decide)(n:(x == ("__classdict__" : Str))=false:=by decide):PE X (.Name x pos)<|Uy i:=by
 intro p s σ H Q I h;obtain⟨v,e,h⟩:=h;obtain⟨m,o,hl⟩:=I.loc;obtain⟨u,r,l⟩:=hl i x v k e g;have fin:EP X p σ Q u s:=⟨v,H,I,r,h⟩;rcases l with⟨b,j⟩ | ⟨b,c,f,a⟩
 ·exact wpAny_Name (wpAny_loadName_local I.ok.kind b o j fin) d
 ·rcases b with b | b
  ·exact wpAny_Name (wpAny_loadName_cell I.ok.kind b f a fin) d
  ·exact wpAny_Name (wpAny_loadName_free I.ok.kind b f a fin n) d
theorem Ac {i j pos}:PE X (.Constant (.int i) j pos)<|tC<|.int i:=λ_ _ _ H _ I h=>wpAny_Constant_int ⟨.int i,H,I.tok _,⟨_,U⟩,h⟩
theorem FN {b j pos}:PE X (.Constant (.bool b) j pos)<|tC<|.bl b:=λ_ _ _ H _ I h=>Constant_bool ⟨.bl b,H,I,U,h⟩
theorem GC {j pos}:PE X (.Constant .none j pos)<|tC .non:=λ_ _ _ H _ I h=>Constant_none ⟨.non,H,I,U,h⟩
theorem BP {x j pos}:PE X (.Constant (.str x) j pos)<|tC<|.str x:=λ_ _ _ H _ I h=>Calls.Constant_str ⟨.str x,H,I.tok _,⟨_,U⟩,h⟩
def Gl(X:Cx)(x:Str):Prop:=X.env.kindOf x=some .globalImplicit
theorem Jz(I:Inv X a8 σ H s)(b:Gl X x)(c:X.mg x=some u)(h:Q u s)
  (a:(x == ("__debug__" : Str))=false:=by decide):wpAny (model X.prog X.w) X.A (eval (.Name x pos) X.env) Q E s :=
 Calls.Name_function_global I.ok.kind b (Calls.loadGlobal_global (by rw[I.ok.glob];exact I.mod.glob.keeps I.bk) c h) a
theorem Ib(I:Inv X a8 σ H s)(g:Gl X x)(d:X.mg x=none)(b:bootBuiltins x=some u)(h:Q u s)
  (c:x≠"__name__":=by decide)(e:(x == ("__debug__" : Str))=false:=by decide):wpAny (model X.prog X.w) X.A (eval (.Name x pos) X.env) Q E s:=by
 obtain⟨i,a,f⟩:=I.mod.blt;exact Calls.Name_function_global I.ok.kind g (Calls.loadGlobal_builtin (by rw[I.ok.glob];exact I.mod.glob.keeps I.bk) d (by rw[I.ok.blt];exact a.keeps I.bk) ((f x c).trans b) h) e
theorem Cu{v:V}(c:Gl X x)(a:X.mg x=some u)(r:RelV v u)(b:(x == ("__debug__" : Str))=false:=by decide):PE X (.Name x pos) (tC v) :=
 λ_ _ _ H _ I h=>Jz I c a ⟨v,H,I,r,h⟩ b
theorem Ea{v:V}(e:Gl X x)(c:X.mg x=none)(a:bootBuiltins x=some u)(r:RelV v u)(b:x≠"__name__":=by decide)(d:(x == ("__debug__" : Str))=false:=by decide):PE X (.Name x pos) (tC v) :=
 λ_ _ _ H _ I h=>Ib I e c a ⟨v,H,I,r,h⟩ b d
variable{a b:Expr}{tb:TE}
def PC(X:Cx)(op:CmpOp)(a b:Expr)(t:TE):Prop :=
 ∀(a8:List<|Addr × Obj)(s:Shared)(σ:St)(H:Hp)(Q:VK),Inv X a8 σ H s->t σ H Q ->
  wpAny (model X.prog X.w) X.A (eval a X.env) (λv s₁=>wpAny (model X.prog X.w) X.A (eval b X.env) (λu s₂=>wpAny (model X.prog X.w) X.A (compareOp op v u) (EP X a8 σ Q) X.xe s₂) X.xe s₁) X.xe s
inductive tBX(Q:Bool->Hp->Prop)(x:V)(H1:Hp):Prop
 | mk(c:_):x=.bl c->Q c H1->tBX Q x H1
def tB(t:TE):TT:=λσ H Q=>t σ H λx H1=>tBX Q x H1
theorem Xx{c:CmpOp}{t:TE}(h:PC X c a b t)(d:behindInMarks c b=false:=by first | exact nobehind _ (by decide) (by decide) | rfl):PE X (.Compare a [c] [b] pos) t:=λe s σ H Q I f=>wpAny_Compare1 (h e s σ H Q I f) d
theorem R_{f:CmpOp}{t:TE}(h:PC X f a b t)(e:behindInMarks f b=false:=by first | exact nobehind _ (by decide) (by decide) | rfl):PT X (.Compare a [f] [b] pos)<|tB t:=by
 intro i s σ H Q I l;refine wpAny_isTrue_Compare1 (CT (h i s σ H _ I l) λv p e=>CT e λu o n=>CT n λc r ⟨x,g,j,m,k⟩=>?_) e;obtain⟨d,rfl,q⟩:=k
 cases m;exact wpAny_truthy_bool ⟨g,j,q⟩
theorem Cq{t:TE}(h:PE X e t)(i:∀oI,isTrue e X.env oI=(do let v <-oI;standAt e.pos;holding [v] (truthy v)):=by intro _;rfl):PT X e<|tB t:=by
 intro b s σ H Q I g;refine isTrue_plain (CT (h b s σ H _ I g) λv k ⟨x,a,c,j,f⟩=>?_)<|i _
 obtain⟨d,rfl,q⟩:=f
 cases j;exact wpAny_truthy_bool ⟨a,c,q⟩
variable{tA N2:TT}{rest:List Expr}
def vh(t u:TT):TT:=λσ H Q=>t σ H λc H1=>if c=true then u σ H1 Q else Q false H1
def tOr(t u:TT):TT:=λσ H Q=>t σ H λc H1=>if c=true then Q true H1 else u σ H1 Q
def wR(t:TT):TT:=λσ H Q=>t σ H λc H1=>Q (!c) H1
theorem K5(b:PT X a tA):PW X (.BoolOp .And [a] pos) tA:=by
 intro f d s σ H Q I h;refine isTrue_and<|CT (b d s σ H Q I h) λc g e=>?_
 cases c with
 |true=>exact isTrue_and_nil e
 |false=>exact e
theorem EY(b:PT X a tA):PW X (.BoolOp .Or [a] pos) tA:=by
 intro f d s σ H Q I h;refine isTrue_or<|CT (b d s σ H Q I h) λc g e=>?_
 cases c with
 |false=>exact isTrue_or_nil e
 |true=>exact e
theorem Oo(m:PT X a tA)(l:PW X (.BoolOp .And (b::rest) pos) N2):PW X (.BoolOp .And (a::b::rest) pos)<|vh tA N2:=by
 intro i g s σ H Q I h;refine isTrue_and<|CT (m g s σ H _ I h) λc j k=>?_
 obtain⟨d,e,f⟩:=k
 cases c with
 |true=>exact l i g j σ d Q e f
 |false=>exact⟨d,e,f⟩
theorem El(m:PT X a tA)(l:PW X (.BoolOp .Or (b::rest) pos) N2):PW X (.BoolOp .Or (a::b::rest) pos)<|tOr tA N2:=by
 intro i g s σ H Q I h;refine isTrue_or<|CT (m g s σ H _ I h) λc j k=>?_
 obtain⟨d,e,f⟩:=k
 cases c with
 |true=>exact⟨d,e,f⟩
 |false=>exact l i g j σ d Q e f
theorem Ce(f:PT X a tA):PT X (.UnaryOp .Not a pos)<|wR tA:=by
 intro g s σ H Q I h;exact isTrue_not<|CT (f g s σ H (λc b=>Q (!c) b) I h) λc i ⟨b,d,e⟩=>⟨b,d,e⟩
inductive ZP(tb:TE)(σ:St)(Q:VK)(x:V)(H1:Hp):Prop
 | mk(c:_):x=.bl c->(if c=true then tb σ H1 Q else Q (.bl false) H1)->ZP tb σ Q x H1
def tQ(ta tb:TE):TE:=λσ H Q=>ta σ H λx H1=>ZP tb σ Q x H1
inductive dI(tb:TE)(σ:St)(Q:VK)(x:V)(H1:Hp):Prop
 | mk(c:_):x=.bl c->(if c=true then Q (.bl true) H1 else tb σ H1 Q)->dI tb σ Q x H1
def yh(ta tb:TE):TE:=λσ H Q=>ta σ H λx H1=>dI tb σ Q x H1
inductive X3(Q:VK)(x:V)(H1:Hp):Prop
 | mk(c:_):x=.bl c->Q (.bl (!c)) H1->X3 Q x H1
def tD(ta:TE):TE:=λσ H Q=>ta σ H λx H1=>X3 Q x H1
theorem Ds {op} {t:TE} (h:PE X a t):PE X (.BoolOp op [a] pos) t:=λb s σ H Q I c=>BoolOp_one<|h b s σ H Q I c
theorem D_(m:PE X a ta)(l:PE X (.BoolOp .And (b::rest) pos) tb):PE X (.BoolOp .And (a::b::rest) pos)<|tQ ta tb:=by
 intro g s σ H Q I h;refine BoolOp_and<|CT (m g s σ H _ I h) λv i j=>?_
 obtain⟨x,e,f,k,d⟩:=j;obtain⟨c,rfl,d⟩:=d
 cases k;refine wpAny_truthy_bool ?_
 cases c with
 |true=>exact l g i σ e Q f d
 |false=>exact⟨.bl false,e,f,U,d⟩
theorem tM(m:PE X a ta)(l:PE X (.BoolOp .Or (b::rest) pos) tb):PE X (.BoolOp .Or (a::b::rest) pos)<|yh ta tb:=by
 intro g s σ H Q I h;refine BoolOp_or<|CT (m g s σ H _ I h) λv i j=>?_
 obtain⟨x,e,f,k,d⟩:=j;obtain⟨c,rfl,d⟩:=d
 cases k;refine wpAny_truthy_bool ?_
 cases c with
 |false=>exact l g i σ e Q f d
 |true=>exact⟨.bl true,e,f,U,d⟩
theorem RD(i:PE X a ta):PE X (.UnaryOp .Not a pos)<|tD ta:=by
 intro j s σ H Q I h;refine UnaryOp_<|CT (i j s σ H _ I h) λv k f=>?_
 obtain⟨x,d,e,g,b⟩:=f;obtain⟨c,rfl,b⟩:=b
 cases g;exact not_of<|wpAny_truthy_bool ⟨.bl<|!c,d,e,U,b⟩
def tIf(t:TT)(ta tb:TE):TE:=λσ H Q=>t σ H λc H1=>if c=true then ta σ H1 Q else tb σ H1 Q
theorem Jr{c:Expr}(l:PT X c tA)(n:PE X a ta)(m:PE X b tb):PE X (.IfExp c a b pos)<|tIf tA ta tb:=by
 intro e s σ H Q I h;refine wpAny_IfExp<|CT (l e s σ H _ I h) λd i k=>?_
 obtain⟨f,g,j⟩:=k
 cases d with
 |true=>exact n e i σ f Q g j
 |false=>exact m e i σ f Q g j
end
variable{tt:TT}{tb:TS}
def De(K:W.Frag)(H:Hp)(a:Addr)(xs:List V):Prop :=
 Rd H a (.lst xs) \/
  ∃(o:Obj)(its:Array Value)(n:Nat),K.lookup a=some o/\o.cls=.type "list" /\ o.dict=none/\o.data=.seq its n/\its.size<=sizeLine/\Vals xs its.toList
def Gr(K:W.Frag)(H:Hp)(a:Addr)(xs:List V):Prop :=
 Rd H a (.tup xs) \/
  ∃(o:Obj)(its:Array Value)(n:Nat),K.lookup a=some o/\o.cls=.type "tuple" /\ o.data=.seq its n/\its.size<=sizeLine/\Vals xs its.toList
def absV:Value->Option V
 |.none=>some .non
 |.bool b=>some<|.bl b
 |.int i _=>some<|.int i
 |.str x _=>some<|.str x
 |.bytes b _=>some<|.byt b
 |.float b _=>some<|.flt b
 |.ref a=>some<|.ref a
 |.type n=>some<|.ty n
 |_=>none
theorem RelV.abs{x:V}(r:RelV x u):absV u=some x:=by
 cases x with
 |non=>cases r;rfl
 |bl _=>cases r;rfl
 |int _=>obtain⟨t,rfl⟩:=r;rfl
 |str _=>obtain⟨t,rfl⟩:=r;rfl
 |byt _=>obtain⟨t,rfl⟩:=r;rfl
 |flt _=>obtain⟨t,rfl⟩:=r;rfl
 |ref _=>cases r;rfl
 |ty _=>cases r;rfl
theorem RelV.inj{x y:V}(r:RelV x u)(q:RelV y u):x=y:=Option.some.inj<|r.abs.symm.trans q.abs
theorem Vals.inj:∀{xs ys:List V}{us:List Value},Vals xs us->Vals ys us->xs=ys
 |_,_,_,.nil,.nil=>rfl
 |_,_,_,.cons r t,.cons a b=>by rw[r.inj a,Vals.inj t b]
section
variable{ys:List V}
theorem Inv.list(I:Inv X a8 σ H s)(h:De X.K H a xs):∃its:List Value,Vals xs its/\PlainL s.heap a its.toArray/\xs.length<=sizeLine:=by
 rcases h with h | ⟨o,its,n,b,d,c,f,g,r⟩
 ·obtain⟨z,its,n,r,e⟩:=h.ok I.hok;exact⟨its,r,⟨_,n,e,U,U,U⟩,z⟩
 ·refine⟨its.toList,r,⟨o,n,I.G_ a o b,d,c,by simpa using f⟩,?_⟩;have e:=r.length;simp only[Array.length_toList] at e;omega
theorem Inv.tuple(I:Inv X a8 σ H s)(h:Gr X.K H a xs):∃its:List Value,Vals xs its/\IsTup s.heap a its.toArray/\xs.length<=sizeLine:=by
 rcases h with h | ⟨o,its,n,b,c,d,f,r⟩
 ·obtain⟨z,its,r,p⟩:=h.ok I.hok;exact⟨its,r,p,z⟩
 ·refine⟨its.toList,r,⟨o,I.G_ a o b,c,n,by simpa using d⟩,?_⟩;have e:=r.length;simp only[Array.length_toList] at e;omega
theorem Inv.P_(I:Inv X a8 σ H s)(h:De X.K H a xs)(h':De X.K H a ys):xs=ys:=by
 obtain⟨c,r,⟨o,n,e,_,_,d⟩,_⟩:=I.list h;obtain⟨b,i,⟨k,j,g,_,_,f⟩,_⟩:=I.list h';rw[e] at g;cases g;rw[d] at f;injection f with d1 _
 have:c=b:=by simpa using congrArg Array.toList d1
 subst this;exact r.inj i
theorem Inv.KN(I:Inv X a8 σ H s)(h:Gr X.K H a xs)(h':Gr X.K H a ys):xs=ys:=by
 obtain⟨c,r,⟨o,e,_,n,d⟩,_⟩:=I.tuple h;obtain⟨b,i,⟨k,g,_,j,f⟩,_⟩:=I.tuple h';rw[e] at g;cases g;rw[d] at f;injection f with d1 _
 have:c=b:=by simpa using congrArg Array.toList d1
 subst this;exact r.inj i
end
abbrev Cx.wish(X:Cx)(E:vSP):Cx:={ X with xe:=E }
abbrev Cx.qY(X:Cx):Cx:=X.wish λ_ _=>False
theorem Cx.Ok.wish(ok:X.Ok)(E:vSP):(X.wish E).Ok :=
 ⟨ok.mod,ok.kind,ok.glob,ok.blt,ok.above,ok.inj,ok.has,ok.cab,ok.hd,ok.frames,ok.stk,ok.exf,ok.bs,ok.bsz,ok.noex,ok.exfs,ok.Kc,ok.frf⟩
theorem Cx.Ok.Ii(ok:(X.wish E).Ok):X.Ok :=
 ⟨ok.mod,ok.kind,ok.glob,ok.blt,ok.above,ok.inj,ok.has,ok.cab,ok.hd,ok.frames,ok.stk,ok.exf,ok.bs,ok.bsz,ok.noex,ok.exfs,ok.Kc,ok.frf⟩
theorem Inv.wish(I:Inv X a8 σ H s)(E:vSP):Inv (X.wish E) a8 σ H s:=⟨I.ok.wish E,I.os,I.bare,I.base,I.loc,I.cell,I.free,I.freeC,I.pin,I.hok,I.len⟩
theorem Inv.Ii(I:Inv (X.wish E) a8 σ H s):Inv X a8 σ H s:=⟨I.ok.Ii,I.os,I.bare,I.base,I.loc,I.cell,I.free,I.freeC,I.pin,I.hok,I.len⟩
theorem SP.Ii{D:Ends}{f:Flow}{s':Shared}(h:SP (X.wish E) a8 D f s'):SP X a8 D f s':=by
 cases f with
 |next=>obtain⟨b,a,I,q⟩:=h;exact⟨b,a,I.Ii,q⟩
 |brk=>obtain⟨b,a,I,q⟩:=h;exact⟨b,a,I.Ii,q⟩
 |cont=>obtain⟨b,a,I,q⟩:=h;exact⟨b,a,I.Ii,q⟩
 |ret u=>obtain⟨v,b,a,I,r,q⟩:=h;exact⟨v,b,a,I.Ii,r,q⟩
theorem PN.qY{st:List Stmt}{t:TS}(h:PN X.qY st t):PN X st t:=λa s σ H D I b =>
 wpAny_mono (h a s σ H D (I.wish _) b) (λ_ _ q=>q.Ii) λ_ _ z=>False.elim z
section
variable{st:Stmt}{rest:List Stmt}{t u:TS}
def sJ:TS:=λD σ H=>D.nx σ H
def kE(t u:TS):TS:=λD σ H=>t { D with nx:=u D } σ H
theorem Ba:PN X [] sJ:=λ_ _ σ H _ I h=>wpAny_execs_nil ⟨σ,H,I,h⟩
theorem Ae(b:PS X st t)(i:PN X rest u):PN X (st::rest)<|kE t u:=by
 intro a s σ H D I h;refine wpAny_execs_cons<|CT (b a s σ H { D with nx:=u D } I h) λf e q=>?_
 cases f with
 |next =>
  obtain⟨c,g,d,q⟩:=q;exact i a e c g D d q
 |ret v=>exact q
 |brk=>exact q
 |cont=>exact q
theorem Ag(a:PS X st t):PN X [st] t:=by
 intro b s σ H D I h;refine wpAny_execs_cons<|CT (a b s σ H D I h) λf c q=>?_
 cases f with
 |next=>exact wpAny_execs_nil q
 |ret v=>exact q
 |brk=>exact q
 |cont=>exact q
def lQ:TS:=λD σ H=>D.bk σ H
theorem ZQ:PS X (.Break pos) lQ:=λ_ _ σ H _ I h=>wpAny_Break ⟨σ,H,I,h⟩
theorem Inv.quiet(I:Inv X a8 σ H s):interactive X.env=false:=by simp[interactive,I.ok.kind]
def oW(te:TE):TS:=λD σ H=>te σ H λ_ H1=>D.nx σ H1
theorem Bw(c:PE X e te)(f:swapsWith e none pos.line X.env=pure false:=by rfl):PS X (.Expr e pos)<|oW te:=by
 intro g s σ H D I h;exact wpAny_Expr_any (CT (c g s σ H _ I h) λv j ⟨x,a,b,i,d⟩=>⟨σ,a,b,d⟩) I.quiet f
def tRet(te:TE):TS:=λD σ H=>te σ H D.rt
theorem Ax(c:PE X e te):PS X (.Return (some e) pos)<|tRet te:=by
 intro g s σ H D I h;exact wpAny_Return_some<|CT (c g s σ H _ I h) λv i ⟨x,a,b,d,f⟩=>⟨x,σ,a,b,d,f⟩
def jH(c:TT)(t u:TS):TS:=λD σ H=>c σ H λb H1=>if b=true then t D σ H1 else u D σ H1
theorem Bh{c:Expr}{a b:List Stmt}{g:TT}(m:PT X c g)(o:PN X a t)(n:PN X b u):PS X (.If c a b pos)<|jH g t u:=by
 intro e s σ H D I h;refine wpAny_If<|CT (m e s σ H _ I h) λd j l=>?_
 obtain⟨f,i,k⟩:=l
 cases d with
 |true=>exact o e j σ f D i k
 |false=>exact n e j σ f D i k
def iW:TS:=λ_ _ _=>False
theorem Hr:PS X st iW:=λ_ _ _ _ _ _ h=>h.elim
end
abbrev TG:=V->St->Hp->(St->Hp->Prop)->Prop
abbrev m7:=List V->St->Hp->(St->Hp->Prop)->Prop
def PG(X:Cx)(B1:Expr)(t:TG):Prop :=
 ∀(a8:List<|Addr × Obj)(s:Shared)(σ:St)(H:Hp)(v:V)(u:Value)(Q:St->Hp->Prop),Inv X a8 σ H s->RelV v u->t v σ H Q ->
  wpAny (model X.prog X.w) X.A (assign B1 X.env u) (λ_ s'=>∃σ' H',Inv X a8 σ' H' s'/\Q σ' H') X.xe s
def vA(X:Cx)(ts:List Expr)(t:m7):Prop :=
 ∀(a8:List<|Addr × Obj)(s:Shared)(σ:St)(H:Hp)(vs:List V)(us:List Value)(Q:St->Hp->Prop),Inv X a8 σ H s->Vals vs us->t vs σ H Q ->
  wpAny (model X.prog X.w) X.A (assignInOrder ((assignEach ts X.env).map (·.2)) us) (λ_ s'=>∃σ' H',Inv X a8 σ' H' s'/\Q σ' H') X.xe s
abbrev jg:=V->V->V->Hp->(Hp->Prop)->Prop
def nZ(X:Cx)(t:jg):Prop :=
 ∀(a8:List<|Addr × Obj)(s:Shared)(σ:St)(H:Hp)(o i v:V)(ov iv u:Value)(Q:Hp->Prop),Inv X a8 σ H s->RelV o ov->RelV i iv->RelV v u->t o i v H Q ->
  wpAny (model X.prog X.w) X.A (setItem ov iv u) (λ_ s'=>∃H',Inv X a8 σ H' s'/\Q H') X.xe s
def Cm(i:Nat):TG:=λv σ H Q=>Q (σ.set i<|some v) H
theorem Bt(d:X.N.Nodup)(hi:X.N[i]? = some x)(a:Loc X.env.scope x)(c:X.fn x=true \/ X.env.scope.names.lookup x=some .local:=by first | exact .inl rfl | exact .inr rfl | assumption):PG X (.Name x pos)<|Cm i:=by
 intro f s σ H v u Q I r h;exact wpAny_assign_Name<|Ma I d hi a r (λe b=>⟨_,H,b,h⟩) c
def Mw:m7:=λvs σ H Q=>vs=[]/\Q σ H
inductive Eb(t:TG)(u:m7)(vs:List V)(σ:St)(H:Hp)(Q:St->Hp->Prop):Prop
 |mk(v r:_):vs=v::r->(t v σ H λσ' H'=>u r σ' H' Q)->Eb t u vs σ H Q
theorem HF:vA X [] Mw:=by
 intro c s σ H a b Q I r h;obtain⟨e,h⟩:=h;subst e
 cases r;exact assignInOrder_nil ⟨σ,H,I,h⟩
theorem DY{t:TG}{u:m7}(b:PG X e t)(m:vA X es u)
  (n:(assignEach (e::es) X.env).map (·.2)=assign e X.env::(assignEach es X.env).map (·.2):=by rfl):vA X (e::es)<|Eb t u:=by
 intro a s σ H p q Q I r h;obtain⟨v,o,j,h⟩:=h;subst j
 cases r with
 |cons r k =>
  rw[n];refine assignInOrder_cons<|CT (b a s σ H _ _ _ I r h) λ_ f g=>?_
  obtain⟨l,c,d,i⟩:=g;exact m a f l c _ _ Q d k i
inductive Kv(K:W.Frag)(n:Nat)(t:m7)(v:V)(σ:St)(H:Hp)(Q:St->Hp->Prop):Prop
 | mk(a xs:_):v=.ref a->Gr K H a xs->xs.length=n->t xs σ H Q->Kv K n t v σ H Q
theorem JN{k:Nat}{t:m7}(y:X.calm=true)(h:vA X es t)
  (x:(assignEach es X.env).length=n:=by rfl)(d:(assignEach es X.env).findIdx? (·.1)=none:=by rfl):PG X (.Tuple es k pos)<|Kv X.K n t:=by
 intro f s σ H v u Q I r c;obtain⟨a,w,q,z,hl,c⟩:=c;subst q
 cases r;obtain⟨j,g,p,A⟩:=I.tuple z;refine assign_Tuple_tuple (I.ok.hd y) p (by simp[x,<-hl,g.length]) d λm i=>?_;have l:Inv X f σ H { s with heap:=m }:=I.kept (t':=s.toks) λb o e=>i b o (cf<|Heap.lt_size e) e;exact h f _ σ H w _ Q l (by simpa using g) c
def wN(to ti:TE)(t:jg):TG:=λv σ H Q=>to σ H λo H1=>ti σ H1 λi H2=>t o i v H2 λH3=>Q σ H3
theorem Xj{o i:Expr}{c d:TE}{t:jg}(n:PE X o c)(hi:PE X i d)(p:nZ X t)
  (q:∀v,assign (.Subscript o i pos) X.env v=(do
   let ov <-holding [v] (eval o X.env);let iv <-holding [v,ov] (eval i X.env)
   standAt pos
   holding [v,ov,iv] (setItem ov iv v)
   release [v,ov,iv] []):=by intro _;rfl):PG X (.Subscript o i pos)<|wN c d t:=by
 intro b s σ H v u Q I r h;rw[q];refine wpAny_bind<|wpAny_holding<|CT (n b s σ H _ I h) λov B a=>?_
 obtain⟨x,e,z,D,g⟩:=a;refine wpAny_bind<|wpAny_holding<|CT (hi b B σ e _ z g) λiv A a=>?_
 obtain⟨y,m,C,k,w⟩:=a;refine wpAny_bind<|wpAny_standAt<|wpAny_bind<|wpAny_holding<|CT (p b A σ m x y v ov iv u _ C D k r w) λ_ E a=>?_
 obtain⟨f,l,j⟩:=a;exact wpAny_release ⟨σ,f,l,j⟩
def Qd(te:TE)(g:TG):TS:=λD σ H=>te σ H λx H1=>g x σ H1 D.nx
theorem Om{g:TG}(k:PE X e te)(m:PG X tg g)(n:swapsWithSole [tg] e pos.line X.env=pure false:=by rfl)(j:swappedStores [tg] e X.env=pure none:=by rfl)
  (b:(assignEach [tg] X.env).map (·.2)=[assign tg X.env]:=by rfl):PS X (.Assign [tg] e pos)<|Qd te g:=by
 intro a s σ H D I h;refine wpAny_Assign_stores (CT (k a s σ H _ I h) λv f ⟨x,c,d,l,i⟩=>?_) n j;rw[b];exact CT (m a f σ c x v _ d l i) λ_ o q=>q
theorem Be{a:Pos}(k:X.N.Nodup)(hi:X.N[i]? = some x)(b:Loc X.env.scope x)(l:PE X e te)(n:swapsWith e (some<|.Name x a) pos.line X.env=pure false:=by rfl)(j:X.fn x=true \/ X.env.scope.names.lookup x=some .local:=by first | exact .inl rfl | exact .inr rfl | assumption) :
  PS X (.Assign [.Name x a] e pos) (Qd te<|Cm i):=by
 intro o s σ H D I h;refine wpAny_Assign_Name (CT (l o s σ H _ I h) λv q ⟨y,c,d,m,f⟩=>?_) n;exact Ma d k hi b m (λp g=>⟨_,c,g,f⟩) j
def Oj(c:TT)(tb:TS):TS:=λD σ H=>∃W:Nat->St->Hp->Prop,(∃m,W m σ H)/\∀m σ H,W m σ H ->
 c σ H λb H1=>if b=true then ∃N:St->Hp->Prop,(∀σ' H',N σ' H'->∃m',m'<m/\W m' σ' H')/\tb { D with nx:=N,ct:=N,bk:=D.nx } σ H1 else D.nx σ H1
theorem WK{c:Expr}{a:List Stmt}{t:TT}(y:PassesOwn (model X.prog X.w) X.A X.env X.xe)(E:PT X c t)(P:PN X a tb):PS X (.While c a [] pos)<|Oj t tb:=by
 intro o s σ H D I h;obtain⟨W,⟨C,B⟩,M⟩:=h;refine wpAny_While<|codeAny_whileLoop (λn O=>∃w A,Inv X o w A O/\W n w A) ?_ C ⟨σ,H,I,B⟩
 rintro n K ⟨j,r,G,F⟩;refine wpAny_passesOwn y<|CT (E o K j r _ G<|M n j r F) λb J L=>?_
 obtain⟨u,x,i⟩:=L
 cases b with
 |true =>
  obtain⟨N,z,i⟩:=i;rw[if_pos U];refine wpAny_passesOwn y<|CT (P o J j u _ x i) λf Q g=>?_
  cases f with
  |next =>
   obtain⟨d,e,m,l⟩:=g;obtain⟨k,p,q⟩:=z d e l;exact⟨k,p,d,e,m,q⟩
  |cont =>
   obtain⟨d,e,m,l⟩:=g;obtain⟨k,p,q⟩:=z d e l;exact⟨k,p,d,e,m,q⟩
  |brk=>exact g
  |ret v=>exact g
 |false =>
  rw[if_neg eW];exact wpAny_execs_nil ⟨j,u,x,i⟩
structure It where
 go:Nat->Hp->Prop
 yld:Nat->Hp->V->Hp->Prop
 stop:Nat->Hp->Prop
def Jh(X:Cx)(a8:List<|Addr×Obj)(H:Hp)(b:Addr):Prop :=
 H b=none/\b≠X.env.locals/\b ∉ X.fs/\(b∈X.ex \/ X.s₀.heap.objs.size<=b)/\(∀x c,X.env.cells.lookup x=some c->c≠b)/\∀p∈X.pn++a8,p.1≠b
theorem Inv.Ou(I:Inv X a8 σ H s)(a:s.heap.objs.size<=b)(d:H' b=none):Jh X a8 H' b:=by
 refine⟨d,ix<|br I.lt a,I.vy a,.inr<|be I.sz a,λx c e z=>?_,λp f z=>?_⟩
 ·obtain⟨v,q⟩:=I.cell x c e;exact absurd (br q.lt<|by rw[z];exact a)<|gx _
 ·exact absurd (br (Heap.lt_size (I.pin p f).1)<|by rw[z];exact a)<|gx _
structure Turn(P:Program)(w:World)(K:W.Frag)(tg:Expr)(J:It)(fp:List Addr)(it:Addr)(tn:Nat->Heap->Prop):Prop where
 mem:it∈fp
 obj:∀i h,tn i h->∀b∈fp,∃o,h.get? b=some o/\∀v,o.data≠.cell v
 keep:∀i h h',tn i h->(∀b∈fp,∀o,h.get? b=some o->h'.get? b=some o)->tn i h'
 item:∀(X:Cx),X.prog=P->X.w=w->X.K=K->X.calm=true->∀(i:Nat)(a8:List<|Addr × Obj)(s:Shared)(σ:St)(H:Hp)(E:vSP),Inv X a8 σ H s->(∀b∈fp,Jh X a8 H b)->tn i s.heap->J.go i H ->
  wpAny (model P w) X.A (pyNext<|.ref it) (λr s1=>∃u,r=some u /\
   wpAny (model P w) X.A (letOwnedTupleGo tg (.ref it) u) (λ_ s2=>∃x H',Inv X a8 σ H' s2/\RelV x u/\J.yld i H x H'/\tn (i+1) s2.heap/\∀b∈fp,H' b=none) E s1) E s
 done:∀(X:Cx),X.prog=P->X.w=w->X.K=K->X.calm=true->∀(i:Nat)(a8:List<|Addr × Obj)(s:Shared)(σ:St)(H:Hp)(E:vSP),Inv X a8 σ H s->(∀b∈fp,Jh X a8 H b)->tn i s.heap->J.stop i H ->
  wpAny (model P w) X.A (pyNext<|.ref it) (λr s1=>r=none/\Inv X a8 σ H s1) E s
 self:∀(A:Around)(i:Nat)(s:Shared)(Q:vSP)(E:vSP),tn i s.heap->Q (.ref it) s->wpAny (model P w) A (pyIter<|.ref it) Q E s
abbrev TI:=St->Hp->(It->Hp->Prop)->Prop
inductive PIE(X:Cx)(a8:List<|Addr×Obj)(σ:St)(tg:Expr)(R:It->Hp->Prop)(FR:Value)(s2:Shared):Prop
 | mk(it:Addr)(fp:List Addr)(tn:Nat->Heap->Prop)(J:It)(H':Hp):FR=.ref it->Inv X a8 σ H' s2->Turn X.prog X.w X.K tg J fp it tn->tn 0 s2.heap->(∀b∈fp,Jh X a8 H' b)->R J H'->PIE X a8 σ tg R FR s2
def PI(X:Cx)(tg iter:Expr)(wi:TI):Prop :=
 ∀(a8:List<|Addr × Obj)(s:Shared)(σ:St)(H:Hp)(R:It->Hp->Prop),Inv X a8 σ H s->wi σ H R ->
  wpAny (model X.prog X.w) X.A (eval iter X.env) (λv s1=>wpAny (model X.prog X.w) X.A (pyIter v) (PIE X a8 σ tg R) X.xe s1) X.xe s
theorem QC{M:Model}{b:Addr}{o:Obj}{n:String}{vs:Array Value}{Q:Unit->Shared->Prop}(f:s.heap.get? b=some o)(e:o.cls=.type n)(d:o.data=.fields vs)
  (c:["enumerate","zip","dict_itemiterator","dict_reverseitemiterator","odict_iterator","itertools.zip_longest","itertools.pairwise"].contains n=false)(a:Q () s):wpAny M A (letOwnedTupleGo tg (.ref b) u) Q E s:=by
 unfold letOwnedTupleGo
 cases tg <;> first
  | exact wpAny_pure a
  | (cases u <;> first
    | exact wpAny_pure a
    | (refine wpAny_bind (wpAny_load f ?_)
       rw[e,d];show wpAny M A (if (["enumerate","zip","dict_itemiterator","dict_reverseitemiterator","odict_iterator","itertools.zip_longest","itertools.pairwise"].contains n && vs[0]? == some (rawInt _))=true then _ else _) Q E s;rw[if_neg (by intro h;rw[c,io] at h;cases h)];exact wpAny_pure a))
def bT(K:W.Frag)(a:Addr):It :=
 ⟨λi H=>∃xs x,De K H a xs/\xs[i]? = some x,λi H x H'=>H'=H/\∀xs,De K H a xs->xs[i]? = some x,λi H=>∃xs,De K H a xs/\xs.length<=i⟩
def Itt(K:W.Frag)(a:Addr):It :=
 ⟨λi H=>∃xs x,Gr K H a xs/\xs[i]? = some x,λi H x H'=>H'=H/\∀xs,Gr K H a xs->xs[i]? = some x,λi H=>∃xs,Gr K H a xs/\xs.length<=i⟩
def Zi(lo:Int)(n:Nat):It:=⟨λi _=>i<n,λi H x H'=>H'=H/\x=.int (lo+i),λi _=>n<=i⟩
theorem Vu{w:World}{K:W.Frag}(a g:Addr):Turn P w K tg (bT K a) [g] g (λi h=>h.IsListIter g a i) where
 mem:=by simp
 obj:=λi h st b f=>by
  have e:b=g:=by simpa using f
  subst e;obtain⟨o,e,c,d⟩:=st;exact⟨o,e,λv z=>by rw[d] at z;cases z⟩
 keep:=λi h j st k=>st.at λo e=>k g (by simp) o e
 item:=by
  intro X t r J M i N s σ H E I l st G;subst t r J;obtain⟨Q,x,m,n⟩:=G;obtain⟨B,A,p,Z⟩:=I.list m;obtain⟨u,V,ru⟩:=A.get n;obtain⟨D,C,R,y,q,F⟩:=l g<|by simp
  refine wpAny_pyNext_list_item st p.isList (x:=u) (by simpa using V) λj L S=>?_;have Y:Inv X N σ H { s with heap:=j }:=I.turned (t':=s.toks) (λb o f e=>(S.2 b f).trans e) D C y q F;obtain⟨o,e,c,d⟩:=id L;exact⟨u,U,QC (s:={ s with heap:=j }) e c d (by decide) ⟨x,H,Y,ru,⟨U,λys O=>by rw[I.P_ O m];exact n⟩,L,λb f=>(l b f).1⟩⟩
 done:=by
  intro X t r J M i N s σ H E I l st G;subst t r J;obtain⟨Q,m,n⟩:=G;obtain⟨B,A,p,Z⟩:=I.list m;obtain⟨D,C,R,y,q,F⟩:=l g<|by simp
  have hl:=A.length;exact wpAny_pyNext_list_end (I.ok.hd M) st p.isList (by simp;omega) λj T=>⟨U,I.turned (t':=s.toks) (λb o f e=>T b o f e) D C y q F⟩
 self:=λ_ _ _ _ _ st h=>wpAny_pyIter_listiter st h
theorem RV{w:World}{K:W.Frag}(a j:Addr):Turn P w K tg (Itt K a) [j] j (λi h=>h.IsTupleIter j a i) where
 mem:=by simp
 obj:=λi h st b f=>by
  have e:b=j:=by simpa using f
  subst e;obtain⟨o,e,c,d⟩:=st;exact⟨o,e,λv z=>by rw[d] at z;cases z⟩
 keep:=λi h l st k=>st.at λo e=>k j (by simp) o e
 item:=by
  intro X y t J M i N s σ H E I m st G;subst y t J;obtain⟨Q,x,n,q⟩:=G;obtain⟨g,B,p,Z⟩:=I.tuple n;obtain⟨u,V,ru⟩:=B.get q;obtain⟨D,C,R,A,r,F⟩:=m j<|by simp
  refine wpAny_pyNext_tuple_item st (show s.heap.IsTuple a g.toArray from p) (x:=u) (by simpa using V) λl L S=>?_;have Y:Inv X N σ H { s with heap:=l }:=I.turned (t':=s.toks) (λb o f e=>(S.2 b f).trans e) D C A r F;obtain⟨o,e,c,d⟩:=id L;exact⟨u,U,QC (s:={ s with heap:=l }) e c d (by decide) ⟨x,H,Y,ru,⟨U,λys O=>by rw[I.KN O n];exact q⟩,L,λb f=>(m b f).1⟩⟩
 done:=by
  intro X y t J M i N s σ H E I m st G;subst y t J;obtain⟨Q,n,q⟩:=G;obtain⟨g,B,p,Z⟩:=I.tuple n;obtain⟨D,C,R,A,r,F⟩:=m j<|by simp
  have hl:=B.length;exact wpAny_pyNext_tuple_end (I.ok.hd M) st (show s.heap.IsTuple a g.toArray from p) (by simp;omega) λl T=>⟨U,I.turned (t':=s.toks) (λb o f e=>T b o f e) D C A r F⟩
 self:=λ_ _ _ _ _ st h=>wpAny_pyIter_tupleiter st h
theorem SN{w:World}{K:W.Frag}(a:Addr)(lo:Int)(n:Nat):Turn P w K tg (Zi lo n) [a] a (λi h=>IsRangeIter h a (lo+(i:Nat) * 1) ((n:Int) - (i:Nat)) 1) where
 mem:=by simp
 obj:=λi h st b c=>by
  have e:b=a:=by simpa using c
  subst e;exact⟨_,st,λv z=>by
   have M:Data.fields _=Data.cell v:=z
   cases M⟩
 keep:=λi h d st k=>k a (by simp) _ st
 item:=by
  intro X l j y m i C s σ H E I f st x;subst l j y;obtain⟨r,q,F,p,g,u⟩:=f a<|by simp
  have W:=Walks.range (prog:=X.prog) (w:=X.w) (I.ok.hd m) a lo 1 n;refine W.item i s _ _ x st λv d B J A D=>?_;obtain⟨t,rfl⟩:=J;have L:Inv X C σ H { s with heap:=d,toks:=B }:=I.turned (λb o c e=>D b o (by simpa using c) e) r q p g u;refine⟨_,U,QC (s:={ s with heap:=d,toks:=B }) (n:="range_iterator") A U U (by decide) ⟨.int<|lo+i,H,L,⟨t,?_⟩,⟨U,U⟩,A,λb c=>(f b c).1⟩⟩;rw[lT]
 done:=by
  intro X l j y m i C s σ H E I f st x;subst l j y;obtain⟨r,q,F,p,g,u⟩:=f a<|by simp
  exact wpAny_pyNext_range_end (I.ok.hd m) st (by have:n<=i:=x;omega) λd G=>⟨U,I.turned (t':=s.toks) (λb o c e=>G b o c e) r q p g u⟩
 self:=λ_ _ _ _ _ st h=>wpAny_pyIter_rangeiter st h
inductive WL(K:W.Frag)(R:It->Hp->Prop)(x:V)(H1:Hp):Prop
 | mk(a:_):x=.ref a->(∃xs,De K H1 a xs)->R (bT K a) H1->WL K R x H1
def qm(K:W.Frag)(tl:TE):TI:=λσ H R=>tl σ H λx H1=>WL K R x H1
inductive eU(K:W.Frag)(R:It->Hp->Prop)(x:V)(H1:Hp):Prop
 | mk(a:_):x=.ref a->(∃xs,Gr K H1 a xs)->R (Itt K a) H1->eU K R x H1
def wK(K:W.Frag)(tl:TE):TI:=λσ H R=>tl σ H λx H1=>eU K R x H1
theorem Bl{l:Expr}{f:TE}(hl:PE X l f):PI X tg l<|qm X.K f:=by
 intro t s σ H R I h;refine CT (hl t s σ H _ I h) λv d j=>?_;obtain⟨x,g,c,m,k⟩:=j;obtain⟨a,e,⟨y,n⟩,q⟩:=k;subst e
 cases m;obtain⟨i,w,p,u⟩:=c.list n;refine wpAny_pyIter_list p.isList ?_;refine⟨d.heap.objs.size,[d.heap.objs.size],_,_,g,U,c.kept (t':=d.toks) λb o e=>Heap.get?_push_of_some _ e,Vu a _,⟨_,Heap.get?_push_size _ U,U,U⟩,λb r=>?_,q⟩;have e:b=d.heap.objs.size:=by simpa using r
 subst e;exact c.Ou (al _)<|c.hok.fresh<|al _
theorem RX{l:Expr}{g:TE}(hl:PE X l g):PI X tg l<|wK X.K g:=by
 intro t s σ H R I h;refine CT (hl t s σ H _ I h) λv c j=>?_;obtain⟨x,i,d,m,k⟩:=j;obtain⟨a,e,⟨y,n⟩,q⟩:=k;subst e
 cases m;obtain⟨f,w,p,u⟩:=d.tuple n;refine wpAny_pyIter_tuple (show c.heap.IsTuple a f.toArray from p) ?_;refine⟨c.heap.objs.size,[c.heap.objs.size],_,_,i,U,d.kept (t':=c.toks) λb o e=>Heap.get?_push_of_some _ e,RV a _,⟨_,Heap.get?_push_size _ U,U,U⟩,λb r=>?_,q⟩;have e:b=c.heap.objs.size:=by simpa using r
 subst e;exact d.Ou (al _)<|d.hok.fresh<|al _
theorem Qz{R:It->Hp->Prop}{lo hi:Int}{t u v:Tok}{c:Nat}(I:Inv X a8 σ H s)(d : -(2 ^ 62)<=lo)(j:lo<2 ^ 62)(k : -(2 ^ 62)<=hi)(i:hi<2 ^ 62)
  (q:R (Zi lo (hi - lo).toNat) H):wpAny (model X.prog X.w) X.A (pyIter<|.ref s.heap.objs.size) (PIE X a8 σ tg R) E { s with heap:=s.heap.push { cls:=.type "range",data:=.fields #[.int lo t,.int hi u,.int 1 v] },toks:=c }:=by
 refine wpAny_pyIter_range (IsRange.new ..) (small_one d j k i) ?_;have a:Inv X a8 σ H { s with heap:=s.heap.push { cls:=.type "range",data:=.fields #[.int lo t,.int hi u,.int 1 v] },toks:=c }:=I.kept λb o e=>Heap.get?_push_of_some _ e;refine⟨(s.heap.push { cls:=.type "range",data:=.fields #[.int lo t,.int hi u,.int 1 v] }).objs.size,[(s.heap.push { cls:=.type "range",data:=.fields #[.int lo t,.int hi u,.int 1 v] }).objs.size],_,_,H,U,
  a.kept (t':=c) λb o e=>Heap.get?_push_of_some _ e,SN _ lo (hi - lo).toNat,?_,λb f=>?_,q⟩
 ·have h:lo+((0:Nat):Int) * 1=lo:=by simp
  have g:(((hi - lo).toNat:Nat):Int) - ((0:Nat):Int)=Builtin.Range.rangeSize lo hi 1:=by rw[rangeSize_one];split <;> omega
  show IsRangeIter _ _ (lo+((0:Nat):Int) * 1) ((((hi - lo).toNat:Nat):Int) - ((0:Nat):Int)) 1;rw[h,g];exact Heap.get?_push_size _ U
 ·have e:b=(s.heap.push { cls:=.type "range",data:=.fields #[.int lo t,.int hi u,.int 1 v] }).objs.size:=by simpa using f
  subst e;exact a.Ou (al _)<|a.hok.fresh<|al _
inductive XD(R:It->Hp->Prop)(vs:List V)(H1:Hp):Prop
 | mk(j:Int):vs=[.int j]->-(2 ^ 62)<=j->j<2 ^ 62->R (Zi 0 j.toNat) H1->XD R vs H1
def pQ(ta:TA):TI:=λσ H R=>ta σ H λvs H1=>XD R vs H1
inductive Xg(R:It->Hp->Prop)(vs:List V)(H1:Hp):Prop
 | mk(i j:Int):vs=[.int i,.int j]->(-(2 ^ 62)<=i/\i<2 ^ 62 /\ -(2 ^ 62)<=j/\j<2 ^ 62)->R (Zi i (j - i).toNat) H1->Xg R vs H1
def qM(ta:TA):TI:=λσ H R=>ta σ H λvs H1=>Xg R vs H1
theorem Dr{a:Expr}{c:TA}{p:Pos}(k:Gl X "range")(g:X.mg "range" = none)(n:PA X [a] c)(l:starEach [a] X.env=[(false,eval a X.env)]:=by rfl):PI X tg (.Call (.Name "range" p) [a] [] pos)<|pQ c:=by
 intro o s σ H R I h;refine Call_<|Ib I k g boot_range<|PyProof.Rows.callWith_type1 (CT (n pos o s σ H _ I h) λx v ⟨w,u,f,m,b⟩=>?_) l U
 obtain⟨j,e,b,d,q⟩:=b;subst e
 cases m with
 |cons r i =>
  cases i;obtain⟨t,rfl⟩:=r;exact call_range_1<|Qz f (by omega) (by omega) b d<|by simpa using q
theorem Vm{a b:Expr}{f:TA}{p:Pos}(u:Gl X "range")(m:X.mg "range" = none)(y:PA X [a,b] f)(v:starEach [a,b] X.env=[(false,eval a X.env),(false,eval b X.env)]:=by rfl)(g:starEach [b] X.env=[(false,eval b X.env)]:=by rfl) :
  PI X tg (.Call (.Name "range" p) [a,b] [] pos) (qM f):=by
 intro z s σ H R I h;refine Call_<|Ib I u m boot_range<|PyProof.Rows.callWith_type1 (CT (y pos z s σ H _ I h) λE B ⟨C,A,l,w,c⟩=>?_) (by rw[v,g])<|by rw[g];rfl
 obtain⟨i,j,e,⟨c,k,n,x⟩,q⟩:=c;subst e
 cases w with
 |cons r d =>
  cases d with
  |cons o d =>
   cases d;obtain⟨t,rfl⟩:=r;obtain⟨D,rfl⟩:=o;exact call_range_2<|Qz l c k n x q
def zp(wi:TI)(g:TG)(tb:TS):TS:=λD σ H=>wi σ H λJ H1=>∃W:Nat->Nat->St->Hp->Prop,(∃m,W 0 m σ H1)/\∀i m σ H,W i m σ H ->
 (J.stop i H/\D.nx σ H) \/ (J.go i H/\∃N:St->Hp->Prop,(∀σ' H',N σ' H'->∃m',m'<m/\W (i+1) m' σ' H')/\∀x H',J.yld i H x H'->g x σ H' λσ2 H2=>tb { D with nx:=N,ct:=N,bk:=D.nx } σ2 H2)
def LQ(fp:List Addr)(h:Heap):List<|Addr×Obj:=fp.filterMap λb=>(h.get? b).map λo=>(b,o)
theorem HH{o:Obj}(a:b∈fp)(e:h.get? b=some o):(b,o)∈LQ fp h:=List.mem_filterMap.mpr ⟨b,a,by rw[e];rfl⟩
theorem VM{p:Addr×Obj}(d:p∈LQ fp h):p.1∈fp/\h.get? p.1=some p.2:=by
 obtain⟨b,a,e⟩:=List.mem_filterMap.mp d
 cases q:h.get? b with
 |none=>rw[q] at e;cases e
 |some o =>
  rw[q] at e;have c:(b,o)=p:=Option.some.inj e;subst c;exact⟨a,q⟩
theorem Inv.pinned(I:Inv X a8 σ H s)(i:∀b∈fp,Jh X a8 H b)(g:∀b∈fp,∃o,s.heap.get? b=some o/\∀v,o.data≠.cell v):Inv X (a8++LQ fp s.heap) σ H s :=
 I.Uw λp k=>(bE.mp k).elim (λz=>I.pin p<|cm _ z) λz=>by
  obtain⟨c,e⟩:=VM z;obtain⟨f,h,j,_⟩:=i p.1 c;obtain⟨o,a,d⟩:=g p.1 c;rw[e] at a;cases a;exact⟨e,f,h,j,d⟩
theorem Inv.J1{pl:List (Addr×Obj)}(I:Inv X (a8++pl) σ H s):Inv X a8 σ H s:=I.Uw λp a=>I.pin p<|cm _<|dS _ a
theorem Dk{q:List Stmt}{wi:TI}{g:TG}(F:PassesOwn (model X.prog X.w) X.A X.env X.xe)(hc:X.calm=true)(hi:PI X tg iter wi)(hg:PG X tg g)(l:PN X q tb)
  (hs:∀x,foldedSetIterable iter X.env x=pure x:=by intro _;rfl):PS X (.For tg iter q [] pos)<|zp wi g tb:=by
 intro w s σ H D I h;refine wpAny_For (CT (hi w s σ H _ I h) λv s1 h1=>CT h1 λFR s2 h2=>?_) hs;obtain⟨it,E,tn,J,H2,e,I2,T,zw,S,W,⟨m0,w0⟩,sR⟩:=h2;subst e;have j:∀{p:Hp},(∀b∈E,p b=none)->∀b∈E,Jh X w p b:=λhn b l=>⟨hn b l,(S b l).2⟩;refine codeAny_forLoop_any (λn Y=>∃i z p,Inv X w z p Y/\tn i Y.heap/\(∀b∈E,p b=none)/\W i n z p) ?_ m0 ⟨0,σ,H2,I2,zw,λb l=>(S b l).1,w0⟩;rintro n V ⟨i,y,G,I3,C,A,w3⟩;rcases sR i n y G w3 with⟨stop,qn⟩ | ⟨go,N,hN,step⟩
 ·refine wpAny_passesOwn F<|CT (T.done X U U U hc i w V y G X.xe I3 (j A) C stop) λr s4 ⟨M,I4⟩=>?_
  subst M;exact wpAny_execs_nil ⟨y,G,I4,qn⟩
 ·refine wpAny_passesOwn F<|CT (T.item X U U U hc i w V y G X.xe I3 (j A) C go) λr s4 ⟨u,M,h4⟩=>?_
  subst M;refine wpAny_passesOwn F<|CT h4 λ_ R P=>?_
  obtain⟨x,Z,I5,r5,y5,Q,O⟩:=P;have L:=I5.pinned (j O)<|T.obj _ _ Q
  refine wpAny_passesOwn F<|CT (hg _ R y Z x u _ L r5<|step x Z y5) λ_ s6 P=>?_
  obtain⟨σ6,H6,I6,q6⟩:=P;refine wpAny_passesOwn F<|CT (l _ s6 σ6 H6 _ I6 q6) λf K t=>?_
  have again:∀{k:St}{c:Hp},Inv X (w++LQ E R.heap) k c K->N k c->∃m,m<n/\∃i z p,Inv X w z p K/\tn i K.heap/\(∀b∈E,p b=none)/\W i m z p:=λ{k c} a B=>by
   obtain⟨m',hm,w7⟩:=hN k c B;refine⟨m',hm,i+1,k,c,a.J1,T.keep _ _ _ Q λb l o e=>(a.pin (b,o)<|cm _<|cm _<|HH l e).1,λb l=>?_,w7⟩;obtain⟨o,e,d⟩:=T.obj _ _ Q b l;exact (a.pin (b,o)<|cm _<|cm _<|HH l e).2.1
  cases f with
  |next=>obtain⟨k,c,a,B⟩:=t;exact again a B
  |cont=>obtain⟨k,c,a,B⟩:=t;exact again a B
  |brk=>obtain⟨k,c,a,t⟩:=t;exact⟨k,c,a.J1,t⟩
  |ret v=>obtain⟨x7,k,c,a,r7,t⟩:=t;exact⟨x7,k,c,a.J1,r7,t⟩
theorem Ia{K:W.Frag}{g:TG}{D:Ends}(b:Nat->St->Hp->Prop)(f:b 0 σ H)(hl:∀i σ H,i<=xs.length->b i σ H->De K H a xs)
  (k:∀i x σ H,xs[i]? = some x->b i σ H->g x σ H λσ2 H2=>tb { D with nx:=b<|i+1,ct:=b<|i+1,bk:=D.nx } σ2 H2) (d:∀σ H,b xs.length σ H->D.nx σ H) :
  ∃W:Nat->Nat->St->Hp->Prop,(∃m,W 0 m σ H)/\∀i m σ H,W i m σ H ->
   ((bT K a).stop i H/\D.nx σ H) \/ ((bT K a).go i H/\∃N:St->Hp->Prop,(∀σ' H',N σ' H'->∃m',m'<m/\W (i+1) m' σ' H')/\∀x H',(bT K a).yld i H x H'->g x σ H' λσ2 H2=>tb { D with nx:=N,ct:=N,bk:=D.nx } σ2 H2):=by
 refine⟨λi m σ H=>m=xs.length - i/\i<=xs.length/\b i σ H,⟨xs.length,by simp,Nat.zero_le _,f⟩,?_⟩;rintro i m σ H ⟨rfl,j,p⟩;have q:=hl i σ H j p;by_cases c:i<xs.length
 ·refine .inr ⟨⟨xs,xs[i],q,by simp[c]⟩,b<|i+1,λσ' H' h=>⟨xs.length - (i+1),by omega,U,c,h⟩,λx H' y=>?_⟩;obtain⟨e,y⟩:=y;subst e;exact k i x σ _ (y xs q) p
 ·have e:i=xs.length:=by omega
  subst e;exact .inl ⟨⟨xs,q,al _⟩,d σ H p⟩
theorem Vb{lo:Int}{g:TG}{D:Ends}(b:Nat->St->Hp->Prop)(d:b 0 σ H)
  (h:∀i σ H,i<n->b i σ H->g (.int<|lo+i) σ H λσ2 H2=>tb { D with nx:=b<|i+1,ct:=b<|i+1,bk:=D.nx } σ2 H2) (c:∀σ H,b n σ H->D.nx σ H) :
  ∃W:Nat->Nat->St->Hp->Prop,(∃m,W 0 m σ H)/\∀i m σ H,W i m σ H ->
   ((Zi lo n).stop i H/\D.nx σ H) \/ ((Zi lo n).go i H/\∃N:St->Hp->Prop,(∀σ' H',N σ' H'->∃m',m'<m/\W (i+1) m' σ' H')/\∀x H',(Zi lo n).yld i H x H'->g x σ H' λσ2 H2=>tb { D with nx:=N,ct:=N,bk:=D.nx } σ2 H2):=by
 refine⟨λi m σ H=>m=n - i/\i<=n/\b i σ H,⟨n,by simp,Nat.zero_le _,d⟩,?_⟩;rintro i m σ H ⟨rfl,j,p⟩;by_cases a:i<n
 ·refine .inr ⟨a,b<|i+1,λσ' H' f=>⟨n - (i+1),by omega,U,a,f⟩,λx H' y=>?_⟩;obtain⟨e,y⟩:=y;subst e y;exact h i σ _ a p
 ·have e:i=n:=by omega
  subst e;exact .inl ⟨al _,c σ H p⟩
theorem Xu{c:TT}{D:Ends}(a:St->Hp->Prop)(μ:St->Hp->Nat)(d:a σ H)
  (f:∀σ H,a σ H->c σ H λb H1=>if b=true then tb { D with nx:=λσ' H'=>a σ' H'/\μ σ' H'<μ σ H,ct:=λσ' H'=>a σ' H'/\μ σ' H'<μ σ H,bk:=D.nx } σ H1 else D.nx σ H1)
  (mono:∀σ H Q Q',(∀b H1,Q b H1->Q' b H1)->c σ H Q->c σ H Q'):Oj c tb D σ H:=by
 refine⟨λm σ H=>m=μ σ H/\a σ H,⟨_,U,d⟩,?_⟩;rintro m σ H ⟨rfl,p⟩;refine mono σ H _ _ (λb H1 q=>?_)<|f σ H p
 cases b with
 |true=>exact⟨_,λσ' H' ⟨e,l⟩=>⟨_,l,U,e⟩,q⟩
 |false=>exact q
abbrev R2:=V->V->Hp->VK->Prop
def G7(X:Cx)(f:Value->Value->Sem Value)(r:R2):Prop :=
 ∀(a8:List<|Addr × Obj)(s:Shared)(σ:St)(H:Hp)(x y:V)(v u:Value)(Q:VK),Inv X a8 σ H s->RelV x v->RelV y u->r x y H Q ->
  wpAny (model X.prog X.w) X.A (f v u) (EP X a8 σ Q) X.xe s
def ut(X:Cx)(f:Value->Sem Value)(r:V->Hp->VK->Prop):Prop :=
 ∀(a8:List<|Addr × Obj)(s:Shared)(σ:St)(H:Hp)(x:V)(v:Value)(Q:VK),Inv X a8 σ H s->RelV x v->r x H Q ->
  wpAny (model X.prog X.w) X.A (f v) (EP X a8 σ Q) X.xe s
def Fe(X:Cx)(f:Value)(r:List V->Hp->VK->Prop):Prop :=
 ∀(a8:List<|Addr × Obj)(s:Shared)(σ:St)(H:Hp)(xs:List V)(us:List Value)(Q:VK),Inv X a8 σ H s->Vals xs us->r xs H Q ->
  wpAny (model X.prog X.w) X.A (call f us) (EP X a8 σ Q) X.xe s
def xg(X:Cx)(r:V->Hp->(Bool->Hp->Prop)->Prop):Prop :=
 ∀(a8:List<|Addr × Obj)(s:Shared)(σ:St)(H:Hp)(x:V)(v:Value)(Q:Bool->Hp->Prop),Inv X a8 σ H s->RelV x v->r x H Q ->
  wpAny (model X.prog X.w) X.A (truthy v) (TP X a8 σ Q) X.xe s
def bh(r:R2)(ta tb:TE):TE:=λσ H Q=>ta σ H λx H1=>tb σ H1 λy H2=>r x y H2 Q
def tUn(r:V->Hp->VK->Prop)(ta:TE):TE:=λσ H Q=>ta σ H λx H1=>r x H1 Q
inductive rI(C:Int->Int->Prop)(g:Int->Int->V)(x:V)(y:V)(H:Hp)(Q:VK):Prop
 | mk(i j:_):x=.int i->y=.int j->C i j->Q (g i j) H->rI C g x y H Q
inductive XH(g:Int->Int->V)(x:V)(y:V)(H:Hp)(Q:VK):Prop
 | mk(i j:_):x=.int i->y=.int j->Q (g i j) H->XH g x y H Q
inductive rU(g:Int->V)(x:V)(H:Hp)(Q:VK):Prop
 | mk(i:_):x=.int i->Q (g i) H->rU g x H Q
section
variable{a b c:Expr}{tb tc:TE}
theorem ie(o:PE X a ta)(n:PE X b tb){R:V->V->Hp->Prop}(I:Inv X a8 σ H s)
  (h:ta σ H λx H1=>tb σ H1 λy H2=>R x y H2){f:Value->Value->Sem Value}
  (k:∀v u s2 x y H2,Inv X a8 σ H2 s2->RelV x v->RelV y u->R x y H2->wpAny (model X.prog X.w) X.A (f v u) Q X.xe s2) :
  wpAny (model X.prog X.w) X.A (eval a X.env) (λv s₁=>wpAny (model X.prog X.w) X.A (eval b X.env) (λu s₂=>wpAny (model X.prog X.w) X.A (f v u) Q X.xe s₂) X.xe s₁) X.xe s:=by
 refine CT (o a8 s σ H _ I h) λv g c=>?_;obtain⟨x,H1,d,m,i⟩:=c;refine CT (n a8 g σ H1 _ d i) λu s2 c=>?_;obtain⟨y,H2,j,l,e⟩:=c;exact k v u s2 x y H2 j m l e
theorem BZ{c:Operator}{r:R2}(j:G7 X (binaryOp c) r)(l:PE X a ta)(k:PE X b tb):PE X (.BinOp a c b pos)<|bh r ta tb:=by
 intro m s σ H Q I h;exact wpAny_BinOp<|ie l k I h λv u d x y i e g f q=>j m d σ i x y v u Q e g f q
theorem Ja{b:UnaryOp}{r:V->Hp->VK->Prop}(j:ut X (unaryOp b) r)(k:PE X a ta):PE X (.UnaryOp b a pos)<|tUn r ta:=by
 intro c s σ H Q I h;exact UnaryOp_<|CT (k c s σ H _ I h) λv g ⟨x,d,e,f,i⟩=>j c g σ d x v Q e f i
theorem mG{f:Value->Value->Sem Value}{C:Int->Int->Prop}{g:Int->Int->Int}
  (rule:∀(i j:Int)(t u:Tok)(s:Shared)(Q:vSP)(E:vSP),C i j->Q (.int (g i j) s.toks) { s with toks:=s.toks+1 }->wpAny (model X.prog X.w) X.A (f (.int i t)<|.int j u) Q E s) :
  G7 X f (rI C λi j=>.int<|g i j):=by
 intro e s σ H x y v u Q I c a h;obtain⟨i,j,rfl,rfl,d,q⟩:=h;obtain⟨t,rfl⟩:=c;obtain⟨b,rfl⟩:=a;exact rule i j t b s _ _ d ⟨.int<|g i j,H,I.tok _,⟨_,U⟩,q⟩
theorem aL{f:Value->Value->Sem Value}{g:Int->Int->Int}
  (rule:∀(i j:Int)(t u:Tok)(s:Shared)(Q:vSP)(E:vSP),Q (.int (g i j) s.toks) { s with toks:=s.toks+1 }->wpAny (model X.prog X.w) X.A (f (.int i t)<|.int j u) Q E s) :
  G7 X f (XH λi j=>.int<|g i j):=by
 intro d s σ H x y v u Q I c a h;obtain⟨i,j,rfl,rfl,q⟩:=h;obtain⟨t,rfl⟩:=c;obtain⟨b,rfl⟩:=a;exact rule i j t b s _ _ ⟨.int<|g i j,H,I.tok _,⟨_,U⟩,q⟩
theorem bU{f:Value->Value->Sem Value}{g:Int->Int->Bool}
  (rule:∀(i j:Int)(t u:Tok)(s:Shared)(Q:vSP)(E:vSP),Q (.bool<|g i j) s->wpAny (model X.prog X.w) X.A (f (.int i t)<|.int j u) Q E s) :
  G7 X f (XH λi j=>.bl<|g i j):=by
 intro d s σ H x y v u Q I c a h;obtain⟨i,j,rfl,rfl,q⟩:=h;obtain⟨t,rfl⟩:=c;obtain⟨b,rfl⟩:=a;exact rule i j t b s _ _ ⟨.bl<|g i j,H,I,U,q⟩
def zL(i j:Int):Prop:=0<j/\j<1073741824
def sG(i j:Int):Prop:=0<=j/\j<=1000000/\i.natAbs<2 ^ 64
def gZ(i j:Int):Prop:=(-(2 ^ 64)<i/\i<2 ^ 64) \/ (-(2 ^ 64)<j/\j<2 ^ 64)
theorem gZ.ok{i j:Int}(h:gZ i j):IntMulOk i j:=by
 rcases h with⟨a,b⟩ | ⟨a,b⟩
 ·exact .of_left<|intBits_le_64 a b
 ·exact .of_right<|intBits_le_64 a b
theorem two_pow_nn(k:Nat):(0:Int)<=2 ^ k:=by
 rw[two_pow_cast];exact ip _
theorem CQ:G7 X (binaryOp .Add)<|XH λi j=>.int<|i+j:=aL λ_ _ _ _ _ _ _ q=>add_int q
theorem GF:G7 X (binaryOp .Sub)<|XH λi j=>.int<|i - j:=aL λ_ _ _ _ _ _ _ q=>sub_int q
theorem Hs:G7 X (binaryOp .Mult)<|rI gZ λi j=>.int<|i * j:=mG λ_ _ _ _ _ _ _ a q=>mul_int q a.ok
theorem K_:G7 X (binaryOp .FloorDiv)<|rI zL λi j=>.int<|i / j:=mG λi j _ _ _ _ _ a q=>by
 have b:(0:Int)<j:=a.1;have c:j<1073741824:=a.2;exact floordiv_int (by omega) (by rw[Int.fdiv_eq_ediv_of_nonneg i (by omega)];exact q)<|.inl<|PyProof.noPylong_small<|by omega
theorem Eu:G7 X (binaryOp .Mod)<|rI (λ_ j=>0<j) λi j=>.int<|i % j:=mG λi j _ _ _ _ _ a q=>by
 have b:(0:Int)<j:=a;exact mod_int' (by omega)<|by rw[Int.fmod_eq_emod_of_nonneg i (by omega)];exact q
theorem Rj:G7 X (binaryOp .Pow)<|rI sG λi j=>.int<|i ^ j.toNat:=mG λ_ _ _ _ _ _ _ a q=>pow_int_small a.1 a.2.1 a.2.2 q
theorem X8:G7 X (binaryOp .LShift)<|rI sG λi j=>.int<|i * 2 ^ j.toNat:=mG λ_ _ _ _ _ _ _ a q=>lshift_int_small a.1 a.2.1 a.2.2 q
theorem Xc:G7 X (binaryOp .RShift)<|rI (λ_ j=>0<=j) λi j=>.int<|i / 2 ^ j.toNat:=mG λi j _ _ _ _ _ a q =>
 rshift_int a (by rw[Int.fdiv_eq_ediv_of_nonneg i (two_pow_nn _)];exact q)
theorem JT:G7 X (binaryOp .BitAnd)<|XH λi j=>.int<|Builtin.bitAnd i j:=aL λ_ _ _ _ _ _ _ q=>and_int q
theorem NK:G7 X (binaryOp .BitOr)<|XH λi j=>.int<|Builtin.bitOr i j:=aL λ_ _ _ _ _ _ _ q=>or_int q
theorem unI{f:Value->Sem Value}{g:Int->Int}
  (rule:∀(i:Int)(t:Tok)(s:Shared)(Q:vSP)(E:vSP),Q (.int (g i) s.toks) { s with toks:=s.toks+1 }->wpAny (model X.prog X.w) X.A (f<|.int i t) Q E s) :
  ut X f (rU λi=>.int<|g i):=by
 intro b s σ H x v Q I a h;obtain⟨i,rfl,q⟩:=h;obtain⟨t,rfl⟩:=a;exact rule i t s _ _ ⟨.int<|g i,H,I.tok _,⟨_,U⟩,q⟩
theorem LC:ut X (unaryOp .USub)<|rU λi=>.int<|-i:=unI λ_ _ _ _ _ q=>neg_int q
theorem Ov:ut X (unaryOp .Invert)<|rU λi=>.int<|Builtin.bitNot i:=unI λ_ _ _ _ _ q=>invert_int q
end
def mj:V->V->Bool
 |.non,.non=>true | .non,.int _=>true | .int _,.non=>true | .non,.bl _=>true | .bl _,.non=>true | .non,.str _=>true | .str _,.non=>true
 |.int _,.int _=>true | .bl _,.bl _=>true | .str _,.str _=>true | .byt _,.byt _=>true
 |.int _,.str _=>true | .str _,.int _=>true | .bl _,.str _=>true | .str _,.bl _=>true
 |_,_=>false
def rEq:R2:=λx y H Q=>mj x y=true/\Q (.bl (decide (x=y))) H
def rNe:R2:=λx y H Q=>mj x y=true/\Q (.bl (!decide (x=y))) H
theorem Uj{i j:Int}:decide (V.int i=V.int j)=(i == j):=by
 rw[db];simp
theorem Yb{i j:Bool}:decide (V.bl i=V.bl j)=(i == j):=by
 rw[db];simp
theorem JB{i j:Str}:decide (V.str i=V.str j)=(i == j):=by
 rw[db];simp
theorem Um{i j:Array UInt8}:decide (V.byt i=V.byt j)=(i.toList == j.toList):=by
 rw[db]
 cases i
 cases j;simp
section
variable{a b c:Expr}{tb tc:TE}
theorem Bu{Q:VK}{k a:Bool}(I:Inv X a8 σ H s)(q:Q (.bl k) H)(e:k=a):EP X a8 σ Q (.bool a) s:=by
 subst e;exact⟨.bl k,H,I,U,q⟩
theorem CP:G7 X (compareOp .Eq) rEq:=by
 intro e s σ H x y v u Q I d a h;obtain⟨c,q⟩:=h
 cases x with
 |non =>
  cases d
  cases y with
  |non=>cases a;exact PySem.EqNone.eq_none_none<|Bu I q<|by simp
  |bl j=>cases a;exact PySem.EqNone.eq_none_bool<|Bu I q<|by simp
  |int j=>obtain⟨b,rfl⟩:=a;exact PySem.EqNone.eq_none_int<|Bu I q<|by simp
  |str j=>obtain⟨b,rfl⟩:=a;exact PySem.EqNone.eq_none_str<|Bu I q<|by simp
  |_=>exact absurd (show false=true from c) Bool.false_ne_true
 |bl i =>
  cases d
  cases y with
  |non=>cases a;exact PySem.EqNone.eq_bool_none<|Bu I q<|by simp
  |bl j=>cases a;exact eq_bool<|Bu I q Yb
  |str j=>obtain⟨b,rfl⟩:=a;exact PySem.EqMixed.eq_bool_str<|Bu I q<|by simp
  |_=>exact absurd (show false=true from c) Bool.false_ne_true
 |int i =>
  obtain⟨t,rfl⟩:=d
  cases y with
  |non=>cases a;exact PySem.EqNone.eq_int_none<|Bu I q<|by simp
  |int j=>obtain⟨b,rfl⟩:=a;exact eq_int<|Bu I q Uj
  |str j=>obtain⟨b,rfl⟩:=a;exact PySem.EqMixed.eq_int_str<|Bu I q<|by simp
  |_=>exact absurd (show false=true from c) Bool.false_ne_true
 |str i =>
  obtain⟨t,rfl⟩:=d
  cases y with
  |non=>cases a;exact PySem.EqNone.eq_str_none<|Bu I q<|by simp
  |bl j=>cases a;exact PySem.EqMixed.eq_str_bool<|Bu I q<|by simp
  |int j=>obtain⟨b,rfl⟩:=a;exact PySem.EqMixed.eq_str_int<|Bu I q<|by simp
  |str j=>obtain⟨b,rfl⟩:=a;exact eq_str<|Bu I q JB
  |_=>exact absurd (show false=true from c) Bool.false_ne_true
 |byt i =>
  obtain⟨t,rfl⟩:=d
  cases y with
  |byt j=>obtain⟨b,rfl⟩:=a;exact W.eq_bytes<|Bu I q Um
  |_=>exact absurd (show false=true from c) Bool.false_ne_true
 |_=>cases y <;> exact absurd (show false=true from c) Bool.false_ne_true
theorem Jv:G7 X (compareOp .NotEq) rNe:=by
 intro e s σ H x y v u Q I d a h;obtain⟨c,q⟩:=h
 cases x with
 |non =>
  cases d
  cases y with
  |non=>cases a;exact PySem.EqNone.ne_none_none<|Bu I q<|by simp
  |bl j=>cases a;exact PySem.EqNone.ne_none_bool<|Bu I q<|by simp
  |int j=>obtain⟨b,rfl⟩:=a;exact PySem.EqNone.ne_none_int<|Bu I q<|by simp
  |str j=>obtain⟨b,rfl⟩:=a;exact PySem.EqNone.ne_none_str<|Bu I q<|by simp
  |_=>exact absurd (show false=true from c) Bool.false_ne_true
 |bl i =>
  cases d
  cases y with
  |non=>cases a;exact PySem.EqNone.ne_bool_none<|Bu I q<|by simp
  |bl j=>cases a;exact ne_bool<|Bu I q<|congrArg not Yb
  |str j=>obtain⟨b,rfl⟩:=a;exact PySem.EqMixed.ne_bool_str<|Bu I q<|by simp
  |_=>exact absurd (show false=true from c) Bool.false_ne_true
 |int i =>
  obtain⟨t,rfl⟩:=d
  cases y with
  |non=>cases a;exact PySem.EqNone.ne_int_none<|Bu I q<|by simp
  |int j=>obtain⟨b,rfl⟩:=a;exact ne_int<|Bu I q<|congrArg not Uj
  |str j=>obtain⟨b,rfl⟩:=a;exact PySem.EqMixed.ne_int_str<|Bu I q<|by simp
  |_=>exact absurd (show false=true from c) Bool.false_ne_true
 |str i =>
  obtain⟨t,rfl⟩:=d
  cases y with
  |non=>cases a;exact PySem.EqNone.ne_str_none<|Bu I q<|by simp
  |bl j=>cases a;exact PySem.EqMixed.ne_str_bool<|Bu I q<|by simp
  |int j=>obtain⟨b,rfl⟩:=a;exact PySem.EqMixed.ne_str_int<|Bu I q<|by simp
  |str j=>obtain⟨b,rfl⟩:=a;exact ne_str<|Bu I q<|congrArg not JB
  |_=>exact absurd (show false=true from c) Bool.false_ne_true
 |byt i =>
  obtain⟨t,rfl⟩:=d
  cases y with
  |byt j=>obtain⟨b,rfl⟩:=a;exact W.ne_bytes<|Bu I q<|congrArg not Um
  |_=>exact absurd (show false=true from c) Bool.false_ne_true
 |_=>cases y <;> exact absurd (show false=true from c) Bool.false_ne_true
theorem HY:G7 X (compareOp .Lt)<|XH λi j=>.bl (decide (i<j)):=bU λ_ _ _ _ _ _ _ q=>lt_int q
theorem FT:G7 X (compareOp .LtE)<|XH λi j=>.bl (decide (i<=j)):=bU λ_ _ _ _ _ _ _ q=>le_int q
theorem QR:G7 X (compareOp .Gt)<|XH λi j=>.bl (decide (j<i)):=bU λ_ _ _ _ _ _ _ q=>gt_int q
theorem dG:G7 X (compareOp .GtE)<|XH λi j=>.bl (decide (j<=i)):=bU λ_ _ _ _ _ _ _ q=>ge_int q
theorem Nz:G7 X (compareOp .In) (λx y H Q=>∃i j,x=.str i/\y=.str j/\Q (.bl<|!(Builtin.Str.occurrences j i 0 j.length 1).isEmpty) H):=by
 intro d s σ H x y v u Q I b a h;obtain⟨i,j,rfl,rfl,q⟩:=h;obtain⟨t,rfl⟩:=b;obtain⟨c,rfl⟩:=a;exact in_str<|Bu I q U
theorem Sh:G7 X (compareOp .Is)<|λx y H Q=>y=.non/\Q (.bl (decide (x=.non))) H:=by
 intro c s σ H x y v u Q I a b h;obtain⟨rfl,q⟩:=h
 cases b;refine is_none_gen<|Bu I q ?_
 cases x <;> first
  | (cases a;rfl)
  | (obtain⟨t,rfl⟩:=a;rfl)
theorem Zx:G7 X (compareOp .IsNot)<|λx y H Q=>y=.non/\Q (.bl (!decide (x=.non))) H:=by
 intro c s σ H x y v u Q I a b h;obtain⟨rfl,q⟩:=h
 cases b;refine isnot_none_gen<|Bu I q ?_
 cases x <;> first
  | (cases a;rfl)
  | (obtain⟨t,rfl⟩:=a;rfl)
theorem BX(b:Expr){a:CmpOp}(h:a≠.In:=by decide)(d:a≠.NotIn:=by decide):behindInMarks a b=false:=by
 have e:(a == CmpOp.In)=false:=by cases a <;> first | rfl | exact absurd rfl h
 have c:(a == CmpOp.NotIn)=false:=by cases a <;> first | rfl | exact absurd rfl d
 cases b <;> simp[behindInMarks,e,c]
theorem Dd{c:CmpOp}{r:R2}(k:G7 X (compareOp c) r)(m:PE X a ta)(l:PE X b tb)(e:behindInMarks c b=false):PE X (.Compare a [c] [b] pos)<|bh r ta tb:=by
 intro n s σ H Q I h;exact wpAny_Compare1 (ie m l I h λv u d x y j f i g q=>k n d σ j x y v u Q f i g q) e
inductive WQ(Q:Bool->Hp->Prop)(x:V)(H':Hp):Prop
 | mk(k:_):x=.bl k->Q k H'->WQ Q x H'
def Wl(t:TE):TT:=λσ H Q=>t σ H λx H'=>WQ Q x H'
theorem BR{d:CmpOp}{r:R2}(E:G7 X (compareOp d) r)(G:PE X a ta)(F:PE X b tb)(o:behindInMarks d b=false):PT X (.Compare a [d] [b] pos)<|Wl<|bh r ta tb:=by
 intro f s σ H Q I h;refine wpAny_isTrue_Compare1 (CT (G f s σ H _ I h) λv n ⟨x,i,j,A,p⟩=>CT (F f n σ i _ j p) λu l ⟨y,B,q,w,g⟩ =>
  CT (E f l σ B x y v u _ q A w g) λc J ⟨z,m,C,D,k,e,t⟩=>?_) o
 subst e
 cases D;exact wpAny_truthy_bool ⟨m,C,t⟩
inductive Ul(r':R2)(tc:TE)(σ:St)(Q:VK)(y:V)(z:V)(H3:Hp):Prop
 |mk(k:_):z=.bl k->(if k=true then tc σ H3 λw' H4=>r' y w' H4 Q else Q (.bl false) H3)->Ul r' tc σ Q y z H3
def Wj(r r':R2)(ta tb tc:TE):TE:=λσ H Q=>ta σ H λx H1=>tb σ H1 λy H2=>r x y H2 λz H3=>Ul r' tc σ Q y z H3
theorem Gy{g i:CmpOp}{r o:R2}(D:G7 X (compareOp g) r)(B:G7 X (compareOp i) o)(G:PE X a ta)(J:PE X b tb)(C:PE X c tc)
  (P:lastMarks [g,i] [b,c]=false:=by with_unfolding_all rfl):PE X (.Compare a [g,i] [b,c] pos)<|Wj r o ta tb tc:=by
 intro f s σ H Q I h;refine Compare_chain (CT (G f s σ H _ I h) λv O ⟨x,p,M,Y,q⟩=>chain_link (CT (J f O σ p _ M q) λu N ⟨y,A,T,m,K⟩ =>
  CT (D f N σ A x y v u _ T Y m K) λd w ⟨z,j,n,F,k,e,l⟩=>?_)) P
 subst e
 cases F;refine wpAny_truthy_bool ?_
 cases k with
 |false=>exact ite_ff ⟨.bl false,j,n,U,l⟩
 |true=>exact ite_tt<|chain_last<|CT (C f w σ j _ n l) λR V ⟨W,S,t,L,E⟩=>B f V σ S y W u R Q t m L E
theorem Ig{g i:CmpOp}{r o:R2}(G:G7 X (compareOp g) r)(E:G7 X (compareOp i) o)(M:PE X a ta)(N:PE X b tb)(F:PE X c tc)
  (W:lastMarks [g,i] [b,c]=false:=by with_unfolding_all rfl):PT X (.Compare a [g,i] [b,c] pos)<|Wl<|Wj r o ta tb tc:=by
 intro f s σ H Q I h;refine isTrue_chain (CT (M f s σ H _ I h) λv V ⟨x,p,S,r1,q⟩=>test_link (CT (N f V σ p _ S q) λu T ⟨y,D,I2,m,O⟩ =>
  CT (G f T σ D x y v u _ I2 r1 m O) λd B ⟨z,j,n,L,k,e,l⟩=>?_)) W
 subst e
 cases L;refine wpAny_truthy_bool ?_
 cases k with
 |false =>
  obtain⟨k',C,q'⟩:=l
  cases C;exact ite_ff ⟨j,n,q'⟩
 |true =>
  refine ite_tt<|test_last<|CT (F f B σ j _ n l) λZ s4 ⟨z',H4,w,P,J⟩=>CT (E f s4 σ H4 y z' u Z _ w m P J) λd' s5 Y=>?_
  obtain⟨z2,t,K,A,k2,R,q5⟩:=Y;subst R
  cases A;exact wpAny_truthy_bool ⟨t,K,q5⟩
def sU(K:W.Frag)(x:V)(H:Hp)(k:Bool):Prop :=
 match x with
 |.non=>k=false
 |.bl b=>k=b
 |.int i=>k=(i != 0)
 |.str y=>y.length<=sizeLine/\k=((y.length:Int) != 0)
 |.byt y=>y.size<=sizeLine/\k=((y.size:Int) != 0)
 |.ref p=>(∃xs,De K H p xs/\k = !xs.isEmpty) \/ (∃xs,Gr K H p xs/\k = !xs.isEmpty) \/ ∃kvs,H p=some (.dK kvs)/\k = !kvs.isEmpty
 |_=>False
theorem Sy{κ:Type}{kvs:List (κ×V)}{vs:List (κ×Value)}(r:KV kvs vs):(!vs.isEmpty) = !kvs.isEmpty:=by
 cases r <;> rfl
theorem Lk{its:List Value}(r:Vals xs its):(!its.toArray.isEmpty) = !xs.isEmpty:=by
 cases r <;> simp
theorem JL:(sizeLine:Nat)<2 ^ 63:=by rw[sizeLine_eq];decide
theorem gD:xg X (λx H Q=>∃k,sU X.K x H k/\Q k H):=by
 intro B s σ H x v Q I g h;obtain⟨k,e,q⟩:=h;have hl:=JL;have A:sizeLine=16777216:=sizeLine_eq
 cases x with
 |non =>
  cases g;have a:k=false:=e;subst a;exact truthy_none ⟨H,I,q⟩
 |bl b =>
  cases g;have a:k=b:=e;subst a;exact wpAny_truthy_bool ⟨H,I,q⟩
 |int i =>
  obtain⟨t,rfl⟩:=g;have a:k=(i != 0):=e;subst a;exact PySem.P.truthy_int ⟨H,I,q⟩
 |str y =>
  obtain⟨t,rfl⟩:=g;obtain⟨w,a⟩:y.length<=sizeLine/\k=((y.length:Int) != 0):=e;subst a;exact PySem.P.truthy_str (by omega) ⟨H,I.tok _,q⟩
 |byt y =>
  obtain⟨t,rfl⟩:=g;obtain⟨w,a⟩:y.size<=sizeLine/\k=((y.size:Int) != 0):=e;subst a;exact W.truthy_bytes (by omega) ⟨H,I.tok _,q⟩
 |ref p =>
  cases g;have a:(∃f,De X.K H p f/\k = !f.isEmpty) \/ (∃f,Gr X.K H p f/\k = !f.isEmpty) \/ ∃c,H p=some (.dK c)/\k = !c.isEmpty:=e;rcases a with⟨f,j,a⟩ | ⟨f,j,a⟩ | ⟨c,j,a⟩
  ·subst a;obtain⟨n,r,o,u⟩:=I.list j;have d:=r.length;exact wpAny_truthy_list o.isList (by simp only[List.size_toArray];omega) ⟨H,I.tok _,by rw[Lk r];exact q⟩
  ·subst a;obtain⟨n,r,o,u⟩:=I.tuple j;have d:=r.length;exact truthy_tuple o (by simp only[List.size_toArray];omega) ⟨H,I.tok _,by rw[Lk r];exact q⟩
  ·subst a;obtain⟨u,z,l,r,m⟩:c.length<=sizeLine/\(p == sysModules)=false/\∃l,KV c l/\s.heap.DictOf (Bs X.prog X.w) p l:=I.hok p _ j;have d:c.length=l.length:=Paired.length r;exact wpAny_truthy_dict z m (by omega) ⟨H,I.tok _,by rw[Sy r];exact q⟩
 |_=>exact (show False from e).elim
theorem Lx(j:PE X a ta)(g:∀oI,isTrue a X.env oI=(do let v <-oI;standAt a.pos;holding [v] (truthy v))) :
  PT X a (λσ H Q=>ta σ H λx H'=>∃k,sU X.K x H' k/\Q k H'):=by
 intro b s σ H Q I h;exact isTrue_plain (CT (j b s σ H _ I h) λv e ⟨x,c,d,i,f⟩=>gD b e σ c x v Q d i f)<|g _
theorem vals1{x:V}{us:List Value}(r:Vals [x] us):∃u,us=[u]/\RelV x u:=by
 cases r with
 |cons b a=>cases a;exact⟨_,U,b⟩
theorem vals2{x y:V}{us:List Value}(r:Vals [x,y] us):∃u w',us=[u,w']/\RelV x u/\RelV y w':=by
 cases r with
 |cons c b =>
  cases b with
  |cons d a=>cases a;exact⟨_,_,U,c,d⟩
theorem Nh(b:X.calm=true):Fe X (.builtin "max") (λxs H Q=>∃i j,xs=[.int i,.int j]/\Q (.int (if j > i then j else i)) H):=by
 intro l s σ H xs f Q I r h;obtain⟨i,j,rfl,q⟩:=h;obtain⟨u,d,rfl,⟨t,rfl⟩,⟨e,rfl⟩⟩:=vals2 r;refine max_two_ints (I.ok.hd b) λc g k=>⟨_,H,I.kept k,?_,q⟩;by_cases a:j > i
 ·rw[if_pos a,if_pos a];exact⟨_,U⟩
 ·rw[if_neg a,if_neg a];exact⟨_,U⟩
theorem KZ(b:X.calm=true):Fe X (.builtin "min") (λxs H Q=>∃i j,xs=[.int i,.int j]/\Q (.int (if j<i then j else i)) H):=by
 intro l s σ H xs f Q I r h;obtain⟨i,j,rfl,q⟩:=h;obtain⟨u,d,rfl,⟨t,rfl⟩,⟨e,rfl⟩⟩:=vals2 r;refine min_two_ints (I.ok.hd b) λc g k=>⟨_,H,I.kept k,?_,q⟩;by_cases a:j<i
 ·rw[if_pos a,if_pos a];exact⟨_,U⟩
 ·rw[if_neg a,if_neg a];exact⟨_,U⟩
theorem Ip:Fe X (.type "int") (λxs H Q=>(∃i,xs=[.int i]/\Q (.int i) H) \/ ∃k,xs=[.bl k]/\Q (.int (if k then 1 else 0)) H):=by
 intro b s σ H xs c Q I r h;rcases h with⟨i,rfl,q⟩ | ⟨k,rfl,q⟩
 ·obtain⟨u,rfl,t,rfl⟩:=vals1 r;exact call_int_int ⟨.int i,H,I,⟨_,U⟩,q⟩
 ·obtain⟨u,rfl,a⟩:=vals1 r
  cases a;exact call_int_bool ⟨.int (if k then 1 else 0),H,I.tok _,⟨_,U⟩,q⟩
end
structure Su(h:Heap)(x dx C:Addr)(mA:Str->Option Value):Prop where
 obj:h.get? x=some (W.instObj C dx)
 ns:h.Ns1 dx mA
 ne:dx≠x
theorem Vj{d:Str->Option Value}(n:h.Ns1 dx d):∃od,h.get? dx=some od/\∀name,W.lookIn name od=some (d name):=by
 obtain⟨o,c,m,g,j,k,_,i⟩:=n;refine⟨o,g,λname=>?_⟩;have e:=i name;unfold nsFind findBy at e;rw[<-Array.find?_toList] at e;unfold W.lookIn;rw[j];dsimp only;split
 ·rename_i y q;rw[q] at e;exact congrArg some e
 ·rename_i q;rw[q] at e;have a:c.toList.any (·.refKey)=false:=by
   rw[List.any_eq_false];intro y f;obtain⟨z,t,b⟩:=k y<|Array.mem_toList_iff.mp f;simp[DictEntry.refKey,b]
  have l:¬ c.toList.any (·.refKey)=true:=by rw[a];exact eW
  rw[if_neg l];exact congrArg some e
theorem Su.look{x:Addr}{a:Str->Option Value}(I:Su h x dx C a):∃od,W.InstAt h x (W.instObj C dx) C (some od)/\∀name,W.lookIn name od=some (a name) :=
 let ⟨od,b,hl⟩:=Vj I.ns
 ⟨od,⟨I.obj,U,U,b⟩,hl⟩
section
variable{w:World}{K:W.Frag}{x:Addr}{mA:Str->Option Value}{name:Str}{v:Value}
theorem cC{e:Bool}(X:K.In s.heap)(I:Su s.heap x dx C mA)(d:W.plainGet K C name=true)(a:W.hasDictIn K C=true)
  (f:W.findIn K (.ref C) name=some none) (b:mA name=some v) (c:W.handedIn v=true) (h:Q v { s with toks:=s.toks+1 }) :
  wpAny (model prog w) A (getAttr (.ref x) name e) Q E s:=by
 obtain⟨g,J,hl⟩:=I.look;exact W.get_value X J (W.plainGet_of d).1 (W.findObj_own a f U<|by rw[hl,b]) c h
theorem Xh{pl:Sem Bool}{Q:Value×List Value->Shared->Prop}(X:K.In s.heap)(I:Su s.heap x dx C mA)(a:W.plainGet K C name=true)
  (e:W.findIn K (.ref C) name=some (some<|.ref f)) (d:W.isFn K (.ref f)=true) (b:mA name=none) (h:Q (.ref f,[.ref x]) s) :
  wpAny (model prog w) A (getMethod (.ref x) name pl) Q E s:=by
 obtain⟨c,J,hl⟩:=I.look;exact W.method_fn X J (W.plainGet_of a).1 (W.plainGet_of a).2 e (beq_iff_eq.mp d) (by show (W.lookIn name c).map (·.isSome)=some false;rw[hl,b];rfl) h
theorem Zm{Q:Unit->Shared->Prop}(X:K.In s.heap)(I:Su s.heap x dx C mA)
  (t:W.findIn K (.ref C) "__setattr__" = some (some<|.builtin "object.__setattr__"))(m:W.plainOver K C=true)(l:W.takerIn K C name=some none)(o:W.hasDictIn K C=true)
  (k:PySem.Within mA ns)(hsz:ns.length<=sizeLine)
  (h:∀h',Su h' x dx C (λy=>if y=name then some v else mA y)->Heap.SameBut dx s.heap h'->Q () { s with heap:=h',toks:=s.toks+2 }) :
  wpAny (model prog w) A (setAttr (.ref x) name v) Q E s:=by
 obtain⟨B,J,hl⟩:=I.look;refine W.set_plain X J t<|W.osa_open (s:={ s with toks:=s.toks+1 }) (r:=none) X J m l λb=>?_
 obtain⟨z,q,j⟩:=W.any_some o;have i:s.heap.get? x=some ⟨.ref C,some dx,.plain,#[]⟩:=I.obj;refine wpAny_bind<|wpAny_pure<|wpAny_bind<|wpAny_bind<|wpAny_loadPart i<|wpAny_bind<|W.Looks.here (s:={ s with toks:=s.toks+1 }) (W.looks_clsIn X q) ?_
 rw[j];refine wpAny_pure (a:=some dx)<|wpAny_bind<|wpAny_pure<|wpAny_bind ?_
 refine wpAny_nsSet1 (s:={ s with toks:=s.toks+1 }) I.ns λh' c g=>?_;obtain⟨u,n,p,f,e,d⟩:=c.count<|PySem.Within.cons name v k;refine wpAny_bind<|wpAny_lookBehind f (by rw[e];exact pastItsLine_dict<|be d<|by rw[bp];omega) ?_
 exact wpAny_pure<|h _ ⟨(g.2 _<|Ne.symm I.ne).trans I.obj,c,I.ne⟩ g
theorem Y4{R:Result->Shared->Prop}{vs:List Value}{b:List (Str×Value)}(X:K.In s.heap)(c:W.makesIn K C=true)
  (hi:W.findIn K (.ref C) "__init__" = some (some<|.ref f))(e:W.typeIn K (.ref f)=some (.type "function"))
  (h:codeAny (model prog w) (A.under<|.builtin "type.__call__" ⟨.ref C::vs,b⟩) (.call (.ref f) ⟨.ref (s.heap.objs.size+1)::vs,b⟩) (W.InitBack (s.heap.objs.size+1) R)
   { s with heap:=(s.heap.push W.emptyDict).push (W.instObj C s.heap.objs.size) }) :
  codeAny (model prog w) A (.call (.ref C) ⟨vs,b⟩) R s:=by
 obtain⟨i,g,d,t,os⟩:=s;exact W.make_core (W.makes_of X c) (W.looks_findIn X hi) (λa=>W.bind_fn X a e) (.inl U) h
end
def BV(f:Str)(v:V):List (Str×V)->List (Str×V)
 |[]=>[(f,v)]
 |(g,x)::r=>if g=f then (g,v)::r else (g,x)::BV f v r
theorem Al(f g:Str)(v:V):∀fs:List<|Str×V,(BV f v fs).lookup g=if g=f then some v else fs.lookup g
 |[]=>by
  show List.lookup g [(f,v)]=_;by_cases h:g=f
  ·have a:(g == f)=true:=beq_iff_eq.mpr h;simp only[List.lookup,a,if_pos h]
  ·have a:(g == f)=false:=beq_eq_false_iff_ne.mpr h;simp only[List.lookup,a,if_neg h]
 |(k,x)::r=>by
  have c:=Al f g v r;rw[show BV f v ((k,x)::r)=(if k=f then (k,v)::r else (k,x)::BV f v r) from rfl];by_cases b:k=f
  ·rw[if_pos b];by_cases h:g=k
   ·have a:(g == k)=true:=beq_iff_eq.mpr h;simp only[List.lookup,a,if_pos<|h.trans b]
   ·have a:(g == k)=false:=beq_eq_false_iff_ne.mpr h;simp only[List.lookup,a,if_neg (λe:g=f=>h<|e.trans b.symm)]
  ·rw[if_neg b];by_cases h:g=k
   ·have a:(g == k)=true:=beq_iff_eq.mpr h;simp only[List.lookup,a,if_neg (λe:g=f=>b<|h.symm.trans e)]
   ·have a:(g == k)=false:=beq_eq_false_iff_ne.mpr h;simp only[List.lookup,a];exact c
theorem KY(f:Str)(v:V):∀fs:List<|Str×V,f∈(BV f v fs).map (·.1)/\∀g,g∈fs.map (·.1)->g∈(BV f v fs).map (·.1)
 |[]=>⟨by simp[BV],λg h=>by simp at h⟩
 |(k,x)::r=>by
  obtain⟨c,b⟩:=KY f v r;rw[show BV f v ((k,x)::r)=(if k=f then (k,v)::r else (k,x)::BV f v r) from rfl];by_cases a:k=f
  ·rw[if_pos a];subst a;exact⟨by simp,λg h=>by simpa using h⟩
  ·rw[if_neg a];refine⟨?_,λg h=>?_⟩
   ·rw[cw];exact ba _ c
   ·rw[cw] at h |-;rcases ce.mp h with e | e
    ·exact ce.mpr<|.inl e
    ·exact ba _<|b g e
theorem Kh(f:Str)(v:V):∀fs:List<|Str×V,(BV f v fs).length<=fs.length+1
 |[]=>by simp[BV]
 |(k,x)::r=>by
  have b:=Kh f v r;rw[show BV f v ((k,x)::r)=(if k=f then (k,v)::r else (k,x)::BV f v r) from rfl];by_cases a:k=f
  ·rw[if_pos a,bp,bp];omega
  ·rw[if_neg a,bp,bp];omega
theorem Hk.some_of{v:V}{o:Option Value}(r:Hk (some v) o):∃u,o=some u/\RelV v u:=by
 cases o with
 |none=>exact (show False from r).elim
 |some u=>exact⟨u,U,r⟩
theorem Hk.none_of{o:Option Value}(r:Hk none o):o=none:=by
 cases o with
 |none=>rfl
 |some u=>exact (show False from r).elim
theorem U9{v:V}(r:RelV v u):W.handedIn u=true:=by
 cases v with
 |non=>cases (show u=Value.none from r);rfl
 |bl b=>cases (show u=Value.bool b from r);rfl
 |int i=>obtain⟨t,e⟩:=(show ∃t,u=Value.int i t from r);cases e;rfl
 |str x=>obtain⟨t,e⟩:=(show ∃t,u=Value.str x t from r);cases e;rfl
 |byt b=>obtain⟨t,e⟩:=(show ∃t,u=Value.bytes b t from r);cases e;rfl
 |flt b=>obtain⟨t,e⟩:=(show ∃t,u=Value.float b t from r);cases e;rfl
 |ref a=>cases (show u=Value.ref a from r);rfl
 |ty n=>cases (show u=Value.type n from r);rfl
section
variable{w:World}{fs rL:List (Str×V)}
theorem K3(b:GQ P w H h)(e:H a=some (.ins C dx fs)):∃mA,Su h a dx C mA/\(∀f,Hk (fs.lookup f)<|mA f)/\PySem.Within mA (fs.map (·.1))/\fs.length<=1000/\H dx=some (.own a):=by
 obtain⟨d,z,ne,c,mA,n,r,q⟩:=(show CW P w H h a (.ins C dx fs) from b a _ e);exact⟨mA,⟨c,n,ne⟩,r,q,z,d⟩
end
structure Pj(K:W.Frag)(C:Addr):Prop where
 pg:W.plainGet K C Str.empty=true
 hd:W.hasDictIn K C=true
 po:W.plainOver K C=true
 sa:W.findIn K (.ref C) "__setattr__" = some (some<|.builtin "object.__setattr__")
theorem Pj.get{K:W.Frag}(c:Pj K C)(f:Str):W.plainGet K C f=true:=c.pg
def Cg(K:W.Frag)(C:Addr)(f:Str):Prop:=W.findIn K (.ref C) f=some none
theorem Cg.taker{K:W.Frag}{f:Str}(n:Cg K C f):W.takerIn K C f=some none:=by
 unfold W.takerIn;rw[show W.findIn K (.ref C) f=some none from n];rfl
structure Zj(K:W.Frag)(C:Addr)(f:Str)(v:V)(u:Value):Prop where
 at_:W.findIn K (.ref C) f=some (some u)
 rel:RelV v u
 get:W.specialIn K u "__get__" = some none
 cp:W.copiedNames.contains f=false
structure Meth(K:W.Frag)(C:Addr)(m:Str)(f:Addr):Prop where
 at_:W.findIn K (.ref C) m=some (some<|.ref f)
 fn:W.isFn K (.ref f)=true
 kp:W.keepIn K (.ref f)=true
section
variable{fs:List (Str×V)}{f:Str}{v:V}
theorem SJ{b:Bool}(I:Inv X a8 σ H s)(e:H a=some (.ins C dx fs))(c:Pj X.K C)(n:Cg X.K C f)(l:fs.lookup f=some v)
  (h:∀u s',Inv X a8 σ H s'->RelV v u->Q u s'):wpAny (model X.prog X.w) A (getAttr (.ref a) f b) Q E s:=by
 obtain⟨i,O,r,_,_,_⟩:=K3 I.hok e;obtain⟨u,g,d⟩:=Hk.some_of (v:=v) (o:=i f)<|by rw[<-l];exact r f
 exact cC I.G_ O (c.get f) c.hd n g (U9 d)<|h u _ (I.tok _) d
theorem Fq{m:Str}{g:Addr}{pl:Sem Bool}{Q:Value×List Value->Shared->Prop}(I:Inv X a8 σ H s)(e:H a=some (.ins C dx fs))(c:Pj X.K C)(k:Meth X.K C m g)(l:fs.lookup m=none)
  (h:Q (.ref g,[.ref a]) s):wpAny (model X.prog X.w) A (getMethod (.ref a) m pl) Q E s:=by
 obtain⟨d,O,r,_,_,_⟩:=K3 I.hok e;have b:d m=none:=Hk.none_of<|by rw[<-l];exact r m
 exact Xh I.G_ O (c.get m) k.at_ k.fn b h
theorem Rt{y:V}{Q:Unit->Shared->Prop}(I:Inv X a8 σ H s)(e:H a=some (.ins C dx fs))(c:Pj X.K C)(n:Cg X.K C f)(hl:fs.length<1000)(w:RelV y u)
  (h:∀s',Inv X a8 σ (upd H a<|.ins C dx<|BV f y fs) s'->Q () s'):wpAny (model X.prog X.w) A (setAttr (.ref a) f u) Q E s:=by
 obtain⟨k,O,r,i,_,j⟩:=K3 I.hok e;have l:(fs.map (·.1)).length<=sizeLine:=by rw[af,sizeLine_eq];omega
 refine Zm I.G_ O c.sa c.po n.taker c.hd i l λm d t=>h _ ?_;have p:∃o,m.get? dx=some o:=let ⟨o,_,_,B,_⟩:=d.ns;⟨o,B⟩;refine I.write (x:=a) (e:=dx) (by rw[e];exact True.intro) (.inr j) (λb q D z=>(t.2 b D).trans z) p ?_;refine⟨by rw[Aw O.ne];exact j,?_,O.ne,d.obj,_,d.ns,λg=>?_,λg v=>?_⟩
 ·have:=Kh f y fs;omega
 ·show Hk ((BV f y fs).lookup g) (if g=f then some u else k g);rw[Al];by_cases q:g=f
  ·rw[if_pos q,if_pos q];exact w
  ·rw[if_neg q,if_neg q];exact r g
 ·by_cases q:g=f
  ·rw[q];exact (KY f y fs).1
  ·refine (KY f y fs).2 g<|i g λz=>v ?_
   show (if g=f then some u else k g)=none;rw[if_neg q];exact z
theorem Inv.made(I:Inv X a8 σ H s):Inv X a8 σ (upd (upd H s.heap.objs.size<|.own<|s.heap.objs.size+1) (s.heap.objs.size+1)<|.ins C s.heap.objs.size [])
  { s with heap:=(s.heap.push W.emptyDict).push (W.instObj C s.heap.objs.size) }:=by
 have c:(s.heap.push W.emptyDict).get? s.heap.objs.size=some W.emptyDict:=Heap.get?_push_size s.heap U;have f:((s.heap.push W.emptyDict).push<|W.instObj C s.heap.objs.size).get? (s.heap.objs.size+1)=some (W.instObj C s.heap.objs.size):=by
  have:=Heap.get?_push_size (s.heap.push W.emptyDict) (o:=W.instObj C s.heap.objs.size) U;rwa [Heap.size_push] at this
 have d:(s.heap.push W.emptyDict).Ns s.heap.objs.size<|λ_=>none:=⟨W.emptyDict,#[],_,c,U,(λe h=>absurd h<|by simp),λ_=>rfl⟩
 have g:=I.laid (a:=s.heap.objs.size) (o:=.own<|s.heap.objs.size+1) (h':=s.heap.push W.emptyDict) (t':=s.toks) (λb u q=>Heap.get?_push_of_some _ q) (al _) ⟨_,c⟩;refine g.laid (a:=s.heap.objs.size+1) (o:=.ins C s.heap.objs.size []) (t':=s.toks) (λb u q=>Heap.get?_push_of_some _ q) (Nat.le_of_eq<|Heap.size_push _ _) ?_;have ne:s.heap.objs.size≠s.heap.objs.size+1:=cf<|gu _
 refine⟨by rw[Aw ne,Aj],eJ _,ne,f,λ_=>none,(Heap.Ns1.of_empty d).at λo q=>Heap.get?_push_of_some _ q,λ_=>True.intro,λy i=>absurd U i⟩
theorem bw{w:World}{a:Env}{f:Str}(b:attributeBase e f a (eval e a)=eval e a)
  (h:wpAny (model prog w) A (eval e a) (λo s₁=>wpAny (model prog w) A (getAttr o f true) Q E s₁) E s):wpAny (model prog w) A (eval (.Attribute e f pos) a) Q E s :=
 Attribute_any_ h (by rw[arm_eval_Attribute,b])
end
inductive d7(K:W.Frag)(f:Str)(Q:VK)(x:V)(H1:Hp):Prop
 | mk(a C dx fs v:_):x=.ref a->H1 a=some (.ins C dx fs)->Pj K C->Cg K C f->fs.lookup f=some v->Q v H1->d7 K f Q x H1
def sO(K:W.Frag)(ta:TE)(f:Str):TE:=λσ H Q=>ta σ H λx H1=>d7 K f Q x H1
inductive dh(K:W.Frag)(f:Str)(D:Ends)(σ:St)(y:V)(x:V)(H2:Hp):Prop
 | mk(a C dx fs:_):x=.ref a->H2 a=some (.ins C dx fs)->Pj K C->Cg K C f->fs.length<1000->D.nx σ (upd H2 a (.ins C dx (BV f y fs)))->dh K f D σ y x H2
def yW(K:W.Frag)(ta tv:TE)(f:Str):TS:=λD σ H=>tv σ H λy H1=>ta σ H1 λx H2=>dh K f D σ y x H2
section
variable{o value:Expr}{f:Str}{nL:Pos}{tv:TE}
theorem Bc(o:PE X e ta)(r:attributeBase e f X.env (eval e X.env)=eval e X.env):PE X (.Attribute e f pos)<|sO X.K ta f:=by
 intro t s σ H Q I h;refine bw r<|CT (o t s σ H _ I h) λu z i=>?_
 obtain⟨x,b,d,p,a,C,w,fs,v,m,g,c,n,l,q⟩:=i;subst m;obtain rfl:u=Value.ref a:=p;exact SJ d g c n l λA y k j=>⟨v,b,k,j,q⟩
theorem DG(z:PE X o ta)(i:PE X value tv)(t:swapsWith value (some<|.Attribute o f nL) pos.line X.env=pure false):PS X (.Assign [.Attribute o f nL] value pos)<|yW X.K ta tv f:=by
 intro b s σ H D I h;refine plainObj_wpAny_Assign_Attribute (CT (i b s σ H _ I h) λu m ⟨y,g,j,r,q⟩=>CT (z b m σ g _ j q) λd E ⟨x,G,p,v,a,C,B,fs,A,k,c,n,l,e⟩=>?_) t;subst A;obtain rfl:d=Value.ref a:=v;exact Rt p k c n l r λF w=>⟨σ,_,w,e⟩
end
section
variable{c:Value}{b:Bool}
inductive J6(K:W.Frag)(H:Hp):V->Value->Prop where
 | non:J6 K H .non (.type "NoneType")
 | bl(x:Bool):J6 K H (.bl x) (.type "bool")
 | int(i:Int):J6 K H (.int i) (.type "int")
 | str(x:Str):J6 K H (.str x) (.type "str")
 | flt(x:UInt64):J6 K H (.flt x) (.type "float")
 | lst{a:Addr}{xs:List V}(e:H a=some (.lst xs)):J6 K H (.ref a) (.type "list")
 | frz{a:Addr}{o:Obj}{xs:List V}(e:H a=some (.frz o (.lst xs))):J6 K H (.ref a) (.type "list")
 | tup{a:Addr}{xs:List V}(e:H a=some (.tup xs)):J6 K H (.ref a) (.type "tuple")
 | dK{a:Addr}{kvs:List (Key×V)}(e:H a=some (.dK kvs)):J6 K H (.ref a) (.type "dict")
 | dT{a:Addr}{kvs:List (List Key×V)}(e:H a=some (.dT kvs)):J6 K H (.ref a) (.type "dict")
 | ins{a C dx:Addr}{fs:List (Str×V)}(e:H a=some (.ins C dx fs))(cl:Pj K C)(ha:W.findIn K (.ref C) "__class__" = some (some (.builtin "object.__class__")))
   (hn:W.specialIn K (.builtin "object.__class__") "__get__" = some (some<|.builtin "getset_descriptor.__get__")) (YN:W.takesIn K (.builtin "object.__class__")=some true)
   (hm:W.mroIn K C (.type "object")=some true):J6 K H (.ref a)<|.ref C
theorem U7{x:V}{t:Value}(I:Inv X a8 σ H s)(f:RelV x u)(D:J6 X.K H x t)(e:W.kitOne X.K t c=some b)(h:∀tk,Q (.bool b) { s with toks:=tk }) :
  wpAny (model X.prog X.w) A (call (.builtin "isinstance") [u,c]) Q E s:=by
 cases D with
 |non=>cases (show u=Value.none from f);exact W.kia_one W.kitx_none I.G_ True.intro e (λz=>nomatch z) h
 |bl y=>cases (show u=Value.bool y from f);exact W.kia_one W.kitx_bool I.G_ True.intro e (λz=>nomatch z) h
 |int i=>obtain⟨t,q⟩:=(show ∃t,u=Value.int i t from f);cases q;exact W.kia_one W.kitx_int I.G_ True.intro e (λz=>nomatch z) h
 |str y=>obtain⟨t,q⟩:=(show ∃t,u=Value.str y t from f);cases q;exact W.kia_one W.kitx_str I.G_ True.intro e (λz=>nomatch z) h
 |flt y=>obtain⟨t,q⟩:=(show ∃t,u=Value.float y t from f);cases q;exact W.kia_one W.kitx_float I.G_ True.intro e (λz=>nomatch z) h
 | @lst a k d =>
  cases (show u=Value.ref a from f);obtain⟨_,_,n,_,g⟩:=(show CW X.prog X.w H s.heap a (.lst k) from I.hok a _ d);exact W.kia_one W.kitx_list I.G_ ⟨_,g,U⟩ e (λz=>nomatch z) h
 | @frz a G k d =>
  cases (show u=Value.ref a from f);obtain⟨_,_,_,n,_,g⟩:=(show CW X.prog X.w H s.heap a (.frz G<|.lst k) from I.hok a _ d);exact W.kia_one W.kitx_list I.G_ ⟨_,g,U⟩ e (λz=>nomatch z) h
 | @tup a k d =>
  cases (show u=Value.ref a from f);obtain⟨_,_,_,p⟩:=(show CW X.prog X.w H s.heap a (.tup k) from I.hok a _ d);obtain⟨o,g,l,_⟩:=p;exact W.kia_one W.kitx_tuple I.G_ ⟨o,g,l⟩ e (λz=>nomatch z) h
 | @dK a j d =>
  cases (show u=Value.ref a from f);obtain⟨_,_,L,_,p⟩:=(show CW X.prog X.w H s.heap a (.dK j) from I.hok a _ d);obtain⟨o,r,w,g,l,_⟩:=p;exact W.kia_one W.kitx_dict I.G_ ⟨o,g,l.1⟩ e (λz=>nomatch z) h
 | @dT a j d =>
  cases (show u=Value.ref a from f);obtain⟨_,_,k,_,o,r,w,g,l,_⟩:=(show CW X.prog X.w H s.heap a (.dT j) from I.hok a _ d);exact W.kia_one W.kitx_dict I.G_ ⟨o,g,l.1⟩ e (λz=>nomatch z) h
 | @ins a C P fs d m B K v F =>
  cases (show u=Value.ref a from f);obtain⟨N,O,_⟩:=K3 I.hok d;obtain⟨M,J,_⟩:=O.look;exact W.kia_one (W.kitx_own (m.get _) m.hd B K v F) I.G_ J e (λz=>nomatch z) h
end
structure A_(k:Nat)(A:Around):Prop where
 hd:A.handled=none
 dp:A.depth+3 * k+5<recursionLimit
 un:A.units+16 * k+200<cLine
theorem A_.mono{k:Nat}(r:A_ k A)(h:j<=k):A_ j A:=⟨r.hd,by have:=r.dp;omega,by have:=r.un;omega⟩
theorem ad{k:Nat}(r:A_ k A)(h:j<=k:=by decide):A_ j A:=r.mono h
theorem A_.deeper{k:Nat}(r:A_ (k+1) A)(a:Env):A_ k (A.deeper a) :=
 ⟨r.hd,by have:=r.dp;show A.depth+1+3 * k+5<_;omega,by have:=r.un;show A.units+3+16 * k+200<_;omega⟩
theorem Rm{us:List Value}{a:List (Str×Value)}:(A.under<|.builtin "type.__call__" ⟨.ref C::us,a⟩).depth=A.depth+1:=by
 first | rfl | simp[Around.under,Code.weight,Code.isCreation,Code.isGuard,Code.isCaller,Code.frames,Code.isFrame,guardIds]
theorem Ru{us:List Value}{a:List (Str×Value)}:(A.under<|.builtin "type.__call__" ⟨.ref C::us,a⟩).units=A.units+1:=by
 first | rfl | simp[Around.under,Code.cUnits,Code.frames,Code.isFrame]
theorem A_.make{k:Nat}(r:A_ (k+1) A)(C:Addr)(us:List Value)(a:List<|Str×Value):A_ k (A.under<|.builtin "type.__call__" ⟨.ref C::us,a⟩) :=
 ⟨r.hd,by have:=r.dp;rw[Rm];omega,by have:=r.un;rw[Ru];omega⟩
theorem A_.depth{k:Nat}(r:A_ k A):A.depth<recursionLimit:=by have:=r.dp;omega
theorem A_.units{k:Nat}(r:A_ k A):A.units+64<cLine:=by have:=r.un;omega
def qw:TA:=λ_ H Q=>Q [] H
def dj(ta:TE)(tr:TA):TA:=λσ H Q=>ta σ H λx H1=>tr σ H1 λxs H2=>Q (x::xs) H2
section
variable{t:TA}
theorem Ab:PA X [] qw:=λ_ _ _ _ H Q I h=>Calls.spliced_nil ⟨[],H,I,.nil,h⟩
theorem Aa(r:PE X e te)(c:PA X es t)(o:starEach (e::es) X.env=(false,eval e X.env)::starEach es X.env:=by rfl):PA X (e::es)<|dj te t:=by
 intro a b s σ H Q I h;rw[o];show wpAny _ _ (spliced<|(false,eval e X.env)::backTo a (starEach es X.env)) _ _ s;refine Calls.spliced_cons<|CT (r b s σ H _ I h) λu i j=>?_
 obtain⟨x,f,g,p,k⟩:=j;exact CT (c a b i σ f _ g k) λw v ⟨m,q,l,n,d⟩=>⟨x::m,q,l,.cons p n,d⟩
def tTup(t:TA):TE:=λσ H Q=>t σ H λxs H1=>xs.length<=sizeLine/\∀p,H1 p=none->Q (.ref p) (upd H1 p<|.tup xs)
def tLst(t:TA):TE:=λσ H Q=>t σ H λxs H1=>xs.length<=sizeLine/\∀p,H1 p=none->Q (.ref p) (upd H1 p<|.lst xs)
theorem CK {x1} (h:PA X es t):PE X (.Tuple es x1 pos)<|tTup t:=by
 intro k s σ H Q I i;refine wpAny_Tuple_spliced<|CT (h pos k s σ H _ I i) λj a ⟨f,c,d,r,z,q⟩=>⟨by rw[<-r.length];exact z,?_⟩
 have g:c a.heap.objs.size=none:=d.hok.fresh<|al _
 refine⟨.ref a.heap.objs.size,upd c a.heap.objs.size<|.tup f,d.laid (t':=a.toks) (λb u e=>Heap.get?_push_of_some _ e) (al _) ?_,U,q _ g⟩;exact⟨z,j,r,⟨_,Heap.get?_push_size _ U,U,_,U⟩⟩
theorem DK(h:PA X es t):PE X (.List es pos)<|tLst t:=by
 intro k s σ H Q I i;refine wpAny_List_spliced<|CT (h pos k s σ H _ I i) λj a ⟨f,c,d,r,z,q⟩=>⟨by rw[<-r.length];exact z,?_⟩
 have g:c a.heap.objs.size=none:=d.hok.fresh<|al _
 refine⟨.ref a.heap.objs.size,upd c a.heap.objs.size<|.lst f,d.laid (t':=a.toks) (λb u e=>Heap.get?_push_of_some _ e) (al _) ?_,U,q _ g⟩;exact⟨z,j,0,r,Heap.get?_push_size _ U⟩
end
abbrev Sp:=List V->Hp->VK->XK->Prop
abbrev V0:=List Env->Hp->Shared->XK->Value->Shared->Prop
structure TQ(P:Program)(w:World)(K:W.Frag)(mg:Str->Option Value)(base:Heap)(A:Around)(outer:List Env)(s:Shared)(H:Hp):Prop where
 frames:A.frames=some outer
 mod:Mod K mg base
 bs:∀b o,base.get? b=some o->s.heap.get? b=some o/\H b=none
 bsz:base.objs.size<=s.heap.objs.size
 Kc:s.heap.FunFrames base outer
 frf:∀b∈frs outer,H b=none
 hok:GQ P w H s.heap
 bare:AllBare s.gens
inductive CE(outer:List Env)(P:Program)(w:World)(H:Hp)(s:Shared)(Q:VK)(u:Value)(s':Shared):Prop
 | mk(v H':_):s'.os=s.os->AllBare s'.gens->Un (frs outer) [] H H' s.heap s'.heap->GQ P w H' s'.heap->RelV v u->Q v H'->CE outer P w H s Q u s'
def CR(CX:V0)(outer:List Env)(P:Program)(w:World)(H:Hp)(s:Shared)(Q:VK)(E:XK)(r:Result)(s':Shared):Prop :=
 match r with
 |.ok (.ret u)=>CE outer P w H s Q u s'
 |.ok _=>False
 |.error e=>CX outer H s E e s'
structure An(P:Program)(w:World)(K:W.Frag)(mg:Str->Option Value)(base:Heap)(CX:V0)(k:Nat)(f:Addr)(fd:FuncData)(ps:List Str)(sp:Sp):Prop where
 len:∀vs H Q E,sp vs H Q E->vs.length=ps.length
 run:∀(A:Around)(outer:List Env)(s:Shared)(H:Hp)(args:Args)(us:List Value)(vs:List V)(Q:VK)(E:XK),A_ k A->TQ P w K mg base A outer s H->BindsTo s fd args (ps.zip us)->Vals vs us->sp vs H Q E ->
  codeAny (model P w) A (.call (.ref f) args) (CR CX outer P w H s Q E) s
theorem TQ.make{w:World}{K:W.Frag}{a:List Env}(e:TQ P w K mg base A a s H)(C:Addr)(us:List Value)(b:List<|Str×Value) :
  TQ P w K mg base (A.under<|.builtin "type.__call__" ⟨.ref C::us,b⟩) a s H:=⟨by first | exact e.frames | (simpa [Around.under,Code.envs,Code.isFrame,pushEnvs] using e.frames),e.mod,e.bs,e.bsz,e.Kc,e.frf,e.hok,e.bare⟩
section
variable{s':Shared}
theorem Inv.env0(I:Inv X a8 σ H s):TQ X.prog X.w X.K X.mg X.base X.A X.stack s H :=
 ⟨I.ok.frames,I.ok.mod,I.bs,be I.ok.bsz I.sz,I.stack,I.Jd,I.hok,I.bare⟩
theorem Inv.after{Q:VK}(I:Inv X a8 σ H s)(h:CE X.stack X.prog X.w H s Q u s'):EP X a8 σ Q u s':=by
 obtain⟨v,i,os,a,un,c,r,q⟩:=h;obtain⟨e,g,d,t,f⟩:=s';obtain rfl:f=s.os:=os;exact⟨v,i,I.call (h':=e) (g':=g) (d':=d) (t':=t) (ch:=[]) un c a (λb z=>absurd z<|by simp),r,q⟩
end
def di(sp:Sp)(mm:List V)(E:XK)(t:TA):TE:=λσ H Q=>t σ H λvs H1=>sp (vs++mm) H1 Q E
inductive Wu(C:Addr)(m:Str)(sp:Sp)(mm:List V)(E:XK)(t:TA)(σ:St)(Q:VK)(x:V)(H1:Hp):Prop
 |mk(a dx fs:_):x=.ref a->H1 a=some (.ins C dx fs)->fs.lookup m=none->(t σ H1 λvs H2=>sp (x::(vs++mm)) H2 Q E)->Wu C m sp mm E t σ Q x H1
def YW(C:Addr)(m:Str)(sp:Sp)(mm:List V)(E:XK)(ta:TE)(t:TA):TE:=λσ H Q=>ta σ H λx H1=>Wu C m sp mm E t σ Q x H1
def tH(C:Addr)(sp:Sp)(mm:List V)(E:XK)(t:TA):TE:=λσ H Q=>t σ H λvs H1=>∀x dx,H1 x=none->H1 dx=none->dx≠x ->
 sp (.ref x::(vs++mm)) (upd (upd H1 dx<|.own x) x<|.ins C dx []) (λv H2=>v=.non/\Q (.ref x) H2) E
def Binds(K:W.Frag)(fd:FuncData)(ps:List Str)(ds:List Value):Prop :=
 ∀(s:Shared)(us:List Value),K.In s.heap->(us++ds).length=ps.length->BindsTo s fd ⟨us,[]⟩ (ps.zip<|us++ds)
theorem Binds.all{K:W.Frag}(h:∀us:List Value,us.length=ps.length->bindArgs fd ⟨us,[]⟩=pure (ps.zip us)):Binds K fd ps []:=λs us _ hl=>by
 rw[dE] at hl |-;exact .of_eq<|h us hl
def Gi(CX:V0)(X:Cx)(E:XK):Prop:=∀(a8:List<|Addr × Obj)(σ:St)(H:Hp)(s:Shared)(e:Value)(s':Shared),Inv X a8 σ H s->CX X.stack H s E e s'->X.xe e s'
section
variable{CX:V0}{k:Nat}{sp:Sp}{mm:List V}{ds:List Value}{E:XK}{m:Str}{p:Pos}{o:Expr}{t:TA}
theorem Ka{Q:VK}{us:List Value}(F:An X.prog X.w X.K X.mg X.base CX k f fd ps sp)(c:A_ k X.A)(j:Binds X.K fd ps ds)(g:Vals mm ds)(d:Gi CX X E)
  (I:Inv X a8 σ H s)(r:Vals vs us)(h:sp (vs++mm) H Q E):wpAny (model X.prog X.w) X.A (call (.ref f) us) (EP X a8 σ Q) X.xe s:=by
 have b:Vals (vs++mm)<|us++ds:=r.append g
 have hl:(us++ds).length=ps.length:=by rw[<-b.length];exact F.len _ _ _ _ h
 refine wpAny_call<|codeAny_mono (F.run X.A X.stack s H ⟨us,[]⟩ (us++ds) (vs++mm) Q E c I.env0 (j s us I.G_ hl) b h) λr l a=>?_
 cases r with
 |error e=>exact d a8 σ H s e l I a
 |ok i =>
  cases i with
  |ret u=>exact I.after a
  |next=>exact False.elim a
  |brk=>exact False.elim a
  |cont=>exact False.elim a
theorem Ak(F:An X.prog X.w X.K X.mg X.base CX k f fd ps sp)(c:A_ k X.A)(o:Gl X x)(i:X.mg x=some (.ref f))(n:W.keepIn X.K (.ref f)=true)(d:Binds X.K fd ps ds)(j:Vals mm ds)(g:Gi CX X E)
  (u:PA X (e::es) t) (m:(x == ("__debug__" : Str))=false:=by decide) (l:starEach (e::es) X.env=(false,eval e X.env)::starEach es X.env:=by rfl) (a:(backTo pos<|starEach es X.env).any (·.1)=false:=by rfl) :
  PE X (.Call (.Name x p) (e::es) [] pos) (di sp mm E t):=by
 intro v s σ H Q I h;refine wpAny_Call_Name_kw<|Jz I o i ?_ m
 refine W.callWith_K (h₀:=X.base) I.ok.mod.kin n (CT (u pos v s σ H _ I h) λy z ⟨A,w,b,r,q⟩=>⟨b.G_,?_⟩) l a;exact Ka F c d j g b r q
theorem Bp{pl:Sem Bool}(z:PE X o ta)(c:Pj X.K C)(j:Meth X.K C m f)(F:An X.prog X.w X.K X.mg X.base CX k f fd ps sp)(p:A_ k X.A)(D:Binds X.K fd ps ds)(L:Vals mm ds)(v:Gi CX X E)(A:PA X (e::es) t)
  (d:starEach (e::es) X.env=(false,eval e X.env)::starEach es X.env:=by rfl)(b:(backTo pos<|starEach es X.env).any (·.1)=false:=by rfl)
  (y:eval (.Call (.Attribute o m g0) (e::es) [] pos) X.env=(do
   let ov <-eval o X.env
   standAt g0.atName
   let (f,first) <-holding [ov] (getMethod ov m pl)
   callWith pos f first (backTo pos<|starEach (e::es) X.env) (backToKw pos<|keywordEach [] X.env)):=by rfl) :
  PE X (.Call (.Attribute o m g0) (e::es) [] pos) (YW C m sp mm E ta t):=by
 intro g s σ H Q I h;refine W.methodCall_KW (pl:=pl) (CT (z g s σ H _ I h) λu K ⟨x,w,i,M,a,O,fs,B,J,l,q⟩=>?_) y;subst B;obtain rfl:u=Value.ref a:=M;refine Fq i J c j l ?_;refine W.callWith_K (first:=[.ref a]) (h₀:=X.base) I.ok.mod.kin j.kp (CT (A pos g K σ w _ i q) λus P ⟨vs,N,n,r,G⟩=>⟨n.G_,?_⟩) d b;exact Ka (us:=.ref a::us) (vs:=.ref a::vs) F p D L v n (.cons U r) G
theorem Bm{pl:Sem Bool}(p:PE X o ta)(c:Pj X.K C)(d:Meth X.K C m f)(F:An X.prog X.w X.K X.mg X.base CX k f fd ps sp)(e:A_ k X.A)(t:Binds X.K fd ps ds)(j:Vals mm ds)(g:Gi CX X E)
  (n:eval (.Call (.Attribute o m g0) [] [] pos) X.env=(do
   let ov <-eval o X.env
   standAt g0.atName
   let (f,first) <-holding [ov] (getMethod ov m pl)
   callWith pos f first (backTo pos<|starEach [] X.env) (backToKw pos<|keywordEach [] X.env)):=by rfl) :
  PE X (.Call (.Attribute o m g0) [] [] pos) (YW C m sp mm E ta qw):=by
 intro w s σ H Q I h;refine W.methodCall_KW (pl:=pl) (CT (p w s σ H _ I h) λu A ⟨x,y,b,r,a,z,fs,v,i,l,q⟩=>?_) n;subst v;obtain rfl:u=Value.ref a:=r;refine Fq b i c d l ?_;exact W.callWith_K0 (first:=[.ref a]) b.G_ d.kp<|Ka (us:=[.ref a]) (vs:=[.ref a]) F e t j g b (.cons U .nil) q
structure Mk(K:W.Frag)(C f:Addr):Prop where
 makes:W.makesIn K C=true
 init:W.findIn K (.ref C) "__init__" = some (some<|.ref f)
 fn:W.isFn K (.ref f)=true
 kp:W.keepIn K (.ref C)=true
theorem Xz{Q:VK}{us:List Value}(M:Mk X.K C f)(F:An X.prog X.w X.K X.mg X.base CX k f fd ps sp)(g:A_ (k+1) X.A)(i:Binds X.K fd ps ds)(m:Vals mm ds)
  (j:Gi CX X E)(I:Inv X a8 σ H s)(r:Vals vs us)
  (h:∀x dx,H x=none->H dx=none->dx≠x->sp (.ref x::(vs++mm)) (upd (upd H dx<|.own x) x<|.ins C dx []) (λv H2=>v=.non/\Q (.ref x) H2) E) :
  wpAny (model X.prog X.w) X.A (call (.ref C) us) (EP X a8 σ Q) X.xe s:=by
 have d:=h (s.heap.objs.size+1) s.heap.objs.size (I.hok.fresh<|ke _) (I.hok.fresh<|al _)<|cf<|gu _
 have b:=Inv.made (C:=C) I;have c:Vals (V.ref (s.heap.objs.size+1)::(vs++mm))<|Value.ref (s.heap.objs.size+1)::(us++ds):=.cons U<|r.append m
 have hl:(Value.ref (s.heap.objs.size+1)::us++ds).length=ps.length:=by
  have e:=c.length;rw[F.len _ _ _ _ d] at e;exact e.symm
 refine wpAny_call (Y4 (f:=f) I.G_ M.makes M.init (beq_iff_eq.mp M.fn) (codeAny_mono (F.run _ X.stack _ _ ⟨Value.ref (s.heap.objs.size+1)::us,[]⟩ (Value.ref (s.heap.objs.size+1)::(us++ds)) _ _ E (g.make C us [])
  (b.env0.make C us []) (i _ (Value.ref (s.heap.objs.size+1)::us) b.G_ hl) c d) λr n a=>?_))
 cases r with
 |error e=>exact j a8 σ _ _ e n b a
 |ok t =>
  cases t with
  |ret u =>
   obtain⟨v,w,q,l,p,o⟩:=b.after a;subst p;exact⟨l,⟨V.ref<|s.heap.objs.size+1,w,q,U,o⟩⟩
  |next=>exact False.elim a
  |brk=>exact False.elim a
  |cont=>exact False.elim a
theorem Iz(M:Mk X.K C f)(F:An X.prog X.w X.K X.mg X.base CX k f fd ps sp)(c:A_ (k+1) X.A)(n:Gl X x)(i:X.mg x=some (.ref C))(d:Binds X.K fd ps ds)(j:Vals mm ds)(g:Gi CX X E)
  (o:PA X (e::es) t) (m:(x == ("__debug__" : Str))=false:=by decide) (l:starEach (e::es) X.env=(false,eval e X.env)::starEach es X.env:=by rfl) (a:(backTo pos<|starEach es X.env).any (·.1)=false:=by rfl) :
  PE X (.Call (.Name x p) (e::es) [] pos) (tH C sp mm E t):=by
 intro u s σ H Q I h;refine wpAny_Call_Name_kw<|Jz I n i ?_ m
 refine W.callWith_K (h₀:=X.base) I.ok.mod.kin M.kp (CT (o pos u s σ H _ I h) λw y ⟨z,v,b,r,q⟩=>⟨b.G_,?_⟩) l a;exact Xz M F c d j g b r q
end
structure Av(N P:List Str)(sc:Scope):Prop where
 kind:sc.kind=.function
 co:sc.isCoroutine=false
 gen:sc.isGenerator=false
 nd:N.Nodup
 pre:N.take P.length=P
 par:∀x∈P,sc.names.lookup x=some .local \/ sc.names.lookup x=some .cell
 nofree:∀y∈sc.names,y.2≠.free
theorem Bg{N P:List Str}{h:Scope}(a:h.kind=.function:=by rfl)(b:h.isCoroutine=false:=by rfl)(c:h.isGenerator=false:=by rfl)(d:N.Nodup:=by decide)(e:N.take P.length=P:=by rfl)(f:∀x∈P,h.names.lookup x=some .local \/ h.names.lookup x=some .cell:=by decide)(g:∀y∈h.names,y.2≠.free:=by decide):Av N P h:=⟨a,b,c,d,e,f,g⟩
theorem N7{kindOf:Str->Option NameKind}:∀{binds:List (Str × Value)}{m:Str->Option Value},(∀v,(x,v) ∉ binds)->bindL kindOf binds m x=m x
 |[],_,_=>rfl
 |(n,v)::r,m,h=>by
  unfold bindL;rw[N7 λw a=>h w<|ba _ a];split
  ·have:x≠n:=by rintro rfl;exact h v bg
   simp[this]
  ·rfl
theorem NT{kindOf:Str->Option NameKind}:∀{binds:List (Str × Value)}{m:Str->Option Value},(∀v,(x,v) ∉ binds)->bindC kindOf binds m x=m x
 |[],_,_=>rfl
 |(n,v)::r,m,h=>by
  unfold bindC;rw[NT λw a=>h w<|ba _ a];split
  ·rfl
  ·have:x≠n:=by rintro rfl;exact h v bg
   simp[this]
theorem N6{kindOf:Str->Option NameKind}{v:Value}:∀{P:List Str}{vs:List Value}{i:Nat}{m:Str->Option Value},P.Nodup->P[i]? = some x->vs[i]? = some v->kindOf x=some .local ->
  bindL kindOf (P.zip vs) m x=some v
 |[],_,_,_,_,h,_,_=>by simp at h
 |_::_,[],_,_,_,_,h,_=>by simp at h
 |p::P,w::vs,0,m,c,a,b,d=>by
  simp at a b;subst a;subst b;show bindL kindOf ((p,w)::P.zip vs) m p=_;unfold bindL;rw[N7 λv e=>(fw.mp c).1 (List.of_mem_zip e).1,if_pos d];simp
 |p::P,w::vs,i+1,m,c,a,b,d=>by
  show bindL kindOf ((p,w)::P.zip vs) m x=_;unfold bindL;exact N6 (i:=i) (List.nodup_cons.mp c).2 (by simpa using a) (by simpa using b) d
theorem Nq{kindOf:Str->Option NameKind}{v:Value}:∀{P:List Str}{vs:List Value}{i:Nat}{m:Str->Option Value},P.Nodup->P[i]? = some x->vs[i]? = some v->kindOf x≠some .local ->
  bindC kindOf (P.zip vs) m x=some v
 |[],_,_,_,_,h,_,_=>by simp at h
 |_::_,[],_,_,_,_,h,_=>by simp at h
 |p::P,w::vs,0,m,c,a,b,d=>by
  simp at a b;subst a;subst b;show bindC kindOf ((p,w)::P.zip vs) m p=_;unfold bindC;rw[NT λv e=>(fw.mp c).1 (List.of_mem_zip e).1,if_neg d];simp
 |p::P,w::vs,i+1,m,c,a,b,d=>by
  show bindC kindOf ((p,w)::P.zip vs) m x=_;unfold bindC;exact Nq (i:=i) (List.nodup_cons.mp c).2 (by simpa using a) (by simpa using b) d
def start(N:List Str)(vs:List V):St:=vs.map some++List.replicate (N.length - vs.length) none
def Kd(CX:V0)(P:Program)(w:World)(K:W.Frag)(mg:Str->Option Value)(base:Heap)(N:List Str)(qual:Str)(scope:Scope)(f:Addr)(cd:Value)(A:Around)(outer:List Env)(s:Shared)(H:Hp)(E:XK):Cx where
 prog:=P
 w:=w
 K:=K
 mg:=mg
 base:=base
 A:=A.deeper<|envOfC qual scope s.heap.objs.size f cd
 N:=N
 s₀:=s
 H₀:=H
 env:=envOfC qual scope s.heap.objs.size f cd
 outer:=outer
 stack:=envOfC qual scope s.heap.objs.size f cd::outer
 ex:=[]
 calm:=true
 fn:=λ_=>true
 pn:=[]
 xe:=λe s'=>wpAny (model P w) (A.deeper<|envOfC qual scope s.heap.objs.size f cd) (leaving (envOfC qual scope s.heap.objs.size f cd) e) (λ_ ED=>CX outer H s E e ED) (λe' ED=>CX outer H s E e' ED) s'
theorem Px{a:Scope}(h:a.names.lookup x=some .cell):∃c,(cellsFrom n a.names []).lookup x=some c:=by
 have q:=W.cellsFrom_some a.names n [] (.inl h);exact hU.mp q
theorem U6{CX:V0}{w:World}{K:W.Frag}{N:List Str}{B:Value}{d:List Env}{G:Shared}{E:XK}{us:List Value}
  (S:Av N ps scope)(L:A.handled=none)(j:TQ P w K mg base A d s H)(hl:vs.length=ps.length)(r:Vals vs us)
  (x:InCallC s s.heap.objs.size (bindL (envOfC qual scope s.heap.objs.size f B).kindOf (ps.zip us) λ_=>none) (cellsFrom (s.heap.objs.size+1) scope.names []) (bindC (envOfC qual scope s.heap.objs.size f B).kindOf (ps.zip us) λ_=>none) G) :
  Inv (Kd CX P w K mg base N qual scope f B A d s H E) [] (start N vs) H G:=by
 have J:ps.length<=N.length:=by have:=congrArg List.length S.pre;rw[cy] at this;omega
 obtain⟨D,Q,rfl,I⟩:=x.done;have m:∀b:Addr,b ∉ (Kd CX P w K mg base N qual scope f B A d s H E).ex:=λb z=>absurd (show b∈([]:List Addr) from z)<|by simp
 refine⟨⟨j.mod,S.kind,U,U,al _,λy z c D g=>?_,λy l=>?_,λy c _ h=>?_,λ_=>L,Around.frames_deeper j.frames,.inr ⟨U,U⟩,λb z=>absurd z<|m b,j.bs,j.bsz,λb _ _=>m b,λb z=>absurd z<|m b,j.Kc,j.frf⟩,
  rfl,j.bare,Un.kept I,⟨_,x.toInCall.ns,λi y v D g R=>?_⟩,λy c h=>⟨_,x.cell y c h⟩,j.hok.fresh<|Nat.le_refl _,λy c h=>?_,λp t=>absurd (show p∈([]:List<|Addr×Obj) from t) (by simp),j.hok.kept I,?_⟩
 ·exact name_of_addr x.apart (PySem.mem_of_lookup D)<|PySem.mem_of_lookup g
 ·have l:scope.names.lookup y=some .cell \/ scope.names.lookup y=some .free:=l;rcases l with l | l
  ·exact Px l
  ·exact absurd U<|S.nofree _<|PySem.mem_of_lookup l
 ·exact fT<|x.above y c<|PySem.mem_of_lookup h
 ·have C:i<vs.length:=by
   unfold start at g;by_cases C:i<vs.length
   ·exact C
   ·rw[List.getElem?_append_right (by simpa using C)] at g;rw[List.getElem?_replicate] at g;split at g <;> cases g
  have M:vs[i]? = some v:=by
   unfold start at g;rw[List.getElem?_append_left (by simpa using C),List.getElem?_map] at g
   cases e:vs[i]? with
   |none=>rw[e] at g;cases g
   |some a=>rw[e] at g;cases g;rfl
  obtain⟨u,F,O⟩:=r.get M;have t:ps[i]? = some y:=by
   rw[<-S.pre,List.getElem?_take_of_lt<|by omega];exact D
  have o:ps.Nodup:=by rw[<-S.pre];exact S.nd.sublist<|kN _ _
  refine⟨u,O,?_⟩;rcases S.par y (ah t) with k | k
  ·exact .inl ⟨k,N6 o t F k⟩
  ·obtain⟨c,e⟩:=Px (n:=s.heap.objs.size+1) k;refine .inr ⟨.inl k,c,e,?_⟩;have q:=x.cell y c e;rw[Nq o t F (by show scope.names.lookup y≠_;rw[k];decide)] at q;exact q
 ·exact j.hok.fresh<|fT<|x.above y c<|PySem.mem_of_lookup h
 ·unfold start;show _=N.length;rw[ai,af,gz];omega
theorem YS{CX:V0}{w:World}{K:W.Frag}{k:Nat}{name:Str}{c:Arguments}{d:List Stmt}{M kV F D h ct oc:Value}{O Y:Option Addr}
  {sL:Array (Option Value)}{N:List Str}{sp:Sp}(lk:K.lookup f=some ⟨oc,Y,.func<|W.fnOf name qual c d scope M kV F D O h ct,sL⟩)(tq:W.codeIn K h qual=true)(S:Av N ps scope)
  (len:∀vs H Q E,sp vs H Q E->vs.length=ps.length)
  (k9:∀(A:Around)(a:List Env)(s:Shared)(H:Hp)(vs:List V)(Q:VK)(E:XK),A_ k (A.deeper<|envOfC qual scope s.heap.objs.size f h)->sp vs H Q E ->
   ∃t,PN (Kd CX P w K mg base N qual scope f h A a s H E) d t/\t { nx:=λ_ H'=>Q .non H',rt:=Q } (start N vs) H) :
  An P w K mg base CX (k+1) f (W.fnOf name qual c d scope M kV F D O h ct) ps sp:=by
 refine⟨len,λA a s H args us vs Q E m j hb r L=>?_⟩;have hl:=len _ _ _ _ L;have C:K.In s.heap:=j.mod.kin.keeps λb o e=>(j.bs b o e).1;have p:s.heap.NoLimit:=j.mod.nolimit.keeps λb o e=>(j.bs b o e).1;have g:∀y∈ps.zip us,scope.names.lookup y.1=some .local \/ (scope.names.lookup y.1=some .cell/\((cellsFrom (s.heap.objs.size+1) scope.names []).lookup y.1).isSome=true):=λ⟨n,v⟩ T=>by
  rcases S.par n (List.of_mem_zip T).1 with q | q
  ·exact .inl q
  ·exact .inr ⟨q,W.cellsFrom_some _ _ _<|.inl q⟩
 refine codeAny_call_function m.depth (C _ _ lk) U S.co S.gen U (W.codeRec_of C tq)<|hb _ _ _ _ ?_
 refine wpAny_newFunctionEnv_cells S.kind g λab X G x=>?_;subst X;refine⟨p.keeps x.toInCall.keep,codeAny_func ?_⟩;obtain⟨t,R,hq⟩:=k9 A a s H vs Q E (m.deeper _) L;have I:Inv (Kd CX P w K mg base N qual scope f h A a s H E) [] (start N vs) H G:=U6 S m.hd j hl r x;refine wpAny_mono (R [] G (start N vs) H _ I hq) (λZ B i=>?_) λe B i=>i;have fin:∀{l:St}{H':Hp}{v:V}{u:Value},Inv (Kd CX P w K mg base N qual scope f h A a s H E) [] l H' B->RelV v u->Q v H'->CE a P w H s Q u B :=
  λ{l H' v u} J z q=>⟨v,H',J.os,J.bare,J.base,J.hok,z,q⟩
 cases Z with
 |ret u =>
  obtain⟨v,l,H',J,z,q⟩:=i;exact fin J z q
 |next =>
  obtain⟨l,H',J,q⟩:=i;exact fin (v:=V.non) (u:=Value.none) J U q
 |brk =>
  obtain⟨_,_,_,q⟩:=i;exact False.elim q
 |cont =>
  obtain⟨_,_,_,q⟩:=i;exact False.elim q
section
variable{p:Pos}{t:TA}{id T:String}{r:List V->Hp->VK->Prop}
def tCB(r:List V->Hp->VK->Prop)(t:TA):TE:=λσ H Q=>t σ H λvs H1=>r vs H1 Q
theorem BK(u:Fe X (.builtin id) r)(l:Gl X x)(i:X.mg x=none)(d:bootBuiltins x=some (.builtin id))(w:PA X (e::es) t)(o:x≠"__name__":=by decide)(q:(x == ("__debug__" : Str))=false:=by decide)
  (m:starEach (e::es) X.env=(false,eval e X.env)::starEach es X.env:=by rfl)(a:(backTo pos<|starEach es X.env).any (·.1)=false:=by rfl):PE X (.Call (.Name x p) (e::es) [] pos)<|tCB r t:=by
 intro b s σ H Q I h;refine wpAny_Call_Name_kw<|Ib I l i d ?_ o q
 exact PyProof.Rows.callWith_builtin1 (CT (w pos b s σ H _ I h) λv g ⟨k,c,f,n,j⟩=>u b g σ c k v Q f n j) m a
theorem Cr(u:Fe X (.type T) r)(l:Gl X x)(i:X.mg x=none)(d:bootBuiltins x=some (.type T))(w:PA X (e::es) t)(o:x≠"__name__":=by decide)(q:(x == ("__debug__" : Str))=false:=by decide)
  (m:starEach (e::es) X.env=(false,eval e X.env)::starEach es X.env:=by rfl)(a:(backTo pos<|starEach es X.env).any (·.1)=false:=by rfl):PE X (.Call (.Name x p) (e::es) [] pos)<|tCB r t:=by
 intro b s σ H Q I h;refine wpAny_Call_Name_kw<|Ib I l i d ?_ o q
 exact PyProof.Rows.callWith_type1 (CT (w pos b s σ H _ I h) λv g ⟨k,c,f,n,j⟩=>u b g σ c k v Q f n j) m a
end
section
variable{κ:Type}[DecidableEq κ]
def CN(kvs:List<|κ×V)(k:κ):Option V:=(kvs.find? λkv=>decide (kv.1=k)).map (·.2)
def putK(kvs:List<|κ×V)(k:κ)(v:V):List (κ×V) :=
 if (kvs.any λkv=>decide (kv.1=k))=true then kvs.map (λkv=>if kv.1=k then (kv.1,v) else kv) else kvs++[(k,v)]
theorem YT{k:κ}:CN ([]:List<|κ×V) k=none:=rfl
theorem Dv{p:κ×V}{r:List (κ×V)}{k:κ}(e:p.1=k):CN (p::r) k=some p.2:=by simp[CN,List.find?_cons,e]
theorem Dy{p:κ×V}{r:List (κ×V)}{k:κ}(e:¬ p.1=k):CN (p::r) k=CN r k:=by simp[CN,List.find?_cons,e]
theorem G4(k:κ):∀kvs:List<|κ×V,(kvs.any λkv=>decide (kv.1=k))=(CN kvs k).isSome
 |[]=>rfl
 |p::r=>by
  rw[kD];by_cases e:p.1=k
  ·simp only[Dv e,decide_eq_true e,Bool.true_or,Option.isSome_some]
  ·rw[Dy e,decide_eq_false e,Bool.false_or];exact G4 k r
theorem QD(k j:κ)(y:V):∀kvs:List<|κ×V,CN (kvs.map λkv=>if kv.1=k then (kv.1,y) else kv) j=(CN kvs j).map λx=>if j=k then y else x
 |[]=>rfl
 |p::r=>by
  have a:=QD k j y r;rw[cw];by_cases h:p.1=k
  ·rw[if_pos h];by_cases e:p.1=j
   ·rw[Dv (p:=(p.1,y)) e,Dv e,kF,if_pos<|e.symm.trans h]
   ·rw[Dy (p:=(p.1,y)) e,Dy e,a]
  ·rw[if_neg h];by_cases e:p.1=j
   ·rw[Dv (p:=p) e,Dv e,kF,if_neg<|λz=>h<|e.trans z]
   ·rw[Dy (p:=p) e,Dy e,a]
theorem I_(k j:κ)(y:V):∀kvs:List<|κ×V,CN kvs k=none->CN (kvs++[(k,y)]) j=if j=k then some y else CN kvs j
 |[],_=>by
  by_cases e:k=j
  ·rw[if_pos e.symm];exact Dv (p:=(k,y)) e
  ·rw[if_neg (λz=>e z.symm)];exact Dy (p:=(k,y)) e
 |p::r,a=>by
  rw[List.cons_append];have b:¬ p.1=k:=λz=>by rw[Dv z] at a;cases a
  rw[Dy b] at a;have c:=I_ k j y r a;by_cases e:p.1=j
  ·rw[Dv e,Dv e,if_neg<|λz=>b<|e.trans z]
  ·rw[Dy e,Dy e,c]
theorem Fw(kvs:List<|κ×V)(k j:κ)(y:V):CN (putK kvs k y) j=if j=k then some y else CN kvs j:=by
 unfold putK;by_cases a:(kvs.any λc=>decide (c.1=k))=true
 ·rw[if_pos a,QD];rw[G4] at a;by_cases e:j=k
  ·obtain⟨x,b⟩:=hU.mp a;rw[if_pos e,e,b,kF,if_pos U]
  ·rw[if_neg e]
   cases CN kvs j with
   |none=>rfl
   |some x=>rw[kF,if_neg e]
 ·rw[if_neg a];refine I_ k j y kvs ?_;rw[G4] at a
  cases q:CN kvs k with
  |none=>rfl
  |some x=>rw[q] at a;exact (a U).elim
theorem Gf(kvs:List<|κ×V)(k:κ)(v:V):(putK kvs k v).length<=kvs.length+1:=by
 unfold putK;split
 ·rw[af];omega
 ·rw[ai,bp,List.length_nil];omega
theorem YK{kvs:List (κ×V)}{k:κ}(v:V)(h:CN kvs k=none):putK kvs k v=kvs++[(k,v)]:=by
 unfold putK;rw[G4,h];exact if_neg<|by decide
theorem Hk.KH{o:Option V}{u:Option Value}(r:Hk o u):o.isSome=u.isSome:=by
 cases o with
 |none=>cases u with
  |none=>rfl
  |some _=>exact (show False from r).elim
 |some _=>cases u with
  |none=>exact (show False from r).elim
  |some _=>rfl
theorem Hk.getD{o:Option V}{u:Option Value}{d:V}{d':Value}(r:Hk o u)(a:RelV d d'):RelV (o.getD d)<|u.getD d':=by
 cases o with
 |none=>cases u with
  |none=>exact a
  |some _=>exact (show False from r).elim
 |some _=>cases u with
  |none=>exact (show False from r).elim
  |some _=>exact r
theorem KV.val{kvs:List (κ×V)}{vs:List (κ×Value)}(r:KV kvs vs)(k:κ):Hk (CN kvs k)<|valueAt vs k:=by
 unfold KV at r
 induction r with
 |nil=>exact True.intro
 | @cons p q i c h t f =>
  obtain⟨d,g⟩:=h;by_cases e:p.1=k
  ·have a:q.1=k:=d.symm.trans e;have b:valueAt (q::c) k=some q.2:=by simp[valueAt,List.find?_cons,a]
   rw[Dv e,b];exact g
  ·have a:¬ q.1=k:=λz=>e<|d.trans z
   have b:valueAt (q::c) k=valueAt c k:=by simp[valueAt,List.find?_cons,a]
   rw[Dy e,b];exact f
theorem KV.any{kvs:List (κ×V)}{vs:List (κ×Value)}(r:KV kvs vs)(k:κ):(kvs.any λkv=>decide (kv.1=k))=vs.any λkv=>decide (kv.1=k):=by
 unfold KV at r
 induction r with
 |nil=>rfl
 |cons h t a=>rw[kD,kD,a,h.1]
theorem KV.repl{kvs:List (κ×V)}{vs:List (κ×Value)}(r:KV kvs vs)(k:κ){y:V}(b:RelV y u) :
  KV (kvs.map λkv=>if kv.1=k then (kv.1,y) else kv) (vs.map λkv=>if kv.1=k then (kv.1,u) else kv):=by
 unfold KV at r |-
 induction r with
 |nil=>exact .nil
 | @cons p q f g h t c =>
  rw[cw,cw];refine .cons ?_ c;obtain⟨a,d⟩:=h;by_cases e:p.1=k
  ·rw[if_pos e,if_pos<|a.symm.trans e];exact⟨a,b⟩
  ·rw[if_neg e,if_neg<|λz=>e<|a.trans z];exact⟨a,d⟩
theorem KV.put{kvs:List (κ×V)}{vs:List (κ×Value)}(r:KV kvs vs)(k:κ){y:V}(a:RelV y u):KV (putK kvs k y)<|stored vs k u:=by
 unfold putK stored;rw[r.any k];by_cases e:(vs.any λb=>decide (b.1=k))=true
 ·rw[if_pos e,if_pos e];exact r.repl k a
 ·rw[if_neg e,if_neg e];exact Paired.snoc r ⟨U,a⟩
theorem KV.length{kvs:List (κ×V)}{vs:List (κ×Value)}(r:KV kvs vs):kvs.length=vs.length:=Paired.length r
end
theorem NQ{w:World}{k:Key}(r:RelV (kV k) u):(Bs P w).is k u=true:=by
 cases k with
 |inl i=>obtain⟨t,e⟩:=(show ∃t,u=Value.int i t from r);subst e;exact Qj P w i t
 |inr x=>obtain⟨t,e⟩:=(show ∃t,u=Value.str x t from r);subst e;exact Ql P w x t
theorem Nk{w:World}:∀{ks:List Key}{us:List Value},Vals (ks.map kV) us->ItemsAre (Bs P w) ks us
 |[],_,r=>by rw[lI] at r;cases r;exact .nil
 |k::ks,_,r=>by
  rw[cw] at r
  cases r with
  |cons h t=>exact .cons (NQ h)<|Nk t
abbrev KT(H:Hp):List (List Key×V)->List (List Key×Addr×Value)->Prop:=Paired λp q=>p.1=q.1/\H q.2.1=some (.tup<|p.1.map kV)/\RelV p.2 q.2.2
theorem KT.val{kvs:List (List Key×V)}{xs:List (List Key×Addr×Value)}(r:KT H kvs xs)(k:List Key):Hk (CN kvs k) ((atKey xs k).map (·.2)):=by
 induction r with
 |nil=>exact True.intro
 | @cons p q i c h t f =>
  obtain⟨d,_,g⟩:=h;by_cases e:p.1=k
  ·have a:q.1=k:=d.symm.trans e;have b:atKey (q::c) k=some q.2:=by simp[atKey,List.find?_cons,a]
   rw[Dv e,b];exact g
  ·have a:¬ q.1=k:=λz=>e<|d.trans z
   have b:atKey (q::c) k=atKey c k:=by simp[atKey,List.find?_cons,a]
   rw[Dy e,b];exact f
theorem KT.repl{kvs:List (List Key×V)}{xs:List (List Key×Addr×Value)}(r:KT H kvs xs)(k:List Key){y:V}(d:RelV y u) :
  KT H (kvs.map λkv=>if kv.1=k then (kv.1,y) else kv) (xs.map<|putAt k u):=by
 induction r with
 |nil=>exact .nil
 | @cons p q g i h t c =>
  rw[cw,cw];refine .cons ?_ c;obtain⟨a,b,f⟩:=h;unfold putAt;by_cases e:p.1=k
  ·rw[if_pos e,if_pos<|a.symm.trans e];exact⟨a,b,d⟩
  ·rw[if_neg e,if_neg<|λz=>e<|a.trans z];exact⟨a,b,f⟩
theorem KT.put{kvs:List (List Key×V)}{xs:List (List Key×Addr×Value)}(r:KT H kvs xs)(k:List Key){y:V}(d:H b=some (.tup<|k.map kV))(a:RelV y u) :
  KT H (putK kvs k y) (storedH xs k b u):=by
 have e:(kvs.any λc=>decide (c.1=k))=(atKey xs k).isSome:=by
  rw[G4,(r.val k).KH,Option.isSome_map]
 unfold putK storedH;rw[e];by_cases q:(atKey xs k).isSome=true
 ·rw[if_pos q,if_pos q];exact r.repl k a
 ·rw[if_neg q,if_neg q];exact Paired.snoc r ⟨U,d,a⟩
theorem KT.keeps{kvs:List (List Key×V)}{xs:List (List Key×Addr×Value)}(r:KT H kvs xs)(a:∀b ys,H b=some (.tup ys)->H' b=some (.tup ys)):KT H' kvs xs :=
 Paired.HW r λ_ _ z=>⟨z.1,a _ _ z.2.1,z.2.2⟩
section
variable{w:World}
theorem eF{u:HO}(ok:GQ P w H h)(e:Rd H a u):CW P w H h a u:=e.ok ok
theorem Lz(ok:GQ P w H h)(e:Rd H a<|.dK kvs):kvs.length<=sizeLine/\(a == sysModules)=false/\∃vs,KV kvs vs/\h.DictOf (Bs P w) a vs :=
 show CW P w H h a (.dK kvs) from eF ok e
theorem oh(ok:GQ P w H h)(e:H a=some (.dK kvs)):kvs.length<=sizeLine/\(a == sysModules)=false/\∃vs,KV kvs vs/\h.DictOf (Bs P w) a vs:=Lz ok<|.inl e
theorem GP{ks:List Key}(ok:GQ P w H h)(e:H a=some (.tup<|ks.map kV)):(tupleKind<|Bs P w).is h ks a:=by
 obtain⟨_,b,r,o,c,d,n,f⟩:=(show CW P w H h a (.tup<|ks.map kV) from ok a _ e);exact⟨o,b.toArray,n,c,d,f,by simpa using Nk r⟩
theorem Li{kvs:List (List Key×V)}(ok:GQ P w H h)(e:Rd H a<|.dT kvs):kvs.length<=sizeLine/\(a == sysModules)=false /\
  ∃xs,KT H kvs xs/\h.DictOfH (tupleKind<|Bs P w) a xs:=by
 obtain⟨z,y,xs,r,o,f,n,d,k,s,j,i⟩:=(show CW P w H h a (.dT kvs) from eF ok e);refine⟨z,y,xs,r,o,f,n,d,k,s,j,λx b=>?_,i⟩;have all:∀{l:List (List Key × V)}{m:List (List Key × Addr × Value)},KT H l m->∀x∈m,(tupleKind<|Bs P w).is h x.1 x.2.1:=by
  intro l m q
  induction q with
  |nil=>intro x b;exact nomatch b
  | @cons p q u v c t g =>
   intro x b;rcases ce.mp b with e | b
   ·subst e;exact GP ok<|by rw[<-c.1];exact c.2.1
   ·exact g x b
 exact all r x b
theorem tY{kvs:List (List Key×V)}(ok:GQ P w H h)(e:H a=some (.dT kvs)):kvs.length<=sizeLine/\(a == sysModules)=false /\
  ∃xs,KT H kvs xs/\h.DictOfH (tupleKind<|Bs P w) a xs:=Li ok<|.inl e
end
def Ed(H:Hp)(a:Addr)(y:V)(r:Option V):Prop :=
 (∃kvs k,Rd H a (.dK kvs)/\y=kV k/\r=CN kvs k) \/ ∃kvs k b,Rd H a (.dT kvs)/\y=.ref b/\H b=some (.tup<|k.map kV)/\r=CN kvs k
def Jf(H:Hp)(a:Addr)(y v:V)(H':Hp):Prop :=
 (∃kvs k,H a=some (.dK kvs)/\y=kV k/\kvs.length<sizeLine/\H'=upd H a (.dK<|putK kvs k v)) \/
 ∃kvs k b,H a=some (.dT kvs)/\y=.ref b/\H b=some (.tup<|k.map kV)/\kvs.length<sizeLine/\H'=upd H a (.dT<|putK kvs k v)
theorem Ed.k{k:Key}(e:H a=some (.dK kvs)):Ed H a (kV k)<|CN kvs k:=.inl ⟨kvs,k,.inl e,U,U⟩
theorem Jf.k{k:Key}{v:V}(e:H a=some (.dK kvs))(hl:kvs.length<sizeLine):Jf H a (kV k) v<|upd H a<|.dK<|putK kvs k v:=.inl ⟨kvs,k,e,U,hl,U⟩
section
variable{y v:V}{r:Value}{o:Option V}
theorem Inv.big(I:Inv X a8 σ H s):sysModules<s.heap.objs.size:=by
 have h:mainGlobals<s.heap.objs.size:=(I.mod.glob.keeps I.bk).lt;exact ko (by decide) h
theorem Vh(C:A.units+1<cLine)(I:Inv X a8 σ H s)(g:Ed H a y<|some v)(n:RelV y u)(h:∀w' s',Inv X a8 σ H s'->RelV v w'->Q w' s') :
  wpAny (model X.prog X.w) A (getItem (.ref a) u) Q E s:=by
 rcases g with⟨m,k,e,i,l⟩ | ⟨m,k,b,e,i,x,l⟩
 ·subst i;obtain⟨z,q,w,c,d⟩:=Lz I.hok e;obtain⟨w',j,f⟩:=Hk.some_of (v:=v) (o:=valueAt w k)<|by rw[l];exact c.val k
  exact wpAny_getItem_of (NQ n) d.mapOf j<|h w' _ (I.tok _) f
 ·subst i
  cases (show u=Value.ref b from n);obtain⟨z,q,r,c,d⟩:=Li I.hok e;obtain⟨w',j,f⟩:=Hk.some_of (v:=v) (o:=(atKey r k).map (·.2))<|by rw[l];exact c.val k
  obtain⟨p,t,B⟩:=av.mp j;refine wpAny_getItem_heap (tupleKind_room_in1 C) (GP I.hok x) d t ?_;rw[B];exact h w' _ (I.tok _) f
theorem aj(p:A.units+1<cLine)(I:Inv X a8 σ H s)(g:Ed H a y o)(m:RelV y u)(h:∀s',Inv X a8 σ H s'->Q (.bool<|!o.isSome) s') :
  wpAny (model X.prog X.w) A (compareOp .NotIn u<|.ref a) Q E s:=by
 rcases g with⟨j,k,e,i,l⟩ | ⟨j,k,b,e,i,n,l⟩
 ·subst i;obtain⟨z,f,t,c,d⟩:=Lz I.hok e;refine wpAny_notIn_of (NQ m) f d.mapOf ?_;rw[<-(c.val k).KH,<-l];exact h _<|I.tok _
 ·subst i
  cases (show u=Value.ref b from m);obtain⟨z,f,r,c,d⟩:=Li I.hok e;refine wpAny_notIn_heap (tupleKind_room_in1 p) (GP I.hok n) f d ?_;have q:=(c.val k).KH;rw[Option.isSome_map] at q;rw[<-q,<-l];exact h _<|I.tok _
theorem Tz{t':Nat}{c:HO}(I:Inv X a8 σ H s)(d:qZ<|H a)(h:Heap.SameBut a s.heap h')(f:∃q,h'.get? a=some q)(new:CW X.prog X.w (upd H a c) h' a c) :
  Inv X a8 σ (upd H a c) { s with heap:=h',toks:=t' } :=
 I.write (x:=a) (e:=a) d (.inl U) (λb q g z=>(h.2 b g).trans z) f new
theorem iT{w:World}{vs:List (Key×Value)}(z:kvs.length<=sizeLine)(c:(a == sysModules)=false)(b:KV kvs vs)(dd:h'.DictOf (Bs P w) a vs) :
  CW P w H' h' a (.dK kvs):=⟨z,c,vs,b,dd⟩
theorem Vy{Q:Unit->Shared->Prop}(O:A.units+1<cLine)(I:Inv X a8 σ H s)(g:Jf H a y v H')(F:RelV y u)(D:RelV v r)(h:∀s',Inv X a8 σ H' s'->Q () s') :
  wpAny (model X.prog X.w) A (setItem (.ref a) u r) Q E s:=by
 rcases g with⟨d,k,e,n,l,w⟩ | ⟨d,k,b,e,n,B,l,w⟩
 ·subst n w;obtain⟨z,t,K,f,m⟩:=oh I.hok e;have p:K.length<=sizeLine:=by rw[<-f.length];exact z
  have hl:(putK d k v).length<=sizeLine:=by have:=Gf d k v;omega
  refine wpAny_setItem_pairs (hsz:=p) (NQ F) m λx i o=>h _ ?_;have L:∃q,x.get? a=some q:=let ⟨q,_,_,j,_⟩:=i;⟨q,j⟩;exact Tz I (by rw[e];exact True.intro) o L<|iT hl t (f.put k D) i
 ·subst n w
  cases (show u=Value.ref b from F);obtain⟨z,t,J,f,m⟩:=tY I.hok e;have p:J.length<=sizeLine:=by rw[<-Paired.length f];exact z
  have hl:(putK d k v).length<=sizeLine:=by have:=Gf d k v;omega
  refine wpAny_setItem_heap (hsz:=p) (tupleKind_room_in1 O) (GP I.hok B) m λx i o=>h _ ?_;obtain⟨q,G,N,j,R,S,M,_,P⟩:=i;refine Tz I (by rw[e];exact True.intro) o ⟨q,j⟩ ⟨hl,t,_,(f.put k B D).keeps λc T C=>?_,q,G,N,j,R,S,M,P⟩;rw[Aw (d_ C e (λz=>nomatch z))];exact C
end
def gH(i:Expr):Prop:=∀ov iv,subscripted i false ov iv=operate [ov,iv] (getItem ov iv)
theorem TX{w:World}{b:Env}{a c:Expr}{T id:String}
  (hl:typeLookup (.type T) "__getitem__" = pure (some<|.builtin id))(k:gH c)
  (h:wpAny (model prog w) A (eval a b) (λo s₁=>wpAny (model prog w) A (eval c b) (λi s₂=>s₂.TypeIs o T/\wpAny (model prog w) A (getItem o i) Q E s₂) E s₁) E s) :
  wpAny (model prog w) A (eval (.Subscript a c pos) b) Q E s:=by
 refine Subscript_<|wpAny_mono h (λo s₁ g=>wpAny_mono g (λi s₂ d=>?_) λ_ _ x=>x) λ_ _ x=>x
 obtain⟨f,d⟩:=d;unfold subscriptTail;refine wpAny_bind ?_;rw[getitemInPython_of_ne f.not_modules];refine wpAny_bind<|wpAny_specialOf f hl ?_
 have fin:wpAny (model prog w) A (subscripted c false o i) (λr e=>wpAny (model prog w) A (letTemporaryGo a o r >>= λ_=>pure r) Q E e) E s₂:=by
  rw[k o i];exact wpAny_operating<|wpAny_mono d (λr e j=>wpAny_bind<|wpAny_letTemporaryGo<|wpAny_pure j) λ_ _ x=>x
 first
  | exact wpAny_pure (wpAny_bind fin)
  | exact wpAny_bind (wpAny_pure (wpAny_bind fin))
  | exact wpAny_bind fin
theorem Q0{y:V}{o:Option V}(I:Inv X a8 σ H s)(g:Ed H a y o):s.TypeIs (.ref a) "dict":=by
 rcases g with⟨d,k,e,_,_⟩ | ⟨d,k,b,e,_,_,_⟩
 ·obtain⟨_,_,f,_,c⟩:=Lz I.hok e;exact c.typeIs
 ·obtain⟨_,_,h,_,c⟩:=Li I.hok e;exact c.typeIs
inductive Xy(Q:VK)(x:V)(y:V)(H2:Hp):Prop
 | mk(a v:_):x=.ref a->Ed H2 a y (some v)->Q v H2->Xy Q x y H2
def nW(td ty:TE):TE:=λσ H Q=>td σ H λx H1=>ty σ H1 λy H2=>Xy Q x y H2
inductive Qw(Q:VK)(y:V)(x:V)(H2:Hp):Prop
 | mk(a o:_):x=.ref a->Ed H2 a y o->Q (.bl (!o.isSome)) H2->Qw Q y x H2
def bJ(ty td:TE):TE:=λσ H Q=>ty σ H λy H1=>td σ H1 λx H2=>Qw Q y x H2
inductive Wy(D:Ends)(σ:St)(v:V)(x:V)(y:V)(H3:Hp):Prop
 | mk(a H4:_):x=.ref a->Jf H3 a y v H4->D.nx σ H4->Wy D σ v x y H3
def qQ(td ty tv:TE):TS:=λD σ H=>tv σ H λv H1=>td σ H1 λx H2=>ty σ H2 λy H3=>Wy D σ v x y H3
section
variable{o i value:Expr}{nL:Pos}{td ty tv:TE}
theorem Ey(z:X.A.units+1<cLine)(w:PE X o td)(hi:PE X i ty)(A:gH i):PE X (.Subscript o i pos)<|nW td ty:=by
 intro c s σ H Q I h;refine TX jS A<|CT (w c s σ H _ I h) λu k ⟨x,e,f,q,m⟩=>CT (hi c k σ e _ f m) λC B l=>?_
 obtain⟨y,t,b,p,a,v,n,g,j⟩:=l;subst n;obtain rfl:u=Value.ref a:=q;exact⟨Q0 b g,Vh z b g p λD E r d=>⟨v,t,r,d,j⟩⟩
theorem M8(w:X.A.units+1<cLine)(hi:PE X i ty)(v:PE X o td):PC X .NotIn i o<|bJ ty td:=by
 intro b s σ H Q I h;refine CT (hi b s σ H _ I h) λA j ⟨y,e,f,p,l⟩=>CT (v b j σ e _ f l) λu z k=>?_;obtain⟨x,t,m,q,a,c,n,g,d⟩:=k;subst n;obtain rfl:u=Value.ref a:=q;exact aj w m g p λB r=>⟨.bl<|!c.isSome,t,r,U,d⟩
theorem Fi(m:X.A.units+1<cLine)(l:PE X o td)(hi:PE X i ty)(w:PE X value tv)(n:swapsWith value (some<|.Subscript o i nL) pos.line X.env=pure false) :
  PS X (.Assign [.Subscript o i nL] value pos) (qQ td ty tv):=by
 intro b s σ H D I h;refine wpAny_Assign_Subscript (CT (w b s σ H _ I h) λr B ⟨v,c,z,t,d⟩=>CT (l b B σ c _ z d) λu A ⟨x,k,E,G,q⟩=>CT (hi b A σ k _ E q) λK L ⟨y,J,j,F,a,C,p,g,f⟩=>?_) n;subst p;obtain rfl:u=Value.ref a:=G;exact Vy m j g F t λM e=>⟨σ,C,e,f⟩
end
theorem Wo{w:World}(h:Heap)(a:sysModules<h.objs.size):CW P w H (h.push { cls:=.type "dict",data:=.dict #[] }) h.objs.size (.dK []) :=
 ⟨eJ _,beq_eq_false_iff_ne.mpr<|Ne.symm<|cf a,[],.nil,Heap.DictOf.new h⟩
def gG:TE:=λ_ H Q=>∀p,H p=none->Q (.ref p) (upd H p<|.dK [])
theorem G6:PE X (.Dict [] [] pos) gG:=λb s σ H Q I h =>
 wpAny_Dict_empty ⟨.ref s.heap.objs.size,_,I.laid (a:=s.heap.objs.size) (o:=.dK []) (t':=s.toks) (λ_ _ q=>Heap.get?_push_of_some _ q) (al _)<|Wo s.heap I.big,U,h _<|I.hok.fresh<|al _⟩
structure M1(X:Cx)(o:Expr)(m:Str)(g0:Pos)(e:Expr)(i4:Pos):Prop where
 base:attributeBase o m X.env (eval o X.env)=eval o X.env
 few:((backTo i4<|starEach [e] X.env).all (λx=>!x.1) && (backToKw i4<|keywordEach [] X.env).all (λx=>x.1.isSome)
  && decide (([e]:List Expr).length+([]:List Keyword).length+(if ([]:List Keyword).isEmpty then 0 else 1)<30))=true
 line:(g0.endLine == i4.line)=true
 trees:backTo i4 (starEach [e] X.env)=[(false,eval e X.env)]
structure M2(X:Cx)(o:Expr)(m:Str)(g0:Pos)(e f:Expr)(i4:Pos):Prop where
 base:attributeBase o m X.env (eval o X.env)=eval o X.env
 few:((backTo i4<|starEach [e,f] X.env).all (λx=>!x.1) && (backToKw i4<|keywordEach [] X.env).all (λx=>x.1.isSome)
  && decide (([e,f]:List Expr).length+([]:List Keyword).length+(if ([]:List Keyword).isEmpty then 0 else 1)<30))=true
 line:(g0.endLine == i4.line)=true
 trees:backTo i4 (starEach [e,f] X.env)=[(false,eval e X.env),(false,eval f X.env)]
def IsD(H:Hp)(a:Addr):Prop:=(∃kvs,Rd H a<|.dK kvs) \/ ∃kvs,Rd H a<|.dT kvs
theorem RG(I:Inv X a8 σ H s)(d:IsD H a) :
  s.TypeIs (.ref a) "dict" /\ (∀b,Value.ref a=.ref b->∃ob,s.heap.get? b=some ob/\ob.dict=none)/\(a == sysModules)=false:=by
 rcases d with⟨g,e⟩ | ⟨g,e⟩
 ·obtain⟨_,h,j,_,c⟩:=Lz I.hok e;refine⟨c.typeIs,λb q=>?_,h⟩
  cases q;obtain⟨ob,_,_,f,i,_⟩:=c;exact⟨ob,f,i.2.1⟩
 ·obtain⟨_,h,k,_,c⟩:=Li I.hok e;refine⟨c.typeIs,λb q=>?_,h⟩
  cases q;obtain⟨ob,_,_,f,i,_⟩:=c;exact⟨ob,f,i.2.1⟩
section
variable{y d:V}{r:Value}{o:Option V}
theorem h_(q:A.units+1<cLine)(I:Inv X a8 σ H s)(g:Ed H a y o)(m:RelV y u)(h:∀w' s',Inv X a8 σ H s'->RelV (o.getD .non) w'->Q w' s') :
  wpAny (model X.prog X.w) A (call (.builtin "dict.get") [.ref a,u]) Q E s:=by
 rcases g with⟨j,k,e,i,l⟩ | ⟨j,k,b,e,i,p,l⟩
 ·subst i;obtain⟨z,f,r,c,d⟩:=Lz I.hok e;refine call_meetsIn ff d.typeIs PySem.F.entry_dict_get (PySem.F.args_dict_get_2 _ _) (meets_dict_get (Bs X.prog X.w) a (NQ m) f) ⟨_,d.mapOf,h _ _ (I.tok _) ?_⟩;rw[l];exact (c.val k).getD U
 ·subst i
  cases (show u=Value.ref b from m);obtain⟨z,f,n,c,d⟩:=Li I.hok e;refine call_meetsIn ff d.typeIs PySem.F.entry_dict_get (PySem.F.args_dict_get_2 _ _) (meetsH_dict_get (tupleKind<|Bs X.prog X.w) a b f) ⟨tupleKind_room_in1 q,k,n,GP I.hok p,d,h _ _ (I.tok _) ?_⟩;rw[l];exact (c.val k).getD U
theorem lM(v:A.units+1<cLine)(I:Inv X a8 σ H s)(g:Ed H a y o)(p:RelV y u)(n:RelV d r)(h:∀w' s',Inv X a8 σ H s'->RelV (o.getD d) w'->Q w' s') :
  wpAny (model X.prog X.w) A (call (.builtin "dict.get") [.ref a,u,r]) Q E s:=by
 rcases g with⟨m,k,e,j,l⟩ | ⟨m,k,b,e,j,t,l⟩
 ·subst j;obtain⟨z,i,w,c,f⟩:=Lz I.hok e;refine call_meetsIn ff f.typeIs PySem.F.entry_dict_get (PySem.F.args_dict_get_3 _ _ _) (meets_dict_get_default (Bs X.prog X.w) a (NQ p) i r) ⟨_,f.mapOf,h _ _ (I.tok _) ?_⟩;rw[l];exact (c.val k).getD n
 ·subst j
  cases (show u=Value.ref b from p);obtain⟨z,i,q,c,f⟩:=Li I.hok e;refine call_meetsIn ff f.typeIs PySem.F.entry_dict_get (PySem.F.args_dict_get_3 _ _ _) (meetsH_dict_get_default (tupleKind<|Bs X.prog X.w) a b i r) ⟨tupleKind_room_in1 v,k,q,GP I.hok t,f,h _ _ (I.tok _) ?_⟩;rw[l];exact (c.val k).getD n
end
inductive Ur(ty:TE)(σ:St)(Q:VK)(x:V)(H1:Hp):Prop
 |mk(a:_):x=.ref a->IsD H1 a->(ty σ H1 λy H2=>∃o,Ed H2 a y o/\Q (o.getD .non) H2)->Ur ty σ Q x H1
def j_(td ty:TE):TE:=λσ H Q=>td σ H λx H1=>Ur ty σ Q x H1
inductive Uq(ty tx:TE)(σ:St)(Q:VK)(x:V)(H1:Hp):Prop
 |mk(a:_):x=.ref a->IsD H1 a->(ty σ H1 λy H2=>tx σ H2 λz H3=>∃o,Ed H3 a y o/\Q (o.getD z) H3)->Uq ty tx σ Q x H1
def jE(td ty tx:TE):TE:=λσ H Q=>td σ H λx H1=>Uq ty tx σ Q x H1
section
variable{o f:Expr}{i4:Pos}{td ty tx:TE}
theorem QX(t:X.A.units+1<cLine)(r:PE X o td)(k:PE X e ty)(m:M1 X o "get" g0 e i4):PE X (.Call (.Attribute o "get" g0) [e] [] i4)<|j_ td ty:=by
 intro b s σ H Q I h;refine wpAny_Call_method m.base m.few m.line ia ff kq<|CT (r b s σ H _ I h) λu z A=>?_
 obtain⟨x,i,c,D,a,v,d,j⟩:=A;subst v;obtain rfl:u=Value.ref a:=D;obtain⟨n,q,_⟩:=RG c d;refine⟨n,q,?_⟩;rw[m.trees];refine Calls.callWith_builtin U<|Calls.evalArgs_plain<|Calls.spliced_cons<|CT (k b z σ i _ c j) λE J ⟨y,p,B,C,G,g,w⟩=>Calls.spliced_nil ?_
 exact h_ t B g C λK F l f=>⟨_,p,l,f,w⟩
theorem IV(C:X.A.units+1<cLine)(B:PE X o td)(r:PE X e ty)(n:PE X f tx)(m:M2 X o "get" g0 e f i4):PE X (.Call (.Attribute o "get" g0) [e,f] [] i4)<|jE td ty tx:=by
 intro b s σ H Q I h;refine wpAny_Call_method m.base m.few m.line ia ff kq<|CT (B b s σ H _ I h) λu G J=>?_
 obtain⟨x,j,c,M,a,D,d,l⟩:=J;subst D;obtain rfl:u=Value.ref a:=M;obtain⟨v,A,_⟩:=RG c d;refine⟨v,A,?_⟩;rw[m.trees];refine Calls.callWith_builtin U (Calls.evalArgs_plain (Calls.spliced_cons (CT (r b G σ j _ c l) λP F ⟨y,w,K,L,E⟩ =>
  Calls.spliced_cons (CT (n b F σ w _ K E) λO R ⟨z,k,t,N,S,g,q⟩=>Calls.spliced_nil ?_))))
 exact lM C t g L N λT V p i=>⟨_,k,p,i,q⟩
end
end L2
variable{H H' H1 Ho H2:L2.Hp}{X:L2.Cx}{n i j t' dr sh m:Nat}{s:PySem.Shared}{σ:L2.St}{a C p f y Cy sd b D pE pA z Cp dx aB aP aM hd cK cP cB cS cH cY:PySem.Addr}{pos mr g0 px:PySem.Pos}{x t qual:PySem.Str}{A:PySem.Around}{kvs kd:List (L2.Key×L2.V)}{a8:List (PySem.Addr×PySem.Obj)}{P prog:PySem.Program}{xs vs us:List L2.V}{E Q:vSP}{e tg iter mw:PySem.Expr}{c:Nat->Nat}{te ta:L2.TE}{u:PySem.Value}{h h' base:PySem.Heap}{sts:List Nat}{fd:PySem.FuncData}{ps ns nms:List PySem.Str}{o:L2.HO}{es mn:List PySem.Expr}{scope:PySem.Scope}{tt:L2.TT}{mg:PySem.Str->Option PySem.Value}{tb:L2.TS}{fp:List PySem.Addr}{led:Bool}
namespace HT
open PySem PyProof.Rows
section
variable{w:World}
theorem Zw{t:Addr}{vs a:List Value}(v:IsTup s.heap t vs.toArray)(y:IsTup s.heap b a.toArray)(k:vs≠[])
  (u:a=[]->Q (.ref t) s)(x:a≠[]->Q (.ref s.heap.objs.size) { s with heap:=s.heap.push { cls:=.type "tuple",data:=.seq (vs++a).toArray } })
  (hsz:vs.length+a.length<=sizeLine):wpAny (model prog w) A (binaryOp .Add (.ref t)<|.ref b) Q E s:=by
 obtain⟨⟨cls,i,data,o⟩,h,r,n,l⟩:=id v;obtain⟨⟨p,c,data2,j⟩,g,d,q,m⟩:=id y;simp only at r l d m;subst r l d m;have e:vs.toArray++a.toArray=(vs++a).toArray:=by simp
 by_cases f:a=[]
 ·exact concat_meets ⟨_,h,U⟩ ⟨_,g,U⟩ noFill_tuple_add seq_tuple_add PySem.F.slot_tuple_add PySem.F.entry_tuple_add (PySem.F.args_tuple_add_2 _ _)
   (tuple_addW1 t b vs.toArray a.toArray n q i c o j (by simpa using k)<|by simp[f]) ⟨h,g,u f⟩
 ·refine concat_meets ⟨_,h,U⟩ ⟨_,g,U⟩ noFill_tuple_add seq_tuple_add PySem.F.slot_tuple_add PySem.F.entry_tuple_add (PySem.F.args_tuple_add_2 _ _)
   (tuple_addW2 t b vs.toArray a.toArray n q i c o j (by simpa using k) (by simpa using f)<|by rw[List.size_toArray,List.size_toArray];exact hsz) ⟨h,g,?_⟩
  rw[e];exact x f
def Ec(n d:Nat):Option Int->Nat
 |none=>d
 |some v=>if v<0 then (v+(n:Int)).toNat else min v.toNat n
theorem Mg(n d:Nat):Ec n d none=d:=rfl
theorem GX(n d k:Nat):Ec n d (some (k:Int))=min k n:=by
 show (if (k:Int)<0 then ((k:Int)+(n:Int)).toNat else min (k:Int).toNat n)=min k n;rw[if_neg (by omega),aS]
theorem gU(n d:Nat)(b:d<=n)(o:Option Int):Ec n d o<=n:=by
 cases o with
 |none=>exact b
 |some v =>
  show (if v<0 then (v+(n:Int)).toNat else min v.toNat n)<=n;by_cases a:v<0
  ·rw[if_pos a];omega
  ·rw[if_neg a];exact Nat.min_le_right _ _
theorem Td(v:Int)(n d:Nat):(if v<0 then max (v+(n:Int)) 0 else min v (n:Int))=((Ec n d (some v):Nat):Int):=by
 show (if v<0 then max (v+(n:Int)) 0 else min v (n:Int))=(((if v<0 then (v+(n:Int)).toNat else min v.toNat n):Nat):Int);by_cases a:v<0
 ·simp only[if_pos a];omega
 ·simp only[if_neg a];omega
theorem Rp(lo hi:Option Int)(n:Nat):Builtin.Slice.sliceAdjust lo hi 1 (n:Int)=(((Ec n 0 lo:Nat):Int),((Ec n n hi:Nat):Int)):=by
 have a:¬ ((1:Int)<0):=by omega
 unfold Builtin.Slice.sliceAdjust;simp only[a,if_false];refine Prod.ext ?_ ?_
 ·cases lo with
  |none=>rfl
  |some v=>exact Td v n 0
 ·cases hi with
  |none=>rfl
  |some v=>exact Td v n n
theorem R1(i j:Nat):Builtin.Slice.slicePlaces (i:Int) (j:Int) 1=j - i:=by
 unfold Builtin.Slice.slicePlaces;have a:(1:Int) > 0:=by omega
 simp only[a,if_true,Int.ediv_one];split <;> omega
theorem MP{v:Value}{o:Option Int}{Q:Option Int->Shared->Prop}(p:IsPart v o)(h:Q o s):wpAny (model prog w) A (Builtin.Slice.slicePartIndex v) Q E s:=by
 cases p with
 |none=>exact slicePart_none h
 |int i t=>exact slicePart_int h
theorem J8{e:Addr}{a c:Value}{lo hi:Option Int}{Q:Int×Int×Nat->Shared->Prop}(i:s.heap.IsSliceOf e a c .none)(pl:IsPart a lo)(f:IsPart c hi)
  (h:Q (((Ec n 0 lo:Nat):Int),1,Ec n n hi - Ec n 0 lo) s):wpAny (model prog w) A (Builtin.Slice.sliceApplied (.ref e)<|pure (n:Int)) Q E s:=by
 obtain⟨os,b,g,d⟩:=id i;unfold Builtin.Slice.sliceApplied Builtin.Slice.sliceFields;refine wpAny_bind<|wpAny_bind<|wpAny_field b d (x:=a) U<|wpAny_bind<|wpAny_field b d (x:=c) U<|wpAny_bind<|wpAny_field b d (x:=.none) U<|wpAny_pure ?_
 refine wpAny_bind<|slicePart_none ?_
 show wpAny _ _ (if ((1:Int) == 0)=true then _ else _) _ _ s;rw[if_neg (by decide)];refine wpAny_bind<|MP pl<|wpAny_bind<|MP f<|wpAny_bind<|wpAny_pure ?_
 show wpAny _ _ (match Builtin.Slice.sliceAdjust lo hi 1 (n:Int) with | (lo,hi)=>pure (lo,(1:Int),Builtin.Slice.slicePlaces lo hi 1)) _ _ s;rw[Rp lo hi n];show wpAny _ _ (pure (((Ec n 0 lo:Nat):Int),(1:Int),Builtin.Slice.slicePlaces ((Ec n 0 lo:Nat):Int) ((Ec n n hi:Nat):Int) 1)) _ _ s;rw[R1];exact wpAny_pure h
theorem X7(xs:Array Value)(i k:Nat):((List.range k).filterMap λ(m:Nat)=>xs[((i:Int)+(m:Int) * 1).toNat]?).toArray=((xs.toList.drop i).take k).toArray:=by
 have e:(λ(m:Nat)=>xs[((i:Int)+(m:Int) * 1).toNat]?)=λm=>xs[i+m]?:=by
  funext m;have:((i:Int)+(m:Int) * 1).toNat=i+m:=by omega
  rw[this]
 rw[e];have:=pick_run xs i k;rw[List.filterMap_map] at this;have a:((λx=>xs[x]?) ∘ λx=>i+x)=λm=>xs[i+m]?:=rfl;rw[a] at this;rw[this]
theorem Ju{t f:Addr}{a:Array Value}{i j:Value}{lo hi:Option Int}(c:IsTup s.heap t a)(k:s.heap.IsSliceOf f i j .none)(pl:IsPart i lo)(o:IsPart j hi)
  (l:¬ (Ec a.size 0 lo=0/\Ec a.size a.size hi=a.size))
  (h:Q (.ref s.heap.objs.size) { s with heap:=s.heap.push { cls:=.type "tuple",data:=.seq ((a.toList.drop<|Ec a.size 0 lo).take<|Ec a.size a.size hi - Ec a.size 0 lo).toArray } })
  (hsz:a.size<=sizeLine):wpAny (model prog w) A (getItem (.ref t)<|.ref f) Q E s:=by
 have b:sizeOk<|.seq ((a.toList.drop<|Ec a.size 0 lo).take<|Ec a.size a.size hi - Ec a.size 0 lo).toArray:=by
  show ((a.toList.drop<|Ec a.size 0 lo).take<|Ec a.size a.size hi - Ec a.size 0 lo).toArray.size<=sizeLine;rw[bX,cy,lc,Array.length_toList];omega
 have u:Ec a.size a.size hi<=a.size:=gU _ _ (al _) hi;obtain⟨os,n,g,v⟩:=id k;have d:s.TypeIs (.ref f) "slice":=⟨os,n,g⟩;unfold getItem;try with_reducible refine wpAny_holding ?_
 first | refine wpAny_bind (wpAny_pure ?_) | skip
 refine wpAny_bind<|wpAny_sequenceKey c.typeIs (by decide) ?_
 refine wpAny_bind (wpAny_callSpecial?_slot (name:=Str.ofString "__getitem__") c.typeIs PyProof.Rows.slot_tuple_getitem
  (wpAny_call_entry PyProof.Rows.slot_tuple_getitem c.typeIs entry_tuple_getitem ?_<|args_tuple_getitem _ _))
 show wpAny _ _ (Builtin.Tuple.tupleItemsOf (.ref t) >>= _) _ _ s;refine wpAny_bind<|tupleItemsOf_ c ?_
 refine wpAny_bind<|wpAny_typeOf d ?_
 rw[if_pos (by decide)];refine wpAny_bind<|J8 k pl o ?_
 have e:¬ ((((Ec a.size 0 lo:Nat):Int) == 0 && (1:Int) == 1 && (Ec a.size a.size hi - Ec a.size 0 lo) == a.size)=true):=by
  intro q;rw[fi,fi] at q;have r:((Ec a.size 0 lo:Nat):Int)=0:=eq_of_beq q.1.1;have p:Ec a.size a.size hi - Ec a.size 0 lo=a.size:=eq_of_beq q.2;exact l ⟨by omega,by omega⟩
 show wpAny _ _ (if (((Ec a.size 0 lo:Nat):Int) == 0 && (1:Int) == 1 && (Ec a.size a.size hi - Ec a.size 0 lo) == a.size)=true then _ else _) _ _ s;rw[if_neg e,X7];first
  | exact wpAny_bind (m:=Builtin.Tuple.tupleExact _) (wpAny_newObj_type (wpAny_pure ⟨_,rfl,wpAny_pure h⟩) b)
  | exact wpAny_bind (m:=Builtin.Tuple.tupleExact _) (wpAny_newObj_type (wpAny_bind (wpAny_pure (wpAny_pure ⟨_,rfl,wpAny_pure h⟩))) b)
  | exact wpAny_bind (wpAny_bind (m:=Builtin.Tuple.tupleExact _) (wpAny_newObj_type (wpAny_pure (wpAny_pure ⟨_,rfl,wpAny_pure h⟩)) b))
  | exact wpAny_bind (wpAny_bind (m:=Builtin.Tuple.tupleExact _) (wpAny_newObj_type (wpAny_pure ⟨_,rfl,wpAny_pure h⟩) b))
end
end HT
namespace L2
open PySem PySem.Spec PyProof.Rows
abbrev TO:=St->Hp->(Option Int->Hp->Prop)->Prop
def PO(X:Cx)(e:Option Expr)(t:TO):Prop :=
 ∀(a8:List<|Addr × Obj)(s:Shared)(σ:St)(H:Hp)(Q:Option Int->Hp->Prop),Inv X a8 σ H s->t σ H Q ->
  wpAny (model X.prog X.w) X.A (evalPart e X.env) (λu s'=>∃o H',Inv X a8 σ H' s'/\IsPart u o/\Q o H') X.xe s
def bY:TO:=λ_ H Q=>Q none H
inductive W_(Q:Option Int->Hp->Prop)(x:V)(H1:Hp):Prop
 | mk(i:_):x=.int i->Q (some i) H1->W_ Q x H1
def qN(t:TE):TO:=λσ H Q=>t σ H λx H1=>W_ Q x H1
section
variable{lo hi:Option Expr}{tl th:TO}{p2:Pos}
theorem Ge:PO X none bY:=by
 intro a s σ H Q I h;rw[evalPart_none];exact wpAny_pure ⟨none,H,I,.none,h⟩
theorem Ex(h:PE X e te):PO X (some e)<|qN te:=by
 intro j s σ H Q I f;rw[evalPart_some];refine CT (h j s σ H _ I f) λu k c=>?_;obtain⟨x,a,b,g,d⟩:=c;obtain⟨i,rfl,q⟩:=d;obtain⟨t,rfl⟩:=g;exact⟨some i,a,b,.int i t,q⟩
def zQ(X:Cx)(r:V->Option Int->Option Int->Hp->VK->Prop):Prop :=
 ∀(a8:List<|Addr × Obj)(s:Shared)(σ:St)(H:Hp)(x:V)(v vl vu:Value)(lo hi:Option Int)(sl:Addr)(Q:VK),Inv X a8 σ H s->RelV x v->s.heap.IsSliceOf sl vl vu .none->IsPart vl lo->IsPart vu hi->r x lo hi H Q ->
  ∃T id,typeLookup (.type T) "__getitem__" = pure (some<|.builtin id)/\s.TypeIs v T/\wpAny (model X.prog X.w) X.A (getItem v<|.ref sl) (EP X a8 σ Q) X.xe s
def tSl(r:V->Option Int->Option Int->Hp->VK->Prop)(te:TE)(tl th:TO):TE:=λσ H Q=>te σ H λx H1=>tl σ H1 λl H2=>th σ H2 λu H3=>r x l u H3 Q
theorem Ep{r:V->Option Int->Option Int->Hp->VK->Prop}(j:zQ X r)(w:PE X e te)(hl:PO X lo tl)(B:PO X hi th):PE X (.Subscript e (.Slice lo hi none p2) pos)<|tSl r te tl th:=by
 intro c s σ H Q I h;refine Subscript_<|CT (w c s σ H _ I h) λv G g=>?_
 obtain⟨x,k,E,K,m⟩:=g;refine wpAny_Slice<|CT (hl c G σ k _ E m) λf F ⟨l,z,J,t,D⟩=>CT (B c F σ z _ J D) λd a g=>?_
 obtain⟨u,i,y,C,p⟩:=g;rw[evalPart_none];refine wpAny_pure ?_;have o:Inv X c σ i { a with heap:=a.heap.push { cls:=.type "slice",data:=.fields #[f,d,.none] } }:=y.kept (t':=a.toks) λb M q=>Heap.get?_push_of_some _ q;obtain⟨T,id,A,n,L⟩:=j c { a with heap:=a.heap.push { cls:=.type "slice",data:=.fields #[f,d,.none] } } σ i x v f d l u a.heap.objs.size Q o K (Heap.IsSliceOf.new ..) t C p;show wpAny (model X.prog X.w) X.A (subscriptTail e (.Slice lo hi none p2) v<|.ref a.heap.objs.size) (EP X c σ Q) X.xe { a with heap:=a.heap.push { cls:=.type "slice",data:=.fields #[f,d,.none] } };exact tail_any (ops:=[.ref a.heap.objs.size,v]) n A L<|by with_unfolding_all rfl
def Er(xs:List V)(lo hi:Option Int):List V:=(xs.drop<|HT.Ec xs.length 0 lo).take<|HT.Ec xs.length xs.length hi - HT.Ec xs.length 0 lo
theorem Km(xs:List V)(lo hi:Option Int):(Er xs lo hi).length<=xs.length:=by
 unfold Er;rw[cy,lc];omega
inductive qU(K:W.Frag)(x:V)(lo:Option Int)(hi:Option Int)(H:Hp)(Q:VK):Prop
 | mk(a xs:_):x=.ref a->Gr K H a xs->¬ (HT.Ec xs.length 0 lo=0/\HT.Ec xs.length xs.length hi=xs.length)->(∀p,H p=none->Q (.ref p) (upd H p (.tup (Er xs lo hi))))->qU K x lo hi H Q
theorem PJ:zQ X<|qU X.K:=by
 intro z s σ H x v w y lo f u Q I m p l n h;obtain⟨a,d,rfl,j,k,q⟩:=h
 cases m;obtain⟨e,r,i,g⟩:=I.tuple j;have c:e.toArray.size=d.length:=by rw[bX];exact r.length.symm
 refine⟨"tuple",_,PyProof.Rows.slot_tuple_getitem.lookup,i.typeIs,?_⟩;refine HT.Ju i p l n (by rw[c];exact k) ?_<|by rw[c];exact g
 rw[c];refine⟨.ref s.heap.objs.size,_,I.laid (t':=s.toks) (o:=.tup<|Er d lo f) (λb t q=>Heap.get?_push_of_some _ q) (al _) ?_,U,q _<|I.hok.fresh<|al _⟩;exact⟨be (Km d lo f) g,_,(r.drop<|HT.Ec d.length 0 lo).take<|HT.Ec d.length d.length f - HT.Ec d.length 0 lo,IsTup.new _ _⟩
inductive eN(K:W.Frag)(x:V)(y:V)(H:Hp)(Q:VK):Prop
 | mk(a b xs ys:_):x=.ref a->y=.ref b->Gr K H a xs->Gr K H b ys->xs≠[]->xs.length+ys.length<=sizeLine->(ys=[]->Q (.ref a) H)->(ys≠[]->∀p,H p=none->Q (.ref p) (upd H p (.tup (xs++ys))))->eN K x y H Q
theorem Vals.O_{us:List Value}(r:Vals xs us):us=[] ↔ xs=[]:=by
 cases r with
 |nil=>simp
 |cons _ _=>simp
theorem Z8:G7 X (binaryOp .Add)<|eN X.K:=by
 intro D s σ H x y v u Q I p n h;obtain⟨a,b,l,k,rfl,rfl,A,t,f,e,j,g⟩:=h
 cases p
 cases n;obtain⟨i,d,m,_⟩:=I.tuple A;obtain⟨C,c,r,_⟩:=I.tuple t;refine HT.Zw m r (λz=>f<|d.O_.mp z) (λz=>⟨.ref a,H,I,U,j<|c.O_.mp z⟩) (λz=>?_)<|by rw[<-d.length,<-c.length];exact e
 refine⟨.ref s.heap.objs.size,_,I.laid (t':=s.toks) (o:=.tup<|l++k) (λb B q=>Heap.get?_push_of_some _ q) (al _) ?_,U,g (λw=>z<|c.O_.mpr w) _<|I.hok.fresh<|al _⟩;exact⟨by rw[ai];exact e,_,d.append c,IsTup.new _ _⟩
end
def dU(n:Nat)(i:Int):Option Nat:=if 0<=i then (if i<n then some i.toNat else none) else if -(n:Int)<=i then some (i+n).toNat else none
def Ve{α:Type}(xs:List α)(i:Int):Option α:=(dU xs.length i).bind λj=>xs[j]?
theorem Ux{i:Int}(h:dU n i=some j):seqIndex? i n=some j/\j<n /\ -(n:Int)<=i/\i<n:=by
 unfold dU at h;by_cases b:0<=i
 ·rw[if_pos b] at h;by_cases a:i<n
  ·rw[if_pos a] at h;have e:i.toNat=j:=Option.some.inj h;exact⟨by rw[seqIndex_of b a,e],by omega,by omega,a⟩
  ·rw[if_neg a] at h;cases h
 ·rw[if_neg b] at h;by_cases a : -(n:Int)<=i
  ·rw[if_pos a] at h;have e:(i+n).toNat=j:=Option.some.inj h;exact⟨by rw[seqIndex_neg (by omega) a,e],by omega,a,by omega⟩
  ·rw[if_neg a] at h;cases h
theorem Ob{α:Type}{xs:List α}{i:Int}{v:α}(h:Ve xs i=some v):∃j,seqIndex? i xs.length=some j/\xs[j]? = some v/\j<xs.length /\ -(xs.length:Int)<=i/\i<xs.length:=by
 unfold Ve at h
 cases e:dU xs.length i with
 |none=>rw[e] at h;cases h
 |some j =>
  rw[e] at h;obtain⟨a,d,b,c⟩:=Ux e;exact⟨j,a,h,d,b,c⟩
theorem Ah{α:Type}{xs:List α}{v:α}(h:xs[j]? = some v):Ve xs (j:Int)=some v:=by
 have a:j<xs.length:=(ag.mp h).1;have e:dU xs.length (j:Int)=some j:=by
  unfold dU;rw[if_pos (by omega),if_pos<|by omega];simp
 unfold Ve;rw[e];exact h
def Zz(b:Expr):Prop:=∀o i,subscripted b false o i=operate [o,i] (getItem o i)
def mz(X:Cx)(r:R2):Prop :=
 ∀(value mx:Expr)(a8:List<|Addr × Obj)(s:Shared)(σ:St)(H:Hp)(x y:V)(v u:Value)(Q:VK),Inv X a8 σ H s->RelV x v->RelV y u->r x y H Q ->
  subscripted mx false v u=operate [v,u] (getItem v u)->wpAny (model X.prog X.w) X.A (subscriptTail value mx v u) (EP X a8 σ Q) X.xe s
def vR(X:Cx)(id:String)(r:V->List V->Hp->VK->Prop):Prop :=
 ∀(a8:List<|Addr × Obj)(s:Shared)(σ:St)(H:Hp)(x:V)(xs:List V)(v:Value)(us:List Value)(Q:VK),Inv X a8 σ H s->RelV x v->Vals xs us->r x xs H Q ->
  wpAny (model X.prog X.w) X.A (call (.builtin id)<|v::us) (EP X a8 σ Q) X.xe s
section
variable{a b:Expr}{tb:TE}
theorem Az{r:R2}(c:mz X r)(l:PE X a ta)(k:PE X b tb)(g:Zz b):PE X (.Subscript a b pos)<|bh r ta tb:=by
 intro m s σ H Q I h;exact Subscript_<|ie l k I h λv u d x y j e i f q=>c a b m d σ j x y v u Q e i f q<|g _ _
inductive gb(K:W.Frag)(x:V)(y:V)(H:Hp)(Q:VK):Prop
 | mk(p xs i v:_):x=.ref p->y=.int i->De K H p xs->Ve xs i=some v->Q v H->gb K x y H Q
inductive aY(K:W.Frag)(x:V)(y:V)(H:Hp)(Q:VK):Prop
 | mk(p xs i v:_):x=.ref p->y=.int i->Gr K H p xs->Ve xs i=some v->Q v H->aY K x y H Q
inductive pF(x:V)(y:V)(H:Hp)(Q:VK):Prop
 | mk(z i c:_):x=.str z->y=.int i->z.length<=sizeLine->Ve z.cps.toList i=some c->Q (.str ⟨#[c]⟩) H->pF x y H Q
theorem Ei:mz X<|gb X.K:=by
 intro d L l s σ H x y v u Q I E D h k;obtain⟨p,G,i,z,rfl,rfl,A,n,q⟩:=h
 cases E;obtain⟨t,rfl⟩:=D;obtain⟨c,r,b,J⟩:=I.list A;obtain⟨j,a,F,M,o,C⟩:=Ob n;obtain⟨w,f,m⟩:=r.get F;have hl:=r.length;have K:=JL;have fin:EP X l σ Q w s:=⟨z,H,I,m,q⟩;by_cases g:0<=i
 ·have e:i.toNat=j:=by
   rw[seqIndex_of g C] at a;exact Option.some.inj a
  exact item_listR b.isList g (by omega) (by rw[e];simpa using f) fin k
 ·have e:(i+(c.toArray.size:Int)).toNat=j:=by
   rw[seqIndex_neg (by omega) o] at a;rw[bX,<-hl];exact Option.some.inj a
  exact subscriptTail_builtinR (x:=w) b.isList.typeIs slot_list_getitem.lookup
   (wpAny_getItem_list_neg (Q:=λr B=>r=w/\EP X l σ Q r B) b.isList (by omega) (by rw[List.size_toArray] <;> omega) (by omega) (by rw[e];simpa using f) ⟨U,fin⟩) k
theorem lU:mz X<|aY X.K:=by
 intro a J c s σ H x y v u Q I A o h k;obtain⟨p,C,i,z,rfl,rfl,g,f,q⟩:=h
 cases A;obtain⟨t,rfl⟩:=o;obtain⟨m,r,b,E⟩:=I.tuple g;obtain⟨j,l,B,K,D,F⟩:=Ob f;obtain⟨w,e,d⟩:=r.get B;have hl:=r.length;have G:=JL;have fin:EP X c σ Q w s:=⟨z,H,I,d,q⟩;exact subscriptTail_builtinR (x:=w) b.typeIs slot_tuple_getitem.lookup
  (getItem_tuple (j:=j) (Q:=λr n=>r=w/\EP X c σ Q r n) b (by omega) (by omega) (by rw[List.size_toArray,<-hl];exact l) (by simpa using e) ⟨U,fin⟩) k
theorem l_:mz X pF:=by
 intro a A C s σ H x y v u Q I k g h o;obtain⟨z,i,c,rfl,rfl,p,l,q⟩:=h;obtain⟨t,rfl⟩:=k;obtain⟨w,rfl⟩:=g;obtain⟨j,b,n,r,m,f⟩:=Ob l;have hl:z.cps.toList.length=z.length:=by simp[Str.length]
 rw[hl] at b m f;have B:=JL;exact tail_any (typeIs_str s z t) slot_str_getitem.lookup (getItem_str (c:=c) (by
  have e:decide (i < -(2 ^ 63:Int))=false:=decide_eq_false (by omega);have d:decide (i ≥ 2 ^ 63)=false:=decide_eq_false (by omega);rw[e,d,Bool.or_false]) (by rw[b];simpa using n) ⟨.str ⟨#[c]⟩,H,I.tok _,⟨_,U⟩,q⟩) o
theorem SM(its:List Value)(n j:Nat)(u:Value):Obj.mapSeq (·.setIfInBounds j u) { cls:=.type "list",data:=.seq its.toArray n } = { cls:=.type "list",data:=.seq (its.set j u).toArray n }:=by
 simp[Obj.mapSeq]
theorem Inv.lst(I:Inv X a8 σ H s)(h:H p=some (.lst xs)) :
  ∃(its:List Value)(n:Nat),Vals xs its/\s.heap.get? p=some { cls:=.type "list",data:=.seq its.toArray n }/\xs.length<=sizeLine:=by
 obtain⟨z,its,n,r,e⟩:=I.hok p _ h;exact⟨its,n,r,e,z⟩
theorem Inv.iB{ys:List V}{its its':List Value}{n':Nat}{f:Obj->Obj}(I:Inv X a8 σ H s)(h:H p=some (.lst xs))
  (g:s.heap.get? p=some { cls:=.type "list",data:=.seq its.toArray n }) (a:f { cls:=.type "list",data:=.seq its.toArray n } = { cls:=.type "list",data:=.seq its'.toArray n' }) (r:Vals ys its') (d:ys.length<=sizeLine) (t:Nat) :
  Inv X a8 σ (upd H p<|.lst ys) { s with heap:=s.heap.update p f,toks:=t }:=by
 have e:(s.heap.update p f).get? p=some { cls:=.type "list",data:=.seq its'.toArray n' }:=by
  rw[Heap.get?_update_self f g (by rw[a] <;> rfl),a]
 refine I.write (x:=p) (e:=p) (by rw[h];trivial) (.inl U) (λb u c q=>(Heap.get?_update_other _ _<|Ne.symm c).trans q) ⟨_,e⟩ ?_;exact⟨d,its',n',r,e⟩
inductive fQ(o:V)(i:V)(v:V)(H:Hp)(Q:Hp->Prop):Prop
 | mk(p xs k j:_):o=.ref p->i=.int k->H p=some (.lst xs)->dU xs.length k=some j->Q (upd H p (.lst (xs.set j v)))->fQ o i v H Q
theorem set_list:nZ X fQ:=by
 intro x s σ H o i v E D u Q I z w B h;obtain⟨p,A,k,j,rfl,rfl,l,C,q⟩:=h
 cases z;obtain⟨t,rfl⟩:=w;obtain⟨a,n,r,c,y⟩:=I.lst l;obtain⟨b,F,m,f⟩:=Ux C;have hl:=r.length;have G:=JL;have g:Inv X x σ (upd H p<|.lst<|A.set j v) { s with heap:=s.heap.update p (Obj.mapSeq (·.setIfInBounds j u)) } :=
  I.iB l c (SM a n j u) (r.set B j) (by rw[List.length_set];exact y) s.toks
 by_cases e:0<=k
 ·have d:k.toNat=j:=by
   rw[seqIndex_of e f] at b;exact Option.some.inj b
  exact W.ki_setAt c e (by omega) (by rw[bX,<-hl];exact f)<|by rw[d];exact⟨_,g,q⟩
 ·have d:(k+(a.toArray.size:Int)).toNat=j:=by
   rw[seqIndex_neg (by omega) m] at b;rw[bX,<-hl];exact Option.some.inj b
  exact W.ki_setBack c (by omega) (by rw[bX,<-hl];exact m) (by omega)<|by rw[d];exact⟨_,g,q⟩
theorem Oe(lo hi:Option Int)(n:Nat):(sliceBounds lo hi none n).1=((HT.Ec n 0 lo:Nat):Int)/\(sliceBounds lo hi none n).2.1=((HT.Ec n n hi:Nat):Int)/\(sliceBounds lo hi none n).2.2=1:=by
 refine⟨?_,?_,U⟩
 ·cases lo with
  |none=>simp[sliceBounds,HT.Ec]
  |some i =>
   simp only[sliceBounds,HT.Ec,Option.getD_none,show (1:Int) > 0 by decide,if_true];by_cases h:i<0
   ·simp only[h,if_true] <;> omega
   ·simp only[h,if_false] <;> omega
 ·cases hi with
  |none=>simp[sliceBounds,HT.Ec]
  |some i =>
   simp only[sliceBounds,HT.Ec,Option.getD_none,show (1:Int) > 0 by decide,if_true];by_cases h:i<0
   ·simp only[h,if_true] <;> omega
   ·simp only[h,if_false] <;> omega
theorem M7(its:List Value)(lo hi:Option Int):slicePick its.toArray lo hi none=((its.drop<|HT.Ec its.length 0 lo).take<|HT.Ec its.length its.length hi - HT.Ec its.length 0 lo).toArray:=by
 obtain⟨a,b,c⟩:=Oe lo hi its.toArray.size;unfold slicePick;rw[a,b,c];simp only[sliceRange_one,pick_run,List.size_toArray] <;> rfl
inductive qX(K:W.Frag)(x:V)(lo:Option Int)(hi:Option Int)(H:Hp)(Q:VK):Prop
 | mk(a xs:_):x=.ref a->De K H a xs->(∀p,H p=none->Q (.ref p) (upd H p (.lst (Er xs lo hi))))->qX K x lo hi H Q
theorem Jc:zQ X<|qX X.K:=by
 intro y s σ H x v u w lo e t Q I l n k m h;obtain⟨a,c,rfl,g,q⟩:=h
 cases l;obtain⟨j,r,f,i⟩:=I.list g;have d:=r.length;refine⟨"list",_,slot_list_getitem.lookup,f.isList.typeIs,?_⟩;refine wpAny_getItem_list_slice f.isList n k m .none (by simp) ?_<|by rw[List.size_toArray] <;> omega
 rw[M7,<-d];refine⟨.ref s.heap.objs.size,_,I.laid (t':=s.toks) (o:=.lst<|Er c lo e) (λb p q=>Heap.get?_push_of_some _ q) (al _) ?_,U,q _<|I.hok.fresh<|al _⟩;exact⟨be (Km c lo e) i,_,0,(r.drop<|HT.Ec c.length 0 lo).take<|HT.Ec c.length c.length e - HT.Ec c.length 0 lo,Heap.get?_push_size _ U⟩
def Et:V->Bool
 |.non=>true
 |.bl _=>true
 |.int _=>true
 |.str _=>true
 |_=>false
def Oc:V->V->Bool
 |.non,.non=>true
 |.bl a,.bl b=>a == b
 |.bl a,.int b=>(if a then 1 else 0) == b
 |.int a,.bl b=>a == (if b then 1 else 0)
 |.int a,.int b=>a == b
 |.str a,.str b=>a == b
 |_,_=>false
theorem O8{y x:V}{v:Value}(e:RelV y u)(c:RelV x v)(g:Et y=true)(f:Et x=true):SeqAt.EqAt A s u v<|Oc y x:=by
 cases y with
 |non =>
  cases e
  cases x with
  |non=>cases c;exact SeqAt.EqAt.same _
  |bl b=>cases c;exact SeqAt.EqAt.none_bool b
  |int b=>obtain⟨t,rfl⟩:=c;exact SeqAt.EqAt.none_int b t
  |str b=>obtain⟨t,rfl⟩:=c;exact SeqAt.EqAt.none_str b t
  |_=>exact absurd (show false=true from f) Bool.false_ne_true
 |bl a =>
  cases e
  cases x with
  |non=>cases c;exact SeqAt.EqAt.bool_none a
  |bl b=>cases c;exact SeqAt.EqAt.bool_bool a b
  |int b=>obtain⟨t,rfl⟩:=c;exact SeqAt.EqAt.bool_int a b t
  |str b=>obtain⟨t,rfl⟩:=c;exact SeqAt.EqAt.bool_str a b t
  |_=>exact absurd (show false=true from f) Bool.false_ne_true
 |int a =>
  obtain⟨d,rfl⟩:=e
  cases x with
  |non=>cases c;exact SeqAt.EqAt.int_none a d
  |bl b=>cases c;exact SeqAt.EqAt.int_bool a d b
  |int b=>obtain⟨t,rfl⟩:=c;exact SeqAt.EqAt.int_int a d b t
  |str b=>obtain⟨t,rfl⟩:=c;exact SeqAt.EqAt.int_str a d b t
  |_=>exact absurd (show false=true from f) Bool.false_ne_true
 |str a =>
  obtain⟨d,rfl⟩:=e
  cases x with
  |non=>cases c;exact SeqAt.EqAt.str_none a d
  |bl b=>cases c;exact SeqAt.EqAt.str_bool a d b
  |int b=>obtain⟨t,rfl⟩:=c;exact SeqAt.EqAt.str_int a d b t
  |str b=>obtain⟨t,rfl⟩:=c;exact SeqAt.EqAt.str_str a d b t
  |_=>exact absurd (show false=true from f) Bool.false_ne_true
 |_=>exact absurd (show false=true from g) Bool.false_ne_true
def Rq(x:V)(u:Value):Bool:=match u with
 |.none=>Oc .non x
 |.bool b=>Oc (.bl b) x
 |.int i _=>Oc (.int i) x
 |.str z _=>Oc (.str z) x
 |_=>false
theorem ZS{x y:V}(r:RelV y u)(f:Et y=true):Rq x u=Oc y x:=by
 cases y with
 |non=>cases r;rfl
 |bl b=>cases r;rfl
 |int i=>obtain⟨t,rfl⟩:=r;rfl
 |str z=>obtain⟨t,rfl⟩:=r;rfl
 |_=>exact absurd (show false=true from f) Bool.false_ne_true
theorem Jm{x:V}:∀{xs:List V}{us:List Value},Vals xs us->xs.all Et=true->us.any (Rq x)=xs.any λy=>Oc y x
 |_,_,.nil,_=>rfl
 |y::xs,u::us,.cons r t,f=>by
  rw[List.all_cons,fi] at f;rw[kD,kD,ZS r f.1,Jm t f.2]
theorem Ie{x:V}{v:Value}(b:RelV x v)(c:Et x=true):∀{xs:List V}{us:List Value},Vals xs us->xs.all Et=true->∀u∈us,SeqAt.EqAt A s u v<|Rq x u
 |_,_,.nil,_=>λu a=>by cases a
 |y::xs,u::us,.cons r t,f=>λd a=>by
  rw[List.all_cons,fi] at f;rcases ce.mp a with rfl | a
  ·rw[ZS r f.1];exact O8 r b f.1 c
  ·exact Ie b c t f.2 d a
def inV(x:V)(xs:List V):Bool:=xs.any λy=>Oc y x
inductive uf(K:W.Frag)(neg:Bool)(x:V)(y:V)(H:Hp)(Q:VK):Prop
 | mk(p xs:_):y=.ref p->(De K H p xs \/ Gr K H p xs)->Et x=true->xs.all Et=true->Q (.bl (if neg then !inV x xs else inV x xs)) H->uf K neg x y H Q
theorem J_:G7 X (compareOp .In)<|uf X.K false:=by
 intro k s σ H x y v u Q I f i h;obtain⟨p,j,rfl,b,e,fs,q⟩:=h
 cases i;rcases b with b | b
 ·obtain⟨a,r,d,g⟩:=I.list b;refine SeqAt.in_listAt (Rq x) d.isList (λw c=>Ie f e r fs w<|by simpa using c) ⟨.bl _,H,I,U,?_⟩;rw[show a.toArray.any (Rq x)=a.any (Rq x) by simp,Jm r fs];exact q
 ·obtain⟨a,r,d,g⟩:=I.tuple b;refine SeqAt.in_tupleAt (Rq x) d (λw c=>Ie f e r fs w<|by simpa using c) ⟨.bl _,H,I,U,?_⟩;rw[show a.toArray.any (Rq x)=a.any (Rq x) by simp,Jm r fs];exact q
theorem Oi:G7 X (compareOp .NotIn)<|uf X.K true:=by
 intro k s σ H x y v u Q I f i h;obtain⟨p,j,rfl,b,e,fs,q⟩:=h
 cases i;rcases b with b | b
 ·obtain⟨a,r,d,g⟩:=I.list b;refine SeqAt.notIn_listAt (Rq x) d.isList (λw c=>Ie f e r fs w<|by simpa using c) ⟨.bl _,H,I,U,?_⟩;rw[show a.toArray.any (Rq x)=a.any (Rq x) by simp,Jm r fs];exact q
 ·obtain⟨a,r,d,g⟩:=I.tuple b;refine SeqAt.notIn_tupleAt (Rq x) d (λw c=>Ie f e r fs w<|by simpa using c) ⟨.bl _,H,I,U,?_⟩;rw[show a.toArray.any (Rq x)=a.any (Rq x) by simp,Jm r fs];exact q
theorem BW:Fe X (.builtin "len") (λxs H Q=>∃p ys,xs=[.ref p]/\(De X.K H p ys \/ Gr X.K H p ys)/\Q (.int ys.length) H):=by
 intro k s σ H xs j Q I r h;obtain⟨p,ys,rfl,b,q⟩:=h;obtain⟨u,rfl,g⟩:=vals1 r
 cases g;have i:=JL;rcases b with b | b
 ·obtain⟨c,d,e,f⟩:=I.list b;have a:=d.length;exact Calls.call_len_list e.isList (by simp only[List.size_toArray] <;> omega) ⟨.int ys.length,H,I.tok _,⟨s.toks+1,by rw[List.size_toArray,a]⟩,q⟩
 ·obtain⟨c,d,e,f⟩:=I.tuple b;have a:=d.length;exact len_tuple e (by simp only[List.size_toArray] <;> omega) ⟨.int ys.length,H,I.tok _,⟨s.toks+1,by rw[List.size_toArray,a]⟩,q⟩
theorem Js:Fe X (.builtin "len") (λxs H Q=>∃z,xs=[.str z]/\z.length<=sizeLine/\Q (.int z.length) H):=by
 intro d s σ H xs c Q I r h;obtain⟨z,rfl,a,q⟩:=h;obtain⟨u,rfl,t,rfl⟩:=vals1 r;have b:=JL;exact len_str (by omega) ⟨.int z.length,H,I.tok _,⟨_,U⟩,q⟩
theorem Dn:Fe X (.type "list") (λxs H Q=>∃p ys,xs=[.ref p]/\(De X.K H p ys \/ Gr X.K H p ys)/\∀l,H l=none->Q (.ref l) (upd H l<|.lst ys)):=by
 intro y s σ H xs A Q I r h;obtain⟨p,ys,rfl,i,q⟩:=h;obtain⟨u,rfl,z⟩:=vals1 r
 cases z;have fin:∀(a:List Value),Vals ys a->ys.length<=sizeLine->∀(c:Heap)(d:Nat),(∀b x,s.heap.get? b=some x->c.get? b=some x) ->
   c.get? s.heap.objs.size=some { cls:=.type "list",dict:=none,data:=.seq a.toArray d,slots:=#[] }->EP X y σ Q (.ref s.heap.objs.size) { s with heap:=c }:=λa f j c d g e =>
  ⟨.ref s.heap.objs.size,_,I.laid (t':=s.toks) g (Nat.le_refl _) (show CW X.prog X.w _ c _ (.lst ys) from ⟨j,a,d,f,e⟩),U,q _<|I.hok.fresh<|Nat.le_refl _⟩
 rcases i with i | i
 ·obtain⟨a,f,m,j⟩:=I.list i;have k:=f.length;obtain⟨o,v,t,n,w⟩:=m.isList;exact call_list_seq p (.inl U) v t w (λc d g e=>fin a f j c d g e)<|by simp only[List.size_toArray] <;> omega
 ·obtain⟨a,f,m,j⟩:=I.tuple i;have k:=f.length;obtain⟨o,v,t,n,w⟩:=m;exact call_list_seq p (.inr U) v t w (λc d g e=>fin a f j c d g e)<|by simp only[List.size_toArray] <;> omega
theorem Mz:Fe X (.type "tuple") (λxs H Q=>∃p ys,xs=[.ref p]/\((De X.K H p ys/\∀l,H l=none->Q (.ref l) (upd H l<|.tup ys)) \/ (Gr X.K H p ys/\Q (.ref p) H))):=by
 intro m s σ H xs w Q I r h;obtain⟨p,ys,rfl,h⟩:=h;obtain⟨u,rfl,v⟩:=vals1 r
 cases v;rcases h with⟨g,q⟩ | ⟨g,q⟩
 ·obtain⟨a,d,f,j⟩:=I.list g;have k:=d.length;refine call_tuple_list f.isList (λc n=>?_)<|by simp only[List.size_toArray] <;> omega
  have i:Inv X m σ H { s with heap:=c }:=I.kept (t':=s.toks) n;have t:Inv X m σ (upd H c.objs.size<|.tup ys) { s with heap:=c.push { cls:=.type "tuple",data:=.seq a.toArray } } :=
   i.laid (t':=s.toks) (λb o e=>Heap.get?_push_of_some _ e) (Nat.le_refl _) (show CW X.prog X.w _ _ _ (.tup ys) from ⟨j,a,d,IsTup.new _ _⟩)
  exact⟨.ref c.objs.size,_,t,U,q _<|i.hok.fresh<|al _⟩
 ·obtain⟨a,d,f,j⟩:=I.tuple g;exact call_tuple_same f ⟨.ref p,H,I,U,q⟩
def yx(K:W.Frag)(T:String)(x:V)(H:Hp):Prop:=match x with
 |.str _=>T = "str"
 |.int _=>T = "int"
 |.ref p=>(T = "list" /\ ∃xs,De K H p xs) \/ (T = "tuple" /\ ∃o,K.lookup p=some o/\o.cls=.type "tuple" /\ o.dict=none) \/
   (T = "dict" /\ ((∃kvs,H p=some (.dK kvs)) \/ ∃kvs,H p=some (.dT kvs))) \/ (T = "set" /\ ∃S n,H p=some (.set S n))
 |_=>False
theorem Y5{T:String}{x:V}{v:Value}(I:Inv X a8 σ H s)(r:RelV x v)(f:yx X.K T x H) :
  s.TypeIs v T/\∀a,v=.ref a->∃ob,s.heap.get? a=some ob/\ob.dict=none:=by
 cases x with
 |str z =>
  obtain⟨t,rfl⟩:=r
  cases (show T = "str" from f);exact⟨typeIs_str s z t,λ_ e=>nomatch e⟩
 |int i =>
  obtain⟨t,rfl⟩:=r
  cases (show T = "int" from f);exact⟨typeIs_int s i t,λ_ e=>nomatch e⟩
 |ref p =>
  cases r;rcases f with⟨rfl,u,m⟩ | ⟨rfl,o,b,q,h⟩ | ⟨rfl,b⟩ | ⟨rfl,S,n,b⟩
  ·obtain⟨l,_,k,_⟩:=I.list m;refine⟨k.isList.typeIs,λa e=>?_⟩
   cases e;obtain⟨o,n,e,c,h,_⟩:=k;exact⟨o,e,h⟩
  ·refine⟨⟨o,I.G_ p o b,q⟩,λa e=>?_⟩
   cases e;exact⟨o,I.G_ _ o b,h⟩
  ·have z:∃o,s.heap.get? p=some o/\o.ExactDict:=by
    rcases b with⟨j,b⟩ | ⟨j,b⟩
    ·obtain⟨_,_,_,_,o,_,_,e,d,_⟩:=I.hok p _ b;exact⟨o,e,d⟩
    ·obtain⟨_,_,_,_,o,_,_,e,d,_⟩:=I.hok p _ b;exact⟨o,e,d⟩
   obtain⟨o,e,d⟩:=z;refine⟨⟨o,e,d.1⟩,λa g=>?_⟩
   cases g;exact⟨o,e,d.2.1⟩
  ·obtain⟨o,_,_,_,e,d,_⟩:=I.hok p _ b;refine⟨⟨o,e,d.1⟩,λa g=>?_⟩
   cases g;exact⟨o,e,d.2.1⟩
 |_=>exact False.elim f
def wC(K:W.Frag)(T:String)(r:V->List V->Hp->VK->Prop)(to:TE):TE:=λσ H Q=>to σ H λx H1=>yx K T x H1/\r x [] H1 Q
def tBM(K:W.Frag)(T:String)(r:V->List V->Hp->VK->Prop)(to:TE)(t:TA):TE:=λσ H Q=>to σ H λx H1=>yx K T x H1/\t σ H1 λxs H2=>r x xs H2 Q
variable{o:Expr}{to:TE}{t:TA}{name:Str}{i4:Pos}{T id:String}{r:V->List V->Hp->VK->Prop}
theorem S_(q:PlainAttrs T)(b:Slot T name id)(n:typeOf (.builtin id)=pure (.type "method_descriptor"))(k:vR X id r)(t:PE X o to)
  (a:attributeBase o name X.env (eval o X.env)=eval o X.env:=by rfl)(p:(g0.endLine == i4.line)=true:=by rfl):PE X (.Call (.Attribute o name g0) [] [] i4)<|wC X.K T r to:=by
 intro e s σ H Q I h;refine wpAny_Call_method0_late a p<|CT (t e s σ H _ I h) λv j l=>?_
 obtain⟨x,g,c,d,i,m⟩:=l;obtain⟨f,u⟩:=Y5 c d i;exact⟨T,id,q,b,n,f,u,Calls.callWith_builtin U<|PySem.evalArgs_none<|k e j σ g x [] v [] Q c d .nil m⟩
theorem G5(D:PlainAttrs T)(c:Slot T name id)(z:typeOf (.builtin id)=pure (.type "method_descriptor"))(q:vR X id r)(J:PE X o to)(E:PA X (e::es) t)
  (b:attributeBase o name X.env (eval o X.env)=eval o X.env:=by rfl)
  (G:((backTo i4<|starEach (e::es) X.env).all (λx=>!x.1) && (backToKw i4<|keywordEach [] X.env).all (λx=>x.1.isSome)
   && decide ((e::es).length+([]:List Keyword).length+(if ([]:List Keyword).isEmpty then 0 else 1)<30))=true:=by rfl)
  (A:(g0.endLine == i4.line)=true:=by rfl) (M:starEach (e::es) X.env=(false,eval e X.env)::starEach es X.env:=by rfl) (a:(backTo i4<|starEach es X.env).any (·.1)=false:=by rfl) :
  PE X (.Call (.Attribute o name g0) (e::es) [] i4) (tBM X.K T r to t):=by
 intro d s σ H Q I h;refine wpAny_Call_method_late b G A U<|CT (J d s σ H _ I h) λv p u=>?_
 obtain⟨x,l,f,i,m,w⟩:=u;obtain⟨j,K⟩:=Y5 f i m;refine⟨T,id,D,c,z,j,K,?_⟩;have g:=E i4 d p σ l _ f w;rw[M] at g |-;refine Calls.callWith_builtin (by show (false || (backTo i4<|starEach es X.env).any (·.1))=false;rw[a] <;> rfl)<|Calls.evalArgs_plain ?_
 exact CT g λL n ⟨B,F,y,C,k⟩=>q d n σ F x B v L Q y i C k
end
def uw(X:Cx)(id:String)(r:V->List V->Hp->VK->Prop):Prop :=
 ∀(a8:List<|Addr × Obj)(s:Shared)(σ:St)(H:Hp)(x:V)(xs:List V)(v:Value)(us:List Value)(Q:VK),Inv X a8 σ H s->RelV x v->Vals xs us->r x xs H Q ->
  wpAny (model X.prog X.w) X.A (call (.builtin id)<|v::us) (EP X a8 σ Q) X.xe s
theorem Vals.one:∀{x:V}{us:List Value},Vals [x] us->∃u,us=[u]/\RelV x u:=λh=>by cases h with | cons r t=>cases t;exact⟨_,U,r⟩
theorem Vals.two:∀{x y:V}{us:List Value},Vals [x,y] us->∃u v,us=[u,v]/\RelV x u/\RelV y v:=λh=>by cases h with | cons r t=>cases t with | cons q t=>cases t;exact⟨_,_,U,r,q⟩
theorem Vals.zero:∀{us:List Value},Vals [] us->us=[]
 |_,.nil=>rfl
theorem Vals.eraseIdx:∀{xs:List V}{us:List Value}(i:Nat),Vals xs us->Vals (xs.eraseIdx i) (us.eraseIdx i)
 |_,_,_,.nil=>.nil
 |_,_,0,.cons _ t=>t
 |_,_,i+1,.cons r t=>.cons r<|Vals.eraseIdx i t
theorem Vals.reverse{us:List Value}(h:Vals xs us):Vals xs.reverse us.reverse:=by
 induction h with
 |nil=>exact .nil
 |cons r t a=>rw[kg,kg];exact Vals.append a<|.cons r .nil
theorem Nr{α:Type}:∀(l:List α)(i:Nat),(l.eraseIdx i).length<=l.length
 |[],_=>al _
 |_::_,0=>ke _
 |_::r,i+1=>eD<|Nr r i
section
variable{l:Addr}{ys zs:List V}
theorem Inv.Zo{its its':List Value}{f:Array Value->Array Value}{t':Nat}(I:Inv X a8 σ H s)(d:H l=some (.lst xs))
  (e:s.heap.get? l=some { cls:=.type "list",data:=.seq its.toArray n }) (h:f its.toArray=its'.toArray) (b:Vals ys its') (c:ys.length<=sizeLine) :
  Inv X a8 σ (upd H l<|.lst ys) { s with heap:=s.heap.update l<|Obj.mapSeq f,toks:=t' }:=by
 have q:=PySem.IsL.update e f;rw[h] at q;refine I.write (x:=l) (e:=l) (by rw[d];exact trivial) (.inl U) (λi u a g=>(Heap.get?_update_other s.heap (Obj.mapSeq f)<|Ne.symm a).trans g) ⟨_,q⟩ ?_;exact⟨c,its',_,b,q⟩
theorem Inv.ph{its:List Value}{t':Nat}(I:Inv X a8 σ H s)(b:Vals ys its)(a:ys.length<=sizeLine) :
  Inv X a8 σ (upd H s.heap.objs.size<|.lst ys) { s with heap:=s.heap.push { cls:=.type "list",data:=.seq its.toArray },toks:=t' } :=
 I.laid (λ_ _ q=>Heap.get?_push_of_some _ q) (al _) ⟨a,its,0,b,Heap.get?_push_size _ U⟩
theorem Inv.fresh(I:Inv X a8 σ H s):H s.heap.objs.size=none:=I.hok.fresh<|al _
theorem Inv.Rk(I:Inv X a8 σ H s)(a:H l=some (.lst xs)):xs.length<=sizeLine/\∃(its:List Value)(n:Nat),Vals xs its/\xs.length=its.length/\s.heap.get? l=some { cls:=.type "list",data:=.seq its.toArray n }:=by
 obtain⟨z,its,n,r,e⟩:=I.hok l _ a;exact⟨z,its,n,r,r.length,e⟩
theorem W5(h:n<=sizeLine):Builtin.List.listTooLong n=false:=by
 unfold Builtin.List.listTooLong;exact decide_eq_false<|by omega
end
inductive Up(x:V)(vs:List V)(H:Hp)(Q:VK):Prop
 | mk(l xs y:_):x=.ref l->vs=[y]->H l=some (.lst xs)->xs.length<sizeLine->Q .non (upd H l (.lst (xs++[y])))->Up x vs H Q
theorem Di:uw X "list.append" Up:=by
 intro m s σ H x j v k Q I f c h;obtain⟨l,i,y,rfl,rfl,b,g,q⟩:=h
 cases f;obtain⟨u,rfl,d⟩:=c.one;obtain⟨z,a,n,r,hl,e⟩:=I.Rk b;refine call_meets F.slot_list_append ⟨_,e,U⟩ F.entry_list_append (F.args_list_append_2 _ _) (PySem.list_append l a.toArray n u<|by rw[bX];omega) ⟨e,?_⟩;refine⟨.non,_,I.Zo (its':=a++[u]) b e (by simp) (r.append<|.cons d .nil) ?_,U,q⟩;rw[ai,aI];omega
inductive Tt(x:V)(vs:List V)(H:Hp)(Q:VK):Prop
 | mk(l b xs zs:_):x=.ref l->vs=[.ref b]->H l=some (.lst xs)->H b=some (.lst zs)->xs.length+zs.length<=sizeLine->Q .non (upd H l (.lst (xs++zs)))->Tt x vs H Q
theorem VV:uw X "list.extend" Tt:=by
 intro w s σ H x D v G Q I i m h;obtain⟨l,b,C,E,rfl,rfl,g,t,y,q⟩:=h
 cases i;obtain⟨u,rfl,p⟩:=m.one
 cases p;obtain⟨z,a,n,r,hl,e⟩:=I.Rk g;obtain⟨B,d,k,j,A,o⟩:=I.Rk t;have f:a.toArray.size+d.toArray.size<=sizeLine:=by rw[bX,bX];omega
 have c:¬ (!a.toArray.isEmpty && Builtin.List.listTooLong (a.toArray.size+d.toArray.size))=true:=by
  rw[W5 f,Bool.and_false];exact eW
 refine call_meets F.slot_list_extend ⟨_,e,U⟩ F.entry_list_extend (F.args_list_extend_2 _ _)
  (AutoSeq1.list_extend_list_list_0 l a.toArray n b d.toArray k c (by rw[bX];omega)<|by omega) ⟨e,o,?_⟩
 refine⟨.non,_,I.Zo (its':=a++d) g e (by simp) (r.append j) ?_,U,q⟩;rw[ai];omega
inductive Xe(x:V)(vs:List V)(H:Hp)(Q:VK):Prop
 | mk(l xs i k y:_):x=.ref l->vs=[.int i]->H l=some (.lst xs)->-(2 ^ 63)<=i->i<2 ^ 63->seqIndex? i xs.length=some k->xs[k]? = some y->Q y (upd H l (.lst (xs.eraseIdx k)))->Xe x vs H Q
theorem Ym:uw X "list.pop" Xe:=by
 intro E s σ H x C v D Q I p d h;obtain⟨l,m,i,k,y,rfl,rfl,b,c,B,A,o,q⟩:=h
 cases p;obtain⟨u,rfl,g⟩:=d.one;obtain⟨t,rfl⟩:=g;obtain⟨z,a,n,r,hl,e⟩:=I.Rk b;obtain⟨w,j,f⟩:=r.get o;refine call_meets F.slot_list_pop ⟨_,e,U⟩ F.entry_list_pop (F.args_list_pop_2 _ _)
  (MeetsSeq.list_pop_at l a.toArray n i t k w (fitsIndex_both c B) (by rw[bX,<-hl];exact A) (by rw[<-Array.getElem?_toList];exact j)<|by rw[bX];omega) ⟨e,?_⟩
 refine⟨y,_,I.Zo (its':=a.eraseIdx k) b e ?_ (r.eraseIdx k) ?_,f,q⟩
 ·show a.toArray.eraseIdxIfInBounds k=(a.eraseIdx k).toArray;rw[List.eraseIdxIfInBounds_toArray]
 ·have:=Nr m k;omega
inductive QK(x:V)(vs:List V)(H:Hp)(Q:VK):Prop
 | mk(l xs:_):x=.ref l->vs=[]->H l=some (.lst xs)->Q .non (upd H l (.lst xs.reverse))->QK x vs H Q
theorem RW:uw X "list.reverse" QK:=by
 intro k s σ H x i v j Q I f d h;obtain⟨l,g,rfl,rfl,c,q⟩:=h
 cases f;have b:=d.zero;subst b;obtain⟨z,a,n,r,hl,e⟩:=I.Rk c;refine call_meets F.slot_list_reverse ⟨_,e,U⟩ F.entry_list_reverse (F.args_list_reverse_1 _) (AutoSeq1.list_reverse_list_0 l a.toArray n<|by rw[bX];omega) ⟨e,?_⟩;refine⟨.non,_,I.Zo (its':=a.reverse) c e (by simp) r.reverse ?_,U,q⟩;rw[List.length_reverse];omega
inductive il(x:V)(y:V)(H:Hp)(Q:VK):Prop
 | mk(l b xs zs:_):x=.ref l->y=.ref b->H l=some (.lst xs)->H b=some (.lst zs)->xs.length+zs.length<=sizeLine->(∀p,H p=none->Q (.ref p) (upd H p (.lst (xs++zs))))->il x y H Q
theorem O6:G7 X (binaryOp .Add) il:=by
 intro C s σ H x y v u Q I k g h;obtain⟨l,b,t,A,rfl,rfl,j,m,o,q⟩:=h
 cases k
 cases g;obtain⟨z,a,n,r,hl,e⟩:=I.Rk j;obtain⟨w,c,B,i,p,d⟩:=I.Rk m;refine PySem.P.add_list e d ?_<|by rw[bX,bX];omega
 have f:a.toArray++c.toArray=(a++c).toArray:=by simp
 rw[f];exact⟨.ref _,_,I.ph (t':=s.toks) (r.append i)<|by rw[ai];omega,U,q _ I.fresh⟩
end L2
namespace Att
open PySem PySem.W PySem.Calls PyProof.Rows
theorem Ky{P:Params}:∀(ns:List Int)(vs:List Value),WellAll P h vs (ns.map WData.int)->IntsAre vs ns:=by
 intro ns
 induction ns with
 |nil =>
  intro vs w;rw[lI] at w
  cases w;exact .nil
 |cons n ns c =>
  intro vs w;rw[cw] at w
  cases w with
  |cons a b =>
   cases a;exact .cons _ _<|c _ b
theorem Vp{l:OpenLaw}(t:l.most=some n){P:Params}{args:List WData}{j:List Value}
  (k:l.row.toRowW.claim.pre args=true) (i:WellAll P h j args) :
  ∃a vs ns,j=[Value.ref a]/\args=[WData.list (ns.map WData.int)]/\h.get? a=some { cls:=.type "list",data:=.seq vs.toArray }/\IntsAre vs ns/\ns.length<=n:=by
 have g:WShape.hasAll [] args [.list .int]=true:=(pre_splitW k).1;have m:l.pre.holds [] { args:=args }=true:=(pre_splitW k).2;obtain⟨d,r,rfl,o,u⟩:=hasAllW_cons g;obtain rfl:=hasAllW_nil u;obtain⟨y,rfl,x⟩:=hasW_list o;obtain⟨ns,rfl⟩:=items_int x;have c:ns.length<=n:=by
  unfold OpenLaw.pre at m;have f:(WTm.not<|.lt (.lit<|.int (n:Int))<|.len<|.arg 0).holds [] { args:=[.list (ns.map .int)] }=true:=by
   have f:=(holds_andW m).1;rw[t] at f;exact f
  have e:=condW_of f<|w_not<|w_lt w_lit<|w_len_list<|w_arg U
  rw[af] at e;refine Nat.le_of_not_lt λq=>?_;have p:(n:Int)<((ns.length:Nat):Int):=by omega
  first
   | (rw[decide_eq_true p] at e;exact absurd e (by decide))
   | (simp at e;omega)
 cases i with
 |cons v s =>
  cases s
  cases v with
  |list w b=>exact⟨_,_,ns,U,U,w,Ky ns _ b,c⟩
theorem Uz(l:OpenLaw)(args:List WData):l.row.toRowW.claim.post args (.bool true) args=true :=
 postW_of (r:=l.row.toRowW) (X:=(true == true))
  (show WShape.has [] (.bool true) .bool=true by first | rfl | decide | simp[WShape.has,WShape.arms,WShape.armsAll])
  (show (WTm.eq .res<|.lit<|.bool true).value [] { args:=args,res:=some<|.bool true,after:=args }=some (.bool<|true == true) from w_eq_bool (w_res U) w_lit) U
theorem QS{l:OpenLaw}{q:Program}{x:List Str}{v:(Str->Option Value)->Heap->Prop}{u:World->Heap->Prop}{d:DefRec}
  (M:l.most=some n)(J:d.params.defaults=[])
  (call:∀(w:World)(k b:Shared)(h m:Str->Option Value)(c:Addr)(o:Obj)(i g j:Value)(a:Addr)(vs:List Value)(ns:List Int),
   Ground q x [] v w k h m b.heap->u w b.heap ->
   b.heap.get? c=some o->o.data=.func (docDef d.name d.params d.body d.scope i g j)->b.heap.CodeRec g d.name->h d.name=some (.ref c) ->
   b.heap.get? a=some { cls:=.type "list",data:=.seq vs.toArray }->IntsAre vs ns->ns.length<=n->b.gens = #[] ->
   codeAny (model l.prog w) callerA (.call (.ref c) ⟨[.ref a],[]⟩) (λr s'=>r=.ok (.ret<|.bool true)/\OldK b.heap s'.heap/\s'.os=b.os/\AllBare s'.gens) b) :
  WalkO q x v u l.row.toRowW d [] (λf vs=>PySem.call f vs):=by
 intro w k b h m G Y c o i g j K kV C H E s A L args S Q I t y p R;obtain rfl:K=.none:=Dflts.none s J;obtain rfl:kV=.none:=Dflts.noKw s;obtain⟨a,vs,ns,rfl,rfl,O,z,e⟩:=Vp M I p;refine enter_call<|codeAny_mono (call w k b h m c o i g j a vs ns G Y C (fd_plain H) E A O z e L) λr s' D=>?_
 obtain⟨rfl,N,P,B⟩:=D;exact⟨.inl ⟨.bool true,.bool true,[],U,λ_=>rfl,.bool true,Uz l _,λ_=>⟨List.Pairwise.nil,λ_ F=>(nomatch F)⟩⟩,N,P,B⟩
end Att
namespace L2
open PySem PySem.Spec PyProof.Rows
theorem N8:∀{vs:List Value}{ns:List Int},IntsAre vs ns->Vals (ns.map V.int) vs
 |_,_,.nil=>.nil
 |_,_,.cons n t h=>.cons ⟨t,U⟩<|N8 h
def Only(H:Hp):Prop:=∀b,H b=none \/ ∃o xs,H b=some (.frz o<|.lst xs)
theorem WD{w:World}{K:W.Frag}{L:Str->Option Value}{CX:V0}{k:Nat}{I:Addr}{sp:Sp}{c:Shared}{vs:List Value}{ns:List Int}
  (M:K.In c.heap)(l:c.heap.Ns mainGlobals mg)(g:c.heap.Ns builtinsNs L)(E:∀x:Str,x≠"__name__"->L x=bootBuiltins x)(U':c.heap.NoLimit)(hg:c.gens = #[])
  (D:c.heap.get? a=some { cls:=.type "list",data:=.seq vs.toArray })(hi:IntsAre vs ns)(hl:ns.length<=sizeLine)(hr:A_ k callerA)
  (F:∀base:Heap,K.In base->base.Ns mainGlobals mg->An P w K mg base CX k I fd [x] sp)(Kn:∀(s:Shared)(u:Value),BindsTo s fd ⟨[u],[]⟩ [(x,u)])
  (vt:∀H:Hp,Only H->De K H a (ns.map V.int)->sp [.ref a] H (λv _=>v=.bl true) λ_ _ _=>False)
  (OF:∀H e s',CX [] H c (λ_ _ _=>False) e s'->False) :
  codeAny (model P w) callerA (.call (.ref I) ⟨[.ref a],[]⟩) (λr s'=>r=.ok (.ret<|.bool true)/\OldK c.heap s'.heap/\s'.os=c.os/\AllBare s'.gens) c:=by
 have R:=N8 hi;have Y:=hi.length;have j:∀H:Hp,Only H->De K H a (ns.map V.int)->GQ P w H c.heap->(∀b,H b≠none->b=a)->(H a≠none->K.lookup a=none) ->
   codeAny (model P w) callerA (.call (.ref I) ⟨[.ref a],[]⟩) (λr s'=>r=.ok (.ret<|.bool true)/\OldK c.heap s'.heap/\s'.os=c.os/\AllBare s'.gens) c:=by
  intro H O hS t N hK;have f:∀{b:Addr}{o:Obj},c.heap.get? b=some o->H b=none->(Pa c.heap H).get? b=some o:=λe n=>W6 e n;have J:∀{b:Addr}{o:Obj}{p:Array DictEntry}{B:Nat},c.heap.get? b=some o->o.data=.dict p B->H b=none:=λ{b o p B} e d=>by
   cases q:H b with
   |none=>rfl
   |some u =>
    have G:b=a:=N b<|by rw[q];simp
    subst G;rw[D] at e;cases e;have T:Data.seq vs.toArray _=Data.dict p B:=d
    cases T
  have i:∀{b:Addr}{m:Str->Option Value},c.heap.Ns b m->(Pa c.heap H).Ns b m:=λ{b m} ⟨o,p,B,e,d,r⟩=>⟨o,p,B,f e<|J e d,d,r⟩;have y:K.In<|Pa c.heap H:=λb o e=>f (M b o e) (by
   cases q:H b with
   |none=>rfl
   |some u =>
    have G:b=a:=N b (by rw[q];simp);subst G;rw[hK (by rw[q];simp)] at e;cases e)
  have hM:Mod K mg<|Pa c.heap H:=⟨y,i l,⟨L,i g,E⟩,let ⟨X,Z,h2⟩:=U';⟨X,i Z,h2⟩⟩
  have e0:TQ P w K mg (Pa c.heap H) callerA [] c H:=⟨U,hM,λb o e=>bH e,Nat.le_of_eq<|Vr _ _,trivial,λb g=>absurd (show b∈([]:List Addr) from g) (by simp),t,.of_eq hg⟩;refine codeAny_mono ((F _ y<|i l).run callerA [] c H ⟨[.ref a],[]⟩ [.ref a] [.ref a] _ _ hr e0 (Kn c<|.ref a) (.cons U .nil) (vt H O hS)) λr s' h=>?_
  cases r with
  |error e=>exact (OF H e s' h).elim
  |ok fl =>
   cases fl with
   |next=>exact False.elim h
   |brk=>exact False.elim h
   |cont=>exact False.elim h
   |ret u =>
    obtain⟨v,H',os,A,un,S,r',q⟩:=h;have q':v=.bl true:=q;subst q';obtain rfl:u=Value.bool true:=r';refine⟨U,OldK.of_keep λb o e=>?_,os,A⟩
    cases q:H b with
    |none=>exact un.keep b o e q (by intro z;exact absurd (show b∈([]:List Addr) from z)<|by simp)<|by simp
    |some u =>
     rcases O b with z | ⟨ob,xs,z⟩
     ·rw[q] at z;cases z
     ·have z2:=un.frzs b ob _ z;obtain⟨Q,_⟩:=t b _ z;obtain⟨e2,_⟩:=S b _ z2;rw[e] at Q;cases Q;exact e2
 cases hk:K.lookup a with
 |some o =>
  have e:=M a o hk;rw[D] at e
  cases e;refine j (λ_=>none) (λ_=>.inl U) (.inr ⟨_,vs.toArray,_,hk,U,U,U,by rw[List.size_toArray,Y];exact hl,by simpa using R⟩) (λb u z=>by have C:(none:Option HO)=some u:=z;cases C) (λb z=>absurd U z) λz=>absurd U z
 |none =>
  refine j (λb=>if b=a then some (.frz { cls:=.type "list",data:=.seq vs.toArray } (.lst<|ns.map V.int)) else none) (λb=>?_) (.inl<|.inr ⟨{ cls:=.type "list",data:=.seq vs.toArray },if_pos U⟩) (λb u z=>?_) (λb z=>?_) λ_=>hk
  ·by_cases g:b=a
   ·exact .inr ⟨_,_,if_pos g⟩
   ·exact .inl<|if_neg g
  ·by_cases g:b=a
   ·have C:=(if_pos g).symm.trans z
    cases C;subst g;exact⟨D,by rw[af];exact hl,vs,_,R,D⟩
   ·have C:=(if_neg g).symm.trans z
    cases C
  ·by_cases g:b=a
   ·exact g
   ·exact absurd (if_neg g) z
theorem cJ{l:W.OpenLaw}{k:Nat}{q:Program}{A:List Str}{t:(Str->Option Value)->Heap->Prop}{m:World->Heap->Prop}{d:DefRec}{K:Params->W.Frag}{CX:World->V0}{sp:World->Sp}
  (N:l.most=some n)(i:n<=sizeLine)(L:d.params.defaults=[])(p:A_ k callerA)
  (D:∀(w:World)(h:Heap),m w h->(K w.params).In h)
  (F:∀(w:World)(c:Str->Option Value)(g:Addr)(h:Heap),(K w.params).In h->h.Ns mainGlobals c->c d.name=some (.ref g) ->
   ∃fd:FuncData,(∀(s:Shared)(u:Value),BindsTo s fd ⟨[u],[]⟩ [(x,u)]) /\
    ∀base:Heap,(K w.params).In base->base.Ns mainGlobals c->An l.prog w (K w.params) c base (CX w) k g fd [x] (sp w))
  (I:∀(w:World)(H:Hp)(a:Addr)(ns:List Int),ns.length<=n->Only H->De (K w.params) H a (ns.map V.int)->sp w [.ref a] H (λv _=>v=.bl true) λ_ _ _=>False)
  (J:∀(w:World)(H:Hp)(s:Shared)(e:Value)(s':Shared),CX w [] H s (λ_ _ _=>False) e s'->False) :
  W.WalkO q A t m l.row.toRowW d [] (λf vs=>PySem.call f vs):=by
 refine Att.QS N L λw s₀ B c mb g o R Q X a vs ns G Y S Z T y P r b M=>?_;have j:=D w _ Y;obtain⟨fd,C,E⟩:=F w c g _ j G.T.g y;exact WD j G.T.g G.T.b G.T.builtins G.T.nolimit M P r (be b i) p E C (λH O z=>I w H a ns b O z) λH e s'=>J w H B e s'
def inClass(s:Stmt)(j:Nat):Stmt:=match s with
 |.ClassDef _ _ _ body _ _ _ _ _ _ _=>body.getD j<|.Pass ⟨0,0,0,0⟩
 |_=>.Pass ⟨0,0,0,0⟩
def Dh(s:Stmt):Arguments:=match s with
 |.FunctionDef _ a _ _ _ _ _ _ _ _=>a
 |_=>{ posonlyargs:=[],args:=[],vararg:=none,kwonlyargs:=[],kw_defaults:=[],kwarg:=none,defaults:=[] }
def CZ(s:Stmt):List Stmt:=match s with
 |.FunctionDef _ _ b _ _ _ _ _ _ _=>b
 |_=>[]
def Af(s:Stmt):Scope:=match s with
 |.FunctionDef _ _ _ _ _ _ sc _ _ _=>sc
 |_=>{ kind:=.function,names:=[],isGenerator:=false,isCoroutine:=false }
abbrev Bb:V0:=λ_ _ _ _ _ _=>False
abbrev E0:XK:=λ_ _ _=>False
theorem Ao:Gi Bb X E0:=λ_ _ _ _ _ _ _ h=>h.elim
structure Cd(K:W.Frag)(x qual:Str)(st:Stmt)(f:Addr)(fd:FuncData):Prop where
 ex:∃(oc:Value)(od:Option Addr)(kV k8 pm:Value)(an:Option Addr)(i7 ct:Value)(sL:Array<|Option Value),
  fd=W.fnOf x qual (Dh st) (CZ st) (Af st) .none kV k8 pm an i7 ct/\K.lookup f=some ⟨oc,od,.func fd,sL⟩/\W.codeIn K i7 qual=true
 kp:W.keepIn K (.ref f)=true
section
variable{w:World}{K:W.Frag}
theorem Cd.ok{st:Stmt}{N:List Str}{k:Nat}{sp:Sp}(F:Cd K x qual st f fd)(S:Av N ps<|Af st)(len:∀vs H Q E,sp vs H Q E->vs.length=ps.length)
  (e:∀(b:Value)(A:Around)(a:List Env)(s:Shared)(H:Hp)(vs:List V)(Q:VK)(E:XK),A_ k (A.deeper<|envOfC qual (Af st) s.heap.objs.size f b)->sp vs H Q E ->
   ∃t,PN (Kd Bb P w K mg base N qual (Af st) f b A a s H E).qY (CZ st) t/\t { nx:=λ_ H'=>Q .non H',rt:=Q } (start N vs) H):An P w K mg base Bb (k+1) f fd ps sp:=by
 obtain⟨l,r,kV,j,m,p,b,n,o,rfl,d,g⟩:=F.ex;refine YS d g S len λA a s H vs Q E c i=>?_;obtain⟨t,h,q⟩:=e b A a s H vs Q E c i;exact⟨t,h.qY,q⟩
theorem Cd.Dg{st:Stmt}{N:List Str}{k:Nat}{sp:Sp}(F:Cd K x qual st f fd)(S:Av N ps<|Af st)
  (c:∀{b:Value}{A:Around}{a:List Env}{s:Shared}(H:Hp)(vs:List V)(Q:VK)(E:XK),A_ k (A.deeper<|envOfC qual (Af st) s.heap.objs.size f b)->sp vs H Q E ->
   ∃t,PN (Kd Bb P w K mg base N qual (Af st) f b A a s H E).qY (CZ st) t/\t { nx:=λ_ H'=>Q .non H',rt:=Q } (start N vs) H)
  (len:∀vs H Q E,sp vs H Q E->vs.length=ps.length:=by intro _ _ _ _ h;cases h;subst_vars;rfl):An P w K mg base Bb (k+1) f fd ps sp:=F.ok S len λ_ _ _ _ H vs Q E=>c H vs Q E
theorem Cd.binds{st:Stmt}(F:Cd K x qual st f fd)
  (h:∀(kV a b:Value)(c:Option Addr)(d ct:Value)(us:List Value),us.length=ps.length->bindArgs (W.fnOf x qual (Dh st) (CZ st) (Af st) .none kV a b c d ct) ⟨us,[]⟩=pure (ps.zip us)):Binds K fd ps []:=by
 obtain⟨e,j,kV,a,b,c,d,ct,i,rfl,g,k⟩:=F.ex;exact .all<|h kV a b c d ct
theorem SQ{st:Stmt}{h:Value}{i e:Option Addr}{g:Array (Option Value)}{kV d b a ct:Value}(l:K.lookup f=some ⟨h,i,.func<|W.fnOf x qual (Dh st) (CZ st) (Af st) .none kV d b e a ct,g⟩)
  (c:W.codeIn K a qual=true)(k:W.keepIn K (.ref f)=true):Cd K x qual st f<|W.fnOf x qual (Dh st) (CZ st) (Af st) .none kV d b e a ct:=⟨⟨h,i,kV,d,b,e,a,ct,g,U,l,c⟩,k⟩
end
theorem CG{k:Nat}(a:A_ k A):A.units+1<cLine:=aT (Nat.add_le_add_left (by decide:1<=64) _) a.units
theorem BJ(h:n<=1000):n<sizeLine:=aT h<|by decide
theorem pv(i:Nat)(a:X.N[i]? = some x:=by rfl)(c:Vis X.env.scope x:=by first | exact Or.inl rfl | exact Or.inr (Or.inl rfl) | exact Or.inr<|Or.inr rfl)(b:(x == ("__debug__" : Str))=false:=by decide)
  (d:(x == ("__classdict__" : Str))=false:=by decide):PE X (.Name x pos)<|Uy i:=jY a c b d
theorem wT{K:W.Frag}{T:Addr}{x:V}{w:Str}{Q:Bool->Hp->Prop}(a:H T=some (.tup<|x::xs))(h:Q (decide (x=V.str w)) H)(c:σ[i]? = some (some<|.ref T):=by rfl)(b:mj x (.str w)=true:=by rfl):Wl (bh rEq (bh (aY K) (Uy i)<|tC<|.int 0)<|tC<|.str w) σ H Q:=⟨_,c,T,_,_,_,U,U,.inl<|.inl a,Ah (j:=0) U,b,_,U,h⟩
theorem Bj{A B:Prop}(h:B):if false=true then A else B:=by
 rw[if_neg eW];exact h
theorem Dj{A B:Prop}(h:A):if true=true then A else B:=by
 rw[if_pos U];exact h
theorem Cw{c A B:Prop}[Decidable c](a:c->A)(b:¬ c->B):if c then A else B:=by
 by_cases h:c
 ·rw[if_pos h];exact a h
 ·rw[if_neg h];exact b h
theorem YG{c A B:Prop}[Decidable c](a:c)(h:B):if (!decide c)=true then A else B:=by
 rw[decide_eq_true a];exact Bj h
def Am(H H':Hp):Prop:=∀b o,H b=some o->H' b=some o
theorem Am.refl(H:Hp):Am H H:=λ_ _ h=>h
theorem Am.trans(a:Am H H1)(b:Am H1 H2):Am H H2:=λc o h=>b c o<|a c o h
theorem Am.free(e:Am H H'){l:Addr}(h:H' l=Option.none):H l=Option.none:=by
 cases q:H l with
 |none=>rfl
 |some o =>
  rw[e l o q] at h
  cases h
theorem Am.seq{K:W.Frag}(e:Am H H')(h:De K H a xs):De K H' a xs:=by
 rcases h with (h | ⟨o,h⟩) | h
 ·exact .inl<|.inl<|e _ _ h
 ·exact .inl<|.inr ⟨o,e _ _ h⟩
 ·exact .inr h
section
variable{κ:Type}[DecidableEq κ]
theorem Ud:∀{l:List κ}{k:κ},l.Nodup->¬ k∈l->(l++[k]).Nodup
 |[],k,_,_=>by simp
 |a::r,k,h,b=>by
  obtain⟨c,d⟩:=fw.mp h;show (a::(r++[k])).Nodup;refine fw.mpr ⟨λm=>?_,Ud d λm=>b<|ce.mpr<|Or.inr m⟩;rcases bE.mp m with q | q
  ·exact c q
  ·exact b<|ce.mpr<|Or.inl (ax.mp q).symm
end
section
variable{w:World}
theorem Lg{b:Addr}{f:Array Value}{x:Value}(j:s.heap.IsTupleIter b a i)(m:s.heap.IsTuple a f)(h:f[i]? = some x)
  (q:∀h',h'.IsTupleIter b a (i+1)->Heap.SameBut b s.heap h'->Q x { s with heap:=h' }):wpAny (model prog w) A (Builtin.SmallTypes.nextOf<|.ref b) Q E s:=by
 have g:=j;obtain⟨o,e,c,d⟩:=j;obtain⟨p,l,_,n,k⟩:=m;unfold Builtin.SmallTypes.nextOf;refine wpAny_bind<|wpAny_callSpecial?_slot (name:=Str.ofString "__next__") g.typeIs F.slot_tuple_iterator_next<|wpAny_call_entry F.slot_tuple_iterator_next g.typeIs F.entry_tuple_iterator_next ?_<|F.args_tuple_iterator_next_1 _
 refine (show wpAny _ _ (field (.ref b) 0 >>= _) _ _ s from wpAny_bind<|wpAny_field e d (x:=.ref a) U ?_);refine (show wpAny _ _ (if (Value.ref a == Value.none)=true then _ else _) _ _ s from ?_);rw[if_neg (by exact eW)];refine (show wpAny _ _ (field (.ref b) 1 >>= _) _ _ s from wpAny_bind<|wpAny_field e d (x:=.int i 0) U ?_);refine (show wpAny _ _ (seqItems? (.ref a) >>= _) _ _ s from wpAny_bind<|wpAny_seqItems l k ?_);simp only[Int.toNat_natCast,h];exact wpAny_bind<|wpAny_setField e d (by simp)<|wpAny_pure ⟨x,U,wpAny_pure<|q _ ⟨_,Heap.get?_update_self _ e<|Obj.isFreed_of_fields<|Obj.data_mapFields d _,(Obj.cls_mapFields ..).trans c,by rw[Obj.data_mapFields d];simp[rawInt]⟩<|Heap.SameBut.update ..⟩
theorem Lr{b:Addr}{g:Array Value}(f:A.handled=none)(j:s.heap.IsTupleIter b a i)(r:s.heap.IsTuple a g)(k:g[i]? = none)
  (q:∀h' e,Heap.ExtBut b s.heap h'->(∃o,h'.get? e=some o/\o.cls=.type "StopIteration")->E (.ref e) { s with heap:=h' }):wpAny (model prog w) A (Builtin.SmallTypes.nextOf<|.ref b) Q E s:=by
 have h:=j;obtain⟨o,e,c,d⟩:=j;obtain⟨t,p,_,n,l⟩:=r;unfold Builtin.SmallTypes.nextOf;refine wpAny_bind<|wpAny_callSpecial?_slot (name:=Str.ofString "__next__") h.typeIs F.slot_tuple_iterator_next<|wpAny_call_entry F.slot_tuple_iterator_next h.typeIs F.entry_tuple_iterator_next ?_<|F.args_tuple_iterator_next_1 _
 refine (show wpAny _ _ (field (.ref b) 0 >>= _) _ _ s from wpAny_bind<|wpAny_field e d (x:=.ref a) U ?_);refine (show wpAny _ _ (if (Value.ref a == Value.none)=true then _ else _) _ _ s from ?_);rw[if_neg (by exact eW)];refine (show wpAny _ _ (field (.ref b) 1 >>= _) _ _ s from wpAny_bind<|wpAny_field e d (x:=.int i 0) U ?_);refine (show wpAny _ _ (seqItems? (.ref a) >>= _) _ _ s from wpAny_bind<|wpAny_seqItems p l ?_);simp only[Int.toNat_natCast,k];refine wpAny_bind<|wpAny_rule<|wpAny_bind<|wpAny_setField e d (by simp) (show wpAny _ _ (newExc (.type "StopIteration") [] >>= _) _ _ _ from wpAny_bind ?_)
 simp only[newExc,newTuple];refine wpAny_bind<|wpAny_newObj_type (wpAny_bind (m:=firstArgMember _ _)<|wpAny_of_eq (a:=Value.none) (by first | rfl | (simp only[firstArgMember];rfl))<|wpAny_newObj_type ?_<|by size_fits)<|by size_fits
 simp only[raiseNew];refine wpAny_bind<|wpAny_handled ?_
 first | rw[show A.in1.handled=none from f] | rw[f]
 exact wpAny_bind<|wpAny_pure<|wpAny_throw<|q _ _ (((Heap.SameBut.update ..).extBut.push _).push _) ⟨_,Heap.get?_push_size _ U,U⟩
theorem Vz{TI TO g f n p:Addr}{k:Nat}{xs ys:Array Value}{x y a b:Value}(D:ZipApart z TI TO g f n p)
  (r:IsZip s.heap z TI TO .none)(hI:IsPair s.heap TI (.ref g)<|.ref f)(hO:IsPair s.heap TO a b)
  (j1:s.heap.IsTupleIter g n k)(j2:s.heap.IsTupleIter f p k)(Y:s.heap.IsTuple n xs)(Z:s.heap.IsTuple p ys)(S:xs[k]? = some x)(V:ys[k]? = some y)
  (q:∀h',IsZip h' z TI TO (rawInt s.heap.objs.size)->IsPair h' TO x y->h'.IsTupleIter g n (k+1)->h'.IsTupleIter f p (k+1)->IsPair h' s.heap.objs.size x y->h'.objs.size=s.heap.objs.size+1 ->
   (∀c o,c≠z->c≠TO->c≠g->c≠f->s.heap.get? c=some o->h'.get? c=some o)->Q (.ref s.heap.objs.size) { s with heap:=h' }) :
  wpAny (model prog w) A (Builtin.«zip.__next__» ⟨[.ref z],[]⟩) (λfin s'=>∃v,fin=.done (.ret v)/\Q v s') E s:=by
 refine (show wpAny _ _ (field (.ref z) 2 >>= _) _ _ _ from wpAny_bind<|wpAny_field r U (x:=.bool false) U (show wpAny _ _ (field (.ref z) 3 >>= _) _ _ _ from wpAny_bind<|wpAny_field r U (x:=.ref TI) U<|wpAny_bind<|wpAny_seqItems hI U ?_));refine (show wpAny _ _ (Builtin.SmallTypes.ownedTupleIsFree (.ref z) >>= _) _ _ _ from wpAny_bind ?_);unfold Builtin.SmallTypes.ownedTupleIsFree;refine wpAny_bind<|wpAny_field r U (x:=.none) U<|wpAny_pure ?_
 simp only[if_true];refine wpAny_bind<|wpAny_rule<|wpAny_bind<|wpAny_field r U (x:=.ref TO) U<|wpAny_bind<|wpAny_setField_rec r (by simp) λh1 z1 h=>?_
 have y1:IsZip h1 z TI TO .ellipsis:=z1;refine wpAny_bind ?_;simp only[List.zipIdx_cons,List.zipIdx_nil,List.forIn_cons,List.forIn_nil];refine wpAny_bind<|wpAny_bind<|wpAny_onRaise (show wpAny _ _ (Builtin.SmallTypes.nextOf (.ref g) >>= _) _ _ _ from wpAny_bind<|Lg (j1.at λo e=>h.extBut _ _ D.i1z e) (Y.at λo e=>h.extBut _ _ D.l1z e) S λh2 n1 l=>wpAny_pure ?_)
 have R:IsPair h2 TO a b:=l.extBut _ _ D.TOi1<|h.extBut _ _ D.TOz hO
 refine wpAny_bind<|wpAny_seqItems R U<|wpAny_bind<|wpAny_updateSeq_pair R λh3 p3 j=>?_
 have T:IsPair h3 TO x b:=p3;refine wpAny_bind<|wpAny_letGo<|wpAny_pure ?_
 refine wpAny_bind (wpAny_bind (wpAny_onRaise (show wpAny _ _ (Builtin.SmallTypes.nextOf (.ref f) >>= _) _ _ _ from wpAny_bind (Lg (j2.at λo e=>j.extBut _ _ D.TOi2.symm<|l.extBut _ _ D.i12.symm<|h.extBut _ _ D.i2z e)
  (Z.at λo e=>j.extBut _ _ D.l2TO<|l.extBut _ _ D.l2i1<|h.extBut _ _ D.l2z e) V λh4 n2 t=>wpAny_pure ?_))))
 have P:IsPair h4 TO x b:=t.extBut _ _ D.TOi2 T;refine wpAny_bind<|wpAny_seqItems P U<|wpAny_bind<|wpAny_updateSeq_pair P λd p5 m=>?_
 have I:IsPair d TO x y:=p5;refine wpAny_bind<|wpAny_letGo<|wpAny_pure<|wpAny_pure<|wpAny_bind<|wpAny_seqItems I U<|wpAny_bind<|wpAny_newTuple ?_
 have M:d.objs.size=s.heap.objs.size:=by rw[m.1,t.1,j.1,l.1,h.1]
 have L:IsZip d z TI TO .ellipsis:=m.extBut _ _ D.TOz.symm<|t.extBut _ _ D.i2z.symm<|j.extBut _ _ D.TOz.symm<|l.extBut _ _ D.i1z.symm y1
 have k5:∀c o,c≠z->c≠TO->c≠g->c≠f->s.heap.get? c=some o->d.get? c=some o:=λc o i B G H e=>m.extBut _ _ B<|t.extBut _ _ H<|j.extBut _ _ B<|l.extBut _ _ G<|h.extBut _ _ i e
 have m1:d.IsTupleIter g n<|k+1:=n1.at λo e=>m.extBut _ _ D.TOi1.symm<|t.extBut _ _ D.i12<|j.extBut _ _ D.TOi1.symm e
 have m2:d.IsTupleIter f p<|k+1:=n2.at λo e=>m.extBut _ _ D.TOi2.symm e
 have J:z<d.objs.size:=Heap.lt_size L;refine (show wpAny _ _ (Builtin.SmallTypes.ownedTupleHandOut (.ref z) (.ref d.objs.size) >>= _) _ _ _ from wpAny_bind ?_);unfold Builtin.SmallTypes.ownedTupleHandOut;have y6:IsZip (d.push { cls:=.type "tuple",data:=.seq #[x,y] }) z TI TO .ellipsis:=Heap.get?_push_of_some _ L;refine wpAny_bind<|wpAny_setField_rec y6 (by simp) λh7 W F=>?_
 have X:IsZip h7 z TI TO<|rawInt d.objs.size:=W
 refine wpAny_setField_rec X (by simp) λu p8 C=>?_;have N:IsZip u z TI TO<|rawInt d.objs.size:=p8
 have up:∀c o,c≠z->d.get? c=some o->u.get? c=some o:=λc o i e=>C.extBut _ _ i<|F.extBut _ _ i<|Heap.get?_push_of_some _ e
 have K:IsPair u d.objs.size x y:=C.extBut _ _ (ix J)<|F.extBut _ _ (ix J)<|Heap.get?_push_size _ U
 have O:u.objs.size=d.objs.size+1:=by rw[C.1,F.1,Heap.size_push]
 rw[M] at N K O;refine wpAny_pure ⟨_,U,?_⟩;show Q (.ref d.objs.size) _;rw[M];exact q u N (up _ _ D.TOz I) (m1.at λo e=>up _ o D.i1z e) (m2.at λo e=>up _ o D.i2z e) K O λc o i B G H e=>up c o i<|k5 c o i B G H e
theorem X_{TI TO f g h C:Addr}{k:Nat}{xs:Array Value}{a b:Value}{Q:Fin->Shared->Prop}(v:A.handled=none)(D:ZipApart z TI TO f g h C)
  (d:IsZip s.heap z TI TO .none)(I:IsPair s.heap TI (.ref f)<|.ref g)(O:IsPair s.heap TO a b)
  (j1:s.heap.IsTupleIter f h k)(F:s.heap.IsTuple h xs)(t:xs[k]? = none)
  (q:∀h' e,(∀c o,c≠z->c≠TO->c≠f->c≠g->s.heap.get? c=some o->h'.get? c=some o)->(∃o,h'.get? e=some o/\o.cls=.type "StopIteration")->E (.ref e) { s with heap:=h' }) :
  wpAny (model prog w) A (Builtin.«zip.__next__» ⟨[.ref z],[]⟩) Q E s:=by
 refine (show wpAny _ _ (field (.ref z) 2 >>= _) _ _ _ from wpAny_bind<|wpAny_field d U (x:=.bool false) U (show wpAny _ _ (field (.ref z) 3 >>= _) _ _ _ from wpAny_bind<|wpAny_field d U (x:=.ref TI) U<|wpAny_bind<|wpAny_seqItems I U ?_));refine (show wpAny _ _ (Builtin.SmallTypes.ownedTupleIsFree (.ref z) >>= _) _ _ _ from wpAny_bind ?_);unfold Builtin.SmallTypes.ownedTupleIsFree;refine wpAny_bind<|wpAny_field d U (x:=.none) U<|wpAny_pure ?_
 simp only[if_true];refine wpAny_bind<|wpAny_rule<|wpAny_bind<|wpAny_field d U (x:=.ref TO) U<|wpAny_bind<|wpAny_setField_rec d (by simp) λG H j=>?_
 have L:IsZip G z TI TO .ellipsis:=H;refine wpAny_bind ?_;simp only[List.zipIdx_cons,List.zipIdx_nil,List.forIn_cons,List.forIn_nil];refine wpAny_bind<|wpAny_bind<|wpAny_onRaise (show wpAny _ _ (Builtin.SmallTypes.nextOf (.ref f) >>= _) _ _ _ from wpAny_bind<|Lr v (j1.at λo e=>j.extBut _ _ D.i1z e) (F.at λo e=>j.extBut _ _ D.l1z e) t λM x p J=>?_)
 obtain⟨B,i,l⟩:=J;have n:IsZip M z TI TO .ellipsis:=p _ _ D.i1z.symm L;have K:x≠z:=λu=>by subst u;rw[n] at i;cases i;simp at l
 exact wpAny_setField_rec n (by simp) λN _ m=>q N x (λc o r _ y _ e=>m.extBut _ _ r<|p _ _ y<|j.extBut _ _ r e) ⟨B,m.extBut _ _ K i,l⟩
end
abbrev uq(h:Heap)(a1:Addr):Heap:=h.push { cls:=.type "tuple_iterator",data:=.fields #[.ref a1,.int 0 0] }
abbrev uv(h:Heap)(a1 a2:Addr):Heap:=(uq h a1).push { cls:=.type "tuple_iterator",data:=.fields #[.ref a2,.int 0 0] }
abbrev vK(h:Heap)(a1 a2:Addr):Heap:=(uv h a1 a2).push { cls:=.type "tuple",data:=.seq #[.ref h.objs.size,.ref (uq h a1).objs.size] }
abbrev vM(h:Heap)(a1 a2:Addr):Heap:=(vK h a1 a2).push { cls:=.type "tuple",data:=.seq #[.none,.none] }
abbrev k_(h:Heap)(a1 a2:Addr):Heap:=(vM h a1 a2).push { cls:=.type "zip",data:=.fields #[.none,.bool false,.bool false,.ref (uv h a1 a2).objs.size,.ref (vK h a1 a2).objs.size] }
theorem Yj(a b:Addr)(xs ys:Array Value):Meets (Builtin.«zip.__new__» ⟨[.type "zip",.ref a,.ref b],[]⟩) (λ_ R s=>s.heap.IsTuple a xs/\s.heap.IsTuple b ys /\
   R (.ok<|.ret<|.ref (vM s.heap a b).objs.size) { s with heap:=k_ s.heap a b }) :=
 .of_wp λc w A R s h=>by
  obtain⟨f,g,d,j,os⟩:=s;obtain⟨m,n,h⟩:=h;have i:=sub_zip;have k:Heap.IsTuple (Shared.heap ⟨f,g,d,j,os⟩) a xs:=m;have l:Heap.IsTuple (Shared.heap ⟨f.push { cls:=.type "tuple_iterator",data:=.fields #[.ref a,.int 0 0] },g,d,j,os⟩) b ys:=Heap.IsTuple.at n λo e=>Heap.get?_push_of_some _ e
  wp_walk using wpAny_pyIter_tuple k,wpAny_pyIter_tuple l
  exact⟨_,U,h⟩
section
variable{w:World}
theorem U4{a b:Addr}{xs ys:Array Value}(r:s.heap.IsTuple a xs)(t:s.heap.IsTuple b ys)
  (q:∀h' n,n=s.heap.objs.size->IsZip h' (n+4) (n+2) (n+3) .none->IsPair h' (n+2) (.ref n) (.ref<|n+1)->IsPair h' (n+3) .none .none->h'.IsTupleIter n a 0->h'.IsTupleIter (n+1) b 0->h'.objs.size=n+5 ->
   (∀c o,s.heap.get? c=some o->h'.get? c=some o)->Q (.ref<|n+4) { s with heap:=h' }):wpAny (model prog w) A (call (.type "zip") [.ref a,.ref b]) Q E s:=by
 refine callType_new F.called_zip (by decide) (F.typeCall_zip_2 _ _) (F.newCall_zip_2 _ _) (λd=>F.args_object_init_3 d _ _) F.entry_zip_new (Yj a b xs ys) ⟨r,t,?_⟩;have h:(uq s.heap a).objs.size=s.heap.objs.size+1:=Heap.size_push ..;have j:(uv s.heap a b).objs.size=s.heap.objs.size+2:=by rw[Heap.size_push,h]
 have i:(vK s.heap a b).objs.size=s.heap.objs.size+3:=by rw[Heap.size_push,j]
 have f:(vM s.heap a b).objs.size=s.heap.objs.size+4:=by rw[Heap.size_push,i]
 have u:(k_ s.heap a b).objs.size=s.heap.objs.size+5:=by rw[Heap.size_push,f]
 have g:(k_ s.heap a b).get? (vM s.heap a b).objs.size=some _:=Heap.get?_push_size _ U;have k:(k_ s.heap a b).get? (vK s.heap a b).objs.size=some _:=Heap.get?_push_of_some _<|Heap.get?_push_size _ U
 have m:(k_ s.heap a b).get? (uv s.heap a b).objs.size=some _:=Heap.get?_push_of_some _<|Heap.get?_push_of_some _<|Heap.get?_push_size _ U
 have l:(k_ s.heap a b).get? (uq s.heap a).objs.size=some _:=Heap.get?_push_of_some _<|Heap.get?_push_of_some _<|Heap.get?_push_of_some _<|Heap.get?_push_size _ U
 have p:(k_ s.heap a b).get? s.heap.objs.size=some _:=Heap.get?_push_of_some _<|Heap.get?_push_of_some _<|Heap.get?_push_of_some _<|Heap.get?_push_of_some _<|Heap.get?_push_size _ U
 refine (show _/\_ from ?_);rw[j,i,f] at g;rw[h,j] at m;rw[i] at k;rw[h] at l;rw[f];exact⟨⟨_,g,U⟩,q _ _ U g m k ⟨_,p,U,U⟩ ⟨_,l,U,U⟩ u λc o e=>Heap.get?_push_of_some _<|Heap.get?_push_of_some _<|Heap.get?_push_of_some _<|Heap.get?_push_of_some _<|Heap.get?_push_of_some _ e⟩
end
def Eo(env:Env):List (Str×NameKind)->List (Str×Addr)->List (Str×Addr)
 |[],f'=>f'
 |(n,k)::r,f'=>if k == .free then (match env.cells.lookup n with | some a=>Eo env r ((n,a)::f') | none=>Eo env r f') else Eo env r f'
theorem Lh{b:Env}(h:∀y∈scope.names,y.2=.free->∃c,b.cells.lookup y.1=some c):closureFor scope b=pure (Eo b scope.names []):=by
 unfold closureFor;have key:∀(l:List<|Str × NameKind)(f:List<|Str × Addr),(∀y∈l,y.2=.free->∃c,b.cells.lookup y.1=some c) ->
   (forIn l f λ(x:Str×NameKind) (o:List (Str×Addr))=>(match x with | (name,kind)=>if (kind == NameKind.free)=true then (do let a <-cellOf b name;pure (ForInStep.yield<|(name,a)::o)) else pure (ForInStep.yield o):Sem<|ForInStep<|List<|Str×Addr))=(pure (Eo b l f):Sem _):=by
  intro l
  induction l with
  |nil=>intro f _;rfl
  |cons x r j =>
   intro f hl;obtain⟨n,k⟩:=x;rw[List.forIn_cons];unfold Eo;by_cases i:(k == NameKind.free)=true
   ·obtain⟨c,p⟩:=hl (n,k) List.mem_cons_self<|by simpa using i
    have d:b.cells.lookup n=some c:=p;have e:cellOf b n=pure c:=by unfold cellOf;rw[d]
    simp only[i,if_true,e,d];exact j _ λy g=>hl y<|ba _ g
   ·simp only[i];exact j _ λy g=>hl y<|ba _ g
 have:=key scope.names [] h;exact (congrArg (λ(m:Sem (List (Str×Addr)))=>m >>= λz=>pure z) this).trans U
theorem Im(b:Env):∀(l:List<|Str × NameKind)(f':List<|Str × Addr)(y:Str)(c:Addr),(Eo b l f').lookup y=some c->f'.lookup y=some c \/ b.cells.lookup y=some c
 |[],_,_,_,h=>.inl h
 |(n,k)::r,f',y,c,h=>by
  unfold Eo at h;split at h
  ·split at h
   ·rename_i a f;rcases Im b r _ y c h with z | z
    ·rw[iX] at z;split at z
     ·rename_i e
      cases z;have d:y=n:=by simpa using e
      subst d;exact .inr f
     ·exact .inl z
    ·exact .inr z
   ·exact Im b r _ y c h
  ·exact Im b r _ y c h
theorem Io(a:Env):∀(l:List<|Str × NameKind)(f':List<|Str × Addr)(y:Str),(f'.lookup y).isSome=true->((Eo a l f').lookup y).isSome=true
 |[],_,_,h=>h
 |(n,k)::r,f',y,h=>by
  unfold Eo;split
  ·split
   ·refine Io a r _ y ?_;rw[iX];split
    ·rfl
    ·exact h
   ·exact Io a r _ y h
  ·exact Io a r _ y h
theorem G3(a:Env):∀(l:List<|Str × NameKind)(f':List<|Str × Addr)(y:Str),(y,NameKind.free)∈l->(a.cells.lookup y).isSome=true->((Eo a l f').lookup y).isSome=true
 |[],_,_,h,_=>nomatch h
 |(n,k)::r,f',y,h,b=>by
  unfold Eo;rcases ce.mp h with e | h
  ·obtain⟨d,c⟩:=Prod.mk.inj e;subst d;subst c;rw[if_pos (by decide)];split
   ·refine Io a r _ y ?_;rw[iX];simp
   ·rename_i e;rw[e] at b
    cases b
  ·split
   ·split
    ·exact G3 a r _ y h b
    ·exact G3 a r _ y h b
   ·exact G3 a r _ y h b
def NB(x:Str)(N:List Str):List Str:=N.map λy=>if y=x then "" else y
def JQ(X:Cx)(ns N':List Str)(scope:Scope)(C:Addr)(s₀:Shared)(H₀:Hp)(fp:List Addr):Cx where
 prog:=X.prog
 w:=X.w
 K:=X.K
 mg:=X.mg
 base:=X.base
 A:=X.A
 N:=ns++N'
 s₀:=s₀
 H₀:=H₀
 env:=compEnvC scope (Eo X.env scope.names []) C X.env
 outer:=X.stack
 stack:=X.stack
 ex:=fp
 fn:=λ_=>false
 calm:=X.calm
 pn:=[]
 xe:=λ_ _=>False
theorem Ht(a:Env)(y:Str):∀names:List<|Str×NameKind,
  (names.map λ(n,k)=>if (k == NameKind.free && a.scope.kind == .function && a.kindOf n == some .cell) then (n,NameKind.cell) else (n,k)).lookup y =
   (names.lookup y).map λk=>if (k == NameKind.free && a.scope.kind == .function && a.kindOf y == some .cell) then NameKind.cell else k
 |[]=>rfl
 |(n,k)::r=>by
  have c:=Ht a y r;rw[cw];show List.lookup y ((if (k == NameKind.free && a.scope.kind == .function && a.kindOf n == some .cell)=true then (n,NameKind.cell) else (n,k))::_)=_;have b:(if (k == NameKind.free && a.scope.kind == .function && a.kindOf n == some .cell)=true then (n,NameKind.cell) else (n,k))=(n,if (k == NameKind.free && a.scope.kind == .function && a.kindOf n == some .cell)=true then NameKind.cell else k):=by split <;> rfl
  rw[b,iX,iX]
  cases hx:y == n with
  |true =>
   have e:y=n:=by simpa using hx
   subst e;rfl
  |false=>exact c
structure Do(X:Cx)(ns N':List Str)(scope:Scope):Prop where
 kind:scope.kind=.function
 nocell:∀y∈scope.names,y.2≠.cell
 names:∀y∈scope.names,y.2=.local->scope.names.lookup y.1=some .local
 loc:∀y∈ns,scope.names.lookup y=some .local
 free:∀y∈scope.names,y.2=.free->X.env.kindOf y.1=some .cell \/ X.env.kindOf y.1=some .free
 nd:(ns++N').Nodup
 len:N'.length=X.N.length
 sub:∀(i:Nat) y k,N'[i]? = some y->scope.names.lookup y=some k->X.N[i]? = some y/\k≠.local
def Xm(ns N':List Str)(scope osc:Scope)(N:List Str):Bool :=
 (scope.kind == .function) && scope.names.all (λy=>y.2 != .cell && (y.2 != .local || scope.names.lookup y.1 == some .local) && (y.2 != .free || osc.names.lookup y.1 == some .cell || osc.names.lookup y.1 == some .free)) && ns.all (λy=>scope.names.lookup y == some .local) &&
 decide ((ns++N').Nodup) && (N'.length == N.length) && (N'.zip N).all (λp=>scope.names.lookup p.1 == none || scope.names.lookup p.1 != some .local && p.1 == p.2)
theorem R7{d:List Str}{osc:Scope}{N:List Str}(r:X.env.scope=osc)(l:X.N=N)(h:Xm ns d scope osc N=true):Do X ns d scope:=by
 unfold Xm at h;simp only[Bool.and_eq_true] at h;obtain⟨⟨⟨⟨⟨o,c⟩,n⟩,q⟩,m⟩,j⟩:=h;rw[fb] at c n j;have b:∀y,X.env.kindOf y=osc.names.lookup y:=λy=>by show X.env.scope.names.lookup y=_;rw[r]
 refine⟨by simpa using o,λy a=>?_,λy a e=>?_,λy a=>by simpa using n y a,λy a e=>?_,of_decide_eq_true q,by rw[l];simpa using m,λi y k g p=>?_⟩
 ·have:=c y a;simp only[Bool.and_eq_true,bne_iff_ne] at this;exact this.1.1
 ·have:=c y a;simp only[Bool.and_eq_true] at this;simpa [e] using this.1.2
 ·have:=c y a;simp only[Bool.and_eq_true] at this;rw[b];simpa [e] using this.2
 ·have hl:d.length=N.length:=by simpa using m
  have s:=(ag.mp g).1;obtain⟨z,f⟩:∃z,N[i]? = some z:=⟨_,ae<|by omega⟩;have:=j (y,z)<|ah (i:=i)<|by rw[List.getElem?_zip_eq_some];exact⟨g,f⟩
  simp only[p] at this;simp at this;exact⟨by rw[l,f,this.2],this.1⟩
section
variable{N':List Str}
theorem QH{tk:Nat}{m:Str->Option Value}(I:Inv X a8 σ H s)(S:Do X ns N' scope)(G:∀b∈fp,Jh X a8 H b)(Q:∀b∈fp,b<s.heap.objs.size)(L:s.heap.objs.size<=C)(hn:h'.Ns C m)
  (R:∀b o,s.heap.get? b=some o->h'.get? b=some o):Inv (JQ X ns N' scope C s H fp) [] (ns.map (λ_=>none)++σ) H { s with heap:=h',toks:=tk }:=by
 have n:∀y c,(Eo X.env scope.names []).lookup y=some c->X.env.cells.lookup y=some c:=λy c e=>by
  rcases Im X.env scope.names [] y c e with z | z
  ·cases z
  ·exact z
 have d:∀c v,s.heap.IsCell c v->h'.IsCell c v:=λc v ⟨o,ho,hd⟩=>⟨o,R c o ho,hd⟩;have look:∀y,(JQ X ns N' scope C s H fp).env.scope.names.lookup y=(scope.names.lookup y).map λk=>if (k == NameKind.free && X.env.scope.kind == .function && X.env.kindOf y == some .cell) then NameKind.cell else k:=λy=>Ht X.env y scope.names
 refine⟨⟨I.ok.mod,S.kind,I.ok.glob,I.ok.blt,L,λy z c Z e2=>I.ok.inj y z c (n y c Z)<|n z c e2,λy hy=>?_,λy c e _=>(by cases e),λh=>I.ok.hd h,I.ok.frames,.inl U,λb t=>?_,I.bs,be I.ok.bsz I.sz,λb o e t=>?_,λb t O=>?_,I.stack,I.Jd⟩,
  rfl,I.bare,Un.kept R,⟨m,hn,λi y v M q h3=>?_⟩,λy c e=>?_,I.hok.fresh L,λy c e=>I.freeC y c<|n y c e,λp hp=>absurd (show p∈([]:List<|Addr×Obj) from hp) (by simp),I.hok.kept R,?_⟩
 ·have w:(JQ X ns N' scope C s H fp).env.scope.names.lookup y=some .cell \/ (JQ X ns N' scope C s H fp).env.scope.names.lookup y=some .free:=hy;rw[look y] at w
  cases e:scope.names.lookup y with
  |none=>rw[e] at w;rcases w with z | z <;> cases z
  |some k =>
   have g:=PySem.mem_of_lookup e;have a:k=.free:=by
    rw[e] at w
    cases k with
    |free=>rfl
    |cell=>exact absurd U<|S.nocell _ g
    |_=>rcases w with z | z <;> simp at z
   subst a;obtain⟨c,B⟩:=I.ok.has y<|S.free _ g U;exact hU.mp<|G3 X.env scope.names [] y g (by rw[B];rfl)
 ·obtain⟨V,P,J,N,F,W⟩:=G b t;exact⟨cf<|br (Q b t) L,λy c e=>F y c<|n y c e⟩
 ·obtain⟨V,P,J,N,F,W⟩:=G b t;rcases N with z | z
  ·exact I.ok.noex b o e z
  ·exact absurd (br (Heap.lt_size e)<|be I.ok.bsz z)<|gx _
 ·obtain⟨V,P,J,N,F,W⟩:=G b t;rcases ce.mp (I.RC b O) with e | e
  ·exact P e
  ·exact J e
 ·have M:(ns++N')[i]? = some y:=M;have T:ns.length<=i:=by
   rcases Nat.lt_or_ge i ns.length with z | z
   ·rw[List.getElem?_append_left (by simpa using z),List.getElem?_map] at q
    cases e:ns[i]? with
    |none=>rw[e] at q;cases q
    |some _=>rw[e] at q;cases q
   ·exact z
  have A:N'[i - ns.length]? = some y:=by rw[<-M];exact (dA T).symm
  have E:σ[i - ns.length]? = some (some v):=by rw[<-q,List.getElem?_append_right<|by simpa using T,List.length_map]
  have f:(JQ X ns N' scope C s H fp).env.scope.names.lookup y=some .local \/ (JQ X ns N' scope C s H fp).env.scope.names.lookup y=some .cell \/ (JQ X ns N' scope C s H fp).env.scope.names.lookup y=some .free:=h3;rw[look y] at f
  cases e:scope.names.lookup y with
  |none=>rw[e] at f;rcases f with z | z | z <;> cases z
  |some k =>
   have g:=PySem.mem_of_lookup e;have a:k=.free:=by
    rw[e] at f
    cases k with
    |free=>rfl
    |cell=>exact absurd U<|S.nocell _ g
    | «local»=>exact absurd U (S.sub _ _ _ A e).2
    |_=>rcases f with z | z | z <;> simp at z
   subst a;have Y:=S.free _ g U;obtain⟨m0,NL,K⟩:=I.loc;obtain⟨u,r,l⟩:=K _ y v (S.sub _ _ _ A e).1 E<|by rcases Y with z | z;exact .inr<|.inl z;exact .inr<|.inr z
   refine⟨u,r,.inr ⟨?_,?_⟩⟩
   ·have D:(JQ X ns N' scope C s H fp).env.scope.names.lookup y=some (if (NameKind.free == NameKind.free && X.env.scope.kind == .function && X.env.kindOf y == some .cell) then NameKind.cell else NameKind.free):=by
     rw[look y,e];rfl
    by_cases c:(NameKind.free == NameKind.free && X.env.scope.kind == .function && X.env.kindOf y == some .cell)=true
    ·rw[if_pos c] at D;exact .inl D
    ·rw[if_neg c] at D;exact .inr D
   ·rcases l with⟨lk,_⟩ | ⟨_,c,B,j⟩
    ·exfalso;rcases Y with z | z <;> (rw[show X.env.kindOf y=some NameKind.local from lk] at z;cases z)
    ·obtain⟨c',x⟩:=hU.mp<|G3 X.env scope.names [] y g (by rw[B];rfl);have:=n y c' x;rw[B] at this
     cases this;exact⟨c,x,d c _ j⟩
 ·obtain⟨v,z⟩:=I.cell y c<|n y c e;exact⟨v,d c v z⟩
 ·show (ns.map (λ_=>none)++σ).length=(ns++N').length;simp[I.len,S.len]
end
def M3(X:Cx)(mn:List Expr)(t:TT):Prop :=
 ∀(a8:List<|Addr × Obj)(s:Shared)(σ:St)(H:Hp)(Q:Bool->Hp->Prop),Inv X a8 σ H s->t σ H Q ->
  wpAny (model X.prog X.w) X.A (forIn mn true λc r=>if r=true then do let ok <-isTrue c X.env (eval c X.env);pure (ForInStep.yield ok) else pure (ForInStep.yield r)) (TP X a8 σ Q) X.xe s
def QQ:TT:=λ_ H Q=>Q true H
theorem Ci:M3 X [] QQ:=λ_ _ _ H _ I h=>wpAny_tests_nil ⟨H,I,h⟩
theorem G9{c:Expr}{t:TT}(h:PT X c t):M3 X [c] t:=λa s σ H Q I q=>wpAny_tests_one<|h a s σ H Q I q
def Jb(F:St->Prop)(J:It)(H1:Hp)(Q:VK)(g:TG)(tt:TT)(te:TE):Prop:=∀D,H1 D=none->∃W:Nat->Nat->List V->Hp->Prop,(∃m,W 0 m [] (upd H1 D<|.lst []))/\∀i m ys H2,W i m ys H2 ->
 (J.stop i H2/\Q (.ref D) H2) \/ (J.go i H2/\∀x H3,J.yld i H2 x H3->∀τ,F τ->g x τ H3 λσ' OG=>F σ'/\tt σ' OG λb H4 =>
  if b=true then te σ' H4 λy H5=>H5 D=some (.lst ys)/\ys.length<sizeLine/\∃m',m'<m/\W (i+1) m' (ys++[y]) (upd H5 D<|.lst<|ys++[y])
  else ∃m',m'<m/\W (i+1) m' ys H4)
def Fz(J:It)(σ:St)(H1:Hp)(Q:VK)(tt:TT)(te:TE):Prop:=∀D,H1 D=none->∃W:Nat->Nat->List V->Hp->Prop,(∃m,W 0 m [] (upd H1 D<|.lst []))/\∀i m ys H2,W i m ys H2 ->
 (J.stop i H2/\Q (.ref D) H2) \/ (J.go i H2/\∀x H3,J.yld i H2 x H3->tt (some x::σ) H3 λb H4 =>
  if b=true then te (some x::σ) H4 λy H5=>H5 D=some (.lst ys)/\ys.length<sizeLine/\∃m',m'<m/\W (i+1) m' (ys++[y]) (upd H5 D<|.lst<|ys++[y])
  else ∃m',m'<m/\W (i+1) m' ys H4)
def fC(wi:TI)(tt:TT)(te:TE):TE:=λσ H Q=>wi σ H λJ H1=>Fz J σ H1 Q tt te
theorem bf{α:Type}{t:Sem α}{Q b:α->Shared->Prop}{M:Model}(h:wpAny M A t Q (λ_ _=>False) s)(c:∀a s,Q a s->b a s):wpAny M A t b E s:=wpAny_mono h c λ_ _ x=>x.elim
theorem Inv.sameBut(I:Inv X a8 σ H s)(f:Jh X a8 H C)(c:Heap.SameBut C s.heap h'):Inv X a8 σ H { s with heap:=h' } :=
 I.turned (t':=s.toks) (λb o a e=>(c.2 b a).trans e) f.1 f.2.1 f.2.2.2.1 f.2.2.2.2.1 f.2.2.2.2.2
theorem cR{w:World}{R:Result->Shared->Prop}{b d:Value}{a:Env}(J:Nat->Shared->Prop)(k:E=notedBy (model prog w) A a λe s'=>R (.error e) s')
  (l:∀n s,J n s->wpAny (model prog w) A (pyNext b) (λr s1=>match r with
   |none=>R (.ok .next) s1
   |some v=>wpAny (model prog w) A (letOwnedTupleGo tg b v) (λ_ s2=>wpAny (model prog w) A (assign tg a v) (λ_ s3 =>
     wpAny (model prog w) A (forIn mn true λc r=>if r=true then do let ok <-isTrue c a (eval c a);pure (ForInStep.yield ok) else pure (ForInStep.yield r)) (λok s4 =>
      if ok=true then wpAny (model prog w) A (eval mw a) (λx s5=>wpAny (model prog w) A (call (.builtin "list.append") [d,x]) (λ_ s6=>∃m,m<n/\J m s6) E s5) E s4
      else ∃m,m<n/\J m s4) E s3) E s2) E s1) E s) (n:Nat) (h:J n s) :
  codeAny (model prog w) A (.compLoop (.ListComp mw [⟨tg,iter,mn,0⟩] scope pos) 0 b d a) R s:=by
 subst k;refine codeAny_loop U J (λn s j=>(show wpAny _ A ((compTurn (.ListComp mw [⟨tg,iter,mn,0⟩] scope pos) 0 b d a).onRaise (λx=>do noteFrame x a;theTreesLotGoes x)) _ _ s from wpAny_noted ?_)) n h;rw[compTurn_list];refine wpAny_bind<|wpAny_standAt<|wpAny_bind<|wpAny_mono (l n s j) (λr s1 f=>?_) λ_ _ q=>q
 cases r with
 |none=>exact wpAny_pure f
 |some v =>
  refine wpAny_bind<|wpAny_mono f (λ_ s2 t=>wpAny_bind<|wpAny_mono t (λ_ s3 i=>wpAny_bind<|wpAny_mono i (λok s4 g=>?_) λ_ _ q=>q) λ_ _ q=>q) λ_ _ q=>q
  cases ok with
  |false=>exact wpAny_pure ⟨U,g⟩
  |true=>exact wpAny_bind<|wpAny_bind<|wpAny_mono g (λx s5 o=>wpAny_bind<|wpAny_mono o (λ_ s6 p=>wpAny_pure<|wpAny_pure ⟨U,p⟩) λ_ _ q=>q) λ_ _ q=>q
section
variable{N':List Str}
theorem Kl{g:TG}{c:Shared}{it:Addr}{G:Nat->Heap->Prop}{J:It}{E:vSP}
  {F:St->Prop}{RR:Value->Addr->Result->Shared->Prop}{Q:VK}
  (hc:X.calm=true)(S:Do X ns N' scope)(hg:∀C s₀ H₀ fp,PG (JQ X ns N' scope C s₀ H₀ fp) tg g)(ht:∀C s₀ H₀ fp,M3 (JQ X ns N' scope C s₀ H₀ fp) mn tt)(he:∀C s₀ H₀ fp,PE (JQ X ns N' scope C s₀ H₀ fp) mw te)
  (I2:Inv X a8 σ H2 c)(T:Turn X.prog X.w X.K tg J fp it G)(zw:G 0 c.heap)(f2:∀b∈fp,Jh X a8 H2 b)(hF:F<|ns.map (λ_=>none)++σ)(q:Jb F J H2 Q g tt te)
  (aC:∀D C s' H' m,s'.heap.Ns C m->Jh X a8 H' C->Inv X a8 σ H' s'->Q (.ref D) H'->RR (.ref D) C (.ok .next) s') :
  wpAny (model X.prog X.w) X.A (newList []) (λf' s₃=>wpAny (model X.prog X.w) X.A (newFunctionEnv scope X.env.globals (Eo X.env scope.names []) [] X.env.qual none .none (some X.env)) (λIJ s₄ =>
   codeAny (model X.prog X.w) X.A (.compStart (.ListComp mw [⟨tg,iter,mn,0⟩] scope pos) 0 (.ref it) f' { IJ with scope:=relabel scope X.env }) (RR f' IJ.locals) s₄) E s₃) E c:=by
 refine wpAny_newObj_type<|wpAny_newFunctionEnv S.nocell (by intro y hy;simp at hy) (λv QN OO=>?_) S.kind
 have I3:=I2.ph (its:=[]) (ys:=[]) (t':=c.toks) .nil<|eJ _
 have aw:H2 c.heap.objs.size=none:=I2.fresh;obtain⟨W,⟨m0,w0⟩,sR⟩:=q _ aw;generalize M:({ c with heap:=c.heap.push { cls:=.type "list",data:=.seq ([]:List Value).toArray },toks:=c.toks }:Shared)=a at I3;have P:a.heap=c.heap.push { cls:=.type "list",data:=.seq ([]:List Value).toArray }:=by rw[<-M]
 have B:∀b∈fp,b<c.heap.objs.size:=λb f=>let ⟨_,e,_⟩:=T.obj _ _ zw b f;Heap.lt_size e;have L:∀b∈fp,b<a.heap.objs.size:=λb f=>by rw[P,Heap.size_push];exact hV<|B b f
 have f3:∀b∈fp,Jh X a8 (upd H2 c.heap.objs.size<|.lst []) b:=λb f=>⟨by rw[Aw (cf<|B b f)];exact (f2 b f).1,(f2 b f).2⟩;have N:∀b o,a.heap.get? b=some o->v.get? b=some o:=λb o e=>by
  have I:b≠a.heap.objs.size:=cf<|Heap.lt_size e
  rw[P] at e I;exact OO.extBut b o I<|Heap.get?_push_of_some _ e
 have hC:a.heap.objs.size=(c.heap.push { cls:=.type "list",data:=.seq ([]:List Value).toArray }).objs.size:=by rw[P]
 have ac:v.Ns a.heap.objs.size<|λx=>([]:List<|Str×Value).reverse.lookup x:=by rw[hC];exact QN
 have H:G 0 v:=T.keep _ _ _ zw λb f o e=>N b o<|by rw[P];exact Heap.get?_push_of_some _ e
 have start:∀j,Inv (JQ X ns N' scope a.heap.objs.size a (upd H2 c.heap.objs.size<|.lst []) fp) [] (ns.map (λ_=>none)++σ) (upd H2 c.heap.objs.size<|.lst []) { a with heap:=v,toks:=j }:=λj =>
  QH I3 S f3 L (al _) ac N
 have k:∀j,codeAny (model X.prog X.w) X.A (.compLoop (.ListComp mw [⟨tg,iter,mn,0⟩] scope pos) 0 (.ref it) (.ref c.heap.objs.size)<|compEnvC scope (Eo X.env scope.names []) a.heap.objs.size X.env)
   (RR (.ref c.heap.objs.size) a.heap.objs.size) { a with heap:=v,toks:=j }:=by
  intro j;refine cR (λn s'=>∃i ys τ H',F τ/\Inv (JQ X ns N' scope a.heap.objs.size a (upd H2 c.heap.objs.size<|.lst []) fp) [] τ H' s'/\G i s'.heap/\(∀b∈fp,H' b=none)/\W i n ys H') U ?_ m0
   ⟨0,[],_,_,hF,start j,H,λb f=>(f3 b f).1,w0⟩
  rintro n s4 ⟨i,ys,τ,H4,fτ,z,ZA,A,w4⟩;have h:∀{H':Hp},(∀b∈fp,H' b=none)->∀b∈fp,Jh (JQ X ns N' scope a.heap.objs.size a (upd H2 c.heap.objs.size<|.lst []) fp) [] H' b:=λhn b f=>by
   refine⟨hn b f,(z.ok.exf b f).1,z.ok.exfs b f,.inl f,(z.ok.exf b f).2,λp hp=>absurd (show p∈([]:List<|Addr×Obj) from hp)<|by simp⟩
  rcases sR i n ys H4 w4 with⟨stop,qn⟩ | ⟨go,step⟩
  ·refine CT (T.done (JQ X ns N' scope a.heap.objs.size a (upd H2 c.heap.objs.size<|.lst []) fp) U U U hc i [] s4 τ H4 _ z (h A) ZA stop) λr s5 ⟨hr,t⟩=>?_;subst hr;obtain⟨m,hn,_⟩:=t.loc;refine aC _ _ s5 H4 m hn (I3.Ou (al _) t.free) (I3.call' (s':=s5) (ch:=fp) t.os t.base t.hok t.bare<|λb f=>?_) qn;obtain⟨_,g1,_,g3,g4,g5⟩:=f3 b f;exact⟨g3,g1,g4,g5⟩
  ·refine CT (T.item (JQ X ns N' scope a.heap.objs.size a (upd H2 c.heap.objs.size<|.lst []) fp) U U U hc i [] s4 τ H4 _ z (h A) ZA go) λr s5 ⟨u,hr,h5⟩=>?_;subst hr;refine CT h5 λ_ s6 h6=>?_;obtain⟨xv,H6,I6,r6,y6,XG,ab⟩:=h6;have an:=I6.pinned (h ab)<|T.obj _ _ XG
   have again:∀{l:Shared}{s:Hp}{NN:List V}{τ:St},F τ->Inv (JQ X ns N' scope a.heap.objs.size a (upd H2 c.heap.objs.size<|.lst []) fp) ([]++LQ fp s6.heap) τ s l->(∃O,O<n/\W (i+1) O NN s) ->
     ∃m,m<n/\∃i ys τ H',F τ/\Inv (JQ X ns N' scope a.heap.objs.size a (upd H2 c.heap.objs.size<|.lst []) fp) [] τ H' l/\G i l.heap/\(∀b∈fp,H' b=none)/\W i m ys H':=λ{l s NN τ} Z w hw=>by
    obtain⟨O,hm,w7⟩:=hw;refine⟨O,hm,i+1,NN,τ,s,Z,w.J1,T.keep _ _ _ XG λb f o e=>(w.pin (b,o)<|cm _<|cm _<|HH f e).1,λb f=>?_,w7⟩;obtain⟨o,e,d⟩:=T.obj _ _ XG b f;exact (w.pin (b,o)<|cm _<|cm _<|HH f e).2.1
   refine bf (hg _ _ _ _ _ s6 τ H6 xv u _ an r6<|step xv H6 y6 τ fτ) λ_ l K=>?_;obtain⟨τ,s,w,Z,q7⟩:=K;refine bf (ht _ _ _ _ _ l τ s _ w q7) λb s8 K=>?_;obtain⟨H8,I8,Y⟩:=K
   cases b with
   |false =>
    rw[if_neg eW] at Y |-;exact again Z I8 Y
   |true =>
    rw[if_pos U] at Y |-;refine bf (he _ _ _ _ _ s8 τ H8 _ I8 Y) λy s9 K=>?_;obtain⟨yv,H9,I9,r9,aK,ap,q9⟩:=K;refine bf (Di (X:=JQ X ns N' scope a.heap.objs.size a (upd H2 c.heap.objs.size<|.lst []) fp) _ s9 τ H9 (.ref c.heap.objs.size) [yv] (.ref c.heap.objs.size) [y] (λ_ H'=>H'=upd H9 c.heap.objs.size (.lst<|ys++[yv])) I9 U (.cons r9 .nil)
     ⟨_,ys,yv,U,U,aK,ap,U⟩) λ_ aM ⟨_,qB,aB,_,aD⟩=>?_
    subst aD;exact again Z aB q9
 have key:=λj=>codeAny_compStart_list (R:=RR (.ref c.heap.objs.size) a.heap.objs.size) (k j)<|T.self X.A 0 { a with heap:=v,toks:=j } (λas s'=>codeAny (model X.prog X.w) X.A (.compLoop (.ListComp mw [⟨tg,iter,mn,0⟩] scope pos) 0 as (.ref c.heap.objs.size)<|compEnvC scope (Eo X.env scope.names []) a.heap.objs.size X.env) (RR (.ref c.heap.objs.size) a.heap.objs.size) s') _ H (k j)
 subst M;exact key _
theorem LK{F:St->St->Prop}{b:It->St->Hp->VK->Prop}{d:TI}{g:TG}(u:∀σ,F σ<|ns.map (λ_=>none)++σ)(a:∀J σ H Q,b J σ H Q->Jb (F σ) J H Q g tt te)(o:X.calm=true)(S:Do X ns N' scope)(hi:PI X tg iter d)(G:∀C s₀ H₀ fp,PG (JQ X ns N' scope C s₀ H₀ fp) tg g)
  (f:∀C s₀ H₀ fp,M3 (JQ X ns N' scope C s₀ H₀ fp) mn tt) (n:∀C s₀ H₀ fp,PE (JQ X ns N' scope C s₀ H₀ fp) mw te) (r:∀x,foldedSetIterable iter X.env x=pure x) :
  PE X (.ListComp mw [⟨tg,iter,mn,0⟩] scope pos) (λσ H Q=>d σ H λJ H1=>b J σ H1 Q):=by
 intro c s σ H Q I h;rw[eval_ListComp];refine wpAny_comprehension_free (use:=none) (cl:=Eo X.env scope.names []) U r (Lh λy i a=>I.ok.has y.1<|S.free y i a) S.kind S.names<|CT (hi c s σ H _ I h) λv V t=>CT t λM R B=>?_
 obtain⟨Y,fp,O,J,P,e,z,T,E,k,q⟩:=B;subst e;refine Kl (RR:=λK C=>compPost (model X.prog X.w) X.A X.xe none (EP X c σ Q) K C) (Q:=Q) o S G f n z T E k (u σ) (a _ _ _ _ q) ?_;intro D C W L m A j w p;exact⟨m,A,λN l=>⟨.ref D,L,w.sameBut j l,U,p⟩⟩
theorem Qf{F:St->St->Prop}{t:It->St->Hp->VK->Prop}{y:Str}{b w:Pos}{u:TI}{g:TG}(R:∀σ,F σ<|ns.map (λ_=>none)++σ)(r:∀J σ H Q,t J σ H Q->Jb (F σ) J H Q g tt te)(Y:X.N.Nodup)(j:X.N[i]? = some y)(d:X.env.scope.names.lookup y=some .local)(M:X.calm=true)(S:Do X ns N' scope)(hi:PI X tg iter u)(hg:∀C s₀ H₀ fp,PG (JQ X ns N' scope C s₀ H₀ fp) tg g)
  (B:∀C s₀ H₀ fp,M3 (JQ X ns N' scope C s₀ H₀ fp) mn tt) (L:∀C s₀ H₀ fp,PE (JQ X ns N' scope C s₀ H₀ fp) mw te) (V:swapsWith (.ListComp mw [⟨tg,iter,mn,0⟩] scope pos) (some<|.Name y b) w.line X.env=pure true) (N:∀x,foldedSetIterable iter X.env x=pure x) :
  PS X (.Assign [.Name y b] (.ListComp mw [⟨tg,iter,mn,0⟩] scope pos) w) (Qd (λσ H Q=>u σ H λJ H1=>t J σ H1 Q)<|Cm i):=by
 intro n s σ H p I h;rw[exec_Assign_Name_used _ _ _ _ V];refine wpAny_bind<|wpAny_standAt<|wpAny_bind ?_
 show wpAny _ X.A (do let _ <-comprehension (.ListComp mw [⟨tg,iter,mn,0⟩] scope pos) scope X.env _ (newList []) false (eval iter X.env) (some<|assign (.Name y b) X.env)) _ _ s;refine wpAny_bind (wpAny_mono (wpAny_comprehension_free (use:=some<|assign (.Name y b) X.env) (cl:=Eo X.env scope.names []) (Q:=λ_ c=>SP X n p .next c) U N (Lh λy d r=>I.ok.has y.1<|S.free y d r) S.kind S.names
  (CT (hi n s σ H _ I h) λv s1 O=>CT O λFR s2 h2=>?_)) (λ_ c l=>wpAny_pure<|wpAny_pure l) λ_ _ e=>e)
 obtain⟨it,fp,tn,J,H2,e,Z,T,zw,E,q⟩:=h2;subst e;refine Kl (RR:=λf' C=>compPost (model X.prog X.w) X.A X.xe (some<|assign (.Name y b) X.env) (λ_ c=>SP X n p .next c) f' C) (Q:=λx H1=>Cm i x σ H1 p.nx) M S hg B L Z T zw E (R σ) (r _ _ _ _ q) ?_;intro D C c H' m hn k W l;show wpAny _ X.A (assign (.Name y b) X.env<|.ref D) _ _ _;refine wpAny_assign_Name<|Nf W Y j (.inl d) (v:=.ref D) U (λs6 A G=>?_)<|.inr d
 obtain⟨a,K,P⟩:=G;have f:C≠a:=by
  rcases P with z | z
  ·rw[z];exact k.2.1
  ·exact Ne.symm<|k.2.2.2.2.1 y a z
 exact⟨m,hn.sameBut K f,λh' o=>⟨_,H',A.sameBut k o,l⟩⟩
theorem V4{a:Shared}{b:Hp}(S:Do X ns N' scope)(hi:ns[i]? = some x):PG (JQ X ns N' scope C a b fp) (.Name x px) (Cm i) :=
 have l:(JQ X ns N' scope C a b fp).env.scope.names.lookup x=some .local:=lookup_relabel_local<|S.loc x<|ah hi
 Bt (X:=JQ X ns N' scope C a b fp) S.nd (by show (ns++N')[i]? = some x;rw[List.getElem?_append_left (List.getElem?_eq_some_iff.mp hi).1];exact hi) (.inl l) (.inr l)
end
abbrev Oq(X:Cx)(x:Str)(scope:Scope):=JQ X [x] (NB x X.N) scope
abbrev J9(X:Cx)(x:Str)(scope:Scope):Prop:=Do X [x] (NB x X.N) scope
theorem Fz.g{J:It}{Q:VK}(h:Fz J σ H Q tt te):Jb (λτ=>∃v,τ=v::σ) J H Q (Cm 0) tt te:=λD c =>
 let ⟨W,a,b⟩:=h D c
 ⟨W,a,λi m f g w=>(b i m f g w).imp id λq=>⟨q.1,λx d y _ e=>by obtain⟨v,rfl⟩:=e;exact⟨⟨_,U⟩,q.2 x d y⟩⟩⟩
theorem Br{a:TI}(d:X.calm=true)(S:J9 X x scope)(hi:PI X (.Name x px) iter a)
  (b:∀C s₀ H₀ fp,M3 (Oq X x scope C s₀ H₀ fp) mn tt) (c:∀C s₀ H₀ fp,PE (Oq X x scope C s₀ H₀ fp) mw te) (e:∀x,foldedSetIterable iter X.env x=pure x:=by intro _;rfl) :
  PE X (.ListComp mw [⟨.Name x px,iter,mn,0⟩] scope pos) (fC a tt te):=LK (F:=λσ τ=>∃v,τ=v::σ) (λ_=>⟨_,U⟩) (λ_ _ _ _ q=>q.g) d S hi (λ_ _ _ _=>V4 S U) b c e
theorem aA{y:Str}{c d:Pos}{b:TI}(h:X.N.Nodup)(a:X.N[i]? = some y)(g:X.env.scope.names.lookup y=some .local)(k:X.calm=true)(S:J9 X x scope)(hi:PI X (.Name x px) iter b)
  (f:∀C s₀ H₀ fp,M3 (Oq X x scope C s₀ H₀ fp) mn tt) (j:∀C s₀ H₀ fp,PE (Oq X x scope C s₀ H₀ fp) mw te) (e:swapsWith (.ListComp mw [⟨.Name x px,iter,mn,0⟩] scope pos) (some<|.Name y c) d.line X.env=pure true:=by rfl) (l:∀x,foldedSetIterable iter X.env x=pure x:=by intro _;rfl) :
  PS X (.Assign [.Name y c] (.ListComp mw [⟨.Name x px,iter,mn,0⟩] scope pos) d) (Qd (fC b tt te)<|Cm i):=Qf (F:=λσ τ=>∃v,τ=v::σ) (λ_=>⟨_,U⟩) (λ_ _ _ _ q=>q.g) h a g k S hi (λ_ _ _ _=>V4 S U) f j e l
section
variable{Q:VK}
theorem Hz{J:It}(p:V->Bool)(f:V->V)(B:xs.length<sizeLine)
  (C:∀i H x,Am H1 H->xs[i]? = some x->J.go i H)(w:∀i H y H',Am H1 H->i<xs.length->J.yld i H y H'->H'=H/\xs[i]? = some y)(G:∀H,Am H1 H->J.stop xs.length H)
  (v:∀x∈xs,∀H,Am H1 H->∀R:Bool->Hp->Prop,(∀H',Am H H'->R (p x) H')->tt (some x::σ) H R)
  (z:∀x∈xs,p x=true->∀H,Am H1 H->∀R:VK,(∀H',Am H H'->R (f x) H')->te (some x::σ) H R)
  (A:∀D H,H1 D=none->Am H1 H->H D=some (.lst<|(xs.filter p).map f)->Q (.ref D) H):Fz J σ H1 Q tt te:=by
 intro D l;have E:Am H1<|upd H1 D<|.lst []:=λb o e=>by rw[Aw (Ai e l)];exact e
 refine⟨λi m n H=>m=xs.length - i/\i<=xs.length/\n=((xs.take i).filter p).map f/\H D=some (.lst n)/\Am H1 H,⟨xs.length,by simp,Nat.zero_le _,by simp,Aj,E⟩,?_⟩;rintro i m n H ⟨rfl,I,rfl,k,c⟩;by_cases a:i<xs.length
 ·obtain⟨x,d⟩:∃x,xs[i]? = some x:=⟨xs[i],by simp[a]⟩;refine .inr ⟨C i H x c d,λy u q=>?_⟩;obtain⟨rfl,s⟩:=w i H y u c a q;rw[d] at s
  cases s;have t:x∈xs:=ah d;have j:(((xs.take i).filter p).map f).length<sizeLine:=by
   rw[af];refine aT (cc _ _)<|aT ?_ B
   rw[cy];omega
  refine v x t _ c _ λF g=>?_;by_cases h:p x=true
  ·rw[if_pos h];refine z x t h F (c.trans g) _ λK r=>?_;refine⟨r _ _<|g _ _ k,j,xs.length - (i+1),by omega,U,a,?_,Aj,λb o e=>?_⟩
   ·rw[take_succ_filter p xs i x d,if_pos h,cq];rfl
   ·rw[Aw (Ai e l)];exact r _ _<|g _ _<|c _ _ e
  ·rw[if_neg h];refine⟨xs.length - (i+1),by omega,U,a,?_,g _ _ k,c.trans g⟩;rw[take_succ_filter p xs i x d,if_neg h,dE]
 ·have e:i=xs.length:=by omega
  subst e;rw[dt] at k;exact .inl ⟨G H c,A D H l c k⟩
theorem JP{lo:Int}(p:Int->Bool)(f:Int->V)(j:n<sizeLine)
  (l:∀i:Nat,i<n->∀H,Am H1 H->∀R:Bool->Hp->Prop,(∀H',Am H H'->R (p<|lo+i) H')->tt (some (.int<|lo+i)::σ) H R)
  (q:∀i:Nat,i<n->p (lo+i)=true->∀H,Am H1 H->∀R:VK,(∀H',Am H H'->R (f<|lo+i) H')->te (some (.int<|lo+i)::σ) H R)
  (s:∀D H,H1 D=none->Am H1 H->H D=some (.lst<|(((List.range n).map λ(i:Nat)=>lo+(i:Int)).filter p).map f)->Q (.ref D) H):Fz (Zi lo n) σ H1 Q tt te:=by
 let g:V->Int:=λv=>match v with | .int i=>i | _=>0
 have d:∀i:Nat,i<n->((List.range n).map λ(i:Nat)=>V.int<|lo+(i:Int))[i]? = some (.int<|lo+i):=λi a=>by simp[a]
 refine Hz (xs:=(List.range n).map λ(i:Nat)=>V.int<|lo+(i:Int)) (λv=>p<|g v) (λv=>f<|g v) (by simpa using j) (λi H x _ b=>?_) (λi H y H' _ a o=>?_) (λH _=>?_) (λx b=>?_) (λx b=>?_)<|λD H e r k=>?_
 ·have:i<((List.range n).map λ(i:Nat)=>V.int<|lo+(i:Int)).length:=(ag.mp b).1;show i<n;simpa using this
 ·have c:i<n:=by simpa using a
  obtain⟨m,h⟩:=o;subst h;exact⟨m,d i c⟩
 ·show n<=_;simp
 ·obtain⟨i,a,rfl⟩:=ar.mp b;exact l i<|fR.mp a
 ·obtain⟨i,a,rfl⟩:=ar.mp b;exact q i<|fR.mp a
 ·refine s D H e r ?_;rw[k,fg,ay,fg,ay];rfl
def um(z:Str):It:=⟨λi _=>i<z.cps.size,λi H x H'=>H'=H/\∃c,z.cps[i]? = some c/\x=.str ⟨#[c]⟩,λi _=>z.cps.size<=i⟩
theorem ZF{w:World}{K:W.Frag}{z:Str}{t0:Tok}{a:Addr}{m:String}(t:m = "str_ascii_iterator" \/ m = "str_iterator"):Turn P w K tg (um z) [a] a (λi h=>h.IsStrIter a m z t0 i) where
 mem:=by simp
 obj:=λi h st b g=>by
  have e:b=a:=by simpa using g
  subst e;obtain⟨o,M,y,hd⟩:=st;exact⟨o,M,λv q=>by rw[hd] at q;cases q⟩
 keep:=λi h f st k=>let ⟨o,M,r⟩:=st;⟨o,k a (by simp) o M,r⟩
 item:=by
  intro X J G R y i N s σ H E I p st O;subst J G R;obtain⟨D,C,Y,B,n,F⟩:=p a<|by simp
  have j:i<z.cps.size:=O;have l:z.cps[i]? = some z.cps[i]:=Array.getElem?_eq_getElem j;have fin:∀f,f.IsStrIter a m z t0 (i+1)->Heap.SameBut a s.heap f->∃u,some (Value.str ⟨#[z.cps[i]]⟩ s.toks)=some u /\
    wpAny (model X.prog X.w) X.A (letOwnedTupleGo tg (.ref a) u) (λ_ V=>∃x S,Inv X N σ S V/\RelV x u/\(um z).yld i H x S/\V.heap.IsStrIter a m z t0 (i+1)/\∀b∈[a],S b=none) E { s with heap:=f,toks:=s.toks+1 }:=λf T Z=>by
   have I1:Inv X N σ H { s with heap:=f,toks:=s.toks+1 }:=I.turned (λb o g e=>(Z.2 b g).trans e) D C B n F;obtain⟨o,e,c,d⟩:=id T;refine⟨_,U,QC (s:={ s with heap:=f,toks:=s.toks+1 }) e c d (by rcases t with rfl | rfl <;> decide) ⟨.str ⟨#[z.cps[i]]⟩,H,I1,⟨_,rfl⟩,⟨rfl,_,l,rfl⟩,T,λb g=>(p b g).1⟩⟩
  rcases t with rfl | rfl
  ·exact wpAny_pyNext_ascii_item st l fin
  ·exact wpAny_pyNext_wide_item st l fin
 done:=by
  intro X J G R y i N s σ H E I p st O;subst J G R;obtain⟨D,C,Y,B,n,F⟩:=p a<|by simp
  have l:z.cps[i]? = none:=by
   have j:z.cps.size<=i:=O;simpa using j
  rcases t with rfl | rfl
  ·exact wpAny_pyNext_ascii_end (I.ok.hd y) st l λf L=>⟨U,I.turned (t':=s.toks) (λb o g e=>L b o g e) D C B n F⟩
  ·exact wpAny_pyNext_wide_end (I.ok.hd y) st l λf L=>⟨U,I.turned (t':=s.toks) (λb o g e=>L b o g e) D C B n F⟩
 self:=λA i s Q E st h=>by
  rcases t with rfl | rfl
  ·exact wpAny_pyIter_striter_ascii st h
  ·exact wpAny_pyIter_striter_wide st h
end
inductive fJ(R:It->Hp->Prop)(x:V)(H1:Hp):Prop
 | mk(z:_):x=.str z->R (um z) H1->fJ R x H1
def iStr(tl:TE):TI:=λσ H R=>tl σ H λx H1=>fJ R x H1
theorem ZK{l:Expr}{f:TE}(hl:PE X l f):PI X tg l<|iStr f:=by
 intro g s σ H R I h;refine CT (hl g s σ H _ I h) λv a j=>?_;obtain⟨x,i,d,n,k⟩:=j;obtain⟨z,e,q⟩:=k;subst e;obtain⟨t,rfl⟩:=n;have fin:∀c,(c = "str_ascii_iterator" \/ c = "str_iterator")->PIE X g σ tg R (.ref a.heap.objs.size) { a with heap:=a.heap.push { cls:=.type c,data:=.fields #[.str z t,.int 0 0] } }:=λc m=>by
  refine⟨a.heap.objs.size,[a.heap.objs.size],_,_,i,U,d.kept (t':=a.toks) λb o e=>Heap.get?_push_of_some _ e,ZF (z:=z) (t0:=t) m,⟨_,Heap.get?_push_size _ U,U,U⟩,λb p=>?_,q⟩;have e:b=a.heap.objs.size:=by simpa using p
  subst e;exact d.Ou (al _)<|d.hok.fresh<|al _
 cases ha:z.cps.all (· < 128)
 ·exact wpAny_pyIter_wide ha<|fin _<|.inr U
 ·exact wpAny_pyIter_ascii ha<|fin _<|.inl U
section
variable{Q:VK}
def sgn(c:Nat):V:=.str ⟨#[c]⟩
theorem Qt{z:Str}(p:Nat->Bool)(f:Nat->V)(e:z.length<sizeLine)
  (j:∀c∈z.cps.toList,∀H,Am H1 H->∀R:Bool->Hp->Prop,(∀H',Am H H'->R (p c) H')->tt (some (sgn c)::σ) H R)
  (m:∀c∈z.cps.toList,p c=true->∀H,Am H1 H->∀R:VK,(∀H',Am H H'->R (f c) H')->te (some (sgn c)::σ) H R)
  (o:∀D H,H1 D=none->Am H1 H->H D=some (.lst<|(z.cps.toList.filter p).map f)->Q (.ref D) H):Fz (um z) σ H1 Q tt te:=by
 let g:V->Nat:=λv=>match v with | .str y=>y.cps.getD 0 0 | _=>0
 refine Hz (xs:=z.cps.toList.map sgn) (λv=>p<|g v) (λv=>f<|g v) (by simpa [Str.length] using e) (λi H x _ a=>?_) (λi H y H' _ q l=>?_) (λH _=>?_) (λx a=>?_) (λx a=>?_)<|λD H d n h=>?_
 ·have:i<(z.cps.toList.map sgn).length:=(ag.mp a).1;show i<z.cps.size;simpa using this
 ·obtain⟨k,c,b,rfl⟩:=l;refine⟨k,?_⟩;rw[am,Array.getElem?_toList,b];rfl
 ·show z.cps.size<=_;simp
 ·obtain⟨c,b,rfl⟩:=ar.mp a;exact j c b
 ·obtain⟨c,b,rfl⟩:=ar.mp a;exact m c b
 ·refine o D H d n ?_;rw[h,fg,ay];rfl
end
theorem range_all(bs:List Bool):((List.range bs.length).all λi=>(bs[i]?).getD true)=bs.all id:=by
 rw[db,fb,fb];constructor
 ·intro h b d;obtain⟨i,c,e⟩:=ge.mp d;have:=h i<|fR.mpr c
  rw[ae c,e] at this;exact this
 ·intro h i c;have a:=fR.mp c;rw[ae a];exact h _<|eR a
theorem IW(z:X.calm=true):Fe X (.builtin "all") (λxs H Q=>∃(p:Addr)(bs:List Bool),xs=[V.ref p]/\De X.K H p (bs.map V.bl)/\Q (.bl<|bs.all id) H):=by
 intro G s σ H xs N Q I r h;obtain⟨p,bs,rfl,D,q⟩:=h;obtain⟨u,rfl,j⟩:=vals1 r
 cases j;obtain⟨a,n,d,J⟩:=I.list D;have c:bs.length=a.length:=by have:=n.length;rw[af] at this;exact this
 have k:p<s.heap.objs.size:=by obtain⟨_,e,_⟩:=d.isList;exact Heap.lt_size e
 refine call_all_walk<|wpAny_pyIter_list d.isList ?_
 refine⟨s.heap.objs.size,[s.heap.objs.size,p],[s.heap.objs.size],a.toArray.size,_,_,λi=>(bs[i]?).getD true,U,Walks.list (A:=X.A.in1) (I.ok.hd z) _ p (cf k) a.toArray,
  ⟨⟨_,Heap.get?_push_size _ U,U,U⟩,d.isList.push _⟩,λi v M L K w g=>?_,λF B E=>?_⟩
 ·have t:a[i]? = some v:=by simpa using w
  have y:i<a.length:=(ag.mp t).1;have m:bs[i]? = some bs[i]:=by simp[c,y]
  obtain⟨u,l,j⟩:=n.get (i:=i) (x:=.bl bs[i])<|by rw[am,m];rfl
  rw[t] at l
  cases l
  cases j;dsimp only at g;rw[m] at g;exact wpAny_truthy_bool g
 ·have e:((List.range a.toArray.size).all λi=>(bs[i]?).getD true)=bs.all id:=by rw[bX,<-c];exact range_all bs
  rw[e];refine⟨.bl<|bs.all id,H,I.kept (t':=B) λb o f=>E b o (λC=>?_)<|Heap.get?_push_of_some _ f,U,q⟩;rw[ax.mp C] at f;exact gx _<|Heap.lt_size f
theorem Cv:Fe X (.builtin "isinstance") (λxs H Q=>∃x T t b,xs=[x,V.ty T]/\J6 X.K H x t/\W.kitOne X.K t (.type T)=some b/\Q (.bl b) H):=by
 intro i s σ H xs f Q I r h;obtain⟨x,T,t,b,rfl,a,e,q⟩:=h;obtain⟨u,v,rfl,d,c⟩:=Vals.two r
 cases c;exact U7 I d a e λg=>⟨.bl b,H,I.tok _,U,q⟩
theorem Bf{osc:Scope}{N:List Str}(b:X.env.scope=osc)(a:X.N=N)(h:Xm [x] (NB x N) scope osc N=true):J9 X x scope:=by
 subst a;exact R7 b U h
theorem Inv.LR{ch:List Addr}{t':Nat}(I:Inv X a8 σ H s)(h:∀b∈ch,Jh X a8 H b)(k:∀b u,b ∉ ch->s.heap.get? b=some u->h'.get? b=some u)(i:s.heap.objs.size<=a)
  (new:CW X.prog X.w (upd H a o) h' a o):Inv X a8 σ (upd H a o) { s with heap:=h',toks:=t' }:=by
 have A:H a=none:=I.hok.fresh i;have up:∀b u,H b=some u->upd H a o b=some u:=λb u e=>by rw[Aw (Ai e A)];exact e
 refine I.step (g':=s.gens) (d':=s.drawn) (ch:=ch) (λb g=>?_) (λb u _ _ d e _=>k b u d e) (λb u _ _ d e _=>⟨u.slots,k b u d e⟩) (λb u _ e n=>?_)
  (λb u d e=>⟨u,k b u d e⟩) (λb E e=>up _ _ e) (λb u x e=>up _ _ e) (λb D e=>⟨#[],by rw[up _ _ e];simp⟩) (λm p=>?_) (λb u e=>?_) I.bare
 ·obtain⟨G,w,F,j,l,y⟩:=h b g;exact⟨j,w,l,y⟩
 ·rw[Aw (cf<|br (Heap.lt_size e) i)];exact n
 ·obtain⟨u,t,C,B,r⟩:=p;exact⟨u,t,C,k _ u (λz=>(h _ z).2.1 rfl) B,r⟩
 ·by_cases g:b=a
  ·subst g;rw[Aj] at e
   cases e;exact new
  ·rw[Aw g] at e;refine (I.hok b u e).stay (λc v d q=>k c v (λz=>?_) q) (λ_ q=>up _ _ q) λ_ _ q=>up _ _ q;have f:=(h c z).1;rcases d with d | d
   ·rw[d,e] at f
    cases f
   ·rw[d] at f
    cases f
theorem Inv.Oa{ch:List Addr}{t':Nat}(I:Inv X a8 σ H s)(f:∀b∈ch,Jh X a8 H b)(k:∀b u,b ∉ ch->s.heap.get? b=some u->h'.get? b=some u):Inv X a8 σ H { s with heap:=h',toks:=t' }:=by
 refine I.step (g':=s.gens) (d':=s.drawn) (ch:=ch) (λb w=>?_) (λb u _ _ a e _=>k b u a e) (λb u _ _ a e _=>⟨u.slots,k b u a e⟩) (λb u _ e n=>n)
  (λb u a e=>⟨u,k b u a e⟩) (λb A e=>e) (λb u x e=>e) (λb y e=>⟨#[],by rw[e];simp⟩) (λm i=>?_) (λb u e=>?_) I.bare
 ·obtain⟨C,l,B,g,h,o⟩:=f b w;exact⟨g,l,h,o⟩
 ·obtain⟨u,j,t,p,r⟩:=i;exact⟨u,j,t,k _ u (λz=>(f _ z).2.1 rfl) p,r⟩
 ·refine (I.hok b u e).stay (λc v a q=>k c v (λz=>?_) q) (λ_ q=>q) λ_ _ q=>q;have d:=(f c z).1;rcases a with a | a
  ·rw[a,e] at d
   cases d
  ·rw[a] at d
   cases d
def my(K:W.Frag)(a:Addr):It :=
 ⟨λi H=>∃xs x,De K H a xs/\xs[i]? = some x,λi H v H'=>∃T,H T=none/\v=.ref T/\∀xs,De K H a xs->∃x,xs[i]? = some x/\H'=upd H T (.tup [.int (i:Int),x]),λi H=>∃xs,De K H a xs/\xs.length<=i⟩
def yN(K:W.Frag)(a b:Addr):It :=
 ⟨λi H=>∃xs ys x y,Gr K H a xs/\Gr K H b ys/\xs[i]? = some x/\ys[i]? = some y,λi H v H'=>∃T,H T=none/\v=.ref T/\∀xs ys,Gr K H a xs->Gr K H b ys->∃x y,xs[i]? = some x/\ys[i]? = some y/\H'=upd H T (.tup [x,y]),
  λi H=>∃xs,Gr K H a xs/\xs.length<=i⟩
theorem V3{w:World}{K:W.Frag}{k1:Nat}(a e j:Addr)(n:e≠j) :
  Turn P w K (.Tuple es k1 pos) (my K a) [e,j] e (λi h=>(∃old,IsEnum h e j i old)/\h.IsListIter j a i) where
 mem:=by simp
 obj:=λi h st b f=>by
  obtain⟨⟨old,g⟩,o,ho,c,d⟩:=st;rcases ce.mp f with rfl | f
  ·exact⟨_,g,λv z=>by
    have z':Data.fields _=Data.cell v:=z
    cases z'⟩
  ·have q:b=j:=by simpa using f
   subst q;exact⟨o,ho,λv z=>by rw[d] at z;cases z⟩
 keep:=λi h h' st k=>by
  obtain⟨⟨old,g⟩,l⟩:=st;exact⟨⟨old,k e (by simp) _ g⟩,l.at λo q=>k j (by simp) o q⟩
 item:=by
  intro X B A J M i a8 s σ H E I m st G;subst B A J;obtain⟨S,x,t,y⟩:=G;obtain⟨D,C,p,hz⟩:=I.list t;obtain⟨u,hu,ru⟩:=C.get y;obtain⟨⟨old,g⟩,l⟩:=st;refine wpAny_pyNext_enum_item g l p.isList (x:=u) (by simpa using hu) n λN n1 Z V n4 n5=>?_;refine⟨_,U,wpAny_letOwnedTupleGo_enum (s:={ s with heap:=N,toks:=s.toks+1 }) n1 λh2 m1 F=>?_⟩;have L:s.heap.objs.size≠e:=ix<|Heap.lt_size g
  have hI:s.heap.objs.size≠j:=by obtain⟨_,q,_⟩:=l;exact ix<|Heap.lt_size q
  have O:H s.heap.objs.size=none:=I.hok.fresh<|al _
  have Q:CW X.prog X.w (upd H s.heap.objs.size<|.tup [.int (i:Int),x]) h2 s.heap.objs.size (.tup [.int (i:Int),x]) :=
   ⟨by show 2<=sizeLine;decide,[.int i s.toks,u],.cons ⟨_,U⟩<|.cons ru .nil,_,F.extBut _ _ L V,U,_,U⟩
  refine⟨.ref s.heap.objs.size,_,I.LR (t':=s.toks+1) (ch:=[e,j]) m (λb o f q=>?_) (al _) Q,U,⟨_,O,U,λys R=>⟨x,by rw[I.P_ R t];exact y,U⟩⟩,⟨⟨u,?_⟩,Z.at λo q=>F.extBut _ _ (Ne.symm n) q⟩,λb f=>?_⟩
  ·exact F.extBut _ _ (λz=>f<|by simp[z])<|n5 b o (λz=>f<|by simp[z]) (λz=>f<|by simp[z]) q
  ·have T:((i:Int)+1)=((i+1:Nat):Int):=by omega
   rw[<-T];exact m1
  ·have r:=f;rcases ce.mp f with rfl | f
   ·rw[Aw (Ne.symm L)];exact (m _ r).1
   ·have q:b=j:=by simpa using f
    subst q;rw[Aw (Ne.symm hI)];exact (m _ r).1
 done:=by
  intro X B A J M i a8 s σ H E I m st G;subst B A J;obtain⟨S,t,y⟩:=G;obtain⟨D,C,p,hz⟩:=I.list t;obtain⟨⟨old,g⟩,l⟩:=st;have hl:=C.length;exact wpAny_pyNext_enum_end (I.ok.hd M) g l p.isList (by simp;omega) λN Y=>⟨U,I.Oa (t':=s.toks) (ch:=[e,j]) m λb o f q=>Y b o (λz=>f<|by simp[z]) q⟩
 self:=λ_ _ _ _ _ st h=>by
  obtain⟨⟨old,g⟩,_⟩:=st;exact wpAny_pyIter_enum g h
theorem XQ{a b:Nat}(d:a<n)(c:b<n):ZipApart (n+4) (n+2) (n+3) n (n+1) a b:=by
 constructor <;> (refine (show @Ne Nat _ _ from ?_);omega)
theorem iu{b:Nat}{P:Nat->Prop}(e:P n)(c:P<|n+1)(f:P<|n+2)(g:P<|n+3)(d:P<|n+4)(a:b∈[n,n+1,n+2,n+3,n+4]):P b:=by
 simp at a;rcases a with rfl | rfl | rfl | rfl | rfl <;> assumption
theorem Vv{w:World}{K:W.Frag}{k1:Nat}(a b n:Nat)(ha:a<n)(hb:b<n) :
  Turn P w K (.Tuple es k1 pos) (yN K a b) [n,n+1,n+2,n+3,n+4] (n+4) (λi h=>IsZip h (n+4) (n+2) (n+3) .none/\IsPair h (n+2) (.ref n) (.ref<|n+1)/\(∃x y,IsPair h (n+3) x y)/\h.IsTupleIter n a i/\h.IsTupleIter (n+1) b i) where
 mem:=by simp
 obj:=λi h st c e=>by
  obtain⟨f,g,⟨x,y,j⟩,⟨o1,e1,_,d1⟩,⟨o2,e2,_,d2⟩⟩:=st;refine iu (P:=λc=>∃o,h.get? c=some o/\∀v,o.data≠.cell v) ⟨_,e1,λv z=>?_⟩ ⟨_,e2,λv z=>?_⟩ ⟨_,g,λv z=>?_⟩ ⟨_,j,λv z=>?_⟩ ⟨_,f,λv z=>?_⟩ e
  ·rw[d1] at z;cases z
  ·rw[d2] at z;cases z
  ·have t:Data.seq _ _=Data.cell v:=z
   cases t
  ·have t:Data.seq _ _=Data.cell v:=z
   cases t
  ·have t:Data.fields _=Data.cell v:=z
   cases t
 keep:=λi h h' st k=>by
  obtain⟨f,g,⟨x,y,j⟩,r,B⟩:=st;exact⟨k _ (by simp) _ f,k _ (by simp) _ g,⟨x,y,k _ (by simp) _ j⟩,r.at λo q=>k _ (by simp) o q,B.at λo q=>k _ (by simp) o q⟩
 item:=by
  intro X Q O S e i a8 s σ H E I A st V;subst Q O S;obtain⟨xs,ys,x,y,C,q2,M,hy⟩:=V;obtain⟨JE,J,Z,_⟩:=I.tuple C;obtain⟨Sc,r2,p2,_⟩:=I.tuple q2;obtain⟨u,hu,ru⟩:=J.get M;obtain⟨v,hv,rv⟩:=r2.get hy;obtain⟨f,g,⟨x0,y0,j⟩,r,B⟩:=st;have D:=XQ ha hb;have m:s.TypeIs (.ref<|n+4) "zip":=⟨_,f,U⟩;have sz:n+4<s.heap.objs.size:=Heap.lt_size f;unfold pyNext;refine wpAny_bind (wpAny_attempt (wpAny_callSpecial?_slot (name:=Str.ofString "__next__") m F.slot_zip_next (wpAny_call_entry F.slot_zip_next m F.entry_zip_next
   (Vz D f g j r B (show s.heap.IsTuple a JE.toArray from Z) (show s.heap.IsTuple b Sc.toArray from p2) (x:=u) (y:=v) (by simpa using hu) (by simpa using hv) λp n1 n2 n3 n4 n5 n6 n7=>wpAny_pure ?_) (F.args_zip_next_1 _))))
  refine⟨_,U,wpAny_letOwnedTupleGo_zip (s:={ s with heap:=p }) n1 λL m1 l=>?_⟩;have fr:H s.heap.objs.size=none:=I.hok.fresh<|al _
  have nw:CW X.prog X.w (upd H s.heap.objs.size<|.tup [x,y]) L s.heap.objs.size (.tup [x,y]) :=
   ⟨by show 2<=sizeLine;decide,[u,v],.cons ru<|.cons rv .nil,_,l.extBut _ _ (Nat.ne_of_gt sz) n5,U,_,U⟩
  have Y:IsPair p (n+2) (.ref n)<|.ref<|n+1:=n7 _ _ D.TIz D.TITO D.TIi1 D.TIi2 g
  refine⟨.ref s.heap.objs.size,_,I.LR (t':=s.toks) (ch:=[n,n+1,n+2,n+3,n+4]) A (λc o e q=>?_) (al _) nw,U,⟨_,fr,U,λab NN p L=>⟨x,y,by rw[I.KN p C];exact M,by rw[I.KN L q2];exact hy,U⟩⟩,
   ⟨m1,l.extBut _ _ D.TIz Y,⟨u,v,l.extBut _ _ D.TOz n2⟩,n3.at λo q=>l.extBut _ _ D.i1z q,n4.at λo q=>l.extBut _ _ D.i2z q⟩,λc e=>?_⟩
  ·have z:∀d,d∈[n,n+1,n+2,n+3,n+4]->c≠d:=λd G q=>e<|q ▸ G
   exact l.extBut _ _ (z _<|by simp)<|n7 c o (z _<|by simp) (z _<|by simp) (z _<|by simp) (z _<|by simp) q
  ·rw[Aw ?_]
   ·exact (A c e).1
   ·have lt:c<=n+4:=iu (P:=λc=>c<=n+4) (by omega) (by omega) (by omega) (by omega) (al _) e;exact cf<|aT lt sz
 done:=by
  intro X Q O S e i a8 s σ H E I A st V;subst Q O S;obtain⟨xs,C,M⟩:=V;obtain⟨JE,J,Z,_⟩:=I.tuple C;obtain⟨f,g,⟨x0,y0,j⟩,r,B⟩:=st;have D:=XQ ha hb;have m:s.TypeIs (.ref<|n+4) "zip":=⟨_,f,U⟩;have hl:=J.length;unfold pyNext;refine wpAny_bind (wpAny_attempt (wpAny_callSpecial?_slot (name:=Str.ofString "__next__") m F.slot_zip_next (wpAny_call_entry F.slot_zip_next m F.entry_zip_next
   (X_ (I.ok.hd e) D f g j r (show s.heap.IsTuple a JE.toArray from Z) (by simp;omega) λp x k1 R=>?_) (F.args_zip_next_1 _))))
  obtain⟨o,ho,N⟩:=R;refine wpAny_bind<|wpAny_isInstance (T:="StopIteration") (b:=true) ⟨o,ho,N⟩ isSubtype_stop<|wpAny_pure ?_
  refine⟨U,I.Oa (t':=s.toks) (ch:=[n,n+1,n+2,n+3,n+4]) A λc o e q=>?_⟩;have z:∀d,d∈[n,n+1,n+2,n+3,n+4]->c≠d:=λd G q=>e<|q ▸ G
  exact k1 c o (z _<|by simp) (z _<|by simp) (z _<|by simp) (z _<|by simp) q
 self:=λ_ _ _ _ _ st h=>wpAny_pyIter_zip st.1 h
section
variable{k1:Nat}
inductive YM(K:W.Frag)(R:It->Hp->Prop)(vs:List V)(H1:Hp):Prop
 | mk(a:_):vs=[.ref a]->(∃xs,De K H1 a xs)->R (my K a) H1->YM K R vs H1
def uV(K:W.Frag)(ta:TA):TI:=λσ H R=>ta σ H λvs H1=>YM K R vs H1
inductive dg(K:W.Frag)(R:It->Hp->Prop)(vs:List V)(H1:Hp):Prop
 | mk(a b:_):vs=[.ref a,.ref b]->(∃xs,Gr K H1 a xs)->(∃ys,Gr K H1 b ys)->R (yN K a b) H1->dg K R vs H1
def xU(K:W.Frag)(ta:TA):TI:=λσ H R=>ta σ H λvs H1=>dg K R vs H1
theorem K9{l:Expr}{i:TA}{p:Pos}(B:Gl X "enumerate")(z:X.mg "enumerate" = none)(v:PA X [l] i)(t:starEach [l] X.env=[(false,eval l X.env)]:=by rfl) :
  PI X (.Tuple es k1 mr) (.Call (.Name "enumerate" p) [l] [] pos) (uV X.K i):=by
 intro x s σ H R I h;refine Call_<|Ib I B z boot_enumerate<|PyProof.Rows.callWith_type1 (CT (v pos x s σ H _ I h) λG c ⟨F,j,d,C,k⟩=>?_) t U
 obtain⟨a,e,⟨D,r⟩,q⟩:=k;subst e;obtain⟨u,rfl,A⟩:=vals1 C
 cases A;obtain⟨y,K,n,J⟩:=d.list r;refine call_enumerate_list n.isList λw g o E m=>?_;refine wpAny_pyIter_enum (s:={ c with heap:=w }) g ?_;refine⟨_,[c.heap.objs.size+1,c.heap.objs.size],_,_,j,U,d.kept (t':=c.toks) m,V3 a _ _<|Nat.succ_ne_self _,⟨⟨_,g⟩,o⟩,λb f=>?_,q⟩;have lt:c.heap.objs.size<=b:=by
  rcases ce.mp f with rfl | f
  ·exact ke _
  ·exact Nat.le_of_eq<|(ax.mp f).symm
 exact d.Ou lt<|d.hok.fresh lt
theorem cL{x y:Expr}{l:TA}{p:Pos}(T:Gl X "zip")(L:X.mg "zip" = none)(E:PA X [x,y] l)(D:starEach [x,y] X.env=[(false,eval x X.env),(false,eval y X.env)]:=by rfl)(j:starEach [y] X.env=[(false,eval y X.env)]:=by rfl) :
  PI X (.Tuple es k1 mr) (.Call (.Name "zip" p) [x,y] [] pos) (xU X.K l):=by
 intro G s σ H R I h;refine Call_<|Ib I T L boot_zip<|PyProof.Rows.callWith_type1 (CT (E pos G s σ H _ I h) λus f ⟨Z,t,d,m,g⟩=>?_) (by rw[D,j])<|by rw[j];rfl
 obtain⟨a,b,e,⟨Y,g⟩,⟨W,J⟩,q⟩:=g;subst e;obtain⟨u,v,rfl,M,K⟩:=Vals.two m
 cases M
 cases K;obtain⟨V,m,r,_⟩:=d.tuple g;obtain⟨O,r2,o,_⟩:=d.tuple J;refine U4 (show f.heap.IsTuple a V.toArray from r) (show f.heap.IsTuple b O.toArray from o) λF n i k B A w N n6 z=>?_;refine wpAny_pyIter_zip (s:={ f with heap:=F }) k ?_;have Q:a<n:=by rw[i];exact r.lt
 have S:b<n:=by rw[i];exact o.lt
 refine⟨_,[n,n+1,n+2,n+3,n+4],_,_,t,U,d.kept (t':=f.toks) z,Vv a b n Q S,⟨k,B,⟨_,_,A⟩,w,N⟩,λc C=>?_,q⟩;have lt:f.heap.objs.size<=c:=by
  rw[<-i];exact iu (P:=λc=>n<=c) (by omega) (by omega) (by omega) (by omega) (by omega) C
 exact d.Ou lt<|d.hok.fresh lt
end
abbrev J2(X:Cx)(x z:Str)(scope:Scope):=JQ X [x,z] X.N scope
abbrev HS(X:Cx)(x z:Str)(scope:Scope):Prop:=Do X [x,z] X.N scope
def Ga(J:It)(σ:St)(H1:Hp)(Q:VK)(g:TG)(tt:TT)(te:TE):Prop:=∀D,H1 D=none->∃W:Nat->Nat->List V->Hp->Prop,(∃m,W 0 m [] (upd H1 D<|.lst []))/\∀i m ys H2,W i m ys H2 ->
 (J.stop i H2/\Q (.ref D) H2) \/ (J.go i H2/\∀x H3,J.yld i H2 x H3->∀v0 v1,g x (v0::v1::σ) H3 λσ' OG=>(∃w0 w1,σ'=w0::w1::σ)/\tt σ' OG λb H4 =>
  if b=true then te σ' H4 λy H5=>H5 D=some (.lst ys)/\ys.length<sizeLine/\∃m',m'<m/\W (i+1) m' (ys++[y]) (upd H5 D<|.lst<|ys++[y])
  else ∃m',m'<m/\W (i+1) m' ys H4)
def Sw(wi:TI)(g:TG)(tt:TT)(te:TE):TE:=λσ H Q=>wi σ H λJ H1=>Ga J σ H1 Q g tt te
theorem Ga.g{J:It}{Q:VK}{g:TG}(h:Ga J σ H Q g tt te):Jb (λτ=>∃v0 v1,τ=v0::v1::σ) J H Q g tt te:=λD c =>
 let ⟨W,a,b⟩:=h D c
 ⟨W,a,λi m f j w=>(b i m f j w).imp id λq=>⟨q.1,λx d y _ e=>by obtain⟨v0,v1,rfl⟩:=e;exact q.2 x d y v0 v1⟩⟩
open PySem PySem.Spec PySem.Calls PyProof.Rows
theorem Am.tup{K:W.Frag}(e:Am H H')(h:Gr K H a xs):Gr K H' a xs:=by
 rcases h with (h | ⟨o,h⟩) | h
 ·exact .inl<|.inl<|e _ _ h
 ·exact .inl<|.inr ⟨o,e _ _ h⟩
 ·exact .inr h
inductive TupAt(H:Hp)(zs:List V)(y:V):Prop
 | mk(T:_):y=.ref T->H T=some (.tup zs)->TupAt H zs y
theorem TupAt.mono{a:List V}{y:V}(s:Am H H')(h:TupAt H a y):TupAt H' a y:=let ⟨T,e,q⟩:=h;⟨T,e,s _ _ q⟩
theorem TupAt.upd{a ys c:List V}{y:V}(h:TupAt H a y)(b:H D=some (.lst ys)):TupAt (upd H D<|.lst c) a y:=by
 obtain⟨T,e,q⟩:=h;refine⟨T,e,?_⟩;rw[Aw λz=>by rw[z,b] at q;cases q];exact q
theorem By{α:Type}{f:α->List V}{l:List α}{ys c:List V}(h:Paired (λa y=>TupAt H (f a) y) l vs)(b:H D=some (.lst ys)):Paired (λa y=>TupAt (upd H D<|.lst c) (f a) y) l vs:=Paired.HW h λ_ _ q=>q.upd b
theorem Aq{α:Type}{f:α->List V}{l:List α}(s:Am H H')(h:Paired (λa y=>TupAt H (f a) y) l vs):Paired (λa y=>TupAt H' (f a) y) l vs:=Paired.HW h λ_ _ q=>q.mono s
theorem HJ{z:Str}{osc:Scope}{N:List Str}(b:X.env.scope=osc)(a:X.N=N)(h:Xm [x,z] (N) scope osc N=true):HS X x z scope:=by
 subst a;exact R7 b U h
section
variable{z:Str}
theorem Tv{a:Pos}{k:Nat}{c:Shared}{d:Hp}(b:X.calm=true)(S:HS X x z scope) :
  PG (J2 X x z scope C c d fp) (.Tuple [.Name x px,.Name z a] k pos) (Kv X.K 2<|Eb (Cm 0)<|Eb (Cm 1) Mw):=JN (n:=2) b<|DY (V4 S U)<|DY (V4 S U) HF
theorem OD{b:Pos}{k:Nat}{a:TI}(c:X.calm=true)(S:HS X x z scope)(hi:PI X (.Tuple [.Name x px,.Name z b] k mr) iter a)
  (f:∀C s₀ H₀ fp,M3 (J2 X x z scope C s₀ H₀ fp) mn tt) (g:∀C s₀ H₀ fp,PE (J2 X x z scope C s₀ H₀ fp) mw te) (h:∀x,foldedSetIterable iter X.env x=pure x:=by intro _;rfl) :
  PE X (.ListComp mw [⟨.Tuple [.Name x px,.Name z b] k mr,iter,mn,0⟩] scope pos) (Sw a (Kv X.K 2<|Eb (Cm 0)<|Eb (Cm 1) Mw) tt te):=LK (F:=λσ τ=>∃d e,τ=d::e::σ) (λ_=>⟨_,_,U⟩) (λ_ _ _ _ q=>q.g) c S hi (λ_ _ _ _=>Tv c S) f g h
end
section
variable{Q:VK}
theorem DW{K:W.Frag}(p:V->Bool)(f:V->V)(hl:De K H1 a xs)(e:xs.length<sizeLine)
  (g:∀x∈xs,∀H,Am H1 H->∀R:Bool->Hp->Prop,(∀H',Am H H'->R (p x) H')->tt (some x::σ) H R)
  (h:∀x∈xs,p x=true->∀H,Am H1 H->∀R:VK,(∀H',Am H H'->R (f x) H')->te (some x::σ) H R)
  (j:∀D H,H1 D=none->Am H1 H->H D=some (.lst<|(xs.filter p).map f)->Q (.ref D) H):Fz (bT K a) σ H1 Q tt te :=
 Hz p f e (λi H x b d=>⟨xs,x,b.seq hl,d⟩) (λi H y H' b _ c=>⟨c.1,c.2 xs<|b.seq hl⟩) (λH b=>⟨xs,b.seq hl,al _⟩) g h j
theorem NP{J:It}(p:V->Bool)(f:V->List V)(E:xs.length<sizeLine)
  (u:∀i H x,Am H1 H->xs[i]? = some x->J.go i H)(A:∀i H y H',Am H1 H->i<xs.length->J.yld i H y H'->H'=H/\xs[i]? = some y)(I:∀H,Am H1 H->J.stop xs.length H)
  (w:∀x∈xs,∀H,Am H1 H->∀R:Bool->Hp->Prop,(∀H',Am H H'->R (p x) H')->tt (some x::σ) H R)
  (B:∀x∈xs,p x=true->∀H,Am H1 H->∀R:VK,(∀y H',Am H H'->TupAt H' (f x) y->R y H')->te (some x::σ) H R)
  (C:∀D H ys,H1 D=none->Am H1 H->H D=some (.lst ys)->Paired (λx y=>TupAt H (f x) y) (xs.filter p) ys->Q (.ref D) H):Fz J σ H1 Q tt te:=by
 intro D q;have F:Am H1<|upd H1 D<|.lst []:=λb o e=>by rw[Aw (Ai e q)];exact e
 refine⟨λi m ys H=>m=xs.length - i/\i<=xs.length/\H D=some (.lst ys)/\Paired (λx y=>TupAt H (f x) y) ((xs.take i).filter p) ys/\Am H1 H,⟨xs.length,by simp,Nat.zero_le _,Aj,by simpa using Paired.nil,F⟩,?_⟩;rintro i m ys H ⟨rfl,L,k,l,g⟩;by_cases d:i<xs.length
 ·obtain⟨x,h⟩:∃x,xs[i]? = some x:=⟨xs[i],by simp[d]⟩;refine .inr ⟨u i H x g h,λy v r=>?_⟩;obtain⟨rfl,s⟩:=A i H y v g d r;rw[h] at s
  cases s;have t:x∈xs:=ah h;have n:ys.length<sizeLine:=by
   rw[<-l.length];refine aT (cc _ _)<|aT ?_ E
   rw[cy];omega
  refine w x t _ g _ λG c=>?_;by_cases a:p x=true
  ·rw[if_pos a];refine B x t a G (g.trans c) _ λy K j z=>?_;refine⟨j _ _<|c _ _ k,n,xs.length - (i+1),by omega,U,d,Aj,?_,λb o e=>?_⟩
   ·rw[take_succ_filter p xs i x h,if_pos a];exact (By (Aq (c.trans j) l)<|j _ _<|c _ _ k).snoc<|z.upd<|j _ _<|c _ _ k
   ·rw[Aw (Ai e q)];exact j _ _<|c _ _<|g _ _ e
  ·rw[if_neg a];refine⟨xs.length - (i+1),by omega,U,d,c _ _ k,?_,g.trans c⟩;rw[take_succ_filter p xs i x h,if_neg a,dE];exact Aq c l
 ·have e:i=xs.length:=by omega
  subst e;rw[dt] at l;exact .inl ⟨I H g,C D H ys q g k l⟩
theorem Ld{K:W.Frag}(p:V->Bool)(f:V->List V)(hl:De K H1 a xs)(e:xs.length<sizeLine)
  (g:∀x∈xs,∀H,Am H1 H->∀R:Bool->Hp->Prop,(∀H',Am H H'->R (p x) H')->tt (some x::σ) H R)
  (h:∀x∈xs,p x=true->∀H,Am H1 H->∀R:VK,(∀y H',Am H H'->TupAt H' (f x) y->R y H')->te (some x::σ) H R)
  (j:∀D H ys,H1 D=none->Am H1 H->H D=some (.lst ys)->Paired (λx y=>TupAt H (f x) y) (xs.filter p) ys->Q (.ref D) H):Fz (bT K a) σ H1 Q tt te :=
 NP p f e (λi H x b d=>⟨xs,x,b.seq hl,d⟩) (λi H y H' b _ c=>⟨c.1,c.2 xs<|b.seq hl⟩) (λH b=>⟨xs,b.seq hl,al _⟩) g h j
theorem Od{α β:Type}{F:α->β->Prop}(g:Nat->α):∀{n:Nat}{l:List α}{ys:List β},Paired F l ys->l=(List.range n).map g->Paired (λi y=>F (g i) y) (List.range n) ys:=by
 intro n;have key:∀(js:List Nat)(ys:List β),Paired F (js.map g) ys->Paired (λi y=>F (g i) y) js ys:=by
  intro js
  induction js with
  |nil=>intro ys h;cases h;exact .nil
  |cons j js c =>
   intro ys h
   cases h with
   |cons a b=>exact .cons a<|c _ b
 intro l ys h e;subst e;exact key _ _ h
theorem VP(f:Nat->List V)(m:n<sizeLine)
  (r:∀i:Nat,i<n->∀H,Am H1 H->∀R:VK,(∀y H',Am H H'->TupAt H' (f i) y->R y H')->te (some (.int (i:Int))::σ) H R)
  (t:∀D H ys,H1 D=none->Am H1 H->H D=some (.lst ys)->Paired (λi y=>TupAt H (f i) y) (List.range n) ys->Q (.ref D) H):Fz (Zi 0 n) σ H1 Q QQ te:=by
 let g:V->Nat:=λv=>match v with | .int i=>i.toNat | _=>0
 have d:∀i:Nat,i<n->((List.range n).map λ(i:Nat)=>V.int (i:Int))[i]? = some (.int i):=λi a=>by simp[a]
 refine NP (xs:=(List.range n).map λ(i:Nat)=>V.int (i:Int)) (λ_=>true) (λv=>f<|g v) (by simpa using m) (λi H x _ b=>?_) (λi H y H' _ a q=>?_) (λH _=>?_) (λx b H h R k=>k H<|Am.refl H) (λx b _ H h R k=>?_)<|λD H ys j s o e=>?_
 ·have:i<((List.range n).map λ(i:Nat)=>V.int (i:Int)).length:=(ag.mp b).1;show i<n;simpa using this
 ·obtain⟨p,l⟩:=q;have c:i<n:=by simpa using a
  refine⟨p,?_⟩;rw[d i c,l,hZ]
 ·show n<=_;simp
 ·obtain⟨i,a,rfl⟩:=ar.mp b;exact r i (fR.mp a) H h R k
 ·rw[bq.mpr (λ_ _=>rfl)] at e;exact t D H ys j s o<|Od (F:=λx y=>TupAt H (f<|g x) y) (λi=>V.int (i:Int)) e U
theorem Yz{K:W.Frag}{ys:List V}(f:V->V->V)(h:Gr K H1 a xs)(s:Gr K H1 b ys)(hl:xs.length=ys.length)(I:xs.length<sizeLine)
  (w:∀(i:Nat) x y,xs[i]? = some x->ys[i]? = some y->∀H,Am H1 H->∀R:VK,(∀H',Am H H'->R (f x y) H')->te (some x::some y::σ) H R)
  (A:∀D H,H1 D=none->Am H1 H->H D=some (.lst<|List.zipWith f xs ys)->Q (.ref D) H):Ga (yN K a b) σ H1 Q (Kv K 2<|Eb (Cm 0)<|Eb (Cm 1) Mw) QQ te:=by
 intro D j;have C:Am H1<|upd H1 D<|.lst []:=λb o e=>by rw[Aw (Ai e j)];exact e
 refine⟨λi m l H=>m=xs.length - i/\i<=xs.length/\l=(List.zipWith f xs ys).take i/\H D=some (.lst l)/\Am H1 H,⟨xs.length,by simp,Nat.zero_le _,by simp,Aj,C⟩,?_⟩;rintro i m l H ⟨rfl,G,rfl,p,c⟩;have g:(List.zipWith f xs ys).length=xs.length:=by rw[jp];omega
 by_cases d:i<xs.length
 ·have B:xs[i]? = some xs[i]:=ae d;have u:ys[i]? = some ys[i]:=ae<|hl ▸ d
  refine .inr ⟨⟨xs,ys,_,_,c.tup h,c.tup s,B,u⟩,λv E n J L=>?_⟩;obtain⟨T,z,rfl,n⟩:=n;obtain⟨x,y,t,q,rfl⟩:=n xs ys (c.tup h)<|c.tup s;have k:Am H<|upd H T<|.tup [x,y]:=λb o e=>by rw[Aw (Ai e z)];exact e
  refine⟨T,[x,y],U,ma Aj,U,x,[y],U,y,[],U,U,⟨_,_,U⟩,?_⟩;unfold QQ;dsimp only;rw[if_pos U];refine w i x y t q _ (c.trans k) _ λF r=>?_;refine⟨r _ _<|k _ _ p,?_,xs.length - (i+1),by omega,U,d,?_,Aj,λb o e=>?_⟩
  ·rw[cy,g];omega
  ·rw[cr,gE,t,q];rfl
  ·rw[Aw (Ai e j)];exact r _ _<|k _ _<|c _ _ e
 ·have e:i=xs.length:=by omega
  subst e;rw[<-g,dt] at p;exact .inl ⟨⟨xs,c.tup h,al _⟩,A D H j c p⟩
theorem Vf{K:W.Frag}(p:Nat->V->Bool)(f:Nat->V->V)(n:De K H1 a xs)(F:xs.length<sizeLine)
  (z:∀(i:Nat) x,xs[i]? = some x->∀H,Am H1 H->∀R:Bool->Hp->Prop,(∀H',Am H H'->R (p i x) H')->tt (some (.int (i:Int))::some x::σ) H R)
  (A:∀(i:Nat) x,xs[i]? = some x->p i x=true->∀H,Am H1 H->∀R:VK,(∀H',Am H H'->R (f i x) H')->te (some (.int (i:Int))::some x::σ) H R)
  (C:∀D H,H1 D=none->Am H1 H->H D=some (.lst<|(xs.zipIdx.filter λq=>p q.2 q.1).map λq=>f q.2 q.1)->Q (.ref D) H):Ga (my K a) σ H1 Q (Kv K 2<|Eb (Cm 0)<|Eb (Cm 1) Mw) tt te:=by
 intro D r;have G:Am H1<|upd H1 D<|.lst []:=λb o e=>by rw[Aw (Ai e r)];exact e
 refine⟨λi m t H=>m=xs.length - i/\i<=xs.length/\t=(((xs.zipIdx.take i).filter λq=>p q.2 q.1).map λq=>f q.2 q.1)/\H D=some (.lst t)/\Am H1 H,⟨xs.length,by simp,Nat.zero_le _,by simp,Aj,G⟩,?_⟩;rintro i m t H ⟨rfl,L,rfl,l,c⟩;by_cases d:i<xs.length
 ·have E:xs[i]? = some xs[i]:=ae d;refine .inr ⟨⟨xs,_,c.seq n,E⟩,λv I u M N=>?_⟩;obtain⟨T,B,rfl,u⟩:=u;obtain⟨x,s,rfl⟩:=u xs<|c.seq n;have g:Am H<|upd H T<|.tup [.int (i:Int),x]:=λb o e=>by rw[Aw (Ai e B)];exact e
  have y:xs.zipIdx[i]? = some (x,i):=by rw[List.getElem?_zipIdx,s];simp
  have k:(((xs.zipIdx.take i).filter λq=>p q.2 q.1).map λq=>f q.2 q.1).length<sizeLine:=by
   rw[af];refine aT (cc _ _)<|aT ?_ F
   rw[cy,List.length_zipIdx];omega
  refine⟨T,[.int (i:Int),x],U,ma Aj,U,_,[x],U,x,[],U,U,⟨_,_,U⟩,?_⟩;refine z i x s _ (c.trans g) _ λO h=>?_;by_cases j:p i x=true
  ·rw[if_pos j];refine A i x s j _ (c.trans<|g.trans h) _ λJ w=>?_;refine⟨w _ _<|h _ _<|g _ _ l,k,xs.length - (i+1),by omega,U,d,?_,Aj,λb o e=>?_⟩
   ·rw[take_succ_filter (λq:V×Nat=>p q.2 q.1) xs.zipIdx i (x,i) y,if_pos j,cq];rfl
   ·rw[Aw (Ai e r)];exact w _ _<|h _ _<|g _ _<|c _ _ e
  ·rw[if_neg j];refine⟨xs.length - (i+1),by omega,U,d,?_,h _ _<|g _ _ l,c.trans<|g.trans h⟩;rw[take_succ_filter (λq:V×Nat=>p q.2 q.1) xs.zipIdx i (x,i) y,if_neg j,dE]
 ·have e:i=xs.length:=by omega
  subst e;rw[List.take_of_length_le (by simp)] at l;exact .inl ⟨⟨xs,c.seq n,al _⟩,C D H r c l⟩
end
theorem Ly{K:W.Frag}{g:TG}{D:Ends}(b:Nat->St->Hp->Prop)(k:b 0 σ H)(hl:∀i σ H,i<=xs.length->b i σ H->De K H a xs)
  (p:∀(i:Nat) x σ H T,xs[i]? = some x->b i σ H->H T=none->g (.ref T) σ (upd H T<|.tup [.int (i:Int),x]) λσ' H'=>tb { D with nx:=b<|i+1,ct:=b<|i+1,bk:=D.nx } σ' H')
  (n:∀σ H,b xs.length σ H->D.nx σ H):∃W:Nat->Nat->St->Hp->Prop,(∃m,W 0 m σ H)/\∀i m σ H,W i m σ H ->
   ((my K a).stop i H/\D.nx σ H) \/ ((my K a).go i H/\∃N:St->Hp->Prop,(∀σ H,N σ H->∃m',m'<m/\W (i+1) m' σ H)/\∀x H',(my K a).yld i H x H'->g x σ H' λσ' uj=>tb { D with nx:=N,ct:=N,bk:=D.nx } σ' uj):=by
 refine⟨λi m σ H=>m=xs.length - i/\i<=xs.length/\b i σ H,⟨_,U,eJ _,k⟩,?_⟩;rintro i m σ H ⟨rfl,j,c⟩;by_cases d:i<xs.length
 ·refine .inr ⟨⟨xs,_,hl i σ H j c,ae d⟩,b<|i+1,λσ' H' h=>⟨xs.length - (i+1),by omega,U,d,h⟩,λv H' f=>?_⟩;obtain⟨T,o,rfl,f⟩:=f;obtain⟨x,l,rfl⟩:=f xs<|hl i σ H j c;exact p i x σ H T l c o
 ·have e:i=xs.length:=by omega
  subst e;exact .inl ⟨⟨xs,hl _ σ H j c,al _⟩,n σ H c⟩
structure sY(K:W.Frag)(C:Addr):Prop where
 ga:W.findIn K (.ref C) "__getattribute__" = some (some<|.builtin "BaseException.__getattribute__")
 gt:W.findIn K (.ref C) "__getattr__" = some none
 mb:W.mroIn K C (.type "BaseException")=some true
 hd:W.hasDictIn K C=true
 ca:W.findIn K (.ref C) "__class__" = some (some<|.builtin "object.__class__")
 cg:W.specialIn K (.builtin "object.__class__") "__get__" = some (some<|.builtin "getset_descriptor.__get__")
 ct:W.takesIn K (.builtin "object.__class__")=some true
 mo:W.mroIn K C (.type "object")=some true
abbrev RT:List Value:=[.type "ValueError",.type "Exception",.type "BaseException",.type "object"]
section
variable{w:World}
theorem GQ.none_of(x:GQ P w H h)(e:h.get? a=none):H a=none:=by
 cases q:H a with
 |none=>rfl
 |some u =>
  exfalso;obtain⟨o,c⟩:∃o,h.get? a=some o:=by
   have z:=x a u q
   cases u with
   |lst d=>obtain⟨_,_,_,_,e⟩:=z;exact⟨_,e⟩
   |tup d=>obtain⟨_,_,_,o,e,_⟩:=z;exact⟨_,e⟩
   |dK b=>obtain⟨_,_,_,_,o,_,_,e,_⟩:=z;exact⟨_,e⟩
   |dT b=>obtain⟨_,_,_,_,o,_,_,e,_⟩:=z;exact⟨_,e⟩
   |set S n=>obtain⟨o,_,_,_,e,_⟩:=z;exact⟨_,e⟩
   |ins C g fs=>obtain⟨_,_,_,e,_⟩:=z;exact⟨_,e⟩
   |own y=>obtain⟨_,e⟩:=z;exact⟨_,e⟩
   |xd fs=>obtain⟨_,⟨_,_,_,e,_⟩,_⟩:=z;exact⟨_,e⟩
   |rng lo k=>obtain⟨_,_,_,e⟩:=z;exact⟨_,e⟩
   |frz j u=>obtain⟨e,_⟩:=z;exact⟨_,e⟩
   |tbl i=>exact⟨_,(show h.get? a=some _ from z)⟩
   |met f y=>exact⟨_,(show h.get? a=some _ from z)⟩
   |ext φ=>obtain⟨_,⟨_,e⟩,_⟩:=z;exact⟨_,e⟩
  rw[e] at c;cases c
end
theorem Ug{K:W.Frag}(X:K.In h)(q:W.excIn K C RT "ValueError.__new__" = true) :
  ∃bm N nm qn bs hdct sn sub ab col dd k0 k1 k2 k3 k5 mN,h.get? C=some (excClassObj nm qn C N bs bm hdct sn sub ab col dd k0 k1 k2 k3 k5 "ValueError.__new__")/\h.Ns N mN/\mN "__init__" = none/\OwnTail h RT bm:=by
 unfold W.excIn at q;split at q
 ·rename_i dd k g m;split at q
  ·rename_i s bm k0 k1 k2 k3 n k5 f d;simp only[Bool.and_eq_true,beq_iff_eq,Bool.not_eq_true'] at q;obtain⟨⟨⟨⟨⟨rfl,rfl⟩,e⟩,j⟩,a⟩,c⟩:=q;obtain⟨nm,bs,i,o,qn,p,sn,sub,ab,col,r⟩:=k;dsimp only at f e a c;subst f e;have b:g = #[k0,k1,k2,k3,some<|.builtin "ValueError.__new__",k5]:=by
    obtain⟨l⟩:=g;simp only at d;rw[d]
   subst b;exact⟨bm,o,nm,qn,bs,p,sn,sub,ab,col,dd,k0,k1,k2,k3,k5,_,X _ _ m,.of_isNs<|W.isNs_of_in X a,W.nsMap_none_of_in X a c,W.tail_of_in X j⟩
  ·cases q
 ·cases q
def V7:List V->List V->Bool
 |[],[]=>true
 |x::xs,y::ys=>Oc x y && V7 xs ys
 |_,_=>false
theorem Ni:∀(xs ys:List V),xs.length=ys.length->((List.range xs.length).all λj=>Oc (xs.getD j .non)<|ys.getD j .non)=V7 xs ys
 |[],[],_=>rfl
 |x::xs,y::ys,h=>by
  have a:=Ni xs ys<|by simpa using h
  rw[bp,List.range_succ_eq_map,List.all_cons,List.all_map];show (Oc x y && _)=(Oc x y && V7 xs ys);rw[<-a];rfl
 |[],_::_,h=>by simp at h
 |_::_,[],h=>by simp at h
theorem Ua:∀(xs ys:List V),xs.length≠ys.length->V7 xs ys=false
 |[],[],h=>absurd U h
 |x::xs,y::ys,h=>by
  show (Oc x y && V7 xs ys)=false;rw[Ua xs ys (λe=>h<|by simp[e]),Bool.and_false]
 |[],_::_,_=>rfl
 |_::_,[],_=>rfl
theorem Qn{x:V}(h:Et x=true):Oc x x=true:=by
 cases x with
 |non=>rfl
 |bl b=>simp[Oc]
 |int i=>simp[Oc]
 |str z=>simp[Oc]
 |_=>exact absurd (show false=true from h) Bool.false_ne_true
theorem Ui(h:xs.all Et=true)(a:j<xs.length):Et (xs.getD j .non)=true:=by
 have e:xs.getD j .non=xs[j]:=by simp[a]
 rw[e];exact fb.mp h _<|eR a
theorem Gm{us:List Value}(r:Vals xs us)(a:j<us.length):RelV (xs.getD j .non) us[j]:=by
 have hl:=r.length;have c:xs[j]? = some xs[j]:=by simp[hl,a]
 obtain⟨u,b,d⟩:=r.get c;rw[ae a] at b
 cases b;have e:xs.getD j .non=xs[j]:=by simp[hl,a]
 rw[e];exact d
inductive rG(K:W.Frag)(neg:Bool)(x:V)(y:V)(H:Hp)(Q:VK):Prop
 | mk(p q xs ys:_):x=.ref p->y=.ref q->De K H p xs->De K H q ys->xs.all Et=true->ys.all Et=true->Q (.bl (if neg then !V7 xs ys else V7 xs ys)) H->rG K neg x y H Q
theorem Ri(m:X.A.units<cLine):G7 X (compareOp .Eq)<|rG X.K false:=by
 intro G s σ H x y v u Q I B F h;obtain⟨p,q,b,a,rfl,rfl,E,o,n,z,k⟩:=h
 cases B
 cases F;obtain⟨d,r,g,J⟩:=I.list E;obtain⟨A,i,l,D⟩:=I.list o;have w:=r.length;have K:=i.length;by_cases hl:b.length=a.length
 ·refine SeqAt.eq_listAt (e:=λj=>Oc (b.getD j .non)<|a.getD j .non) g.isList l.isList (by simp;omega) m (λj t C=>?_) ⟨.bl<|V7 b a,H,I,?_,k⟩
  ·have f:j<d.length:=by simpa using t
   have c:j<A.length:=by simpa using C
   simp only[List.getElem_toArray];exact O8 (Gm r f) (Gm i c) (Ui n<|by omega)<|Ui z<|by omega
  ·rw[bX,<-w,Ni b a hl];exact rfl
 ·refine SeqAt.eq_list_lengthsAt g.isList l.isList (by simp;omega) m ⟨.bl<|V7 b a,H,I,?_,k⟩;rw[Ua b a hl];exact rfl
end L2
namespace Wd
def mk(l:List Nat):Nat:=l.foldl (λs n=>s ||| 2 ^ n) 0
theorem U3(l:List Nat):∀(s i:Nat),(l.foldl (λs n=>s ||| 2 ^ n) s).testBit i=(s.testBit i || decide (i∈l)):=by
 induction l with
 |nil=>intro s i;simp
 |cons n l b =>
  intro s i;rw[List.foldl_cons,b,Nat.testBit_or,Nat.testBit_two_pow];by_cases h:n=i
  ·subst h;simp
  ·have a:¬ i=n:=λe=>h e.symm;simp[h,a]
theorem HX(l:List Nat)(i:Nat):(mk l).testBit i=decide (i∈l):=by
 unfold mk;rw[U3];simp
def len(n:Nat):Nat:=if n=0 then 0 else n.log2+1
theorem YB(h:n.testBit i=true):i<len n:=by
 unfold len;have a:n≠0:=by intro e;subst e;simp at h
 rw[if_neg a];have b:2 ^ i<=n:=Nat.ge_two_pow_of_testBit h;have c:i<=n.log2:=(Nat.le_log2 a).mpr b;omega
def mem(n:Nat):List Nat:=(List.range<|len n).filter n.testBit
theorem mem_iff:i∈mem n ↔ n.testBit i=true:=by
 unfold mem;rw[bb,fR];exact⟨λh=>h.2,λh=>⟨YB h,h⟩⟩
theorem HB(n:Nat):(mem n).Pairwise (· < ·):=List.Pairwise.filter _ List.pairwise_lt_range
theorem Mx{k:Nat}(h:n<2 ^ k):len n<=k:=by
 unfold len;split
 ·omega
 ·rename_i a;have:n.log2<k:=(Nat.log2_lt a).mpr h;omega
theorem Mj:∀{a b:List Nat},a.Pairwise (· < ·)->b.Pairwise (· < ·)->(∀i,i∈a ↔ i∈b)->a=b
 |[],[],_,_,_=>rfl
 |[],y::b,_,_,h=>absurd ((h y).mpr List.mem_cons_self)<|by simp
 |x::a,[],_,_,h=>absurd ((h x).mp List.mem_cons_self)<|by simp
 |x::a,y::b,f,d,h=>by
  rw[List.pairwise_cons] at f d;have j:x=y:=by
   have k:=(h x).mp bg;have l:=(h y).mpr bg;rcases ce.mp k with e | e
   ·exact e
   ·rcases ce.mp l with g | g
    ·exact g.symm
    ·have:=d.1 x e;have:=f.1 y g;omega
  subst j;congr 1;refine Mj f.2 d.2 λi=>⟨λc=>?_,λc=>?_⟩
  ·rcases ce.mp ((h i).mp (ba _ c)) with e | e
   ·have:=f.1 i c;omega
   ·exact e
  ·rcases ce.mp ((h i).mpr (ba _ c)) with e | e
   ·have:=d.1 i c;omega
   ·exact e
theorem Y_{l:List Nat}(h:l.Pairwise (· < ·)):mem (mk l)=l :=
 Mj (HB _) h λi=>by rw[mem_iff,HX];simp
def mv(n:Nat)(k:Int)(c:Nat):Nat:=(if 0<k then n * 2 ^ k.toNat else n / 2 ^ (-k).toNat) % 2 ^ c
theorem MN(n:Nat)(k:Int)(c i:Nat):(mv n k c).testBit i=(decide (i<c) && (decide (0<=(i:Int) - k) && n.testBit ((i:Int) - k).toNat)):=by
 unfold mv;rw[Nat.testBit_mod_two_pow];congr 1;split
 ·rename_i h;rw[Nat.testBit_mul_two_pow];by_cases b:k.toNat<=i
  ·have e:((i:Int) - k).toNat=i - k.toNat:=by omega
   have a:(0:Int)<=i - k:=by omega
   rw[decide_eq_true a,e];simp[b]
  ·have a:¬ (0:Int)<=i - k:=by omega
   rw[decide_eq_false a];simp[b]
 ·rename_i h;rw[Nat.testBit_div_two_pow];have e:((i:Int) - k).toNat=i+(-k).toNat:=by omega
  have a:(0:Int)<=i - k:=by omega
  rw[decide_eq_true a,e];simp
def stay(l:List Nat)(k:Int)(c:Nat):List Nat:=l.filter λn=>decide (0<=(n:Int)+k) && decide ((n:Int)+k<c)
theorem WN{l:List Nat}(a:∀n∈l,n<1200):mk l<2 ^ 1200:=by
 refine iP _ λi b=>?_;rw[HX];exact decide_eq_false λh=>absurd (a i h)<|by omega
theorem Z3(l:List Nat)(n:Nat):mk (l++[n])=mk l ||| 2 ^ n:=by
 unfold mk;rw[List.foldl_append];rfl
end Wd
namespace L2
open PySem PySem.Spec PySem.Calls PyProof.Rows
theorem O3:∀{xs:List V}{us:List Value},xs.length=us.length->(∀(j:Nat) x u,xs[j]? = some x->us[j]? = some u->RelV x u)->Vals xs us
 |[],[],_,_=>.nil
 |[],_::_,h,_=>by simp at h
 |_::_,[],h,_=>by simp at h
 |x::xs,u::us,h,f=>.cons (f 0 x u U U)<|O3 (by simpa using h) λj y v b a=>f (j+1) y v (by simpa using b)<|by simpa using a
section
variable{k1:Nat}
theorem Mm(P:X.calm=true):Fe X (.type "list") (λxs H Q=>∃(a:Addr)(kvs:List<|Key × V)(js:List Int),xs=[V.ref a]/\H a=some (.dK kvs)/\kvs.map (·.1)=js.map Sum.inl/\∀l,H l=none->Q (.ref l) (upd H l<|.lst<|js.map V.int)):=by
 intro a8 s σ H xs us Q I r h;obtain⟨a,kvs,js,rfl,S,G,q⟩:=h;obtain⟨u,rfl,ru⟩:=vals1 r
 cases ru;obtain⟨hz,lo,n,c,o,L,ep,g,w,z,e4,T,e6⟩:=I.hok a _ S;have hl:kvs.length=n.length:=Paired.length c;have B:s.heap.DictAt (Bs X.prog X.w) a n ep:=⟨o,L,g,w,z,e4,T,e6⟩;refine W.kdl_call (W.kdl_dict (knd:=Bs X.prog X.w) (kvs:=n) (ep:=ep) lo) (I.ok.hd P) B (by omega) ?_;intro h' R v c' hk J E;have K:js.length=n.length:=by
  have:=congrArg List.length G;rw[af,af] at this;omega
 have Y:Vals (js.map V.int) v.toList:=by
  refine O3 (by have h1:v.toList.length=v.size:=Array.length_toList;have h2:=E.1;rw[af];omega) λj x u D F=>?_;rw[Array.getElem?_toList] at F;obtain⟨k,y,C,UM⟩:=E.2 j u F;rw[am] at D;obtain⟨i,O,rfl⟩:=av.mp D;have g:(kvs.map (·.1))[j]? = some (Sum.inl i):=by rw[G,am,O];rfl
  rw[am] at g;obtain⟨kv,N,Z⟩:=av.mp g;have f:∀{l:List (Key × V)}{m:List (Key × Value)},KV l m->∀{j:Nat} {p q},l[j]? = some p->m[j]? = some q->p.1=q.1:=by
   intro l m h;unfold KV at h
   induction h with
   |nil=>intro j p q d;simp at d
   |cons a b M =>
    intro j p q d A
    cases j with
    |zero =>
     simp at d A;subst d A;exact a.1
    |succ j=>exact M (by simpa using d)<|by simpa using A
  have w:=f c N C;rw[Z] at w;have z:k=Sum.inl i:=w.symm;subst z;rcases CV (show Jw (Sum.inl i) u=true from UM) with⟨i',t,e,rfl⟩ | ⟨x,t,e,_⟩
  ·cases e;exact⟨t,U⟩
  ·cases e
 refine⟨.ref s.heap.objs.size,_,I.laid (t':=R) (o:=.lst<|js.map V.int) hk (Nat.le_refl _) ⟨by rw[List.length_map];omega,v.toList,c',Y,by simpa using J⟩,U,q _<|I.hok.fresh<|Nat.le_refl _⟩
theorem Qg:vR X "int.bit_length" (λx xs H Q=>∃i,x=V.int i/\xs=[]/\Q (.int<|Builtin.Int.intBits i) H):=by
 intro c s σ H x xs v b Q I a r h;obtain⟨i,rfl,rfl,q⟩:=h;obtain⟨t,rfl⟩:=a
 cases r;exact PyProof.Rows.call_int_bit_length ⟨.int _,H,I.tok _,⟨_,U⟩,q⟩
end
theorem Iv(a b:Nat):Builtin.bitOr (a:Int) (b:Int)=((a ||| b:Nat):Int):=by
 have d:¬ 0<=Builtin.bitNot (a:Int):=by unfold Builtin.bitNot;omega
 have e:¬ 0<=Builtin.bitNot (b:Int):=by unfold Builtin.bitNot;omega
 have c:∀x:Int,Builtin.bitNot (Builtin.bitNot x)=x:=λx=>by unfold Builtin.bitNot;omega
 unfold Builtin.bitOr;rw[bitAnd_nn d e,c,c,c];simp
theorem Mt(a b:Nat):Builtin.bitAnd (a:Int) (b:Int)=((a &&& b:Nat):Int):=by
 rw[bitAnd_pp (ip a) (ip b)];simp
theorem Ke(n:Nat):Builtin.Int.intBits (n:Int)=Wd.len n:=by
 unfold Builtin.Int.intBits Wd.len;by_cases h:n=0
 ·subst h;rfl
 ·have a:((n:Int) == 0)=false:=by simpa using h
  rw[a,if_neg h];simp
theorem Ih(k:Nat):(2:Int) ^ k=((2 ^ k:Nat):Int):=by simp
end L2
namespace Wd
open PySem
abbrev Zy(xs:Array Nat):Prop:=xs.toList.Pairwise (· < ·)
theorem R4{xs:Array Nat}(r:Zy xs){k:Nat}(h:i<k)(a:k<xs.size):xs.getD i 0<xs.getD k 0:=by
 have b:i<xs.size:=ko h a;have:=(List.pairwise_iff_getElem.mp r) i k (by simpa using b) (by simpa using a) h;simpa [Array.getD,b,a] using this
structure Cut(xs:Array Nat)(j p:Nat):Prop where
 le:p<=xs.size
 lo:∀i,i<p->xs.getD i 0<j
 hi:∀i,p<=i->i<xs.size->j<=xs.getD i 0
theorem Le{xs:Array Nat}(r:Zy xs)(j:Nat):∀(fuel lo hi:Nat),hi<=xs.size->hi - lo<=fuel->lo<=hi->(∀i,i<lo->xs.getD i 0<j)->(∀i,hi<=i->i<xs.size->j<=xs.getD i 0)->Cut xs j (SetTable.below.go xs j fuel lo hi)
 |0,lo,hi,c,l,n,a,b=>by
  have e:lo=hi:=by omega
  subst e;exact⟨c,a,b⟩
 |fuel+1,lo,hi,c,l,n,a,b=>by
  unfold SetTable.below.go;split
  ·rename_i h;have g:(lo+hi) / 2<xs.size:=by omega
   have e:xs.getD ((lo+hi) / 2) j=xs.getD ((lo+hi) / 2) 0:=by simp[Array.getD,g]
   dsimp only;rw[e];by_cases f:xs.getD ((lo+hi) / 2) 0<j
   ·rw[if_pos f];refine Le r j fuel ((lo+hi) / 2+1) hi c (by omega) (by omega) (λi d=>?_) b;by_cases q:i=(lo+hi) / 2
    ·rw[q];exact f
    ·have:=R4 r (i:=i) (k:=(lo+hi) / 2) (by omega) g;omega
   ·rw[if_neg f];refine Le r j fuel lo ((lo+hi) / 2) (by omega) (by omega) (by omega) a λi d m=>?_;by_cases q:i=(lo+hi) / 2
    ·rw[q];omega
    ·have:=R4 r (i:=(lo+hi) / 2) (k:=i) (by omega) m;omega
  ·have e:lo=hi:=by omega
   subst e;exact⟨c,a,b⟩
theorem N5{xs:Array Nat}(r:Zy xs)(j:Nat):Cut xs j (SetTable.below xs j) :=
 Le r j xs.size 0 xs.size (al _) (by omega) (eJ _) (λi h=>absurd h<|iA _) (λi b a=>absurd a<|by omega)
theorem Rr{xs:Array Nat}(r:Zy xs)(h:xs[SetTable.below xs j]?≠some j):j ∉ xs.toList:=λd=>by
 have c:=N5 r j;obtain⟨i,k,e⟩:=ge.mp d;have a:i<xs.size:=by simpa using k
 have f:xs.getD i 0=j:=by simpa [Array.getD,a] using e
 have b:SetTable.below xs j<=i:=by
  rcases Nat.lt_or_ge i (SetTable.below xs j) with q | q
  ·have:=c.lo i q;omega
  ·exact q
 have m:SetTable.below xs j<xs.size:=aT b a;have n:=c.hi _ (al _) m;have l:SetTable.below xs j=i:=by
  rcases Nat.lt_or_ge (SetTable.below xs j) i with q | q
  ·have:=R4 r q a;omega
  ·omega
 refine h ?_;have g:xs[i]=j:=by simpa [Array.getD,a] using f
 rw[l,Array.getElem?_eq_getElem a,g]
theorem RN{xs:Array Nat}(r:Zy xs)(h:xs[SetTable.below xs j]?≠some j):Zy<|SetTable.insertAt xs (SetTable.below xs j) j:=by
 have c:=N5 r j;have p:=Rr r h;show (SetTable.insertAt xs (SetTable.below xs j) j).toList.Pairwise _;rw[SetTable.toList_insertAt,List.pairwise_append,List.pairwise_cons];have g:∀a∈xs.toList.take (SetTable.below xs j),a<j:=λa f=>by
  obtain⟨i,l,e⟩:=ge.mp f;rw[cy] at l;have d:i<xs.size:=by simp at l;omega
  have:=c.lo i<|by omega
  simp[Array.getD,d] at this;rw[List.getElem_take] at e;rw[<-e];simpa using this
 have k:∀a∈xs.toList.drop (SetTable.below xs j),j<a:=λa f=>by
  obtain⟨i,l,e⟩:=ge.mp f;rw[lc] at l;have d:SetTable.below xs j+i<xs.size:=by simp at l;omega
  have:=c.hi (SetTable.below xs j+i) (lf _ _) d;simp[Array.getD,d] at this;rw[List.getElem_drop] at e;have o:j<=a:=by rw[<-e];simpa using this
  have n:j≠a:=λz=>p<|by rw[z];exact List.mem_of_mem_drop f
  omega
 exact⟨r.sublist<|kN _ _,⟨k,r.sublist<|List.drop_sublist _ _⟩,λa f b m=>by
  rcases ce.mp m with e | m
  ·rw[e];exact g a f
  ·have:=g a f;have:=k b m;omega⟩
theorem Vc{t:SetTable}(h:∀i,t.slot j≠.live i):t.place[SetTable.below t.place j]?≠some j:=λe=>by
 refine h (SetTable.below t.place j) ?_;unfold SetTable.slot;dsimp only;rw[e];simp
theorem JD(t:SetTable)(p:SetTable.Probe):(t.advance p).dummy=p.dummy:=by
 unfold SetTable.advance;split <;> rfl
theorem JH{t:SetTable}{f:Nat->Int}{h:Int}:∀(fuel:Nat)(p:SetTable.Probe)(j:Nat)(dm:Option Nat),(∀d,p.dummy=some d->t.slot d=.dummy)->SetTable.probe.go t f h fuel p=some (.empty j dm) ->
  t.slot j=.empty/\∀d,dm=some d->t.slot d=.dummy
 |0,p,j,dm,a,e=>by unfold SetTable.probe.go at e;cases e
 |fuel+1,p,j,dm,a,e=>by
  unfold SetTable.probe.go at e;split at e
  ·rename_i b
   cases e;exact⟨b,a⟩
  ·rename_i b;refine JH fuel _ j dm (λd q=>?_) e;rw[JD] at q
   cases q;exact b
  ·split at e
   ·cases e
   ·refine JH fuel _ j dm (λd q=>?_) e;rw[JD] at q;exact a d q
theorem Vi{t:SetTable}{h:Int}{d:Bool}(e:t.freeSlot h=some (j,d)):∀i,t.slot j≠.live i:=by
 unfold SetTable.freeSlot at e;split at e
 ·rename_i b c q;unfold SetTable.probe at q;obtain⟨f,k⟩:=JH _ _ _ _ (λd g=>by simp[SetTable.probeStart] at g) q
  cases c with
  |none=>cases e;intro i z;rw[show (none:Option Nat).getD b=b from rfl,f] at z;cases z
  |some a =>
   cases e;intro i z;rw[show (some a).getD b=a from rfl,k a U] at z
   cases z
 ·cases e
structure Good(t:SetTable)(led:Bool):Prop where
 led:t.led=led
 ris:t.plain=true->Zy t.place
theorem RL(a:Bool):Good (.fresh 0 0 a) a:=⟨U,λ_=>by simp[SetTable.fresh,Zy]⟩
theorem HR{t:SetTable}(g:Good t led)(n:Nat):Good (t.standIn n) led:=⟨g.led,λh=>by simp[SetTable.standIn] at h⟩
theorem b_{t:SetTable}(g:Good t led)(n:Nat):Good (t.orStandIn n) led:=by
 unfold SetTable.orStandIn;split
 ·exact g
 ·exact HR g n
theorem YZ{t:SetTable}(g:Good t led)(b:Array<|Int×Value)(h:Int)(x:Value):Good (layNew t b h x).2.1 led:=by
 unfold layNew;split
 ·rename_i a wd e;refine b_ (t:=(t.put a).1) ⟨g.led,λc=>?_⟩ _;exact RN (g.ris c)<|Vc<|Vi e
 ·exact HR g _
theorem V6{h g j:Nat}{plain:Bool}{k:Array Int}{t:SetTable}{o:Array Nat}(e:SetTable.laid h g j led plain k=some (t,o)):Good t led/\t.plain=plain:=by
 unfold SetTable.laid at e;simp only[Option.bind_eq_bind,Option.bind_eq_some_iff] at e;obtain⟨d,_,e⟩:=e
 cases e;refine⟨⟨U,λ_=>?_⟩,U⟩;show List.Pairwise _ ((List.map _ _).toArray).toList;rw[hX,List.pairwise_filterMap];refine List.pairwise_lt_range.imp λ{a b} c x f y i=>?_;obtain⟨u,_,rfl⟩:=av.mp f;obtain⟨v,_,rfl⟩:=av.mp i;exact c
theorem Rg{t:SetTable}(g:Good t led)(b:Array<|Int×Value)(n:Nat):Good (relayAll t b n).2.1 led:=by
 unfold relayAll;split
 ·rename_i c a e;dsimp only;split
  ·have:=V6 e;rw[g.led] at this;exact this.1
  ·exact HR g _
 ·exact HR g _
open PySem PySem.Spec PyProof.Rows
def zO(prog:Program)(w:World)(h:Heap)(a:Addr)(led:Bool)(σ:List Int):Prop :=
 ∃es ep t,h.get? a=some { cls:=.type "set",dict:=none,data:=.set es ep t }/\ElemsOf (intKind prog w) es.toList/\(∀k,k∈σ ↔ ∃e∈es.toList,(intKind prog w).is k e.2=true)/\es.size=σ.length/\σ.Nodup /\
  σ.length<scanBound/\t.fits es.size=true/\Good t led
section
variable{w:World}{σ:List Int}{k:Int}{tk:Tok}
theorem TV{b es':Array (Int×Value)}{ep:Nat}{t t':SetTable}(c:h.get? a=some { cls:=.type "set",dict:=none,data:=.set b ep t }) :
  (h.update a<|Obj.putSet es' t').get? a=some { cls:=.type "set",dict:=none,data:=.set es' (ep+1) t' } :=
 (Heap.get?_update_self (Obj.putSet es' t') c<|by rw[putSet_of es' t' U];rfl).trans (by rw[putSet_of es' t' U])
end
section
variable{w:World}
abbrev Es(w:World):Bool:=!w.params.followText "set-order"
theorem tU(a:Value){Q1:vSP}(h:Q1 (.ref s.heap.objs.size) { s with heap:=s.heap.push { cls:=.type "set",dict:=none,data:=.set #[] 0 (.fresh 0 0<|Es w) } }) :
  codeAny (model prog w) A (.call (.builtin "set.__new__") ⟨[.type "set",a],[]⟩) (wants Q1 E) s:=by
 refine codeAny_of_tree ?_;show wpAny _ A.in1 (do checkBuiltinCall "set.__new__" ⟨[.type "set",a],[]⟩;again (.builtin "set.__new__" ⟨[.type "set",a],[]⟩)) _ _ s;refine wpAny_bind<|wpAny_of_eq (F.newCall_set_1 a)<|wpAny_pure ⟨plainId_quiet F.plain_set_new _,codeAny_builtin F.entry_set_new ?_⟩
 rw[Around.under_plainId F.plain_set_new _];unfold Builtin.«set.__new__» Builtin.Frozenset.newClass;have b:=sub_set_self;obtain⟨e,g,d,c,os⟩:=s;dsimp only
 wp_walk
 refine wpAny_askSetting<|wpAny_pure ?_
 dsimp only;simp only[newObj];exact wpAny_bind<|wpAny_alloc<|wpAny_pure<|wpAny_pure h
end
inductive Way(w:World)(a:Addr)(es:Array<|Int×Value)(ep:Nat)(t:SetTable)(h:Heap):(Nat->Value)->List Value->List Addr->Prop where
 |text(hb:w.params.followText "set-order" = true):Way w a es ep t h (λ_=>rawInt 0) ((pickOrder (w.params.setOrder a ep) es).toList.map (·.2)) []
 |drawn{tp:Addr}{ps:List Nat}(hb:w.params.followText "set-order" = false)(hp:ps.Perm (List.range es.size))(ht:∃n,h.get? tp=some { cls:=.type "tuple",data:=.seq (ps.map λ(i:Nat)=>rawInt i).toArray n }) :
   Way w a es ep t h (λ_=>.ref tp) (ps.map λi=>(es.getD i (0,.none)).2) [tp]
 | plain(hb:w.params.followText "set-order" = false)(hd:(!t.plain && decide (es.size > 1))=false)(hl:t.led=true)(hr:Zy t.place)(hs:t.place.size=es.size) :
   Way w a es ep t h (λi=>rawInt (if i=0 then 0 else t.place.getD (i - 1) 0+1:Nat)) (es.toList.map (·.2)) []
end Wd
namespace L2
open PySem PySem.Spec PyProof.Rows
def SetO(P:Program)(w:World)(a:Addr)(τ:List Int):HO:=.ext λh=>Wd.zO P w h a (Wd.Es w) τ
theorem Nt:∀{ns:List Int}{us:List Value},Vals (ns.map V.int) us->IntsAre us ns
 |[],_,r=>by cases r;exact .nil
 |n::ns,_,r=>by
  cases r with
  |cons r t =>
   obtain⟨a,rfl⟩:=r;exact .cons n a<|Nt t
theorem Jj:∀{ns:List Int}{us:List Value},IntsAre us ns->Vals (ns.map V.int) us
 |_,_,.nil=>.nil
 |_,_,.cons n t r=>.cons ⟨t,U⟩<|Jj r
theorem bQ:G7 X (binaryOp .LShift)<|rI (λi j=>0<=j/\(Builtin.Int.intBits i:Int)+j<=2 ^ 27) λi j=>.int<|i * 2 ^ j.toNat:=mG λ_ _ _ _ _ _ _ a q=>lshift_int a.1 a.2 q
def uJ(K:W.Frag)(a:Addr)(xs:List V):It :=
 ⟨λi H=>De K H a xs/\i<xs.length,λi H x H'=>H'=H/\xs[xs.length - 1 - i]? = some x,λi H=>De K H a xs/\i=xs.length⟩
theorem Wi{w:World}{K:W.Frag}(a g:Addr)(xs:List V):Turn P w K tg (uJ K a xs) [g] g (λi h=>h.IsRevIter g a<|(xs.length:Int) - 1 - (i:Nat)) where
 mem:=by simp
 obj:=λi h st b f=>by
  have e:b=g:=by simpa using f
  subst e;obtain⟨o,e,c,d⟩:=st;exact⟨o,e,λv z=>by rw[d] at z;cases z⟩
 keep:=λi h j st k=>st.at λo e=>k g (by simp) o e
 item:=by
  intro X q n D G i L s σ H E I l st C;subst q n D;obtain⟨J,ab⟩:=C;obtain⟨Y,S,p,hz⟩:=I.list J;have F:xs[xs.length - 1 - i]? = some (xs[xs.length - 1 - i]'(by omega)):=ae<|by omega
  obtain⟨u,R,ru⟩:=S.get F;obtain⟨A,y,M,t,m,B⟩:=l g<|by simp
  have e:(xs.length:Int) - 1 - ((i:Nat):Int)=((xs.length - 1 - i:Nat):Int):=by omega
  rw[e] at st;refine wpAny_pyNext_rev_item st p.isList (x:=u) (by simpa using R) λj r N=>?_;have T:Inv X L σ H { s with heap:=j }:=I.turned (t':=s.toks) (λb o f e=>(N.2 b f).trans e) A y t m B;have Z:((xs.length - 1 - i:Nat):Int) - 1=(xs.length:Int) - 1 - ((i+1:Nat):Int):=by omega
  rw[Z] at r;obtain⟨o,O,c,d⟩:=id r;exact⟨u,U,QC (s:={ s with heap:=j }) O c d (by decide) ⟨_,H,T,ru,⟨U,F⟩,r,λb f=>(l b f).1⟩⟩
 done:=by
  intro X q n D G i L s σ H E I l st C;subst q n D;obtain⟨J,rfl⟩:=C;obtain⟨A,y,M,t,m,B⟩:=l g<|by simp
  have e:(xs.length:Int) - 1 - ((xs.length:Nat):Int) = -1:=by omega
  rw[e] at st;exact wpAny_pyNext_rev_end (I.ok.hd G) st λj Q=>⟨U,I.turned (t':=s.toks) (λb o f e=>Q b o f e) A y t m B⟩
 self:=λ_ _ _ _ _ st h=>wpAny_pyIter_revIter st h
inductive eY(K:W.Frag)(R:It->Hp->Prop)(vs:List V)(H1:Hp):Prop
 | mk(a xs:_):vs=[.ref a]->De K H1 a xs->R (uJ K a xs) H1->eY K R vs H1
def yK(K:W.Frag)(ta:TA):TI:=λσ H R=>ta σ H λvs H1=>eY K R vs H1
theorem gF{l:Expr}{j:TA}{p:Pos}(r:Gl X "reversed")(C:X.mg "reversed" = none)(z:PA X [l] j)(m:starEach [l] X.env=[(false,eval l X.env)]:=by rfl):PI X tg (.Call (.Name "reversed" p) [l] [] pos)<|yK X.K j:=by
 intro n s σ H R I h;refine Call_<|Ib I r C PyProof.Rows.boot_reversed<|PyProof.Rows.callWith_type1 (CT (z pos n s σ H _ I h) λG d ⟨F,w,g,t,x⟩=>?_) m U
 obtain⟨a,i,e,k,q⟩:=x;subst e;obtain⟨u,rfl,D⟩:=vals1 t
 cases D;obtain⟨c,A,y,E⟩:=g.list k;refine call_reversed_list y.isList ?_;have f:(d.heap.push<|revObj a<|(c.toArray.size:Int) - 1).IsRevIter d.heap.objs.size a<|(c.toArray.size:Int) - 1:=⟨_,Heap.get?_push_size _ U,U,U⟩
 refine wpAny_pyIter_revIter (s:={ d with heap:=d.heap.push (revObj a<|(c.toArray.size:Int) - 1) }) f ?_;refine⟨d.heap.objs.size,[d.heap.objs.size],_,_,w,U,g.kept (t':=d.toks) λb o e=>Heap.get?_push_of_some _ e,Wi a _ i,?_,λb v=>?_,q⟩
 ·have hl:=A.length;have B:((c.toArray.size:Nat):Int) - 1=(i.length:Int) - 1 - ((0:Nat):Int):=by
   rw[bX];omega
  show (d.heap.push<|revObj a<|(c.toArray.size:Int) - 1).IsRevIter d.heap.objs.size a ((i.length:Int) - 1 - ((0:Nat):Int));rw[<-B];exact f
 ·have e:b=d.heap.objs.size:=by simpa using v
  subst e;exact g.Ou (al _)<|g.hok.fresh<|al _
theorem cX{K:W.Frag}{g:TG}{D:Ends}(b:Nat->St->Hp->Prop)(h:b 0 σ H)(hl:∀i σ H,i<=xs.length->b i σ H->De K H a xs)
  (l:∀i x σ H,i<xs.length->xs[xs.length - 1 - i]? = some x->b i σ H->g x σ H λσ2 H2=>tb { D with nx:=b<|i+1,ct:=b<|i+1,bk:=D.nx } σ2 H2) (f:∀σ H,b xs.length σ H->D.nx σ H) :
  ∃W:Nat->Nat->St->Hp->Prop,(∃m,W 0 m σ H)/\∀i m σ H,W i m σ H ->
   ((uJ K a xs).stop i H/\D.nx σ H) \/ ((uJ K a xs).go i H/\∃N:St->Hp->Prop,(∀σ' H',N σ' H'->∃m',m'<m/\W (i+1) m' σ' H')/\∀x H',(uJ K a xs).yld i H x H'->g x σ H' λσ2 H2=>tb { D with nx:=N,ct:=N,bk:=D.nx } σ2 H2):=by
 refine⟨λi m σ H=>m=xs.length - i/\i<=xs.length/\b i σ H,⟨xs.length,by simp,Nat.zero_le _,h⟩,?_⟩;rintro i m σ H ⟨rfl,k,p⟩;have q:=hl i σ H k p;by_cases c:i<xs.length
 ·refine .inr ⟨⟨q,c⟩,b<|i+1,λσ' H' j=>⟨xs.length - (i+1),by omega,U,by omega,j⟩,?_⟩;rintro x H' ⟨rfl,d⟩;exact l i x σ H' c d p
 ·have e:i=xs.length:=by omega
  subst e;exact .inl ⟨⟨q,U⟩,f σ H p⟩
open PySem PySem.Spec PySem.Calls PyProof.Rows
section
theorem range_any(bs:List Bool):((List.range bs.length).any λi=>(bs[i]?).getD false)=bs.any id:=by
 rw[db,fF,fF];constructor
 ·rintro⟨i,c,e⟩;have a:=fR.mp c;rw[ae a] at e;exact⟨_,eR a,e⟩
 ·rintro⟨b,d,e⟩;obtain⟨i,c,q⟩:=ge.mp d;refine⟨i,fR.mpr c,?_⟩;rw[ae c,q];exact e
theorem Lj(z:X.calm=true):Fe X (.builtin "any") (λxs H Q=>∃(p:Addr)(bs:List Bool),xs=[V.ref p]/\De X.K H p (bs.map V.bl)/\Q (.bl<|bs.any id) H):=by
 intro G s σ H xs N Q I r h;obtain⟨p,bs,rfl,D,q⟩:=h;obtain⟨u,rfl,j⟩:=vals1 r
 cases j;obtain⟨a,n,d,J⟩:=I.list D;have c:bs.length=a.length:=by have:=n.length;rw[af] at this;exact this
 have k:p<s.heap.objs.size:=by obtain⟨_,e,_⟩:=d.isList;exact Heap.lt_size e
 refine call_any_walk<|wpAny_pyIter_list d.isList ?_
 refine⟨s.heap.objs.size,[s.heap.objs.size,p],[s.heap.objs.size],a.toArray.size,_,_,λi=>(bs[i]?).getD false,U,Walks.list (A:=X.A.in1) (I.ok.hd z) _ p (cf k) a.toArray,
  ⟨⟨_,Heap.get?_push_size _ U,U,U⟩,d.isList.push _⟩,λi v M L K w g=>?_,λF B E=>?_⟩
 ·have t:a[i]? = some v:=by simpa using w
  have y:i<a.length:=(ag.mp t).1;have m:bs[i]? = some bs[i]:=by simp[c,y]
  obtain⟨u,l,j⟩:=n.get (i:=i) (x:=.bl bs[i])<|by rw[am,m];rfl
  rw[t] at l
  cases l
  cases j;dsimp only at g;rw[m] at g;exact wpAny_truthy_bool g
 ·have e:((List.range a.toArray.size).any λi=>(bs[i]?).getD false)=bs.any id:=by rw[bX,<-c];exact range_any bs
  rw[e];refine⟨.bl<|bs.any id,H,I.kept (t':=B) λb o f=>E b o (λC=>?_)<|Heap.get?_push_of_some _ f,U,q⟩;rw[ax.mp C] at f;exact gx _<|Heap.lt_size f
theorem H_(ns:List Int):∀j,j<=ns.length->preSum (λi=>(ns[i]?).getD 0) j=(ns.take j).sum
 |0,_=>rfl
 |j+1,h=>by
  have a:=H_ ns j<|by omega
  show preSum _ j+(ns[j]?).getD 0=_;rw[a,cr,ae<|by omega,fA];simp
theorem XN(M:Int):∀ns:List Int,(∀n∈ns,0<=n/\n<=M)->0<=ns.sum/\ns.sum<=ns.length * M
 |[],_=>by simp
 |n::r,h=>by
  have b:=h n<|bg ..
  have c:=XN M r λx a=>h x<|ba _ a
  have e:((n::r).length:Int) * M=r.length * M+M:=by rw[bp];push_cast;rw[Int.add_mul,Int.one_mul]
  rw[e,gI];omega
theorem Wh(D:X.calm=true):Fe X (.builtin "sum") (λxs H Q=>∃(p:Addr)(ns:List Int),xs=[V.ref p]/\De X.K H p (ns.map V.int)/\(∀n∈ns,0<=n/\n<=100000)/\ns.length<=1000/\Q (.int ns.sum) H):=by
 intro O s σ H xs T Q I r h;obtain⟨p,ns,rfl,G,d,hl,q⟩:=h;obtain⟨u,rfl,l⟩:=vals1 r
 cases l;obtain⟨a,y,g,R⟩:=I.list G;have c:ns.length=a.length:=by have:=y.length;rw[af] at this;exact this
 have f:p<s.heap.objs.size:=by obtain⟨_,e,_⟩:=g.isList;exact Heap.lt_size e
 refine call_sum_walk<|wpAny_pyIter_list g.isList ?_
 refine⟨s.heap.objs.size,[s.heap.objs.size,p],[s.heap.objs.size],a.toArray.size,_,_,λi=>(ns[i]?).getD 0,U,Walks.list (A:=X.A.in1) (I.ok.hd D) _ p (cf f) a.toArray,
  ⟨⟨_,Heap.get?_push_size _ U,U,U⟩,g.isList.push _⟩,λb d=>?_,λi v B=>?_,λj L=>?_,λN E t' K=>?_⟩
 ·rw[Heap.size_push];rcases ce.mp d with rfl | d
  ·exact gu _
  ·rw[ax.mp d];exact hV f
 ·have z:a[i]? = some v:=by simpa using B
  have C:i<a.length:=(ag.mp z).1;have d:ns[i]? = some ns[i]:=by simp[c,C]
  obtain⟨u,w,l⟩:=y.get (i:=i) (x:=.int ns[i])<|by rw[am,d];rfl
  rw[z] at w
  cases w;obtain⟨t,rfl⟩:=l;exact⟨t,by dsimp only;rw[d];rfl⟩
 ·have m:j<ns.length:=by rw[c];simpa using L
  rw[H_ ns (j+1) (by omega)];have P:=d ns[j] (eR m);have S:=XN 100000 (ns.take<|j+1) λn J=>d n<|hG J
  have M:(ns.take<|j+1).length<=1000:=by rw[cy];omega
  unfold InLong;dsimp only;rw[ae m];rw[Option.getD_some];refine⟨⟨?_,?_⟩,⟨?_,?_⟩⟩ <;> omega
 ·have e:preSum (λi=>(ns[i]?).getD 0) a.toArray.size=ns.sum:=by rw[bX,<-c,H_ ns _<|al _,dt]
  rw[e];refine⟨.int ns.sum,H,I.kept (t':=E) λb o k=>K b o (λF=>?_)<|Heap.get?_push_of_some _ k,⟨_,U⟩,q⟩;rw[ax.mp F] at k;exact gx _<|Heap.lt_size k
theorem Qq:∀{ts:List Str}{its:List Value},Vals (ts.map V.str) its->∃l:List<|Str×Tok,its=strValues l/\l.map (·.1)=ts
 |[],_,h=>by
  cases h;exact⟨[],U,U⟩
 |t::ts,_,h=>by
  cases h with
  |cons a b =>
   obtain⟨k,rfl⟩:=a;obtain⟨l,rfl,rfl⟩:=Qq b;exact⟨(t,k)::l,U,U⟩
theorem Z_:vR X "str.join" (λx xs H Q=>∃(z:Str)(p:Addr)(ts:List Str),x=V.str z/\xs=[V.ref p]/\De X.K H p (ts.map V.str)/\JoinOk z ts=true/\Q (.str<|Txt.join z ts) H):=by
 intro o s σ H x xs v n Q I g r h;obtain⟨z,p,ts,rfl,rfl,e,i,q⟩:=h;obtain⟨t,rfl⟩:=g;obtain⟨w,rfl,a⟩:=Vals.one r
 cases a;obtain⟨c,b,f,j⟩:=I.list e;obtain⟨l,rfl,d⟩:=Qq b;exact SC.join f.isList d i λm k=>⟨.str _,H,I.tok _,⟨_,U⟩,q⟩
structure KDict(K:W.Frag)(P:Params)(a:Addr):Prop where
 is:∃es n,K.lookup a=some ⟨.type "dict",none,.dict es n,#[]⟩/\W.KeysLit P es.toList
 lo:(a == sysModules)=false
inductive Yq(K:W.Frag)(P:Params)(Q:VK)(x:V)(y:V)(H2:Hp):Prop
 | mk(a z v u:_):x=.ref a->y=.str z->KDict K P a->W.nsIn K a z=some (some u)->RelV v u->Q v H2->Yq K P Q x y H2
def nF(K:W.Frag)(P:Params)(td ty:TE):TE:=λσ H Q=>td σ H λx H1=>ty σ H1 λy H2=>Yq K P Q x y H2
inductive dC(K:W.Frag)(P:Params)(neg:Bool)(Q:VK)(y:V)(x:V)(H2:Hp):Prop
 | mk(a z r:_):x=.ref a->y=.str z->KDict K P a->W.nsIn K a z=some r->Q (.bl (if neg then !r.isSome else r.isSome)) H2->dC K P neg Q y x H2
def uO(K:W.Frag)(P:Params)(neg:Bool)(ty td:TE):TE:=λσ H Q=>ty σ H λy H1=>td σ H1 λx H2=>dC K P neg Q y x H2
variable{o i:Expr}{td ty:TE}
theorem PB(m:PE X o td)(hi:PE X i ty)(p:gH i):PE X (.Subscript o i pos)<|nF X.K X.w.params td ty:=by
 intro b s σ H Q I h;refine TX jS p<|CT (m b s σ H _ I h) λu B ⟨x,e,A,E,g⟩=>CT (hi b B σ e _ A g) λJ L C=>?_
 obtain⟨y,l,d,D,a,z,v,w,q,j,G,k,f,r⟩:=C;subst q j
 cases E;obtain⟨t,rfl⟩:=D;obtain⟨⟨K,n,hl,F⟩,lo⟩:=G;have c:=W.mapOf_K (prog:=X.prog) d.G_ hl F;exact⟨c.typeIs,wpAny_getItem_of (strKind_is X.prog X.w z t) c (W.find_K hl k) ⟨v,l,d.tok _,f,r⟩⟩
theorem Xf(hi:PE X i ty)(k:PE X o td):PC X .In i o<|uO X.K X.w.params false ty td:=by
 intro b s σ H Q I h;refine CT (hi b s σ H _ I h) λD q ⟨y,d,p,w,e⟩=>CT (k b q σ d _ p e) λu F v=>?_;obtain⟨x,j,c,A,a,z,r,l,f,C,g,m⟩:=v;subst l f
 cases A;obtain⟨t,rfl⟩:=w;obtain⟨⟨E,n,hl,B⟩,lo⟩:=C;refine wpAny_in_of (strKind_is X.prog X.w z t) lo (W.mapOf_K (prog:=X.prog) c.G_ hl B) ?_;rw[W.find_K hl g];exact⟨.bl r.isSome,j,c.tok _,U,m⟩
theorem Vk(hi:PE X i ty)(k:PE X o td):PC X .NotIn i o<|uO X.K X.w.params true ty td:=by
 intro b s σ H Q I h;refine CT (hi b s σ H _ I h) λD q ⟨y,d,p,w,e⟩=>CT (k b q σ d _ p e) λu F v=>?_;obtain⟨x,j,c,A,a,z,r,l,f,C,g,m⟩:=v;subst l f
 cases A;obtain⟨t,rfl⟩:=w;obtain⟨⟨E,n,hl,B⟩,lo⟩:=C;refine wpAny_notIn_of (strKind_is X.prog X.w z t) lo (W.mapOf_K (prog:=X.prog) c.G_ hl B) ?_;rw[W.find_K hl g];exact⟨.bl<|!r.isSome,j,c.tok _,U,m⟩
end
end L2
namespace Og
open PySem L2
theorem Ar{K:W.Frag}(h:X.K=K):mz X<|aY K:=h ▸ lU
theorem Bk{K:W.Frag}(h:X.K=K):mz X<|gb K:=h ▸ Ei
theorem Mq{K:W.Frag}(h:X.K=K):G7 X (compareOp .In)<|uf K false:=h ▸ J_
structure R where
 w:Str
 nm:Str
 rest:List V
abbrev R.v(r:R):List V:=.str r.w :: .str r.nm::r.rest
def isNm(z:Str):Prop:=1<=z.length/\z.length<=8/\∀c∈z.cps.toList,97<=c/\c<=122
def Rows(H:Hp)(ρ:V->R)(vs:List V):Prop:=∀v∈vs,TupAt H (ρ v).v v
theorem Rows.mono{ρ:V->R}(s:Am H H')(h:Rows H ρ vs):Rows H' ρ vs:=λv a=>(h v a).mono s
theorem Rows.sub{ρ:V->R}(h:Rows H ρ vs)(b:∀v∈us,v∈vs):Rows H ρ us:=λv a=>h v<|b v a
abbrev pw(ρ:V->R)(w:Str)(v:V):Bool:=decide (V.str (ρ v).w=V.str w)
abbrev pn(ρ:V->R)(t:Str)(v:V):Bool:=decide (V.str (ρ v).nm=V.str t)
def ZX(ρ:V->R)(vs:List V)(w t:Str):Bool:=(vs.filter<|pw ρ w).any<|pn ρ t
def KTup(K:W.Frag)(a:Addr)(xs:List V):Prop:=∃(o:Obj)(its:Array Value)(n:Nat),K.lookup a=some o/\o.cls=.type "tuple" /\ o.data=.seq its n/\its.size<=sizeLine/\Vals xs its.toList
theorem KTup.sq{K:W.Frag}(h:KTup K a xs)(H:Hp):Gr K H a xs:=.inr h
abbrev named:List Str:=["board","rank","stop","coupler","mute"]
def JK(K:W.Frag)(aB:Addr)(ρ:V->R)(vs:List V)(x:V)(part:Str):Prop :=
 (∃(i lo hi:Int)(b:Addr),x=.int i/\W.nsIn K aB part=some (some<|.ref b)/\KTup K b [.int lo,.int hi]/\lo<=i/\i<=hi) \/
 (W.nsIn K aB part=some none/\part = "new" /\ ∃t,x=.str t/\isNm t/\∀w∈named,ZX ρ vs w t=false) \/
 (W.nsIn K aB part=some none/\¬ part = "new" /\ ∃t,x=.str t/\isNm t/\ZX ρ vs part t=true)
structure QL(K:W.Frag)(aB aP aM:Addr)(ρ:V->R)(vs:List V)(r:R):Prop where
 ns:¬ r.w = "step"
 nl:¬ r.w = "line"
 parts:∃(ap:Addr)(ps:List Str),W.nsIn K aP r.w=some (some<|.ref ap)/\KTup K ap (ps.map V.str)/\(V.str r.nm::r.rest).length=ps.length/\ps.length<=10 /\
  ∀(i:Nat) x y,(V.str r.nm::r.rest)[i]? = some x->ps[i]? = some y->JK K aB ρ vs x y
 room:∃(m:Int)(t:Tok),W.nsIn K aM r.w=some (some<|.int m t)/\(((vs.filter<|pw ρ r.w).length:Nat):Int)<m
def letters:Str:="abcdefghijklmnopqrstuvwxyz"
abbrev bF(y:Str)(c:Nat):Bool:=!(Builtin.Str.occurrences y ⟨#[c]⟩ 0 y.length 1).isEmpty
theorem OJ:∀c<128,bF letters c=decide (97<=c/\c<=122):=by decide
theorem BL(h:H p=none):Am H<|upd H p o:=λb u e=>by rw[Aw (Ai e h)];exact e
theorem Du(h:H p=none):∃H',upd H p o=H'/\Am H H'/\H' p=some o:=⟨_,U,BL h,Aj⟩
theorem Bv(h:n<=1000):n<=sizeLine:=fT<|BJ h
theorem ty_int{K:W.Frag}:W.kitOne K (.type "int") (.type "int")=some true:=by kernel_rfl
theorem dW{K:W.Frag}:W.kitOne K (.type "int") (.type "bool")=some false:=by kernel_rfl
theorem eV{K:W.Frag}:W.kitOne K (.type "list") (.type "list")=some true:=by kernel_rfl
theorem Hw{K:W.Frag}:W.kitOne K (.type "tuple") (.type "tuple")=some true:=by kernel_rfl
theorem Hh{K:W.Frag}:W.kitOne K (.type "str") (.type "str")=some true:=by kernel_rfl
theorem Jq(vs:List V)(n:Nat)(h:n<=vs.length):Er vs none (some (n:Int))=vs.take n:=by
 unfold Er;have b:HT.Ec vs.length 0 none=0:=rfl;have a:HT.Ec vs.length vs.length (some (n:Int))=n:=by
  rw[HT.GX];omega
 rw[b,a];simp
theorem JF{α:Type}(p:α->Bool)(l:List α):(l.filter p).length<=l.length:=cc _ _
abbrev bV(b:Str×Nat):List V:=[.str b.1,.int (b.2:Nat)]
abbrev Fd(b:Str×Nat):R:=⟨"board",b.1,[.int (b.2:Nat)]⟩
abbrev qV(q:Nat×Nat):List V:=[.int (q.1:Nat),.int (q.2:Nat)]
def Ew(bs:List<|Str×Nat):List<|Nat×Nat:=bs.zipIdx.flatMap λp=>(List.range p.1.2).map λe=>(p.2,e)
theorem Yh(bs:List<|Str×Nat)(b:Str×Nat):Ew (bs++[b])=Ew bs++(List.range b.2).map λe=>(bs.length,e):=by
 unfold Ew;rw[List.zipIdx_append];simp
theorem IK{bs:List (Str×Nat)}{b:Str×Nat}(h:bs[i]? = some b):Ew (bs.take<|i+1)=Ew (bs.take i)++(List.range b.2).map λe=>(i,e):=by
 have a:i<bs.length:=(ag.mp h).1;rw[cr,h];show Ew (bs.take i++[b])=_;rw[Yh,cy,Nat.min_eq_left<|by omega]
theorem Ot(bs:List<|Str×Nat)(M:Nat):(∀b∈bs,b.2<=M)->(Ew bs).length<=bs.length * M:=by
 intro h;have key:∀i,i<=bs.length->(Ew<|bs.take i).length<=i * M:=by
  intro i
  induction i with
  |zero=>intro _;simp[Ew]
  |succ i c =>
   intro e;have a:i<bs.length:=by omega
   rw[IK (ae a),ai,af,gg];have d:=c<|by omega
   have f:=h bs[i] (eR a);have:(i+1) * M=i * M+M:=by rw[Nat.add_mul,Nat.one_mul]
   omega
 have:=key bs.length<|al _
 rw[dt] at this;exact this
theorem Dl{α β:Type}{F:α->β->Prop}{l:List α}{vs:List β}(h:Paired F l vs):∀{v},v∈vs->∃a∈l,F a v:=by
 induction h with
 |nil=>intro v c;cases c
 |cons a b e =>
  intro v c;rcases ce.mp c with rfl | c
  ·exact⟨_,bg ..,a⟩
  ·obtain⟨x,d,q⟩:=e c;exact⟨x,ba _ d,q⟩
theorem B_{α β:Type}{F:α->β->Prop}{l:List α}{vs:List β}(h:Paired F l vs):∀{i:Nat} {a},l[i]? = some a->∃v,vs[i]? = some v/\F a v:=by
 induction h with
 |nil=>intro i a b;simp at b
 |cons x y c =>
  intro i a b
  cases i with
  |zero =>
   simp at b;subst b;exact⟨_,U,x⟩
  |succ i=>exact c<|by simpa using b
theorem Qi{α β:Type}{F:α->β->Prop}{l:List α}{vs:List β}(h:Paired F l vs):∀{i:Nat} {v},vs[i]? = some v->∃a,l[i]? = some a/\F a v:=by
 induction h with
 |nil=>intro i a b;simp at b
 |cons x y c =>
  intro i a b
  cases i with
  |zero =>
   simp at b;subst b;exact⟨_,U,x⟩
  |succ i=>exact c<|by simpa using b
theorem Ko{α β:Type}{F:α->β->Prop}{l:List α}{vs:List β}(h:Paired F l vs):∀n:Nat,Paired F (l.take n)<|vs.take n:=by
 induction h with
 |nil=>intro n;simp;exact .nil
 |cons x y a =>
  intro n
  cases n with
  |zero=>exact .nil
  |succ n=>exact .cons x<|a n
theorem C_{α β:Type}{F:α->β->Prop}{l a:List α}{vs b:List β}(h:Paired F l vs)(h':Paired F a b):Paired F (l++a)<|vs++b:=by
 induction h with
 |nil=>exact h'
 |cons x y c=>exact .cons x c
theorem Bx{α β γ:Type}{F:γ->β->Prop}(g:α->γ){l:List α}{vs:List β}(h:Paired (λa v=>F (g a) v) l vs):Paired F (l.map g) vs:=by
 induction h with
 |nil=>exact .nil
 |cons x y b=>exact .cons x b
theorem Gj{α β γ:Type}{F:γ->β->Prop}(g:α->γ):∀{l:List α}{vs:List β},Paired F (l.map g) vs->Paired (λa v=>F (g a) v) l vs
 |[],_,h=>by cases h;exact .nil
 |a::l,_,h=>by
  cases h with
  |cons x y=>exact .cons x<|Gj g y
def Vq(H:Hp)(k:Nat):V->V
 |.ref T=>match H T with
  |some (.tup xs)=>xs.getD k .non
  |_=>.non
 |_=>.non
theorem J4{a:List V}{v:V}(h:TupAt H a v)(k:Nat):Vq H k v=a.getD k .non:=by
 obtain⟨T,rfl,e⟩:=h;show (match H T with | some (.tup xs)=>xs.getD k V.non | _=>V.non)=_;rw[e]
theorem K7{α:Type}{g:α->List V}(k:Nat){l:List α}(h:Paired (λa v=>TupAt H (g a) v) l vs):vs.map (Vq H k)=l.map λa=>(g a).getD k .non:=by
 induction h with
 |nil=>rfl
 |cons x y b=>rw[cw,cw,b,J4 x]
def SX(x:Addr)(H H':Hp):Prop:=∀b o,H b=some o->b≠x->H' b=some o
theorem SX.trans{x:Addr}(a:SX x H H1)(b:SX x H1 H2):SX x H H2:=λc o h n=>b c o (a c o h n) n
theorem SX.refl{x:Addr}:SX x H H:=λ_ _ h _=>h
theorem SX.of{x:Addr}(s:Am H H'):SX x H H':=λb o h _=>s b o h
theorem SX.up{x:Addr}:SX x H<|upd H x o:=λb u h n=>by rw[Aw n];exact h
theorem SX.tup{x:Addr}{a:List V}{y:V}{fs:List (Str×V)}(s:SX x H H')(b:H x=some (.ins C dx fs))(h:TupAt H a y):TupAt H' a y:=by
 obtain⟨T,e,q⟩:=h;exact⟨T,e,s _ _ q λz=>by rw[z,b] at q;cases q⟩
theorem SX.pair{α:Type}{x:Addr}{f:α->List V}{l:List α}{fs:List (Str×V)}(s:SX x H H')(b:H x=some (.ins C dx fs))(h:Paired (λa y=>TupAt H (f a) y) l vs):Paired (λa y=>TupAt H' (f a) y) l vs:=Paired.HW h λ_ _ q=>s.tup b q
theorem SX.lst{x:Addr}{fs:List (Str×V)}(s:SX x H H')(b:H x=some (.ins C dx fs))(h:H a=some (.lst xs)):H' a=some (.lst xs):=s _ _ h λz=>by rw[z,b] at h;cases h
theorem SX.dk{x:Addr}{fs:List (Str×V)}(s:SX x H H')(b:H x=some (.ins C dx fs))(h:H a=some (.dK kvs)):H' a=some (.dK kvs):=s _ _ h λz=>by rw[z,b] at h;cases h
abbrev meths:List Str:=["ranks","pipe_count","pipe","rank_of","board_of_knob","boards","key_count","key","board_of","coupler","knobs","knob_number","board_number","stop","mute","steps","rows"]
inductive sW(C:Addr)(H:Hp)(x:Addr)(bs:List<|Str×Nat)(ks:List R):Prop
 |mk(dx:Addr)(fs:List (Str×V))(bl bn kp kr:Addr)(i6 na oq:List V)(kvs:List (Key×V)):H x=some (.ins C dx fs)->fs.lookup ("board_list" : Str)=some (.ref bl)->fs.lookup ("board_numbers" : Str)=some (.ref bn)->fs.lookup ("key_places" : Str)=some (.ref kp)->fs.lookup ("knob_rows" : Str)=some (.ref kr)->(∀m∈meths,fs.lookup m=none)->H bl=some (.lst i6)->Paired (λb y=>TupAt H (bV b) y) bs i6->H bn=some (.dK kvs)->(∀(i:Nat) b,bs[i]? = some b->CN kvs (Sum.inr b.1)=some (.int (i:Nat)))->H kp=some (.lst na)->Paired (λq y=>TupAt H (qV q) y) (Ew bs) na->H kr=some (.lst oq)->Paired (λ(r:R) y=>TupAt H r.v y) ks oq->sW C H x bs ks
structure Dw(C:Addr)(H:Hp)(x:Addr)(bs:List<|Str×Nat)(ks:List R):Prop where
 ob:sW C H x bs ks
 nb:bs.length<=5
 sz:∀b∈bs,b.2<=61
 nk:ks.length<=200
theorem Dw.mono{x:Addr}{bs:List (Str×Nat)}{ks:List R}(s:Am H H')(h:Dw C H x bs ks):Dw C H' x bs ks:=by
 obtain⟨⟨o,fs,w,n,f,i,D,m,g,d,l,r,u,q,v,p,y,B,k,t,j,A,z,e⟩,a,b,c⟩:=h;exact⟨⟨o,fs,w,n,f,i,D,m,g,d,s _ _ l,r,u,q,v,p,s _ _ y,Aq s B,s _ _ k,t,s _ _ j,Aq s A,s _ _ z,Aq s e⟩,a,b,c⟩
end Og
variable{ks rows:List Og.R}{r:Og.R}{ρ:L2.V->Og.R}
namespace L2
open PySem PySem.Spec PyProof.Rows
section
variable{Q:VK}
theorem Qm{K:W.Frag}(p:V->Bool)(f:V->V)(hl:Gr K H1 a xs)(e:xs.length<sizeLine)
  (g:∀x∈xs,∀H,Am H1 H->∀R:Bool->Hp->Prop,(∀H',Am H H'->R (p x) H')->tt (some x::σ) H R)
  (h:∀x∈xs,p x=true->∀H,Am H1 H->∀R:VK,(∀H',Am H H'->R (f x) H')->te (some x::σ) H R)
  (j:∀D H,H1 D=none->Am H1 H->H D=some (.lst<|(xs.filter p).map f)->Q (.ref D) H):Fz (Itt K a) σ H1 Q tt te :=
 Hz p f e (λi H x b d=>⟨xs,x,b.tup hl,d⟩) (λi H y H' b _ c=>⟨c.1,c.2 xs<|b.tup hl⟩) (λH b=>⟨xs,b.tup hl,al _⟩) g h j
end
end L2
namespace Og
open PySem L2 PyProof.Rows
inductive Kb where
 | cp(i j:Nat)(s:Int)
 | pl(w:Str)(i:Nat)
def Kb.w:Kb->Str
 |.cp _ _ _=>"coupler"
 |.pl w _=>w
def Kb.v:Kb->List V
 |.cp i j s=>[.str "coupler",.int (i:Nat),.int (j:Nat),.int s]
 |.pl w i=>[.str w,.int (i:Nat)]
def Kb.ok(n:Nat):Kb->Prop
 |.cp i j s=>i<n/\j<n /\ -60<=s/\s<=60
 |.pl w i=>i<n/\(w = "mute" \/ w = "stop")
theorem Kb.wo{k:Kb}(h:k.ok n):k.w = "stop" \/ k.w = "coupler" \/ k.w = "mute":=by
 cases k with
 |cp i j s=>exact .inr<|.inl U
 |pl w i=>rcases h.2 with e | e;exact .inr<|.inr e;exact .inl e
def JG(w:Str):Nat:=if w = "coupler" then 12 else if w = "mute" then 5 else 24
abbrev Gg(w:Str)(z:Kb):Bool:=decide (V.str z.w=V.str w)
structure UJ(n:Nat)(kbs:List Kb):Prop where
 ok:∀k∈kbs,k.ok n
 room:∀(i:Nat) k,kbs[i]? = some k->((kbs.take i).filter<|Gg k.w).length<JG k.w
 len:kbs.length<=70
def W0(c:Nat->Str)(k:Nat):Kb->R
 |.cp i j s=>⟨"coupler",c<|30+k,[.str (c i),.str<|c j,.int s]⟩
 |.pl w i=>⟨w,c<|30+k,[.str (c i)]⟩
theorem KD(c:Nat->Str)(k:Nat)(z:Kb):(W0 c k z).w=z.w:=by cases z <;> rfl
def Bd(c:Nat->Str)(sz:List Nat):List<|Str×Nat:=sz.zipIdx.map λp=>(c p.2,p.1)
def Bq(c:Nat->Str)(kbs:List Kb):List R:=kbs.zipIdx.map λp=>W0 c p.2 p.1
theorem Fx{c:Nat->Str}{sz:List Nat}{z:Nat}(h:sz[i]? = some z):(Bd c sz)[i]? = some (c i,z):=by
 unfold Bd;rw[am,iN,h];simp
theorem Vd{c:Nat->Str}{sz:List Nat}{b:Str×Nat}(h:(Bd c sz)[i]? = some b):∃z,sz[i]? = some z/\b=(c i,z):=by
 have d:i<(Bd c sz).length:=(ag.mp h).1;have a:i<sz.length:=by simpa [Bd] using d
 refine⟨sz[i],ae a,?_⟩;rw[Fx (ae a)] at h;exact (Option.some.inj h).symm
theorem Mi(c:Nat->Str)(sz:List Nat):(Bd c sz).length=sz.length:=by simp[Bd]
theorem Cz(c:Nat->Str)(sz:List Nat):(Bd c sz).map (·.2)=sz:=by
 unfold Bd;rw[ay];refine fI λi=>?_;rw[am,iN]
 cases sz[i]? <;> simp
theorem GJ{c:Nat->Str}{kbs:List Kb}{z:Kb}(h:kbs[i]? = some z):(Bq c kbs)[i]? = some (W0 c i z):=by
 unfold Bq;rw[am,iN,h];simp
theorem Gv{c:Nat->Str}{kbs:List Kb}(h:(Bq c kbs)[i]? = some r):∃z,kbs[i]? = some z/\r=W0 c i z:=by
 have b:i<(Bq c kbs).length:=(ag.mp h).1;have a:i<kbs.length:=by simpa [Bq] using b
 refine⟨kbs[i],ae a,?_⟩;rw[GJ (ae a)] at h;exact (Option.some.inj h).symm
theorem Qp(c:Nat->Str)(kbs:List Kb):(Bq c kbs).length=kbs.length:=by simp[Bq]
structure KF(K:W.Frag)(aB aP aM:Addr):Prop where
 pB:∃a,W.nsIn K aP "board" = some (some<|.ref a)/\KTup K a (["new","keys"].map λs:String=>V.str s)
 pS:∃a,W.nsIn K aP "stop" = some (some<|.ref a)/\KTup K a (["new","board"].map λs:String=>V.str s)
 pM:∃a,W.nsIn K aP "mute" = some (some<|.ref a)/\KTup K a (["new","board"].map λs:String=>V.str s)
 pC:∃a,W.nsIn K aP "coupler" = some (some<|.ref a)/\KTup K a (["new","board","board","leap"].map λs:String=>V.str s)
 bK:∃a,W.nsIn K aB "keys" = some (some<|.ref a)/\KTup K a [.int 1,.int 61]
 bL:∃a,W.nsIn K aB "leap" = some (some<|.ref a)/\KTup K a [.int (-60),.int 60]
 bN:W.nsIn K aB "new" = some none
 bB:W.nsIn K aB "board" = some none
 mB:∃t,W.nsIn K aM "board" = some (some<|.int 5 t)
 mS:∃t,W.nsIn K aM "stop" = some (some<|.int 24 t)
 mC:∃t,W.nsIn K aM "coupler" = some (some<|.int 12 t)
 mM:∃t,W.nsIn K aM "mute" = some (some<|.int 5 t)
def My(H:Hp):V->R
 |.ref T=>match H T with
  |some (.tup (.str w :: .str n::r))=>⟨w,n,r⟩
  |_=>⟨"","",[]⟩
 |_=>⟨"","",[]⟩
theorem MF{v:V}(h:TupAt H r.v v):My H v=r:=by
 obtain⟨T,rfl,e⟩:=h;show (match H T with | some (.tup (.str w :: .str n::r))=>(⟨w,n,r⟩:R) | _=>⟨"","",[]⟩)=r;rw[e]
theorem UL{a:List R}(h:Paired (λ(r:R) v=>TupAt H r.v v) a vs):vs.map (My H)=a:=by
 induction h with
 |nil=>rfl
 |cons x y b=>rw[cw,b,MF x]
theorem CJ(f:Str)(v:V):∀l:List<|Str×V,(BV f v l).length<=l.length+1
 |[]=>al _
 |p::r=>by
  unfold BV;split
  ·simp
  ·have:=CJ f v r;simp only[List.length_cons];omega
abbrev Il(s:Str):Bool:=inV (.str s) [.str "stop",.str "coupler",.str "mute"]
def Hv(ρ:V->R)(vs:List V):List<|Str×Str:=vs.map λv=>((ρ v).w,(ρ v).nm)
abbrev Ub(wn:List<|Str×Str)(w t:Str):Bool:=(wn.filter λp=>decide (p.1=w)).any λp=>decide (p.2=t)
abbrev Yk(wn:List<|Str×Str)(w:Str):Nat:=(wn.filter λp=>decide (p.1=w)).length
theorem JB(a b:Str):decide (V.str a=V.str b)=decide (a=b):=by
 rw[db,decide_eq_true_eq,decide_eq_true_eq];exact⟨V.str.inj,congrArg V.str⟩
theorem KQ(ρ:V->R)(vs:List V)(w t:Str):ZX ρ vs w t=Ub (Hv ρ vs) w t:=by
 unfold ZX Hv;show _=((vs.map λv=>((ρ v).w,(ρ v).nm)).filter λp=>decide (p.1=w)).any λp=>decide (p.2=t);rw[fg,lP];have b:pw ρ w=(λp:Str×Str=>decide (p.1=w)) ∘ λv=>((ρ v).w,(ρ v).nm):=by
  funext v;exact JB _ _
 have a:pn ρ t=(λp:Str×Str=>decide (p.2=t)) ∘ λv=>((ρ v).w,(ρ v).nm):=by
  funext v;exact JB _ _
 rw[b,a]
theorem JR(ρ:V->R)(vs:List V)(w:Str):(vs.filter<|pw ρ w).length=Yk (Hv ρ vs) w:=by
 unfold Hv;show _=((vs.map λv=>((ρ v).w,(ρ v).nm)).filter λp=>decide (p.1=w)).length;rw[fg,af];have a:pw ρ w=(λp:Str×Str=>decide (p.1=w)) ∘ λv=>((ρ v).w,(ρ v).nm):=by
  funext v;exact JB _ _
 rw[a]
section
variable{K:W.Frag}{wn:List (Str×Str)}
theorem J0(F:KF K aB aP aM)(e:Hv ρ vs=wn)(b:isNm t)(h:∀w∈named,Ub wn w t=false):JK K aB ρ vs (.str t) "new" :=
 .inr (.inl ⟨F.bN,U,_,U,b,λw a=>by rw[KQ,e];exact h w a⟩)
theorem JS(F:KF K aB aP aM)(e:Hv ρ vs=wn)(a:isNm t)(h:Ub wn "board" t=true):JK K aB ρ vs (.str t) "board" :=
 .inr (.inr ⟨F.bB,by decide,_,U,a,by rw[KQ,e];exact h⟩)
theorem Vg(F:KF K aB aP aM)(e:Hv ρ vs=wn)(d:isNm t)(h:∀w∈named,Ub wn w t=false)(q:Yk wn "board" < 5)(p:1<=n)(r:n<=61):QL K aB aP aM ρ vs<|Fd (t,n):=by
 obtain⟨o,f,i⟩:=F.pB;obtain⟨c,l,g⟩:=F.bK;obtain⟨m,k⟩:=F.mB;refine⟨by show ¬ ("board" : Str) = "step";decide,by show ¬ ("board" : Str) = "line";decide,⟨o,["new","keys"],f,i,U,by decide,λj x y b a=>?_⟩,⟨5,m,k,?_⟩⟩
 ·match j,b,a with
  |0,b,a =>
   cases (Option.some.inj b)
   cases (Option.some.inj a);exact J0 F e d h
  |1,b,a =>
   cases (Option.some.inj b)
   cases (Option.some.inj a);exact .inl ⟨_,1,61,c,U,l,g,by omega,by omega⟩
  |j+2,b,a=>simp at a
 ·rw[JR,e];show ((Yk wn "board" : Nat):Int)<5;omega
theorem P0(F:KF K aB aP aM)(e:Hv ρ vs=wn)(l:isNm t)(h:∀w∈named,Ub wn w t=false)(B:Yk wn "coupler" < 12){a b:Str}(z:isNm a)(f:Ub wn "board" a=true)(u:isNm b)(g:Ub wn "board" b=true){s:Int}(i : -60<=s)(q:s<=60):QL K aB aP aM ρ vs ⟨"coupler",t,[.str a,.str b,.int s]⟩:=by
 obtain⟨A,m,o⟩:=F.pC;obtain⟨k,r,n⟩:=F.bL;obtain⟨v,p⟩:=F.mC;refine⟨by show ¬ ("coupler" : Str) = "step";decide,by show ¬ ("coupler" : Str) = "line";decide,⟨A,["new","board","board","leap"],m,o,U,by decide,λj x y d c=>?_⟩,⟨12,v,p,?_⟩⟩
 ·match j,d,c with
  |0,d,c =>
   cases (Option.some.inj d)
   cases (Option.some.inj c);exact J0 F e l h
  |1,d,c =>
   cases (Option.some.inj d)
   cases (Option.some.inj c);exact JS F e z f
  |2,d,c =>
   cases (Option.some.inj d)
   cases (Option.some.inj c);exact JS F e u g
  |3,d,c =>
   cases (Option.some.inj d)
   cases (Option.some.inj c);exact .inl ⟨_,-60,60,k,U,r,n,i,q⟩
  |j+4,d,c=>simp at c
 ·rw[JR,e];show ((Yk wn "coupler" : Nat):Int)<12;omega
end
theorem Nb{α:Type}{l:List α}(h:∀(i j:Nat) x,l[i]? = some x->l[j]? = some x->i=j):l.Nodup:=by
 refine List.pairwise_iff_getElem.mpr λi j a b c e=>?_;have:=h i j l[i] (ae a) (by rw[e];exact ae b);omega
theorem K4{bs:List (Str×Nat)}:∀{i a n:Nat},(Ew bs)[i]? = some (a,n)->∃b,bs[a]? = some b/\n<b.2/\i=((bs.map (·.2)).take a).sum+n:=by
 have key:∀m,m<=bs.length->∀{i a n:Nat},(Ew<|bs.take m)[i]? = some (a,n)->∃b,bs[a]? = some b/\n<b.2/\i=((bs.map (·.2)).take a).sum+n:=by
  intro m
  induction m with
  |zero =>
   intro _ i a n h;simp[Ew] at h
  |succ m f =>
   intro u i a n h;have c:m<bs.length:=by omega
   have l:=ae c;rw[IK l] at h;have d:(Ew<|bs.take m).length=((bs.map (·.2)).take m).sum:=by
    have g:∀m,m<=bs.length->(Ew<|bs.take m).length=((bs.map (·.2)).take m).sum:=by
     intro m
     induction m with
     |zero=>intro _;simp[Ew]
     |succ m f =>
      intro u;have c:m<bs.length:=by omega
      rw[IK (ae c),ai,f<|by omega,af,gg,cr,am,ae c,fA];simp
    exact g m<|by omega
   by_cases s:i<(Ew<|bs.take m).length
   ·rw[fS s] at h;exact f (by omega) h
   ·rw[dA (by omega),am] at h;obtain⟨e,r,q⟩:=av.mp h;have o:i - (Ew<|bs.take m).length<bs[m].2/\e=i - (Ew<|bs.take m).length:=by
     obtain⟨j,k⟩:=ag.mp r;rw[gg] at j;rw[List.getElem_range] at k;exact⟨j,k.symm⟩
    obtain⟨p,t⟩:=Prod.mk.inj q;subst p t;refine⟨bs[m],l,by omega,?_⟩;rw[<-d];omega
 intro i a n h;refine key bs.length (al _) ?_;rw[dt];exact h
theorem Eh(bs:List<|Str×Nat):(Ew bs).length=(bs.map (·.2)).sum:=by
 unfold Ew;rw[List.length_flatMap];have:(bs.zipIdx.map λp=>((List.range p.1.2).map λe=>(p.2,e)).length)=bs.map (·.2):=by
  refine fI λi=>?_;rw[am,am,iN]
  cases bs[i]? <;> simp
 rw[this]
open PySem L2
def QG(bs:List<|Str×Nat)(j1 j2:Nat)(s:Int)(qd:Nat×Nat)(z2:Nat):V :=
 if qd.1=j1/\0<=(qd.2:Int)+s/\(qd.2:Int)+s<z2 then .int ((((bs.take j2).map (·.2)).sum:Nat)+((qd.2:Int)+s)) else .non
def gl(bs:List<|Str×Nat):Kb->Nat->Option Nat
 |.cp j1 j2 s,i=>match (Ew bs)[i]?,bs[j2]? with
  |some qd,some b2=>match QG bs j1 j2 s qd b2.2 with
   |.int v=>some v.toNat
   |_=>none
  |_,_=>none
 |.pl _ _,_=>none
theorem PL(l:List Nat):∀{a b:Nat},a<=b->(l.take a).sum<=(l.take b).sum:=by
 intro a b h;have e:l.take a=(l.take b).take a:=by rw[List.take_take,Nat.min_eq_left h]
 rw[e];have:=congrArg List.sum<|gc a<|l.take b
 rw[fA] at this;omega
theorem Wf{bs:List (Str×Nat)}{j1 a:Nat}{s:Int}{b:Nat×Nat}{c:Str×Nat}(g:(Ew bs)[i]? = some b)(d:bs[a]? = some c) :
  (QG bs j1 a s b c.2=.non/\gl bs (.cp j1 a s) i=none) \/ ∃j:Nat,QG bs j1 a s b c.2=.int (j:Nat)/\gl bs (.cp j1 a s) i=some j/\j<(bs.map (·.2)).sum:=by
 have e:gl bs (.cp j1 a s) i=match QG bs j1 a s b c.2 with | .int v=>some v.toNat | _=>none:=by
  simp only[gl,g,d]
 rw[e];unfold QG;by_cases h:b.1=j1/\0<=(b.2:Int)+s/\(b.2:Int)+s<c.2
 ·rw[if_pos h];obtain⟨k,n,m⟩:=h;have l:((bs.map (·.2)).take<|a+1).sum=(((bs.take a).map (·.2)).sum+c.2):=by
   rw[cr,am,d,fA,ib];simp
  have f:((bs.map (·.2)).take<|a+1).sum<=(bs.map (·.2)).sum:=by
   have:=congrArg List.sum (gc (a+1) (bs.map (·.2)));rw[fA] at this;omega
  refine .inr ⟨((((bs.take a).map (·.2)).sum:Nat)+((b.2:Int)+s)).toNat,?_,U,by omega⟩;rw[Int.toNat_of_nonneg (by omega)]
 ·rw[if_neg h];exact .inl ⟨U,U⟩
theorem fV{bs:List (Str×Nat)}{z:Kb}(h:gl bs z i=some j):j<(bs.map (·.2)).sum:=by
 cases z with
 |pl w a=>cases h
 |cp j1 b s =>
  cases hq:(Ew bs)[i]? with
  |none =>
   simp only[gl,hq] at h
   cases h
  |some c =>
   cases hb:bs[b]? with
   |none =>
    simp only[gl,hq,hb] at h
    cases h
   |some d =>
    rcases Wf (j1:=j1) (s:=s) hq hb with⟨_,e⟩ | ⟨f,_,e,lt⟩
    ·rw[e] at h
     cases h
    ·rw[e] at h
     cases h;exact lt
abbrev jN(z:Kb):Bool:=decide (V.str z.w=V.str "coupler")
theorem uM{bs:List (Str×Nat)}{z:Kb}(h:gl bs z i=some j):jN z=true:=by
 cases z with
 |pl w a=>cases h
 |cp c b s=>exact decide_eq_true U
theorem cM{z:Kb}(b:z.ok n)(h:jN z=true):∃i j s,z=.cp i j s:=by
 cases z with
 |cp i j s=>exact⟨i,j,s,U⟩
 |pl w i =>
  exfalso;have a:=V.str.inj<|of_decide_eq_true h
  rcases b.2 with rfl | rfl
  ·exact absurd a<|by show ¬ ("mute" : Str) = "coupler";decide
  ·exact absurd a<|by show ¬ ("stop" : Str) = "coupler";decide
inductive stp(bs:List<|Str×Nat)(kbs:List Kb)(D:Nat)(i j:Nat):Prop
 | mk(k z:_):D.testBit k=true->kbs[k]? = some z->gl bs z i=some j->stp bs kbs D i j
inductive Ph(st:Nat->Nat->Prop)(hd:Nat->Prop):Nat->Prop
 | one{i j:Nat}:hd i->st i j->Ph st hd j
 | more{i j:Nat}:Ph st hd i->st i j->Ph st hd j
theorem Ph.lt{bs:List (Str×Nat)}{kbs:List Kb}{D:Nat}{h:Nat->Prop}(r:Ph (stp bs kbs D) h j):j<(bs.map (·.2)).sum:=by
 cases r with
 |one a b=>obtain⟨k,z,_,_,e⟩:=b;exact fV e
 |more a b=>obtain⟨k,z,_,_,e⟩:=b;exact fV e
theorem Ph.all{st:Nat->Nat->Prop}{c:Nat->Prop}{W:Nat->Prop}(e:∀j,W j->Ph st c j)(d:∀i,(c i \/ W i)->∀j,st i j->W j)(j:Nat):W j ↔ Ph st c j:=by
 refine⟨e j,λh=>?_⟩
 induction h with
 |one a b=>exact d _ (.inl a) _ b
 |more a b f=>exact d _ (.inr f) _ b
theorem Fo:∀(T:Nat){l:List Nat},l.Nodup->(∀x∈l,x<T)->l.length<=T
 |0,l,_,h=>by
  cases l with
  |nil=>exact al _
  |cons a l=>exact absurd (h a<|bg ..)<|iA _
 |T+1,l,c,h=>by
  have e:=Fo T (l:=l.erase T) (c.erase T) λx b=>by
   have d:=h x<|List.mem_of_mem_erase b
   have f:x≠T:=λz=>by
    subst z;exact c.not_mem_erase b
   omega
  have:=List.length_erase (a:=T) (l:=l);split at this <;> omega
theorem Yt(a b i:Nat):(a ||| b).testBit i=true ↔ a.testBit i=true \/ b.testBit i=true:=by
 rw[Nat.testBit_or,Bool.or_eq_true]
theorem cW{a b:Nat}(h:∀i,a.testBit i=true ↔ b.testBit i=true):a=b:=fe λi=>db.mpr<|h i
open PySem L2 PyProof.Rows
abbrev Th:=Str×Nat×List V
abbrev tV(a:Th):List V:=.str a.1 :: .int (a.2.1:Nat)::a.2.2
abbrev tN(a:Th):Str×Nat:=(a.1,a.2.1)
abbrev YL(r:Str×Nat×Int):Th:=(r.1,r.2.1,[.int r.2.2])
abbrev m6(b:Str×Nat):Th:=(b.1,b.2,[])
abbrev gf(r:Str×Nat×Int):Str×Nat:=(r.1,r.2.1)
abbrev Ft(r:Str×Nat×Int):R:=⟨"rank",r.1,[.int (r.2.1:Nat),.int r.2.2]⟩
structure Ln where
 r:Nat
 sh:Int
 lo:Int
 hi:Int
abbrev aG(l:Ln):List V:=[.int (l.r:Nat),.int l.sh,.int l.lo,.int l.hi]
inductive G8(H:Hp)(l:List Ln)(v:V):Prop
 |mk(A:Addr)(ts:List V):v=.ref A->H A=some (.lst ts)->Paired (λx y=>TupAt H (aG x) y) l ts->G8 H l v
inductive Ik(H:Hp)(D:Addr)(ls:List<|List Ln):Prop
 |mk(lv:_):H D=some (.lst lv)->Paired (λl v=>G8 H l v) ls lv->Ik H D ls
theorem G8.mono{l:List Ln}{v:V}(s:Am H H')(h:G8 H l v):G8 H' l v:=by
 obtain⟨A,b,e,a,c⟩:=h;exact⟨A,b,e,s _ _ a,Aq s c⟩
theorem Ik.mono{a:List (List Ln)}(s:Am H H')(h:Ik H D a):Ik H' D a:=by
 obtain⟨b,c,d⟩:=h;exact⟨b,s _ _ c,Paired.HW d λ_ _ q=>q.mono s⟩
inductive nj(C:Addr)(H:Hp)(x:Addr)(bs:List<|Str×Nat)(rk:List<|Str×Nat×Int)(ks:List R)(ls:List<|List Ln):Prop
 |mk(dx:Addr)(fs:List (Str×V))(rl rn pp kl:Addr)(md na:List V)(kvs:List (Key×V)):H x=some (.ins C dx fs)->fs.lookup ("rank_list" : Str)=some (.ref rl)->fs.lookup ("rank_numbers" : Str)=some (.ref rn)->fs.lookup ("pipe_places" : Str)=some (.ref pp)->fs.lookup ("knob_lines" : Str)=some (.ref kl)->H rl=some (.lst md)->Paired (λ(a:Th) y=>TupAt H (tV a) y) (rk.map YL) md->H rn=some (.dK kvs)->(∀(i:Nat) r,rk[i]? = some r->CN kvs (Sum.inr r.1)=some (.int (i:Nat)))->H pp=some (.lst na)->Paired (λq y=>TupAt H (qV q) y) (Ew<|rk.map gf) na->Ik H kl ls->nj C H x bs rk ks ls
structure En(C:Addr)(H:Hp)(x:Addr)(bs:List<|Str×Nat)(rk:List<|Str×Nat×Int)(ks:List R)(ls:List<|List Ln):Prop where
 o:Dw C H x bs ks
 r:nj C H x bs rk ks ls
 nr:rk.length<=12
 nz:∀r∈rk,r.2.1<=97
 nl:ls.length=ks.length
theorem En.mono{x:Addr}{bs:List (Str×Nat)}{rk:List (Str×Nat×Int)}{e:List (List Ln)}(s:Am H H')(h:En C H x bs rk ks e):En C H' x bs rk ks e:=by
 obtain⟨o,⟨i,fs,j,u,y,m,r,g,d,f,n,q,k,t,w,B,v,p,l,A,z⟩,a,b,c⟩:=h;exact⟨o.mono s,⟨i,fs,j,u,y,m,r,g,d,s _ _ f,n,q,k,t,s _ _ w,Aq s B,s _ _ v,p,s _ _ l,Aq s A,z.mono s⟩,a,b,c⟩
structure dR(ρ:V->R)(us:List V)(i:Nat):Prop where
 all:∀j,j<i->∃v,us[us.length - 1 - j]? = some v/\(ρ v).w = "line"
 lt:i<us.length
 no:∃v,us[us.length - 1 - i]? = some v/\¬ (ρ v).w = "line"
def lG(r:R):Int:=match r.rest with
 |[.int m]=>m
 |_=>0
abbrev keyOf(ρ:V->R)(us:List V)(bd:Str)(n:Int):Bool:=(us.filter<|pw ρ "board").any λv=>pn ρ bd v && decide (n<lG (ρ v))
structure Ro(ρ:V->R)(us:List V)(ro:R):Prop where
 ex:∃(cnt:Nat)(v:V)(sh lo hi:Int)(bd:Str)(rs:List V),ro.rest=[.int sh,.int lo,.int hi]/\dR ρ us cnt/\cnt<4/\us[us.length - 1 - cnt]? = some v/\(ρ v).w = "stop" /\ (ρ v).rest=.str bd::rs/\lo<=hi/\keyOf ρ us bd hi=true
abbrev F_(ρ:V->R)(us:List V):Prop:=∀v∈us,(ρ v).w = "board"->∃m,(ρ v).rest=[.int m]
structure O7(K:W.Frag)(aB aP aM:Addr)(ρ:V->R)(vs:List V)(r:R):Prop where
 ns:¬ r.w = "step"
 parts:∃(ap:Addr)(ps:List Str),W.nsIn K aP r.w=some (some<|.ref ap)/\KTup K ap (ps.map V.str)/\(V.str r.nm::r.rest).length=ps.length/\ps.length<=10 /\
  ∀(i:Nat) x y,(V.str r.nm::r.rest)[i]? = some x->ps[i]? = some y->JK K aB ρ vs x y
 room:(r.w = "line" /\ W.nsIn K aM r.w=some none) \/ ∃(m:Int)(t:Tok),W.nsIn K aM r.w=some (some<|.int m t)/\(((vs.filter<|pw ρ r.w).length:Nat):Int)<m
 line:r.w = "line"->Ro ρ vs r
 m8:F_ ρ vs
def lnOf(rk:List<|Str×Nat×Int)(r:R):Ln:=match r.rest with
 |[.int sh,.int lo,.int hi]=>⟨(rk.map (·.1)).idxOf r.nm,sh,lo,hi⟩
 |_=>⟨0,0,0,0⟩
def putL(f':List<|List Ln)(l:Ln):List<|List Ln:=match f'.getLast? with
 |some z=>f'.dropLast++[z++[l]]
 |none=>[]
def Dz(rk:List<|Str×Nat×Int)(f':List<|List Ln)(r:R):List<|List Ln:=if Il r.w=true then f'++[[]] else if r.w = "line" then putL f' (lnOf rk r) else f'
def linesOf(rk:List<|Str×Nat×Int)(rs:List R):List<|List Ln:=rs.foldl (Dz rk) []
theorem Dc(rk:List<|Str×Nat×Int)(a:List R)(r:R):linesOf rk (a++[r])=Dz rk (linesOf rk a) r:=by
 unfold linesOf;rw[kS];rfl
theorem Iw(a:List<|List Ln)(z:List Ln)(l:Ln):putL (a++[z]) l=a++[z++[l]]:=by
 unfold putL;rw[List.getLast?_concat,List.dropLast_concat]
end Og
variable{kbs:List Og.Kb}{ls:List (List Og.Ln)}
namespace Ws
open PySem PySem.Spec PyProof.Rows Wd
def Jk(prog:Program)(w:World)(h:Heap)(a:Addr)(led:Bool)(σ:List Str):Prop :=
 ∃es ep t,h.get? a=some { cls:=.type "set",dict:=none,data:=.set es ep t }/\ElemsOf (strKind prog w) es.toList/\(∀k,k∈σ ↔ ∃e∈es.toList,(strKind prog w).is k e.2=true)/\es.size=σ.length/\σ.Nodup /\
  σ.length<scanBound/\t.fits es.size=true/\Good t led
def Gh(σ:List Str)(k:Str):List Str:=if k∈σ then σ else σ++[k]
section
variable{w:World}{σ:List Str}{k:Str}{tk:Tok}
theorem uP{Q:Bool->Shared->Prop}(hS:Jk prog w s.heap a led σ)(room:σ.length+1<scanBound)
  (h:∀b h',Heap.SameBut a s.heap h'->Jk prog w h' a led (Gh σ k)->Q b { s with heap:=h' }):wpAny (model prog w) A (setAddHashed a (.str k tk)<|(strKind prog w).hash k) Q E s:=by
 obtain⟨z,ep,t,K,V,T,hn,nd,hb,hf,g⟩:=hS;have m:(strKind prog w).is k (.str k tk)=true:=strKind_is _ _ _ _;have ap:z.size<scanBound:=by rw[hn];exact hb
 unfold setAddHashed setAddHashedIn;refine wpAny_holding<|wpAny_bind<|wpAny_setState_of K U hf ?_
 dsimp only;rw[byScan_of U ap V,if_pos U];unfold setAddByScan;refine wpAny_bind<|wpAny_bind<|wpAny_rule<|wpAny_bind<|wpAny_setScan_of m K U hf V ?_
 cases hr:List.findIdx? (λe=>(strKind prog w).is k e.2) z.toList with
 |some j =>
  obtain⟨hj,an,_⟩:=List.findIdx?_eq_some_iff_getElem.mp hr;have X:k∈σ:=(T k).mpr ⟨_,eR hj,an⟩;refine wpAny_pure<|wpAny_pure ?_
  have:=h false s.heap (Heap.SameBut.refl a s.heap)<|by unfold Gh;rw[if_pos X];exact⟨z,ep,t,K,V,T,hn,nd,hb,hf,g⟩
  exact this
 |none =>
  have X:k ∉ σ:=λq=>by
   obtain⟨e,I,D⟩:=(T k).mp q;have:=List.findIdx?_eq_none_iff.mp hr e I;rw[D] at this
   cases this
  dsimp only;have C:=layNew_perm t z ((strKind prog w).hash k)<|.str k tk
  have W:=layNew_fits t z ((strKind prog w).hash k)<|.str k tk
  have Y:=YZ g z ((strKind prog w).hash k)<|.str k tk
  generalize layNew t z ((strKind prog w).hash k) (.str k tk)=L at C W Y |-;obtain⟨c,J,wd,P'⟩:=L;dsimp only at C W Y |-;rw[Array.toList_push] at C;have F:ElemsOf (strKind prog w) c.toList:=(V.push m U).perm C;have O:c.size=(σ++[k]).length:=by
   have:=C.length_eq;simp only[List.length_append,Array.length_toList,List.length_singleton] at this;simp only[List.length_append,List.length_singleton];omega
  have N:∀n,n∈σ++[k] ↔ ∃e∈c.toList,(strKind prog w).is n e.2=true:=λn=>by
   have:=mem_push_iff (knd:=strKind prog w) (S:=λn=>decide (n∈σ)) m (λn=>by rw[decide_eq_true_eq];exact T n) C n;rw[<-this];simp
  have ac:(σ++[k]).Nodup:=List.nodup_append.mpr ⟨nd,by simp,λx hx y hy=>by
   rw[ax.mp hy];intro q;exact X<|q ▸ hx⟩
  have M:(σ++[k]).length<scanBound:=by simp only[List.length_append,List.length_singleton];exact room
  have u:c.size<scanBound:=by rw[O];exact M
  have fin:∀(o:Array<|Int × Value)(d:SetTable)(VW:Nat)(P:Heap),Heap.SameBut a s.heap P->P.get? a=some { cls:=.type "set",dict:=none,data:=.set o VW d }->o.toList.Perm c.toList->d.fits o.size=true->Good d led ->
    Q true { s with heap:=P }:=λo d VW P sb e2 Z G B=>by
   refine h true P sb ?_;unfold Gh;rw[if_neg X];refine⟨o,VW,d,e2,F.perm Z,λn=>(N n).trans ⟨λ⟨e,I,q⟩=>⟨e,Z.mem_iff.mpr I,q⟩,λ⟨e,I,q⟩=>⟨e,Z.mem_iff.mp I,q⟩⟩,?_,ac,M,G,B⟩;rw[<-Array.length_toList,Z.length_eq,Array.length_toList,O]
  have tail:∀(d:SetTable),d.fits c.size=true->Good d led->wpAny (model prog w) A (do
    storeSet a c d
    if (!wd && d.tooFull)=true then do
      (match (relayAll d c<|SetTable.grown c.size).2.2 with | true=>rule "set.scan.the-table-gave-way" | false=>pure ())
      storeSet a (relayAll d c<|SetTable.grown c.size).1 (relayAll d c<|SetTable.grown c.size).2.1
      pure (some true)
     else pure (some true)) (λr v=>match r with | some b=>Q b v | none=>False) E s:=λd G B=>by
   refine wpAny_bind<|wpAny_storeSet_of K U ?_<|fits_of_scanBound u
   have ZN:=Heap.SameBut.update s.heap a<|Obj.putSet c d
   have e1:=TV (es':=c) (t':=d) K;split
   ·have D:=relayAll_perm d c<|SetTable.grown c.size
    have hq:=relayAll_fits d c<|SetTable.grown c.size
    have hg:=Rg B c<|SetTable.grown c.size
    generalize relayAll d c (SetTable.grown c.size)=R at D hq hg |-;obtain⟨o,t3,gv⟩:=R;dsimp only at D hq hg |-;have ab:o.size<scanBound:=by rw[<-Array.length_toList,D.length_eq,Array.length_toList];exact u
    have p:wpAny (model prog w) A (do storeSet a o t3;pure (some true)) (λr v=>match r with | some b=>Q b v | none=>False) E { s with heap:=s.heap.update a (Obj.putSet c d) }:=by
     refine wpAny_bind<|wpAny_storeSet_of e1 U ?_<|fits_of_scanBound ab
     exact wpAny_pure<|fin o t3 _ _ (ZN.trans<|Heap.SameBut.update _ a _) (TV e1) D hq hg
    cases gv
    ·exact wpAny_bind<|wpAny_pure p
    ·exact wpAny_bind<|wpAny_rule p
   ·exact wpAny_pure<|fin c d _ _ ZN e1 (List.Perm.refl _) G B
  have i:∀(d:SetTable),d.fits c.size=true->Good d led->wpAny (model prog w) A (do
    storeSet a c d
    if (!wd && d.tooFull)=true then do
      (match (relayAll d c<|SetTable.grown c.size).2.2 with | true=>rule "set.scan.the-table-gave-way" | false=>pure ())
      storeSet a (relayAll d c<|SetTable.grown c.size).1 (relayAll d c<|SetTable.grown c.size).2.1
      pure (some true)
     else pure (some true)) (λr v=>wpAny (model prog w) A (match r with | some f=>pure f | none=>setAddHashedIn a (.str k tk) ((strKind prog w).hash k) 99999) Q E v) E s:=λd G B =>
   wpAny_mono (tail d G B) (λr v q=>by
    cases r with
    |none=>exact q.elim
    |some b=>exact wpAny_pure q) λ_ _ e=>e
  have H:wpAny (model prog w) A (do
    let l <-if J.plain then hashByValue 8 (.str k tk) else pure true
    let d:=if l=true then J else { J with plain:=false }
    storeSet a c d
    if (!wd && d.tooFull)=true then do
      (match (relayAll d c<|SetTable.grown c.size).2.2 with | true=>rule "set.scan.the-table-gave-way" | false=>pure ())
      storeSet a (relayAll d c<|SetTable.grown c.size).1 (relayAll d c<|SetTable.grown c.size).2.1
      pure (some true)
     else pure (some true)) (λr v=>wpAny (model prog w) A (match r with | some f=>pure f | none=>setAddHashedIn a (.str k tk) ((strKind prog w).hash k) 99999) Q E v) E s:=by
   split
   ·rw[hashByValue_scannable 8 U];exact wpAny_bind<|wpAny_pure<|i { J with plain:=false } W ⟨Y.led,λh=>by cases h⟩
   ·exact wpAny_bind<|wpAny_pure<|i J W Y
  cases P'
  ·exact wpAny_bind<|wpAny_pure H
  ·exact wpAny_bind<|wpAny_rule H
end
inductive StrsAre:List Value->List Str->Prop
 | nil:StrsAre [] []
 | cons(z:Str)(t:Tok){us:List Value}{zs:List Str}:StrsAre us zs->StrsAre (.str z t::us) (z::zs)
theorem StrsAre.length:∀{us:List Value}{zs:List Str},StrsAre us zs->us.length=zs.length
 |_,_,.nil=>rfl
 |_,_,.cons z t r=>congrArg (· + 1) r.length
theorem StrsAre.Wq:∀{us:List Value}{zs:List Str},StrsAre us zs->∀(i:Nat)(v:Value),us[i]? = some v->∃t,v=.str (zs.getD i "") t
 |_,_,.nil,i,v,h=>by simp at h
 |_,_,.cons z t r,0,v,h=>by simp at h;exact⟨t,h.symm⟩
 |_,_,.cons z t r,i+1,v,h=>by
  have a:_:=h;rw[List.getElem?_cons_succ] at a;obtain⟨b,e⟩:=r.Wq i v a;exact⟨b,by rw[e];rfl⟩
theorem Jk.keep{w:World}{σ:List Str}(g:Jk prog w h a led σ)(k:∀o,h.get? a=some o->h'.get? a=some o):Jk prog w h' a led σ :=
 let ⟨b,c,t,e,r⟩:=g;⟨b,c,t,k _ e,r⟩
theorem Yx(σ:List Str)(k:Str):(Gh σ k).length<=σ.length+1:=by
 unfold Gh;split
 ·omega
 ·simp
theorem Nj:∀(ns:List Str)(σ:List Str),(ns.foldl Gh σ).length<=σ.length+ns.length
 |[],σ=>by simp
 |k::ns,σ=>by
  have a:=Nj ns<|Gh σ k
  have b:=Yx σ k;simp only[List.foldl_cons,List.length_cons];omega
section
variable{w:World}{R:Result->Shared->Prop}{I:Addr}{wr:List Addr}{G:Array GenState->Array GenState->Prop}{P:Nat->Value->Prop}{St:Nat->Shared->Prop}
theorem g_(W:WalksS prog w A.in1 I fp wr G n P St)(S:Addr)(a:S ∉ fp)(ns:List Str)(J:ns.length=n)(B:∀i v,P i v->∃t,v=.str (ns.getD i "") t)(c:n+1<scanBound) :
  ∀(k i:Nat)(s:Shared),n - i=k->i<=n->St i s->Jk prog w s.heap S led ((ns.take i).foldl Gh []) ->
   (∀s',Moved (S::wr) G s s'->Jk prog w s'.heap S led (ns.foldl Gh [])->R (.ok<|.ret .none) s')->codeAny (model prog w) A (.builtin "set.update.loop" ⟨[.ref S,.ref I],[]⟩) R s:=by
 have f:S ∉ wr:=λz=>a<|W.sub _ z
 have up:∀b∈wr,b∈S::wr:=λb z=>ba _ z;intro k
 induction k with
 |zero =>
  intro i s H r st g d;obtain rfl:i=n:=by omega
  refine codeAny_builtin F.entry_set_update_loop ?_;rw[Around.under_plainId F.plain_set_update_loop _];refine wpAny_bind<|W.done s _ _ st λs' m=>wpAny_pure<|d s' (m.mono up) ?_
  rw[gp (by omega)] at g;exact g.keep λo e=>m.heap S o f e
 |succ k j =>
  intro i s H r st g d;have lt:i<n:=by omega
  refine codeAny_builtin F.entry_set_update_loop ?_;rw[Around.under_plainId F.plain_set_update_loop _];refine wpAny_bind<|W.item i s _ _ lt st λv s' p u m=>?_
  obtain⟨t,rfl⟩:=B i v p;have D:=g.keep (h':=s'.heap) λo e=>m.heap S o f e;refine wpAny_bind<|wpAny_holding<|wpAny_holding<|wpAny_bind<|(strKind prog w).pyHash (k:=ns.getD i "") (strKind_is _ _ _ _) ?_
  have room:((ns.take i).foldl Gh []).length+1<scanBound:=by
   have:=Nj (ns.take i) [];rw[cy] at this;simp at this;omega
  have y:ns.take (i+1)=ns.take i++[ns.getD i ""]:=by
   have hl:i<ns.length:=by omega
   rw[cr,ae hl];simp[hl]
  refine uP (s:={ s' with toks:=s'.toks+1 }) D room λb h' h q=>?_;have x:Jk prog w h' S led<|(ns.take<|i+1).foldl Gh []:=by
   rw[y,kS];exact q
  refine wpAny_pure ⟨plainId_quiet F.plain_set_update_loop _,j (i+1) _ (by omega) lt (W.frame _ s' _ _ u (ke _) λb c o e=>?_) x λC E l=>?_⟩
  ·rw[h.2 b (λz:b=S=>a<|z ▸ c)];exact e
  ·refine d C (Moved.trans W.gtrans ((m.mono up).then_heap (ke _) λb o c e=>?_) E) l;rw[h.2 b (λz:b=S=>c<|by rw[z];exact bg)];exact e
end
section
variable{w:World}
theorem cV(h:Heap):Jk prog w (h.push { cls:=.type "set",dict:=none,data:=.set #[] 0 (.fresh 0 0<|Es w) }) h.objs.size (Es w) [] :=
 ⟨#[],0,_,Heap.get?_push_size _ U,λe a=>by simp at a,λk=>by simp,U,.nil,by decide,by rfl,RL _⟩
set_option maxHeartbeats 4000000 in
theorem pJ{l:Addr}{f:Array Value}(V:A.handled=none)(hl:s.heap.IsTuple l f)(hi:StrsAre f.toList ns)(hb:ns.length+1<scanBound)
  (h:∀h' tk,Jk prog w h' s.heap.objs.size (Es w) (ns.foldl Gh [])->(∀b o,s.heap.get? b=some o->h'.get? b=some o)->Q (.ref s.heap.objs.size) { s with heap:=h',toks:=tk }) :
  wpAny (model prog w) A (call (.type "set") [.ref l]) Q E s:=by
 obtain⟨c,tl,FU⟩:=F.called_set.mro;have x:=F.called_set.made;have P:=F.called_set.sub;have d:f.size=ns.length:=by rw[<-StrsAre.length hi];simp
 refine wpAny_call<|codeAny_of_tree ?_
 show wpAny _ _ (callAny (.type "set") _) _ _ _;refine wpAny_pure ⟨Code.quiet_builtin _<|by decide,codeAny_builtin F.entry_type_call ?_⟩;rw[Around.under_plain (weight_type_call_type "set" [.ref l] []) U];have h1:=F.called_set.notType;have h2:=F.called_set.canCreate;have ac:=F.typeCall_set_1<|.ref l
 repeat (any_goals (first | assumption | wp_step))
 refine codeAny_mono (tU (.ref l) (E:=E) (Q1:=λa B=>a=.ref s.heap.objs.size/\B = { s with heap:=s.heap.push { cls:=.type "set",dict:=none,data:=.set #[] 0 (.fresh 0 0<|Es w) } }) ⟨U,U⟩) λr B j=>?_;rcases r with e | J
 ·exact j
 obtain⟨a,rfl,j⟩:∃a,J=.ret a/\(a=.ref s.heap.objs.size/\B = { s with heap:=s.heap.push { cls:=.type "set",dict:=none,data:=.set #[] 0 (.fresh 0 0 (Es w)) } }):=by
  cases J with
  |ret v=>exact⟨v,U,j⟩
  |_=>exact j.elim
 obtain⟨rfl,rfl⟩:=j;have hS:(s.heap.push { cls:=.type "set",dict:=none,data:=.set #[] 0 (.fresh 0 0<|Es w) }).get? s.heap.objs.size=some { cls:=.type "set",dict:=none,data:=.set #[] 0 (.fresh 0 0<|Es w) }:=Heap.get?_push_size _ U;have Z:Shared.TypeIs { s with heap:=s.heap.push { cls:=.type "set",dict:=none,data:=.set #[] 0 (.fresh 0 0<|Es w) } } (.ref s.heap.objs.size) "set":=⟨_,hS,U⟩;have UD:=F.called_set.init.lookup;have MU:=F.called_set.init.bind<|.ref s.heap.objs.size
 repeat (any_goals (first | assumption | wp_step))
 refine codeAny_mono (codeAny_call_builtin (R:=wants (λr y=>r=.none/\∃h' tk,y = { s with heap:=h',toks:=tk }/\Jk prog w h' s.heap.objs.size (Es w) (ns.foldl Gh [])/\∀b o,s.heap.get? b=some o->h'.get? b=some o) E)
  F.called_set.init.plain F.entry_set_init (check_set_init_1 Z ?_)) λX y n=>?_
 ·obtain⟨ol,M,p,O,N⟩:=hl;obtain⟨I,IU,ZT,S⟩:=ol;simp only at p N;subst p;subst N;have t:(s.heap.push { cls:=.type "set",dict:=none,data:=.set #[] 0 (.fresh 0 0<|Es w) }).get? l=some { cls:=.type "tuple",dict:=IU,data:=.seq f O,slots:=S }:=Heap.get?_push_of_some _ M;have K:=F.sub_tuple_set;have L:=F.sub_tuple_frozenset;have ab:(Value.type "tuple" == Value.type "dict")=false:=by decide
  have u:(s.heap.push { cls:=.type "set",dict:=none,data:=.set #[] 0 (.fresh 0 0<|Es w) }).IsTuple l f:=⟨_,t,U,O,U⟩;unfold Builtin.«set.__init__» noKeywords Builtin.Frozenset.updateFrom;generalize D:pyIter=PI
  wp_walk
  subst D;refine wpAny_pyIter_tuple u<|wpAny_bind<|wpAny_runValue ?_
  have G:l<s.heap.objs.size:=Heap.lt_size M;have h3:A.in1.in1.in1.handled=none:=by simp[V]
  have Y:l≠(s.heap.push { cls:=.type "set",dict:=none,data:=.set #[] 0 (.fresh 0 0<|Es w) }).objs.size:=by
   rw[Heap.size_push];exact cf<|hV G
  have nf:s.heap.objs.size ∉ [(s.heap.push { cls:=.type "set",dict:=none,data:=.set #[] 0 (.fresh 0 0<|Es w) }).objs.size,l]:=by
   rw[Heap.size_push];intro z;rcases ce.mp z with q | q
   ·exact absurd q<|cf<|gu _
   ·exact absurd (ax.mp q)<|ix G
  refine g_ ((Walks.tuple h3 _ l Y f).toS) s.heap.objs.size nf ns d.symm (λi v hv=>StrsAre.Wq hi i v<|by rw[Array.getElem?_toList];exact hv) (by rw[d];exact hb) (f.size - 0) 0 _ U (eJ _)
   ⟨⟨_,Heap.get?_push_size _ U,U,U⟩,u.push _⟩ ((cV s.heap).keep λo e=>Heap.get?_push_of_some _ e) λs' m g=>?_
  obtain⟨h',g',W,C,T⟩:=s';obtain rfl:g'=s.gens:=m.gens;obtain rfl:W=s.drawn:=m.drawn;obtain rfl:T=s.os:=m.os;show wpAny _ _ _ _ _ _;refine wpAny_pure ?_;show wpAny _ _ (ret Value.none) _ _ _;refine wpAny_pure ⟨U,h',C,U,g,λb o e=>?_⟩;have H:=Heap.lt_size e;refine m.heap b o (λz=>?_)<|Heap.get?_push_of_some _<|Heap.get?_push_of_some _ e
  rcases ce.mp z with q | q
  ·exact absurd q<|cf H
  ·have:=ax.mp q;rw[Heap.size_push] at this;exact absurd this<|cf<|hV H
 ·rcases X with e | k
  ·exact n
  obtain⟨r,rfl,n⟩:∃r,k=.ret r/\(r=.none/\∃h' tk,y = { s with heap:=h',toks:=tk }/\Jk prog w h' s.heap.objs.size (Es w) (ns.foldl Gh [])/\∀b o,s.heap.get? b=some o->h'.get? b=some o):=by
   cases k with
   |ret v=>exact⟨v,U,n⟩
   |_=>exact n.elim
  obtain⟨rfl,h',tk,rfl,g,hk⟩:=n;repeat (any_goals (first | assumption | wp_step))
  exact h _ _ g hk
end
end Ws
namespace L2
open PySem PySem.Spec PyProof.Rows
def Q4(P:Program)(w:World)(a:Addr)(τ:List Str):HO:=.ext λh=>Ws.Jk P w h a (Wd.Es w) τ
theorem XF{w:World}{τ:List Str}(g:Ws.Jk P w h a (Wd.Es w) τ):CW P w H h a (Q4 P w a τ) :=
 ⟨g,(let ⟨_,_,_,e,_⟩:=g;⟨_,e⟩),λ_ _ g k=>g.keep k⟩
theorem Ny:∀{ts:List Str}{us:List Value},Vals (ts.map V.str) us->Ws.StrsAre us ts
 |[],_,r=>by cases r;exact .nil
 |n::ns,_,r=>by
  cases r with
  |cons r t =>
   obtain⟨a,rfl⟩:=r;exact .cons n a<|Ny t
theorem V1(f:X.calm=true):Fe X (.type "set") (λxs H Q=>∃(l:Addr)(ts:List Str),xs=[V.ref l]/\Gr X.K H l (ts.map V.str)/\ts.length<=1000/\∀p,H p=none->Q (.ref p) (upd H p<|Q4 X.prog X.w p<|ts.foldl Ws.Gh [])):=by
 intro o s σ H xs n Q I r h;obtain⟨l,ts,rfl,hl,j,q⟩:=h;obtain⟨u,rfl,c⟩:=vals1 r
 cases c;obtain⟨b,a,d,_⟩:=I.tuple hl;have e:H s.heap.objs.size=none:=I.hok.fresh<|al _
 refine Ws.pJ (I.ok.hd f) d (by simpa using Ny a) (by unfold scanBound;omega) λm i g k=>?_;exact⟨.ref s.heap.objs.size,_,I.laid (t':=i) k (al _)<|XF g,U,q _ e⟩
theorem M6:Fe X (.builtin "len") (λxs H Q=>∃(a:Addr)(τ:List Str),xs=[V.ref a]/\H a=some (Q4 X.prog X.w a τ)/\Q (.int (τ.length:Nat)) H):=by
 intro p s σ H xs o Q I r h;obtain⟨a,τ,rfl,i,q⟩:=h;obtain⟨u,rfl,c⟩:=vals1 r
 cases c;obtain⟨⟨b,n,t,d,j,m,e,k,g,f,l⟩,_,_⟩:=(show CW X.prog X.w H s.heap a (Q4 X.prog X.w a τ) from I.hok a _ i);unfold scanBound at g;refine call_len_set d ⟨U,U,U⟩ U f (by omega) ⟨.int ((b.size:Nat):Int),H,I.tok _,⟨_,U⟩,?_⟩;rw[e];exact q
theorem Np:∀(ts τ:List Str),(τ++ts).Nodup->(ts.foldl Ws.Gh τ)=τ++ts
 |[],τ,_=>(dE _).symm
 |t::ts,τ,h=>by
  have a:t ∉ τ:=λz=>by
   rw[iF] at h;exact h.2.2 t z t (bg ..) U
  rw[List.foldl_cons];have e:Ws.Gh τ t=τ++[t]:=by unfold Ws.Gh;rw[if_neg a]
  rw[e,Np ts (τ++[t])<|by rw[fN];exact h,fN];rfl
end L2
namespace Og
open PySem L2
theorem az{K:W.Frag}{f:Str}(c:X.K=K)(b:PE X e ta)(a:attributeBase e f X.env (eval e X.env)=eval e X.env):PE X (.Attribute e f pos)<|sO K ta f:=by
 rw[<-c];exact Bc b a
structure ig(K:W.Frag)(aM:Addr)(ρ:V->R)(vs:List V)(r:R):Prop where
 w:r.w = "step"
 ts:∃ts:List Str,V.str r.nm::r.rest=ts.map V.str/\ts.Nodup/\ts.length<=24/\∀t∈ts,isNm t/\ZX ρ vs "stop" t=true
 room:∃(m:Int)(t:Tok),W.nsIn K aM r.w=some (some<|.int m t)/\(((vs.filter<|pw ρ r.w).length:Nat):Int)<m
abbrev Hu(K:W.Frag)(aB aP aM:Addr)(ρ:V->R)(vs:List V)(r:R):Prop:=O7 K aB aP aM ρ vs r \/ ig K aM ρ vs r
theorem Hu.room{K:W.Frag}(h:Hu K aB aP aM ρ vs r):W.nsIn K aM r.w=some none \/ ∃(m:Int)(t:Tok),W.nsIn K aM r.w=some (some<|.int m t)/\(((vs.filter<|pw ρ r.w).length:Nat):Int)<m :=
 h.elim (λh=>h.room.elim (λz=>.inl z.2) .inr) (λh=>.inr h.room)
def PX(r:R):List Str:=(V.str r.nm::r.rest).map λv=>match v with | .str t=>t | _=>""
theorem KC{a:List Str}(h:V.str r.nm::r.rest=a.map V.str):PX r=a:=by
 unfold PX;rw[h,ay];exact ki a
def stN(ks:List R)(r:R):Nat:=Wd.mk ((PX r).map λt=>(ks.map (·.nm)).idxOf t)
structure zx(K:W.Frag)(aB aP aM:Addr)(ρ:V->R)(us:List V)(bs:List<|Str×Nat)(rk:List<|Str×Nat×Int)(ks:List R):Prop where
 eb:(us.filter<|pw ρ "board").map ρ=bs.map Fd
 er:(us.filter<|pw ρ "rank").map ρ=rk.map Ft
 ek:(us.filter<|λv=>Il (ρ v).w).map ρ=ks
 ln:∀(i:Nat) v,us[i]? = some v->(ρ v).w = "line"->(∃(j:Nat)(r:Str × Nat × Int)(sh lo hi:Int),rk[j]? = some r/\r.1=(ρ v).nm/\(ρ v).rest=[.int sh,.int lo,.int hi])/\∃u∈us.take i,Il (ρ u).w=true
 st:∀v∈us,(ρ v).w = "step"->∃ts:List Str,V.str (ρ v).nm::(ρ v).rest=ts.map V.str/\ts.length<=24/\∀t∈ts,t∈ks.map (·.nm)
 b0:1<=bs.length
 b5:bs.length<=5
 sz:∀b∈bs,b.2<=61
 nr:rk.length<=12
 nz:∀r∈rk,r.2.1<=97
 nk:ks.length<=100
 nb:(bs.map (·.1)).Nodup
 nrr:(rk.map (·.1)).Nodup
 nn:(ks.map (·.nm)).Nodup
 len:us.length<=150
 ok:∀(i:Nat) v,us[i]? = some v->Hu K aB aP aM ρ (us.take i) (ρ v)
inductive pX(C:Addr)(H:Hp)(x:Addr)(us:List V)(bs:List<|Str×Nat)(rk:List<|Str×Nat×Int)(ks:List R)(ls:List<|List Ln)(sts:List Nat):Prop
 |mk(dx:Addr)(fs:List (Str×V))(rl kd ss:Addr)(kvs:List (Key×V))(q1:H x=some (.ins C dx fs))(q2:fs.lookup ("row_list" : Str)=some (.ref rl))(q3:fs.lookup ("knob_numbers" : Str)=some (.ref kd))(q4:fs.lookup ("step_sets" : Str)=some (.ref ss))(q5:H rl=some (.lst us))(q6:H kd=some (.dK kvs))(q7:(∀(i:Nat) t,(ks.map (·.nm))[i]? = some t->CN kvs (Sum.inr t)=some (.int (i:Nat))))(q8:(∀t,t ∉ ks.map (·.nm)->CN kvs (Sum.inr t)=none))(q9:H ss=some (.lst (sts.map λn:Nat=>V.int (n:Int))))(bn:Addr)(kb:List<|Key×V):fs.lookup ("board_numbers" : Str)=some (.ref bn)->H bn=some (.dK kb)->(∀t,t ∉ bs.map (·.1)->CN kb (Sum.inr t)=none)->pX C H x us bs rk ks ls sts
structure Hq(C:Addr)(H:Hp)(x:Addr)(us:List V)(bs:List<|Str×Nat)(rk:List<|Str×Nat×Int)(ks:List R)(ls:List<|List Ln)(sts:List Nat):Prop where
 o:En C H x bs rk ks ls
 m:pX C H x us bs rk ks ls sts
theorem Hq.mono{x:Addr}{bs:List (Str×Nat)}{rk:List (Str×Nat×Int)}(s:Am H H')(h:Hq C H x us bs rk ks ls sts):Hq C H' x us bs rk ks ls sts:=by
 obtain⟨o,e,fs,g,t,f,a,b,k,m,i,q,v,n,l,j,c,p,u,r,d⟩:=h;exact⟨o.mono s,e,fs,g,t,f,a,s _ _ b,k,m,i,s _ _ q,s _ _ v,n,l,s _ _ j,c,p,u,s _ _ r,d⟩
inductive Ef(p:Addr)(H:Hp)(D:Addr)(ls:List<|List Ln):Prop
 |mk(lv:_):H D=some (.lst lv)->D≠p->Paired (λl v=>G8 H l v/\v≠.ref p) ls lv->Ef p H D ls
theorem Ef.mono(s:Am H H')(h:Ef p H D ls):Ef p H' D ls:=by
 obtain⟨a,b,d,c⟩:=h;exact⟨a,s _ _ b,d,Paired.HW c λ_ _ q=>⟨q.1.mono s,q.2⟩⟩
theorem Ef.sx{x:Addr}{fs:List (Str×V)}(h:Ef p H D ls)(s:SX x H H')(a:H x=some (.ins C dx fs)):Ef p H' D ls:=by
 obtain⟨b,c,j,g⟩:=h;refine⟨b,s.lst a c,j,Paired.HW g λ_ _ q=>⟨?_,q.2⟩⟩;obtain⟨A,f,e,i,d⟩:=q.1;exact⟨A,f,e,s.lst a i,s.pair a d⟩
theorem XJ{a:List V}{y:V}(s:SX p H H')(b:H p=some (.lst us))(h:TupAt H a y):TupAt H' a y:=by
 obtain⟨T,rfl,e⟩:=h;exact⟨T,U,s _ _ e λz=>by rw[z,b] at e;cases e⟩
theorem JZ{α:Type}{f:α->List V}{l:List α}(s:SX p H H')(b:H p=some (.lst us))(h:Paired (λa y=>TupAt H (f a) y) l vs):Paired (λa y=>TupAt H' (f a) y) l vs:=Paired.HW h λ_ _ q=>XJ s b q
theorem Us(s:SX p H H')(b:H p=some (.lst us))(h:H a=some (.dK kvs)):H' a=some (.dK kvs):=s _ _ h λz=>by rw[z,b] at h;cases h
theorem Ef.sp(h:Ef p H D ls)(s:SX p H H')(j:H p=some (.lst us)):Ik H' D ls:=by
 obtain⟨a,b,i,e⟩:=h;refine⟨a,s _ _ b i,Paired.HW e λ_ v q=>?_⟩;obtain⟨⟨A,d,rfl,g,c⟩,f⟩:=q;exact⟨A,d,U,s _ _ g<|λz=>f<|by rw[z],JZ s j c⟩
end Og
namespace L2
open PySem PySem.Spec PyProof.Rows
def Dp:Nat->Hp->V->V->Prop
 |0,_,x,y=>x=y/\Et x=true
 |n+1,H,x,y=>(x=y/\Et x=true) \/ ∃a b xs ys,x=V.ref a/\y=V.ref b/\((H a=some (.lst xs)/\H b=some (.lst ys)) \/ (H a=some (.tup xs)/\H b=some (.tup ys)))/\Paired (Dp n H) xs ys
theorem Zq{x:V}(h:Et x=true):Dp n H x x:=by
 cases n with
 |zero=>exact⟨U,h⟩
 |succ n=>exact .inl ⟨U,h⟩
theorem FP{R:V->V->Prop}:∀{xs ys:List V},Paired R xs ys->∀j,j<xs.length->R (xs.getD j .non) (ys.getD j .non)
 |_,_,.nil,j,h=>absurd h<|iA _
 |_,_,.cons a b,0,_=>a
 |_,_,.cons a b,j+1,h=>FP b j<|Nat.lt_of_succ_lt_succ h
theorem K8(I:Inv X a8 σ H s):∀(n:Nat)(A:Around)(x y:V)(u v:Value),A.units+n<cLine->Dp n H x y->RelV x u->RelV y v->SeqAt.EqAt A s u v true
 |0,A,x,y,u,v,G,h,q,o=>by
  obtain⟨rfl,d⟩:=h;have:=O8 (A:=A) (s:=s) q o d d;rw[Qn d] at this;exact this
 |n+1,A,x,y,u,v,G,h,q,o=>by
  rcases h with⟨rfl,d⟩ | ⟨a,b,F,E,rfl,rfl,r,p⟩
  ·have:=O8 (A:=A) (s:=s) q o d d;rw[Qn d] at this;exact this
  ·cases q
   cases o;by_cases l:a=b
   ·subst l;exact SeqAt.EqAt.same _
   ·refine SeqAt.EqAt.of_refs l ?_;have M:=p.length;rcases r with⟨t,C⟩ | ⟨t,C⟩
    ·obtain⟨g,m,D,_⟩:=I.list (show De X.K H a F from .inl<|.inl t);obtain⟨i,k,B,_⟩:=I.list (show De X.K H b E from .inl<|.inl C);have K:=m.length;have L:=k.length;have h:=SeqAt.RcAt.lists (A:=A) (e:=λ_=>true) D.isList B.isList (by simp;omega) (by omega) (λj w z=>by
      have f:j<g.length:=by simpa using w
      have c:j<i.length:=by simpa using z
      simp only[List.getElem_toArray];exact K8 I n A.in1 _ _ _ _ (by show A.units+1+n<cLine;omega) (FP p j<|by omega) (Gm m f)<|Gm k c)
     have e:((List.range g.toArray.size).all λ_=>true)=true:=fb.mpr λ_ _=>rfl;rw[e] at h;exact h
    ·obtain⟨g,m,D,_⟩:=I.tuple (show Gr X.K H a F from .inl<|.inl t);obtain⟨i,k,B,_⟩:=I.tuple (show Gr X.K H b E from .inl<|.inl C);have K:=m.length;have L:=k.length;have h:=SeqAt.RcAt.tuples (A:=A) (e:=λ_=>true) D B (by omega) (λj w z=>by
      have f:j<g.length:=by simpa using w
      have c:j<i.length:=by simpa using z
      simp only[List.getElem_toArray];exact K8 I n A.in1 _ _ _ _ (by show A.units+1+n<cLine;omega) (FP p j<|by omega) (Gm m f)<|Gm k c)
     have e:((List.range<|min g.toArray.size i.toArray.size).all λ_=>true)=true:=fb.mpr λ_ _=>rfl;have J:(g.toArray.size == i.toArray.size)=true:=beq_iff_eq.mpr<|by simp;omega
     rw[e,J] at h;exact h
theorem Yp(n:Nat)(O:X.A.units+(n+1)<cLine):G7 X (compareOp .Eq) (λx y H Q=>∃a b,x=V.ref a/\y=V.ref b/\Dp (n+1) H x y/\Q (.bl true) H):=by
 intro P s σ H x y v u Q I L K h;obtain⟨a,b,rfl,rfl,h,k⟩:=h;rcases h with⟨_,C⟩ | ⟨R,N,B,A,F,D,m,p⟩
 ·cases C
 cases F
 cases D
 cases L
 cases K;have M:=p.length;rcases m with⟨o,r⟩ | ⟨o,r⟩
 ·obtain⟨f,l,z,_⟩:=I.list (show De X.K H a B from .inl<|.inl o);obtain⟨g,i,w,_⟩:=I.list (show De X.K H b A from .inl<|.inl r);have G:=l.length;have J:=i.length;refine SeqAt.eq_listAt (e:=λ_=>true) z.isList w.isList (by simp;omega) (by omega) (λj q t=>by
   have d:j<f.length:=by simpa using q
   have c:j<g.length:=by simpa using t
   simp only[List.getElem_toArray];exact K8 I n X.A.in1 _ _ _ _ (by show X.A.units+1+n<cLine;omega) (FP p j<|by omega) (Gm l d)<|Gm i c) ⟨.bl true,H,I,?_,k⟩
  have e:((List.range f.toArray.size).all λ_=>true)=true:=fb.mpr λ_ _=>rfl;rw[e];exact rfl
 ·obtain⟨f,l,z,_⟩:=I.tuple (show Gr X.K H a B from .inl<|.inl o);obtain⟨g,i,w,_⟩:=I.tuple (show Gr X.K H b A from .inl<|.inl r);have G:=l.length;have J:=i.length;refine SeqAt.eq_tupleAt (e:=λ_=>true) z w (by omega) (λj q t=>by
   have d:j<f.length:=by simpa using q
   have c:j<g.length:=by simpa using t
   simp only[List.getElem_toArray];exact K8 I n X.A.in1 _ _ _ _ (by show X.A.units+1+n<cLine;omega) (FP p j<|by omega) (Gm l d)<|Gm i c) ⟨.bl true,H,I,?_,k⟩
  have e:((List.range<|min f.toArray.size g.toArray.size).all λ_=>true)=true:=fb.mpr λ_ _=>rfl;have E:(f.toArray.size == g.toArray.size)=true:=beq_iff_eq.mpr<|by simp;omega
  rw[e,E];exact rfl
open PySem PySem.Spec PySem.Calls PyProof.Rows
inductive cj(h:Heap)(x T C:Addr)(od:Option Addr)(fl:Value):Prop
 | mk(vs ts:Array Value)(sl:Array (Option Value:_))(oT:Obj):h.get? x=some ⟨.ref C,od,.fields vs,sl⟩->vs[1]? = some (.ref T)->T≠x->h.get? T=some oT->oT.data=.fields ts->ts[3]? = some fl->cj h x T C od fl
structure Mv(fs:List Addr)(x T:Addr)(h h':Heap):Prop where
 keep:∀b o,h.get? b=some o->b≠x->b≠T->b ∉ fs->h'.get? b=some o
 any:∀b o,h.get? b=some o->b≠x->b≠T->∃sl,h'.get? b=some { o with slots:=sl }
section
variable{M:Model}{env:Env}{outer:List Env}{L x T:Addr}{od:Option Addr}{Q:Unit->Shared->Prop}
theorem Mr{vs:Array Value}{k:Array (Option Value)}{head:Value}{v:Bool}(t:A.frames=some (env::outer))(hl:s.heap.FunFrames base<|env::outer)(z:env.frame=some L)
  (u:s.heap.get? x=some ⟨.ref C,od,.fields vs,k⟩)(hsz:1<vs.size)
  (h:∀h' T',cj h' x T' C od (rawInt L)->Mv (frs<|env::outer) x x s.heap h'->s.heap.get? T'=none->Q () { s with heap:=h' }) :
  wpAny M A (do let a <-frameOf env;let pl <-entryPlaceOf L v;let b <-EntryCells.newEntry head a .none (rawInt L) .none pl;setField (.ref x) 1 b) Q E s:=by
 have d:x ∉ (env::outer).filterMap (·.frame):=λy=>by
  obtain⟨_,o,l,w⟩:=hl.mem y;rw[u] at l;injection l with l;subst l;exact w vs U
 refine wpAny_bind<|wpAny_frameOf_fun t hl z λc j=>?_
 refine wpAny_bind<|wpAny_entryPlaceOf λpl e=>?_
 unfold EntryCells.newEntry newFields;refine wpAny_bind<|wpAny_newObj_type ?_<|e.sizeOk5 _ _ _ _ _
 have g:c.get? x=some ⟨.ref C,od,.fields vs,k⟩:=(j.2.1 x d).trans u;have i:=Heap.get?_push_of_some (h:=c) { cls:=.type "traceback",dict:=none,data:=.fields ([head,.ref L,.none,rawInt L,.none]++(if pl.isEmpty then List.replicate 6 Value.none else pl)).toArray } g;refine wpAny_setField i U hsz ?_;have f:c.objs.size≠x:=ix<|Heap.lt_size g
 have q:=Obj.data_mapFields (o:=⟨.ref C,od,.fields vs,k⟩) U (·.setIfInBounds 1 (Value.ref c.objs.size));have p:=Heap.get?_update_self (Obj.mapFields (·.setIfInBounds 1 (Value.ref c.objs.size))) i<|Obj.isFreed_of_fields q
 have n:=(Heap.get?_update_other (c.push { cls:=.type "traceback",dict:=none,data:=.fields ([head,.ref L,.none,rawInt L,.none]++(if pl.isEmpty then List.replicate 6 Value.none else pl)).toArray })
  (Obj.mapFields (·.setIfInBounds 1 (Value.ref c.objs.size))) (Ne.symm f)).trans (Heap.get?_push_size c U)
 refine h _ c.objs.size ⟨_,_,k,_,p,by simp[hsz],f,n,U,by first | (simp;done) | (rcases e with rfl | ⟨_,_,_,_,_,_,_,rfl⟩ <;> simp)⟩ ⟨λb o r m _ D=>?_,λb o r m _=>?_⟩ ?_
 ·rw[Heap.get?_update_other _ _ (Ne.symm m)];exact Heap.get?_push_of_some _<|(j.2.1 b D).trans r
 ·obtain⟨F,B⟩:=j.2.2 b o r;rw[Heap.get?_update_other _ _ (Ne.symm m)];exact⟨F,Heap.get?_push_of_some _ B⟩
 ·refine Heap.get?_none_of_le ?_;rw[j.1];exact al _
theorem Sg{vs:Array Value}{e:Array (Option Value)}(a:A.frames=some (env::outer))(hl:s.heap.FunFrames base<|env::outer)(d:env.frame=some L)
  (c:s.heap.get? x=some ⟨.ref C,od,.fields vs,e⟩)(b:vs[1]? = some .none)
  (h:∀h' T',cj h' x T' C od (rawInt L)->Mv (frs<|env::outer) x x s.heap h'->s.heap.get? T'=none->Q () { s with heap:=h' }):wpAny M A (noteFrame (.ref x) env) Q E s:=by
 unfold noteFrame;simp only[d];refine wpAny_bind<|wpAny_field c U b ?_
 rw[if_neg (by decide)];exact Mr a hl d c (Array.getElem?_eq_some_iff.mp b).1 h
theorem Ue(r:A.frames=some (env::outer))(hl:s.heap.FunFrames base<|env::outer)(v:env.frame=some L)(H:cj s.heap x T C od .none)
  (h:∀h' T',cj h' x T' C od (rawInt L)->Mv (frs<|env::outer) x T s.heap h'->s.heap.get? T'=none->Q () { s with heap:=h' }):wpAny M A (noteFrame (.ref x) env) Q E s:=by
 obtain⟨w,F,K,J,B,t,l,g,i,D⟩:=H;have f:=(Array.getElem?_eq_some_iff.mp D).1;unfold noteFrame;simp only[v];refine wpAny_bind<|wpAny_field B U t ?_
 rw[if_pos (show (Value.ref T != Value.none)=true from by simp)];refine wpAny_bind<|wpAny_field g i D ?_
 rw[if_neg (show ¬ ((Value.none == rawInt L)=true) from by simp[rawInt])];refine wpAny_bind<|wpAny_setField g i f ?_
 have a:∀b,b≠T->(s.heap.update T (Obj.mapFields (·.setIfInBounds 3 Value.none))).get? b=s.heap.get? b:=λb d=>Heap.get?_update_other _ _<|Ne.symm d
 have p:=Heap.get?_update_self (Obj.mapFields (·.setIfInBounds 3 Value.none)) g<|Obj.isFreed_of_fields<|Obj.data_mapFields i _
 have c:∀b o,s.heap.get? b=some o->(∀w,o.data≠.fields w)->b≠T:=λb o d j q=>by
  rw[q,g] at d;injection d with d;subst d;exact j F i
 refine Mr (s:={ s with heap:=s.heap.update T (Obj.mapFields (·.setIfInBounds 3 Value.none)) }) r (hl.of_keeps λb o d j=>⟨o,(a b<|c b o d j).trans d,U⟩) v ((a x<|Ne.symm l).trans B) (Array.getElem?_eq_some_iff.mp t).1 λh' T' y m n=>?_;have G:T'≠T:=λz=>by
  subst z;have u:(s.heap.update T' (Obj.mapFields (·.setIfInBounds 3 Value.none))).get? T'=none:=n;rw[p] at u;cases u
 exact h h' T' y ⟨λb o d e k I=>m.keep b o ((a b k).trans d) e e I,λb o d e k=>m.any b o ((a b k).trans d) e e⟩<|(a T' G).symm.trans n
theorem Gb{r:Value}(n:cj s.heap x T C od r)(h:∀h',cj h' x T C od .none->Mv [] x T s.heap h'->Q () { s with heap:=h' }):wpAny M A (setFlight (.ref x) none) Q E s:=by
 obtain⟨p,m,q,u,k,j,e,l,i,t⟩:=n;have c:3<m.size:=(Array.getElem?_eq_some_iff.mp t).1;have a:∀b,b≠T->(s.heap.update T (Obj.mapFields (·.setIfInBounds 3 ((none:Option Addr).elim Value.none λf=>rawInt f)))).get? b=s.heap.get? b :=
  λb d=>Heap.get?_update_other _ _<|Ne.symm d
 unfold setFlight;refine wpAny_bind<|wpAny_field k U j ?_
 rw[if_pos (show (Value.ref T != Value.none)=true from by simp)];refine wpAny_setField l i c<|h _ ?_ ⟨λb o d _ g _=>(a b g).trans d,λb o d _ g=>⟨o.slots,(a b g).trans d⟩⟩
 exact⟨p,_,q,_,(a x<|Ne.symm e).trans k,j,e,Heap.get?_update_self _ l<|Obj.isFreed_of_fields<|Obj.data_mapFields i _,Obj.data_mapFields i _,by simp[c]⟩
end
section
variable{w:World}{fs:List Addr}{h1 h2 h3:Heap}{x T T':Addr}
theorem Wm{o:Obj}(e:h.get? b=some o)(n:h.get? y=none):b≠y:=λz=>by
 rw[z,n] at e
 cases e
theorem GQ.mv(k:GQ P w H h)(m:Mv fs x T h h1)(a:H x=none)(i:H T=none)(d:∀b∈fs,H b=none):GQ P w H h1:=λb u e=>by
 have ne:∀c,H c≠none->c≠x/\c≠T/\c ∉ fs:=λc q=>⟨λz=>q<|z ▸ a,λz=>q<|z ▸ i,λz=>q<|d c z⟩;refine (k b u e).stay (λc v j q=>?_) (λ_ q=>q) λ_ _ q=>q;have l:H c≠none:=by
  rcases j with z | z
  ·rw[z,e];simp
  ·rw[z];simp
 obtain⟨f,g,n⟩:=ne c l;exact m.keep c v q f g n
theorem Un.mv{i:List Addr}(u:Un i [] H H' h h1)(m:Mv fs x T h1 h2)(k:h.get? x=none)(r:h.get? T=none)(l:∀b∈fs,b ∉ i->h.get? b=none):Un i [] H H' h h2:=by
 have ne:∀b o,h.get? b=some o->b≠x/\b≠T:=λb o e=>⟨Wm e k,Wm e r⟩;refine⟨λb o e n f a=>?_,λb o e n f a=>?_,u.free,λb o e a=>?_,u.tups,u.frzs,u.tbls⟩
 ·obtain⟨c,d⟩:=ne b o e;refine m.keep b o (u.keep b o e n f a) c d λz=>?_;have:=l b z f;rw[e] at this;cases this
 ·obtain⟨c,d⟩:=ne b o e;obtain⟨q,j⟩:=u.slot b o e n f a;obtain⟨s,g⟩:=m.any b _ j c d;exact⟨s,g⟩
 ·obtain⟨c,d⟩:=ne b o e;obtain⟨p,j⟩:=u.there b o e a;obtain⟨q,g⟩:=m.any b p j c d;exact⟨_,g⟩
end
def Gp(P:Program)(w:World):V0:=λouter H s E e s'=>∃(x T C:Addr)(od:Option Addr)(H':Hp),e=.ref x/\s'.os=s.os/\AllBare s'.gens/\cj s'.heap x T C od .none/\s.heap.get? x=none/\s.heap.get? T=none /\
 H' x=none/\H' T=none/\GQ P w H' s'.heap/\Un (frs outer) [] H H' s.heap s'.heap/\E (.ref C) od H'
def nO(X:Cx)(C:Addr)(E:XK):Prop:=∀(a8:List<|Addr × Obj)(σ:St)(H:Hp)(s:Shared)(h':Heap)(x:Addr)(as:List Value),Inv X a8 σ H s->Heap.MadeExcOf s.heap h' x (.ref C) as->E (.ref C) none H->X.xe (.ref x) { s with heap:=h' }
theorem HQ{w:World}{K:W.Frag}{N:List Str}{i:Value}{a:List Env}{E:XK} :
  nO (Kd (Gp P w) P w K mg base N qual scope f i A a s H E) C E:=by
 intro a8 σ d k B x as I g q;obtain⟨t,he,V,ht⟩:=g.there;have c:∀b,k.heap.get? b=none->s.heap.get? b=none:=λb e=>by
  cases z:s.heap.get? b with
  |none=>rfl
  |some o =>
   obtain⟨o',Q⟩:=I.base.there b o z<|by show b ∉ ([]:List Addr);simp
   rw[e] at Q;cases Q
 have h:d x=none:=I.hok.none_of g.new;have frees:∀b∈frs (envOfC qual scope s.heap.objs.size f i::a),d b=none:=I.Jd;have M:(A.deeper<|envOfC qual scope s.heap.objs.size f i).frames=some (envOfC qual scope s.heap.objs.size f i::a):=I.ok.frames;have G:k.heap.FunFrames base<|envOfC qual scope s.heap.objs.size f i::a:=I.stack
 have X:Un (frs a) [] H d s.heap k.heap:=I.base;have j:GQ P w d k.heap:=I.hok;have D:∀b∈frs (envOfC qual scope s.heap.objs.size f i::a),b ∉ frs a->s.heap.get? b=none:=λb F hn=>by
  rcases List.mem_cons.mp (show b∈s.heap.objs.size::frs a from F) with z | z
  ·rw[z];exact Heap.get?_none_of_le<|al _
  ·exact absurd z hn
 show wpAny (model P w) (A.deeper<|envOfC qual scope s.heap.objs.size f i) (leaving (envOfC qual scope s.heap.objs.size f i)<|.ref x) _ _ _;unfold leaving;refine wpAny_bind<|Sg (s:={ k with heap:=B }) (L:=s.heap.objs.size) M (G.of_keeps λb o F _=>⟨o,g.keeps b o F,U⟩) U he U λJ T y m n=>?_
 refine Gb (s:={ k with heap:=J }) y λO y3 S=>?_;have l:k.heap.get? T=none:=by
  cases z:k.heap.get? T with
  |none=>rfl
  |some o =>
   have R:B.get? T=none:=n;rw[g.keeps T o z] at R;cases R
 have v:d T=none:=j.none_of l;have r:GQ P w d B:=j.kept g.keeps;have u:GQ P w d J:=r.mv m h h frees;have p:GQ P w d O:=u.mv S h v (λ_ z=>nomatch z);have Y:Un (frs a) [] H d s.heap B:=X.trans<|Un.kept g.keeps
 have uB:Un (frs a) [] H d s.heap J:=Y.mv m (c x g.new) (c x g.new) D;have Z:Un (frs a) [] H d s.heap O:=uB.mv S (c x g.new) (c T l) (λ_ z=>nomatch z);exact⟨x,T,C,none,d,U,I.os,I.bare,y3,c x g.new,c T l,h,v,p,Z,q⟩
section
variable{t:TA}{np i4:Pos}{E:XK}
def kJ(C:Addr)(E:XK)(t:TA):TS:=λ_ σ H=>t σ H λvs H1=>vs.length<=1000/\E (.ref C) none H1
theorem GK(q:W.excIn X.K C RT "ValueError.__new__" = true)(F:Gl X x)(y:X.mg x=some (.ref C))(n:X.calm=true)(hl:nO X C E)(p:PA X (e::es) t)
  (A:(x == ("__debug__" : Str))=false:=by decide) (d:starEach (e::es) X.env=(false,eval e X.env)::starEach es X.env:=by rfl) (c:(backTo i4<|starEach es X.env).any (·.1)=false:=by rfl) :
  PS X (.Raise (some<|.Call (.Name x np) (e::es) [] i4) none pos) (kJ C E t):=by
 intro f s σ H D I h;obtain⟨bm,N,nm,m,bs,hdct,sn,sub,ab,col,dd,k0,k1,k2,k3,k5,mN,o,z,l,g⟩:=Ug I.ok.mod.kin q;have a:(backTo i4<|starEach (e::es) X.env).any (·.1)=false:=by
  rw[d];show (false || (backTo i4<|starEach es X.env).any (·.1))=false;rw[c];rfl
 refine wpAny_Raise_call_subU (nm:=nm) (q:=m) (C:=C) (N:=N) (bs:=bs) (bm:=bm) (hdct:=hdct) (sn:=sn) (sub:=sub) (ab:=ab) (col:=col) (dd:=dd) (k0:=k0) (k1:=k1) (k2:=k2) (k3:=k3) (k5:=k5) (mN:=mN)
  PySem.F.excBase_ValueError (by decide) PySem.F.excBase_ValueError (g.hasType<|by decide) (I.ok.hd n) a l (Jz I F y ⟨U,?_⟩ A)
 have:=p i4 f s σ H _ I h;rw[d] at this |-;refine Calls.evalArgs_plain<|CT this λu w ⟨G,i,b,r,v,j⟩=>⟨U,?_,b.bk _ _ o,z.keeps b.bk,g.keeps b.bk,λk x B=>?_⟩
 ·show u.length<=sizeLine;rw[<-r.length];exact fT<|BJ v
 ·exact hl f σ i w k x _ b B j
end
theorem Pk{w:World}{K:W.Frag}{x O:Addr}{m:Option Addr}{d:Data}{o:Array (Option Value)}{b:Bool}{Q:Bool->Shared->Prop}
  (X:K.In s.heap)(l:s.heap.get? x=some ⟨.ref C,m,d,o⟩)(q:W.excIn K O RT "ValueError.__new__" = true)(n:W.mroIn K C (.ref O)=some b)(h:Q b s):wpAny (model prog w) A (excMatches (.ref x)<|.ref O) Q E s:=by
 obtain⟨j,N,S,F,bs,e,B,sub,u,k,t,y,r,G,J,I,D,i,P,z,p⟩:=Ug X q;have a:j.contains (.type "BaseException")=true:=p.hasType<|by decide
 have c:(Value.ref O::j).contains (.type "BaseException")=true:=by rw[List.contains_cons,a,Bool.or_true]
 have L:=W.looks_mroIn (M:=model prog w) X n;have f:=tc_notTuple;obtain⟨R,g,v,H,os⟩:=s;unfold excMatches;repeat (first | with_reducible refine wpAny_loadPart_at l ?_ | with_reducible refine wpAny_loadPart_at i ?_ | (with_reducible refine wpAny_isSubtype_exc i ?_;rw[c]) | with_reducible refine L.at ?_ | wp_step)
 cases b <;> (wp_walk;exact h)
abbrev Cx.inX(X:Cx)(x:Addr):Cx:={ X with A:=X.A.mark<|some<|.ref x,calm:=false }
theorem Inv.inX(I:Inv X a8 σ H s)(x:Addr):Inv (X.inX x) a8 σ H s :=
 ⟨⟨I.ok.mod,I.ok.kind,I.ok.glob,I.ok.blt,I.ok.above,I.ok.inj,I.ok.has,I.ok.cab,(λz=>nomatch z),I.ok.frames,I.ok.stk,I.ok.exf,I.ok.bs,I.ok.bsz,I.ok.noex,I.ok.exfs,I.ok.Kc,I.ok.frf⟩,
  I.os,I.bare,I.base,I.loc,I.cell,I.free,I.freeC,I.pin,I.hok,I.len⟩
theorem Inv.bA{x:Addr}(ok:X.Ok)(I:Inv (X.inX x) a8 σ H s):Inv X a8 σ H s:=⟨ok,I.os,I.bare,I.base,I.loc,I.cell,I.free,I.freeC,I.pin,I.hok,I.len⟩
def Ends.drop(D:Ends)(i:Nat):Ends:={ nx:=λσ H=>D.nx (σ.set i none) H,rt:=D.rt,bk:=λσ H=>D.bk (σ.set i none) H,ct:=λσ H=>D.ct (σ.set i none) H }
section
variable{w:World}{K:W.Frag}
theorem Cd.wk{st:Stmt}{N:List Str}{k:Nat}{sp:Sp}(F:Cd K x qual st f fd)(S:Av N ps<|Af st)(len:∀vs H Q E,sp vs H Q E->vs.length=ps.length)
  (e:∀(b:Value)(A:Around)(a:List Env)(s:Shared)(H:Hp)(vs:List V)(Q:VK)(E:XK),A_ k (A.deeper<|envOfC qual (Af st) s.heap.objs.size f b)->sp vs H Q E ->
   ∃t,PN (Kd (Gp P w) P w K mg base N qual (Af st) f b A a s H E) (CZ st) t/\t { nx:=λ_ H'=>Q .non H',rt:=Q } (start N vs) H):An P w K mg base (Gp P w) (k+1) f fd ps sp:=by
 obtain⟨l,r,kV,j,m,p,b,n,o,rfl,d,g⟩:=F.ex;refine YS d g S len λA a s H vs Q E c i=>?_;obtain⟨t,h,q⟩:=e b A a s H vs Q E c i;exact⟨t,h,q⟩
theorem Cd.Jx{st:Stmt}{N:List Str}{k:Nat}{sp:Sp}(F:Cd K x qual st f fd)(S:Av N ps<|Af st)
  (c:∀{b:Value}{A:Around}{a:List Env}{s:Shared}(H:Hp)(vs:List V)(Q:VK)(E:XK),A_ k (A.deeper<|envOfC qual (Af st) s.heap.objs.size f b)->sp vs H Q E ->
   ∃t,PN (Kd (Gp P w) P w K mg base N qual (Af st) f b A a s H E) (CZ st) t/\t { nx:=λ_ H'=>Q .non H',rt:=Q } (start N vs) H)
  (len:∀vs H Q E,sp vs H Q E->vs.length=ps.length:=by intro _ _ _ _ h;cases h;subst_vars;rfl):An P w K mg base (Gp P w) (k+1) f fd ps sp:=F.wk S len λ_ _ _ _ H vs Q E=>c H vs Q E
end
theorem Un.xx{fs g:List Addr}{j l:Heap}(a:Un fs [] H H1 h j)(b:Un g [] H1 H2 j l)(A:∀x∈g,x∈fs \/ h.get? x=none):Un fs [] H H2 h l where
 keep:=λc o q n f d=>by
  have v:c ∉ g:=λz=>by
   rcases A c z with e | e
   ·exact f e
   ·rw[q] at e;cases e
  exact b.keep c o (a.keep c o q n f d) (a.free c o q n d) v d
 slot:=λc o q n f d=>by
  obtain⟨B,e⟩:=a.slot c o q n f d;obtain⟨y,w⟩:=b.any e (a.free c o q n d) d;exact⟨y,w⟩
 free:=λc o q n d=>by
  obtain⟨i,e⟩:=a.there c o q d;exact b.free c i e (a.free c o q n d) d
 there:=λc o q d=>by
  obtain⟨i,e⟩:=a.there c o q d;exact b.there c i e d
 tups:=λc k q=>b.tups c k<|a.tups c k q
 frzs:=λc o u q=>b.frzs c o u<|a.frzs c o u q
 tbls:=λc p q=>by
  obtain⟨t,s⟩:=a.tbls c p q;obtain⟨r,m⟩:=b.tbls c _ s;exact⟨t++r,by rw[m,Array.append_assoc]⟩
theorem Dm{w:World}{K:W.Frag}{N:List Str}{d:Value}{a:List Env}{E:XK} :
  Gi (Gp P w) (Kd (Gp P w) P w K mg base N qual scope f d A a s H E) E:=by
 rintro a8 σ Q j e s' I ⟨x,T,C,od,i,rfl,os,h,y,t,nT,G,pe,v,V,q⟩;have c:∀b,j.heap.get? b=none->s.heap.get? b=none:=λb e=>by
  cases z:s.heap.get? b with
  |none=>rfl
  |some o =>
   obtain⟨o',m⟩:=I.base.there b o z<|by show b ∉ ([]:List Addr);simp
   rw[e] at m;cases m
 have M:j.os=s.os:=I.os;obtain⟨k,g,r,B,Ev⟩:=s';obtain rfl:Ev=j.os:=os;have X:=I.call (h':=k) (g':=g) (d':=r) (t':=B) (ch:=[]) V v h<|λb z=>absurd z<|by simp
 have O:(A.deeper<|envOfC qual scope s.heap.objs.size f d).frames=some (envOfC qual scope s.heap.objs.size f d::a):=I.ok.frames;have J:k.FunFrames base<|envOfC qual scope s.heap.objs.size f d::a:=X.stack
 have frees:∀b∈frs (envOfC qual scope s.heap.objs.size f d::a),i b=none:=X.Jd;have n:∀b∈frs (envOfC qual scope s.heap.objs.size f d::a),b∈frs a \/ s.heap.get? b=none:=λb D=>by
  rcases List.mem_cons.mp (show b∈s.heap.objs.size::frs a from D) with z | z
  ·rw[z];exact .inr<|Heap.get?_none_of_le<|al _
  ·exact .inl z
 have u0:Un (frs a) [] H Q s.heap j.heap:=I.base;have Z:Un (frs a) [] H i s.heap k:=u0.xx (show Un (frs<|envOfC qual scope s.heap.objs.size f d::a) [] Q i j.heap k from V) n;show wpAny (model P w) (A.deeper<|envOfC qual scope s.heap.objs.size f d) (leaving (envOfC qual scope s.heap.objs.size f d)<|.ref x) _ _ _;unfold leaving;refine wpAny_bind<|Ue (s:=⟨k,g,r,B,j.os⟩) (L:=s.heap.objs.size) O J U y λh3 T3 y3 Y S=>?_
 refine Gb (s:=⟨h3,g,r,B,j.os⟩) y3 λh4 y4 R=>?_;have l:s.heap.get? T3=none:=by
  cases z:s.heap.get? T3 with
  |none=>rfl
  |some o =>
   obtain⟨o',m⟩:=Z.there T3 o z<|by simp
   have u:k.get? T3=none:=S;rw[u] at m;cases m
 have p:i T3=none:=v.none_of S;have F:∀b∈frs (envOfC qual scope s.heap.objs.size f d::a),b ∉ frs a->s.heap.get? b=none:=λb D hn=>(n b D).resolve_left hn;have u3:=Z.mv Y (c x t) (c T nT) F;have u4:=u3.mv R (c x t) l (λ_ z=>nomatch z);have k3:GQ P w i h3:=GQ.mv (P:=P) (w:=w) v Y G pe frees;have k4:GQ P w i h4:=k3.mv R G p (λ_ z=>nomatch z);exact⟨x,T3,C,od,i,U,M,h,y4,c x t,l,G,p,k4,u4,q⟩
abbrev XR:=Value->Option Addr->St->Hp->Prop
inductive XT(X:Cx)(a8:List<|Addr×Obj)(ER:XR)(e:Value)(s':Shared):Prop
 |mk(σ H1 s1:_):Inv X a8 σ H1 s1->Gp X.prog X.w X.stack H1 s1 (λC od H2=>ER C od σ H2) e s'->XT X a8 ER e s'
def PST(X:Cx)(ER:XR)(st:Stmt)(t:TS):Prop :=
 ∀(a8:List<|Addr × Obj)(s:Shared)(σ:St)(H:Hp)(D:Ends),Inv X a8 σ H s->t D σ H->wpAny (model X.prog X.w) X.A (exec st X.env) (SP X a8 D) (XT X a8 ER) s
def pG(X:Cx)(ER:XR)(st:List Stmt)(t:TS):Prop :=
 ∀(a8:List<|Addr × Obj)(s:Shared)(σ:St)(H:Hp)(D:Ends),Inv X a8 σ H s->t D σ H->wpAny (model X.prog X.w) X.A (execs st X.env) (SP X a8 D) (XT X a8 ER) s
def PET(X:Cx)(ER:XR)(e:Expr)(t:TE):Prop :=
 ∀(a8:List<|Addr × Obj)(s:Shared)(σ:St)(H:Hp)(Q:VK),Inv X a8 σ H s->t σ H Q->wpAny (model X.prog X.w) X.A (eval e X.env) (EP X a8 σ Q) (XT X a8 ER) s
section
variable{ER:XR}{st:Stmt}{sts:List Stmt}{t u:TS}
theorem ZG(a:PST X ER st t):pG X ER [st] t:=by
 intro b s σ H D I h;refine wpAny_execs_cons<|CT (a b s σ H D I h) λf c q=>?_
 cases f with
 |next=>exact wpAny_execs_nil q
 |brk=>exact q
 |cont=>exact q
 |ret u=>exact q
theorem Z1{a:Pos}(k:X.N.Nodup)(hi:X.N[i]? = some x)(b:Loc X.env.scope x)(l:PET X ER e te)(n:swapsWith e (some<|.Name x a) pos.line X.env=pure false:=by rfl)
  (j:X.fn x=true \/ X.env.scope.names.lookup x=some .local:=by first | exact .inl rfl | exact .inr rfl | assumption):PST X ER (.Assign [.Name x a] e pos)<|Qd te<|Cm i:=by
 intro o s σ H D I h;refine wpAny_Assign_Name (CT (l o s σ H _ I h) λv q ⟨y,c,d,m,f⟩=>?_) n;exact Ma d k hi b m (λp g=>⟨_,c,g,f⟩) j
end
section
variable{ER:XR}{k:Nat}{sp:Sp}{mm:List V}{ds:List Value}{m:Str}{p:Pos}{o:Expr}{t:TA}
def gP(C:Addr)(m:Str)(sp:Sp)(mm:List V)(ER:XR)(ta:TE)(t:TA):TE:=λσ H Q=>YW C m sp mm (λC od H2=>ER C od σ H2) ta t σ H Q
theorem Zu{Q:VK}{us:List Value}(F:An X.prog X.w X.K X.mg X.base (Gp X.prog X.w) k f fd ps sp)(c:A_ k X.A)(d:Binds X.K fd ps ds)(g:Vals mm ds)
  (I:Inv X a8 σ H s)(r:Vals vs us)(h:sp (vs++mm) H Q<|λC od H2=>ER C od σ H2):wpAny (model X.prog X.w) X.A (call (.ref f) us) (EP X a8 σ Q) (XT X a8 ER) s:=by
 have b:Vals (vs++mm)<|us++ds:=r.append g
 have hl:(us++ds).length=ps.length:=by rw[<-b.length];exact F.len _ _ _ _ h
 refine wpAny_call<|codeAny_mono (F.run X.A X.stack s H ⟨us,[]⟩ (us++ds) (vs++mm) Q _ c I.env0 (d s us I.G_ hl) b h) λr j a=>?_
 cases r with
 |error e=>exact⟨σ,H,s,I,a⟩
 |ok i =>
  cases i with
  |ret u=>exact I.after a
  |next=>exact False.elim a
  |brk=>exact False.elim a
  |cont=>exact False.elim a
theorem ZV{pl:Sem Bool}(A:PE X o ta)(c:Pj X.K C)(n:Meth X.K C m f)(F:An X.prog X.w X.K X.mg X.base (Gp X.prog X.w) k f fd ps sp)(v:A_ k X.A)(E:Binds X.K fd ps ds)(L:Vals mm ds)(B:PA X (e::es) t)
  (i:X.xe=λ_ _=>False)(d:starEach (e::es) X.env=(false,eval e X.env)::starEach es X.env:=by rfl)(b:(backTo pos<|starEach es X.env).any (·.1)=false:=by rfl)
  (y:eval (.Call (.Attribute o m g0) (e::es) [] pos) X.env=(do
   let ov <-eval o X.env
   standAt g0.atName
   let (f,first) <-holding [ov] (getMethod ov m pl)
   callWith pos f first (backTo pos<|starEach (e::es) X.env) (backToKw pos<|keywordEach [] X.env)):=by rfl) :
  PET X ER (.Call (.Attribute o m g0) (e::es) [] pos) (gP C m sp mm ER ta t):=by
 intro g s σ H Q I h;refine W.methodCall_KW (pl:=pl) (wpAny_mono (A g s σ H _ I h) (λu K ⟨x,w,j,N,a,P,fs,D,J,l,q⟩=>?_) λe M z=>?_) y
 ·subst D;obtain rfl:u=Value.ref a:=N;refine Fq j J c n l ?_;refine W.callWith_K (first:=[.ref a]) (h₀:=X.base) I.ok.mod.kin n.kp (wpAny_mono (B pos g K σ w _ j q) (λus R ⟨vs,O,p,r,G⟩=>⟨p.G_,?_⟩) λe M z=>?_) d b
  ·exact Zu (us:=.ref a::us) (vs:=.ref a::vs) F v E L p (.cons U r) G
  ·rw[i] at z;exact z.elim
 ·rw[i] at z;exact z.elim
end
end L2
namespace Og
open PySem L2 PyProof.Rows
theorem lE:∀n<26,letters.cps.toList[n]? = some (97+n):=by decide
theorem jf{i:Int}(b:0<=i)(a:i<26):Ve letters.cps.toList i=some (97+i.toNat):=by
 have h:=Ah<|lE i.toNat<|by omega
 have e:((i.toNat:Nat):Int)=i:=by omega
 rw[e] at h;exact h
theorem bD:(("" : Str)).cps = #[]:=by decide
theorem Rf(b:List Nat):(Txt.join ("" : Str)<|b.map λc=>(⟨#[c]⟩:Str)).cps.toList=b:=by
 have key:∀(l:List Nat)(a:Array Nat),((l.map λc=>(⟨#[c]⟩:Str)).foldl (λa p=>a++("" : Str).cps++p.cps) a).toList=a.toList++l:=by
  intro l
  induction l with
  |nil=>intro a;simp
  |cons c l d =>
   intro a;rw[cw,List.foldl_cons,d,bD];simp
 unfold Txt.join Builtin.Str.glued
 cases b with
 |nil=>decide
 |cons c l =>
  show (((((c::l).map λc=>(⟨#[c]⟩:Str)).drop 1)).foldl (λa p=>a++("" : Str).cps++p.cps) #[c]).toList=_;rw[cw,List.drop_succ_cons,List.drop_zero,key];rfl
variable{K:W.Frag}
structure Za(K:W.Frag)(aB aP aM:Addr):Prop where
 f:KF K aB aP aM
 pR:∃a,W.nsIn K aP "rank" = some (some<|.ref a)/\KTup K a (["new","pipes","wind"].map λs:String=>V.str s)
 pL:∃a,W.nsIn K aP "line" = some (some<|.ref a)/\KTup K a (["rank","shift","low","high"].map λs:String=>V.str s)
 bP:∃a,W.nsIn K aB "pipes" = some (some<|.ref a)/\KTup K a [.int 1,.int 97]
 bW:∃a,W.nsIn K aB "wind" = some (some<|.ref a)/\KTup K a [.int 0,.int 1000000000]
 bS:∃a,W.nsIn K aB "shift" = some (some<|.ref a)/\KTup K a [.int (-200),.int 200]
 bLo:∃a,W.nsIn K aB "low" = some (some<|.ref a)/\KTup K a [.int 0,.int 60]
 bHi:∃a,W.nsIn K aB "high" = some (some<|.ref a)/\KTup K a [.int 0,.int 60]
 bR:W.nsIn K aB "rank" = some none
 mR:∃t,W.nsIn K aM "rank" = some (some<|.int 12 t)
 mL:W.nsIn K aM "line" = some none
section
variable{wn:List (Str×Str)}
theorem Uh(h:QL K aB aP aM ρ vs r)(a:F_ ρ vs):O7 K aB aP aM ρ vs r:=⟨h.ns,h.parts,.inr h.room,λz=>absurd z h.nl,a⟩
theorem VL(F:KF K aB aP aM){wd:Str}(p:wd = "stop" \/ wd = "mute")(e:Hv ρ vs=wn)(q:isNm t)(h:∀w∈named,Ub wn w t=false)(s:Yk wn wd<JG wd){a:Str}(r:isNm a)(g:Ub wn "board" a=true):QL K aB aP aM ρ vs ⟨wd,t,[.str a]⟩:=by
 have b:∀(j:Nat) x (y:Str),[V.str t,.str a][j]? = some x->(["new","board"]:List Str)[j]? = some y->JK K aB ρ vs x y:=λj x y d c=>by
  match j,d,c with
  |0,d,c =>
   cases (Option.some.inj d)
   cases (Option.some.inj c);exact J0 F e q h
  |1,d,c =>
   cases (Option.some.inj d)
   cases (Option.some.inj c);exact JS F e r g
  |j+2,d,c=>simp at c
 have f:=JR ρ vs wd;rw[e] at f;rcases p with rfl | rfl
 ·obtain⟨n,i,k⟩:=F.pS;obtain⟨m,l⟩:=F.mS;have o:JG "stop" = 24:=by decide
  refine⟨by show ¬ ("stop" : Str) = "step";decide,by show ¬ ("stop" : Str) = "line";decide,⟨n,["new","board"],i,k,U,by decide,b⟩,⟨24,m,l,?_⟩⟩;show (((vs.filter<|pw ρ "stop").length:Nat):Int)<24;omega
 ·obtain⟨n,i,k⟩:=F.pM;obtain⟨m,l⟩:=F.mM;have o:JG "mute" = 5:=by decide
  refine⟨by show ¬ ("mute" : Str) = "step";decide,by show ¬ ("mute" : Str) = "line";decide,⟨n,["new","board"],i,k,U,by decide,b⟩,⟨5,m,l,?_⟩⟩;show (((vs.filter<|pw ρ "mute").length:Nat):Int)<5;omega
theorem VB(F:Za K aB aP aM)(e:Hv ρ vs=wn)(g:isNm t)(h:∀w∈named,Ub wn w t=false)(C:Yk wn "rank" < 12){c:Int}(B:1<=n)(D:n<=97)(v:0<=c)(o:c<=1000000000)(s:F_ ρ vs):O7 K aB aP aM ρ vs<|Ft (t,n,c):=by
 obtain⟨A,i,p⟩:=F.pR;obtain⟨d,r,l⟩:=F.bP;obtain⟨f,m,k⟩:=F.bW;obtain⟨u,q⟩:=F.mR;refine⟨by show ¬ ("rank" : Str) = "step";decide,⟨A,["new","pipes","wind"],i,p,U,by decide,λj x y b a=>?_⟩,.inr ⟨12,u,q,?_⟩,λz=>absurd z (by show ¬ ("rank" : Str) = "line";decide),s⟩
 ·match j,b,a with
  |0,b,a =>
   cases (Option.some.inj b)
   cases (Option.some.inj a);exact J0 F.f e g h
  |1,b,a =>
   cases (Option.some.inj b)
   cases (Option.some.inj a);exact .inl ⟨((n:Nat):Int),1,97,d,U,r,l,by omega,by omega⟩
  |2,b,a =>
   cases (Option.some.inj b)
   cases (Option.some.inj a);exact .inl ⟨_,0,1000000000,f,U,m,k,v,o⟩
  |j+3,b,a=>simp at a
 ·rw[JR,e];show ((Yk wn "rank" : Nat):Int)<12;omega
theorem Vn(F:Za K aB aP aM)(e:Hv ρ vs=wn)(f:isNm t)(h:Ub wn "rank" t=true){sh lo hi:Int}(g : -200<=sh)(c:sh<=200)(m:0<=lo)(w:lo<=60)(p:0<=hi)(q:hi<=60)(z:F_ ρ vs)(hl:Ro ρ vs ⟨"line",t,[.int sh,.int lo,.int hi]⟩):O7 K aB aP aM ρ vs ⟨"line",t,[.int sh,.int lo,.int hi]⟩:=by
 obtain⟨B,i,s⟩:=F.pL;obtain⟨k,v,n⟩:=F.bS;obtain⟨r,u,o⟩:=F.bLo;obtain⟨A,l,d⟩:=F.bHi;refine⟨by show ¬ ("line" : Str) = "step";decide,⟨B,["rank","shift","low","high"],i,s,U,by decide,λj x y b a=>?_⟩,.inl ⟨U,F.mL⟩,λ_=>hl,z⟩
 match j,b,a with
 |0,b,a =>
  cases (Option.some.inj b)
  cases (Option.some.inj a);exact .inr<|.inr ⟨F.bR,by decide,_,U,f,by rw[KQ,e];exact h⟩
 |1,b,a =>
  cases (Option.some.inj b)
  cases (Option.some.inj a);exact .inl ⟨_,-200,200,k,U,v,n,g,c⟩
 |2,b,a =>
  cases (Option.some.inj b)
  cases (Option.some.inj a);exact .inl ⟨_,0,60,r,U,u,o,m,w⟩
 |3,b,a =>
  cases (Option.some.inj b)
  cases (Option.some.inj a);exact .inl ⟨_,0,60,A,U,l,d,p,q⟩
 |j+4,b,a=>simp at a
end
section
variable{v:V}{bs UY:List (Str×Nat)}{rk HM:List (Str×Nat×Int)}{VI:List R}
theorem K6{w:Str}:ZX ρ us w t=true ↔ ∃v∈us,(ρ v).w=w/\(ρ v).nm=t:=by
 unfold ZX;rw[fF];constructor
 ·rintro⟨v,c,d⟩;obtain⟨a,b⟩:=bb.mp c;exact⟨v,a,V.str.inj<|of_decide_eq_true b,V.str.inj<|of_decide_eq_true d⟩
 ·rintro⟨v,c,a,b⟩;exact⟨v,bb.mpr ⟨c,decide_eq_true<|congrArg V.str a⟩,decide_eq_true<|congrArg V.str b⟩
theorem KR{w:Str}(h:w = "stop" \/ w = "coupler" \/ w = "mute"):Il w=true:=by rcases h with rfl | rfl | rfl <;> decide
theorem L_{p:V->Bool}(h:p v=true):(us++[v]).filter p=us.filter p++[v]:=by
 rw[fE,fk,if_pos h];rfl
theorem Eg{p:V->Bool}(h:p v=false):(us++[v]).filter p=us.filter p:=by
 rw[fE,fk,if_neg<|by rw[h];decide];simp
end
section
variable{bs:List (Str×Nat)}{rk:List (Str×Nat×Int)}
theorem Jp(e:us.map ρ=rows++[r]):∃pV v,us=pV++[v]/\pV.map ρ=rows/\ρ v=r:=by
 obtain⟨a,b,rfl,c,f⟩:=List.map_eq_append_iff.mp e;obtain⟨v,l,rfl,g,d⟩:=List.map_eq_cons_iff.mp f;rw[List.map_eq_nil_iff.mp d];exact⟨a,v,U,c,g⟩
inductive Tl(rows:List R)(bd:Str)(cnt:Nat):Prop
 | mk(r0:List R)(st:R)(lr:List R):rows=r0++st::lr->st.w = "stop"->st.rest=[.str bd]->lr.length=cnt->(∀r∈lr,r.w = "line")->Tl rows bd cnt
theorem Tl.stop(a:List R)(t b:Str):Tl (a++[⟨"stop",t,[.str b]⟩]) b 0:=⟨a,_,[],U,U,U,U,λ_ h=>nomatch h⟩
theorem Tl.line{a:Str}{cnt:Nat}(h:Tl rows a cnt)(k:r.w = "line"):Tl (rows++[r]) a<|cnt+1:=by
 obtain⟨e,st,d,rfl,b,j,f,i⟩:=h;refine⟨e,st,d++[r],by simp,b,j,by simp[f],λx c=>?_⟩;rcases bE.mp c with g | g
 ·exact i x g
 ·rw[ax.mp g];exact k
end
variable{K:W.Frag}
structure JM(K:W.Frag)(aB aP aM:Addr)(ρ:V->R)(us:List V)(bs:List<|Str×Nat)(rk:List<|Str×Nat×Int)(ks:List R):Prop where
 eb:(us.filter<|pw ρ "board").map ρ=bs.map Fd
 er:(us.filter<|pw ρ "rank").map ρ=rk.map Ft
 ek:(us.filter<|λv=>Il (ρ v).w).map ρ=ks
 ln:∀(i:Nat) v,us[i]? = some v->(ρ v).w = "line"->(∃(j:Nat)(r:Str × Nat × Int)(sh lo hi:Int),rk[j]? = some r/\r.1=(ρ v).nm/\(ρ v).rest=[.int sh,.int lo,.int hi])/\∃u∈us.take i,Il (ρ u).w=true
 ok:∀(i:Nat) v,us[i]? = some v->Hu K aB aP aM ρ (us.take i) (ρ v)
section
variable{v:V}{bs UY:List (Str×Nat)}{rk HM:List (Str×Nat×Int)}{VI:List R}
theorem JM.nil:JM K aB aP aM ρ [] [] [] []:=⟨U,U,U,(λi v h=>by simp at h),(λi v h=>by simp at h)⟩
theorem JM.eZ(h:JM K aB aP aM ρ us bs rk ks)(c:v∈us)(a:(ρ v).w = "board"):∃b∈bs,Fd b=ρ v:=by
 have:ρ v∈(us.filter<|pw ρ "board").map ρ:=aE<|bb.mpr ⟨c,decide_eq_true<|congrArg V.str a⟩
 rw[h.eb] at this;exact ar.mp this
theorem JM.oN(h:JM K aB aP aM ρ us bs rk ks)(c:v∈us)(a:(ρ v).w = "rank"):∃b∈rk,Ft b=ρ v:=by
 have:ρ v∈(us.filter<|pw ρ "rank").map ρ:=aE<|bb.mpr ⟨c,decide_eq_true<|congrArg V.str a⟩
 rw[h.er] at this;exact ar.mp this
theorem JM.WW(h:JM K aB aP aM ρ us bs rk ks)(b:v∈us)(a:Il (ρ v).w=true):ρ v∈ks:=by
 have:ρ v∈(us.filter<|λv=>Il (ρ v).w).map ρ:=aE<|bb.mpr ⟨b,a⟩
 rw[h.ek] at this;exact this
theorem JM.m8(h:JM K aB aP aM ρ us bs rk ks):F_ ρ us:=λv c a=>by
 obtain⟨b,_,e⟩:=h.eZ c a;exact⟨_,by rw[<-e]⟩
theorem JM.dY(h:JM K aB aP aM ρ us bs rk ks){b:Str×Nat}(c:b∈bs):∃v∈us,ρ v=Fd b:=by
 have:Fd b∈(us.filter<|pw ρ "board").map ρ:=by rw[h.eb];exact aE c
 obtain⟨v,a,e⟩:=ar.mp this;exact⟨v,(bb.mp a).1,e⟩
theorem JM.tX(h:JM K aB aP aM ρ us bs rk ks){r:Str×Nat×Int}(a:r∈rk):∃v∈us,ρ v=Ft r:=by
 have:Ft r∈(us.filter<|pw ρ "rank").map ρ:=by rw[h.er];exact aE a
 obtain⟨v,b,e⟩:=ar.mp this;exact⟨v,(bb.mp b).1,e⟩
theorem JM.R8(h:JM K aB aP aM ρ us bs rk ks){b:Str×Nat}(c:b∈bs):Ub (Hv ρ us) "board" b.1=true:=by
 obtain⟨v,a,e⟩:=h.dY c;rw[<-KQ,K6];exact⟨v,a,by rw[e],by rw[e]⟩
theorem JM.lA(h:JM K aB aP aM ρ us bs rk ks){r:Str×Nat×Int}(a:r∈rk):Ub (Hv ρ us) "rank" r.1=true:=by
 obtain⟨v,b,e⟩:=h.tX a;rw[<-KQ,K6];exact⟨v,b,by rw[e],by rw[e]⟩
theorem JM.fresh(h:JM K aB aP aM ρ us bs rk ks)(l:∀b∈bs,b.1≠t)(j:∀r∈rk,r.1≠t)(g:∀k∈ks,k.nm≠t):∀w∈named,Ub (Hv ρ us) w t=false:=by
 intro w i;rw[<-KQ,<-fo,K6];rintro⟨v,d,c,f⟩;simp only[List.mem_cons,List.mem_singleton,List.not_mem_nil,or_false] at i;rcases i with rfl | rfl | rfl | rfl | rfl
 ·obtain⟨b,a,e⟩:=h.eZ d c;exact l b a<|by rw[<-f,<-e]
 ·obtain⟨b,a,e⟩:=h.oN d c;exact j b a<|by rw[<-f,<-e]
 ·exact g _ (h.WW d<|KR<|.inl c) f
 ·exact g _ (h.WW d<|KR<|.inr<|.inl c) f
 ·exact g _ (h.WW d<|KR<|.inr<|.inr c) f
theorem JM.ni(h:JM K aB aP aM ρ us bs rk ks):Yk (Hv ρ us) "board" = bs.length:=by
 rw[<-JR,<-af (f:=ρ),h.eb,af]
theorem JM.oU(h:JM K aB aP aM ρ us bs rk ks):Yk (Hv ρ us) "rank" = rk.length:=by
 rw[<-JR,<-af (f:=ρ),h.er,af]
theorem JM.fD(h:JM K aB aP aM ρ us bs rk ks){w:Str}(a:w = "stop" \/ w = "coupler" \/ w = "mute"):Yk (Hv ρ us) w=(ks.filter λr=>decide (V.str r.w=V.str w)).length:=by
 rw[<-JR,<-h.ek,fg,af,List.filter_filter];refine congrArg List.length<|List.filter_congr λv _=>?_
 show pw ρ w v=(pw ρ w v && Il (ρ v).w);by_cases e:(ρ v).w=w
 ·rw[KR (by rw[e];exact a),Bool.and_true]
 ·have:pw ρ w v=false:=decide_eq_false λz=>e<|V.str.inj z
  rw[this,io]
theorem JM.snoc(h:JM K aB aP aM ρ us bs rk ks)
  (o:((us++[v]).filter<|pw ρ "board").map ρ=UY.map Fd)(p:((us++[v]).filter<|pw ρ "rank").map ρ=HM.map Ft)(l:((us++[v]).filter<|λv=>Il (ρ v).w).map ρ=VI)
  (k:∀(j:Nat) r,rk[j]? = some r->HM[j]? = some r)
  (hl:(ρ v).w = "line"->(∃(j:Nat)(r:Str × Nat × Int)(sh lo hi:Int),HM[j]? = some r/\r.1=(ρ v).nm/\(ρ v).rest=[.int sh,.int lo,.int hi])/\∃u∈us,Il (ρ u).w=true)
  (ok:Hu K aB aP aM ρ us<|ρ v):JM K aB aP aM ρ (us++[v]) UY HM VI:=by
 have c:∀{i:Nat}{u:V},(us++[v])[i]? = some u->us[i]? = some u/\(us++[v]).take i=us.take i \/ u=v/\(us++[v]).take i=us:=λ{i u} hi=>by
  by_cases b:i<us.length
  ·rw[fS b] at hi;exact .inl ⟨hi,fq<|fT b⟩
  ·have a:=(ag.mp hi).1;rw[ai,aI] at a;have f:i=us.length:=by omega
   subst f;rw[dA (al _),ku] at hi;exact .inr ⟨(Option.some.inj hi).symm,by rw[fq (al _),dt]⟩
 refine⟨o,p,l,λi u hi g=>?_,λi u hi=>?_⟩
 ·rcases c hi with⟨d,a⟩ | ⟨rfl,a⟩
  ·rw[a];obtain⟨⟨j,r,sh,lo,e,m,q,s⟩,n⟩:=h.ln i u d g;exact⟨⟨j,r,sh,lo,e,k j r m,q,s⟩,n⟩
  ·rw[a];exact hl g
 ·rcases c hi with⟨d,a⟩ | ⟨rfl,a⟩
  ·rw[a];exact h.ok i u d
  ·rw[a];exact ok
end
theorem TF{rk:List (Str×Nat×Int)}{x:Str×Nat×Int}:∀{rows:List R},(∀r∈rows,r.w = "line"->r.nm∈rk.map (·.1))->linesOf (rk++[x]) rows=linesOf rk rows:=by
 have key:∀(rows:List R),(∀r∈rows,r.w = "line"->r.nm∈rk.map (·.1))->∀a,rows.foldl (Dz<|rk++[x]) a=rows.foldl (Dz rk) a:=by
  intro rows
  induction rows with
  |nil=>intro _ _;rfl
  |cons r d i =>
   intro h a;have e:Dz (rk++[x]) a r=Dz rk a r:=by
    unfold Dz;by_cases c:Il r.w=true
    ·rw[if_pos c,if_pos c]
    ·rw[if_neg c,if_neg c];by_cases b:r.w = "line"
     ·rw[if_pos b,if_pos b];have g:=h r (bg ..) b;have:lnOf (rk++[x]) r=lnOf rk r:=by
       unfold lnOf;rw[cq,List.idxOf_append,if_pos g]
      rw[this]
     ·rw[if_neg b,if_neg b]
   show d.foldl _ (Dz (rk++[x]) a r)=d.foldl _ (Dz rk a r);rw[e];exact i (λr f=>h r<|ba _ f) _
 exact λ{rows} h=>key rows h []
theorem ZC{k:R}(h:∀t∈PX r,t∈ks.map (·.nm)):stN (ks++[k]) r=stN ks r:=by
 unfold stN;refine congrArg Wd.mk<|fh λt a=>?_
 rw[cq,List.idxOf_append,if_pos<|h t a]
abbrev aF(r:R):Bool:=decide (V.str r.w=V.str "step")
def WdK(w:Str):Prop:=w = "board" \/ w = "rank" \/ w = "stop" \/ w = "coupler" \/ w = "mute" \/ w = "line" \/ w = "step"
structure Ir(K:W.Frag)(aB aP aM:Addr)(rows:List R)(bs:List<|Str×Nat)(rk:List<|Str×Nat×Int)(ks:List R)(ls:List<|List Ln)(sts:List Nat):Prop where
 ok:∀(ρ:V->R)(us:List V),us.map ρ=rows->JM K aB aP aM ρ us bs rk ks
 ln:linesOf rk rows=ls
 st:(rows.filter aF).map (stN ks)=sts
 lm:∀r∈rows,r.w = "line"->r.nm∈rk.map (·.1)
 sm:∀r∈rows,r.w = "step"->∃ts:List Str,V.str r.nm::r.rest=ts.map V.str/\ts.length<=24/\∀t∈ts,t∈ks.map (·.nm)
 wd:∀r∈rows,WdK r.w
 pk:∀r∈rows,(∀i:Int,V.int i∈r.rest->i.natAbs<10 ^ 12)/\r.rest.length<=24
section
variable{bs:List (Str×Nat)}{rk:List (Str×Nat×Int)}
theorem Ir.nil:Ir K aB aP aM [] [] [] [] [] []:=⟨λρ a e=>by rw[List.map_eq_nil_iff.mp e];exact JM.nil,U,U,(λ_ z=>nomatch z),(λ_ z=>nomatch z),(λ_ z=>nomatch z),(λ_ z=>nomatch z)⟩
theorem Ti(h:r.w≠"step"):(rows++[r]).filter aF=rows.filter aF:=by
 rw[fE,fk,if_neg<|by intro z;exact h<|V.str.inj<|of_decide_eq_true z];simp
theorem Gu{Q:R->Prop}(h:∀r∈rows,Q r)(a:Q r):∀x∈rows++[r],Q x:=λx b=>by
 rcases bE.mp b with z | z
 ·exact h x z
 ·rw[ax.mp z];exact a
theorem Ir.Yl(F:Za K aB aP aM)(h:Ir K aB aP aM rows bs rk ks ls sts)(j:isNm t)(l:∀b∈bs,b.1≠t)(c:∀r∈rk,r.1≠t)(o:∀k∈ks,k.nm≠t)(f:bs.length<5)(d:1<=n)(q:n<=61):Ir K aB aP aM (rows++[Fd (t,n)]) (bs++[(t,n)]) rk ks ls sts:=by
 refine⟨λρ s e=>?_,?_,?_,Gu h.lm (λz=>absurd z<|by show ¬ ("board" : Str) = "line";decide),Gu h.sm (λz=>absurd z<|by show ¬ ("board" : Str) = "step";decide),Gu h.wd<|.inl U,Gu h.pk ⟨(λi p=>by simp only[Fd,List.mem_cons,List.not_mem_nil,or_false,V.int.injEq,reduceCtorEq,false_or] at p;omega),by show 1<=24;decide⟩⟩
 ·obtain⟨g,v,rfl,m,a⟩:=Jp e;have O:=h.ok ρ g m;refine O.snoc ?_ ?_ ?_ (λ_ _ h=>h) (λz=>absurd (a ▸ z)<|by show ¬ ("board" : Str) = "line";decide) ?_
  ·rw[L_ (by unfold pw;rw[a];exact decide_eq_true U),List.map_append,O.eb,List.map_append,List.map_singleton,a];rfl
  ·rw[Eg (by unfold pw;rw[a];show decide (V.str "board" = V.str "rank")=false;decide),O.er]
  ·rw[Eg (by rw[a];show Il "board" = false;decide),O.ek]
  ·rw[a];exact .inl<|Uh (Vg F.f U j (O.fresh l c o) (by rw[O.ni];exact f) d q) O.m8
 ·rw[Dc,h.ln];rfl
 ·rw[Ti (by show ¬ ("board" : Str) = "step";decide)];exact h.st
theorem Ir.rank(F:Za K aB aP aM)(h:Ir K aB aP aM rows bs rk ks ls sts){c:Int}(m:isNm t)(o:∀b∈bs,b.1≠t)(d:∀r∈rk,r.1≠t)(s:∀k∈ks,k.nm≠t)(w:rk.length<12)(g:1<=n)(x:n<=97)(y:0<=c)(q:c<=1000000000):Ir K aB aP aM (rows++[Ft (t,n,c)]) bs (rk++[(t,n,c)]) ks ls sts:=by
 have f:∀r∈rows,r.w = "line"->r.nm∈(rk++[(t,n,c)]).map (·.1):=λr d z=>by
  rw[cq];exact dS _<|h.lm r d z
 refine⟨λρ A e=>?_,?_,?_,Gu f (λz=>absurd z<|by show ¬ ("rank" : Str) = "line";decide),Gu h.sm (λz=>absurd z<|by show ¬ ("rank" : Str) = "step";decide),Gu h.wd<|.inr<|.inl U,Gu h.pk ⟨(λi u=>by simp only[Ft,List.mem_cons,List.not_mem_nil,or_false,V.int.injEq,reduceCtorEq,false_or] at u;omega),by show 2<=24;decide⟩⟩
 ·obtain⟨l,v,rfl,p,a⟩:=Jp e;have O:=h.ok ρ l p;refine O.snoc ?_ ?_ ?_ (λj r h=>by rw[List.getElem?_append_left (List.getElem?_eq_some_iff.mp h).1];exact h) (λz=>absurd (a ▸ z)<|by show ¬ ("rank" : Str) = "line";decide) ?_
  ·rw[Eg (by unfold pw;rw[a];show decide (V.str "rank" = V.str "board")=false;decide),O.eb]
  ·rw[L_ (by unfold pw;rw[a];exact decide_eq_true U),List.map_append,O.er,List.map_append,List.map_singleton,a];rfl
  ·rw[Eg (by rw[a];show Il "rank" = false;decide),O.ek]
  ·rw[a];exact .inl<|VB F U m (O.fresh o d s) (by rw[O.oU];exact w) g x y q O.m8
 ·rw[Dc,TF h.lm,h.ln];rfl
 ·rw[Ti (by show ¬ ("rank" : Str) = "step";decide)];exact h.st
theorem Ir.eE(h:Ir K aB aP aM rows bs rk ks ls sts)(a:r.w = "stop" \/ r.w = "coupler" \/ r.w = "mute")(l:(∀i:Int,V.int i∈r.rest->i.natAbs<10 ^ 12)/\r.rest.length<=24)(s:∀(ρ:V->R)(us:List V),us.map ρ=rows->QL K aB aP aM ρ us r):Ir K aB aP aM (rows++[r]) bs rk (ks++[r]) (ls++[[]]) sts:=by
 have q:=KR a;have j:∀b∈rows,b.w = "step"->∃f:List Str,V.str b.nm::b.rest=f.map V.str/\f.length<=24/\∀t∈f,t∈(ks++[r]).map (·.nm):=λb c z=>by
  obtain⟨f,k,m,n⟩:=h.sm b c z;exact⟨f,k,m,λt g=>by rw[cq];exact dS _<|n t g⟩
 refine⟨λρ us e=>?_,?_,?_,Gu h.lm<|λz=>?_,Gu j<|λz=>?_,Gu h.wd<|a.elim (λz=>.inr<|.inr<|.inl z)<|λz=>z.elim (λz=>.inr<|.inr<|.inr<|.inl z)<|λz=>.inr<|.inr<|.inr<|.inr<|.inl z,Gu h.pk l⟩
 ·obtain⟨o,v,rfl,p,d⟩:=Jp e;have O:=h.ok ρ o p;refine O.snoc ?_ ?_ ?_ (λ_ _ h=>h) (λz=>?_) ?_
  ·rw[Eg (by unfold pw;rw[d];rcases a with e | e | e <;> rw[e] <;> decide),O.eb]
  ·rw[Eg (by unfold pw;rw[d];rcases a with e | e | e <;> rw[e] <;> decide),O.er]
  ·rw[L_ (by rw[d];exact q),cq,O.ek,List.map_singleton,d]
  ·rw[d] at z;rcases a with e | e | e <;> rw[e] at z <;> exact absurd z (by decide)
  ·rw[d];exact .inl<|Uh (s ρ o p) O.m8
 ·rw[Dc,h.ln];unfold Dz;rw[if_pos q]
 ·rw[Ti (by rcases a with e | e | e <;> rw[e] <;> decide),<-h.st];refine fh λb c=>ZC λt g=>?_;obtain⟨k,m⟩:=bb.mp c;obtain⟨f,n,_,u⟩:=h.sm b k<|V.str.inj<|of_decide_eq_true m;rw[KC n] at g;exact u t g
 ·rcases a with e | e | e <;> rw[e] at z <;> exact absurd z (by decide)
 ·rcases a with e | e | e <;> rw[e] at z <;> exact absurd z (by decide)
theorem Ir.aq(F:Za K aB aP aM)(h:Ir K aB aP aM rows bs rk ks ls sts){a b:Str}{s:Int}(o:isNm t)(w:∀b∈bs,b.1≠t)(g:∀r∈rk,r.1≠t)(q:∀k∈ks,k.nm≠t)(u:(ks.filter λr=>decide (V.str r.w=V.str "coupler")).length<12)(x:isNm a)(c:(a,n)∈bs)(f:isNm b)(d:(b,m)∈bs)(j : -60<=s)(v:s<=60) :
  Ir K aB aP aM (rows++[⟨"coupler",t,[.str a,.str b,.int s]⟩]) bs rk (ks++[⟨"coupler",t,[.str a,.str b,.int s]⟩]) (ls++[[]]) sts :=
 h.eE (.inr<|.inl U) ⟨(λi p=>by simp only[List.mem_cons,List.not_mem_nil,or_false,V.int.injEq,reduceCtorEq,false_or] at p;omega),by show 3<=24;decide⟩ λρ l e=>by
  have O:=h.ok ρ l e;exact P0 F.f U o (O.fresh w g q) (by rw[O.fD (.inr<|.inl U)];exact u) x (O.R8 c) f (O.R8 d) j v
theorem Ir.plain(F:Za K aB aP aM)(h:Ir K aB aP aM rows bs rk ks ls sts){wd a:Str}(f:wd = "stop" \/ wd = "mute")(l:isNm t)(j:∀b∈bs,b.1≠t)(g:∀r∈rk,r.1≠t)(o:∀k∈ks,k.nm≠t)(p:(ks.filter λr=>decide (V.str r.w=V.str wd)).length<JG wd)(s:isNm a)(d:(a,n)∈bs) :
  Ir K aB aP aM (rows++[⟨wd,t,[.str a]⟩]) bs rk (ks++[⟨wd,t,[.str a]⟩]) (ls++[[]]) sts:=by
 have c:wd = "stop" \/ wd = "coupler" \/ wd = "mute":=by rcases f with e | e;exact .inl e;exact .inr<|.inr e
 exact h.eE c ⟨(λi m=>by rcases List.mem_cons.mp m with e | e <;> cases e),by show 1<=24;decide⟩ λρ q e=>by
  have O:=h.ok ρ q e;exact VL F.f f U l (O.fresh j g o) (by rw[O.fD c];exact p) s<|O.R8 d
theorem Ir.line(F:Za K aB aP aM){p:List Ln}(h:Ir K aB aP aM rows bs rk ks (ls++[p]) sts){l:Str}{cnt:Nat}(T:Tl rows l cnt)(Q:cnt<4){n:Nat}{X sh lo hi:Int}(g:rk[j]? = some (t,m,X))(w:(rk.map (·.1)).Nodup)(I:isNm t)(Z:(l,n)∈bs)(x:lo<=hi)(hn:hi<(n:Int))(M : -200<=sh)(H:sh<=200)(b3:0<=lo)(b6:hi<=60) :
  Ir K aB aP aM (rows++[⟨"line",t,[.int sh,.int lo,.int hi]⟩]) bs rk ks (ls++[p++[⟨j,sh,lo,hi⟩]]) sts:=by
 obtain⟨r0,st,lr,er,s,P,R,N⟩:=T;have E:Il "line" = false:=by decide
 refine⟨λρ us e=>?_,?_,?_,Gu h.lm<|λ_=>List.mem_map.mpr ⟨_,List.mem_of_getElem? g,U⟩,Gu h.sm (λz=>absurd z<|by show ¬ ("line" : Str) = "step";decide),Gu h.wd<|.inr<|.inr<|.inr<|.inr<|.inr<|.inl U,Gu h.pk ⟨(λi hi=>by simp only[List.mem_cons,List.not_mem_nil,or_false,V.int.injEq,reduceCtorEq,false_or] at hi;omega),by show 3<=24;decide⟩⟩
 ·obtain⟨a,v,rfl,D,b⟩:=Jp e;have O:=h.ok ρ a D;obtain⟨r,u1,o,m1,Y⟩:=List.map_eq_append_iff.mp<|D.trans er;obtain⟨d,A,J,k,C⟩:=List.map_eq_cons_iff.mp Y;subst J;have B:d∈a:=by rw[o];simp
  have y:A.length=cnt:=by rw[<-R,<-C,af]
  have ab:a.length=r.length+(cnt+1):=by rw[o,ai,bp,y]
  refine O.snoc ?_ ?_ ?_ (λ_ _ h=>h) (λ_=>⟨⟨j,_,sh,lo,hi,g,by rw[b],by rw[b]⟩,d,B,by rw[k,s];decide⟩) ?_
  ·rw[Eg (by unfold pw;rw[b];show decide (V.str "line" = V.str "board")=false;decide),O.eb]
  ·rw[Eg (by unfold pw;rw[b];show decide (V.str "line" = V.str "rank")=false;decide),O.er]
  ·rw[Eg (by rw[b];exact E),O.ek]
  ·rw[b];have f:a[a.length - 1 - cnt]? = some d:=by
    have:a.length - 1 - cnt=r.length:=by omega
    rw[this,o,dA<|al _,ku];rfl
   refine .inl ?_;refine Vn F U I (O.lA<|ah g) M H b3 (by omega) (by omega) b6 O.m8 ⟨cnt,d,sh,lo,hi,l,[],U,⟨λi L=>?_,by omega,d,f,by rw[k,s];decide⟩,Q,f,by rw[k,s],by rw[k,P],x,?_⟩
   ·have c:cnt - 1 - i<A.length:=by omega
    refine⟨A[cnt - 1 - i],?_,?_⟩
    ·have:a.length - 1 - i=r.length+((cnt - 1 - i)+1):=by omega
     rw[this,o,dA<|lf _ _,jv,List.getElem?_cons_succ];exact ae c
    ·refine N _ ?_;rw[<-C];exact aE<|eR c
   ·obtain⟨u,S,G⟩:=O.dY Z;rw[fF];refine⟨u,bb.mpr ⟨S,?_⟩,?_⟩
    ·unfold pw;rw[G];exact decide_eq_true U
    ·show (pn ρ l u && decide (hi<lG (ρ u)))=true;unfold pn;rw[G,fi];exact⟨decide_eq_true U,decide_eq_true hn⟩
 ·rw[Dc,h.ln];unfold Dz;rw[if_neg (by show ¬ Il "line" = true;rw[E];decide),if_pos U,Iw];have q:=(ag.mp g).1;have:(rk.map (·.1)).idxOf t=j:=by
   have hl:j<(rk.map (·.1)).length:=by rw[af];exact q
   have W:(rk.map (·.1))[j]=t:=by
    rw[li];have:=(ag.mp g).2;rw[this]
   rw[<-W];exact w.idxOf_getElem j hl
  show ls++[p++[⟨(rk.map (·.1)).idxOf t,sh,lo,hi⟩]]=_;rw[this]
 ·rw[Ti (by show ¬ ("line" : Str) = "step";decide)];exact h.st
theorem Ir.step(h:Ir K aB aP aM rows bs rk ks ls sts)(m:∃t,W.nsIn K aM "step" = some (some<|.int 12 t)){t0:Str}{a:List Str}(w:(t0::a).Nodup)(d:(t0::a).length<=24)(c:∀t∈t0::a,isNm t/\∃k∈ks,k.w = "stop" /\ k.nm=t)(D:sts.length<12):Ir K aB aP aM (rows++[⟨"step",t0,a.map V.str⟩]) bs rk ks ls (sts++[Wd.mk ((t0::a).map λt=>(ks.map (·.nm)).idxOf t)]):=by
 have l:V.str t0::a.map V.str=(t0::a).map V.str:=rfl;have j:∀t∈t0::a,t∈ks.map (·.nm):=λt g=>by
  obtain⟨_,k,y,_,rfl⟩:=c t g;exact aE y
 refine⟨λρ E e=>?_,?_,?_,Gu h.lm (λz=>absurd z<|by show ¬ ("step" : Str) = "line";decide),Gu h.sm<|λ_=>⟨t0::a,l,d,j⟩,Gu h.wd<|.inr<|.inr<|.inr<|.inr<|.inr<|.inr U,Gu h.pk ⟨(λi x=>by obtain⟨t,_,e⟩:=List.mem_map.mp x;cases e),by show (a.map V.str).length<=24;rw[List.length_map];rw[List.length_cons] at d;omega⟩⟩
 ·obtain⟨f,v,rfl,n,b⟩:=Jp e;have O:=h.ok ρ f n;refine O.snoc ?_ ?_ ?_ (λ_ _ h=>h) (λz=>absurd (b ▸ z)<|by show ¬ ("step" : Str) = "line";decide) ?_
  ·rw[Eg (by unfold pw;rw[b];show decide (V.str "step" = V.str "board")=false;decide),O.eb]
  ·rw[Eg (by unfold pw;rw[b];show decide (V.str "step" = V.str "rank")=false;decide),O.er]
  ·rw[Eg (by rw[b];show Il "step" = false;decide),O.ek]
  ·rw[b];obtain⟨C,m⟩:=m;refine .inr ⟨U,⟨t0::a,l,w,d,λt g=>?_⟩,12,C,m,?_⟩
   ·obtain⟨q,k,o,A,s⟩:=c t g;refine⟨q,K6.mpr ?_⟩;rw[<-O.ek] at o;obtain⟨u,B,rfl⟩:=ar.mp o;exact⟨u,(bb.mp B).1,A,s⟩
   ·have:(f.filter<|pw ρ "step").length=sts.length:=by
     rw[<-h.st,af,<-n,fg,af];rfl
    show (((f.filter<|pw ρ "step").length:Nat):Int)<12;omega
 ·rw[Dc,h.ln];rfl
 ·rw[fE,cq,h.st];have p:([(⟨"step",t0,a.map V.str⟩:R)]).filter aF=[⟨"step",t0,a.map V.str⟩]:=rfl;rw[p];show sts++[stN ks _]=_;unfold stN;rw[KC (r:=⟨"step",t0,a.map V.str⟩) l]
theorem Ir.fin(h:Ir K aB aP aM rows bs rk ks ls sts)(c:Paired (λ(r:R) v=>TupAt H r.v v) rows vs)(n:1<=bs.length)(l:bs.length<=5)(sz:∀b∈bs,b.2<=61)(nr:rk.length<=12)(j:∀r∈rk,r.2.1<=97)(g:ks.length<=100)(nb:(bs.map (·.1)).Nodup)(e:(rk.map (·.1)).Nodup)(k:(ks.map (·.nm)).Nodup)(len:rows.length<=150) :
  Rows H (My H) vs/\zx K aB aP aM (My H) vs bs rk ks/\linesOf rk (vs.map<|My H)=ls/\((vs.filter<|pw (My H) "step").map λv=>stN ks<|My H v)=sts:=by
 have a:=UL c;have O:=h.ok (My H) vs a;have m:Rows H (My H) vs:=λv d=>by
  obtain⟨r,_,f⟩:=Dl c d;rw[MF f];exact f
 refine⟨m,⟨O.eb,O.er,O.ek,O.ln,λv d i=>?_,n,l,sz,nr,j,g,nb,e,k,by rw[<-c.length];exact len,O.ok⟩,by rw[a];exact h.ln,?_⟩
 ·refine h.sm (My H v) ?_ i;rw[<-a];exact aE d
 ·rw[<-h.st,<-a,fg,ay];rfl
end
open PySem L2
structure PlA where
 p:Addr
 r:Addr
 b:Addr
 k:Addr
 n:Addr
 d:Addr
 s:Addr
inductive Dt where
 | stop(b:Nat)(L:Addr)
 | coup(a b:Nat)(s:Int)
 | mute(b:Nat)
def Dt.L:Dt->List Addr
 |.stop _ L=>[L]
 |_=>[]
structure Pl where
 rows:List R
 bs:List<|Str×Nat
 rk:List<|Str×Nat×Int
 ks:List R
 ls:List<|List Ln
 ds:List Dt
 ch:List<|List Nat
theorem U0(a b:List<|Str×Nat):∃t,Ew (a++b)=Ew a++t:=by
 unfold Ew;rw[List.zipIdx_append,kG];exact⟨_,U⟩
theorem Z9{bs:List (Str×Nat)}{b:Str×Nat}(h:bs[i]? = some b)(a:n<b.2):(Ew bs)[((bs.take i).map (·.2)).sum+n]? = some (i,n):=by
 obtain⟨t,e⟩:=U0 (bs.take<|i+1)<|bs.drop<|i+1;rw[gc] at e;have hl:=Eh<|bs.take i
 rw[e,IK h,fN,dA<|by omega,<-hl,jv,fS<|by rw[af,gg];exact a,am,List.getElem?_range a];rfl
def Tx(t:Str):Prop:=t.length<=1000/\∀c∈t.cps.toList,c<128
theorem isNm.tx(h:isNm t):Tx t:=⟨by have:=h.2.1;omega,λc a=>by have:=h.2.2 c a;omega⟩
inductive Cj(H:Hp):V->Prop where
 | non:Cj H .non
 | bl(b:Bool):Cj H (.bl b)
 | int(i:Int):Cj H (.int i)
 | lst{a:Addr}{xs:List V}(h:H a=some (.lst xs)):Cj H (.ref a)
 | tup{a:Addr}{xs:List V}(h:H a=some (.tup xs)):Cj H (.ref a)
 | str{t:Str}(h:Tx t):Cj H (.str t)
theorem Cj.mono{v:V}(s:Am H H')(h:Cj H v):Cj H' v:=by
 cases h with
 |non=>exact .non
 |bl b=>exact .bl b
 |int i=>exact .int i
 |lst h=>exact .lst<|s _ _ h
 |tup h=>exact .tup<|s _ _ h
 |str h=>exact .str h
def Gk(ns:List Str):V->V
 |.str t=>if t∈ns then .int ((ns.idxOf t:Nat):Int) else .non
 |_=>.non
theorem Jt(h:t∈ns):ns[ns.idxOf t]? = some t:=by
 have hl:=gi h;rw[ae hl,List.getElem_idxOf hl]
def Yi(K:W.Frag)(C:Addr):Bool:=(W.findIn K (.ref C) "__getattribute__" == some (some<|.builtin "BaseException.__getattribute__")) && (W.findIn K (.ref C) "__getattr__" == some none) &&
 (W.mroIn K C (.type "BaseException") == some true) && W.hasDictIn K C && (W.findIn K (.ref C) "__class__" == some (some<|.builtin "object.__class__")) &&
 (W.specialIn K (.builtin "object.__class__") "__get__" == some (some<|.builtin "getset_descriptor.__get__")) && (W.takesIn K (.builtin "object.__class__") == some true) && (W.mroIn K C (.type "object") == some true) && W.keepIn K (.ref C)
theorem QJ{K:W.Frag}(h:Yi K C=true):sY K C/\W.keepIn K (.ref C)=true:=by
 simp only[Yi,Bool.and_eq_true,beq_iff_eq] at h;obtain⟨⟨⟨⟨⟨⟨⟨⟨a,f⟩,d⟩,e⟩,b⟩,i⟩,j⟩,g⟩,c⟩:=h;exact⟨⟨a,f,d,e,b,i,j,g⟩,c⟩
def Mf(K:W.Frag)(C cO:Addr)(ds:List Addr):Bool :=
 Yi K C && (W.kitOne K (.ref C) (.ref C) == some true) && (W.kitOne K (.ref C) (.type "ValueError") == some true) && (W.kitAny K (.ref C) (ds.map Value.ref) == some false) && (ds.all λD=>W.kitOne K (.ref C) (.ref D) == some false) &&
 W.excIn K C RT "ValueError.__new__" && (W.mroIn K C (.ref cO) == some true)
structure Rc(K:W.Frag)(C cO:Addr)(ds:List Addr):Prop where
 xc:sY K C
 kp:W.keepIn K (.ref C)=true
 k0:W.kitOne K (.ref C) (.ref C)=some true
 kv:W.kitOne K (.ref C) (.type "ValueError")=some true
 ka:W.kitAny K (.ref C) (ds.map Value.ref)=some false
 kf:∀D∈ds,W.kitOne K (.ref C) (.ref D)=some false
 ex:W.excIn K C RT "ValueError.__new__" = true
 mro:W.mroIn K C (.ref cO)=some true
theorem Rc.of{K:W.Frag}{b:Addr}{a:List Addr}(h:Mf K C b a=true):Rc K C b a:=by
 unfold Mf at h;simp only[Bool.and_eq_true,beq_iff_eq,List.all_eq_true] at h;obtain⟨⟨⟨⟨⟨⟨c,f⟩,e⟩,g⟩,j⟩,d⟩,i⟩:=h;exact⟨(QJ c).1,(QJ c).2,f,e,g,j,d,i⟩
structure Ex4(K:W.Frag)(mg:Str->Option Value)(cK cP cB cS cO:Addr):Prop where
 verr:mg "ValueError" = none
 mK:mg "NoKnob" = some (.ref cK)
 mP:mg "NoPiston" = some (.ref cP)
 mB:mg "NoBoard" = some (.ref cB)
 mS:mg "NoStep" = some (.ref cS)
 mO:mg "OrganError" = some (.ref cO)
 exO:W.excIn K cO RT "ValueError.__new__" = true
 rK:Rc K cK cO [cB,cP,cS]
 rP:Rc K cP cO [cB,cK,cS]
 rB:Rc K cB cO [cK,cP,cS]
 rS:Rc K cS cO [cB,cK,cP]
abbrev PK:List Str:=["__init__","draw","pull","push","store","press","cancel","shoe","drawn","knobs","step"]
structure Dq(Cy:Addr)(H:Hp)(y x:Addr)(dr sh:Nat)(sd:Addr):Prop where
 ex:∃dy fs,H y=some (.ins Cy dy fs)/\fs.lookup ("organ" : Str)=some (.ref x)/\fs.lookup ("drawn_set" : Str)=some (.int (dr:Nat))/\fs.lookup ("shoe_step" : Str)=some (.int (sh:Nat))/\fs.lookup ("stored" : Str)=some (.ref sd)/\fs.length<=4/\∀m∈PK,fs.lookup m=none
theorem Dq.mono{x:Addr}(s:Am H H')(h:Dq Cy H y x dr sh sd):Dq Cy H' y x dr sh sd:=by
 obtain⟨a,fs,b,c⟩:=h.ex;exact⟨a,fs,s _ _ b,c⟩
structure Zj(C Cy:Addr)(Ho H:Hp)(y x:Addr)(us:List V)(bs:List<|Str×Nat)(rk:List<|Str×Nat×Int)(ks:List R)(ls:List<|List Ln)(sts:List Nat)(dr sh:Nat)(sd:Addr):Prop where
 o:Hq C Ho x us bs rk ks ls sts
 s:Am Ho H
 n:Ho y=none
 c:Dq Cy H y x dr sh sd
theorem Zj.mono{x:Addr}{bs:List (Str×Nat)}{rk:List (Str×Nat×Int)}(s:Am H H')(h:Zj C Cy Ho H y x us bs rk ks ls sts dr sh sd):Zj C Cy Ho H' y x us bs rk ks ls sts dr sh sd :=
 ⟨h.o,h.s.trans s,h.n,h.c.mono s⟩
theorem Lp{f:Str}{v u:V}:∀{fs:List (Str × V)},fs.lookup f=some u->(BV f v fs).length=fs.length
 |[],h=>by cases h
 |(g,x)::r,h=>by
  unfold BV;by_cases e:g=f
  ·rw[if_pos e];rfl
  ·rw[if_neg e];rw[List.lookup_cons,show (f == g)=false from beq_eq_false_iff_ne.mpr<|Ne.symm e] at h;rw[bp,bp,Lp h]
theorem Ez(f:Str)(v:V):∀fs:List<|Str×V,(BV f v fs).length<=fs.length+1
 |[]=>al _
 |(g,x)::r=>by
  unfold BV;split
  ·exact ke _
  ·exact eD<|Ez f v r
theorem Dq.new{a x:Addr}(h:H y=some (.ins Cy a<|BV "stored" (.ref sd) (BV "shoe_step" (.int 0) (BV "drawn_set" (.int 0) (BV "organ" (.ref x) []))))):Dq Cy H y x 0 0 sd:=by
 refine⟨a,_,h,?_,?_,?_,?_,?_,λm b=>?_⟩
 ·rw[Al,if_neg<|by decide,Al,if_neg<|by decide,Al,if_neg<|by decide,Al,if_pos U]
 ·rw[Al,if_neg<|by decide,Al,if_neg<|by decide,Al,if_pos U];rfl
 ·rw[Al,if_neg<|by decide,Al,if_pos U];rfl
 ·rw[Al,if_pos U]
 ·have d:=Ez "stored" (.ref sd) (BV "shoe_step" (.int 0) (BV "drawn_set" (.int 0) (BV "organ" (.ref x) [])));have k:=Ez "shoe_step" (.int 0) (BV "drawn_set" (.int 0) (BV "organ" (.ref x) []));have i:=Ez "drawn_set" (.int 0) (BV "organ" (.ref x) []);have j:=Ez "organ" (.ref x) [];have g:([]:List<|Str×V).length=0:=rfl;omega
 ·have ne:∀f:Str,f ∉ PK->¬ m=f:=λf c e=>c<|e ▸ b
  rw[Al,if_neg<|ne _<|by decide,Al,if_neg<|ne _<|by decide,Al,if_neg<|ne _<|by decide,Al,if_neg<|ne _<|by decide];rfl
theorem Dq.putD{a x:Addr}{c sh:Nat}{fs:List (Str×V)}(n:Nat)(k:fs.lookup ("organ" : Str)=some (.ref x))(d:fs.lookup ("drawn_set" : Str)=some (.int (c:Nat)))(j:fs.lookup ("shoe_step" : Str)=some (.int (sh:Nat)))(f:fs.lookup ("stored" : Str)=some (.ref sd))(g:fs.length<=4)(i:∀m∈PK,fs.lookup m=none)(h:H y=some (.ins Cy a<|BV "drawn_set" (.int (n:Nat)) fs)):Dq Cy H y x n sh sd:=by
 refine⟨a,_,h,?_,?_,?_,?_,by rw[Lp d];exact g,λm b=>?_⟩
 ·rw[Al,if_neg<|by decide];exact k
 ·rw[Al,if_pos U]
 ·rw[Al,if_neg<|by decide];exact j
 ·rw[Al,if_neg<|by decide];exact f
 ·rw[Al,if_neg λe=>absurd b<|by rw[e];decide];exact i m b
theorem Dq.nq{a x:Addr}{b sh:Nat}{fs:List (Str×V)}(n:Nat)(k:fs.lookup ("organ" : Str)=some (.ref x))(d:fs.lookup ("drawn_set" : Str)=some (.int (b:Nat)))(j:fs.lookup ("shoe_step" : Str)=some (.int (sh:Nat)))(f:fs.lookup ("stored" : Str)=some (.ref sd))(g:fs.length<=4)(i:∀m∈PK,fs.lookup m=none)(h:H y=some (.ins Cy a<|BV "shoe_step" (.int (n:Nat)) fs)):Dq Cy H y x b n sd:=by
 refine⟨a,_,h,?_,?_,?_,?_,by rw[Lp j];exact g,λm c=>?_⟩
 ·rw[Al,if_neg<|by decide];exact k
 ·rw[Al,if_neg<|by decide];exact d
 ·rw[Al,if_pos U]
 ·rw[Al,if_neg<|by decide];exact f
 ·rw[Al,if_neg λe=>absurd c<|by rw[e];decide];exact i m c
structure ExH(K:W.Frag)(mg:Str->Option Value)(cH cO:Addr):Prop where
 verr:mg "ValueError" = none
 mH:mg "NotHeld" = some (.ref cH)
 mO:mg "OrganError" = some (.ref cO)
 exH:W.excIn K cH RT "ValueError.__new__" = true
 rH:Rc K cH cO []
 mHH:W.mroIn K cH (.ref cH)=some true
abbrev Xr:List Str:=["__init__","hold","leave","act","do","sound","held","knobs"]
structure J3(Cp:Addr)(H:Hp)(z x y hd:Addr):Prop where
 ex:∃dz fs,H z=some (.ins Cp dz fs)/\fs.lookup ("organ" : Str)=some (.ref x)/\fs.lookup ("console" : Str)=some (.ref y)/\fs.lookup ("hands" : Str)=some (.ref hd)/\∀m∈Xr,fs.lookup m=none
theorem J3.mono{x:Addr}(s:Am H H')(h:J3 Cp H z x y hd):J3 Cp H' z x y hd:=by
 obtain⟨e,fs,a,d,b,f,c⟩:=h.ex;exact⟨e,fs,s _ _ a,d,b,f,c⟩
end Og
namespace L2
open PySem PySem.Spec PyProof.Rows
structure Vx(K:W.Frag)(x qual:Str)(st:Stmt)(f:Addr)(fd:FuncData):Prop where
 ex:∃(oc:Value)(od:Option Addr)(dV kV k8 pm:Value)(an:Option Addr)(i7 ct:Value)(sL:Array<|Option Value),
  fd=W.fnOf x qual (Dh st) (CZ st) (Af st) dV kV k8 pm an i7 ct/\K.lookup f=some ⟨oc,od,.func fd,sL⟩/\W.codeIn K i7 qual=true
 kp:W.keepIn K (.ref f)=true
section
variable{w:World}{K:W.Frag}
theorem a_{st:Stmt}{i:Value}{j g:Option Addr}{h:Array (Option Value)}{d kV e b a ct:Value}(l:K.lookup f=some ⟨i,j,.func<|W.fnOf x qual (Dh st) (CZ st) (Af st) d kV e b g a ct,h⟩)
  (c:W.codeIn K a qual=true)(k:W.keepIn K (.ref f)=true):Vx K x qual st f<|W.fnOf x qual (Dh st) (CZ st) (Af st) d kV e b g a ct:=⟨⟨i,j,d,kV,e,b,g,a,ct,h,U,l,c⟩,k⟩
theorem jq{t:Addr}{c:Value}{d:Option Addr}{a:Array Value}{i:Array (Option Value)}(lt:K.lookup t=some ⟨c,d,.seq a n,i⟩)(f:fd.defaults=.ref t)
  (h:∀us:List Value,us.length=ps.length->∃k,bindArgs fd ⟨us,[]⟩=seqItems? fd.defaults >>= k/\k (some a)=pure (ps.zip us)):Binds K fd ps []:=λs us e hl=>by
 rw[dE] at hl |-;obtain⟨k,b,g⟩:=h us hl;exact BindsTo.of_defaults f (e _ _ lt) U b g
end
section
variable{K:W.Frag}
theorem Zr{a:List Value}{t:Addr}{c:Value}{e:Option Addr}{b:Array Value}{j:Array (Option Value)}(lt:K.lookup t=some ⟨c,e,.seq b n,j⟩)(g:fd.defaults=.ref t)
  (h:∀us:List Value,(us++a).length=ps.length->∃k,bindArgs fd ⟨us,[]⟩=seqItems? fd.defaults >>= k/\k (some b)=pure (ps.zip<|us++a)):Binds K fd ps a:=λs us f hl=>by
 obtain⟨k,d,i⟩:=h us hl;exact BindsTo.of_defaults g (f _ _ lt) U d i
end
open PySem PySem.Spec PySem.Calls PyProof.Rows
structure dw(K:W.Frag)(C:Addr)(m:Str)(f:Addr)(mc:Value):Prop where
 ga:W.specialIn K (.ref C) "__getattribute__" = some (some<|.builtin "type.__getattribute__")
 rd:W.readsIn K C mc=true
 fc:W.findCls K (.ref C) mc m=some (.val<|.ref f)
 kp:W.keepIn K (.ref f)=true
section
variable{CX:V0}{k:Nat}{sp:Sp}{mm:List V}{ds:List Value}{E:XK}{m:Str}{p:Pos}{t:TA}{mc:Value}
theorem Rn{pl:Sem Bool}(w:Gl X x)(L:X.mg x=some (.ref C))(M:dw X.K C m f mc)(F:An X.prog X.w X.K X.mg X.base CX k f fd ps sp)(A:A_ k X.A)(z:Binds X.K fd ps ds)(n:Vals mm ds)(B:Gi CX X E)(D:PA X (e::es) t)
  (y:(x == ("__debug__" : Str))=false:=by decide)
  (d:starEach (e::es) X.env=(false,eval e X.env)::starEach es X.env:=by rfl)(a:(backTo pos<|starEach es X.env).any (·.1)=false:=by rfl)
  (j:eval (.Call (.Attribute (.Name x p) m g0) (e::es) [] pos) X.env=(do
   let ov <-eval (.Name x p) X.env
   standAt g0.atName
   let (f,first) <-holding [ov] (getMethod ov m pl)
   callWith pos f first (backTo pos<|starEach (e::es) X.env) (backToKw pos<|keywordEach [] X.env)):=by rfl) :
  PE X (.Call (.Attribute (.Name x p) m g0) (e::es) [] pos) (di sp mm E t):=by
 intro g s σ H Q I h;have l:PE X (.Name x p)<|tC<|.ref C:=Cu w L U y
 refine W.methodCall_KW (pl:=pl) (CT (l g s σ H (λv c=>v=.ref C/\c=H) I ⟨U,U⟩) λu K ⟨v,c,b,J,N,q⟩=>?_) j;subst N;subst q;obtain rfl:u=Value.ref C:=J;refine W.method_cls b.G_ M.ga<|W.cls_value b.G_ M.rd M.fc U ?_
 have o:=b.tok<|K.toks+1
 refine W.callWith_K (first:=[]) (h₀:=X.base) I.ok.mod.kin M.kp (CT (D pos g _ σ c _ o h) λus O ⟨vs,P,i,r,G⟩=>⟨i.G_,?_⟩) d a;exact Ka (us:=us) (vs:=vs) F A z n B i r G
end
section
variable{CX:V0}{k:Nat}{f1 f2 C1 C2:Addr}{fd1 ZH:FuncData}{ps1 ps2:List Str}{A8 BH:Sp}{E:XK}{m:Str}{p:Pos}{o:Expr}{t:TA}
inductive Uc(C1 C2:Addr)(m:Str)(A8 BH:Sp)(E:XK)(t:TA)(σ:St)(Q:VK)(x:V)(H1:Hp):Prop
 |mk(a dx fs:_):x=.ref a->fs.lookup m=none->((H1 a=some (.ins C1 dx fs)/\t σ H1 λvs H2=>A8 (x::(vs++[])) H2 Q E) \/ (H1 a=some (.ins C2 dx fs)/\t σ H1 λvs H2=>BH (x::(vs++[])) H2 Q E))->Uc C1 C2 m A8 BH E t σ Q x H1
def ju(C1 C2:Addr)(m:Str)(A8 BH:Sp)(E:XK)(ta:TE)(t:TA):TE:=λσ H Q=>ta σ H λx H1=>Uc C1 C2 m A8 BH E t σ Q x H1
theorem Wg{pl:Sem Bool}(J:PE X o ta)(P:Pj X.K C1)(D:Meth X.K C1 m f1)(O:An X.prog X.w X.K X.mg X.base CX k f1 fd1 ps1 A8)(j:Binds X.K fd1 ps1 [])
  (F:Pj X.K C2)(A:Meth X.K C2 m f2)(L:An X.prog X.w X.K X.mg X.base CX k f2 ZH ps2 BH)(i:Binds X.K ZH ps2 [])(w:A_ k X.A)(y:Gi CX X E)(B:PA X (e::es) t)
  (c:starEach (e::es) X.env=(false,eval e X.env)::starEach es X.env:=by rfl)(b:(backTo pos<|starEach es X.env).any (·.1)=false:=by rfl)
  (G:eval (.Call (.Attribute o m g0) (e::es) [] pos) X.env=(do
   let ov <-eval o X.env
   standAt g0.atName
   let (f,first) <-holding [ov] (getMethod ov m pl)
   callWith pos f first (backTo pos<|starEach (e::es) X.env) (backToKw pos<|keywordEach [] X.env)):=by rfl) :
  PE X (.Call (.Attribute o m g0) (e::es) [] pos) (ju C1 C2 m A8 BH E ta t):=by
 intro n s σ H Q I h;refine W.methodCall_KW (pl:=pl) (CT (J n s σ H _ I h) λu C ⟨x,z,g,R,a,S,fs,M,l,q⟩=>?_) G;subst M;obtain rfl:u=Value.ref a:=R;rcases q with⟨v,q⟩ | ⟨v,q⟩
 ·refine Fq g v P D l ?_;refine W.callWith_K (first:=[.ref a]) (h₀:=X.base) I.ok.mod.kin D.kp (CT (B pos n C σ z _ g q) λus N ⟨vs,K,d,r,p⟩=>⟨d.G_,?_⟩) c b;exact Ka (us:=.ref a::us) (vs:=.ref a::vs) O w j .nil y d (.cons U r) p
 ·refine Fq g v F A l ?_;refine W.callWith_K (first:=[.ref a]) (h₀:=X.base) I.ok.mod.kin A.kp (CT (B pos n C σ z _ g q) λus N ⟨vs,K,d,r,p⟩=>⟨d.G_,?_⟩) c b;exact Ka (us:=.ref a::us) (vs:=.ref a::vs) L w i .nil y d (.cons U r) p
end
section
variable{w:World}{K:W.Frag}
theorem Vx.wk{st:Stmt}{N:List Str}{k:Nat}{sp:Sp}(F:Vx K x qual st f fd)(S:Av N ps<|Af st)(len:∀vs H Q E,sp vs H Q E->vs.length=ps.length)
  (e:∀(b:Value)(A:Around)(a:List Env)(s:Shared)(H:Hp)(vs:List V)(Q:VK)(E:XK),A_ k (A.deeper<|envOfC qual (Af st) s.heap.objs.size f b)->sp vs H Q E ->
   ∃t,PN (Kd (Gp P w) P w K mg base N qual (Af st) f b A a s H E) (CZ st) t/\t { nx:=λ_ H'=>Q .non H',rt:=Q } (start N vs) H):An P w K mg base (Gp P w) (k+1) f fd ps sp:=by
 obtain⟨l,u,o,kV,j,m,r,b,n,p,rfl,d,g⟩:=F.ex;refine YS d g S len λA a s H vs Q E c i=>?_;obtain⟨t,h,q⟩:=e b A a s H vs Q E c i;exact⟨t,h,q⟩
theorem Vx.Jx{st:Stmt}{N:List Str}{k:Nat}{sp:Sp}(F:Vx K x qual st f fd)(S:Av N ps<|Af st)
  (c:∀{b:Value}{A:Around}{a:List Env}{s:Shared}(H:Hp)(vs:List V)(Q:VK)(E:XK),A_ k (A.deeper<|envOfC qual (Af st) s.heap.objs.size f b)->sp vs H Q E ->
   ∃t,PN (Kd (Gp P w) P w K mg base N qual (Af st) f b A a s H E) (CZ st) t/\t { nx:=λ_ H'=>Q .non H',rt:=Q } (start N vs) H)
  (len:∀vs H Q E,sp vs H Q E->vs.length=ps.length:=by intro _ _ _ _ h;cases h;subst_vars;rfl):An P w K mg base (Gp P w) (k+1) f fd ps sp:=F.wk S len λ_ _ _ _ H vs Q E=>c H vs Q E
end
end L2
namespace Og
open PySem L2
structure vg(K:W.Frag)(mg:Str->Option Value)(pB pE pA:Addr):Prop where
 mB:mg "Piston" = some (.ref pB)
 mE:mg "Every" = some (.ref pE)
 mA:mg "Part" = some (.ref pA)
 cE:Pj K pE
 cA:Pj K pA
 nEk:Cg K pE "knob_set"
 nAk:Cg K pA "knob_set"
 nAw:Cg K pA "whole_set"
 most:∃t,mg "PISTON_COUNT" = some (.int 10 t)
inductive Ps where
 | every(k:Nat)
 | part(k w:Nat)
def Ps.put:Ps->Nat->Nat
 |.every k,_=>k
 |.part k w,d=>(d - (d &&& w)) ||| k
def Fg(pE pA:Addr)(H:Hp)(o:Addr):Ps->Prop
 |.every k=>∃dx,H o=some (.ins pE dx [("knob_set",.int (k:Nat))])
 |.part k w=>∃dx,H o=some (.ins pA dx [("knob_set",.int (k:Nat)),("whole_set",.int (w:Nat))])
structure RK(pE pA:Addr)(H:Hp)(sd:Addr)(m:Nat->Option Ps)(c:Nat):Prop where
 ex:∃kvs:List<|Key×V,H sd=some (.dK kvs)/\kvs.length<=c/\(∀p,p<10->m p=none->CN kvs (Sum.inl (p:Nat))=none)/\∀p ps,p<10->m p=some ps->∃o,CN kvs (Sum.inl (p:Nat))=some (.ref o)/\Fg pE pA H o ps
theorem Fg.keep{o:Addr}{ps:Ps}(h:Fg pE pA H o ps)(f:∀c dx fs,H o=some (.ins c dx fs)->H' o=some (.ins c dx fs)):Fg pE pA H' o ps:=by
 cases ps with
 |every k =>
  obtain⟨dx,e⟩:=h;exact⟨dx,f _ _ _ e⟩
 |part k w =>
  obtain⟨dx,e⟩:=h;exact⟨dx,f _ _ _ e⟩
theorem RK.mono{m:Nat->Option Ps}{c:Nat}(s:Am H H')(h:RK pE pA H sd m c):RK pE pA H' sd m c:=by
 obtain⟨a,l,d,b,f⟩:=h.ex;refine⟨a,s _ _ l,d,b,λp i n g=>?_⟩;obtain⟨o,j,k⟩:=f p i n g;exact⟨o,j,k.keep λ_ _ _ e=>s _ _ e⟩
structure ExY(K:W.Frag)(mg:Str->Option Value)(cY cD cP:Addr):Prop where
 mY:mg "NoKey" = some (.ref cY)
 mD:mg "NoDeed" = some (.ref cD)
 exY:W.excIn K cY RT "ValueError.__new__" = true
 mPP:W.mroIn K cP (.ref cP)=some true
 exD:W.excIn K cD RT "ValueError.__new__" = true
def yf:List<|Str×List V:=[("hold",[.int 3]),("leave",[.int 3]),("pull",[.int 2]),("push",[.int 2]),("store",[.int 2,.int 3]),("press",[.int 2]),("cancel",[.int 1]),("shoe",[.int 2])]
abbrev Way:=Option<|Nat×Int
def wy(w0 w1:Way)(b:Nat):Way:=if b=0 then w0 else w1
end Og
namespace L2
open PySem PySem.Spec PySem.Calls PyProof.Rows
theorem Yo(g:X.A.units<cLine):G7 X (compareOp .NotEq) (λx y H Q=>∃p q xs,x=V.ref p/\y=V.ref q/\De X.K H p xs/\De X.K H q []/\Q (.bl<|!xs.isEmpty) H):=by
 intro E s σ H x y v u Q I w o h;obtain⟨p,q,xs,rfl,rfl,n,A,k⟩:=h
 cases w
 cases o;obtain⟨m,r,d,B⟩:=I.list n;obtain⟨C,t,f,l⟩:=I.list A;have c:=r.length
 cases t
 cases xs with
 |nil =>
  cases r;refine SeqAt.RcNeAt.lists (e:=λ_=>true) d.isList f.isList U g (λj i D=>?_) _ _ _ _ ⟨.bl _,H,I,U,k⟩;exact absurd i<|iA _
 |cons a b =>
  refine SeqAt.RcNeAt.lists_lengths d.isList f.isList (by simp;intro z;rw[z] at c;simp at c) g _ _ _ _ ⟨.bl _,H,I,U,k⟩
end L2
namespace Gn
theorem jD{a b:Nat}(h:a &&& b=0):a+b=a ||| b:=by
 have e:a<2 ^ (a+b+1):=ko (aT (lf a b)<|gu _) kK;have d:b<2 ^ (a+b+1):=ko (aT (Nat.le_add_left b a)<|gu _) kK;have c:a+b<2 ^ (a+b+1):=ko (gu _) kK;have:=BitVec.add_eq_or_of_and_eq_zero (BitVec.ofNat (a+b+1) a) (BitVec.ofNat (a+b+1) b) (by
  apply BitVec.eq_of_toNat_eq;rw[BitVec.toNat_and,BitVec.toNat_ofNat,BitVec.toNat_ofNat,ja e,ja d,h];simp)
 have:=congrArg BitVec.toNat this;rw[BitVec.toNat_add,BitVec.toNat_or,BitVec.toNat_ofNat,BitVec.toNat_ofNat,ja e,ja d,ja c] at this;exact this
theorem cU(D M k:Nat):(D - (D &&& M)).testBit k=(D.testBit k && !M.testBit k):=by
 have a:(D &&& M) &&& (D ^^^ (D &&& M))=0:=fe λi=>by
  simp only[Nat.testBit_and,Nat.testBit_xor,Nat.zero_testBit]
  cases D.testBit i <;> cases M.testBit i <;> rfl
 have b:(D &&& M)+(D ^^^ (D &&& M))=D:=by
  rw[jD a];refine fe λi=>?_;simp only[Nat.testBit_and,Nat.testBit_xor,Nat.testBit_or]
  cases D.testBit i <;> cases M.testBit i <;> rfl
 have e:D - (D &&& M)=D ^^^ (D &&& M):=by omega
 rw[e];simp only[Nat.testBit_and,Nat.testBit_xor]
 cases D.testBit k <;> cases M.testBit k <;> rfl
end Gn
namespace L2
open PySem PySem.Spec PySem.Calls PyProof.Rows
inductive oF(K:W.Frag)(O:Addr)(ts:TS)(D:Ends)(C:Value)(od:Option Addr)(σ:St)(H2:Hp):Prop
 | mk(Ca:_):C=.ref Ca->W.mroIn K Ca (.ref O)=some true->ts D σ H2->oF K O ts D C od σ H2
def rR(K:W.Frag)(tb:XR->TS)(O:Addr)(ts:TS):TS:=λD σ H=>tb (oF K O ts D) D σ H
section
variable{O:Addr}{cn:Str}{np Oy:Pos}{body:List Stmt}{b0:Stmt}{AL:List Stmt}{ts:TS}{tb:XR->TS}
theorem ak(hb:∀ER,pG X ER body<|tb ER)(S:Gl X cn)(P:X.mg cn=some (.ref O))(qO:W.excIn X.K O RT "ValueError.__new__" = true)
  (hs:∀x,PN (X.inX x) (b0::AL) ts) (NX:X.xe=λ_ _=>False:=by rfl) (w:X.stack=X.env::X.outer:=by rfl) (Sn:X.env.frame=some X.env.locals:=by rfl) (G:(cn == ("__debug__" : Str))=false:=by decide) :
  PS X (.Try body [.ExceptHandler (some<|.Name cn np) none (b0::AL) Oy] [] [] pos) (rR X.K tb O ts):=by
 intro n s₀ σ₀ H₀ D I₀ h₀;refine wpAny_Try_except<|wpAny_mono (hb _ n s₀ σ₀ H₀ D I₀ h₀) (λN s' q=>?_) λt s' q=>?_
 ·cases N with
  |next=>exact wpAny_execs_nil q
  |brk=>exact q
  |cont=>exact q
  |ret u=>exact q
 ·obtain⟨σ,H1,e,f,x,T,C,od,h,rfl,os,a,y,F,nT,I,pe,M,Q,Ca,eC,FU,K⟩:=q
  cases eC;obtain⟨p,g,c,d,Ev⟩:=s';obtain rfl:Ev=e.os:=os;have I2:Inv X n σ h ⟨p,g,c,d,e.os⟩:=f.call (h':=p) (g':=g) (d':=c) (t':=d) (ch:=[]) Q M a<|λb z=>absurd z<|by simp
  have m:=f.ok.frames;have E:=I2.stack;rw[w] at m E;refine Ue (s:=⟨p,g,c,d,e.os⟩) m E Sn y λY T3 y3 m3 n3=>?_;refine Gb (s:=⟨Y,g,c,d,e.os⟩) y3 λA y4 Z=>?_;have r:e.heap.get? T3=none:=by
   cases z:e.heap.get? T3 with
   |none=>rfl
   |some o =>
    obtain⟨o',t⟩:=Q.there T3 o z<|by simp
    have V:p.get? T3=none:=n3;rw[V] at t;cases t
  have B:h T3=none:=M.none_of n3;have l:Mv (frs X.stack) x T p Y:=by rw[w];exact m3
  have u3:=Q.mv l F nT<|λb z z'=>absurd z z'
  have u4:=u3.mv Z F r (λ_ z=>nomatch z);have k3:GQ X.prog X.w h Y:=M.mv l I pe I2.Jd;have k4:GQ X.prog X.w h A:=k3.mv Z I B (λ_ z=>nomatch z);have I4:Inv X n σ h ⟨A,g,c,d,e.os⟩:=f.call (h':=A) (g':=g) (d':=c) (t':=d) (ch:=[]) u4 k4 a<|λb z=>absurd z<|by simp
  refine wpAny_handleBy_cons (codeAny_handlers_test<|Jz (I4.inX x) S P ?_ G)<|by intro q;cases q
  obtain⟨ws,wt,sl,oT,ex,_⟩:=id y4;refine Pk (s:=⟨A,g,c,d,e.os⟩) I4.G_ ex qO FU ?_;refine codeAny_handlers_suite<|Gb (s:=⟨A,g,c,d,e.os⟩) y4 λR y5 m5=>?_
  have u5:=u4.mv m5 F r (λ_ z=>nomatch z);have k5:GQ X.prog X.w h R:=k4.mv m5 I B (λ_ z=>nomatch z);have I5:Inv X n σ h ⟨R,g,c,d,e.os⟩:=f.call (h':=R) (g':=g) (d':=c) (t':=d) (ch:=[]) u5 k5 a<|λb z=>absurd z<|by simp
  refine wpAny_mono (hs x n _ _ _ _ (I5.inX x) K) (λN s7 j=>?_) λt s7 j=>?_
  ·cases N with
   |next=>obtain⟨H,L,J,i⟩:=j;exact⟨_,_,J.bA f.ok,i⟩
   |brk=>obtain⟨H,L,J,i⟩:=j;exact⟨_,_,J.bA f.ok,i⟩
   |cont=>obtain⟨H,L,J,i⟩:=j;exact⟨_,_,J.bA f.ok,i⟩
   |ret u=>obtain⟨v,H,L,J,rv,i⟩:=j;exact⟨_,_,_,J.bA f.ok,rv,i⟩
  ·have k:X.xe t s7:=j;rw[NX] at k;exact k.elim
end
open PySem PySem.Spec PyProof.Rows
section
variable{o f:Expr}{i4:Pos}{td ty tx:TE}
inductive Te(K:W.Frag)(P:Params)(ty tx:TE)(σ:St)(Q:VK)(x:V)(H1:Hp):Prop
 |mk(a:_):x=.ref a->KDict K P a->(ty σ H1 λy H2=>tx σ H2 λd H3=>∃z r,y=.str z/\W.nsIn K a z=some r/\∃v,RelV v (r.getD .none)/\(r.isSome=true->Q v H3)/\(r.isSome=false->Q d H3))->Te K P ty tx σ Q x H1
def kY(K:W.Frag)(P:Params)(td ty tx:TE):TE:=λσ H Q=>td σ H λx H1=>Te K P ty tx σ Q x H1
theorem Xa(J:PE X o td)(F:PE X e ty)(D:PE X f tx)(m:M2 X o "get" g0 e f i4):PE X (.Call (.Attribute o "get" g0) [e,f] [] i4)<|kY X.K X.w.params td ty tx:=by
 intro g s σ H Q I h;refine wpAny_Call_method m.base m.few m.line ia ff kq<|CT (J g s σ H _ I h) λu P R=>?_
 obtain⟨x,p,i,Z,a,L,d,A⟩:=R;subst L;obtain rfl:u=Value.ref a:=Z;obtain⟨⟨es,n,hl,l⟩,lo⟩:=d;have V:=W.mapOf_K (prog:=X.prog) i.G_ hl l;refine⟨V.typeIs,λb q=>?_,?_⟩
 ·cases q;exact⟨_,i.G_ _ _ hl,U⟩
 rw[m.trees];refine Calls.callWith_builtin U (Calls.evalArgs_plain (Calls.spliced_cons (CT (F g P σ p _ i A) λiv O ⟨y,G,S,Y,M⟩ =>
  Calls.spliced_cons (CT (D g O σ G _ S M) λw s3 ⟨T,j,c,rz,z,r,B,C,v,N,E,K⟩=>Calls.spliced_nil ?_))))
 subst B;obtain⟨t,rfl⟩:=Y;have k:=W.mapOf_K (prog:=X.prog) c.G_ hl l;refine call_meetsIn ff k.typeIs PySem.F.entry_dict_get (PySem.F.args_dict_get_3 _ _ _) (meets_dict_get_default (strKind X.prog X.w) a (strKind_is X.prog X.w z t) lo w) ⟨_,k,?_⟩;rw[W.find_K hl C]
 cases r with
 |none=>exact⟨T,j,c.tok _,rz,K U⟩
 |some u=>exact⟨v,j,c.tok _,N,E U⟩
end
theorem Bo{X:Cx}{x:Str}{e:Expr}{b:TE}{c a:Pos}(i:Nat)(d:X.N.Nodup)(hi:X.N[i]? = some x)(f:Loc X.env.scope x)(h:PE X e b)(g:swapsWith e (some<|.Name x c) a.line X.env=pure false)(j:X.fn x=true \/ X.env.scope.names.lookup x=some .local) :
  PS X (.Assign [.Name x c] e a) (Qd b<|Cm i):=Be d hi f h g j
theorem Ay{X:Cx}{e:Expr}{a:List Expr}{b:TE}{t:TA}(h:starEach (e::a) X.env=(false,eval e X.env)::starEach a X.env)(d:PE X e b)(c:PA X a t):PA X (e::a)<|dj b t:=Aa d c h
end L2
namespace Og
open PySem L2
structure CoS where
 rows:List R
 bs:List<|Str×Nat
 rk:List<|Str×Nat×Int
 ks:List R
 ls:List<|List Ln
 sts:List Nat
 sn:List Str
end Og
namespace L2
open PySem PySem.Spec PySem.Calls PyProof.Rows
theorem Inv.freeze(I:Inv X a8 σ H s)(e:H a=some (.dK kvs)):∃o,Inv X a8 σ (upd H a<|.frz o<|.dK kvs) s:=by
 have i:CW X.prog X.w H s.heap a<|.dK kvs:=I.hok a _ e
 obtain⟨_,_,r,j,f,p,t,k,_⟩:=id i;have up1:∀b x,H b=some (.own x)->upd H a (.frz f<|.dK kvs) b=some (.own x):=λb x q=>by
  rw[Aw λz=>by rw[z,e] at q;cases q];exact q
 have d:∀b h,H b=some (.tup h)->upd H a (.frz f<|.dK kvs) b=some (.tup h):=λb x q=>by
  rw[Aw λz=>by rw[z,e] at q;cases q];exact q
 refine⟨f,I.step (h':=s.heap) (g':=s.gens) (d':=s.drawn) (t':=s.toks) (ch:=[]) (λ_ z=>nomatch z) (λb o _ _ _ q _=>q) (λb o _ _ _ q _=>⟨o.slots,q⟩) (λb o _ _ n=>?_) (λb o _ q=>⟨o,q⟩) d (λb o u q=>?_) (λb l q=>⟨#[],?_⟩) (λm q=>q) (λb u q=>?_) I.bare⟩
 ·rw[Aw λz=>by rw[z,e] at n;cases n];exact n
 ·rw[Aw λz=>by rw[z,e] at q;cases q];exact q
 ·rw[Aw (λz=>by rw[z,e] at q;cases q),q];simp
 ·by_cases g:b=a
  ·subst g;rw[Aj] at q
   cases q;exact⟨k,i.stay (λ_ _ _ q=>q) (λc q=>up1 c _ q) d⟩
  ·rw[Aw g] at q;exact (I.hok b u q).stay (λ_ _ _ q=>q) (λc q=>up1 c _ q) d
def ZD(o:Obj):Nat:=match o.data with | .dict _ n=>n | _=>0
def Itd(a:Addr)(o:Obj)(kvs:List<|Key×V):It :=
 ⟨λi H=>H a=some (.frz o<|.dK kvs)/\i<kvs.length,λi H v H'=>∃T kv,H T=none/\v=.ref T/\kvs[i]? = some kv/\H'=upd H T (.tup [kV kv.1,kv.2]),λi H=>H a=some (.frz o<|.dK kvs)/\kvs.length<=i⟩
theorem qi{w:World}{k:Key}(h:(Bs P w).is k u=true):RelV (kV k) u:=by
 rcases CV (show Jw k u=true from h) with⟨i,t,rfl,rfl⟩ | ⟨x,t,rfl,rfl⟩
 ·exact⟨t,U⟩
 ·exact⟨t,U⟩
theorem mV:∀{l:List (Key × V)}{m:List (Key × Value)},KV l m->∀{j:Nat}{p:Key × V},l[j]? = some p->∃q,m[j]? = some q/\p.1=q.1/\RelV p.2 q.2:=by
 intro l m h;unfold KV at h
 induction h with
 |nil=>intro j p c;simp at c
 |cons a b d =>
  intro j p c
  cases j with
  |zero =>
   simp at c;subst c;exact⟨_,U,a⟩
  |succ j=>exact d<|by simpa using c
theorem Rh{w:World}{K:W.Frag}{k1:Nat}(a d:Addr)(o:Obj)(kvs:List<|Key×V)(ab:a≠d) :
  Turn P w K (.Tuple es k1 pos) (Itd a o kvs) [d] d (λi h=>∃ok ov,IsItemIter h d a i kvs.length (ZD o) ok ov) where
 mem:=by simp
 obj:=λi h st b f=>by
  obtain⟨ok,ov,c⟩:=st;have q:b=d:=by simpa using f
  subst q;exact⟨_,c,λv z=>by
   have z':Data.fields _=Data.cell v:=z
   cases z'⟩
 keep:=λi h h' st k=>by
  obtain⟨ok,ov,c⟩:=st;exact⟨ok,ov,k d (by simp) _ c⟩
 item:=by
  intro X F D O hc i a8 s σ H E I y st R;subst F D O;obtain⟨J,S⟩:=R;obtain⟨ok,ov,c⟩:=st;have Q:CW X.prog X.w H s.heap a<|.frz o<|.dK kvs:=I.hok a _ J
  obtain⟨n,_,_,A,e,ob,j,C,t,L,m,N,M,B⟩:=Q;rw[n] at t
  cases t;have g:ZD o=C:=by unfold ZD;rw[m]
  have l:s.heap.DictAt (Bs X.prog X.w) a A<|ZD o:=⟨o,j,n,L,by rw[g];exact m,N,M,B⟩
  have hl:=e.length;obtain⟨⟨k,x⟩,Z⟩:∃p,kvs[i]? = some p:=⟨kvs[i],by simp[S]⟩;obtain⟨⟨k',u⟩,hu,ek,ru⟩:∃q,A[i]? = some q/\k=q.1/\RelV x q.2:=by
   exact mV e Z
  have G:k=k':=ek;subst G;rw[hl] at c;refine wpAny_pyNext_items_item c l hu λkey Y r n1 n3 n4 n5=>?_;refine⟨_,U,wpAny_letOwnedTupleGo_items (s:={ s with heap:=Y }) n1 λh2 m1 m2=>?_⟩;have T:s.heap.objs.size≠d:=ix<|Heap.lt_size c
  have fr:H s.heap.objs.size=none:=I.hok.fresh<|al _
  have nw:CW X.prog X.w (upd H s.heap.objs.size<|.tup [kV k,x]) h2 s.heap.objs.size (.tup [kV k,x]) :=
   ⟨by show 2<=sizeLine;decide,[key,u],.cons (qi r)<|.cons ru .nil,_,m2.extBut _ _ T n3,U,_,U⟩
  refine⟨.ref s.heap.objs.size,_,I.LR (t':=s.toks) (ch:=[d]) y (λb o f q=>?_) (al _) nw,U,⟨_,(k,x),fr,U,Z,U⟩,⟨_,_,by rw[hl];exact m1⟩,λb f=>?_⟩
  ·exact m2.extBut _ _ (λz=>f<|by simp[z])<|n5 b o (λz=>f<|by simp[z]) q
  ·have q:b=d:=by simpa using f
   subst q;rw[Aw (Ne.symm T)];exact (y _ f).1
 done:=by
  intro X F D O hc i a8 s σ H E I y st R;subst F D O;obtain⟨J,S⟩:=R;obtain⟨ok,ov,c⟩:=st;have Q:CW X.prog X.w H s.heap a<|.frz o<|.dK kvs:=I.hok a _ J
  obtain⟨n,_,_,A,e,ob,j,C,t,L,m,N,M,B⟩:=Q;rw[n] at t
  cases t;have g:ZD o=C:=by unfold ZD;rw[m]
  have l:s.heap.DictAt (Bs X.prog X.w) a A<|ZD o:=⟨o,j,n,L,by rw[g];exact m,N,M,B⟩
  have hl:=e.length;rw[hl] at c;exact wpAny_pyNext_items_end (I.ok.hd hc) c l (List.getElem?_eq_none<|by omega) λY eb=>⟨U,I.Oa (t':=s.toks) (ch:=[d]) y λb o f q=>eb b o (λz=>f<|by simp[z]) q⟩
 self:=λ_ _ _ _ _ st h=>by
  obtain⟨ok,ov,c⟩:=st;exact W.kcp_self c h
inductive Tw(R:It->Hp->Prop)(x:V)(H1:Hp):Prop
 | mk(a o kvs:_):x=.ref a->H1 a=some (.frz o (.dK kvs))->R (Itd a o kvs) H1->Tw R x H1
def iD(td:TE):TI:=λσ H R=>td σ H λx H1=>Tw R x H1
theorem YQ{k1:Nat}{t:Pos}{o:Expr}{B:TE}(G:PE X o B)
  (f:attributeBase o "items" X.env (eval o X.env)=eval o X.env:=by rfl)(D:(g0.endLine == t.line)=true:=by rfl):PI X (.Tuple es k1 mr) (.Call (.Attribute o "items" g0) [] [] t)<|iD B:=by
 intro L s σ H R I h;refine wpAny_Call_method0_late f D<|CT (G L s σ H _ I h) λv c P=>?_
 obtain⟨x,u,n,S,a,g,kvs,K,A,q⟩:=P;subst K
 cases S;obtain⟨y,F,E⟩:=RG n<|.inl ⟨kvs,.inr ⟨g,A⟩⟩;refine⟨"dict","dict.items",ia,PySem.F.slot_dict_items,PySem.F.type_dict_items,y,F,Calls.callWith_builtin U<|PySem.evalArgs_none ?_⟩;have V:CW X.prog X.w u c.heap a<|.frz g<|.dK kvs:=n.hok a _ A
 obtain⟨p,_,_,j,l,T,k,C,z,N,w,Q,O,W⟩:=V;rw[p] at z
 cases z;have m:ZD g=C:=by unfold ZD;rw[w]
 have i:c.heap.DictAt (Bs X.prog X.w) a j<|ZD g:=⟨g,k,p,N,by rw[m];exact w,Q,O,W⟩
 have hl:=l.length;refine call_meetsIn PySem.F.slot_dict_items y PySem.F.entry_dict_items (PySem.F.args_dict_items_1 _) (meets_dict_items (Bs X.prog X.w) a E) ⟨⟨j,i.dictOf⟩,?_⟩;have J:a<c.heap.objs.size:=Heap.lt_size p;refine wpAny_pyIter_items (v:=c.heap.objs.size) (d:=a) (kvs:=j) (ep:=ZD g) ⟨_,Heap.get?_push_size _ U,U,U⟩ (i.push _) ?_;have r:=n.kept (h':=c.heap.push { cls:=.type "dict_items",data:=.fields #[.ref a] }) (t':=c.toks) λb o e=>Heap.get?_push_of_some _ e;refine⟨_,[_],_,_,u,U,r.kept (t':=c.toks) λb o e=>Heap.get?_push_of_some _ e,Rh a _ g kvs ?_,⟨_,_,by rw[hl];exact Heap.get?_push_size _ U⟩,λb M=>?_,q⟩
 ·rw[Heap.size_push];exact cf<|hV J
 ·have e:b=(c.heap.push { cls:=.type "dict_items",data:=.fields #[.ref a] }).objs.size:=by simpa using M
  subst e;exact r.Ou (al _)<|r.hok.fresh<|al _
section
variable{Q:VK}
theorem R5{K:W.Frag}{o:Obj}(p:Key×V->Bool)(f:Key×V->V)(t:H1 a=some (.frz o<|.dK kvs))(B:kvs.length<sizeLine)
  (w:∀kv∈kvs,∀H,Am H1 H->∀R:Bool->Hp->Prop,(∀H',Am H H'->R (p kv) H')->tt (some (kV kv.1)::some kv.2::σ) H R)
  (x:∀kv∈kvs,p kv=true->∀H,Am H1 H->∀R:VK,(∀H',Am H H'->R (f kv) H')->te (some (kV kv.1)::some kv.2::σ) H R)
  (z:∀D H,H1 D=none->Am H1 H->H D=some (.lst<|(kvs.filter p).map f)->Q (.ref D) H):Ga (Itd a o kvs) σ H1 Q (Kv K 2<|Eb (Cm 0)<|Eb (Cm 1) Mw) tt te:=by
 intro D q;have C:Am H1<|upd H1 D<|.lst []:=λb o e=>by rw[Aw (Ai e q)];exact e
 refine⟨λi m s H=>m=kvs.length - i/\i<=kvs.length/\s=(((kvs.take i).filter p).map f)/\H D=some (.lst s)/\Am H1 H,⟨kvs.length,by simp,Nat.zero_le _,by simp,Aj,C⟩,?_⟩;rintro i m s H ⟨rfl,G,rfl,n,c⟩;by_cases d:i<kvs.length
 ·refine .inr ⟨⟨c _ _ t,d⟩,λv E A I J=>?_⟩;obtain⟨T,kv,y,rfl,r,rfl⟩:=A;have h:=ah r;have g:Am H<|upd H T<|.tup [kV kv.1,kv.2]:=λb o e=>by rw[Aw (Ai e y)];exact e
  have l:(((kvs.take i).filter p).map f).length<sizeLine:=by
   rw[af];refine aT (cc _ _)<|aT ?_ B
   rw[cy];omega
  refine⟨T,[kV kv.1,kv.2],U,ma Aj,U,_,[kv.2],U,kv.2,[],U,U,⟨_,_,U⟩,?_⟩;refine w kv h _ (c.trans g) _ λL j=>?_;by_cases k:p kv=true
  ·rw[if_pos k];refine x kv h k _ (c.trans<|g.trans j) _ λF u=>?_;refine⟨u _ _<|j _ _<|g _ _ n,l,kvs.length - (i+1),by omega,U,d,?_,Aj,λb o e=>?_⟩
   ·rw[take_succ_filter p kvs i kv r,if_pos k,cq];rfl
   ·rw[Aw (Ai e q)];exact u _ _<|j _ _<|g _ _<|c _ _ e
  ·rw[if_neg k];refine⟨kvs.length - (i+1),by omega,U,d,?_,j _ _<|g _ _ n,c.trans<|g.trans j⟩;rw[take_succ_filter p kvs i kv r,if_neg k,dE]
 ·have e:i=kvs.length:=by omega
  subst e;rw[dt] at n;exact .inl ⟨⟨c _ _ t,al _⟩,z D H q c n⟩
end
theorem Inv.yd{o:Obj}{u:HO}(I:Inv X a8 σ H s)(e:H a=some (.frz o u))(nb:∀o' u',X.H₀ a≠some (.frz o' u')):Inv X a8 σ (upd H a u) s:=by
 have y:CW X.prog X.w H s.heap a<|.frz o u:=I.hok a _ e
 obtain⟨A,r⟩:=id y;have up1:∀b x,H b=some (.own x)->upd H a u b=some (.own x):=λb x q=>by
  rw[Aw λz=>by rw[z,e] at q;cases q];exact q
 have d:∀b f,H b=some (.tup f)->upd H a u b=some (.tup f):=λb x q=>by
  rw[Aw λz=>by rw[z,e] at q;cases q];exact q
 have h:∀b,H b=none->upd H a u b=none:=λb n=>by rw[Aw λz=>by rw[z,e] at n;cases n];exact n
 refine⟨I.ok,I.os,I.bare,⟨I.base.keep,I.base.slot,λb o q n k=>h b<|I.base.free b o q n k,I.base.there,λb f q=>d b f<|I.base.tups b f q,λb o' u' q=>?_,λb l q=>?_⟩,I.loc,I.cell,h _ I.free,λx c q=>h _<|I.freeC x c q,λp m=>?_,λb u' q=>?_,I.len⟩
 ·have:=I.base.frzs b o' u' q;rw[Aw λz=>nb o' u'<|by rw[<-z];exact q];exact this
 ·obtain⟨g,i⟩:=I.base.tbls b l q;exact⟨g,by rw[Aw λz=>by rw[z,e] at i;cases i];exact i⟩
 ·obtain⟨t,v,w⟩:=I.pin p m;exact⟨t,h _ v,w⟩
 ·by_cases j:b=a
  ·subst j;rw[Aj] at q
   cases q;exact r.stay (λ_ _ _ q=>q) (λc q=>up1 c _ q) d
  ·rw[Aw j] at q;exact (I.hok b u' q).stay (λ_ _ _ q=>q) (λc q=>up1 c _ q) d
theorem Inv.qP(I:Inv X a8 σ H s)(e:H a=some (.dK kvs)):∀o' u',X.H₀ a≠some (.frz o' u'):=λo' u' q=>by
 have:=I.base.frzs a o' u' q;rw[e] at this
 cases this
inductive YH(t:TE)(σ:St)(H:Hp)(Q:VK):Prop
 |mk(a kvs:_):H a=some (.dK kvs)->(∀o,t σ (upd H a (.frz o (.dK kvs))) λv H'=>H' a=some (.frz o<|.dK kvs)/\Q v (upd H' a<|.dK kvs))->YH t σ H Q
theorem Yg{t:TE}(h:PE X e t):PE X e<|YH t:=by
 intro j s σ H Q I q;obtain⟨a,g,b,q⟩:=q;have nb:=I.qP b;obtain⟨o,J⟩:=I.freeze b;refine CT (h j s σ _ _ J<|q o) λv k c=>?_;obtain⟨x,l,i,r,f,d⟩:=c;exact⟨x,_,i.yd f nb,r,d⟩
end L2
namespace Og
open PySem L2
structure Df(kvs:List<|Key×V)(c:Nat->Nat):Prop where
 e:∀kv∈kvs,∃k:Nat,kv=(Sum.inl (k:Int),V.int ((c k:Nat):Int))/\k<1200
 v:∀k:Nat,CN kvs (Sum.inl (k:Int))=some (.int ((c k:Nat):Int)) \/ (CN kvs (Sum.inl (k:Int))=none/\c k=0)
theorem Df.nil:Df [] λ_=>0:=⟨(λ_ h=>nomatch h),λk=>.inr ⟨U,U⟩⟩
theorem Df.getD(h:Df kvs c)(k:Nat):(CN kvs<|Sum.inl (k:Int)).getD (.int 0)=.int ((c k:Nat):Int):=by
 rcases h.v k with e | ⟨e,z⟩
 ·rw[e];rfl
 ·rw[e,z];rfl
theorem Mu{k:Key}{v:V}{b:Key×V}(h:b∈putK kvs k v):b=(k,v) \/ (b∈kvs/\b.1≠k):=by
 unfold putK at h;split at h
 ·obtain⟨p,d,e⟩:=ar.mp h;by_cases a:p.1=k
  ·rw[if_pos a] at e;first | exact .inl e.symm | (left;rw[<-e,a])
  ·rw[if_neg a] at e;exact .inr ⟨e ▸ d,e ▸ a⟩
 ·rename_i c;rcases bE.mp h with z | z
  ·refine .inr ⟨z,λa=>c ?_⟩;exact fF.mpr ⟨b,z,decide_eq_true a⟩
  ·exact .inl<|ax.mp z
theorem QW{k:Key}{v:V}:(putK kvs k v).length<=kvs.length+1:=by
 unfold putK;split
 ·rw[af];omega
 ·rw[ai];exact al _
abbrev setC(c:Nat->Nat)(k n:Nat):Nat->Nat:=λj=>if j=k then n else c j
theorem Df.put{k:Nat}(h:Df kvs c)(f:k<1200):Df (putK kvs (Sum.inl (k:Int))<|.int ((n:Nat):Int))<|setC c k n:=by
 refine⟨λe d=>?_,λj=>?_⟩
 ·rcases Mu d with rfl | ⟨b,g⟩
  ·exact⟨k,by rw[show setC c k n k=n from if_pos U],f⟩
  ·obtain⟨j,rfl,a⟩:=h.e e b;refine⟨j,?_,a⟩;rw[show setC c k n j=c j from if_neg λz=>g<|by rw[z]]
 ·rw[Fw];by_cases a:j=k
  ·subst a;rw[if_pos U,show setC c j n j=n from if_pos U];exact .inl U
  ·rw[if_neg (λz=>a (by have:=Sum.inl.inj z;omega)),show setC c k n j=c j from if_neg a];exact h.v j
def DQ(kvs:List<|Key×V):List Nat:=(kvs.filter λkv=>match kv.2 with | .int n=>decide (0<n) | _=>false).map λkv=>match kv.1 with | .inl i=>i.toNat | _=>0
theorem Df.mem(h:Df kvs c)(k:Nat):k∈DQ kvs ↔ 0<c k:=by
 unfold DQ;rw[ar];constructor
 ·rintro⟨a,l,e⟩;obtain⟨f,n⟩:=bb.mp l;obtain⟨j,rfl,_⟩:=h.e a f;have o:decide (0<((c j:Nat):Int))=true:=n;have:0<((c j:Nat):Int):=of_decide_eq_true o;have d:(j:Int).toNat=k:=e;rw[aS] at d;subst d;omega
 ·intro q;rcases h.v k with e | ⟨_,z⟩
  ·unfold CN at e;obtain⟨a,b,g⟩:=av.mp e;have i:=gS b;have m:a.1=Sum.inl (k:Int):=of_decide_eq_true<|kL (p:=λa:Key×V=>decide (a.1=Sum.inl (k:Int))) b
   refine⟨a,bb.mpr ⟨i,?_⟩,?_⟩
   ·rw[g];exact decide_eq_true<|by omega
   ·rw[m];exact aS k
  ·omega
theorem Df.bound(h:Df kvs c):∀k∈DQ kvs,k<1200:=λk f=>by
 obtain⟨d,a,e⟩:=ar.mp f;obtain⟨j,rfl,g⟩:=h.e d (bb.mp a).1;have b:(j:Int).toNat=k:=e;rw[aS] at b;omega
theorem U8(kvs:List<|Key×V):(DQ kvs).length<=kvs.length:=by
 unfold DQ;rw[af];exact cc _ _
structure V8(C Cy Cp:Addr)(Ho H:Hp)(z x y hd:Addr)(us:List V)(bs:List<|Str×Nat)(rk:List<|Str×Nat×Int)(ks:List R)(ls:List<|List Ln)(sts:List Nat)(dr sh:Nat)(sd:Addr)(kvs:List<|Key×V)(c:Nat->Nat):Prop where
 con:Zj C Cy Ho H y x us bs rk ks ls sts dr sh sd
 Lw:J3 Cp H z x y hd
 n:Ho hd=none
 d:H hd=some (.dK kvs)
 h:Df kvs c
section
variable{x:Addr}{bs:List (Str×Nat)}{rk:List (Str×Nat×Int)}{d0:List (Key×V)}{c':Nat->Nat}
theorem V8.mono(s:Am H H')(p:V8 C Cy Cp Ho H z x y hd us bs rk ks ls sts dr sh sd kvs c):V8 C Cy Cp Ho H' z x y hd us bs rk ks ls sts dr sh sd kvs c :=
 ⟨⟨p.con.o,p.con.s.trans s,p.con.n,p.con.c.mono s⟩,p.Lw.mono s,p.n,s _ _ p.d,p.h⟩
theorem V8.put(p:V8 C Cy Cp Ho H z x y hd us bs rk ks ls sts dr sh sd kvs c)(h:Df d0 c'):V8 C Cy Cp Ho (upd H hd<|.dK d0) z x y hd us bs rk ks ls sts dr sh sd d0 c':=by
 obtain⟨f,fs,a,k⟩:=p.con.c.ex;obtain⟨m,i,d,g⟩:=p.Lw.ex;have l:y≠hd:=λe=>by rw[e,p.d] at a;cases a
 have j:z≠hd:=λe=>by rw[e,p.d] at d;cases d
 exact⟨⟨p.con.o,λb o e=>by rw[Aw (Ai e p.n)];exact p.con.s b o e,p.con.n,f,fs,by rw[Aw l];exact a,k⟩,⟨m,i,by rw[Aw j];exact d,g⟩,p.n,Aj,h⟩
end
end Og
namespace Sm
open PySem PyProof.Rows
local macro_rules | `(tactic| delta gallopOpen)=>`(tactic| delta $(Lean.mkCIdent (Lean.mkPrivateNameCore `PySem.Builtin.List.W1All `PySem.Builtin.gallop)))
section
variable{α:Type}{L:α->α->Bool}{A B:List α}
def uZ(L:α->α->Bool)(l:List α):Prop:=l.Pairwise λx y=>L y x=false
def Good(L:α->α->Bool)(A B r:List α):Prop:=r.Perm (A++B)/\uZ L r
end
end Sm
section PartSortN
set_option maxHeartbeats 800000
namespace Sm
open PySem PyProof.Rows
section
variable{w:World}{ρ:Keyed->Nat}{S:Keyed->Prop}{κ:SortKind}{p0:Array (Nat×Nat×Nat)}{a0:Array Keyed}{lo:Nat}
def R(ρ:Keyed->Nat)(xs:Array Keyed)(i:Nat):Nat:=match xs[i]? with
 |some x=>ρ x
 |none=>0
end
end Sm
end PartSortN
namespace Sq
open PySem PySem.W PyProof.Rows
structure Ord(lt:Nat->Nat->Bool):Prop where
 irr:∀a,lt a a=false
 asy:∀a b,lt a b=true->lt b a=false
 tr:∀a b c,lt b a=false->lt c b=false->lt c a=false
def run{α:Type}(lt:Nat->Nat->Bool):KasT α->α
 |.ret a=>a
 |.ask i j k=>run lt<|k<|lt i j
def K(p:Array Nat)(i:Nat):Nat:=(p[i]?).getD 0
end Sq
namespace Sq
open PySem PySem.W PyProof.Rows
abbrev T3:=Int×Int×Int
end Sq
namespace Sq
open PySem PySem.W PySem.Calls PyProof.Rows
abbrev T2:=Int×Int
end Sq
section PartSortX
set_option maxHeartbeats 800000
namespace Sx
open PySem PySem.W PySem.Calls PyProof.Rows Sm Sq
section
variable{β:Type}{blt:β->β->Bool}
structure Or(blt:β->β->Bool):Prop where
 irr:∀a,blt a a=false
 asy:∀a b,blt a b=true->blt b a=false
 tr:∀a b c,blt b a=false->blt c b=false->blt c a=false
def rk(blt:β->β->Bool)(ts:List β)(c:β):Nat:=ts.countP λz=>blt z c
end
end Sx
end PartSortX
namespace L2
open PySem PySem.Spec PySem.Calls PyProof.Rows
theorem VH(g:X.A.units<cLine):G7 X (compareOp .Eq) (λx y H Q=>∃p q xs,x=V.ref p/\y=V.ref q/\De X.K H p xs/\De X.K H q []/\Q (.bl xs.isEmpty) H):=by
 intro E s σ H x y v u Q I w o h;obtain⟨p,q,xs,rfl,rfl,n,A,k⟩:=h
 cases w
 cases o;obtain⟨m,r,d,B⟩:=I.list n;obtain⟨C,t,f,l⟩:=I.list A;have c:=r.length
 cases t
 cases xs with
 |nil =>
  cases r;refine SeqAt.RcAt.lists (e:=λ_=>true) d.isList f.isList U g (λj i D=>?_) _ _ _ _ ⟨.bl _,H,I,U,k⟩;exact absurd i<|iA _
 |cons a b =>
  refine SeqAt.RcAt.lists_lengths d.isList f.isList (by simp;intro z;rw[z] at c;simp at c) g _ _ _ _ ⟨.bl _,H,I,U,k⟩
end L2
namespace Wd
open PySem PyProof.Rows
section
variable{w:World}{T:String}{r d:Addr}{P:Nat->Value->Prop}{OK:Heap->Prop}
theorem VG{R:List Value->Shared->Prop}(K:W.KdlSrc prog w T r d n P OK)(t:A.handled=none)(i:OK s.heap)(z:n<=sizeLine)
  (h:∀h' tk f',(∀b o,s.heap.get? b=some o->h'.get? b=some o)->s.heap.objs.size<h'.objs.size->ItemsOf P f' n->R f'.toList { s with heap:=h',toks:=tk }):wpAny (model prog w) A (collect<|.ref r) R E s:=by
 unfold collect;refine wpAny_bind<|wpAny_runValue<|codeAny_builtin PySem.F.entry_proto_collect ?_
 rw[Around.under_plainId PySem.F.plain_proto_collect _];show wpAny _ A.in1 (newList [] >>= λl=>again<|.builtin "list.__iadd__" ⟨[l,.ref r],[]⟩) _ _ s;refine wpAny_bind<|wpAny_newObj_type<|wpAny_pure ⟨plainId_quiet PySem.F.plain_list_iadd _,codeAny_builtin PySem.F.entry_list_iadd ?_⟩
 rw[Around.under_plainId PySem.F.plain_list_iadd _];have m:(s.heap.push { cls:=.type "list",data:=.seq ([]:List Value).toArray }).get? s.heap.objs.size=some { cls:=.type "list",data:=.seq #[] }:=Heap.get?_push_size _ U;obtain⟨p,u⟩:=K.there _ i;show wpAny _ A.in1 (Builtin.List.listExtendWith (.ref s.heap.objs.size) (.ref r)<|.ref s.heap.objs.size) _ _ _;have key:=W.kdl_extend (A:=A) (s:={ s with heap:=s.heap.push { cls:=.type "list",data:=.seq ([]:List Value).toArray } }) (R:=λq j=>∃h' tk f' c,q=.ok (.ret<|.ref s.heap.objs.size)/\j = { s with heap:=h',toks:=tk } /\
   (∀b o,s.heap.get? b=some o->h'.get? b=some o)/\h'.get? s.heap.objs.size=some { cls:=.type "list",dict:=none,data:=.seq f' c,slots:=#[] }/\ItemsOf P f' n) K t (K.keep _ _ i λb _ o e=>Heap.get?_push_of_some _ e) s.heap.objs.size (Ne.symm<|cf p) (Ne.symm<|cf u) (.ref s.heap.objs.size) 0 m
  (λh' tk f' c k a g=>⟨h',tk,f',c,U,U,λb o e=>k b o (cf<|Heap.lt_size e)<|Heap.get?_push_of_some _ e,a,g⟩) z
 refine wpAny_mono key (λfin j x=>?_) λe j x=>?_
 ·cases fin with
  |done f =>
   obtain⟨h',tk,f',c,e,rfl,k,a,g⟩:=x
   cases e;exact wpAny_bind<|wpAny_load a<|wpAny_pure<|h h' tk f' k (Heap.lt_size a) g
  |again C =>
   refine⟨x.1,codeAny_mono x.2 λq B y=>?_⟩;obtain⟨h',tk,f',c,rfl,rfl,k,a,g⟩:=y;exact wpAny_bind<|wpAny_load a<|wpAny_pure<|h h' tk f' k (Heap.lt_size a) g
 ·obtain⟨_,_,_,_,v,_⟩:=x
  cases v
theorem Xi{js:List Int}(K:W.KdlSrc prog w T r d n P OK)(q:A.handled=none)(f:OK s.heap)(u:n<64)(v:∀f':Array Value,ItemsOf P f' n->IntsAre f'.toList js)
  (h:∀D h' tk out c ns,s.heap.objs.size<=D->(∀b o,s.heap.get? b=some o->h'.get? b=some o)->h'.get? D=some { cls:=.type "list",data:=.seq out c }->IntsAre out.toList ns->ns.Perm js->ns.Pairwise (· <= ·)->Q (.ref D) { s with heap:=h',toks:=tk }) :
  wpAny (model prog w) A (call (.builtin "sorted") [.ref r]) Q E s:=by
 refine Calls.call_function_entry kind_sorted plain_sorted entry_sorted (args_sorted1 _) ?_;unfold Builtin.«sorted»;refine wpAny_bind (m:=checkCount "sorted" 1 1 _)<|wpAny_pure<|wpAny_bind<|VG (A:=A.in1) K (by simpa using q) f (by rw[sizeLine_eq];omega) λh' tk f' k lt g=>?_
 have l:=v f' g;have len:f'.toList.length<64:=by rw[Array.length_toList,g.1];exact u
 refine wpAny_bind<|wpAny_newList ?_<|by rw[sizeLine_eq];omega
 have a:(h'.push<|seqObj "list" f'.toList.toArray 0).get? h'.objs.size=some (seqObj "list" f'.toList.toArray 0):=Heap.get?_push_size _ U;refine wpAny_bind<|wpAny_holding<|wpAny_call_entry slot_list_sort ⟨_,a,U⟩ entry_list_sort (list_sort_tree a l len λout ns p t x=>⟨_,U,?_⟩)<|args_list_sort _
 obtain⟨c,j⟩:=sortedHeap_at (out:=out) a;refine wpAny_pure ⟨_,U,h h'.objs.size _ tk out c ns (fT lt) (λb o e=>?_) j p t x⟩;have i:=Heap.lt_size<|k b o e
 rw[sortedHeap_old (cf i) (by rw[size_push'];exact hV i)];exact Heap.get?_push_of_some _<|k b o e
end
end Wd
namespace L2
open PySem PySem.Spec PyProof.Rows
theorem Gs(hc:X.calm=true):Fe X (.builtin "sorted") (λxs H Q=>∃(a:Addr)(kvs:List<|Key × V)(js:List Int),xs=[V.ref a]/\H a=some (.dK kvs)/\kvs.map (·.1)=js.map Sum.inl/\kvs.length<64/\∀(p:Addr)(ns:List Int),H p=none->ns.Perm js->ns.Pairwise (· <= ·)->Q (.ref p) (upd H p<|.lst<|ns.map V.int)):=by
 intro a8 s σ H xs us Q I r h;obtain⟨a,kvs,js,rfl,ha,L,ab,q⟩:=h;obtain⟨u,rfl,ru⟩:=vals1 r
 cases ru;obtain⟨hz,lo,w,d,o,N,ep,v,z,B,e4,e5,S⟩:=I.hok a _ ha;have hl:kvs.length=w.length:=Paired.length d;have E:s.heap.DictAt (Bs X.prog X.w) a w ep:=⟨o,N,v,z,B,e4,e5,S⟩;have T:js.length=w.length:=by
  have:=congrArg List.length L;rw[af,af] at this;omega
 refine Wd.Xi (js:=js) (W.kdl_dict (knd:=Bs X.prog X.w) (kvs:=w) (ep:=ep) lo) (I.ok.hd hc) E (by omega) (λM J=>?_) λD h' P A c ns le k e i1 p o=>?_
 ·refine Nt ?_;refine O3 (by have h1:M.toList.length=M.size:=Array.length_toList;have h2:=J.1;rw[af];omega) λj x u G K=>?_;rw[Array.getElem?_toList] at K;obtain⟨k,y,F,UM⟩:=J.2 j u K;rw[am] at G;obtain⟨i,O,rfl⟩:=av.mp G;have v:(kvs.map (·.1))[j]? = some (Sum.inl i):=by rw[L,am,O];rfl
  rw[am] at v;obtain⟨kv,Z,R⟩:=av.mp v;have g:∀{l:List (Key × V)}{m:List (Key × Value)},KV l m->∀{j:Nat} {p q},l[j]? = some p->m[j]? = some q->p.1=q.1:=by
   intro l m h;unfold KV at h
   induction h with
   |nil=>intro j p q f;simp at f
   |cons a b Y =>
    intro j p q f C
    cases j with
    |zero =>
     simp at f C;subst f C;exact a.1
    |succ j=>exact Y (by simpa using f)<|by simpa using C
  have z:=g d Z F;rw[R] at z;have B:k=Sum.inl i:=z.symm;subst B;rcases CV (show Jw (Sum.inl i) u=true from UM) with⟨i',t,e,rfl⟩ | ⟨x,t,e,_⟩
  ·cases e;exact⟨t,U⟩
  ·cases e
 have hn:H D=none:=I.hok.fresh le;have n:(ns.map V.int).length<=sizeLine:=by
  rw[af,p.length_eq,sizeLine_eq];omega
 exact⟨.ref D,_,I.laid (o:=.lst<|ns.map V.int) (t':=P) k le ⟨n,A.toList,c,Jj i1,e⟩,U,q D ns hn p o⟩
theorem Ij{α β:Type}{F:α->β->Prop}:∀{l:List α}{vs:List β},Paired F l vs->∀{i:Nat} {v},vs[i]? = some v->∃a,l[i]? = some a/\F a v
 |[],_,h,i,v,b=>by cases h;simp at b
 |a::l,_,h,i,v,b=>by
  cases h with
  |cons x y =>
   cases i with
   |zero=>simp at b;subst b;exact⟨_,U,x⟩
   |succ i=>exact Ij y<|by simpa using b
theorem MJ{K:W.Frag}{Q:VK}{ps:List (V×V)}(f:V×V->V)(j:De K H1 a vs)(p:Paired (λq v=>TupAt H1 [q.1,q.2] v) ps vs)(B:vs.length<sizeLine)
  (s:∀q∈ps,∀H,Am H1 H->∀R:VK,(∀H',Am H H'->R (f q) H')->te (some q.1::some q.2::σ) H R)
  (u:∀D H,H1 D=none->Am H1 H->H D=some (.lst<|ps.map f)->Q (.ref D) H):Ga (bT K a) σ H1 Q (Kv K 2<|Eb (Cm 0)<|Eb (Cm 1) Mw) QQ te:=by
 intro D g;have y:Am H1<|upd H1 D<|.lst []:=λb o e=>by rw[Aw (Ai e g)];exact e
 have hl:=p.length;refine⟨λi m k H=>m=vs.length - i/\i<=vs.length/\k=(ps.map f).take i/\H D=some (.lst k)/\Am H1 H,⟨vs.length,by simp,Nat.zero_le _,by simp,Aj,y⟩,?_⟩;rintro i m k H ⟨rfl,A,rfl,h,c⟩;by_cases d:i<vs.length
 ·have w:vs[i]? = some vs[i]:=ae d;refine .inr ⟨⟨vs,_,c.seq j,w⟩,λv z l E F=>?_⟩;obtain⟨rfl,l⟩:=l;have x:=l vs<|c.seq j
  obtain⟨q,r,T,rfl,t⟩:=Ij p x;refine⟨T,[q.1,q.2],U,ma<|c _ _ t,U,q.1,[q.2],U,q.2,[],U,U,⟨_,_,U⟩,?_⟩;unfold QQ;dsimp only;rw[if_pos U];refine s q (ah r) _ c _ λC n=>?_;refine⟨n _ _ h,?_,vs.length - (i+1),by omega,U,d,?_,Aj,λb o e=>?_⟩
  ·rw[cy,af];omega
  ·rw[cr,am,r];rfl
  ·rw[Aw (Ai e g)];exact n _ _<|c _ _ e
 ·have e:i=vs.length:=by omega
  subst e;rw[<-hl,<-af (f:=f) (as:=ps),dt] at h;exact .inl ⟨⟨vs,c.seq j,al _⟩,u D H g c h⟩
section
variable{z:Str}
theorem aR{k:Nat}{y:Str}{b d f:Pos}{c:TI}(n:X.N.Nodup)(a:X.N[i]? = some y)(m:X.env.scope.names.lookup y=some .local)(e:X.calm=true)(S:HS X x z scope)(hi:PI X (.Tuple [.Name x px,.Name z b] k mr) iter c)
  (l:∀C s₀ H₀ fp,M3 (J2 X x z scope C s₀ H₀ fp) mn tt) (o:∀C s₀ H₀ fp,PE (J2 X x z scope C s₀ H₀ fp) mw te) (j:swapsWith (.ListComp mw [⟨.Tuple [.Name x px,.Name z b] k mr,iter,mn,0⟩] scope pos) (some<|.Name y d) f.line X.env=pure true:=by rfl) (p:∀x,foldedSetIterable iter X.env x=pure x:=by intro _;rfl) :
  PS X (.Assign [.Name y d] (.ListComp mw [⟨.Tuple [.Name x px,.Name z b] k mr,iter,mn,0⟩] scope pos) f) (Qd (Sw c (Kv X.K 2<|Eb (Cm 0)<|Eb (Cm 1) Mw) tt te)<|Cm i):=Qf (F:=λσ τ=>∃g h,τ=g::h::σ) (λ_=>⟨_,_,U⟩) (λ_ _ _ _ q=>q.g) n a m e S hi (λ_ _ _ _=>Tv e S) l o j p
end
abbrev Oz(X:Cx)(x z:Str)(scope:Scope):=JQ X [x,z] (NB x X.N) scope
abbrev JV(X:Cx)(x z:Str)(scope:Scope):Prop:=Do X [x,z] (NB x X.N) scope
theorem Ml{z:Str}{osc:Scope}{N:List Str}(b:X.env.scope=osc)(a:X.N=N)(h:Xm [x,z] (NB x N) scope osc N=true):JV X x z scope:=by
 subst a;exact R7 b U h
section
variable{z:Str}
theorem Xv{a:Pos}{k:Nat}{c:Shared}{d:Hp}(b:X.calm=true)(S:JV X x z scope) :
  PG (Oz X x z scope C c d fp) (.Tuple [.Name x px,.Name z a] k pos) (Kv X.K 2<|Eb (Cm 0)<|Eb (Cm 1) Mw):=JN (n:=2) b<|DY (V4 S U)<|DY (V4 S U) HF
theorem QB{b:Pos}{k:Nat}{a:TI}(c:X.calm=true)(S:JV X x z scope)(hi:PI X (.Tuple [.Name x px,.Name z b] k mr) iter a)
  (f:∀C s₀ H₀ fp,M3 (Oz X x z scope C s₀ H₀ fp) mn tt) (g:∀C s₀ H₀ fp,PE (Oz X x z scope C s₀ H₀ fp) mw te) (h:∀x,foldedSetIterable iter X.env x=pure x:=by intro _;rfl) :
  PE X (.ListComp mw [⟨.Tuple [.Name x px,.Name z b] k mr,iter,mn,0⟩] scope pos) (Sw a (Kv X.K 2<|Eb (Cm 0)<|Eb (Cm 1) Mw) tt te):=LK (F:=λσ τ=>∃d e,τ=d::e::σ) (λ_=>⟨_,_,U⟩) (λ_ _ _ _ q=>q.g) c S hi (λ_ _ _ _=>Xv c S) f g h
end
end L2
section PartK46a
set_option maxHeartbeats 4000000
namespace K46
open PySem L2 Og
abbrev sN:List Str:=["_law_script","_law_organ","_law_knobs","_law_player","_law_sounds","_law_log","_law_hands","_law_k","_law_deed_here","_law_key","_law_other"]
abbrev sT:List Str:=["self"]
abbrev tT:List Str:=["organ","knobs","held"]
abbrev uA:List Str:=["_law_script","_law_source_here","_law_first","_law_boards","_law_k","_law_ranks","_law_wind","_law_rows_here","_law_stops","_law_found"]
abbrev uC:List Str:=["self","name"]
abbrev vb:List Str:=["self","knob"]
abbrev vr:List Str:=["organ","name"]
abbrev vE:List Str:=["thing"]
abbrev vF:List Str:=["organ","knobs","keys"]
abbrev wf:List Str:=["_law_source_here","_law_boards","_law_ranks","_law_name_here"]
abbrev wh:List Str:=["self","key"]
abbrev wp:List Str:=["_law_source_here","_law_organ","_law_player","_law_knobs"]
abbrev wv:List Str:=["self","piston","board"]
abbrev xb:List Str:=["_law_player","_law_deed_here","_law_sounds","_law_log"]
abbrev xi:List Str:=["_law_script","_law_k"]
abbrev xk:List Str:=["self","rows"]
abbrev xy:List Str:=["text","signs","most"]
abbrev xA:List Str:=["row","ahead"]
abbrev xB:List Str:=["_law_player","_law_deed_here","_law_sounds","_law_log","_law_told_here"]
abbrev xE:List Str:=["self","deed"]
abbrev xL:List Str:=["number","board","ahead"]
abbrev yy:List Str:=["console","word","parts"]
abbrev yB:List Str:=["self","organ"]
abbrev y7:List Str:=["self","drawn"]
abbrev y8:List Str:=["_law_cell","_law_number","_law_letters","_law_size","_law_at"]
abbrev zd:List Str:=["_law_script","_law_organ","_law_hands"]
abbrev ze:List Str:=["thing","part","ahead"]
abbrev zi:List Str:=["rows","word","thing"]
abbrev zo:List Str:=["self","knobs"]
abbrev zI:List Str:=["row","knob_numbers"]
abbrev z3:List Str:=["_law_cell","_law_by","_law_many"]
abbrev z4:List Str:=["_law_script"]
abbrev z5:List Str:=["organ","name","number"]
abbrev z8:List Str:=["self","board","number"]
abbrev Ap:List Str:=["_law_source_here","_law_many"]
abbrev At:List Str:=["_law_player","_law_deed_here"]
abbrev Au:List Str:=["_law_sounds","_law_told_here"]
abbrev AI:List Str:=["self","rank","number"]
abbrev AK:List Str:=["self","knobs","whole"]
abbrev AV:List Str:=["organ","knobs","word","words"]
abbrev A0:List Str:=["organ","knobs"]
abbrev A3:List Str:=["self","piston"]
abbrev Bn:List Str:=["_law_cell","_law_number"]
abbrev BF:List Str:=["things"]
abbrev BN:List Str:=["organ","knob","keys","stop","numbers"]
abbrev BT:List Str:=["organ","line","numbers"]
abbrev Ch:List Str:=["rows","word"]
abbrev Ck:List Str:=["self","step"]
abbrev Cl:List Str:=["thing","bounds"]
abbrev CC:List Str:=["some","steps","count"]
abbrev CL:List Str:=["organ","knobs","word"]
abbrev C8:List Str:=["organ","board","keys"]
abbrev DC:List Str:=["organ","name","board"]
abbrev DD:List Str:=["rows","rank_numbers"]
abbrev EO:List Str:=["organ","knob","keys"]
abbrev EQ:List Str:=["thing","ahead"]
abbrev Fh:List Str:=["some","number"]
abbrev Fk:List Str:=["organ","knob","key"]
abbrev Fm:List Str:=["word","ahead"]
abbrev Fn:List Str:=["organ","held"]
theorem zC{k kj:Nat}{sp:Sp}{q:Str}{st:Stmt}{p:Pos}{t:TA}(F:An X.prog X.w X.K X.mg X.base Bb k f fd ps sp)(b:A_ kj X.A)(i:Gl X x)(h:Cd X.K x q st f fd∧Binds X.K fd ps []∧X.mg x=some (.ref f))(j:PA X (e::es) t)(c:k<=kj:=by decide)(g:(x == ("__debug__" : Str))=false:=by decide)(d:starEach (e::es) X.env=(false,eval e X.env)::starEach es X.env:=by rfl)(a:(backTo pos<|starEach es X.env).any (·.1)=false:=by rfl):PE X (.Call (.Name x p) (e::es) [] pos)<|di sp [] E0 t:=Ak F (b.mono c) i h.2.2 h.1.kp h.2.1 .nil Ao j g d a
def top(i:Nat):Stmt:=PySem.Challenge.pw_windchest_k46_whole_pipes_in_turn.main.body.getD i<|.Pass ⟨0,0,0,0⟩
abbrev zz:Stmt:=top 19
abbrev uG:Stmt:=top 20
abbrev yI:Stmt:=top 21
abbrev vJ:Stmt:=top 65
abbrev vH:Stmt:=top 66
abbrev sWi:Stmt:=top 67
abbrev uz:Stmt:=top 68
abbrev vU:Stmt:=top 69
abbrev zg:Stmt:=top 70
abbrev vB:Stmt:=top 71
abbrev sSb:Stmt:=top 72
abbrev uy:Stmt:=top 73
abbrev wz:Stmt:=top 74
abbrev zV:Stmt:=top 75
abbrev yt:Stmt:=top 76
abbrev zJ:Stmt:=top 77
abbrev wL:Stmt:=top 80
abbrev ug:Stmt:=top 81
abbrev vQ:Stmt:=top 82
abbrev z6:Stmt:=top 83
abbrev vX:Stmt:=top 84
abbrev yr:Stmt:=top 24
abbrev vD:Stmt:=top 25
abbrev xZ:Stmt:=top 26
abbrev vO:Stmt:=top 27
abbrev wQ:Stmt:=top 28
abbrev zc:Stmt:=top 29
abbrev yV:Stmt:=top 38
abbrev sX:Stmt:=top 39
abbrev sHk:Stmt:=top 40
abbrev sWa:Stmt:=top 41
abbrev sCq:Stmt:=top 42
abbrev vW:Stmt:=top 44
abbrev vN:Stmt:=top 45
abbrev zX:Stmt:=top 46
abbrev yS:Stmt:=top 47
abbrev xJ:Stmt:=top 48
abbrev u_:Stmt:=top 49
abbrev vV:Stmt:=top 50
abbrev vq:Stmt:=top 51
abbrev sKn:Stmt:=top 32
abbrev ul:Stmt:=top 34
abbrev xO:Stmt:=top 35
abbrev xM:Stmt:=top 33
abbrev yP:Stmt:=top 55
abbrev wG:Stmt:=top 56
abbrev z_:Stmt:=top 54
abbrev yG:Stmt:=top 87
abbrev wD:Stmt:=top 88
abbrev sLo:Stmt:=top 89
abbrev yo:Stmt:=top 90
abbrev ux:Stmt:=top 91
abbrev vm:Stmt:=top 92
abbrev vC:Stmt:=top 93
abbrev wU:Stmt:=top 94
abbrev zU:Stmt:=top 95
abbrev vz:Stmt:=top 96
abbrev vG:Stmt:=top 97
abbrev sLa:Stmt:=top 98
abbrev ZW:Stmt:=inClass (top 85) 0
abbrev zm:Stmt:=inClass (top 85) 2
abbrev xQ:Stmt:=inClass (top 85) 5
abbrev yp:Stmt:=inClass (top 85) 7
abbrev wF:Stmt:=inClass (top 85) 8
abbrev sBk:Stmt:=inClass (top 85) 13
abbrev xW:Stmt:=inClass (top 85) 15
abbrev xF:Stmt:=inClass (top 85) 3
abbrev ye:Stmt:=inClass (top 85) 6
abbrev vY:Stmt:=inClass (top 85) 9
abbrev wX:Stmt:=inClass (top 85) 14
abbrev xn:Stmt:=inClass (top 85) 16
abbrev yg:Stmt:=inClass (top 85) 11
abbrev xq:Stmt:=inClass (top 85) 12
abbrev zW:Stmt:=inClass (top 85) 17
abbrev vI:Stmt:=inClass (top 85) 4
abbrev xP:Stmt:=inClass (top 36) 0
abbrev wW:Stmt:=inClass (top 36) 1
abbrev sXp:Stmt:=inClass (top 36) 2
abbrev ym:Stmt:=inClass (top 36) 3
abbrev zT:Stmt:=inClass (top 36) 9
abbrev yE:Stmt:=inClass (top 36) 7
abbrev V_:Stmt:=inClass (top 36) 4
abbrev x_:Stmt:=inClass (top 36) 5
abbrev xK:Stmt:=inClass (top 36) 6
abbrev sPi:Stmt:=inClass (top 13) 0
abbrev sEp:Stmt:=inClass (top 14) 0
abbrev yw:Stmt:=inClass (top 15) 0
abbrev yF:Stmt:=inClass (top 15) 1
abbrev wH:Stmt:=inClass (top 57) 0
abbrev wI:Stmt:=inClass (top 57) 1
abbrev z7:Stmt:=inClass (top 57) 2
abbrev wO:Stmt:=inClass (top 57) 3
abbrev sQd:Stmt:=inClass (top 57) 4
abbrev vf:Stmt:=inClass (top 57) 5
abbrev vP:Stmt:=inClass (top 57) 6
abbrev sQk:Stmt:=inClass (top 57) 7
abbrev Kz:Stmt:=top 99
structure Txt(K:W.Frag)(P:Params)(mg:Str->Option Value)(C Cy Cp pB pE pA cK cP cB cS cO cH cY cD aQ aN aK aB aP aM:Addr):Prop where
 len:mg "len" = none
 isin:mg "isinstance" = none
 int:mg "int" = none
 bool:mg "bool" = none
 str:mg "str" = none
 list:mg "list" = none
 tuple:mg "tuple" = none
 all:mg "all" = none
 any:mg "any" = none
 sum:mg "sum" = none
 range:mg "range" = none
 zip:mg "zip" = none
 enumerate:mg "enumerate" = none
 max:mg "max" = none
 reversed:mg "reversed" = none
 set:mg "set" = none
 min:mg "min" = none
 sorted:mg "sorted" = none
 letters:∃t,mg "LETTERS" = some (.str letters t)
 mostL:∃t,mg "MOST_LETTERS" = some (.int 8 t)
 mostR:∃t,mg "MOST_ROWS" = some (.int 150 t)
 mostLn:∃t,mg "MOST_LINES" = some (.int 4 t)
 below:∃t,mg "MEMBERS_BELOW" = some (.int 1200 t)
 mN:mg "NAMED" = some (.ref aN)
 mK:mg "KNOBS" = some (.ref aK)
 mB:mg "BOUNDS" = some (.ref aB)
 mP:mg "PARTS" = some (.ref aP)
 mM:mg "MOST_OF" = some (.ref aM)
 tN:KTup K aN<|named.map V.str
 tK:KTup K aK [.str "stop",.str "coupler",.str "mute"]
 dB:KDict K P aB
 dP:KDict K P aP
 dM:KDict K P aM
 cl:Pj K C
 mC:mg "Organ" = some (.ref C)
 clR:Pj K Cy
 mCR:mg "Console" = some (.ref Cy)
 nr_organ:Cg K Cy "organ"
 nr_drawn_set:Cg K Cy "drawn_set"
 nr_shoe_step:Cg K Cy "shoe_step"
 nr_stored:Cg K Cy "stored"
 x4:Ex4 K mg cK cP cB cS cO
 pis:vg K mg pB pE pA
 clP:Pj K Cp
 mCP:mg "Player" = some (.ref Cp)
 np_organ:Cg K Cp "organ"
 np_console:Cg K Cp "console"
 np_hands:Cg K Cp "hands"
 xH:ExH K mg cH cO
 xY:ExY K mg cY cD cP
 mQ:mg "PART_COUNTS" = some (.ref aQ)
 dQ:KDict K P aQ
 pc:∀e∈yf,∃q,W.nsIn K aQ e.1=some (some<|.ref q)/\KTup K q e.2
 n_row_list:Cg K C "row_list"
 n_board_list:Cg K C "board_list"
 n_rank_list:Cg K C "rank_list"
 n_knob_rows:Cg K C "knob_rows"
 n_board_numbers:Cg K C "board_numbers"
 n_rank_numbers:Cg K C "rank_numbers"
 n_knob_numbers:Cg K C "knob_numbers"
 n_key_places:Cg K C "key_places"
 n_pipe_places:Cg K C "pipe_places"
 n_knob_lines:Cg K C "knob_lines"
 n_step_sets:Cg K C "step_sets"
set_option genInjectivity false in
set_option genSizeOf false in
set_option genSizeOfSpec false in
structure Ad where
 (fWh fMd fNm fRo fTo fWi fPa fHp fCl fIk fSb fIs fWm fHr fIr fCk fNu fCa fPl fLi fSs fMy fSt fHa fMe fSh fUn fLe fDc fHk fWa fCq fMu fUk fSk fNb fLl fBs fBa fSo fKn fKb fIp fBn fKy fDz fId fCe fMi fLo fDw fNa fLj fRw fDe fTd fGn fDn fLa fOi fOb fOc fOk fOo fBk fOp fOr fOq fOe fOs fOm fOu fOj fOy fOz fXi fXd fXp fXq fXk fXh fXt fXr fXc fPi fEp fAi fAp fQi fQh fQl fQa fQd fQs fQe fQk:Addr)
 (dWh dMd dNm dRo dTo dWi dPa dHp dCl dIk dSb dIs dWm dHr dIr dCk dNu dCa dPl dLi dSs dMy dSt dHa dMe dSh dUn dLe dDc dHk dWa dCq dMu dUk dSk dNb dLl dBs dBa dSo dKn dKb dIp dBn dKy dDz dId dCe dMi dLo dDw dNa dLj dRw dDe dTd dGn dDn dLa dOi dOb dOc dOk dOo dBk dOp dOr dOq dOe dOs dOm dOu dOj dOy dOz dXi dXd dXp dXq dXk dXh dXt dXr dXc dPi dEp dAi dAp dQi dQh dQl dQa dQd dQs dQe dQk:FuncData)
abbrev sF(K:PySem.W.Frag)(mg:Str->Option Value)(x q:Str)(st:Stmt)(f:Addr)(d:FuncData)(p:List Str):Prop:=Cd K x q st f d∧Binds K d p []∧mg x=some (.ref f)
abbrev sM(K:PySem.W.Frag)(C:Addr)(x q:Str)(st:Stmt)(f:Addr)(d:FuncData)(p:List Str):Prop:=Cd K x q st f d∧Binds K d p []∧Meth K C x f
structure wj(K:W.Frag)(mg:Str->Option Value)(C Cy Cp pB pE pA:Addr)(aD:Ad):Prop where
 FWh:sF K mg "is_whole" "is_whole" zz aD.fWh aD.dWh vE
 FMd:sF K mg "is_made_of" "is_made_of" uG aD.fMd aD.dMd xy
 FNm:sF K mg "is_name" "is_name" yI aD.fNm aD.dNm vE
 FRo:sF K mg "rows_of" "rows_of" vJ aD.fRo aD.dRo Ch
 FTo:sF K mg "is_told" "is_told" vH aD.fTo aD.dTo zi
 FWi:sF K mg "is_within" "is_within" sWi aD.fWi aD.dWi Cl
 FPa:sF K mg "is_part" "is_part" uz aD.fPa aD.dPa ze
 FHp:sF K mg "has_parts" "has_parts" vU aD.fHp aD.dHp xA
 FCl:sF K mg "count_of_last_lines" "count_of_last_lines" zg aD.fCl aD.dCl ["rows"]
 FIk:sF K mg "is_key_of" "is_key_of" vB aD.fIk aD.dIk xL
 FSb:sF K mg "stands_behind_stop" "stands_behind_stop" sSb aD.fSb aD.dSb ["line","ahead"]
 FIs:sF K mg "is_step" "is_step" uy aD.fIs aD.dIs xA
 FWm:sF K mg "is_well_made" "is_well_made" wz aD.fWm aD.dWm xA
 FHr:sF K mg "has_room" "has_room" zV aD.fHr aD.dHr Fm
 FIr:sF K mg "is_row" "is_row" yt aD.fIr aD.dIr EQ
 FCk:sF K mg "check_rows" "check_rows" zJ aD.fCk aD.dCk ["rows"]
 FNu:sF K mg "numbers_of" "numbers_of" wL aD.fNu aD.dNu ["names"]
 FCa:sF K mg "count_in_all" "count_in_all" ug aD.fCa aD.dCa BF
 FPl:sF K mg "places_of" "places_of" vQ aD.fPl aD.dPl BF
 FLi:sF K mg "lines_by_knob" "lines_by_knob" z6 aD.fLi aD.dLi DD
 FSs:sF K mg "set_of_step" "set_of_step" vX aD.fSs aD.dSs zI
 FMy:sF K mg "may_be_member" "may_be_member" yr aD.fMy aD.dMy vE
 FSt:sF K mg "set_of" "set_of" vD aD.fSt aD.dSt ["numbers"]
 FHa:sF K mg "has_member" "has_member" xZ aD.fHa aD.dHa Fh
 FMe:sF K mg "members_of" "members_of" vO aD.fMe aD.dMe ["some"]
 FSh:sF K mg "shifted" "shifted" wQ aD.fSh aD.dSh CC
 FUn:sF K mg "union_of" "union_of" zc aD.fUn aD.dUn ["sets"]
 FLe:sF K mg "led_to" "led_to" yV aD.fLe aD.dLe Fk
 FDc:sF K mg "drawn_of" "drawn_of" sX aD.fDc aD.dDc CL
 FHk:sF K mg "held_keys" "held_keys" sHk aD.fHk aD.dHk Fn
 FWa:sF K mg "coupled_ways" "coupled_ways" sWa aD.fWa aD.dWa tT
 FCq:sF K mg "coupled_keys" "coupled_keys" sCq aD.fCq aD.dCq tT
 FMu:sF K mg "muted_boards" "muted_boards" vW aD.fMu aD.dMu A0
 FUk:sF K mg "unmuted_keys" "unmuted_keys" vN aD.fUk aD.dUk vF
 FSk:sF K mg "speaking_keys" "speaking_keys" zX aD.fSk aD.dSk tT
 FNb:sF K mg "numbers_on_board" "numbers_on_board" yS aD.fNb aD.dNb C8
 FLl:sF K mg "led_by_line" "led_by_line" xJ aD.fLl aD.dLl BT
 FBs:sF K mg "brought_by_stop" "brought_by_stop" u_ aD.fBs aD.dBs EO
 FBa:sF K mg "brought_in_all" "brought_in_all" vV aD.fBa aD.dBa vF
 FSo:sF K mg "sounding_pipes" "sounding_pipes" vq aD.fSo aD.dSo tT
 FKn:sF K mg "knob_named" "knob_named" sKn aD.fKn aD.dKn vr
 FKb:sF K mg "knobs_of_board" "knobs_of_board" ul aD.fKb aD.dKb vr
 FIp:sF K mg "is_piston" "is_piston" xO aD.fIp aD.dIp vE
 FBn:sF K mg "board_named" "board_named" xM aD.fBn aD.dBn vr
 FKy:sF K mg "key_on_board" "key_on_board" yP aD.fKy aD.dKy z5
 FDz:sF K mg "do_at_console" "do_at_console" wG aD.fDz aD.dDz yy
 FId:sF K mg "is_deed" "is_deed" z_ aD.fId aD.dId vE
 FCe:sF K mg "_law_cell_at" "_law_cell_at" yG aD.fCe aD.dCe xi
 FMi:sF K mg "_law_mix" "_law_mix" wD aD.fMi aD.dMi z3
 FLo:sF K mg "_law_source" "_law_source" sLo aD.fLo aD.dLo xi
 FDw:sF K mg "_law_draw" "_law_draw" yo aD.fDw aD.dDw Ap
 FNa:sF K mg "_law_name" "_law_name" ux aD.fNa aD.dNa Bn
 FLj:sF K mg "_law_knob" "_law_knob" vm aD.fLj aD.dLj wf
 FRw:sF K mg "_law_rows" "_law_rows" vC aD.fRw aD.dRw z4
 FDe:sF K mg "_law_deed" "_law_deed" wU aD.fDe aD.dDe wp
 FTd:sF K mg "_law_told" "_law_told" zU aD.fTd aD.dTd At
 FGn:sF K mg "_law_goes_on" "_law_goes_on" vz aD.fGn aD.dGn Au
 FDn:sF K mg "_law_done" "_law_done" vG aD.fDn aD.dDn xb
 FLa:sF K mg "_law_last" "_law_last" sLa aD.fLa aD.dLa zd
 FOi:Cd K "__init__" "Organ.__init__" ZW aD.fOi aD.dOi∧Binds K aD.dOi xk []∧Mk K C aD.fOi
 FOb:sM K C "boards" "Organ.boards" zm aD.fOb aD.dOb sT
 FOc:sM K C "key_count" "Organ.key_count" xQ aD.fOc aD.dOc sT
 FOk:sM K C "key" "Organ.key" yp aD.fOk aD.dOk z8
 FOo:sM K C "board_of" "Organ.board_of" wF aD.fOo aD.dOo wh
 FBk:sM K C "board_of_knob" "Organ.board_of_knob" sBk aD.fBk aD.dBk vb
 FOp:sM K C "coupler" "Organ.coupler" xW aD.fOp aD.dOp vb
 FOr:sM K C "ranks" "Organ.ranks" xF aD.fOr aD.dOr sT
 FOq:sM K C "pipe_count" "Organ.pipe_count" ye aD.fOq aD.dOq sT
 FOe:sM K C "pipe" "Organ.pipe" vY aD.fOe aD.dOe AI
 FOs:sM K C "stop" "Organ.stop" wX aD.fOs aD.dOs vb
 FOm:sM K C "mute" "Organ.mute" xn aD.fOm aD.dOm vb
 FOu:sM K C "board_number" "Organ.board_number" yg aD.fOu aD.dOu uC
 FOj:sM K C "knob_number" "Organ.knob_number" xq aD.fOj aD.dOj uC
 FOy:sM K C "steps" "Organ.steps" zW aD.fOy aD.dOy sT
 FOz:sM K C "knobs" "Organ.knobs" vI aD.fOz aD.dOz sT
 FXi:Cd K "__init__" "Console.__init__" xP aD.fXi aD.dXi∧Binds K aD.dXi yB []∧Mk K Cy aD.fXi
 FXd:sM K Cy "draw" "Console.draw" wW aD.fXd aD.dXd zo
 FXp:sM K Cy "pull" "Console.pull" sXp aD.fXp aD.dXp uC
 FXq:sM K Cy "push" "Console.push" ym aD.fXq aD.dXq uC
 FXk:sM K Cy "knobs" "Console.knobs" zT aD.fXk aD.dXk sT
 FXh:sM K Cy "shoe" "Console.shoe" yE aD.fXh aD.dXh Ck
 FXt:Vx K "store" "Console.store" V_ aD.fXt aD.dXt∧Binds K aD.dXt wv []∧Meth K Cy "store" aD.fXt
 FXr:sM K Cy "press" "Console.press" x_ aD.fXr aD.dXr A3
 FXc:sM K Cy "cancel" "Console.cancel" xK aD.fXc aD.dXc sT
 FPi:Cd K "__init__" "Piston.__init__" sPi aD.fPi aD.dPi∧Binds K aD.dPi zo []∧Mk K pE aD.fPi
 FEp:sM K pE "put" "Every.put" sEp aD.fEp aD.dEp y7
 FAi:Cd K "__init__" "Part.__init__" yw aD.fAi aD.dAi∧Binds K aD.dAi AK []∧Mk K pA aD.fAi
 FAp:sM K pA "put" "Part.put" yF aD.fAp aD.dAp y7
 FQi:Cd K "__init__" "Player.__init__" wH aD.fQi aD.dQi∧Binds K aD.dQi yB []∧Mk K Cp aD.fQi
 FQh:sM K Cp "hold" "Player.hold" wI aD.fQh aD.dQh wh
 FQl:sM K Cp "leave" "Player.leave" z7 aD.fQl aD.dQl wh
 FQa:sM K Cp "act" "Player.act" wO aD.fQa aD.dQa xE
 FQd:sM K Cp "do" "Player.do" sQd aD.fQd aD.dQd xE
 FQs:sM K Cp "sound" "Player.sound" vf aD.fQs aD.dQs sT
 FQe:sM K Cp "held" "Player.held" vP aD.fQe aD.dQe sT
 FQk:sM K Cp "knobs" "Player.knobs" sQk aD.fQk aD.dQk sT
 bXt0:Binds K aD.dXt wv [.none]
 cPi:dw K pB "__init__" aD.fPi (.type "type")
section
variable{w:World}{K:W.Frag}{pB cO cD aQ aN aK:Addr}{aD:Ad}
variable(N:wj K mg C Cy Cp pB pE pA aD)(T:Txt K w.params mg C Cy Cp pB pE pA cK cP cB cS cO cH cY cD aQ aN aK aB aP aM)
inductive cT(vs:List V)(H:Hp)(Q:VK)(b9:XK):Prop
 | mk(i:Int):vs=[.int i]->Q (.bl true) H->cT vs H Q b9
theorem pW:Av vE vE<|Af zz:=Bg
include N T in
theorem dZ:An P w K mg base Bb 1 aD.fWh aD.dWh vE cT:=by
 refine N.FWh.1.Dg pW λH b Q E a h=>?_;obtain⟨i,rfl,q⟩:=h;refine⟨_,Ag<|Ax<|D_ (BK Cv U T.isin bt<|Aa (pv 0)<|Aa (Ea (v:=.ty "int") U T.int gd U) Ab)<|Ds<|RD<|BK Cv U T.isin bt<|Aa (pv 0)<|Aa (Ea (v:=.ty "bool") U T.bool PyProof.Rows.boot_bool U) Ab,?_⟩;refine⟨_,U,_,"int",_,_,U,.int i,ty_int,_,U,Dj ?_⟩;exact⟨_,U,_,"bool",_,_,U,.int i,dW,_,U,q⟩
inductive iI(vs:List V)(H:Hp)(Q:VK)(b9:XK):Prop
 | mk(z:Str):vs=[.str z,.str letters,.int 8]->isNm z->(∀H',Am H H'->Q (.bl true) H')->iI vs H Q b9
theorem oH:Av xy xy<|Af uG:=Bg
include N T in
theorem uI:An P w K mg base Bb 1 aD.fMd aD.dMd xy iI:=by
 refine N.FMd.1.Dg oH λH n Q E l h=>?_;obtain⟨z,rfl,d,q⟩:=h;refine⟨_,Ag<|Ax<|D_ (Gy FT FT Ac (BK Js U T.len bo<|Aa (pv 0) Ab)<|pv 2)<|Ds<|BK (IW U) U T.all gL<|Aa (Br U (Bf (osc:=Af uG) (N:=xy) U U<|by decide) (ZK<|pv 0) (λ_ _ _ _=>Ci)<|λ_ _ _ _=>(Dd Nz (pv 0) (pv 2) U)) Ab,?_⟩;have b:z.length<sizeLine:=BJ (by have:=d.2.1;omega);refine⟨_,U,z,U,fT b,_,_,U,U,_,U,?_⟩;refine Cw (λi=>?_)<|λi=>absurd (decide_eq_true (by have:=d.1;omega)) i
 refine⟨_,U,_,_,U,U,_,U,?_⟩;refine Cw (λj=>?_)<|λj=>absurd (decide_eq_true (by have:=d.2.1;omega)) j
 refine⟨_,U,z,U,Qt (λ_=>true) (λc=>.bl<|bF letters c) b (λc f a g R k=>k a<|Am.refl a) (λc f _ a g R k=>⟨_,U,_,U,_,_,U,U,k a<|Am.refl a⟩)<|λD a m g hl=>?_⟩;refine⟨D,z.cps.toList.map<|bF letters,U,.inl<|.inl ?_,?_⟩
 ·rw[hl,bq.mpr<|λ_ _=>rfl,ay];rfl
 ·have e:(z.cps.toList.map<|bF letters).all id=true:=by
   rw[List.all_map,fb];intro c f;have:=d.2.2 c f;show bF letters c=true;rw[OJ c (by omega)];exact decide_eq_true this
  rw[e];exact q a g
inductive bI(vs:List V)(H:Hp)(Q:VK)(b9:XK):Prop
 | mk(z:Str):vs=[.str z]->isNm z->(∀H',Am H H'->Q (.bl true) H')->bI vs H Q b9
theorem q_:Av vE vE<|Af yI:=Bg
include N T in
theorem fP:An P w K mg base Bb 2 aD.fNm aD.dNm vE bI:=by
 refine N.FNm.1.Dg q_ λH g Q E a h=>?_;obtain⟨z,rfl,c,q⟩:=h;obtain⟨d,e⟩:=T.letters;obtain⟨b,f⟩:=T.mostL;refine⟨_,Ag<|Ax<|D_ (BK Cv U T.isin bt<|Aa (pv 0)<|Aa (Ea (v:=.ty "str") U T.str iE U) Ab)<|Ds<|zC (uI N T) a U N.FMd<|Aa (pv 0)<|Aa (Cu (v:=.str letters) U e ⟨d,U⟩)<|Aa (Cu (v:=.int 8) U f ⟨b,U⟩) Ab,?_⟩;refine⟨_,U,_,"str",_,_,U,.str z,Hh,_,U,Dj ?_⟩;exact⟨_,U,z,U,c,q⟩
inductive Rb(vs:List V)(H:Hp)(Q:VK)(b9:XK):Prop
 | mk(p:Addr)(us:List V)(w:Str)(ρ:V->R):vs=[.ref p,.str w]->H p=some (.lst us)->Rows H ρ us->us.length<=500->(∀D H',H D=none->Am H H'->H' D=some (.lst (us.filter (pw ρ w)))->Q (.ref D) H')->Rb vs H Q b9
theorem yR:Av Ch Ch<|Af vJ:=Bg
include N T in
theorem Qc:An P w K mg base Bb 1 aD.fRo aD.dRo Ch Rb:=by
 refine N.FRo.1.Dg yR λH r Q E o h=>?_;obtain⟨p,e,w,ρ,rfl,l,n,hl,q⟩:=h;refine⟨_,Ag<|Ax<|Br U (Bf (osc:=Af vJ) (N:=Ch) U U<|by decide) (Bl<|pv 0) (λ_ _ _ _=>(G9<|BR CP (Az (Ar (K:=K) U) (pv 0) Ac<|λ_ _=>rfl) (pv 2)<|BX _))<|λ_ _ _ _=>(pv 0),?_⟩;have f:De K H p e:=.inl<|.inl l
 refine⟨_,U,p,U,⟨_,f⟩,DW (K:=K) (xs:=e) (pw ρ w) id f (BJ<|by omega) (λx c a b R k=>?_) (λx c _ a b R k=>⟨_,U,k a<|Am.refl a⟩)<|λD a g b d=>?_⟩
 ·obtain⟨i,rfl,m⟩:=(n x c).mono b;exact⟨_,U,i,_,_,_,U,U,ma m,Ah (j:=0) U,_,U,U,_,U,k a<|Am.refl a⟩
 ·rw[ki] at d;exact q D a g b d
inductive bC(vs:List V)(H:Hp)(Q:VK)(b9:XK):Prop
 | mk(p:Addr)(us:List V)(w t:Str)(ρ:V->R):vs=[.ref p,.str w,.str t]->H p=some (.lst us)->Rows H ρ us->us.length<=500->isNm t->(∀H',Am H H'->Q (.bl (ZX ρ us w t)) H')->bC vs H Q b9
theorem yZ:Av zi zi<|Af vH:=Bg
include N T in
theorem fK:An P w K mg base Bb 3 aD.fTo aD.dTo zi bC:=by
 refine N.FTo.1.Dg yZ λH I Q E d h=>?_;obtain⟨p,a,w,t,ρ,rfl,C,g,hl,s,q⟩:=h;refine⟨_,Ag<|Ax<|D_ (zC (fP N T) d U N.FNm<|Aa (pv 2) Ab)<|Ds<|BK (Lj U) U T.any kx<|Aa (Br U (Bf (osc:=Af vH) (N:=zi) U U<|by decide) (Bl<|zC (Qc N T) d U N.FRo<|Aa (pv 0)<|Aa (pv 1) Ab) (λ_ _ _ _=>Ci)<|λ_ _ _ _=>(Dd CP (Az (Ar (K:=K) U) (pv 0) Ac<|λ_ _=>rfl) (pv 3)<|BX _)) Ab,?_⟩;refine⟨_,U,t,U,s,λG c=>⟨_,U,Dj ?_⟩⟩;refine⟨_,U,_,U,p,a,w,ρ,U,c _ _ C,g.mono c,hl,λD y F l B=>?_⟩;have m:De K y D<|a.filter<|pw ρ w:=.inl<|.inl B
 refine⟨D,U,⟨_,m⟩,DW (K:=K) (xs:=a.filter<|pw ρ w) (λ_=>true) (λv=>.bl<|pn ρ t v) m (BJ (by have:=JF (pw ρ w) a;omega)) (λx f b i R k=>k b<|Am.refl b) (λx f _ b i R k=>?_)<|λr n J u o=>?_⟩
 ·obtain⟨A,rfl,z⟩:=(((g.mono c).mono l).mono i) x (bb.mp f).1;exact⟨_,U,A,_,_,_,U,U,ma z,Ah (j:=1) U,_,U,U,k b<|Am.refl b⟩
 ·refine⟨r,(a.filter<|pw ρ w).map<|pn ρ t,U,.inl<|.inl ?_,?_⟩
  ·rw[o,bq.mpr<|λ_ _=>rfl,ay];rfl
  ·have e:((a.filter<|pw ρ w).map<|pn ρ t).any id=ZX ρ a w t:=by
    rw[lP];rfl
   rw[e];exact q n<|(c.trans l).trans u
inductive jO(K:W.Frag)(vs:List V)(H:Hp)(Q:VK)(b9:XK):Prop
 | mk(i lo hi:Int)(b:Addr):vs=[.int i,.ref b]->KTup K b [.int lo,.int hi]->lo<=i->i<=hi->Q (.bl true) H->jO K vs H Q b9
theorem scWi:Av Cl Cl<|Af sWi:=Bg
include N T in
theorem m9:An P w K mg base Bb 2 aD.fWi aD.dWi Cl<|jO K:=by
 refine N.FWi.1.Dg scWi λH g Q E c h=>?_;obtain⟨i,lo,e,b,rfl,a,d,f,q⟩:=h;refine⟨_,Ag<|Ax<|D_ (zC (dZ N T) c U N.FWh<|Aa (pv 0) Ab)<|Ds<|Gy FT FT (Az (Ar (K:=K) U) (pv 1) Ac<|λ_ _=>rfl) (pv 0)<|Az (Ar (K:=K) U) (pv 1) Ac<|λ_ _=>rfl,?_⟩;refine⟨_,U,i,U,_,U,Dj ?_⟩;refine⟨_,U,b,_,_,_,U,U,a.sq _,Ah (j:=0) U,_,U,_,_,U,U,_,U,?_⟩;refine Cw (λ_=>?_)<|λz=>absurd (decide_eq_true d) z
 refine⟨_,U,b,_,_,_,U,U,a.sq _,Ah (j:=1) U,_,_,U,U,?_⟩;show Q (.bl (decide (i<=e))) H;rw[decide_eq_true f];exact q
inductive lL(K:W.Frag)(aB:Addr)(vs:List V)(H:Hp)(Q:VK)(b9:XK):Prop
 | mk(x:V)(part:Str)(p:Addr)(us:List V)(ρ:V->R):vs=[x,.str part,.ref p]->H p=some (.lst us)->Rows H ρ us->us.length<=500->JK K aB ρ us x part->(∀H',Am H H'->Q (.bl true) H')->lL K aB vs H Q b9
theorem scPa:Av ze ze<|Af uz:=Bg
include N T in
theorem oZ:An P w K mg base Bb 4 aD.fPa aD.dPa ze<|lL K aB:=by
 refine N.FPa.1.Dg scPa λH vs Q E e h=>?_;obtain⟨x,part,p,F,ρ,rfl,C,B,hl,o,q⟩:=h;refine⟨_,(Ae (Bh (R_<|Xf (pv 1)<|Cu (v:=.ref aB) U T.mB U) (Ag<|Ax<|zC (m9 N T) e U N.FWi<|Aa (pv 0)<|Aa (PB (Cu (v:=.ref aB) U T.mB U) (pv 1)<|λ_ _=>rfl) Ab) Ba)
  (Ae (Bh (BR CP (pv 1) BP<|BX _) (Ag<|Ax<|D_ (zC (fP N T) e U N.FNm<|Aa (pv 0) Ab)<|Ds<|RD<|BK (Lj U) U T.any kx<|Aa (Br U (Bf (osc:=Af uz) (N:=ze) U U<|by decide) (RX<|Cu (v:=.ref aN) U T.mN U) (λ_ _ _ _=>Ci)<|λ_ _ _ _=>(zC (fK N T) e U N.FTo<|Aa (pv 3)<|Aa (pv 0)<|Aa (pv 1) Ab)) Ab) Ba)
  (Ag<|Ax<|zC (fK N T) e U N.FTo<|Aa (pv 2)<|Aa (pv 1)<|Aa (pv 0) Ab))),?_⟩
 rcases o with⟨i,lo,J,b,rfl,c,M,L,X⟩ | ⟨c,rfl,t,rfl,g,n⟩ | ⟨c,r,t,rfl,g,I⟩
 ·refine⟨_,U,aB,part,_,U,U,T.dB,c,_,U,Dj ?_⟩;exact⟨_,U,_,U,aB,part,.ref b,_,U,U,T.dB,c,U,i,lo,J,b,U,M,L,X,q H<|Am.refl H⟩
 ·refine⟨_,U,aB,_,_,U,U,T.dB,c,_,U,Bj ?_⟩;refine⟨_,U,U,_,U,Dj ?_⟩;refine⟨_,U,t,U,g,λG s=>⟨_,U,Dj ?_⟩⟩;have l:Gr K G aN<|named.map V.str:=T.tN.sq _
  refine⟨aN,U,⟨_,l⟩,Hz (xs:=named.map V.str) (λ_=>true) (λ_=>.bl false) (by show 5<sizeLine;decide) (λi j x a f=>⟨_,x,a.tup l,f⟩) (λi j y H3 a _ u=>⟨u.1,u.2 _<|a.tup l⟩) (λj a=>⟨_,a.tup l,Nat.le_refl _⟩)
   (λx f d a R k=>k d<|Am.refl d) (λx f _ d a R k=>?_) (λD j Z O W=>?_)⟩
  ·obtain⟨A,m,rfl⟩:=ar.mp f;refine⟨_,U,_,U,_,U,p,F,A,t,ρ,U,a _ _<|s _ _ C,(B.mono s).mono a,hl,g,λY S=>?_⟩;rw[n A m];exact k Y S
  ·refine⟨D,[false,false,false,false,false],U,ma W,_,U,?_⟩;exact q j<|s.trans O
 ·refine⟨_,U,aB,_,_,U,U,T.dB,c,_,U,Bj ?_⟩;refine⟨_,U,U,_,U,?_⟩;refine Cw (λz=>absurd (V.str.inj<|of_decide_eq_true z) r)<|λ_=>?_
  refine⟨_,U,_,U,_,U,p,F,part,t,ρ,U,C,B,hl,g,λd a=>?_⟩;rw[I];exact q d a
inductive kW(K:W.Frag)(aB aP:Addr)(vs:List V)(H:Hp)(Q:VK)(b9:XK):Prop
 | mk(r p:Addr)(w:Str)(xs:List V)(us:List V)(ρ:V->R)(ap:Addr)(ps:List Str):vs=[.ref r,.ref p]->H r=some (.tup (.str w::xs))->H p=some (.lst us)->Rows H ρ us->us.length<=500->W.nsIn K aP w=some (some (.ref ap))->KTup K ap (ps.map V.str)->xs.length=ps.length->ps.length<=10->(∀(i:Nat) x y,xs[i]? = some x->ps[i]? = some y->JK K aB ρ us x y)->(∀H',Am H H'->Q (.bl true) H')->kW K aB aP vs H Q b9
theorem su:Av ["row","ahead","parts"] xA (Af vU):=Bg
include N T in
theorem pD:An P w K mg base Bb 5 aD.fHp aD.dHp xA<|kW K aB aP:=by
 refine N.FHp.1.Dg su λH vs Q E J h=>?_;obtain⟨r,p,w,xs,us,ρ,n,d,rfl,s,Z,S,hl,hn,g,a,F6,m,q⟩:=h;refine⟨_,(Ae (Be (i:=2) su.nd U (Or.inl U)<|PB (Cu (v:=.ref aP) U T.mP U) (Az (Ar (K:=K) U) (pv 0) Ac<|λ_ _=>rfl)<|λ_ _=>rfl)
  (Ae (Bh (BR Jv (BK BW U T.len bo<|Aa (pv 0) Ab) (BZ CQ Ac<|BK BW U T.len bo<|Aa (pv 2) Ab)<|BX _) (Ag<|Ax FN) Ba)
  (Ag<|Ax<|BK (IW U) U T.all gL<|Aa (OD U (HJ (osc:=Af vU) (N:=["row","ahead","parts"]) U U<|by decide) (cL U T.zip<|Aa (Ep PJ (pv 0) (Ex Ac) Ge)<|Aa (pv 2) Ab) (λ_ _ _ _=>Ci)<|λ_ _ _ _=>(zC (oZ N T) J U N.FPa<|Aa (pv 0)<|Aa (pv 1)<|Aa (pv 3) Ab)) Ab))),?_⟩
 refine⟨_,U,r,_,_,_,U,U,ma s,Ah (j:=0) U,aP,w,.ref n,_,U,U,T.dP,hn,U,?_⟩;refine⟨_,U,r,_,U,.inr<|.inl<|.inl s,_,U,n,_,U,.inr<|g.sq _,_,_,U,U,U,_,U,?_⟩;refine Cw (λz=>?_)<|λ_=>?_
 ·exfalso;have e:(((V.str w::xs).length:Nat):Int)=1+(((d.map V.str).length:Nat):Int):=by
   rw[bp,af,a];omega
  rw[e] at z;simp at z
 ·have b:Er (V.str w::xs) (some 1) none=xs:=by
   unfold Er;have f:HT.Ec (V.str w::xs).length 0 (some ((1:Nat):Int))=1:=by rw[HT.GX,bp];omega
   have u:HT.Ec (V.str w::xs).length 0 (some (1:Int))=1:=f;rw[u,HT.Mg,List.drop_succ_cons,List.drop_zero];exact gp<|by rw[bp];omega
  refine⟨_,U,_,U,r,_,U,ma s,λz=>?_,λI sK=>?_⟩
  ·have f:HT.Ec (V.str w::xs).length 0 (some ((1:Nat):Int))=1:=by rw[HT.GX,bp];omega
   have:=z.1.symm.trans f
   cases this
  rw[b];obtain⟨O,i5,t,M⟩:=Du (o:=HO.tup xs) sK;rw[i5];have G:Gr K O I xs:=.inl<|.inl M
  refine⟨_,U,I,n,U,⟨_,G⟩,⟨_,g.sq _⟩,Yz (K:=K) (xs:=xs) (ys:=d.map V.str) (λ_ _=>.bl true) G (g.sq _) (by rw[af];exact a) (BJ<|by omega) (λi x y L C A c R k=>?_)<|λD A hD c B=>?_⟩
  ·rw[am] at C;obtain⟨part,KG,rfl⟩:=av.mp C;exact⟨_,U,_,U,_,U,x,part,p,us,ρ,U,c _ _<|t _ _ Z,(S.mono t).mono c,hl,m i x part L KG,λX Y=>k X Y⟩
  ·have e:List.zipWith (λ_ _=>V.bl true) xs (d.map V.str)=(List.replicate xs.length true).map V.bl:=by
    rw[List.map_replicate];refine fI λi=>?_;rw[gE];by_cases F:i<xs.length
    ·rw[ae F,ae<|by rw[af];omega,ae<|by rw[gz];exact F];simp
    ·rw[eI (by omega),eI (l:=List.replicate _ _)<|by rw[gz];omega]
   rw[e] at B;refine⟨D,List.replicate xs.length true,U,ma B,?_⟩;have W:(List.replicate xs.length true).all id=true:=by simp
   rw[W];exact q A<|t.trans c
inductive gn(vs:List V)(H:Hp)(Q:VK)(b9:XK):Prop
 | mk(p:Addr)(us:List V)(ρ:V->R)(c:Nat):vs=[.ref p]->H p=some (.lst us)->Rows H ρ us->us.length<=500->dR ρ us c->Q (.int (c:Nat)) H->gn vs H Q b9
theorem Zf:Av ["rows","count","row"] ["rows"] (Af zg):=Bg
include N T in
theorem tL:An P w K mg base Bb 1 aD.fCl aD.dCl ["rows"] gn:=by
 refine N.FCl.1.Dg Zf λH D Q E C h=>?_;obtain⟨p,n,ρ,c,rfl,y,B,hl,m,q⟩:=h;refine⟨_,(Ae (Be (i:=1) Zf.nd U (Or.inl U) Ac)
  (Ae (Dk PassesOwn.never U (gF U T.reversed<|Aa (pv 0) Ab) (Bt (i:=2) Zf.nd U<|Or.inl U) (Ae (Bh (BR Jv (Az (Ar (K:=K) U) (pv 2) Ac<|λ_ _=>rfl) BP<|BX _) (Ag ZQ) Ba)
  (Ag<|Be (i:=1) Zf.nd U (Or.inl U)<|BZ CQ (pv 1) Ac)))
  (Ag<|Ax<|pv 1))),?_⟩
 have o:De K H p n:=.inl<|.inl y
 refine⟨_,U,p,n,U,o,cX (K:=K) (a:=p) (xs:=n) (λi σ d=>d=H/\i<=c/\∃l,σ=[some (.ref p),some<|.int (i:Nat),l]) ⟨U,eJ _,_,U⟩ (λi σ d _ h=>by rw[h.1];exact o) ?_ ?_⟩
 ·rintro i x σ d F f ⟨rfl,g,l,rfl⟩;obtain⟨r,rfl,A⟩:=B x<|ah f;refine⟨_,U,r,_,_,_,U,U,ma A,Ah (j:=0) U,U,_,U,?_⟩;by_cases e:(ρ<|.ref r).w = "line"
  ·have s:i≠c:=λz=>by
    obtain⟨v,b,k⟩:=m.no;rw[<-z,f] at b
    cases b;exact k e
   refine YG (congrArg V.str e) ?_;exact⟨_,U,_,_,U,U,U,by omega,_,U⟩
  ·have t:i=c:=by
    refine Classical.byContradiction λz=>?_;obtain⟨v,b,u⟩:=m.all i<|by omega
    rw[f] at b
    cases b;exact e u
   subst t;rw[decide_eq_false λz=>e<|V.str.inj z];refine Dj ?_;exact⟨_,U,q⟩
 ·rintro σ d ⟨rfl,g,l,rfl⟩;have:=m.lt;omega
inductive iY(vs:List V)(H:Hp)(Q:VK)(b9:XK):Prop
 | mk(n:Int)(bd:Str)(p:Addr)(us:List V)(ρ:V->R):vs=[.int n,.str bd,.ref p]->H p=some (.lst us)->Rows H ρ us->us.length<=500->F_ ρ us->(∀H',Am H H'->Q (.bl (keyOf ρ us bd n)) H')->iY vs H Q b9
theorem xm:Av xL xL<|Af vB:=Bg
include N T in
theorem qC:An P w K mg base Bb 2 aD.fIk aD.dIk xL iY:=by
 refine N.FIk.1.Dg xm λH W Q E A h=>?_;obtain⟨n,l,p,f,ρ,rfl,O,s,hl,C,q⟩:=h;refine⟨_,Ag<|Ax<|BK (Lj U) U T.any kx<|Aa (Br U (Bf (osc:=Af vB) (N:=xL) U U<|by decide) (Bl<|zC (Qc N T) A U N.FRo<|Aa (pv 2)<|Aa BP Ab) (λ_ _ _ _=>Ci)<|λ_ _ _ _=>(D_ (Dd CP (Az (Ar (K:=K) U) (pv 0) Ac<|λ_ _=>rfl) (pv 2)<|BX _)<|Ds<|Dd HY (pv 1) (Az (Ar (K:=K) U) (pv 0) Ac<|λ_ _=>rfl)<|BX _)) Ab,?_⟩;refine⟨_,U,p,f,"board",ρ,U,O,s,hl,λD J S y M=>?_⟩;have z:De K J D<|f.filter<|pw ρ "board":=.inl<|.inl M
 refine⟨D,U,⟨_,z⟩,DW (K:=K) (xs:=f.filter<|pw ρ "board") (λ_=>true) (λv=>.bl (pn ρ l v && decide (n<lG (ρ v)))) z (BJ (by have:=JF (pw ρ "board") f;omega)) (λx r i t R k=>k i<|Am.refl i) (λx r _ i t R k=>?_)<|λG B X I F=>?_⟩
 ·have c:=bb.mp r;obtain⟨m,u⟩:=C x c.1<|V.str.inj<|of_decide_eq_true c.2;have L:lG (ρ x)=m:=by unfold lG;rw[u]
  have o:=((s.mono y).mono t) x c.1;have a:=k i<|Am.refl i
  rw[L] at a;obtain⟨d,rfl,o⟩:=o;have a:R (.bl (decide (V.str (ρ<|.ref d).nm=V.str l) && decide (n<m))) i:=a;have b:i d=some (.tup<|.str (ρ<|.ref d).w :: .str (ρ<|.ref d).nm::(ρ<|.ref d).rest):=o;rw[u] at b;refine⟨_,U,d,_,_,_,U,U,ma b,Ah (j:=1) U,_,U,U,_,U,?_⟩;refine Cw (λg=>?_)<|λg=>?_
  ·rw[g,ic] at a;exact⟨_,U,_,U,d,_,_,_,U,U,ma b,Ah (j:=2) U,_,_,U,U,a⟩
  ·rw[(fo _).mp g,io] at a;exact a
 ·refine⟨G,(f.filter<|pw ρ "board").map (λv=>pn ρ l v && decide (n<lG (ρ v))),U,.inl<|.inl ?_,?_⟩
  ·rw[F,bq.mpr<|λ_ _=>rfl,ay];rfl
  ·have e:((f.filter<|pw ρ "board").map (λv=>pn ρ l v && decide (n<lG (ρ v)))).any id=keyOf ρ f l n:=by
    rw[lP];rfl
   rw[e];exact q B<|y.trans I
inductive iZ(vs:List V)(H:Hp)(Q:VK)(b9:XK):Prop
 | mk(r p:Addr)(ro:R)(us:List V)(ρ:V->R):vs=[.ref r,.ref p]->H r=some (.tup ro.v)->H p=some (.lst us)->Rows H ρ us->us.length<=500->Ro ρ us ro->F_ ρ us->(∀H',Am H H'->Q (.bl true) H')->iZ vs H Q b9
theorem iM:Av ["line","ahead","count","row"] ["line","ahead"] (Af sSb):=Bg
include N T in
theorem rF:An P w K mg base Bb 3 aD.fSb aD.dSb ["line","ahead"] iZ:=by
 refine N.FSb.1.Dg iM λH W Q E k h=>?_;obtain⟨r,p,s,c,ρ,rfl,B,g,e,hl,y,u,q⟩:=h;obtain⟨L,R⟩:=T.mostLn;refine⟨_,(Ae (Be (i:=2) iM.nd U (Or.inl U)<|zC (tL N T) k U N.FCl<|Aa (pv 1) Ab)
  (Ae (Be (i:=3) iM.nd U (Or.inl U)<|Az Ei (pv 1) (BZ GF (BZ GF (BK BW U T.len bo<|Aa (pv 1) Ab) Ac)<|pv 2)<|λ_ _=>rfl)
  (Ae (Bh (PW.pt<|El (BR Jv (Az (Ar (K:=K) U) (pv 3) Ac<|λ_ _=>rfl) BP<|BX _)<|EY<|BR dG (pv 2) (Cu (v:=.int 4) U R ⟨L,U⟩)<|BX _) (Ag<|Ax FN) Ba)
  (Ag<|Ax<|D_ (Dd FT (Az (Ar (K:=K) U) (pv 0) Ac<|λ_ _=>rfl) (Az (Ar (K:=K) U) (pv 0) Ac<|λ_ _=>rfl)<|BX _)<|Ds<|zC (qC N T) k U N.FIk<|Aa (Az (Ar (K:=K) U) (pv 0) Ac<|λ_ _=>rfl)<|Aa (Az (Ar (K:=K) U) (pv 3) Ac<|λ_ _=>rfl)<|Aa (pv 1) Ab)))),?_⟩
 obtain⟨cnt,v,F,lo,l,o,C,J,m,X,n,x,M,f,O⟩:=y.ex;have b:H r=some (.tup [.str s.w,.str s.nm,.int F,.int lo,.int l]):=by rw[B,<-J]
 obtain⟨d,rfl,D⟩:=e v<|ah n;have a:H d=some (.tup<|.str (ρ<|.ref d).w :: .str (ρ<|.ref d).nm :: .str o::C):=by rw[D,<-M]
 have I:=m.lt;have A:((c.length:Nat):Int) - 1 - ((cnt:Nat):Int)=((c.length - 1 - cnt:Nat):Int):=by omega
 have t:De K H p c:=.inl<|.inl g
 refine⟨_,U,p,c,ρ,cnt,U,g,e,hl,m,?_⟩;refine⟨_,U,_,U,p,c,U,.inl t,_,_,U,U,_,U,_,_,U,U,p,c,_,_,U,U,t,by rw[A];exact Ah n,?_⟩;refine⟨_,U,d,_,_,_,U,U,ma a,Ah (j:=0) U,U,_,U,YG (congrArg V.str x) ?_⟩;refine⟨_,U,_,_,U,U,_,U,?_⟩;refine Cw (λz=>?_)<|λ_=>?_
 ·have:=of_decide_eq_true z;omega
 refine⟨_,U,r,_,_,_,U,U,ma b,Ah (j:=3) U,_,U,r,_,_,_,U,U,ma b,Ah (j:=4) U,_,_,U,U,_,U,?_⟩;refine Cw (λ_=>?_)<|λz=>absurd (decide_eq_true f) z
 refine⟨_,U,r,_,_,_,U,U,ma b,Ah (j:=4) U,_,U,d,_,_,_,U,U,ma a,Ah (j:=2) U,_,U,l,o,p,c,ρ,U,g,e,hl,u,λS G=>?_⟩;rw[O];exact q S G
inductive lJ(vs:List V)(H:Hp)(Q:VK)(b9:XK):Prop
 | mk(r p:Addr)(ro:R)(us:List V)(ρ:V->R)(ts:List Str):vs=[.ref r,.ref p]->H r=some (.tup ro.v)->H p=some (.lst us)->Rows H ρ us->us.length<=500->V.str ro.nm::ro.rest=ts.map V.str->ts.Nodup->ts.length<=24->(∀t∈ts,isNm t/\ZX ρ us "stop" t=true)->(∀H',Am H H'->Q (.bl true) H')->lJ vs H Q b9
theorem uX:Av ["row","ahead","names"] xA (Af uy):=Bg
include N T in
theorem tG:An P w K mg base Bb 5 aD.fIs aD.dIs xA lJ:=by
 refine N.FIs.1.Dg uX λH vs Q E J h=>?_;obtain⟨r,p,d,us,ρ,c,rfl,F,hp,X,hl,G,nd,EW,v,q⟩:=h;refine⟨_,(Ae (Be (i:=2) uX.nd U (Or.inl U)<|Ep PJ (pv 0) (Ex Ac) Ge)
  (Ae (Bh (PW.pt<|El (BR CP (BK BW U T.len bo<|Aa (pv 2) Ab) Ac<|BX _)<|EY<|Ce<|Cq<|BK (IW U) U T.all gL<|Aa (Br U (Bf (osc:=Af uy) (N:=["row","ahead","names"]) U U<|by decide) (RX<|pv 2) (λ_ _ _ _=>Ci)<|λ_ _ _ _=>(zC (fK N T) J U N.FTo<|Aa (pv 2)<|Aa BP<|Aa (pv 0) Ab)) Ab) (Ag<|Ax FN) Ba)
  (Ag<|Ax<|Dd CP (BK M6 U T.len bo<|Aa (Cr (V1 U) U T.set PyProof.Rows.boot_set<|Aa (pv 2) Ab) Ab) (BK BW U T.len bo<|Aa (pv 2) Ab)<|BX _))),?_⟩
 have Z:d.v=V.str d.w::c.map V.str:=by
  show V.str d.w::(V.str d.nm::d.rest)=_;rw[G]
 rw[Z] at F;have W:1<=c.length:=by
  cases c with
  |nil=>cases G
  |cons a b=>exact eD<|eJ _
 have f:Er (V.str d.w::c.map V.str) (some 1) none=c.map V.str:=by
  unfold Er;have l:HT.Ec (V.str d.w::c.map V.str).length 0 (some 1)=1:=by
   rw[show (some (1:Int))=some ((1:Nat):Int) from rfl,HT.GX];simp
  rw[l,HT.Mg];simp;exact gp<|by rw[af];exact al _
 refine⟨_,U,_,U,r,_,U,ma F,?_,λg O=>?_⟩
 ·rintro⟨z,_⟩;have l:HT.Ec (V.str d.w::c.map V.str).length 0 (some 1)=1:=by
   rw[show (some (1:Int))=some ((1:Nat):Int) from rfl,HT.GX];simp
  rw[l] at z
  cases z
 rw[f];obtain⟨L,i5,u,C⟩:=Du (o:=HO.tup<|c.map V.str) O;rw[i5];have n:Gr K L g<|c.map V.str:=.inl<|.inl C
 have m:(c.map V.str).length=c.length:=af ..;refine⟨_,U,g,_,U,.inr n,U,_,U,Cw (λz=>?_)<|λ_=>?_⟩
 ·exfalso;have:=V.int.inj<|of_decide_eq_true z
  omega
 refine⟨_,U,g,U,⟨_,n⟩,Qm (K:=K) (xs:=c.map V.str) (λ_=>true) (λ_=>.bl true) n (BJ<|by omega) (λx A y t R k=>k y<|Am.refl y) (λx A _ y t R k=>?_)<|λD H2 hD I mi=>?_⟩
 ·obtain⟨z,hz,rfl⟩:=ar.mp A;obtain⟨z1,z2⟩:=v z hz;refine⟨_,U,_,U,p,us,"stop",z,ρ,U,t _ _<|u _ _ hp,(X.mono u).mono t,hl,z1,λM j=>?_⟩;rw[z2];exact k M j
 ·refine⟨D,List.replicate c.length true,U,.inl<|.inl ?_,_,U,?_⟩
  ·rw[mi,bq.mpr<|λ_ _=>rfl,ay];congr 2;refine fI λi=>?_;rw[am,am,List.getElem?_replicate];by_cases s:i<c.length
   ·rw[ae s,if_pos s];rfl
   ·rw[eI (by omega),if_neg s];rfl
  have ea:(List.replicate c.length true).all id=true:=by simp
  rw[ea];refine Bj ?_;have B:=I _ _ C;refine⟨_,U,g,c,U,ma B,by omega,λS hS=>?_⟩;have j:=BL (o:=Q4 P w S<|c.foldl Ws.Gh []) hS;refine⟨S,_,U,Aj,_,U,g,_,U,.inr<|.inl<|.inl<|j _ _ B,U,?_⟩;have e:c.foldl Ws.Gh []=c:=(Np c [] (by rw[List.nil_append];exact nd)).trans<|List.nil_append _
  have Y:decide (V.int (((c.foldl Ws.Gh []).length:Nat):Int)=V.int (((c.map V.str).length:Nat):Int))=true:=decide_eq_true<|by rw[e,m]
  rw[Y];exact q _<|u.trans<|I.trans j
inductive bj(K:W.Frag)(aB aP aM:Addr)(vs:List V)(H:Hp)(Q:VK)(b9:XK):Prop
 | mk(r p:Addr)(ro:R)(us:List V)(ρ:V->R):vs=[.ref r,.ref p]->H r=some (.tup ro.v)->H p=some (.lst us)->Rows H ρ us->us.length<=500->Hu K aB aP aM ρ us ro->(∀H',Am H H'->Q (.bl true) H')->bj K aB aP aM vs H Q b9
theorem zf:Av xA xA<|Af wz:=Bg
include N T in
theorem sI:An P w K mg base Bb 6 aD.fWm aD.dWm xA<|bj K aB aP aM:=by
 refine N.FWm.1.Dg zf λH I Q E d h=>?_;obtain⟨r,p,i,k,ρ,rfl,b,g,e,hl,l,q⟩:=h;refine⟨_,(Ae (Bh (BR CP (Az (Ar (K:=K) U) (pv 0) Ac<|λ_ _=>rfl) BP<|BX _) (Ag<|Ax<|zC (tG N T) d U N.FIs<|Aa (pv 0)<|Aa (pv 1) Ab) Ba)
  (Ae (Bh (BR CP (Az (Ar (K:=K) U) (pv 0) Ac<|λ_ _=>rfl) BP<|BX _) (Ag<|Ax<|D_ (zC (pD N T) d U N.FHp<|Aa (pv 0)<|Aa (pv 1) Ab)<|Ds<|zC (rF N T) d U N.FSb<|Aa (pv 0)<|Aa (pv 1) Ab) Ba)
  (Ag<|Ax<|D_ (Xx<|Xf (Az (Ar (K:=K) U) (pv 0) Ac<|λ_ _=>rfl)<|Cu (v:=.ref aP) U T.mP U)<|Ds<|zC (pD N T) d U N.FHp<|Aa (pv 0)<|Aa (pv 1) Ab))),?_⟩
 refine⟨_,U,r,_,_,_,U,U,ma b,Ah (j:=0) U,U,_,U,?_⟩;rcases l with ok | ok
 case inr =>
  obtain⟨x,C,F,y,m⟩:=ok.ts;refine Cw (λ_=>?_)<|λz=>absurd (decide_eq_true<|congrArg V.str ok.w) z
  exact⟨_,U,_,U,r,p,i,k,ρ,x,U,b,g,e,hl,C,F,y,m,q⟩
 obtain⟨u,o,n,t,a,s,c⟩:=ok.parts;refine Cw (λz=>absurd (V.str.inj<|of_decide_eq_true z) ok.ns)<|λ_=>?_
 refine⟨_,U,r,_,_,_,U,U,ma b,Ah (j:=0) U,U,_,U,?_⟩;refine Cw (λz=>?_)<|λ_=>?_
 ·have A:=ok.line<|V.str.inj<|of_decide_eq_true z
  refine⟨_,U,_,U,r,p,i.w,_,k,ρ,u,o,U,b,g,e,hl,n,t,a,s,c,λG f=>⟨_,U,Dj ?_⟩⟩;exact⟨_,U,_,U,r,p,i,k,ρ,U,f _ _ b,f _ _ g,e.mono f,hl,A,ok.m8,λB D=>q B<|f.trans D⟩
 refine⟨_,U,r,_,_,_,U,U,ma b,Ah (j:=0) U,aP,_,_,U,U,T.dP,n,_,U,Dj ?_⟩;exact⟨_,U,_,U,r,p,i.w,_,k,ρ,u,o,U,b,g,e,hl,n,t,a,s,c,q⟩
inductive iC(K:W.Frag)(aM:Addr)(vs:List V)(H:Hp)(Q:VK)(b9:XK):Prop
 | mk(p:Addr)(w:Str)(us:List V)(ρ:V->R):vs=[.str w,.ref p]->H p=some (.lst us)->Rows H ρ us->us.length<=500->(W.nsIn K aM w=some none \/ ∃(m:Int)(t:Tok),W.nsIn K aM w=some (some (.int m t))/\(((us.filter (pw ρ w)).length:Nat):Int)<m)->(∀H',Am H H'->Q (.bl true) H')->iC K aM vs H Q b9
theorem scHr:Av Fm Fm<|Af zV:=Bg
include N T in
theorem rD:An P w K mg base Bb 2 aD.fHr aD.dHr Fm<|iC K aM:=by
 refine N.FHr.1.Dg scHr λH n Q E e h=>?_;obtain⟨p,w,d,ρ,rfl,j,k,hl,a,q⟩:=h;refine⟨_,Ag<|Ax<|tM (Xx<|Vk (pv 0)<|Cu (v:=.ref aM) U T.mM U)<|Ds<|Dd HY (BK BW U T.len bo<|Aa (zC (Qc N T) e U N.FRo<|Aa (pv 1)<|Aa (pv 0) Ab) Ab) (PB (Cu (v:=.ref aM) U T.mM U) (pv 0)<|λ_ _=>rfl)<|BX _,?_⟩;rcases a with b | ⟨m,t,b,g⟩
 ·refine⟨_,U,aM,w,_,U,U,T.dM,b,_,U,Dj ?_⟩;exact q H<|Am.refl H
 refine⟨_,U,aM,w,_,U,U,T.dM,b,_,U,Bj ?_⟩;refine⟨_,U,_,U,p,d,w,ρ,U,j,k,hl,λD c l f i=>?_⟩;refine⟨D,_,U,ma<|.inl i,_,U,aM,w,.int m,_,U,U,T.dM,b,⟨t,U⟩,_,_,U,U,?_⟩;show Q (.bl (decide ((((d.filter<|pw ρ w).length:Nat):Int)<m))) c;rw[decide_eq_true g];exact q c f
def tZ(K:W.Frag)(aB aP aM:Addr):Sp:=bj K aB aP aM
theorem vo:Av EQ EQ<|Af yt:=Bg
include N T in
theorem oV:An P w K mg base Bb 7 aD.fIr aD.dIr EQ<|tZ K aB aP aM:=by
 refine N.FIr.1.ok vo (λn H Q E h=>?_)<|λx A f s H n Q E g h=>?_
 ·obtain⟨r,p,b,e,ρ,rfl,_⟩:=h;rfl
 ·obtain⟨r,p,b,e,ρ,rfl,c,i,k,hl,ok,q⟩:=h;refine⟨_,(Ae (Bh (PW.pt<|El (Ce<|Cq<|BK Cv U T.isin bt<|Aa (pv 0)<|Aa (Ea (v:=.ty "tuple") U T.tuple ii U) Ab)<|El (BR CP (BK BW U T.len bo<|Aa (pv 0) Ab) Ac<|BX _)<|EY<|Ce<|Cq<|BK Cv U T.isin bt<|Aa (Az (Ar (K:=K) U) (pv 0) Ac<|λ_ _=>rfl)<|Aa (Ea (v:=.ty "str") U T.str iE U) Ab) (Ag<|Ax FN) Ba)
   (Ag<|Ax<|D_ (zC (sI N T) g U N.FWm<|Aa (pv 0)<|Aa (pv 1) Ab)<|Ds<|zC (rD N T) g U N.FHr<|Aa (Az (Ar (K:=K) U) (pv 0) Ac<|λ_ _=>rfl)<|Aa (pv 1) Ab)),?_⟩
  have a:W.nsIn K aM b.w=some none \/ ∃(m:Int)(t:Tok),W.nsIn K aM b.w=some (some<|.int m t)/\(((e.filter<|pw ρ b.w).length:Nat):Int)<m:=Hu.room ok;refine⟨_,U,_,"tuple",_,_,U,.tup c,Hw,_,U,Bj ?_⟩;refine⟨_,U,r,_,U,.inr<|.inl<|.inl c,U,_,U,?_⟩;refine Cw (λz=>?_)<|λ_=>?_
  ·exfalso;have:=of_decide_eq_true z;have:=V.int.inj this;simp at this;omega
  refine⟨_,U,r,_,_,_,U,U,ma c,Ah (j:=0) U,_,"str",_,_,U,.str _,Hh,_,U,Bj ?_⟩;refine⟨_,U,_,U,r,p,b,e,ρ,U,c,i,k,hl,ok,λu d=>⟨_,U,Dj ?_⟩⟩;exact⟨_,U,r,_,_,_,U,U,ma<|d _ _ c,Ah (j:=0) U,_,U,p,b.w,e,ρ,U,d _ _ i,k.mono d,hl,a,λo l=>q o<|d.trans l⟩
inductive gr(K:W.Frag)(aB aP aM:Addr)(vs:List V)(H:Hp)(Q:VK)(b9:XK):Prop
 | mk(p:Addr)(us:List V)(ρ:V->R):vs=[.ref p]->H p=some (.lst us)->Rows H ρ us->1<=us.length->us.length<=150->(∀(i:Nat) v,us[i]? = some v->Hu K aB aP aM ρ (us.take i) (ρ v))->(us.filter (pw ρ "board")).isEmpty=false->(∀H',Am H H'->Q .non H')->gr K aB aP aM vs H Q b9
theorem jG:Av ["rows","at","row"] ["rows"] (Af zJ):=Bg
include N T in
theorem p_:An P w K mg base Bb 8 aD.fCk aD.dCk ["rows"] (gr K aB aP aM):=by
 refine N.FCk.1.Dg jG λH vs Q E I h=>?_;obtain⟨p,b,ρ,rfl,F,B,h1,h2,A,W,q⟩:=h;obtain⟨R,u⟩:=T.mostR;refine⟨_,(Ae (Bh (PW.pt<|El (Ce<|Cq<|BK Cv U T.isin bt<|Aa (pv 0)<|Aa (Ea (v:=.ty "list") U T.list dL U) Ab)<|EY<|Ce<|Ig FT FT Ac (BK BW U T.len bo<|Aa (pv 0) Ab)<|Cu (v:=.int 150) U u ⟨R,U⟩) (Ag Hr) Ba)
  (Ae (Dk PassesOwn.never U (K9 U T.enumerate<|Aa (pv 0) Ab) (JN U<|DY (Bt (i:=1) jG.nd U<|Or.inl U)<|DY (Bt (i:=2) jG.nd U<|Or.inl U) HF)<|Ag<|Bh (Ce<|Cq<|zC (oV N T) I U N.FIr<|Aa (pv 2)<|Aa (Ep Jc (pv 0) Ge<|Ex<|pv 1) Ab) (Ag Hr) Ba)
  (Ag<|Bh (Ce<|Lx (zC (Qc N T) I U N.FRo<|Aa (pv 0)<|Aa BP Ab)<|λ_=>rfl) (Ag Hr) Ba))),?_⟩
 have l:De K H p b:=.inl<|.inl F
 refine⟨_,U,_,"list",_,_,U,.lst F,eV,_,U,Bj ?_⟩;refine⟨_,U,p,_,U,.inl l,_,_,U,U,_,U,?_⟩;refine Cw (λ_=>?_)<|λz=>absurd (decide_eq_true<|by omega) z
 refine⟨_,_,U,U,_,U,?_⟩;have d:decide ((b.length:Int)<=150)=true:=decide_eq_true<|by omega
 rw[d];refine Bj ?_;refine⟨_,U,p,U,⟨_,l⟩,Ly (K:=K) (a:=p) (xs:=b) (λi σ e=>Am H e/\∃C G,σ=[some (.ref p),C,G]) ⟨Am.refl H,_,_,U⟩ (λi σ e _ h=>h.1.seq l) ?_ ?_⟩
 ·rintro i x σ e J m ⟨f,C,G,rfl⟩ O;have g:=BL (o:=HO.tup [.int (i:Int),x]) O;refine⟨J,_,U,ma Aj,U,_,_,U,_,_,U,U,?_⟩;generalize upd e J (HO.tup [.int (i:Int),x])=j at g |-;have t:=f.trans g;have hi:i<b.length:=(ag.mp m).1;obtain⟨r,rfl,S⟩:=(B.mono t) x<|ah m;refine⟨_,U,_,U,_,U,_,U,p,_,U,t.seq l,λk n=>?_⟩;have s:=BL (o:=HO.lst<|Er b none<|some (i:Int)) n;have y:upd j k (HO.lst<|Er b none<|some (i:Int)) k=_:=Aj;generalize upd j k (HO.lst (Er b none (some (i:Int))))=Y at s y |-;rw[Jq b i (by omega)] at y;have c:=t.trans s;refine⟨r,k,ρ<|.ref r,b.take i,ρ,U,s _ _ S,y,(B.mono c).sub λv V=>hG V,by rw[cy];omega,A i _ m,λZ L=>⟨_,U,Bj ?_⟩⟩;exact⟨c.trans L,_,_,U⟩
 ·rintro σ e ⟨f,C,G,rfl⟩;refine⟨_,U,p,b,"board",ρ,U,f _ _ F,B.mono f,by omega,λD j X g M=>?_⟩;refine⟨_,.inl ⟨_,ma M,U⟩,?_⟩;rw[W];exact Bj<|q j<|f.trans g
inductive iV(vs:List V)(H:Hp)(Q:VK)(b9:XK):Prop
 | mk(p:Addr)(ts:List Str):vs=[.ref p]->H p=some (.lst (ts.map V.str))->ts.length<=300->ts.Nodup->(∀D (kvs:List (Key×V)) H',H D=none->Am H H'->H' D=some (.dK kvs)->(∀(i:Nat) t,ts[i]? = some t->CN kvs (Sum.inr t)=some (.int (i:Nat)))->(∀t,t ∉ ts->CN kvs (Sum.inr t)=none)->Q (.ref D) H')->iV vs H Q b9
theorem bZ:Av ["names","numbers","number","name"] ["names"] (Af wL):=Bg
include N T in
theorem uQ:An P w K mg base Bb 1 aD.fNu aD.dNu ["names"] iV:=by
 refine N.FNu.1.Dg bZ λH vs Q E M h=>?_;obtain⟨p,l,rfl,X,hl,Y,q⟩:=h;have S:=CG M;refine⟨_,(Ae (Be (i:=1) bZ.nd U (Or.inl U) G6)
  (Ae (Dk PassesOwn.never U (K9 U T.enumerate<|Aa (pv 0) Ab) (JN U<|DY (Bt (i:=2) bZ.nd U<|Or.inl U)<|DY (Bt (i:=3) bZ.nd U<|Or.inl U) HF)<|Ag<|Fi S (pv 1) (pv 3) (pv 2) U)
  (Ag<|Ax<|pv 1))),?_⟩
 intro D n;have J:=BL (o:=HO.dK []) n;have L:De K H p<|l.map V.str:=.inl<|.inl X
 refine⟨_,U,p,U,⟨_,J.seq L⟩,Ly (K:=K) (a:=p) (xs:=l.map V.str) (λi σ g=>Am H g/\∃(c:List<|Key × V),g D=some (.dK c)/\c.length<=i/\(∀(j:Nat) t,j<i->l[j]? = some t->CN c (Sum.inr t)=some (.int (j:Nat)))/\(∀t,t ∉ l->CN c (Sum.inr t)=none)/\∃C s,σ=[some (.ref p),some<|.ref D,C,s])
  ⟨J,[],Aj,al _,λj t F=>absurd F<|iA _,λt _=>YT,_,_,U⟩ (λi σ g _ h=>h.1.seq L) ?_ ?_⟩
 ·rintro i x σ g I G ⟨B,c,A,Z,v,y,C,s,rfl⟩ R;rw[am] at G;obtain⟨t,d,rfl⟩:=av.mp G;have hi:i<l.length:=(ag.mp d).1;have r:=BL (o:=HO.tup [.int (i:Int),.str t]) R;refine⟨I,_,U,ma Aj,U,_,_,U,_,_,U,U,?_⟩;generalize upd g I (HO.tup [.int (i:Int),.str t])=H5 at r |-;refine⟨_,U,_,U,_,U,D,_,U,Jf.k (k:=Sum.inr t) (r _ _ A)<|BJ<|by omega,?_⟩;refine⟨λb u e=>?_,putK c (Sum.inr t)<|.int (i:Int),Aj,be (Gf _ _ _)<|by omega,λj m F f=>?_,λm f=>(by rw[Fw,if_neg λz=>f<|by rw[Sum.inr.inj z];exact ah d];exact y m f),_,_,U⟩
  ·rw[Aw (Ai e n)];exact r _ _<|B _ _ e
  ·rw[Fw];by_cases e:m=t
   ·subst e;have:j=i:=by
     obtain⟨h1,O⟩:=ag.mp f;obtain⟨h2,W⟩:=ag.mp d;exact (kX Y).mp<|O.trans W.symm
    subst this;rw[if_pos U]
   ·rw[if_neg λz=>e<|Sum.inr.inj z];refine v j m ?_ f;rcases Nat.lt_succ_iff_lt_or_eq.mp F with z | z
    ·exact z
    ·subst z;rw[d] at f;exact absurd (Option.some.inj f).symm e
 ·rintro σ g ⟨B,c,A,Z,v,y,C,s,rfl⟩;refine⟨_,U,q D c g n B A (λi t d=>v i t ?_ d) y⟩;rw[af];exact (ag.mp d).1
inductive cG(vs:List V)(H:Hp)(Q:VK)(b9:XK):Prop
 |mk(p:Addr)(as:List Th)(us:List V):vs=[.ref p]->H p=some (.lst us)->Paired (λ(a:Th) y=>TupAt H (tV a) y) as us->as.length<=500->(∀a∈as,a.2.1<=100)->(∀H',Am H H'->Q (.int ((as.map λa=>a.2.1).sum:Nat)) H')->cG vs H Q b9
theorem Uv:∀l:List Nat,(l.map λn:Nat=>(n:Int)).sum=((l.sum:Nat):Int)
 |[]=>rfl
 |n::l=>by
  rw[cw,gI,gI,Uv l];omega
theorem zM:Av BF BF<|Af ug:=Bg
include N T in
theorem dq:An P w K mg base Bb 1 aD.fCa aD.dCa BF cG:=by
 refine N.FCa.1.Dg zM λH G Q E F h=>?_;obtain⟨p,s,t,rfl,A,i,hl,v,q⟩:=h;refine⟨_,Ag<|Ax<|BK (Wh U) U T.sum PyProof.Rows.boot_sum<|Aa (Br U (Bf (osc:=Af ug) (N:=BF) U U<|by decide) (Bl<|pv 0) (λ_ _ _ _=>Ci)<|λ_ _ _ _=>(Az (Ar (K:=K) U) (pv 0) Ac<|λ_ _=>rfl)) Ab,?_⟩;have o:De K H p t:=.inl<|.inl A
 have I:=i.length;refine⟨_,U,p,U,⟨_,o⟩,DW (K:=K) (xs:=t) (λ_=>true) (Vq H 1) o (BJ<|by omega) (λx r c f R k=>k c<|Am.refl c) (λx r _ c f R k=>?_)<|λD c C f l=>?_⟩
 ·obtain⟨b,_,d⟩:=Dl i r;have e:=J4 d 1;obtain⟨y,rfl,u⟩:=d.mono f;refine⟨_,U,y,_,_,_,U,U,ma u,Ah (j:=1) U,?_⟩;have:=k c<|Am.refl c
  rw[e] at this;exact this
 ·rw[bq.mpr (λ_ _=>rfl),K7 1 i] at l;have e:(s.map λa=>(tV a).getD 1 V.non)=((s.map λa=>a.2.1).map λn:Nat=>(n:Int)).map V.int:=by
   rw[ay,ay];rfl
  rw[e] at l;refine⟨D,_,U,ma l,λn B=>?_,by simp;omega,?_⟩
  ·obtain⟨m,z,rfl⟩:=ar.mp B;obtain⟨b,g,rfl⟩:=ar.mp z;have:=v b g;omega
  ·rw[Uv];exact q c f
theorem pO(h:n<=3000):n<sizeLine:=aT h<|by decide
inductive ir(vs:List V)(H:Hp)(Q:VK)(b9:XK):Prop
 |mk(p:Addr)(as:List Th)(us:List V):vs=[.ref p]->H p=some (.lst us)->Paired (λ(a:Th) y=>TupAt H (tV a) y) as us->as.length<=12->(∀a∈as,a.2.1<=97)->(∀D ys H',H D=none->Am H H'->H' D=some (.lst ys)->Paired (λq y=>TupAt H' (qV q) y) (Ew<|as.map tN) ys->Q (.ref D) H')->ir vs H Q b9
theorem Zh:Av ["things","places","number","thing"] BF (Af vQ):=Bg
include N T in
theorem qJ:An P w K mg base Bb 1 aD.fPl aD.dPl BF ir:=by
 refine N.FPl.1.Dg Zh λH vs Q E hr h=>?_;obtain⟨p,l,V,rfl,hp,A,hl,W,q⟩:=h;refine⟨_,(Ae (Be (i:=1) Zh.nd U (Or.inl U)<|DK Ab)
  (Ae (Dk PassesOwn.never U (K9 U T.enumerate<|Aa (pv 0) Ab) (JN U<|DY (Bt (i:=2) Zh.nd U<|Or.inr U)<|DY (Bt (i:=3) Zh.nd U<|Or.inl U) HF)<|Ag<|Bw<|G5 ci PySem.F.slot_list_extend PySem.F.type_list_extend VV (pv 1)<|Aa (Br U (Bf (osc:=Af vQ) (N:=["things","places","number","thing"]) U U<|by decide) (Dr U T.range<|Aa (Az (Ar (K:=K) U) (pv 3) Ac<|λ_ _=>rfl) Ab) (λ_ _ _ _=>Ci)<|λ_ _ _ _=>(CK<|Aa (pv 3)<|Aa (pv 0) Ab)) Ab)
  (Ag<|Ax<|pv 1))),?_⟩
 refine⟨Bv (by simp),λD B=>?_⟩;have X:=BL (o:=HO.lst []) B;have Z:De K H p V:=.inl<|.inl hp
 have N0:=A.length;refine⟨_,U,p,U,⟨_,X.seq Z⟩,Ly (K:=K) (a:=p) (xs:=V) (λi σ c=>Am H c/\∃f,c D=some (.lst f)/\Paired (λq y=>TupAt c (qV q) y) (Ew<|(l.map tN).take i) f/\∃L G,σ=[some (.ref p),some<|.ref D,L,G])
  ⟨X,[],Aj,.nil,_,_,U⟩ (λi σ c _ h=>h.1.seq Z) ?_ ?_⟩
 ·rintro i x σ c S hx ⟨v,f,J,t,L,G,rfl⟩ hT;obtain⟨b,I,C⟩:=Qi A hx;have hi:i<l.length:=(ag.mp I).1;have M:=W b<|ah I
  have s:(l.map tN)[i]? = some (tN b):=by rw[am,I];rfl
  have g:=BL (o:=HO.tup [.int (i:Int),x]) hT;refine⟨S,_,U,ma Aj,U,_,_,U,_,_,U,U,?_⟩;generalize upd c S (HO.tup [.int (i:Int),x])=H5 at g |-;obtain⟨r,rfl,k7⟩:=C.mono<|v.trans g;have Y:=Aq g t;have z:=g _ _ J;refine⟨_,U,.inl ⟨U,_,ma z⟩,_,U,r,_,_,_,U,U,ma k7,Ah (j:=1) U,_,U,by omega,by omega,?_⟩;rw[aS];refine VP (n:=b.2.1) (λe=>qV (i,e)) (BJ<|by omega) (λe he H6 d R k=>?_)<|λD6 H6 O ab d EG m=>?_
  ·refine⟨_,U,_,U,by show 2<=sizeLine;decide,λT6 tz=>?_⟩;exact k _ _ (BL tz) ⟨T6,U,Aj⟩
  ·have ly:=(Aq d Y).length;have lz:=m.length;have lp:=Ot ((l.map tN).take i) 97 λb A=>by
    obtain⟨a,ha,rfl⟩:=ar.mp<|hG A;exact W a ha
   rw[cy,af] at lp;rw[gg] at lz;have:min i l.length * 97<=12 * 97:=kC _<|by omega
   refine⟨D,D6,f,O,U,U,d _ _ z,EG,fT<|pO<|by omega,?_⟩;refine⟨λb u e=>?_,f++O,Aj,?_,_,_,U⟩
   ·rw[Aw (Ai e B)];exact d _ _<|g _ _<|v _ _ e
   ·rw[IK s];exact C_ (By (Aq d Y)<|d _ _ z)<|Bx (F:=λq y=>TupAt _ (qV q) y) (λe=>(i,e))<|By m<|d _ _ z
 ·rintro σ c ⟨v,f,J,t,L,G,rfl⟩;rw[<-N0,gp<|by rw[af];exact al _] at t;exact⟨_,U,q D f c B v J t⟩
theorem Zt{α:Type}(l:List α)(x:α):Ve (l++[x]) (-1)=some x:=by
 unfold Ve dU;rw[if_neg (by decide),if_pos<|by rw[ai,aI];omega];show (l++[x])[(-1+(((l++[x]).length:Nat):Int)).toNat]? = some x;have e:(-1+(((l++[x]).length:Nat):Int)).toNat=l.length:=by
  rw[ai,aI];omega
 rw[e,dA<|al _,ku];rfl
theorem La{l:List Ln}{v:V}{A:Addr}{ys:List V}(h:G8 H l v)(c:H A=some (.lst xs))(b:v≠.ref A):G8 (upd H A<|.lst ys) l v:=by
 obtain⟨B,d,rfl,a,e⟩:=h;have:B≠A:=λz=>b<|by rw[z]
 exact⟨B,d,U,by rw[Aw this];exact a,By e c⟩
theorem Gd{α β:Type}{F G:α->β->Prop}:∀{l:List α}{vs:List β},Paired F l vs->(∀a b,b∈vs->F a b->G a b)->Paired G l vs
 |[],_,h,_=>by cases h;exact .nil
 |a::l,_,h,k=>by
  cases h with
  |cons x y=>exact .cons (k _ _ (bg ..) x)<|Gd y λa b c=>k a b<|ba _ c
theorem Jg{α β:Type}{F:α->β->Prop}:∀{l:List α}{z:α}{vs:List β},Paired F (l++[z]) vs->∃us u,vs=us++[u]/\Paired F l us/\F z u
 |[],z,_,h=>by
  cases h with
  |cons x y=>cases y;exact⟨[],_,U,.nil,x⟩
 |a::l,z,_,h=>by
  cases h with
  |cons x y =>
   obtain⟨us,u,rfl,b,c⟩:=Jg y;exact⟨_::us,u,U,.cons x b,c⟩
theorem FJ{α:Type}{l:List α}(h:l≠[]):∃a z,l=a++[z]:=⟨l.dropLast,l.getLast h,(List.dropLast_concat_getLast h).symm⟩
theorem Qv{rk:List (Str×Nat×Int)}:∀{rs:List R},(∃r∈rs,Il r.w=true)->linesOf rk rs≠[]:=by
 have key:∀(n:Nat)(rs:List R),rs.length=n->(∃r∈rs,Il r.w=true)->linesOf rk rs≠[]:=by
  intro n
  induction n with
  |zero =>
   rintro rs hl ⟨r,d,_⟩
   cases rs with
   |nil=>cases d
   |cons a b=>cases hl
  |succ n j =>
   rintro rs hl ⟨r,d,i⟩;obtain⟨a,z,rfl⟩:=FJ (l:=rs)<|by intro e;rw[e] at hl;cases hl
   rw[Dc];rw[ai,aI] at hl;unfold Dz;by_cases g:Il z.w=true
   ·rw[if_pos g];simp
   ·rw[if_neg g];have f:r∈a:=by
     rcases bE.mp d with h | h
     ·exact h
     ·rw[ax.mp h] at i;exact absurd i g
    have c:=j a (by omega) ⟨r,f,i⟩;split
    ·obtain⟨b,y,e⟩:=FJ c;rw[e,Iw];simp
    ·exact c
 exact λ{rs} h=>key rs.length rs U h
inductive gR(vs:List V)(H:Hp)(Q:VK)(b9:XK):Prop
 | mk(p d:Addr)(us:List V)(ρ:V->R)(rk:List (Str×Nat×Int))(kvs:List (Key×V)):vs=[.ref p,.ref d]->H p=some (.lst us)->Rows H ρ us->us.length<=500->H d=some (.dK kvs)->(∀(i:Nat) r,rk[i]? = some r->CN kvs (Sum.inr r.1)=some (.int (i:Nat)))->(rk.map (·.1)).Nodup->(∀(i:Nat) v,us[i]? = some v->(ρ v).w = "line"->(∃(j:Nat)(r:Str × Nat × Int)(sh lo hi:Int),rk[j]? = some r/\r.1=(ρ v).nm/\(ρ v).rest=[.int sh,.int lo,.int hi])/\∃u∈us.take i,Il (ρ u).w=true)->(∀D H',H D=none->Am H H'->Ef p H' D (linesOf rk (us.map ρ))->Q (.ref D) H')->gR vs H Q b9
theorem jR{rk:List (Str×Nat×Int)}{r:Str×Nat×Int}(a:(rk.map (·.1)).Nodup)(h:rk[j]? = some r):(rk.map (·.1)).idxOf r.1=j:=by
 have b:j<(rk.map (·.1)).length:=by rw[af];exact (ag.mp h).1
 have e:(rk.map (·.1))[j]=r.1:=by
  rw[li];exact congrArg (·.1) (ag.mp h).2
 rw[<-e];exact List.Nodup.idxOf_getElem a j b
theorem jj:Av ["rows","rank_numbers","lines","row"] DD (Af z6):=Bg
include N T in
theorem oX:An P w K mg base Bb 1 aD.fLi aD.dLi DD gR:=by
 refine N.FLi.1.Dg jj λH vs Q E hr h=>?_;obtain⟨p,d,f,ρ,rk,aZ,rfl,hp,hR,hl,aC,wS,ap,r8,q⟩:=h;have hu:=CG hr;refine⟨_,(Ae (Be (i:=2) jj.nd U (Or.inl U)<|DK Ab)
  (Ae (Dk PassesOwn.never U (Bl<|pv 0) (Bt (i:=3) jj.nd U<|Or.inl U) (Ae (Bh (BR (Mq (K:=K) U) (Az (Ar (K:=K) U) (pv 3) Ac<|λ_ _=>rfl) (Cu (v:=.ref aK) U T.mK U) U) (Ag<|Bw<|G5 ci dc dn Di (pv 2)<|Aa (DK Ab) Ab) Ba)
  (Ag<|Bh (BR CP (Az (Ar (K:=K) U) (pv 3) Ac<|λ_ _=>rfl) BP<|BX _) (Ag<|Bw<|G5 ci dc dn Di (Az (Bk (K:=K) U) (pv 2) (Ja LC Ac)<|λ_ _=>rfl)<|Aa (CK<|Aa (Ey hu (pv 1) (Az (Ar (K:=K) U) (pv 3) Ac<|λ_ _=>rfl)<|λ_ _=>rfl)<|Aa (Az (Ar (K:=K) U) (pv 3) Ac<|λ_ _=>rfl)<|Aa (Az (Ar (K:=K) U) (pv 3) Ac<|λ_ _=>rfl)<|Aa (Az (Ar (K:=K) U) (pv 3) Ac<|λ_ _=>rfl) Ab) Ab) Ba)))
  (Ag<|Ax<|pv 2))),?_⟩
 refine⟨Bv (by simp),λD hD=>?_⟩;have s0:=BL (o:=HO.lst []) hD;have hS:De K H p f:=.inl<|.inl hp
 refine⟨_,U,p,U,⟨_,s0.seq hS⟩,Ia (K:=K) (a:=p) (xs:=f) (λi σ J=>Am H J/\∃m,J D=some (.lst m)/\Paired (λl v=>G8 J l v) (linesOf rk<|(f.take i).map ρ) m/\m.Nodup/\(∀v∈m,v≠.ref D)/\(∀v∈m,∃A,v=.ref A/\H A=none)/\m.length<=i/\(∀l∈linesOf rk ((f.take i).map ρ),l.length<=i)/\∃v3,σ=[some (.ref p),some<|.ref d,some<|.ref D,v3])
  ⟨s0,[],Aj,.nil,iS,(λv t=>nomatch t),(λv t=>nomatch t),al _,(λl hl=>nomatch hl),_,U⟩ (λi σ J _ h=>h.1.seq hS) ?_ ?_⟩
 ·rintro i x σ J hx ⟨L,m,I,C,nd,s,Z,aN,Y,v3,rfl⟩;have hm:=ah hx;have hi:i<f.length:=(ag.mp hx).1;obtain⟨r,rfl,X⟩:=(hR.mono L) x hm;have M:(f.take<|i+1).map ρ=(f.take i).map ρ++[ρ (.ref r)]:=by
   rw[cr,hx,cq];rfl
  have O:linesOf rk ((f.take<|i+1).map ρ)=Dz rk (linesOf rk<|(f.take i).map ρ) (ρ<|.ref r):=by rw[M,Dc]
  have a2:(linesOf rk<|(f.take i).map ρ).length=m.length:=C.length;by_cases W:Il (ρ<|.ref r).w=true
  ·have Gc:¬ (ρ<|.ref r).w = "line":=λz=>by rw[z] at W;exact absurd W<|by decide
   have c:linesOf rk ((f.take<|i+1).map ρ)=linesOf rk ((f.take i).map ρ)++[[]]:=by rw[O];unfold Dz;rw[if_pos W]
   refine⟨_,U,r,_,_,_,U,U,ma X,Ah (j:=0) U,aK,_,U,.inr<|T.tK.sq _,U,U,_,U,?_⟩;refine Cw (λ_=>?_)<|λz=>absurd W z
   refine⟨_,U,.inl ⟨U,_,ma I⟩,Bv (by simp),λp5 n=>?_⟩;obtain⟨H5,i5,y,u5⟩:=Du (o:=HO.lst []) n;rw[i5];have SB:=y _ _ I;refine⟨D,m,_,U,U,SB,BJ<|by omega,?_⟩;have aM:r≠D:=d_ (y _ _ X) SB<|by intro z;cases z
   have ab:p5≠D:=λz=>by rw[z,I] at n;cases n
   refine⟨_,U,r,_,_,_,U,U,ma<|by rw[Aw aM];exact y _ _ X,Ah (j:=0) U,U,_,U,?_⟩;refine Cw (λz=>absurd (V.str.inj<|of_decide_eq_true z) Gc)<|λ_=>?_
   refine⟨λb u e=>?_,m++[.ref p5],Aj,?_,?_,?_,?_,by simp;omega,?_,_,U⟩
   ·rw[Aw (Ai e hD)];exact y _ _<|L _ _ e
   ·rw[c];refine C_ (Gd C λl v t h=>La (h.mono y) SB<|s v t)<|.cons ⟨p5,[],U,by rw[Aw ab];exact u5,.nil⟩ .nil
   ·refine Ud nd λhm=>?_;obtain⟨l,_,G⟩:=Dl C hm;obtain⟨A,ts,e,h1,_⟩:=G
    cases e;rw[h1] at n
    cases n
   ·intro v t;rcases bE.mp t with h | h
    ·exact s v h
    ·rw[ax.mp h];intro z;exact ab<|V.ref.inj z
   ·intro v t;rcases bE.mp t with h | h
    ·exact Z v h
    ·exact⟨p5,ax.mp h,L.free n⟩
   ·intro l S;rw[c] at S;rcases bE.mp S with h | h
    ·exact iL<|Y l h
    ·rw[ax.mp h];exact eJ _
  ·refine⟨_,U,r,_,_,_,U,U,ma X,Ah (j:=0) U,aK,_,U,.inr<|T.tK.sq _,U,U,_,U,?_⟩;refine Cw (λz=>absurd z W)<|λ_=>?_
   refine⟨_,U,r,_,_,_,U,U,ma X,Ah (j:=0) U,U,_,U,?_⟩;by_cases B:(ρ<|.ref r).w = "line"
   ·refine Cw (λ_=>?_)<|λz=>absurd (decide_eq_true<|congrArg V.str B) z
    obtain⟨⟨j,rr,sh,lo,R,hj,Sk,va⟩,u,hu,VZ⟩:=r8 i _ hx B;have an:linesOf rk ((f.take i).map ρ)≠[]:=Qv ⟨ρ u,aE hu,VZ⟩;obtain⟨ac,z,NM⟩:=FJ an;rw[NM] at C;obtain⟨Y3,v,rfl,XW,hz⟩:=Jg C;obtain⟨A,ts,rfl,G,E4⟩:=hz;have c:linesOf rk ((f.take<|i+1).map ρ)=ac++[z++[⟨j,sh,lo,R⟩]]:=by
     rw[O];unfold Dz;rw[if_neg W,if_pos B,NM,Iw];unfold lnOf;rw[va,<-Sk,jR ap hj]
    have F:J r=some (.tup [.str (ρ<|.ref r).w,.str (ρ<|.ref r).nm,.int sh,.int lo,.int R]):=by rw[X,<-va]
    have g:=Ed.k (k:=Sum.inr rr.1)<|L _ _ aC
    rw[wS j rr hj,Sk] at g;have aB:A≠D:=λe=>s (.ref A) (by simp)<|by rw[e]
    have a0:z.length<=i:=Y z<|by rw[NM];simp
    have a1:=E4.length;refine⟨_,U,_,U,D,_,_,_,U,U,ma I,Zt Y3<|V.ref A,.inl ⟨U,_,ma G⟩,_,U,_,U,r,_,_,_,U,U,ma F,Ah (j:=1) U,d,_,U,g,_,U,r,_,_,_,U,U,ma F,Ah (j:=2) U,_,U,r,_,_,_,U,U,ma F,Ah (j:=3) U,_,U,r,_,_,_,U,U,ma F,Ah (j:=4) U,by show 4<=sizeLine;decide,λT5 Rl=>?_⟩;obtain⟨H5,i5,y,u5⟩:=Du (o:=HO.tup [.int (j:Nat),.int sh,.int lo,.int R]) Rl;rw[i5];have Sf:=y _ _ G;have aP:T5≠A:=λe=>by rw[e,G] at Rl;cases Rl
    have aw:D≠A:=λe=>aB e.symm;obtain⟨a3,_,FY⟩:=iF.mp nd;refine⟨A,ts,_,U,U,Sf,BJ<|by omega,?_⟩;refine⟨λb u e=>?_,Y3++[.ref A],by rw[Aw aw];exact y _ _ I,?_,nd,s,Z,by omega,?_,_,U⟩
    ·obtain⟨A',eA,aQ⟩:=Z (.ref A)<|by simp
     cases eA;rw[Aw (Ai e aQ)];exact y _ _<|L _ _ e
    ·rw[c];refine C_ (Gd XW λl v t h=>La (h.mono y) Sf<|λe=>FY v t _ (ax.mpr U) e)<|.cons ⟨A,ts++[.ref T5],U,Aj,C_ (By (Aq y E4) Sf)<|.cons ⟨T5,U,by rw[Aw aP];exact u5⟩ .nil⟩ .nil
    ·intro l S;rw[c] at S;rcases bE.mp S with h | h
     ·exact iL<|Y l<|by rw[NM];exact dS _ h
     ·rw[ax.mp h,ai,aI];omega
   ·refine Cw (λz=>absurd (V.str.inj<|of_decide_eq_true z) B)<|λ_=>?_
    have c:linesOf rk ((f.take<|i+1).map ρ)=linesOf rk ((f.take i).map ρ):=by rw[O];unfold Dz;rw[if_neg W,if_neg B]
    rw[<-c] at C Y;exact⟨L,m,I,C,nd,s,Z,by omega,λl S=>iL<|Y l S,_,U⟩
 ·rintro σ J ⟨L,m,I,C,nd,s,Z,aN,Y,v3,rfl⟩;rw[dt] at C;have as:D≠p:=Ne.symm<|Ai hp hD
  refine⟨_,U,q D J hD L ⟨m,I,as,Gd C λl v t h=>⟨h,λz=>?_⟩⟩⟩;obtain⟨A,e,G⟩:=Z v t;rw[e] at z;rw[V.ref.inj z,hp] at G
  cases G
abbrev nV(l:List Nat):List V:=l.map λn:Nat=>V.int (n:Int)
inductive fj(vs:List V)(H:Hp)(Q:VK)(b9:XK):Prop
 | mk(i:Int):vs=[.int i]->Q (.bl (decide (0<=i) && decide (i<1200))) H->fj vs H Q b9
theorem yl:Av vE vE<|Af yr:=Bg
include N T in
theorem qF:An P w K mg base Bb 2 aD.fMy aD.dMy vE fj:=by
 refine N.FMy.1.Dg yl λH e Q E c h=>?_;obtain⟨i,rfl,q⟩:=h;obtain⟨d,b⟩:=T.below;refine⟨_,Ag<|Ax<|D_ (zC (dZ N T) c U N.FWh<|Aa (pv 0) Ab)<|Ds<|Gy FT HY Ac (pv 0)<|Cu (v:=.int 1200) U b ⟨d,U⟩,?_⟩;refine⟨_,U,i,U,_,U,Dj ?_⟩;refine⟨_,U,_,_,U,U,_,U,?_⟩;refine Cw (λa=>?_)<|λa=>?_
 ·rw[a,ic] at q;exact⟨_,_,U,U,q⟩
 ·rw[(fo _).mp a,io] at q;exact q
inductive Pn(vs:List V)(H:Hp)(Q:VK)(b9:XK):Prop
 | mk(p:Addr)(l:List Nat):vs=[.ref p]->H p=some (.lst (nV l))->l.length<=500->(∀n∈l,n<1200)->(∀H',Am H H'->Q (.int (Wd.mk l:Nat)) H')->Pn vs H Q b9
theorem rC(l:List Nat)(n:Nat):Builtin.bitOr ((Wd.mk l:Nat):Int) (1 * 2 ^ ((n:Nat):Int).toNat)=((Wd.mk (l++[n]):Nat):Int):=by
 rw[Int.one_mul,aS,Ih,Iv,Wd.Z3]
theorem bO:Av ["numbers","some","number"] ["numbers"] (Af vD):=Bg
include N T in
theorem NZ:An P w K mg base Bb 3 aD.fSt aD.dSt ["numbers"] Pn:=by
 refine N.FSt.1.Dg bO λH F Q E u h=>?_;obtain⟨p,l,rfl,r,C,t,q⟩:=h;refine⟨_,(Ae (Bh (PW.pt<|El (Ce<|Cq<|BK Cv U T.isin bt<|Aa (pv 0)<|Aa (Ea (v:=.ty "list") U T.list dL U) Ab)<|EY<|Ce<|Cq<|BK (IW U) U T.all gL<|Aa (Br U (Bf (osc:=Af vD) (N:=["numbers","some","number"]) U U<|by decide) (Bl<|pv 0) (λ_ _ _ _=>Ci)<|λ_ _ _ _=>(zC (qF N T) u U N.FMy<|Aa (pv 0) Ab)) Ab) (Ag Hr) Ba)
  (Ae (Be (i:=1) bO.nd U (Or.inl U) Ac)
  (Ae (Dk PassesOwn.never U (Bl<|pv 0) (Bt (i:=2) bO.nd U<|Or.inl U)<|Ag<|Be (i:=1) bO.nd U (Or.inl U)<|BZ NK (pv 1)<|BZ X8 Ac<|pv 2)
  (Ag<|Ax<|pv 1)))),?_⟩
 have g:De K H p<|nV l:=.inl<|.inl r
 refine⟨_,U,_,"list",_,_,U,.lst r,eV,_,U,Bj ?_⟩;have j:(nV l).length<sizeLine:=BJ<|by simp;omega
 refine⟨_,U,p,U,⟨_,g⟩,DW (K:=K) (xs:=nV l) (λ_=>true) (λ_=>.bl true) g j (λx o b c R k=>k b<|Am.refl b) (λx o _ b c R k=>?_)<|λD b B c hl=>?_⟩
 ·obtain⟨n,f,rfl⟩:=ar.mp o;refine⟨_,U,(n:Int),U,?_⟩;have e:(decide ((0:Int)<=(n:Int)) && decide ((n:Int)<1200))=true:=by
   have:=t n f;simp;omega
  rw[e];exact k b<|Am.refl b
 ·refine⟨D,(nV l).map λ_=>true,U,.inl<|.inl ?_,?_⟩
  ·rw[hl,bq.mpr<|λ_ _=>rfl];simp
  ·have e:((nV l).map λ_=>true).all id=true:=by simp
   rw[e];refine⟨_,U,Bj ?_⟩;refine⟨_,U,p,U,⟨_,c.seq g⟩,Ia (K:=K) (a:=p) (xs:=nV l) (λi σ d=>d=b/\∃m,σ=[some (.ref p),some<|.int (Wd.mk (l.take i):Nat),m]) ⟨U,_,U⟩ (λi σ d _ h=>by rw[h.1];exact c.seq g) ?_ ?_⟩
   ·rintro i y σ d s ⟨rfl,m,rfl⟩;rw[am] at s;obtain⟨n,f,rfl⟩:=av.mp s;have A:=t n<|ah f
    refine⟨_,U,_,U,_,_,U,U,⟨by omega,by omega,by decide⟩,_,_,U,U,?_⟩;refine⟨U,some<|.int (n:Int),?_⟩;try dsimp only
    rw[rC,cr,f];rfl
   ·rintro σ d ⟨rfl,m,rfl⟩;have z:l.take (nV l).length=l:=List.take_of_length_le<|by simp
    rw[z];exact⟨_,U,q _ c⟩
def ixV(nms:List Str):V->V
 |.str t=>.int (nms.idxOf t:Nat)
 |_=>.non
theorem VJ(h:t∈nms):nms[nms.idxOf t]? = some t:=by
 rw[ae (gi h),List.getElem_idxOf]
inductive lH(vs:List V)(H:Hp)(Q:VK)(b9:XK):Prop
 |mk(r kd:Addr)(ro:R)(kvs:List (Key×V))(nms ts:List Str):vs=[.ref r,.ref kd]->H r=some (.tup ro.v)->H kd=some (.dK kvs)->V.str ro.nm::ro.rest=ts.map V.str->ts.length<=24->nms.length<=300->(∀(i:Nat) t,nms[i]? = some t->CN kvs (Sum.inr t)=some (.int (i:Nat)))->(∀t∈ts,t∈nms)->(∀H',Am H H'->Q (.int (Wd.mk (ts.map λt=>nms.idxOf t):Nat)) H')->lH vs H Q b9
theorem xf:Av zI zI<|Af vX:=Bg
include N T in
theorem tO:An P w K mg base Bb 4 aD.fSs aD.dSs zI lH:=by
 refine N.FSs.1.Dg xf λH vs Q E l h=>?_;obtain⟨r,kd,c,M,b,a,rfl,y,C,S,EW,Sk,Z,e,q⟩:=h;have O:=CG l;refine⟨_,Ag<|Ax<|zC (NZ N T) l U N.FSt<|Aa (Br U (Bf (osc:=Af vX) (N:=zI) U U<|by decide) (RX<|Ep PJ (pv 0) (Ex Ac) Ge) (λ_ _ _ _=>Ci)<|λ_ _ _ _=>(Ey O (pv 2) (pv 0)<|λ_ _=>rfl)) Ab,?_⟩;have X:c.v=V.str c.w::a.map V.str:=by
  show V.str c.w::(V.str c.nm::c.rest)=_;rw[S]
 rw[X] at y;have p:HT.Ec (V.str c.w::a.map V.str).length 0 (some 1)=1:=by
  rw[show (some (1:Int))=some ((1:Nat):Int) from rfl,HT.GX];simp
 have d:Er (V.str c.w::a.map V.str) (some 1) none=a.map V.str:=by
  unfold Er;rw[p,HT.Mg];simp;exact gp<|by rw[af];exact al _
 refine⟨_,U,_,U,r,_,U,ma y,?_,λu G=>?_⟩
 ·rintro⟨z,_⟩;rw[p] at z
  cases z
 rw[d];obtain⟨B,i5,A,I⟩:=Du (o:=HO.tup<|a.map V.str) G;rw[i5];have s:Gr K B u<|a.map V.str:=.inl<|.inl I
 have L:(a.map V.str).length=a.length:=af ..;refine⟨u,U,⟨_,s⟩,Qm (K:=K) (xs:=a.map V.str) (λ_=>true) (ixV b) s (BJ<|by omega) (λx m f v R k=>k f<|Am.refl f) (λx m _ f v R k=>?_)<|λD H2 hD Y j=>?_⟩
 ·obtain⟨t,i,rfl⟩:=ar.mp m;have g:=Ed.k (k:=Sum.inr t)<|v _ _<|A _ _ C
  rw[Z _ t (VJ<|e t i)] at g;exact⟨_,U,_,U,kd,_,U,g,k f<|Am.refl f⟩
 ·rw[bq.mpr (λ_ _=>rfl),ay] at j;have W:a.map (ixV b ∘ V.str)=nV (a.map λt=>b.idxOf t):=by
   unfold nV;rw[ay];rfl
  rw[W] at j;refine⟨D,_,U,j,by rw[af];omega,λn hn=>?_,λF J=>q F<|A.trans<|Y.trans J⟩;obtain⟨t,i,rfl⟩:=ar.mp hn;have:=gi<|e t i
  omega
abbrev aa:List Str:=["row_list","board_list","rank_list","knob_rows","board_numbers","rank_numbers","knob_numbers","key_places","pipe_places","knob_lines","step_sets"]
theorem Em:∀m∈meths,∀f∈aa,¬ m=f:=by decide
theorem Vo{rk:List (Str×Nat×Int)}{j:Nat->V->Prop}(h:∀(i:Nat) v,us[i]? = some v->(ρ v).w = "line"->j i v/\∃u∈us.take i,Il (ρ u).w=true):(linesOf rk<|us.map ρ).length=(us.filter<|λv=>Il (ρ v).w).length:=by
 have key:∀n,n<=us.length->(linesOf rk<|(us.take n).map ρ).length=((us.take n).filter<|λv=>Il (ρ v).w).length:=by
  intro n
  induction n with
  |zero=>intro _;rfl
  |succ n f =>
   intro k;have c:=ae (l:=us) (i:=n)<|by omega
   rw[cr,c,cq];show (linesOf rk<|(us.take n).map ρ++[ρ us[n]]).length=((us.take n++[us[n]]).filter _).length;rw[Dc,fE,ai,<-f (by omega)];unfold Dz;by_cases b:Il (ρ us[n]).w=true
   ·rw[if_pos b,fk,if_pos b];simp
   ·rw[if_neg b,fk,if_neg b];by_cases hl:(ρ us[n]).w = "line"
    ·rw[if_pos hl];obtain⟨_,u,g,d⟩:=h n _ c hl;obtain⟨a,z,e⟩:=FJ<|Qv (rk:=rk) ⟨ρ u,aE g,d⟩;rw[e,Iw];simp
    ·rw[if_neg hl];simp
 have:=key us.length<|al _
 rw[dt] at this;exact this
inductive fu(K:W.Frag)(aB aP aM C:Addr)(vs:List V)(H:Hp)(Q:VK)(b9:XK):Prop
 |mk(x dx p:Addr)(us:List V)(ρ:V->R)(bs:List (Str×Nat))(rk:List (Str×Nat×Int))(ks:List R):vs=[.ref x,.ref p]->H x=some (.ins C dx [])->H p=some (.lst us)->Rows H ρ us->zx K aB aP aM ρ us bs rk ks->(∀H',Hq C H' x us bs rk ks (linesOf rk (us.map ρ)) ((us.filter (pw ρ "step")).map λv=>stN ks<|ρ v)->(∀uj,SX p H' uj->Hq C uj x us bs rk ks (linesOf rk<|us.map ρ) ((us.filter<|pw ρ "step").map λv=>stN ks<|ρ v))->SX x H H'->Q .non H')->fu K aB aP aM C vs H Q b9
theorem xN:Av xk xk<|Af ZW:=Bg
include N T in
theorem qp:An P w K mg base Bb 9 aD.fOi aD.dOi xk<|fu K aB aP aM C:=by
 refine N.FOi.1.Dg xN λH vs Q E hr h=>?_;obtain⟨x,c,p,I,ρ,bs,rk,ks,rfl,M,hp,hR,O,q⟩:=h;refine⟨_,(Ae (Bw<|zC (p_ N T) hr U N.FCk<|Aa (pv 1) Ab)
  (Ae (DG (pv 0) (Cr Dn U T.list dL<|Aa (pv 1) Ab) U)
  (Ae (DG (pv 0) (Br U (Bf (osc:=Af ZW) (N:=xk) U U<|by decide) (Bl<|zC (Qc N T) hr U N.FRo<|Aa (pv 1)<|Aa BP Ab) (λ_ _ _ _=>Ci)<|λ_ _ _ _=>(CK<|Aa (Az (Ar (K:=K) U) (pv 0) Ac<|λ_ _=>rfl)<|Aa (Az (Ar (K:=K) U) (pv 0) Ac<|λ_ _=>rfl) Ab)) U)
  (Ae (DG (pv 0) (Br U (Bf (osc:=Af ZW) (N:=xk) U U<|by decide) (Bl<|zC (Qc N T) hr U N.FRo<|Aa (pv 1)<|Aa BP Ab) (λ_ _ _ _=>Ci)<|λ_ _ _ _=>(CK<|Aa (Az (Ar (K:=K) U) (pv 0) Ac<|λ_ _=>rfl)<|Aa (Az (Ar (K:=K) U) (pv 0) Ac<|λ_ _=>rfl)<|Aa (Az (Ar (K:=K) U) (pv 0) Ac<|λ_ _=>rfl) Ab)) U)
  (Ae (DG (pv 0) (Br U (Bf (osc:=Af ZW) (N:=xk) U U<|by decide) (Bl<|pv 1) (λ_ _ _ _=>(G9<|BR (Mq (K:=K) U) (Az (Ar (K:=K) U) (pv 0) Ac<|λ_ _=>rfl) (Cu (v:=.ref aK) U T.mK U) U))<|λ_ _ _ _=>(pv 0)) U)
  (Ae (DG (pv 0) (zC (uQ N T) hr U N.FNu<|Aa (Br U (Bf (osc:=Af ZW) (N:=xk) U U<|by decide) (Bl<|Bc (pv 0) U) (λ_ _ _ _=>Ci)<|λ_ _ _ _=>(Az (Ar (K:=K) U) (pv 0) Ac<|λ_ _=>rfl)) Ab) U)
  (Ae (DG (pv 0) (zC (uQ N T) hr U N.FNu<|Aa (Br U (Bf (osc:=Af ZW) (N:=xk) U U<|by decide) (Bl<|Bc (pv 0) U) (λ_ _ _ _=>Ci)<|λ_ _ _ _=>(Az (Ar (K:=K) U) (pv 0) Ac<|λ_ _=>rfl)) Ab) U)
  (Ae (DG (pv 0) (zC (uQ N T) hr U N.FNu<|Aa (Br U (Bf (osc:=Af ZW) (N:=xk) U U<|by decide) (Bl<|Bc (pv 0) U) (λ_ _ _ _=>Ci)<|λ_ _ _ _=>(Az (Ar (K:=K) U) (pv 0) Ac<|λ_ _=>rfl)) Ab) U)
  (Ae (DG (pv 0) (zC (qJ N T) hr U N.FPl<|Aa (Bc (pv 0) U) Ab) U)
  (Ae (DG (pv 0) (zC (qJ N T) hr U N.FPl<|Aa (Bc (pv 0) U) Ab) U)
  (Ae (DG (pv 0) (zC (oX N T) hr U N.FLi<|Aa (pv 1)<|Aa (Bc (pv 0) U) Ab) U)
  (Ag<|DG (pv 0) (Br U (Bf (osc:=Af ZW) (N:=xk) U U<|by decide) (Bl<|zC (Qc N T) hr U N.FRo<|Aa (pv 1)<|Aa BP Ab) (λ_ _ _ _=>Ci)<|λ_ _ _ _=>(zC (tO N T) hr U N.FSs<|Aa (pv 0)<|Aa (az (K:=K) U (pv 1) U) Ab)) U)))))))))))),?_⟩
 have d2:=O.len;obtain⟨ur,QE⟩:∃ur,I.filter (pw ρ "rank")=ur:=⟨_,U⟩;have er:ur.map ρ=rk.map Ft:=by rw[<-QE];exact O.er
 have lr:ur.length=rk.length:=by have:=congrArg List.length er;simpa using this
 have inR:∀{v},v∈ur->v∈I:=λ{v} D=>by rw[<-QE] at D;exact (bb.mp D).1
 have dH:∀{v},v∈ur->∃b∈rk,ρ v=Ft b:=λ{v} D=>by
  have:ρ v∈rk.map Ft:=by rw[<-er];exact aE D
  obtain⟨b,hb,e⟩:=ar.mp this;exact⟨b,hb,e.symm⟩
 obtain⟨ub,AC⟩:∃ub,I.filter (pw ρ "board")=ub:=⟨_,U⟩;obtain⟨uk,MH⟩:∃uk,I.filter (λv=>Il (ρ v).w)=uk:=⟨_,U⟩;have eb:ub.map ρ=bs.map Fd:=by rw[<-AC];exact O.eb
 have ek:uk.map ρ=ks:=by rw[<-MH];exact O.ek
 have lb:ub.length=bs.length:=by have:=congrArg List.length eb;simpa using this
 have ef:uk.length=ks.length:=by have:=congrArg List.length ek;simpa using this
 have cs:∀{v},v∈ub->v∈I:=λ{v} D=>by rw[<-AC] at D;exact (bb.mp D).1
 have a1:∀{v},v∈uk->v∈I:=λ{v} D=>by rw[<-MH] at D;exact (bb.mp D).1
 have cA:∀{v},v∈ub->∃b∈bs,ρ v=Fd b:=λ{v} D=>by
  have:ρ v∈bs.map Fd:=by rw[<-eb];exact aE D
  obtain⟨b,hb,e⟩:=ar.mp this;exact⟨b,hb,e.symm⟩
 have cn:1<=I.length:=by
  have h1:=O.b0;have h2:ub.length<=I.length:=by rw[<-AC];exact cc _ _
  omega
 refine⟨_,U,p,I,ρ,U,hp,hR,cn,by omega,O.ok,?_,λH1 s1=>?_⟩
 ·rw[AC]
  cases ub with
  |nil =>
   have:=O.b0;simp at lb;omega
  |cons a b=>rfl
 have c1:SX x H H1:=SX.of s1;have x1:=s1 _ _ M;refine⟨_,U,p,_,U,ma<|.inl<|s1 _ _ hp,λl1 b2=>?_⟩;have df:l1≠p:=Ne.symm<|Ai (s1 _ _ hp) b2
 obtain⟨H2,i5,s2,dK⟩:=Du (o:=HO.lst I) b2;rw[i5];refine⟨_,U,x,C,c,_,U,s2 _ _ x1,T.cl,T.n_row_list,(by show 0<1000;decide),?_⟩;have c2:SX x H _:=(c1.trans<|SX.of s2).trans<|SX.up (o:=HO.ins C c<|BV "row_list" (.ref l1) [])
 have x2:upd H2 x (HO.ins C c<|BV "row_list" (.ref l1) []) x=_:=Aj;have b7:=(SX.up (o:=HO.ins C c<|BV "row_list" (.ref l1) []):SX x H2 _).lst (s2 _ _ x1) dK;generalize upd H2 x (HO.ins C c (BV "row_list" (.ref l1) []))=H3 at c2 x2 b7 |-;have c0:=c2;replace hR:Rows H3 ρ I:=λv D=>c2.tup M<|hR v D
 replace hp:=c2.lst M hp;clear c2;replace M:=x2;have c2:SX x H3 H3:=SX.of<|Am.refl _
 have R3:Rows H3 ρ I:=λv D=>c2.tup M<|hR v D
 refine⟨_,U,p,_,"board",ρ,U,c2.lst M hp,R3,by omega,λD4 H4 ee s4 b4=>?_⟩;rw[AC] at b4;have ch:De K H4 D4 ub:=.inl<|.inl b4
 refine⟨D4,U,⟨_,ch⟩,Ld (K:=K) (xs:=ub) (λ_=>true) (λv=>[.str (ρ v).nm,(ρ v).rest.getD 0 .non]) ch (BJ (by have:=O.b5;omega)) (λy X s Z R k=>k s<|Am.refl s) (λy X _ s Z R k=>?_)<|λD5 H5 i6 OT s5 sw bL=>?_⟩
 ·obtain⟨b,_,e⟩:=cA X;have Y:=(R3 y<|cs X).mono<|s4.trans Z
  rw[e] at Y k;obtain⟨T0,rfl,Y⟩:=Y;exact⟨_,U,T0,_,_,_,U,U,ma Y,Ah (j:=1) U,_,U,T0,_,_,_,U,U,ma Y,Ah (j:=2) U,by show 2<=sizeLine;decide,λT6 tz=>k _ _ (BL tz) ⟨T6,U,Aj⟩⟩
 rw[bq.mpr (λ_ _=>rfl)] at bL;have cb:Paired (λb y=>TupAt H5 (bV b) y) bs i6:=by
  have h1:=Bx (F:=λ(r:R) y=>TupAt H5 [.str r.nm,r.rest.getD 0 .non] y) ρ bL;rw[eb] at h1;exact Gj Fd h1
 clear bL;refine⟨_,U,x,C,c,_,U,s5 _ _<|s4 _ _ x2,T.cl,T.n_board_list,Nat.lt_of_le_of_lt (CJ _ _ _) (by show 1<1000;decide),?_⟩;have u6:SX x H5 _:=SX.up (o:=HO.ins C c<|BV "board_list" (.ref D5) (BV "row_list" (.ref l1) []));have x5:=s5 _ _<|s4 _ _ x2
 have c6:=(c2.trans<|SX.of<|s4.trans s5).trans u6;have x6:upd H5 x (HO.ins C c<|BV "board_list" (.ref D5) (BV "row_list" (.ref l1) [])) x=_:=Aj;have EG:=u6.lst x5 sw;have Y':=u6.pair x5 cb;generalize upd H5 x (HO.ins C c (BV "board_list" (.ref D5) (BV "row_list" (.ref l1) [])))=H6 at c6 x6 EG Y' |-;clear u6;have R6:Rows H6 ρ I:=λv D=>c6.tup M<|hR v D
 refine⟨_,U,p,_,"rank",ρ,U,c6.lst M hp,R6,by omega,λD7 H7 d9 s7 Zl=>?_⟩;rw[QE] at Zl;have ca:De K H7 D7 ur:=.inl<|.inl Zl
 refine⟨D7,U,⟨_,ca⟩,Ld (K:=K) (xs:=ur) (λ_=>true) (λv=>[.str (ρ v).nm,(ρ v).rest.getD 0 .non,(ρ v).rest.getD 1 .non]) ca (BJ (by have:=O.nr;omega)) (λy X s Z R k=>k s<|Am.refl s) (λy X _ s Z R k=>?_)<|λD8 H8 md cZ s8 xp E1=>?_⟩
 ·obtain⟨b,_,e⟩:=dH X;have Y:=(R6 y<|inR X).mono<|s7.trans Z
  rw[e] at Y k;obtain⟨T0,rfl,Y⟩:=Y;exact⟨_,U,T0,_,_,_,U,U,ma Y,Ah (j:=1) U,_,U,T0,_,_,_,U,U,ma Y,Ah (j:=2) U,_,U,T0,_,_,_,U,U,ma Y,Ah (j:=3) U,by show 3<=sizeLine;decide,λT6 tz=>k _ _ (BL tz) ⟨T6,U,Aj⟩⟩
 rw[bq.mpr (λ_ _=>rfl)] at E1;have cl:Paired (λ(a:Th) y=>TupAt H8 (tV a) y) (rk.map YL) md:=by
  have h1:=Bx (F:=λ(r:R) y=>TupAt H8 [.str r.nm,r.rest.getD 0 .non,r.rest.getD 1 .non] y) ρ E1;rw[er] at h1;exact Bx (F:=λ(a:Th) y=>TupAt H8 (tV a) y) YL<|Gj Ft h1
 clear E1;refine⟨_,U,x,C,c,_,U,s8 _ _<|s7 _ _ x6,T.cl,T.n_rank_list,Nat.lt_of_le_of_lt (Nat.le_trans (CJ _ _ _)<|Nat.succ_le_succ<|CJ _ _ _) (by show 2<1000;decide),?_⟩;have Nc:=s7.trans s8;have x8:=Nc _ _ x6;have c8:=c6.trans<|SX.of Nc
 have RI:=Nc _ _ EG;have Lv:=Aq Nc Y';have u9:SX x H8 _:=SX.up (o:=HO.ins C c<|BV "rank_list" (.ref D8) (BV "board_list" (.ref D5) (BV "row_list" (.ref l1) [])));have x9:upd H8 x (HO.ins C c<|BV "rank_list" (.ref D8) (BV "board_list" (.ref D5) (BV "row_list" (.ref l1) []))) x=_:=Aj;have c9:=c8.trans u9;have Pt:=u9.lst x8 RI;have TH:=u9.pair x8 Lv;have PM:=u9.lst x8 xp;have QU:=u9.pair x8 cl;generalize aw:BV "rank_list" (.ref D8) (BV "board_list" (.ref D5) (BV "row_list" (.ref l1) []))=f9 at x9 c9 Pt TH PM QU u9 |-;generalize upd H8 x (HO.ins C c f9)=H9 at x9 c9 Pt TH PM QU |-;have n9:f9.length<=3:=by rw[<-aw];exact be (CJ _ _ _)<|eD<|be (CJ _ _ _)<|eD<|CJ _ _ _
 have co:f9.lookup ("board_list" : Str)=some (.ref D5):=by rw[<-aw,Al,if_neg<|by decide,Al,if_pos U]
 have cK:f9.lookup ("row_list" : Str)=some (.ref l1):=by rw[<-aw,Al,if_neg<|by decide,Al,if_neg<|by decide,Al,if_pos U]
 have ck:f9.lookup ("rank_list" : Str)=some (.ref D8):=by rw[<-aw,Al,if_pos U]
 have cE:∀m∈meths,f9.lookup m=none:=λm hm=>by
  rw[<-aw,Al,if_neg<|Em m hm _<|by decide,Al,if_neg<|Em m hm _<|by decide,Al,if_neg<|Em m hm _<|by decide];rfl
 clear u9 aw;have R9:Rows H9 ρ I:=λv D=>c9.tup M<|hR v D
 have b3:De K H9 p I:=.inl<|.inl<|c9.lst M hp
 refine⟨_,U,p,U,⟨_,b3⟩,DW (K:=K) (xs:=I) (λv=>Il (ρ v).w) id b3 (BJ<|by omega) (λy X s Z R k=>?_) (λy X _ s Z R k=>⟨_,U,k s<|Am.refl s⟩)<|λuu qB XA as a8=>?_⟩
 ·obtain⟨T0,rfl,Y⟩:=(R9.mono Z) y X;exact⟨_,U,T0,_,_,_,U,U,ma Y,Ah (j:=0) U,aK,_,U,.inr<|T.tK.sq _,U,U,_,U,k s<|Am.refl s⟩
 rw[ki,MH] at a8;refine⟨_,U,x,C,c,_,U,as _ _ x9,T.cl,T.n_knob_rows,by omega,?_⟩;have KA:=as _ _ x9;have ap:SX x qB _:=SX.up (o:=HO.ins C c<|BV "knob_rows" (.ref uu) f9);have bK:upd qB x (HO.ins C c<|BV "knob_rows" (.ref uu) f9) x=_:=Aj;have b0:=(c9.trans<|SX.of as).trans ap;have CS:=ap.lst KA<|as _ _ Pt
 have wm:=ap.pair KA<|Aq as TH
 have MB:=ap.lst KA<|as _ _ PM
 have FS:=ap.pair KA<|Aq as QU
 have KI:=ap.lst KA a8;generalize upd qB x (HO.ins C c (BV "knob_rows" (.ref uu) f9))=A9 at bK b0 CS wm MB FS KI |-;clear ap;have N0:=wm.length;have a3:De K A9 D5 i6:=.inl<|.inl CS
 refine⟨_,U,x,C,c,_,_,U,bK,T.cl,T.n_board_list,by rw[Al,if_neg<|by decide];exact co,D5,U,⟨_,a3⟩,DW (K:=K) (xs:=i6) (λ_=>true) (Vq A9 0) a3 (BJ (by have:=O.b5;omega)) (λy X s Z R k=>k s<|Am.refl s) (λy X _ s Z R k=>?_)<|λdm qa d8 dp rf=>?_⟩
 ·obtain⟨b,_,aC⟩:=Dl wm X;have e:=J4 aC 0;obtain⟨T0,rfl,Y⟩:=aC.mono Z;refine⟨_,U,T0,_,_,_,U,U,ma Y,Ah (j:=0) U,?_⟩;have:=k s<|Am.refl s
  rw[e] at this;exact this
 rw[bq.mpr (λ_ _=>rfl),K7 0 wm] at rf;have dz:(bs.map λb=>(bV b).getD 0 V.non)=(bs.map (·.1)).map V.str:=by
  rw[ay];rfl
 rw[dz] at rf;refine⟨dm,_,U,rf,by rw[af];have:=O.b5;omega,O.nb,λyi cg CB dV dD SZ TZ Ya=>?_⟩;have oS:=dp.trans dD;have BS:=oS _ _ bK;refine⟨_,U,x,C,c,_,U,BS,T.cl,T.n_board_numbers,aT (CJ _ _ _)<|by omega,?_⟩;have an:SX x CB _:=SX.up (o:=HO.ins C c<|BV "board_numbers" (.ref yi) (BV "knob_rows" (.ref uu) f9));have a9:upd CB x (HO.ins C c<|BV "board_numbers" (.ref yi) (BV "knob_rows" (.ref uu) f9)) x=_:=Aj;have b6:=(b0.trans<|SX.of oS).trans an;have LX:=an.lst BS<|oS _ _ CS
 have LL:=an.pair BS<|Aq oS wm
 have EI:=an.lst BS<|oS _ _ MB
 have wP:=an.pair BS<|Aq oS FS
 have JY:=an.lst BS<|oS _ _ KI
 have LY:=an.dk BS SZ;generalize upd CB x (HO.ins C c (BV "board_numbers" (.ref yi) (BV "knob_rows" (.ref uu) f9)))=bS at a9 b6 LX LL EI wP JY LY |-;clear an;have c4:=wP.length;rw[af] at c4;have a2:De K bS D8 md:=.inl<|.inl EI
 refine⟨_,U,x,C,c,_,_,U,a9,T.cl,T.n_rank_list,by rw[Al,if_neg<|by decide,Al,if_neg<|by decide];exact ck,D8,U,⟨_,a2⟩,DW (K:=K) (xs:=md) (λ_=>true) (Vq bS 0) a2 (BJ (by have:=O.nr;omega)) (λy X s Z R k=>k s<|Am.refl s) (λy X _ s Z R k=>?_)<|λdr On d6 ES CM=>?_⟩
 ·obtain⟨b,_,aC⟩:=Dl wP X;have e:=J4 aC 0;obtain⟨T0,rfl,Y⟩:=aC.mono Z;refine⟨_,U,T0,_,_,_,U,U,ma Y,Ah (j:=0) U,?_⟩;have:=k s<|Am.refl s
  rw[e] at this;exact this
 rw[bq.mpr (λ_ _=>rfl),K7 0 wP] at CM;have dy:((rk.map YL).map λb=>(tV b).getD 0 V.non)=(rk.map (·.1)).map V.str:=by
  rw[ay,ay];rfl
 rw[dy] at CM;refine⟨dr,_,U,CM,by rw[af];have:=O.nr;omega,O.nrr,λE3 AD LA d5 AM XY HP d3=>?_⟩;have om:=ES.trans AM;have AH:=om _ _ a9;refine⟨_,U,x,C,c,_,U,AH,T.cl,T.n_rank_numbers,aT (be (CJ _ _ _)<|eD<|CJ _ _ _)<|by omega,?_⟩;have ab:SX x LA _:=SX.up (o:=HO.ins C c<|BV "rank_numbers" (.ref E3) (BV "board_numbers" (.ref yi) (BV "knob_rows" (.ref uu) f9)));have a0:upd LA x (HO.ins C c<|BV "rank_numbers" (.ref E3) (BV "board_numbers" (.ref yi) (BV "knob_rows" (.ref uu) f9))) x=_:=Aj;have ND:=(b6.trans<|SX.of om).trans ab;have A6:=ab.lst AH<|om _ _ LX
 have B':=ab.pair AH<|Aq om LL
 have EJ:=ab.lst AH<|om _ _ EI
 have A2:=ab.pair AH<|Aq om wP
 have zn:=ab.lst AH<|om _ _ JY
 have AX:=ab.dk AH<|om _ _ LY
 have EE:=ab.dk AH XY;generalize G:BV "rank_numbers" (.ref E3) (BV "board_numbers" (.ref yi) (BV "knob_rows" (.ref uu) f9))=g at a0 ND A6 B' EJ A2 zn AX EE ab |-;generalize upd LA x (HO.ins C c g)=SE at a0 ND A6 B' EJ A2 zn AX EE |-;have cB:g.length<=6:=by rw[<-G];exact be (CJ _ _ _)<|eD<|be (CJ _ _ _)<|eD<|be (CJ _ _ _)<|eD n9
 have a7:g.lookup ("board_list" : Str)=some (.ref D5):=by rw[<-G,Al,if_neg<|by decide,Al,if_neg<|by decide,Al,if_neg<|by decide];exact co
 have b1:g.lookup ("row_list" : Str)=some (.ref l1):=by rw[<-G,Al,if_neg<|by decide,Al,if_neg<|by decide,Al,if_neg<|by decide];exact cK
 have a4:g.lookup ("rank_list" : Str)=some (.ref D8):=by rw[<-G,Al,if_neg<|by decide,Al,if_neg<|by decide,Al,if_neg<|by decide];exact ck
 have bn:g.lookup ("rank_numbers" : Str)=some (.ref E3):=by rw[<-G,Al,if_pos U]
 have bB:g.lookup ("board_numbers" : Str)=some (.ref yi):=by rw[<-G,Al,if_neg<|by decide,Al,if_pos U]
 have aQ:g.lookup ("knob_rows" : Str)=some (.ref uu):=by rw[<-G,Al,if_neg<|by decide,Al,if_neg<|by decide,Al,if_pos U]
 have cd:∀m∈meths,g.lookup m=none:=λm hm=>by
  rw[<-G,Al,if_neg<|Em m hm _<|by decide,Al,if_neg<|Em m hm _<|by decide,Al,if_neg<|Em m hm _<|by decide];exact cE m hm
 clear ab G;have a6:De K SE uu uk:=.inl<|.inl zn
 have ct:Rows SE ρ I:=λv D=>ND.tup M<|hR v D
 refine⟨_,U,x,C,c,_,_,U,a0,T.cl,T.n_knob_rows,aQ,uu,U,⟨_,a6⟩,DW (K:=K) (xs:=uk) (λ_=>true) (λv=>.str (ρ v).nm) a6 (BJ (by have:=O.nk;omega)) (λy X s Z R k=>k s<|Am.refl s) (λy X _ s Z R k=>?_)<|λcO eg dT cH EA=>?_⟩
 ·obtain⟨T0,rfl,Y⟩:=(ct.mono Z) y<|a1 X;exact⟨_,U,T0,_,_,_,U,U,ma Y,Ah (j:=1) U,k s<|Am.refl s⟩
 rw[bq.mpr (λ_ _=>rfl)] at EA;have dP:(uk.map λv=>V.str (ρ v).nm)=(ks.map (·.nm)).map V.str:=by
  rw[<-ek,ay,ay];rfl
 rw[dP] at EA;refine⟨cO,_,U,EA,by rw[af];have:=O.nk;omega,O.nn,λvv zt W' d4 cS Pc Mo QP=>?_⟩;have ng:=cH.trans cS;have xS:=ng _ _ a0;refine⟨_,U,x,C,c,_,U,xS,T.cl,T.n_knob_numbers,by omega,?_⟩;have ac:SX x W' _:=SX.up (o:=HO.ins C c<|BV "knob_numbers" (.ref vv) g);have bv:upd W' x (HO.ins C c<|BV "knob_numbers" (.ref vv) g) x=_:=Aj;have WZ:=(ND.trans<|SX.of ng).trans ac;have EF:=ac.lst xS<|ng _ _ A6
 have EV:=ac.pair xS<|Aq ng B'
 have GE:=ac.lst xS<|ng _ _ EJ
 have LJ:=ac.pair xS<|Aq ng A2
 have GN:=ac.lst xS<|ng _ _ zn
 have L9:=ac.dk xS Pc;have KO:=ac.dk xS<|ng _ _ AX
 have HI:=ac.dk xS<|ng _ _ EE
 generalize upd W' x (HO.ins C c (BV "knob_numbers" (.ref vv) g))=cP at bv WZ EF EV GE LJ GN KO HI L9 |-;clear ac;refine⟨_,U,x,C,c,_,_,U,bv,T.cl,T.n_board_list,by rw[Al,if_neg<|by decide];exact a7,D5,bs.map m6,i6,U,EF,Bx (F:=λ(a:Th) y=>TupAt cP (tV a) y) m6 EV,(by rw[List.length_map];have:=O.b5;omega),(λa ha=>by obtain⟨b,hb,rfl⟩:=List.mem_map.mp ha;have:=O.sz b hb;show b.2<=97;omega),λzh na WO Si xt Pd F4=>?_⟩;have dd:(bs.map m6).map tN=bs:=by
  rw[ay];exact ki bs
 rw[dd] at F4;have wq:=xt _ _ bv;refine⟨_,U,x,C,c,_,U,wq,T.cl,T.n_key_places,aT (CJ _ _ _)<|by omega,?_⟩;have L:SX x WO _:=SX.up (o:=HO.ins C c<|BV "key_places" (.ref zh) (BV "knob_numbers" (.ref vv) g));have bd:upd WO x (HO.ins C c<|BV "key_places" (.ref zh) (BV "knob_numbers" (.ref vv) g)) x=_:=Aj;have UI:=(WZ.trans<|SX.of xt).trans L;have ID:=L.lst wq<|xt _ _ EF
 have Go:=L.pair wq<|Aq xt EV
 have Da:=L.lst wq<|xt _ _ GE
 have DF:=L.pair wq<|Aq xt LJ
 have IM:=L.lst wq<|xt _ _ GN
 have Ix:=L.dk wq<|xt _ _ L9
 have KW:=L.dk wq<|xt _ _ KO
 have Ki:=L.dk wq<|xt _ _ HI
 have F7:=L.lst wq Pd;have HA:=L.pair wq F4;generalize upd WO x (HO.ins C c (BV "key_places" (.ref zh) (BV "knob_numbers" (.ref vv) g)))=ea at bd UI ID Go Da DF IM KW Ki F7 HA Ix |-;clear L;refine⟨_,U,x,C,c,_,_,U,bd,T.cl,T.n_rank_list,by rw[Al,if_neg<|by decide,Al,if_neg<|by decide];exact a4,D8,rk.map YL,md,U,Da,DF,by rw[af];exact O.nr,(λa ha=>by obtain⟨r,hr,rfl⟩:=ar.mp ha;exact O.nz r hr),λFc FB XV P4 wa SH GL=>?_⟩;have dQ:(rk.map YL).map tN=rk.map gf:=by
  rw[ay];rfl
 rw[dQ] at GL;have vi:=wa _ _ bd;refine⟨_,U,x,C,c,_,U,vi,T.cl,T.n_pipe_places,aT (be (CJ _ _ _)<|eD<|CJ _ _ _)<|by omega,?_⟩;have A:SX x XV _:=SX.up (o:=HO.ins C c<|BV "pipe_places" (.ref Fc) (BV "key_places" (.ref zh) (BV "knob_numbers" (.ref vv) g)));have aZ:upd XV x (HO.ins C c<|BV "pipe_places" (.ref Fc) (BV "key_places" (.ref zh) (BV "knob_numbers" (.ref vv) g))) x=_:=Aj;have MG:=(UI.trans<|SX.of wa).trans A;have A4:=A.lst vi<|wa _ _ ID
 have B7:=A.pair vi<|Aq wa Go
 have CI:=A.lst vi<|wa _ _ IM
 have DE:=A.lst vi<|wa _ _ Da
 have DO:=A.pair vi<|Aq wa DF
 have CD:=A.lst vi SH;have Cb:=A.pair vi GL;have EK:=A.dk vi<|wa _ _ Ix
 have DM:=A.dk vi<|wa _ _ KW
 have yA:=A.dk vi<|wa _ _ Ki
 have DT:=A.lst vi<|wa _ _ F7
 have B6:=A.pair vi<|Aq wa HA
 generalize S:BV "pipe_places" (.ref Fc) (BV "key_places" (.ref zh) (BV "knob_numbers" (.ref vv) g))=J at aZ MG A4 B7 CI DE DO CD Cb DM yA DT B6 A EK |-;generalize upd XV x (HO.ins C c J)=c3 at aZ MG A4 B7 CI DE DO CD Cb DM yA DT B6 EK |-;have ec:J.length<=9:=by rw[<-S];exact be (CJ _ _ _)<|eD<|be (CJ _ _ _)<|eD<|be (CJ _ _ _)<|eD cB
 have B:∀{f:Str}{v:V},¬ f = "pipe_places"->¬ f = "key_places"->¬ f = "knob_numbers"->g.lookup f=some v->J.lookup f=some v:=λh1 h2 h3 h=>by
  rw[<-S,Al,if_neg h1,Al,if_neg h2,Al,if_neg h3];exact h
 have Xs:=B (by decide) (by decide) (by decide) a7;have AN:=B (by decide) (by decide) (by decide) bB;have So:=B (by decide) (by decide) (by decide) b1;have aN:J.lookup ("knob_numbers" : Str)=some (.ref vv):=by rw[<-S,Al,if_neg<|by decide,Al,if_neg<|by decide,Al,if_pos U]
 have To:=B (by decide) (by decide) (by decide) a4;have bm:J.lookup ("pipe_places" : Str)=some (.ref Fc):=by rw[<-S,Al,if_pos U]
 have zS:=B (by decide) (by decide) (by decide) bn;have F5:=B (by decide) (by decide) (by decide) aQ;have bN:J.lookup ("key_places" : Str)=some (.ref zh):=by rw[<-S,Al,if_neg<|by decide,Al,if_pos U]
 have b9:∀m∈meths,J.lookup m=none:=λm hm=>by
  rw[<-S,Al,if_neg<|Em m hm _<|by decide,Al,if_neg<|Em m hm _<|by decide,Al,if_neg<|Em m hm _<|by decide];exact cd m hm
 clear A S B;have cx:Rows c3 ρ I:=λv D=>MG.tup M<|hR v D
 refine⟨_,U,_,U,x,C,c,_,_,U,aZ,T.cl,T.n_rank_numbers,zS,p,E3,I,ρ,rk,AD,U,MG.lst M hp,cx,by omega,yA,λi r hr=>HP i r.1<|by rw[am,hr];rfl,O.nrr,O.ln,λFM TC d1 uS OB=>?_⟩;have tP:=uS _ _ aZ;refine⟨_,U,x,C,c,_,U,tP,T.cl,T.n_knob_lines,by omega,?_⟩;have u:SX x TC _:=SX.up (o:=HO.ins C c<|BV "knob_lines" (.ref FM) J);have bP:upd TC x (HO.ins C c<|BV "knob_lines" (.ref FM) J) x=_:=Aj;have EC:=(MG.trans<|SX.of uS).trans u;have LS:=u.lst tP<|uS _ _ A4
 have LZ:=u.pair tP<|Aq uS B7
 have Iy:=u.lst tP<|uS _ _ CI
 have LO:=u.lst tP<|uS _ _ DE
 have Mc:=u.pair tP<|Aq uS DO
 have ME:=u.lst tP<|uS _ _ CD
 have LP:=u.pair tP<|Aq uS Cb
 have Lc:=OB.sx u tP;have EM:=u.dk tP<|uS _ _ EK
 have BO:=u.dk tP<|uS _ _ DM
 have F9:=u.dk tP<|uS _ _ yA
 have IY:=u.lst tP<|uS _ _ DT
 have IL:=u.pair tP<|Aq uS B6
 generalize upd TC x (HO.ins C c (BV "knob_lines" (.ref FM) J))=dv at bP EC LS LZ Iy LO Mc ME LP Lc BO F9 IY IL EM |-;clear u;have bl:Rows dv ρ I:=λv D=>EC.tup M<|hR v D
 refine⟨_,U,p,_,"step",ρ,U,EC.lst M hp,bl,by omega,λZB cv d0 L' UU=>?_⟩;have R':=L' _ _ EM;have ds:=L' _ _ bP;have a5:De K cv ZB<|I.filter<|pw ρ "step":=.inl<|.inl UU
 have ed:(I.filter<|pw ρ "step").length<=I.length:=cc _ _;refine⟨ZB,U,⟨_,a5⟩,DW (K:=K) (xs:=I.filter<|pw ρ "step") (λ_=>true) (λv=>.int (stN ks (ρ v):Nat)) a5 (BJ<|by omega) (λy X s Z R k=>k s<|Am.refl s) (λy X _ s Z R k=>?_)<|λMZ b5 XI cp Ee=>?_⟩
 ·obtain⟨bR,de⟩:=bb.mp X;obtain⟨ts,ya,dM,cD⟩:=O.st y bR<|V.str.inj<|of_decide_eq_true de;obtain⟨T0,rfl,Y⟩:=((bl.mono L').mono Z) y bR;refine⟨_,U,_,U,x,C,c,_,_,U,Z _ _ ds,T.cl,T.n_knob_numbers,by rw[Al,if_neg<|by decide];exact aN,T0,vv,ρ<|.ref T0,zt,ks.map (·.nm),ts,U,Y,Z _ _ R',ya,dM,(by rw[af];have:=O.nk;omega),Mo,cD,λH3 s3=>?_⟩;have e:Wd.mk (ts.map λt=>(ks.map (·.nm)).idxOf t)=stN ks (ρ<|.ref T0):=by unfold stN;rw[KC ya]
  rw[e];exact k H3 s3
 rw[bq.mpr (λ_ _=>rfl)] at Ee;have i8:=L'.trans cp;have rg:=i8 _ _ bP;refine⟨_,U,x,C,c,_,U,rg,T.cl,T.n_step_sets,aT (CJ _ _ _)<|by omega,?_⟩;have d:SX x b5 _:=SX.up (o:=HO.ins C c<|BV "step_sets" (.ref MZ) (BV "knob_lines" (.ref FM) J));have W:∀{f:Str},¬ f = "step_sets"->¬ f = "knob_lines"->(BV "step_sets" (.ref MZ) (BV "knob_lines" (.ref FM) J)).lookup f=J.lookup f:=λh1 h2=>by rw[Al,if_neg h1,Al,if_neg h2]
 have es:((I.filter<|pw ρ "step").map λv=>V.int (stN ks (ρ v):Nat))=(((I.filter<|pw ρ "step").map λv=>stN ks<|ρ v).map λn:Nat=>V.int (n:Int)):=by rw[ay];rfl
 rw[es] at Ee;have xz:=d.lst rg<|i8 _ _<|EC.lst M hp
 have nx:x≠p:=λz=>by rw[z,hp] at M;cases M
 have n5:D5≠p:=Ne.symm<|Ai (s4 _ _ hp) OT
 have n8:D8≠p:=Ne.symm<|Ai (s7 _ _<|c6.lst M hp) cZ
 have da:uu≠p:=Ne.symm<|Ai (c9.lst M hp) XA
 have dB:zh≠p:=Ne.symm<|Ai (WZ.lst M hp) Si
 have cY:Fc≠p:=Ne.symm<|Ai (UI.lst M hp) P4
 have c5:MZ≠p:=Ne.symm<|Ai (L' _ _<|EC.lst M hp) XI
 suffices key:∀uj,SX p (upd b5 x _) uj->Hq C uj x I bs rk ks (linesOf rk<|I.map ρ) ((I.filter<|pw ρ "step").map λv=>stN ks<|ρ v) from q _ (key _ SX.refl) key  (c0.trans<|(EC.trans<|SX.of i8).trans d)
 intro uj sp;refine⟨⟨⟨⟨c,_,D5,yi,zh,uu,i6,na,uk,cg,sp _ _ Aj nx,(W (by decide)<|by decide).trans Xs,(W (by decide)<|by decide).trans AN,(W (by decide)<|by decide).trans bN,(W (by decide)<|by decide).trans F5,
  λm hm=>(W (Em m hm _<|by decide)<|Em m hm _<|by decide).trans<|b9 m hm,sp _ _ (d.lst rg<|i8 _ _ LS) n5,JZ sp xz<|d.pair rg<|Aq i8 LZ,Us sp xz<|d.dk rg<|i8 _ _ BO,λi b hb=>TZ i b.1<|by rw[am,hb];rfl,sp _ _ (d.lst rg<|i8 _ _ IY) dB,JZ sp xz<|d.pair rg<|Aq i8 IL,sp _ _ (d.lst rg<|i8 _ _ Iy) da,?_⟩,O.b5,O.sz,by have:=O.nk;omega⟩,⟨c,_,D8,E3,Fc,FM,md,FB,AD,sp _ _ Aj nx,(W (by decide)<|by decide).trans To,(W (by decide)<|by decide).trans zS,(W (by decide)<|by decide).trans bm,by rw[Al,if_neg<|by decide,Al,if_pos U],sp _ _ (d.lst rg<|i8 _ _ LO) n8,JZ sp xz<|d.pair rg<|Aq i8 Mc,Us sp xz<|d.dk rg<|i8 _ _ F9,λi r hr=>HP i r.1<|by rw[am,hr];rfl,sp _ _ (d.lst rg<|i8 _ _ ME) cY,JZ sp xz<|d.pair rg<|Aq i8 LP,((Lc.mono i8).sx d rg).sp sp xz⟩,O.nr,O.nz,?_⟩,c,_,l1,vv,MZ,zt,sp _ _ Aj nx,(W (by decide)<|by decide).trans So,(W (by decide)<|by decide).trans aN,by rw[Al,if_pos U],sp _ _ (d.lst rg<|i8 _ _<|EC.lst M b7) df,Us sp xz<|d.dk rg<|i8 _ _ EM,Mo,QP,sp _ _ (d.lst rg Ee) c5,yi,cg,(W (by decide)<|by decide).trans AN,Us sp xz<|d.dk rg<|i8 _ _ BO,Ya⟩
 case refine_2=>rw[Vo O.ln,<-ek,af,MH]
 rw[<-ek];refine Bx (F:=λ(r:R) y=>TupAt _ r.v y) ρ ?_;have bW:Rows _ ρ uk:=λv D=>XJ sp xz<|d.tup rg<|(bl.mono i8) v<|a1 D
 generalize uj=b8 at bW |-;have key:∀l:List V,(∀v∈l,TupAt b8 (ρ v).v v)->Paired (λv y=>TupAt b8 (ρ v).v y) l l:=by
  intro l
  induction l with
  |nil=>intro _;exact .nil
  |cons a b ih=>intro h;exact .cons (h a<|bg ..)<|ih λv D=>h v<|ba _ D
 exact key uk bW
inductive Rz(C:Addr)(vs:List V)(H:Hp)(Q:VK)(b9:XK):Prop
 |mk(x:Addr)(bs:List (Str×Nat))(ks:List R):vs=[.ref x]->Dw C H x bs ks->(∀D i6 H',H D=none->Am H H'->H' D=some (.lst i6)->Paired (λb y=>TupAt H' (bV b) y) bs i6->Q (.ref D) H')->Rz C vs H Q b9
theorem wJ:Av sT sT<|Af zm:=Bg
include N T in
theorem Qy:An P w K mg base Bb 1 aD.fOb aD.dOb sT<|Rz C:=by
 refine N.FOb.1.Dg wJ λH s Q E j h=>?_;obtain⟨x,bs,I,rfl,O,q⟩:=h;refine⟨_,Ag<|Ax<|Cr Dn U T.list dL<|Aa (Bc (pv 0) U) Ab,?_⟩;obtain⟨⟨d,fs,f,y,m,o,a,v,n,b,c,e,F,B,G,A,g,i,u,D,r,L,J,k⟩,p,z,t⟩:=id O;exact⟨_,U,x,C,d,_,_,U,c,T.cl,T.n_board_list,e,f,a,U,ma<|.inl g,λl hl=>q l a _ hl (BL hl) Aj<|Aq (BL hl) i⟩
inductive aX(C:Addr)(vs:List V)(H:Hp)(Q:VK)(b9:XK):Prop
 | mk(x:Addr)(bs:List (Str×Nat))(ks:List R):vs=[.ref x]->Dw C H x bs ks->Q (.int ((Ew bs).length:Nat)) H->aX C vs H Q b9
theorem wB:Av sT sT<|Af xQ:=Bg
include N T in
theorem fO:An P w K mg base Bb 1 aD.fOc aD.dOc sT<|aX C:=by
 refine N.FOc.1.Dg wB λH o Q E j h=>?_;obtain⟨x,bs,B,rfl,O,q⟩:=h;refine⟨_,Ag<|Ax<|BK BW U T.len bo<|Aa (Bc (pv 0) U) Ab,?_⟩;obtain⟨⟨f,fs,D,s,a,m,J,e,l,c,d,v,z,g,A,u,F,I,r,y,b,i,G,k⟩,n,t,p⟩:=id O;refine⟨_,U,x,C,f,_,_,U,d,T.cl,T.n_key_places,g,a,e,U,ma<|.inl b,?_⟩;rw[<-i.length];exact q
inductive VN(C:Addr)(vs:List V)(H:Hp)(Q:VK)(b9:XK):Prop
 | mk(x:Addr)(bs:List (Str×Nat))(ks:List R)(j:Nat)(b:Str×Nat)(n:Int):vs=[.ref x,.str b.1,.int n]->Dw C H x bs ks->bs[j]? = some b->(∀H',Am H H'->Q (.int ((((bs.take j).map (·.2)).sum:Nat)+n)) H')->VN C vs H Q b9
theorem xr:Av z8 z8<|Af yp:=Bg
include N T in
theorem Uu:An P w K mg base Bb 2 aD.fOk aD.dOk z8<|VN C:=by
 refine N.FOk.1.Dg xr λH vs Q E m h=>?_;obtain⟨x,bs,ks,j,b,n,rfl,O,s,q⟩:=h;have G:=CG m;refine⟨_,Ag<|Ax<|BZ CQ (zC (dq N T) m U N.FCa<|Aa (Ep Jc (Bc (pv 0) U) Ge<|Ex<|Ey G (Bc (pv 0) U) (pv 1)<|λ_ _=>rfl) Ab)<|pv 2,?_⟩;obtain⟨⟨r,fs,W,J,Z,kr,c,na,oq,A,p,M,S,l3,l4,lm,X,t,B,R,h6,h7,h8,Y⟩,sP,L,tf⟩:=id O;have hj:j<bs.length:=(ag.mp s).1;have hl:=t.length;have g:=Ed.k (k:=Sum.inr b.1) B;rw[R j b s] at g;refine⟨_,U,x,C,r,_,_,U,p,T.cl,T.n_board_list,M,_,U,x,C,r,_,_,U,p,T.cl,T.n_board_numbers,S,_,U,J,_,U,g,_,U,W,c,U,ma X,λd e=>?_⟩;have f:=BL (o:=HO.lst<|Er c none<|some (j:Int)) e;have i:upd H d (HO.lst<|Er c none<|some (j:Int)) d=_:=Aj;generalize upd H d (HO.lst (Er c none (some (j:Int))))=u at f i |-;rw[Jq c j (by omega)] at i;refine⟨d,(bs.take j).map m6,c.take j,U,i,Bx (F:=λ(a:Th) y=>TupAt u (tV a) y) m6<|Ko (Aq f t) j,by rw[List.length_map,List.length_take];omega,(λa I=>by obtain⟨D,l,rfl⟩:=List.mem_map.mp I;exact Nat.le_trans (L D<|List.mem_of_mem_take l)<|by show 61<=100;decide),λz v=>?_⟩;have V:((bs.take j).map m6).map (λa=>a.2.1)=(bs.take j).map (·.2):=by
  rw[ay];rfl
 rw[V];exact⟨_,U,_,_,U,U,q z<|f.trans v⟩
inductive Vs(C:Addr)(vs:List V)(H:Hp)(Q:VK)(b9:XK):Prop
 | mk(x:Addr)(bs:List (Str×Nat))(ks:List R)(i:Nat)(qd:Nat×Nat):vs=[.ref x,.int (i:Nat)]->Dw C H x bs ks->(Ew bs)[i]? = some qd->(∀y,TupAt H (qV qd) y->Q y H)->Vs C vs H Q b9
theorem wM:Av wh wh<|Af wF:=Bg
include N T in
theorem Tg:An P w K mg base Bb 1 aD.fOo aD.dOo wh<|Vs C:=by
 refine N.FOo.1.Dg wM λH t Q E n h=>?_;obtain⟨x,bs,L,i,z,rfl,O,f,q⟩:=h;refine⟨_,Ag<|Ax<|Az Ei (Bc (pv 0) U) (pv 1)<|λ_ _=>rfl,?_⟩;obtain⟨⟨k,fs,M,A,a,r,W,j,p,e,g,F,I,l,J,D,R,V,v,G,c,m,S,o⟩,s,B,u⟩:=id O;obtain⟨y,d,b⟩:=B_ m f;exact⟨_,U,x,C,k,_,_,U,g,T.cl,T.n_key_places,l,_,U,a,j,_,_,U,U,ma c,Ah d,q y b⟩
inductive jL(C:Addr)(vs:List V)(H:Hp)(Q:VK)(b9:XK):Prop
 | mk(x:Addr)(bs:List (Str×Nat))(ks:List R)(k j1 j2:Nat)(b1 b2:Str×Nat)(nm:Str)(s:Int):vs=[.ref x,.int (k:Nat)]->Dw C H x bs ks->ks[k]? = some ⟨"coupler",nm,[.str b1.1,.str b2.1,.int s]⟩->bs[j1]? = some b1->bs[j2]? = some b2->(∀y H',Am H H'->TupAt H' [.int (j1:Nat),.int (j2:Nat),.int s] y->Q y H')->jL C vs H Q b9
inductive Q6(C:Addr)(vs:List V)(H:Hp)(Q:VK)(b9:XK):Prop
 | mk(x:Addr)(bs:List (Str×Nat))(ks:List R)(k j1:Nat)(b1:Str×Nat)(wd nm:Str)(rs:List V):vs=[.ref x,.int (k:Nat)]->Dw C H x bs ks->ks[k]? = some ⟨wd,nm,.str b1.1::rs⟩->bs[j1]? = some b1->Q (.int (j1:Nat)) H->Q6 C vs H Q b9
theorem zY:Av vb vb<|Af sBk:=Bg
include N T in
theorem UW:An P w K mg base Bb 1 aD.fBk aD.dBk vb<|Q6 C:=by
 refine N.FBk.1.Dg zY λH J Q E f h=>?_;obtain⟨x,bs,Y,k,A,b,wd,nm,R,rfl,O,B,a,q⟩:=h;have r:=CG f;refine⟨_,Ag<|Ax<|Ey r (Bc (pv 0) U) (Az (Ar (K:=K) U) (Az Ei (Bc (pv 0) U) (pv 1)<|λ_ _=>rfl) Ac<|λ_ _=>rfl)<|λ_ _=>rfl,?_⟩;obtain⟨⟨e,fs,Z,s,F,m,i6,M,i,o,d,X,v,W,z,V,h2,h3,p,u,I,h7,D,g⟩,G,S,L⟩:=id O;obtain⟨y,n,t,rfl,l⟩:=B_ g B;have c:=Ed.k (k:=Sum.inr b.1) p;rw[u A b a] at c;exact⟨_,U,x,C,e,_,_,U,d,T.cl,T.n_board_numbers,v,_,U,x,C,e,_,_,U,d,T.cl,T.n_knob_rows,z,_,U,m,i,_,_,U,U,ma D,Ah n,t,_,_,_,U,U,ma l,Ah (j:=2) U,s,_,U,c,q⟩
theorem o8:Av ["self","knob","row"] vb (Af xW):=Bg
include N T in
theorem sS:An P w K mg base Bb 2 aD.fOp aD.dOp vb<|jL C:=by
 refine N.FOp.1.Dg o8 λH Z Q E f h=>?_;obtain⟨x,bs,S,k,s,G,c,g,nm,s0,rfl,O,t,a,b,q⟩:=h;have F:=CG f;refine⟨_,(Ae (Be (i:=2) o8.nd U (Or.inl U)<|Az Ei (Bc (pv 0) U) (pv 1)<|λ_ _=>rfl)
  (Ag<|Ax<|CK<|Aa (Bp (pv 0) T.cl N.FBk.2.2 (UW N T) (ad f) N.FBk.2.1 .nil Ao<|Aa (pv 1) Ab)<|Aa (Ey F (Bc (pv 0) U) (Az (Ar (K:=K) U) (pv 2) Ac<|λ_ _=>rfl)<|λ_ _=>rfl)<|Aa (Az (Ar (K:=K) U) (pv 2) Ac<|λ_ _=>rfl) Ab)),?_⟩
 obtain⟨⟨e,fs,bl,I,W,z,i6,na,v,D,d,l1,M,l3,R,J,h2,h3,m,r,Y,h7,V,u⟩,X,rV,tf⟩:=id O;obtain⟨y,A,o,rfl,l⟩:=B_ u t;have B:=Ed.k (k:=Sum.inr c.1) m;rw[r s c a] at B;have n:=Ed.k (k:=Sum.inr g.1) m;rw[r G g b] at n;refine⟨_,U,x,C,e,_,_,U,d,T.cl,T.n_knob_rows,R,_,U,z,v,_,_,U,U,ma V,Ah A,?_⟩;refine⟨_,U,x,e,fs,U,d,J _<|by decide,_,U,x,bs,S,k,s,c,_,_,_,U,O,t,a,?_⟩;refine⟨_,U,x,C,e,_,_,U,d,T.cl,T.n_board_numbers,M,_,U,o,_,_,_,U,U,ma l,Ah (j:=3) U,I,_,U,n,?_⟩;exact⟨_,U,o,_,_,_,U,U,ma l,Ah (j:=4) U,by show 3<=sizeLine;decide,λp L=>q _ _ (BL L) ⟨p,U,Aj⟩⟩
inductive fW(C:Addr)(vs:List V)(H:Hp)(Q:VK)(b9:XK):Prop
 | mk(x:Addr)(bs:List (Str×Nat))(ks:List R)(k i j1 j2:Nat)(b1 b2:Str×Nat)(qd:Nat×Nat)(nm:Str)(s:Int):vs=[.ref x,.int (k:Nat),.int (i:Nat)]->Dw C H x bs ks->(Ew bs)[i]? = some qd->ks[k]? = some ⟨"coupler",nm,[.str b1.1,.str b2.1,.int s]⟩->bs[j1]? = some b1->bs[j2]? = some b2->(∀H',Am H H'->Q (QG bs j1 j2 s qd b2.2) H')->fW C vs H Q b9
theorem WF:Av ["organ","knob","key","coupler","place","second","number"] Fk (Af yV):=Bg
include N T in
theorem nY:An P w K mg base Bb 3 aD.fLe aD.dLe Fk<|fW C:=by
 refine N.FLe.1.Dg WF λH vs Q E v h=>?_;obtain⟨x,bs,e,k,i,A,Y,b1,n,b,nm,l,rfl,O,hq,hk,S,c,q⟩:=h;refine⟨_,(Ae (Bh (Ce<|Ig FT HY Ac (pv 2)<|Bm (pv 0) T.cl N.FOc.2.2 (fO N T) (ad v) N.FOc.2.1 .nil Ao) (Ag<|Ax GC) Ba)
  (Ae (Be (i:=3) WF.nd U (Or.inl U)<|Bp (pv 0) T.cl N.FOp.2.2 (sS N T) (ad v) N.FOp.2.1 .nil Ao<|Aa (pv 1) Ab)
  (Ae (Be (i:=4) WF.nd U (Or.inl U)<|Bp (pv 0) T.cl N.FOo.2.2 (Tg N T) (ad v) N.FOo.2.1 .nil Ao<|Aa (pv 2) Ab)
  (Ae (Be (i:=5) WF.nd U (Or.inl U)<|Az (Bk (K:=K) U) (Bm (pv 0) T.cl N.FOb.2.2 (Qy N T) (ad v) N.FOb.2.1 .nil Ao) (Az (Ar (K:=K) U) (pv 3) Ac<|λ_ _=>rfl)<|λ_ _=>rfl)
  (Ae (Be (i:=6) WF.nd U (Or.inl U)<|BZ CQ (Az (Ar (K:=K) U) (pv 4) Ac<|λ_ _=>rfl)<|Az (Ar (K:=K) U) (pv 3) Ac<|λ_ _=>rfl)
  (Ae (Bh (PW.pt<|El (BR Jv (Az (Ar (K:=K) U) (pv 4) Ac<|λ_ _=>rfl) (Az (Ar (K:=K) U) (pv 3) Ac<|λ_ _=>rfl)<|BX _)<|EY<|Ce<|Ig FT HY Ac (pv 6)<|Az (Ar (K:=K) U) (pv 5) Ac<|λ_ _=>rfl) (Ag<|Ax GC) Ba)
  (Ag<|Ax<|Bp (pv 0) T.cl N.FOk.2.2 (Uu N T) (ad v) N.FOk.2.1 .nil Ao<|Aa (Az (Ar (K:=K) U) (pv 5) Ac<|λ_ _=>rfl)<|Aa (pv 6) Ab))))))),?_⟩
 have hi:i<(Ew bs).length:=(ag.mp hq).1;have a:∀{H':Hp},Dw C H' x bs e->∃g fs,H' x=some (.ins C g fs)/\∀m∈meths,fs.lookup m=none:=λO'=>by
  obtain⟨⟨g,fs,_,_,_,_,_,_,_,_,h1,_,_,_,_,B,_⟩,_⟩:=O';exact⟨g,fs,h1,B⟩
 obtain⟨g,fs,hx,B⟩:=a O;refine⟨_,U,_,_,U,U,_,U,?_⟩;refine Cw (λ_=>?_)<|λz=>absurd (decide_eq_true<|by omega) z
 refine⟨_,U,x,g,fs,U,hx,B _<|by decide,x,bs,e,U,O,_,_,U,U,_,U,?_⟩;rw[decide_eq_true (by omega:(i:Int)<((Ew bs).length:Nat))];refine Bj ?_;refine⟨_,U,x,g,fs,U,hx,B _<|by decide,_,U,x,bs,e,k,A,Y,b1,n,nm,l,U,O,hk,S,c,λy1 H1 W M=>?_⟩;have u:=O.mono W;obtain⟨r,p,y,t⟩:=a u;refine⟨_,U,x,r,p,U,y,t _<|by decide,_,U,x,bs,e,i,b,U,u,hq,λy2 I=>?_⟩;refine⟨_,U,x,r,p,U,y,t _<|by decide,x,bs,e,U,u,λD i6 H2 hD f mi RF=>?_⟩;obtain⟨J,rfl,L⟩:=M.mono f;obtain⟨T2,rfl,MV⟩:=I.mono f;obtain⟨v3,HG,T3,rfl,Z⟩:=B_ RF c;refine⟨_,U,J,_,_,_,U,U,ma L,Ah (j:=1) U,D,i6,_,_,U,U,ma mi,Ah HG,?_⟩;refine⟨_,U,T2,_,_,_,U,U,ma MV,Ah (j:=1) U,_,U,J,_,_,_,U,U,ma L,Ah (j:=2) U,_,_,U,U,?_⟩;refine⟨_,U,T2,_,_,_,U,U,ma MV,Ah (j:=0) U,_,U,J,_,_,_,U,U,ma L,Ah (j:=0) U,U,_,U,?_⟩;have fin:=q H2<|W.trans f
 unfold QG at fin;by_cases o:b.1=A
 ·have z:(!decide (V.int (b.1:Nat)=V.int (A:Nat)))=false:=by rw[o];simp
  rw[z];refine Bj ?_;refine⟨_,U,_,_,U,U,_,U,?_⟩;refine Cw (λF=>?_)<|λF=>?_
  ·refine⟨_,U,T3,_,_,_,U,U,ma Z,Ah (j:=1) U,_,_,U,U,_,U,?_⟩;have d:0<=(b.2:Int)+l:=of_decide_eq_true F;by_cases s:(b.2:Int)+l<(n.2:Nat)
   ·have G:decide ((b.2:Int)+l<(n.2:Nat))=true:=decide_eq_true s;rw[G];refine Bj ?_;rw[if_pos ⟨o,d,s⟩] at fin;obtain⟨Kt,X,tw,LW⟩:=a<|u.mono f;refine⟨_,U,x,Kt,X,U,tw,LW _<|by decide,_,U,T3,_,_,_,U,U,ma Z,Ah (j:=0) U,_,U,x,bs,e,Y,n,_,U,u.mono f,c,λH3 s3=>?_⟩;have R:=q H3<|(W.trans f).trans s3
    unfold QG at R;rw[if_pos ⟨o,d,s⟩] at R;exact R
   ·have G:decide ((b.2:Int)+l<(n.2:Nat))=false:=decide_eq_false s;rw[G];refine Dj ?_;rw[if_neg λz=>s z.2.2] at fin;exact fin
  ·refine⟨_,U,?_⟩;have d:decide (0<=(b.2:Int)+l)=false:=(fo _).mp F;rw[if_neg λz=>absurd (decide_eq_true z.2.1) F] at fin;exact Dj fin
 ·have z:(!decide (V.int (b.1:Nat)=V.int (A:Nat)))=true:=by
   rw[decide_eq_false λz=>o (by have:=V.int.inj z;omega)];rfl
  rw[z];refine Dj ?_;rw[if_neg λz=>o z.1] at fin;exact fin
inductive YD(vs:List V)(H:Hp)(Q:VK)(b9:XK):Prop
 | mk(n:Nat)(i:Int):vs=[.int n,.int i]->Q (.bl (decide (0<=i) && n.testBit i.toNat)) H->YD vs H Q b9
theorem gh(n:Nat)(i:Int):decide (V.int (Builtin.bitAnd ((n:Int) / 2 ^ i.toNat) 1)=V.int 1)=n.testBit i.toNat:=by
 rw[Ih,show (1:Int)=((1:Nat):Int) from rfl,<-Int.natCast_ediv,Mt,Bool.eq_iff_iff];rw[Nat.testBit_eq_decide_div_mod_eq,Nat.and_one_is_mod];simp only[decide_eq_true_eq,V.int.injEq];exact Int.ofNat_inj
theorem vd:Av Fh Fh<|Af xZ:=Bg
include N T in
theorem Yw:An P w K mg base Bb 1 aD.fHa aD.dHa Fh YD:=by
 refine N.FHa.1.Dg vd λH f Q E d h=>?_;obtain⟨n,i,rfl,q⟩:=h;refine⟨_,Ag<|Ax<|D_ (Gy FT HY Ac (pv 1)<|S_ PySem.F.plainAttrs_int PySem.F.slot_int_bit_length PySem.F.type_int_bit_length Qg<|pv 0)<|Ds<|Dd CP (BZ JT (BZ Xc (pv 0)<|pv 1) Ac) Ac<|BX _,?_⟩;refine⟨_,U,_,_,U,U,_,U,?_⟩;refine Cw (λa=>?_)<|λa=>?_
 ·have c:0<=i:=of_decide_eq_true a;refine⟨_,U,U,(n:Int),U,U,_,_,U,U,_,U,?_⟩;rw[Ke];refine Cw (λb=>?_)<|λb=>?_
  ·refine⟨_,U,_,U,_,_,U,U,c,_,_,U,U,U,?_⟩;try dsimp only
   rw[gh];rw[a,ic] at q;exact q
  ·have e:n.testBit i.toNat=false:=by
    cases hb:n.testBit i.toNat with
    |false=>rfl
    |true =>
     have:=Wd.YB hb;exact absurd (decide_eq_true (by omega:i<(Wd.len n:Int))) b
   rw[e,Bool.and_false] at q;exact q
 ·rw[(fo _).mp a,io] at q;exact⟨_,U,Bj q⟩
inductive Sv(vs:List V)(H:Hp)(Q:VK)(b9:XK):Prop
 | mk(n:Nat):vs=[.int n]->n<2 ^ 1200->(∀p H',H p=none->Am H H'->H' p=some (.lst (nV (Wd.mem n)))->Q (.ref p) H')->Sv vs H Q b9
theorem Xw(n:Nat):((((List.range<|Wd.len n).map λ(i:Nat)=>(0:Int)+(i:Int)).filter λi=>decide (0<=i) && n.testBit i.toNat).map λi=>V.int i)=nV (Wd.mem n):=by
 unfold Wd.mem;rw[fg,ay];have e:((λi:Int=>decide (0<=i) && n.testBit i.toNat) ∘ λ(i:Nat)=>(0:Int)+(i:Int))=n.testBit:=by
  funext i;show (decide (0<=(0:Int)+(i:Int)) && n.testBit ((0:Int)+(i:Int)).toNat)=n.testBit i;have a:(0:Int)<=0+(i:Int):=by omega
  have b:((0:Int)+(i:Int)).toNat=i:=by omega
  rw[decide_eq_true a,b,ic]
 rw[e];refine fh λi _=>?_;show V.int ((0:Int)+(i:Int))=V.int (i:Int);rw[hZ]
theorem zK:Av ["some"] ["some"] (Af vO):=Bg
include N T in
theorem QV:An P w K mg base Bb 2 aD.fMe aD.dMe ["some"] Sv:=by
 refine N.FMe.1.Dg zK λH j Q E d h=>?_;obtain⟨n,rfl,f,q⟩:=h;refine⟨_,Ag<|Ax<|Br U (Bf (osc:=Af vO) (N:=["some"]) U U<|by decide) (Dr U T.range<|Aa (S_ PySem.F.plainAttrs_int PySem.F.slot_int_bit_length PySem.F.type_int_bit_length Qg<|pv 0) Ab) (λ_ _ _ _=>(G9<|Cq<|zC (Yw N T) d U N.FHa<|Aa (pv 1)<|Aa (pv 0) Ab))<|λ_ _ _ _=>(pv 0),?_⟩;have b:Wd.len n<=1200:=Wd.Mx f;refine⟨_,U,U,(n:Int),U,U,?_⟩;rw[Ke];refine⟨_,U,by omega,by omega,?_⟩;rw[aS];refine JP (lo:=0) (n:=Wd.len n) (λi=>decide (0<=i) && n.testBit i.toNat) (λi=>.int i) (aT b<|by decide) (λi g a c R k=>?_) (λi g _ a c R k=>⟨_,U,k a<|Am.refl a⟩)<|λD a e c hl=>?_
 ·exact⟨_,U,_,U,n,_,U,_,U,k a<|Am.refl a⟩
 ·rw[Xw] at hl;exact q D a e c hl
inductive Xo(vs:List V)(H:Hp)(Q:VK)(b9:XK):Prop
 | mk(n:Nat)(k:Int)(c:Nat):vs=[.int n,.int k,.int c]->n<2 ^ 1200->-1200<=k->k<=1200->c<=1200->Q (.int (Wd.mv n k c:Nat)) H->Xo vs H Q b9
theorem T_(m c:Nat):Builtin.bitAnd (m:Int) (1 * 2 ^ ((if (0:Int) > (c:Int) then (0:Int) else (c:Int))).toNat - 1)=((m % 2 ^ c:Nat):Int):=by
 have h:¬ (0:Int) > (c:Int):=by omega
 rw[if_neg h,Int.one_mul,aS,Ih];have a:1<=2 ^ c:=Nat.one_le_two_pow;have e:((2 ^ c:Nat):Int) - 1=((2 ^ c - 1:Nat):Int):=by omega
 rw[e,Mt,Nat.and_two_pow_sub_one_eq_mod]
theorem rZ:Av ["some","steps","count","moved"] CC (Af wQ):=Bg
include N T in
theorem XS:An P w K mg base Bb 1 aD.fSh aD.dSh CC Xo:=by
 refine N.FSh.1.Dg rZ λH m Q E j h=>?_;obtain⟨n,k,c,rfl,f,l,o,p,q⟩:=h;refine⟨_,(Ae (Be (i:=3) rZ.nd U (Or.inl U)<|Jr (BR QR (pv 1) Ac<|BX _) (BZ bQ (pv 0)<|pv 1)<|BZ Xc (pv 0)<|Ja LC<|pv 1)
  (Ag<|Ax<|BZ JT (pv 3)<|BZ GF (BZ X8 Ac<|BK (Nh U) U T.max PyProof.Rows.boot_max<|Aa (pv 2)<|Aa Ac Ab) Ac)),?_⟩
 have d:Wd.len n<=1200:=Wd.Mx f;have g:(2:Int) ^ 27=134217728:=by decide
 refine⟨_,U,_,_,U,U,_,U,?_⟩;refine Cw (λa=>?_)<|λa=>?_
 ·have b:0<k:=of_decide_eq_true a;refine⟨_,U,_,U,_,_,U,U,⟨by omega,by rw[Ke,g];omega⟩,?_⟩;refine⟨_,U,_,U,_,_,U,⟨_,_,U,U,⟨by split <;> omega,by split <;> omega,by decide⟩,_,_,U,U,_,_,U,U,?_⟩⟩;try dsimp only
  have e:((n:Int) * 2 ^ k.toNat)=((n * 2 ^ k.toNat:Nat):Int):=by rw[Ih];simp
  rw[e,T_];unfold Wd.mv at q;rw[if_pos b] at q;exact q
 ·have b:¬ 0<k:=λz=>a<|decide_eq_true z
  refine⟨_,U,_,U,_,U,_,_,U,U,by omega,?_⟩;refine⟨_,U,_,U,_,_,U,⟨_,_,U,U,⟨by split <;> omega,by split <;> omega,by decide⟩,_,_,U,U,_,_,U,U,?_⟩⟩;try dsimp only
  have e:((n:Int) / 2 ^ (-k).toNat)=((n / 2 ^ (-k).toNat:Nat):Int):=by rw[Ih];simp
  rw[e,T_];unfold Wd.mv at q;rw[if_neg b] at q;exact q
inductive Yv(C:Addr)(vs:List V)(H:Hp)(Q:VK)(b9:XK):Prop
 |mk(x:Addr)(bs:List (Str×Nat))(ks:List R):vs=[.ref x]->Dw C H x bs ks->(∀D ys H',H D=none->Am H H'->H' D=some (.lst ys)->Paired (λ(r:R) y=>TupAt H' [.str r.w,.str r.nm] y) ks ys->Q (.ref D) H')->Yv C vs H Q b9
theorem za:Av sT sT<|Af vI:=Bg
include N T in
theorem YJ:An P w K mg base Bb 1 aD.fOz aD.dOz sT<|Yv C:=by
 refine N.FOz.1.Dg za λH V Q E J h=>?_;obtain⟨x,bs,ks,rfl,O,q⟩:=h;refine⟨_,Ag<|Ax<|Br U (Bf (osc:=Af vI) (N:=sT) U U<|by decide) (Bl<|Bc (pv 0) U) (λ_ _ _ _=>Ci)<|λ_ _ _ _=>(CK<|Aa (Az (Ar (K:=K) U) (pv 0) Ac<|λ_ _=>rfl)<|Aa (Az (Ar (K:=K) U) (pv 0) Ac<|λ_ _=>rfl) Ab),?_⟩;obtain⟨⟨z,fs,bl,bn,L,f,Z,na,d,t,u,l1,l2,l3,G,lm,h2,h3,Y,h5,S,h7,I,c⟩,M,rV,W⟩:=id O;have o:De K H f d:=.inl<|.inl I
 have X:=c.length;refine⟨_,U,x,C,z,_,_,U,u,T.cl,T.n_knob_rows,G,f,U,⟨_,o⟩,Ld (K:=K) (xs:=d) (λ_=>true) (λv=>[.str (My H v).w,.str (My H v).nm]) o (BJ<|by omega) (λy g a b R k=>k a<|Am.refl a) (λy g _ a b R k=>?_)<|λD a s p b hl n=>?_⟩
 ·obtain⟨r,_,l⟩:=Dl c g;have e:=MF l;rw[e] at k;obtain⟨m,rfl,i⟩:=l.mono b;exact⟨_,U,m,_,_,_,U,U,ma i,Ah (j:=0) U,_,U,m,_,_,_,U,U,ma i,Ah (j:=1) U,by show 2<=sizeLine;decide,λB A=>k _ _ (BL A) ⟨B,U,Aj⟩⟩
 ·rw[bq.mpr (λ_ _=>rfl)] at n;have h:=Bx (F:=λ(r:R) y=>TupAt a [.str r.w,.str r.nm] y) (My H) n;rw[UL c] at h;exact q D s a p b hl h
inductive Xb(C:Addr)(vs:List V)(H:Hp)(Q:VK)(b9:XK):Prop
 | mk(x:Addr)(bs:List (Str×Nat))(ks:List R)(wd:Str)(D:Nat):vs=[.ref x,.int (D:Nat),.str wd]->Dw C H x bs ks->(∀L (cl:List Nat) H',H L=none->Am H H'->H' L=some (.lst (nV cl))->(∀k,k∈cl ↔ ∃r,ks[k]? = some r/\r.w=wd/\D.testBit k=true)->cl.length<=200->Q (.ref L) H')->Xb C vs H Q b9
theorem n_:Av AV CL<|Af sX:=Bg
include N T in
theorem Xp:An P w K mg base Bb 2 aD.fDc aD.dDc CL<|Xb C:=by
 refine N.FDc.1.Dg n_ λH vs Q E X h=>?_;obtain⟨x,bs,b,wd,D,rfl,O,q⟩:=h;refine⟨_,(Ae (aA (i:=3) n_.nd U U U (Bf (osc:=Af sX) (N:=AV) U U<|by decide) (Bl<|Bm (pv 0) T.cl N.FOz.2.2 (YJ N T) (ad X) N.FOz.2.1 .nil Ao) (λ_ _ _ _=>Ci)<|λ_ _ _ _=>(Az (Ar (K:=K) U) (pv 0) Ac<|λ_ _=>rfl))
  (Ag<|Ax<|OD U (HJ (osc:=Af sX) (N:=AV) U U<|by decide) (K9 U T.enumerate<|Aa (pv 3) Ab) (λ_ _ _ _=>G9<|PW.pt<|Oo (BR CP (pv 1) (pv 4)<|BX _)<|K5<|Cq<|zC (Yw N T) X U N.FHa<|Aa (pv 3)<|Aa (pv 0) Ab)<|λ_ _ _ _=>(pv 0))),?_⟩
 obtain⟨⟨dx,fs,bl,bn,kp,kr,i6,na,oq,ac,t,l1,l2,l3,l4,lm,s,n,h4,h5,h6,h7,h8,h9⟩,sP,rV,tf⟩:=id O;refine⟨_,U,x,dx,fs,U,t,lm _<|by decide,x,_,_,U,O,λD1 I Y zk s1 G B=>?_⟩;have d:De K Y D1 I:=.inl<|.inl G
 have ab:=B.length;refine⟨D1,U,⟨_,d⟩,DW (K:=K) (xs:=I) (λ_=>true) (Vq Y 0) d (BJ<|by omega) (λy J a o R k=>k a<|Am.refl a) (λy J _ a o R k=>?_)<|λZ H2 on W u=>?_⟩
 ·obtain⟨r,_,L⟩:=Dl B J;have e:=J4 L 0;obtain⟨T0,rfl,hT⟩:=L.mono o;have c:=k a<|Am.refl a
  rw[e] at c;exact⟨_,U,T0,_,_,_,U,U,ma hT,Ah (j:=0) U,c⟩
 rw[bq.mpr (λ_ _=>rfl),K7 0 B] at u;have e2:(b.map λr=>([V.str r.w,V.str r.nm]:List V).getD 0 .non)=b.map λr=>V.str r.w:=rfl;rw[e2] at u;have m:De K H2 Z<|b.map λr=>V.str r.w:=.inl<|.inl u
 refine⟨_,U,Z,U,⟨_,m⟩,Vf (K:=K) (xs:=b.map λr=>V.str r.w) (λi v=>decide (v=.str wd) && D.testBit i) (λi _=>.int (i:Nat)) m (BJ<|by rw[af];omega) (λi v F a o R k=>?_) (λi v F _ a o R k=>⟨_,U,k a<|Am.refl a⟩)<|λD3 H3 E2 s3 oj=>?_⟩
 ·rw[am] at F;obtain⟨z,S,rfl⟩:=av.mp F;have c:=k a<|Am.refl a
  refine⟨_,U,_,U,U,_,U,?_⟩;refine Cw (λg=>?_)<|λg=>?_
  ·rw[g,ic] at c;refine⟨_,U,_,U,D,_,U,_,U,?_⟩;rw[decide_eq_true (by omega:(0:Int)<=(i:Nat)),ic,aS];exact c
  ·rw[(fo _).mp g,io] at c;exact c
 ·refine q D3 (((b.map λr=>V.str r.w).zipIdx.filter λp=>decide (p.1=V.str wd) && D.testBit p.2).map (·.2)) H3 ((s1.trans W).free E2) ((s1.trans W).trans s3) ?_ (λk=>?_) ?_
  ·rw[oj];refine congrArg (λl=>some<|HO.lst l) ?_;unfold nV;rw[ay];rfl
  ·constructor
   ·intro hk;obtain⟨⟨v,M⟩,hm,rfl⟩:=ar.mp hk;obtain⟨t,s⟩:=bb.mp hm;have n:=List.mem_zipIdx' t;rw[li] at n;obtain⟨A,n⟩:=n;rw[fi] at s;have f:M<b.length:=by simpa using A
    refine⟨b[M],ae f,?_,s.2⟩;have:=s.1;rw[n] at this;exact V.str.inj<|of_decide_eq_true this
   ·rintro⟨z,S,hc,hd⟩;refine ar.mpr ⟨(V.str z.w,k),bb.mpr ⟨?_,?_⟩,U⟩
    ·rw[List.mem_zipIdx_iff_getElem?,am,S];rfl
    ·show (decide (V.str z.w=V.str wd) && D.testBit k)=true;rw[hc,hd,decide_eq_true U];rfl
  ·rw[af];refine be (cc _ _) ?_;rw[List.length_zipIdx,af];omega
inductive cN(C:Addr)(vs:List V)(H:Hp)(Q:VK)(b9:XK):Prop
 | mk(x:Addr)(bs:List (Str×Nat))(ks:List R)(n:Nat):vs=[.ref x,.int (n:Nat)]->Dw C H x bs ks->n<2 ^ 1200->Q (.int (Wd.mv n 0 (bs.map (·.2)).sum:Nat)) H->cN C vs H Q b9
theorem Fj{x:Addr}{bs:List (Str×Nat)}(O:Dw C H x bs ks):(bs.map (·.2)).sum<=305:=by
 have h:=Ot bs 61 O.sz;rw[Eh] at h;have:=O.nb;have:bs.length * 61<=5 * 61:=kC _ this;omega
theorem zH:Av Fn Fn<|Af sHk:=Bg
include N T in
theorem du:An P w K mg base Bb 2 aD.fHk aD.dHk Fn<|cN C:=by
 refine N.FHk.1.Dg zH λH r Q E a h=>?_;obtain⟨x,bs,g,n,rfl,O,f,q⟩:=h;refine⟨_,Ag<|Ax<|zC (XS N T) a U N.FSh<|Aa (pv 1)<|Aa Ac<|Aa (Bm (pv 0) T.cl N.FOc.2.2 (fO N T) (ad a) N.FOc.2.1 .nil Ao) Ab,?_⟩;obtain⟨⟨c,fs,u,j,k,o,y,i,l,e,b,p,s,m,t,d,_⟩,_⟩:=id O;have v:=Fj O;refine⟨_,U,_,U,x,c,fs,U,b,d _<|by decide,x,bs,g,U,O,n,0,(Ew bs).length,U,f,by decide,by decide,by rw[Eh];omega,?_⟩;rw[Eh];exact q
theorem bc(h:n<=3000):n<sizeLine:=aT h<|by decide
theorem Y0{v:V}{Q:St->Hp->Prop}:Cm i v σ H Q=Q (σ.set i<|some v) H:=rfl
theorem Y9{c:TT}{u:TS}{D:Ends}{r:VK}{b k:St->Hp->Prop}(h:Oj c tb { D with nx:=u D } σ H):({ nx:=kE (Oj c tb) u D,rt:=r,bk:=b,ct:=k }:Ends).nx σ H:=h
def jM:Option HO->Nat
 |some (.lst xs)=>xs.length
 |_=>0
def je:Option HO->Nat
 |some (.dK kvs)=>kvs.length
 |_=>0
abbrev kI(j:Nat):Key:=Sum.inl ((j:Nat):Int)
theorem Xd{js:List Nat}(h:kvs.map (·.1)=js.map kI)(j:Nat):(CN kvs<|kI j).isSome=decide (j∈js):=by
 rw[<-G4];rw[db,fF,decide_eq_true_eq];constructor
 ·rintro⟨p,b,e⟩;have:p.1∈js.map kI:=by rw[<-h];exact aE b
  obtain⟨a,f,d⟩:=ar.mp this;have c:kI a=kI j:=d.trans<|of_decide_eq_true e
  have:((a:Nat):Int)=(j:Nat):=Sum.inl.inj c;have:a=j:=by omega
  subst this;exact f
 ·intro g;have:kI j∈kvs.map (·.1):=by rw[h];exact aE g
  obtain⟨p,b,e⟩:=ar.mp this;exact⟨p,b,decide_eq_true e⟩
def QF(H:Hp)(bs:List<|Str×Nat)(kbs:List Kb)(D n:Nat)(kvs:List<|Key×V)(js:List Nat):Prop:=∀(m j:Nat),js[m]? = some j->∃(k i:Nat)(T:Addr)(z:Kb),CN kvs (kI j)=some (.ref T)/\H T=some (.tup [V.int (k:Nat),V.int (i:Nat)])/\D.testBit k=true/\kbs[k]? = some z/\gl bs z i=some j/\(n.testBit i=true \/ i∈js.take m)
theorem QF.by'{bs:List (Str×Nat)}{D:Nat}{js:List Nat}(h:QF H bs kbs D n kvs js)(e:∀T xs,H T=some (.tup xs)->H' T=some (.tup xs)):QF H' bs kbs D n kvs js:=λm j c=>by
 obtain⟨k,i,T,z,a,d,b⟩:=h m j c;exact⟨k,i,T,z,a,e _ _ d,b⟩
theorem QF.mono{bs:List (Str×Nat)}{D:Nat}{js:List Nat}(h:QF H bs kbs D n kvs js)(s:Am H H'):QF H' bs kbs D n kvs js:=h.by' λT a e=>s _ _ e
theorem QF.upd{bs:List (Str×Nat)}{D:Nat}{js:List Nat}{A:Addr}{u:HO}(h:QF H bs kbs D n kvs js)(a:H A=some u)(b:∀xs,u≠.tup xs):QF (L2.upd H A o) bs kbs D n kvs js:=h.by' λT xs e=>by
 rw[Aw (λz=>by rw[z,a] at e;exact b xs<|Option.some.inj e)];exact e
theorem QF.snoc{bs:List (Str×Nat)}{D:Nat}{js:List Nat}{k a:Nat}{T:Addr}{z:Kb}(h:QF H bs kbs D n kvs js)(f:CN kvs (kI j)=none)(t:H T=some (.tup [V.int (k:Nat),V.int (a:Nat)]))(u:D.testBit k=true)(o:kbs[k]? = some z)(B:gl bs z a=some j)(hi:n.testBit a=true \/ a∈js) :
  QF H bs kbs D n (kvs++[(kI j,.ref T)]) (js++[j]):=λm g b=>by
 by_cases c:m<js.length
 ·rw[fS c] at b;obtain⟨s,x,l,r,d,y,C,v,q,p⟩:=h m g b;refine⟨s,x,l,r,?_,y,C,v,q,?_⟩
  ·rw[I_ _ _ _ _ f];by_cases e:kI g=kI j
   ·rw[e,f] at d
    cases d
   ·rw[if_neg e];exact d
  ·rw[fq (fT c)];exact p
 ·have w:=(ag.mp b).1;rw[ai,aI] at w;have i:m=js.length:=by omega
  subst i;rw[dA (al _),ku] at b;have A:j=g:=by simpa using b
  subst A;refine⟨k,a,T,z,?_,t,u,o,B,?_⟩
  ·rw[I_ _ _ _ _ f,if_pos U]
  ·rw[fq (al _),dt];exact hi
inductive gV(C:Addr)(vs:List V)(H:Hp)(Q:VK)(b9:XK):Prop
 |mk(x:Addr)(c:Nat->Str)(sz:List Nat)(kbs:List Kb)(D n:Nat):vs=[.ref x,.int (D:Nat),.int (n:Nat)]->Dw C H x (Bd c sz) (Bq c kbs)->UJ sz.length kbs->n<2 ^ 1200->(∀i,n.testBit i=true->i<sz.sum)->(∀W (kvs:List (Key×V)) (js:List Nat) H',H W=none->Am H H'->H' W=some (.dK kvs)->kvs.map (·.1)=js.map kI->js.Nodup->QF H' (Bd c sz) kbs D n kvs js->(∀j,j∈js ↔ Ph (stp (Bd c sz) kbs D) (λi=>n.testBit i=true) j)->Q (.ref W) H')->gV C vs H Q b9
theorem Rx:Av ["organ","knobs","held","couplers","ways","left","ahead","knob","key"] tT (Af sWa):=Bg
include N T in
theorem tu:An P w K mg base Bb 4 aD.fWa aD.dWa tT<|gV C:=by
 refine N.FWa.1.Dg Rx λH vs Q E hr h=>?_;obtain⟨x,c,sz,p,D,n,rfl,O,oe,hn,tm,q⟩:=h;have hu:=CG hr;refine⟨_,(Ae (Be (i:=3) Rx.nd U (Or.inl U)<|zC (Xp N T) hr U N.FDc<|Aa (pv 0)<|Aa (pv 1)<|Aa BP Ab)
  (Ae (Be (i:=4) Rx.nd U (Or.inl U) G6)
  (Ae (Be (i:=5) Rx.nd U (Or.inl U)<|zC (QV N T) hr U N.FMe<|Aa (pv 2) Ab)
  (Ae (WK PassesOwn.never (Lx (pv 5)<|λ_=>rfl) (Ae (Be (i:=6) Rx.nd U (Or.inl U)<|G5 ci PySem.F.slot_list_pop PySem.F.type_list_pop Ym (pv 5)<|Aa Ac Ab)
  (Ag (Dk PassesOwn.never U (Bl<|pv 3) (Bt (i:=7) Rx.nd U<|Or.inl U) (Ae (Be (i:=8) Rx.nd U (Or.inl U)<|zC (nY N T) hr U N.FLe<|Aa (pv 0)<|Aa (pv 7)<|Aa (pv 6) Ab)
  (Ag (Bh (PW.pt<|Oo (BR Zx (pv 8) GC<|BX _)<|K5<|R_<|M8 hu (pv 8)<|pv 4) (Ae (Fi hu (pv 4) (pv 8) (CK<|Aa (pv 7)<|Aa (pv 6) Ab) U)
  (Ag<|Bh (Ce<|Cq<|zC (Yw N T) hr U N.FHa<|Aa (pv 2)<|Aa (pv 8) Ab) (Ag<|Bw<|G5 ci dc dn Di (pv 5)<|Aa (pv 8) Ab) Ba)) Ba)))))))
  (Ag<|Ax<|pv 4))))),?_⟩
 have I:((Bd c sz).map (·.2)).sum=sz.sum:=by rw[Cz]
 generalize ab:stp (Bd c sz) p D=st;have hR:∀{j},Ph st (λi=>n.testBit i=true) j->j<sz.sum:=λ{j} r=>by
  rw[<-ab] at r;have:=r.lt;rw[I] at this;exact this
 refine⟨_,U,_,U,x,Bd c sz,Bq c p,"coupler",D,U,O,λJ Z H1 b2 s1 aM BU AZ=>?_⟩;have a0:∀k,k∈Z ↔ ∃z,p[k]? = some z/\jN z=true/\D.testBit k=true:=λk=>by
  rw[BU];constructor
  ·rintro⟨r,hr,hw,hd⟩;obtain⟨z,hz,rfl⟩:=Gv hr;rw[KD] at hw;exact⟨z,hz,decide_eq_true<|congrArg V.str hw,hd⟩
  ·rintro⟨z,hz,hc,hd⟩;exact⟨_,GJ hz,(KD _ _ _).trans<|V.str.inj<|of_decide_eq_true hc,hd⟩
 intro W hW;obtain⟨H2,i5,t2,u2⟩:=Du (o:=HO.dK []) hW;rw[i5];refine⟨_,U,n,U,hn,λL H3 hL s3 oj=>?_⟩;have a4:=t2.trans s3;have bn:=s1.trans a4;have a7:H W=none:=s1.free hW;have a8:H L=none:=(s1.trans t2).free hL;have aB:W≠L:=λz=>by rw[<-z,s3 _ _ u2] at oj;cases oj
 have c3:=a4 _ _ aM;have b1:De K H3 J<|nV Z:=.inl<|.inl c3
 have bl:J≠W:=λz=>by rw[z,s3 _ _ u2] at c3;cases c3
 have ap:J≠L:=λz=>by rw[z] at aM;rw[t2 _ _ aM] at hL;cases hL
 show Cm 5 _ _ _ _;rw[Y0];refine Y9 ?_;refine Xu (λσ F=>Am H F/\F J=some (.lst<|nV Z)/\∃(t:List<|Key × V)(js u:List Nat),F W=some (.dK t)/\F L=some (.lst<|nV u)/\t.map (·.1)=js.map kI/\js.Nodup/\QF F (Bd c sz) p D n t js/\(∀j∈js,Ph st (λi=>n.testBit i=true) j)/\(∀i∈u,n.testBit i=true \/ i∈js)/\(∀i,(n.testBit i=true \/ i∈js)->i∈u \/ ∀j,st i j->j∈js)/\u.length+(sz.sum - js.length)<=1600/\∃v6 v7 v8,σ=[some (.ref x),some<|.int (D:Nat),some<|.int (n:Nat),some<|.ref J,some<|.ref W,some<|.ref L,v6,v7,v8])
  (λ_ F=>jM (F L)+(sz.sum - je (F W))) ⟨bn,c3,[],[],Wd.mem n,s3 _ _ u2,oj,U,List.nodup_nil,(λm j hm=>by simp at hm),(λj hj=>nomatch hj),λi X=>.inl<|Wd.mem_iff.mp X,(λi X=>.inl<|Wd.mem_iff.mpr<|X.resolve_right<|by simp),?_,_,_,_,U⟩ ?_ ?_
 ·have:=Wd.Mx hn;have:(Wd.mem n).length<=Wd.len n:=by unfold Wd.mem;exact Nat.le_trans (List.length_filter_le _ _)<|by simp
  have mh:=Fj O;rw[I] at mh;simp;omega
 ·rintro σ F ⟨s4,c4,t,js,u,hw,hl,nX,nd,HL,hj,tS,HU,GY,v6,v7,v8,rfl⟩;refine⟨_,U,_,.inl ⟨_,ma hl,U⟩,?_⟩;have bW:js.length<=sz.sum:=Fo sz.sum nd λj h=>hR<|hj j h
  have bP:t.length=js.length:=by have:=congrArg List.length nX;simpa using this
  cases u with
  |nil =>
   refine Bj ?_;refine⟨_,U,q W t js F a7 s4 hw nX nd HL λj=>?_⟩;rw[ab];exact Ph.all (W:=λj=>j∈js) hj (λi X=>(HU i X).resolve_left<|by simp) j
  |cons f u =>
   refine Dj ?_;refine⟨_,U,.inl ⟨U,_,ma hl⟩,L,_,0,0,.int (f:Nat),U,U,hl,by decide,by decide,seqIndex_of (by decide) (by simp),U,?_⟩;have w5:upd F L (.lst<|(nV<|f::u).eraseIdx 0) W=some (.dK t):=by rw[Aw aB];exact hw
   have l5:upd F L (.lst<|(nV<|f::u).eraseIdx 0) L=some (.lst<|nV u):=Aj;have c5:upd F L (.lst<|(nV<|f::u).eraseIdx 0) J=some (.lst<|nV Z):=by rw[Aw ap];exact c4
   have s5:Am H<|upd F L<|.lst<|(nV<|f::u).eraseIdx 0:=λb o e=>by rw[Aw (Ai e a8)];exact s4 _ _ e
   have em:jM (F L)+(sz.sum - je (F W))=u.length+1+(sz.sum - js.length):=by
    rw[hl,hw];show (nV<|f::u).length+(sz.sum - t.length)=_;rw[bP];simp
   rw[em];have an:QF (upd F L<|.lst<|(nV<|f::u).eraseIdx 0) (Bd c sz) p D n t js:=HL.upd hl (λxs z=>by cases z);generalize upd F L (.lst ((nV (f::u)).eraseIdx 0))=H5 at w5 l5 c5 s5 an |-;have bN:f<sz.sum:=by
    rcases tS f (bg ..) with h | h
    ·exact tm f h
    ·exact hR<|hj f h
   have a3:∀j,st f j->Ph st (λi=>n.testBit i=true) j:=λj h=>by
    rcases tS f (bg ..) with g | g
    ·exact .one g h
    ·exact .more (hj f g) h
   obtain⟨qd,hq⟩:∃qd,(Ew (Bd c sz))[f]? = some qd:=⟨_,ae<|by rw[Eh,I];exact bN⟩;have M:u.length+(sz.sum - js.length)<u.length+1+(sz.sum - js.length):=by omega
   refine⟨_,U,J,U,⟨_,ma c5⟩,Ia (K:=K) (a:=J) (xs:=nV Z) (λm σ H6=>Am H H6/\H6 J=some (.lst<|nV Z)/\∃(l:List<|Key × V)(d A:List Nat),H6 W=some (.dK l)/\H6 L=some (.lst<|nV A)/\l.map (·.1)=d.map kI/\d.Nodup/\QF H6 (Bd c sz) p D n l d/\(∀j∈d,Ph st (λi=>n.testBit i=true) j)/\(∀i∈A,n.testBit i=true \/ i∈d)/\(∀i,(n.testBit i=true \/ i∈d)->i=f \/ i∈A \/ ∀j,st i j->j∈d)/\(∀k∈Z.take m,∀z j,p[k]? = some z->gl (Bd c sz) z f=some j->j∈d)/\(n.testBit f=true \/ f∈d)/\A.length+(sz.sum - d.length)<=u.length+(sz.sum - js.length)/\∃v7 v8,σ=[some (.ref x),some<|.int (D:Nat),some<|.int (n:Nat),some<|.ref J,some<|.ref W,some<|.ref L,some<|.int (f:Nat),v7,v8])
    ⟨s5,c5,t,js,u,w5,l5,nX,nd,an,hj,λi X=>tS i<|List.mem_cons_of_mem _ X,λi X=>?_,(λk hk=>by simp at hk),tS f<|List.mem_cons_self ..,Nat.le_refl _,_,_,U⟩ (λm σ H6 _ h=>.inl<|.inl h.2.1) ?_ ?_⟩
   ·rcases HU i X with h | h
    ·rcases ce.mp h with rfl | h
     ·exact .inl U
     ·exact .inr<|.inl h
    ·exact .inr<|.inr h
   ·rintro m y σ H6 hm ⟨s6,c6,l,d,A,w6,l6,xC,Fs,xl,AG,vk,vj,xh,vn,we,v7,v8,rfl⟩;rw[am] at hm;obtain⟨k,hk,rfl⟩:=av.mp hm;obtain⟨z,hz,bm,YO⟩:=(a0 k).mp<|ah hk;have aQ:=oe.ok z<|ah hz
    obtain⟨j1,j2,s0,rfl⟩:=cM aQ bm;obtain⟨bv,bR,_,_⟩:=aQ;have aZ:(Bd c sz)[j1]? = some (c j1,sz[j1]):=Fx<|ae bv
    have ac:(Bd c sz)[j2]? = some (c j2,sz[j2]):=Fx<|ae bR
    have aC:(Bq c p)[k]? = some ⟨"coupler",c<|30+k,[.str (c j1),.str<|c j2,.int s0]⟩:=GJ hz;have bS:d.length<=sz.sum:=Fo sz.sum Fs λj h=>hR<|AG j h
    have as:l.length=d.length:=by have:=congrArg List.length xC;simpa using this
    have mh:=Fj O;rw[I] at mh;refine⟨_,U,_,U,_,U,x,Bd c sz,Bq c p,k,f,j1,j2,(c j1,sz[j1]),(c j2,sz[j2]),qd,c<|30+k,s0,U,O.mono s6,hq,aC,aZ,ac,λH7 G=>?_⟩;have B:∀{NF:List Nat},(∀j∈d,j∈NF)->(∀j,gl (Bd c sz) (.cp j1 j2 s0) f=some j->j∈NF)->∀k'∈Z.take (m+1),∀z j,p[k']? = some z->gl (Bd c sz) z f=some j->j∈NF:=λ{NF} aP aN k' oz z' j FO hg=>by
     rw[cr,hk] at oz;rcases bE.mp oz with h | h
     ·exact aP j<|xh k' h z' j FO hg
     ·have:k'=k:=by simpa using h
      subst this;rw[hz] at FO
      cases FO;exact aN j hg
    rcases Wf (j1:=j1) (s:=s0) hq ac with⟨e,eg⟩ | ⟨j,e,eg,b0⟩
    ·rw[e];refine⟨_,U,U,_,U,Bj<|Bj ?_⟩;exact⟨s6.trans G,G _ _ c6,l,d,A,G _ _ w6,G _ _ l6,xC,Fs,xl.mono G,AG,vk,vj,B (λj h=>h) (λj h=>by rw[eg] at h;cases h),vn,we,_,_,rfl⟩
    ·rw[e];have a6:st f j:=by rw[<-ab];exact⟨k,_,YO,hz,eg⟩
     refine⟨_,U,U,_,U,Dj ?_⟩;refine⟨_,U,_,U,W,_,U,Ed.k (k:=kI j)<|G _ _ w6,_,U,?_⟩;rw[Xd xC j];by_cases Y:j∈d
     ·rw[decide_eq_true Y];refine Bj ?_;exact⟨s6.trans G,G _ _ c6,l,d,A,G _ _ w6,G _ _ l6,xC,Fs,xl.mono G,AG,vk,vj,B (λj h=>h) (λj' h=>by rw[eg] at h;cases h;exact Y),vn,we,_,_,U⟩
     ·rw[decide_eq_false Y];refine Dj ?_;have nv:CN l (kI j)=none:=by
       have:=Xd xC j;rw[decide_eq_false Y] at this;exact Option.not_isSome_iff_eq_none.mp<|by rw[this];decide
      have aK:(d++[j]).Nodup:=List.nodup_append.mpr ⟨Fs,by simp,λa ha b hb=>by rw[List.mem_singleton.mp hb];intro z;exact Y<|z ▸ ha⟩;have aw:∀j'∈d++[j],Ph st (λi=>n.testBit i=true) j':=λj' h=>by
       rcases bE.mp h with h | h
       ·exact AG j' h
       ·rw[ax.mp h];exact a3 j a6
      have a1:(d++[j]).length<=sz.sum:=Fo sz.sum aK λj h=>hR<|aw j h
      rw[ai,aI] at a1;refine⟨_,U,_,U,by show 2<=sizeLine;decide,λS bB=>?_⟩;obtain⟨H8,i5,t8,UA⟩:=Du (o:=HO.tup [V.int (k:Nat),V.int (f:Nat)]) bB;rw[i5];have w8:=t8 _ _<|G _ _ w6
      refine⟨_,U,_,U,W,_,U,Jf.k (k:=kI j) w8<|BJ<|by omega,?_⟩;have u9:upd H8 W (.dK<|putK l (kI j)<|.ref S) W=some (.dK<|l++[(kI j,.ref S)]):=by rw[<-YK _ nv];exact Aj
      have l9:upd H8 W (.dK<|putK l (kI j)<|.ref S) L=some (.lst<|nV A):=by rw[Aw aB.symm];exact t8 _ _<|G _ _ l6
      have c9:upd H8 W (.dK<|putK l (kI j)<|.ref S) J=some (.lst<|nV Z):=by rw[Aw bl];exact t8 _ _<|G _ _ c6
      have s9:Am H<|upd H8 W<|.dK<|putK l (kI j)<|.ref S:=λb o e=>by rw[Aw (Ai e a7)];exact t8 _ _<|G _ _<|s6 _ _ e
      have R:QF (upd H8 W<|.dK<|putK l (kI j)<|.ref S) (Bd c sz) p D n (l++[(kI j,.ref S)])<|d++[j]:=by
       have p8:=((xl.mono G).mono t8).upd (o:=.dK<|putK l (kI j)<|.ref S) w8 (λxs z=>by cases z);exact p8.snoc nv (by rw[Aw (λz=>by rw[z,w8] at UA;cases UA)];exact UA) YO hz eg vn
      generalize upd H8 W (.dK (putK l (kI j) (.ref S)))=H9 at u9 l9 c9 s9 R |-;have a5:(l++[(kI j,V.ref S)]).map (·.1)=(d++[j]).map kI:=by rw[cq,cq,xC];rfl
      refine⟨_,U,_,U,n,_,U,_,U,?_⟩;have eb:(decide ((0:Int)<=(j:Nat)) && n.testBit ((j:Nat):Int).toNat)=n.testBit j:=by rw[decide_eq_true (by omega),ic,aS]
      rw[eb]
      cases hb:n.testBit j with
      |true =>
       refine Bj ?_;refine⟨s9,c9,_,d++[j],A,u9,l9,a5,aK,R,aw,λi h=>(vk i h).imp id<|List.mem_append_left _,λi h=>?_,B (λj h=>List.mem_append_left _ h) (λj' h=>by rw[eg] at h;cases h;simp),vn.imp id<|List.mem_append_left _,?_,_,_,U⟩
       ·have h':n.testBit i=true \/ i∈d:=by
         rcases h with h | h
         ·exact .inl h
         ·rcases bE.mp h with h | h
          ·exact .inr h
          ·rw[ax.mp h];exact .inl hb
        rcases vj i h' with g | g | g
        ·exact .inl g
        ·exact .inr<|.inl g
        ·exact .inr<|.inr λj' ui=>dS _<|g j' ui
       ·rw[ai,aI];omega
      |false =>
       refine Dj ?_;refine⟨_,U,.inl ⟨U,_,ma l9⟩,_,U,L,_,_,U,U,l9,bc (by simp only[List.length_cons] at GY;rw[List.length_map];omega),?_⟩;have bK:upd H9 L (.lst<|nV A++[V.int (j:Nat)]) L=some (.lst<|nV<|A++[j]):=by
        have e9:nV (A++[j])=nV A++[V.int (j:Nat)]:=cq;rw[e9];exact Aj
       have a9:upd H9 L (.lst<|nV A++[V.int (j:Nat)]) W=some (.dK<|l++[(kI j,.ref S)]):=by rw[Aw aB];exact u9
       have bd:upd H9 L (.lst<|nV A++[V.int (j:Nat)]) J=some (.lst<|nV Z):=by rw[Aw ap];exact c9
       have bL:Am H<|upd H9 L<|.lst<|nV A++[V.int (j:Nat)]:=λb o e=>by rw[Aw (Ai e a8)];exact s9 _ _ e
       refine⟨bL,bd,_,d++[j],A++[j],a9,bK,a5,aK,R.upd l9 (λxs z=>by cases z),aw,(λi h=>?_),(λi h=>?_),B (λj h=>List.mem_append_left _ h) (λj' h=>by rw[eg] at h;cases h;simp),vn.imp id<|List.mem_append_left _,?_,_,_,U⟩
       ·rcases bE.mp h with h | h
        ·exact (vk i h).imp id<|dS _
        ·exact .inr<|cm _ h
       ·have h':(n.testBit i=true \/ i∈d) \/ i=j:=by
         rcases h with h | h
         ·exact .inl<|.inl h
         ·rcases bE.mp h with h | h
          ·exact .inl<|.inr h
          ·exact .inr<|ax.mp h
        rcases h' with h' | rfl
        ·rcases vj i h' with g | g | g
         ·exact .inl g
         ·exact .inr<|.inl<|dS _ g
         ·exact .inr<|.inr λj' ui=>dS _<|g j' ui
        ·exact .inr<|.inl<|by simp
       ·rw[ai,ai,aI];omega
   ·rintro σ H6 ⟨s6,c6,l,d,A,w6,l6,xC,Fs,xl,AG,vk,vj,xh,vn,we,v7,v8,rfl⟩;have as:l.length=d.length:=by have:=congrArg List.length xC;simpa using this
    refine⟨⟨s6,c6,l,d,A,w6,l6,xC,Fs,xl,AG,vk,λi X=>?_,by simp only[List.length_cons] at GY;omega,_,_,_,U⟩,?_⟩
    ·rcases vj i X with rfl | g | g
     ·refine .inr λj VX=>?_;rw[<-ab] at VX;obtain⟨k,z,Se,a2,hg⟩:=VX;refine xh k ?_ z j a2 hg;rw[List.take_of_length_le (by simp)];exact (a0 k).mpr ⟨z,a2,uM hg,Se⟩
     ·exact .inl g
     ·exact .inr g
    ·show jM (H6 L)+(sz.sum - je (H6 W))<_;rw[l6,w6];show (nV A).length+(sz.sum - l.length)<_;rw[af,as];omega
 ·rintro σ H' Q1 Q2 hm ⟨v,hv,k,hk,h⟩;exact⟨v,hv,k,hk,hm _ _ h⟩
inductive jt(C:Addr)(vs:List V)(H:Hp)(Q:VK)(b9:XK):Prop
 |mk(x:Addr)(c:Nat->Str)(sz:List Nat)(kbs:List Kb)(D n:Nat):vs=[.ref x,.int (D:Nat),.int (n:Nat)]->Dw C H x (Bd c sz) (Bq c kbs)->UJ sz.length kbs->n<2 ^ 1200->(∀i,n.testBit i=true->i<sz.sum)->(∀(m:Nat) H',Am H H'->(∀j,m.testBit j=true ↔ Ph (stp (Bd c sz) kbs D) (λi=>n.testBit i=true) j)->Q (.int (m:Nat)) H')->jt C vs H Q b9
theorem Tn{T:Nat}(h:∀i,n.testBit i=true->i<T):Wd.mv n 0 T=n:=by
 refine cW λi=>?_;rw[Wd.MN];simp;intro a;exact h i a
theorem v_:Av tT tT<|Af sCq:=Bg
include N T in
theorem qD:An P w K mg base Bb 5 aD.fCq aD.dCq tT<|jt C:=by
 refine N.FCq.1.Dg v_ λH F Q E g h=>?_;obtain⟨x,c,sz,e,D,n,rfl,O,o,k,i,q⟩:=h;refine⟨_,Ag<|Ax<|zC (NZ N T) g U N.FSt<|Aa (Cr (Mm U) U T.list dL<|Aa (zC (tu N T) g U N.FWa<|Aa (pv 0)<|Aa (pv 1)<|Aa (zC (du N T) g U N.FHk<|Aa (pv 0)<|Aa (pv 2) Ab) Ab) Ab) Ab,?_⟩;have a:((Bd c sz).map (·.2)).sum=sz.sum:=by rw[Cz]
 have y:=Fj O;rw[a] at y;refine⟨_,U,_,U,_,U,_,U,x,Bd c sz,Bq c e,n,U,O,k,?_⟩;rw[a,Tn i];refine⟨x,c,sz,e,D,n,U,O,o,k,i,λW b js B G z t u r _ m=>?_⟩;have d:∀j∈js,j<sz.sum:=λj h=>by
  have:=((m j).mp h).lt;rw[a] at this;exact this
 have s:=Fo sz.sum r d;have f:b.map (·.1)=(js.map λj:Nat=>(j:Int)).map Sum.inl:=by rw[u,ay];rfl
 refine⟨W,b,_,U,t,f,λl hl=>?_⟩;have A:(js.map λj:Nat=>(j:Int)).map V.int=nV js:=by rw[ay];rfl
 rw[A];refine⟨l,js,U,Aj,by omega,λj h=>by have:=d j h;omega,λv p=>?_⟩;refine q (Wd.mk js) v ((z.trans<|BL hl).trans p) λj=>?_;rw[Wd.HX,decide_eq_true_eq];exact m j
theorem M5{K:W.Frag}(h:X.K=K):G7 X (compareOp .NotIn)<|uf K true:=h ▸ Oi
theorem Ww(l:List Nat):(nV l).all Et=true:=fb.mpr λv a=>by
 obtain⟨n,_,rfl⟩:=ar.mp a;rfl
theorem bz(j:Nat)(js:List Nat):inV (.int (j:Nat)) (nV js)=decide (j∈js):=by
 rw[db,decide_eq_true_eq];unfold inV;rw[fF];constructor
 ·rintro⟨y,c,e⟩;obtain⟨n,b,rfl⟩:=ar.mp c;have a:(((n:Nat):Int) == ((j:Nat):Int))=true:=e;have d:((n:Nat):Int)=(j:Nat):=eq_of_beq a;have:n=j:=by omega
  subst this;exact b
 ·intro h;exact⟨_,List.mem_map_of_mem h,by show (((j:Nat):Int) == ((j:Nat):Int))=true;exact beq_self_eq_true _⟩
theorem scOm:Av vb vb<|Af xn:=Bg
include N T in
theorem uU:An P w K mg base Bb 2 aD.fOm aD.dOm vb<|Q6 C:=by
 refine N.FOm.1.Dg scOm λH v Q E b h=>?_;obtain⟨x,bs,l,k,j,c,wd,n,f,rfl,O,m,a,q⟩:=h;refine⟨_,Ag<|Ax<|Bp (pv 0) T.cl N.FBk.2.2 (UW N T) (ad b) N.FBk.2.1 .nil Ao<|Aa (pv 1) Ab,?_⟩;obtain⟨⟨g,fs,M,B,p,s,X,A,r,d,e,G,J,F,L,i,R,W,z,I,u,V,S,o⟩,t,D,y⟩:=id O;exact⟨_,U,x,g,fs,U,e,i _<|by decide,_,U,x,bs,l,k,j,c,wd,n,f,U,O,m,a,q⟩
inductive lY(C:Addr)(vs:List V)(H:Hp)(Q:VK)(b9:XK):Prop
 |mk(x:Addr)(bs:List (Str×Nat))(rk:List (Str×Nat×Int))(ks:List R)(ls:List (List Ln:_))(k j1:Nat)(b1:Str×Nat)(wd nm:Str)(rs:List V)(l:List Ln):vs=[.ref x,.int (k:Nat)]->En C H x bs rk ks ls->ks[k]? = some ⟨wd,nm,.str b1.1::rs⟩->bs[j1]? = some b1->ls[k]? = some l->(∀(T0 L0:Addr) (ts:List V) H',H L0=none->Am H H'->H' T0=some (.tup [.int (j1:Nat),.ref L0])->H' L0=some (.lst ts)->Paired (λx y=>TupAt H' (aG x) y) l ts->Q (.ref T0) H')->lY C vs H Q b9
theorem yC:Av vb vb<|Af wX:=Bg
include N T in
theorem o9:An P w K mg base Bb 2 aD.fOs aD.dOs vb<|lY C:=by
 refine N.FOs.1.Dg yC λH vs Q E F h=>?_;obtain⟨x,bs,rk,B,ls,k,i,J,wd,D,S,l,rfl,O,Y,e,hl,q⟩:=h;refine⟨_,Ag<|Ax<|CK<|Aa (Bp (pv 0) T.cl N.FBk.2.2 (UW N T) (ad F) N.FBk.2.1 .nil Ao<|Aa (pv 1) Ab)<|Aa (Cr Dn U T.list dL<|Aa (Az (Bk (K:=K) U) (Bc (pv 0) U) (pv 1)<|λ_ _=>rfl) Ab) Ab,?_⟩;obtain⟨⟨W,fs,bl,bn,kp,kr,i6,na,oq,p,c,l1,l2,l3,l4,lm,h2,h3,h4,h5,h6,h7,h8,h9⟩,sP,rV,tf⟩:=id O.o;obtain⟨z,X,rl,rn,pp,v,md,FB,d0,f,m1,m2,m3,m,g2,g3,g4,g5,g6,g7,r,G,u⟩:=id O.r;obtain⟨I,V⟩:z=W/\X=fs:=by rw[c] at f;cases f;exact⟨U,U⟩
 subst I V;obtain⟨y,n,A,d,rfl,s,M⟩:=B_ u hl;refine⟨_,U,x,_,_,U,c,lm _<|by decide,_,U,x,bs,B,k,i,J,wd,D,S,U,O.o,Y,e,?_⟩;refine⟨_,U,x,C,_,_,_,U,c,T.cl,T.n_knob_lines,m,_,U,v,r,_,_,U,U,ma G,Ah n,A,d,U,ma<|.inl s,λj a=>?_⟩;obtain⟨H1,Z,g,t⟩:=Du (o:=HO.lst d) a;rw[Z];refine⟨by show 2<=sizeLine;decide,λR L=>?_⟩;have b:=BL (o:=HO.tup [.int (i:Nat),.ref j]) L;exact q R j d _ a (g.trans b) Aj (b _ _ t)<|Aq (g.trans b) M
inductive jW(C:Addr)(vs:List V)(H:Hp)(Q:VK)(b9:XK):Prop
 |mk(x:Addr)(bs:List (Str×Nat))(rk:List (Str×Nat×Int))(ks:List R)(ls:List (List Ln:_)):vs=[.ref x]->En C H x bs rk ks ls->(∀D md H',H D=none->Am H H'->H' D=some (.lst md)->Paired (λ(a:Th) y=>TupAt H' (tV a) y) (rk.map YL) md->Q (.ref D) H')->jW C vs H Q b9
theorem wY:Av sT sT<|Af xF:=Bg
include N T in
theorem rJ:An P w K mg base Bb 1 aD.fOr aD.dOr sT<|jW C:=by
 refine N.FOr.1.Dg wY λH F Q E p h=>?_;obtain⟨x,bs,rk,ks,s,rfl,O,q⟩:=h;refine⟨_,Ag<|Ax<|Cr Dn U T.list dL<|Aa (Bc (pv 0) U) Ab,?_⟩;obtain⟨⟨i,fs,bl,V,u,z,i6,S,y,e,c,l1,l2,l3,l4,lm,h2,h3,L,h5,B,h7,h8,r⟩,A,Z,J⟩:=id O.o;obtain⟨o,m,k,rn,R,kl,b,X,Y,a,n,m2,m3,t,f,g,G,M,I,D,W,v,g9⟩:=id O.r;obtain⟨d,j⟩:o=i/\m=fs:=by rw[c] at a;cases a;exact⟨U,U⟩
 subst d j;exact⟨_,U,x,C,_,_,_,U,c,T.cl,T.n_rank_list,n,k,b,U,ma<|.inl f,λl hl=>q l b _ hl (BL hl) Aj<|Aq (BL hl) g⟩
inductive j6(C:Addr)(vs:List V)(H:Hp)(Q:VK)(b9:XK):Prop
 | mk(x:Addr)(bs:List (Str×Nat))(rk:List (Str×Nat×Int))(ks:List R)(ls:List (List Ln:_)):vs=[.ref x]->En C H x bs rk ks ls->Q (.int ((Ew (rk.map gf)).length:Nat)) H->j6 C vs H Q b9
theorem xT:Av sT sT<|Af ye:=Bg
include N T in
theorem tE:An P w K mg base Bb 1 aD.fOq aD.dOq sT<|j6 C:=by
 refine N.FOq.1.Dg xT λH B Q E o h=>?_;obtain⟨x,bs,rk,ks,r,rfl,O,q⟩:=h;refine⟨_,Ag<|Ax<|BK BW U T.len bo<|Aa (Bc (pv 0) U) Ab,?_⟩;obtain⟨⟨j,fs,bl,S,t,y,i6,R,v,f,b,l1,l2,l3,l4,Y,h2,h3,I,h5,A,h7,h8,p⟩,z,X,G⟩:=id O.o;obtain⟨n,m,rl,rn,g,kl,D,i,W,a,m1,Z,l,s,J,M,F,L,e,d,V,u,g9⟩:=id O.r;obtain⟨c,k⟩:n=j/\m=fs:=by rw[b] at a;cases a;exact⟨U,U⟩
 subst c k;refine⟨_,U,x,C,_,_,_,U,b,T.cl,T.n_pipe_places,l,g,i,U,ma<|.inl e,?_⟩;rw[<-d.length];exact q
inductive jy(C:Addr)(vs:List V)(H:Hp)(Q:VK)(b9:XK):Prop
 |mk(x:Addr)(bs:List (Str×Nat))(rk:List (Str×Nat×Int))(ks:List R)(ls:List (List Ln:_))(j:Nat)(r:Str×Nat×Int)(n:Int):vs=[.ref x,.str r.1,.int n]->En C H x bs rk ks ls->rk[j]? = some r->(∀H',Am H H'->Q (.int ((((rk.take j).map (λr=>r.2.1)).sum:Nat)+n)) H')->jy C vs H Q b9
theorem zj:Av AI AI<|Af vY:=Bg
include N T in
theorem uD:An P w K mg base Bb 2 aD.fOe aD.dOe AI<|jy C:=by
 refine N.FOe.1.Dg zj λH vs Q E t h=>?_;obtain⟨x,bs,rk,ks,Z,j,r,n,rfl,O,s,q⟩:=h;have M:=CG t;refine⟨_,Ag<|Ax<|BZ CQ (zC (dq N T) t U N.FCa<|Aa (Ep Jc (Bc (pv 0) U) Ge<|Ex<|Ey M (Bc (pv 0) U) (pv 1)<|λ_ _=>rfl) Ab)<|pv 2,?_⟩;obtain⟨⟨V,fs,bl,bn,kp,kr,i6,na,oq,y,d,l1,l2,l3,l4,lm,h2,h3,h4,h5,h6,h7,h8,h9⟩,sP,rV,tf⟩:=id O.o;obtain⟨F,X,A,G,pp,kl,b,FB,d0,m,B,W,m3,m4,z,p,J,L,g6,g7,lv,g8,g9⟩:=id O.r;obtain⟨I,S⟩:F=V/\X=fs:=by rw[d] at m;cases m;exact⟨U,U⟩
 subst I S;have hj:j<rk.length:=(ag.mp s).1;have hl:=p.length;rw[af] at hl;have g:=Ed.k (k:=Sum.inr r.1) J;rw[L j r s] at g;refine⟨_,U,x,C,_,_,_,U,d,T.cl,T.n_rank_list,B,_,U,x,C,_,_,_,U,d,T.cl,T.n_rank_numbers,W,_,U,G,_,U,g,_,U,A,b,U,ma z,λc e=>?_⟩;have f:=BL (o:=HO.lst<|Er b none<|some (j:Int)) e;have i:upd H c (HO.lst<|Er b none<|some (j:Int)) c=_:=Aj;generalize upd H c (HO.lst (Er b none (some (j:Int))))=H6 at f i |-;rw[Jq b j (by omega)] at i;refine⟨c,(rk.map YL).take j,b.take j,U,i,Ko (Aq f p) j,(by rw[cy,af];have:=O.nr;omega),(λa R=>by obtain⟨Y,l,rfl⟩:=ar.mp<|hG R;exact be (O.nz Y l)<|by decide),λv u=>?_⟩;have D:(((rk.map YL).take j).map λa=>a.2.1)=(rk.take j).map (λr=>r.2.1):=by
  rw[<-ib,ay];rfl
 rw[D];exact⟨_,U,_,_,U,U,q v<|f.trans u⟩
def Q8(l:List Nat):Nat:=l.foldl (· ||| ·) 0
theorem Qe(l:List Nat)(n:Nat):Q8 (l++[n])=Q8 l ||| n:=by
 unfold Q8;rw[kS];rfl
theorem T4:∀(l:List Nat)(i:Nat),(Q8 l).testBit i=true ↔ ∃n∈l,n.testBit i=true:=by
 have key:∀(k:Nat)(l:List Nat)(i:Nat),l.length=k->((Q8 l).testBit i=true ↔ ∃n∈l,n.testBit i=true):=by
  intro k
  induction k with
  |zero =>
   intro l i h
   cases l with
   |nil=>exact⟨λz=>absurd z (by unfold Q8;rw[List.foldl_nil,Nat.zero_testBit];decide),λ⟨n,d,_⟩=>nomatch d⟩
   |cons a b=>cases h
  |succ k f =>
   intro l i h;obtain⟨a,z,rfl⟩:=FJ (l:=l)<|by intro e;rw[e] at h;cases h
   rw[ai,aI] at h;rw[Qe,Yt,f a i<|by omega];constructor
   ·rintro (⟨n,d,c⟩ | c)
    ·exact⟨n,dS _ d,c⟩
    ·exact⟨z,by simp,c⟩
   ·rintro⟨n,d,c⟩;rcases bE.mp d with h | h
    ·exact .inl ⟨n,h,c⟩
    ·rw[ax.mp h] at c;exact .inr c
 exact λl i=>key l.length l i U
inductive ZM(vs:List V)(H:Hp)(Q:VK)(b9:XK):Prop
 | mk(p:Addr)(l:List Nat):vs=[.ref p]->H p=some (.lst (nV l))->l.length<=500->Q (.int (Q8 l:Nat)) H->ZM vs H Q b9
theorem Z4:Av ["sets","some","each"] ["sets"] (Af zc):=Bg
include N T in
theorem XC:An P w K mg base Bb 1 aD.fUn aD.dUn ["sets"] ZM:=by
 refine N.FUn.1.Dg Z4 λH o Q E k h=>?_;obtain⟨p,l,rfl,g,m,q⟩:=h;refine⟨_,(Ae (Be (i:=1) Z4.nd U (Or.inl U) Ac)
  (Ae (Dk PassesOwn.never U (Bl<|pv 0) (Bt (i:=2) Z4.nd U<|Or.inl U)<|Ag<|Be (i:=1) Z4.nd U (Or.inl U)<|BZ NK (pv 1)<|pv 2)
  (Ag<|Ax<|pv 1))),?_⟩
 have e:De K H p<|nV l:=.inl<|.inl g
 refine⟨_,U,p,U,⟨_,e⟩,Ia (K:=K) (a:=p) (xs:=nV l) (λi σ b=>b=H/\∃c,σ=[some (.ref p),some<|.int (Q8 (l.take i):Nat),c]) ⟨U,_,U⟩ (λi σ b _ h=>by rw[h.1];exact e) ?_ ?_⟩
 ·rintro i y σ b d ⟨rfl,c,rfl⟩;rw[am] at d;obtain⟨n,j,rfl⟩:=av.mp d;refine⟨_,U,_,U,_,_,U,U,?_⟩;refine⟨U,some<|.int (n:Int),?_⟩;try dsimp only
  rw[Iv,cr,j];show _=[some (V.ref p),some<|V.int ((Q8 (l.take i++[n]):Nat):Int),_];rw[Qe];rfl
 ·rintro σ b ⟨rfl,c,rfl⟩;have f:l.take (nV l).length=l:=List.take_of_length_le<|by simp
  rw[f];exact⟨_,U,q⟩
def JX(kbs:List Kb)(k:Nat):Nat:=match kbs[k]? with
 |some (.pl _ b)=>b
 |some (.cp b _ _)=>b
 |none=>0
theorem Tu{c:Nat->Str}{k:Nat}(h:(Bq c kbs)[k]? = some r):∃rs,r=⟨r.w,r.nm,.str (c<|JX kbs k)::rs⟩:=by
 obtain⟨z,a,rfl⟩:=Gv h;unfold JX;rw[a]
 cases z with
 |cp i j s=>exact⟨_,U⟩
 |pl w i=>exact⟨_,U⟩
theorem WY{k:Nat}{z:Kb}(h:UJ n kbs)(a:kbs[k]? = some z):JX kbs k<n:=by
 have b:=h.ok z<|ah a
 unfold JX;rw[a]
 cases z with
 |cp i j s=>exact b.1
 |pl w i=>exact b.1
inductive Ut(kbs:List Kb)(D b:Nat):Prop
 | mk(k:Nat)(z:Kb):kbs[k]? = some z->z.w = "mute"->D.testBit k=true->JX kbs k=b->Ut kbs D b
inductive jT(C:Addr)(vs:List V)(H:Hp)(Q:VK)(b9:XK):Prop
 | mk(x:Addr)(c:Nat->Str)(sz:List Nat)(kbs:List Kb)(D:Nat):vs=[.ref x,.int (D:Nat)]->Dw C H x (Bd c sz) (Bq c kbs)->UJ sz.length kbs->(∀L (ml:List Nat) H',H L=none->Am H H'->H' L=some (.lst (nV ml))->(∀b,b∈ml ↔ Ut kbs D b)->ml.length<=200->Q (.ref L) H')->jT C vs H Q b9
theorem yz:Av A0 A0<|Af vW:=Bg
include N T in
theorem qz:An P w K mg base Bb 3 aD.fMu aD.dMu A0<|jT C:=by
 refine N.FMu.1.Dg yz λH vs Q E d h=>?_;obtain⟨x,c,sz,a,D,rfl,O,oe,q⟩:=h;refine⟨_,Ag<|Ax<|Br U (Bf (osc:=Af vW) (N:=A0) U U<|by decide) (Bl<|zC (Xp N T) d U N.FDc<|Aa (pv 0)<|Aa (pv 1)<|Aa BP Ab) (λ_ _ _ _=>Ci)<|λ_ _ _ _=>(Bp (pv 1) T.cl N.FOm.2.2 (uU N T) (ad d) N.FOm.2.1 .nil Ao<|Aa (pv 0) Ab),?_⟩;refine⟨_,U,_,U,x,Bd c sz,Bq c a,"mute",D,U,O,λG p J ab t A f I=>?_⟩;have j:De K J G<|nV p:=.inl<|.inl A
 have F:=O.mono t;let g:V->V:=λv=>match v with | .int k=>.int (JX a k.toNat:Nat) | _=>.non
 refine⟨G,U,⟨_,j⟩,DW (K:=K) (xs:=nV p) (λ_=>true) g j (BJ<|by rw[af];omega) (λy B l s R k=>k l<|Am.refl l) (λy B _ l s R k=>?_)<|λM W on s2 u=>?_⟩
 ·obtain⟨i,X,rfl⟩:=ar.mp B;obtain⟨r,d,n,o⟩:=(f i).mp X;obtain⟨Z,er⟩:=Tu d;rw[er] at d;obtain⟨z,m,_⟩:=Gv d;have hb:=WY oe m;obtain⟨⟨dx,fs,bl,bn,kp,kr,i6,na,oq,S,Y,l1,l2,l3,l4,lm,_⟩,_⟩:=id<|F.mono s;have L:=k l<|Am.refl l
  refine⟨_,U,x,dx,fs,U,Y,lm _<|by decide,_,U,x,Bd c sz,Bq c a,i,JX a i,(c<|JX a i,sz[JX a i]),_,_,Z,U,F.mono s,d,Fx<|ae hb,L⟩
 ·rw[bq.mpr (λ_ _=>rfl)] at u;have e:(nV p).map g=nV (p.map<|JX a):=by
   unfold nV;rw[ay,ay];rfl
  rw[e] at u;refine q M _ W (t.free on) (t.trans s2) u (λb=>?_)<|by rw[af];exact I
  rw[ar];constructor
  ·rintro⟨k,hk,rfl⟩;obtain⟨r,d,n,o⟩:=(f k).mp hk;obtain⟨z,m,rfl⟩:=Gv d;exact⟨k,z,m,(KD _ _ _).symm.trans n,o,U⟩
  ·rintro⟨k,z,m,n,o,rfl⟩;exact⟨k,(f k).mpr ⟨_,GJ m,(KD _ _ _).trans n,o⟩,U⟩
inductive mq(sz:List Nat)(i b:Nat):Prop
 | mk(n:_):n<sz.getD b 0->b<sz.length->i=(sz.take b).sum+n->mq sz i b
theorem Xq{c:Nat->Str}{sz:List Nat}{a:Nat}(h:(Ew<|Bd c sz)[i]? = some (a,n)):mq sz i a:=by
 obtain⟨b,f,g,e⟩:=K4 h;obtain⟨z,d,rfl⟩:=Vd f;rw[Cz] at e;refine⟨n,?_,(ag.mp d).1,e⟩;rw[bi,d];exact g
theorem Yr{sz:List Nat}{a b:Nat}(c:mq sz i a)(l:mq sz i b):a=b:=by
 obtain⟨n,d,f,rfl⟩:=c;obtain⟨m,j,g,e⟩:=l;have key:∀{a b n m:Nat},a<b->b<sz.length->n<sz.getD a 0->(sz.take a).sum+n≠(sz.take b).sum+m:=λ{a b n m} k g d e=>by
  have c:(sz.take<|a+1).sum<=(sz.take b).sum:=PL sz<|by omega
  have f:a<sz.length:=by omega
  rw[cr,ae f,fA] at c;rw[bi,ae f] at d;have o:n<sz[a]:=d;simp at c;omega
 rcases Nat.lt_trichotomy a b with h | h | h
 ·exact absurd e<|key h g d
 ·exact h
 ·exact absurd e.symm<|key h f j
inductive jh(C:Addr)(vs:List V)(H:Hp)(Q:VK)(b9:XK):Prop
 | mk(x:Addr)(c:Nat->Str)(sz:List Nat)(kbs:List Kb)(D n:Nat):vs=[.ref x,.int (D:Nat),.int (n:Nat)]->Dw C H x (Bd c sz) (Bq c kbs)->UJ sz.length kbs->n<2 ^ 1200->(∀i,n.testBit i=true->i<sz.sum)->sz.sum<=305->(∀(m:Nat) H',Am H H'->(∀j,m.testBit j=true ↔ n.testBit j=true/\∀b,mq sz j b->¬ Ut kbs D b)->Q (.int (m:Nat)) H')->jh C vs H Q b9
theorem nu:Av ["organ","knobs","keys","muted"] vF (Af vN):=Bg
include N T in
theorem tR:An P w K mg base Bb 4 aD.fUk aD.dUk vF<|jh C:=by
 refine N.FUk.1.Dg nu λH vs Q E G h=>?_;obtain⟨x,c,sz,t,D,n,rfl,O,oe,hn,W,mh,q⟩:=h;refine⟨_,(Ae (Be (i:=3) nu.nd U (Or.inr U)<|zC (qz N T) G U N.FMu<|Aa (pv 0)<|Aa (pv 1) Ab)
  (Ag<|Ax<|zC (NZ N T) G U N.FSt<|Aa (Br U (Bf (osc:=Af vN) (N:=["organ","knobs","keys","muted"]) U U<|by decide) (Bl<|zC (QV N T) G U N.FMe<|Aa (pv 2) Ab) (λ_ _ _ _=>(G9<|BR (M5 (K:=K) U) (Az (Ar (K:=K) U) (Bp (pv 1) T.cl N.FOo.2.2 (Tg N T) (ad G) N.FOo.2.1 .nil Ao<|Aa (pv 0) Ab) Ac<|λ_ _=>rfl) (pv 4) U))<|λ_ _ _ _=>(pv 0)) Ab)),?_⟩
 refine⟨_,U,_,U,x,c,sz,t,D,U,O,oe,λML f H1 Mb s1 Y o ab=>?_⟩;refine⟨_,U,n,U,hn,λP1 H2 Fa L mi=>?_⟩;have u:De K H2 P1<|nV<|Wd.mem n:=.inl<|.inl mi
 have O2:=O.mono<|s1.trans L
 have an:=Wd.Mx hn;have ac:(Wd.mem n).length<=305:=by
  have nd:(Wd.mem n).Nodup:=by unfold Wd.mem;exact List.Pairwise.filter _ List.nodup_range
  refine be (Fo sz.sum nd λi g=>W i<|Wd.mem_iff.mp g) mh
 have e:∀{i},i∈Wd.mem n->∃a m,(Ew<|Bd c sz)[i]? = some (a,m):=λ{i} g=>by
  have M:i<(Ew<|Bd c sz).length:=by rw[Eh,Cz];exact W i<|Wd.mem_iff.mp g
  exact⟨_,_,ae M⟩
 let p:V->Bool:=λv=>match v with | .int i=>(match (Ew<|Bd c sz)[i.toNat]? with | some (a,_)=>!decide (a∈f) | none=>true) | _=>true
 refine⟨P1,U,⟨_,u⟩,DW (K:=K) (xs:=nV<|Wd.mem n) p id u (BJ<|by rw[af];omega) (λy Z s F R k=>?_) (λy Z _ s F R k=>⟨_,U,k s<|Am.refl s⟩)<|λD3 H3 E2 s3 I=>?_⟩
 ·obtain⟨i,g,rfl⟩:=ar.mp Z;obtain⟨a,m,d⟩:=e g;have A:p (V.int (i:Nat)) = !decide (a∈f):=by
   show (match (Ew<|Bd c sz)[((i:Nat):Int).toNat]? with | some (a,_)=>!decide (a∈f) | none=>true)=_;rw[aS,d]
  have kk:=k s<|Am.refl s
  rw[A] at kk;obtain⟨⟨dx,fs,bl,bn,kp,kr,i6,na,oq,ap,l,l1,l2,l3,l4,lm,_⟩,_⟩:=id<|O2.mono F;refine⟨_,U,x,dx,fs,U,l,lm _<|by decide,_,U,x,Bd c sz,Bq c t,i,(a,m),U,O2.mono F,d,λyv S=>?_⟩;obtain⟨T0,rfl,hT⟩:=S;refine⟨T0,_,_,_,U,U,ma hT,Ah (j:=0) U,_,U,ML,_,U,.inl<|ma<|F _ _<|L _ _ Y,U,Ww f,_,U,?_⟩;have J:inV (V.int (a:Nat)) (nV f)=decide (a∈f):=bz a f;rw[J];exact kk
 ·rw[ki] at I;have e3:(nV<|Wd.mem n).filter p=nV ((Wd.mem n).filter λi=>p<|.int (i:Nat)):=by
   unfold nV;rw[fg];rfl
  rw[e3] at I;have B:∀i∈(Wd.mem n).filter (λi=>p<|.int (i:Nat)),i<sz.sum:=λi g=>W i<|Wd.mem_iff.mp (bb.mp g).1
  refine⟨D3,_,U,I,be (cc _ _)<|by omega,λi g=>by have:=B i g;omega,λH4 s4=>?_⟩;refine q _ H4 (s1.trans<|L.trans<|s3.trans s4) λj=>?_;rw[Wd.HX,decide_eq_true_eq,bb,Wd.mem_iff];constructor
  ·rintro⟨l,r⟩;refine⟨l,λb hb hm=>?_⟩;obtain⟨a,m,d⟩:=e<|Wd.mem_iff.mpr l;have A:p (V.int (j:Nat)) = !decide (a∈f):=by
    show (match (Ew<|Bd c sz)[((j:Nat):Int).toNat]? with | some (a,_)=>!decide (a∈f) | none=>true)=_;rw[aS,d]
   rw[A] at r;have X:=Yr hb<|Xq d
   subst X;rw[decide_eq_true ((o b).mpr hm)] at r
   cases r
  ·rintro⟨l,r⟩;refine⟨l,?_⟩;obtain⟨a,m,d⟩:=e<|Wd.mem_iff.mpr l;have A:p (V.int (j:Nat)) = !decide (a∈f):=by
    show (match (Ew<|Bd c sz)[((j:Nat):Int).toNat]? with | some (a,_)=>!decide (a∈f) | none=>true)=_;rw[aS,d]
   rw[A,decide_eq_false λz=>r a (Xq d)<|(o a).mp z];rfl
def O4(c:Nat->Str)(sz:List Nat)(kbs:List Kb)(D n j:Nat):Prop:=Ph (stp (Bd c sz) kbs D) (λi=>n.testBit i=true) j \/ (n.testBit j=true/\∀b,mq sz j b->¬ Ut kbs D b)
inductive iG(C:Addr)(vs:List V)(H:Hp)(Q:VK)(b9:XK):Prop
 | mk(x:Addr)(c:Nat->Str)(sz:List Nat)(kbs:List Kb)(D n:Nat):vs=[.ref x,.int (D:Nat),.int (n:Nat)]->Dw C H x (Bd c sz) (Bq c kbs)->UJ sz.length kbs->n<2 ^ 1200->(∀i,n.testBit i=true->i<sz.sum)->(∀(m:Nat) H',Am H H'->(∀j,m.testBit j=true ↔ O4 c sz kbs D n j)->Q (.int (m:Nat)) H')->iG C vs H Q b9
theorem yc:Av tT tT<|Af zX:=Bg
include N T in
theorem qj:An P w K mg base Bb 6 aD.fSk aD.dSk tT<|iG C:=by
 refine N.FSk.1.Dg yc λH u Q E d h=>?_;obtain⟨x,c,sz,b,D,n,rfl,O,i,g,f,q⟩:=h;refine⟨_,Ag<|Ax<|BZ NK (zC (qD N T) d U N.FCq<|Aa (pv 0)<|Aa (pv 1)<|Aa (pv 2) Ab)<|zC (tR N T) d U N.FUk<|Aa (pv 0)<|Aa (pv 1)<|Aa (zC (du N T) d U N.FHk<|Aa (pv 0)<|Aa (pv 2) Ab) Ab,?_⟩;have a:((Bd c sz).map (·.2)).sum=sz.sum:=by rw[Cz]
 have o:=Fj O;rw[a] at o;refine⟨_,U,_,U,_,U,x,c,sz,b,D,n,U,O,i,g,f,λl t e r=>?_⟩;refine⟨_,U,_,U,_,U,_,U,x,Bd c sz,Bq c b,n,U,O.mono e,g,?_⟩;rw[a,Tn f];refine⟨x,c,sz,b,D,n,U,O.mono e,i,g,f,o,λk m p s=>?_⟩;refine⟨_,_,U,U,?_⟩;show Q (.int<|Builtin.bitOr (l:Int) (k:Int)) m;rw[Iv];refine q (l ||| k) m (e.trans p) λj=>?_;rw[Yt,r,s];rfl
def bG(sz:List Nat)(b n:Nat):Nat:=Wd.mv n (-((sz.take b).sum:Int))<|sz.getD b 0
theorem Xn(n:Nat)(k:Int)(c:Nat):Wd.mv n k c<2 ^ c:=by
 unfold Wd.mv;exact Nat.mod_lt _<|Nat.two_pow_pos _
inductive jw(C:Addr)(vs:List V)(H:Hp)(Q:VK)(b9:XK):Prop
 | mk(x:Addr)(c:Nat->Str)(sz:List Nat)(ks:List R)(b n:Nat):vs=[.ref x,.int (b:Nat),.int (n:Nat)]->Dw C H x (Bd c sz) ks->b<sz.length->n<2 ^ 1200->(∀H',Am H H'->Q (.int (bG sz b n:Nat)) H')->jw C vs H Q b9
theorem pH:Av ["organ","board","keys","told"] C8 (Af yS):=Bg
include N T in
theorem oA:An P w K mg base Bb 3 aD.fNb aD.dNb C8<|jw C:=by
 refine N.FNb.1.Dg pH λH vs Q E g h=>?_;obtain⟨x,c,sz,s,b,n,rfl,O,z,Y,q⟩:=h;refine⟨_,(Ae (Be (i:=3) pH.nd U (Or.inl U)<|Az (Bk (K:=K) U) (Bm (pv 0) T.cl N.FOb.2.2 (Qy N T) (ad g) N.FOb.2.1 .nil Ao) (pv 1)<|λ_ _=>rfl)
  (Ag<|Ax<|zC (XS N T) g U N.FSh<|Aa (pv 2)<|Aa (Ja LC<|Bp (pv 0) T.cl N.FOk.2.2 (Uu N T) (ad g) N.FOk.2.1 .nil Ao<|Aa (Az (Ar (K:=K) U) (pv 3) Ac<|λ_ _=>rfl)<|Aa Ac Ab)<|Aa (Az (Ar (K:=K) U) (pv 3) Ac<|λ_ _=>rfl) Ab)),?_⟩
 have M:=Fj O;rw[Cz] at M;have J:(sz.take b).sum<=sz.sum:=by
  have:=congrArg List.sum<|gc b sz
  rw[fA] at this;omega
 have e:(Bd c sz)[b]? = some (c b,sz[b]):=Fx<|ae z
 have o:=O.sz (c b,sz[b])<|ah e
 have y:sz[b]<=61:=o;have a:(((Bd c sz).take b).map (·.2)).sum=(sz.take b).sum:=by rw[ib,Cz]
 have l:sz.getD b 0=sz[b]:=by rw[bi,ae z];rfl
 have d:∀{A:Hp},Dw C A x (Bd c sz) s->∃f fs,A x=some (.ins C f fs)/\∀m∈meths,fs.lookup m=none:=λL=>by
  obtain⟨⟨f,fs,_,_,_,_,_,_,_,_,V,_,_,_,_,t,_⟩,_⟩:=L;exact⟨f,fs,V,t⟩
 obtain⟨f,fs,F,t⟩:=d O;refine⟨_,U,x,f,fs,U,F,t _<|by decide,x,Bd c sz,s,U,O,λD R H2 Z p W k=>?_⟩;obtain⟨v3,B,T3,rfl,u⟩:=B_ k e;refine⟨_,U,D,R,_,_,U,U,ma W,Ah B,?_⟩;obtain⟨I,r,X,S⟩:=d<|O.mono p;refine⟨_,U,_,U,x,I,r,U,X,S _<|by decide,_,U,T3,_,_,_,U,U,ma u,Ah (j:=0) U,x,Bd c sz,s,b,(c b,sz[b]),0,U,O.mono p,e,λG v=>?_⟩;refine⟨_,U,_,U,T3,_,_,_,U,U,ma<|v _ _ u,Ah (j:=1) U,n,_,sz[b],U,Y,?_,?_,by omega,?_⟩
 ·rw[a];omega
 ·rw[a];omega
 ·have fin:=q G<|p.trans v
  unfold bG at fin;rw[l] at fin;rw[a,Int.add_zero];exact fin
def gM(rk:List<|Str×Nat×Int)(r:Nat):Nat:=((rk.take r).map<|λr=>r.2.1).sum
def Ra(rk:List<|Str×Nat×Int)(r:Nat):Nat:=(rk.map<|λr=>r.2.1).getD r 0
def ZZ(rk:List<|Str×Nat×Int):Nat:=(rk.map<|λr=>r.2.1).sum
structure lO(rk:List<|Str×Nat×Int)(l:Ln):Prop where
 r:l.r<rk.length
 lo:0<=l.lo
 le:l.lo<=l.hi
 hi:l.hi<=60
 s1 : -200<=l.sh
 s2:l.sh<=200
def Qa(rk:List<|Str×Nat×Int)(l:Ln)(n:Nat):Nat:=Wd.mv (Wd.mv (Wd.mv n (-l.lo) (l.hi - l.lo+1).toNat) (l.lo+l.sh)<|Ra rk l.r) (gM rk l.r:Nat)<|ZZ rk
theorem RQ{rk:List (Str×Nat×Int)}{r:Nat}(h:r<rk.length):gM rk r+Ra rk r<=ZZ rk:=by
 unfold gM Ra ZZ;have e:((rk.map<|λr=>r.2.1).take<|r+1).sum=((rk.take r).map<|λr=>r.2.1).sum+(rk.map<|λr=>r.2.1).getD r 0:=by
  rw[cr,ae<|by rw[af];exact h,fA,ib,bi,ae<|by rw[af];exact h];simp
 have:=congrArg List.sum<|gc (r+1)<|rk.map<|λr=>r.2.1
 rw[fA] at this;omega
theorem jB{rk:List (Str×Nat×Int)}(a:rk.length<=12)(d:∀r∈rk,r.2.1<=97):ZZ rk<=1164:=by
 have h:=Ot (rk.map gf) 97 λb f=>by
  obtain⟨r,c,rfl⟩:=ar.mp f;exact d r c
 rw[Eh,ay,af] at h;have:rk.length * 97<=12 * 97:=kC _ a;have e:ZZ rk=(rk.map ((·.2) ∘ gf)).sum:=rfl;omega
inductive lB(C:Addr)(vs:List V)(H:Hp)(Q:VK)(b9:XK):Prop
 | mk(x:Addr)(bs:List (Str×Nat))(rk:List (Str×Nat×Int))(ks:List R)(ls:List (List Ln:_))(y:V)(l:Ln)(n:Nat):vs=[.ref x,y,.int (n:Nat)]->En C H x bs rk ks ls->TupAt H (aG l) y->lO rk l->n<2 ^ 1200->(∀H',Am H H'->Q (.int (Qa rk l n:Nat)) H')->lB C vs H Q b9
theorem aJ:Av ["organ","line","numbers","rank","from_low","on_rank"] BT (Af xJ):=Bg
include N T in
theorem uL:An P w K mg base Bb 3 aD.fLl aD.dLl BT<|lB C:=by
 refine N.FLl.1.Dg aJ λH vs Q E e h=>?_;obtain⟨x,bs,rk,u,s,y,l,n,rfl,O,hy,b,hn,q⟩:=h;refine⟨_,(Ae (Be (i:=3) aJ.nd U (Or.inl U)<|Az (Bk (K:=K) U) (Bm (pv 0) T.cl N.FOr.2.2 (rJ N T) (ad e) N.FOr.2.1 .nil Ao) (Az (Ar (K:=K) U) (pv 1) Ac<|λ_ _=>rfl)<|λ_ _=>rfl)
  (Ae (Be (i:=4) aJ.nd U (Or.inl U)<|zC (XS N T) e U N.FSh<|Aa (pv 2)<|Aa (Ja LC<|Az (Ar (K:=K) U) (pv 1) Ac<|λ_ _=>rfl)<|Aa (BZ CQ (BZ GF (Az (Ar (K:=K) U) (pv 1) Ac<|λ_ _=>rfl)<|Az (Ar (K:=K) U) (pv 1) Ac<|λ_ _=>rfl) Ac) Ab)
  (Ae (Be (i:=5) aJ.nd U (Or.inl U)<|zC (XS N T) e U N.FSh<|Aa (pv 4)<|Aa (BZ CQ (Az (Ar (K:=K) U) (pv 1) Ac<|λ_ _=>rfl)<|Az (Ar (K:=K) U) (pv 1) Ac<|λ_ _=>rfl)<|Aa (Az (Ar (K:=K) U) (pv 3) Ac<|λ_ _=>rfl) Ab)
  (Ag<|Ax<|zC (XS N T) e U N.FSh<|Aa (pv 5)<|Aa (Bp (pv 0) T.cl N.FOe.2.2 (uD N T) (ad e) N.FOe.2.1 .nil Ao<|Aa (Az (Ar (K:=K) U) (pv 3) Ac<|λ_ _=>rfl)<|Aa Ac Ab)<|Aa (Bm (pv 0) T.cl N.FOq.2.2 (tE N T) (ad e) N.FOq.2.1 .nil Ao) Ab)))),?_⟩
 obtain⟨f,rfl,hT⟩:=hy;have ab:=jB O.nr O.nz;have g:l.r<rk.length:=b.r;have an:=RQ g;have G:=ae g;have ac:rk[l.r].2.1<=97:=O.nz _<|eR b.r
 have J:Ra rk l.r=rk[l.r].2.1:=by
  unfold Ra;rw[bi,am,G];rfl
 have o:(Ew<|rk.map gf).length=ZZ rk:=by
  rw[Eh,ay];rfl
 have Y:=b.lo;have h2:=b.le;have h3:=b.hi;have h4:=b.s1;have h5:=b.s2;have a:∀{S:Hp},En C S x bs rk u s->∃p fs,S x=some (.ins C p fs)/\∀m∈meths,fs.lookup m=none:=λO'=>by
  obtain⟨⟨p,fs,_,_,_,_,_,_,_,_,Y,_,_,_,_,I,_⟩,_⟩:=O'.o;exact⟨p,fs,Y,I⟩
 obtain⟨p,fs,hx,I⟩:=a O;refine⟨_,U,x,p,fs,U,hx,I _<|by decide,x,bs,rk,u,s,U,O,λD md H2 hD d mi v=>?_⟩;have c:=d _ _ hT;have k:(rk.map YL)[l.r]? = some (YL rk[l.r]):=by rw[am,G];rfl
 obtain⟨v3,HG,T3,rfl,R⟩:=B_ v k;refine⟨_,U,f,_,_,_,U,U,ma c,Ah (j:=0) U,D,md,_,_,U,U,ma mi,Ah HG,?_⟩;have e1:l.hi - l.lo+1=(((l.hi - l.lo+1).toNat:Nat):Int):=by omega
 refine⟨_,U,_,U,f,_,_,_,U,U,ma c,Ah (j:=2) U,_,U,_,U,f,_,_,_,U,U,ma c,Ah (j:=3) U,_,U,f,_,_,_,U,U,ma c,Ah (j:=2) U,_,_,U,U,_,_,U,U,n,-l.lo,(l.hi - l.lo+1).toNat,by rw[<-e1] <;> rfl,hn,by omega,by omega,by omega,?_⟩;have X:=Xn n (-l.lo) (l.hi - l.lo+1).toNat;generalize L:Wd.mv n (-l.lo) (l.hi - l.lo+1).toNat=t at X |-;have A:t<2 ^ 1200:=br X<|iO (by decide)<|by omega
 refine⟨_,U,_,U,f,_,_,_,U,U,ma c,Ah (j:=2) U,_,U,f,_,_,_,U,U,ma c,Ah (j:=1) U,_,_,U,U,_,U,T3,_,_,_,U,U,ma R,Ah (j:=1) U,t,l.lo+l.sh,rk[l.r].2.1,U,A,by omega,by omega,by omega,?_⟩;have W:=Xn t (l.lo+l.sh) rk[l.r].2.1;generalize F:Wd.mv t (l.lo+l.sh) rk[l.r].2.1=V at W |-;have B:V<2 ^ 1200:=br W<|iO (by decide)<|by omega
 obtain⟨Kt,M,tw,LW⟩:=a<|O.mono d;refine⟨_,U,_,U,x,Kt,M,U,tw,LW _<|by decide,_,U,T3,_,_,_,U,U,ma R,Ah (j:=0) U,x,bs,rk,u,s,l.r,rk[l.r],0,U,O.mono d,G,λZ z=>?_⟩;obtain⟨NY,FF,MM,E8⟩:=a<|(O.mono d).mono z;refine⟨_,U,x,NY,FF,U,MM,E8 _<|by decide,x,bs,rk,u,s,U,(O.mono d).mono z,V,_,(Ew<|rk.map gf).length,U,B,?_,?_,?_,?_⟩
 ·omega
 ·have:((rk.take l.r).map<|λr=>r.2.1).sum=gM rk l.r:=rfl;omega
 ·omega
 ·have fin:=q Z<|d.trans z
  unfold Qa at fin;rw[L,J,F] at fin;rw[o,Int.add_zero];exact fin
def vL(H:Hp):V->Ln
 |.ref T=>match H T with
  |some (.tup [.int r,.int sh,.int lo,.int hi])=>⟨r.toNat,sh,lo,hi⟩
  |_=>⟨0,0,0,0⟩
 |_=>⟨0,0,0,0⟩
theorem WP{l:Ln}{v:V}(h:TupAt H (aG l) v):vL H v=l:=by
 obtain⟨T,rfl,e⟩:=h;show (match H T with | some (.tup [.int r,.int sh,.int lo,.int hi])=>(⟨r.toNat,sh,lo,hi⟩:Ln) | _=>⟨0,0,0,0⟩)=l;rw[e];show (⟨((l.r:Nat):Int).toNat,l.sh,l.lo,l.hi⟩:Ln)=l;rw[aS]
theorem aW{l:List Ln}(h:Paired (λx y=>TupAt H (aG x) y) l vs):vs.map (vL H)=l:=by
 induction h with
 |nil=>rfl
 |cons x y a=>rw[cw,a,WP x]
def fM(sz:List Nat)(rk:List<|Str×Nat×Int)(b:Nat)(l:List Ln)(n:Nat):Nat:=Q8<|l.map λln=>Qa rk ln<|bG sz b n
inductive jJ(C:Addr)(vs:List V)(H:Hp)(Q:VK)(b9:XK):Prop
 | mk(x:Addr)(c:Nat->Str)(sz:List Nat)(rk:List (Str×Nat×Int))(kbs:List Kb)(ls:List (List Ln:_))(k n:Nat)(z:Kb)(l:List Ln):vs=[.ref x,.int (k:Nat),.int (n:Nat)]->En C H x (Bd c sz) rk (Bq c kbs) ls->UJ sz.length kbs->kbs[k]? = some z->ls[k]? = some l->l.length<=100->(∀ln∈l,lO rk ln)->n<2 ^ 1200->(∀H',Am H H'->Q (.int (fM sz rk (JX kbs k) l n:Nat)) H')->jJ C vs H Q b9
theorem jX:Av BN EO<|Af u_:=Bg
include N T in
theorem uW:An P w K mg base Bb 4 aD.fBs aD.dBs EO<|jJ C:=by
 refine N.FBs.1.Dg jX λH vs Q E b h=>?_;obtain⟨x,c,sz,rk,a,B,k,n,z,l,rfl,O,oe,hz,hl,Zp,hg,hn,q⟩:=h;refine⟨_,(Ae (Be (i:=3) jX.nd U (Or.inl U)<|Bp (pv 0) T.cl N.FOs.2.2 (o9 N T) (ad b) N.FOs.2.1 .nil Ao<|Aa (pv 1) Ab)
  (Ae (Be (i:=4) jX.nd U (Or.inr U)<|zC (oA N T) b U N.FNb<|Aa (pv 0)<|Aa (Az (Ar (K:=K) U) (pv 3) Ac<|λ_ _=>rfl)<|Aa (pv 2) Ab)
  (Ag<|Ax<|zC (XC N T) b U N.FUn<|Aa (Br U (Bf (osc:=Af u_) (N:=BN) U U<|by decide) (Bl<|Az (Ar (K:=K) U) (pv 3) Ac<|λ_ _=>rfl) (λ_ _ _ _=>Ci)<|λ_ _ _ _=>(zC (uL N T) b U N.FLl<|Aa (pv 1)<|Aa (pv 0)<|Aa (pv 5) Ab)) Ab))),?_⟩
 have b:=GJ (c:=c) hz;obtain⟨rs,er⟩:=Tu b;rw[er] at b;have J:=WY oe hz;have o:(Bd c sz)[JX a k]? = some (c<|JX a k,sz[JX a k]):=Fx<|ae J
 have f:∀{d:Hp},En C d x (Bd c sz) rk (Bq c a) B->∃s fs,d x=some (.ins C s fs)/\∀m∈meths,fs.lookup m=none:=λO'=>by
  obtain⟨⟨s,fs,_,_,_,_,_,_,_,_,h1,_,_,_,_,S,_⟩,_⟩:=O'.o;exact⟨s,fs,h1,S⟩
 obtain⟨s,fs,hx,S⟩:=f O;refine⟨_,U,x,s,fs,U,hx,S _<|by decide,_,U,x,Bd c sz,rk,Bq c a,B,k,JX a k,(c<|JX a k,sz[JX a k]),_,_,rs,l,U,O,b,o,hl,λZ L0 A H1 _ s1 X L E4=>?_⟩;have O1:=O.mono s1;refine⟨_,U,_,U,Z,_,_,_,U,U,ma X,Ah (j:=0) U,_,U,x,c,sz,Bq c a,JX a k,n,U,O1.o,J,hn,λF t=>?_⟩;have O2:=O1.mono t;have G:=Xn n (-((sz.take<|JX a k).sum:Int))<|sz.getD (JX a k) 0
 have ab:sz.getD (JX a k) 0<=61:=by
  rw[bi,ae J];exact O.o.sz _<|ah o
 have p:bG sz (JX a k) n<2 ^ 1200:=br G<|iO (by decide)<|by omega
 have NR:=t _ _ L;have M:=Aq t E4;have ac:=M.length;have g:De K F L0 A:=.inl<|.inl NR
 refine⟨_,U,Z,_,_,_,U,U,ma<|t _ _ X,Ah (j:=1) U,L0,U,⟨_,g⟩,DW (K:=K) (xs:=A) (λ_=>true) (λv=>.int (Qa rk (vL F v) (bG sz (JX a k) n):Nat)) g (BJ<|by omega) (λy W d I R k=>k d<|Am.refl d) (λy W _ d I R Y=>?_)<|λD3 H3 E2 s3 D=>?_⟩
 ·obtain⟨u,r8,r⟩:=Dl M W;have e:=WP r;rw[e] at Y;exact⟨_,U,_,U,_,U,x,Bd c sz,rk,Bq c a,B,y,u,_,U,O2.mono I,r.mono I,hg u r8,p,λH4 s4=>Y H4 s4⟩
 ·rw[bq.mpr (λ_ _=>rfl)] at D;have e3:(A.map λv=>V.int (Qa rk (vL F v) (bG sz (JX a k) n):Nat))=nV (l.map λu=>Qa rk u<|bG sz (JX a k) n):=by
   rw[<-aW M];unfold nV;rw[ay,ay];rfl
  rw[e3] at D;exact⟨D3,_,U,D,by rw[af];omega,q H3<|s1.trans<|t.trans s3⟩
def iw(sz:List Nat)(rk:List<|Str×Nat×Int)(kbs:List Kb)(ls:List<|List Ln)(cl:List Nat)(n:Nat):Nat:=Q8<|cl.map λk=>fM sz rk (JX kbs k) (ls.getD k []) n
abbrev e_(rk:List<|Str×Nat×Int)(ls:List<|List Ln):Prop:=∀l∈ls,l.length<=100/\∀ln∈l,lO rk ln
inductive jk(C:Addr)(vs:List V)(H:Hp)(Q:VK)(b9:XK):Prop
 | mk(x:Addr)(c:Nat->Str)(sz:List Nat)(rk:List (Str×Nat×Int))(kbs:List Kb)(ls:List (List Ln:_))(D n:Nat):vs=[.ref x,.int (D:Nat),.int (n:Nat)]->En C H x (Bd c sz) rk (Bq c kbs) ls->UJ sz.length kbs->e_ rk ls->n<2 ^ 1200->(∀(cl:List Nat) H',Am H H'->(∀k,k∈cl ↔ ∃z,kbs[k]? = some z/\z.w = "stop" /\ D.testBit k=true)->Q (.int (iw sz rk kbs ls cl n:Nat)) H')->jk C vs H Q b9
theorem wg:Av vF vF<|Af vV:=Bg
include N T in
theorem uY:An P w K mg base Bb 5 aD.fBa aD.dBa vF<|jk C:=by
 refine N.FBa.1.Dg wg λH vs Q E j h=>?_;obtain⟨x,c,sz,rk,a,b,D,n,rfl,O,oe,tS,hn,q⟩:=h;refine⟨_,Ag<|Ax<|zC (XC N T) j U N.FUn<|Aa (Br U (Bf (osc:=Af vV) (N:=vF) U U<|by decide) (Bl<|zC (Xp N T) j U N.FDc<|Aa (pv 0)<|Aa (pv 1)<|Aa BP Ab) (λ_ _ _ _=>Ci)<|λ_ _ _ _=>(zC (uW N T) j U N.FBs<|Aa (pv 1)<|Aa (pv 0)<|Aa (pv 3) Ab)) Ab,?_⟩;refine⟨_,U,_,U,x,Bd c sz,Bq c a,"stop",D,U,O.o,λS f X ab L B Y AZ=>?_⟩;have o:∀k,k∈f ↔ ∃z,a[k]? = some z/\z.w = "stop" /\ D.testBit k=true:=λk=>by
  rw[Y];constructor
  ·rintro⟨r,j,p,s⟩;obtain⟨z,d,rfl⟩:=Gv j;exact⟨z,d,(KD _ _ _).symm.trans p,s⟩
  ·rintro⟨z,d,p,s⟩;exact⟨_,GJ d,(KD _ _ _).trans p,s⟩
 have l:De K X S<|nV f:=.inl<|.inl B
 have O1:=O.mono L;let g:V->V:=λv=>match v with | .int k=>.int (fM sz rk (JX a k.toNat) (b.getD k.toNat []) n:Nat) | _=>.non
 refine⟨S,U,⟨_,l⟩,DW (K:=K) (xs:=nV f) (λ_=>true) g l (BJ<|by rw[af];omega) (λy G u J R k=>k u<|Am.refl u) (λy G _ u J R k=>?_)<|λZ H2 on s2 A=>?_⟩
 ·obtain⟨i,hi,rfl⟩:=ar.mp G;obtain⟨z,d,p,s⟩:=(o i).mp hi;have m:i<b.length:=by
   rw[O.nl,Qp];exact (ag.mp d).1
  have I:=ae m;have t:b.getD i []=b[i]:=by rw[bi,I];rfl
  have W:=tS b[i] (eR m);refine⟨_,U,_,U,_,U,x,c,sz,rk,a,b,i,n,z,b[i],U,O1.mono J,oe,d,I,W.1,W.2,hn,λM s4=>?_⟩;have F:R (.int (fM sz rk (JX a i) (b.getD i []) n:Nat)) M:=k M s4;rw[t] at F;exact F
 ·rw[bq.mpr (λ_ _=>rfl)] at A;have e:(nV f).map g=nV (f.map λk=>fM sz rk (JX a k) (b.getD k []) n):=by
   unfold nV;rw[ay,ay];rfl
  rw[e] at A;exact⟨Z,_,U,A,by rw[af];omega,q f H2 (L.trans s2) o⟩
inductive fX(C:Addr)(vs:List V)(H:Hp)(Q:VK)(b9:XK):Prop
 | mk(x:Addr)(c:Nat->Str)(sz:List Nat)(rk:List (Str×Nat×Int))(kbs:List Kb)(ls:List (List Ln:_))(D n:Nat):vs=[.ref x,.int (D:Nat),.int (n:Nat)]->En C H x (Bd c sz) rk (Bq c kbs) ls->UJ sz.length kbs->e_ rk ls->n<2 ^ 1200->(∀i,n.testBit i=true->i<sz.sum)->(∀(cl:List Nat) (m:Nat) H',Am H H'->(∀k,k∈cl ↔ ∃z,kbs[k]? = some z/\z.w = "stop" /\ D.testBit k=true)->(∀j,m.testBit j=true ↔ O4 c sz kbs D n j)->Q (.int (iw sz rk kbs ls cl m:Nat)) H')->fX C vs H Q b9
theorem AAG:Av tT tT<|Af vq:=Bg
include N T in
theorem qK:An P w K mg base Bb 7 aD.fSo aD.dSo tT<|fX C:=by
 refine N.FSo.1.Dg AAG λH z Q E e h=>?_;obtain⟨x,c,sz,rk,a,l,D,n,rfl,O,f,u,t,k,q⟩:=h;refine⟨_,Ag<|Ax<|zC (uY N T) e U N.FBa<|Aa (pv 0)<|Aa (pv 1)<|Aa (zC (qj N T) e U N.FSk<|Aa (pv 0)<|Aa (pv 1)<|Aa (pv 2) Ab) Ab,?_⟩;have p:=Fj O.o;rw[Cz] at p;refine⟨_,U,_,U,_,U,_,U,_,U,x,c,sz,a,D,n,U,O.o,f,t,k,λm y g j=>?_⟩;have b:m<2 ^ 1200:=by
  refine iP m λi A=>?_;rw[<-fo];intro v;rcases (j i).mp v with h | h
  ·have:=h.lt;rw[Cz] at this;omega
  ·have:=k i h.1;omega
 exact⟨x,c,sz,rk,a,l,D,m,U,O.mono g,f,u,b,λs o r d=>q s m o (g.trans r) d j⟩
theorem X5(sz:List Nat)(b n i:Nat):(bG sz b n).testBit i=true ↔ i<sz.getD b 0/\n.testBit ((sz.take b).sum+i)=true:=by
 unfold bG;rw[Wd.MN];have e:((i:Int) - -(((sz.take b).sum:Nat):Int)).toNat=(sz.take b).sum+i:=by omega
 rw[e,fi,fi,decide_eq_true_eq,decide_eq_true_eq];exact⟨λh=>⟨h.1,h.2.2⟩,λh=>⟨h.1,by omega,h.2⟩⟩
theorem TY{rk:List (Str×Nat×Int)}{l:Ln}(g:lO rk l)(n p:Nat):(Qa rk l n).testBit p=true ↔ ∃i:Nat,n.testBit i=true/\l.lo<=(i:Int)/\(i:Int)<=l.hi/\0<=(i:Int)+l.sh/\(i:Int)+l.sh<(Ra rk l.r:Nat)/\(p:Int)=(gM rk l.r:Nat)+((i:Int)+l.sh):=by
 have f:=g.lo;have q:=g.le;have s:=RQ g.r;unfold Qa;rw[Wd.MN,Wd.MN,Wd.MN];simp only[Bool.and_eq_true,decide_eq_true_eq];constructor
 ·rintro⟨b,d,k,h,m,j,a⟩;exact⟨_,a,by omega,by omega,by omega,by omega,by omega⟩
 ·rintro⟨i,a,b,d,r,o,e⟩;have c:(((((((p:Int) - ((gM rk l.r:Nat):Int)).toNat:Nat):Int) - (l.lo+l.sh)).toNat:Nat):Int) - -l.lo=(i:Int):=by omega
  refine⟨by omega,by omega,by omega,by omega,by omega,by omega,?_⟩;rw[c,aS];exact a
theorem Xk{sz:List Nat}{rk:List (Str×Nat×Int)}{b:Nat}{l:List Ln}{p:Nat}(g:∀ln∈l,lO rk ln):(fM sz rk b l n).testBit p=true ↔ ∃ln∈l,∃i:Nat,i<sz.getD b 0/\n.testBit ((sz.take b).sum+i)=true/\ln.lo<=(i:Int)/\(i:Int)<=ln.hi/\0<=(i:Int)+ln.sh/\(i:Int)+ln.sh<(Ra rk ln.r:Nat)/\(p:Int)=(gM rk ln.r:Nat)+((i:Int)+ln.sh):=by
 unfold fM;rw[T4];constructor
 ·rintro⟨m,a,d⟩;obtain⟨ln,hl,rfl⟩:=ar.mp a;obtain⟨i,c,r⟩:=(TY (g ln hl) _ _).mp d;obtain⟨x,y⟩:=(X5 _ _ _ _).mp c;exact⟨ln,hl,i,x,y,r⟩
 ·rintro⟨ln,hl,i,x,y,r⟩;exact⟨_,aE hl,(TY (g ln hl) _ _).mpr ⟨i,(X5 _ _ _ _).mpr ⟨x,y⟩,r⟩⟩
theorem Ow{sz:List Nat}{rk:List (Str×Nat×Int)}{cl:List Nat}{p:Nat}:(iw sz rk kbs ls cl n).testBit p=true ↔ ∃k∈cl,(fM sz rk (JX kbs k) (ls.getD k []) n).testBit p=true:=by
 unfold iw;rw[T4];constructor
 ·rintro⟨m,c,b⟩;obtain⟨k,a,rfl⟩:=ar.mp c;exact⟨k,a,b⟩
 ·rintro⟨k,a,b⟩;exact⟨_,aE a,b⟩
inductive WX(C:Addr)(vs:List V)(H:Hp)(Q:VK)(b9:XK):Prop
 | mk(x:Addr)(us:List V)(bs:List (Str×Nat))(rk:List (Str×Nat×Int))(ks:List R)(ls:List (List Ln:_))(sts:List Nat):vs=[.ref x]->Hq C H x us bs rk ks ls sts->(∀D H',H D=none->Am H H'->H' D=some (.lst (nV sts))->Q (.ref D) H')->WX C vs H Q b9
theorem xj:Av sT sT<|Af zW:=Bg
include N T in
theorem YC:An P w K mg base Bb 1 aD.fOy aD.dOy sT<|WX C:=by
 refine N.FOy.1.Dg xj λH p Q E i h=>?_;obtain⟨x,y,bs,rk,s,j,c,rfl,O,q⟩:=h;refine⟨_,Ag<|Ax<|Cr Dn U T.list dL<|Aa (Bc (pv 0) U) Ab,?_⟩;obtain⟨_,b,fs,m,v,d,g,a,n,r,e,u,k,t,o,f,_⟩:=id O;exact⟨_,U,x,C,b,_,_,U,a,T.cl,T.n_step_sets,e,d,_,U,ma<|.inl f,λl hl=>q l _ hl (BL hl) Aj⟩
inductive Ye(vs:List V)(H:Hp)(Q:VK)(b9:XK):Prop
 | mk(z:Str):vs=[.str z,.str letters,.int 8]->Tx z->(∀b H',Am H H'->(b=true ↔ isNm z)->Q (.bl b) H')->Ye vs H Q b9
include N T in
theorem ik:An P w K mg base Bb 1 aD.fMd aD.dMd xy Ye:=by
 refine N.FMd.1.Dg oH λH r Q E o h=>?_;obtain⟨z,rfl,g,q⟩:=h;refine⟨_,Ag<|Ax<|D_ (Gy FT FT Ac (BK Js U T.len bo<|Aa (pv 0) Ab)<|pv 2)<|Ds<|BK (IW U) U T.all gL<|Aa (Br U (Bf (osc:=Af uG) (N:=xy) U U<|by decide) (ZK<|pv 0) (λ_ _ _ _=>Ci)<|λ_ _ _ _=>(Dd Nz (pv 0) (pv 2) U)) Ab,?_⟩;have d:z.length<sizeLine:=BJ g.1;have l:¬ isNm z->Q (.bl false) H:=λh=>q false H (Am.refl H) ⟨λz=>(nomatch z),λz=>absurd z h⟩;refine⟨_,U,z,U,fT d,_,_,U,U,_,U,?_⟩;refine Cw (λf=>?_)<|λf=>⟨_,U,Bj<|l λc=>f<|decide_eq_true (by have:=c.1;omega)⟩
 refine⟨_,U,_,_,U,U,_,U,?_⟩;refine Cw (λi=>?_)<|λi=>l λc=>i<|decide_eq_true (by have:=c.2.1;omega)
 refine⟨_,U,z,U,Qt (λ_=>true) (λc=>.bl<|bF letters c) d (λc a b j R k=>k b<|Am.refl b) (λc a _ b j R k=>⟨_,U,_,U,_,_,U,U,k b<|Am.refl b⟩)<|λD b p j hl=>?_⟩;refine⟨D,z.cps.toList.map<|bF letters,U,.inl<|.inl ?_,q _ b j ?_⟩
 ·rw[hl,bq.mpr<|λ_ _=>rfl,ay];rfl
 ·rw[List.all_map,fb];have n:1<=z.length:=by have:=of_decide_eq_true f;omega
  have m:z.length<=8:=by have:=of_decide_eq_true i;omega
  constructor
  ·intro h;refine⟨n,m,λc a=>?_⟩;have e:bF letters c=true:=h c a;rw[OJ c (g.2 c a)] at e;exact of_decide_eq_true e
  ·intro h c a;show bF letters c=true;rw[OJ c (g.2 c a)];exact decide_eq_true<|h.2.2 c a
theorem xG{K:W.Frag}:W.kitOne K (.type "int") (.type "str")=some false:=by kernel_rfl
theorem yQ{K:W.Frag}:W.kitOne K (.type "bool") (.type "str")=some false:=by kernel_rfl
theorem yJ{K:W.Frag}:W.kitOne K (.type "NoneType") (.type "str")=some false:=by kernel_rfl
theorem xR{K:W.Frag}:W.kitOne K (.type "list") (.type "str")=some false:=by kernel_rfl
theorem wu{K:W.Frag}:W.kitOne K (.type "tuple") (.type "str")=some false:=by kernel_rfl
def isStr:V->Bool
 |.str _=>true
 |_=>false
theorem iJ(K:W.Frag){v:V}(h:Cj H v):∃n,J6 K H v (.type n)/\W.kitOne K (.type n) (.type "str")=some (isStr v):=by
 cases h with
 |non=>exact⟨_,.non,yJ⟩
 |bl b=>exact⟨_,.bl b,yQ⟩
 |int i=>exact⟨_,.int i,xG⟩
 |lst h=>exact⟨_,.lst h,xR⟩
 |tup h=>exact⟨_,.tup h,wu⟩
 |str h=>exact⟨_,.str _,Hh⟩
inductive mZ(v:V):Prop
 | mk(t:_):v=.str t->isNm t->mZ v
inductive Tc(vs:List V)(H:Hp)(Q:VK)(b9:XK):Prop
 | mk(v:V):vs=[v]->Cj H v->(∀b H',Am H H'->(b=true ↔ mZ v)->Q (.bl b) H')->Tc vs H Q b9
include N T in
theorem Yy:An P w K mg base Bb 2 aD.fNm aD.dNm vE Tc:=by
 refine N.FNm.1.Dg q_ λH o Q E c h=>?_;obtain⟨v,rfl,a,q⟩:=h;obtain⟨f,g⟩:=T.letters;obtain⟨j,m⟩:=T.mostL;refine⟨_,Ag<|Ax<|D_ (BK Cv U T.isin bt<|Aa (pv 0)<|Aa (Ea (v:=.ty "str") U T.str iE U) Ab)<|Ds<|zC (ik N T) c U N.FMd<|Aa (pv 0)<|Aa (Cu (v:=.str letters) U g ⟨f,U⟩)<|Aa (Cu (v:=.int 8) U m ⟨j,U⟩) Ab,?_⟩;obtain⟨n,i,d⟩:=iJ K a;refine⟨_,U,_,"str",_,_,U,i,d,_,U,?_⟩
 cases a with
 |str h =>
  refine Dj ⟨_,U,_,U,h,λb k s l=>q b k s<|l.trans ⟨λz=>⟨_,U,z⟩,λ⟨t,e,z⟩=>by cases e;exact z⟩⟩
 |_=>exact Bj<|q false H (Am.refl H) ⟨λz=>(nomatch z),λ⟨t,e,z⟩=>(nomatch e)⟩
inductive jP(C:Addr)(vs:List V)(H:Hp)(Q:VK)(b9:XK):Prop
 | mk(x:Addr)(us:List V)(bs:List (Str×Nat))(rk:List (Str×Nat×Int))(ks:List R)(ls:List (List Ln:_))(sts:List Nat)(v:V):vs=[.ref x,v]->Hq C H x us bs rk ks ls sts->Cj H v->(∀n∈bs.map (·.1),isNm n)->(∀H',Am H H'->Q (Gk (bs.map (·.1)) v) H')->jP C vs H Q b9
inductive gC(C:Addr)(vs:List V)(H:Hp)(Q:VK)(b9:XK):Prop
 | mk(x:Addr)(us:List V)(bs:List (Str×Nat))(rk:List (Str×Nat×Int))(ks:List R)(ls:List (List Ln:_))(sts:List Nat)(v:V):vs=[.ref x,v]->Hq C H x us bs rk ks ls sts->Cj H v->(∀n∈ks.map (·.nm),isNm n)->(∀H',Am H H'->Q (Gk (ks.map (·.nm)) v) H')->gC C vs H Q b9
theorem UG{v:V}(a:∀n∈ns,isNm n)(h:¬ mZ v):Gk ns v=.non:=by
 cases v with
 |str t=>exact if_neg λz=>h ⟨t,U,a t z⟩
 |_=>rfl
theorem valN(a:∀(i:Nat) t,ns[i]? = some t->CN kvs (Sum.inr t)=some (.int (i:Nat)))(b:∀t,t ∉ ns->CN kvs (Sum.inr t)=none)(t:Str):(CN kvs<|Sum.inr t).getD .non=Gk ns (.str t):=by
 by_cases h:t∈ns
 ·rw[a _ t (Jt h)];exact (if_pos h).symm
 ·rw[b t h];exact (if_neg h).symm
theorem zP:Av uC uC<|Af xq:=Bg
include N T in
theorem qt:An P w K mg base Bb 3 aD.fOj aD.dOj uC<|gC C:=by
 refine N.FOj.1.Dg zP λH I Q E d h=>?_;obtain⟨x,us,bs,rk,W,D,i,v,rfl,O,o,u,q⟩:=h;have m:=CG d;refine⟨_,Ag<|Ax<|Jr (Cq<|zC (Yy N T) d U N.FNm<|Aa (pv 1) Ab) (QX m (Bc (pv 0) U) (pv 1) ⟨U,U,U,U⟩) GC,?_⟩;obtain⟨S,p,fs,M,y,L,j,n,V,s,R,Y,g,l,r,G,J,X,h7,Z,B⟩:=id O;refine⟨_,U,v,U,o,λb A a f=>⟨_,U,?_⟩⟩;refine Cw (λz=>?_)<|λz=>?_
 ·obtain⟨t,rfl,F⟩:=f.mp z;refine⟨_,U,x,C,p,_,_,U,a _ _ n,T.cl,T.n_knob_numbers,s,y,U,.inl ⟨_,.inl<|a _ _ g⟩,_,U,_,Ed.k (k:=Sum.inr t)<|a _ _ g,?_⟩;rw[valN l r t];exact q _ a
 ·have e:=UG u λc=>z<|f.mpr c
  rw[e] at q;exact q _ a
theorem mX(k:Nat):Wd.mk [k]=2 ^ k:=by
 show 0 ||| 2 ^ k=2 ^ k
 rw[Nat.zero_or]
theorem rT(h:t∈ns):Gk ns (.str t)=.int ((ns.idxOf t:Nat):Int):=if_pos h
inductive aV(C cK:Addr)(vs:List V)(H:Hp)(Q:VK)(E:XK):Prop
 | mk(x:Addr)(us:List V)(bs:List (Str×Nat))(rk:List (Str×Nat×Int))(ks:List R)(ls:List (List Ln:_))(sts:List Nat)(v:V):vs=[.ref x,v]->Hq C H x us bs rk ks ls sts->Cj H v->(∀n∈ks.map (·.nm),isNm n)->ks.length<=100->(∀t H',Am H H'->v=.str t->t∈ks.map (·.nm)->Q (.int ((2 ^ (ks.map (·.nm)).idxOf t:Nat):Int)) H')->(∀H',Am H H'->Gk (ks.map (·.nm)) v=.non->E (.ref cK) none H')->aV C cK vs H Q E
theorem M_(ns:List Str)(v:V):Gk ns v=.non \/ ∃t,v=.str t/\t∈ns/\Gk ns v=.int ((ns.idxOf t:Nat):Int):=by
 cases v with
 |str t =>
  by_cases h:t∈ns
  ·exact .inr ⟨t,U,h,if_pos h⟩
  ·exact .inl<|if_neg h
 |_=>exact .inl U
theorem uF:Av ["organ","name","knob"] vr (Af sKn):=Bg
include N T in
theorem eG:An P w K mg base (Gp P w) 4 aD.fKn aD.dKn vr<|aV C cK:=by
 refine N.FKn.1.Jx uF λH I Q E b h=>?_;obtain⟨x,F,bs,rk,a,k,c,v,rfl,O,u,d,hl,q,m⟩:=h;have J:=CG b;refine⟨_,(Ae (Be (i:=2) uF.nd U (Or.inl U)<|Bp (pv 0) T.cl N.FOj.2.2 (qt N T) (ad b) N.FOj.2.1 .nil Ao<|Aa (pv 1) Ab)
  (Ae (Bh (BR Sh (pv 2) GC<|BX _) (Ag<|GK T.x4.rK.ex U T.x4.mK U HQ<|Aa BP Ab) Ba)
  (Ag<|Ax<|zC (NZ N T) b U N.FSt<|Aa (DK<|Aa (pv 2) Ab) Ab))),?_⟩
 obtain⟨⟨⟨y,fs,_,_,_,_,_,_,_,_,s,_,_,_,_,G,_⟩,_⟩,_⟩:=id O.o;refine⟨_,U,x,y,fs,U,s,G _<|by decide,_,U,x,F,bs,rk,a,k,c,v,U,O,u,d,λj g=>?_⟩;rcases M_ (a.map (·.nm)) v with e | ⟨t,rfl,f,e⟩
 ·have A:=m j g e;rw[e];exact⟨_,U,U,_,U,Dj ⟨by show 1<=1000;decide,A⟩⟩
 ·rw[e];have r:=gi f;rw[af] at r;refine⟨_,U,U,_,U,Bj ?_⟩;refine⟨_,U,Bv (by simp),λB D=>?_⟩;have z:=BL (o:=HO.lst [V.int (((a.map (·.nm)).idxOf t:Nat):Int)]) D;refine⟨B,[(a.map (·.nm)).idxOf t],U,Aj,by simp,λn d=>by rw[List.mem_singleton.mp d];omega,λl p=>?_⟩;rw[mX];exact q t l (g.trans<|z.trans p) U f
inductive lC(Cy:Addr)(vs:List V)(H:Hp)(Q:VK)(b9:XK):Prop
 | mk(y dy x:Addr):vs=[.ref y,.ref x]->H y=some (.ins Cy dy [])->(∀(sd:Addr) H',SX y H H'->H sd=none->H' sd=some (.dK [])->Dq Cy H' y x 0 0 sd->Q .non H')->lC Cy vs H Q b9
inductive Q_(Cy:Addr)(vs:List V)(H:Hp)(Q:VK)(b9:XK):Prop
 | mk(y x:Addr)(dr sh:Nat)(sd:Addr)(n:Nat):vs=[.ref y,.int (n:Nat)]->Dq Cy H y x dr sh sd->(∀H',SX y H H'->Dq Cy H' y x n sh sd->Q (.bl (!decide (n=dr))) H')->Q_ Cy vs H Q b9
theorem zq:Av yB yB<|Af xP:=Bg
include N T in
theorem qR:An P w K mg base Bb 1 aD.fXi aD.dXi yB<|lC Cy:=by
 refine N.FXi.1.Dg zq λH C Q E s h=>?_;obtain⟨y,a,x,rfl,t,q⟩:=h;have D:=CG s;refine⟨_,(Ae (DG (pv 0) (pv 1) U)
  (Ae (DG (pv 0) Ac U)
  (Ae (DG (pv 0) Ac U)
  (Ag<|DG (pv 0) G6 U)))),?_⟩
 refine⟨_,U,_,U,y,Cy,a,_,U,t,T.clR,T.nr_organ,by show 0<1000;decide,?_⟩;have m:upd H y (HO.ins Cy a<|BV "organ" (.ref x) []) y=some (.ins Cy a<|BV "organ" (.ref x) []):=Aj;have r:SX y H<|upd H y<|HO.ins Cy a<|BV "organ" (.ref x) []:=SX.up
 generalize upd H y (HO.ins Cy a (BV "organ" (.ref x) []))=c at m r |-;have G:=Ez "organ" (.ref x) [];have L:=Ez "drawn_set" (.int 0) (BV "organ" (.ref x) []);have J:=Ez "shoe_step" (.int 0) (BV "drawn_set" (.int 0) (BV "organ" (.ref x) []));have F:([]:List<|Str×V).length=0:=rfl;refine⟨_,U,y,Cy,a,_,U,m,T.clR,T.nr_drawn_set,by omega,?_⟩;have l:upd c y (HO.ins Cy a<|BV "drawn_set" (.int 0) (BV "organ" (.ref x) [])) y=some (.ins Cy a<|BV "drawn_set" (.int 0) (BV "organ" (.ref x) [])):=Aj;have i:SX y c<|upd c y<|HO.ins Cy a<|BV "drawn_set" (.int 0) (BV "organ" (.ref x) []):=SX.up
 generalize upd c y (HO.ins Cy a (BV "drawn_set" (.int 0) (BV "organ" (.ref x) [])))=d at l i |-;refine⟨_,U,y,Cy,a,_,U,l,T.clR,T.nr_shoe_step,by omega,?_⟩;have g:upd d y (HO.ins Cy a<|BV "shoe_step" (.int 0) (BV "drawn_set" (.int 0) (BV "organ" (.ref x) []))) y=some (.ins Cy a<|BV "shoe_step" (.int 0) (BV "drawn_set" (.int 0) (BV "organ" (.ref x) []))):=Aj;have k:SX y d<|upd d y<|HO.ins Cy a<|BV "shoe_step" (.int 0) (BV "drawn_set" (.int 0) (BV "organ" (.ref x) [])):=SX.up
 generalize upd d y (HO.ins Cy a (BV "shoe_step" (.int 0) (BV "drawn_set" (.int 0) (BV "organ" (.ref x) []))))=B at g k |-;intro b e;obtain⟨I,A,p,v⟩:=Du (o:=HO.dK []) e;rw[A];refine⟨_,U,y,Cy,a,_,U,p _ _ g,T.clR,T.nr_stored,by omega,?_⟩;have j:b≠y:=Ne.symm<|Ai g e
 have n:=r.trans<|i.trans k
 have f:H b=none:=by
  cases z:H b with
  |none=>rfl
  |some u =>
   have:=n b u z j;rw[e] at this
   cases this
 exact q b _ (n.trans<|(SX.of p).trans SX.up) f (by rw[Aw j];exact v)<|Dq.new Aj
theorem pP:Av ["self","knobs","changed"] zo (Af wW):=Bg
include N T in
theorem UT:An P w K mg base Bb 1 aD.fXd aD.dXd zo<|Q_ Cy:=by
 refine N.FXd.1.Dg pP λH u Q E g h=>?_;obtain⟨y,x,b,m,t,n,rfl,D,q⟩:=h;have v:=CG g;refine⟨_,(Ae (Be (i:=2) pP.nd U (Or.inl U)<|Dd Jv (pv 1) (Bc (pv 0) U)<|BX _)
  (Ae (DG (pv 0) (pv 1) U)
  (Ag<|Ax<|pv 2))),?_⟩
 obtain⟨a,fs,c,p,f,o,s,k,l⟩:=id D.ex;refine⟨_,U,_,U,y,Cy,a,_,_,U,c,T.clR,T.nr_drawn_set,f,U,?_⟩;refine⟨_,U,_,U,y,Cy,a,_,U,c,T.clR,T.nr_drawn_set,by omega,?_⟩;have r:SX y H<|upd H y<|HO.ins Cy a<|BV "drawn_set" (.int (n:Nat)) fs:=SX.up
 have j:Dq Cy (upd H y<|HO.ins Cy a<|BV "drawn_set" (.int (n:Nat)) fs) y x n m t:=Dq.putD n p f o s k l Aj;have e:(!decide (V.int ((n:Nat):Int)=V.int ((b:Nat):Int))) = !decide (n=b):=by
  congr 1;rw[decide_eq_decide];constructor
  ·intro z;have:=V.int.inj z;omega
  ·rintro rfl;rfl
 have d:=q _ r j;rw[<-e] at d;exact⟨_,U,d⟩
theorem UV(a b:Nat):Builtin.bitAnd (a:Int) (Builtin.bitNot (b:Int))=((a - (a &&& b):Nat):Int):=by
 have h:¬ 0<=Builtin.bitNot (b:Int):=by unfold Builtin.bitNot;omega
 have c:Builtin.bitNot (Builtin.bitNot (b:Int))=(b:Int):=by unfold Builtin.bitNot;omega
 have d:a &&& b<=a:=Nat.and_le_left;unfold Builtin.bitAnd;rw[decide_eq_true (ip a),decide_eq_false h];show (a:Int) - ((((a:Int).toNat &&& (Builtin.bitNot<|Builtin.bitNot (b:Int)).toNat:Nat)):Int)=_;rw[c,aS,aS];omega
abbrev JC(ks:List R):List Str:=ks.map (·.nm)
def GR(C Cy:Addr)(Ho H:Hp)(y x:Addr)(ks:List R)(sts:List Nat)(dr sh:Nat)(sd:Addr):Prop:=(∃us bs rk ls,Zj C Cy Ho H y x us bs rk ks ls sts dr sh sd)/\(∀n∈JC ks,isNm n)/\ks.length<=100
theorem GR.mono{x:Addr}(s:Am H H')(h:GR C Cy Ho H y x ks sts dr sh sd):GR C Cy Ho H' y x ks sts dr sh sd:=by
 obtain⟨⟨b,bs,rk,c,a⟩,e,d⟩:=h;exact⟨⟨b,bs,rk,c,a.mono s⟩,e,d⟩
theorem GR.put{x:Addr}{d f:Nat}(h:GR C Cy Ho H y x ks sts dr sh sd)(s:SX y H H')(c:Dq Cy H' y x d f sd):GR C Cy Ho H' y x ks sts d f sd:=by
 obtain⟨⟨g,bs,rk,i,a⟩,k,j⟩:=h;exact⟨⟨g,bs,rk,i,a.o,λb o e=>s b o (a.s b o e)<|Ai e a.n,a.n,c⟩,k,j⟩
inductive X6(up:Bool)(C Cy cK:Addr)(vs:List V)(H:Hp)(Q:VK)(E:XK):Prop
 | mk(Ho:Hp)(y x:Addr)(ks:List R)(sts:List Nat)(dr sh:Nat)(sd:Addr)(v:V):vs=[.ref y,v]->GR C Cy Ho H y x ks sts dr sh sd->Cj H v->(∀t d2 H',SX y H H'->v=.str t->t∈JC ks->d2=(if up then dr ||| 2 ^ (JC ks).idxOf t else dr - (dr &&& 2 ^ (JC ks).idxOf t))->GR C Cy Ho H' y x ks sts d2 sh sd->Q (.bl (!decide (d2=dr))) H')->(∀H',Am H H'->Gk (JC ks) v=.non->E (.ref cK) none H')->X6 up C Cy cK vs H Q E
theorem vZ:Av uC uC<|Af sXp:=Bg
include N T in
theorem qH:An P w K mg base (Gp P w) 5 aD.fXp aD.dXp uC<|X6 true C Cy cK:=by
 have g:An P w K mg base (Gp P w) 4 aD.fKn aD.dKn vr<|aV C cK:=eG N T
 refine N.FXp.1.Jx vZ λH M Q E b h=>?_;obtain⟨S,y,x,F,c,k,s,G,v,rfl,O,r,q,n⟩:=h;have R:=CG b;refine⟨_,Ag<|Ax<|Bp (pv 0) T.clR N.FXd.2.2 (UT N T) (ad b) N.FXd.2.1 .nil Ao<|Aa (BZ NK (Bc (pv 0) U)<|Ak g (ad b) U N.FKn.2.2 N.FKn.1.kp N.FKn.2.1 .nil Dm<|Aa (Bc (pv 0) U)<|Aa (pv 1) Ab) Ab,?_⟩;obtain⟨⟨I,bs,rk,l,D⟩,B,hl⟩:=id O;obtain⟨d,fs,f,u,A,V,W,L,J⟩:=id D.c.ex;refine⟨_,U,y,d,fs,U,f,J _<|by decide,_,U,y,Cy,d,_,_,U,f,T.clR,T.nr_drawn_set,A,_,U,y,Cy,d,_,_,U,f,T.clR,T.nr_organ,u,_,U,x,I,bs,rk,F,l,c,v,U,D.o.mono D.s,r,B,hl,λt i a z m=>?_,λi a e=>n i a e⟩;subst z;refine⟨_,_,U,U,?_⟩;try dsimp only
 rw[Iv];refine⟨y,x,k,s,G,_,U,D.c.mono a,λp j o=>?_⟩;exact q t _ p ((SX.of a).trans j) U m U<|(O.mono a).put j o
theorem zZ:Av uC uC<|Af ym:=Bg
include N T in
theorem qI:An P w K mg base (Gp P w) 5 aD.fXq aD.dXq uC<|X6 false C Cy cK:=by
 have g:An P w K mg base (Gp P w) 4 aD.fKn aD.dKn vr<|aV C cK:=eG N T
 refine N.FXq.1.Jx zZ λH M Q E b h=>?_;obtain⟨S,y,x,F,c,k,s,G,v,rfl,O,r,q,n⟩:=h;have R:=CG b;refine⟨_,Ag<|Ax<|Bp (pv 0) T.clR N.FXd.2.2 (UT N T) (ad b) N.FXd.2.1 .nil Ao<|Aa (BZ JT (Bc (pv 0) U)<|Ja Ov<|Ak g (ad b) U N.FKn.2.2 N.FKn.1.kp N.FKn.2.1 .nil Dm<|Aa (Bc (pv 0) U)<|Aa (pv 1) Ab) Ab,?_⟩;obtain⟨⟨I,bs,rk,l,D⟩,B,hl⟩:=id O;obtain⟨d,fs,f,u,A,V,W,L,J⟩:=id D.c.ex;refine⟨_,U,y,d,fs,U,f,J _<|by decide,_,U,y,Cy,d,_,_,U,f,T.clR,T.nr_drawn_set,A,_,U,y,Cy,d,_,_,U,f,T.clR,T.nr_organ,u,_,U,x,I,bs,rk,F,l,c,v,U,D.o.mono D.s,r,B,hl,λt i a z m=>?_,λi a e=>n i a e⟩;subst z;refine⟨_,U,_,_,U,U,?_⟩;try dsimp only
 rw[UV];refine⟨y,x,k,s,G,_,U,D.c.mono a,λp j o=>?_⟩;exact q t _ p ((SX.of a).trans j) U m U<|(O.mono a).put j o
inductive jb(C Cy:Addr)(vs:List V)(H:Hp)(Q:VK)(b9:XK):Prop
 | mk(Ho:Hp)(y x:Addr)(ks:List R)(sts:List Nat)(dr sh:Nat)(sd:Addr):vs=[.ref y]->GR C Cy Ho H y x ks sts dr sh sd->sh<=sts.length->sts.length<=100->(∀H',Am H H'->Q (.int ((dr ||| Q8 (sts.take sh):Nat):Int)) H')->jb C Cy vs H Q b9
theorem xu:Av sT sT<|Af zT:=Bg
include N T in
theorem qL:An P w K mg base Bb 2 aD.fXk aD.dXk sT<|jb C Cy:=by
 refine N.FXk.1.Dg xu λH W Q E e h=>?_;obtain⟨Y,y,x,J,a,R,b,sd,rfl,O,L,s,q⟩:=h;have X:=CG e;refine⟨_,Ag<|Ax<|BZ NK (Bc (pv 0) U)<|zC (XC N T) e U N.FUn<|Aa (Ep Jc (Bm (Bc (pv 0) U) T.cl N.FOy.2.2 (YC N T) (ad e) N.FOy.2.1 .nil Ao) Ge<|Ex<|Bc (pv 0) U) Ab,?_⟩;obtain⟨⟨M,bs,rk,n,D⟩,hn,hl⟩:=id O;obtain⟨f,fs,g,F,I,B,l4,S,lm⟩:=id D.c.ex;have j:=D.o.mono D.s;obtain⟨⟨⟨A,p,_,_,_,_,_,_,_,_,m,_,_,_,_,G,_⟩,_⟩,_⟩:=id j.o;refine⟨_,U,y,Cy,f,_,_,U,g,T.clR,T.nr_drawn_set,I,_,U,y,Cy,f,_,_,U,g,T.clR,T.nr_organ,F,x,A,p,U,m,G _<|by decide,x,M,bs,rk,J,n,a,U,j,λv i Z l r=>?_⟩;refine⟨_,U,y,Cy,f,_,_,U,l _ _ g,T.clR,T.nr_shoe_step,B,_,U,v,_,U,ma r,λd u=>?_⟩;have k:=BL (o:=HO.lst<|Er (nV a) none<|some (b:Int)) u;have c:upd i d (HO.lst<|Er (nV a) none<|some (b:Int)) d=_:=Aj;generalize upd i d (HO.lst (Er (nV a) none (some (b:Int))))=t at k c |-;have V:(nV a).length=a.length:=af _;rw[Jq (nV a) b (by omega)] at c;have z:(nV a).take b=nV (a.take b):=(ib ..).symm;rw[z] at c;refine⟨d,a.take b,U,c,by rw[cy];omega,_,_,U,U,?_⟩;try dsimp only
 rw[Iv];exact q t<|l.trans k
def isI:V->Bool
 |.int _=>true
 |_=>false
theorem ty9n{K:W.Frag}:W.kitOne K (.type "NoneType") (.type "int")=some false:=by kernel_rfl
theorem ww{K:W.Frag}:W.kitOne K (.type "bool") (.type "int")=some true:=by kernel_rfl
theorem yU{K:W.Frag}:W.kitOne K (.type "bool") (.type "bool")=some true:=by kernel_rfl
theorem zG{K:W.Frag}:W.kitOne K (.type "list") (.type "int")=some false:=by kernel_rfl
theorem yL{K:W.Frag}:W.kitOne K (.type "tuple") (.type "int")=some false:=by kernel_rfl
theorem yj{K:W.Frag}:W.kitOne K (.type "str") (.type "int")=some false:=by kernel_rfl
inductive Q5(vs:List V)(H:Hp)(Q:VK)(b9:XK):Prop
 | mk(v:V):vs=[v]->Cj H v->Q (.bl (isI v)) H->Q5 vs H Q b9
include N T in
theorem RM:An P w K mg base Bb 1 aD.fWh aD.dWh vE Q5:=by
 refine N.FWh.1.Dg pW λH d Q E c h=>?_;obtain⟨v,rfl,a,q⟩:=h;refine⟨_,Ag<|Ax<|D_ (BK Cv U T.isin bt<|Aa (pv 0)<|Aa (Ea (v:=.ty "int") U T.int gd U) Ab)<|Ds<|RD<|BK Cv U T.isin bt<|Aa (pv 0)<|Aa (Ea (v:=.ty "bool") U T.bool PyProof.Rows.boot_bool U) Ab,?_⟩
 cases a with
 |non=>exact⟨_,U,_,"int",_,_,U,.non,ty9n,_,U,Bj q⟩
 |bl b=>exact⟨_,U,_,"int",_,_,U,.bl b,ww,_,U,Dj ⟨_,U,_,"bool",_,_,U,.bl b,yU,_,U,q⟩⟩
 |int i=>exact⟨_,U,_,"int",_,_,U,.int i,ty_int,_,U,Dj ⟨_,U,_,"bool",_,_,U,.int i,dW,_,U,q⟩⟩
 |lst h=>exact⟨_,U,_,"int",_,_,U,.lst h,zG,_,U,Bj q⟩
 |tup h=>exact⟨_,U,_,"int",_,_,U,.tup h,yL,_,U,Bj q⟩
 |str h=>exact⟨_,U,_,"int",_,_,U,.str _,yj,_,U,Bj q⟩
def jQ(n:Nat):V->Bool
 |.int i=>decide (0<=i) && decide (i<=(n:Nat))
 |_=>false
inductive iQ(C Cy cS:Addr)(vs:List V)(H:Hp)(Q:VK)(E:XK):Prop
 | mk(Ho:Hp)(y x:Addr)(ks:List R)(sts:List Nat)(dr sh:Nat)(sd:Addr)(v:V):vs=[.ref y,v]->GR C Cy Ho H y x ks sts dr sh sd->Cj H v->(∀(i:Nat) H',v=.int (i:Nat)->i<=sts.length->SX y H H'->GR C Cy Ho H' y x ks sts dr i sd->Q .non H')->(∀H',Am H H'->jQ sts.length v=false->E (.ref cS) none H')->iQ C Cy cS vs H Q E
theorem vp:Av Ck Ck<|Af yE:=Bg
include N T in
theorem nU:An P w K mg base (Gp P w) 3 aD.fXh aD.dXh Ck<|iQ C Cy cS:=by
 refine N.FXh.1.Jx vp λH W Q E c h=>?_;obtain⟨Y,y,x,M,a,V,sh,sd,v,rfl,O,B,q,e⟩:=h;have X:=CG c;refine⟨_,(Ae (Bh (PW.pt<|El (Ce<|Cq<|zC (RM N T) c U N.FWh<|Aa (pv 1) Ab)<|EY<|Ce<|Ig FT FT Ac (pv 1)<|BK BW U T.len bo<|Aa (Bm (Bc (pv 0) U) T.cl N.FOy.2.2 (YC N T) (ad c) N.FOy.2.1 .nil Ao) Ab) (Ag<|GK T.x4.rS.ex U T.x4.mS U HQ<|Aa BP Ab) Ba)
  (Ag<|DG (pv 0) (pv 1) U)),?_⟩
 obtain⟨⟨R,bs,rk,p,D⟩,hn,hl⟩:=id O;obtain⟨g,fs,k,l,J,G,L,o,S⟩:=id D.c.ex;have f:=D.o.mono D.s;obtain⟨⟨⟨F,r,_,_,_,_,_,_,_,_,m,_,_,_,_,I,_⟩,_⟩,_⟩:=id f.o;refine⟨_,U,v,U,B,_,U,?_⟩
 cases v with
 |int i =>
  refine Bj ⟨_,U,_,_,U,U,_,U,Cw (λd=>?_)<|λd=>?_⟩
  ·refine⟨_,U,y,Cy,g,_,_,U,k,T.clR,T.nr_organ,l,x,F,r,U,m,I _<|by decide,x,R,bs,rk,M,p,a,U,f,λA n Z b t=>?_⟩;refine⟨A,_,U,ma<|.inl t,_,_,U,U,decide (i<=(((nV a).length:Nat):Int)),U,?_⟩;have lst:(nV a).length=a.length:=af _;by_cases u:i<=((a.length:Nat):Int)
   ·rw[decide_eq_true (show i<=(((nV a).length:Nat):Int) by omega)];have s:0<=i:=of_decide_eq_true d;refine Bj ?_;refine⟨_,U,_,U,y,Cy,g,_,U,b _ _ k,T.clR,T.nr_shoe_step,by omega,?_⟩;obtain⟨j,rfl⟩:=ij s;exact q j _ U (by omega) ((SX.of b).trans SX.up)<|(O.mono b).put SX.up<|Dq.nq j l J G L o S Aj
   ·rw[decide_eq_false (show ¬ i<=(((nV a).length:Nat):Int) by omega)];exact Dj ⟨by show 1<=1000;decide,e n b<|by show (decide (0<=i) && decide (i<=((a.length:Nat):Int)))=false;rw[decide_eq_false u,Bool.and_false]⟩
  ·exact⟨_,U,Dj ⟨by show 1<=1000;decide,e H (Am.refl H)<|by show (decide (0<=i) && decide (i<=((a.length:Nat):Int)))=false;rw[decide_eq_false (λz=>d<|decide_eq_true z),Bool.false_and]⟩⟩
 |_=>exact Dj ⟨by show 1<=1000;decide,e H (Am.refl H) U⟩
inductive Z6(pE pA:Addr)(vs:List V)(H:Hp)(Q:VK)(b9:XK):Prop
 | mk(x c dx:Addr)(k:Nat):vs=[.ref x,.int (k:Nat)]->(c=pE \/ c=pA)->H x=some (.ins c dx [])->Q .non (upd H x (.ins c dx [("knob_set",.int (k:Nat))]))->Z6 pE pA vs H Q b9
inductive jd(pE pA:Addr)(vs:List V)(H:Hp)(Q:VK)(b9:XK):Prop
 | mk(x dx:Addr)(k w:Nat):vs=[.ref x,.int (k:Nat),.int (w:Nat)]->H x=some (.ins pA dx [])->(∀H',SX x H H'->Fg pE pA H' x (.part k w)->Q .non H')->jd pE pA vs H Q b9
inductive iy(pE:Addr)(vs:List V)(H:Hp)(Q:VK)(b9:XK):Prop
 | mk(x dx:Addr)(k d:Nat):vs=[.ref x,.int (d:Nat)]->H x=some (.ins pE dx [("knob_set",.int (k:Nat))])->Q (.int (k:Nat)) H->iy pE vs H Q b9
inductive jZ(pA:Addr)(vs:List V)(H:Hp)(Q:VK)(b9:XK):Prop
 | mk(x dx:Addr)(k w d:Nat):vs=[.ref x,.int (d:Nat)]->H x=some (.ins pA dx [("knob_set",.int (k:Nat)),("whole_set",.int (w:Nat))])->Q (.int (((d - (d &&& w)) ||| k:Nat):Int)) H->jZ pA vs H Q b9
theorem wV:Av zo zo<|Af sPi:=Bg
include N T in
theorem cz:An P w K mg base Bb 1 aD.fPi aD.dPi zo<|Z6 pE pA:=by
 refine N.FPi.1.Dg wV λH f Q E d h=>?_;obtain⟨x,c,b,k,rfl,e,a,q⟩:=h;have g:=CG d;refine⟨_,Ag<|DG (pv 0) (pv 1) U,?_⟩;rcases e with rfl | rfl
 ·exact⟨_,U,_,U,x,_,b,_,U,a,T.pis.cE,T.pis.nEk,by show 0<1000;decide,q⟩
 ·exact⟨_,U,_,U,x,_,b,_,U,a,T.pis.cA,T.pis.nAk,by show 0<1000;decide,q⟩
theorem scAi:Av AK AK<|Af yw:=Bg
include N T in
theorem nH:An P w K mg base Bb 2 aD.fAi aD.dAi AK<|jd pE pA:=by
 refine N.FAi.1.Dg scAi λH d Q E b h=>?_;obtain⟨x,a,k,f,rfl,c,q⟩:=h;have e:=CG b;refine⟨_,(Ae (Bw<|Rn U T.pis.mB N.cPi (cz N T) (ad b) N.FPi.2.1 .nil Ao<|Aa (pv 0)<|Aa (pv 1) Ab)
  (Ag<|DG (pv 0) (pv 2) U)),?_⟩
 refine⟨_,U,_,U,x,pA,a,k,U,.inr U,c,?_⟩;refine⟨_,U,_,U,x,pA,a,_,U,Aj,T.pis.cA,T.pis.nAw,by show 1<1000;decide,?_⟩;exact q _ (SX.up.trans SX.up) ⟨a,Aj⟩
theorem wZ:Av y7 y7<|Af sEp:=Bg
include N T in
theorem rA:An P w K mg base Bb 1 aD.fEp aD.dEp y7<|iy pE:=by
 refine N.FEp.1.Dg wZ λH e Q E a h=>?_;obtain⟨x,c,k,d,rfl,b,q⟩:=h;have f:=CG a;refine⟨_,Ag<|Ax<|Bc (pv 0) U,?_⟩;exact⟨_,U,x,pE,c,_,_,U,b,T.pis.cE,T.pis.nEk,U,q⟩
theorem yO:Av y7 y7<|Af yF:=Bg
include N T in
theorem oJ:An P w K mg base Bb 1 aD.fAp aD.dAp y7<|jZ pA:=by
 refine N.FAp.1.Dg yO λH e Q E c h=>?_;obtain⟨x,b,k,g,d,rfl,a,q⟩:=h;have f:=CG c;refine⟨_,Ag<|Ax<|BZ NK (BZ JT (pv 1)<|Ja Ov<|Bc (pv 0) U)<|Bc (pv 0) U,?_⟩;refine⟨_,U,_,U,x,pA,b,_,_,U,a,T.pis.cA,T.pis.nAw,U,_,U,_,_,U,U,_,U,x,pA,b,_,_,U,a,T.pis.cA,T.pis.nAk,U,_,_,U,U,?_⟩;try dsimp only
 rw[UV,Iv];exact q
def Kg:V->Bool
 |.int i=>decide (0<=i) && decide (i<10)
 |_=>false
inductive ao(vs:List V)(H:Hp)(Q:VK)(b9:XK):Prop
 | mk(v:V):vs=[v]->Cj H v->Q (.bl (Kg v)) H->ao vs H Q b9
theorem scIp:Av vE vE<|Af xO:=Bg
include N T in
theorem fL:An P w K mg base Bb 2 aD.fIp aD.dIp vE ao:=by
 refine N.FIp.1.Dg scIp λH g Q E c h=>?_;obtain⟨v,rfl,d,q⟩:=h;obtain⟨f,b⟩:=T.pis.most;refine⟨_,Ag<|Ax<|D_ (zC (RM N T) c U N.FWh<|Aa (pv 0) Ab)<|Ds<|Gy FT HY Ac (pv 0)<|Cu (v:=.int 10) U b ⟨f,U⟩,?_⟩;refine⟨_,U,v,U,d,_,U,?_⟩
 cases v with
 |int i =>
  refine Dj ⟨_,U,_,_,U,U,_,U,Cw (λa=>?_)<|λa=>?_⟩
  ·refine⟨_,_,U,U,?_⟩;have e:Kg (.int i)=decide (i<10):=by
    show (decide (0<=i) && decide (i<10))=_;rw[a,ic]
   rw[e] at q;exact q
  ·have e:Kg (.int i)=false:=by
    show (decide (0<=i) && decide (i<10))=_;rw[(fo _).mp a,io]
   rw[e] at q;exact q
 |_=>exact Bj q
theorem scOu:Av uC uC<|Af yg:=Bg
include N T in
theorem sZ:An P w K mg base Bb 3 aD.fOu aD.dOu uC<|jP C:=by
 refine N.FOu.1.Dg scOu λH vs Q E m h=>?_;obtain⟨x,us,bs,rk,ks,L,A,v,rfl,O,D,I,q⟩:=h;have B:=CG m;obtain⟨S,x'⟩:=T.letters;obtain⟨FC,Mb⟩:=T.mostL;refine⟨_,Ag<|Ax<|Jr (Cq<|zC (Yy N T) m U N.FNm<|Aa (pv 1) Ab) (QX B (Bc (pv 0) U) (pv 1) ⟨U,U,U,U⟩) GC,?_⟩;obtain⟨u,F,fs,rl,kd,ss,r,l,l1,l2,l3,h2,h3,h4,h5,h6,s,kb,p,g,y⟩:=id O;obtain⟨⟨xo,rL,bl,J,R,V,i6,na,oq,X,j,m1,n,m3,M,lm,e2,W,o,G,e6,e7,Z,e9⟩,sP,Y,tf⟩:=id u.o;rw[l] at j
 cases j;rw[p] at n
 cases n;rw[g] at o
 cases o;refine⟨_,U,v,U,D,λb H1 a d=>⟨_,U,?_⟩⟩;refine Cw (λz=>?_)<|λz=>?_
 ·obtain⟨t,rfl,f⟩:=d.mp z;refine⟨_,U,x,C,F,_,_,U,a _ _ l,T.cl,T.n_board_numbers,p,s,U,.inl ⟨_,.inl<|a _ _ g⟩,_,U,_,Ed.k (k:=Sum.inr t)<|a _ _ g,?_⟩;rw[valN (λi t f=>by rw[am] at f;obtain⟨b,d,rfl⟩:=av.mp f;exact G i b d) y t];exact q _ a
 ·have e:=UG I λc=>z<|d.mpr c
  rw[e] at q;exact q _ a
inductive Zv(C cB:Addr)(vs:List V)(H:Hp)(Q:VK)(E:XK):Prop
 | mk(x:Addr)(us:List V)(bs:List (Str×Nat))(rk:List (Str×Nat×Int))(ks:List R)(ls:List (List Ln:_))(sts:List Nat)(v:V):vs=[.ref x,v]->Hq C H x us bs rk ks ls sts->Cj H v->(∀n∈bs.map (·.1),isNm n)->(∀t H',Am H H'->v=.str t->t∈bs.map (·.1)->Q (.int (((bs.map (·.1)).idxOf t:Nat):Int)) H')->(∀H',Am H H'->Gk (bs.map (·.1)) v=.non->E (.ref cB) none H')->Zv C cB vs H Q E
theorem uR:Av DC vr<|Af xM:=Bg
include N T in
theorem fG:An P w K mg base (Gp P w) 4 aD.fBn aD.dBn vr<|Zv C cB:=by
 refine N.FBn.1.Jx uR λH y Q E b h=>?_;obtain⟨x,s,bs,rk,r,k,a,v,rfl,O,g,p,q,o⟩:=h;have u:=CG b;refine⟨_,(Ae (Be (i:=2) uR.nd U (Or.inl U)<|Bp (pv 0) T.cl N.FOu.2.2 (sZ N T) (ad b) N.FOu.2.1 .nil Ao<|Aa (pv 1) Ab)
  (Ae (Bh (BR Sh (pv 2) GC<|BX _) (Ag<|GK T.x4.rB.ex U T.x4.mB U HQ<|Aa BP Ab) Ba)
  (Ag<|Ax<|pv 2))),?_⟩
 obtain⟨⟨⟨j,fs,_,_,_,_,_,_,_,_,f,_,_,_,_,l,_⟩,_⟩,_⟩:=id O.o;refine⟨_,U,x,j,fs,U,f,l _<|by decide,_,U,x,s,bs,rk,r,k,a,v,U,O,g,p,λc d=>?_⟩;rcases M_ (bs.map (·.1)) v with e | ⟨t,rfl,n,e⟩
 ·have m:=o c d e;rw[e];exact⟨_,U,U,_,U,Dj ⟨by show 1<=1000;decide,m⟩⟩
 ·rw[e];exact⟨_,U,U,_,U,Bj ⟨_,U,q t c d U n⟩⟩
def Zb(ks:List R)(t:Str)(k:Nat):Bool:=match ks[k]? with
 |some r=>decide (r.rest.head? = some (V.str t))
 |none=>false
def JW(ks:List R)(t:Str):Nat:=Wd.mk<|(List.range ks.length).filter<|Zb ks t
inductive gq(C cB:Addr)(vs:List V)(H:Hp)(Q:VK)(E:XK):Prop
 | mk(x:Addr)(us:List V)(bs:List (Str×Nat))(rk:List (Str×Nat×Int))(ks:List R)(ls:List (List Ln:_))(sts:List Nat)(v:V):vs=[.ref x,v]->Hq C H x us bs rk ks ls sts->Cj H v->(∀n∈bs.map (·.1),isNm n)->(bs.map (·.1)).Nodup->ks.length<=100->(∀r∈ks,∃b∈bs,∃rs,r.rest=.str b.1::rs)->(∀t H',Am H H'->v=.str t->t∈bs.map (·.1)->Q (.int ((JW ks t:Nat):Int)) H')->(∀H',Am H H'->Gk (bs.map (·.1)) v=.non->E (.ref cB) none H')->gq C cB vs H Q E
theorem rY:Av DC vr<|Af ul:=Bg
include N T in
theorem o6:An P w K mg base (Gp P w) 5 aD.fKb aD.dKb vr<|gq C cB:=by
 have I:An P w K mg base (Gp P w) 4 aD.fBn aD.dBn vr<|Zv C cB:=fG N T
 refine N.FKb.1.Jx rY λH vs Q E d h=>?_;obtain⟨x,us,bs,rk,a,ls,F,v,rfl,O,hv,u,nd,hl,oe,q,qe⟩:=h;have hu:=CG d;refine⟨_,(Ae (Be (i:=2) rY.nd U (Or.inr U)<|Ak I (ad d) U N.FBn.2.2 N.FBn.1.kp N.FBn.2.1 .nil Dm<|Aa (pv 0)<|Aa (pv 1) Ab)
  (Ag<|Ax<|zC (NZ N T) d U N.FSt<|Aa (Br U (Bf (osc:=Af ul) (N:=DC) U U<|by decide) (Dr U T.range<|Aa (BK BW U T.len bo<|Aa (Bm (pv 0) T.cl N.FOz.2.2 (YJ N T) (ad d) N.FOz.2.1 .nil Ao) Ab) Ab) (λ_ _ _ _=>(G9<|BR CP (Bp (pv 1) T.cl N.FBk.2.2 (UW N T) (ad d) N.FBk.2.1 .nil Ao<|Aa (pv 0) Ab) (pv 3)<|BX _))<|λ_ _ _ _=>(pv 0)) Ab)),?_⟩
 refine⟨_,U,_,U,x,us,bs,rk,a,ls,F,v,U,O,hv,u,λt J l ev y=>?_,λJ l e=>qe J l e⟩;subst ev;have B:=O.mono l;obtain⟨⟨⟨dx,fs,_,_,_,_,_,_,_,_,h1,_,_,_,_,lm,_⟩,_⟩,_⟩:=id B.o;refine⟨_,U,x,dx,fs,U,h1,lm _<|by decide,x,_,_,U,B.o.o,λD2 D H2 on S q2 p2=>?_⟩;have m:D.length=a.length:=p2.length.symm;refine⟨D2,_,U,ma<|.inl q2,_,U,by omega,by omega,JP (lo:=0) (n:=D.length) (λz=>Zb a t z.toNat) (λz=>.int z) (BJ<|by omega) (λi hi f M R g=>?_) (λi hi _ f M R g=>⟨_,U,g f<|Am.refl f⟩)<|λD3 H3 E2 s3 L=>?_⟩
 ·have ei:(0:Int)+((i:Nat):Int)=((i:Nat):Int):=by omega
  rw[ei] at g |-;obtain⟨r,d⟩:∃r,a[i]? = some r:=⟨_,ae<|by omega⟩;obtain⟨b,hb,Y,X⟩:=oe r<|ah d;obtain⟨j,Z⟩:=eK hb;have e1:Zb a t i=decide (V.int ((j:Nat):Int)=V.int (((bs.map (·.1)).idxOf t:Nat):Int)):=by
   unfold Zb;rw[d];show decide (r.rest.head? = some (V.str t))=_;rw[X,decide_eq_decide];have c:(bs.map (·.1))[j]? = some b.1:=by rw[am,Z];rfl
   constructor
   ·intro z;have s:b.1=t:=V.str.inj<|Option.some.inj z
    rw[s] at c;have p:=(ag.mp c).1;rw[(List.getElem?_inj p nd).mp (c.trans (Jt y).symm)]
   ·intro z;have s:j=(bs.map (·.1)).idxOf t:=by have:=V.int.inj z;omega
    rw[s,Jt y] at c;show some (V.str b.1)=some (V.str t);rw[<-Option.some.inj c]
  obtain⟨A,rn,rr⟩:=r;obtain rfl:rr=.str b.1::Y:=X;have W:=(B.mono S).mono M;obtain⟨⟨⟨xo,rL,_,_,_,_,_,_,_,_,G,_,_,_,_,o,_⟩,_⟩,_⟩:=id W.o;refine⟨_,U,x,xo,rL,U,G,o _<|by decide,_,U,x,bs,a,i,j,b,A,rn,Y,U,W.o.o,d,Z,_,U,U,_,U,?_⟩;have:=g f<|Am.refl f
  rw[aS,e1] at this;exact this
 have el:((((List.range D.length).map λ(i:Nat)=>(0:Int)+(i:Int)).filter λz=>Zb a t z.toNat).map λz=>V.int z)=nV ((List.range a.length).filter<|Zb a t):=by
  rw[m,fg,ay];have ef:((λz:Int=>Zb a t z.toNat) ∘ λ(i:Nat)=>(0:Int)+(i:Int))=Zb a t:=by
   funext k;show Zb a t ((0:Int)+(k:Int)).toNat=Zb a t k;rw[hZ,aS]
  rw[ef];unfold nV;refine fh λk _=>?_;show V.int ((0:Int)+(k:Int))=V.int (k:Int);rw[hZ]
 rw[el] at L;refine⟨D3,_,U,L,be (cc _ _)<|by rw[gg];omega,λn u=>?_,λH4 s4=>q t H4 (l.trans<|S.trans<|s3.trans s4) U y⟩;have:=fR.mp (bb.mp u).1;omega
structure gQ(bs:List<|Str×Nat)(ks:List R):Prop where
 bn:∀n∈bs.map (·.1),isNm n
 bd:(bs.map (·.1)).Nodup
 kn:∀n∈JC ks,isNm n
 kd:(JC ks).Nodup
 kl:ks.length<=12
 kb:∀r∈ks,∃b∈bs,∃rs,r.rest=.str b.1::rs
structure Ek(C Cy pE pA:Addr)(Ho H:Hp)(y x:Addr)(bs:List<|Str×Nat)(ks:List R)(sts:List Nat)(dr sh:Nat)(sd:Addr)(m:Nat->Option Ps)(c:Nat):Prop where
 o:∃us rk ls,Zj C Cy Ho H y x us bs rk ks ls sts dr sh sd
 f:gQ bs ks
 hs:Ho sd=none
 ny:sd≠y
 st:RK pE pA H sd m c
section
variable{x:Addr}{bs:List (Str×Nat)}{E6 E7:Nat}{m m':Nat->Option Ps}{c c':Nat}
theorem Ek.ok(h:Ek C Cy pE pA Ho H y x bs ks sts dr sh sd m c):GR C Cy Ho H y x ks sts dr sh sd:=by
 obtain⟨b,rk,d,a⟩:=h.o;exact⟨⟨b,bs,rk,d,a⟩,h.f.kn,by have:=h.f.kl;omega⟩
theorem Ek.mono(s:Am H H')(h:Ek C Cy pE pA Ho H y x bs ks sts dr sh sd m c):Ek C Cy pE pA Ho H' y x bs ks sts dr sh sd m c:=by
 obtain⟨b,rk,d,a⟩:=h.o;exact⟨⟨b,rk,d,a.mono s⟩,h.f,h.hs,h.ny,h.st.mono s⟩
theorem Ek.at(h:Ek C Cy pE pA Ho H y x bs ks sts dr sh sd m c):Dq Cy H y x dr sh sd:=by
 obtain⟨b,rk,d,a⟩:=h.o;exact a.c
theorem Ek.not(h:Ek C Cy pE pA Ho H y x bs ks sts dr sh sd m c){o:Addr}{ps:Ps}(d:Fg pE pA H o ps):o≠y/\o≠sd:=by
 obtain⟨n,fs,f,g,_⟩:=h.at.ex;obtain⟨i,j,_⟩:=h.st.ex;have key:∃c a b,H o=some (.ins c a b)/\b.lookup ("organ" : Str)=none:=by
  cases ps with
  |every k =>
   obtain⟨a,e⟩:=d;exact⟨_,_,_,e,by rw[List.lookup_cons,show (("organ" : Str) == "knob_set")=false by decide];rfl⟩
  |part k w =>
   obtain⟨a,e⟩:=d;exact⟨_,_,_,e,by rw[List.lookup_cons,show (("organ" : Str) == "knob_set")=false by decide];show List.lookup _ _=none;rw[List.lookup_cons,show (("organ" : Str) == "whole_set")=false by decide];rfl⟩
 obtain⟨p,a,b,e,l⟩:=key;refine⟨λz=>?_,λz=>by rw[z,j] at e;cases e⟩;rw[z,f] at e
 cases e;rw[g] at l
 cases l
theorem Ek.put(h:Ek C Cy pE pA Ho H y x bs ks sts dr sh sd m c)(s:SX y H H')(a:Dq Cy H' y x E6 E7 sd):Ek C Cy pE pA Ho H' y x bs ks sts E6 E7 sd m c:=by
 obtain⟨u,rk,i,d⟩:=h.o;obtain⟨f,r,v,t,q⟩:=h.st.ex;refine⟨⟨u,rk,i,d.o,λb o e=>s b o (d.s b o e)<|Ai e d.n,d.n,a⟩,h.f,h.hs,h.ny,f,s _ _ r h.ny,v,t,λp k n j=>?_⟩;obtain⟨o,l,g⟩:=q p k n j;exact⟨o,l,g.keep λ_ _ _ e=>s _ _ e (h.not g).1⟩
end
def MT(m:Nat->Option Ps)(p:Nat)(ps:Ps):Nat->Option Ps:=λq=>if q=p then some ps else m q
theorem bx(kvs:List<|Key×V)(k:Key)(v:V):(putK kvs k v).length<=kvs.length+1:=by
 unfold putK;split
 ·rw[af];omega
 ·rw[ai];exact al _
theorem Rw{v:V}(h:Kg v=true):∃p:Nat,v=.int (p:Nat)/\p<10:=by
 cases v with
 |int i =>
  have a:(decide (0<=i) && decide (i<10))=true:=h;rw[fi,decide_eq_true_eq,decide_eq_true_eq] at a;obtain⟨j,rfl⟩:=ij a.1;exact⟨j,U,by omega⟩
 |_=>cases h
theorem iz{p:Nat}(h:p<10):Kg (.int (p:Nat))=true:=by
 show (decide (0<=(p:Int)) && decide ((p:Int)<10))=true;rw[decide_eq_true (ip p),decide_eq_true<|by omega];rfl
section
variable{x:Addr}{bs:List (Str×Nat)}{E6 E7:Nat}{m m':Nat->Option Ps}{c c':Nat}
theorem Ek.keep(h:Ek C Cy pE pA Ho H y x bs ks sts dr sh sd m c){p:Nat}{ps:Ps}{o:Addr}(e:H sd=some (.dK kvs))(F:kvs.length<=c)(v:∀p,p<10->m p=none->CN kvs (Sum.inl (p:Nat))=none)(r:∀p ps,p<10->m p=some ps->∃o,CN kvs (Sum.inl (p:Nat))=some (.ref o)/\Fg pE pA H o ps)(l:Fg pE pA H o ps) :
  Ek C Cy pE pA Ho (upd H sd<|.dK<|putK kvs (Sum.inl (p:Nat))<|.ref o) y x bs ks sts dr sh sd (MT m p ps) (c+1):=by
 obtain⟨t,rk,u,g⟩:=h.o;have up:SX sd H<|upd H sd<|.dK<|putK kvs (Sum.inl (p:Nat))<|.ref o:=SX.up
 have j:∀{o ps},Fg pE pA H o ps->Fg pE pA (upd H sd<|.dK<|putK kvs (Sum.inl (p:Nat))<|.ref o) o ps:=λ{_ _} f=>f.keep λ_ _ _ e=>by
  rw[Aw (h.not f).2];exact e
 have ne:∀q:Nat,¬ q=p->¬ (Sum.inl ((q:Nat):Int):Key)=Sum.inl ((p:Nat):Int):=λq d z=>d (by have:=Sum.inl.inj z;omega);refine⟨⟨t,rk,u,g.o,λb k i=>up b k (g.s b k i) (λz=>by rw[z,h.hs] at i;cases i),g.n,?_⟩,h.f,h.hs,h.ny,_,Aj,be (bx _ _ _) (by omega),λq d a=>?_,λq E d a=>?_⟩
 ·obtain⟨s,fs,A,D⟩:=g.c.ex;exact⟨s,fs,by rw[Aw (Ne.symm h.ny)];exact A,D⟩
 ·unfold MT at a;by_cases z:q=p
  ·rw[if_pos z] at a
   cases a
  ·rw[if_neg z] at a;rw[Fw,if_neg<|ne q z];exact v q d a
 ·unfold MT at a;by_cases z:q=p
  ·rw[if_pos z] at a
   cases a;subst z;exact⟨o,by rw[Fw,if_pos U],l.keep λ_ _ _ e=>by rw[Aw (h.not l).2];exact e⟩
  ·rw[if_neg z] at a;obtain⟨B,w,n⟩:=r q E d a;exact⟨B,by rw[Fw,if_neg<|ne q z];exact w,n.keep λ_ _ _ e=>by rw[Aw (h.not n).2];exact e⟩
end
inductive lW(C Cy pE pA:Addr)(vs:List V)(H:Hp)(Q:VK)(b9:XK):Prop
 | mk(Ho:Hp)(y x:Addr)(bs:List (Str×Nat))(ks:List R)(sts:List Nat)(dr sh:Nat)(sd:Addr)(m:Nat->Option Ps)(c:Nat):vs=[.ref y]->Ek C Cy pE pA Ho H y x bs ks sts dr sh sd m c->(∀H',SX y H H'->Ek C Cy pE pA Ho H' y x bs ks sts 0 0 sd m c->Q .non H')->lW C Cy pE pA vs H Q b9
inductive jF(C Cy pE pA cP:Addr)(vs:List V)(H:Hp)(Q:VK)(E:XK):Prop
 | mk(Ho:Hp)(y x:Addr)(bs:List (Str×Nat))(ks:List R)(sts:List Nat)(dr sh:Nat)(sd:Addr)(m:Nat->Option Ps)(c:Nat)(v:V):vs=[.ref y,v]->Ek C Cy pE pA Ho H y x bs ks sts dr sh sd m c->Cj H v->(∀(p:Nat) ps H',v=.int (p:Nat)->p<10->m p=some ps->SX y H H'->Ek C Cy pE pA Ho H' y x bs ks sts (ps.put dr) sh sd m c->Q .non H')->(∀H',Am H H'->(∀p:Nat,v=.int (p:Nat)->p<10->m p=none)->E (.ref cP) none H')->jF C Cy pE pA cP vs H Q E
inductive jo(C Cy pE pA cP cB:Addr)(vs:List V)(H:Hp)(Q:VK)(E:XK):Prop
 | mk(Ho:Hp)(y x:Addr)(bs:List (Str×Nat))(ks:List R)(sts:List Nat)(dr sh:Nat)(sd:Addr)(m:Nat->Option Ps)(c:Nat)(v b:V):vs=[.ref y,v,b]->Ek C Cy pE pA Ho H y x bs ks sts dr sh sd m c->c<900->Cj H v->Cj H b->(∀(p:Nat) H',v=.int (p:Nat)->p<10->b=.non->SX sd H H'->Ek C Cy pE pA Ho H' y x bs ks sts dr sh sd (MT m p (.every dr)) (c+1)->Q .non H')->(∀(p:Nat) t H',v=.int (p:Nat)->p<10->b=.str t->t∈bs.map (·.1)->SX sd H H'->Ek C Cy pE pA Ho H' y x bs ks sts dr sh sd (MT m p (.part (dr &&& JW ks t) (JW ks t))) (c+1)->Q .non H')->(∀H',Am H H'->Kg v=false->E (.ref cP) none H')->(∀H',Am H H'->Kg v=true->b≠.non->Gk (bs.map (·.1)) b=.non->E (.ref cB) none H')->jo C Cy pE pA cP cB vs H Q E
theorem zN:Av sT sT<|Af xK:=Bg
include N T in
theorem pU:An P w K mg base Bb 2 aD.fXc aD.dXc sT<|lW C Cy pE pA:=by
 refine N.FXc.1.Dg zN λH F Q E b h=>?_;obtain⟨I,y,x,bs,V,k,f,r,t,m,c,rfl,O,q⟩:=h;have G:=CG b;refine⟨_,(Ae (Bw<|Bp (pv 0) T.clR N.FXd.2.2 (UT N T) (ad b) N.FXd.2.1 .nil Ao<|Aa Ac Ab)
  (Ag<|DG (pv 0) Ac U)),?_⟩
 obtain⟨W,rk,B,D⟩:=id O.o;obtain⟨o,fs,p,L,R,J,S,A,v⟩:=id D.c.ex;refine⟨_,U,y,o,fs,U,p,v _<|by decide,y,x,f,r,t,0,U,D.c,λz e d=>?_⟩;obtain⟨a,M,g,s,n,j,l,u,i⟩:=id d.ex;refine⟨_,U,y,Cy,a,_,U,g,T.clR,T.nr_shoe_step,by omega,?_⟩;exact q _ (e.trans SX.up)<|(O.put e d).put SX.up<|Dq.nq 0 s n j l u i Aj
theorem yM:Av A3 A3<|Af x_:=Bg
include N T in
theorem o7:An P w K mg base (Gp P w) 3 aD.fXr aD.dXr A3<|jF C Cy pE pA cP:=by
 refine N.FXr.1.Jx yM λH vs Q E g h=>?_;obtain⟨Ho,y,x,bs,ks,J,i,sh,r,m,c,v,rfl,O,Z,q,s⟩:=h;have u:=CG g;refine⟨_,(Ae (Bh (PW.pt<|El (Ce<|Cq<|zC (fL N T) g U N.FIp<|Aa (pv 1) Ab)<|EY<|R_<|M8 u (pv 1)<|Bc (pv 0) U) (Ag<|GK T.x4.rP.ex U T.x4.mP U HQ<|Aa BP Ab) Ba)
  (Ag<|Bw<|Bp (pv 0) T.clR N.FXd.2.2 (UT N T) (ad g) N.FXd.2.1 .nil Ao<|Aa (Wg (Ey u (Bc (pv 0) U) (pv 1)<|λ_ _=>rfl) T.pis.cE N.FEp.2.2 (rA N T) N.FEp.2.1 T.pis.cA N.FAp.2.2 (oJ N T) N.FAp.2.1 (ad g) Ao<|Aa (Bc (pv 0) U) Ab) Ab)),?_⟩
 obtain⟨us,rk,ls,D⟩:=id O.o;obtain⟨a,fs,b,l1,B,l3,F,l5,lm⟩:=id D.c.ex;obtain⟨S,G,d2,X,R⟩:=id O.st.ex;refine⟨_,U,v,U,Z,_,U,?_⟩
 cases hb:Kg v with
 |false =>
  refine Dj ⟨by show 1<=1000;decide,s H (Am.refl H) λp l f=>?_⟩;rw[l,iz f] at hb
  cases hb
 |true =>
  obtain⟨p,rfl,f⟩:=Rw hb;refine Bj ⟨_,U,_,U,y,Cy,a,_,_,U,b,T.clR,T.nr_stored,F,r,_,U,Ed.k (k:=Sum.inl ((p:Nat):Int)) G,_,U,?_⟩
  cases hm:m p with
  |none =>
   rw[X p f hm];exact Dj ⟨by show 1<=1000;decide,s H (Am.refl H) λp' l _=>by rw[show p'=p by have:=V.int.inj l;omega];exact hm⟩
  |some j =>
   obtain⟨o,z,t⟩:=R p j f hm;rw[z];refine Bj ⟨_,U,y,a,fs,U,b,lm _<|by decide,_,U,y,Cy,a,_,_,U,b,T.clR,T.nr_stored,F,_,U,r,_,U,z ▸ Ed.k (k:=Sum.inl ((p:Nat):Int)) G,?_⟩;have fin:∀{E0:XK}(n:Nat),n=j.put i->Q_ Cy [.ref y,.int (n:Nat)] H (λ_ W=>Q .non W) E0:=λn L=>⟨y,x,i,sh,r,n,U,D.c,λI A Y=>q p j I U f hm A<|L ▸ O.put A Y⟩
   cases j with
   |every k =>
    obtain⟨d,e⟩:=t;refine⟨o,d,_,U,by rw[List.lookup_cons,show (("put" : Str) == "knob_set")=false by decide];rfl,.inl ⟨e,_,U,y,Cy,a,_,_,U,b,T.clR,T.nr_drawn_set,B,o,d,k,i,U,e,fin k U⟩⟩
   |part k M =>
    obtain⟨d,e⟩:=t;refine⟨o,d,_,U,by rw[List.lookup_cons,show (("put" : Str) == "knob_set")=false by decide];show List.lookup _ _=none;rw[List.lookup_cons,show (("put" : Str) == "whole_set")=false by decide];rfl,.inr ⟨e,_,U,y,Cy,a,_,_,U,b,T.clR,T.nr_drawn_set,B,o,d,k,M,i,U,e,fin _ U⟩⟩
theorem qW:Av ["self","piston","board","whole"] wv (Af V_):=Bg
include N T in
theorem pY:An P w K mg base (Gp P w) 6 aD.fXt aD.dXt wv<|jo C Cy pE pA cP cB:=by
 have R:An P w K mg base (Gp P w) 5 aD.fKb aD.dKb vr<|gq C cB:=o6 N T
 refine N.FXt.1.Jx qW λH vs Q E q h=>?_;obtain⟨Ho,y,x,bs,ks,r,l,sh,B,m,c,v,b,rfl,O,hc,hv,hb,q1,q2,I,L⟩:=h;have hu:=CG q;refine⟨_,(Ae (Bh (Ce<|Cq<|zC (fL N T) q U N.FIp<|Aa (pv 1) Ab) (Ag<|GK T.x4.rP.ex U T.x4.mP U HQ<|Aa BP Ab) Ba)
  (Ag (Bh (BR Sh (pv 2) GC<|BX _) (Ag<|Fi hu (Bc (pv 0) U) (pv 1) (Iz N.FPi.2.2 (cz N T) (q.mono<|by decide) U T.pis.mE N.FPi.2.1 .nil Ao<|Aa (Bc (pv 0) U) Ab) U) (Ae (Be (i:=3) qW.nd U (Or.inl U)<|Ak R (ad q) U N.FKb.2.2 N.FKb.1.kp N.FKb.2.1 .nil Dm<|Aa (Bc (pv 0) U)<|Aa (pv 2) Ab)
  (Ag<|Fi hu (Bc (pv 0) U) (pv 1) (Iz N.FAi.2.2 (nH N T) (q.mono<|by decide) U T.pis.mA N.FAi.2.1 .nil Ao<|Aa (BZ JT (Bc (pv 0) U)<|pv 3)<|Aa (pv 3) Ab) U))))),?_⟩
 obtain⟨us,rk,ls,D⟩:=id O.o;obtain⟨z,fs,A,l1,l2,l3,l4,l5,lm⟩:=id D.c.ex;refine⟨_,U,v,U,hv,_,U,?_⟩
 cases hk:Kg v with
 |false=>exact Dj ⟨by show 1<=1000;decide,I H (Am.refl H) hk⟩
 |true =>
  obtain⟨p,rfl,hp⟩:=Rw hk;refine Bj ?_;have s:∀f,Am H f->∀(o:Addr)(J:Ps),Fg pE pA f o J->∃g,Jf f B (.int ((p:Nat):Int)) (.ref o) g/\SX B H g/\Ek C Cy pE pA Ho g y x bs ks r l sh B (MT m p J) (c+1):=λf j o J F6=>by
   obtain⟨ab,d1,d2,d3,d4⟩:=(O.mono j).st.ex;exact⟨_,Jf.k (k:=Sum.inl ((p:Nat):Int)) d1<|BJ<|by omega,(SX.of j).trans SX.up,(O.mono j).keep d1 d2 d3 d4 F6⟩
  by_cases M:b=.non
  ·subst M;refine⟨_,U,U,_,U,Dj ⟨_,U,y,Cy,z,_,_,U,A,T.clR,T.nr_drawn_set,l2,λo d u G Y=>?_⟩⟩;refine⟨o,pE,d,l,U,.inl U,Aj,U,?_⟩;have n:Am H<|upd (upd (upd H d<|.own o) o<|.ins pE d []) o<|.ins pE d [("knob_set",.int (l:Nat))]:=λa ob e=>by
    rw[Aw (Ai e u),Aw<|Ai e u,Aw<|Ai e G];exact e
   have F:Fg pE pA (upd (upd (upd H d<|.own o) o<|.ins pE d []) o<|.ins pE d [("knob_set",.int (l:Nat))]) o<|.every l:=⟨d,Aj⟩
   generalize (upd (upd (upd H d (.own o)) o (.ins pE d [])) o (.ins pE d [("knob_set",.int (l:Nat))]))=f at n F |-;obtain⟨g,S,W,X⟩:=s f n o _ F;exact⟨_,U,y,Cy,z,_,_,U,n _ _ A,T.clR,T.nr_stored,l4,_,U,B,g,U,S,q1 p g U hp U W X⟩
  ·have Z:(decide (b=V.non))=false:=decide_eq_false M;refine⟨_,U,U,_,U,?_⟩;rw[Z];refine Bj ?_;refine⟨_,U,y,Cy,z,_,_,U,A,T.clR,T.nr_organ,l1,_,U,x,us,bs,rk,ks,ls,r,b,U,D.o.mono D.s,hb,O.f.bn,O.f.bd,be O.f.kl<|by decide,O.f.kb,λt f j ev ht=>?_,λf j e=>L f j hk M e⟩;subst ev;refine⟨_,U,y,Cy,z,_,_,U,j _ _ A,T.clR,T.nr_drawn_set,l2,_,U,_,_,U,U,_,U,λo d u G Y=>?_⟩;try dsimp only
   rw[Mt];refine⟨o,d,_,_,U,Aj,λg c2 F=>⟨U,?_⟩⟩;have n:Am f g:=λa ob e=>c2 a ob (by rw[Aw (Ai e u),Aw<|Ai e G];exact e)<|Ai e u
   obtain⟨H3,S,W,X⟩:=s g (j.trans n) o _ F;exact⟨_,U,y,Cy,z,_,_,U,n _ _<|j _ _ A,T.clR,T.nr_stored,l4,_,U,B,H3,U,S,q2 p t H3 U hp U ht W X⟩
inductive bu(K:W.Frag)(vs:List V)(H:Hp)(Q:VK)(b9:XK):Prop
 | mk(a:Addr)(k:Nat)(ns:List Int):vs=[.ref a,.int (k:Nat)]->De K H a (ns.map V.int)->Q (.int (ns.getD k 0)) H->bu K vs H Q b9
theorem zb:Av xi xi<|Af yG:=Bg
include N T in
theorem dJ:An P w K mg base Bb 1 aD.fCe aD.dCe xi<|bu K:=by
 refine N.FCe.1.Dg zb λH i Q E g h=>?_;obtain⟨a,k,d,rfl,f,q⟩:=h;refine⟨_,(Ae (Bh (BR HY (pv 1) (BK BW U T.len bo<|Aa (pv 0) Ab)<|BX _) (Ag<|Ax<|Az Ei (pv 0) (pv 1)<|λ_ _=>rfl) Ba)
  (Ag<|Ax Ac)),?_⟩
 refine⟨_,U,_,U,a,_,U,.inl f,_,_,U,U,_,U,?_⟩;rw[bi] at q;refine Cw (λc=>?_)<|λc=>?_
 ·have b:k<d.length:=by have:=of_decide_eq_true c;rw[af] at this;omega
  rw[ae b] at q;exact⟨_,U,_,U,a,_,_,.int d[k],U,U,f,Ah<|by rw[am,ae b];rfl,q⟩
 ·have e:d.length<=k:=by
   rw[af,decide_eq_true_eq] at c;omega
  rw[eI e] at q;exact q
def Kw(c b m:Int):Int:=(c % 1000003+7) * b % 2147483647 * ((c % 1000003+7) * b % 2147483647) % 2147483629 / 64 % m
theorem RJ(c b:Int){m:Int}(a:0<m):0<=Kw c b m/\Kw c b m<m:=⟨jI _<|by omega,iq _ a⟩
inductive ji(vs:List V)(H:Hp)(Q:VK)(b9:XK):Prop
 | mk(c b m:Int):vs=[.int c,.int b,.int m]->0<m->0<=b->b<4611686018427387904->Q (.int (Kw c b m)) H->ji vs H Q b9
theorem oR:Av ["_law_cell","_law_by","_law_many","_law_number"] z3 (Af wD):=Bg
include N T in
theorem rO:An P w K mg base Bb 1 aD.fMi aD.dMi z3 ji:=by
 refine N.FMi.1.Dg oR λH g Q E e h=>?_;obtain⟨c,b,m,rfl,a,j,d,q⟩:=h;refine⟨_,(Ae (Be (i:=3) oR.nd U (Or.inl U)<|BZ Eu (BZ Hs (BZ CQ (BZ Eu (pv 0) Ac) Ac)<|pv 1) Ac)
  (Ag<|Ax<|BZ Eu (BZ K_ (BZ Eu (BZ Hs (pv 3)<|pv 3) Ac) Ac)<|pv 2)),?_⟩
 refine⟨_,U,_,_,U,U,(by show (0:Int)<1000003;decide),_,_,U,U,_,U,_,_,U,U,.inr ⟨by omega,by omega⟩,_,_,U,U,(by show (0:Int)<2147483647;decide),?_⟩;have f:0<=(c % 1000003+7) * b % 2147483647:=jI _<|by decide
 have k:(c % 1000003+7) * b % 2147483647<2147483647:=iq _<|by decide
 exact⟨_,U,_,U,_,_,U,U,.inl ⟨by omega,by omega⟩,_,_,U,U,(by show (0:Int)<2147483629;decide),_,_,U,U,⟨by decide,by decide⟩,_,U,_,_,U,U,a,q⟩
def SrcAt(H:Hp)(p:Addr):Prop:=∃u s:Int,H p=some (.lst [.int u,.int s])/\0<=u/\0<=s/\s<2147483647
theorem SrcAt.mono(s:Am H H')(h:SrcAt H p):SrcAt H' p:=by
 obtain⟨u,r,a,b⟩:=h;exact⟨u,r,s _ _ a,b⟩
def Zd(H H':Hp)(p:Addr):Prop:=∀b,b≠p->H' b=H b
inductive bM(K:W.Frag)(vs:List V)(H:Hp)(Q:VK)(b9:XK):Prop
 | mk(a:Addr)(k:Nat)(ns:List Int):vs=[.ref a,.int (k:Nat)]->De K H a (ns.map V.int)->k<=1000->(∀p H',H p=none->Am H H'->SrcAt H' p->Q (.ref p) H')->bM K vs H Q b9
theorem i_:Av ["_law_script","_law_k","_law_cell","_law_seed"] xi (Af sLo):=Bg
include N T in
theorem dF:An P w K mg base Bb 2 aD.fLo aD.dLo xi<|bM K:=by
 refine N.FLo.1.Dg i_ λH g Q E e h=>?_;obtain⟨a,k,b,rfl,f,i,q⟩:=h;refine⟨_,(@Ae _ _ _ _ _ (@Bo _ _ _ _ _ _ 2 i_.nd U (Or.inl U) (zC (dJ N T) e U N.FCe<|@Ay _ _ _ _ _ U (pv 0)<|@Ay _ _ _ _ _ U (pv 1) Ab) (by kernel_rfl)<|.inl U)
  (@Ae _ _ _ _ _ (@Bo _ _ _ _ _ _ 3 i_.nd U (Or.inl U) (BZ Eu (BZ Hs (BZ CQ (BZ CQ (BZ Eu (pv 2) Ac)<|BZ Hs Ac<|pv 1) Ac) Ac) Ac) (by kernel_rfl)<|.inl U)
  (@Ag _ _ _<|@Ax _ _ _ _<|@DK _ _ _ _<|@Ay _ _ _ _ _ U (BZ Hs (pv 2)<|Cr Ip U T.int gd<|@Ay _ _ _ _ _ U (Dd dG (pv 2) (BZ Rj Ac Ac)<|BX _) Ab)<|@Ay _ _ _ _ _ U (pv 3) Ab))),?_⟩
 refine⟨_,U,_,U,a,k,b,U,f,?_⟩;generalize b.getD k 0=c;have j:0<=c % 1000003/\c % 1000003<1000003:=⟨jI _<|by decide,iq _<|by decide⟩;refine⟨_,U,_,_,U,U,(by show (0:Int)<1000003;decide),_,U,_,_,U,U,.inl ⟨by decide,by decide⟩,_,_,U,U,_,_,U,U,_,_,U,U,.inr ⟨by decide,by decide⟩,_,_,U,U,(by show (0:Int)<2147483647;decide),?_⟩;refine⟨_,U,_,U,_,_,U,U,⟨by decide,by decide,by decide⟩,_,_,U,U,.inr ⟨_,U,_,_,U,U,.inr ⟨?_,?_⟩,_,U,Bv (by simp),λp d=>?_⟩⟩
 ·split <;> decide
 ·split <;> decide
 ·refine q p _ d (BL d) ⟨_,_,Aj,?_,jI _<|by decide,iq _<|by decide⟩;by_cases h:(10:Int) ^ (18:Int).toNat<=c
  ·rw[decide_eq_true h,if_pos U,lT];have:(0:Int)<=10 ^ (18:Int).toNat:=by decide
   omega
  ·rw[decide_eq_false h,if_neg eW,Int.mul_zero];decide
inductive Y6(vs:List V)(H:Hp)(Q:VK)(b9:XK):Prop
 | mk(p:Addr)(m:Int):vs=[.ref p,.int m]->SrcAt H p->0<m->m<1073741824->(∀(z:Nat) H',((z:Nat):Int)<m->Zd H H' p->SrcAt H' p->Q (.int (z:Nat)) H')->Y6 vs H Q b9
theorem nG:Av ["_law_source_here","_law_many","_law_digit"] Ap (Af yo):=Bg
include N T in
theorem Wr:An P w K mg base Bb 1 aD.fDw aD.dDw Ap Y6:=by
 refine N.FDw.1.Dg nG λH I Q E G h=>?_;obtain⟨p,m,rfl,⟨u,a,l,x,k,o⟩,e,F,q⟩:=h;refine⟨_,(@Ae _ _ _ _ _ (@Bh _ _ _ _ _ _ _ _ (BR QR (@Az _ _ _ _ _ _ _ Ei (pv 0) Ac<|λ_ _=>rfl) Ac<|BX _) (@Ae _ _ _ _ _ (@Bo _ _ _ _ _ _ 2 nG.nd U (Or.inl U) (BZ Eu (@Az _ _ _ _ _ _ _ Ei (pv 0) Ac<|λ_ _=>rfl)<|pv 1) (by kernel_rfl)<|.inl U)
  (@Ae _ _ _ _ _ (Om (BZ K_ (@Az _ _ _ _ _ _ _ Ei (pv 0) Ac<|λ_ _=>rfl)<|pv 1)<|Xj (pv 0) Ac set_list)
  (@Ag _ _ _<|@Ax _ _ _ _<|pv 2))) Ba)
  (@Ae _ _ _ _ _ (Om (BZ Eu (BZ CQ (BZ Hs (@Az _ _ _ _ _ _ _ Ei (pv 0) Ac<|λ_ _=>rfl) Ac) Ac) Ac)<|Xj (pv 0) Ac set_list)
  (@Ag _ _ _<|@Ax _ _ _ _<|BZ Eu (BZ K_ (BZ Eu (BZ Hs (@Az _ _ _ _ _ _ _ Ei (pv 0) Ac<|λ_ _=>rfl)<|@Az _ _ _ _ _ _ _ Ei (pv 0) Ac<|λ_ _=>rfl) Ac) Ac)<|pv 1))),?_⟩
 have t:∀(z:Int) f,0<=z->z<m->Zd H f p->SrcAt f p->Q (.int z) f:=λz f D C=>by
  obtain⟨r,rfl⟩:=ij D;exact q r f C
 have i:De K H p [V.int u,V.int a]:=.inl<|.inl l
 refine⟨_,U,p,_,_,_,U,U,i,Ah (j:=0) U,_,_,U,U,_,U,Cw (λg=>?_)<|λg=>?_⟩
 ·refine⟨_,U,p,_,_,_,U,U,i,Ah (j:=0) U,_,U,_,_,U,U,e,?_⟩;refine⟨_,U,p,_,_,_,U,U,i,Ah (j:=0) U,_,U,_,_,U,U,⟨e,F⟩,_,U,p,_,0,0,U,U,l,U,?_⟩;exact⟨_,U,t (u % m) _ (jI _<|by omega) (iq _ e) (λb s=>Aw s) ⟨u / m,a,Aj,Int.ediv_nonneg x<|by omega,k,o⟩⟩
 ·refine⟨_,U,p,_,_,_,U,U,i,Ah (j:=1) U,_,_,U,U,.inr ⟨by decide,by decide⟩,_,_,U,U,_,_,U,U,(by show (0:Int)<2147483647;decide),_,U,p,_,1,1,U,U,l,U,?_⟩;try dsimp only
  have B:=Int.emod_nonneg (a * 48271+11) (show (2147483647:Int)≠0 by decide);have y:=Int.emod_lt_of_pos (a * 48271+11) (show (0:Int)<2147483647 by decide);generalize (a * 48271+11) % 2147483647=c at B y |-;have n:upd H p (HO.lst<|[V.int u,V.int a].set 1 (V.int c)) p=some (.lst [V.int u,V.int c]):=Aj;have A:Zd H (upd H p<|HO.lst<|[V.int u,V.int a].set 1 (V.int c)) p:=λb s=>Aw s;generalize upd H p (HO.lst ([V.int u,V.int a].set 1 (V.int c)))=v at n A |-;have d:De K v p [V.int u,V.int c]:=.inl<|.inl n
  exact⟨_,U,p,_,_,_,U,U,d,Ah (j:=1) U,_,U,p,_,_,_,U,U,d,Ah (j:=1) U,_,_,U,U,.inl ⟨by omega,by omega⟩,_,_,U,U,(by show (0:Int)<2147483629;decide),_,_,U,U,⟨by decide,by decide⟩,_,U,_,_,U,U,e,t _ v (Int.emod_nonneg _<|by omega) (Int.emod_lt_of_pos _ e) A ⟨u,c,n,x,B,y⟩⟩
def Qx(c:Int):Nat:=(1+Kw c 950706376 8).toNat
theorem Wv(c:Int):1<=Qx c/\Qx c<=8:=by
 have:=RJ c 950706376 (m:=8)<|by decide
 unfold Qx;omega
theorem oG(c:Int):1+Kw c 950706376 8=((Qx c:Nat):Int):=by
 have:=RJ c 950706376 (m:=8)<|by decide
 unfold Qx;omega
def YF(c:Int):Nat:=(Kw c 742938285 (Qx c:Nat)).toNat
theorem dN(c:Int):YF c<Qx c/\Kw c 742938285 (Qx c:Nat)=((YF c:Nat):Int):=by
 have h:=RJ c 742938285 (m:=((Qx c:Nat):Int)) (by have:=(Wv c).1;omega);unfold YF;omega
def cF(c:Int)(n:Nat)(i:Int):Nat:=97+((Kw (c+i) 62089911 26+(n:Int) * (if decide (V.int i=V.int ((YF c:Nat):Int))=true then 1 else 0)) % 26).toNat
theorem cF_b(c:Int)(n:Nat)(i:Int):97<=cF c n i/\cF c n i<=122:=by
 unfold cF;have b:=Int.emod_nonneg (Kw (c+i) 62089911 26+(n:Int) * (if decide (V.int i=V.int ((YF c:Nat):Int))=true then 1 else 0)) (show (26:Int)≠0 by decide);have a:=Int.emod_lt_of_pos (Kw (c+i) 62089911 26+(n:Int) * (if decide (V.int i=V.int ((YF c:Nat):Int))=true then 1 else 0)) (show (0:Int)<26 by decide);omega
def Q9(c:Int)(n:Nat):List Nat:=(List.range<|Qx c).map λj:Nat=>cF c n<|(0:Int)+(j:Int)
def Hj(c:Int)(n:Nat):Str:=⟨(Q9 c n).toArray⟩
theorem Tj(c:Int)(n:Nat):(Q9 c n).length=Qx c:=by unfold Q9;rw[List.length_map,List.length_range]
theorem cQ(l:List Nat):Txt.join ("" : Str) (l.map λx=>(⟨#[x]⟩:Str))=(⟨l.toArray⟩:Str):=by
 have h:=Rf l;generalize Txt.join ("" : Str) (l.map λx=>(⟨#[x]⟩:Str))=z at h;obtain⟨a⟩:=z;have b:a.toList=l:=h;rw[<-b]
theorem HD(c:Int)(n:Nat):isNm<|Hj c n:=by
 have hl:(Hj c n).length=Qx c:=by
  have:=Tj c n;show (Q9 c n).toArray.size=Qx c;rw[bX];exact this
 have b:=Wv c;refine⟨by rw[hl];exact b.1,by rw[hl];exact b.2,λx d=>?_⟩;have a:x∈Q9 c n:=d;unfold Q9 at a;obtain⟨j,_,rfl⟩:=ar.mp a;exact cF_b c n _
theorem Jo{c:Int}{n':Nat}(h:n<26)(h':n'<26)(e:Hj c n=Hj c n'):n=n':=by
 have f:(Q9 c n).toArray=(Q9 c n').toArray:=congrArg Str.cps e;have d:Q9 c n=Q9 c n':=by
  have:=congrArg Array.toList f;exact this
 have g:=(dN c).1;have a:(Q9 c n)[YF c]? = (Q9 c n')[YF c]?:=by rw[d]
 unfold Q9 at a;rw[am,am,List.getElem?_range g] at a;have b:cF c n ((0:Int)+((YF c:Nat):Int))=cF c n' ((0:Int)+((YF c:Nat):Int)):=Option.some.inj a;unfold cF at b;rw[hZ,decide_eq_true U,if_pos U,lT,lT] at b;generalize Kw (c+((YF c:Nat):Int)) 62089911 26=x at b;omega
theorem Ze{l:List Nat}(h:l.length<=8):JoinOk ("" : Str) (l.map λx=>(⟨#[x]⟩:Str))=true:=by
 refine PyProof.Rows.joinOk_of_weight ?_<|by decide
 rw[ay,af];have c:(l.map<|(λx:Str=>x.length) ∘ λx=>(⟨#[x]⟩:Str)).sum=l.length:=by
  clear h
  induction l with
  |nil=>rfl
  |cons a l b =>
   rw[cw,gI,b,bp];show 1+l.length=l.length+1;omega
 rw[c];omega
inductive jC(vs:List V)(H:Hp)(Q:VK)(b9:XK):Prop
 | mk(c:Int)(n:Nat):vs=[.int c,.int (n:Nat)]->n<=100->(∀H',Am H H'->Q (.str (Hj c n)) H')->jC vs H Q b9
theorem au:Av y8 Bn<|Af ux:=Bg
include N T in
theorem rE:An P w K mg base Bb 2 aD.fNa aD.dNa Bn jC:=by
 refine N.FNa.1.Dg au λH u Q E d h=>?_;obtain⟨c,n,rfl,v,q⟩:=h;refine⟨_,(@Ae _ _ _ _ _ (@Bo _ _ _ _ _ _ 2 au.nd U (Or.inr U) BP (by kernel_rfl)<|.inl U)
  (@Ae _ _ _ _ _ (@Bo _ _ _ _ _ _ 3 au.nd U (Or.inl U) (BZ CQ Ac<|zC (rO N T) d U N.FMi<|@Ay _ _ _ _ _ U (pv 0)<|@Ay _ _ _ _ _ U Ac<|@Ay _ _ _ _ _ U Ac Ab) (by kernel_rfl)<|.inl U)
  (@Ae _ _ _ _ _ (@Bo _ _ _ _ _ _ 4 au.nd U (Or.inr U) (zC (rO N T) d U N.FMi<|@Ay _ _ _ _ _ U (pv 0)<|@Ay _ _ _ _ _ U Ac<|@Ay _ _ _ _ _ U (pv 3) Ab) (by kernel_rfl)<|.inl U)
  (@Ag _ _ _<|@Ax _ _ _ _<|G5 PySem.F.plainAttrs_str PySem.F.slot_str_join PySem.F.type_str_join Z_ BP<|@Ay _ _ _ _ _ U (Br U (Bf (osc:=Af ux) (N:=y8) U U<|by decide) (Dr U T.range<|@Ay _ _ _ _ _ U (pv 3) Ab) (λ_ _ _ _=>Ci)<|λ_ _ _ _=>(@Az _ _ _ _ _ _ _ l_ (pv 3) (BZ Eu (BZ CQ (zC (rO N T) d U N.FMi<|@Ay _ _ _ _ _ U (BZ CQ (pv 1)<|pv 0)<|@Ay _ _ _ _ _ U Ac<|@Ay _ _ _ _ _ U Ac Ab)<|BZ Hs (pv 2)<|Cr Ip U T.int gd<|@Ay _ _ _ _ _ U (Dd CP (pv 0) (pv 5)<|BX _) Ab) Ac)<|λ_ _=>rfl)) Ab)))),?_⟩
 have t:=Wv c;have o:=dN c;refine⟨_,U,c,950706376,8,U,by decide,by decide,by decide,_,_,U,U,?_⟩;show Cm 3 (V.int<|1+Kw c 950706376 8) _ _ _;rw[oG];refine⟨_,U,_,U,c,742938285,_,U,(by show (0:Int)<((Qx c:Nat):Int);omega),by decide,by decide,?_⟩;rw[o.2];refine⟨U,_,U,((Qx c:Nat):Int),U,by omega,by omega,?_⟩;rw[aS];refine JP (lo:=0) (n:=Qx c) (λ_=>true) (λi=>.str ⟨#[cF c n i]⟩) (BJ<|by omega) (λi m b r R k=>k b<|Am.refl b) (λi m _ b r R k=>?_)<|λD e s g a=>?_
 ·have f:=k b<|Am.refl b
  refine⟨_,U,_,U,_,U,_,_,U,U,_,62089911,26,U,by decide,by decide,by decide,_,U,_,U,_,U,U,.inr ⟨_,U,_,_,U,U,.inl ⟨by omega,by omega⟩,_,_,U,U,_,_,U,U,(by show (0:Int)<26;decide),letters,_,_,U,U,Bv<|by decide,jf (Int.emod_nonneg _<|by decide)<|Int.emod_lt_of_pos _<|by decide,f⟩⟩
 have j:((((List.range<|Qx c).map λ(i:Nat)=>(0:Int)+(i:Int)).filter λ_=>true).map λi=>V.str ⟨#[cF c n i]⟩)=((Q9 c n).map λx=>(⟨#[x]⟩:Str)).map V.str:=by
  rw[bq.mpr (λ_ _=>rfl)];unfold Q9;rw[ay,ay,ay];rfl
 rw[j] at a;have p:=Ze (l:=Q9 c n)<|by rw[Tj];omega
 refine⟨("" : Str),D,_,U,U,ma a,p,?_⟩;rw[cQ];exact q e g
structure Gq(H H':Hp)(p:Addr):Prop where
 sx:∀b o,H b=some o->b≠p->H' b=some o
 sr:SrcAt H' p
theorem SrcAt.some(h:SrcAt H p):∃l,H p=some (.lst l):=by
 obtain⟨u,s,h,_⟩:=h;exact⟨_,h⟩
theorem Gq.refl(h:SrcAt H p):Gq H H p:=⟨λ_ _ e _=>e,h⟩
theorem Gq.same(h:Gq H H1 p)(s:Am H1 H2):Gq H H2 p:=⟨λb o e a=>s _ _<|h.sx b o e a,h.sr.mono s⟩
theorem Gq.draw(h:Gq H H1 p)(f:Zd H1 H2 p)(s:SrcAt H2 p):Gq H H2 p:=⟨λb o e a=>by rw[f b a];exact h.sx b o e a,s⟩
theorem Gq.trans(h:Gq H H1 p)(g:Gq H1 H2 p):Gq H H2 p:=⟨λb o e a=>g.sx b o (h.sx b o e a) a,g.sr⟩
theorem Gq.free(h:Gq H H' p)(a:H' D=none):H D=none:=by
 cases e:H D with
 |none=>rfl
 |some o =>
  by_cases b:D=p
  ·obtain⟨l,hl⟩:=h.sr.some;rw[b,hl] at a
   cases a
  ·rw[h.sx D o e b] at a
   cases a
theorem Gq.ne(h:Gq H H' p)(a:H' D=none):D≠p:=λe=>by
 obtain⟨l,hl⟩:=h.sr.some;rw[e,hl] at a
 cases a
theorem SrcAt.put(h:SrcAt H p)(c:D≠p):SrcAt (upd H D o) p:=by
 obtain⟨u,s,a,b⟩:=h;exact⟨u,s,by rw[Aw (Ne.symm c)];exact a,b⟩
theorem Gq.put(h:Gq H H' p)(c:H D=none)(d:D≠p):Gq H (upd H' D o) p:=⟨λb u e a=>by rw[Aw (Ai e c)];exact h.sx b u e a,h.sr.put d⟩
theorem Gq.tup{v:V}(h:Gq H H' p)(a:SrcAt H p)(t:TupAt H xs v):TupAt H' xs v:=by
 obtain⟨T,rfl,e⟩:=t;refine⟨T,U,h.sx T _ e λz=>?_⟩;obtain⟨l,hl⟩:=a.some;rw[z,hl] at e
 cases e
theorem Gq.Nx{α:Type}{f:α->List V}{l:List α}(h:Gq H H' p)(b:SrcAt H p)(t:Paired (λa v=>TupAt H (f a) v) l vs):Paired (λa v=>TupAt H' (f a) v) l vs:=Paired.HW t λ_ _ z=>h.tup b z
def kR(cb:Nat->Str)(nm:Str):Kb->R
 |.cp i j s=>⟨"coupler",nm,[.str (cb i),.str<|cb j,.int s]⟩
 |.pl w i=>⟨w,nm,[.str (cb i)]⟩
theorem RP(a:Nat->Str)(nm:Str)(z:Kb):(kR a nm z).w=z.w:=by cases z <;> rfl
theorem Nu(a:Nat->Str)(nm:Str)(z:Kb):(kR a nm z).nm=nm:=by cases z <;> rfl
def lR(rn:Nat->Str)(l:Ln):R:=⟨"line",rn l.r,[.int l.sh,.int l.lo,.int l.hi]⟩
abbrev nB(bs:List<|Str×Nat)(i:Nat):Str:=(bs.getD i ("",0)).1
abbrev zB(bs:List<|Str×Nat)(i:Nat):Nat:=(bs.getD i ("",0)).2
abbrev nR(rk:List<|Str×Nat×Int)(i:Nat):Str:=(rk.getD i ("",0,0)).1
def bdK:Kb->Nat
 |.cp i _ _=>i
 |.pl _ i=>i
structure KnR(bs:List<|Str×Nat)(rk:List<|Str×Nat×Int)(z:Kb)(l:List Ln):Prop where
 ok:z.ok bs.length
 len:l.length<=3
 ln:∀x∈l,x.r<rk.length/\0<=x.lo/\x.lo<=x.hi/\x.hi<(zB bs (bdK z):Nat) /\ -2<=x.sh/\x.sh<=5
 st:z.w≠"stop"->l=[]
 cp:∀i j s,z=.cp i j s->-4<=s/\s<=4
theorem Q7{bs:List (Str×Nat)}{a:Nat}(h:a<bs.length):bs[a]? = some (nB bs a,zB bs a):=by
 unfold nB zB;rw[bi,ae h];rfl
theorem tW{rk:List (Str×Nat×Int)}{a:Nat}(h:a<rk.length):∃m wi,rk[a]? = some (nR rk a,m,wi):=by
 refine⟨rk[a].2.1,rk[a].2.2,?_⟩;unfold nR;rw[bi,ae h];rfl
def forR{lo:Int}{g:TG}{D:Ends}(Pv:Nat->St->Hp->Prop)(h0:Pv 0 σ H)(hs:∀i (D':Ends),(∀σ H,Pv (i+1) σ H->D'.nx σ H)->∀σ H,i<n->Pv i σ H->g (.int<|lo+i) σ H λσ2 H2=>tb D' σ2 H2)(hd:∀σ H,Pv n σ H->D.nx σ H):=Vb (lo:=lo) (n:=n) (g:=g) (tb:=tb) (D:=D) Pv h0 (λi σ H a b=>hs i { D with nx:=Pv<|i+1,ct:=Pv<|i+1,bk:=D.nx } (λ_ _ h=>h) σ H a b) hd
def forL{K:W.Frag}{g:TG}{D:Ends}(Pv:Nat->St->Hp->Prop)(h0:Pv 0 σ H)(hl:∀i σ H,i<=xs.length->Pv i σ H->De K H a xs)(hs:∀i (D':Ends),(∀σ H,Pv (i+1) σ H->D'.nx σ H)->∀x σ H,xs[i]? = some x->Pv i σ H->g x σ H λσ2 H2=>tb D' σ2 H2)(hd:∀σ H,Pv xs.length σ H->D.nx σ H):=Ia (K:=K) (a:=a) (xs:=xs) (g:=g) (tb:=tb) (D:=D) Pv h0 hl (λi x σ H e b=>hs i { D with nx:=Pv<|i+1,ct:=Pv<|i+1,bk:=D.nx } (λ_ _ h=>h) x σ H e b) hd
theorem Qh{c:TT}{t a u:TS}{D:Ends}(P:St->Hp->Prop)(b:∀D':Ends,(∀σ' H',P σ' H'->D'.nx σ' H')->jH c t a D' σ H)(d:∀σ' H',P σ' H'->u D σ' H'):kE (jH c t a) u D σ H:=b { D with nx:=u D } d
theorem gN{v:V}{Q:St->Hp->Prop}(h:Q (σ.set i<|some v) H):Cm i v σ H Q:=h
inductive jx(vs:List V)(H:Hp)(Q:VK)(b9:XK):Prop
 |mk(p B RA:Addr)(bs:List (Str×Nat))(rk:List (Str×Nat×Int))(i6 md:List V)(nm:Str):vs=[.ref p,.ref B,.ref RA,.str nm]->SrcAt H p->H B=some (.lst i6)->B≠p->Paired (λb v=>TupAt H (Fd b).v v) bs i6->1<=bs.length->bs.length<=5->(∀b∈bs,1<=b.2/\b.2<=61)->H RA=some (.lst md)->RA≠p->Paired (λr v=>TupAt H (Ft r).v v) rk md->1<=rk.length->rk.length<=12->(∀(D:Addr) (ws:List V) (z:Kb) (l:List Ln) H',H D=none->Gq H H' p->H' D=some (.lst ws)->Paired (λ(r:R) v=>TupAt H' r.v v) (kR (nB bs) nm z::l.map (lR<|nR rk)) ws->KnR bs rk z l->Q (.ref D) H')->jx vs H Q b9
theorem Mp:Av ["_law_source_here","_law_boards","_law_ranks","_law_name_here","_law_at","_law_way","_law_to","_law_rows_here","_law_k","_law_rank","_law_low","_law_high"] wf (Af vm):=Bg
include N T in
theorem sV:An P w K mg base Bb 3 aD.fLj aD.dLj wf jx:=by
 refine N.FLj.1.Dg Mp λH vs Q E C h=>?_;obtain⟨p,B,RA,bs,rk,i6,md,y,rfl,M,J,W,As,b1,b5,aZ,hR,X',zD,r1,a6,q⟩:=h;refine⟨_,(@Ae _ _ _ _ _ (@Bo _ _ _ _ _ _ 4 Mp.nd U (Or.inl U) (zC (Wr N T) C U N.FDw<|@Ay _ _ _ _ _ U (pv 0)<|@Ay _ _ _ _ _ U (BK BW U T.len bo<|@Ay _ _ _ _ _ U (pv 1) Ab) Ab) (by kernel_rfl)<|.inl U)
  (@Ae _ _ _ _ _ (@Bo _ _ _ _ _ _ 5 Mp.nd U (Or.inl U) (zC (Wr N T) C U N.FDw<|@Ay _ _ _ _ _ U (pv 0)<|@Ay _ _ _ _ _ U Ac Ab) (by kernel_rfl)<|.inl U)
  (@Ae _ _ _ _ _ (@Bh _ _ _ _ _ _ _ _ (BR CP (pv 5) Ac<|BX _) (@Ag _ _ _<|@Ax _ _ _ _<|@DK _ _ _ _<|@Ay _ _ _ _ _ U (@CK _ _ _ _ _<|@Ay _ _ _ _ _ U BP<|@Ay _ _ _ _ _ U (pv 3)<|@Ay _ _ _ _ _ U (@Az _ _ _ _ _ _ _ (Ar (K:=K) U) (@Az _ _ _ _ _ _ _ (Bk (K:=K) U) (pv 1) (pv 4)<|λ_ _=>rfl) Ac<|λ_ _=>rfl) Ab) Ab) Ba)
  (@Ae _ _ _ _ _ (@Bh _ _ _ _ _ _ _ _ (BR HY (pv 5) Ac<|BX _) (@Ae _ _ _ _ _ (@Bo _ _ _ _ _ _ 6 Mp.nd U (Or.inl U) (@Az _ _ _ _ _ _ _ (Ar (K:=K) U) (@Az _ _ _ _ _ _ _ (Bk (K:=K) U) (pv 1) (zC (Wr N T) C U N.FDw<|@Ay _ _ _ _ _ U (pv 0)<|@Ay _ _ _ _ _ U (BK BW U T.len bo<|@Ay _ _ _ _ _ U (pv 1) Ab) Ab)<|λ_ _=>rfl) Ac<|λ_ _=>rfl) (by kernel_rfl)<|.inl U)
  (@Ag _ _ _<|@Ax _ _ _ _<|@DK _ _ _ _<|@Ay _ _ _ _ _ U (@CK _ _ _ _ _<|@Ay _ _ _ _ _ U BP<|@Ay _ _ _ _ _ U (pv 3)<|@Ay _ _ _ _ _ U (@Az _ _ _ _ _ _ _ (Ar (K:=K) U) (@Az _ _ _ _ _ _ _ (Bk (K:=K) U) (pv 1) (pv 4)<|λ_ _=>rfl) Ac<|λ_ _=>rfl)<|@Ay _ _ _ _ _ U (pv 6)<|@Ay _ _ _ _ _ U (BZ GF (zC (Wr N T) C U N.FDw<|@Ay _ _ _ _ _ U (pv 0)<|@Ay _ _ _ _ _ U Ac Ab) Ac) Ab) Ab)) Ba)
  (@Ae _ _ _ _ _ (@Bo _ _ _ _ _ _ 7 Mp.nd U (Or.inl U) (@DK _ _ _ _<|@Ay _ _ _ _ _ U (@CK _ _ _ _ _<|@Ay _ _ _ _ _ U BP<|@Ay _ _ _ _ _ U (pv 3)<|@Ay _ _ _ _ _ U (@Az _ _ _ _ _ _ _ (Ar (K:=K) U) (@Az _ _ _ _ _ _ _ (Bk (K:=K) U) (pv 1) (pv 4)<|λ_ _=>rfl) Ac<|λ_ _=>rfl) Ab) Ab) (by kernel_rfl)<|.inl U)
  (@Ae _ _ _ _ _ (Dk PassesOwn.never U (Dr U T.range<|@Ay _ _ _ _ _ U (BZ CQ Ac<|zC (Wr N T) C U N.FDw<|@Ay _ _ _ _ _ U (pv 0)<|@Ay _ _ _ _ _ U Ac Ab) Ab) (Bt (i:=8) Mp.nd U<|Or.inl U) (@Ae _ _ _ _ _ (@Bo _ _ _ _ _ _ 9 Mp.nd U (Or.inl U) (@Az _ _ _ _ _ _ _ (Ar (K:=K) U) (@Az _ _ _ _ _ _ _ (Bk (K:=K) U) (pv 2) (zC (Wr N T) C U N.FDw<|@Ay _ _ _ _ _ U (pv 0)<|@Ay _ _ _ _ _ U (BK BW U T.len bo<|@Ay _ _ _ _ _ U (pv 2) Ab) Ab)<|λ_ _=>rfl) Ac<|λ_ _=>rfl) (by kernel_rfl)<|.inl U)
  (@Ae _ _ _ _ _ (@Bo _ _ _ _ _ _ 10 Mp.nd U (Or.inl U) (zC (Wr N T) C U N.FDw<|@Ay _ _ _ _ _ U (pv 0)<|@Ay _ _ _ _ _ U (@Az _ _ _ _ _ _ _ (Ar (K:=K) U) (@Az _ _ _ _ _ _ _ (Bk (K:=K) U) (pv 1) (pv 4)<|λ_ _=>rfl) Ac<|λ_ _=>rfl) Ab) (by kernel_rfl)<|.inl U)
  (@Ae _ _ _ _ _ (@Bo _ _ _ _ _ _ 11 Mp.nd U (Or.inl U) (BZ CQ (pv 10)<|zC (Wr N T) C U N.FDw<|@Ay _ _ _ _ _ U (pv 0)<|@Ay _ _ _ _ _ U (BZ GF (@Az _ _ _ _ _ _ _ (Ar (K:=K) U) (@Az _ _ _ _ _ _ _ (Bk (K:=K) U) (pv 1) (pv 4)<|λ_ _=>rfl) Ac<|λ_ _=>rfl)<|pv 10) Ab) (by kernel_rfl)<|.inl U)
  (@Ae _ _ _ _ _ (@Bh _ _ _ _ _ _ _ _ (BR HY (pv 5) Ac<|BX _) (@Ae _ _ _ _ _ (@Bo _ _ _ _ _ _ 10 Mp.nd U (Or.inl U) Ac (by kernel_rfl)<|.inl U)
  (@Ag _ _ _<|@Bo _ _ _ _ _ _ 11 Mp.nd U (Or.inl U) (BZ GF (@Az _ _ _ _ _ _ _ (Ar (K:=K) U) (@Az _ _ _ _ _ _ _ (Bk (K:=K) U) (pv 1) (pv 4)<|λ_ _=>rfl) Ac<|λ_ _=>rfl) Ac) (by kernel_rfl)<|.inl U)) Ba)
  (@Ag _ _ _<|Bw<|G5 ci dc dn Di (pv 7)<|@Ay _ _ _ _ _ U (@CK _ _ _ _ _<|@Ay _ _ _ _ _ U BP<|@Ay _ _ _ _ _ U (pv 9)<|@Ay _ _ _ _ _ U (BZ GF (zC (Wr N T) C U N.FDw<|@Ay _ _ _ _ _ U (pv 0)<|@Ay _ _ _ _ _ U Ac Ab) Ac)<|@Ay _ _ _ _ _ U (pv 10)<|@Ay _ _ _ _ _ U (pv 11) Ab) Ab))))))
  (@Ag _ _ _<|@Ax _ _ _ _<|pv 7))))))),?_⟩
 have lb:=As.length;have lr:=zD.length;refine⟨_,U,_,U,B,_,U,ma<|.inl J,p,_,U,M,(by show (0:Int)<((i6.length:Nat):Int);omega),(by show ((i6.length:Nat):Int)<1073741824;omega),λa H1 ha f1 vx=>?_⟩;have St:Gq H H1 p:=(Gq.refl M).draw f1 vx;have u:a<bs.length:=by omega
 obtain⟨bv,Z,No⟩:=B_ As<|Q7 u;have NE:=aZ _<|ah<|Q7 u
 refine⟨_,U,p,8,U,vx,by decide,by decide,λwy H2 a8 f2 yY=>?_⟩;have k:=St.draw f2 yY;refine⟨_,U,U,_,U,Cw (λg=>?_)<|λg=>?_⟩
 ·have MD:=k.sx _ _ J W;obtain⟨T,rfl,hT⟩:=k.tup M No;refine⟨_,U,_,U,_,U,B,_,_,_,U,U,ma MD,Ah Z,T,_,_,_,U,U,ma hT,Ah (j:=1) U,by show 3<=sizeLine;decide,λc tz=>⟨Bv (by simp),λD s=>?_⟩⟩;have A:=BL (o:=HO.tup [V.str "mute",V.str y,V.str<|nB bs a]) tz;have L:=BL (o:=HO.lst [V.ref c]) s;exact q D [V.ref c] (.pl "mute" a) [] _ (k.free<|A.free s) (k.same<|A.trans L) Aj (.cons ⟨c,U,L _ _ Aj⟩ .nil) ⟨⟨u,.inl U⟩,by decide,(λ_ h=>nomatch h),λ_=>rfl,λ_ _ _ h=>nomatch h⟩
 refine⟨_,U,_,_,U,U,_,U,Cw (λg2=>?_)<|λg2=>?_⟩
 ·have MD:=k.sx _ _ J W;refine⟨_,U,_,U,_,U,B,_,U,ma<|.inl MD,p,_,U,yY,(by show (0:Int)<((i6.length:Nat):Int);omega),(by show ((i6.length:Nat):Int)<1073741824;omega),λb H3 hb f3 yk=>?_⟩;have S3:=k.draw f3 yk;have ap:b<bs.length:=by omega
  obtain⟨cv,a3,aP⟩:=B_ As<|Q7 ap;have as:=S3.sx _ _ J W;obtain⟨T,rfl,hT⟩:=S3.tup M No;obtain⟨T2,rfl,pe⟩:=S3.tup M aP;refine⟨B,_,_,_,U,U,ma as,Ah a3,T2,_,_,_,U,U,ma pe,Ah (j:=1) U,?_⟩;refine⟨_,U,_,U,_,U,B,_,_,_,U,U,ma as,Ah Z,T,_,_,_,U,U,ma hT,Ah (j:=1) U,_,U,_,U,p,9,U,yk,by decide,by decide,λe H4 he f4 AB=>⟨_,_,U,U,by show 5<=sizeLine;decide,λc tz=>⟨Bv (by simp),λD s=>?_⟩⟩⟩;have S4:=S3.draw f4 AB;generalize aB:upd H4 c _=m at s |-;have A:Am H4 m:=aB ▸ BL tz;have u6:m c=some (.tup (kR (nB bs) y<|.cp a b<|((e:Nat):Int) - 4).v):=by
   rw[<-aB,Aj];rfl
  have L:=BL (o:=HO.lst [V.ref c]) s;exact q D [V.ref c] (.cp a b<|((e:Nat):Int) - 4) [] _ (S4.free<|A.free s) (S4.same<|A.trans L) Aj (.cons ⟨c,U,L _ _ u6⟩ .nil) ⟨⟨u,ap,by omega,by omega⟩,by decide,(λ_ h=>nomatch h),λ_=>rfl,λ_ _ _ h=>by injection h with _ _ h;omega⟩
 have MD:=k.sx _ _ J W;have a5:=k.sx _ _ hR X';obtain⟨T,eT,hT⟩:=k.tup M No;subst eT;refine⟨_,U,_,U,_,U,B,_,_,_,U,U,ma MD,Ah Z,T,_,_,_,U,U,ma hT,Ah (j:=1) U,by show 3<=sizeLine;decide,λc tz=>⟨Bv (by simp),λD s=>?_⟩⟩;have A:=BL (o:=HO.tup [V.str "stop",V.str y,V.str<|nB bs a]) tz;have u6:upd H2 c (HO.tup [V.str "stop",V.str y,V.str<|nB bs a]) c=some (.tup (kR (nB bs) y<|.pl "stop" a).v):=Aj;generalize upd H2 c (HO.tup [V.str "stop",V.str y,V.str (nB bs a)])=H3 at A u6 s |-;obtain⟨H4,i5,L,u7⟩:=Du (o:=HO.lst [V.ref c]) s;rw[i5];have S4:=k.same<|A.trans L
 have ab:H D=none:=k.free<|A.free s
 have O:D≠p:=(k.same A).ne s;refine⟨_,U,p,3,U,S4.sr,by decide,by decide,λt H5 ht f5 t4=>⟨_,_,U,U,_,U,by omega,by omega,?_⟩⟩;have S5:=S4.draw f5 t4;have u5:H5 D=some (.lst [V.ref c]):=by rw[f5 D O];exact u7
 have w5:TupAt H5 (kR (nB bs) y<|.pl "stop" a).v<|.ref c:=by
  refine⟨c,U,?_⟩;have h6:=L _ _ u6;rw[f5 c λz=>?_]
  ·exact h6
  ·obtain⟨l,hl⟩:=S4.sr.some;rw[z,hl] at h6
   cases h6
 refine forR (lo:=0) (n:=(1+((t:Nat):Int)).toNat) (λi σ m=>Gq H m p/\∃(I:List V)(l:List Ln),m D=some (.lst I)/\Paired (λ(r:R) v=>TupAt m r.v v) (kR (nB bs) y (.pl "stop" a)::l.map (lR<|nR rk)) I/\l.length=i/\(∀x∈l,x.r<rk.length/\0<=x.lo/\x.lo<=x.hi/\x.hi<(zB bs a:Nat) /\ -2<=x.sh/\x.sh<=5)/\∃v6 v8 v9 UQ SL,σ=[some (.ref p),some<|.ref B,some<|.ref RA,some<|.str y,some<|.int (a:Nat),some<|.int (wy:Nat),v6,some<|.ref D,v8,v9,UQ,SL])
  ⟨S5,[V.ref c],[],u5,.cons w5 .nil,U,(λ_ h=>nomatch h),_,_,_,_,_,U⟩ ?_ ?_
 ·rintro i _ pr σ m hi ⟨F,I,l,UF,G,hl,S,v6,v8,v9,UQ,SL,rfl⟩;have aK:=F.sx _ _ hR X';refine⟨_,U,_,U,_,U,RA,_,U,ma<|.inl aK,p,_,U,F.sr,(by show (0:Int)<((md.length:Nat):Int);omega),(by show ((md.length:Nat):Int)<1073741824;omega),λr H7 C f7 vw=>?_⟩;have aC:Gq m H7 p:=(Gq.refl F.sr).draw f7 vw;have S7:=F.trans aC;have ac:r<rk.length:=by omega
  obtain⟨rm,rw,aN⟩:=tW ac;obtain⟨rv,MQ,a4⟩:=B_ zD aN;obtain⟨T2,rfl,pe⟩:=S7.tup M a4;refine⟨RA,_,_,_,U,U,ma<|S7.sx _ _ hR X',Ah MQ,T2,_,_,_,U,U,ma pe,Ah (j:=1) U,?_⟩;have tb:∀{H':Hp},Gq H H' p->H' T=some (.tup (Fd (nB bs a,zB bs a)).v):=λS'=>by
   obtain⟨T',e',a1⟩:=S'.tup M No
   cases e';exact a1
  refine⟨_,U,_,U,_,U,B,_,_,_,U,U,ma<|S7.sx _ _ J W,Ah Z,T,_,_,_,U,U,ma<|tb S7,Ah (j:=2) U,p,_,U,vw,(by show (0:Int)<((zB bs a:Nat):Int);have:=NE.1;omega),(by show ((zB bs a:Nat):Int)<1073741824;have:=NE.2;omega),λlo H8 X0 f8 xw=>?_⟩;have aw:=aC.draw f8 xw;have S8:=F.trans aw;refine⟨_,U,_,U,_,U,_,U,B,_,_,_,U,U,ma<|S8.sx _ _ J W,Ah Z,T,_,_,_,U,U,ma<|tb S8,Ah (j:=2) U,_,U,_,_,U,U,p,_,U,xw,(by show (0:Int)<((zB bs a:Nat):Int) - ((lo:Nat):Int);omega),(by show ((zB bs a:Nat):Int) - ((lo:Nat):Int)<1073741824;have:=NE.2;omega),λd H9 hd f9 qf=>⟨_,_,U,U,?_⟩⟩;have TR:=aw.draw f9 qf;have S9:=F.trans TR;refine gN (i:=11) ?_;try dsimp only
  refine Qh (λσ' H'=>H'=H9/\∃X Y:Int,0<=X/\X<=Y/\Y<((zB bs a:Nat):Int)/\σ'=[some (.ref p),some<|.ref B,some<|.ref RA,some<|.str y,some<|.int (a:Nat),some<|.int (wy:Nat),v6,some<|.ref D,some<|.int<|(0:Int)+(i:Int),some<|.str<|nR rk r,some<|.int X,some<|.int Y]) (λD' vS=>?_) ?_
  ·refine⟨_,U,_,_,U,U,_,U,Cw (λg3=>?_)<|λg3=>?_⟩
   ·refine⟨_,U,_,U,B,_,_,_,U,U,ma<|S9.sx _ _ J W,Ah Z,T,_,_,_,U,U,ma<|tb S9,Ah (j:=2) U,_,_,U,U,vS _ _ ⟨U,0,((zB bs a:Nat):Int) - 1,by decide,by have:=NE.1;omega,by omega,U⟩⟩
   ·exact vS _ _ ⟨U,((lo:Nat):Int),((lo:Nat):Int)+((d:Nat):Int),by omega,by omega,by have:=hd;omega,U⟩
  ·rintro σ' H' ⟨rfl,X,Y,w1,w2,w3,rfl⟩;have dl:∀{Hx:Hp},Gq m Hx p->Hx D=some (.lst I):=λS'=>S'.sx _ _ UF O;refine⟨_,U,.inl ⟨U,_,ma<|dl TR⟩,_,U,_,U,p,8,U,qf,by decide,by decide,λsh Ha a7 fa aM=>⟨_,_,U,U,_,U,_,U,by show 5<=sizeLine;decide,λT9 a2=>?_⟩⟩;have Sa:=TR.draw fa aM;generalize an:upd Ha T9 _=Hb;have a0:Am Ha Hb:=an ▸ BL a2;have ub:Hb T9=some (.tup (lR (nR rk) ⟨r,((sh:Nat):Int) - 2,X,Y⟩).v):=by
    rw[<-an,Aj];rfl
   have Sb:=Sa.same a0;have rq:=dl Sb;have aQ:=G.length;rw[bp,af] at aQ;refine⟨D,I,_,U,U,rq,BJ<|by omega,?_⟩;refine pr _ _ ⟨(F.trans Sb).put ab O,I++[V.ref T9],l++[⟨r,((sh:Nat):Int) - 2,X,Y⟩],Aj,?_,by rw[ai,aI,hl],λx hx=>?_,_,_,_,_,_,U⟩
   ·rw[cq];exact (By (Sb.Nx (f:=λr:R=>r.v) F.sr G) rq).snoc<|TupAt.upd ⟨T9,U,ub⟩ rq
   ·rcases bE.mp hx with hx | hx
    ·exact S x hx
    ·rw[ax.mp hx];exact⟨ac,w1,w2,w3,by show (-2:Int)<=((sh:Nat):Int) - 2;omega,by show ((sh:Nat):Int) - 2<=5;omega⟩
 ·rintro σ m ⟨F,I,l,UF,G,hl,S,v6,v8,v9,UQ,SL,rfl⟩;exact⟨_,U,q D I (.pl "stop" a) l m ab F UF G ⟨⟨u,.inr U⟩,by omega,S,λz=>absurd U z,λ_ _ _ h=>nomatch h⟩⟩
theorem Kq{α:Type}{F:α->V->Prop}(p:α->Bool)(q:V->Bool):∀{xs:List α}{ys:List V},Paired F xs ys->(∀x y,x∈xs->F x y->q y=p x)->Paired F (xs.filter p) (ys.filter q)
 |[],_,h,_=>by
  cases h;exact .nil
 |x::xs,_,h,e=>by
  cases h with
  |cons a b =>
   have c:=Kq p q b λx y d h=>e x y (ba _ d) h;rw[fk,fk,e x _ bg a];split
   ·exact .cons a c
   ·exact c
structure qu(K:W.Frag)(aB aP aM:Addr):Prop where
 f:Za K aB aP aM
 mT:∃t,W.nsIn K aM "step" = some (some<|.int 12 t)
structure O5(c:Int)(bs:List<|Str×Nat)(rk:List<|Str×Nat×Int):Prop where
 b:∀(j:Nat) b,bs[j]? = some b->b.1=Hj c j/\1<=b.2/\b.2<=61
 r:∀(j:Nat) r,rk[j]? = some r->r.1=Hj c (3+j)/\1<=r.2.1/\r.2.1<=14/\0<=r.2.2/\r.2.2<=1000000000
 lb:bs.length<=3
 lr:rk.length<=3
theorem O5.nb{c:Int}{bs:List (Str×Nat)}{rk:List (Str×Nat×Int)}(h:O5 c bs rk)(g:bs.length<=n)(d:n<26):∀b∈bs,b.1≠Hj c n:=λb f e=>by
 obtain⟨j,a⟩:=eK f;have hl:=(ag.mp a).1;have:=h.lb;have:=Jo (c:=c) (n:=j) (n':=n) (by omega) d<|(h.b j b a).1.symm.trans e
 omega
theorem O5.nr{c:Int}{bs:List (Str×Nat)}{rk:List (Str×Nat×Int)}(h:O5 c bs rk)(g:3+rk.length<=n)(d:n<26):∀r∈rk,r.1≠Hj c n:=λb f e=>by
 obtain⟨j,a⟩:=eK f;have hl:=(ag.mp a).1;have:=h.lr;have:=Jo (c:=c) (n:=3+j) (n':=n) (by omega) d<|(h.r j b a).1.symm.trans e
 omega
theorem Lf{α:Type}{l:List α}{x y:α}(h:(l++[x])[j]? = some y):l[j]? = some y \/ (j=l.length/\y=x):=by
 by_cases a:j<l.length
 ·rw[fS a] at h;exact .inl h
 ·have hl:=(ag.mp h).1;rw[ai,aI] at hl;have e:j=l.length:=by omega
  subst e;rw[dA (al _),ku] at h;exact .inr ⟨U,(Option.some.inj h).symm⟩
theorem O5.Yl{c:Int}{bs:List (Str×Nat)}(h:O5 c bs [])(hl:bs.length<3)(d:1<=m)(e:m<=61):O5 c (bs++[(Hj c bs.length,m)]) []:=by
 refine⟨λj b a=>?_,λj r a=>by simp at a,by rw[List.length_append,List.length_singleton];omega,by decide⟩;rcases Lf a with a | ⟨rfl,rfl⟩
 ·exact h.b j b a
 ·exact⟨U,d,e⟩
theorem O5.rank{c:Int}{bs:List (Str×Nat)}{rk:List (Str×Nat×Int)}(h:O5 c bs rk)(hl:rk.length<3){a:Int}(d:1<=m)(g:m<=14)(e:0<=a)(f:a<=1000000000):O5 c bs<|rk++[(Hj c<|3+rk.length,m,a)]:=by
 refine⟨h.b,λj r b=>?_,h.lb,by rw[ai,aI];omega⟩;rcases Lf b with b | ⟨rfl,rfl⟩
 ·exact h.r j r b
 ·exact⟨U,d,g,e,f⟩
theorem O5.uh{c:Int}{bs:List (Str×Nat)}{rk:List (Str×Nat×Int)}(h:O5 c bs rk):(bs.map (·.1)).Nodup:=by
 refine Nb λi j x d e=>?_;rw[am] at d e;obtain⟨k,b,l⟩:=av.mp d;obtain⟨f,a,g⟩:=av.mp e;have:=(ag.mp b).1;have:=(ag.mp a).1;have:=h.lb;exact Jo (c:=c) (by omega) (by omega)<|(h.b i k b).1.symm.trans ((l.trans g.symm).trans (h.b j f a).1)
theorem O5.ndr{c:Int}{bs:List (Str×Nat)}{rk:List (Str×Nat×Int)}(h:O5 c bs rk):(rk.map (·.1)).Nodup:=by
 refine Nb λi j x d e=>?_;rw[am] at d e;obtain⟨k,b,l⟩:=av.mp d;obtain⟨f,a,g⟩:=av.mp e;have:=(ag.mp b).1;have:=(ag.mp a).1;have:=h.lr;have:=Jo (c:=c) (n:=3+i) (n':=3+j) (by omega) (by omega)<|(h.r i k b).1.symm.trans ((l.trans g.symm).trans (h.r j f a).1)
 omega
def Kr(bs:List<|Str×Nat)(nms:List Str)(kbs:List Kb):List R:=List.zipWith (kR<|nB bs) nms kbs
abbrev VD(z:Kb):Bool:=!decide (V.str z.w=V.str "stop")
structure J7(K:W.Frag)(aB aP aM:Addr)(c:Int)(k ld m:Nat)(bs:List<|Str×Nat)(rk:List<|Str×Nat×Int)(rows:List R)(nms:List Str)(kbs:List Kb)(ls:List<|List Ln)(sts:List Nat)(sn:List Str):Prop where
 bl:Ir K aB aP aM rows bs rk (Kr bs nms kbs) ls sts
 ek:rows.filter (λr=>Il r.w)=Kr bs nms kbs
 bd:O5 c bs rk
 nl:nms.length=kbs.length
 nk:kbs.length<=k
 nm:∀t∈nms,∃j,j<k/\t=Hj c (6+j)
 nd:nms.Nodup
 kb:UJ bs.length kbs
 mu:(kbs.filter<|Gg "mute").length<=5
 lq:(kbs.filter VD).length<=ld
 lg:e_ rk ls
 sq:∀t∈sn,∃r∈Kr bs nms kbs,r.w = "stop" /\ r.nm=t
 sd:sn.Nodup
 sk:sn.length<=k
 rl:rows.length<=m
 st:sts.length<=2
theorem Ji{α β γ:Type}(f:α->β->γ):∀{l:List α}{m:List β}(a:α)(b:β),l.length=m.length->List.zipWith f (l++[a]) (m++[b])=List.zipWith f l m++[f a b]
 |[],[],_,_,_=>rfl
 |x::l,y::m,a,b,h=>by
  show f x y::List.zipWith f (l++[a]) (m++[b])=_;rw[Ji f a b (Nat.succ.inj h)];rfl
theorem Oh{bs:List (Str×Nat)}(h:r∈Kr bs nms kbs):∃t∈nms,∃z∈kbs,r=kR (nB bs) t z:=by
 unfold Kr at h;obtain⟨i,a,e⟩:=ge.mp h;rw[List.getElem_zipWith] at e;rw[jp] at a;exact⟨_,eR<|by omega,_,eR<|by omega,e.symm⟩
theorem PQ{bs:List (Str×Nat)}(wd:Str):∀{nms:List Str}{kbs:List Kb},nms.length=kbs.length->((Kr bs nms kbs).filter λr=>decide (V.str r.w=V.str wd)).length=(kbs.filter<|Gg wd).length
 |[],[],_=>rfl
 |t::nms,z::kbs,h=>by
  have a:=PQ wd (nms:=nms) (kbs:=kbs) (bs:=bs)<|Nat.succ.inj h
  show ((kR (nB bs) t z::Kr bs nms kbs).filter _).length=_;rw[fk,fk,RP];have e:Gg wd z=decide (V.str z.w=V.str wd):=rfl;rw[e];split
  ·rw[bp,bp,a]
  ·exact a
theorem Nv(F:Za K aB aP aM){bs:List (Str×Nat)}{rk:List (Str×Nat×Int)}{d:Str}(a:(rk.map (·.1)).Nodup)(b:∀r∈rk,isNm r.1)(f:(d,n)∈bs)(c:n<=61):∀(l l0:List Ln)(rows:List R),Ir K aB aP aM rows bs rk ks (ls++[l0]) sts->Tl rows d l0.length->l0.length+l.length<=4->(∀x∈l,x.r<rk.length/\0<=x.lo/\x.lo<=x.hi/\x.hi<(n:Nat) /\ -2<=x.sh/\x.sh<=5)->Ir K aB aP aM (rows++l.map (lR<|nR rk)) bs rk ks (ls++[l0++l]) sts
 |[],l0,rows,h,_,_,_=>by
  rw[lI,dE,dE];exact h
 |x::l,l0,rows,h,t,hl,e=>by
  rw[bp] at hl;obtain⟨q,p,s,i,w,v⟩:=e x bg;obtain⟨m,j,g⟩:=tW q;have k:=h.line F (sh:=x.sh) (lo:=x.lo) (hi:=x.hi) t (by omega) g a (b (nR rk x.r,m,j)<|ah g) f s i (by omega) (by omega) p<|by omega
  have u:Tl (rows++[lR (nR rk) x]) d (l0++[x]).length:=by
   rw[ai,aI];exact t.line U
  have r:=Nv F a b f c l (l0++[x]) (rows++[lR (nR rk) x]) k u (by rw[ai,aI];omega) λy o=>e y<|ba _ o
  rw[fN,fN] at r;exact r
theorem Yd(h:UJ n kbs){z:Kb}(d:z.ok n)(c:(kbs.filter<|Gg z.w).length<JG z.w)(hl:kbs.length<70):UJ n<|kbs++[z]:=by
 refine⟨λk a=>?_,λi k a=>?_,by rw[ai,aI];omega⟩
 ·rcases bE.mp a with a | a
  ·exact h.ok k a
  ·rw[ax.mp a];exact d
 ·rcases Lf a with b | ⟨rfl,rfl⟩
  ·rw[fq (fT (ag.mp b).1)];exact h.room i k b
  ·rw[List.take_left']
   ·exact c
   ·rfl
section
variable{c:Int}{k ld:Nat}{bs:List (Str×Nat)}{rk:List (Str×Nat×Int)}{sn:List Str}
theorem J7.skip(h:J7 K aB aP aM c k ld m bs rk rows nms kbs ls sts sn):J7 K aB aP aM c (k+1) ld (m+4) bs rk rows nms kbs ls sts sn :=
 ⟨h.bl,h.ek,h.bd,h.nl,iL h.nk,λt a=>by
  obtain⟨j,b,e⟩:=h.nm t a;exact⟨j,by omega,e⟩,h.nd,h.kb,h.mu,h.lq,h.lg,h.sq,h.sd,iL h.sk,by have:=h.rl;omega,h.st⟩
theorem J7.add(F:qu K aB aP aM)(h:J7 K aB aP aM c k ld m bs rk rows nms kbs ls sts sn)(hk:k<12)(h0:sts=[]){z:Kb}{l:List Ln}(f:KnR bs rk z l)(Q:z.w = "mute"->(kbs.filter<|Gg "mute").length<5){E:Nat}(Jn:ld<=E)(Y:z.w≠"stop"->(kbs.filter VD).length<E) :
  J7 K aB aP aM c (k+1) E (m+4) bs rk (rows++(kR (nB bs) (Hj c<|6+k) z::l.map (lR<|nR rk))) (nms++[Hj c (6+k)]) (kbs++[z]) (ls++[l]) sts (sn++if z.w = "stop" then [Hj c (6+k)] else []):=by
 have L:=h.nl;have ab:=h.nk;have O:Hj c (6+k) ∉ nms:=λT=>by
  obtain⟨j,M,e⟩:=h.nm _ T;have:=Jo (c:=c) (by omega) (by omega) e;omega
 have S:=h.bd.nb (n:=6+k) (by have:=h.bd.lb;omega)<|by omega
 have N:=h.bd.nr (n:=6+k) (by have:=h.bd.lr;omega)<|by omega
 have J:∀r∈Kr bs nms kbs,r.nm≠Hj c (6+k):=λr u e=>by
  obtain⟨t,a,T,_,rfl⟩:=Oh u;rw[Nu] at e;exact O<|e ▸ a
 have g:∀{b:Nat},b<bs.length->isNm (nB bs b)/\(nB bs b,zB bs b)∈bs/\zB bs b<=61:=λ{b} H=>by
  have W:=Q7 H;have:=h.bd.b b _ W;refine⟨?_,ah W,this.2.2⟩;have e:nB bs b=Hj c b:=this.1;rw[e];exact HD _ _
 have i:(kbs.filter<|Gg z.w).length<JG z.w:=by
  have A:=cc (Gg z.w) kbs;have m1:JG "coupler" = 12:=by decide
  have m2:JG "stop" = 24:=by decide
  have m3:JG "mute" = 5:=by decide
  rcases Kb.wo f.ok with e | e | e
  ·rw[e,m2];rw[e] at A;omega
  ·rw[e,m1];rw[e] at A;omega
  ·rw[e,m3];have:=Q e;omega
 have I:=i;rw[<-PQ (bs:=bs) z.w L] at I;have v:Kr bs (nms++[Hj c (6+k)]) (kbs++[z])=Kr bs nms kbs++[kR (nB bs) (Hj c<|6+k) z]:=Ji _ _ _ L;have B:Ir K aB aP aM (rows++[kR (nB bs) (Hj c<|6+k) z]) bs rk (Kr bs nms kbs++[kR (nB bs) (Hj c<|6+k) z]) (ls++[[]]) sts:=by
  have R:=f.ok
  cases z with
  |cp p q s =>
   obtain⟨o,P,Z,X⟩:=R;exact h.bl.aq F.f (HD _ _) S N J I (g o).1 (g o).2.1 (g P).1 (g P).2.1 Z X
  |pl wd p =>
   obtain⟨o,w⟩:=R;exact h.bl.plain F.f (w.elim .inr .inl) (HD _ _) S N J I (g o).1 (g o).2.1
 have C:Ir K aB aP aM (rows++(kR (nB bs) (Hj c<|6+k) z::l.map (lR<|nR rk))) bs rk (Kr bs nms kbs++[kR (nB bs) (Hj c<|6+k) z]) (ls++[l]) sts:=by
  by_cases w:z.w = "stop"
  ·cases z with
   |cp p q s=>exact absurd (show ("coupler" : Str) = "stop" from w)<|by decide
   |pl wd p =>
    obtain rfl:wd = "stop":=w;have o:=f.ok.1;have r:=Nv F.f h.bd.ndr (λr u=>by
     obtain⟨j,M⟩:=eK u;rw[(h.bd.r j r M).1];exact HD _ _) (g o).2.1 (g o).2.2 l [] _ B (Tl.stop rows _<|nB bs p) (by have:=f.len;rw[List.length_nil];omega) f.ln
    rw[fN] at r;exact r
  ·rw[f.st w];exact B
 have G:∀x∈l.map (lR<|nR rk),Il x.w=false:=λx d=>by
  obtain⟨y,_,rfl⟩:=ar.mp d;exact (by decide:Il "line" = false)
 refine⟨by rw[v];exact C,?_,h.bd,by rw[ai,ai,L];rfl,by rw[ai,aI];omega,λt a=>?_,?_,Yd h.kb f.ok i<|by omega,?_,?_,λx d=>?_,λt a=>?_,?_,?_,?_,h.st⟩
 ·rw[fE,h.ek,v,fk,if_pos<|by rw[RP];exact KR<|Kb.wo f.ok,List.filter_eq_nil_iff.mpr λx d=>by rw[G x d];decide]
 ·rcases bE.mp a with a | a
  ·obtain⟨j,M,e⟩:=h.nm t a;exact⟨j,by omega,e⟩
  ·exact⟨k,by omega,ax.mp a⟩
 ·refine iF.mpr ⟨h.nd,fw.mpr ⟨lj,iS⟩,λx d y D e=>O ?_⟩;rw[<-ax.mp D,<-e];exact d
 ·rw[fE,ai];by_cases e:z.w = "mute"
  ·have:=Q e;have:=cc (Gg "mute") [z];rw[aI] at this;omega
  ·rw[List.filter_cons,if_neg (show ¬ Gg "mute" z=true from λy=>e<|V.str.inj<|of_decide_eq_true y)];exact h.mu
 ·rw[fE,ai];by_cases e:z.w = "stop"
  ·rw[List.filter_cons,if_neg (show ¬ VD z=true from by rw[show VD z = !decide (V.str z.w=V.str "stop") from rfl,e,decide_eq_true U];decide)];have:=h.lq;show _+0<=_;omega
  ·have:=Y e;have:=cc VD [z];rw[aI] at this;omega
 ·rcases bE.mp d with d | d
  ·exact h.lg x d
  ·rw[ax.mp d];refine⟨by have:=f.len;omega,λln r8=>?_⟩;obtain⟨x1,x2,x3,x4,x5,x6⟩:=f.ln ln r8;have H:bdK z<bs.length:=by
    have:=f.ok
    cases z with
    |cp p q s=>exact this.1
    |pl wd p=>exact this.1
   have:=(g H).2.2;exact⟨x1,x2,x3,by omega,by omega,by omega⟩
 ·rw[v];rcases bE.mp a with a | a
  ·obtain⟨r,u,e⟩:=h.sq t a;exact⟨r,dS _ u,e⟩
  ·by_cases e:z.w = "stop"
   ·rw[if_pos e] at a;exact⟨_,cm _<|ax.mpr U,by rw[RP];exact e,by rw[Nu];exact (ax.mp a).symm⟩
   ·rw[if_neg e] at a
    cases a
 ·by_cases e:z.w = "stop"
  ·rw[if_pos e];refine iF.mpr ⟨h.sd,fw.mpr ⟨lj,iS⟩,λx d y D e'=>?_⟩;obtain⟨r,u,_,er⟩:=h.sq x d;exact J r u<|er.trans<|e'.trans<|ax.mp D
  ·rw[if_neg e,dE];exact h.sd
 ·rw[ai];have:=h.sk;split
  ·show _+1<=_;omega
  ·show _+0<=_;omega
 ·rw[ai,bp,af];have:=h.rl;have:=f.len;omega
theorem J7.step(F:qu K aB aP aM)(h:J7 K aB aP aM c k ld m bs rk rows nms kbs ls sts sn){t0:Str}{a:List Str}(l:(t0::a).Nodup)(hl:(t0::a).length<=24)(o:∀t∈t0::a,t∈sn)(p:sts.length<2):∃xI,xI.length=sts.length+1/\J7 K aB aP aM c k ld (m+1) bs rk (rows++[⟨"step",t0,a.map V.str⟩]) nms kbs ls xI sn:=by
 refine⟨sts++[Wd.mk ((t0::a).map λt=>((Kr bs nms kbs).map (·.nm)).idxOf t)],by rw[ai,aI],?_⟩
 ·refine⟨h.bl.step F.mT l hl (λt e=>?_)<|by omega,?_,h.bd,h.nl,h.nk,h.nm,h.nd,h.kb,h.mu,h.lq,h.lg,h.sq,h.sd,h.sk,by rw[ai];exact eD h.rl,by rw[ai,aI];omega⟩
  ·obtain⟨r,d,f,b⟩:=h.sq t<|o t e;refine⟨?_,r,d,f,b⟩;obtain⟨i,n,z,_,rfl⟩:=Oh d;rw[Nu] at b;obtain⟨j,_,g⟩:=h.nm i n;rw[<-b,g];exact HD _ _
  ·rw[List.filter_append,h.ek,List.filter_cons,if_neg<|by show ¬ Il "step" = true;decide];exact dE _
end
theorem Kf{c:Hp}(s:Am c H)(h:c a=none):Am c<|upd H a o:=λb u e=>by
 rw[Aw (Ai e h)];exact s _ _ e
theorem J5{a:Hp}(s:Am a H)(h:a p=none)(f:Zd H H' p):Am a H':=λb u e=>by
 rw[f b (Ai e h)];exact s _ _ e
theorem Zd.tup{v:V}(f:Zd H H' p)(a:SrcAt H p)(t:TupAt H xs v):TupAt H' xs v:=by
 obtain⟨T,rfl,e⟩:=t;refine⟨T,U,?_⟩;rw[f T λz=>?_]
 ·exact e
 ·obtain⟨l,hl⟩:=a.some;rw[z,hl] at e
  cases e
theorem Zd.Nx{α:Type}{f:α->List V}{l:List α}(h:Zd H H' p)(b:SrcAt H p)(t:Paired (λa v=>TupAt H (f a) v) l vs):Paired (λa v=>TupAt H' (f a) v) l vs:=Paired.HW t λ_ _ z=>h.tup b z
structure W9(H Hx:Hp)(p B RA:Addr)(bs:List<|Str×Nat)(rk:List<|Str×Nat×Int):Prop where
 s:Am H Hx
 sr:SrcAt Hx p
 b:∃i6,Hx B=some (.lst i6)/\Paired (λb v=>TupAt Hx (Fd b).v v) bs i6
 r:∃md,Hx RA=some (.lst md)/\Paired (λr v=>TupAt Hx (Ft r).v v) rk md
 nB:B≠p
 nR:RA≠p
theorem W9.same{b c:Hp}{B a:Addr}{bs:List (Str×Nat)}{rk:List (Str×Nat×Int)}(h:W9 H b p B a bs rk)(s:Am b c):W9 H c p B a bs rk:=by
 obtain⟨d,k,⟨e,n,j⟩,⟨f,i,g⟩,m,l⟩:=h;exact⟨d.trans s,k.mono s,⟨e,s _ _ n,Aq s j⟩,⟨f,s _ _ i,Aq s g⟩,m,l⟩
theorem W9.draw{c a:Hp}{B b:Addr}{bs:List (Str×Nat)}{rk:List (Str×Nat×Int)}(h:W9 H c p B b bs rk)(m:H p=none)(f:Zd c a p)(q:SrcAt a p):W9 H a p B b bs rk:=by
 obtain⟨i,d,⟨j,r,o⟩,⟨k,n,l⟩,g,e⟩:=h;exact⟨J5 i m f,q,⟨j,by rw[f _ g];exact r,f.Nx d o⟩,⟨k,by rw[f _ e];exact n,f.Nx d l⟩,g,e⟩
theorem W9.st{f i:Hp}{a B d:Addr}{bs:List (Str×Nat)}{rk:List (Str×Nat×Int)}(h:W9 H f p B d bs rk)(q:H a=none)(x:a≠p)(v:a≠B)(t:a≠d)(g:Gq f i a)(j:SrcAt f a):W9 H i p B d bs rk:=by
 obtain⟨k,⟨u,s,y,c⟩,⟨l,C,w⟩,⟨m,r,n⟩,A,z⟩:=h;exact⟨λb o e=>g.sx _ _ (k _ _ e)<|Ai e q,⟨u,s,g.sx _ _ y<|Ne.symm x,c⟩,⟨l,g.sx _ _ C<|Ne.symm v,g.Nx j w⟩,⟨m,g.sx _ _ r<|Ne.symm t,g.Nx j n⟩,A,z⟩
theorem W9.put{b:Hp}{B a:Addr}{l m:List V}{bs:List (Str×Nat)}{rk:List (Str×Nat×Int)}(h:W9 H b p B a bs rk)(d:H D=none)(q:D≠p)(n:D≠B)(k:D≠a)(e:b D=some (.lst l)):W9 H (upd b D<|.lst m) p B a bs rk:=by
 obtain⟨c,r,⟨f,u,o⟩,⟨g,j,i⟩,t,s⟩:=h;exact⟨Kf c d,r.put q,⟨f,by rw[Aw (Ne.symm n)];exact u,By o e⟩,⟨g,by rw[Aw (Ne.symm k)];exact j,By i e⟩,t,s⟩
theorem J7.yX{c:Int}{k ld:Nat}{bs:List (Str×Nat)}{rk:List (Str×Nat×Int)}{sn:List Str}(h:J7 K aB aP aM c k ld m bs rk rows nms kbs ls sts sn):(rows.filter λr=>decide (V.str r.w=V.str "mute")).length=(kbs.filter<|Gg "mute").length:=by
 rw[<-PQ (bs:=bs) "mute" h.nl,<-h.ek,List.filter_filter];refine congrArg List.length<|List.filter_congr λr _=>?_
 by_cases e:r.w = "mute"
 ·rw[e];decide
 ·rw[decide_eq_false λz=>e<|V.str.inj z];rfl
theorem J7.ldw{c:Int}{k ld a:Nat}{bs:List (Str×Nat)}{rk:List (Str×Nat×Int)}{sn:List Str}(h:J7 K aB aP aM c k ld m bs rk rows nms kbs ls sts sn)(hl:ld<=a):J7 K aB aP aM c k a m bs rk rows nms kbs ls sts sn :=
 ⟨h.bl,h.ek,h.bd,h.nl,h.nk,h.nm,h.nd,h.kb,h.mu,be h.lq hl,h.lg,h.sq,h.sd,h.sk,h.rl,h.st⟩
theorem J7.fin{c:Int}{k f ld a b:Nat}{bs:List (Str×Nat)}{rk:List (Str×Nat×Int)}{sn:List Str}(h:J7 K aB aP aM c k ld m bs rk rows nms kbs ls sts sn)(d:k<=f)(hl:ld<=a)(g:m<=b):J7 K aB aP aM c f a b bs rk rows nms kbs ls sts sn :=
 ⟨h.bl,h.ek,h.bd,h.nl,be h.nk d,(λt i=>by
  obtain⟨j,l,e⟩:=h.nm t i;exact⟨j,by omega,e⟩),h.nd,h.kb,h.mu,be h.lq hl,h.lg,h.sq,h.sd,be h.sk d,be h.rl g,h.st⟩
theorem C_{α:Type}{F:α->V->Prop}:∀{l m:List α}{vs ws:List V},Paired F l vs->Paired F m ws->Paired F (l++m) (vs++ws)
 |[],_,_,_,h,g=>by
  cases h;exact g
 |_::_,_,_,_,h,g=>by
  cases h with
  |cons x y=>exact .cons x<|C_ y g
theorem J7.start{c:Int}{bs:List (Str×Nat)}{rk:List (Str×Nat×Int)}(d:O5 c bs rk)(e:Ir K aB aP aM (bs.map Fd++rk.map Ft) bs rk [] [] []):J7 K aB aP aM c 0 0 6 bs rk (bs.map Fd++rk.map Ft) [] [] [] [] []:=by
 refine⟨e,?_,d,U,Nat.le_refl _,(λ_ h=>nomatch h),List.nodup_nil,⟨(λ_ h=>nomatch h),(λi k h=>by simp at h),by decide⟩,by decide,by decide,(λ_ h=>nomatch h),(λ_ h=>nomatch h),List.nodup_nil,by decide,?_,by decide⟩
 ·refine List.filter_eq_nil_iff.mpr λr a=>?_;rcases bE.mp a with a | a
  ·obtain⟨b,_,rfl⟩:=ar.mp a;exact (by decide:¬ Il "board" = true)
  ·obtain⟨b,_,rfl⟩:=ar.mp a;exact (by decide:¬ Il "rank" = true)
 ·rw[ai,af,af];have:=d.lb;have:=d.lr;omega
inductive iR(K:W.Frag)(aB aP aM:Addr)(vs:List V)(H:Hp)(Q:VK)(b9:XK):Prop
 |mk(a:Addr)(ns:List Int):vs=[.ref a]->De K H a (ns.map V.int)->ns.length<=63->qu K aB aP aM->(∀(D:Addr) (vT:List V) (c:Int) (bs:List (Str×Nat)) (rk:List (Str×Nat×Int)) (rows:List R) (nms:List Str) (kbs:List Kb) (ls:List (List Ln)) (sts:List Nat) (sn:List Str) H',H D=none->Am H H'->H' D=some (.lst vT)->Paired (λ(r:R) v=>TupAt H' r.v v) rows vT->1<=bs.length->1<=rk.length->J7 K aB aP aM c 8 8 100 bs rk rows nms kbs ls sts sn->Q (.ref D) H')->iR K aB aP aM vs H Q b9
theorem Je:Av uA z4<|Af vC:=Bg
include N T in
theorem ue:An P w K mg base Bb 5 aD.fRw aD.dRw z4<|iR K aB aP aM:=by
 refine N.FRw.1.Dg Je λH x Q E hr h=>?_;obtain⟨a,ns,rfl,hS,cd,F0,q⟩:=h;refine⟨_,(@Ae _ _ _ _ _ (@Bo _ _ _ _ _ _ 1 Je.nd U (Or.inl U) (zC (dF N T) hr U N.FLo<|@Ay _ _ _ _ _ U (pv 0)<|@Ay _ _ _ _ _ U Ac Ab) (by kernel_rfl)<|.inl U)
  (@Ae _ _ _ _ _ (@Bo _ _ _ _ _ _ 2 Je.nd U (Or.inl U) (zC (Wr N T) hr U N.FDw<|@Ay _ _ _ _ _ U (pv 1)<|@Ay _ _ _ _ _ U (BZ Rj Ac Ac) Ab) (by kernel_rfl)<|.inl U)
  (@Ae _ _ _ _ _ (@Bo _ _ _ _ _ _ 3 Je.nd U (Or.inl U) (@DK _ _ _ _ Ab) (by kernel_rfl)<|.inl U)
  (@Ae _ _ _ _ _ (Dk PassesOwn.never U (Dr U T.range<|@Ay _ _ _ _ _ U (BZ CQ Ac<|zC (Wr N T) hr U N.FDw<|@Ay _ _ _ _ _ U (pv 1)<|@Ay _ _ _ _ _ U Ac Ab) Ab) (Bt (i:=4) Je.nd U<|Or.inl U)<|@Ag _ _ _<|Bw<|G5 ci dc dn Di (pv 3)<|@Ay _ _ _ _ _ U (@CK _ _ _ _ _<|@Ay _ _ _ _ _ U BP<|@Ay _ _ _ _ _ U (zC (rE N T) hr U N.FNa<|@Ay _ _ _ _ _ U (pv 2)<|@Ay _ _ _ _ _ U (pv 4) Ab)<|@Ay _ _ _ _ _ U (BZ CQ Ac<|zC (Wr N T) hr U N.FDw<|@Ay _ _ _ _ _ U (pv 1)<|@Ay _ _ _ _ _ U Ac Ab) Ab) Ab)
  (@Ae _ _ _ _ _ (@Bo _ _ _ _ _ _ 5 Je.nd U (Or.inl U) (@DK _ _ _ _ Ab) (by kernel_rfl)<|.inl U)
  (@Ae _ _ _ _ _ (Dk PassesOwn.never U (Dr U T.range<|@Ay _ _ _ _ _ U (BZ CQ Ac<|zC (Wr N T) hr U N.FDw<|@Ay _ _ _ _ _ U (pv 1)<|@Ay _ _ _ _ _ U Ac Ab) Ab) (Bt (i:=4) Je.nd U<|Or.inl U) (@Ae _ _ _ _ _ (@Bo _ _ _ _ _ _ 6 Je.nd U (Or.inl U) (zC (Wr N T) hr U N.FDw<|@Ay _ _ _ _ _ U (pv 1)<|@Ay _ _ _ _ _ U (BZ CQ (BZ Rj Ac Ac) Ac) Ab) (by kernel_rfl)<|.inl U)
  (@Ag _ _ _<|Bw<|G5 ci dc dn Di (pv 5)<|@Ay _ _ _ _ _ U (@CK _ _ _ _ _<|@Ay _ _ _ _ _ U BP<|@Ay _ _ _ _ _ U (zC (rE N T) hr U N.FNa<|@Ay _ _ _ _ _ U (pv 2)<|@Ay _ _ _ _ _ U (BZ CQ Ac<|pv 4) Ab)<|@Ay _ _ _ _ _ U (BZ CQ Ac<|zC (Wr N T) hr U N.FDw<|@Ay _ _ _ _ _ U (pv 1)<|@Ay _ _ _ _ _ U Ac Ab)<|@Ay _ _ _ _ _ U (pv 6) Ab) Ab)))
  (@Ae _ _ _ _ _ (@Bo _ _ _ _ _ _ 7 Je.nd U (Or.inl U) (BZ O6 (pv 3)<|pv 5) (by kernel_rfl)<|.inl U)
  (@Ae _ _ _ _ _ (@Bo _ _ _ _ _ _ 8 Je.nd U (Or.inl U) (@DK _ _ _ _ Ab) (by kernel_rfl)<|.inl U)
  (@Ae _ _ _ _ _ (Dk PassesOwn.never U (Dr U T.range<|@Ay _ _ _ _ _ U (BK (KZ U) U T.min kz<|@Ay _ _ _ _ _ U Ac<|@Ay _ _ _ _ _ U (BK (Nh U) U T.max PyProof.Rows.boot_max<|@Ay _ _ _ _ _ U Ac<|@Ay _ _ _ _ _ U (BZ GF (BK BW U T.len bo<|@Ay _ _ _ _ _ U (pv 0) Ab) Ac) Ab) Ab) Ab) (Bt (i:=4) Je.nd U<|Or.inl U) (@Ae _ _ _ _ _ (@Bo _ _ _ _ _ _ 9 Je.nd U (Or.inl U) (zC (sV N T) hr U N.FLj<|@Ay _ _ _ _ _ U (zC (dF N T) hr U N.FLo<|@Ay _ _ _ _ _ U (pv 0)<|@Ay _ _ _ _ _ U (BZ CQ Ac<|pv 4) Ab)<|@Ay _ _ _ _ _ U (pv 3)<|@Ay _ _ _ _ _ U (pv 5)<|@Ay _ _ _ _ _ U (zC (rE N T) hr U N.FNa<|@Ay _ _ _ _ _ U (pv 2)<|@Ay _ _ _ _ _ U (BZ CQ Ac<|pv 4) Ab) Ab) (by kernel_rfl)<|.inl U)
  (@Ae _ _ _ _ _ (@Bh _ _ _ _ _ _ _ _ (PW.pt<|El (BR Jv (@Az _ _ _ _ _ _ _ (Ar (K:=K) U) (@Az _ _ _ _ _ _ _ (Bk (K:=K) U) (pv 9) Ac<|λ_ _=>rfl) Ac<|λ_ _=>rfl) BP<|BX _)<|EY<|BR HY (BK BW U T.len bo<|@Ay _ _ _ _ _ U (Br U (Bf (osc:=Af vC) (N:=uA) U U<|by decide) (Bl<|pv 7) (λ_ _ _ _=>(G9<|BR CP (@Az _ _ _ _ _ _ _ (Ar (K:=K) U) (pv 0) Ac<|λ_ _=>rfl) BP<|BX _))<|λ_ _ _ _=>(pv 0)) Ab) Ac<|BX _) (@Ag _ _ _<|@Bo _ _ _ _ _ _ 7 Je.nd U (Or.inl U) (BZ O6 (pv 7)<|pv 9) (by kernel_rfl)<|.inl U) Ba)
  (@Ag _ _ _<|@Bh _ _ _ _ _ _ _ _ (BR CP (@Az _ _ _ _ _ _ _ (Ar (K:=K) U) (@Az _ _ _ _ _ _ _ (Bk (K:=K) U) (pv 9) Ac<|λ_ _=>rfl) Ac<|λ_ _=>rfl) BP<|BX _) (@Ag _ _ _<|Bw<|G5 ci dc dn Di (pv 8)<|@Ay _ _ _ _ _ U (@Az _ _ _ _ _ _ _ (Ar (K:=K) U) (@Az _ _ _ _ _ _ _ (Bk (K:=K) U) (pv 9) Ac<|λ_ _=>rfl) Ac<|λ_ _=>rfl) Ab) Ba))))
  (@Ae _ _ _ _ _ (Dk PassesOwn.never U (Dr U T.range<|@Ay _ _ _ _ _ U (BK (KZ U) U T.min kz<|@Ay _ _ _ _ _ U Ac<|@Ay _ _ _ _ _ U (BK BW U T.len bo<|@Ay _ _ _ _ _ U (pv 8) Ab) Ab) Ab) (Bt (i:=4) Je.nd U<|Or.inl U)<|@Ag _ _ _<|Bw<|G5 ci dc dn Di (pv 7)<|@Ay _ _ _ _ _ U (BZ Z8 (@CK _ _ _ _ _<|@Ay _ _ _ _ _ U BP Ab)<|Cr Mz U T.tuple ii<|@Ay _ _ _ _ _ U (Ep Jc (pv 8) (Ex<|pv 4)<|Ex<|BZ CQ (BZ CQ (pv 4) Ac)<|zC (Wr N T) hr U N.FDw<|@Ay _ _ _ _ _ U (pv 1)<|@Ay _ _ _ _ _ U Ac Ab) Ab) Ab)
  (@Ag _ _ _<|@Ax _ _ _ _<|pv 7))))))))))),?_⟩
 refine⟨_,U,a,0,ns,U,hS,by decide,λp H1 hp s1 vx=>?_⟩;refine⟨_,U,_,_,U,U,⟨by decide,by decide,by decide⟩,p,_,U,vx,(by show (0:Int)<10 ^ (6:Int).toNat;decide),(by show (10:Int) ^ (6:Int).toNat<1073741824;decide),λc0 H2 cp f2 yY=>?_⟩;have s2:=J5 s1 hp f2;obtain⟨c,ec⟩:∃c:Int,((c0:Nat):Int)=c:=⟨_,U⟩;rw[ec];refine⟨Bv (by simp),λB hB=>?_⟩;obtain⟨H3,i5,t3,u3⟩:=Du (o:=HO.lst []) hB;rw[i5];have yk:=yY.mono t3;have s3:=s2.trans t3;have b4:H B=none:=s2.free hB;have ac:B≠p:=λe=>by
  obtain⟨l,hl⟩:=yY.some;rw[e,hl] at hB
  cases hB
 refine⟨_,U,p,3,U,yk,by decide,by decide,λt H4 ht f4 AB=>⟨_,_,U,U,_,U,by omega,by omega,?_⟩⟩;have s4:=J5 s3 hp f4;have u4:H4 B=some (.lst []):=by rw[f4 B ac];exact u3
 refine forR (lo:=0) (n:=(1+((t:Nat):Int)).toNat) (λi σ H5=>Am H H5/\SrcAt H5 p/\∃(bs:List<|Str × Nat)(i6:List V),H5 B=some (.lst i6)/\Paired (λb v=>TupAt H5 (Fd b).v v) bs i6/\bs.length=i/\O5 c bs []/\Ir K aB aP aM (bs.map Fd) bs [] [] [] []/\∃Y v5 O v7 v8 v9,σ=[some (.ref a),some<|.ref p,some<|.int c,some<|.ref B,Y,v5,O,v7,v8,v9])
  ⟨s4,AB,[],[],u4,.nil,U,⟨(λj b h=>by simp at h),(λj b h=>by simp at h),by decide,by decide⟩,Ir.nil,_,_,_,_,_,_,U⟩ ?_ ?_
 ·rintro i _ pr σ H5 hi ⟨s5,t4,bs,i6,ab,Z,sw,IT,NV,Y,v5,O,v7,v8,v9,rfl⟩;have ei:((0:Int)+(i:Int))=(i:Int):=hZ _;refine⟨_,U,.inl ⟨U,_,ma ab⟩,_,U,_,U,c,i,by rw[ei];rfl,by omega,λH6 s6=>?_⟩;refine⟨_,U,p,5,U,t4.mono s6,by decide,by decide,λz H7 hz f7 vw=>⟨_,_,U,U,by show 3<=sizeLine;decide,λT hT=>?_⟩⟩;generalize bm:upd H7 T _=H8;have t8:Am H7 H8:=bm ▸ BL hT;have u8:H8 T=some (.tup (Fd (Hj c bs.length,1+z)).v):=by
   rw[<-bm,Aj,sw];show some (HO.tup [V.str "board",V.str<|Hj c i,V.int<|1+((z:Nat):Int)])=some (HO.tup [V.str "board",V.str<|Hj c i,V.int ((1+z:Nat):Int)]);rw[Int.natCast_add];rfl
  have b7:H7 B=some (.lst i6):=by rw[f7 B ac];exact s6 _ _ ab
  have b8:=t8 _ _ b7;have lv:=Z.length;refine⟨B,i6,_,U,U,b8,BJ<|by omega,?_⟩;have p8:Paired (λb v=>TupAt H8 (Fd b).v v) bs i6:=Aq t8<|f7.Nx (f:=λb=>(Fd b).v) (t4.mono s6)<|Aq s6 Z
  refine pr _ _ ⟨Kf ((J5 (s5.trans s6) hp f7).trans t8) b4,(vw.mono t8).put ac,bs++[(Hj c bs.length,1+z)],i6++[V.ref T],Aj,(By p8 b8).snoc<|TupAt.upd ⟨T,U,u8⟩ b8,by rw[ai,aI,sw],IT.Yl (by omega) (by omega)<|by omega,?_,_,_,_,_,_,_,U⟩;rw[cq];exact NV.Yl F0.f (HD _ _) (IT.nb (al _)<|by omega) (λ_ h=>nomatch h) (λ_ h=>nomatch h) (by omega) (by omega)<|by omega
 rintro σ H5 ⟨s5,t4,bs,i6,ab,Z,sw,IT,NV,Y,v5,O,v7,v8,v9,rfl⟩;have aK:1<=bs.length/\bs.length<=3:=by omega
 clear sw ht u4 s4 AB f4 s3 yk u3 t3 hB s2 yY f2 s1 vx;refine⟨Bv (by simp),λA FD=>?_⟩;obtain⟨H6,i5,t6,u6⟩:=Du (o:=HO.lst []) FD;rw[i5];have bK:H A=none:=s5.free FD;have aw:A≠p:=λe=>by
  obtain⟨l,hl⟩:=t4.some;rw[e,hl] at FD
  cases FD
 have ca:A≠B:=Ne.symm<|Ai ab FD
 have pT:=t4.mono t6;refine⟨_,U,p,3,U,pT,by decide,by decide,λt2 H7 MV f7 vw=>⟨_,_,U,U,_,U,by omega,by omega,?_⟩⟩;have W7:W9 H H7 p B A bs []:=(W9.mk (s5.trans t6) pT ⟨i6,t6 _ _ ab,Aq t6 Z⟩ ⟨[],u6,.nil⟩ ac aw).draw hp f7 vw;clear pT u6 t6 FD ab Z s5 t4 f7 vw;refine forR (lo:=0) (n:=(1+((t2:Nat):Int)).toNat) (λi σ H5=>∃rk:List<|Str×Nat×Int,W9 H H5 p B A bs rk/\rk.length=i/\O5 c bs rk/\Ir K aB aP aM (bs.map Fd++rk.map Ft) bs rk [] [] []/\∃Y O v7 v8 v9,σ=[some (.ref a),some<|.ref p,some<|.int c,some<|.ref B,Y,some<|.ref A,O,v7,v8,v9])
  ⟨[],W7,U,IT,by rw[lI,dE];exact NV,_,_,_,_,_,U⟩ ?_ ?_
 ·rintro i _ pr σ H8 hi ⟨rk,W8,xp,AT,NA,Y,O,v7,v8,v9,rfl⟩;have ei:((0:Int)+(i:Int))=(i:Int):=hZ _;refine⟨_,U,_,_,U,U,⟨by decide,by decide,by decide⟩,_,_,U,U,p,_,U,W8.sr,(by show (0:Int)<10 ^ (9:Int).toNat+1;decide),(by show (10:Int) ^ (9:Int).toNat+1<1073741824;decide),λwd H9 b3 f9 qf=>?_⟩;have a2:((wd:Nat):Int)<10 ^ (9:Int).toNat+1:=b3;have e9:(10:Int) ^ (9:Int).toNat+1=1000000001:=by decide
  rw[e9] at a2;have Wa:=W8.draw hp f9 qf;obtain⟨md,a0,zD⟩:=Wa.r;refine⟨_,U,.inl ⟨U,_,ma a0⟩,_,U,_,U,_,_,U,U,c,3+i,by rw[ei];rfl,by omega,λHb sb=>?_⟩;have Wb:=Wa.same sb;refine⟨_,U,p,14,U,Wb.sr,by decide,by decide,λz Hc hz fc AF=>⟨_,_,U,U,_,U,by show 4<=sizeLine;decide,λT hT=>?_⟩⟩;have Wc:=Wb.draw hp fc AF;generalize a9:upd Hc T _=Hd;have td:Am Hc Hd:=a9 ▸ BL hT;have ud:Hd T=some (.tup (Ft (Hj c<|3+rk.length,1+z,((wd:Nat):Int))).v):=by
   rw[<-a9,Aj,xp];show some (HO.tup [V.str "rank",V.str<|Hj c<|3+i,V.int<|1+((z:Nat):Int),V.int ((wd:Nat):Int)])=some (HO.tup [V.str "rank",V.str<|Hj c<|3+i,V.int ((1+z:Nat):Int),V.int ((wd:Nat):Int)]);rw[Int.natCast_add];rfl
  have AO:=Wc.same td;have rd:Hd A=some (.lst md):=td _ _<|by rw[fc A aw];exact sb _ _ a0
  have pd:Paired (λr v=>TupAt Hd (Ft r).v v) rk md:=Aq td<|fc.Nx (f:=λr=>(Ft r).v) Wb.sr<|Aq sb zD
  have lv:=zD.length;refine⟨A,md,_,U,U,rd,BJ<|by omega,?_⟩;obtain⟨bv,wx,As⟩:=AO.b;refine pr _ _ ⟨rk++[(Hj c<|3+rk.length,1+z,((wd:Nat):Int))],⟨Kf AO.s bK,AO.sr.put aw,⟨bv,by rw[Aw (Ne.symm ca)];exact wx,By As rd⟩,⟨md++[V.ref T],Aj,(By pd rd).snoc<|TupAt.upd ⟨T,U,ud⟩ rd⟩,ac,aw⟩,by rw[ai,aI,xp],AT.rank (by omega) (by omega) (by omega) (by omega)<|by omega,?_,_,_,_,_,_,U⟩;rw[cq,<-fN];exact NA.rank F0.f (HD _ _) (AT.nb (by have:=AT.lb;omega)<|by omega) (AT.nr (al _)<|by omega) (λ_ h=>nomatch h) (by omega) (by omega) (by omega) (by omega)<|by omega
 rintro σ H8 ⟨rk,W8,xp,AT,NA,Y,O,v7,v8,v9,rfl⟩;have aC:1<=rk.length/\rk.length<=3:=by omega
 clear xp MV W7 NV IT;obtain⟨JJ,Lv,AU⟩:=W8.b;obtain⟨KB,E1,Ct⟩:=W8.r;have b6:=AU.length;have bP:=Ct.length;refine⟨_,U,_,U,B,A,_,_,U,U,Lv,E1,Bv<|by omega,λD hD=>?_⟩;obtain⟨H9,i5,t9,u9⟩:=Du (o:=HO.lst<|JJ++KB) hD;rw[i5];have J:H D=none:=W8.s.free hD;have I:D≠p:=λe=>by
  obtain⟨l,hl⟩:=W8.sr.some;rw[e,hl] at hD
  cases hD
 have W:D≠B:=Ne.symm<|Ai Lv hD
 have X:D≠A:=Ne.symm<|Ai E1 hD
 have a5:Paired (λ(r:R) v=>TupAt H9 r.v v) (bs.map Fd++rk.map Ft)<|JJ++KB:=C_ (Bx (F:=λ(r:R) v=>TupAt H9 r.v v) Fd<|Aq t9 AU)<|Bx (F:=λ(r:R) v=>TupAt H9 r.v v) Ft<|Aq t9 Ct
 have Wn:=W8.same t9;have R0:=J7.start AT NA;clear Lv AU E1 Ct t9 hD b6 bP W8 NA;refine⟨Bv (by simp),λS C=>?_⟩;obtain⟨Ha,i5,ta,ua⟩:=Du (o:=HO.lst []) C;rw[i5];have Wa:=Wn.same ta;have b2:H S=none:=Wn.s.free C;have bl:S≠p:=λe=>by
  obtain⟨l,hl⟩:=Wn.sr.some;rw[e,hl] at C
  cases C
 have b0:S≠B:=by
  obtain⟨bv,h,_⟩:=Wn.b;exact Ne.symm<|Ai h C
 have bN:S≠A:=by
  obtain⟨bv,h,_⟩:=Wn.r;exact Ne.symm<|Ai h C
 have L:D≠S:=Ai u9 C;have da:=ta _ _ u9;have bW:=Aq ta a5;clear u9 a5 Wn ta C;refine⟨_,U,a,_,U,.inl<|Wa.s.seq hS,_,_,U,U,_,_,U,_,_,U,?_⟩;obtain⟨mk,YR,ch⟩:∃mk:Int,(if (if (((ns.map V.int).length:Nat):Int) - 2 > 0 then (((ns.map V.int).length:Nat):Int) - 2 else 0)<8 then (if (((ns.map V.int).length:Nat):Int) - 2 > 0 then (((ns.map V.int).length:Nat):Int) - 2 else 0) else 8)=mk/\0<=mk/\mk<=8:=⟨_,U,by split <;> split <;> omega,by split <;> split <;> omega⟩;refine⟨mk,by rw[<-YR],by omega,by omega,?_⟩;clear YR;refine forR (lo:=0) (n:=mk.toNat) (λi σ Hx=>W9 H Hx p B A bs rk/\∃(D:Addr)(x:List V)(m:List R)(G:List Str)(u:List Kb)(ls:List<|List Ln)(s:List Str),H D=none/\D≠p/\D≠B/\D≠A/\D≠S/\Hx D=some (.lst x)/\Paired (λ(r:R) v=>TupAt Hx r.v v) m x/\Hx S=some (.lst<|s.map V.str)/\J7 K aB aP aM c i 8 (6+4 * i) bs rk m G u ls [] s/\∃Y O v9,σ=[some (.ref a),some<|.ref p,some<|.int c,some<|.ref B,Y,some<|.ref A,O,some<|.ref D,some<|.ref S,v9])
  ⟨Wa,D,_,_,_,_,_,[],J,I,W,X,L,da,bW,ua,R0.ldw<|eJ _,_,_,_,U⟩ ?_ ?_
 ·rintro i _ pr σ Hx hi ⟨Wx,D,x,m,G,u,ls,s,J,I,W,X,L,dx,AQ,sx,R9,Y,O,v9,rfl⟩;have ei:((0:Int)+(i:Int))=(i:Int):=hZ _;have cg:i<8:=by omega
  refine⟨_,U,_,U,_,_,U,U,a,2+i,ns,by rw[ei];rfl,Wx.s.seq hS,by omega,λp2 Hb sK sb a7=>?_⟩;have Wb:=Wx.same sb;have n1:p2≠p:=λe=>by
   obtain⟨l,hl⟩:=Wx.sr.some;rw[e,hl] at sK
   cases sK
  have n2:p2≠B:=by
   obtain⟨bv,h,_⟩:=Wx.b;exact Ne.symm<|Ai h sK
  have n3:p2≠A:=by
   obtain⟨bv,h,_⟩:=Wx.r;exact Ne.symm<|Ai h sK
  have n4:D≠p2:=Ai dx sK;have n5:S≠p2:=Ai sx sK;have a8:H p2=none:=Wx.s.free sK;refine⟨_,U,_,U,_,U,_,U,_,_,U,U,c,6+i,by rw[ei];rfl,by omega,λHc sc=>?_⟩;have Wc:=Wb.same sc;have AF:=a7.mono sc;obtain⟨bv,wx,As⟩:=Wc.b;obtain⟨rv,MQ,zD⟩:=Wc.r;refine⟨p2,B,A,bs,rk,bv,rv,Hj c<|6+i,U,AF,wx,Ne.symm n2,As,aK.1,by omega,(λb hb=>by
   obtain⟨j,hj⟩:=eK hb;exact (AT.b j b hj).2),MQ,Ne.symm n3,zD,aC.1,by omega,λF ws z l Hd hF Sd Jn UR hz=>?_⟩
  have AO:=Wc.st a8 n1 n2 n3 Sd AF;have dd:=Sd.sx _ _ (sc _ _<|sb _ _ dx) n4;have sd:=Sd.sx _ _ (sc _ _<|sb _ _ sx) n5;have Nx:Paired (λ(r:R) v=>TupAt Hd r.v v) m x:=Sd.Nx (f:=λr:R=>r.v) AF<|Aq (sb.trans sc) AQ
  have ck:H F=none:=Wc.s.free hF;have cl:F≠D:=Ne.symm<|Ai (sc _ _<|sb _ _ dx) hF
  have ct:F≠S:=Ne.symm<|Ai (sc _ _<|sb _ _ sx) hF
  have b5:=UR.length;rw[bp,af] at b5;obtain⟨y0,FG,Y1⟩:=B_ UR (i:=0) U;have vl:=Nx.length;have rl:=R9.rl;clear wx As MQ zD Wb Wc a7 AF sK hF n1 n2 n3 sb sc Wx dx AQ sx;refine gN (i:=9) ?_;try dsimp only
  refine Qh (λσ' M=>W9 H M p B A bs rk/\M F=some (.lst ws)/\TupAt M (kR (nB bs) (Hj c<|6+i) z).v y0/\M S=some (.lst<|s.map V.str)/\∃(D:Addr)(x:List V)(m:List R)(G:List Str)(u:List Kb)(ls:List<|List Ln),H D=none/\D≠p/\D≠B/\D≠A/\D≠S/\M D=some (.lst x)/\Paired (λ(r:R) v=>TupAt M r.v v) m x/\J7 K aB aP aM c (i+1) 8 (6+4 * i+4) bs rk m G u ls [] (s++if z.w = "stop" then [Hj c (6+i)] else [])/\σ'=[some (.ref a),some<|.ref p,some<|.int c,some<|.ref B,some<|.int<|(0:Int)+(i:Int),some<|.ref A,O,some<|.ref D,some<|.ref S,some<|.ref F]) (λD' vS=>?_) ?_
  ·have add:∀M,Am Hd M->(z.w = "mute"->(u.filter<|Gg "mute").length<5)->(z.w≠"stop"->(u.filter VD).length<8)->Qd (bh (il) (Uy 7)<|Uy 9) (Cm 7) D' [some (.ref a),some<|.ref p,some<|.int c,some<|.ref B,some<|.int<|(0:Int)+(i:Int),some<|.ref A,O,some<|.ref D,some<|.ref S,some<|.ref F] M:=λM s' g1 g2=>by
    obtain⟨T0,rfl,wb⟩:=Y1.mono s';refine⟨_,U,_,U,D,F,_,_,U,U,s' _ _ dd,s' _ _ Jn,Bv (by have:=hz.len;omega),λD2 on=>?_⟩;have t2:=BL (o:=HO.lst<|x++ws) on;have st:=s'.trans t2;have W2:=AO.same s';refine vS _ _ ⟨AO.same st,st _ _ Jn,⟨T0,U,t2 _ _ wb⟩,st _ _ sd,D2,x++ws,_,_,_,_,AO.s.free<|s'.free on,?_,?_,?_,Ne.symm<|Ai (s' _ _ sd) on,Aj,C_ (Aq st Nx)<|Aq st UR,R9.add F0 (by omega) U hz g1 (al _) g2,U⟩
    ·intro e;obtain⟨l',oC⟩:=W2.sr.some;rw[e,oC] at on
     cases on
    ·obtain⟨bv,h,_⟩:=W2.b;exact Ne.symm<|Ai h on
    ·obtain⟨bv,h,_⟩:=W2.r;exact Ne.symm<|Ai h on
   obtain⟨T0,rfl,wb⟩:=id Y1;refine⟨_,U,F,_,_,_,U,U,ma Jn,Ah (j:=0) FG,T0,_,_,_,U,U,ma wb,Ah (j:=0) U,U,_,U,Cw (λg=>?_)<|λg=>?_⟩
   ·have gw:z.w≠"mute":=λe=>by
     rw[decide_eq_true (congrArg V.str<|by rw[RP];exact e)] at g
     cases g
    refine Dj ?_;exact add Hd (Am.refl _) (λe=>absurd e gw)<|λ_=>aT (cc _ _) (by have:=R9.nk;omega)
   ·have gw:z.w = "mute":=by
     have g1:decide (V.str (kR (nB bs) (Hj c<|6+i) z).w=V.str "mute")=true:=by
      cases e:decide (V.str (kR (nB bs) (Hj c (6+i)) z).w=V.str "mute") with
      |true=>rfl
      |false=>exact absurd (by rw[e];rfl) g
     have:=V.str.inj<|of_decide_eq_true g1
     rw[RP] at this;exact this
    have cb:=Nx;have C:De K Hd D x:=.inl<|.inl dd
    refine⟨_,U,D,U,⟨_,C⟩,DW (K:=K) (xs:=x) (λv=>decide (V.str (My Hd v).w=V.str "mute")) id C (BJ<|by omega) (λy hy M hs R k=>?_) (λy hy _ M hs R k=>⟨_,U,k M<|Am.refl M⟩)<|λD5 H5 OT s5 sw=>?_⟩
    ·obtain⟨r,_,ht⟩:=Dl Nx hy;have er:=MF ht;obtain⟨T,rfl,hT⟩:=ht.mono hs;have kk:=k M<|Am.refl M
     rw[er] at kk;exact⟨_,U,T,_,_,_,U,U,ma hT,Ah (j:=0) U,U,_,U,kk⟩
    rw[ki] at sw;have el:(x.filter λv=>decide (V.str (My Hd v).w=V.str "mute")).length=(u.filter<|Gg "mute").length:=by
     rw[<-(Kq (λr:R=>decide (V.str r.w=V.str "mute")) (λv=>decide (V.str (My Hd v).w=V.str "mute")) Nx λr v _ h=>by rw[MF h]).length];exact R9.yX
    refine⟨D5,_,U,ma<|.inl sw,_,_,U,U,_,U,?_⟩;rw[el];refine Cw (λg2=>?_)<|λg2=>?_
    ·have bn:(u.filter<|Gg "mute").length<5:=by have:=of_decide_eq_true g2;omega
     exact add H5 s5 (λ_=>bn)<|λ_=>aT (cc _ _) (by have:=R9.nk;omega)
    ·refine vS _ _ ⟨AO.same s5,s5 _ _ Jn,⟨T0,U,s5 _ _ wb⟩,s5 _ _ sd,D,x,m,G,u,ls,J,I,W,X,L,s5 _ _ dd,Aq s5 Nx,?_,U⟩;rw[if_neg (by rw[gw];decide),dE];exact R9.skip
  ·rintro σ' M ⟨We,a1,⟨T0,rfl,wb⟩,se,D,x,m,G,u,ls,J,I,W,X,L,de,bd,Re,rfl⟩;refine⟨_,U,F,_,_,_,U,U,ma a1,Ah (j:=0) FG,T0,_,_,_,U,U,ma wb,Ah (j:=0) U,U,_,U,Cw (λg=>?_)<|λg=>?_⟩
   ·have gw:z.w = "stop":=by
     have:=V.str.inj<|of_decide_eq_true g
     rw[RP] at this;exact this
    rw[if_pos gw] at Re;have sl:=Re.sk;rw[ai] at sl;refine⟨_,U,.inl ⟨U,_,ma se⟩,_,U,F,_,_,_,U,U,ma a1,Ah (j:=0) FG,T0,_,_,_,U,U,ma wb,Ah (j:=1) U,S,_,_,U,U,se,BJ<|by rw[af];omega,?_⟩;refine pr _ _ ⟨We.put b2 bl b0 bN se,D,x,m,G,u,ls,_,J,I,W,X,L,by rw[Aw L];exact de,By bd se,?_,Re,_,_,_,U⟩;rw[Aj,cq];show some (HO.lst<|s.map V.str++[V.str (kR (nB bs) (Hj c<|6+i) z).nm])=_;rw[Nu];rfl
   ·have gw:z.w≠"stop":=λe=>g<|decide_eq_true<|congrArg V.str<|by rw[RP];exact e
    rw[if_neg gw,dE] at Re;exact pr _ _ ⟨We,D,x,m,G,u,ls,_,J,I,W,X,L,de,bd,se,Re,_,_,_,U⟩
 rintro σ Hx ⟨Wx,D,x,m,G,u,ls,s,J,I,W,X,L,dx,AQ,sx,R9,Y,O,v9,rfl⟩;have b9:(s.map V.str).length=s.length:=af ..;refine⟨_,U,S,_,U,ma<|.inl sx,_,_,U,?_⟩;obtain⟨m2,a3,co,cv,cs⟩:∃m2:Int,(if (((s.map V.str).length:Nat):Int)<2 then (((s.map V.str).length:Nat):Int) else 2)=m2/\0<=m2/\m2<=2/\m2<=((s.length:Nat):Int):=⟨_,U,by split <;> omega,by split <;> omega,by split <;> omega⟩;refine⟨m2,by rw[<-a3],by omega,by omega,?_⟩;clear a3;refine forR (lo:=0) (n:=m2.toNat) (λj σ Hx=>W9 H Hx p B A bs rk/\∃(x:List V)(m:List R)(ap:List Nat),Hx D=some (.lst x)/\Paired (λ(r:R) v=>TupAt Hx r.v v) m x/\Hx S=some (.lst<|s.map V.str)/\ap.length=j/\J7 K aB aP aM c mk.toNat 8 (6+4 * mk.toNat+j) bs rk m G u ls ap s/\∃Y O v9,σ=[some (.ref a),some<|.ref p,some<|.int c,some<|.ref B,Y,some<|.ref A,O,some<|.ref D,some<|.ref S,v9])
  ⟨Wx,x,m,[],dx,AQ,sx,U,R9,_,_,_,U⟩ ?_ ?_
 ·rintro j _ pr σ Hx hj ⟨Wx,x,m,ap,dx,AQ,sx,bL,R9,Y,O,v9,rfl⟩;have ej:((0:Int)+(j:Int))=(j:Int):=hZ _;refine⟨_,U,.inl ⟨U,_,ma dx⟩,by show 1<=sizeLine;decide,λT1 bS=>?_⟩;obtain⟨Hb,i5,t1,u1⟩:=Du (o:=HO.tup [V.str "step"]) bS;rw[i5];have Wb:=Wx.same t1;refine⟨_,U,_,U,_,U,_,U,_,_,U,U,_,U,p,2,U,Wb.sr,by decide,by decide,λd Hc hd fc AF=>⟨_,_,U,U,_,U,?_⟩⟩;have Wc:=Wb.draw hp fc AF;have a6:Hc S=some (.lst<|s.map V.str):=by rw[fc S bl];exact t1 _ _ sx
  have b1:Hc D=some (.lst x):=by rw[fc D I];exact t1 _ _ dx
  have bB:Hc T1=some (.tup [V.str "step"]):=by
   rw[fc T1 λe=>?_]
   ·exact u1
   ·obtain⟨l',oC⟩:=Wb.sr.some;rw[e,oC] at u1
    cases u1
  have a4:Paired (λ(r:R) v=>TupAt Hc r.v v) m x:=fc.Nx (f:=λr:R=>r.v) Wb.sr<|Aq t1 AQ
  have aZ:j<s.length:=by omega
  have as:Er (s.map V.str) (some<|(0:Int)+(j:Int)) (some<|(0:Int)+(j:Int)+1+((d:Nat):Int))=((s[j]::((s.drop<|j+1).take<|min (j+1+d) s.length - (j+1))).map V.str):=by
   have e2:(0:Int)+(j:Int)+1+((d:Nat):Int)=((j+1+d:Nat):Int):=by omega
   rw[e2,ej];unfold Er;rw[HT.GX,HT.GX,b9,<-List.map_drop,<-ib];refine congrArg (List.map V.str) ?_;rw[Nat.min_eq_left (by omega:j<=s.length),gT aZ];have e3:min (j+1+d) s.length - j=(min (j+1+d) s.length - (j+1))+1:=by omega
   rw[e3,List.take_succ_cons]
  have aQ:∀t∈s[j]::((s.drop<|j+1).take<|min (j+1+d) s.length - (j+1)),t∈s:=λt ht=>by
   rcases ce.mp ht with rfl | ht
   ·exact eR aZ
   ·exact List.mem_of_mem_drop<|hG ht
  have aN:(s[j]::((s.drop<|j+1).take<|min (j+1+d) s.length - (j+1))).Nodup:=by
   have h0:(s.drop j).Nodup:=R9.sd.sublist<|List.drop_sublist _ _
   rw[gT aZ] at h0;exact h0.sublist<|List.Sublist.cons_cons _<|kN _ _
  have an:(s[j]::((s.drop<|j+1).take<|min (j+1+d) s.length - (j+1))).length<=24:=by
   rw[bp,cy];omega
  obtain⟨xI,cn,Pw⟩:=R9.step F0 aN an aQ<|by omega
  generalize (s.drop (j+1)).take (min (j+1+d) s.length - (j+1))=ts at as aQ aN an Pw;generalize s[j]=t0 at as aQ aN an Pw;refine⟨S,_,U,ma a6,λp5 Z=>?_⟩;rw[as];obtain⟨Hd,i5,t5,u5⟩:=Du (o:=HO.lst<|(t0::ts).map V.str) Z;rw[i5];refine⟨p5,_,U,.inl ⟨.inl<|.inl u5,λT2 pe=>?_⟩⟩;obtain⟨He,i5,t6,u6⟩:=Du (o:=HO.tup<|(t0::ts).map V.str) pe;rw[i5];refine⟨T1,T2,_,_,U,U,ma<|t6 _ _<|t5 _ _ bB,ma u6,List.cons_ne_nil _ _,Bv (by rw[List.length_map];show 1+_<=_;omega),λz=>absurd z<|List.cons_ne_nil _ _,λ_ T3 bR=>?_⟩;have t7:=BL (o:=HO.tup<|[V.str "step"]++(t0::ts).map V.str) bR;have u7:upd He T3 (HO.tup<|[V.str "step"]++(t0::ts).map V.str) T3=some (.tup (⟨"step",t0,ts.map V.str⟩:R).v):=Aj;generalize upd He T3 (HO.tup ([V.str "step"]++(t0::ts).map V.str))=Hf at t7 u7 |-;have NU:=t5.trans<|t6.trans t7
  have df:=NU _ _ b1;have vl:=a4.length;have rl:=R9.rl;refine⟨D,x,_,U,U,df,BJ<|by omega,?_⟩;exact pr _ _ ⟨(Wc.same NU).put J I W X df,x++[V.ref T3],_,xI,Aj,(By (Aq NU a4) df).snoc<|TupAt.upd ⟨T3,U,u7⟩ df,by rw[Aw (Ne.symm L)];exact NU _ _ a6,by omega,Pw,_,_,_,U⟩
 ·rintro σ Hx ⟨Wx,x,m,ap,dx,AQ,sx,bL,R9,Y,O,v9,rfl⟩;exact⟨_,U,q D x c bs rk m G u ls ap s Hx J Wx.s dx AQ aK.1 aC.1<|R9.fin (by omega) (by decide)<|by omega⟩
inductive Fl where
 | pull(v:V)
 | push(v:V)
 | store(v:V)
 | storeB(v b:V)
 | press(v:V)
 | shoe(v:V)
 | cancel
def Fl.v:Fl->List V
 |.pull v=>[.str "pull",v]
 |.push v=>[.str "push",v]
 |.store v=>[.str "store",v]
 |.storeB v b=>[.str "store",v,b]
 |.press v=>[.str "press",v]
 |.shoe v=>[.str "shoe",v]
 |.cancel=>[.str "cancel"]
theorem HN{c A B:Prop}[Decidable c](a:c)(h:A):if decide c=true then A else B:=by
 rw[decide_eq_true a,if_pos U];exact h
theorem Fy{c A B:Prop}[Decidable c](a:¬ c)(h:B):if decide c=true then A else B:=by
 rw[decide_eq_false a,if_neg eW];exact h
theorem Ej{a b:Str}(h:(a == b)=false):¬ V.str a=V.str b:=λz=>by
 rw[V.str.inj z,beq_self_eq_true] at h
 cases h
theorem E_{a b:Str}{A B:Prop}(h:B)(c:(a == b)=false:=by decide):if decide (V.str a=V.str b)=true then A else B:=Fy (Ej c) h
def clE(cK cP cB cS:Addr):Nat->Addr
 |0=>cK
 |1=>cP
 |2=>cB
 |_=>cS
structure Cs where
 dr:Nat
 sh:Nat
 m:Nat->Option Ps
inductive Rs where
 | told(v:V)
 | no(i:Nat)
def Ms(ks:List R):V->Option Nat
 |.str t=>if t∈JC ks then some ((JC ks).idxOf t) else none
 |_=>none
def Ks:V->Option Nat
 |.int i=>if 0<=i/\i<10 then some i.toNat else none
 |_=>none
def TJ(n:Nat):V->Option Nat
 |.int i=>if 0<=i/\i<=(n:Nat) then some i.toNat else none
 |_=>none
def psB(ns:List Str)(ks:List R)(dr:Nat):V->Option Ps
 |.non=>some<|.every dr
 |.str t=>if t∈ns then some (.part (dr &&& JW ks t)<|JW ks t) else none
 |_=>none
def Pz(up:Bool)(dr k:Nat):Nat:=if up then dr ||| 2 ^ k else dr - (dr &&& 2 ^ k)
def act(ns:List Str)(ks:List R)(n:Nat)(s:Cs):Fl->Cs×Rs
 |.pull v=>match Ms ks v with
  |some k=>(⟨Pz true s.dr k,s.sh,s.m⟩,.told<|.bl (!decide (Pz true s.dr k=s.dr)))
  |none=>(s,.no 0)
 |.push v=>match Ms ks v with
  |some k=>(⟨Pz false s.dr k,s.sh,s.m⟩,.told<|.bl (!decide (Pz false s.dr k=s.dr)))
  |none=>(s,.no 0)
 |.store v=>match Ks v with
  |some p=>(⟨s.dr,s.sh,MT s.m p<|.every s.dr⟩,.told .non)
  |none=>(s,.no 1)
 |.storeB v b=>match Ks v with
  |some p=>match psB ns ks s.dr b with
   |some ps=>(⟨s.dr,s.sh,MT s.m p ps⟩,.told .non)
   |none=>(s,.no 2)
  |none=>(s,.no 1)
 |.press v=>match (Ks v).bind s.m with
  |some ps=>(⟨ps.put s.dr,s.sh,s.m⟩,.told .non)
  |none=>(s,.no 1)
 |.shoe v=>match TJ n v with
  |some i=>(⟨s.dr,i,s.m⟩,.told .non)
  |none=>(s,.no 3)
 |.cancel=>(⟨0,0,s.m⟩,.told .non)
theorem Ry{v:V}(h:Gk ns v=.non)(e:v=.str t)(a:t∈ns):False:=by
 subst e;rw[rT a] at h
 cases h
theorem Uo{v:V}(h:Gk (JC ks) v=.non):Ms ks v=none:=by
 cases v with
 |str t=>exact if_neg λz=>Ry h U z
 |_=>rfl
theorem Wt{v:V}(h:Kg v=false):Ks v=none:=by
 cases v with
 |int i =>
  refine if_neg λz=>?_;have a:(decide (0<=i) && decide (i<10))=false:=h;rw[decide_eq_true z.1,decide_eq_true z.2] at a
  cases a
 |_=>rfl
theorem Jy{p:Nat}(h:p<10):Ks (.int (p:Nat))=some p:=if_pos ⟨by omega,by omega⟩
theorem mF{v:V}{p:Nat}(h:Ks v=some p):v=.int (p:Nat)/\p<10:=by
 cases v with
 |int i =>
  have a:(if 0<=i/\i<10 then some i.toNat else none)=some p:=h;by_cases c:0<=i/\i<10
  ·rw[if_pos c] at a;have:=Option.some.inj a;exact⟨congrArg V.int<|by omega,by omega⟩
  ·rw[if_neg c] at a
   cases a
 |_=>cases h
theorem Z5{v:V}(h:jQ n v=false):TJ n v=none:=by
 cases v with
 |int i =>
  refine if_neg λz=>?_;have a:(decide (0<=i) && decide (i<=(n:Nat)))=false:=h;rw[decide_eq_true z.1,decide_eq_true z.2] at a
  cases a
 |_=>rfl
theorem Y7(h:i<=n):TJ n (.int (i:Nat))=some i:=if_pos ⟨by omega,by omega⟩
section
variable{s:Cs}{v b:V}
theorem QZ(h:t∈JC ks):act ns ks n s (.pull<|.str t)=(⟨Pz true s.dr<|(JC ks).idxOf t,s.sh,s.m⟩,.told<|.bl (!decide (Pz true s.dr ((JC ks).idxOf t)=s.dr))):=by
 unfold act;try dsimp only
 rw[show Ms ks (.str t)=some _ from if_pos h]
theorem Pq(h:t∈JC ks):act ns ks n s (.push<|.str t)=(⟨Pz false s.dr<|(JC ks).idxOf t,s.sh,s.m⟩,.told<|.bl (!decide (Pz false s.dr ((JC ks).idxOf t)=s.dr))):=by
 unfold act;try dsimp only
 rw[show Ms ks (.str t)=some _ from if_pos h]
theorem Vt(h:Gk (JC ks) v=.non):act ns ks n s (.pull v)=(s,.no 0):=by
 unfold act;try dsimp only
 rw[Uo h]
theorem Vl(h:Gk (JC ks) v=.non):act ns ks n s (.push v)=(s,.no 0):=by
 unfold act;try dsimp only
 rw[Uo h]
theorem Nm{p:Nat}(h:p<10):act ns ks n s (.store<|.int (p:Nat))=(⟨s.dr,s.sh,MT s.m p<|.every s.dr⟩,.told .non):=by
 unfold act;try dsimp only
 rw[Jy h]
theorem RZ(h:Kg v=false):act ns ks n s (.store v)=(s,.no 1):=by
 unfold act;try dsimp only
 rw[Wt h]
theorem Lq{p:Nat}(h:p<10):act ns ks n s (.storeB (.int (p:Nat)) .non)=(⟨s.dr,s.sh,MT s.m p<|.every s.dr⟩,.told .non):=by
 unfold act;try dsimp only
 rw[Jy h];rfl
theorem Ls{p:Nat}(h:p<10)(a:t∈ns):act ns ks n s (.storeB (.int (p:Nat))<|.str t)=(⟨s.dr,s.sh,MT s.m p<|.part (s.dr &&& JW ks t)<|JW ks t⟩,.told .non):=by
 unfold act;try dsimp only
 rw[Jy h,show psB ns ks s.dr (.str t)=some _ from if_pos a]
theorem Qk(h:Kg v=false):act ns ks n s (.storeB v b)=(s,.no 1):=by
 unfold act;try dsimp only
 rw[Wt h]
theorem QM(h:Kg v=true)(a:b≠.non)(c:Gk ns b=.non):act ns ks n s (.storeB v b)=(s,.no 2):=by
 obtain⟨p,rfl,d⟩:=Rw h;unfold act;try dsimp only
 rw[Jy d];have e:psB ns ks s.dr b=none:=by
  cases b with
  |non=>exact (a U).elim
  |str t=>exact if_neg λz=>Ry c U z
  |_=>rfl
 rw[e]
theorem Ng{p:Nat}{ps:Ps}(h:p<10)(a:s.m p=some ps):act ns ks n s (.press<|.int (p:Nat))=(⟨ps.put s.dr,s.sh,s.m⟩,.told .non):=by
 unfold act;try dsimp only
 rw[Jy h,Option.bind_some,a]
theorem Mh(h:∀p:Nat,v=.int (p:Nat)->p<10->s.m p=none):act ns ks n s (.press v)=(s,.no 1):=by
 unfold act;try dsimp only
 have e:(Ks v).bind s.m=none:=by
  cases z:Ks v with
  |none=>rfl
  |some p =>
   obtain⟨e,a⟩:=mF z;exact h p e a
 rw[e]
theorem Qo(h:i<=n):act ns ks n s (.shoe<|.int (i:Nat))=(⟨s.dr,i,s.m⟩,.told .non):=by
 unfold act;try dsimp only
 rw[Y7 h]
theorem VF(h:jQ n v=false):act ns ks n s (.shoe v)=(s,.no 3):=by
 unfold act;try dsimp only
 rw[Z5 h]
end
def Fb(H H':Hp)(a b:Addr):Prop:=∀c o,H c=some o->c≠a->c≠b->H' c=some o
theorem Ek.le{x:Addr}{bs:List (Str×Nat)}{m:Nat->Option Ps}{c b:Nat}(h:Ek C Cy pE pA Ho H y x bs ks sts dr sh sd m c)(f:c<=b):Ek C Cy pE pA Ho H y x bs ks sts dr sh sd m b:=by
 obtain⟨a,g,e,d⟩:=h.st.ex;exact⟨h.o,h.f,h.hs,h.ny,a,g,be e f,d⟩
theorem GR.at9{x:Addr}(h:GR C Cy Ho H y x ks sts dr sh sd):Dq Cy H y x dr sh sd:=by
 obtain⟨⟨b,bs,rk,c,a⟩,e,d⟩:=h;exact a.c
def Fl.wd:Fl->Str
 |.pull _=>"pull"
 |.push _=>"push"
 |.store _=>"store"
 |.storeB _ _=>"store"
 |.press _=>"press"
 |.shoe _=>"shoe"
 |.cancel=>"cancel"
def Fl.args:Fl->List V
 |.pull v=>[v]
 |.push v=>[v]
 |.store v=>[v]
 |.storeB v b=>[v,b]
 |.press v=>[v]
 |.shoe v=>[v]
 |.cancel=>[]
def Fl.odd(H:Hp):Fl->Prop
 |.pull v=>Cj H v
 |.push v=>Cj H v
 |.store v=>Cj H v
 |.storeB v b=>Cj H v/\Cj H b
 |.press v=>Cj H v
 |.shoe v=>Cj H v
 |.cancel=>True
theorem Fl.odd.mono(s:Am H H'){d:Fl}(h:d.odd H):d.odd H':=by
 cases d with
 |pull v=>exact Cj.mono s h
 |push v=>exact Cj.mono s h
 |store v=>exact Cj.mono s h
 |storeB v b=>exact⟨Cj.mono s h.1,Cj.mono s h.2⟩
 |press v=>exact Cj.mono s h
 |shoe v=>exact Cj.mono s h
 |cancel=>exact h
theorem Fl.v_eq(d:Fl):d.v=.str d.wd::d.args:=by cases d <;> rfl
inductive aU(C Cy pE pA cK cP cB cS:Addr)(vs:List V)(H:Hp)(Q:VK)(E:XK):Prop
 | mk(Ho:Hp)(y x:Addr)(bs:List (Str×Nat))(ks:List R)(sts:List Nat)(s:Cs)(sd:Addr)(c:Nat)(Tp:Addr)(d:Fl):vs=[.ref y,.str d.wd,.ref Tp]->Ek C Cy pE pA Ho H y x bs ks sts s.dr s.sh sd s.m c->c<900->H Tp=some (.tup d.args)->d.odd H->(∀s' u H',act (bs.map (·.1)) ks sts.length s d=(s',.told u)->Fb H H' y sd->Ek C Cy pE pA Ho H' y x bs ks sts s'.dr s'.sh sd s'.m (c+1)->Q .non H')->(∀i H',act (bs.map (·.1)) ks sts.length s d=(s,.no i)->Am H H'->E (.ref (clE cK cP cB cS i)) none H')->aU C Cy pE pA cK cP cB cS vs H Q E
theorem wA:Av yy yy<|Af wG:=Bg
include N T in
theorem uE:An P w K mg base (Gp P w) 7 aD.fDz aD.dDz yy<|aU C Cy pE pA cK cP cB cS:=by
 have ac:An P w K mg base (Gp P w) 5 aD.fXp aD.dXp uC<|X6 true C Cy cK:=qH N T
 have ap:An P w K mg base (Gp P w) 5 aD.fXq aD.dXq uC<|X6 false C Cy cK:=qI N T
 have ab:An P w K mg base (Gp P w) 6 aD.fXt aD.dXt wv<|jo C Cy pE pA cP cB:=pY N T
 have Z:An P w K mg base (Gp P w) 3 aD.fXr aD.dXr A3<|jF C Cy pE pA cP:=o7 N T
 have an:An P w K mg base (Gp P w) 3 aD.fXh aD.dXh Ck<|iQ C Cy cS:=nU N T
 refine N.FDz.1.Jx wA λH vs Q E D h=>?_;obtain⟨J,y,x,bs,R,k,s,q,c,r,d,rfl,O,hc,u,L,B,F⟩:=h;have hu:=CG D;refine⟨_,@Ag _ _ _<|@Bh _ _ _ _ _ _ _ _ (BR CP (pv 1) BP<|BX _) (@Ag _ _ _<|Bw<|Bp (pv 0) T.clR N.FXp.2.2 ac (ad D) N.FXp.2.1 .nil Dm<|@Ay _ _ _ _ _ U (@Az _ _ _ _ _ _ _ (Ar (K:=K) U) (pv 2) Ac<|λ_ _=>rfl) Ab)<|@Ag _ _ _<|@Bh _ _ _ _ _ _ _ _ (BR CP (pv 1) BP<|BX _) (@Ag _ _ _<|Bw<|Bp (pv 0) T.clR N.FXq.2.2 ap (ad D) N.FXq.2.1 .nil Dm<|@Ay _ _ _ _ _ U (@Az _ _ _ _ _ _ _ (Ar (K:=K) U) (pv 2) Ac<|λ_ _=>rfl) Ab)<|@Ag _ _ _<|@Bh _ _ _ _ _ _ _ _ (BR CP (pv 1) BP<|BX _) (@Ag _ _ _<|Bw<|Bp (pv 0) T.clR N.FXt.2.2 ab (ad D) N.FXt.2.1 .nil Dm<|@Ay _ _ _ _ _ U (@Az _ _ _ _ _ _ _ (Ar (K:=K) U) (pv 2) Ac<|λ_ _=>rfl)<|@Ay _ _ _ _ _ U (Jr (BR CP (BK BW U T.len bo<|@Ay _ _ _ _ _ U (pv 2) Ab) Ac<|BX _) (@Az _ _ _ _ _ _ _ (Ar (K:=K) U) (pv 2) Ac<|λ_ _=>rfl) GC) Ab)<|@Ag _ _ _<|@Bh _ _ _ _ _ _ _ _ (BR CP (pv 1) BP<|BX _) (@Ag _ _ _<|Bw<|Bp (pv 0) T.clR N.FXr.2.2 Z (ad D) N.FXr.2.1 .nil Dm<|@Ay _ _ _ _ _ U (@Az _ _ _ _ _ _ _ (Ar (K:=K) U) (pv 2) Ac<|λ_ _=>rfl) Ab)<|@Ag _ _ _<|@Bh _ _ _ _ _ _ _ _ (BR CP (pv 1) BP<|BX _) (@Ag _ _ _<|Bw<|Bm (pv 0) T.clR N.FXc.2.2 (pU N T) (ad D) N.FXc.2.1 .nil Ao)<|@Ag _ _ _<|Bw<|Bp (pv 0) T.clR N.FXh.2.2 an (ad D) N.FXh.2.1 .nil Dm<|@Ay _ _ _ _ _ U (@Az _ _ _ _ _ _ _ (Ar (K:=K) U) (pv 2) Ac<|λ_ _=>rfl) Ab,?_⟩;obtain⟨G,fs,I,_,_,_,_,_,S⟩:=id O.at.ex;have Y:∀{a},SX y H a->Fb H a y q:=λ{_} c b o e n _=>c b o e n;have fd:∀{a},SX q H a->Fb H a y q:=λ{_} c b o e _ n=>c b o e n
 cases d with
 |pull v =>
  refine⟨_,U,U,_,U,HN U ⟨_,U,y,G,fs,U,I,S _<|by decide,_,U,r,_,_,_,U,U,ma u,Ah (j:=0) U,J,y,x,R,k,s.dr,s.sh,q,v,U,O.ok,L,λt d2 a g l W ed X=>?_,λa m f=>F 0 a (Vt f) m⟩⟩;subst l;subst ed;exact B _ _ a (QZ W) (Y g)<|(O.put g X.at9).le<|by omega
 |push v =>
  refine⟨_,U,U,_,U,Fy (Ej (show (("push" : Str) == "pull")=false by decide)) ⟨_,U,U,_,U,HN U ⟨_,U,y,G,fs,U,I,S _<|by decide,_,U,r,_,_,_,U,U,ma u,Ah (j:=0) U,J,y,x,R,k,s.dr,s.sh,q,v,U,O.ok,L,λt d2 a g l W ed X=>?_,λa m f=>F 0 a (Vl f) m⟩⟩⟩;subst l;subst ed;exact B _ _ a (Pq W) (Y g)<|(O.put g X.at9).le<|by omega
 |store v =>
  refine⟨_,U,U,_,U,Fy (Ej (show (("store" : Str) == "pull")=false by decide)) ⟨_,U,U,_,U,Fy (Ej (show (("store" : Str) == "push")=false by decide)) ⟨_,U,U,_,U,HN U ⟨_,U,y,G,fs,U,I,S _<|by decide,_,U,r,_,_,_,U,U,ma u,Ah (j:=0) U,_,U,r,_,U,.inr<|ma u,U,_,U,Fy (λz=>absurd (V.int.inj z)<|by show ¬ ((1:Nat):Int)=2;decide) ?_⟩⟩⟩⟩;refine⟨J,y,x,bs,R,k,s.dr,s.sh,q,s.m,c,v,.non,U,O,hc,L,.non,λp a l M _ g A=>?_,(λp t a _ _ l=>nomatch l),λa m f=>F 1 a (RZ f) m,λa _ _ h=>(h U).elim⟩;subst l;exact B _ _ a (Nm M) (fd g) A
 |storeB v b =>
  refine⟨_,U,U,_,U,Fy (Ej (show (("store" : Str) == "pull")=false by decide)) ⟨_,U,U,_,U,Fy (Ej (show (("store" : Str) == "push")=false by decide)) ⟨_,U,U,_,U,HN U ⟨_,U,y,G,fs,U,I,S _<|by decide,_,U,r,_,_,_,U,U,ma u,Ah (j:=0) U,_,U,r,_,U,.inr<|ma u,U,_,U,HN U ⟨_,U,r,_,_,_,U,U,ma u,Ah (j:=1) U,?_⟩⟩⟩⟩⟩;refine⟨J,y,x,bs,R,k,s.dr,s.sh,q,s.m,c,v,b,U,O,hc,L.1,L.2,λp a l M eb g A=>?_,λp t a l M eb W g A=>?_,λa m f=>F 1 a (Qk f) m,λa m h8 h9 f=>F 2 a (QM h8 h9 f) m⟩
  ·subst l;subst eb;exact B _ _ a (Lq M) (fd g) A
  ·subst l;subst eb;exact B _ _ a (Ls M W) (fd g) A
 |press v =>
  refine⟨_,U,U,_,U,Fy (Ej (show (("press" : Str) == "pull")=false by decide)) ⟨_,U,U,_,U,Fy (Ej (show (("press" : Str) == "push")=false by decide)) ⟨_,U,U,_,U,Fy (Ej (show (("press" : Str) == "store")=false by decide)) ⟨_,U,U,_,U,HN U ⟨_,U,y,G,fs,U,I,S _<|by decide,_,U,r,_,_,_,U,U,ma u,Ah (j:=0) U,J,y,x,bs,R,k,s.dr,s.sh,q,s.m,c,v,U,O,L,λp ps a l M hm g A=>?_,λa m f=>F 1 a (Mh f) m⟩⟩⟩⟩⟩;subst l;exact B _ _ a (Ng M hm) (Y g)<|A.le<|by omega
 |shoe v =>
  refine⟨_,U,U,_,U,Fy (Ej (show (("shoe" : Str) == "pull")=false by decide)) ⟨_,U,U,_,U,Fy (Ej (show (("shoe" : Str) == "push")=false by decide)) ⟨_,U,U,_,U,Fy (Ej (show (("shoe" : Str) == "store")=false by decide)) ⟨_,U,U,_,U,Fy (Ej (show (("shoe" : Str) == "press")=false by decide)) ⟨_,U,U,_,U,Fy (Ej (show (("shoe" : Str) == "cancel")=false by decide)) ⟨_,U,y,G,fs,U,I,S _<|by decide,_,U,r,_,_,_,U,U,ma u,Ah (j:=0) U,J,y,x,R,k,s.dr,s.sh,q,v,U,O.ok,L,λi a l hi g X=>?_,λa m f=>F 3 a (VF f) m⟩⟩⟩⟩⟩⟩;subst l;exact B _ _ a (Qo hi) (Y g)<|(O.put g X.at9).le<|by omega
 |cancel =>
  refine⟨_,U,U,_,U,Fy (Ej (show (("cancel" : Str) == "pull")=false by decide)) ⟨_,U,U,_,U,Fy (Ej (show (("cancel" : Str) == "push")=false by decide)) ⟨_,U,U,_,U,Fy (Ej (show (("cancel" : Str) == "store")=false by decide)) ⟨_,U,U,_,U,Fy (Ej (show (("cancel" : Str) == "press")=false by decide)) ⟨_,U,U,_,U,HN U ⟨_,U,y,G,fs,U,I,S _<|by decide,J,y,x,bs,R,k,s.dr,s.sh,q,s.m,c,U,O,λa g A=>?_⟩⟩⟩⟩⟩⟩;exact B _ _ a U (Y g)<|A.le<|by omega
def Z0(n:Nat):V->Bool
 |.int i=>decide (0<=i) && decide (i<(n:Nat))
 |_=>false
inductive jA(C cB cY:Addr)(vs:List V)(H:Hp)(Q:VK)(E:XK):Prop
 | mk(x:Addr)(us:List V)(bs:List (Str×Nat))(rk:List (Str×Nat×Int))(ks:List R)(ls:List (List Ln:_))(sts:List Nat)(v u:V):vs=[.ref x,v,u]->Hq C H x us bs rk ks ls sts->Cj H v->Cj H u->(∀n∈bs.map (·.1),isNm n)->(∀(j n:Nat) (b:Str×Nat) H',Am H H'->v=.str b.1->u=.int (n:Nat)->bs[j]? = some b->(bs.map (·.1)).idxOf b.1=j->n<b.2->Q (.int ((((bs.take j).map (·.2)).sum+n:Nat):Int)) H')->(∀H',Am H H'->Gk (bs.map (·.1)) v=.non->E (.ref cB) none H')->(∀(j:Nat) (b:Str×Nat) H',Am H H'->v=.str b.1->bs[j]? = some b->(bs.map (·.1)).idxOf b.1=j->Z0 b.2 u=false->E (.ref cY) none H')->jA C cB cY vs H Q E
theorem pK:Av ["organ","name","number","board"] z5 (Af yP):=Bg
include N T in
theorem nJ:An P w K mg base (Gp P w) 5 aD.fKy aD.dKy z5<|jA C cB cY:=by
 have r:An P w K mg base (Gp P w) 4 aD.fBn aD.dBn vr<|Zv C cB:=fG N T
 refine N.FKy.1.Jx pK λH vs Q E d h=>?_;obtain⟨x,Y,bs,rk,B,J,m,v,u,rfl,O,Z,A,hn,q,S,s⟩:=h;have hu:=CG d;refine⟨_,(@Ae _ _ _ _ _ (@Bo _ _ _ _ _ _ 3 pK.nd U (Or.inl U) (@Az _ _ _ _ _ _ _ (Bk (K:=K) U) (Bm (pv 0) T.cl N.FOb.2.2 (Qy N T) (ad d) N.FOb.2.1 .nil Ao) (Ak r (ad d) U N.FBn.2.2 N.FBn.1.kp N.FBn.2.1 .nil Dm<|@Ay _ _ _ _ _ U (pv 0)<|@Ay _ _ _ _ _ U (pv 1) Ab)<|λ_ _=>rfl) (by kernel_rfl)<|.inl U)
  (@Ae _ _ _ _ _ (@Bh _ _ _ _ _ _ _ _ (PW.pt<|El (Ce<|Cq<|zC (RM N T) d U N.FWh<|@Ay _ _ _ _ _ U (pv 2) Ab)<|EY<|Ce<|Ig FT HY Ac (pv 2)<|@Az _ _ _ _ _ _ _ (Ar (K:=K) U) (pv 3) Ac<|λ_ _=>rfl) (@Ag _ _ _<|GK T.xY.exY U T.xY.mY U HQ<|@Ay _ _ _ _ _ U BP Ab) Ba)
  (@Ag _ _ _<|@Ax _ _ _ _<|Bp (pv 0) T.cl N.FOk.2.2 (Uu N T) (ad d) N.FOk.2.1 .nil Ao<|@Ay _ _ _ _ _ U (pv 1)<|@Ay _ _ _ _ _ U (pv 2) Ab))),?_⟩
 obtain⟨⟨⟨G,fs,_,_,_,_,_,_,_,_,F,_,_,_,_,I,_⟩,_⟩,_⟩:=id O.o;refine⟨_,U,x,G,fs,U,F,I _<|by decide,x,bs,B,U,O.o.o,λX i6 H1 RS l D W=>?_⟩;refine⟨_,U,_,U,x,Y,bs,rk,B,J,m,v,U,O.mono l,Cj.mono l Z,hn,λt f g ev R=>?_,λf g e=>S f (l.trans g) e⟩;subst ev;have o:=Jt R;rw[am] at o;obtain⟨b,c,rfl⟩:=av.mp o;generalize k:(bs.map (·.1)).idxOf b.1=j at c;clear o;have a:=l.trans g;obtain⟨yb,F',Tb,rfl,tJ⟩:=B_ (Aq g W) c;refine⟨X,i6,_,_,U,U,ma<|g _ _ D,Ah F',?_⟩;refine⟨_,U,u,U,Cj.mono a A,_,U,?_⟩
 cases u with
 |int i =>
  refine Bj ⟨_,U,_,_,U,U,_,U,Cw (λp=>?_)<|λp=>?_⟩
  ·refine⟨_,U,Tb,_,_,_,U,U,ma tJ,Ah (j:=1) U,_,_,U,U,decide (i<((b.2:Nat):Int)),U,?_⟩;by_cases y:i<((b.2:Nat):Int)
   ·rw[decide_eq_true y];have M:0<=i:=of_decide_eq_true p;refine Bj ?_;obtain⟨n,rfl⟩:=ij M;refine⟨_,U,x,G,fs,U,a _ _ F,I _<|by decide,_,U,_,U,x,bs,B,j,b,((n:Nat):Int),U,(O.mono a).o.o,c,λL V=>?_⟩;have e:((((bs.take j).map (·.2)).sum:Nat):Int)+((n:Nat):Int)=((((bs.take j).map (·.2)).sum+n:Nat):Int):=by omega
    rw[e];exact q j n b L (a.trans V) U U c k<|by omega
   ·rw[decide_eq_false y];exact Dj ⟨by show 1<=1000;decide,s j b f a U c k<|by show (decide (0<=i) && decide (i<((b.2:Nat):Int)))=false;rw[decide_eq_false y,Bool.and_false]⟩
  ·exact⟨_,U,Dj ⟨by show 1<=1000;decide,s j b f a U c k<|by show (decide (0<=i) && decide (i<((b.2:Nat):Int)))=false;rw[decide_eq_false (λz=>p<|decide_eq_true z),Bool.false_and]⟩⟩
 |_=>exact Dj ⟨by show 1<=1000;decide,s j b f a U c k U⟩
theorem J3.new{x a:Addr}(h:H z=some (.ins Cp a<|BV "hands" (.ref hd) (BV "console" (.ref y) (BV "organ" (.ref x) [])))):J3 Cp H z x y hd:=⟨a,_,h,U,U,U,λm b=>by
 simp only[Xr,List.mem_cons,List.not_mem_nil,or_false] at b;rcases b with rfl | rfl | rfl | rfl | rfl | rfl | rfl | rfl <;> rfl⟩
inductive jV(Cy Cp:Addr)(vs:List V)(H:Hp)(Q:VK)(b9:XK):Prop
 | mk(z dz x:Addr):vs=[.ref z,.ref x]->H z=some (.ins Cp dz [])->(∀(y sd hd:Addr) H',SX z H H'->H y=none->H hd=none->H' hd=some (.dK [])->Dq Cy H' y x 0 0 sd->J3 Cp H' z x y hd->H sd=none->H' sd=some (.dK [])->sd≠y->hd≠sd->z≠y->Q .non H')->jV Cy Cp vs H Q b9
theorem scQi:Av yB yB<|Af wH:=Bg
include N T in
theorem rW:An P w K mg base Bb 3 aD.fQi aD.dQi yB<|jV Cy Cp:=by
 refine N.FQi.1.Dg scQi λH vs Q E W h=>?_;obtain⟨z,d,x,rfl,h1,q⟩:=h;have hu:=CG W;have m:A_ 2 _:=W;refine⟨_,(Ae (DG (pv 0) (pv 1) U)
  (Ae (DG (pv 0) (Iz N.FXi.2.2 (qR N T) m U T.mCR N.FXi.2.1 .nil Ao<|Aa (pv 1) Ab) U)
  (Ag<|DG (pv 0) G6 U))),?_⟩
 refine⟨_,U,_,U,z,Cp,d,_,U,h1,T.clP,T.np_organ,by show 0<1000;decide,?_⟩;have B:upd H z (HO.ins Cp d<|BV "organ" (.ref x) []) z=some (.ins Cp d<|BV "organ" (.ref x) []):=Aj;have D:SX z H<|upd H z<|HO.ins Cp d<|BV "organ" (.ref x) []:=SX.up
 generalize upd H z (HO.ins Cp d (BV "organ" (.ref x) []))=v at B D |-;have z1:=Ez "organ" (.ref x) [];have z0:([]:List<|Str×V).length=0:=rfl;refine⟨_,U,?_⟩;intro y L A J ab;have Z:Am v<|upd (upd v L<|.own y) y<|.ins Cy L []:=λb o e=>by
  rw[Aw (Ai e A),Aw<|Ai e J];exact e
 refine⟨y,L,x,U,Aj,λs i M Y QY CA=>⟨U,?_⟩⟩;have t:Am v i:=λb o e=>M b o (Z b o e)<|Ai e A
 have x2:=t _ _ B;have r:v s=none:=Z.free Y;have g:s≠z:=Ne.symm<|Ai B r
 have z2:=Ez "console" (.ref y) (BV "organ" (.ref x) []);refine⟨_,U,z,Cp,d,_,U,x2,T.clP,T.np_console,by omega,?_⟩;have f:y≠z:=Ne.symm<|Ai B A
 have R:upd i z (HO.ins Cp d<|BV "console" (.ref y) (BV "organ" (.ref x) [])) z=some (.ins Cp d<|BV "console" (.ref y) (BV "organ" (.ref x) [])):=Aj;have X:SX z i<|upd i z<|HO.ins Cp d<|BV "console" (.ref y) (BV "organ" (.ref x) []):=SX.up
 have u:Dq Cy (upd i z<|HO.ins Cp d<|BV "console" (.ref y) (BV "organ" (.ref x) [])) y x 0 0 s:=by
  obtain⟨I,j,G,k⟩:=CA.ex;exact⟨I,j,by rw[Aw f];exact G,k⟩
 have l:upd i z (HO.ins Cp d<|BV "console" (.ref y) (BV "organ" (.ref x) [])) s=some (.dK []):=by rw[Aw g];exact QY
 generalize upd i z (HO.ins Cp d (BV "console" (.ref y) (BV "organ" (.ref x) [])))=H3 at R X u l |-;intro hd F;obtain⟨H4,i5,C,e4⟩:=Du (o:=HO.dK []) F;rw[i5];refine⟨_,U,z,Cp,d,_,U,C _ _ R,T.clP,T.np_hands,by omega,?_⟩;have p:hd≠z:=Ne.symm<|Ai R F
 have LD:=D.trans<|(SX.of t).trans X
 have free:∀{a:Addr}{S:Hp},SX z H S->a≠z->S a=none->H a=none:=λ{a} {S} c n h=>by
  cases e:H a with
  |none=>rfl
  |some ob =>
   have:=c a ob e n;rw[h] at this
   cases this
 have O:=u.mono C;refine q y s hd _ (LD.trans<|(SX.of C).trans SX.up) (free D f A) (free LD p F) (by rw[Aw p];exact e4) ?_ (J3.new Aj) (free D g r) (by rw[Aw g];exact C _ _ l) (Ne.symm<|Ai Aj Y) (Ne.symm<|Ai l F)<|Ne.symm f
 obtain⟨I,j,G,k⟩:=O.ex;exact⟨I,j,by rw[Aw f];exact G,k⟩
abbrev kH(k:Nat):Key:=Sum.inl ((k:Nat):Int)
inductive iK(C Cy Cp:Addr)(vs:List V)(H:Hp)(Q:VK)(b9:XK):Prop
 | mk(Ho:Hp)(z x y hd:Addr)(us:List V)(bs:List (Str×Nat))(rk:List (Str×Nat×Int))(ks:List R)(ls:List (List Ln:_))(sts:List Nat)(dr sh:Nat)(sd:Addr)(kvs:List (Key×V))(c:Nat->Nat)(k:Nat):vs=[.ref z,.int (k:Nat)]->V8 C Cy Cp Ho H z x y hd us bs rk ks ls sts dr sh sd kvs c->kvs.length<=900->k<1200->Q .non (upd H hd (.dK (putK kvs (kH k) (.int ((c k+1:Nat):Int)))))->iK C Cy Cp vs H Q b9
inductive gY(C Cy Cp cH:Addr)(vs:List V)(H:Hp)(Q:VK)(E:XK):Prop
 | mk(Ho:Hp)(z x y hd:Addr)(us:List V)(bs:List (Str×Nat))(rk:List (Str×Nat×Int))(ks:List R)(ls:List (List Ln:_))(sts:List Nat)(dr sh:Nat)(sd:Addr)(kvs:List (Key×V))(c:Nat->Nat)(k:Nat):vs=[.ref z,.int (k:Nat)]->V8 C Cy Cp Ho H z x y hd us bs rk ks ls sts dr sh sd kvs c->kvs.length<=900->k<1200->(c k=0->E (.ref cH) none H)->(0<c k->Q .non (upd H hd (.dK (putK kvs (kH k) (.int ((c k - 1:Nat):Int))))))->gY C Cy Cp cH vs H Q E
inductive Xl(C Cy Cp:Addr)(vs:List V)(H:Hp)(Q:VK)(b9:XK):Prop
 | mk(Ho:Hp)(z x y hd:Addr)(us:List V)(bs:List (Str×Nat))(rk:List (Str×Nat×Int))(ks:List R)(ls:List (List Ln:_))(sts:List Nat)(dr sh:Nat)(sd:Addr)(kvs:List (Key×V))(c:Nat->Nat):vs=[.ref z]->V8 C Cy Cp Ho H z x y hd us bs rk ks ls sts dr sh sd kvs c->kvs.length<=500->(∀H',Am H H'->Q (.int ((Wd.mk (DQ kvs):Nat):Int)) H')->Xl C Cy Cp vs H Q b9
theorem scQh:Av wh wh<|Af wI:=Bg
include N T in
theorem sE:An P w K mg base Bb 1 aD.fQh aD.dQh wh<|iK C Cy Cp:=by
 refine N.FQh.1.Dg scQh λH u Q E l h=>?_;obtain⟨o,z,x,y,f,F,bs,rk,A,p,m,n,s,D,d,c,k,rfl,b,hl,B,q⟩:=h;have j:=CG l;refine⟨_,Ag<|Fi j (Bc (pv 0) U) (pv 1) (BZ CQ (IV j (Bc (pv 0) U) (pv 1) Ac ⟨U,U,U,U⟩) Ac) U,?_⟩;obtain⟨g,fs,e,t,v,i,r⟩:=id b.Lw.ex;have a:=b.d;refine⟨_,U,z,Cp,g,fs,_,U,e,T.clP,T.np_hands,i,f,U,.inl ⟨d,.inl a⟩,_,U,_,Ed.k (k:=kH k) a,((c k:Nat):Int),1,b.h.getD k,U,?_⟩;exact⟨_,U,z,Cp,g,fs,_,U,e,T.clP,T.np_hands,i,_,U,f,_,U,Jf.k (k:=kH k) a<|BJ<|by omega,q⟩
theorem zu:Av wh wh<|Af z7:=Bg
include N T in
theorem uc:An P w K mg base (Gp P w) 1 aD.fQl aD.dQl wh<|gY C Cy Cp cH:=by
 refine N.FQl.1.Jx zu λH D Q E p h=>?_;obtain⟨G,z,x,y,j,F,bs,rk,M,B,q,A,I,R,a,c,k,rfl,b,hl,O,u,r⟩:=h;have f:=CG p;refine⟨_,(Ae (Bh (BR CP (IV f (Bc (pv 0) U) (pv 1) Ac ⟨U,U,U,U⟩) Ac<|BX _) (Ag<|GK T.xH.exH U T.xH.mH U HQ<|Aa BP Ab) Ba)
  (Ag<|Fi f (Bc (pv 0) U) (pv 1) (BZ GF (Ey f (Bc (pv 0) U) (pv 1)<|λ_ _=>rfl) Ac) U)),?_⟩
 obtain⟨l,fs,i,J,L,m,S⟩:=id b.Lw.ex;have d:=b.d;refine⟨_,U,z,Cp,l,fs,_,U,i,T.clP,T.np_hands,m,j,U,.inl ⟨a,.inl d⟩,_,U,_,Ed.k (k:=kH k) d,?_⟩;rw[b.h.getD k];refine⟨U,_,U,Cw (λe=>?_)<|λe=>?_⟩
 ·have:=V.int.inj<|of_decide_eq_true e
  exact⟨by show 1<=1000;decide,u<|by omega⟩
 have t:0<c k:=Nat.pos_of_ne_zero λo=>e<|decide_eq_true<|by rw[o];rfl
 have v:CN a (kH k)=some (.int ((c k:Nat):Int)):=(b.h.v k).resolve_right λo=>by omega
 have g:=Ed.k (k:=kH k) d;rw[v] at g;refine⟨_,U,z,Cp,l,fs,_,U,i,T.clP,T.np_hands,m,_,U,j,_,U,g,_,_,U,U,?_⟩;have s:((c k:Nat):Int) - 1=((c k - 1:Nat):Int):=by omega
 have n:=r t;rw[<-s] at n;exact⟨_,U,z,Cp,l,fs,_,U,i,T.clP,T.np_hands,m,_,U,j,_,U,Jf.k (k:=kH k) d<|BJ<|by omega,n⟩
theorem aO(h:Df kvs c):((kvs.filter λkv=>match kv.2 with | .int n=>decide (0<n) | _=>false).map λkv=>kV kv.1)=nV (DQ kvs):=by
 unfold DQ nV;rw[ay];refine fh λkv a=>?_;obtain⟨j,rfl,_⟩:=h.e kv (bb.mp a).1;show V.int (j:Int)=V.int (((j:Int).toNat:Nat):Int);rw[aS]
theorem yH:Av sT sT<|Af vP:=Bg
include N T in
theorem XM:An P w K mg base Bb 4 aD.fQe aD.dQe sT<|Xl C Cy Cp:=by
 refine N.FQe.1.Dg yH λH vs Q E s h=>?_;obtain⟨Ho,z,x,y,d,us,bs,rk,ks,ls,L,Z,sh,sd,a,c,rfl,i,hl,q⟩:=h;have hu:=CG s;refine⟨_,Ag<|Ax<|zC (NZ N T) s U N.FSt<|Aa (Yg<|OD U (HJ (osc:=Af vP) (N:=sT) U U<|by decide) (YQ<|Bc (pv 0) U) (λ_ _ _ _=>(G9<|BR QR (pv 1) Ac<|BX _))<|λ_ _ _ _=>(pv 0)) Ab,?_⟩;obtain⟨F,fs,p,l1,l2,W,lm⟩:=id i.Lw.ex;have r:=i.d;have Y:z≠d:=λe=>by rw[e,r] at p;cases p
 refine⟨d,a,r,λf=>?_⟩;have l:upd H d (HO.frz f<|HO.dK a) d=some (.frz f<|.dK a):=Aj;have G:upd H d (HO.frz f<|HO.dK a) z=some (.ins Cp F fs):=by rw[Aw Y];exact p
 have B:SX d H<|upd H d<|HO.frz f<|HO.dK a:=SX.up
 generalize upd H d (HO.frz f (HO.dK a))=H2 at l G B |-;refine⟨_,U,z,Cp,F,fs,_,U,G,T.clP,T.np_hands,W,d,f,a,U,l,R5 (K:=K) (λg=>match g.2 with | .int n=>decide (0<n) | _=>false) (λg=>kV g.1) l (BJ<|by omega) (λg v m V R k=>?_) (λg v _ m V R k=>⟨_,U,k m<|Am.refl m⟩)<|λD H3 I A t=>?_⟩
 ·have J:=k m<|Am.refl m
  obtain⟨j,rfl,_⟩:=i.h.e g v;exact⟨_,U,_,_,U,U,_,U,J⟩
 have S:=A _ _ l;refine⟨S,?_⟩;have X:D≠d:=Ne.symm<|Ai l I
 rw[aO i.h] at t;refine⟨D,DQ a,U,by rw[Aw X];exact t,by have:=U8 a;omega,i.h.bound,λO M=>?_⟩;refine q O λb u e=>M b u ?_;by_cases o:b=d
 ·rw[o,Aj,<-e,o,r]
 ·rw[Aw o];exact A b u<|B b u e o
inductive iU(C Cy Cp:Addr)(vs:List V)(H:Hp)(Q:VK)(b9:XK):Prop
 | mk(Ho:Hp)(z x y hd:Addr)(us:List V)(bs:List (Str×Nat))(rk:List (Str×Nat×Int))(ks:List R)(ls:List (List Ln:_))(sts:List Nat)(dr sh:Nat)(sd:Addr)(kvs:List (Key×V))(c:Nat->Nat):vs=[.ref z]->V8 C Cy Cp Ho H z x y hd us bs rk ks ls sts dr sh sd kvs c->(∀n∈JC ks,isNm n)->ks.length<=100->sh<=sts.length->sts.length<=100->(∀H',Am H H'->Q (.int ((dr ||| Q8 (sts.take sh):Nat):Int)) H')->iU C Cy Cp vs H Q b9
theorem zE:Av sT sT<|Af sQk:=Bg
include N T in
theorem m_:An P w K mg base Bb 3 aD.fQk aD.dQk sT<|iU C Cy Cp:=by
 refine N.FQk.1.Dg zE λH F Q E e h=>?_;obtain⟨p,z,x,y,I,D,bs,rk,v,i,b,f,s,B,l,c,rfl,a,u,A,m,d,q⟩:=h;have G:=CG e;refine⟨_,Ag<|Ax<|Bm (Bc (pv 0) U) T.clR N.FXk.2.2 (qL N T) (ad e) N.FXk.2.1 .nil Ao,?_⟩;obtain⟨r,fs,n,L,t,J,O⟩:=id a.Lw.ex;have M:=a.d;obtain⟨o,j,k,_,_,_,_,_,g⟩:=id a.con.c.ex;exact⟨_,U,z,Cp,r,fs,_,U,n,T.clP,T.np_console,t,y,o,j,U,k,g _<|by decide,p,y,x,v,b,f,s,B,U,⟨⟨D,bs,rk,i,a.con⟩,u,A⟩,m,d,q⟩
inductive DP(cn:Nat->Str)(sz:List Nat)(rk:List<|Str×Nat×Int)(kbs:List Kb)(ls:List<|List Ln)(D n p:Nat):Prop
 | mk(cl:List Nat)(m:Nat):(∀k,k∈cl ↔ ∃z,kbs[k]? = some z/\z.w = "stop" /\ D.testBit k=true)->(∀j,m.testBit j=true ↔ O4 cn sz kbs D n j)->p=iw sz rk kbs ls cl m->DP cn sz rk kbs ls D n p
structure fU(cn:Nat->Str)(sz:List Nat)(rk:List<|Str×Nat×Int)(kbs:List Kb)(ls:List<|List Ln)(sts:List Nat)(sh:Nat)(kvs:List<|Key×V)(c:Nat->Nat):Prop where
 kb:UJ sz.length kbs
 lg:e_ rk ls
 nm:∀n∈JC (Bq cn kbs),isNm n
 nk:(Bq cn kbs).length<=100
 sh:sh<=sts.length
 st:sts.length<=100
 kc:∀k,0<c k->k<sz.sum
 kl:kvs.length<=500
inductive WR(C Cy Cp:Addr)(vs:List V)(H:Hp)(Q:VK)(b9:XK):Prop
 | mk(Ho:Hp)(z x y hd:Addr)(us:List V)(rk:List (Str×Nat×Int))(ls:List (List Ln:_))(sts:List Nat)(dr sh:Nat)(sd:Addr)(kvs:List (Key×V))(c:Nat->Nat)(cn:Nat->Str)(sz:List Nat)(kbs:List Kb):vs=[.ref z]->V8 C Cy Cp Ho H z x y hd us (Bd cn sz) rk (Bq cn kbs) ls sts dr sh sd kvs c->fU cn sz rk kbs ls sts sh kvs c->(∀(p:Nat) H',Am H H'->DP cn sz rk kbs ls (dr ||| Q8 (sts.take sh)) (Wd.mk (DQ kvs)) p->Q (.int (p:Nat)) H')->WR C Cy Cp vs H Q b9
theorem zF:Av sT sT<|Af vf:=Bg
include N T in
theorem Y8:An P w K mg base Bb 8 aD.fQs aD.dQs sT<|WR C Cy Cp:=by
 refine N.FQs.1.Dg zF λH O Q E e h=>?_;obtain⟨r,z,x,y,t,A,rk,g,b,o,u,v,d,c,G,sz,j,rfl,a,ok,q⟩:=h;have S:=CG e;refine⟨_,Ag<|Ax<|zC (qK N T) e U N.FSo<|Aa (Bc (pv 0) U)<|Aa (Bm (pv 0) T.clP N.FQk.2.2 (m_ N T) (ad e) N.FQk.2.1 .nil Ao)<|Aa (Bm (pv 0) T.clP N.FQe.2.2 (XM N T) (ad e) N.FQe.2.1 .nil Ao) Ab,?_⟩;obtain⟨l,fs,k,J,X,V,B⟩:=id a.Lw.ex;have W:=a.d;refine⟨_,U,z,Cp,l,fs,_,U,k,T.clP,T.np_organ,J,_,U,z,l,fs,U,k,B _<|by decide,r,z,x,y,t,A,_,rk,_,g,b,o,u,v,d,c,U,a,ok.nm,ok.nk,ok.sh,ok.st,λM f=>?_⟩;refine⟨_,U,z,l,fs,U,f _ _ k,B _<|by decide,r,z,x,y,t,A,_,rk,_,g,b,o,u,v,d,c,U,a.mono f,ok.kl,λR s=>?_⟩;exact⟨x,G,sz,rk,j,g,_,_,U,(a.con.o.o).mono<|a.con.s.trans<|f.trans s,ok.kb,ok.lg,Wd.WN a.h.bound,(λi p=>ok.kc i<|(a.h.mem i).mp<|by rw[Wd.HX] at p;exact of_decide_eq_true p),λL m D F n I=>q _ D ((f.trans s).trans F) ⟨L,m,n,I,U⟩⟩
inductive DN where
 | hold(v u:V)
 | leave(v u:V)
 | con(d:Fl)
def DN.v:DN->List V
 |.hold v u=>[.str "hold",v,u]
 |.leave v u=>[.str "leave",v,u]
 |.con d=>d.v
def DN.odd(H:Hp):DN->Prop
 |.hold v u=>Cj H v/\Cj H u
 |.leave v u=>Cj H v/\Cj H u
 |.con d=>d.odd H
theorem DN.odd.mono(s:Am H H'){d:DN}(h:d.odd H):d.odd H':=by
 cases d with
 |hold v u=>exact⟨Cj.mono s h.1,Cj.mono s h.2⟩
 |leave v u=>exact⟨Cj.mono s h.1,Cj.mono s h.2⟩
 |con d=>exact Fl.odd.mono s h
inductive FQ(bs:List<|Str×Nat)(v u:V)(k:Nat):Prop
 | mk(j n:Nat)(b:Str×Nat):v=.str b.1->u=.int (n:Nat)->bs[j]? = some b->(bs.map (·.1)).idxOf b.1=j->n<b.2->k=((bs.take j).map (·.2)).sum+n->FQ bs v u k
structure Hl(C Cy Cp pE pA:Addr)(Ho H:Hp)(z x y hd:Addr)(us:List V)(bs:List<|Str×Nat)(rk:List<|Str×Nat×Int)(ks:List R)(ls:List<|List Ln)(sts:List Nat)(s:Cs)(sd:Addr)(kvs:List<|Key×V)(c:Nat->Nat)(n:Nat):Prop where
 p:V8 C Cy Cp Ho H z x y hd us bs rk ks ls sts s.dr s.sh sd kvs c
 f:gQ bs ks
 hs:Ho sd=none
 ny:sd≠y
 st:RK pE pA H sd s.m n
 zy:z≠y
 hh:hd≠sd
def Fp(H H':Hp)(y sd hd:Addr):Prop:=∀b o,H b=some o->b≠y->b≠sd->b≠hd->H' b=some o
section
variable{x:Addr}{bs:List (Str×Nat)}{rk:List (Str×Nat×Int)}{s s':Cs}{d0:List (Key×V)}{c':Nat->Nat}{n':Nat}
theorem Fp.of(h:Am H H'):Fp H H' y sd hd:=λb o e _ _ _=>h b o e
theorem Fp.trans{f:Hp}(h:Fp H H' y sd hd)(g:Fp H' f y sd hd):Fp H f y sd hd:=λb o e a d c=>g b o (h b o e a d c) a d c
theorem Hl.con(h:Hl C Cy Cp pE pA Ho H z x y hd us bs rk ks ls sts s sd kvs c n):Ek C Cy pE pA Ho H y x bs ks sts s.dr s.sh sd s.m n:=⟨⟨us,rk,ls,h.p.con⟩,h.f,h.hs,h.ny,h.st⟩
theorem Hl.mono(e:Am H H')(h:Hl C Cy Cp pE pA Ho H z x y hd us bs rk ks ls sts s sd kvs c n):Hl C Cy Cp pE pA Ho H' z x y hd us bs rk ks ls sts s sd kvs c n:=⟨h.p.mono e,h.f,h.hs,h.ny,h.st.mono e,h.zy,h.hh⟩
theorem Hl.le(e:n<=n')(h:Hl C Cy Cp pE pA Ho H z x y hd us bs rk ks ls sts s sd kvs c n):Hl C Cy Cp pE pA Ho H z x y hd us bs rk ks ls sts s sd kvs c n':=by
 obtain⟨q,d,b,a⟩:=h.st.ex;exact⟨h.p,h.f,h.hs,h.ny,⟨q,d,be b e,a⟩,h.zy,h.hh⟩
theorem Hl.o_(h:Hl C Cy Cp pE pA Ho H z x y hd us bs rk ks ls sts s sd kvs c n)(f:Fb H H' y sd)(k:Ek C Cy pE pA Ho H' y x bs ks sts s'.dr s'.sh sd s'.m n'):Hl C Cy Cp pE pA Ho H' z x y hd us bs rk ks ls sts s' sd kvs c n':=by
 obtain⟨o,l,r,b⟩:=k.o;obtain⟨j,i,a,g⟩:=h.p.Lw.ex;obtain⟨q,m,_⟩:=h.st.ex;obtain⟨u,fs,d,_⟩:=h.p.con.c.ex;have t:z≠sd:=λe=>by rw[e,m] at a;cases a
 have p:hd≠y:=λe=>by
  have:=h.p.d;rw[e,d] at this
  cases this
 exact⟨⟨⟨h.p.con.o,b.s,h.p.con.n,b.c⟩,⟨j,i,f _ _ a h.zy t,g⟩,h.p.n,f _ _ h.p.d p h.hh,h.p.h⟩,h.f,h.hs,h.ny,k.st,h.zy,h.hh⟩
theorem Hl.c7(h:Hl C Cy Cp pE pA Ho H z x y hd us bs rk ks ls sts s sd kvs c n)(g:Df d0 c'):Hl C Cy Cp pE pA Ho (upd H hd<|.dK d0) z x y hd us bs rk ks ls sts s sd d0 c' n:=by
 refine⟨h.p.put g,h.f,h.hs,h.ny,?_,h.zy,h.hh⟩;obtain⟨q,l,b,a,d⟩:=h.st.ex;refine⟨q,by rw[Aw (Ne.symm h.hh)];exact l,b,a,λp i m f=>?_⟩;obtain⟨o,j,k⟩:=d p i m f;refine⟨o,j,k.keep λ_ _ _ e=>?_⟩;rw[Aw λz=>by rw[z,h.p.d] at e;cases e];exact e
end
theorem fY{s:Cs}(h:s.sh<=n)(d:Fl):(act ns ks n s d).1.sh<=n:=by
 cases d with
 |pull v =>
  unfold act;try dsimp only
  split <;> exact h
 |push v =>
  unfold act;try dsimp only
  split <;> exact h
 |store v =>
  unfold act;try dsimp only
  split <;> exact h
 |storeB v b =>
  unfold act;try dsimp only
  split
  ·split <;> exact h
  ·exact h
 |press v =>
  unfold act;try dsimp only
  split <;> exact h
 |shoe v =>
  unfold act;try dsimp only
  split
  ·rename_i i c
   cases v with
   |int k =>
    have a:(if 0<=k/\k<=(n:Nat) then some k.toNat else none)=some i:=c;by_cases e:0<=k/\k<=(n:Nat)
    ·rw[if_pos e] at a;have:=Option.some.inj a;show i<=n;omega
    ·rw[if_neg e] at a
     cases a
   |_=>cases c
  ·exact h
 |cancel=>exact eJ _
def Tf(bs:List<|Str×Nat)(ks:List R)(n:Nat)(s:Cs)(c:Nat->Nat)(d:DN)(s':Cs)(c':Nat->Nat):Prop:=match d with
 |.hold v u=>s'=s/\∃k,FQ bs v u k/\c'=setC c k (c k+1)
 |.leave v u=>s'=s/\∃k,FQ bs v u k/\0<c k/\c'=setC c k (c k - 1)
 |.con d=>c'=c/\∃u,act (bs.map (·.1)) ks n s d=(s',.told u)
def Wz(cK cP cB cS cH cY:Addr)(bs:List<|Str×Nat)(ks:List R)(n:Nat)(s:Cs)(c:Nat->Nat)(d:DN)(a:Addr):Prop:=match d with
 |.hold v u=>(a=cB/\Gk (bs.map (·.1)) v=.non) \/ (a=cY/\∃(j:Nat)(b:Str × Nat),v=.str b.1/\bs[j]? = some b/\(bs.map (·.1)).idxOf b.1=j/\Z0 b.2 u=false)
 |.leave v u=>(a=cB/\Gk (bs.map (·.1)) v=.non) \/ (a=cY/\∃(j:Nat)(b:Str × Nat),v=.str b.1/\bs[j]? = some b/\(bs.map (·.1)).idxOf b.1=j/\Z0 b.2 u=false) \/ (a=cH/\∃k,FQ bs v u k/\c k=0)
 |.con d=>∃i,act (bs.map (·.1)) ks n s d=(s,.no i)/\a=clE cK cP cB cS i
inductive j8(K:W.Frag)(vs:List V)(H:Hp)(Q:VK)(b9:XK):Prop
 | mk(t:Addr)(d:DN):vs=[.ref t]->H t=some (.tup d.v)->(∀H',Am H H'->Q (.bl true) H')->j8 K vs H Q b9
theorem xV:Av vE vE<|Af z_:=Bg
include N T in
theorem oY:An P w K mg base Bb 1 aD.fId aD.dId vE<|j8 K:=by
 refine N.FId.1.Dg xV λH l Q E k h=>?_;obtain⟨t,d,rfl,a,q⟩:=h;refine⟨_,(Ae (Bh (PW.pt<|El (Ce<|Cq<|BK Cv U T.isin bt<|Aa (pv 0)<|Aa (Ea (v:=.ty "tuple") U T.tuple ii U) Ab)<|El (Ce<|Lx (pv 0)<|λ_=>rfl)<|EY<|Ce<|Cq<|BK Cv U T.isin bt<|Aa (Az (Ar (K:=K) U) (pv 0) Ac<|λ_ _=>rfl)<|Aa (Ea (v:=.ty "str") U T.str iE U) Ab) (Ag<|Ax FN) Ba)
  (Ag<|Ax<|Dd J_ (BK BW U T.len bo<|Aa (pv 0) Ab) (Xa (Cu (v:=.ref aQ) U T.mQ U) (Az (Ar (K:=K) U) (pv 0) Ac<|λ_ _=>rfl) (CK Ab) ⟨U,U,U,U⟩) U)),?_⟩
 cases d with
 |hold v u =>
  obtain⟨c,e,f⟩:=T.pc ("hold",[.int 3])<|.head _;refine⟨_,U,_,"tuple",_,_,U,.tup a,Hw,_,U,Bj ?_⟩;refine⟨_,U,_,.inr<|.inl ⟨_,ma a,U⟩,Bj ?_⟩;refine⟨_,U,t,_,_,_,U,U,ma a,Ah (j:=0) U,_,"str",_,_,U,.str _,Hh,_,U,Bj ?_⟩;refine⟨_,U,t,_,U,.inr<|ma a,aQ,U,T.dQ,_,U,t,_,_,_,U,U,ma a,Ah (j:=0) U,Bv<|eJ _,λi g=>?_⟩;exact⟨_,_,U,e,.ref c,U,λ_=>⟨c,_,U,.inr<|f.sq _,U,U,q _<|BL g⟩,λh=>by cases h⟩
 |leave v u =>
  obtain⟨c,e,f⟩:=T.pc ("leave",[.int 3])<|.tail _<|.head _;refine⟨_,U,_,"tuple",_,_,U,.tup a,Hw,_,U,Bj ?_⟩;refine⟨_,U,_,.inr<|.inl ⟨_,ma a,U⟩,Bj ?_⟩;refine⟨_,U,t,_,_,_,U,U,ma a,Ah (j:=0) U,_,"str",_,_,U,.str _,Hh,_,U,Bj ?_⟩;refine⟨_,U,t,_,U,.inr<|ma a,aQ,U,T.dQ,_,U,t,_,_,_,U,U,ma a,Ah (j:=0) U,Bv<|eJ _,λi g=>?_⟩;exact⟨_,_,U,e,.ref c,U,λ_=>⟨c,_,U,.inr<|f.sq _,U,U,q _<|BL g⟩,λh=>by cases h⟩
 |con d =>
  cases d with
  |pull v =>
   obtain⟨c,e,f⟩:=T.pc ("pull",[.int 2])<|.tail _<|.tail _<|.head _;refine⟨_,U,_,"tuple",_,_,U,.tup a,Hw,_,U,Bj ?_⟩;refine⟨_,U,_,.inr<|.inl ⟨_,ma a,U⟩,Bj ?_⟩;refine⟨_,U,t,_,_,_,U,U,ma a,Ah (j:=0) U,_,"str",_,_,U,.str _,Hh,_,U,Bj ?_⟩;refine⟨_,U,t,_,U,.inr<|ma a,aQ,U,T.dQ,_,U,t,_,_,_,U,U,ma a,Ah (j:=0) U,Bv<|eJ _,λi g=>?_⟩;exact⟨_,_,U,e,.ref c,U,λ_=>⟨c,_,U,.inr<|f.sq _,U,U,q _<|BL g⟩,λh=>by cases h⟩
  |push v =>
   obtain⟨c,e,f⟩:=T.pc ("push",[.int 2])<|.tail _<|.tail _<|.tail _<|.head _;refine⟨_,U,_,"tuple",_,_,U,.tup a,Hw,_,U,Bj ?_⟩;refine⟨_,U,_,.inr<|.inl ⟨_,ma a,U⟩,Bj ?_⟩;refine⟨_,U,t,_,_,_,U,U,ma a,Ah (j:=0) U,_,"str",_,_,U,.str _,Hh,_,U,Bj ?_⟩;refine⟨_,U,t,_,U,.inr<|ma a,aQ,U,T.dQ,_,U,t,_,_,_,U,U,ma a,Ah (j:=0) U,Bv<|eJ _,λi g=>?_⟩;exact⟨_,_,U,e,.ref c,U,λ_=>⟨c,_,U,.inr<|f.sq _,U,U,q _<|BL g⟩,λh=>by cases h⟩
  |store v =>
   obtain⟨c,e,f⟩:=T.pc ("store",[.int 2,.int 3])<|.tail _<|.tail _<|.tail _<|.tail _<|.head _;refine⟨_,U,_,"tuple",_,_,U,.tup a,Hw,_,U,Bj ?_⟩;refine⟨_,U,_,.inr<|.inl ⟨_,ma a,U⟩,Bj ?_⟩;refine⟨_,U,t,_,_,_,U,U,ma a,Ah (j:=0) U,_,"str",_,_,U,.str _,Hh,_,U,Bj ?_⟩;refine⟨_,U,t,_,U,.inr<|ma a,aQ,U,T.dQ,_,U,t,_,_,_,U,U,ma a,Ah (j:=0) U,Bv<|eJ _,λi g=>?_⟩;exact⟨_,_,U,e,.ref c,U,λ_=>⟨c,_,U,.inr<|f.sq _,U,U,q _<|BL g⟩,λh=>by cases h⟩
  |storeB v b =>
   obtain⟨c,e,f⟩:=T.pc ("store",[.int 2,.int 3])<|.tail _<|.tail _<|.tail _<|.tail _<|.head _;refine⟨_,U,_,"tuple",_,_,U,.tup a,Hw,_,U,Bj ?_⟩;refine⟨_,U,_,.inr<|.inl ⟨_,ma a,U⟩,Bj ?_⟩;refine⟨_,U,t,_,_,_,U,U,ma a,Ah (j:=0) U,_,"str",_,_,U,.str _,Hh,_,U,Bj ?_⟩;refine⟨_,U,t,_,U,.inr<|ma a,aQ,U,T.dQ,_,U,t,_,_,_,U,U,ma a,Ah (j:=0) U,Bv<|eJ _,λi g=>?_⟩;exact⟨_,_,U,e,.ref c,U,λ_=>⟨c,_,U,.inr<|f.sq _,U,U,q _<|BL g⟩,λh=>by cases h⟩
  |press v =>
   obtain⟨c,e,f⟩:=T.pc ("press",[.int 2])<|.tail _<|.tail _<|.tail _<|.tail _<|.tail _<|.head _;refine⟨_,U,_,"tuple",_,_,U,.tup a,Hw,_,U,Bj ?_⟩;refine⟨_,U,_,.inr<|.inl ⟨_,ma a,U⟩,Bj ?_⟩;refine⟨_,U,t,_,_,_,U,U,ma a,Ah (j:=0) U,_,"str",_,_,U,.str _,Hh,_,U,Bj ?_⟩;refine⟨_,U,t,_,U,.inr<|ma a,aQ,U,T.dQ,_,U,t,_,_,_,U,U,ma a,Ah (j:=0) U,Bv<|eJ _,λi g=>?_⟩;exact⟨_,_,U,e,.ref c,U,λ_=>⟨c,_,U,.inr<|f.sq _,U,U,q _<|BL g⟩,λh=>by cases h⟩
  |shoe v =>
   obtain⟨c,e,f⟩:=T.pc ("shoe",[.int 2])<|.tail _<|.tail _<|.tail _<|.tail _<|.tail _<|.tail _<|.tail _<|.head _;refine⟨_,U,_,"tuple",_,_,U,.tup a,Hw,_,U,Bj ?_⟩;refine⟨_,U,_,.inr<|.inl ⟨_,ma a,U⟩,Bj ?_⟩;refine⟨_,U,t,_,_,_,U,U,ma a,Ah (j:=0) U,_,"str",_,_,U,.str _,Hh,_,U,Bj ?_⟩;refine⟨_,U,t,_,U,.inr<|ma a,aQ,U,T.dQ,_,U,t,_,_,_,U,U,ma a,Ah (j:=0) U,Bv<|eJ _,λi g=>?_⟩;exact⟨_,_,U,e,.ref c,U,λ_=>⟨c,_,U,.inr<|f.sq _,U,U,q _<|BL g⟩,λh=>by cases h⟩
  |cancel =>
   obtain⟨c,e,f⟩:=T.pc ("cancel",[.int 1])<|.tail _<|.tail _<|.tail _<|.tail _<|.tail _<|.tail _<|.head _;refine⟨_,U,_,"tuple",_,_,U,.tup a,Hw,_,U,Bj ?_⟩;refine⟨_,U,_,.inr<|.inl ⟨_,ma a,U⟩,Bj ?_⟩;refine⟨_,U,t,_,_,_,U,U,ma a,Ah (j:=0) U,_,"str",_,_,U,.str _,Hh,_,U,Bj ?_⟩;refine⟨_,U,t,_,U,.inr<|ma a,aQ,U,T.dQ,_,U,t,_,_,_,U,U,ma a,Ah (j:=0) U,Bv<|eJ _,λi g=>?_⟩;exact⟨_,_,U,e,.ref c,U,λ_=>⟨c,_,U,.inr<|f.sq _,U,U,q _<|BL g⟩,λh=>by cases h⟩
inductive mJ(C Cy Cp pE pA cK cP cB cS cH cY:Addr)(vs:List V)(H:Hp)(Q:VK)(E:XK):Prop
 | mk(Ho:Hp)(z x y hd:Addr)(us:List V)(bs:List (Str×Nat))(rk:List (Str×Nat×Int))(ks:List R)(ls:List (List Ln:_))(sts:List Nat)(s:Cs)(sd:Addr)(kvs:List (Key×V))(c:Nat->Nat)(n:Nat)(t:Addr)(d:DN):vs=[.ref z,.ref t]->H t=some (.tup d.v)->d.odd H->Hl C Cy Cp pE pA Ho H z x y hd us bs rk ks ls sts s sd kvs c n->kvs.length<=900->n<900->(∀v u k,FQ bs v u k->k<1200)->(∀s' d0 c' H',Tf bs ks sts.length s c d s' c'->Fp H H' y sd hd->Hl C Cy Cp pE pA Ho H' z x y hd us bs rk ks ls sts s' sd d0 c' (n+1)->d0.length<=kvs.length+1->Q .non H')->(∀a H',Wz cK cP cB cS cH cY bs ks sts.length s c d a->Am H H'->E (.ref a) none H')->mJ C Cy Cp pE pA cK cP cB cS cH cY vs H Q E
theorem zr:Av xE xE<|Af wO:=Bg
include N T in
theorem t_:An P w K mg base (Gp P w) 8 aD.fQa aD.dQa xE<|mJ C Cy Cp pE pA cK cP cB cS cH cY:=by
 have ab:An P w K mg base (Gp P w) 5 aD.fKy aD.dKy z5<|jA C cB cY:=nJ N T
 have an:An P w K mg base (Gp P w) 1 aD.fQl aD.dQl wh<|gY C Cy Cp cH:=uc N T
 have ac:An P w K mg base (Gp P w) 7 aD.fDz aD.dDz yy<|aU C Cy pE pA cK cP cB cS:=uE N T
 refine N.FQa.1.Jx zr λH vs Q E X h=>?_;obtain⟨Ho,z,x,y,nc,us,bs,rk,ks,ls,G,s,sd,D,c,n,t,d,rfl,ht,hd,J,hl,EL,hk,q1,q0⟩:=h;have hu:=CG X;refine⟨_,(Ae (Bh (Ce<|Cq<|zC (oY N T) X U N.FId<|Aa (pv 1) Ab) (Ag Hr) Ba)
  (Ag<|Bh (BR CP (Az (Ar (K:=K) U) (pv 1) Ac<|λ_ _=>rfl) BP<|BX _) (Ag<|Bw<|Bp (pv 0) T.clP N.FQh.2.2 (sE N T) (ad X) N.FQh.2.1 .nil Ao<|Aa (Ak ab (ad X) U N.FKy.2.2 N.FKy.1.kp N.FKy.2.1 .nil Dm<|Aa (Bc (pv 0) U)<|Aa (Az (Ar (K:=K) U) (pv 1) Ac<|λ_ _=>rfl)<|Aa (Az (Ar (K:=K) U) (pv 1) Ac<|λ_ _=>rfl) Ab) Ab)<|Ag<|Bh (BR CP (Az (Ar (K:=K) U) (pv 1) Ac<|λ_ _=>rfl) BP<|BX _) (Ag<|Bw<|Bp (pv 0) T.clP N.FQl.2.2 an (ad X) N.FQl.2.1 .nil Dm<|Aa (Ak ab (ad X) U N.FKy.2.2 N.FKy.1.kp N.FKy.2.1 .nil Dm<|Aa (Bc (pv 0) U)<|Aa (Az (Ar (K:=K) U) (pv 1) Ac<|λ_ _=>rfl)<|Aa (Az (Ar (K:=K) U) (pv 1) Ac<|λ_ _=>rfl) Ab) Ab)<|Ag<|Bw<|Ak ac (ad X) U N.FDz.2.2 N.FDz.1.kp N.FDz.2.1 .nil Dm<|Aa (Bc (pv 0) U)<|Aa (Az (Ar (K:=K) U) (pv 1) Ac<|λ_ _=>rfl)<|Aa (Ep PJ (pv 1) (Ex Ac) Ge) Ab)),?_⟩
 obtain⟨I,fs,F,l1,S,l3,lm⟩:=id J.p.Lw.ex;have tj:=J.p.d;refine⟨_,U,t,d,U,ht,λH1 l=>⟨_,U,Bj ?_⟩⟩;have BY:=J.mono l;have a:=l _ _ ht
 cases d with
 |hold v u =>
  refine (wT a<|HN U ?_);refine⟨_,U,z,I,fs,U,l _ _ F,lm _<|by decide,_,U,z,Cp,I,fs,_,U,l _ _ F,T.clP,T.np_organ,l1,_,U,t,_,_,_,U,U,ma a,Ah (j:=1) U,_,U,t,_,_,_,U,U,ma a,Ah (j:=2) U,x,us,bs,rk,ks,ls,G,v,u,U,BY.p.con.o.mono BY.p.con.s,Cj.mono l hd.1,Cj.mono l hd.2,J.f.bn,λj m b B A Y eu O Z W=>?_,λB A r=>q0 cB B (.inl ⟨U,r⟩)<|l.trans A,λj b B A Y O Z r=>q0 cY B (.inr ⟨U,j,b,Y,O,Z,r⟩)<|l.trans A⟩;have L:FQ bs v u (((bs.take j).map (·.2)).sum+m):=⟨j,m,b,Y,eu,O,Z,W,U⟩;have R:=hk _ _ _ L;generalize ((bs.take j).map (·.2)).sum+m=k at L R |-;have p:=l.trans A;have M:=J.mono p;refine⟨Ho,z,x,y,nc,us,bs,rk,ks,ls,G,s.dr,s.sh,sd,D,c,k,U,M.p,hl,R,?_⟩;exact q1 s (putK D (kH k)<|.int ((c k+1:Nat):Int)) (setC c k<|c k+1) _ ⟨U,k,L,U⟩ ((Fp.of p).trans λb o e _ _ e3=>by rw[Aw e3];exact e) ((M.c7<|J.p.h.put (n:=c k+1) R).le<|by omega) QW
 |leave v u =>
  refine (wT a<|E_<|(wT a<|HN U ?_));refine⟨_,U,z,I,fs,U,l _ _ F,lm _<|by decide,_,U,z,Cp,I,fs,_,U,l _ _ F,T.clP,T.np_organ,l1,_,U,t,_,_,_,U,U,ma a,Ah (j:=1) U,_,U,t,_,_,_,U,U,ma a,Ah (j:=2) U,x,us,bs,rk,ks,ls,G,v,u,U,BY.p.con.o.mono BY.p.con.s,Cj.mono l hd.1,Cj.mono l hd.2,J.f.bn,λj m b B A Y eu O Z W=>?_,λB A r=>q0 cB B (.inl ⟨U,r⟩)<|l.trans A,λj b B A Y O Z r=>q0 cY B (.inr<|.inl ⟨U,j,b,Y,O,Z,r⟩)<|l.trans A⟩;have L:FQ bs v u (((bs.take j).map (·.2)).sum+m):=⟨j,m,b,Y,eu,O,Z,W,U⟩;have R:=hk _ _ _ L;generalize ((bs.take j).map (·.2)).sum+m=k at L R |-;have p:=l.trans A;have M:=J.mono p;refine⟨Ho,z,x,y,nc,us,bs,rk,ks,ls,G,s.dr,s.sh,sd,D,c,k,U,M.p,hl,R,λe0=>q0 cH B (.inr<|.inr ⟨U,k,L,e0⟩) p,λe0=>?_⟩;exact q1 s (putK D (kH k)<|.int ((c k - 1:Nat):Int)) (setC c k<|c k - 1) _ ⟨U,k,L,e0,U⟩ ((Fp.of p).trans λb o e _ _ e3=>by rw[Aw e3];exact e) ((M.c7<|J.p.h.put (n:=c k - 1) R).le<|by omega) QW
 |con d =>
  have fin:∀(xs:List V),xs=d.args->∀q,H1 q=none->aU C Cy pE pA cK cP cB cS [.ref y,.str d.wd,.ref q] (upd H1 q<|.tup xs) (λ_ B=>Q .non B) E:=λxs ex q g=>by
   subst ex;have A:=BL (o:=HO.tup d.args) g;have p:=l.trans A;have M:=J.mono p;refine⟨Ho,y,x,bs,ks,G,s,sd,n,q,d,U,M.con,EL,Aj,Fl.odd.mono p hd,λs' u H' ha f k=>?_,λi H' ha s3=>q0 _ H' ⟨i,ha,U⟩<|p.trans s3⟩;exact q1 s' D c H' ⟨U,u,ha⟩ ((Fp.of p).trans λb o e e1 e2 _=>f b o e e1 e2) (M.o_ f k)<|ke _
  cases d with
  |pull v =>
   refine (wT a<|E_<|(wT a<|E_  ?_));refine⟨_,U,z,Cp,I,fs,_,U,l _ _ F,T.clP,T.np_console,S,_,U,t,_,_,_,U,U,ma a,Ah (j:=0) U,_,U,_,U,t,_,U,ma a,(λe=>absurd e.1 (show ¬ HT.Ec 2 0 (some 1)=0 by decide)),λq g=>?_⟩;exact fin _ U q g
  |push v =>
   refine (wT a<|E_<|(wT a<|E_  ?_));refine⟨_,U,z,Cp,I,fs,_,U,l _ _ F,T.clP,T.np_console,S,_,U,t,_,_,_,U,U,ma a,Ah (j:=0) U,_,U,_,U,t,_,U,ma a,(λe=>absurd e.1 (show ¬ HT.Ec 2 0 (some 1)=0 by decide)),λq g=>?_⟩;exact fin _ U q g
  |store v =>
   refine (wT a<|E_<|(wT a<|E_  ?_));refine⟨_,U,z,Cp,I,fs,_,U,l _ _ F,T.clP,T.np_console,S,_,U,t,_,_,_,U,U,ma a,Ah (j:=0) U,_,U,_,U,t,_,U,ma a,(λe=>absurd e.1 (show ¬ HT.Ec 2 0 (some 1)=0 by decide)),λq g=>?_⟩;exact fin _ U q g
  |storeB v b =>
   refine (wT a<|E_<|(wT a<|E_  ?_));refine⟨_,U,z,Cp,I,fs,_,U,l _ _ F,T.clP,T.np_console,S,_,U,t,_,_,_,U,U,ma a,Ah (j:=0) U,_,U,_,U,t,_,U,ma a,(λe=>absurd e.1 (show ¬ HT.Ec 3 0 (some 1)=0 by decide)),λq g=>?_⟩;exact fin _ U q g
  |press v =>
   refine (wT a<|E_<|(wT a<|E_  ?_));refine⟨_,U,z,Cp,I,fs,_,U,l _ _ F,T.clP,T.np_console,S,_,U,t,_,_,_,U,U,ma a,Ah (j:=0) U,_,U,_,U,t,_,U,ma a,(λe=>absurd e.1 (show ¬ HT.Ec 2 0 (some 1)=0 by decide)),λq g=>?_⟩;exact fin _ U q g
  |shoe v =>
   refine (wT a<|E_<|(wT a<|E_  ?_));refine⟨_,U,z,Cp,I,fs,_,U,l _ _ F,T.clP,T.np_console,S,_,U,t,_,_,_,U,U,ma a,Ah (j:=0) U,_,U,_,U,t,_,U,ma a,(λe=>absurd e.1 (show ¬ HT.Ec 2 0 (some 1)=0 by decide)),λq g=>?_⟩;exact fin _ U q g
  |cancel =>
   refine (wT a<|E_<|(wT a<|E_  ?_));refine⟨_,U,z,Cp,I,fs,_,U,l _ _ F,T.clP,T.np_console,S,_,U,t,_,_,_,U,U,ma a,Ah (j:=0) U,_,U,_,U,t,_,U,ma a,(λe=>absurd e.1 (show ¬ HT.Ec 1 0 (some 1)=0 by decide)),λq g=>?_⟩;exact fin _ U q g
def Gw(a b:Nat):Nat:=a - (a &&& b)
theorem Tr(a b:Nat):Builtin.bitAnd ((a:Nat):Int) (Builtin.bitNot ((b:Nat):Int))=((Gw a b:Nat):Int):=by
 unfold Builtin.bitAnd Builtin.bitNot Gw;have c:decide (0<=((a:Nat):Int))=true:=decide_eq_true<|by omega
 have d:decide (0 <= -((b:Nat):Int) - 1)=false:=decide_eq_false<|by omega
 rw[c,d];show ((a:Nat):Int) - (((((a:Nat):Int).toNat &&& (-(-((b:Nat):Int) - 1) - 1).toNat:Nat)):Int)=_;have e:(-(-((b:Nat):Int) - 1) - 1).toNat=b:=by omega
 rw[e,aS];have:=@Nat.and_le_left a b;omega
theorem Ys(a b:Nat):Gw a b<=a:=Nat.sub_le _ _
structure Gz(C Cy Cp pE pA:Addr)(Ho H:Hp)(z x y hd:Addr)(us:List V)(rk:List<|Str×Nat×Int)(ls:List<|List Ln)(sts:List Nat)(s:Cs)(sd:Addr)(kvs:List<|Key×V)(c:Nat->Nat)(n:Nat)(cn:Nat->Str)(sz:List Nat)(kbs:List Kb):Prop where
 p:Hl C Cy Cp pE pA Ho H z x y hd us (Bd cn sz) rk (Bq cn kbs) ls sts s sd kvs c n
 o:fU cn sz rk kbs ls sts s.sh kvs c
 bd:∀D n p,DP cn sz rk kbs ls D n p->p<2 ^ 1200
 ky:∀v u k,FQ (Bd cn sz) v u k->k<sz.sum
 ks:sz.sum<1200
abbrev V9(s:Cs)(sts:List Nat):Nat:=s.dr ||| Q8 (sts.take s.sh)
section
variable{x:Addr}{rk:List (Str×Nat×Int)}{s s':Cs}{d0:List (Key×V)}{c':Nat->Nat}{n':Nat}{cn:Nat->Str}{sz:List Nat}
theorem Gz.mono(e:Am H H')(h:Gz C Cy Cp pE pA Ho H z x y hd us rk ls sts s sd kvs c n cn sz kbs):Gz C Cy Cp pE pA Ho H' z x y hd us rk ls sts s sd kvs c n cn sz kbs:=⟨h.p.mono e,h.o,h.bd,h.ky,h.ks⟩
theorem Gz.step(h:Gz C Cy Cp pE pA Ho H z x y hd us rk ls sts s sd kvs c n cn sz kbs){d:DN}(e:Tf (Bd cn sz) (Bq cn kbs) sts.length s c d s' c')(g:Hl C Cy Cp pE pA Ho H' z x y hd us (Bd cn sz) rk (Bq cn kbs) ls sts s' sd d0 c' n')(hl:d0.length<=500):Gz C Cy Cp pE pA Ho H' z x y hd us rk ls sts s' sd d0 c' n' cn sz kbs:=by
 have key:s'.sh<=sts.length/\∀k,0<c' k->k<sz.sum:=by
  cases d with
  |hold v u =>
   obtain⟨rfl,k,b,rfl⟩:=e;refine⟨h.o.sh,λi a=>?_⟩;by_cases z:i=k
   ·rw[z];exact h.ky _ _ _ b
   ·rw[show setC c k (c k+1) i=c i from if_neg z] at a;exact h.o.kc i a
  |leave v u =>
   obtain⟨rfl,k,b,j,rfl⟩:=e;refine⟨h.o.sh,λi a=>?_⟩;by_cases z:i=k
   ·rw[z];exact h.ky _ _ _ b
   ·rw[show setC c k (c k - 1) i=c i from if_neg z] at a;exact h.o.kc i a
  |con d =>
   obtain⟨rfl,u,f⟩:=e;have:=fY (ns:=(Bd cn sz).map (·.1)) (ks:=Bq cn kbs) h.o.sh d;rw[f] at this;exact⟨this,h.o.kc⟩
 exact⟨g,⟨h.o.kb,h.o.lg,h.o.nm,h.o.nk,key.1,h.o.st,key.2,hl⟩,h.bd,h.ky,h.ks⟩
end
inductive jc(C Cy Cp pE pA cK cP cB cS cH cY:Addr)(vs:List V)(H:Hp)(Q:VK)(E:XK):Prop
 | mk(Ho:Hp)(z x y hd:Addr)(us:List V)(rk:List (Str×Nat×Int))(ls:List (List Ln:_))(sts:List Nat)(s:Cs)(sd:Addr)(kvs:List (Key×V))(c:Nat->Nat)(n:Nat)(cn:Nat->Str)(sz:List Nat)(kbs:List Kb)(t:Addr)(d:DN):vs=[.ref z,.ref t]->H t=some (.tup d.v)->d.odd H->Gz C Cy Cp pE pA Ho H z x y hd us rk ls sts s sd kvs c n cn sz kbs->kvs.length<=400->n<900->(∀s' d0 c' (p1 p2:Nat) (Ta D1 D2:Addr) Hm H',Tf (Bd cn sz) (Bq cn kbs) sts.length s c d s' c'->Fp H Hm y sd hd->Gz C Cy Cp pE pA Ho Hm z x y hd us rk ls sts s' sd d0 c' (n+1) cn sz kbs->d0.length<=kvs.length+1->DP cn sz rk kbs ls (V9 s sts) (Wd.mk (DQ kvs)) p1->DP cn sz rk kbs ls (V9 s' sts) (Wd.mk (DQ d0)) p2->Am Hm H'->Hm Ta=none->Hm D1=none->Hm D2=none->D1≠D2->H' Ta=some (.tup [.ref D1,.ref D2])->H' D1=some (.lst (nV (Wd.mem (Gw p2 p1))))->H' D2=some (.lst (nV (Wd.mem (Gw p1 p2))))->Q (.ref Ta) H')->(∀a (p1:Nat) H',Wz cK cP cB cS cH cY (Bd cn sz) (Bq cn kbs) sts.length s c d a->DP cn sz rk kbs ls (V9 s sts) (Wd.mk (DQ kvs)) p1->Am H H'->E (.ref a) none H')->jc C Cy Cp pE pA cK cP cB cS cH cY vs H Q E
theorem gA:Av ["self","deed","ahead","behind"] xE (Af sQd):=Bg
include N T in
theorem qg:An P w K mg base (Gp P w) 9 aD.fQd aD.dQd xE<|jc C Cy Cp pE pA cK cP cB cS cH cY:=by
 have A:An P w K mg base (Gp P w) 8 aD.fQa aD.dQa xE<|mJ C Cy Cp pE pA cK cP cB cS cH cY:=t_ N T
 refine N.FQd.1.Jx gA λH vs Q E b h=>?_;obtain⟨O,z,x,y,S,X,rk,B,f,s,L,l,c,n,cn,sz,m,t,d,rfl,ht,hd,e,hl,EL,q1,q0⟩:=h;have hu:=CG b;refine⟨_,(Ae (Be (i:=2) gA.nd U (Or.inl U)<|Bm (pv 0) T.clP N.FQs.2.2 (Y8 N T) (ad b) N.FQs.2.1 .nil Ao)
  (Ae (Bw<|Bp (pv 0) T.clP N.FQa.2.2 A (ad b) N.FQa.2.1 .nil Dm<|Aa (pv 1) Ab)
  (Ae (Be (i:=3) gA.nd U (Or.inl U)<|Bm (pv 0) T.clP N.FQs.2.2 (Y8 N T) (ad b) N.FQs.2.1 .nil Ao)
  (Ag<|Ax<|CK<|Aa (zC (QV N T) b U N.FMe<|Aa (BZ JT (pv 3)<|Ja Ov<|pv 2) Ab)<|Aa (zC (QV N T) b U N.FMe<|Aa (BZ JT (pv 2)<|Ja Ov<|pv 3) Ab) Ab)))),?_⟩
 obtain⟨dz,fs,h1,l1,l2,l3,lm⟩:=id e.p.p.Lw.ex;refine⟨_,U,z,dz,fs,U,h1,lm _<|by decide,O,z,x,y,S,X,rk,B,f,s.dr,s.sh,L,l,c,cn,sz,m,U,e.p.p,e.o,λj H1 g F=>?_⟩;have BY:=e.mono g;refine⟨_,U,z,dz,fs,U,g _ _ h1,lm _<|by decide,_,U,O,z,x,y,S,X,_,rk,_,B,f,s,L,l,c,n,t,d,U,g _ _ ht,DN.odd.mono g hd,BY.p,by omega,EL,λv u k hk=>ko (e.ky v u k hk) e.ks,λI d0 c' M st f2 pp mi=>?_,λa M b s2=>q0 a j M b F<|g.trans s2⟩;have r:=BY.step st pp<|by omega
 have W:=(Fp.of g).trans f2;obtain⟨G,FF,Y,_,_,_,E8⟩:=id r.p.p.Lw.ex;refine⟨_,U,z,G,FF,U,Y,E8 _<|by decide,O,z,x,y,S,X,rk,B,f,I.dr,I.sh,L,d0,c',cn,sz,m,U,r.p.p,r.o,λq H4 R S2=>?_⟩;have b1:=e.bd _ _ _ F;have b2:=e.bd _ _ _ S2;refine⟨_,U,_,U,_,U,_,_,U,U,Gw q j,congrArg (λv:Int=>[V.int v])<|Tr q j,aT (Ys _ _) b2,λD1 H5 zk Z l5=>?_⟩;refine⟨_,U,_,U,_,U,_,_,U,U,Gw j q,congrArg (λv:Int=>[V.int v])<|Tr j q,aT (Ys _ _) b1,λD2 H6 on s6 l6=>?_⟩;refine⟨by show 2<=sizeLine;decide,λT7 MY=>?_⟩;have D:=BL (o:=HO.tup [.ref D1,.ref D2]) MY;have p:=(R.trans Z).trans s6;have J:=p.trans D;exact q1 I d0 c' j q T7 D1 D2 M _ st W r mi F S2 J (p.free MY) (R.free zk) ((R.trans Z).free on) (Ai l5 on) Aj (D _ _<|s6 _ _ l5)<|D _ _ l6
theorem MK{f:Nat->Str}{sz:List Nat}{rk:List (Str×Nat×Int)}{D p d:Nat}(h:DP f sz rk kbs ls D n p)(g:DP f sz rk kbs ls D n d):p=d:=by
 obtain⟨r,m,b,q,rfl⟩:=h;obtain⟨i,l,c,o,rfl⟩:=g;obtain rfl:m=l:=fe λj=>by rw[db,q,o]
 refine fe λj=>?_;rw[db,Ow,Ow];exact⟨λ⟨k,a,e⟩=>⟨k,(c k).mpr<|(b k).mp a,e⟩,λ⟨k,a,e⟩=>⟨k,(b k).mpr<|(c k).mp a,e⟩⟩
def GZ(bs:List<|Str×Nat)(ks:List R)(n:Nat)(c:Nat->Nat):DN->Prop
 |.hold v u=>∃k,FQ bs v u k
 |.leave v u=>∃k,FQ bs v u k/\0<c k
 |.con (.pull v)=>∃t,v=.str t/\t∈JC ks
 |.con (.push v)=>∃t,v=.str t/\t∈JC ks
 |.con (.store v)=>∃p:Nat,v=.int (p:Nat)/\p<10
 |.con (.storeB v b)=>(∃p:Nat,v=.int (p:Nat)/\p<10)/\(b=.non \/ ∃t,b=.str t/\t∈bs.map (·.1))
 |.con (.press v)=>∃p:Nat,v=.int (p:Nat)/\p<10
 |.con (.shoe v)=>∃i:Nat,v=.int (i:Nat)/\i<=n
 |.con .cancel=>True
theorem Yc(h:n<2 ^ 1200):(Wd.mem n).length<=1200:=by
 have:=Wd.Mx h;have:(Wd.mem n).length<=Wd.len n:=by unfold Wd.mem;exact Nat.le_trans (List.length_filter_le _ _)<|by simp
 omega
theorem Iu{a:Hp}(s:Am a H)(n:a p=none)(h:Gq H H' p):Am a H':=λb o e=>h.sx b o (s b o e)<|Ai e n
abbrev yu:List V:=[.str "hold",.str "hold",.str "hold",.str "hold",.str "leave",.str "leave",.str "leave",.str "pull",.str "pull",.str "pull",.str "push",.str "shoe",.str "store"]
abbrev W3:List V:=[.str "press",.str "press",.str "cancel"]
theorem w16{r:Nat}(h:r<16):∃t:Str,Ve (yu++W3) ((r:Nat):Int)=some (.str t)/\(t = "hold" \/ t = "leave" \/ t = "pull" \/ t = "push" \/ t = "shoe" \/ t = "store" \/ t = "press" \/ t = "cancel"):=by
 obtain rfl | rfl | rfl | rfl | rfl | rfl | rfl | rfl | rfl | rfl | rfl | rfl | rfl | rfl | rfl | rfl:r=0 \/ r=1 \/ r=2 \/ r=3 \/ r=4 \/ r=5 \/ r=6 \/ r=7 \/ r=8 \/ r=9 \/ r=10 \/ r=11 \/ r=12 \/ r=13 \/ r=14 \/ r=15:=by omega
 ·exact⟨_,Ah (j:=0) U,.inl U⟩
 ·exact⟨_,Ah (j:=1) U,.inl U⟩
 ·exact⟨_,Ah (j:=2) U,.inl U⟩
 ·exact⟨_,Ah (j:=3) U,.inl U⟩
 ·exact⟨_,Ah (j:=4) U,.inr<|.inl U⟩
 ·exact⟨_,Ah (j:=5) U,.inr<|.inl U⟩
 ·exact⟨_,Ah (j:=6) U,.inr<|.inl U⟩
 ·exact⟨_,Ah (j:=7) U,.inr<|.inr<|.inl U⟩
 ·exact⟨_,Ah (j:=8) U,.inr<|.inr<|.inl U⟩
 ·exact⟨_,Ah (j:=9) U,.inr<|.inr<|.inl U⟩
 ·exact⟨_,Ah (j:=10) U,.inr<|.inr<|.inr<|.inl U⟩
 ·exact⟨_,Ah (j:=11) U,.inr<|.inr<|.inr<|.inr<|.inl U⟩
 ·exact⟨_,Ah (j:=12) U,.inr<|.inr<|.inr<|.inr<|.inr<|.inl U⟩
 ·exact⟨_,Ah (j:=13) U,.inr<|.inr<|.inr<|.inr<|.inr<|.inr<|.inl U⟩
 ·exact⟨_,Ah (j:=14) U,.inr<|.inr<|.inr<|.inr<|.inr<|.inr<|.inl U⟩
 ·exact⟨_,Ah (j:=15) U,.inr<|.inr<|.inr<|.inr<|.inr<|.inr<|.inr U⟩
structure DeC(C Cy Cp pE pA:Addr)(H0 H:Hp)(p KL:Addr)(Ho:Hp)(z x y hd:Addr)(us:List V)(rk:List<|Str×Nat×Int)(ls:List<|List Ln)(sts:List Nat)(s:Cs)(sd:Addr)(kvs:List<|Key×V)(c:Nat->Nat)(n:Nat)(cn:Nat->Str)(sz:List Nat)(kbs:List Kb):Prop where
 pl:Gz C Cy Cp pE pA Ho H0 z x y hd us rk ls sts s sd kvs c n cn sz kbs
 kl:H0 KL=some (.lst<|(JC<|Bq cn kbs).map V.str)
 sm:Am H0 H
 np:H0 p=none
 sr:SrcAt H p
 z1:∀k∈sz,1<=k
 l1:1<=sz.length
 nd:((Bd cn sz).map (·.1)).Nodup
theorem mU(a:ns.Nodup)(h:ns[j]? = some t):ns.idxOf t=j:=by
 have b:=ah h;have hl:=(ag.mp h).1;exact ((List.getElem?_inj hl a).mp<|h.trans (Jt b).symm).symm
theorem GP{bs:List (Str×Nat)}(c:(bs.map (·.1)).Nodup){b:Str×Nat}(a:bs[j]? = some b)(d:n<b.2):FQ bs (.str b.1) (.int (n:Nat)) (((bs.take j).map (·.2)).sum+n):=⟨j,n,b,U,U,a,mU c<|by rw[am,a];rfl,d,U⟩
inductive gW(C Cy Cp pE pA:Addr)(vs:List V)(H:Hp)(Q:VK)(b9:XK):Prop
 | mk(H0:Hp)(p KL:Addr)(Ho:Hp)(z x y hd:Addr)(us:List V)(rk:List (Str×Nat×Int))(ls:List (List Ln:_))(sts:List Nat)(s:Cs)(sd:Addr)(kvs:List (Key×V))(c:Nat->Nat)(n:Nat)(cn:Nat->Str)(sz:List Nat)(kbs:List Kb):vs=[.ref p,.ref x,.ref z,.ref KL]->DeC C Cy Cp pE pA H0 H p KL Ho z x y hd us rk ls sts s sd kvs c n cn sz kbs->(∀(Ta:Addr) (d:DN) H',H0 Ta=none->Am H0 H'->H' Ta=some (.tup d.v)->(∀H2,d.odd H2)->GZ (Bd cn sz) (Bq cn kbs) sts.length c d->Q (.ref Ta) H')->gW C Cy Cp pE pA vs H Q b9
theorem Pr:Av ["_law_source_here","_law_organ","_law_player","_law_knobs","_law_boards","_law_word","_law_board","_law_held","_law_at","_law_number"] wp (Af wU):=Bg
include N T in
theorem oO:An P w K mg base Bb 6 aD.fDe aD.dDe wp<|gW C Cy Cp pE pA:=by
 refine N.FDe.1.Dg Pr λH vs Q E I h=>?_;obtain⟨H0,p,KL,Ho,z,x,y,nc,us,rk,ls,Y,s,sd,G,c,n,B,sz,A,rfl,D,q⟩:=h;have hu:=CG I;refine⟨_,(@Ae _ _ _ _ _ (@Bo _ _ _ _ _ _ 4 Pr.nd U (Or.inl U) (Bm (pv 1) T.cl N.FOb.2.2 (Qy N T) (ad I) N.FOb.2.1 .nil Ao) (by kernel_rfl)<|.inl U)
  (@Ae _ _ _ _ _ (@Bo _ _ _ _ _ _ 5 Pr.nd U (Or.inl U) (@DK _ _ _ _<|@Ay _ _ _ _ _ U BP<|@Ay _ _ _ _ _ U BP<|@Ay _ _ _ _ _ U BP<|@Ay _ _ _ _ _ U BP<|@Ay _ _ _ _ _ U BP<|@Ay _ _ _ _ _ U BP<|@Ay _ _ _ _ _ U BP<|@Ay _ _ _ _ _ U BP<|@Ay _ _ _ _ _ U BP<|@Ay _ _ _ _ _ U BP<|@Ay _ _ _ _ _ U BP<|@Ay _ _ _ _ _ U BP<|@Ay _ _ _ _ _ U BP Ab) (by kernel_rfl)<|.inl U)
  (@Ae _ _ _ _ _ (@Bo _ _ _ _ _ _ 5 Pr.nd U (Or.inl U) (@Az _ _ _ _ _ _ _ (Bk (K:=K) U) (BZ O6 (pv 5)<|@DK _ _ _ _<|@Ay _ _ _ _ _ U BP<|@Ay _ _ _ _ _ U BP<|@Ay _ _ _ _ _ U BP Ab) (zC (Wr N T) I U N.FDw<|@Ay _ _ _ _ _ U (pv 0)<|@Ay _ _ _ _ _ U Ac Ab)<|λ_ _=>rfl) (by kernel_rfl)<|.inl U)
  (@Ae _ _ _ _ _ (@Bo _ _ _ _ _ _ 6 Pr.nd U (Or.inl U) (@Az _ _ _ _ _ _ _ (Bk (K:=K) U) (pv 4) (zC (Wr N T) I U N.FDw<|@Ay _ _ _ _ _ U (pv 0)<|@Ay _ _ _ _ _ U (BK BW U T.len bo<|@Ay _ _ _ _ _ U (pv 4) Ab) Ab)<|λ_ _=>rfl) (by kernel_rfl)<|.inl U)
  (@Ae _ _ _ _ _ (@Bh _ _ _ _ _ _ _ _ (BR CP (pv 5) BP<|BX _) (@Ag _ _ _<|@Ax _ _ _ _<|@CK _ _ _ _ _<|@Ay _ _ _ _ _ U BP<|@Ay _ _ _ _ _ U (@Az _ _ _ _ _ _ _ (Ar (K:=K) U) (pv 6) Ac<|λ_ _=>rfl)<|@Ay _ _ _ _ _ U (zC (Wr N T) I U N.FDw<|@Ay _ _ _ _ _ U (pv 0)<|@Ay _ _ _ _ _ U (@Az _ _ _ _ _ _ _ (Ar (K:=K) U) (pv 6) Ac<|λ_ _=>rfl) Ab) Ab) Ba)
  (@Ae _ _ _ _ _ (@Bh _ _ _ _ _ _ _ _ (BR CP (pv 5) BP<|BX _) (@Ae _ _ _ _ _ (@Bo _ _ _ _ _ _ 7 Pr.nd U (Or.inl U) (zC (QV N T) I U N.FMe<|@Ay _ _ _ _ _ U (Bm (pv 2) T.clP N.FQe.2.2 (XM N T) (ad I) N.FQe.2.1 .nil Ao) Ab) (by kernel_rfl)<|.inl U)
  (@Ae _ _ _ _ _ (@Bh _ _ _ _ _ _ _ _ (BR (VH<|kT hu) (pv 7) (@DK _ _ _ _ Ab)<|BX _) (@Ag _ _ _<|@Ax _ _ _ _<|@CK _ _ _ _ _<|@Ay _ _ _ _ _ U BP<|@Ay _ _ _ _ _ U (@Az _ _ _ _ _ _ _ (Ar (K:=K) U) (pv 6) Ac<|λ_ _=>rfl)<|@Ay _ _ _ _ _ U (zC (Wr N T) I U N.FDw<|@Ay _ _ _ _ _ U (pv 0)<|@Ay _ _ _ _ _ U (@Az _ _ _ _ _ _ _ (Ar (K:=K) U) (pv 6) Ac<|λ_ _=>rfl) Ab) Ab) Ba)
  (@Ae _ _ _ _ _ (Om (Bp (pv 1) T.cl N.FOo.2.2 (Tg N T) (ad I) N.FOo.2.1 .nil Ao<|@Ay _ _ _ _ _ U (@Az _ _ _ _ _ _ _ (Bk (K:=K) U) (pv 7) (zC (Wr N T) I U N.FDw<|@Ay _ _ _ _ _ U (pv 0)<|@Ay _ _ _ _ _ U (BK BW U T.len bo<|@Ay _ _ _ _ _ U (pv 7) Ab) Ab)<|λ_ _=>rfl) Ab)<|JN U<|DY (Bt (i:=8) Pr.nd U<|Or.inl U)<|DY (Bt (i:=9) Pr.nd U<|Or.inl U) HF)
  (@Ag _ _ _<|@Ax _ _ _ _<|@CK _ _ _ _ _<|@Ay _ _ _ _ _ U BP<|@Ay _ _ _ _ _ U (@Az _ _ _ _ _ _ _ (Ar (K:=K) U) (@Az _ _ _ _ _ _ _ (Bk (K:=K) U) (pv 4) (pv 8)<|λ_ _=>rfl) Ac<|λ_ _=>rfl)<|@Ay _ _ _ _ _ U (pv 9) Ab)))) Ba)
  (@Ae _ _ _ _ _ (@Bh _ _ _ _ _ _ _ _ (PW.pt<|Oo (PW.pt<|El (BR CP (pv 5) BP<|BX _)<|EY<|BR CP (pv 5) BP<|BX _)<|K5<|BR (Yo<|kT hu) (pv 3) (@DK _ _ _ _ Ab)<|BX _) (@Ag _ _ _<|@Ax _ _ _ _<|@CK _ _ _ _ _<|@Ay _ _ _ _ _ U (pv 5)<|@Ay _ _ _ _ _ U (@Az _ _ _ _ _ _ _ (Bk (K:=K) U) (pv 3) (zC (Wr N T) I U N.FDw<|@Ay _ _ _ _ _ U (pv 0)<|@Ay _ _ _ _ _ U (BK BW U T.len bo<|@Ay _ _ _ _ _ U (pv 3) Ab) Ab)<|λ_ _=>rfl) Ab) Ba)
  (@Ae _ _ _ _ _ (@Bh _ _ _ _ _ _ _ _ (BR CP (pv 5) BP<|BX _) (@Ag _ _ _<|@Ax _ _ _ _<|@CK _ _ _ _ _<|@Ay _ _ _ _ _ U BP<|@Ay _ _ _ _ _ U (zC (Wr N T) I U N.FDw<|@Ay _ _ _ _ _ U (pv 0)<|@Ay _ _ _ _ _ U (BZ CQ Ac<|BK BW U T.len bo<|@Ay _ _ _ _ _ U (Bm (pv 1) T.cl N.FOy.2.2 (YC N T) (ad I) N.FOy.2.1 .nil Ao) Ab) Ab) Ab) Ba)
  (@Ae _ _ _ _ _ (@Bh _ _ _ _ _ _ _ _ (PW.pt<|Oo (BR CP (pv 5) BP<|BX _)<|K5<|BR QR (zC (Wr N T) I U N.FDw<|@Ay _ _ _ _ _ U (pv 0)<|@Ay _ _ _ _ _ U Ac Ab) Ac<|BX _) (@Ag _ _ _<|@Ax _ _ _ _<|@CK _ _ _ _ _<|@Ay _ _ _ _ _ U BP<|@Ay _ _ _ _ _ U (zC (Wr N T) I U N.FDw<|@Ay _ _ _ _ _ U (pv 0)<|@Ay _ _ _ _ _ U Ac Ab)<|@Ay _ _ _ _ _ U (@Az _ _ _ _ _ _ _ (Bk (K:=K) U) (@DK _ _ _ _<|@Ay _ _ _ _ _ U (@Az _ _ _ _ _ _ _ (Ar (K:=K) U) (pv 6) Ac<|λ_ _=>rfl)<|@Ay _ _ _ _ _ U GC Ab) (BZ GF (zC (Wr N T) I U N.FDw<|@Ay _ _ _ _ _ U (pv 0)<|@Ay _ _ _ _ _ U Ac Ab) Ac)<|λ_ _=>rfl) Ab) Ba)
  (@Ae _ _ _ _ _ (@Bh _ _ _ _ _ _ _ _ (PW.pt<|El (BR CP (pv 5) BP<|BX _)<|EY<|BR CP (pv 5) BP<|BX _) (@Ag _ _ _<|@Ax _ _ _ _<|@CK _ _ _ _ _<|@Ay _ _ _ _ _ U (pv 5)<|@Ay _ _ _ _ _ U (zC (Wr N T) I U N.FDw<|@Ay _ _ _ _ _ U (pv 0)<|@Ay _ _ _ _ _ U Ac Ab) Ab) Ba)
  (@Ag _ _ _<|@Ax _ _ _ _<|@CK _ _ _ _ _<|@Ay _ _ _ _ _ U BP Ab))))))))))),?_⟩
 have R:=D.pl;have TK:=R.p.p.con.o.mono R.p.p.con.s;have OX:=TK.mono D.sm;have FH:=R.p.f.bn;have mh:=Fj OX.o.o;obtain⟨⟨⟨dx,fs,_,_,_,_,_,_,_,_,hx,_,_,_,_,lm,_⟩,sP,rV,tf⟩,_⟩:=id OX.o;have bR:=D.l1;have fin:∀(d:DN)(Hn:Hp),Gq H Hn p->(∀L,d.odd L)->GZ (Bd B sz) (Bq B A) Y.length c d->∀t,Hn t=none->Q (.ref t) (upd Hn t<|.tup d.v):=λd Hn sn ho hl t u =>
  q t d _ ((Iu D.sm D.np sn).free u) ((Iu D.sm D.np sn).trans<|BL u) Aj ho hl
 have a1:Gq H H p:=Gq.refl D.sr;refine⟨_,U,x,dx,fs,U,hx,lm _<|by decide,x,_,_,U,OX.o.o,λDB i6 H1 RS s1 a8 qo=>?_⟩;have vx:=a1.same s1;refine⟨by show 13<=sizeLine;decide,λP1 Fa=>?_⟩;obtain⟨L,O,s2,e2⟩:=Du (o:=HO.lst yu) Fa;rw[O];have yY:=vx.same s2;refine⟨_,U,by show 3<=sizeLine;decide,λP2 aC=>?_⟩;obtain⟨H3,O,s3,e3⟩:=Du (o:=HO.lst W3) aC;rw[O];have yk:=yY.same s3;refine⟨P1,P2,_,_,U,U,s3 _ _ e2,e3,by show 16<=sizeLine;decide,λP3 QI=>?_⟩;obtain⟨H4,O,s4,e4⟩:=Du (o:=HO.lst<|yu++W3) QI;rw[O];have AB:=yk.same s4;have n3:P3≠p:=yk.ne QI;refine⟨_,U,p,16,U,AB.sr,by decide,by decide,λr H5 bv f5 EZ=>?_⟩;have t4:=AB.draw f5 EZ;obtain⟨wd,Me,hw⟩:=w16 (r:=r)<|by omega
 refine⟨P3,_,_,_,U,U,ma<|by rw[f5 P3 n3];exact e4,Me,?_⟩;have X:Gq H1 H5 p:=((((Gq.refl vx.sr).same s2).same s3).same s4).draw f5 EZ;have aw:DB≠p:=a1.ne RS;have sw:=X.sx _ _ a8 aw;have as:Paired (λb y=>TupAt H5 (bV b) y) (Bd B sz) i6:=X.Nx (f:=bV) vx.sr qo;have bB:=as.length;rw[Mi] at bB;have bP:(Bd B sz).length=sz.length:=Mi ..;have l5:sz.length<=5:=by omega
 clear X e4 e3 e2 s2 s3 s4 Fa aC QI f5 EZ AB yk yY n3 Me bv;refine⟨_,U,_,U,_,U,DB,_,U,ma<|.inl sw,p,_,U,t4.sr,(by show (0:Int)<((i6.length:Nat):Int);omega),(by show ((i6.length:Nat):Int)<1073741824;omega),λj H6 AG f6 A5=>?_⟩;have F:=t4.draw f6 A5;have ac:Gq H5 H6 p:=(Gq.refl t4.sr).draw f6 A5;have EG:=ac.sx _ _ sw aw;have aP:Paired (λb y=>TupAt H6 (bV b) y) (Bd B sz) i6:=ac.Nx (f:=bV) t4.sr as;obtain⟨b,hb⟩:∃b,(Bd B sz)[j]? = some b:=⟨_,ae<|by omega⟩;obtain⟨yb,F',Tb,rfl,tJ⟩:=B_ aP hb;have bL:1<=b.2/\b.2<=305:=by
  have hm:b.2∈(Bd B sz).map (·.2):=aE<|ah hb
  have a9:=rV b<|ah hb
  rw[Cz] at hm;exact⟨D.z1 _ hm,by omega⟩
 refine⟨DB,_,_,_,U,U,ma EG,Ah F',?_⟩;clear ac f6 A5 t4 sw as AG;have NH:=Iu D.sm D.np F;rcases hw with rfl | rfl | rfl | rfl | rfl | rfl | rfl | rfl
 ·refine⟨_,U,U,_,U,HN U ?_⟩;refine⟨_,U,Tb,_,_,_,U,U,ma tJ,Ah (j:=0) U,_,U,_,U,Tb,_,_,_,U,U,ma tJ,Ah (j:=1) U,p,_,U,F.sr,(by show (0:Int)<((b.2:Nat):Int);omega),(by show ((b.2:Nat):Int)<1073741824;omega),λm Hn hm fn OV=>⟨by show 3<=sizeLine;decide,λt u=>?_⟩⟩;exact fin (.hold (.str b.1)<|.int (m:Nat)) Hn (F.draw fn OV) (λL=>⟨.str (FH _<|aE<|ah hb).tx,.int _⟩) ⟨_,GP D.nd hb<|by omega⟩ t u
 ·refine⟨_,U,U,_,U,E_ ⟨_,U,U,_,U,HN U ?_⟩⟩;have YV:=R.mono NH;obtain⟨dz,gs,hz,_,_,_,a6⟩:=id YV.p.p.Lw.ex;refine⟨_,U,z,dz,gs,U,hz,a6 _<|by decide,Ho,z,x,y,nc,us,_,rk,_,ls,Y,s.dr,s.sh,sd,G,c,U,YV.p.p,R.o.kl,λH7 s7=>?_⟩;refine⟨_,U,Wd.WN R.p.p.h.bound,λL8 H8 aM s8 xp=>?_⟩;have xw:=(F.same s7).same s8;have Z:=s8 _ _<|s7 _ _ tJ
  refine⟨_,U,Bv (by simp),λP9 AE=>?_⟩;obtain⟨H9,O,S,e9⟩:=Du (o:=HO.lst []) AE;rw[O];have J:=xw.same S;have zv:=S _ _ xp;refine⟨L8,P9,_,U,U,ma zv,ma e9,_,U,Cw (λg=>?_)<|λg=>?_⟩
  ·have LN:=S _ _ Z;refine⟨_,U,Tb,_,_,_,U,U,ma LN,Ah (j:=0) U,_,U,_,U,Tb,_,_,_,U,U,ma LN,Ah (j:=1) U,p,_,U,J.sr,(by show (0:Int)<((b.2:Nat):Int);omega),(by show ((b.2:Nat):Int)<1073741824;omega),λm Hn hm fn OV=>⟨by show 3<=sizeLine;decide,λt u=>?_⟩⟩;exact fin (.hold (.str b.1)<|.int (m:Nat)) Hn (J.draw fn OV) (λL=>⟨.str (FH _<|aE<|ah hb).tx,.int _⟩) ⟨_,GP D.nd hb<|by omega⟩ t u
  have a0:1<=(Wd.mem<|Wd.mk<|DQ G).length:=by
   cases e:Wd.mem (Wd.mk (DQ G)) with
   |nil=>rw[e] at g;exact absurd U g
   |cons a l=>simp
  have a9:=Yc<|Wd.WN R.p.p.h.bound
  have aG:(nV<|Wd.mem<|Wd.mk<|DQ G).length=(Wd.mem<|Wd.mk<|DQ G).length:=af ..;refine⟨_,U,x,dx,fs,U,J.sx _ _ hx (λe=>by rw[e] at hx;obtain⟨l',oC⟩:=D.sr.some;rw[oC] at hx;cases hx),lm _ (by decide),_,rfl,_,rfl,_,rfl,L8,_,rfl,ma (.inl zv),p,_,rfl,J.sr,(by rw[aG];omega),by rw[aG];omega,λr2 M sB W mI=>?_⟩;have qA:=J.draw W mI;have a4:L8≠p:=(F.same s7).ne aM;have aQ:M L8=some (.lst<|nV<|Wd.mem<|Wd.mk<|DQ G):=by rw[W L8 a4];exact zv
  rw[aG] at sB;obtain⟨k,hk⟩:∃k,(Wd.mem (Wd.mk (DQ G)))[r2]? = some k:=⟨_,ae<|by omega⟩;have bd:k∈DQ G:=by
   have:=Wd.mem_iff.mp<|ah hk
   rw[Wd.HX] at this;exact of_decide_eq_true this
  have E5:=(R.p.p.h.mem k).mp bd;have a2:=R.o.kc k E5;have a5:k<(Ew<|Bd B sz).length:=by rw[Eh,Cz];exact a2
  obtain⟨⟨a,m⟩,yT⟩:∃qd,(Ew (Bd B sz))[k]? = some qd:=⟨_,ae a5⟩;obtain⟨b2,an,w9,ek⟩:=K4 yT;have SW:=Iu D.sm D.np qA;refine⟨L8,_,_,_,U,U,ma aQ,Ah (by unfold nV;rw[List.getElem?_map,hk];rfl),x,_,_,k,(a,m),U,(TK.mono SW).o.o,yT,λyq Sj=>?_⟩;obtain⟨Tq,rfl,OR⟩:=Sj;refine⟨Tq,_,U,ma OR,U,_,_,U,_,_,U,U,?_⟩;have ab:Gq H6 M p:=((((Gq.refl F.sr).same s7).same s8).same S).draw W mI;have K0:=ab.sx _ _ EG aw;have aK:Paired (λb y=>TupAt M (bV b) y) (Bd B sz) i6:=ab.Nx (f:=bV) F.sr aP;obtain⟨bS,SG,bm,rfl,Po⟩:=B_ aK an;refine⟨_,U,_,U,DB,_,_,_,U,U,ma K0,Ah SG,bm,_,_,_,U,U,ma Po,Ah (j:=0) U,_,U,by show 3<=sizeLine;decide,λt u=>?_⟩;refine fin (.leave (.str b2.1)<|.int (m:Nat)) M qA (λL=>⟨.str (FH _<|aE<|ah an).tx,.int _⟩) ⟨_,GP D.nd an w9,?_⟩ t u;rw[ib,<-ek];exact E5
 ·have RU:=NH _ _ D.kl;refine⟨_,U,U,_,U,E_ ⟨_,U,U,_,U,E_ ⟨_,U,U,_,U,HN U<|Dj ⟨_,U,Bv (by simp),λP9 AE=>?_⟩⟩⟩⟩;obtain⟨H9,O,S,e9⟩:=Du (o:=HO.lst []) AE;rw[O];have J:=F.same S;have KU:=S _ _ RU;have lK:((JC<|Bq B A).map V.str).length=(Bq B A).length:=by rw[af,af]
  refine⟨KL,P9,_,U,U,ma KU,ma e9,_,U,Cw (λg=>?_)<|λg=>?_⟩
  ·have a0:1<=((JC<|Bq B A).map V.str).length:=by
    cases e:(JC (Bq B A)).map V.str with
    |nil=>rw[e] at g;cases g
    |cons a l=>simp
   refine⟨_,U,_,U,_,U,_,U,KL,_,U,ma<|.inl KU,p,_,U,J.sr,by omega,by omega,λr2 M sB W mI=>?_⟩;have qA:=J.draw W mI;have Cc:=(Iu D.sm D.np qA) _ _ D.kl;obtain⟨tk,hk⟩:∃tk,(JC (Bq B A))[r2]? = some tk:=⟨_,ae<|by rw[af];omega⟩;refine⟨KL,_,_,_,U,U,ma Cc,Ah<|by rw[List.getElem?_map,hk];rfl,by show 2<=sizeLine;decide,λt u=>?_⟩;exact fin (.con<|.pull<|.str tk) M qA (λL=>.str (R.p.f.kn _<|ah hk).tx) ⟨tk,U,ah hk⟩ t u
  ·refine⟨_,U,U,_,U,E_ ⟨_,U,U,_,U,E_<|Bj<|⟨_,U,U,_,U,E_ ⟨_,U,U,_,U,E_ ⟨by show 1<=sizeLine;decide,λt u=>?_⟩⟩⟩⟩⟩;exact fin (.con .cancel) H9 J (λL=>trivial) trivial t u
 ·have RU:=NH _ _ D.kl;refine⟨_,U,U,_,U,E_ ⟨_,U,U,_,U,E_ ⟨_,U,U,_,U,E_ ⟨_,U,U,_,U,HN U ⟨_,U,Bv (by simp),λP9 AE=>?_⟩⟩⟩⟩⟩;obtain⟨H9,O,S,e9⟩:=Du (o:=HO.lst []) AE;rw[O];have J:=F.same S;have KU:=S _ _ RU;have lK:((JC<|Bq B A).map V.str).length=(Bq B A).length:=by rw[af,af]
  refine⟨KL,P9,_,U,U,ma KU,ma e9,_,U,Cw (λg=>?_)<|λg=>?_⟩
  ·have a0:1<=((JC<|Bq B A).map V.str).length:=by
    cases e:(JC (Bq B A)).map V.str with
    |nil=>rw[e] at g;cases g
    |cons a l=>simp
   refine⟨_,U,_,U,_,U,_,U,KL,_,U,ma<|.inl KU,p,_,U,J.sr,by omega,by omega,λr2 M sB W mI=>?_⟩;have qA:=J.draw W mI;have Cc:=(Iu D.sm D.np qA) _ _ D.kl;obtain⟨tk,hk⟩:∃tk,(JC (Bq B A))[r2]? = some tk:=⟨_,ae<|by rw[af];omega⟩;refine⟨KL,_,_,_,U,U,ma Cc,Ah<|by rw[List.getElem?_map,hk];rfl,by show 2<=sizeLine;decide,λt u=>?_⟩;exact fin (.con<|.push<|.str tk) M qA (λL=>.str (R.p.f.kn _<|ah hk).tx) ⟨tk,U,ah hk⟩ t u
  ·refine⟨_,U,U,_,U,E_ ⟨_,U,U,_,U,E_<|Bj<|⟨_,U,U,_,U,E_ ⟨_,U,U,_,U,E_ ⟨by show 1<=sizeLine;decide,λt u=>?_⟩⟩⟩⟩⟩;exact fin (.con .cancel) H9 J (λL=>trivial) trivial t u
 ·refine⟨_,U,U,_,U,E_ ⟨_,U,U,_,U,E_ ⟨_,U,U,_,U,E_ ⟨_,U,U,_,U,E_<|Bj<|⟨_,U,U,_,U,HN U ?_⟩⟩⟩⟩⟩;have aN:=TK.mono NH;obtain⟨⟨⟨a3,a7,_,_,_,_,_,_,_,_,bn,_,_,_,_,bl,_⟩,_⟩,_⟩:=id aN.o;refine⟨_,U,_,U,x,a3,a7,U,bn,bl _<|by decide,x,us,_,rk,_,ls,Y,U,aN,λL8 H8 aM s8 xp=>?_⟩;have xw:=F.same s8;have ap:(nV Y).length=Y.length:=af ..;have bN:=R.o.st;refine⟨L8,_,U,ma<|.inl xp,_,_,U,U,p,_,U,xw.sr,by rw[ap];omega,by rw[ap];omega,λr2 M sB W mI=>⟨by show 2<=sizeLine;decide,λt u=>?_⟩⟩;rw[ap] at sB;exact fin (.con<|.shoe<|.int (r2:Nat)) M (xw.draw W mI) (λL=>.int _) ⟨r2,U,by omega⟩ t u
 ·refine⟨_,U,U,_,U,E_ ⟨_,U,U,_,U,E_ ⟨_,U,U,_,U,E_ ⟨_,U,U,_,U,E_<|Bj<|⟨_,U,U,_,U,E_ ⟨_,U,U,_,U,HN U ⟨_,U,p,3,U,F.sr,by decide,by decide,λr2 H7 sB f7 P7=>?_⟩⟩⟩⟩⟩⟩⟩;have vw:=F.draw f7 P7;refine⟨_,_,U,U,_,U,Cw (λg=>?_)<|λg=>?_⟩
  ·have OH:H7 Tb=some (.tup<|bV b):=by rw[f7 Tb (λe=>by rw[e] at tJ;obtain⟨l',oC⟩:=F.sr.some;rw[oC] at tJ;cases tJ)];exact tJ
   refine⟨_,U,p,3,U,vw.sr,by decide,by decide,λr3 H8 aB f8 wE=>?_⟩;have xw:=vw.draw f8 wE;have Z:H8 Tb=some (.tup<|bV b):=by rw[f8 Tb (λe=>by rw[e] at tJ;obtain⟨l',oC⟩:=F.sr.some;rw[oC] at tJ;cases tJ)];exact OH
   refine⟨_,U,Tb,_,_,_,U,U,ma Z,Ah (j:=0) U,by show 2<=sizeLine;decide,λP9 AE=>?_⟩;obtain⟨H9,O,S,e9⟩:=Du (o:=HO.lst [V.str b.1,V.non]) AE;rw[O];have J:=xw.same S;have n9:P9≠p:=xw.ne AE;refine⟨_,U,p,3,U,J.sr,by decide,by decide,λr4 M bW W mI=>?_⟩;have qA:=J.draw W mI;have bK:M P9=some (.lst [V.str b.1,V.non]):=by rw[W P9 n9];exact e9
   obtain⟨v,hv,aZ⟩:∃v,Ve [V.str b.1,V.non] (((r4:Nat):Int) - 1)=some v/\(v=.non \/ v=.str b.1):=by
    obtain rfl | rfl | rfl:r4=0 \/ r4=1 \/ r4=2:=by omega
    ·exact⟨_,U,.inl U⟩
    ·exact⟨_,U,.inr U⟩
    ·exact⟨_,U,.inl U⟩
   refine⟨_,_,U,U,P9,_,_,_,U,U,ma bK,hv,by show 3<=sizeLine;decide,λt u=>?_⟩;have ZO:=aE (f:=λx:Str×Nat=>x.1)<|ah hb
   refine fin (.con<|.storeB (.int (r3:Nat)) v) M qA (λL=>⟨.int _,?_⟩) ⟨⟨r3,U,by omega⟩,aZ.imp id λe=>⟨b.1,e,ZO⟩⟩ t u;rcases aZ with rfl | rfl
   ·exact .non
   ·exact .str (FH _ ZO).tx
  ·refine⟨_,U,U,_,U,HN U<|Dj ?_⟩;refine⟨_,U,_,U,p,3,U,vw.sr,by decide,by decide,λr3 H8 aB f8 wE=>⟨by show 2<=sizeLine;decide,λt u=>?_⟩⟩;exact fin (.con<|.store<|.int (r3:Nat)) H8 (vw.draw f8 wE) (λL=>.int _) ⟨r3,U,by omega⟩ t u
 ·refine⟨_,U,U,_,U,E_ ⟨_,U,U,_,U,E_ ⟨_,U,U,_,U,E_ ⟨_,U,U,_,U,E_<|Bj<|⟨_,U,U,_,U,E_ ⟨_,U,U,_,U,E_<|Bj<|⟨_,U,U,_,U,E_ ⟨_,U,U,_,U,HN U ?_⟩⟩⟩⟩⟩⟩⟩⟩;refine⟨_,U,_,U,p,3,U,F.sr,by decide,by decide,λr3 H8 aB f8 wE=>⟨by show 2<=sizeLine;decide,λt u=>?_⟩⟩;exact fin (.con<|.press<|.int (r3:Nat)) H8 (F.draw f8 wE) (λL=>.int _) ⟨r3,U,by omega⟩ t u
 ·refine⟨_,U,U,_,U,E_ ⟨_,U,U,_,U,E_ ⟨_,U,U,_,U,E_ ⟨_,U,U,_,U,E_<|Bj<|⟨_,U,U,_,U,E_ ⟨_,U,U,_,U,E_<|Bj<|⟨_,U,U,_,U,E_ ⟨_,U,U,_,U,E_ ⟨by show 1<=sizeLine;decide,λt u=>?_⟩⟩⟩⟩⟩⟩⟩⟩⟩;exact fin (.con .cancel) H6 F (λL=>trivial) trivial t u
theorem Gx{bs:List (Str×Nat)}{v u:V}{k c:Nat}(h:FQ bs v u k)(g:FQ bs v u c):k=c:=by
 obtain⟨j,n,b,rfl,rfl,s,m,q,rfl⟩:=h;obtain⟨p,o,r,f,i,d,a,l,rfl⟩:=g;have e:=V.str.inj f;rw[<-e,m] at a;subst a;have:=V.int.inj i;omega
theorem ZL{bs:List (Str×Nat)}{s:Cs}{d:Fl}(h:GZ bs ks n c<|.con d)(a:act (bs.map (·.1)) ks n s d=(s,.no i)):i=1:=by
 cases d with
 |pull v =>
  obtain⟨t,rfl,g⟩:=h;rw[QZ g] at a
  cases (congrArg Prod.snd a)
 |push v =>
  obtain⟨t,rfl,g⟩:=h;rw[Pq g] at a
  cases (congrArg Prod.snd a)
 |store v =>
  obtain⟨p,rfl,f⟩:=h;rw[Nm f] at a
  cases (congrArg Prod.snd a)
 |storeB v b =>
  obtain⟨⟨p,rfl,f⟩,rfl | ⟨t,rfl,g⟩⟩:=h
  ·rw[Lq f] at a
   cases (congrArg Prod.snd a)
  ·rw[Ls f g] at a
   cases (congrArg Prod.snd a)
 |press v =>
  obtain⟨p,rfl,f⟩:=h
  cases hm:s.m p with
  |none =>
   rw[Mh λq e _=>by rw[show q=p by have:=V.int.inj e;omega];exact hm] at a;have:=congrArg Prod.snd a
   cases this;rfl
  |some k =>
   rw[Ng f hm] at a
   cases (congrArg Prod.snd a)
 |shoe v =>
  obtain⟨i,rfl,j⟩:=h;rw[Qo j] at a
  cases (congrArg Prod.snd a)
 |cancel=>cases (congrArg Prod.snd a)
def DN.hl:DN->Bool
 |.con _=>false
 |_=>true
theorem GD{bs:List (Str×Nat)}{s:Cs}{d:DN}(h:GZ bs ks n c d)(x:d.hl=true)(g:Wz cK cP cB cS cH cY bs ks n s c d a):False:=by
 have w:∀{v u k},FQ bs v u k->Gk (bs.map (·.1)) v=.non->False:=λ{v u k} h g=>by
  obtain⟨j,n,b,rfl,rfl,m,r,B,rfl⟩:=h;exact Ry g U<|aE<|ah m
 have p:∀{v u k},FQ bs v u k->(∃(j:Nat)(b:Str × Nat),v=.str b.1/\bs[j]? = some b/\(bs.map (·.1)).idxOf b.1=j/\Z0 b.2 u=false)->False:=λ{v u k} h g=>by
  obtain⟨j,n,b,rfl,rfl,m,r,B,rfl⟩:=h;obtain⟨C,D,A,i,q,l⟩:=g;have z:=V.str.inj A;rw[<-z,r] at q;subst q;obtain rfl:=Option.some.inj<|m.symm.trans i;have o:(decide (0<=(n:Int)) && decide ((n:Int)<((b.2:Nat):Int)))=false:=l;rw[decide_eq_true (by omega),decide_eq_true<|by omega] at o
  cases o
 cases d with
 |hold v u =>
  obtain⟨k,f⟩:=h;rcases g with⟨_,g⟩ | ⟨_,g⟩
  ·exact w f g
  ·exact p f g
 |leave v u =>
  obtain⟨k,f,t⟩:=h;rcases g with⟨_,g⟩ | ⟨_,g⟩ | ⟨_,E,y,e⟩
  ·exact w f g
  ·exact p f g
  ·rw[Gx f y,e] at t
   cases t
 |con d =>
  cases x
theorem Vw{bs:List (Str×Nat)}{s:Cs}{d:DN}(h:GZ bs ks n c d)(g:Wz cK cP cB cS cH cY bs ks n s c d a):a=cP:=by
 cases d with
 |hold v u=>exact (GD h U g).elim
 |leave v u=>exact (GD h U g).elim
 |con d =>
  obtain⟨i,b,rfl⟩:=g;rw[ZL h b];rfl
def Zc(cK cP cB cS cH cY:Addr)(bs:List<|Str×Nat)(ks:List R)(n:Nat)(s:Cs)(c:Nat->Nat)(d:DN)(s':Cs)(c':Nat->Nat):Prop:=Tf bs ks n s c d s' c' \/ (Wz cK cP cB cS cH cY bs ks n s c d cP/\s'=s/\c'=c)
theorem Pu(p:Nat):Gw p p=0:=by
 unfold Gw;rw[Nat.and_self,ku]
inductive Zn(C Cy Cp pE pA cK cP cB cS cH cY:Addr)(vs:List V)(H:Hp)(Q:VK)(b9:XK):Prop
 | mk(Ho:Hp)(z x y hd:Addr)(us:List V)(rk:List (Str×Nat×Int))(ls:List (List Ln:_))(sts:List Nat)(s:Cs)(sd:Addr)(kvs:List (Key×V))(c:Nat->Nat)(n:Nat)(cn:Nat->Str)(sz:List Nat)(kbs:List Kb)(t:Addr)(d:DN):vs=[.ref z,.ref t]->H t=some (.tup d.v)->(∀H2,d.odd H2)->GZ (Bd cn sz) (Bq cn kbs) sts.length c d->Gz C Cy Cp pE pA Ho H z x y hd us rk ls sts s sd kvs c n cn sz kbs->kvs.length<=400->n<900->(∀s' d0 c' (p1 p2:Nat) (Ta D1 D2:Addr) Hm H',Zc cK cP cB cS cH cY (Bd cn sz) (Bq cn kbs) sts.length s c d s' c'->Fp H Hm y sd hd->Gz C Cy Cp pE pA Ho Hm z x y hd us rk ls sts s' sd d0 c' (n+1) cn sz kbs->d0.length<=kvs.length+1->DP cn sz rk kbs ls (V9 s sts) (Wd.mk (DQ kvs)) p1->DP cn sz rk kbs ls (V9 s' sts) (Wd.mk (DQ d0)) p2->Am Hm H'->Hm Ta=none->Hm D1=none->Hm D2=none->D1≠D2->H' Ta=some (.tup [.ref D1,.ref D2])->H' D1=some (.lst (nV (Wd.mem (Gw p2 p1))))->H' D2=some (.lst (nV (Wd.mem (Gw p1 p2))))->Q (.ref Ta) H')->Zn C Cy Cp pE pA cK cP cB cS cH cY vs H Q b9
theorem Zg:Av ["_law_player","_law_deed_here","_law_told_here"] At (Af zU):=Bg
include N T in
theorem fH:An P w K mg base Bb 10 aD.fTd aD.dTd At<|Zn C Cy Cp pE pA cK cP cB cS cH cY:=by
 have L:An P w K mg base (Gp P w) 9 aD.fQd aD.dQd xE<|jc C Cy Cp pE pA cK cP cB cS cH cY:=qg N T
 refine N.FTd.1.ok Zg (λvs H Q E h=>?_)<|λi7 A G s0 H vs Q E hr h=>?_
 ·obtain⟨Y,z,x,y,Z,us,rk,M,p,s,S,b,c,n,X,sz,r,t,d,rfl,_⟩:=h;rfl
 ·obtain⟨Y,z,x,y,Z,us,rk,M,p,s,S,b,c,n,X,sz,r,t,d,rfl,ht,hd,nS,e,hl,EL,q⟩:=h;obtain⟨dz,fs,h1,l1,l2,l3,lm⟩:=id e.p.p.Lw.ex;refine⟨_,(Ae (Be (i:=2) Zg.nd U (Or.inl U) GC)
   (Ae (ak (λER=>(ZG<|Z1 (i:=2) Zg.nd U (Or.inl U)<|ZV (pv 0) T.clP N.FQd.2.2 L (ad hr) N.FQd.2.1 .nil (Aa (pv 1) Ab) U)) U T.x4.mP T.x4.rP.ex<|λx=>(Ag<|Be (i:=2) Zg.nd U (Or.inl U)<|CK<|Aa (DK Ab)<|Aa (DK Ab) Ab))
   (Ag<|Ax<|pv 2))),?_⟩
  refine⟨_,U,z,dz,fs,U,h1,lm _<|by decide,_,U,Y,z,x,y,Z,us,rk,M,p,s,S,b,c,n,X,sz,r,t,d,U,ht,hd H,e,hl,EL,?_,?_⟩
  ·intro k d0 c' F p2 T7 g D Hm m st f ps l u S2 a0 a1 a2 a3 a4 a5 a6 a7;exact⟨_,U,q k d0 c' F p2 T7 g D Hm m (.inl st) f ps l u S2 a0 a1 a2 a3 a4 a5 a6 a7⟩
  ·intro a F m O u k;obtain rfl:=Vw nS O;refine⟨_,U,T.xY.mPP,Bv (by simp),λg R=>?_⟩;have j:=BL (o:=HO.lst []) R;have J:upd m g (HO.lst []) g=some (.lst []):=Aj;generalize upd m g (HO.lst [])=H2 at j J |-;refine⟨Bv (by simp),λD I=>?_⟩;obtain⟨H3,i5,v,e2⟩:=Du (o:=HO.lst []) I;rw[i5];refine⟨by show 2<=sizeLine;decide,λTa W=>?_⟩;have B:=BL (o:=HO.tup [V.ref g,V.ref D]) W;have s1:=k.trans j;have s2:=s1.trans v;have s3:=s2.trans B;refine⟨_,U,q s b c F F Ta g D m _ (.inr ⟨O,U,U⟩) (Fp.of k) ⟨(e.mono k).p.le<|by omega,e.o,e.bd,e.ky,e.ks⟩ (by omega) u u (j.trans<|v.trans B) ((j.trans v).free W) R (j.free I) (Ai J I) Aj ?_ ?_⟩
   ·rw[Pu];exact B _ _<|v _ _ J
   ·rw[Pu];exact B _ _ e2
theorem N_:∀l:List Nat,V7 (nV l) (nV l)=true
 |[]=>rfl
 |a::l=>by
  show (Oc (.int (a:Nat)) (.int (a:Nat)) && V7 (nV l) (nV l))=true;rw[N_ l,Bool.and_true];show decide (((a:Nat):Int)=((a:Nat):Int))=true;exact decide_eq_true U
theorem Pb(l:List Nat):(nV l).all Et=true:=fb.mpr λv a=>by
 obtain⟨n,_,rfl⟩:=ar.mp a;rfl
theorem iH(a b:Nat):Wd.mem (Gw a b)=(Wd.mem a).filter λk=>!b.testBit k:=by
 have c:((Wd.mem a).filter λk=>!b.testBit k).Pairwise (· < ·):=List.Pairwise.filter _<|Wd.HB a
 rw[<-Wd.Y_ c];refine congrArg Wd.mem<|fe λi=>?_
 show (a - (a &&& b)).testBit i=_;rw[Gn.cU,Wd.HX,db,decide_eq_true_eq,bb,Wd.mem_iff,fi]
theorem Uk(k:Key)(v:V)(h:(kvs.map (·.1)).Nodup):((putK kvs k v).map (·.1)).Nodup:=by
 unfold putK;split
 ·rw[ay];rw[show kvs.map ((λx:Key×V=>x.1) ∘ λp=>if p.1=k then (p.1,v) else p)=kvs.map (·.1) from List.map_congr_left λp _=>by
   show (if p.1=k then (p.1,v) else p).1=p.1;split <;> rfl]
  exact h
 ·rename_i b;rw[cq];refine iF.mpr ⟨h,fw.mpr ⟨lj,iS⟩,λx a y c e=>b ?_⟩;obtain⟨p,d,rfl⟩:=ar.mp a;exact fF.mpr ⟨p,d,decide_eq_true<|e.trans<|ax.mp c⟩
structure Kp(kd:List<|Key×V)(f:Nat->Bool):Prop where
 e:∀kv∈kd,∃k:Nat,kv=(kH k,V.bl<|f k)/\k<42
 v:∀k:Nat,CN kd (kH k)=some (.bl<|f k) \/ (CN kd (kH k)=none/\f k=false)
 nd:(kd.map (·.1)).Nodup
theorem Kp.nil:Kp [] λ_=>false:=⟨(λ_ h=>nomatch h),λk=>.inr ⟨U,U⟩,iS⟩
theorem Kp.getD{f:Nat->Bool}(h:Kp kd f)(k:Nat):(CN kd<|kH k).getD (.bl false)=.bl (f k):=by
 rcases h.v k with e | ⟨e,z⟩
 ·rw[e];rfl
 ·rw[e,z];rfl
theorem Kp.put{f:Nat->Bool}(h:Kp kd f){k:Nat}(m:k<42)(b:Bool){g:Nat->Bool}(d:g k=b)(c:∀j,j≠k->g j=f j):Kp (putK kd (kH k)<|.bl b) g:=by
 refine⟨λl i=>?_,λj=>?_,Uk _ _ h.nd⟩
 ·rcases Mu i with rfl | ⟨e,n⟩
  ·exact⟨k,by rw[d],m⟩
  ·obtain⟨j,rfl,a⟩:=h.e l e;exact⟨j,by rw[c j λz=>n<|by rw[z]],a⟩
 ·rw[Fw];by_cases a:j=k
  ·subst a;rw[if_pos U,d];exact .inl U
  ·rw[if_neg (λz=>a (by have:=Sum.inl.inj z;omega)),c j a];exact h.v j
theorem Kp.ext{f g:Nat->Bool}(h:Kp kd f)(e:∀k,f k=g k):Kp kd g:=(funext e:f=g) ▸ h
theorem Kp.js{f:Nat->Bool}(h:Kp kd f):∃js:List Nat,kd.map (·.1)=(js.map λk:Nat=>(k:Int)).map Sum.inl/\js.Nodup/\∀j∈js,j<42:=by
 refine⟨kd.map λc=>match c.1 with | .inl i=>i.toNat | _=>0,?_,?_,λj n=>?_⟩
 ·rw[ay,ay];refine fh λc g=>?_;obtain⟨k,rfl,_⟩:=h.e c g;exact congrArg Sum.inl (show ((k:Nat):Int)=(((k:Nat):Int).toNat:Int) by omega)
 ·have l:=h.nd;rw[List.Nodup,hX] at l |-;refine l.imp_of_mem λ{a b} m o d e=>d ?_;obtain⟨k,rfl,_⟩:=h.e a m;obtain⟨j,rfl,_⟩:=h.e b o;have e:((k:Nat):Int).toNat=((j:Nat):Int).toNat:=e;exact congrArg Sum.inl (show ((k:Nat):Int)=((j:Nat):Int) by omega)
 ·obtain⟨c,g,rfl⟩:=ar.mp n;obtain⟨k,rfl,p⟩:=h.e c g;show ((k:Nat):Int).toNat<42;omega
theorem cu:∀{l m:List Nat},l.Nodup->(∀x∈l,x∈m)->l.length<=m.length
 |[],m,_,_=>eJ _
 |x::l,m,d,h=>by
  obtain⟨g,f⟩:=fw.mp d;have b:=h x bg;have:=cu (m:=m.erase x) f λy c=>by
   have a:y≠x:=λe=>g<|e ▸ c
   exact (List.mem_erase_of_ne a).mpr<|h y<|ba _ c
  rw[List.length_erase_of_mem b] at this;have i:=List.length_pos_of_mem b;rw[bp];omega
theorem eX{l:List Nat}(b:l.Nodup)(h:∀x∈l,x<n):l.length<=n:=by
 have:=cu b (m:=List.range n) λx a=>fR.mpr<|h x a
 rw[gg] at this;exact this
theorem Kp.len{f:Nat->Bool}(h:Kp kd f):kd.length<=42:=by
 obtain⟨js,e,a,lt⟩:=h.js;have:=congrArg List.length e;rw[af,af,af] at this;rw[this];exact eX a lt
theorem Kp.key{f:Nat->Bool}(h:Kp kd f){k:Nat}(d:kH k∈kd.map (·.1)):CN kd (kH k)=some (.bl<|f k):=by
 rcases h.v k with e | ⟨e,_⟩
 ·exact e
 ·exfalso;obtain⟨b,c,a⟩:=ar.mp d;unfold CN at e;rw[Option.map_eq_none_iff] at e;exact List.find?_eq_none.mp e b c<|decide_eq_true a
def jr(f:Nat->Bool):V->Bool
 |.int i=>f i.toNat
 |_=>false
theorem YX{p:Nat}{js:List Nat}{c:List Int}(h:Kp kd p.testBit)(v:js.Nodup)(w:kd.map (·.1)=(js.map λk:Nat=>(k:Int)).map Sum.inl)(l:c.Perm (js.map λk:Nat=>(k:Int)))(pw:c.Pairwise (· <= ·)):(c.map V.int).filter (jr p.testBit)=nV (Wd.mem p):=by
 have r:∀i∈c,0<=i:=λi d=>by
  obtain⟨k,_,rfl⟩:=ar.mp<|l.mem_iff.mp d;omega
 have n:c.Nodup:=by
  refine l.nodup_iff.mpr ?_;rw[List.Nodup,hX];exact v.imp λg e=>g<|by omega
 have s:((c.filter λi=>p.testBit i.toNat).map Int.toNat).Pairwise (· < ·):=by
  rw[hX];refine gX.mpr λ{a b} sub=>?_;have j:=sub.trans<|List.filter_sublist ..
  have x:a<=b:=gX.mp pw j;have y:a≠b:=gX.mp n j;have:=r a<|j.subset bg
  omega
 have u:p=Wd.mk ((c.filter λi=>p.testBit i.toNat).map Int.toNat):=by
  refine fe λk=>?_;rw[Wd.HX,db,decide_eq_true_eq,ar];constructor
  ·intro q;have f:kH k∈kd.map (·.1):=by
    rcases h.v k with e | ⟨_,e⟩
    ·unfold CN at e;obtain⟨m,o,_⟩:=av.mp e;have f:m.1=kH k:=of_decide_eq_true<|kL (p:=λm:Key×V=>decide (m.1=kH k)) o
     exact f ▸ aE (gS o)
    ·rw[q] at e
     cases e
   rw[w] at f;obtain⟨i,d,e⟩:=ar.mp f;have e:i=((k:Nat):Int):=Sum.inl.inj e;subst e;exact⟨_,bb.mpr ⟨l.mem_iff.mpr d,by rw[aS];exact q⟩,aS k⟩
  ·rintro⟨i,d,rfl⟩;exact (bb.mp d).2
 have t:(c.map V.int).filter (jr p.testBit)=nV ((c.filter λi=>p.testBit i.toNat).map Int.toNat):=by
  rw[fg];unfold nV;rw[ay];refine fh λi d=>?_;have:=r i (bb.mp d).1;exact congrArg V.int (show i=((i.toNat:Nat):Int) by omega)
 rw[t];exact congrArg nV<|(Wd.Y_ s).symm.trans<|congrArg Wd.mem u.symm
theorem ZR{p k:Nat}(h:p<2 ^ 42)(a:p.testBit k=true):k<42:=by
 refine Nat.lt_of_not_le λz=>?_;rw[Nat.testBit_lt_two_pow (br h<|iO (by decide) z)] at a
 cases a
theorem Jl{a b k:Nat}:k∈Wd.mem (Gw a b) ↔ a.testBit k=true/\b.testBit k=false:=by
 rw[iH,bb,Wd.mem_iff,Bool.not_eq_true']
theorem j7{k:Nat}{l:List Nat}(h:k ∉ l):inV (.int ((k:Nat):Int)) (nV l)=false:=by
 unfold inV nV;rw[lP,List.any_eq_false];intro j a z;have z:decide (((j:Nat):Int)=((k:Nat):Int))=true:=z;exact h<|(show j=k by have:=of_decide_eq_true z;omega) ▸ a
inductive lN(vs:List V)(H:Hp)(Q:VK)(b9:XK):Prop
 | mk(DS Ta D1 D2:Addr)(kd:List (Key×V))(p1 p2:Nat):vs=[.ref DS,.ref Ta]->H DS=some (.dK kd)->Kp kd p1.testBit->H Ta=some (.tup [.ref D1,.ref D2])->H D1=some (.lst (nV (Wd.mem (Gw p2 p1))))->H D2=some (.lst (nV (Wd.mem (Gw p1 p2))))->p1<2 ^ 42->p2<2 ^ 42->(∀sC H',SX DS H H'->H' DS=some (.dK sC)->Kp sC p2.testBit->Q (.bl true) H')->lN vs H Q b9
theorem jz:Av ["_law_sounds","_law_told_here","_law_pipe"] Au (Af vz):=Bg
include N T in
theorem pI:An P w K mg base Bb 1 aD.fGn aD.dGn Au lN:=by
 refine N.FGn.1.Dg jz λH vs Q E hr h=>?_;obtain⟨p,x,D,L,m,d,f,rfl,I,g,O,F,S,b1,b2,q⟩:=h;have M:=CG hr;refine⟨_,(Ae (Bh (PW.pt<|El (Ce<|Cq<|BK Cv U T.isin bt<|Aa (pv 1)<|Aa (Ea (v:=.ty "tuple") U T.tuple ii U) Ab)<|EY<|BR Jv (BK BW U T.len bo<|Aa (pv 1) Ab) Ac<|BX _) (Ag<|Ax FN) Ba)
  (Ae (Dk PassesOwn.never U (Bl<|Az (Ar (K:=K) U) (pv 1) Ac<|λ_ _=>rfl) (Bt (i:=2) jz.nd U<|Or.inl U) (Ae (Bh (Cq<|IV M (pv 0) (pv 2) FN ⟨U,U,U,U⟩) (Ag<|Ax FN) Ba)
  (Ag<|Fi M (pv 0) (pv 2) FN U)))
  (Ae (Dk PassesOwn.never U (Bl<|Az (Ar (K:=K) U) (pv 1) Ac<|λ_ _=>rfl) (Bt (i:=2) jz.nd U<|Or.inl U) (Ae (Bh (PW.pt<|El (Ce<|Cq<|IV M (pv 0) (pv 2) FN ⟨U,U,U,U⟩)<|EY<|BR J_ (pv 2) (Az (Ar (K:=K) U) (pv 1) Ac<|λ_ _=>rfl) U) (Ag<|Ax FN) Ba)
  (Ag<|Fi M (pv 0) (pv 2) FN U)))
  (Ag<|Ax FN)))),?_⟩
 have J:∀{H'},SX p H H'->Gr K H' x [V.ref D,V.ref L]:=λs=>.inl<|.inl (s _ _ O λz=>by rw[z,I] at O;cases O)
 have n1:D≠p:=λz=>by rw[z,I] at F;cases F
 have n2:L≠p:=λz=>by rw[z,I] at S;cases S
 have s0:SX p H H:=λc o e _=>e;have Y:(Wd.mem<|Gw f d).Nodup:=(Wd.HB _).imp λh=>cf h;have uh:(Wd.mem<|Gw d f).Nodup:=(Wd.HB _).imp λh=>cf h;have nt:∀{l:List Nat}{i k:Nat},l.Nodup->l[i]? = some k->k ∉ l.take i:=λ{l i k} nd u hm=>by
  obtain⟨j,R,e⟩:=List.mem_take_iff_getElem.mp hm;have e1:=(ag.mp u).2;have:=(kX nd).mp<|e.trans e1.symm
  omega
 refine⟨_,U,_,"tuple",_,_,U,.tup O,Hw,_,U,Bj ?_⟩;refine⟨_,U,x,_,U,.inr<|J s0,U,_,U,YG U ?_⟩;refine⟨_,U,x,_,_,_,U,U,J s0,Ah (j:=0) U,D,U,⟨_,ma F⟩,forL (K:=K) (a:=D) (xs:=nV<|Wd.mem<|Gw f d) (λi σ r=>SX p H r/\∃(m:List<|Key × V)(y:Option V),r p=some (.dK m)/\Kp m (λk=>d.testBit k || decide (k∈(Wd.mem<|Gw f d).take i))/\σ=[some (.ref p),some<|.ref x,y]) ⟨s0,m,none,I,g.ext λk=>by simp,U⟩ (λi σ r _ h=>ma<|h.1 _ _ F n1) ?_ ?_⟩
 ·rintro i _ X v σ r u ⟨sx,m,y,t,g,rfl⟩;rw[am] at u;obtain⟨k,A,rfl⟩:=av.mp u;obtain⟨B,k2⟩:=Jl.mp<|ah A;have W:=nt Y A;have C:(Wd.mem<|Gw f d).take (i+1)=(Wd.mem<|Gw f d).take i++[k]:=by rw[cr,A];rfl
  have G:=g.getD k;rw[k2,decide_eq_false W] at G;refine⟨_,U,p,U,.inl ⟨m,.inl t⟩,_,U,_,Ed.k (k:=kH k) t,?_⟩;have sl:=g.len;refine⟨false,G,Bj ⟨_,U,_,U,p,_,U,Jf.k (k:=kH k) t<|BJ<|by omega,X _ _ ⟨λb o e n=>?_,_,_,Aj,g.put (ZR b2 B) true ?_ λj R=>?_,U⟩⟩⟩
  ·rw[Aw n];exact sx _ _ e n
  ·rw[C,decide_eq_true<|cm _ bg,Bool.or_true]
  ·rw[C];congr 1;rw[db,decide_eq_true_eq,decide_eq_true_eq,bE,ax];exact⟨λh=>h.elim id λe=>absurd e R,.inl⟩
 rintro σ r ⟨sx,m,y,t,g,rfl⟩;have Z:(nV<|Wd.mem<|Gw f d).length=(Wd.mem<|Gw f d).length:=af ..;rw[Z,dt] at g;refine⟨_,U,x,_,_,_,U,U,J sx,Ah (j:=1) U,L,U,⟨_,ma<|sx _ _ S n2⟩,forL (K:=K) (a:=L) (xs:=nV<|Wd.mem<|Gw d f) (λi σ r=>SX p H r/\∃(m:List<|Key × V)(y:Option V),r p=some (.dK m)/\Kp m (λk=>(d.testBit k || decide (k∈Wd.mem (Gw f d))) && !decide (k∈(Wd.mem<|Gw d f).take i))/\σ=[some (.ref p),some<|.ref x,y]) ⟨sx,m,_,t,g.ext λk=>by simp,U⟩ (λi σ r _ h=>ma<|h.1 _ _ S n2) ?_ ?_⟩
 ·rintro i _ X v σ r u ⟨sx,m,y,t,g,rfl⟩;rw[am] at u;obtain⟨k,A,rfl⟩:=av.mp u;obtain⟨B,k2⟩:=Jl.mp<|ah A;have W:=nt uh A;have C:(Wd.mem<|Gw d f).take (i+1)=(Wd.mem<|Gw d f).take i++[k]:=by rw[cr,A];rfl
  have G:=g.getD k;rw[B,decide_eq_false W] at G;have sl:=g.len;refine⟨_,U,p,U,.inl ⟨m,.inl t⟩,_,U,_,Ed.k (k:=kH k) t,true,G,Bj ?_⟩;have nA:k ∉ Wd.mem (Gw f d):=λz=>by rw[(Jl.mp z).2] at B;cases B
  refine⟨_,U,_,U,x,_,_,_,U,U,J sx,Ah (j:=0) U,D,_,U,ma<|.inl<|sx _ _ F n1,U,Pb _,_,U,?_⟩;rw[j7 nA];refine Bj ⟨_,U,_,U,p,_,U,Jf.k (k:=kH k) t<|BJ<|by omega,X _ _ ⟨λb o e n=>?_,_,_,Aj,g.put (ZR b1 B) false ?_ λj R=>?_,U⟩⟩
  ·rw[Aw n];exact sx _ _ e n
  ·rw[C,decide_eq_true<|cm _ bg,Bool.not_true,Bool.and_false]
  ·rw[C];congr 2;rw[db,decide_eq_true_eq,decide_eq_true_eq,bE,ax];exact⟨λh=>h.elim id λe=>absurd e R,.inl⟩
 rintro σ r ⟨sx,m,y,t,g,rfl⟩;have Z:(nV<|Wd.mem<|Gw d f).length=(Wd.mem<|Gw d f).length:=af ..;rw[Z,dt] at g;refine q m r sx t<|g.ext λk=>?_
 rw[db,fi,Bool.or_eq_true,decide_eq_true_eq,Bool.not_eq_true',decide_eq_false_iff_not,Jl,Jl]
 cases d.testBit k <;> cases f.testBit k <;> simp
section
variable{x:Addr}{bs:List (Str×Nat)}{rk:List (Str×Nat×Int)}{s:Cs}{cn:Nat->Str}{sz:List Nat}{m:Nat->Option Ps}{Z:Addr->Prop}
theorem lu(h:RK pE pA H sd m n)(f:∀c o,H c=some o->¬ Z c->H' c=some o)(l:¬ Z sd)(k:∀o ps,Fg pE pA H o ps->¬ Z o):RK pE pA H' sd m n:=by
 obtain⟨a,q,s,r,j⟩:=h.ex;refine⟨a,f _ _ q l,s,r,λp ps i d=>?_⟩;obtain⟨o,g,b⟩:=j p ps i d;exact⟨o,g,b.keep λ_ _ _ e=>f _ _ e<|k o ps b⟩
theorem Z2(g:Zj C Cy Ho H y x us bs rk ks ls sts dr sh sd)(f:∀c o,H c=some o->¬ Z c->H' c=some o)(j:∀c,Z c->Ho c=none)(a:¬ Z y):Zj C Cy Ho H' y x us bs rk ks ls sts dr sh sd:=by
 obtain⟨d,fs,h,i⟩:=g.c.ex;exact⟨g.o,(λb o e=>f b o (g.s b o e) (λz=>by rw[j b z] at e;cases e)),g.n,d,fs,f _ _ h a,i⟩
theorem Gz.frX(h:Gz C Cy Cp pE pA Ho H z x y hd us rk ls sts s sd kvs c n cn sz kbs)(f:∀c o,H c=some o->¬ Z c->H' c=some o)(l:∀c,Z c->Ho c=none)(e:¬ Z z)(a:¬ Z y)(d:¬ Z hd)(j:¬ Z sd)(g:∀o ps,Fg pE pA H o ps->¬ Z o):Gz C Cy Cp pE pA Ho H' z x y hd us rk ls sts s sd kvs c n cn sz kbs:=by
 obtain⟨m,i,b,k⟩:=h.p.p.Lw.ex;exact⟨⟨⟨Z2 h.p.p.con f l a,⟨m,i,f _ _ b e,k⟩,h.p.p.n,f _ _ h.p.p.d d,h.p.p.h⟩,h.p.f,h.p.hs,h.p.ny,lu h.p.st f j g,h.p.zy,h.p.hh⟩,h.o,h.bd,h.ky,h.ks⟩
theorem Ol{o:Addr}{ps:Ps}(h:Fg pE pA H o ps):∃c d fs,H o=some (.ins c d fs):=by
 cases ps with
 |every k =>
  obtain⟨a,e⟩:=h;exact⟨_,_,_,e⟩
 |part k w =>
  obtain⟨a,e⟩:=h;exact⟨_,_,_,e⟩
theorem XX{o:Addr}{ps:Ps}{c:List (Key×V)}(h:Fg pE pA H o ps)(e:H a=some (.dK c)):o≠a:=λz=>by
 obtain⟨_,_,_,b⟩:=Ol h;rw[z,e] at b
 cases b
end
inductive gJ(C Cy Cp pE pA cK cP cB cS cH cY:Addr)(vs:List V)(H:Hp)(Q:VK)(b9:XK):Prop
 | mk(Ho:Hp)(z x y hd:Addr)(us:List V)(rk:List (Str×Nat×Int))(ls:List (List Ln:_))(sts:List Nat)(s:Cs)(sd:Addr)(kvs:List (Key×V))(c:Nat->Nat)(n:Nat)(cn:Nat->Str)(sz:List Nat)(kbs:List Kb)(t DS LG:Addr)(d:DN)(kd:List (Key×V))(lv:List V)(p1:Nat):vs=[.ref z,.ref t,.ref DS,.ref LG]->H t=some (.tup d.v)->(∀H2,d.odd H2)->GZ (Bd cn sz) (Bq cn kbs) sts.length c d->Gz C Cy Cp pE pA Ho H z x y hd us rk ls sts s sd kvs c n cn sz kbs->kvs.length<=400->n<900->H DS=some (.dK kd)->Kp kd p1.testBit->DP cn sz rk kbs ls (V9 s sts) (Wd.mk (DQ kvs)) p1->(∀D n p,DP cn sz rk kbs ls D n p->p<2 ^ 42)->H LG=some (.lst lv)->lv.length<=100->Ho DS=none->Ho LG=none->DS≠sd->DS≠hd->(∀s' d0 c' (p2:Nat) sC (E T2 L1 L2:Addr) H',Zc cK cP cB cS cH cY (Bd cn sz) (Bq cn kbs) sts.length s c d s' c'->(∀b o,H b=some o->b≠y->b≠sd->b≠hd->b≠DS->b≠LG->H' b=some o)->Gz C Cy Cp pE pA Ho H' z x y hd us rk ls sts s' sd d0 c' (n+1) cn sz kbs->d0.length<=kvs.length+1->DP cn sz rk kbs ls (V9 s' sts) (Wd.mk (DQ d0)) p2->H' DS=some (.dK sC)->Kp sC p2.testBit->H' LG=some (.lst (lv++[.ref E]))->H' E=some (.tup [.ref t,.ref T2])->H' T2=some (.tup [.ref L1,.ref L2])->H' L1=some (.lst (nV (Wd.mem (Gw p2 p1))))->H' L2=some (.lst (nV (Wd.mem (Gw p1 p2))))->L1≠LG->L2≠LG->Q (.bl true) H')->gJ C Cy Cp pE pA cK cP cB cS cH cY vs H Q b9
theorem uH:Av xB xb<|Af vG:=Bg
include N T in
theorem oE:An P w K mg base Bb 11 aD.fDn aD.dDn xb<|gJ C Cy Cp pE pA cK cP cB cS cH cY:=by
 refine N.FDn.1.Dg uH λH vs Q E hr h=>?_;obtain⟨Ho,z,x,y,nc,us,rk,ls,ac,s,sd,ap,c,n,cn,sz,an,t,v,a,d,kd,lv,p1,rfl,ht,hd,nS,pl,hl,EL,G,sn,S0,GH,f,a8,a1,aK,ab,X,q⟩:=h;have hu:=CG hr;refine⟨_,(Ae (Be (i:=4) uH.nd U (Or.inl U)<|zC (fH N T) hr U N.FTd<|Aa (pv 0)<|Aa (pv 1) Ab)
  (Ae (Bh (Ce<|Cq<|zC (pI N T) hr U N.FGn<|Aa (pv 2)<|Aa (pv 4) Ab) (Ag<|Ax FN) Ba)
  (Ae (Bw<|G5 ci dc dn Di (pv 3)<|Aa (CK<|Aa (pv 1)<|Aa (CK<|Aa (Cr Dn U T.list dL<|Aa (Az (Ar (K:=K) U) (pv 4) Ac<|λ_ _=>rfl) Ab)<|Aa (Cr Dn U T.list dL<|Aa (Az (Ar (K:=K) U) (pv 4) Ac<|λ_ _=>rfl) Ab) Ab) Ab) Ab)
  (Ag<|Ax<|Dd (Ri<|kT hu) (zC (QV N T) hr U N.FMe<|Aa (Bm (pv 0) T.clP N.FQs.2.2 (Y8 N T) (ad hr) N.FQs.2.1 .nil Ao) Ab) (Br U (Bf (osc:=Af vG) (N:=xB) U U<|by decide) (Bl<|BK (Gs U) U T.sorted PyProof.Rows.boot_sorted<|Aa (pv 2) Ab) (λ_ _ _ _=>(G9<|Cq<|Ey hu (pv 3) (pv 0)<|λ_ _=>rfl))<|λ_ _ _ _=>(pv 0))<|BX _)))),?_⟩
 refine⟨_,U,_,U,Ho,z,x,y,nc,us,rk,ls,ac,s,sd,ap,c,n,cn,sz,an,t,d,U,ht,hd,nS,pl,hl,EL,λs' d0 c' a7 r Ta D1 D2 Hm H2 go fm MR a0 S1 S2 Nn i9 zk on nD eT e1 e2=>?_⟩;obtain rfl:=MK S0 S1;obtain⟨bv,a5,FG,_⟩:=id pl.p.p.con.c.ex;obtain⟨bm,a6,Zs,_⟩:=id pl.p.p.Lw.ex;obtain⟨a9,WC,_⟩:=id pl.p.st.ex;have VO:=pl.p.p.d;have dy:v≠y:=λz=>by rw[z,FG] at G;cases G
 have dz:v≠z:=λe=>by rw[e,Zs] at G;cases G
 have ly:a≠y:=λz=>by rw[z,FG] at f;cases f
 have lz:a≠z:=λe=>by rw[e,Zs] at f;cases f
 have ld:a≠sd:=λz=>by rw[z,WC] at f;cases f
 have lh:a≠nc:=λz=>by rw[z,VO] at f;cases f
 have lD:a≠v:=λz=>by rw[z,G] at f;cases f
 have dm:=fm _ _ G dy ab X;have aB:=fm _ _ f ly ld lh;have W:=Nn _ _ dm;have l2:=Nn _ _ aB;have b1:=GH _ _ _ S0;have b2:=GH _ _ _ S2;refine⟨_,U,_,U,v,Ta,D1,D2,kd,p1,r,U,W,sn,eT,e1,e2,b1,b2,λsC H3 B d3 S=>⟨_,U,Bj ?_⟩⟩;have aM:=(MR.mono Nn).frX (Z:=λc=>c=v) (λc o e n=>B c o e n) (λc e=>by rw[e];exact a1) (Ne.symm dz) (Ne.symm dy) (Ne.symm X) (Ne.symm ab)<|λo ps hp=>XX hp W
 have a2:=B _ _ eT λz=>by rw[z,W] at eT;cases eT
 have aQ:=B _ _ e1 λz=>by rw[z,W] at e1;cases e1
 have a4:=B _ _ e2 λz=>by rw[z,W] at e2;cases e2
 have F:=B _ _ l2 lD;have qT:∀{p},Am H3 p->Gr K p Ta [V.ref D1,V.ref D2]:=λs=>.inl<|.inl<|s _ _ a2
 refine⟨_,U,.inl ⟨U,_,ma F⟩,_,U,_,U,Ta,_,_,_,U,U,qT<|Am.refl _,Ah (j:=0) U,D1,_,U,ma<|.inl aQ,λL1 O=>?_⟩;obtain⟨H4,l,I,u4⟩:=Du (o:=HO.lst<|nV<|Wd.mem<|Gw r p1) O;rw[l];refine⟨_,U,Ta,_,_,_,U,U,qT I,Ah (j:=1) U,D2,_,U,ma<|.inl<|I _ _ a4,λL2 NR=>?_⟩;obtain⟨H5,l,s5,u5⟩:=Du (o:=HO.lst<|nV<|Wd.mem<|Gw p1 r) NR;rw[l];refine⟨by show 2<=sizeLine;decide,λT2 pe=>?_⟩;obtain⟨H6,l,s6,u6⟩:=Du (o:=HO.tup [V.ref L1,V.ref L2]) pe;rw[l];refine⟨by show 2<=sizeLine;decide,λD Op=>?_⟩;obtain⟨Y,l,s7,u7⟩:=Du (o:=HO.tup [V.ref t,V.ref T2]) Op;rw[l];have M':=I.trans<|s5.trans<|s6.trans s7
 have l7:=M' _ _ F;refine⟨a,_,_,U,U,l7,BJ<|by omega,?_⟩;have M:L1≠a:=Ne.symm<|Ai F O
 have L:L2≠a:=Ne.symm<|Ai (I _ _ F) NR
 have A:∀c o,Y c=some o->¬ (c=a)->upd Y a (.lst<|lv++[V.ref D]) c=some o:=λc o e n=>by rw[Aw n];exact e
 have J:=(aM.mono M').frX (Z:=λc=>c=a) A (λc e=>by rw[e];exact aK) (Ne.symm lz) (Ne.symm ly) (Ne.symm lh) (Ne.symm ld) (λo ps hp z=>by
  obtain⟨_,_,_,e'⟩:=Ol hp;rw[z,l7] at e'
  cases e')
 have l8:upd Y a (.lst<|lv++[V.ref D]) a=some (.lst<|lv++[V.ref D]):=Aj;have d8:=A _ _ (M' _ _ d3)<|Ne.symm lD
 have v1:=A _ _ ((s5.trans<|s6.trans s7) _ _ u4) M;have v2:=A _ _ ((s6.trans s7) _ _ u5) L;have v3:=A _ _ (s7 _ _ u6) (λz=>by rw[z,(I.trans s5) _ _ F] at pe;cases pe);have v4:=A _ _ u7 (λz=>by rw[z,(I.trans<|s5.trans s6) _ _ F] at Op;cases Op);have fr:∀b o,H b=some o->b≠y->b≠sd->b≠nc->b≠v->b≠a->upd Y a (.lst<|lv++[V.ref D]) b=some o:=λb o e n1 n2 n3 n4 n5=>A _ _ (M' _ _<|B _ _ (Nn _ _<|fm _ _ e n1 n2 n3) n4) n5;generalize upd Y a (.lst (lv++[V.ref D]))=H8 at J l8 d8 v1 v2 v3 v4 fr |-;obtain⟨MS,Nw,aZ,_,_,_,M0⟩:=id J.p.p.Lw.ex;refine⟨_,U,z,MS,Nw,U,aZ,M0 _<|by decide,Ho,z,x,y,nc,us,rk,ls,ac,s'.dr,s'.sh,sd,d0,c',cn,sz,an,U,J.p.p,J.o,λp3 H9 s9 S3=>?_⟩;obtain rfl:=MK S2 S3;refine⟨r,U,J.bd _ _ _ S2,λM9 qB bd aN as=>?_⟩;have BI:=s9.trans aN;obtain⟨js,hj,jn,jl⟩:=S.js;have bl:=S.len;refine⟨_,U,v,sC,_,U,BI _ _ d8,hj,by omega,λpS ms NW pm pw=>?_⟩;obtain⟨A9,l,GB,aC⟩:=Du (o:=HO.lst<|ms.map V.int) NW;rw[l];have m:De K A9 pS<|ms.map V.int:=.inl<|.inl aC
 have bn:ms.length<=42:=by
  have h2:=pm.length_eq;rw[af] at h2;have:=eX jn jl;omega
 have a3:=(BI.trans GB) _ _ d8;refine⟨pS,U,⟨_,m⟩,DW (K:=K) (xs:=ms.map V.int) (jr r.testBit) id m (BJ<|by rw[af];omega) (λy hy p hs R k=>?_) (λy hy _ p hs R k=>⟨_,U,k p<|Am.refl p⟩)<|λD5 qa OT aw rf=>?_⟩
 ·obtain⟨i0,aP,rfl⟩:=ar.mp hy;have Y2:=pm.mem_iff.mp aP;obtain⟨k0,_,rfl⟩:=ar.mp Y2;have g:=Ed.k (k:=kH k0)<|hs _ _ a3
  rw[S.key (by rw[hj];exact aE Y2)] at g;exact⟨_,U,_,U,v,_,U,g,_,U,k p<|Am.refl p⟩
 rw[ki,YX S jn hj pm pw] at rf;have AA:=GB.trans aw;have u:=BI.trans AA;refine⟨M9,D5,_,_,U,U,ma<|AA _ _ as,ma rf,Pb _,Pb _,?_⟩;show Q (.bl<|V7 (nV<|Wd.mem r)<|nV<|Wd.mem r) qa;rw[N_];exact q s' d0 c' r sC D T2 L1 L2 qa go (λb o e n1 n2 n3 n4 n5=>u _ _<|fr b o e n1 n2 n3 n4 n5) (J.mono u) a0 S2 (u _ _ d8) S (u _ _ l8) (u _ _ v4) (u _ _ v3) (u _ _ v1) (u _ _ v2) M L
theorem Va(h:Df kvs c){k:Nat}(f:(Sum.inl (k:Int):Key)∈kvs.map (·.1)):CN kvs (Sum.inl (k:Int))=some (.int ((c k:Nat):Int)):=by
 rcases h.v k with e | ⟨e,_⟩
 ·exact e
 ·exfalso;obtain⟨b,d,a⟩:=ar.mp f;unfold CN at e;rw[Option.map_eq_none_iff] at e;exact List.find?_eq_none.mp e b d<|decide_eq_true a
def dO(bs:List<|Str×Nat):Option Nat->DN
 |none=>.con .cancel
 |some k=>match (Ew bs)[k]? with
  |some (a,n)=>.leave (.str (bs.getD a ("",0)).1)<|.int ((n:Nat):Int)
  |none=>.con .cancel
def FW(kvs:List<|Key×V):List Nat:=kvs.map λkv=>match kv.1 with | .inl i=>i.toNat | _=>0
theorem Lb(h:Df kvs c):kvs.map (·.1)=((FW kvs).map λk:Nat=>(k:Int)).map Sum.inl:=by
 unfold FW;rw[ay,ay];refine fh λb a=>?_;obtain⟨k,rfl,_⟩:=h.e b a;exact congrArg Sum.inl (show ((k:Nat):Int)=(((k:Nat):Int).toNat:Int) by omega)
theorem X4(h:Df kvs c)(b:(kvs.map (·.1)).Nodup):(FW kvs).Nodup:=by
 rw[Lb h,ay,List.Nodup,hX] at b;exact b.imp λa e=>a<|by rw[e]
theorem KJ(h:Df kvs c){k:Nat}:kH k∈kvs.map (·.1) ↔ k∈FW kvs:=by
 rw[Lb h,ay,ar];constructor
 ·rintro⟨j,b,e⟩;have e:((j:Nat):Int)=((k:Nat):Int):=Sum.inl.inj e;exact (show j=k by omega) ▸ b
 ·intro a;exact⟨k,a,U⟩
def tot(kvs:List<|Key×V)(c:Nat->Nat):Nat:=((FW kvs).map c).sum
theorem sum_set(c:Nat->Nat)(k m:Nat):∀l:List Nat,l.Nodup->(l.map<|setC c k m).sum+(if k∈l then c k else 0)=(l.map c).sum+(if k∈l then m else 0)
 |[],_=>rfl
 |x::l,f=>by
  obtain⟨b,g⟩:=fw.mp f;have a:=sum_set c k m l g;rw[cw,cw,gI,gI];by_cases e:x=k
  ·subst e;rw[if_neg b,if_neg b] at a;rw[if_pos List.mem_cons_self,if_pos List.mem_cons_self,show setC c x m x=m from if_pos U];omega
  ·rw[show setC c k m x=c x from if_neg e];by_cases h:k∈l
   ·rw[if_pos h,if_pos h] at a;rw[if_pos (ba _ h),if_pos<|ba _ h];omega
   ·have d:¬ k∈x::l:=λz=>(ce.mp z).elim (λz=>e z.symm) h;rw[if_neg h,if_neg h] at a;rw[if_neg d,if_neg d];omega
theorem V5(h:Df kvs c)(k:Nat)(v:V):FW (putK kvs (kH k) v)=if k∈FW kvs then FW kvs else FW kvs++[k]:=by
 have d:kvs.any (λf=>decide (f.1=kH k))=true ↔ k∈FW kvs:=by
  rw[<-KJ h,fF,ar];exact⟨λ⟨p,b,e⟩=>⟨p,b,of_decide_eq_true e⟩,λ⟨p,b,e⟩=>⟨p,b,decide_eq_true e⟩⟩
 unfold putK;split
 ·rename_i a;rw[if_pos (d.mp a)];unfold FW;rw[ay];refine fh λp _=>?_;show (match (if p.1=kH k then (p.1,v) else p).1 with | .inl i=>i.toNat | _=>0)=_;have:(if p.1=kH k then (p.1,v) else p).1=p.1:=by split <;> rfl
  rw[this]
 ·rename_i a;rw[if_neg λz=>a<|d.mpr z];unfold FW;rw[cq];exact congrArg _<|congrArg (λx=>[x])<|aS k
theorem Z7(h:Df kvs c)(g:(kvs.map (·.1)).Nodup)(k m:Nat)(v:V):tot (putK kvs (kH k) v) (setC c k m)+c k=tot kvs c+m:=by
 unfold tot;rw[V5 h];have d:=sum_set c k m (FW kvs)<|X4 h g
 by_cases a:k∈FW kvs
 ·rw[if_pos a,if_pos a] at d;rw[if_pos a];exact d
 ·rw[if_neg a,if_neg a] at d;rw[if_neg a,cq,fA];have i:c k=0:=by
   rcases h.v k with e | ⟨_,e⟩
   ·exfalso;refine a<|(KJ h).mp ?_
    unfold CN at e;obtain⟨b,f,_⟩:=av.mp e;have j:b.1=kH k:=of_decide_eq_true<|kL (p:=λb:Key×V=>decide (b.1=kH k)) f
    exact j ▸ aE (gS f)
   ·exact e
  show _+((setC c k m k)+0)+c k=_;rw[show setC c k m k=m from if_pos U,i];omega
theorem lX{k:Nat}(h:k∈FW kvs):c k<=tot kvs c:=by
 unfold tot;generalize FW kvs=l at h
 induction l with
 |nil=>cases h
 |cons a l b =>
  rw[cw,gI];rcases ce.mp h with rfl | h
  ·omega
  ·have:=b h;omega
def PP(c:Nat->Nat)(m:Int):List<|Option Nat:=List.replicate (c m.toNat)<|some m.toNat
theorem Py(c:Nat->Nat)(k:Nat):∀(ms:List Int),ms.Nodup->(∀m∈ms,0<=m)->(ms.flatMap<|PP c).count (some k)=if ((k:Nat):Int)∈ms then c k else 0
 |[],_,_=>rfl
 |m::ms,d,h=>by
  obtain⟨i,f⟩:=fw.mp d;have g:=Py c k ms f λx b=>h x<|ba _ b
  have j:=h m bg;rw[kU,List.count_append,g];unfold PP;by_cases e:m=((k:Nat):Int)
  ·rw[e,aS,List.count_replicate_self,if_pos bg,if_neg<|e ▸ i];rfl
  ·rw[List.count_replicate,if_neg (λz=>by have:=Option.some.inj<|eq_of_beq z;omega),Nat.zero_add];by_cases a:((k:Nat):Int)∈ms
   ·rw[if_pos a,if_pos<|ba _ a]
   ·rw[if_neg a,if_neg λz=>(ce.mp z).elim (λz=>e z.symm) a]
theorem QT(c:Nat->Nat):∀l:List Nat,((l.map λk:Nat=>(k:Int)).flatMap<|PP c).length=(l.map c).sum
 |[]=>rfl
 |m::l=>by
  have a:=QT c l;rw[cw,kU,ai,a,cw,gI];unfold PP;rw[gz,aS]
theorem W4{a:List Int}{k:Nat}(h:some k∈a.flatMap (PP c)):∃m∈a,k=m.toNat:=by
 obtain⟨m,b,h⟩:=List.mem_flatMap.mp h;exact⟨m,b,Option.some.inj<|List.eq_of_mem_replicate h⟩
theorem RB{α:Type}{F:α->V->Prop}{l:List α}{m:List V}(h:Paired F l m):Paired F l.reverse m.reverse:=by
 induction h with
 |nil=>exact .nil
 |cons a _ b =>
  rw[kg,kg];exact C_ b<|.cons a .nil
inductive kj(K:W.Frag)(C:Addr)(vs:List V)(H:Hp)(Q:VK)(b9:XK):Prop
 |mk(a x DH:Addr)(ns:List Int)(us:List V)(rk:List (Str×Nat×Int))(ls:List (List Ln:_))(sts:List Nat)(cn:Nat->Str)(sz:List Nat)(kbs:List Kb)(kh:List (Key×V))(c:Nat->Nat):vs=[.ref a,.ref x,.ref DH]->De K H a (ns.map V.int)->Hq C H x us (Bd cn sz) rk (Bq cn kbs) ls sts->H DH=some (.dK kh)->Df kh c->(kh.map (·.1)).Nodup->kh.length<=30->(∀k,kH k∈kh.map (·.1)->k<sz.sum)->tot kh c<=30->(∀(D:Addr) (kk:List (Option Nat)) (vT:List V) H',H D=none->Am H H'->H' D=some (.lst vT)->Paired (λo v=>TupAt H' (dO (Bd cn sz) o).v v) kk vT->(∀k,kk.count (some k)=c k)->(∀k,some k∈kk->k<sz.sum)->kk.length<=31->Q (.ref D) H')->kj K C vs H Q b9
theorem Ss:Av ["_law_script","_law_organ","_law_hands","_law_deeds","_law_key","_law_at","_law_number","_law_k"] zd (Af sLa):=Bg
include N T in
theorem qG:An P w K mg base Bb 2 aD.fLa aD.dLa zd<|kj K C:=by
 refine N.FLa.1.Dg Ss λH vs Q E hr h=>?_;obtain⟨a,x,S,ns,us,rk,ls,aZ,F,sz,a3,kh,c,rfl,hS,OX,wl,hh,an,a4,oe,FX,q⟩:=h;have hu:=CG hr;refine⟨_,(Ae (Be (i:=3) Ss.nd U (Or.inl U)<|DK Ab)
  (Ae (Dk PassesOwn.never U (Bl<|BK (Gs U) U T.sorted PyProof.Rows.boot_sorted<|Aa (pv 2) Ab) (Bt (i:=4) Ss.nd U<|Or.inl U) (Ae (Om (Bp (pv 1) T.cl N.FOo.2.2 (Tg N T) (ad hr) N.FOo.2.1 .nil Ao<|Aa (pv 4) Ab)<|JN U<|DY (Bt (i:=5) Ss.nd U<|Or.inl U)<|DY (Bt (i:=6) Ss.nd U<|Or.inl U) HF)
  (Ag<|Dk PassesOwn.never U (Dr U T.range<|Aa (Ey hu (pv 2) (pv 4)<|λ_ _=>rfl) Ab) (Bt (i:=7) Ss.nd U<|Or.inl U)<|Ag<|Bw<|G5 ci dc dn Di (pv 3)<|Aa (CK<|Aa BP<|Aa (Az (Ar (K:=K) U) (Az (Bk (K:=K) U) (Bm (pv 1) T.cl N.FOb.2.2 (Qy N T) (ad hr) N.FOb.2.1 .nil Ao) (pv 5)<|λ_ _=>rfl) Ac<|λ_ _=>rfl)<|Aa (pv 6) Ab) Ab)))
  (Ae (Bh (BR CP (BZ Eu (zC (dJ N T) hr U N.FCe<|Aa (pv 0)<|Aa Ac Ab) Ac) Ac<|BX _) (Ag<|Bw<|S_ ci PySem.F.slot_list_reverse PySem.F.type_list_reverse RW<|pv 3) Ba)
  (Ae (Bh (BR CP (BZ Eu (BZ K_ (zC (dJ N T) hr U N.FCe<|Aa (pv 0)<|Aa Ac Ab) Ac) Ac) Ac<|BX _) (Ag<|Be (i:=3) Ss.nd U (Or.inl U)<|BZ O6 (DK<|Aa (CK<|Aa BP Ab) Ab)<|pv 3) Ba)
  (Ag<|Ax<|pv 3))))),?_⟩
 obtain⟨⟨⟨dx,fs,_,_,_,_,_,_,_,_,hx,_,_,_,_,lm,_⟩,sP,rV,tf⟩,_⟩:=id OX.o;refine⟨Bv (by simp),λD hD=>?_⟩;obtain⟨H1,i5,s1,u1⟩:=Du (o:=HO.lst []) hD;rw[i5];have W:=Lb hh;generalize aN:FW kh=js at W;refine⟨_,U,S,kh,_,U,s1 _ _ wl,W,by omega,λB f NW pm pw=>?_⟩;have s2:=BL (o:=HO.lst<|f.map V.int) NW;have l2:upd H1 B (HO.lst<|f.map V.int) B=some (.lst<|f.map V.int):=Aj;have as:D≠B:=Ai u1 NW;have u2:=s2 _ _ u1;generalize upd H1 B (HO.lst (f.map V.int))=H2 at s2 l2 u2 |-;have aB:=s1.trans s2;have a2:f.length<=30:=by
  have L:=congrArg List.length W;have h2:=pm.length_eq;rw[af] at L h2;rw[af,af] at L;omega
 have aw:f.Nodup:=by
  have nd:=an;rw[W,List.Nodup,hX] at nd;exact pm.nodup_iff.mpr<|nd.imp λaK e=>aK<|congrArg Sum.inl e
 have mk:∀m∈f,∃k:Nat,m=((k:Nat):Int)/\kH k∈kh.map (·.1):=λm A=>by
  have L:=pm.mem_iff.mp A;obtain⟨k,_,rfl⟩:=ar.mp L;exact⟨k,U,by rw[W];exact aE L⟩
 have M:(f.flatMap<|PP c).length<=30:=by
  rw[(pm.flatMap_right<|PP c).length_eq,QT,<-aN];exact FX
 have ab:∀i,((f.take i).flatMap<|PP c).length<=30:=λi=>by
  have L:f.flatMap (PP c)=(f.take i).flatMap (PP c)++(f.drop i).flatMap (PP c):=by rw[<-kG,gc]
  have h2:=congrArg List.length L;rw[ai] at h2;omega
 refine⟨B,U,⟨_,ma l2⟩,forL (K:=K) (a:=B) (xs:=f.map V.int) (λi σ J=>Am H J/\J B=some (.lst<|f.map V.int)/\∃(d:List V)(Y v5 v6 y:Option V),J D=some (.lst d)/\Paired (λo v=>TupAt J (dO (Bd F sz) o).v v) ((f.take i).flatMap<|PP c) d/\σ=[some (.ref a),some<|.ref x,some<|.ref S,some<|.ref D,Y,v5,v6,y]) ⟨aB,l2,[],_,_,_,_,u2,.nil,U⟩ (λi σ J _ h=>ma h.2.1) ?_ ?_⟩
 ·rintro i _ pr v σ J hi ⟨sx,lx,d,Y,v5,v6,y,t,s,rfl⟩;rw[am] at hi;obtain⟨m,A,rfl⟩:=av.mp hi;obtain⟨k,rfl,z⟩:=mk m<|ah A;have ap:=oe k z;have aC:k<(Ew<|Bd F sz).length:=by rw[Eh,Cz];exact ap
  obtain⟨⟨a0,m0⟩,yT⟩:∃qd,(Ew (Bd F sz))[k]? = some qd:=⟨_,ae aC⟩;obtain⟨b2,X,w9,ek⟩:=K4 yT;have et:(f.take<|i+1).flatMap (PP c)=(f.take i).flatMap (PP c)++List.replicate (c k) (some k):=by
   rw[cr,A,kG];show _++List.flatMap (PP c) [((k:Nat):Int)]=_;rw[kU,List.flatMap_nil,dE];rfl
  have a1:=ab i;have eO:(dO (Bd F sz)<|some k).v=[V.str "leave",V.str b2.1,V.int ((m0:Nat):Int)]:=by
   unfold dO;try dsimp only
   rw[yT];try dsimp only
   rw[bi,X];rfl
  refine⟨_,U,x,dx,fs,U,sx _ _ hx,lm _<|by decide,_,U,x,_,_,k,(a0,m0),U,(OX.mono sx).o.o,yT,λyq Sj=>?_⟩;obtain⟨Tq,rfl,OR⟩:=Sj;refine⟨Tq,_,U,ma OR,U,_,_,U,_,_,U,U,?_⟩;have g:=Ed.k (k:=kH k)<|sx _ _ wl
  rw[Va hh z] at g;have ck:c k<=30:=be (lX<|(KJ hh).mp z) FX;refine⟨_,U,_,U,S,_,U,g,_,U,by omega,by omega,forR (lo:=0) (n:=((c k:Nat):Int).toNat) (λj σ R=>Am H R/\R B=some (.lst<|f.map V.int)/\∃(d:List V)(y:Option V),R D=some (.lst d)/\Paired (λo v=>TupAt R (dO (Bd F sz) o).v v) ((f.take i).flatMap (PP c)++List.replicate j (some k)) d/\σ=[some (.ref a),some<|.ref x,some<|.ref S,some<|.ref D,some<|.int ((k:Nat):Int),some<|.int ((a0:Nat):Int),some<|.int ((m0:Nat):Int),y]) ⟨sx,lx,d,_,t,by rw[List.replicate_zero,dE];exact s,U⟩ ?_ ?_⟩
  ·rintro j _ pr σ R aQ ⟨sy,ly,d,y,dy,py,rfl⟩;have OY:=OX.mono sy;have zl:=py.length;rw[ai,gz] at zl;refine⟨_,U,.inl ⟨U,_,ma dy⟩,_,U,x,dx,fs,U,sy _ _ hx,lm _<|by decide,x,_,_,U,OY.o.o,λDB i6 H5 RS s5 sw aP=>?_⟩;obtain⟨yb,F',Tb,rfl,tJ⟩:=B_ aP X;refine⟨_,U,DB,_,_,_,U,U,ma sw,Ah F',Tb,_,_,_,U,U,ma tJ,Ah (j:=0) U,_,U,by show 3<=sizeLine;decide,λT6 tz=>?_⟩;have s6:=BL (o:=HO.tup [V.str "leave",V.str b2.1,V.int ((m0:Nat):Int)]) tz;have u6:upd H5 T6 (HO.tup [V.str "leave",V.str b2.1,V.int ((m0:Nat):Int)]) T6=some (.tup (dO (Bd F sz)<|some k).v):=by rw[eO];exact Aj
   generalize a5:upd H5 T6 _=H6 at s6 u6 |-;have MW:=s5.trans s6;have d6:=MW _ _ dy;refine⟨D,d,_,U,U,d6,BJ<|by omega,pr _ _ ⟨λb o e=>?_,?_,d++[V.ref T6],_,Aj,?_,U⟩⟩
   ·rw[Aw (Ai e hD)];exact MW _ _<|sy _ _ e
   ·rw[Aw (Ne.symm as)];exact MW _ _ ly
   ·rw[List.replicate_succ',<-fN];exact (By (Aq MW py) d6).snoc<|TupAt.upd ⟨T6,U,u6⟩ d6
  ·rintro σ R ⟨sy,ly,d,y,dy,py,rfl⟩;rw[aS] at py;exact pr _ _ ⟨sy,ly,d,_,_,_,_,dy,by rw[et];exact py,U⟩
 rintro σ J ⟨sx,lx,d,Y,v5,v6,y,t,s,rfl⟩;have ln:(f.map V.int).length=f.length:=af ..;rw[ln,dt] at s;have cnt:∀k,(f.flatMap<|PP c).count (some k)=c k:=λk=>by
  rw[Py c k f aw λm A=>by obtain⟨k,rfl,_⟩:=mk m A;omega];by_cases h:((k:Nat):Int)∈f
  ·exact if_pos h
  ·rw[if_neg h];rcases hh.v k with e | ⟨_,e⟩
   ·exfalso;unfold CN at e;obtain⟨kv,hf,_⟩:=av.mp e;have e1:kv.1=kH k:=of_decide_eq_true<|kL (p:=λkv:Key×V=>decide (kv.1=kH k)) hf
    have e2:kH k∈kh.map (·.1):=e1 ▸ aE (gS hf);rw[W] at e2;obtain⟨i,hi,e3⟩:=ar.mp e2;exact h<|pm.mem_iff.mpr<|(show i=((k:Nat):Int) from Sum.inl.inj e3) ▸ hi
   ·exact e.symm
 have l:∀k,some k∈f.flatMap (PP c)->k<sz.sum:=λk z=>by
  obtain⟨m,A,rfl⟩:=W4 z;obtain⟨k,rfl,h⟩:=mk m A;rw[aS];exact oe k h
 have O:=M;generalize f.flatMap (PP c)=r at s cnt l O;try dsimp only
 refine Qh (λZ u=>Am H u/\∃(r:List<|Option Nat)(d:List V),u D=some (.lst d)/\Paired (λo v=>TupAt u (dO (Bd F sz) o).v v) r d/\(∀k,r.count (some k)=c k)/\(∀k,some k∈r->k<sz.sum)/\r.length<=30/\Z=[some (.ref a),some<|.ref x,some<|.ref S,some<|.ref D,Y,v5,v6,y]) (λD' vS=>?_)<|λZ u h=>?_
 ·refine⟨_,U,a,1,ns,U,sx.seq hS,_,_,U,U,(by show (0:Int)<2;decide),U,_,U,Cw (λ_=>?_)<|λ_=>vS _ _ ⟨sx,r,d,t,s,cnt,l,by omega,U⟩⟩;refine⟨_,U,.inl ⟨U,_,ma t⟩,D,_,U,U,t,vS _ _ ⟨λb o e=>?_,r.reverse,d.reverse,Aj,RB<|By s t,λk=>by rw[List.count_reverse];exact cnt k,λk z=>l k<|List.mem_reverse.mp z,by rw[List.length_reverse];omega,U⟩⟩;rw[Aw (Ai e hD)];exact sx _ _ e
 clear sx t s cnt l O;obtain⟨sx,r,d,t,s,cnt,l,O,rfl⟩:=h;refine Qh (λZ u=>Am H u/\∃(I:Addr)(r:List<|Option Nat)(d:List V),H I=none/\u I=some (.lst d)/\Paired (λo v=>TupAt u (dO (Bd F sz) o).v v) r d/\(∀k,r.count (some k)=c k)/\(∀k,some k∈r->k<sz.sum)/\r.length<=31/\Z=[some (.ref a),some<|.ref x,some<|.ref S,some<|.ref I,Y,v5,v6,y]) (λD' vS=>?_)<|λZ u h=>?_
 ·refine⟨_,U,a,1,ns,U,sx.seq hS,_,_,U,U,⟨by decide,by decide⟩,_,_,U,U,(by show (0:Int)<3;decide),U,_,U,Cw (λ_=>?_)<|λ_=>vS _ _ ⟨sx,D,r,d,hD,t,s,cnt,l,by omega,U⟩⟩;refine⟨by show 1<=sizeLine;decide,λG MY=>?_⟩;have s7:=BL (o:=HO.tup [V.str "cancel"]) MY;have u7:upd u G (HO.tup [V.str "cancel"]) G=some (.tup [V.str "cancel"]):=Aj;generalize upd u G (HO.tup [V.str "cancel"])=H7 at s7 u7 |-;refine⟨by show 1<=sizeLine;decide,λP8 aM=>?_⟩;obtain⟨H8,i5,s8,u8⟩:=Du (o:=HO.lst [V.ref G]) aM;rw[i5];have UB:=s7.trans s8;have zl:=s.length;refine⟨_,U,P8,D,_,_,U,U,u8,UB _ _ t,Bv (by show 1+d.length<=_;omega),λI on=>?_⟩;have s9:=BL (o:=HO.lst<|[V.ref G]++d) on;have ac:=UB.trans s9;exact vS _ _ ⟨sx.trans ac,I,none::r,[V.ref G]++d,(sx.trans UB).free on,Aj,.cons ⟨G,U,(s8.trans s9) _ _ u7⟩<|Aq ac s,λk=>by rw[kA (by intro h;cases h)];exact cnt k,λk z=>l k ((ce.mp z).resolve_left<|by intro h;cases h),by rw[bp];omega,U⟩
 clear sx t s cnt l O;obtain⟨sx,I,r,d,on,t,s,cnt,l,O,rfl⟩:=h;exact⟨_,U,q I r d u on sx t s cnt l O⟩
inductive Q3(K:W.Frag)(vs:List V)(H:Hp)(Q:VK)(b9:XK):Prop
 | mk(a:Addr)(ns:List Int):vs=[.ref a]->De K H a (ns.map V.int)->ns.length<=63->(∀H',Q (.bl true) H')->Q3 K vs H Q b9
def c9(bs:List<|Str×Nat)(nms:List Str):Nat->Str:=λj=>if j<30 then nB bs j else nms.getD (j - 30) ""
theorem bs9{bs:List (Str×Nat)}(nms:List Str)(h:bs.length<=3):Bd (c9 bs nms) (bs.map (·.2))=bs:=by
 refine fI λi=>?_;by_cases a:i<bs.length
 ·have b:(bs.map (·.2))[i]? = some (zB bs i):=by rw[am,Q7 a];rfl
  rw[Fx b,Q7 a];show some (c9 bs nms i,zB bs i)=some (nB bs i,zB bs i);unfold c9;rw[if_pos (by omega)]
 ·rw[eI (by rw[Mi,af];omega),eI<|by omega]
theorem ks9{bs:List (Str×Nat)}(h:bs.length<=3)(hl:nms.length=kbs.length)(j:∀z∈kbs,z.ok bs.length):Bq (c9 bs nms) kbs=Kr bs nms kbs:=by
 refine fI λi=>?_;unfold Kr;by_cases g:i<kbs.length
 ·have e:=ae g;have c:nms[i]? = some nms[i]:=ae<|by omega
  rw[GJ e,gE,e,c];have f:c9 bs nms (30+i)=nms[i]:=by
   unfold c9;rw[if_neg (by omega),jv,bi,c];rfl
  have d:∀{b:Nat},b<bs.length->c9 bs nms b=nB bs b:=λ{b} k=>by
   unfold c9;rw[if_pos (by omega)]
  have a:=j _<|eR g
  show some (W0 (c9 bs nms) i kbs[i])=some (kR (nB bs) nms[i] kbs[i]);generalize kbs[i]=z at a
  cases z with
  |cp p q s =>
   show some (⟨"coupler",c9 bs nms<|30+i,[.str (c9 bs nms p),.str<|c9 bs nms q,.int s]⟩:R)=some ⟨"coupler",nms[i],[.str (nB bs p),.str<|nB bs q,.int s]⟩;rw[f,d a.1,d a.2.1]
  |pl wd p =>
   show some (⟨wd,c9 bs nms<|30+i,[.str (c9 bs nms p)]⟩:R)=some ⟨wd,nms[i],[.str (nB bs p)]⟩;rw[f,d a.1]
 ·rw[eI (by rw[Qp];omega),eI<|by rw[jp];omega]
theorem J7.org{c:Int}{k ld:Nat}{bs:List (Str×Nat)}{rk:List (Str×Nat×Int)}{sn:List Str}(h:J7 K aB aP aM c k ld m bs rk rows nms kbs ls sts sn)(l:1<=bs.length)(p:m<=150)(q:k<=12)(f:Paired (λ(r:R) v=>TupAt H r.v v) rows vs):Rows H (My H) vs/\zx K aB aP aM (My H) vs bs rk (Kr bs nms kbs)/\linesOf rk (vs.map<|My H)=ls/\((vs.filter<|pw (My H) "step").map λv=>stN (Kr bs nms kbs)<|My H v)=sts:=by
 have g:(Kr bs nms kbs).length=kbs.length:=by
  unfold Kr;rw[jp,h.nl];exact Nat.min_self _
 refine h.bl.fin f l (by have:=h.bd.lb;omega) (λb o=>?_) (by have:=h.bd.lr;omega) (λr d=>?_) (by have:=h.nk;omega) h.bd.uh h.bd.ndr ?_ (by have:=h.rl;omega)
 ·obtain⟨j,a⟩:=eK o;exact (h.bd.b j b a).2.2
 ·obtain⟨j,a⟩:=eK d;exact be (h.bd.r j r a).2.2.1 (by decide)
 ·have e:(Kr bs nms kbs).map (·.nm)=nms:=by
   refine fI λi=>?_;unfold Kr;rw[am,gE];by_cases n:i<nms.length
   ·rw[ae n,ae (by have:=h.nl;omega:i<kbs.length)];exact congrArg some<|Nu _ _ _
   ·rw[eI (by omega:nms.length<=i)];rfl
  rw[e];exact h.nd
theorem sH{sz:List Nat}{rk:List (Str×Nat×Int)}{cl:List Nat}{p:Nat}(f:e_ rk ls)(h:(iw sz rk kbs ls cl n).testBit p=true):p<ZZ rk:=by
 obtain⟨k,_,d⟩:=Ow.mp h;have c:∀b∈ls.getD k [],lO rk b:=λb a=>by
  rw[bi] at a
  cases e:ls[k]? with
  |none=>rw[e] at a;cases a
  |some l=>rw[e] at a;exact (f l<|ah e).2 b a
 obtain⟨b,hl,i,_,_,_,_,g,m,j⟩:=(Xk c).mp d;have:=RQ (c b hl).r;omega
theorem pZ{sz:List Nat}{rk:List (Str×Nat×Int)}{cl:List Nat}(b:e_ rk ls)(h:ZZ rk<=42):iw sz rk kbs ls cl n<2 ^ 42:=by
 refine iP _ λi c=>?_;rw[<-fo];intro a;have:=sH b a;omega
theorem aH{c:Int}{bs:List (Str×Nat)}{rk:List (Str×Nat×Int)}(h:O5 c bs rk):ZZ rk<=42:=by
 have key:∀l:List<|Str×Nat×Int,(∀r∈l,r.2.1<=14)->(l.map<|λr=>r.2.1).sum<=14 * l.length:=λl=>by
  induction l with
  |nil=>intro _;exact al _
  |cons r l d =>
   intro b;have:=d λr a=>b r<|ba _ a
   have:=b r bg;rw[cw,gI,bp];omega
 have:=key rk λr a=>by
  obtain⟨j,e⟩:=eK a;exact (h.r j r e).2.2.1
 have:=h.lr;unfold ZZ;omega
theorem ZJ{bs:List (Str×Nat)}(h:nms.length=kbs.length):JC (Kr bs nms kbs)=nms:=by
 refine fI λi=>?_;unfold JC Kr;rw[am,gE];by_cases a:i<nms.length
 ·rw[ae a,ae (by omega:i<kbs.length)];exact congrArg some<|Nu _ _ _
 ·rw[eI (by omega:nms.length<=i)];rfl
theorem gO{bs:List (Str×Nat)}{v u:V}{k:Nat}(h:FQ bs v u k):k<(bs.map (·.2)).sum:=by
 obtain⟨j,n,b,_,_,e,_,d,rfl⟩:=h;have c:=Z9 e d;have a:=(ag.mp c).1;rw[Eh] at a;exact a
structure WM(C:Addr)(H:Hp)(x:Addr)(us:List V)(rk:List<|Str×Nat×Int)(ls:List<|List Ln)(sts:List Nat)(cn:Nat->Str)(sz:List Nat)(kbs:List Kb):Prop where
 o:Hq C H x us (Bd cn sz) rk (Bq cn kbs) ls sts
 f:gQ (Bd cn sz)<|Bq cn kbs
 kb:UJ sz.length kbs
 lg:e_ rk ls
 st:sts.length<=2
 bd:∀D n p,DP cn sz rk kbs ls D n p->p<2 ^ 42
 z1:∀k∈sz,1<=k
 l1:1<=sz.length
theorem J7.og{c:Int}{k ld:Nat}{bs:List (Str×Nat)}{rk:List (Str×Nat×Int)}{sn:List Str}(h:J7 K aB aP aM c k ld m bs rk rows nms kbs ls sts sn)(w:1<=bs.length)(A:k<=12){x:Addr}(v:Hq C H x us bs rk (Kr bs nms kbs) ls sts):∃(cn:Nat->Str)(sz:List Nat),WM C H x us rk ls sts cn sz kbs:=by
 have a:=h.bd.lb;have l:=bs9 nms a;have o:=ks9 a h.nl h.kb.ok;refine⟨c9 bs nms,bs.map (·.2),?_,?_,by rw[af];exact h.kb,h.lg,h.st,?_,?_,by rw[af];exact w⟩
 ·rw[l,o];exact v
 ·rw[l,o];refine⟨λn e=>?_,h.bd.uh,λn e=>?_,?_,?_,λr u=>?_⟩
  ·obtain⟨b,i,rfl⟩:=ar.mp e;obtain⟨j,g⟩:=eK i;rw[(h.bd.b j b g).1];exact HD _ _
  ·rw[ZJ h.nl] at e;obtain⟨j,_,rfl⟩:=h.nm n e;exact HD _ _
  ·rw[ZJ h.nl];exact h.nd
  ·have:(Kr bs nms kbs).length=kbs.length:=by unfold Kr;rw[List.length_zipWith,h.nl];exact Nat.min_self _
   have:=h.nk;omega
  ·obtain⟨t,_,z,f,rfl⟩:=Oh u;have ok:=h.kb.ok z f
   cases z with
   |cp p q s =>
    have d:p<bs.length:=ok.1;exact⟨_,ah<|Q7 d,_,U⟩
   |pl wd p =>
    have d:p<bs.length:=ok.1;exact⟨_,ah<|Q7 d,_,U⟩
 ·intro D n p d;obtain⟨y,m,_,_,rfl⟩:=d;exact pZ h.lg<|aH h.bd
 ·intro z f;obtain⟨b,i,rfl⟩:=ar.mp f;obtain⟨j,g⟩:=eK i;exact (h.bd.b j b g).2.1
theorem WM.Lw{a:Hp}{x:Addr}{rk:List (Str×Nat×Int)}{b:Nat->Str}{sz:List Nat}(g:WM C a x us rk ls sts b sz kbs)(s:Am a H)(e:a y=none)(i:a hd=none)(ns:a sd=none)(d:H hd=some (.dK []))(m:Dq Cy H y x 0 0 sd)(j:J3 Cp H z x y hd)(c:H sd=some (.dK []))(o:sd≠y)(l:hd≠sd)(f:z≠y):Gz C Cy Cp pE pA a H z x y hd us rk ls sts ⟨0,0,λ_=>none⟩ sd [] (λ_=>0) 0 b sz kbs:=by
 have r:(Bq b kbs).length<=12:=g.f.kl;have q:=Fj g.o.o.o;rw[Cz] at q;refine⟨⟨⟨⟨g.o,s,e,m⟩,j,i,d,Df.nil⟩,g.f,ns,o,⟨[],c,al _,λp _ _=>rfl,λp t _ h=>nomatch h⟩,f,l⟩,⟨g.kb,g.lg,g.f.kn,by omega,eJ _,by have:=g.st;omega,λk h=>absurd h<|by decide,by decide⟩,λD n p h=>br (g.bd D n p h)<|by decide,λv u k h=>?_,by omega⟩;have:=gO h;rw[Cz] at this;exact this
theorem y_(d:Fl):(d.wd == ("hold" : Str))=false:=by cases d <;> (dsimp only[Fl.wd];decide)
theorem zR(d:Fl):(d.wd == ("leave" : Str))=false:=by cases d <;> (dsimp only[Fl.wd];decide)
theorem Qs{b:Nat->Str}{sz:List Nat}{D:Nat}(h:O4 b sz kbs D 0 j):False:=by
 have key:∀{j},Ph (stp (Bd b sz) kbs D) (λi=>(0:Nat).testBit i=true) j->False:=λh=>by
  induction h with
  |one a _=>rw[im] at a;cases a
  |more _ _ c=>exact c
 rcases h with h | ⟨h,_⟩
 ·exact key h
 ·rw[im] at h
  cases h
theorem V2(b:Nat->Str)(sz:List Nat)(rk:List<|Str×Nat×Int)(kbs:List Kb)(a:List<|List Ln):DP b sz rk kbs a 0 0 0:=by
 refine⟨[],0,λk=>⟨(λh=>nomatch h),λ⟨z,_,_,h⟩=>by rw[im] at h;cases h⟩,λj=>⟨(λh=>by rw[im] at h;cases h),λh=>(Qs h).elim⟩,U⟩
theorem WT{q:Nat->Str}{sz:List Nat}{rk:List (Str×Nat×Int)}{D p:Nat}(o:e_ rk ls)(h:DP q sz rk kbs ls D 0 p):p=0:=by
 obtain⟨r,m,_,n,rfl⟩:=h;have f:∀j,m.testBit j=false:=λj=>by
  cases e:m.testBit j with
  |false=>rfl
  |true=>exact (Qs<|(n j).mp e).elim
 refine fe λp=>?_;rw[im,<-fo];intro c;obtain⟨k,_,c⟩:=Ow.mp c;have g:∀b∈ls.getD k [],lO rk b:=λb a=>by
  rw[bi] at a
  cases e:ls[k]? with
  |none=>rw[e] at a;cases a
  |some l=>rw[e] at a;exact (o l<|ah e).2 b a
 obtain⟨b,hl,i,_,d,_⟩:=(Xk g).mp c;rw[f] at d
 cases d
structure Wk where
 cn:Nat->Str
 sz:List Nat
 rk:List<|Str×Nat×Int
 kbs:List Kb
 ls:List<|List Ln
 sts:List Nat
structure Ent where
 d:DN
 A:List Nat
 B:List Nat
inductive Ku(W:Wk)(s:Cs)(c:Nat->Nat)(p:Nat):Prop
 | mk(h:Nat):(∀k,h.testBit k=true ↔ 0<c k)->DP W.cn W.sz W.rk W.kbs W.ls (V9 s W.sts) h p->Ku W s c p
theorem Ku.oK{W:Wk}{s:Cs}{p d:Nat}(h:Ku W s c p)(g:Ku W s c d):p=d:=by
 obtain⟨a,e,j⟩:=h;obtain⟨b,f,i⟩:=g;obtain rfl:a=b:=fe λk=>by rw[db,e,f]
 exact MK j i
theorem Ku.of{W:Wk}{s:Cs}{p:Nat}(h:Df kvs c)(g:DP W.cn W.sz W.rk W.kbs W.ls (V9 s W.sts) (Wd.mk<|DQ kvs) p):Ku W s c p:=⟨_,λk=>by rw[Wd.HX,decide_eq_true_eq,h.mem],g⟩
theorem Zk{bs:List (Str×Nat)}{s f e:Cs}{l j:Nat->Nat}{d:DN}(hl:GZ bs ks n c d)(h:Zc cK cP cB cS cH cY bs ks n s c d f l)(g:Zc cK cP cB cS cH cY bs ks n s c d e j):f=e/\l=j:=by
 rcases h with h | ⟨h,rfl,rfl⟩
 ·rcases g with g | ⟨g,rfl,rfl⟩
  ·cases d with
   |hold v u =>
    obtain⟨rfl,k,a,rfl⟩:=h;obtain⟨rfl,m,b,rfl⟩:=g;rw[Gx a b];exact⟨U,U⟩
   |leave v u =>
    obtain⟨rfl,k,a,_,rfl⟩:=h;obtain⟨rfl,m,b,_,rfl⟩:=g;rw[Gx a b];exact⟨U,U⟩
   |con d =>
    obtain⟨rfl,u,h⟩:=h;obtain⟨rfl,o,g⟩:=g;exact⟨congrArg Prod.fst<|h.symm.trans g,U⟩
  ·cases d with
   |con d =>
    obtain⟨_,u,h⟩:=h;obtain⟨i,g,_⟩:=g
    cases congrArg Prod.snd (h.symm.trans g)
   |_=>exact (GD hl U g).elim
 ·rcases g with g | ⟨g,rfl,rfl⟩
  ·cases d with
   |con d =>
    obtain⟨_,u,g⟩:=g;obtain⟨i,h,_⟩:=h
    cases congrArg Prod.snd (h.symm.trans g)
   |_=>exact (GD hl U h).elim
  ·exact⟨U,U⟩
def fB(cK cP cB cS cH cY:Addr)(W:Wk)(s:Cs)(c:Nat->Nat)(e:Ent)(s':Cs)(c':Nat->Nat):Prop:=(∀H2,e.d.odd H2)/\GZ (Bd W.cn W.sz) (Bq W.cn W.kbs) W.sts.length c e.d/\Zc cK cP cB cS cH cY (Bd W.cn W.sz) (Bq W.cn W.kbs) W.sts.length s c e.d s' c'/\∃p1 p2,Ku W s c p1/\Ku W s' c' p2/\e.A=Wd.mem (Gw p2 p1)/\e.B=Wd.mem (Gw p1 p2)
def Run(cK cP cB cS cH cY:Addr)(W:Wk):Cs->(Nat->Nat)->List Ent->Cs->(Nat->Nat)->Prop
 |s,c,[],s',c'=>s=s'/\c=c'
 |s,c,e::es,s',c'=>∃s1 c1,fB cK cP cB cS cH cY W s c e s1 c1/\Run cK cP cB cS cH cY W s1 c1 es s' c'
theorem Run.snoc{W:Wk}{e:Ent}{d b:Cs}{a f:Nat->Nat}:∀{es:List Ent}{s:Cs}{c:Nat->Nat},Run cK cP cB cS cH cY W s c es d a->fB cK cP cB cS cH cY W d a e b f->Run cK cP cB cS cH cY W s c (es++[e]) b f
 |[],_,_,⟨rfl,rfl⟩,h=>⟨_,_,h,U,U⟩
 |_::_,_,_,⟨i,j,g,r⟩,h=>⟨i,j,g,r.snoc h⟩
inductive U_(LG:Addr)(H:Hp)(e:Ent)(v:V):Prop
 | mk(E t T2 L1 L2:Addr):v=.ref E->H E=some (.tup [.ref t,.ref T2])->H t=some (.tup e.d.v)->H T2=some (.tup [.ref L1,.ref L2])->H L1=some (.lst (nV e.A))->H L2=some (.lst (nV e.B))->L1≠LG->L2≠LG->U_ LG H e v
theorem U_.keep{c:Addr}{e:Ent}{v:V}(h:U_ c H e v)(b:∀a xs,H a=some (.tup xs)->H' a=some (.tup xs))(f:∀a xs,H a=some (.lst xs)->a≠c->H' a=some (.lst xs)):U_ c H' e v:=by
 obtain⟨E,t,T2,l,L2,j,i,n,o,m,k,d,g⟩:=h;exact⟨E,t,T2,l,L2,j,b _ _ i,b _ _ n,b _ _ o,f _ _ m d,f _ _ k g,d,g⟩
structure Pg(C Cy Cp pE pA cK cP cB cS cH cY:Addr)(Ho H:Hp)(z x y hd:Addr)(us:List V)(W:Wk)(sd DS LG:Addr)(s:Cs)(kvs kd:List<|Key×V)(lv:List V)(es:List Ent)(c:Nat->Nat)(p n:Nat):Prop where
 sm:Am Ho H
 pl:Gz C Cy Cp pE pA Ho H z x y hd us W.rk W.ls W.sts s sd kvs c n W.cn W.sz W.kbs
 kl:kvs.length<=n
 ds:H DS=some (.dK kd)
 sn:Kp kd p.testBit
 so:DP W.cn W.sz W.rk W.kbs W.ls (V9 s W.sts) (Wd.mk<|DQ kvs) p
 lg:H LG=some (.lst lv)
 en:Paired (U_ LG H) es lv
 ll:lv.length=n
 rn:Run cK cP cB cS cH cY W ⟨0,0,λ_=>none⟩ (λ_=>0) es s c
theorem Pg.mono{x:Addr}{W:Wk}{b f:Addr}{s:Cs}{a:List V}{d:List Ent}{p:Nat}(t:Am H H')(h:Pg C Cy Cp pE pA cK cP cB cS cH cY Ho H z x y hd us W sd b f s kvs kd a d c p n):Pg C Cy Cp pE pA cK cP cB cS cH cY Ho H' z x y hd us W sd b f s kvs kd a d c p n:=⟨h.sm.trans t,h.pl.mono t,h.kl,t _ _ h.ds,h.sn,h.so,t _ _ h.lg,Paired.HW h.en λ_ _ q=>q.keep (λ_ _ e=>t _ _ e)<|λ_ _ e _=>t _ _ e,h.ll,h.rn⟩
theorem Rv{K:W.Frag}{Q:VK}(I:Addr->Nat->List V->Hp->Prop)(z:vs.length<sizeLine)(n:∀D,H1 D=none->I D 0 [] (upd H1 D<|.lst []))(hl:∀D i zs H,I D i zs H->De K H a vs/\zs.length=i)
  (p:∀D i zs H,H1 D=none->i<vs.length->I D i zs H->∃T x y,vs[i]? = some (.ref T)/\H T=some (.tup [x,y])/\∀R:VK,(∀r H',H' D=some (.lst zs)->I D (i+1) (zs++[r]) (upd H' D<|.lst<|zs++[r])->R r H')->te (some x::some y::σ) H R)
  (s:∀D zs H,H1 D=none->I D vs.length zs H->Q (.ref D) H):Ga (bT K a) σ H1 Q (Kv K 2<|Eb (Cm 0)<|Eb (Cm 1) Mw) QQ te:=by
 intro D c;refine⟨λi m zs H=>m=vs.length - i/\i<=vs.length/\I D i zs H,⟨vs.length,by simp,Nat.zero_le _,n D c⟩,?_⟩;rintro i m zs H ⟨rfl,w,g⟩;obtain⟨d,t⟩:=hl D i zs H g;by_cases b:i<vs.length
 ·obtain⟨T,x,y,j,q,o⟩:=p D i zs H c b g;refine .inr ⟨⟨vs,_,d,j⟩,λv u f A B=>?_⟩;obtain⟨rfl,f⟩:=f;have k:=f vs d;rw[j] at k
  cases k;refine⟨T,[x,y],U,ma q,U,x,[y],U,y,[],U,U,⟨_,_,U⟩,?_⟩;unfold QQ;try dsimp only
  rw[if_pos U];exact o _ λr H' l h=>⟨l,by omega,vs.length - (i+1),by omega,U,b,h⟩
 ·have e:i=vs.length:=by omega
  subst e;exact .inl ⟨⟨vs,d,al _⟩,s D zs H c g⟩
theorem Yu{bs:List (Str×Nat)}(w:(bs.map (·.1)).Nodup)(v:∀n∈bs.map (·.1),isNm n){o:Option Nat}{r:List (Option Nat)}(z:∀k,o=some k->k<(bs.map (·.2)).sum)(b:∀k,c k=(o::r).count (some k)):(∀H,(dO bs o).odd H)/\GZ bs ks n c (dO bs o)/\∀s s' c',Zc cK cP cB cS cH cY bs ks n s c (dO bs o) s' c'->∀k,c' k=r.count (some k):=by
 cases o with
 |none =>
  refine⟨λH=>trivial,trivial,λs s' c' g k=>?_⟩;have i:=b k;rw[kA (by intro h;cases h)] at i;rcases g with⟨rfl,_⟩ | ⟨_,_,rfl⟩ <;> exact i
 |some j =>
  have d:j<(Ew bs).length:=by rw[Eh];exact z j U
  obtain⟨⟨B,m⟩,p⟩:∃y,(Ew bs)[j]? = some y:=⟨_,ae d⟩;obtain⟨l,a,A,u⟩:=K4 p;have x:dO bs (some j)=.leave (.str l.1) (.int ((m:Nat):Int)):=by
   unfold dO;try dsimp only
   rw[p];try dsimp only
   rw[bi,a];rfl
  have f:FQ bs (.str l.1) (.int ((m:Nat):Int)) j:=by
   have:=GP w a A;rw[ib,<-u] at this;exact this
  have q:0<c j:=by rw[b j,List.count_cons_self];omega
  rw[x];refine⟨λH=>⟨.str (v _<|aE<|ah a).tx,.int _⟩,⟨j,f,q⟩,λs s' c' g k=>?_⟩;rcases g with⟨_,C,t,_,rfl⟩ | ⟨g,_,_⟩
  ·obtain rfl:=Gx f t;show (if k=j then c j - 1 else c k)=_;split
   ·rename_i e;rw[e,b,List.count_cons_self];omega
   ·rename_i e;rw[b k,kA<|λh=>e (Option.some.inj h).symm]
  ·exact (GD (show GZ _ _ _ _ (DN.leave _ _) from ⟨j,f,q⟩) U g).elim
section
variable{x:Addr}{W:Wk}{DS LG:Addr}{s s':Cs}{d0 sC:List (Key×V)}{lv:List V}{es:List Ent}{c':Nat->Nat}{p:Nat}
theorem Pg.kinds(L:Pg C Cy Cp pE pA cK cP cB cS cH cY Ho H z x y hd us W sd DS LG s kvs kd lv es c p n):(∃d f,H y=some (.ins Cy d f))/\(∃k,H sd=some (.dK k))/\(∃k,H hd=some (.dK k)):=by
 obtain⟨e,g,b,_⟩:=L.pl.p.p.con.c.ex;obtain⟨k,a,_⟩:=L.pl.p.st.ex;exact⟨⟨_,_,b⟩,⟨_,a⟩,_,L.pl.p.p.d⟩
theorem Pg.keep(L:Pg C Cy Cp pE pA cK cP cB cS cH cY Ho H z x y hd us W sd DS LG s kvs kd lv es c p n)(f:∀b o,H b=some o->b≠y->b≠sd->b≠hd->b≠DS->b≠LG->H' b=some o):(∀a xs,H a=some (.tup xs)->H' a=some (.tup xs))/\∀a xs,H a=some (.lst xs)->a≠LG->H' a=some (.lst xs):=by
 obtain⟨⟨d,g,l⟩,⟨k,i⟩,q,h⟩:=L.kinds;have j:=L.ds;have m:=L.lg;refine⟨λa xs e=>f a _ e ?_ ?_ ?_ ?_ ?_,λa xs e n=>f a _ e ?_ ?_ ?_ ?_ n⟩
 ·intro z;rw[z,l] at e;cases e
 ·intro z;rw[z,i] at e;cases e
 ·intro z;rw[z,h] at e;cases e
 ·intro z;rw[z,j] at e;cases e
 ·intro z;rw[z,m] at e;cases e
 ·intro z;rw[z,l] at e;cases e
 ·intro z;rw[z,i] at e;cases e
 ·intro z;rw[z,h] at e;cases e
 ·intro z;rw[z,j] at e;cases e
theorem Pg.step(L:Pg C Cy Cp pE pA cK cP cB cS cH cY Ho H z x y hd us W sd DS LG s kvs kd lv es c p n){t E T2 e L2:Addr}{d:DN}{a:Nat}(m:H t=some (.tup d.v))(B:∀H2,d.odd H2)(hl:GZ (Bd W.cn W.sz) (Bq W.cn W.kbs) W.sts.length c d)(l:Zc cK cP cB cS cH cY (Bd W.cn W.sz) (Bq W.cn W.kbs) W.sts.length s c d s' c')
  (f:∀b o,H b=some o->b≠y->b≠sd->b≠hd->b≠DS->b≠LG->H' b=some o) (pl:Gz C Cy Cp pE pA Ho H' z x y hd us W.rk W.ls W.sts s' sd d0 c' (n+1) W.cn W.sz W.kbs) (G:d0.length<=kvs.length+1) (g:DP W.cn W.sz W.rk W.kbs W.ls (V9 s' W.sts) (Wd.mk<|DQ d0) a) (j:H' DS=some (.dK sC)) (sn:Kp sC a.testBit) (k:H' LG=some (.lst<|lv++[.ref E])) (r:H' E=some (.tup [.ref t,.ref T2])) (i:H' T2=some (.tup [.ref e,.ref L2])) (u:H' e=some (.lst<|nV<|Wd.mem<|Gw a p)) (v:H' L2=some (.lst<|nV<|Wd.mem<|Gw p a)) (A:e≠LG) (w:L2≠LG) :
  Pg C Cy Cp pE pA cK cP cB cS cH cY Ho H' z x y hd us W sd DS LG s' d0 sC (lv++[.ref E]) (es++[⟨d,Wd.mem<|Gw a p,Wd.mem<|Gw p a⟩]) c' a (n+1):=by
 obtain⟨h,D⟩:=L.keep f;have F:=L.kl;exact⟨pl.p.p.con.s,pl,by omega,j,sn,g,k,C_ (Paired.HW L.en λ_ _ q=>q.keep h D)<|.cons ⟨E,t,T2,e,L2,U,r,h _ _ m,i,u,v,A,w⟩ .nil,by rw[ai,L.ll];rfl,L.rn.snoc ⟨B,hl,l,p,a,Ku.of L.pl.p.p.h L.so,Ku.of pl.p.p.h g,U,U⟩⟩
theorem Pg.put(L:Pg C Cy Cp pE pA cK cP cB cS cH cY Ho H z x y hd us W sd DS LG s kvs kd lv es c p n){k r:List (Key×V)}(e:H a=some (.dK k))(j:Ho a=none)(E:sd≠a)(D:hd≠a)(B:DS≠a):Pg C Cy Cp pE pA cK cP cB cS cH cY Ho (upd H a<|.dK r) z x y hd us W sd DS LG s kvs kd lv es c p n:=by
 have h:∀c o,H c=some o->¬ (c=a)->upd H a (.dK r) c=some o:=λc o e n=>by rw[Aw n];exact e
 obtain⟨⟨d,g,l⟩,_⟩:=L.kinds;obtain⟨I,G,i,_⟩:=id L.pl.p.p.Lw.ex;have m:=L.lg;have A:y≠a:=λz=>by rw[z,e] at l;cases l
 have v:z≠a:=λz=>by rw[z,e] at i;cases i
 have u:LG≠a:=λz=>by rw[z,e] at m;cases m
 exact⟨λb o f=>h b o (L.sm b o f)<|Ai f j,L.pl.frX h (λc t=>by rw[t];exact j) v A D E<|λo F w=>XX w e,L.kl,h _ _ L.ds B,L.sn,L.so,h _ _ L.lg u,Paired.HW L.en λ_ _ q=>q.keep (λb _ f=>h _ _ f λz=>by rw[z,e] at f;cases f) (λb _ f _=>h _ _ f λz=>by rw[z,e] at f;cases f),L.ll,L.rn⟩
end
theorem Yn:∀{l:List Nat},Paired (Dp n H) (nV l)<|nV l
 |[]=>.nil
 |_::_=>.cons (Zq U) Yn
inductive M4(D:Addr)(H:Hp)(e:Ent)(v:V):Prop
 | mk(T D1 D2:Addr):v=.ref T->H T=some (.tup [.ref D1,.ref D2])->H D1=some (.lst (nV e.A))->H D2=some (.lst (nV e.B))->D1≠D->D2≠D->M4 D H e v
theorem M4.keep{e:Ent}{v:V}(h:M4 D H e v)(m:∀a xs,H a=some (.tup xs)->H' a=some (.tup xs))(d:∀a xs,H a=some (.lst xs)->a≠D->H' a=some (.lst xs)):M4 D H' e v:=by
 obtain⟨T,g,i,k,f,l,j,c,b⟩:=h;exact⟨T,g,i,k,m _ _ f,d _ _ l c,d _ _ j b,c,b⟩
theorem nC{d:Addr}{c:List Ent}{b:List V}(h:Paired (U_ d H) c b):∃ps:List<|V×V,Paired (λq v=>TupAt H [q.1,q.2] v) ps b/\Paired (λe v=>M4 d H e v) c (ps.map (·.2)):=by
 induction h with
 |nil=>exact⟨[],.nil,.nil⟩
 |cons a _ i =>
  obtain⟨ps,f,p⟩:=i;obtain⟨E,t,T2,k,L2,rfl,j,_,l,m,g,o,n⟩:=a;exact⟨(.ref t,.ref T2)::ps,.cons ⟨E,U,j⟩ f,.cons ⟨T2,k,L2,U,l,m,g,o,n⟩ p⟩
theorem dX{l:Addr}:∀{es:List Ent}{zs ws:List V},Paired (M4 D H) es zs->Paired (M4 l H) es ws->Paired (Dp 2 H) zs ws
 |[],_,_,h,g=>by cases h;cases g;exact .nil
 |e::es,_,_,h,g=>by
  cases h with
  |cons a h =>
   cases g with
   |cons b g =>
    obtain⟨T,i,m,rfl,f,o,q,_⟩:=a;obtain⟨j,c,d,rfl,k,n,p,_⟩:=b;exact .cons (.inr ⟨T,j,_,_,U,U,.inr ⟨f,k⟩,.cons (.inr ⟨i,c,_,_,U,U,.inl ⟨o,n⟩,Yn⟩)<|.cons (.inr ⟨m,d,_,_,U,U,.inl ⟨q,p⟩,Yn⟩) .nil⟩)<|dX h g
theorem Hg:Av sN z4<|Af Kz:=Bg
theorem kO(F:Cd K "law" "law" Kz f fd)(N:wj K mg C Cy Cp pB pE pA aD)(T:Txt K w.params mg C Cy Cp pB pE pA cK cP cB cS cO cH cY cD aQ aN aK aB aP aM)(F0:qu K aB aP aM):An P w K mg base Bb 12 f fd z4<|Q3 K:=by
 refine F.Dg Hg λH vs Q E hr h=>?_;obtain⟨a,ns,rfl,hS,b3,q⟩:=h;have hu:=CG hr;refine⟨_,(@Ae _ _ _ _ _ (Be (i:=1) Hg.nd U (Or.inl U)<|Iz N.FOi.2.2 (qp N T) (ad hr) U T.mC N.FOi.2.1 .nil Ao<|@Ay _ _ _ _ _ U (zC (ue N T) hr U N.FRw<|@Ay _ _ _ _ _ U (pv 0) Ab) Ab)
  (@Ae _ _ _ _ _ (aR (i:=2) Hg.nd U U U (HJ (osc:=Af Kz) (N:=sN) U U<|by decide) (Bl<|Bm (pv 1) T.cl N.FOz.2.2 (YJ N T) (ad hr) N.FOz.2.1 .nil Ao) (λ_ _ _ _=>Ci)<|λ_ _ _ _=>(pv 1))
  (@Ae _ _ _ _ _ (Be (i:=3) Hg.nd U (Or.inl U)<|Iz N.FQi.2.2 (rW N T) (ad hr) U T.mCP N.FQi.2.1 .nil Ao<|@Ay _ _ _ _ _ U (pv 1) Ab)
  (@Ae _ _ _ _ _ (Be (i:=4) Hg.nd U (Or.inl U) G6)
  (@Ae _ _ _ _ _ (Be (i:=5) Hg.nd U (Or.inl U)<|@DK _ _ _ _ Ab)
  (@Ae _ _ _ _ _ (Be (i:=6) Hg.nd U (Or.inl U) G6)
  (@Ae _ _ _ _ _ (Dk PassesOwn.never U (Vm U T.range<|@Ay _ _ _ _ _ U (@Az _ _ _ _ _ _ _ (Bk (K:=K) U) (@DK _ _ _ _<|@Ay _ _ _ _ _ U Ac<|@Ay _ _ _ _ _ U Ac Ab) (Cr Ip U T.int gd<|@Ay _ _ _ _ _ U (Dd QR (BK BW U T.len bo<|@Ay _ _ _ _ _ U (pv 0) Ab) Ac<|BX _) Ab)<|λ_ _=>rfl)<|@Ay _ _ _ _ _ U (BK (KZ U) U T.min kz<|@Ay _ _ _ _ _ U (BK BW U T.len bo<|@Ay _ _ _ _ _ U (pv 0) Ab)<|@Ay _ _ _ _ _ U Ac Ab) Ab) (Bt (i:=7) Hg.nd U<|Or.inl U) (@Ae _ _ _ _ _ (Be (i:=8) Hg.nd U (Or.inl U)<|zC (oO N T) hr U N.FDe<|@Ay _ _ _ _ _ U (zC (dF N T) hr U N.FLo<|@Ay _ _ _ _ _ U (pv 0)<|@Ay _ _ _ _ _ U (pv 7) Ab)<|@Ay _ _ _ _ _ U (pv 1)<|@Ay _ _ _ _ _ U (pv 3)<|@Ay _ _ _ _ _ U (pv 2) Ab)
  (@Ae _ _ _ _ _ (@Bh _ _ _ _ _ _ _ _ (PW.pt<|El (BR CP (@Az _ _ _ _ _ _ _ (Ar (K:=K) U) (pv 8) Ac<|λ_ _=>rfl) BP<|BX _)<|EY<|BR CP (@Az _ _ _ _ _ _ _ (Ar (K:=K) U) (pv 8) Ac<|λ_ _=>rfl) BP<|BX _) (@Ae _ _ _ _ _ (Be (i:=9) Hg.nd U (Or.inl U)<|Bp (pv 1) T.cl N.FOk.2.2 (Uu N T) (ad hr) N.FOk.2.1 .nil Ao<|@Ay _ _ _ _ _ U (@Az _ _ _ _ _ _ _ (Ar (K:=K) U) (pv 8) Ac<|λ_ _=>rfl)<|@Ay _ _ _ _ _ U (@Az _ _ _ _ _ _ _ (Ar (K:=K) U) (pv 8) Ac<|λ_ _=>rfl) Ab)
  (@Ag _ _ _<|Fi hu (pv 6) (pv 9) (BZ CQ (IV hu (pv 6) (pv 9) Ac ⟨U,U,U,U⟩)<|@Az _ _ _ _ _ _ _ (Bk (K:=K) U) (@DK _ _ _ _<|@Ay _ _ _ _ _ U (Ja LC Ac)<|@Ay _ _ _ _ _ U Ac Ab) (Cr Ip U T.int gd<|@Ay _ _ _ _ _ U (Dd CP (@Az _ _ _ _ _ _ _ (Ar (K:=K) U) (pv 8) Ac<|λ_ _=>rfl) BP<|BX _) Ab)<|λ_ _=>rfl) U)) Ba)
  (@Ag _ _ _<|@Bh _ _ _ _ _ _ _ _ (Ce<|Cq<|zC (oE N T) hr U N.FDn<|@Ay _ _ _ _ _ U (pv 3)<|@Ay _ _ _ _ _ U (pv 8)<|@Ay _ _ _ _ _ U (pv 4)<|@Ay _ _ _ _ _ U (pv 5) Ab) (@Ag _ _ _<|@Ax _ _ _ _ FN) Ba))))
  (@Ae _ _ _ _ _ (Dk PassesOwn.never U (Bl<|zC (qG N T) hr U N.FLa<|@Ay _ _ _ _ _ U (pv 0)<|@Ay _ _ _ _ _ U (pv 1)<|@Ay _ _ _ _ _ U (pv 6) Ab) (Bt (i:=8) Hg.nd U<|Or.inl U)<|@Ag _ _ _<|@Bh _ _ _ _ _ _ _ _ (Ce<|Cq<|zC (oE N T) hr U N.FDn<|@Ay _ _ _ _ _ U (pv 3)<|@Ay _ _ _ _ _ U (pv 8)<|@Ay _ _ _ _ _ U (pv 4)<|@Ay _ _ _ _ _ U (pv 5) Ab) (@Ag _ _ _<|@Ax _ _ _ _ FN) Ba)
  (@Ae _ _ _ _ _ (@Bh _ _ _ _ _ _ _ _ (PW.pt<|El (BR Jv (Bm (pv 3) T.clP N.FQs.2.2 (Y8 N T) (ad hr) N.FQs.2.1 .nil Ao) Ac<|BX _)<|EY<|BR Jv (Bm (pv 3) T.clP N.FQe.2.2 (XM N T) (ad hr) N.FQe.2.1 .nil Ao) Ac<|BX _) (@Ag _ _ _<|@Ax _ _ _ _ FN) Ba)
  (@Ae _ _ _ _ _ (Be (i:=10) Hg.nd U (Or.inr U)<|Iz N.FQi.2.2 (rW N T) (ad hr) U T.mCP N.FQi.2.1 .nil Ao<|@Ay _ _ _ _ _ U (pv 1) Ab)
  (@Ag _ _ _<|@Ax _ _ _ _<|Dd (Yp 2<|aT (Nat.add_le_add_left (by decide:3<=64) _) hr.units) (QB U (Ml (osc:=Af Kz) (N:=sN) U U<|by decide) (Bl<|pv 5) (λ_ _ _ _=>Ci)<|λ_ _ _ _=>(zC (fH N T) hr U N.FTd<|@Ay _ _ _ _ _ U (pv 12)<|@Ay _ _ _ _ _ U (pv 0) Ab)) (QB U (Ml (osc:=Af Kz) (N:=sN) U U<|by decide) (Bl<|pv 5) (λ_ _ _ _=>Ci)<|λ_ _ _ _=>(pv 1))<|BX _))))))))))),?_⟩
 refine⟨_,U,a,ns,U,hS,b3,F0,λDR Z c0 bs rk dp dQ l W A sn H9 _ bR zv b7 b1 r1 R9=>?_⟩;obtain⟨b0,O9,eL,eS⟩:=R9.org b1 (by decide) (by decide) b7;intro x dx nx ZI cZ;have sx:Am H9<|upd (upd H9 dx<|.own x) x<|.ins C dx []:=λb o e=>by
  rw[Aw (Ai e nx),Aw<|Ai e ZI];exact e
 refine⟨x,dx,DR,Z,My H9,_,_,_,U,Aj,sx _ _ zv,b0.mono sx,O9,λqB OX _ bL=>⟨U,?_⟩⟩;rw[eL,eS] at OX;have a0:Am H9 qB:=λb o e=>bL b o (sx b o e)<|Ai e nx
 have OM:=bR.trans a0;obtain⟨B,sz,og⟩:=R9.og b1 (by decide) OX;clear bL sx nx ZI cZ b0 O9 b7 zv eL eS a0 bR OX R9 b1 r1;obtain⟨⟨⟨dx,fs,_,_,_,_,_,_,_,_,hx,_,_,_,_,lm,_⟩,_⟩,_⟩:=id og.o.o;refine⟨_,U,x,dx,fs,U,hx,lm _<|by decide,x,_,_,U,og.o.o.o,λD1 ys A9 zk GB G2 Cn=>?_⟩;have c6:ys.length=(Bq B l).length:=Cn.length.symm;have nk:=og.f.kl;have a6:De K A9 D1 ys:=.inl<|.inl G2
 refine⟨D1,U,⟨_,a6⟩,MJ (K:=K) (ps:=(Bq B l).map λr=>(V.str r.w,V.str r.nm)) (λq=>q.2) a6 (Bx (F:=λ(q:V×V) v=>TupAt A9 [q.1,q.2] v) (λr:R=>(V.str r.w,V.str r.nm)) Cn) (BJ<|by omega) (λq hq H' hs R k=>⟨_,U,k H'<|Am.refl H'⟩)<|λKL Y ec a9 rf=>?_⟩;have b4:((Bq B l).map λr=>(V.str r.w,V.str r.nm)).map (λq=>q.2)=(JC<|Bq B l).map V.str:=by
  rw[ay,ay];rfl
 rw[b4] at rf;have ab:WM C Y x Z rk W A B sz l:=⟨og.o.mono<|GB.trans a9,og.f,og.kb,og.lg,og.st,og.bd,og.z1,og.l1⟩;refine⟨_,U,λz dz a1 a2 a3=>⟨z,dz,x,U,Aj,λy sd nc CB g1 g2 g3 g4 g5 g6 g7 g8 g9 LI IQ=>⟨U,?_⟩⟩⟩;have an:Am Y CB:=λb o e=>g1 b o (by rw[Aw (Ai e a1),Aw<|Ai e a2];exact e)<|Ai e a1
 have fr:∀{b:Addr},upd (upd Y dz<|.own z) z (.ins Cp dz []) b=none->Y b=none:=λ{b} h=>by
  have b1:b≠z:=λe=>by rw[e,Aj] at h;cases h
  rw[Aw b1] at h;have b2:b≠dz:=λe=>by rw[e,Aj] at h;cases h
  rw[Aw b2] at h;exact h
 have ny:=fr g2;have nh:=fr g3;have c2:=fr g7;have pl:=ab.Lw (pE:=pE) (pA:=pA) an ny nh c2 g4 g5 g6 g8 g9 LI IQ;have CU:=OM.trans<|GB.trans a9
 clear g1 g2 g3 g4 g5 g6 g7 g8 g9 LI IQ fr a1 a2 a3 Cn G2 a6 c6 b4;obtain⟨d5,dM,SD,_⟩:=id pl.p.p.Lw.ex;obtain⟨dv,ds,GI,_⟩:=id pl.p.p.con.c.ex;obtain⟨dK,xa,_⟩:=id pl.p.st.ex;have wc:=pl.p.p.d;intro S sA;have NG:=BL (o:=HO.dK []) sA;have aC:upd CB S (.dK []) S=some (.dK []):=Aj;generalize upd CB S (.dK [])=bl at NG aC |-;refine⟨Bv (by simp),λM tF=>?_⟩;have ES:=BL (o:=HO.lst []) tF;have aw:upd bl M (.lst []) M=some (.lst []):=Aj;generalize upd bl M (.lst [])=On at ES aw |-;intro I wl;have AM:=BL (o:=HO.dK []) wl;have a4:upd On I (.dK []) I=some (.dK []):=Aj;have o0:=NG.trans ES;have b5:S≠sd:=Ne.symm<|Ai xa sA
 have bn:S≠nc:=Ne.symm<|Ai wc sA
 have yD:y≠I:=Ai (o0 _ _ GI) wl;have sD:sd≠I:=Ai (o0 _ _ xa) wl;have bP:nc≠I:=Ai (o0 _ _ wc) wl;have dD:S≠I:=Ai (ES _ _ aC) wl;have lD:M≠I:=Ai aw wl;have b6:Y S=none:=an.free sA;have bS:Y M=none:=(an.trans NG).free tF;have cE:Y I=none:=(an.trans o0).free wl;generalize upd On I (.dK [])=LA at AM a4 |-;have S0:DP B sz rk l W (V9 ⟨0,0,λ_=>none⟩ A) (Wd.mk<|DQ []) 0:=by
  show DP B sz rk l W (0 ||| Q8 (A.take 0)) (Wd.mk []) 0;rw[List.take_zero];exact V2 B sz rk l W
 have L0:Pg C Cy Cp pE pA cK cP cB cS cH cY Y LA z x y nc Z ⟨B,sz,rk,l,W,A⟩ sd S M ⟨0,0,λ_=>none⟩ [] [] [] [] (λ_=>0) 0 0:=⟨an.trans<|o0.trans AM,pl.mono<|o0.trans AM,al _,AM _ _<|ES _ _ aC,Kp.nil.ext (λk=>by rw[im]),S0,AM _ _ aw,.nil,U,⟨U,U⟩⟩;clear pl NG ES aC aw sA tF wl SD GI xa wc o0 S0;have bN:((Bd B sz).map (·.1)).Nodup:=og.f.bd;have EU:=(CU.trans L0.sm).seq hS;refine⟨Bv (by simp),λP1 Fa=>?_⟩;obtain⟨SE,i5,t1,u1⟩:=Du (o:=HO.lst [V.int 2,V.int 10]) Fa;rw[i5];have ln:(ns.map V.int).length=ns.length:=af ..;obtain⟨lo,X0,bW⟩:∃lo:Int,(lo=2 \/ lo=10)/\Ve [V.int 2,V.int 10] (if decide ((14:Int)<(((ns.map V.int).length:Nat):Int))=true then 1 else 0)=some (.int lo):=by
  cases decide ((14:Int)<(((ns.map V.int).length:Nat):Int)) with
  |true=>exact⟨10,.inr U,Ah (j:=1) U⟩
  |false=>exact⟨2,.inl U,Ah (j:=0) U⟩
 refine⟨_,U,a,_,U,.inl<|t1.seq EU,_,_,U,U,.inr ⟨_,U,P1,_,_,_,U,U,ma u1,bW,?_⟩⟩;obtain⟨hi,IB,ck⟩:∃hi:Int,(if (26:Int)<(((ns.map V.int).length:Nat):Int) then 26 else (((ns.map V.int).length:Nat):Int))=hi/\0<=hi/\hi<=26:=⟨_,U,by split <;> omega,by split <;> omega⟩;refine⟨_,U,a,_,U,.inl<|t1.seq EU,_,_,U,lo,hi,by rw[IB],⟨by omega,by omega,by omega,by omega⟩,?_⟩;clear IB;refine forR (lo:=lo) (n:=(hi - lo).toNat) (λi σ Hx=>∃(s:Cs)(G kd:List<|Key × V)(lv:List V)(es:List Ent)(c:Nat->Nat)(p:Nat)(kh:List<|Key × V)(v7 v8 v9:Option V),Pg C Cy Cp pE pA cK cP cB cS cH cY Y Hx z x y nc Z ⟨B,sz,rk,l,W,A⟩ sd S M s G kd lv es c p i/\Hx I=some (.dK kh)/\Df kh c/\(kh.map (·.1)).Nodup/\kh.length<=i/\(∀k,kH k∈kh.map (·.1)->k<sz.sum)/\tot kh c<=i/\σ=[some (.ref a),some<|.ref x,some<|.ref KL,some<|.ref z,some<|.ref S,some<|.ref M,some<|.ref I,v7,v8,v9,none])
  ⟨_,_,_,_,_,_,_,[],none,none,none,L0.mono t1,t1 _ _ a4,Df.nil,iS,al _,(λ_ h=>nomatch h),al _,U⟩ ?_ ?_
 ·rintro i _ pr σ Hx dV ⟨s,G,kd,lv,es,c,p,kh,v7,v8,v9,L,dH,hh,ac,a7,oe,E5,rfl⟩;obtain⟨kk,cb⟩:∃kk:Nat,lo+(i:Int)=((kk:Nat):Int):=⟨(lo+(i:Int)).toNat,by omega⟩;refine⟨_,U,_,U,a,kk,ns,congrArg (λt:Int=>[V.ref a,V.int t]) cb,(CU.trans L.sm).seq hS,by omega,λpq H1 hp s1 vx=>?_⟩;refine⟨_,U,_,U,_,U,Hx,pq,KL,Y,z,x,y,nc,Z,rk,W,A,s,sd,G,c,i,B,sz,l,U,⟨L.pl,L.sm _ _ rf,s1,hp,vx,og.z1,og.l1,bN⟩,λTa d H2 _ s2 i9 ho nS=>?_⟩;have L2:=L.mono s2;have d2:=s2 _ _ dH;clear L dH s1 vx hp s2;have OC:=ab.o.mono L2.sm;obtain⟨⟨⟨NY,FF,_,_,_,_,_,_,_,_,MM,_,_,_,_,E8,_⟩,_⟩,_⟩:=id OC.o;refine gN (i:=8) ?_;try dsimp only
  refine Qh (λσ' H'=>∃tI,Pg C Cy Cp pE pA cK cP cB cS cH cY Y H' z x y nc Z ⟨B,sz,rk,l,W,A⟩ sd S M s G kd lv es c p i/\H' Ta=some (.tup d.v)/\H' I=some (.dK tI)/\(∀X J,Zc cK cP cB cS cH cY (Bd B sz) (Bq B l) A.length s c d X J->Df tI J/\tot tI J<=i+1)/\(tI.map (·.1)).Nodup/\tI.length<=i+1/\(∀k,kH k∈tI.map (·.1)->k<sz.sum)/\∃v9,σ'=[some (.ref a),some<|.ref x,some<|.ref KL,some<|.ref z,some<|.ref S,some<|.ref M,some<|.ref I,some<|.int<|lo+(i:Int),some<|.ref Ta,v9,none]) (λD' hD=>?_)<|λσ' H' h=>?_
  ·have put:∀(k m:Nat)(H5:Hp),Am H2 H5->k<sz.sum->m<=c k+1->(∀X J,Zc cK cP cB cS cH cY (Bd B sz) (Bq B l) A.length s c d X J->J=setC c k m)->∃tI,Pg C Cy Cp pE pA cK cP cB cS cH cY Y (upd H5 I<|.dK<|putK kh (kH k)<|.int ((m:Nat):Int)) z x y nc Z ⟨B,sz,rk,l,W,A⟩ sd S M s G kd lv es c p i/\upd H5 I (.dK<|putK kh (kH k)<|.int ((m:Nat):Int)) Ta=some (.tup d.v)/\upd H5 I (.dK<|putK kh (kH k)<|.int ((m:Nat):Int)) I=some (.dK tI)/\(∀X J,Zc cK cP cB cS cH cY (Bd B sz) (Bq B l) A.length s c d X J->Df tI J/\tot tI J<=i+1)/\(tI.map (·.1)).Nodup/\tI.length<=i+1/\(∀k,kH k∈tI.map (·.1)->k<sz.sum)/\∃v9,[some (V.ref a),some<|.ref x,some<|.ref KL,some<|.ref z,some<|.ref S,some<|.ref M,some<|.ref I,some<|.int<|lo+(i:Int),some<|.ref Ta,some<|.int ((k:Nat):Int),none]=[some (.ref a),some<|.ref x,some<|.ref KL,some<|.ref z,some<|.ref S,some<|.ref M,some<|.ref I,some<|.int<|lo+(i:Int),some<|.ref Ta,v9,none]:=λk m H5 s5 hk BM hg=>by
    have ap:sz.sum<1200:=L2.pl.ks;refine⟨_,(L2.mono s5).put (s5 _ _ d2) cE sD bP dD,by rw[Aw λz=>by rw[z,d2] at i9;cases i9];exact s5 _ _ i9,Aj,λX J g=>by rw[hg X J g];exact⟨hh.put<|by omega,by have:=Z7 hh ac k m<|.int ((m:Nat):Int);omega⟩,Uk _ _ ac,be (Gf _ _ _)<|by omega,λk' oz=>?_,_,U⟩;obtain⟨kv,hm,e⟩:=ar.mp oz;rcases Mu hm with rfl | ⟨h1,_⟩
    ·have e:((k:Nat):Int)=((k':Nat):Int):=Sum.inl.inj e;rw[show k'=k by omega];exact hk
    ·exact oe k'<|e ▸ aE h1
   cases d with
   |hold v u =>
    obtain⟨k,hk⟩:=nS;have ap:=L2.pl.ky _ _ _ hk;obtain⟨j,n,b,e1,e2,hb,hj,hn,ek⟩:=id hk;subst e1;subst e2;refine (wT i9<|HN U<|Dj ?_);refine⟨_,U,x,NY,FF,U,MM,E8 _<|by decide,_,U,Ta,_,_,_,U,U,ma i9,Ah (j:=1) U,_,U,Ta,_,_,_,U,U,ma i9,Ah (j:=2) U,x,Bd B sz,Bq B l,j,b,((n:Nat):Int),U,OC.o.o,hb,λH4 s4=>?_⟩;rw[show ((((Bd B sz).take j).map (·.2)).sum:Nat)+((n:Nat):Int)=((k:Nat):Int) by rw[ek];omega];have d4:=s4 _ _ d2;refine⟨_,U,I,U,.inl ⟨kh,.inl d4⟩,_,U,_,Ed.k (k:=kH k) d4,_,U,by show 2<=sizeLine;decide,λP5 XB=>?_⟩;obtain⟨H5,i5,s5,u5⟩:=Du (o:=HO.lst [V.int (-1),V.int 1]) XB;rw[i5];have A7:=s4.trans s5;refine⟨_,U,Ta,_,_,_,U,U,ma<|A7 _ _ i9,Ah (j:=0) U,U,.inr ⟨_,U,P5,_,_,_,U,U,ma u5,Ah (j:=1) U,((c k:Nat):Int),1,hh.getD k,U,?_⟩⟩;rw[show ((c k:Nat):Int)+1=((c k+1:Nat):Int) by omega];refine⟨_,U,_,U,I,_,U,Jf.k (k:=kH k) (A7 _ _ d2)<|BJ<|by omega,hD _ _<|put k (c k+1) H5 A7 ap (by omega) λX J g=>?_⟩;rcases g with⟨_,k',oz,rfl⟩ | ⟨g,_,_⟩
    ·rw[Gx hk oz]
    ·exact (GD (show GZ _ _ _ _ (DN.hold _ _) from ⟨k,hk⟩) U g).elim
   |leave v u =>
    obtain⟨k,hk,c5⟩:=nS;have ap:=L2.pl.ky _ _ _ hk;obtain⟨j,n,b,e1,e2,hb,hj,hn,ek⟩:=id hk;subst e1;subst e2;refine (wT i9<|E_<|wT i9<|HN U ?_);refine⟨_,U,x,NY,FF,U,MM,E8 _<|by decide,_,U,Ta,_,_,_,U,U,ma i9,Ah (j:=1) U,_,U,Ta,_,_,_,U,U,ma i9,Ah (j:=2) U,x,Bd B sz,Bq B l,j,b,((n:Nat):Int),U,OC.o.o,hb,λH4 s4=>?_⟩;rw[show ((((Bd B sz).take j).map (·.2)).sum:Nat)+((n:Nat):Int)=((k:Nat):Int) by rw[ek];omega];have d4:=s4 _ _ d2;refine⟨_,U,I,U,.inl ⟨kh,.inl d4⟩,_,U,_,Ed.k (k:=kH k) d4,_,U,by show 2<=sizeLine;decide,λP5 XB=>?_⟩;obtain⟨H5,i5,s5,u5⟩:=Du (o:=HO.lst [V.int (-1),V.int 1]) XB;rw[i5];have A7:=s4.trans s5;refine⟨_,U,Ta,_,_,_,U,U,ma<|A7 _ _ i9,Ah (j:=0) U,U,.inr ⟨_,U,P5,_,_,_,U,U,ma u5,Ah (j:=0) U,((c k:Nat):Int),-1,hh.getD k,U,?_⟩⟩;rw[show ((c k:Nat):Int)+(-1)=((c k - 1:Nat):Int) by omega];refine⟨_,U,_,U,I,_,U,Jf.k (k:=kH k) (A7 _ _ d2)<|BJ<|by omega,hD _ _<|put k (c k - 1) H5 A7 ap (by omega) λX J g=>?_⟩;rcases g with⟨_,k',oz,_,rfl⟩ | ⟨g,_,_⟩
    ·rw[Gx hk oz]
    ·exact (GD (show GZ _ _ _ _ (DN.leave _ _) from ⟨k,hk,c5⟩) U g).elim
   |con d =>
    have aZ:H2 Ta=some (.tup<|.str d.wd::d.args):=by
     rw[<-Fl.v_eq d];exact i9
    refine (wT aZ<|Fy (Ej<|y_ d)<|wT aZ<|Fy (Ej<|zR d)<|hD _ _ ⟨kh,L2,i9,d2,λX J g=>?_,ac,by omega,oe,_,U⟩);rcases g with⟨rfl,_⟩ | ⟨_,_,rfl⟩
    ·exact⟨hh,by omega⟩
    ·exact⟨hh,by omega⟩
  obtain⟨tI,L3,JU,d3,FE,ct,cx,cA,c8,rfl⟩:=h;have co:=L3.ll;have b9:=L3.kl;refine⟨_,U,_,U,_,U,_,U,Y,z,x,y,nc,Z,rk,W,A,s,sd,G,c,i,B,sz,l,Ta,S,M,d,kd,lv,p,U,JU,ho,nS,L3.pl,by omega,by omega,L3.ds,L3.sn,L3.so,og.bd,L3.lg,by omega,b6,bS,b5,bn,λX d0 J p2 sC E9 T2 L1 ca H4 go f4 p4 VQ S4 d4 OQ l4 e1 e2 e3 e4 n1 n2=>⟨_,U,Bj ?_⟩⟩;refine pr _ _ ⟨X,d0,sC,_,_,J,p2,tI,_,_,c8,L3.step JU ho nS go f4 p4 VQ S4 d4 OQ l4 e1 e2 e3 e4 n1 n2,f4 _ _ d3 (Ne.symm yD) (Ne.symm sD) (Ne.symm bP) (Ne.symm dD)<|Ne.symm lD,(FE X J go).1,ct,cx,cA,(FE X J go).2,U⟩
 rintro σ Hx ⟨s,G,kd,lv,es,c,p,kh,v7,v8,v9,L,dH,hh,ac,a7,oe,E5,rfl⟩;have hN:(hi - lo).toNat<=24:=by omega
 generalize (hi - lo).toNat=N at L a7 E5 hN;clear ck bW X0 u1 t1 Fa EU L0 a4 AM ln;refine⟨_,U,_,U,_,U,a,x,I,ns,Z,rk,W,A,B,sz,l,kh,c,U,(CU.trans L.sm).seq hS,ab.o.mono L.sm,dH,hh,ac,by omega,oe,by omega,λDL a8 vT H5 FL s5 l5 p5 cnt cv dT=>?_⟩;obtain⟨⟨dy,gy,ey⟩,⟨c4,MO⟩,d8,NC⟩:=L.kinds;have n1:DL≠y:=Ne.symm<|Ai ey FL
 have n2:DL≠sd:=Ne.symm<|Ai MO FL
 have n3:DL≠nc:=Ne.symm<|Ai NC FL
 have n4:DL≠S:=Ne.symm<|Ai L.ds FL
 have n5:DL≠M:=Ne.symm<|Ai L.lg FL
 have cs:=p5.length;refine⟨DL,U,⟨_,ma l5⟩,forL (K:=K) (a:=DL) (xs:=vT) (λi σ Hx=>Hx DL=some (.lst vT)/\Paired (λo v=>TupAt Hx (dO (Bd B sz) o).v v) a8 vT/\∃(s:Cs)(G kd:List<|Key × V)(lv:List V)(es:List Ent)(c:Nat->Nat)(p:Nat)(v8:Option V),Pg C Cy Cp pE pA cK cP cB cS cH cY Y Hx z x y nc Z ⟨B,sz,rk,l,W,A⟩ sd S M s G kd lv es c p (N+i)/\(∀k,c k=(a8.drop i).count (some k))/\σ=[some (.ref a),some<|.ref x,some<|.ref KL,some<|.ref z,some<|.ref S,some<|.ref M,some<|.ref I,v7,v8,v9,none]) ⟨l5,p5,s,G,kd,lv,es,c,p,v8,L.mono s5,λk=>(cnt k).symm,U⟩ (λi σ Hx _ h=>ma h.1) ?_ ?_⟩
 ·rintro i _ pr v σ Hx cd ⟨dl,pp,s,G,kd,lv,es,c,p,v8,L,hc,rfl⟩;obtain⟨o,ho,T,rfl,hT⟩:=Ij pp cd;obtain⟨as,eo⟩:=ag.mp ho;rw[gT as,eo] at hc;obtain⟨od,nS,hg⟩:=Yu (cK:=cK) (cP:=cP) (cB:=cB) (cS:=cS) (cH:=cH) (cY:=cY) (ks:=Bq B l) (n:=A.length) bN og.f.bn (λk e=>by rw[Cz];exact cv k<|e ▸ ah ho) hc;have co:=L.ll;have b9:=L.kl;refine gN (i:=8) ?_;try dsimp only
  refine⟨_,U,_,U,_,U,_,U,Y,z,x,y,nc,Z,rk,W,A,s,sd,G,c,N+i,B,sz,l,T,S,M,dO (Bd B sz) o,kd,lv,p,U,hT,od,nS,L.pl,by omega,by omega,L.ds,L.sn,L.so,og.bd,L.lg,by omega,b6,bS,b5,bn,λX d0 J p2 sC E9 T2 L1 ca H4 go f4 p4 VQ S4 d4 OQ l4 e1 e2 e3 e4 m1 m2=>⟨_,U,Bj ?_⟩⟩;exact pr _ _ ⟨f4 _ _ dl n1 n2 n3 n4 n5,Paired.HW pp λ_ _ ⟨T,e,q⟩=>⟨T,e,(L.keep f4).1 _ _ q⟩,X,d0,sC,_,_,J,p2,_,L.step hT od nS go f4 p4 VQ S4 d4 OQ l4 e1 e2 e3 e4 m1 m2,hg s X J go,U⟩
 rintro σ Hb ⟨_,_,s,G,kd,lv,es,c,p,v8,L,hc,rfl⟩;have c0:∀k,c k=0:=λk=>by rw[hc,<-cs,List.drop_length];rfl
 have a5:DQ G=[]:=List.eq_nil_iff_forall_not_mem.mpr λk hk=>by
  have:=(L.pl.p.p.h.mem k).mp hk;rw[c0] at this;omega
 clear n1 n2 n3 n4 n5 dy gy ey MO NC FL s5 l5 p5 a7 E5 dH hh ac oe hc;obtain⟨MS,Nw,TU,_,_,_,M0⟩:=id L.pl.p.p.Lw.ex;refine⟨_,U,z,MS,Nw,U,TU,M0 _<|by decide,Y,z,x,y,nc,Z,rk,W,A,s.dr,s.sh,sd,G,c,B,sz,l,U,L.pl.p.p,L.pl.o,λp3 H6 s6 S3=>?_⟩;have Pe:=og.lg;obtain rfl:p3=0:=by
  rw[a5] at S3;exact WT Pe S3
 have e0:(!decide (V.int ((0:Nat):Int)=V.int 0))=false:=congrArg (! ·)<|decide_eq_true U
 refine⟨U,_,U,Fy (λh=>eW<|e0.symm.trans h) ?_⟩;refine⟨_,U,z,MS,Nw,U,s6 _ _ TU,M0 _<|by decide,Y,z,x,y,nc,Z,_,rk,_,W,A,s.dr,s.sh,sd,G,c,U,(L.pl.mono s6).p.p,L.pl.o.kl,λH7 s7=>?_⟩;rw[a5];refine⟨U,_,U,Fy (λh=>eW<|e0.symm.trans h) ?_⟩;have L7:=L.mono<|s6.trans s7
 clear L TU s6 s7 S3 c0 a5;have df:WM C H7 x Z rk W A B sz l:=⟨ab.o.mono L7.sm,og.f,og.kb,og.lg,og.st,og.bd,og.z1,og.l1⟩;refine⟨_,U,λz2 Na a1 a2 a3=>⟨z2,Na,x,U,Aj,λy2 PR AJ H8 g1 g2 g3 g4 g5 g6 g7 g8 g9 LI IQ=>⟨U,?_⟩⟩⟩;have s8:Am H7 H8:=λb o e=>g1 b o (by rw[Aw (Ai e a1),Aw<|Ai e a2];exact e)<|Ai e a1
 have fr:∀{b:Addr},upd (upd H7 Na<|.own z2) z2 (.ins Cp Na []) b=none->H7 b=none:=λ{b} h=>by
  have b1:b≠z2:=λe=>by rw[e,Aj] at h;cases h
  rw[Aw b1] at h;have b2:b≠Na:=λe=>by rw[e,Aj] at h;cases h
  rw[Aw b2] at h;exact h
 have cl:=fr g2;have cp:=fr g3;have da:=fr g7;have pl:=df.Lw (pE:=pE) (pA:=pA) s8 cl cp da g4 g5 g6 g8 g9 LI IQ;clear g1 g2 g3 g4 g5 g6 g7 g8 g9 LI IQ fr a1 a2 a3;refine gN (i:=10) ?_;try dsimp only
 obtain⟨dy,gy,ey,_⟩:=id pl.p.p.con.c.ex;obtain⟨c4,MO,_⟩:=id pl.p.st.ex;have NC:=pl.p.p.d;obtain⟨d6,dr,ez,_⟩:=id pl.p.p.Lw.ex;have ll:=L7.ll;have el:es.length=lv.length:=L7.en.length;have bK:lv.length<sizeLine:=BJ<|by omega
 refine⟨_,U,M,U,⟨_,ma<|s8 _ _ L7.lg⟩,Rv (K:=K) (vs:=lv) (λD i zs Hi=>zs.length=i/\Hi D=some (.lst zs)/\∃(s1:Cs)(kv:List<|Key × V)(c1:Nat->Nat),Gz C Cy Cp pE pA H7 Hi z2 x y2 AJ Z rk W A s1 PR kv c1 i B sz l/\kv.length<=i/\Run cK cP cB cS cH cY ⟨B,sz,rk,l,W,A⟩ s1 c1 (es.drop i) s c/\Paired (M4 D Hi) (es.take i) zs) bK (λD hD=>⟨U,Aj,_,[],_,pl.mono<|BL hD,al _,L7.rn,.nil⟩) (λD i zs Hi ⟨h1,_,_,_,_,p,_⟩=>⟨ma<|p.p.p.con.s _ _ L7.lg,h1⟩) ?_ ?_⟩
 ·rintro D i zs Hi hD as ⟨h1,Nd,s1,kv,c1,pi,hk,rn,pz⟩;obtain⟨e,he,E,t,T2,L1,L2,ev,e1,e2,_⟩:=Ij L7.en<|ae as;have si:=pi.p.p.con.s;obtain⟨dd,ee⟩:=ag.mp he;rw[gT dd,ee] at rn;obtain⟨s3,c3,⟨od,nS,cg,q1,q2,S1,S2,eA,eB⟩,rn⟩:=rn;refine⟨E,.ref t,.ref T2,by rw[ae as,ev],si _ _ e1,λR hR=>?_⟩;refine⟨_,U,_,U,H7,z2,x,y2,AJ,Z,rk,W,A,s1,PR,kv,c1,i,B,sz,l,t,e.d,U,si _ _ e2,od,nS,pi,by omega,by omega,λX ch J p1 p2 Ta D1 D2 Hm H9 go fm MR d1 S3 S4 sm de bv YU _ eT f1 f2=>?_⟩;obtain⟨rfl,rfl⟩:=Zk nS go cg;obtain rfl:=S1.oK<|Ku.of pi.p.p.h S3;obtain rfl:=S2.oK<|Ku.of MR.p.p.h S4;have y9:D≠y2:=Ne.symm<|Ai ey hD
  have b8:D≠PR:=Ne.symm<|Ai MO hD
  have h9:D≠AJ:=Ne.symm<|Ai NC hD
  have z9:D≠z2:=Ne.symm<|Ai ez hD
  have dm:=fm _ _ Nd y9 b8 h9;have d9:=sm _ _ dm;obtain⟨dB,dP,bm,_⟩:=id pi.p.p.con.c.ex;obtain⟨ea,bd,_⟩:=id pi.p.st.ex;have IB:=pi.p.p.d;have fd:∀b o,H9 b=some o->¬ (b=D)->upd H9 D (.lst<|zs++[.ref Ta]) b=some o:=λb o O n=>by rw[Aw n];exact O
  have nD:H7 D=none:=s8.free hD;refine hR _ H9 d9 ⟨by rw[ai,h1];rfl,Aj,X,ch,J,(MR.mono sm).frX fd (λb O=>by rw[O];exact nD) (Ne.symm z9) (Ne.symm y9) (Ne.symm h9) (Ne.symm b8)<|λo ps hp z=>?_,by omega,rn,?_⟩
  ·obtain⟨_,_,_,e'⟩:=Ol hp;rw[z,d9] at e'
   cases e'
  ·rw[cr,he];refine C_ (Paired.HW pz λ_ _ q=>q.keep (λb xs O=>?_)<|λb xs O n=>?_)<|.cons ⟨Ta,D1,D2,U,fd _ _ eT<|Ne.symm<|Ai dm de,?_,?_,Ne.symm<|Ai dm bv,Ne.symm<|Ai dm YU⟩ .nil
   ·exact fd _ _ (sm _ _<|fm _ _ O (λz=>by rw[z,bm] at O;cases O) (λz=>by rw[z,bd] at O;cases O) (λz=>by rw[z,IB] at O;cases O)) (λz=>by rw[z,Nd] at O;cases O)
   ·exact fd _ _ (sm _ _<|fm _ _ O (λz=>by rw[z,bm] at O;cases O) (λz=>by rw[z,bd] at O;cases O) (λz=>by rw[z,IB] at O;cases O)) n
   ·rw[eA];exact fd _ _ f1<|Ne.symm<|Ai dm bv
   ·rw[eB];exact fd _ _ f2<|Ne.symm<|Ai dm YU
 rintro D zs Hi hD ⟨_,Nd,_,_,_,pi,_,_,pz⟩;have si:=pi.p.p.con.s;rw[<-el,dt] at pz;obtain⟨ps,h1,h2⟩:=nC (L7.mono si).en;have bB:De K Hi M lv:=.inl<|.inl<|si _ _ L7.lg
 refine⟨_,U,M,U,⟨_,bB⟩,MJ (K:=K) (ps:=ps) (λq=>q.2) bB h1 bK (λq hq H' hs R k=>⟨_,U,k H'<|Am.refl H'⟩)<|λD' H9 vS s9 zv=>?_⟩;have K1:∀{D0:Addr}{zs:List V},Paired (M4 D0 Hi) es zs->Paired (M4 D0 H9) es zs:=λh=>Paired.HW h λ_ _ q=>q.keep (λ_ _ e=>s9 _ _ e)<|λ_ _ e _=>s9 _ _ e
 exact⟨D,D',U,U,.inr ⟨D,D',_,_,U,U,.inl ⟨s9 _ _ Nd,zv⟩,dX (K1 pz)<|K1 h2⟩,q _⟩
end
end K46
end PartK46a
set_option maxHeartbeats 4000000
theorem UL1{α:Type}{us:List α}(h:us.length=1):∃a,us=[a]:=match us,h with | [a],_=>⟨a,U⟩
theorem UL2{α:Type}{us:List α}(h:us.length=2):∃a b,us=[a,b]:=match us,h with | [a,b],_=>⟨a,b,U⟩
theorem UL3{α:Type}{us:List α}(h:us.length=3):∃a b c,us=[a,b,c]:=match us,h with | [a,b,c],_=>⟨a,b,c,U⟩
theorem UL4{α:Type}{us:List α}(h:us.length=4):∃a b c d,us=[a,b,c,d]:=match us,h with | [a,b,c,d],_=>⟨a,b,c,d,U⟩
theorem UL5{α:Type}{us:List α}(h:us.length=5):∃a b c d e,us=[a,b,c,d,e]:=match us,h with | [a,b,c,d,e],_=>⟨a,b,c,d,e,U⟩
namespace K46
open PySem L2 Og
theorem uT{K:W.Frag}{a d c g j h k b f:Addr}(l:W.nsIn K a "hold" = some (some<|.ref d)/\KTup K d [.int 3])(p:W.nsIn K a "leave" = some (some<|.ref c)/\KTup K c [.int 3])(t:W.nsIn K a "pull" = some (some<|.ref g)/\KTup K g [.int 2])(o:W.nsIn K a "push" = some (some<|.ref j)/\KTup K j [.int 2])(n:W.nsIn K a "store" = some (some<|.ref h)/\KTup K h [.int 2,.int 3])(m:W.nsIn K a "press" = some (some<|.ref k)/\KTup K k [.int 2])(s:W.nsIn K a "cancel" = some (some<|.ref b)/\KTup K b [.int 1])(r:W.nsIn K a "shoe" = some (some<|.ref f)/\KTup K f [.int 2]):∀e∈yf,∃q,W.nsIn K a e.1=some (some<|.ref q)/\KTup K q e.2:=λe i=>by
 simp only[yf,List.mem_cons,List.not_mem_nil,or_false] at i;rcases i with rfl | rfl | rfl | rfl | rfl | rfl | rfl | rfl
 ·exact⟨_,l⟩
 ·exact⟨_,p⟩
 ·exact⟨_,t⟩
 ·exact⟨_,o⟩
 ·exact⟨_,n⟩
 ·exact⟨_,m⟩
 ·exact⟨_,s⟩
 ·exact⟨_,r⟩
section
variable{K:W.Frag}
abbrev DA(K:W.Frag)(x:Str)(st:Stmt)(f:Addr):Prop:=W.nsIn K mainGlobals x=some (some<|.ref f)/\∃fd,Cd K x x st f fd
abbrev MA(K:W.Frag)(C:Addr)(x q:Str)(st:Stmt)(f:Addr):Prop:=W.findIn K (.ref C) x=some (some<|.ref f)/\W.isFn K (.ref f)=true/\∃fd,Cd K x q st f fd
theorem Ff{q:Str}{st:Stmt}(F:Cd K x q st f fd)(hl:ps.length=1:=by rfl)(h:∀(kV a b:Value)(c:Option Addr)(d ct:Value)(u:Value),bindArgs (W.fnOf x q (Dh st) (CZ st) (Af st) .none kV a b c d ct) ⟨[u],[]⟩=pure (ps.zip [u]):=by intros;rfl):Binds K fd ps []:=F.binds λkV a b c d ct g e=>by obtain⟨u,rfl⟩:=UL1<|e.trans hl;exact h kV a b c d ct u
theorem DX{q:Str}{st:Stmt}(F:Cd K x q st f fd)(hl:ps.length=2:=by rfl)(h:∀(kV a b:Value)(c:Option Addr)(d ct:Value)(u v:Value),bindArgs (W.fnOf x q (Dh st) (CZ st) (Af st) .none kV a b c d ct) ⟨[u,v],[]⟩=pure (ps.zip [u,v]):=by intros;rfl):Binds K fd ps []:=F.binds λkV a b c d ct g e=>by obtain⟨u,v,rfl⟩:=UL2<|e.trans hl;exact h kV a b c d ct u v
theorem Fv{q:Str}{st:Stmt}(F:Cd K x q st f fd)(hl:ps.length=3:=by rfl)(h:∀(kV b c:Value)(d:Option Addr)(e ct:Value)(u v a:Value),bindArgs (W.fnOf x q (Dh st) (CZ st) (Af st) .none kV b c d e ct) ⟨[u,v,a],[]⟩=pure (ps.zip [u,v,a]):=by intros;rfl):Binds K fd ps []:=F.binds λkV b c d e ct i g=>by obtain⟨u,v,a,rfl⟩:=UL3<|g.trans hl;exact h kV b c d e ct u v a
theorem j9{q:Str}{st:Stmt}(F:Cd K x q st f fd)(hl:ps.length=4:=by rfl)(h:∀(kV c d:Value)(e:Option Addr)(g ct:Value)(u v a b:Value),bindArgs (W.fnOf x q (Dh st) (CZ st) (Af st) .none kV c d e g ct) ⟨[u,v,a,b],[]⟩=pure (ps.zip [u,v,a,b]):=by intros;rfl):Binds K fd ps []:=F.binds λkV c d e g ct j i=>by obtain⟨u,v,a,b,rfl⟩:=UL4<|i.trans hl;exact h kV c d e g ct u v a b
end
theorem jK{l:W.OpenLaw}{w:World}{K:W.Frag}{fa:Addr}(X:K.In h)(G:h.Ns mainGlobals mg)(hY:mg "law" = some (.ref fa))
 {pB cO cD a q1 q2 q3 q4 q5 q6 q7 q8 aN aK p1 p2 p3 p4 p5 p6 b1 b2 b3 b4 b5 b6 b7 e0 fz eg ef ed eL e6 f8 gj eo f9 gt fl g0 el e3 f2 f3 fy eT ey er g2 e7 ds eH eq d9 f0 go e8 ft gw dr e5 e4 e9 ew en ez dx f4 dz d5 gm df eu fr dK es gk eb eO d2 fx gy ej f5 eS ex g3 ec g1 dm eh ep et d0 eA dy fm dH fn fv ei fc gs d4 f6 eC fp H dv e1 de d1 e2 ev dT ek dD em d8 ee gv dp fZ:Addr} {Ts AY hw f1:Option Addr} {UE km:Array (Option Value)} {SY CO AW DI y' A1 h1 g4 dV ga Sl d6:Value}
  {PH ve FC SI VC N3 mh lv ms pc hI mm IP G0 Ll LV Ic IE K' L4 B5 ET C7 B4 BC Bz BA B3 BE CH C5 Cf EN C3 BD AR Co C6 C4 DZ Db DV B2 DJ EH EB D9 B9 BG DU CY Dx AS C0 Bi B0 BB BQ CF EX:Tok}{OA SV LB Lu HC IR GG L5 GS LH IG Kx GU IZ HZ GT Iq GW KS KM GO F3 L6:Option Addr}{WH N4 IA LU JI MC GA IN IS JA KP JO GM IC Lm F8 IH LF Kk HV I0 G' IX:Array (Option Value)}{h4 g8 PD VU N9 XO RE RH VY PV OP V' O0 UH QA PF PY Yf QO X1 TB Pi UX nB nP nM nQ:Nat}{eB eP eM eQ:Array DictEntry}
  {yn:Addr}{SK:Option Addr}{OZ:Array (Option Value)}{VT:Nat}
  (S:DA K "is_whole" zz e0)
  (da:DA K "is_made_of" uG fz)
  (cn:DA K "is_name" yI eg)
  (cl:DA K "rows_of" vJ ef)
  (bv:DA K "is_told" vH ed)
  (a6:DA K "is_within" sWi eL)
  (cA:DA K "is_part" uz e6)
  (bd:DA K "has_parts" vU f8)
  (a5:DA K "count_of_last_lines" zg gj)
  (cp:DA K "is_key_of" vB eo)
  (a3:DA K "stands_behind_stop" sSb f9)
  (c5:DA K "is_step" uy gt)
  (c6:DA K "is_well_made" wz fl)
  (bS:DA K "has_room" zV g0)
  (ch:DA K "is_row" yt el)
  (c0:DA K "check_rows" zJ e3)
  (a1:DA K "numbers_of" wL f2)
  (ct:DA K "count_in_all" ug f3)
  (dd:DA K "places_of" vQ fy)
  (cE:DA K "lines_by_knob" z6 eT)
  (bW:DA K "set_of_step" vX ey)
  (bL:DA K "may_be_member" yr er)
  (cs:DA K "set_of" vD g2)
  (Z:DA K "has_member" xZ e7)
  (a7:DA K "members_of" vO ds)
  (c2:DA K "shifted" wQ eH)
  (bP:DA K "union_of" zc eq)
  (b9:DA K "led_to" yV d9)
  (a4:DA K "drawn_of" sX f0)
  (a2:DA K "held_keys" sHk go)
  (co:DA K "coupled_ways" sWa e8)
  (b8:DA K "coupled_keys" sCq ft)
  (c8:DA K "muted_boards" vW gw)
  (bR:DA K "unmuted_keys" vN dr)
  (bn:DA K "speaking_keys" zX e5)
  (aD:DA K "numbers_on_board" yS e4)
  (a9:DA K "led_by_line" xJ e9)
  (ck:DA K "brought_by_stop" u_ ew)
  (a0:DA K "brought_in_all" vV en)
  (cb:DA K "sounding_pipes" vq ez)
  (an:DA K "knob_named" sKn dx)
  (bB:DA K "knobs_of_board" ul f4)
  (bl:DA K "is_piston" xO dz)
  (ap:DA K "board_named" xM d5)
  (c1:DA K "key_on_board" yP gm)
  (a8:DA K "do_at_console" wG df)
  (c3:DA K "is_deed" z_ eu)
  (bm:DA K "_law_cell_at" yG fr)
  (aw:DA K "_law_mix" wD dK)
  (as:DA K "_law_source" sLo es)
  (cd:DA K "_law_draw" yo gk)
  (V:DA K "_law_name" ux eb)
  (bN:DA K "_law_knob" vm eO)
  (ca:DA K "_law_rows" vC d2)
  (b0:DA K "_law_deed" wU fx)
  (ab:DA K "_law_told" zU gy)
  (bK:DA K "_law_goes_on" vz ej)
  (cx:DA K "_law_done" vG f5)
  (Y:DA K "_law_last" sLa eS)
  (aZ:W.nsIn K mainGlobals "law" = some (some<|.ref fZ))
  (lZ:K.lookup fZ=some ⟨h1,hw,.func<|W.fnOf "law" "law" (Dh Kz) (CZ Kz) (Af Kz) .none g4 dV ga f1 Sl d6,km⟩)(cZ:W.codeIn K Sl "law" = true)(kZ:W.keepIn K (.ref fZ)=true)
  (aC:W.nsIn K mainGlobals "Organ" = some (some<|.ref C))
  (c4:MA K C "__init__" "Organ.__init__" ZW ex)
  (r:MA K C "boards" "Organ.boards" zm g3)
  (p:MA K C "key_count" "Organ.key_count" xQ ec)
  (z:MA K C "key" "Organ.key" yp g1)
  (f:MA K C "board_of" "Organ.board_of" wF dm)
  (u:MA K C "board_of_knob" "Organ.board_of_knob" sBk eh)
  (t:MA K C "coupler" "Organ.coupler" xW ep)
  (P:MA K C "ranks" "Organ.ranks" xF et)
  (q:MA K C "pipe_count" "Organ.pipe_count" ye d0)
  (x:MA K C "pipe" "Organ.pipe" vY eA)
  (J:MA K C "stop" "Organ.stop" wX dy)
  (Q:MA K C "mute" "Organ.mute" xn fm)
  (R:MA K C "board_number" "Organ.board_number" yg dH)
  (A:MA K C "knob_number" "Organ.knob_number" xq fn)
  (M:MA K C "steps" "Organ.steps" zW fv)
  (o:MA K C "knobs" "Organ.knobs" vI ei)
  (k1:W.nsIn K mainGlobals "Console" = some (some<|.ref Cy))
  (cg:MA K Cy "__init__" "Console.__init__" xP fc)
  (i:MA K Cy "draw" "Console.draw" wW gs)
  (I:MA K Cy "pull" "Console.pull" sXp d4)
  (O:MA K Cy "push" "Console.push" ym f6)
  (b:MA K Cy "knobs" "Console.knobs" zT eC)
  (m:MA K Cy "shoe" "Console.shoe" yE fp)
  (mf:W.findIn K (.ref Cy) "store" = some (some<|.ref H))
  (or:W.isFn K (.ref H)=true)
  (o1:K.lookup H=some ⟨SY,Ts,.func<|W.fnOf "store" "Console.store" (Dh V_) (CZ V_) (Af V_) (.ref yn) CO AW DI AY y' A1,UE⟩)(nw:W.codeIn K y' "Console.store" = true)(Z':W.keepIn K (.ref H)=true)
  (j:MA K Cy "press" "Console.press" x_ dv)
  (E:MA K Cy "cancel" "Console.cancel" xK e1)
  (hu:W.plainGet K Cy Str.empty=true)
  (AJ:W.hasDictIn K Cy=true)
  (k6:W.plainOver K Cy=true)
  (mE:W.findIn K (.ref Cy) "__setattr__" = some (some<|.builtin "object.__setattr__"))
  (OW:W.makesIn K Cy=true)
  (hk:W.keepIn K (.ref Cy)=true)
  (Tk:W.findIn K (.ref Cy) "organ" = some none)
  (WE:W.findIn K (.ref Cy) "drawn_set" = some none)
  (Pm:W.findIn K (.ref Cy) "shoe_step" = some none)
  (WG:W.findIn K (.ref Cy) "stored" = some none)
  (YY:W.nsIn K mainGlobals "ValueError" = some none)
  (j2:W.nsIn K mainGlobals "NoKnob" = some (some<|.ref cK))
  (hJ:W.nsIn K mainGlobals "NoPiston" = some (some<|.ref cP))
  (hT:W.nsIn K mainGlobals "NoBoard" = some (some<|.ref cB))
  (nv:W.nsIn K mainGlobals "NoStep" = some (some<|.ref cS))
  (f7:W.nsIn K mainGlobals "OrganError" = some (some<|.ref cO))
  (hW:W.nsIn K mainGlobals "NotHeld" = some (some<|.ref cH))
  (hc:W.nsIn K mainGlobals "NoKey" = some (some<|.ref cY))
  (l0:W.nsIn K mainGlobals "NoDeed" = some (some<|.ref cD))
  (hg:W.excIn K cO RT "ValueError.__new__" = true)
  (ly:W.excIn K cH RT "ValueError.__new__" = true)
  (k9:W.excIn K cY RT "ValueError.__new__" = true)
  (kn:W.excIn K cD RT "ValueError.__new__" = true)
  (kp:Mf K cK cO [cB,cP,cS]=true)
  (g7:Mf K cP cO [cB,cK,cS]=true)
  (n8:Mf K cB cO [cK,cP,cS]=true)
  (i0:Mf K cS cO [cB,cK,cP]=true)
  (hF:Mf K cH cO []=true)
  (US:W.mroIn K cH (.ref cH)=some true)
  (XE:W.mroIn K cP (.ref cP)=some true)
  (k5:W.nsIn K mainGlobals "Piston" = some (some<|.ref pB))
  (kk:W.nsIn K mainGlobals "Every" = some (some<|.ref pE))
  (om:W.nsIn K mainGlobals "Part" = some (some<|.ref pA))
  (L:MA K pE "__init__" "Piston.__init__" sPi de)
  (y:MA K pE "put" "Every.put" sEp d1)
  (ac:MA K pA "__init__" "Part.__init__" yw e2)
  (B:MA K pA "put" "Part.put" yF ev)
  (WU:W.plainGet K pE Str.empty=true)
  (W1:W.hasDictIn K pE=true)
  (Sz:W.plainOver K pE=true)
  (SR:W.findIn K (.ref pE) "__setattr__" = some (some<|.builtin "object.__setattr__"))
  (OU:W.makesIn K pE=true)
  (UO:W.keepIn K (.ref pE)=true)
  (VE:W.findIn K (.ref pE) "knob_set" = some none)
  (TM:W.plainGet K pA Str.empty=true)
  (SA:W.hasDictIn K pA=true)
  (RO:W.plainOver K pA=true)
  (Qb:W.findIn K (.ref pA) "__setattr__" = some (some<|.builtin "object.__setattr__"))
  (Sr:W.makesIn K pA=true)
  (SF:W.keepIn K (.ref pA)=true)
  (UZ:W.findIn K (.ref pA) "knob_set" = some none)
  (X9:W.findIn K (.ref pA) "whole_set" = some none)
  (k7:W.nsIn K mainGlobals "PISTON_COUNT" = some (some<|.int 10 PH))
  (hS:W.specialIn K (.ref pB) "__getattribute__" = some (some<|.builtin "type.__getattribute__"))
  (pd:W.readsIn K pB (.type "type")=true)
  (ou:W.findCls K (.ref pB) (.type "type") "__init__" = some (.val<|.ref de))
  (nI:W.nsIn K mainGlobals "Player" = some (some<|.ref Cp))
  (cv:MA K Cp "__init__" "Player.__init__" wH dT)
  (k:MA K Cp "hold" "Player.hold" wI ek)
  (c:MA K Cp "leave" "Player.leave" z7 dD)
  (g:MA K Cp "act" "Player.act" wO em)
  (F:MA K Cp "do" "Player.do" sQd d8)
  (D:MA K Cp "sound" "Player.sound" vf ee)
  (n:MA K Cp "held" "Player.held" vP gv)
  (d:MA K Cp "knobs" "Player.knobs" sQk dp)
  (kf:W.plainGet K Cp Str.empty=true)
  (nf:W.hasDictIn K Cp=true)
  (kh:W.plainOver K Cp=true)
  (nE:W.findIn K (.ref Cp) "__setattr__" = some (some<|.builtin "object.__setattr__"))
  (WS:W.makesIn K Cp=true)
  (la:W.keepIn K (.ref Cp)=true)
  (X2:W.findIn K (.ref Cp) "organ" = some none)
  (TW:W.findIn K (.ref Cp) "console" = some none)
  (YE:W.findIn K (.ref Cp) "hands" = some none)
  (rQ:W.nsIn K mainGlobals "PART_COUNTS" = some (some<|.ref a))
  (dQ:K.lookup a=some ⟨.type "dict",none,.dict eQ nQ,#[]⟩)
  (kQ:W.KeysLit w.params eQ.toList)
  (oQ:(a == sysModules)=false)
  (mt:W.nsIn K a "hold" = some (some<|.ref q1))
  (nL:W.nsIn K a "leave" = some (some<|.ref q2))
  (kl:W.nsIn K a "pull" = some (some<|.ref q3))
  (pi:W.nsIn K a "push" = some (some<|.ref q4))
  (i3:W.nsIn K a "store" = some (some<|.ref q5))
  (mI:W.nsIn K a "press" = some (some<|.ref q6))
  (mQ:W.nsIn K a "cancel" = some (some<|.ref q7))
  (oL:W.nsIn K a "shoe" = some (some<|.ref q8))
  (pg:W.plainGet K C Str.empty=true)
  (hd:W.hasDictIn K C=true)
  (po:W.plainOver K C=true)
  (sa:W.findIn K (.ref C) "__setattr__" = some (some<|.builtin "object.__setattr__"))
  (mb:W.makesIn K C=true)
  (kc:W.keepIn K (.ref C)=true)
  (sf:W.findIn K (.ref C) "row_list" = some none)
  (p9:W.findIn K (.ref C) "board_list" = some none)
  (rh:W.findIn K (.ref C) "rank_list" = some none)
  (re:W.findIn K (.ref C) "knob_rows" = some none)
  (oi:W.findIn K (.ref C) "board_numbers" = some none)
  (ow:W.findIn K (.ref C) "rank_numbers" = some none)
  (oy:W.findIn K (.ref C) "knob_numbers" = some none)
  (qc:W.findIn K (.ref C) "key_places" = some none)
  (pb:W.findIn K (.ref C) "pipe_places" = some none)
  (qh:W.findIn K (.ref C) "knob_lines" = some none)
  (rj:W.findIn K (.ref C) "step_sets" = some none)
  (UP:W.nsIn K mainGlobals "len" = some none)
  (rp:W.nsIn K mainGlobals "isinstance" = some none)
  (P6:W.nsIn K mainGlobals "int" = some none)
  (Mn:W.nsIn K mainGlobals "bool" = some none)
  (YI:W.nsIn K mainGlobals "str" = some none)
  (LM:W.nsIn K mainGlobals "list" = some none)
  (B8:W.nsIn K mainGlobals "tuple" = some none)
  (WB:W.nsIn K mainGlobals "all" = some none)
  (WJ:W.nsIn K mainGlobals "any" = some none)
  (OE:W.nsIn K mainGlobals "sum" = some none)
  (C9:W.nsIn K mainGlobals "range" = some none)
  (U2:W.nsIn K mainGlobals "zip" = some none)
  (sQ:W.nsIn K mainGlobals "enumerate" = some none)
  (ON:W.nsIn K mainGlobals "max" = some none)
  (vc:W.nsIn K mainGlobals "reversed" = some none)
  (Uf:W.nsIn K mainGlobals "set" = some none)
  (YA:W.nsIn K mainGlobals "min" = some none)
  (xD:W.nsIn K mainGlobals "sorted" = some none)
  (TN:W.nsIn K mainGlobals "LETTERS" = some (some<|.str letters ve))
  (hR:W.nsIn K mainGlobals "MOST_LETTERS" = some (some<|.int 8 FC))
  (hv:W.nsIn K mainGlobals "MOST_ROWS" = some (some<|.int 150 SI))
  (OL:W.nsIn K mainGlobals "MOST_LINES" = some (some<|.int 4 VC))
  (i8:W.nsIn K mainGlobals "MEMBERS_BELOW" = some (some<|.int 1200 N3))
  (rN:W.nsIn K mainGlobals "NAMED" = some (some<|.ref aN))
  (rK:W.nsIn K mainGlobals "KNOBS" = some (some<|.ref aK))
  (rB:W.nsIn K mainGlobals "BOUNDS" = some (some<|.ref aB))
  (rP:W.nsIn K mainGlobals "PARTS" = some (some<|.ref aP))
  (rM:W.nsIn K mainGlobals "MOST_OF" = some (some<|.ref aM))
  (dB:K.lookup aB=some ⟨.type "dict",none,.dict eB nB,#[]⟩)
  (kB:W.KeysLit w.params eB.toList)
  (oB:(aB == sysModules)=false)
  (dP:K.lookup aP=some ⟨.type "dict",none,.dict eP nP,#[]⟩)
  (kP:W.KeysLit w.params eP.toList)
  (oP:(aP == sysModules)=false)
  (dM:K.lookup aM=some ⟨.type "dict",none,.dict eM nM,#[]⟩)
  (kM:W.KeysLit w.params eM.toList)
  (oM:(aM == sysModules)=false)
  (ht:W.nsIn K aP "board" = some (some<|.ref p1))
  (i9:W.nsIn K aP "stop" = some (some<|.ref p2))
  (mo:W.nsIn K aP "mute" = some (some<|.ref p3))
  (lw:W.nsIn K aP "coupler" = some (some<|.ref p4))
  (hN:W.nsIn K aP "rank" = some (some<|.ref p5))
  (iv:W.nsIn K aP "line" = some (some<|.ref p6))
  (o5:W.nsIn K aB "keys" = some (some<|.ref b1))
  (ns:W.nsIn K aB "leap" = some (some<|.ref b2))
  (i2:W.nsIn K aB "pipes" = some (some<|.ref b3))
  (l3:W.nsIn K aB "wind" = some (some<|.ref b4))
  (no:W.nsIn K aB "shift" = some (some<|.ref b5))
  (oS:W.nsIn K aB "low" = some (some<|.ref b6))
  (jl:W.nsIn K aB "high" = some (some<|.ref b7))
  (qn:W.nsIn K aB "new" = some none)
  (qb:W.nsIn K aB "board" = some none)
  (qr:W.nsIn K aB "rank" = some none)
  (ql:W.nsIn K aM "line" = some none)
  (h9:W.nsIn K aM "board" = some (some<|.int 5 mh))
  (mp:W.nsIn K aM "stop" = some (some<|.int 24 lv))
  (mO:W.nsIn K aM "coupler" = some (some<|.int 12 ms))
  (ho:W.nsIn K aM "mute" = some (some<|.int 5 pc))
  (kw:W.nsIn K aM "rank" = some (some<|.int 12 hI))
  (mA:W.nsIn K aM "step" = some (some<|.int 12 mm))
  (uN:K.lookup aN=some ⟨.type "tuple",OA,.seq #[.str "board" IP,.str "rank" G0,.str "stop" Ll,.str "coupler" LV,.str "mute" Ic] h4,WH⟩)
  (uK:K.lookup aK=some ⟨.type "tuple",SV,.seq #[.str "stop" IE,.str "coupler" K',.str "mute" L4] g8,N4⟩)
  (up1:K.lookup p1=some ⟨.type "tuple",LB,.seq #[.str "new" B5,.str "keys" ET] PD,IA⟩)
  (h5:K.lookup p2=some ⟨.type "tuple",Lu,.seq #[.str "new" C7,.str "board" B4] VU,LU⟩)
  (hj:K.lookup p3=some ⟨.type "tuple",HC,.seq #[.str "new" BC,.str "board" Bz] N9,JI⟩)
  (hQ:K.lookup p4=some ⟨.type "tuple",IR,.seq #[.str "new" BA,.str "board" B3,.str "board" BE,.str "leap" CH] XO,MC⟩)
  (oj:K.lookup p5=some ⟨.type "tuple",GG,.seq #[.str "new" C5,.str "pipes" Cf,.str "wind" EN] RE,GA⟩)
  (g5:K.lookup p6=some ⟨.type "tuple",L5,.seq #[.str "rank" C3,.str "shift" BD,.str "low" AR,.str "high" Co] RH,IN⟩)
  (ea:K.lookup yn=some ⟨.type "tuple",SK,.seq #[.none] VT,OZ⟩)
  (i4:K.lookup b1=some ⟨.type "tuple",GS,.seq #[.int (1) C6,.int (61) C4] VY,IS⟩)
  (j4:K.lookup b2=some ⟨.type "tuple",LH,.seq #[.int (-60) DZ,.int (60) Db] PV,JA⟩)
  (mK:K.lookup b3=some ⟨.type "tuple",IG,.seq #[.int (1) DV,.int (97) B2] OP,KP⟩)
  (i6:K.lookup b4=some ⟨.type "tuple",Kx,.seq #[.int (0) DJ,.int (1000000000) EH] V',JO⟩)
  (mR:K.lookup b5=some ⟨.type "tuple",GU,.seq #[.int (-200) EB,.int (200) D9] O0,GM⟩)
  (hr:K.lookup b6=some ⟨.type "tuple",IZ,.seq #[.int (0) B9,.int (60) BG] UH,IC⟩)
  (hC:K.lookup b7=some ⟨.type "tuple",HZ,.seq #[.int (0) DU,.int (60) CY] QA,Lm⟩)
  (hi:K.lookup q1=some ⟨.type "tuple",GT,.seq #[.int (3) Dx] PF,F8⟩)
  (mr:K.lookup q2=some ⟨.type "tuple",Iq,.seq #[.int (3) AS] PY,IH⟩)
  (hs:K.lookup q3=some ⟨.type "tuple",GW,.seq #[.int (2) C0] Yf,LF⟩)
  (o0:K.lookup q4=some ⟨.type "tuple",KS,.seq #[.int (2) Bi] QO,Kk⟩)
  (lz:K.lookup q5=some ⟨.type "tuple",KM,.seq #[.int (2) B0,.int (3) BB] X1,HV⟩)
  (ln:K.lookup q6=some ⟨.type "tuple",GO,.seq #[.int (2) BQ] TB,I0⟩)
  (nT:K.lookup q7=some ⟨.type "tuple",F3,.seq #[.int (1) CF] Pi,G'⟩)
  (n3:K.lookup q8=some ⟨.type "tuple",L6,.seq #[.int (2) EX] UX,IX⟩)
  : ∃fd:FuncData,(∀(s:Shared)(v:Value),BindsTo s fd ⟨[v],[]⟩ [("_law_script",v)])/\∀base:Heap,K.In base->base.Ns mainGlobals mg->An l.prog w K mg base Bb 12 fa fd z4 (Q3 K):=by
 refine Classical.byContradiction λh0=>?_;obtain⟨ks,sh,S⟩:=S;obtain⟨kv,pL,da⟩:=da;obtain⟨ha,p7,cn⟩:=cn;obtain⟨is,rg,cl⟩:=cl;obtain⟨l6,pM,bv⟩:=bv;obtain⟨lr,q0,a6⟩:=a6;obtain⟨g6,r2,cA⟩:=cA;obtain⟨hx,sl,bd⟩:=bd;obtain⟨k4,rb,a5⟩:=a5;obtain⟨hh,sn,cp⟩:=cp;obtain⟨j3,qx,a3⟩:=a3;obtain⟨ny,qv,c5⟩:=c5;obtain⟨pe,qq,c6⟩:=c6;obtain⟨hL,pC,bS⟩:=bS;obtain⟨nt,sd,ch⟩:=ch;obtain⟨k8,qB,c0⟩:=c0;obtain⟨m2,pz,a1⟩:=a1;obtain⟨mD,r5,ct⟩:=ct;obtain⟨lk,pT,dd⟩:=dd;obtain⟨lx,r8,cE⟩:=cE;obtain⟨nl,qy,bW⟩:=bW;obtain⟨kd,rV,bL⟩:=bL;obtain⟨nK,qf,cs⟩:=cs;obtain⟨h8,pr,Z⟩:=Z;obtain⟨hA,ro,a7⟩:=a7;obtain⟨hK,qk,c2⟩:=c2;obtain⟨mi,py,bP⟩:=bP;obtain⟨pf,pN,b9⟩:=b9;obtain⟨mB,r0,a4⟩:=a4;obtain⟨nz,si,a2⟩:=a2;obtain⟨hn,p8,co⟩:=co;obtain⟨l8,rd,b8⟩:=b8;obtain⟨lK,pS,c8⟩:=c8;obtain⟨nD,r9,bR⟩:=bR;obtain⟨ox,pq,bn⟩:=bn;obtain⟨ml,sr,aD⟩:=aD;obtain⟨ls,ps,a9⟩:=a9;obtain⟨g9,rf,ck⟩:=ck;obtain⟨he,sm,a0⟩:=a0;obtain⟨nc,rH,cb⟩:=cb;obtain⟨jm,ri,an⟩:=an;obtain⟨n1,pm,bB⟩:=bB;obtain⟨nS,qd,bl⟩:=bl;obtain⟨l5,r7,ap⟩:=ap;obtain⟨me,sv,c1⟩:=c1;obtain⟨mn,pV,a8⟩:=a8;obtain⟨mY,rq,c3⟩:=c3;obtain⟨k3,rS,bm⟩:=bm;obtain⟨m0,pR,aw⟩:=aw;obtain⟨op,ss,as⟩:=as;obtain⟨m3,rv,cd⟩:=cd;obtain⟨md,rz,V⟩:=V;obtain⟨mT,qs,bN⟩:=bN;obtain⟨m4,qT,ca⟩:=ca;obtain⟨it,qo,b0⟩:=b0;obtain⟨l1,px,ab⟩:=ab;obtain⟨oT,rL,bK⟩:=bK;obtain⟨hM,sy,cx⟩:=cx;obtain⟨h7,r3,Y⟩:=Y;obtain⟨i5,ll,rX,c4⟩:=c4;obtain⟨ng,mM,ry,r⟩:=r;obtain⟨mN,lb,sg,p⟩:=p;obtain⟨n9,mP,sb,z⟩:=z;obtain⟨nn,mc,pp,f⟩:=f;obtain⟨na,nd,se,u⟩:=u;obtain⟨hb,k2,qA,t⟩:=t;obtain⟨nh,oD,rl,P⟩:=P;obtain⟨ov,oc,sj,q⟩:=q;obtain⟨l7,h3,r1,x⟩:=x;obtain⟨hD,mS,qS,J⟩:=J;obtain⟨hH,o2,sk,Q⟩:=Q;obtain⟨mC,nx,r4,R⟩:=R;obtain⟨j5,hB,pl,A⟩:=A;obtain⟨h6,hf,rn,M⟩:=M;obtain⟨mH,kr,qE,o⟩:=o;obtain⟨ob,hy,ru,cg⟩:=cg;obtain⟨hq,nk,q9,i⟩:=i;obtain⟨m1,oe,qO,I⟩:=I;obtain⟨nN,lm,rm,O⟩:=O;obtain⟨mu,h2,pk,b⟩:=b;obtain⟨ot,oz,pj,m⟩:=m;obtain⟨hP,oa,pu,j⟩:=j;obtain⟨oq,kb,ra,E⟩:=E;obtain⟨nm,o4,qa,L⟩:=L;obtain⟨kt,hE,so,y⟩:=y;obtain⟨lp,lq,r6,ac⟩:=ac;obtain⟨k0,hO,p0,B⟩:=B;obtain⟨n6,jn,rs,cv⟩:=cv;obtain⟨ky,l4,rc,k⟩:=k;obtain⟨lg,lD,rr,c⟩:=c;obtain⟨n0,ka,qe,g⟩:=g;obtain⟨mw,mx,rx,F⟩:=F;obtain⟨l2,oC,sw,D⟩:=D;obtain⟨n4,o3,sc,n⟩:=n;obtain⟨n2,l9,rt,d⟩:=d;refine h0 ?_;have e:=hY.symm.trans<|W.mg_of X G aZ
 cases e;have lh:=a_ (st:=V_) o1 nw Z';have FZ:=SQ (st:=Kz) lZ cZ kZ;have n5:Binds K (W.fnOf "store" "Console.store" (Dh V_) (CZ V_) (Af V_) (.ref yn) CO AW DI AY y' A1) wv []:=jq ea U λus hl=>by obtain⟨_,_,_,rfl⟩:=UL3 hl;exact⟨_,U,U⟩
 have gN:KTup K aN [.str "board",.str "rank",.str "stop",.str "coupler",.str "mute"]:=(⟨_,_,_,uN,U,U,by show 5<=sizeLine;decide,.cons ⟨_,U⟩<|.cons ⟨_,U⟩<|.cons ⟨_,U⟩<|.cons ⟨_,U⟩<|.cons ⟨_,U⟩<|.nil⟩);have gK:KTup K aK [.str "stop",.str "coupler",.str "mute"]:=(⟨_,_,_,uK,U,U,by show 3<=sizeLine;decide,.cons ⟨_,U⟩<|.cons ⟨_,U⟩<|.cons ⟨_,U⟩<|.nil⟩);have m5:KTup K p1 [.str "new",.str "keys"]:=(⟨_,_,_,up1,U,U,by show 2<=sizeLine;decide,.cons ⟨_,U⟩<|.cons ⟨_,U⟩<|.nil⟩);have ol:KTup K p2 [.str "new",.str "board"]:=(⟨_,_,_,h5,U,U,by show 2<=sizeLine;decide,.cons ⟨_,U⟩<|.cons ⟨_,U⟩<|.nil⟩);have hp:KTup K p3 [.str "new",.str "board"]:=(⟨_,_,_,hj,U,U,by show 2<=sizeLine;decide,.cons ⟨_,U⟩<|.cons ⟨_,U⟩<|.nil⟩);have hz:KTup K p4 [.str "new",.str "board",.str "board",.str "leap"]:=(⟨_,_,_,hQ,U,U,by show 4<=sizeLine;decide,.cons ⟨_,U⟩<|.cons ⟨_,U⟩<|.cons ⟨_,U⟩<|.cons ⟨_,U⟩<|.nil⟩);have oo:KTup K p5 [.str "new",.str "pipes",.str "wind"]:=(⟨_,_,_,oj,U,U,by show 3<=sizeLine;decide,.cons ⟨_,U⟩<|.cons ⟨_,U⟩<|.cons ⟨_,U⟩<|.nil⟩);have oI:KTup K p6 [.str "rank",.str "shift",.str "low",.str "high"]:=(⟨_,_,_,g5,U,U,by show 4<=sizeLine;decide,.cons ⟨_,U⟩<|.cons ⟨_,U⟩<|.cons ⟨_,U⟩<|.cons ⟨_,U⟩<|.nil⟩);have pa:KTup K b1 [.int (1),.int<|61]:=(⟨_,_,_,i4,U,U,by show 2<=sizeLine;decide,.cons ⟨_,U⟩<|.cons ⟨_,U⟩<|.nil⟩);have od:KTup K b2 [.int (-60),.int<|60]:=(⟨_,_,_,j4,U,U,by show 2<=sizeLine;decide,.cons ⟨_,U⟩<|.cons ⟨_,U⟩<|.nil⟩);have np:KTup K b3 [.int (1),.int<|97]:=(⟨_,_,_,mK,U,U,by show 2<=sizeLine;decide,.cons ⟨_,U⟩<|.cons ⟨_,U⟩<|.nil⟩);have on:KTup K b4 [.int (0),.int<|1000000000]:=(⟨_,_,_,i6,U,U,by show 2<=sizeLine;decide,.cons ⟨_,U⟩<|.cons ⟨_,U⟩<|.nil⟩);have lS:KTup K b5 [.int (-200),.int<|200]:=(⟨_,_,_,mR,U,U,by show 2<=sizeLine;decide,.cons ⟨_,U⟩<|.cons ⟨_,U⟩<|.nil⟩);have nX:KTup K b6 [.int (0),.int<|60]:=(⟨_,_,_,hr,U,U,by show 2<=sizeLine;decide,.cons ⟨_,U⟩<|.cons ⟨_,U⟩<|.nil⟩);have i7:KTup K b7 [.int (0),.int<|60]:=(⟨_,_,_,hC,U,U,by show 2<=sizeLine;decide,.cons ⟨_,U⟩<|.cons ⟨_,U⟩<|.nil⟩);have j0:KTup K q1 [.int (3)]:=(⟨_,_,_,hi,U,U,by show 1<=sizeLine;decide,.cons ⟨_,U⟩<|.nil⟩);have nA:KTup K q2 [.int (3)]:=(⟨_,_,_,mr,U,U,by show 1<=sizeLine;decide,.cons ⟨_,U⟩<|.nil⟩);have n7:KTup K q3 [.int (2)]:=(⟨_,_,_,hs,U,U,by show 1<=sizeLine;decide,.cons ⟨_,U⟩<|.nil⟩);have hm:KTup K q4 [.int (2)]:=(⟨_,_,_,o0,U,U,by show 1<=sizeLine;decide,.cons ⟨_,U⟩<|.nil⟩);have ih:KTup K q5 [.int (2),.int<|3]:=(⟨_,_,_,lz,U,U,by show 2<=sizeLine;decide,.cons ⟨_,U⟩<|.cons ⟨_,U⟩<|.nil⟩);have j1:KTup K q6 [.int (2)]:=(⟨_,_,_,ln,U,U,by show 1<=sizeLine;decide,.cons ⟨_,U⟩<|.nil⟩);have i1:KTup K q7 [.int (1)]:=(⟨_,_,_,nT,U,U,by show 1<=sizeLine;decide,.cons ⟨_,U⟩<|.nil⟩);have mL:KTup K q8 [.int (2)]:=(⟨_,_,_,n3,U,U,by show 1<=sizeLine;decide,.cons ⟨_,U⟩<|.nil⟩);have F2:Za K aB aP aM:=⟨⟨⟨_,ht,m5⟩,⟨_,i9,ol⟩,⟨_,mo,hp⟩,⟨_,lw,hz⟩,⟨_,o5,pa⟩,⟨_,ns,od⟩,qn,qb,⟨_,h9⟩,⟨_,mp⟩,⟨_,mO⟩,⟨_,ho⟩⟩,⟨_,hN,oo⟩,⟨_,iv,oI⟩,⟨_,i2,np⟩,⟨_,l3,on⟩,⟨_,no,lS⟩,⟨_,oS,nX⟩,⟨_,jl,i7⟩,qr,⟨_,kw⟩,ql⟩;have F0:qu K aB aP aM:=⟨F2,⟨_,mA⟩⟩;have T:Txt K w.params mg C Cy Cp pB pE pA cK cP cB cS cO cH cY cD a aN aK aB aP aM:=⟨W.mg_none_of X G UP,W.mg_none_of X G rp,W.mg_none_of X G P6,W.mg_none_of X G Mn,W.mg_none_of X G YI,W.mg_none_of X G LM,W.mg_none_of X G B8,W.mg_none_of X G WB,W.mg_none_of X G WJ,W.mg_none_of X G OE,W.mg_none_of X G C9,W.mg_none_of X G U2,W.mg_none_of X G sQ,W.mg_none_of X G ON,W.mg_none_of X G vc,W.mg_none_of X G Uf,W.mg_none_of X G YA,W.mg_none_of X G xD,⟨_,W.mg_of X G TN⟩,⟨_,W.mg_of X G hR⟩,⟨_,W.mg_of X G hv⟩,⟨_,W.mg_of X G OL⟩,⟨_,W.mg_of X G i8⟩,W.mg_of X G rN,W.mg_of X G rK,W.mg_of X G rB,W.mg_of X G rP,W.mg_of X G rM,gN,gK,⟨⟨_,_,dB,kB⟩,oB⟩,⟨⟨_,_,dP,kP⟩,oP⟩,⟨⟨_,_,dM,kM⟩,oM⟩,⟨pg,hd,po,sa⟩,W.mg_of X G aC,⟨hu,AJ,k6,mE⟩,W.mg_of X G k1,Tk,WE,Pm,WG,⟨W.mg_none_of X G YY,W.mg_of X G j2,W.mg_of X G hJ,W.mg_of X G hT,W.mg_of X G nv,W.mg_of X G f7,hg,Rc.of kp,Rc.of g7,Rc.of n8,Rc.of i0⟩,⟨W.mg_of X G k5,W.mg_of X G kk,W.mg_of X G om,⟨WU,W1,Sz,SR⟩,⟨TM,SA,RO,Qb⟩,VE,UZ,X9,⟨_,W.mg_of X G k7⟩⟩,⟨kf,nf,kh,nE⟩,W.mg_of X G nI,X2,TW,YE,⟨W.mg_none_of X G YY,W.mg_of X G hW,W.mg_of X G f7,ly,Rc.of hF,US⟩,⟨W.mg_of X G hc,W.mg_of X G l0,k9,XE,kn⟩,W.mg_of X G rQ,⟨⟨_,_,dQ,kQ⟩,oQ⟩,uT ⟨mt,j0⟩ ⟨nL,nA⟩ ⟨kl,n7⟩ ⟨pi,hm⟩ ⟨i3,ih⟩ ⟨mI,j1⟩ ⟨mQ,i1⟩ ⟨oL,mL⟩,sf,p9,rh,re,oi,ow,oy,qc,pb,qh,rj⟩;have d3:Binds K (W.fnOf "store" "Console.store" (Dh V_) (CZ V_) (Af V_) (.ref yn) CO AW DI AY y' A1) wv [.none]:=Zr ea U λus hl=>match us,(show us.length=2 by simpa using hl) with | [_,_],_=>⟨_,U,U⟩
 have N:wj K mg C Cy Cp pB pE pA ⟨e0,fz,eg,ef,ed,eL,e6,f8,gj,eo,f9,gt,fl,g0,el,e3,f2,f3,fy,eT,ey,er,g2,e7,ds,eH,eq,d9,f0,go,e8,ft,gw,dr,e5,e4,e9,ew,en,ez,dx,f4,dz,d5,gm,df,eu,fr,dK,es,gk,eb,eO,d2,fx,gy,ej,f5,eS,ex,g3,ec,g1,dm,eh,ep,et,d0,eA,dy,fm,dH,fn,fv,ei,fc,gs,d4,f6,eC,fp,H,dv,e1,de,d1,e2,ev,dT,ek,dD,em,d8,ee,gv,dp,_,_,_,_,_,_,_,_,_,_,_,_,_,_,_,_,_,_,_,_,_,_,_,_,_,_,_,_,_,_,_,_,_,_,_,_,_,_,_,_,_,_,_,_,_,_,_,_,_,_,_,_,_,_,_,_,_,_,_,_,_,_,_,_,_,_,_,_,_,_,_,_,_,_,_,_,_,_,_,_,_,_,_,_,_,_,_,_,_,_,_,_,_,_,_,_⟩:=⟨⟨S,Ff S,W.mg_of X G ks⟩,⟨da,Fv da,W.mg_of X G kv⟩,⟨cn,Ff cn,W.mg_of X G ha⟩,⟨cl,DX cl,W.mg_of X G is⟩,⟨bv,Fv bv,W.mg_of X G l6⟩,⟨a6,DX a6,W.mg_of X G lr⟩,⟨cA,Fv cA,W.mg_of X G g6⟩,⟨bd,DX bd,W.mg_of X G hx⟩,⟨a5,Ff a5,W.mg_of X G k4⟩,⟨cp,Fv cp,W.mg_of X G hh⟩,⟨a3,DX a3,W.mg_of X G j3⟩,⟨c5,DX c5,W.mg_of X G ny⟩,⟨c6,DX c6,W.mg_of X G pe⟩,⟨bS,DX bS,W.mg_of X G hL⟩,⟨ch,DX ch,W.mg_of X G nt⟩,⟨c0,Ff c0,W.mg_of X G k8⟩,⟨a1,Ff a1,W.mg_of X G m2⟩,⟨ct,Ff ct,W.mg_of X G mD⟩,⟨dd,Ff dd,W.mg_of X G lk⟩,⟨cE,DX cE,W.mg_of X G lx⟩,⟨bW,DX bW,W.mg_of X G nl⟩,⟨bL,Ff bL,W.mg_of X G kd⟩,⟨cs,Ff cs,W.mg_of X G nK⟩,⟨Z,DX Z,W.mg_of X G h8⟩,⟨a7,Ff a7,W.mg_of X G hA⟩,⟨c2,Fv c2,W.mg_of X G hK⟩,⟨bP,Ff bP,W.mg_of X G mi⟩,⟨b9,Fv b9,W.mg_of X G pf⟩,⟨a4,Fv a4,W.mg_of X G mB⟩,⟨a2,DX a2,W.mg_of X G nz⟩,⟨co,Fv co,W.mg_of X G hn⟩,⟨b8,Fv b8,W.mg_of X G l8⟩,⟨c8,DX c8,W.mg_of X G lK⟩,⟨bR,Fv bR,W.mg_of X G nD⟩,⟨bn,Fv bn,W.mg_of X G ox⟩,⟨aD,Fv aD,W.mg_of X G ml⟩,⟨a9,Fv a9,W.mg_of X G ls⟩,⟨ck,Fv ck,W.mg_of X G g9⟩,⟨a0,Fv a0,W.mg_of X G he⟩,⟨cb,Fv cb,W.mg_of X G nc⟩,⟨an,DX an,W.mg_of X G jm⟩,⟨bB,DX bB,W.mg_of X G n1⟩,⟨bl,Ff bl,W.mg_of X G nS⟩,⟨ap,DX ap,W.mg_of X G l5⟩,⟨c1,Fv c1,W.mg_of X G me⟩,⟨a8,Fv a8,W.mg_of X G mn⟩,⟨c3,Ff c3,W.mg_of X G mY⟩,⟨bm,DX bm,W.mg_of X G k3⟩,⟨aw,Fv aw,W.mg_of X G m0⟩,⟨as,DX as,W.mg_of X G op⟩,⟨cd,DX cd,W.mg_of X G m3⟩,⟨V,DX V,W.mg_of X G md⟩,⟨bN,j9 bN,W.mg_of X G mT⟩,⟨ca,Ff ca,W.mg_of X G m4⟩,⟨b0,j9 b0,W.mg_of X G it⟩,⟨ab,DX ab,W.mg_of X G l1⟩,⟨bK,DX bK,W.mg_of X G oT⟩,⟨cx,j9 cx,W.mg_of X G hM⟩,⟨Y,Fv Y,W.mg_of X G h7⟩,⟨c4,DX c4,⟨mb,i5,ll,kc⟩⟩,⟨r,Ff r,⟨ng,mM,r.kp⟩⟩,⟨p,Ff p,⟨mN,lb,p.kp⟩⟩,⟨z,Fv z,⟨n9,mP,z.kp⟩⟩,⟨f,DX f,⟨nn,mc,f.kp⟩⟩,⟨u,DX u,⟨na,nd,u.kp⟩⟩,⟨t,DX t,⟨hb,k2,t.kp⟩⟩,⟨P,Ff P,⟨nh,oD,P.kp⟩⟩,⟨q,Ff q,⟨ov,oc,q.kp⟩⟩,⟨x,Fv x,⟨l7,h3,x.kp⟩⟩,⟨J,DX J,⟨hD,mS,J.kp⟩⟩,⟨Q,DX Q,⟨hH,o2,Q.kp⟩⟩,⟨R,DX R,⟨mC,nx,R.kp⟩⟩,⟨A,DX A,⟨j5,hB,A.kp⟩⟩,⟨M,Ff M,⟨h6,hf,M.kp⟩⟩,⟨o,Ff o,⟨mH,kr,o.kp⟩⟩,⟨cg,DX cg,⟨OW,ob,hy,hk⟩⟩,⟨i,DX i,⟨hq,nk,i.kp⟩⟩,⟨I,DX I,⟨m1,oe,I.kp⟩⟩,⟨O,DX O,⟨nN,lm,O.kp⟩⟩,⟨b,Ff b,⟨mu,h2,b.kp⟩⟩,⟨m,DX m,⟨ot,oz,m.kp⟩⟩,⟨lh,n5,⟨mf,or,Z'⟩⟩,⟨j,DX j,⟨hP,oa,j.kp⟩⟩,⟨E,Ff E,⟨oq,kb,E.kp⟩⟩,⟨L,DX L,⟨OU,nm,o4,UO⟩⟩,⟨y,DX y,⟨kt,hE,y.kp⟩⟩,⟨ac,Fv ac,⟨Sr,lp,lq,SF⟩⟩,⟨B,DX B,⟨k0,hO,B.kp⟩⟩,⟨cv,DX cv,⟨WS,n6,jn,la⟩⟩,⟨k,DX k,⟨ky,l4,k.kp⟩⟩,⟨c,DX c,⟨lg,lD,c.kp⟩⟩,⟨g,DX g,⟨n0,ka,g.kp⟩⟩,⟨F,DX F,⟨mw,mx,F.kp⟩⟩,⟨D,Ff D,⟨l2,oC,D.kp⟩⟩,⟨n,Ff n,⟨n4,o3,n.kp⟩⟩,⟨d,Ff d,⟨n2,l9,d.kp⟩⟩,d3,⟨hS,pd,ou,L.kp⟩⟩;exact⟨W.fnOf "law" "law" (Dh Kz) (CZ Kz) (Af Kz) .none g4 dV ga f1 Sl d6,λs v=>.of_eq U,λbase _ _=>kO FZ N T F0⟩
theorem walk{l:W.OpenLaw}{q:Program}{g:List Str}{m:(Str->Option Value)->Heap->Prop}{e:World->Heap->Prop}{d:DefRec}{K:Params->W.Frag}(p:l.most=some 63)(o:d.params.defaults=[])
  (j:∀(w:World)(h:Heap),e w h->(K w.params).In h)
  (F:∀(w:World)(b:Str->Option Value)(c:Addr)(h:Heap),(K w.params).In h->h.Ns mainGlobals b->b d.name=some (.ref c) ->
   ∃fd:FuncData,(∀(s:Shared)(u:Value),BindsTo s fd ⟨[u],[]⟩ [("_law_script",u)])/\∀base:Heap,(K w.params).In base->base.Ns mainGlobals b->An l.prog w (K w.params) b base Bb 12 c fd z4 (Q3<|K w.params)) :
  W.WalkO q g m e l.row.toRowW d [] (λf vs=>PySem.call f vs) :=
 L2.cJ (n:=63) (k:=12) (x:="_law_script") (CX:=λ_=>Bb) (sp:=λw=>Q3<|K w.params) p (by decide) o ⟨U,by decide,by decide⟩ j F (λ_ _ a i hl _ r=>⟨a,i,U,r,hl,λ_=>rfl⟩) λ_ _ _ _ _ z=>z
end K46
open PySem PySem.W PyProof.Rows
namespace PySem.W.Fast
def tw14183758932555874714:=()
def tw2581691157140745760:=()
def tw12470829851881455796:=()
def tw18326252040800559863:=()
def tw7670653332619454026:=()
def tw11801552780092404598:=()
def tw5399574040920503535:=()
def tw9573284839548734211:=()
def tw10542694726648165969:=()
def tw16074350853635729707:=()
def tw4569146509830938546:=()
def tw4081587208267545960:=()
def tw4832434567578482642:=()
def tw12037312676604624328:=()
def tw13802852197962443752:=()
def tw9721798256943571731:=()
def tw14354430209304695308:=()
def tw1731104758030661401:=()
def tw7711755357056392948:=()
def tw1620695195483039607:=()
def tw7591913902793877921:=()
def tw1017049970994312669:=()
def tw2478094333200242615:=()
def tw11394277198939595247:=()
def tw11296457288904969089:=()
def tw16348895755547063322:=()
def tw6334409001855018477:=()
def tw16893963344018430865:=()
def tw14231488289847242835:=()
def tw453532613910678920:=()
def tw11409496541616256931:=()
def tw419133497184624509:=()
def tw1493157556258954073:=()
def tw17578120725983082351:=()
def tw1535335063817734362:=()
def tw4197057016982037283:=()
def tw1313236881390714470:=()
def tw10973899419694948217:=()
def tw1110899871296268639:=()
def tw4495911542924903505:=()
def tw6089959628839365872:=()
def tw13359815766998507669:=()
def tw2991309204231530565:=()
def tw1077097669393782558:=()
def tw13588712547552997922:=()
def tw17791317892721645397:=()
def tw15789319970118659460:=()
def tw16035907315971834949:=()
def tw3773606011024101417:=()
def tw12176821057103736787:=()
def tw16677265763331312561:=()
def tw4669903469294371093:=()
def tw755434653487269223:=()
def tw14260994494952636180:=()
def tw1629362706629263970:=()
def tw8044596910479698203:=()
def tw7520702340225073611:=()
def tw3163096146796571584:=()
def tw6346693464622195850:=()
def tw8228463961530696958:=()
def tw17278052994570324962:=()
def tw9775206221614847074:=()
def tw16102365795663745178:=()
def tw1214716179953993255:=()
def tw11151392177076679485:=()
def tw11949784910502708168:=()
def tw2297495873314963316:=()
def tw1189138809503008373:=()
def tw5062826049667230419:=()
def tw17499401427132374839:=()
def tw10761685275685136323:=()
def tw2638775493161807387:=()
def tw8627072242004218643:=()
def tw8217696023942295312:=()
def tw11636983132874486618:=()
def tw254257499462839107:=()
def tw392558473725776893:=()
def tw9870559732028084302:=()
def tw2414170827197292848:=()
def tw4710344380893441336:=()
def tw3253632651098351634:=()
def tw13326043968208590040:=()
def tw11744841590268445154:=()
def tw1294673303398512774:=()
def tw13519584482072670177:=()
def tw16493501810004137988:=()
def tw16399297069707170395:=()
def tw10543681388351802823:=()
def tw5531922938001451460:=()
def tw9021461789273474099:=()
def tw4728641191993838306:=()
def tw5419019179018363442:=()
def tw679091167752133046:=()
def tw2169693783252039598:=()
def tw2366820805768075814:=()
def tw14049088144938101451:=()
def tw14939872578579690428:=()
def tw9370722911658921750:=()
def tw9290350757760904413:=()
def tw17617827079039037667:=()
def tw12212246899489087729:=()
def tw6957673600698928546:=()
def tw2810680271267146404:=()
def tw997469629796466762:=()
def tw6948084604869040908:=()
def tw17635830733144788854:=()
def tw7511437699974587884:=()
def tw10578421821738596300:=()
def tw11204733874199786058:=()
def tw13078269871235149039:=()
def tw17864162204306823138:=()
def tw8555590359934242980:=()
def tw14707813570183866138:=()
def tw8245864532644153880:=()
def tw2509608438099800222:=()
def tw15552514052751224816:=()
def tw11861526372640325511:=()
def tw4376006920385712563:=()
def tw11612593860716170234:=()
def tw8667679136084199138:=()
def tw16712125302204931703:=()
def tw15680169686820655380:=()
def tw3166533022629449131:=()
def tw1630063853695882313:=()
def tw12992307281110616836:=()
def tw10297561216827325728:=()
def tw16418050501679361632:=()
def tw6899878600662315459:=()
def tw12850128222141013795:=()
def tw8198210023712800980:=()
def tw3590515394920034959:=()
def tw11581314659092006871:=()
def tw11474348944723165708:=()
def tw13097478157422229615:=()
def tw6951381655415876153:=()
def tw3170593235862684945:=()
def tw9711596114762889560:=()
def tw837194169709907857:=()
def tw48120349368152933:=()
def tw15579286872852839722:=()
def tw3538368043362838804:=()
def tw11330327375917028786:=()
def tw17320288423394618710:=()
def tw9852605178638796939:=()
def tw6421720484680473206:=()
def tw7312556395730690498:=()
def tw1055254547703925001:=()
def tw12384297098919661034:=()
def tw4251831818542313742:=()
def tw9702052165827066684:=()
def tw4882954053805490799:=()
def tw8037826691840233570:=()
def tw13893553254490487785:=()
def tw10124107475964758396:=()
def tw15973528361723390014:=()
def tw4701610230756783821:=()
def tw12885040069985015591:=()
def tw315090427099567799:=()
def tw11368839232298997762:=()
def tw12183157141816281388:=()
def tw5237212434031302772:=()
def tw9896072602322776566:=()
def tw13355909278812669391:=()
def tw16448998939112714699:=()
def tw5478168277193732901:=()
def tw14597426215321985403:=()
def tw1225153315252693377:=()
def tw6693475288689434100:=()
def tw17600504515347017938:=()
def tw7259766038198246261:=()
def tw9106224157611261532:=()
def tw14297900744338604978:=()
def tw1998665649912268940:=()
def tw5449208313982635050:=()
def tw2833631479270054377:=()
def tw6938791283135842386:=()
def tw11994233046550748579:=()
def tw5897043550493242979:=()
def tw4404238505976062589:=()
def tw8430337371156588372:=()
def tw8653740079444777171:=()
def tw6088843760389508976:=()
def tw12658608447011224299:=()
def tw5749397869941922967:=()
def tw16842935578183657792:=()
def tw17907887737224262293:=()
def tw17427113842497898281:=()
def tw16499605465233777108:=()
def tw14108199300841417621:=()
def tw9144584077664099052:=()
def tw15947815637809354230:=()
def tw205033603970015981:=()
def tw978938123738161610:=()
def tw1924626326133539933:=()
def tw380776179108026612:=()
def tw15920852797454979151:=()
def tw6698656547764543527:=()
def tw2332597424650740011:=()
def tw14993068675516369456:=()
def tw9163110467347334018:=()
def tw3646061737492483665:=()
def tw15933801887084660087:=()
def tw2477149214753620613:=()
def tw6135420340851863422:=()
def tw4417261334214867138:=()
def tw4450545825203532079:=()
def tw11922674423112812822:=()
def tw13127567785680806807:=()
def tw5855912713666053248:=()
def tw12047168544925339793:=()
def tw11215129228455539236:=()
def tw12383167019564981899:=()
def tw1845725752207803561:=()
def tw1309044786144352789:=()
def tw4571464640631157602:=()
def tw8135929359796596466:=()
def tw10454272745388610961:=()
def tw6091585732243603855:=()
def tw17404098433238885056:=()
def tw149457858358052777:=()
def tw11460802698594624861:=()
def tw17071418809604130204:=()
def tw3454334489820963790:=()
def tw11078016409979702501:=()
def tw13072170449861020206:=()
def tw5110076821539840642:=()
def tw11020895212809320002:=()
def tw5942911327610816127:=()
def tw9415255381437646030:=()
def tw6036965271412090003:=()
def tw3834073030567071275:=()
def tw9187879195608401227:=()
def tw2042840960434882284:=()
def tw14966651006281464668:=()
def tw197107078979203671:=()
def tw2330394846493012875:=()
def tw13448185528272379966:=()
def tw10592587021377436406:=()
def tw5482377126626632524:=()
def tw6073786833717540966:=()
def tw11202802219638709971:=()
def tw17956109081885471970:=()
def tw16028716641639709643:=()
def tw14325232591685609551:=()
def tw3046136669193612168:=()
def tw5448887874906830299:=()
def tw6296281400613720221:=()
def tw9031739190234124061:=()
def tw6321604419209798402:=()
def tw14890044610825467545:=()
def tw3916003349807677444:=()
def tw18189843912806637179:=()
def tw9771828358219912806:=()
def tw8987919415811600018:=()
def tw6649127961467415735:=()
def tw7651758524324294553:=()
def tw7080446701727811788:=()
def tw3606524871691925648:=()
def tw9678006055192994304:=()
def tw6273845926698933732:=()
def tw10539179548719688705:=()
def tw8440064732646405261:=()
def tw16355597057426265195:=()
def tw10714410901812737910:=()
def tw18234780304556315759:=()
def tw1260446036688481594:=()
def tw3325365643674399258:=()
def tw1666835851893174182:=()
def tw12804417803974266895:=()
def tw5623603583744343220:=()
def tw11439024027783090440:=()
def tw17170097570612721273:=()
def tw10660910662099476997:=()
def tw8380153452354515415:=()
def tw6505856418837217086:=()
def tw9286186056407376222:=()
def tw2280651179174741243:=()
def tw11336633086948780243:=()
def tw11149452076821896769:=()
def tw8701983430226854590:=()
def tw9872113830030723372:=()
def tw5753496636112305905:=()
def tw6158416691495573602:=()
def tw1235033670043981043:=()
def tw9371616199360190665:=()
def tw5886595769431214598:=()
def tw578208674172397398:=()
def tw60104417891386824:=()
def tw15397810199176568824:=()
def tw5897200536515477204:=()
def tw10385867718622952192:=()
def tw12706151470474510140:=()
def tw6415515930185846454:=()
def tw15108959422690421883:=()
def tw3265487318050235525:=()
def tw3823891438943171080:=()
def tw2610242073397327844:=()
def tw16257010254597688033:=()
def tw10081869917251142398:=()
def tw2750381003584151958:=()
def tw4772335815644507244:=()
def tw3996766000048451602:=()
def tw11715040445793227852:=()
def tw4167186737633681270:=()
def tw10939911137949911847:=()
def tw9943170767559262194:=()
def tw16034310504487301058:=()
def tw10236105169620528770:=()
def tw13355271749739274363:=()
def tw15346482105199100850:=()
def tw9220947539007554050:=()
def tw3755902841507649337:=()
def tw7495413504914837475:=()
def tw6740945598269956966:=()
def tw9639901426413337122:=()
def tw2629599191547200342:=()
def tw5325441068970749877:=()
def tw12439528552752791784:=()
def tw7225817033492926366:=()
def tw9455900011753715441:=()
def tw13176163747458717853:=()
def tw17772957156267916027:=()
def tw3192242603105567845:=()
def tw7247842000925370123:=()
def tw9214635138011298169:=()
def tw5705338008719947653:=()
def tw18205892564438269154:=()
end PySem.W.Fast
set_option maxRecDepth 100000 in
set_option maxHeartbeats 0 in
theorem PySem.Challenge.cw_windchest_k46_whole_pipes_in_turn_holds : PySem.Challenge.rw_windchest_k46_whole_pipes_in_turn.Holds := by
 w_on; o_law; k_head; (case hw=>w_witness2)
 k_fill
 refine K46.walk (l:=PySem.Challenge.rw_windchest_k46_whole_pipes_in_turn) rfl rfl (fun w h Y=>PySem.W.kIn_of Y) ?F
 case F =>
  intro w mg fa h KX G hmg;refine' K46.jK KX G hmg ?_ ?_ ?_ ?_ ?_ ?_ ?_ ?_ ?_ ?_ ?_ ?_ ?_ ?_ ?_ ?_ ?_ ?_ ?_ ?_ ?_ ?_ ?_ ?_ ?_ ?_ ?_ ?_ ?_ ?_ ?_ ?_ ?_ ?_ ?_ ?_ ?_ ?_ ?_ ?_ ?_ ?_ ?_ ?_ ?_ ?_ ?_ ?_ ?_ ?_ ?_ ?_ ?_ ?_ ?_ ?_ ?_ ?_ ?_ ?_ ?_ ?_ ?_ ?_ ?_ ?_ ?_ ?_ ?_ ?_ ?_ ?_ ?_ ?_ ?_ ?_ ?_ ?_ ?_ ?_ ?_ ?_ ?_ ?_ ?_ ?_ ?_ ?_ ?_ ?_ ?_ ?_ ?_ ?_ ?_ ?_ ?_ ?_ ?_ ?_ ?_ ?_ ?_ ?_ ?_ ?_ ?_ ?_ ?_ ?_ ?_ ?_ ?_ ?_ ?_ ?_ ?_ ?_ ?_ ?_ ?_ ?_ ?_ ?_ ?_ ?_ ?_ ?_ ?_ ?_ ?_ ?_ ?_ ?_ ?_ ?_ ?_ ?_ ?_ ?_ ?_ ?_ ?_ ?_ ?_ ?_ ?_ ?_ ?_ ?_ ?_ ?_ ?_ ?_ ?_ ?_ ?_ ?_ ?_ ?_ ?_ ?_ ?_ ?_ ?_ ?_ ?_ ?_ ?_ ?_ ?_ ?_ ?_ ?_ ?_ ?_ ?_ ?_ ?_ ?_ ?_ ?_ ?_ ?_ ?_ ?_ ?_ ?_ ?_ ?_ ?_ ?_ ?_ ?_ ?_ ?_ ?_ ?_ ?_ ?_ ?_ ?_ ?_ ?_ ?_ ?_ ?_ ?_ ?_ ?_ ?_ ?_ ?_ ?_ ?_ ?_ ?_ ?_ ?_ ?_ ?_ ?_ ?_ ?_ ?_ ?_ ?_ ?_ ?_ ?_ ?_ ?_ ?_ ?_ ?_ ?_ ?_ ?_ ?_ ?_ ?_ ?_ ?_ ?_ ?_ ?_ ?_ ?_ ?_ ?_ ?_ ?_ ?_ ?_ ?_ ?_ ?_ ?_ ?_ ?_ ?_ ?_ ?_ ?_ ?_ ?_ ?_ ?_ ?_ ?_ ?_ ?_ ?_ ?_ ?_ ?_ ?_ ?_ ?_ ?_ ?_
  all_goals first | (k_is; done) | (refine' ⟨?a,_,L2.SQ ?l ?c ?k⟩; (case a=>k_is); (case l=>k_is); (case c=>k_is); case k=>k_is) | (refine' ⟨?a,?i,_,L2.SQ ?l ?c ?k⟩; (case a=>k_is); (case i=>k_is); (case l=>k_is); (case c=>k_is); case k=>k_is) | (k_keys; done) | decide | kernel_rfl! | skip
