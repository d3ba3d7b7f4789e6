import PyProof.Rows.All
import Wide.All
import OpenK.AllK
import Wide.FinOn
import Lean
import PyProof.EqAt
import PyProof.EqKinds
import PyProof.TupleCall
import PyProof.ZipIter
import PyProof.WalksEnum
import PyProof.EnumMake
import PyProof.NeKinds
import KE.KDictList
import PyProof.Rows.SetFrom
import PyProof.StrWalks
import PyProof.CollectWalk
import PyProof.Rows.SortWalk
import PyProof.Rows.BitMore
import PyProof.Rows.IntCalls
import KE.KRevIter
import PyProof.SetRoads
import OpenK.KTop
import PyProof.Rows.StrWeight2
import PyProof.SumWalk
import PyProof.SliceList
import PyProof.FactsAll.subtypes_4
import PyProof.StationsW
import PyProof.NsDelKeeps
import PyProof.Rows.StrClose
import PyProof.Rows.CatFin
import PyProof.SeqI3
import PyProof.Rows.StrCase
import PyProof.PureStr
import PyProof.IsRules
import PyProof.Rows.SortRunsK
import KE.KSortAsk
import KE.KSortTup
import PySem.Challenge.RW_windchest_k44_whole_changes_told
abbrev vSP:=PySem.Value->PySem.Shared->Prop
def ae:=@List.getElem?_eq_getElem
def af:=@List.length_map
def ag:=@List.getElem?_eq_some_iff
def ah:=@Nat.le_refl
def ai:=@List.mem_of_getElem?
def al:=@List.length_append
def am:=@List.getElem?_map
def ar:=@Nat.lt_of_le_of_lt
def av:=@List.mem_singleton
def ax:=@List.length_singleton
def ay:=@List.mem_map
def aE:=@List.map_map
def aI:=@PyProof.Rows.boot_isinstance
def aS:=@PySem.boot_len
def aT:=@Option.map_eq_some_iff
def ba:=@List.filter_eq_self
def bb:=@List.mem_map_of_mem
def be:=@Nat.le_trans
def bg:=@List.mem_filter
def bi:=@Nat.lt_of_lt_of_le
def bo:=@List.length_cons
def bp:=@Int.toNat_natCast
def bq:=@List.mem_cons_of_mem
def br:=@List.mem_append_right
def bt:=@List.length_filter_le
def bE:=@List.size_toArray
def bX:=@List.mem_append
def cc:=@List.getD_eq_getElem?_getD
def ce:=@List.mem_cons_self
def cf:=@Nat.ne_of_lt
def ci:=@List.mem_cons
def ck:=@PySem.F.plainAttrs_list
def cm:=@List.length_take
def cq:=@List.map_append
def cr:=@PySem.F.slot_list_append
def cw:=@PySem.F.type_list_append
def cy:=@List.take_add_one
def dc:=@List.map_cons
def dn:=@List.mem_append_left
def dt:=@List.getElem?_append_right
def dA:=@Nat.succ_le_succ
def dE:=@List.getElem?_eq_none
def dL:=@Nat.zero_le
def dS:=@PyProof.Rows.boot_list
def ee:=@List.getElem?_of_mem
def et:=@List.getElem_mem
def eD:=@List.append_nil
def eI:=@Bool.eq_iff_iff
def eJ:=@List.take_length
def eR:=@List.filter_map
def fb:=@Bool.false_ne_true
def fe:=@PySem.F.slot_dict_get
def ff:=@Bool.and_eq_true
def fg:=@List.filter_cons
def fh:=@List.take_append_of_le_length
def fi:=@Option.isSome_iff_exists
def fk:=@List.filter_append
def fo:=@List.all_eq_true
def fq:=@Bool.not_eq_true
def ft:=@List.ext_getElem?
def fw:=@List.getElem?_append_left
def fz:=@List.sum_append
def fA:=@PyProof.Rows.boot_int
def fE:=@Int.natCast_nonneg
def fF:=@Nat.lt_succ_self
def fI:=@List.mem_iff_getElem
def fN:=@Nat.eq_of_testBit_eq
def fR:=@Nat.lt_irrefl
def fS:=@Bool.true_and
def fT:=@Nat.le_of_lt
def gc:=@List.mem_range
def gd:=@List.append_assoc
def ge:=@List.idxOf_lt_length_of_mem
def gg:=@List.take_of_length_le
def gi:=@List.any_eq_true
def gp:=@List.getElem?_zipWith
def gu:=@List.take_append_drop
def gx:=@PyProof.Rows.boot_all
def gy:=@List.mem_of_mem_take
def gz:=@Nat.lt_succ_of_lt
def gE:=@List.length_range
def gI:=@Int.zero_add
def gL:=@PySem.F.plainAttrs_dict
def gS:=@List.map_congr_left
def gT:=@PyProof.Rows.boot_tuple
def gX:=@Int.eq_ofNat_of_zero_le
def hG:=@Bool.false_and
def hU:=@Int.emod_lt_of_pos
def hV:=@Nat.ne_of_gt
def hZ:=@List.nodup_cons
def ic:=@List.map_id
def ii:=@PyProof.Rows.boot_str
def ij:=@List.map_take
def im:=@Nat.le_succ_of_le
def io:=@List.getElem?_zipIdx
def ip:=@Nat.lt_pow_two_of_testBit
def iq:=@List.lookup_cons
def ix:=@Nat.mod_eq_of_lt
def iA:=@List.length_zipWith
def iE:=@Nat.not_lt_zero
def iF:=@Nat.add_sub_cancel_left
def iL:=@Int.emod_nonneg
def iN:=@PySem.F.slot_dict_getitem.lookup
def iO:=@PyProof.Rows.boot_bool
def iP:=@Nat.le_succ
def iS:=@List.nodup_append
def iX:=@List.length_replicate
def ja:=@Nat.lt_trans
def jp:=@PySem.F.type_dict_get
def jv:=@Nat.sub_self
def jI:=@PyProof.Rows.boot_any
def jS:=@PyProof.Rows.boot_min
def ke:=@Nat.mul_le_mul_right
def kg:=@Nat.pow_le_pow_right
def ki:=@List.any_cons
def ko:=@List.sum_cons
def kq:=@Option.map_some
def ku:=@Nat.lt_two_pow_self
def kx:=@List.take_sublist
def kz:=@List.foldl_append
def kA:=@Nat.lt_of_succ_lt
def kC:=@List.length_drop
def kD:=@Nat.le_add_right
def kF:=@List.getElem_map
def kG:=@List.map_nil
def kK:=@Int.mul_one
theorem kL {p q r:Prop} (h:p):(p∨q)∨r:=.inl (.inl h)
local macro_rules|`(tactic|decide)=>`(tactic|decide +kernel)
local macro_rules | `(tactic| omega) => `(tactic| lia)
set_option Elab.async false
set_option linter.all false
set_option maxRecDepth 100000
noncomputable section
namespace L2
open PySem PySem.Spec PyProof.Rows
variable {s:Shared} {A:Around} {n i j t' m dr sh:Nat} {pos d6:Pos} {a C p f Cy sd b dx aB aP aM D pE pA it z Cp:Addr} {E Q:vSP} {x t qual:Str} {a8:List (Addr × Obj)} {prog P:Program} {e tg iter lf:Expr} {u:Value} {h h' base:Heap} {fd:FuncData} {ps ns nms:List Str} {es k9:List Expr} {sts:List Nat} {c:Int} {scope:Scope} {mg:Str->Option Value} {fp:List Addr} {led:Bool}
abbrev Key:=Sum Int Str
def Kc:Key->Value->Bool
 | .inl k,v=>Value.isInt k v
 | .inr x,v=>Value.isStrOf x v
def xu (w:World):Key->Int
 | .inl k=>hashInt k
 | .inr x=>hashStr w x
theorem Cr:∀ {k:Key} {v:Value},Kc k v=true->(∃ i t,k=Sum.inl i/\v=Value.int i t) \/ (∃ x t,k=Sum.inr x/\v=Value.str x t)
 | .inl i,v,h=>by
  obtain⟨t,e⟩:=Value.isInt_shape (k:=i) (v:=v) h
  exact .inl ⟨i,t,rfl,e⟩
 | .inr x,v,h=>by
  obtain⟨t,e⟩:=Value.isStrOf_shape (x:=x) (v:=v) h
  exact .inr ⟨x,t,rfl,e⟩
theorem Um (i:Int) (t:Tok):Kc (.inl i) (.int i t)=true:=by simp[Kc,Value.isInt]
theorem Uk (x:Str) (t:Tok):Kc (.inr x) (.str x t)=true:=by simp[Kc,Value.isStrOf]
theorem iH (a b:Int):decide ((Sum.inl a:Key)=Sum.inl b)=(a == b):=by
 by_cases e:a=b
 ·subst e;simp
 ·have h:¬ (Sum.inl a:Key)=Sum.inl b:=λq=>e (Sum.inl.inj q)
  rw[decide_eq_false h]
  exact (beq_eq_false_iff_ne.mpr e).symm
theorem fO (a b:Str):decide ((Sum.inr a:Key)=Sum.inr b)=decide (a=b):=by
 by_cases e:a=b
 ·subst e;simp
 ·have h:¬ (Sum.inr a:Key)=Sum.inr b:=λq=>e (Sum.inr.inj q)
  rw[decide_eq_false h,decide_eq_false e]
theorem fu (a:Int) (b:Str):decide ((Sum.inl a:Key)=Sum.inr b)=false:=decide_eq_false (λq=>nomatch q)
theorem fD (a:Str) (b:Int):decide ((Sum.inr a:Key)=Sum.inl b)=false:=decide_eq_false (λq=>nomatch q)
def Bw (prog:Program) (w:World):PySem.KeyKind prog w Key where
 is:=Kc
 hash:=xu w
 inj:=λv a b ha hb=>by
  rcases Cr ha with⟨i,t,rfl,rfl⟩ | ⟨x,t,rfl,rfl⟩
  ·rcases Cr hb with⟨j,u,rfl,e⟩ | ⟨y,u,rfl,e⟩
   ·injection e with e1 _;rw[e1]
   ·exact nomatch e
  ·rcases Cr hb with⟨j,u,rfl,e⟩ | ⟨y,u,rfl,e⟩
   ·exact nomatch e
   ·injection e with e1 _;rw[e1]
 byValue:=λk v h=>by
  rcases Cr h with⟨i,t,rfl,rfl⟩ | ⟨x,t,rfl,rfl⟩ <;> rfl
 pyHash:=λhv h=>by
  rcases Cr hv with⟨i,t,rfl,rfl⟩ | ⟨x,t,rfl,rfl⟩
  ·exact wpAny_pyHash_int h
  ·exact wpAny_pyHash_str h
 eqBool:=λhu hv h=>by
  rcases Cr hu with⟨i,t,rfl,rfl⟩ | ⟨x,t,rfl,rfl⟩
  ·rcases Cr hv with⟨j,u,rfl,rfl⟩ | ⟨y,u,rfl,rfl⟩
   ·rw[iH] at h;exact wpAny_eqBool_int h
   ·rw[fu] at h;exact SeqAt.EqAt.int_str i t y u _ _ _ _ h
  ·rcases Cr hv with⟨j,u,rfl,rfl⟩ | ⟨y,u,rfl,rfl⟩
   ·rw[fD] at h;exact SeqAt.EqAt.str_int x t j u _ _ _ _ h
   ·rw[fO] at h;exact wpAny_eqBool_str h
 «strs»:=λk x t v h=>by
  rcases Cr h with⟨i,u,rfl,e⟩ | ⟨y,u,rfl,e⟩
  ·exact nomatch e
  ·injection e with e1 _
   subst e1
   cases v <;> rfl
theorem Pq (prog:Program) (w:World) (i:Int) (t:Tok):(Bw prog w).is (.inl i) (.int i t)=true:=Um i t
theorem QG (prog:Program) (w:World) (x:Str) (t:Tok):(Bw prog w).is (.inr x) (.str x t)=true:=Uk x t
inductive V where
 | non | bl (b:Bool) | int (i:Int) | str (x:Str) | byt (b:Array UInt8) | flt (b:UInt64) | ref (a:Addr) | ty (n:String)
 deriving DecidableEq
def RelV:V->Value->Prop
 | .non,u=>u=Value.none
 | .bl b,u=>u=Value.bool b
 | .int i,u=>∃ t,u=Value.int i t
 | .str x,u=>∃ t,u=Value.str x t
 | .byt b,u=>∃ t,u=Value.bytes b t
 | .flt b,u=>∃ t,u=Value.float b t
 | .ref a,u=>u=Value.ref a
 | .ty n,u=>u=Value.type n
abbrev Vals:List V->List Value->Prop:=Paired RelV
theorem Vals.length {xs:List V} {us:List Value} (r:Vals xs us):xs.length=us.length:=Paired.length r
theorem Vals.get:∀ {xs:List V} {us:List Value} {i:Nat} {x:V},Vals xs us->xs[i]? = some x->∃ u,us[i]? = some u/\RelV x u
 | _,_,_,_,.nil,e=>by simp at e
 | _,_,0,_,.cons r _,e=>by simp at e;subst e;exact⟨_,rfl,r⟩
 | _,_,i+1,x,.cons _ t,e=>by
  obtain⟨u,b,a⟩:=Vals.get (i:=i) (x:=x) t (by simpa using e)
  exact⟨u,by simpa using b,a⟩
theorem Vals.set {x:V} (r:RelV x u):∀ {xs:List V} {us:List Value} (i:Nat),Vals xs us->Vals (xs.set i x) (us.set i u)
 | _,_,_,.nil=>.nil
 | _,_,0,.cons _ t=>.cons r t
 | _,_,i+1,.cons q t=>.cons q (Vals.set r i t)
theorem Vals.append:∀ {xs ys:List V} {us ws:List Value},Vals xs us->Vals ys ws->Vals (xs++ys) (us++ws)
 | _,_,_,_,.nil,s=>s
 | _,_,_,_,.cons r t,s=>.cons r (Vals.append t s)
theorem Vals.take:∀ {xs:List V} {us:List Value} (n:Nat),Vals xs us->Vals (xs.take n) (us.take n)
 | _,_,0,_=>.nil
 | _,_,_+1,.nil=>.nil
 | _,_,n+1,.cons r t=>.cons r (Vals.take n t)
theorem Vals.drop:∀ {xs:List V} {us:List Value} (n:Nat),Vals xs us->Vals (xs.drop n) (us.drop n)
 | _,_,0,r=>r
 | _,_,_+1,.nil=>.nil
 | _,_,n+1,.cons _ t=>Vals.drop n t
def Gx:Option V->Option Value->Prop
 | some v,some u=>RelV v u
 | none,none=>True
 | _,_=>False
def KV {κ:Type}:List (κ × V)->List (κ × Value)->Prop:=Paired λ(p:κ × V) (q:κ × Value)=>p.1=q.1/\RelV p.2 q.2
def kV:Key->V
 | .inl i=>.int i
 | .inr x=>.str x
inductive HO where
 | lst (xs:List V)
 | tup (xs:List V)
 | dK (kvs:List (Key × V)) | dT (kvs:List (List Key × V))
 | set (S:Int->Bool) (n:Nat)
 | ins (C dx:Addr) (fs:List (Str × V))
 | own (x:Addr)
 | xd (fs:List (Str × V))
 | met (f x:Addr)
 | rng (lo hi:Int)
 | frz (o:Obj) (u:HO)
 | tbl (ps:Array Value)
 | ext (φ:Heap->Prop)
variable {kvs:List (Key × V)} {xs vs us:List V} {o:HO} {y:V}
abbrev Hp:=Addr->Option HO
def upd (H:Hp) (a:Addr) (o:HO):Hp:=λb=>if b=a then some o else H b
theorem Al {H:Hp}:upd H a o a=some o:=by unfold upd;rw[if_pos rfl]
theorem Aw {H:Hp} (h:b ≠ a):upd H a o b=H b:=by unfold upd;rw[if_neg h]
theorem aH {H:Hp} {u:HO} (h:H a=some o) (h':H b=some u) (d:o ≠ u):a ≠ b:=by
 intro e;subst e;rw[h] at h';exact d (Option.some.inj h')
theorem Aj {H:Hp} (h:H a=some o) (h':H b=none):a ≠ b:=by
 intro e;subst e;rw[h] at h';cases h'
section
variable (P:Program) (w:World)
def CT (H:Hp) (h:Heap) (a:Addr):HO->Prop
 | .lst xs=>xs.length<=sizeLine/\∃ (its:List Value) (n:Nat),Vals xs its/\h.get? a=some { cls:=.type "list",data:=.seq its.toArray n }
 | .tup xs=>xs.length<=sizeLine/\∃ its:List Value,Vals xs its/\IsTup h a its.toArray
 | .dK kvs=>kvs.length<=sizeLine/\(a == sysModules)=false/\∃ vs,KV kvs vs/\h.DictOf (Bw P w) a vs
 | .dT kvs=>kvs.length<=sizeLine/\(a == sysModules)=false/\∃ xs:List (List Key × Addr × Value),
   Paired (λ(p:List Key × V) (q:List Key × Addr × Value)=>p.1=q.1/\H q.2.1=some (.tup (p.1.map kV))/\RelV p.2 q.2.2) kvs xs /\
   ∃ o es ep,h.get? a=some o/\o.ExactDict/\o.data=.dict es ep/\es.toList=xs.map (entryOfKey (tupleKind (Bw P w)))/\(xs.map (·.1)).Nodup
 | .set S n=>h.SetOf (intKind P w) a S n
 | .ins C dx fs=>H dx=some (.own a)/\fs.length<=1000/\dx ≠ a/\h.get? a=some (W.instObj C dx) /\
   ∃ mA,h.Ns1 dx mA/\(∀ f,Gx (fs.lookup f) (mA f))/\PySem.Within mA (fs.map (·.1))
 | .own _=>∃ o,h.get? a=some o
 | .xd fs=>∃ mA,h.Ns1 a mA/\∀ f,Gx (fs.lookup f) (mA f)
 | .rng lo hi=>∃ t u v,h.get? a=some { cls:=.type "range",data:=.fields #[.int lo t,.int hi u,.int 1 v] }
 | .frz o u=>h.get? a=some o/\CT H h a u
 | .tbl ps=>h.get? a=some { cls:=.none,data:=.fields ps }
 | .met f x=>h.get? a=some (W.methodObj (.ref f) (.ref x))
 | .ext φ=>φ h/\(∃ o,h.get? a=some o)/\∀ h1 h2:Heap,φ h1->(∀ o,h1.get? a=some o->h2.get? a=some o)->φ h2
def GD (H:Hp) (h:Heap):Prop:=∀ a o,H a=some o->CT P w H h a o
end
section
variable {w:World} {H H':Hp}
theorem CT.lt (x:CT P w H h a o):a<h.objs.size:=by
 cases o with
 | lst c=>obtain⟨_,_,_,_,e⟩:=x;exact Heap.lt_size e
 | tup c=>obtain⟨_,_,_,p⟩:=x;exact p.lt
 | dK b=>obtain⟨_,_,_,_,o,_,_,e,_⟩:=x;exact Heap.lt_size e
 | dT b=>obtain⟨_,_,_,_,o,_,_,e,_⟩:=x;exact Heap.lt_size e
 | set S n=>obtain⟨o,_,_,_,e,_⟩:=x;exact Heap.lt_size e
 | ins C d fs=>obtain⟨_,_,_,e,_⟩:=x;exact Heap.lt_size e
 | own y=>obtain⟨_,e⟩:=x;exact Heap.lt_size e
 | xd fs=>obtain⟨_,⟨_,_,_,e,_⟩,_⟩:=x;exact Heap.lt_size e
 | rng lo i=>obtain⟨_,_,_,e⟩:=x;exact Heap.lt_size e
 | frz g u=>obtain⟨e,_⟩:=x;exact Heap.lt_size e
 | tbl j=>exact Heap.lt_size (show h.get? a=some _ from x)
 | met f y=>exact Heap.lt_size (show h.get? a=some _ from x)
 | ext φ=>obtain⟨_,⟨_,e⟩,_⟩:=x;exact Heap.lt_size e
theorem Paired.J3 {α β:Type} {F G:α->β->Prop}:∀ {l₁:List α} {l₂:List β},Paired F l₁ l₂->(∀ a b,F a b->G a b)->Paired G l₁ l₂
 | _,_,.nil,_=>.nil
 | _,_,.cons r t,f=>.cons (f _ _ r) (Paired.J3 t f)
theorem CT.stay (x:CT P w H h a o) (k:∀ b u,(b=a \/ H b=some (.own a))->h.get? b=some u->h'.get? b=some u)
  (I:∀ b,H b=some (.own a)->H' b=some (.own a)) (D:∀ b xs,H b=some (.tup xs)->H' b=some (.tup xs)):CT P w H' h' a o:=by
 induction o with
 | lst xs=>obtain⟨z,l,n,r,e⟩:=x;exact⟨z,l,n,r,k _ _ (.inl rfl) e⟩
 | tup xs=>obtain⟨z,l,r,g,e,c⟩:=x;exact⟨z,l,r,g,k _ _ (.inl rfl) e,c⟩
 | dK s=>obtain⟨z,y,F,r,g,i,j,e,c⟩:=x;exact⟨z,y,F,r,g,i,j,k _ _ (.inl rfl) e,c⟩
 | dT s =>
  obtain⟨z,y,xs,r,g,i,j,e,c⟩:=x
  exact⟨z,y,xs,Paired.J3 r λp q z=>⟨z.1,D _ _ z.2.1,z.2.2⟩,g,i,j,k _ _ (.inl rfl) e,c⟩
 | set S n=>obtain⟨g,i,j,t,e,c⟩:=x;exact⟨g,i,j,t,k _ _ (.inl rfl) e,c⟩
 | ins C J fs =>
  obtain⟨d,z,ne,e,m,⟨A,i,j,G,c⟩,r⟩:=x
  exact⟨I _ d,z,ne,k _ _ (.inl rfl) e,m,⟨A,i,j,k _ _ (.inr d) G,c⟩,r⟩
 | own y=>obtain⟨g,e⟩:=x;exact⟨g,k _ _ (.inl rfl) e⟩
 | xd fs=>obtain⟨m,⟨A,i,j,e,c⟩,r⟩:=x;exact⟨m,⟨A,i,j,k _ _ (.inl rfl) e,c⟩,r⟩
 | rng lo K=>obtain⟨t,u,v,e⟩:=x;exact⟨t,u,v,k _ _ (.inl rfl) e⟩
 | frz g u E=>obtain⟨e,q⟩:=x;exact⟨k _ _ (.inl rfl) e,E q⟩
 | tbl B =>
  have e:h.get? a=some { cls:=.none,data:=.fields B }:=x
  show h'.get? a=some { cls:=.none,data:=.fields B }
  exact k a _ (.inl rfl) e
 | met f y =>
  have e:h.get? a=some (W.methodObj (.ref f) (.ref y)):=x
  show h'.get? a=some (W.methodObj (.ref f) (.ref y))
  exact k a _ (.inl rfl) e
 | ext φ=>obtain⟨p,⟨o,e⟩,st⟩:=x;exact⟨st _ _ p λo q=>k _ _ (.inl rfl) q,⟨o,k _ _ (.inl rfl) e⟩,st⟩
theorem GD.lt (x:GD P w H h) (e:H a=some o):a<h.objs.size:=(x a o e).lt
theorem GD.fresh (x:GD P w H h) (e:h.objs.size<=a):H a=none:=by
 cases q:H a with
 | none=>rfl
 | some u=>exact absurd (bi (x.lt q) e) (fR _)
theorem GD.kept (x:GD P w H h) (k:∀ b u,h.get? b=some u->h'.get? b=some u):GD P w H h':=λa o e =>
 (x a o e).stay (λb u _ q=>k b u q) (λ_ q=>q) λ_ _ q=>q
theorem GD.laid (x:GD P w H h) (k:∀ b u,h.get? b=some u->h'.get? b=some u) (g:h.objs.size<=a) (new:CT P w (upd H a o) h' a o):GD P w (upd H a o) h':=λb u e=>by
 have f:=x.fresh g
 by_cases d:b=a
 ·subst d;rw[Al] at e;cases e;exact new
 ·rw[Aw d] at e
  exact (x b u e).stay (λc v _ q=>k c v q) (λc q=>by rw[Aw (Aj q f)];exact q) λc i q=>by rw[Aw (Aj q f)];exact q
end
def Rd (H:Hp) (a:Addr) (u:HO):Prop:=H a=some u \/ ∃ o,H a=some (.frz o u)
theorem Rd.ok {w:World} {H:Hp} {u:HO} (r:Rd H a u) (x:GD P w H h):CT P w H h a u:=by
 rcases r with r | ⟨o,r⟩
 ·exact x a u r
 ·obtain⟨_,q⟩:=x a _ r
  exact q
def qN:Option HO->Prop
 | some (.lst _)=>True
 | some (.dK _)=>True
 | some (.dT _)=>True
 | some (.set _ _)=>True
 | some (.ins _ _ _)=>True
 | some (.ext _)=>True
 | _=>False
section
variable {w:World} {H:Hp} {x e:Addr} {o':HO}
theorem GD.write (ok:GD P w H h) (i:qN (H x)) (m:e=x \/ H e=some (.own x)) (k:∀ b u,b ≠ e->h.get? b=some u->h'.get? b=some u) (p:∃ u,h'.get? e=some u)
  (new:CT P w (upd H x o') h' x o'):GD P w (upd H x o') h':=λb u q=>by
 have d:∀ c y,H c=some (.own y)->c ≠ x:=λc y r z=>by subst z;rw[r] at i;exact i
 have f:∀ c l,H c=some (.tup l)->c ≠ x:=λc l r z=>by subst z;rw[r] at i;exact i
 by_cases g:b=x
 ·subst g;rw[Al] at q;cases q;exact new
 ·rw[Aw g] at q
  by_cases a:b=e
  ·have n:H b=some (.own x):=by
    rcases m with z | z
    ·exact absurd (a.trans z) g
    ·rw[a];exact z
   rw[q] at n;cases n
   obtain⟨v,o⟩:=p
   exact⟨v,by rw[a];exact o⟩
  ·refine (ok b u q).stay (λc v j r=>k c v ?_ r) (λc r=>by rw[Aw (d c b r)];exact r) λc l r=>by rw[Aw (f c l r)];exact r
   rcases j with rfl | j
   ·exact a
   ·rintro rfl
    rcases m with z | z
    ·exact d c b j z
    ·rw[j] at z;cases z;exact g rfl
end
structure Un (fs ex:List Addr) (H H':Hp) (h h':Heap):Prop where
 keep:∀ b o,h.get? b=some o->H b=none->b ∉ fs->b ∉ ex->h'.get? b=some o
 slot:∀ b o,h.get? b=some o->H b=none->b∈fs->b ∉ ex->∃ sl,h'.get? b=some { o with slots:=sl }
 free:∀ b o,h.get? b=some o->H b=none->b ∉ ex->H' b=none
 there:∀ b o,h.get? b=some o->b ∉ ex->∃ o',h'.get? b=some o'
 tups:∀ b xs,H b=some (.tup xs)->H' b=some (.tup xs)
 frzs:∀ b o u,H b=some (.frz o u)->H' b=some (.frz o u)
 tbls:∀ b ps,H b=some (.tbl ps)->∃ more,H' b=some (.tbl (ps++more))
section
variable {fs pT ex ex':List Addr} {H H1 H2:Hp} {h1 h2:Heap} {x e:Addr}
theorem Un.any (u:Un fs ex H H1 h h1) {a:Obj} (q:h.get? b=some a) (n:H b=none) (c:b ∉ ex):∃ sl,h1.get? b=some { a with slots:=sl }:=by
 by_cases d:b∈fs
 ·exact u.slot b a q n d c
 ·exact⟨a.slots,u.keep b a q n d c⟩
theorem Un.trans (a:Un fs ex H H1 h h1) (b:Un fs ex H1 H2 h1 h2):Un fs ex H H2 h h2 where
 keep:=λc e q n i d=>b.keep c e (a.keep c e q n i d) (a.free c e q n d) i d
 slot:=λc e q n i d=>by
  obtain⟨r,f⟩:=a.slot c e q n i d
  obtain⟨l,j⟩:=b.slot c _ f (a.free c e q n d) i d
  exact⟨l,j⟩
 free:=λc e q n d=>by
  obtain⟨k,f⟩:=a.there c e q d
  exact b.free c k f (a.free c e q n d) d
 there:=λc e q d=>by
  obtain⟨k,f⟩:=a.there c e q d
  exact b.there c k f d
 tups:=λc g q=>b.tups c g (a.tups c g q)
 frzs:=λc e g q=>b.frzs c e g (a.frzs c e g q)
 tbls:=λc o q=>by
  obtain⟨m,f⟩:=a.tbls c o q
  obtain⟨p,j⟩:=b.tbls c _ f
  exact⟨m++p,by rw[j,Array.append_assoc]⟩
theorem Un.kept (k:∀ b u,h.get? b=some u->h'.get? b=some u):Un fs ex H H h h' :=
 ⟨λb a q _ _ _=>k b a q,λb a q _ _ _=>⟨a.slots,k b a q⟩,λ_ _ _ n _=>n,λb a q _=>⟨a,k b a q⟩,λ_ _ q=>q,λ_ _ _ q=>q,λ_ c q=>⟨#[],by rw[q];simp⟩⟩
theorem Un.refl:Un fs ex H H h h:=Un.kept λ_ _ q=>q
theorem Un.laid (k:∀ b u,h.get? b=some u->h'.get? b=some u) (e:h.objs.size<=a) (c:H a=none):Un fs ex H (upd H a o) h h' where
 keep:=λb u q _ _ _=>k b u q
 slot:=λb u q _ _ _=>⟨u.slots,k b u q⟩
 free:=λb u q n _=>by rw[Aw (cf (bi (Heap.lt_size q) e))];exact n
 there:=λb u q _=>⟨u,k b u q⟩
 tups:=λb d q=>by rw[Aw (Aj q c)];exact q
 frzs:=λb u d q=>by rw[Aw (Aj q c)];exact q
 tbls:=λb f q=>⟨#[],by rw[Aw (Aj q c),q];simp⟩
theorem Un.write (c:qN (H x)) (l:e=x \/ H e=some (.own x)) (k:∀ b u,b ≠ e->h.get? b=some u->h'.get? b=some u) (i:∃ u,h'.get? e=some u):Un fs ex H (upd H x o) h h':=by
 have f:∀ b,H b=none->b ≠ x:=λb n z=>by subst z;rw[n] at c;exact c
 have g:∀ b,H b=none->b ≠ e:=λb n z=>by
  subst z
  rcases l with r | r
  ·exact f b n r
  ·rw[n] at r;cases r
 have d:∀ b u,H b=some u->¬ qN (some u)->b ≠ x:=λb u q m z=>by subst z;rw[q] at c;exact m c
 refine⟨λb u q n _ _=>k b u (g b n) q,λb u q n _ _=>⟨u.slots,k b u (g b n) q⟩,λb u q n _=>by rw[Aw (f b n)];exact n,λb u q _=>?_,
  λb j q=>by rw[Aw (d b _ q λz=>z)];exact q,λb u j q=>by rw[Aw (d b _ q λz=>z)];exact q,λb p q=>⟨#[],by rw[Aw (d b _ q λz=>z),q];simp⟩⟩
 by_cases a:b=e
 ·subst a;exact i
 ·exact⟨u,k b u a q⟩
end
def sI (h:Heap) (H:Hp):List Addr:=(List.range h.objs.size).filter λa=>(H a).isSome
def Nf (h:Heap) (H:Hp):Heap:=W.hideAll h (sI h H)
theorem Uz (h:Heap) (H:Hp):(Nf h H).objs.size=h.objs.size:=W.hideAll_size _ _
variable {H H' H1 Ho H2:Hp}
theorem Vy {o:Obj} (e:h.get? b=some o) (n:H b=none):(Nf h H).get? b=some o :=
 W.hideAll_get _ e λa=>by
  have q:(H b).isSome=true:=(bg.mp a).2
  rw[n] at q;simp at q
theorem Zi {o:Obj} (e:(Nf h H).get? b=some o):h.get? b=some o/\H b=none:=by
 have a:h.get? b=some o:=W.of_hideAll (sI h H) e
 refine⟨a,?_⟩
 cases q:H b with
 | none=>rfl
 | some x =>
  have c:b∈sI h H:=List.mem_filter.mpr ⟨List.mem_range.mpr (Heap.lt_size a),by simp[q]⟩
  have z:(Nf h H).get? b=none:=W.hideAll_none (sI h H) c
  rw[z] at e;cases e
def ZV (g h:Heap) (L:Addr):List (Addr × Obj):=(List.range h.objs.size).filterMap λa=>if a=L \/ (g.get? a).isSome=true then none else (h.get? a).map λo=>(a,o)
def rest (g h:Heap) (L d:Addr):List (Addr × Obj):=(ZV g h L).filter λp=>decide (p.1 ≠ d)
structure Mod (K:W.Frag) (mg:Str->Option Value) (base:Heap):Prop where
 kin:K.In base
 glob:base.Ns mainGlobals mg
 blt:∃ mb,base.Ns builtinsNs mb/\∀ x:Str,x ≠ "__name__"->mb x=bootBuiltins x
 nolimit:base.NoLimit
structure Cx where
 prog:Program
 w:World
 K:W.Frag
 mg:Str->Option Value
 base:Heap
 A:Around
 N:List Str
 s₀:Shared
 H₀:Hp
 env:Env
 outer:List Env
 stack:List Env
 ex:List Addr
 fn:Str->Bool
 calm:Bool
 pn:List (Addr × Obj)
 xe:Value->Shared->Prop
def frs (l:List Env):List Addr:=l.filterMap (·.frame)
abbrev Cx.fs (X:Cx):List Addr:=frs X.outer
def vg (sc:Scope) (x:Str):Prop:=sc.names.lookup x=some .local \/ sc.names.lookup x=some .cell \/ sc.names.lookup x=some .free
def Loc (sc:Scope) (x:Str):Prop:=sc.names.lookup x=some .local \/ sc.names.lookup x=some .cell
def Look (env:Env) (h:Heap) (m:Str->Option Value) (x:Str) (u:Value):Prop :=
 (env.kindOf x=some .local/\m x=some u) \/ ((env.kindOf x=some .cell \/ env.kindOf x=some .free)/\∃ c,env.cells.lookup x=some c/\h.IsCell c (some u))
structure Cx.Ok (X:Cx):Prop where
 mod:Mod X.K X.mg X.base
 kind:X.env.scope.kind=.function
 glob:X.env.globals=mainGlobals
 blt:X.env.builtins=builtinsNs
 above:X.s₀.heap.objs.size<=X.env.locals
 inj:∀ x y c,X.env.cells.lookup x=some c->X.env.cells.lookup y=some c->x=y
 has:∀ x,(X.env.kindOf x=some .cell \/ X.env.kindOf x=some .free)->∃ c,X.env.cells.lookup x=some c
 cab:∀ x c,X.fn x=true->X.env.cells.lookup x=some c->X.s₀.heap.objs.size<=c
 hd:X.calm=true->X.A.handled=none
 frames:X.A.frames=some X.stack
 stk:X.stack=X.outer \/ (X.stack=X.env::X.outer/\X.env.frame=some X.env.locals)
 exf:∀ b∈X.ex,b ≠ X.env.locals/\∀ x c,X.env.cells.lookup x=some c->c ≠ b
 bs:∀ b o,X.base.get? b=some o->X.s₀.heap.get? b=some o/\X.H₀ b=none
 bsz:X.base.objs.size<=X.s₀.heap.objs.size
 noex:∀ b o,X.base.get? b=some o->b ∉ X.ex
 exfs:∀ b∈X.ex,b ∉ X.fs
 Jv:X.s₀.heap.FunFrames X.base X.outer
 frf:∀ b∈X.fs,X.H₀ b=none
structure Inv (X:Cx) (a8:List (Addr × Obj)) (σ:List (Option V)) (H:Hp) (s:Shared):Prop where
 ok:X.Ok
 os:s.os=X.s₀.os
 bare:AllBare s.gens
 base:Un X.fs X.ex X.H₀ H X.s₀.heap s.heap
 loc:∃ m,s.heap.Ns X.env.locals m/\∀ (i:Nat) (x:Str) (v:V),X.N[i]? = some x->σ[i]? = some (some v)->vg X.env.scope x->∃ u,RelV v u/\Look X.env s.heap m x u
 cell:∀ x c,X.env.cells.lookup x=some c->∃ v,s.heap.IsCell c v
 free:H X.env.locals=none
 freeC:∀ x c,X.env.cells.lookup x=some c->H c=none
 pin:∀ p∈X.pn++a8,s.heap.get? p.1=some p.2/\H p.1=none/\p.1 ≠ X.env.locals/\p.1 ∉ X.fs/\∀ v,p.2.data ≠ .cell v
 hok:GD X.prog X.w H s.heap
 len:σ.length=X.N.length
section
variable {X:Cx} {σ:List (Option V)}
theorem Cx.Ok.ww (ok:X.Ok) {o:Obj} (e:X.base.get? b=some o):b ∉ X.fs:=λa=>by
 have:=(ok.Jv.mem a).1
 rw[e] at this;cases this
theorem Inv.bs (I:Inv X a8 σ H s):∀ b o,X.base.get? b=some o->s.heap.get? b=some o/\H b=none:=λb o e =>
 ⟨I.base.keep b o (I.ok.bs b o e).1 (I.ok.bs b o e).2 (I.ok.ww e) (I.ok.noex b o e),I.base.free b o (I.ok.bs b o e).1 (I.ok.bs b o e).2 (I.ok.noex b o e)⟩
theorem Inv.bk (I:Inv X a8 σ H s):∀ b o,X.base.get? b=some o->s.heap.get? b=some o:=λb o e=>(I.bs b o e).1
theorem Inv.mod (I:Inv X a8 σ H s):Mod X.K X.mg X.base:=I.ok.mod
theorem Inv.Gy (I:Inv X a8 σ H s):X.K.In s.heap:=I.ok.mod.kin.keeps I.bk
theorem Inv.lt (I:Inv X a8 σ H s):X.env.locals<s.heap.objs.size:=let ⟨_,a,_⟩:=I.loc;a.lt
theorem Inv.sz (I:Inv X a8 σ H s):X.s₀.heap.objs.size<=s.heap.objs.size:=be I.ok.above (fT I.lt)
theorem Inv.vd (I:Inv X a8 σ H s) (h:s.heap.objs.size<=a):a ∉ X.fs:=λc=>by
 obtain⟨_,o,b,_⟩:=I.ok.Jv.mem c
 exact absurd (bi (Heap.lt_size b) (be I.sz h)) (fR _)
theorem Inv.iI (I:Inv X a8 σ H s):∀ x c,X.env.cells.lookup x=some c->c ≠ X.env.locals:=λx c e z=>by
 obtain⟨v,o,a,b⟩:=I.cell x c e
 obtain⟨m,⟨i,g,h,d,f,_⟩,_⟩:=I.loc
 rw[z,d] at a;cases a;rw[f] at b;cases b
theorem Inv.Jv (I:Inv X a8 σ H s):s.heap.FunFrames X.base X.outer:=by
 have all:∀ (l:List Env),(∀ b∈frs l,b∈X.fs)->X.s₀.heap.FunFrames X.base l->s.heap.FunFrames X.base l:=by
  intro l
  induction l with
  | nil=>intro _ _;trivial
  | cons i r g =>
   intro f n
   obtain⟨m,⟨L,o,d,p,h,j⟩,k⟩:=n
   have c:L∈X.fs:=f L (by unfold frs;rw[List.filterMap_cons,d];exact List.mem_cons_self)
   obtain⟨q,e⟩:=I.base.slot L o h (I.ok.frf L c) c λz=>I.ok.exfs L z c
   exact⟨m,⟨L,_,d,p,e,j⟩,g (λb a=>f b (by unfold frs;rw[List.filterMap_cons,d];exact List.mem_cons_of_mem _ a)) k⟩
 exact all X.outer (λ_ a=>a) I.ok.Jv
theorem Inv.stack (I:Inv X a8 σ H s):s.heap.FunFrames X.base X.stack:=by
 rcases I.ok.stk with e | ⟨e,a⟩
 ·rw[e];exact I.Jv
 ·rw[e]
  obtain⟨m,b,_⟩:=I.loc
  refine .cons (by rw[I.ok.kind];decide) a b ?_ I.Jv
  exact Heap.get?_none_of_le (be I.ok.bsz I.ok.above)
theorem Inv.Nb (I:Inv X a8 σ H s):∀ b∈frs X.stack,b∈X.env.locals::X.fs:=λb a=>by
 rcases I.ok.stk with e | ⟨e,c⟩
 ·rw[e] at a;exact bq _ a
 ·rw[e] at a
  unfold frs at a
  rw[List.filterMap_cons,c] at a
  exact a
theorem Inv.Ie (I:Inv X a8 σ H s):∀ b∈frs X.stack,H b=none:=λb a=>by
 rcases ci.mp (I.Nb b a) with e | a
 ·rw[e];exact I.free
 ·obtain⟨_,o,c,_⟩:=I.ok.Jv.mem a
  exact I.base.free b o c (I.ok.frf b a) λz=>I.ok.exfs b z a
theorem Inv.step {g':Array GenState} {t':Nat} {d':Drawn} {ch:List Addr} (I:Inv X a8 σ H s)
  (G:∀ b∈ch,(b∈X.ex \/ X.s₀.heap.objs.size<=b)/\b ≠ X.env.locals/\(∀ x c,X.env.cells.lookup x=some c->c ≠ b)/\∀ p∈X.pn++a8,p.1 ≠ b)
  (keep:∀ b o,b ≠ X.env.locals->b ∉ X.fs->b ∉ ch->s.heap.get? b=some o->H b=none->h'.get? b=some o)
  (t:∀ b o,b ≠ X.env.locals->b∈X.fs->b ∉ ch->s.heap.get? b=some o->H b=none->∃ sl,h'.get? b=some { o with slots:=sl }) (free:∀ b o,b ∉ ch->s.heap.get? b=some o->H b=none->H' b=none)
  (y:∀ b o,b ∉ ch->s.heap.get? b=some o->∃ o',h'.get? b=some o')
  (B:∀ b xs,H b=some (.tup xs)->H' b=some (.tup xs)) (D:∀ b o u,H b=some (.frz o u)->H' b=some (.frz o u)) (E:∀ b ps,H b=some (.tbl ps)->∃ more,H' b=some (.tbl (ps++more)))
  (ns:∀ m,s.heap.Ns X.env.locals m->h'.Ns X.env.locals m) (J:GD X.prog X.w H' h') (U:AllBare g') :
  Inv X a8 σ H' { s with heap:=h',gens:=g',drawn:=d',toks:=t' }:=by
 have F:∀ b o,X.s₀.heap.get? b=some o->b ≠ X.env.locals:=λb o e=>cf (bi (Heap.lt_size e) I.ok.above)
 have h:∀ b o,X.s₀.heap.get? b=some o->b ∉ X.ex->b ∉ ch:=λb o e a w=>by
  rcases (G b w).1 with z | z
  ·exact a z
  ·exact absurd (bi (Heap.lt_size e) z) (fR _)
 have f:∀ x c,X.env.cells.lookup x=some c->∀ v,s.heap.IsCell c v->h'.IsCell c v:=λx c e v ⟨o,A,K⟩=>by
  have g:c ∉ ch:=λz=>(G c z).2.2.1 x c e rfl
  by_cases L:c∈X.fs
  ·obtain⟨sl,q⟩:=t c o (I.iI x c e) L g A (I.freeC x c e)
   exact⟨_,q,K⟩
  ·exact⟨o,keep c o (I.iI x c e) L g A (I.freeC x c e),K⟩
 refine⟨I.ok,I.os,U,⟨λb o e n w a=>?_,λb o e n w a=>?_,λb o e n a=>?_,λb o e a=>?_,λb xs e=>B b xs (I.base.tups b xs e),λb o xs e=>D b o xs (I.base.frzs b o xs e),λb ps e=>?_⟩,?_,λx c e=>?_,?_,λx c e=>?_,λp M=>?_,J,I.len⟩
 ·exact keep b o (F b o e) w (h b o e a) (I.base.keep b o e n w a) (I.base.free b o e n a)
 ·obtain⟨sl,j⟩:=I.base.slot b o e n w a
  obtain⟨O,C⟩:=t b _ (F b o e) w (h b o e a) j (I.base.free b o e n a)
  exact⟨O,C⟩
 ·obtain⟨o',j⟩:=I.base.there b o e a
  exact free b o' (h b o e a) j (I.base.free b o e n a)
 ·obtain⟨o',j⟩:=I.base.there b o e a
  exact y b o' (h b o e a) j
 ·obtain⟨P,j⟩:=I.base.tbls b ps e
  obtain⟨T,C⟩:=E b _ j
  exact⟨P++T,by rw[C,Array.append_assoc]⟩
 ·obtain⟨m,R,Q⟩:=I.loc
  refine⟨m,ns m R,λi x v j C S=>?_⟩
  obtain⟨u,r,l⟩:=Q i x v j C S
  refine⟨u,r,?_⟩
  rcases l with l | ⟨k,c,e,z⟩
  ·exact .inl l
  ·exact .inr ⟨k,c,e,f x c e _ z⟩
 ·obtain⟨v,z⟩:=I.cell x c e
  exact⟨v,f x c e v z⟩
 ·obtain⟨m,⟨o,_,_,A,_⟩,_⟩:=I.loc
  exact free _ o (λz=>(G _ z).2.1 rfl) A I.free
 ·obtain⟨v,o,A,K⟩:=I.cell x c e
  exact free c o (λz=>(G c z).2.2.1 x c e rfl) A (I.freeC x c e)
 ·obtain⟨e,n,ne,N,d⟩:=I.pin p M
  have g:p.1 ∉ ch:=λz=>(G p.1 z).2.2.2 p M rfl
  exact⟨keep p.1 p.2 ne N g e n,free p.1 p.2 g e n,ne,N,d⟩
theorem Inv.un {t':Nat} (I:Inv X a8 σ H s) (u:Un X.fs [] H H' s.heap h') (c:GD X.prog X.w H' h'):Inv X a8 σ H' { s with heap:=h',toks:=t' }:=by
 obtain⟨m,⟨o,l,q,f,r⟩,_⟩:=id I.loc
 obtain⟨t,h⟩:=u.any f I.free (by simp)
 exact I.step (g':=s.gens) (d':=s.drawn) (ch:=[]) (λ_ z=>nomatch z) (λb o _ a _ e n=>u.keep b o e n a (by simp)) (λb o _ a _ e n=>u.slot b o e n a (by simp)) (λb o _ e n=>u.free b o e n (by simp)) (λb o _ e=>u.there b o e (by simp)) u.tups u.frzs u.tbls (λp j=>by
  obtain⟨v,d,k,g,i⟩:=j
  rw[f] at g;cases g
  exact⟨_,d,k,h,i⟩) c I.bare
theorem Inv.call {g':Array GenState} {t':Nat} {d':Drawn} {ch:List Addr} (I:Inv X a8 σ H s) (u:Un (frs X.stack) ch H H' s.heap h') (d:GD X.prog X.w H' h') (l:AllBare g')
  (j:∀ b∈ch,(b∈X.ex \/ X.s₀.heap.objs.size<=b)/\b ≠ X.env.locals/\(∀ x c,X.env.cells.lookup x=some c->c ≠ b)/\∀ p∈X.pn++a8,p.1 ≠ b) :
  Inv X a8 σ H' { s with heap:=h',gens:=g',drawn:=d',toks:=t' }:=by
 obtain⟨m,⟨o,w,A,h,r⟩,_⟩:=id I.loc
 obtain⟨B,f⟩:=u.any h I.free λz=>(j _ z).2.1 rfl
 exact I.step (ch:=ch) j (λb o f k a e n=>u.keep b o e n (λz=>(ci.mp (I.Nb b z)).elim f k) a) (λb o _ _ a e n=>u.any e n a) (λb o a e n=>u.free b o e n a) (λb o a e=>u.there b o e a) u.tups u.frzs u.tbls (λy t=>by
  obtain⟨C,g,v,i,q⟩:=t
  rw[h] at i;cases i
  exact⟨_,g,v,f,q⟩) d l
theorem Inv.turned {t':Nat} (I:Inv X a8 σ H s) (k:∀ b o,b ≠ it->s.heap.get? b=some o->h'.get? b=some o) (A:H it=none) (f:it ≠ X.env.locals)
  (l:it∈X.ex \/ X.s₀.heap.objs.size<=it) (i:∀ x c,X.env.cells.lookup x=some c->c ≠ it) (w:∀ p∈X.pn++a8,p.1 ≠ it):Inv X a8 σ H { s with heap:=h',toks:=t' }:=by
 have d:∀ b u,H b=some u->b ≠ it:=λb u e z=>by rw[z,A] at e;cases e
 refine I.step (g':=s.gens) (d':=s.drawn) (ch:=[it]) (λb j=>?_) (λb o _ _ a e _=>k b o (λz=>a (by simp[z])) e) (λb o _ _ a e _=>⟨o.slots,k b o (λz=>a (by simp[z])) e⟩) (λ_ _ _ _ n=>n)
  (λb o a e=>⟨o,k b o (λz=>a (by simp[z])) e⟩) (λ_ _ e=>e) (λ_ _ _ e=>e) (λb B e=>⟨#[],by rw[e];simp⟩) (λm y=>?_) (λb u e=>?_) I.bare
 ·have e:b=it:=by simpa using j
  subst e
  exact⟨l,f,i,w⟩
 ·obtain⟨o,g,h,t,r⟩:=y
  exact⟨o,g,h,k _ o (Ne.symm f) t,r⟩
 ·refine (I.hok b u e).stay (λc v a q=>k c v ?_ q) (λ_ q=>q) λ_ _ q=>q
  rcases a with z | z
  ·rw[z];exact d b u e
  ·exact d c _ z
theorem Inv.tok (I:Inv X a8 σ H s) (t:Nat):Inv X a8 σ H { s with toks:=t }:=I.un (h':=s.heap) (t':=t) Un.refl I.hok
theorem Inv.kept {t':Nat} (I:Inv X a8 σ H s) (k:∀ b u,s.heap.get? b=some u->h'.get? b=some u):Inv X a8 σ H { s with heap:=h',toks:=t' }:=I.un (Un.kept k) (I.hok.kept k)
theorem Inv.laid {t':Nat} (I:Inv X a8 σ H s) (k:∀ b u,s.heap.get? b=some u->h'.get? b=some u) (c:s.heap.objs.size<=a) (new:CT X.prog X.w (upd H a o) h' a o) :
  Inv X a8 σ (upd H a o) { s with heap:=h',toks:=t' }:=I.un (Un.laid k c (I.hok.fresh c)) (I.hok.laid k c new)
theorem Inv.write {x e:Addr} {t':Nat} (I:Inv X a8 σ H s) (d:qN (H x)) (c:e=x \/ H e=some (.own x)) (k:∀ b u,b ≠ e->s.heap.get? b=some u->h'.get? b=some u) (a:∃ u,h'.get? e=some u)
  (new:CT X.prog X.w (upd H x o) h' x o):Inv X a8 σ (upd H x o) { s with heap:=h',toks:=t' }:=I.un (Un.write d c k a) (I.hok.write d c k a new)
theorem Inv.TJ {a:List (Addr × Obj)} (I:Inv X a8 σ H s) (h:∀ p∈a,s.heap.get? p.1=some p.2/\H p.1=none/\p.1 ≠ X.env.locals/\p.1 ∉ X.fs/\∀ v,p.2.data ≠ .cell v):Inv X a σ H s :=
 ⟨I.ok,I.os,I.bare,I.base,I.loc,I.cell,I.free,I.freeC,λp b=>(bX.mp b).elim (λz=>I.pin p (dn _ z)) (h p),I.hok,I.len⟩
theorem Ow {N:List Str} (d:N.Nodup) (a:N[i]? = some x) (b:N[j]? = some x):i=j:=by
 obtain⟨g,e⟩:=ag.mp a
 obtain⟨f,c⟩:=ag.mp b
 exact (List.getElem_inj d).mp (e.trans c.symm)
theorem Jw {M:Model} {v:V} {Q:Unit->Shared->Prop} (I:Inv X a8 σ H s) (hN:X.N.Nodup) (hi:X.N[i]? = some x) (w:Loc X.env.scope x) (r:RelV v u)
  (h:∀ s',Inv X a8 (σ.set i (some v)) H s'->(∃ a,Heap.SameBut a s.heap s'.heap/\(a=X.env.locals \/ X.env.cells.lookup x=some a))->Q () s') (hf:X.fn x=true \/ X.env.scope.names.lookup x=some .local:=by first | exact .inl rfl | exact .inr rfl | assumption):wpAny M A (storeName X.env x u) Q E s:=by
 obtain⟨m,Z,hl⟩:=id I.loc
 have N:(X.env.scope.kind == .class || (X.env.scope.kind == .module && X.env.locals != X.env.globals))=false:=by rw[I.ok.kind];rfl
 have K:i<σ.length:=by rw[I.len];exact (ag.mp hi).1
 have iI:=I.iI
 have g:∀ {a:Addr} {J:Heap},(∃ o,s.heap.get? a=some o/\H a=none)->Heap.SameBut a s.heap J->GD X.prog X.w H J:=λ{a J} ha f b ob e=>by
  obtain⟨_,_,B⟩:=ha
  refine (I.hok b ob e).stay (λc R t q=>(f.2 c ?_).trans q) (λ_ q=>q) λ_ _ q=>q
  rintro rfl
  rcases t with rfl | t
  ·rw[B] at e;cases e
  ·rw[B] at t;cases t
 rcases w with D | D
 ·refine wpAny_storeName_local D Z (λJ Y f=>?_) N
  obtain⟨oL,_,_,ab,_⟩:=id Z
  refine h _ ⟨I.ok,I.os,I.bare,⟨λb o e n G w=>?_,λb o e n G w=>?_,I.base.free,λb o e w=>?_,I.base.tups,I.base.frzs,I.base.tbls⟩,⟨_,Y,λj y v' l C e3=>?_⟩,λy c e=>?_,I.free,I.freeC,λp U=>?_,g ⟨oL,ab,I.free⟩ f,by simpa using I.len⟩ ⟨_,f,.inl rfl⟩
  ·exact (f.2 b (cf (bi (Heap.lt_size e) I.ok.above))).trans (I.base.keep b o e n G w)
  ·obtain⟨sl,l⟩:=I.base.slot b o e n G w
   exact⟨sl,(f.2 b (cf (bi (Heap.lt_size e) I.ok.above))).trans l⟩
  ·obtain⟨W,l⟩:=I.base.there b o e w
   exact⟨W,(f.2 b (cf (bi (Heap.lt_size e) I.ok.above))).trans l⟩
  ·by_cases F:j=i
   ·subst F
    rw[hi] at l;cases l
    rw[List.getElem?_set_self K] at C
    cases C
    exact⟨u,r,.inl ⟨D,by simp⟩⟩
   ·rw[List.getElem?_set_ne (Ne.symm F)] at C
    obtain⟨u',T,q⟩:=hl j y v' l C e3
    refine⟨u',T,?_⟩
    rcases q with⟨k,e⟩ | ⟨k,c,e,z⟩
    ·refine .inl ⟨k,?_⟩
     have:y ≠ x:=λe=>F (Ow hN l (e ▸ hi))
     simp[this,e]
    ·exact .inr ⟨k,c,e,z.sameBut f (iI y c e)⟩
  ·obtain⟨R,z⟩:=I.cell y c e
   exact⟨R,z.sameBut f (iI y c e)⟩
  ·obtain⟨e,n,ne,nf,d⟩:=I.pin p U
   exact⟨(f.2 p.1 ne).trans e,n,ne,nf,d⟩
 ·have S:X.fn x=true:=by
   rcases hf with z | z
   ·exact z
   ·rw[z] at D;cases D
  obtain⟨c,t⟩:=I.ok.has x (.inl D)
  obtain⟨R,z⟩:=I.cell x c t
  refine wpAny_storeName_cell I.ok.kind D t z (λJ O f=>?_)
  obtain⟨oc,XW,Sr⟩:=id z
  refine h { s with heap:=J } ⟨I.ok,I.os,I.bare,⟨λb o e n G w=>?_,λb o e n G w=>?_,I.base.free,λb o e w=>?_,I.base.tups,I.base.frzs,I.base.tbls⟩,⟨m,Z.sameBut f (Ne.symm (iI x c t)),λj y v' l C e3=>?_⟩,λy P e=>?_,I.free,I.freeC,λp U=>?_,g ⟨oc,XW,I.freeC x c t⟩ f,by simpa using I.len⟩ ⟨c,f,.inr t⟩
  ·exact (f.2 b (cf (bi (Heap.lt_size e) (I.ok.cab x c S t)))).trans (I.base.keep b o e n G w)
  ·obtain⟨sl,l⟩:=I.base.slot b o e n G w
   exact⟨sl,(f.2 b (cf (bi (Heap.lt_size e) (I.ok.cab x c S t)))).trans l⟩
  ·obtain⟨W,l⟩:=I.base.there b o e w
   exact⟨W,(f.2 b (cf (bi (Heap.lt_size e) (I.ok.cab x c S t)))).trans l⟩
  ·by_cases F:j=i
   ·subst F
    rw[hi] at l;cases l
    rw[List.getElem?_set_self K] at C
    cases C
    exact⟨u,r,.inr ⟨.inl D,c,t,O⟩⟩
   ·rw[List.getElem?_set_ne (Ne.symm F)] at C
    obtain⟨u',T,q⟩:=hl j y v' l C e3
    refine⟨u',T,?_⟩
    rcases q with q | ⟨k,P,e,z'⟩
    ·exact .inl q
    ·refine .inr ⟨k,P,e,z'.sameBut f ?_⟩
     rintro rfl
     exact F (Ow hN l (I.ok.inj _ _ _ e t ▸ hi))
  ·by_cases L:P=c
   ·subst L;exact⟨_,O⟩
   ·obtain⟨w2,z2⟩:=I.cell y P e
    exact⟨w2,z2.sameBut f L⟩
  ·obtain⟨e,n,ne,nf,d⟩:=I.pin p U
   refine⟨(f.2 p.1 ?_).trans e,n,ne,nf,d⟩
   intro q
   rw[q,XW] at e
   have q':oc=p.2:=Option.some.inj e
   exact d R (by rw[<-q'];exact Sr)
theorem Jt {M:Model} {v:V} {Q:Unit->Shared->Prop} (I:Inv X a8 σ H s) (d:X.N.Nodup) (hi:X.N[i]? = some x) (b:Loc X.env.scope x) (r:RelV v u)
  (h:∀ s',Inv X a8 (σ.set i (some v)) H s'->Q () s') (c:X.fn x=true \/ X.env.scope.names.lookup x=some .local:=by first | exact .inl rfl | exact .inr rfl | assumption):wpAny M A (storeName X.env x u) Q E s :=
 Jw I d hi b r (λs' a _=>h s' a) c
theorem Inv.call' {s':Shared} {ch:List Addr} (I:Inv X a8 σ H s) (h:s'.os=s.os) (u:Un (frs X.stack) ch H H' s.heap s'.heap) (a:GD X.prog X.w H' s'.heap) (i:AllBare s'.gens)
  (k:∀ b∈ch,(b∈X.ex \/ X.s₀.heap.objs.size<=b)/\b ≠ X.env.locals/\(∀ x c,X.env.cells.lookup x=some c->c ≠ b)/\∀ p∈X.pn++a8,p.1 ≠ b):Inv X a8 σ H' s':=by
 obtain⟨l,d,g,f,j⟩:=s'
 have e:j=s.os:=h
 subst e
 exact I.call (g':=d) (t':=f) (d':=g) u a i k
end
abbrev XK:=Value->Option Addr->Hp->Prop
abbrev St:=List (Option V)
abbrev VK:=V->Hp->Prop
abbrev TE:=St->Hp->VK->Prop
variable {X:Cx} {σ:St} {te ta:TE}
abbrev TT:=St->Hp->(Bool->Hp->Prop)->Prop
abbrev TA:=St->Hp->(List V->Hp->Prop)->Prop
structure Ends where
 nx:St->Hp->Prop
 rt:VK
 bk:St->Hp->Prop:=λ_ _=>False
 ct:St->Hp->Prop:=λ_ _=>False
abbrev TS:=Ends->St->Hp->Prop
inductive EP (X:Cx) (a8:List (Addr × Obj)) (σ:St) (Q:VK) (u:Value) (s':Shared):Prop
 | mk (v H':_):Inv X a8 σ H' s'->RelV v u->Q v H'->EP X a8 σ Q u s'
inductive TP (X:Cx) (a8:List (Addr × Obj)) (σ:St) (Q:Bool->Hp->Prop) (b:Bool) (s':Shared):Prop
 | mk (H':_):Inv X a8 σ H' s'->Q b H'->TP X a8 σ Q b s'
inductive AP (X:Cx) (a8:List (Addr × Obj)) (σ:St) (Q:List V->Hp->Prop) (us:List Value) (s':Shared):Prop
 | mk (vs H':_):Inv X a8 σ H' s'->Vals vs us->Q vs H'->AP X a8 σ Q us s'
def SP (X:Cx) (a8:List (Addr × Obj)) (D:Ends) (f:Flow) (s':Shared):Prop :=
 match f with
 | .next=>∃ σ' H',Inv X a8 σ' H' s'/\D.nx σ' H'
 | .brk=>∃ σ' H',Inv X a8 σ' H' s'/\D.bk σ' H'
 | .cont=>∃ σ' H',Inv X a8 σ' H' s'/\D.ct σ' H'
 | .ret u=>∃ v σ' H',Inv X a8 σ' H' s'/\RelV v u/\D.rt v H'
def PE (X:Cx) (e:Expr) (t:TE):Prop :=
 ∀ (a8:List (Addr × Obj)) (s:Shared) (σ:St) (H:Hp) (Q:VK),Inv X a8 σ H s->t σ H Q->wpAny (model X.prog X.w) X.A (eval e X.env) (EP X a8 σ Q) X.xe s
def PT (X:Cx) (e:Expr) (t:TT):Prop :=
 ∀ (a8:List (Addr × Obj)) (s:Shared) (σ:St) (H:Hp) (Q:Bool->Hp->Prop),Inv X a8 σ H s->t σ H Q->wpAny (model X.prog X.w) X.A (isTrue e X.env (eval e X.env)) (TP X a8 σ Q) X.xe s
def PW (X:Cx) (e:Expr) (t:TT):Prop :=
 ∀ (mw:Sem Value) (a8:List (Addr × Obj)) (s:Shared) (σ:St) (H:Hp) (Q:Bool->Hp->Prop),Inv X a8 σ H s->t σ H Q->wpAny (model X.prog X.w) X.A (isTrue e X.env mw) (TP X a8 σ Q) X.xe s
theorem PW.pt {t:TT} (h:PW X e t):PT X e t:=h _
def PA (X:Cx) (es:List Expr) (t:TA):Prop :=
 ∀ (pos:Pos) (a8:List (Addr × Obj)) (s:Shared) (σ:St) (H:Hp) (Q:List V->Hp->Prop),Inv X a8 σ H s->t σ H Q->wpAny (model X.prog X.w) X.A (spliced (backTo pos (starEach es X.env))) (AP X a8 σ Q) X.xe s
def PS (X:Cx) (st:Stmt) (t:TS):Prop :=
 ∀ (a8:List (Addr × Obj)) (s:Shared) (σ:St) (H:Hp) (D:Ends),Inv X a8 σ H s->t D σ H->wpAny (model X.prog X.w) X.A (exec st X.env) (SP X a8 D) X.xe s
def Nh (X:Cx) (st:List Stmt) (t:TS):Prop :=
 ∀ (a8:List (Addr × Obj)) (s:Shared) (σ:St) (H:Hp) (D:Ends),Inv X a8 σ H s->t D σ H->wpAny (model X.prog X.w) X.A (execs st X.env) (SP X a8 D) X.xe s
theorem CJ {α:Type} {t:Sem α} {Q b:α->Shared->Prop} {M:Model} (h:wpAny M A t Q E s) (c:∀ a s,Q a s->b a s):wpAny M A t b E s:=wpAny_mono h c λ_ _ x=>x
section
inductive U5 (i:Nat) (σ:St) (H:Hp) (Q:VK):Prop
 | mk (v:_):σ[i]? = some (some v)->Q v H->U5 i σ H Q
def tC (v:V):TE:=λ_ H Q=>Q v H
theorem gZ (k:X.N[i]? = some x) (g:vg X.env.scope x) (d:(x == ("__debug__" : Str))=false:=by decide) (n:(x == ("__classdict__" : Str))=false:=by decide):PE X (.Name x pos) (U5 i):=by
 intro j s σ H Q I h
 obtain⟨v,e,h⟩:=h
 obtain⟨m,q,p⟩:=I.loc
 obtain⟨u,r,l⟩:=p i x v k e g
 have fin:EP X j σ Q u s:=⟨v,H,I,r,h⟩
 rcases l with⟨b,o⟩ | ⟨b,c,f,a⟩
 ·exact wpAny_Name (wpAny_loadName_local I.ok.kind b q o fin) d
 ·rcases b with b | b
  ·exact wpAny_Name (wpAny_loadName_cell I.ok.kind b f a fin) d
  ·exact wpAny_Name (wpAny_loadName_free I.ok.kind b f a fin n) d
theorem Ae {i j pos}:PE X (.Constant (.int i) j pos) (tC (.int i)):=λ_ _ _ H _ I h=>wpAny_Constant_int ⟨.int i,H,I.tok _,⟨_,rfl⟩,h⟩
theorem HD {b j pos}:PE X (.Constant (.bool b) j pos) (tC (.bl b)):=λ_ _ _ H _ I h=>Constant_bool ⟨.bl b,H,I,rfl,h⟩
theorem F_ {j pos}:PE X (.Constant .none j pos) (tC .non):=λ_ _ _ H _ I h=>Constant_none ⟨.non,H,I,rfl,h⟩
theorem BW {x j pos}:PE X (.Constant (.str x) j pos) (tC (.str x)):=λ_ _ _ H _ I h=>Calls.Constant_str ⟨.str x,H,I.tok _,⟨_,rfl⟩,h⟩
def Gl (X:Cx) (x:Str):Prop:=X.env.kindOf x=some .globalImplicit
theorem JR (I:Inv X a8 σ H s) (b:Gl X x) (a:X.mg x=some u) (h:Q u s)
  (c:(x == ("__debug__" : Str))=false:=by decide):wpAny (model X.prog X.w) X.A (eval (.Name x pos) X.env) Q E s :=
 Calls.Name_function_global I.ok.kind b (Calls.loadGlobal_global (by rw[I.ok.glob];exact I.mod.glob.keeps I.bk) a h) c
theorem Hv (I:Inv X a8 σ H s) (a:Gl X x) (c:X.mg x=none) (d:bootBuiltins x=some u) (h:Q u s)
  (f:x ≠ "__name__":=by decide) (b:(x == ("__debug__" : Str))=false:=by decide):wpAny (model X.prog X.w) X.A (eval (.Name x pos) X.env) Q E s:=by
 obtain⟨i,g,e⟩:=I.mod.blt
 exact Calls.Name_function_global I.ok.kind a (Calls.loadGlobal_builtin (by rw[I.ok.glob];exact I.mod.glob.keeps I.bk) c (by rw[I.ok.blt];exact g.keeps I.bk) ((e x f).trans d) h) b
theorem Cw {v:V} (a:Gl X x) (c:X.mg x=some u) (r:RelV v u) (b:(x == ("__debug__" : Str))=false:=by decide):PE X (.Name x pos) (tC v) :=
 λ_ _ _ H _ I h=>JR I a c ⟨v,H,I,r,h⟩ b
theorem DX {v:V} (a:Gl X x) (c:X.mg x=none) (d:bootBuiltins x=some u) (r:RelV v u) (e:x ≠ "__name__":=by decide) (b:(x == ("__debug__" : Str))=false:=by decide):PE X (.Name x pos) (tC v) :=
 λ_ _ _ H _ I h=>Hv I a c d ⟨v,H,I,r,h⟩ e b
variable {a b:Expr} {tb:TE}
def PC (X:Cx) (op:CmpOp) (a b:Expr) (t:TE):Prop :=
 ∀ (a8:List (Addr × Obj)) (s:Shared) (σ:St) (H:Hp) (Q:VK),Inv X a8 σ H s->t σ H Q ->
  wpAny (model X.prog X.w) X.A (eval a X.env) (λv s₁=>wpAny (model X.prog X.w) X.A (eval b X.env) (λu s₂=>wpAny (model X.prog X.w) X.A (compareOp op v u) (EP X a8 σ Q) X.xe s₂) X.xe s₁) X.xe s
inductive za (Q:Bool->Hp->Prop) (x:V) (H1:Hp):Prop
 | mk (c:_):x=.bl c->Q c H1->za Q x H1
def tB (t:TE):TT:=λσ H Q=>t σ H λx H1=>za Q x H1
theorem Xf {c:CmpOp} {t:TE} (h:PC X c a b t) (e:behindInMarks c b=false:=by first | exact nobehind _ (by decide) (by decide) | rfl):PE X (.Compare a [c] [b] pos) t:=λd s σ H Q I f=>wpAny_Compare1 (h d s σ H Q I f) e
theorem RM {f:CmpOp} {t:TE} (h:PC X f a b t) (e:behindInMarks f b=false:=by first | exact nobehind _ (by decide) (by decide) | rfl):PT X (.Compare a [f] [b] pos) (tB t):=by
 intro i s σ H Q I j
 refine wpAny_isTrue_Compare1 (CJ (h i s σ H _ I j) λv o e=>CJ e λu p g=>CJ g λc r ⟨x,n,l,m,k⟩=>?_) e
 obtain⟨d,rfl,q⟩:=k
 cases m
 exact wpAny_truthy_bool ⟨n,l,q⟩
theorem CV {t:TE} (h:PE X e t) (f:∀ mw,isTrue e X.env mw=(do let v <-mw;standAt e.pos;holding [v] (truthy v)):=by intro _;rfl):PT X e (tB t):=by
 intro a s σ H Q I b
 refine isTrue_plain (CJ (h a s σ H _ I b) λv k ⟨x,j,g,i,c⟩=>?_) (f _)
 obtain⟨d,rfl,q⟩:=c
 cases i
 exact wpAny_truthy_bool ⟨j,g,q⟩
variable {tA LI:TT} {rest:List Expr}
def xj (t u:TT):TT:=λσ H Q=>t σ H λc H1=>if c=true then u σ H1 Q else Q false H1
def tW (t u:TT):TT:=λσ H Q=>t σ H λc H1=>if c=true then Q true H1 else u σ H1 Q
def wk (t:TT):TT:=λσ H Q=>t σ H λc H1=>Q (!c) H1
theorem Ko (b:PT X a tA):PW X (.BoolOp .And [a] pos) tA:=by
 intro g d s σ H Q I h
 refine isTrue_and (CJ (b d s σ H Q I h) λc f e=>?_)
 cases c with
 | true=>exact isTrue_and_nil e
 | false=>exact e
theorem Do (b:PT X a tA):PW X (.BoolOp .Or [a] pos) tA:=by
 intro g d s σ H Q I h
 refine isTrue_or (CJ (b d s σ H Q I h) λc f e=>?_)
 cases c with
 | false=>exact isTrue_or_nil e
 | true=>exact e
theorem N8 (k:PT X a tA) (l:PW X (.BoolOp .And (b::rest) pos) LI):PW X (.BoolOp .And (a::b::rest) pos) (xj tA LI):=by
 intro j f s σ H Q I h
 refine isTrue_and (CJ (k f s σ H _ I h) λc i m=>?_)
 obtain⟨g,e,d⟩:=m
 cases c with
 | true=>exact l j f i σ g Q e d
 | false=>exact⟨g,e,d⟩
theorem D_ (k:PT X a tA) (l:PW X (.BoolOp .Or (b::rest) pos) LI):PW X (.BoolOp .Or (a::b::rest) pos) (tW tA LI):=by
 intro j f s σ H Q I h
 refine isTrue_or (CJ (k f s σ H _ I h) λc i m=>?_)
 obtain⟨g,e,d⟩:=m
 cases c with
 | true=>exact⟨g,e,d⟩
 | false=>exact l j f i σ g Q e d
theorem CG (f:PT X a tA):PT X (.UnaryOp .Not a pos) (wk tA):=by
 intro g s σ H Q I h
 exact isTrue_not (CJ (f g s σ H (λc b=>Q (!c) b) I h) λc i ⟨b,e,d⟩=>⟨b,e,d⟩)
inductive Vl (tb:TE) (σ:St) (Q:VK) (x:V) (H1:Hp):Prop
 | mk (c:_):x=.bl c->(if c=true then tb σ H1 Q else Q (.bl false) H1)->Vl tb σ Q x H1
def o_ (ta tb:TE):TE:=λσ H Q=>ta σ H λx H1=>Vl tb σ Q x H1
inductive aq (tb:TE) (σ:St) (Q:VK) (x:V) (H1:Hp):Prop
 | mk (c:_):x=.bl c->(if c=true then Q (.bl true) H1 else tb σ H1 Q)->aq tb σ Q x H1
def tG (ta tb:TE):TE:=λσ H Q=>ta σ H λx H1=>aq tb σ Q x H1
inductive WF (Q:VK) (x:V) (H1:Hp):Prop
 | mk (c:_):x=.bl c->Q (.bl (!c)) H1->WF Q x H1
def k_ (ta:TE):TE:=λσ H Q=>ta σ H λx H1=>WF Q x H1
theorem Df {op} {t:TE} (h:PE X a t):PE X (.BoolOp op [a] pos) t:=λb s σ H Q I c=>BoolOp_one (h b s σ H Q I c)
theorem Di (j:PE X a ta) (k:PE X (.BoolOp .And (b::rest) pos) tb):PE X (.BoolOp .And (a::b::rest) pos) (o_ ta tb):=by
 intro e s σ H Q I h
 refine BoolOp_and (CJ (j e s σ H _ I h) λv i m=>?_)
 obtain⟨x,g,f,l,d⟩:=m
 obtain⟨c,rfl,d⟩:=d
 cases l
 refine wpAny_truthy_bool ?_
 cases c with
 | true=>exact k e i σ g Q f d
 | false=>exact⟨.bl false,g,f,rfl,d⟩
theorem nY (j:PE X a ta) (k:PE X (.BoolOp .Or (b::rest) pos) tb):PE X (.BoolOp .Or (a::b::rest) pos) (tG ta tb):=by
 intro e s σ H Q I h
 refine BoolOp_or (CJ (j e s σ H _ I h) λv i m=>?_)
 obtain⟨x,g,f,l,d⟩:=m
 obtain⟨c,rfl,d⟩:=d
 cases l
 refine wpAny_truthy_bool ?_
 cases c with
 | false=>exact k e i σ g Q f d
 | true=>exact⟨.bl true,g,f,rfl,d⟩
theorem Nx (d:PE X a ta):PE X (.UnaryOp .Not a pos) (k_ ta):=by
 intro e s σ H Q I h
 refine UnaryOp_ (CJ (d e s σ H _ I h) λv k i=>?_)
 obtain⟨x,j,f,g,b⟩:=i
 obtain⟨c,rfl,b⟩:=b
 cases g
 exact not_of (wpAny_truthy_bool ⟨.bl (!c),j,f,rfl,b⟩)
def zp (t:TT) (ta tb:TE):TE:=λσ H Q=>t σ H λc H1=>if c=true then ta σ H1 Q else tb σ H1 Q
theorem Jb {c:Expr} (k:PT X c tA) (l:PE X a ta) (m:PE X b tb):PE X (.IfExp c a b pos) (zp tA ta tb):=by
 intro e s σ H Q I h
 refine wpAny_IfExp (CJ (k e s σ H _ I h) λd f n=>?_)
 obtain⟨j,i,g⟩:=n
 cases d with
 | true=>exact l e f σ j Q i g
 | false=>exact m e f σ j Q i g
end
variable {tt:TT} {tb:TS}
def Dc (K:W.Frag) (H:Hp) (a:Addr) (xs:List V):Prop :=
 Rd H a (.lst xs) \/
  ∃ (o:Obj) (its:Array Value) (n:Nat),K.lookup a=some o/\o.cls=.type "list" /\ o.dict=none/\o.data=.seq its n/\its.size<=sizeLine/\Vals xs its.toList
def HW (K:W.Frag) (H:Hp) (a:Addr) (xs:List V):Prop :=
 Rd H a (.tup xs) \/
  ∃ (o:Obj) (its:Array Value) (n:Nat),K.lookup a=some o/\o.cls=.type "tuple" /\ o.data=.seq its n/\its.size<=sizeLine/\Vals xs its.toList
def wz:Value->Option V
 | .none=>some .non
 | .bool b=>some (.bl b)
 | .int i _=>some (.int i)
 | .str x _=>some (.str x)
 | .bytes b _=>some (.byt b)
 | .float b _=>some (.flt b)
 | .ref a=>some (.ref a)
 | .type n=>some (.ty n)
 | _=>none
theorem RelV.abs {x:V} (r:RelV x u):wz u=some x:=by
 cases x with
 | non=>cases r;rfl
 | bl _=>cases r;rfl
 | int _=>obtain⟨t,rfl⟩:=r;rfl
 | str _=>obtain⟨t,rfl⟩:=r;rfl
 | byt _=>obtain⟨t,rfl⟩:=r;rfl
 | flt _=>obtain⟨t,rfl⟩:=r;rfl
 | ref _=>cases r;rfl
 | ty _=>cases r;rfl
theorem RelV.inj {x:V} (r:RelV x u) (q:RelV y u):x=y:=Option.some.inj (r.abs.symm.trans q.abs)
theorem Vals.inj:∀ {xs ys:List V} {us:List Value},Vals xs us->Vals ys us->xs=ys
 | _,_,_,.nil,.nil=>rfl
 | _,_,_,.cons r t,.cons b a=>by rw[r.inj b,Vals.inj t a]
section
variable {ys:List V}
theorem Inv.list (I:Inv X a8 σ H s) (h:Dc X.K H a xs):∃ its:List Value,Vals xs its/\PlainL s.heap a its.toArray/\xs.length<=sizeLine:=by
 rcases h with h | ⟨o,its,n,d,b,c,f,g,r⟩
 ·obtain⟨z,its,n,r,e⟩:=h.ok I.hok
  exact⟨its,r,⟨_,n,e,rfl,rfl,rfl⟩,z⟩
 ·refine⟨its.toList,r,⟨o,n,I.Gy a o d,b,c,by simpa using f⟩,?_⟩
  have e:=r.length
  simp only[Array.length_toList] at e
  omega
theorem Inv.tuple (I:Inv X a8 σ H s) (h:HW X.K H a xs):∃ its:List Value,Vals xs its/\IsTup s.heap a its.toArray/\xs.length<=sizeLine:=by
 rcases h with h | ⟨o,its,n,d,c,b,f,r⟩
 ·obtain⟨z,its,r,p⟩:=h.ok I.hok
  exact⟨its,r,p,z⟩
 ·refine⟨its.toList,r,⟨o,I.Gy a o d,c,n,by simpa using b⟩,?_⟩
  have e:=r.length
  simp only[Array.length_toList] at e
  omega
theorem Inv.Ph (I:Inv X a8 σ H s) (h:Dc X.K H a xs) (h':Dc X.K H a ys):xs=ys:=by
 obtain⟨c,r,⟨o,n,e,_,_,d⟩,_⟩:=I.list h
 obtain⟨b,i,⟨k,j,f,_,_,g⟩,_⟩:=I.list h'
 rw[e] at f;cases f
 rw[d] at g
 injection g with d1 _
 have:c=b:=by simpa using congrArg Array.toList d1
 subst this
 exact r.inj i
theorem Inv.J1 (I:Inv X a8 σ H s) (h:HW X.K H a xs) (h':HW X.K H a ys):xs=ys:=by
 obtain⟨c,r,⟨o,e,_,n,d⟩,_⟩:=I.tuple h
 obtain⟨b,i,⟨k,f,_,j,g⟩,_⟩:=I.tuple h'
 rw[e] at f;cases f
 rw[d] at g
 injection g with d1 _
 have:c=b:=by simpa using congrArg Array.toList d1
 subst this
 exact r.inj i
end
abbrev Cx.wish (X:Cx) (E:vSP):Cx:={ X with xe:=E }
abbrev Cx.j7 (X:Cx):Cx:=X.wish λ_ _=>False
theorem Cx.Ok.wish (ok:X.Ok) (E:vSP):(X.wish E).Ok :=
 ⟨ok.mod,ok.kind,ok.glob,ok.blt,ok.above,ok.inj,ok.has,ok.cab,ok.hd,ok.frames,ok.stk,ok.exf,ok.bs,ok.bsz,ok.noex,ok.exfs,ok.Jv,ok.frf⟩
theorem Cx.Ok.Hh (ok:(X.wish E).Ok):X.Ok :=
 ⟨ok.mod,ok.kind,ok.glob,ok.blt,ok.above,ok.inj,ok.has,ok.cab,ok.hd,ok.frames,ok.stk,ok.exf,ok.bs,ok.bsz,ok.noex,ok.exfs,ok.Jv,ok.frf⟩
theorem Inv.wish (I:Inv X a8 σ H s) (E:vSP):Inv (X.wish E) a8 σ H s:=⟨I.ok.wish E,I.os,I.bare,I.base,I.loc,I.cell,I.free,I.freeC,I.pin,I.hok,I.len⟩
theorem Inv.Hh (I:Inv (X.wish E) a8 σ H s):Inv X a8 σ H s:=⟨I.ok.Hh,I.os,I.bare,I.base,I.loc,I.cell,I.free,I.freeC,I.pin,I.hok,I.len⟩
theorem SP.Hh {D:Ends} {f:Flow} {s':Shared} (h:SP (X.wish E) a8 D f s'):SP X a8 D f s':=by
 cases f with
 | next=>obtain⟨b,a,I,q⟩:=h;exact⟨b,a,I.Hh,q⟩
 | brk=>obtain⟨b,a,I,q⟩:=h;exact⟨b,a,I.Hh,q⟩
 | cont=>obtain⟨b,a,I,q⟩:=h;exact⟨b,a,I.Hh,q⟩
 | ret u=>obtain⟨v,b,a,I,r,q⟩:=h;exact⟨v,b,a,I.Hh,r,q⟩
theorem Nh.j7 {st:List Stmt} {t:TS} (h:Nh X.j7 st t):Nh X st t:=λa s σ H D I b =>
 wpAny_mono (h a s σ H D (I.wish _) b) (λ_ _ q=>q.Hh) λ_ _ z=>False.elim z
section
variable {st:Stmt} {rest:List Stmt} {t u:TS}
def mU:TS:=λD σ H=>D.nx σ H
def ik (t u:TS):TS:=λD σ H=>t { D with nx:=u D } σ H
theorem Ba:Nh X [] mU:=λ_ _ σ H _ I h=>wpAny_execs_nil ⟨σ,H,I,h⟩
theorem Af (i:PS X st t) (g:Nh X rest u):Nh X (st::rest) (ik t u):=by
 intro a s σ H D I h
 refine wpAny_execs_cons (CJ (i a s σ H { D with nx:=u D } I h) λf b q=>?_)
 cases f with
 | next =>
  obtain⟨e,c,d,q⟩:=q
  exact g a b e c D d q
 | ret v=>exact q
 | brk=>exact q
 | cont=>exact q
theorem Ag (b:PS X st t):Nh X [st] t:=by
 intro a s σ H D I h
 refine wpAny_execs_cons (CJ (b a s σ H D I h) λf c q=>?_)
 cases f with
 | next=>exact wpAny_execs_nil q
 | ret v=>exact q
 | brk=>exact q
 | cont=>exact q
def jT:TS:=λD σ H=>D.bk σ H
theorem V8:PS X (.Break pos) jT:=λ_ _ σ H _ I h=>wpAny_Break ⟨σ,H,I,h⟩
theorem Inv.quiet (I:Inv X a8 σ H s):interactive X.env=false:=by simp[interactive,I.ok.kind]
def oJ (te:TE):TS:=λD σ H=>te σ H λ_ H1=>D.nx σ H1
theorem Bx (b:PE X e te) (f:swapsWith e none pos.line X.env=pure false:=by rfl):PS X (.Expr e pos) (oJ te):=by
 intro d s σ H D I h
 exact wpAny_Expr_any (CJ (b d s σ H _ I h) λv i ⟨x,g,c,j,a⟩=>⟨σ,g,c,a⟩) I.quiet f
def yu (te:TE):TS:=λD σ H=>te σ H D.rt
theorem Ax (b:PE X e te):PS X (.Return (some e) pos) (yu te):=by
 intro f s σ H D I h
 exact wpAny_Return_some (CJ (b f s σ H _ I h) λv i ⟨x,g,c,d,a⟩=>⟨x,σ,g,c,d,a⟩)
def cV (c:TT) (t u:TS):TS:=λD σ H=>c σ H λb H1=>if b=true then t D σ H1 else u D σ H1
theorem Bl {c:Expr} {a b:List Stmt} {g:TT} (n:PT X c g) (l:Nh X a t) (m:Nh X b u):PS X (.If c a b pos) (cV g t u):=by
 intro e s σ H D I h
 refine wpAny_If (CJ (n e s σ H _ I h) λd f o=>?_)
 obtain⟨k,j,i⟩:=o
 cases d with
 | true=>exact l e f σ k D j i
 | false=>exact m e f σ k D j i
def iB:TS:=λ_ _ _=>False
theorem IV:PS X st iB:=λ_ _ _ _ _ _ h=>h.elim
end
abbrev TG:=V->St->Hp->(St->Hp->Prop)->Prop
abbrev jZ:=List V->St->Hp->(St->Hp->Prop)->Prop
def PG (X:Cx) (AZ:Expr) (t:TG):Prop :=
 ∀ (a8:List (Addr × Obj)) (s:Shared) (σ:St) (H:Hp) (v:V) (u:Value) (Q:St->Hp->Prop),Inv X a8 σ H s->RelV v u->t v σ H Q ->
  wpAny (model X.prog X.w) X.A (assign AZ X.env u) (λ_ s'=>∃ σ' H',Inv X a8 σ' H' s'/\Q σ' H') X.xe s
def qu (X:Cx) (ts:List Expr) (t:jZ):Prop :=
 ∀ (a8:List (Addr × Obj)) (s:Shared) (σ:St) (H:Hp) (vs:List V) (us:List Value) (Q:St->Hp->Prop),Inv X a8 σ H s->Vals vs us->t vs σ H Q ->
  wpAny (model X.prog X.w) X.A (assignInOrder ((assignEach ts X.env).map (·.2)) us) (λ_ s'=>∃ σ' H',Inv X a8 σ' H' s'/\Q σ' H') X.xe s
abbrev gf:=V->V->V->Hp->(Hp->Prop)->Prop
def ji (X:Cx) (t:gf):Prop :=
 ∀ (a8:List (Addr × Obj)) (s:Shared) (σ:St) (H:Hp) (o i v:V) (ov iv u:Value) (Q:Hp->Prop),Inv X a8 σ H s->RelV o ov->RelV i iv->RelV v u->t o i v H Q ->
  wpAny (model X.prog X.w) X.A (setItem ov iv u) (λ_ s'=>∃ H',Inv X a8 σ H' s'/\Q H') X.xe s
def Dh (i:Nat):TG:=λv σ H Q=>Q (σ.set i (some v)) H
theorem Ck (d:X.N.Nodup) (hi:X.N[i]? = some x) (a:Loc X.env.scope x) (c:X.fn x=true \/ X.env.scope.names.lookup x=some .local:=by first | exact .inl rfl | exact .inr rfl | assumption):PG X (.Name x pos) (Dh i):=by
 intro e s σ H v u Q I r h
 exact wpAny_assign_Name (Jt I d hi a r (λf b=>⟨_,H,b,h⟩) c)
def QL:jZ:=λvs σ H Q=>vs=[]/\Q σ H
inductive FT (t:TG) (u:jZ) (vs:List V) (σ:St) (H:Hp) (Q:St->Hp->Prop):Prop
 | mk (v r:_):vs=v::r->(t v σ H λσ' H'=>u r σ' H' Q)->FT t u vs σ H Q
theorem Jg:qu X [] QL:=by
 intro c s σ H b a Q I r h
 obtain⟨e,h⟩:=h
 subst e
 cases r
 exact assignInOrder_nil ⟨σ,H,I,h⟩
theorem EY {t:TG} {u:jZ} (g:PG X e t) (d:qu X es u)
  (f:(assignEach (e::es) X.env).map (·.2)=assign e X.env::(assignEach es X.env).map (·.2):=by rfl):qu X (e::es) (FT t u):=by
 intro a s σ H p q Q I r h
 obtain⟨v,o,k,h⟩:=h
 subst k
 cases r with
 | cons r l =>
  rw[f]
  refine assignInOrder_cons (CJ (g a s σ H _ _ _ I r h) λ_ b m=>?_)
  obtain⟨c,n,j,i⟩:=m
  exact d a b c n _ _ Q j l i
inductive Nz (K:W.Frag) (n:Nat) (t:jZ) (v:V) (σ:St) (H:Hp) (Q:St->Hp->Prop):Prop
 | mk (a xs:_):v=.ref a->HW K H a xs->xs.length=n->t xs σ H Q->Nz K n t v σ H Q
theorem Ld {k:Nat} {t:jZ} (m:X.calm=true) (h:qu X es t)
  (A:(assignEach es X.env).length=n:=by rfl) (d:(assignEach es X.env).findIdx? (·.1)=none:=by rfl):PG X (.Tuple es k pos) (Nz X.K n t):=by
 intro g s σ H v u Q I r c
 obtain⟨a,p,x,i,z,c⟩:=c
 subst x
 cases r
 obtain⟨q,f,y,B⟩:=I.tuple i
 refine assign_Tuple_tuple (I.ok.hd m) y (by simp[A,<-z,f.length]) d λl j=>?_
 have w:Inv X g σ H { s with heap:=l }:=I.kept (t':=s.toks) λb o e=>j b o (cf (Heap.lt_size e)) e
 exact h g _ σ H p _ Q w (by simpa using f) c
def zL (to ti:TE) (t:gf):TG:=λv σ H Q=>to σ H λo H1=>ti σ H1 λi H2=>t o i v H2 λH3=>Q σ H3
theorem WK {o i:Expr} {c d:TE} {t:gf} (z:PE X o c) (hi:PE X i d) (e:ji X t)
  (p:∀ v,assign (.Subscript o i pos) X.env v=(do
   let ov <-holding [v] (eval o X.env)
   let iv <-holding [v,ov] (eval i X.env)
   standAt pos
   holding [v,ov,iv] (setItem ov iv v)
   release [v,ov,iv] []):=by intro _;rfl):PG X (.Subscript o i pos) (zL c d t):=by
 intro b s σ H v u Q I r h
 rw[p]
 refine wpAny_bind (wpAny_holding (CJ (z b s σ H _ I h) λov n a=>?_))
 obtain⟨x,D,B,C,g⟩:=a
 refine wpAny_bind (wpAny_holding (CJ (hi b n σ D _ B g) λiv w a=>?_))
 obtain⟨y,k,f,l,A⟩:=a
 refine wpAny_bind (wpAny_standAt (wpAny_bind (wpAny_holding (CJ (e b w σ k x y v ov iv u _ f C l r A) λ_ E a=>?_))))
 obtain⟨m,j,q⟩:=a
 exact wpAny_release ⟨σ,m,j,q⟩
def RW (te:TE) (g:TG):TS:=λD σ H=>te σ H λx H1=>g x σ H1 D.nx
theorem Ra {g:TG} (k:PE X e te) (j:PG X tg g) (c:swapsWithSole [tg] e pos.line X.env=pure false:=by rfl) (f:swappedStores [tg] e X.env=pure none:=by rfl)
  (d:(assignEach [tg] X.env).map (·.2)=[assign tg X.env]:=by rfl):PS X (.Assign [tg] e pos) (RW te g):=by
 intro a s σ H D I h
 refine wpAny_Assign_stores (CJ (k a s σ H _ I h) λv b ⟨x,n,l,m,i⟩=>?_) c f
 rw[d]
 exact CJ (j a b σ n x v _ l m i) λ_ o q=>q
theorem Bh {a:Pos} (f:X.N.Nodup) (hi:X.N[i]? = some x) (b:Loc X.env.scope x) (k:PE X e te) (d:swapsWith e (some (.Name x a)) pos.line X.env=pure false:=by rfl) (n:X.fn x=true \/ X.env.scope.names.lookup x=some .local:=by first | exact .inl rfl | exact .inr rfl | assumption) :
  PS X (.Assign [.Name x a] e pos) (RW te (Dh i)):=by
 intro c s σ H D I h
 refine wpAny_Assign_Name (CJ (k c s σ H _ I h) λv p ⟨y,o,l,m,j⟩=>?_) d
 exact Jt l f hi b m (λq g=>⟨_,o,g,j⟩) n
def Nr (c:TT) (tb:TS):TS:=λD σ H=>∃ W:Nat->St->Hp->Prop,(∃ m,W m σ H)/\∀ m σ H,W m σ H ->
 c σ H λb H1=>if b=true then ∃ N:St->Hp->Prop,(∀ σ' H',N σ' H'->∃ m',m'<m/\W m' σ' H')/\tb { D with nx:=N,ct:=N,bk:=D.nx } σ H1 else D.nx σ H1
theorem Va {c:Expr} {a:List Stmt} {t:TT} (w:PassesOwn (model X.prog X.w) X.A X.env X.xe) (C:PT X c t) (J:Nh X a tb):PS X (.While c a [] pos) (Nr t tb):=by
 intro q s σ H D I h
 obtain⟨W,⟨B,P⟩,G⟩:=h
 refine wpAny_While (codeAny_whileLoop (λn M=>∃ r z,Inv X q r z M/\W n r z) ?_ B ⟨σ,H,I,P⟩)
 rintro n F ⟨g,A,L,O⟩
 refine wpAny_passesOwn w (CJ (C q F g A _ L (G n g A O)) λb K E=>?_)
 obtain⟨x,u,j⟩:=E
 cases b with
 | true =>
  obtain⟨N,y,j⟩:=j
  rw[if_pos rfl]
  refine wpAny_passesOwn w (CJ (J q K g x _ u j) λf Q i=>?_)
  cases f with
  | next =>
   obtain⟨d,e,l,o⟩:=i
   obtain⟨k,m,p⟩:=y d e o
   exact⟨k,m,d,e,l,p⟩
  | cont =>
   obtain⟨d,e,l,o⟩:=i
   obtain⟨k,m,p⟩:=y d e o
   exact⟨k,m,d,e,l,p⟩
  | brk=>exact i
  | ret v=>exact i
 | false =>
  rw[if_neg fb]
  exact wpAny_execs_nil ⟨g,x,u,j⟩
structure It where
 go:Nat->Hp->Prop
 yld:Nat->Hp->V->Hp->Prop
 stop:Nat->Hp->Prop
def G6 (X:Cx) (a8:List (Addr × Obj)) (H:Hp) (b:Addr):Prop :=
 H b=none/\b ≠ X.env.locals/\b ∉ X.fs/\(b∈X.ex \/ X.s₀.heap.objs.size<=b)/\(∀ x c,X.env.cells.lookup x=some c->c ≠ b)/\∀ p∈X.pn++a8,p.1 ≠ b
theorem Inv.MK (I:Inv X a8 σ H s) (a:s.heap.objs.size<=b) (f:H' b=none):G6 X a8 H' b:=by
 refine⟨f,hV (bi I.lt a),I.vd a,.inr (be I.sz a),λx c e z=>?_,λp d z=>?_⟩
 ·obtain⟨v,q⟩:=I.cell x c e
  exact absurd (bi q.lt (by rw[z];exact a)) (fR _)
 ·exact absurd (bi (Heap.lt_size (I.pin p d).1) (by rw[z];exact a)) (fR _)
structure Turn (P:Program) (w:World) (K:W.Frag) (tg:Expr) (J:It) (fp:List Addr) (it:Addr) (tn:Nat->Heap->Prop):Prop where
 mem:it∈fp
 obj:∀ i h,tn i h->∀ b∈fp,∃ o,h.get? b=some o/\∀ v,o.data ≠ .cell v
 keep:∀ i h h',tn i h->(∀ b∈fp,∀ o,h.get? b=some o->h'.get? b=some o)->tn i h'
 item:∀ (X:Cx),X.prog=P->X.w=w->X.K=K->X.calm=true->∀ (i:Nat) (a8:List (Addr × Obj)) (s:Shared) (σ:St) (H:Hp) (E:vSP),Inv X a8 σ H s->(∀ b∈fp,G6 X a8 H b)->tn i s.heap->J.go i H ->
  wpAny (model P w) X.A (pyNext (.ref it)) (λr s1=>∃ u,r=some u /\
   wpAny (model P w) X.A (letOwnedTupleGo tg (.ref it) u) (λ_ s2=>∃ x H',Inv X a8 σ H' s2/\RelV x u/\J.yld i H x H'/\tn (i+1) s2.heap/\∀ b∈fp,H' b=none) E s1) E s
 done:∀ (X:Cx),X.prog=P->X.w=w->X.K=K->X.calm=true->∀ (i:Nat) (a8:List (Addr × Obj)) (s:Shared) (σ:St) (H:Hp) (E:vSP),Inv X a8 σ H s->(∀ b∈fp,G6 X a8 H b)->tn i s.heap->J.stop i H ->
  wpAny (model P w) X.A (pyNext (.ref it)) (λr s1=>r=none/\Inv X a8 σ H s1) E s
 self:∀ (A:Around) (i:Nat) (s:Shared) (Q:vSP) (E:vSP),tn i s.heap->Q (.ref it) s->wpAny (model P w) A (pyIter (.ref it)) Q E s
abbrev TI:=St->Hp->(It->Hp->Prop)->Prop
inductive PIE (X:Cx) (a8:List (Addr × Obj)) (σ:St) (tg:Expr) (R:It->Hp->Prop) (ze:Value) (s2:Shared):Prop
 | mk (it:Addr) (fp:List Addr) (tn:Nat->Heap->Prop) (J:It) (H':Hp):ze=.ref it->Inv X a8 σ H' s2->Turn X.prog X.w X.K tg J fp it tn->tn 0 s2.heap->(∀ b∈fp,G6 X a8 H' b)->R J H'->PIE X a8 σ tg R ze s2
def PI (X:Cx) (tg iter:Expr) (wi:TI):Prop :=
 ∀ (a8:List (Addr × Obj)) (s:Shared) (σ:St) (H:Hp) (R:It->Hp->Prop),Inv X a8 σ H s->wi σ H R ->
  wpAny (model X.prog X.w) X.A (eval iter X.env) (λv s1=>wpAny (model X.prog X.w) X.A (pyIter v) (PIE X a8 σ tg R) X.xe s1) X.xe s
theorem Om {M:Model} {o:Obj} {n:String} {vs:Array Value} {Q:Unit->Shared->Prop} (b:s.heap.get? it=some o) (c:o.cls=.type n) (d:o.data=.fields vs)
  (e:["enumerate","zip","dict_itemiterator","dict_reverseitemiterator","odict_iterator","itertools.zip_longest","itertools.pairwise"].contains n=false) (a:Q () s):wpAny M A (letOwnedTupleGo tg (.ref it) u) Q E s:=by
 unfold letOwnedTupleGo
 cases tg <;> first
  | exact wpAny_pure a
  | (cases u <;> first
    | exact wpAny_pure a
    | (refine wpAny_bind (wpAny_load b ?_)
       rw[c,d]
       show wpAny M A (if (["enumerate","zip","dict_itemiterator","dict_reverseitemiterator","odict_iterator","itertools.zip_longest","itertools.pairwise"].contains n && vs[0]? == some (rawInt _))=true then _ else _) Q E s
       rw[if_neg (by intro h;rw[e,hG] at h;cases h)]
       exact wpAny_pure a))
def cC (K:W.Frag) (a:Addr):It :=
 ⟨λi H=>∃ xs x,Dc K H a xs/\xs[i]? = some x,λi H x H'=>H'=H/\∀ xs,Dc K H a xs->xs[i]? = some x,λi H=>∃ xs,Dc K H a xs/\xs.length<=i⟩
def xr (K:W.Frag) (a:Addr):It :=
 ⟨λi H=>∃ xs x,HW K H a xs/\xs[i]? = some x,λi H x H'=>H'=H/\∀ xs,HW K H a xs->xs[i]? = some x,λi H=>∃ xs,HW K H a xs/\xs.length<=i⟩
def Yi (lo:Int) (n:Nat):It:=⟨λi _=>i<n,λi H x H'=>H'=H/\x=.int (lo+i),λi _=>n<=i⟩
theorem VN {w:World} {K:W.Frag} (a g:Addr):Turn P w K tg (cC K a) [g] g (λi h=>h.IsListIter g a i) where
 mem:=by simp
 obj:=λi h st b f=>by
  have e:b=g:=by simpa using f
  subst e
  obtain⟨o,e,c,d⟩:=st
  exact⟨o,e,λv z=>by rw[d] at z;cases z⟩
 keep:=λi h m st k=>st.at λo e=>k g (by simp) o e
 item:=by
  intro X r F B L i M s σ H E I l st G
  subst r F B
  obtain⟨Z,x,j,n⟩:=G
  obtain⟨y,C,p,U⟩:=I.list j
  obtain⟨u,O,Q⟩:=C.get n
  obtain⟨t,J,Y,D,A,q⟩:=l g (by simp)
  refine wpAny_pyNext_list_item st p.isList (x:=u) (by simpa using O) λm N S=>?_
  have V:Inv X M σ H { s with heap:=m }:=I.turned (t':=s.toks) (λb o f e=>(S.2 b f).trans e) t J D A q
  obtain⟨o,e,c,d⟩:=id N
  exact⟨u,rfl,Om (s:={ s with heap:=m }) e c d (by decide) ⟨x,H,V,Q,⟨rfl,λys T=>by rw[I.Ph T j];exact n⟩,N,λb f=>(l b f).1⟩⟩
 done:=by
  intro X r F B L i M s σ H E I l st G
  subst r F B
  obtain⟨Z,j,n⟩:=G
  obtain⟨y,C,p,U⟩:=I.list j
  obtain⟨t,J,Y,D,A,q⟩:=l g (by simp)
  have hl:=C.length
  exact wpAny_pyNext_list_end (I.ok.hd L) st p.isList (by simp;omega) λm R=>⟨rfl,I.turned (t':=s.toks) (λb o f e=>R b o f e) t J D A q⟩
 self:=λ_ _ _ _ _ st h=>wpAny_pyIter_listiter st h
theorem Q4 {w:World} {K:W.Frag} (a j:Addr):Turn P w K tg (xr K a) [j] j (λi h=>h.IsTupleIter j a i) where
 mem:=by simp
 obj:=λi h st b g=>by
  have e:b=j:=by simpa using g
  subst e
  obtain⟨o,e,c,d⟩:=st
  exact⟨o,e,λv z=>by rw[d] at z;cases z⟩
 keep:=λi h n st k=>st.at λo e=>k j (by simp) o e
 item:=by
  intro X t F B L i M s σ H E I m st G
  subst t F B
  obtain⟨Z,x,l,q⟩:=G
  obtain⟨f,C,p,U⟩:=I.tuple l
  obtain⟨u,O,Q⟩:=C.get q
  obtain⟨y,J,Y,D,A,r⟩:=m j (by simp)
  refine wpAny_pyNext_tuple_item st (show s.heap.IsTuple a f.toArray from p) (x:=u) (by simpa using O) λn N S=>?_
  have V:Inv X M σ H { s with heap:=n }:=I.turned (t':=s.toks) (λb o g e=>(S.2 b g).trans e) y J D A r
  obtain⟨o,e,c,d⟩:=id N
  exact⟨u,rfl,Om (s:={ s with heap:=n }) e c d (by decide) ⟨x,H,V,Q,⟨rfl,λys T=>by rw[I.J1 T l];exact q⟩,N,λb g=>(m b g).1⟩⟩
 done:=by
  intro X t F B L i M s σ H E I m st G
  subst t F B
  obtain⟨Z,l,q⟩:=G
  obtain⟨f,C,p,U⟩:=I.tuple l
  obtain⟨y,J,Y,D,A,r⟩:=m j (by simp)
  have hl:=C.length
  exact wpAny_pyNext_tuple_end (I.ok.hd L) st (show s.heap.IsTuple a f.toArray from p) (by simp;omega) λn R=>⟨rfl,I.turned (t':=s.toks) (λb o g e=>R b o g e) y J D A r⟩
 self:=λ_ _ _ _ _ st h=>wpAny_pyIter_tupleiter st h
theorem Qx {w:World} {K:W.Frag} (a:Addr) (lo:Int) (n:Nat):Turn P w K tg (Yi lo n) [a] a (λi h=>IsRangeIter h a (lo+(i:Nat) * 1) ((n:Int) - (i:Nat)) 1) where
 mem:=by simp
 obj:=λi h st b c=>by
  have e:b=a:=by simpa using c
  subst e
  exact⟨_,st,λv z=>by
   have J:Data.fields _=Data.cell v:=z
   cases J⟩
 keep:=λi h f st k=>k a (by simp) _ st
 item:=by
  intro X j u q m i B s σ H E I d st x
  subst j u q
  obtain⟨l,y,M,r,p,g⟩:=d a (by simp)
  have W:=Walks.range (prog:=X.prog) (w:=X.w) (I.ok.hd m) a lo 1 n
  refine W.item i s _ _ x st λv f A D C G=>?_
  obtain⟨t,rfl⟩:=D
  have L:Inv X B σ H { s with heap:=f,toks:=A }:=I.turned (λb o c e=>G b o (by simpa using c) e) l y r p g
  refine⟨_,rfl,Om (s:={ s with heap:=f,toks:=A }) (n:="range_iterator") C rfl rfl (by decide) ⟨.int (lo+i),H,L,⟨t,?_⟩,⟨rfl,rfl⟩,C,λb c=>(d b c).1⟩⟩
  rw[kK]
 done:=by
  intro X j u q m i B s σ H E I d st x
  subst j u q
  obtain⟨l,y,M,r,p,g⟩:=d a (by simp)
  exact wpAny_pyNext_range_end (I.ok.hd m) st (by have:n<=i:=x;omega) λf F=>⟨rfl,I.turned (t':=s.toks) (λb o c e=>F b o c e) l y r p g⟩
 self:=λ_ _ _ _ _ st h=>wpAny_pyIter_rangeiter st h
inductive Wh (K:W.Frag) (R:It->Hp->Prop) (x:V) (H1:Hp):Prop
 | mk (a:_):x=.ref a->(∃ xs,Dc K H1 a xs)->R (cC K a) H1->Wh K R x H1
def kY (K:W.Frag) (tl:TE):TI:=λσ H R=>tl σ H λx H1=>Wh K R x H1
inductive ao (K:W.Frag) (R:It->Hp->Prop) (x:V) (H1:Hp):Prop
 | mk (a:_):x=.ref a->(∃ xs,HW K H1 a xs)->R (xr K a) H1->ao K R x H1
def yl (K:W.Frag) (tl:TE):TI:=λσ H R=>tl σ H λx H1=>ao K R x H1
theorem Bt {l:Expr} {f:TE} (t:PE X l f):PI X tg l (kY X.K f):=by
 intro j s σ H R I h
 refine CJ (t j s σ H _ I h) λv c r=>?_
 obtain⟨x,u,d,n,k⟩:=r
 obtain⟨a,e,⟨z,g⟩,q⟩:=k
 subst e
 cases n
 obtain⟨m,w,p,y⟩:=d.list g
 refine wpAny_pyIter_list p.isList ?_
 refine⟨c.heap.objs.size,[c.heap.objs.size],_,_,u,rfl,d.kept (t':=c.toks) λb o e=>Heap.get?_push_of_some _ e,VN a _,⟨_,Heap.get?_push_size _ rfl,rfl,rfl⟩,λb i=>?_,q⟩
 have e:b=c.heap.objs.size:=by simpa using i
 subst e
 exact d.MK (ah _) (d.hok.fresh (ah _))
theorem Q0 {l:Expr} {g:TE} (t:PE X l g):PI X tg l (yl X.K g):=by
 intro k s σ H R I h
 refine CJ (t k s σ H _ I h) λv c r=>?_
 obtain⟨x,u,d,n,m⟩:=r
 obtain⟨a,e,⟨z,i⟩,q⟩:=m
 subst e
 cases n
 obtain⟨f,w,p,y⟩:=d.tuple i
 refine wpAny_pyIter_tuple (show c.heap.IsTuple a f.toArray from p) ?_
 refine⟨c.heap.objs.size,[c.heap.objs.size],_,_,u,rfl,d.kept (t':=c.toks) λb o e=>Heap.get?_push_of_some _ e,Q4 a _,⟨_,Heap.get?_push_size _ rfl,rfl,rfl⟩,λb j=>?_,q⟩
 have e:b=c.heap.objs.size:=by simpa using j
 subst e
 exact d.MK (ah _) (d.hok.fresh (ah _))
theorem O_ {R:It->Hp->Prop} {lo hi:Int} {t u v:Tok} {a:Nat} (I:Inv X a8 σ H s) (h : -(2 ^ 62)<=lo) (f:lo<2 ^ 62) (j : -(2 ^ 62)<=hi) (k:hi<2 ^ 62)
  (q:R (Yi lo (hi - lo).toNat) H):wpAny (model X.prog X.w) X.A (pyIter (.ref s.heap.objs.size)) (PIE X a8 σ tg R) E { s with heap:=s.heap.push { cls:=.type "range",data:=.fields #[.int lo t,.int hi u,.int 1 v] },toks:=a }:=by
 refine wpAny_pyIter_range (IsRange.new ..) (small_one h f j k) ?_
 have c:Inv X a8 σ H { s with heap:=s.heap.push { cls:=.type "range",data:=.fields #[.int lo t,.int hi u,.int 1 v] },toks:=a }:=I.kept λb o e=>Heap.get?_push_of_some _ e
 refine⟨(s.heap.push { cls:=.type "range",data:=.fields #[.int lo t,.int hi u,.int 1 v] }).objs.size,[(s.heap.push { cls:=.type "range",data:=.fields #[.int lo t,.int hi u,.int 1 v] }).objs.size],_,_,H,rfl,
  c.kept (t':=a) λb o e=>Heap.get?_push_of_some _ e,Qx _ lo (hi - lo).toNat,?_,λb g=>?_,q⟩
 ·have i:lo+((0:Nat):Int) * 1=lo:=by simp
  have d:(((hi - lo).toNat:Nat):Int) - ((0:Nat):Int)=Builtin.Range.rangeSize lo hi 1:=by rw[rangeSize_one];split <;> omega
  show IsRangeIter _ _ (lo+((0:Nat):Int) * 1) ((((hi - lo).toNat:Nat):Int) - ((0:Nat):Int)) 1
  rw[i,d]
  exact Heap.get?_push_size _ rfl
 ·have e:b=(s.heap.push { cls:=.type "range",data:=.fields #[.int lo t,.int hi u,.int 1 v] }).objs.size:=by simpa using g
  subst e
  exact c.MK (ah _) (c.hok.fresh (ah _))
inductive XC (R:It->Hp->Prop) (vs:List V) (H1:Hp):Prop
 | mk (j:Int):vs=[.int j]->-(2 ^ 62)<=j->j<2 ^ 62->R (Yi 0 j.toNat) H1->XC R vs H1
def pY (ta:TA):TI:=λσ H R=>ta σ H λvs H1=>XC R vs H1
inductive X6 (R:It->Hp->Prop) (vs:List V) (H1:Hp):Prop
 | mk (i j:Int):vs=[.int i,.int j]->(-(2 ^ 62)<=i/\i<2 ^ 62 /\ -(2 ^ 62)<=j/\j<2 ^ 62)->R (Yi i (j - i).toNat) H1->X6 R vs H1
def jl (ta:TA):TI:=λσ H R=>ta σ H λvs H1=>X6 R vs H1
theorem Dv {a:Expr} {c:TA} {p:Pos} (k:Gl X "range") (n:X.mg "range" = none) (d:PA X [a] c) (g:starEach [a] X.env=[(false,eval a X.env)]:=by rfl):PI X tg (.Call (.Name "range" p) [a] [] pos) (pY c):=by
 intro f s σ H R I h
 refine Call_ (Hv I k n boot_range (PyProof.Rows.callWith_type1 (CJ (d pos f s σ H _ I h) λw u ⟨v,x,l,m,b⟩=>?_) g rfl))
 obtain⟨j,e,b,i,q⟩:=b
 subst e
 cases m with
 | cons r o =>
  cases o
  obtain⟨t,rfl⟩:=r
  exact call_range_1 (O_ l (by omega) (by omega) b i (by simpa using q))
theorem Uu {a b:Expr} {f:TA} {p:Pos} (w:Gl X "range") (z:X.mg "range" = none) (l:PA X [a,b] f) (o:starEach [a,b] X.env=[(false,eval a X.env),(false,eval b X.env)]:=by rfl) (g:starEach [b] X.env=[(false,eval b X.env)]:=by rfl) :
  PI X tg (.Call (.Name "range" p) [a,b] [] pos) (jl f):=by
 intro n s σ H R I h
 refine Call_ (Hv I w z boot_range (PyProof.Rows.callWith_type1 (CJ (l pos n s σ H _ I h) λD A ⟨B,E,x,y,c⟩=>?_) (by rw[o,g]) (by rw[g];rfl)))
 obtain⟨i,j,e,⟨c,v,m,k⟩,q⟩:=c
 subst e
 cases y with
 | cons r d =>
  cases d with
  | cons u d =>
   cases d
   obtain⟨t,rfl⟩:=r
   obtain⟨C,rfl⟩:=u
   exact call_range_2 (O_ x c v m k q)
def vM (wi:TI) (g:TG) (tb:TS):TS:=λD σ H=>wi σ H λJ H1=>∃ W:Nat->Nat->St->Hp->Prop,(∃ m,W 0 m σ H1)/\∀ i m σ H,W i m σ H ->
 (J.stop i H/\D.nx σ H) \/ (J.go i H/\∃ N:St->Hp->Prop,(∀ σ' H',N σ' H'->∃ m',m'<m/\W (i+1) m' σ' H')/\∀ x H',J.yld i H x H'->g x σ H' λσ2 H2=>tb { D with nx:=N,ct:=N,bk:=D.nx } σ2 H2)
def J5 (fp:List Addr) (h:Heap):List (Addr × Obj):=fp.filterMap λb=>(h.get? b).map λo=>(b,o)
theorem Er {o:Obj} (a:b∈fp) (e:h.get? b=some o):(b,o)∈J5 fp h:=List.mem_filterMap.mpr ⟨b,a,by rw[e];rfl⟩
theorem Ux {p:Addr × Obj} (d:p∈J5 fp h):p.1∈fp/\h.get? p.1=some p.2:=by
 obtain⟨b,c,e⟩:=List.mem_filterMap.mp d
 cases q:h.get? b with
 | none=>rw[q] at e;cases e
 | some o =>
  rw[q] at e
  have a:(b,o)=p:=Option.some.inj e
  subst a
  exact⟨c,q⟩
theorem Inv.pinned (I:Inv X a8 σ H s) (j:∀ b∈fp,G6 X a8 H b) (f:∀ b∈fp,∃ o,s.heap.get? b=some o/\∀ v,o.data ≠ .cell v):Inv X (a8++J5 fp s.heap) σ H s :=
 I.TJ λp h=>(bX.mp h).elim (λz=>I.pin p (br _ z)) λz=>by
  obtain⟨c,e⟩:=Ux z
  obtain⟨k,g,i,_⟩:=j p.1 c
  obtain⟨o,a,d⟩:=f p.1 c
  rw[e] at a;cases a
  exact⟨e,k,g,i,d⟩
theorem Inv.H_ {pl:List (Addr × Obj)} (I:Inv X (a8++pl) σ H s):Inv X a8 σ H s:=I.TJ λp a=>I.pin p (br _ (dn _ a))
theorem Eh {q:List Stmt} {R:TI} {g:TG} (B:PassesOwn (model X.prog X.w) X.A X.env X.xe) (U:X.calm=true) (hi:PI X tg iter R) (hg:PG X tg g) (k:Nh X q tb)
  (hs:∀ x,foldedSetIterable iter X.env x=pure x:=by intro _;rfl):PS X (.For tg iter q [] pos) (vM R g tb):=by
 intro w s σ H D I h
 refine wpAny_For (CJ (hi w s σ H _ I h) λv s1 h1=>CJ h1 λze s2 h2=>?_) hs
 obtain⟨it,A,V,J,H2,e,I2,T,qh,f2,W,⟨m0,w0⟩,ow⟩:=h2
 subst e
 have j:∀ {p:Hp},(∀ b∈A,p b=none)->∀ b∈A,G6 X w p b:=λhn b k=>⟨hn b k,(f2 b k).2⟩
 refine codeAny_forLoop_any (λn s'=>∃ i z p,Inv X w z p s'/\V i s'.heap/\(∀ b∈A,p b=none)/\W i n z p) ?_ m0 ⟨0,σ,H2,I2,qh,λb k=>(f2 b k).1,w0⟩
 rintro n s3 ⟨i,y,F,Q,E,Z,w3⟩
 rcases ow i n y F w3 with⟨stop,qn⟩ | ⟨go,N,hN,step⟩
 ·refine wpAny_passesOwn B (CJ (T.done X rfl rfl rfl U i w s3 y F X.xe Q (j Z) E stop) λr s4 ⟨L,I4⟩=>?_)
  subst L
  exact wpAny_execs_nil ⟨y,F,I4,qn⟩
 ·refine wpAny_passesOwn B (CJ (T.item X rfl rfl rfl U i w s3 y F X.xe Q (j Z) E go) λr s4 ⟨u,L,h4⟩=>?_)
  subst L
  refine wpAny_passesOwn B (CJ h4 λ_ Y P=>?_)
  obtain⟨x,S,I5,r5,y5,O,G⟩:=P
  have M:=I5.pinned (j G) (T.obj _ _ O)
  refine wpAny_passesOwn B (CJ (hg _ Y y S x u _ M r5 (step x S y5)) λ_ s6 P=>?_)
  obtain⟨σ6,H6,I6,q6⟩:=P
  refine wpAny_passesOwn B (CJ (k _ s6 σ6 H6 _ I6 q6) λf K t=>?_)
  have again:∀ {c:St} {a:Hp},Inv X (w++J5 A Y.heap) c a K->N c a->∃ m,m<n/\∃ i z p,Inv X w z p K/\V i K.heap/\(∀ b∈A,p b=none)/\W i m z p:=λ{c a} l C=>by
   obtain⟨m',hm,w7⟩:=hN c a C
   refine⟨m',hm,i+1,c,a,l.H_,T.keep _ _ _ O λb k o e=>(l.pin (b,o) (br _ (br _ (Er k e)))).1,λb k=>?_,w7⟩
   obtain⟨o,e,d⟩:=T.obj _ _ O b k
   exact (l.pin (b,o) (br _ (br _ (Er k e)))).2.1
  cases f with
  | next=>obtain⟨c,a,l,C⟩:=t;exact again l C
  | cont=>obtain⟨c,a,l,C⟩:=t;exact again l C
  | brk=>obtain⟨c,a,l,t⟩:=t;exact⟨c,a,l.H_,t⟩
  | ret v=>obtain⟨x7,c,a,l,r7,t⟩:=t;exact⟨x7,c,a,l.H_,r7,t⟩
variable {g:TG}
theorem Jk {K:W.Frag} {D:Ends} (b:Nat->St->Hp->Prop) (d:b 0 σ H) (l:∀ i σ H,i<=xs.length->b i σ H->Dc K H a xs)
  (f:∀ i x σ H,xs[i]? = some x->b i σ H->g x σ H λσ2 H2=>tb { D with nx:=b (i+1),ct:=b (i+1),bk:=D.nx } σ2 H2) (h:∀ σ H,b xs.length σ H->D.nx σ H) :
  ∃ W:Nat->Nat->St->Hp->Prop,(∃ m,W 0 m σ H)/\∀ i m σ H,W i m σ H ->
   ((cC K a).stop i H/\D.nx σ H) \/ ((cC K a).go i H/\∃ N:St->Hp->Prop,(∀ σ' H',N σ' H'->∃ m',m'<m/\W (i+1) m' σ' H')/\∀ x H',(cC K a).yld i H x H'->g x σ H' λσ2 H2=>tb { D with nx:=N,ct:=N,bk:=D.nx } σ2 H2):=by
 refine⟨λi m σ H=>m=xs.length - i/\i<=xs.length/\b i σ H,⟨xs.length,by simp,Nat.zero_le _,d⟩,?_⟩
 rintro i m σ H ⟨rfl,j,p⟩
 have q:=l i σ H j p
 by_cases c:i<xs.length
 ·refine .inr ⟨⟨xs,xs[i],q,by simp[c]⟩,b (i+1),λσ' H' k=>⟨xs.length - (i+1),by omega,rfl,c,k⟩,λx H' y=>?_⟩
  obtain⟨e,y⟩:=y
  subst e
  exact f i x σ _ (y xs q) p
 ·have e:i=xs.length:=by omega
  subst e
  exact .inl ⟨⟨xs,q,ah _⟩,h σ H p⟩
theorem Fg {lo:Int} {D:Ends} (a:Nat->St->Hp->Prop) (c:a 0 σ H)
  (d:∀ i σ H,i<n->a i σ H->g (.int (lo+i)) σ H λσ2 H2=>tb { D with nx:=a (i+1),ct:=a (i+1),bk:=D.nx } σ2 H2) (f:∀ σ H,a n σ H->D.nx σ H) :
  ∃ W:Nat->Nat->St->Hp->Prop,(∃ m,W 0 m σ H)/\∀ i m σ H,W i m σ H ->
   ((Yi lo n).stop i H/\D.nx σ H) \/ ((Yi lo n).go i H/\∃ N:St->Hp->Prop,(∀ σ' H',N σ' H'->∃ m',m'<m/\W (i+1) m' σ' H')/\∀ x H',(Yi lo n).yld i H x H'->g x σ H' λσ2 H2=>tb { D with nx:=N,ct:=N,bk:=D.nx } σ2 H2):=by
 refine⟨λi m σ H=>m=n - i/\i<=n/\a i σ H,⟨n,by simp,Nat.zero_le _,c⟩,?_⟩
 rintro i m σ H ⟨rfl,j,p⟩
 by_cases b:i<n
 ·refine .inr ⟨b,a (i+1),λσ' H' h=>⟨n - (i+1),by omega,rfl,b,h⟩,λx H' y=>?_⟩
  obtain⟨e,y⟩:=y
  subst e y
  exact d i σ _ b p
 ·have e:i=n:=by omega
  subst e
  exact .inl ⟨ah _,f σ H p⟩
theorem V6 {c:TT} {D:Ends} (a:St->Hp->Prop) (μ:St->Hp->Nat) (d:a σ H)
  (e:∀ σ H,a σ H->c σ H λb H1=>if b=true then tb { D with nx:=λσ' H'=>a σ' H'/\μ σ' H'<μ σ H,ct:=λσ' H'=>a σ' H'/\μ σ' H'<μ σ H,bk:=D.nx } σ H1 else D.nx σ H1)
  (mono:∀ σ H Q Q',(∀ b H1,Q b H1->Q' b H1)->c σ H Q->c σ H Q'):Nr c tb D σ H:=by
 refine⟨λm σ H=>m=μ σ H/\a σ H,⟨_,rfl,d⟩,?_⟩
 rintro m σ H ⟨rfl,p⟩
 refine mono σ H _ _ (λb H1 q=>?_) (e σ H p)
 cases b with
 | true=>exact⟨_,λσ' H' ⟨f,l⟩=>⟨_,l,rfl,f⟩,q⟩
 | false=>exact q
abbrev R2:=V->V->Hp->VK->Prop
def G4 (X:Cx) (f:Value->Value->Sem Value) (r:R2):Prop :=
 ∀ (a8:List (Addr × Obj)) (s:Shared) (σ:St) (H:Hp) (x y:V) (v u:Value) (Q:VK),Inv X a8 σ H s->RelV x v->RelV y u->r x y H Q ->
  wpAny (model X.prog X.w) X.A (f v u) (EP X a8 σ Q) X.xe s
def sU (X:Cx) (f:Value->Sem Value) (r:V->Hp->VK->Prop):Prop :=
 ∀ (a8:List (Addr × Obj)) (s:Shared) (σ:St) (H:Hp) (x:V) (v:Value) (Q:VK),Inv X a8 σ H s->RelV x v->r x H Q ->
  wpAny (model X.prog X.w) X.A (f v) (EP X a8 σ Q) X.xe s
def Fd (X:Cx) (f:Value) (r:List V->Hp->VK->Prop):Prop :=
 ∀ (a8:List (Addr × Obj)) (s:Shared) (σ:St) (H:Hp) (xs:List V) (us:List Value) (Q:VK),Inv X a8 σ H s->Vals xs us->r xs H Q ->
  wpAny (model X.prog X.w) X.A (call f us) (EP X a8 σ Q) X.xe s
def uO (X:Cx) (r:V->Hp->(Bool->Hp->Prop)->Prop):Prop :=
 ∀ (a8:List (Addr × Obj)) (s:Shared) (σ:St) (H:Hp) (x:V) (v:Value) (Q:Bool->Hp->Prop),Inv X a8 σ H s->RelV x v->r x H Q ->
  wpAny (model X.prog X.w) X.A (truthy v) (TP X a8 σ Q) X.xe s
def Z4 (r:R2) (ta tb:TE):TE:=λσ H Q=>ta σ H λx H1=>tb σ H1 λy H2=>r x y H2 Q
def tUn (r:V->Hp->VK->Prop) (ta:TE):TE:=λσ H Q=>ta σ H λx H1=>r x H1 Q
inductive rI (C:Int->Int->Prop) (g:Int->Int->V) (x:V) (y:V) (H:Hp) (Q:VK):Prop
 | mk (i j:_):x=.int i->y=.int j->C i j->Q (g i j) H->rI C g x y H Q
inductive W_ (g:Int->Int->V) (x:V) (y:V) (H:Hp) (Q:VK):Prop
 | mk (i j:_):x=.int i->y=.int j->Q (g i j) H->W_ g x y H Q
inductive rU (g:Int->V) (x:V) (H:Hp) (Q:VK):Prop
 | mk (i:_):x=.int i->Q (g i) H->rU g x H Q
section
variable {a b c:Expr} {tb tc:TE}
theorem d_ (e:PE X a ta) (g:PE X b tb) {R:V->V->Hp->Prop} (I:Inv X a8 σ H s)
  (h:ta σ H λx H1=>tb σ H1 λy H2=>R x y H2) {f:Value->Value->Sem Value}
  (n:∀ v u s2 x y H2,Inv X a8 σ H2 s2->RelV x v->RelV y u->R x y H2->wpAny (model X.prog X.w) X.A (f v u) Q X.xe s2) :
  wpAny (model X.prog X.w) X.A (eval a X.env) (λv s₁=>wpAny (model X.prog X.w) X.A (eval b X.env) (λu s₂=>wpAny (model X.prog X.w) X.A (f v u) Q X.xe s₂) X.xe s₁) X.xe s:=by
 refine CJ (e a8 s σ H _ I h) λv d c=>?_
 obtain⟨x,H1,l,m,k⟩:=c
 refine CJ (g a8 d σ H1 _ l k) λu s2 c=>?_
 obtain⟨y,H2,j,o,i⟩:=c
 exact n v u s2 x y H2 j m o i
theorem BZ {c:Operator} {r:R2} (i:G4 X (binaryOp c) r) (d:PE X a ta) (e:PE X b tb):PE X (.BinOp a c b pos) (Z4 r ta tb):=by
 intro g s σ H Q I h
 exact wpAny_BinOp (d_ d e I h λv u f x y k j m l q=>i g f σ k x y v u Q j m l q)
theorem KR {b:UnaryOp} {r:V->Hp->VK->Prop} (d:sU X (unaryOp b) r) (j:PE X a ta):PE X (.UnaryOp b a pos) (tUn r ta):=by
 intro c s σ H Q I h
 exact UnaryOp_ (CJ (j c s σ H _ I h) λv e ⟨x,k,g,i,f⟩=>d c e σ k x v Q g i f)
theorem dG {f:Value->Value->Sem Value} {C:Int->Int->Prop} {g:Int->Int->Int}
  (rule:∀ (i j:Int) (t u:Tok) (s:Shared) (Q:vSP) (E:vSP),C i j->Q (.int (g i j) s.toks) { s with toks:=s.toks+1 }->wpAny (model X.prog X.w) X.A (f (.int i t) (.int j u)) Q E s) :
  G4 X f (rI C λi j=>.int (g i j)):=by
 intro e s σ H x y v u Q I d c h
 obtain⟨i,j,rfl,rfl,b,q⟩:=h
 obtain⟨t,rfl⟩:=d
 obtain⟨a,rfl⟩:=c
 exact rule i j t a s _ _ b ⟨.int (g i j),H,I.tok _,⟨_,rfl⟩,q⟩
theorem Zj {f:Value->Value->Sem Value} {g:Int->Int->Int}
  (rule:∀ (i j:Int) (t u:Tok) (s:Shared) (Q:vSP) (E:vSP),Q (.int (g i j) s.toks) { s with toks:=s.toks+1 }->wpAny (model X.prog X.w) X.A (f (.int i t) (.int j u)) Q E s) :
  G4 X f (W_ λi j=>.int (g i j)):=by
 intro d s σ H x y v u Q I c b h
 obtain⟨i,j,rfl,rfl,q⟩:=h
 obtain⟨t,rfl⟩:=c
 obtain⟨a,rfl⟩:=b
 exact rule i j t a s _ _ ⟨.int (g i j),H,I.tok _,⟨_,rfl⟩,q⟩
theorem Zy {f:Value->Value->Sem Value} {g:Int->Int->Bool}
  (rule:∀ (i j:Int) (t u:Tok) (s:Shared) (Q:vSP) (E:vSP),Q (.bool (g i j)) s->wpAny (model X.prog X.w) X.A (f (.int i t) (.int j u)) Q E s) :
  G4 X f (W_ λi j=>.bl (g i j)):=by
 intro d s σ H x y v u Q I c b h
 obtain⟨i,j,rfl,rfl,q⟩:=h
 obtain⟨t,rfl⟩:=c
 obtain⟨a,rfl⟩:=b
 exact rule i j t a s _ _ ⟨.bl (g i j),H,I,rfl,q⟩
def uE (i j:Int):Prop:=0<j/\j<1073741824
def oR (i j:Int):Prop:=0<=j/\j<=1000000/\i.natAbs<2 ^ 64
def cQ (i j:Int):Prop:=(-(2 ^ 64)<i/\i<2 ^ 64) \/ (-(2 ^ 64)<j/\j<2 ^ 64)
theorem cQ.ok {i j:Int} (h:cQ i j):IntMulOk i j:=by
 rcases h with⟨b,a⟩ | ⟨b,a⟩
 ·exact .of_left (intBits_le_64 b a)
 ·exact .of_right (intBits_le_64 b a)
theorem two_pow_nn (k:Nat):(0:Int)<=2 ^ k:=by
 rw[two_pow_cast]
 exact fE _
theorem CW:G4 X (binaryOp .Add) (W_ λi j=>.int (i+j)):=Zj λ_ _ _ _ _ _ _ q=>add_int q
theorem Fw:G4 X (binaryOp .Sub) (W_ λi j=>.int (i - j)):=Zj λ_ _ _ _ _ _ _ q=>sub_int q
theorem Hl:G4 X (binaryOp .Mult) (rI cQ λi j=>.int (i * j)):=dG λ_ _ _ _ _ _ _ a q=>mul_int q a.ok
theorem N7:G4 X (binaryOp .FloorDiv) (rI uE λi j=>.int (i / j)):=dG λi j _ _ _ _ _ a q=>by
 have c:(0:Int)<j:=a.1
 have b:j<1073741824:=a.2
 exact floordiv_int (by omega) (by rw[Int.fdiv_eq_ediv_of_nonneg i (by omega)];exact q) (.inl (PyProof.noPylong_small (by omega)))
theorem Fj:G4 X (binaryOp .Mod) (rI (λ_ j=>0<j) λi j=>.int (i % j)):=dG λi j _ _ _ _ _ a q=>by
 have b:(0:Int)<j:=a
 exact mod_int' (by omega) (by rw[Int.fmod_eq_emod_of_nonneg i (by omega)];exact q)
theorem RJ:G4 X (binaryOp .Pow) (rI oR λi j=>.int (i ^ j.toNat)):=dG λ_ _ _ _ _ _ _ a q=>pow_int_small a.1 a.2.1 a.2.2 q
theorem Wj:G4 X (binaryOp .LShift) (rI oR λi j=>.int (i * 2 ^ j.toNat)):=dG λ_ _ _ _ _ _ _ a q=>lshift_int_small a.1 a.2.1 a.2.2 q
theorem Vx:G4 X (binaryOp .RShift) (rI (λ_ j=>0<=j) λi j=>.int (i / 2 ^ j.toNat)):=dG λi j _ _ _ _ _ a q =>
 rshift_int a (by rw[Int.fdiv_eq_ediv_of_nonneg i (two_pow_nn _)];exact q)
theorem JG:G4 X (binaryOp .BitAnd) (W_ λi j=>.int (Builtin.bitAnd i j)):=Zj λ_ _ _ _ _ _ _ q=>and_int q
theorem Mi:G4 X (binaryOp .BitOr) (W_ λi j=>.int (Builtin.bitOr i j)):=Zj λ_ _ _ _ _ _ _ q=>or_int q
theorem zX {f:Value->Sem Value} {g:Int->Int}
  (rule:∀ (i:Int) (t:Tok) (s:Shared) (Q:vSP) (E:vSP),Q (.int (g i) s.toks) { s with toks:=s.toks+1 }->wpAny (model X.prog X.w) X.A (f (.int i t)) Q E s) :
  sU X f (rU λi=>.int (g i)):=by
 intro b s σ H x v Q I a h
 obtain⟨i,rfl,q⟩:=h
 obtain⟨t,rfl⟩:=a
 exact rule i t s _ _ ⟨.int (g i),H,I.tok _,⟨_,rfl⟩,q⟩
theorem Nk:sU X (unaryOp .USub) (rU λi=>.int (-i)):=zX λ_ _ _ _ _ q=>neg_int q
theorem OD:sU X (unaryOp .Invert) (rU λi=>.int (Builtin.bitNot i)):=zX λ_ _ _ _ _ q=>invert_int q
end
def dN:V->V->Bool
 | .non,.non=>true | .non,.int _=>true | .int _,.non=>true | .non,.bl _=>true | .bl _,.non=>true | .non,.str _=>true | .str _,.non=>true
 | .int _,.int _=>true | .bl _,.bl _=>true | .str _,.str _=>true | .byt _,.byt _=>true
 | .int _,.str _=>true | .str _,.int _=>true | .bl _,.str _=>true | .str _,.bl _=>true
 | _,_=>false
def zZ:R2:=λx y H Q=>dN x y=true/\Q (.bl (decide (x=y))) H
def rNe:R2:=λx y H Q=>dN x y=true/\Q (.bl (!decide (x=y))) H
theorem R5 {i j:Int}:decide (V.int i=V.int j)=(i == j):=by
 rw[eI]
 simp
theorem YJ {i j:Bool}:decide (V.bl i=V.bl j)=(i == j):=by
 rw[eI]
 simp
theorem Ii {i j:Str}:decide (V.str i=V.str j)=(i == j):=by
 rw[eI]
 simp
theorem Su {i j:Array UInt8}:decide (V.byt i=V.byt j)=(i.toList == j.toList):=by
 rw[eI]
 cases i
 cases j
 simp
section
variable {a b c:Expr} {tb tc:TE}
theorem Bu {Q:VK} {k a:Bool} (I:Inv X a8 σ H s) (q:Q (.bl k) H) (e:k=a):EP X a8 σ Q (.bool a) s:=by
 subst e
 exact⟨.bl k,H,I,rfl,q⟩
theorem Cj:G4 X (compareOp .Eq) zZ:=by
 intro e s σ H x y v u Q I d a h
 obtain⟨c,q⟩:=h
 cases x with
 | non =>
  cases d
  cases y with
  | non=>cases a;exact PySem.EqNone.eq_none_none (Bu I q (by simp))
  | bl j=>cases a;exact PySem.EqNone.eq_none_bool (Bu I q (by simp))
  | int j=>obtain⟨b,rfl⟩:=a;exact PySem.EqNone.eq_none_int (Bu I q (by simp))
  | str j=>obtain⟨b,rfl⟩:=a;exact PySem.EqNone.eq_none_str (Bu I q (by simp))
  | _=>exact absurd (show false=true from c) Bool.false_ne_true
 | bl i =>
  cases d
  cases y with
  | non=>cases a;exact PySem.EqNone.eq_bool_none (Bu I q (by simp))
  | bl j=>cases a;exact eq_bool (Bu I q YJ)
  | str j=>obtain⟨b,rfl⟩:=a;exact PySem.EqMixed.eq_bool_str (Bu I q (by simp))
  | _=>exact absurd (show false=true from c) Bool.false_ne_true
 | int i =>
  obtain⟨t,rfl⟩:=d
  cases y with
  | non=>cases a;exact PySem.EqNone.eq_int_none (Bu I q (by simp))
  | int j=>obtain⟨b,rfl⟩:=a;exact eq_int (Bu I q R5)
  | str j=>obtain⟨b,rfl⟩:=a;exact PySem.EqMixed.eq_int_str (Bu I q (by simp))
  | _=>exact absurd (show false=true from c) Bool.false_ne_true
 | str i =>
  obtain⟨t,rfl⟩:=d
  cases y with
  | non=>cases a;exact PySem.EqNone.eq_str_none (Bu I q (by simp))
  | bl j=>cases a;exact PySem.EqMixed.eq_str_bool (Bu I q (by simp))
  | int j=>obtain⟨b,rfl⟩:=a;exact PySem.EqMixed.eq_str_int (Bu I q (by simp))
  | str j=>obtain⟨b,rfl⟩:=a;exact eq_str (Bu I q Ii)
  | _=>exact absurd (show false=true from c) Bool.false_ne_true
 | byt i =>
  obtain⟨t,rfl⟩:=d
  cases y with
  | byt j=>obtain⟨b,rfl⟩:=a;exact W.eq_bytes (Bu I q Su)
  | _=>exact absurd (show false=true from c) Bool.false_ne_true
 | _=>cases y <;> exact absurd (show false=true from c) Bool.false_ne_true
theorem Hz:G4 X (compareOp .NotEq) rNe:=by
 intro e s σ H x y v u Q I d a h
 obtain⟨c,q⟩:=h
 cases x with
 | non =>
  cases d
  cases y with
  | non=>cases a;exact PySem.EqNone.ne_none_none (Bu I q (by simp))
  | bl j=>cases a;exact PySem.EqNone.ne_none_bool (Bu I q (by simp))
  | int j=>obtain⟨b,rfl⟩:=a;exact PySem.EqNone.ne_none_int (Bu I q (by simp))
  | str j=>obtain⟨b,rfl⟩:=a;exact PySem.EqNone.ne_none_str (Bu I q (by simp))
  | _=>exact absurd (show false=true from c) Bool.false_ne_true
 | bl i =>
  cases d
  cases y with
  | non=>cases a;exact PySem.EqNone.ne_bool_none (Bu I q (by simp))
  | bl j=>cases a;exact ne_bool (Bu I q (congrArg not YJ))
  | str j=>obtain⟨b,rfl⟩:=a;exact PySem.EqMixed.ne_bool_str (Bu I q (by simp))
  | _=>exact absurd (show false=true from c) Bool.false_ne_true
 | int i =>
  obtain⟨t,rfl⟩:=d
  cases y with
  | non=>cases a;exact PySem.EqNone.ne_int_none (Bu I q (by simp))
  | int j=>obtain⟨b,rfl⟩:=a;exact ne_int (Bu I q (congrArg not R5))
  | str j=>obtain⟨b,rfl⟩:=a;exact PySem.EqMixed.ne_int_str (Bu I q (by simp))
  | _=>exact absurd (show false=true from c) Bool.false_ne_true
 | str i =>
  obtain⟨t,rfl⟩:=d
  cases y with
  | non=>cases a;exact PySem.EqNone.ne_str_none (Bu I q (by simp))
  | bl j=>cases a;exact PySem.EqMixed.ne_str_bool (Bu I q (by simp))
  | int j=>obtain⟨b,rfl⟩:=a;exact PySem.EqMixed.ne_str_int (Bu I q (by simp))
  | str j=>obtain⟨b,rfl⟩:=a;exact ne_str (Bu I q (congrArg not Ii))
  | _=>exact absurd (show false=true from c) Bool.false_ne_true
 | byt i =>
  obtain⟨t,rfl⟩:=d
  cases y with
  | byt j=>obtain⟨b,rfl⟩:=a;exact W.ne_bytes (Bu I q (congrArg not Su))
  | _=>exact absurd (show false=true from c) Bool.false_ne_true
 | _=>cases y <;> exact absurd (show false=true from c) Bool.false_ne_true
theorem HF:G4 X (compareOp .Lt) (W_ λi j=>.bl (decide (i<j))):=Zy λ_ _ _ _ _ _ _ q=>lt_int q
theorem E_:G4 X (compareOp .LtE) (W_ λi j=>.bl (decide (i<=j))):=Zy λ_ _ _ _ _ _ _ q=>le_int q
theorem O3:G4 X (compareOp .Gt) (W_ λi j=>.bl (decide (j<i))):=Zy λ_ _ _ _ _ _ _ q=>gt_int q
theorem bG:G4 X (compareOp .GtE) (W_ λi j=>.bl (decide (j<=i))):=Zy λ_ _ _ _ _ _ _ q=>ge_int q
theorem Mx:G4 X (compareOp .In) (λx y H Q=>∃ i j,x=.str i/\y=.str j/\Q (.bl (!(Builtin.Str.occurrences j i 0 j.length 1).isEmpty)) H):=by
 intro d s σ H x y v u Q I b a h
 obtain⟨i,j,rfl,rfl,q⟩:=h
 obtain⟨t,rfl⟩:=b
 obtain⟨c,rfl⟩:=a
 exact in_str (Bu I q rfl)
theorem Qt:G4 X (compareOp .Is) (λx y H Q=>y=.non/\Q (.bl (decide (x=.non))) H):=by
 intro c s σ H x y v u Q I a b h
 obtain⟨rfl,q⟩:=h
 cases b
 refine is_none_gen (Bu I q ?_)
 cases x <;> first
  | (cases a;rfl)
  | (obtain⟨t,rfl⟩:=a;rfl)
theorem Y0:G4 X (compareOp .IsNot) (λx y H Q=>y=.non/\Q (.bl (!decide (x=.non))) H):=by
 intro c s σ H x y v u Q I a b h
 obtain⟨rfl,q⟩:=h
 cases b
 refine isnot_none_gen (Bu I q ?_)
 cases x <;> first
  | (cases a;rfl)
  | (obtain⟨t,rfl⟩:=a;rfl)
theorem BX (b:Expr) {a:CmpOp} (h:a ≠ .In:=by decide) (e:a ≠ .NotIn:=by decide):behindInMarks a b=false:=by
 have c:(a == CmpOp.In)=false:=by cases a <;> first | rfl | exact absurd rfl h
 have d:(a == CmpOp.NotIn)=false:=by cases a <;> first | rfl | exact absurd rfl e
 cases b <;> simp[behindInMarks,c,d]
theorem DW {c:CmpOp} {r:R2} (i:G4 X (compareOp c) r) (d:PE X a ta) (e:PE X b tb) (m:behindInMarks c b=false):PE X (.Compare a [c] [b] pos) (Z4 r ta tb):=by
 intro g s σ H Q I h
 exact wpAny_Compare1 (d_ d e I h λv u f x y k j n l q=>i g f σ k x y v u Q j n l q) m
inductive WL (Q:Bool->Hp->Prop) (x:V) (H':Hp):Prop
 | mk (k:_):x=.bl k->Q k H'->WL Q x H'
def YX (t:TE):TT:=λσ H Q=>t σ H λx H'=>WL Q x H'
theorem BR {f:CmpOp} {r:R2} (o:G4 X (compareOp f) r) (i:PE X a ta) (j:PE X b tb) (E:behindInMarks f b=false):PT X (.Compare a [f] [b] pos) (YX (Z4 r ta tb)):=by
 intro d s σ H Q I h
 refine wpAny_isTrue_Compare1 (CJ (i d s σ H _ I h) λv g ⟨x,G,A,B,p⟩=>CJ (j d g σ G _ A p) λu l ⟨y,w,q,F,n⟩ =>
  CJ (o d l σ w x y v u _ q B F n) λc J ⟨z,C,t,D,k,e,m⟩=>?_) E
 subst e
 cases D
 exact wpAny_truthy_bool ⟨C,t,m⟩
inductive R8 (r':R2) (tc:TE) (σ:St) (Q:VK) (y:V) (z:V) (H3:Hp):Prop
 | mk (k:_):z=.bl k->(if k=true then tc σ H3 λw' H4=>r' y w' H4 Q else Q (.bl false) H3)->R8 r' tc σ Q y z H3
def Xw (r r':R2) (ta tb tc:TE):TE:=λσ H Q=>ta σ H λx H1=>tb σ H1 λy H2=>r x y H2 λz H3=>R8 r' tc σ Q y z H3
theorem Gk {i g:CmpOp} {r j:R2} (O:G4 X (compareOp i) r) (t:G4 X (compareOp g) j) (J:PE X a ta) (L:PE X b tb) (w:PE X c tc)
  (D:lastMarks [i,g] [b,c]=false:=by with_unfolding_all rfl):PE X (.Compare a [i,g] [b,c] pos) (Xw r j ta tb tc):=by
 intro f s σ H Q I h
 refine Compare_chain (CJ (J f s σ H _ I h) λv F ⟨x,W,S,T,A⟩=>chain_link (CJ (L f F σ W _ S A) λu M ⟨y,C,B,m,N⟩ =>
  CJ (O f M σ C x y v u _ B T m N) λd R ⟨z,n,l,U,k,e,o⟩=>?_)) D
 subst e
 cases U
 refine wpAny_truthy_bool ?_
 cases k with
 | false=>exact ite_ff ⟨.bl false,n,l,rfl,o⟩
 | true=>exact ite_tt (chain_last (CJ (w f R σ n _ l o) λV p ⟨K,P,q,E,G⟩=>t f p σ P y K u V Q q m E G))
theorem Hg {i g:CmpOp} {r j:R2} (T:G4 X (compareOp i) r) (w:G4 X (compareOp g) j) (M:PE X a ta) (P:PE X b tb) (A:PE X c tc)
  (F:lastMarks [i,g] [b,c]=false:=by with_unfolding_all rfl):PT X (.Compare a [i,g] [b,c] pos) (YX (Xw r j ta tb tc)):=by
 intro f s σ H Q I h
 refine isTrue_chain (CJ (M f s σ H _ I h) λv K ⟨x,H1,Z,r1,B⟩=>test_link (CJ (P f K σ H1 _ Z B) λu R ⟨y,D,C,m,S⟩ =>
  CJ (T f R σ D x y v u _ C r1 m S) λd Y ⟨z,n,l,r3,k,e,o⟩=>?_)) F
 subst e
 cases r3
 refine wpAny_truthy_bool ?_
 cases k with
 | false =>
  obtain⟨k',V,q'⟩:=o
  cases V
  exact ite_ff ⟨n,l,q'⟩
 | true =>
  refine ite_tt (test_last (CJ (A f Y σ n _ l o) λw' q ⟨O,U,t,G,L⟩=>CJ (w f q σ U y O u w' _ t m G L) λd' s5 J=>?_))
  obtain⟨z2,p,I5,W,k2,N,E⟩:=J
  subst N
  cases W
  exact wpAny_truthy_bool ⟨p,I5,E⟩
def qR (K:W.Frag) (x:V) (H:Hp) (k:Bool):Prop :=
 match x with
 | .non=>k=false
 | .bl b=>k=b
 | .int i=>k=(i != 0)
 | .str y=>y.length<=sizeLine/\k=((y.length:Int) != 0)
 | .byt y=>y.size<=sizeLine/\k=((y.size:Int) != 0)
 | .ref p=>(∃ xs,Dc K H p xs/\k = !xs.isEmpty) \/ (∃ xs,HW K H p xs/\k = !xs.isEmpty) \/ ∃ kvs,H p=some (.dK kvs)/\k = !kvs.isEmpty
 | _=>False
theorem RD {κ:Type} {kvs:List (κ × V)} {vs:List (κ × Value)} (r:KV kvs vs):(!vs.isEmpty) = !kvs.isEmpty:=by
 cases r <;> rfl
theorem K1 {its:List Value} (r:Vals xs its):(!its.toArray.isEmpty) = !xs.isEmpty:=by
 cases r <;> simp
theorem JK:(sizeLine:Nat)<2 ^ 63:=by rw[sizeLine_eq];decide
theorem cX:uO X (λx H Q=>∃ k,qR X.K x H k/\Q k H):=by
 intro A s σ H x v Q I g h
 obtain⟨k,e,q⟩:=h
 have C:=JK
 have B:sizeLine=16777216:=sizeLine_eq
 cases x with
 | non =>
  cases g
  have a:k=false:=e
  subst a
  exact truthy_none ⟨H,I,q⟩
 | bl b =>
  cases g
  have a:k=b:=e
  subst a
  exact wpAny_truthy_bool ⟨H,I,q⟩
 | int i =>
  obtain⟨t,rfl⟩:=g
  have a:k=(i != 0):=e
  subst a
  exact PySem.P.truthy_int ⟨H,I,q⟩
 | str y =>
  obtain⟨t,rfl⟩:=g
  obtain⟨w,a⟩:y.length<=sizeLine/\k=((y.length:Int) != 0):=e
  subst a
  exact PySem.P.truthy_str (by omega) ⟨H,I.tok _,q⟩
 | byt y =>
  obtain⟨t,rfl⟩:=g
  obtain⟨w,a⟩:y.size<=sizeLine/\k=((y.size:Int) != 0):=e
  subst a
  exact W.truthy_bytes (by omega) ⟨H,I.tok _,q⟩
 | ref p =>
  cases g
  have a:(∃ f,Dc X.K H p f/\k = !f.isEmpty) \/ (∃ f,HW X.K H p f/\k = !f.isEmpty) \/ ∃ c,H p=some (.dK c)/\k = !c.isEmpty:=e
  rcases a with⟨f,j,a⟩ | ⟨f,j,a⟩ | ⟨c,j,a⟩
  ·subst a
   obtain⟨n,r,o,u⟩:=I.list j
   have d:=r.length
   exact wpAny_truthy_list o.isList (by simp only[List.size_toArray];omega) ⟨H,I.tok _,by rw[K1 r];exact q⟩
  ·subst a
   obtain⟨n,r,o,u⟩:=I.tuple j
   have d:=r.length
   exact truthy_tuple o (by simp only[List.size_toArray];omega) ⟨H,I.tok _,by rw[K1 r];exact q⟩
  ·subst a
   obtain⟨u,z,l,r,m⟩:c.length<=sizeLine/\(p == sysModules)=false/\∃ l,KV c l/\s.heap.DictOf (Bw X.prog X.w) p l:=I.hok p _ j
   have d:c.length=l.length:=Paired.length r
   exact wpAny_truthy_dict z m (by omega) ⟨H,I.tok _,by rw[RD r];exact q⟩
 | _=>exact (show False from e).elim
theorem Ku (d:PE X a ta) (f:∀ mw,isTrue a X.env mw=(do let v <-mw;standAt a.pos;holding [v] (truthy v))) :
  PT X a (λσ H Q=>ta σ H λx H'=>∃ k,qR X.K x H' k/\Q k H'):=by
 intro b s σ H Q I h
 exact isTrue_plain (CJ (d b s σ H _ I h) λv c ⟨x,j,g,i,e⟩=>cX b c σ j x v Q g i e) (f _)
theorem vals1 {x:V} {us:List Value} (r:Vals [x] us):∃ u,us=[u]/\RelV x u:=by
 cases r with
 | cons b a=>cases a;exact⟨_,rfl,b⟩
theorem vals2 {x:V} {us:List Value} (r:Vals [x,y] us):∃ u w',us=[u,w']/\RelV x u/\RelV y w':=by
 cases r with
 | cons a c =>
  cases c with
  | cons b d=>cases d;exact⟨_,_,rfl,a,b⟩
theorem Mf (b:X.calm=true):Fd X (.builtin "max") (λxs H Q=>∃ i j,xs=[.int i,.int j]/\Q (.int (if j > i then j else i)) H):=by
 intro f s σ H xs g Q I r h
 obtain⟨i,j,rfl,q⟩:=h
 obtain⟨u,l,rfl,⟨t,rfl⟩,⟨e,rfl⟩⟩:=vals2 r
 refine max_two_ints (I.ok.hd b) λd c k=>⟨_,H,I.kept k,?_,q⟩
 by_cases a:j > i
 ·rw[if_pos a,if_pos a];exact⟨_,rfl⟩
 ·rw[if_neg a,if_neg a];exact⟨_,rfl⟩
theorem J4 (b:X.calm=true):Fd X (.builtin "min") (λxs H Q=>∃ i j,xs=[.int i,.int j]/\Q (.int (if j<i then j else i)) H):=by
 intro f s σ H xs g Q I r h
 obtain⟨i,j,rfl,q⟩:=h
 obtain⟨u,l,rfl,⟨t,rfl⟩,⟨e,rfl⟩⟩:=vals2 r
 refine min_two_ints (I.ok.hd b) λd c k=>⟨_,H,I.kept k,?_,q⟩
 by_cases a:j<i
 ·rw[if_pos a,if_pos a];exact⟨_,rfl⟩
 ·rw[if_neg a,if_neg a];exact⟨_,rfl⟩
theorem KD:Fd X (.type "int") (λxs H Q=>(∃ i,xs=[.int i]/\Q (.int i) H) \/ ∃ k,xs=[.bl k]/\Q (.int (if k then 1 else 0)) H):=by
 intro b s σ H xs c Q I r h
 rcases h with⟨i,rfl,q⟩ | ⟨k,rfl,q⟩
 ·obtain⟨u,rfl,t,rfl⟩:=vals1 r
  exact call_int_int ⟨.int i,H,I,⟨_,rfl⟩,q⟩
 ·obtain⟨u,rfl,a⟩:=vals1 r
  cases a
  exact call_int_bool ⟨.int (if k then 1 else 0),H,I.tok _,⟨_,rfl⟩,q⟩
end
structure RC (h:Heap) (x dx C:Addr) (mA:Str->Option Value):Prop where
 obj:h.get? x=some (W.instObj C dx)
 ns:h.Ns1 dx mA
 ne:dx ≠ x
theorem VM {c:Str->Option Value} (n:h.Ns1 dx c):∃ od,h.get? dx=some od/\∀ name,W.lookIn name od=some (c name):=by
 obtain⟨o,d,m,k,f,l,_,g⟩:=n
 refine⟨o,k,λname=>?_⟩
 have e:=g name
 unfold nsFind findBy at e
 rw[<-Array.find?_toList] at e
 unfold W.lookIn
 rw[f]
 dsimp only
 split
 ·rename_i y q
  rw[q] at e
  exact congrArg some e
 ·rename_i q
  rw[q] at e
  have a:d.toList.any (·.refKey)=false:=by
   rw[List.any_eq_false]
   intro y i
   obtain⟨z,t,b⟩:=l y (Array.mem_toList_iff.mp i)
   simp[DictEntry.refKey,b]
  have j:¬ d.toList.any (·.refKey)=true:=by rw[a];exact fb
  rw[if_neg j]
  exact congrArg some e
theorem RC.look {x:Addr} {a:Str->Option Value} (I:RC h x dx C a):∃ od,W.InstAt h x (W.instObj C dx) C (some od)/\∀ name,W.lookIn name od=some (a name) :=
 let ⟨od,b,c⟩:=VM I.ns
 ⟨od,⟨I.obj,rfl,rfl,b⟩,c⟩
section
variable {w:World} {K:W.Frag} {x:Addr} {mA:Str->Option Value} {name:Str} {v:Value}
theorem Zq {a:Bool} (X:K.In s.heap) (I:RC s.heap x dx C mA) (b:W.plainGet K C name=true) (c:W.hasDictIn K C=true)
  (d:W.findIn K (.ref C) name=some none) (e:mA name=some v) (f:W.handedIn v=true) (h:Q v { s with toks:=s.toks+1 }) :
  wpAny (model prog w) A (getAttr (.ref x) name a) Q E s:=by
 obtain⟨i,J,g⟩:=I.look
 exact W.get_value X J (W.plainGet_of b).1 (W.findObj_own c d rfl (by rw[g,e])) f h
theorem YC {pl:Sem Bool} {Q:Value × List Value->Shared->Prop} (X:K.In s.heap) (I:RC s.heap x dx C mA) (a:W.plainGet K C name=true)
  (d:W.findIn K (.ref C) name=some (some (.ref f))) (b:W.isFn K (.ref f)=true) (c:mA name=none) (h:Q (.ref f,[.ref x]) s) :
  wpAny (model prog w) A (getMethod (.ref x) name pl) Q E s:=by
 obtain⟨g,J,e⟩:=I.look
 exact W.method_fn X J (W.plainGet_of a).1 (W.plainGet_of a).2 d (beq_iff_eq.mp b) (by show (W.lookIn name g).map (·.isSome)=some false;rw[e,c];rfl) h
theorem Y5 {Q:Unit->Shared->Prop} (X:K.In s.heap) (I:RC s.heap x dx C mA)
  (k:W.findIn K (.ref C) "__setattr__" = some (some (.builtin "object.__setattr__"))) (p:W.plainOver K C=true) (q:W.takerIn K C name=some none) (o:W.hasDictIn K C=true)
  (m:PySem.Within mA ns) (hsz:ns.length<=sizeLine)
  (h:∀ h',RC h' x dx C (λy=>if y=name then some v else mA y)->Heap.SameBut dx s.heap h'->Q () { s with heap:=h',toks:=s.toks+2 }) :
  wpAny (model prog w) A (setAttr (.ref x) name v) Q E s:=by
 obtain⟨D,J,B⟩:=I.look
 refine W.set_plain X J k (W.osa_open (s:={ s with toks:=s.toks+1 }) (r:=none) X J p q λb=>?_)
 obtain⟨u,n,i⟩:=W.any_some o
 have j:s.heap.get? x=some ⟨.ref C,some dx,.plain,#[]⟩:=I.obj
 refine wpAny_bind (wpAny_pure (wpAny_bind (wpAny_bind (wpAny_loadPart j (wpAny_bind (W.Looks.here (s:={ s with toks:=s.toks+1 }) (W.looks_clsIn X n) ?_))))))
 rw[i]
 refine wpAny_pure (a:=some dx) (wpAny_bind (wpAny_pure (wpAny_bind ?_)))
 refine wpAny_nsSet1 (s:={ s with toks:=s.toks+1 }) I.ns λh' c g=>?_
 obtain⟨z,t,l,d,f,e⟩:=c.count (PySem.Within.cons name v m)
 refine wpAny_bind (wpAny_lookBehind d (by rw[f];exact pastItsLine_dict (be e (by rw[bo];omega))) ?_)
 exact wpAny_pure (h _ ⟨(g.2 _ (Ne.symm I.ne)).trans I.obj,c,I.ne⟩ g)
theorem X7 {R:Result->Shared->Prop} {vs:List Value} {b:List (Str × Value)} (X:K.In s.heap) (c:W.makesIn K C=true)
  (hi:W.findIn K (.ref C) "__init__" = some (some (.ref f))) (e:W.typeIn K (.ref f)=some (.type "function"))
  (h:codeAny (model prog w) (A.under (.builtin "type.__call__" ⟨.ref C::vs,b⟩)) (.call (.ref f) ⟨.ref (s.heap.objs.size+1)::vs,b⟩) (W.InitBack (s.heap.objs.size+1) R)
   { s with heap:=(s.heap.push W.emptyDict).push (W.instObj C s.heap.objs.size) }) :
  codeAny (model prog w) A (.call (.ref C) ⟨vs,b⟩) R s:=by
 obtain⟨i,g,d,t,os⟩:=s
 exact W.make_core (W.makes_of X c) (W.looks_findIn X hi) (λa=>W.bind_fn X a e) (.inl rfl) h
end
def BV (f:Str) (v:V):List (Str × V)->List (Str × V)
 | []=>[(f,v)]
 | (g,x)::r=>if g=f then (g,v)::r else (g,x)::BV f v r
theorem Ak (f g:Str) (v:V):∀ fs:List (Str × V),(BV f v fs).lookup g=if g=f then some v else fs.lookup g
 | []=>by
  show List.lookup g [(f,v)]=_
  by_cases h:g=f
  ·have a:(g == f)=true:=beq_iff_eq.mpr h
   simp only[List.lookup,a,if_pos h]
  ·have a:(g == f)=false:=beq_eq_false_iff_ne.mpr h
   simp only[List.lookup,a,if_neg h]
 | (k,x)::r=>by
  have c:=Ak f g v r
  rw[show BV f v ((k,x)::r)=(if k=f then (k,v)::r else (k,x)::BV f v r) from rfl]
  by_cases b:k=f
  ·rw[if_pos b]
   by_cases h:g=k
   ·have a:(g == k)=true:=beq_iff_eq.mpr h
    simp only[List.lookup,a,if_pos (h.trans b)]
   ·have a:(g == k)=false:=beq_eq_false_iff_ne.mpr h
    simp only[List.lookup,a,if_neg (λe:g=f=>h (e.trans b.symm))]
  ·rw[if_neg b]
   by_cases h:g=k
   ·have a:(g == k)=true:=beq_iff_eq.mpr h
    simp only[List.lookup,a,if_neg (λe:g=f=>b (h.symm.trans e))]
   ·have a:(g == k)=false:=beq_eq_false_iff_ne.mpr h
    simp only[List.lookup,a]
    exact c
theorem J2 (f:Str) (v:V):∀ fs:List (Str × V),f∈(BV f v fs).map (·.1)/\∀ g,g∈fs.map (·.1)->g∈(BV f v fs).map (·.1)
 | []=>⟨by simp[BV],λg h=>by simp at h⟩
 | (k,x)::r=>by
  obtain⟨c,b⟩:=J2 f v r
  rw[show BV f v ((k,x)::r)=(if k=f then (k,v)::r else (k,x)::BV f v r) from rfl]
  by_cases a:k=f
  ·rw[if_pos a]
   subst a
   exact⟨by simp,λg h=>by simpa using h⟩
  ·rw[if_neg a]
   refine⟨?_,λg h=>?_⟩
   ·rw[dc]
    exact bq _ c
   ·rw[dc] at h |-
    rcases ci.mp h with e | e
    ·exact ci.mpr (.inl e)
    ·exact bq _ (b g e)
theorem Ka (f:Str) (v:V):∀ fs:List (Str × V),(BV f v fs).length<=fs.length+1
 | []=>by simp[BV]
 | (k,x)::r=>by
  have b:=Ka f v r
  rw[show BV f v ((k,x)::r)=(if k=f then (k,v)::r else (k,x)::BV f v r) from rfl]
  by_cases a:k=f
  ·rw[if_pos a,bo,bo];omega
  ·rw[if_neg a,bo,bo];omega
theorem Gx.some_of {v:V} {o:Option Value} (r:Gx (some v) o):∃ u,o=some u/\RelV v u:=by
 cases o with
 | none=>exact (show False from r).elim
 | some u=>exact⟨u,rfl,r⟩
theorem Gx.none_of {o:Option Value} (r:Gx none o):o=none:=by
 cases o with
 | none=>rfl
 | some u=>exact (show False from r).elim
theorem Uo {v:V} (r:RelV v u):W.handedIn u=true:=by
 cases v with
 | non=>cases (show u=Value.none from r);rfl
 | bl b=>cases (show u=Value.bool b from r);rfl
 | int i=>obtain⟨t,e⟩:=(show ∃ t,u=Value.int i t from r);cases e;rfl
 | str x=>obtain⟨t,e⟩:=(show ∃ t,u=Value.str x t from r);cases e;rfl
 | byt b=>obtain⟨t,e⟩:=(show ∃ t,u=Value.bytes b t from r);cases e;rfl
 | flt b=>obtain⟨t,e⟩:=(show ∃ t,u=Value.float b t from r);cases e;rfl
 | ref a=>cases (show u=Value.ref a from r);rfl
 | ty n=>cases (show u=Value.type n from r);rfl
section
variable {w:World} {fs pT:List (Str × V)}
theorem Km (b:GD P w H h) (e:H a=some (.ins C dx fs)):∃ mA,RC h a dx C mA/\(∀ f,Gx (fs.lookup f) (mA f))/\PySem.Within mA (fs.map (·.1))/\fs.length<=1000/\H dx=some (.own a):=by
 obtain⟨d,z,ne,c,mA,n,r,q⟩:=(show CT P w H h a (.ins C dx fs) from b a _ e)
 exact⟨mA,⟨c,n,ne⟩,r,q,z,d⟩
end
structure Oe (K:W.Frag) (C:Addr):Prop where
 pg:W.plainGet K C Str.empty=true
 hd:W.hasDictIn K C=true
 po:W.plainOver K C=true
 sa:W.findIn K (.ref C) "__setattr__" = some (some (.builtin "object.__setattr__"))
theorem Oe.get {K:W.Frag} (c:Oe K C) (f:Str):W.plainGet K C f=true:=c.pg
def Cg (K:W.Frag) (C:Addr) (f:Str):Prop:=W.findIn K (.ref C) f=some none
theorem Cg.taker {K:W.Frag} {f:Str} (n:Cg K C f):W.takerIn K C f=some none:=by
 unfold W.takerIn
 rw[show W.findIn K (.ref C) f=some none from n]
 rfl
structure eZ (K:W.Frag) (C:Addr) (f:Str) (v:V) (u:Value):Prop where
 at_:W.findIn K (.ref C) f=some (some u)
 rel:RelV v u
 get:W.specialIn K u "__get__" = some none
 cp:W.copiedNames.contains f=false
structure Meth (K:W.Frag) (C:Addr) (m:Str) (f:Addr):Prop where
 at_:W.findIn K (.ref C) m=some (some (.ref f))
 fn:W.isFn K (.ref f)=true
 kp:W.keepIn K (.ref f)=true
section
variable {fs:List (Str × V)} {f:Str} {v:V}
theorem Qa {b:Bool} (I:Inv X a8 σ H s) (e:H a=some (.ins C dx fs)) (c:Oe X.K C) (n:Cg X.K C f) (l:fs.lookup f=some v)
  (h:∀ u s',Inv X a8 σ H s'->RelV v u->Q u s'):wpAny (model X.prog X.w) A (getAttr (.ref a) f b) Q E s:=by
 obtain⟨g,O,r,_,_,_⟩:=Km I.hok e
 obtain⟨u,i,d⟩:=Gx.some_of (v:=v) (o:=g f) (by rw[<-l];exact r f)
 exact Zq I.Gy O (c.get f) c.hd n i (Uo d) (h u _ (I.tok _) d)
theorem Fy {m:Str} {g:Addr} {pl:Sem Bool} {Q:Value × List Value->Shared->Prop} (I:Inv X a8 σ H s) (e:H a=some (.ins C dx fs)) (c:Oe X.K C) (k:Meth X.K C m g) (l:fs.lookup m=none)
  (h:Q (.ref g,[.ref a]) s):wpAny (model X.prog X.w) A (getMethod (.ref a) m pl) Q E s:=by
 obtain⟨b,O,r,_,_,_⟩:=Km I.hok e
 have d:b m=none:=Gx.none_of (by rw[<-l];exact r m)
 exact YC I.Gy O (c.get m) k.at_ k.fn d h
theorem RX {Q:Unit->Shared->Prop} (I:Inv X a8 σ H s) (e:H a=some (.ins C dx fs)) (c:Oe X.K C) (n:Cg X.K C f) (F:fs.length<1000) (D:RelV y u)
  (h:∀ s',Inv X a8 σ (upd H a (.ins C dx (BV f y fs))) s'->Q () s'):wpAny (model X.prog X.w) A (setAttr (.ref a) f u) Q E s:=by
 obtain⟨j,O,r,k,_,i⟩:=Km I.hok e
 have t:(fs.map (·.1)).length<=sizeLine:=by rw[af,sizeLine_eq];omega
 refine Y5 I.Gy O c.sa c.po n.taker c.hd k t λm d l=>h _ ?_
 have B:∃ o,m.get? dx=some o:=let ⟨o,_,_,v,_⟩:=d.ns;⟨o,v⟩
 refine I.write (x:=a) (e:=dx) (by rw[e];exact True.intro) (.inr i) (λb q p z=>(l.2 b p).trans z) B ?_
 refine⟨by rw[Aw O.ne];exact i,?_,O.ne,d.obj,_,d.ns,λg=>?_,λg w=>?_⟩
 ·have:=Ka f y fs;omega
 ·show Gx ((BV f y fs).lookup g) (if g=f then some u else j g)
  rw[Ak]
  by_cases q:g=f
  ·rw[if_pos q,if_pos q];exact D
  ·rw[if_neg q,if_neg q];exact r g
 ·by_cases q:g=f
  ·rw[q];exact (J2 f y fs).1
  ·refine (J2 f y fs).2 g (k g λz=>w ?_)
   show (if g=f then some u else j g)=none
   rw[if_neg q];exact z
theorem Inv.made (I:Inv X a8 σ H s):Inv X a8 σ (upd (upd H s.heap.objs.size (.own (s.heap.objs.size+1))) (s.heap.objs.size+1) (.ins C s.heap.objs.size []))
  { s with heap:=(s.heap.push W.emptyDict).push (W.instObj C s.heap.objs.size) }:=by
 have c:(s.heap.push W.emptyDict).get? s.heap.objs.size=some W.emptyDict:=Heap.get?_push_size s.heap rfl
 have h:((s.heap.push W.emptyDict).push (W.instObj C s.heap.objs.size)).get? (s.heap.objs.size+1)=some (W.instObj C s.heap.objs.size):=by
  have:=Heap.get?_push_size (s.heap.push W.emptyDict) (o:=W.instObj C s.heap.objs.size) rfl
  rwa [Heap.size_push] at this
 have i:(s.heap.push W.emptyDict).Ns s.heap.objs.size (λ_=>none):=⟨W.emptyDict,#[],_,c,rfl,(λe d=>absurd d (by simp)),λ_=>rfl⟩
 have g:=I.laid (a:=s.heap.objs.size) (o:=.own (s.heap.objs.size+1)) (h':=s.heap.push W.emptyDict) (t':=s.toks) (λb u q=>Heap.get?_push_of_some _ q) (ah _) ⟨_,c⟩
 refine g.laid (a:=s.heap.objs.size+1) (o:=.ins C s.heap.objs.size []) (t':=s.toks) (λb u q=>Heap.get?_push_of_some _ q) (Nat.le_of_eq (Heap.size_push _ _)) ?_
 have ne:s.heap.objs.size ≠ s.heap.objs.size+1:=cf (fF _)
 refine⟨by rw[Aw ne,Al],dL _,ne,h,λ_=>none,(Heap.Ns1.of_empty i).at λo q=>Heap.get?_push_of_some _ q,λ_=>True.intro,λy f=>absurd rfl f⟩
theorem ZC {w:World} {a:Env} {f:Str} (b:attributeBase e f a (eval e a)=eval e a)
  (h:wpAny (model prog w) A (eval e a) (λo s₁=>wpAny (model prog w) A (getAttr o f true) Q E s₁) E s):wpAny (model prog w) A (eval (.Attribute e f pos) a) Q E s :=
 Attribute_any_ h (by rw[arm_eval_Attribute,b])
end
inductive bZ (K:W.Frag) (f:Str) (Q:VK) (x:V) (H1:Hp):Prop
 | mk (a C dx fs v:_):x=.ref a->H1 a=some (.ins C dx fs)->Oe K C->Cg K C f->fs.lookup f=some v->Q v H1->bZ K f Q x H1
def kE (K:W.Frag) (ta:TE) (f:Str):TE:=λσ H Q=>ta σ H λx H1=>bZ K f Q x H1
inductive b_ (K:W.Frag) (f:Str) (D:Ends) (σ:St) (y:V) (x:V) (H2:Hp):Prop
 | mk (a C dx fs:_):x=.ref a->H2 a=some (.ins C dx fs)->Oe K C->Cg K C f->fs.length<1000->D.nx σ (upd H2 a (.ins C dx (BV f y fs)))->b_ K f D σ y x H2
def ul (K:W.Frag) (ta tv:TE) (f:Str):TS:=λD σ H=>tv σ H λy H1=>ta σ H1 λx H2=>b_ K f D σ y x H2
section
variable {o value:Expr} {f:Str} {lc lj:Pos} {tv:TE}
theorem Bc (k:PE X e ta) (d:attributeBase e f X.env (eval e X.env)=eval e X.env):PE X (.Attribute e f pos) (kE X.K ta f):=by
 intro g s σ H Q I h
 refine ZC d (CJ (k g s σ H _ I h) λu w r=>?_)
 obtain⟨x,t,m,p,a,C,y,fs,v,o,j,c,n,l,q⟩:=r
 subst o
 obtain rfl:u=Value.ref a:=p
 exact Qa m j c n l λA z i b=>⟨v,t,i,b,q⟩
theorem DG (e:PE X o ta) (g:PE X value tv) (j:swapsWith value (some (.Attribute o f lc)) pos.line X.env=pure false):PS X (.Assign [.Attribute o f lc] value pos) (ul X.K ta tv f):=by
 intro b s σ H D I h
 refine plainObj_wpAny_Assign_Attribute (CJ (g b s σ H _ I h) λu d ⟨y,A,v,t,q⟩=>CJ (e b d σ A _ v q) λi E ⟨x,F,m,z,a,C,B,fs,w,p,c,n,l,k⟩=>?_) j
 subst w
 obtain rfl:i=Value.ref a:=z
 exact RX m p c n l t λG r=>⟨σ,_,r,k⟩
end
section
variable {c:Value} {b:Bool}
inductive JS (K:W.Frag) (H:Hp):V->Value->Prop where
 | non:JS K H .non (.type "NoneType")
 | bl (x:Bool):JS K H (.bl x) (.type "bool")
 | int (i:Int):JS K H (.int i) (.type "int")
 | str (x:Str):JS K H (.str x) (.type "str")
 | flt (x:UInt64):JS K H (.flt x) (.type "float")
 | lst {a:Addr} {xs:List V} (e:H a=some (.lst xs)):JS K H (.ref a) (.type "list")
 | frz {a:Addr} {o:Obj} {xs:List V} (e:H a=some (.frz o (.lst xs))):JS K H (.ref a) (.type "list")
 | tup {a:Addr} {xs:List V} (e:H a=some (.tup xs)):JS K H (.ref a) (.type "tuple")
 | dK {a:Addr} {kvs:List (Key × V)} (e:H a=some (.dK kvs)):JS K H (.ref a) (.type "dict")
 | dT {a:Addr} {kvs:List (List Key × V)} (e:H a=some (.dT kvs)):JS K H (.ref a) (.type "dict")
 | ins {a C dx:Addr} {fs:List (Str × V)} (e:H a=some (.ins C dx fs)) (cl:Oe K C) (ha:W.findIn K (.ref C) "__class__" = some (some (.builtin "object.__class__")))
   (hn:W.specialIn K (.builtin "object.__class__") "__get__" = some (some (.builtin "getset_descriptor.__get__"))) (VZ:W.takesIn K (.builtin "object.__class__")=some true)
   (hm:W.mroIn K C (.type "object")=some true):JS K H (.ref a) (.ref C)
theorem VB {x:V} {t:Value} (I:Inv X a8 σ H s) (f:RelV x u) (K:JS X.K H x t) (e:W.kitOne X.K t c=some b) (h:∀ tk,Q (.bool b) { s with toks:=tk }) :
  wpAny (model X.prog X.w) A (call (.builtin "isinstance") [u,c]) Q E s:=by
 cases K with
 | non=>cases (show u=Value.none from f);exact W.kia_one W.kitx_none I.Gy True.intro e (λz=>nomatch z) h
 | bl y=>cases (show u=Value.bool y from f);exact W.kia_one W.kitx_bool I.Gy True.intro e (λz=>nomatch z) h
 | int i=>obtain⟨t,q⟩:=(show ∃ t,u=Value.int i t from f);cases q;exact W.kia_one W.kitx_int I.Gy True.intro e (λz=>nomatch z) h
 | str y=>obtain⟨t,q⟩:=(show ∃ t,u=Value.str y t from f);cases q;exact W.kia_one W.kitx_str I.Gy True.intro e (λz=>nomatch z) h
 | flt y=>obtain⟨t,q⟩:=(show ∃ t,u=Value.float y t from f);cases q;exact W.kia_one W.kitx_float I.Gy True.intro e (λz=>nomatch z) h
 | @lst a k d =>
  cases (show u=Value.ref a from f)
  obtain⟨_,_,n,_,g⟩:=(show CT X.prog X.w H s.heap a (.lst k) from I.hok a _ d)
  exact W.kia_one W.kitx_list I.Gy ⟨_,g,rfl⟩ e (λz=>nomatch z) h
 | @frz a G k d =>
  cases (show u=Value.ref a from f)
  obtain⟨_,_,_,n,_,g⟩:=(show CT X.prog X.w H s.heap a (.frz G (.lst k)) from I.hok a _ d)
  exact W.kia_one W.kitx_list I.Gy ⟨_,g,rfl⟩ e (λz=>nomatch z) h
 | @tup a k d =>
  cases (show u=Value.ref a from f)
  obtain⟨_,_,_,p⟩:=(show CT X.prog X.w H s.heap a (.tup k) from I.hok a _ d)
  obtain⟨o,g,l,_⟩:=p
  exact W.kia_one W.kitx_tuple I.Gy ⟨o,g,l⟩ e (λz=>nomatch z) h
 | @dK a j d =>
  cases (show u=Value.ref a from f)
  obtain⟨_,_,N,_,p⟩:=(show CT X.prog X.w H s.heap a (.dK j) from I.hok a _ d)
  obtain⟨o,w,B,g,l,_⟩:=p
  exact W.kia_one W.kitx_dict I.Gy ⟨o,g,l.1⟩ e (λz=>nomatch z) h
 | @dT a j d =>
  cases (show u=Value.ref a from f)
  obtain⟨_,_,k,_,o,w,B,g,l,_⟩:=(show CT X.prog X.w H s.heap a (.dT j) from I.hok a _ d)
  exact W.kia_one W.kitx_dict I.Gy ⟨o,g,l.1⟩ e (λz=>nomatch z) h
 | @ins a C L fs d m D v F r =>
  cases (show u=Value.ref a from f)
  obtain⟨M,O,_⟩:=Km I.hok d
  obtain⟨P,J,_⟩:=O.look
  exact W.kia_one (W.kitx_own (m.get _) m.hd D v F r) I.Gy J e (λz=>nomatch z) h
end
structure A_ (k:Nat) (A:Around):Prop where
 hd:A.handled=none
 dp:A.depth+3 * k+5<recursionLimit
 un:A.units+16 * k+200<cLine
theorem A_.mono {k:Nat} (r:A_ k A) (h:j<=k):A_ j A:=⟨r.hd,by have:=r.dp;omega,by have:=r.un;omega⟩
theorem ad {k:Nat} (r:A_ k A) (h:j<=k:=by decide):A_ j A:=r.mono h
theorem A_.deeper {k:Nat} (r:A_ (k+1) A) (a:Env):A_ k (A.deeper a) :=
 ⟨r.hd,by have:=r.dp;show A.depth+1+3 * k+5<_;omega,by have:=r.un;show A.units+3+16 * k+200<_;omega⟩
theorem Qe {us:List Value} {a:List (Str × Value)}:(A.under (.builtin "type.__call__" ⟨.ref C::us,a⟩)).depth=A.depth+1:=by
 first | rfl | simp[Around.under,Code.weight,Code.isCreation,Code.isGuard,Code.isCaller,Code.frames,Code.isFrame,guardIds]
theorem RQ {us:List Value} {a:List (Str × Value)}:(A.under (.builtin "type.__call__" ⟨.ref C::us,a⟩)).units=A.units+1:=by
 first | rfl | simp[Around.under,Code.cUnits,Code.frames,Code.isFrame]
theorem A_.make {k:Nat} (r:A_ (k+1) A) (C:Addr) (us:List Value) (a:List (Str × Value)):A_ k (A.under (.builtin "type.__call__" ⟨.ref C::us,a⟩)) :=
 ⟨r.hd,by have:=r.dp;rw[Qe];omega,by have:=r.un;rw[RQ];omega⟩
theorem A_.depth {k:Nat} (r:A_ k A):A.depth<recursionLimit:=by have:=r.dp;omega
theorem A_.units {k:Nat} (r:A_ k A):A.units+64<cLine:=by have:=r.un;omega
def lu:TA:=λ_ H Q=>Q [] H
def cG (ta:TE) (tr:TA):TA:=λσ H Q=>ta σ H λx H1=>tr σ H1 λxs H2=>Q (x::xs) H2
section
variable {t:TA}
theorem Ab:PA X [] lu:=λ_ _ _ _ H Q I h=>Calls.spliced_nil ⟨[],H,I,.nil,h⟩
theorem Aa (f:PE X e te) (n:PA X es t) (g:starEach (e::es) X.env=(false,eval e X.env)::starEach es X.env:=by rfl):PA X (e::es) (cG te t):=by
 intro a b s σ H Q I h
 rw[g]
 show wpAny _ _ (spliced ((false,eval e X.env)::backTo a (starEach es X.env))) _ _ s
 refine Calls.spliced_cons (CJ (f b s σ H _ I h) λu c q=>?_)
 obtain⟨x,r,m,o,k⟩:=q
 exact CJ (n a b c σ r _ m k) λw v ⟨p,l,j,d,i⟩=>⟨x::p,l,j,.cons o d,i⟩
def wR (t:TA):TE:=λσ H Q=>t σ H λxs H1=>xs.length<=sizeLine/\∀ p,H1 p=none->Q (.ref p) (upd H1 p (.tup xs))
def tR (t:TA):TE:=λσ H Q=>t σ H λxs H1=>xs.length<=sizeLine/\∀ p,H1 p=none->Q (.ref p) (upd H1 p (.lst xs))
theorem Cq {x1} (h:PA X es t):PE X (.Tuple es x1 pos) (wR t):=by
 intro g s σ H Q I f
 refine wpAny_Tuple_spliced (CJ (h pos g s σ H _ I f) λi a ⟨k,d,c,r,z,q⟩=>⟨by rw[<-r.length];exact z,?_⟩)
 have j:d a.heap.objs.size=none:=c.hok.fresh (ah _)
 refine⟨.ref a.heap.objs.size,upd d a.heap.objs.size (.tup k),c.laid (t':=a.toks) (λb u e=>Heap.get?_push_of_some _ e) (ah _) ?_,rfl,q _ j⟩
 exact⟨z,i,r,⟨_,Heap.get?_push_size _ rfl,rfl,_,rfl⟩⟩
theorem Dm (h:PA X es t):PE X (.List es pos) (tR t):=by
 intro g s σ H Q I f
 refine wpAny_List_spliced (CJ (h pos g s σ H _ I f) λi a ⟨k,d,c,r,z,q⟩=>⟨by rw[<-r.length];exact z,?_⟩)
 have j:d a.heap.objs.size=none:=c.hok.fresh (ah _)
 refine⟨.ref a.heap.objs.size,upd d a.heap.objs.size (.lst k),c.laid (t':=a.toks) (λb u e=>Heap.get?_push_of_some _ e) (ah _) ?_,rfl,q _ j⟩
 exact⟨z,i,0,r,Heap.get?_push_size _ rfl⟩
end
abbrev Sp:=List V->Hp->VK->XK->Prop
abbrev QT:=List Env->Hp->Shared->XK->Value->Shared->Prop
structure O6 (P:Program) (w:World) (K:W.Frag) (mg:Str->Option Value) (base:Heap) (A:Around) (outer:List Env) (s:Shared) (H:Hp):Prop where
 frames:A.frames=some outer
 mod:Mod K mg base
 bs:∀ b o,base.get? b=some o->s.heap.get? b=some o/\H b=none
 bsz:base.objs.size<=s.heap.objs.size
 Jv:s.heap.FunFrames base outer
 frf:∀ b∈frs outer,H b=none
 hok:GD P w H s.heap
 bare:AllBare s.gens
inductive CE (outer:List Env) (P:Program) (w:World) (H:Hp) (s:Shared) (Q:VK) (u:Value) (s':Shared):Prop
 | mk (v H':_):s'.os=s.os->AllBare s'.gens->Un (frs outer) [] H H' s.heap s'.heap->GD P w H' s'.heap->RelV v u->Q v H'->CE outer P w H s Q u s'
def CR (CX:QT) (outer:List Env) (P:Program) (w:World) (H:Hp) (s:Shared) (Q:VK) (E:XK) (r:Result) (s':Shared):Prop :=
 match r with
 | .ok (.ret u)=>CE outer P w H s Q u s'
 | .ok _=>False
 | .error e=>CX outer H s E e s'
structure Ao (P:Program) (w:World) (K:W.Frag) (mg:Str->Option Value) (base:Heap) (CX:QT) (k:Nat) (f:Addr) (fd:FuncData) (ps:List Str) (sp:Sp):Prop where
 len:∀ vs H Q E,sp vs H Q E->vs.length=ps.length
 run:∀ (A:Around) (outer:List Env) (s:Shared) (H:Hp) (args:Args) (us:List Value) (vs:List V) (Q:VK) (E:XK),A_ k A->O6 P w K mg base A outer s H->BindsTo s fd args (ps.zip us)->Vals vs us->sp vs H Q E ->
  codeAny (model P w) A (.call (.ref f) args) (CR CX outer P w H s Q E) s
theorem O6.make {w:World} {K:W.Frag} {a:List Env} (e:O6 P w K mg base A a s H) (C:Addr) (us:List Value) (b:List (Str × Value)) :
  O6 P w K mg base (A.under (.builtin "type.__call__" ⟨.ref C::us,b⟩)) a s H:=⟨by first | exact e.frames | (simpa [Around.under,Code.envs,Code.isFrame,pushEnvs] using e.frames),e.mod,e.bs,e.bsz,e.Jv,e.frf,e.hok,e.bare⟩
section
variable {s':Shared}
theorem Inv.env0 (I:Inv X a8 σ H s):O6 X.prog X.w X.K X.mg X.base X.A X.stack s H :=
 ⟨I.ok.frames,I.ok.mod,I.bs,be I.ok.bsz I.sz,I.stack,I.Ie,I.hok,I.bare⟩
theorem Inv.after {Q:VK} (I:Inv X a8 σ H s) (h:CE X.stack X.prog X.w H s Q u s'):EP X a8 σ Q u s':=by
 obtain⟨v,e,os,a,un,c,r,q⟩:=h
 obtain⟨f,g,d,t,i⟩:=s'
 obtain rfl:i=s.os:=os
 exact⟨v,e,I.call (h':=f) (g':=g) (d':=d) (t':=t) (ch:=[]) un c a (λb z=>absurd z (by simp)),r,q⟩
end
def bH (sp:Sp) (k6:List V) (E:XK) (t:TA):TE:=λσ H Q=>t σ H λvs H1=>sp (vs++k6) H1 Q E
inductive YM (C:Addr) (m:Str) (sp:Sp) (k6:List V) (E:XK) (t:TA) (σ:St) (Q:VK) (x:V) (H1:Hp):Prop
 | mk (a dx fs:_):x=.ref a->H1 a=some (.ins C dx fs)->fs.lookup m=none->(t σ H1 λvs H2=>sp (x::(vs++k6)) H2 Q E)->YM C m sp k6 E t σ Q x H1
def Vr (C:Addr) (m:Str) (sp:Sp) (k6:List V) (E:XK) (ta:TE) (t:TA):TE:=λσ H Q=>ta σ H λx H1=>YM C m sp k6 E t σ Q x H1
def m6 (C:Addr) (sp:Sp) (k6:List V) (E:XK) (t:TA):TE:=λσ H Q=>t σ H λvs H1=>∀ x dx,H1 x=none->H1 dx=none->dx ≠ x ->
 sp (.ref x::(vs++k6)) (upd (upd H1 dx (.own x)) x (.ins C dx [])) (λv H2=>v=.non/\Q (.ref x) H2) E
def Binds (K:W.Frag) (fd:FuncData) (ps:List Str) (ds:List Value):Prop :=
 ∀ (s:Shared) (us:List Value),K.In s.heap->(us++ds).length=ps.length->BindsTo s fd ⟨us,[]⟩ (ps.zip (us++ds))
theorem Binds.all {K:W.Frag} (h:∀ us:List Value,us.length=ps.length->bindArgs fd ⟨us,[]⟩=pure (ps.zip us)):Binds K fd ps []:=λs us _ a=>by
 rw[eD] at a |-
 exact .of_eq (h us a)
def Ga (CX:QT) (X:Cx) (E:XK):Prop:=∀ (a8:List (Addr × Obj)) (σ:St) (H:Hp) (s:Shared) (e:Value) (s':Shared),Inv X a8 σ H s->CX X.stack H s E e s'->X.xe e s'
section
variable {CX:QT} {k:Nat} {sp:Sp} {k6:List V} {ds:List Value} {E:XK} {m:Str} {p:Pos} {o:Expr} {t:TA}
theorem J6 {Q:VK} {us:List Value} (F:Ao X.prog X.w X.K X.mg X.base CX k f fd ps sp) (g:A_ k X.A) (l:Binds X.K fd ps ds) (d:Vals k6 ds) (c:Ga CX X E)
  (I:Inv X a8 σ H s) (r:Vals vs us) (h:sp (vs++k6) H Q E):wpAny (model X.prog X.w) X.A (call (.ref f) us) (EP X a8 σ Q) X.xe s:=by
 have b:Vals (vs++k6) (us++ds):=r.append d
 have m:(us++ds).length=ps.length:=by rw[<-b.length];exact F.len _ _ _ _ h
 refine wpAny_call (codeAny_mono (F.run X.A X.stack s H ⟨us,[]⟩ (us++ds) (vs++k6) Q E g I.env0 (l s us I.Gy m) b h) λr j a=>?_)
 cases r with
 | error e=>exact c a8 σ H s e j I a
 | ok i =>
  cases i with
  | ret u=>exact I.after a
  | next=>exact False.elim a
  | brk=>exact False.elim a
  | cont=>exact False.elim a
theorem Ai (F:Ao X.prog X.w X.K X.mg X.base CX k f fd ps sp) (o:A_ k X.A) (l:Gl X x) (v:X.mg x=some (.ref f)) (u:W.keepIn X.K (.ref f)=true) (g:Binds X.K fd ps ds) (n:Vals k6 ds) (c:Ga CX X E)
  (d:PA X (e::es) t) (i:(x == ("__debug__" : Str))=false:=by decide) (m:starEach (e::es) X.env=(false,eval e X.env)::starEach es X.env:=by rfl) (a:(backTo pos (starEach es X.env)).any (·.1)=false:=by rfl) :
  PE X (.Call (.Name x p) (e::es) [] pos) (bH sp k6 E t):=by
 intro j s σ H Q I h
 refine wpAny_Call_Name_kw (JR I l v ?_ i)
 refine W.callWith_K (h₀:=X.base) I.ok.mod.kin u (CJ (d pos j s σ H _ I h) λz w ⟨y,A,b,r,q⟩=>⟨b.Gy,?_⟩) m a
 exact J6 F o g n c b r q
theorem Bq {pl:Sem Bool} (N:PE X o ta) (c:Oe X.K C) (j:Meth X.K C m f) (F:Ao X.prog X.w X.K X.mg X.base CX k f fd ps sp) (A:A_ k X.A) (L:Binds X.K fd ps ds) (z:Vals k6 ds) (w:Ga CX X E) (K:PA X (e::es) t)
  (b:starEach (e::es) X.env=(false,eval e X.env)::starEach es X.env:=by rfl) (d:(backTo pos (starEach es X.env)).any (·.1)=false:=by rfl)
  (B:eval (.Call (.Attribute o m d6) (e::es) [] pos) X.env=(do
   let ov <-eval o X.env
   standAt d6.atName
   let (f,first) <-holding [ov] (getMethod ov m pl)
   callWith pos f first (backTo pos (starEach (e::es) X.env)) (backToKw pos (keywordEach [] X.env))):=by rfl) :
  PE X (.Call (.Attribute o m d6) (e::es) [] pos) (Vr C m sp k6 E ta t):=by
 intro p s σ H Q I h
 refine W.methodCall_KW (pl:=pl) (CJ (N p s σ H _ I h) λu J ⟨x,O,v,G,a,P,fs,D,y,l,q⟩=>?_) B
 subst D
 obtain rfl:u=Value.ref a:=G
 refine Fy v y c j l ?_
 refine W.callWith_K (first:=[.ref a]) (h₀:=X.base) I.ok.mod.kin j.kp (CJ (K pos p J σ O _ v q) λi S ⟨n,R,g,r,M⟩=>⟨g.Gy,?_⟩) b d
 exact J6 (us:=.ref a::i) (vs:=.ref a::n) F A L z w g (.cons rfl r) M
theorem Bg {pl:Sem Bool} (n:PE X o ta) (c:Oe X.K C) (d:Meth X.K C m f) (F:Ao X.prog X.w X.K X.mg X.base CX k f fd ps sp) (r:A_ k X.A) (g:Binds X.K fd ps ds) (p:Vals k6 ds) (e:Ga CX X E)
  (t:eval (.Call (.Attribute o m d6) [] [] pos) X.env=(do
   let ov <-eval o X.env
   standAt d6.atName
   let (f,first) <-holding [ov] (getMethod ov m pl)
   callWith pos f first (backTo pos (starEach [] X.env)) (backToKw pos (keywordEach [] X.env))):=by rfl) :
  PE X (.Call (.Attribute o m d6) [] [] pos) (Vr C m sp k6 E ta lu):=by
 intro i s σ H Q I h
 refine W.methodCall_KW (pl:=pl) (CJ (n i s σ H _ I h) λu y ⟨x,A,b,w,a,z,fs,v,j,l,q⟩=>?_) t
 subst v
 obtain rfl:u=Value.ref a:=w
 refine Fy b j c d l ?_
 exact W.callWith_K0 (first:=[.ref a]) b.Gy d.kp (J6 (us:=[.ref a]) (vs:=[.ref a]) F r g p e b (.cons rfl .nil) q)
structure Mk (K:W.Frag) (C f:Addr):Prop where
 makes:W.makesIn K C=true
 init:W.findIn K (.ref C) "__init__" = some (some (.ref f))
 fn:W.isFn K (.ref f)=true
 kp:W.keepIn K (.ref C)=true
theorem Vd {Q:VK} {us:List Value} (M:Mk X.K C f) (F:Ao X.prog X.w X.K X.mg X.base CX k f fd ps sp) (p:A_ (k+1) X.A) (j:Binds X.K fd ps ds) (o:Vals k6 ds)
  (i:Ga CX X E) (I:Inv X a8 σ H s) (r:Vals vs us)
  (h:∀ x dx,H x=none->H dx=none->dx ≠ x->sp (.ref x::(vs++k6)) (upd (upd H dx (.own x)) x (.ins C dx [])) (λv H2=>v=.non/\Q (.ref x) H2) E) :
  wpAny (model X.prog X.w) X.A (call (.ref C) us) (EP X a8 σ Q) X.xe s:=by
 have c:=h (s.heap.objs.size+1) s.heap.objs.size (I.hok.fresh (iP _)) (I.hok.fresh (ah _)) (cf (fF _))
 have b:=Inv.made (C:=C) I
 have d:Vals (V.ref (s.heap.objs.size+1)::(vs++k6)) (Value.ref (s.heap.objs.size+1)::(us++ds)):=.cons rfl (r.append o)
 have y:(Value.ref (s.heap.objs.size+1)::us++ds).length=ps.length:=by
  have e:=d.length
  rw[F.len _ _ _ _ c] at e
  exact e.symm
 refine wpAny_call (X7 (f:=f) I.Gy M.makes M.init (beq_iff_eq.mp M.fn) (codeAny_mono (F.run _ X.stack _ _ ⟨Value.ref (s.heap.objs.size+1)::us,[]⟩ (Value.ref (s.heap.objs.size+1)::(us++ds)) _ _ E (p.make C us [])
  (b.env0.make C us []) (j _ (Value.ref (s.heap.objs.size+1)::us) b.Gy y) d c) λr w a=>?_))
 cases r with
 | error e=>exact i a8 σ _ _ e w b a
 | ok t =>
  cases t with
  | ret u =>
   obtain⟨v,n,m,g,q,l⟩:=b.after a
   subst q
   exact⟨g,⟨V.ref (s.heap.objs.size+1),n,m,rfl,l⟩⟩
  | next=>exact False.elim a
  | brk=>exact False.elim a
  | cont=>exact False.elim a
theorem JQ (M:Mk X.K C f) (F:Ao X.prog X.w X.K X.mg X.base CX k f fd ps sp) (o:A_ (k+1) X.A) (l:Gl X x) (u:X.mg x=some (.ref C)) (g:Binds X.K fd ps ds) (n:Vals k6 ds) (c:Ga CX X E)
  (d:PA X (e::es) t) (i:(x == ("__debug__" : Str))=false:=by decide) (m:starEach (e::es) X.env=(false,eval e X.env)::starEach es X.env:=by rfl) (a:(backTo pos (starEach es X.env)).any (·.1)=false:=by rfl) :
  PE X (.Call (.Name x p) (e::es) [] pos) (m6 C sp k6 E t):=by
 intro j s σ H Q I h
 refine wpAny_Call_Name_kw (JR I l u ?_ i)
 refine W.callWith_K (h₀:=X.base) I.ok.mod.kin M.kp (CJ (d pos j s σ H _ I h) λy v ⟨w,z,b,r,q⟩=>⟨b.Gy,?_⟩) m a
 exact Vd M F o g n c b r q
end
section
variable {CX:QT} {k:Nat} {ks:List Str} {sp:Sp} {E:XK} {m:Str} {p kpos:Pos} {o:Expr} {kws:List Keyword} {t tk:TA} {nm:Option Str}
variable {g:List Value->List Value->List Value} {gV:List V->List V->List V}
end
structure Aq (N P:List Str) (sc:Scope):Prop where
 kind:sc.kind=.function
 co:sc.isCoroutine=false
 gen:sc.isGenerator=false
 nd:N.Nodup
 pre:N.take P.length=P
 par:∀ x∈P,sc.names.lookup x=some .local \/ sc.names.lookup x=some .cell
 nofree:∀ y∈sc.names,y.2 ≠ .free
theorem Bf {N P:List Str} {h:Scope} (a:h.kind=.function:=by rfl) (b:h.isCoroutine=false:=by rfl) (c:h.isGenerator=false:=by rfl) (d:N.Nodup:=by decide) (e:N.take P.length=P:=by rfl) (f:∀ x∈P,h.names.lookup x=some .local \/ h.names.lookup x=some .cell:=by decide) (g:∀ y∈h.names,y.2 ≠ .free:=by decide):Aq N P h:=⟨a,b,c,d,e,f,g⟩
theorem Mw {kindOf:Str->Option NameKind}:∀ {binds:List (Str × Value)} {m:Str->Option Value},(∀ v,(x,v) ∉ binds)->bindL kindOf binds m x=m x
 | [],_,_=>rfl
 | (n,v)::r,m,h=>by
  unfold bindL
  rw[Mw λw a=>h w (bq _ a)]
  split
  ·have:x ≠ n:=by rintro rfl;exact h v ce
   simp[this]
  ·rfl
theorem Mp {kindOf:Str->Option NameKind}:∀ {binds:List (Str × Value)} {m:Str->Option Value},(∀ v,(x,v) ∉ binds)->bindC kindOf binds m x=m x
 | [],_,_=>rfl
 | (n,v)::r,m,h=>by
  unfold bindC
  rw[Mp λw a=>h w (bq _ a)]
  split
  ·rfl
  ·have:x ≠ n:=by rintro rfl;exact h v ce
   simp[this]
theorem M4 {kindOf:Str->Option NameKind} {v:Value}:∀ {P:List Str} {vs:List Value} {i:Nat} {m:Str->Option Value},P.Nodup->P[i]? = some x->vs[i]? = some v->kindOf x=some .local ->
  bindL kindOf (P.zip vs) m x=some v
 | [],_,_,_,_,h,_,_=>by simp at h
 | _::_,[],_,_,_,_,h,_=>by simp at h
 | p::P,w::vs,0,m,d,b,a,c=>by
  simp at b a;subst b;subst a
  show bindL kindOf ((p,w)::P.zip vs) m p=_
  unfold bindL
  rw[Mw λv e=>(hZ.mp d).1 (List.of_mem_zip e).1,if_pos c]
  simp
 | p::P,w::vs,i+1,m,d,b,a,c=>by
  show bindL kindOf ((p,w)::P.zip vs) m x=_
  unfold bindL
  exact M4 (i:=i) (List.nodup_cons.mp d).2 (by simpa using b) (by simpa using a) c
theorem NK {kindOf:Str->Option NameKind} {v:Value}:∀ {P:List Str} {vs:List Value} {i:Nat} {m:Str->Option Value},P.Nodup->P[i]? = some x->vs[i]? = some v->kindOf x ≠ some .local ->
  bindC kindOf (P.zip vs) m x=some v
 | [],_,_,_,_,h,_,_=>by simp at h
 | _::_,[],_,_,_,_,h,_=>by simp at h
 | p::P,w::vs,0,m,d,b,a,c=>by
  simp at b a;subst b;subst a
  show bindC kindOf ((p,w)::P.zip vs) m p=_
  unfold bindC
  rw[Mp λv e=>(hZ.mp d).1 (List.of_mem_zip e).1,if_neg c]
  simp
 | p::P,w::vs,i+1,m,d,b,a,c=>by
  show bindC kindOf ((p,w)::P.zip vs) m x=_
  unfold bindC
  exact NK (i:=i) (List.nodup_cons.mp d).2 (by simpa using b) (by simpa using a) c
def start (N:List Str) (vs:List V):St:=vs.map some++List.replicate (N.length - vs.length) none
def J_ (CX:QT) (P:Program) (w:World) (K:W.Frag) (mg:Str->Option Value) (base:Heap) (N:List Str) (qual:Str) (scope:Scope) (f:Addr) (cd:Value) (A:Around) (outer:List Env) (s:Shared) (H:Hp) (E:XK):Cx where
 prog:=P
 w:=w
 K:=K
 mg:=mg
 base:=base
 A:=A.deeper (envOfC qual scope s.heap.objs.size f cd)
 N:=N
 s₀:=s
 H₀:=H
 env:=envOfC qual scope s.heap.objs.size f cd
 outer:=outer
 stack:=envOfC qual scope s.heap.objs.size f cd::outer
 ex:=[]
 calm:=true
 fn:=λ_=>true
 pn:=[]
 xe:=λe s'=>wpAny (model P w) (A.deeper (envOfC qual scope s.heap.objs.size f cd)) (leaving (envOfC qual scope s.heap.objs.size f cd) e) (λ_ Ch=>CX outer H s E e Ch) (λe' Ch=>CX outer H s E e' Ch) s'
theorem QJ {a:Scope} (h:a.names.lookup x=some .cell):∃ c,(cellsFrom n a.names []).lookup x=some c:=by
 have q:=W.cellsFrom_some a.names n [] (.inl h)
 exact fi.mp q
theorem U9 {CX:QT} {w:World} {K:W.Frag} {N:List Str} {C:Value} {d:List Env} {F:Shared} {E:XK} {us:List Value}
  (S:Aq N ps scope) (J:A.handled=none) (j:O6 P w K mg base A d s H) (R:vs.length=ps.length) (r:Vals vs us)
  (x:InCallC s s.heap.objs.size (bindL (envOfC qual scope s.heap.objs.size f C).kindOf (ps.zip us) λ_=>none) (cellsFrom (s.heap.objs.size+1) scope.names []) (bindC (envOfC qual scope s.heap.objs.size f C).kindOf (ps.zip us) λ_=>none) F) :
  Inv (J_ CX P w K mg base N qual scope f C A d s H E) [] (start N vs) H F:=by
 have L:ps.length<=N.length:=by have:=congrArg List.length S.pre;rw[cm] at this;omega
 obtain⟨B,Q,rfl,G⟩:=x.done
 have m:∀ b:Addr,b ∉ (J_ CX P w K mg base N qual scope f C A d s H E).ex:=λb z=>absurd (show b∈([]:List Addr) from z) (by simp)
 refine⟨⟨j.mod,S.kind,rfl,rfl,ah _,λy z c B g=>?_,λy l=>?_,λy c _ h=>?_,λ_=>J,Around.frames_deeper j.frames,.inr ⟨rfl,rfl⟩,λb z=>absurd z (m b),j.bs,j.bsz,λb _ _=>m b,λb z=>absurd z (m b),j.Jv,j.frf⟩,
  rfl,j.bare,Un.kept G,⟨_,x.toInCall.ns,λi y v B g T=>?_⟩,λy c h=>⟨_,x.cell y c h⟩,j.hok.fresh (Nat.le_refl _),λy c h=>?_,λp t=>absurd (show p∈([]:List (Addr × Obj)) from t) (by simp),j.hok.kept G,?_⟩
 ·exact name_of_addr x.apart (PySem.mem_of_lookup B) (PySem.mem_of_lookup g)
 ·have l:scope.names.lookup y=some .cell \/ scope.names.lookup y=some .free:=l
  rcases l with l | l
  ·exact QJ l
  ·exact absurd rfl (S.nofree _ (PySem.mem_of_lookup l))
 ·exact fT (x.above y c (PySem.mem_of_lookup h))
 ·have D:i<vs.length:=by
   unfold start at g
   by_cases D:i<vs.length
   ·exact D
   ·rw[List.getElem?_append_right (by simpa using D)] at g
    rw[List.getElem?_replicate] at g
    split at g <;> cases g
  have O:vs[i]? = some v:=by
   unfold start at g
   rw[List.getElem?_append_left (by simpa using D),List.getElem?_map] at g
   cases e:vs[i]? with
   | none=>rw[e] at g;cases g
   | some a=>rw[e] at g;cases g;rfl
  obtain⟨u,I,M⟩:=r.get O
  have t:ps[i]? = some y:=by
   rw[<-S.pre,List.getElem?_take_of_lt (by omega)];exact B
  have o:ps.Nodup:=by rw[<-S.pre];exact S.nd.sublist (kx _ _)
  refine⟨u,M,?_⟩
  rcases S.par y (ai t) with k | k
  ·exact .inl ⟨k,M4 o t I k⟩
  ·obtain⟨c,e⟩:=QJ (n:=s.heap.objs.size+1) k
   refine .inr ⟨.inl k,c,e,?_⟩
   have q:=x.cell y c e
   rw[NK o t I (by show scope.names.lookup y ≠ _;rw[k];decide)] at q
   exact q
 ·exact j.hok.fresh (fT (x.above y c (PySem.mem_of_lookup h)))
 ·unfold start
  show _=N.length
  rw[al,af,iX]
  omega
theorem Vs {CX:QT} {w:World} {K:W.Frag} {k:Nat} {name:Str} {c:Arguments} {d:List Stmt} {G kV C L h R X:Value} {O od:Option Addr}
  {qf:Array (Option Value)} {N:List Str} {sp:Sp} (T:K.lookup f=some ⟨X,od,.func (W.fnOf name qual c d scope G kV C L O h R),qf⟩) (qS:W.codeIn K h qual=true) (S:Aq N ps scope)
  (len:∀ vs H Q E,sp vs H Q E->vs.length=ps.length)
  (Z:∀ (A:Around) (a:List Env) (s:Shared) (H:Hp) (vs:List V) (Q:VK) (E:XK),A_ k (A.deeper (envOfC qual scope s.heap.objs.size f h))->sp vs H Q E ->
   ∃ t,Nh (J_ CX P w K mg base N qual scope f h A a s H E) d t/\t { nx:=λ_ H'=>Q .non H',rt:=Q } (start N vs) H) :
  Ao P w K mg base CX (k+1) f (W.fnOf name qual c d scope G kV C L O h R) ps sp:=by
 refine⟨len,λA a s H args us vs Q E m j hb r F=>?_⟩
 have hl:=len _ _ _ _ F
 have D:K.In s.heap:=j.mod.kin.keeps λb o e=>(j.bs b o e).1
 have z:s.heap.NoLimit:=j.mod.nolimit.keeps λb o e=>(j.bs b o e).1
 have g:∀ y∈ps.zip us,scope.names.lookup y.1=some .local \/ (scope.names.lookup y.1=some .cell/\((cellsFrom (s.heap.objs.size+1) scope.names []).lookup y.1).isSome=true):=λ⟨n,v⟩ hy=>by
  rcases S.par n (List.of_mem_zip hy).1 with q | q
  ·exact .inl q
  ·exact .inr ⟨q,W.cellsFrom_some _ _ _ (.inl q)⟩
 refine codeAny_call_function m.depth (D _ _ T) rfl S.co S.gen rfl (W.codeRec_of D qS) (hb _ _ _ _ ?_)
 refine wpAny_newFunctionEnv_cells S.kind g λab he M x=>?_
 subst he
 refine⟨z.keeps x.toInCall.keep,codeAny_func ?_⟩
 obtain⟨t,Y,U⟩:=Z A a s H vs Q E (m.deeper _) F
 have I:Inv (J_ CX P w K mg base N qual scope f h A a s H E) [] (start N vs) H M:=U9 S m.hd j hl r x
 refine wpAny_mono (Y [] M (start N vs) H _ I U) (λfl B i=>?_) λe B i=>i
 have fin:∀ {l:St} {H':Hp} {v:V} {u:Value},Inv (J_ CX P w K mg base N qual scope f h A a s H E) [] l H' B->RelV v u->Q v H'->CE a P w H s Q u B :=
  λ{l H' v u} J p q=>⟨v,H',J.os,J.bare,J.base,J.hok,p,q⟩
 cases fl with
 | ret u =>
  obtain⟨v,l,H',J,p,q⟩:=i
  exact fin J p q
 | next =>
  obtain⟨l,H',J,q⟩:=i
  exact fin (v:=V.non) (u:=Value.none) J rfl q
 | brk =>
  obtain⟨_,_,_,q⟩:=i
  exact False.elim q
 | cont =>
  obtain⟨_,_,_,q⟩:=i
  exact False.elim q
section
variable {p:Pos} {t:TA} {id T:String} {r:List V->Hp->VK->Prop}
def zP (r:List V->Hp->VK->Prop) (t:TA):TE:=λσ H Q=>t σ H λvs H1=>r vs H1 Q
theorem BJ (k:Fd X (.builtin id) r) (l:Gl X x) (v:X.mg x=none) (i:bootBuiltins x=some (.builtin id)) (f:PA X (e::es) t) (d:x ≠ "__name__":=by decide) (j:(x == ("__debug__" : Str))=false:=by decide)
  (n:starEach (e::es) X.env=(false,eval e X.env)::starEach es X.env:=by rfl) (a:(backTo pos (starEach es X.env)).any (·.1)=false:=by rfl):PE X (.Call (.Name x p) (e::es) [] pos) (zP r t):=by
 intro b s σ H Q I h
 refine wpAny_Call_Name_kw (Hv I l v i ?_ d j)
 exact PyProof.Rows.callWith_builtin1 (CJ (f pos b s σ H _ I h) λo c ⟨g,w,q,u,m⟩=>k b c σ w g o Q q u m) n a
theorem Dg (k:Fd X (.type T) r) (l:Gl X x) (v:X.mg x=none) (i:bootBuiltins x=some (.type T)) (f:PA X (e::es) t) (d:x ≠ "__name__":=by decide) (j:(x == ("__debug__" : Str))=false:=by decide)
  (n:starEach (e::es) X.env=(false,eval e X.env)::starEach es X.env:=by rfl) (a:(backTo pos (starEach es X.env)).any (·.1)=false:=by rfl):PE X (.Call (.Name x p) (e::es) [] pos) (zP r t):=by
 intro b s σ H Q I h
 refine wpAny_Call_Name_kw (Hv I l v i ?_ d j)
 exact PyProof.Rows.callWith_type1 (CJ (f pos b s σ H _ I h) λo c ⟨g,w,q,u,m⟩=>k b c σ w g o Q q u m) n a
end
section
variable {κ:Type} [DecidableEq κ]
def Ce (kvs:List (κ × V)) (k:κ):Option V:=(kvs.find? λkv=>decide (kv.1=k)).map (·.2)
def putK (kvs:List (κ × V)) (k:κ) (v:V):List (κ × V) :=
 if (kvs.any λkv=>decide (kv.1=k))=true then kvs.map (λkv=>if kv.1=k then (kv.1,v) else kv) else kvs++[(k,v)]
def zb (kvs:List (κ × V)) (k:κ):List (κ × V):=kvs.filter λkv=>decide (kv.1 ≠ k)
theorem XH {k:κ}:Ce ([]:List (κ × V)) k=none:=rfl
theorem Dq {p:κ × V} {r:List (κ × V)} {k:κ} (e:p.1=k):Ce (p::r) k=some p.2:=by simp[Ce,List.find?_cons,e]
theorem Dp {p:κ × V} {r:List (κ × V)} {k:κ} (e:¬ p.1=k):Ce (p::r) k=Ce r k:=by simp[Ce,List.find?_cons,e]
theorem Gu (k:κ):∀ kvs:List (κ × V),(kvs.any λkv=>decide (kv.1=k))=(Ce kvs k).isSome
 | []=>rfl
 | p::r=>by
  rw[ki]
  by_cases e:p.1=k
  ·simp only[Dq e,decide_eq_true e,Bool.true_or,Option.isSome_some]
  ·rw[Dp e,decide_eq_false e,Bool.false_or];exact Gu k r
theorem PP (k j:κ) (y:V):∀ kvs:List (κ × V),Ce (kvs.map λkv=>if kv.1=k then (kv.1,y) else kv) j=(Ce kvs j).map λx=>if j=k then y else x
 | []=>rfl
 | p::r=>by
  have a:=PP k j y r
  rw[dc]
  by_cases h:p.1=k
  ·rw[if_pos h]
   by_cases e:p.1=j
   ·rw[Dq (p:=(p.1,y)) e,Dq e,kq,if_pos (e.symm.trans h)]
   ·rw[Dp (p:=(p.1,y)) e,Dp e,a]
  ·rw[if_neg h]
   by_cases e:p.1=j
   ·rw[Dq (p:=p) e,Dq e,kq,if_neg (λz=>h (e.trans z))]
   ·rw[Dp (p:=p) e,Dp e,a]
theorem IW (k j:κ) (y:V):∀ kvs:List (κ × V),Ce kvs k=none->Ce (kvs++[(k,y)]) j=if j=k then some y else Ce kvs j
 | [],_=>by
  by_cases e:k=j
  ·rw[if_pos e.symm];exact Dq (p:=(k,y)) e
  ·rw[if_neg (λz=>e z.symm)];exact Dp (p:=(k,y)) e
 | p::r,a=>by
  rw[List.cons_append]
  have b:¬ p.1=k:=λz=>by rw[Dq z] at a;cases a
  rw[Dp b] at a
  have c:=IW k j y r a
  by_cases e:p.1=j
  ·rw[Dq e,Dq e,if_neg (λz=>b (e.trans z))]
  ·rw[Dp e,Dp e,c]
theorem Gv (kvs:List (κ × V)) (k j:κ) (y:V):Ce (putK kvs k y) j=if j=k then some y else Ce kvs j:=by
 unfold putK
 by_cases a:(kvs.any λc=>decide (c.1=k))=true
 ·rw[if_pos a,PP]
  rw[Gu] at a
  by_cases e:j=k
  ·obtain⟨x,b⟩:=fi.mp a
   rw[if_pos e,e,b,kq,if_pos rfl]
  ·rw[if_neg e]
   cases Ce kvs j with
   | none=>rfl
   | some x=>rw[kq,if_neg e]
 ·rw[if_neg a]
  refine IW k j y kvs ?_
  rw[Gu] at a
  cases q:Ce kvs k with
  | none=>rfl
  | some x=>rw[q] at a;exact (a rfl).elim
theorem IK (kvs:List (κ × V)) (k:κ) (v:V):(putK kvs k v).length<=kvs.length+1:=by
 unfold putK
 split
 ·rw[af];omega
 ·rw[al,bo,List.length_nil];omega
theorem YS {kvs:List (κ × V)} {k:κ} (v:V) (h:Ce kvs k=none):putK kvs k v=kvs++[(k,v)]:=by
 unfold putK
 rw[Gu,h]
 exact if_neg (by decide)
theorem Gx.J8 {o:Option V} {u:Option Value} (r:Gx o u):o.isSome=u.isSome:=by
 cases o with
 | none=>cases u with
  | none=>rfl
  | some _=>exact (show False from r).elim
 | some _=>cases u with
  | none=>exact (show False from r).elim
  | some _=>rfl
theorem Gx.getD {o:Option V} {u:Option Value} {d:V} {d':Value} (r:Gx o u) (a:RelV d d'):RelV (o.getD d) (u.getD d'):=by
 cases o with
 | none=>cases u with
  | none=>exact a
  | some _=>exact (show False from r).elim
 | some _=>cases u with
  | none=>exact (show False from r).elim
  | some _=>exact r
theorem KV.val {kvs:List (κ × V)} {vs:List (κ × Value)} (r:KV kvs vs) (k:κ):Gx (Ce kvs k) (valueAt vs k):=by
 unfold KV at r
 induction r with
 | nil=>exact True.intro
 | @cons p q i a h t f =>
  obtain⟨d,g⟩:=h
  by_cases e:p.1=k
  ·have c:q.1=k:=d.symm.trans e
   have b:valueAt (q::a) k=some q.2:=by simp[valueAt,List.find?_cons,c]
   rw[Dq e,b];exact g
  ·have c:¬ q.1=k:=λz=>e (d.trans z)
   have b:valueAt (q::a) k=valueAt a k:=by simp[valueAt,List.find?_cons,c]
   rw[Dp e,b];exact f
theorem KV.any {kvs:List (κ × V)} {vs:List (κ × Value)} (r:KV kvs vs) (k:κ):(kvs.any λkv=>decide (kv.1=k))=vs.any λkv=>decide (kv.1=k):=by
 unfold KV at r
 induction r with
 | nil=>rfl
 | cons h t a=>rw[ki,ki,a,h.1]
theorem KV.repl {kvs:List (κ × V)} {vs:List (κ × Value)} (r:KV kvs vs) (k:κ) (c:RelV y u) :
  KV (kvs.map λkv=>if kv.1=k then (kv.1,y) else kv) (vs.map λkv=>if kv.1=k then (kv.1,u) else kv):=by
 unfold KV at r |-
 induction r with
 | nil=>exact .nil
 | @cons p q g f h t b =>
  rw[dc,dc]
  refine .cons ?_ b
  obtain⟨a,d⟩:=h
  by_cases e:p.1=k
  ·rw[if_pos e,if_pos (a.symm.trans e)];exact⟨a,c⟩
  ·rw[if_neg e,if_neg (λz=>e (a.trans z))];exact⟨a,d⟩
theorem KV.put {kvs:List (κ × V)} {vs:List (κ × Value)} (r:KV kvs vs) (k:κ) (a:RelV y u):KV (putK kvs k y) (stored vs k u):=by
 unfold putK stored
 rw[r.any k]
 by_cases e:(vs.any λb=>decide (b.1=k))=true
 ·rw[if_pos e,if_pos e];exact r.repl k a
 ·rw[if_neg e,if_neg e];exact Paired.snoc r ⟨rfl,a⟩
theorem KV.length {kvs:List (κ × V)} {vs:List (κ × Value)} (r:KV kvs vs):kvs.length=vs.length:=Paired.length r
end
theorem Mg {w:World} {k:Key} (r:RelV (kV k) u):(Bw P w).is k u=true:=by
 cases k with
 | inl i=>obtain⟨t,e⟩:=(show ∃ t,u=Value.int i t from r);subst e;exact Pq P w i t
 | inr x=>obtain⟨t,e⟩:=(show ∃ t,u=Value.str x t from r);subst e;exact QG P w x t
theorem M3 {w:World}:∀ {ks:List Key} {us:List Value},Vals (ks.map kV) us->ItemsAre (Bw P w) ks us
 | [],_,r=>by rw[kG] at r;cases r;exact .nil
 | k::ks,_,r=>by
  rw[dc] at r
  cases r with
  | cons h t=>exact .cons (Mg h) (M3 t)
abbrev KT (H:Hp):List (List Key × V)->List (List Key × Addr × Value)->Prop:=Paired λp q=>p.1=q.1/\H q.2.1=some (.tup (p.1.map kV))/\RelV p.2 q.2.2
theorem KT.val {kvs:List (List Key × V)} {xs:List (List Key × Addr × Value)} (r:KT H kvs xs) (k:List Key):Gx (Ce kvs k) ((atKey xs k).map (·.2)):=by
 induction r with
 | nil=>exact True.intro
 | @cons p q i a h t f =>
  obtain⟨d,_,g⟩:=h
  by_cases e:p.1=k
  ·have c:q.1=k:=d.symm.trans e
   have b:atKey (q::a) k=some q.2:=by simp[atKey,List.find?_cons,c]
   rw[Dq e,b];exact g
  ·have c:¬ q.1=k:=λz=>e (d.trans z)
   have b:atKey (q::a) k=atKey a k:=by simp[atKey,List.find?_cons,c]
   rw[Dp e,b];exact f
theorem KT.repl {kvs:List (List Key × V)} {xs:List (List Key × Addr × Value)} (r:KT H kvs xs) (k:List Key) (d:RelV y u) :
  KT H (kvs.map λkv=>if kv.1=k then (kv.1,y) else kv) (xs.map (putAt k u)):=by
 induction r with
 | nil=>exact .nil
 | @cons p q i g h t c =>
  rw[dc,dc]
  refine .cons ?_ c
  obtain⟨a,b,f⟩:=h
  unfold putAt
  by_cases e:p.1=k
  ·rw[if_pos e,if_pos (a.symm.trans e)];exact⟨a,b,d⟩
  ·rw[if_neg e,if_neg (λz=>e (a.trans z))];exact⟨a,b,f⟩
theorem KT.put {kvs:List (List Key × V)} {xs:List (List Key × Addr × Value)} (r:KT H kvs xs) (k:List Key) (c:H b=some (.tup (k.map kV))) (a:RelV y u) :
  KT H (putK kvs k y) (storedH xs k b u):=by
 have e:(kvs.any λd=>decide (d.1=k))=(atKey xs k).isSome:=by
  rw[Gu,(r.val k).J8,Option.isSome_map]
 unfold putK storedH
 rw[e]
 by_cases q:(atKey xs k).isSome=true
 ·rw[if_pos q,if_pos q];exact r.repl k a
 ·rw[if_neg q,if_neg q];exact Paired.snoc r ⟨rfl,c,a⟩
theorem KT.keeps {kvs:List (List Key × V)} {xs:List (List Key × Addr × Value)} (r:KT H kvs xs) (a:∀ b ys,H b=some (.tup ys)->H' b=some (.tup ys)):KT H' kvs xs :=
 Paired.J3 r λ_ _ z=>⟨z.1,a _ _ z.2.1,z.2.2⟩
section
variable {w:World}
theorem bh {u:HO} (ok:GD P w H h) (e:Rd H a u):CT P w H h a u:=e.ok ok
theorem LC (ok:GD P w H h) (e:Rd H a (.dK kvs)):kvs.length<=sizeLine/\(a == sysModules)=false/\∃ vs,KV kvs vs/\h.DictOf (Bw P w) a vs :=
 show CT P w H h a (.dK kvs) from bh ok e
theorem oK (ok:GD P w H h) (e:H a=some (.dK kvs)):kvs.length<=sizeLine/\(a == sysModules)=false/\∃ vs,KV kvs vs/\h.DictOf (Bw P w) a vs:=LC ok (.inl e)
theorem Gd {ks:List Key} (ok:GD P w H h) (e:H a=some (.tup (ks.map kV))):(tupleKind (Bw P w)).is h ks a:=by
 obtain⟨_,b,r,o,f,c,n,d⟩:=(show CT P w H h a (.tup (ks.map kV)) from ok a _ e)
 exact⟨o,b.toArray,n,f,c,d,by simpa using M3 r⟩
theorem La {kvs:List (List Key × V)} (ok:GD P w H h) (e:Rd H a (.dT kvs)):kvs.length<=sizeLine/\(a == sysModules)=false /\
  ∃ xs,KT H kvs xs/\h.DictOfH (tupleKind (Bw P w)) a xs:=by
 obtain⟨z,y,xs,r,o,f,g,j,i,k,s,n⟩:=(show CT P w H h a (.dT kvs) from bh ok e)
 refine⟨z,y,xs,r,o,f,g,j,i,k,s,λx b=>?_,n⟩
 have all:∀ {l:List (List Key × V)} {m:List (List Key × Addr × Value)},KT H l m->∀ x∈m,(tupleKind (Bw P w)).is h x.1 x.2.1:=by
  intro l m q
  induction q with
  | nil=>intro x b;exact nomatch b
  | @cons p q v u c t d =>
   intro x b
   rcases ci.mp b with e | b
   ·subst e
    exact Gd ok (by rw[<-c.1];exact c.2.1)
   ·exact d x b
 exact all r x b
theorem mj {kvs:List (List Key × V)} (ok:GD P w H h) (e:H a=some (.dT kvs)):kvs.length<=sizeLine/\(a == sysModules)=false /\
  ∃ xs,KT H kvs xs/\h.DictOfH (tupleKind (Bw P w)) a xs:=La ok (.inl e)
end
def Ex (H:Hp) (a:Addr) (y:V) (r:Option V):Prop :=
 (∃ kvs k,Rd H a (.dK kvs)/\y=kV k/\r=Ce kvs k) \/ ∃ kvs k b,Rd H a (.dT kvs)/\y=.ref b/\H b=some (.tup (k.map kV))/\r=Ce kvs k
def MF (H:Hp) (a:Addr) (y v:V) (H':Hp):Prop :=
 (∃ kvs k,H a=some (.dK kvs)/\y=kV k/\kvs.length<sizeLine/\H'=upd H a (.dK (putK kvs k v))) \/
 ∃ kvs k b,H a=some (.dT kvs)/\y=.ref b/\H b=some (.tup (k.map kV))/\kvs.length<sizeLine/\H'=upd H a (.dT (putK kvs k v))
theorem Ex.k {k:Key} (e:H a=some (.dK kvs)):Ex H a (kV k) (Ce kvs k):=.inl ⟨kvs,k,.inl e,rfl,rfl⟩
theorem MF.k {k:Key} {v:V} (e:H a=some (.dK kvs)) (b:kvs.length<sizeLine):MF H a (kV k) v (upd H a (.dK (putK kvs k v))):=.inl ⟨kvs,k,e,rfl,b,rfl⟩
section
variable {v:V} {r:Value} {o:Option V}
theorem Inv.big (I:Inv X a8 σ H s):sysModules<s.heap.objs.size:=by
 have h:mainGlobals<s.heap.objs.size:=(I.mod.glob.keeps I.bk).lt
 exact ja (by decide) h
theorem UL (r:A.units+1<cLine) (I:Inv X a8 σ H s) (g:Ex H a y (some v)) (n:RelV y u) (h:∀ w' s',Inv X a8 σ H s'->RelV v w'->Q w' s') :
  wpAny (model X.prog X.w) A (getItem (.ref a) u) Q E s:=by
 rcases g with⟨j,k,e,m,l⟩ | ⟨j,k,b,e,m,w,l⟩
 ·subst m
  obtain⟨z,x,t,c,f⟩:=LC I.hok e
  obtain⟨w',d,i⟩:=Gx.some_of (v:=v) (o:=valueAt t k) (by rw[l];exact c.val k)
  exact wpAny_getItem_of (Mg n) f.mapOf d (h w' _ (I.tok _) i)
 ·subst m
  cases (show u=Value.ref b from n)
  obtain⟨z,x,C,c,f⟩:=La I.hok e
  obtain⟨w',d,i⟩:=Gx.some_of (v:=v) (o:=(atKey C k).map (·.2)) (by rw[l];exact c.val k)
  obtain⟨p,B,q⟩:=aT.mp d
  refine wpAny_getItem_heap (tupleKind_room_in1 r) (Gd I.hok w) f B ?_
  rw[q]
  exact h w' _ (I.tok _) i
theorem Z7 (n:A.units+1<cLine) (I:Inv X a8 σ H s) (g:Ex H a y o) (m:RelV y u) (h:∀ s',Inv X a8 σ H s'->Q (.bool (!o.isSome)) s') :
  wpAny (model X.prog X.w) A (compareOp .NotIn u (.ref a)) Q E s:=by
 rcases g with⟨i,k,e,j,l⟩ | ⟨i,k,b,e,j,p,l⟩
 ·subst j
  obtain⟨z,d,r,c,f⟩:=LC I.hok e
  refine wpAny_notIn_of (Mg m) d f.mapOf ?_
  rw[<-(c.val k).J8,<-l]
  exact h _ (I.tok _)
 ·subst j
  cases (show u=Value.ref b from m)
  obtain⟨z,d,t,c,f⟩:=La I.hok e
  refine wpAny_notIn_heap (tupleKind_room_in1 n) (Gd I.hok p) d f ?_
  have q:=(c.val k).J8
  rw[Option.isSome_map] at q
  rw[<-q,<-l]
  exact h _ (I.tok _)
theorem Tf {t':Nat} {c:HO} (I:Inv X a8 σ H s) (h:qN (H a)) (g:Heap.SameBut a s.heap h') (d:∃ q,h'.get? a=some q) (new:CT X.prog X.w (upd H a c) h' a c) :
  Inv X a8 σ (upd H a c) { s with heap:=h',toks:=t' } :=
 I.write (x:=a) (e:=a) h (.inl rfl) (λb q f z=>(g.2 b f).trans z) d new
theorem fC {w:World} {vs:List (Key × Value)} (z:kvs.length<=sizeLine) (c:(a == sysModules)=false) (b:KV kvs vs) (dd:h'.DictOf (Bw P w) a vs) :
  CT P w H' h' a (.dK kvs):=⟨z,c,vs,b,dd⟩
theorem Uj {Q:Unit->Shared->Prop} (J:A.units+1<cLine) (I:Inv X a8 σ H s) (g:MF H a y v H') (C:RelV y u) (F:RelV v r) (h:∀ s',Inv X a8 σ H' s'->Q () s') :
  wpAny (model X.prog X.w) A (setItem (.ref a) u r) Q E s:=by
 rcases g with⟨f,k,e,p,l,x⟩ | ⟨f,k,b,e,p,B,l,x⟩
 ·subst p x
  obtain⟨z,n,O,d,o⟩:=oK I.hok e
  have w:O.length<=sizeLine:=by rw[<-d.length];exact z
  have t:(putK f k v).length<=sizeLine:=by have:=IK f k v;omega
  refine wpAny_setItem_pairs (hsz:=w) (Mg C) o λG j m=>h _ ?_
  have R:∃ q,G.get? a=some q:=let ⟨q,_,_,i,_⟩:=j;⟨q,i⟩
  exact Tf I (by rw[e];exact True.intro) m R (fC t n (d.put k F) j)
 ·subst p x
  cases (show u=Value.ref b from C)
  obtain⟨z,n,T,d,o⟩:=mj I.hok e
  have w:T.length<=sizeLine:=by rw[<-Paired.length d];exact z
  have t:(putK f k v).length<=sizeLine:=by have:=IK f k v;omega
  refine wpAny_setItem_heap (hsz:=w) (tupleKind_room_in1 J) (Gd I.hok B) o λG j m=>h _ ?_
  obtain⟨q,M,N,i,P,S,K,_,L⟩:=j
  refine Tf I (by rw[e];exact True.intro) m ⟨q,i⟩ ⟨t,n,_,(d.put k B F).keeps λc U D=>?_,q,M,N,i,P,S,K,L⟩
  rw[Aw (aH D e (λz=>nomatch z))]
  exact D
end
section
variable {k:Key}
end
def jF (i:Expr):Prop:=∀ ov iv,subscripted i false ov iv=operate [ov,iv] (getItem ov iv)
theorem R7 {w:World} {c:Env} {b a:Expr} {T id:String}
  (g:typeLookup (.type T) "__getitem__" = pure (some (.builtin id))) (l:jF a)
  (h:wpAny (model prog w) A (eval b c) (λo s₁=>wpAny (model prog w) A (eval a c) (λi s₂=>s₂.TypeIs o T/\wpAny (model prog w) A (getItem o i) Q E s₂) E s₁) E s) :
  wpAny (model prog w) A (eval (.Subscript b a pos) c) Q E s:=by
 refine Subscript_ (wpAny_mono h (λo s₁ j=>wpAny_mono j (λi s₂ d=>?_) λ_ _ x=>x) λ_ _ x=>x)
 obtain⟨e,d⟩:=d
 unfold subscriptTail
 refine wpAny_bind ?_
 rw[getitemInPython_of_ne e.not_modules]
 refine wpAny_bind (wpAny_specialOf e g ?_)
 have fin:wpAny (model prog w) A (subscripted a false o i) (λr f=>wpAny (model prog w) A (letTemporaryGo b o r >>= λ_=>pure r) Q E f) E s₂:=by
  rw[l o i]
  exact wpAny_operating (wpAny_mono d (λr f k=>wpAny_bind (wpAny_letTemporaryGo (wpAny_pure k))) λ_ _ x=>x)
 first
  | exact wpAny_pure (wpAny_bind fin)
  | exact wpAny_bind (wpAny_pure (wpAny_bind fin))
  | exact wpAny_bind fin
theorem Px {o:Option V} (I:Inv X a8 σ H s) (g:Ex H a y o):s.TypeIs (.ref a) "dict":=by
 rcases g with⟨d,k,e,_,_⟩ | ⟨d,k,b,e,_,_,_⟩
 ·obtain⟨_,_,f,_,c⟩:=LC I.hok e
  exact c.typeIs
 ·obtain⟨_,_,h,_,c⟩:=La I.hok e
  exact c.typeIs
inductive Wg (Q:VK) (x:V) (y:V) (H2:Hp):Prop
 | mk (a v:_):x=.ref a->Ex H2 a y (some v)->Q v H2->Wg Q x y H2
def lD (td ty:TE):TE:=λσ H Q=>td σ H λx H1=>ty σ H1 λy H2=>Wg Q x y H2
inductive Ou (Q:VK) (y:V) (x:V) (H2:Hp):Prop
 | mk (a o:_):x=.ref a->Ex H2 a y o->Q (.bl (!o.isSome)) H2->Ou Q y x H2
def Yv (ty td:TE):TE:=λσ H Q=>ty σ H λy H1=>td σ H1 λx H2=>Ou Q y x H2
inductive Xg (D:Ends) (σ:St) (v:V) (x:V) (y:V) (H3:Hp):Prop
 | mk (a H4:_):x=.ref a->MF H3 a y v H4->D.nx σ H4->Xg D σ v x y H3
def mG (td ty tv:TE):TS:=λD σ H=>tv σ H λv H1=>td σ H1 λx H2=>ty σ H2 λy H3=>Xg D σ v x y H3
section
variable {o i value:Expr} {lc lj:Pos} {td ty tv:TE}
theorem GJ (e:X.A.units+1<cLine) (k:PE X o td) (hi:PE X i ty) (f:jF i):PE X (.Subscript o i pos) (lD td ty):=by
 intro b s σ H Q I h
 refine R7 iN f (CJ (k b s σ H _ I h) λu d ⟨x,A,p,t,m⟩=>CJ (hi b d σ A _ p m) λC B z=>?_)
 obtain⟨y,q,c,r,a,v,w,g,j⟩:=z
 subst w
 obtain rfl:u=Value.ref a:=t
 exact⟨Px c g,UL e c g r λE D l n=>⟨v,q,l,n,j⟩⟩
theorem Mz (d:X.A.units+1<cLine) (hi:PE X i ty) (j:PE X o td):PC X .NotIn i o (Yv ty td):=by
 intro b s σ H Q I h
 refine CJ (hi b s σ H _ I h) λA c ⟨y,w,p,n,k⟩=>CJ (j b c σ w _ p k) λu z v=>?_
 obtain⟨x,q,m,t,a,e,r,g,f⟩:=v
 subst r
 obtain rfl:u=Value.ref a:=t
 exact Z7 d m g n λB l=>⟨.bl (!e.isSome),q,l,rfl,f⟩
theorem Ia (c:X.A.units+1<cLine) (C:PE X o td) (hi:PE X i ty) (d:PE X value tv) (e:swapsWith value (some (.Subscript o i lc)) pos.line X.env=pure false) :
  PS X (.Assign [.Subscript o i lc] value pos) (mG td ty tv):=by
 intro b s σ H D I h
 refine wpAny_Assign_Subscript (CJ (d b s σ H _ I h) λr t ⟨v,G,F,w,l⟩=>CJ (C b t σ G _ F l) λu A ⟨x,m,k,q,B⟩=>CJ (hi b A σ m _ k B) λK M ⟨y,L,j,n,a,E,p,g,z⟩=>?_) e
 subst p
 obtain rfl:u=Value.ref a:=q
 exact Uj c j g n w λJ f=>⟨σ,E,f,z⟩
end
theorem Vv {w:World} (h:Heap) (a:sysModules<h.objs.size):CT P w H (h.push { cls:=.type "dict",data:=.dict #[] }) h.objs.size (.dK []) :=
 ⟨dL _,beq_eq_false_iff_ne.mpr (Ne.symm (cf a)),[],.nil,Heap.DictOf.new h⟩
def fX:TE:=λ_ H Q=>∀ p,H p=none->Q (.ref p) (upd H p (.dK []))
theorem JP:PE X (.Dict [] [] pos) fX:=λb s σ H Q I h =>
 wpAny_Dict_empty ⟨.ref s.heap.objs.size,_,I.laid (a:=s.heap.objs.size) (o:=.dK []) (t':=s.toks) (λ_ _ q=>Heap.get?_push_of_some _ q) (ah _) (Vv s.heap I.big),rfl,h _ (I.hok.fresh (ah _))⟩
def tY (kvs more:List (Key × V)):List (Key × V):=more.foldl (λi5 kv=>putK i5 kv.1 kv.2) kvs
structure M1 (X:Cx) (o:Expr) (m:Str) (d6:Pos) (e:Expr) (g0:Pos):Prop where
 base:attributeBase o m X.env (eval o X.env)=eval o X.env
 few:((backTo g0 (starEach [e] X.env)).all (λx=>!x.1) && (backToKw g0 (keywordEach [] X.env)).all (λx=>x.1.isSome)
  && decide (([e]:List Expr).length+([]:List Keyword).length+(if ([]:List Keyword).isEmpty then 0 else 1)<30))=true
 line:(d6.endLine == g0.line)=true
 trees:backTo g0 (starEach [e] X.env)=[(false,eval e X.env)]
structure M2 (X:Cx) (o:Expr) (m:Str) (d6:Pos) (e f:Expr) (g0:Pos):Prop where
 base:attributeBase o m X.env (eval o X.env)=eval o X.env
 few:((backTo g0 (starEach [e,f] X.env)).all (λx=>!x.1) && (backToKw g0 (keywordEach [] X.env)).all (λx=>x.1.isSome)
  && decide (([e,f]:List Expr).length+([]:List Keyword).length+(if ([]:List Keyword).isEmpty then 0 else 1)<30))=true
 line:(d6.endLine == g0.line)=true
 trees:backTo g0 (starEach [e,f] X.env)=[(false,eval e X.env),(false,eval f X.env)]
def uh (H:Hp) (a:Addr):Prop:=(∃ kvs,Rd H a (.dK kvs)) \/ ∃ kvs,Rd H a (.dT kvs)
theorem Rg (I:Inv X a8 σ H s) (d:uh H a) :
  s.TypeIs (.ref a) "dict" /\ (∀ b,Value.ref a=.ref b->∃ ob,s.heap.get? b=some ob/\ob.dict=none)/\(a == sysModules)=false:=by
 rcases d with⟨h,e⟩ | ⟨h,e⟩
 ·obtain⟨_,f,k,_,c⟩:=LC I.hok e
  refine⟨c.typeIs,λb q=>?_,f⟩
  cases q
  obtain⟨ob,_,_,i,g,_⟩:=c
  exact⟨ob,i,g.2.1⟩
 ·obtain⟨_,f,j,_,c⟩:=La I.hok e
  refine⟨c.typeIs,λb q=>?_,f⟩
  cases q
  obtain⟨ob,_,_,i,g,_⟩:=c
  exact⟨ob,i,g.2.1⟩
section
variable {d:V} {r:Value} {o:Option V}
theorem eV (n:A.units+1<cLine) (I:Inv X a8 σ H s) (g:Ex H a y o) (m:RelV y u) (h:∀ w' s',Inv X a8 σ H s'->RelV (o.getD .non) w'->Q w' s') :
  wpAny (model X.prog X.w) A (call (.builtin "dict.get") [.ref a,u]) Q E s:=by
 rcases g with⟨i,k,e,j,l⟩ | ⟨i,k,b,e,j,p,l⟩
 ·subst j
  obtain⟨z,f,r,c,d⟩:=LC I.hok e
  refine call_meetsIn fe d.typeIs PySem.F.entry_dict_get (PySem.F.args_dict_get_2 _ _) (meets_dict_get (Bw X.prog X.w) a (Mg m) f) ⟨_,d.mapOf,h _ _ (I.tok _) ?_⟩
  rw[l]
  exact (c.val k).getD rfl
 ·subst j
  cases (show u=Value.ref b from m)
  obtain⟨z,f,q,c,d⟩:=La I.hok e
  refine call_meetsIn fe d.typeIs PySem.F.entry_dict_get (PySem.F.args_dict_get_2 _ _) (meetsH_dict_get (tupleKind (Bw X.prog X.w)) a b f) ⟨tupleKind_room_in1 n,k,q,Gd I.hok p,d,h _ _ (I.tok _) ?_⟩
  rw[l]
  exact (c.val k).getD rfl
theorem cu (q:A.units+1<cLine) (I:Inv X a8 σ H s) (g:Ex H a y o) (p:RelV y u) (n:RelV d r) (h:∀ w' s',Inv X a8 σ H s'->RelV (o.getD d) w'->Q w' s') :
  wpAny (model X.prog X.w) A (call (.builtin "dict.get") [.ref a,u,r]) Q E s:=by
 rcases g with⟨j,k,e,m,l⟩ | ⟨j,k,b,e,m,t,l⟩
 ·subst m
  obtain⟨z,i,w,c,f⟩:=LC I.hok e
  refine call_meetsIn fe f.typeIs PySem.F.entry_dict_get (PySem.F.args_dict_get_3 _ _ _) (meets_dict_get_default (Bw X.prog X.w) a (Mg p) i r) ⟨_,f.mapOf,h _ _ (I.tok _) ?_⟩
  rw[l]
  exact (c.val k).getD n
 ·subst m
  cases (show u=Value.ref b from p)
  obtain⟨z,i,v,c,f⟩:=La I.hok e
  refine call_meetsIn fe f.typeIs PySem.F.entry_dict_get (PySem.F.args_dict_get_3 _ _ _) (meetsH_dict_get_default (tupleKind (Bw X.prog X.w)) a b i r) ⟨tupleKind_room_in1 q,k,v,Gd I.hok t,f,h _ _ (I.tok _) ?_⟩
  rw[l]
  exact (c.val k).getD n
end
inductive Sw (ty:TE) (σ:St) (Q:VK) (x:V) (H1:Hp):Prop
 | mk (a:_):x=.ref a->uh H1 a->(ty σ H1 λy H2=>∃ o,Ex H2 a y o/\Q (o.getD .non) H2)->Sw ty σ Q x H1
def h_ (td ty:TE):TE:=λσ H Q=>td σ H λx H1=>Sw ty σ Q x H1
inductive R4 (ty tx:TE) (σ:St) (Q:VK) (x:V) (H1:Hp):Prop
 | mk (a:_):x=.ref a->uh H1 a->(ty σ H1 λy H2=>tx σ H2 λz H3=>∃ o,Ex H3 a y o/\Q (o.getD z) H3)->R4 ty tx σ Q x H1
def gG (td ty tx:TE):TE:=λσ H Q=>td σ H λx H1=>R4 ty tx σ Q x H1
section
variable {o f:Expr} {g0:Pos} {td ty tx:TE}
theorem QM (f:X.A.units+1<cLine) (z:PE X o td) (A:PE X e ty) (m:M1 X o "get" d6 e g0):PE X (.Call (.Attribute o "get" d6) [e] [] g0) (h_ td ty):=by
 intro b s σ H Q I h
 refine wpAny_Call_method m.base m.few m.line gL fe jp (CJ (z b s σ H _ I h) λu v r=>?_)
 obtain⟨x,D,c,t,a,q,d,l⟩:=r
 subst q
 obtain rfl:u=Value.ref a:=t
 obtain⟨C,i,_⟩:=Rg c d
 refine⟨C,i,?_⟩
 rw[m.trees]
 refine Calls.callWith_builtin rfl (Calls.evalArgs_plain (Calls.spliced_cons (CJ (A b v σ D _ c l) λE F ⟨y,n,k,p,G,g,w⟩=>Calls.spliced_nil ?_)))
 exact eV f k g p λK J j B=>⟨_,n,j,B,w⟩
theorem Pb (i:X.A.units+1<cLine) (J:PE X o td) (K:PE X e ty) (v:PE X f tx) (m:M2 X o "get" d6 e f g0):PE X (.Call (.Attribute o "get" d6) [e,f] [] g0) (gG td ty tx):=by
 intro b s σ H Q I h
 refine wpAny_Call_method m.base m.few m.line gL fe jp (CJ (J b s σ H _ I h) λu D A=>?_)
 obtain⟨x,N,c,C,a,t,d,p⟩:=A
 subst t
 obtain rfl:u=Value.ref a:=C
 obtain⟨M,j,_⟩:=Rg c d
 refine⟨M,j,?_⟩
 rw[m.trees]
 refine Calls.callWith_builtin rfl (Calls.evalArgs_plain (Calls.spliced_cons (CJ (K b D σ N _ c p) λP F ⟨y,q,n,r,G⟩ =>
  Calls.spliced_cons (CJ (v b F σ q _ n G) λT S ⟨z,B,l,w,R,g,E⟩=>Calls.spliced_nil ?_))))
 exact cu i l g r w λU O k L=>⟨_,B,k,L,E⟩
end
end L2
variable {H H' H1 Ho H2:L2.Hp} {X:L2.Cx} {s:PySem.Shared} {A:PySem.Around} {n i j t' m dr sh:Nat} {pos d6:PySem.Pos} {σ:L2.St} {a C p f Cy sd b dx aB aP aM D pE pA it z Cp:PySem.Addr} {E Q:vSP} {x t qual:PySem.Str} {a8:List (PySem.Addr × PySem.Obj)} {prog P:PySem.Program} {e tg iter lf:PySem.Expr} {kvs:List (L2.Key × L2.V)} {xs vs us:List L2.V} {u:PySem.Value} {h h' base:PySem.Heap} {te ta:L2.TE} {fd:PySem.FuncData} {ps ns nms:List PySem.Str} {es k9:List PySem.Expr} {sts:List Nat} {o:L2.HO} {y:L2.V} {c:Int} {scope:PySem.Scope} {mg:PySem.Str->Option PySem.Value} {tt:L2.TT} {fp:List PySem.Addr} {led:Bool} {g:L2.TG} {tb:L2.TS}
namespace HT
open PySem PyProof.Rows
section
open PySem.SeqAt
open PySem.AutoSeq1 (wpAny_loadPart')
open PySem.MeetsSeq PySem.MeetsSeq2 PySem.MeetsSeq3
end
section
variable {w:World}
theorem ZS {t:Addr} {vs a:List Value} (y:IsTup s.heap t vs.toArray) (v:IsTup s.heap b a.toArray) (h:vs ≠ [])
  (x:a=[]->Q (.ref t) s) (u:a ≠ []->Q (.ref s.heap.objs.size) { s with heap:=s.heap.push { cls:=.type "tuple",data:=.seq (vs++a).toArray } })
  (hsz:vs.length+a.length<=sizeLine):wpAny (model prog w) A (binaryOp .Add (.ref t) (.ref b)) Q E s:=by
 obtain⟨⟨cls,m,data,q⟩,d,k,n,o⟩:=id y
 obtain⟨⟨p,g,data2,l⟩,f,r,j,i⟩:=id v
 simp only at k o r i
 subst k o r i
 have e:vs.toArray++a.toArray=(vs++a).toArray:=by simp
 by_cases c:a=[]
 ·exact concat_meets ⟨_,d,rfl⟩ ⟨_,f,rfl⟩ noFill_tuple_add seq_tuple_add PySem.F.slot_tuple_add PySem.F.entry_tuple_add (PySem.F.args_tuple_add_2 _ _)
   (tuple_addW1 t b vs.toArray a.toArray n j m g q l (by simpa using h) (by simp[c])) ⟨d,f,x c⟩
 ·refine concat_meets ⟨_,d,rfl⟩ ⟨_,f,rfl⟩ noFill_tuple_add seq_tuple_add PySem.F.slot_tuple_add PySem.F.entry_tuple_add (PySem.F.args_tuple_add_2 _ _)
   (tuple_addW2 t b vs.toArray a.toArray n j m g q l (by simpa using h) (by simpa using c) (by rw[List.size_toArray,List.size_toArray];exact hsz)) ⟨d,f,?_⟩
  rw[e]
  exact u c
def Dy (n d:Nat):Option Int->Nat
 | none=>d
 | some v=>if v<0 then (v+(n:Int)).toNat else min v.toNat n
theorem LR (n d:Nat):Dy n d none=d:=rfl
theorem GZ (n d k:Nat):Dy n d (some (k:Int))=min k n:=by
 show (if (k:Int)<0 then ((k:Int)+(n:Int)).toNat else min (k:Int).toNat n)=min k n
 rw[if_neg (by omega),bp]
theorem cj (n d:Nat) (b:d<=n) (o:Option Int):Dy n d o<=n:=by
 cases o with
 | none=>exact b
 | some v =>
  show (if v<0 then (v+(n:Int)).toNat else min v.toNat n)<=n
  by_cases a:v<0
  ·rw[if_pos a];omega
  ·rw[if_neg a];exact Nat.min_le_right _ _
theorem Ti (v:Int) (n d:Nat):(if v<0 then max (v+(n:Int)) 0 else min v (n:Int))=((Dy n d (some v):Nat):Int):=by
 show (if v<0 then max (v+(n:Int)) 0 else min v (n:Int))=(((if v<0 then (v+(n:Int)).toNat else min v.toNat n):Nat):Int)
 by_cases a:v<0
 ·simp only[if_pos a];omega
 ·simp only[if_neg a];omega
theorem RP (lo hi:Option Int) (n:Nat):Builtin.Slice.sliceAdjust lo hi 1 (n:Int)=(((Dy n 0 lo:Nat):Int),((Dy n n hi:Nat):Int)):=by
 have a:¬ ((1:Int)<0):=by omega
 unfold Builtin.Slice.sliceAdjust
 simp only[a,if_false]
 refine Prod.ext ?_ ?_
 ·cases lo with
  | none=>rfl
  | some v=>exact Ti v n 0
 ·cases hi with
  | none=>rfl
  | some v=>exact Ti v n n
theorem Q_ (i j:Nat):Builtin.Slice.slicePlaces (i:Int) (j:Int) 1=j - i:=by
 unfold Builtin.Slice.slicePlaces
 have a:(1:Int) > 0:=by omega
 simp only[a,if_true,Int.ediv_one]
 split <;> omega
theorem K3 {v:Value} {o:Option Int} {Q:Option Int->Shared->Prop} (p:IsPart v o) (h:Q o s):wpAny (model prog w) A (Builtin.Slice.slicePartIndex v) Q E s:=by
 cases p with
 | none=>exact slicePart_none h
 | int i t=>exact slicePart_int h
theorem J9 {e:Addr} {b a:Value} {lo hi:Option Int} {Q:Int × Int × Nat->Shared->Prop} (g:s.heap.IsSliceOf e b a .none) (pl:IsPart b lo) (f:IsPart a hi)
  (h:Q (((Dy n 0 lo:Nat):Int),1,Dy n n hi - Dy n 0 lo) s):wpAny (model prog w) A (Builtin.Slice.sliceApplied (.ref e) (pure (n:Int))) Q E s:=by
 obtain⟨os,d,i,c⟩:=id g
 unfold Builtin.Slice.sliceApplied Builtin.Slice.sliceFields
 refine wpAny_bind (wpAny_bind (wpAny_field d c (x:=b) rfl (wpAny_bind (wpAny_field d c (x:=a) rfl (wpAny_bind (wpAny_field d c (x:=.none) rfl (wpAny_pure ?_)))))))
 refine wpAny_bind (slicePart_none ?_)
 show wpAny _ _ (if ((1:Int) == 0)=true then _ else _) _ _ s
 rw[if_neg (by decide)]
 refine wpAny_bind (K3 pl (wpAny_bind (K3 f (wpAny_bind (wpAny_pure ?_)))))
 show wpAny _ _ (match Builtin.Slice.sliceAdjust lo hi 1 (n:Int) with | (lo,hi)=>pure (lo,(1:Int),Builtin.Slice.slicePlaces lo hi 1)) _ _ s
 rw[RP lo hi n]
 show wpAny _ _ (pure (((Dy n 0 lo:Nat):Int),(1:Int),Builtin.Slice.slicePlaces ((Dy n 0 lo:Nat):Int) ((Dy n n hi:Nat):Int) 1)) _ _ s
 rw[Q_]
 exact wpAny_pure h
theorem Wf (xs:Array Value) (i k:Nat):((List.range k).filterMap λ(m:Nat)=>xs[((i:Int)+(m:Int) * 1).toNat]?).toArray=((xs.toList.drop i).take k).toArray:=by
 have e:(λ(m:Nat)=>xs[((i:Int)+(m:Int) * 1).toNat]?)=λm=>xs[i+m]?:=by
  funext m
  have:((i:Int)+(m:Int) * 1).toNat=i+m:=by omega
  rw[this]
 rw[e]
 have:=pick_run xs i k
 rw[List.filterMap_map] at this
 have a:((λx=>xs[x]?) ∘ λx=>i+x)=λm=>xs[i+m]?:=rfl
 rw[a] at this
 rw[this]
theorem JZ {t f:Addr} {a:Array Value} {i g:Value} {lo hi:Option Int} (c:IsTup s.heap t a) (j:s.heap.IsSliceOf f i g .none) (pl:IsPart i lo) (l:IsPart g hi)
  (k:¬ (Dy a.size 0 lo=0/\Dy a.size a.size hi=a.size))
  (h:Q (.ref s.heap.objs.size) { s with heap:=s.heap.push { cls:=.type "tuple",data:=.seq ((a.toList.drop (Dy a.size 0 lo)).take (Dy a.size a.size hi - Dy a.size 0 lo)).toArray } })
  (hsz:a.size<=sizeLine):wpAny (model prog w) A (getItem (.ref t) (.ref f)) Q E s:=by
 have b:sizeOk (.seq ((a.toList.drop (Dy a.size 0 lo)).take (Dy a.size a.size hi - Dy a.size 0 lo)).toArray):=by
  show ((a.toList.drop (Dy a.size 0 lo)).take (Dy a.size a.size hi - Dy a.size 0 lo)).toArray.size<=sizeLine
  rw[bE,cm,kC,Array.length_toList]
  omega
 have p:Dy a.size a.size hi<=a.size:=cj _ _ (ah _) hi
 obtain⟨os,o,n,r⟩:=id j
 have d:s.TypeIs (.ref f) "slice":=⟨os,o,n⟩
 unfold getItem
 try with_reducible refine wpAny_holding ?_
 first | refine wpAny_bind (wpAny_pure ?_) | skip
 refine wpAny_bind (wpAny_sequenceKey c.typeIs (by decide) ?_)
 refine wpAny_bind (wpAny_callSpecial?_slot (name:=Str.ofString "__getitem__") c.typeIs PyProof.Rows.slot_tuple_getitem
  (wpAny_call_entry PyProof.Rows.slot_tuple_getitem c.typeIs entry_tuple_getitem ?_ (args_tuple_getitem _ _)))
 show wpAny _ _ (Builtin.Tuple.tupleItemsOf (.ref t) >>= _) _ _ s
 refine wpAny_bind (tupleItemsOf_ c ?_)
 refine wpAny_bind (wpAny_typeOf d ?_)
 rw[if_pos (by decide)]
 refine wpAny_bind (J9 j pl l ?_)
 have e:¬ ((((Dy a.size 0 lo:Nat):Int) == 0 && (1:Int) == 1 && (Dy a.size a.size hi - Dy a.size 0 lo) == a.size)=true):=by
  intro q
  rw[ff,ff] at q
  have v:((Dy a.size 0 lo:Nat):Int)=0:=eq_of_beq q.1.1
  have u:Dy a.size a.size hi - Dy a.size 0 lo=a.size:=eq_of_beq q.2
  exact k ⟨by omega,by omega⟩
 show wpAny _ _ (if (((Dy a.size 0 lo:Nat):Int) == 0 && (1:Int) == 1 && (Dy a.size a.size hi - Dy a.size 0 lo) == a.size)=true then _ else _) _ _ s
 rw[if_neg e,Wf]
 first
  | exact wpAny_bind (m:=Builtin.Tuple.tupleExact _) (wpAny_newObj_type (wpAny_pure ⟨_,rfl,wpAny_pure h⟩) b)
  | exact wpAny_bind (m:=Builtin.Tuple.tupleExact _) (wpAny_newObj_type (wpAny_bind (wpAny_pure (wpAny_pure ⟨_,rfl,wpAny_pure h⟩))) b)
  | exact wpAny_bind (wpAny_bind (m:=Builtin.Tuple.tupleExact _) (wpAny_newObj_type (wpAny_pure (wpAny_pure ⟨_,rfl,wpAny_pure h⟩)) b))
  | exact wpAny_bind (wpAny_bind (m:=Builtin.Tuple.tupleExact _) (wpAny_newObj_type (wpAny_pure ⟨_,rfl,wpAny_pure h⟩) b))
end
end HT
namespace L2
open PySem PySem.Spec PyProof.Rows
abbrev TO:=St->Hp->(Option Int->Hp->Prop)->Prop
def PO (X:Cx) (e:Option Expr) (t:TO):Prop :=
 ∀ (a8:List (Addr × Obj)) (s:Shared) (σ:St) (H:Hp) (Q:Option Int->Hp->Prop),Inv X a8 σ H s->t σ H Q ->
  wpAny (model X.prog X.w) X.A (evalPart e X.env) (λu s'=>∃ o H',Inv X a8 σ H' s'/\IsPart u o/\Q o H') X.xe s
def Y4:TO:=λ_ H Q=>Q none H
inductive Xp (Q:Option Int->Hp->Prop) (x:V) (H1:Hp):Prop
 | mk (i:_):x=.int i->Q (some i) H1->Xp Q x H1
def qt (t:TE):TO:=λσ H Q=>t σ H λx H1=>Xp Q x H1
section
variable {lo hi:Option Expr} {tl th:TO} {p2:Pos}
theorem GP:PO X none Y4:=by
 intro a s σ H Q I h
 rw[evalPart_none]
 exact wpAny_pure ⟨none,H,I,.none,h⟩
theorem Eu (h:PE X e te):PO X (some e) (qt te):=by
 intro a s σ H Q I b
 rw[evalPart_some]
 refine CJ (h a s σ H _ I b) λu k g=>?_
 obtain⟨x,j,d,f,c⟩:=g
 obtain⟨i,rfl,q⟩:=c
 obtain⟨t,rfl⟩:=f
 exact⟨some i,j,d,.int i t,q⟩
def wX (X:Cx) (r:V->Option Int->Option Int->Hp->VK->Prop):Prop :=
 ∀ (a8:List (Addr × Obj)) (s:Shared) (σ:St) (H:Hp) (x:V) (v vl vu:Value) (lo hi:Option Int) (sl:Addr) (Q:VK),Inv X a8 σ H s->RelV x v->s.heap.IsSliceOf sl vl vu .none->IsPart vl lo->IsPart vu hi->r x lo hi H Q ->
  ∃ T id,typeLookup (.type T) "__getitem__" = pure (some (.builtin id))/\s.TypeIs v T/\wpAny (model X.prog X.w) X.A (getItem v (.ref sl)) (EP X a8 σ Q) X.xe s
def tSl (r:V->Option Int->Option Int->Hp->VK->Prop) (te:TE) (tl th:TO):TE:=λσ H Q=>te σ H λx H1=>tl σ H1 λl H2=>th σ H2 λu H3=>r x l u H3 Q
theorem Ek {r:V->Option Int->Option Int->Hp->VK->Prop} (w:wX X r) (J:PE X e te) (z:PO X lo tl) (j:PO X hi th):PE X (.Subscript e (.Slice lo hi none p2) pos) (tSl r te tl th):=by
 intro c s σ H Q I h
 refine Subscript_ (CJ (J c s σ H _ I h) λv A g=>?_)
 obtain⟨x,M,K,L,n⟩:=g
 refine wpAny_Slice (CJ (z c A σ M _ K n) λd C ⟨l,p,m,t,E⟩=>CJ (j c C σ p _ m E) λf a g=>?_)
 obtain⟨u,i,o,F,B⟩:=g
 rw[evalPart_none]
 refine wpAny_pure ?_
 have k:Inv X c σ i { a with heap:=a.heap.push { cls:=.type "slice",data:=.fields #[d,f,.none] } }:=o.kept (t':=a.toks) λb N q=>Heap.get?_push_of_some _ q
 obtain⟨T,id,D,y,G⟩:=w c { a with heap:=a.heap.push { cls:=.type "slice",data:=.fields #[d,f,.none] } } σ i x v d f l u a.heap.objs.size Q k L (Heap.IsSliceOf.new ..) t F B
 show wpAny (model X.prog X.w) X.A (subscriptTail e (.Slice lo hi none p2) v (.ref a.heap.objs.size)) (EP X c σ Q) X.xe { a with heap:=a.heap.push { cls:=.type "slice",data:=.fields #[d,f,.none] } }
 exact tail_any (ops:=[.ref a.heap.objs.size,v]) y D G (by with_unfolding_all rfl)
def En (xs:List V) (lo hi:Option Int):List V:=(xs.drop (HT.Dy xs.length 0 lo)).take (HT.Dy xs.length xs.length hi - HT.Dy xs.length 0 lo)
theorem KQ (xs:List V) (lo hi:Option Int):(En xs lo hi).length<=xs.length:=by
 unfold En
 rw[cm,kC]
 omega
inductive ni (K:W.Frag) (x:V) (lo:Option Int) (hi:Option Int) (H:Hp) (Q:VK):Prop
 | mk (a xs:_):x=.ref a->HW K H a xs->¬ (HT.Dy xs.length 0 lo=0/\HT.Dy xs.length xs.length hi=xs.length)->(∀ p,H p=none->Q (.ref p) (upd H p (.tup (En xs lo hi))))->ni K x lo hi H Q
theorem Nj:wX X (ni X.K):=by
 intro w s σ H x v u t lo f z Q I p k n m h
 obtain⟨a,d,rfl,j,l,q⟩:=h
 cases p
 obtain⟨e,r,i,g⟩:=I.tuple j
 have c:e.toArray.size=d.length:=by rw[bE];exact r.length.symm
 refine⟨"tuple",_,PyProof.Rows.slot_tuple_getitem.lookup,i.typeIs,?_⟩
 refine HT.JZ i k n m (by rw[c];exact l) ?_ (by rw[c];exact g)
 rw[c]
 refine⟨.ref s.heap.objs.size,_,I.laid (t':=s.toks) (o:=.tup (En d lo f)) (λb y q=>Heap.get?_push_of_some _ q) (ah _) ?_,rfl,q _ (I.hok.fresh (ah _))⟩
 exact⟨be (KQ d lo f) g,_,(r.drop (HT.Dy d.length 0 lo)).take (HT.Dy d.length d.length f - HT.Dy d.length 0 lo),IsTup.new _ _⟩
inductive aW (K:W.Frag) (x:V) (y:V) (H:Hp) (Q:VK):Prop
 | mk (a b xs ys:_):x=.ref a->y=.ref b->HW K H a xs->HW K H b ys->xs ≠ []->xs.length+ys.length<=sizeLine->(ys=[]->Q (.ref a) H)->(ys ≠ []->∀ p,H p=none->Q (.ref p) (upd H p (.tup (xs++ys))))->aW K x y H Q
theorem Vals.Nv {us:List Value} (r:Vals xs us):us=[] ↔ xs=[]:=by
 cases r with
 | nil=>simp
 | cons _ _=>simp
theorem Z_:G4 X (binaryOp .Add) (aW X.K):=by
 intro C s σ H x y v u Q I A t h
 obtain⟨a,b,m,p,rfl,rfl,j,k,g,e,n,l⟩:=h
 cases A
 cases t
 obtain⟨r,d,f,_⟩:=I.tuple j
 obtain⟨B,c,i,_⟩:=I.tuple k
 refine HT.ZS f i (λz=>g (d.Nv.mp z)) (λz=>⟨.ref a,H,I,rfl,n (c.Nv.mp z)⟩) (λz=>?_) (by rw[<-d.length,<-c.length];exact e)
 refine⟨.ref s.heap.objs.size,_,I.laid (t':=s.toks) (o:=.tup (m++p)) (λb D q=>Heap.get?_push_of_some _ q) (ah _) ?_,rfl,l (λw=>z (c.Nv.mpr w)) _ (I.hok.fresh (ah _))⟩
 exact⟨by rw[al];exact e,_,d.append c,IsTup.new _ _⟩
end
def aL (n:Nat) (i:Int):Option Nat:=if 0<=i then (if i<n then some i.toNat else none) else if -(n:Int)<=i then some (i+n).toNat else none
def Ua {α:Type} (xs:List α) (i:Int):Option α:=(aL xs.length i).bind λj=>xs[j]?
theorem Tn {i:Int} (h:aL n i=some j):seqIndex? i n=some j/\j<n /\ -(n:Int)<=i/\i<n:=by
 unfold aL at h
 by_cases b:0<=i
 ·rw[if_pos b] at h
  by_cases a:i<n
  ·rw[if_pos a] at h
   have e:i.toNat=j:=Option.some.inj h
   exact⟨by rw[seqIndex_of b a,e],by omega,by omega,a⟩
  ·rw[if_neg a] at h;cases h
 ·rw[if_neg b] at h
  by_cases a : -(n:Int)<=i
  ·rw[if_pos a] at h
   have e:(i+n).toNat=j:=Option.some.inj h
   exact⟨by rw[seqIndex_neg (by omega) a,e],by omega,a,by omega⟩
  ·rw[if_neg a] at h;cases h
theorem Ng {α:Type} {xs:List α} {i:Int} {v:α} (h:Ua xs i=some v):∃ j,seqIndex? i xs.length=some j/\xs[j]? = some v/\j<xs.length /\ -(xs.length:Int)<=i/\i<xs.length:=by
 unfold Ua at h
 cases e:aL xs.length i with
 | none=>rw[e] at h;cases h
 | some j =>
  rw[e] at h
  obtain⟨d,b,a,c⟩:=Tn e
  exact⟨j,d,h,b,a,c⟩
theorem Ah {α:Type} {xs:List α} {v:α} (h:xs[j]? = some v):Ua xs (j:Int)=some v:=by
 have a:j<xs.length:=(ag.mp h).1
 have e:aL xs.length (j:Int)=some j:=by
  unfold aL
  rw[if_pos (by omega),if_pos (by omega)];simp
 unfold Ua;rw[e];exact h
def Yt (b:Expr):Prop:=∀ o i,subscripted b false o i=operate [o,i] (getItem o i)
def jb (X:Cx) (r:R2):Prop :=
 ∀ (value slice:Expr) (a8:List (Addr × Obj)) (s:Shared) (σ:St) (H:Hp) (x y:V) (v u:Value) (Q:VK),Inv X a8 σ H s->RelV x v->RelV y u->r x y H Q ->
  subscripted slice false v u=operate [v,u] (getItem v u)->wpAny (model X.prog X.w) X.A (subscriptTail value slice v u) (EP X a8 σ Q) X.xe s
def sZ (X:Cx) (id:String) (r:V->List V->Hp->VK->Prop):Prop :=
 ∀ (a8:List (Addr × Obj)) (s:Shared) (σ:St) (H:Hp) (x:V) (xs:List V) (v:Value) (us:List Value) (Q:VK),Inv X a8 σ H s->RelV x v->Vals xs us->r x xs H Q ->
  wpAny (model X.prog X.w) X.A (call (.builtin id) (v::us)) (EP X a8 σ Q) X.xe s
section
variable {a b:Expr} {tb:TE}
theorem Az {r:R2} (l:jb X r) (c:PE X a ta) (d:PE X b tb) (g:Yt b):PE X (.Subscript a b pos) (Z4 r ta tb):=by
 intro f s σ H Q I h
 exact Subscript_ (d_ c d I h λv u e x y j i m k q=>l a b f e σ j x y v u Q i m k q (g _ _))
inductive iD (K:W.Frag) (x:V) (y:V) (H:Hp) (Q:VK):Prop
 | mk (p xs i v:_):x=.ref p->y=.int i->Dc K H p xs->Ua xs i=some v->Q v H->iD K x y H Q
inductive Yp (K:W.Frag) (x:V) (y:V) (H:Hp) (Q:VK):Prop
 | mk (p xs i v:_):x=.ref p->y=.int i->HW K H p xs->Ua xs i=some v->Q v H->Yp K x y H Q
inductive kh (x:V) (y:V) (H:Hp) (Q:VK):Prop
 | mk (z i c:_):x=.str z->y=.int i->z.length<=sizeLine->Ua z.cps.toList i=some c->Q (.str ⟨#[c]⟩) H->kh x y H Q
theorem Ea:jb X (iD X.K):=by
 intro e f m s σ H x y v u Q I D o h g
 obtain⟨p,N,i,z,rfl,rfl,n,F,q⟩:=h
 cases D
 obtain⟨t,rfl⟩:=o
 obtain⟨b,r,c,L⟩:=I.list n
 obtain⟨j,a,E,M,B,A⟩:=Ng F
 obtain⟨w,k,G⟩:=r.get E
 have C:=r.length
 have K:=JK
 have fin:EP X m σ Q w s:=⟨z,H,I,G,q⟩
 by_cases l:0<=i
 ·have d:i.toNat=j:=by
   rw[seqIndex_of l A] at a
   exact Option.some.inj a
  exact item_listR c.isList l (by omega) (by rw[d];simpa using k) fin g
 ·have d:(i+(b.toArray.size:Int)).toNat=j:=by
   rw[seqIndex_neg (by omega) B] at a
   rw[bE,<-C]
   exact Option.some.inj a
  exact subscriptTail_builtinR (x:=w) c.isList.typeIs slot_list_getitem.lookup
   (wpAny_getItem_list_neg (Q:=λr J=>r=w/\EP X m σ Q r J) c.isList (by omega) (by rw[List.size_toArray] <;> omega) (by omega) (by rw[d];simpa using k) ⟨rfl,fin⟩) g
theorem ig:jb X (Yp X.K):=by
 intro a b d s σ H x y v u Q I n l h f
 obtain⟨p,L,i,z,rfl,rfl,e,B,q⟩:=h
 cases n
 obtain⟨t,rfl⟩:=l
 obtain⟨k,r,c,J⟩:=I.tuple e
 obtain⟨j,g,A,K,F,E⟩:=Ng B
 obtain⟨w,o,C⟩:=r.get A
 have m:=r.length
 have G:=JK
 have fin:EP X d σ Q w s:=⟨z,H,I,C,q⟩
 exact subscriptTail_builtinR (x:=w) c.typeIs slot_tuple_getitem.lookup
  (getItem_tuple (j:=j) (Q:=λr D=>r=w/\EP X d σ Q r D) c (by omega) (by omega) (by rw[List.size_toArray,<-m];exact g) (by simpa using o) ⟨rfl,fin⟩) f
theorem jL:jb X kh:=by
 intro a b B s σ H x y v u Q I r l h g
 obtain⟨z,i,c,rfl,rfl,C,k,q⟩:=h
 obtain⟨t,rfl⟩:=r
 obtain⟨A,rfl⟩:=l
 obtain⟨j,d,f,D,o,n⟩:=Ng k
 have p:z.cps.toList.length=z.length:=by simp[Str.length]
 rw[p] at d o n
 have w:=JK
 exact tail_any (typeIs_str s z t) slot_str_getitem.lookup (getItem_str (c:=c) (by
  have m:decide (i < -(2 ^ 63:Int))=false:=decide_eq_false (by omega)
  have e:decide (i ≥ 2 ^ 63)=false:=decide_eq_false (by omega)
  rw[m,e,Bool.or_false]) (by rw[d];simpa using f) ⟨.str ⟨#[c]⟩,H,I.tok _,⟨_,rfl⟩,q⟩) g
theorem Q8 (its:List Value) (n j:Nat) (u:Value):Obj.mapSeq (·.setIfInBounds j u) { cls:=.type "list",data:=.seq its.toArray n } = { cls:=.type "list",data:=.seq (its.set j u).toArray n }:=by
 simp[Obj.mapSeq]
theorem Inv.lst (I:Inv X a8 σ H s) (h:H p=some (.lst xs)) :
  ∃ (its:List Value) (n:Nat),Vals xs its/\s.heap.get? p=some { cls:=.type "list",data:=.seq its.toArray n }/\xs.length<=sizeLine:=by
 obtain⟨z,its,n,r,e⟩:=I.hok p _ h
 exact⟨its,n,r,e,z⟩
theorem Inv.cW {ys:List V} {its its':List Value} {n':Nat} {f:Obj->Obj} (I:Inv X a8 σ H s) (h:H p=some (.lst xs))
  (c:s.heap.get? p=some { cls:=.type "list",data:=.seq its.toArray n }) (a:f { cls:=.type "list",data:=.seq its.toArray n } = { cls:=.type "list",data:=.seq its'.toArray n' }) (r:Vals ys its') (g:ys.length<=sizeLine) (t:Nat) :
  Inv X a8 σ (upd H p (.lst ys)) { s with heap:=s.heap.update p f,toks:=t }:=by
 have e:(s.heap.update p f).get? p=some { cls:=.type "list",data:=.seq its'.toArray n' }:=by
  rw[Heap.get?_update_self f c (by rw[a] <;> rfl),a]
 refine I.write (x:=p) (e:=p) (by rw[h];trivial) (.inl rfl) (λb u d q=>(Heap.get?_update_other _ _ (Ne.symm d)).trans q) ⟨_,e⟩ ?_
 exact⟨g,its',n',r,e⟩
inductive bM (o:V) (i:V) (v:V) (H:Hp) (Q:Hp->Prop):Prop
 | mk (p xs k j:_):o=.ref p->i=.int k->H p=some (.lst xs)->aL xs.length k=some j->Q (upd H p (.lst (xs.set j v)))->bM o i v H Q
theorem set_list:ji X bM:=by
 intro z s σ H o i v J E u Q I B C y h
 obtain⟨p,D,k,j,rfl,rfl,f,x,q⟩:=h
 cases B
 obtain⟨t,rfl⟩:=C
 obtain⟨a,n,r,c,A⟩:=I.lst f
 obtain⟨b,F,w,g⟩:=Tn x
 have e:=r.length
 have G:=JK
 have m:Inv X z σ (upd H p (.lst (D.set j v))) { s with heap:=s.heap.update p (Obj.mapSeq (·.setIfInBounds j u)) } :=
  I.cW f c (Q8 a n j u) (r.set y j) (by rw[List.length_set];exact A) s.toks
 by_cases l:0<=k
 ·have d:k.toNat=j:=by
   rw[seqIndex_of l g] at b
   exact Option.some.inj b
  exact W.ki_setAt c l (by omega) (by rw[bE,<-e];exact g) (by rw[d];exact⟨_,m,q⟩)
 ·have d:(k+(a.toArray.size:Int)).toNat=j:=by
   rw[seqIndex_neg (by omega) w] at b
   rw[bE,<-e]
   exact Option.some.inj b
  exact W.ki_setBack c (by omega) (by rw[bE,<-e];exact w) (by omega) (by rw[d];exact⟨_,m,q⟩)
theorem NQ (lo hi:Option Int) (n:Nat):(sliceBounds lo hi none n).1=((HT.Dy n 0 lo:Nat):Int)/\(sliceBounds lo hi none n).2.1=((HT.Dy n n hi:Nat):Int)/\(sliceBounds lo hi none n).2.2=1:=by
 refine⟨?_,?_,rfl⟩
 ·cases lo with
  | none=>simp[sliceBounds,HT.Dy]
  | some i =>
   simp only[sliceBounds,HT.Dy,Option.getD_none,show (1:Int) > 0 by decide,if_true]
   by_cases h:i<0
   ·simp only[h,if_true] <;> omega
   ·simp only[h,if_false] <;> omega
 ·cases hi with
  | none=>simp[sliceBounds,HT.Dy]
  | some i =>
   simp only[sliceBounds,HT.Dy,Option.getD_none,show (1:Int) > 0 by decide,if_true]
   by_cases h:i<0
   ·simp only[h,if_true] <;> omega
   ·simp only[h,if_false] <;> omega
theorem MN (its:List Value) (lo hi:Option Int):slicePick its.toArray lo hi none=((its.drop (HT.Dy its.length 0 lo)).take (HT.Dy its.length its.length hi - HT.Dy its.length 0 lo)).toArray:=by
 obtain⟨c,b,a⟩:=NQ lo hi its.toArray.size
 unfold slicePick
 rw[c,b,a]
 simp only[sliceRange_one,pick_run,List.size_toArray] <;> rfl
inductive kW (K:W.Frag) (x:V) (lo:Option Int) (hi:Option Int) (H:Hp) (Q:VK):Prop
 | mk (a xs:_):x=.ref a->Dc K H a xs->(∀ p,H p=none->Q (.ref p) (upd H p (.lst (En xs lo hi))))->kW K x lo hi H Q
theorem Ja:wX X (kW X.K):=by
 intro u s σ H x v t p lo e y Q I n i m k h
 obtain⟨a,c,rfl,g,q⟩:=h
 cases n
 obtain⟨l,r,f,j⟩:=I.list g
 have d:=r.length
 refine⟨"list",_,slot_list_getitem.lookup,f.isList.typeIs,?_⟩
 refine wpAny_getItem_list_slice f.isList i m k .none (by simp) ?_ (by rw[List.size_toArray] <;> omega)
 rw[MN,<-d]
 refine⟨.ref s.heap.objs.size,_,I.laid (t':=s.toks) (o:=.lst (En c lo e)) (λb w q=>Heap.get?_push_of_some _ q) (ah _) ?_,rfl,q _ (I.hok.fresh (ah _))⟩
 exact⟨be (KQ c lo e) j,_,0,(r.drop (HT.Dy c.length 0 lo)).take (HT.Dy c.length c.length e - HT.Dy c.length 0 lo),Heap.get?_push_size _ rfl⟩
def GK:V->Bool
 | .non=>true
 | .bl _=>true
 | .int _=>true
 | .str _=>true
 | _=>false
def Ql:V->V->Bool
 | .non,.non=>true
 | .bl a,.bl b=>a == b
 | .bl a,.int b=>(if a then 1 else 0) == b
 | .int a,.bl b=>a == (if b then 1 else 0)
 | .int a,.int b=>a == b
 | .str a,.str b=>a == b
 | _,_=>false
theorem Xj {x:V} {v:Value} (e:RelV y u) (c:RelV x v) (g:GK y=true) (f:GK x=true):SeqAt.EqAt A s u v (Ql y x):=by
 cases y with
 | non =>
  cases e
  cases x with
  | non=>cases c;exact SeqAt.EqAt.same _
  | bl b=>cases c;exact SeqAt.EqAt.none_bool b
  | int b=>obtain⟨t,rfl⟩:=c;exact SeqAt.EqAt.none_int b t
  | str b=>obtain⟨t,rfl⟩:=c;exact SeqAt.EqAt.none_str b t
  | _=>exact absurd (show false=true from f) Bool.false_ne_true
 | bl a =>
  cases e
  cases x with
  | non=>cases c;exact SeqAt.EqAt.bool_none a
  | bl b=>cases c;exact SeqAt.EqAt.bool_bool a b
  | int b=>obtain⟨t,rfl⟩:=c;exact SeqAt.EqAt.bool_int a b t
  | str b=>obtain⟨t,rfl⟩:=c;exact SeqAt.EqAt.bool_str a b t
  | _=>exact absurd (show false=true from f) Bool.false_ne_true
 | int a =>
  obtain⟨d,rfl⟩:=e
  cases x with
  | non=>cases c;exact SeqAt.EqAt.int_none a d
  | bl b=>cases c;exact SeqAt.EqAt.int_bool a d b
  | int b=>obtain⟨t,rfl⟩:=c;exact SeqAt.EqAt.int_int a d b t
  | str b=>obtain⟨t,rfl⟩:=c;exact SeqAt.EqAt.int_str a d b t
  | _=>exact absurd (show false=true from f) Bool.false_ne_true
 | str a =>
  obtain⟨d,rfl⟩:=e
  cases x with
  | non=>cases c;exact SeqAt.EqAt.str_none a d
  | bl b=>cases c;exact SeqAt.EqAt.str_bool a d b
  | int b=>obtain⟨t,rfl⟩:=c;exact SeqAt.EqAt.str_int a d b t
  | str b=>obtain⟨t,rfl⟩:=c;exact SeqAt.EqAt.str_str a d b t
  | _=>exact absurd (show false=true from f) Bool.false_ne_true
 | _=>exact absurd (show false=true from g) Bool.false_ne_true
def Qu (x:V) (u:Value):Bool:=match u with
 | .none=>Ql .non x
 | .bool b=>Ql (.bl b) x
 | .int i _=>Ql (.int i) x
 | .str z _=>Ql (.str z) x
 | _=>false
theorem Xo {x:V} (r:RelV y u) (f:GK y=true):Qu x u=Ql y x:=by
 cases y with
 | non=>cases r;rfl
 | bl b=>cases r;rfl
 | int i=>obtain⟨t,rfl⟩:=r;rfl
 | str z=>obtain⟨t,rfl⟩:=r;rfl
 | _=>exact absurd (show false=true from f) Bool.false_ne_true
theorem JN {x:V}:∀ {xs:List V} {us:List Value},Vals xs us->xs.all GK=true->us.any (Qu x)=xs.any λy=>Ql y x
 | _,_,.nil,_=>rfl
 | y::xs,u::us,.cons r t,f=>by
  rw[List.all_cons,ff] at f
  rw[ki,ki,Xo r f.1,JN t f.2]
theorem Ht {x:V} {v:Value} (b:RelV x v) (c:GK x=true):∀ {xs:List V} {us:List Value},Vals xs us->xs.all GK=true->∀ u∈us,SeqAt.EqAt A s u v (Qu x u)
 | _,_,.nil,_=>λu a=>by cases a
 | y::xs,u::us,.cons r t,f=>λd a=>by
  rw[List.all_cons,ff] at f
  rcases ci.mp a with rfl | a
  ·rw[Xo r f.1];exact Xj r b f.1 c
  ·exact Ht b c t f.2 d a
def inV (x:V) (xs:List V):Bool:=xs.any λy=>Ql y x
inductive nA (K:W.Frag) (neg:Bool) (x:V) (y:V) (H:Hp) (Q:VK):Prop
 | mk (p xs:_):y=.ref p->(Dc K H p xs \/ HW K H p xs)->GK x=true->xs.all GK=true->Q (.bl (if neg then !inV x xs else inV x xs)) H->nA K neg x y H Q
theorem Mm:G4 X (compareOp .In) (nA X.K false):=by
 intro j s σ H x y v u Q I f i h
 obtain⟨p,k,rfl,b,e,fs,q⟩:=h
 cases i
 rcases b with b | b
 ·obtain⟨a,r,d,g⟩:=I.list b
  refine SeqAt.in_listAt (Qu x) d.isList (λw c=>Ht f e r fs w (by simpa using c)) ⟨.bl _,H,I,rfl,?_⟩
  rw[show a.toArray.any (Qu x)=a.any (Qu x) by simp,JN r fs]
  exact q
 ·obtain⟨a,r,d,g⟩:=I.tuple b
  refine SeqAt.in_tupleAt (Qu x) d (λw c=>Ht f e r fs w (by simpa using c)) ⟨.bl _,H,I,rfl,?_⟩
  rw[show a.toArray.any (Qu x)=a.any (Qu x) by simp,JN r fs]
  exact q
theorem Ob:G4 X (compareOp .NotIn) (nA X.K true):=by
 intro j s σ H x y v u Q I f i h
 obtain⟨p,k,rfl,b,e,fs,q⟩:=h
 cases i
 rcases b with b | b
 ·obtain⟨a,r,d,g⟩:=I.list b
  refine SeqAt.notIn_listAt (Qu x) d.isList (λw c=>Ht f e r fs w (by simpa using c)) ⟨.bl _,H,I,rfl,?_⟩
  rw[show a.toArray.any (Qu x)=a.any (Qu x) by simp,JN r fs]
  exact q
 ·obtain⟨a,r,d,g⟩:=I.tuple b
  refine SeqAt.notIn_tupleAt (Qu x) d (λw c=>Ht f e r fs w (by simpa using c)) ⟨.bl _,H,I,rfl,?_⟩
  rw[show a.toArray.any (Qu x)=a.any (Qu x) by simp,JN r fs]
  exact q
theorem BL:Fd X (.builtin "len") (λxs H Q=>∃ p ys,xs=[.ref p]/\(Dc X.K H p ys \/ HW X.K H p ys)/\Q (.int ys.length) H):=by
 intro j s σ H xs k Q I r h
 obtain⟨p,ys,rfl,b,q⟩:=h
 obtain⟨u,rfl,g⟩:=vals1 r
 cases g
 have i:=JK
 rcases b with b | b
 ·obtain⟨d,c,e,f⟩:=I.list b
  have a:=c.length
  exact Calls.call_len_list e.isList (by simp only[List.size_toArray] <;> omega) ⟨.int ys.length,H,I.tok _,⟨s.toks+1,by rw[List.size_toArray,a]⟩,q⟩
 ·obtain⟨d,c,e,f⟩:=I.tuple b
  have a:=c.length
  exact len_tuple e (by simp only[List.size_toArray] <;> omega) ⟨.int ys.length,H,I.tok _,⟨s.toks+1,by rw[List.size_toArray,a]⟩,q⟩
theorem Jh:Fd X (.builtin "len") (λxs H Q=>∃ z,xs=[.str z]/\z.length<=sizeLine/\Q (.int z.length) H):=by
 intro b s σ H xs a Q I r h
 obtain⟨z,rfl,c,q⟩:=h
 obtain⟨u,rfl,t,rfl⟩:=vals1 r
 have d:=JK
 exact len_str (by omega) ⟨.int z.length,H,I.tok _,⟨_,rfl⟩,q⟩
theorem Ej:Fd X (.type "list") (λxs H Q=>∃ p ys,xs=[.ref p]/\(Dc X.K H p ys \/ HW X.K H p ys)/\∀ l,H l=none->Q (.ref l) (upd H l (.lst ys))):=by
 intro z s σ H xs A Q I r h
 obtain⟨p,ys,rfl,g,q⟩:=h
 obtain⟨u,rfl,y⟩:=vals1 r
 cases y
 have fin:∀ (a:List Value),Vals ys a->ys.length<=sizeLine->∀ (c:Heap) (f:Nat),(∀ b x,s.heap.get? b=some x->c.get? b=some x) ->
   c.get? s.heap.objs.size=some { cls:=.type "list",dict:=none,data:=.seq a.toArray f,slots:=#[] }->EP X z σ Q (.ref s.heap.objs.size) { s with heap:=c }:=λa d k c f i e =>
  ⟨.ref s.heap.objs.size,_,I.laid (t':=s.toks) i (Nat.le_refl _) (show CT X.prog X.w _ c _ (.lst ys) from ⟨k,a,f,d,e⟩),rfl,q _ (I.hok.fresh (Nat.le_refl _))⟩
 rcases g with g | g
 ·obtain⟨a,d,v,k⟩:=I.list g
  have j:=d.length
  obtain⟨o,w,m,n,t⟩:=v.isList
  exact call_list_seq p (.inl rfl) w m t (λc f i e=>fin a d k c f i e) (by simp only[List.size_toArray] <;> omega)
 ·obtain⟨a,d,v,k⟩:=I.tuple g
  have j:=d.length
  obtain⟨o,w,m,n,t⟩:=v
  exact call_list_seq p (.inr rfl) w m t (λc f i e=>fin a d k c f i e) (by simp only[List.size_toArray] <;> omega)
theorem MJ:Fd X (.type "tuple") (λxs H Q=>∃ p ys,xs=[.ref p]/\((Dc X.K H p ys/\∀ l,H l=none->Q (.ref l) (upd H l (.tup ys))) \/ (HW X.K H p ys/\Q (.ref p) H))):=by
 intro i s σ H xs w Q I r h
 obtain⟨p,ys,rfl,h⟩:=h
 obtain⟨u,rfl,v⟩:=vals1 r
 cases v
 rcases h with⟨d,q⟩ | ⟨d,q⟩
 ·obtain⟨a,f,g,j⟩:=I.list d
  have k:=f.length
  refine call_tuple_list g.isList (λc n=>?_) (by simp only[List.size_toArray] <;> omega)
  have m:Inv X i σ H { s with heap:=c }:=I.kept (t':=s.toks) n
  have t:Inv X i σ (upd H c.objs.size (.tup ys)) { s with heap:=c.push { cls:=.type "tuple",data:=.seq a.toArray } } :=
   m.laid (t':=s.toks) (λb o e=>Heap.get?_push_of_some _ e) (Nat.le_refl _) (show CT X.prog X.w _ _ _ (.tup ys) from ⟨j,a,f,IsTup.new _ _⟩)
  exact⟨.ref c.objs.size,_,t,rfl,q _ (m.hok.fresh (ah _))⟩
 ·obtain⟨a,f,g,j⟩:=I.tuple d
  exact call_tuple_same g ⟨.ref p,H,I,rfl,q⟩
def tZ (K:W.Frag) (T:String) (x:V) (H:Hp):Prop:=match x with
 | .str _=>T = "str"
 | .int _=>T = "int"
 | .ref p=>(T = "list" /\ ∃ xs,Dc K H p xs) \/ (T = "tuple" /\ ∃ o,K.lookup p=some o/\o.cls=.type "tuple" /\ o.dict=none) \/
   (T = "dict" /\ ((∃ kvs,H p=some (.dK kvs)) \/ ∃ kvs,H p=some (.dT kvs))) \/ (T = "set" /\ ∃ S n,H p=some (.set S n))
 | _=>False
theorem Xe {T:String} {x:V} {v:Value} (I:Inv X a8 σ H s) (r:RelV x v) (f:tZ X.K T x H) :
  s.TypeIs v T/\∀ a,v=.ref a->∃ ob,s.heap.get? a=some ob/\ob.dict=none:=by
 cases x with
 | str z =>
  obtain⟨t,rfl⟩:=r
  cases (show T = "str" from f)
  exact⟨typeIs_str s z t,λ_ e=>nomatch e⟩
 | int i =>
  obtain⟨t,rfl⟩:=r
  cases (show T = "int" from f)
  exact⟨typeIs_int s i t,λ_ e=>nomatch e⟩
 | ref p =>
  cases r
  rcases f with⟨rfl,u,l⟩ | ⟨rfl,o,b,m,h⟩ | ⟨rfl,b⟩ | ⟨rfl,S,n,b⟩
  ·obtain⟨q,_,k,_⟩:=I.list l
   refine⟨k.isList.typeIs,λa e=>?_⟩
   cases e
   obtain⟨o,n,e,c,h,_⟩:=k
   exact⟨o,e,h⟩
  ·refine⟨⟨o,I.Gy p o b,m⟩,λa e=>?_⟩
   cases e
   exact⟨o,I.Gy _ o b,h⟩
  ·have z:∃ o,s.heap.get? p=some o/\o.ExactDict:=by
    rcases b with⟨j,b⟩ | ⟨j,b⟩
    ·obtain⟨_,_,_,_,o,_,_,e,d,_⟩:=I.hok p _ b
     exact⟨o,e,d⟩
    ·obtain⟨_,_,_,_,o,_,_,e,d,_⟩:=I.hok p _ b
     exact⟨o,e,d⟩
   obtain⟨o,e,d⟩:=z
   refine⟨⟨o,e,d.1⟩,λa g=>?_⟩
   cases g
   exact⟨o,e,d.2.1⟩
  ·obtain⟨o,_,_,_,e,d,_⟩:=I.hok p _ b
   refine⟨⟨o,e,d.1⟩,λa g=>?_⟩
   cases g
   exact⟨o,e,d.2.1⟩
 | _=>exact False.elim f
def yH (K:W.Frag) (T:String) (r:V->List V->Hp->VK->Prop) (to:TE):TE:=λσ H Q=>to σ H λx H1=>tZ K T x H1/\r x [] H1 Q
def z7 (K:W.Frag) (T:String) (r:V->List V->Hp->VK->Prop) (to:TE) (t:TA):TE:=λσ H Q=>to σ H λx H1=>tZ K T x H1/\t σ H1 λxs H2=>r x xs H2 Q
variable {o:Expr} {to:TE} {t:TA} {name:Str} {g0:Pos} {T id:String} {r:V->List V->Hp->VK->Prop}
theorem Wi (p:PlainAttrs T) (b:Slot T name id) (j:typeOf (.builtin id)=pure (.type "method_descriptor")) (n:sZ X id r) (k:PE X o to)
  (a:attributeBase o name X.env (eval o X.env)=eval o X.env:=by rfl) (m:(d6.endLine == g0.line)=true:=by rfl):PE X (.Call (.Attribute o name d6) [] [] g0) (yH X.K T r to):=by
 intro c s σ H Q I h
 refine wpAny_Call_method0_late a m (CJ (k c s σ H _ I h) λv f q=>?_)
 obtain⟨x,t,d,e,u,l⟩:=q
 obtain⟨i,g⟩:=Xe d e u
 exact⟨T,id,p,b,j,i,g,Calls.callWith_builtin rfl (PySem.evalArgs_none (n c f σ t x [] v [] Q d e .nil l))⟩
theorem Gj (J:PlainAttrs T) (c:Slot T name id) (w:typeOf (.builtin id)=pure (.type "method_descriptor")) (G:sZ X id r) (y:PE X o to) (k:PA X (e::es) t)
  (b:attributeBase o name X.env (eval o X.env)=eval o X.env:=by rfl)
  (E:((backTo g0 (starEach (e::es) X.env)).all (λx=>!x.1) && (backToKw g0 (keywordEach [] X.env)).all (λx=>x.1.isSome)
   && decide ((e::es).length+([]:List Keyword).length+(if ([]:List Keyword).isEmpty then 0 else 1)<30))=true:=by rfl)
  (F:(d6.endLine == g0.line)=true:=by rfl) (q:starEach (e::es) X.env=(false,eval e X.env)::starEach es X.env:=by rfl) (a:(backTo g0 (starEach es X.env)).any (·.1)=false:=by rfl) :
  PE X (.Call (.Attribute o name d6) (e::es) [] g0) (z7 X.K T r to t):=by
 intro d s σ H Q I h
 refine wpAny_Call_method_late b E F rfl (CJ (y d s σ H _ I h) λv j K=>?_)
 obtain⟨x,L,f,g,M,B⟩:=K
 obtain⟨u,n⟩:=Xe f g M
 refine⟨T,id,J,c,w,u,n,?_⟩
 have i:=k g0 d j σ L _ f B
 rw[q] at i |-
 refine Calls.callWith_builtin (by show (false || (backTo g0 (starEach es X.env)).any (·.1))=false;rw[a] <;> rfl) (Calls.evalArgs_plain ?_)
 exact CJ i λC p ⟨l,D,A,m,z⟩=>G d p σ D x l v C Q A g m z
end
def ym (X:Cx) (id:String) (r:V->List V->Hp->VK->Prop):Prop :=
 ∀ (a8:List (Addr × Obj)) (s:Shared) (σ:St) (H:Hp) (x:V) (xs:List V) (v:Value) (us:List Value) (Q:VK),Inv X a8 σ H s->RelV x v->Vals xs us->r x xs H Q ->
  wpAny (model X.prog X.w) X.A (call (.builtin id) (v::us)) (EP X a8 σ Q) X.xe s
theorem Vals.one:∀ {x:V} {us:List Value},Vals [x] us->∃ u,us=[u]/\RelV x u:=λh=>by cases h with | cons r t=>cases t;exact⟨_,rfl,r⟩
theorem Vals.two:∀ {x y:V} {us:List Value},Vals [x,y] us->∃ u v,us=[u,v]/\RelV x u/\RelV y v:=λh=>by cases h with | cons r t=>cases t with | cons q t=>cases t;exact⟨_,_,rfl,r,q⟩
theorem Vals.eraseIdx:∀ {xs:List V} {us:List Value} (i:Nat),Vals xs us->Vals (xs.eraseIdx i) (us.eraseIdx i)
 | _,_,_,.nil=>.nil
 | _,_,0,.cons _ t=>t
 | _,_,i+1,.cons r t=>.cons r (Vals.eraseIdx i t)
theorem Mr {α:Type}:∀ (l:List α) (i:Nat),(l.eraseIdx i).length<=l.length
 | [],_=>ah _
 | _::_,0=>iP _
 | _::r,i+1=>dA (Mr r i)
section
variable {l:Addr} {ys zs:List V}
theorem Inv.eY {its its':List Value} {f:Array Value->Array Value} {t':Nat} (I:Inv X a8 σ H s) (c:H l=some (.lst xs))
  (e:s.heap.get? l=some { cls:=.type "list",data:=.seq its.toArray n }) (d:f its.toArray=its'.toArray) (b:Vals ys its') (h:ys.length<=sizeLine) :
  Inv X a8 σ (upd H l (.lst ys)) { s with heap:=s.heap.update l (Obj.mapSeq f),toks:=t' }:=by
 have q:=PySem.IsL.update e f
 rw[d] at q
 refine I.write (x:=l) (e:=l) (by rw[c];exact trivial) (.inl rfl) (λi u g a=>(Heap.get?_update_other s.heap (Obj.mapSeq f) (Ne.symm g)).trans a) ⟨_,q⟩ ?_
 exact⟨h,its',_,b,q⟩
theorem Inv.gD {its:List Value} {t':Nat} (I:Inv X a8 σ H s) (a:Vals ys its) (b:ys.length<=sizeLine) :
  Inv X a8 σ (upd H s.heap.objs.size (.lst ys)) { s with heap:=s.heap.push { cls:=.type "list",data:=.seq its.toArray },toks:=t' } :=
 I.laid (λ_ _ q=>Heap.get?_push_of_some _ q) (ah _) ⟨b,its,0,a,Heap.get?_push_size _ rfl⟩
theorem Inv.fresh (I:Inv X a8 σ H s):H s.heap.objs.size=none:=I.hok.fresh (ah _)
theorem Inv.U8 (I:Inv X a8 σ H s) (a:H l=some (.lst xs)):xs.length<=sizeLine/\∃ (its:List Value) (n:Nat),Vals xs its/\xs.length=its.length/\s.heap.get? l=some { cls:=.type "list",data:=.seq its.toArray n }:=by
 obtain⟨z,its,n,r,e⟩:=I.hok l _ a
 exact⟨z,its,n,r,r.length,e⟩
theorem XX (h:n<=sizeLine):Builtin.List.listTooLong n=false:=by
 unfold Builtin.List.listTooLong
 exact decide_eq_false (by omega)
end
inductive Rj (x:V) (vs:List V) (H:Hp) (Q:VK):Prop
 | mk (l xs y:_):x=.ref l->vs=[y]->H l=some (.lst xs)->xs.length<sizeLine->Q .non (upd H l (.lst (xs++[y])))->Rj x vs H Q
theorem DK:ym X "list.append" Rj:=by
 intro i s σ H x g v k Q I f c h
 obtain⟨l,m,y,rfl,rfl,b,j,q⟩:=h
 cases f
 obtain⟨u,rfl,d⟩:=c.one
 obtain⟨z,a,n,r,o,e⟩:=I.U8 b
 refine call_meets F.slot_list_append ⟨_,e,rfl⟩ F.entry_list_append (F.args_list_append_2 _ _) (PySem.list_append l a.toArray n u (by rw[bE];omega)) ⟨e,?_⟩
 refine⟨.non,_,I.eY (its':=a++[u]) b e (by simp) (r.append (.cons d .nil)) ?_,rfl,q⟩
 rw[al,ax]
 omega
inductive S_ (x:V) (vs:List V) (H:Hp) (Q:VK):Prop
 | mk (l b xs zs:_):x=.ref l->vs=[.ref b]->H l=some (.lst xs)->H b=some (.lst zs)->xs.length+zs.length<=sizeLine->Q .non (upd H l (.lst (xs++zs)))->S_ x vs H Q
theorem VH:ym X "list.extend" S_:=by
 intro B s σ H x G v D Q I i j h
 obtain⟨l,b,J,y,rfl,rfl,g,k,C,q⟩:=h
 cases i
 obtain⟨u,rfl,m⟩:=j.one
 cases m
 obtain⟨z,a,n,r,E,e⟩:=I.U8 g
 obtain⟨w,d,t,o,A,p⟩:=I.U8 k
 have f:a.toArray.size+d.toArray.size<=sizeLine:=by rw[bE,bE];omega
 have c:¬ (!a.toArray.isEmpty && Builtin.List.listTooLong (a.toArray.size+d.toArray.size))=true:=by
  rw[XX f,Bool.and_false]
  exact fb
 refine call_meets F.slot_list_extend ⟨_,e,rfl⟩ F.entry_list_extend (F.args_list_extend_2 _ _)
  (AutoSeq1.list_extend_list_list_0 l a.toArray n b d.toArray t c (by rw[bE];omega) (by omega)) ⟨e,p,?_⟩
 refine⟨.non,_,I.eY (its':=a++d) g e (by simp) (r.append o) ?_,rfl,q⟩
 rw[al]
 omega
inductive Xq (x:V) (vs:List V) (H:Hp) (Q:VK):Prop
 | mk (l xs i k y:_):x=.ref l->vs=[.int i]->H l=some (.lst xs)->-(2 ^ 63)<=i->i<2 ^ 63->seqIndex? i xs.length=some k->xs[k]? = some y->Q y (upd H l (.lst (xs.eraseIdx k)))->Xq x vs H Q
theorem W4:ym X "list.pop" Xq:=by
 intro E s σ H x D v G Q I C c h
 obtain⟨l,A,i,k,y,rfl,rfl,b,j,f,p,d,q⟩:=h
 cases C
 obtain⟨u,rfl,g⟩:=c.one
 obtain⟨t,rfl⟩:=g
 obtain⟨z,a,n,r,B,e⟩:=I.U8 b
 obtain⟨w,m,o⟩:=r.get d
 refine call_meets F.slot_list_pop ⟨_,e,rfl⟩ F.entry_list_pop (F.args_list_pop_2 _ _)
  (MeetsSeq.list_pop_at l a.toArray n i t k w (fitsIndex_both j f) (by rw[bE,<-B];exact p) (by rw[<-Array.getElem?_toList];exact m) (by rw[bE];omega)) ⟨e,?_⟩
 refine⟨y,_,I.eY (its':=a.eraseIdx k) b e ?_ (r.eraseIdx k) ?_,o,q⟩
 ·show a.toArray.eraseIdxIfInBounds k=(a.eraseIdx k).toArray
  rw[List.eraseIdxIfInBounds_toArray]
 ·have:=Mr A k
  omega
inductive gn (x:V) (y:V) (H:Hp) (Q:VK):Prop
 | mk (l b xs zs:_):x=.ref l->y=.ref b->H l=some (.lst xs)->H b=some (.lst zs)->xs.length+zs.length<=sizeLine->(∀ p,H p=none->Q (.ref p) (upd H p (.lst (xs++zs))))->gn x y H Q
theorem Qw:G4 X (binaryOp .Add) gn:=by
 intro t s σ H x y v u Q I m k h
 obtain⟨l,b,C,o,rfl,rfl,g,j,B,q⟩:=h
 cases m
 cases k
 obtain⟨z,a,n,r,D,e⟩:=I.U8 g
 obtain⟨w,c,A,d,p,f⟩:=I.U8 j
 refine PySem.P.add_list e f ?_ (by rw[bE,bE];omega)
 have i:a.toArray++c.toArray=(a++c).toArray:=by simp
 rw[i]
 exact⟨.ref _,_,I.gD (t':=s.toks) (r.append d) (by rw[al];omega),rfl,q _ I.fresh⟩
section
variable {w:World}
end
end L2
namespace Att
open PySem PySem.W PySem.Calls PyProof.Rows
theorem Ke {P:Params}:∀ (ns:List Int) (vs:List Value),WellAll P h vs (ns.map WData.int)->IntsAre vs ns:=by
 intro ns
 induction ns with
 | nil =>
  intro vs w
  rw[kG] at w
  cases w
  exact .nil
 | cons n ns c =>
  intro vs w
  rw[dc] at w
  cases w with
  | cons a b =>
   cases a
   exact .cons _ _ (c _ b)
theorem Ud {l:OpenLaw} (x:l.most=some n) {P:Params} {args:List WData} {m:List Value}
  (j:l.row.toRowW.claim.pre args=true) (g:WellAll P h m args) :
  ∃ a vs ns,m=[Value.ref a]/\args=[WData.list (ns.map WData.int)]/\h.get? a=some { cls:=.type "list",data:=.seq vs.toArray }/\IntsAre vs ns/\ns.length<=n:=by
 have i:WShape.hasAll [] args [.list .int]=true:=(pre_splitW j).1
 have k:l.pre.holds [] { args:=args }=true:=(pre_splitW j).2
 obtain⟨d,r,rfl,p,o⟩:=hasAllW_cons i
 obtain rfl:=hasAllW_nil o
 obtain⟨y,rfl,u⟩:=hasW_list p
 obtain⟨ns,rfl⟩:=items_int u
 have b:ns.length<=n:=by
  unfold OpenLaw.pre at k
  have f:(WTm.not (.lt (.lit (.int (n:Int))) (.len (.arg 0)))).holds [] { args:=[.list (ns.map .int)] }=true:=by
   have f:=(holds_andW k).1
   rw[x] at f
   exact f
  have e:=condW_of f (w_not (w_lt w_lit (w_len_list (w_arg rfl))))
  rw[af] at e
  refine Nat.le_of_not_lt λq=>?_
  have t:(n:Int)<((ns.length:Nat):Int):=by omega
  first
   | (rw[decide_eq_true t] at e;exact absurd e (by decide))
   | (simp at e;omega)
 cases g with
 | cons w v =>
  cases v
  cases w with
  | list s c=>exact⟨_,_,ns,rfl,rfl,s,Ke ns _ c,b⟩
theorem VL (l:OpenLaw) (args:List WData):l.row.toRowW.claim.post args (.bool true) args=true :=
 postW_of (r:=l.row.toRowW) (X:=(true == true))
  (show WShape.has [] (.bool true) .bool=true by first | rfl | decide | simp[WShape.has,WShape.arms,WShape.armsAll])
  (show (WTm.eq .res (.lit (.bool true))).value [] { args:=args,res:=some (.bool true),after:=args }=some (.bool (true == true)) from w_eq_bool (w_res rfl) w_lit) rfl
theorem Pj {l:OpenLaw} {q:Program} {s:List Str} {t:(Str->Option Value)->Heap->Prop} {v:World->Heap->Prop} {d:DefRec}
  (J:l.most=some n) (z:d.params.defaults=[])
  (call:∀ (w:World) (m b:Shared) (h p:Str->Option Value) (e:Addr) (o:Obj) (j g i:Value) (a:Addr) (vs:List Value) (ns:List Int),
   Ground q s [] t w m h p b.heap->v w b.heap ->
   b.heap.get? e=some o->o.data=.func (docDef d.name d.params d.body d.scope j g i)->b.heap.CodeRec g d.name->h d.name=some (.ref e) ->
   b.heap.get? a=some { cls:=.type "list",data:=.seq vs.toArray }->IntsAre vs ns->ns.length<=n->b.gens = #[] ->
   codeAny (model l.prog w) callerA (.call (.ref e) ⟨[.ref a],[]⟩) (λr s'=>r=.ok (.ret (.bool true))/\OldK b.heap s'.heap/\s'.os=b.os/\AllBare s'.gens) b) :
  WalkO q s t v l.row.toRowW d [] (λf vs=>PySem.call f vs):=by
 intro w m b h p G Y e o j g i F kV N C D u A O args Q S K x H k R
 obtain rfl:F=.none:=Dflts.none u z
 obtain rfl:kV=.none:=Dflts.noKw u
 obtain⟨a,vs,ns,rfl,rfl,M,B,c⟩:=Ud J K k
 refine enter_call (codeAny_mono (call w m b h p e o j g i a vs ns G Y N (fd_plain C) D A M B c O) λr s' y=>?_)
 obtain⟨rfl,L,P,I⟩:=y
 exact⟨.inl ⟨.bool true,.bool true,[],rfl,λ_=>rfl,.bool true,VL l _,λ_=>⟨List.Pairwise.nil,λ_ E=>(nomatch E)⟩⟩,L,P,I⟩
section
variable {w:World} {K:Frag}
end
end Att
namespace L2
open PySem PySem.Spec PyProof.Rows
theorem M6:∀ {vs:List Value} {ns:List Int},IntsAre vs ns->Vals (ns.map V.int) vs
 | _,_,.nil=>.nil
 | _,_,.cons n t h=>.cons ⟨t,rfl⟩ (M6 h)
def Only (H:Hp):Prop:=∀ b,H b=none \/ ∃ o xs,H b=some (.frz o (.lst xs))
theorem YB {w:World} {K:W.Frag} {J:Str->Option Value} {CX:QT} {k:Nat} {G:Addr} {sp:Sp} {c:Shared} {vs:List Value} {ns:List Int}
  (M:K.In c.heap) (y:c.heap.Ns mainGlobals mg) (g:c.heap.Ns builtinsNs J) (I:∀ x:Str,x ≠ "__name__"->J x=bootBuiltins x) (MZ:c.heap.NoLimit) (hg:c.gens = #[])
  (D:c.heap.get? a=some { cls:=.type "list",data:=.seq vs.toArray }) (hi:IntsAre vs ns) (R:ns.length<=sizeLine) (hr:A_ k callerA)
  (F:∀ base:Heap,K.In base->base.Ns mainGlobals mg->Ao P w K mg base CX k G fd [x] sp) (JU:∀ (s:Shared) (u:Value),BindsTo s fd ⟨[u],[]⟩ [(x,u)])
  (sL:∀ H:Hp,Only H->Dc K H a (ns.map V.int)->sp [.ref a] H (λv _=>v=.bl true) λ_ _ _=>False)
  (MW:∀ H e s',CX [] H c (λ_ _ _=>False) e s'->False) :
  codeAny (model P w) callerA (.call (.ref G) ⟨[.ref a],[]⟩) (λr s'=>r=.ok (.ret (.bool true))/\OldK c.heap s'.heap/\s'.os=c.os/\AllBare s'.gens) c:=by
 have N:=M6 hi
 have OR:=hi.length
 have j:∀ H:Hp,Only H->Dc K H a (ns.map V.int)->GD P w H c.heap->(∀ b,H b ≠ none->b=a)->(H a ≠ none->K.lookup a=none) ->
   codeAny (model P w) callerA (.call (.ref G) ⟨[.ref a],[]⟩) (λr s'=>r=.ok (.ret (.bool true))/\OldK c.heap s'.heap/\s'.os=c.os/\AllBare s'.gens) c:=by
  intro H Q U l O hK
  have f:∀ {b:Addr} {o:Obj},c.heap.get? b=some o->H b=none->(Nf c.heap H).get? b=some o:=λe n=>Vy e n
  have L:∀ {b:Addr} {o:Obj} {B:Array DictEntry} {C:Nat},c.heap.get? b=some o->o.data=.dict B C->H b=none:=λ{b o B C} e d=>by
   cases q:H b with
   | none=>rfl
   | some u =>
    have E:b=a:=O b (by rw[q];simp)
    subst E
    rw[D] at e;cases e
    have Y:Data.seq vs.toArray _=Data.dict B C:=d
    cases Y
  have i:∀ {b:Addr} {m:Str->Option Value},c.heap.Ns b m->(Nf c.heap H).Ns b m:=λ{b m} ⟨o,B,C,e,d,r⟩=>⟨o,B,C,f e (L e d),d,r⟩
  have A:K.In (Nf c.heap H):=λb o e=>f (M b o e) (by
   cases q:H b with
   | none=>rfl
   | some u =>
    have E:b=a:=O b (by rw[q];simp)
    subst E
    rw[hK (by rw[q];simp)] at e;cases e)
  have hM:Mod K mg (Nf c.heap H):=⟨A,i y,⟨J,i g,I⟩,let ⟨T,h1,h2⟩:=MZ;⟨T,i h1,h2⟩⟩
  have e0:O6 P w K mg (Nf c.heap H) callerA [] c H:=⟨rfl,hM,λb o e=>Zi e,Nat.le_of_eq (Uz _ _),trivial,λb g=>absurd (show b∈([]:List Addr) from g) (by simp),l,.of_eq hg⟩
  refine codeAny_mono ((F _ A (i y)).run callerA [] c H ⟨[.ref a],[]⟩ [.ref a] [.ref a] _ _ hr e0 (JU c (.ref a)) (.cons rfl .nil) (sL H Q U)) λr s' h=>?_
  cases r with
  | error e=>exact (MW H e s' h).elim
  | ok fl =>
   cases fl with
   | next=>exact False.elim h
   | brk=>exact False.elim h
   | cont=>exact False.elim h
   | ret u =>
    obtain⟨v,H',os,t,un,X,r',q⟩:=h
    have q':v=.bl true:=q
    subst q'
    obtain rfl:u=Value.bool true:=r'
    refine⟨rfl,OldK.of_keep λb o e=>?_,os,t⟩
    cases q:H b with
    | none=>exact un.keep b o e q (by intro z;exact absurd (show b∈([]:List Addr) from z) (by simp)) (by simp)
    | some u =>
     rcases Q b with z | ⟨ob,xs,z⟩
     ·rw[q] at z;cases z
     ·have Z:=un.frzs b ob _ z
      obtain⟨S,_⟩:=l b _ z
      obtain⟨e2,_⟩:=X b _ Z
      rw[e] at S;cases S
      exact e2
 cases hk:K.lookup a with
 | some o =>
  have e:=M a o hk
  rw[D] at e
  cases e
  refine j (λ_=>none) (λ_=>.inl rfl) (.inr ⟨_,vs.toArray,_,hk,rfl,rfl,rfl,by rw[List.size_toArray,OR];exact R,by simpa using N⟩) (λb u z=>by have p:(none:Option HO)=some u:=z;cases p) (λb z=>absurd rfl z) λz=>absurd rfl z
 | none =>
  refine j (λb=>if b=a then some (.frz { cls:=.type "list",data:=.seq vs.toArray } (.lst (ns.map V.int))) else none) (λb=>?_) (.inl (.inr ⟨{ cls:=.type "list",data:=.seq vs.toArray },if_pos rfl⟩)) (λb u z=>?_) (λb z=>?_) λ_=>hk
  ·by_cases g:b=a
   ·exact .inr ⟨_,_,if_pos g⟩
   ·exact .inl (if_neg g)
  ·by_cases g:b=a
   ·have p:=(if_pos g).symm.trans z
    cases p
    subst g
    exact⟨D,by rw[af];exact R,vs,_,N,D⟩
   ·have p:=(if_neg g).symm.trans z
    cases p
  ·by_cases g:b=a
   ·exact g
   ·exact absurd (if_neg g) z
theorem Z8 {l:W.OpenLaw} {k:Nat} {q:Program} {B:List Str} {E:(Str->Option Value)->Heap->Prop} {m:World->Heap->Prop} {d:DefRec} {K:Params->W.Frag} {CX:World->QT} {sp:World->Sp}
  (J:l.most=some n) (i:n<=sizeLine) (p:d.params.defaults=[]) (C:A_ k callerA)
  (L:∀ (w:World) (h:Heap),m w h->(K w.params).In h)
  (F:∀ (w:World) (c:Str->Option Value) (g:Addr) (h:Heap),(K w.params).In h->h.Ns mainGlobals c->c d.name=some (.ref g) ->
   ∃ fd:FuncData,(∀ (s:Shared) (u:Value),BindsTo s fd ⟨[u],[]⟩ [(x,u)]) /\
    ∀ base:Heap,(K w.params).In base->base.Ns mainGlobals c->Ao l.prog w (K w.params) c base (CX w) k g fd [x] (sp w))
  (z:∀ (w:World) (H:Hp) (a:Addr) (ns:List Int),ns.length<=n->Only H->Dc (K w.params) H a (ns.map V.int)->sp w [.ref a] H (λv _=>v=.bl true) λ_ _ _=>False)
  (D:∀ (w:World) (H:Hp) (s:Shared) (e:Value) (s':Shared),CX w [] H s (λ_ _ _=>False) e s'->False) :
  W.WalkO q B E m l.row.toRowW d [] (λf vs=>PySem.call f vs):=by
 refine Att.Pj J p λw X y c mb g o U Q R a vs ns G Y Z S T r O A b P=>?_
 have j:=L w _ Y
 obtain⟨fd,N,M⟩:=F w c g _ j G.T.g r
 exact YB j G.T.g G.T.b G.T.builtins G.T.nolimit P O A (be b i) C M N (λH I t=>z w H a ns b I t) λH e s'=>D w H y e s'
def inClass (s:Stmt) (j:Nat):Stmt:=match s with
 | .ClassDef _ _ _ body _ _ _ _ _ _ _=>body.getD j (.Pass ⟨0,0,0,0⟩)
 | _=>.Pass ⟨0,0,0,0⟩
def DY (s:Stmt):Arguments:=match s with
 | .FunctionDef _ a _ _ _ _ _ _ _ _=>a
 | _=>{ posonlyargs:=[],args:=[],vararg:=none,kwonlyargs:=[],kw_defaults:=[],kwarg:=none,defaults:=[] }
def CZ (s:Stmt):List Stmt:=match s with
 | .FunctionDef _ _ b _ _ _ _ _ _ _=>b
 | _=>[]
def Ac (s:Stmt):Scope:=match s with
 | .FunctionDef _ _ _ _ _ _ sc _ _ _=>sc
 | _=>{ kind:=.function,names:=[],isGenerator:=false,isCoroutine:=false }
abbrev Bb:QT:=λ_ _ _ _ _ _=>False
abbrev E0:XK:=λ_ _ _=>False
theorem Am:Ga Bb X E0:=λ_ _ _ _ _ _ _ h=>h.elim
structure Cd (K:W.Frag) (x qual:Str) (st:Stmt) (f:Addr) (fd:FuncData):Prop where
 ex:∃ (oc:Value) (od:Option Addr) (kV kN pm:Value) (an:Option Addr) (i4 ct:Value) (qf:Array (Option Value)),
  fd=W.fnOf x qual (DY st) (CZ st) (Ac st) .none kV kN pm an i4 ct/\K.lookup f=some ⟨oc,od,.func fd,qf⟩/\W.codeIn K i4 qual=true
 kp:W.keepIn K (.ref f)=true
section
variable {w:World} {K:W.Frag}
theorem Cd.ok {st:Stmt} {N:List Str} {k:Nat} {sp:Sp} (F:Cd K x qual st f fd) (S:Aq N ps (Ac st)) (len:∀ vs H Q E,sp vs H Q E->vs.length=ps.length)
  (e:∀ (b:Value) (A:Around) (a:List Env) (s:Shared) (H:Hp) (vs:List V) (Q:VK) (E:XK),A_ k (A.deeper (envOfC qual (Ac st) s.heap.objs.size f b))->sp vs H Q E ->
   ∃ t,Nh (J_ Bb P w K mg base N qual (Ac st) f b A a s H E).j7 (CZ st) t/\t { nx:=λ_ H'=>Q .non H',rt:=Q } (start N vs) H):Ao P w K mg base Bb (k+1) f fd ps sp:=by
 obtain⟨l,r,kV,j,p,m,b,o,n,rfl,c,i⟩:=F.ex
 refine Vs c i S len λA a s H vs Q E g d=>?_
 obtain⟨t,h,q⟩:=e b A a s H vs Q E g d
 exact⟨t,h.j7,q⟩
theorem Cd.DQ {st:Stmt} {N:List Str} {k:Nat} {sp:Sp} (F:Cd K x qual st f fd) (S:Aq N ps (Ac st))
  (c:∀ {b:Value} {A:Around} {a:List Env} {s:Shared} (H:Hp) (vs:List V) (Q:VK) (E:XK),A_ k (A.deeper (envOfC qual (Ac st) s.heap.objs.size f b))->sp vs H Q E ->
   ∃ t,Nh (J_ Bb P w K mg base N qual (Ac st) f b A a s H E).j7 (CZ st) t/\t { nx:=λ_ H'=>Q .non H',rt:=Q } (start N vs) H)
  (len:∀ vs H Q E,sp vs H Q E->vs.length=ps.length:=by intro _ _ _ _ h;cases h;subst_vars;rfl):Ao P w K mg base Bb (k+1) f fd ps sp:=F.ok S len λ_ _ _ _ H vs Q E=>c H vs Q E
theorem Cd.binds {st:Stmt} (F:Cd K x qual st f fd)
  (h:∀ (kV a e:Value) (b:Option Addr) (d c:Value) (us:List Value),us.length=ps.length->bindArgs (W.fnOf x qual (DY st) (CZ st) (Ac st) .none kV a e b d c) ⟨us,[]⟩=pure (ps.zip us)):Binds K fd ps []:=by
 obtain⟨i,l,kV,a,e,b,d,c,j,rfl,g,k⟩:=F.ex
 exact .all (h kV a e b d c)
theorem Qn {st:Stmt} {h:Value} {j e:Option Addr} {i:Array (Option Value)} {kV b g a d:Value} (l:K.lookup f=some ⟨h,j,.func (W.fnOf x qual (DY st) (CZ st) (Ac st) .none kV b g e a d),i⟩)
  (c:W.codeIn K a qual=true) (k:W.keepIn K (.ref f)=true):Cd K x qual st f (W.fnOf x qual (DY st) (CZ st) (Ac st) .none kV b g e a d):=⟨⟨h,j,kV,b,g,e,a,d,i,rfl,l,c⟩,k⟩
end
theorem CN {k:Nat} (a:A_ k A):A.units+1<cLine:=ar (Nat.add_le_add_left (by decide:1<=64) _) a.units
theorem BK (h:n<=1000):n<sizeLine:=ar h (by decide)
theorem pv (i:Nat) (d:X.N[i]? = some x:=by rfl) (b:vg X.env.scope x:=by first | exact Or.inl rfl | exact Or.inr (Or.inl rfl) | exact Or.inr (Or.inr rfl)) (c:(x == ("__debug__" : Str))=false:=by decide)
  (a:(x == ("__classdict__" : Str))=false:=by decide):PE X (.Name x pos) (U5 i):=gZ d b c a
theorem wT {K:W.Frag} {T:Addr} {x:V} {w:Str} {Q:Bool->Hp->Prop} (b:H T=some (.tup (x::xs))) (h:Q (decide (x=V.str w)) H) (c:σ[i]? = some (some (.ref T)):=by rfl) (a:dN x (.str w)=true:=by rfl):YX (Z4 zZ (Z4 (Yp K) (U5 i) (tC (.int 0))) (tC (.str w))) σ H Q:=⟨_,c,T,_,_,_,rfl,rfl,.inl (.inl b),Ah (j:=0) rfl,a,_,rfl,h⟩
theorem Bk {A B:Prop} (h:B):if false=true then A else B:=by
 rw[if_neg fb]
 exact h
theorem Dd {A B:Prop} (h:A):if true=true then A else B:=by
 rw[if_pos rfl]
 exact h
theorem C_ {c A B:Prop} [Decidable c] (b:c->A) (a:¬ c->B):if c then A else B:=by
 by_cases h:c
 ·rw[if_pos h]
  exact b h
 ·rw[if_neg h]
  exact a h
theorem bT {c A B:Prop} [Decidable c] (a:c) (h:B):if (!decide c)=true then A else B:=by
 rw[decide_eq_true a]
 exact Bk h
def An (H H':Hp):Prop:=∀ b o,H b=some o->H' b=some o
theorem An.refl (H:Hp):An H H:=λ_ _ h=>h
theorem An.trans (a:An H H1) (b:An H1 H2):An H H2:=λc o h=>b c o (a c o h)
theorem An.free (e:An H H') {l:Addr} (h:H' l=Option.none):H l=Option.none:=by
 cases q:H l with
 | none=>rfl
 | some o =>
  rw[e l o q] at h
  cases h
theorem An.seq {K:W.Frag} (e:An H H') (h:Dc K H a xs):Dc K H' a xs:=by
 rcases h with (h | ⟨o,h⟩) | h
 ·exact .inl (.inl (e _ _ h))
 ·exact .inl (.inr ⟨o,e _ _ h⟩)
 ·exact .inr h
section
variable {κ:Type} [DecidableEq κ]
theorem Tt:∀ {l:List κ} {k:κ},l.Nodup->¬ k∈l->(l++[k]).Nodup
 | [],k,_,_=>by simp
 | a::r,k,h,b=>by
  obtain⟨c,d⟩:=hZ.mp h
  show (a::(r++[k])).Nodup
  refine hZ.mpr ⟨λm=>?_,Tt d λm=>b (ci.mpr (Or.inr m))⟩
  rcases bX.mp m with q | q
  ·exact c q
  ·exact b (ci.mpr (Or.inl (av.mp q).symm))
end
section
variable {w:World}
theorem Ks {b:Array Value} {x:Value} (j:s.heap.IsTupleIter it a i) (l:s.heap.IsTuple a b) (k:b[i]? = some x)
  (q:∀ h',h'.IsTupleIter it a (i+1)->Heap.SameBut it s.heap h'->Q x { s with heap:=h' }):wpAny (model prog w) A (Builtin.SmallTypes.nextOf (.ref it)) Q E s:=by
 have f:=j
 obtain⟨o,e,c,d⟩:=j
 obtain⟨m,g,_,n,h⟩:=l
 unfold Builtin.SmallTypes.nextOf
 refine wpAny_bind (wpAny_callSpecial?_slot (name:=Str.ofString "__next__") f.typeIs F.slot_tuple_iterator_next (wpAny_call_entry F.slot_tuple_iterator_next f.typeIs F.entry_tuple_iterator_next ?_ (F.args_tuple_iterator_next_1 _)))
 refine (show wpAny _ _ (field (.ref it) 0 >>= _) _ _ s from wpAny_bind (wpAny_field e d (x:=.ref a) rfl ?_))
 refine (show wpAny _ _ (if (Value.ref a == Value.none)=true then _ else _) _ _ s from ?_)
 rw[if_neg (by exact fb)]
 refine (show wpAny _ _ (field (.ref it) 1 >>= _) _ _ s from wpAny_bind (wpAny_field e d (x:=.int i 0) rfl ?_))
 refine (show wpAny _ _ (seqItems? (.ref a) >>= _) _ _ s from wpAny_bind (wpAny_seqItems g h ?_))
 simp only[Int.toNat_natCast,k]
 exact wpAny_bind (wpAny_setField e d (by simp) (wpAny_pure ⟨x,rfl,wpAny_pure (q _ ⟨_,Heap.get?_update_self _ e (Obj.isFreed_of_fields (Obj.data_mapFields d _)),(Obj.cls_mapFields ..).trans c,by rw[Obj.data_mapFields d];simp[rawInt]⟩ (Heap.SameBut.update ..))⟩))
theorem Kz {b:Array Value} (f:A.handled=none) (j:s.heap.IsTupleIter it a i) (p:s.heap.IsTuple a b) (l:b[i]? = none)
  (q:∀ h' e,Heap.ExtBut it s.heap h'->(∃ o,h'.get? e=some o/\o.cls=.type "StopIteration")->E (.ref e) { s with heap:=h' }):wpAny (model prog w) A (Builtin.SmallTypes.nextOf (.ref it)) Q E s:=by
 have g:=j
 obtain⟨o,e,c,d⟩:=j
 obtain⟨r,h,_,n,k⟩:=p
 unfold Builtin.SmallTypes.nextOf
 refine wpAny_bind (wpAny_callSpecial?_slot (name:=Str.ofString "__next__") g.typeIs F.slot_tuple_iterator_next (wpAny_call_entry F.slot_tuple_iterator_next g.typeIs F.entry_tuple_iterator_next ?_ (F.args_tuple_iterator_next_1 _)))
 refine (show wpAny _ _ (field (.ref it) 0 >>= _) _ _ s from wpAny_bind (wpAny_field e d (x:=.ref a) rfl ?_))
 refine (show wpAny _ _ (if (Value.ref a == Value.none)=true then _ else _) _ _ s from ?_)
 rw[if_neg (by exact fb)]
 refine (show wpAny _ _ (field (.ref it) 1 >>= _) _ _ s from wpAny_bind (wpAny_field e d (x:=.int i 0) rfl ?_))
 refine (show wpAny _ _ (seqItems? (.ref a) >>= _) _ _ s from wpAny_bind (wpAny_seqItems h k ?_))
 simp only[Int.toNat_natCast,l]
 refine wpAny_bind (wpAny_rule (wpAny_bind (wpAny_setField e d (by simp) (show wpAny _ _ (newExc (.type "StopIteration") [] >>= _) _ _ _ from wpAny_bind ?_))))
 simp only[newExc,newTuple]
 refine wpAny_bind (wpAny_newObj_type (wpAny_bind (m:=firstArgMember _ _) (wpAny_of_eq (a:=Value.none) (by first | rfl | (simp only[firstArgMember];rfl)) (wpAny_newObj_type ?_ (by size_fits)))) (by size_fits))
 simp only[raiseNew]
 refine wpAny_bind (wpAny_handled ?_)
 first | rw[show A.in1.handled=none from f] | rw[f]
 exact wpAny_bind (wpAny_pure (wpAny_throw (q _ _ (((Heap.SameBut.update ..).extBut.push _).push _) ⟨_,Heap.get?_push_size _ rfl,rfl⟩)))
theorem Uy {TI TO g f p m:Addr} {k:Nat} {xs ys:Array Value} {x y a b:Value} (D:ZipApart z TI TO g f p m)
  (t:IsZip s.heap z TI TO .none) (hI:IsPair s.heap TI (.ref g) (.ref f)) (hO:IsPair s.heap TO a b)
  (j1:s.heap.IsTupleIter g p k) (j2:s.heap.IsTupleIter f m k) (t1:s.heap.IsTuple p xs) (W:s.heap.IsTuple m ys) (V:xs[k]? = some x) (hy:ys[k]? = some y)
  (q:∀ h',IsZip h' z TI TO (rawInt s.heap.objs.size)->IsPair h' TO x y->h'.IsTupleIter g p (k+1)->h'.IsTupleIter f m (k+1)->IsPair h' s.heap.objs.size x y->h'.objs.size=s.heap.objs.size+1 ->
   (∀ c o,c ≠ z->c ≠ TO->c ≠ g->c ≠ f->s.heap.get? c=some o->h'.get? c=some o)->Q (.ref s.heap.objs.size) { s with heap:=h' }) :
  wpAny (model prog w) A (Builtin.«zip.__next__» ⟨[.ref z],[]⟩) (λfin s'=>∃ v,fin=.done (.ret v)/\Q v s') E s:=by
 refine (show wpAny _ _ (field (.ref z) 2 >>= _) _ _ _ from wpAny_bind (wpAny_field t rfl (x:=.bool false) rfl (show wpAny _ _ (field (.ref z) 3 >>= _) _ _ _ from wpAny_bind (wpAny_field t rfl (x:=.ref TI) rfl (wpAny_bind (wpAny_seqItems hI rfl ?_))))))
 refine (show wpAny _ _ (Builtin.SmallTypes.ownedTupleIsFree (.ref z) >>= _) _ _ _ from wpAny_bind ?_)
 unfold Builtin.SmallTypes.ownedTupleIsFree
 refine wpAny_bind (wpAny_field t rfl (x:=.none) rfl (wpAny_pure ?_))
 simp only[if_true]
 refine wpAny_bind (wpAny_rule (wpAny_bind (wpAny_field t rfl (x:=.ref TO) rfl (wpAny_bind (wpAny_setField_rec t (by simp) λh1 z1 h=>?_)))))
 have T:IsZip h1 z TI TO .ellipsis:=z1
 refine wpAny_bind ?_
 simp only[List.zipIdx_cons,List.zipIdx_nil,List.forIn_cons,List.forIn_nil]
 refine wpAny_bind (wpAny_bind (wpAny_onRaise (show wpAny _ _ (Builtin.SmallTypes.nextOf (.ref g) >>= _) _ _ _ from wpAny_bind (Ks (j1.at λo e=>h.extBut _ _ D.i1z e) (t1.at λo e=>h.extBut _ _ D.l1z e) V λh2 S j=>wpAny_pure ?_))))
 have P:IsPair h2 TO a b:=j.extBut _ _ D.TOi1 (h.extBut _ _ D.TOz hO)
 refine wpAny_bind (wpAny_seqItems P rfl (wpAny_bind (wpAny_updateSeq_pair P λh3 p3 l=>?_)))
 have Y:IsPair h3 TO x b:=p3
 refine wpAny_bind (wpAny_letGo (wpAny_pure ?_))
 refine wpAny_bind (wpAny_bind (wpAny_onRaise (show wpAny _ _ (Builtin.SmallTypes.nextOf (.ref f) >>= _) _ _ _ from wpAny_bind (Ks (j2.at λo e=>l.extBut _ _ D.TOi2.symm (j.extBut _ _ D.i12.symm (h.extBut _ _ D.i2z e)))
  (W.at λo e=>l.extBut _ _ D.l2TO (j.extBut _ _ D.l2i1 (h.extBut _ _ D.l2z e))) hy λh4 n2 n=>wpAny_pure ?_))))
 have L:IsPair h4 TO x b:=n.extBut _ _ D.TOi2 Y
 refine wpAny_bind (wpAny_seqItems L rfl (wpAny_bind (wpAny_updateSeq_pair L λd p5 u=>?_)))
 have N:IsPair d TO x y:=p5
 refine wpAny_bind (wpAny_letGo (wpAny_pure (wpAny_pure (wpAny_bind (wpAny_seqItems N rfl (wpAny_bind (wpAny_newTuple ?_)))))))
 have M:d.objs.size=s.heap.objs.size:=by rw[u.1,n.1,l.1,j.1,h.1]
 have R:IsZip d z TI TO .ellipsis:=u.extBut _ _ D.TOz.symm (n.extBut _ _ D.i2z.symm (l.extBut _ _ D.TOz.symm (j.extBut _ _ D.i1z.symm T)))
 have k5:∀ c o,c ≠ z->c ≠ TO->c ≠ g->c ≠ f->s.heap.get? c=some o->d.get? c=some o:=λc o i B G F e=>u.extBut _ _ B (n.extBut _ _ F (l.extBut _ _ B (j.extBut _ _ G (h.extBut _ _ i e))))
 have m1:d.IsTupleIter g p (k+1):=S.at λo e=>u.extBut _ _ D.TOi1.symm (n.extBut _ _ D.i12 (l.extBut _ _ D.TOi1.symm e))
 have m2:d.IsTupleIter f m (k+1):=n2.at λo e=>u.extBut _ _ D.TOi2.symm e
 have I:z<d.objs.size:=Heap.lt_size R
 refine (show wpAny _ _ (Builtin.SmallTypes.ownedTupleHandOut (.ref z) (.ref d.objs.size) >>= _) _ _ _ from wpAny_bind ?_)
 unfold Builtin.SmallTypes.ownedTupleHandOut
 have U:IsZip (d.push { cls:=.type "tuple",data:=.seq #[x,y] }) z TI TO .ellipsis:=Heap.get?_push_of_some _ R
 refine wpAny_bind (wpAny_setField_rec U (by simp) λh7 p7 C=>?_)
 have Z:IsZip h7 z TI TO (rawInt d.objs.size):=p7
 refine wpAny_setField_rec Z (by simp) λr X H=>?_
 have O:IsZip r z TI TO (rawInt d.objs.size):=X
 have up:∀ c o,c ≠ z->d.get? c=some o->r.get? c=some o:=λc o i e=>H.extBut _ _ i (C.extBut _ _ i (Heap.get?_push_of_some _ e))
 have J:IsPair r d.objs.size x y:=H.extBut _ _ (hV I) (C.extBut _ _ (hV I) (Heap.get?_push_size _ rfl))
 have K:r.objs.size=d.objs.size+1:=by rw[H.1,C.1,Heap.size_push]
 rw[M] at O J K
 refine wpAny_pure ⟨_,rfl,?_⟩
 show Q (.ref d.objs.size) _
 rw[M]
 exact q r O (up _ _ D.TOz N) (m1.at λo e=>up _ o D.i1z e) (m2.at λo e=>up _ o D.i2z e) J K λc o i B G F e=>up c o i (k5 c o i B G F e)
theorem Wl {TI TO f g h y:Addr} {k:Nat} {xs:Array Value} {a b:Value} {Q:Fin->Shared->Prop} (F:A.handled=none) (D:ZipApart z TI TO f g h y)
  (d:IsZip s.heap z TI TO .none) (L:IsPair s.heap TI (.ref f) (.ref g)) (O:IsPair s.heap TO a b)
  (j1:s.heap.IsTupleIter f h k) (N:s.heap.IsTuple h xs) (v:xs[k]? = none)
  (q:∀ h' e,(∀ c o,c ≠ z->c ≠ TO->c ≠ f->c ≠ g->s.heap.get? c=some o->h'.get? c=some o)->(∃ o,h'.get? e=some o/\o.cls=.type "StopIteration")->E (.ref e) { s with heap:=h' }) :
  wpAny (model prog w) A (Builtin.«zip.__next__» ⟨[.ref z],[]⟩) Q E s:=by
 refine (show wpAny _ _ (field (.ref z) 2 >>= _) _ _ _ from wpAny_bind (wpAny_field d rfl (x:=.bool false) rfl (show wpAny _ _ (field (.ref z) 3 >>= _) _ _ _ from wpAny_bind (wpAny_field d rfl (x:=.ref TI) rfl (wpAny_bind (wpAny_seqItems L rfl ?_))))))
 refine (show wpAny _ _ (Builtin.SmallTypes.ownedTupleIsFree (.ref z) >>= _) _ _ _ from wpAny_bind ?_)
 unfold Builtin.SmallTypes.ownedTupleIsFree
 refine wpAny_bind (wpAny_field d rfl (x:=.none) rfl (wpAny_pure ?_))
 simp only[if_true]
 refine wpAny_bind (wpAny_rule (wpAny_bind (wpAny_field d rfl (x:=.ref TO) rfl (wpAny_bind (wpAny_setField_rec d (by simp) λB C j=>?_)))))
 have t:IsZip B z TI TO .ellipsis:=C
 refine wpAny_bind ?_
 simp only[List.zipIdx_cons,List.zipIdx_nil,List.forIn_cons,List.forIn_nil]
 refine wpAny_bind (wpAny_bind (wpAny_onRaise (show wpAny _ _ (Builtin.SmallTypes.nextOf (.ref f) >>= _) _ _ _ from wpAny_bind (Kz F (j1.at λo e=>j.extBut _ _ D.i1z e) (N.at λo e=>j.extBut _ _ D.l1z e) v λI x n K=>?_))))
 obtain⟨G,i,l⟩:=K
 have m:IsZip I z TI TO .ellipsis:=n _ _ D.i1z.symm t
 have H:x ≠ z:=λu=>by subst u;rw[m] at i;cases i;simp at l
 exact wpAny_setField_rec m (by simp) λM _ r=>q M x (λc o p _ J _ e=>r.extBut _ _ p (n _ _ J (j.extBut _ _ p e))) ⟨G,r.extBut _ _ H i,l⟩
end
abbrev rE (h:Heap) (a1:Addr):Heap:=h.push { cls:=.type "tuple_iterator",data:=.fields #[.ref a1,.int 0 0] }
abbrev su (h:Heap) (a1 a2:Addr):Heap:=(rE h a1).push { cls:=.type "tuple_iterator",data:=.fields #[.ref a2,.int 0 0] }
abbrev sX (h:Heap) (a1 a2:Addr):Heap:=(su h a1 a2).push { cls:=.type "tuple",data:=.seq #[.ref h.objs.size,.ref (rE h a1).objs.size] }
abbrev q_ (h:Heap) (a1 a2:Addr):Heap:=(sX h a1 a2).push { cls:=.type "tuple",data:=.seq #[.none,.none] }
abbrev iy (h:Heap) (a1 a2:Addr):Heap:=(q_ h a1 a2).push { cls:=.type "zip",data:=.fields #[.none,.bool false,.bool false,.ref (su h a1 a2).objs.size,.ref (sX h a1 a2).objs.size] }
theorem XN (a b:Addr) (xs ys:Array Value):Meets (Builtin.«zip.__new__» ⟨[.type "zip",.ref a,.ref b],[]⟩) (λ_ R s=>s.heap.IsTuple a xs/\s.heap.IsTuple b ys /\
   R (.ok (.ret (.ref (q_ s.heap a b).objs.size))) { s with heap:=iy s.heap a b }) :=
 .of_wp λj w A R s h=>by
  obtain⟨f,g,d,c,os⟩:=s
  obtain⟨m,k,h⟩:=h
  have i:=sub_zip
  have l:Heap.IsTuple (Shared.heap ⟨f,g,d,c,os⟩) a xs:=m
  have n:Heap.IsTuple (Shared.heap ⟨f.push { cls:=.type "tuple_iterator",data:=.fields #[.ref a,.int 0 0] },g,d,c,os⟩) b ys:=Heap.IsTuple.at k λo e=>Heap.get?_push_of_some _ e
  wp_walk using wpAny_pyIter_tuple l,wpAny_pyIter_tuple n
  exact⟨_,rfl,h⟩
section
variable {w:World}
theorem VP {a b:Addr} {xs ys:Array Value} (u:s.heap.IsTuple a xs) (p:s.heap.IsTuple b ys)
  (q:∀ h' n,n=s.heap.objs.size->IsZip h' (n+4) (n+2) (n+3) .none->IsPair h' (n+2) (.ref n) (.ref (n+1))->IsPair h' (n+3) .none .none->h'.IsTupleIter n a 0->h'.IsTupleIter (n+1) b 0->h'.objs.size=n+5 ->
   (∀ c o,s.heap.get? c=some o->h'.get? c=some o)->Q (.ref (n+4)) { s with heap:=h' }):wpAny (model prog w) A (call (.type "zip") [.ref a,.ref b]) Q E s:=by
 refine callType_new F.called_zip (by decide) (F.typeCall_zip_2 _ _) (F.newCall_zip_2 _ _) (λg=>F.args_object_init_3 g _ _) F.entry_zip_new (XN a b xs ys) ⟨u,p,?_⟩
 have i:(rE s.heap a).objs.size=s.heap.objs.size+1:=Heap.size_push ..
 have f:(su s.heap a b).objs.size=s.heap.objs.size+2:=by rw[Heap.size_push,i]
 have d:(sX s.heap a b).objs.size=s.heap.objs.size+3:=by rw[Heap.size_push,f]
 have j:(q_ s.heap a b).objs.size=s.heap.objs.size+4:=by rw[Heap.size_push,d]
 have r:(iy s.heap a b).objs.size=s.heap.objs.size+5:=by rw[Heap.size_push,j]
 have h:(iy s.heap a b).get? (q_ s.heap a b).objs.size=some _:=Heap.get?_push_size _ rfl
 have k:(iy s.heap a b).get? (sX s.heap a b).objs.size=some _:=Heap.get?_push_of_some _ (Heap.get?_push_size _ rfl)
 have l:(iy s.heap a b).get? (su s.heap a b).objs.size=some _:=Heap.get?_push_of_some _ (Heap.get?_push_of_some _ (Heap.get?_push_size _ rfl))
 have m:(iy s.heap a b).get? (rE s.heap a).objs.size=some _:=Heap.get?_push_of_some _ (Heap.get?_push_of_some _ (Heap.get?_push_of_some _ (Heap.get?_push_size _ rfl)))
 have t:(iy s.heap a b).get? s.heap.objs.size=some _:=Heap.get?_push_of_some _ (Heap.get?_push_of_some _ (Heap.get?_push_of_some _ (Heap.get?_push_of_some _ (Heap.get?_push_size _ rfl))))
 refine (show _/\_ from ?_)
 rw[f,d,j] at h
 rw[i,f] at l
 rw[d] at k
 rw[i] at m
 rw[j]
 exact⟨⟨_,h,rfl⟩,q _ _ rfl h l k ⟨_,t,rfl,rfl⟩ ⟨_,m,rfl,rfl⟩ r λc o e=>Heap.get?_push_of_some _ (Heap.get?_push_of_some _ (Heap.get?_push_of_some _ (Heap.get?_push_of_some _ (Heap.get?_push_of_some _ e))))⟩
end
def Dj (env:Env):List (Str × NameKind)->List (Str × Addr)->List (Str × Addr)
 | [],i5=>i5
 | (n,k)::r,i5=>if k == .free then (match env.cells.lookup n with | some a=>Dj env r ((n,a)::i5) | none=>Dj env r i5) else Dj env r i5
theorem HB {b:Env} (h:∀ y∈scope.names,y.2=.free->∃ c,b.cells.lookup y.1=some c):closureFor scope b=pure (Dj b scope.names []):=by
 unfold closureFor
 have g:∀ (l:List (Str × NameKind)) (f:List (Str × Addr)),(∀ y∈l,y.2=.free->∃ c,b.cells.lookup y.1=some c) ->
   (forIn l f λ(x:Str × NameKind) (p:List (Str × Addr))=>(match x with | (name,kind)=>if (kind == NameKind.free)=true then (do let a <-cellOf b name;pure (ForInStep.yield ((name,a)::p))) else pure (ForInStep.yield p):Sem (ForInStep (List (Str × Addr)))))=(pure (Dj b l f):Sem _):=by
  intro l
  induction l with
  | nil=>intro f _;rfl
  | cons x r q =>
   intro f i
   obtain⟨n,k⟩:=x
   rw[List.forIn_cons]
   unfold Dj
   by_cases o:(k == NameKind.free)=true
   ·obtain⟨c,s⟩:=i (n,k) List.mem_cons_self (by simpa using o)
    have d:b.cells.lookup n=some c:=s
    have e:cellOf b n=pure c:=by unfold cellOf;rw[d]
    simp only[o,if_true,e,d]
    exact q _ λy j=>i y (bq _ j)
   ·simp only[o]
    exact q _ λy j=>i y (bq _ j)
 have:=g scope.names [] h
 exact (congrArg (λ(m:Sem (List (Str × Addr)))=>m >>= λz=>pure z) this).trans rfl
theorem Gp (b:Env):∀ (l:List (Str × NameKind)) (i5:List (Str × Addr)) (y:Str) (c:Addr),(Dj b l i5).lookup y=some c->i5.lookup y=some c \/ b.cells.lookup y=some c
 | [],_,_,_,h=>.inl h
 | (n,k)::r,i5,y,c,h=>by
  unfold Dj at h
  split at h
  ·split at h
   ·rename_i a f
    rcases Gp b r _ y c h with z | z
    ·rw[iq] at z
     split at z
     ·rename_i e
      cases z
      have d:y=n:=by simpa using e
      subst d
      exact .inr f
     ·exact .inl z
    ·exact .inr z
   ·exact Gp b r _ y c h
  ·exact Gp b r _ y c h
theorem Ik (a:Env):∀ (l:List (Str × NameKind)) (i5:List (Str × Addr)) (y:Str),(i5.lookup y).isSome=true->((Dj a l i5).lookup y).isSome=true
 | [],_,_,h=>h
 | (n,k)::r,i5,y,h=>by
  unfold Dj
  split
  ·split
   ·refine Ik a r _ y ?_
    rw[iq]
    split
    ·rfl
    ·exact h
   ·exact Ik a r _ y h
  ·exact Ik a r _ y h
theorem Es (a:Env):∀ (l:List (Str × NameKind)) (i5:List (Str × Addr)) (y:Str),(y,NameKind.free)∈l->(a.cells.lookup y).isSome=true->((Dj a l i5).lookup y).isSome=true
 | [],_,_,h,_=>nomatch h
 | (n,k)::r,i5,y,h,b=>by
  unfold Dj
  rcases ci.mp h with e | h
  ·obtain⟨c,d⟩:=Prod.mk.inj e
   subst c
   subst d
   rw[if_pos (by decide)]
   split
   ·refine Ik a r _ y ?_
    rw[iq]
    simp
   ·rename_i e
    rw[e] at b
    cases b
  ·split
   ·split
    ·exact Es a r _ y h b
    ·exact Es a r _ y h b
   ·exact Es a r _ y h b
def Iu (x:Str) (N:List Str):List Str:=N.map λy=>if y=x then "" else y
def Cu (X:Cx) (x:Str) (scope:Scope) (C:Addr) (s₀:Shared) (H₀:Hp) (fp:List Addr):Cx where
 prog:=X.prog
 w:=X.w
 K:=X.K
 mg:=X.mg
 base:=X.base
 A:=X.A
 N:=x::Iu x X.N
 s₀:=s₀
 H₀:=H₀
 env:=compEnvC scope (Dj X.env scope.names []) C X.env
 outer:=X.stack
 stack:=X.stack
 ex:=fp
 fn:=λ_=>false
 calm:=X.calm
 pn:=[]
 xe:=λ_ _=>False
theorem Fz (a:Env) (y:Str):∀ names:List (Str × NameKind),
  (names.map λ(n,k)=>if (k == NameKind.free && a.scope.kind == .function && a.kindOf n == some .cell) then (n,NameKind.cell) else (n,k)).lookup y =
   (names.lookup y).map λk=>if (k == NameKind.free && a.scope.kind == .function && a.kindOf y == some .cell) then NameKind.cell else k
 | []=>rfl
 | (n,k)::r=>by
  have b:=Fz a y r
  rw[dc]
  show List.lookup y ((if (k == NameKind.free && a.scope.kind == .function && a.kindOf n == some .cell)=true then (n,NameKind.cell) else (n,k))::_)=_
  have c:(if (k == NameKind.free && a.scope.kind == .function && a.kindOf n == some .cell)=true then (n,NameKind.cell) else (n,k))=(n,if (k == NameKind.free && a.scope.kind == .function && a.kindOf n == some .cell)=true then NameKind.cell else k):=by split <;> rfl
  rw[c,iq,iq]
  cases hx:y == n with
  | true =>
   have e:y=n:=by simpa using hx
   subst e
   rfl
  | false=>exact b
structure Gi (X:Cx) (x:Str) (scope:Scope):Prop where
 kind:scope.kind=.function
 nocell:∀ y∈scope.names,y.2 ≠ .cell
 names:∀ y∈scope.names,y.2=.local->scope.names.lookup y.1=some .local
 loc:scope.names.lookup x=some .local
 free:∀ y∈scope.names,y.2=.free->X.env.kindOf y.1=some .cell \/ X.env.kindOf y.1=some .free
 nd:(x::Iu x X.N).Nodup
 only:∀ y∈Iu x X.N,scope.names.lookup y ≠ some .local
 noE:scope.names.lookup ("" : Str)=none
theorem QW {tk:Nat} {m:Str->Option Value} (I:Inv X a8 σ H s) (S:Gi X x scope) (O:∀ b∈fp,G6 X a8 H b) (Q:∀ b∈fp,b<s.heap.objs.size) (L:s.heap.objs.size<=C) (hn:h'.Ns C m)
  (W:∀ b o,s.heap.get? b=some o->h'.get? b=some o):Inv (Cu X x scope C s H fp) [] (none::σ) H { s with heap:=h',toks:=tk }:=by
 have E:∀ y c,(Dj X.env scope.names []).lookup y=some c->X.env.cells.lookup y=some c:=λy c e=>by
  rcases Gp X.env scope.names [] y c e with z | z
  ·cases z
  ·exact z
 have n:∀ c v,s.heap.IsCell c v->h'.IsCell c v:=λc v ⟨o,ho,hd⟩=>⟨o,W c o ho,hd⟩
 have look:∀ y,(Cu X x scope C s H fp).env.scope.names.lookup y=(scope.names.lookup y).map λk=>if (k == NameKind.free && X.env.scope.kind == .function && X.env.kindOf y == some .cell) then NameKind.cell else k:=λy=>Fz X.env y scope.names
 refine⟨⟨I.ok.mod,S.kind,I.ok.glob,I.ok.blt,L,λy z c e1 e2=>I.ok.inj y z c (E y c e1) (E z c e2),λy hy=>?_,λy c e _=>(by cases e),λh=>I.ok.hd h,I.ok.frames,.inl rfl,λb D=>?_,I.bs,be I.ok.bsz I.sz,λb o e D=>?_,λb D N=>?_,I.stack,I.Ie⟩,
  rfl,I.bare,Un.kept W,⟨m,hn,λi y v h1 h2 h3=>?_⟩,λy c e=>?_,I.hok.fresh L,λy c e=>I.freeC y c (E y c e),λp hp=>absurd (show p∈([]:List (Addr × Obj)) from hp) (by simp),I.hok.kept W,?_⟩
 ·-- every cell of the block is there
  have t:(Cu X x scope C s H fp).env.scope.names.lookup y=some .cell \/ (Cu X x scope C s H fp).env.scope.names.lookup y=some .free:=hy
  rw[look y] at t
  cases e:scope.names.lookup y with
  | none=>rw[e] at t;rcases t with z | z <;> cases z
  | some k =>
   have A:=PySem.mem_of_lookup e
   have a:k=.free:=by
    rw[e] at t
    cases k with
    | free=>rfl
    | cell=>exact absurd rfl (S.nocell _ A)
    | _=>rcases t with z | z <;> simp at z
   subst a
   obtain⟨c,J⟩:=I.ok.has y (S.free _ A rfl)
   exact fi.mp (Es X.env scope.names [] y A (by rw[J];rfl))
 ·obtain⟨Z,T,U,R,P,Y⟩:=O b D
  exact⟨cf (bi (Q b D) L),λy c e=>P y c (E y c e)⟩
 ·obtain⟨Z,T,U,R,P,Y⟩:=O b D
  rcases R with z | z
  ·exact I.ok.noex b o e z
  ·exact absurd (bi (Heap.lt_size e) (be I.ok.bsz z)) (fR _)
 ·obtain⟨Z,T,U,R,P,Y⟩:=O b D
  rcases ci.mp (I.Nb b N) with e | e
  ·exact T e
  ·exact U e
 ·cases i with
  | zero =>
   have w:(some none:Option (Option V))=some (some v):=h2
   cases w
  | succ i =>
   have f:(Iu x X.N)[i]? = some y:=h1
   have w:σ[i]? = some (some v):=h2
   have G:y∈Iu x X.N:=ai f
   unfold Iu at f
   rw[am] at f
   cases e0:X.N[i]? with
   | none=>rw[e0] at f;cases f
   | some g =>
    rw[e0] at f
    have j:(if g=x then ("" : Str) else g)=y:=Option.some.inj f
    have d:(Cu X x scope C s H fp).env.scope.names.lookup y=some .local \/ (Cu X x scope C s H fp).env.scope.names.lookup y=some .cell \/ (Cu X x scope C s H fp).env.scope.names.lookup y=some .free:=h3
    rw[look y] at d
    have M:g=y:=by
     by_cases q:g=x
     ·rw[if_pos q] at j
      rw[<-j,S.noE] at d
      rcases d with z | z | z <;> cases z
     ·rw[if_neg q] at j
      exact j
    subst M
    cases e:scope.names.lookup g with
    | none=>rw[e] at d;rcases d with z | z | z <;> cases z
    | some k =>
     have A:=PySem.mem_of_lookup e
     have a:k=.free:=by
      rw[e] at d
      cases k with
      | free=>rfl
      | cell=>exact absurd rfl (S.nocell _ A)
      | «local»=>exact absurd e (S.only g G)
      | _=>rcases d with z | z | z <;> simp at z
     subst a
     have kd:=S.free _ A rfl
     obtain⟨m0,EL,Md⟩:=I.loc
     obtain⟨u,r,l⟩:=Md i g v e0 w (by rcases kd with z | z;exact .inr (.inl z);exact .inr (.inr z))
     refine⟨u,r,.inr ⟨?_,?_⟩⟩
     ·have K:(Cu X x scope C s H fp).env.scope.names.lookup g=some (if (NameKind.free == NameKind.free && X.env.scope.kind == .function && X.env.kindOf g == some .cell) then NameKind.cell else NameKind.free):=by
       rw[look g,e];rfl
      by_cases c:(NameKind.free == NameKind.free && X.env.scope.kind == .function && X.env.kindOf g == some .cell)=true
      ·rw[if_pos c] at K;exact .inl K
      ·rw[if_neg c] at K;exact .inr K
     ·rcases l with⟨lk,_⟩ | ⟨_,c,J,B⟩
      ·exfalso
       rcases kd with z | z <;> (rw[show X.env.kindOf g=some NameKind.local from lk] at z;cases z)
      ·obtain⟨c',F⟩:=fi.mp (Es X.env scope.names [] g A (by rw[J];rfl))
       have:=E g c' F
       rw[J] at this
       cases this
       exact⟨c,F,n c _ B⟩
 ·obtain⟨v,z⟩:=I.cell y c (E y c e)
  exact⟨v,n c v z⟩
 ·show (none::σ).length=(x::Iu x X.N).length
  simp[Iu,I.len]
def NT (X:Cx) (k9:List Expr) (t:TT):Prop :=
 ∀ (a8:List (Addr × Obj)) (s:Shared) (σ:St) (H:Hp) (Q:Bool->Hp->Prop),Inv X a8 σ H s->t σ H Q ->
  wpAny (model X.prog X.w) X.A (forIn k9 true λc r=>if r=true then do let ok <-isTrue c X.env (eval c X.env);pure (ForInStep.yield ok) else pure (ForInStep.yield r)) (TP X a8 σ Q) X.xe s
def UW:TT:=λ_ H Q=>Q true H
theorem Cv:NT X [] UW:=λ_ _ _ H _ I h=>wpAny_tests_nil ⟨H,I,h⟩
theorem GC {c:Expr} {t:TT} (h:PT X c t):NT X [c] t:=λa s σ H Q I q=>wpAny_tests_one (h a s σ H Q I q)
def Gz (J:It) (σ:St) (H1:Hp) (Q:VK) (tt:TT) (te:TE):Prop:=∀ D,H1 D=none->∃ W:Nat->Nat->List V->Hp->Prop,(∃ m,W 0 m [] (upd H1 D (.lst [])))/\∀ i m ys H2,W i m ys H2 ->
 (J.stop i H2/\Q (.ref D) H2) \/ (J.go i H2/\∀ x H3,J.yld i H2 x H3->tt (some x::σ) H3 λb H4 =>
  if b=true then te (some x::σ) H4 λy H5=>H5 D=some (.lst ys)/\ys.length<sizeLine/\∃ m',m'<m/\W (i+1) m' (ys++[y]) (upd H5 D (.lst (ys++[y])))
  else ∃ m',m'<m/\W (i+1) m' ys H4)
def bc (wi:TI) (tt:TT) (te:TE):TE:=λσ H Q=>wi σ H λJ H1=>Gz J σ H1 Q tt te
theorem Qc {α:Type} {t:Sem α} {Q b:α->Shared->Prop} {M:Model} (h:wpAny M A t Q (λ_ _=>False) s) (c:∀ a s,Q a s->b a s):wpAny M A t b E s:=wpAny_mono h c λ_ _ x=>x.elim
theorem Inv.sameBut (I:Inv X a8 σ H s) (f:G6 X a8 H C) (a:Heap.SameBut C s.heap h'):Inv X a8 σ H { s with heap:=h' } :=
 I.turned (t':=s.toks) (λb o c e=>(a.2 b c).trans e) f.1 f.2.1 f.2.2.2.1 f.2.2.2.2.1 f.2.2.2.2.2
theorem Li {Z:Pos} {c:Shared} {I:Nat->Heap->Prop} {J:It} {E:vSP}
  {RR:Value->Addr->Result->Shared->Prop} {Q:VK}
  (hc:X.calm=true) (S:Gi X x scope) (ht:∀ C s₀ H₀ fp,NT (Cu X x scope C s₀ H₀ fp) k9 tt) (he:∀ C s₀ H₀ fp,PE (Cu X x scope C s₀ H₀ fp) lf te)
  (I2:Inv X a8 σ H2 c) (T:Turn X.prog X.w X.K (.Name x Z) J fp it I) (qh:I 0 c.heap) (f2:∀ b∈fp,G6 X a8 H2 b)
  (q:∀ D,H2 D=none->∃ W:Nat->Nat->List V->Hp->Prop,(∃ m,W 0 m [] (upd H2 D (.lst [])))/\∀ i m ys H2,W i m ys H2 ->
   (J.stop i H2/\Q (.ref D) H2) \/ (J.go i H2/\∀ x H3,J.yld i H2 x H3->tt (some x::σ) H3 λb H4 =>
    if b=true then te (some x::σ) H4 λy H5=>H5 D=some (.lst ys)/\ys.length<sizeLine/\∃ m',m'<m/\W (i+1) m' (ys++[y]) (upd H5 D (.lst (ys++[y])))
    else ∃ m',m'<m/\W (i+1) m' ys H4))
  (MS:∀ D C s' H' m,s'.heap.Ns C m->G6 X a8 H' C->Inv X a8 σ H' s'->Q (.ref D) H'->RR (.ref D) C (.ok .next) s') :
  wpAny (model X.prog X.w) X.A (newList []) (λi5 s₃=>wpAny (model X.prog X.w) X.A (newFunctionEnv scope X.env.globals (Dj X.env scope.names []) [] X.env.qual none .none (some X.env)) (λtT s₄ =>
   codeAny (model X.prog X.w) X.A (.compStart (.ListComp lf [⟨.Name x Z,iter,k9,0⟩] scope pos) 0 (.ref it) i5 { tT with scope:=relabel scope X.env }) (RR i5 tT.locals) s₄) E s₃) E c:=by
 refine wpAny_newObj_type (wpAny_newFunctionEnv S.nocell (by intro y hy;simp at hy) (λz zw AG=>?_) S.kind)
 have P:=I2.gD (its:=[]) (ys:=[]) (t':=c.toks) .nil (dL _)
 have ac:H2 c.heap.objs.size=none:=I2.fresh
 obtain⟨W,⟨m0,w0⟩,ow⟩:=q _ ac
 generalize B:({ c with heap:=c.heap.push { cls:=.type "list",data:=.seq ([]:List Value).toArray },toks:=c.toks }:Shared)=a at P
 have M:a.heap=c.heap.push { cls:=.type "list",data:=.seq ([]:List Value).toArray }:=by rw[<-B]
 have H:∀ b∈fp,b<c.heap.objs.size:=λb f=>let ⟨_,e,_⟩:=T.obj _ _ qh b f;Heap.lt_size e
 have O:∀ b∈fp,b<a.heap.objs.size:=λb f=>by rw[M,Heap.size_push];exact gz (H b f)
 have f3:∀ b∈fp,G6 X a8 (upd H2 c.heap.objs.size (.lst [])) b:=λb f=>⟨by rw[Aw (cf (H b f))];exact (f2 b f).1,(f2 b f).2⟩
 have L:∀ b o,a.heap.get? b=some o->z.get? b=some o:=λb o e=>by
  have F:b ≠ a.heap.objs.size:=cf (Heap.lt_size e)
  rw[M] at e F
  exact AG.extBut b o F (Heap.get?_push_of_some _ e)
 have hC:a.heap.objs.size=(c.heap.push { cls:=.type "list",data:=.seq ([]:List Value).toArray }).objs.size:=by rw[M]
 have ap:z.Ns a.heap.objs.size (λx=>([]:List (Str × Value)).reverse.lookup x):=by rw[hC];exact zw
 have K:I 0 z:=T.keep _ _ _ qh λb f o e=>L b o (by rw[M];exact Heap.get?_push_of_some _ e)
 have aw:c.heap.objs.size ≠ a.heap.objs.size:=by rw[M,Heap.size_push];exact cf (fF _)
 have start:∀ h,Inv (Cu X x scope a.heap.objs.size a (upd H2 c.heap.objs.size (.lst [])) fp) [] (none::σ) (upd H2 c.heap.objs.size (.lst [])) { a with heap:=z,toks:=h }:=λh =>
  QW P S f3 O (ah _) ap L
 generalize w:Cu X x scope a.heap.objs.size a (upd H2 c.heap.objs.size (.lst [])) fp=A at start
 have eA:A.A=X.A:=by rw[<-w];rfl
 have eP:A.prog=X.prog:=by rw[<-w];rfl
 have eW:A.w=X.w:=by rw[<-w];rfl
 have eK:A.K=X.K:=by rw[<-w];rfl
 have eC:A.env.locals=a.heap.objs.size:=by rw[<-w];rfl
 have j:∀ h,codeAny (model X.prog X.w) X.A (.compLoop (.ListComp lf [⟨.Name x Z,iter,k9,0⟩] scope pos) 0 (.ref it) (.ref c.heap.objs.size) (compEnvC scope (Dj X.env scope.names []) a.heap.objs.size X.env))
   (RR (.ref c.heap.objs.size) a.heap.objs.size) { a with heap:=z,toks:=h }:=by
  intro h
  subst w
  refine codeAny_compLoop_tests (λn s'=>∃ i ys s H',Inv (Cu X x scope a.heap.objs.size a (upd H2 c.heap.objs.size (.lst [])) fp) [] (s::σ) H' s'/\I i s'.heap/\(∀ b∈fp,H' b=none)/\W i n ys H') ?_ m0
   ⟨0,[],none,_,start h,K,λb f=>(f3 b f).1,w0⟩
  rintro n s4 ⟨i,ys,s,H4,G,FH,KP,w4⟩
  have g:∀ {H':Hp},(∀ b∈fp,H' b=none)->∀ b∈fp,G6 (Cu X x scope a.heap.objs.size a (upd H2 c.heap.objs.size (.lst [])) fp) [] H' b:=λhn b f=>by
   refine⟨hn b f,(G.ok.exf b f).1,G.ok.exfs b f,.inl f,(G.ok.exf b f).2,λp hp=>absurd (show p∈([]:List (Addr × Obj)) from hp) (by simp)⟩
  rcases ow i n ys H4 w4 with⟨stop,qn⟩ | ⟨go,step⟩
  ·refine CJ (T.done (Cu X x scope a.heap.objs.size a (upd H2 c.heap.objs.size (.lst [])) fp) rfl rfl rfl hc i [] s4 (s::σ) H4 _ G (g KP) FH stop) λr s5 ⟨hr,v⟩=>?_
   subst hr
   obtain⟨m,hn,_⟩:=v.loc
   refine MS _ _ s5 H4 m hn (P.MK (ah _) v.free) (P.call' (s':=s5) (ch:=fp) v.os v.base v.hok v.bare (λb f=>?_)) qn
   obtain⟨_,g1,_,g3,g4,g5⟩:=f3 b f
   exact⟨g3,g1,g4,g5⟩
  ·refine CJ (T.item (Cu X x scope a.heap.objs.size a (upd H2 c.heap.objs.size (.lst [])) fp) rfl rfl rfl hc i [] s4 (s::σ) H4 _ G (g KP) FH go) λr s5 ⟨u,hr,h5⟩=>?_
   subst hr
   intro Γ p hΓ
   obtain⟨l,H6,I6,r6,y6,A9,M'⟩:=h5 Γ p hΓ
   refine (?_:wpAny _ _ _ _ _ _) Γ p hΓ
   have OG:=I6.pinned (g M') (T.obj _ _ A9)
   have k:(Cu X x scope a.heap.objs.size a (upd H2 c.heap.objs.size (.lst [])) fp).env.scope.names.lookup x=some .local:=lookup_relabel_local S.loc
   have again:∀ {t:Shared} {U:Hp} {y9:List V},Inv (Cu X x scope a.heap.objs.size a (upd H2 c.heap.objs.size (.lst [])) fp) ([]++J5 fp s5.heap) (some l::σ) U t->(∃ m',m'<n/\W (i+1) m' y9 U) ->
     ∃ m,m<n/\∃ i ys s H',Inv (Cu X x scope a.heap.objs.size a (upd H2 c.heap.objs.size (.lst [])) fp) [] (s::σ) H' t/\I i t.heap/\(∀ b∈fp,H' b=none)/\W i m ys H':=λ{t U y9} N hw=>by
    obtain⟨m',hm,w7⟩:=hw
    refine⟨m',hm,i+1,y9,some l,U,N.H_,T.keep _ _ _ A9 λb f o e=>(N.pin (b,o) (br _ (br _ (Er f e)))).1,λb f=>?_,w7⟩
    obtain⟨o,e,d⟩:=T.obj _ _ A9 b f
    exact (N.pin (b,o) (br _ (br _ (Er f e)))).2.1
   refine wpAny_assign_Name (Jt (X:=Cu X x scope a.heap.objs.size a (upd H2 c.heap.objs.size (.lst [])) fp) (i:=0) OG S.nd rfl (.inl k) r6 (λt N=>?_) (.inr k))
   refine Qc (ht _ _ _ _ _ t (some l::σ) H6 _ N (step l H6 y6)) λb s8 f'=>?_
   obtain⟨H8,I8,Y⟩:=f'
   cases b with
   | false =>
    rw[if_neg fb] at Y |-
    exact again I8 Y
   | true =>
    rw[if_pos rfl] at Y |-
    refine Qc (he _ _ _ _ _ s8 (some l::σ) H8 _ I8 Y) λy s9 f'=>?_
    obtain⟨yv,H9,I9,r9,SD,NX,q9⟩:=f'
    refine Qc (DK (X:=Cu X x scope a.heap.objs.size a (upd H2 c.heap.objs.size (.lst [])) fp) _ s9 (some l::σ) H9 (.ref c.heap.objs.size) [yv] (.ref c.heap.objs.size) [y] (λ_ H'=>H'=upd H9 c.heap.objs.size (.lst (ys++[yv]))) I9 rfl (.cons r9 .nil)
     ⟨_,ys,yv,rfl,rfl,SD,NX,rfl⟩) λ_ as ⟨_,mx,NV,_,an⟩=>?_
    subst an
    exact again NV q9
 have ab:=λh=>codeAny_compStart_list (R:=RR (.ref c.heap.objs.size) a.heap.objs.size) (j h) (T.self X.A 0 { a with heap:=z,toks:=h } (λOs s'=>codeAny (model X.prog X.w) X.A (.compLoop (.ListComp lf [⟨.Name x Z,iter,k9,0⟩] scope pos) 0 Os (.ref c.heap.objs.size) (compEnvC scope (Dj X.env scope.names []) a.heap.objs.size X.env)) (RR (.ref c.heap.objs.size) a.heap.objs.size) s') _ K (j h))
 subst B
 exact ab _
theorem Br {a:Pos} {c:TI} (i:X.calm=true) (S:Gi X x scope) (hi:PI X (.Name x a) iter c)
  (k:∀ C s₀ H₀ fp,NT (Cu X x scope C s₀ H₀ fp) k9 tt) (z:∀ C s₀ H₀ fp,PE (Cu X x scope C s₀ H₀ fp) lf te) (f:∀ x,foldedSetIterable iter X.env x=pure x:=by intro _;rfl) :
  PE X (.ListComp lf [⟨.Name x a,iter,k9,0⟩] scope pos) (bc c tt te):=by
 intro b s σ H Q I h
 rw[eval_ListComp]
 refine wpAny_comprehension_free (use:=none) (cl:=Dj X.env scope.names []) rfl f (HB λy p E=>I.ok.has y.1 (S.free y p E)) S.kind S.names (CJ (hi b s σ H _ I h) λv G g=>CJ g λP M u=>?_)
 obtain⟨N,fp,K,J,F,e,j,T,t,B,q⟩:=u
 subst e
 refine Li (RR:=λr C=>compPost (model X.prog X.w) X.A X.xe none (EP X b σ Q) r C) (Q:=Q) i S k z j T t B q ?_
 intro D C O w m n l A d
 exact⟨m,n,λL o=>⟨.ref D,w,A.sameBut l o,rfl,d⟩⟩
theorem N6 {y:Str} {d b p:Pos} {r:TI} (F:X.N.Nodup) (n:X.N[i]? = some y) (f:X.env.scope.names.lookup y=some .local) (w:X.calm=true) (S:Gi X x scope) (hi:PI X (.Name x d) iter r)
  (B:∀ C s₀ H₀ fp,NT (Cu X x scope C s₀ H₀ fp) k9 tt) (U:∀ C s₀ H₀ fp,PE (Cu X x scope C s₀ H₀ fp) lf te) (E:swapsWith (.ListComp lf [⟨.Name x d,iter,k9,0⟩] scope pos) (some (.Name y b)) p.line X.env=pure true:=by rfl) (t:∀ x,foldedSetIterable iter X.env x=pure x:=by intro _;rfl) :
  PS X (.Assign [.Name y b] (.ListComp lf [⟨.Name x d,iter,k9,0⟩] scope pos) p) (RW (bc r tt te) (Dh i)):=by
 intro l s σ H k I h
 rw[exec_Assign_Name_used _ _ _ _ E]
 refine wpAny_bind (wpAny_standAt (wpAny_bind ?_))
 show wpAny _ X.A (do let _ <-comprehension (.ListComp lf [⟨.Name x d,iter,k9,0⟩] scope pos) scope X.env _ (newList []) false (eval iter X.env) (some (assign (.Name y b) X.env))) _ _ s
 refine wpAny_bind (wpAny_mono (wpAny_comprehension_free (use:=some (assign (.Name y b) X.env)) (cl:=Dj X.env scope.names []) (Q:=λ_ c=>SP X l k .next c) rfl t (HB λy f Y=>I.ok.has y.1 (S.free y f Y)) S.kind S.names
  (CJ (hi l s σ H _ I h) λv s1 u=>CJ u λze s2 O=>?_)) (λ_ c g=>wpAny_pure (wpAny_pure g)) λ_ _ e=>e)
 obtain⟨it,fp,tn,J,H2,e,A,T,M,W,q⟩:=O
 subst e
 refine Li (RR:=λL C=>compPost (model X.prog X.w) X.A X.xe (some (assign (.Name y b) X.env)) (λ_ c=>SP X l k .next c) L C) (Q:=λx H1=>Dh i x σ H1 k.nx) w S B U A T M W q ?_
 intro D C c P m G j V g
 show wpAny _ X.A (assign (.Name y b) X.env (.ref D)) _ _ _
 refine wpAny_assign_Name (Jw V F n (.inl f) (v:=.ref D) rfl (λs6 R rX=>?_) (.inr f))
 obtain⟨a,K,N⟩:=rX
 have o:C ≠ a:=by
  rcases N with z | z
  ·rw[z];exact j.2.1
  ·exact Ne.symm (j.2.2.2.2.1 y a z)
 exact⟨m,G.sameBut K o,λh' Z=>⟨_,P,R.sameBut j Z,g⟩⟩
section
variable {Q:VK}
theorem Hq {J:It} (p:V->Bool) (f:V->V) (z:xs.length<sizeLine)
  (G:∀ i H x,An H1 H->xs[i]? = some x->J.go i H) (v:∀ i H y H',An H1 H->i<xs.length->J.yld i H y H'->H'=H/\xs[i]? = some y) (B:∀ H,An H1 H->J.stop xs.length H)
  (u:∀ x∈xs,∀ H,An H1 H->∀ R:Bool->Hp->Prop,(∀ H',An H H'->R (p x) H')->tt (some x::σ) H R)
  (F:∀ x∈xs,p x=true->∀ H,An H1 H->∀ R:VK,(∀ H',An H H'->R (f x) H')->te (some x::σ) H R)
  (C:∀ D H,H1 D=none->An H1 H->H D=some (.lst ((xs.filter p).map f))->Q (.ref D) H):Gz J σ H1 Q tt te:=by
 intro D q
 have w:An H1 (upd H1 D (.lst [])):=λb o e=>by rw[Aw (Aj e q)];exact e
 refine⟨λi m r H=>m=xs.length - i/\i<=xs.length/\r=((xs.take i).filter p).map f/\H D=some (.lst r)/\An H1 H,⟨xs.length,by simp,Nat.zero_le _,by simp,Al,w⟩,?_⟩
 rintro i m r H ⟨rfl,K,rfl,l,c⟩
 by_cases a:i<xs.length
 ·obtain⟨x,d⟩:∃ x,xs[i]? = some x:=⟨xs[i],by simp[a]⟩
  refine .inr ⟨G i H x c d,λy E n=>?_⟩
  obtain⟨rfl,k⟩:=v i H y E c a n
  rw[d] at k
  cases k
  have s:x∈xs:=ai d
  have h:(((xs.take i).filter p).map f).length<sizeLine:=by
   rw[af]
   refine ar (bt _ _) (ar ?_ z)
   rw[cm];omega
  refine u x s _ c _ λA g=>?_
  by_cases j:p x=true
  ·rw[if_pos j]
   refine F x s j A (c.trans g) _ λI t=>?_
   refine⟨t _ _ (g _ _ l),h,xs.length - (i+1),by omega,rfl,a,?_,Al,λb o e=>?_⟩
   ·rw[take_succ_filter p xs i x d,if_pos j,cq];rfl
   ·rw[Aw (Aj e q)];exact t _ _ (g _ _ (c _ _ e))
  ·rw[if_neg j]
   refine⟨xs.length - (i+1),by omega,rfl,a,?_,g _ _ l,c.trans g⟩
   rw[take_succ_filter p xs i x d,if_neg j,eD]
 ·have e:i=xs.length:=by omega
  subst e
  rw[eJ] at l
  exact .inl ⟨B H c,C D H q c l⟩
theorem I_ {lo:Int} (p:Int->Bool) (f:Int->V) (l:n<sizeLine)
  (q:∀ i:Nat,i<n->∀ H,An H1 H->∀ R:Bool->Hp->Prop,(∀ H',An H H'->R (p (lo+i)) H')->tt (some (.int (lo+i))::σ) H R)
  (o:∀ i:Nat,i<n->p (lo+i)=true->∀ H,An H1 H->∀ R:VK,(∀ H',An H H'->R (f (lo+i)) H')->te (some (.int (lo+i))::σ) H R)
  (e:∀ D H,H1 D=none->An H1 H->H D=some (.lst ((((List.range n).map λ(i:Nat)=>lo+(i:Int)).filter p).map f))->Q (.ref D) H):Gz (Yi lo n) σ H1 Q tt te:=by
 let g:V->Int:=λv=>match v with | .int i=>i | _=>0
 have c:∀ i:Nat,i<n->((List.range n).map λ(i:Nat)=>V.int (lo+(i:Int)))[i]? = some (.int (lo+i)):=λi a=>by simp[a]
 refine Hq (xs:=(List.range n).map λ(i:Nat)=>V.int (lo+(i:Int))) (λv=>p (g v)) (λv=>f (g v)) (by simpa using l) (λi H x _ b=>?_) (λi H y H' _ a h=>?_) (λH _=>?_) (λx b=>?_) (λx b=>?_) (λD H m k s=>?_)
 ·have:i<((List.range n).map λ(i:Nat)=>V.int (lo+(i:Int))).length:=(ag.mp b).1
  show i<n
  simpa using this
 ·have d:i<n:=by simpa using a
  obtain⟨r,j⟩:=h
  subst j
  exact⟨r,c i d⟩
 ·show n<=_
  simp
 ·obtain⟨i,a,rfl⟩:=ay.mp b
  exact q i (gc.mp a)
 ·obtain⟨i,a,rfl⟩:=ay.mp b
  exact o i (gc.mp a)
 ·refine e D H m k ?_
  rw[s,eR,aE,eR,aE]
  rfl
def rR (z:Str):It:=⟨λi _=>i<z.cps.size,λi H x H'=>H'=H/\∃ c,z.cps[i]? = some c/\x=.str ⟨#[c]⟩,λi _=>z.cps.size<=i⟩
theorem WR {w:World} {K:W.Frag} {z:Str} {t0:Tok} {l:String} (p:l = "str_ascii_iterator" \/ l = "str_iterator"):Turn P w K tg (rR z) [it] it (λi h=>h.IsStrIter it l z t0 i) where
 mem:=by simp
 obj:=λi h st b f=>by
  have e:b=it:=by simpa using f
  subst e
  obtain⟨o,R,t,U⟩:=st
  exact⟨o,R,λv q=>by rw[U] at q;cases q⟩
 keep:=λi h a st k=>let ⟨o,R,r⟩:=st;⟨o,k it (by simp) o R,r⟩
 item:=by
  intro X F N J t i L s σ H E I B st O
  subst F N J
  obtain⟨n,D,Z,C,y,m⟩:=B it (by simp)
  have g:i<z.cps.size:=O
  have j:z.cps[i]? = some z.cps[i]:=Array.getElem?_eq_getElem g
  have fin:∀ a,a.IsStrIter it l z t0 (i+1)->Heap.SameBut it s.heap a->∃ u,some (Value.str ⟨#[z.cps[i]]⟩ s.toks)=some u /\
    wpAny (model X.prog X.w) X.A (letOwnedTupleGo tg (.ref it) u) (λ_ S=>∃ x M,Inv X L σ M S/\RelV x u/\(rR z).yld i H x M/\S.heap.IsStrIter it l z t0 (i+1)/\∀ b∈[it],M b=none) E { s with heap:=a,toks:=s.toks+1 }:=λa T V=>by
   have Y:Inv X L σ H { s with heap:=a,toks:=s.toks+1 }:=I.turned (λb o f e=>(V.2 b f).trans e) n D C y m
   obtain⟨o,e,c,d⟩:=id T
   refine⟨_,rfl,Om (s:={ s with heap:=a,toks:=s.toks+1 }) e c d (by rcases p with rfl | rfl <;> decide) ⟨.str ⟨#[z.cps[i]]⟩,H,Y,⟨_,rfl⟩,⟨rfl,_,j,rfl⟩,T,λb f=>(B b f).1⟩⟩
  rcases p with rfl | rfl
  ·exact wpAny_pyNext_ascii_item st j fin
  ·exact wpAny_pyNext_wide_item st j fin
 done:=by
  intro X F N J t i L s σ H E I B st O
  subst F N J
  obtain⟨n,D,Z,C,y,m⟩:=B it (by simp)
  have j:z.cps[i]? = none:=by
   have g:z.cps.size<=i:=O
   simpa using g
  rcases p with rfl | rfl
  ·exact wpAny_pyNext_ascii_end (I.ok.hd t) st j λa G=>⟨rfl,I.turned (t':=s.toks) (λb o f e=>G b o f e) n D C y m⟩
  ·exact wpAny_pyNext_wide_end (I.ok.hd t) st j λa G=>⟨rfl,I.turned (t':=s.toks) (λb o f e=>G b o f e) n D C y m⟩
 self:=λA i s Q E st h=>by
  rcases p with rfl | rfl
  ·exact wpAny_pyIter_striter_ascii st h
  ·exact wpAny_pyIter_striter_wide st h
end
inductive bx (R:It->Hp->Prop) (x:V) (H1:Hp):Prop
 | mk (z:_):x=.str z->R (rR z) H1->bx R x H1
def vJ (tl:TE):TI:=λσ H R=>tl σ H λx H1=>bx R x H1
theorem Vt {l:Expr} {f:TE} (p:PE X l f):PI X tg l (vJ f):=by
 intro g s σ H R I h
 refine CJ (p g s σ H _ I h) λv a n=>?_
 obtain⟨x,r,d,m,k⟩:=n
 obtain⟨z,e,q⟩:=k
 subst e
 obtain⟨t,rfl⟩:=m
 have fin:∀ c,(c = "str_ascii_iterator" \/ c = "str_iterator")->PIE X g σ tg R (.ref a.heap.objs.size) { a with heap:=a.heap.push { cls:=.type c,data:=.fields #[.str z t,.int 0 0] } }:=λc j=>by
  refine⟨a.heap.objs.size,[a.heap.objs.size],_,_,r,rfl,d.kept (t':=a.toks) λb o e=>Heap.get?_push_of_some _ e,WR (z:=z) (t0:=t) j,⟨_,Heap.get?_push_size _ rfl,rfl,rfl⟩,λb i=>?_,q⟩
  have e:b=a.heap.objs.size:=by simpa using i
  subst e
  exact d.MK (ah _) (d.hok.fresh (ah _))
 cases ha:z.cps.all (· < 128)
 ·exact wpAny_pyIter_wide ha (fin _ (.inr rfl))
 ·exact wpAny_pyIter_ascii ha (fin _ (.inl rfl))
section
variable {Q:VK}
def sgn (c:Nat):V:=.str ⟨#[c]⟩
theorem PQ {z:Str} (p:Nat->Bool) (f:Nat->V) (j:z.length<sizeLine)
  (m:∀ c∈z.cps.toList,∀ H,An H1 H->∀ R:Bool->Hp->Prop,(∀ H',An H H'->R (p c) H')->tt (some (sgn c)::σ) H R)
  (l:∀ c∈z.cps.toList,p c=true->∀ H,An H1 H->∀ R:VK,(∀ H',An H H'->R (f c) H')->te (some (sgn c)::σ) H R)
  (d:∀ D H,H1 D=none->An H1 H->H D=some (.lst ((z.cps.toList.filter p).map f))->Q (.ref D) H):Gz (rR z) σ H1 Q tt te:=by
 let g:V->Nat:=λv=>match v with | .str y=>y.cps.getD 0 0 | _=>0
 refine Hq (xs:=z.cps.toList.map sgn) (λv=>p (g v)) (λv=>f (g v)) (by simpa [Str.length] using j) (λi H x _ a=>?_) (λi H y H' _ q e=>?_) (λH _=>?_) (λx a=>?_) (λx a=>?_) (λD H k h o=>?_)
 ·have:i<(z.cps.toList.map sgn).length:=(ag.mp a).1
  show i<z.cps.size
  simpa using this
 ·obtain⟨n,c,b,rfl⟩:=e
  refine⟨n,?_⟩
  rw[am,Array.getElem?_toList,b];rfl
 ·show z.cps.size<=_
  simp
 ·obtain⟨c,b,rfl⟩:=ay.mp a
  exact m c b
 ·obtain⟨c,b,rfl⟩:=ay.mp a
  exact l c b
 ·refine d D H k h ?_
  rw[o,eR,aE]
  rfl
end
theorem range_all (bs:List Bool):((List.range bs.length).all λi=>(bs[i]?).getD true)=bs.all id:=by
 rw[eI,fo,fo]
 constructor
 ·intro h b d
  obtain⟨i,c,e⟩:=fI.mp d
  have:=h i (gc.mpr c)
  rw[ae c,e] at this
  exact this
 ·intro h i c
  have a:=gc.mp c
  rw[ae a]
  exact h _ (et a)
theorem Hw (y:X.calm=true):Fd X (.builtin "all") (λxs H Q=>∃ (p:Addr) (bs:List Bool),xs=[V.ref p]/\Dc X.K H p (bs.map V.bl)/\Q (.bl (bs.all id)) H):=by
 intro L s σ H xs G Q I r h
 obtain⟨p,bs,rfl,z,q⟩:=h
 obtain⟨u,rfl,d⟩:=vals1 r
 cases d
 obtain⟨a,m,g,M⟩:=I.list z
 have c:bs.length=a.length:=by have:=m.length;rw[af] at this;exact this
 have k:p<s.heap.objs.size:=by obtain⟨_,e,_⟩:=g.isList;exact Heap.lt_size e
 refine call_all_walk (wpAny_pyIter_list g.isList ?_)
 refine⟨s.heap.objs.size,[s.heap.objs.size,p],[s.heap.objs.size],a.toArray.size,_,_,λi=>(bs[i]?).getD true,rfl,Walks.list (A:=X.A.in1) (I.ok.hd y) _ p (cf k) a.toArray,
  ⟨⟨_,Heap.get?_push_size _ rfl,rfl,rfl⟩,g.isList.push _⟩,λi v N F J w j=>?_,λK D E=>?_⟩
 ·have t:a[i]? = some v:=by simpa using w
  have B:i<a.length:=(ag.mp t).1
  have n:bs[i]? = some bs[i]:=by simp[c,B]
  obtain⟨u,l,d⟩:=m.get (i:=i) (x:=.bl bs[i]) (by rw[am,n];rfl)
  rw[t] at l
  cases l
  cases d
  dsimp only at j
  rw[n] at j
  exact wpAny_truthy_bool j
 ·have e:((List.range a.toArray.size).all λi=>(bs[i]?).getD true)=bs.all id:=by rw[bE,<-c];exact range_all bs
  rw[e]
  refine⟨.bl (bs.all id),H,I.kept (t':=D) λb o f=>E b o (λC=>?_) (Heap.get?_push_of_some _ f),rfl,q⟩
  rw[av.mp C] at f
  exact fR _ (Heap.lt_size f)
theorem CQ:Fd X (.builtin "isinstance") (λxs H Q=>∃ x T t b,xs=[x,V.ty T]/\JS X.K H x t/\W.kitOne X.K t (.type T)=some b/\Q (.bl b) H):=by
 intro g s σ H xs i Q I r h
 obtain⟨x,T,t,b,rfl,d,e,q⟩:=h
 obtain⟨u,v,rfl,c,a⟩:=Vals.two r
 cases a
 exact VB I c d e λf=>⟨.bl b,H,I.tok _,rfl,q⟩
def Tu (x:Str) (scope osc:Scope) (N:List Str):Bool :=
 (scope.kind == .function) && scope.names.all (λy=>y.2 != .cell) && scope.names.all (λy=>y.2 != .local || scope.names.lookup y.1 == some .local) && (scope.names.lookup x == some .local) &&
 scope.names.all (λy=>y.2 != .free || osc.names.lookup y.1 == some .cell || osc.names.lookup y.1 == some .free) && decide ((x::Iu x N).Nodup) && (Iu x N).all (λy=>scope.names.lookup y != some .local) && (scope.names.lookup ("" : Str) == none)
theorem Be {osc:Scope} {N:List Str} (m:X.env.scope=osc) (g:X.N=N) (h:Tu x scope osc N=true):Gi X x scope:=by
 unfold Tu at h
 simp only[Bool.and_eq_true] at h
 obtain⟨⟨⟨⟨⟨⟨⟨j,d⟩,c⟩,k⟩,f⟩,n⟩,b⟩,l⟩:=h
 rw[fo] at d c f b
 have i:∀ y,X.env.kindOf y=osc.names.lookup y:=λy=>by rw[<-m];rfl
 refine⟨by simpa using j,λy a=>by simpa using d y a,λy a e=>?_,by simpa using k,λy a e=>?_,by rw[g];exact of_decide_eq_true n,λy a=>?_,by simpa using l⟩
 ·have:=c y a
  rw[e] at this
  simpa using this
 ·have:=f y a
  rw[e] at this
  rw[i]
  simpa using this
 ·rw[g] at a
  simpa using b y a
theorem Inv.K4 {ch:List Addr} {t':Nat} (I:Inv X a8 σ H s) (h:∀ b∈ch,G6 X a8 H b) (k:∀ b u,b ∉ ch->s.heap.get? b=some u->h'.get? b=some u) (i:s.heap.objs.size<=a)
  (new:CT X.prog X.w (upd H a o) h' a o):Inv X a8 σ (upd H a o) { s with heap:=h',toks:=t' }:=by
 have C:H a=none:=I.hok.fresh i
 have up:∀ b u,H b=some u->upd H a o b=some u:=λb u e=>by rw[Aw (Aj e C)];exact e
 refine I.step (g':=s.gens) (d':=s.drawn) (ch:=ch) (λb f=>?_) (λb u _ _ d e _=>k b u d e) (λb u _ _ d e _=>⟨u.slots,k b u d e⟩) (λb u _ e n=>?_)
  (λb u d e=>⟨u,k b u d e⟩) (λb G e=>up _ _ e) (λb u x e=>up _ _ e) (λb F e=>⟨#[],by rw[up _ _ e];simp⟩) (λm A=>?_) (λb u e=>?_) I.bare
 ·obtain⟨D,y,E,j,B,p⟩:=h b f
  exact⟨j,y,B,p⟩
 ·rw[Aw (cf (bi (Heap.lt_size e) i))]
  exact n
 ·obtain⟨u,l,t,w,r⟩:=A
  exact⟨u,l,t,k _ u (λz=>(h _ z).2.1 rfl) w,r⟩
 ·by_cases f:b=a
  ·subst f
   rw[Al] at e
   cases e
   exact new
  ·rw[Aw f] at e
   refine (I.hok b u e).stay (λc v d q=>k c v (λz=>?_) q) (λ_ q=>up _ _ q) λ_ _ q=>up _ _ q
   have g:=(h c z).1
   rcases d with d | d
   ·rw[d,e] at g
    cases g
   ·rw[d] at g
    cases g
theorem Inv.Np {ch:List Addr} {t':Nat} (I:Inv X a8 σ H s) (f:∀ b∈ch,G6 X a8 H b) (k:∀ b u,b ∉ ch->s.heap.get? b=some u->h'.get? b=some u):Inv X a8 σ H { s with heap:=h',toks:=t' }:=by
 refine I.step (g':=s.gens) (d':=s.drawn) (ch:=ch) (λb l=>?_) (λb u _ _ a e _=>k b u a e) (λb u _ _ a e _=>⟨u.slots,k b u a e⟩) (λb u _ e n=>n)
  (λb u a e=>⟨u,k b u a e⟩) (λb C e=>e) (λb u x e=>e) (λb B e=>⟨#[],by rw[e];simp⟩) (λm t=>?_) (λb u e=>?_) I.bare
 ·obtain⟨y,p,A,g,w,i⟩:=f b l
  exact⟨g,p,w,i⟩
 ·obtain⟨u,h,j,o,r⟩:=t
  exact⟨u,h,j,k _ u (λz=>(f _ z).2.1 rfl) o,r⟩
 ·refine (I.hok b u e).stay (λc v a q=>k c v (λz=>?_) q) (λ_ q=>q) λ_ _ q=>q
  have d:=(f c z).1
  rcases a with a | a
  ·rw[a,e] at d
   cases d
  ·rw[a] at d
   cases d
def jY (K:W.Frag) (a:Addr):It :=
 ⟨λi H=>∃ xs x,Dc K H a xs/\xs[i]? = some x,λi H v H'=>∃ T,H T=none/\v=.ref T/\∀ xs,Dc K H a xs->∃ x,xs[i]? = some x/\H'=upd H T (.tup [.int (i:Int),x]),λi H=>∃ xs,Dc K H a xs/\xs.length<=i⟩
def vB (K:W.Frag) (a b:Addr):It :=
 ⟨λi H=>∃ xs ys x y,HW K H a xs/\HW K H b ys/\xs[i]? = some x/\ys[i]? = some y,λi H v H'=>∃ T,H T=none/\v=.ref T/\∀ xs ys,HW K H a xs->HW K H b ys->∃ x y,xs[i]? = some x/\ys[i]? = some y/\H'=upd H T (.tup [x,y]),
  λi H=>∃ xs,HW K H a xs/\xs.length<=i⟩
theorem Tw {w:World} {K:W.Frag} {k1:Nat} (a e j:Addr) (m:e ≠ j) :
  Turn P w K (.Tuple es k1 pos) (jY K a) [e,j] e (λi h=>(∃ old,IsEnum h e j i old)/\h.IsListIter j a i) where
 mem:=by simp
 obj:=λi h st b f=>by
  obtain⟨⟨old,g⟩,o,ho,c,d⟩:=st
  rcases ci.mp f with rfl | f
  ·exact⟨_,g,λv z=>by
    have z':Data.fields _=Data.cell v:=z
    cases z'⟩
  ·have q:b=j:=by simpa using f
   subst q
   exact⟨o,ho,λv z=>by rw[d] at z;cases z⟩
 keep:=λi h h' st k=>by
  obtain⟨⟨old,g⟩,l⟩:=st
  exact⟨⟨old,k e (by simp) _ g⟩,l.at λo q=>k j (by simp) o q⟩
 item:=by
  intro X A G C M i a8 s σ H E I n st J
  subst A G C
  obtain⟨xs,x,t,y⟩:=J
  obtain⟨B,D,p,hz⟩:=I.list t
  obtain⟨u,Q,T⟩:=D.get y
  obtain⟨⟨old,g⟩,l⟩:=st
  refine wpAny_pyNext_enum_item g l p.isList (x:=u) (by simpa using Q) m λL O n2 Z n4 R=>?_
  refine⟨_,rfl,wpAny_letOwnedTupleGo_enum (s:={ s with heap:=L,toks:=s.toks+1 }) O λh2 V F=>?_⟩
  have N:s.heap.objs.size ≠ e:=hV (Heap.lt_size g)
  have hI:s.heap.objs.size ≠ j:=by obtain⟨_,q,_⟩:=l;exact hV (Heap.lt_size q)
  have S:H s.heap.objs.size=none:=I.hok.fresh (ah _)
  have Y:CT X.prog X.w (upd H s.heap.objs.size (.tup [.int (i:Int),x])) h2 s.heap.objs.size (.tup [.int (i:Int),x]) :=
   ⟨by show 2<=sizeLine;decide,[.int i s.toks,u],.cons ⟨_,rfl⟩ (.cons T .nil),_,F.extBut _ _ N Z,rfl,_,rfl⟩
  refine⟨.ref s.heap.objs.size,_,I.K4 (t':=s.toks+1) (ch:=[e,j]) n (λb o f q=>?_) (ah _) Y,rfl,⟨_,S,rfl,λys hy=>⟨x,by rw[I.Ph hy t];exact y,rfl⟩⟩,⟨⟨u,?_⟩,n2.at λo q=>F.extBut _ _ (Ne.symm m) q⟩,λb f=>?_⟩
  ·exact F.extBut _ _ (λz=>f (by simp[z])) (R b o (λz=>f (by simp[z])) (λz=>f (by simp[z])) q)
  ·have e1:((i:Int)+1)=((i+1:Nat):Int):=by omega
   rw[<-e1]
   exact V
  ·have r:=f
   rcases ci.mp f with rfl | f
   ·rw[Aw (Ne.symm N)]
    exact (n _ r).1
   ·have q:b=j:=by simpa using f
    subst q
    rw[Aw (Ne.symm hI)]
    exact (n _ r).1
 done:=by
  intro X A G C M i a8 s σ H E I n st J
  subst A G C
  obtain⟨xs,t,y⟩:=J
  obtain⟨B,D,p,hz⟩:=I.list t
  obtain⟨⟨old,g⟩,l⟩:=st
  have hl:=D.length
  exact wpAny_pyNext_enum_end (I.ok.hd M) g l p.isList (by simp;omega) λL U=>⟨rfl,I.Np (t':=s.toks) (ch:=[e,j]) n λb o f q=>U b o (λz=>f (by simp[z])) q⟩
 self:=λ_ _ _ _ _ st h=>by
  obtain⟨⟨old,g⟩,_⟩:=st
  exact wpAny_pyIter_enum g h
theorem X_ {a b:Nat} (c:a<n) (d:b<n):ZipApart (n+4) (n+2) (n+3) n (n+1) a b:=by
 constructor <;> (refine (show @Ne Nat _ _ from ?_);omega)
theorem dZ {b:Nat} {P:Nat->Prop} (c:P n) (g:P (n+1)) (d:P (n+2)) (e:P (n+3)) (f:P (n+4)) (a:b∈[n,n+1,n+2,n+3,n+4]):P b:=by
 simp at a
 rcases a with rfl | rfl | rfl | rfl | rfl <;> assumption
theorem Ub {w:World} {K:W.Frag} {k1:Nat} (a b n:Nat) (ha:a<n) (hb:b<n) :
  Turn P w K (.Tuple es k1 pos) (vB K a b) [n,n+1,n+2,n+3,n+4] (n+4) (λi h=>IsZip h (n+4) (n+2) (n+3) .none/\IsPair h (n+2) (.ref n) (.ref (n+1))/\(∃ x y,IsPair h (n+3) x y)/\h.IsTupleIter n a i/\h.IsTupleIter (n+1) b i) where
 mem:=by simp
 obj:=λi h st c e=>by
  obtain⟨f,g,⟨x,y,j⟩,⟨o1,e1,_,d1⟩,⟨o2,e2,_,d2⟩⟩:=st
  refine dZ (P:=λc=>∃ o,h.get? c=some o/\∀ v,o.data ≠ .cell v) ⟨_,e1,λv z=>?_⟩ ⟨_,e2,λv z=>?_⟩ ⟨_,g,λv z=>?_⟩ ⟨_,j,λv z=>?_⟩ ⟨_,f,λv z=>?_⟩ e
  ·rw[d1] at z;cases z
  ·rw[d2] at z;cases z
  ·have p:Data.seq _ _=Data.cell v:=z
   cases p
  ·have p:Data.seq _ _=Data.cell v:=z
   cases p
  ·have p:Data.fields _=Data.cell v:=z
   cases p
 keep:=λi h h' st k=>by
  obtain⟨f,g,⟨x,y,j⟩,t,C⟩:=st
  exact⟨k _ (by simp) _ f,k _ (by simp) _ g,⟨x,y,k _ (by simp) _ j⟩,t.at λo q=>k _ (by simp) o q,C.at λo q=>k _ (by simp) o q⟩
 item:=by
  intro X M Q Y e i a8 s σ H E I B st R
  subst M Q Y
  obtain⟨xs,ys,x,y,A,q2,L,hy⟩:=R
  obtain⟨Z,S,G,_⟩:=I.tuple A
  obtain⟨NJ,r2,p2,_⟩:=I.tuple q2
  obtain⟨u,hu,ru⟩:=S.get L
  obtain⟨v,hv,rv⟩:=r2.get hy
  obtain⟨f,g,⟨x0,y0,j⟩,t,C⟩:=st
  have D:=X_ ha hb
  have r:s.TypeIs (.ref (n+4)) "zip":=⟨_,f,rfl⟩
  have sz:n+4<s.heap.objs.size:=Heap.lt_size f
  unfold pyNext
  refine wpAny_bind (wpAny_attempt (wpAny_callSpecial?_slot (name:=Str.ofString "__next__") r F.slot_zip_next (wpAny_call_entry F.slot_zip_next r F.entry_zip_next
   (Uy D f g j t C (show s.heap.IsTuple a Z.toArray from G) (show s.heap.IsTuple b NJ.toArray from p2) (x:=u) (y:=v) (by simpa using hu) (by simpa using hv) λm n1 n2 n3 n4 n5 n6 n7=>wpAny_pure ?_) (F.args_zip_next_1 _))))
  refine⟨_,rfl,wpAny_letOwnedTupleGo_zip (s:={ s with heap:=m }) n1 λO m1 l=>?_⟩
  have fr:H s.heap.objs.size=none:=I.hok.fresh (ah _)
  have nw:CT X.prog X.w (upd H s.heap.objs.size (.tup [x,y])) O s.heap.objs.size (.tup [x,y]) :=
   ⟨by show 2<=sizeLine;decide,[u,v],.cons ru (.cons rv .nil),_,l.extBut _ _ (Nat.ne_of_gt sz) n5,rfl,_,rfl⟩
  have V:IsPair m (n+2) (.ref n) (.ref (n+1)):=n7 _ _ D.TIz D.TITO D.TIi1 D.TIi2 g
  refine⟨.ref s.heap.objs.size,_,I.K4 (t':=s.toks) (ch:=[n,n+1,n+2,n+3,n+4]) B (λc o e q=>?_) (ah _) nw,rfl,⟨_,fr,rfl,λab y9 m O=>⟨x,y,by rw[I.J1 m A];exact L,by rw[I.J1 O q2];exact hy,rfl⟩⟩,
   ⟨m1,l.extBut _ _ D.TIz V,⟨u,v,l.extBut _ _ D.TOz n2⟩,n3.at λo q=>l.extBut _ _ D.i1z q,n4.at λo q=>l.extBut _ _ D.i2z q⟩,λc e=>?_⟩
  ·have z:∀ d,d∈[n,n+1,n+2,n+3,n+4]->c ≠ d:=λd N q=>e (q ▸ N)
   exact l.extBut _ _ (z _ (by simp)) (n7 c o (z _ (by simp)) (z _ (by simp)) (z _ (by simp)) (z _ (by simp)) q)
  ·rw[Aw ?_]
   ·exact (B c e).1
   ·have lt:c<=n+4:=dZ (P:=λc=>c<=n+4) (by omega) (by omega) (by omega) (by omega) (ah _) e
    exact cf (ar lt sz)
 done:=by
  intro X M Q Y e i a8 s σ H E I B st R
  subst M Q Y
  obtain⟨xs,A,L⟩:=R
  obtain⟨Z,S,G,_⟩:=I.tuple A
  obtain⟨f,g,⟨x0,y0,j⟩,t,C⟩:=st
  have D:=X_ ha hb
  have r:s.TypeIs (.ref (n+4)) "zip":=⟨_,f,rfl⟩
  have hl:=S.length
  unfold pyNext
  refine wpAny_bind (wpAny_attempt (wpAny_callSpecial?_slot (name:=Str.ofString "__next__") r F.slot_zip_next (wpAny_call_entry F.slot_zip_next r F.entry_zip_next
   (Wl (I.ok.hd e) D f g j t (show s.heap.IsTuple a Z.toArray from G) (by simp;omega) λm x k1 U=>?_) (F.args_zip_next_1 _))))
  obtain⟨o,ho,J⟩:=U
  refine wpAny_bind (wpAny_isInstance (T:="StopIteration") (b:=true) ⟨o,ho,J⟩ isSubtype_stop (wpAny_pure ?_))
  refine⟨rfl,I.Np (t':=s.toks) (ch:=[n,n+1,n+2,n+3,n+4]) B λc o e q=>?_⟩
  have z:∀ d,d∈[n,n+1,n+2,n+3,n+4]->c ≠ d:=λd N q=>e (q ▸ N)
  exact k1 c o (z _ (by simp)) (z _ (by simp)) (z _ (by simp)) (z _ (by simp)) q
 self:=λ_ _ _ _ _ st h=>wpAny_pyIter_zip st.1 h
section
variable {k1:Nat} {lj:Pos}
inductive V9 (K:W.Frag) (R:It->Hp->Prop) (vs:List V) (H1:Hp):Prop
 | mk (a:_):vs=[.ref a]->(∃ xs,Dc K H1 a xs)->R (jY K a) H1->V9 K R vs H1
def lQ (K:W.Frag) (ta:TA):TI:=λσ H R=>ta σ H λvs H1=>V9 K R vs H1
inductive aV (K:W.Frag) (R:It->Hp->Prop) (vs:List V) (H1:Hp):Prop
 | mk (a b:_):vs=[.ref a,.ref b]->(∃ xs,HW K H1 a xs)->(∃ ys,HW K H1 b ys)->R (vB K a b) H1->aV K R vs H1
def wW (K:W.Frag) (ta:TA):TI:=λσ H R=>ta σ H λvs H1=>aV K R vs H1
theorem Kl {l:Expr} {i:TA} {p:Pos} (z:Gl X "enumerate") (v:X.mg "enumerate" = none) (w:PA X [l] i) (m:starEach [l] X.env=[(false,eval l X.env)]:=by rfl) :
  PI X (.Tuple es k1 lj) (.Call (.Name "enumerate" p) [l] [] pos) (lQ X.K i):=by
 intro x s σ H R I h
 refine Call_ (Hv I z v boot_enumerate (PyProof.Rows.callWith_type1 (CJ (w pos x s σ H _ I h) λD c ⟨G,C,d,A,o⟩=>?_) m rfl))
 obtain⟨a,e,⟨K,j⟩,q⟩:=o
 subst e
 obtain⟨u,rfl,k⟩:=vals1 A
 cases k
 obtain⟨r,F,t,J⟩:=d.list j
 refine call_enumerate_list t.isList λn g y E B=>?_
 refine wpAny_pyIter_enum (s:={ c with heap:=n }) g ?_
 refine⟨_,[c.heap.objs.size+1,c.heap.objs.size],_,_,C,rfl,d.kept (t':=c.toks) B,Tw a _ _ (Nat.succ_ne_self _),⟨⟨_,g⟩,y⟩,λb f=>?_,q⟩
 have lt:c.heap.objs.size<=b:=by
  rcases ci.mp f with rfl | f
  ·exact iP _
  ·exact Nat.le_of_eq ((av.mp f).symm)
 exact d.MK lt (d.hok.fresh lt)
theorem Zf {x y:Expr} {o:TA} {p:Pos} (Q:Gl X "zip") (E:X.mg "zip" = none) (L:PA X [x,y] o) (z:starEach [x,y] X.env=[(false,eval x X.env),(false,eval y X.env)]:=by rfl) (m:starEach [y] X.env=[(false,eval y X.env)]:=by rfl) :
  PI X (.Tuple es k1 lj) (.Call (.Name "zip" p) [x,y] [] pos) (wW X.K o):=by
 intro M s σ H R I h
 refine Call_ (Hv I Q E boot_zip (PyProof.Rows.callWith_type1 (CJ (L pos M s σ H _ I h) λW d ⟨Z,U,f,r,g⟩=>?_) (by rw[z,m]) (by rw[m];rfl)))
 obtain⟨a,b,e,⟨xs,g⟩,⟨ys,O⟩,q⟩:=g
 subst e
 obtain⟨u,v,rfl,w,K⟩:=Vals.two r
 cases w
 cases K
 obtain⟨T,r,j,_⟩:=f.tuple g
 obtain⟨F,Y,l,_⟩:=f.tuple O
 refine VP (show d.heap.IsTuple a T.toArray from j) (show d.heap.IsTuple b F.toArray from l) λA n i k N J S t V D=>?_
 refine wpAny_pyIter_zip (s:={ d with heap:=A }) k ?_
 have C:a<n:=by rw[i];exact j.lt
 have G:b<n:=by rw[i];exact l.lt
 refine⟨_,[n,n+1,n+2,n+3,n+4],_,_,U,rfl,f.kept (t':=d.toks) D,Ub a b n C G,⟨k,N,⟨_,_,J⟩,S,t⟩,λc B=>?_,q⟩
 have lt:d.heap.objs.size<=c:=by
  rw[<-i]
  exact dZ (P:=λc=>n<=c) (by omega) (by omega) (by omega) (by omega) (by omega) B
 exact f.MK lt (f.hok.fresh lt)
end
theorem Zr {w:World} {R:Result->Shared->Prop} {b d:Value} {a:Env} (J:Nat->Shared->Prop) (k:E=notedBy (model prog w) A a λe s'=>R (.error e) s')
  (i:∀ n s,J n s->wpAny (model prog w) A (pyNext b) (λr s1=>match r with
   | none=>R (.ok .next) s1
   | some v=>wpAny (model prog w) A (letOwnedTupleGo tg b v) (λ_ s2=>wpAny (model prog w) A (assign tg a v) (λ_ s3 =>
     wpAny (model prog w) A (forIn k9 true λc r=>if r=true then do let ok <-isTrue c a (eval c a);pure (ForInStep.yield ok) else pure (ForInStep.yield r)) (λok s4 =>
      if ok=true then wpAny (model prog w) A (eval lf a) (λx s5=>wpAny (model prog w) A (call (.builtin "list.append") [d,x]) (λ_ s6=>∃ m,m<n/\J m s6) E s5) E s4
      else ∃ m,m<n/\J m s4) E s3) E s2) E s1) E s) (n:Nat) (h:J n s) :
  codeAny (model prog w) A (.compLoop (.ListComp lf [⟨tg,iter,k9,0⟩] scope pos) 0 b d a) R s:=by
 subst k
 refine codeAny_loop rfl J (λn s l=>(show wpAny _ A ((compTurn (.ListComp lf [⟨tg,iter,k9,0⟩] scope pos) 0 b d a).onRaise (λx=>do noteFrame x a;theTreesLotGoes x)) _ _ s from wpAny_noted ?_)) n h
 rw[compTurn_list]
 refine wpAny_bind (wpAny_standAt (wpAny_bind (wpAny_mono (i n s l) (λr s1 f=>?_) λ_ _ q=>q)))
 cases r with
 | none=>exact wpAny_pure f
 | some v =>
  refine wpAny_bind (wpAny_mono f (λ_ s2 j=>wpAny_bind (wpAny_mono j (λ_ s3 o=>wpAny_bind (wpAny_mono o (λok s4 g=>?_) λ_ _ q=>q)) λ_ _ q=>q)) λ_ _ q=>q)
  cases ok with
  | false=>exact wpAny_pure ⟨rfl,g⟩
  | true=>exact wpAny_bind (wpAny_bind (wpAny_mono g (λx s5 p=>wpAny_bind (wpAny_mono p (λ_ s6 t=>wpAny_pure (wpAny_pure ⟨rfl,t⟩)) λ_ _ q=>q)) λ_ _ q=>q))
def Bm (X:Cx) (x z:Str) (scope:Scope) (C:Addr) (s₀:Shared) (H₀:Hp) (fp:List Addr):Cx where
 prog:=X.prog
 w:=X.w
 K:=X.K
 mg:=X.mg
 base:=X.base
 A:=X.A
 N:=x::z::X.N
 s₀:=s₀
 H₀:=H₀
 env:=compEnvC scope (Dj X.env scope.names []) C X.env
 outer:=X.stack
 stack:=X.stack
 ex:=fp
 fn:=λ_=>false
 calm:=X.calm
 pn:=[]
 xe:=λ_ _=>False
structure Ec (X:Cx) (x z:Str) (scope:Scope):Prop where
 kind:scope.kind=.function
 nocell:∀ y∈scope.names,y.2 ≠ .cell
 names:∀ y∈scope.names,y.2=.local->scope.names.lookup y.1=some .local
 loc:scope.names.lookup x=some .local
 loz:scope.names.lookup z=some .local
 free:∀ y∈scope.names,y.2=.free->X.env.kindOf y.1=some .cell \/ X.env.kindOf y.1=some .free
 nd:(x::z::X.N).Nodup
 only:∀ y∈X.N,scope.names.lookup y ≠ some .local
section
variable {z:Str}
theorem P0 {tk:Nat} {m:Str->Option Value} (I:Inv X a8 σ H s) (S:Ec X x z scope) (L:∀ b∈fp,G6 X a8 H b) (N:∀ b∈fp,b<s.heap.objs.size) (J:s.heap.objs.size<=C) (hn:h'.Ns C m)
  (R:∀ b o,s.heap.get? b=some o->h'.get? b=some o):Inv (Bm X x z scope C s H fp) [] (none::none::σ) H { s with heap:=h',toks:=tk }:=by
 have A:∀ y c,(Dj X.env scope.names []).lookup y=some c->X.env.cells.lookup y=some c:=λy c e=>by
  rcases Gp X.env scope.names [] y c e with z | z
  ·cases z
  ·exact z
 have d:∀ c v,s.heap.IsCell c v->h'.IsCell c v:=λc v ⟨o,ho,hd⟩=>⟨o,R c o ho,hd⟩
 have look:∀ y,(Bm X x z scope C s H fp).env.scope.names.lookup y=(scope.names.lookup y).map λk=>if (k == NameKind.free && X.env.scope.kind == .function && X.env.kindOf y == some .cell) then NameKind.cell else k:=λy=>Fz X.env y scope.names
 refine⟨⟨I.ok.mod,S.kind,I.ok.glob,I.ok.blt,J,λy z c e1 e2=>I.ok.inj y z c (A y c e1) (A z c e2),λy hy=>?_,λy c e _=>(by cases e),λh=>I.ok.hd h,I.ok.frames,.inl rfl,λb w=>?_,I.bs,be I.ok.bsz I.sz,λb o e w=>?_,λb w K=>?_,I.stack,I.Ie⟩,
  rfl,I.bare,Un.kept R,⟨m,hn,λi y v B q h3=>?_⟩,λy c e=>?_,I.hok.fresh J,λy c e=>I.freeC y c (A y c e),λp hp=>absurd (show p∈([]:List (Addr × Obj)) from hp) (by simp),I.hok.kept R,?_⟩
 ·have j:(Bm X x z scope C s H fp).env.scope.names.lookup y=some .cell \/ (Bm X x z scope C s H fp).env.scope.names.lookup y=some .free:=hy
  rw[look y] at j
  cases e:scope.names.lookup y with
  | none=>rw[e] at j;rcases j with z | z <;> cases z
  | some k =>
   have n:=PySem.mem_of_lookup e
   have a:k=.free:=by
    rw[e] at j
    cases k with
    | free=>rfl
    | cell=>exact absurd rfl (S.nocell _ n)
    | _=>rcases j with z | z <;> simp at z
   subst a
   obtain⟨c,F⟩:=I.ok.has y (S.free _ n rfl)
   exact fi.mp (Es X.env scope.names [] y n (by rw[F];rfl))
 ·obtain⟨U,P,Q,O,M,T⟩:=L b w
  exact⟨cf (bi (N b w) J),λy c e=>M y c (A y c e)⟩
 ·obtain⟨U,P,Q,O,M,T⟩:=L b w
  rcases O with z | z
  ·exact I.ok.noex b o e z
  ·exact absurd (bi (Heap.lt_size e) (be I.ok.bsz z)) (fR _)
 ·obtain⟨U,P,Q,O,M,T⟩:=L b w
  rcases ci.mp (I.Nb b K) with e | e
  ·exact P e
  ·exact Q e
 ·match i,B,q with
  | 0,B,q =>
   have f:(some none:Option (Option V))=some (some v):=q
   cases f
  | 1,B,q =>
   have f:(some none:Option (Option V))=some (some v):=q
   cases f
  | i+2,B,q =>
   have Y:X.N[i]? = some y:=B
   have f:σ[i]? = some (some v):=q
   have E:y∈X.N:=ai Y
   have g:(Bm X x z scope C s H fp).env.scope.names.lookup y=some .local \/ (Bm X x z scope C s H fp).env.scope.names.lookup y=some .cell \/ (Bm X x z scope C s H fp).env.scope.names.lookup y=some .free:=h3
   rw[look y] at g
   cases e:scope.names.lookup y with
   | none=>rw[e] at g;rcases g with z | z | z <;> cases z
   | some k =>
    have n:=PySem.mem_of_lookup e
    have a:k=.free:=by
     rw[e] at g
     cases k with
     | free=>rfl
     | cell=>exact absurd rfl (S.nocell _ n)
     | «local»=>exact absurd e (S.only y E)
     | _=>rcases g with z | z | z <;> simp at z
    subst a
    have W:=S.free _ n rfl
    obtain⟨m0,EL,Md⟩:=I.loc
    obtain⟨u,r,l⟩:=Md i y v Y f (by rcases W with z | z;exact .inr (.inl z);exact .inr (.inr z))
    refine⟨u,r,.inr ⟨?_,?_⟩⟩
    ·have G:(Bm X x z scope C s H fp).env.scope.names.lookup y=some (if (NameKind.free == NameKind.free && X.env.scope.kind == .function && X.env.kindOf y == some .cell) then NameKind.cell else NameKind.free):=by
      rw[look y,e];rfl
     by_cases c:(NameKind.free == NameKind.free && X.env.scope.kind == .function && X.env.kindOf y == some .cell)=true
     ·rw[if_pos c] at G;exact .inl G
     ·rw[if_neg c] at G;exact .inr G
    ·rcases l with⟨Z,_⟩ | ⟨_,c,F,t⟩
     ·exfalso
      rcases W with z | z <;> (rw[show X.env.kindOf y=some NameKind.local from Z] at z;cases z)
     ·obtain⟨c',D⟩:=fi.mp (Es X.env scope.names [] y n (by rw[F];rfl))
      have:=A y c' D
      rw[F] at this
      cases this
      exact⟨c,D,d c _ t⟩
 ·obtain⟨v,z⟩:=I.cell y c (A y c e)
  exact⟨v,d c v z⟩
 ·show (none::none::σ).length=(x::z::X.N).length
  simp[I.len]
end
def Im (J:It) (σ:St) (H1:Hp) (Q:VK) (g:TG) (tt:TT) (te:TE):Prop:=∀ D,H1 D=none->∃ W:Nat->Nat->List V->Hp->Prop,(∃ m,W 0 m [] (upd H1 D (.lst [])))/\∀ i m ys H2,W i m ys H2 ->
 (J.stop i H2/\Q (.ref D) H2) \/ (J.go i H2/\∀ x H3,J.yld i H2 x H3->∀ v0 v1,g x (v0::v1::σ) H3 λσ' H3'=>(∃ w0 w1,σ'=w0::w1::σ)/\tt σ' H3' λb H4 =>
  if b=true then te σ' H4 λy H5=>H5 D=some (.lst ys)/\ys.length<sizeLine/\∃ m',m'<m/\W (i+1) m' (ys++[y]) (upd H5 D (.lst (ys++[y])))
  else ∃ m',m'<m/\W (i+1) m' ys H4)
def Qf (wi:TI) (g:TG) (tt:TT) (te:TE):TE:=λσ H Q=>wi σ H λJ H1=>Im J σ H1 Q g tt te
section
variable {z:Str}
theorem Kd {c:Shared} {M:Nat->Heap->Prop} {J:It} {E:vSP}
  {RR:Value->Addr->Result->Shared->Prop} {Q:VK}
  (hc:X.calm=true) (S:Ec X x z scope) (hg:∀ C s₀ H₀ fp,PG (Bm X x z scope C s₀ H₀ fp) tg g) (ht:∀ C s₀ H₀ fp,NT (Bm X x z scope C s₀ H₀ fp) k9 tt) (he:∀ C s₀ H₀ fp,PE (Bm X x z scope C s₀ H₀ fp) lf te)
  (I2:Inv X a8 σ H2 c) (T:Turn X.prog X.w X.K tg J fp it M) (qh:M 0 c.heap) (f2:∀ b∈fp,G6 X a8 H2 b) (q:Im J σ H2 Q g tt te)
  (MS:∀ D C s' H' m,s'.heap.Ns C m->G6 X a8 H' C->Inv X a8 σ H' s'->Q (.ref D) H'->RR (.ref D) C (.ok .next) s') :
  wpAny (model X.prog X.w) X.A (newList []) (λi5 s₃=>wpAny (model X.prog X.w) X.A (newFunctionEnv scope X.env.globals (Dj X.env scope.names []) [] X.env.qual none .none (some X.env)) (λtT s₄ =>
   codeAny (model X.prog X.w) X.A (.compStart (.ListComp lf [⟨tg,iter,k9,0⟩] scope pos) 0 (.ref it) i5 { tT with scope:=relabel scope X.env }) (RR i5 tT.locals) s₄) E s₃) E c:=by
 refine wpAny_newObj_type (wpAny_newFunctionEnv S.nocell (by intro y hy;simp at hy) (λG zw AG=>?_) S.kind)
 have Y:=I2.gD (its:=[]) (ys:=[]) (t':=c.toks) .nil (dL _)
 have ac:H2 c.heap.objs.size=none:=I2.fresh
 obtain⟨W,⟨m0,k⟩,ow⟩:=q _ ac
 generalize H:({ c with heap:=c.heap.push { cls:=.type "list",data:=.seq ([]:List Value).toArray },toks:=c.toks }:Shared)=a at Y
 have e3:a.heap=c.heap.push { cls:=.type "list",data:=.seq ([]:List Value).toArray }:=by rw[<-H]
 have L:∀ b∈fp,b<c.heap.objs.size:=λb f=>let ⟨_,e,_⟩:=T.obj _ _ qh b f;Heap.lt_size e
 have U:∀ b∈fp,b<a.heap.objs.size:=λb f=>by rw[e3,Heap.size_push];exact gz (L b f)
 have f3:∀ b∈fp,G6 X a8 (upd H2 c.heap.objs.size (.lst [])) b:=λb f=>⟨by rw[Aw (cf (L b f))];exact (f2 b f).1,(f2 b f).2⟩
 have O:∀ b o,a.heap.get? b=some o->G.get? b=some o:=λb o e=>by
  have I:b ≠ a.heap.objs.size:=cf (Heap.lt_size e)
  rw[e3] at e I
  exact AG.extBut b o I (Heap.get?_push_of_some _ e)
 have hC:a.heap.objs.size=(c.heap.push { cls:=.type "list",data:=.seq ([]:List Value).toArray }).objs.size:=by rw[e3]
 have ap:G.Ns a.heap.objs.size (λx=>([]:List (Str × Value)).reverse.lookup x):=by rw[hC];exact zw
 have N:M 0 G:=T.keep _ _ _ qh λb f o e=>O b o (by rw[e3];exact Heap.get?_push_of_some _ e)
 have start:∀ j,Inv (Bm X x z scope a.heap.objs.size a (upd H2 c.heap.objs.size (.lst [])) fp) [] (none::none::σ) (upd H2 c.heap.objs.size (.lst [])) { a with heap:=G,toks:=j }:=λj =>
  P0 Y S f3 U (ah _) ap O
 have s:∀ j,codeAny (model X.prog X.w) X.A (.compLoop (.ListComp lf [⟨tg,iter,k9,0⟩] scope pos) 0 (.ref it) (.ref c.heap.objs.size) (compEnvC scope (Dj X.env scope.names []) a.heap.objs.size X.env))
   (RR (.ref c.heap.objs.size) a.heap.objs.size) { a with heap:=G,toks:=j }:=by
  intro j
  refine Zr (λn s'=>∃ i v l t H',Inv (Bm X x z scope a.heap.objs.size a (upd H2 c.heap.objs.size (.lst [])) fp) [] (l::t::σ) H' s'/\M i s'.heap/\(∀ b∈fp,H' b=none)/\W i n v H') rfl ?_ m0
   ⟨0,[],none,none,_,start j,N,λb f=>(f3 b f).1,k⟩
  rintro n s4 ⟨i,v,l,t,Z,K,FH,KP,w4⟩
  have h:∀ {H':Hp},(∀ b∈fp,H' b=none)->∀ b∈fp,G6 (Bm X x z scope a.heap.objs.size a (upd H2 c.heap.objs.size (.lst [])) fp) [] H' b:=λhn b f=>by
   refine⟨hn b f,(K.ok.exf b f).1,K.ok.exfs b f,.inl f,(K.ok.exf b f).2,λp hp=>absurd (show p∈([]:List (Addr × Obj)) from hp) (by simp)⟩
  rcases ow i n v Z w4 with⟨stop,qn⟩ | ⟨go,step⟩
  ·refine CJ (T.done (Bm X x z scope a.heap.objs.size a (upd H2 c.heap.objs.size (.lst [])) fp) rfl rfl rfl hc i [] s4 (l::t::σ) Z _ K (h KP) FH stop) λr s5 ⟨hr,F⟩=>?_
   subst hr
   obtain⟨m,hn,_⟩:=F.loc
   refine MS _ _ s5 Z m hn (Y.MK (ah _) F.free) (Y.call' (s':=s5) (ch:=fp) F.os F.base F.hok F.bare (λb f=>?_)) qn
   obtain⟨_,g1,_,g3,g4,g5⟩:=f3 b f
   exact⟨g3,g1,g4,g5⟩
  ·refine CJ (T.item (Bm X x z scope a.heap.objs.size a (upd H2 c.heap.objs.size (.lst [])) fp) rfl rfl rfl hc i [] s4 (l::t::σ) Z _ K (h KP) FH go) λr s5 ⟨u,hr,h5⟩=>?_
   subst hr
   refine CJ h5 λ_ s6 h6=>?_
   obtain⟨xv,H6,I6,r6,y6,A9,M'⟩:=h6
   have OG:=I6.pinned (h M') (T.obj _ _ A9)
   have again:∀ {A:Shared} {B:Hp} {y9:List V} {k w:Option V},Inv (Bm X x z scope a.heap.objs.size a (upd H2 c.heap.objs.size (.lst [])) fp) ([]++J5 fp s6.heap) (k::w::σ) B A->(∃ m',m'<n/\W (i+1) m' y9 B) ->
     ∃ m,m<n/\∃ i v l t H',Inv (Bm X x z scope a.heap.objs.size a (upd H2 c.heap.objs.size (.lst [])) fp) [] (l::t::σ) H' A/\M i A.heap/\(∀ b∈fp,H' b=none)/\W i m v H':=λ{A B y9 k w} P hw=>by
    obtain⟨m',hm,w7⟩:=hw
    refine⟨m',hm,i+1,y9,k,w,B,P.H_,T.keep _ _ _ A9 λb f o e=>(P.pin (b,o) (br _ (br _ (Er f e)))).1,λb f=>?_,w7⟩
    obtain⟨o,e,d⟩:=T.obj _ _ A9 b f
    exact (P.pin (b,o) (br _ (br _ (Er f e)))).2.1
   refine Qc (hg _ _ _ _ _ s6 (l::t::σ) H6 xv u _ OG r6 (step xv H6 y6 l t)) λ_ A ⟨σ7,B,P,⟨k,w,e7⟩,q7⟩=>?_
   subst e7
   refine Qc (ht _ _ _ _ _ A (k::w::σ) B _ P q7) λb s8 f'=>?_
   obtain⟨H8,I8,q8⟩:=f'
   cases b with
   | false =>
    rw[if_neg fb] at q8 |-
    exact again I8 q8
   | true =>
    rw[if_pos rfl] at q8 |-
    refine Qc (he _ _ _ _ _ s8 (k::w::σ) H8 _ I8 q8) λy s9 f'=>?_
    obtain⟨yv,H9,I9,r9,SD,NX,q9⟩:=f'
    refine Qc (DK (X:=Bm X x z scope a.heap.objs.size a (upd H2 c.heap.objs.size (.lst [])) fp) _ s9 (k::w::σ) H9 (.ref c.heap.objs.size) [yv] (.ref c.heap.objs.size) [y] (λ_ H'=>H'=upd H9 c.heap.objs.size (.lst (v++[yv]))) I9 rfl (.cons r9 .nil)
     ⟨_,v,yv,rfl,rfl,SD,NX,rfl⟩) λ_ as ⟨_,mx,NV,_,an⟩=>?_
    subst an
    exact again NV q9
 have ab:=λj=>codeAny_compStart_list (R:=RR (.ref c.heap.objs.size) a.heap.objs.size) (s j) (T.self X.A 0 { a with heap:=G,toks:=j } (λOs s'=>codeAny (model X.prog X.w) X.A (.compLoop (.ListComp lf [⟨tg,iter,k9,0⟩] scope pos) 0 Os (.ref c.heap.objs.size) (compEnvC scope (Dj X.env scope.names []) a.heap.objs.size X.env)) (RR (.ref c.heap.objs.size) a.heap.objs.size) s') _ N (s j))
 subst H
 exact ab _
theorem Wz {b:TI} (i:X.calm=true) (S:Ec X x z scope) (hi:PI X tg iter b) (A:∀ C s₀ H₀ fp,PG (Bm X x z scope C s₀ H₀ fp) tg g)
  (k:∀ C s₀ H₀ fp,NT (Bm X x z scope C s₀ H₀ fp) k9 tt) (B:∀ C s₀ H₀ fp,PE (Bm X x z scope C s₀ H₀ fp) lf te) (d:∀ x,foldedSetIterable iter X.env x=pure x:=by intro _;rfl) :
  PE X (.ListComp lf [⟨tg,iter,k9,0⟩] scope pos) (Qf b g tt te):=by
 intro a s σ H Q I h
 rw[eval_ListComp]
 refine wpAny_comprehension_free (use:=none) (cl:=Dj X.env scope.names []) rfl d (HB λy p G=>I.ok.has y.1 (S.free y p G)) S.kind S.names (CJ (hi a s σ H _ I h) λv L f=>CJ f λU O u=>?_)
 obtain⟨P,fp,M,J,K,e,j,T,t,F,q⟩:=u
 subst e
 refine Kd (RR:=λr C=>compPost (model X.prog X.w) X.A X.xe none (EP X a σ Q) r C) (Q:=Q) i S A k B j T t F q ?_
 intro D C R w m n l E c
 exact⟨m,n,λN o=>⟨.ref D,w,E.sameBut l o,rfl,c⟩⟩
end
open PySem PySem.Spec PySem.Calls PyProof.Rows
theorem An.tup {K:W.Frag} (e:An H H') (h:HW K H a xs):HW K H' a xs:=by
 rcases h with (h | ⟨o,h⟩) | h
 ·exact .inl (.inl (e _ _ h))
 ·exact .inl (.inr ⟨o,e _ _ h⟩)
 ·exact .inr h
inductive TupAt (H:Hp) (zs:List V) (y:V):Prop
 | mk (T:_):y=.ref T->H T=some (.tup zs)->TupAt H zs y
theorem TupAt.mono {a:List V} (s:An H H') (h:TupAt H a y):TupAt H' a y:=let ⟨T,e,q⟩:=h;⟨T,e,s _ _ q⟩
theorem TupAt.upd {a ys b:List V} (h:TupAt H a y) (c:H D=some (.lst ys)):TupAt (upd H D (.lst b)) a y:=by
 obtain⟨T,e,q⟩:=h
 refine⟨T,e,?_⟩
 rw[Aw λz=>by rw[z,c] at q;cases q]
 exact q
theorem Ci {α:Type} {f:α->List V} {l:List α} {ys b:List V} (h:Paired (λa y=>TupAt H (f a) y) l vs) (c:H D=some (.lst ys)):Paired (λa y=>TupAt (upd H D (.lst b)) (f a) y) l vs:=Paired.J3 h λ_ _ q=>q.upd c
theorem Ar {α:Type} {f:α->List V} {l:List α} (s:An H H') (h:Paired (λa y=>TupAt H (f a) y) l vs):Paired (λa y=>TupAt H' (f a) y) l vs:=Paired.J3 h λ_ _ q=>q.mono s
def Ol (x z:Str) (scope osc:Scope) (N:List Str):Bool :=
 (scope.kind == .function) && scope.names.all (λy=>y.2 != .cell && (y.2 != .local || scope.names.lookup y.1 == some .local) && (y.2 != .free || osc.names.lookup y.1 == some .cell || osc.names.lookup y.1 == some .free)) && (scope.names.lookup x == some .local) && (scope.names.lookup z == some .local) &&
 decide ((x::z::N).Nodup) && N.all (λy=>scope.names.lookup y != some .local)
theorem G3 {z:Str} {osc:Scope} {N:List Str} (k:X.env.scope=osc) (g:X.N=N) (h:Ol x z scope osc N=true):Ec X x z scope:=by
 unfold Ol at h
 simp only[Bool.and_eq_true] at h
 obtain⟨⟨⟨⟨⟨l,c⟩,i⟩,d⟩,j⟩,f⟩:=h
 rw[fo] at c f
 have b:∀ y,X.env.kindOf y=osc.names.lookup y:=λy=>by show X.env.scope.names.lookup y=_;rw[k]
 refine⟨by simpa using l,λy a=>?_,λy a e=>?_,by simpa using i,by simpa using d,λy a e=>?_,by rw[g];exact of_decide_eq_true j,λy a=>?_⟩
 ·have:=c y a
  simp only[Bool.and_eq_true,bne_iff_ne] at this
  exact this.1.1
 ·have:=c y a
  simp only[Bool.and_eq_true] at this
  simpa [e] using this.1.2
 ·have:=c y a
  simp only[Bool.and_eq_true] at this
  rw[b]
  simpa [e] using this.2
 ·have:=f y (by rw[<-g];exact a)
  simpa using this
section
variable {z:Str}
theorem TY {g e:Pos} {k:Nat} {b:Shared} {a:Hp} (f:X.calm=true) (S:Ec X x z scope) :
  PG (Bm X x z scope C b a fp) (.Tuple [.Name x g,.Name z e] k pos) (Nz X.K 2 (FT (Dh 0) (FT (Dh 1) QL))):=by
 have c:(Bm X x z scope C b a fp).env.scope.names.lookup x=some .local:=lookup_relabel_local S.loc
 have d:(Bm X x z scope C b a fp).env.scope.names.lookup z=some .local:=lookup_relabel_local S.loz
 exact Ld (X:=Bm X x z scope C b a fp) (n:=2) f (EY (Ck (X:=Bm X x z scope C b a fp) (i:=0) S.nd rfl (.inl c) (.inr c)) (EY (Ck (X:=Bm X x z scope C b a fp) (i:=1) S.nd rfl (.inl d) (.inr d)) Jg))
theorem Ny {e b a:Pos} {k:Nat} {d:TI} (c:X.calm=true) (S:Ec X x z scope) (hi:PI X (.Tuple [.Name x e,.Name z b] k a) iter d)
  (h:∀ C s₀ H₀ fp,NT (Bm X x z scope C s₀ H₀ fp) k9 tt) (g:∀ C s₀ H₀ fp,PE (Bm X x z scope C s₀ H₀ fp) lf te) (f:∀ x,foldedSetIterable iter X.env x=pure x:=by intro _;rfl) :
  PE X (.ListComp lf [⟨.Tuple [.Name x e,.Name z b] k a,iter,k9,0⟩] scope pos) (Qf d (Nz X.K 2 (FT (Dh 0) (FT (Dh 1) QL))) tt te) :=
 Wz c S hi (λ_ _ _ _=>TY c S) h g f
end
section
variable {Q:VK}
theorem Cz {K:W.Frag} (p:V->Bool) (f:V->V) (c:Dc K H1 a xs) (h:xs.length<sizeLine)
  (k:∀ x∈xs,∀ H,An H1 H->∀ R:Bool->Hp->Prop,(∀ H',An H H'->R (p x) H')->tt (some x::σ) H R)
  (j:∀ x∈xs,p x=true->∀ H,An H1 H->∀ R:VK,(∀ H',An H H'->R (f x) H')->te (some x::σ) H R)
  (e:∀ D H,H1 D=none->An H1 H->H D=some (.lst ((xs.filter p).map f))->Q (.ref D) H):Gz (cC K a) σ H1 Q tt te :=
 Hq p f h (λi H x b g=>⟨xs,x,b.seq c,g⟩) (λi H y H' b _ d=>⟨d.1,d.2 xs (b.seq c)⟩) (λH b=>⟨xs,b.seq c,ah _⟩) k j e
theorem Mq {J:It} (p:V->Bool) (f:V->List V) (E:xs.length<sizeLine)
  (I:∀ i H x,An H1 H->xs[i]? = some x->J.go i H) (B:∀ i H y H',An H1 H->i<xs.length->J.yld i H y H'->H'=H/\xs[i]? = some y) (u:∀ H,An H1 H->J.stop xs.length H)
  (w:∀ x∈xs,∀ H,An H1 H->∀ R:Bool->Hp->Prop,(∀ H',An H H'->R (p x) H')->tt (some x::σ) H R)
  (G:∀ x∈xs,p x=true->∀ H,An H1 H->∀ R:VK,(∀ y H',An H H'->TupAt H' (f x) y->R y H')->te (some x::σ) H R)
  (v:∀ D H ys,H1 D=none->An H1 H->H D=some (.lst ys)->Paired (λx y=>TupAt H (f x) y) (xs.filter p) ys->Q (.ref D) H):Gz J σ H1 Q tt te:=by
 intro D s
 have C:An H1 (upd H1 D (.lst [])):=λb o e=>by rw[Aw (Aj e s)];exact e
 refine⟨λi m ys H=>m=xs.length - i/\i<=xs.length/\H D=some (.lst ys)/\Paired (λx y=>TupAt H (f x) y) ((xs.take i).filter p) ys/\An H1 H,⟨xs.length,by simp,Nat.zero_le _,Al,by simpa using Paired.nil,C⟩,?_⟩
 rintro i m ys H ⟨rfl,L,k,l,g⟩
 by_cases d:i<xs.length
 ·obtain⟨x,h⟩:∃ x,xs[i]? = some x:=⟨xs[i],by simp[d]⟩
  refine .inr ⟨I i H x g h,λy A r=>?_⟩
  obtain⟨rfl,q⟩:=B i H y A g d r
  rw[h] at q
  cases q
  have t:x∈xs:=ai h
  have j:ys.length<sizeLine:=by
   rw[<-l.length]
   refine ar (bt _ _) (ar ?_ E)
   rw[cm];omega
  refine w x t _ g _ λF c=>?_
  by_cases a:p x=true
  ·rw[if_pos a]
   refine G x t a F (g.trans c) _ λy K n z=>?_
   refine⟨n _ _ (c _ _ k),j,xs.length - (i+1),by omega,rfl,d,Al,?_,λb o e=>?_⟩
   ·rw[take_succ_filter p xs i x h,if_pos a]
    exact (Ci (Ar (c.trans n) l) (n _ _ (c _ _ k))).snoc (z.upd (n _ _ (c _ _ k)))
   ·rw[Aw (Aj e s)];exact n _ _ (c _ _ (g _ _ e))
  ·rw[if_neg a]
   refine⟨xs.length - (i+1),by omega,rfl,d,c _ _ k,?_,g.trans c⟩
   rw[take_succ_filter p xs i x h,if_neg a,eD]
   exact Ar c l
 ·have e:i=xs.length:=by omega
  subst e
  rw[eJ] at l
  exact .inl ⟨u H g,v D H ys s g k l⟩
theorem Lj {K:W.Frag} (p:V->Bool) (f:V->List V) (c:Dc K H1 a xs) (h:xs.length<sizeLine)
  (k:∀ x∈xs,∀ H,An H1 H->∀ R:Bool->Hp->Prop,(∀ H',An H H'->R (p x) H')->tt (some x::σ) H R)
  (j:∀ x∈xs,p x=true->∀ H,An H1 H->∀ R:VK,(∀ y H',An H H'->TupAt H' (f x) y->R y H')->te (some x::σ) H R)
  (e:∀ D H ys,H1 D=none->An H1 H->H D=some (.lst ys)->Paired (λx y=>TupAt H (f x) y) (xs.filter p) ys->Q (.ref D) H):Gz (cC K a) σ H1 Q tt te :=
 Mq p f h (λi H x b g=>⟨xs,x,b.seq c,g⟩) (λi H y H' b _ d=>⟨d.1,d.2 xs (b.seq c)⟩) (λH b=>⟨xs,b.seq c,ah _⟩) k j e
theorem OJ {α β:Type} {F:α->β->Prop} (g:Nat->α):∀ {n:Nat} {l:List α} {ys:List β},Paired F l ys->l=(List.range n).map g->Paired (λi y=>F (g i) y) (List.range n) ys:=by
 intro n
 have d:∀ (c:List Nat) (ys:List β),Paired F (c.map g) ys->Paired (λi y=>F (g i) y) c ys:=by
  intro c
  induction c with
  | nil=>intro ys h;cases h;exact .nil
  | cons j c f =>
   intro ys h
   cases h with
   | cons a b=>exact .cons a (f _ b)
 intro l ys h e
 subst e
 exact d _ _ h
theorem U7 (f:Nat->List V) (p:n<sizeLine)
  (r:∀ i:Nat,i<n->∀ H,An H1 H->∀ R:VK,(∀ y H',An H H'->TupAt H' (f i) y->R y H')->te (some (.int (i:Int))::σ) H R)
  (j:∀ D H ys,H1 D=none->An H1 H->H D=some (.lst ys)->Paired (λi y=>TupAt H (f i) y) (List.range n) ys->Q (.ref D) H):Gz (Yi 0 n) σ H1 Q UW te:=by
 let g:V->Nat:=λv=>match v with | .int i=>i.toNat | _=>0
 have c:∀ i:Nat,i<n->((List.range n).map λ(i:Nat)=>V.int (i:Int))[i]? = some (.int i):=λi a=>by simp[a]
 refine Mq (xs:=(List.range n).map λ(i:Nat)=>V.int (i:Int)) (λ_=>true) (λv=>f (g v)) (by simpa using p) (λi H x _ b=>?_) (λi H y H' _ a l=>?_) (λH _=>?_) (λx b H e R k=>k H (An.refl H)) (λx b _ H e R k=>?_) (λD H ys q o t h=>?_)
 ·have:i<((List.range n).map λ(i:Nat)=>V.int (i:Int)).length:=(ag.mp b).1
  show i<n
  simpa using this
 ·obtain⟨s,m⟩:=l
  have d:i<n:=by simpa using a
  refine⟨s,?_⟩
  rw[c i d,m,gI]
 ·show n<=_
  simp
 ·obtain⟨i,a,rfl⟩:=ay.mp b
  exact r i (gc.mp a) H e R k
 ·rw[ba.mpr (λ_ _=>rfl)] at h
  exact j D H ys q o t (OJ (F:=λx y=>TupAt H (f (g x)) y) (λi=>V.int (i:Int)) h rfl)
theorem Xk {K:W.Frag} {ys:List V} (f:V->V->V) (h:HW K H1 a xs) (r:HW K H1 b ys) (A:xs.length=ys.length) (M:xs.length<sizeLine)
  (E:∀ (i:Nat) x y,xs[i]? = some x->ys[i]? = some y->∀ H,An H1 H->∀ R:VK,(∀ H',An H H'->R (f x y) H')->te (some x::some y::σ) H R)
  (u:∀ D H,H1 D=none->An H1 H->H D=some (.lst (List.zipWith f xs ys))->Q (.ref D) H):Im (vB K a b) σ H1 Q (Nz K 2 (FT (Dh 0) (FT (Dh 1) QL))) UW te:=by
 intro D l
 have B:An H1 (upd H1 D (.lst [])):=λb o e=>by rw[Aw (Aj e l)];exact e
 refine⟨λi m n H=>m=xs.length - i/\i<=xs.length/\n=(List.zipWith f xs ys).take i/\H D=some (.lst n)/\An H1 H,⟨xs.length,by simp,Nat.zero_le _,by simp,Al,B⟩,?_⟩
 rintro i m n H ⟨rfl,I,rfl,k,c⟩
 have g:(List.zipWith f xs ys).length=xs.length:=by rw[iA];omega
 by_cases d:i<xs.length
 ·have w:xs[i]? = some xs[i]:=ae d
  have z:ys[i]? = some ys[i]:=ae (A ▸ d)
  refine .inr ⟨⟨xs,ys,_,_,c.tup h,c.tup r,w,z⟩,λv J j G L=>?_⟩
  obtain⟨T,C,rfl,j⟩:=j
  obtain⟨x,y,q,t,rfl⟩:=j xs ys (c.tup h) (c.tup r)
  have p:An H (upd H T (.tup [x,y])):=λb o e=>by rw[Aw (Aj e C)];exact e
  refine⟨T,[x,y],rfl,kL Al,rfl,x,[y],rfl,y,[],rfl,rfl,⟨_,_,rfl⟩,?_⟩
  unfold UW
  dsimp only
  rw[if_pos rfl]
  refine E i x y q t _ (c.trans p) _ λF s=>?_
  refine⟨s _ _ (p _ _ k),?_,xs.length - (i+1),by omega,rfl,d,?_,Al,λb o e=>?_⟩
  ·rw[cm,g]
   omega
  ·rw[cy,gp,q,t]
   rfl
  ·rw[Aw (Aj e l)]
   exact s _ _ (p _ _ (c _ _ e))
 ·have e:i=xs.length:=by omega
  subst e
  rw[<-g,eJ] at k
  exact .inl ⟨⟨xs,c.tup h,ah _⟩,u D H l c k⟩
theorem Ut {K:W.Frag} (p:Nat->V->Bool) (f:Nat->V->V) (n:Dc K H1 a xs) (F:xs.length<sizeLine)
  (A:∀ (i:Nat) x,xs[i]? = some x->∀ H,An H1 H->∀ R:Bool->Hp->Prop,(∀ H',An H H'->R (p i x) H')->tt (some (.int (i:Int))::some x::σ) H R)
  (G:∀ (i:Nat) x,xs[i]? = some x->p i x=true->∀ H,An H1 H->∀ R:VK,(∀ H',An H H'->R (f i x) H')->te (some (.int (i:Int))::some x::σ) H R)
  (z:∀ D H,H1 D=none->An H1 H->H D=some (.lst ((xs.zipIdx.filter λq=>p q.2 q.1).map λq=>f q.2 q.1))->Q (.ref D) H):Im (jY K a) σ H1 Q (Nz K 2 (FT (Dh 0) (FT (Dh 1) QL))) tt te:=by
 intro D t
 have C:An H1 (upd H1 D (.lst [])):=λb o e=>by rw[Aw (Aj e t)];exact e
 refine⟨λi m u H=>m=xs.length - i/\i<=xs.length/\u=(((xs.zipIdx.take i).filter λq=>p q.2 q.1).map λq=>f q.2 q.1)/\H D=some (.lst u)/\An H1 H,⟨xs.length,by simp,Nat.zero_le _,by simp,Al,C⟩,?_⟩
 rintro i m u H ⟨rfl,L,rfl,l,c⟩
 by_cases d:i<xs.length
 ·have B:xs[i]? = some xs[i]:=ae d
  refine .inr ⟨⟨xs,_,c.seq n,B⟩,λv M s J N=>?_⟩
  obtain⟨T,E,rfl,s⟩:=s
  obtain⟨x,r,rfl⟩:=s xs (c.seq n)
  have g:An H (upd H T (.tup [.int (i:Int),x])):=λb o e=>by rw[Aw (Aj e E)];exact e
  have w:xs.zipIdx[i]? = some (x,i):=by rw[List.getElem?_zipIdx,r];simp
  have j:(((xs.zipIdx.take i).filter λq=>p q.2 q.1).map λq=>f q.2 q.1).length<sizeLine:=by
   rw[af]
   refine ar (bt _ _) (ar ?_ F)
   rw[cm,List.length_zipIdx];omega
  refine⟨T,[.int (i:Int),x],rfl,kL Al,rfl,_,[x],rfl,x,[],rfl,rfl,⟨_,_,rfl⟩,?_⟩
  refine A i x r _ (c.trans g) _ λO h=>?_
  by_cases k:p i x=true
  ·rw[if_pos k]
   refine G i x r k _ (c.trans (g.trans h)) _ λI y=>?_
   refine⟨y _ _ (h _ _ (g _ _ l)),j,xs.length - (i+1),by omega,rfl,d,?_,Al,λb o e=>?_⟩
   ·rw[take_succ_filter (λq:V × Nat=>p q.2 q.1) xs.zipIdx i (x,i) w,if_pos k,cq]
    rfl
   ·rw[Aw (Aj e t)]
    exact y _ _ (h _ _ (g _ _ (c _ _ e)))
  ·rw[if_neg k]
   refine⟨xs.length - (i+1),by omega,rfl,d,?_,h _ _ (g _ _ l),c.trans (g.trans h)⟩
   rw[take_succ_filter (λq:V × Nat=>p q.2 q.1) xs.zipIdx i (x,i) w,if_neg k,eD]
 ·have e:i=xs.length:=by omega
  subst e
  rw[List.take_of_length_le (by simp)] at l
  exact .inl ⟨⟨xs,c.seq n,ah _⟩,z D H t c l⟩
end
theorem Ky {K:W.Frag} {D:Ends} (b:Nat->St->Hp->Prop) (n:b 0 σ H) (k:∀ i σ H,i<=xs.length->b i σ H->Dc K H a xs)
  (o:∀ (i:Nat) x σ H T,xs[i]? = some x->b i σ H->H T=none->g (.ref T) σ (upd H T (.tup [.int (i:Int),x])) λσ' H'=>tb { D with nx:=b (i+1),ct:=b (i+1),bk:=D.nx } σ' H')
  (q:∀ σ H,b xs.length σ H->D.nx σ H):∃ W:Nat->Nat->St->Hp->Prop,(∃ m,W 0 m σ H)/\∀ i m σ H,W i m σ H ->
   ((jY K a).stop i H/\D.nx σ H) \/ ((jY K a).go i H/\∃ N:St->Hp->Prop,(∀ σ H,N σ H->∃ m',m'<m/\W (i+1) m' σ H)/\∀ x H',(jY K a).yld i H x H'->g x σ H' λσ' sg=>tb { D with nx:=N,ct:=N,bk:=D.nx } σ' sg):=by
 refine⟨λi m σ H=>m=xs.length - i/\i<=xs.length/\b i σ H,⟨_,rfl,dL _,n⟩,?_⟩
 rintro i m σ H ⟨rfl,j,c⟩
 by_cases d:i<xs.length
 ·refine .inr ⟨⟨xs,_,k i σ H j c,ae d⟩,b (i+1),λσ' H' h=>⟨xs.length - (i+1),by omega,rfl,d,h⟩,λv H' f=>?_⟩
  obtain⟨T,p,rfl,f⟩:=f
  obtain⟨x,l,rfl⟩:=f xs (k i σ H j c)
  exact o i x σ H T l c p
 ·have e:i=xs.length:=by omega
  subst e
  exact .inl ⟨⟨xs,k _ σ H j c,ah _⟩,q σ H c⟩
structure qY (K:W.Frag) (C:Addr):Prop where
 ga:W.findIn K (.ref C) "__getattribute__" = some (some (.builtin "BaseException.__getattribute__"))
 gt:W.findIn K (.ref C) "__getattr__" = some none
 mb:W.mroIn K C (.type "BaseException")=some true
 hd:W.hasDictIn K C=true
 ca:W.findIn K (.ref C) "__class__" = some (some (.builtin "object.__class__"))
 cg:W.specialIn K (.builtin "object.__class__") "__get__" = some (some (.builtin "getset_descriptor.__get__"))
 ct:W.takesIn K (.builtin "object.__class__")=some true
 mo:W.mroIn K C (.type "object")=some true
section
variable {w:World} {K:W.Frag} {x:Addr} {ox:Obj} {od:Option Obj} {name:Str} {tk:Tok} {R:Result->Shared->Prop}
end
abbrev Qz:List Value:=[.type "ValueError",.type "Exception",.type "BaseException",.type "object"]
section
variable {w:World} {K:W.Frag} {g:Array GenState} {d:Drawn} {t:Nat} {os:OsState}
end
def nG (x C:Addr) (od:Option Addr):HO:=.ext λh=>∃ (d:Data) (sl:Array (Option Value)),h.get? x=some ⟨.ref C,od,d,sl⟩/\W.notCls ⟨.ref C,od,d,sl⟩=true
def XdO (dx:Addr) (fs:List (Str × V)):HO:=.ext λh=>∃ mA,h.Ns1 dx mA/\∀ f,Gx (fs.lookup f) (mA f)
section
variable {w:World} {x:Addr} {od:Option Addr} {fs:List (Str × V)}
inductive aJ (H:Hp) (x C:Addr):List (Str × V)->Prop where
 | bare (e:H x=some (nG x C none)):aJ H x C []
 | full {dx:Addr} {fs:List (Str × V)} (e:H x=some (nG x C (some dx))) (d:H dx=some (XdO dx fs)):aJ H x C fs
end
section
variable {w:World}
theorem GD.none_of (x:GD P w H h) (e:h.get? a=none):H a=none:=by
 cases q:H a with
 | none=>rfl
 | some u =>
  exfalso
  obtain⟨o,c⟩:∃ o,h.get? a=some o:=by
   have z:=x a u q
   cases u with
   | lst d=>obtain⟨_,_,_,_,e⟩:=z;exact⟨_,e⟩
   | tup d=>obtain⟨_,_,_,o,e,_⟩:=z;exact⟨_,e⟩
   | dK b=>obtain⟨_,_,_,_,o,_,_,e,_⟩:=z;exact⟨_,e⟩
   | dT b=>obtain⟨_,_,_,_,o,_,_,e,_⟩:=z;exact⟨_,e⟩
   | set S n=>obtain⟨o,_,_,_,e,_⟩:=z;exact⟨_,e⟩
   | ins C g fs=>obtain⟨_,_,_,e,_⟩:=z;exact⟨_,e⟩
   | own y=>obtain⟨_,e⟩:=z;exact⟨_,e⟩
   | xd fs=>obtain⟨_,⟨_,_,_,e,_⟩,_⟩:=z;exact⟨_,e⟩
   | rng lo j=>obtain⟨_,_,_,e⟩:=z;exact⟨_,e⟩
   | frz i u=>obtain⟨e,_⟩:=z;exact⟨_,e⟩
   | tbl k=>exact⟨_,(show h.get? a=some _ from z)⟩
   | met f y=>exact⟨_,(show h.get? a=some _ from z)⟩
   | ext φ=>obtain⟨_,⟨_,e⟩,_⟩:=z;exact⟨_,e⟩
  rw[e] at c;cases c
end
theorem Tc {K:W.Frag} (X:K.In h) (q:W.excIn K C Qz "ValueError.__new__" = true) :
  ∃ bm N nm qn bs hdct sn sub ab col dd k0 k1 k2 k3 k5 mN,h.get? C=some (excClassObj nm qn C N bs bm hdct sn sub ab col dd k0 k1 k2 k3 k5 "ValueError.__new__")/\h.Ns N mN/\mN "__init__" = none/\OwnTail h Qz bm:=by
 unfold W.excIn at q
 split at q
 ·rename_i dd i g p
  split at q
  ·rename_i s bm k0 k1 k2 k3 n k5 d c
   simp only[Bool.and_eq_true,beq_iff_eq,Bool.not_eq_true'] at q
   obtain⟨⟨⟨⟨⟨rfl,rfl⟩,e⟩,m⟩,a⟩,f⟩:=q
   obtain⟨nm,bs,r,j,qn,k,sn,sub,ab,col,o⟩:=i
   dsimp only at d e a f
   subst d e
   have b:g = #[k0,k1,k2,k3,some (.builtin "ValueError.__new__"),k5]:=by
    obtain⟨l⟩:=g
    simp only at c
    rw[c]
   subst b
   exact⟨bm,j,nm,qn,bs,k,sn,sub,ab,col,dd,k0,k1,k2,k3,k5,_,X _ _ p,.of_isNs (W.isNs_of_in X a),W.nsMap_none_of_in X a f,W.tail_of_in X m⟩
  ·cases q
 ·cases q
section
variable {t:TA} {p:Pos}
end
section
variable {f:Str}
end
section
variable {w:World} {K:W.Frag} {x:Addr} {name:Str} {v:Value} {R:Result->Shared->Prop} {d:Data} {sl:Array (Option Value)}
end
section
variable {x:Addr} {f:Str}
end
section
variable {o value:Expr} {f:Str} {lc:Pos} {tv:TE}
end
section
variable {sp:Sp} {k:Nat} {t:TA} {p:Pos}
end
def Xx:List V->List V->Bool
 | [],[]=>true
 | x::xs,y::ys=>Ql x y && Xx xs ys
 | _,_=>false
theorem My:∀ (xs ys:List V),xs.length=ys.length->((List.range xs.length).all λj=>Ql (xs.getD j .non) (ys.getD j .non))=Xx xs ys
 | [],[],_=>rfl
 | x::xs,y::ys,h=>by
  have a:=My xs ys (by simpa using h)
  rw[bo,List.range_succ_eq_map,List.all_cons,List.all_map]
  show (Ql x y && _)=(Ql x y && Xx xs ys)
  rw[<-a]
  rfl
 | [],_::_,h=>by simp at h
 | _::_,[],h=>by simp at h
theorem Rv:∀ (xs ys:List V),xs.length ≠ ys.length->Xx xs ys=false
 | [],[],h=>absurd rfl h
 | x::xs,y::ys,h=>by
  show (Ql x y && Xx xs ys)=false
  rw[Rv xs ys (λe=>h (by simp[e])),Bool.and_false]
 | [],_::_,_=>rfl
 | _::_,[],_=>rfl
theorem SQ (h:xs.all GK=true) (a:j<xs.length):GK (xs.getD j .non)=true:=by
 have e:xs.getD j .non=xs[j]:=by simp[a]
 rw[e]
 exact fo.mp h _ (et a)
theorem XM {us:List Value} (r:Vals xs us) (a:j<us.length):RelV (xs.getD j .non) us[j]:=by
 have c:=r.length
 have d:xs[j]? = some xs[j]:=by simp[c,a]
 obtain⟨u,b,f⟩:=r.get d
 rw[ae a] at b
 cases b
 have e:xs.getD j .non=xs[j]:=by simp[c,a]
 rw[e]
 exact f
inductive nO (K:W.Frag) (neg:Bool) (x:V) (y:V) (H:Hp) (Q:VK):Prop
 | mk (p q xs ys:_):x=.ref p->y=.ref q->Dc K H p xs->Dc K H q ys->xs.all GK=true->ys.all GK=true->Q (.bl (if neg then !Xx xs ys else Xx xs ys)) H->nO K neg x y H Q
theorem Qy (i:X.A.units<cLine):G4 X (compareOp .NotEq) (nO X.K true):=by
 intro J s σ H x y v u Q I z w h
 obtain⟨p,q,b,a,rfl,rfl,G,D,B,o,k⟩:=h
 cases z
 cases w
 obtain⟨c,r,l,K⟩:=I.list G
 obtain⟨F,m,g,E⟩:=I.list D
 have C:=r.length
 have L:=m.length
 by_cases n:b.length=a.length
 ·refine SeqAt.RcNeAt.lists (e:=λj=>Ql (b.getD j .non) (a.getD j .non)) l.isList g.isList (by simp;omega) i (λj t A=>?_) _ _ _ _ ⟨.bl (!Xx b a),H,I,?_,k⟩
  ·have f:j<c.length:=by simpa using t
   have d:j<F.length:=by simpa using A
   simp only[List.getElem_toArray]
   exact Xj (XM r f) (XM m d) (SQ B (by omega)) (SQ o (by omega))
  ·rw[bE,<-C,My b a n]
   exact rfl
 ·refine SeqAt.RcNeAt.lists_lengths l.isList g.isList (by simp;omega) i _ _ _ _ ⟨.bl (!Xx b a),H,I,?_,k⟩
  rw[Rv b a n]
  exact rfl
end L2
namespace Wd
def mk (l:List Nat):Nat:=l.foldl (λs n=>s ||| 2 ^ n) 0
theorem VF (l:List Nat):∀ (s i:Nat),(l.foldl (λs n=>s ||| 2 ^ n) s).testBit i=(s.testBit i || decide (i∈l)):=by
 induction l with
 | nil=>intro s i;simp
 | cons n l a =>
  intro s i
  rw[List.foldl_cons,a,Nat.testBit_or,Nat.testBit_two_pow]
  by_cases h:n=i
  ·subst h;simp
  ·have b:¬ i=n:=λe=>h e.symm
   simp[h,b]
theorem Hr (l:List Nat) (i:Nat):(mk l).testBit i=decide (i∈l):=by
 unfold mk;rw[VF];simp
def len (n:Nat):Nat:=if n=0 then 0 else n.log2+1
theorem WT (h:n.testBit i=true):i<len n:=by
 unfold len
 have a:n ≠ 0:=by intro e;subst e;simp at h
 rw[if_neg a]
 have b:2 ^ i<=n:=Nat.ge_two_pow_of_testBit h
 have c:i<=n.log2:=(Nat.le_log2 a).mpr b
 omega
def mem (n:Nat):List Nat:=(List.range (len n)).filter n.testBit
theorem mem_iff:i∈mem n ↔ n.testBit i=true:=by
 unfold mem
 rw[bg,gc]
 exact⟨λh=>h.2,λh=>⟨WT h,h⟩⟩
theorem Kv (n:Nat):(mem n).Pairwise (· < ·):=List.Pairwise.filter _ List.pairwise_lt_range
theorem LK {k:Nat} (h:n<2 ^ k):len n<=k:=by
 unfold len
 split
 ·omega
 ·rename_i a
  have:n.log2<k:=(Nat.log2_lt a).mpr h
  omega
theorem Lg:∀ {a b:List Nat},a.Pairwise (· < ·)->b.Pairwise (· < ·)->(∀ i,i∈a ↔ i∈b)->a=b
 | [],[],_,_,_=>rfl
 | [],y::b,_,_,h=>absurd ((h y).mpr List.mem_cons_self) (by simp)
 | x::a,[],_,_,h=>absurd ((h x).mp List.mem_cons_self) (by simp)
 | x::a,y::b,d,f,h=>by
  rw[List.pairwise_cons] at d f
  have j:x=y:=by
   have l:=(h x).mp ce
   have k:=(h y).mpr ce
   rcases ci.mp l with e | e
   ·exact e
   ·rcases ci.mp k with g | g
    ·exact g.symm
    ·have:=f.1 x e
     have:=d.1 y g
     omega
  subst j
  congr 1
  refine Lg d.2 f.2 λi=>⟨λc=>?_,λc=>?_⟩
  ·rcases ci.mp ((h i).mp (bq _ c)) with e | e
   ·have:=d.1 i c
    omega
   ·exact e
  ·rcases ci.mp ((h i).mpr (bq _ c)) with e | e
   ·have:=f.1 i c
    omega
   ·exact e
theorem e_ {l:List Nat} (h:l.Pairwise (· < ·)):mem (mk l)=l :=
 Lg (Kv _) h λi=>by rw[mem_iff,Hr];simp
def mv (n:Nat) (k:Int) (c:Nat):Nat:=(if 0<k then n * 2 ^ k.toNat else n / 2 ^ (-k).toNat) % 2 ^ c
theorem Lf (n:Nat) (k:Int) (c i:Nat):(mv n k c).testBit i=(decide (i<c) && (decide (0<=(i:Int) - k) && n.testBit ((i:Int) - k).toNat)):=by
 unfold mv
 rw[Nat.testBit_mod_two_pow]
 congr 1
 split
 ·rename_i h
  rw[Nat.testBit_mul_two_pow]
  by_cases b:k.toNat<=i
  ·have e:((i:Int) - k).toNat=i - k.toNat:=by omega
   have a:(0:Int)<=i - k:=by omega
   rw[decide_eq_true a,e];simp[b]
  ·have a:¬ (0:Int)<=i - k:=by omega
   rw[decide_eq_false a];simp[b]
 ·rename_i h
  rw[Nat.testBit_div_two_pow]
  have e:((i:Int) - k).toNat=i+(-k).toNat:=by omega
  have a:(0:Int)<=i - k:=by omega
  rw[decide_eq_true a,e];simp
def stay (l:List Nat) (k:Int) (c:Nat):List Nat:=l.filter λn=>decide (0<=(n:Int)+k) && decide ((n:Int)+k<c)
theorem Rm {l:List Nat} (a:∀ n∈l,n<1200):mk l<2 ^ 1200:=by
 refine ip _ λi b=>?_
 rw[Hr]
 exact decide_eq_false λh=>absurd (a i h) (by omega)
theorem Ys (l:List Nat) (n:Nat):mk (l++[n])=mk l ||| 2 ^ n:=by
 unfold mk;rw[List.foldl_append];rfl
end Wd
namespace L2
open PySem PySem.Spec PySem.Calls PyProof.Rows
theorem TF:∀ {xs:List V} {us:List Value},xs.length=us.length->(∀ (j:Nat) x u,xs[j]? = some x->us[j]? = some u->RelV x u)->Vals xs us
 | [],[],_,_=>.nil
 | [],_::_,h,_=>by simp at h
 | _::_,[],h,_=>by simp at h
 | x::xs,u::us,h,f=>.cons (f 0 x u rfl rfl) (TF (by simpa using h) λj y v a b=>f (j+1) y v (by simpa using a) (by simpa using b))
section
variable {k1:Nat} {lj:Pos}
theorem Lb (R:X.calm=true):Fd X (.type "list") (λxs H Q=>∃ (a:Addr) (kvs:List (Key × V)) (js:List Int),xs=[V.ref a]/\H a=some (.dK kvs)/\kvs.map (·.1)=js.map Sum.inl/\∀ l,H l=none->Q (.ref l) (upd H l (.lst (js.map V.int)))):=by
 intro a8 s σ H xs us Q I r h
 obtain⟨a,kvs,js,rfl,ha,K,q⟩:=h
 obtain⟨u,rfl,M⟩:=vals1 r
 cases M
 obtain⟨hz,lo,g,d,o,es,C,w,n,E,e4,O,S⟩:=I.hok a _ ha
 have hl:kvs.length=g.length:=Paired.length d
 have B:s.heap.DictAt (Bw X.prog X.w) a g C:=⟨o,es,w,n,E,e4,O,S⟩
 refine W.kdl_call (W.kdl_dict (knd:=Bw X.prog X.w) (kvs:=g) (ep:=C) lo) (I.ok.hd R) B (by omega) ?_
 intro h' tk v Y hk U L
 have ab:js.length=g.length:=by
  have:=congrArg List.length K
  rw[af,af] at this
  omega
 have N:Vals (js.map V.int) v.toList:=by
  refine TF (by have h1:v.toList.length=v.size:=Array.length_toList;have h2:=L.1;rw[af];omega) λj x u G J=>?_
  rw[Array.getElem?_toList] at J
  obtain⟨k,y,D,A⟩:=L.2 j u J
  rw[am] at G
  obtain⟨i,T,rfl⟩:=aT.mp G
  have w:(kvs.map (·.1))[j]? = some (Sum.inl i):=by rw[K,am,T];rfl
  rw[am] at w
  obtain⟨kv,P,F⟩:=aT.mp w
  have f:∀ {l:List (Key × V)} {m:List (Key × Value)},KV l m->∀ {j:Nat} {p q},l[j]? = some p->m[j]? = some q->p.1=q.1:=by
   intro l m h
   unfold KV at h
   induction h with
   | nil=>intro j p q c;simp at c
   | cons a b Z =>
    intro j p q c z
    cases j with
    | zero =>
     simp at c z
     subst c z
     exact a.1
    | succ j=>exact Z (by simpa using c) (by simpa using z)
  have n:=f d P D
  rw[F] at n
  have E:k=Sum.inl i:=n.symm
  subst E
  rcases Cr (show Kc (Sum.inl i) u=true from A) with⟨i',t,e,rfl⟩ | ⟨x,t,e,_⟩
  ·cases e
   exact⟨t,rfl⟩
  ·cases e
 refine⟨.ref s.heap.objs.size,_,I.laid (t':=tk) (o:=.lst (js.map V.int)) hk (Nat.le_refl _) ⟨by rw[List.length_map];omega,v.toList,Y,N,by simpa using U⟩,rfl,q _ (I.hok.fresh (Nat.le_refl _))⟩
theorem Pz:sZ X "int.bit_length" (λx xs H Q=>∃ i,x=V.int i/\xs=[]/\Q (.int (Builtin.Int.intBits i)) H):=by
 intro b s σ H x xs v c Q I a r h
 obtain⟨i,rfl,rfl,q⟩:=h
 obtain⟨t,rfl⟩:=a
 cases r
 exact PyProof.Rows.call_int_bit_length ⟨.int _,H,I.tok _,⟨_,rfl⟩,q⟩
end
theorem Ih (a b:Nat):Builtin.bitOr (a:Int) (b:Int)=((a ||| b:Nat):Int):=by
 have e:¬ 0<=Builtin.bitNot (a:Int):=by unfold Builtin.bitNot;omega
 have d:¬ 0<=Builtin.bitNot (b:Int):=by unfold Builtin.bitNot;omega
 have c:∀ x:Int,Builtin.bitNot (Builtin.bitNot x)=x:=λx=>by unfold Builtin.bitNot;omega
 unfold Builtin.bitOr
 rw[bitAnd_nn e d,c,c,c]
 simp
theorem K7 (a b:Nat):Builtin.bitAnd (a:Int) (b:Int)=((a &&& b:Nat):Int):=by
 rw[bitAnd_pp (fE a) (fE b)]
 simp
theorem J7 (n:Nat):Builtin.Int.intBits (n:Int)=Wd.len n:=by
 unfold Builtin.Int.intBits Wd.len
 by_cases h:n=0
 ·subst h;rfl
 ·have a:((n:Int) == 0)=false:=by simpa using h
  rw[a,if_neg h]
  simp
theorem Hi (k:Nat):(2:Int) ^ k=((2 ^ k:Nat):Int):=by simp
end L2
namespace Wd
open PySem
abbrev Yy (xs:Array Nat):Prop:=xs.toList.Pairwise (· < ·)
theorem RZ {xs:Array Nat} (r:Yy xs) {k:Nat} (h:i<k) (a:k<xs.size):xs.getD i 0<xs.getD k 0:=by
 have b:i<xs.size:=ja h a
 have:=(List.pairwise_iff_getElem.mp r) i k (by simpa using b) (by simpa using a) h
 simpa [Array.getD,b,a] using this
structure Cut (xs:Array Nat) (j p:Nat):Prop where
 le:p<=xs.size
 lo:∀ i,i<p->xs.getD i 0<j
 hi:∀ i,p<=i->i<xs.size->j<=xs.getD i 0
theorem Lw {xs:Array Nat} (r:Yy xs) (j:Nat):∀ (fuel lo hi:Nat),hi<=xs.size->hi - lo<=fuel->lo<=hi->(∀ i,i<lo->xs.getD i 0<j)->(∀ i,hi<=i->i<xs.size->j<=xs.getD i 0)->Cut xs j (SetTable.below.go xs j fuel lo hi)
 | 0,lo,hi,c,h,m,a,b=>by
  have e:lo=hi:=by omega
  subst e
  exact⟨c,a,b⟩
 | fuel+1,lo,hi,c,h,m,a,b=>by
  unfold SetTable.below.go
  split
  ·rename_i n
   have g:(lo+hi) / 2<xs.size:=by omega
   have e:xs.getD ((lo+hi) / 2) j=xs.getD ((lo+hi) / 2) 0:=by simp[Array.getD,g]
   dsimp only
   rw[e]
   by_cases d:xs.getD ((lo+hi) / 2) 0<j
   ·rw[if_pos d]
    refine Lw r j fuel ((lo+hi) / 2+1) hi c (by omega) (by omega) (λi f=>?_) b
    by_cases q:i=(lo+hi) / 2
    ·rw[q];exact d
    ·have:=RZ r (i:=i) (k:=(lo+hi) / 2) (by omega) g
     omega
   ·rw[if_neg d]
    refine Lw r j fuel lo ((lo+hi) / 2) (by omega) (by omega) (by omega) a λi f l=>?_
    by_cases q:i=(lo+hi) / 2
    ·rw[q];omega
    ·have:=RZ r (i:=(lo+hi) / 2) (k:=i) (by omega) l
     omega
  ·have e:lo=hi:=by omega
   subst e
   exact⟨c,a,b⟩
theorem M5 {xs:Array Nat} (r:Yy xs) (j:Nat):Cut xs j (SetTable.below xs j) :=
 Lw r j xs.size 0 xs.size (ah _) (by omega) (dL _) (λi h=>absurd h (iE _)) (λi b a=>absurd a (by omega))
theorem QX {xs:Array Nat} (r:Yy xs) (h:xs[SetTable.below xs j]? ≠ some j):j ∉ xs.toList:=λl=>by
 have c:=M5 r j
 obtain⟨i,k,e⟩:=fI.mp l
 have a:i<xs.size:=by simpa using k
 have b:xs.getD i 0=j:=by simpa [Array.getD,a] using e
 have f:SetTable.below xs j<=i:=by
  rcases Nat.lt_or_ge i (SetTable.below xs j) with q | q
  ·have:=c.lo i q;omega
  ·exact q
 have d:SetTable.below xs j<xs.size:=ar f a
 have n:=c.hi _ (ah _) d
 have m:SetTable.below xs j=i:=by
  rcases Nat.lt_or_ge (SetTable.below xs j) i with q | q
  ·have:=RZ r q a;omega
  ·omega
 refine h ?_
 have g:xs[i]=j:=by simpa [Array.getD,a] using b
 rw[m,Array.getElem?_eq_getElem a,g]
theorem Qp {xs:Array Nat} (r:Yy xs) (h:xs[SetTable.below xs j]? ≠ some j):Yy (SetTable.insertAt xs (SetTable.below xs j) j):=by
 have c:=M5 r j
 have p:=QX r h
 show (SetTable.insertAt xs (SetTable.below xs j) j).toList.Pairwise _
 rw[SetTable.toList_insertAt,List.pairwise_append,List.pairwise_cons]
 have l:∀ a∈xs.toList.take (SetTable.below xs j),a<j:=λa f=>by
  obtain⟨i,k,e⟩:=fI.mp f
  rw[cm] at k
  have d:i<xs.size:=by simp at k;omega
  have:=c.lo i (by omega)
  simp[Array.getD,d] at this
  rw[List.getElem_take] at e
  rw[<-e]
  simpa using this
 have g:∀ a∈xs.toList.drop (SetTable.below xs j),j<a:=λa f=>by
  obtain⟨i,k,e⟩:=fI.mp f
  rw[kC] at k
  have d:SetTable.below xs j+i<xs.size:=by simp at k;omega
  have:=c.hi (SetTable.below xs j+i) (kD _ _) d
  simp[Array.getD,d] at this
  rw[List.getElem_drop] at e
  have o:j<=a:=by rw[<-e];simpa using this
  have n:j ≠ a:=λz=>p (by rw[z];exact List.mem_of_mem_drop f)
  omega
 exact⟨r.sublist (kx _ _),⟨g,r.sublist (List.drop_sublist _ _)⟩,λa f b m=>by
  rcases ci.mp m with e | m
  ·rw[e];exact l a f
  ·have:=l a f;have:=g b m;omega⟩
theorem VG {t:SetTable} (h:∀ i,t.slot j ≠ .live i):t.place[SetTable.below t.place j]? ≠ some j:=λe=>by
 refine h (SetTable.below t.place j) ?_
 unfold SetTable.slot
 dsimp only
 rw[e]
 simp
theorem Ir (t:SetTable) (p:SetTable.Probe):(t.advance p).dummy=p.dummy:=by
 unfold SetTable.advance
 split <;> rfl
theorem JB {t:SetTable} {f:Nat->Int} {h:Int}:∀ (fuel:Nat) (p:SetTable.Probe) (j:Nat) (dm:Option Nat),(∀ d,p.dummy=some d->t.slot d=.dummy)->SetTable.probe.go t f h fuel p=some (.empty j dm) ->
  t.slot j=.empty/\∀ d,dm=some d->t.slot d=.dummy
 | 0,p,j,dm,a,e=>by unfold SetTable.probe.go at e;cases e
 | fuel+1,p,j,dm,a,e=>by
  unfold SetTable.probe.go at e
  split at e
  ·rename_i b
   cases e
   exact⟨b,a⟩
  ·rename_i b
   refine JB fuel _ j dm (λd q=>?_) e
   rw[Ir] at q
   cases q
   exact b
  ·split at e
   ·cases e
   ·refine JB fuel _ j dm (λd q=>?_) e
    rw[Ir] at q
    exact a d q
theorem Tz {t:SetTable} {h:Int} {d:Bool} (e:t.freeSlot h=some (j,d)):∀ i,t.slot j ≠ .live i:=by
 unfold SetTable.freeSlot at e
 split at e
 ·rename_i a f q
  unfold SetTable.probe at q
  obtain⟨k,g⟩:=JB _ _ _ _ (λd c=>by simp[SetTable.probeStart] at c) q
  cases f with
  | none=>cases e;intro i z;rw[show (none:Option Nat).getD a=a from rfl,k] at z;cases z
  | some b =>
   cases e
   intro i z
   rw[show (some b).getD a=b from rfl,g b rfl] at z
   cases z
 ·cases e
structure Good (t:SetTable) (led:Bool):Prop where
 led:t.led=led
 ris:t.plain=true->Yy t.place
theorem RB (a:Bool):Good (.fresh 0 0 a) a:=⟨rfl,λ_=>by simp[SetTable.fresh,Yy]⟩
theorem G5 {t:SetTable} (g:Good t led) (n:Nat):Good (t.standIn n) led:=⟨g.led,λh=>by simp[SetTable.standIn] at h⟩
theorem ZP {t:SetTable} (g:Good t led) (n:Nat):Good (t.orStandIn n) led:=by
 unfold SetTable.orStandIn
 split
 ·exact g
 ·exact G5 g n
theorem Xr {t:SetTable} (g:Good t led) (b:Array (Int × Value)) (h:Int) (x:Value):Good (layNew t b h x).2.1 led:=by
 unfold layNew
 split
 ·rename_i a wd e
  refine ZP (t:=(t.put a).1) ⟨g.led,λc=>?_⟩ _
  exact Qp (g.ris c) (VG (Tz e))
 ·exact G5 g _
theorem VJ {g d h:Nat} {plain:Bool} {j:Array Int} {t:SetTable} {o:Array Nat} (e:SetTable.laid g d h led plain j=some (t,o)):Good t led/\t.plain=plain:=by
 unfold SetTable.laid at e
 simp only[Option.bind_eq_bind,Option.bind_eq_some_iff] at e
 obtain⟨k,_,e⟩:=e
 cases e
 refine⟨⟨rfl,λ_=>?_⟩,rfl⟩
 show List.Pairwise _ ((List.map _ _).toArray).toList
 rw[List.pairwise_map,List.pairwise_filterMap]
 refine List.pairwise_lt_range.imp λ{a b} c x f y i=>?_
 obtain⟨u,_,rfl⟩:=aT.mp f
 obtain⟨v,_,rfl⟩:=aT.mp i
 exact c
theorem Qs {t:SetTable} (g:Good t led) (b:Array (Int × Value)) (n:Nat):Good (relayAll t b n).2.1 led:=by
 unfold relayAll
 split
 ·rename_i c a e
  dsimp only
  split
  ·have:=VJ e
   rw[g.led] at this
   exact this.1
  ·exact G5 g _
 ·exact G5 g _
open PySem PySem.Spec PyProof.Rows
def yg (prog:Program) (w:World) (h:Heap) (a:Addr) (led:Bool) (σ:List Int):Prop :=
 ∃ es ep t,h.get? a=some { cls:=.type "set",dict:=none,data:=.set es ep t }/\ElemsOf (intKind prog w) es.toList/\(∀ k,k∈σ ↔ ∃ e∈es.toList,(intKind prog w).is k e.2=true)/\es.size=σ.length/\σ.Nodup /\
  σ.length<scanBound/\t.fits es.size=true/\Good t led
section
variable {w:World} {σ:List Int} {k:Int} {tk:Tok}
theorem Te {c es':Array (Int × Value)} {ep:Nat} {t t':SetTable} (b:h.get? a=some { cls:=.type "set",dict:=none,data:=.set c ep t }) :
  (h.update a (Obj.putSet es' t')).get? a=some { cls:=.type "set",dict:=none,data:=.set es' (ep+1) t' } :=
 (Heap.get?_update_self (Obj.putSet es' t') b (by rw[putSet_of es' t' rfl];rfl)).trans (by rw[putSet_of es' t' rfl])
end
section
variable {w:World} {R:Result->Shared->Prop} {I:Addr} {wr:List Addr} {G:Array GenState->Array GenState->Prop} {P:Nat->Value->Prop} {St:Nat->Shared->Prop}
end
section
variable {w:World}
abbrev Eo (w:World):Bool:=!w.params.followText "set-order"
theorem j6 (a:Value) {Q1:vSP} (h:Q1 (.ref s.heap.objs.size) { s with heap:=s.heap.push { cls:=.type "set",dict:=none,data:=.set #[] 0 (.fresh 0 0 (Eo w)) } }) :
  codeAny (model prog w) A (.call (.builtin "set.__new__") ⟨[.type "set",a],[]⟩) (wants Q1 E) s:=by
 refine codeAny_of_tree ?_
 show wpAny _ A.in1 (do checkBuiltinCall "set.__new__" ⟨[.type "set",a],[]⟩;again (.builtin "set.__new__" ⟨[.type "set",a],[]⟩)) _ _ s
 refine wpAny_bind (wpAny_of_eq (F.newCall_set_1 a) (wpAny_pure ⟨plainId_quiet F.plain_set_new _,codeAny_builtin F.entry_set_new ?_⟩))
 rw[Around.under_plainId F.plain_set_new _]
 unfold Builtin.«set.__new__» Builtin.Frozenset.newClass
 have b:=sub_set_self
 obtain⟨c,g,d,e,os⟩:=s
 dsimp only
 wp_walk
 refine wpAny_askSetting (wpAny_pure ?_)
 dsimp only
 simp only[newObj]
 exact wpAny_bind (wpAny_alloc (wpAny_pure (wpAny_pure h)))
end
section
variable {M:Model}
end
inductive Way (w:World) (a:Addr) (es:Array (Int × Value)) (ep:Nat) (t:SetTable) (h:Heap):(Nat->Value)->List Value->List Addr->Prop where
 | text (hb:w.params.followText "set-order" = true):Way w a es ep t h (λ_=>rawInt 0) ((pickOrder (w.params.setOrder a ep) es).toList.map (·.2)) []
 | drawn {tp:Addr} {ps:List Nat} (hb:w.params.followText "set-order" = false) (hp:ps.Perm (List.range es.size)) (ht:∃ n,h.get? tp=some { cls:=.type "tuple",data:=.seq (ps.map λ(i:Nat)=>rawInt i).toArray n }) :
   Way w a es ep t h (λ_=>.ref tp) (ps.map λi=>(es.getD i (0,.none)).2) [tp]
 | plain (hb:w.params.followText "set-order" = false) (hd:(!t.plain && decide (es.size > 1))=false) (hl:t.led=true) (hr:Yy t.place) (hs:t.place.size=es.size) :
   Way w a es ep t h (λi=>rawInt (if i=0 then 0 else t.place.getD (i - 1) 0+1:Nat)) (es.toList.map (·.2)) []
section
variable {w:World} {es:Array (Int × Value)} {ep:Nat} {t:SetTable} {first:Nat->Value} {vs:List Value} {more:List Addr}
end
end Wd
section PartSetJ
set_option maxHeartbeats 1000000
namespace Wd
open PySem PySem.Spec PyProof.Rows
section
variable {w:World} {σ:List Int}
end
set_option maxHeartbeats 1000000
section
variable {w:World} {σ:List Int}
end
end Wd
end PartSetJ
namespace L2
open PySem PySem.Spec PyProof.Rows
def SetO (P:Program) (w:World) (a:Addr) (τ:List Int):HO:=.ext λh=>Wd.yg P w h a (Wd.Eo w) τ
theorem Y9:G4 X (binaryOp .LShift) (rI (λi j=>0<=j/\(Builtin.Int.intBits i:Int)+j<=2 ^ 27) λi j=>.int (i * 2 ^ j.toNat)):=dG λ_ _ _ _ _ _ _ a q=>lshift_int a.1 a.2 q
section
variable {w:World} {r l:Addr}
end
section
variable {p1 p2 q1 q2:Pos}
end
def kj (K:W.Frag) (a:Addr) (xs:List V):It :=
 ⟨λi H=>Dc K H a xs/\i<xs.length,λi H x H'=>H'=H/\xs[xs.length - 1 - i]? = some x,λi H=>Dc K H a xs/\i=xs.length⟩
theorem V_ {w:World} {K:W.Frag} (a g:Addr) (xs:List V):Turn P w K tg (kj K a xs) [g] g (λi h=>h.IsRevIter g a ((xs.length:Int) - 1 - (i:Nat))) where
 mem:=by simp
 obj:=λi h st b f=>by
  have e:b=g:=by simpa using f
  subst e
  obtain⟨o,e,c,d⟩:=st
  exact⟨o,e,λv z=>by rw[d] at z;cases z⟩
 keep:=λi h l st k=>st.at λo e=>k g (by simp) o e
 item:=by
  intro X n A t J i L s σ H E I j st B
  subst n A t
  obtain⟨F,S⟩:=B
  obtain⟨Q,U,p,hz⟩:=I.list F
  have G:xs[xs.length - 1 - i]? = some (xs[xs.length - 1 - i]'(by omega)):=ae (by omega)
  obtain⟨u,M,N⟩:=U.get G
  obtain⟨q,C,f2,y,r,m⟩:=j g (by simp)
  have e:(xs.length:Int) - 1 - ((i:Nat):Int)=((xs.length - 1 - i:Nat):Int):=by omega
  rw[e] at st
  refine wpAny_pyNext_rev_item st p.isList (x:=u) (by simpa using M) λl D T=>?_
  have Z:Inv X L σ H { s with heap:=l }:=I.turned (t':=s.toks) (λb o f e=>(T.2 b f).trans e) q C y r m
  have Y:((xs.length - 1 - i:Nat):Int) - 1=(xs.length:Int) - 1 - ((i+1:Nat):Int):=by omega
  rw[Y] at D
  obtain⟨o,R,c,d⟩:=id D
  exact⟨u,rfl,Om (s:={ s with heap:=l }) R c d (by decide) ⟨_,H,Z,N,⟨rfl,G⟩,D,λb f=>(j b f).1⟩⟩
 done:=by
  intro X n A t J i L s σ H E I j st B
  subst n A t
  obtain⟨F,rfl⟩:=B
  obtain⟨q,C,f2,y,r,m⟩:=j g (by simp)
  have e:(xs.length:Int) - 1 - ((xs.length:Nat):Int) = -1:=by omega
  rw[e] at st
  exact wpAny_pyNext_rev_end (I.ok.hd J) st λl O=>⟨rfl,I.turned (t':=s.toks) (λb o f e=>O b o f e) q C y r m⟩
 self:=λ_ _ _ _ _ st h=>wpAny_pyIter_revIter st h
inductive aU (K:W.Frag) (R:It->Hp->Prop) (vs:List V) (H1:Hp):Prop
 | mk (a xs:_):vs=[.ref a]->Dc K H1 a xs->R (kj K a xs) H1->aU K R vs H1
def wB (K:W.Frag) (ta:TA):TI:=λσ H R=>ta σ H λvs H1=>aU K R vs H1
theorem cz {l:Expr} {j:TA} {p:Pos} (v:Gl X "reversed") (n:X.mg "reversed" = none) (B:PA X [l] j) (k:starEach [l] X.env=[(false,eval l X.env)]:=by rfl):PI X tg (.Call (.Name "reversed" p) [l] [] pos) (wB X.K j):=by
 intro t s σ H R I h
 refine Call_ (Hv I v n PyProof.Rows.boot_reversed (PyProof.Rows.callWith_type1 (CJ (B pos t s σ H _ I h) λF d ⟨J,x,g,w,m⟩=>?_) k rfl))
 obtain⟨a,i,e,y,q⟩:=m
 subst e
 obtain⟨u,rfl,z⟩:=vals1 w
 cases z
 obtain⟨c,r,A,E⟩:=g.list y
 refine call_reversed_list A.isList ?_
 have f:(d.heap.push (revObj a ((c.toArray.size:Int) - 1))).IsRevIter d.heap.objs.size a ((c.toArray.size:Int) - 1):=⟨_,Heap.get?_push_size _ rfl,rfl,rfl⟩
 refine wpAny_pyIter_revIter (s:={ d with heap:=d.heap.push (revObj a ((c.toArray.size:Int) - 1)) }) f ?_
 refine⟨d.heap.objs.size,[d.heap.objs.size],_,_,x,rfl,g.kept (t':=d.toks) λb o e=>Heap.get?_push_of_some _ e,V_ a _ i,?_,λb D=>?_,q⟩
 ·have G:=r.length
  have C:((c.toArray.size:Nat):Int) - 1=(i.length:Int) - 1 - ((0:Nat):Int):=by
   rw[bE]
   omega
  show (d.heap.push (revObj a ((c.toArray.size:Int) - 1))).IsRevIter d.heap.objs.size a ((i.length:Int) - 1 - ((0:Nat):Int))
  rw[<-C]
  exact f
 ·have e:b=d.heap.objs.size:=by simpa using D
  subst e
  exact g.MK (ah _) (g.hok.fresh (ah _))
theorem aG {K:W.Frag} {D:Ends} (b:Nat->St->Hp->Prop) (f:b 0 σ H) (n:∀ i σ H,i<=xs.length->b i σ H->Dc K H a xs)
  (h:∀ i x σ H,i<xs.length->xs[xs.length - 1 - i]? = some x->b i σ H->g x σ H λσ2 H2=>tb { D with nx:=b (i+1),ct:=b (i+1),bk:=D.nx } σ2 H2) (j:∀ σ H,b xs.length σ H->D.nx σ H) :
  ∃ W:Nat->Nat->St->Hp->Prop,(∃ m,W 0 m σ H)/\∀ i m σ H,W i m σ H ->
   ((kj K a xs).stop i H/\D.nx σ H) \/ ((kj K a xs).go i H/\∃ N:St->Hp->Prop,(∀ σ' H',N σ' H'->∃ m',m'<m/\W (i+1) m' σ' H')/\∀ x H',(kj K a xs).yld i H x H'->g x σ H' λσ2 H2=>tb { D with nx:=N,ct:=N,bk:=D.nx } σ2 H2):=by
 refine⟨λi m σ H=>m=xs.length - i/\i<=xs.length/\b i σ H,⟨xs.length,by simp,Nat.zero_le _,f⟩,?_⟩
 rintro i m σ H ⟨rfl,k,p⟩
 have q:=n i σ H k p
 by_cases c:i<xs.length
 ·refine .inr ⟨⟨q,c⟩,b (i+1),λσ' H' l=>⟨xs.length - (i+1),by omega,rfl,by omega,l⟩,?_⟩
  rintro x H' ⟨rfl,d⟩
  exact h i x σ H' c d p
 ·have e:i=xs.length:=by omega
  subst e
  exact .inl ⟨⟨q,rfl⟩,j σ H p⟩
open PySem PySem.Spec PySem.Calls PyProof.Rows
section
theorem range_any (bs:List Bool):((List.range bs.length).any λi=>(bs[i]?).getD false)=bs.any id:=by
 rw[eI,gi,gi]
 constructor
 ·rintro⟨i,c,e⟩
  have a:=gc.mp c
  rw[ae a] at e
  exact⟨_,et a,e⟩
 ·rintro⟨b,d,e⟩
  obtain⟨i,c,q⟩:=fI.mp d
  refine⟨i,gc.mpr c,?_⟩
  rw[ae c,q]
  exact e
theorem K8 (y:X.calm=true):Fd X (.builtin "any") (λxs H Q=>∃ (p:Addr) (bs:List Bool),xs=[V.ref p]/\Dc X.K H p (bs.map V.bl)/\Q (.bl (bs.any id)) H):=by
 intro L s σ H xs G Q I r h
 obtain⟨p,bs,rfl,z,q⟩:=h
 obtain⟨u,rfl,d⟩:=vals1 r
 cases d
 obtain⟨a,m,g,M⟩:=I.list z
 have c:bs.length=a.length:=by have:=m.length;rw[af] at this;exact this
 have k:p<s.heap.objs.size:=by obtain⟨_,e,_⟩:=g.isList;exact Heap.lt_size e
 refine call_any_walk (wpAny_pyIter_list g.isList ?_)
 refine⟨s.heap.objs.size,[s.heap.objs.size,p],[s.heap.objs.size],a.toArray.size,_,_,λi=>(bs[i]?).getD false,rfl,Walks.list (A:=X.A.in1) (I.ok.hd y) _ p (cf k) a.toArray,
  ⟨⟨_,Heap.get?_push_size _ rfl,rfl,rfl⟩,g.isList.push _⟩,λi v N F J w j=>?_,λK D E=>?_⟩
 ·have t:a[i]? = some v:=by simpa using w
  have B:i<a.length:=(ag.mp t).1
  have n:bs[i]? = some bs[i]:=by simp[c,B]
  obtain⟨u,l,d⟩:=m.get (i:=i) (x:=.bl bs[i]) (by rw[am,n];rfl)
  rw[t] at l
  cases l
  cases d
  dsimp only at j
  rw[n] at j
  exact wpAny_truthy_bool j
 ·have e:((List.range a.toArray.size).any λi=>(bs[i]?).getD false)=bs.any id:=by rw[bE,<-c];exact range_any bs
  rw[e]
  refine⟨.bl (bs.any id),H,I.kept (t':=D) λb o f=>E b o (λC=>?_) (Heap.get?_push_of_some _ f),rfl,q⟩
  rw[av.mp C] at f
  exact fR _ (Heap.lt_size f)
theorem HY (ns:List Int):∀ j,j<=ns.length->preSum (λi=>(ns[i]?).getD 0) j=(ns.take j).sum
 | 0,_=>rfl
 | j+1,h=>by
  have a:=HY ns j (by omega)
  show preSum _ j+(ns[j]?).getD 0=_
  rw[a,cy,ae (by omega),fz]
  simp
theorem WN (M:Int):∀ ns:List Int,(∀ n∈ns,0<=n/\n<=M)->0<=ns.sum/\ns.sum<=ns.length * M
 | [],_=>by simp
 | n::r,h=>by
  have c:=h n (ce ..)
  have b:=WN M r λx a=>h x (bq _ a)
  have e:((n::r).length:Int) * M=r.length * M+M:=by rw[bo];push_cast;rw[Int.add_mul,Int.one_mul]
  rw[e,ko]
  omega
theorem WW (D:X.calm=true):Fd X (.builtin "sum") (λxs H Q=>∃ (p:Addr) (ns:List Int),xs=[V.ref p]/\Dc X.K H p (ns.map V.int)/\(∀ n∈ns,0<=n/\n<=100000)/\ns.length<=1000/\Q (.int ns.sum) H):=by
 intro T s σ H xs O Q I r h
 obtain⟨p,ns,rfl,E,d,P,q⟩:=h
 obtain⟨u,rfl,g⟩:=vals1 r
 cases g
 obtain⟨a,w,l,U⟩:=I.list E
 have c:ns.length=a.length:=by have:=w.length;rw[af] at this;exact this
 have f:p<s.heap.objs.size:=by obtain⟨_,e,_⟩:=l.isList;exact Heap.lt_size e
 refine call_sum_walk (wpAny_pyIter_list l.isList ?_)
 refine⟨s.heap.objs.size,[s.heap.objs.size,p],[s.heap.objs.size],a.toArray.size,_,_,λi=>(ns[i]?).getD 0,rfl,Walks.list (A:=X.A.in1) (I.ok.hd D) _ p (cf f) a.toArray,
  ⟨⟨_,Heap.get?_push_size _ rfl,rfl,rfl⟩,l.isList.push _⟩,λb d=>?_,λi v B=>?_,λj K=>?_,λS L C M=>?_⟩
 ·rw[Heap.size_push]
  rcases ci.mp d with rfl | d
  ·exact fF _
  ·rw[av.mp d]
   exact gz f
 ·have y:a[i]? = some v:=by simpa using B
  have F:i<a.length:=(ag.mp y).1
  have d:ns[i]? = some ns[i]:=by simp[c,F]
  obtain⟨u,m,g⟩:=w.get (i:=i) (x:=.int ns[i]) (by rw[am,d];rfl)
  rw[y] at m
  cases m
  obtain⟨t,rfl⟩:=g
  exact⟨t,by dsimp only;rw[d];rfl⟩
 ·have z:j<ns.length:=by rw[c];simpa using K
  rw[HY ns (j+1) (by omega)]
  have N:=d ns[j] (et z)
  have R:=WN 100000 (ns.take (j+1)) λn J=>d n (gy J)
  have W:(ns.take (j+1)).length<=1000:=by rw[cm];omega
  unfold InLong
  dsimp only
  rw[ae z]
  rw[Option.getD_some]
  refine⟨⟨?_,?_⟩,⟨?_,?_⟩⟩ <;> omega
 ·have e:preSum (λi=>(ns[i]?).getD 0) a.toArray.size=ns.sum:=by rw[bE,<-c,HY ns _ (ah _),eJ]
  rw[e]
  refine⟨.int ns.sum,H,I.kept (t':=L) λb o k=>M b o (λG=>?_) (Heap.get?_push_of_some _ k),⟨_,rfl⟩,q⟩
  rw[av.mp G] at k
  exact fR _ (Heap.lt_size k)
theorem O8:∀ {ts:List Str} {its:List Value},Vals (ts.map V.str) its->∃ l:List (Str × Tok),its=strValues l/\l.map (·.1)=ts
 | [],_,h=>by
  cases h
  exact⟨[],rfl,rfl⟩
 | t::ts,_,h=>by
  cases h with
  | cons a b =>
   obtain⟨k,rfl⟩:=a
   obtain⟨l,rfl,rfl⟩:=O8 b
   exact⟨(t,k)::l,rfl,rfl⟩
theorem Y8:sZ X "str.join" (λx xs H Q=>∃ (z:Str) (p:Addr) (ts:List Str),x=V.str z/\xs=[V.ref p]/\Dc X.K H p (ts.map V.str)/\JoinOk z ts=true/\Q (.str (Txt.join z ts)) H):=by
 intro m s σ H x xs v o Q I i r h
 obtain⟨z,p,ts,rfl,rfl,d,a,q⟩:=h
 obtain⟨t,rfl⟩:=i
 obtain⟨w,rfl,c⟩:=Vals.one r
 cases c
 obtain⟨e,b,f,n⟩:=I.list d
 obtain⟨l,rfl,g⟩:=O8 b
 exact SC.join f.isList g a λj k=>⟨.str _,H,I.tok _,⟨_,rfl⟩,q⟩
structure KDict (K:W.Frag) (P:Params) (a:Addr):Prop where
 is:∃ es n,K.lookup a=some ⟨.type "dict",none,.dict es n,#[]⟩/\W.KeysLit P es.toList
 lo:(a == sysModules)=false
inductive V1 (K:W.Frag) (P:Params) (Q:VK) (x:V) (y:V) (H2:Hp):Prop
 | mk (a z v u:_):x=.ref a->y=.str z->KDict K P a->W.nsIn K a z=some (some u)->RelV v u->Q v H2->V1 K P Q x y H2
def jf (K:W.Frag) (P:Params) (td ty:TE):TE:=λσ H Q=>td σ H λx H1=>ty σ H1 λy H2=>V1 K P Q x y H2
inductive bO (K:W.Frag) (P:Params) (neg:Bool) (Q:VK) (y:V) (x:V) (H2:Hp):Prop
 | mk (a z r:_):x=.ref a->y=.str z->KDict K P a->W.nsIn K a z=some r->Q (.bl (if neg then !r.isSome else r.isSome)) H2->bO K P neg Q y x H2
def oA (K:W.Frag) (P:Params) (neg:Bool) (ty td:TE):TE:=λσ H Q=>ty σ H λy H1=>td σ H1 λx H2=>bO K P neg Q y x H2
variable {o i:Expr} {td ty:TE}
theorem N5 (D:PE X o td) (hi:PE X i ty) (f:jF i):PE X (.Subscript o i pos) (jf X.K X.w.params td ty):=by
 intro e s σ H Q I h
 refine R7 iN f (CJ (D e s σ H _ I h) λu A ⟨x,J,F,r,g⟩=>CJ (hi e A σ J _ F g) λK M q=>?_)
 obtain⟨y,k,b,l,a,z,v,w,m,p,j,B,E,C⟩:=q
 subst m p
 cases r
 obtain⟨t,rfl⟩:=l
 obtain⟨⟨L,n,d,G⟩,lo⟩:=j
 have c:=W.mapOf_K (prog:=X.prog) b.Gy d G
 exact⟨c.typeIs,wpAny_getItem_of (strKind_is X.prog X.w z t) c (W.find_K d B) ⟨v,k,b.tok _,E,C⟩⟩
theorem Vf (hi:PE X i ty) (w:PE X o td):PC X .In i o (oA X.K X.w.params false ty td):=by
 intro d s σ H Q I h
 refine CJ (hi d s σ H _ I h) λE q ⟨y,D,B,g,e⟩=>CJ (w d q σ D _ B e) λu G m=>?_
 obtain⟨x,j,b,p,a,z,r,k,l,f,A,v⟩:=m
 subst k l
 cases p
 obtain⟨t,rfl⟩:=g
 obtain⟨⟨F,n,c,C⟩,lo⟩:=f
 refine wpAny_in_of (strKind_is X.prog X.w z t) lo (W.mapOf_K (prog:=X.prog) b.Gy c C) ?_
 rw[W.find_K c A]
 exact⟨.bl r.isSome,j,b.tok _,rfl,v⟩
theorem Uv (hi:PE X i ty) (w:PE X o td):PC X .NotIn i o (oA X.K X.w.params true ty td):=by
 intro d s σ H Q I h
 refine CJ (hi d s σ H _ I h) λE q ⟨y,D,B,g,e⟩=>CJ (w d q σ D _ B e) λu G m=>?_
 obtain⟨x,j,b,p,a,z,r,k,l,f,A,v⟩:=m
 subst k l
 cases p
 obtain⟨t,rfl⟩:=g
 obtain⟨⟨F,n,c,C⟩,lo⟩:=f
 refine wpAny_notIn_of (strKind_is X.prog X.w z t) lo (W.mapOf_K (prog:=X.prog) b.Gy c C) ?_
 rw[W.find_K c A]
 exact⟨.bl (!r.isSome),j,b.tok _,rfl,v⟩
end
section
variable {st:Expr} {lo hi:Option Expr} {ts:TE} {tl th:TO} {p2:Pos}
end
end L2
namespace Og
open PySem L2
theorem Av {K:W.Frag} (h:X.K=K):jb X (Yp K):=h ▸ ig
theorem Bp {K:W.Frag} (h:X.K=K):jb X (iD K):=h ▸ Ea
theorem Lh {K:W.Frag} (h:X.K=K):G4 X (compareOp .In) (nA K false):=h ▸ Mm
structure R where
 w:Str
 nm:Str
 rest:List V
abbrev R.v (r:R):List V:=.str r.w :: .str r.nm::r.rest
def isNm (z:Str):Prop:=1<=z.length/\z.length<=8/\∀ c∈z.cps.toList,97<=c/\c<=122
def Rows (H:Hp) (ρ:V->R) (vs:List V):Prop:=∀ v∈vs,TupAt H (ρ v).v v
theorem Rows.mono {ρ:V->R} (s:An H H') (h:Rows H ρ vs):Rows H' ρ vs:=λv a=>(h v a).mono s
theorem Rows.sub {ρ:V->R} (h:Rows H ρ vs) (b:∀ v∈us,v∈vs):Rows H ρ us:=λv a=>h v (b v a)
abbrev pw (ρ:V->R) (w:Str) (v:V):Bool:=decide (V.str (ρ v).w=V.str w)
abbrev pn (ρ:V->R) (t:Str) (v:V):Bool:=decide (V.str (ρ v).nm=V.str t)
def Yh (ρ:V->R) (vs:List V) (w t:Str):Bool:=(vs.filter (pw ρ w)).any (pn ρ t)
def KTup (K:W.Frag) (a:Addr) (xs:List V):Prop:=∃ (o:Obj) (its:Array Value) (n:Nat),K.lookup a=some o/\o.cls=.type "tuple" /\ o.data=.seq its n/\its.size<=sizeLine/\Vals xs its.toList
theorem KTup.sq {K:W.Frag} (h:KTup K a xs) (H:Hp):HW K H a xs:=.inr h
abbrev named:List Str:=["board","rank","stop","coupler","mute"]
def JD (K:W.Frag) (aB:Addr) (ρ:V->R) (vs:List V) (x:V) (part:Str):Prop :=
 (∃ (i lo hi:Int) (b:Addr),x=.int i/\W.nsIn K aB part=some (some (.ref b))/\KTup K b [.int lo,.int hi]/\lo<=i/\i<=hi) \/
 (W.nsIn K aB part=some none/\part = "new" /\ ∃ t,x=.str t/\isNm t/\∀ w∈named,Yh ρ vs w t=false) \/
 (W.nsIn K aB part=some none/\¬ part = "new" /\ ∃ t,x=.str t/\isNm t/\Yh ρ vs part t=true)
structure MT (K:W.Frag) (aB aP aM:Addr) (ρ:V->R) (vs:List V) (r:R):Prop where
 ns:¬ r.w = "step"
 nl:¬ r.w = "line"
 parts:∃ (ap:Addr) (ps:List Str),W.nsIn K aP r.w=some (some (.ref ap))/\KTup K ap (ps.map V.str)/\(V.str r.nm::r.rest).length=ps.length/\ps.length<=10 /\
  ∀ (i:Nat) x y,(V.str r.nm::r.rest)[i]? = some x->ps[i]? = some y->JD K aB ρ vs x y
 room:∃ (m:Int) (t:Tok),W.nsIn K aM r.w=some (some (.int m t))/\(((vs.filter (pw ρ r.w)).length:Nat):Int)<m
def letters:Str:="abcdefghijklmnopqrstuvwxyz"
abbrev ZD (y:Str) (c:Nat):Bool:=!(Builtin.Str.occurrences y ⟨#[c]⟩ 0 y.length 1).isEmpty
theorem Nq:∀ c<128,ZD letters c=decide (97<=c/\c<=122):=by decide
theorem BP (h:H p=none):An H (upd H p o):=λb u e=>by rw[Aw (Aj e h)];exact e
theorem Em (h:H p=none):∃ H',upd H p o=H'/\An H H'/\H' p=some o:=⟨_,rfl,BP h,Al⟩
theorem CK (h:n<=1000):n<=sizeLine:=fT (BK h)
theorem ty_int {K:W.Frag}:W.kitOne K (.type "int") (.type "int")=some true:=by kernel_rfl
theorem WY {K:W.Frag}:W.kitOne K (.type "int") (.type "bool")=some false:=by kernel_rfl
theorem Wk {K:W.Frag}:W.kitOne K (.type "list") (.type "list")=some true:=by kernel_rfl
theorem Hk {K:W.Frag}:W.kitOne K (.type "tuple") (.type "tuple")=some true:=by kernel_rfl
theorem HH {K:W.Frag}:W.kitOne K (.type "str") (.type "str")=some true:=by kernel_rfl
theorem Jp (vs:List V) (n:Nat) (h:n<=vs.length):En vs none (some (n:Int))=vs.take n:=by
 unfold En
 have a:HT.Dy vs.length 0 none=0:=rfl
 have b:HT.Dy vs.length vs.length (some (n:Int))=n:=by
  rw[HT.GZ]
  omega
 rw[a,b]
 simp
theorem Iw {α:Type} (p:α->Bool) (l:List α):(l.filter p).length<=l.length:=bt _ _
abbrev bV (b:Str × Nat):List V:=[.str b.1,.int (b.2:Nat)]
abbrev Ef (b:Str × Nat):R:=⟨"board",b.1,[.int (b.2:Nat)]⟩
abbrev qV (q:Nat × Nat):List V:=[.int (q.1:Nat),.int (q.2:Nat)]
def FQ (bs:List (Str × Nat)):List (Nat × Nat):=bs.zipIdx.flatMap λp=>(List.range p.1.2).map λe=>(p.2,e)
theorem Xc (bs:List (Str × Nat)) (b:Str × Nat):FQ (bs++[b])=FQ bs++(List.range b.2).map λe=>(bs.length,e):=by
 unfold FQ
 rw[List.zipIdx_append]
 simp
theorem Hj {bs:List (Str × Nat)} {b:Str × Nat} (h:bs[i]? = some b):FQ (bs.take (i+1))=FQ (bs.take i)++(List.range b.2).map λe=>(i,e):=by
 have a:i<bs.length:=(ag.mp h).1
 rw[cy,h]
 show FQ (bs.take i++[b])=_
 rw[Xc,cm,Nat.min_eq_left (by omega)]
theorem N_ (bs:List (Str × Nat)) (M:Nat):(∀ b∈bs,b.2<=M)->(FQ bs).length<=bs.length * M:=by
 intro h
 have c:∀ i,i<=bs.length->(FQ (bs.take i)).length<=i * M:=by
  intro i
  induction i with
  | zero=>intro _;simp[FQ]
  | succ i d =>
   intro g
   have a:i<bs.length:=by omega
   rw[Hj (ae a),al,af,gE]
   have f:=d (by omega)
   have e:=h bs[i] (et a)
   have:(i+1) * M=i * M+M:=by rw[Nat.add_mul,Nat.one_mul]
   omega
 have:=c bs.length (ah _)
 rw[eJ] at this
 exact this
theorem Dl {α β:Type} {F:α->β->Prop} {l:List α} {vs:List β} (h:Paired F l vs):∀ {v},v∈vs->∃ a∈l,F a v:=by
 induction h with
 | nil=>intro v c;cases c
 | cons a b d =>
  intro v c
  rcases ci.mp c with rfl | c
  ·exact⟨_,ce ..,a⟩
  ·obtain⟨x,e,q⟩:=d c
   exact⟨x,bq _ e,q⟩
theorem CP {α β:Type} {F:α->β->Prop} {l:List α} {vs:List β} (h:Paired F l vs):∀ {i:Nat} {a},l[i]? = some a->∃ v,vs[i]? = some v/\F a v:=by
 induction h with
 | nil=>intro i a b;simp at b
 | cons x y c =>
  intro i a b
  cases i with
  | zero =>
   simp at b
   subst b
   exact⟨_,rfl,x⟩
  | succ i=>exact c (by simpa using b)
theorem QR {α β:Type} {F:α->β->Prop} {l:List α} {vs:List β} (h:Paired F l vs):∀ {i:Nat} {v},vs[i]? = some v->∃ a,l[i]? = some a/\F a v:=by
 induction h with
 | nil=>intro i a b;simp at b
 | cons x y c =>
  intro i a b
  cases i with
  | zero =>
   simp at b
   subst b
   exact⟨_,rfl,x⟩
  | succ i=>exact c (by simpa using b)
theorem KJ {α β:Type} {F:α->β->Prop} {l:List α} {vs:List β} (h:Paired F l vs):∀ n:Nat,Paired F (l.take n) (vs.take n):=by
 induction h with
 | nil=>intro n;simp;exact .nil
 | cons x y a =>
  intro n
  cases n with
  | zero=>exact .nil
  | succ n=>exact .cons x (a n)
theorem Ds {α β:Type} {F:α->β->Prop} {l b:List α} {vs a:List β} (h:Paired F l vs) (h':Paired F b a):Paired F (l++b) (vs++a):=by
 induction h with
 | nil=>exact h'
 | cons x y c=>exact .cons x c
theorem Bv {α β γ:Type} {F:γ->β->Prop} (g:α->γ) {l:List α} {vs:List β} (h:Paired (λa v=>F (g a) v) l vs):Paired F (l.map g) vs:=by
 induction h with
 | nil=>exact .nil
 | cons x y b=>exact .cons x b
theorem Gb {α β γ:Type} {F:γ->β->Prop} (g:α->γ):∀ {l:List α} {vs:List β},Paired F (l.map g) vs->Paired (λa v=>F (g a) v) l vs
 | [],_,h=>by cases h;exact .nil
 | a::l,_,h=>by
  cases h with
  | cons x y=>exact .cons x (Gb g y)
def Uq (H:Hp) (k:Nat):V->V
 | .ref T=>match H T with
  | some (.tup xs)=>xs.getD k .non
  | _=>.non
 | _=>.non
theorem JW {a:List V} {v:V} (h:TupAt H a v) (k:Nat):Uq H k v=a.getD k .non:=by
 obtain⟨T,rfl,e⟩:=h
 show (match H T with | some (.tup xs)=>xs.getD k V.non | _=>V.non)=_
 rw[e]
theorem Kh {α:Type} {g:α->List V} (k:Nat) {l:List α} (h:Paired (λa v=>TupAt H (g a) v) l vs):vs.map (Uq H k)=l.map λa=>(g a).getD k .non:=by
 induction h with
 | nil=>rfl
 | cons x y b=>rw[dc,dc,b,JW x]
def SX (x:Addr) (H H':Hp):Prop:=∀ b o,H b=some o->b ≠ x->H' b=some o
theorem SX.trans {x:Addr} (a:SX x H H1) (b:SX x H1 H2):SX x H H2:=λc o h n=>b c o (a c o h n) n
theorem SX.refl {x:Addr}:SX x H H:=λ_ _ h _=>h
theorem SX.of {x:Addr} (s:An H H'):SX x H H':=λb o h _=>s b o h
theorem SX.up {x:Addr}:SX x H (upd H x o):=λb u h n=>by rw[Aw n];exact h
theorem SX.tup {x:Addr} {a:List V} {fs:List (Str × V)} (s:SX x H H') (b:H x=some (.ins C dx fs)) (h:TupAt H a y):TupAt H' a y:=by
 obtain⟨T,e,q⟩:=h
 exact⟨T,e,s _ _ q λz=>by rw[z,b] at q;cases q⟩
theorem SX.pair {α:Type} {x:Addr} {f:α->List V} {l:List α} {fs:List (Str × V)} (s:SX x H H') (b:H x=some (.ins C dx fs)) (h:Paired (λa y=>TupAt H (f a) y) l vs):Paired (λa y=>TupAt H' (f a) y) l vs:=Paired.J3 h λ_ _ q=>s.tup b q
theorem SX.lst {x:Addr} {fs:List (Str × V)} (s:SX x H H') (b:H x=some (.ins C dx fs)) (h:H a=some (.lst xs)):H' a=some (.lst xs):=s _ _ h λz=>by rw[z,b] at h;cases h
theorem SX.dk {x:Addr} {fs:List (Str × V)} (s:SX x H H') (b:H x=some (.ins C dx fs)) (h:H a=some (.dK kvs)):H' a=some (.dK kvs):=s _ _ h λz=>by rw[z,b] at h;cases h
abbrev meths:List Str:=["ranks","pipe_count","pipe","rank_of","board_of_knob","boards","key_count","key","board_of","coupler","knobs","knob_number","board_number","stop","mute","steps","rows"]
inductive pH (C:Addr) (H:Hp) (x:Addr) (bs:List (Str × Nat)) (ks:List R):Prop
 | mk (dx:Addr) (fs:List (Str × V)) (bl bn kp kr:Addr) (i3 ll mi:List V) (kvs:List (Key × V)):H x=some (.ins C dx fs)->fs.lookup ("board_list" : Str)=some (.ref bl)->fs.lookup ("board_numbers" : Str)=some (.ref bn)->fs.lookup ("key_places" : Str)=some (.ref kp)->fs.lookup ("knob_rows" : Str)=some (.ref kr)->(∀ m∈meths,fs.lookup m=none)->H bl=some (.lst i3)->Paired (λb y=>TupAt H (bV b) y) bs i3->H bn=some (.dK kvs)->(∀ (i:Nat) b,bs[i]? = some b->Ce kvs (Sum.inr b.1)=some (.int (i:Nat)))->H kp=some (.lst ll)->Paired (λq y=>TupAt H (qV q) y) (FQ bs) ll->H kr=some (.lst mi)->Paired (λ(r:R) y=>TupAt H r.v y) ks mi->pH C H x bs ks
structure Du (C:Addr) (H:Hp) (x:Addr) (bs:List (Str × Nat)) (ks:List R):Prop where
 ob:pH C H x bs ks
 nb:bs.length<=5
 sz:∀ b∈bs,b.2<=61
 nk:ks.length<=200
theorem Du.mono {x:Addr} {bs:List (Str × Nat)} {ks:List R} (s:An H H') (h:Du C H x bs ks):Du C H' x bs ks:=by
 obtain⟨⟨i,fs,m,u,f,g,B,w,j,d,k,z,p,l,e,t,y,A,q,o,r,n,D,v⟩,a,b,c⟩:=h
 exact⟨⟨i,fs,m,u,f,g,B,w,j,d,s _ _ k,z,p,l,e,t,s _ _ y,Ar s A,s _ _ q,o,s _ _ r,Ar s n,s _ _ D,Ar s v⟩,a,b,c⟩
end Og
variable {ks rows:List Og.R} {r:Og.R} {ρ:L2.V->Og.R}
namespace L2
open PySem PySem.Spec PyProof.Rows
section
variable {Q:VK}
theorem O5 {K:W.Frag} (p:V->Bool) (f:V->V) (c:HW K H1 a xs) (h:xs.length<sizeLine)
  (k:∀ x∈xs,∀ H,An H1 H->∀ R:Bool->Hp->Prop,(∀ H',An H H'->R (p x) H')->tt (some x::σ) H R)
  (j:∀ x∈xs,p x=true->∀ H,An H1 H->∀ R:VK,(∀ H',An H H'->R (f x) H')->te (some x::σ) H R)
  (e:∀ D H,H1 D=none->An H1 H->H D=some (.lst ((xs.filter p).map f))->Q (.ref D) H):Gz (xr K a) σ H1 Q tt te :=
 Hq p f h (λi H x b g=>⟨xs,x,b.tup c,g⟩) (λi H y H' b _ d=>⟨d.1,d.2 xs (b.tup c)⟩) (λH b=>⟨xs,b.tup c,ah _⟩) k j e
end
end L2
namespace Og
open PySem L2 PyProof.Rows
inductive Kb where
 | cp (i j:Nat) (s:Int)
 | pl (w:Str) (i:Nat)
def Kb.w:Kb->Str
 | .cp _ _ _=>"coupler"
 | .pl w _=>w
def Kb.v:Kb->List V
 | .cp i j s=>[.str "coupler",.int (i:Nat),.int (j:Nat),.int s]
 | .pl w i=>[.str w,.int (i:Nat)]
def Kb.ok (n:Nat):Kb->Prop
 | .cp i j s=>i<n/\j<n /\ -60<=s/\s<=60
 | .pl w i=>i<n/\(w = "mute" \/ w = "stop")
theorem Kb.wo {k:Kb} (h:k.ok n):k.w = "stop" \/ k.w = "coupler" \/ k.w = "mute":=by
 cases k with
 | cp i j s=>exact .inr (.inl rfl)
 | pl w i=>rcases h.2 with e | e;exact .inr (.inr e);exact .inl e
def Iv (w:Str):Nat:=if w = "coupler" then 12 else if w = "mute" then 5 else 24
abbrev GX (w:Str) (z:Kb):Bool:=decide (V.str z.w=V.str w)
structure Ri (n:Nat) (kbs:List Kb):Prop where
 ok:∀ k∈kbs,k.ok n
 room:∀ (i:Nat) k,kbs[i]? = some k->((kbs.take i).filter (GX k.w)).length<Iv k.w
 len:kbs.length<=70
def Wu (c:Nat->Str) (k:Nat):Kb->R
 | .cp i j s=>⟨"coupler",c (30+k),[.str (c i),.str (c j),.int s]⟩
 | .pl w i=>⟨w,c (30+k),[.str (c i)]⟩
theorem J0 (c:Nat->Str) (k:Nat) (z:Kb):(Wu c k z).w=z.w:=by cases z <;> rfl
def Bj (c:Nat->Str) (sz:List Nat):List (Str × Nat):=sz.zipIdx.map λp=>(c p.2,p.1)
def By (c:Nat->Str) (kbs:List Kb):List R:=kbs.zipIdx.map λp=>Wu c p.2 p.1
theorem Fx {c:Nat->Str} {sz:List Nat} {z:Nat} (h:sz[i]? = some z):(Bj c sz)[i]? = some (c i,z):=by
 unfold Bj
 rw[am,io,h]
 simp
theorem Uh {c:Nat->Str} {sz:List Nat} {b:Str × Nat} (h:(Bj c sz)[i]? = some b):∃ z,sz[i]? = some z/\b=(c i,z):=by
 have d:i<(Bj c sz).length:=(ag.mp h).1
 have a:i<sz.length:=by simpa [Bj] using d
 refine⟨sz[i],ae a,?_⟩
 rw[Fx (ae a)] at h
 exact (Option.some.inj h).symm
theorem Lx (c:Nat->Str) (sz:List Nat):(Bj c sz).length=sz.length:=by simp[Bj]
theorem De (c:Nat->Str) (sz:List Nat):(Bj c sz).map (·.2)=sz:=by
 unfold Bj
 rw[aE]
 refine ft λi=>?_
 rw[am,io]
 cases sz[i]? <;> simp
theorem Fq {c:Nat->Str} {kbs:List Kb} {z:Kb} (h:kbs[i]? = some z):(By c kbs)[i]? = some (Wu c i z):=by
 unfold By
 rw[am,io,h]
 simp
theorem Gq {c:Nat->Str} {kbs:List Kb} (h:(By c kbs)[i]? = some r):∃ z,kbs[i]? = some z/\r=Wu c i z:=by
 have b:i<(By c kbs).length:=(ag.mp h).1
 have a:i<kbs.length:=by simpa [By] using b
 refine⟨kbs[i],ae a,?_⟩
 rw[Fq (ae a)] at h
 exact (Option.some.inj h).symm
theorem QH (c:Nat->Str) (kbs:List Kb):(By c kbs).length=kbs.length:=by simp[By]
structure KF (K:W.Frag) (aB aP aM:Addr):Prop where
 pB:∃ a,W.nsIn K aP "board" = some (some (.ref a))/\KTup K a (["new","keys"].map λs:String=>V.str s)
 pS:∃ a,W.nsIn K aP "stop" = some (some (.ref a))/\KTup K a (["new","board"].map λs:String=>V.str s)
 pM:∃ a,W.nsIn K aP "mute" = some (some (.ref a))/\KTup K a (["new","board"].map λs:String=>V.str s)
 pC:∃ a,W.nsIn K aP "coupler" = some (some (.ref a))/\KTup K a (["new","board","board","leap"].map λs:String=>V.str s)
 bK:∃ a,W.nsIn K aB "keys" = some (some (.ref a))/\KTup K a [.int 1,.int 61]
 bL:∃ a,W.nsIn K aB "leap" = some (some (.ref a))/\KTup K a [.int (-60),.int 60]
 bN:W.nsIn K aB "new" = some none
 bB:W.nsIn K aB "board" = some none
 mB:∃ t,W.nsIn K aM "board" = some (some (.int 5 t))
 mS:∃ t,W.nsIn K aM "stop" = some (some (.int 24 t))
 mC:∃ t,W.nsIn K aM "coupler" = some (some (.int 12 t))
 mM:∃ t,W.nsIn K aM "mute" = some (some (.int 5 t))
def Ly (H:Hp):V->R
 | .ref T=>match H T with
  | some (.tup (.str w :: .str n::r))=>⟨w,n,r⟩
  | _=>⟨"","",[]⟩
 | _=>⟨"","",[]⟩
theorem K6 {v:V} (h:TupAt H r.v v):Ly H v=r:=by
 obtain⟨T,rfl,e⟩:=h
 show (match H T with | some (.tup (.str w :: .str n::r))=>(⟨w,n,r⟩:R) | _=>⟨"","",[]⟩)=r
 rw[e]
theorem SM {a:List R} (h:Paired (λ(r:R) v=>TupAt H r.v v) a vs):vs.map (Ly H)=a:=by
 induction h with
 | nil=>rfl
 | cons x y b=>rw[dc,b,K6 x]
theorem B_ (f:Str) (v:V):∀ l:List (Str × V),(BV f v l).length<=l.length+1
 | []=>ah _
 | p::r=>by
  unfold BV
  split
  ·simp
  ·have:=B_ f v r
   simp only[List.length_cons]
   omega
abbrev Gw (s:Str):Bool:=inV (.str s) [.str "stop",.str "coupler",.str "mute"]
structure Ok3 (K:W.Frag) (aB aP aM:Addr) (ρ:V->R) (us:List V) (bs:List (Str × Nat)) (ks:List R):Prop where
 kinds:∀ v∈us,(ρ v).w = "board" \/ (ρ v).w = "stop" \/ (ρ v).w = "coupler" \/ (ρ v).w = "mute"
 eb:(us.filter (pw ρ "board")).map ρ=bs.map Ef
 ek:(us.filter (λv=>Gw (ρ v).w)).map ρ=ks
 b0:1<=bs.length
 b5:bs.length<=5
 sz:∀ b∈bs,b.2<=61
 nk:ks.length<=100
 nb:(bs.map (·.1)).Nodup
 nn:(ks.map (·.nm)).Nodup
 len:us.length<=105
 ok:∀ (i:Nat) v,us[i]? = some v->MT K aB aP aM ρ (us.take i) (ρ v)
def HX (ρ:V->R) (vs:List V):List (Str × Str):=vs.map λv=>((ρ v).w,(ρ v).nm)
abbrev Rx (wn:List (Str × Str)) (w t:Str):Bool:=(wn.filter λp=>decide (p.1=w)).any λp=>decide (p.2=t)
abbrev Vz (wn:List (Str × Str)) (w:Str):Nat:=(wn.filter λp=>decide (p.1=w)).length
theorem Ii (a b:Str):decide (V.str a=V.str b)=decide (a=b):=by
 rw[eI,decide_eq_true_eq,decide_eq_true_eq]
 exact⟨V.str.inj,congrArg V.str⟩
theorem KH (ρ:V->R) (vs:List V) (w t:Str):Yh ρ vs w t=Rx (HX ρ vs) w t:=by
 unfold Yh HX
 show _=((vs.map λv=>((ρ v).w,(ρ v).nm)).filter λp=>decide (p.1=w)).any λp=>decide (p.2=t)
 rw[eR,List.any_map]
 have b:pw ρ w=(λp:Str × Str=>decide (p.1=w)) ∘ λv=>((ρ v).w,(ρ v).nm):=by
  funext v
  exact Ii _ _
 have a:pn ρ t=(λp:Str × Str=>decide (p.2=t)) ∘ λv=>((ρ v).w,(ρ v).nm):=by
  funext v
  exact Ii _ _
 rw[b,a]
theorem JC (ρ:V->R) (vs:List V) (w:Str):(vs.filter (pw ρ w)).length=Vz (HX ρ vs) w:=by
 unfold HX
 show _=((vs.map λv=>((ρ v).w,(ρ v).nm)).filter λp=>decide (p.1=w)).length
 rw[eR,af]
 have a:pw ρ w=(λp:Str × Str=>decide (p.1=w)) ∘ λv=>((ρ v).w,(ρ v).nm):=by
  funext v
  exact Ii _ _
 rw[a]
section
variable {K:W.Frag} {wn:List (Str × Str)}
theorem Jd (F:KF K aB aP aM) (e:HX ρ vs=wn) (b:isNm t) (h:∀ w∈named,Rx wn w t=false):JD K aB ρ vs (.str t) "new" :=
 .inr (.inl ⟨F.bN,rfl,_,rfl,b,λw a=>by rw[KH,e];exact h w a⟩)
theorem JH (F:KF K aB aP aM) (e:HX ρ vs=wn) (a:isNm t) (h:Rx wn "board" t=true):JD K aB ρ vs (.str t) "board" :=
 .inr (.inr ⟨F.bB,by decide,_,rfl,a,by rw[KH,e];exact h⟩)
theorem Ug (F:KF K aB aP aM) (e:HX ρ vs=wn) (i:isNm t) (h:∀ w∈named,Rx wn w t=false) (r:Vz wn "board" < 5) (q:1<=n) (p:n<=61):MT K aB aP aM ρ vs (Ef (t,n)):=by
 obtain⟨m,g,o⟩:=F.pB
 obtain⟨c,k,l⟩:=F.bK
 obtain⟨d,f⟩:=F.mB
 refine⟨by show ¬ ("board" : Str) = "step";decide,by show ¬ ("board" : Str) = "line";decide,⟨m,["new","keys"],g,o,rfl,by decide,λj x y b a=>?_⟩,⟨5,d,f,?_⟩⟩
 ·match j,b,a with
  | 0,b,a =>
   cases (Option.some.inj b)
   cases (Option.some.inj a)
   exact Jd F e i h
  | 1,b,a =>
   cases (Option.some.inj b)
   cases (Option.some.inj a)
   exact .inl ⟨_,1,61,c,rfl,k,l,by omega,by omega⟩
  | j+2,b,a=>simp at a
 ·rw[JC,e]
  show ((Vz wn "board" : Nat):Int)<5
  omega
theorem Oz (F:KF K aB aP aM) (e:HX ρ vs=wn) (u:isNm t) (h:∀ w∈named,Rx wn w t=false) (B:Vz wn "coupler" < 12) {a b:Str} (l:isNm a) (f:Rx wn "board" a=true) (n:isNm b) (g:Rx wn "board" b=true) {s:Int} (o : -60<=s) (m:s<=60):MT K aB aP aM ρ vs ⟨"coupler",t,[.str a,.str b,.int s]⟩:=by
 obtain⟨r,q,A⟩:=F.pC
 obtain⟨i,v,z⟩:=F.bL
 obtain⟨k,p⟩:=F.mC
 refine⟨by show ¬ ("coupler" : Str) = "step";decide,by show ¬ ("coupler" : Str) = "line";decide,⟨r,["new","board","board","leap"],q,A,rfl,by decide,λj x y d c=>?_⟩,⟨12,k,p,?_⟩⟩
 ·match j,d,c with
  | 0,d,c =>
   cases (Option.some.inj d)
   cases (Option.some.inj c)
   exact Jd F e u h
  | 1,d,c =>
   cases (Option.some.inj d)
   cases (Option.some.inj c)
   exact JH F e l f
  | 2,d,c =>
   cases (Option.some.inj d)
   cases (Option.some.inj c)
   exact JH F e n g
  | 3,d,c =>
   cases (Option.some.inj d)
   cases (Option.some.inj c)
   exact .inl ⟨_,-60,60,i,rfl,v,z,o,m⟩
  | j+4,d,c=>simp at c
 ·rw[JC,e]
  show ((Vz wn "coupler" : Nat):Int)<12
  omega
end
theorem Mt {α:Type} {l:List α} (h:∀ (i j:Nat) x,l[i]? = some x->l[j]? = some x->i=j):l.Nodup:=by
 refine List.pairwise_iff_getElem.mpr λi j b a c e=>?_
 have:=h i j l[i] (ae b) (by rw[e];exact ae a)
 omega
theorem Rk {bs:List (Str × Nat)}:∀ {i a n:Nat},(FQ bs)[i]? = some (a,n)->∃ b,bs[a]? = some b/\n<b.2/\i=((bs.map (·.2)).take a).sum+n:=by
 have f:∀ m,m<=bs.length->∀ {i a n:Nat},(FQ (bs.take m))[i]? = some (a,n)->∃ b,bs[a]? = some b/\n<b.2/\i=((bs.map (·.2)).take a).sum+n:=by
  intro m
  induction m with
  | zero =>
   intro _ i a n h
   simp[FQ] at h
  | succ m j =>
   intro t i a n h
   have c:m<bs.length:=by omega
   have o:=ae c
   rw[Hj o] at h
   have d:(FQ (bs.take m)).length=((bs.map (·.2)).take m).sum:=by
    have g:∀ m,m<=bs.length->(FQ (bs.take m)).length=((bs.map (·.2)).take m).sum:=by
     intro m
     induction m with
     | zero=>intro _;simp[FQ]
     | succ m j =>
      intro t
      have c:m<bs.length:=by omega
      rw[Hj (ae c),al,j (by omega),af,gE,cy,am,ae c,fz]
      simp
    exact g m (by omega)
   by_cases s:i<(FQ (bs.take m)).length
   ·rw[fw s] at h
    exact j (by omega) h
   ·rw[dt (by omega),am] at h
    obtain⟨e,v,q⟩:=aT.mp h
    have p:i - (FQ (bs.take m)).length<bs[m].2/\e=i - (FQ (bs.take m)).length:=by
     obtain⟨k,l⟩:=ag.mp v
     rw[gE] at k
     rw[List.getElem_range] at l
     exact⟨k,l.symm⟩
    obtain⟨r,u⟩:=Prod.mk.inj q
    subst r u
    refine⟨bs[m],o,by omega,?_⟩
    rw[<-d]
    omega
 intro i a n h
 refine f bs.length (ah _) ?_
 rw[eJ]
 exact h
theorem Et (bs:List (Str × Nat)):(FQ bs).length=(bs.map (·.2)).sum:=by
 unfold FQ
 rw[List.length_flatMap]
 have:(bs.zipIdx.map λp=>((List.range p.1.2).map λe=>(p.2,e)).length)=bs.map (·.2):=by
  refine ft λi=>?_
  rw[am,am,io]
  cases bs[i]? <;> simp
 rw[this]
open PySem L2
def QK (bs:List (Str × Nat)) (j1 j2:Nat) (s:Int) (qd:Nat × Nat) (z2:Nat):V :=
 if qd.1=j1/\0<=(qd.2:Int)+s/\(qd.2:Int)+s<z2 then .int ((((bs.take j2).map (·.2)).sum:Nat)+((qd.2:Int)+s)) else .non
def gl (bs:List (Str × Nat)):Kb->Nat->Option Nat
 | .cp j1 j2 s,i=>match (FQ bs)[i]?,bs[j2]? with
  | some qd,some b2=>match QK bs j1 j2 s qd b2.2 with
   | .int v=>some v.toNat
   | _=>none
  | _,_=>none
 | .pl _ _,_=>none
theorem Nt (l:List Nat):∀ {a b:Nat},a<=b->(l.take a).sum<=(l.take b).sum:=by
 intro a b h
 have e:l.take a=(l.take b).take a:=by rw[List.take_take,Nat.min_eq_left h]
 rw[e]
 have:=congrArg List.sum (gu a (l.take b))
 rw[fz] at this
 omega
theorem Wy {bs:List (Str × Nat)} {j1 a:Nat} {s:Int} {b:Nat × Nat} {c:Str × Nat} (f:(FQ bs)[i]? = some b) (d:bs[a]? = some c) :
  (QK bs j1 a s b c.2=.non/\gl bs (.cp j1 a s) i=none) \/ ∃ j:Nat,QK bs j1 a s b c.2=.int (j:Nat)/\gl bs (.cp j1 a s) i=some j/\j<(bs.map (·.2)).sum:=by
 have e:gl bs (.cp j1 a s) i=match QK bs j1 a s b c.2 with | .int v=>some v.toNat | _=>none:=by
  simp only[gl,f,d]
 rw[e]
 unfold QK
 by_cases h:b.1=j1/\0<=(b.2:Int)+s/\(b.2:Int)+s<c.2
 ·rw[if_pos h]
  obtain⟨k,m,l⟩:=h
  have n:((bs.map (·.2)).take (a+1)).sum=(((bs.take a).map (·.2)).sum+c.2):=by
   rw[cy,am,d,fz,ij]
   simp
  have g:((bs.map (·.2)).take (a+1)).sum<=(bs.map (·.2)).sum:=by
   have:=congrArg List.sum (gu (a+1) (bs.map (·.2)))
   rw[fz] at this
   omega
  refine .inr ⟨((((bs.take a).map (·.2)).sum:Nat)+((b.2:Int)+s)).toNat,?_,rfl,by omega⟩
  rw[Int.toNat_of_nonneg (by omega)]
 ·rw[if_neg h]
  exact .inl ⟨rfl,rfl⟩
theorem bJ {bs:List (Str × Nat)} {z:Kb} (h:gl bs z i=some j):j<(bs.map (·.2)).sum:=by
 cases z with
 | pl w a=>cases h
 | cp b c s =>
  cases hq:(FQ bs)[i]? with
  | none =>
   simp only[gl,hq] at h
   cases h
  | some g =>
   cases hb:bs[c]? with
   | none =>
    simp only[gl,hq,hb] at h
    cases h
   | some f =>
    rcases Wy (j1:=b) (s:=s) hq hb with⟨_,e⟩ | ⟨d,_,e,lt⟩
    ·rw[e] at h
     cases h
    ·rw[e] at h
     cases h
     exact lt
abbrev jE (z:Kb):Bool:=decide (V.str z.w=V.str "coupler")
theorem oO {bs:List (Str × Nat)} {z:Kb} (h:gl bs z i=some j):jE z=true:=by
 cases z with
 | pl w a=>cases h
 | cp b c s=>exact decide_eq_true rfl
theorem Zw {z:Kb} (b:z.ok n) (h:jE z=true):∃ i j s,z=.cp i j s:=by
 cases z with
 | cp i j s=>exact⟨i,j,s,rfl⟩
 | pl w i =>
  exfalso
  have a:=V.str.inj (of_decide_eq_true h)
  rcases b.2 with rfl | rfl
  ·exact absurd a (by show ¬ ("mute" : Str) = "coupler";decide)
  ·exact absurd a (by show ¬ ("stop" : Str) = "coupler";decide)
inductive stp (bs:List (Str × Nat)) (kbs:List Kb) (D:Nat) (i j:Nat):Prop
 | mk (k z:_):D.testBit k=true->kbs[k]? = some z->gl bs z i=some j->stp bs kbs D i j
inductive Ot (st:Nat->Nat->Prop) (hd:Nat->Prop):Nat->Prop
 | one {i j:Nat}:hd i->st i j->Ot st hd j
 | more {i j:Nat}:Ot st hd i->st i j->Ot st hd j
theorem Ot.lt {bs:List (Str × Nat)} {kbs:List Kb} {D:Nat} {h:Nat->Prop} (r:Ot (stp bs kbs D) h j):j<(bs.map (·.2)).sum:=by
 cases r with
 | one a b=>obtain⟨k,z,_,_,e⟩:=b;exact bJ e
 | more a b=>obtain⟨k,z,_,_,e⟩:=b;exact bJ e
theorem Ot.all {st:Nat->Nat->Prop} {c:Nat->Prop} {W:Nat->Prop} (f:∀ j,W j->Ot st c j) (d:∀ i,(c i \/ W i)->∀ j,st i j->W j) (j:Nat):W j ↔ Ot st c j:=by
 refine⟨f j,λh=>?_⟩
 induction h with
 | one a b=>exact d _ (.inl a) _ b
 | more a b e=>exact d _ (.inr e) _ b
theorem Fi:∀ (T:Nat) {l:List Nat},l.Nodup->(∀ x∈l,x<T)->l.length<=T
 | 0,l,_,h=>by
  cases l with
  | nil=>exact ah _
  | cons a l=>exact absurd (h a (ce ..)) (iE _)
 | T+1,l,b,h=>by
  have d:=Fi T (l:=l.erase T) (b.erase T) λx c=>by
   have f:=h x (List.mem_of_mem_erase c)
   have e:x ≠ T:=λz=>by
    subst z
    exact b.not_mem_erase c
   omega
  have:=List.length_erase (a:=T) (l:=l)
  split at this <;> omega
theorem Wv (a b i:Nat):(a ||| b).testBit i=true ↔ a.testBit i=true \/ b.testBit i=true:=by
 rw[Nat.testBit_or,Bool.or_eq_true]
theorem Zt {a b:Nat} (h:∀ i,a.testBit i=true ↔ b.testBit i=true):a=b:=fN λi=>eI.mpr (h i)
open PySem L2 PyProof.Rows
abbrev Th:=Str × Nat × List V
abbrev tV (a:Th):List V:=.str a.1 :: .int (a.2.1:Nat)::a.2.2
abbrev tN (a:Th):Str × Nat:=(a.1,a.2.1)
abbrev Xd (r:Str × Nat × Int):Th:=(r.1,r.2.1,[.int r.2.2])
abbrev jX (b:Str × Nat):Th:=(b.1,b.2,[])
abbrev eE (r:Str × Nat × Int):Str × Nat:=(r.1,r.2.1)
abbrev FN (r:Str × Nat × Int):R:=⟨"rank",r.1,[.int (r.2.1:Nat),.int r.2.2]⟩
structure Ln where
 r:Nat
 sh:Int
 lo:Int
 hi:Int
abbrev Yg (l:Ln):List V:=[.int (l.r:Nat),.int l.sh,.int l.lo,.int l.hi]
inductive G7 (H:Hp) (l:List Ln) (v:V):Prop
 | mk (A:Addr) (ts:List V):v=.ref A->H A=some (.lst ts)->Paired (λx y=>TupAt H (Yg x) y) l ts->G7 H l v
inductive Il (H:Hp) (D:Addr) (ls:List (List Ln)):Prop
 | mk (lv:_):H D=some (.lst lv)->Paired (λl v=>G7 H l v) ls lv->Il H D ls
theorem G7.mono {l:List Ln} {v:V} (s:An H H') (h:G7 H l v):G7 H' l v:=by
 obtain⟨A,a,e,c,b⟩:=h
 exact⟨A,a,e,s _ _ c,Ar s b⟩
theorem Il.mono {a:List (List Ln)} (s:An H H') (h:Il H D a):Il H' D a:=by
 obtain⟨b,d,c⟩:=h
 exact⟨b,s _ _ d,Paired.J3 c λ_ _ q=>q.mono s⟩
inductive jd (C:Addr) (H:Hp) (x:Addr) (bs:List (Str × Nat)) (rk:List (Str × Nat × Int)) (ks:List R) (ls:List (List Ln)):Prop
 | mk (dx:Addr) (fs:List (Str × V)) (rl rn pp kl:Addr) (kT ll:List V) (kvs:List (Key × V)):H x=some (.ins C dx fs)->fs.lookup ("rank_list" : Str)=some (.ref rl)->fs.lookup ("rank_numbers" : Str)=some (.ref rn)->fs.lookup ("pipe_places" : Str)=some (.ref pp)->fs.lookup ("knob_lines" : Str)=some (.ref kl)->H rl=some (.lst kT)->Paired (λ(a:Th) y=>TupAt H (tV a) y) (rk.map Xd) kT->H rn=some (.dK kvs)->(∀ (i:Nat) r,rk[i]? = some r->Ce kvs (Sum.inr r.1)=some (.int (i:Nat)))->H pp=some (.lst ll)->Paired (λq y=>TupAt H (qV q) y) (FQ (rk.map eE)) ll->Il H kl ls->jd C H x bs rk ks ls
structure El (C:Addr) (H:Hp) (x:Addr) (bs:List (Str × Nat)) (rk:List (Str × Nat × Int)) (ks:List R) (ls:List (List Ln)):Prop where
 o:Du C H x bs ks
 r:jd C H x bs rk ks ls
 nr:rk.length<=12
 nz:∀ r∈rk,r.2.1<=97
 nl:ls.length=ks.length
theorem El.mono {x:Addr} {bs:List (Str × Nat)} {rk:List (Str × Nat × Int)} {e:List (List Ln)} (s:An H H') (h:El C H x bs rk ks e):El C H' x bs rk ks e:=by
 obtain⟨o,⟨k,fs,u,B,p,i,r,g,d,l,n,v,m,f,j,y,w,t,A,q,z⟩,a,b,c⟩:=h
 exact⟨o.mono s,⟨k,fs,u,B,p,i,r,g,d,s _ _ l,n,v,m,f,s _ _ j,Ar s y,s _ _ w,t,s _ _ A,Ar s q,z.mono s⟩,a,b,c⟩
structure bj (ρ:V->R) (us:List V) (i:Nat):Prop where
 all:∀ j,j<i->∃ v,us[us.length - 1 - j]? = some v/\(ρ v).w = "line"
 lt:i<us.length
 no:∃ v,us[us.length - 1 - i]? = some v/\¬ (ρ v).w = "line"
def iJ (r:R):Int:=match r.rest with
 | [.int m]=>m
 | _=>0
abbrev keyOf (ρ:V->R) (us:List V) (bd:Str) (n:Int):Bool:=(us.filter (pw ρ "board")).any λv=>pn ρ bd v && decide (n<iJ (ρ v))
structure Qm (ρ:V->R) (us:List V) (ro:R):Prop where
 ex:∃ (cnt:Nat) (v:V) (sh lo hi:Int) (bd:Str) (rs:List V),ro.rest=[.int sh,.int lo,.int hi]/\bj ρ us cnt/\cnt<4/\us[us.length - 1 - cnt]? = some v/\(ρ v).w = "stop" /\ (ρ v).rest=.str bd::rs/\lo<=hi/\keyOf ρ us bd hi=true
abbrev Ft (ρ:V->R) (us:List V):Prop:=∀ v∈us,(ρ v).w = "board"->∃ m,(ρ v).rest=[.int m]
structure Jy (K:W.Frag) (aB aP aM:Addr) (ρ:V->R) (vs:List V) (r:R):Prop where
 ns:¬ r.w = "step"
 parts:∃ (ap:Addr) (ps:List Str),W.nsIn K aP r.w=some (some (.ref ap))/\KTup K ap (ps.map V.str)/\(V.str r.nm::r.rest).length=ps.length/\ps.length<=10 /\
  ∀ (i:Nat) x y,(V.str r.nm::r.rest)[i]? = some x->ps[i]? = some y->JD K aB ρ vs x y
 room:(r.w = "line" /\ W.nsIn K aM r.w=some none) \/ ∃ (m:Int) (t:Tok),W.nsIn K aM r.w=some (some (.int m t))/\(((vs.filter (pw ρ r.w)).length:Nat):Int)<m
 line:r.w = "line"->Qm ρ vs r
 jW:Ft ρ vs
def lnOf (rk:List (Str × Nat × Int)) (r:R):Ln:=match r.rest with
 | [.int sh,.int lo,.int hi]=>⟨(rk.map (·.1)).idxOf r.nm,sh,lo,hi⟩
 | _=>⟨0,0,0,0⟩
def putL (i5:List (List Ln)) (l:Ln):List (List Ln):=match i5.getLast? with
 | some z=>i5.dropLast++[z++[l]]
 | none=>[]
def Dr (rk:List (Str × Nat × Int)) (i5:List (List Ln)) (r:R):List (List Ln):=if Gw r.w=true then i5++[[]] else if r.w = "line" then putL i5 (lnOf rk r) else i5
def linesOf (rk:List (Str × Nat × Int)) (rs:List R):List (List Ln):=rs.foldl (Dr rk) []
theorem DN (rk:List (Str × Nat × Int)) (a:List R) (r:R):linesOf rk (a++[r])=Dr rk (linesOf rk a) r:=by
 unfold linesOf
 rw[kz]
 rfl
theorem Ib (a:List (List Ln)) (z:List Ln) (l:Ln):putL (a++[z]) l=a++[z++[l]]:=by
 unfold putL
 rw[List.getLast?_concat,List.dropLast_concat]
structure Ok4 (K:W.Frag) (aB aP aM:Addr) (ρ:V->R) (us:List V) (bs:List (Str × Nat)) (rk:List (Str × Nat × Int)) (ks:List R):Prop where
 kinds:∀ v∈us,(ρ v).w = "board" \/ (ρ v).w = "rank" \/ (ρ v).w = "line" \/ (ρ v).w = "stop" \/ (ρ v).w = "coupler" \/ (ρ v).w = "mute"
 eb:(us.filter (pw ρ "board")).map ρ=bs.map Ef
 er:(us.filter (pw ρ "rank")).map ρ=rk.map FN
 ek:(us.filter (λv=>Gw (ρ v).w)).map ρ=ks
 ln:∀ (i:Nat) v,us[i]? = some v->(ρ v).w = "line"->(∃ (j:Nat) (r:Str × Nat × Int) (sh lo hi:Int),rk[j]? = some r/\r.1=(ρ v).nm/\(ρ v).rest=[.int sh,.int lo,.int hi])/\∃ u∈us.take i,Gw (ρ u).w=true
 b0:1<=bs.length
 b5:bs.length<=5
 sz:∀ b∈bs,b.2<=61
 nr:rk.length<=12
 nz:∀ r∈rk,r.2.1<=97
 nk:ks.length<=100
 nb:(bs.map (·.1)).Nodup
 nrr:(rk.map (·.1)).Nodup
 nn:(ks.map (·.nm)).Nodup
 len:us.length<=150
 ok:∀ (i:Nat) v,us[i]? = some v->Jy K aB aP aM ρ (us.take i) (ρ v)
end Og
variable {kbs:List Og.Kb} {ls:List (List Og.Ln)}
namespace Ws
open PySem PySem.Spec PyProof.Rows Wd
def Jj (prog:Program) (w:World) (h:Heap) (a:Addr) (led:Bool) (σ:List Str):Prop :=
 ∃ es ep t,h.get? a=some { cls:=.type "set",dict:=none,data:=.set es ep t }/\ElemsOf (strKind prog w) es.toList/\(∀ k,k∈σ ↔ ∃ e∈es.toList,(strKind prog w).is k e.2=true)/\es.size=σ.length/\σ.Nodup /\
  σ.length<scanBound/\t.fits es.size=true/\Good t led
def Gf (σ:List Str) (k:Str):List Str:=if k∈σ then σ else σ++[k]
section
variable {w:World} {σ:List Str} {k:Str} {tk:Tok}
theorem nH {Q:Bool->Shared->Prop} (hS:Jj prog w s.heap a led σ) (room:σ.length+1<scanBound)
  (h:∀ b h',Heap.SameBut a s.heap h'->Jj prog w h' a led (Gf σ k)->Q b { s with heap:=h' }):wpAny (model prog w) A (setAddHashed a (.str k tk) ((strKind prog w).hash k)) Q E s:=by
 obtain⟨B,ep,t,N,U,i,hn,nd,hb,hf,g⟩:=hS
 have n:(strKind prog w).is k (.str k tk)=true:=strKind_is _ _ _ _
 have an:B.size<scanBound:=by rw[hn];exact hb
 unfold setAddHashed setAddHashedIn
 refine wpAny_holding (wpAny_bind (wpAny_setState_of N rfl hf ?_))
 dsimp only
 rw[byScan_of rfl an U,if_pos rfl]
 unfold setAddByScan
 refine wpAny_bind (wpAny_bind (wpAny_rule (wpAny_bind (wpAny_setScan_of n N rfl hf U ?_))))
 cases hr:List.findIdx? (λe=>(strKind prog w).is k e.2) B.toList with
 | some j =>
  obtain⟨hj,ab,_⟩:=List.findIdx?_eq_some_iff_getElem.mp hr
  have Y:k∈σ:=(i k).mpr ⟨_,et hj,ab⟩
  refine wpAny_pure (wpAny_pure ?_)
  have:=h false s.heap (Heap.SameBut.refl a s.heap) (by unfold Gf;rw[if_pos Y];exact⟨B,ep,t,N,U,i,hn,nd,hb,hf,g⟩)
  exact this
 | none =>
  have Y:k ∉ σ:=λq=>by
   obtain⟨e,O,C⟩:=(i k).mp q
   have:=List.findIdx?_eq_none_iff.mp hr e O
   rw[C] at this
   cases this
  dsimp only
  have D:=layNew_perm t B ((strKind prog w).hash k) (.str k tk)
  have X:=layNew_fits t B ((strKind prog w).hash k) (.str k tk)
  have W:=Xr g B ((strKind prog w).hash k) (.str k tk)
  generalize layNew t B ((strKind prog w).hash k) (.str k tk)=L at D X W |-
  obtain⟨c,T,wd,MB⟩:=L
  dsimp only at D X W |-
  rw[Array.toList_push] at D
  have M:ElemsOf (strKind prog w) c.toList:=(U.push n rfl).perm D
  have I:c.size=(σ++[k]).length:=by
   have:=D.length_eq
   simp only[List.length_append,Array.length_toList,List.length_singleton] at this
   simp only[List.length_append,List.length_singleton]
   omega
  have J:∀ o,o∈σ++[k] ↔ ∃ e∈c.toList,(strKind prog w).is o e.2=true:=λo=>by
   have:=mem_push_iff (knd:=strKind prog w) (S:=λo=>decide (o∈σ)) n (λo=>by rw[decide_eq_true_eq];exact i o) D o
   rw[<-this]
   simp
  have ac:(σ++[k]).Nodup:=List.nodup_append.mpr ⟨nd,by simp,λx hx y hy=>by
   rw[av.mp hy]
   intro q
   exact Y (q ▸ hx)⟩
  have G:(σ++[k]).length<scanBound:=by simp only[List.length_append,List.length_singleton];exact room
  have v:c.size<scanBound:=by rw[I];exact G
  have fin:∀ (p:Array (Int × Value)) (d:SetTable) (SO:Nat) (K:Heap),Heap.SameBut a s.heap K->K.get? a=some { cls:=.type "set",dict:=none,data:=.set p SO d }->p.toList.Perm c.toList->d.fits p.size=true->Good d led ->
    Q true { s with heap:=K }:=λp d SO K sb e2 V P F=>by
   refine h true K sb ?_
   unfold Gf
   rw[if_neg Y]
   refine⟨p,SO,d,e2,M.perm V,λo=>(J o).trans ⟨λ⟨e,O,q⟩=>⟨e,V.mem_iff.mpr O,q⟩,λ⟨e,O,q⟩=>⟨e,V.mem_iff.mp O,q⟩⟩,?_,ac,G,P,F⟩
   rw[<-Array.length_toList,V.length_eq,Array.length_toList,I]
  have tail:∀ (d:SetTable),d.fits c.size=true->Good d led->wpAny (model prog w) A (do
    storeSet a c d
    if (!wd && d.tooFull)=true then do
      (match (relayAll d c (SetTable.grown c.size)).2.2 with | true=>rule "set.scan.the-table-gave-way" | false=>pure ())
      storeSet a (relayAll d c (SetTable.grown c.size)).1 (relayAll d c (SetTable.grown c.size)).2.1
      pure (some true)
     else pure (some true)) (λr z=>match r with | some b=>Q b z | none=>False) E s:=λd P F=>by
   refine wpAny_bind (wpAny_storeSet_of N rfl ?_ (fits_of_scanBound v))
   have UU:=Heap.SameBut.update s.heap a (Obj.putSet c d)
   have e1:=Te (es':=c) (t':=d) N
   split
   ·have C:=relayAll_perm d c (SetTable.grown c.size)
    have Z:=relayAll_fits d c (SetTable.grown c.size)
    have hg:=Qs F c (SetTable.grown c.size)
    generalize relayAll d c (SetTable.grown c.size)=R at C Z hg |-
    obtain⟨p,t3,gv⟩:=R
    dsimp only at C Z hg |-
    have ap:p.size<scanBound:=by rw[<-Array.length_toList,C.length_eq,Array.length_toList];exact v
    have u:wpAny (model prog w) A (do storeSet a p t3;pure (some true)) (λr z=>match r with | some b=>Q b z | none=>False) E { s with heap:=s.heap.update a (Obj.putSet c d) }:=by
     refine wpAny_bind (wpAny_storeSet_of e1 rfl ?_ (fits_of_scanBound ap))
     exact wpAny_pure (fin p t3 _ _ (UU.trans (Heap.SameBut.update _ a _)) (Te e1) C Z hg)
    cases gv
    ·exact wpAny_bind (wpAny_pure u)
    ·exact wpAny_bind (wpAny_rule u)
   ·exact wpAny_pure (fin c d _ _ UU e1 (List.Perm.refl _) P F)
  have m:∀ (d:SetTable),d.fits c.size=true->Good d led->wpAny (model prog w) A (do
    storeSet a c d
    if (!wd && d.tooFull)=true then do
      (match (relayAll d c (SetTable.grown c.size)).2.2 with | true=>rule "set.scan.the-table-gave-way" | false=>pure ())
      storeSet a (relayAll d c (SetTable.grown c.size)).1 (relayAll d c (SetTable.grown c.size)).2.1
      pure (some true)
     else pure (some true)) (λr z=>wpAny (model prog w) A (match r with | some f=>pure f | none=>setAddHashedIn a (.str k tk) ((strKind prog w).hash k) 99999) Q E z) E s:=λd P F =>
   wpAny_mono (tail d P F) (λr z q=>by
    cases r with
    | none=>exact q.elim
    | some b=>exact wpAny_pure q) λ_ _ e=>e
  have H:wpAny (model prog w) A (do
    let l <-if T.plain then hashByValue 8 (.str k tk) else pure true
    let d:=if l=true then T else { T with plain:=false }
    storeSet a c d
    if (!wd && d.tooFull)=true then do
      (match (relayAll d c (SetTable.grown c.size)).2.2 with | true=>rule "set.scan.the-table-gave-way" | false=>pure ())
      storeSet a (relayAll d c (SetTable.grown c.size)).1 (relayAll d c (SetTable.grown c.size)).2.1
      pure (some true)
     else pure (some true)) (λr z=>wpAny (model prog w) A (match r with | some f=>pure f | none=>setAddHashedIn a (.str k tk) ((strKind prog w).hash k) 99999) Q E z) E s:=by
   split
   ·rw[hashByValue_scannable 8 rfl]
    exact wpAny_bind (wpAny_pure (m { T with plain:=false } X ⟨W.led,λh=>by cases h⟩))
   ·exact wpAny_bind (wpAny_pure (m T X W))
  cases MB
  ·exact wpAny_bind (wpAny_pure H)
  ·exact wpAny_bind (wpAny_rule H)
end
inductive StrsAre:List Value->List Str->Prop
 | nil:StrsAre [] []
 | cons (z:Str) (t:Tok) {us:List Value} {zs:List Str}:StrsAre us zs->StrsAre (.str z t::us) (z::zs)
theorem StrsAre.length:∀ {us:List Value} {zs:List Str},StrsAre us zs->us.length=zs.length
 | _,_,.nil=>rfl
 | _,_,.cons z t r=>congrArg (· + 1) r.length
theorem StrsAre.YK:∀ {us:List Value} {zs:List Str},StrsAre us zs->∀ (i:Nat) (v:Value),us[i]? = some v->∃ t,v=.str (zs.getD i "") t
 | _,_,.nil,i,v,h=>by simp at h
 | _,_,.cons z t r,0,v,h=>by simp at h;exact⟨t,h.symm⟩
 | _,_,.cons z t r,i+1,v,h=>by
  have a:_:=h
  rw[List.getElem?_cons_succ] at a
  obtain⟨b,e⟩:=r.YK i v a
  exact⟨b,by rw[e];rfl⟩
theorem Jj.keep {w:World} {σ:List Str} (g:Jj prog w h a led σ) (k:∀ o,h.get? a=some o->h'.get? a=some o):Jj prog w h' a led σ :=
 let ⟨b,c,t,e,r⟩:=g;⟨b,c,t,k _ e,r⟩
theorem X3 (σ:List Str) (k:Str):(Gf σ k).length<=σ.length+1:=by
 unfold Gf
 split
 ·omega
 ·simp
theorem Ms:∀ (ns:List Str) (σ:List Str),(ns.foldl Gf σ).length<=σ.length+ns.length
 | [],σ=>by simp
 | k::ns,σ=>by
  have b:=Ms ns (Gf σ k)
  have a:=X3 σ k
  simp only[List.foldl_cons,List.length_cons]
  omega
section
variable {w:World} {R:Result->Shared->Prop} {I:Addr} {wr:List Addr} {G:Array GenState->Array GenState->Prop} {P:Nat->Value->Prop} {St:Nat->Shared->Prop}
theorem iT (W:WalksS prog w A.in1 I fp wr G n P St) (S:Addr) (a:S ∉ fp) (ns:List Str) (L:ns.length=n) (C:∀ i v,P i v->∃ t,v=.str (ns.getD i "") t) (c:n+1<scanBound) :
  ∀ (k i:Nat) (s:Shared),n - i=k->i<=n->St i s->Jj prog w s.heap S led ((ns.take i).foldl Gf []) ->
   (∀ s',Moved (S::wr) G s s'->Jj prog w s'.heap S led (ns.foldl Gf [])->R (.ok (.ret .none)) s')->codeAny (model prog w) A (.builtin "set.update.loop" ⟨[.ref S,.ref I],[]⟩) R s:=by
 have f:S ∉ wr:=λz=>a (W.sub _ z)
 have up:∀ b∈wr,b∈S::wr:=λb z=>bq _ z
 intro k
 induction k with
 | zero =>
  intro i s E r st g d
  obtain rfl:i=n:=by omega
  refine codeAny_builtin F.entry_set_update_loop ?_
  rw[Around.under_plainId F.plain_set_update_loop _]
  refine wpAny_bind (W.done s _ _ st λs' m=>wpAny_pure (d s' (m.mono up) ?_))
  rw[gg (by omega)] at g
  exact g.keep λo e=>m.heap S o f e
 | succ k x =>
  intro i s E r st g d
  have lt:i<n:=by omega
  refine codeAny_builtin F.entry_set_update_loop ?_
  rw[Around.under_plainId F.plain_set_update_loop _]
  refine wpAny_bind (W.item i s _ _ lt st λv s' p J m=>?_)
  obtain⟨t,rfl⟩:=C i v p
  have q:=g.keep (h':=s'.heap) λo e=>m.heap S o f e
  refine wpAny_bind (wpAny_holding (wpAny_holding (wpAny_bind ((strKind prog w).pyHash (k:=ns.getD i "") (strKind_is _ _ _ _) ?_))))
  have room:((ns.take i).foldl Gf []).length+1<scanBound:=by
   have:=Ms (ns.take i) []
   rw[cm] at this
   simp at this
   omega
  have y:ns.take (i+1)=ns.take i++[ns.getD i ""]:=by
   have h:i<ns.length:=by omega
   rw[cy,ae h]
   simp[h]
  refine nH (s:={ s' with toks:=s'.toks+1 }) q room λb l j K=>?_
  have H:Jj prog w l S led ((ns.take (i+1)).foldl Gf []):=by
   rw[y,kz]
   exact K
  refine wpAny_pure ⟨plainId_quiet F.plain_set_update_loop _,x (i+1) _ (by omega) lt (W.frame _ s' _ _ J (iP _) λb c o e=>?_) H λD B u=>?_⟩
  ·rw[j.2 b (λz:b=S=>a (z ▸ c))]
   exact e
  ·refine d D (Moved.trans W.gtrans ((m.mono up).then_heap (iP _) λb o c e=>?_) B) u
   rw[j.2 b (λz:b=S=>c (by rw[z];exact ce))]
   exact e
end
section
variable {w:World}
theorem ZW (h:Heap):Jj prog w (h.push { cls:=.type "set",dict:=none,data:=.set #[] 0 (.fresh 0 0 (Eo w)) }) h.objs.size (Eo w) [] :=
 ⟨#[],0,_,Heap.get?_push_size _ rfl,λe a=>by simp at a,λk=>by simp,rfl,.nil,by decide,by rfl,RB _⟩
set_option maxHeartbeats 4000000 in
theorem qF {l:Addr} {f:Array Value} (Z:A.handled=none) (hl:s.heap.IsTuple l f) (hi:StrsAre f.toList ns) (hb:ns.length+1<scanBound)
  (h:∀ h' tk,Jj prog w h' s.heap.objs.size (Eo w) (ns.foldl Gf [])->(∀ b o,s.heap.get? b=some o->h'.get? b=some o)->Q (.ref s.heap.objs.size) { s with heap:=h',toks:=tk }) :
  wpAny (model prog w) A (call (.type "set") [.ref l]) Q E s:=by
 obtain⟨c,tl,Fn⟩:=F.called_set.mro
 have U1:=F.called_set.made
 have J:=F.called_set.sub
 have d:f.size=ns.length:=by rw[<-StrsAre.length hi];simp
 refine wpAny_call (codeAny_of_tree ?_)
 show wpAny _ _ (callAny (.type "set") _) _ _ _
 refine wpAny_pure ⟨Code.quiet_builtin _ (by decide),codeAny_builtin F.entry_type_call ?_⟩
 rw[Around.under_plain (weight_type_call_type "set" [.ref l] []) rfl]
 have h1:=F.called_set.notType
 have h2:=F.called_set.canCreate
 have WV:=F.typeCall_set_1 (.ref l)
 repeat (any_goals (first | assumption | wp_step))
 refine codeAny_mono (j6 (.ref l) (E:=E) (Q1:=λa y=>a=.ref s.heap.objs.size/\y = { s with heap:=s.heap.push { cls:=.type "set",dict:=none,data:=.set #[] 0 (.fresh 0 0 (Eo w)) } }) ⟨rfl,rfl⟩) λr y n=>?_
 rcases r with e | K
 ·exact n
 obtain⟨a,rfl,n⟩:∃ a,K=.ret a/\(a=.ref s.heap.objs.size/\y = { s with heap:=s.heap.push { cls:=.type "set",dict:=none,data:=.set #[] 0 (.fresh 0 0 (Eo w)) } }):=by
  cases K with
  | ret v=>exact⟨v,rfl,n⟩
  | _=>exact n.elim
 obtain⟨rfl,rfl⟩:=n
 have S:(s.heap.push { cls:=.type "set",dict:=none,data:=.set #[] 0 (.fresh 0 0 (Eo w)) }).get? s.heap.objs.size=some { cls:=.type "set",dict:=none,data:=.set #[] 0 (.fresh 0 0 (Eo w)) }:=Heap.get?_push_size _ rfl
 have hT:Shared.TypeIs { s with heap:=s.heap.push { cls:=.type "set",dict:=none,data:=.set #[] 0 (.fresh 0 0 (Eo w)) } } (.ref s.heap.objs.size) "set":=⟨_,S,rfl⟩
 have PZ:=F.called_set.init.lookup
 have L1:=F.called_set.init.bind (.ref s.heap.objs.size)
 repeat (any_goals (first | assumption | wp_step))
 refine codeAny_mono (codeAny_call_builtin (R:=wants (λr B=>r=.none/\∃ h' tk,B = { s with heap:=h',toks:=tk }/\Jj prog w h' s.heap.objs.size (Eo w) (ns.foldl Gf [])/\∀ b o,s.heap.get? b=some o->h'.get? b=some o) E)
  F.called_set.init.plain F.entry_set_init (check_set_init_1 hT ?_)) λr2 B u=>?_
 ·obtain⟨U,M,j,H,G⟩:=hl
  obtain⟨I,FO,VO,B4⟩:=U
  simp only at j G
  subst j;subst G
  have t:(s.heap.push { cls:=.type "set",dict:=none,data:=.set #[] 0 (.fresh 0 0 (Eo w)) }).get? l=some { cls:=.type "tuple",dict:=FO,data:=.seq f H,slots:=B4 }:=Heap.get?_push_of_some _ M
  have N:=F.sub_tuple_set
  have O:=F.sub_tuple_frozenset
  have T:(Value.type "tuple" == Value.type "dict")=false:=by decide
  have k:(s.heap.push { cls:=.type "set",dict:=none,data:=.set #[] 0 (.fresh 0 0 (Eo w)) }).IsTuple l f:=⟨_,t,rfl,H,rfl⟩
  unfold Builtin.«set.__init__» noKeywords Builtin.Frozenset.updateFrom
  generalize x:pyIter=PI
  wp_walk
  subst x
  refine wpAny_pyIter_tuple k (wpAny_bind (wpAny_runValue ?_))
  have D:l<s.heap.objs.size:=Heap.lt_size M
  have h3:A.in1.in1.in1.handled=none:=by simp[Z]
  have V:l ≠ (s.heap.push { cls:=.type "set",dict:=none,data:=.set #[] 0 (.fresh 0 0 (Eo w)) }).objs.size:=by
   rw[Heap.size_push]
   exact cf (gz D)
  have nf:s.heap.objs.size ∉ [(s.heap.push { cls:=.type "set",dict:=none,data:=.set #[] 0 (.fresh 0 0 (Eo w)) }).objs.size,l]:=by
   rw[Heap.size_push]
   intro z
   rcases ci.mp z with q | q
   ·exact absurd q (cf (fF _))
   ·exact absurd (av.mp q) (hV D)
  refine iT ((Walks.tuple h3 _ l V f).toS) s.heap.objs.size nf ns d.symm (λi v W=>StrsAre.YK hi i v (by rw[Array.getElem?_toList];exact W)) (by rw[d];exact hb) (f.size - 0) 0 _ rfl (dL _)
   ⟨⟨_,Heap.get?_push_size _ rfl,rfl,rfl⟩,(k.push _)⟩ ((ZW s.heap).keep λo e=>Heap.get?_push_of_some _ e) λs' m g=>?_
  obtain⟨h',Y,X,C,P⟩:=s'
  obtain rfl:Y=s.gens:=m.gens
  obtain rfl:X=s.drawn:=m.drawn
  obtain rfl:P=s.os:=m.os
  show wpAny _ _ _ _ _ _
  refine wpAny_pure ?_
  show wpAny _ _ (ret Value.none) _ _ _
  refine wpAny_pure ⟨rfl,h',C,rfl,g,λb o e=>?_⟩
  have L:=Heap.lt_size e
  refine m.heap b o (λz=>?_) (Heap.get?_push_of_some _ (Heap.get?_push_of_some _ e))
  rcases ci.mp z with q | q
  ·exact absurd q (cf L)
  ·have:=av.mp q
   rw[Heap.size_push] at this
   exact absurd this (cf (gz L))
 ·rcases r2 with e | p
  ·exact u
  obtain⟨r,rfl,u⟩:∃ r,p=.ret r/\(r=.none/\∃ h' tk,B = { s with heap:=h',toks:=tk }/\Jj prog w h' s.heap.objs.size (Eo w) (ns.foldl Gf [])/\∀ b o,s.heap.get? b=some o->h'.get? b=some o):=by
   cases p with
   | ret v=>exact⟨v,rfl,u⟩
   | _=>exact u.elim
  obtain⟨rfl,h',tk,rfl,g,hk⟩:=u
  repeat (any_goals (first | assumption | wp_step))
  exact h _ _ g hk
end
end Ws
namespace L2
open PySem PySem.Spec PyProof.Rows
def Pg (P:Program) (w:World) (a:Addr) (τ:List Str):HO:=.ext λh=>Ws.Jj P w h a (Wd.Eo w) τ
theorem Xi {w:World} {τ:List Str} (g:Ws.Jj P w h a (Wd.Eo w) τ):CT P w H h a (Pg P w a τ) :=
 ⟨g,(let ⟨_,_,_,e,_⟩:=g;⟨_,e⟩),λ_ _ g k=>g.keep k⟩
theorem M7:∀ {ts:List Str} {us:List Value},Vals (ts.map V.str) us->Ws.StrsAre us ts
 | [],_,r=>by cases r;exact .nil
 | n::ns,_,r=>by
  cases r with
  | cons r t =>
   obtain⟨a,rfl⟩:=r
   exact .cons n a (M7 t)
theorem U4 (e:X.calm=true):Fd X (.type "set") (λxs H Q=>∃ (l:Addr) (ts:List Str),xs=[V.ref l]/\HW X.K H l (ts.map V.str)/\ts.length<=1000/\∀ p,H p=none->Q (.ref p) (upd H p (Pg X.prog X.w p (ts.foldl Ws.Gf [])))):=by
 intro n s σ H xs t Q I r h
 obtain⟨l,ts,rfl,b,o,q⟩:=h
 obtain⟨u,rfl,d⟩:=vals1 r
 cases d
 obtain⟨f,a,i,_⟩:=I.tuple b
 have j:H s.heap.objs.size=none:=I.hok.fresh (ah _)
 refine Ws.qF (I.ok.hd e) i (by simpa using M7 a) (by unfold scanBound;omega) λm c g k=>?_
 exact⟨.ref s.heap.objs.size,_,I.laid (t':=c) k (ah _) (Xi g),rfl,q _ j⟩
theorem L_:Fd X (.builtin "len") (λxs H Q=>∃ (a:Addr) (τ:List Str),xs=[V.ref a]/\H a=some (Pg X.prog X.w a τ)/\Q (.int (τ.length:Nat)) H):=by
 intro n s σ H xs p Q I r h
 obtain⟨a,τ,rfl,d,q⟩:=h
 obtain⟨u,rfl,e⟩:=vals1 r
 cases e
 obtain⟨⟨b,j,t,g,l,m,i,o,f,c,k⟩,_,_⟩:=(show CT X.prog X.w H s.heap a (Pg X.prog X.w a τ) from I.hok a _ d)
 unfold scanBound at f
 refine call_len_set g ⟨rfl,rfl,rfl⟩ rfl c (by omega) ⟨.int ((b.size:Nat):Int),H,I.tok _,⟨_,rfl⟩,?_⟩
 rw[i]
 exact q
theorem M8:∀ (ts τ:List Str),(τ++ts).Nodup->(ts.foldl Ws.Gf τ)=τ++ts
 | [],τ,_=>(eD _).symm
 | t::ts,τ,h=>by
  have a:t ∉ τ:=λz=>by
   rw[iS] at h
   exact h.2.2 t z t (ce ..) rfl
  rw[List.foldl_cons]
  have e:Ws.Gf τ t=τ++[t]:=by unfold Ws.Gf;rw[if_neg a]
  rw[e,M8 ts (τ++[t]) (by rw[gd];exact h),gd]
  rfl
end L2
namespace Og
open PySem L2
theorem Yj {K:W.Frag} {f:Str} (c:X.K=K) (b:PE X e ta) (a:attributeBase e f X.env (eval e X.env)=eval e X.env):PE X (.Attribute e f pos) (kE K ta f):=by
 rw[<-c]
 exact Bc b a
structure eF (K:W.Frag) (aM:Addr) (ρ:V->R) (vs:List V) (r:R):Prop where
 w:r.w = "step"
 ts:∃ ts:List Str,V.str r.nm::r.rest=ts.map V.str/\ts.Nodup/\ts.length<=24/\∀ t∈ts,isNm t/\Yh ρ vs "stop" t=true
 room:∃ (m:Int) (t:Tok),W.nsIn K aM r.w=some (some (.int m t))/\(((vs.filter (pw ρ r.w)).length:Nat):Int)<m
abbrev Hs (K:W.Frag) (aB aP aM:Addr) (ρ:V->R) (vs:List V) (r:R):Prop:=Jy K aB aP aM ρ vs r \/ eF K aM ρ vs r
theorem Hs.room {K:W.Frag} (h:Hs K aB aP aM ρ vs r):W.nsIn K aM r.w=some none \/ ∃ (m:Int) (t:Tok),W.nsIn K aM r.w=some (some (.int m t))/\(((vs.filter (pw ρ r.w)).length:Nat):Int)<m :=
 h.elim (λh=>h.room.elim (λz=>.inl z.2) .inr) (λh=>.inr h.room)
def Oc (r:R):List Str:=(V.str r.nm::r.rest).map λv=>match v with | .str t=>t | _=>""
theorem KC {a:List Str} (h:V.str r.nm::r.rest=a.map V.str):Oc r=a:=by
 unfold Oc
 rw[h,aE]
 exact ic a
def stN (ks:List R) (r:R):Nat:=Wd.mk ((Oc r).map λt=>(ks.map (·.nm)).idxOf t)
structure vP (K:W.Frag) (aB aP aM:Addr) (ρ:V->R) (us:List V) (bs:List (Str × Nat)) (rk:List (Str × Nat × Int)) (ks:List R):Prop where
 eb:(us.filter (pw ρ "board")).map ρ=bs.map Ef
 er:(us.filter (pw ρ "rank")).map ρ=rk.map FN
 ek:(us.filter (λv=>Gw (ρ v).w)).map ρ=ks
 ln:∀ (i:Nat) v,us[i]? = some v->(ρ v).w = "line"->(∃ (j:Nat) (r:Str × Nat × Int) (sh lo hi:Int),rk[j]? = some r/\r.1=(ρ v).nm/\(ρ v).rest=[.int sh,.int lo,.int hi])/\∃ u∈us.take i,Gw (ρ u).w=true
 st:∀ v∈us,(ρ v).w = "step"->∃ ts:List Str,V.str (ρ v).nm::(ρ v).rest=ts.map V.str/\ts.length<=24/\∀ t∈ts,t∈ks.map (·.nm)
 b0:1<=bs.length
 b5:bs.length<=5
 sz:∀ b∈bs,b.2<=61
 nr:rk.length<=12
 nz:∀ r∈rk,r.2.1<=97
 nk:ks.length<=100
 nb:(bs.map (·.1)).Nodup
 nrr:(rk.map (·.1)).Nodup
 nn:(ks.map (·.nm)).Nodup
 len:us.length<=150
 ok:∀ (i:Nat) v,us[i]? = some v->Hs K aB aP aM ρ (us.take i) (ρ v)
inductive qj (C:Addr) (H:Hp) (x:Addr) (us:List V) (bs:List (Str × Nat)) (rk:List (Str × Nat × Int)) (ks:List R) (ls:List (List Ln)) (sts:List Nat):Prop
 | mk (dx:Addr) (fs:List (Str × V)) (rl kd ss:Addr) (kvs:List (Key × V)) (q1:H x=some (.ins C dx fs)) (q2:fs.lookup ("row_list" : Str)=some (.ref rl)) (q3:fs.lookup ("knob_numbers" : Str)=some (.ref kd)) (q4:fs.lookup ("step_sets" : Str)=some (.ref ss)) (q5:H rl=some (.lst us)) (q6:H kd=some (.dK kvs)) (q7:(∀ (i:Nat) t,(ks.map (·.nm))[i]? = some t->Ce kvs (Sum.inr t)=some (.int (i:Nat)))) (q8:(∀ t,t ∉ ks.map (·.nm)->Ce kvs (Sum.inr t)=none)) (q9:H ss=some (.lst (sts.map λn:Nat=>V.int (n:Int)))) (bn:Addr) (kb:List (Key × V)):fs.lookup ("board_numbers" : Str)=some (.ref bn)->H bn=some (.dK kb)->(∀ t,t ∉ bs.map (·.1)->Ce kb (Sum.inr t)=none)->qj C H x us bs rk ks ls sts
structure Ip (C:Addr) (H:Hp) (x:Addr) (us:List V) (bs:List (Str × Nat)) (rk:List (Str × Nat × Int)) (ks:List R) (ls:List (List Ln)) (sts:List Nat):Prop where
 o:El C H x bs rk ks ls
 m:qj C H x us bs rk ks ls sts
theorem Ip.mono {x:Addr} {bs:List (Str × Nat)} {rk:List (Str × Nat × Int)} (s:An H H') (h:Ip C H x us bs rk ks ls sts):Ip C H' x us bs rk ks ls sts:=by
 obtain⟨o,f,fs,p,j,g,a,i,l,r,k,e,n,t,q,v,b,c,m,u,d⟩:=h
 exact⟨o.mono s,f,fs,p,j,g,a,s _ _ i,l,r,k,s _ _ e,s _ _ n,t,q,s _ _ v,b,c,m,s _ _ u,d⟩
inductive Dz (p:Addr) (H:Hp) (D:Addr) (ls:List (List Ln)):Prop
 | mk (lv:_):H D=some (.lst lv)->D ≠ p->Paired (λl v=>G7 H l v/\v ≠ .ref p) ls lv->Dz p H D ls
theorem Dz.mono (s:An H H') (h:Dz p H D ls):Dz p H' D ls:=by
 obtain⟨b,d,c,a⟩:=h
 exact⟨b,s _ _ d,c,Paired.J3 a λ_ _ q=>⟨q.1.mono s,q.2⟩⟩
theorem Dz.sx {x:Addr} {fs:List (Str × V)} (h:Dz p H D ls) (s:SX x H H') (a:H x=some (.ins C dx fs)):Dz p H' D ls:=by
 obtain⟨d,j,f,c⟩:=h
 refine⟨d,s.lst a j,f,Paired.J3 c λ_ _ q=>⟨?_,q.2⟩⟩
 obtain⟨A,b,e,i,g⟩:=q.1
 exact⟨A,b,e,s.lst a i,s.pair a g⟩
theorem Vo {a:List V} (s:SX p H H') (b:H p=some (.lst us)) (h:TupAt H a y):TupAt H' a y:=by
 obtain⟨T,rfl,e⟩:=h
 exact⟨T,rfl,s _ _ e λz=>by rw[z,b] at e;cases e⟩
theorem JT {α:Type} {f:α->List V} {l:List α} (s:SX p H H') (b:H p=some (.lst us)) (h:Paired (λa y=>TupAt H (f a) y) l vs):Paired (λa y=>TupAt H' (f a) y) l vs:=Paired.J3 h λ_ _ q=>Vo s b q
theorem Rq (s:SX p H H') (b:H p=some (.lst us)) (h:H a=some (.dK kvs)):H' a=some (.dK kvs):=s _ _ h λz=>by rw[z,b] at h;cases h
theorem Dz.sp (h:Dz p H D ls) (s:SX p H H') (b:H p=some (.lst us)):Il H' D ls:=by
 obtain⟨d,j,e,c⟩:=h
 refine⟨d,s _ _ j e,Paired.J3 c λ_ v q=>?_⟩
 obtain⟨⟨A,a,rfl,g,f⟩,i⟩:=q
 exact⟨A,a,rfl,s _ _ g (λz=>i (by rw[z])),JT s b f⟩
end Og
namespace L2
open PySem PySem.Spec PyProof.Rows
open PySem PySem.Spec PySem.Calls PyProof.Rows
inductive aO (h:Heap) (x T C:Addr) (od:Option Addr) (fl:Value):Prop
 | mk (vs ts:Array Value) (sl:Array (Option Value:_)) (oT:Obj):h.get? x=some ⟨.ref C,od,.fields vs,sl⟩->vs[1]? = some (.ref T)->T ≠ x->h.get? T=some oT->oT.data=.fields ts->ts[3]? = some fl->aO h x T C od fl
structure Mv (fs:List Addr) (x T:Addr) (h h':Heap):Prop where
 keep:∀ b o,h.get? b=some o->b ≠ x->b ≠ T->b ∉ fs->h'.get? b=some o
 any:∀ b o,h.get? b=some o->b ≠ x->b ≠ T->∃ sl,h'.get? b=some { o with slots:=sl }
section
variable {M:Model} {env:Env} {outer:List Env} {L x T:Addr} {od:Option Addr} {Q:Unit->Shared->Prop}
theorem K9 {vs:Array Value} {k:Array (Option Value)} {head:Value} {z:Bool} (r:A.frames=some (env::outer)) (v:s.heap.FunFrames base (env::outer)) (F:env.frame=some L)
  (t:s.heap.get? x=some ⟨.ref C,od,.fields vs,k⟩) (hsz:1<vs.size)
  (h:∀ h' T',aO h' x T' C od (rawInt L)->Mv (frs (env::outer)) x x s.heap h'->s.heap.get? T'=none->Q () { s with heap:=h' }) :
  wpAny M A (do let a <-frameOf env;let pl <-entryPlaceOf L z;let b <-EntryCells.newEntry head a .none (rawInt L) .none pl;setField (.ref x) 1 b) Q E s:=by
 have f:x ∉ (env::outer).filterMap (·.frame):=λD=>by
  obtain⟨_,o,i,y⟩:=v.mem D
  rw[t] at i;injection i with i;subst i;exact y vs rfl
 refine wpAny_bind (wpAny_frameOf_fun r v F λc j=>?_)
 refine wpAny_bind (wpAny_entryPlaceOf λpl g=>?_)
 unfold EntryCells.newEntry newFields
 refine wpAny_bind (wpAny_newObj_type ?_ (g.sizeOk5 _ _ _ _ _))
 have d:c.get? x=some ⟨.ref C,od,.fields vs,k⟩:=(j.2.1 x f).trans t
 have u:=Heap.get?_push_of_some (h:=c) { cls:=.type "traceback",dict:=none,data:=.fields ([head,.ref L,.none,rawInt L,.none]++(if pl.isEmpty then List.replicate 6 Value.none else pl)).toArray } d
 refine wpAny_setField u rfl hsz ?_
 have e:c.objs.size ≠ x:=hV (Heap.lt_size d)
 have q:=Obj.data_mapFields (o:=⟨.ref C,od,.fields vs,k⟩) rfl (·.setIfInBounds 1 (Value.ref c.objs.size))
 have n:=Heap.get?_update_self (Obj.mapFields (·.setIfInBounds 1 (Value.ref c.objs.size))) u (Obj.isFreed_of_fields q)
 have p:=(Heap.get?_update_other (c.push { cls:=.type "traceback",dict:=none,data:=.fields ([head,.ref L,.none,rawInt L,.none]++(if pl.isEmpty then List.replicate 6 Value.none else pl)).toArray })
  (Obj.mapFields (·.setIfInBounds 1 (Value.ref c.objs.size))) (Ne.symm e)).trans (Heap.get?_push_size c rfl)
 refine h _ c.objs.size ⟨_,_,k,_,n,by simp[hsz],e,p,rfl,by first | (simp;done) | (rcases g with rfl | ⟨_,_,_,_,_,_,_,rfl⟩ <;> simp)⟩ ⟨λb o m l _ G=>?_,λb o m l _=>?_⟩ ?_
 ·rw[Heap.get?_update_other _ _ (Ne.symm l)]
  exact Heap.get?_push_of_some _ ((j.2.1 b G).trans m)
 ·obtain⟨w,B⟩:=j.2.2 b o m
  rw[Heap.get?_update_other _ _ (Ne.symm l)]
  exact⟨w,Heap.get?_push_of_some _ B⟩
 ·refine Heap.get?_none_of_le ?_
  rw[j.1]
  exact ah _
theorem Rb {vs:Array Value} {e:Array (Option Value)} (a:A.frames=some (env::outer)) (f:s.heap.FunFrames base (env::outer)) (c:env.frame=some L)
  (b:s.heap.get? x=some ⟨.ref C,od,.fields vs,e⟩) (d:vs[1]? = some .none)
  (h:∀ h' T',aO h' x T' C od (rawInt L)->Mv (frs (env::outer)) x x s.heap h'->s.heap.get? T'=none->Q () { s with heap:=h' }):wpAny M A (noteFrame (.ref x) env) Q E s:=by
 unfold noteFrame
 simp only[c]
 refine wpAny_bind (wpAny_field b rfl d ?_)
 rw[if_neg (by decide)]
 exact K9 a f c b (Array.getElem?_eq_some_iff.mp d).1 h
theorem TQ (l:A.frames=some (env::outer)) (H:s.heap.FunFrames base (env::outer)) (D:env.frame=some L) (F:aO s.heap x T C od .none)
  (h:∀ h' T',aO h' x T' C od (rawInt L)->Mv (frs (env::outer)) x T s.heap h'->s.heap.get? T'=none->Q () { s with heap:=h' }):wpAny M A (noteFrame (.ref x) env) Q E s:=by
 obtain⟨u,G,K,N,w,v,k,i,g,B⟩:=F
 have f:=(Array.getElem?_eq_some_iff.mp B).1
 unfold noteFrame
 simp only[D]
 refine wpAny_bind (wpAny_field w rfl v ?_)
 rw[if_pos (show (Value.ref T != Value.none)=true from by simp)]
 refine wpAny_bind (wpAny_field i g B ?_)
 rw[if_neg (show ¬ ((Value.none == rawInt L)=true) from by simp[rawInt])]
 refine wpAny_bind (wpAny_setField i g f ?_)
 have a:∀ b,b ≠ T->(s.heap.update T (Obj.mapFields (·.setIfInBounds 3 Value.none))).get? b=s.heap.get? b:=λb c=>Heap.get?_update_other _ _ (Ne.symm c)
 have r:=Heap.get?_update_self (Obj.mapFields (·.setIfInBounds 3 Value.none)) i (Obj.isFreed_of_fields (Obj.data_mapFields g _))
 have d:∀ b o,s.heap.get? b=some o->(∀ u,o.data ≠ .fields u)->b ≠ T:=λb o c j q=>by
  rw[q,i] at c;injection c with c;subst c;exact j G g
 refine K9 (s:={ s with heap:=s.heap.update T (Obj.mapFields (·.setIfInBounds 3 Value.none)) }) l (H.of_keeps λb o c j=>⟨o,(a b (d b o c j)).trans c,rfl⟩) D ((a x (Ne.symm k)).trans w) (Array.getElem?_eq_some_iff.mp v).1 λh' T' y m n=>?_
 have J:T' ≠ T:=λz=>by
  subst z
  have t:(s.heap.update T' (Obj.mapFields (·.setIfInBounds 3 Value.none))).get? T'=none:=n
  rw[r] at t;cases t
 exact h h' T' y ⟨λb o c e p I=>m.keep b o ((a b p).trans c) e e I,λb o c e p=>m.any b o ((a b p).trans c) e e⟩ ((a T' J).symm.trans n)
theorem GR {q:Value} (m:aO s.heap x T C od q) (h:∀ h',aO h' x T C od .none->Mv [] x T s.heap h'->Q () { s with heap:=h' }):wpAny M A (setFlight (.ref x) none) Q E s:=by
 obtain⟨n,p,r,u,l,k,d,j,g,t⟩:=m
 have c:3<p.size:=(Array.getElem?_eq_some_iff.mp t).1
 have a:∀ b,b ≠ T->(s.heap.update T (Obj.mapFields (·.setIfInBounds 3 ((none:Option Addr).elim Value.none λf=>rawInt f)))).get? b=s.heap.get? b :=
  λb e=>Heap.get?_update_other _ _ (Ne.symm e)
 unfold setFlight
 refine wpAny_bind (wpAny_field l rfl k ?_)
 rw[if_pos (show (Value.ref T != Value.none)=true from by simp)]
 refine wpAny_setField j g c (h _ ?_ ⟨λb o e _ i _=>(a b i).trans e,λb o e _ i=>⟨o.slots,(a b i).trans e⟩⟩)
 exact⟨n,_,r,_,(a x (Ne.symm d)).trans l,k,d,Heap.get?_update_self _ j (Obj.isFreed_of_fields (Obj.data_mapFields g _)),Obj.data_mapFields g _,by simp[c]⟩
end
section
variable {w:World} {fs:List Addr} {h1 h2 h3:Heap} {x T T':Addr}
theorem YG {y:Addr} {o:Obj} (e:h.get? b=some o) (n:h.get? y=none):b ≠ y:=λz=>by
 rw[z,n] at e
 cases e
theorem GD.mv (k:GD P w H h) (m:Mv fs x T h h1) (d:H x=none) (n:H T=none) (j:∀ b∈fs,H b=none):GD P w H h1:=λb u e=>by
 have ne:∀ c,H c ≠ none->c ≠ x/\c ≠ T/\c ∉ fs:=λc q=>⟨λz=>q (z ▸ d),λz=>q (z ▸ n),λz=>q (j c z)⟩
 refine (k b u e).stay (λc v g q=>?_) (λ_ q=>q) λ_ _ q=>q
 have a:H c ≠ none:=by
  rcases g with z | z
  ·rw[z,e];simp
  ·rw[z];simp
 obtain⟨i,f,l⟩:=ne c a
 exact m.keep c v q i f l
theorem Un.mv {g:List Addr} (u:Un g [] H H' h h1) (m:Mv fs x T h1 h2) (k:h.get? x=none) (p:h.get? T=none) (s:∀ b∈fs,b ∉ g->h.get? b=none):Un g [] H H' h h2:=by
 have ne:∀ b o,h.get? b=some o->b ≠ x/\b ≠ T:=λb o e=>⟨YG e k,YG e p⟩
 refine⟨λb o e n f a=>?_,λb o e n f a=>?_,u.free,λb o e a=>?_,u.tups,u.frzs,u.tbls⟩
 ·obtain⟨d,c⟩:=ne b o e
  refine m.keep b o (u.keep b o e n f a) d c λz=>?_
  have:=s b z f
  rw[e] at this;cases this
 ·obtain⟨d,c⟩:=ne b o e
  obtain⟨q,j⟩:=u.slot b o e n f a
  obtain⟨l,i⟩:=m.any b _ j d c
  exact⟨l,i⟩
 ·obtain⟨d,c⟩:=ne b o e
  obtain⟨r,j⟩:=u.there b o e a
  obtain⟨q,i⟩:=m.any b r j d c
  exact⟨_,i⟩
end
def Gh (P:Program) (w:World):QT:=λouter H s E e s'=>∃ (x T C:Addr) (od:Option Addr) (H':Hp),e=.ref x/\s'.os=s.os/\AllBare s'.gens/\aO s'.heap x T C od .none/\s.heap.get? x=none/\s.heap.get? T=none /\
 H' x=none/\H' T=none/\GD P w H' s'.heap/\Un (frs outer) [] H H' s.heap s'.heap/\E (.ref C) od H'
def qT (X:Cx) (C:Addr) (E:XK):Prop:=∀ (a8:List (Addr × Obj)) (σ:St) (H:Hp) (s:Shared) (h':Heap) (x:Addr) (as:List Value),Inv X a8 σ H s->Heap.MadeExcOf s.heap h' x (.ref C) as->E (.ref C) none H->X.xe (.ref x) { s with heap:=h' }
theorem G8 {w:World} {K:W.Frag} {N:List Str} {i:Value} {a:List Env} {E:XK} :
  qT (J_ (Gh P w) P w K mg base N qual scope f i A a s H E) C E:=by
 intro a8 σ d k B x as I g q
 obtain⟨t,he,V,ht⟩:=g.there
 have c:∀ b,k.heap.get? b=none->s.heap.get? b=none:=λb e=>by
  cases z:s.heap.get? b with
  | none=>rfl
  | some o =>
   obtain⟨o',R⟩:=I.base.there b o z (by show b ∉ ([]:List Addr);simp)
   rw[e] at R;cases R
 have h:d x=none:=I.hok.none_of g.new
 have frees:∀ b∈frs (envOfC qual scope s.heap.objs.size f i::a),d b=none:=I.Ie
 have M:(A.deeper (envOfC qual scope s.heap.objs.size f i)).frames=some (envOfC qual scope s.heap.objs.size f i::a):=I.ok.frames
 have J:k.heap.FunFrames base (envOfC qual scope s.heap.objs.size f i::a):=I.stack
 have X:Un (frs a) [] H d s.heap k.heap:=I.base
 have j:GD P w d k.heap:=I.hok
 have G:∀ b∈frs (envOfC qual scope s.heap.objs.size f i::a),b ∉ frs a->s.heap.get? b=none:=λb F Y=>by
  rcases List.mem_cons.mp (show b∈s.heap.objs.size::frs a from F) with z | z
  ·rw[z];exact Heap.get?_none_of_le (ah _)
  ·exact absurd z Y
 show wpAny (model P w) (A.deeper (envOfC qual scope s.heap.objs.size f i)) (leaving (envOfC qual scope s.heap.objs.size f i) (.ref x)) _ _ _
 unfold leaving
 refine wpAny_bind (Rb (s:={ k with heap:=B }) (L:=s.heap.objs.size) M (J.of_keeps λb o F _=>⟨o,g.keeps b o F,rfl⟩) rfl he rfl λD T y m n=>?_)
 refine GR (s:={ k with heap:=D }) y λS U O=>?_
 have l:k.heap.get? T=none:=by
  cases z:k.heap.get? T with
  | none=>rfl
  | some o =>
   have Q:B.get? T=none:=n
   rw[g.keeps T o z] at Q;cases Q
 have r:d T=none:=j.none_of l
 have v:GD P w d B:=j.kept g.keeps
 have u:GD P w d D:=v.mv m h h frees
 have p:GD P w d S:=u.mv O h r (λ_ z=>nomatch z)
 have Z:Un (frs a) [] H d s.heap B:=X.trans (Un.kept g.keeps)
 have uB:Un (frs a) [] H d s.heap D:=Z.mv m (c x g.new) (c x g.new) G
 have uC:Un (frs a) [] H d s.heap S:=uB.mv O (c x g.new) (c T l) (λ_ z=>nomatch z)
 exact⟨x,T,C,none,d,rfl,I.os,I.bare,U,c x g.new,c T l,h,r,p,uC,q⟩
section
variable {t:TA} {np g0:Pos} {E:XK}
def gb (C:Addr) (E:XK) (t:TA):TS:=λ_ σ H=>t σ H λvs H1=>vs.length<=1000/\E (.ref C) none H1
theorem Fv (q:W.excIn X.K C Qz "ValueError.__new__" = true) (U:Gl X x) (J:X.mg x=some (.ref C)) (B:X.calm=true) (K:qT X C E) (P:PA X (e::es) t)
  (R:(x == ("__debug__" : Str))=false:=by decide) (z:starEach (e::es) X.env=(false,eval e X.env)::starEach es X.env:=by rfl) (f:(backTo g0 (starEach es X.env)).any (·.1)=false:=by rfl) :
  PS X (.Raise (some (.Call (.Name x np) (e::es) [] g0)) none pos) (gb C E t):=by
 intro u s σ H D I h
 obtain⟨n,N,v,V,bs,b,i,sub,g,c,m,l,p,k,y,o,j,A,L,O,w⟩:=Tc I.ok.mod.kin q
 have a:(backTo g0 (starEach (e::es) X.env)).any (·.1)=false:=by
  rw[z]
  show (false || (backTo g0 (starEach es X.env)).any (·.1))=false
  rw[f];rfl
 refine wpAny_Raise_call_subU (nm:=v) (q:=V) (C:=C) (N:=N) (bs:=bs) (bm:=n) (hdct:=b) (sn:=i) (sub:=sub) (ab:=g) (col:=c) (dd:=m) (k0:=l) (k1:=p) (k2:=k) (k3:=y) (k5:=o) (mN:=j)
  PySem.F.excBase_ValueError (by decide) PySem.F.excBase_ValueError (w.hasType (by decide)) (I.ok.hd B) a O (JR I U J ⟨rfl,?_⟩ R)
 have:=P g0 u s σ H _ I h
 rw[z] at this |-
 refine Calls.evalArgs_plain (CJ this λG M ⟨Z,Y,d,r,S,F⟩=>⟨rfl,?_,d.bk _ _ A,L.keeps d.bk,w.keeps d.bk,λQ x T=>?_⟩)
 ·show G.length<=sizeLine
  rw[<-r.length]
  exact fT (BK S)
 ·exact K u σ Y M Q x _ d T F
end
theorem PL {w:World} {K:W.Frag} {x O:Addr} {p:Option Addr} {d:Data} {o:Array (Option Value)} {b:Bool} {Q:Bool->Shared->Prop}
  (X:K.In s.heap) (m:s.heap.get? x=some ⟨.ref C,p,d,o⟩) (q:W.excIn K O Qz "ValueError.__new__" = true) (k:W.mroIn K C (.ref O)=some b) (h:Q b s):wpAny (model prog w) A (excMatches (.ref x) (.ref O)) Q E s:=by
 obtain⟨i,N,P,S,bs,j,t,sub,r,n,z,y,J,v,R,G,u,e,D,H,l⟩:=Tc X q
 have a:i.contains (.type "BaseException")=true:=l.hasType (by decide)
 have c:(Value.ref O::i).contains (.type "BaseException")=true:=by rw[List.contains_cons,a,Bool.or_true]
 have L:=W.looks_mroIn (M:=model prog w) X k
 have f:=tc_notTuple
 obtain⟨B,g,F,I,os⟩:=s
 unfold excMatches
 repeat (first | with_reducible refine wpAny_loadPart_at m ?_ | with_reducible refine wpAny_loadPart_at e ?_ | (with_reducible refine wpAny_isSubtype_exc e ?_;rw[c]) | with_reducible refine L.at ?_ | wp_step)
 cases b <;> (wp_walk;exact h)
abbrev Cx.inX (X:Cx) (x:Addr):Cx:={ X with A:=X.A.mark (some (.ref x)),calm:=false }
theorem Inv.inX (I:Inv X a8 σ H s) (x:Addr):Inv (X.inX x) a8 σ H s :=
 ⟨⟨I.ok.mod,I.ok.kind,I.ok.glob,I.ok.blt,I.ok.above,I.ok.inj,I.ok.has,I.ok.cab,(λz=>nomatch z),I.ok.frames,I.ok.stk,I.ok.exf,I.ok.bs,I.ok.bsz,I.ok.noex,I.ok.exfs,I.ok.Jv,I.ok.frf⟩,
  I.os,I.bare,I.base,I.loc,I.cell,I.free,I.freeC,I.pin,I.hok,I.len⟩
theorem Inv.Zg {x:Addr} (ok:X.Ok) (I:Inv (X.inX x) a8 σ H s):Inv X a8 σ H s:=⟨ok,I.os,I.bare,I.base,I.loc,I.cell,I.free,I.freeC,I.pin,I.hok,I.len⟩
def Ends.drop (D:Ends) (i:Nat):Ends:={ nx:=λσ H=>D.nx (σ.set i none) H,rt:=D.rt,bk:=λσ H=>D.bk (σ.set i none) H,ct:=λσ H=>D.ct (σ.set i none) H }
section
variable {k:Nat} {O:Addr} {sp:Sp} {k6:List V} {ds:List Value} {fx cn n:Str} {p np g0 OS xh:Pos} {t:TA} {b0:Stmt} {pj:List Stmt} {ts:TS}
end
structure qK (k:Nat) (A:Around):Prop where
 dp:A.depth+3 * k+5<recursionLimit
 un:A.units+16 * k+200<cLine
structure zU (P:Program) (w:World) (K:W.Frag) (mg:Str->Option Value) (base:Heap) (CX:QT) (k:Nat) (f:Addr) (fd:FuncData) (ps:List Str) (sp:Sp):Prop where
 len:∀ vs H Q E,sp vs H Q E->vs.length=ps.length
 run:∀ (A:Around) (outer:List Env) (s:Shared) (H:Hp) (args:Args) (us:List Value) (vs:List V) (Q:VK) (E:XK),qK k A->O6 P w K mg base A outer s H->BindsTo s fd args (ps.zip us)->Vals vs us->sp vs H Q E ->
  codeAny (model P w) A (.call (.ref f) args) (CR CX outer P w H s Q E) s
section
variable {w:World} {K:W.Frag}
theorem Cd.uM {st:Stmt} {N:List Str} {k:Nat} {sp:Sp} (F:Cd K x qual st f fd) (S:Aq N ps (Ac st)) (len:∀ vs H Q E,sp vs H Q E->vs.length=ps.length)
  (e:∀ (b:Value) (A:Around) (a:List Env) (s:Shared) (H:Hp) (vs:List V) (Q:VK) (E:XK),A_ k (A.deeper (envOfC qual (Ac st) s.heap.objs.size f b))->sp vs H Q E ->
   ∃ t,Nh (J_ (Gh P w) P w K mg base N qual (Ac st) f b A a s H E) (CZ st) t/\t { nx:=λ_ H'=>Q .non H',rt:=Q } (start N vs) H):Ao P w K mg base (Gh P w) (k+1) f fd ps sp:=by
 obtain⟨l,r,kV,j,p,m,b,o,n,rfl,c,i⟩:=F.ex
 refine Vs c i S len λA a s H vs Q E g d=>?_
 obtain⟨t,h,q⟩:=e b A a s H vs Q E g d
 exact⟨t,h,q⟩
theorem Cd.Jl {st:Stmt} {N:List Str} {k:Nat} {sp:Sp} (F:Cd K x qual st f fd) (S:Aq N ps (Ac st))
  (c:∀ {b:Value} {A:Around} {a:List Env} {s:Shared} (H:Hp) (vs:List V) (Q:VK) (E:XK),A_ k (A.deeper (envOfC qual (Ac st) s.heap.objs.size f b))->sp vs H Q E ->
   ∃ t,Nh (J_ (Gh P w) P w K mg base N qual (Ac st) f b A a s H E) (CZ st) t/\t { nx:=λ_ H'=>Q .non H',rt:=Q } (start N vs) H)
  (len:∀ vs H Q E,sp vs H Q E->vs.length=ps.length:=by intro _ _ _ _ h;cases h;subst_vars;rfl):Ao P w K mg base (Gh P w) (k+1) f fd ps sp:=F.uM S len λ_ _ _ _ H vs Q E=>c H vs Q E
end
section
variable {CX:QT} {k:Nat} {sp:Sp} {k6:List V} {ds:List Value} {E:XK} {p:Pos} {t:TA}
end
theorem Un.vI {fs g:List Addr} {k j:Heap} (a:Un fs [] H H1 h k) (b:Un g [] H1 H2 k j) (s:∀ x∈g,x∈fs \/ h.get? x=none):Un fs [] H H2 h j where
 keep:=λc o q n f d=>by
  have v:c ∉ g:=λz=>by
   rcases s c z with e | e
   ·exact f e
   ·rw[q] at e;cases e
  exact b.keep c o (a.keep c o q n f d) (a.free c o q n d) v d
 slot:=λc o q n f d=>by
  obtain⟨B,e⟩:=a.slot c o q n f d
  obtain⟨m,t⟩:=b.any e (a.free c o q n d) d
  exact⟨m,t⟩
 free:=λc o q n d=>by
  obtain⟨i,e⟩:=a.there c o q d
  exact b.free c i e (a.free c o q n d) d
 there:=λc o q d=>by
  obtain⟨i,e⟩:=a.there c o q d
  exact b.there c i e d
 tups:=λc l q=>b.tups c l (a.tups c l q)
 frzs:=λc o u q=>b.frzs c o u (a.frzs c o u q)
 tbls:=λc w q=>by
  obtain⟨y,A⟩:=a.tbls c w q
  obtain⟨r,p⟩:=b.tbls c _ A
  exact⟨y++r,by rw[p,Array.append_assoc]⟩
theorem Dk {w:World} {K:W.Frag} {N:List Str} {d:Value} {a:List Env} {E:XK} :
  Ga (Gh P w) (J_ (Gh P w) P w K mg base N qual scope f d A a s H E) E:=by
 rintro a8 σ Z j e s' I ⟨x,T,C,od,i,rfl,os,h,y,F,nT,G,oC,M,V,q⟩
 have c:∀ b,j.heap.get? b=none->s.heap.get? b=none:=λb e=>by
  cases z:s.heap.get? b with
  | none=>rfl
  | some o =>
   obtain⟨o',n⟩:=I.base.there b o z (by show b ∉ ([]:List Addr);simp)
   rw[e] at n;cases n
 have r:j.os=s.os:=I.os
 obtain⟨k,g,t,u,DL⟩:=s'
 obtain rfl:DL=j.os:=os
 have S:=I.call (h':=k) (g':=g) (d':=t) (t':=u) (ch:=[]) V M h (λb z=>absurd z (by simp))
 have O:(A.deeper (envOfC qual scope s.heap.objs.size f d)).frames=some (envOfC qual scope s.heap.objs.size f d::a):=I.ok.frames
 have J:k.FunFrames base (envOfC qual scope s.heap.objs.size f d::a):=S.stack
 have frees:∀ b∈frs (envOfC qual scope s.heap.objs.size f d::a),i b=none:=S.Ie
 have m:∀ b∈frs (envOfC qual scope s.heap.objs.size f d::a),b∈frs a \/ s.heap.get? b=none:=λb B=>by
  rcases List.mem_cons.mp (show b∈s.heap.objs.size::frs a from B) with z | z
  ·rw[z];exact .inr (Heap.get?_none_of_le (ah _))
  ·exact .inl z
 have u0:Un (frs a) [] H Z s.heap j.heap:=I.base
 have Y:Un (frs a) [] H i s.heap k:=u0.vI (show Un (frs (envOfC qual scope s.heap.objs.size f d::a)) [] Z i j.heap k from V) m
 show wpAny (model P w) (A.deeper (envOfC qual scope s.heap.objs.size f d)) (leaving (envOfC qual scope s.heap.objs.size f d) (.ref x)) _ _ _
 unfold leaving
 refine wpAny_bind (TQ (s:=⟨k,g,t,u,j.os⟩) (L:=s.heap.objs.size) O J rfl y λX T3 y3 Q U=>?_)
 refine GR (s:=⟨X,g,t,u,j.os⟩) y3 λh4 y4 R=>?_
 have p:s.heap.get? T3=none:=by
  cases z:s.heap.get? T3 with
  | none=>rfl
  | some o =>
   obtain⟨o',n⟩:=Y.there T3 o z (by simp)
   have v:k.get? T3=none:=U
   rw[v] at n;cases n
 have l:i T3=none:=M.none_of U
 have D:∀ b∈frs (envOfC qual scope s.heap.objs.size f d::a),b ∉ frs a->s.heap.get? b=none:=λb B hn=>(m b B).resolve_left hn
 have u3:=Y.mv Q (c x F) (c T nT) D
 have u4:=u3.mv R (c x F) p (λ_ z=>nomatch z)
 have k3:GD P w i X:=GD.mv (P:=P) (w:=w) M Q G oC frees
 have k4:GD P w i h4:=k3.mv R G l (λ_ z=>nomatch z)
 exact⟨x,T3,C,od,i,rfl,r,h,y4,c x F,p,G,l,k4,u4,q⟩
section
variable {o i value:Expr} {td ty tv:TE} {lc:Pos}
end
section
variable {k:Nat} {O:Addr} {sp:Sp} {k6:List V} {ds:List Value} {fx cn n:Str} {p np g0 OS xh:Pos} {t:TA} {b0:Stmt} {pj:List Stmt} {ts:TS}
end
abbrev XR:=Value->Option Addr->St->Hp->Prop
inductive XT (X:Cx) (a8:List (Addr × Obj)) (ER:XR) (e:Value) (s':Shared):Prop
 | mk (σ H1 s1:_):Inv X a8 σ H1 s1->Gh X.prog X.w X.stack H1 s1 (λC od H2=>ER C od σ H2) e s'->XT X a8 ER e s'
def zf (X:Cx) (ER:XR) (st:Stmt) (t:TS):Prop :=
 ∀ (a8:List (Addr × Obj)) (s:Shared) (σ:St) (H:Hp) (D:Ends),Inv X a8 σ H s->t D σ H->wpAny (model X.prog X.w) X.A (exec st X.env) (SP X a8 D) (XT X a8 ER) s
def qW (X:Cx) (ER:XR) (st:List Stmt) (t:TS):Prop :=
 ∀ (a8:List (Addr × Obj)) (s:Shared) (σ:St) (H:Hp) (D:Ends),Inv X a8 σ H s->t D σ H->wpAny (model X.prog X.w) X.A (execs st X.env) (SP X a8 D) (XT X a8 ER) s
def PET (X:Cx) (ER:XR) (e:Expr) (t:TE):Prop :=
 ∀ (a8:List (Addr × Obj)) (s:Shared) (σ:St) (H:Hp) (Q:VK),Inv X a8 σ H s->t σ H Q->wpAny (model X.prog X.w) X.A (eval e X.env) (EP X a8 σ Q) (XT X a8 ER) s
section
variable {ER:XR} {st:Stmt} {sts:List Stmt} {t u:TS}
theorem Xu (b:zf X ER st t):qW X ER [st] t:=by
 intro a s σ H D I h
 refine wpAny_execs_cons (CJ (b a s σ H D I h) λf c q=>?_)
 cases f with
 | next=>exact wpAny_execs_nil q
 | brk=>exact q
 | cont=>exact q
 | ret u=>exact q
theorem Zh {a:Pos} (f:X.N.Nodup) (hi:X.N[i]? = some x) (b:Loc X.env.scope x) (k:PET X ER e te) (d:swapsWith e (some (.Name x a)) pos.line X.env=pure false:=by rfl)
  (n:X.fn x=true \/ X.env.scope.names.lookup x=some .local:=by first | exact .inl rfl | exact .inr rfl | assumption):zf X ER (.Assign [.Name x a] e pos) (RW te (Dh i)):=by
 intro c s σ H D I h
 refine wpAny_Assign_Name (CJ (k c s σ H _ I h) λv p ⟨y,o,l,m,j⟩=>?_) d
 exact Jt l f hi b m (λq g=>⟨_,o,g,j⟩) n
end
section
variable {ER:XR} {k:Nat} {sp:Sp} {k6:List V} {ds:List Value} {m:Str} {p:Pos} {o:Expr} {t:TA}
def dR (C:Addr) (m:Str) (sp:Sp) (k6:List V) (ER:XR) (ta:TE) (t:TA):TE:=λσ H Q=>Vr C m sp k6 (λC od H2=>ER C od σ H2) ta t σ H Q
theorem ZR {Q:VK} {us:List Value} (F:Ao X.prog X.w X.K X.mg X.base (Gh X.prog X.w) k f fd ps sp) (g:A_ k X.A) (c:Binds X.K fd ps ds) (d:Vals k6 ds)
  (I:Inv X a8 σ H s) (r:Vals vs us) (h:sp (vs++k6) H Q (λC od H2=>ER C od σ H2)):wpAny (model X.prog X.w) X.A (call (.ref f) us) (EP X a8 σ Q) (XT X a8 ER) s:=by
 have b:Vals (vs++k6) (us++ds):=r.append d
 have j:(us++ds).length=ps.length:=by rw[<-b.length];exact F.len _ _ _ _ h
 refine wpAny_call (codeAny_mono (F.run X.A X.stack s H ⟨us,[]⟩ (us++ds) (vs++k6) Q _ g I.env0 (c s us I.Gy j) b h) λr l a=>?_)
 cases r with
 | error e=>exact⟨σ,H,s,I,a⟩
 | ok i =>
  cases i with
  | ret u=>exact I.after a
  | next=>exact False.elim a
  | brk=>exact False.elim a
  | cont=>exact False.elim a
theorem YQ {pl:Sem Bool} (N:PE X o ta) (c:Oe X.K C) (j:Meth X.K C m f) (F:Ao X.prog X.w X.K X.mg X.base (Gh X.prog X.w) k f fd ps sp) (B:A_ k X.A) (L:Binds X.K fd ps ds) (A:Vals k6 ds) (K:PA X (e::es) t)
  (v:X.xe=λ_ _=>False) (b:starEach (e::es) X.env=(false,eval e X.env)::starEach es X.env:=by rfl) (d:(backTo pos (starEach es X.env)).any (·.1)=false:=by rfl)
  (D:eval (.Call (.Attribute o m d6) (e::es) [] pos) X.env=(do
   let ov <-eval o X.env
   standAt d6.atName
   let (f,first) <-holding [ov] (getMethod ov m pl)
   callWith pos f first (backTo pos (starEach (e::es) X.env)) (backToKw pos (keywordEach [] X.env))):=by rfl) :
  PET X ER (.Call (.Attribute o m d6) (e::es) [] pos) (dR C m sp k6 ER ta t):=by
 intro p s σ H Q I h
 refine W.methodCall_KW (pl:=pl) (wpAny_mono (N p s σ H _ I h) (λu J ⟨x,P,w,G,a,R,fs,E,y,l,q⟩=>?_) λe O z=>?_) D
 ·subst E
  obtain rfl:u=Value.ref a:=G
  refine Fy w y c j l ?_
  refine W.callWith_K (first:=[.ref a]) (h₀:=X.base) I.ok.mod.kin j.kp (wpAny_mono (K pos p J σ P _ w q) (λi T ⟨n,S,g,r,M⟩=>⟨g.Gy,?_⟩) λe O z=>?_) b d
  ·exact ZR (us:=.ref a::i) (vs:=.ref a::n) F B L A g (.cons rfl r) M
  ·rw[v] at z
   exact z.elim
 ·rw[v] at z
  exact z.elim
end
section
variable {O:Addr} {cn n:Str} {np xh:Pos} {body:List Stmt} {b0:Stmt} {pj:List Stmt} {ts:TS} {tb:XR->TS}
end
end L2
namespace Og
open PySem L2 PyProof.Rows
theorem fB:∀ n<26,letters.cps.toList[n]? = some (97+n):=by decide
theorem jO {i:Int} (a:0<=i) (b:i<26):Ua letters.cps.toList i=some (97+i.toNat):=by
 have h:=Ah (fB i.toNat (by omega))
 have e:((i.toNat:Nat):Int)=i:=by omega
 rw[e] at h
 exact h
theorem Y6:(("" : Str)).cps = #[]:=by decide
theorem RG (d:List Nat):(Txt.join ("" : Str) (d.map λc=>(⟨#[c]⟩:Str))).cps.toList=d:=by
 have b:∀ (l:List Nat) (a:Array Nat),((l.map λc=>(⟨#[c]⟩:Str)).foldl (λa p=>a++("" : Str).cps++p.cps) a).toList=a.toList++l:=by
  intro l
  induction l with
  | nil=>intro a;simp
  | cons c l e =>
   intro a
   rw[dc,List.foldl_cons,e,Y6]
   simp
 unfold Txt.join Builtin.Str.glued
 cases d with
 | nil=>decide
 | cons c l =>
  show (((((c::l).map λc=>(⟨#[c]⟩:Str)).drop 1)).foldl (λa p=>a++("" : Str).cps++p.cps) #[c]).toList=_
  rw[dc,List.drop_succ_cons,List.drop_zero,b]
  rfl
variable {K:W.Frag}
structure Ye (K:W.Frag) (aB aP aM:Addr):Prop where
 f:KF K aB aP aM
 pR:∃ a,W.nsIn K aP "rank" = some (some (.ref a))/\KTup K a (["new","pipes","wind"].map λs:String=>V.str s)
 pL:∃ a,W.nsIn K aP "line" = some (some (.ref a))/\KTup K a (["rank","shift","low","high"].map λs:String=>V.str s)
 bP:∃ a,W.nsIn K aB "pipes" = some (some (.ref a))/\KTup K a [.int 1,.int 97]
 bW:∃ a,W.nsIn K aB "wind" = some (some (.ref a))/\KTup K a [.int 0,.int 1000000000]
 bS:∃ a,W.nsIn K aB "shift" = some (some (.ref a))/\KTup K a [.int (-200),.int 200]
 bLo:∃ a,W.nsIn K aB "low" = some (some (.ref a))/\KTup K a [.int 0,.int 60]
 bHi:∃ a,W.nsIn K aB "high" = some (some (.ref a))/\KTup K a [.int 0,.int 60]
 bR:W.nsIn K aB "rank" = some none
 mR:∃ t,W.nsIn K aM "rank" = some (some (.int 12 t))
 mL:W.nsIn K aM "line" = some none
section
variable {wn:List (Str × Str)}
theorem Tv (h:MT K aB aP aM ρ vs r) (a:Ft ρ vs):Jy K aB aP aM ρ vs r:=⟨h.ns,h.parts,.inr h.room,λz=>absurd z h.nl,a⟩
theorem Ue (F:KF K aB aP aM) {wd:Str} (p:wd = "stop" \/ wd = "mute") (e:HX ρ vs=wn) (q:isNm t) (h:∀ w∈named,Rx wn w t=false) (s:Vz wn wd<Iv wd) {a:Str} (o:isNm a) (i:Rx wn "board" a=true):MT K aB aP aM ρ vs ⟨wd,t,[.str a]⟩:=by
 have b:∀ (j:Nat) x (y:Str),[V.str t,.str a][j]? = some x->(["new","board"]:List Str)[j]? = some y->JD K aB ρ vs x y:=λj x y d c=>by
  match j,d,c with
  | 0,d,c =>
   cases (Option.some.inj d)
   cases (Option.some.inj c)
   exact Jd F e q h
  | 1,d,c =>
   cases (Option.some.inj d)
   cases (Option.some.inj c)
   exact JH F e o i
  | j+2,d,c=>simp at c
 have f:=JC ρ vs wd
 rw[e] at f
 rcases p with rfl | rfl
 ·obtain⟨m,l,n⟩:=F.pS
  obtain⟨g,k⟩:=F.mS
  have r:Iv "stop" = 24:=by decide
  refine⟨by show ¬ ("stop" : Str) = "step";decide,by show ¬ ("stop" : Str) = "line";decide,⟨m,["new","board"],l,n,rfl,by decide,b⟩,⟨24,g,k,?_⟩⟩
  show (((vs.filter (pw ρ "stop")).length:Nat):Int)<24
  omega
 ·obtain⟨m,l,n⟩:=F.pM
  obtain⟨g,k⟩:=F.mM
  have r:Iv "mute" = 5:=by decide
  refine⟨by show ¬ ("mute" : Str) = "step";decide,by show ¬ ("mute" : Str) = "line";decide,⟨m,["new","board"],l,n,rfl,by decide,b⟩,⟨5,g,k,?_⟩⟩
  show (((vs.filter (pw ρ "mute")).length:Nat):Int)<5
  omega
theorem U3 (F:Ye K aB aP aM) (e:HX ρ vs=wn) (o:isNm t) (h:∀ w∈named,Rx wn w t=false) (D:Vz wn "rank" < 12) {c:Int} (C:1<=n) (B:n<=97) (p:0<=c) (r:c<=1000000000) (g:Ft ρ vs):Jy K aB aP aM ρ vs (FN (t,n,c)):=by
 obtain⟨m,l,u⟩:=F.pR
 obtain⟨d,q,s⟩:=F.bP
 obtain⟨A,k,v⟩:=F.bW
 obtain⟨f,i⟩:=F.mR
 refine⟨by show ¬ ("rank" : Str) = "step";decide,⟨m,["new","pipes","wind"],l,u,rfl,by decide,λj x y b a=>?_⟩,.inr ⟨12,f,i,?_⟩,λz=>absurd z (by show ¬ ("rank" : Str) = "line";decide),g⟩
 ·match j,b,a with
  | 0,b,a =>
   cases (Option.some.inj b)
   cases (Option.some.inj a)
   exact Jd F.f e o h
  | 1,b,a =>
   cases (Option.some.inj b)
   cases (Option.some.inj a)
   exact .inl ⟨((n:Nat):Int),1,97,d,rfl,q,s,by omega,by omega⟩
  | 2,b,a =>
   cases (Option.some.inj b)
   cases (Option.some.inj a)
   exact .inl ⟨_,0,1000000000,A,rfl,k,v,p,r⟩
  | j+3,b,a=>simp at a
 ·rw[JC,e]
  show ((Vz wn "rank" : Nat):Int)<12
  omega
theorem Uc (F:Ye K aB aP aM) (e:HX ρ vs=wn) (q:isNm t) (h:Rx wn "rank" t=true) {sh lo hi:Int} (s : -200<=sh) (c:sh<=200) (z:0<=lo) (k:lo<=60) (p:0<=hi) (i:hi<=60) (f:Ft ρ vs) (B:Qm ρ vs ⟨"line",t,[.int sh,.int lo,.int hi]⟩):Jy K aB aP aM ρ vs ⟨"line",t,[.int sh,.int lo,.int hi]⟩:=by
 obtain⟨v,n,A⟩:=F.pL
 obtain⟨o,r,u⟩:=F.bS
 obtain⟨d,l,m⟩:=F.bLo
 obtain⟨C,w,g⟩:=F.bHi
 refine⟨by show ¬ ("line" : Str) = "step";decide,⟨v,["rank","shift","low","high"],n,A,rfl,by decide,λj x y b a=>?_⟩,.inl ⟨rfl,F.mL⟩,λ_=>B,f⟩
 match j,b,a with
 | 0,b,a =>
  cases (Option.some.inj b)
  cases (Option.some.inj a)
  exact .inr (.inr ⟨F.bR,by decide,_,rfl,q,by rw[KH,e];exact h⟩)
 | 1,b,a =>
  cases (Option.some.inj b)
  cases (Option.some.inj a)
  exact .inl ⟨_,-200,200,o,rfl,r,u,s,c⟩
 | 2,b,a =>
  cases (Option.some.inj b)
  cases (Option.some.inj a)
  exact .inl ⟨_,0,60,d,rfl,l,m,z,k⟩
 | 3,b,a =>
  cases (Option.some.inj b)
  cases (Option.some.inj a)
  exact .inl ⟨_,0,60,C,rfl,w,g,p,i⟩
 | j+4,b,a=>simp at a
end
structure Ok5 (K:W.Frag) (aB aP aM:Addr) (ρ:V->R) (us:List V) (bs:List (Str × Nat)) (rk:List (Str × Nat × Int)) (ks:List R):Prop where
 kinds:∀ v∈us,(ρ v).w = "board" \/ (ρ v).w = "rank" \/ (ρ v).w = "line" \/ (ρ v).w = "stop" \/ (ρ v).w = "coupler" \/ (ρ v).w = "mute"
 eb:(us.filter (pw ρ "board")).map ρ=bs.map Ef
 er:(us.filter (pw ρ "rank")).map ρ=rk.map FN
 ek:(us.filter (λv=>Gw (ρ v).w)).map ρ=ks
 ln:∀ (i:Nat) v,us[i]? = some v->(ρ v).w = "line"->(∃ (j:Nat) (r:Str × Nat × Int) (sh lo hi:Int),rk[j]? = some r/\r.1=(ρ v).nm/\(ρ v).rest=[.int sh,.int lo,.int hi])/\∃ u∈us.take i,Gw (ρ u).w=true
 ok:∀ (i:Nat) v,us[i]? = some v->Jy K aB aP aM ρ (us.take i) (ρ v)
section
variable {v:V} {bs NL:List (Str × Nat)} {rk Au:List (Str × Nat × Int)} {UC:List R}
theorem Kg {w:Str}:Yh ρ us w t=true ↔ ∃ v∈us,(ρ v).w=w/\(ρ v).nm=t:=by
 unfold Yh
 rw[gi]
 constructor
 ·rintro⟨v,b,d⟩
  obtain⟨c,a⟩:=bg.mp b
  exact⟨v,c,V.str.inj (of_decide_eq_true a),V.str.inj (of_decide_eq_true d)⟩
 ·rintro⟨v,b,c,a⟩
  exact⟨v,bg.mpr ⟨b,decide_eq_true (congrArg V.str c)⟩,decide_eq_true (congrArg V.str a)⟩
theorem Jx {w:Str} (h:w = "stop" \/ w = "coupler" \/ w = "mute"):Gw w=true:=by rcases h with rfl | rfl | rfl <;> decide
theorem Kr {p:V->Bool} (h:p v=true):(us++[v]).filter p=us.filter p++[v]:=by
 rw[fk,fg,if_pos h]
 rfl
theorem Eb {p:V->Bool} (h:p v=false):(us++[v]).filter p=us.filter p:=by
 rw[fk,fg,if_neg (by rw[h];decide)]
 simp
end
structure Bld (K:W.Frag) (aB aP aM:Addr) (rows:List R) (bs:List (Str × Nat)) (rk:List (Str × Nat × Int)) (ks:List R) (ls:List (List Ln)):Prop where
 ok:∀ (ρ:V->R) (us:List V),us.map ρ=rows->Ok5 K aB aP aM ρ us bs rk ks
 ln0:ks=[]->∀ Au,linesOf Au rows=[]
 ln:linesOf rk rows=ls
section
variable {bs:List (Str × Nat)} {rk:List (Str × Nat × Int)}
theorem Jo (e:us.map ρ=rows++[r]):∃ na v,us=na++[v]/\na.map ρ=rows/\ρ v=r:=by
 obtain⟨a,b,rfl,g,c⟩:=List.map_eq_append_iff.mp e
 obtain⟨v,l,rfl,d,f⟩:=List.map_eq_cons_iff.mp c
 rw[List.map_eq_nil_iff.mp f]
 exact⟨a,v,rfl,g,d⟩
inductive Tl (rows:List R) (bd:Str) (cnt:Nat):Prop
 | mk (r0:List R) (st:R) (lr:List R):rows=r0++st::lr->st.w = "stop"->st.rest=[.str bd]->lr.length=cnt->(∀ r∈lr,r.w = "line")->Tl rows bd cnt
theorem Tl.stop (a:List R) (t b:Str):Tl (a++[⟨"stop",t,[.str b]⟩]) b 0:=⟨a,_,[],rfl,rfl,rfl,rfl,λ_ h=>nomatch h⟩
theorem Tl.line {a:Str} {cnt:Nat} (h:Tl rows a cnt) (k:r.w = "line"):Tl (rows++[r]) a (cnt+1):=by
 obtain⟨b,st,i,rfl,j,d,e,f⟩:=h
 refine⟨b,st,i++[r],by simp,j,d,by simp[e],λx c=>?_⟩
 rcases bX.mp c with g | g
 ·exact f x g
 ·rw[av.mp g]
  exact k
end
variable {K:W.Frag}
structure Iz (K:W.Frag) (aB aP aM:Addr) (ρ:V->R) (us:List V) (bs:List (Str × Nat)) (rk:List (Str × Nat × Int)) (ks:List R):Prop where
 eb:(us.filter (pw ρ "board")).map ρ=bs.map Ef
 er:(us.filter (pw ρ "rank")).map ρ=rk.map FN
 ek:(us.filter (λv=>Gw (ρ v).w)).map ρ=ks
 ln:∀ (i:Nat) v,us[i]? = some v->(ρ v).w = "line"->(∃ (j:Nat) (r:Str × Nat × Int) (sh lo hi:Int),rk[j]? = some r/\r.1=(ρ v).nm/\(ρ v).rest=[.int sh,.int lo,.int hi])/\∃ u∈us.take i,Gw (ρ u).w=true
 ok:∀ (i:Nat) v,us[i]? = some v->Hs K aB aP aM ρ (us.take i) (ρ v)
section
variable {v:V} {bs NL:List (Str × Nat)} {rk Au:List (Str × Nat × Int)} {UC:List R}
theorem Iz.nil:Iz K aB aP aM ρ [] [] [] []:=⟨rfl,rfl,rfl,(λi v h=>by simp at h),(λi v h=>by simp at h)⟩
theorem Iz.bf (h:Iz K aB aP aM ρ us bs rk ks) (a:v∈us) (c:(ρ v).w = "board"):∃ b∈bs,Ef b=ρ v:=by
 have:ρ v∈(us.filter (pw ρ "board")).map ρ:=bb (bg.mpr ⟨a,decide_eq_true (congrArg V.str c)⟩)
 rw[h.eb] at this
 exact ay.mp this
theorem Iz.pP (h:Iz K aB aP aM ρ us bs rk ks) (a:v∈us) (c:(ρ v).w = "rank"):∃ b∈rk,FN b=ρ v:=by
 have:ρ v∈(us.filter (pw ρ "rank")).map ρ:=bb (bg.mpr ⟨a,decide_eq_true (congrArg V.str c)⟩)
 rw[h.er] at this
 exact ay.mp this
theorem Iz.YT (h:Iz K aB aP aM ρ us bs rk ks) (a:v∈us) (b:Gw (ρ v).w=true):ρ v∈ks:=by
 have:ρ v∈(us.filter (λv=>Gw (ρ v).w)).map ρ:=bb (bg.mpr ⟨a,b⟩)
 rw[h.ek] at this
 exact this
theorem Iz.jW (h:Iz K aB aP aM ρ us bs rk ks):Ft ρ us:=λv a c=>by
 obtain⟨b,_,e⟩:=h.bf a c
 exact⟨_,by rw[<-e]⟩
theorem Iz.bw (h:Iz K aB aP aM ρ us bs rk ks) {b:Str × Nat} (c:b∈bs):∃ v∈us,ρ v=Ef b:=by
 have:Ef b∈(us.filter (pw ρ "board")).map ρ:=by rw[h.eb];exact bb c
 obtain⟨v,a,e⟩:=ay.mp this
 exact⟨v,(bg.mp a).1,e⟩
theorem Iz.lM (h:Iz K aB aP aM ρ us bs rk ks) {r:Str × Nat × Int} (b:r∈rk):∃ v∈us,ρ v=FN r:=by
 have:FN r∈(us.filter (pw ρ "rank")).map ρ:=by rw[h.er];exact bb b
 obtain⟨v,a,e⟩:=ay.mp this
 exact⟨v,(bg.mp a).1,e⟩
theorem Iz.RL (h:Iz K aB aP aM ρ us bs rk ks) {b:Str × Nat} (c:b∈bs):Rx (HX ρ us) "board" b.1=true:=by
 obtain⟨v,a,e⟩:=h.bw c
 rw[<-KH,Kg]
 exact⟨v,a,by rw[e],by rw[e]⟩
theorem Iz.gU (h:Iz K aB aP aM ρ us bs rk ks) {r:Str × Nat × Int} (b:r∈rk):Rx (HX ρ us) "rank" r.1=true:=by
 obtain⟨v,a,e⟩:=h.lM b
 rw[<-KH,Kg]
 exact⟨v,a,by rw[e],by rw[e]⟩
theorem Iz.fresh (h:Iz K aB aP aM ρ us bs rk ks) (l:∀ b∈bs,b.1 ≠ t) (j:∀ r∈rk,r.1 ≠ t) (g:∀ k∈ks,k.nm ≠ t):∀ w∈named,Rx (HX ρ us) w t=false:=by
 intro w i
 rw[<-KH,<-fq,Kg]
 rintro⟨v,d,c,f⟩
 simp only[List.mem_cons,List.mem_singleton,List.not_mem_nil,or_false] at i
 rcases i with rfl | rfl | rfl | rfl | rfl
 ·obtain⟨b,a,e⟩:=h.bf d c
  exact l b a (by rw[<-f,<-e])
 ·obtain⟨b,a,e⟩:=h.pP d c
  exact j b a (by rw[<-f,<-e])
 ·exact g _ (h.YT d (Jx (.inl c))) f
 ·exact g _ (h.YT d (Jx (.inr (.inl c)))) f
 ·exact g _ (h.YT d (Jx (.inr (.inr c)))) f
theorem Iz.lA (h:Iz K aB aP aM ρ us bs rk ks):Vz (HX ρ us) "board" = bs.length:=by
 rw[<-JC,<-af (f:=ρ),h.eb,af]
theorem Iz.m9 (h:Iz K aB aP aM ρ us bs rk ks):Vz (HX ρ us) "rank" = rk.length:=by
 rw[<-JC,<-af (f:=ρ),h.er,af]
theorem Iz.az (h:Iz K aB aP aM ρ us bs rk ks) {w:Str} (a:w = "stop" \/ w = "coupler" \/ w = "mute"):Vz (HX ρ us) w=(ks.filter λr=>decide (V.str r.w=V.str w)).length:=by
 rw[<-JC,<-h.ek,eR,af,List.filter_filter]
 refine congrArg List.length (List.filter_congr λv _=>?_)
 show pw ρ w v=(pw ρ w v && Gw (ρ v).w)
 by_cases e:(ρ v).w=w
 ·rw[Jx (by rw[e];exact a),Bool.and_true]
 ·have:pw ρ w v=false:=decide_eq_false λz=>e (V.str.inj z)
  rw[this,hG]
theorem Iz.snoc (h:Iz K aB aP aM ρ us bs rk ks)
  (l:((us++[v]).filter (pw ρ "board")).map ρ=NL.map Ef) (k:((us++[v]).filter (pw ρ "rank")).map ρ=Au.map FN) (n:((us++[v]).filter (λv=>Gw (ρ v).w)).map ρ=UC)
  (o:∀ (j:Nat) r,rk[j]? = some r->Au[j]? = some r)
  (t:(ρ v).w = "line"->(∃ (j:Nat) (r:Str × Nat × Int) (sh lo hi:Int),Au[j]? = some r/\r.1=(ρ v).nm/\(ρ v).rest=[.int sh,.int lo,.int hi])/\∃ u∈us,Gw (ρ u).w=true)
  (ok:Hs K aB aP aM ρ us (ρ v)):Iz K aB aP aM ρ (us++[v]) NL Au UC:=by
 have b:∀ {i:Nat} {u:V},(us++[v])[i]? = some u->us[i]? = some u/\(us++[v]).take i=us.take i \/ u=v/\(us++[v]).take i=us:=λ{i u} hi=>by
  by_cases c:i<us.length
  ·rw[fw c] at hi
   exact .inl ⟨hi,fh (fT c)⟩
  ·have a:=(ag.mp hi).1
   rw[al,ax] at a
   have f:i=us.length:=by omega
   subst f
   rw[dt (ah _),jv] at hi
   exact .inr ⟨(Option.some.inj hi).symm,by rw[fh (ah _),eJ]⟩
 refine⟨l,k,n,λi u hi g=>?_,λi u hi=>?_⟩
 ·rcases b hi with⟨d,a⟩ | ⟨rfl,a⟩
  ·rw[a]
   obtain⟨⟨j,r,sh,lo,e,m,s,p⟩,q⟩:=h.ln i u d g
   exact⟨⟨j,r,sh,lo,e,o j r m,s,p⟩,q⟩
  ·rw[a]
   exact t g
 ·rcases b hi with⟨d,a⟩ | ⟨rfl,a⟩
  ·rw[a]
   exact h.ok i u d
  ·rw[a]
   exact ok
end
theorem Qq {rk:List (Str × Nat × Int)} {x:Str × Nat × Int}:∀ {rows:List R},(∀ r∈rows,r.w = "line"->r.nm∈rk.map (·.1))->linesOf (rk++[x]) rows=linesOf rk rows:=by
 have d:∀ (rows:List R),(∀ r∈rows,r.w = "line"->r.nm∈rk.map (·.1))->∀ a,rows.foldl (Dr (rk++[x])) a=rows.foldl (Dr rk) a:=by
  intro rows
  induction rows with
  | nil=>intro _ _;rfl
  | cons r f g =>
   intro h a
   have e:Dr (rk++[x]) a r=Dr rk a r:=by
    unfold Dr
    by_cases c:Gw r.w=true
    ·rw[if_pos c,if_pos c]
    ·rw[if_neg c,if_neg c]
     by_cases b:r.w = "line"
     ·rw[if_pos b,if_pos b]
      have j:=h r (ce ..) b
      have:lnOf (rk++[x]) r=lnOf rk r:=by
       unfold lnOf
       rw[cq,List.idxOf_append,if_pos j]
      rw[this]
     ·rw[if_neg b,if_neg b]
   show f.foldl _ (Dr (rk++[x]) a r)=f.foldl _ (Dr rk a r)
   rw[e]
   exact g (λr i=>h r (bq _ i)) _
 exact λ{rows} h=>d rows h []
theorem Vk {k:R} (h:∀ t∈Oc r,t∈ks.map (·.nm)):stN (ks++[k]) r=stN ks r:=by
 unfold stN
 refine congrArg Wd.mk (gS λt a=>?_)
 rw[cq,List.idxOf_append,if_pos (h t a)]
abbrev Ze (r:R):Bool:=decide (V.str r.w=V.str "step")
def WdK (w:Str):Prop:=w = "board" \/ w = "rank" \/ w = "stop" \/ w = "coupler" \/ w = "mute" \/ w = "line" \/ w = "step"
structure HS (K:W.Frag) (aB aP aM:Addr) (rows:List R) (bs:List (Str × Nat)) (rk:List (Str × Nat × Int)) (ks:List R) (ls:List (List Ln)) (sts:List Nat):Prop where
 ok:∀ (ρ:V->R) (us:List V),us.map ρ=rows->Iz K aB aP aM ρ us bs rk ks
 ln:linesOf rk rows=ls
 st:(rows.filter Ze).map (stN ks)=sts
 lm:∀ r∈rows,r.w = "line"->r.nm∈rk.map (·.1)
 sm:∀ r∈rows,r.w = "step"->∃ ts:List Str,V.str r.nm::r.rest=ts.map V.str/\ts.length<=24/\∀ t∈ts,t∈ks.map (·.nm)
 wd:∀ r∈rows,WdK r.w
 pk:∀ r∈rows,(∀ i:Int,V.int i∈r.rest->i.natAbs<10 ^ 12)/\r.rest.length<=24
section
variable {bs:List (Str × Nat)} {rk:List (Str × Nat × Int)}
theorem HS.nil:HS K aB aP aM [] [] [] [] [] []:=⟨λρ a e=>by rw[List.map_eq_nil_iff.mp e];exact Iz.nil,rfl,rfl,(λ_ z=>nomatch z),(λ_ z=>nomatch z),(λ_ z=>nomatch z),(λ_ z=>nomatch z)⟩
theorem Ro (h:r.w ≠ "step"):(rows++[r]).filter Ze=rows.filter Ze:=by
 rw[fk,fg,if_neg (by intro z;exact h (V.str.inj (of_decide_eq_true z)))]
 simp
theorem Gm {Q:R->Prop} (h:∀ r∈rows,Q r) (b:Q r):∀ x∈rows++[r],Q x:=λx a=>by
 rcases bX.mp a with z | z
 ·exact h x z
 ·rw[av.mp z]
  exact b
theorem HS.YL (F:Ye K aB aP aM) (h:HS K aB aP aM rows bs rk ks ls sts) (m:isNm t) (q:∀ b∈bs,b.1 ≠ t) (l:∀ r∈rk,r.1 ≠ t) (p:∀ k∈ks,k.nm ≠ t) (d:bs.length<5) (f:1<=n) (c:n<=61):HS K aB aP aM (rows++[Ef (t,n)]) (bs++[(t,n)]) rk ks ls sts:=by
 refine⟨λρ s e=>?_,?_,?_,Gm h.lm (λz=>absurd z (by show ¬ ("board" : Str) = "line";decide)),Gm h.sm (λz=>absurd z (by show ¬ ("board" : Str) = "step";decide)),Gm h.wd (.inl rfl),Gm h.pk ⟨(λi j=>by simp only[Ef,List.mem_cons,List.not_mem_nil,or_false,V.int.injEq,reduceCtorEq,false_or] at j;omega),by show 1<=24;decide⟩⟩
 ·obtain⟨o,v,rfl,g,a⟩:=Jo e
  have O:=h.ok ρ o g
  refine O.snoc ?_ ?_ ?_ (λ_ _ h=>h) (λz=>absurd (a ▸ z) (by show ¬ ("board" : Str) = "line";decide)) ?_
  ·rw[Kr (by unfold pw;rw[a];exact decide_eq_true rfl),List.map_append,O.eb,List.map_append,List.map_singleton,a]
   rfl
  ·rw[Eb (by unfold pw;rw[a];show decide (V.str "board" = V.str "rank")=false;decide),O.er]
  ·rw[Eb (by rw[a];show Gw "board" = false;decide),O.ek]
  ·rw[a]
   exact .inl (Tv (Ug F.f rfl m (O.fresh q l p) (by rw[O.lA];exact d) f c) O.jW)
 ·rw[DN,h.ln]
  rfl
 ·rw[Ro (by show ¬ ("board" : Str) = "step";decide)]
  exact h.st
theorem HS.rank (F:Ye K aB aP aM) (h:HS K aB aP aM rows bs rk ks ls sts) {c:Int} (q:isNm t) (x:∀ b∈bs,b.1 ≠ t) (f:∀ r∈rk,r.1 ≠ t) (s:∀ k∈ks,k.nm ≠ t) (m:rk.length<12) (l:1<=n) (g:n<=97) (u:0<=c) (y:c<=1000000000):HS K aB aP aM (rows++[FN (t,n,c)]) bs (rk++[(t,n,c)]) ks ls sts:=by
 have d:∀ r∈rows,r.w = "line"->r.nm∈(rk++[(t,n,c)]).map (·.1):=λr f z=>by
  rw[cq]
  exact dn _ (h.lm r f z)
 refine⟨λρ A e=>?_,?_,?_,Gm d (λz=>absurd z (by show ¬ ("rank" : Str) = "line";decide)),Gm h.sm (λz=>absurd z (by show ¬ ("rank" : Str) = "step";decide)),Gm h.wd (.inr (.inl rfl)),Gm h.pk ⟨(λi p=>by simp only[FN,List.mem_cons,List.not_mem_nil,or_false,V.int.injEq,reduceCtorEq,false_or] at p;omega),by show 2<=24;decide⟩⟩
 ·obtain⟨w,v,rfl,o,a⟩:=Jo e
  have O:=h.ok ρ w o
  refine O.snoc ?_ ?_ ?_ (λj r h=>by rw[List.getElem?_append_left (List.getElem?_eq_some_iff.mp h).1];exact h) (λz=>absurd (a ▸ z) (by show ¬ ("rank" : Str) = "line";decide)) ?_
  ·rw[Eb (by unfold pw;rw[a];show decide (V.str "rank" = V.str "board")=false;decide),O.eb]
  ·rw[Kr (by unfold pw;rw[a];exact decide_eq_true rfl),List.map_append,O.er,List.map_append,List.map_singleton,a]
   rfl
  ·rw[Eb (by rw[a];show Gw "rank" = false;decide),O.ek]
  ·rw[a]
   exact .inl (U3 F rfl q (O.fresh x f s) (by rw[O.m9];exact m) l g u y O.jW)
 ·rw[DN,Qq h.lm,h.ln]
  rfl
 ·rw[Ro (by show ¬ ("rank" : Str) = "step";decide)]
  exact h.st
theorem HS.bu (h:HS K aB aP aM rows bs rk ks ls sts) (a:r.w = "stop" \/ r.w = "coupler" \/ r.w = "mute") (l:(∀ i:Int,V.int i∈r.rest->i.natAbs<10 ^ 12)/\r.rest.length<=24) (u:∀ (ρ:V->R) (us:List V),us.map ρ=rows->MT K aB aP aM ρ us r):HS K aB aP aM (rows++[r]) bs rk (ks++[r]) (ls++[[]]) sts:=by
 have o:=Jx a
 have m:∀ c∈rows,c.w = "step"->∃ f:List Str,V.str c.nm::c.rest=f.map V.str/\f.length<=24/\∀ t∈f,t∈(ks++[r]).map (·.nm):=λc b z=>by
  obtain⟨f,j,n,k⟩:=h.sm c b z
  exact⟨f,j,n,λt g=>by rw[cq];exact dn _ (k t g)⟩
 refine⟨λρ us e=>?_,?_,?_,Gm h.lm (λz=>?_),Gm m (λz=>?_),Gm h.wd (a.elim (λz=>.inr (.inr (.inl z))) (λz=>z.elim (λz=>.inr (.inr (.inr (.inl z)))) (λz=>.inr (.inr (.inr (.inr (.inl z))))))),Gm h.pk l⟩
 ·obtain⟨q,v,rfl,p,d⟩:=Jo e
  have O:=h.ok ρ q p
  refine O.snoc ?_ ?_ ?_ (λ_ _ h=>h) (λz=>?_) ?_
  ·rw[Eb (by unfold pw;rw[d];rcases a with e | e | e <;> rw[e] <;> decide),O.eb]
  ·rw[Eb (by unfold pw;rw[d];rcases a with e | e | e <;> rw[e] <;> decide),O.er]
  ·rw[Kr (by rw[d];exact o),cq,O.ek,List.map_singleton,d]
  ·rw[d] at z
   rcases a with e | e | e <;> rw[e] at z <;> exact absurd z (by decide)
  ·rw[d]
   exact .inl (Tv (u ρ q p) O.jW)
 ·rw[DN,h.ln]
  unfold Dr
  rw[if_pos o]
 ·rw[Ro (by rcases a with e | e | e <;> rw[e] <;> decide),<-h.st]
  refine gS λc b=>Vk λt g=>?_
  obtain⟨j,n⟩:=bg.mp b
  obtain⟨f,k,_,s⟩:=h.sm c j (V.str.inj (of_decide_eq_true n))
  rw[KC k] at g
  exact s t g
 ·rcases a with e | e | e <;> rw[e] at z <;> exact absurd z (by decide)
 ·rcases a with e | e | e <;> rw[e] at z <;> exact absurd z (by decide)
theorem HS.Za (F:Ye K aB aP aM) (h:HS K aB aP aM rows bs rk ks ls sts) {a b:Str} {s:Int} (w:isNm t) (l:∀ b∈bs,b.1 ≠ t) (v:∀ r∈rk,r.1 ≠ t) (x:∀ k∈ks,k.nm ≠ t) (p:(ks.filter λr=>decide (V.str r.w=V.str "coupler")).length<12) (g:isNm a) (d:(a,n)∈bs) (c:isNm b) (f:(b,m)∈bs) (o : -60<=s) (j:s<=60) :
  HS K aB aP aM (rows++[⟨"coupler",t,[.str a,.str b,.int s]⟩]) bs rk (ks++[⟨"coupler",t,[.str a,.str b,.int s]⟩]) (ls++[[]]) sts :=
 h.bu (.inr (.inl rfl)) ⟨(λi u=>by simp only[List.mem_cons,List.not_mem_nil,or_false,V.int.injEq,reduceCtorEq,false_or] at u;omega),by show 3<=24;decide⟩ λρ q e=>by
  have O:=h.ok ρ q e
  exact Oz F.f rfl w (O.fresh l v x) (by rw[O.az (.inr (.inl rfl))];exact p) g (O.RL d) c (O.RL f) o j
theorem HS.plain (F:Ye K aB aP aM) (h:HS K aB aP aM rows bs rk ks ls sts) {wd a:Str} (f:wd = "stop" \/ wd = "mute") (q:isNm t) (j:∀ b∈bs,b.1 ≠ t) (p:∀ r∈rk,r.1 ≠ t) (s:∀ k∈ks,k.nm ≠ t) (l:(ks.filter λr=>decide (V.str r.w=V.str wd)).length<Iv wd) (g:isNm a) (d:(a,n)∈bs) :
  HS K aB aP aM (rows++[⟨wd,t,[.str a]⟩]) bs rk (ks++[⟨wd,t,[.str a]⟩]) (ls++[[]]) sts:=by
 have c:wd = "stop" \/ wd = "coupler" \/ wd = "mute":=by rcases f with e | e;exact .inl e;exact .inr (.inr e)
 exact h.bu c ⟨(λi o=>by rcases List.mem_cons.mp o with e | e <;> cases e),by show 1<=24;decide⟩ λρ m e=>by
  have O:=h.ok ρ m e
  exact Ue F.f f rfl q (O.fresh j p s) (by rw[O.az c];exact l) g (O.RL d)
theorem HS.line (F:Ye K aB aP aM) {x:List Ln} (h:HS K aB aP aM rows bs rk ks (ls++[x]) sts) {k:Str} {cnt:Nat} (T:Tl rows k cnt) (J:cnt<4) {n:Nat} {Z sh lo hi:Int} (g:rk[j]? = some (t,m,Z)) (s:(rk.map (·.1)).Nodup) (L:isNm t) (LF:(k,n)∈bs) (p:lo<=hi) (Q:hi<(n:Int)) (M : -200<=sh) (I:sh<=200) (b3:0<=lo) (X:hi<=60) :
  HS K aB aP aM (rows++[⟨"line",t,[.int sh,.int lo,.int hi]⟩]) bs rk ks (ls++[x++[⟨j,sh,lo,hi⟩]]) sts:=by
 obtain⟨r0,st,lr,W,y,g2,g3,N⟩:=T
 have D:Gw "line" = false:=by decide
 refine⟨λρ us e=>?_,?_,?_,Gm h.lm (λ_=>List.mem_map.mpr ⟨_,List.mem_of_getElem? g,rfl⟩),Gm h.sm (λz=>absurd z (by show ¬ ("line" : Str) = "step";decide)),Gm h.wd (.inr (.inr (.inr (.inr (.inr (.inl rfl)))))),Gm h.pk ⟨(λi hi=>by simp only[List.mem_cons,List.not_mem_nil,or_false,V.int.injEq,reduceCtorEq,false_or] at hi;omega),by show 3<=24;decide⟩⟩
 ·obtain⟨a,v,rfl,G,b⟩:=Jo e
  have O:=h.ok ρ a G
  obtain⟨w,u1,o,m1,U⟩:=List.map_eq_append_iff.mp (G.trans W)
  obtain⟨c,q,e1,l,C⟩:=List.map_eq_cons_iff.mp U
  subst e1
  have A:c∈a:=by rw[o];simp
  have r:q.length=cnt:=by rw[<-g3,<-C,af]
  have S:a.length=w.length+(cnt+1):=by rw[o,al,bo,r]
  refine O.snoc ?_ ?_ ?_ (λ_ _ h=>h) (λ_=>⟨⟨j,_,sh,lo,hi,g,by rw[b],by rw[b]⟩,c,A,by rw[l,y];decide⟩) ?_
  ·rw[Eb (by unfold pw;rw[b];show decide (V.str "line" = V.str "board")=false;decide),O.eb]
  ·rw[Eb (by unfold pw;rw[b];show decide (V.str "line" = V.str "rank")=false;decide),O.er]
  ·rw[Eb (by rw[b];exact D),O.ek]
  ·rw[b]
   have d:a[a.length - 1 - cnt]? = some c:=by
    have:a.length - 1 - cnt=w.length:=by omega
    rw[this,o,dt (ah _),jv]
    rfl
   refine .inl ?_
   refine Uc F rfl L (O.gU (ai g)) M I b3 (by omega) (by omega) X O.jW ⟨cnt,c,sh,lo,hi,k,[],rfl,⟨λi Y=>?_,by omega,c,d,by rw[l,y];decide⟩,J,d,by rw[l,y],by rw[l,g2],p,?_⟩
   ·have f:cnt - 1 - i<q.length:=by omega
    refine⟨q[cnt - 1 - i],?_,?_⟩
    ·have:a.length - 1 - i=w.length+((cnt - 1 - i)+1):=by omega
     rw[this,o,dt (kD _ _),iF,List.getElem?_cons_succ]
     exact ae f
    ·refine N _ ?_
     rw[<-C]
     exact bb (et f)
   ·obtain⟨u,H,E⟩:=O.bw LF
    rw[gi]
    refine⟨u,bg.mpr ⟨H,?_⟩,?_⟩
    ·unfold pw
     rw[E]
     exact decide_eq_true rfl
    ·show (pn ρ k u && decide (hi<iJ (ρ u)))=true
     unfold pn
     rw[E,ff]
     exact⟨decide_eq_true rfl,decide_eq_true Q⟩
 ·rw[DN,h.ln]
  unfold Dr
  rw[if_neg (by show ¬ Gw "line" = true;rw[D];decide),if_pos rfl,Ib]
  have B:=(ag.mp g).1
  have:(rk.map (·.1)).idxOf t=j:=by
   have P:j<(rk.map (·.1)).length:=by rw[af];exact B
   have R:(rk.map (·.1))[j]=t:=by
    rw[kF]
    have:=(ag.mp g).2
    rw[this]
   rw[<-R]
   exact s.idxOf_getElem j P
  show ls++[x++[⟨(rk.map (·.1)).idxOf t,sh,lo,hi⟩]]=_
  rw[this]
 ·rw[Ro (by show ¬ ("line" : Str) = "step";decide)]
  exact h.st
theorem HS.step (h:HS K aB aP aM rows bs rk ks ls sts) (l:∃ t,W.nsIn K aM "step" = some (some (.int 12 t))) {t0:Str} {a:List Str} (C:(t0::a).Nodup) (g:(t0::a).length<=24) (c:∀ t∈t0::a,isNm t/\∃ k∈ks,k.w = "stop" /\ k.nm=t) (D:sts.length<12):HS K aB aP aM (rows++[⟨"step",t0,a.map V.str⟩]) bs rk ks ls (sts++[Wd.mk ((t0::a).map λt=>(ks.map (·.nm)).idxOf t)]):=by
 have d:V.str t0::a.map V.str=(t0::a).map V.str:=rfl
 have f:∀ t∈t0::a,t∈ks.map (·.nm):=λt j=>by
  obtain⟨_,k,y,_,rfl⟩:=c t j
  exact bb y
 refine⟨λρ E e=>?_,?_,?_,Gm h.lm (λz=>absurd z (by show ¬ ("step" : Str) = "line";decide)),Gm h.sm (λ_=>⟨t0::a,d,g,f⟩),Gm h.wd (.inr (.inr (.inr (.inr (.inr (.inr rfl)))))),Gm h.pk ⟨(λi x=>by obtain⟨t,_,e⟩:=List.mem_map.mp x;cases e),by show (a.map V.str).length<=24;rw[List.length_map];rw[List.length_cons] at g;omega⟩⟩
 ·obtain⟨m,v,rfl,n,b⟩:=Jo e
  have O:=h.ok ρ m n
  refine O.snoc ?_ ?_ ?_ (λ_ _ h=>h) (λz=>absurd (b ▸ z) (by show ¬ ("step" : Str) = "line";decide)) ?_
  ·rw[Eb (by unfold pw;rw[b];show decide (V.str "step" = V.str "board")=false;decide),O.eb]
  ·rw[Eb (by unfold pw;rw[b];show decide (V.str "step" = V.str "rank")=false;decide),O.er]
  ·rw[Eb (by rw[b];show Gw "step" = false;decide),O.ek]
  ·rw[b]
   obtain⟨p,l⟩:=l
   refine .inr ⟨rfl,⟨t0::a,d,C,g,λt j=>?_⟩,12,p,l,?_⟩
   ·obtain⟨w,k,o,A,B⟩:=c t j
    refine⟨w,Kg.mpr ?_⟩
    rw[<-O.ek] at o
    obtain⟨u,s,rfl⟩:=ay.mp o
    exact⟨u,(bg.mp s).1,A,B⟩
   ·have:(m.filter (pw ρ "step")).length=sts.length:=by
     rw[<-h.st,af,<-n,eR,af]
     rfl
    show (((m.filter (pw ρ "step")).length:Nat):Int)<12
    omega
 ·rw[DN,h.ln]
  rfl
 ·rw[fk,cq,h.st]
  have q:([(⟨"step",t0,a.map V.str⟩:R)]).filter Ze=[⟨"step",t0,a.map V.str⟩]:=rfl
  rw[q]
  show sts++[stN ks _]=_
  unfold stN
  rw[KC (r:=⟨"step",t0,a.map V.str⟩) d]
theorem HS.fin (h:HS K aB aP aM rows bs rk ks ls sts) (c:Paired (λ(r:R) v=>TupAt H r.v v) rows vs) (j:1<=bs.length) (m:bs.length<=5) (sz:∀ b∈bs,b.2<=61) (nr:rk.length<=12) (g:∀ r∈rk,r.2.1<=97) (l:ks.length<=100) (nb:(bs.map (·.1)).Nodup) (d:(rk.map (·.1)).Nodup) (n:(ks.map (·.nm)).Nodup) (len:rows.length<=150) :
  Rows H (Ly H) vs/\vP K aB aP aM (Ly H) vs bs rk ks/\linesOf rk (vs.map (Ly H))=ls/\((vs.filter (pw (Ly H) "step")).map λv=>stN ks (Ly H v))=sts:=by
 have a:=SM c
 have O:=h.ok (Ly H) vs a
 have i:Rows H (Ly H) vs:=λv e=>by
  obtain⟨r,_,f⟩:=Dl c e
  rw[K6 f]
  exact f
 refine⟨i,⟨O.eb,O.er,O.ek,O.ln,λv e k=>?_,j,m,sz,nr,g,l,nb,d,n,by rw[<-c.length];exact len,O.ok⟩,by rw[a];exact h.ln,?_⟩
 ·refine h.sm (Ly H v) ?_ k
  rw[<-a]
  exact bb e
 ·rw[<-h.st,<-a,eR,aE]
  rfl
end
def isBs (b:Str):Prop:=b.length<=6/\∀ c∈b.cps.toList,97<=c/\c<=122
def qD (n:Nat):Str:=⟨#[97+n]⟩
def xx (b:Str) (k:Nat):Str:=if 26<=k then b++qD (k % 26)++qD (k / 26 * 5 % 26) else b++qD (k % 26)
open PySem L2
structure zQ where
 p:Addr
 r:Addr
 b:Addr
 k:Addr
 n:Addr
 d:Addr
 s:Addr
inductive Dt where
 | stop (b:Nat) (L:Addr)
 | coup (a b:Nat) (s:Int)
 | mute (b:Nat)
def Dt.L:Dt->List Addr
 | .stop _ L=>[L]
 | _=>[]
structure Pl where
 rows:List R
 bs:List (Str × Nat)
 rk:List (Str × Nat × Int)
 ks:List R
 ls:List (List Ln)
 ds:List Dt
 ch:List (List Nat)
abbrev Pl.Ls (S:Pl):List Addr:=S.ds.flatMap Dt.L
inductive mW (H:Hp) (L:Addr) (l:List Ln):Prop
 | mk (ts:_):H L=some (.lst ts)->Paired (λ(y:Ln) z=>TupAt H (Yg y) z) l ts->mW H L l
def vh (H:Hp) (x:Dt × List Ln) (v:V):Prop:=match x.1 with
 | .stop b L=>TupAt H [.int (b:Nat),.ref L] v/\mW H L x.2
 | .coup a b s=>TupAt H [.int (a:Nat),.int (b:Nat),.int s] v
 | .mute b=>v=.int (b:Nat)
abbrev zq (r:Str × Nat × Int):List V:=[.str r.1,.int (r.2.1:Nat),.int r.2.2]
abbrev zr (r:R):List V:=[.str r.w,.str r.nm]
structure zu (H0 H:Hp) (A:zQ) (S:Pl) (Cs:List Addr) (lo:V):Prop where
 dp:∃ kvs:List (Key × V),H A.p=some (.dK kvs)/\kvs.length<=7/\Ce kvs (Sum.inr "rows")=some (.ref A.r)/\Ce kvs (Sum.inr "boards")=some (.ref A.b)/\Ce kvs (Sum.inr "ranks")=some (.ref A.k)/\Ce kvs (Sum.inr "knobs")=some (.ref A.n)/\Ce kvs (Sum.inr "details")=some (.ref A.d)/\Ce kvs (Sum.inr "steps")=some (.ref A.s)/\Ce kvs (Sum.inr "lines")=some lo
 nd:(A.r::A.b::A.k::A.n::A.d::A.s::(S.Ls++Cs)).Nodup
 sm:An H0 H
 f0:H0 A.p=none
 fr:∀ a∈A.r::A.b::A.k::A.n::A.d::A.s::S.Ls,H0 a=none
 r:∃ vs,H A.r=some (.lst vs)/\Paired (λ(r:R) v=>TupAt H r.v v) S.rows vs
 b:∃ vs,H A.b=some (.lst vs)/\Paired (λb v=>TupAt H (bV b) v) S.bs vs
 k:∃ vs,H A.k=some (.lst vs)/\Paired (λr v=>TupAt H (zq r) v) S.rk vs
 n:∃ vs,H A.n=some (.lst vs)/\Paired (λ(r:R) v=>TupAt H (zr r) v) S.ks vs
 d:∃ vs,H A.d=some (.lst vs)/\S.ds.length=S.ls.length/\Paired (vh H) (S.ds.zip S.ls) vs
 s:H A.s=some (.lst (Cs.map V.ref))
 c:Paired (λC (l:List Nat)=>H C=some (.lst (l.map λn:Nat=>V.int (n:Int)))) Cs S.ch
section
variable {H0:Hp} {A:zQ} {S:Pl} {Cs:List Addr} {lo:V}
end
variable {K:W.Frag}
def t_ (bs:List (Str × Nat)) (r:R):Dt->Prop
 | .stop b _=>r.w = "stop" /\ ∃ x,bs[b]? = some x/\r.rest=[.str x.1]
 | .coup a b s=>r.w = "coupler" /\ ∃ x y,bs[a]? = some x/\bs[b]? = some y/\r.rest=[.str x.1,.str y.1,.int s]
 | .mute b=>r.w = "mute" /\ ∃ x,bs[b]? = some x/\r.rest=[.str x.1]
structure PlOk (K:W.Frag) (aB aP aM:Addr) (base:Str) (S:Pl) (lo:V):Prop where
 bl:HS K aB aP aM S.rows S.bs S.rk S.ks S.ls (S.ch.map Wd.mk)
 nb:∀ x∈S.bs,∃ i,i<S.rows.length/\x.1=xx base i
 nr:∀ x∈S.rk,∃ i,i<S.rows.length/\x.1=xx base i
 nk:∀ x∈S.ks,∃ i,i<S.rows.length/\x.nm=xx base i
 db:(S.bs.map (·.1)).Nodup
 dr:(S.rk.map (·.1)).Nodup
 dk:(S.ks.map (·.nm)).Nodup
 b5:S.bs.length<=5
 sb:∀ x∈S.bs,1<=x.2/\x.2<=61
 r12:S.rk.length<=12
 sr:∀ x∈S.rk,1<=x.2.1/\x.2.1<=97
 lk:S.ks.length<=S.rows.length
 pd:Paired (t_ S.bs) S.ks S.ds
 ch:∀ l∈S.ch,l.Nodup/\∀ i∈l,∃ k,S.ks[i]? = some k/\k.w = "stop"
 op:lo=.non \/ ∃ ds0 b L x ls0 l0,S.ds=ds0++[.stop b L]/\S.ls=ls0++[l0]/\lo=.ref L/\S.bs[b]? = some x/\Tl S.rows x.1 l0.length
section
variable {base:Str} {S:Pl} {lo:V}
def nmK (ks:List R) (i:Nat):Str:=((ks[i]?).map (·.nm)).getD ""
abbrev kvs7 (a1 a2 a3 a4 a5 a6:Addr):List (Key × V):=[(Sum.inr "rows",.ref a1),(Sum.inr "boards",.ref a2),(Sum.inr "ranks",.ref a3),(Sum.inr "knobs",.ref a4),(Sum.inr "details",.ref a5),(Sum.inr "steps",.ref a6),(Sum.inr "lines",.non)]
end
def pOk (x:V):Prop:=(∃ t,x=.str t) \/ ∃ i,x=.int i
def z9 (H:Hp) (vs:List V):Prop:=∀ v∈vs,∃ (T:Addr) (xs:List V),v=.ref T/\H T=some (.tup xs)/\∀ x∈xs,pOk x
variable {K:W.Frag}
def rhoN (rows:List R):V->R
 | .int i=>(rows[i.toNat]?).getD ⟨"","",[]⟩
 | _=>⟨"","",[]⟩
end Og
namespace L2
open PySem PySem.Spec PyProof.Rows
open PySem PySem.Spec PySem.Calls PySem.Builtin PySem.Builtin.Str PyProof.Rows
end L2
namespace Og
open PySem L2
theorem VD (a b:List (Str × Nat)):∃ t,FQ (a++b)=FQ a++t:=by
 unfold FQ
 rw[List.zipIdx_append,List.flatMap_append]
 exact⟨_,rfl⟩
theorem Zm {bs:List (Str × Nat)} {b:Str × Nat} (h:bs[i]? = some b) (a:n<b.2):(FQ bs)[((bs.take i).map (·.2)).sum+n]? = some (i,n):=by
 obtain⟨t,e⟩:=VD (bs.take (i+1)) (bs.drop (i+1))
 rw[gu] at e
 have c:=Et (bs.take i)
 rw[e,Hj h,gd,dt (by omega),<-c,iF,fw (by rw[af,gE];exact a),am,List.getElem?_range a]
 rfl
def Tx (t:Str):Prop:=t.length<=1000/\∀ c∈t.cps.toList,c<128
theorem isNm.tx (h:isNm t):Tx t:=⟨by have:=h.2.1;omega,λc a=>by have:=h.2.2 c a;omega⟩
inductive Cm (H:Hp):V->Prop where
 | non:Cm H .non
 | bl (b:Bool):Cm H (.bl b)
 | int (i:Int):Cm H (.int i)
 | lst {a:Addr} {xs:List V} (h:H a=some (.lst xs)):Cm H (.ref a)
 | tup {a:Addr} {xs:List V} (h:H a=some (.tup xs)):Cm H (.ref a)
 | str {t:Str} (h:Tx t):Cm H (.str t)
theorem Cm.mono {v:V} (s:An H H') (h:Cm H v):Cm H' v:=by
 cases h with
 | non=>exact .non
 | bl b=>exact .bl b
 | int i=>exact .int i
 | lst h=>exact .lst (s _ _ h)
 | tup h=>exact .tup (s _ _ h)
 | str h=>exact .str h
def Ge (ns:List Str):V->V
 | .str t=>if t∈ns then .int ((ns.idxOf t:Nat):Int) else .non
 | _=>.non
theorem Js (h:t∈ns):ns[ns.idxOf t]? = some t:=by
 have a:=ge h
 rw[ae a,List.getElem_idxOf a]
def Xb (K:W.Frag) (C:Addr):Bool:=(W.findIn K (.ref C) "__getattribute__" == some (some (.builtin "BaseException.__getattribute__"))) && (W.findIn K (.ref C) "__getattr__" == some none) &&
 (W.mroIn K C (.type "BaseException") == some true) && W.hasDictIn K C && (W.findIn K (.ref C) "__class__" == some (some (.builtin "object.__class__"))) &&
 (W.specialIn K (.builtin "object.__class__") "__get__" == some (some (.builtin "getset_descriptor.__get__"))) && (W.takesIn K (.builtin "object.__class__") == some true) && (W.mroIn K C (.type "object") == some true) && W.keepIn K (.ref C)
theorem Pu {K:W.Frag} (h:Xb K C=true):qY K C/\W.keepIn K (.ref C)=true:=by
 simp only[Xb,Bool.and_eq_true,beq_iff_eq] at h
 obtain⟨⟨⟨⟨⟨⟨⟨⟨c,e⟩,d⟩,g⟩,f⟩,j⟩,a⟩,i⟩,b⟩:=h
 exact⟨⟨c,e,d,g,f,j,a,i⟩,b⟩
def Lp (K:W.Frag) (C cO:Addr) (ds:List Addr):Bool :=
 Xb K C && (W.kitOne K (.ref C) (.ref C) == some true) && (W.kitOne K (.ref C) (.type "ValueError") == some true) && (W.kitAny K (.ref C) (ds.map Value.ref) == some false) && (ds.all λD=>W.kitOne K (.ref C) (.ref D) == some false) &&
 W.excIn K C Qz "ValueError.__new__" && (W.mroIn K C (.ref cO) == some true)
structure Rc (K:W.Frag) (C cO:Addr) (ds:List Addr):Prop where
 xc:qY K C
 kp:W.keepIn K (.ref C)=true
 k0:W.kitOne K (.ref C) (.ref C)=some true
 kv:W.kitOne K (.ref C) (.type "ValueError")=some true
 ka:W.kitAny K (.ref C) (ds.map Value.ref)=some false
 kf:∀ D∈ds,W.kitOne K (.ref C) (.ref D)=some false
 ex:W.excIn K C Qz "ValueError.__new__" = true
 mro:W.mroIn K C (.ref cO)=some true
theorem Rc.of {K:W.Frag} {c:Addr} {a:List Addr} (h:Lp K C c a=true):Rc K C c a:=by
 unfold Lp at h
 simp only[Bool.and_eq_true,beq_iff_eq,List.all_eq_true] at h
 obtain⟨⟨⟨⟨⟨⟨b,g⟩,i⟩,j⟩,e⟩,d⟩,f⟩:=h
 exact⟨(Pu b).1,(Pu b).2,g,i,j,e,d,f⟩
structure Ex4 (K:W.Frag) (mg:Str->Option Value) (cK cP cB cS cO:Addr):Prop where
 verr:mg "ValueError" = none
 mK:mg "NoKnob" = some (.ref cK)
 mP:mg "NoPiston" = some (.ref cP)
 mB:mg "NoBoard" = some (.ref cB)
 mS:mg "NoStep" = some (.ref cS)
 mO:mg "OrganError" = some (.ref cO)
 exO:W.excIn K cO Qz "ValueError.__new__" = true
 rK:Rc K cK cO [cB,cP,cS]
 rP:Rc K cP cO [cB,cK,cS]
 rB:Rc K cB cO [cK,cP,cS]
 rS:Rc K cS cO [cB,cK,cP]
abbrev Ni:List Str:=["__init__","draw","pull","push","store","press","cancel","shoe","drawn","knobs","step"]
structure Dn (Cy:Addr) (H:Hp) (y x:Addr) (dr sh:Nat) (sd:Addr):Prop where
 ex:∃ dy fs,H y=some (.ins Cy dy fs)/\fs.lookup ("organ" : Str)=some (.ref x)/\fs.lookup ("drawn_set" : Str)=some (.int (dr:Nat))/\fs.lookup ("shoe_step" : Str)=some (.int (sh:Nat))/\fs.lookup ("stored" : Str)=some (.ref sd)/\fs.length<=4/\∀ m∈Ni,fs.lookup m=none
theorem Dn.mono {y x:Addr} (s:An H H') (h:Dn Cy H y x dr sh sd):Dn Cy H' y x dr sh sd:=by
 obtain⟨b,fs,c,a⟩:=h.ex
 exact⟨b,fs,s _ _ c,a⟩
structure eZ (C Cy:Addr) (Ho H:Hp) (y x:Addr) (us:List V) (bs:List (Str × Nat)) (rk:List (Str × Nat × Int)) (ks:List R) (ls:List (List Ln)) (sts:List Nat) (dr sh:Nat) (sd:Addr):Prop where
 o:Ip C Ho x us bs rk ks ls sts
 s:An Ho H
 n:Ho y=none
 c:Dn Cy H y x dr sh sd
theorem eZ.mono {y x:Addr} {bs:List (Str × Nat)} {rk:List (Str × Nat × Int)} (s:An H H') (h:eZ C Cy Ho H y x us bs rk ks ls sts dr sh sd):eZ C Cy Ho H' y x us bs rk ks ls sts dr sh sd :=
 ⟨h.o,h.s.trans s,h.n,h.c.mono s⟩
theorem Kw {f:Str} {v u:V}:∀ {fs:List (Str × V)},fs.lookup f=some u->(BV f v fs).length=fs.length
 | [],h=>by cases h
 | (g,x)::r,h=>by
  unfold BV
  by_cases e:g=f
  ·rw[if_pos e]
   rfl
  ·rw[if_neg e]
   rw[List.lookup_cons,show (f == g)=false from beq_eq_false_iff_ne.mpr (Ne.symm e)] at h
   rw[bo,bo,Kw h]
theorem Ew (f:Str) (v:V):∀ fs:List (Str × V),(BV f v fs).length<=fs.length+1
 | []=>ah _
 | (g,x)::r=>by
  unfold BV
  split
  ·exact iP _
  ·exact dA (Ew f v r)
theorem Dn.new {y a x:Addr} (h:H y=some (.ins Cy a (BV "stored" (.ref sd) (BV "shoe_step" (.int 0) (BV "drawn_set" (.int 0) (BV "organ" (.ref x) [])))))):Dn Cy H y x 0 0 sd:=by
 refine⟨a,_,h,?_,?_,?_,?_,?_,λm b=>?_⟩
 ·rw[Ak,if_neg (by decide),Ak,if_neg (by decide),Ak,if_neg (by decide),Ak,if_pos rfl]
 ·rw[Ak,if_neg (by decide),Ak,if_neg (by decide),Ak,if_pos rfl]
  rfl
 ·rw[Ak,if_neg (by decide),Ak,if_pos rfl]
  rfl
 ·rw[Ak,if_pos rfl]
 ·have d:=Ew "stored" (.ref sd) (BV "shoe_step" (.int 0) (BV "drawn_set" (.int 0) (BV "organ" (.ref x) [])))
  have g:=Ew "shoe_step" (.int 0) (BV "drawn_set" (.int 0) (BV "organ" (.ref x) []))
  have i:=Ew "drawn_set" (.int 0) (BV "organ" (.ref x) [])
  have j:=Ew "organ" (.ref x) []
  have k:([]:List (Str × V)).length=0:=rfl
  omega
 ·have ne:∀ f:Str,f ∉ Ni->¬ m=f:=λf c e=>c (e ▸ b)
  rw[Ak,if_neg (ne _ (by decide)),Ak,if_neg (ne _ (by decide)),Ak,if_neg (ne _ (by decide)),Ak,if_neg (ne _ (by decide))]
  rfl
theorem Dn.putD {y b x:Addr} {k sh:Nat} {fs:List (Str × V)} (n:Nat) (d:fs.lookup ("organ" : Str)=some (.ref x)) (i:fs.lookup ("drawn_set" : Str)=some (.int (k:Nat))) (f:fs.lookup ("shoe_step" : Str)=some (.int (sh:Nat))) (g:fs.lookup ("stored" : Str)=some (.ref sd)) (j:fs.length<=4) (c:∀ m∈Ni,fs.lookup m=none) (h:H y=some (.ins Cy b (BV "drawn_set" (.int (n:Nat)) fs))):Dn Cy H y x n sh sd:=by
 refine⟨b,_,h,?_,?_,?_,?_,by rw[Kw i];exact j,λm a=>?_⟩
 ·rw[Ak,if_neg (by decide)]
  exact d
 ·rw[Ak,if_pos rfl]
 ·rw[Ak,if_neg (by decide)]
  exact f
 ·rw[Ak,if_neg (by decide)]
  exact g
 ·rw[Ak,if_neg λe=>absurd a (by rw[e];decide)]
  exact c m a
theorem Dn.jc {y b x:Addr} {c sh:Nat} {fs:List (Str × V)} (n:Nat) (f:fs.lookup ("organ" : Str)=some (.ref x)) (j:fs.lookup ("drawn_set" : Str)=some (.int (c:Nat))) (g:fs.lookup ("shoe_step" : Str)=some (.int (sh:Nat))) (i:fs.lookup ("stored" : Str)=some (.ref sd)) (k:fs.length<=4) (d:∀ m∈Ni,fs.lookup m=none) (h:H y=some (.ins Cy b (BV "shoe_step" (.int (n:Nat)) fs))):Dn Cy H y x c n sd:=by
 refine⟨b,_,h,?_,?_,?_,?_,by rw[Kw g];exact k,λm a=>?_⟩
 ·rw[Ak,if_neg (by decide)]
  exact f
 ·rw[Ak,if_neg (by decide)]
  exact j
 ·rw[Ak,if_pos rfl]
 ·rw[Ak,if_neg (by decide)]
  exact i
 ·rw[Ak,if_neg λe=>absurd a (by rw[e];decide)]
  exact d m a
structure zx (K:W.Frag) (mg:Str->Option Value) (cH cO:Addr):Prop where
 verr:mg "ValueError" = none
 mH:mg "NotHeld" = some (.ref cH)
 mO:mg "OrganError" = some (.ref cO)
 exH:W.excIn K cH Qz "ValueError.__new__" = true
 rH:Rc K cH cO []
 mHH:W.mroIn K cH (.ref cH)=some true
abbrev WX:List Str:=["__init__","hold","leave","act","do","sound","held","knobs"]
structure Jf (Cp:Addr) (H:Hp) (z x y hd:Addr):Prop where
 ex:∃ dz fs,H z=some (.ins Cp dz fs)/\fs.lookup ("organ" : Str)=some (.ref x)/\fs.lookup ("console" : Str)=some (.ref y)/\fs.lookup ("hands" : Str)=some (.ref hd)/\∀ m∈WX,fs.lookup m=none
theorem Jf.mono {x y a:Addr} (s:An H H') (h:Jf Cp H z x y a):Jf Cp H' z x y a:=by
 obtain⟨e,fs,g,c,f,d,b⟩:=h.ex
 exact⟨e,fs,s _ _ g,c,f,d,b⟩
end Og
namespace L2
open PySem PySem.Spec PyProof.Rows
structure Us (K:W.Frag) (x qual:Str) (st:Stmt) (f:Addr) (fd:FuncData):Prop where
 ex:∃ (oc:Value) (od:Option Addr) (dV kV kN pm:Value) (an:Option Addr) (i4 ct:Value) (qf:Array (Option Value)),
  fd=W.fnOf x qual (DY st) (CZ st) (Ac st) dV kV kN pm an i4 ct/\K.lookup f=some ⟨oc,od,.func fd,qf⟩/\W.codeIn K i4 qual=true
 kp:W.keepIn K (.ref f)=true
section
variable {w:World} {K:W.Frag}
theorem ZK {st:Stmt} {i:Value} {m e:Option Addr} {j:Array (Option Value)} {g kV b h a d:Value} (l:K.lookup f=some ⟨i,m,.func (W.fnOf x qual (DY st) (CZ st) (Ac st) g kV b h e a d),j⟩)
  (c:W.codeIn K a qual=true) (k:W.keepIn K (.ref f)=true):Us K x qual st f (W.fnOf x qual (DY st) (CZ st) (Ac st) g kV b h e a d):=⟨⟨i,m,g,kV,b,h,e,a,d,j,rfl,l,c⟩,k⟩
theorem jB {t:Addr} {i:Value} {c:Option Addr} {a:Array Value} {e:Array (Option Value)} (lt:K.lookup t=some ⟨i,c,.seq a n,e⟩) (d:fd.defaults=.ref t)
  (h:∀ us:List Value,us.length=ps.length->∃ k,bindArgs fd ⟨us,[]⟩=seqItems? fd.defaults >>= k/\k (some a)=pure (ps.zip us)):Binds K fd ps []:=λs us g b=>by
 rw[eD] at b |-
 obtain⟨k,j,f⟩:=h us b
 exact BindsTo.of_defaults d (g _ _ lt) rfl j f
end
section
variable {K:W.Frag}
theorem Zo {a:List Value} {t:Addr} {i:Value} {c:Option Addr} {b:Array Value} {e:Array (Option Value)} (lt:K.lookup t=some ⟨i,c,.seq b n,e⟩) (d:fd.defaults=.ref t)
  (h:∀ us:List Value,(us++a).length=ps.length->∃ k,bindArgs fd ⟨us,[]⟩=seqItems? fd.defaults >>= k/\k (some b)=pure (ps.zip (us++a))):Binds K fd ps a:=λs us g j=>by
 obtain⟨k,l,f⟩:=h us j
 exact BindsTo.of_defaults d (g _ _ lt) rfl l f
end
open PySem PySem.Spec PySem.Calls PyProof.Rows
structure aX (K:W.Frag) (C:Addr) (m:Str) (f:Addr) (mc:Value):Prop where
 ga:W.specialIn K (.ref C) "__getattribute__" = some (some (.builtin "type.__getattribute__"))
 rd:W.readsIn K C mc=true
 fc:W.findCls K (.ref C) mc m=some (.val (.ref f))
 kp:W.keepIn K (.ref f)=true
section
variable {CX:QT} {k:Nat} {sp:Sp} {k6:List V} {ds:List Value} {E:XK} {m:Str} {p:Pos} {t:TA} {mc:Value}
theorem QZ {pl:Sem Bool} (K:Gl X x) (A:X.mg x=some (.ref C)) (M:aX X.K C m f mc) (F:Ao X.prog X.w X.K X.mg X.base CX k f fd ps sp) (w:A_ k X.A) (N:Binds X.K fd ps ds) (q:Vals k6 ds) (n:Ga CX X E) (L:PA X (e::es) t)
  (G:(x == ("__debug__" : Str))=false:=by decide)
  (c:starEach (e::es) X.env=(false,eval e X.env)::starEach es X.env:=by rfl) (a:(backTo pos (starEach es X.env)).any (·.1)=false:=by rfl)
  (y:eval (.Call (.Attribute (.Name x p) m d6) (e::es) [] pos) X.env=(do
   let ov <-eval (.Name x p) X.env
   standAt d6.atName
   let (f,first) <-holding [ov] (getMethod ov m pl)
   callWith pos f first (backTo pos (starEach (e::es) X.env)) (backToKw pos (keywordEach [] X.env))):=by rfl) :
  PE X (.Call (.Attribute (.Name x p) m d6) (e::es) [] pos) (bH sp k6 E t):=by
 intro i s σ H Q I h
 have O:PE X (.Name x p) (tC (.ref C)):=Cw K A rfl G
 refine W.methodCall_KW (pl:=pl) (CJ (O i s σ H (λv b=>v=.ref C/\b=H) I ⟨rfl,rfl⟩) λu B ⟨v,b,d,D,z,P⟩=>?_) y
 subst z
 subst P
 obtain rfl:u=Value.ref C:=D
 refine W.method_cls d.Gy M.ga (W.cls_value d.Gy M.rd M.fc rfl ?_)
 have o:=d.tok (B.toks+1)
 refine W.callWith_K (first:=[]) (h₀:=X.base) I.ok.mod.kin M.kp (CJ (L pos i _ σ b _ o h) λj R ⟨l,S,g,r,J⟩=>⟨g.Gy,?_⟩) c a
 exact J6 (us:=j) (vs:=l) F w N q n g r J
end
section
variable {CX:QT} {k:Nat} {f1 f2 C1 C2:Addr} {XG ZB:FuncData} {ZU WZ:List Str} {AL C9:Sp} {E:XK} {m:Str} {p:Pos} {o:Expr} {t:TA}
inductive R_ (C1 C2:Addr) (m:Str) (AL C9:Sp) (E:XK) (t:TA) (σ:St) (Q:VK) (x:V) (H1:Hp):Prop
 | mk (a dx fs:_):x=.ref a->fs.lookup m=none->((H1 a=some (.ins C1 dx fs)/\t σ H1 λvs H2=>AL (x::(vs++[])) H2 Q E) \/ (H1 a=some (.ins C2 dx fs)/\t σ H1 λvs H2=>C9 (x::(vs++[])) H2 Q E))->R_ C1 C2 m AL C9 E t σ Q x H1
def fJ (C1 C2:Addr) (m:Str) (AL C9:Sp) (E:XK) (ta:TE) (t:TA):TE:=λσ H Q=>ta σ H λx H1=>R_ C1 C2 m AL C9 E t σ Q x H1
theorem Xh {pl:Sem Bool} (R:PE X o ta) (S:Oe X.K C1) (D:Meth X.K C1 m f1) (J:Ao X.prog X.w X.K X.mg X.base CX k f1 XG ZU AL) (n:Binds X.K XG ZU [])
  (N:Oe X.K C2) (A:Meth X.K C2 m f2) (T:Ao X.prog X.w X.K X.mg X.base CX k f2 ZB WZ C9) (y:Binds X.K ZB WZ []) (B:A_ k X.A) (z:Ga CX X E) (F:PA X (e::es) t)
  (d:starEach (e::es) X.env=(false,eval e X.env)::starEach es X.env:=by rfl) (g:(backTo pos (starEach es X.env)).any (·.1)=false:=by rfl)
  (L:eval (.Call (.Attribute o m d6) (e::es) [] pos) X.env=(do
   let ov <-eval o X.env
   standAt d6.atName
   let (f,first) <-holding [ov] (getMethod ov m pl)
   callWith pos f first (backTo pos (starEach (e::es) X.env)) (backToKw pos (keywordEach [] X.env))):=by rfl) :
  PE X (.Call (.Attribute o m d6) (e::es) [] pos) (fJ C1 C2 m AL C9 E ta t):=by
 intro v s σ H Q I h
 refine W.methodCall_KW (pl:=pl) (CJ (R v s σ H _ I h) λu C ⟨x,G,j,O,a,U,fs,M,l,q⟩=>?_) L
 subst M
 obtain rfl:u=Value.ref a:=O
 rcases q with⟨p,q⟩ | ⟨p,q⟩
 ·refine Fy j p S D l ?_
  refine W.callWith_K (first:=[.ref a]) (h₀:=X.base) I.ok.mod.kin D.kp (CJ (F pos v C σ G _ j q) λc P ⟨i,K,b,r,w⟩=>⟨b.Gy,?_⟩) d g
  exact J6 (us:=.ref a::c) (vs:=.ref a::i) J B n .nil z b (.cons rfl r) w
 ·refine Fy j p N A l ?_
  refine W.callWith_K (first:=[.ref a]) (h₀:=X.base) I.ok.mod.kin A.kp (CJ (F pos v C σ G _ j q) λc P ⟨i,K,b,r,w⟩=>⟨b.Gy,?_⟩) d g
  exact J6 (us:=.ref a::c) (vs:=.ref a::i) T B y .nil z b (.cons rfl r) w
end
section
variable {w:World} {K:W.Frag}
theorem Us.uM {st:Stmt} {N:List Str} {k:Nat} {sp:Sp} (F:Us K x qual st f fd) (S:Aq N ps (Ac st)) (len:∀ vs H Q E,sp vs H Q E->vs.length=ps.length)
  (e:∀ (b:Value) (A:Around) (a:List Env) (s:Shared) (H:Hp) (vs:List V) (Q:VK) (E:XK),A_ k (A.deeper (envOfC qual (Ac st) s.heap.objs.size f b))->sp vs H Q E ->
   ∃ t,Nh (J_ (Gh P w) P w K mg base N qual (Ac st) f b A a s H E) (CZ st) t/\t { nx:=λ_ H'=>Q .non H',rt:=Q } (start N vs) H):Ao P w K mg base (Gh P w) (k+1) f fd ps sp:=by
 obtain⟨l,u,p,kV,j,r,m,b,o,n,rfl,c,i⟩:=F.ex
 refine Vs c i S len λA a s H vs Q E g d=>?_
 obtain⟨t,h,q⟩:=e b A a s H vs Q E g d
 exact⟨t,h,q⟩
theorem Us.Jl {st:Stmt} {N:List Str} {k:Nat} {sp:Sp} (F:Us K x qual st f fd) (S:Aq N ps (Ac st))
  (c:∀ {b:Value} {A:Around} {a:List Env} {s:Shared} (H:Hp) (vs:List V) (Q:VK) (E:XK),A_ k (A.deeper (envOfC qual (Ac st) s.heap.objs.size f b))->sp vs H Q E ->
   ∃ t,Nh (J_ (Gh P w) P w K mg base N qual (Ac st) f b A a s H E) (CZ st) t/\t { nx:=λ_ H'=>Q .non H',rt:=Q } (start N vs) H)
  (len:∀ vs H Q E,sp vs H Q E->vs.length=ps.length:=by intro _ _ _ _ h;cases h;subst_vars;rfl):Ao P w K mg base (Gh P w) (k+1) f fd ps sp:=F.uM S len λ_ _ _ _ H vs Q E=>c H vs Q E
end
end L2
namespace Og
open PySem L2
structure yG (K:W.Frag) (mg:Str->Option Value) (pB pE pA:Addr):Prop where
 mB:mg "Piston" = some (.ref pB)
 mE:mg "Every" = some (.ref pE)
 mA:mg "Part" = some (.ref pA)
 cE:Oe K pE
 cA:Oe K pA
 nEk:Cg K pE "knob_set"
 nAk:Cg K pA "knob_set"
 nAw:Cg K pA "whole_set"
 most:∃ t,mg "PISTON_COUNT" = some (.int 10 t)
inductive Ps where
 | every (k:Nat)
 | part (k w:Nat)
def Ps.put:Ps->Nat->Nat
 | .every k,_=>k
 | .part k w,d=>(d - (d &&& w)) ||| k
def HN (pE pA:Addr) (H:Hp) (o:Addr):Ps->Prop
 | .every k=>∃ dx,H o=some (.ins pE dx [("knob_set",.int (k:Nat))])
 | .part k w=>∃ dx,H o=some (.ins pA dx [("knob_set",.int (k:Nat)),("whole_set",.int (w:Nat))])
structure WD (pE pA:Addr) (H:Hp) (sd:Addr) (m:Nat->Option Ps) (c:Nat):Prop where
 ex:∃ kvs:List (Key × V),H sd=some (.dK kvs)/\kvs.length<=c/\(∀ p,p<10->m p=none->Ce kvs (Sum.inl (p:Nat))=none)/\∀ p ps,p<10->m p=some ps->∃ o,Ce kvs (Sum.inl (p:Nat))=some (.ref o)/\HN pE pA H o ps
theorem HN.keep {o:Addr} {ps:Ps} (h:HN pE pA H o ps) (f:∀ c dx fs,H o=some (.ins c dx fs)->H' o=some (.ins c dx fs)):HN pE pA H' o ps:=by
 cases ps with
 | every k =>
  obtain⟨dx,e⟩:=h
  exact⟨dx,f _ _ _ e⟩
 | part k w =>
  obtain⟨dx,e⟩:=h
  exact⟨dx,f _ _ _ e⟩
theorem WD.mono {m:Nat->Option Ps} {c:Nat} (s:An H H') (h:WD pE pA H sd m c):WD pE pA H' sd m c:=by
 obtain⟨a,g,k,n,l⟩:=h.ex
 refine⟨a,s _ _ g,k,n,λp i d j=>?_⟩
 obtain⟨o,b,f⟩:=l p i d j
 exact⟨o,b,f.keep λ_ _ _ e=>s _ _ e⟩
structure ExY (K:W.Frag) (mg:Str->Option Value) (cY cD cP:Addr):Prop where
 mY:mg "NoKey" = some (.ref cY)
 mD:mg "NoDeed" = some (.ref cD)
 exY:W.excIn K cY Qz "ValueError.__new__" = true
 mPP:W.mroIn K cP (.ref cP)=some true
 exD:W.excIn K cD Qz "ValueError.__new__" = true
def wH:List (Str × List V):=[("hold",[.int 3]),("leave",[.int 3]),("pull",[.int 2]),("push",[.int 2]),("store",[.int 2,.int 3]),("press",[.int 2]),("cancel",[.int 1]),("shoe",[.int 2])]
abbrev Pt:=Nat × Nat
def Wlk (nx:Pt->Option Pt) (p0:Pt) (ps:List Pt):Prop:=∀ (i:Nat) (p q:Pt),(p0::ps)[i]? = some p->(p0::ps)[i+1]? = some q->nx p=some q
def zV (s0 s1 b:Nat):Nat:=if b=0 then s0 else s1
def enc (s0:Nat) (p:Pt):Nat:=p.1 * s0+p.2
abbrev Way:=Option (Nat × Int)
def wy (w0 w1:Way) (b:Nat):Way:=if b=0 then w0 else w1
def nxt (s0 s1:Nat) (w0 w1:Way) (p:Pt):Option Pt:=match wy w0 w1 p.1 with
 | none=>none
 | some (g,s)=>if 0<=(p.2:Int)+s/\(p.2:Int)+s<(zV s0 s1 g:Nat) then some (g,((p.2:Int)+s).toNat) else none
structure OnB (s0 s1:Nat) (p:Pt):Prop where
 b:p.1<2
 n:p.2<zV s0 s1 p.1
structure Fit (kbs:List Kb) (D:Nat) (w0 w1:Way):Prop where
 out:∀ k z,D.testBit k=true->kbs[k]? = some z->∃ j1 j2 s,z=.cp j1 j2 s/\wy w0 w1 j1=some (j2,s)/\j2<2
 back:∀ b g s,b<2->wy w0 w1 b=some (g,s)->∃ k,D.testBit k=true/\kbs[k]? = some (.cp b g s)
inductive d7 (nx:Pt->Option Pt) (hd:Pt->Prop):Pt->Prop
 | one {p q:Pt}:hd p->nx p=some q->d7 nx hd q
 | more {p q:Pt}:d7 nx hd p->nx p=some q->d7 nx hd q
structure Fit2 (kbs:List Kb) (D:Nat) (w0 w1:Way):Prop where
 out:∀ (k:Nat) (z:Kb),D.testBit k=true->kbs[k]? = some z->(∃ w i,z=.pl w i) \/ ∃ j1 j2 s,z=.cp j1 j2 s/\wy w0 w1 j1=some (j2,s)/\j2<2
 back:∀ b g s,b<2->wy w0 w1 b=some (g,s)->∃ k:Nat,D.testBit k=true/\kbs[k]? = some (.cp b g s)
end Og
namespace L2
open PySem PySem.Spec PySem.Calls PyProof.Rows
theorem V7 (c:X.A.units<cLine):G4 X (compareOp .NotEq) (λx y H Q=>∃ p q xs,x=V.ref p/\y=V.ref q/\Dc X.K H p xs/\Dc X.K H q []/\Q (.bl (!xs.isEmpty)) H):=by
 intro D s σ H x y v u Q I A t h
 obtain⟨p,q,xs,rfl,rfl,w,i,k⟩:=h
 cases A
 cases t
 obtain⟨o,r,f,E⟩:=I.list w
 obtain⟨B,m,g,l⟩:=I.list i
 have d:=r.length
 cases m
 cases xs with
 | nil =>
  cases r
  refine SeqAt.RcNeAt.lists (e:=λ_=>true) f.isList g.isList rfl c (λj n C=>?_) _ _ _ _ ⟨.bl _,H,I,rfl,k⟩
  exact absurd n (iE _)
 | cons a b =>
  refine SeqAt.RcNeAt.lists_lengths f.isList g.isList (by simp;intro z;rw[z] at d;simp at d) c _ _ _ _ ⟨.bl _,H,I,rfl,k⟩
end L2
namespace Gn
theorem iV {a b:Nat} (h:a &&& b=0):a+b=a ||| b:=by
 have d:a<2 ^ (a+b+1):=ja (ar (kD a b) (fF _)) ku
 have e:b<2 ^ (a+b+1):=ja (ar (Nat.le_add_left b a) (fF _)) ku
 have c:a+b<2 ^ (a+b+1):=ja (fF _) ku
 have:=BitVec.add_eq_or_of_and_eq_zero (BitVec.ofNat (a+b+1) a) (BitVec.ofNat (a+b+1) b) (by
  apply BitVec.eq_of_toNat_eq
  rw[BitVec.toNat_and,BitVec.toNat_ofNat,BitVec.toNat_ofNat,ix d,ix e,h]
  simp)
 have:=congrArg BitVec.toNat this
 rw[BitVec.toNat_add,BitVec.toNat_or,BitVec.toNat_ofNat,BitVec.toNat_ofNat,ix d,ix e,ix c] at this
 exact this
theorem Yz (D M k:Nat):(D - (D &&& M)).testBit k=(D.testBit k && !M.testBit k):=by
 have a:(D &&& M) &&& (D ^^^ (D &&& M))=0:=fN λi=>by
  simp only[Nat.testBit_and,Nat.testBit_xor,Nat.zero_testBit]
  cases D.testBit i <;> cases M.testBit i <;> rfl
 have b:(D &&& M)+(D ^^^ (D &&& M))=D:=by
  rw[iV a]
  refine fN λi=>?_
  simp only[Nat.testBit_and,Nat.testBit_xor,Nat.testBit_or]
  cases D.testBit i <;> cases M.testBit i <;> rfl
 have e:D - (D &&& M)=D ^^^ (D &&& M):=by omega
 rw[e]
 simp only[Nat.testBit_and,Nat.testBit_xor]
 cases D.testBit k <;> cases M.testBit k <;> rfl
end Gn
namespace L2
open PySem PySem.Spec PySem.Calls PyProof.Rows
inductive j_ (K:W.Frag) (O:Addr) (ts:TS) (D:Ends) (C:Value) (od:Option Addr) (σ:St) (H2:Hp):Prop
 | mk (Ca:_):C=.ref Ca->W.mroIn K Ca (.ref O)=some true->ts D σ H2->j_ K O ts D C od σ H2
def lV (K:W.Frag) (tb:XR->TS) (O:Addr) (ts:TS):TS:=λD σ H=>tb (j_ K O ts D) D σ H
section
variable {O:Addr} {cn:Str} {np xh:Pos} {body:List Stmt} {b0:Stmt} {pj:List Stmt} {ts:TS} {tb:XR->TS}
theorem ZG (hb:∀ ER,qW X ER body (tb ER)) (H:Gl X cn) (F:X.mg cn=some (.ref O)) (qO:W.excIn X.K O Qz "ValueError.__new__" = true)
  (hs:∀ x,Nh (X.inX x) (b0::pj) ts) (K0:X.xe=λ_ _=>False:=by rfl) (B:X.stack=X.env::X.outer:=by rfl) (SE:X.env.frame=some X.env.locals:=by rfl) (I:(cn == ("__debug__" : Str))=false:=by decide) :
  PS X (.Try body [.ExceptHandler (some (.Name cn np)) none (b0::pj) xh] [] [] pos) (lV X.K tb O ts):=by
 intro m s₀ σ₀ H₀ D I₀ h₀
 refine wpAny_Try_except (wpAny_mono (hb _ m s₀ σ₀ H₀ D I₀ h₀) (λK s' q=>?_) λn s' q=>?_)
 ·cases K with
  | next=>exact wpAny_execs_nil q
  | brk=>exact q
  | cont=>exact q
  | ret u=>exact q
 ·obtain⟨σ,H1,c,f,x,T,C,od,i,rfl,os,a,y,Q,nT,E,oC,S,P,Ca,eC,Fn,M⟩:=q
  cases eC
  obtain⟨k,g,e,d,DL⟩:=s'
  obtain rfl:DL=c.os:=os
  have Z:Inv X m σ i ⟨k,g,e,d,c.os⟩:=f.call (h':=k) (g':=g) (d':=e) (t':=d) (ch:=[]) P S a (λb z=>absurd z (by simp))
  have t:=f.ok.frames
  have p:=Z.stack
  rw[B] at t p
  refine TQ (s:=⟨k,g,e,d,c.os⟩) t p SE y λU T3 y3 m3 n3=>?_
  refine GR (s:=⟨U,g,e,d,c.os⟩) y3 λA V m4=>?_
  have r:c.heap.get? T3=none:=by
   cases z:c.heap.get? T3 with
   | none=>rfl
   | some o =>
    obtain⟨o',n⟩:=P.there T3 o z (by simp)
    have N:k.get? T3=none:=n3
    rw[N] at n;cases n
  have w:i T3=none:=S.none_of n3
  have l:Mv (frs X.stack) x T k U:=by rw[B];exact m3
  have u3:=P.mv l Q nT (λb z z'=>absurd z z')
  have u4:=u3.mv m4 Q r (λ_ z=>nomatch z)
  have k3:GD X.prog X.w i U:=S.mv l E oC Z.Ie
  have k4:GD X.prog X.w i A:=k3.mv m4 E w (λ_ z=>nomatch z)
  have I4:Inv X m σ i ⟨A,g,e,d,c.os⟩:=f.call (h':=A) (g':=g) (d':=e) (t':=d) (ch:=[]) u4 k4 a (λb z=>absurd z (by simp))
  refine wpAny_handleBy_cons (codeAny_handlers_test (JR (I4.inX x) H F ?_ I)) (by intro q;cases q)
  obtain⟨ws,wt,sl,oT,ex,_⟩:=id V
  refine PL (s:=⟨A,g,e,d,c.os⟩) I4.Gy ex qO Fn ?_
  refine codeAny_handlers_suite (GR (s:=⟨A,g,e,d,c.os⟩) V λL y5 m5=>?_)
  have u5:=u4.mv m5 Q r (λ_ z=>nomatch z)
  have k5:GD X.prog X.w i L:=k4.mv m5 E w (λ_ z=>nomatch z)
  have I5:Inv X m σ i ⟨L,g,e,d,c.os⟩:=f.call (h':=L) (g':=g) (d':=e) (t':=d) (ch:=[]) u5 k5 a (λb z=>absurd z (by simp))
  refine wpAny_mono (hs x m _ _ _ _ (I5.inX x) M) (λK Y j=>?_) λn Y j=>?_
  ·cases K with
   | next=>obtain⟨G,R,J,h⟩:=j;exact⟨_,_,J.Zg f.ok,h⟩
   | brk=>obtain⟨G,R,J,h⟩:=j;exact⟨_,_,J.Zg f.ok,h⟩
   | cont=>obtain⟨G,R,J,h⟩:=j;exact⟨_,_,J.Zg f.ok,h⟩
   | ret u=>obtain⟨v,G,R,J,rv,h⟩:=j;exact⟨_,_,_,J.Zg f.ok,rv,h⟩
  ·have X0:X.xe n Y:=j
   rw[K0] at X0
   exact X0.elim
end
open PySem PySem.Spec PyProof.Rows
end L2
namespace Og
end Og
namespace L2
open PySem PySem.Spec PyProof.Rows
section
variable {o f:Expr} {g0:Pos} {td ty tx:TE}
inductive Rw (K:W.Frag) (P:Params) (ty tx:TE) (σ:St) (Q:VK) (x:V) (H1:Hp):Prop
 | mk (a:_):x=.ref a->KDict K P a->(ty σ H1 λy H2=>tx σ H2 λd H3=>∃ z r,y=.str z/\W.nsIn K a z=some r/\∃ v,RelV v (r.getD .none)/\(r.isSome=true->Q v H3)/\(r.isSome=false->Q d H3))->Rw K P ty tx σ Q x H1
def fL (K:W.Frag) (P:Params) (td ty tx:TE):TE:=λσ H Q=>td σ H λx H1=>Rw K P ty tx σ Q x H1
theorem YH (V:PE X o td) (Y:PE X e ty) (E:PE X f tx) (m:M2 X o "get" d6 e f g0):PE X (.Call (.Attribute o "get" d6) [e,f] [] g0) (fL X.K X.w.params td ty tx):=by
 intro i s σ H Q I h
 refine wpAny_Call_method m.base m.few m.line gL fe jp (CJ (V i s σ H _ I h) λu L J=>?_)
 obtain⟨x,H1,j,K,a,F,d,A⟩:=J
 subst F
 obtain rfl:u=Value.ref a:=K
 obtain⟨⟨es,n,c,p⟩,lo⟩:=d
 have O:=W.mapOf_K (prog:=X.prog) j.Gy c p
 refine⟨O.typeIs,λb q=>?_,?_⟩
 ·cases q
  exact⟨_,j.Gy _ _ c,rfl⟩
 rw[m.trees]
 refine Calls.callWith_builtin rfl (Calls.evalArgs_plain (Calls.spliced_cons (CJ (Y i L σ H1 _ j A) λiv S ⟨y,B,w,C,U⟩ =>
  Calls.spliced_cons (CJ (E i S σ B _ w U) λZ s3 ⟨P,l,g,G,z,r,D,T,v,M,R,N⟩=>Calls.spliced_nil ?_))))
 subst D
 obtain⟨t,rfl⟩:=C
 have k:=W.mapOf_K (prog:=X.prog) g.Gy c p
 refine call_meetsIn fe k.typeIs PySem.F.entry_dict_get (PySem.F.args_dict_get_3 _ _ _) (meets_dict_get_default (strKind X.prog X.w) a (strKind_is X.prog X.w z t) lo Z) ⟨_,k,?_⟩
 rw[W.find_K c T]
 cases r with
 | none=>exact⟨P,l,g.tok _,G,N rfl⟩
 | some u=>exact⟨v,l,g.tok _,M,R rfl⟩
end
theorem Bo {X:Cx} {x:Str} {e:Expr} {b:TE} {c a:Pos} (i:Nat) (j:X.N.Nodup) (hi:X.N[i]? = some x) (d:Loc X.env.scope x) (f:PE X e b) (g:swapsWith e (some (.Name x c)) a.line X.env=pure false) (h:X.fn x=true \/ X.env.scope.names.lookup x=some .local) :
  PS X (.Assign [.Name x c] e a) (RW b (Dh i)):=Bh j hi d f g h
theorem Ay {X:Cx} {e:Expr} {a:List Expr} {b:TE} {t:TA} (h:starEach (e::a) X.env=(false,eval e X.env)::starEach a X.env) (c:PE X e b) (d:PA X a t):PA X (e::a) (cG b t):=Aa c d h
end L2
namespace Og
open PySem L2
def z_ (kd a k:Nat):Str:=if kd=0 then qD k++Txt.mul "v" (a:Nat) else if kd=1 then Txt.mul "o" (((1+k % 6:Nat)):Int)++Txt.mul "b" (((k / 6:Nat)):Int) else (Txt.slice "qrst" none (some (a:Nat))++qD k)++Txt.slice "qrst" (some (a:Nat)) none
def nmB (z:Str):Bool:=decide (1<=z.length) && decide (z.length<=8) && z.cps.toList.all (λc=>decide (97<=c/\c<=122)) && (match z.cps.toList with | c::_=>decide (c<=116) | []=>false)
def hdC (z:Str):Nat:=z.cps.toList.headD 0
structure zT where
 rows:List R
 bs:List (Str × Nat)
 rk:List (Str × Nat × Int)
 ks:List R
 ls:List (List Ln)
 sts:List Nat
 sn:List Str
structure zm (K:W.Frag) (aB aP aM:Addr) (kd a i m:Nat) (S:zT):Prop where
 bl:HS K aB aP aM S.rows S.bs S.rk S.ks S.ls S.sts
 rb:∀ (j:Nat) b,S.bs[j]? = some b->S.rows[j]? = some (Ef b)
 b1:1<=S.bs.length
 b3:S.bs.length<=3
 sb:∀ b∈S.bs,isNm b.1/\120<=hdC b.1/\1<=b.2/\b.2<=61
 db:(S.bs.map (·.1)).Nodup
 rk1:∃ (m:Nat) (wi:Int),S.rk=[(("u" : Str),m,wi)]/\1<=m/\m<=97
 ek:S.rows.filter (λr=>Gw r.w)=S.ks
 nk:S.ks.map (·.nm)=(List.range i).map (z_ kd a)
 sn:∀ t∈S.sn,∃ k∈S.ks,k.w = "stop" /\ k.nm=t
 sd:S.sn.Nodup
 sl:S.sn.length<=i
 st:S.sts.length<=i
 lr:S.rows.length<=m
 kb:∀ r∈S.ks,∃ b∈S.bs,∃ rs,r.rest=V.str b.1::rs
 bz:∀ b∈S.bs,b.1 ≠ "zz"
section
variable {K:W.Frag} {kd a:Nat} {S:zT}
end
end Og
namespace L2
open PySem PySem.Spec PySem.Calls PyProof.Rows
theorem Inv.freeze (I:Inv X a8 σ H s) (e:H a=some (.dK kvs)):∃ o,Inv X a8 σ (upd H a (.frz o (.dK kvs))) s:=by
 have g:CT X.prog X.w H s.heap a (.dK kvs):=I.hok a _ e
 obtain⟨_,_,r,j,f,l,p,k,_⟩:=id g
 have up1:∀ b x,H b=some (.own x)->upd H a (.frz f (.dK kvs)) b=some (.own x):=λb x q=>by
  rw[Aw λz=>by rw[z,e] at q;cases q];exact q
 have d:∀ b i,H b=some (.tup i)->upd H a (.frz f (.dK kvs)) b=some (.tup i):=λb x q=>by
  rw[Aw λz=>by rw[z,e] at q;cases q];exact q
 refine⟨f,I.step (h':=s.heap) (g':=s.gens) (d':=s.drawn) (t':=s.toks) (ch:=[]) (λ_ z=>nomatch z) (λb o _ _ _ q _=>q) (λb o _ _ _ q _=>⟨o.slots,q⟩) (λb o _ _ n=>?_) (λb o _ q=>⟨o,q⟩) d (λb o u q=>?_) (λb t q=>⟨#[],?_⟩) (λm q=>q) (λb u q=>?_) I.bare⟩
 ·rw[Aw λz=>by rw[z,e] at n;cases n];exact n
 ·rw[Aw λz=>by rw[z,e] at q;cases q];exact q
 ·rw[Aw (λz=>by rw[z,e] at q;cases q),q];simp
 ·by_cases h:b=a
  ·subst h
   rw[Al] at q
   cases q
   exact⟨k,g.stay (λ_ _ _ q=>q) (λc q=>up1 c _ q) d⟩
  ·rw[Aw h] at q
   exact (I.hok b u q).stay (λ_ _ _ q=>q) (λc q=>up1 c _ q) d
def V4 (o:Obj):Nat:=match o.data with | .dict _ n=>n | _=>0
def tO (a:Addr) (o:Obj) (kvs:List (Key × V)):It :=
 ⟨λi H=>H a=some (.frz o (.dK kvs))/\i<kvs.length,λi H v H'=>∃ T kv,H T=none/\v=.ref T/\kvs[i]? = some kv/\H'=upd H T (.tup [kV kv.1,kv.2]),λi H=>H a=some (.frz o (.dK kvs))/\kvs.length<=i⟩
theorem qg {w:World} {k:Key} (h:(Bw P w).is k u=true):RelV (kV k) u:=by
 rcases Cr (show Kc k u=true from h) with⟨i,t,rfl,rfl⟩ | ⟨x,t,rfl,rfl⟩
 ·exact⟨t,rfl⟩
 ·exact⟨t,rfl⟩
theorem jG:∀ {l:List (Key × V)} {m:List (Key × Value)},KV l m->∀ {j:Nat} {p:Key × V},l[j]? = some p->∃ q,m[j]? = some q/\p.1=q.1/\RelV p.2 q.2:=by
 intro l m h
 unfold KV at h
 induction h with
 | nil=>intro j p c;simp at c
 | cons a b d =>
  intro j p c
  cases j with
  | zero =>
   simp at c
   subst c
   exact⟨_,rfl,a⟩
  | succ j=>exact d (by simpa using c)
theorem QV {w:World} {K:W.Frag} {k1:Nat} (a d:Addr) (o:Obj) (kvs:List (Key × V)) (ab:a ≠ d) :
  Turn P w K (.Tuple es k1 pos) (tO a o kvs) [d] d (λi h=>∃ ok ov,IsItemIter h d a i kvs.length (V4 o) ok ov) where
 mem:=by simp
 obj:=λi h st b f=>by
  obtain⟨ok,ov,c⟩:=st
  have q:b=d:=by simpa using f
  subst q
  exact⟨_,c,λv z=>by
   have z':Data.fields _=Data.cell v:=z
   cases z'⟩
 keep:=λi h h' st k=>by
  obtain⟨ok,ov,c⟩:=st
  exact⟨ok,ov,k d (by simp) _ c⟩
 item:=by
  intro X C J R hc i a8 s σ H E I y st L
  subst C J R
  obtain⟨S,hi⟩:=L
  obtain⟨ok,ov,c⟩:=st
  have D:CT X.prog X.w H s.heap a (.frz o (.dK kvs)):=I.hok a _ S
  obtain⟨m,_,_,B,e,ob,j,Q,n,T,r,M,N,G⟩:=D
  rw[m] at n
  cases n
  have g:V4 o=Q:=by unfold V4;rw[r]
  have l:s.heap.DictAt (Bw X.prog X.w) a B (V4 o):=⟨o,j,m,T,by rw[g];exact r,M,N,G⟩
  have A:=e.length
  obtain⟨⟨k,x⟩,U⟩:∃ p,kvs[i]? = some p:=⟨kvs[i],by simp[hi]⟩
  obtain⟨⟨k',u⟩,hu,ek,ru⟩:∃ q,B[i]? = some q/\k=q.1/\RelV x q.2:=by
   exact jG e U
  have O:k=k':=ek
  subst O
  rw[A] at c
  refine wpAny_pyNext_items_item c l hu λF Y t n1 n3 n4 n5=>?_
  refine⟨_,rfl,wpAny_letOwnedTupleGo_items (s:={ s with heap:=Y }) n1 λh2 m1 Z=>?_⟩
  have hT:s.heap.objs.size ≠ d:=hV (Heap.lt_size c)
  have fr:H s.heap.objs.size=none:=I.hok.fresh (ah _)
  have nw:CT X.prog X.w (upd H s.heap.objs.size (.tup [kV k,x])) h2 s.heap.objs.size (.tup [kV k,x]) :=
   ⟨by show 2<=sizeLine;decide,[F,u],.cons (qg t) (.cons ru .nil),_,Z.extBut _ _ hT n3,rfl,_,rfl⟩
  refine⟨.ref s.heap.objs.size,_,I.K4 (t':=s.toks) (ch:=[d]) y (λb o f q=>?_) (ah _) nw,rfl,⟨_,(k,x),fr,rfl,U,rfl⟩,⟨_,_,by rw[A];exact m1⟩,λb f=>?_⟩
  ·exact Z.extBut _ _ (λz=>f (by simp[z])) (n5 b o (λz=>f (by simp[z])) q)
  ·have q:b=d:=by simpa using f
   subst q
   rw[Aw (Ne.symm hT)]
   exact (y _ f).1
 done:=by
  intro X C J R hc i a8 s σ H E I y st L
  subst C J R
  obtain⟨S,hi⟩:=L
  obtain⟨ok,ov,c⟩:=st
  have D:CT X.prog X.w H s.heap a (.frz o (.dK kvs)):=I.hok a _ S
  obtain⟨m,_,_,B,e,ob,j,Q,n,T,r,M,N,G⟩:=D
  rw[m] at n
  cases n
  have g:V4 o=Q:=by unfold V4;rw[r]
  have l:s.heap.DictAt (Bw X.prog X.w) a B (V4 o):=⟨o,j,m,T,by rw[g];exact r,M,N,G⟩
  have A:=e.length
  rw[A] at c
  exact wpAny_pyNext_items_end (I.ok.hd hc) c l (List.getElem?_eq_none (by omega)) λY eb=>⟨rfl,I.Np (t':=s.toks) (ch:=[d]) y λb o f q=>eb b o (λz=>f (by simp[z])) q⟩
 self:=λ_ _ _ _ _ st h=>by
  obtain⟨ok,ov,c⟩:=st
  exact W.kcp_self c h
inductive Ry (R:It->Hp->Prop) (x:V) (H1:Hp):Prop
 | mk (a o kvs:_):x=.ref a->H1 a=some (.frz o (.dK kvs))->R (tO a o kvs) H1->Ry R x H1
def fj (td:TE):TI:=λσ H R=>td σ H λx H1=>Ry R x H1
theorem XS {k1:Nat} {T y:Pos} {o:Expr} {z:TE} (V:PE X o z)
  (i:attributeBase o "items" X.env (eval o X.env)=eval o X.env:=by rfl) (K:(d6.endLine == y.line)=true:=by rfl):PI X (.Tuple es k1 T) (.Call (.Attribute o "items" d6) [] [] y) (fj z):=by
 intro U s σ H R I h
 refine wpAny_Call_method0_late i K (CJ (V U s σ H _ I h) λv f N=>?_)
 obtain⟨x,C,t,Y,a,g,c,L,w,q⟩:=N
 subst L
 cases Y
 obtain⟨B,D,W⟩:=Rg t (.inl ⟨c,.inr ⟨g,w⟩⟩)
 refine⟨"dict","dict.items",gL,PySem.F.slot_dict_items,PySem.F.type_dict_items,B,D,Calls.callWith_builtin rfl (PySem.evalArgs_none ?_)⟩
 have E:CT X.prog X.w C f.heap a (.frz g (.dK c)):=t.hok a _ w
 obtain⟨k,_,_,r,p,J,m,M,u,P,A,Z,F,G⟩:=E
 rw[k] at u
 cases u
 have l:V4 g=M:=by unfold V4;rw[A]
 have j:f.heap.DictAt (Bw X.prog X.w) a r (V4 g):=⟨g,m,k,P,by rw[l];exact A,Z,F,G⟩
 have O:=p.length
 refine call_meetsIn PySem.F.slot_dict_items B PySem.F.entry_dict_items (PySem.F.args_dict_items_1 _) (meets_dict_items (Bw X.prog X.w) a W) ⟨⟨r,j.dictOf⟩,?_⟩
 have Q:a<f.heap.objs.size:=Heap.lt_size k
 refine wpAny_pyIter_items (v:=f.heap.objs.size) (d:=a) (kvs:=r) (ep:=V4 g) ⟨_,Heap.get?_push_size _ rfl,rfl,rfl⟩ (j.push _) ?_
 have n:=t.kept (h':=f.heap.push { cls:=.type "dict_items",data:=.fields #[.ref a] }) (t':=f.toks) λb o e=>Heap.get?_push_of_some _ e
 refine⟨_,[_],_,_,C,rfl,n.kept (t':=f.toks) λb o e=>Heap.get?_push_of_some _ e,QV a _ g c ?_,⟨_,_,by rw[O];exact Heap.get?_push_size _ rfl⟩,λb S=>?_,q⟩
 ·rw[Heap.size_push]
  exact cf (gz Q)
 ·have e:b=(f.heap.push { cls:=.type "dict_items",data:=.fields #[.ref a] }).objs.size:=by simpa using S
  subst e
  exact n.MK (ah _) (n.hok.fresh (ah _))
section
variable {Q:VK}
theorem Qj {K:W.Frag} {o:Obj} (p:Key × V->Bool) (f:Key × V->V) (t:H1 a=some (.frz o (.dK kvs))) (B:kvs.length<sizeLine)
  (y:∀ kv∈kvs,∀ H,An H1 H->∀ R:Bool->Hp->Prop,(∀ H',An H H'->R (p kv) H')->tt (some (kV kv.1)::some kv.2::σ) H R)
  (C:∀ kv∈kvs,p kv=true->∀ H,An H1 H->∀ R:VK,(∀ H',An H H'->R (f kv) H')->te (some (kV kv.1)::some kv.2::σ) H R)
  (w:∀ D H,H1 D=none->An H1 H->H D=some (.lst ((kvs.filter p).map f))->Q (.ref D) H):Im (tO a o kvs) σ H1 Q (Nz K 2 (FT (Dh 0) (FT (Dh 1) QL))) tt te:=by
 intro D r
 have z:An H1 (upd H1 D (.lst [])):=λb o e=>by rw[Aw (Aj e r)];exact e
 refine⟨λi m s H=>m=kvs.length - i/\i<=kvs.length/\s=(((kvs.take i).filter p).map f)/\H D=some (.lst s)/\An H1 H,⟨kvs.length,by simp,Nat.zero_le _,by simp,Al,z⟩,?_⟩
 rintro i m s H ⟨rfl,G,rfl,n,c⟩
 by_cases d:i<kvs.length
 ·refine .inr ⟨⟨c _ _ t,d⟩,λv I x F J=>?_⟩
  obtain⟨T,kv,A,rfl,q,rfl⟩:=x
  have h:=ai q
  have g:An H (upd H T (.tup [kV kv.1,kv.2])):=λb o e=>by rw[Aw (Aj e A)];exact e
  have k:(((kvs.take i).filter p).map f).length<sizeLine:=by
   rw[af]
   refine ar (bt _ _) (ar ?_ B)
   rw[cm];omega
  refine⟨T,[kV kv.1,kv.2],rfl,kL Al,rfl,_,[kv.2],rfl,kv.2,[],rfl,rfl,⟨_,_,rfl⟩,?_⟩
  refine y kv h _ (c.trans g) _ λL j=>?_
  by_cases l:p kv=true
  ·rw[if_pos l]
   refine C kv h l _ (c.trans (g.trans j)) _ λE u=>?_
   refine⟨u _ _ (j _ _ (g _ _ n)),k,kvs.length - (i+1),by omega,rfl,d,?_,Al,λb o e=>?_⟩
   ·rw[take_succ_filter p kvs i kv q,if_pos l,cq]
    rfl
   ·rw[Aw (Aj e r)]
    exact u _ _ (j _ _ (g _ _ (c _ _ e)))
  ·rw[if_neg l]
   refine⟨kvs.length - (i+1),by omega,rfl,d,?_,j _ _ (g _ _ n),c.trans (g.trans j)⟩
   rw[take_succ_filter p kvs i kv q,if_neg l,eD]
 ·have e:i=kvs.length:=by omega
  subst e
  rw[eJ] at n
  exact .inl ⟨⟨c _ _ t,ah _⟩,w D H r c n⟩
end
open PySem PySem.Spec PyProof.Rows
section
variable {Q:VK}
end
open PySem PySem.Spec PySem.Calls PyProof.Rows
theorem Inv.zE {o:Obj} {u:HO} (I:Inv X a8 σ H s) (e:H a=some (.frz o u)) (nb:∀ o' u',X.H₀ a ≠ some (.frz o' u')):Inv X a8 σ (upd H a u) s:=by
 have l:CT X.prog X.w H s.heap a (.frz o u):=I.hok a _ e
 obtain⟨A,m⟩:=id l
 have up1:∀ b x,H b=some (.own x)->upd H a u b=some (.own x):=λb x q=>by
  rw[Aw λz=>by rw[z,e] at q;cases q];exact q
 have d:∀ b f,H b=some (.tup f)->upd H a u b=some (.tup f):=λb x q=>by
  rw[Aw λz=>by rw[z,e] at q;cases q];exact q
 have h:∀ b,H b=none->upd H a u b=none:=λb n=>by rw[Aw λz=>by rw[z,e] at n;cases n];exact n
 refine⟨I.ok,I.os,I.bare,⟨I.base.keep,I.base.slot,λb o q n k=>h b (I.base.free b o q n k),I.base.there,λb f q=>d b f (I.base.tups b f q),λb o' u' q=>?_,λb v q=>?_⟩,I.loc,I.cell,h _ I.free,λx c q=>h _ (I.freeC x c q),λp t=>?_,λb u' q=>?_,I.len⟩
 ·have:=I.base.frzs b o' u' q
  rw[Aw λz=>nb o' u' (by rw[<-z];exact q)]
  exact this
 ·obtain⟨g,i⟩:=I.base.tbls b v q
  exact⟨g,by rw[Aw λz=>by rw[z,e] at i;cases i];exact i⟩
 ·obtain⟨r,y,w⟩:=I.pin p t
  exact⟨r,h _ y,w⟩
 ·by_cases j:b=a
  ·subst j
   rw[Al] at q
   cases q
   exact m.stay (λ_ _ _ q=>q) (λc q=>up1 c _ q) d
  ·rw[Aw j] at q
   exact (I.hok b u' q).stay (λ_ _ _ q=>q) (λc q=>up1 c _ q) d
theorem Inv.jh (I:Inv X a8 σ H s) (e:H a=some (.dK kvs)):∀ o' u',X.H₀ a ≠ some (.frz o' u'):=λo' u' q=>by
 have:=I.base.frzs a o' u' q
 rw[e] at this
 cases this
inductive Wo (t:TE) (σ:St) (H:Hp) (Q:VK):Prop
 | mk (a kvs:_):H a=some (.dK kvs)->(∀ o,t σ (upd H a (.frz o (.dK kvs))) λv H'=>H' a=some (.frz o (.dK kvs))/\Q v (upd H' a (.dK kvs)))->Wo t σ H Q
theorem WM {t:TE} (h:PE X e t):PE X e (Wo t):=by
 intro d s σ H Q I q
 obtain⟨a,j,b,q⟩:=q
 have nb:=I.jh b
 obtain⟨o,J⟩:=I.freeze b
 refine CJ (h d s σ _ _ J (q o)) λv l c=>?_
 obtain⟨x,k,f,r,g,i⟩:=c
 exact⟨x,_,f.zE g nb,r,i⟩
end L2
namespace Og
open PySem L2
structure FW (kvs:List (Key × V)) (c:Nat->Nat):Prop where
 e:∀ kv∈kvs,∃ k:Nat,kv=(Sum.inl (k:Int),V.int ((c k:Nat):Int))/\k<1200
 v:∀ k:Nat,Ce kvs (Sum.inl (k:Int))=some (.int ((c k:Nat):Int)) \/ (Ce kvs (Sum.inl (k:Int))=none/\c k=0)
theorem FW.nil:FW [] λ_=>0:=⟨(λ_ h=>nomatch h),λk=>.inr ⟨rfl,rfl⟩⟩
theorem FW.getD {c:Nat->Nat} (h:FW kvs c) (k:Nat):(Ce kvs (Sum.inl (k:Int))).getD (.int 0)=.int ((c k:Nat):Int):=by
 rcases h.v k with e | ⟨e,z⟩
 ·rw[e];rfl
 ·rw[e,z];rfl
theorem XJ {k:Key} {v:V} {b:Key × V} (h:b∈putK kvs k v):b=(k,v) \/ (b∈kvs/\b.1 ≠ k):=by
 unfold putK at h
 split at h
 ·obtain⟨p,c,e⟩:=ay.mp h
  by_cases a:p.1=k
  ·rw[if_pos a] at e
   first | exact .inl e.symm | (left;rw[<-e,a])
  ·rw[if_neg a] at e
   exact .inr ⟨e ▸ c,e ▸ a⟩
 ·rename_i d
  rcases bX.mp h with z | z
  ·refine .inr ⟨z,λa=>d ?_⟩
   exact gi.mpr ⟨b,z,decide_eq_true a⟩
  ·exact .inl (av.mp z)
theorem QD {k:Key} {v:V}:(putK kvs k v).length<=kvs.length+1:=by
 unfold putK
 split
 ·rw[af];omega
 ·rw[al];exact ah _
abbrev setC (c:Nat->Nat) (k n:Nat):Nat->Nat:=λj=>if j=k then n else c j
theorem FW.put {c:Nat->Nat} {k:Nat} (h:FW kvs c) (b:k<1200):FW (putK kvs (Sum.inl (k:Int)) (.int ((n:Nat):Int))) (setC c k n):=by
 refine⟨λg e=>?_,λj=>?_⟩
 ·rcases XJ e with rfl | ⟨f,d⟩
  ·exact⟨k,by rw[show setC c k n k=n from if_pos rfl],b⟩
  ·obtain⟨j,rfl,a⟩:=h.e g f
   refine⟨j,?_,a⟩
   rw[show setC c k n j=c j from if_neg λz=>d (by rw[z])]
 ·rw[Gv]
  by_cases a:j=k
  ·subst a
   rw[if_pos rfl,show setC c j n j=n from if_pos rfl]
   exact .inl rfl
  ·rw[if_neg (λz=>a (by have:=Sum.inl.inj z;omega)),show setC c k n j=c j from if_neg a]
   exact h.v j
def Dw (kvs:List (Key × V)):List Nat:=(kvs.filter λkv=>match kv.2 with | .int n=>decide (0<n) | _=>false).map λkv=>match kv.1 with | .inl i=>i.toNat | _=>0
theorem FW.mem {c:Nat->Nat} (h:FW kvs c) (k:Nat):k∈Dw kvs ↔ 0<c k:=by
 unfold Dw
 rw[ay]
 constructor
 ·rintro⟨a,i,e⟩
  obtain⟨l,g⟩:=bg.mp i
  obtain⟨j,rfl,_⟩:=h.e a l
  have n:decide (0<((c j:Nat):Int))=true:=g
  have:0<((c j:Nat):Int):=of_decide_eq_true n
  have b:(j:Int).toNat=k:=e
  rw[bp] at b
  subst b
  omega
 ·intro q
  rcases h.v k with e | ⟨_,z⟩
  ·unfold Ce at e
   obtain⟨a,d,f⟩:=aT.mp e
   have o:=List.mem_of_find?_eq_some d
   have m:a.1=Sum.inl (k:Int):=of_decide_eq_true (List.find?_some (p:=λa:Key × V=>decide (a.1=Sum.inl (k:Int))) d)
   refine⟨a,bg.mpr ⟨o,?_⟩,?_⟩
   ·rw[f]
    exact decide_eq_true (by omega)
   ·rw[m]
    exact bp k
  ·omega
theorem FW.bound {c:Nat->Nat} (h:FW kvs c):∀ k∈Dw kvs,k<1200:=λk b=>by
 obtain⟨f,d,e⟩:=ay.mp b
 obtain⟨j,rfl,g⟩:=h.e f (bg.mp d).1
 have a:(j:Int).toNat=k:=e
 rw[bp] at a
 omega
theorem U6 (kvs:List (Key × V)):(Dw kvs).length<=kvs.length:=by
 unfold Dw
 rw[af]
 exact bt _ _
structure VR (C Cy Cp:Addr) (Ho H:Hp) (z x y hd:Addr) (us:List V) (bs:List (Str × Nat)) (rk:List (Str × Nat × Int)) (ks:List R) (ls:List (List Ln)) (sts:List Nat) (dr sh:Nat) (sd:Addr) (kvs:List (Key × V)) (c:Nat->Nat):Prop where
 con:eZ C Cy Ho H y x us bs rk ks ls sts dr sh sd
 Nm:Jf Cp H z x y hd
 n:Ho hd=none
 d:H hd=some (.dK kvs)
 h:FW kvs c
section
variable {x y hd:Addr} {bs:List (Str × Nat)} {rk:List (Str × Nat × Int)} {d0:List (Key × V)} {c c':Nat->Nat}
theorem VR.mono (s:An H H') (p:VR C Cy Cp Ho H z x y hd us bs rk ks ls sts dr sh sd kvs c):VR C Cy Cp Ho H' z x y hd us bs rk ks ls sts dr sh sd kvs c :=
 ⟨⟨p.con.o,p.con.s.trans s,p.con.n,p.con.c.mono s⟩,p.Nm.mono s,p.n,s _ _ p.d,p.h⟩
theorem VR.put (p:VR C Cy Cp Ho H z x y hd us bs rk ks ls sts dr sh sd kvs c) (h:FW d0 c'):VR C Cy Cp Ho (upd H hd (.dK d0)) z x y hd us bs rk ks ls sts dr sh sd d0 c':=by
 obtain⟨m,fs,d,k⟩:=p.con.c.ex
 obtain⟨i,j,a,g⟩:=p.Nm.ex
 have f:y ≠ hd:=λe=>by rw[e,p.d] at d;cases d
 have l:z ≠ hd:=λe=>by rw[e,p.d] at a;cases a
 exact⟨⟨p.con.o,λb o e=>by rw[Aw (Aj e p.n)];exact p.con.s b o e,p.con.n,m,fs,by rw[Aw f];exact d,k⟩,⟨i,j,by rw[Aw l];exact a,g⟩,p.n,Al,h⟩
end
end Og
namespace Sm
open PySem PyProof.Rows
local macro_rules | `(tactic| delta gallopOpen)=>`(tactic| delta $(Lean.mkCIdent (Lean.mkPrivateNameCore `PySem.Builtin.List.W1All `PySem.Builtin.gallop)))
section
variable {w:World}
end
section
variable {α:Type} {L:α->α->Bool} {A B:List α}
structure Swo (L:α->α->Bool):Prop where
 asym:∀ x y,L x y=true->L y x=false
 co:∀ x y z,L x z=true->L x y=true \/ L y z=true
def cJ (L:α->α->Bool) (l:List α):Prop:=l.Pairwise λx y=>L y x=false
structure Jm (L:α->α->Bool) (A B out:List α) (ia ib:Nat):Prop where
 la:ia<=A.length
 lb:ib<=B.length
 pm:out.Perm (A.take ia++B.take ib)
 rs:cJ L out
 lo:∀ x∈out,∀ y,y∈A.drop ia \/ y∈B.drop ib->L y x=false
def Good (L:α->α->Bool) (A B r:List α):Prop:=r.Perm (A++B)/\cJ L r
end
section
variable {α:Type} {L:α->α->Bool} {A B:List α}
end
end Sm
section PartSortM3
set_option maxHeartbeats 800000
namespace Sm
open PySem PyProof.Rows
local macro_rules | `(tactic| delta mergeHiOpen)=>`(tactic| delta $(Lean.mkCIdent (Lean.mkPrivateNameCore `PySem.Builtin.List.W1All `PySem.Builtin.mergeHi)))
section
variable {α:Type} {L:α->α->Bool} {A B:List α}
abbrev Fl (L:α->α->Bool):α->α->Bool:=λx y=>L y x
end
section
variable {w:World}
end
end Sm
end PartSortM3
section PartSortN
set_option maxHeartbeats 800000
namespace Sm
open PySem PyProof.Rows
section
variable {w:World} {ρ:Keyed->Nat} {S:Keyed->Prop} {κ:SortKind} {p0:Array (Nat × Nat × Nat)} {a0:Array Keyed} {lo:Nat}
def R (ρ:Keyed->Nat) (xs:Array Keyed) (i:Nat):Nat:=match xs[i]? with
 | some x=>ρ x
 | none=>0
structure Bs (κ:SortKind) (p0:Array (Nat × Nat × Nat)) (a0:Array Keyed) (lo:Nat) (st:SortSt):Prop where
 kind:kindOf st=κ
 pend:pendingOf st=p0
 fail:failedOf st=none
 perm:(arrOf st).Perm a0
 pre:∀ i,i<lo->(arrOf st)[i]? = a0[i]?
def Up (ρ:Keyed->Nat) (xs:Array Keyed) (a b:Nat):Prop:=∀ i j,a<=i->i<=j->j<b->R ρ xs i<=R ρ xs j
end
end Sm
end PartSortN
section PartSortP
set_option maxHeartbeats 800000
namespace Sm
open PySem PyProof.Rows
section
variable {w:World} {ρ:Keyed->Nat} {S:Keyed->Prop} {κ:SortKind}
def zN (ρ:Keyed->Nat) (xs:Array Keyed):Nat->List (Nat × Nat × Nat)->Nat->Prop
 | a,[],b=>a=b
 | a,(p,n,_)::r,b=>p=a/\1<=n/\Up ρ xs a (a+n)/\zN ρ xs (a+n) r b
structure Gs (ρ:Keyed->Nat) (κ:SortKind) (a0:Array Keyed) (ps:List (Nat × Nat × Nat)) (hi:Nat) (st:SortSt):Prop where
 kind:kindOf st=κ
 pend:pendingOf st=ps.toArray
 fail:failedOf st=none
 perm:(arrOf st).Perm a0
 adj:zN ρ (arrOf st) 0 ps hi
end
end Sm
end PartSortP
namespace Sq
open PySem PySem.W PyProof.Rows
structure Ord (lt:Nat->Nat->Bool):Prop where
 irr:∀ a,lt a a=false
 asy:∀ a b,lt a b=true->lt b a=false
 tr:∀ a b c,lt b a=false->lt c b=false->lt c a=false
def run {α:Type} (lt:Nat->Nat->Bool):KasT α->α
 | .ret a=>a
 | .ask i j k=>run lt (k (lt i j))
def K (p:Array Nat) (i:Nat):Nat:=(p[i]?).getD 0
section
variable {lt:Nat->Nat->Bool} (O:Ord lt)
include O
def Up (lt:Nat->Nat->Bool) (p:Array Nat) (n:Nat):Prop:=∀ i j,i<=j->j<n->lt (K p j) (K p i)=false
end
end Sq
namespace Sq
open PySem PySem.W PyProof.Rows
def Rn {α:Type} (N:Nat):KasT α->(α->Prop)->Prop
 | .ret a,P=>P a
 | .ask i j k,P=>i<N/\j<N/\∀ b,Rn N (k b) P
def Bd (N:Nat) (p:Array Nat):Prop:=0<N/\∀ x∈p.toList,x<N
section
variable {N:Nat}
end
end Sq
namespace Sq
open PySem PySem.W PyProof.Rows
abbrev T3:=Int × Int × Int
def z6 (a b:T3):Bool:=decide (a.1<b.1) || (decide (a.1=b.1) && (decide (a.2.1<b.2.1) || (decide (a.2.1=b.2.1) && decide (a.2.2<b.2.2))))
inductive uL (h:Heap) (v:Value) (t:T3):Prop
 | mk (x:Addr) (o:Obj) (k1 k2 k3:Tok) (n:Nat):v=.ref x->h.get? x=some o->o.cls=.type "tuple"->o.data=.seq #[.int t.1 k1,.int t.2.1 k2,.int t.2.2 k3] n->uL h v t
section
variable {w:World}
end
end Sq
namespace Sq
open PySem PySem.W PySem.Calls PyProof.Rows
section
variable {w:World}
end
end Sq
namespace Sq
open PySem PySem.W PySem.Calls PyProof.Rows
abbrev T2:=Int × Int
inductive vG (h:Heap) (v:Value) (t:T2):Prop
 | mk (x:Addr) (o:Obj) (k1 k2:Tok) (n:Nat):v=.ref x->h.get? x=some o->o.cls=.type "tuple"->o.data=.seq #[.int t.1 k1,.int t.2 k2] n->vG h v t
section
variable {w:World}
end
end Sq
namespace Sq
open PySem PySem.W PySem.Calls PyProof.Rows
section
variable {w:World}
end
end Sq
section PartSortX
set_option maxHeartbeats 800000
namespace Sx
open PySem PySem.W PySem.Calls PyProof.Rows Sm Sq
section
variable {β:Type} {blt:β->β->Bool}
structure Or (blt:β->β->Bool):Prop where
 irr:∀ a,blt a a=false
 asy:∀ a b,blt a b=true->blt b a=false
 tr:∀ a b c,blt b a=false->blt c b=false->blt c a=false
def rk (blt:β->β->Bool) (ts:List β) (c:β):Nat:=ts.countP λz=>blt z c
end
section
variable {w:World} {β:Type} {blt:β->β->Bool} {d:β}
end
end Sx
end PartSortX
namespace L2
open PySem PySem.Spec PyProof.Rows
end L2
namespace Wd
open PySem PyProof.Rows
section
variable {w:World} {σ:List Int}
end
end Wd
namespace L2
open PySem PySem.Spec PyProof.Rows
open PySem PySem.Spec PySem.Calls PyProof.Rows
theorem Ui (c:X.A.units<cLine):G4 X (compareOp .Eq) (λx y H Q=>∃ p q xs,x=V.ref p/\y=V.ref q/\Dc X.K H p xs/\Dc X.K H q []/\Q (.bl xs.isEmpty) H):=by
 intro D s σ H x y v u Q I A t h
 obtain⟨p,q,xs,rfl,rfl,w,i,k⟩:=h
 cases A
 cases t
 obtain⟨o,r,f,E⟩:=I.list w
 obtain⟨B,m,g,l⟩:=I.list i
 have d:=r.length
 cases m
 cases xs with
 | nil =>
  cases r
  refine SeqAt.RcAt.lists (e:=λ_=>true) f.isList g.isList rfl c (λj n C=>?_) _ _ _ _ ⟨.bl _,H,I,rfl,k⟩
  exact absurd n (iE _)
 | cons a b =>
  refine SeqAt.RcAt.lists_lengths f.isList g.isList (by simp;intro z;rw[z] at d;simp at d) c _ _ _ _ ⟨.bl _,H,I,rfl,k⟩
open PySem PySem.Spec PyProof.Rows
theorem M9 {α β:Type} {F:α->β->Prop}:∀ {l:List α} {vs:List β},Paired F l vs->∀ {i:Nat} {v},vs[i]? = some v->∃ a,l[i]? = some a/\F a v
 | [],_,h,i,v,b=>by cases h;simp at b
 | a::l,_,h,i,v,b=>by
  cases h with
  | cons x y =>
   cases i with
   | zero=>simp at b;subst b;exact⟨_,rfl,x⟩
   | succ i=>exact M9 y (by simpa using b)
theorem RT {K:W.Frag} {Q:VK} {ps:List (V × V)} (f:V × V->V) (g:Dc K H1 a vs) (n:Paired (λq v=>TupAt H1 [q.1,q.2] v) ps vs) (B:vs.length<sizeLine)
  (z:∀ q∈ps,∀ H,An H1 H->∀ R:VK,(∀ H',An H H'->R (f q) H')->te (some q.1::some q.2::σ) H R)
  (w:∀ D H,H1 D=none->An H1 H->H D=some (.lst (ps.map f))->Q (.ref D) H):Im (cC K a) σ H1 Q (Nz K 2 (FT (Dh 0) (FT (Dh 1) QL))) UW te:=by
 intro D k
 have u:An H1 (upd H1 D (.lst [])):=λb o e=>by rw[Aw (Aj e k)];exact e
 have x:=n.length
 refine⟨λi m l H=>m=vs.length - i/\i<=vs.length/\l=(ps.map f).take i/\H D=some (.lst l)/\An H1 H,⟨vs.length,by simp,Nat.zero_le _,by simp,Al,u⟩,?_⟩
 rintro i m l H ⟨rfl,E,rfl,j,c⟩
 by_cases d:i<vs.length
 ·have t:vs[i]? = some vs[i]:=ae d
  refine .inr ⟨⟨vs,_,c.seq g,t⟩,λv F h A G=>?_⟩
  obtain⟨rfl,h⟩:=h
  have s:=h vs (c.seq g)
  obtain⟨q,r,T,rfl,y⟩:=M9 n s
  refine⟨T,[q.1,q.2],rfl,kL (c _ _ y),rfl,q.1,[q.2],rfl,q.2,[],rfl,rfl,⟨_,_,rfl⟩,?_⟩
  unfold UW
  dsimp only
  rw[if_pos rfl]
  refine z q (ai r) _ c _ λC p=>?_
  refine⟨p _ _ j,?_,vs.length - (i+1),by omega,rfl,d,?_,Al,λb o e=>?_⟩
  ·rw[cm,af]
   omega
  ·rw[cy,am,r]
   rfl
  ·rw[Aw (Aj e k)]
   exact p _ _ (c _ _ e)
 ·have e:i=vs.length:=by omega
  subst e
  rw[<-x,<-af (f:=f) (as:=ps),eJ] at j
  exact .inl ⟨⟨vs,c.seq g,ah _⟩,w D H k c j⟩
section
variable {z:Str}
theorem Yu {k:Nat} {y:Str} {d j g b u:Pos} {A:TI} (L:X.N.Nodup) (r:X.N[i]? = some y) (f:X.env.scope.names.lookup y=some .local) (w:X.calm=true) (S:Ec X x z scope) (hi:PI X (.Tuple [.Name x d,.Name z j] k g) iter A)
  (G:∀ C s₀ H₀ fp,NT (Bm X x z scope C s₀ H₀ fp) k9 tt) (Y:∀ C s₀ H₀ fp,PE (Bm X x z scope C s₀ H₀ fp) lf te) (K:swapsWith (.ListComp lf [⟨.Tuple [.Name x d,.Name z j] k g,iter,k9,0⟩] scope pos) (some (.Name y b)) u.line X.env=pure true:=by rfl) (B:∀ x,foldedSetIterable iter X.env x=pure x:=by intro _;rfl) :
  PS X (.Assign [.Name y b] (.ListComp lf [⟨.Tuple [.Name x d,.Name z j] k g,iter,k9,0⟩] scope pos) u) (RW (Qf A (Nz X.K 2 (FT (Dh 0) (FT (Dh 1) QL))) tt te) (Dh i)):=by
 intro p s σ H o I h
 rw[exec_Assign_Name_used _ _ _ _ K]
 refine wpAny_bind (wpAny_standAt (wpAny_bind ?_))
 show wpAny _ X.A (do let _ <-comprehension (.ListComp lf [⟨.Tuple [.Name x d,.Name z j] k g,iter,k9,0⟩] scope pos) scope X.env _ (newList []) false (eval iter X.env) (some (assign (.Name y b) X.env))) _ _ s
 refine wpAny_bind (wpAny_mono (wpAny_comprehension_free (use:=some (assign (.Name y b) X.env)) (cl:=Dj X.env scope.names []) (Q:=λ_ c=>SP X p o .next c) rfl B (HB λy f hk=>I.ok.has y.1 (S.free y f hk)) S.kind S.names
  (CJ (hi p s σ H _ I h) λv s1 E=>CJ E λze s2 U=>?_)) (λ_ c l=>wpAny_pure (wpAny_pure l)) λ_ _ e=>e)
 obtain⟨it,fp,tn,J,H2,e,F,T,P,f2,q⟩:=U
 subst e
 refine Kd (RR:=λO C=>compPost (model X.prog X.w) X.A X.xe (some (assign (.Name y b) X.env)) (λ_ c=>SP X p o .next c) O C) (Q:=λx H1=>Dh i x σ H1 o.nx) w S (λ_ _ _ _=>TY w S) G Y F T P f2 q ?_
 intro D C c V m M n Z l
 show wpAny _ X.A (assign (.Name y b) X.env (.ref D)) _ _ _
 refine wpAny_assign_Name (Jw Z L r (.inl f) (v:=.ref D) rfl (λs6 W rX=>?_) (.inr f))
 obtain⟨a,N,R⟩:=rX
 have t:C ≠ a:=by
  rcases R with z | z
  ·rw[z];exact n.2.1
  ·exact Ne.symm (n.2.2.2.2.1 y a z)
 exact⟨m,M.sameBut N t,λh' Op=>⟨_,V,W.sameBut n Op,l⟩⟩
end
end L2
section PartK44a
set_option maxHeartbeats 4000000
namespace K44
open PySem L2 Og
abbrev sN:List Str:=["self"]
abbrev sP:List Str:=["organ","knobs","held"]
abbrev tJ:List Str:=["_law_organ","_law_player","_law_deed_here","_law_ahead","_law_told_here","_law_behind","_law_begun","_law_ended"]
abbrev tP:List Str:=["_law_script","_law_source_here","_law_first","_law_boards","_law_k","_law_ranks","_law_wind","_law_rows_here","_law_stops","_law_found"]
abbrev ui:List Str:=["self","name"]
abbrev uu:List Str:=["self","knob"]
abbrev uA:List Str:=["organ","name"]
abbrev vr:List Str:=["thing"]
abbrev vt:List Str:=["organ","knobs","keys"]
abbrev vx:List Str:=["_law_source_here","_law_boards","_law_ranks","_law_name_here"]
abbrev vE:List Str:=["self","key"]
abbrev v2:List Str:=["_law_source_here","_law_organ","_law_player","_law_knobs"]
abbrev we:List Str:=["self","piston","board"]
abbrev wf:List Str:=["_law_script","_law_k"]
abbrev wh:List Str:=["self","rows"]
abbrev wp:List Str:=["text","signs","most"]
abbrev wP:List Str:=["row","ahead"]
abbrev wS:List Str:=["_law_organ","_law_player","_law_deed_here"]
abbrev xk:List Str:=["self","deed"]
abbrev xp:List Str:=["number","board","ahead"]
abbrev xt:List Str:=["console","word","parts"]
abbrev xz:List Str:=["self","organ"]
abbrev xA:List Str:=["self","drawn"]
abbrev xC:List Str:=["_law_cell","_law_number","_law_letters","_law_size","_law_at"]
abbrev yk:List Str:=["_law_script","_law_organ","_law_knobs","_law_player","_law_k"]
abbrev yB:List Str:=["_law_found","_law_due"]
abbrev yY:List Str:=["thing","part","ahead"]
abbrev y7:List Str:=["rows","word","thing"]
abbrev y8:List Str:=["self","knobs"]
abbrev z3:List Str:=["row","knob_numbers"]
abbrev z4:List Str:=["_law_cell","_law_by","_law_many"]
abbrev z5:List Str:=["_law_script"]
abbrev z8:List Str:=["organ","name","number"]
abbrev At:List Str:=["self","board","number"]
abbrev AD:List Str:=["_law_source_here","_law_many"]
abbrev AH:List Str:=["_law_player","_law_deed_here"]
abbrev AN:List Str:=["self","rank","number"]
abbrev A0:List Str:=["self","knobs","whole"]
abbrev A1:List Str:=["organ","knobs","word","words"]
abbrev A5:List Str:=["organ","knobs"]
abbrev BC:List Str:=["self","piston"]
abbrev BT:List Str:=["_law_cell","_law_number"]
abbrev Cl:List Str:=["things"]
abbrev CH:List Str:=["organ","knob","keys","stop","numbers"]
abbrev CL:List Str:=["organ","line","numbers"]
abbrev C3:List Str:=["rows","word"]
abbrev DD:List Str:=["self","step"]
abbrev DO:List Str:=["thing","bounds"]
abbrev DS:List Str:=["some","steps","count"]
abbrev DU:List Str:=["organ","knobs","word"]
abbrev DZ:List Str:=["organ","board","keys"]
abbrev D9:List Str:=["organ","name","board"]
abbrev EA:List Str:=["rows","rank_numbers"]
abbrev EB:List Str:=["organ","knob","keys"]
abbrev EE:List Str:=["thing","ahead"]
abbrev ET:List Str:=["some","number"]
abbrev EZ:List Str:=["organ","knob","key"]
abbrev E6:List Str:=["word","ahead"]
abbrev Fm:List Str:=["organ","held"]
abbrev Fr:List Str:=["_law_found"]
theorem zC {k kj:Nat} {sp:Sp} {q:Str} {st:Stmt} {p:Pos} {t:TA} (F:Ao X.prog X.w X.K X.mg X.base Bb k f fd ps sp) (g:A_ kj X.A) (b:Gl X x) (h:Cd X.K x q st f fd∧Binds X.K fd ps []∧X.mg x=some (.ref f)) (i:PA X (e::es) t) (j:k<=kj:=by decide) (c:(x == ("__debug__" : Str))=false:=by decide) (d:starEach (e::es) X.env=(false,eval e X.env)::starEach es X.env:=by rfl) (a:(backTo pos (starEach es X.env)).any (·.1)=false:=by rfl):PE X (.Call (.Name x p) (e::es) [] pos) (bH sp [] E0 t):=Ai F (g.mono j) b h.2.2 h.1.kp h.2.1 .nil Am i c d a
def top (i:Nat):Stmt:=PySem.Challenge.pw_windchest_k44_whole_changes_told.main.body.getD i (.Pass ⟨0,0,0,0⟩)
abbrev tE:Stmt:=top 19
abbrev jk:Stmt:=top 20
abbrev uJ:Stmt:=top 21
abbrev rT:Stmt:=top 65
abbrev rF:Stmt:=top 66
abbrev xg:Stmt:=top 67
abbrev sE:Stmt:=top 68
abbrev sW:Stmt:=top 69
abbrev wG:Stmt:=top 70
abbrev rZ:Stmt:=top 71
abbrev uG:Stmt:=top 72
abbrev rC:Stmt:=top 73
abbrev yz:Stmt:=top 74
abbrev yw:Stmt:=top 75
abbrev uy:Stmt:=top 76
abbrev yN:Stmt:=top 77
abbrev xJ:Stmt:=top 80
abbrev sO:Stmt:=top 81
abbrev sJ:Stmt:=top 82
abbrev xZ:Stmt:=top 83
abbrev sH:Stmt:=top 84
abbrev yC:Stmt:=top 24
abbrev sG:Stmt:=top 25
abbrev yo:Stmt:=top 26
abbrev sY:Stmt:=top 27
abbrev xf:Stmt:=top 28
abbrev xq:Stmt:=top 29
abbrev uw:Stmt:=top 38
abbrev pq:Stmt:=top 39
abbrev yR:Stmt:=top 40
abbrev yJ:Stmt:=top 41
abbrev yF:Stmt:=top 42
abbrev rD:Stmt:=top 44
abbrev rA:Stmt:=top 45
abbrev zF:Stmt:=top 46
abbrev xU:Stmt:=top 47
abbrev yO:Stmt:=top 48
abbrev qw:Stmt:=top 49
abbrev sS:Stmt:=top 50
abbrev vY:Stmt:=top 51
abbrev wY:Stmt:=top 32
abbrev rO:Stmt:=top 34
abbrev uF:Stmt:=top 35
abbrev uX:Stmt:=top 33
abbrev um:Stmt:=top 55
abbrev wV:Stmt:=top 56
abbrev wN:Stmt:=top 54
abbrev xK:Stmt:=top 87
abbrev uP:Stmt:=top 95
abbrev vy:Stmt:=top 88
abbrev x_:Stmt:=top 89
abbrev xR:Stmt:=top 90
abbrev sV:Stmt:=top 91
abbrev uR:Stmt:=top 92
abbrev rW:Stmt:=top 93
abbrev xP:Stmt:=top 94
abbrev xV:Stmt:=top 96
abbrev rG:Stmt:=top 97
abbrev lC:Stmt:=top 98
abbrev YZ:Stmt:=inClass (top 85) 0
abbrev yf:Stmt:=inClass (top 85) 2
abbrev zG:Stmt:=inClass (top 85) 5
abbrev uW:Stmt:=inClass (top 85) 7
abbrev yQ:Stmt:=inClass (top 85) 8
abbrev xM:Stmt:=inClass (top 85) 13
abbrev vQ:Stmt:=inClass (top 85) 15
abbrev yt:Stmt:=inClass (top 85) 3
abbrev vW:Stmt:=inClass (top 85) 6
abbrev uI:Stmt:=inClass (top 85) 9
abbrev vC:Stmt:=inClass (top 85) 14
abbrev tX:Stmt:=inClass (top 85) 16
abbrev vO:Stmt:=inClass (top 85) 11
abbrev uf:Stmt:=inClass (top 85) 12
abbrev zA:Stmt:=inClass (top 85) 17
abbrev rY:Stmt:=inClass (top 85) 4
abbrev tQ:Stmt:=inClass (top 36) 0
abbrev uq:Stmt:=inClass (top 36) 1
abbrev wM:Stmt:=inClass (top 36) 2
abbrev uT:Stmt:=inClass (top 36) 3
abbrev vq:Stmt:=inClass (top 36) 9
abbrev yU:Stmt:=inClass (top 36) 7
abbrev VV:Stmt:=inClass (top 36) 4
abbrev uo:Stmt:=inClass (top 36) 5
abbrev tH:Stmt:=inClass (top 36) 6
abbrev wA:Stmt:=inClass (top 13) 0
abbrev yd:Stmt:=inClass (top 14) 0
abbrev xW:Stmt:=inClass (top 15) 0
abbrev wI:Stmt:=inClass (top 15) 1
abbrev yc:Stmt:=inClass (top 57) 0
abbrev vZ:Stmt:=inClass (top 57) 1
abbrev y_:Stmt:=inClass (top 57) 2
abbrev zH:Stmt:=inClass (top 57) 3
abbrev yD:Stmt:=inClass (top 57) 4
abbrev yW:Stmt:=inClass (top 57) 5
abbrev rJ:Stmt:=inClass (top 57) 6
abbrev xX:Stmt:=inClass (top 57) 7
abbrev Lz:Stmt:=top 99
structure Txt (K:W.Frag) (P:Params) (mg:Str->Option Value) (C Cy Cp pB pE pA cK cP cB cS cO cH cY cD aQ aN aK aB aP aM:Addr):Prop where
 len:mg "len" = none
 isin:mg "isinstance" = none
 int:mg "int" = none
 bool:mg "bool" = none
 str:mg "str" = none
 list:mg "list" = none
 tuple:mg "tuple" = none
 all:mg "all" = none
 any:mg "any" = none
 sum:mg "sum" = none
 range:mg "range" = none
 zip:mg "zip" = none
 enumerate:mg "enumerate" = none
 max:mg "max" = none
 reversed:mg "reversed" = none
 set:mg "set" = none
 min:mg "min" = none
 letters:∃ t,mg "LETTERS" = some (.str letters t)
 mostL:∃ t,mg "MOST_LETTERS" = some (.int 8 t)
 mostR:∃ t,mg "MOST_ROWS" = some (.int 150 t)
 mostLn:∃ t,mg "MOST_LINES" = some (.int 4 t)
 below:∃ t,mg "MEMBERS_BELOW" = some (.int 1200 t)
 mN:mg "NAMED" = some (.ref aN)
 mK:mg "KNOBS" = some (.ref aK)
 mB:mg "BOUNDS" = some (.ref aB)
 mP:mg "PARTS" = some (.ref aP)
 mM:mg "MOST_OF" = some (.ref aM)
 tN:KTup K aN (named.map V.str)
 tK:KTup K aK [.str "stop",.str "coupler",.str "mute"]
 dB:KDict K P aB
 dP:KDict K P aP
 dM:KDict K P aM
 cl:Oe K C
 mC:mg "Organ" = some (.ref C)
 clR:Oe K Cy
 mCR:mg "Console" = some (.ref Cy)
 nr_organ:Cg K Cy "organ"
 nr_drawn_set:Cg K Cy "drawn_set"
 nr_shoe_step:Cg K Cy "shoe_step"
 nr_stored:Cg K Cy "stored"
 x4:Ex4 K mg cK cP cB cS cO
 pis:yG K mg pB pE pA
 clP:Oe K Cp
 mCP:mg "Player" = some (.ref Cp)
 np_organ:Cg K Cp "organ"
 np_console:Cg K Cp "console"
 np_hands:Cg K Cp "hands"
 xH:zx K mg cH cO
 xY:ExY K mg cY cD cP
 mQ:mg "PART_COUNTS" = some (.ref aQ)
 dQ:KDict K P aQ
 pc:∀ e∈wH,∃ q,W.nsIn K aQ e.1=some (some (.ref q))/\KTup K q e.2
 n_row_list:Cg K C "row_list"
 n_board_list:Cg K C "board_list"
 n_rank_list:Cg K C "rank_list"
 n_knob_rows:Cg K C "knob_rows"
 n_board_numbers:Cg K C "board_numbers"
 n_rank_numbers:Cg K C "rank_numbers"
 n_knob_numbers:Cg K C "knob_numbers"
 n_key_places:Cg K C "key_places"
 n_pipe_places:Cg K C "pipe_places"
 n_knob_lines:Cg K C "knob_lines"
 n_step_sets:Cg K C "step_sets"
set_option genInjectivity false in
set_option genSizeOf false in
set_option genSizeOfSpec false in
structure Ad where
 (fWh fMd fNm fRo fTo fWi fPa fHp fCl fIk fSb fIs fWm fHr fIr fCk fNu fCa fPl fLi fSs fMy fSt fHa fMe fSh fUn fLe fDc fHk fWa fCq fMu fUk fSk fNb fLl fBs fBa fSo fKn fKb fIp fBn fKy fDz fId fCe fLw fMi fLo fDw fNa fLj fRw fDe fTd fAr fLp fOi fOb fOc fOk fOo fBk fOp fOr fOq fOe fOs fOm fOu fOj fOy fOz fXi fXd fXp fXq fXk fXh fXt fXr fXc fPi fEp fAi fAp fQi fQh fQl fQa fQd fQs fQe fQk:Addr)
 (dWh dMd dNm dRo dTo dWi dPa dHp dCl dIk dSb dIs dWm dHr dIr dCk dNu dCa dPl dLi dSs dMy dSt dHa dMe dSh dUn dLe dDc dHk dWa dCq dMu dUk dSk dNb dLl dBs dBa dSo dKn dKb dIp dBn dKy dDz dId dCe dLw dMi dLo dDw dNa dLj dRw dDe dTd dAr dLp dOi dOb dOc dOk dOo dBk dOp dOr dOq dOe dOs dOm dOu dOj dOy dOz dXi dXd dXp dXq dXk dXh dXt dXr dXc dPi dEp dAi dAp dQi dQh dQl dQa dQd dQs dQe dQk:FuncData)
abbrev sv (K:PySem.W.Frag) (mg:Str->Option Value) (x q:Str) (st:Stmt) (f:Addr) (d:FuncData) (p:List Str):Prop:=Cd K x q st f d∧Binds K d p []∧mg x=some (.ref f)
abbrev sy (K:PySem.W.Frag) (C:Addr) (x q:Str) (st:Stmt) (f:Addr) (d:FuncData) (p:List Str):Prop:=Cd K x q st f d∧Binds K d p []∧Meth K C x f
structure tD (K:W.Frag) (mg:Str->Option Value) (C Cy Cp pB pE pA:Addr) (aD:Ad):Prop where
 FWh:sv K mg "is_whole" "is_whole" tE aD.fWh aD.dWh vr
 FMd:sv K mg "is_made_of" "is_made_of" jk aD.fMd aD.dMd wp
 FNm:sv K mg "is_name" "is_name" uJ aD.fNm aD.dNm vr
 FRo:sv K mg "rows_of" "rows_of" rT aD.fRo aD.dRo C3
 FTo:sv K mg "is_told" "is_told" rF aD.fTo aD.dTo y7
 FWi:sv K mg "is_within" "is_within" xg aD.fWi aD.dWi DO
 FPa:sv K mg "is_part" "is_part" sE aD.fPa aD.dPa yY
 FHp:sv K mg "has_parts" "has_parts" sW aD.fHp aD.dHp wP
 FCl:sv K mg "count_of_last_lines" "count_of_last_lines" wG aD.fCl aD.dCl ["rows"]
 FIk:sv K mg "is_key_of" "is_key_of" rZ aD.fIk aD.dIk xp
 FSb:sv K mg "stands_behind_stop" "stands_behind_stop" uG aD.fSb aD.dSb ["line","ahead"]
 FIs:sv K mg "is_step" "is_step" rC aD.fIs aD.dIs wP
 FWm:sv K mg "is_well_made" "is_well_made" yz aD.fWm aD.dWm wP
 FHr:sv K mg "has_room" "has_room" yw aD.fHr aD.dHr E6
 FIr:sv K mg "is_row" "is_row" uy aD.fIr aD.dIr EE
 FCk:sv K mg "check_rows" "check_rows" yN aD.fCk aD.dCk ["rows"]
 FNu:sv K mg "numbers_of" "numbers_of" xJ aD.fNu aD.dNu ["names"]
 FCa:sv K mg "count_in_all" "count_in_all" sO aD.fCa aD.dCa Cl
 FPl:sv K mg "places_of" "places_of" sJ aD.fPl aD.dPl Cl
 FLi:sv K mg "lines_by_knob" "lines_by_knob" xZ aD.fLi aD.dLi EA
 FSs:sv K mg "set_of_step" "set_of_step" sH aD.fSs aD.dSs z3
 FMy:sv K mg "may_be_member" "may_be_member" yC aD.fMy aD.dMy vr
 FSt:sv K mg "set_of" "set_of" sG aD.fSt aD.dSt ["numbers"]
 FHa:sv K mg "has_member" "has_member" yo aD.fHa aD.dHa ET
 FMe:sv K mg "members_of" "members_of" sY aD.fMe aD.dMe ["some"]
 FSh:sv K mg "shifted" "shifted" xf aD.fSh aD.dSh DS
 FUn:sv K mg "union_of" "union_of" xq aD.fUn aD.dUn ["sets"]
 FLe:sv K mg "led_to" "led_to" uw aD.fLe aD.dLe EZ
 FDc:sv K mg "drawn_of" "drawn_of" pq aD.fDc aD.dDc DU
 FHk:sv K mg "held_keys" "held_keys" yR aD.fHk aD.dHk Fm
 FWa:sv K mg "coupled_ways" "coupled_ways" yJ aD.fWa aD.dWa sP
 FCq:sv K mg "coupled_keys" "coupled_keys" yF aD.fCq aD.dCq sP
 FMu:sv K mg "muted_boards" "muted_boards" rD aD.fMu aD.dMu A5
 FUk:sv K mg "unmuted_keys" "unmuted_keys" rA aD.fUk aD.dUk vt
 FSk:sv K mg "speaking_keys" "speaking_keys" zF aD.fSk aD.dSk sP
 FNb:sv K mg "numbers_on_board" "numbers_on_board" xU aD.fNb aD.dNb DZ
 FLl:sv K mg "led_by_line" "led_by_line" yO aD.fLl aD.dLl CL
 FBs:sv K mg "brought_by_stop" "brought_by_stop" qw aD.fBs aD.dBs EB
 FBa:sv K mg "brought_in_all" "brought_in_all" sS aD.fBa aD.dBa vt
 FSo:sv K mg "sounding_pipes" "sounding_pipes" vY aD.fSo aD.dSo sP
 FKn:sv K mg "knob_named" "knob_named" wY aD.fKn aD.dKn uA
 FKb:sv K mg "knobs_of_board" "knobs_of_board" rO aD.fKb aD.dKb uA
 FIp:sv K mg "is_piston" "is_piston" uF aD.fIp aD.dIp vr
 FBn:sv K mg "board_named" "board_named" uX aD.fBn aD.dBn uA
 FKy:sv K mg "key_on_board" "key_on_board" um aD.fKy aD.dKy z8
 FDz:sv K mg "do_at_console" "do_at_console" wV aD.fDz aD.dDz xt
 FId:sv K mg "is_deed" "is_deed" wN aD.fId aD.dId vr
 FCe:sv K mg "_law_cell_at" "_law_cell_at" xK aD.fCe aD.dCe wf
 FLw:sv K mg "_law_whole" "_law_whole" uP aD.fLw aD.dLw Fr
 FMi:sv K mg "_law_mix" "_law_mix" vy aD.fMi aD.dMi z4
 FLo:sv K mg "_law_source" "_law_source" x_ aD.fLo aD.dLo wf
 FDw:sv K mg "_law_draw" "_law_draw" xR aD.fDw aD.dDw AD
 FNa:sv K mg "_law_name" "_law_name" sV aD.fNa aD.dNa BT
 FLj:sv K mg "_law_knob" "_law_knob" uR aD.fLj aD.dLj vx
 FRw:sv K mg "_law_rows" "_law_rows" rW aD.fRw aD.dRw z5
 FDe:sv K mg "_law_deed" "_law_deed" xP aD.fDe aD.dDe v2
 FTd:sv K mg "_law_told" "_law_told" xV aD.fTd aD.dTd AH
 FAr:sv K mg "_law_are_pipes" "_law_are_pipes" rG aD.fAr aD.dAr yB
 FLp:sv K mg "_law_step" "_law_step" lC aD.fLp aD.dLp wS
 FOi:Cd K "__init__" "Organ.__init__" YZ aD.fOi aD.dOi∧Binds K aD.dOi wh []∧Mk K C aD.fOi
 FOb:sy K C "boards" "Organ.boards" yf aD.fOb aD.dOb sN
 FOc:sy K C "key_count" "Organ.key_count" zG aD.fOc aD.dOc sN
 FOk:sy K C "key" "Organ.key" uW aD.fOk aD.dOk At
 FOo:sy K C "board_of" "Organ.board_of" yQ aD.fOo aD.dOo vE
 FBk:sy K C "board_of_knob" "Organ.board_of_knob" xM aD.fBk aD.dBk uu
 FOp:sy K C "coupler" "Organ.coupler" vQ aD.fOp aD.dOp uu
 FOr:sy K C "ranks" "Organ.ranks" yt aD.fOr aD.dOr sN
 FOq:sy K C "pipe_count" "Organ.pipe_count" vW aD.fOq aD.dOq sN
 FOe:sy K C "pipe" "Organ.pipe" uI aD.fOe aD.dOe AN
 FOs:sy K C "stop" "Organ.stop" vC aD.fOs aD.dOs uu
 FOm:sy K C "mute" "Organ.mute" tX aD.fOm aD.dOm uu
 FOu:sy K C "board_number" "Organ.board_number" vO aD.fOu aD.dOu ui
 FOj:sy K C "knob_number" "Organ.knob_number" uf aD.fOj aD.dOj ui
 FOy:sy K C "steps" "Organ.steps" zA aD.fOy aD.dOy sN
 FOz:sy K C "knobs" "Organ.knobs" rY aD.fOz aD.dOz sN
 FXi:Cd K "__init__" "Console.__init__" tQ aD.fXi aD.dXi∧Binds K aD.dXi xz []∧Mk K Cy aD.fXi
 FXd:sy K Cy "draw" "Console.draw" uq aD.fXd aD.dXd y8
 FXp:sy K Cy "pull" "Console.pull" wM aD.fXp aD.dXp ui
 FXq:sy K Cy "push" "Console.push" uT aD.fXq aD.dXq ui
 FXk:sy K Cy "knobs" "Console.knobs" vq aD.fXk aD.dXk sN
 FXh:sy K Cy "shoe" "Console.shoe" yU aD.fXh aD.dXh DD
 FXt:Us K "store" "Console.store" VV aD.fXt aD.dXt∧Binds K aD.dXt we []∧Meth K Cy "store" aD.fXt
 FXr:sy K Cy "press" "Console.press" uo aD.fXr aD.dXr BC
 FXc:sy K Cy "cancel" "Console.cancel" tH aD.fXc aD.dXc sN
 FPi:Cd K "__init__" "Piston.__init__" wA aD.fPi aD.dPi∧Binds K aD.dPi y8 []∧Mk K pE aD.fPi
 FEp:sy K pE "put" "Every.put" yd aD.fEp aD.dEp xA
 FAi:Cd K "__init__" "Part.__init__" xW aD.fAi aD.dAi∧Binds K aD.dAi A0 []∧Mk K pA aD.fAi
 FAp:sy K pA "put" "Part.put" wI aD.fAp aD.dAp xA
 FQi:Cd K "__init__" "Player.__init__" yc aD.fQi aD.dQi∧Binds K aD.dQi xz []∧Mk K Cp aD.fQi
 FQh:sy K Cp "hold" "Player.hold" vZ aD.fQh aD.dQh vE
 FQl:sy K Cp "leave" "Player.leave" y_ aD.fQl aD.dQl vE
 FQa:sy K Cp "act" "Player.act" zH aD.fQa aD.dQa xk
 FQd:sy K Cp "do" "Player.do" yD aD.fQd aD.dQd xk
 FQs:sy K Cp "sound" "Player.sound" yW aD.fQs aD.dQs sN
 FQe:sy K Cp "held" "Player.held" rJ aD.fQe aD.dQe sN
 FQk:sy K Cp "knobs" "Player.knobs" xX aD.fQk aD.dQk sN
 bXt0:Binds K aD.dXt we [.none]
 cPi:aX K pB "__init__" aD.fPi (.type "type")
section
variable {w:World} {K:W.Frag} {pB cK cP cB cS cO cH cY cD aQ aN aK:Addr} {aD:Ad}
variable (N:tD K mg C Cy Cp pB pE pA aD) (T:Txt K w.params mg C Cy Cp pB pE pA cK cP cB cS cO cH cY cD aQ aN aK aB aP aM)
inductive Qg (vs:List V) (H:Hp) (Q:VK) (b9:XK):Prop
 | mk (i:Int):vs=[.int i]->Q (.bl true) H->Qg vs H Q b9
theorem pU:Aq vr vr (Ac tE):=Bf
include N T in
theorem ak:Ao P w K mg base Bb 1 aD.fWh aD.dWh vr Qg:=by
 refine N.FWh.1.DQ pU λH b Q E a h=>?_
 obtain⟨i,rfl,q⟩:=h
 refine⟨_,(Ag (Ax (Di (BJ CQ rfl T.isin aI (Aa (pv 0) (Aa (DX (v:=.ty "int") rfl T.int fA rfl) Ab))) (Df (Nx (BJ CQ rfl T.isin aI (Aa (pv 0) (Aa (DX (v:=.ty "bool") rfl T.bool iO rfl) Ab)))))))),?_⟩
 refine⟨_,rfl,_,"int",_,_,rfl,.int i,ty_int,_,rfl,Dd ?_⟩
 exact⟨_,rfl,_,"bool",_,_,rfl,.int i,WY,_,rfl,q⟩
inductive gR (vs:List V) (H:Hp) (Q:VK) (b9:XK):Prop
 | mk (z:Str):vs=[.str z,.str letters,.int 8]->isNm z->(∀ H',An H H'->Q (.bl true) H')->gR vs H Q b9
theorem m7:Aq wp wp (Ac jk):=Bf
include N T in
theorem lL:Ao P w K mg base Bb 1 aD.fMd aD.dMd wp gR:=by
 refine N.FMd.1.DQ m7 λH m Q E n h=>?_
 obtain⟨z,rfl,d,q⟩:=h
 refine⟨_,(Ag (Ax (Di (Gk E_ E_ Ae (BJ Jh rfl T.len aS (Aa (pv 0) Ab)) (pv 2)) (Df (BJ (Hw rfl) rfl T.all gx (Aa (Br rfl (Be (osc:=Ac jk) (N:=wp) rfl rfl (by decide)) (Vt (pv 0)) (λ_ _ _ _=>Cv) (λ_ _ _ _=>(DW Mx (pv 0) (pv 2) rfl))) Ab)))))),?_⟩
 have b:z.length<sizeLine:=BK (by have:=d.2.1;omega)
 refine⟨_,rfl,z,rfl,fT b,_,_,rfl,rfl,_,rfl,?_⟩
 refine C_ (λj=>?_) (λj=>absurd (decide_eq_true (by have:=d.1;omega)) j)
 refine⟨_,rfl,_,_,rfl,rfl,_,rfl,?_⟩
 refine C_ (λi=>?_) (λi=>absurd (decide_eq_true (by have:=d.2.1;omega)) i)
 refine⟨_,rfl,z,rfl,PQ (λ_=>true) (λc=>.bl (ZD letters c)) b (λc g a f R k=>k a (An.refl a)) (λc g _ a f R k=>⟨_,rfl,_,rfl,_,_,rfl,rfl,k a (An.refl a)⟩) (λD a o f l=>?_)⟩
 refine⟨D,z.cps.toList.map (ZD letters),rfl,.inl (.inl ?_),?_⟩
 ·rw[l,ba.mpr (λ_ _=>rfl),aE]
  rfl
 ·have e:(z.cps.toList.map (ZD letters)).all id=true:=by
   rw[List.all_map,fo]
   intro c g
   have:=d.2.2 c g
   show ZD letters c=true
   rw[Nq c (by omega)]
   exact decide_eq_true this
  rw[e]
  exact q a f
inductive Zk (vs:List V) (H:Hp) (Q:VK) (b9:XK):Prop
 | mk (z:Str):vs=[.str z]->isNm z->(∀ H',An H H'->Q (.bl true) H')->Zk vs H Q b9
theorem lN:Aq vr vr (Ac uJ):=Bf
include N T in
theorem cN:Ao P w K mg base Bb 2 aD.fNm aD.dNm vr Zk:=by
 refine N.FNm.1.DQ lN λH g Q E b h=>?_
 obtain⟨z,rfl,f,q⟩:=h
 obtain⟨a,d⟩:=T.letters
 obtain⟨c,e⟩:=T.mostL
 refine⟨_,(Ag (Ax (Di (BJ CQ rfl T.isin aI (Aa (pv 0) (Aa (DX (v:=.ty "str") rfl T.str ii rfl) Ab))) (Df (zC (lL N T) b rfl N.FMd (Aa (pv 0) (Aa (Cw (v:=.str letters) rfl d ⟨a,rfl⟩) (Aa (Cw (v:=.int 8) rfl e ⟨c,rfl⟩) Ab)))))))),?_⟩
 refine⟨_,rfl,_,"str",_,_,rfl,.str z,HH,_,rfl,Dd ?_⟩
 exact⟨_,rfl,z,rfl,f,q⟩
inductive Qd (vs:List V) (H:Hp) (Q:VK) (b9:XK):Prop
 | mk (p:Addr) (us:List V) (w:Str) (ρ:V->R):vs=[.ref p,.str w]->H p=some (.lst us)->Rows H ρ us->us.length<=500->(∀ D H',H D=none->An H H'->H' D=some (.lst (us.filter (pw ρ w)))->Q (.ref D) H')->Qd vs H Q b9
theorem vD:Aq C3 C3 (Ac rT):=Bf
include N T in
theorem Pa:Ao P w K mg base Bb 1 aD.fRo aD.dRo C3 Qd:=by
 refine N.FRo.1.DQ vD λH o Q E r h=>?_
 obtain⟨p,f,w,ρ,rfl,l,g,s,q⟩:=h
 refine⟨_,(Ag (Ax (Br rfl (Be (osc:=Ac rT) (N:=C3) rfl rfl (by decide)) (Bt (pv 0)) (λ_ _ _ _=>(GC (BR Cj (Az (Av (K:=K) rfl) (pv 0) Ae (λ_ _=>rfl)) (pv 2) (BX _)))) (λ_ _ _ _=>(pv 0))))),?_⟩
 have e:Dc K H p f:=.inl (.inl l)
 refine⟨_,rfl,p,rfl,⟨_,e⟩,Cz (K:=K) (xs:=f) (pw ρ w) id e (BK (by omega)) (λx d a b R k=>?_) (λx d _ a b R k=>⟨_,rfl,k a (An.refl a)⟩) (λD a n b c=>?_)⟩
 ·obtain⟨m,rfl,i⟩:=(g x d).mono b
  exact⟨_,rfl,m,_,_,_,rfl,rfl,kL i,Ah (j:=0) rfl,_,rfl,rfl,_,rfl,k a (An.refl a)⟩
 ·rw[ic] at c
  exact q D a n b c
inductive ZM (vs:List V) (H:Hp) (Q:VK) (b9:XK):Prop
 | mk (p:Addr) (us:List V) (w t:Str) (ρ:V->R):vs=[.ref p,.str w,.str t]->H p=some (.lst us)->Rows H ρ us->us.length<=500->isNm t->(∀ H',An H H'->Q (.bl (Yh ρ us w t)) H')->ZM vs H Q b9
theorem uY:Aq y7 y7 (Ac rF):=Bf
include N T in
theorem aR:Ao P w K mg base Bb 3 aD.fTo aD.dTo y7 ZM:=by
 refine N.FTo.1.DQ uY λH I Q E i h=>?_
 obtain⟨p,a,w,t,ρ,rfl,r,l,y,s,q⟩:=h
 refine⟨_,(Ag (Ax (Di (zC (cN N T) i rfl N.FNm (Aa (pv 2) Ab)) (Df (BJ (K8 rfl) rfl T.any jI (Aa (Br rfl (Be (osc:=Ac rF) (N:=y7) rfl rfl (by decide)) (Bt (zC (Pa N T) i rfl N.FRo (Aa (pv 0) (Aa (pv 1) Ab)))) (λ_ _ _ _=>Cv) (λ_ _ _ _=>(DW Cj (Az (Av (K:=K) rfl) (pv 0) Ae (λ_ _=>rfl)) (pv 3) (BX _)))) Ab)))))),?_⟩
 refine⟨_,rfl,t,rfl,s,λL c=>⟨_,rfl,Dd ?_⟩⟩
 refine⟨_,rfl,_,rfl,p,a,w,ρ,rfl,c _ _ r,l.mono c,y,λD o G m B=>?_⟩
 have f:Dc K o D (a.filter (pw ρ w)):=.inl (.inl B)
 refine⟨D,rfl,⟨_,f⟩,Cz (K:=K) (xs:=a.filter (pw ρ w)) (λ_=>true) (λv=>.bl (pn ρ t v)) f (BK (by have:=Iw (pw ρ w) a;omega)) (λx d b g R k=>k b (An.refl b)) (λx d _ b g R k=>?_) (λA z J F n=>?_)⟩
 ·obtain⟨u,rfl,C⟩:=(((l.mono c).mono m).mono g) x (bg.mp d).1
  exact⟨_,rfl,u,_,_,_,rfl,rfl,kL C,Ah (j:=1) rfl,_,rfl,rfl,k b (An.refl b)⟩
 ·refine⟨A,(a.filter (pw ρ w)).map (pn ρ t),rfl,.inl (.inl ?_),?_⟩
  ·rw[n,ba.mpr (λ_ _=>rfl),aE]
   rfl
  ·have e:((a.filter (pw ρ w)).map (pn ρ t)).any id=Yh ρ a w t:=by
    rw[List.any_map]
    rfl
   rw[e]
   exact q z ((c.trans m).trans F)
inductive eG (K:W.Frag) (vs:List V) (H:Hp) (Q:VK) (b9:XK):Prop
 | mk (i lo hi:Int) (b:Addr):vs=[.int i,.ref b]->KTup K b [.int lo,.int hi]->lo<=i->i<=hi->Q (.bl true) H->eG K vs H Q b9
theorem wD:Aq DO DO (Ac xg):=Bf
include N T in
theorem pI:Ao P w K mg base Bb 2 aD.fWi aD.dWi DO (eG K):=by
 refine N.FWi.1.DQ wD λH g Q E f h=>?_
 obtain⟨i,lo,e,b,rfl,a,d,c,q⟩:=h
 refine⟨_,(Ag (Ax (Di (zC (ak N T) f rfl N.FWh (Aa (pv 0) Ab)) (Df (Gk E_ E_ (Az (Av (K:=K) rfl) (pv 1) Ae (λ_ _=>rfl)) (pv 0) (Az (Av (K:=K) rfl) (pv 1) Ae (λ_ _=>rfl))))))),?_⟩
 refine⟨_,rfl,i,rfl,_,rfl,Dd ?_⟩
 refine⟨_,rfl,b,_,_,_,rfl,rfl,a.sq _,Ah (j:=0) rfl,_,rfl,_,_,rfl,rfl,_,rfl,?_⟩
 refine C_ (λ_=>?_) (λz=>absurd (decide_eq_true d) z)
 refine⟨_,rfl,b,_,_,_,rfl,rfl,a.sq _,Ah (j:=1) rfl,_,_,rfl,rfl,?_⟩
 show Q (.bl (decide (i<=e))) H
 rw[decide_eq_true c]
 exact q
inductive jN (K:W.Frag) (aB:Addr) (vs:List V) (H:Hp) (Q:VK) (b9:XK):Prop
 | mk (x:V) (part:Str) (p:Addr) (us:List V) (ρ:V->R):vs=[x,.str part,.ref p]->H p=some (.lst us)->Rows H ρ us->us.length<=500->JD K aB ρ us x part->(∀ H',An H H'->Q (.bl true) H')->jN K aB vs H Q b9
theorem xQ:Aq yY yY (Ac sE):=Bf
include N T in
theorem lH:Ao P w K mg base Bb 4 aD.fPa aD.dPa yY (jN K aB):=by
 refine N.FPa.1.DQ xQ λH vs Q E j h=>?_
 obtain⟨x,part,p,u,ρ,rfl,A,F,B,n,q⟩:=h
 refine⟨_,(Af (Bl (RM (Vf (pv 1) (Cw (v:=.ref aB) rfl T.mB rfl))) (Ag (Ax (zC (pI N T) j rfl N.FWi (Aa (pv 0) (Aa (N5 (Cw (v:=.ref aB) rfl T.mB rfl) (pv 1) (λ_ _=>rfl)) Ab))))) Ba)
  (Af (Bl (BR Cj (pv 1) BW (BX _)) (Ag (Ax (Di (zC (cN N T) j rfl N.FNm (Aa (pv 0) Ab)) (Df (Nx (BJ (K8 rfl) rfl T.any jI (Aa (Br rfl (Be (osc:=Ac sE) (N:=yY) rfl rfl (by decide)) (Q0 (Cw (v:=.ref aN) rfl T.mN rfl)) (λ_ _ _ _=>Cv) (λ_ _ _ _=>(zC (aR N T) j rfl N.FTo (Aa (pv 3) (Aa (pv 0) (Aa (pv 1) Ab)))))) Ab))))))) Ba)
  (Ag (Ax (zC (aR N T) j rfl N.FTo (Aa (pv 2) (Aa (pv 1) (Aa (pv 0) Ab)))))))),?_⟩
 rcases n with⟨i,lo,M,b,rfl,c,U,J,S⟩ | ⟨c,rfl,t,rfl,l,o⟩ | ⟨c,m,t,rfl,l,I⟩
 ·refine⟨_,rfl,aB,part,_,rfl,rfl,T.dB,c,_,rfl,Dd ?_⟩
  exact⟨_,rfl,_,rfl,aB,part,.ref b,_,rfl,rfl,T.dB,c,rfl,i,lo,M,b,rfl,U,J,S,q H (An.refl H)⟩
 ·refine⟨_,rfl,aB,_,_,rfl,rfl,T.dB,c,_,rfl,Bk ?_⟩
  refine⟨_,rfl,rfl,_,rfl,Dd ?_⟩
  refine⟨_,rfl,t,rfl,l,λY r=>⟨_,rfl,Dd ?_⟩⟩
  have f:HW K Y aN (named.map V.str):=T.tN.sq _
  refine⟨aN,rfl,⟨_,f⟩,Hq (xs:=named.map V.str) (λ_=>true) (λ_=>.bl false) (by show 5<sizeLine;decide) (λi g x a e=>⟨_,x,a.tup f,e⟩) (λi g y H3 a _ C=>⟨C.1,C.2 _ (a.tup f)⟩) (λg a=>⟨_,a.tup f,Nat.le_refl _⟩)
   (λx e d a R k=>k d (An.refl d)) (λx e _ d a R k=>?_) (λD g Z W O=>?_)⟩
  ·obtain⟨G,s,rfl⟩:=ay.mp e
   refine⟨_,rfl,_,rfl,_,rfl,p,u,G,t,ρ,rfl,a _ _ (r _ _ A),(F.mono r).mono a,B,l,λL X=>?_⟩
   rw[o G s]
   exact k L X
  ·refine⟨D,[false,false,false,false,false],rfl,kL O,_,rfl,?_⟩
   exact q g (r.trans W)
 ·refine⟨_,rfl,aB,_,_,rfl,rfl,T.dB,c,_,rfl,Bk ?_⟩
  refine⟨_,rfl,rfl,_,rfl,?_⟩
  refine C_ (λz=>absurd (V.str.inj (of_decide_eq_true z)) m) (λ_=>?_)
  refine⟨_,rfl,_,rfl,_,rfl,p,u,part,t,ρ,rfl,A,F,B,l,λd a=>?_⟩
  rw[I]
  exact q d a
inductive dw (K:W.Frag) (aB aP:Addr) (vs:List V) (H:Hp) (Q:VK) (b9:XK):Prop
 | mk (r p:Addr) (w:Str) (xs:List V) (us:List V) (ρ:V->R) (ap:Addr) (ps:List Str):vs=[.ref r,.ref p]->H r=some (.tup (.str w::xs))->H p=some (.lst us)->Rows H ρ us->us.length<=500->W.nsIn K aP w=some (some (.ref ap))->KTup K ap (ps.map V.str)->xs.length=ps.length->ps.length<=10->(∀ (i:Nat) x y,xs[i]? = some x->ps[i]? = some y->JD K aB ρ us x y)->(∀ H',An H H'->Q (.bl true) H')->dw K aB aP vs H Q b9
theorem pW:Aq ["row","ahead","parts"] wP (Ac sW):=Bf
include N T in
theorem oF:Ao P w K mg base Bb 5 aD.fHp aD.dHp wP (dw K aB aP):=by
 refine N.FHp.1.DQ pW λH vs Q E Z h=>?_
 obtain⟨r,p,w,a,W,ρ,s,u,rfl,m,X,hR,hl,hn,f,b,EU,g,q⟩:=h
 refine⟨_,(Af (Bh (i:=2) pW.nd rfl (Or.inl rfl) (N5 (Cw (v:=.ref aP) rfl T.mP rfl) (Az (Av (K:=K) rfl) (pv 0) Ae (λ_ _=>rfl)) (λ_ _=>rfl)))
  (Af (Bl (BR Hz (BJ BL rfl T.len aS (Aa (pv 0) Ab)) (BZ CW Ae (BJ BL rfl T.len aS (Aa (pv 2) Ab))) (BX _)) (Ag (Ax HD)) Ba)
  (Ag (Ax (BJ (Hw rfl) rfl T.all gx (Aa (Ny rfl (G3 (osc:=Ac sW) (N:=["row","ahead","parts"]) rfl rfl (by decide)) (Zf rfl T.zip (Aa (Ek Nj (pv 0) (Eu Ae) GP) (Aa (pv 2) Ab))) (λ_ _ _ _=>Cv) (λ_ _ _ _=>(zC (lH N T) Z rfl N.FPa (Aa (pv 0) (Aa (pv 1) (Aa (pv 3) Ab)))))) Ab)))))),?_⟩
 refine⟨_,rfl,r,_,_,_,rfl,rfl,kL m,Ah (j:=0) rfl,aP,w,.ref s,_,rfl,rfl,T.dP,hn,rfl,?_⟩
 refine⟨_,rfl,r,_,rfl,.inr (.inl (.inl m)),_,rfl,s,_,rfl,.inr (f.sq _),_,_,rfl,rfl,rfl,_,rfl,?_⟩
 refine C_ (λz=>?_) (λ_=>?_)
 ·exfalso
  have e:(((V.str w::a).length:Nat):Int)=1+(((u.map V.str).length:Nat):Int):=by
   rw[bo,af,b]
   omega
  rw[e] at z
  simp at z
 ·have c:En (V.str w::a) (some 1) none=a:=by
   unfold En
   have t:HT.Dy (V.str w::a).length 0 (some ((1:Nat):Int))=1:=by rw[HT.GZ,bo];omega
   have A:HT.Dy (V.str w::a).length 0 (some (1:Int))=1:=t
   rw[A,HT.LR,List.drop_succ_cons,List.drop_zero]
   exact gg (by rw[bo];omega)
  refine⟨_,rfl,_,rfl,r,_,rfl,kL m,(λz=>?_),λB M=>?_⟩
  ·have t:HT.Dy (V.str w::a).length 0 (some ((1:Nat):Int))=1:=by rw[HT.GZ,bo];omega
   have:=z.1.symm.trans t
   cases this
  rw[c]
  obtain⟨Y,S,n,O⟩:=Em (o:=HO.tup a) M
  rw[S]
  have F:HW K Y B a:=.inl (.inl O)
  refine⟨_,rfl,B,s,rfl,⟨_,F⟩,⟨_,f.sq _⟩,Xk (K:=K) (xs:=a) (ys:=u.map V.str) (λ_ _=>.bl true) F (f.sq _) (by rw[af];exact b) (BK (by omega)) (λi x y L J I d R k=>?_) (λD I hD d C=>?_)⟩
  ·rw[am] at J
   obtain⟨part,E7,rfl⟩:=aT.mp J
   exact⟨_,rfl,_,rfl,_,rfl,x,part,p,W,ρ,rfl,d _ _ (n _ _ X),(hR.mono n).mono d,hl,g i x part L E7,λH4 U=>k H4 U⟩
  ·have e:List.zipWith (λ_ _=>V.bl true) a (u.map V.str)=(List.replicate a.length true).map V.bl:=by
    rw[List.map_replicate]
    refine ft λi=>?_
    rw[gp]
    by_cases G:i<a.length
    ·rw[ae G,ae (by rw[af];omega),ae (by rw[iX];exact G)]
     simp
    ·rw[dE (by omega),dE (l:=List.replicate _ _) (by rw[iX];omega)]
   rw[e] at C
   refine⟨D,List.replicate a.length true,rfl,kL C,?_⟩
   have e2:(List.replicate a.length true).all id=true:=by simp
   rw[e2]
   exact q I (n.trans d)
inductive jM (vs:List V) (H:Hp) (Q:VK) (b9:XK):Prop
 | mk (p:Addr) (us:List V) (ρ:V->R) (c:Nat):vs=[.ref p]->H p=some (.lst us)->Rows H ρ us->us.length<=500->bj ρ us c->Q (.int (c:Nat)) H->jM vs H Q b9
theorem Yk:Aq ["rows","count","row"] ["rows"] (Ac wG):=Bf
include N T in
theorem jt:Ao P w K mg base Bb 1 aD.fCl aD.dCl ["rows"] jM:=by
 refine N.FCl.1.DQ Yk λH C Q E F h=>?_
 obtain⟨p,m,ρ,c,rfl,A,u,G,k,q⟩:=h
 refine⟨_,(Af (Bh (i:=1) Yk.nd rfl (Or.inl rfl) Ae)
  (Af (Eh PassesOwn.never rfl (cz rfl T.reversed (Aa (pv 0) Ab)) (Ck (i:=2) Yk.nd rfl (Or.inl rfl)) (Af (Bl (BR Hz (Az (Av (K:=K) rfl) (pv 2) Ae (λ_ _=>rfl)) BW (BX _)) (Ag V8) Ba)
  (Ag (Bh (i:=1) Yk.nd rfl (Or.inl rfl) (BZ CW (pv 1) Ae)))))
  (Ag (Ax (pv 1))))),?_⟩
 have o:Dc K H p m:=.inl (.inl A)
 refine⟨_,rfl,p,m,rfl,o,aG (K:=K) (a:=p) (xs:=m) (λi σ d=>d=H/\i<=c/\∃ f,σ=[some (.ref p),some (.int (i:Nat)),f]) ⟨rfl,dL _,_,rfl⟩ (λi σ d _ h=>by rw[h.1];exact o) ?_ ?_⟩
 ·rintro i x σ d D g ⟨rfl,n,f,rfl⟩
  obtain⟨r,rfl,B⟩:=u x (ai g)
  refine⟨_,rfl,r,_,_,_,rfl,rfl,kL B,Ah (j:=0) rfl,rfl,_,rfl,?_⟩
  by_cases e:(ρ (.ref r)).w = "line"
  ·have t:i ≠ c:=λz=>by
    obtain⟨v,b,l⟩:=k.no
    rw[<-z,g] at b
    cases b
    exact l e
   refine bT (congrArg V.str e) ?_
   exact⟨_,rfl,_,_,rfl,rfl,rfl,by omega,_,rfl⟩
  ·have y:i=c:=by
    refine Classical.byContradiction λz=>?_
    obtain⟨v,b,s⟩:=k.all i (by omega)
    rw[g] at b
    cases b
    exact e s
   subst y
   rw[decide_eq_false λz=>e (V.str.inj z)]
   refine Dd ?_
   exact⟨_,rfl,q⟩
 ·rintro σ d ⟨rfl,n,f,rfl⟩
  have:=k.lt
  omega
inductive fU (vs:List V) (H:Hp) (Q:VK) (b9:XK):Prop
 | mk (n:Int) (bd:Str) (p:Addr) (us:List V) (ρ:V->R):vs=[.int n,.str bd,.ref p]->H p=some (.lst us)->Rows H ρ us->us.length<=500->Ft ρ us->(∀ H',An H H'->Q (.bl (keyOf ρ us bd n)) H')->fU vs H Q b9
theorem ux:Aq xp xp (Ac rZ):=Bf
include N T in
theorem pK:Ao P w K mg base Bb 2 aD.fIk aD.dIk xp fU:=by
 refine N.FIk.1.DQ ux λH W Q E F h=>?_
 obtain⟨n,l,p,a,ρ,rfl,C,y,G,O,q⟩:=h
 refine⟨_,(Ag (Ax (BJ (K8 rfl) rfl T.any jI (Aa (Br rfl (Be (osc:=Ac rZ) (N:=xp) rfl rfl (by decide)) (Bt (zC (Pa N T) F rfl N.FRo (Aa (pv 2) (Aa BW Ab)))) (λ_ _ _ _=>Cv) (λ_ _ _ _=>(Di (DW Cj (Az (Av (K:=K) rfl) (pv 0) Ae (λ_ _=>rfl)) (pv 2) (BX _)) (Df (DW HF (pv 1) (Az (Av (K:=K) rfl) (pv 0) Ae (λ_ _=>rfl)) (BX _)))))) Ab)))),?_⟩
 refine⟨_,rfl,p,a,"board",ρ,rfl,C,y,G,λD B U z L=>?_⟩
 have s:Dc K B D (a.filter (pw ρ "board")):=.inl (.inl L)
 refine⟨D,rfl,⟨_,s⟩,Cz (K:=K) (xs:=a.filter (pw ρ "board")) (λ_=>true) (λv=>.bl (pn ρ l v && decide (n<iJ (ρ v)))) s (BK (by have:=Iw (pw ρ "board") a;omega)) (λx r d u R k=>k d (An.refl d)) (λx r _ d u R k=>?_) (λJ I X S A=>?_)⟩
 ·have f:=bg.mp r
  obtain⟨m,t⟩:=O x f.1 (V.str.inj (of_decide_eq_true f.2))
  have M:iJ (ρ x)=m:=by unfold iJ;rw[t]
  have o:=((y.mono z).mono u) x f.1
  have c:=k d (An.refl d)
  rw[M] at c
  obtain⟨b,rfl,o⟩:=o
  have c:R (.bl (decide (V.str (ρ (.ref b)).nm=V.str l) && decide (n<m))) d:=c
  have i:d b=some (.tup (.str (ρ (.ref b)).w :: .str (ρ (.ref b)).nm::(ρ (.ref b)).rest)):=o
  rw[t] at i
  refine⟨_,rfl,b,_,_,_,rfl,rfl,kL i,Ah (j:=1) rfl,_,rfl,rfl,_,rfl,?_⟩
  refine C_ (λg=>?_) (λg=>?_)
  ·rw[g,fS] at c
   exact⟨_,rfl,_,rfl,b,_,_,_,rfl,rfl,kL i,Ah (j:=2) rfl,_,_,rfl,rfl,c⟩
  ·rw[(fq _).mp g,hG] at c
   exact c
 ·refine⟨J,(a.filter (pw ρ "board")).map (λv=>pn ρ l v && decide (n<iJ (ρ v))),rfl,.inl (.inl ?_),?_⟩
  ·rw[A,ba.mpr (λ_ _=>rfl),aE]
   rfl
  ·have e:((a.filter (pw ρ "board")).map (λv=>pn ρ l v && decide (n<iJ (ρ v)))).any id=keyOf ρ a l n:=by
    rw[List.any_map]
    rfl
   rw[e]
   exact q I (z.trans S)
inductive dY (vs:List V) (H:Hp) (Q:VK) (b9:XK):Prop
 | mk (r p:Addr) (ro:R) (us:List V) (ρ:V->R):vs=[.ref r,.ref p]->H r=some (.tup ro.v)->H p=some (.lst us)->Rows H ρ us->us.length<=500->Qm ρ us ro->Ft ρ us->(∀ H',An H H'->Q (.bl true) H')->dY vs H Q b9
theorem g_:Aq ["line","ahead","count","row"] ["line","ahead"] (Ac uG):=Bf
include N T in
theorem pZ:Ao P w K mg base Bb 3 aD.fSb aD.dSb ["line","ahead"] dY:=by
 refine N.FSb.1.DQ g_ λH X Q E t h=>?_
 obtain⟨r,p,l,b,ρ,rfl,B,f,g,u,A,O,q⟩:=h
 obtain⟨x,y⟩:=T.mostLn
 refine⟨_,(Af (Bh (i:=2) g_.nd rfl (Or.inl rfl) (zC (jt N T) t rfl N.FCl (Aa (pv 1) Ab)))
  (Af (Bh (i:=3) g_.nd rfl (Or.inl rfl) (Az Ea (pv 1) (BZ Fw (BZ Fw (BJ BL rfl T.len aS (Aa (pv 1) Ab)) Ae) (pv 2)) (λ_ _=>rfl)))
  (Af (Bl (PW.pt (D_ (BR Hz (Az (Av (K:=K) rfl) (pv 3) Ae (λ_ _=>rfl)) BW (BX _)) (Do (BR bG (pv 2) (Cw (v:=.int 4) rfl y ⟨x,rfl⟩) (BX _))))) (Ag (Ax HD)) Ba)
  (Ag (Ax (Di (DW E_ (Az (Av (K:=K) rfl) (pv 0) Ae (λ_ _=>rfl)) (Az (Av (K:=K) rfl) (pv 0) Ae (λ_ _=>rfl)) (BX _)) (Df (zC (pK N T) t rfl N.FIk (Aa (Az (Av (K:=K) rfl) (pv 0) Ae (λ_ _=>rfl)) (Aa (Az (Av (K:=K) rfl) (pv 3) Ae (λ_ _=>rfl)) (Aa (pv 1) Ab))))))))))),?_⟩
 obtain⟨cnt,v,F,lo,s,k,U,J,o,W,n,L,C,e,R⟩:=A.ex
 have c:H r=some (.tup [.str l.w,.str l.nm,.int F,.int lo,.int s]):=by rw[B,<-J]
 obtain⟨d,rfl,G⟩:=g v (ai n)
 have a:H d=some (.tup (.str (ρ (.ref d)).w :: .str (ρ (.ref d)).nm :: .str k::U)):=by rw[G,<-C]
 have D:=o.lt
 have I:((b.length:Nat):Int) - 1 - ((cnt:Nat):Int)=((b.length - 1 - cnt:Nat):Int):=by omega
 have m:Dc K H p b:=.inl (.inl f)
 refine⟨_,rfl,p,b,ρ,cnt,rfl,f,g,u,o,?_⟩
 refine⟨_,rfl,_,rfl,p,b,rfl,.inl m,_,_,rfl,rfl,_,rfl,_,_,rfl,rfl,p,b,_,_,rfl,rfl,m,(by rw[I];exact Ah n),?_⟩
 refine⟨_,rfl,d,_,_,_,rfl,rfl,kL a,Ah (j:=0) rfl,rfl,_,rfl,bT (congrArg V.str L) ?_⟩
 refine⟨_,rfl,_,_,rfl,rfl,_,rfl,?_⟩
 refine C_ (λz=>?_) (λ_=>?_)
 ·have:=of_decide_eq_true z
  omega
 refine⟨_,rfl,r,_,_,_,rfl,rfl,kL c,Ah (j:=3) rfl,_,rfl,r,_,_,_,rfl,rfl,kL c,Ah (j:=4) rfl,_,_,rfl,rfl,_,rfl,?_⟩
 refine C_ (λ_=>?_) (λz=>absurd (decide_eq_true e) z)
 refine⟨_,rfl,r,_,_,_,rfl,rfl,kL c,Ah (j:=4) rfl,_,rfl,d,_,_,_,rfl,rfl,kL a,Ah (j:=2) rfl,_,rfl,s,k,p,b,ρ,rfl,f,g,u,O,λM S=>?_⟩
 rw[R]
 exact q M S
inductive fV (vs:List V) (H:Hp) (Q:VK) (b9:XK):Prop
 | mk (r p:Addr) (ro:R) (us:List V) (ρ:V->R) (ts:List Str):vs=[.ref r,.ref p]->H r=some (.tup ro.v)->H p=some (.lst us)->Rows H ρ us->us.length<=500->V.str ro.nm::ro.rest=ts.map V.str->ts.Nodup->ts.length<=24->(∀ t∈ts,isNm t/\Yh ρ us "stop" t=true)->(∀ H',An H H'->Q (.bl true) H')->fV vs H Q b9
theorem qZ:Aq ["row","ahead","names"] wP (Ac rC):=Bf
include N T in
theorem lB:Ao P w K mg base Bb 5 aD.fIs aD.dIs wP fV:=by
 refine N.FIs.1.DQ qZ λH vs Q E hr h=>?_
 obtain⟨r,p,d,Y,ρ,c,rfl,C,Z,hR,hl,I,nd,zk,n,q⟩:=h
 refine⟨_,(Af (Bh (i:=2) qZ.nd rfl (Or.inl rfl) (Ek Nj (pv 0) (Eu Ae) GP))
  (Af (Bl (PW.pt (D_ (BR Cj (BJ BL rfl T.len aS (Aa (pv 2) Ab)) Ae (BX _)) (Do (CG (CV (BJ (Hw rfl) rfl T.all gx (Aa (Br rfl (Be (osc:=Ac rC) (N:=["row","ahead","names"]) rfl rfl (by decide)) (Q0 (pv 2)) (λ_ _ _ _=>Cv) (λ_ _ _ _=>(zC (aR N T) hr rfl N.FTo (Aa (pv 2) (Aa BW (Aa (pv 0) Ab)))))) Ab))))))) (Ag (Ax HD)) Ba)
  (Ag (Ax (DW Cj (BJ L_ rfl T.len aS (Aa (Dg (U4 rfl) rfl T.set PyProof.Rows.boot_set (Aa (pv 2) Ab)) Ab)) (BJ BL rfl T.len aS (Aa (pv 2) Ab)) (BX _)))))),?_⟩
 have L:d.v=V.str d.w::c.map V.str:=by
  show V.str d.w::(V.str d.nm::d.rest)=_
  rw[I]
 rw[L] at C
 have ab:1<=c.length:=by
  cases c with
  | nil=>cases I
  | cons a b=>exact dA (dL _)
 have f:En (V.str d.w::c.map V.str) (some 1) none=c.map V.str:=by
  unfold En
  have y:HT.Dy (V.str d.w::c.map V.str).length 0 (some 1)=1:=by
   rw[show (some (1:Int))=some ((1:Nat):Int) from rfl,HT.GZ]
   simp
  rw[y,HT.LR]
  simp
  exact gg (by rw[af];exact ah _)
 refine⟨_,rfl,_,rfl,r,_,rfl,kL C,?_,λg M=>?_⟩
 ·rintro⟨z,_⟩
  have y:HT.Dy (V.str d.w::c.map V.str).length 0 (some 1)=1:=by
   rw[show (some (1:Int))=some ((1:Nat):Int) from rfl,HT.GZ]
   simp
  rw[y] at z
  cases z
 rw[f]
 obtain⟨H1,O,t,B⟩:=Em (o:=HO.tup (c.map V.str)) M
 rw[O]
 have u:HW K H1 g (c.map V.str):=.inl (.inl B)
 have s:(c.map V.str).length=c.length:=af ..
 refine⟨_,rfl,g,_,rfl,.inr u,rfl,_,rfl,C_ (λz=>?_) (λ_=>?_)⟩
 ·exfalso
  have:=V.int.inj (of_decide_eq_true z)
  omega
 refine⟨_,rfl,g,rfl,⟨_,u⟩,O5 (K:=K) (xs:=c.map V.str) (λ_=>true) (λ_=>.bl true) u (BK (by omega)) (λx A v l R k=>k v (An.refl v)) (λx A _ v l R k=>?_) (λD H2 hD G k7=>?_)⟩
 ·obtain⟨z,hz,rfl⟩:=ay.mp A
  obtain⟨X,U⟩:=n z hz
  refine⟨_,rfl,_,rfl,p,Y,"stop",z,ρ,rfl,l _ _ (t _ _ Z),(hR.mono t).mono l,hl,X,λH3 j=>?_⟩
  rw[U]
  exact k H3 j
 ·refine⟨D,List.replicate c.length true,rfl,.inl (.inl ?_),_,rfl,?_⟩
  ·rw[k7,ba.mpr (λ_ _=>rfl),aE]
   congr 2
   refine ft λi=>?_
   rw[am,am,List.getElem?_replicate]
   by_cases m:i<c.length
   ·rw[ae m,if_pos m]
    rfl
   ·rw[dE (by omega),if_neg m]
    rfl
  have W:(List.replicate c.length true).all id=true:=by simp
  rw[W]
  refine Bk ?_
  have F:=G _ _ B
  refine⟨_,rfl,g,c,rfl,kL F,by omega,λS J=>?_⟩
  have j:=BP (o:=Pg P w S (c.foldl Ws.Gf [])) J
  refine⟨S,_,rfl,Al,_,rfl,g,_,rfl,.inr (.inl (.inl (j _ _ F))),rfl,?_⟩
  have e:c.foldl Ws.Gf []=c:=(M8 c [] (by rw[List.nil_append];exact nd)).trans (List.nil_append _)
  have e2:decide (V.int (((c.foldl Ws.Gf []).length:Nat):Int)=V.int (((c.map V.str).length:Nat):Int))=true:=decide_eq_true (by rw[e,s])
  rw[e2]
  exact q _ (t.trans (G.trans j))
inductive ZQ (K:W.Frag) (aB aP aM:Addr) (vs:List V) (H:Hp) (Q:VK) (b9:XK):Prop
 | mk (r p:Addr) (ro:R) (us:List V) (ρ:V->R):vs=[.ref r,.ref p]->H r=some (.tup ro.v)->H p=some (.lst us)->Rows H ρ us->us.length<=500->Hs K aB aP aM ρ us ro->(∀ H',An H H'->Q (.bl true) H')->ZQ K aB aP aM vs H Q b9
theorem wK:Aq wP wP (Ac yz):=Bf
include N T in
theorem jx:Ao P w K mg base Bb 6 aD.fWm aD.dWm wP (ZQ K aB aP aM):=by
 refine N.FWm.1.DQ wK λH I Q E g h=>?_
 obtain⟨r,p,d,e,ρ,rfl,b,f,l,i,o,q⟩:=h
 refine⟨_,(Af (Bl (BR Cj (Az (Av (K:=K) rfl) (pv 0) Ae (λ_ _=>rfl)) BW (BX _)) (Ag (Ax (zC (lB N T) g rfl N.FIs (Aa (pv 0) (Aa (pv 1) Ab))))) Ba)
  (Af (Bl (BR Cj (Az (Av (K:=K) rfl) (pv 0) Ae (λ_ _=>rfl)) BW (BX _)) (Ag (Ax (Di (zC (oF N T) g rfl N.FHp (Aa (pv 0) (Aa (pv 1) Ab))) (Df (zC (pZ N T) g rfl N.FSb (Aa (pv 0) (Aa (pv 1) Ab))))))) Ba)
  (Ag (Ax (Di (Xf (Vf (Az (Av (K:=K) rfl) (pv 0) Ae (λ_ _=>rfl)) (Cw (v:=.ref aP) rfl T.mP rfl))) (Df (zC (oF N T) g rfl N.FHp (Aa (pv 0) (Aa (pv 1) Ab))))))))),?_⟩
 refine⟨_,rfl,r,_,_,_,rfl,rfl,kL b,Ah (j:=0) rfl,rfl,_,rfl,?_⟩
 rcases o with ok | ok
 case inr =>
  obtain⟨y,G,D,B,m⟩:=ok.ts
  refine C_ (λ_=>?_) (λz=>absurd (decide_eq_true (congrArg V.str ok.w)) z)
  exact⟨_,rfl,_,rfl,r,p,d,e,ρ,y,rfl,b,f,l,i,G,D,B,m,q⟩
 obtain⟨x,u,n,s,a,t,c⟩:=ok.parts
 refine C_ (λz=>absurd (V.str.inj (of_decide_eq_true z)) ok.ns) (λ_=>?_)
 refine⟨_,rfl,r,_,_,_,rfl,rfl,kL b,Ah (j:=0) rfl,rfl,_,rfl,?_⟩
 refine C_ (λz=>?_) (λ_=>?_)
 ·have C:=ok.line (V.str.inj (of_decide_eq_true z))
  refine⟨_,rfl,_,rfl,r,p,d.w,_,e,ρ,x,u,rfl,b,f,l,i,n,s,a,t,c,λJ k=>⟨_,rfl,Dd ?_⟩⟩
  exact⟨_,rfl,_,rfl,r,p,d,e,ρ,rfl,k _ _ b,k _ _ f,l.mono k,i,C,ok.jW,λA F=>q A (k.trans F)⟩
 refine⟨_,rfl,r,_,_,_,rfl,rfl,kL b,Ah (j:=0) rfl,aP,_,_,rfl,rfl,T.dP,n,_,rfl,Dd ?_⟩
 exact⟨_,rfl,_,rfl,r,p,d.w,_,e,ρ,x,u,rfl,b,f,l,i,n,s,a,t,c,q⟩
inductive dC (K:W.Frag) (aM:Addr) (vs:List V) (H:Hp) (Q:VK) (b9:XK):Prop
 | mk (p:Addr) (w:Str) (us:List V) (ρ:V->R):vs=[.str w,.ref p]->H p=some (.lst us)->Rows H ρ us->us.length<=500->(W.nsIn K aM w=some none \/ ∃ (m:Int) (t:Tok),W.nsIn K aM w=some (some (.int m t))/\(((us.filter (pw ρ w)).length:Nat):Int)<m)->(∀ H',An H H'->Q (.bl true) H')->dC K aM vs H Q b9
theorem uU:Aq E6 E6 (Ac yw):=Bf
include N T in
theorem oW:Ao P w K mg base Bb 2 aD.fHr aD.dHr E6 (dC K aM):=by
 refine N.FHr.1.DQ uU λH n Q E j h=>?_
 obtain⟨p,w,c,ρ,rfl,i,f,l,a,q⟩:=h
 refine⟨_,(Ag (Ax (nY (Xf (Uv (pv 0) (Cw (v:=.ref aM) rfl T.mM rfl))) (Df (DW HF (BJ BL rfl T.len aS (Aa (zC (Pa N T) j rfl N.FRo (Aa (pv 1) (Aa (pv 0) Ab))) Ab)) (N5 (Cw (v:=.ref aM) rfl T.mM rfl) (pv 0) (λ_ _=>rfl)) (BX _)))))),?_⟩
 rcases a with b | ⟨m,t,b,k⟩
 ·refine⟨_,rfl,aM,w,_,rfl,rfl,T.dM,b,_,rfl,Dd ?_⟩
  exact q H (An.refl H)
 refine⟨_,rfl,aM,w,_,rfl,rfl,T.dM,b,_,rfl,Bk ?_⟩
 refine⟨_,rfl,_,rfl,p,c,w,ρ,rfl,i,f,l,λD d o g e=>?_⟩
 refine⟨D,_,rfl,kL (.inl e),_,rfl,aM,w,.int m,_,rfl,rfl,T.dM,b,⟨t,rfl⟩,_,_,rfl,rfl,?_⟩
 show Q (.bl (decide ((((c.filter (pw ρ w)).length:Nat):Int)<m))) d
 rw[decide_eq_true k]
 exact q d g
def qC (K:W.Frag) (aB aP aM:Addr):Sp:=ZQ K aB aP aM
theorem yP:Aq EE EE (Ac uy):=Bf
include N T in
theorem ph:Ao P w K mg base Bb 7 aD.fIr aD.dIr EE (qC K aB aP aM):=by
 refine N.FIr.1.ok yP (λn H Q E h=>?_) (λx A f s H n Q E k h=>?_)
 ·obtain⟨r,p,b,e,ρ,rfl,_⟩:=h
  rfl
 ·obtain⟨r,p,b,e,ρ,rfl,c,i,g,l,ok,q⟩:=h
  refine⟨_,(Af (Bl (PW.pt (D_ (CG (CV (BJ CQ rfl T.isin aI (Aa (pv 0) (Aa (DX (v:=.ty "tuple") rfl T.tuple gT rfl) Ab))))) (D_ (BR Cj (BJ BL rfl T.len aS (Aa (pv 0) Ab)) Ae (BX _)) (Do (CG (CV (BJ CQ rfl T.isin aI (Aa (Az (Av (K:=K) rfl) (pv 0) Ae (λ_ _=>rfl)) (Aa (DX (v:=.ty "str") rfl T.str ii rfl) Ab))))))))) (Ag (Ax HD)) Ba)
   (Ag (Ax (Di (zC (jx N T) k rfl N.FWm (Aa (pv 0) (Aa (pv 1) Ab))) (Df (zC (oW N T) k rfl N.FHr (Aa (Az (Av (K:=K) rfl) (pv 0) Ae (λ_ _=>rfl)) (Aa (pv 1) Ab)))))))),?_⟩
  have a:W.nsIn K aM b.w=some none \/ ∃ (m:Int) (t:Tok),W.nsIn K aM b.w=some (some (.int m t))/\(((e.filter (pw ρ b.w)).length:Nat):Int)<m:=Hs.room ok
  refine⟨_,rfl,_,"tuple",_,_,rfl,.tup c,Hk,_,rfl,Bk ?_⟩
  refine⟨_,rfl,r,_,rfl,.inr (.inl (.inl c)),rfl,_,rfl,?_⟩
  refine C_ (λz=>?_) (λ_=>?_)
  ·exfalso
   have:=of_decide_eq_true z
   have:=V.int.inj this
   simp at this
   omega
  refine⟨_,rfl,r,_,_,_,rfl,rfl,kL c,Ah (j:=0) rfl,_,"str",_,_,rfl,.str _,HH,_,rfl,Bk ?_⟩
  refine⟨_,rfl,_,rfl,r,p,b,e,ρ,rfl,c,i,g,l,ok,λy d=>⟨_,rfl,Dd ?_⟩⟩
  exact⟨_,rfl,r,_,_,_,rfl,rfl,kL (d _ _ c),Ah (j:=0) rfl,_,rfl,p,b.w,e,ρ,rfl,d _ _ i,g.mono d,l,a,λu o=>q u (d.trans o)⟩
inductive gP (K:W.Frag) (aB aP aM:Addr) (vs:List V) (H:Hp) (Q:VK) (b9:XK):Prop
 | mk (p:Addr) (us:List V) (ρ:V->R):vs=[.ref p]->H p=some (.lst us)->Rows H ρ us->1<=us.length->us.length<=150->(∀ (i:Nat) v,us[i]? = some v->Hs K aB aP aM ρ (us.take i) (ρ v))->(us.filter (pw ρ "board")).isEmpty=false->(∀ H',An H H'->Q .non H')->gP K aB aP aM vs H Q b9
theorem jK:Aq ["rows","at","row"] ["rows"] (Ac yN):=Bf
include N T in
theorem jw:Ao P w K mg base Bb 8 aD.fCk aD.dCk ["rows"] (gP K aB aP aM):=by
 refine N.FCk.1.DQ jK λH Z Q E G h=>?_
 obtain⟨p,b,ρ,rfl,t,A,W,h2,s,U,q⟩:=h
 obtain⟨V,F⟩:=T.mostR
 refine⟨_,(Af (Bl (PW.pt (D_ (CG (CV (BJ CQ rfl T.isin aI (Aa (pv 0) (Aa (DX (v:=.ty "list") rfl T.list dS rfl) Ab))))) (Do (CG (Hg E_ E_ Ae (BJ BL rfl T.len aS (Aa (pv 0) Ab)) (Cw (v:=.int 150) rfl F ⟨V,rfl⟩)))))) (Ag IV) Ba)
  (Af (Eh PassesOwn.never rfl (Kl rfl T.enumerate (Aa (pv 0) Ab)) (Ld rfl (EY (Ck (i:=1) jK.nd rfl (Or.inl rfl)) (EY (Ck (i:=2) jK.nd rfl (Or.inl rfl)) Jg))) (Ag (Bl (CG (CV (zC (ph N T) G rfl N.FIr (Aa (pv 2) (Aa (Ek Ja (pv 0) GP (Eu (pv 1))) Ab))))) (Ag IV) Ba)))
  (Ag (Bl (CG (Ku (zC (Pa N T) G rfl N.FRo (Aa (pv 0) (Aa BW Ab))) (λ_=>rfl))) (Ag IV) Ba)))),?_⟩
 have g:Dc K H p b:=.inl (.inl t)
 refine⟨_,rfl,_,"list",_,_,rfl,.lst t,Wk,_,rfl,Bk ?_⟩
 refine⟨_,rfl,p,_,rfl,.inl g,_,_,rfl,rfl,_,rfl,?_⟩
 refine C_ (λ_=>?_) (λz=>absurd (decide_eq_true (by omega)) z)
 refine⟨_,_,rfl,rfl,_,rfl,?_⟩
 have c:decide ((b.length:Int)<=150)=true:=decide_eq_true (by omega)
 rw[c]
 refine Bk ?_
 refine⟨_,rfl,p,rfl,⟨_,g⟩,Ky (K:=K) (a:=p) (xs:=b) (λi σ e=>An H e/\∃ B l,σ=[some (.ref p),B,l]) ⟨An.refl H,_,_,rfl⟩ (λi σ e _ h=>h.1.seq g) ?_ ?_⟩
 ·rintro i x σ e I m ⟨d,B,l,rfl⟩ S
  have k:=BP (o:=HO.tup [.int (i:Int),x]) S
  refine⟨I,_,rfl,kL Al,rfl,_,_,rfl,_,_,rfl,rfl,?_⟩
  generalize upd e I (HO.tup [.int (i:Int),x])=f at k |-
  have u:=d.trans k
  have X:i<b.length:=(ag.mp m).1
  obtain⟨r,rfl,R⟩:=(A.mono u) x (ai m)
  refine⟨_,rfl,_,rfl,_,rfl,_,rfl,p,_,rfl,u.seq g,λj C=>?_⟩
  have n:=BP (o:=HO.lst (En b none (some (i:Int)))) C
  have y:upd f j (HO.lst (En b none (some (i:Int)))) j=_:=Al
  generalize upd f j (HO.lst (En b none (some (i:Int))))=H6 at n y |-
  rw[Jp b i (by omega)] at y
  have J:=u.trans n
  refine⟨r,j,ρ (.ref r),b.take i,ρ,rfl,n _ _ R,y,(A.mono J).sub λv L=>gy L,by rw[cm];omega,s i _ m,λH7 O=>⟨_,rfl,Bk ?_⟩⟩
  exact⟨J.trans O,_,_,rfl⟩
 ·rintro σ e ⟨d,B,l,rfl⟩
  refine⟨_,rfl,p,b,"board",ρ,rfl,d _ _ t,A.mono d,by omega,λD f Y k M=>?_⟩
  refine⟨_,.inl ⟨_,kL M,rfl⟩,?_⟩
  rw[U]
  exact Bk (q f (d.trans k))
inductive gA (vs:List V) (H:Hp) (Q:VK) (b9:XK):Prop
 | mk (p:Addr) (ts:List Str):vs=[.ref p]->H p=some (.lst (ts.map V.str))->ts.length<=300->ts.Nodup->(∀ D (kvs:List (Key × V)) H',H D=none->An H H'->H' D=some (.dK kvs)->(∀ (i:Nat) t,ts[i]? = some t->Ce kvs (Sum.inr t)=some (.int (i:Nat)))->(∀ t,t ∉ ts->Ce kvs (Sum.inr t)=none)->Q (.ref D) H')->gA vs H Q b9
theorem ZX:Aq ["names","numbers","number","name"] ["names"] (Ac xJ):=Bf
include N T in
theorem oV:Ao P w K mg base Bb 1 aD.fNu aD.dNu ["names"] gA:=by
 refine N.FNu.1.DQ ZX λH vs Q E R h=>?_
 obtain⟨p,l,rfl,O,hl,S,q⟩:=h
 have M:=CN R
 refine⟨_,(Af (Bh (i:=1) ZX.nd rfl (Or.inl rfl) JP)
  (Af (Eh PassesOwn.never rfl (Kl rfl T.enumerate (Aa (pv 0) Ab)) (Ld rfl (EY (Ck (i:=2) ZX.nd rfl (Or.inl rfl)) (EY (Ck (i:=3) ZX.nd rfl (Or.inl rfl)) Jg))) (Ag (Ia M (pv 1) (pv 3) (pv 2) rfl)))
  (Ag (Ax (pv 1))))),?_⟩
 intro D A
 have L:=BP (o:=HO.dK []) A
 have I:Dc K H p (l.map V.str):=.inl (.inl O)
 refine⟨_,rfl,p,rfl,⟨_,L.seq I⟩,Ky (K:=K) (a:=p) (xs:=l.map V.str) (λi σ f=>An H f/\∃ (c:List (Key × V)),f D=some (.dK c)/\c.length<=i/\(∀ (j:Nat) t,j<i->l[j]? = some t->Ce c (Sum.inr t)=some (.int (j:Nat)))/\(∀ t,t ∉ l->Ce c (Sum.inr t)=none)/\∃ n r,σ=[some (.ref p),some (.ref D),n,r])
  ⟨L,[],Al,ah _,λj t C=>absurd C (iE _),λt _=>XH,_,_,rfl⟩ (λi σ f _ h=>h.1.seq I) ?_ ?_⟩
 ·rintro i x σ f J G ⟨v,c,y,Y,s,B,n,r,rfl⟩ W
  rw[am] at G
  obtain⟨t,d,rfl⟩:=aT.mp G
  have hi:i<l.length:=(ag.mp d).1
  have F:=BP (o:=HO.tup [.int (i:Int),.str t]) W
  refine⟨J,_,rfl,kL Al,rfl,_,_,rfl,_,_,rfl,rfl,?_⟩
  generalize upd f J (HO.tup [.int (i:Int),.str t])=Z at F |-
  refine⟨_,rfl,_,rfl,_,rfl,D,_,rfl,MF.k (k:=Sum.inr t) (F _ _ y) (BK (by omega)),?_⟩
  refine⟨λb u e=>?_,putK c (Sum.inr t) (.int (i:Int)),Al,be (IK _ _ _) (by omega),λj m C g=>?_,λm g=>(by rw[Gv,if_neg λz=>g (by rw[Sum.inr.inj z];exact ai d)];exact B m g),_,_,rfl⟩
  ·rw[Aw (Aj e A)]
   exact F _ _ (v _ _ e)
  ·rw[Gv]
   by_cases e:m=t
   ·subst e
    have:j=i:=by
     obtain⟨h1,X⟩:=ag.mp g
     obtain⟨h2,U⟩:=ag.mp d
     exact (List.getElem_inj S).mp (X.trans U.symm)
    subst this
    rw[if_pos rfl]
   ·rw[if_neg λz=>e (Sum.inr.inj z)]
    refine s j m ?_ g
    rcases Nat.lt_succ_iff_lt_or_eq.mp C with z | z
    ·exact z
    ·subst z
     rw[d] at g
     exact absurd (Option.some.inj g).symm e
 ·rintro σ f ⟨v,c,y,Y,s,B,n,r,rfl⟩
  refine⟨_,rfl,q D c f A v y (λi t d=>s i t ?_ d) B⟩
  rw[af]
  exact (ag.mp d).1
inductive aA (vs:List V) (H:Hp) (Q:VK) (b9:XK):Prop
 | mk (p:Addr) (as:List Th) (us:List V):vs=[.ref p]->H p=some (.lst us)->Paired (λ(a:Th) y=>TupAt H (tV a) y) as us->as.length<=500->(∀ a∈as,a.2.1<=100)->(∀ H',An H H'->Q (.int ((as.map λa=>a.2.1).sum:Nat)) H')->aA vs H Q b9
theorem R1:∀ l:List Nat,(l.map λn:Nat=>(n:Int)).sum=((l.sum:Nat):Int)
 | []=>rfl
 | n::l=>by
  rw[dc,ko,ko,R1 l]
  omega
theorem yS:Aq Cl Cl (Ac sO):=Bf
include N T in
theorem bD:Ao P w K mg base Bb 1 aD.fCa aD.dCa Cl aA:=by
 refine N.FCa.1.DQ yS λH J Q E C h=>?_
 obtain⟨p,t,s,rfl,z,l,I,y,q⟩:=h
 refine⟨_,(Ag (Ax (BJ (WW rfl) rfl T.sum PyProof.Rows.boot_sum (Aa (Br rfl (Be (osc:=Ac sO) (N:=Cl) rfl rfl (by decide)) (Bt (pv 0)) (λ_ _ _ _=>Cv) (λ_ _ _ _=>(Az (Av (K:=K) rfl) (pv 0) Ae (λ_ _=>rfl)))) Ab)))),?_⟩
 have r:Dc K H p s:=.inl (.inl z)
 have G:=l.length
 refine⟨_,rfl,p,rfl,⟨_,r⟩,Cz (K:=K) (xs:=s) (λ_=>true) (Uq H 1) r (BK (by omega)) (λx o c f R k=>k c (An.refl c)) (λx o _ c f R k=>?_) (λD c F f i=>?_)⟩
 ·obtain⟨b,_,d⟩:=Dl l o
  have e:=JW d 1
  obtain⟨v,rfl,B⟩:=d.mono f
  refine⟨_,rfl,v,_,_,_,rfl,rfl,kL B,Ah (j:=1) rfl,?_⟩
  have:=k c (An.refl c)
  rw[e] at this
  exact this
 ·rw[ba.mpr (λ_ _=>rfl),Kh 1 l] at i
  have e:(t.map λa=>(tV a).getD 1 V.non)=((t.map λa=>a.2.1).map λn:Nat=>(n:Int)).map V.int:=by
   rw[aE,aE]
   rfl
  rw[e] at i
  refine⟨D,_,rfl,kL i,λn A=>?_,by simp;omega,?_⟩
  ·obtain⟨m,u,rfl⟩:=ay.mp A
   obtain⟨b,g,rfl⟩:=ay.mp u
   have:=y b g
   omega
  ·rw[R1]
   exact q c f
theorem nW (h:n<=3000):n<sizeLine:=ar h (by decide)
inductive iR (vs:List V) (H:Hp) (Q:VK) (b9:XK):Prop
 | mk (p:Addr) (as:List Th) (us:List V):vs=[.ref p]->H p=some (.lst us)->Paired (λ(a:Th) y=>TupAt H (tV a) y) as us->as.length<=12->(∀ a∈as,a.2.1<=97)->(∀ D ys H',H D=none->An H H'->H' D=some (.lst ys)->Paired (λq y=>TupAt H' (qV q) y) (FQ (as.map tN)) ys->Q (.ref D) H')->iR vs H Q b9
theorem Zx:Aq ["things","places","number","thing"] Cl (Ac sJ):=Bf
include N T in
theorem pG:Ao P w K mg base Bb 1 aD.fPl aD.dPl Cl iR:=by
 refine N.FPl.1.DQ Zx λH vs Q E hr h=>?_
 obtain⟨p,m,O,rfl,hp,z,hl,X,q⟩:=h
 refine⟨_,(Af (Bh (i:=1) Zx.nd rfl (Or.inl rfl) (Dm Ab))
  (Af (Eh PassesOwn.never rfl (Kl rfl T.enumerate (Aa (pv 0) Ab)) (Ld rfl (EY (Ck (i:=2) Zx.nd rfl (Or.inr rfl)) (EY (Ck (i:=3) Zx.nd rfl (Or.inl rfl)) Jg))) (Ag (Bx (Gj ck PySem.F.slot_list_extend PySem.F.type_list_extend VH (pv 1) (Aa (Br rfl (Be (osc:=Ac sJ) (N:=["things","places","number","thing"]) rfl rfl (by decide)) (Dv rfl T.range (Aa (Az (Av (K:=K) rfl) (pv 3) Ae (λ_ _=>rfl)) Ab)) (λ_ _ _ _=>Cv) (λ_ _ _ _=>(Cq (Aa (pv 3) (Aa (pv 0) Ab))))) Ab)))))
  (Ag (Ax (pv 1))))),?_⟩
 refine⟨CK (by simp),λD I=>?_⟩
 have W:=BP (o:=HO.lst []) I
 have L:Dc K H p O:=.inl (.inl hp)
 have LA:=z.length
 refine⟨_,rfl,p,rfl,⟨_,W.seq L⟩,Ky (K:=K) (a:=p) (xs:=O) (λi σ c=>An H c/\∃ f,c D=some (.lst f)/\Paired (λq y=>TupAt c (qV q) y) (FQ ((m.map tN).take i)) f/\∃ A B,σ=[some (.ref p),some (.ref D),A,B])
  ⟨W,[],Al,.nil,_,_,rfl⟩ (λi σ c _ h=>h.1.seq L) ?_ ?_⟩
 ·rintro i x σ c S Z ⟨s,f,C,t,A,B,rfl⟩ hT
  obtain⟨b,G,J⟩:=QR z Z
  have hi:i<m.length:=(ag.mp G).1
  have M:=X b (ai G)
  have g:(m.map tN)[i]? = some (tN b):=by rw[am,G];rfl
  have l:=BP (o:=HO.tup [.int (i:Int),x]) hT
  refine⟨S,_,rfl,kL Al,rfl,_,_,rfl,_,_,rfl,rfl,?_⟩
  generalize upd c S (HO.tup [.int (i:Int),x])=H5 at l |-
  obtain⟨r,rfl,i9⟩:=J.mono (s.trans l)
  have U:=Ar l t
  have v:=l _ _ C
  refine⟨_,rfl,.inl ⟨rfl,_,kL v⟩,_,rfl,r,_,_,_,rfl,rfl,kL i9,Ah (j:=1) rfl,_,rfl,by omega,by omega,?_⟩
  rw[bp]
  refine U7 (n:=b.2.1) (λe=>qV (i,e)) (BK (by omega)) (λe he H6 d R k=>?_) (λD6 H6 V ab d zS Y=>?_)
  ·refine⟨_,rfl,_,rfl,by show 2<=sizeLine;decide,λT6 sA=>?_⟩
   exact k _ _ (BP sA) ⟨T6,rfl,Al⟩
  ·have ly:=(Ar d U).length
   have lz:=Y.length
   have lp:=N_ ((m.map tN).take i) 97 λb z=>by
    obtain⟨a,ha,rfl⟩:=ay.mp (gy z)
    exact X a ha
   rw[cm,af] at lp
   rw[gE] at lz
   have:min i m.length * 97<=12 * 97:=ke _ (by omega)
   refine⟨D,D6,f,V,rfl,rfl,d _ _ v,zS,fT (nW (by omega)),?_⟩
   refine⟨λb u e=>?_,f++V,Al,?_,_,_,rfl⟩
   ·rw[Aw (Aj e I)]
    exact d _ _ (l _ _ (s _ _ e))
   ·rw[Hj g]
    exact Ds (Ci (Ar d U) (d _ _ v)) (Bv (F:=λq y=>TupAt _ (qV q) y) (λe=>(i,e)) (Ci Y (d _ _ v)))
 ·rintro σ c ⟨s,f,C,t,A,B,rfl⟩
  rw[<-LA,gg (by rw[af];exact ah _)] at t
  exact⟨_,rfl,q D f c I s C t⟩
theorem Z9 {α:Type} (l:List α) (x:α):Ua (l++[x]) (-1)=some x:=by
 unfold Ua aL
 rw[if_neg (by decide),if_pos (by rw[al,ax];omega)]
 show (l++[x])[(-1+(((l++[x]).length:Nat):Int)).toNat]? = some x
 have e:(-1+(((l++[x]).length:Nat):Int)).toNat=l.length:=by
  rw[al,ax]
  omega
 rw[e,dt (ah _),jv]
 rfl
theorem K_ {l:List Ln} {v:V} {A:Addr} {ys:List V} (h:G7 H l v) (b:H A=some (.lst xs)) (d:v ≠ .ref A):G7 (upd H A (.lst ys)) l v:=by
 obtain⟨B,a,rfl,e,c⟩:=h
 have:B ≠ A:=λz=>d (by rw[z])
 exact⟨B,a,rfl,by rw[Aw this];exact e,Ci c b⟩
theorem GQ {α β:Type} {F G:α->β->Prop}:∀ {l:List α} {vs:List β},Paired F l vs->(∀ a b,b∈vs->F a b->G a b)->Paired G l vs
 | [],_,h,_=>by cases h;exact .nil
 | a::l,_,h,k=>by
  cases h with
  | cons x y=>exact .cons (k _ _ (ce ..) x) (GQ y λa b c=>k a b (bq _ c))
theorem Ji {α β:Type} {F:α->β->Prop}:∀ {l:List α} {z:α} {vs:List β},Paired F (l++[z]) vs->∃ us u,vs=us++[u]/\Paired F l us/\F z u
 | [],z,_,h=>by
  cases h with
  | cons x y=>cases y;exact⟨[],_,rfl,.nil,x⟩
 | a::l,z,_,h=>by
  cases h with
  | cons x y =>
   obtain⟨us,u,rfl,c,b⟩:=Ji y
   exact⟨_::us,u,rfl,.cons x c,b⟩
theorem FJ {α:Type} {l:List α} (h:l ≠ []):∃ a z,l=a++[z]:=⟨l.dropLast,l.getLast h,(List.dropLast_concat_getLast h).symm⟩
theorem QC {rk:List (Str × Nat × Int)}:∀ {rs:List R},(∃ r∈rs,Gw r.w=true)->linesOf rk rs ≠ []:=by
 have f:∀ (n:Nat) (rs:List R),rs.length=n->(∃ r∈rs,Gw r.w=true)->linesOf rk rs ≠ []:=by
  intro n
  induction n with
  | zero =>
   rintro rs c ⟨r,g,_⟩
   cases rs with
   | nil=>cases g
   | cons a b=>cases c
  | succ n m =>
   rintro rs c ⟨r,g,j⟩
   obtain⟨a,z,rfl⟩:=FJ (l:=rs) (by intro e;rw[e] at c;cases c)
   rw[DN]
   rw[al,ax] at c
   unfold Dr
   by_cases i:Gw z.w=true
   ·rw[if_pos i]
    simp
   ·rw[if_neg i]
    have d:r∈a:=by
     rcases bX.mp g with h | h
     ·exact h
     ·rw[av.mp h] at j
      exact absurd j i
    have k:=m a (by omega) ⟨r,d,j⟩
    split
    ·obtain⟨b,y,e⟩:=FJ k
     rw[e,Ib]
     simp
    ·exact k
 exact λ{rs} h=>f rs.length rs rfl h
inductive gh (vs:List V) (H:Hp) (Q:VK) (b9:XK):Prop
 | mk (p d:Addr) (us:List V) (ρ:V->R) (rk:List (Str × Nat × Int)) (kvs:List (Key × V)):vs=[.ref p,.ref d]->H p=some (.lst us)->Rows H ρ us->us.length<=500->H d=some (.dK kvs)->(∀ (i:Nat) r,rk[i]? = some r->Ce kvs (Sum.inr r.1)=some (.int (i:Nat)))->(rk.map (·.1)).Nodup->(∀ (i:Nat) v,us[i]? = some v->(ρ v).w = "line"->(∃ (j:Nat) (r:Str × Nat × Int) (sh lo hi:Int),rk[j]? = some r/\r.1=(ρ v).nm/\(ρ v).rest=[.int sh,.int lo,.int hi])/\∃ u∈us.take i,Gw (ρ u).w=true)->(∀ D H',H D=none->An H H'->Dz p H' D (linesOf rk (us.map ρ))->Q (.ref D) H')->gh vs H Q b9
theorem gj {rk:List (Str × Nat × Int)} {r:Str × Nat × Int} (b:(rk.map (·.1)).Nodup) (h:rk[j]? = some r):(rk.map (·.1)).idxOf r.1=j:=by
 have a:j<(rk.map (·.1)).length:=by rw[af];exact (ag.mp h).1
 have e:(rk.map (·.1))[j]=r.1:=by
  rw[kF]
  exact congrArg (·.1) (ag.mp h).2
 rw[<-e]
 exact List.Nodup.idxOf_getElem b j a
theorem c7:Aq ["rows","rank_numbers","lines","row"] EA (Ac xZ):=Bf
include N T in
theorem jn:Ao P w K mg base Bb 1 aD.fLi aD.dLi EA gh:=by
 refine N.FLi.1.DQ c7 λH vs Q E hr h=>?_
 obtain⟨p,d,f,ρ,rk,a2,rfl,hp,hR,hl,aC,uj,aw,tF,q⟩:=h
 have hu:=CN hr
 refine⟨_,(Af (Bh (i:=2) c7.nd rfl (Or.inl rfl) (Dm Ab))
  (Af (Eh PassesOwn.never rfl (Bt (pv 0)) (Ck (i:=3) c7.nd rfl (Or.inl rfl)) (Af (Bl (BR (Lh (K:=K) rfl) (Az (Av (K:=K) rfl) (pv 3) Ae (λ_ _=>rfl)) (Cw (v:=.ref aK) rfl T.mK rfl) rfl) (Ag (Bx (Gj ck cr cw DK (pv 2) (Aa (Dm Ab) Ab)))) Ba)
  (Ag (Bl (BR Cj (Az (Av (K:=K) rfl) (pv 3) Ae (λ_ _=>rfl)) BW (BX _)) (Ag (Bx (Gj ck cr cw DK (Az (Bp (K:=K) rfl) (pv 2) (KR Nk Ae) (λ_ _=>rfl)) (Aa (Cq (Aa (GJ hu (pv 1) (Az (Av (K:=K) rfl) (pv 3) Ae (λ_ _=>rfl)) (λ_ _=>rfl)) (Aa (Az (Av (K:=K) rfl) (pv 3) Ae (λ_ _=>rfl)) (Aa (Az (Av (K:=K) rfl) (pv 3) Ae (λ_ _=>rfl)) (Aa (Az (Av (K:=K) rfl) (pv 3) Ae (λ_ _=>rfl)) Ab))))) Ab)))) Ba))))
  (Ag (Ax (pv 2))))),?_⟩
 refine⟨CK (by simp),λD hD=>?_⟩
 have s0:=BP (o:=HO.lst []) hD
 have hS:Dc K H p f:=.inl (.inl hp)
 refine⟨_,rfl,p,rfl,⟨_,s0.seq hS⟩,Jk (K:=K) (a:=p) (xs:=f) (λi σ J=>An H J/\∃ m,J D=some (.lst m)/\Paired (λl v=>G7 J l v) (linesOf rk ((f.take i).map ρ)) m/\m.Nodup/\(∀ v∈m,v ≠ .ref D)/\(∀ v∈m,∃ A,v=.ref A/\H A=none)/\m.length<=i/\(∀ l∈linesOf rk ((f.take i).map ρ),l.length<=i)/\∃ v3,σ=[some (.ref p),some (.ref d),some (.ref D),v3])
  ⟨s0,[],Al,.nil,List.nodup_nil,(λv n=>nomatch n),(λv n=>nomatch n),ah _,(λl hl=>nomatch hl),_,rfl⟩ (λi σ J _ h=>h.1.seq hS) ?_ ?_⟩
 ·rintro i x σ J hx ⟨G,m,I,C,Z,s,W,as,Y,v3,rfl⟩
  have hm:=ai hx
  have hi:i<f.length:=(ag.mp hx).1
  obtain⟨r,rfl,X⟩:=(hR.mono G) x hm
  have U:(f.take (i+1)).map ρ=(f.take i).map ρ++[ρ (.ref r)]:=by
   rw[cy,hx,cq]
   rfl
  have S:linesOf rk ((f.take (i+1)).map ρ)=Dr rk (linesOf rk ((f.take i).map ρ)) (ρ (.ref r)):=by rw[U,DN]
  have a3:(linesOf rk ((f.take i).map ρ)).length=m.length:=C.length
  by_cases R:Gw (ρ (.ref r)).w=true
  ·have FG:¬ (ρ (.ref r)).w = "line":=λz=>by rw[z] at R;exact absurd R (by decide)
   have c:linesOf rk ((f.take (i+1)).map ρ)=linesOf rk ((f.take i).map ρ)++[[]]:=by rw[S];unfold Dr;rw[if_pos R]
   refine⟨_,rfl,r,_,_,_,rfl,rfl,kL X,Ah (j:=0) rfl,aK,_,rfl,.inr (T.tK.sq _),rfl,rfl,_,rfl,?_⟩
   refine C_ (λ_=>?_) (λz=>absurd R z)
   refine⟨_,rfl,.inl ⟨rfl,_,kL I⟩,CK (by simp),λp5 t=>?_⟩
   obtain⟨H5,i7,B,u5⟩:=Em (o:=HO.lst []) t
   rw[i7]
   have QP:=B _ _ I
   refine⟨D,m,_,rfl,rfl,QP,BK (by omega),?_⟩
   have ap:r ≠ D:=aH (B _ _ X) QP (by intro z;cases z)
   have ab:p5 ≠ D:=λz=>by rw[z,I] at t;cases t
   refine⟨_,rfl,r,_,_,_,rfl,rfl,kL (by rw[Aw ap];exact B _ _ X),Ah (j:=0) rfl,rfl,_,rfl,?_⟩
   refine C_ (λz=>absurd (V.str.inj (of_decide_eq_true z)) FG) (λ_=>?_)
   refine⟨λb u e=>?_,m++[.ref p5],Al,?_,?_,?_,?_,by simp;omega,?_,_,rfl⟩
   ·rw[Aw (Aj e hD)]
    exact B _ _ (G _ _ e)
   ·rw[c]
    refine Ds (GQ C λl v n h=>K_ (h.mono B) QP (s v n)) (.cons ⟨p5,[],rfl,by rw[Aw ab];exact u5,.nil⟩ .nil)
   ·refine Tt Z λhm=>?_
    obtain⟨l,_,L⟩:=Dl C hm
    obtain⟨A,ts,e,h1,_⟩:=L
    cases e
    rw[h1] at t
    cases t
   ·intro v n
    rcases bX.mp n with h | h
    ·exact s v h
    ·rw[av.mp h]
     intro z
     exact ab (V.ref.inj z)
   ·intro v n
    rcases bX.mp n with h | h
    ·exact W v h
    ·exact⟨p5,av.mp h,G.free t⟩
   ·intro l M
    rw[c] at M
    rcases bX.mp M with h | h
    ·exact im (Y l h)
    ·rw[av.mp h]
     exact dL _
  ·refine⟨_,rfl,r,_,_,_,rfl,rfl,kL X,Ah (j:=0) rfl,aK,_,rfl,.inr (T.tK.sq _),rfl,rfl,_,rfl,?_⟩
   refine C_ (λz=>absurd z R) (λ_=>?_)
   refine⟨_,rfl,r,_,_,_,rfl,rfl,kL X,Ah (j:=0) rfl,rfl,_,rfl,?_⟩
   by_cases y:(ρ (.ref r)).w = "line"
   ·refine C_ (λ_=>?_) (λz=>absurd (decide_eq_true (congrArg V.str y)) z)
    obtain⟨⟨j,rr,sh,lo,O,hj,On,si⟩,u,hu,Pm⟩:=tF i _ hx y
    have an:linesOf rk ((f.take i).map ρ) ≠ []:=QC ⟨ρ u,bb hu,Pm⟩
    obtain⟨ac,z,LH⟩:=FJ an
    rw[LH] at C
    obtain⟨U',v,rfl,RF,hz⟩:=Ji C
    obtain⟨A,ts,rfl,L,DT⟩:=hz
    have c:linesOf rk ((f.take (i+1)).map ρ)=ac++[z++[⟨j,sh,lo,O⟩]]:=by
     rw[S]
     unfold Dr
     rw[if_neg R,if_pos y,LH,Ib]
     unfold lnOf
     rw[si,<-On,gj aw hj]
    have F:J r=some (.tup [.str (ρ (.ref r)).w,.str (ρ (.ref r)).nm,.int sh,.int lo,.int O]):=by rw[X,<-si]
    have g:=Ex.k (k:=Sum.inr rr.1) (G _ _ aC)
    rw[uj j rr hj,On] at g
    have aB:A ≠ D:=λe=>s (.ref A) (by simp) (by rw[e])
    have a1:z.length<=i:=Y z (by rw[LH];simp)
    have a0:=DT.length
    refine⟨_,rfl,_,rfl,D,_,_,_,rfl,rfl,kL I,Z9 U' (V.ref A),.inl ⟨rfl,_,kL L⟩,_,rfl,_,rfl,r,_,_,_,rfl,rfl,kL F,Ah (j:=1) rfl,d,_,rfl,g,_,rfl,r,_,_,_,rfl,rfl,kL F,Ah (j:=2) rfl,_,rfl,r,_,_,_,rfl,rfl,kL F,Ah (j:=3) rfl,_,rfl,r,_,_,_,rfl,rfl,kL F,Ah (j:=4) rfl,by show 4<=sizeLine;decide,λT5 So=>?_⟩
    obtain⟨H5,i7,B,u5⟩:=Em (o:=HO.tup [.int (j:Nat),.int sh,.int lo,.int O]) So
    rw[i7]
    have UA:=B _ _ L
    have aM:T5 ≠ A:=λe=>by rw[e,L] at So;cases So
    have aP:D ≠ A:=λe=>aB e.symm
    obtain⟨aZ,_,Iq⟩:=iS.mp Z
    refine⟨A,ts,_,rfl,rfl,UA,BK (by omega),?_⟩
    refine⟨λb u e=>?_,U'++[.ref A],by rw[Aw aP];exact B _ _ I,?_,Z,s,W,by omega,?_,_,rfl⟩
    ·obtain⟨A',eA,aQ⟩:=W (.ref A) (by simp)
     cases eA
     rw[Aw (Aj e aQ)]
     exact B _ _ (G _ _ e)
    ·rw[c]
     refine Ds (GQ RF λl v n h=>K_ (h.mono B) UA (λe=>Iq v n _ (av.mpr rfl) e)) (.cons ⟨A,ts++[.ref T5],rfl,Al,Ds (Ci (Ar B DT) UA) (.cons ⟨T5,rfl,by rw[Aw aM];exact u5⟩ .nil)⟩ .nil)
    ·intro l M
     rw[c] at M
     rcases bX.mp M with h | h
     ·exact im (Y l (by rw[LH];exact dn _ h))
     ·rw[av.mp h,al,ax]
      omega
   ·refine C_ (λz=>absurd (V.str.inj (of_decide_eq_true z)) y) (λ_=>?_)
    have c:linesOf rk ((f.take (i+1)).map ρ)=linesOf rk ((f.take i).map ρ):=by rw[S];unfold Dr;rw[if_neg R,if_neg y]
    rw[<-c] at C Y
    exact⟨G,m,I,C,Z,s,W,by omega,λl M=>im (Y l M),_,rfl⟩
 ·rintro σ J ⟨G,m,I,C,Z,s,W,as,Y,v3,rfl⟩
  rw[eJ] at C
  have aN:D ≠ p:=Ne.symm (Aj hp hD)
  refine⟨_,rfl,q D J hD G ⟨m,I,aN,GQ C λl v n h=>⟨h,λz=>?_⟩⟩⟩
  obtain⟨A,e,L⟩:=W v n
  rw[e] at z
  rw[V.ref.inj z,hp] at L
  cases L
abbrev nV (l:List Nat):List V:=l.map λn:Nat=>V.int (n:Int)
inductive eU (vs:List V) (H:Hp) (Q:VK) (b9:XK):Prop
 | mk (i:Int):vs=[.int i]->Q (.bl (decide (0<=i) && decide (i<1200))) H->eU vs H Q b9
theorem uH:Aq vr vr (Ac yC):=Bf
include N T in
theorem j9:Ao P w K mg base Bb 2 aD.fMy aD.dMy vr eU:=by
 refine N.FMy.1.DQ uH λH e Q E c h=>?_
 obtain⟨i,rfl,q⟩:=h
 obtain⟨d,a⟩:=T.below
 refine⟨_,(Ag (Ax (Di (zC (ak N T) c rfl N.FWh (Aa (pv 0) Ab)) (Df (Gk E_ HF Ae (pv 0) (Cw (v:=.int 1200) rfl a ⟨d,rfl⟩)))))),?_⟩
 refine⟨_,rfl,i,rfl,_,rfl,Dd ?_⟩
 refine⟨_,rfl,_,_,rfl,rfl,_,rfl,?_⟩
 refine C_ (λb=>?_) (λb=>?_)
 ·rw[b,fS] at q
  exact⟨_,_,rfl,rfl,q⟩
 ·rw[(fq _).mp b,hG] at q
  exact q
inductive Oj (vs:List V) (H:Hp) (Q:VK) (b9:XK):Prop
 | mk (p:Addr) (l:List Nat):vs=[.ref p]->H p=some (.lst (nV l))->l.length<=500->(∀ n∈l,n<1200)->(∀ H',An H H'->Q (.int (Wd.mk l:Nat)) H')->Oj vs H Q b9
theorem lU (l:List Nat) (n:Nat):Builtin.bitOr ((Wd.mk l:Nat):Int) (1 * 2 ^ ((n:Nat):Int).toNat)=((Wd.mk (l++[n]):Nat):Int):=by
 rw[Int.one_mul,bp,Hi,Ih,Wd.Ys]
theorem Yl:Aq ["numbers","some","number"] ["numbers"] (Ac sG):=Bf
include N T in
theorem NB:Ao P w K mg base Bb 3 aD.fSt aD.dSt ["numbers"] Oj:=by
 refine N.FSt.1.DQ Yl λH C Q E u h=>?_
 obtain⟨p,l,rfl,t,F,r,q⟩:=h
 refine⟨_,(Af (Bl (PW.pt (D_ (CG (CV (BJ CQ rfl T.isin aI (Aa (pv 0) (Aa (DX (v:=.ty "list") rfl T.list dS rfl) Ab))))) (Do (CG (CV (BJ (Hw rfl) rfl T.all gx (Aa (Br rfl (Be (osc:=Ac sG) (N:=["numbers","some","number"]) rfl rfl (by decide)) (Bt (pv 0)) (λ_ _ _ _=>Cv) (λ_ _ _ _=>(zC (j9 N T) u rfl N.FMy (Aa (pv 0) Ab)))) Ab))))))) (Ag IV) Ba)
  (Af (Bh (i:=1) Yl.nd rfl (Or.inl rfl) Ae)
  (Af (Eh PassesOwn.never rfl (Bt (pv 0)) (Ck (i:=2) Yl.nd rfl (Or.inl rfl)) (Ag (Bh (i:=1) Yl.nd rfl (Or.inl rfl) (BZ Mi (pv 1) (BZ Wj Ae (pv 2))))))
  (Ag (Ax (pv 1)))))),?_⟩
 have d:Dc K H p (nV l):=.inl (.inl t)
 refine⟨_,rfl,_,"list",_,_,rfl,.lst t,Wk,_,rfl,Bk ?_⟩
 have m:(nV l).length<sizeLine:=BK (by simp;omega)
 refine⟨_,rfl,p,rfl,⟨_,d⟩,Cz (K:=K) (xs:=nV l) (λ_=>true) (λ_=>.bl true) d m (λx o b c R k=>k b (An.refl b)) (λx o _ b c R k=>?_) (λD b G c B=>?_)⟩
 ·obtain⟨n,g,rfl⟩:=ay.mp o
  refine⟨_,rfl,(n:Int),rfl,?_⟩
  have e:(decide ((0:Int)<=(n:Int)) && decide ((n:Int)<1200))=true:=by
   have:=r n g
   simp
   omega
  rw[e]
  exact k b (An.refl b)
 ·refine⟨D,(nV l).map λ_=>true,rfl,.inl (.inl ?_),?_⟩
  ·rw[B,ba.mpr (λ_ _=>rfl)]
   simp
  ·have e:((nV l).map λ_=>true).all id=true:=by simp
   rw[e]
   refine⟨_,rfl,Bk ?_⟩
   refine⟨_,rfl,p,rfl,⟨_,c.seq d⟩,Jk (K:=K) (a:=p) (xs:=nV l) (λi σ f=>f=b/\∃ j,σ=[some (.ref p),some (.int (Wd.mk (l.take i):Nat)),j]) ⟨rfl,_,rfl⟩ (λi σ f _ h=>by rw[h.1];exact c.seq d) ?_ ?_⟩
   ·rintro i y σ f s ⟨rfl,j,rfl⟩
    rw[am] at s
    obtain⟨n,g,rfl⟩:=aT.mp s
    have z:=r n (ai g)
    refine⟨_,rfl,_,rfl,_,_,rfl,rfl,⟨by omega,by omega,by decide⟩,_,_,rfl,rfl,?_⟩
    refine⟨rfl,some (.int (n:Int)),?_⟩
    try dsimp only
    rw[lU,cy,g]
    rfl
   ·rintro σ f ⟨rfl,j,rfl⟩
    have A:l.take (nV l).length=l:=List.take_of_length_le (by simp)
    rw[A]
    exact⟨_,rfl,q _ c⟩
def zW (nms:List Str):V->V
 | .str t=>.int (nms.idxOf t:Nat)
 | _=>.non
theorem Uw (h:t∈nms):nms[nms.idxOf t]? = some t:=by
 rw[ae (ge h),List.getElem_idxOf]
inductive gM (vs:List V) (H:Hp) (Q:VK) (b9:XK):Prop
 | mk (r kd:Addr) (ro:R) (kvs:List (Key × V)) (nms ts:List Str):vs=[.ref r,.ref kd]->H r=some (.tup ro.v)->H kd=some (.dK kvs)->V.str ro.nm::ro.rest=ts.map V.str->ts.length<=24->nms.length<=300->(∀ (i:Nat) t,nms[i]? = some t->Ce kvs (Sum.inr t)=some (.int (i:Nat)))->(∀ t∈ts,t∈nms)->(∀ H',An H H'->Q (.int (Wd.mk (ts.map λt=>nms.idxOf t):Nat)) H')->gM vs H Q b9
theorem ye:Aq z3 z3 (Ac sH):=Bf
include N T in
theorem jj:Ao P w K mg base Bb 4 aD.fSs aD.dSs z3 gM:=by
 refine N.FSs.1.DQ ye λH vs Q E p h=>?_
 obtain⟨r,I,b,ab,c,a,rfl,s,Y,W,zk,On,X,f,q⟩:=h
 have B:=CN p
 refine⟨_,(Ag (Ax (zC (NB N T) p rfl N.FSt (Aa (Br rfl (Be (osc:=Ac sH) (N:=z3) rfl rfl (by decide)) (Q0 (Ek Nj (pv 0) (Eu Ae) GP)) (λ_ _ _ _=>Cv) (λ_ _ _ _=>(GJ B (pv 2) (pv 0) (λ_ _=>rfl)))) Ab)))),?_⟩
 have C:b.v=V.str b.w::a.map V.str:=by
  show V.str b.w::(V.str b.nm::b.rest)=_
  rw[W]
 rw[C] at s
 have A:HT.Dy (V.str b.w::a.map V.str).length 0 (some 1)=1:=by
  rw[show (some (1:Int))=some ((1:Nat):Int) from rfl,HT.GZ]
  simp
 have d:En (V.str b.w::a.map V.str) (some 1) none=a.map V.str:=by
  unfold En
  rw[A,HT.LR]
  simp
  exact gg (by rw[af];exact ah _)
 refine⟨_,rfl,_,rfl,r,_,rfl,kL s,?_,λy F=>?_⟩
 ·rintro⟨z,_⟩
  rw[A] at z
  cases z
 rw[d]
 obtain⟨H1,G,u,J⟩:=Em (o:=HO.tup (a.map V.str)) F
 rw[G]
 have v:HW K H1 y (a.map V.str):=.inl (.inl J)
 have L:(a.map V.str).length=a.length:=af ..
 refine⟨y,rfl,⟨_,v⟩,O5 (K:=K) (xs:=a.map V.str) (λ_=>true) (zW c) v (BK (by omega)) (λx l e m R k=>k e (An.refl e)) (λx l _ e m R k=>?_) (λD H2 hD U j=>?_)⟩
 ·obtain⟨t,i,rfl⟩:=ay.mp l
  have g:=Ex.k (k:=Sum.inr t) (m _ _ (u _ _ Y))
  rw[X _ t (Uw (f t i))] at g
  exact⟨_,rfl,_,rfl,I,_,rfl,g,k e (An.refl e)⟩
 ·rw[ba.mpr (λ_ _=>rfl),aE] at j
  have S:a.map (zW c ∘ V.str)=nV (a.map λt=>c.idxOf t):=by
   unfold nV
   rw[aE]
   rfl
  rw[S] at j
  refine⟨D,_,rfl,j,by rw[af];omega,λn O=>?_,λM Z=>q M (u.trans (U.trans Z))⟩
  obtain⟨t,i,rfl⟩:=ay.mp O
  have:=ge (f t i)
  omega
abbrev Zz:List Str:=["row_list","board_list","rank_list","knob_rows","board_numbers","rank_numbers","knob_numbers","key_places","pipe_places","knob_lines","step_sets"]
theorem Ei:∀ m∈meths,∀ f∈Zz,¬ m=f:=by decide
theorem U0 {rk:List (Str × Nat × Int)} {g:Nat->V->Prop} (h:∀ (i:Nat) v,us[i]? = some v->(ρ v).w = "line"->g i v/\∃ u∈us.take i,Gw (ρ u).w=true):(linesOf rk (us.map ρ)).length=(us.filter (λv=>Gw (ρ v).w)).length:=by
 have c:∀ n,n<=us.length->(linesOf rk ((us.take n).map ρ)).length=((us.take n).filter (λv=>Gw (ρ v).w)).length:=by
  intro n
  induction n with
  | zero=>intro _;rfl
  | succ n j =>
   intro o
   have f:=ae (l:=us) (i:=n) (by omega)
   rw[cy,f,cq]
   show (linesOf rk ((us.take n).map ρ++[ρ us[n]])).length=((us.take n++[us[n]]).filter _).length
   rw[DN,fk,al,<-j (by omega)]
   unfold Dr
   by_cases b:Gw (ρ us[n]).w=true
   ·rw[if_pos b,fg,if_pos b]
    simp
   ·rw[if_neg b,fg,if_neg b]
    by_cases d:(ρ us[n]).w = "line"
    ·rw[if_pos d]
     obtain⟨_,u,k,m⟩:=h n _ f d
     obtain⟨a,z,e⟩:=FJ (QC (rk:=rk) ⟨ρ u,bb k,m⟩)
     rw[e,Ib]
     simp
    ·rw[if_neg d]
     simp
 have:=c us.length (ah _)
 rw[eJ] at this
 exact this
inductive iZ (K:W.Frag) (aB aP aM C:Addr) (vs:List V) (H:Hp) (Q:VK) (b9:XK):Prop
 | mk (x dx p:Addr) (us:List V) (ρ:V->R) (bs:List (Str × Nat)) (rk:List (Str × Nat × Int)) (ks:List R):vs=[.ref x,.ref p]->H x=some (.ins C dx [])->H p=some (.lst us)->Rows H ρ us->vP K aB aP aM ρ us bs rk ks->(∀ H',Ip C H' x us bs rk ks (linesOf rk (us.map ρ)) ((us.filter (pw ρ "step")).map λv=>stN ks (ρ v))->(∀ sg,SX p H' sg->Ip C sg x us bs rk ks (linesOf rk (us.map ρ)) ((us.filter (pw ρ "step")).map λv=>stN ks (ρ v)))->SX x H H'->Q .non H')->iZ K aB aP aM C vs H Q b9
theorem vR:Aq wh wh (Ac YZ):=Bf
include N T in
theorem qH:Ao P w K mg base Bb 9 aD.fOi aD.dOi wh (iZ K aB aP aM C):=by
 refine N.FOi.1.DQ vR λH vs Q E hr h=>?_
 obtain⟨x,c,p,I,ρ,bs,rk,ks,rfl,M,hp,hR,O,q⟩:=h
 refine⟨_,(Af (Bx (zC (jw N T) hr rfl N.FCk (Aa (pv 1) Ab)))
  (Af (DG (pv 0) (Dg Ej rfl T.list dS (Aa (pv 1) Ab)) rfl)
  (Af (DG (pv 0) (Br rfl (Be (osc:=Ac YZ) (N:=wh) rfl rfl (by decide)) (Bt (zC (Pa N T) hr rfl N.FRo (Aa (pv 1) (Aa BW Ab)))) (λ_ _ _ _=>Cv) (λ_ _ _ _=>(Cq (Aa (Az (Av (K:=K) rfl) (pv 0) Ae (λ_ _=>rfl)) (Aa (Az (Av (K:=K) rfl) (pv 0) Ae (λ_ _=>rfl)) Ab))))) rfl)
  (Af (DG (pv 0) (Br rfl (Be (osc:=Ac YZ) (N:=wh) rfl rfl (by decide)) (Bt (zC (Pa N T) hr rfl N.FRo (Aa (pv 1) (Aa BW Ab)))) (λ_ _ _ _=>Cv) (λ_ _ _ _=>(Cq (Aa (Az (Av (K:=K) rfl) (pv 0) Ae (λ_ _=>rfl)) (Aa (Az (Av (K:=K) rfl) (pv 0) Ae (λ_ _=>rfl)) (Aa (Az (Av (K:=K) rfl) (pv 0) Ae (λ_ _=>rfl)) Ab)))))) rfl)
  (Af (DG (pv 0) (Br rfl (Be (osc:=Ac YZ) (N:=wh) rfl rfl (by decide)) (Bt (pv 1)) (λ_ _ _ _=>(GC (BR (Lh (K:=K) rfl) (Az (Av (K:=K) rfl) (pv 0) Ae (λ_ _=>rfl)) (Cw (v:=.ref aK) rfl T.mK rfl) rfl))) (λ_ _ _ _=>(pv 0))) rfl)
  (Af (DG (pv 0) (zC (oV N T) hr rfl N.FNu (Aa (Br rfl (Be (osc:=Ac YZ) (N:=wh) rfl rfl (by decide)) (Bt (Bc (pv 0) rfl)) (λ_ _ _ _=>Cv) (λ_ _ _ _=>(Az (Av (K:=K) rfl) (pv 0) Ae (λ_ _=>rfl)))) Ab)) rfl)
  (Af (DG (pv 0) (zC (oV N T) hr rfl N.FNu (Aa (Br rfl (Be (osc:=Ac YZ) (N:=wh) rfl rfl (by decide)) (Bt (Bc (pv 0) rfl)) (λ_ _ _ _=>Cv) (λ_ _ _ _=>(Az (Av (K:=K) rfl) (pv 0) Ae (λ_ _=>rfl)))) Ab)) rfl)
  (Af (DG (pv 0) (zC (oV N T) hr rfl N.FNu (Aa (Br rfl (Be (osc:=Ac YZ) (N:=wh) rfl rfl (by decide)) (Bt (Bc (pv 0) rfl)) (λ_ _ _ _=>Cv) (λ_ _ _ _=>(Az (Av (K:=K) rfl) (pv 0) Ae (λ_ _=>rfl)))) Ab)) rfl)
  (Af (DG (pv 0) (zC (pG N T) hr rfl N.FPl (Aa (Bc (pv 0) rfl) Ab)) rfl)
  (Af (DG (pv 0) (zC (pG N T) hr rfl N.FPl (Aa (Bc (pv 0) rfl) Ab)) rfl)
  (Af (DG (pv 0) (zC (jn N T) hr rfl N.FLi (Aa (pv 1) (Aa (Bc (pv 0) rfl) Ab))) rfl)
  (Ag (DG (pv 0) (Br rfl (Be (osc:=Ac YZ) (N:=wh) rfl rfl (by decide)) (Bt (zC (Pa N T) hr rfl N.FRo (Aa (pv 1) (Aa BW Ab)))) (λ_ _ _ _=>Cv) (λ_ _ _ _=>(zC (jj N T) hr rfl N.FSs (Aa (pv 0) (Aa (Yj (K:=K) rfl (pv 1) rfl) Ab))))) rfl))))))))))))),?_⟩
 have dK:=O.len
 obtain⟨ur,SB⟩:∃ ur,I.filter (pw ρ "rank")=ur:=⟨_,rfl⟩
 have er:ur.map ρ=rk.map FN:=by rw[<-SB];exact O.er
 have lr:ur.length=rk.length:=by have:=congrArg List.length er;simpa using this
 have inR:∀ {v},v∈ur->v∈I:=λ{v} D=>by rw[<-SB] at D;exact (bg.mp D).1
 have de:∀ {v},v∈ur->∃ b∈rk,ρ v=FN b:=λ{v} D=>by
  have:ρ v∈rk.map FN:=by rw[<-er];exact bb D
  obtain⟨b,hb,e⟩:=ay.mp this
  exact⟨b,hb,e.symm⟩
 obtain⟨ub,xy⟩:∃ ub,I.filter (pw ρ "board")=ub:=⟨_,rfl⟩
 obtain⟨uk,KW⟩:∃ uk,I.filter (λv=>Gw (ρ v).w)=uk:=⟨_,rfl⟩
 have eb:ub.map ρ=bs.map Ef:=by rw[<-xy];exact O.eb
 have ek:uk.map ρ=ks:=by rw[<-KW];exact O.ek
 have lb:ub.length=bs.length:=by have:=congrArg List.length eb;simpa using this
 have d3:uk.length=ks.length:=by have:=congrArg List.length ek;simpa using this
 have da:∀ {v},v∈ub->v∈I:=λ{v} D=>by rw[<-xy] at D;exact (bg.mp D).1
 have a1:∀ {v},v∈uk->v∈I:=λ{v} D=>by rw[<-KW] at D;exact (bg.mp D).1
 have df:∀ {v},v∈ub->∃ b∈bs,ρ v=Ef b:=λ{v} D=>by
  have:ρ v∈bs.map Ef:=by rw[<-eb];exact bb D
  obtain⟨b,hb,e⟩:=ay.mp this
  exact⟨b,hb,e.symm⟩
 have bW:1<=I.length:=by
  have h1:=O.b0
  have h2:ub.length<=I.length:=by rw[<-xy];exact bt _ _
  omega
 refine⟨_,rfl,p,I,ρ,rfl,hp,hR,bW,by omega,O.ok,?_,λH1 s1=>?_⟩
 ·rw[xy]
  cases ub with
  | nil =>
   have:=O.b0
   simp at lb
   omega
  | cons a b=>rfl
 have c1:SX x H H1:=SX.of s1
 have x1:=s1 _ _ M
 refine⟨_,rfl,p,_,rfl,kL (.inl (s1 _ _ hp)),λl1 b4=>?_⟩
 have cl:l1 ≠ p:=Ne.symm (Aj (s1 _ _ hp) b4)
 obtain⟨H2,i7,s2,c5⟩:=Em (o:=HO.lst I) b4
 rw[i7]
 refine⟨_,rfl,x,C,c,_,rfl,s2 _ _ x1,T.cl,T.n_row_list,(by show 0<1000;decide),?_⟩
 have c2:SX x H _:=(c1.trans (SX.of s2)).trans (SX.up (o:=HO.ins C c (BV "row_list" (.ref l1) [])))
 have x2:upd H2 x (HO.ins C c (BV "row_list" (.ref l1) [])) x=_:=Al
 have Y2:=(SX.up (o:=HO.ins C c (BV "row_list" (.ref l1) [])):SX x H2 _).lst (s2 _ _ x1) c5
 generalize upd H2 x (HO.ins C c (BV "row_list" (.ref l1) []))=H3 at c2 x2 Y2 |-
 have c0:=c2
 replace hR:Rows H3 ρ I:=λv D=>c2.tup M (hR v D)
 replace hp:=c2.lst M hp
 clear c2
 replace M:=x2
 have c2:SX x H3 H3:=SX.of (An.refl _)
 have R3:Rows H3 ρ I:=λv D=>c2.tup M (hR v D)
 refine⟨_,rfl,p,_,"board",ρ,rfl,c2.lst M hp,R3,by omega,λD4 H4 ec s4 VA=>?_⟩
 rw[xy] at VA
 have b3:Dc K H4 D4 ub:=.inl (.inl VA)
 refine⟨D4,rfl,⟨_,b3⟩,Lj (K:=K) (xs:=ub) (λ_=>true) (λv=>[.str (ρ v).nm,(ρ v).rest.getD 0 .non]) b3 (BK (by have:=O.b5;omega)) (λy X s W R k=>k s (An.refl s)) (λy X _ s W R k=>?_) (λD5 H5 i3 VI s5 qo bm=>?_)⟩
 ·obtain⟨b,_,e⟩:=df X
  have Y:=(R3 y (da X)).mono (s4.trans W)
  rw[e] at Y k
  obtain⟨T0,rfl,Y⟩:=Y
  exact⟨_,rfl,T0,_,_,_,rfl,rfl,kL Y,Ah (j:=1) rfl,_,rfl,T0,_,_,_,rfl,rfl,kL Y,Ah (j:=2) rfl,by show 2<=sizeLine;decide,λT6 sA=>k _ _ (BP sA) ⟨T6,rfl,Al⟩⟩
 rw[ba.mpr (λ_ _=>rfl)] at bm
 have b7:Paired (λb y=>TupAt H5 (bV b) y) bs i3:=by
  have h1:=Bv (F:=λ(r:R) y=>TupAt H5 [.str r.nm,r.rest.getD 0 .non] y) ρ bm
  rw[eb] at h1
  exact Gb Ef h1
 clear bm
 refine⟨_,rfl,x,C,c,_,rfl,s5 _ _ (s4 _ _ x2),T.cl,T.n_board_list,Nat.lt_of_le_of_lt (B_ _ _ _) (by show 1<1000;decide),?_⟩
 have u6:SX x H5 _:=SX.up (o:=HO.ins C c (BV "board_list" (.ref D5) (BV "row_list" (.ref l1) [])))
 have x5:=s5 _ _ (s4 _ _ x2)
 have c6:=(c2.trans (SX.of (s4.trans s5))).trans u6
 have x6:upd H5 x (HO.ins C c (BV "board_list" (.ref D5) (BV "row_list" (.ref l1) []))) x=_:=Al
 have zS:=u6.lst x5 qo
 have XE:=u6.pair x5 b7
 generalize upd H5 x (HO.ins C c (BV "board_list" (.ref D5) (BV "row_list" (.ref l1) [])))=H6 at c6 x6 zS XE |-
 clear u6
 have R6:Rows H6 ρ I:=λv D=>c6.tup M (hR v D)
 refine⟨_,rfl,p,_,"rank",ρ,rfl,c6.lst M hp,R6,by omega,λD7 H7 d4 s7 LG=>?_⟩
 rw[SB] at LG
 have bR:Dc K H7 D7 ur:=.inl (.inl LG)
 refine⟨D7,rfl,⟨_,bR⟩,Lj (K:=K) (xs:=ur) (λ_=>true) (λv=>[.str (ρ v).nm,(ρ v).rest.getD 0 .non,(ρ v).rest.getD 1 .non]) bR (BK (by have:=O.nr;omega)) (λy X s W R k=>k s (An.refl s)) (λy X _ s W R k=>?_) (λD8 H8 kT ch s8 rp zi=>?_)⟩
 ·obtain⟨b,_,e⟩:=de X
  have Y:=(R6 y (inR X)).mono (s7.trans W)
  rw[e] at Y k
  obtain⟨T0,rfl,Y⟩:=Y
  exact⟨_,rfl,T0,_,_,_,rfl,rfl,kL Y,Ah (j:=1) rfl,_,rfl,T0,_,_,_,rfl,rfl,kL Y,Ah (j:=2) rfl,_,rfl,T0,_,_,_,rfl,rfl,kL Y,Ah (j:=3) rfl,by show 3<=sizeLine;decide,λT6 sA=>k _ _ (BP sA) ⟨T6,rfl,Al⟩⟩
 rw[ba.mpr (λ_ _=>rfl)] at zi
 have b6:Paired (λ(a:Th) y=>TupAt H8 (tV a) y) (rk.map Xd) kT:=by
  have h1:=Bv (F:=λ(r:R) y=>TupAt H8 [.str r.nm,r.rest.getD 0 .non,r.rest.getD 1 .non] y) ρ zi
  rw[er] at h1
  exact Bv (F:=λ(a:Th) y=>TupAt H8 (tV a) y) Xd (Gb FN h1)
 clear zi
 refine⟨_,rfl,x,C,c,_,rfl,s8 _ _ (s7 _ _ x6),T.cl,T.n_rank_list,Nat.lt_of_le_of_lt (Nat.le_trans (B_ _ _ _) (Nat.succ_le_succ (B_ _ _ _))) (by show 2<1000;decide),?_⟩
 have LL:=s7.trans s8
 have x8:=LL _ _ x6
 have c8:=c6.trans (SX.of LL)
 have SY:=LL _ _ zS
 have ID:=Ar LL XE
 have u9:SX x H8 _:=SX.up (o:=HO.ins C c (BV "rank_list" (.ref D8) (BV "board_list" (.ref D5) (BV "row_list" (.ref l1) []))))
 have x9:upd H8 x (HO.ins C c (BV "rank_list" (.ref D8) (BV "board_list" (.ref D5) (BV "row_list" (.ref l1) [])))) x=_:=Al
 have c9:=c8.trans u9
 have OY:=u9.lst x8 SY
 have MI:=u9.pair x8 ID
 have PF:=u9.lst x8 rp
 have OM:=u9.pair x8 b6
 generalize as:BV "rank_list" (.ref D8) (BV "board_list" (.ref D5) (BV "row_list" (.ref l1) []))=f9 at x9 c9 OY MI PF OM u9 |-
 generalize upd H8 x (HO.ins C c f9)=H9 at x9 c9 OY MI PF OM |-
 have n9:f9.length<=3:=by rw[<-as];exact be (B_ _ _ _) (dA (be (B_ _ _ _) (dA (B_ _ _ _))))
 have b1:f9.lookup ("board_list" : Str)=some (.ref D5):=by rw[<-as,Ak,if_neg (by decide),Ak,if_pos rfl]
 have dd:f9.lookup ("row_list" : Str)=some (.ref l1):=by rw[<-as,Ak,if_neg (by decide),Ak,if_neg (by decide),Ak,if_pos rfl]
 have b0:f9.lookup ("rank_list" : Str)=some (.ref D8):=by rw[<-as,Ak,if_pos rfl]
 have cv:∀ m∈meths,f9.lookup m=none:=λm hm=>by
  rw[<-as,Ak,if_neg (Ei m hm _ (by decide)),Ak,if_neg (Ei m hm _ (by decide)),Ak,if_neg (Ei m hm _ (by decide))]
  rfl
 clear u9 as
 have R9:Rows H9 ρ I:=λv D=>c9.tup M (hR v D)
 have b8:Dc K H9 p I:=.inl (.inl (c9.lst M hp))
 refine⟨_,rfl,p,rfl,⟨_,b8⟩,Cz (K:=K) (xs:=I) (λv=>Gw (ρ v).w) id b8 (BK (by omega)) (λy X s W R k=>?_) (λy X _ s W R k=>⟨_,rfl,k s (An.refl s)⟩) (λrj mx P' an a8=>?_)⟩
 ·obtain⟨T0,rfl,Y⟩:=(R9.mono W) y X
  exact⟨_,rfl,T0,_,_,_,rfl,rfl,kL Y,Ah (j:=0) rfl,aK,_,rfl,.inr (T.tK.sq _),rfl,rfl,_,rfl,k s (An.refl s)⟩
 rw[ic,KW] at a8
 refine⟨_,rfl,x,C,c,_,rfl,an _ _ x9,T.cl,T.n_knob_rows,by omega,?_⟩
 have FK:=an _ _ x9
 have ap:SX x mx _:=SX.up (o:=HO.ins C c (BV "knob_rows" (.ref rj) f9))
 have bz:upd mx x (HO.ins C c (BV "knob_rows" (.ref rj) f9)) x=_:=Al
 have UY:=(c9.trans (SX.of an)).trans ap
 have BG:=ap.lst FK (an _ _ OY)
 have tq:=ap.pair FK (Ar an MI)
 have FX:=ap.lst FK (an _ _ PF)
 have GN:=ap.pair FK (Ar an OM)
 have GW:=ap.lst FK a8
 generalize upd mx x (HO.ins C c (BV "knob_rows" (.ref rj) f9))=EG at bz UY BG tq FX GN GW |-
 clear ap
 have LA:=tq.length
 have a3:Dc K EG D5 i3:=.inl (.inl BG)
 refine⟨_,rfl,x,C,c,_,_,rfl,bz,T.cl,T.n_board_list,(by rw[Ak,if_neg (by decide)];exact b1),D5,rfl,⟨_,a3⟩,Cz (K:=K) (xs:=i3) (λ_=>true) (Uq EG 0) a3 (BK (by have:=O.b5;omega)) (λy X s W R k=>k s (An.refl s)) (λy X _ s W R k=>?_) (λcK p9 dM dr sC=>?_)⟩
 ·obtain⟨b,_,aw⟩:=Dl tq X
  have e:=JW aw 0
  obtain⟨T0,rfl,Y⟩:=aw.mono W
  refine⟨_,rfl,T0,_,_,_,rfl,rfl,kL Y,Ah (j:=0) rfl,?_⟩
  have:=k s (An.refl s)
  rw[e] at this
  exact this
 rw[ba.mpr (λ_ _=>rfl),Kh 0 tq] at sC
 have cA:(bs.map λb=>(bV b).getD 0 V.non)=(bs.map (·.1)).map V.str:=by
  rw[aE]
  rfl
 rw[cA] at sC
 refine⟨cK,_,rfl,sC,by rw[af];have:=O.b5;omega,O.nb,λwa bS A3 dT cb Sc TN MC=>?_⟩
 have ms:=dr.trans cb
 have B0:=ms _ _ bz
 refine⟨_,rfl,x,C,c,_,rfl,B0,T.cl,T.n_board_numbers,ar (B_ _ _ _) (by omega),?_⟩
 have ac:SX x A3 _:=SX.up (o:=HO.ins C c (BV "board_numbers" (.ref wa) (BV "knob_rows" (.ref rj) f9)))
 have bL:upd A3 x (HO.ins C c (BV "board_numbers" (.ref wa) (BV "knob_rows" (.ref rj) f9))) x=_:=Al
 have Xs:=(UY.trans (SX.of ms)).trans ac
 have IF:=ac.lst B0 (ms _ _ BG)
 have FC:=ac.pair B0 (Ar ms tq)
 have B1:=ac.lst B0 (ms _ _ FX)
 have tm:=ac.pair B0 (Ar ms GN)
 have IX:=ac.lst B0 (ms _ _ GW)
 have Fc:=ac.dk B0 Sc
 generalize upd A3 x (HO.ins C c (BV "board_numbers" (.ref wa) (BV "knob_rows" (.ref rj) f9)))=LM at bL Xs IF FC B1 tm IX Fc |-
 clear ac
 have cP:=tm.length
 rw[af] at cP
 have a7:Dc K LM D8 kT:=.inl (.inl B1)
 refine⟨_,rfl,x,C,c,_,_,rfl,bL,T.cl,T.n_rank_list,(by rw[Ak,if_neg (by decide),Ak,if_neg (by decide)];exact b0),D8,rfl,⟨_,a7⟩,Cz (K:=K) (xs:=kT) (λ_=>true) (Uq LM 0) a7 (BK (by have:=O.nr;omega)) (λy X s W R k=>k s (An.refl s)) (λy X _ s W R k=>?_) (λc3 XV d1 tI C4=>?_)⟩
 ·obtain⟨b,_,aw⟩:=Dl tm X
  have e:=JW aw 0
  obtain⟨T0,rfl,Y⟩:=aw.mono W
  refine⟨_,rfl,T0,_,_,_,rfl,rfl,kL Y,Ah (j:=0) rfl,?_⟩
  have:=k s (An.refl s)
  rw[e] at this
  exact this
 rw[ba.mpr (λ_ _=>rfl),Kh 0 tm] at C4
 have cs:((rk.map Xd).map λb=>(tV b).getD 0 V.non)=(rk.map (·.1)).map V.str:=by
  rw[aE,aE]
  rfl
 rw[cs] at C4
 refine⟨c3,_,rfl,C4,by rw[af];have:=O.nr;omega,O.nrr,λDV y' EC dz vT MH Ic dB=>?_⟩
 have md:=tI.trans vT
 have xE:=md _ _ bL
 refine⟨_,rfl,x,C,c,_,rfl,xE,T.cl,T.n_rank_numbers,ar (be (B_ _ _ _) (dA (B_ _ _ _))) (by omega),?_⟩
 have Z:SX x EC _:=SX.up (o:=HO.ins C c (BV "rank_numbers" (.ref DV) (BV "board_numbers" (.ref wa) (BV "knob_rows" (.ref rj) f9))))
 have aZ:upd EC x (HO.ins C c (BV "rank_numbers" (.ref DV) (BV "board_numbers" (.ref wa) (BV "knob_rows" (.ref rj) f9)))) x=_:=Al
 have LV:=(Xs.trans (SX.of md)).trans Z
 have CI:=Z.lst xE (md _ _ IF)
 have BE:=Z.pair xE (Ar md FC)
 have zn:=Z.lst xE (md _ _ B1)
 have Cb:=Z.pair xE (Ar md tm)
 have xo:=Z.lst xE (md _ _ IX)
 have zh:=Z.dk xE (md _ _ Fc)
 have AF:=Z.dk xE MH
 generalize G:BV "rank_numbers" (.ref DV) (BV "board_numbers" (.ref wa) (BV "knob_rows" (.ref rj) f9))=d at aZ LV CI BE zn Cb xo zh AF Z |-
 generalize upd EC x (HO.ins C c d)=FD at aZ LV CI BE zn Cb xo zh AF |-
 have dy:d.length<=6:=by rw[<-G];exact be (B_ _ _ _) (dA (be (B_ _ _ _) (dA (be (B_ _ _ _) (dA n9)))))
 have a6:d.lookup ("board_list" : Str)=some (.ref D5):=by rw[<-G,Ak,if_neg (by decide),Ak,if_neg (by decide),Ak,if_neg (by decide)];exact b1
 have b9:d.lookup ("row_list" : Str)=some (.ref l1):=by rw[<-G,Ak,if_neg (by decide),Ak,if_neg (by decide),Ak,if_neg (by decide)];exact dd
 have a4:d.lookup ("rank_list" : Str)=some (.ref D8):=by rw[<-G,Ak,if_neg (by decide),Ak,if_neg (by decide),Ak,if_neg (by decide)];exact b0
 have bv:d.lookup ("rank_numbers" : Str)=some (.ref DV):=by rw[<-G,Ak,if_pos rfl]
 have bn:d.lookup ("board_numbers" : Str)=some (.ref wa):=by rw[<-G,Ak,if_neg (by decide),Ak,if_pos rfl]
 have aC:d.lookup ("knob_rows" : Str)=some (.ref rj):=by rw[<-G,Ak,if_neg (by decide),Ak,if_neg (by decide),Ak,if_pos rfl]
 have ca:∀ m∈meths,d.lookup m=none:=λm hm=>by
  rw[<-G,Ak,if_neg (Ei m hm _ (by decide)),Ak,if_neg (Ei m hm _ (by decide)),Ak,if_neg (Ei m hm _ (by decide))]
  exact cv m hm
 clear Z G
 have a5:Dc K FD rj uk:=.inl (.inl xo)
 have db:Rows FD ρ I:=λv D=>LV.tup M (hR v D)
 refine⟨_,rfl,x,C,c,_,_,rfl,aZ,T.cl,T.n_knob_rows,aC,rj,rfl,⟨_,a5⟩,Cz (K:=K) (xs:=uk) (λ_=>true) (λv=>.str (ρ v).nm) a5 (BK (by have:=O.nk;omega)) (λy X s W R k=>k s (An.refl s)) (λy X _ s W R k=>?_) (λcZ d5 dP cD BH=>?_)⟩
 ·obtain⟨T0,rfl,Y⟩:=(db.mono W) y (a1 X)
  exact⟨_,rfl,T0,_,_,_,rfl,rfl,kL Y,Ah (j:=1) rfl,k s (An.refl s)⟩
 rw[ba.mpr (λ_ _=>rfl)] at BH
 have cO:(uk.map λv=>V.str (ρ v).nm)=(ks.map (·.nm)).map V.str:=by
  rw[<-ek,aE,aE]
  rfl
 rw[cO] at BH
 refine⟨cZ,_,rfl,BH,by rw[af];have:=O.nk;omega,O.nn,λsQ yn Nw d0 ct RS JE OH=>?_⟩
 have lT:=cD.trans ct
 have vF:=lT _ _ aZ
 refine⟨_,rfl,x,C,c,_,rfl,vF,T.cl,T.n_knob_numbers,by omega,?_⟩
 have ab:SX x Nw _:=SX.up (o:=HO.ins C c (BV "knob_numbers" (.ref sQ) d))
 have bN:upd Nw x (HO.ins C c (BV "knob_numbers" (.ref sQ) d)) x=_:=Al
 have MY:=(LV.trans (SX.of lT)).trans ab
 have B6:=ab.lst vF (lT _ _ CI)
 have AQ:=ab.pair vF (Ar lT BE)
 have IG:=ab.lst vF (lT _ _ zn)
 have F4:=ab.pair vF (Ar lT Cb)
 have E1:=ab.lst vF (lT _ _ xo)
 have Fs:=ab.dk vF RS
 have G0:=ab.dk vF (lT _ _ zh)
 have IZ:=ab.dk vF (lT _ _ AF)
 generalize upd Nw x (HO.ins C c (BV "knob_numbers" (.ref sQ) d))=c4 at bN MY B6 AQ IG F4 E1 G0 IZ Fs |-
 clear ab
 refine⟨_,rfl,x,C,c,_,_,rfl,bN,T.cl,T.n_board_list,(by rw[Ak,if_neg (by decide)];exact a6),D5,bs.map jX,i3,rfl,B6,Bv (F:=λ(a:Th) y=>TupAt c4 (tV a) y) jX AQ,(by rw[List.length_map];have:=O.b5;omega),(λa ha=>by obtain⟨b,hb,rfl⟩:=List.mem_map.mp ha;have:=O.sz b hb;show b.2<=97;omega),λwq ll SG Me vk MO FY=>?_⟩
 have ds:(bs.map jX).map tN=bs:=by
  rw[aE]
  exact ic bs
 rw[ds] at FY
 have uS:=vk _ _ bN
 refine⟨_,rfl,x,C,c,_,rfl,uS,T.cl,T.n_key_places,ar (B_ _ _ _) (by omega),?_⟩
 have L:SX x SG _:=SX.up (o:=HO.ins C c (BV "key_places" (.ref wq) (BV "knob_numbers" (.ref sQ) d)))
 have bl:upd SG x (HO.ins C c (BV "key_places" (.ref wq) (BV "knob_numbers" (.ref sQ) d))) x=_:=Al
 have Mc:=(MY.trans (SX.of vk)).trans L
 have KB:=L.lst uS (vk _ _ B6)
 have HP:=L.pair uS (Ar vk AQ)
 have Ap:=L.lst uS (vk _ _ IG)
 have Bi:=L.pair uS (Ar vk F4)
 have GG:=L.lst uS (vk _ _ E1)
 have FB:=L.dk uS (vk _ _ Fs)
 have F':=L.dk uS (vk _ _ G0)
 have HU:=L.dk uS (vk _ _ IZ)
 have HL:=L.lst uS MO
 have JA:=L.pair uS FY
 generalize upd SG x (HO.ins C c (BV "key_places" (.ref wq) (BV "knob_numbers" (.ref sQ) d)))=ea at bl Mc KB HP Ap Bi GG F' HU HL JA FB |-
 clear L
 refine⟨_,rfl,x,C,c,_,_,rfl,bl,T.cl,T.n_rank_list,(by rw[Ak,if_neg (by decide),Ak,if_neg (by decide)];exact a4),D8,rk.map Xd,kT,rfl,Ap,Bi,(by rw[af];exact O.nr),(λa ha=>by obtain⟨r,hr,rfl⟩:=ay.mp ha;exact O.nz r hr),λEF Ee TW Of sR SI KO=>?_⟩
 have cd:(rk.map Xd).map tN=rk.map eE:=by
  rw[aE]
  rfl
 rw[cd] at KO
 have sw:=sR _ _ bl
 refine⟨_,rfl,x,C,c,_,rfl,sw,T.cl,T.n_pipe_places,ar (be (B_ _ _ _) (dA (B_ _ _ _))) (by omega),?_⟩
 have B:SX x TW _:=SX.up (o:=HO.ins C c (BV "pipe_places" (.ref EF) (BV "key_places" (.ref wq) (BV "knob_numbers" (.ref sQ) d))))
 have aQ:upd TW x (HO.ins C c (BV "pipe_places" (.ref EF) (BV "key_places" (.ref wq) (BV "knob_numbers" (.ref sQ) d)))) x=_:=Al
 have IE:=(Mc.trans (SX.of sR)).trans B
 have BS:=B.lst sw (sR _ _ KB)
 have Bn:=B.pair sw (Ar sR HP)
 have C8:=B.lst sw (sR _ _ GG)
 have CY:=B.lst sw (sR _ _ Ap)
 have BF:=B.pair sw (Ar sR Bi)
 have BB:=B.lst sw SI
 have A7:=B.pair sw KO
 have B2:=B.dk sw (sR _ _ FB)
 have BQ:=B.dk sw (sR _ _ F')
 have vv:=B.dk sw (sR _ _ HU)
 have B3:=B.lst sw (sR _ _ HL)
 have AU:=B.pair sw (Ar sR JA)
 generalize S:BV "pipe_places" (.ref EF) (BV "key_places" (.ref wq) (BV "knob_numbers" (.ref sQ) d))=J at aQ IE BS Bn C8 CY BF BB A7 BQ vv B3 AU B B2 |-
 generalize upd TW x (HO.ins C c J)=cx at aQ IE BS Bn C8 CY BF BB A7 BQ vv B3 AU B2 |-
 have d6:J.length<=9:=by rw[<-S];exact be (B_ _ _ _) (dA (be (B_ _ _ _) (dA (be (B_ _ _ _) (dA dy)))))
 have u:∀ {f:Str} {v:V},¬ f = "pipe_places"->¬ f = "key_places"->¬ f = "knob_numbers"->d.lookup f=some v->J.lookup f=some v:=λh1 h2 h3 h=>by
  rw[<-S,Ak,if_neg h1,Ak,if_neg h2,Ak,if_neg h3];exact h
 have MX:=u (by decide) (by decide) (by decide) a6
 have xD:=u (by decide) (by decide) (by decide) bn
 have NR:=u (by decide) (by decide) (by decide) b9
 have aN:J.lookup ("knob_numbers" : Str)=some (.ref sQ):=by rw[<-S,Ak,if_neg (by decide),Ak,if_neg (by decide),Ak,if_pos rfl]
 have NY:=u (by decide) (by decide) (by decide) a4
 have bB:J.lookup ("pipe_places" : Str)=some (.ref EF):=by rw[<-S,Ak,if_pos rfl]
 have xI:=u (by decide) (by decide) (by decide) bv
 have HK:=u (by decide) (by decide) (by decide) aC
 have bK:J.lookup ("key_places" : Str)=some (.ref wq):=by rw[<-S,Ak,if_neg (by decide),Ak,if_pos rfl]
 have b2:∀ m∈meths,J.lookup m=none:=λm hm=>by
  rw[<-S,Ak,if_neg (Ei m hm _ (by decide)),Ak,if_neg (Ei m hm _ (by decide)),Ak,if_neg (Ei m hm _ (by decide))]
  exact ca m hm
 clear B S u
 have dv:Rows cx ρ I:=λv D=>IE.tup M (hR v D)
 refine⟨_,rfl,_,rfl,x,C,c,_,_,rfl,aQ,T.cl,T.n_rank_numbers,xI,p,DV,I,ρ,rk,y',rfl,IE.lst M hp,dv,by omega,vv,(λi r hr=>Ic i r.1 (by rw[am,hr];rfl)),O.nrr,O.ln,λED Po dQ rV Pe=>?_⟩
 have sf:=rV _ _ aQ
 refine⟨_,rfl,x,C,c,_,rfl,sf,T.cl,T.n_knob_lines,by omega,?_⟩
 have A:SX x Po _:=SX.up (o:=HO.ins C c (BV "knob_lines" (.ref ED) J))
 have bd:upd Po x (HO.ins C c (BV "knob_lines" (.ref ED) J)) x=_:=Al
 have B5:=(IE.trans (SX.of rV)).trans A
 have HA:=A.lst sf (rV _ _ BS)
 have HM:=A.pair sf (Ar rV Bn)
 have ES:=A.lst sf (rV _ _ C8)
 have GA:=A.lst sf (rV _ _ CY)
 have IT:=A.pair sf (Ar rV BF)
 have IM:=A.lst sf (rV _ _ BB)
 have JO:=A.pair sf (Ar rV A7)
 have E9:=Pe.sx A sf
 have BI:=A.dk sf (rV _ _ B2)
 have BY:=A.dk sf (rV _ _ BQ)
 have IY:=A.dk sf (rV _ _ vv)
 have GU:=A.lst sf (rV _ _ B3)
 have JJ:=A.pair sf (Ar rV AU)
 generalize upd Po x (HO.ins C c (BV "knob_lines" (.ref ED) J))=cY at bd B5 HA HM ES GA IT IM JO E9 BY IY GU JJ BI |-
 clear A
 have a9:Rows cY ρ I:=λv D=>B5.tup M (hR v D)
 refine⟨_,rfl,p,_,"step",ρ,rfl,B5.lst M hp,a9,by omega,λZl cn dV GM RU=>?_⟩
 have PU:=GM _ _ BI
 have co:=GM _ _ bd
 have a2:Dc K cn Zl (I.filter (pw ρ "step")):=.inl (.inl RU)
 have d2:(I.filter (pw ρ "step")).length<=I.length:=bt _ _
 refine⟨Zl,rfl,⟨_,a2⟩,Cz (K:=K) (xs:=I.filter (pw ρ "step")) (λ_=>true) (λv=>.int (stN ks (ρ v):Nat)) a2 (BK (by omega)) (λy X s W R k=>k s (An.refl s)) (λy X _ s W R k=>?_) (λLW Y1 NS cB CF=>?_)⟩
 ·obtain⟨WH,cS⟩:=bg.mp X
  obtain⟨ts,xi,cH,cg⟩:=O.st y WH (V.str.inj (of_decide_eq_true cS))
  obtain⟨T0,rfl,Y⟩:=((a9.mono GM).mono W) y WH
  refine⟨_,rfl,_,rfl,x,C,c,_,_,rfl,W _ _ co,T.cl,T.n_knob_numbers,(by rw[Ak,if_neg (by decide)];exact aN),T0,sQ,ρ (.ref T0),yn,ks.map (·.nm),ts,rfl,Y,W _ _ PU,xi,cH,(by rw[af];have:=O.nk;omega),JE,cg,λH3 s3=>?_⟩
  have e:Wd.mk (ts.map λt=>(ks.map (·.nm)).idxOf t)=stN ks (ρ (.ref T0)):=by unfold stN;rw[KC xi]
  rw[e]
  exact k H3 s3
 rw[ba.mpr (λ_ _=>rfl)] at CF
 have i6:=GM.trans cB
 have oq:=i6 _ _ bd
 refine⟨_,rfl,x,C,c,_,rfl,oq,T.cl,T.n_step_sets,ar (B_ _ _ _) (by omega),?_⟩
 have g:SX x Y1 _:=SX.up (o:=HO.ins C c (BV "step_sets" (.ref LW) (BV "knob_lines" (.ref ED) J)))
 have U:∀ {f:Str},¬ f = "step_sets"->¬ f = "knob_lines"->(BV "step_sets" (.ref LW) (BV "knob_lines" (.ref ED) J)).lookup f=J.lookup f:=λh1 h2=>by rw[Ak,if_neg h1,Ak,if_neg h2]
 have es:((I.filter (pw ρ "step")).map λv=>V.int (stN ks (ρ v):Nat))=(((I.filter (pw ρ "step")).map λv=>stN ks (ρ v)).map λn:Nat=>V.int (n:Int)):=by rw[aE];rfl
 rw[es] at CF
 have ve:=g.lst oq (i6 _ _ (B5.lst M hp))
 have nx:x ≠ p:=λz=>by rw[z,hp] at M;cases M
 have n5:D5 ≠ p:=Ne.symm (Aj (s4 _ _ hp) VI)
 have n8:D8 ≠ p:=Ne.symm (Aj (s7 _ _ (c6.lst M hp)) ch)
 have cE:rj ≠ p:=Ne.symm (Aj (c9.lst M hp) P')
 have dm:wq ≠ p:=Ne.symm (Aj (MY.lst M hp) Me)
 have cp:EF ≠ p:=Ne.symm (Aj (Mc.lst M hp) Of)
 have dp:LW ≠ p:=Ne.symm (Aj (GM _ _ (B5.lst M hp)) NS)
 suffices a0:∀ sg,SX p (upd Y1 x _) sg->Ip C sg x I bs rk ks (linesOf rk (I.map ρ)) ((I.filter (pw ρ "step")).map λv=>stN ks (ρ v)) from q _ (a0 _ SX.refl) a0  (c0.trans ((B5.trans (SX.of i6)).trans g))
 intro sg sp
 refine⟨⟨⟨⟨c,_,D5,wa,wq,rj,i3,ll,uk,bS,sp _ _ Al nx,(U (by decide) (by decide)).trans MX,(U (by decide) (by decide)).trans xD,(U (by decide) (by decide)).trans bK,(U (by decide) (by decide)).trans HK,
  λm hm=>(U (Ei m hm _ (by decide)) (Ei m hm _ (by decide))).trans (b2 m hm),sp _ _ (g.lst oq (i6 _ _ HA)) n5,JT sp ve (g.pair oq (Ar i6 HM)),Rq sp ve (g.dk oq (i6 _ _ BY)),λi b hb=>TN i b.1 (by rw[am,hb];rfl),sp _ _ (g.lst oq (i6 _ _ GU)) dm,JT sp ve (g.pair oq (Ar i6 JJ)),sp _ _ (g.lst oq (i6 _ _ ES)) cE,?_⟩,O.b5,O.sz,by have:=O.nk;omega⟩,⟨c,_,D8,DV,EF,ED,kT,Ee,y',sp _ _ Al nx,(U (by decide) (by decide)).trans NY,(U (by decide) (by decide)).trans xI,(U (by decide) (by decide)).trans bB,(by rw[Ak,if_neg (by decide),Ak,if_pos rfl]),sp _ _ (g.lst oq (i6 _ _ GA)) n8,JT sp ve (g.pair oq (Ar i6 IT)),Rq sp ve (g.dk oq (i6 _ _ IY)),(λi r hr=>Ic i r.1 (by rw[am,hr];rfl)),sp _ _ (g.lst oq (i6 _ _ IM)) cp,JT sp ve (g.pair oq (Ar i6 JO)),((E9.mono i6).sx g oq).sp sp ve⟩,O.nr,O.nz,?_⟩,c,_,l1,sQ,LW,yn,sp _ _ Al nx,(U (by decide) (by decide)).trans NR,(U (by decide) (by decide)).trans aN,(by rw[Ak,if_pos rfl]),sp _ _ (g.lst oq (i6 _ _ (B5.lst M Y2))) cl,Rq sp ve (g.dk oq (i6 _ _ BI)),JE,OH,sp _ _ (g.lst oq CF) dp,wa,bS,(U (by decide) (by decide)).trans xD,Rq sp ve (g.dk oq (i6 _ _ BY)),MC⟩
 case refine_2=>rw[U0 O.ln,<-ek,af,KW]
 rw[<-ek]
 refine Bv (F:=λ(r:R) y=>TupAt _ r.v y) ρ ?_
 have b5:Rows _ ρ uk:=λv D=>Vo sp ve (g.tup oq ((a9.mono i6) v (a1 D)))
 generalize sg=bP at b5 |-
 have a0:∀ l:List V,(∀ v∈l,TupAt bP (ρ v).v v)->Paired (λv y=>TupAt bP (ρ v).v y) l l:=by
  intro l
  induction l with
  | nil=>intro _;exact .nil
  | cons a b ih=>intro h;exact .cons (h a (ce ..)) (ih λv D=>h v (bq _ D))
 exact a0 uk b5
inductive Ur (C:Addr) (vs:List V) (H:Hp) (Q:VK) (b9:XK):Prop
 | mk (x:Addr) (bs:List (Str × Nat)) (ks:List R):vs=[.ref x]->Du C H x bs ks->(∀ D i3 H',H D=none->An H H'->H' D=some (.lst i3)->Paired (λb y=>TupAt H' (bV b) y) bs i3->Q (.ref D) H')->Ur C vs H Q b9
theorem tu:Aq sN sN (Ac yf):=Bf
include N T in
theorem Sg:Ao P w K mg base Bb 1 aD.fOb aD.dOb sN (Ur C):=by
 refine N.FOb.1.DQ tu λH I Q E t h=>?_
 obtain⟨x,bs,G,rfl,O,q⟩:=h
 refine⟨_,(Ag (Ax (Dg Ej rfl T.list dS (Aa (Bc (pv 0) rfl) Ab)))),?_⟩
 obtain⟨⟨c,fs,e,B,m,n,b,J,o,j,d,g,v,p,k,A,f,i,y,u,z,r,M,F⟩,L,s,D⟩:=id O
 exact⟨_,rfl,x,C,c,_,_,rfl,d,T.cl,T.n_board_list,g,e,b,rfl,kL (.inl f),λl a=>q l b _ a (BP a) Al (Ar (BP a) i)⟩
inductive Z2 (C:Addr) (vs:List V) (H:Hp) (Q:VK) (b9:XK):Prop
 | mk (x:Addr) (bs:List (Str × Nat)) (ks:List R):vs=[.ref x]->Du C H x bs ks->Q (.int ((FQ bs).length:Nat)) H->Z2 C vs H Q b9
theorem vV:Aq sN sN (Ac zG):=Bf
include N T in
theorem aj:Ao P w K mg base Bb 1 aD.fOc aD.dOc sN (Z2 C):=by
 refine N.FOc.1.DQ vV λH A Q E o h=>?_
 obtain⟨x,bs,z,rfl,O,q⟩:=h
 refine⟨_,(Ag (Ax (BJ BL rfl T.len aS (Aa (Bc (pv 0) rfl) Ab)))),?_⟩
 obtain⟨⟨b,fs,m,u,a,k,I,g,l,i,c,F,r,d,j,t,B,G,s,p,f,e,J,y⟩,D,n,v⟩:=id O
 refine⟨_,rfl,x,C,b,_,_,rfl,c,T.cl,T.n_key_places,d,a,g,rfl,kL (.inl f),?_⟩
 rw[<-e.length]
 exact q
inductive Ww (C:Addr) (vs:List V) (H:Hp) (Q:VK) (b9:XK):Prop
 | mk (x:Addr) (bs:List (Str × Nat)) (ks:List R) (j:Nat) (b:Str × Nat) (n:Int):vs=[.ref x,.str b.1,.int n]->Du C H x bs ks->bs[j]? = some b->(∀ H',An H H'->Q (.int ((((bs.take j).map (·.2)).sum:Nat)+n)) H')->Ww C vs H Q b9
theorem wL:Aq At At (Ac uW):=Bf
include N T in
theorem Wt:Ao P w K mg base Bb 2 aD.fOk aD.dOk At (Ww C):=by
 refine N.FOk.1.DQ wL λH vs Q E r h=>?_
 obtain⟨x,bs,ks,j,b,n,rfl,O,s,q⟩:=h
 have u:=CN r
 refine⟨_,(Ag (Ax (BZ CW (zC (bD N T) r rfl N.FCa (Aa (Ek Ja (Bc (pv 0) rfl) GP (Eu (GJ u (Bc (pv 0) rfl) (pv 1) (λ_ _=>rfl)))) Ab)) (pv 2)))),?_⟩
 obtain⟨⟨m,fs,A,J,Y,Z,c,ll,mi,W,p,V,G,l3,X,lm,R,t,I,D,h6,h7,h8,h9⟩,sj,B,rq⟩:=id O
 have hj:j<bs.length:=(ag.mp s).1
 have hl:=t.length
 have g:=Ex.k (k:=Sum.inr b.1) I
 rw[D j b s] at g
 refine⟨_,rfl,x,C,m,_,_,rfl,p,T.cl,T.n_board_list,V,_,rfl,x,C,m,_,_,rfl,p,T.cl,T.n_board_numbers,G,_,rfl,J,_,rfl,g,_,rfl,A,c,rfl,kL R,λd l=>?_⟩
 have e:=BP (o:=HO.lst (En c none (some (j:Int)))) l
 have i:upd H d (HO.lst (En c none (some (j:Int)))) d=_:=Al
 generalize upd H d (HO.lst (En c none (some (j:Int))))=U at e i |-
 rw[Jp c j (by omega)] at i
 refine⟨d,(bs.take j).map jX,c.take j,rfl,i,Bv (F:=λ(a:Th) y=>TupAt U (tV a) y) jX (KJ (Ar e t) j),(by rw[List.length_map,List.length_take];omega),(λa M=>by obtain⟨L,f,rfl⟩:=List.mem_map.mp M;exact Nat.le_trans (B L (List.mem_of_mem_take f)) (by show 61<=100;decide)),λS z=>?_⟩
 have v:((bs.take j).map jX).map (λa=>a.2.1)=(bs.take j).map (·.2):=by
  rw[aE]
  rfl
 rw[v]
 exact⟨_,rfl,_,_,rfl,rfl,q S (e.trans z)⟩
inductive XQ (C:Addr) (vs:List V) (H:Hp) (Q:VK) (b9:XK):Prop
 | mk (x:Addr) (bs:List (Str × Nat)) (ks:List R) (i:Nat) (qd:Nat × Nat):vs=[.ref x,.int (i:Nat)]->Du C H x bs ks->(FQ bs)[i]? = some qd->(∀ y,TupAt H (qV qd) y->Q y H)->XQ C vs H Q b9
theorem wF:Aq vE vE (Ac yQ):=Bf
include N T in
theorem Wr:Ao P w K mg base Bb 1 aD.fOo aD.dOo vE (XQ C):=by
 refine N.FOo.1.DQ wF λH J Q E u h=>?_
 obtain⟨x,bs,I,i,p,rfl,O,a,q⟩:=h
 refine⟨_,(Ag (Ax (Az Ea (Bc (pv 0) rfl) (pv 1) (λ_ _=>rfl)))),?_⟩
 obtain⟨⟨c,fs,s,D,b,o,U,l,r,m,d,R,z,e,n,B,L,S,A,v,j,f,V,G⟩,M,t,F⟩:=id O
 obtain⟨y,k,g⟩:=CP f a
 exact⟨_,rfl,x,C,c,_,_,rfl,d,T.cl,T.n_key_places,e,_,rfl,b,l,_,_,rfl,rfl,kL j,Ah k,q y g⟩
inductive ir (C:Addr) (vs:List V) (H:Hp) (Q:VK) (b9:XK):Prop
 | mk (x:Addr) (bs:List (Str × Nat)) (ks:List R) (k j1 j2:Nat) (b1 b2:Str × Nat) (nm:Str) (s:Int):vs=[.ref x,.int (k:Nat)]->Du C H x bs ks->ks[k]? = some ⟨"coupler",nm,[.str b1.1,.str b2.1,.int s]⟩->bs[j1]? = some b1->bs[j2]? = some b2->(∀ y H',An H H'->TupAt H' [.int (j1:Nat),.int (j2:Nat),.int s] y->Q y H')->ir C vs H Q b9
inductive PN (C:Addr) (vs:List V) (H:Hp) (Q:VK) (b9:XK):Prop
 | mk (x:Addr) (bs:List (Str × Nat)) (ks:List R) (k j1:Nat) (b1:Str × Nat) (wd nm:Str) (rs:List V):vs=[.ref x,.int (k:Nat)]->Du C H x bs ks->ks[k]? = some ⟨wd,nm,.str b1.1::rs⟩->bs[j1]? = some b1->Q (.int (j1:Nat)) H->PN C vs H Q b9
theorem yX:Aq uu uu (Ac xM):=Bf
include N T in
theorem Tj:Ao P w K mg base Bb 1 aD.fBk aD.dBk uu (PN C):=by
 refine N.FBk.1.DQ yX λH V Q E m h=>?_
 obtain⟨x,bs,U,k,z,d,wd,Z,rs,rfl,O,A,a,q⟩:=h
 have g:=CN m
 refine⟨_,(Ag (Ax (GJ g (Bc (pv 0) rfl) (Az (Av (K:=K) rfl) (Az Ea (Bc (pv 0) rfl) (pv 1) (λ_ _=>rfl)) Ae (λ_ _=>rfl)) (λ_ _=>rfl)))),?_⟩
 obtain⟨⟨b,fs,I,t,F,i,i3,W,l,B,c,l1,p,G,f,R,X,h3,r,o,M,J,D,v⟩,Y,L,S⟩:=id O
 obtain⟨y,u,s,rfl,n⟩:=CP v A
 have e:=Ex.k (k:=Sum.inr d.1) r
 rw[o z d a] at e
 exact⟨_,rfl,x,C,b,_,_,rfl,c,T.cl,T.n_board_numbers,p,_,rfl,x,C,b,_,_,rfl,c,T.cl,T.n_knob_rows,f,_,rfl,i,l,_,_,rfl,rfl,kL D,Ah u,s,_,_,_,rfl,rfl,kL n,Ah (j:=2) rfl,t,_,rfl,e,q⟩
theorem qQ:Aq ["self","knob","row"] uu (Ac vQ):=Bf
include N T in
theorem nC:Ao P w K mg base Bb 2 aD.fOp aD.dOp uu (ir C):=by
 refine N.FOp.1.DQ qQ λH vs Q E g h=>?_
 obtain⟨x,bs,J,k,r,M,d,f,nm,s0,rfl,O,s,a,e,q⟩:=h
 have v:=CN g
 refine⟨_,(Af (Bh (i:=2) qQ.nd rfl (Or.inl rfl) (Az Ea (Bc (pv 0) rfl) (pv 1) (λ_ _=>rfl)))
  (Ag (Ax (Cq (Aa (Bq (pv 0) T.cl N.FBk.2.2 (Tj N T) (ad g) N.FBk.2.1 .nil Am (Aa (pv 1) Ab)) (Aa (GJ v (Bc (pv 0) rfl) (Az (Av (K:=K) rfl) (pv 2) Ae (λ_ _=>rfl)) (λ_ _=>rfl)) (Aa (Az (Av (K:=K) rfl) (pv 2) Ae (λ_ _=>rfl)) Ab))))))),?_⟩
 obtain⟨⟨b,fs,X,G,V,z,i3,ll,A,S,c,l1,D,W,u,F,h2,h3,n,m,h6,Y,U,L⟩,sj,Z,rq⟩:=id O
 obtain⟨y,I,o,rfl,l⟩:=CP L s
 have R:=Ex.k (k:=Sum.inr d.1) n
 rw[m r d a] at R
 have t:=Ex.k (k:=Sum.inr f.1) n
 rw[m M f e] at t
 refine⟨_,rfl,x,C,b,_,_,rfl,c,T.cl,T.n_knob_rows,u,_,rfl,z,A,_,_,rfl,rfl,kL U,Ah I,?_⟩
 refine⟨_,rfl,x,b,fs,rfl,c,F _ (by decide),_,rfl,x,bs,J,k,r,d,_,_,_,rfl,O,s,a,?_⟩
 refine⟨_,rfl,x,C,b,_,_,rfl,c,T.cl,T.n_board_numbers,D,_,rfl,o,_,_,_,rfl,rfl,kL l,Ah (j:=3) rfl,G,_,rfl,t,?_⟩
 exact⟨_,rfl,o,_,_,_,rfl,rfl,kL l,Ah (j:=4) rfl,by show 3<=sizeLine;decide,λp B=>q _ _ (BP B) ⟨p,rfl,Al⟩⟩
inductive il (C:Addr) (vs:List V) (H:Hp) (Q:VK) (b9:XK):Prop
 | mk (x:Addr) (bs:List (Str × Nat)) (ks:List R) (k i j1 j2:Nat) (b1 b2:Str × Nat) (qd:Nat × Nat) (nm:Str) (s:Int):vs=[.ref x,.int (k:Nat),.int (i:Nat)]->Du C H x bs ks->(FQ bs)[i]? = some qd->ks[k]? = some ⟨"coupler",nm,[.str b1.1,.str b2.1,.int s]⟩->bs[j1]? = some b1->bs[j2]? = some b2->(∀ H',An H H'->Q (QK bs j1 j2 s qd b2.2) H')->il C vs H Q b9
theorem YF:Aq ["organ","knob","key","coupler","place","second","number"] EZ (Ac uw):=Bf
include N T in
theorem qI:Ao P w K mg base Bb 3 aD.fLe aD.dLe EZ (il C):=by
 refine N.FLe.1.DQ YF λH vs Q E n h=>?_
 obtain⟨x,bs,f,k,i,y,U,b1,t,b,nm,e,rfl,O,S,hk,G,d,q⟩:=h
 refine⟨_,(Af (Bl (CG (Hg E_ HF Ae (pv 2) (Bg (pv 0) T.cl N.FOc.2.2 (aj N T) (ad n) N.FOc.2.1 .nil Am))) (Ag (Ax F_)) Ba)
  (Af (Bh (i:=3) YF.nd rfl (Or.inl rfl) (Bq (pv 0) T.cl N.FOp.2.2 (nC N T) (ad n) N.FOp.2.1 .nil Am (Aa (pv 1) Ab)))
  (Af (Bh (i:=4) YF.nd rfl (Or.inl rfl) (Bq (pv 0) T.cl N.FOo.2.2 (Wr N T) (ad n) N.FOo.2.1 .nil Am (Aa (pv 2) Ab)))
  (Af (Bh (i:=5) YF.nd rfl (Or.inl rfl) (Az (Bp (K:=K) rfl) (Bg (pv 0) T.cl N.FOb.2.2 (Sg N T) (ad n) N.FOb.2.1 .nil Am) (Az (Av (K:=K) rfl) (pv 3) Ae (λ_ _=>rfl)) (λ_ _=>rfl)))
  (Af (Bh (i:=6) YF.nd rfl (Or.inl rfl) (BZ CW (Az (Av (K:=K) rfl) (pv 4) Ae (λ_ _=>rfl)) (Az (Av (K:=K) rfl) (pv 3) Ae (λ_ _=>rfl))))
  (Af (Bl (PW.pt (D_ (BR Hz (Az (Av (K:=K) rfl) (pv 4) Ae (λ_ _=>rfl)) (Az (Av (K:=K) rfl) (pv 3) Ae (λ_ _=>rfl)) (BX _)) (Do (CG (Hg E_ HF Ae (pv 6) (Az (Av (K:=K) rfl) (pv 5) Ae (λ_ _=>rfl))))))) (Ag (Ax F_)) Ba)
  (Ag (Ax (Bq (pv 0) T.cl N.FOk.2.2 (Wt N T) (ad n) N.FOk.2.1 .nil Am (Aa (Az (Av (K:=K) rfl) (pv 5) Ae (λ_ _=>rfl)) (Aa (pv 6) Ab))))))))))),?_⟩
 have hi:i<(FQ bs).length:=(ag.mp S).1
 have a:∀ {H':Hp},Du C H' x bs f->∃ g fs,H' x=some (.ins C g fs)/\∀ m∈meths,fs.lookup m=none:=λO'=>by
  obtain⟨⟨g,fs,_,_,_,_,_,_,_,_,h1,_,_,_,_,v,_⟩,_⟩:=O'
  exact⟨g,fs,h1,v⟩
 obtain⟨g,fs,W,v⟩:=a O
 refine⟨_,rfl,_,_,rfl,rfl,_,rfl,?_⟩
 refine C_ (λ_=>?_) (λz=>absurd (decide_eq_true (by omega)) z)
 refine⟨_,rfl,x,g,fs,rfl,W,v _ (by decide),x,bs,f,rfl,O,_,_,rfl,rfl,_,rfl,?_⟩
 rw[decide_eq_true (by omega:(i:Int)<((FQ bs).length:Nat))]
 refine Bk ?_
 refine⟨_,rfl,x,g,fs,rfl,W,v _ (by decide),_,rfl,x,bs,f,k,y,U,b1,t,nm,e,rfl,O,hk,G,d,λy1 H1 J I=>?_⟩
 have p:=O.mono J
 obtain⟨XB,X,o,XO⟩:=a p
 refine⟨_,rfl,x,XB,X,rfl,o,XO _ (by decide),_,rfl,x,bs,f,i,b,rfl,p,S,λy2 A=>?_⟩
 refine⟨_,rfl,x,XB,X,rfl,o,XO _ (by decide),x,bs,f,rfl,p,λD i3 H2 hD l k7 Nc=>?_⟩
 obtain⟨M,rfl,R⟩:=I.mono l
 obtain⟨T2,rfl,Z⟩:=A.mono l
 obtain⟨v3,Gc,T3,rfl,Y⟩:=CP Nc d
 refine⟨_,rfl,M,_,_,_,rfl,rfl,kL R,Ah (j:=1) rfl,D,i3,_,_,rfl,rfl,kL k7,Ah Gc,?_⟩
 refine⟨_,rfl,T2,_,_,_,rfl,rfl,kL Z,Ah (j:=1) rfl,_,rfl,M,_,_,_,rfl,rfl,kL R,Ah (j:=2) rfl,_,_,rfl,rfl,?_⟩
 refine⟨_,rfl,T2,_,_,_,rfl,rfl,kL Z,Ah (j:=0) rfl,_,rfl,M,_,_,_,rfl,rfl,kL R,Ah (j:=0) rfl,rfl,_,rfl,?_⟩
 have fin:=q H2 (J.trans l)
 unfold QK at fin
 by_cases r:b.1=y
 ·have z:(!decide (V.int (b.1:Nat)=V.int (y:Nat)))=false:=by rw[r];simp
  rw[z]
  refine Bk ?_
  refine⟨_,rfl,_,_,rfl,rfl,_,rfl,?_⟩
  refine C_ (λu=>?_) (λu=>?_)
  ·refine⟨_,rfl,T3,_,_,_,rfl,rfl,kL Y,Ah (j:=1) rfl,_,_,rfl,rfl,_,rfl,?_⟩
   have c:0<=(b.2:Int)+e:=of_decide_eq_true u
   by_cases s:(b.2:Int)+e<(t.2:Nat)
   ·have B:decide ((b.2:Int)+e<(t.2:Nat))=true:=decide_eq_true s
    rw[B]
    refine Bk ?_
    rw[if_pos ⟨r,c,s⟩] at fin
    obtain⟨Fh,L,qA,rL⟩:=a (p.mono l)
    refine⟨_,rfl,x,Fh,L,rfl,qA,rL _ (by decide),_,rfl,T3,_,_,_,rfl,rfl,kL Y,Ah (j:=0) rfl,_,rfl,x,bs,f,U,t,_,rfl,p.mono l,d,λH3 s3=>?_⟩
    have F:=q H3 ((J.trans l).trans s3)
    unfold QK at F
    rw[if_pos ⟨r,c,s⟩] at F
    exact F
   ·have B:decide ((b.2:Int)+e<(t.2:Nat))=false:=decide_eq_false s
    rw[B]
    refine Dd ?_
    rw[if_neg λz=>s z.2.2] at fin
    exact fin
  ·refine⟨_,rfl,?_⟩
   have c:decide (0<=(b.2:Int)+e)=false:=(fq _).mp u
   rw[if_neg λz=>absurd (decide_eq_true z.2.1) u] at fin
   exact Dd fin
 ·have z:(!decide (V.int (b.1:Nat)=V.int (y:Nat)))=true:=by
   rw[decide_eq_false λz=>r (by have:=V.int.inj z;omega)]
   rfl
  rw[z]
  refine Dd ?_
  rw[if_neg λz=>r z.1] at fin
  exact fin
inductive T_ (vs:List V) (H:Hp) (Q:VK) (b9:XK):Prop
 | mk (n:Nat) (i:Int):vs=[.int n,.int i]->Q (.bl (decide (0<=i) && n.testBit i.toNat)) H->T_ vs H Q b9
theorem dq (n:Nat) (i:Int):decide (V.int (Builtin.bitAnd ((n:Int) / 2 ^ i.toNat) 1)=V.int 1)=n.testBit i.toNat:=by
 rw[Hi,show (1:Int)=((1:Nat):Int) from rfl,<-Int.natCast_ediv,K7,Bool.eq_iff_iff]
 rw[Nat.testBit_eq_decide_div_mod_eq,Nat.and_one_is_mod]
 simp only[decide_eq_true_eq,V.int.injEq]
 exact Int.ofNat_inj
theorem uZ:Aq ET ET (Ac yo):=Bf
include N T in
theorem Sh:Ao P w K mg base Bb 1 aD.fHa aD.dHa ET T_:=by
 refine N.FHa.1.DQ uZ λH f Q E d h=>?_
 obtain⟨n,i,rfl,q⟩:=h
 refine⟨_,(Ag (Ax (Di (Gk E_ HF Ae (pv 1) (Wi PySem.F.plainAttrs_int PySem.F.slot_int_bit_length PySem.F.type_int_bit_length Pz (pv 0))) (Df (DW Cj (BZ JG (BZ Vx (pv 0) (pv 1)) Ae) Ae (BX _)))))),?_⟩
 refine⟨_,rfl,_,_,rfl,rfl,_,rfl,?_⟩
 refine C_ (λa=>?_) (λa=>?_)
 ·have c:0<=i:=of_decide_eq_true a
  refine⟨_,rfl,rfl,(n:Int),rfl,rfl,_,_,rfl,rfl,_,rfl,?_⟩
  rw[J7]
  refine C_ (λb=>?_) (λb=>?_)
  ·refine⟨_,rfl,_,rfl,_,_,rfl,rfl,c,_,_,rfl,rfl,rfl,?_⟩
   try dsimp only
   rw[dq]
   rw[a,fS] at q
   exact q
  ·have e:n.testBit i.toNat=false:=by
    cases hb:n.testBit i.toNat with
    | false=>rfl
    | true =>
     have:=Wd.WT hb
     exact absurd (decide_eq_true (by omega:i<(Wd.len n:Int))) b
   rw[e,Bool.and_false] at q
   exact q
 ·rw[(fq _).mp a,hG] at q
  exact⟨_,rfl,Bk q⟩
inductive RK (vs:List V) (H:Hp) (Q:VK) (b9:XK):Prop
 | mk (n:Nat):vs=[.int n]->n<2 ^ 1200->(∀ p H',H p=none->An H H'->H' p=some (.lst (nV (Wd.mem n)))->Q (.ref p) H')->RK vs H Q b9
theorem X8 (n:Nat):((((List.range (Wd.len n)).map λ(i:Nat)=>(0:Int)+(i:Int)).filter λi=>decide (0<=i) && n.testBit i.toNat).map λi=>V.int i)=nV (Wd.mem n):=by
 unfold Wd.mem
 rw[eR,aE]
 have e:((λi:Int=>decide (0<=i) && n.testBit i.toNat) ∘ λ(i:Nat)=>(0:Int)+(i:Int))=n.testBit:=by
  funext i
  show (decide (0<=(0:Int)+(i:Int)) && n.testBit ((0:Int)+(i:Int)).toNat)=n.testBit i
  have b:(0:Int)<=0+(i:Int):=by omega
  have a:((0:Int)+(i:Int)).toNat=i:=by omega
  rw[decide_eq_true b,a,fS]
 rw[e]
 refine gS λi _=>?_
 show V.int ((0:Int)+(i:Int))=V.int (i:Int)
 rw[gI]
theorem vm:Aq ["some"] ["some"] (Ac sY):=Bf
include N T in
theorem QB:Ao P w K mg base Bb 2 aD.fMe aD.dMe ["some"] RK:=by
 refine N.FMe.1.DQ vm λH l Q E f h=>?_
 obtain⟨n,rfl,j,q⟩:=h
 refine⟨_,(Ag (Ax (Br rfl (Be (osc:=Ac sY) (N:=["some"]) rfl rfl (by decide)) (Dv rfl T.range (Aa (Wi PySem.F.plainAttrs_int PySem.F.slot_int_bit_length PySem.F.type_int_bit_length Pz (pv 0)) Ab)) (λ_ _ _ _=>(GC (CV (zC (Sh N T) f rfl N.FHa (Aa (pv 1) (Aa (pv 0) Ab)))))) (λ_ _ _ _=>(pv 0))))),?_⟩
 have b:Wd.len n<=1200:=Wd.LK j
 refine⟨_,rfl,rfl,(n:Int),rfl,rfl,?_⟩
 rw[J7]
 refine⟨_,rfl,by omega,by omega,?_⟩
 rw[bp]
 refine I_ (lo:=0) (n:=Wd.len n) (λi=>decide (0<=i) && n.testBit i.toNat) (λi=>.int i) (ar b (by decide)) (λi e a c R k=>?_) (λi e _ a c R k=>⟨_,rfl,k a (An.refl a)⟩) (λD a g c d=>?_)
 ·exact⟨_,rfl,_,rfl,n,_,rfl,_,rfl,k a (An.refl a)⟩
 ·rw[X8] at d
  exact q D a g c d
inductive Vp (vs:List V) (H:Hp) (Q:VK) (b9:XK):Prop
 | mk (n:Nat) (k:Int) (c:Nat):vs=[.int n,.int k,.int c]->n<2 ^ 1200->-1200<=k->k<=1200->c<=1200->Q (.int (Wd.mv n k c:Nat)) H->Vp vs H Q b9
theorem Ss (m c:Nat):Builtin.bitAnd (m:Int) (1 * 2 ^ ((if (0:Int) > (c:Int) then (0:Int) else (c:Int))).toNat - 1)=((m % 2 ^ c:Nat):Int):=by
 have h:¬ (0:Int) > (c:Int):=by omega
 rw[if_neg h,Int.one_mul,bp,Hi]
 have a:1<=2 ^ c:=Nat.one_le_two_pow
 have e:((2 ^ c:Nat):Int) - 1=((2 ^ c - 1:Nat):Int):=by omega
 rw[e,K7,Nat.and_two_pow_sub_one_eq_mod]
theorem mZ:Aq ["some","steps","count","moved"] DS (Ac xf):=Bf
include N T in
theorem W0:Ao P w K mg base Bb 1 aD.fSh aD.dSh DS Vp:=by
 refine N.FSh.1.DQ mZ λH p Q E m h=>?_
 obtain⟨n,k,c,rfl,g,o,l,j,q⟩:=h
 refine⟨_,(Af (Bh (i:=3) mZ.nd rfl (Or.inl rfl) (Jb (BR O3 (pv 1) Ae (BX _)) (BZ Y9 (pv 0) (pv 1)) (BZ Vx (pv 0) (KR Nk (pv 1)))))
  (Ag (Ax (BZ JG (pv 3) (BZ Fw (BZ Wj Ae (BJ (Mf rfl) rfl T.max PyProof.Rows.boot_max (Aa (pv 2) (Aa Ae Ab)))) Ae))))),?_⟩
 have d:Wd.len n<=1200:=Wd.LK g
 have f:(2:Int) ^ 27=134217728:=by decide
 refine⟨_,rfl,_,_,rfl,rfl,_,rfl,?_⟩
 refine C_ (λa=>?_) (λa=>?_)
 ·have b:0<k:=of_decide_eq_true a
  refine⟨_,rfl,_,rfl,_,_,rfl,rfl,⟨by omega,by rw[J7,f];omega⟩,?_⟩
  refine⟨_,rfl,_,rfl,_,_,rfl,⟨_,_,rfl,rfl,⟨by split <;> omega,by split <;> omega,by decide⟩,_,_,rfl,rfl,_,_,rfl,rfl,?_⟩⟩
  try dsimp only
  have e:((n:Int) * 2 ^ k.toNat)=((n * 2 ^ k.toNat:Nat):Int):=by rw[Hi];simp
  rw[e,Ss]
  unfold Wd.mv at q
  rw[if_pos b] at q
  exact q
 ·have b:¬ 0<k:=λz=>a (decide_eq_true z)
  refine⟨_,rfl,_,rfl,_,rfl,_,_,rfl,rfl,by omega,?_⟩
  refine⟨_,rfl,_,rfl,_,_,rfl,⟨_,_,rfl,rfl,⟨by split <;> omega,by split <;> omega,by decide⟩,_,_,rfl,rfl,_,_,rfl,rfl,?_⟩⟩
  try dsimp only
  have e:((n:Int) / 2 ^ (-k).toNat)=((n / 2 ^ (-k).toNat:Nat):Int):=by rw[Hi];simp
  rw[e,Ss]
  unfold Wd.mv at q
  rw[if_neg b] at q
  exact q
inductive XD (C:Addr) (vs:List V) (H:Hp) (Q:VK) (b9:XK):Prop
 | mk (x:Addr) (bs:List (Str × Nat)) (ks:List R):vs=[.ref x]->Du C H x bs ks->(∀ D ys H',H D=none->An H H'->H' D=some (.lst ys)->Paired (λ(r:R) y=>TupAt H' [.str r.w,.str r.nm] y) ks ys->Q (.ref D) H')->XD C vs H Q b9
theorem uQ:Aq sN sN (Ac rY):=Bf
include N T in
theorem YD:Ao P w K mg base Bb 1 aD.fOz aD.dOz sN (XD C):=by
 refine N.FOz.1.DQ uQ λH vs Q E X h=>?_
 obtain⟨x,bs,ks,rfl,O,q⟩:=h
 refine⟨_,(Ag (Ax (Br rfl (Be (osc:=Ac rY) (N:=sN) rfl rfl (by decide)) (Bt (Bc (pv 0) rfl)) (λ_ _ _ _=>Cv) (λ_ _ _ _=>(Cq (Aa (Az (Av (K:=K) rfl) (pv 0) Ae (λ_ _=>rfl)) (Aa (Az (Av (K:=K) rfl) (pv 0) Ae (λ_ _=>rfl)) Ab))))))),?_⟩
 obtain⟨⟨t,fs,U,bn,L,f,i3,ll,i,G,u,l1,Z,M,p,lm,h2,h3,h4,Y,h6,V,J,c⟩,sj,W,rq⟩:=id O
 have d:Dc K H f i:=.inl (.inl J)
 have S:=c.length
 refine⟨_,rfl,x,C,t,_,_,rfl,u,T.cl,T.n_knob_rows,p,f,rfl,⟨_,d⟩,Lj (K:=K) (xs:=i) (λ_=>true) (λv=>[.str (Ly H v).w,.str (Ly H v).nm]) d (BK (by omega)) (λy n a b R k=>k a (An.refl a)) (λy n _ a b R k=>?_) (λD a B z b A g=>?_)⟩
 ·obtain⟨r,_,l⟩:=Dl c n
  have e:=K6 l
  rw[e] at k
  obtain⟨m,rfl,o⟩:=l.mono b
  exact⟨_,rfl,m,_,_,_,rfl,rfl,kL o,Ah (j:=0) rfl,_,rfl,m,_,_,_,rfl,rfl,kL o,Ah (j:=1) rfl,by show 2<=sizeLine;decide,λs I=>k _ _ (BP I) ⟨s,rfl,Al⟩⟩
 ·rw[ba.mpr (λ_ _=>rfl)] at g
  have h:=Bv (F:=λ(r:R) y=>TupAt a [.str r.w,.str r.nm] y) (Ly H) g
  rw[SM c] at h
  exact q D B a z b A h
inductive Xz (C:Addr) (vs:List V) (H:Hp) (Q:VK) (b9:XK):Prop
 | mk (x:Addr) (bs:List (Str × Nat)) (ks:List R) (wd:Str) (D:Nat):vs=[.ref x,.int (D:Nat),.str wd]->Du C H x bs ks->(∀ L (cl:List Nat) H',H L=none->An H H'->H' L=some (.lst (nV cl))->(∀ k,k∈cl ↔ ∃ r,ks[k]? = some r/\r.w=wd/\D.testBit k=true)->cl.length<=200->Q (.ref L) H')->Xz C vs H Q b9
theorem lG:Aq A1 DU (Ac pq):=Bf
include N T in
theorem Vw:Ao P w K mg base Bb 2 aD.fDc aD.dDc DU (Xz C):=by
 refine N.FDc.1.DQ lG λH vs Q E L h=>?_
 obtain⟨x,bs,c,wd,D,rfl,O,q⟩:=h
 refine⟨_,(Af (N6 (i:=3) lG.nd rfl rfl rfl (Be (osc:=Ac pq) (N:=A1) rfl rfl (by decide)) (Bt (Bg (pv 0) T.cl N.FOz.2.2 (YD N T) (ad L) N.FOz.2.1 .nil Am)) (λ_ _ _ _=>Cv) (λ_ _ _ _=>(Az (Av (K:=K) rfl) (pv 0) Ae (λ_ _=>rfl))))
  (Ag (Ax (Ny rfl (G3 (osc:=Ac pq) (N:=A1) rfl rfl (by decide)) (Kl rfl T.enumerate (Aa (pv 3) Ab)) (λ_ _ _ _=>GC (PW.pt (N8 (BR Cj (pv 1) (pv 4) (BX _)) (Ko (CV (zC (Sh N T) L rfl N.FHa (Aa (pv 3) (Aa (pv 0) Ab)))))))) (λ_ _ _ _=>(pv 0)))))),?_⟩
 obtain⟨⟨dx,fs,bl,bn,kp,kr,i3,ll,mi,ac,A,l1,l2,l3,l4,lm,s,n,h4,h5,h6,h7,h8,h9⟩,sj,qc,rq⟩:=id O
 refine⟨_,rfl,x,dx,fs,rfl,A,lm _ (by decide),x,_,_,rfl,O,λJ ys Y vi M t B=>?_⟩
 have d:Dc K Y J ys:=.inl (.inl t)
 have ab:=B.length
 refine⟨J,rfl,⟨_,d⟩,Cz (K:=K) (xs:=ys) (λ_=>true) (Uq Y 0) d (BK (by omega)) (λy S a o R k=>k a (An.refl a)) (λy S _ a o R k=>?_) (λI H2 nt W F=>?_)⟩
 ·obtain⟨r,_,Z⟩:=Dl B S
  have e:=JW Z 0
  obtain⟨T0,rfl,hT⟩:=Z.mono o
  have b:=k a (An.refl a)
  rw[e] at b
  exact⟨_,rfl,T0,_,_,_,rfl,rfl,kL hT,Ah (j:=0) rfl,b⟩
 rw[ba.mpr (λ_ _=>rfl),Kh 0 B] at F
 have e2:(c.map λr=>([V.str r.w,V.str r.nm]:List V).getD 0 .non)=c.map λr=>V.str r.w:=rfl
 rw[e2] at F
 have m:Dc K H2 I (c.map λr=>V.str r.w):=.inl (.inl F)
 refine⟨_,rfl,I,rfl,⟨_,m⟩,Ut (K:=K) (xs:=c.map λr=>V.str r.w) (λi v=>decide (v=.str wd) && D.testBit i) (λi _=>.int (i:Nat)) m (BK (by rw[af];omega)) (λi v u a o R k=>?_) (λi v u _ a o R k=>⟨_,rfl,k a (An.refl a)⟩) (λD3 H3 Cf s3 lI=>?_)⟩
 ·rw[am] at u
  obtain⟨z,X,rfl⟩:=aT.mp u
  have b:=k a (An.refl a)
  refine⟨_,rfl,_,rfl,rfl,_,rfl,?_⟩
  refine C_ (λg=>?_) (λg=>?_)
  ·rw[g,fS] at b
   refine⟨_,rfl,_,rfl,D,_,rfl,_,rfl,?_⟩
   rw[decide_eq_true (by omega:(0:Int)<=(i:Nat)),fS,bp]
   exact b
  ·rw[(fq _).mp g,hG] at b
   exact b
 ·refine q D3 (((c.map λr=>V.str r.w).zipIdx.filter λp=>decide (p.1=V.str wd) && D.testBit p.2).map (·.2)) H3 ((M.trans W).free Cf) ((M.trans W).trans s3) ?_ (λk=>?_) ?_
  ·rw[lI]
   refine congrArg (λl=>some (HO.lst l)) ?_
   unfold nV
   rw[aE]
   rfl
  ·constructor
   ·intro hk
    obtain⟨⟨v,U⟩,hm,rfl⟩:=ay.mp hk
    obtain⟨A,s⟩:=bg.mp hm
    have n:=List.mem_zipIdx' A
    rw[kF] at n
    obtain⟨G,n⟩:=n
    rw[ff] at s
    have f:U<c.length:=by simpa using G
    refine⟨c[U],ae f,?_,s.2⟩
    have:=s.1
    rw[n] at this
    exact V.str.inj (of_decide_eq_true this)
   ·rintro⟨z,X,hc,hd⟩
    refine ay.mpr ⟨(V.str z.w,k),bg.mpr ⟨?_,?_⟩,rfl⟩
    ·rw[List.mem_zipIdx_iff_getElem?,am,X]
     rfl
    ·show (decide (V.str z.w=V.str wd) && D.testBit k)=true
     rw[hc,hd,decide_eq_true rfl]
     rfl
  ·rw[af]
   refine be (bt _ _) ?_
   rw[List.length_zipIdx,af]
   omega
inductive Y7 (C:Addr) (vs:List V) (H:Hp) (Q:VK) (b9:XK):Prop
 | mk (x:Addr) (bs:List (Str × Nat)) (ks:List R) (n:Nat):vs=[.ref x,.int (n:Nat)]->Du C H x bs ks->n<2 ^ 1200->Q (.int (Wd.mv n 0 (bs.map (·.2)).sum:Nat)) H->Y7 C vs H Q b9
theorem Ff {x:Addr} {bs:List (Str × Nat)} (O:Du C H x bs ks):(bs.map (·.2)).sum<=305:=by
 have h:=N_ bs 61 O.sz
 rw[Et] at h
 have:=O.nb
 have:bs.length * 61<=5 * 61:=ke _ this
 omega
theorem vH:Aq Fm Fm (Ac yR):=Bf
include N T in
theorem bU:Ao P w K mg base Bb 2 aD.fHk aD.dHk Fm (Y7 C):=by
 refine N.FHk.1.DQ vH λH l Q E a h=>?_
 obtain⟨x,bs,c,n,rfl,O,g,q⟩:=h
 refine⟨_,(Ag (Ax (zC (W0 N T) a rfl N.FSh (Aa (pv 1) (Aa Ae (Aa (Bg (pv 0) T.cl N.FOc.2.2 (aj N T) (ad a) N.FOc.2.1 .nil Am) Ab)))))),?_⟩
 obtain⟨⟨d,fs,t,i,k,m,v,o,p,f,e,r,y,s,j,b,_⟩,_⟩:=id O
 have u:=Ff O
 refine⟨_,rfl,_,rfl,x,d,fs,rfl,e,b _ (by decide),x,bs,c,rfl,O,n,0,(FQ bs).length,rfl,g,by decide,by decide,by rw[Et];omega,?_⟩
 rw[Et]
 exact q
theorem Zn (h:n<=3000):n<sizeLine:=ar h (by decide)
theorem V3 {v:V} {Q:St->Hp->Prop}:Dh i v σ H Q=Q (σ.set i (some v)) H:=rfl
theorem Vi {c:TT} {u:TS} {D:Ends} {r:VK} {b k:St->Hp->Prop} (h:Nr c tb { D with nx:=u D } σ H):({ nx:=ik (Nr c tb) u D,rt:=r,bk:=b,ct:=k }:Ends).nx σ H:=h
def iG:Option HO->Nat
 | some (.lst xs)=>xs.length
 | _=>0
def d9:Option HO->Nat
 | some (.dK kvs)=>kvs.length
 | _=>0
abbrev kI (j:Nat):Key:=Sum.inl ((j:Nat):Int)
theorem Wm {c:List Nat} (h:kvs.map (·.1)=c.map kI) (j:Nat):(Ce kvs (kI j)).isSome=decide (j∈c):=by
 rw[<-Gu]
 rw[eI,gi,decide_eq_true_eq]
 constructor
 ·rintro⟨p,b,e⟩
  have:p.1∈c.map kI:=by rw[<-h];exact bb b
  obtain⟨a,i,f⟩:=ay.mp this
  have g:kI a=kI j:=f.trans (of_decide_eq_true e)
  have:((a:Nat):Int)=(j:Nat):=Sum.inl.inj g
  have:a=j:=by omega
  subst this
  exact i
 ·intro d
  have:kI j∈kvs.map (·.1):=by rw[h];exact bb d
  obtain⟨p,b,e⟩:=ay.mp this
  exact⟨p,b,decide_eq_true e⟩
def Oi (H:Hp) (bs:List (Str × Nat)) (kbs:List Kb) (D n:Nat) (kvs:List (Key × V)) (js:List Nat):Prop:=∀ (m j:Nat),js[m]? = some j->∃ (k i:Nat) (T:Addr) (z:Kb),Ce kvs (kI j)=some (.ref T)/\H T=some (.tup [V.int (k:Nat),V.int (i:Nat)])/\D.testBit k=true/\kbs[k]? = some z/\gl bs z i=some j/\(n.testBit i=true \/ i∈js.take m)
theorem Oi.zM {bs:List (Str × Nat)} {D:Nat} {a:List Nat} (h:Oi H bs kbs D n kvs a) (f:∀ T xs,H T=some (.tup xs)->H' T=some (.tup xs)):Oi H' bs kbs D n kvs a:=λm j c=>by
 obtain⟨k,i,T,z,b,d,e⟩:=h m j c
 exact⟨k,i,T,z,b,f _ _ d,e⟩
theorem Oi.mono {bs:List (Str × Nat)} {D:Nat} {a:List Nat} (h:Oi H bs kbs D n kvs a) (s:An H H'):Oi H' bs kbs D n kvs a:=h.zM λT b e=>s _ _ e
theorem Oi.upd {bs:List (Str × Nat)} {D:Nat} {a:List Nat} {A:Addr} {u:HO} (h:Oi H bs kbs D n kvs a) (c:H A=some u) (b:∀ xs,u ≠ .tup xs):Oi (L2.upd H A o) bs kbs D n kvs a:=h.zM λT xs e=>by
 rw[Aw (λz=>by rw[z,c] at e;exact b xs (Option.some.inj e))]
 exact e
theorem Oi.snoc {bs:List (Str × Nat)} {D:Nat} {a:List Nat} {k b:Nat} {T:Addr} {z:Kb} (h:Oi H bs kbs D n kvs a) (i:Ce kvs (kI j)=none) (t:H T=some (.tup [V.int (k:Nat),V.int (b:Nat)])) (y:D.testBit k=true) (u:kbs[k]? = some z) (w:gl bs z b=some j) (hi:n.testBit b=true \/ b∈a) :
  Oi H bs kbs D n (kvs++[(kI j,.ref T)]) (a++[j]):=λm g c=>by
 by_cases d:m<a.length
 ·rw[fw d] at c
  obtain⟨p,q,l,s,f,r,A,C,B,E⟩:=h m g c
  refine⟨p,q,l,s,?_,r,A,C,B,?_⟩
  ·rw[IW _ _ _ _ i]
   by_cases e:kI g=kI j
   ·rw[e,i] at f
    cases f
   ·rw[if_neg e]
    exact f
  ·rw[fh (fT d)]
   exact E
 ·have x:=(ag.mp c).1
  rw[al,ax] at x
  have o:m=a.length:=by omega
  subst o
  rw[dt (ah _),jv] at c
  have v:j=g:=by simpa using c
  subst v
  refine⟨k,b,T,z,?_,t,y,u,w,?_⟩
  ·rw[IW _ _ _ _ i,if_pos rfl]
  ·rw[fh (ah _),eJ]
   exact hi
inductive gH (C:Addr) (vs:List V) (H:Hp) (Q:VK) (b9:XK):Prop
 | mk (x:Addr) (c:Nat->Str) (sz:List Nat) (kbs:List Kb) (D n:Nat):vs=[.ref x,.int (D:Nat),.int (n:Nat)]->Du C H x (Bj c sz) (By c kbs)->Ri sz.length kbs->n<2 ^ 1200->(∀ i,n.testBit i=true->i<sz.sum)->(∀ W (kvs:List (Key × V)) (js:List Nat) H',H W=none->An H H'->H' W=some (.dK kvs)->kvs.map (·.1)=js.map kI->js.Nodup->Oi H' (Bj c sz) kbs D n kvs js->(∀ j,j∈js ↔ Ot (stp (Bj c sz) kbs D) (λi=>n.testBit i=true) j)->Q (.ref W) H')->gH C vs H Q b9
theorem Rf:Aq ["organ","knobs","held","couplers","ways","left","ahead","knob","key"] sP (Ac yJ):=Bf
include N T in
theorem mX:Ao P w K mg base Bb 4 aD.fWa aD.dWa sP (gH C):=by
 refine N.FWa.1.DQ Rf λH vs Q E hr h=>?_
 obtain⟨x,c,sz,p,D,n,rfl,O,oI,hn,ra,q⟩:=h
 have hu:=CN hr
 refine⟨_,(Af (Bh (i:=3) Rf.nd rfl (Or.inl rfl) (zC (Vw N T) hr rfl N.FDc (Aa (pv 0) (Aa (pv 1) (Aa BW Ab)))))
  (Af (Bh (i:=4) Rf.nd rfl (Or.inl rfl) JP)
  (Af (Bh (i:=5) Rf.nd rfl (Or.inl rfl) (zC (QB N T) hr rfl N.FMe (Aa (pv 2) Ab)))
  (Af (Va PassesOwn.never (Ku (pv 5) (λ_=>rfl)) (Af (Bh (i:=6) Rf.nd rfl (Or.inl rfl) (Gj ck PySem.F.slot_list_pop PySem.F.type_list_pop W4 (pv 5) (Aa Ae Ab)))
  (Ag (Eh PassesOwn.never rfl (Bt (pv 3)) (Ck (i:=7) Rf.nd rfl (Or.inl rfl)) (Af (Bh (i:=8) Rf.nd rfl (Or.inl rfl) (zC (qI N T) hr rfl N.FLe (Aa (pv 0) (Aa (pv 7) (Aa (pv 6) Ab)))))
  (Ag (Bl (PW.pt (N8 (BR Y0 (pv 8) F_ (BX _)) (Ko (RM (Mz hu (pv 8) (pv 4)))))) (Af (Ia hu (pv 4) (pv 8) (Cq (Aa (pv 7) (Aa (pv 6) Ab))) rfl)
  (Ag (Bl (CG (CV (zC (Sh N T) hr rfl N.FHa (Aa (pv 2) (Aa (pv 8) Ab))))) (Ag (Bx (Gj ck cr cw DK (pv 5) (Aa (pv 8) Ab)))) Ba))) Ba)))))))
  (Ag (Ax (pv 4))))))),?_⟩
 have J:((Bj c sz).map (·.2)).sum=sz.sum:=by rw[De]
 generalize ab:stp (Bj c sz) p D=st
 have hR:∀ {j},Ot st (λi=>n.testBit i=true) j->j<sz.sum:=λ{j} r=>by
  rw[<-ab] at r
  have:=r.lt
  rw[J] at this
  exact this
 refine⟨_,rfl,_,rfl,x,Bj c sz,By c p,"coupler",D,rfl,O,λR cl H1 Xt s1 aw DI Co=>?_⟩
 have aQ:∀ k,k∈cl ↔ ∃ z,p[k]? = some z/\jE z=true/\D.testBit k=true:=λk=>by
  rw[DI]
  constructor
  ·rintro⟨r,hr,hw,hd⟩
   obtain⟨z,hz,rfl⟩:=Gq hr
   rw[J0] at hw
   exact⟨z,hz,decide_eq_true (congrArg V.str hw),hd⟩
  ·rintro⟨z,hz,hc,hd⟩
   exact⟨_,Fq hz,(J0 _ _ _).trans (V.str.inj (of_decide_eq_true hc)),hd⟩
 intro W hW
 obtain⟨H2,i7,t2,u2⟩:=Em (o:=HO.dK []) hW
 rw[i7]
 refine⟨_,rfl,n,rfl,hn,λL H3 hL s3 lI=>?_⟩
 have aN:=t2.trans s3
 have a7:=s1.trans aN
 have a0:H W=none:=s1.free hW
 have a4:H L=none:=(s1.trans t2).free hL
 have aC:W ≠ L:=λz=>by rw[<-z,s3 _ _ u2] at lI;cases lI
 have c3:=aN _ _ aw
 have bR:Dc K H3 R (nV cl):=.inl (.inl c3)
 have bl:R ≠ W:=λz=>by rw[z,s3 _ _ u2] at c3;cases c3
 have ap:R ≠ L:=λz=>by rw[z] at aw;rw[t2 _ _ aw] at hL;cases hL
 show Dh 5 _ _ _ _
 rw[V3]
 refine Vi ?_
 refine V6 (λσ G=>An H G/\G R=some (.lst (nV cl))/\∃ (t:List (Key × V)) (B A:List Nat),G W=some (.dK t)/\G L=some (.lst (nV A))/\t.map (·.1)=B.map kI/\B.Nodup/\Oi G (Bj c sz) p D n t B/\(∀ j∈B,Ot st (λi=>n.testBit i=true) j)/\(∀ i∈A,n.testBit i=true \/ i∈B)/\(∀ i,(n.testBit i=true \/ i∈B)->i∈A \/ ∀ j,st i j->j∈B)/\A.length+(sz.sum - B.length)<=1600/\∃ v6 v7 v8,σ=[some (.ref x),some (.int (D:Nat)),some (.int (n:Nat)),some (.ref R),some (.ref W),some (.ref L),v6,v7,v8])
  (λ_ G=>iG (G L)+(sz.sum - d9 (G W))) ⟨a7,c3,[],[],Wd.mem n,s3 _ _ u2,lI,rfl,List.nodup_nil,(λm j hm=>by simp at hm),(λj hj=>nomatch hj),(λi S=>.inl (Wd.mem_iff.mp S)),(λi S=>.inl (Wd.mem_iff.mpr (S.resolve_right (by simp)))),?_,_,_,_,rfl⟩ ?_ ?_
 ·have:=Wd.LK hn
  have:(Wd.mem n).length<=Wd.len n:=by unfold Wd.mem;exact Nat.le_trans (List.length_filter_le _ _) (by simp)
  have k8:=Ff O
  rw[J] at k8
  simp
  omega
 ·rintro σ G ⟨s4,c4,t,B,A,hw,hl,o0,nd,FF,hj,sT,IU,Jn,v6,v7,v8,rfl⟩
  refine⟨_,rfl,_,.inl ⟨_,kL hl,rfl⟩,?_⟩
  have bS:B.length<=sz.sum:=Fi sz.sum nd λj h=>hR (hj j h)
  have bm:t.length=B.length:=by have:=congrArg List.length o0;simpa using this
  cases A with
  | nil =>
   refine Bk ?_
   refine⟨_,rfl,q W t B G a0 s4 hw o0 nd FF λj=>?_⟩
   rw[ab]
   exact Ot.all (W:=λj=>j∈B) hj (λi S=>(IU i S).resolve_left (by simp)) j
  | cons f A =>
   refine Dd ?_
   refine⟨_,rfl,.inl ⟨rfl,_,kL hl⟩,L,_,0,0,.int (f:Nat),rfl,rfl,hl,by decide,by decide,seqIndex_of (by decide) (by simp),rfl,?_⟩
   have w5:upd G L (.lst ((nV (f::A)).eraseIdx 0)) W=some (.dK t):=by rw[Aw aC];exact hw
   have l5:upd G L (.lst ((nV (f::A)).eraseIdx 0)) L=some (.lst (nV A)):=Al
   have c5:upd G L (.lst ((nV (f::A)).eraseIdx 0)) R=some (.lst (nV cl)):=by rw[Aw ap];exact c4
   have s5:An H (upd G L (.lst ((nV (f::A)).eraseIdx 0))):=λb o e=>by rw[Aw (Aj e a4)];exact s4 _ _ e
   have em:iG (G L)+(sz.sum - d9 (G W))=A.length+1+(sz.sum - B.length):=by
    rw[hl,hw]
    show (nV (f::A)).length+(sz.sum - t.length)=_
    rw[bm]
    simp
   rw[em]
   have as:Oi (upd G L (.lst ((nV (f::A)).eraseIdx 0))) (Bj c sz) p D n t B:=FF.upd hl (λxs z=>by cases z)
   generalize upd G L (.lst ((nV (f::A)).eraseIdx 0))=H5 at w5 l5 c5 s5 as |-
   have bn:f<sz.sum:=by
    rcases sT f (ce ..) with h | h
    ·exact ra f h
    ·exact hR (hj f h)
   have a3:∀ j,st f j->Ot st (λi=>n.testBit i=true) j:=λj h=>by
    rcases sT f (ce ..) with g | g
    ·exact .one g h
    ·exact .more (hj f g) h
   obtain⟨qd,hq⟩:∃ qd,(FQ (Bj c sz))[f]? = some qd:=⟨_,ae (by rw[Et,J];exact bn)⟩
   have M:A.length+(sz.sum - B.length)<A.length+1+(sz.sum - B.length):=by omega
   refine⟨_,rfl,R,rfl,⟨_,kL c5⟩,Jk (K:=K) (a:=R) (xs:=nV cl) (λm σ Z=>An H Z/\Z R=some (.lst (nV cl))/\∃ (l:List (Key × V)) (d u:List Nat),Z W=some (.dK l)/\Z L=some (.lst (nV u))/\l.map (·.1)=d.map kI/\d.Nodup/\Oi Z (Bj c sz) p D n l d/\(∀ j∈d,Ot st (λi=>n.testBit i=true) j)/\(∀ i∈u,n.testBit i=true \/ i∈d)/\(∀ i,(n.testBit i=true \/ i∈d)->i=f \/ i∈u \/ ∀ j,st i j->j∈d)/\(∀ k∈cl.take m,∀ z j,p[k]? = some z->gl (Bj c sz) z f=some j->j∈d)/\(n.testBit f=true \/ f∈d)/\u.length+(sz.sum - d.length)<=A.length+(sz.sum - B.length)/\∃ v7 v8,σ=[some (.ref x),some (.int (D:Nat)),some (.int (n:Nat)),some (.ref R),some (.ref W),some (.ref L),some (.int (f:Nat)),v7,v8])
    ⟨s5,c5,t,B,A,w5,l5,o0,nd,as,hj,(λi S=>sT i (List.mem_cons_of_mem _ S)),(λi S=>?_),(λk hk=>by simp at hk),sT f (List.mem_cons_self ..),Nat.le_refl _,_,_,rfl⟩ (λm σ Z _ h=>.inl (.inl h.2.1)) ?_ ?_⟩
   ·rcases IU i S with h | h
    ·rcases ci.mp h with rfl | h
     ·exact .inl rfl
     ·exact .inr (.inl h)
    ·exact .inr (.inr h)
   ·rintro m y σ Z hm ⟨s6,c6,l,d,u,w6,l6,wl,EI,vc,xS,sB,sF,tS,so,va,v7,v8,rfl⟩
    rw[am] at hm
    obtain⟨k,hk,rfl⟩:=aT.mp hm
    obtain⟨z,hz,bz,Y'⟩:=(aQ k).mp (ai hk)
    have XY:=oI.ok z (ai hz)
    obtain⟨j1,j2,s0,rfl⟩:=Zw XY bz
    obtain⟨bL,bK,_,_⟩:=XY
    have a5:(Bj c sz)[j1]? = some (c j1,sz[j1]):=Fx (ae bL)
    have ac:(Bj c sz)[j2]? = some (c j2,sz[j2]):=Fx (ae bK)
    have aM:(By c p)[k]? = some ⟨"coupler",c (30+k),[.str (c j1),.str (c j2),.int s0]⟩:=Fq hz
    have bN:d.length<=sz.sum:=Fi sz.sum EI λj h=>hR (xS j h)
    have an:l.length=d.length:=by have:=congrArg List.length wl;simpa using this
    have k8:=Ff O
    rw[J] at k8
    refine⟨_,rfl,_,rfl,_,rfl,x,Bj c sz,By c p,k,f,j1,j2,(c j1,sz[j1]),(c j2,sz[j2]),qd,c (30+k),s0,rfl,O.mono s6,hq,aM,a5,ac,λH7 I=>?_⟩
    have F:∀ {LX:List Nat},(∀ j∈d,j∈LX)->(∀ j,gl (Bj c sz) (.cp j1 j2 s0) f=some j->j∈LX)->∀ k'∈cl.take (m+1),∀ z j,p[k']? = some z->gl (Bj c sz) z f=some j->j∈LX:=λ{LX} aZ aP k' pi z' j D0 hg=>by
     rw[cy,hk] at pi
     rcases bX.mp pi with h | h
     ·exact aZ j (tS k' h z' j D0 hg)
     ·have:k'=k:=by simpa using h
      subst this
      rw[hz] at D0
      cases D0
      exact aP j hg
    rcases Wy (j1:=j1) (s:=s0) hq ac with⟨e,eg⟩ | ⟨j,e,eg,bP⟩
    ·rw[e]
     refine⟨_,rfl,rfl,_,rfl,Bk (Bk ?_)⟩
     exact⟨s6.trans I,I _ _ c6,l,d,u,I _ _ w6,I _ _ l6,wl,EI,vc.mono I,xS,sB,sF,F (λj h=>h) (λj h=>by rw[eg] at h;cases h),so,va,_,_,rfl⟩
    ·rw[e]
     have a6:st f j:=by rw[<-ab];exact⟨k,_,Y',hz,eg⟩
     refine⟨_,rfl,rfl,_,rfl,Dd ?_⟩
     refine⟨_,rfl,_,rfl,W,_,rfl,Ex.k (k:=kI j) (I _ _ w6),_,rfl,?_⟩
     rw[Wm wl j]
     by_cases U:j∈d
     ·rw[decide_eq_true U]
      refine Bk ?_
      exact⟨s6.trans I,I _ _ c6,l,d,u,I _ _ w6,I _ _ l6,wl,EI,vc.mono I,xS,sB,sF,F (λj h=>h) (λj' h=>by rw[eg] at h;cases h;exact U),so,va,_,_,rfl⟩
     ·rw[decide_eq_false U]
      refine Dd ?_
      have nv:Ce l (kI j)=none:=by
       have:=Wm wl j
       rw[decide_eq_false U] at this
       exact Option.not_isSome_iff_eq_none.mp (by rw[this];decide)
      have aK:(d++[j]).Nodup:=List.nodup_append.mpr ⟨EI,by simp,λa ha b hb=>by rw[List.mem_singleton.mp hb];intro z;exact U (z ▸ ha)⟩
      have aB:∀ j'∈d++[j],Ot st (λi=>n.testBit i=true) j':=λj' h=>by
       rcases bX.mp h with h | h
       ·exact xS j' h
       ·rw[av.mp h]
        exact a3 j a6
      have a1:(d++[j]).length<=sz.sum:=Fi sz.sum aK λj h=>hR (aB j h)
      rw[al,ax] at a1
      refine⟨_,rfl,_,rfl,by show 2<=sizeLine;decide,λY a9=>?_⟩
      obtain⟨H8,i7,t8,TR⟩:=Em (o:=HO.tup [V.int (k:Nat),V.int (f:Nat)]) a9
      rw[i7]
      have w8:=t8 _ _ (I _ _ w6)
      refine⟨_,rfl,_,rfl,W,_,rfl,MF.k (k:=kI j) w8 (BK (by omega)),?_⟩
      have u9:upd H8 W (.dK (putK l (kI j) (.ref Y))) W=some (.dK (l++[(kI j,.ref Y)])):=by rw[<-YS _ nv];exact Al
      have l9:upd H8 W (.dK (putK l (kI j) (.ref Y))) L=some (.lst (nV u)):=by rw[Aw aC.symm];exact t8 _ _ (I _ _ l6)
      have c9:upd H8 W (.dK (putK l (kI j) (.ref Y))) R=some (.lst (nV cl)):=by rw[Aw bl];exact t8 _ _ (I _ _ c6)
      have s9:An H (upd H8 W (.dK (putK l (kI j) (.ref Y)))):=λb o e=>by rw[Aw (Aj e a0)];exact t8 _ _ (I _ _ (s6 _ _ e))
      have X:Oi (upd H8 W (.dK (putK l (kI j) (.ref Y)))) (Bj c sz) p D n (l++[(kI j,.ref Y)]) (d++[j]):=by
       have p8:=((vc.mono I).mono t8).upd (o:=.dK (putK l (kI j) (.ref Y))) w8 (λxs z=>by cases z)
       exact p8.snoc nv (by rw[Aw (λz=>by rw[z,w8] at TR;cases TR)];exact TR) Y' hz eg so
      generalize upd H8 W (.dK (putK l (kI j) (.ref Y)))=H9 at u9 l9 c9 s9 X |-
      have a2:(l++[(kI j,V.ref Y)]).map (·.1)=(d++[j]).map kI:=by rw[cq,cq,wl];rfl
      refine⟨_,rfl,_,rfl,n,_,rfl,_,rfl,?_⟩
      have eb:(decide ((0:Int)<=(j:Nat)) && n.testBit ((j:Nat):Int).toNat)=n.testBit j:=by rw[decide_eq_true (by omega),fS,bp]
      rw[eb]
      cases hb:n.testBit j with
      | true =>
       refine Bk ?_
       refine⟨s9,c9,_,d++[j],u,u9,l9,a2,aK,X,aB,(λi h=>(sB i h).imp id (List.mem_append_left _)),(λi h=>?_),F (λj h=>List.mem_append_left _ h) (λj' h=>by rw[eg] at h;cases h;simp),so.imp id (List.mem_append_left _),?_,_,_,rfl⟩
       ·have h':n.testBit i=true \/ i∈d:=by
         rcases h with h | h
         ·exact .inl h
         ·rcases bX.mp h with h | h
          ·exact .inr h
          ·rw[av.mp h]
           exact .inl hb
        rcases sF i h' with g | g | g
        ·exact .inl g
        ·exact .inr (.inl g)
        ·exact .inr (.inr λj' r8=>dn _ (g j' r8))
       ·rw[al,ax]
        omega
      | false =>
       refine Dd ?_
       refine⟨_,rfl,.inl ⟨rfl,_,kL l9⟩,_,rfl,L,_,_,rfl,rfl,l9,Zn (by simp only[List.length_cons] at Jn;rw[List.length_map];omega),?_⟩
       have bd:upd H9 L (.lst (nV u++[V.int (j:Nat)])) L=some (.lst (nV (u++[j]))):=by
        have e9:nV (u++[j])=nV u++[V.int (j:Nat)]:=cq
        rw[e9]
        exact Al
       have bB:upd H9 L (.lst (nV u++[V.int (j:Nat)])) W=some (.dK (l++[(kI j,.ref Y)])):=by rw[Aw aC];exact u9
       have bv:upd H9 L (.lst (nV u++[V.int (j:Nat)])) R=some (.lst (nV cl)):=by rw[Aw ap];exact c9
       have a8:An H (upd H9 L (.lst (nV u++[V.int (j:Nat)]))):=λb o e=>by rw[Aw (Aj e a4)];exact s9 _ _ e
       refine⟨a8,bv,_,d++[j],u++[j],bB,bd,a2,aK,X.upd l9 (λxs z=>by cases z),aB,(λi h=>?_),(λi h=>?_),F (λj h=>List.mem_append_left _ h) (λj' h=>by rw[eg] at h;cases h;simp),so.imp id (List.mem_append_left _),?_,_,_,rfl⟩
       ·rcases bX.mp h with h | h
        ·exact (sB i h).imp id (dn _)
        ·exact .inr (br _ h)
       ·have h':(n.testBit i=true \/ i∈d) \/ i=j:=by
         rcases h with h | h
         ·exact .inl (.inl h)
         ·rcases bX.mp h with h | h
          ·exact .inl (.inr h)
          ·exact .inr (av.mp h)
        rcases h' with h' | rfl
        ·rcases sF i h' with g | g | g
         ·exact .inl g
         ·exact .inr (.inl (dn _ g))
         ·exact .inr (.inr λj' r8=>dn _ (g j' r8))
        ·exact .inr (.inl (by simp))
       ·rw[al,al,ax]
        omega
   ·rintro σ Z ⟨s6,c6,l,d,u,w6,l6,wl,EI,vc,xS,sB,sF,tS,so,va,v7,v8,rfl⟩
    have an:l.length=d.length:=by have:=congrArg List.length wl;simpa using this
    refine⟨⟨s6,c6,l,d,u,w6,l6,wl,EI,vc,xS,sB,(λi S=>?_),by simp only[List.length_cons] at Jn;omega,_,_,_,rfl⟩,?_⟩
    ·rcases sF i S with rfl | g | g
     ·refine .inr λj SS=>?_
      rw[<-ab] at SS
      obtain⟨k,z,MG,UO,hg⟩:=SS
      refine tS k ?_ z j UO hg
      rw[List.take_of_length_le (by simp)]
      exact (aQ k).mpr ⟨z,UO,oO hg,MG⟩
     ·exact .inl g
     ·exact .inr g
    ·show iG (Z L)+(sz.sum - d9 (Z W))<_
     rw[l6,w6]
     show (nV u).length+(sz.sum - l.length)<_
     rw[af,an]
     omega
 ·rintro σ H' Q1 Q2 hm ⟨v,hv,k,hk,h⟩
  exact⟨v,hv,k,hk,hm _ _ h⟩
inductive jH (C:Addr) (vs:List V) (H:Hp) (Q:VK) (b9:XK):Prop
 | mk (x:Addr) (c:Nat->Str) (sz:List Nat) (kbs:List Kb) (D n:Nat):vs=[.ref x,.int (D:Nat),.int (n:Nat)]->Du C H x (Bj c sz) (By c kbs)->Ri sz.length kbs->n<2 ^ 1200->(∀ i,n.testBit i=true->i<sz.sum)->(∀ (m:Nat) H',An H H'->(∀ j,m.testBit j=true ↔ Ot (stp (Bj c sz) kbs D) (λi=>n.testBit i=true) j)->Q (.int (m:Nat)) H')->jH C vs H Q b9
theorem Rt {T:Nat} (h:∀ i,n.testBit i=true->i<T):Wd.mv n 0 T=n:=by
 refine Zt λi=>?_
 rw[Wd.Lf]
 simp
 intro a
 exact h i a
theorem tM:Aq sP sP (Ac yF):=Bf
include N T in
theorem jr:Ao P w K mg base Bb 5 aD.fCq aD.dCq sP (jH C):=by
 refine N.FCq.1.DQ tM λH J Q E i h=>?_
 obtain⟨x,c,sz,g,D,n,rfl,O,B,o,m,q⟩:=h
 refine⟨_,(Ag (Ax (zC (NB N T) i rfl N.FSt (Aa (Dg (Lb rfl) rfl T.list dS (Aa (zC (mX N T) i rfl N.FWa (Aa (pv 0) (Aa (pv 1) (Aa (zC (bU N T) i rfl N.FHk (Aa (pv 0) (Aa (pv 2) Ab))) Ab)))) Ab)) Ab)))),?_⟩
 have a:((Bj c sz).map (·.2)).sum=sz.sum:=by rw[De]
 have y:=Ff O
 rw[a] at y
 refine⟨_,rfl,_,rfl,_,rfl,_,rfl,x,Bj c sz,By c g,n,rfl,O,o,?_⟩
 rw[a,Rt m]
 refine⟨x,c,sz,g,D,n,rfl,O,B,o,m,λW e b I G t v p s _ k=>?_⟩
 have d:∀ j∈b,j<sz.sum:=λj h=>by
  have:=((k j).mp h).lt
  rw[a] at this
  exact this
 have F:=Fi sz.sum s d
 have f:e.map (·.1)=(b.map λj:Nat=>(j:Int)).map Sum.inl:=by rw[p,aE];rfl
 refine⟨W,e,_,rfl,v,f,λl A=>?_⟩
 have r:(b.map λj:Nat=>(j:Int)).map V.int=nV b:=by rw[aE];rfl
 rw[r]
 refine⟨l,b,rfl,Al,by omega,λj h=>by have:=d j h;omega,λz u=>?_⟩
 refine q (Wd.mk b) z ((t.trans (BP A)).trans u) λj=>?_
 rw[Wd.Hr,decide_eq_true_eq]
 exact k j
theorem MP {K:W.Frag} (h:X.K=K):G4 X (compareOp .NotIn) (nA K true):=h ▸ Ob
theorem Vj (l:List Nat):(nV l).all GK=true:=fo.mpr λv a=>by
 obtain⟨n,_,rfl⟩:=ay.mp a
 rfl
theorem Z6 (j:Nat) (a:List Nat):inV (.int (j:Nat)) (nV a)=decide (j∈a):=by
 rw[eI,decide_eq_true_eq]
 unfold inV
 rw[gi]
 constructor
 ·rintro⟨y,c,e⟩
  obtain⟨n,d,rfl⟩:=ay.mp c
  have b:(((n:Nat):Int) == ((j:Nat):Int))=true:=e
  have f:((n:Nat):Int)=(j:Nat):=eq_of_beq b
  have:n=j:=by omega
  subst this
  exact d
 ·intro h
  exact⟨_,List.mem_map_of_mem h,by show (((j:Nat):Int) == ((j:Nat):Int))=true;exact beq_self_eq_true _⟩
theorem u_:Aq uu uu (Ac tX):=Bf
include N T in
theorem o7:Ao P w K mg base Bb 2 aD.fOm aD.dOm uu (PN C):=by
 refine N.FOm.1.DQ u_ λH J Q E d h=>?_
 obtain⟨x,bs,g,k,j,e,wd,i,m,rfl,O,l,a,q⟩:=h
 refine⟨_,(Ag (Ax (Bq (pv 0) T.cl N.FBk.2.2 (Tj N T) (ad d) N.FBk.2.1 .nil Am (Aa (pv 1) Ab)))),?_⟩
 obtain⟨⟨b,fs,u,F,p,r,V,L,s,n,c,S,A,t,o,f,M,U,B,z,D,v,W,I⟩,R,y,G⟩:=id O
 exact⟨_,rfl,x,b,fs,rfl,c,f _ (by decide),_,rfl,x,bs,g,k,j,e,wd,i,m,rfl,O,l,a,q⟩
inductive iM (C:Addr) (vs:List V) (H:Hp) (Q:VK) (b9:XK):Prop
 | mk (x:Addr) (bs:List (Str × Nat)) (rk:List (Str × Nat × Int)) (ks:List R) (ls:List (List Ln:_)) (k j1:Nat) (b1:Str × Nat) (wd nm:Str) (rs:List V) (l:List Ln):vs=[.ref x,.int (k:Nat)]->El C H x bs rk ks ls->ks[k]? = some ⟨wd,nm,.str b1.1::rs⟩->bs[j1]? = some b1->ls[k]? = some l->(∀ (T0 L0:Addr) (ts:List V) H',H L0=none->An H H'->H' T0=some (.tup [.int (j1:Nat),.ref L0])->H' L0=some (.lst ts)->Paired (λx y=>TupAt H' (Yg x) y) l ts->Q (.ref T0) H')->iM C vs H Q b9
theorem uD:Aq uu uu (Ac vC):=Bf
include N T in
theorem jg:Ao P w K mg base Bb 2 aD.fOs aD.dOs uu (iM C):=by
 refine N.FOs.1.DQ uD λH vs Q E r h=>?_
 obtain⟨x,bs,rk,R,ls,k,j,J,wd,W,z,l,rfl,O,v,d,L,q⟩:=h
 refine⟨_,(Ag (Ax (Cq (Aa (Bq (pv 0) T.cl N.FBk.2.2 (Tj N T) (ad r) N.FBk.2.1 .nil Am (Aa (pv 1) Ab)) (Aa (Dg Ej rfl T.list dS (Aa (Az (Bp (K:=K) rfl) (Bc (pv 0) rfl) (pv 1) (λ_ _=>rfl)) Ab)) Ab))))),?_⟩
 obtain⟨⟨p,fs,bl,bn,kp,kr,i3,ll,mi,Z,b,l1,l2,l3,l4,M,h2,h3,h4,h5,h6,h7,h8,h9⟩,sj,qc,rq⟩:=id O.o
 obtain⟨t,D,rl,rn,pp,U,kT,Ee,d0,g,m1,m2,m3,B,g2,g3,g4,g5,g6,g7,n,G,g9⟩:=id O.r
 obtain⟨Y,V⟩:t=p/\D=fs:=by rw[b] at g;cases g;exact⟨rfl,rfl⟩
 subst Y V
 obtain⟨y,u,A,c,rfl,I,S⟩:=CP g9 L
 refine⟨_,rfl,x,_,_,rfl,b,M _ (by decide),_,rfl,x,bs,R,k,j,J,wd,W,z,rfl,O.o,v,d,?_⟩
 refine⟨_,rfl,x,C,_,_,_,rfl,b,T.cl,T.n_knob_lines,B,_,rfl,U,n,_,_,rfl,rfl,kL G,Ah u,A,c,rfl,kL (.inl I),λf a=>?_⟩
 obtain⟨H1,F,i,X⟩:=Em (o:=HO.lst c) a
 rw[F]
 refine⟨by show 2<=sizeLine;decide,λs m=>?_⟩
 have e:=BP (o:=HO.tup [.int (j:Nat),.ref f]) m
 exact q s f c _ a (i.trans e) Al (e _ _ X) (Ar (i.trans e) S)
inductive jP (C:Addr) (vs:List V) (H:Hp) (Q:VK) (b9:XK):Prop
 | mk (x:Addr) (bs:List (Str × Nat)) (rk:List (Str × Nat × Int)) (ks:List R) (ls:List (List Ln:_)):vs=[.ref x]->El C H x bs rk ks ls->(∀ D kT H',H D=none->An H H'->H' D=some (.lst kT)->Paired (λ(a:Th) y=>TupAt H' (tV a) y) (rk.map Xd) kT->Q (.ref D) H')->jP C vs H Q b9
theorem yj:Aq sN sN (Ac yt):=Bf
include N T in
theorem lX:Ao P w K mg base Bb 1 aD.fOr aD.dOr sN (jP C):=by
 refine N.FOr.1.DQ yj λH vs Q E R h=>?_
 obtain⟨x,bs,rk,ks,ls,rfl,O,q⟩:=h
 refine⟨_,(Ag (Ax (Dg Ej rfl T.list dS (Aa (Bc (pv 0) rfl) Ab)))),?_⟩
 obtain⟨⟨f,fs,I,bn,u,y,i3,ll,B,o,b,l1,U,G,s,Z,h2,h3,V,S,X,J,h8,h9⟩,sj,L,rq⟩:=id O.o
 obtain⟨j,e,i,Y,M,kl,c,Ee,d0,d,g,m2,t,v,p,n,W,D,F,g7,z,A,r⟩:=id O.r
 obtain⟨m,k⟩:j=f/\e=fs:=by rw[b] at d;cases d;exact⟨rfl,rfl⟩
 subst m k
 exact⟨_,rfl,x,C,_,_,_,rfl,b,T.cl,T.n_rank_list,g,i,c,rfl,kL (.inl p),λl a=>q l c _ a (BP a) Al (Ar (BP a) n)⟩
inductive dX (C:Addr) (vs:List V) (H:Hp) (Q:VK) (b9:XK):Prop
 | mk (x:Addr) (bs:List (Str × Nat)) (rk:List (Str × Nat × Int)) (ks:List R) (ls:List (List Ln:_)):vs=[.ref x]->El C H x bs rk ks ls->Q (.int ((FQ (rk.map eE)).length:Nat)) H->dX C vs H Q b9
theorem vX:Aq sN sN (Ac vW):=Bf
include N T in
theorem qU:Ao P w K mg base Bb 1 aD.fOq aD.dOq sN (dX C):=by
 refine N.FOq.1.DQ vX λH vs Q E G h=>?_
 obtain⟨x,bs,rk,ks,ls,rfl,O,q⟩:=h
 refine⟨_,(Ag (Ax (BJ BL rfl T.len aS (Aa (Bc (pv 0) rfl) Ab)))),?_⟩
 obtain⟨⟨e,fs,B,Y,r,t,i3,ll,y,m,a,l1,M,A,p,X,h2,h3,R,L,V,D,h8,h9⟩,sj,F,Z⟩:=id O.o
 obtain⟨i,d,S,W,g,kl,J,k,d0,b,I,m2,c,s,g2,g3,U,z,f,n,u,v,o⟩:=id O.r
 obtain⟨l,j⟩:i=e/\d=fs:=by rw[a] at b;cases b;exact⟨rfl,rfl⟩
 subst l j
 refine⟨_,rfl,x,C,_,_,_,rfl,a,T.cl,T.n_pipe_places,c,g,k,rfl,kL (.inl f),?_⟩
 rw[<-n.length]
 exact q
inductive dj (C:Addr) (vs:List V) (H:Hp) (Q:VK) (b9:XK):Prop
 | mk (x:Addr) (bs:List (Str × Nat)) (rk:List (Str × Nat × Int)) (ks:List R) (ls:List (List Ln:_)) (j:Nat) (r:Str × Nat × Int) (n:Int):vs=[.ref x,.str r.1,.int n]->El C H x bs rk ks ls->rk[j]? = some r->(∀ H',An H H'->Q (.int ((((rk.take j).map (λr=>r.2.1)).sum:Nat)+n)) H')->dj C vs H Q b9
theorem wQ:Aq AN AN (Ac uI):=Bf
include N T in
theorem qG:Ao P w K mg base Bb 2 aD.fOe aD.dOe AN (dj C):=by
 refine N.FOe.1.DQ wQ λH vs Q E m h=>?_
 obtain⟨x,bs,rk,ks,ls,j,r,n,rfl,O,t,q⟩:=h
 have F:=CN m
 refine⟨_,(Ag (Ax (BZ CW (zC (bD N T) m rfl N.FCa (Aa (Ek Ja (Bc (pv 0) rfl) GP (Eu (GJ F (Bc (pv 0) rfl) (pv 1) (λ_ _=>rfl)))) Ab)) (pv 2)))),?_⟩
 obtain⟨⟨u,fs,bl,bn,kp,kr,i3,ll,mi,X,d,l1,l2,l3,l4,lm,h2,h3,h4,h5,h6,h7,h8,h9⟩,sj,qc,rq⟩:=id O.o
 obtain⟨z,I,M,S,pp,kl,b,Ee,d0,p,L,B,Z,m4,Y,s,A,y,g6,g7,lv,g8,g9⟩:=id O.r
 obtain⟨W,V⟩:z=u/\I=fs:=by rw[d] at p;cases p;exact⟨rfl,rfl⟩
 subst W V
 have hj:j<rk.length:=(ag.mp t).1
 have R:=s.length
 rw[af] at R
 have g:=Ex.k (k:=Sum.inr r.1) A
 rw[y j r t] at g
 refine⟨_,rfl,x,C,_,_,_,rfl,d,T.cl,T.n_rank_list,L,_,rfl,x,C,_,_,_,rfl,d,T.cl,T.n_rank_numbers,B,_,rfl,S,_,rfl,g,_,rfl,M,b,rfl,kL Y,λc l=>?_⟩
 have e:=BP (o:=HO.lst (En b none (some (j:Int)))) l
 have f:upd H c (HO.lst (En b none (some (j:Int)))) c=_:=Al
 generalize upd H c (HO.lst (En b none (some (j:Int))))=H6 at e f |-
 rw[Jp b j (by omega)] at f
 refine⟨c,(rk.map Xd).take j,b.take j,rfl,f,KJ (Ar e s) j,(by rw[cm,af];have:=O.nr;omega),(λa U=>by obtain⟨J,i,rfl⟩:=ay.mp (gy U);exact be (O.nz J i) (by decide)),λD v=>?_⟩
 have G:(((rk.map Xd).take j).map λa=>a.2.1)=(rk.take j).map (λr=>r.2.1):=by
  rw[<-ij,aE]
  rfl
 rw[G]
 exact⟨_,rfl,_,_,rfl,rfl,q D (e.trans v)⟩
def Pr (l:List Nat):Nat:=l.foldl (· ||| ·) 0
theorem QQ (l:List Nat) (n:Nat):Pr (l++[n])=Pr l ||| n:=by
 unfold Pr
 rw[kz]
 rfl
theorem Td:∀ (l:List Nat) (i:Nat),(Pr l).testBit i=true ↔ ∃ n∈l,n.testBit i=true:=by
 have f:∀ (k:Nat) (l:List Nat) (i:Nat),l.length=k->((Pr l).testBit i=true ↔ ∃ n∈l,n.testBit i=true):=by
  intro k
  induction k with
  | zero =>
   intro l i h
   cases l with
   | nil=>exact⟨λz=>absurd z (by unfold Pr;rw[List.foldl_nil,Nat.zero_testBit];decide),λ⟨n,d,_⟩=>nomatch d⟩
   | cons a b=>cases h
  | succ k g =>
   intro l i h
   obtain⟨a,z,rfl⟩:=FJ (l:=l) (by intro e;rw[e] at h;cases h)
   rw[al,ax] at h
   rw[QQ,Wv,g a i (by omega)]
   constructor
   ·rintro (⟨n,d,c⟩ | c)
    ·exact⟨n,dn _ d,c⟩
    ·exact⟨z,by simp,c⟩
   ·rintro⟨n,d,c⟩
    rcases bX.mp d with h | h
    ·exact .inl ⟨n,h,c⟩
    ·rw[av.mp h] at c
     exact .inr c
 exact λl i=>f l.length l i rfl
inductive XF (vs:List V) (H:Hp) (Q:VK) (b9:XK):Prop
 | mk (p:Addr) (l:List Nat):vs=[.ref p]->H p=some (.lst (nV l))->l.length<=500->Q (.int (Pr l:Nat)) H->XF vs H Q b9
theorem Yw:Aq ["sets","some","each"] ["sets"] (Ac xq):=Bf
include N T in
theorem Vu:Ao P w K mg base Bb 1 aD.fUn aD.dUn ["sets"] XF:=by
 refine N.FUn.1.DQ Yw λH k Q E o h=>?_
 obtain⟨p,l,rfl,f,m,q⟩:=h
 refine⟨_,(Af (Bh (i:=1) Yw.nd rfl (Or.inl rfl) Ae)
  (Af (Eh PassesOwn.never rfl (Bt (pv 0)) (Ck (i:=2) Yw.nd rfl (Or.inl rfl)) (Ag (Bh (i:=1) Yw.nd rfl (Or.inl rfl) (BZ Mi (pv 1) (pv 2)))))
  (Ag (Ax (pv 1))))),?_⟩
 have d:Dc K H p (nV l):=.inl (.inl f)
 refine⟨_,rfl,p,rfl,⟨_,d⟩,Jk (K:=K) (a:=p) (xs:=nV l) (λi σ b=>b=H/\∃ c,σ=[some (.ref p),some (.int (Pr (l.take i):Nat)),c]) ⟨rfl,_,rfl⟩ (λi σ b _ h=>by rw[h.1];exact d) ?_ ?_⟩
 ·rintro i y σ b e ⟨rfl,c,rfl⟩
  rw[am] at e
  obtain⟨n,j,rfl⟩:=aT.mp e
  refine⟨_,rfl,_,rfl,_,_,rfl,rfl,?_⟩
  refine⟨rfl,some (.int (n:Int)),?_⟩
  try dsimp only
  rw[Ih,cy,j]
  show _=[some (V.ref p),some (V.int ((Pr (l.take i++[n]):Nat):Int)),_]
  rw[QQ]
  rfl
 ·rintro σ b ⟨rfl,c,rfl⟩
  have g:l.take (nV l).length=l:=List.take_of_length_le (by simp)
  rw[g]
  exact⟨_,rfl,q⟩
def JM (kbs:List Kb) (k:Nat):Nat:=match kbs[k]? with
 | some (.pl _ b)=>b
 | some (.cp b _ _)=>b
 | none=>0
theorem Rp {c:Nat->Str} {k:Nat} (h:(By c kbs)[k]? = some r):∃ rs,r=⟨r.w,r.nm,.str (c (JM kbs k))::rs⟩:=by
 obtain⟨z,a,rfl⟩:=Gq h
 unfold JM
 rw[a]
 cases z with
 | cp i j s=>exact⟨_,rfl⟩
 | pl w i=>exact⟨_,rfl⟩
theorem Vb {k:Nat} {z:Kb} (h:Ri n kbs) (b:kbs[k]? = some z):JM kbs k<n:=by
 have a:=h.ok z (ai b)
 unfold JM
 rw[b]
 cases z with
 | cp i j s=>exact a.1
 | pl w i=>exact a.1
inductive Rr (kbs:List Kb) (D b:Nat):Prop
 | mk (k:Nat) (z:Kb):kbs[k]? = some z->z.w = "mute"->D.testBit k=true->JM kbs k=b->Rr kbs D b
inductive iz (C:Addr) (vs:List V) (H:Hp) (Q:VK) (b9:XK):Prop
 | mk (x:Addr) (c:Nat->Str) (sz:List Nat) (kbs:List Kb) (D:Nat):vs=[.ref x,.int (D:Nat)]->Du C H x (Bj c sz) (By c kbs)->Ri sz.length kbs->(∀ L (ml:List Nat) H',H L=none->An H H'->H' L=some (.lst (nV ml))->(∀ b,b∈ml ↔ Rr kbs D b)->ml.length<=200->Q (.ref L) H')->iz C vs H Q b9
theorem wj:Aq A5 A5 (Ac rD):=Bf
include N T in
theorem pO:Ao P w K mg base Bb 3 aD.fMu aD.dMu A5 (iz C):=by
 refine N.FMu.1.DQ wj λH vs Q E d h=>?_
 obtain⟨x,c,sz,a,D,rfl,O,oI,q⟩:=h
 refine⟨_,(Ag (Ax (Br rfl (Be (osc:=Ac rD) (N:=A5) rfl rfl (by decide)) (Bt (zC (Vw N T) d rfl N.FDc (Aa (pv 0) (Aa (pv 1) (Aa BW Ab))))) (λ_ _ _ _=>Cv) (λ_ _ _ _=>(Bq (pv 1) T.cl N.FOm.2.2 (o7 N T) (ad d) N.FOm.2.1 .nil Am (Aa (pv 0) Ab)))))),?_⟩
 refine⟨_,rfl,_,rfl,x,Bj c sz,By c a,"mute",D,rfl,O,λB o H1 Xt u s f I=>?_⟩
 have j:Dc K H1 B (nV o):=.inl (.inl s)
 have G:=O.mono u
 let g:V->V:=λv=>match v with | .int k=>.int (JM a k.toNat:Nat) | _=>.non
 refine⟨B,rfl,⟨_,j⟩,Cz (K:=K) (xs:=nV o) (λ_=>true) g j (BK (by rw[af];omega)) (λy F m t R k=>k m (An.refl m)) (λy F _ m t R k=>?_) (λL U S s2 A=>?_)⟩
 ·obtain⟨i,W,rfl⟩:=ay.mp F
  obtain⟨r,d,p,n⟩:=(f i).mp W
  obtain⟨rs,er⟩:=Rp d
  rw[er] at d
  obtain⟨z,l,_⟩:=Gq d
  have Z:=Vb oI l
  obtain⟨⟨J,fs,bl,bn,kp,kr,i3,ll,mi,ab,M,l1,l2,l3,l4,Y,_⟩,_⟩:=id (G.mono t)
  have X:=k m (An.refl m)
  refine⟨_,rfl,x,J,fs,rfl,M,Y _ (by decide),_,rfl,x,Bj c sz,By c a,i,JM a i,(c (JM a i),sz[JM a i]),_,_,rs,rfl,G.mono t,d,Fx (ae Z),X⟩
 ·rw[ba.mpr (λ_ _=>rfl)] at A
  have e:(nV o).map g=nV (o.map (JM a)):=by
   unfold nV
   rw[aE,aE]
   rfl
  rw[e] at A
  refine q L _ U (u.free S) (u.trans s2) A (λb=>?_) (by rw[af];exact I)
  rw[ay]
  constructor
  ·rintro⟨k,hk,rfl⟩
   obtain⟨r,d,p,n⟩:=(f k).mp hk
   obtain⟨z,l,rfl⟩:=Gq d
   exact⟨k,z,l,(J0 _ _ _).symm.trans p,n,rfl⟩
  ·rintro⟨k,z,l,p,n,rfl⟩
   exact⟨k,(f k).mpr ⟨_,Fq l,(J0 _ _ _).trans p,n⟩,rfl⟩
inductive jV (sz:List Nat) (i b:Nat):Prop
 | mk (n:_):n<sz.getD b 0->b<sz.length->i=(sz.take b).sum+n->jV sz i b
theorem Vq {c:Nat->Str} {sz:List Nat} {a:Nat} (h:(FQ (Bj c sz))[i]? = some (a,n)):jV sz i a:=by
 obtain⟨b,f,g,d⟩:=Rk h
 obtain⟨z,e,rfl⟩:=Uh f
 rw[De] at d
 refine⟨n,?_,(ag.mp e).1,d⟩
 rw[cc,e]
 exact g
theorem Wq {sz:List Nat} {a b:Nat} (g:jV sz i a) (l:jV sz i b):a=b:=by
 obtain⟨n,f,d,rfl⟩:=g
 obtain⟨m,o,j,e⟩:=l
 have c:∀ {a b n m:Nat},a<b->b<sz.length->n<sz.getD a 0->(sz.take a).sum+n ≠ (sz.take b).sum+m:=λ{a b n m} k j f e=>by
  have g:(sz.take (a+1)).sum<=(sz.take b).sum:=Nt sz (by omega)
  have d:a<sz.length:=by omega
  rw[cy,ae d,fz] at g
  rw[cc,ae d] at f
  have p:n<sz[a]:=f
  simp at g
  omega
 rcases Nat.lt_trichotomy a b with h | h | h
 ·exact absurd e (c h j f)
 ·exact h
 ·exact absurd e.symm (c h d o)
inductive dF (C:Addr) (vs:List V) (H:Hp) (Q:VK) (b9:XK):Prop
 | mk (x:Addr) (c:Nat->Str) (sz:List Nat) (kbs:List Kb) (D n:Nat):vs=[.ref x,.int (D:Nat),.int (n:Nat)]->Du C H x (Bj c sz) (By c kbs)->Ri sz.length kbs->n<2 ^ 1200->(∀ i,n.testBit i=true->i<sz.sum)->sz.sum<=305->(∀ (m:Nat) H',An H H'->(∀ j,m.testBit j=true ↔ n.testBit j=true/\∀ b,jV sz j b->¬ Rr kbs D b)->Q (.int (m:Nat)) H')->dF C vs H Q b9
theorem my:Aq ["organ","knobs","keys","muted"] vt (Ac rA):=Bf
include N T in
theorem p_:Ao P w K mg base Bb 4 aD.fUk aD.dUk vt (dF C):=by
 refine N.FUk.1.DQ my λH vs Q E F h=>?_
 obtain⟨x,c,sz,A,D,n,rfl,O,oI,hn,S,k8,q⟩:=h
 refine⟨_,(Af (Bh (i:=3) my.nd rfl (Or.inr rfl) (zC (pO N T) F rfl N.FMu (Aa (pv 0) (Aa (pv 1) Ab))))
  (Ag (Ax (zC (NB N T) F rfl N.FSt (Aa (Br rfl (Be (osc:=Ac rA) (N:=["organ","knobs","keys","muted"]) rfl rfl (by decide)) (Bt (zC (QB N T) F rfl N.FMe (Aa (pv 2) Ab))) (λ_ _ _ _=>(GC (BR (MP (K:=K) rfl) (Az (Av (K:=K) rfl) (Bq (pv 1) T.cl N.FOo.2.2 (Wr N T) (ad F) N.FOo.2.1 .nil Am (Aa (pv 0) Ab)) Ae (λ_ _=>rfl)) (pv 4) rfl))) (λ_ _ _ _=>(pv 0))) Ab))))),?_⟩
 refine⟨_,rfl,_,rfl,x,c,sz,A,D,rfl,O,oI,λML f H1 I0 s1 I Y ab=>?_⟩
 refine⟨_,rfl,n,rfl,hn,λX H2 E8 M k7=>?_⟩
 have u:Dc K H2 X (nV (Wd.mem n)):=.inl (.inl k7)
 have O2:=O.mono (s1.trans M)
 have Z:=Wd.LK hn
 have ac:(Wd.mem n).length<=305:=by
  have nd:(Wd.mem n).Nodup:=by unfold Wd.mem;exact List.Pairwise.filter _ List.nodup_range
  refine be (Fi sz.sum nd λi g=>S i (Wd.mem_iff.mp g)) k8
 have e:∀ {i},i∈Wd.mem n->∃ a m,(FQ (Bj c sz))[i]? = some (a,m):=λ{i} g=>by
  have U:i<(FQ (Bj c sz)).length:=by rw[Et,De];exact S i (Wd.mem_iff.mp g)
  exact⟨_,_,ae U⟩
 let p:V->Bool:=λv=>match v with | .int i=>(match (FQ (Bj c sz))[i.toNat]? with | some (a,_)=>!decide (a∈f) | none=>true) | _=>true
 refine⟨X,rfl,⟨_,u⟩,Cz (K:=K) (xs:=nV (Wd.mem n)) p id u (BK (by rw[af];omega)) (λy hy t B R k=>?_) (λy hy _ t B R k=>⟨_,rfl,k t (An.refl t)⟩) (λD3 H3 Cf s3 G=>?_)⟩
 ·obtain⟨i,g,rfl⟩:=ay.mp hy
  obtain⟨a,m,d⟩:=e g
  have s:p (V.int (i:Nat)) = !decide (a∈f):=by
   show (match (FQ (Bj c sz))[((i:Nat):Int).toNat]? with | some (a,_)=>!decide (a∈f) | none=>true)=_
   rw[bp,d]
  have kk:=k t (An.refl t)
  rw[s] at kk
  obtain⟨⟨dx,fs,bl,bn,kp,kr,i3,ll,mi,an,l,l1,l2,l3,l4,lm,_⟩,_⟩:=id (O2.mono B)
  refine⟨_,rfl,x,dx,fs,rfl,l,lm _ (by decide),_,rfl,x,Bj c sz,By c A,i,(a,m),rfl,O2.mono B,d,λyv J=>?_⟩
  obtain⟨T0,rfl,hT⟩:=J
  refine⟨T0,_,_,_,rfl,rfl,kL hT,Ah (j:=0) rfl,_,rfl,ML,_,rfl,.inl (kL (B _ _ (M _ _ I))),rfl,Vj f,_,rfl,?_⟩
  have W:inV (V.int (a:Nat)) (nV f)=decide (a∈f):=Z6 a f
  rw[W]
  exact kk
 ·rw[ic] at G
  have e3:(nV (Wd.mem n)).filter p=nV ((Wd.mem n).filter λi=>p (.int (i:Nat))):=by
   unfold nV
   rw[eR]
   rfl
  rw[e3] at G
  have o:∀ i∈(Wd.mem n).filter (λi=>p (.int (i:Nat))),i<sz.sum:=λi g=>S i (Wd.mem_iff.mp (bg.mp g).1)
  refine⟨D3,_,rfl,G,be (bt _ _) (by omega),λi g=>by have:=o i g;omega,λH4 s4=>?_⟩
  refine q _ H4 (s1.trans (M.trans (s3.trans s4))) λj=>?_
  rw[Wd.Hr,decide_eq_true_eq,bg,Wd.mem_iff]
  constructor
  ·rintro⟨l,r⟩
   refine⟨l,λb hb hm=>?_⟩
   obtain⟨a,m,d⟩:=e (Wd.mem_iff.mpr l)
   have s:p (V.int (j:Nat)) = !decide (a∈f):=by
    show (match (FQ (Bj c sz))[((j:Nat):Int).toNat]? with | some (a,_)=>!decide (a∈f) | none=>true)=_
    rw[bp,d]
   rw[s] at r
   have L:=Wq hb (Vq d)
   subst L
   rw[decide_eq_true ((Y b).mpr hm)] at r
   cases r
  ·rintro⟨l,r⟩
   refine⟨l,?_⟩
   obtain⟨a,m,d⟩:=e (Wd.mem_iff.mpr l)
   have s:p (V.int (j:Nat)) = !decide (a∈f):=by
    show (match (FQ (Bj c sz))[((j:Nat):Int).toNat]? with | some (a,_)=>!decide (a∈f) | none=>true)=_
    rw[bp,d]
   rw[s,decide_eq_false λz=>r a (Vq d) ((Y a).mp z)]
   rfl
def Qv (c:Nat->Str) (sz:List Nat) (kbs:List Kb) (D n j:Nat):Prop:=Ot (stp (Bj c sz) kbs D) (λi=>n.testBit i=true) j \/ (n.testBit j=true/\∀ b,jV sz j b->¬ Rr kbs D b)
inductive iW (C:Addr) (vs:List V) (H:Hp) (Q:VK) (b9:XK):Prop
 | mk (x:Addr) (c:Nat->Str) (sz:List Nat) (kbs:List Kb) (D n:Nat):vs=[.ref x,.int (D:Nat),.int (n:Nat)]->Du C H x (Bj c sz) (By c kbs)->Ri sz.length kbs->n<2 ^ 1200->(∀ i,n.testBit i=true->i<sz.sum)->(∀ (m:Nat) H',An H H'->(∀ j,m.testBit j=true ↔ Qv c sz kbs D n j)->Q (.int (m:Nat)) H')->iW C vs H Q b9
theorem uv:Aq sP sP (Ac zF):=Bf
include N T in
theorem nu:Ao P w K mg base Bb 6 aD.fSk aD.dSk sP (iW C):=by
 refine N.FSk.1.DQ uv λH t Q E f h=>?_
 obtain⟨x,c,sz,b,D,n,rfl,O,k,e,g,q⟩:=h
 refine⟨_,(Ag (Ax (BZ Mi (zC (jr N T) f rfl N.FCq (Aa (pv 0) (Aa (pv 1) (Aa (pv 2) Ab)))) (zC (p_ N T) f rfl N.FUk (Aa (pv 0) (Aa (pv 1) (Aa (zC (bU N T) f rfl N.FHk (Aa (pv 0) (Aa (pv 2) Ab))) Ab))))))),?_⟩
 have a:((Bj c sz).map (·.2)).sum=sz.sum:=by rw[De]
 have o:=Ff O
 rw[a] at o
 refine⟨_,rfl,_,rfl,_,rfl,x,c,sz,b,D,n,rfl,O,k,e,g,λm u d p=>?_⟩
 refine⟨_,rfl,_,rfl,_,rfl,_,rfl,x,Bj c sz,By c b,n,rfl,O.mono d,e,?_⟩
 rw[a,Rt g]
 refine⟨x,c,sz,b,D,n,rfl,O.mono d,k,e,g,o,λi l r s=>?_⟩
 refine⟨_,_,rfl,rfl,?_⟩
 show Q (.int (Builtin.bitOr (m:Int) (i:Int))) l
 rw[Ih]
 refine q (m ||| i) l (d.trans r) λj=>?_
 rw[Wv,p,s]
 rfl
def Z5 (sz:List Nat) (b n:Nat):Nat:=Wd.mv n (-((sz.take b).sum:Int)) (sz.getD b 0)
theorem Xl (n:Nat) (k:Int) (c:Nat):Wd.mv n k c<2 ^ c:=by
 unfold Wd.mv
 exact Nat.mod_lt _ (Nat.two_pow_pos _)
inductive gq (C:Addr) (vs:List V) (H:Hp) (Q:VK) (b9:XK):Prop
 | mk (x:Addr) (c:Nat->Str) (sz:List Nat) (ks:List R) (b n:Nat):vs=[.ref x,.int (b:Nat),.int (n:Nat)]->Du C H x (Bj c sz) ks->b<sz.length->n<2 ^ 1200->(∀ H',An H H'->Q (.int (Z5 sz b n:Nat)) H')->gq C vs H Q b9
theorem pQ:Aq ["organ","board","keys","told"] DZ (Ac xU):=Bf
include N T in
theorem mJ:Ao P w K mg base Bb 3 aD.fNb aD.dNb DZ (gq C):=by
 refine N.FNb.1.DQ pQ λH vs Q E k h=>?_
 obtain⟨x,c,sz,o,b,n,rfl,O,y,L,q⟩:=h
 refine⟨_,(Af (Bh (i:=3) pQ.nd rfl (Or.inl rfl) (Az (Bp (K:=K) rfl) (Bg (pv 0) T.cl N.FOb.2.2 (Sg N T) (ad k) N.FOb.2.1 .nil Am) (pv 1) (λ_ _=>rfl)))
  (Ag (Ax (zC (W0 N T) k rfl N.FSh (Aa (pv 2) (Aa (KR Nk (Bq (pv 0) T.cl N.FOk.2.2 (Wt N T) (ad k) N.FOk.2.1 .nil Am (Aa (Az (Av (K:=K) rfl) (pv 3) Ae (λ_ _=>rfl)) (Aa Ae Ab)))) (Aa (Az (Av (K:=K) rfl) (pv 3) Ae (λ_ _=>rfl)) Ab))))))),?_⟩
 have V:=Ff O
 rw[De] at V
 have J:(sz.take b).sum<=sz.sum:=by
  have:=congrArg List.sum (gu b sz)
  rw[fz] at this
  omega
 have e:(Bj c sz)[b]? = some (c b,sz[b]):=Fx (ae y)
 have p:=O.sz (c b,sz[b]) (ai e)
 have v:sz[b]<=61:=p
 have a:(((Bj c sz).take b).map (·.2)).sum=(sz.take b).sum:=by rw[ij,De]
 have g:sz.getD b 0=sz[b]:=by rw[cc,ae y];rfl
 have d:∀ {z:Hp},Du C z x (Bj c sz) o->∃ f fs,z x=some (.ins C f fs)/\∀ m∈meths,fs.lookup m=none:=λW=>by
  obtain⟨⟨f,fs,_,_,_,_,_,_,_,_,I,_,_,_,_,l,_⟩,_⟩:=W
  exact⟨f,fs,I,l⟩
 obtain⟨f,fs,B,l⟩:=d O
 refine⟨_,rfl,x,f,fs,rfl,B,l _ (by decide),x,Bj c sz,o,rfl,O,λD X Z hD r R t=>?_⟩
 obtain⟨Y,G,T3,rfl,u⟩:=CP t e
 refine⟨_,rfl,D,X,_,_,rfl,rfl,kL R,Ah G,?_⟩
 obtain⟨U,s,S,F⟩:=d (O.mono r)
 refine⟨_,rfl,_,rfl,x,U,s,rfl,S,F _ (by decide),_,rfl,T3,_,_,_,rfl,rfl,kL u,Ah (j:=0) rfl,x,Bj c sz,o,b,(c b,sz[b]),0,rfl,O.mono r,e,λM A=>?_⟩
 refine⟨_,rfl,_,rfl,T3,_,_,_,rfl,rfl,kL (A _ _ u),Ah (j:=1) rfl,n,_,sz[b],rfl,L,?_,?_,by omega,?_⟩
 ·rw[a]
  omega
 ·rw[a]
  omega
 ·have fin:=q M (r.trans A)
  unfold Z5 at fin
  rw[g] at fin
  rw[a,Int.add_zero]
  exact fin
def gO (rk:List (Str × Nat × Int)) (r:Nat):Nat:=((rk.take r).map (λr=>r.2.1)).sum
def Qo (rk:List (Str × Nat × Int)) (r:Nat):Nat:=(rk.map (λr=>r.2.1)).getD r 0
def Yc (rk:List (Str × Nat × Int)):Nat:=(rk.map (λr=>r.2.1)).sum
structure jU (rk:List (Str × Nat × Int)) (l:Ln):Prop where
 r:l.r<rk.length
 lo:0<=l.lo
 le:l.lo<=l.hi
 hi:l.hi<=60
 s1 : -200<=l.sh
 s2:l.sh<=200
def Oo (rk:List (Str × Nat × Int)) (l:Ln) (n:Nat):Nat:=Wd.mv (Wd.mv (Wd.mv n (-l.lo) (l.hi - l.lo+1).toNat) (l.lo+l.sh) (Qo rk l.r)) (gO rk l.r:Nat) (Yc rk)
theorem Q6 {rk:List (Str × Nat × Int)} {r:Nat} (h:r<rk.length):gO rk r+Qo rk r<=Yc rk:=by
 unfold gO Qo Yc
 have e:((rk.map (λr=>r.2.1)).take (r+1)).sum=((rk.take r).map (λr=>r.2.1)).sum+(rk.map (λr=>r.2.1)).getD r 0:=by
  rw[cy,ae (by rw[af];exact h),fz,ij,cc,ae (by rw[af];exact h)]
  simp
 have:=congrArg List.sum (gu (r+1) (rk.map (λr=>r.2.1)))
 rw[fz] at this
 omega
theorem eX {rk:List (Str × Nat × Int)} (f:rk.length<=12) (c:∀ r∈rk,r.2.1<=97):Yc rk<=1164:=by
 have h:=N_ (rk.map eE) 97 λb d=>by
  obtain⟨r,a,rfl⟩:=ay.mp d
  exact c r a
 rw[Et,aE,af] at h
 have:rk.length * 97<=12 * 97:=ke _ f
 have e:Yc rk=(rk.map ((·.2) ∘ eE)).sum:=rfl
 omega
inductive fG (C:Addr) (vs:List V) (H:Hp) (Q:VK) (b9:XK):Prop
 | mk (x:Addr) (bs:List (Str × Nat)) (rk:List (Str × Nat × Int)) (ks:List R) (ls:List (List Ln:_)) (y:V) (l:Ln) (n:Nat):vs=[.ref x,y,.int (n:Nat)]->El C H x bs rk ks ls->TupAt H (Yg l) y->jU rk l->n<2 ^ 1200->(∀ H',An H H'->Q (.int (Oo rk l n:Nat)) H')->fG C vs H Q b9
theorem Z3:Aq ["organ","line","numbers","rank","from_low","on_rank"] CL (Ac yO):=Bf
include N T in
theorem j8:Ao P w K mg base Bb 3 aD.fLl aD.dLl CL (fG C):=by
 refine N.FLl.1.DQ Z3 λH vs Q E c h=>?_
 obtain⟨x,bs,rk,t,u,y,l,n,rfl,O,hy,b,hn,q⟩:=h
 refine⟨_,(Af (Bh (i:=3) Z3.nd rfl (Or.inl rfl) (Az (Bp (K:=K) rfl) (Bg (pv 0) T.cl N.FOr.2.2 (lX N T) (ad c) N.FOr.2.1 .nil Am) (Az (Av (K:=K) rfl) (pv 1) Ae (λ_ _=>rfl)) (λ_ _=>rfl)))
  (Af (Bh (i:=4) Z3.nd rfl (Or.inl rfl) (zC (W0 N T) c rfl N.FSh (Aa (pv 2) (Aa (KR Nk (Az (Av (K:=K) rfl) (pv 1) Ae (λ_ _=>rfl))) (Aa (BZ CW (BZ Fw (Az (Av (K:=K) rfl) (pv 1) Ae (λ_ _=>rfl)) (Az (Av (K:=K) rfl) (pv 1) Ae (λ_ _=>rfl))) Ae) Ab)))))
  (Af (Bh (i:=5) Z3.nd rfl (Or.inl rfl) (zC (W0 N T) c rfl N.FSh (Aa (pv 4) (Aa (BZ CW (Az (Av (K:=K) rfl) (pv 1) Ae (λ_ _=>rfl)) (Az (Av (K:=K) rfl) (pv 1) Ae (λ_ _=>rfl))) (Aa (Az (Av (K:=K) rfl) (pv 3) Ae (λ_ _=>rfl)) Ab)))))
  (Ag (Ax (zC (W0 N T) c rfl N.FSh (Aa (pv 5) (Aa (Bq (pv 0) T.cl N.FOe.2.2 (qG N T) (ad c) N.FOe.2.1 .nil Am (Aa (Az (Av (K:=K) rfl) (pv 3) Ae (λ_ _=>rfl)) (Aa Ae Ab))) (Aa (Bg (pv 0) T.cl N.FOq.2.2 (qU N T) (ad c) N.FOq.2.1 .nil Am) Ab))))))))),?_⟩
 obtain⟨d,rfl,hT⟩:=hy
 have an:=eX O.nr O.nz
 have k:l.r<rk.length:=b.r
 have ac:=Q6 k
 have M:=ae k
 have ab:rk[l.r].2.1<=97:=O.nz _ (et b.r)
 have L:Qo rk l.r=rk[l.r].2.1:=by
  unfold Qo
  rw[cc,am,M]
  rfl
 have g:(FQ (rk.map eE)).length=Yc rk:=by
  rw[Et,aE]
  rfl
 have V:=b.lo
 have h2:=b.le
 have h3:=b.hi
 have h4:=b.s1
 have h5:=b.s2
 have a:∀ {Z:Hp},El C Z x bs rk t u->∃ p fs,Z x=some (.ins C p fs)/\∀ m∈meths,fs.lookup m=none:=λO'=>by
  obtain⟨⟨p,fs,_,_,_,_,_,_,_,_,V,_,_,_,_,R,_⟩,_⟩:=O'.o
  exact⟨p,fs,V,R⟩
 obtain⟨p,fs,hx,R⟩:=a O
 refine⟨_,rfl,x,p,fs,rfl,hx,R _ (by decide),x,bs,rk,t,u,rfl,O,λD kT H2 hD f k7 S=>?_⟩
 have e:=f _ _ hT
 have o:(rk.map Xd)[l.r]? = some (Xd rk[l.r]):=by rw[am,M];rfl
 obtain⟨v3,Gc,T3,rfl,W⟩:=CP S o
 refine⟨_,rfl,d,_,_,_,rfl,rfl,kL e,Ah (j:=0) rfl,D,kT,_,_,rfl,rfl,kL k7,Ah Gc,?_⟩
 have e1:l.hi - l.lo+1=(((l.hi - l.lo+1).toNat:Nat):Int):=by omega
 refine⟨_,rfl,_,rfl,d,_,_,_,rfl,rfl,kL e,Ah (j:=2) rfl,_,rfl,_,rfl,d,_,_,_,rfl,rfl,kL e,Ah (j:=3) rfl,_,rfl,d,_,_,_,rfl,rfl,kL e,Ah (j:=2) rfl,_,_,rfl,rfl,_,_,rfl,rfl,n,-l.lo,(l.hi - l.lo+1).toNat,(by rw[<-e1] <;> rfl),hn,by omega,by omega,by omega,?_⟩
 have U:=Xl n (-l.lo) (l.hi - l.lo+1).toNat
 generalize I:Wd.mv n (-l.lo) (l.hi - l.lo+1).toNat=s at U |-
 have A:s<2 ^ 1200:=bi U (kg (by decide) (by omega))
 refine⟨_,rfl,_,rfl,d,_,_,_,rfl,rfl,kL e,Ah (j:=2) rfl,_,rfl,d,_,_,_,rfl,rfl,kL e,Ah (j:=1) rfl,_,_,rfl,rfl,_,rfl,T3,_,_,_,rfl,rfl,kL W,Ah (j:=1) rfl,s,l.lo+l.sh,rk[l.r].2.1,rfl,A,by omega,by omega,by omega,?_⟩
 have Y:=Xl s (l.lo+l.sh) rk[l.r].2.1
 generalize G:Wd.mv s (l.lo+l.sh) rk[l.r].2.1=X at Y |-
 have F:X<2 ^ 1200:=bi Y (kg (by decide) (by omega))
 obtain⟨Fh,J,qA,rL⟩:=a (O.mono f)
 refine⟨_,rfl,_,rfl,x,Fh,J,rfl,qA,rL _ (by decide),_,rfl,T3,_,_,_,rfl,rfl,kL W,Ah (j:=0) rfl,x,bs,rk,t,u,l.r,rk[l.r],0,rfl,O.mono f,M,λH3 B=>?_⟩
 obtain⟨v,OI,z,MV⟩:=a ((O.mono f).mono B)
 refine⟨_,rfl,x,v,OI,rfl,z,MV _ (by decide),x,bs,rk,t,u,rfl,(O.mono f).mono B,X,_,(FQ (rk.map eE)).length,rfl,F,?_,?_,?_,?_⟩
 ·omega
 ·have:((rk.take l.r).map (λr=>r.2.1)).sum=gO rk l.r:=rfl
  omega
 ·omega
 ·have fin:=q H3 (f.trans B)
  unfold Oo at fin
  rw[I,L,G] at fin
  rw[g,Int.add_zero]
  exact fin
def qz (H:Hp):V->Ln
 | .ref T=>match H T with
  | some (.tup [.int r,.int sh,.int lo,.int hi])=>⟨r.toNat,sh,lo,hi⟩
  | _=>⟨0,0,0,0⟩
 | _=>⟨0,0,0,0⟩
theorem V5 {l:Ln} {v:V} (h:TupAt H (Yg l) v):qz H v=l:=by
 obtain⟨T,rfl,e⟩:=h
 show (match H T with | some (.tup [.int r,.int sh,.int lo,.int hi])=>(⟨r.toNat,sh,lo,hi⟩:Ln) | _=>⟨0,0,0,0⟩)=l
 rw[e]
 show (⟨((l.r:Nat):Int).toNat,l.sh,l.lo,l.hi⟩:Ln)=l
 rw[bp]
theorem ZF {l:List Ln} (h:Paired (λx y=>TupAt H (Yg x) y) l vs):vs.map (qz H)=l:=by
 induction h with
 | nil=>rfl
 | cons x y a=>rw[dc,a,V5 x]
def bC (sz:List Nat) (rk:List (Str × Nat × Int)) (b:Nat) (l:List Ln) (n:Nat):Nat:=Pr (l.map λln=>Oo rk ln (Z5 sz b n))
inductive gk (C:Addr) (vs:List V) (H:Hp) (Q:VK) (b9:XK):Prop
 | mk (x:Addr) (c:Nat->Str) (sz:List Nat) (rk:List (Str × Nat × Int)) (kbs:List Kb) (ls:List (List Ln:_)) (k n:Nat) (z:Kb) (l:List Ln):vs=[.ref x,.int (k:Nat),.int (n:Nat)]->El C H x (Bj c sz) rk (By c kbs) ls->Ri sz.length kbs->kbs[k]? = some z->ls[k]? = some l->l.length<=100->(∀ ln∈l,jU rk ln)->n<2 ^ 1200->(∀ H',An H H'->Q (.int (bC sz rk (JM kbs k) l n:Nat)) H')->gk C vs H Q b9
theorem iY:Aq CH EB (Ac qw):=Bf
include N T in
theorem lJ:Ao P w K mg base Bb 4 aD.fBs aD.dBs EB (gk C):=by
 refine N.FBs.1.DQ iY λH vs Q E b h=>?_
 obtain⟨x,c,sz,rk,a,M,k,n,z,l,rfl,O,oI,hz,hl,UX,hg,hn,q⟩:=h
 refine⟨_,(Af (Bh (i:=3) iY.nd rfl (Or.inl rfl) (Bq (pv 0) T.cl N.FOs.2.2 (jg N T) (ad b) N.FOs.2.1 .nil Am (Aa (pv 1) Ab)))
  (Af (Bh (i:=4) iY.nd rfl (Or.inr rfl) (zC (mJ N T) b rfl N.FNb (Aa (pv 0) (Aa (Az (Av (K:=K) rfl) (pv 3) Ae (λ_ _=>rfl)) (Aa (pv 2) Ab)))))
  (Ag (Ax (zC (Vu N T) b rfl N.FUn (Aa (Br rfl (Be (osc:=Ac qw) (N:=CH) rfl rfl (by decide)) (Bt (Az (Av (K:=K) rfl) (pv 3) Ae (λ_ _=>rfl))) (λ_ _ _ _=>Cv) (λ_ _ _ _=>(zC (j8 N T) b rfl N.FLl (Aa (pv 1) (Aa (pv 0) (Aa (pv 5) Ab)))))) Ab)))))),?_⟩
 have b:=Fq (c:=c) hz
 obtain⟨rs,er⟩:=Rp b
 rw[er] at b
 have J:=Vb oI hz
 have p:(Bj c sz)[JM a k]? = some (c (JM a k),sz[JM a k]):=Fx (ae J)
 have g:∀ {d:Hp},El C d x (Bj c sz) rk (By c a) M->∃ f fs,d x=some (.ins C f fs)/\∀ m∈meths,fs.lookup m=none:=λO'=>by
  obtain⟨⟨f,fs,_,_,_,_,_,_,_,_,h1,_,_,_,_,I,_⟩,_⟩:=O'.o
  exact⟨f,fs,h1,I⟩
 obtain⟨f,fs,hx,I⟩:=g O
 refine⟨_,rfl,x,f,fs,rfl,hx,I _ (by decide),_,rfl,x,Bj c sz,rk,By c a,M,k,JM a k,(c (JM a k),sz[JM a k]),_,_,rs,l,rfl,O,b,p,hl,λX W D H1 _ Y U S DT=>?_⟩
 have O1:=O.mono Y
 refine⟨_,rfl,_,rfl,X,_,_,_,rfl,rfl,kL U,Ah (j:=0) rfl,_,rfl,x,c,sz,By c a,JM a k,n,rfl,O1.o,J,hn,λF o=>?_⟩
 have O2:=O1.mono o
 have G:=Xl n (-((sz.take (JM a k)).sum:Int)) (sz.getD (JM a k) 0)
 have ac:sz.getD (JM a k) 0<=61:=by
  rw[cc,ae J]
  exact O.o.sz _ (ai p)
 have s:Z5 sz (JM a k) n<2 ^ 1200:=bi G (kg (by decide) (by omega))
 have L:=o _ _ S
 have A:=Ar o DT
 have ab:=A.length
 have r:Dc K F W D:=.inl (.inl L)
 refine⟨_,rfl,X,_,_,_,rfl,rfl,kL (o _ _ U),Ah (j:=1) rfl,W,rfl,⟨_,r⟩,Cz (K:=K) (xs:=D) (λ_=>true) (λv=>.int (Oo rk (qz F v) (Z5 sz (JM a k) n):Nat)) r (BK (by omega)) (λy Z d B R k=>k d (An.refl d)) (λy Z _ d B R k'=>?_) (λD3 H3 Cf s3 u=>?_)⟩
 ·obtain⟨t,tF,VT⟩:=Dl A Z
  have e:=V5 VT
  rw[e] at k'
  exact⟨_,rfl,_,rfl,_,rfl,x,Bj c sz,rk,By c a,M,y,t,_,rfl,O2.mono B,VT.mono B,hg t tF,s,λH4 s4=>k' H4 s4⟩
 ·rw[ba.mpr (λ_ _=>rfl)] at u
  have e3:(D.map λv=>V.int (Oo rk (qz F v) (Z5 sz (JM a k) n):Nat))=nV (l.map λt=>Oo rk t (Z5 sz (JM a k) n)):=by
   rw[<-ZF A]
   unfold nV
   rw[aE,aE]
   rfl
  rw[e3] at u
  exact⟨D3,_,rfl,u,(by rw[af];omega),q H3 (Y.trans (o.trans s3))⟩
def aa (sz:List Nat) (rk:List (Str × Nat × Int)) (kbs:List Kb) (ls:List (List Ln)) (cl:List Nat) (n:Nat):Nat:=Pr (cl.map λk=>bC sz rk (JM kbs k) (ls.getD k []) n)
abbrev fM (rk:List (Str × Nat × Int)) (ls:List (List Ln)):Prop:=∀ l∈ls,l.length<=100/\∀ ln∈l,jU rk ln
inductive dg (C:Addr) (vs:List V) (H:Hp) (Q:VK) (b9:XK):Prop
 | mk (x:Addr) (c:Nat->Str) (sz:List Nat) (rk:List (Str × Nat × Int)) (kbs:List Kb) (ls:List (List Ln:_)) (D n:Nat):vs=[.ref x,.int (D:Nat),.int (n:Nat)]->El C H x (Bj c sz) rk (By c kbs) ls->Ri sz.length kbs->fM rk ls->n<2 ^ 1200->(∀ (cl:List Nat) H',An H H'->(∀ k,k∈cl ↔ ∃ z,kbs[k]? = some z/\z.w = "stop" /\ D.testBit k=true)->Q (.int (aa sz rk kbs ls cl n:Nat)) H')->dg C vs H Q b9
theorem uc:Aq vt vt (Ac sS):=Bf
include N T in
theorem nj:Ao P w K mg base Bb 5 aD.fBa aD.dBa vt (dg C):=by
 refine N.FBa.1.DQ uc λH vs Q E o h=>?_
 obtain⟨x,c,sz,rk,a,b,D,n,rfl,O,oI,W,hn,q⟩:=h
 refine⟨_,(Ag (Ax (zC (Vu N T) o rfl N.FUn (Aa (Br rfl (Be (osc:=Ac sS) (N:=vt) rfl rfl (by decide)) (Bt (zC (Vw N T) o rfl N.FDc (Aa (pv 0) (Aa (pv 1) (Aa BW Ab))))) (λ_ _ _ _=>Cv) (λ_ _ _ _=>(zC (lJ N T) o rfl N.FBs (Aa (pv 1) (Aa (pv 0) (Aa (pv 3) Ab)))))) Ab)))),?_⟩
 refine⟨_,rfl,_,rfl,x,Bj c sz,By c a,"stop",D,rfl,O.o,λL f H1 Xt J t DI Co=>?_⟩
 have j:∀ k,k∈f ↔ ∃ z,a[k]? = some z/\z.w = "stop" /\ D.testBit k=true:=λk=>by
  rw[DI]
  constructor
  ·rintro⟨r,o,s,p⟩
   obtain⟨z,d,rfl⟩:=Gq o
   exact⟨z,d,(J0 _ _ _).symm.trans s,p⟩
  ·rintro⟨z,d,s,p⟩
   exact⟨_,Fq d,(J0 _ _ _).trans s,p⟩
 have m:Dc K H1 L (nV f):=.inl (.inl t)
 have O1:=O.mono J
 let g:V->V:=λv=>match v with | .int k=>.int (bC sz rk (JM a k.toNat) (b.getD k.toNat []) n:Nat) | _=>.non
 refine⟨L,rfl,⟨_,m⟩,Cz (K:=K) (xs:=nV f) (λ_=>true) g m (BK (by rw[af];omega)) (λy M B F R k=>k B (An.refl B)) (λy M _ B F R k=>?_) (λX Z nt s2 A=>?_)⟩
 ·obtain⟨i,hi,rfl⟩:=ay.mp M
  obtain⟨z,d,s,p⟩:=(j i).mp hi
  have l:i<b.length:=by
   rw[O.nl,QH]
   exact (ag.mp d).1
  have I:=ae l
  have u:b.getD i []=b[i]:=by rw[cc,I];rfl
  have U:=W b[i] (et l)
  refine⟨_,rfl,_,rfl,_,rfl,x,c,sz,rk,a,b,i,n,z,b[i],rfl,O1.mono F,oI,d,I,U.1,U.2,hn,λS Y=>?_⟩
  have G:R (.int (bC sz rk (JM a i) (b.getD i []) n:Nat)) S:=k S Y
  rw[u] at G
  exact G
 ·rw[ba.mpr (λ_ _=>rfl)] at A
  have e:(nV f).map g=nV (f.map λk=>bC sz rk (JM a k) (b.getD k []) n):=by
   unfold nV
   rw[aE,aE]
   rfl
  rw[e] at A
  exact⟨X,_,rfl,A,(by rw[af];omega),q f Z (J.trans s2) j⟩
inductive Yx (C:Addr) (vs:List V) (H:Hp) (Q:VK) (b9:XK):Prop
 | mk (x:Addr) (c:Nat->Str) (sz:List Nat) (rk:List (Str × Nat × Int)) (kbs:List Kb) (ls:List (List Ln:_)) (D n:Nat):vs=[.ref x,.int (D:Nat),.int (n:Nat)]->El C H x (Bj c sz) rk (By c kbs) ls->Ri sz.length kbs->fM rk ls->n<2 ^ 1200->(∀ i,n.testBit i=true->i<sz.sum)->(∀ (cl:List Nat) (m:Nat) H',An H H'->(∀ k,k∈cl ↔ ∃ z,kbs[k]? = some z/\z.w = "stop" /\ D.testBit k=true)->(∀ j,m.testBit j=true ↔ Qv c sz kbs D n j)->Q (.int (aa sz rk kbs ls cl m:Nat)) H')->Yx C vs H Q b9
theorem wZ:Aq sP sP (Ac vY):=Bf
include N T in
theorem bY:Ao P w K mg base Bb 7 aD.fSo aD.dSo sP (Yx C):=by
 refine N.FSo.1.DQ wZ λH z Q E e h=>?_
 obtain⟨x,c,sz,rk,b,u,D,n,rfl,O,k,l,p,g,q⟩:=h
 refine⟨_,(Ag (Ax (zC (nj N T) e rfl N.FBa (Aa (pv 0) (Aa (pv 1) (Aa (zC (nu N T) e rfl N.FSk (Aa (pv 0) (Aa (pv 1) (Aa (pv 2) Ab)))) Ab)))))),?_⟩
 have v:=Ff O.o
 rw[De] at v
 refine⟨_,rfl,_,rfl,_,rfl,_,rfl,_,rfl,x,c,sz,b,D,n,rfl,O.o,k,p,g,λm A j f=>?_⟩
 have a:m<2 ^ 1200:=by
  refine ip m λi y=>?_
  rw[<-fq]
  intro r
  rcases (f i).mp r with h | h
  ·have:=h.lt
   rw[De] at this
   omega
  ·have:=g i h.1
   omega
 exact⟨x,c,sz,rk,b,u,D,m,rfl,O.mono j,k,l,a,λt o s d=>q t m o (j.trans s) d f⟩
theorem Vm (sz:List Nat) (b n i:Nat):(Z5 sz b n).testBit i=true ↔ i<sz.getD b 0/\n.testBit ((sz.take b).sum+i)=true:=by
 unfold Z5
 rw[Wd.Lf]
 have e:((i:Int) - -(((sz.take b).sum:Nat):Int)).toNat=(sz.take b).sum+i:=by omega
 rw[e,ff,ff,decide_eq_true_eq,decide_eq_true_eq]
 exact⟨λh=>⟨h.1,h.2.2⟩,λh=>⟨h.1,by omega,h.2⟩⟩
theorem Rz {rk:List (Str × Nat × Int)} {l:Ln} (g:jU rk l) (n p:Nat):(Oo rk l n).testBit p=true ↔ ∃ i:Nat,n.testBit i=true/\l.lo<=(i:Int)/\(i:Int)<=l.hi/\0<=(i:Int)+l.sh/\(i:Int)+l.sh<(Qo rk l.r:Nat)/\(p:Int)=(gO rk l.r:Nat)+((i:Int)+l.sh):=by
 have j:=g.lo
 have h:=g.le
 have m:=Q6 g.r
 unfold Oo
 rw[Wd.Lf,Wd.Lf,Wd.Lf]
 simp only[Bool.and_eq_true,decide_eq_true_eq]
 constructor
 ·rintro⟨d,b,o,f,k,r,a⟩
  exact⟨_,a,by omega,by omega,by omega,by omega,by omega⟩
 ·rintro⟨i,a,d,b,q,s,e⟩
  have c:(((((((p:Int) - ((gO rk l.r:Nat):Int)).toNat:Nat):Int) - (l.lo+l.sh)).toNat:Nat):Int) - -l.lo=(i:Int):=by omega
  refine⟨by omega,by omega,by omega,by omega,by omega,by omega,?_⟩
  rw[c,bp]
  exact a
theorem iQ {sz:List Nat} {rk:List (Str × Nat × Int)} {b:Nat} {l:List Ln} {p:Nat} (g:∀ ln∈l,jU rk ln):(bC sz rk b l n).testBit p=true ↔ ∃ ln∈l,∃ i:Nat,i<sz.getD b 0/\n.testBit ((sz.take b).sum+i)=true/\ln.lo<=(i:Int)/\(i:Int)<=ln.hi/\0<=(i:Int)+ln.sh/\(i:Int)+ln.sh<(Qo rk ln.r:Nat)/\(p:Int)=(gO rk ln.r:Nat)+((i:Int)+ln.sh):=by
 unfold bC
 rw[Td]
 constructor
 ·rintro⟨m,e,c⟩
  obtain⟨ln,a,rfl⟩:=ay.mp e
  obtain⟨i,d,r⟩:=(Rz (g ln a) _ _).mp c
  obtain⟨x,y⟩:=(Vm _ _ _ _).mp d
  exact⟨ln,a,i,x,y,r⟩
 ·rintro⟨ln,a,i,x,y,r⟩
  exact⟨_,bb a,(Rz (g ln a) _ _).mpr ⟨i,(Vm _ _ _ _).mpr ⟨x,y⟩,r⟩⟩
theorem Q3 {sz:List Nat} {rk:List (Str × Nat × Int)} {cl:List Nat} {p:Nat}:(aa sz rk kbs ls cl n).testBit p=true ↔ ∃ k∈cl,(bC sz rk (JM kbs k) (ls.getD k []) n).testBit p=true:=by
 unfold aa
 rw[Td]
 constructor
 ·rintro⟨m,c,b⟩
  obtain⟨k,a,rfl⟩:=ay.mp c
  exact⟨k,a,b⟩
 ·rintro⟨k,a,b⟩
  exact⟨_,bb a,b⟩
inductive X5 (C:Addr) (vs:List V) (H:Hp) (Q:VK) (b9:XK):Prop
 | mk (x:Addr) (us:List V) (bs:List (Str × Nat)) (rk:List (Str × Nat × Int)) (ks:List R) (ls:List (List Ln:_)) (sts:List Nat):vs=[.ref x]->Ip C H x us bs rk ks ls sts->(∀ D H',H D=none->An H H'->H' D=some (.lst (nV sts))->Q (.ref D) H')->X5 C vs H Q b9
theorem vA:Aq sN sN (Ac zA):=Bf
include N T in
theorem Xa:Ao P w K mg base Bb 1 aD.fOy aD.dOy sN (X5 C):=by
 refine N.FOy.1.DQ vA λH k Q E s h=>?_
 obtain⟨x,p,bs,rk,j,n,b,rfl,O,q⟩:=h
 refine⟨_,(Ag (Ax (Dg Ej rfl T.list dS (Aa (Bc (pv 0) rfl) Ab)))),?_⟩
 obtain⟨_,c,fs,u,o,d,g,e,r,v,f,m,t,y,z,i,_⟩:=id O
 exact⟨_,rfl,x,C,c,_,_,rfl,e,T.cl,T.n_step_sets,f,d,_,rfl,kL (.inl i),λl a=>q l _ a (BP a) Al⟩
inductive W5 (vs:List V) (H:Hp) (Q:VK) (b9:XK):Prop
 | mk (z:Str):vs=[.str z,.str letters,.int 8]->Tx z->(∀ b H',An H H'->(b=true ↔ isNm z)->Q (.bl b) H')->W5 vs H Q b9
include N T in
theorem iK:Ao P w K mg base Bb 1 aD.fMd aD.dMd wp W5:=by
 refine N.FMd.1.DQ m7 λH p Q E r h=>?_
 obtain⟨z,rfl,i,q⟩:=h
 refine⟨_,(Ag (Ax (Di (Gk E_ E_ Ae (BJ Jh rfl T.len aS (Aa (pv 0) Ab)) (pv 2)) (Df (BJ (Hw rfl) rfl T.all gx (Aa (Br rfl (Be (osc:=Ac jk) (N:=wp) rfl rfl (by decide)) (Vt (pv 0)) (λ_ _ _ _=>Cv) (λ_ _ _ _=>(DW Mx (pv 0) (pv 2) rfl))) Ab)))))),?_⟩
 have d:z.length<sizeLine:=BK i.1
 have l:¬ isNm z->Q (.bl false) H:=λh=>q false H (An.refl H) ⟨λz=>(nomatch z),λz=>absurd z h⟩
 refine⟨_,rfl,z,rfl,fT d,_,_,rfl,rfl,_,rfl,?_⟩
 refine C_ (λj=>?_) (λj=>⟨_,rfl,Bk (l λc=>j (decide_eq_true (by have:=c.1;omega)))⟩)
 refine⟨_,rfl,_,_,rfl,rfl,_,rfl,?_⟩
 refine C_ (λf=>?_) (λf=>l λc=>f (decide_eq_true (by have:=c.2.1;omega)))
 refine⟨_,rfl,z,rfl,PQ (λ_=>true) (λc=>.bl (ZD letters c)) d (λc b a g R k=>k a (An.refl a)) (λc b _ a g R k=>⟨_,rfl,_,rfl,_,_,rfl,rfl,k a (An.refl a)⟩) (λD a s g o=>?_)⟩
 refine⟨D,z.cps.toList.map (ZD letters),rfl,.inl (.inl ?_),q _ a g ?_⟩
 ·rw[o,ba.mpr (λ_ _=>rfl),aE]
  rfl
 ·rw[List.all_map,fo]
  have n:1<=z.length:=by have:=of_decide_eq_true j;omega
  have m:z.length<=8:=by have:=of_decide_eq_true f;omega
  constructor
  ·intro h
   refine⟨n,m,λc b=>?_⟩
   have e:ZD letters c=true:=h c b
   rw[Nq c (i.2 c b)] at e
   exact of_decide_eq_true e
  ·intro h c b
   show ZD letters c=true
   rw[Nq c (i.2 c b)]
   exact decide_eq_true (h.2.2 c b)
theorem tL {K:W.Frag}:W.kitOne K (.type "int") (.type "str")=some false:=by kernel_rfl
theorem vL {K:W.Frag}:W.kitOne K (.type "bool") (.type "str")=some false:=by kernel_rfl
theorem xN {K:W.Frag}:W.kitOne K (.type "NoneType") (.type "str")=some false:=by kernel_rfl
theorem zJ {K:W.Frag}:W.kitOne K (.type "list") (.type "str")=some false:=by kernel_rfl
theorem zK {K:W.Frag}:W.kitOne K (.type "tuple") (.type "str")=some false:=by kernel_rfl
def isStr:V->Bool
 | .str _=>true
 | _=>false
theorem dJ (K:W.Frag) {v:V} (h:Cm H v):∃ n,JS K H v (.type n)/\W.kitOne K (.type n) (.type "str")=some (isStr v):=by
 cases h with
 | non=>exact⟨_,.non,xN⟩
 | bl b=>exact⟨_,.bl b,vL⟩
 | int i=>exact⟨_,.int i,tL⟩
 | lst h=>exact⟨_,.lst h,zJ⟩
 | tup h=>exact⟨_,.tup h,zK⟩
 | str h=>exact⟨_,.str _,HH⟩
inductive iu (v:V):Prop
 | mk (t:_):v=.str t->isNm t->iu v
inductive TX (vs:List V) (H:Hp) (Q:VK) (b9:XK):Prop
 | mk (v:V):vs=[v]->Cm H v->(∀ b H',An H H'->(b=true ↔ iu v)->Q (.bl b) H')->TX vs H Q b9
include N T in
theorem Vn:Ao P w K mg base Bb 2 aD.fNm aD.dNm vr TX:=by
 refine N.FNm.1.DQ lN λH o Q E j h=>?_
 obtain⟨v,rfl,a,q⟩:=h
 obtain⟨c,l⟩:=T.letters
 obtain⟨d,m⟩:=T.mostL
 refine⟨_,(Ag (Ax (Di (BJ CQ rfl T.isin aI (Aa (pv 0) (Aa (DX (v:=.ty "str") rfl T.str ii rfl) Ab))) (Df (zC (iK N T) j rfl N.FMd (Aa (pv 0) (Aa (Cw (v:=.str letters) rfl l ⟨c,rfl⟩) (Aa (Cw (v:=.int 8) rfl m ⟨d,rfl⟩) Ab)))))))),?_⟩
 obtain⟨n,k,f⟩:=dJ K a
 refine⟨_,rfl,_,"str",_,_,rfl,k,f,_,rfl,?_⟩
 cases a with
 | str h =>
  refine Dd ⟨_,rfl,_,rfl,h,λb i s g=>q b i s (g.trans ⟨λz=>⟨_,rfl,z⟩,λ⟨t,e,z⟩=>by cases e;exact z⟩)⟩
 | _=>exact Bk (q false H (An.refl H) ⟨λz=>(nomatch z),λ⟨t,e,z⟩=>(nomatch e)⟩)
inductive dU (C:Addr) (vs:List V) (H:Hp) (Q:VK) (b9:XK):Prop
 | mk (x:Addr) (us:List V) (bs:List (Str × Nat)) (rk:List (Str × Nat × Int)) (ks:List R) (ls:List (List Ln:_)) (sts:List Nat) (v:V):vs=[.ref x,v]->Ip C H x us bs rk ks ls sts->Cm H v->(∀ n∈bs.map (·.1),isNm n)->(∀ H',An H H'->Q (Ge (bs.map (·.1)) v) H')->dU C vs H Q b9
inductive fQ (C:Addr) (vs:List V) (H:Hp) (Q:VK) (b9:XK):Prop
 | mk (x:Addr) (us:List V) (bs:List (Str × Nat)) (rk:List (Str × Nat × Int)) (ks:List R) (ls:List (List Ln:_)) (sts:List Nat) (v:V):vs=[.ref x,v]->Ip C H x us bs rk ks ls sts->Cm H v->(∀ n∈ks.map (·.nm),isNm n)->(∀ H',An H H'->Q (Ge (ks.map (·.nm)) v) H')->fQ C vs H Q b9
theorem Sy {v:V} (a:∀ n∈ns,isNm n) (h:¬ iu v):Ge ns v=.non:=by
 cases v with
 | str t=>exact if_neg λz=>h ⟨t,rfl,a t z⟩
 | _=>rfl
theorem valN (b:∀ (i:Nat) t,ns[i]? = some t->Ce kvs (Sum.inr t)=some (.int (i:Nat))) (a:∀ t,t ∉ ns->Ce kvs (Sum.inr t)=none) (t:Str):(Ce kvs (Sum.inr t)).getD .non=Ge ns (.str t):=by
 by_cases h:t∈ns
 ·rw[b _ t (Js h)]
  exact (if_pos h).symm
 ·rw[a t h]
  exact (if_neg h).symm
theorem vz:Aq ui ui (Ac uf):=Bf
include N T in
theorem mV:Ao P w K mg base Bb 3 aD.fOj aD.dOj ui (fQ C):=by
 refine N.FOj.1.DQ vz λH S Q E d h=>?_
 obtain⟨x,D,bs,rk,R,W,u,v,rfl,O,j,s,q⟩:=h
 have i:=CN d
 refine⟨_,(Ag (Ax (Jb (CV (zC (Vn N T) d rfl N.FNm (Aa (pv 1) Ab))) (QM i (Bc (pv 0) rfl) (pv 1) ⟨rfl,rfl,rfl,rfl⟩) F_))),?_⟩
 obtain⟨Y,l,fs,I,n,V,y,m,X,p,B,U,g,r,o,J,L,A,F,h8,M⟩:=id O
 refine⟨_,rfl,v,rfl,j,λb Z a f=>⟨_,rfl,?_⟩⟩
 refine C_ (λz=>?_) (λz=>?_)
 ·obtain⟨t,rfl,G⟩:=f.mp z
  refine⟨_,rfl,x,C,l,_,_,rfl,a _ _ m,T.cl,T.n_knob_numbers,p,n,rfl,.inl ⟨_,.inl (a _ _ g)⟩,_,rfl,_,Ex.k (k:=Sum.inr t) (a _ _ g),?_⟩
  rw[valN r o t]
  exact q _ a
 ·have e:=Sy s λc=>z (f.mpr c)
  rw[e] at q
  exact q _ a
theorem i_ (k:Nat):Wd.mk [k]=2 ^ k:=by
 show 0 ||| 2 ^ k=2 ^ k
 rw[Nat.zero_or]
theorem je (h:t∈ns):Ge ns (.str t)=.int ((ns.idxOf t:Nat):Int):=if_pos h
inductive Z1 (C cK:Addr) (vs:List V) (H:Hp) (Q:VK) (E:XK):Prop
 | mk (x:Addr) (us:List V) (bs:List (Str × Nat)) (rk:List (Str × Nat × Int)) (ks:List R) (ls:List (List Ln:_)) (sts:List Nat) (v:V):vs=[.ref x,v]->Ip C H x us bs rk ks ls sts->Cm H v->(∀ n∈ks.map (·.nm),isNm n)->ks.length<=100->(∀ t H',An H H'->v=.str t->t∈ks.map (·.nm)->Q (.int ((2 ^ (ks.map (·.nm)).idxOf t:Nat):Int)) H')->(∀ H',An H H'->Ge (ks.map (·.nm)) v=.non->E (.ref cK) none H')->Z1 C cK vs H Q E
theorem Ma (ns:List Str) (v:V):Ge ns v=.non \/ ∃ t,v=.str t/\t∈ns/\Ge ns v=.int ((ns.idxOf t:Nat):Int):=by
 cases v with
 | str t =>
  by_cases h:t∈ns
  ·exact .inr ⟨t,rfl,h,if_pos h⟩
  ·exact .inl (if_neg h)
 | _=>exact .inl rfl
theorem oZ:Aq ["organ","name","knob"] uA (Ac wY):=Bf
include N T in
theorem bI:Ao P w K mg base (Gh P w) 4 aD.fKn aD.dKn uA (Z1 C cK):=by
 refine N.FKn.1.Jl oZ λH L Q E b h=>?_
 obtain⟨x,s,bs,rk,a,D,d,v,rfl,O,l,c,J,q,B⟩:=h
 have I:=CN b
 refine⟨_,(Af (Bh (i:=2) oZ.nd rfl (Or.inl rfl) (Bq (pv 0) T.cl N.FOj.2.2 (mV N T) (ad b) N.FOj.2.1 .nil Am (Aa (pv 1) Ab)))
  (Af (Bl (BR Qt (pv 2) F_ (BX _)) (Ag (Fv T.x4.rK.ex rfl T.x4.mK rfl G8 (Aa BW Ab))) Ba)
  (Ag (Ax (zC (NB N T) b rfl N.FSt (Aa (Dm (Aa (pv 2) Ab)) Ab)))))),?_⟩
 obtain⟨⟨⟨m,fs,_,_,_,_,_,_,_,_,p,_,_,_,_,z,_⟩,_⟩,_⟩:=id O.o
 refine⟨_,rfl,x,m,fs,rfl,p,z _ (by decide),_,rfl,x,s,bs,rk,a,D,d,v,rfl,O,l,c,λG g=>?_⟩
 rcases Ma (a.map (·.nm)) v with e | ⟨t,rfl,f,e⟩
 ·have r:=B G g e
  rw[e]
  exact⟨_,rfl,rfl,_,rfl,Dd ⟨by show 1<=1000;decide,r⟩⟩
 ·rw[e]
  have u:=ge f
  rw[af] at u
  refine⟨_,rfl,rfl,_,rfl,Bk ?_⟩
  refine⟨_,rfl,CK (by simp),λj k=>?_⟩
  have A:=BP (o:=HO.lst [V.int (((a.map (·.nm)).idxOf t:Nat):Int)]) k
  refine⟨j,[(a.map (·.nm)).idxOf t],rfl,Al,by simp,λn c=>by rw[List.mem_singleton.mp c];omega,λy F=>?_⟩
  rw[i_]
  exact q t y (g.trans (A.trans F)) rfl f
inductive gY (Cy:Addr) (vs:List V) (H:Hp) (Q:VK) (b9:XK):Prop
 | mk (y dy x:Addr):vs=[.ref y,.ref x]->H y=some (.ins Cy dy [])->(∀ (sd:Addr) H',SX y H H'->H sd=none->H' sd=some (.dK [])->Dn Cy H' y x 0 0 sd->Q .non H')->gY Cy vs H Q b9
inductive Qh (Cy:Addr) (vs:List V) (H:Hp) (Q:VK) (b9:XK):Prop
 | mk (y x:Addr) (dr sh:Nat) (sd:Addr) (n:Nat):vs=[.ref y,.int (n:Nat)]->Dn Cy H y x dr sh sd->(∀ H',SX y H H'->Dn Cy H' y x n sh sd->Q (.bl (!decide (n=dr))) H')->Qh Cy vs H Q b9
theorem wu:Aq xz xz (Ac tQ):=Bf
include N T in
theorem ju:Ao P w K mg base Bb 1 aD.fXi aD.dXi xz (gY Cy):=by
 refine N.FXi.1.DQ wu λH I Q E u h=>?_
 obtain⟨y,a,x,rfl,t,q⟩:=h
 have C:=CN u
 refine⟨_,(Af (DG (pv 0) (pv 1) rfl)
  (Af (DG (pv 0) Ae rfl)
  (Af (DG (pv 0) Ae rfl)
  (Ag (DG (pv 0) JP rfl))))),?_⟩
 refine⟨_,rfl,_,rfl,y,Cy,a,_,rfl,t,T.clR,T.nr_organ,by show 0<1000;decide,?_⟩
 have j:upd H y (HO.ins Cy a (BV "organ" (.ref x) [])) y=some (.ins Cy a (BV "organ" (.ref x) [])):=Al
 have p:SX y H (upd H y (HO.ins Cy a (BV "organ" (.ref x) []))):=SX.up
 generalize upd H y (HO.ins Cy a (BV "organ" (.ref x) []))=d at j p |-
 have F:=Ew "organ" (.ref x) []
 have D:=Ew "drawn_set" (.int 0) (BV "organ" (.ref x) [])
 have B:=Ew "shoe_step" (.int 0) (BV "drawn_set" (.int 0) (BV "organ" (.ref x) []))
 have L:([]:List (Str × V)).length=0:=rfl
 refine⟨_,rfl,y,Cy,a,_,rfl,j,T.clR,T.nr_drawn_set,by omega,?_⟩
 have n:upd d y (HO.ins Cy a (BV "drawn_set" (.int 0) (BV "organ" (.ref x) []))) y=some (.ins Cy a (BV "drawn_set" (.int 0) (BV "organ" (.ref x) []))):=Al
 have k:SX y d (upd d y (HO.ins Cy a (BV "drawn_set" (.int 0) (BV "organ" (.ref x) [])))):=SX.up
 generalize upd d y (HO.ins Cy a (BV "drawn_set" (.int 0) (BV "organ" (.ref x) [])))=c at n k |-
 refine⟨_,rfl,y,Cy,a,_,rfl,n,T.clR,T.nr_shoe_step,by omega,?_⟩
 have f:upd c y (HO.ins Cy a (BV "shoe_step" (.int 0) (BV "drawn_set" (.int 0) (BV "organ" (.ref x) [])))) y=some (.ins Cy a (BV "shoe_step" (.int 0) (BV "drawn_set" (.int 0) (BV "organ" (.ref x) [])))):=Al
 have m:SX y c (upd c y (HO.ins Cy a (BV "shoe_step" (.int 0) (BV "drawn_set" (.int 0) (BV "organ" (.ref x) []))))):=SX.up
 generalize upd c y (HO.ins Cy a (BV "shoe_step" (.int 0) (BV "drawn_set" (.int 0) (BV "organ" (.ref x) []))))=G at f m |-
 intro b e
 obtain⟨J,s,i,A⟩:=Em (o:=HO.dK []) e
 rw[s]
 refine⟨_,rfl,y,Cy,a,_,rfl,i _ _ f,T.clR,T.nr_stored,by omega,?_⟩
 have l:b ≠ y:=Ne.symm (Aj f e)
 have r:=p.trans (k.trans m)
 have g:H b=none:=by
  cases z:H b with
  | none=>rfl
  | some v =>
   have:=r b v z l
   rw[e] at this
   cases this
 exact q b _ (r.trans ((SX.of i).trans SX.up)) g (by rw[Aw l];exact A) (Dn.new Al)
theorem nJ:Aq ["self","knobs","changed"] y8 (Ac uq):=Bf
include N T in
theorem Sv:Ao P w K mg base Bb 1 aD.fXd aD.dXd y8 (Qh Cy):=by
 refine N.FXd.1.DQ nJ λH v Q E s h=>?_
 obtain⟨y,x,f,k,l,n,rfl,D,q⟩:=h
 have u:=CN s
 refine⟨_,(Af (Bh (i:=2) nJ.nd rfl (Or.inl rfl) (DW Hz (pv 1) (Bc (pv 0) rfl) (BX _)))
  (Af (DG (pv 0) (pv 1) rfl)
  (Ag (Ax (pv 2))))),?_⟩
 obtain⟨a,fs,b,m,d,o,j,t,g⟩:=id D.ex
 refine⟨_,rfl,_,rfl,y,Cy,a,_,_,rfl,b,T.clR,T.nr_drawn_set,d,rfl,?_⟩
 refine⟨_,rfl,_,rfl,y,Cy,a,_,rfl,b,T.clR,T.nr_drawn_set,by omega,?_⟩
 have p:SX y H (upd H y (HO.ins Cy a (BV "drawn_set" (.int (n:Nat)) fs))):=SX.up
 have r:Dn Cy (upd H y (HO.ins Cy a (BV "drawn_set" (.int (n:Nat)) fs))) y x n k l:=Dn.putD n m d o j t g Al
 have e:(!decide (V.int ((n:Nat):Int)=V.int ((f:Nat):Int))) = !decide (n=f):=by
  congr 1
  rw[decide_eq_decide]
  constructor
  ·intro z
   have:=V.int.inj z
   omega
  ·rintro rfl
   rfl
 have c:=q _ p r
 rw[<-e] at c
 exact⟨_,rfl,c⟩
theorem SN (a b:Nat):Builtin.bitAnd (a:Int) (Builtin.bitNot (b:Int))=((a - (a &&& b):Nat):Int):=by
 have h:¬ 0<=Builtin.bitNot (b:Int):=by unfold Builtin.bitNot;omega
 have d:Builtin.bitNot (Builtin.bitNot (b:Int))=(b:Int):=by unfold Builtin.bitNot;omega
 have c:a &&& b<=a:=Nat.and_le_left
 unfold Builtin.bitAnd
 rw[decide_eq_true (fE a),decide_eq_false h]
 show (a:Int) - ((((a:Int).toNat &&& (Builtin.bitNot (Builtin.bitNot (b:Int))).toNat:Nat)):Int)=_
 rw[d,bp,bp]
 omega
abbrev Ij (ks:List R):List Str:=ks.map (·.nm)
def GF (C Cy:Addr) (Ho H:Hp) (y x:Addr) (ks:List R) (sts:List Nat) (dr sh:Nat) (sd:Addr):Prop:=(∃ us bs rk ls,eZ C Cy Ho H y x us bs rk ks ls sts dr sh sd)/\(∀ n∈Ij ks,isNm n)/\ks.length<=100
theorem GF.mono {y x:Addr} (s:An H H') (h:GF C Cy Ho H y x ks sts dr sh sd):GF C Cy Ho H' y x ks sts dr sh sd:=by
 obtain⟨⟨b,bs,rk,a,e⟩,c,d⟩:=h
 exact⟨⟨b,bs,rk,a,e.mono s⟩,c,d⟩
theorem GF.put {y x:Addr} {f d:Nat} (h:GF C Cy Ho H y x ks sts dr sh sd) (s:SX y H H') (c:Dn Cy H' y x f d sd):GF C Cy Ho H' y x ks sts f d sd:=by
 obtain⟨⟨i,bs,rk,g,a⟩,j,k⟩:=h
 exact⟨⟨i,bs,rk,g,a.o,λb o e=>s b o (a.s b o e) (Aj e a.n),a.n,c⟩,j,k⟩
inductive Xv (up:Bool) (C Cy cK:Addr) (vs:List V) (H:Hp) (Q:VK) (E:XK):Prop
 | mk (Ho:Hp) (y x:Addr) (ks:List R) (sts:List Nat) (dr sh:Nat) (sd:Addr) (v:V):vs=[.ref y,v]->GF C Cy Ho H y x ks sts dr sh sd->Cm H v->(∀ t d2 H',SX y H H'->v=.str t->t∈Ij ks->d2=(if up then dr ||| 2 ^ (Ij ks).idxOf t else dr - (dr &&& 2 ^ (Ij ks).idxOf t))->GF C Cy Ho H' y x ks sts d2 sh sd->Q (.bl (!decide (d2=dr))) H')->(∀ H',An H H'->Ge (Ij ks) v=.non->E (.ref cK) none H')->Xv up C Cy cK vs H Q E
theorem xn:Aq ui ui (Ac wM):=Bf
include N T in
theorem m_:Ao P w K mg base (Gh P w) 5 aD.fXp aD.dXp ui (Xv true C Cy cK):=by
 have f:Ao P w K mg base (Gh P w) 4 aD.fKn aD.dKn uA (Z1 C cK):=bI N T
 refine N.FXp.1.Jl xn λH V Q E c h=>?_
 obtain⟨M,y,x,B,d,z,F,J,v,rfl,O,k,q,G⟩:=h
 have S:=CN c
 refine⟨_,(Ag (Ax (Bq (pv 0) T.clR N.FXd.2.2 (Sv N T) (ad c) N.FXd.2.1 .nil Am (Aa (BZ Mi (Bc (pv 0) rfl) (Ai f (ad c) rfl N.FKn.2.2 N.FKn.1.kp N.FKn.2.1 .nil Dk (Aa (Bc (pv 0) rfl) (Aa (pv 1) Ab)))) Ab)))),?_⟩
 obtain⟨⟨m,bs,rk,I,D⟩,u,s⟩:=id O
 obtain⟨g,fs,b,L,r,U,R,W,A⟩:=id D.c.ex
 refine⟨_,rfl,y,g,fs,rfl,b,A _ (by decide),_,rfl,y,Cy,g,_,_,rfl,b,T.clR,T.nr_drawn_set,r,_,rfl,y,Cy,g,_,_,rfl,b,T.clR,T.nr_organ,L,_,rfl,x,m,bs,rk,B,I,d,v,rfl,D.o.mono D.s,k,u,s,λt j a p o=>?_,λj a e=>G j a e⟩
 subst p
 refine⟨_,_,rfl,rfl,?_⟩
 try dsimp only
 rw[Ih]
 refine⟨y,x,z,F,J,_,rfl,D.c.mono a,λn i l=>?_⟩
 exact q t _ n ((SX.of a).trans i) rfl o rfl ((O.mono a).put i l)
theorem uV:Aq ui ui (Ac uT):=Bf
include N T in
theorem lF:Ao P w K mg base (Gh P w) 5 aD.fXq aD.dXq ui (Xv false C Cy cK):=by
 have f:Ao P w K mg base (Gh P w) 4 aD.fKn aD.dKn uA (Z1 C cK):=bI N T
 refine N.FXq.1.Jl uV λH V Q E c h=>?_
 obtain⟨M,y,x,B,d,z,F,J,v,rfl,O,k,q,G⟩:=h
 have S:=CN c
 refine⟨_,(Ag (Ax (Bq (pv 0) T.clR N.FXd.2.2 (Sv N T) (ad c) N.FXd.2.1 .nil Am (Aa (BZ JG (Bc (pv 0) rfl) (KR OD (Ai f (ad c) rfl N.FKn.2.2 N.FKn.1.kp N.FKn.2.1 .nil Dk (Aa (Bc (pv 0) rfl) (Aa (pv 1) Ab))))) Ab)))),?_⟩
 obtain⟨⟨m,bs,rk,I,D⟩,u,s⟩:=id O
 obtain⟨g,fs,b,L,r,U,R,W,A⟩:=id D.c.ex
 refine⟨_,rfl,y,g,fs,rfl,b,A _ (by decide),_,rfl,y,Cy,g,_,_,rfl,b,T.clR,T.nr_drawn_set,r,_,rfl,y,Cy,g,_,_,rfl,b,T.clR,T.nr_organ,L,_,rfl,x,m,bs,rk,B,I,d,v,rfl,D.o.mono D.s,k,u,s,λt j a p o=>?_,λj a e=>G j a e⟩
 subst p
 refine⟨_,rfl,_,_,rfl,rfl,?_⟩
 try dsimp only
 rw[SN]
 refine⟨y,x,z,F,J,_,rfl,D.c.mono a,λn i l=>?_⟩
 exact q t _ n ((SX.of a).trans i) rfl o rfl ((O.mono a).put i l)
inductive d8 (C Cy:Addr) (vs:List V) (H:Hp) (Q:VK) (b9:XK):Prop
 | mk (Ho:Hp) (y x:Addr) (ks:List R) (sts:List Nat) (dr sh:Nat) (sd:Addr):vs=[.ref y]->GF C Cy Ho H y x ks sts dr sh sd->sh<=sts.length->sts.length<=100->(∀ H',An H H'->Q (.int ((dr ||| Pr (sts.take sh):Nat):Int)) H')->d8 C Cy vs H Q b9
theorem yI:Aq sN sN (Ac vq):=Bf
include N T in
theorem l_:Ao P w K mg base Bb 2 aD.fXk aD.dXk sN (d8 C Cy):=by
 refine N.FXk.1.DQ yI λH vs Q E f h=>?_
 obtain⟨R,y,x,G,a,Z,b,sd,rfl,O,n,B,q⟩:=h
 have U:=CN f
 refine⟨_,(Ag (Ax (BZ Mi (Bc (pv 0) rfl) (zC (Vu N T) f rfl N.FUn (Aa (Ek Ja (Bg (Bc (pv 0) rfl) T.cl N.FOy.2.2 (Xa N T) (ad f) N.FOy.2.1 .nil Am) GP (Eu (Bc (pv 0) rfl))) Ab))))),?_⟩
 obtain⟨⟨v,bs,rk,L,D⟩,X,W⟩:=id O
 obtain⟨g,fs,e,M,A,t,S,l5,lm⟩:=id D.c.ex
 have k:=D.o.mono D.s
 obtain⟨⟨⟨r,F,_,_,_,_,_,_,_,_,I,_,_,_,_,p,_⟩,_⟩,_⟩:=id k.o
 refine⟨_,rfl,y,Cy,g,_,_,rfl,e,T.clR,T.nr_drawn_set,A,_,rfl,y,Cy,g,_,_,rfl,e,T.clR,T.nr_organ,M,x,r,F,rfl,I,p _ (by decide),x,v,bs,rk,G,L,a,rfl,k,λu l Y i s=>?_⟩
 refine⟨_,rfl,y,Cy,g,_,_,rfl,i _ _ e,T.clR,T.nr_shoe_step,t,_,rfl,u,_,rfl,kL s,λc m=>?_⟩
 have j:=BP (o:=HO.lst (En (nV a) none (some (b:Int)))) m
 have d:upd l c (HO.lst (En (nV a) none (some (b:Int)))) c=_:=Al
 generalize upd l c (HO.lst (En (nV a) none (some (b:Int))))=z at j d |-
 have V:(nV a).length=a.length:=af _
 rw[Jp (nV a) b (by omega)] at d
 have J:(nV a).take b=nV (a.take b):=(ij ..).symm
 rw[J] at d
 refine⟨c,a.take b,rfl,d,by rw[cm];omega,_,_,rfl,rfl,?_⟩
 try dsimp only
 rw[Ih]
 exact q z (i.trans j)
def isI:V->Bool
 | .int _=>true
 | _=>false
theorem xF {K:W.Frag}:W.kitOne K (.type "NoneType") (.type "int")=some false:=by kernel_rfl
theorem wC {K:W.Frag}:W.kitOne K (.type "bool") (.type "int")=some true:=by kernel_rfl
theorem yZ {K:W.Frag}:W.kitOne K (.type "bool") (.type "bool")=some true:=by kernel_rfl
theorem xO {K:W.Frag}:W.kitOne K (.type "list") (.type "int")=some false:=by kernel_rfl
theorem vK {K:W.Frag}:W.kitOne K (.type "tuple") (.type "int")=some false:=by kernel_rfl
theorem ue {K:W.Frag}:W.kitOne K (.type "str") (.type "int")=some false:=by kernel_rfl
inductive O7 (vs:List V) (H:Hp) (Q:VK) (b9:XK):Prop
 | mk (v:V):vs=[v]->Cm H v->Q (.bl (isI v)) H->O7 vs H Q b9
include N T in
theorem Q9:Ao P w K mg base Bb 1 aD.fWh aD.dWh vr O7:=by
 refine N.FWh.1.DQ pU λH d Q E c h=>?_
 obtain⟨v,rfl,a,q⟩:=h
 refine⟨_,(Ag (Ax (Di (BJ CQ rfl T.isin aI (Aa (pv 0) (Aa (DX (v:=.ty "int") rfl T.int fA rfl) Ab))) (Df (Nx (BJ CQ rfl T.isin aI (Aa (pv 0) (Aa (DX (v:=.ty "bool") rfl T.bool iO rfl) Ab)))))))),?_⟩
 cases a with
 | non=>exact⟨_,rfl,_,"int",_,_,rfl,.non,xF,_,rfl,Bk q⟩
 | bl b=>exact⟨_,rfl,_,"int",_,_,rfl,.bl b,wC,_,rfl,Dd ⟨_,rfl,_,"bool",_,_,rfl,.bl b,yZ,_,rfl,q⟩⟩
 | int i=>exact⟨_,rfl,_,"int",_,_,rfl,.int i,ty_int,_,rfl,Dd ⟨_,rfl,_,"bool",_,_,rfl,.int i,WY,_,rfl,q⟩⟩
 | lst h=>exact⟨_,rfl,_,"int",_,_,rfl,.lst h,xO,_,rfl,Bk q⟩
 | tup h=>exact⟨_,rfl,_,"int",_,_,rfl,.tup h,vK,_,rfl,Bk q⟩
 | str h=>exact⟨_,rfl,_,"int",_,_,rfl,.str _,ue,_,rfl,Bk q⟩
def jJ (n:Nat):V->Bool
 | .int i=>decide (0<=i) && decide (i<=(n:Nat))
 | _=>false
inductive iC (C Cy cS:Addr) (vs:List V) (H:Hp) (Q:VK) (E:XK):Prop
 | mk (Ho:Hp) (y x:Addr) (ks:List R) (sts:List Nat) (dr sh:Nat) (sd:Addr) (v:V):vs=[.ref y,v]->GF C Cy Ho H y x ks sts dr sh sd->Cm H v->(∀ (i:Nat) H',v=.int (i:Nat)->i<=sts.length->SX y H H'->GF C Cy Ho H' y x ks sts dr i sd->Q .non H')->(∀ H',An H H'->jJ sts.length v=false->E (.ref cS) none H')->iC C Cy cS vs H Q E
theorem yx:Aq DD DD (Ac yU):=Bf
include N T in
theorem qP:Ao P w K mg base (Gh P w) 3 aD.fXh aD.dXh DD (iC C Cy cS):=by
 refine N.FXh.1.Jl yx λH vs Q E c h=>?_
 obtain⟨U,y,x,J,a,Z,sh,sd,v,rfl,O,n,q,e⟩:=h
 have V:=CN c
 refine⟨_,(Af (Bl (PW.pt (D_ (CG (CV (zC (Q9 N T) c rfl N.FWh (Aa (pv 1) Ab)))) (Do (CG (Hg E_ E_ Ae (pv 1) (BJ BL rfl T.len aS (Aa (Bg (Bc (pv 0) rfl) T.cl N.FOy.2.2 (Xa N T) (ad c) N.FOy.2.1 .nil Am) Ab))))))) (Ag (Fv T.x4.rS.ex rfl T.x4.mS rfl G8 (Aa BW Ab))) Ba)
  (Ag (DG (pv 0) (pv 1) rfl))),?_⟩
 obtain⟨⟨u,bs,rk,M,D⟩,X,W⟩:=id O
 obtain⟨k,fs,f,g,F,s,m,S,G⟩:=id D.c.ex
 have l:=D.o.mono D.s
 obtain⟨⟨⟨p,I,_,_,_,_,_,_,_,_,L,_,_,_,_,o,_⟩,_⟩,_⟩:=id l.o
 refine⟨_,rfl,v,rfl,n,_,rfl,?_⟩
 cases v with
 | int i =>
  refine Bk ⟨_,rfl,_,_,rfl,rfl,_,rfl,C_ (λd=>?_) (λd=>?_)⟩
  ·refine⟨_,rfl,y,Cy,k,_,_,rfl,f,T.clR,T.nr_organ,g,x,p,I,rfl,L,o _ (by decide),x,u,bs,rk,J,M,a,rfl,l,λt R Y b r=>?_⟩
   refine⟨t,_,rfl,kL (.inl r),_,_,rfl,rfl,decide (i<=(((nV a).length:Nat):Int)),rfl,?_⟩
   have lst:(nV a).length=a.length:=af _
   by_cases A:i<=((a.length:Nat):Int)
   ·rw[decide_eq_true (show i<=(((nV a).length:Nat):Int) by omega)]
    have B:0<=i:=of_decide_eq_true d
    refine Bk ?_
    refine⟨_,rfl,_,rfl,y,Cy,k,_,rfl,b _ _ f,T.clR,T.nr_shoe_step,by omega,?_⟩
    obtain⟨j,rfl⟩:=gX B
    exact q j _ rfl (by omega) ((SX.of b).trans SX.up) ((O.mono b).put SX.up (Dn.jc j g F s m S G Al))
   ·rw[decide_eq_false (show ¬ i<=(((nV a).length:Nat):Int) by omega)]
    exact Dd ⟨by show 1<=1000;decide,e R b (by show (decide (0<=i) && decide (i<=((a.length:Nat):Int)))=false;rw[decide_eq_false A,Bool.and_false])⟩
  ·exact⟨_,rfl,Dd ⟨by show 1<=1000;decide,e H (An.refl H) (by show (decide (0<=i) && decide (i<=((a.length:Nat):Int)))=false;rw[decide_eq_false (λz=>d (decide_eq_true z)),Bool.false_and])⟩⟩
 | _=>exact Dd ⟨by show 1<=1000;decide,e H (An.refl H) rfl⟩
inductive Yn (pE pA:Addr) (vs:List V) (H:Hp) (Q:VK) (b9:XK):Prop
 | mk (x c dx:Addr) (k:Nat):vs=[.ref x,.int (k:Nat)]->(c=pE \/ c=pA)->H x=some (.ins c dx [])->Q .non (upd H x (.ins c dx [("knob_set",.int (k:Nat))]))->Yn pE pA vs H Q b9
inductive gr (pE pA:Addr) (vs:List V) (H:Hp) (Q:VK) (b9:XK):Prop
 | mk (x dx:Addr) (k w:Nat):vs=[.ref x,.int (k:Nat),.int (w:Nat)]->H x=some (.ins pA dx [])->(∀ H',SX x H H'->HN pE pA H' x (.part k w)->Q .non H')->gr pE pA vs H Q b9
inductive jR (pE:Addr) (vs:List V) (H:Hp) (Q:VK) (b9:XK):Prop
 | mk (x dx:Addr) (k d:Nat):vs=[.ref x,.int (d:Nat)]->H x=some (.ins pE dx [("knob_set",.int (k:Nat))])->Q (.int (k:Nat)) H->jR pE vs H Q b9
inductive dD (pA:Addr) (vs:List V) (H:Hp) (Q:VK) (b9:XK):Prop
 | mk (x dx:Addr) (k w d:Nat):vs=[.ref x,.int (d:Nat)]->H x=some (.ins pA dx [("knob_set",.int (k:Nat)),("whole_set",.int (w:Nat))])->Q (.int (((d - (d &&& w)) ||| k:Nat):Int)) H->dD pA vs H Q b9
theorem uz:Aq y8 y8 (Ac wA):=Bf
include N T in
theorem a_:Ao P w K mg base Bb 1 aD.fPi aD.dPi y8 (Yn pE pA):=by
 refine N.FPi.1.DQ uz λH g Q E e h=>?_
 obtain⟨x,c,a,k,rfl,d,b,q⟩:=h
 have f:=CN e
 refine⟨_,(Ag (DG (pv 0) (pv 1) rfl)),?_⟩
 rcases d with rfl | rfl
 ·exact⟨_,rfl,_,rfl,x,_,a,_,rfl,b,T.pis.cE,T.pis.nEk,by show 0<1000;decide,q⟩
 ·exact⟨_,rfl,_,rfl,x,_,a,_,rfl,b,T.pis.cA,T.pis.nAk,by show 0<1000;decide,q⟩
theorem yp:Aq A0 A0 (Ac xW):=Bf
include N T in
theorem nF:Ao P w K mg base Bb 2 aD.fAi aD.dAi A0 (gr pE pA):=by
 refine N.FAi.1.DQ yp λH e Q E b h=>?_
 obtain⟨x,a,k,f,rfl,c,q⟩:=h
 have d:=CN b
 refine⟨_,(Af (Bx (QZ rfl T.pis.mB N.cPi (a_ N T) (ad b) N.FPi.2.1 .nil Am (Aa (pv 0) (Aa (pv 1) Ab))))
  (Ag (DG (pv 0) (pv 2) rfl))),?_⟩
 refine⟨_,rfl,_,rfl,x,pA,a,k,rfl,.inr rfl,c,?_⟩
 refine⟨_,rfl,_,rfl,x,pA,a,_,rfl,Al,T.pis.cA,T.pis.nAw,by show 1<1000;decide,?_⟩
 exact q _ (SX.up.trans SX.up) ⟨a,Al⟩
theorem yL:Aq xA xA (Ac yd):=Bf
include N T in
theorem oX:Ao P w K mg base Bb 1 aD.fEp aD.dEp xA (jR pE):=by
 refine N.FEp.1.DQ yL λH f Q E a h=>?_
 obtain⟨x,b,k,d,rfl,c,q⟩:=h
 have e:=CN a
 refine⟨_,(Ag (Ax (Bc (pv 0) rfl))),?_⟩
 exact⟨_,rfl,x,pE,b,_,_,rfl,c,T.pis.cE,T.pis.nEk,rfl,q⟩
theorem vN:Aq xA xA (Ac wI):=Bf
include N T in
theorem mF:Ao P w K mg base Bb 1 aD.fAp aD.dAp xA (dD pA):=by
 refine N.FAp.1.DQ vN λH f Q E c h=>?_
 obtain⟨x,a,k,g,d,rfl,b,q⟩:=h
 have e:=CN c
 refine⟨_,(Ag (Ax (BZ Mi (BZ JG (pv 1) (KR OD (Bc (pv 0) rfl))) (Bc (pv 0) rfl)))),?_⟩
 refine⟨_,rfl,_,rfl,x,pA,a,_,_,rfl,b,T.pis.cA,T.pis.nAw,rfl,_,rfl,_,_,rfl,rfl,_,rfl,x,pA,a,_,_,rfl,b,T.pis.cA,T.pis.nAk,rfl,_,_,rfl,rfl,?_⟩
 try dsimp only
 rw[SN,Ih]
 exact q
def Jz:V->Bool
 | .int i=>decide (0<=i) && decide (i<10)
 | _=>false
inductive Ym (vs:List V) (H:Hp) (Q:VK) (b9:XK):Prop
 | mk (v:V):vs=[v]->Cm H v->Q (.bl (Jz v)) H->Ym vs H Q b9
theorem wO:Aq vr vr (Ac uF):=Bf
include N T in
theorem bQ:Ao P w K mg base Bb 2 aD.fIp aD.dIp vr Ym:=by
 refine N.FIp.1.DQ wO λH g Q E d h=>?_
 obtain⟨v,rfl,f,q⟩:=h
 obtain⟨c,a⟩:=T.pis.most
 refine⟨_,(Ag (Ax (Di (zC (Q9 N T) d rfl N.FWh (Aa (pv 0) Ab)) (Df (Gk E_ HF Ae (pv 0) (Cw (v:=.int 10) rfl a ⟨c,rfl⟩)))))),?_⟩
 refine⟨_,rfl,v,rfl,f,_,rfl,?_⟩
 cases v with
 | int i =>
  refine Dd ⟨_,rfl,_,_,rfl,rfl,_,rfl,C_ (λb=>?_) (λb=>?_)⟩
  ·refine⟨_,_,rfl,rfl,?_⟩
   have e:Jz (.int i)=decide (i<10):=by
    show (decide (0<=i) && decide (i<10))=_
    rw[b,fS]
   rw[e] at q
   exact q
  ·have e:Jz (.int i)=false:=by
    show (decide (0<=i) && decide (i<10))=_
    rw[(fq _).mp b,hG]
   rw[e] at q
   exact q
 | _=>exact Bk q
theorem vo:Aq ui ui (Ac vO):=Bf
include N T in
theorem mz:Ao P w K mg base Bb 3 aD.fOu aD.dOu ui (dU C):=by
 refine N.FOu.1.DQ vo λH vs Q E m h=>?_
 obtain⟨x,us,bs,rk,ks,ls,F,v,rfl,O,r,D,q⟩:=h
 have A:=CN m
 obtain⟨L,vS⟩:=T.letters
 obtain⟨R,I0⟩:=T.mostL
 refine⟨_,(Ag (Ax (Jb (CV (zC (Vn N T) m rfl N.FNm (Aa (pv 1) Ab))) (QM A (Bc (pv 0) rfl) (pv 1) ⟨rfl,rfl,rfl,rfl⟩) F_))),?_⟩
 obtain⟨I,s,fs,rl,kd,ss,J,j,l1,l2,l3,h2,h3,h4,h5,Y,u,kb,l,g,y⟩:=id O
 obtain⟨⟨X,pT,bl,G,kp,kr,i3,ll,V,d0,o,m1,n,M,m4,lm,e2,e3,p,B,W,e7,S,U⟩,sj,qc,Z⟩:=id I.o
 rw[j] at o
 cases o
 rw[l] at n
 cases n
 rw[g] at p
 cases p
 refine⟨_,rfl,v,rfl,r,λb H1 a d=>⟨_,rfl,?_⟩⟩
 refine C_ (λz=>?_) (λz=>?_)
 ·obtain⟨t,rfl,f⟩:=d.mp z
  refine⟨_,rfl,x,C,s,_,_,rfl,a _ _ j,T.cl,T.n_board_numbers,l,u,rfl,.inl ⟨_,.inl (a _ _ g)⟩,_,rfl,_,Ex.k (k:=Sum.inr t) (a _ _ g),?_⟩
  rw[valN (λi t f=>by rw[am] at f;obtain⟨b,d,rfl⟩:=aT.mp f;exact B i b d) y t]
  exact q _ a
 ·have e:=Sy D λc=>z (d.mpr c)
  rw[e] at q
  exact q _ a
inductive Zv (C cB:Addr) (vs:List V) (H:Hp) (Q:VK) (E:XK):Prop
 | mk (x:Addr) (us:List V) (bs:List (Str × Nat)) (rk:List (Str × Nat × Int)) (ks:List R) (ls:List (List Ln:_)) (sts:List Nat) (v:V):vs=[.ref x,v]->Ip C H x us bs rk ks ls sts->Cm H v->(∀ n∈bs.map (·.1),isNm n)->(∀ t H',An H H'->v=.str t->t∈bs.map (·.1)->Q (.int (((bs.map (·.1)).idxOf t:Nat):Int)) H')->(∀ H',An H H'->Ge (bs.map (·.1)) v=.non->E (.ref cB) none H')->Zv C cB vs H Q E
theorem pX:Aq D9 uA (Ac uX):=Bf
include N T in
theorem bF:Ao P w K mg base (Gh P w) 4 aD.fBn aD.dBn uA (Zv C cB):=by
 refine N.FBn.1.Jl pX λH y Q E c h=>?_
 obtain⟨x,r,bs,rk,g,o,a,v,rfl,O,k,j,q,n⟩:=h
 have u:=CN c
 refine⟨_,(Af (Bh (i:=2) pX.nd rfl (Or.inl rfl) (Bq (pv 0) T.cl N.FOu.2.2 (mz N T) (ad c) N.FOu.2.1 .nil Am (Aa (pv 1) Ab)))
  (Af (Bl (BR Qt (pv 2) F_ (BX _)) (Ag (Fv T.x4.rB.ex rfl T.x4.mB rfl G8 (Aa BW Ab))) Ba)
  (Ag (Ax (pv 2))))),?_⟩
 obtain⟨⟨⟨l,fs,_,_,_,_,_,_,_,_,m,_,_,_,_,f,_⟩,_⟩,_⟩:=id O.o
 refine⟨_,rfl,x,l,fs,rfl,m,f _ (by decide),_,rfl,x,r,bs,rk,g,o,a,v,rfl,O,k,j,λd b=>?_⟩
 rcases Ma (bs.map (·.1)) v with e | ⟨t,rfl,s,e⟩
 ·have p:=n d b e
  rw[e]
  exact⟨_,rfl,rfl,_,rfl,Dd ⟨by show 1<=1000;decide,p⟩⟩
 ·rw[e]
  exact⟨_,rfl,rfl,_,rfl,Bk ⟨_,rfl,q t d b rfl s⟩⟩
def Yd (ks:List R) (t:Str) (k:Nat):Bool:=match ks[k]? with
 | some r=>decide (r.rest.head? = some (V.str t))
 | none=>false
def JL (ks:List R) (t:Str):Nat:=Wd.mk ((List.range ks.length).filter (Yd ks t))
inductive iU (C cB:Addr) (vs:List V) (H:Hp) (Q:VK) (E:XK):Prop
 | mk (x:Addr) (us:List V) (bs:List (Str × Nat)) (rk:List (Str × Nat × Int)) (ks:List R) (ls:List (List Ln:_)) (sts:List Nat) (v:V):vs=[.ref x,v]->Ip C H x us bs rk ks ls sts->Cm H v->(∀ n∈bs.map (·.1),isNm n)->(bs.map (·.1)).Nodup->ks.length<=100->(∀ r∈ks,∃ b∈bs,∃ rs,r.rest=.str b.1::rs)->(∀ t H',An H H'->v=.str t->t∈bs.map (·.1)->Q (.int ((JL ks t:Nat):Int)) H')->(∀ H',An H H'->Ge (bs.map (·.1)) v=.non->E (.ref cB) none H')->iU C cB vs H Q E
theorem nq:Aq D9 uA (Ac rO):=Bf
include N T in
theorem oY:Ao P w K mg base (Gh P w) 5 aD.fKb aD.dKb uA (iU C cB):=by
 have B:Ao P w K mg base (Gh P w) 4 aD.fBn aD.dBn uA (Zv C cB):=bF N T
 refine N.FKb.1.Jl nq λH vs Q E d h=>?_
 obtain⟨x,us,bs,rk,a,ls,p,v,rfl,O,hv,G,nd,hl,oI,q,qe⟩:=h
 have hu:=CN d
 refine⟨_,(Af (Bh (i:=2) nq.nd rfl (Or.inr rfl) (Ai B (ad d) rfl N.FBn.2.2 N.FBn.1.kp N.FBn.2.1 .nil Dk (Aa (pv 0) (Aa (pv 1) Ab))))
  (Ag (Ax (zC (NB N T) d rfl N.FSt (Aa (Br rfl (Be (osc:=Ac rO) (N:=D9) rfl rfl (by decide)) (Dv rfl T.range (Aa (BJ BL rfl T.len aS (Aa (Bg (pv 0) T.cl N.FOz.2.2 (YD N T) (ad d) N.FOz.2.1 .nil Am) Ab)) Ab)) (λ_ _ _ _=>(GC (BR Cj (Bq (pv 1) T.cl N.FBk.2.2 (Tj N T) (ad d) N.FBk.2.1 .nil Am (Aa (pv 0) Ab)) (pv 3) (BX _)))) (λ_ _ _ _=>(pv 0))) Ab))))),?_⟩
 refine⟨_,rfl,_,rfl,x,us,bs,rk,a,ls,p,v,rfl,O,hv,G,λt X l Z m=>?_,λX l e=>qe X l e⟩
 subst Z
 have u:=O.mono l
 obtain⟨⟨⟨dx,fs,_,_,_,_,_,_,_,_,h1,_,_,_,_,lm,_⟩,_⟩,_⟩:=id u.o
 refine⟨_,rfl,x,dx,fs,rfl,h1,lm _ (by decide),x,_,_,rfl,u.o.o,λD2 F H2 nt W q2 p2=>?_⟩
 have I:F.length=a.length:=p2.length.symm
 refine⟨D2,_,rfl,kL (.inl q2),_,rfl,by omega,by omega,I_ (lo:=0) (n:=F.length) (λz=>Yd a t z.toNat) (λz=>.int z) (BK (by omega)) (λi hi f U R g=>?_) (λi hi _ f U R g=>⟨_,rfl,g f (An.refl f)⟩) (λD3 H3 Cf s3 S=>?_)⟩
 ·have ei:(0:Int)+((i:Nat):Int)=((i:Nat):Int):=by omega
  rw[ei] at g |-
  obtain⟨r,d⟩:∃ r,a[i]? = some r:=⟨_,ae (by omega)⟩
  obtain⟨b,hb,L,M⟩:=oI r (ai d)
  obtain⟨j,J⟩:=ee hb
  have e1:Yd a t i=decide (V.int ((j:Nat):Int)=V.int (((bs.map (·.1)).idxOf t:Nat):Int)):=by
   unfold Yd
   rw[d]
   show decide (r.rest.head? = some (V.str t))=_
   rw[M,decide_eq_decide]
   have c:(bs.map (·.1))[j]? = some b.1:=by rw[am,J];rfl
   constructor
   ·intro z
    have o:b.1=t:=V.str.inj (Option.some.inj z)
    rw[o] at c
    have y:=(ag.mp c).1
    rw[(List.getElem?_inj y nd).mp (c.trans (Js m).symm)]
   ·intro z
    have o:j=(bs.map (·.1)).idxOf t:=by have:=V.int.inj z;omega
    rw[o,Js m] at c
    show some (V.str b.1)=some (V.str t)
    rw[<-Option.some.inj c]
  obtain⟨A,rn,rr⟩:=r
  obtain rfl:rr=.str b.1::L:=M
  have Y:=(u.mono W).mono U
  obtain⟨⟨⟨vj,pT,_,_,_,_,_,_,_,_,s,_,_,_,_,D,_⟩,_⟩,_⟩:=id Y.o
  refine⟨_,rfl,x,vj,pT,rfl,s,D _ (by decide),_,rfl,x,bs,a,i,j,b,A,rn,L,rfl,Y.o.o,d,J,_,rfl,rfl,_,rfl,?_⟩
  have:=g f (An.refl f)
  rw[bp,e1] at this
  exact this
 have el:((((List.range F.length).map λ(i:Nat)=>(0:Int)+(i:Int)).filter λz=>Yd a t z.toNat).map λz=>V.int z)=nV ((List.range a.length).filter (Yd a t)):=by
  rw[I,eR,aE]
  have ef:((λz:Int=>Yd a t z.toNat) ∘ λ(i:Nat)=>(0:Int)+(i:Int))=Yd a t:=by
   funext k
   show Yd a t ((0:Int)+(k:Int)).toNat=Yd a t k
   rw[gI,bp]
  rw[ef]
  unfold nV
  refine gS λk _=>?_
  show V.int ((0:Int)+(k:Int))=V.int (k:Int)
  rw[gI]
 rw[el] at S
 refine⟨D3,_,rfl,S,be (bt _ _) (by rw[gE];omega),λn G=>?_,λH4 s4=>q t H4 (l.trans (W.trans (s3.trans s4))) rfl m⟩
 have:=gc.mp (bg.mp G).1
 omega
structure jA (bs:List (Str × Nat)) (ks:List R):Prop where
 bn:∀ n∈bs.map (·.1),isNm n
 bd:(bs.map (·.1)).Nodup
 kn:∀ n∈Ij ks,isNm n
 kd:(Ij ks).Nodup
 kl:ks.length<=12
 kb:∀ r∈ks,∃ b∈bs,∃ rs,r.rest=.str b.1::rs
structure Eg (C Cy pE pA:Addr) (Ho H:Hp) (y x:Addr) (bs:List (Str × Nat)) (ks:List R) (sts:List Nat) (dr sh:Nat) (sd:Addr) (m:Nat->Option Ps) (c:Nat):Prop where
 o:∃ us rk ls,eZ C Cy Ho H y x us bs rk ks ls sts dr sh sd
 f:jA bs ks
 hs:Ho sd=none
 ny:sd ≠ y
 st:WD pE pA H sd m c
section
variable {y x:Addr} {bs:List (Str × Nat)} {Ev EJ:Nat} {m m':Nat->Option Ps} {c c':Nat}
theorem Eg.ok (h:Eg C Cy pE pA Ho H y x bs ks sts dr sh sd m c):GF C Cy Ho H y x ks sts dr sh sd:=by
 obtain⟨a,rk,b,d⟩:=h.o
 exact⟨⟨a,bs,rk,b,d⟩,h.f.kn,by have:=h.f.kl;omega⟩
theorem Eg.mono (s:An H H') (h:Eg C Cy pE pA Ho H y x bs ks sts dr sh sd m c):Eg C Cy pE pA Ho H' y x bs ks sts dr sh sd m c:=by
 obtain⟨a,rk,b,d⟩:=h.o
 exact⟨⟨a,rk,b,d.mono s⟩,h.f,h.hs,h.ny,h.st.mono s⟩
theorem Eg.at (h:Eg C Cy pE pA Ho H y x bs ks sts dr sh sd m c):Dn Cy H y x dr sh sd:=by
 obtain⟨b,rk,d,a⟩:=h.o
 exact a.c
theorem Eg.not (h:Eg C Cy pE pA Ho H y x bs ks sts dr sh sd m c) {o:Addr} {ps:Ps} (f:HN pE pA H o ps):o ≠ y/\o ≠ sd:=by
 obtain⟨q,fs,g,i,_⟩:=h.at.ex
 obtain⟨j,n,_⟩:=h.st.ex
 have d:∃ c a b,H o=some (.ins c a b)/\b.lookup ("organ" : Str)=none:=by
  cases ps with
  | every k =>
   obtain⟨a,e⟩:=f
   exact⟨_,_,_,e,by rw[List.lookup_cons,show (("organ" : Str) == "knob_set")=false by decide];rfl⟩
  | part k w =>
   obtain⟨a,e⟩:=f
   exact⟨_,_,_,e,by rw[List.lookup_cons,show (("organ" : Str) == "knob_set")=false by decide];show List.lookup _ _=none;rw[List.lookup_cons,show (("organ" : Str) == "whole_set")=false by decide];rfl⟩
 obtain⟨p,a,b,e,l⟩:=d
 refine⟨λz=>?_,λz=>by rw[z,n] at e;cases e⟩
 rw[z,g] at e
 cases e
 rw[i] at l
 cases l
theorem Eg.put (h:Eg C Cy pE pA Ho H y x bs ks sts dr sh sd m c) (s:SX y H H') (a:Dn Cy H' y x Ev EJ sd):Eg C Cy pE pA Ho H' y x bs ks sts Ev EJ sd m c:=by
 obtain⟨l,rk,j,d⟩:=h.o
 obtain⟨f,u,t,v,i⟩:=h.st.ex
 refine⟨⟨l,rk,j,d.o,λb o e=>s b o (d.s b o e) (Aj e d.n),d.n,a⟩,h.f,h.hs,h.ny,f,s _ _ u h.ny,t,v,λp q n r=>?_⟩
 obtain⟨o,k,g⟩:=i p q n r
 exact⟨o,k,g.keep λ_ _ _ e=>s _ _ e (h.not g).1⟩
end
def Lr (m:Nat->Option Ps) (p:Nat) (ps:Ps):Nat->Option Ps:=λq=>if q=p then some ps else m q
theorem ZJ (kvs:List (Key × V)) (k:Key) (v:V):(putK kvs k v).length<=kvs.length+1:=by
 unfold putK
 split
 ·rw[af]
  omega
 ·rw[al]
  exact ah _
theorem Qk {v:V} (h:Jz v=true):∃ p:Nat,v=.int (p:Nat)/\p<10:=by
 cases v with
 | int i =>
  have a:(decide (0<=i) && decide (i<10))=true:=h
  rw[ff,decide_eq_true_eq,decide_eq_true_eq] at a
  obtain⟨j,rfl⟩:=gX a.1
  exact⟨j,rfl,by omega⟩
 | _=>cases h
theorem gQ {p:Nat} (h:p<10):Jz (.int (p:Nat))=true:=by
 show (decide (0<=(p:Int)) && decide ((p:Int)<10))=true
 rw[decide_eq_true (fE p),decide_eq_true (by omega)]
 rfl
section
variable {y x:Addr} {bs:List (Str × Nat)} {Ev EJ:Nat} {m m':Nat->Option Ps} {c c':Nat}
theorem Eg.keep (h:Eg C Cy pE pA Ho H y x bs ks sts dr sh sd m c) {p:Nat} {ps:Ps} {o:Addr} (e:H sd=some (.dK kvs)) (F:kvs.length<=c) (t:∀ p,p<10->m p=none->Ce kvs (Sum.inl (p:Nat))=none) (u:∀ p ps,p<10->m p=some ps->∃ o,Ce kvs (Sum.inl (p:Nat))=some (.ref o)/\HN pE pA H o ps) (l:HN pE pA H o ps) :
  Eg C Cy pE pA Ho (upd H sd (.dK (putK kvs (Sum.inl (p:Nat)) (.ref o)))) y x bs ks sts dr sh sd (Lr m p ps) (c+1):=by
 obtain⟨w,rk,v,g⟩:=h.o
 have up:SX sd H (upd H sd (.dK (putK kvs (Sum.inl (p:Nat)) (.ref o)))):=SX.up
 have j:∀ {o ps},HN pE pA H o ps->HN pE pA (upd H sd (.dK (putK kvs (Sum.inl (p:Nat)) (.ref o)))) o ps:=λ{_ _} f=>f.keep λ_ _ _ e=>by
  rw[Aw (h.not f).2]
  exact e
 have ne:∀ q:Nat,¬ q=p->¬ (Sum.inl ((q:Nat):Int):Key)=Sum.inl ((p:Nat):Int):=λq d z=>d (by have:=Sum.inl.inj z;omega)
 refine⟨⟨w,rk,v,g.o,λb k i=>up b k (g.s b k i) (λz=>by rw[z,h.hs] at i;cases i),g.n,?_⟩,h.f,h.hs,h.ny,_,Al,be (ZJ _ _ _) (by omega),λq d a=>?_,λq r d a=>?_⟩
 ·obtain⟨E,fs,B,s⟩:=g.c.ex
  exact⟨E,fs,by rw[Aw (Ne.symm h.ny)];exact B,s⟩
 ·unfold Lr at a
  by_cases z:q=p
  ·rw[if_pos z] at a
   cases a
  ·rw[if_neg z] at a
   rw[Gv,if_neg (ne q z)]
   exact t q d a
 ·unfold Lr at a
  by_cases z:q=p
  ·rw[if_pos z] at a
   cases a
   subst z
   exact⟨o,by rw[Gv,if_pos rfl],l.keep λ_ _ _ e=>by rw[Aw (h.not l).2];exact e⟩
  ·rw[if_neg z] at a
   obtain⟨D,A,n⟩:=u q r d a
   exact⟨D,by rw[Gv,if_neg (ne q z)];exact A,n.keep λ_ _ _ e=>by rw[Aw (h.not n).2];exact e⟩
end
inductive gJ (C Cy pE pA:Addr) (vs:List V) (H:Hp) (Q:VK) (b9:XK):Prop
 | mk (Ho:Hp) (y x:Addr) (bs:List (Str × Nat)) (ks:List R) (sts:List Nat) (dr sh:Nat) (sd:Addr) (m:Nat->Option Ps) (c:Nat):vs=[.ref y]->Eg C Cy pE pA Ho H y x bs ks sts dr sh sd m c->(∀ H',SX y H H'->Eg C Cy pE pA Ho H' y x bs ks sts 0 0 sd m c->Q .non H')->gJ C Cy pE pA vs H Q b9
inductive fW (C Cy pE pA cP:Addr) (vs:List V) (H:Hp) (Q:VK) (E:XK):Prop
 | mk (Ho:Hp) (y x:Addr) (bs:List (Str × Nat)) (ks:List R) (sts:List Nat) (dr sh:Nat) (sd:Addr) (m:Nat->Option Ps) (c:Nat) (v:V):vs=[.ref y,v]->Eg C Cy pE pA Ho H y x bs ks sts dr sh sd m c->Cm H v->(∀ (p:Nat) ps H',v=.int (p:Nat)->p<10->m p=some ps->SX y H H'->Eg C Cy pE pA Ho H' y x bs ks sts (ps.put dr) sh sd m c->Q .non H')->(∀ H',An H H'->(∀ p:Nat,v=.int (p:Nat)->p<10->m p=none)->E (.ref cP) none H')->fW C Cy pE pA cP vs H Q E
inductive jD (C Cy pE pA cP cB:Addr) (vs:List V) (H:Hp) (Q:VK) (E:XK):Prop
 | mk (Ho:Hp) (y x:Addr) (bs:List (Str × Nat)) (ks:List R) (sts:List Nat) (dr sh:Nat) (sd:Addr) (m:Nat->Option Ps) (c:Nat) (v b:V):vs=[.ref y,v,b]->Eg C Cy pE pA Ho H y x bs ks sts dr sh sd m c->c<900->Cm H v->Cm H b->(∀ (p:Nat) H',v=.int (p:Nat)->p<10->b=.non->SX sd H H'->Eg C Cy pE pA Ho H' y x bs ks sts dr sh sd (Lr m p (.every dr)) (c+1)->Q .non H')->(∀ (p:Nat) t H',v=.int (p:Nat)->p<10->b=.str t->t∈bs.map (·.1)->SX sd H H'->Eg C Cy pE pA Ho H' y x bs ks sts dr sh sd (Lr m p (.part (dr &&& JL ks t) (JL ks t))) (c+1)->Q .non H')->(∀ H',An H H'->Jz v=false->E (.ref cP) none H')->(∀ H',An H H'->Jz v=true->b ≠ .non->Ge (bs.map (·.1)) b=.non->E (.ref cB) none H')->jD C Cy pE pA cP cB vs H Q E
theorem xT:Aq sN sN (Ac tH):=Bf
include N T in
theorem lY:Ao P w K mg base Bb 2 aD.fXc aD.dXc sN (gJ C Cy pE pA):=by
 refine N.FXc.1.DQ xT λH R Q E d h=>?_
 obtain⟨z,y,x,bs,M,n,k,o,u,m,c,rfl,O,q⟩:=h
 have B:=CN d
 refine⟨_,(Af (Bx (Bq (pv 0) T.clR N.FXd.2.2 (Sv N T) (ad d) N.FXd.2.1 .nil Am (Aa Ae Ab)))
  (Ag (DG (pv 0) Ae rfl))),?_⟩
 obtain⟨I,rk,S,D⟩:=id O.o
 obtain⟨v,fs,g,U,L,G,A,V,l⟩:=id D.c.ex
 refine⟨_,rfl,y,v,fs,rfl,g,l _ (by decide),y,x,k,o,u,0,rfl,D.c,λJ e b=>?_⟩
 obtain⟨a,F,p,t,s,j,r,f,i⟩:=id b.ex
 refine⟨_,rfl,y,Cy,a,_,rfl,p,T.clR,T.nr_shoe_step,by omega,?_⟩
 exact q _ (e.trans SX.up) ((O.put e b).put SX.up (Dn.jc 0 t s j r f i Al))
theorem vU:Aq BC BC (Ac uo):=Bf
include N T in
theorem jq:Ao P w K mg base (Gh P w) 3 aD.fXr aD.dXr BC (fW C Cy pE pA cP):=by
 refine N.FXr.1.Jl vU λH vs Q E g h=>?_
 obtain⟨Ho,y,x,bs,ks,S,i,U,r,m,c,v,rfl,O,I,q,A⟩:=h
 have t:=CN g
 refine⟨_,(Af (Bl (PW.pt (D_ (CG (CV (zC (bQ N T) g rfl N.FIp (Aa (pv 1) Ab)))) (Do (RM (Mz t (pv 1) (Bc (pv 0) rfl)))))) (Ag (Fv T.x4.rP.ex rfl T.x4.mP rfl G8 (Aa BW Ab))) Ba)
  (Ag (Bx (Bq (pv 0) T.clR N.FXd.2.2 (Sv N T) (ad g) N.FXd.2.1 .nil Am (Aa (Xh (GJ t (Bc (pv 0) rfl) (pv 1) (λ_ _=>rfl)) T.pis.cE N.FEp.2.2 (oX N T) N.FEp.2.1 T.pis.cA N.FAp.2.2 (mF N T) N.FAp.2.1 (ad g) Am (Aa (Bc (pv 0) rfl) Ab)) Ab))))),?_⟩
 obtain⟨us,rk,ls,D⟩:=id O.o
 obtain⟨f,fs,b,l1,u,l3,s,l5,R⟩:=id D.c.ex
 obtain⟨Y,z,d2,M,W⟩:=id O.st.ex
 refine⟨_,rfl,v,rfl,I,_,rfl,?_⟩
 cases hb:Jz v with
 | false =>
  refine Dd ⟨by show 1<=1000;decide,A H (An.refl H) λp l d=>?_⟩
  rw[l,gQ d] at hb
  cases hb
 | true =>
  obtain⟨p,rfl,d⟩:=Qk hb
  refine Bk ⟨_,rfl,_,rfl,y,Cy,f,_,_,rfl,b,T.clR,T.nr_stored,s,r,_,rfl,Ex.k (k:=Sum.inl ((p:Nat):Int)) z,_,rfl,?_⟩
  cases hm:m p with
  | none =>
   rw[M p d hm]
   exact Dd ⟨by show 1<=1000;decide,A H (An.refl H) λZ l _=>by rw[show Z=p by have:=V.int.inj l;omega];exact hm⟩
  | some j =>
   obtain⟨o,B,G⟩:=W p j d hm
   rw[B]
   refine Bk ⟨_,rfl,y,f,fs,rfl,b,R _ (by decide),_,rfl,y,Cy,f,_,_,rfl,b,T.clR,T.nr_stored,s,_,rfl,r,_,rfl,B ▸ Ex.k (k:=Sum.inl ((p:Nat):Int)) z,?_⟩
   have fin:∀ {E0:XK} (n:Nat),n=j.put i->Qh Cy [.ref y,.int (n:Nat)] H (λ_ L=>Q .non L) E0:=λn X=>⟨y,x,i,U,r,n,rfl,D.c,λH1 F J=>q p j H1 rfl d hm F (X ▸ O.put F J)⟩
   cases j with
   | every k =>
    obtain⟨a,e⟩:=G
    refine⟨o,a,_,rfl,by rw[List.lookup_cons,show (("put" : Str) == "knob_set")=false by decide];rfl,.inl ⟨e,_,rfl,y,Cy,f,_,_,rfl,b,T.clR,T.nr_drawn_set,u,o,a,k,i,rfl,e,fin k rfl⟩⟩
   | part k w0 =>
    obtain⟨a,e⟩:=G
    refine⟨o,a,_,rfl,by rw[List.lookup_cons,show (("put" : Str) == "knob_set")=false by decide];show List.lookup _ _=none;rw[List.lookup_cons,show (("put" : Str) == "whole_set")=false by decide];rfl,.inr ⟨e,_,rfl,y,Cy,f,_,_,rfl,b,T.clR,T.nr_drawn_set,u,o,a,k,w0,i,rfl,e,fin _ rfl⟩⟩
theorem qL:Aq ["self","piston","board","whole"] we (Ac VV):=Bf
include N T in
theorem oU:Ao P w K mg base (Gh P w) 6 aD.fXt aD.dXt we (jD C Cy pE pA cP cB):=by
 have Y:Ao P w K mg base (Gh P w) 5 aD.fKb aD.dKb uA (iU C cB):=oY N T
 refine N.FXt.1.Jl qL λH vs Q E s h=>?_
 obtain⟨Ho,y,x,bs,ks,u,l,sh,A,m,c,v,b,rfl,O,hc,hv,hb,q1,q2,I,L⟩:=h
 have hu:=CN s
 refine⟨_,(Af (Bl (CG (CV (zC (bQ N T) s rfl N.FIp (Aa (pv 1) Ab)))) (Ag (Fv T.x4.rP.ex rfl T.x4.mP rfl G8 (Aa BW Ab))) Ba)
  (Ag (Bl (BR Qt (pv 2) F_ (BX _)) (Ag (Ia hu (Bc (pv 0) rfl) (pv 1) (JQ N.FPi.2.2 (a_ N T) (s.mono (by decide)) rfl T.pis.mE N.FPi.2.1 .nil Am (Aa (Bc (pv 0) rfl) Ab)) rfl)) (Af (Bh (i:=3) qL.nd rfl (Or.inl rfl) (Ai Y (ad s) rfl N.FKb.2.2 N.FKb.1.kp N.FKb.2.1 .nil Dk (Aa (Bc (pv 0) rfl) (Aa (pv 2) Ab))))
  (Ag (Ia hu (Bc (pv 0) rfl) (pv 1) (JQ N.FAi.2.2 (nF N T) (s.mono (by decide)) rfl T.pis.mA N.FAi.2.1 .nil Am (Aa (BZ JG (Bc (pv 0) rfl) (pv 3)) (Aa (pv 3) Ab))) rfl)))))),?_⟩
 obtain⟨us,rk,ls,D⟩:=id O.o
 obtain⟨B,fs,r,l1,l2,l3,Z,l5,lm⟩:=id D.c.ex
 refine⟨_,rfl,v,rfl,hv,_,rfl,?_⟩
 cases hk:Jz v with
 | false=>exact Dd ⟨by show 1<=1000;decide,I H (An.refl H) hk⟩
 | true =>
  obtain⟨p,rfl,hp⟩:=Qk hk
  refine Bk ?_
  have q:∀ f,An H f->∀ (o:Addr) (S:Ps),HN pE pA f o S->∃ g,MF f A (.int ((p:Nat):Int)) (.ref o) g/\SX A H g/\Eg C Cy pE pA Ho g y x bs ks u l sh A (Lr m p S) (c+1):=λf j o S EU=>by
   obtain⟨ab,d1,d2,d3,d4⟩:=(O.mono j).st.ex
   exact⟨_,MF.k (k:=Sum.inl ((p:Nat):Int)) d1 (BK (by omega)),(SX.of j).trans SX.up,(O.mono j).keep d1 d2 d3 d4 EU⟩
  by_cases M:b=.non
  ·subst M
   refine⟨_,rfl,rfl,_,rfl,Dd ⟨_,rfl,y,Cy,B,_,_,rfl,r,T.clR,T.nr_drawn_set,l2,λo d z J G=>?_⟩⟩
   refine⟨o,pE,d,l,rfl,.inl rfl,Al,rfl,?_⟩
   have n:An H (upd (upd (upd H d (.own o)) o (.ins pE d [])) o (.ins pE d [("knob_set",.int (l:Nat))])):=λa ob e=>by
    rw[Aw (Aj e z),Aw (Aj e z),Aw (Aj e J)]
    exact e
   have F:HN pE pA (upd (upd (upd H d (.own o)) o (.ins pE d [])) o (.ins pE d [("knob_set",.int (l:Nat))])) o (.every l):=⟨d,Al⟩
   generalize (upd (upd (upd H d (.own o)) o (.ins pE d [])) o (.ins pE d [("knob_set",.int (l:Nat))]))=f at n F |-
   obtain⟨g,R,X,U⟩:=q f n o _ F
   exact⟨_,rfl,y,Cy,B,_,_,rfl,n _ _ r,T.clR,T.nr_stored,Z,_,rfl,A,g,rfl,R,q1 p g rfl hp rfl X U⟩
  ·have W:(decide (b=V.non))=false:=decide_eq_false M
   refine⟨_,rfl,rfl,_,rfl,?_⟩
   rw[W]
   refine Bk ?_
   refine⟨_,rfl,y,Cy,B,_,_,rfl,r,T.clR,T.nr_organ,l1,_,rfl,x,us,bs,rk,ks,ls,u,b,rfl,D.o.mono D.s,hb,O.f.bn,O.f.bd,be O.f.kl (by decide),O.f.kb,λt f j ev ht=>?_,λf j e=>L f j hk M e⟩
   subst ev
   refine⟨_,rfl,y,Cy,B,_,_,rfl,j _ _ r,T.clR,T.nr_drawn_set,l2,_,rfl,_,_,rfl,rfl,_,rfl,λo d z J G=>?_⟩
   try dsimp only
   rw[K7]
   refine⟨o,d,_,_,rfl,Al,λg c2 F=>⟨rfl,?_⟩⟩
   have n:An f g:=λa ob e=>c2 a ob (by rw[Aw (Aj e z),Aw (Aj e J)];exact e) (Aj e z)
   obtain⟨H3,R,X,U⟩:=q g (j.trans n) o _ F
   exact⟨_,rfl,y,Cy,B,_,_,rfl,n _ _ (j _ _ r),T.clR,T.nr_stored,Z,_,rfl,A,H3,rfl,R,q2 p t H3 rfl hp rfl ht X U⟩
inductive dH (K:W.Frag) (vs:List V) (H:Hp) (Q:VK) (b9:XK):Prop
 | mk (a:Addr) (k:Nat) (ns:List Int):vs=[.ref a,.int (k:Nat)]->Dc K H a (ns.map V.int)->Q (.int (ns.getD k 0)) H->dH K vs H Q b9
theorem xm:Aq wf wf (Ac xK):=Bf
include N T in
theorem lE:Ao P w K mg base Bb 1 aD.fCe aD.dCe wf (dH K):=by
 refine N.FCe.1.DQ xm λH i Q E g h=>?_
 obtain⟨a,k,d,rfl,f,q⟩:=h
 refine⟨_,(Af (Bl (BR HF (pv 1) (BJ BL rfl T.len aS (Aa (pv 0) Ab)) (BX _)) (Ag (Ax (Az Ea (pv 0) (pv 1) (λ_ _=>rfl)))) Ba)
  (Ag (Ax Ae))),?_⟩
 refine⟨_,rfl,_,rfl,a,_,rfl,.inl f,_,_,rfl,rfl,_,rfl,?_⟩
 rw[cc] at q
 refine C_ (λe=>?_) (λe=>?_)
 ·have b:k<d.length:=by have:=of_decide_eq_true e;rw[af] at this;omega
  rw[ae b] at q
  exact⟨_,rfl,_,rfl,a,_,_,.int d[k],rfl,rfl,f,Ah (by rw[am,ae b];rfl),q⟩
 ·have c:d.length<=k:=by
   rw[af,decide_eq_true_eq] at e
   omega
  rw[dE c] at q
  exact q
theorem vf:Aq Fr Fr (Ac uP):=Bf
include N T in
theorem cL:Ao P w K mg base Bb 1 aD.fLw aD.dLw Fr Qg:=by
 refine N.FLw.1.DQ vf λH b Q E a h=>?_
 obtain⟨i,rfl,q⟩:=h
 refine⟨_,(Ag (Ax (Di (BJ CQ rfl T.isin aI (Aa (pv 0) (Aa (DX (v:=.ty "int") rfl T.int fA rfl) Ab))) (Df (Nx (BJ CQ rfl T.isin aI (Aa (pv 0) (Aa (DX (v:=.ty "bool") rfl T.bool iO rfl) Ab)))))))),?_⟩
 refine⟨_,rfl,_,"int",_,_,rfl,.int i,ty_int,_,rfl,Dd ?_⟩
 exact⟨_,rfl,_,"bool",_,_,rfl,.int i,WY,_,rfl,q⟩
def Kf (c b m:Int):Int:=(c % 1000003+7) * b % 2147483647 * ((c % 1000003+7) * b % 2147483647) % 2147483629 / 64 % m
theorem Qi (c b:Int) {m:Int} (a:0<m):0<=Kf c b m/\Kf c b m<m:=⟨iL _ (by omega),hU _ a⟩
inductive iw (vs:List V) (H:Hp) (Q:VK) (b9:XK):Prop
 | mk (c b m:Int):vs=[.int c,.int b,.int m]->0<m->0<=b->b<4611686018427387904->Q (.int (Kf c b m)) H->iw vs H Q b9
theorem qX:Aq ["_law_cell","_law_by","_law_many","_law_number"] z4 (Ac vy):=Bf
include N T in
theorem jo:Ao P w K mg base Bb 1 aD.fMi aD.dMi z4 iw:=by
 refine N.FMi.1.DQ qX λH g Q E f h=>?_
 obtain⟨c,b,m,rfl,d,j,a,q⟩:=h
 refine⟨_,(Af (Bh (i:=3) qX.nd rfl (Or.inl rfl) (BZ Fj (BZ Hl (BZ CW (BZ Fj (pv 0) Ae) Ae) (pv 1)) Ae))
  (Ag (Ax (BZ Fj (BZ N7 (BZ Fj (BZ Hl (pv 3) (pv 3)) Ae) Ae) (pv 2))))),?_⟩
 refine⟨_,rfl,_,_,rfl,rfl,(by show (0:Int)<1000003;decide),_,_,rfl,rfl,_,rfl,_,_,rfl,rfl,.inr ⟨by omega,by omega⟩,_,_,rfl,rfl,(by show (0:Int)<2147483647;decide),?_⟩
 have e:0<=(c % 1000003+7) * b % 2147483647:=iL _ (by decide)
 have k:(c % 1000003+7) * b % 2147483647<2147483647:=hU _ (by decide)
 exact⟨_,rfl,_,rfl,_,_,rfl,rfl,.inl ⟨by omega,by omega⟩,_,_,rfl,rfl,(by show (0:Int)<2147483629;decide),_,_,rfl,rfl,⟨by decide,by decide⟩,_,rfl,_,_,rfl,rfl,d,q⟩
def SrcAt (H:Hp) (p:Addr):Prop:=∃ u s:Int,H p=some (.lst [.int u,.int s])/\0<=u/\0<=s/\s<2147483647
theorem SrcAt.mono (s:An H H') (h:SrcAt H p):SrcAt H' p:=by
 obtain⟨u,r,b,a⟩:=h
 exact⟨u,r,s _ _ b,a⟩
def Yb (H H':Hp) (p:Addr):Prop:=∀ b,b ≠ p->H' b=H b
inductive Y_ (K:W.Frag) (vs:List V) (H:Hp) (Q:VK) (b9:XK):Prop
 | mk (a:Addr) (k:Nat) (ns:List Int):vs=[.ref a,.int (k:Nat)]->Dc K H a (ns.map V.int)->k<=1000->(∀ p H',H p=none->An H H'->SrcAt H' p->Q (.ref p) H')->Y_ K vs H Q b9
theorem jQ:Aq ["_law_script","_law_k","_law_cell","_law_seed"] wf (Ac x_):=Bf
include N T in
theorem aY:Ao P w K mg base Bb 2 aD.fLo aD.dLo wf (Y_ K):=by
 refine N.FLo.1.DQ jQ λH j Q E f h=>?_
 obtain⟨a,k,d,rfl,e,i,q⟩:=h
 refine⟨_,(@Af _ _ _ _ _ (@Bo _ _ _ _ _ _ 2 jQ.nd rfl (Or.inl rfl) (zC (lE N T) f rfl N.FCe (@Ay _ _ _ _ _ rfl (pv 0) (@Ay _ _ _ _ _ rfl (pv 1) Ab))) (by kernel_rfl) (.inl rfl))
  (@Af _ _ _ _ _ (@Bo _ _ _ _ _ _ 3 jQ.nd rfl (Or.inl rfl) (BZ Fj (BZ Hl (BZ CW (BZ CW (BZ Fj (pv 2) Ae) (BZ Hl Ae (pv 1))) Ae) Ae) Ae) (by kernel_rfl) (.inl rfl))
  (@Ag _ _ _ (@Ax _ _ _ _ (@Dm _ _ _ _ (@Ay _ _ _ _ _ rfl (BZ Hl (pv 2) (Dg KD rfl T.int fA (@Ay _ _ _ _ _ rfl (DW bG (pv 2) (BZ RJ Ae Ae) (BX _)) Ab))) (@Ay _ _ _ _ _ rfl (pv 3) Ab))))))),?_⟩
 refine⟨_,rfl,_,rfl,a,k,d,rfl,e,?_⟩
 generalize d.getD k 0=c
 have g:0<=c % 1000003/\c % 1000003<1000003:=⟨iL _ (by decide),hU _ (by decide)⟩
 refine⟨_,rfl,_,_,rfl,rfl,(by show (0:Int)<1000003;decide),_,rfl,_,_,rfl,rfl,.inl ⟨by decide,by decide⟩,_,_,rfl,rfl,_,_,rfl,rfl,_,_,rfl,rfl,.inr ⟨by decide,by decide⟩,_,_,rfl,rfl,(by show (0:Int)<2147483647;decide),?_⟩
 refine⟨_,rfl,_,rfl,_,_,rfl,rfl,⟨by decide,by decide,by decide⟩,_,_,rfl,rfl,.inr ⟨_,rfl,_,_,rfl,rfl,.inr ⟨?_,?_⟩,_,rfl,CK (by simp),λp b=>?_⟩⟩
 ·split <;> decide
 ·split <;> decide
 ·refine q p _ b (BP b) ⟨_,_,Al,?_,iL _ (by decide),hU _ (by decide)⟩
  by_cases h:(10:Int) ^ (18:Int).toNat<=c
  ·rw[decide_eq_true h,if_pos rfl,kK]
   have:(0:Int)<=10 ^ (18:Int).toNat:=by decide
   omega
  ·rw[decide_eq_false h,if_neg fb,Int.mul_zero]
   decide
inductive Ve (vs:List V) (H:Hp) (Q:VK) (b9:XK):Prop
 | mk (p:Addr) (m:Int):vs=[.ref p,.int m]->SrcAt H p->0<m->m<1073741824->(∀ (z:Nat) H',((z:Nat):Int)<m->Yb H H' p->SrcAt H' p->Q (.int (z:Nat)) H')->Ve vs H Q b9
theorem pF:Aq ["_law_source_here","_law_many","_law_digit"] AD (Ac xR):=Bf
include N T in
theorem Xy:Ao P w K mg base Bb 1 aD.fDw aD.dDw AD Ve:=by
 refine N.FDw.1.DQ pF λH G Q E I h=>?_
 obtain⟨p,m,rfl,⟨u,a,l,v,n,o⟩,f,F,q⟩:=h
 refine⟨_,(@Af _ _ _ _ _ (@Bl _ _ _ _ _ _ _ _ (BR O3 (@Az _ _ _ _ _ _ _ Ea (pv 0) Ae (λ_ _=>rfl)) Ae (BX _)) (@Af _ _ _ _ _ (@Bo _ _ _ _ _ _ 2 pF.nd rfl (Or.inl rfl) (BZ Fj (@Az _ _ _ _ _ _ _ Ea (pv 0) Ae (λ_ _=>rfl)) (pv 1)) (by kernel_rfl) (.inl rfl))
  (@Af _ _ _ _ _ (Ra (BZ N7 (@Az _ _ _ _ _ _ _ Ea (pv 0) Ae (λ_ _=>rfl)) (pv 1)) (WK (pv 0) Ae set_list))
  (@Ag _ _ _ (@Ax _ _ _ _ (pv 2))))) Ba)
  (@Af _ _ _ _ _ (Ra (BZ Fj (BZ CW (BZ Hl (@Az _ _ _ _ _ _ _ Ea (pv 0) Ae (λ_ _=>rfl)) Ae) Ae) Ae) (WK (pv 0) Ae set_list))
  (@Ag _ _ _ (@Ax _ _ _ _ (BZ Fj (BZ N7 (BZ Fj (BZ Hl (@Az _ _ _ _ _ _ _ Ea (pv 0) Ae (λ_ _=>rfl)) (@Az _ _ _ _ _ _ _ Ea (pv 0) Ae (λ_ _=>rfl))) Ae) Ae) (pv 1)))))),?_⟩
 have A:∀ (z:Int) e,0<=z->z<m->Yb H e p->SrcAt e p->Q (.int z) e:=λz e C D=>by
  obtain⟨r,rfl⟩:=gX C
  exact q r e D
 have i:Dc K H p [V.int u,V.int a]:=.inl (.inl l)
 refine⟨_,rfl,p,_,_,_,rfl,rfl,i,Ah (j:=0) rfl,_,_,rfl,rfl,_,rfl,C_ (λg=>?_) (λg=>?_)⟩
 ·refine⟨_,rfl,p,_,_,_,rfl,rfl,i,Ah (j:=0) rfl,_,rfl,_,_,rfl,rfl,f,?_⟩
  refine⟨_,rfl,p,_,_,_,rfl,rfl,i,Ah (j:=0) rfl,_,rfl,_,_,rfl,rfl,⟨f,F⟩,_,rfl,p,_,0,0,rfl,rfl,l,rfl,?_⟩
  exact⟨_,rfl,A (u % m) _ (iL _ (by omega)) (hU _ f) (λb k=>Aw k) ⟨u / m,a,Al,Int.ediv_nonneg v (by omega),n,o⟩⟩
 ·refine⟨_,rfl,p,_,_,_,rfl,rfl,i,Ah (j:=1) rfl,_,_,rfl,rfl,.inr ⟨by decide,by decide⟩,_,_,rfl,rfl,_,_,rfl,rfl,(by show (0:Int)<2147483647;decide),_,rfl,p,_,1,1,rfl,rfl,l,rfl,?_⟩
  try dsimp only
  have y:=Int.emod_nonneg (a * 48271+11) (show (2147483647:Int) ≠ 0 by decide)
  have B:=Int.emod_lt_of_pos (a * 48271+11) (show (0:Int)<2147483647 by decide)
  generalize (a * 48271+11) % 2147483647=c at y B |-
  have s:upd H p (HO.lst ([V.int u,V.int a].set 1 (V.int c))) p=some (.lst [V.int u,V.int c]):=Al
  have x:Yb H (upd H p (HO.lst ([V.int u,V.int a].set 1 (V.int c)))) p:=λb k=>Aw k
  generalize upd H p (HO.lst ([V.int u,V.int a].set 1 (V.int c)))=t at s x |-
  have d:Dc K t p [V.int u,V.int c]:=.inl (.inl s)
  exact⟨_,rfl,p,_,_,_,rfl,rfl,d,Ah (j:=1) rfl,_,rfl,p,_,_,_,rfl,rfl,d,Ah (j:=1) rfl,_,_,rfl,rfl,.inl ⟨by omega,by omega⟩,_,_,rfl,rfl,(by show (0:Int)<2147483629;decide),_,_,rfl,rfl,⟨by decide,by decide⟩,_,rfl,_,_,rfl,rfl,f,A _ t (Int.emod_nonneg _ (by omega)) (Int.emod_lt_of_pos _ f) x ⟨u,c,s,v,y,B⟩⟩
def QF (c:Int):Nat:=(1+Kf c 950706376 8).toNat
theorem X4 (c:Int):1<=QF c/\QF c<=8:=by
 have:=Qi c 950706376 (m:=8) (by decide)
 unfold QF
 omega
theorem n_ (c:Int):1+Kf c 950706376 8=((QF c:Nat):Int):=by
 have:=Qi c 950706376 (m:=8) (by decide)
 unfold QF
 omega
def V0 (c:Int):Nat:=(Kf c 742938285 (QF c:Nat)).toNat
theorem bA (c:Int):V0 c<QF c/\Kf c 742938285 (QF c:Nat)=((V0 c:Nat):Int):=by
 have h:=Qi c 742938285 (m:=((QF c:Nat):Int)) (by have:=(X4 c).1;omega)
 unfold V0
 omega
def cF (c:Int) (n:Nat) (i:Int):Nat:=97+((Kf (c+i) 62089911 26+(n:Int) * (if decide (V.int i=V.int ((V0 c:Nat):Int))=true then 1 else 0)) % 26).toNat
theorem ut (c:Int) (n:Nat) (i:Int):97<=cF c n i/\cF c n i<=122:=by
 unfold cF
 have a:=Int.emod_nonneg (Kf (c+i) 62089911 26+(n:Int) * (if decide (V.int i=V.int ((V0 c:Nat):Int))=true then 1 else 0)) (show (26:Int) ≠ 0 by decide)
 have b:=Int.emod_lt_of_pos (Kf (c+i) 62089911 26+(n:Int) * (if decide (V.int i=V.int ((V0 c:Nat):Int))=true then 1 else 0)) (show (0:Int)<26 by decide)
 omega
def QS (c:Int) (n:Nat):List Nat:=(List.range (QF c)).map λj:Nat=>cF c n ((0:Int)+(j:Int))
def HJ (c:Int) (n:Nat):Str:=⟨(QS c n).toArray⟩
theorem TV (c:Int) (n:Nat):(QS c n).length=QF c:=by unfold QS;rw[List.length_map,List.length_range]
theorem aF (l:List Nat):Txt.join ("" : Str) (l.map λx=>(⟨#[x]⟩:Str))=(⟨l.toArray⟩:Str):=by
 have h:=RG l
 generalize Txt.join ("" : Str) (l.map λx=>(⟨#[x]⟩:Str))=z at h
 obtain⟨a⟩:=z
 have b:a.toList=l:=h
 rw[<-b]
theorem G9 (c:Int) (n:Nat):isNm (HJ c n):=by
 have d:(HJ c n).length=QF c:=by
  have:=TV c n
  show (QS c n).toArray.size=QF c
  rw[bE]
  exact this
 have b:=X4 c
 refine⟨by rw[d];exact b.1,by rw[d];exact b.2,λx e=>?_⟩
 have a:x∈QS c n:=e
 unfold QS at a
 obtain⟨j,_,rfl⟩:=ay.mp a
 exact ut c n _
theorem Jc {n':Nat} (h:n<26) (h':n'<26) (e:HJ c n=HJ c n'):n=n':=by
 have g:(QS c n).toArray=(QS c n').toArray:=congrArg Str.cps e
 have d:QS c n=QS c n':=by
  have:=congrArg Array.toList g
  exact this
 have f:=(bA c).1
 have a:(QS c n)[V0 c]? = (QS c n')[V0 c]?:=by rw[d]
 unfold QS at a
 rw[am,am,List.getElem?_range f] at a
 have b:cF c n ((0:Int)+((V0 c:Nat):Int))=cF c n' ((0:Int)+((V0 c:Nat):Int)):=Option.some.inj a
 unfold cF at b
 rw[gI,decide_eq_true rfl,if_pos rfl,kK,kK] at b
 generalize Kf (c+((V0 c:Nat):Int)) 62089911 26=x at b
 omega
theorem Yo {l:List Nat} (h:l.length<=8):JoinOk ("" : Str) (l.map λx=>(⟨#[x]⟩:Str))=true:=by
 refine PyProof.Rows.joinOk_of_weight ?_ (by decide)
 rw[aE,af]
 have b:(l.map ((λx:Str=>x.length) ∘ λx=>(⟨#[x]⟩:Str))).sum=l.length:=by
  clear h
  induction l with
  | nil=>rfl
  | cons a l c =>
   rw[dc,ko,c,bo]
   show 1+l.length=l.length+1
   omega
 rw[b]
 omega
inductive cU (vs:List V) (H:Hp) (Q:VK) (b9:XK):Prop
 | mk (c:Int) (n:Nat):vs=[.int c,.int (n:Nat)]->n<=100->(∀ H',An H H'->Q (.str (HJ c n)) H')->cU vs H Q b9
theorem ZL:Aq xC BT (Ac sV):=Bf
include N T in
theorem o6:Ao P w K mg base Bb 2 aD.fNa aD.dNa BT cU:=by
 refine N.FNa.1.DQ ZL λH t Q E d h=>?_
 obtain⟨c,n,rfl,s,q⟩:=h
 refine⟨_,(@Af _ _ _ _ _ (@Bo _ _ _ _ _ _ 2 ZL.nd rfl (Or.inr rfl) BW (by kernel_rfl) (.inl rfl))
  (@Af _ _ _ _ _ (@Bo _ _ _ _ _ _ 3 ZL.nd rfl (Or.inl rfl) (BZ CW Ae (zC (jo N T) d rfl N.FMi (@Ay _ _ _ _ _ rfl (pv 0) (@Ay _ _ _ _ _ rfl Ae (@Ay _ _ _ _ _ rfl Ae Ab))))) (by kernel_rfl) (.inl rfl))
  (@Af _ _ _ _ _ (@Bo _ _ _ _ _ _ 4 ZL.nd rfl (Or.inr rfl) (zC (jo N T) d rfl N.FMi (@Ay _ _ _ _ _ rfl (pv 0) (@Ay _ _ _ _ _ rfl Ae (@Ay _ _ _ _ _ rfl (pv 3) Ab)))) (by kernel_rfl) (.inl rfl))
  (@Ag _ _ _ (@Ax _ _ _ _ (Gj PySem.F.plainAttrs_str PySem.F.slot_str_join PySem.F.type_str_join Y8 BW (@Ay _ _ _ _ _ rfl (Br rfl (Be (osc:=Ac sV) (N:=xC) rfl rfl (by decide)) (Dv rfl T.range (@Ay _ _ _ _ _ rfl (pv 3) Ab)) (λ_ _ _ _=>Cv) (λ_ _ _ _=>(@Az _ _ _ _ _ _ _ jL (pv 3) (BZ Fj (BZ CW (zC (jo N T) d rfl N.FMi (@Ay _ _ _ _ _ rfl (BZ CW (pv 1) (pv 0)) (@Ay _ _ _ _ _ rfl Ae (@Ay _ _ _ _ _ rfl Ae Ab)))) (BZ Hl (pv 2) (Dg KD rfl T.int fA (@Ay _ _ _ _ _ rfl (DW Cj (pv 0) (pv 5) (BX _)) Ab)))) Ae) (λ_ _=>rfl)))) Ab))))))),?_⟩
 have u:=X4 c
 have g:=bA c
 refine⟨_,rfl,c,950706376,8,rfl,by decide,by decide,by decide,_,_,rfl,rfl,?_⟩
 show Dh 3 (V.int (1+Kf c 950706376 8)) _ _ _
 rw[n_]
 refine⟨_,rfl,_,rfl,c,742938285,_,rfl,(by show (0:Int)<((QF c:Nat):Int);omega),by decide,by decide,?_⟩
 rw[g.2]
 refine⟨rfl,_,rfl,((QF c:Nat):Int),rfl,by omega,by omega,?_⟩
 rw[bp]
 refine I_ (lo:=0) (n:=QF c) (λ_=>true) (λi=>.str ⟨#[cF c n i]⟩) (BK (by omega)) (λi m b j R k=>k b (An.refl b)) (λi m _ b j R k=>?_) (λD r v f a=>?_)
 ·have p:=k b (An.refl b)
  refine⟨_,rfl,_,rfl,_,rfl,_,_,rfl,rfl,_,62089911,26,rfl,by decide,by decide,by decide,_,rfl,_,rfl,_,rfl,rfl,.inr ⟨_,rfl,_,_,rfl,rfl,.inl ⟨by omega,by omega⟩,_,_,rfl,rfl,_,_,rfl,rfl,(by show (0:Int)<26;decide),letters,_,_,rfl,rfl,CK (by decide),jO (Int.emod_nonneg _ (by decide)) (Int.emod_lt_of_pos _ (by decide)),p⟩⟩
 have o:((((List.range (QF c)).map λ(i:Nat)=>(0:Int)+(i:Int)).filter λ_=>true).map λi=>V.str ⟨#[cF c n i]⟩)=((QS c n).map λx=>(⟨#[x]⟩:Str)).map V.str:=by
  rw[ba.mpr (λ_ _=>rfl)]
  unfold QS
  rw[aE,aE,aE]
  rfl
 rw[o] at a
 have e:=Yo (l:=QS c n) (by rw[TV];omega)
 refine⟨("" : Str),D,_,rfl,rfl,kL a,e,?_⟩
 rw[aF]
 exact q r f
structure Gg (H H':Hp) (p:Addr):Prop where
 sx:∀ b o,H b=some o->b ≠ p->H' b=some o
 sr:SrcAt H' p
theorem SrcAt.some (h:SrcAt H p):∃ l,H p=some (.lst l):=by
 obtain⟨u,s,h,_⟩:=h
 exact⟨_,h⟩
theorem Gg.refl (h:SrcAt H p):Gg H H p:=⟨λ_ _ e _=>e,h⟩
theorem Gg.same (h:Gg H H1 p) (s:An H1 H2):Gg H H2 p:=⟨λb o e a=>s _ _ (h.sx b o e a),h.sr.mono s⟩
theorem Gg.draw (h:Gg H H1 p) (f:Yb H1 H2 p) (s:SrcAt H2 p):Gg H H2 p:=⟨λb o e a=>by rw[f b a];exact h.sx b o e a,s⟩
theorem Gg.trans (h:Gg H H1 p) (g:Gg H1 H2 p):Gg H H2 p:=⟨λb o e a=>g.sx b o (h.sx b o e a) a,g.sr⟩
theorem Gg.free (h:Gg H H' p) (a:H' D=none):H D=none:=by
 cases e:H D with
 | none=>rfl
 | some o =>
  by_cases b:D=p
  ·obtain⟨l,c⟩:=h.sr.some
   rw[b,c] at a
   cases a
  ·rw[h.sx D o e b] at a
   cases a
theorem Gg.ne (h:Gg H H' p) (a:H' D=none):D ≠ p:=λe=>by
 obtain⟨l,b⟩:=h.sr.some
 rw[e,b] at a
 cases a
theorem SrcAt.put (h:SrcAt H p) (b:D ≠ p):SrcAt (upd H D o) p:=by
 obtain⟨u,s,c,a⟩:=h
 exact⟨u,s,by rw[Aw (Ne.symm b)];exact c,a⟩
theorem Gg.put (h:Gg H H' p) (a:H D=none) (d:D ≠ p):Gg H (upd H' D o) p:=⟨λb u e c=>by rw[Aw (Aj e a)];exact h.sx b u e c,h.sr.put d⟩
theorem Gg.tup {v:V} (h:Gg H H' p) (a:SrcAt H p) (t:TupAt H xs v):TupAt H' xs v:=by
 obtain⟨T,rfl,e⟩:=t
 refine⟨T,rfl,h.sx T _ e λz=>?_⟩
 obtain⟨l,b⟩:=a.some
 rw[z,b] at e
 cases e
theorem Gg.Mj {α:Type} {f:α->List V} {l:List α} (h:Gg H H' p) (b:SrcAt H p) (t:Paired (λa v=>TupAt H (f a) v) l vs):Paired (λa v=>TupAt H' (f a) v) l vs:=Paired.J3 t λ_ _ z=>h.tup b z
def kR (cb:Nat->Str) (nm:Str):Kb->R
 | .cp i j s=>⟨"coupler",nm,[.str (cb i),.str (cb j),.int s]⟩
 | .pl w i=>⟨w,nm,[.str (cb i)]⟩
theorem Q5 (a:Nat->Str) (nm:Str) (z:Kb):(kR a nm z).w=z.w:=by cases z <;> rfl
theorem Mu (a:Nat->Str) (nm:Str) (z:Kb):(kR a nm z).nm=nm:=by cases z <;> rfl
def lR (rn:Nat->Str) (l:Ln):R:=⟨"line",rn l.r,[.int l.sh,.int l.lo,.int l.hi]⟩
abbrev nB (bs:List (Str × Nat)) (i:Nat):Str:=(bs.getD i ("",0)).1
abbrev zB (bs:List (Str × Nat)) (i:Nat):Nat:=(bs.getD i ("",0)).2
abbrev nR (rk:List (Str × Nat × Int)) (i:Nat):Str:=(rk.getD i ("",0,0)).1
def zc:Kb->Nat
 | .cp i _ _=>i
 | .pl _ i=>i
structure zj (bs:List (Str × Nat)) (rk:List (Str × Nat × Int)) (z:Kb) (l:List Ln):Prop where
 ok:z.ok bs.length
 len:l.length<=3
 ln:∀ x∈l,x.r<rk.length/\0<=x.lo/\x.lo<=x.hi/\x.hi<(zB bs (zc z):Nat) /\ -2<=x.sh/\x.sh<=5
 st:z.w ≠ "stop"->l=[]
 cp:∀ i j s,z=.cp i j s->-4<=s/\s<=4
theorem O4 {bs:List (Str × Nat)} {a:Nat} (h:a<bs.length):bs[a]? = some (nB bs a,zB bs a):=by
 unfold nB zB
 rw[cc,ae h]
 rfl
theorem nU {rk:List (Str × Nat × Int)} {a:Nat} (h:a<rk.length):∃ m wi,rk[a]? = some (nR rk a,m,wi):=by
 refine⟨rk[a].2.1,rk[a].2.2,?_⟩
 unfold nR
 rw[cc,ae h]
 rfl
theorem cM {c:TT} {t a u:TS} {D:Ends} (P:St->Hp->Prop) (d:∀ D':Ends,(∀ σ' H',P σ' H'->D'.nx σ' H')->cV c t a D' σ H) (b:∀ σ' H',P σ' H'->u D σ' H'):ik (cV c t a) u D σ H:=d { D with nx:=u D } b
theorem gN {v:V} {Q:St->Hp->Prop} (h:Q (σ.set i (some v)) H):Dh i v σ H Q:=h
inductive fY (vs:List V) (H:Hp) (Q:VK) (b9:XK):Prop
 | mk (p B RA:Addr) (bs:List (Str × Nat)) (rk:List (Str × Nat × Int)) (i3 kT:List V) (nm:Str):vs=[.ref p,.ref B,.ref RA,.str nm]->SrcAt H p->H B=some (.lst i3)->B ≠ p->Paired (λb v=>TupAt H (Ef b).v v) bs i3->1<=bs.length->bs.length<=5->(∀ b∈bs,1<=b.2/\b.2<=61)->H RA=some (.lst kT)->RA ≠ p->Paired (λr v=>TupAt H (FN r).v v) rk kT->1<=rk.length->rk.length<=12->(∀ (D:Addr) (ws:List V) (z:Kb) (l:List Ln) H',H D=none->Gg H H' p->H' D=some (.lst ws)->Paired (λ(r:R) v=>TupAt H' r.v v) (kR (nB bs) nm z::l.map (lR (nR rk))) ws->zj bs rk z l->Q (.ref D) H')->fY vs H Q b9
theorem Lk:Aq ["_law_source_here","_law_boards","_law_ranks","_law_name_here","_law_at","_law_way","_law_to","_law_rows_here","_law_k","_law_rank","_law_low","_law_high"] vx (Ac uR):=Bf
include N T in
theorem qi:Ao P w K mg base Bb 3 aD.fLj aD.dLj vx fY:=by
 refine N.FLj.1.DQ Lk λH vs Q E F h=>?_
 obtain⟨p,B,RA,bs,rk,i3,kT,A,rfl,M,J,S,yT,b1,b5,aZ,hR,Sj,xw,r1,a4,q⟩:=h
 refine⟨_,(@Af _ _ _ _ _ (@Bo _ _ _ _ _ _ 4 Lk.nd rfl (Or.inl rfl) (zC (Xy N T) F rfl N.FDw (@Ay _ _ _ _ _ rfl (pv 0) (@Ay _ _ _ _ _ rfl (BJ BL rfl T.len aS (@Ay _ _ _ _ _ rfl (pv 1) Ab)) Ab))) (by kernel_rfl) (.inl rfl))
  (@Af _ _ _ _ _ (@Bo _ _ _ _ _ _ 5 Lk.nd rfl (Or.inl rfl) (zC (Xy N T) F rfl N.FDw (@Ay _ _ _ _ _ rfl (pv 0) (@Ay _ _ _ _ _ rfl Ae Ab))) (by kernel_rfl) (.inl rfl))
  (@Af _ _ _ _ _ (@Bl _ _ _ _ _ _ _ _ (BR Cj (pv 5) Ae (BX _)) (@Ag _ _ _ (@Ax _ _ _ _ (@Dm _ _ _ _ (@Ay _ _ _ _ _ rfl (@Cq _ _ _ _ _ (@Ay _ _ _ _ _ rfl BW (@Ay _ _ _ _ _ rfl (pv 3) (@Ay _ _ _ _ _ rfl (@Az _ _ _ _ _ _ _ (Av (K:=K) rfl) (@Az _ _ _ _ _ _ _ (Bp (K:=K) rfl) (pv 1) (pv 4) (λ_ _=>rfl)) Ae (λ_ _=>rfl)) Ab)))) Ab)))) Ba)
  (@Af _ _ _ _ _ (@Bl _ _ _ _ _ _ _ _ (BR HF (pv 5) Ae (BX _)) (@Af _ _ _ _ _ (@Bo _ _ _ _ _ _ 6 Lk.nd rfl (Or.inl rfl) (@Az _ _ _ _ _ _ _ (Av (K:=K) rfl) (@Az _ _ _ _ _ _ _ (Bp (K:=K) rfl) (pv 1) (zC (Xy N T) F rfl N.FDw (@Ay _ _ _ _ _ rfl (pv 0) (@Ay _ _ _ _ _ rfl (BJ BL rfl T.len aS (@Ay _ _ _ _ _ rfl (pv 1) Ab)) Ab))) (λ_ _=>rfl)) Ae (λ_ _=>rfl)) (by kernel_rfl) (.inl rfl))
  (@Ag _ _ _ (@Ax _ _ _ _ (@Dm _ _ _ _ (@Ay _ _ _ _ _ rfl (@Cq _ _ _ _ _ (@Ay _ _ _ _ _ rfl BW (@Ay _ _ _ _ _ rfl (pv 3) (@Ay _ _ _ _ _ rfl (@Az _ _ _ _ _ _ _ (Av (K:=K) rfl) (@Az _ _ _ _ _ _ _ (Bp (K:=K) rfl) (pv 1) (pv 4) (λ_ _=>rfl)) Ae (λ_ _=>rfl)) (@Ay _ _ _ _ _ rfl (pv 6) (@Ay _ _ _ _ _ rfl (BZ Fw (zC (Xy N T) F rfl N.FDw (@Ay _ _ _ _ _ rfl (pv 0) (@Ay _ _ _ _ _ rfl Ae Ab))) Ae) Ab)))))) Ab))))) Ba)
  (@Af _ _ _ _ _ (@Bo _ _ _ _ _ _ 7 Lk.nd rfl (Or.inl rfl) (@Dm _ _ _ _ (@Ay _ _ _ _ _ rfl (@Cq _ _ _ _ _ (@Ay _ _ _ _ _ rfl BW (@Ay _ _ _ _ _ rfl (pv 3) (@Ay _ _ _ _ _ rfl (@Az _ _ _ _ _ _ _ (Av (K:=K) rfl) (@Az _ _ _ _ _ _ _ (Bp (K:=K) rfl) (pv 1) (pv 4) (λ_ _=>rfl)) Ae (λ_ _=>rfl)) Ab)))) Ab)) (by kernel_rfl) (.inl rfl))
  (@Af _ _ _ _ _ (Eh PassesOwn.never rfl (Dv rfl T.range (@Ay _ _ _ _ _ rfl (BZ CW Ae (zC (Xy N T) F rfl N.FDw (@Ay _ _ _ _ _ rfl (pv 0) (@Ay _ _ _ _ _ rfl Ae Ab)))) Ab)) (Ck (i:=8) Lk.nd rfl (Or.inl rfl)) (@Af _ _ _ _ _ (@Bo _ _ _ _ _ _ 9 Lk.nd rfl (Or.inl rfl) (@Az _ _ _ _ _ _ _ (Av (K:=K) rfl) (@Az _ _ _ _ _ _ _ (Bp (K:=K) rfl) (pv 2) (zC (Xy N T) F rfl N.FDw (@Ay _ _ _ _ _ rfl (pv 0) (@Ay _ _ _ _ _ rfl (BJ BL rfl T.len aS (@Ay _ _ _ _ _ rfl (pv 2) Ab)) Ab))) (λ_ _=>rfl)) Ae (λ_ _=>rfl)) (by kernel_rfl) (.inl rfl))
  (@Af _ _ _ _ _ (@Bo _ _ _ _ _ _ 10 Lk.nd rfl (Or.inl rfl) (zC (Xy N T) F rfl N.FDw (@Ay _ _ _ _ _ rfl (pv 0) (@Ay _ _ _ _ _ rfl (@Az _ _ _ _ _ _ _ (Av (K:=K) rfl) (@Az _ _ _ _ _ _ _ (Bp (K:=K) rfl) (pv 1) (pv 4) (λ_ _=>rfl)) Ae (λ_ _=>rfl)) Ab))) (by kernel_rfl) (.inl rfl))
  (@Af _ _ _ _ _ (@Bo _ _ _ _ _ _ 11 Lk.nd rfl (Or.inl rfl) (BZ CW (pv 10) (zC (Xy N T) F rfl N.FDw (@Ay _ _ _ _ _ rfl (pv 0) (@Ay _ _ _ _ _ rfl (BZ Fw (@Az _ _ _ _ _ _ _ (Av (K:=K) rfl) (@Az _ _ _ _ _ _ _ (Bp (K:=K) rfl) (pv 1) (pv 4) (λ_ _=>rfl)) Ae (λ_ _=>rfl)) (pv 10)) Ab)))) (by kernel_rfl) (.inl rfl))
  (@Af _ _ _ _ _ (@Bl _ _ _ _ _ _ _ _ (BR HF (pv 5) Ae (BX _)) (@Af _ _ _ _ _ (@Bo _ _ _ _ _ _ 10 Lk.nd rfl (Or.inl rfl) Ae (by kernel_rfl) (.inl rfl))
  (@Ag _ _ _ (@Bo _ _ _ _ _ _ 11 Lk.nd rfl (Or.inl rfl) (BZ Fw (@Az _ _ _ _ _ _ _ (Av (K:=K) rfl) (@Az _ _ _ _ _ _ _ (Bp (K:=K) rfl) (pv 1) (pv 4) (λ_ _=>rfl)) Ae (λ_ _=>rfl)) Ae) (by kernel_rfl) (.inl rfl)))) Ba)
  (@Ag _ _ _ (Bx (Gj ck cr cw DK (pv 7) (@Ay _ _ _ _ _ rfl (@Cq _ _ _ _ _ (@Ay _ _ _ _ _ rfl BW (@Ay _ _ _ _ _ rfl (pv 9) (@Ay _ _ _ _ _ rfl (BZ Fw (zC (Xy N T) F rfl N.FDw (@Ay _ _ _ _ _ rfl (pv 0) (@Ay _ _ _ _ _ rfl Ae Ab))) Ae) (@Ay _ _ _ _ _ rfl (pv 10) (@Ay _ _ _ _ _ rfl (pv 11) Ab)))))) Ab)))))))))
  (@Ag _ _ _ (@Ax _ _ _ _ (pv 7))))))))),?_⟩
 have lb:=yT.length
 have lr:=xw.length
 refine⟨_,rfl,_,rfl,B,_,rfl,kL (.inl J),p,_,rfl,M,(by show (0:Int)<((i3.length:Nat):Int);omega),(by show ((i3.length:Nat):Int)<1073741824;omega),λa H1 ha f1 vb=>?_⟩
 have St:Gg H H1 p:=(Gg.refl M).draw f1 vb
 have u:a<bs.length:=by omega
 obtain⟨bv,Y,LB⟩:=CP yT (O4 u)
 have LD:=aZ _ (ai (O4 u))
 refine⟨_,rfl,p,8,rfl,vb,by decide,by decide,λwy H2 a3 f2 w9=>?_⟩
 have k:=St.draw f2 w9
 refine⟨_,rfl,rfl,_,rfl,C_ (λg=>?_) (λg=>?_)⟩
 ·have II:=k.sx _ _ J S
  obtain⟨T,rfl,hT⟩:=k.tup M LB
  refine⟨_,rfl,_,rfl,_,rfl,B,_,_,_,rfl,rfl,kL II,Ah Y,T,_,_,_,rfl,rfl,kL hT,Ah (j:=1) rfl,by show 3<=sizeLine;decide,λc sA=>⟨CK (by simp),λD m=>?_⟩⟩
  have y:=BP (o:=HO.tup [V.str "mute",V.str A,V.str (nB bs a)]) sA
  have L:=BP (o:=HO.lst [V.ref c]) m
  exact q D [V.ref c] (.pl "mute" a) [] _ (k.free (y.free m)) (k.same (y.trans L)) Al (.cons ⟨c,rfl,L _ _ Al⟩ .nil) ⟨⟨u,.inl rfl⟩,by decide,(λ_ h=>nomatch h),λ_=>rfl,λ_ _ _ h=>nomatch h⟩
 refine⟨_,rfl,_,_,rfl,rfl,_,rfl,C_ (λg2=>?_) (λg2=>?_)⟩
 ·have II:=k.sx _ _ J S
  refine⟨_,rfl,_,rfl,_,rfl,B,_,rfl,kL (.inl II),p,_,rfl,w9,(by show (0:Int)<((i3.length:Nat):Int);omega),(by show ((i3.length:Nat):Int)<1073741824;omega),λb H3 hb f3 wx=>?_⟩
  have S3:=k.draw f3 wx
  have ac:b<bs.length:=by omega
  obtain⟨cv,aP,WV⟩:=CP yT (O4 ac)
  have Wp:=S3.sx _ _ J S
  obtain⟨T,rfl,hT⟩:=S3.tup M LB
  obtain⟨T2,rfl,oC⟩:=S3.tup M WV
  refine⟨B,_,_,_,rfl,rfl,kL Wp,Ah aP,T2,_,_,_,rfl,rfl,kL oC,Ah (j:=1) rfl,?_⟩
  refine⟨_,rfl,_,rfl,_,rfl,B,_,_,_,rfl,rfl,kL Wp,Ah Y,T,_,_,_,rfl,rfl,kL hT,Ah (j:=1) rfl,_,rfl,_,rfl,p,9,rfl,wx,by decide,by decide,λe H4 he f4 xL=>⟨_,_,rfl,rfl,by show 5<=sizeLine;decide,λc sA=>⟨CK (by simp),λD m=>?_⟩⟩⟩
  have X:=S3.draw f4 xL
  generalize an:upd H4 c _=s at m |-
  have y:An H4 s:=an ▸ BP sA
  have u6:s c=some (.tup (kR (nB bs) A (.cp a b (((e:Nat):Int) - 4))).v):=by
   rw[<-an,Al]
   rfl
  have L:=BP (o:=HO.lst [V.ref c]) m
  exact q D [V.ref c] (.cp a b (((e:Nat):Int) - 4)) [] _ (X.free (y.free m)) (X.same (y.trans L)) Al (.cons ⟨c,rfl,L _ _ u6⟩ .nil) ⟨⟨u,ac,by omega,by omega⟩,by decide,(λ_ h=>nomatch h),λ_=>rfl,λ_ _ _ h=>by injection h with _ _ h;omega⟩
 have II:=k.sx _ _ J S
 have a5:=k.sx _ _ hR Sj
 obtain⟨T,eT,hT⟩:=k.tup M LB
 subst eT
 refine⟨_,rfl,_,rfl,_,rfl,B,_,_,_,rfl,rfl,kL II,Ah Y,T,_,_,_,rfl,rfl,kL hT,Ah (j:=1) rfl,by show 3<=sizeLine;decide,λc sA=>⟨CK (by simp),λD m=>?_⟩⟩
 have y:=BP (o:=HO.tup [V.str "stop",V.str A,V.str (nB bs a)]) sA
 have u6:upd H2 c (HO.tup [V.str "stop",V.str A,V.str (nB bs a)]) c=some (.tup (kR (nB bs) A (.pl "stop" a)).v):=Al
 generalize upd H2 c (HO.tup [V.str "stop",V.str A,V.str (nB bs a)])=H3 at y u6 m |-
 obtain⟨H4,i7,L,u7⟩:=Em (o:=HO.lst [V.ref c]) m
 rw[i7]
 have X:=k.same (y.trans L)
 have ab:H D=none:=k.free (y.free m)
 have O:D ≠ p:=(k.same y).ne m
 refine⟨_,rfl,p,3,rfl,X.sr,by decide,by decide,λt H5 ht f5 rf=>⟨_,_,rfl,rfl,_,rfl,by omega,by omega,?_⟩⟩
 have S5:=X.draw f5 rf
 have u5:H5 D=some (.lst [V.ref c]):=by rw[f5 D O];exact u7
 have w5:TupAt H5 (kR (nB bs) A (.pl "stop" a)).v (.ref c):=by
  refine⟨c,rfl,?_⟩
  have h6:=L _ _ u6
  rw[f5 c λz=>?_]
  ·exact h6
  ·obtain⟨l,hl⟩:=X.sr.some
   rw[z,hl] at h6
   cases h6
 refine Fg (lo:=0) (n:=(1+((t:Nat):Int)).toNat) (λi σ s=>Gg H s p/\∃ (I:List V) (l:List Ln),s D=some (.lst I)/\Paired (λ(r:R) v=>TupAt s r.v v) (kR (nB bs) A (.pl "stop" a)::l.map (lR (nR rk))) I/\l.length=i/\(∀ x∈l,x.r<rk.length/\0<=x.lo/\x.lo<=x.hi/\x.hi<(zB bs a:Nat) /\ -2<=x.sh/\x.sh<=5)/\∃ v6 v8 v9 SA Tk,σ=[some (.ref p),some (.ref B),some (.ref RA),some (.str A),some (.int (a:Nat)),some (.int (wy:Nat)),v6,some (.ref D),v8,v9,SA,Tk])
  ⟨S5,[V.ref c],[],u5,.cons w5 .nil,rfl,(λ_ h=>nomatch h),_,_,_,_,_,rfl⟩ ?_ ?_
 ·rintro i σ s hi ⟨C,I,l,L6,G,hl,U,v6,v8,v9,SA,Tk,rfl⟩
  have a1:=C.sx _ _ hR Sj
  refine⟨_,rfl,_,rfl,_,rfl,RA,_,rfl,kL (.inl a1),p,_,rfl,C.sr,(by show (0:Int)<((kT.length:Nat):Int);omega),(by show ((kT.length:Nat):Int)<1073741824;omega),λr H7 F f7 tf=>?_⟩
  have ap:Gg s H7 p:=(Gg.refl C.sr).draw f7 tf
  have S7:=C.trans ap
  have aw:r<rk.length:=by omega
  obtain⟨rm,rw,aM⟩:=nU aw
  obtain⟨rv,Lm,aQ⟩:=CP xw aM
  obtain⟨T2,rfl,oC⟩:=S7.tup M aQ
  refine⟨RA,_,_,_,rfl,rfl,kL (S7.sx _ _ hR Sj),Ah Lm,T2,_,_,_,rfl,rfl,kL oC,Ah (j:=1) rfl,?_⟩
  have tb:∀ {H':Hp},Gg H H' p->H' T=some (.tup (Ef (nB bs a,zB bs a)).v):=λS'=>by
   obtain⟨T',e',a0⟩:=S'.tup M LB
   cases e'
   exact a0
  refine⟨_,rfl,_,rfl,_,rfl,B,_,_,_,rfl,rfl,kL (S7.sx _ _ J S),Ah Y,T,_,_,_,rfl,rfl,kL (tb S7),Ah (j:=2) rfl,p,_,rfl,tf,(by show (0:Int)<((zB bs a:Nat):Int);have:=LD.1;omega),(by show ((zB bs a:Nat):Int)<1073741824;have:=LD.2;omega),λlo H8 YR f8 vn=>?_⟩
  have ZN:=ap.draw f8 vn
  have S8:=C.trans ZN
  refine⟨_,rfl,_,rfl,_,rfl,_,rfl,B,_,_,_,rfl,rfl,kL (S8.sx _ _ J S),Ah Y,T,_,_,_,rfl,rfl,kL (tb S8),Ah (j:=2) rfl,_,rfl,_,_,rfl,rfl,p,_,rfl,vn,(by show (0:Int)<((zB bs a:Nat):Int) - ((lo:Nat):Int);omega),(by show ((zB bs a:Nat):Int) - ((lo:Nat):Int)<1073741824;have:=LD.2;omega),λd H9 hd f9 mI=>⟨_,_,rfl,rfl,?_⟩⟩
  have OF:=ZN.draw f9 mI
  have S9:=C.trans OF
  refine gN (i:=11) ?_
  try dsimp only
  refine cM (λσ' H'=>H'=H9/\∃ W Z:Int,0<=W/\W<=Z/\Z<((zB bs a:Nat):Int)/\σ'=[some (.ref p),some (.ref B),some (.ref RA),some (.str A),some (.int (a:Nat)),some (.int (wy:Nat)),v6,some (.ref D),some (.int ((0:Int)+(i:Int))),some (.str (nR rk r)),some (.int W),some (.int Z)]) (λD' Ix=>?_) ?_
  ·refine⟨_,rfl,_,_,rfl,rfl,_,rfl,C_ (λg3=>?_) (λg3=>?_)⟩
   ·refine⟨_,rfl,_,rfl,B,_,_,_,rfl,rfl,kL (S9.sx _ _ J S),Ah Y,T,_,_,_,rfl,rfl,kL (tb S9),Ah (j:=2) rfl,_,_,rfl,rfl,Ix _ _ ⟨rfl,0,((zB bs a:Nat):Int) - 1,by decide,by have:=LD.1;omega,by omega,rfl⟩⟩
   ·exact Ix _ _ ⟨rfl,((lo:Nat):Int),((lo:Nat):Int)+((d:Nat):Int),by omega,by omega,by have:=hd;omega,rfl⟩
  ·rintro σ' H' ⟨rfl,W,Z,w1,w2,w3,rfl⟩
   have dl:∀ {Hx:Hp},Gg s Hx p->Hx D=some (.lst I):=λS'=>S'.sx _ _ L6 O
   refine⟨_,rfl,.inl ⟨rfl,_,kL (dl OF)⟩,_,rfl,_,rfl,p,8,rfl,mI,by decide,by decide,λsh Ha a2 fa aC=>⟨_,_,rfl,rfl,_,rfl,_,rfl,by show 5<=sizeLine;decide,λT9 aB=>?_⟩⟩
   have Sa:=OF.draw fa aC
   generalize as:upd Ha T9 _=Hb
   have aK:An Ha Hb:=as ▸ BP aB
   have ub:Hb T9=some (.tup (lR (nR rk) ⟨r,((sh:Nat):Int) - 2,W,Z⟩).v):=by
    rw[<-as,Al]
    rfl
   have Sb:=Sa.same aK
   have pb:=dl Sb
   have aN:=G.length
   rw[bo,af] at aN
   refine⟨D,I,_,rfl,rfl,pb,BK (by omega),?_⟩
   refine⟨(C.trans Sb).put ab O,I++[V.ref T9],l++[⟨r,((sh:Nat):Int) - 2,W,Z⟩],Al,?_,by rw[al,ax,hl],λx hx=>?_,_,_,_,_,_,rfl⟩
   ·rw[cq]
    exact (Ci (Sb.Mj (f:=λr:R=>r.v) C.sr G) pb).snoc (TupAt.upd ⟨T9,rfl,ub⟩ pb)
   ·rcases bX.mp hx with hx | hx
    ·exact U x hx
    ·rw[av.mp hx]
     exact⟨aw,w1,w2,w3,by show (-2:Int)<=((sh:Nat):Int) - 2;omega,by show ((sh:Nat):Int) - 2<=5;omega⟩
 ·rintro σ s ⟨C,I,l,L6,G,hl,U,v6,v8,v9,SA,Tk,rfl⟩
  exact⟨_,rfl,q D I (.pl "stop" a) l s ab C L6 G ⟨⟨u,.inr rfl⟩,by omega,U,(λz=>absurd rfl z),λ_ _ _ h=>nomatch h⟩⟩
theorem KN {α:Type} {F:α->V->Prop} (p:α->Bool) (q:V->Bool):∀ {xs:List α} {ys:List V},Paired F xs ys->(∀ x y,x∈xs->F x y->q y=p x)->Paired F (xs.filter p) (ys.filter q)
 | [],_,h,_=>by
  cases h
  exact .nil
 | x::xs,_,h,e=>by
  cases h with
  | cons a b =>
   have c:=KN p q b λx y d h=>e x y (bq _ d) h
   rw[fg,fg,e x _ ce a]
   split
   ·exact .cons a c
   ·exact c
structure jz (K:W.Frag) (aB aP aM:Addr):Prop where
 f:Ye K aB aP aM
 mT:∃ t,W.nsIn K aM "step" = some (some (.int 12 t))
structure Od (c:Int) (bs:List (Str × Nat)) (rk:List (Str × Nat × Int)):Prop where
 b:∀ (j:Nat) b,bs[j]? = some b->b.1=HJ c j/\1<=b.2/\b.2<=61
 r:∀ (j:Nat) r,rk[j]? = some r->r.1=HJ c (3+j)/\1<=r.2.1/\r.2.1<=97/\0<=r.2.2/\r.2.2<=1000000000
 lb:bs.length<=3
 lr:rk.length<=3
theorem Od.nb {bs:List (Str × Nat)} {rk:List (Str × Nat × Int)} (h:Od c bs rk) (i:bs.length<=n) (d:n<26):∀ b∈bs,b.1 ≠ HJ c n:=λb f e=>by
 obtain⟨j,a⟩:=ee f
 have g:=(ag.mp a).1
 have:=h.lb
 have:=Jc (c:=c) (n:=j) (n':=n) (by omega) d ((h.b j b a).1.symm.trans e)
 omega
theorem Od.nr {bs:List (Str × Nat)} {rk:List (Str × Nat × Int)} (h:Od c bs rk) (i:3+rk.length<=n) (d:n<26):∀ r∈rk,r.1 ≠ HJ c n:=λb f e=>by
 obtain⟨j,a⟩:=ee f
 have g:=(ag.mp a).1
 have:=h.lr
 have:=Jc (c:=c) (n:=3+j) (n':=n) (by omega) d ((h.r j b a).1.symm.trans e)
 omega
theorem K5 {α:Type} {l:List α} {x y:α} (h:(l++[x])[j]? = some y):l[j]? = some y \/ (j=l.length/\y=x):=by
 by_cases a:j<l.length
 ·rw[fw a] at h
  exact .inl h
 ·have b:=(ag.mp h).1
  rw[al,ax] at b
  have e:j=l.length:=by omega
  subst e
  rw[dt (ah _),jv] at h
  exact .inr ⟨rfl,(Option.some.inj h).symm⟩
theorem Od.YL {bs:List (Str × Nat)} (h:Od c bs []) (f:bs.length<3) (e:1<=m) (d:m<=61):Od c (bs++[(HJ c bs.length,m)]) []:=by
 refine⟨λj b a=>?_,λj r a=>by simp at a,by rw[List.length_append,List.length_singleton];omega,by decide⟩
 rcases K5 a with a | ⟨rfl,rfl⟩
 ·exact h.b j b a
 ·exact⟨rfl,e,d⟩
theorem Od.rank {bs:List (Str × Nat)} {rk:List (Str × Nat × Int)} (h:Od c bs rk) (i:rk.length<3) {b:Int} (g:1<=m) (d:m<=97) (e:0<=b) (f:b<=1000000000):Od c bs (rk++[(HJ c (3+rk.length),m,b)]):=by
 refine⟨h.b,λj r a=>?_,h.lb,by rw[al,ax];omega⟩
 rcases K5 a with a | ⟨rfl,rfl⟩
 ·exact h.r j r a
 ·exact⟨rfl,g,d,e,f⟩
theorem Od.zY {bs:List (Str × Nat)} {rk:List (Str × Nat × Int)} (h:Od c bs rk):(bs.map (·.1)).Nodup:=by
 refine Mt λi j x e d=>?_
 rw[am] at e d
 obtain⟨l,a,f⟩:=aT.mp e
 obtain⟨g,b,k⟩:=aT.mp d
 have:=(ag.mp a).1
 have:=(ag.mp b).1
 have:=h.lb
 exact Jc (c:=c) (by omega) (by omega) ((h.b i l a).1.symm.trans ((f.trans k.symm).trans (h.b j g b).1))
theorem Od.zR {bs:List (Str × Nat)} {rk:List (Str × Nat × Int)} (h:Od c bs rk):(rk.map (·.1)).Nodup:=by
 refine Mt λi j x e d=>?_
 rw[am] at e d
 obtain⟨l,a,f⟩:=aT.mp e
 obtain⟨g,b,k⟩:=aT.mp d
 have:=(ag.mp a).1
 have:=(ag.mp b).1
 have:=h.lr
 have:=Jc (c:=c) (n:=3+i) (n':=3+j) (by omega) (by omega) ((h.r i l a).1.symm.trans ((f.trans k.symm).trans (h.r j g b).1))
 omega
def KZ (bs:List (Str × Nat)) (nms:List Str) (kbs:List Kb):List R:=List.zipWith (kR (nB bs)) nms kbs
abbrev UG (z:Kb):Bool:=!decide (V.str z.w=V.str "stop")
structure Ju (K:W.Frag) (aB aP aM:Addr) (c:Int) (k ld m:Nat) (bs:List (Str × Nat)) (rk:List (Str × Nat × Int)) (rows:List R) (nms:List Str) (kbs:List Kb) (ls:List (List Ln)) (sts:List Nat) (sn:List Str):Prop where
 bl:HS K aB aP aM rows bs rk (KZ bs nms kbs) ls sts
 ek:rows.filter (λr=>Gw r.w)=KZ bs nms kbs
 bd:Od c bs rk
 nl:nms.length=kbs.length
 nk:kbs.length<=k
 nm:∀ t∈nms,∃ j,j<k/\t=HJ c (6+j)
 nd:nms.Nodup
 kb:Ri bs.length kbs
 mu:(kbs.filter (GX "mute")).length<=5
 lq:(kbs.filter UG).length<=ld
 lg:fM rk ls
 sq:∀ t∈sn,∃ r∈KZ bs nms kbs,r.w = "stop" /\ r.nm=t
 sd:sn.Nodup
 sk:sn.length<=k
 rl:rows.length<=m
 st:sts.length<=2
theorem JV {α β γ:Type} (f:α->β->γ):∀ {l:List α} {m:List β} (a:α) (b:β),l.length=m.length->List.zipWith f (l++[a]) (m++[b])=List.zipWith f l m++[f a b]
 | [],[],_,_,_=>rfl
 | x::l,y::m,a,b,h=>by
  show f x y::List.zipWith f (l++[a]) (m++[b])=_
  rw[JV f a b (Nat.succ.inj h)]
  rfl
theorem NZ {bs:List (Str × Nat)} (h:r∈KZ bs nms kbs):∃ t∈nms,∃ z∈kbs,r=kR (nB bs) t z:=by
 unfold KZ at h
 obtain⟨i,a,e⟩:=fI.mp h
 rw[List.getElem_zipWith] at e
 rw[iA] at a
 exact⟨_,et (by omega),_,et (by omega),e.symm⟩
theorem Oa {bs:List (Str × Nat)} (wd:Str):∀ {nms:List Str} {kbs:List Kb},nms.length=kbs.length->((KZ bs nms kbs).filter λr=>decide (V.str r.w=V.str wd)).length=(kbs.filter (GX wd)).length
 | [],[],_=>rfl
 | t::nms,z::kbs,h=>by
  have a:=Oa wd (nms:=nms) (kbs:=kbs) (bs:=bs) (Nat.succ.inj h)
  show ((kR (nB bs) t z::KZ bs nms kbs).filter _).length=_
  rw[fg,fg,Q5]
  have e:GX wd z=decide (V.str z.w=V.str wd):=rfl
  rw[e]
  split
  ·rw[bo,bo,a]
  ·exact a
theorem Ml (F:Ye K aB aP aM) {bs:List (Str × Nat)} {rk:List (Str × Nat × Int)} {b:Str} (a:(rk.map (·.1)).Nodup) (e:∀ r∈rk,isNm r.1) (g:(b,n)∈bs) (c:n<=61):∀ (l l0:List Ln) (rows:List R),HS K aB aP aM rows bs rk ks (ls++[l0]) sts->Tl rows b l0.length->l0.length+l.length<=4->(∀ x∈l,x.r<rk.length/\0<=x.lo/\x.lo<=x.hi/\x.hi<(n:Nat) /\ -2<=x.sh/\x.sh<=5)->HS K aB aP aM (rows++l.map (lR (nR rk))) bs rk ks (ls++[l0++l]) sts
 | [],l0,rows,h,_,_,_=>by
  rw[kG,eD,eD]
  exact h
 | x::l,l0,rows,h,t,v,d=>by
  rw[bo] at v
  obtain⟨u,q,p,j,z,w⟩:=d x ce
  obtain⟨m,s,f⟩:=nU u
  have k:=h.line F (sh:=x.sh) (lo:=x.lo) (hi:=x.hi) t (by omega) f a (e (nR rk x.r,m,s) (ai f)) g p j (by omega) (by omega) q (by omega)
  have o:Tl (rows++[lR (nR rk) x]) b (l0++[x]).length:=by
   rw[al,ax]
   exact t.line rfl
  have r:=Ml F a e g c l (l0++[x]) (rows++[lR (nR rk) x]) k o (by rw[al,ax];omega) λy i=>d y (bq _ i)
  rw[gd,gd] at r
  exact r
theorem WQ (h:Ri n kbs) {z:Kb} (d:z.ok n) (c:(kbs.filter (GX z.w)).length<Iv z.w) (e:kbs.length<70):Ri n (kbs++[z]):=by
 refine⟨λk a=>?_,λi k a=>?_,by rw[al,ax];omega⟩
 ·rcases bX.mp a with a | a
  ·exact h.ok k a
  ·rw[av.mp a]
   exact d
 ·rcases K5 a with b | ⟨rfl,rfl⟩
  ·rw[fh (fT (ag.mp b).1)]
   exact h.room i k b
  ·rw[List.take_left']
   ·exact c
   ·rfl
section
variable {k ld:Nat} {bs:List (Str × Nat)} {rk:List (Str × Nat × Int)} {sn:List Str}
theorem Ju.skip (h:Ju K aB aP aM c k ld m bs rk rows nms kbs ls sts sn):Ju K aB aP aM c (k+1) ld (m+4) bs rk rows nms kbs ls sts sn :=
 ⟨h.bl,h.ek,h.bd,h.nl,im h.nk,λt a=>by
  obtain⟨j,b,e⟩:=h.nm t a
  exact⟨j,by omega,e⟩,h.nd,h.kb,h.mu,h.lq,h.lg,h.sq,h.sd,im h.sk,by have:=h.rl;omega,h.st⟩
theorem Ju.add (F:jz K aB aP aM) (h:Ju K aB aP aM c k ld m bs rk rows nms kbs ls sts sn) (hk:k<12) (h0:sts=[]) {z:Kb} {l:List Ln} (f:zj bs rk z l) (O:z.w = "mute"->(kbs.filter (GX "mute")).length<5) {C:Nat} (GO:ld<=C) (NC:z.w ≠ "stop"->(kbs.filter UG).length<C) :
  Ju K aB aP aM c (k+1) C (m+4) bs rk (rows++(kR (nB bs) (HJ c (6+k)) z::l.map (lR (nR rk)))) (nms++[HJ c (6+k)]) (kbs++[z]) (ls++[l]) sts (sn++if z.w = "stop" then [HJ c (6+k)] else []):=by
 have D:=h.nl
 have ab:=h.nk
 have U:HJ c (6+k) ∉ nms:=λQ=>by
  obtain⟨j,G,e⟩:=h.nm _ Q
  have:=Jc (c:=c) (by omega) (by omega) e
  omega
 have R:=h.bd.nb (n:=6+k) (by have:=h.bd.lb;omega) (by omega)
 have T:=h.bd.nr (n:=6+k) (by have:=h.bd.lr;omega) (by omega)
 have H:∀ r∈KZ bs nms kbs,r.nm ≠ HJ c (6+k):=λr u e=>by
  obtain⟨t,a,Q,_,rfl⟩:=NZ u
  rw[Mu] at e
  exact U (e ▸ a)
 have g:∀ {b:Nat},b<bs.length->isNm (nB bs b)/\(nB bs b,zB bs b)∈bs/\zB bs b<=61:=λ{b} J=>by
  have S:=O4 J
  have:=h.bd.b b _ S
  refine⟨?_,ai S,this.2.2⟩
  have e:nB bs b=HJ c b:=this.1
  rw[e]
  exact G9 _ _
 have i:(kbs.filter (GX z.w)).length<Iv z.w:=by
  have A:=bt (GX z.w) kbs
  have Y:Iv "coupler" = 12:=by decide
  have m2:Iv "stop" = 24:=by decide
  have W:Iv "mute" = 5:=by decide
  rcases Kb.wo f.ok with e | e | e
  ·rw[e,m2];rw[e] at A;omega
  ·rw[e,Y];rw[e] at A;omega
  ·rw[e,W];have:=O e;omega
 have E:=i
 rw[<-Oa (bs:=bs) z.w D] at E
 have v:KZ bs (nms++[HJ c (6+k)]) (kbs++[z])=KZ bs nms kbs++[kR (nB bs) (HJ c (6+k)) z]:=JV _ _ _ D
 have w:HS K aB aP aM (rows++[kR (nB bs) (HJ c (6+k)) z]) bs rk (KZ bs nms kbs++[kR (nB bs) (HJ c (6+k)) z]) (ls++[[]]) sts:=by
  have P:=f.ok
  cases z with
  | cp p q s =>
   obtain⟨o,N,Z,X⟩:=P
   exact h.bl.Za F.f (G9 _ _) R T H E (g o).1 (g o).2.1 (g N).1 (g N).2.1 Z X
  | pl wd p =>
   obtain⟨o,B⟩:=P
   exact h.bl.plain F.f (B.elim .inr .inl) (G9 _ _) R T H E (g o).1 (g o).2.1
 have M:HS K aB aP aM (rows++(kR (nB bs) (HJ c (6+k)) z::l.map (lR (nR rk)))) bs rk (KZ bs nms kbs++[kR (nB bs) (HJ c (6+k)) z]) (ls++[l]) sts:=by
  by_cases B:z.w = "stop"
  ·cases z with
   | cp p q s=>exact absurd (show ("coupler" : Str) = "stop" from B) (by decide)
   | pl wd p =>
    obtain rfl:wd = "stop":=B
    have o:=f.ok.1
    have r:=Ml F.f h.bd.zR (λr u=>by
     obtain⟨j,G⟩:=ee u
     rw[(h.bd.r j r G).1]
     exact G9 _ _) (g o).2.1 (g o).2.2 l [] _ w (Tl.stop rows _ (nB bs p)) (by have:=f.len;rw[List.length_nil];omega) f.ln
    rw[gd] at r
    exact r
  ·rw[f.st B]
   exact w
 have L:∀ x∈l.map (lR (nR rk)),Gw x.w=false:=λx d=>by
  obtain⟨y,_,rfl⟩:=ay.mp d
  exact (by decide:Gw "line" = false)
 refine⟨by rw[v];exact M,?_,h.bd,by rw[al,al,D];rfl,by rw[al,ax];omega,λt a=>?_,?_,WQ h.kb f.ok i (by omega),?_,?_,λx d=>?_,λt a=>?_,?_,?_,?_,h.st⟩
 ·rw[fk,h.ek,v,fg,if_pos (by rw[Q5];exact Jx (Kb.wo f.ok)),List.filter_eq_nil_iff.mpr λx d=>by rw[L x d];decide]
 ·rcases bX.mp a with a | a
  ·obtain⟨j,G,e⟩:=h.nm t a
   exact⟨j,by omega,e⟩
  ·exact⟨k,by omega,av.mp a⟩
 ·refine iS.mpr ⟨h.nd,hZ.mpr ⟨List.not_mem_nil,List.nodup_nil⟩,λx d y I e=>U ?_⟩
  rw[<-av.mp I,<-e]
  exact d
 ·rw[fk,al]
  by_cases e:z.w = "mute"
  ·have:=O e
   have:=bt (GX "mute") [z]
   rw[ax] at this
   omega
  ·rw[List.filter_cons,if_neg (show ¬ GX "mute" z=true from λy=>e (V.str.inj (of_decide_eq_true y)))]
   exact h.mu
 ·rw[fk,al]
  by_cases e:z.w = "stop"
  ·rw[List.filter_cons,if_neg (show ¬ UG z=true from by rw[show UG z = !decide (V.str z.w=V.str "stop") from rfl,e,decide_eq_true rfl];decide)]
   have:=h.lq
   show _+0<=_
   omega
  ·have:=NC e
   have:=bt UG [z]
   rw[ax] at this
   omega
 ·rcases bX.mp d with d | d
  ·exact h.lg x d
  ·rw[av.mp d]
   refine⟨by have:=f.len;omega,λln tF=>?_⟩
   obtain⟨x1,x2,x3,x4,x5,x6⟩:=f.ln ln tF
   have J:zc z<bs.length:=by
    have:=f.ok
    cases z with
    | cp p q s=>exact this.1
    | pl wd p=>exact this.1
   have:=(g J).2.2
   exact⟨x1,x2,x3,by omega,by omega,by omega⟩
 ·rw[v]
  rcases bX.mp a with a | a
  ·obtain⟨r,u,e⟩:=h.sq t a
   exact⟨r,dn _ u,e⟩
  ·by_cases e:z.w = "stop"
   ·rw[if_pos e] at a
    exact⟨_,br _ (av.mpr rfl),by rw[Q5];exact e,by rw[Mu];exact (av.mp a).symm⟩
   ·rw[if_neg e] at a
    cases a
 ·by_cases e:z.w = "stop"
  ·rw[if_pos e]
   refine iS.mpr ⟨h.sd,hZ.mpr ⟨List.not_mem_nil,List.nodup_nil⟩,λx d y I e'=>?_⟩
   obtain⟨r,u,_,er⟩:=h.sq x d
   exact H r u (er.trans (e'.trans (av.mp I)))
  ·rw[if_neg e,eD]
   exact h.sd
 ·rw[al]
  have:=h.sk
  split
  ·show _+1<=_;omega
  ·show _+0<=_;omega
 ·rw[al,bo,af]
  have:=h.rl
  have:=f.len
  omega
theorem Ju.step (F:jz K aB aP aM) (h:Ju K aB aP aM c k ld m bs rk rows nms kbs ls sts sn) {t0:Str} {a:List Str} (o:(t0::a).Nodup) (p:(t0::a).length<=24) (g:∀ t∈t0::a,t∈sn) (q:sts.length<2):∃ wv,wv.length=sts.length+1/\Ju K aB aP aM c k ld (m+1) bs rk (rows++[⟨"step",t0,a.map V.str⟩]) nms kbs ls wv sn:=by
 refine⟨sts++[Wd.mk ((t0::a).map λt=>((KZ bs nms kbs).map (·.nm)).idxOf t)],by rw[al,ax],?_⟩
 ·refine⟨h.bl.step F.mT o p (λt l=>?_) (by omega),?_,h.bd,h.nl,h.nk,h.nm,h.nd,h.kb,h.mu,h.lq,h.lg,h.sq,h.sd,h.sk,by rw[al];exact dA h.rl,by rw[al,ax];omega⟩
  ·obtain⟨r,d,n,b⟩:=h.sq t (g t l)
   refine⟨?_,r,d,n,b⟩
   obtain⟨e,i,z,_,rfl⟩:=NZ d
   rw[Mu] at b
   obtain⟨j,_,f⟩:=h.nm e i
   rw[<-b,f]
   exact G9 _ _
  ·rw[List.filter_append,h.ek,List.filter_cons,if_neg (by show ¬ Gw "step" = true;decide)]
   exact eD _
end
theorem Gr {c:Hp} (s:An c H) (h:c a=none):An c (upd H a o):=λb u e=>by
 rw[Aw (Aj e h)]
 exact s _ _ e
theorem JX {a:Hp} (s:An a H) (h:a p=none) (f:Yb H H' p):An a H':=λb u e=>by
 rw[f b (Aj e h)]
 exact s _ _ e
theorem Yb.tup {v:V} (f:Yb H H' p) (a:SrcAt H p) (t:TupAt H xs v):TupAt H' xs v:=by
 obtain⟨T,rfl,e⟩:=t
 refine⟨T,rfl,?_⟩
 rw[f T λz=>?_]
 ·exact e
 ·obtain⟨l,b⟩:=a.some
  rw[z,b] at e
  cases e
theorem Yb.Mj {α:Type} {f:α->List V} {l:List α} (h:Yb H H' p) (b:SrcAt H p) (t:Paired (λa v=>TupAt H (f a) v) l vs):Paired (λa v=>TupAt H' (f a) v) l vs:=Paired.J3 t λ_ _ z=>h.tup b z
structure W9 (H Hx:Hp) (p B RA:Addr) (bs:List (Str × Nat)) (rk:List (Str × Nat × Int)):Prop where
 s:An H Hx
 sr:SrcAt Hx p
 b:∃ i3,Hx B=some (.lst i3)/\Paired (λb v=>TupAt Hx (Ef b).v v) bs i3
 r:∃ kT,Hx RA=some (.lst kT)/\Paired (λr v=>TupAt Hx (FN r).v v) rk kT
 nB:B ≠ p
 nR:RA ≠ p
theorem W9.same {c b:Hp} {B a:Addr} {bs:List (Str × Nat)} {rk:List (Str × Nat × Int)} (h:W9 H c p B a bs rk) (s:An c b):W9 H b p B a bs rk:=by
 obtain⟨g,f,⟨e,j,l⟩,⟨d,k,n⟩,i,m⟩:=h
 exact⟨g.trans s,f.mono s,⟨e,s _ _ j,Ar s l⟩,⟨d,s _ _ k,Ar s n⟩,i,m⟩
theorem W9.draw {d a:Hp} {B c:Addr} {bs:List (Str × Nat)} {rk:List (Str × Nat × Int)} (h:W9 H d p B c bs rk) (m:H p=none) (f:Yb d a p) (k:SrcAt a p):W9 H a p B c bs rk:=by
 obtain⟨l,b,⟨j,n,q⟩,⟨i,o,r⟩,e,g⟩:=h
 exact⟨JX l m f,k,⟨j,by rw[f _ e];exact n,f.Mj b q⟩,⟨i,by rw[f _ g];exact o,f.Mj b r⟩,e,g⟩
theorem W9.st {f j:Hp} {a B c:Addr} {bs:List (Str × Nat)} {rk:List (Str × Nat × Int)} (h:W9 H f p B c bs rk) (v:H a=none) (k:a ≠ p) (q:a ≠ B) (A:a ≠ c) (g:Gg f j a) (i:SrcAt f a):W9 H j p B c bs rk:=by
 obtain⟨r,⟨u,s,n,d⟩,⟨m,w,y⟩,⟨l,x,C⟩,t,z⟩:=h
 exact⟨λb o e=>g.sx _ _ (r _ _ e) (Aj e v),⟨u,s,g.sx _ _ n (Ne.symm k),d⟩,⟨m,g.sx _ _ w (Ne.symm q),g.Mj i y⟩,⟨l,g.sx _ _ x (Ne.symm A),g.Mj i C⟩,t,z⟩
theorem W9.put {b:Hp} {B a:Addr} {l i:List V} {bs:List (Str × Nat)} {rk:List (Str × Nat × Int)} (h:W9 H b p B a bs rk) (q:H D=none) (c:D ≠ p) (j:D ≠ B) (t:D ≠ a) (e:b D=some (.lst l)):W9 H (upd b D (.lst i)) p B a bs rk:=by
 obtain⟨k,g,⟨f,n,r⟩,⟨d,o,u⟩,m,s⟩:=h
 exact⟨Gr k q,g.put c,⟨f,by rw[Aw (Ne.symm j)];exact n,Ci r e⟩,⟨d,by rw[Aw (Ne.symm t)];exact o,Ci u e⟩,m,s⟩
theorem Ju.vp {k ld:Nat} {bs:List (Str × Nat)} {rk:List (Str × Nat × Int)} {sn:List Str} (h:Ju K aB aP aM c k ld m bs rk rows nms kbs ls sts sn):(rows.filter λr=>decide (V.str r.w=V.str "mute")).length=(kbs.filter (GX "mute")).length:=by
 rw[<-Oa (bs:=bs) "mute" h.nl,<-h.ek,List.filter_filter]
 refine congrArg List.length (List.filter_congr λr _=>?_)
 by_cases e:r.w = "mute"
 ·rw[e]
  decide
 ·rw[decide_eq_false λz=>e (V.str.inj z)]
  rfl
theorem Ju.ldw {k ld a:Nat} {bs:List (Str × Nat)} {rk:List (Str × Nat × Int)} {sn:List Str} (h:Ju K aB aP aM c k ld m bs rk rows nms kbs ls sts sn) (b:ld<=a):Ju K aB aP aM c k a m bs rk rows nms kbs ls sts sn :=
 ⟨h.bl,h.ek,h.bd,h.nl,h.nk,h.nm,h.nd,h.kb,h.mu,be h.lq b,h.lg,h.sq,h.sd,h.sk,h.rl,h.st⟩
theorem Ju.fin {k d ld a b:Nat} {bs:List (Str × Nat)} {rk:List (Str × Nat × Int)} {sn:List Str} (h:Ju K aB aP aM c k ld m bs rk rows nms kbs ls sts sn) (f:k<=d) (g:ld<=a) (l:m<=b):Ju K aB aP aM c d a b bs rk rows nms kbs ls sts sn :=
 ⟨h.bl,h.ek,h.bd,h.nl,be h.nk f,(λt i=>by
  obtain⟨j,n,e⟩:=h.nm t i
  exact⟨j,by omega,e⟩),h.nd,h.kb,h.mu,be h.lq g,h.lg,h.sq,h.sd,be h.sk f,be h.rl l,h.st⟩
theorem Ds {α:Type} {F:α->V->Prop}:∀ {l m:List α} {vs ws:List V},Paired F l vs->Paired F m ws->Paired F (l++m) (vs++ws)
 | [],_,_,_,h,g=>by
  cases h
  exact g
 | _::_,_,_,_,h,g=>by
  cases h with
  | cons x y=>exact .cons x (Ds y g)
theorem Ju.start {bs:List (Str × Nat)} {rk:List (Str × Nat × Int)} (d:Od c bs rk) (e:HS K aB aP aM (bs.map Ef++rk.map FN) bs rk [] [] []):Ju K aB aP aM c 0 0 6 bs rk (bs.map Ef++rk.map FN) [] [] [] [] []:=by
 refine⟨e,?_,d,rfl,Nat.le_refl _,(λ_ h=>nomatch h),List.nodup_nil,⟨(λ_ h=>nomatch h),(λi k h=>by simp at h),by decide⟩,by decide,by decide,(λ_ h=>nomatch h),(λ_ h=>nomatch h),List.nodup_nil,by decide,?_,by decide⟩
 ·refine List.filter_eq_nil_iff.mpr λr a=>?_
  rcases bX.mp a with a | a
  ·obtain⟨b,_,rfl⟩:=ay.mp a
   exact (by decide:¬ Gw "board" = true)
  ·obtain⟨b,_,rfl⟩:=ay.mp a
   exact (by decide:¬ Gw "rank" = true)
 ·rw[al,af,af]
  have:=d.lb
  have:=d.lr
  omega
inductive fP (K:W.Frag) (aB aP aM:Addr) (vs:List V) (H:Hp) (Q:VK) (b9:XK):Prop
 | mk (a:Addr) (ns:List Int):vs=[.ref a]->Dc K H a (ns.map V.int)->ns.length<=63->jz K aB aP aM->(∀ (D:Addr) (Fk:List V) (c:Int) (bs:List (Str × Nat)) (rk:List (Str × Nat × Int)) (rows:List R) (nms:List Str) (kbs:List Kb) (ls:List (List Ln)) (sts:List Nat) (sn:List Str) H',H D=none->An H H'->H' D=some (.lst Fk)->Paired (λ(r:R) v=>TupAt H' r.v v) rows Fk->1<=bs.length->1<=rk.length->Ju K aB aP aM c 8 8 100 bs rk rows nms kbs ls sts sn->Q (.ref D) H')->fP K aB aP aM vs H Q b9
theorem Je:Aq tP z5 (Ac rW):=Bf
include N T in
theorem jy:Ao P w K mg base Bb 5 aD.fRw aD.dRw z5 (fP K aB aP aM):=by
 refine N.FRw.1.DQ Je λH x Q E hr h=>?_
 obtain⟨a,ns,rfl,hS,b9,F0,q⟩:=h
 refine⟨_,(@Af _ _ _ _ _ (@Bo _ _ _ _ _ _ 1 Je.nd rfl (Or.inl rfl) (zC (aY N T) hr rfl N.FLo (@Ay _ _ _ _ _ rfl (pv 0) (@Ay _ _ _ _ _ rfl Ae Ab))) (by kernel_rfl) (.inl rfl))
  (@Af _ _ _ _ _ (@Bo _ _ _ _ _ _ 2 Je.nd rfl (Or.inl rfl) (zC (Xy N T) hr rfl N.FDw (@Ay _ _ _ _ _ rfl (pv 1) (@Ay _ _ _ _ _ rfl (BZ RJ Ae Ae) Ab))) (by kernel_rfl) (.inl rfl))
  (@Af _ _ _ _ _ (@Bo _ _ _ _ _ _ 3 Je.nd rfl (Or.inl rfl) (@Dm _ _ _ _ Ab) (by kernel_rfl) (.inl rfl))
  (@Af _ _ _ _ _ (Eh PassesOwn.never rfl (Dv rfl T.range (@Ay _ _ _ _ _ rfl (BZ CW Ae (zC (Xy N T) hr rfl N.FDw (@Ay _ _ _ _ _ rfl (pv 1) (@Ay _ _ _ _ _ rfl Ae Ab)))) Ab)) (Ck (i:=4) Je.nd rfl (Or.inl rfl)) (@Ag _ _ _ (Bx (Gj ck cr cw DK (pv 3) (@Ay _ _ _ _ _ rfl (@Cq _ _ _ _ _ (@Ay _ _ _ _ _ rfl BW (@Ay _ _ _ _ _ rfl (zC (o6 N T) hr rfl N.FNa (@Ay _ _ _ _ _ rfl (pv 2) (@Ay _ _ _ _ _ rfl (pv 4) Ab))) (@Ay _ _ _ _ _ rfl (BZ CW Ae (zC (Xy N T) hr rfl N.FDw (@Ay _ _ _ _ _ rfl (pv 1) (@Ay _ _ _ _ _ rfl Ae Ab)))) Ab)))) Ab)))))
  (@Af _ _ _ _ _ (@Bo _ _ _ _ _ _ 5 Je.nd rfl (Or.inl rfl) (@Dm _ _ _ _ Ab) (by kernel_rfl) (.inl rfl))
  (@Af _ _ _ _ _ (Eh PassesOwn.never rfl (Dv rfl T.range (@Ay _ _ _ _ _ rfl (BZ CW Ae (zC (Xy N T) hr rfl N.FDw (@Ay _ _ _ _ _ rfl (pv 1) (@Ay _ _ _ _ _ rfl Ae Ab)))) Ab)) (Ck (i:=4) Je.nd rfl (Or.inl rfl)) (@Af _ _ _ _ _ (@Bo _ _ _ _ _ _ 6 Je.nd rfl (Or.inl rfl) (zC (Xy N T) hr rfl N.FDw (@Ay _ _ _ _ _ rfl (pv 1) (@Ay _ _ _ _ _ rfl (BZ CW (BZ RJ Ae Ae) Ae) Ab))) (by kernel_rfl) (.inl rfl))
  (@Ag _ _ _ (Bx (Gj ck cr cw DK (pv 5) (@Ay _ _ _ _ _ rfl (@Cq _ _ _ _ _ (@Ay _ _ _ _ _ rfl BW (@Ay _ _ _ _ _ rfl (zC (o6 N T) hr rfl N.FNa (@Ay _ _ _ _ _ rfl (pv 2) (@Ay _ _ _ _ _ rfl (BZ CW Ae (pv 4)) Ab))) (@Ay _ _ _ _ _ rfl (BZ CW Ae (zC (Xy N T) hr rfl N.FDw (@Ay _ _ _ _ _ rfl (pv 1) (@Ay _ _ _ _ _ rfl Ae Ab)))) (@Ay _ _ _ _ _ rfl (pv 6) Ab))))) Ab))))))
  (@Af _ _ _ _ _ (@Bo _ _ _ _ _ _ 7 Je.nd rfl (Or.inl rfl) (BZ Qw (pv 3) (pv 5)) (by kernel_rfl) (.inl rfl))
  (@Af _ _ _ _ _ (@Bo _ _ _ _ _ _ 8 Je.nd rfl (Or.inl rfl) (@Dm _ _ _ _ Ab) (by kernel_rfl) (.inl rfl))
  (@Af _ _ _ _ _ (Eh PassesOwn.never rfl (Dv rfl T.range (@Ay _ _ _ _ _ rfl (BJ (J4 rfl) rfl T.min jS (@Ay _ _ _ _ _ rfl Ae (@Ay _ _ _ _ _ rfl (BJ (Mf rfl) rfl T.max PyProof.Rows.boot_max (@Ay _ _ _ _ _ rfl Ae (@Ay _ _ _ _ _ rfl (BZ Fw (BJ BL rfl T.len aS (@Ay _ _ _ _ _ rfl (pv 0) Ab)) Ae) Ab))) Ab))) Ab)) (Ck (i:=4) Je.nd rfl (Or.inl rfl)) (@Af _ _ _ _ _ (@Bo _ _ _ _ _ _ 9 Je.nd rfl (Or.inl rfl) (zC (qi N T) hr rfl N.FLj (@Ay _ _ _ _ _ rfl (zC (aY N T) hr rfl N.FLo (@Ay _ _ _ _ _ rfl (pv 0) (@Ay _ _ _ _ _ rfl (BZ CW Ae (pv 4)) Ab))) (@Ay _ _ _ _ _ rfl (pv 3) (@Ay _ _ _ _ _ rfl (pv 5) (@Ay _ _ _ _ _ rfl (zC (o6 N T) hr rfl N.FNa (@Ay _ _ _ _ _ rfl (pv 2) (@Ay _ _ _ _ _ rfl (BZ CW Ae (pv 4)) Ab))) Ab))))) (by kernel_rfl) (.inl rfl))
  (@Af _ _ _ _ _ (@Bl _ _ _ _ _ _ _ _ (PW.pt (D_ (BR Hz (@Az _ _ _ _ _ _ _ (Av (K:=K) rfl) (@Az _ _ _ _ _ _ _ (Bp (K:=K) rfl) (pv 9) Ae (λ_ _=>rfl)) Ae (λ_ _=>rfl)) BW (BX _)) (Do (BR HF (BJ BL rfl T.len aS (@Ay _ _ _ _ _ rfl (Br rfl (Be (osc:=Ac rW) (N:=tP) rfl rfl (by decide)) (Bt (pv 7)) (λ_ _ _ _=>(GC (BR Cj (@Az _ _ _ _ _ _ _ (Av (K:=K) rfl) (pv 0) Ae (λ_ _=>rfl)) BW (BX _)))) (λ_ _ _ _=>(pv 0))) Ab)) Ae (BX _))))) (@Ag _ _ _ (@Bo _ _ _ _ _ _ 7 Je.nd rfl (Or.inl rfl) (BZ Qw (pv 7) (pv 9)) (by kernel_rfl) (.inl rfl))) Ba)
  (@Ag _ _ _ (@Bl _ _ _ _ _ _ _ _ (BR Cj (@Az _ _ _ _ _ _ _ (Av (K:=K) rfl) (@Az _ _ _ _ _ _ _ (Bp (K:=K) rfl) (pv 9) Ae (λ_ _=>rfl)) Ae (λ_ _=>rfl)) BW (BX _)) (@Ag _ _ _ (Bx (Gj ck cr cw DK (pv 8) (@Ay _ _ _ _ _ rfl (@Az _ _ _ _ _ _ _ (Av (K:=K) rfl) (@Az _ _ _ _ _ _ _ (Bp (K:=K) rfl) (pv 9) Ae (λ_ _=>rfl)) Ae (λ_ _=>rfl)) Ab)))) Ba)))))
  (@Af _ _ _ _ _ (Eh PassesOwn.never rfl (Dv rfl T.range (@Ay _ _ _ _ _ rfl (BJ (J4 rfl) rfl T.min jS (@Ay _ _ _ _ _ rfl Ae (@Ay _ _ _ _ _ rfl (BJ BL rfl T.len aS (@Ay _ _ _ _ _ rfl (pv 8) Ab)) Ab))) Ab)) (Ck (i:=4) Je.nd rfl (Or.inl rfl)) (@Ag _ _ _ (Bx (Gj ck cr cw DK (pv 7) (@Ay _ _ _ _ _ rfl (BZ Z_ (@Cq _ _ _ _ _ (@Ay _ _ _ _ _ rfl BW Ab)) (Dg MJ rfl T.tuple gT (@Ay _ _ _ _ _ rfl (Ek Ja (pv 8) (Eu (pv 4)) (Eu (BZ CW (BZ CW (pv 4) Ae) (zC (Xy N T) hr rfl N.FDw (@Ay _ _ _ _ _ rfl (pv 1) (@Ay _ _ _ _ _ rfl Ae Ab)))))) Ab))) Ab)))))
  (@Ag _ _ _ (@Ax _ _ _ _ (pv 7))))))))))))),?_⟩
 refine⟨_,rfl,a,0,ns,rfl,hS,by decide,λp H1 hp s1 vb=>?_⟩
 refine⟨_,rfl,_,_,rfl,rfl,⟨by decide,by decide,by decide⟩,p,_,rfl,vb,(by show (0:Int)<10 ^ (6:Int).toNat;decide),(by show (10:Int) ^ (6:Int).toNat<1073741824;decide),λc0 H2 cl f2 w9=>?_⟩
 have s2:=JX s1 hp f2
 obtain⟨c,ec⟩:∃ c:Int,((c0:Nat):Int)=c:=⟨_,rfl⟩
 rw[ec]
 refine⟨CK (by simp),λB hB=>?_⟩
 obtain⟨H3,i7,t3,u3⟩:=Em (o:=HO.lst []) hB
 rw[i7]
 have wx:=w9.mono t3
 have s3:=s2.trans t3
 have bl:H B=none:=s2.free hB
 have as:B ≠ p:=λe=>by
  obtain⟨l,hl⟩:=w9.some
  rw[e,hl] at hB
  cases hB
 refine⟨_,rfl,p,3,rfl,wx,by decide,by decide,λt H4 ht f4 xL=>⟨_,_,rfl,rfl,_,rfl,by omega,by omega,?_⟩⟩
 have s4:=JX s3 hp f4
 have u4:H4 B=some (.lst []):=by rw[f4 B as];exact u3
 refine Fg (lo:=0) (n:=(1+((t:Nat):Int)).toNat) (λi σ H5=>An H H5/\SrcAt H5 p/\∃ (bs:List (Str × Nat)) (i3:List V),H5 B=some (.lst i3)/\Paired (λb v=>TupAt H5 (Ef b).v v) bs i3/\bs.length=i/\Od c bs []/\HS K aB aP aM (bs.map Ef) bs [] [] [] []/\∃ Y v5 U v7 v8 X,σ=[some (.ref a),some (.ref p),some (.int c),some (.ref B),Y,v5,U,v7,v8,X])
  ⟨s4,xL,[],[],u4,.nil,rfl,⟨(λj b h=>by simp at h),(λj b h=>by simp at h),by decide,by decide⟩,HS.nil,_,_,_,_,_,_,rfl⟩ ?_ ?_
 ·rintro i σ H5 hi ⟨s5,rf,bs,i3,ab,Z,qo,IP,LO,Y,v5,U,v7,v8,X,rfl⟩
  have ei:((0:Int)+(i:Int))=(i:Int):=gI _
  refine⟨_,rfl,.inl ⟨rfl,_,kL ab⟩,_,rfl,_,rfl,c,i,(by rw[ei];rfl),by omega,λH6 s6=>?_⟩
  refine⟨_,rfl,p,5,rfl,rf.mono s6,by decide,by decide,λz H7 hz f7 tf=>⟨_,_,rfl,rfl,by show 3<=sizeLine;decide,λT hT=>?_⟩⟩
  generalize a7:upd H7 T _=H8
  have t8:An H7 H8:=a7 ▸ BP hT
  have u8:H8 T=some (.tup (Ef (HJ c bs.length,1+z)).v):=by
   rw[<-a7,Al,qo]
   show some (HO.tup [V.str "board",V.str (HJ c i),V.int (1+((z:Nat):Int))])=some (HO.tup [V.str "board",V.str (HJ c i),V.int ((1+z:Nat):Int)])
   rw[Int.natCast_add]
   rfl
  have b7:H7 B=some (.lst i3):=by rw[f7 B as];exact s6 _ _ ab
  have b8:=t8 _ _ b7
  have lv:=Z.length
  refine⟨B,i3,_,rfl,rfl,b8,BK (by omega),?_⟩
  have p8:Paired (λb v=>TupAt H8 (Ef b).v v) bs i3:=Ar t8 (f7.Mj (f:=λb=>(Ef b).v) (rf.mono s6) (Ar s6 Z))
  refine⟨Gr ((JX (s5.trans s6) hp f7).trans t8) bl,(tf.mono t8).put as,bs++[(HJ c bs.length,1+z)],i3++[V.ref T],Al,(Ci p8 b8).snoc (TupAt.upd ⟨T,rfl,u8⟩ b8),by rw[al,ax,qo],IP.YL (by omega) (by omega) (by omega),?_,_,_,_,_,_,_,rfl⟩
  rw[cq]
  exact LO.YL F0.f (G9 _ _) (IP.nb (ah _) (by omega)) (λ_ h=>nomatch h) (λ_ h=>nomatch h) (by omega) (by omega) (by omega)
 rintro σ H5 ⟨s5,rf,bs,i3,ab,Z,qo,IP,LO,Y,v5,U,v7,v8,X,rfl⟩
 have aC:1<=bs.length/\bs.length<=3:=by omega
 clear qo ht u4 s4 xL f4 s3 wx u3 t3 hB s2 w9 f2 s1 vb
 refine⟨CK (by simp),λC DM=>?_⟩
 obtain⟨H6,i7,t6,u6⟩:=Em (o:=HO.lst []) DM
 rw[i7]
 have b3:H C=none:=s5.free DM
 have aw:C ≠ p:=λe=>by
  obtain⟨l,hl⟩:=rf.some
  rw[e,hl] at DM
  cases DM
 have bn:C ≠ B:=Ne.symm (Aj ab DM)
 have ng:=rf.mono t6
 refine⟨_,rfl,p,3,rfl,ng,by decide,by decide,λt2 H7 LP f7 tf=>⟨_,_,rfl,rfl,_,rfl,by omega,by omega,?_⟩⟩
 have W7:W9 H H7 p B C bs []:=(W9.mk (s5.trans t6) ng ⟨i3,t6 _ _ ab,Ar t6 Z⟩ ⟨[],u6,.nil⟩ as aw).draw hp f7 tf
 clear ng u6 t6 DM ab Z s5 rf f7 tf
 refine Fg (lo:=0) (n:=(1+((t2:Nat):Int)).toNat) (λi σ H5=>∃ rk:List (Str × Nat × Int),W9 H H5 p B C bs rk/\rk.length=i/\Od c bs rk/\HS K aB aP aM (bs.map Ef++rk.map FN) bs rk [] [] []/\∃ Y U v7 v8 X,σ=[some (.ref a),some (.ref p),some (.int c),some (.ref B),Y,some (.ref C),U,v7,v8,X])
  ⟨[],W7,rfl,IP,by rw[kG,eD];exact LO,_,_,_,_,_,rfl⟩ ?_ ?_
 ·rintro i σ H8 hi ⟨rk,W8,rp,AO,LN,Y,U,v7,v8,X,rfl⟩
  have ei:((0:Int)+(i:Int))=(i:Int):=gI _
  refine⟨_,rfl,_,_,rfl,rfl,⟨by decide,by decide,by decide⟩,_,_,rfl,rfl,p,_,rfl,W8.sr,(by show (0:Int)<10 ^ (9:Int).toNat+1;decide),(by show (10:Int) ^ (9:Int).toNat+1<1073741824;decide),λwd H9 bz f9 mI=>?_⟩
  have a9:((wd:Nat):Int)<10 ^ (9:Int).toNat+1:=bz
  have e9:(10:Int) ^ (9:Int).toNat+1=1000000001:=by decide
  rw[e9] at a9
  have Wa:=W8.draw hp f9 mI
  obtain⟨kT,ZY,xw⟩:=Wa.r
  refine⟨_,rfl,.inl ⟨rfl,_,kL ZY⟩,_,rfl,_,rfl,_,_,rfl,rfl,c,3+i,(by rw[ei];rfl),by omega,λHb sb=>?_⟩
  have Wb:=Wa.same sb
  refine⟨_,rfl,p,14,rfl,Wb.sr,by decide,by decide,λz Hc hz fc yy=>⟨_,_,rfl,rfl,_,rfl,by show 4<=sizeLine;decide,λT hT=>?_⟩⟩
  have Wc:=Wb.draw hp fc yy
  generalize a1:upd Hc T _=Hd
  have td:An Hc Hd:=a1 ▸ BP hT
  have ud:Hd T=some (.tup (FN (HJ c (3+rk.length),1+z,((wd:Nat):Int))).v):=by
   rw[<-a1,Al,rp]
   show some (HO.tup [V.str "rank",V.str (HJ c (3+i)),V.int (1+((z:Nat):Int)),V.int ((wd:Nat):Int)])=some (HO.tup [V.str "rank",V.str (HJ c (3+i)),V.int ((1+z:Nat):Int),V.int ((wd:Nat):Int)])
   rw[Int.natCast_add]
   rfl
  have x':=Wc.same td
  have rd:Hd C=some (.lst kT):=td _ _ (by rw[fc C aw];exact sb _ _ ZY)
  have pd:Paired (λr v=>TupAt Hd (FN r).v v) rk kT:=Ar td (fc.Mj (f:=λr=>(FN r).v) Wb.sr (Ar sb xw))
  have lv:=xw.length
  refine⟨C,kT,_,rfl,rfl,rd,BK (by omega),?_⟩
  obtain⟨bv,tz,yT⟩:=x'.b
  refine⟨rk++[(HJ c (3+rk.length),1+z,((wd:Nat):Int))],⟨Gr x'.s b3,x'.sr.put aw,⟨bv,by rw[Aw (Ne.symm bn)];exact tz,Ci yT rd⟩,⟨kT++[V.ref T],Al,(Ci pd rd).snoc (TupAt.upd ⟨T,rfl,ud⟩ rd)⟩,as,aw⟩,by rw[al,ax,rp],AO.rank (by omega) (by omega) (by omega) (by omega) (by omega),?_,_,_,_,_,_,rfl⟩
  rw[cq,<-gd]
  exact LN.rank F0.f (G9 _ _) (AO.nb (by have:=AO.lb;omega) (by omega)) (AO.nr (ah _) (by omega)) (λ_ h=>nomatch h) (by omega) (by omega) (by omega) (by omega) (by omega)
 rintro σ H8 ⟨rk,W8,rp,AO,LN,Y,U,v7,v8,X,rfl⟩
 have aK:1<=rk.length/\rk.length<=3:=by omega
 clear rp LP W7 LO IP
 obtain⟨F3,ID,CM⟩:=W8.b
 obtain⟨GV,zi,zt⟩:=W8.r
 have b0:=CM.length
 have bm:=zt.length
 refine⟨_,rfl,_,rfl,B,C,_,_,rfl,rfl,ID,zi,CK (by omega),λD hD=>?_⟩
 obtain⟨H9,i7,t9,u9⟩:=Em (o:=HO.lst (F3++GV)) hD
 rw[i7]
 have I:H D=none:=W8.s.free hD
 have J:D ≠ p:=λe=>by
  obtain⟨l,hl⟩:=W8.sr.some
  rw[e,hl] at hD
  cases hD
 have M:D ≠ B:=Ne.symm (Aj ID hD)
 have O:D ≠ C:=Ne.symm (Aj zi hD)
 have a5:Paired (λ(r:R) v=>TupAt H9 r.v v) (bs.map Ef++rk.map FN) (F3++GV):=Ds (Bv (F:=λ(r:R) v=>TupAt H9 r.v v) Ef (Ar t9 CM)) (Bv (F:=λ(r:R) v=>TupAt H9 r.v v) FN (Ar t9 zt))
 have Wn:=W8.same t9
 have R0:=Ju.start AO LN
 clear ID CM zi zt t9 hD b0 bm W8 LN
 refine⟨CK (by simp),λS A=>?_⟩
 obtain⟨Ha,i7,ta,ua⟩:=Em (o:=HO.lst []) A
 rw[i7]
 have Wa:=Wn.same ta
 have b2:H S=none:=Wn.s.free A
 have a2:S ≠ p:=λe=>by
  obtain⟨l,hl⟩:=Wn.sr.some
  rw[e,hl] at A
  cases A
 have bK:S ≠ B:=by
  obtain⟨bv,h,_⟩:=Wn.b
  exact Ne.symm (Aj h A)
 have bR:S ≠ C:=by
  obtain⟨bv,h,_⟩:=Wn.r
  exact Ne.symm (Aj h A)
 have L:D ≠ S:=Aj u9 A
 have da:=ta _ _ u9
 have b4:=Ar ta a5
 clear u9 a5 Wn ta A
 refine⟨_,rfl,a,_,rfl,.inl (Wa.s.seq hS),_,_,rfl,rfl,_,_,rfl,_,_,rfl,?_⟩
 obtain⟨mk,X9,ch⟩:∃ mk:Int,(if (if (((ns.map V.int).length:Nat):Int) - 2 > 0 then (((ns.map V.int).length:Nat):Int) - 2 else 0)<8 then (if (((ns.map V.int).length:Nat):Int) - 2 > 0 then (((ns.map V.int).length:Nat):Int) - 2 else 0) else 8)=mk/\0<=mk/\mk<=8:=⟨_,rfl,by split <;> split <;> omega,by split <;> split <;> omega⟩
 refine⟨mk,by rw[<-X9],by omega,by omega,?_⟩
 clear X9
 refine Fg (lo:=0) (n:=mk.toNat) (λi σ Hx=>W9 H Hx p B C bs rk/\∃ (D:Addr) (x:List V) (m:List R) (G:List Str) (u:List Kb) (ls:List (List Ln)) (s:List Str),H D=none/\D ≠ p/\D ≠ B/\D ≠ C/\D ≠ S/\Hx D=some (.lst x)/\Paired (λ(r:R) v=>TupAt Hx r.v v) m x/\Hx S=some (.lst (s.map V.str))/\Ju K aB aP aM c i 8 (6+4 * i) bs rk m G u ls [] s/\∃ Y U X,σ=[some (.ref a),some (.ref p),some (.int c),some (.ref B),Y,some (.ref C),U,some (.ref D),some (.ref S),X])
  ⟨Wa,D,_,_,_,_,_,[],I,J,M,O,L,da,b4,ua,R0.ldw (dL _),_,_,_,rfl⟩ ?_ ?_
 ·rintro i σ Hx hi ⟨Wx,D,x,m,G,u,ls,s,I,J,M,O,L,dx,yA,sx,R9,Y,U,X,rfl⟩
  have ei:((0:Int)+(i:Int))=(i:Int):=gI _
  have b6:i<8:=by omega
  refine⟨_,rfl,_,rfl,_,_,rfl,rfl,a,2+i,ns,(by rw[ei];rfl),Wx.s.seq hS,by omega,λp2 Hb qa sb VS=>?_⟩
  have Wb:=Wx.same sb
  have n1:p2 ≠ p:=λe=>by
   obtain⟨l,hl⟩:=Wx.sr.some
   rw[e,hl] at qa
   cases qa
  have n2:p2 ≠ B:=by
   obtain⟨bv,h,_⟩:=Wx.b
   exact Ne.symm (Aj h qa)
  have n3:p2 ≠ C:=by
   obtain⟨bv,h,_⟩:=Wx.r
   exact Ne.symm (Aj h qa)
  have n4:D ≠ p2:=Aj dx qa
  have n5:S ≠ p2:=Aj sx qa
  have a6:H p2=none:=Wx.s.free qa
  refine⟨_,rfl,_,rfl,_,rfl,_,rfl,_,_,rfl,rfl,c,6+i,(by rw[ei];rfl),by omega,λHc sc=>?_⟩
  have Wc:=Wb.same sc
  have yy:=VS.mono sc
  obtain⟨bv,tz,yT⟩:=Wc.b
  obtain⟨rv,Lm,xw⟩:=Wc.r
  refine⟨p2,B,C,bs,rk,bv,rv,HJ c (6+i),rfl,yy,tz,Ne.symm n2,yT,aC.1,by omega,(λb hb=>by
   obtain⟨j,hj⟩:=ee hb
   exact (AO.b j b hj).2),Lm,Ne.symm n3,xw,aK.1,by omega,λF ws z l Hd hF Sd GO QN hz=>?_⟩
  have x':=Wc.st a6 n1 n2 n3 Sd yy
  have dd:=Sd.sx _ _ (sc _ _ (sb _ _ dx)) n4
  have sd:=Sd.sx _ _ (sc _ _ (sb _ _ sx)) n5
  have Mj:Paired (λ(r:R) v=>TupAt Hd r.v v) m x:=Sd.Mj (f:=λr:R=>r.v) yy (Ar (sb.trans sc) yA)
  have cb:H F=none:=Wc.s.free hF
  have cn:F ≠ D:=Ne.symm (Aj (sc _ _ (sb _ _ dx)) hF)
  have cg:F ≠ S:=Ne.symm (Aj (sc _ _ (sb _ _ sx)) hF)
  have bB:=QN.length
  rw[bo,af] at bB
  obtain⟨y0,a0,XA⟩:=CP QN (i:=0) rfl
  have vl:=Mj.length
  have rl:=R9.rl
  clear tz yT Lm xw Wb Wc VS yy qa hF n1 n2 n3 sb sc Wx dx yA sx
  refine gN (i:=9) ?_
  try dsimp only
  refine cM (λσ' W=>W9 H W p B C bs rk/\W F=some (.lst ws)/\TupAt W (kR (nB bs) (HJ c (6+i)) z).v y0/\W S=some (.lst (s.map V.str))/\∃ (D:Addr) (x:List V) (m:List R) (G:List Str) (u:List Kb) (ls:List (List Ln)),H D=none/\D ≠ p/\D ≠ B/\D ≠ C/\D ≠ S/\W D=some (.lst x)/\Paired (λ(r:R) v=>TupAt W r.v v) m x/\Ju K aB aP aM c (i+1) 8 (6+4 * i+4) bs rk m G u ls [] (s++if z.w = "stop" then [HJ c (6+i)] else [])/\σ'=[some (.ref a),some (.ref p),some (.int c),some (.ref B),some (.int ((0:Int)+(i:Int))),some (.ref C),U,some (.ref D),some (.ref S),some (.ref F)]) (λD' Ix=>?_) ?_
  ·have add:∀ W,An Hd W->(z.w = "mute"->(u.filter (GX "mute")).length<5)->(z.w ≠ "stop"->(u.filter UG).length<8)->RW (Z4 (gn) (U5 7) (U5 9)) (Dh 7) D' [some (.ref a),some (.ref p),some (.int c),some (.ref B),some (.int ((0:Int)+(i:Int))),some (.ref C),U,some (.ref D),some (.ref S),some (.ref F)] W:=λW s' g1 g2=>by
    obtain⟨T0,rfl,sM⟩:=XA.mono s'
    refine⟨_,rfl,_,rfl,D,F,_,_,rfl,rfl,s' _ _ dd,s' _ _ GO,CK (by have:=hz.len;omega),λD2 nt=>?_⟩
    have t2:=BP (o:=HO.lst (x++ws)) nt
    have st:=s'.trans t2
    have W2:=x'.same s'
    refine Ix _ _ ⟨x'.same st,st _ _ GO,⟨T0,rfl,t2 _ _ sM⟩,st _ _ sd,D2,x++ws,_,_,_,_,x'.s.free (s'.free nt),?_,?_,?_,Ne.symm (Aj (s' _ _ sd) nt),Al,Ds (Ar st Mj) (Ar st QN),R9.add F0 (by omega) rfl hz g1 (ah _) g2,rfl⟩
    ·intro e
     obtain⟨l',mm⟩:=W2.sr.some
     rw[e,mm] at nt
     cases nt
    ·obtain⟨bv,h,_⟩:=W2.b
     exact Ne.symm (Aj h nt)
    ·obtain⟨bv,h,_⟩:=W2.r
     exact Ne.symm (Aj h nt)
   obtain⟨T0,rfl,sM⟩:=id XA
   refine⟨_,rfl,F,_,_,_,rfl,rfl,kL GO,Ah (j:=0) a0,T0,_,_,_,rfl,rfl,kL sM,Ah (j:=0) rfl,rfl,_,rfl,C_ (λg=>?_) (λg=>?_)⟩
   ·have gw:z.w ≠ "mute":=λe=>by
     rw[decide_eq_true (congrArg V.str (by rw[Q5];exact e))] at g
     cases g
    refine Dd ?_
    exact add Hd (An.refl _) (λe=>absurd e gw) (λ_=>ar (bt _ _) (by have:=R9.nk;omega))
   ·have gw:z.w = "mute":=by
     have g1:decide (V.str (kR (nB bs) (HJ c (6+i)) z).w=V.str "mute")=true:=by
      cases e:decide (V.str (kR (nB bs) (HJ c (6+i)) z).w=V.str "mute") with
      | true=>rfl
      | false=>exact absurd (by rw[e];rfl) g
     have:=V.str.inj (of_decide_eq_true g1)
     rw[Q5] at this
     exact this
    have b5:=Mj
    have A:Dc K Hd D x:=.inl (.inl dd)
    refine⟨_,rfl,D,rfl,⟨_,A⟩,Cz (K:=K) (xs:=x) (λv=>decide (V.str (Ly Hd v).w=V.str "mute")) id A (BK (by omega)) (λy hy W hs R k=>?_) (λy hy _ W hs R k=>⟨_,rfl,k W (An.refl W)⟩) (λD5 H5 VI s5 qo=>?_)⟩
    ·obtain⟨r,_,ht⟩:=Dl Mj hy
     have er:=K6 ht
     obtain⟨T,rfl,hT⟩:=ht.mono hs
     have kk:=k W (An.refl W)
     rw[er] at kk
     exact⟨_,rfl,T,_,_,_,rfl,rfl,kL hT,Ah (j:=0) rfl,rfl,_,rfl,kk⟩
    rw[ic] at qo
    have el:(x.filter λv=>decide (V.str (Ly Hd v).w=V.str "mute")).length=(u.filter (GX "mute")).length:=by
     rw[<-(KN (λr:R=>decide (V.str r.w=V.str "mute")) (λv=>decide (V.str (Ly Hd v).w=V.str "mute")) Mj λr v _ h=>by rw[K6 h]).length]
     exact R9.vp
    refine⟨D5,_,rfl,kL (.inl qo),_,_,rfl,rfl,_,rfl,?_⟩
    rw[el]
    refine C_ (λg2=>?_) (λg2=>?_)
    ·have bL:(u.filter (GX "mute")).length<5:=by have:=of_decide_eq_true g2;omega
     exact add H5 s5 (λ_=>bL) (λ_=>ar (bt _ _) (by have:=R9.nk;omega))
    ·refine Ix _ _ ⟨x'.same s5,s5 _ _ GO,⟨T0,rfl,s5 _ _ sM⟩,s5 _ _ sd,D,x,m,G,u,ls,I,J,M,O,L,s5 _ _ dd,Ar s5 Mj,?_,rfl⟩
     rw[if_neg (by rw[gw];decide),eD]
     exact R9.skip
  ·rintro σ' W ⟨We,ZE,⟨T0,rfl,sM⟩,se,D,x,m,G,u,ls,I,J,M,O,L,de,a8,Re,rfl⟩
   refine⟨_,rfl,F,_,_,_,rfl,rfl,kL ZE,Ah (j:=0) a0,T0,_,_,_,rfl,rfl,kL sM,Ah (j:=0) rfl,rfl,_,rfl,C_ (λg=>?_) (λg=>?_)⟩
   ·have gw:z.w = "stop":=by
     have:=V.str.inj (of_decide_eq_true g)
     rw[Q5] at this
     exact this
    rw[if_pos gw] at Re
    have sl:=Re.sk
    rw[al] at sl
    refine⟨_,rfl,.inl ⟨rfl,_,kL se⟩,_,rfl,F,_,_,_,rfl,rfl,kL ZE,Ah (j:=0) a0,T0,_,_,_,rfl,rfl,kL sM,Ah (j:=1) rfl,S,_,_,rfl,rfl,se,BK (by rw[af];omega),?_⟩
    refine⟨We.put b2 a2 bK bR se,D,x,m,G,u,ls,_,I,J,M,O,L,by rw[Aw L];exact de,Ci a8 se,?_,Re,_,_,_,rfl⟩
    rw[Al,cq]
    show some (HO.lst (s.map V.str++[V.str (kR (nB bs) (HJ c (6+i)) z).nm]))=_
    rw[Mu]
    rfl
   ·have gw:z.w ≠ "stop":=λe=>g (decide_eq_true (congrArg V.str (by rw[Q5];exact e)))
    rw[if_neg gw,eD] at Re
    exact⟨We,D,x,m,G,u,ls,_,I,J,M,O,L,de,a8,se,Re,_,_,_,rfl⟩
 rintro σ Hx ⟨Wx,D,x,m,G,u,ls,s,I,J,M,O,L,dx,yA,sx,R9,Y,U,X,rfl⟩
 have bW:(s.map V.str).length=s.length:=af ..
 refine⟨_,rfl,S,_,rfl,kL (.inl sx),_,_,rfl,?_⟩
 obtain⟨m2,XZ,ca,cd,co⟩:∃ m2:Int,(if (((s.map V.str).length:Nat):Int)<2 then (((s.map V.str).length:Nat):Int) else 2)=m2/\0<=m2/\m2<=2/\m2<=((s.length:Nat):Int):=⟨_,rfl,by split <;> omega,by split <;> omega,by split <;> omega⟩
 refine⟨m2,by rw[<-XZ],by omega,by omega,?_⟩
 clear XZ
 refine Fg (lo:=0) (n:=m2.toNat) (λj σ Hx=>W9 H Hx p B C bs rk/\∃ (x:List V) (m:List R) (an:List Nat),Hx D=some (.lst x)/\Paired (λ(r:R) v=>TupAt Hx r.v v) m x/\Hx S=some (.lst (s.map V.str))/\an.length=j/\Ju K aB aP aM c mk.toNat 8 (6+4 * mk.toNat+j) bs rk m G u ls an s/\∃ Y U X,σ=[some (.ref a),some (.ref p),some (.int c),some (.ref B),Y,some (.ref C),U,some (.ref D),some (.ref S),X])
  ⟨Wx,x,m,[],dx,yA,sx,rfl,R9,_,_,_,rfl⟩ ?_ ?_
 ·rintro j σ Hx hj ⟨Wx,x,m,an,dx,yA,sx,bP,R9,Y,U,X,rfl⟩
  have ej:((0:Int)+(j:Int))=(j:Int):=gI _
  refine⟨_,rfl,.inl ⟨rfl,_,kL dx⟩,by show 1<=sizeLine;decide,λT1 bS=>?_⟩
  obtain⟨Hb,i7,t1,u1⟩:=Em (o:=HO.tup [V.str "step"]) bS
  rw[i7]
  have Wb:=Wx.same t1
  refine⟨_,rfl,_,rfl,_,rfl,_,rfl,_,_,rfl,rfl,_,rfl,p,2,rfl,Wb.sr,by decide,by decide,λd Hc hd fc yy=>⟨_,_,rfl,rfl,_,rfl,?_⟩⟩
  have Wc:=Wb.draw hp fc yy
  have a3:Hc S=some (.lst (s.map V.str)):=by rw[fc S a2];exact t1 _ _ sx
  have bd:Hc D=some (.lst x):=by rw[fc D J];exact t1 _ _ dx
  have bN:Hc T1=some (.tup [V.str "step"]):=by
   rw[fc T1 λe=>?_]
   ·exact u1
   ·obtain⟨l',mm⟩:=Wb.sr.some
    rw[e,mm] at u1
    cases u1
  have a4:Paired (λ(r:R) v=>TupAt Hc r.v v) m x:=fc.Mj (f:=λr:R=>r.v) Wb.sr (Ar t1 yA)
  have aZ:j<s.length:=by omega
  have ap:En (s.map V.str) (some ((0:Int)+(j:Int))) (some ((0:Int)+(j:Int)+1+((d:Nat):Int)))=((s[j]::((s.drop (j+1)).take (min (j+1+d) s.length - (j+1)))).map V.str):=by
   have e2:(0:Int)+(j:Int)+1+((d:Nat):Int)=((j+1+d:Nat):Int):=by omega
   rw[e2,ej]
   unfold En
   rw[HT.GZ,HT.GZ,bW,<-List.map_drop,<-ij]
   refine congrArg (List.map V.str) ?_
   rw[Nat.min_eq_left (by omega:j<=s.length),List.drop_eq_getElem_cons aZ]
   have e3:min (j+1+d) s.length - j=(min (j+1+d) s.length - (j+1))+1:=by omega
   rw[e3,List.take_succ_cons]
  have aQ:∀ t∈s[j]::((s.drop (j+1)).take (min (j+1+d) s.length - (j+1))),t∈s:=λt ht=>by
   rcases ci.mp ht with rfl | ht
   ·exact et aZ
   ·exact List.mem_of_mem_drop (gy ht)
  have aN:(s[j]::((s.drop (j+1)).take (min (j+1+d) s.length - (j+1)))).Nodup:=by
   have h0:(s.drop j).Nodup:=R9.sd.sublist (List.drop_sublist _ _)
   rw[List.drop_eq_getElem_cons aZ] at h0
   exact h0.sublist (List.Sublist.cons_cons _ (kx _ _))
  have ac:(s[j]::((s.drop (j+1)).take (min (j+1+d) s.length - (j+1)))).length<=24:=by
   rw[bo,cm]
   omega
  obtain⟨wv,cp,MM⟩:=R9.step F0 aN ac aQ (by omega)
  generalize (s.drop (j+1)).take (min (j+1+d) s.length - (j+1))=ts at ap aQ aN ac MM
  generalize s[j]=t0 at ap aQ aN ac MM
  refine⟨S,_,rfl,kL a3,λp5 Z=>?_⟩
  rw[ap]
  obtain⟨Hd,i7,t5,u5⟩:=Em (o:=HO.lst ((t0::ts).map V.str)) Z
  rw[i7]
  refine⟨p5,_,rfl,.inl ⟨.inl (.inl u5),λT2 oC=>?_⟩⟩
  obtain⟨He,i7,t6,u6⟩:=Em (o:=HO.tup ((t0::ts).map V.str)) oC
  rw[i7]
  refine⟨T1,T2,_,_,rfl,rfl,kL (t6 _ _ (t5 _ _ bN)),kL u6,List.cons_ne_nil _ _,CK (by rw[List.length_map];show 1+_<=_;omega),(λz=>absurd z (List.cons_ne_nil _ _)),λ_ T3 b1=>?_⟩
  have t7:=BP (o:=HO.tup ([V.str "step"]++(t0::ts).map V.str)) b1
  have u7:upd He T3 (HO.tup ([V.str "step"]++(t0::ts).map V.str)) T3=some (.tup (⟨"step",t0,ts.map V.str⟩:R).v):=Al
  generalize upd He T3 (HO.tup ([V.str "step"]++(t0::ts).map V.str))=Hf at t7 u7 |-
  have Lo:=t5.trans (t6.trans t7)
  have df:=Lo _ _ bd
  have vl:=a4.length
  have rl:=R9.rl
  refine⟨D,x,_,rfl,rfl,df,BK (by omega),?_⟩
  exact⟨(Wc.same Lo).put I J M O df,x++[V.ref T3],_,wv,Al,(Ci (Ar Lo a4) df).snoc (TupAt.upd ⟨T3,rfl,u7⟩ df),by rw[Aw (Ne.symm L)];exact Lo _ _ a3,by omega,MM,_,_,_,rfl⟩
 ·rintro σ Hx ⟨Wx,x,m,an,dx,yA,sx,bP,R9,Y,U,X,rfl⟩
  exact⟨_,rfl,q D x c bs rk m G u ls an s Hx I Wx.s dx yA aC.1 aK.1 (R9.fin (by omega) (by decide) (by omega))⟩
inductive Io where
 | pull (v:V)
 | push (v:V)
 | store (v:V)
 | storeB (v b:V)
 | press (v:V)
 | shoe (v:V)
 | cancel
def Io.v:Io->List V
 | .pull v=>[.str "pull",v]
 | .push v=>[.str "push",v]
 | .store v=>[.str "store",v]
 | .storeB v b=>[.str "store",v,b]
 | .press v=>[.str "press",v]
 | .shoe v=>[.str "shoe",v]
 | .cancel=>[.str "cancel"]
theorem HR {c A B:Prop} [Decidable c] (a:c) (h:A):if decide c=true then A else B:=by
 rw[decide_eq_true a,if_pos rfl]
 exact h
theorem G_ {c A B:Prop} [Decidable c] (a:¬ c) (h:B):if decide c=true then A else B:=by
 rw[decide_eq_false a,if_neg fb]
 exact h
theorem Ep {a b:Str} (h:(a == b)=false):¬ V.str a=V.str b:=λz=>by
 rw[V.str.inj z,beq_self_eq_true] at h
 cases h
theorem Ez {a b:Str} {A B:Prop} (h:B) (c:(a == b)=false:=by decide):if decide (V.str a=V.str b)=true then A else B:=G_ (Ep c) h
def zO (cK cP cB cS:Addr):Nat->Addr
 | 0=>cK
 | 1=>cP
 | 2=>cB
 | _=>cS
structure Cs where
 dr:Nat
 sh:Nat
 m:Nat->Option Ps
inductive Rs where
 | told (v:V)
 | no (i:Nat)
def Kp (ks:List R):V->Option Nat
 | .str t=>if t∈Ij ks then some ((Ij ks).idxOf t) else none
 | _=>none
def KY:V->Option Nat
 | .int i=>if 0<=i/\i<10 then some i.toNat else none
 | _=>none
def RN (n:Nat):V->Option Nat
 | .int i=>if 0<=i/\i<=(n:Nat) then some i.toNat else none
 | _=>none
def yr (ns:List Str) (ks:List R) (dr:Nat):V->Option Ps
 | .non=>some (.every dr)
 | .str t=>if t∈ns then some (.part (dr &&& JL ks t) (JL ks t)) else none
 | _=>none
def Oh (up:Bool) (dr k:Nat):Nat:=if up then dr ||| 2 ^ k else dr - (dr &&& 2 ^ k)
def act (ns:List Str) (ks:List R) (n:Nat) (s:Cs):Io->Cs × Rs
 | .pull v=>match Kp ks v with
  | some k=>(⟨Oh true s.dr k,s.sh,s.m⟩,.told (.bl (!decide (Oh true s.dr k=s.dr))))
  | none=>(s,.no 0)
 | .push v=>match Kp ks v with
  | some k=>(⟨Oh false s.dr k,s.sh,s.m⟩,.told (.bl (!decide (Oh false s.dr k=s.dr))))
  | none=>(s,.no 0)
 | .store v=>match KY v with
  | some p=>(⟨s.dr,s.sh,Lr s.m p (.every s.dr)⟩,.told .non)
  | none=>(s,.no 1)
 | .storeB v b=>match KY v with
  | some p=>match yr ns ks s.dr b with
   | some ps=>(⟨s.dr,s.sh,Lr s.m p ps⟩,.told .non)
   | none=>(s,.no 2)
  | none=>(s,.no 1)
 | .press v=>match (KY v).bind s.m with
  | some ps=>(⟨ps.put s.dr,s.sh,s.m⟩,.told .non)
  | none=>(s,.no 1)
 | .shoe v=>match RN n v with
  | some i=>(⟨s.dr,i,s.m⟩,.told .non)
  | none=>(s,.no 3)
 | .cancel=>(⟨0,0,s.m⟩,.told .non)
theorem RV {v:V} (h:Ge ns v=.non) (e:v=.str t) (a:t∈ns):False:=by
 subst e
 rw[je a] at h
 cases h
theorem Ru {v:V} (h:Ge (Ij ks) v=.non):Kp ks v=none:=by
 cases v with
 | str t=>exact if_neg λz=>RV h rfl z
 | _=>rfl
theorem Vh {v:V} (h:Jz v=false):KY v=none:=by
 cases v with
 | int i =>
  refine if_neg λz=>?_
  have a:(decide (0<=i) && decide (i<10))=false:=h
  rw[decide_eq_true z.1,decide_eq_true z.2] at a
  cases a
 | _=>rfl
theorem Jq {p:Nat} (h:p<10):KY (.int (p:Nat))=some p:=if_pos ⟨by omega,by omega⟩
theorem cT {v:V} {p:Nat} (h:KY v=some p):v=.int (p:Nat)/\p<10:=by
 cases v with
 | int i =>
  have a:(if 0<=i/\i<10 then some i.toNat else none)=some p:=h
  by_cases c:0<=i/\i<10
  ·rw[if_pos c] at a
   have:=Option.some.inj a
   exact⟨congrArg V.int (by omega),by omega⟩
  ·rw[if_neg c] at a
   cases a
 | _=>cases h
theorem Z0 {v:V} (h:jJ n v=false):RN n v=none:=by
 cases v with
 | int i =>
  refine if_neg λz=>?_
  have a:(decide (0<=i) && decide (i<=(n:Nat)))=false:=h
  rw[decide_eq_true z.1,decide_eq_true z.2] at a
  cases a
 | _=>rfl
theorem Xm (h:i<=n):RN n (.int (i:Nat))=some i:=if_pos ⟨by omega,by omega⟩
section
variable {s:Cs} {v b:V}
theorem Pk (h:t∈Ij ks):act ns ks n s (.pull (.str t))=(⟨Oh true s.dr ((Ij ks).idxOf t),s.sh,s.m⟩,.told (.bl (!decide (Oh true s.dr ((Ij ks).idxOf t)=s.dr)))):=by
 unfold act
 try dsimp only
 rw[show Kp ks (.str t)=some _ from if_pos h]
theorem PJ (h:t∈Ij ks):act ns ks n s (.push (.str t))=(⟨Oh false s.dr ((Ij ks).idxOf t),s.sh,s.m⟩,.told (.bl (!decide (Oh false s.dr ((Ij ks).idxOf t)=s.dr)))):=by
 unfold act
 try dsimp only
 rw[show Kp ks (.str t)=some _ from if_pos h]
theorem UJ (h:Ge (Ij ks) v=.non):act ns ks n s (.pull v)=(s,.no 0):=by
 unfold act
 try dsimp only
 rw[Ru h]
theorem UT (h:Ge (Ij ks) v=.non):act ns ks n s (.push v)=(s,.no 0):=by
 unfold act
 try dsimp only
 rw[Ru h]
theorem M_ {p:Nat} (h:p<10):act ns ks n s (.store (.int (p:Nat)))=(⟨s.dr,s.sh,Lr s.m p (.every s.dr)⟩,.told .non):=by
 unfold act
 try dsimp only
 rw[Jq h]
theorem Q7 (h:Jz v=false):act ns ks n s (.store v)=(s,.no 1):=by
 unfold act
 try dsimp only
 rw[Vh h]
theorem Kq {p:Nat} (h:p<10):act ns ks n s (.storeB (.int (p:Nat)) .non)=(⟨s.dr,s.sh,Lr s.m p (.every s.dr)⟩,.told .non):=by
 unfold act
 try dsimp only
 rw[Jq h]
 rfl
theorem Lq {p:Nat} (h:p<10) (a:t∈ns):act ns ks n s (.storeB (.int (p:Nat)) (.str t))=(⟨s.dr,s.sh,Lr s.m p (.part (s.dr &&& JL ks t) (JL ks t))⟩,.told .non):=by
 unfold act
 try dsimp only
 rw[Jq h,show yr ns ks s.dr (.str t)=some _ from if_pos a]
theorem Py (h:Jz v=false):act ns ks n s (.storeB v b)=(s,.no 1):=by
 unfold act
 try dsimp only
 rw[Vh h]
theorem PK (h:Jz v=true) (d:b ≠ .non) (c:Ge ns b=.non):act ns ks n s (.storeB v b)=(s,.no 2):=by
 obtain⟨p,rfl,a⟩:=Qk h
 unfold act
 try dsimp only
 rw[Jq a]
 have e:yr ns ks s.dr b=none:=by
  cases b with
  | non=>exact (d rfl).elim
  | str t=>exact if_neg λz=>RV c rfl z
  | _=>rfl
 rw[e]
theorem NP {p:Nat} {ps:Ps} (h:p<10) (a:s.m p=some ps):act ns ks n s (.press (.int (p:Nat)))=(⟨ps.put s.dr,s.sh,s.m⟩,.told .non):=by
 unfold act
 try dsimp only
 rw[Jq h,Option.bind_some,a]
theorem Le (h:∀ p:Nat,v=.int (p:Nat)->p<10->s.m p=none):act ns ks n s (.press v)=(s,.no 1):=by
 unfold act
 try dsimp only
 have e:(KY v).bind s.m=none:=by
  cases z:KY v with
  | none=>rfl
  | some p =>
   obtain⟨e,a⟩:=cT z
   exact h p e a
 rw[e]
theorem PB (h:i<=n):act ns ks n s (.shoe (.int (i:Nat)))=(⟨s.dr,i,s.m⟩,.told .non):=by
 unfold act
 try dsimp only
 rw[Xm h]
theorem Ul (h:jJ n v=false):act ns ks n s (.shoe v)=(s,.no 3):=by
 unfold act
 try dsimp only
 rw[Z0 h]
end
def Fb (H H':Hp) (a b:Addr):Prop:=∀ c o,H c=some o->c ≠ a->c ≠ b->H' c=some o
theorem Eg.le {y x:Addr} {bs:List (Str × Nat)} {m:Nat->Option Ps} {c b:Nat} (h:Eg C Cy pE pA Ho H y x bs ks sts dr sh sd m c) (d:c<=b):Eg C Cy pE pA Ho H y x bs ks sts dr sh sd m b:=by
 obtain⟨a,e,f,g⟩:=h.st.ex
 exact⟨h.o,h.f,h.hs,h.ny,a,e,be f d,g⟩
theorem GF.yV {y x:Addr} (h:GF C Cy Ho H y x ks sts dr sh sd):Dn Cy H y x dr sh sd:=by
 obtain⟨⟨c,bs,rk,b,a⟩,d,e⟩:=h
 exact a.c
def Io.wd:Io->Str
 | .pull _=>"pull"
 | .push _=>"push"
 | .store _=>"store"
 | .storeB _ _=>"store"
 | .press _=>"press"
 | .shoe _=>"shoe"
 | .cancel=>"cancel"
def Io.args:Io->List V
 | .pull v=>[v]
 | .push v=>[v]
 | .store v=>[v]
 | .storeB v b=>[v,b]
 | .press v=>[v]
 | .shoe v=>[v]
 | .cancel=>[]
def Io.odd (H:Hp):Io->Prop
 | .pull v=>Cm H v
 | .push v=>Cm H v
 | .store v=>Cm H v
 | .storeB v b=>Cm H v/\Cm H b
 | .press v=>Cm H v
 | .shoe v=>Cm H v
 | .cancel=>True
theorem Io.odd.mono (s:An H H') {d:Io} (h:d.odd H):d.odd H':=by
 cases d with
 | pull v=>exact Cm.mono s h
 | push v=>exact Cm.mono s h
 | store v=>exact Cm.mono s h
 | storeB v b=>exact⟨Cm.mono s h.1,Cm.mono s h.2⟩
 | press v=>exact Cm.mono s h
 | shoe v=>exact Cm.mono s h
 | cancel=>exact h
inductive ZZ (C Cy pE pA cK cP cB cS:Addr) (vs:List V) (H:Hp) (Q:VK) (E:XK):Prop
 | mk (Ho:Hp) (y x:Addr) (bs:List (Str × Nat)) (ks:List R) (sts:List Nat) (s:Cs) (sd:Addr) (c:Nat) (Tp:Addr) (d:Io):vs=[.ref y,.str d.wd,.ref Tp]->Eg C Cy pE pA Ho H y x bs ks sts s.dr s.sh sd s.m c->c<900->H Tp=some (.tup d.args)->d.odd H->(∀ s' u H',act (bs.map (·.1)) ks sts.length s d=(s',.told u)->Fb H H' y sd->Eg C Cy pE pA Ho H' y x bs ks sts s'.dr s'.sh sd s'.m (c+1)->Q .non H')->(∀ i H',act (bs.map (·.1)) ks sts.length s d=(s,.no i)->An H H'->E (.ref (zO cK cP cB cS i)) none H')->ZZ C Cy pE pA cK cP cB cS vs H Q E
theorem xG:Aq xt xt (Ac wV):=Bf
include N T in
theorem m8:Ao P w K mg base (Gh P w) 7 aD.fDz aD.dDz xt (ZZ C Cy pE pA cK cP cB cS):=by
 have an:Ao P w K mg base (Gh P w) 5 aD.fXp aD.dXp ui (Xv true C Cy cK):=m_ N T
 have ap:Ao P w K mg base (Gh P w) 5 aD.fXq aD.dXq ui (Xv false C Cy cK):=lF N T
 have ac:Ao P w K mg base (Gh P w) 6 aD.fXt aD.dXt we (jD C Cy pE pA cP cB):=oU N T
 have ab:Ao P w K mg base (Gh P w) 3 aD.fXr aD.dXr BC (fW C Cy pE pA cP):=jq N T
 have as:Ao P w K mg base (Gh P w) 3 aD.fXh aD.dXh DD (iC C Cy cS):=qP N T
 refine N.FDz.1.Jl xG λH vs Q E J h=>?_
 obtain⟨D,y,x,bs,M,l,s,q,c,u,d,rfl,O,hc,A,G,B,R⟩:=h
 have hu:=CN J
 refine⟨_,(@Ag _ _ _ (@Bl _ _ _ _ _ _ _ _ (BR Cj (pv 1) BW (BX _)) (@Ag _ _ _ (Bx (Bq (pv 0) T.clR N.FXp.2.2 an (ad J) N.FXp.2.1 .nil Dk (@Ay _ _ _ _ _ rfl (@Az _ _ _ _ _ _ _ (Av (K:=K) rfl) (pv 2) Ae (λ_ _=>rfl)) Ab)))) (@Ag _ _ _ (@Bl _ _ _ _ _ _ _ _ (BR Cj (pv 1) BW (BX _)) (@Ag _ _ _ (Bx (Bq (pv 0) T.clR N.FXq.2.2 ap (ad J) N.FXq.2.1 .nil Dk (@Ay _ _ _ _ _ rfl (@Az _ _ _ _ _ _ _ (Av (K:=K) rfl) (pv 2) Ae (λ_ _=>rfl)) Ab)))) (@Ag _ _ _ (@Bl _ _ _ _ _ _ _ _ (BR Cj (pv 1) BW (BX _)) (@Ag _ _ _ (Bx (Bq (pv 0) T.clR N.FXt.2.2 ac (ad J) N.FXt.2.1 .nil Dk (@Ay _ _ _ _ _ rfl (@Az _ _ _ _ _ _ _ (Av (K:=K) rfl) (pv 2) Ae (λ_ _=>rfl)) (@Ay _ _ _ _ _ rfl (Jb (BR Cj (BJ BL rfl T.len aS (@Ay _ _ _ _ _ rfl (pv 2) Ab)) Ae (BX _)) (@Az _ _ _ _ _ _ _ (Av (K:=K) rfl) (pv 2) Ae (λ_ _=>rfl)) F_) Ab))))) (@Ag _ _ _ (@Bl _ _ _ _ _ _ _ _ (BR Cj (pv 1) BW (BX _)) (@Ag _ _ _ (Bx (Bq (pv 0) T.clR N.FXr.2.2 ab (ad J) N.FXr.2.1 .nil Dk (@Ay _ _ _ _ _ rfl (@Az _ _ _ _ _ _ _ (Av (K:=K) rfl) (pv 2) Ae (λ_ _=>rfl)) Ab)))) (@Ag _ _ _ (@Bl _ _ _ _ _ _ _ _ (BR Cj (pv 1) BW (BX _)) (@Ag _ _ _ (Bx (Bg (pv 0) T.clR N.FXc.2.2 (lY N T) (ad J) N.FXc.2.1 .nil Am))) (@Ag _ _ _ (Bx (Bq (pv 0) T.clR N.FXh.2.2 as (ad J) N.FXh.2.1 .nil Dk (@Ay _ _ _ _ _ rfl (@Az _ _ _ _ _ _ _ (Av (K:=K) rfl) (pv 2) Ae (λ_ _=>rfl)) Ab)))))))))))))),?_⟩
 obtain⟨S,fs,F,_,_,_,_,_,L⟩:=id O.at.ex
 have U:∀ {a},SX y H a->Fb H a y q:=λ{_} c b o e n _=>c b o e n
 have fd:∀ {a},SX q H a->Fb H a y q:=λ{_} c b o e _ n=>c b o e n
 cases d with
 | pull v =>
  refine⟨_,rfl,rfl,_,rfl,HR rfl ⟨_,rfl,y,S,fs,rfl,F,L _ (by decide),_,rfl,u,_,_,_,rfl,rfl,kL A,Ah (j:=0) rfl,D,y,x,M,l,s.dr,s.sh,q,v,rfl,O.ok,G,(λt d2 a g k W Y X=>?_),(λa m f=>R 0 a (UJ f) m)⟩⟩
  subst k
  subst Y
  exact B _ _ a (Pk W) (U g) ((O.put g X.yV).le (by omega))
 | push v =>
  refine⟨_,rfl,rfl,_,rfl,G_ (Ep (show (("push" : Str) == "pull")=false by decide)) ⟨_,rfl,rfl,_,rfl,HR rfl ⟨_,rfl,y,S,fs,rfl,F,L _ (by decide),_,rfl,u,_,_,_,rfl,rfl,kL A,Ah (j:=0) rfl,D,y,x,M,l,s.dr,s.sh,q,v,rfl,O.ok,G,(λt d2 a g k W Y X=>?_),(λa m f=>R 0 a (UT f) m)⟩⟩⟩
  subst k
  subst Y
  exact B _ _ a (PJ W) (U g) ((O.put g X.yV).le (by omega))
 | store v =>
  refine⟨_,rfl,rfl,_,rfl,G_ (Ep (show (("store" : Str) == "pull")=false by decide)) ⟨_,rfl,rfl,_,rfl,G_ (Ep (show (("store" : Str) == "push")=false by decide)) ⟨_,rfl,rfl,_,rfl,HR rfl ⟨_,rfl,y,S,fs,rfl,F,L _ (by decide),_,rfl,u,_,_,_,rfl,rfl,kL A,Ah (j:=0) rfl,_,rfl,u,_,rfl,.inr (kL A),rfl,_,rfl,G_ (λz=>absurd (V.int.inj z) (by show ¬ ((1:Nat):Int)=2;decide)) ?_⟩⟩⟩⟩
  refine⟨D,y,x,bs,M,l,s.dr,s.sh,q,s.m,c,v,.non,rfl,O,hc,G,.non,(λp a k I _ g r=>?_),(λp t a _ _ k=>nomatch k),(λa m f=>R 1 a (Q7 f) m),(λa _ _ h=>(h rfl).elim)⟩
  subst k
  exact B _ _ a (M_ I) (fd g) r
 | storeB v b =>
  refine⟨_,rfl,rfl,_,rfl,G_ (Ep (show (("store" : Str) == "pull")=false by decide)) ⟨_,rfl,rfl,_,rfl,G_ (Ep (show (("store" : Str) == "push")=false by decide)) ⟨_,rfl,rfl,_,rfl,HR rfl ⟨_,rfl,y,S,fs,rfl,F,L _ (by decide),_,rfl,u,_,_,_,rfl,rfl,kL A,Ah (j:=0) rfl,_,rfl,u,_,rfl,.inr (kL A),rfl,_,rfl,HR rfl ⟨_,rfl,u,_,_,_,rfl,rfl,kL A,Ah (j:=1) rfl,?_⟩⟩⟩⟩⟩
  refine⟨D,y,x,bs,M,l,s.dr,s.sh,q,s.m,c,v,b,rfl,O,hc,G.1,G.2,(λp a k I Z g r=>?_),(λp t a k I Z W g r=>?_),(λa m f=>R 1 a (Py f) m),(λa m h8 h9 f=>R 2 a (PK h8 h9 f) m)⟩
  ·subst k
   subst Z
   exact B _ _ a (Kq I) (fd g) r
  ·subst k
   subst Z
   exact B _ _ a (Lq I W) (fd g) r
 | press v =>
  refine⟨_,rfl,rfl,_,rfl,G_ (Ep (show (("press" : Str) == "pull")=false by decide)) ⟨_,rfl,rfl,_,rfl,G_ (Ep (show (("press" : Str) == "push")=false by decide)) ⟨_,rfl,rfl,_,rfl,G_ (Ep (show (("press" : Str) == "store")=false by decide)) ⟨_,rfl,rfl,_,rfl,HR rfl ⟨_,rfl,y,S,fs,rfl,F,L _ (by decide),_,rfl,u,_,_,_,rfl,rfl,kL A,Ah (j:=0) rfl,D,y,x,bs,M,l,s.dr,s.sh,q,s.m,c,v,rfl,O,G,(λp ps a k I hm g r=>?_),(λa m f=>R 1 a (Le f) m)⟩⟩⟩⟩⟩
  subst k
  exact B _ _ a (NP I hm) (U g) (r.le (by omega))
 | shoe v =>
  refine⟨_,rfl,rfl,_,rfl,G_ (Ep (show (("shoe" : Str) == "pull")=false by decide)) ⟨_,rfl,rfl,_,rfl,G_ (Ep (show (("shoe" : Str) == "push")=false by decide)) ⟨_,rfl,rfl,_,rfl,G_ (Ep (show (("shoe" : Str) == "store")=false by decide)) ⟨_,rfl,rfl,_,rfl,G_ (Ep (show (("shoe" : Str) == "press")=false by decide)) ⟨_,rfl,rfl,_,rfl,G_ (Ep (show (("shoe" : Str) == "cancel")=false by decide)) ⟨_,rfl,y,S,fs,rfl,F,L _ (by decide),_,rfl,u,_,_,_,rfl,rfl,kL A,Ah (j:=0) rfl,D,y,x,M,l,s.dr,s.sh,q,v,rfl,O.ok,G,(λi a k hi g X=>?_),(λa m f=>R 3 a (Ul f) m)⟩⟩⟩⟩⟩⟩
  subst k
  exact B _ _ a (PB hi) (U g) ((O.put g X.yV).le (by omega))
 | cancel =>
  refine⟨_,rfl,rfl,_,rfl,G_ (Ep (show (("cancel" : Str) == "pull")=false by decide)) ⟨_,rfl,rfl,_,rfl,G_ (Ep (show (("cancel" : Str) == "push")=false by decide)) ⟨_,rfl,rfl,_,rfl,G_ (Ep (show (("cancel" : Str) == "store")=false by decide)) ⟨_,rfl,rfl,_,rfl,G_ (Ep (show (("cancel" : Str) == "press")=false by decide)) ⟨_,rfl,rfl,_,rfl,HR rfl ⟨_,rfl,y,S,fs,rfl,F,L _ (by decide),D,y,x,bs,M,l,s.dr,s.sh,q,s.m,c,rfl,O,λa g r=>?_⟩⟩⟩⟩⟩⟩
  exact B _ _ a rfl (U g) (r.le (by omega))
def Zd (n:Nat):V->Bool
 | .int i=>decide (0<=i) && decide (i<(n:Nat))
 | _=>false
inductive di (C cB cY:Addr) (vs:List V) (H:Hp) (Q:VK) (E:XK):Prop
 | mk (x:Addr) (us:List V) (bs:List (Str × Nat)) (rk:List (Str × Nat × Int)) (ks:List R) (ls:List (List Ln:_)) (sts:List Nat) (v u:V):vs=[.ref x,v,u]->Ip C H x us bs rk ks ls sts->Cm H v->Cm H u->(∀ n∈bs.map (·.1),isNm n)->(∀ (j n:Nat) (b:Str × Nat) H',An H H'->v=.str b.1->u=.int (n:Nat)->bs[j]? = some b->(bs.map (·.1)).idxOf b.1=j->n<b.2->Q (.int ((((bs.take j).map (·.2)).sum+n:Nat):Int)) H')->(∀ H',An H H'->Ge (bs.map (·.1)) v=.non->E (.ref cB) none H')->(∀ (j:Nat) (b:Str × Nat) H',An H H'->v=.str b.1->bs[j]? = some b->(bs.map (·.1)).idxOf b.1=j->Zd b.2 u=false->E (.ref cY) none H')->di C cB cY vs H Q E
theorem oG:Aq ["organ","name","number","board"] z8 (Ac um):=Bf
include N T in
theorem pD:Ao P w K mg base (Gh P w) 5 aD.fKy aD.dKy z8 (di C cB cY):=by
 have B:Ao P w K mg base (Gh P w) 4 aD.fBn aD.dBn uA (Zv C cB):=bF N T
 refine N.FKy.1.Jl oG λH vs Q E f h=>?_
 obtain⟨x,R,bs,rk,y,ls,s,v,u,rfl,O,L,D,X,q,Z,m⟩:=h
 have hu:=CN f
 refine⟨_,(@Af _ _ _ _ _ (@Bo _ _ _ _ _ _ 3 oG.nd rfl (Or.inl rfl) (@Az _ _ _ _ _ _ _ (Bp (K:=K) rfl) (Bg (pv 0) T.cl N.FOb.2.2 (Sg N T) (ad f) N.FOb.2.1 .nil Am) (Ai B (ad f) rfl N.FBn.2.2 N.FBn.1.kp N.FBn.2.1 .nil Dk (@Ay _ _ _ _ _ rfl (pv 0) (@Ay _ _ _ _ _ rfl (pv 1) Ab))) (λ_ _=>rfl)) (by kernel_rfl) (.inl rfl))
  (@Af _ _ _ _ _ (@Bl _ _ _ _ _ _ _ _ (PW.pt (D_ (CG (CV (zC (Q9 N T) f rfl N.FWh (@Ay _ _ _ _ _ rfl (pv 2) Ab)))) (Do (CG (Hg E_ HF Ae (pv 2) (@Az _ _ _ _ _ _ _ (Av (K:=K) rfl) (pv 3) Ae (λ_ _=>rfl))))))) (@Ag _ _ _ (Fv T.xY.exY rfl T.xY.mY rfl G8 (@Ay _ _ _ _ _ rfl BW Ab))) Ba)
  (@Ag _ _ _ (@Ax _ _ _ _ (Bq (pv 0) T.cl N.FOk.2.2 (Wt N T) (ad f) N.FOk.2.1 .nil Am (@Ay _ _ _ _ _ rfl (pv 1) (@Ay _ _ _ _ _ rfl (pv 2) Ab))))))),?_⟩
 obtain⟨⟨⟨F,fs,_,_,_,_,_,_,_,_,G,_,_,_,_,I,_⟩,_⟩,_⟩:=id O.o
 refine⟨_,rfl,x,F,fs,rfl,G,I _ (by decide),x,bs,y,rfl,O.o.o,λY i3 H1 VU l o M=>?_⟩
 refine⟨_,rfl,_,rfl,x,R,bs,rk,y,ls,s,v,rfl,O.mono l,Cm.mono l L,X,λt d g V U=>?_,λd g e=>Z d (l.trans g) e⟩
 subst V
 have p:=Js U
 rw[am] at p
 obtain⟨b,c,rfl⟩:=aT.mp p
 generalize k:(bs.map (·.1)).idxOf b.1=j at c
 clear p
 have a:=l.trans g
 obtain⟨yb,J,Tb,rfl,tj⟩:=CP (Ar g M) c
 refine⟨Y,i3,_,_,rfl,rfl,kL (g _ _ o),Ah J,?_⟩
 refine⟨_,rfl,u,rfl,Cm.mono a D,_,rfl,?_⟩
 cases u with
 | int i =>
  refine Bk ⟨_,rfl,_,_,rfl,rfl,_,rfl,C_ (λA=>?_) (λA=>?_)⟩
  ·refine⟨_,rfl,Tb,_,_,_,rfl,rfl,kL tj,Ah (j:=1) rfl,_,_,rfl,rfl,decide (i<((b.2:Nat):Int)),rfl,?_⟩
   by_cases r:i<((b.2:Nat):Int)
   ·rw[decide_eq_true r]
    have S:0<=i:=of_decide_eq_true A
    refine Bk ?_
    obtain⟨n,rfl⟩:=gX S
    refine⟨_,rfl,x,F,fs,rfl,a _ _ G,I _ (by decide),_,rfl,_,rfl,x,bs,y,j,b,((n:Nat):Int),rfl,(O.mono a).o.o,c,λW s3=>?_⟩
    have e:((((bs.take j).map (·.2)).sum:Nat):Int)+((n:Nat):Int)=((((bs.take j).map (·.2)).sum+n:Nat):Int):=by omega
    rw[e]
    exact q j n b W (a.trans s3) rfl rfl c k (by omega)
   ·rw[decide_eq_false r]
    exact Dd ⟨by show 1<=1000;decide,m j b d a rfl c k (by show (decide (0<=i) && decide (i<((b.2:Nat):Int)))=false;rw[decide_eq_false r,Bool.and_false])⟩
  ·exact⟨_,rfl,Dd ⟨by show 1<=1000;decide,m j b d a rfl c k (by show (decide (0<=i) && decide (i<((b.2:Nat):Int)))=false;rw[decide_eq_false (λz=>A (decide_eq_true z)),Bool.false_and])⟩⟩
 | _=>exact Dd ⟨by show 1<=1000;decide,m j b d a rfl c k rfl⟩
theorem Jf.new {x y c b:Addr} (h:H z=some (.ins Cp b (BV "hands" (.ref c) (BV "console" (.ref y) (BV "organ" (.ref x) []))))):Jf Cp H z x y c:=⟨b,_,h,rfl,rfl,rfl,λm a=>by
 simp only[WX,List.mem_cons,List.not_mem_nil,or_false] at a
 rcases a with rfl | rfl | rfl | rfl | rfl | rfl | rfl | rfl <;> rfl⟩
inductive dI (Cy Cp:Addr) (vs:List V) (H:Hp) (Q:VK) (b9:XK):Prop
 | mk (z dz x:Addr):vs=[.ref z,.ref x]->H z=some (.ins Cp dz [])->(∀ (y sd hd:Addr) H',SX z H H'->H y=none->H hd=none->H' hd=some (.dK [])->Dn Cy H' y x 0 0 sd->Jf Cp H' z x y hd->H sd=none->H' sd=some (.dK [])->sd ≠ y->hd ≠ sd->z ≠ y->Q .non H')->dI Cy Cp vs H Q b9
theorem v_:Aq xz xz (Ac yc):=Bf
include N T in
theorem oE:Ao P w K mg base Bb 3 aD.fQi aD.dQi xz (dI Cy Cp):=by
 refine N.FQi.1.DQ v_ λH vs Q E W h=>?_
 obtain⟨z,d,x,rfl,h1,q⟩:=h
 have hu:=CN W
 have i:A_ 2 _:=W
 refine⟨_,(Af (DG (pv 0) (pv 1) rfl)
  (Af (DG (pv 0) (JQ N.FXi.2.2 (ju N T) i rfl T.mCR N.FXi.2.1 .nil Am (Aa (pv 1) Ab)) rfl)
  (Ag (DG (pv 0) JP rfl)))),?_⟩
 refine⟨_,rfl,_,rfl,z,Cp,d,_,rfl,h1,T.clP,T.np_organ,by show 0<1000;decide,?_⟩
 have B:upd H z (HO.ins Cp d (BV "organ" (.ref x) [])) z=some (.ins Cp d (BV "organ" (.ref x) [])):=Al
 have F:SX z H (upd H z (HO.ins Cp d (BV "organ" (.ref x) []))):=SX.up
 generalize upd H z (HO.ins Cp d (BV "organ" (.ref x) []))=A at B F |-
 have z1:=Ew "organ" (.ref x) []
 have z0:([]:List (Str × V)).length=0:=rfl
 refine⟨_,rfl,?_⟩
 intro y S C R ab
 have Z:An A (upd (upd A S (.own y)) y (.ins Cy S [])):=λb o e=>by
  rw[Aw (Aj e C),Aw (Aj e R)]
  exact e
 refine⟨y,S,x,rfl,Al,λt g J Y L' CA=>⟨rfl,?_⟩⟩
 have p:An A g:=λb o e=>J b o (Z b o e) (Aj e C)
 have x2:=p _ _ B
 have s:A t=none:=Z.free Y
 have j:t ≠ z:=Ne.symm (Aj B s)
 have z2:=Ew "console" (.ref y) (BV "organ" (.ref x) [])
 refine⟨_,rfl,z,Cp,d,_,rfl,x2,T.clP,T.np_console,by omega,?_⟩
 have f:y ≠ z:=Ne.symm (Aj B C)
 have M:upd g z (HO.ins Cp d (BV "console" (.ref y) (BV "organ" (.ref x) []))) z=some (.ins Cp d (BV "console" (.ref y) (BV "organ" (.ref x) []))):=Al
 have X:SX z g (upd g z (HO.ins Cp d (BV "console" (.ref y) (BV "organ" (.ref x) [])))):=SX.up
 have r:Dn Cy (upd g z (HO.ins Cp d (BV "console" (.ref y) (BV "organ" (.ref x) [])))) y x 0 0 t:=by
  obtain⟨G,l,L,k⟩:=CA.ex
  exact⟨G,l,by rw[Aw f];exact L,k⟩
 have m:upd g z (HO.ins Cp d (BV "console" (.ref y) (BV "organ" (.ref x) []))) t=some (.dK []):=by rw[Aw j];exact L'
 generalize upd g z (HO.ins Cp d (BV "console" (.ref y) (BV "organ" (.ref x) [])))=H3 at M X r m |-
 intro U D
 obtain⟨H4,i7,v,e4⟩:=Em (o:=HO.dK []) D
 rw[i7]
 refine⟨_,rfl,z,Cp,d,_,rfl,v _ _ M,T.clP,T.np_hands,by omega,?_⟩
 have u:U ≠ z:=Ne.symm (Aj M D)
 have FM:=F.trans ((SX.of p).trans X)
 have free:∀ {a:Addr} {O:Hp},SX z H O->a ≠ z->O a=none->H a=none:=λ{a} {O} c n h=>by
  cases e:H a with
  | none=>rfl
  | some ob =>
   have:=c a ob e n
   rw[h] at this
   cases this
 have I:=r.mono v
 refine q y t U _ (FM.trans ((SX.of v).trans SX.up)) (free F f C) (free FM u D) (by rw[Aw u];exact e4) ?_ (Jf.new Al) (free F j s) (by rw[Aw j];exact v _ _ m) (Ne.symm (Aj Al Y)) (Ne.symm (Aj m D)) (Ne.symm f)
 obtain⟨G,l,L,k⟩:=I.ex
 exact⟨G,l,by rw[Aw f];exact L,k⟩
abbrev kH (k:Nat):Key:=Sum.inl ((k:Nat):Int)
inductive dW (C Cy Cp:Addr) (vs:List V) (H:Hp) (Q:VK) (b9:XK):Prop
 | mk (Ho:Hp) (z x y hd:Addr) (us:List V) (bs:List (Str × Nat)) (rk:List (Str × Nat × Int)) (ks:List R) (ls:List (List Ln:_)) (sts:List Nat) (dr sh:Nat) (sd:Addr) (kvs:List (Key × V)) (c:Nat->Nat) (k:Nat):vs=[.ref z,.int (k:Nat)]->VR C Cy Cp Ho H z x y hd us bs rk ks ls sts dr sh sd kvs c->kvs.length<=900->k<1200->Q .non (upd H hd (.dK (putK kvs (kH k) (.int ((c k+1:Nat):Int)))))->dW C Cy Cp vs H Q b9
inductive ie (C Cy Cp cH:Addr) (vs:List V) (H:Hp) (Q:VK) (E:XK):Prop
 | mk (Ho:Hp) (z x y hd:Addr) (us:List V) (bs:List (Str × Nat)) (rk:List (Str × Nat × Int)) (ks:List R) (ls:List (List Ln:_)) (sts:List Nat) (dr sh:Nat) (sd:Addr) (kvs:List (Key × V)) (c:Nat->Nat) (k:Nat):vs=[.ref z,.int (k:Nat)]->VR C Cy Cp Ho H z x y hd us bs rk ks ls sts dr sh sd kvs c->kvs.length<=900->k<1200->(c k=0->E (.ref cH) none H)->(0<c k->Q .non (upd H hd (.dK (putK kvs (kH k) (.int ((c k - 1:Nat):Int))))))->ie C Cy Cp cH vs H Q E
inductive UV (C Cy Cp:Addr) (vs:List V) (H:Hp) (Q:VK) (b9:XK):Prop
 | mk (Ho:Hp) (z x y hd:Addr) (us:List V) (bs:List (Str × Nat)) (rk:List (Str × Nat × Int)) (ks:List R) (ls:List (List Ln:_)) (sts:List Nat) (dr sh:Nat) (sd:Addr) (kvs:List (Key × V)) (c:Nat->Nat):vs=[.ref z]->VR C Cy Cp Ho H z x y hd us bs rk ks ls sts dr sh sd kvs c->kvs.length<=500->(∀ H',An H H'->Q (.int ((Wd.mk (Dw kvs):Nat):Int)) H')->UV C Cy Cp vs H Q b9
theorem wJ:Aq vE vE (Ac vZ):=Bf
include N T in
theorem qM:Ao P w K mg base Bb 1 aD.fQh aD.dQh vE (dW C Cy Cp):=by
 refine N.FQh.1.DQ wJ λH s Q E m h=>?_
 obtain⟨o,z,x,y,g,A,bs,rk,p,t,l,G,r,u,d,c,k,rfl,b,F,B,q⟩:=h
 have e:=CN m
 refine⟨_,(Ag (Ia e (Bc (pv 0) rfl) (pv 1) (BZ CW (Pb e (Bc (pv 0) rfl) (pv 1) Ae ⟨rfl,rfl,rfl,rfl⟩) Ae) rfl)),?_⟩
 obtain⟨j,fs,f,v,D,i,n⟩:=id b.Nm.ex
 have a:=b.d
 refine⟨_,rfl,z,Cp,j,fs,_,rfl,f,T.clP,T.np_hands,i,g,rfl,.inl ⟨d,.inl a⟩,_,rfl,_,Ex.k (k:=kH k) a,((c k:Nat):Int),1,b.h.getD k,rfl,?_⟩
 exact⟨_,rfl,z,Cp,j,fs,_,rfl,f,T.clP,T.np_hands,i,_,rfl,g,_,rfl,MF.k (k:=kH k) a (BK (by omega)),q⟩
theorem yK:Aq vE vE (Ac y_):=Bf
include N T in
theorem mq:Ao P w K mg base (Gh P w) 1 aD.fQl aD.dQl vE (ie C Cy Cp cH):=by
 refine N.FQl.1.Jl yK λH M Q E s h=>?_
 obtain⟨A,z,x,y,l,B,bs,rk,J,O,t,G,L,R,a,c,k,rfl,b,F,U,u,q⟩:=h
 have f:=CN s
 refine⟨_,(Af (Bl (BR Cj (Pb f (Bc (pv 0) rfl) (pv 1) Ae ⟨rfl,rfl,rfl,rfl⟩) Ae (BX _)) (Ag (Fv T.xH.exH rfl T.xH.mH rfl G8 (Aa BW Ab))) Ba)
  (Ag (Ia f (Bc (pv 0) rfl) (pv 1) (BZ Fw (GJ f (Bc (pv 0) rfl) (pv 1) (λ_ _=>rfl)) Ae) rfl))),?_⟩
 obtain⟨m,fs,i,S,D,j,I⟩:=id b.Nm.ex
 have d:=b.d
 refine⟨_,rfl,z,Cp,m,fs,_,rfl,i,T.clP,T.np_hands,j,l,rfl,.inl ⟨a,.inl d⟩,_,rfl,_,Ex.k (k:=kH k) d,?_⟩
 rw[b.h.getD k]
 refine⟨rfl,_,rfl,C_ (λe=>?_) (λe=>?_)⟩
 ·have:=V.int.inj (of_decide_eq_true e)
  exact⟨by show 1<=1000;decide,u (by omega)⟩
 have r:0<c k:=Nat.pos_of_ne_zero λn=>e (decide_eq_true (by rw[n];rfl))
 have p:Ce a (kH k)=some (.int ((c k:Nat):Int)):=(b.h.v k).resolve_right λn=>by omega
 have g:=Ex.k (k:=kH k) d
 rw[p] at g
 refine⟨_,rfl,z,Cp,m,fs,_,rfl,i,T.clP,T.np_hands,j,_,rfl,l,_,rfl,g,_,_,rfl,rfl,?_⟩
 have v:((c k:Nat):Int) - 1=((c k - 1:Nat):Int):=by omega
 have o:=q r
 rw[<-v] at o
 exact⟨_,rfl,z,Cp,m,fs,_,rfl,i,T.clP,T.np_hands,j,_,rfl,l,_,rfl,MF.k (k:=kH k) d (BK (by omega)),o⟩
theorem Yq {c:Nat->Nat} (h:FW kvs c):((kvs.filter λkv=>match kv.2 with | .int n=>decide (0<n) | _=>false).map λkv=>kV kv.1)=nV (Dw kvs):=by
 unfold Dw nV
 rw[aE]
 refine gS λkv a=>?_
 obtain⟨j,rfl,_⟩:=h.e kv (bg.mp a).1
 show V.int (j:Int)=V.int (((j:Int).toNat:Nat):Int)
 rw[bp]
theorem ug:Aq sN sN (Ac rJ):=Bf
include N T in
theorem Tr:Ao P w K mg base Bb 4 aD.fQe aD.dQe sN (UV C Cy Cp):=by
 refine N.FQe.1.DQ ug λH vs Q E v h=>?_
 obtain⟨Y,z,x,y,d,us,bs,rk,ks,ls,U,dr,sh,sd,a,c,rfl,i,hl,q⟩:=h
 have Z:=CN v
 refine⟨_,(Ag (Ax (zC (NB N T) v rfl N.FSt (Aa (WM (Ny rfl (G3 (osc:=Ac rJ) (N:=sN) rfl rfl (by decide)) (XS (Bc (pv 0) rfl)) (λ_ _ _ _=>(GC (BR O3 (pv 1) Ae (BX _)))) (λ_ _ _ _=>(pv 0)))) Ab)))),?_⟩
 obtain⟨B,fs,p,l1,l2,L,lm⟩:=id i.Nm.ex
 have r:=i.d
 have S:z ≠ d:=λe=>by rw[e,r] at p;cases p
 refine⟨d,a,r,λg=>?_⟩
 have m:upd H d (HO.frz g (HO.dK a)) d=some (.frz g (.dK a)):=Al
 have A:upd H d (HO.frz g (HO.dK a)) z=some (.ins Cp B fs):=by rw[Aw S];exact p
 have G:SX d H (upd H d (HO.frz g (HO.dK a))):=SX.up
 generalize upd H d (HO.frz g (HO.dK a))=H2 at m A G |-
 refine⟨_,rfl,z,Cp,B,fs,_,rfl,A,T.clP,T.np_hands,L,d,g,a,rfl,m,Qj (K:=K) (λf=>match f.2 with | .int n=>decide (0<n) | _=>false) (λf=>kV f.1) m (BK (by omega)) (λf t l J R k=>?_) (λf t _ l J R k=>⟨_,rfl,k l (An.refl l)⟩) (λD H3 M F s=>?_)⟩
 ·have O:=k l (An.refl l)
  obtain⟨j,rfl,_⟩:=i.h.e f t
  exact⟨_,rfl,_,_,rfl,rfl,_,rfl,O⟩
 have X:=F _ _ m
 refine⟨X,?_⟩
 have V:D ≠ d:=Ne.symm (Aj m M)
 rw[Yq i.h] at s
 refine⟨D,Dw a,rfl,by rw[Aw V];exact s,by have:=U6 a;omega,i.h.bound,λI W=>?_⟩
 refine q I λb u e=>W b u ?_
 by_cases o:b=d
 ·rw[o,Al,<-e,o,r]
 ·rw[Aw o]
  exact F b u (G b u e o)
inductive Xn (C Cy Cp:Addr) (vs:List V) (H:Hp) (Q:VK) (b9:XK):Prop
 | mk (Ho:Hp) (z x y hd:Addr) (us:List V) (bs:List (Str × Nat)) (rk:List (Str × Nat × Int)) (ks:List R) (ls:List (List Ln:_)) (sts:List Nat) (dr sh:Nat) (sd:Addr) (kvs:List (Key × V)) (c:Nat->Nat):vs=[.ref z]->VR C Cy Cp Ho H z x y hd us bs rk ks ls sts dr sh sd kvs c->(∀ n∈Ij ks,isNm n)->ks.length<=100->sh<=sts.length->sts.length<=100->(∀ H',An H H'->Q (.int ((dr ||| Pr (sts.take sh):Nat):Int)) H')->Xn C Cy Cp vs H Q b9
theorem tU:Aq sN sN (Ac xX):=Bf
include N T in
theorem V2:Ao P w K mg base Bb 3 aD.fQk aD.dQk sN (Xn C Cy Cp):=by
 refine N.FQk.1.DQ tU λH L Q E e h=>?_
 obtain⟨f,z,x,y,I,k,bs,rk,p,s,d,n,r,t,B,c,rfl,a,m,A,i,b,q⟩:=h
 have F:=CN e
 refine⟨_,(Ag (Ax (Bg (Bc (pv 0) rfl) T.clR N.FXk.2.2 (l_ N T) (ad e) N.FXk.2.1 .nil Am))),?_⟩
 obtain⟨u,fs,j,O,l,G,J⟩:=id a.Nm.ex
 have M:=a.d
 obtain⟨D,o,v,_,_,_,_,_,g⟩:=id a.con.c.ex
 exact⟨_,rfl,z,Cp,u,fs,_,rfl,j,T.clP,T.np_console,l,y,D,o,rfl,v,g _ (by decide),f,y,x,p,d,n,r,t,rfl,⟨⟨k,bs,rk,s,a.con⟩,m,A⟩,i,b,q⟩
inductive FP (cn:Nat->Str) (sz:List Nat) (rk:List (Str × Nat × Int)) (kbs:List Kb) (ls:List (List Ln)) (D n p:Nat):Prop
 | mk (cl:List Nat) (m:Nat):(∀ k,k∈cl ↔ ∃ z,kbs[k]? = some z/\z.w = "stop" /\ D.testBit k=true)->(∀ j,m.testBit j=true ↔ Qv cn sz kbs D n j)->p=aa sz rk kbs ls cl m->FP cn sz rk kbs ls D n p
structure cI (cn:Nat->Str) (sz:List Nat) (rk:List (Str × Nat × Int)) (kbs:List Kb) (ls:List (List Ln)) (sts:List Nat) (sh:Nat) (kvs:List (Key × V)) (c:Nat->Nat):Prop where
 kb:Ri sz.length kbs
 lg:fM rk ls
 nm:∀ n∈Ij (By cn kbs),isNm n
 nk:(By cn kbs).length<=100
 sh:sh<=sts.length
 st:sts.length<=100
 kc:∀ k,0<c k->k<sz.sum
 kl:kvs.length<=500
inductive Vg (C Cy Cp:Addr) (vs:List V) (H:Hp) (Q:VK) (b9:XK):Prop
 | mk (Ho:Hp) (z x y hd:Addr) (us:List V) (rk:List (Str × Nat × Int)) (ls:List (List Ln:_)) (sts:List Nat) (dr sh:Nat) (sd:Addr) (kvs:List (Key × V)) (c:Nat->Nat) (cn:Nat->Str) (sz:List Nat) (kbs:List Kb):vs=[.ref z]->VR C Cy Cp Ho H z x y hd us (Bj cn sz) rk (By cn kbs) ls sts dr sh sd kvs c->cI cn sz rk kbs ls sts sh kvs c->(∀ (p:Nat) H',An H H'->FP cn sz rk kbs ls (dr ||| Pr (sts.take sh)) (Wd.mk (Dw kvs)) p->Q (.int (p:Nat)) H')->Vg C Cy Cp vs H Q b9
theorem wg:Aq sN sN (Ac yW):=Bf
include N T in
theorem YW:Ao P w K mg base Bb 8 aD.fQs aD.dQs sN (Vg C Cy Cp):=by
 refine N.FQs.1.DQ wg λH U Q E e h=>?_
 obtain⟨o,z,x,y,r,p,rk,k,b,t,v,B,d,c,I,sz,n,rfl,a,ok,q⟩:=h
 have M:=CN e
 refine⟨_,(Ag (Ax (zC (bY N T) e rfl N.FSo (Aa (Bc (pv 0) rfl) (Aa (Bg (pv 0) T.clP N.FQk.2.2 (V2 N T) (ad e) N.FQk.2.1 .nil Am) (Aa (Bg (pv 0) T.clP N.FQe.2.2 (Tr N T) (ad e) N.FQe.2.1 .nil Am) Ab)))))),?_⟩
 obtain⟨l,fs,j,J,S,O,u⟩:=id a.Nm.ex
 have V:=a.d
 refine⟨_,rfl,z,Cp,l,fs,_,rfl,j,T.clP,T.np_organ,J,_,rfl,z,l,fs,rfl,j,u _ (by decide),o,z,x,y,r,p,_,rk,_,k,b,t,v,B,d,c,rfl,a,ok.nm,ok.nk,ok.sh,ok.st,λW f=>?_⟩
 refine⟨_,rfl,z,l,fs,rfl,f _ _ j,u _ (by decide),o,z,x,y,r,p,_,rk,_,k,b,t,v,B,d,c,rfl,a.mono f,ok.kl,λR A=>?_⟩
 exact⟨x,I,sz,rk,n,k,_,_,rfl,(a.con.o.o).mono (a.con.s.trans (f.trans A)),ok.kb,ok.lg,Wd.Rm a.h.bound,(λi s=>ok.kc i ((a.h.mem i).mp (by rw[Wd.Hr] at s;exact of_decide_eq_true s))),λG m F L g D=>q _ F ((f.trans A).trans L) ⟨G,m,g,D,rfl⟩⟩
inductive Ed where
 | hold (v u:V)
 | leave (v u:V)
 | con (d:Io)
def Ed.v:Ed->List V
 | .hold v u=>[.str "hold",v,u]
 | .leave v u=>[.str "leave",v,u]
 | .con d=>d.v
def Ed.odd (H:Hp):Ed->Prop
 | .hold v u=>Cm H v/\Cm H u
 | .leave v u=>Cm H v/\Cm H u
 | .con d=>d.odd H
theorem Ed.odd.mono (s:An H H') {d:Ed} (h:d.odd H):d.odd H':=by
 cases d with
 | hold v u=>exact⟨Cm.mono s h.1,Cm.mono s h.2⟩
 | leave v u=>exact⟨Cm.mono s h.1,Cm.mono s h.2⟩
 | con d=>exact Io.odd.mono s h
inductive Fe (bs:List (Str × Nat)) (v u:V) (k:Nat):Prop
 | mk (j n:Nat) (b:Str × Nat):v=.str b.1->u=.int (n:Nat)->bs[j]? = some b->(bs.map (·.1)).idxOf b.1=j->n<b.2->k=((bs.take j).map (·.2)).sum+n->Fe bs v u k
structure HQ (C Cy Cp pE pA:Addr) (Ho H:Hp) (z x y hd:Addr) (us:List V) (bs:List (Str × Nat)) (rk:List (Str × Nat × Int)) (ks:List R) (ls:List (List Ln)) (sts:List Nat) (s:Cs) (sd:Addr) (kvs:List (Key × V)) (c:Nat->Nat) (n:Nat):Prop where
 p:VR C Cy Cp Ho H z x y hd us bs rk ks ls sts s.dr s.sh sd kvs c
 f:jA bs ks
 hs:Ho sd=none
 ny:sd ≠ y
 st:WD pE pA H sd s.m n
 zy:z ≠ y
 hh:hd ≠ sd
def Fp (H H':Hp) (y sd hd:Addr):Prop:=∀ b o,H b=some o->b ≠ y->b ≠ sd->b ≠ hd->H' b=some o
section
variable {x y hd:Addr} {bs:List (Str × Nat)} {rk:List (Str × Nat × Int)} {s s':Cs} {d0:List (Key × V)} {c c':Nat->Nat} {n':Nat}
theorem Fp.of (h:An H H'):Fp H H' y sd hd:=λb o e _ _ _=>h b o e
theorem Fp.trans {a:Hp} (h:Fp H H' y sd hd) (g:Fp H' a y sd hd):Fp H a y sd hd:=λb o e f c d=>g b o (h b o e f c d) f c d
theorem HQ.con (h:HQ C Cy Cp pE pA Ho H z x y hd us bs rk ks ls sts s sd kvs c n):Eg C Cy pE pA Ho H y x bs ks sts s.dr s.sh sd s.m n:=⟨⟨us,rk,ls,h.p.con⟩,h.f,h.hs,h.ny,h.st⟩
theorem HQ.mono (e:An H H') (h:HQ C Cy Cp pE pA Ho H z x y hd us bs rk ks ls sts s sd kvs c n):HQ C Cy Cp pE pA Ho H' z x y hd us bs rk ks ls sts s sd kvs c n:=⟨h.p.mono e,h.f,h.hs,h.ny,h.st.mono e,h.zy,h.hh⟩
theorem HQ.le (e:n<=n') (h:HQ C Cy Cp pE pA Ho H z x y hd us bs rk ks ls sts s sd kvs c n):HQ C Cy Cp pE pA Ho H z x y hd us bs rk ks ls sts s sd kvs c n':=by
 obtain⟨q,d,a,b⟩:=h.st.ex
 exact⟨h.p,h.f,h.hs,h.ny,⟨q,d,be a e,b⟩,h.zy,h.hh⟩
theorem HQ.pJ (h:HQ C Cy Cp pE pA Ho H z x y hd us bs rk ks ls sts s sd kvs c n) (f:Fb H H' y sd) (k:Eg C Cy pE pA Ho H' y x bs ks sts s'.dr s'.sh sd s'.m n'):HQ C Cy Cp pE pA Ho H' z x y hd us bs rk ks ls sts s' sd kvs c n':=by
 obtain⟨m,t,p,b⟩:=k.o
 obtain⟨o,i,a,g⟩:=h.p.Nm.ex
 obtain⟨q,r,_⟩:=h.st.ex
 obtain⟨u,fs,l,_⟩:=h.p.con.c.ex
 have j:z ≠ sd:=λe=>by rw[e,r] at a;cases a
 have d:hd ≠ y:=λe=>by
  have:=h.p.d
  rw[e,l] at this
  cases this
 exact⟨⟨⟨h.p.con.o,b.s,h.p.con.n,b.c⟩,⟨o,i,f _ _ a h.zy j,g⟩,h.p.n,f _ _ h.p.d d h.hh,h.p.h⟩,h.f,h.hs,h.ny,k.st,h.zy,h.hh⟩
theorem HQ.au (h:HQ C Cy Cp pE pA Ho H z x y hd us bs rk ks ls sts s sd kvs c n) (g:FW d0 c'):HQ C Cy Cp pE pA Ho (upd H hd (.dK d0)) z x y hd us bs rk ks ls sts s sd d0 c' n:=by
 refine⟨h.p.put g,h.f,h.hs,h.ny,?_,h.zy,h.hh⟩
 obtain⟨q,f,k,m,l⟩:=h.st.ex
 refine⟨q,by rw[Aw (Ne.symm h.hh)];exact f,k,m,λp i b j=>?_⟩
 obtain⟨o,a,d⟩:=l p i b j
 refine⟨o,a,d.keep λ_ _ _ e=>?_⟩
 rw[Aw λz=>by rw[z,h.p.d] at e;cases e]
 exact e
end
theorem gW {s:Cs} (h:s.sh<=n) (d:Io):(act ns ks n s d).1.sh<=n:=by
 cases d with
 | pull v =>
  unfold act
  try dsimp only
  split <;> exact h
 | push v =>
  unfold act
  try dsimp only
  split <;> exact h
 | store v =>
  unfold act
  try dsimp only
  split <;> exact h
 | storeB v b =>
  unfold act
  try dsimp only
  split
  ·split <;> exact h
  ·exact h
 | press v =>
  unfold act
  try dsimp only
  split <;> exact h
 | shoe v =>
  unfold act
  try dsimp only
  split
  ·rename_i i c
   cases v with
   | int k =>
    have a:(if 0<=k/\k<=(n:Nat) then some k.toNat else none)=some i:=c
    by_cases e:0<=k/\k<=(n:Nat)
    ·rw[if_pos e] at a
     have:=Option.some.inj a
     show i<=n
     omega
    ·rw[if_neg e] at a
     cases a
   | _=>cases c
  ·exact h
 | cancel=>exact dL _
def Tg (bs:List (Str × Nat)) (ks:List R) (n:Nat) (s:Cs) (c:Nat->Nat) (d:Ed) (s':Cs) (c':Nat->Nat):Prop:=match d with
 | .hold v u=>s'=s/\∃ k,Fe bs v u k/\c'=setC c k (c k+1)
 | .leave v u=>s'=s/\∃ k,Fe bs v u k/\0<c k/\c'=setC c k (c k - 1)
 | .con d=>c'=c/\∃ u,act (bs.map (·.1)) ks n s d=(s',.told u)
def Zb (cK cP cB cS cH cY:Addr) (bs:List (Str × Nat)) (ks:List R) (n:Nat) (s:Cs) (c:Nat->Nat) (d:Ed) (a:Addr):Prop:=match d with
 | .hold v u=>(a=cB/\Ge (bs.map (·.1)) v=.non) \/ (a=cY/\∃ (j:Nat) (b:Str × Nat),v=.str b.1/\bs[j]? = some b/\(bs.map (·.1)).idxOf b.1=j/\Zd b.2 u=false)
 | .leave v u=>(a=cB/\Ge (bs.map (·.1)) v=.non) \/ (a=cY/\∃ (j:Nat) (b:Str × Nat),v=.str b.1/\bs[j]? = some b/\(bs.map (·.1)).idxOf b.1=j/\Zd b.2 u=false) \/ (a=cH/\∃ k,Fe bs v u k/\c k=0)
 | .con d=>∃ i,act (bs.map (·.1)) ks n s d=(s,.no i)/\a=zO cK cP cB cS i
inductive dO (K:W.Frag) (vs:List V) (H:Hp) (Q:VK) (b9:XK):Prop
 | mk (t:Addr) (d:Ed):vs=[.ref t]->H t=some (.tup d.v)->(∀ H',An H H'->Q (.bl true) H')->dO K vs H Q b9
theorem yE:Aq vr vr (Ac wN):=Bf
include N T in
theorem o8:Ao P w K mg base Bb 1 aD.fId aD.dId vr (dO K):=by
 refine N.FId.1.DQ yE λH k Q E l h=>?_
 obtain⟨t,d,rfl,a,q⟩:=h
 refine⟨_,(Af (Bl (PW.pt (D_ (CG (CV (BJ CQ rfl T.isin aI (Aa (pv 0) (Aa (DX (v:=.ty "tuple") rfl T.tuple gT rfl) Ab))))) (D_ (CG (Ku (pv 0) (λ_=>rfl))) (Do (CG (CV (BJ CQ rfl T.isin aI (Aa (Az (Av (K:=K) rfl) (pv 0) Ae (λ_ _=>rfl)) (Aa (DX (v:=.ty "str") rfl T.str ii rfl) Ab))))))))) (Ag (Ax HD)) Ba)
  (Ag (Ax (DW Mm (BJ BL rfl T.len aS (Aa (pv 0) Ab)) (YH (Cw (v:=.ref aQ) rfl T.mQ rfl) (Az (Av (K:=K) rfl) (pv 0) Ae (λ_ _=>rfl)) (Cq Ab) ⟨rfl,rfl,rfl,rfl⟩) rfl)))),?_⟩
 cases d with
 | hold v u =>
  obtain⟨c,g,f⟩:=T.pc ("hold",[.int 3]) (.head _)
  refine⟨_,rfl,_,"tuple",_,_,rfl,.tup a,Hk,_,rfl,Bk ?_⟩
  refine⟨_,rfl,_,.inr (.inl ⟨_,kL a,rfl⟩),Bk ?_⟩
  refine⟨_,rfl,t,_,_,_,rfl,rfl,kL a,Ah (j:=0) rfl,_,"str",_,_,rfl,.str _,HH,_,rfl,Bk ?_⟩
  refine⟨_,rfl,t,_,rfl,.inr (kL a),aQ,rfl,T.dQ,_,rfl,t,_,_,_,rfl,rfl,kL a,Ah (j:=0) rfl,CK (dL _),λi e=>?_⟩
  exact⟨_,_,rfl,g,.ref c,rfl,λ_=>⟨c,_,rfl,.inr (f.sq _),rfl,rfl,q _ (BP e)⟩,λh=>by cases h⟩
 | leave v u =>
  obtain⟨c,g,f⟩:=T.pc ("leave",[.int 3]) (.tail _ (.head _))
  refine⟨_,rfl,_,"tuple",_,_,rfl,.tup a,Hk,_,rfl,Bk ?_⟩
  refine⟨_,rfl,_,.inr (.inl ⟨_,kL a,rfl⟩),Bk ?_⟩
  refine⟨_,rfl,t,_,_,_,rfl,rfl,kL a,Ah (j:=0) rfl,_,"str",_,_,rfl,.str _,HH,_,rfl,Bk ?_⟩
  refine⟨_,rfl,t,_,rfl,.inr (kL a),aQ,rfl,T.dQ,_,rfl,t,_,_,_,rfl,rfl,kL a,Ah (j:=0) rfl,CK (dL _),λi e=>?_⟩
  exact⟨_,_,rfl,g,.ref c,rfl,λ_=>⟨c,_,rfl,.inr (f.sq _),rfl,rfl,q _ (BP e)⟩,λh=>by cases h⟩
 | con d =>
  cases d with
  | pull v =>
   obtain⟨c,g,f⟩:=T.pc ("pull",[.int 2]) (.tail _ (.tail _ (.head _)))
   refine⟨_,rfl,_,"tuple",_,_,rfl,.tup a,Hk,_,rfl,Bk ?_⟩
   refine⟨_,rfl,_,.inr (.inl ⟨_,kL a,rfl⟩),Bk ?_⟩
   refine⟨_,rfl,t,_,_,_,rfl,rfl,kL a,Ah (j:=0) rfl,_,"str",_,_,rfl,.str _,HH,_,rfl,Bk ?_⟩
   refine⟨_,rfl,t,_,rfl,.inr (kL a),aQ,rfl,T.dQ,_,rfl,t,_,_,_,rfl,rfl,kL a,Ah (j:=0) rfl,CK (dL _),λi e=>?_⟩
   exact⟨_,_,rfl,g,.ref c,rfl,λ_=>⟨c,_,rfl,.inr (f.sq _),rfl,rfl,q _ (BP e)⟩,λh=>by cases h⟩
  | push v =>
   obtain⟨c,g,f⟩:=T.pc ("push",[.int 2]) (.tail _ (.tail _ (.tail _ (.head _))))
   refine⟨_,rfl,_,"tuple",_,_,rfl,.tup a,Hk,_,rfl,Bk ?_⟩
   refine⟨_,rfl,_,.inr (.inl ⟨_,kL a,rfl⟩),Bk ?_⟩
   refine⟨_,rfl,t,_,_,_,rfl,rfl,kL a,Ah (j:=0) rfl,_,"str",_,_,rfl,.str _,HH,_,rfl,Bk ?_⟩
   refine⟨_,rfl,t,_,rfl,.inr (kL a),aQ,rfl,T.dQ,_,rfl,t,_,_,_,rfl,rfl,kL a,Ah (j:=0) rfl,CK (dL _),λi e=>?_⟩
   exact⟨_,_,rfl,g,.ref c,rfl,λ_=>⟨c,_,rfl,.inr (f.sq _),rfl,rfl,q _ (BP e)⟩,λh=>by cases h⟩
  | store v =>
   obtain⟨c,g,f⟩:=T.pc ("store",[.int 2,.int 3]) (.tail _ (.tail _ (.tail _ (.tail _ (.head _)))))
   refine⟨_,rfl,_,"tuple",_,_,rfl,.tup a,Hk,_,rfl,Bk ?_⟩
   refine⟨_,rfl,_,.inr (.inl ⟨_,kL a,rfl⟩),Bk ?_⟩
   refine⟨_,rfl,t,_,_,_,rfl,rfl,kL a,Ah (j:=0) rfl,_,"str",_,_,rfl,.str _,HH,_,rfl,Bk ?_⟩
   refine⟨_,rfl,t,_,rfl,.inr (kL a),aQ,rfl,T.dQ,_,rfl,t,_,_,_,rfl,rfl,kL a,Ah (j:=0) rfl,CK (dL _),λi e=>?_⟩
   exact⟨_,_,rfl,g,.ref c,rfl,λ_=>⟨c,_,rfl,.inr (f.sq _),rfl,rfl,q _ (BP e)⟩,λh=>by cases h⟩
  | storeB v b =>
   obtain⟨c,g,f⟩:=T.pc ("store",[.int 2,.int 3]) (.tail _ (.tail _ (.tail _ (.tail _ (.head _)))))
   refine⟨_,rfl,_,"tuple",_,_,rfl,.tup a,Hk,_,rfl,Bk ?_⟩
   refine⟨_,rfl,_,.inr (.inl ⟨_,kL a,rfl⟩),Bk ?_⟩
   refine⟨_,rfl,t,_,_,_,rfl,rfl,kL a,Ah (j:=0) rfl,_,"str",_,_,rfl,.str _,HH,_,rfl,Bk ?_⟩
   refine⟨_,rfl,t,_,rfl,.inr (kL a),aQ,rfl,T.dQ,_,rfl,t,_,_,_,rfl,rfl,kL a,Ah (j:=0) rfl,CK (dL _),λi e=>?_⟩
   exact⟨_,_,rfl,g,.ref c,rfl,λ_=>⟨c,_,rfl,.inr (f.sq _),rfl,rfl,q _ (BP e)⟩,λh=>by cases h⟩
  | press v =>
   obtain⟨c,g,f⟩:=T.pc ("press",[.int 2]) (.tail _ (.tail _ (.tail _ (.tail _ (.tail _ (.head _))))))
   refine⟨_,rfl,_,"tuple",_,_,rfl,.tup a,Hk,_,rfl,Bk ?_⟩
   refine⟨_,rfl,_,.inr (.inl ⟨_,kL a,rfl⟩),Bk ?_⟩
   refine⟨_,rfl,t,_,_,_,rfl,rfl,kL a,Ah (j:=0) rfl,_,"str",_,_,rfl,.str _,HH,_,rfl,Bk ?_⟩
   refine⟨_,rfl,t,_,rfl,.inr (kL a),aQ,rfl,T.dQ,_,rfl,t,_,_,_,rfl,rfl,kL a,Ah (j:=0) rfl,CK (dL _),λi e=>?_⟩
   exact⟨_,_,rfl,g,.ref c,rfl,λ_=>⟨c,_,rfl,.inr (f.sq _),rfl,rfl,q _ (BP e)⟩,λh=>by cases h⟩
  | shoe v =>
   obtain⟨c,g,f⟩:=T.pc ("shoe",[.int 2]) (.tail _ (.tail _ (.tail _ (.tail _ (.tail _ (.tail _ (.tail _ (.head _))))))))
   refine⟨_,rfl,_,"tuple",_,_,rfl,.tup a,Hk,_,rfl,Bk ?_⟩
   refine⟨_,rfl,_,.inr (.inl ⟨_,kL a,rfl⟩),Bk ?_⟩
   refine⟨_,rfl,t,_,_,_,rfl,rfl,kL a,Ah (j:=0) rfl,_,"str",_,_,rfl,.str _,HH,_,rfl,Bk ?_⟩
   refine⟨_,rfl,t,_,rfl,.inr (kL a),aQ,rfl,T.dQ,_,rfl,t,_,_,_,rfl,rfl,kL a,Ah (j:=0) rfl,CK (dL _),λi e=>?_⟩
   exact⟨_,_,rfl,g,.ref c,rfl,λ_=>⟨c,_,rfl,.inr (f.sq _),rfl,rfl,q _ (BP e)⟩,λh=>by cases h⟩
  | cancel =>
   obtain⟨c,g,f⟩:=T.pc ("cancel",[.int 1]) (.tail _ (.tail _ (.tail _ (.tail _ (.tail _ (.tail _ (.head _)))))))
   refine⟨_,rfl,_,"tuple",_,_,rfl,.tup a,Hk,_,rfl,Bk ?_⟩
   refine⟨_,rfl,_,.inr (.inl ⟨_,kL a,rfl⟩),Bk ?_⟩
   refine⟨_,rfl,t,_,_,_,rfl,rfl,kL a,Ah (j:=0) rfl,_,"str",_,_,rfl,.str _,HH,_,rfl,Bk ?_⟩
   refine⟨_,rfl,t,_,rfl,.inr (kL a),aQ,rfl,T.dQ,_,rfl,t,_,_,_,rfl,rfl,kL a,Ah (j:=0) rfl,CK (dL _),λi e=>?_⟩
   exact⟨_,_,rfl,g,.ref c,rfl,λ_=>⟨c,_,rfl,.inr (f.sq _),rfl,rfl,q _ (BP e)⟩,λh=>by cases h⟩
inductive gC (C Cy Cp pE pA cK cP cB cS cH cY:Addr) (vs:List V) (H:Hp) (Q:VK) (E:XK):Prop
 | mk (Ho:Hp) (z x y hd:Addr) (us:List V) (bs:List (Str × Nat)) (rk:List (Str × Nat × Int)) (ks:List R) (ls:List (List Ln:_)) (sts:List Nat) (s:Cs) (sd:Addr) (kvs:List (Key × V)) (c:Nat->Nat) (n:Nat) (t:Addr) (d:Ed):vs=[.ref z,.ref t]->H t=some (.tup d.v)->d.odd H->HQ C Cy Cp pE pA Ho H z x y hd us bs rk ks ls sts s sd kvs c n->kvs.length<=900->n<900->(∀ v u k,Fe bs v u k->k<1200)->(∀ s' d0 c' H',Tg bs ks sts.length s c d s' c'->Fp H H' y sd hd->HQ C Cy Cp pE pA Ho H' z x y hd us bs rk ks ls sts s' sd d0 c' (n+1)->d0.length<=kvs.length+1->Q .non H')->(∀ a H',Zb cK cP cB cS cH cY bs ks sts.length s c d a->An H H'->E (.ref a) none H')->gC C Cy Cp pE pA cK cP cB cS cH cY vs H Q E
theorem wU:Aq xk xk (Ac zH):=Bf
include N T in
theorem qJ:Ao P w K mg base (Gh P w) 8 aD.fQa aD.dQa xk (gC C Cy Cp pE pA cK cP cB cS cH cY):=by
 have ab:Ao P w K mg base (Gh P w) 5 aD.fKy aD.dKy z8 (di C cB cY):=pD N T
 have an:Ao P w K mg base (Gh P w) 1 aD.fQl aD.dQl vE (ie C Cy Cp cH):=mq N T
 have ac:Ao P w K mg base (Gh P w) 7 aD.fDz aD.dDz xt (ZZ C Cy pE pA cK cP cB cS):=m8 N T
 refine N.FQa.1.Jl wU λH vs Q E O h=>?_
 obtain⟨Ho,z,x,y,l7,us,bs,rk,ks,ls,F,s,sd,I,c,n,t,d,rfl,ht,hd,J,hl,BM,hk,q1,Z⟩:=h
 have hu:=CN O
 refine⟨_,(Af (Bl (CG (CV (zC (o8 N T) O rfl N.FId (Aa (pv 1) Ab)))) (Ag IV) Ba)
  (Ag (Bl (BR Cj (Az (Av (K:=K) rfl) (pv 1) Ae (λ_ _=>rfl)) BW (BX _)) (Ag (Bx (Bq (pv 0) T.clP N.FQh.2.2 (qM N T) (ad O) N.FQh.2.1 .nil Am (Aa (Ai ab (ad O) rfl N.FKy.2.2 N.FKy.1.kp N.FKy.2.1 .nil Dk (Aa (Bc (pv 0) rfl) (Aa (Az (Av (K:=K) rfl) (pv 1) Ae (λ_ _=>rfl)) (Aa (Az (Av (K:=K) rfl) (pv 1) Ae (λ_ _=>rfl)) Ab)))) Ab)))) (Ag (Bl (BR Cj (Az (Av (K:=K) rfl) (pv 1) Ae (λ_ _=>rfl)) BW (BX _)) (Ag (Bx (Bq (pv 0) T.clP N.FQl.2.2 an (ad O) N.FQl.2.1 .nil Dk (Aa (Ai ab (ad O) rfl N.FKy.2.2 N.FKy.1.kp N.FKy.2.1 .nil Dk (Aa (Bc (pv 0) rfl) (Aa (Az (Av (K:=K) rfl) (pv 1) Ae (λ_ _=>rfl)) (Aa (Az (Av (K:=K) rfl) (pv 1) Ae (λ_ _=>rfl)) Ab)))) Ab)))) (Ag (Bx (Ai ac (ad O) rfl N.FDz.2.2 N.FDz.1.kp N.FDz.2.1 .nil Dk (Aa (Bc (pv 0) rfl) (Aa (Az (Av (K:=K) rfl) (pv 1) Ae (λ_ _=>rfl)) (Aa (Ek Nj (pv 1) (Eu Ae) GP) Ab))))))))))),?_⟩
 obtain⟨D,fs,G,l1,U,l3,lm⟩:=id J.p.Nm.ex
 have rc:=J.p.d
 refine⟨_,rfl,t,d,rfl,ht,λH1 l=>⟨_,rfl,Bk ?_⟩⟩
 have xb:=J.mono l
 have a:=l _ _ ht
 cases d with
 | hold v u =>
  refine (wT a (HR rfl ?_))
  refine⟨_,rfl,z,D,fs,rfl,l _ _ G,lm _ (by decide),_,rfl,z,Cp,D,fs,_,rfl,l _ _ G,T.clP,T.np_organ,l1,_,rfl,t,_,_,_,rfl,rfl,kL a,Ah (j:=1) rfl,_,rfl,t,_,_,_,rfl,rfl,kL a,Ah (j:=2) rfl,x,us,bs,rk,ks,ls,F,v,u,rfl,xb.p.con.o.mono xb.p.con.s,Cm.mono l hd.1,Cm.mono l hd.2,J.f.bn,(λj m b B A R eu X S W=>?_),(λB A r=>Z cB B (.inl ⟨rfl,r⟩) (l.trans A)),(λj b B A R X S r=>Z cY B (.inr ⟨rfl,j,b,R,X,S,r⟩) (l.trans A))⟩
  have M:Fe bs v u (((bs.take j).map (·.2)).sum+m):=⟨j,m,b,R,eu,X,S,W,rfl⟩
  have Y:=hk _ _ _ M
  generalize ((bs.take j).map (·.2)).sum+m=k at M Y |-
  have p:=l.trans A
  have L:=J.mono p
  refine⟨Ho,z,x,y,l7,us,bs,rk,ks,ls,F,s.dr,s.sh,sd,I,c,k,rfl,L.p,hl,Y,?_⟩
  exact q1 s (putK I (kH k) (.int ((c k+1:Nat):Int))) (setC c k (c k+1)) _ ⟨rfl,k,M,rfl⟩ ((Fp.of p).trans λb o e _ _ e3=>by rw[Aw e3];exact e) ((L.au (J.p.h.put (n:=c k+1) Y)).le (by omega)) QD
 | leave v u =>
  refine (wT a (Ez ((wT a (HR rfl ?_)))))
  refine⟨_,rfl,z,D,fs,rfl,l _ _ G,lm _ (by decide),_,rfl,z,Cp,D,fs,_,rfl,l _ _ G,T.clP,T.np_organ,l1,_,rfl,t,_,_,_,rfl,rfl,kL a,Ah (j:=1) rfl,_,rfl,t,_,_,_,rfl,rfl,kL a,Ah (j:=2) rfl,x,us,bs,rk,ks,ls,F,v,u,rfl,xb.p.con.o.mono xb.p.con.s,Cm.mono l hd.1,Cm.mono l hd.2,J.f.bn,(λj m b B A R eu X S W=>?_),(λB A r=>Z cB B (.inl ⟨rfl,r⟩) (l.trans A)),(λj b B A R X S r=>Z cY B (.inr (.inl ⟨rfl,j,b,R,X,S,r⟩)) (l.trans A))⟩
  have M:Fe bs v u (((bs.take j).map (·.2)).sum+m):=⟨j,m,b,R,eu,X,S,W,rfl⟩
  have Y:=hk _ _ _ M
  generalize ((bs.take j).map (·.2)).sum+m=k at M Y |-
  have p:=l.trans A
  have L:=J.mono p
  refine⟨Ho,z,x,y,l7,us,bs,rk,ks,ls,F,s.dr,s.sh,sd,I,c,k,rfl,L.p,hl,Y,(λe0=>Z cH B (.inr (.inr ⟨rfl,k,M,e0⟩)) p),(λe0=>?_)⟩
  exact q1 s (putK I (kH k) (.int ((c k - 1:Nat):Int))) (setC c k (c k - 1)) _ ⟨rfl,k,M,e0,rfl⟩ ((Fp.of p).trans λb o e _ _ e3=>by rw[Aw e3];exact e) ((L.au (J.p.h.put (n:=c k - 1) Y)).le (by omega)) QD
 | con d =>
  have fin:∀ (xs:List V),xs=d.args->∀ q,H1 q=none->ZZ C Cy pE pA cK cP cB cS [.ref y,.str d.wd,.ref q] (upd H1 q (.tup xs)) (λ_ B=>Q .non B) E:=λxs ex q g=>by
   subst ex
   have A:=BP (o:=HO.tup d.args) g
   have p:=l.trans A
   have L:=J.mono p
   refine⟨Ho,y,x,bs,ks,F,s,sd,n,q,d,rfl,L.con,BM,Al,Io.odd.mono p hd,(λs' u H' ha f k=>?_),(λi H' ha s3=>Z _ H' ⟨i,ha,rfl⟩ (p.trans s3))⟩
   exact q1 s' I c H' ⟨rfl,u,ha⟩ ((Fp.of p).trans λb o e e1 e2 _=>f b o e e1 e2) (L.pJ f k) (iP _)
  cases d with
  | pull v =>
   refine (wT a (Ez ((wT a (Ez  ?_)))))
   refine⟨_,rfl,z,Cp,D,fs,_,rfl,l _ _ G,T.clP,T.np_console,U,_,rfl,t,_,_,_,rfl,rfl,kL a,Ah (j:=0) rfl,_,rfl,_,rfl,t,_,rfl,kL a,(λe=>absurd e.1 (show ¬ HT.Dy 2 0 (some 1)=0 by decide)),λq g=>?_⟩
   exact fin _ rfl q g
  | push v =>
   refine (wT a (Ez ((wT a (Ez  ?_)))))
   refine⟨_,rfl,z,Cp,D,fs,_,rfl,l _ _ G,T.clP,T.np_console,U,_,rfl,t,_,_,_,rfl,rfl,kL a,Ah (j:=0) rfl,_,rfl,_,rfl,t,_,rfl,kL a,(λe=>absurd e.1 (show ¬ HT.Dy 2 0 (some 1)=0 by decide)),λq g=>?_⟩
   exact fin _ rfl q g
  | store v =>
   refine (wT a (Ez ((wT a (Ez  ?_)))))
   refine⟨_,rfl,z,Cp,D,fs,_,rfl,l _ _ G,T.clP,T.np_console,U,_,rfl,t,_,_,_,rfl,rfl,kL a,Ah (j:=0) rfl,_,rfl,_,rfl,t,_,rfl,kL a,(λe=>absurd e.1 (show ¬ HT.Dy 2 0 (some 1)=0 by decide)),λq g=>?_⟩
   exact fin _ rfl q g
  | storeB v b =>
   refine (wT a (Ez ((wT a (Ez  ?_)))))
   refine⟨_,rfl,z,Cp,D,fs,_,rfl,l _ _ G,T.clP,T.np_console,U,_,rfl,t,_,_,_,rfl,rfl,kL a,Ah (j:=0) rfl,_,rfl,_,rfl,t,_,rfl,kL a,(λe=>absurd e.1 (show ¬ HT.Dy 3 0 (some 1)=0 by decide)),λq g=>?_⟩
   exact fin _ rfl q g
  | press v =>
   refine (wT a (Ez ((wT a (Ez  ?_)))))
   refine⟨_,rfl,z,Cp,D,fs,_,rfl,l _ _ G,T.clP,T.np_console,U,_,rfl,t,_,_,_,rfl,rfl,kL a,Ah (j:=0) rfl,_,rfl,_,rfl,t,_,rfl,kL a,(λe=>absurd e.1 (show ¬ HT.Dy 2 0 (some 1)=0 by decide)),λq g=>?_⟩
   exact fin _ rfl q g
  | shoe v =>
   refine (wT a (Ez ((wT a (Ez  ?_)))))
   refine⟨_,rfl,z,Cp,D,fs,_,rfl,l _ _ G,T.clP,T.np_console,U,_,rfl,t,_,_,_,rfl,rfl,kL a,Ah (j:=0) rfl,_,rfl,_,rfl,t,_,rfl,kL a,(λe=>absurd e.1 (show ¬ HT.Dy 2 0 (some 1)=0 by decide)),λq g=>?_⟩
   exact fin _ rfl q g
  | cancel =>
   refine (wT a (Ez ((wT a (Ez  ?_)))))
   refine⟨_,rfl,z,Cp,D,fs,_,rfl,l _ _ G,T.clP,T.np_console,U,_,rfl,t,_,_,_,rfl,rfl,kL a,Ah (j:=0) rfl,_,rfl,_,rfl,t,_,rfl,kL a,(λe=>absurd e.1 (show ¬ HT.Dy 1 0 (some 1)=0 by decide)),λq g=>?_⟩
   exact fin _ rfl q g
def LQ (a b:Nat):Nat:=a - (a &&& b)
theorem SJ (a b:Nat):Builtin.bitAnd ((a:Nat):Int) (Builtin.bitNot ((b:Nat):Int))=((LQ a b:Nat):Int):=by
 unfold Builtin.bitAnd Builtin.bitNot LQ
 have e:decide (0<=((a:Nat):Int))=true:=decide_eq_true (by omega)
 have c:decide (0 <= -((b:Nat):Int) - 1)=false:=decide_eq_false (by omega)
 rw[e,c]
 show ((a:Nat):Int) - (((((a:Nat):Int).toNat &&& (-(-((b:Nat):Int) - 1) - 1).toNat:Nat)):Int)=_
 have d:(-(-((b:Nat):Int) - 1) - 1).toNat=b:=by omega
 rw[d,bp]
 have:=@Nat.and_le_left a b
 omega
theorem Nu (a b:Nat):LQ a b<=a:=Nat.sub_le _ _
structure JF (C Cy Cp pE pA:Addr) (Ho H:Hp) (z x y hd:Addr) (us:List V) (rk:List (Str × Nat × Int)) (ls:List (List Ln)) (sts:List Nat) (s:Cs) (sd:Addr) (kvs:List (Key × V)) (c:Nat->Nat) (n:Nat) (cn:Nat->Str) (sz:List Nat) (kbs:List Kb):Prop where
 p:HQ C Cy Cp pE pA Ho H z x y hd us (Bj cn sz) rk (By cn kbs) ls sts s sd kvs c n
 o:cI cn sz rk kbs ls sts s.sh kvs c
 bd:∀ D n p,FP cn sz rk kbs ls D n p->p<2 ^ 1200
 ky:∀ v u k,Fe (Bj cn sz) v u k->k<sz.sum
 ks:sz.sum<1200
abbrev nZ (s:Cs) (sts:List Nat):Nat:=s.dr ||| Pr (sts.take s.sh)
section
variable {x y hd:Addr} {rk:List (Str × Nat × Int)} {s s':Cs} {d0:List (Key × V)} {c c':Nat->Nat} {n':Nat} {cn:Nat->Str} {sz:List Nat}
theorem JF.mono (e:An H H') (h:JF C Cy Cp pE pA Ho H z x y hd us rk ls sts s sd kvs c n cn sz kbs):JF C Cy Cp pE pA Ho H' z x y hd us rk ls sts s sd kvs c n cn sz kbs:=⟨h.p.mono e,h.o,h.bd,h.ky,h.ks⟩
theorem JF.step (h:JF C Cy Cp pE pA Ho H z x y hd us rk ls sts s sd kvs c n cn sz kbs) {d:Ed} (e:Tg (Bj cn sz) (By cn kbs) sts.length s c d s' c') (g:HQ C Cy Cp pE pA Ho H' z x y hd us (Bj cn sz) rk (By cn kbs) ls sts s' sd d0 c' n') (l:d0.length<=500):JF C Cy Cp pE pA Ho H' z x y hd us rk ls sts s' sd d0 c' n' cn sz kbs:=by
 have b:s'.sh<=sts.length/\∀ k,0<c' k->k<sz.sum:=by
  cases d with
  | hold v u =>
   obtain⟨rfl,k,f,rfl⟩:=e
   refine⟨h.o.sh,λi a=>?_⟩
   by_cases z:i=k
   ·rw[z];exact h.ky _ _ _ f
   ·rw[show setC c k (c k+1) i=c i from if_neg z] at a
    exact h.o.kc i a
  | leave v u =>
   obtain⟨rfl,k,f,m,rfl⟩:=e
   refine⟨h.o.sh,λi a=>?_⟩
   by_cases z:i=k
   ·rw[z];exact h.ky _ _ _ f
   ·rw[show setC c k (c k - 1) i=c i from if_neg z] at a
    exact h.o.kc i a
  | con d =>
   obtain⟨rfl,u,j⟩:=e
   have:=gW (ns:=(Bj cn sz).map (·.1)) (ks:=By cn kbs) h.o.sh d
   rw[j] at this
   exact⟨this,h.o.kc⟩
 exact⟨g,⟨h.o.kb,h.o.lg,h.o.nm,h.o.nk,b.1,h.o.st,b.2,l⟩,h.bd,h.ky,h.ks⟩
end
inductive gB (C Cy Cp pE pA cK cP cB cS cH cY:Addr) (vs:List V) (H:Hp) (Q:VK) (E:XK):Prop
 | mk (Ho:Hp) (z x y hd:Addr) (us:List V) (rk:List (Str × Nat × Int)) (ls:List (List Ln:_)) (sts:List Nat) (s:Cs) (sd:Addr) (kvs:List (Key × V)) (c:Nat->Nat) (n:Nat) (cn:Nat->Str) (sz:List Nat) (kbs:List Kb) (t:Addr) (d:Ed):vs=[.ref z,.ref t]->H t=some (.tup d.v)->d.odd H->JF C Cy Cp pE pA Ho H z x y hd us rk ls sts s sd kvs c n cn sz kbs->kvs.length<=400->n<900->(∀ s' d0 c' (p1 p2:Nat) (Ta D1 D2:Addr) Hm H',Tg (Bj cn sz) (By cn kbs) sts.length s c d s' c'->Fp H Hm y sd hd->JF C Cy Cp pE pA Ho Hm z x y hd us rk ls sts s' sd d0 c' (n+1) cn sz kbs->d0.length<=kvs.length+1->FP cn sz rk kbs ls (nZ s sts) (Wd.mk (Dw kvs)) p1->FP cn sz rk kbs ls (nZ s' sts) (Wd.mk (Dw d0)) p2->An Hm H'->Hm Ta=none->Hm D1=none->Hm D2=none->D1 ≠ D2->H' Ta=some (.tup [.ref D1,.ref D2])->H' D1=some (.lst (nV (Wd.mem (LQ p2 p1))))->H' D2=some (.lst (nV (Wd.mem (LQ p1 p2))))->Q (.ref Ta) H')->(∀ a (p1:Nat) H',Zb cK cP cB cS cH cY (Bj cn sz) (By cn kbs) sts.length s c d a->FP cn sz rk kbs ls (nZ s sts) (Wd.mk (Dw kvs)) p1->An H H'->E (.ref a) none H')->gB C Cy Cp pE pA cK cP cB cS cH cY vs H Q E
theorem fK:Aq ["self","deed","ahead","behind"] xk (Ac yD):=Bf
include N T in
theorem lO:Ao P w K mg base (Gh P w) 9 aD.fQd aD.dQd xk (gB C Cy Cp pE pA cK cP cB cS cH cY):=by
 have r:Ao P w K mg base (Gh P w) 8 aD.fQa aD.dQa xk (gC C Cy Cp pE pA cK cP cB cS cH cY):=qJ N T
 refine N.FQd.1.Jl fK λH vs Q E b h=>?_
 obtain⟨A,z,x,y,F,J,rk,S,f,s,U,m,c,n,cn,sz,p,t,d,rfl,ht,hd,e,hl,BM,q1,q0⟩:=h
 have hu:=CN b
 refine⟨_,(Af (Bh (i:=2) fK.nd rfl (Or.inl rfl) (Bg (pv 0) T.clP N.FQs.2.2 (YW N T) (ad b) N.FQs.2.1 .nil Am))
  (Af (Bx (Bq (pv 0) T.clP N.FQa.2.2 r (ad b) N.FQa.2.1 .nil Dk (Aa (pv 1) Ab)))
  (Af (Bh (i:=3) fK.nd rfl (Or.inl rfl) (Bg (pv 0) T.clP N.FQs.2.2 (YW N T) (ad b) N.FQs.2.1 .nil Am))
  (Ag (Ax (Cq (Aa (zC (QB N T) b rfl N.FMe (Aa (BZ JG (pv 3) (KR OD (pv 2))) Ab)) (Aa (zC (QB N T) b rfl N.FMe (Aa (BZ JG (pv 2) (KR OD (pv 3))) Ab)) Ab)))))))),?_⟩
 obtain⟨dz,fs,h1,l1,l2,l3,lm⟩:=id e.p.p.Nm.ex
 refine⟨_,rfl,z,dz,fs,rfl,h1,lm _ (by decide),A,z,x,y,F,J,rk,S,f,s.dr,s.sh,U,m,c,cn,sz,p,rfl,e.p.p,e.o,λg H1 j O=>?_⟩
 have xb:=e.mono j
 refine⟨_,rfl,z,dz,fs,rfl,j _ _ h1,lm _ (by decide),_,rfl,A,z,x,y,F,J,_,rk,_,S,f,s,U,m,c,n,t,d,rfl,j _ _ ht,Ed.odd.mono j hd,xb.p,(by omega),BM,(λv u k hk=>ja (e.ky v u k hk) e.ks),(λW d0 c' M st f2 pp k7=>?_),(λa M b s2=>q0 a g M b O (j.trans s2))⟩
 have q:=xb.step st pp (by omega)
 have G:=(Fp.of j).trans f2
 obtain⟨I,OI,L,_,_,_,MV⟩:=id q.p.p.Nm.ex
 refine⟨_,rfl,z,I,OI,rfl,L,MV _ (by decide),A,z,x,y,F,J,rk,S,f,W.dr,W.sh,U,d0,c',cn,sz,p,rfl,q.p.p,q.o,λl H4 D X=>?_⟩
 have b1:=e.bd _ _ _ O
 have b2:=e.bd _ _ _ X
 refine⟨_,rfl,_,rfl,_,rfl,_,_,rfl,rfl,LQ l g,congrArg (λv:Int=>[V.int v]) (SJ l g),ar (Nu _ _) b2,λD1 H5 vi s5 l5=>?_⟩
 refine⟨_,rfl,_,rfl,_,rfl,_,_,rfl,rfl,LQ g l,congrArg (λv:Int=>[V.int v]) (SJ g l),ar (Nu _ _) b1,λY H6 nt Z l6=>?_⟩
 refine⟨by show 2<=sizeLine;decide,λT7 U2=>?_⟩
 have B:=BP (o:=HO.tup [.ref D1,.ref Y]) U2
 have VE:=(D.trans s5).trans Z
 have R:=VE.trans B
 exact q1 W d0 c' g l T7 D1 Y M _ st G q k7 O X R (VE.free U2) (D.free vi) ((D.trans s5).free nt) (Aj l5 nt) Al (B _ _ (Z _ _ l5)) (B _ _ l6)
theorem Jr {c:Nat->Str} {sz:List Nat} {rk:List (Str × Nat × Int)} {D p f:Nat} (h:FP c sz rk kbs ls D n p) (g:FP c sz rk kbs ls D n f):p=f:=by
 obtain⟨r,m,b,l,rfl⟩:=h
 obtain⟨o,i,d,q,rfl⟩:=g
 obtain rfl:m=i:=fN λj=>by rw[eI,l,q]
 refine fN λj=>?_
 rw[eI,Q3,Q3]
 exact⟨λ⟨k,a,e⟩=>⟨k,(d k).mpr ((b k).mp a),e⟩,λ⟨k,a,e⟩=>⟨k,(b k).mpr ((d k).mp a),e⟩⟩
def PX (bs:List (Str × Nat)) (ks:List R) (n:Nat) (c:Nat->Nat):Ed->Prop
 | .hold v u=>∃ k,Fe bs v u k
 | .leave v u=>∃ k,Fe bs v u k/\0<c k
 | .con (.pull v)=>∃ t,v=.str t/\t∈Ij ks
 | .con (.push v)=>∃ t,v=.str t/\t∈Ij ks
 | .con (.store v)=>∃ p:Nat,v=.int (p:Nat)/\p<10
 | .con (.storeB v b)=>(∃ p:Nat,v=.int (p:Nat)/\p<10)/\(b=.non \/ ∃ t,b=.str t/\t∈bs.map (·.1))
 | .con (.press v)=>∃ p:Nat,v=.int (p:Nat)/\p<10
 | .con (.shoe v)=>∃ i:Nat,v=.int (i:Nat)/\i<=n
 | .con .cancel=>True
theorem Hu (h:n<2 ^ 1200):(Wd.mem n).length<=1200:=by
 have:=Wd.LK h
 have:(Wd.mem n).length<=Wd.len n:=by unfold Wd.mem;exact Nat.le_trans (List.length_filter_le _ _) (by simp)
 omega
theorem Ig {a:Hp} (s:An a H) (n:a p=none) (h:Gg H H' p):An a H':=λb o e=>h.sx b o (s b o e) (Aj e n)
abbrev yM:List V:=[.str "hold",.str "hold",.str "hold",.str "hold",.str "leave",.str "leave",.str "leave",.str "pull",.str "pull",.str "pull",.str "push",.str "shoe",.str "store"]
abbrev W3:List V:=[.str "press",.str "press",.str "cancel"]
theorem w16 {r:Nat} (h:r<16):∃ t:Str,Ua (yM++W3) ((r:Nat):Int)=some (.str t)/\(t = "hold" \/ t = "leave" \/ t = "pull" \/ t = "push" \/ t = "shoe" \/ t = "store" \/ t = "press" \/ t = "cancel"):=by
 obtain rfl | rfl | rfl | rfl | rfl | rfl | rfl | rfl | rfl | rfl | rfl | rfl | rfl | rfl | rfl | rfl:r=0 \/ r=1 \/ r=2 \/ r=3 \/ r=4 \/ r=5 \/ r=6 \/ r=7 \/ r=8 \/ r=9 \/ r=10 \/ r=11 \/ r=12 \/ r=13 \/ r=14 \/ r=15:=by omega
 ·exact⟨_,Ah (j:=0) rfl,.inl rfl⟩
 ·exact⟨_,Ah (j:=1) rfl,.inl rfl⟩
 ·exact⟨_,Ah (j:=2) rfl,.inl rfl⟩
 ·exact⟨_,Ah (j:=3) rfl,.inl rfl⟩
 ·exact⟨_,Ah (j:=4) rfl,.inr (.inl rfl)⟩
 ·exact⟨_,Ah (j:=5) rfl,.inr (.inl rfl)⟩
 ·exact⟨_,Ah (j:=6) rfl,.inr (.inl rfl)⟩
 ·exact⟨_,Ah (j:=7) rfl,.inr (.inr (.inl rfl))⟩
 ·exact⟨_,Ah (j:=8) rfl,.inr (.inr (.inl rfl))⟩
 ·exact⟨_,Ah (j:=9) rfl,.inr (.inr (.inl rfl))⟩
 ·exact⟨_,Ah (j:=10) rfl,.inr (.inr (.inr (.inl rfl)))⟩
 ·exact⟨_,Ah (j:=11) rfl,.inr (.inr (.inr (.inr (.inl rfl))))⟩
 ·exact⟨_,Ah (j:=12) rfl,.inr (.inr (.inr (.inr (.inr (.inl rfl)))))⟩
 ·exact⟨_,Ah (j:=13) rfl,.inr (.inr (.inr (.inr (.inr (.inr (.inl rfl))))))⟩
 ·exact⟨_,Ah (j:=14) rfl,.inr (.inr (.inr (.inr (.inr (.inr (.inl rfl))))))⟩
 ·exact⟨_,Ah (j:=15) rfl,.inr (.inr (.inr (.inr (.inr (.inr (.inr rfl))))))⟩
structure DeC (C Cy Cp pE pA:Addr) (H0 H:Hp) (p KL:Addr) (Ho:Hp) (z x y hd:Addr) (us:List V) (rk:List (Str × Nat × Int)) (ls:List (List Ln)) (sts:List Nat) (s:Cs) (sd:Addr) (kvs:List (Key × V)) (c:Nat->Nat) (n:Nat) (cn:Nat->Str) (sz:List Nat) (kbs:List Kb):Prop where
 pl:JF C Cy Cp pE pA Ho H0 z x y hd us rk ls sts s sd kvs c n cn sz kbs
 kl:H0 KL=some (.lst ((Ij (By cn kbs)).map V.str))
 sm:An H0 H
 np:H0 p=none
 sr:SrcAt H p
 z1:∀ k∈sz,1<=k
 l1:1<=sz.length
 nd:((Bj cn sz).map (·.1)).Nodup
theorem jC (b:ns.Nodup) (h:ns[j]? = some t):ns.idxOf t=j:=by
 have a:=ai h
 have c:=(ag.mp h).1
 exact ((List.getElem?_inj c b).mp (h.trans (Js a).symm)).symm
theorem Gd {bs:List (Str × Nat)} (c:(bs.map (·.1)).Nodup) {b:Str × Nat} (a:bs[j]? = some b) (d:n<b.2):Fe bs (.str b.1) (.int (n:Nat)) (((bs.take j).map (·.2)).sum+n):=⟨j,n,b,rfl,rfl,a,jC c (by rw[am,a];rfl),d,rfl⟩
inductive dh (C Cy Cp pE pA:Addr) (vs:List V) (H:Hp) (Q:VK) (b9:XK):Prop
 | mk (H0:Hp) (p KL:Addr) (Ho:Hp) (z x y hd:Addr) (us:List V) (rk:List (Str × Nat × Int)) (ls:List (List Ln:_)) (sts:List Nat) (s:Cs) (sd:Addr) (kvs:List (Key × V)) (c:Nat->Nat) (n:Nat) (cn:Nat->Str) (sz:List Nat) (kbs:List Kb):vs=[.ref p,.ref x,.ref z,.ref KL]->DeC C Cy Cp pE pA H0 H p KL Ho z x y hd us rk ls sts s sd kvs c n cn sz kbs->(∀ (Ta:Addr) (d:Ed) H',H0 Ta=none->An H0 H'->H' Ta=some (.tup d.v)->(∀ H2,d.odd H2)->PX (Bj cn sz) (By cn kbs) sts.length c d->Q (.ref Ta) H')->dh C Cy Cp pE pA vs H Q b9
theorem Oq:Aq ["_law_source_here","_law_organ","_law_player","_law_knobs","_law_boards","_law_word","_law_board","_law_held","_law_at","_law_number"] v2 (Ac xP):=Bf
include N T in
theorem qp:Ao P w K mg base Bb 6 aD.fDe aD.dDe v2 (dh C Cy Cp pE pA):=by
 refine N.FDe.1.DQ Oq λH vs Q E I h=>?_
 obtain⟨H0,p,KL,Ho,z,x,y,l7,us,rk,ls,ab,s,sd,G,c,n,B,sz,A,rfl,D,q⟩:=h
 have hu:=CN I
 refine⟨_,(@Af _ _ _ _ _ (@Bo _ _ _ _ _ _ 4 Oq.nd rfl (Or.inl rfl) (Bg (pv 1) T.cl N.FOb.2.2 (Sg N T) (ad I) N.FOb.2.1 .nil Am) (by kernel_rfl) (.inl rfl))
  (@Af _ _ _ _ _ (@Bo _ _ _ _ _ _ 5 Oq.nd rfl (Or.inl rfl) (@Dm _ _ _ _ (@Ay _ _ _ _ _ rfl BW (@Ay _ _ _ _ _ rfl BW (@Ay _ _ _ _ _ rfl BW (@Ay _ _ _ _ _ rfl BW (@Ay _ _ _ _ _ rfl BW (@Ay _ _ _ _ _ rfl BW (@Ay _ _ _ _ _ rfl BW (@Ay _ _ _ _ _ rfl BW (@Ay _ _ _ _ _ rfl BW (@Ay _ _ _ _ _ rfl BW (@Ay _ _ _ _ _ rfl BW (@Ay _ _ _ _ _ rfl BW (@Ay _ _ _ _ _ rfl BW Ab)))))))))))))) (by kernel_rfl) (.inl rfl))
  (@Af _ _ _ _ _ (@Bo _ _ _ _ _ _ 5 Oq.nd rfl (Or.inl rfl) (@Az _ _ _ _ _ _ _ (Bp (K:=K) rfl) (BZ Qw (pv 5) (@Dm _ _ _ _ (@Ay _ _ _ _ _ rfl BW (@Ay _ _ _ _ _ rfl BW (@Ay _ _ _ _ _ rfl BW Ab))))) (zC (Xy N T) I rfl N.FDw (@Ay _ _ _ _ _ rfl (pv 0) (@Ay _ _ _ _ _ rfl Ae Ab))) (λ_ _=>rfl)) (by kernel_rfl) (.inl rfl))
  (@Af _ _ _ _ _ (@Bo _ _ _ _ _ _ 6 Oq.nd rfl (Or.inl rfl) (@Az _ _ _ _ _ _ _ (Bp (K:=K) rfl) (pv 4) (zC (Xy N T) I rfl N.FDw (@Ay _ _ _ _ _ rfl (pv 0) (@Ay _ _ _ _ _ rfl (BJ BL rfl T.len aS (@Ay _ _ _ _ _ rfl (pv 4) Ab)) Ab))) (λ_ _=>rfl)) (by kernel_rfl) (.inl rfl))
  (@Af _ _ _ _ _ (@Bl _ _ _ _ _ _ _ _ (BR Cj (pv 5) BW (BX _)) (@Ag _ _ _ (@Ax _ _ _ _ (@Cq _ _ _ _ _ (@Ay _ _ _ _ _ rfl BW (@Ay _ _ _ _ _ rfl (@Az _ _ _ _ _ _ _ (Av (K:=K) rfl) (pv 6) Ae (λ_ _=>rfl)) (@Ay _ _ _ _ _ rfl (zC (Xy N T) I rfl N.FDw (@Ay _ _ _ _ _ rfl (pv 0) (@Ay _ _ _ _ _ rfl (@Az _ _ _ _ _ _ _ (Av (K:=K) rfl) (pv 6) Ae (λ_ _=>rfl)) Ab))) Ab)))))) Ba)
  (@Af _ _ _ _ _ (@Bl _ _ _ _ _ _ _ _ (BR Cj (pv 5) BW (BX _)) (@Af _ _ _ _ _ (@Bo _ _ _ _ _ _ 7 Oq.nd rfl (Or.inl rfl) (zC (QB N T) I rfl N.FMe (@Ay _ _ _ _ _ rfl (Bg (pv 2) T.clP N.FQe.2.2 (Tr N T) (ad I) N.FQe.2.1 .nil Am) Ab)) (by kernel_rfl) (.inl rfl))
  (@Af _ _ _ _ _ (@Bl _ _ _ _ _ _ _ _ (BR (Ui (kA hu)) (pv 7) (@Dm _ _ _ _ Ab) (BX _)) (@Ag _ _ _ (@Ax _ _ _ _ (@Cq _ _ _ _ _ (@Ay _ _ _ _ _ rfl BW (@Ay _ _ _ _ _ rfl (@Az _ _ _ _ _ _ _ (Av (K:=K) rfl) (pv 6) Ae (λ_ _=>rfl)) (@Ay _ _ _ _ _ rfl (zC (Xy N T) I rfl N.FDw (@Ay _ _ _ _ _ rfl (pv 0) (@Ay _ _ _ _ _ rfl (@Az _ _ _ _ _ _ _ (Av (K:=K) rfl) (pv 6) Ae (λ_ _=>rfl)) Ab))) Ab)))))) Ba)
  (@Af _ _ _ _ _ (Ra (Bq (pv 1) T.cl N.FOo.2.2 (Wr N T) (ad I) N.FOo.2.1 .nil Am (@Ay _ _ _ _ _ rfl (@Az _ _ _ _ _ _ _ (Bp (K:=K) rfl) (pv 7) (zC (Xy N T) I rfl N.FDw (@Ay _ _ _ _ _ rfl (pv 0) (@Ay _ _ _ _ _ rfl (BJ BL rfl T.len aS (@Ay _ _ _ _ _ rfl (pv 7) Ab)) Ab))) (λ_ _=>rfl)) Ab)) (Ld rfl (EY (Ck (i:=8) Oq.nd rfl (Or.inl rfl)) (EY (Ck (i:=9) Oq.nd rfl (Or.inl rfl)) Jg))))
  (@Ag _ _ _ (@Ax _ _ _ _ (@Cq _ _ _ _ _ (@Ay _ _ _ _ _ rfl BW (@Ay _ _ _ _ _ rfl (@Az _ _ _ _ _ _ _ (Av (K:=K) rfl) (@Az _ _ _ _ _ _ _ (Bp (K:=K) rfl) (pv 4) (pv 8) (λ_ _=>rfl)) Ae (λ_ _=>rfl)) (@Ay _ _ _ _ _ rfl (pv 9) Ab))))))))) Ba)
  (@Af _ _ _ _ _ (@Bl _ _ _ _ _ _ _ _ (PW.pt (N8 (PW.pt (D_ (BR Cj (pv 5) BW (BX _)) (Do (BR Cj (pv 5) BW (BX _))))) (Ko (BR (V7 (kA hu)) (pv 3) (@Dm _ _ _ _ Ab) (BX _))))) (@Ag _ _ _ (@Ax _ _ _ _ (@Cq _ _ _ _ _ (@Ay _ _ _ _ _ rfl (pv 5) (@Ay _ _ _ _ _ rfl (@Az _ _ _ _ _ _ _ (Bp (K:=K) rfl) (pv 3) (zC (Xy N T) I rfl N.FDw (@Ay _ _ _ _ _ rfl (pv 0) (@Ay _ _ _ _ _ rfl (BJ BL rfl T.len aS (@Ay _ _ _ _ _ rfl (pv 3) Ab)) Ab))) (λ_ _=>rfl)) Ab))))) Ba)
  (@Af _ _ _ _ _ (@Bl _ _ _ _ _ _ _ _ (BR Cj (pv 5) BW (BX _)) (@Ag _ _ _ (@Ax _ _ _ _ (@Cq _ _ _ _ _ (@Ay _ _ _ _ _ rfl BW (@Ay _ _ _ _ _ rfl (zC (Xy N T) I rfl N.FDw (@Ay _ _ _ _ _ rfl (pv 0) (@Ay _ _ _ _ _ rfl (BZ CW Ae (BJ BL rfl T.len aS (@Ay _ _ _ _ _ rfl (Bg (pv 1) T.cl N.FOy.2.2 (Xa N T) (ad I) N.FOy.2.1 .nil Am) Ab))) Ab))) Ab))))) Ba)
  (@Af _ _ _ _ _ (@Bl _ _ _ _ _ _ _ _ (PW.pt (N8 (BR Cj (pv 5) BW (BX _)) (Ko (BR O3 (zC (Xy N T) I rfl N.FDw (@Ay _ _ _ _ _ rfl (pv 0) (@Ay _ _ _ _ _ rfl Ae Ab))) Ae (BX _))))) (@Ag _ _ _ (@Ax _ _ _ _ (@Cq _ _ _ _ _ (@Ay _ _ _ _ _ rfl BW (@Ay _ _ _ _ _ rfl (zC (Xy N T) I rfl N.FDw (@Ay _ _ _ _ _ rfl (pv 0) (@Ay _ _ _ _ _ rfl Ae Ab))) (@Ay _ _ _ _ _ rfl (@Az _ _ _ _ _ _ _ (Bp (K:=K) rfl) (@Dm _ _ _ _ (@Ay _ _ _ _ _ rfl (@Az _ _ _ _ _ _ _ (Av (K:=K) rfl) (pv 6) Ae (λ_ _=>rfl)) (@Ay _ _ _ _ _ rfl F_ Ab))) (BZ Fw (zC (Xy N T) I rfl N.FDw (@Ay _ _ _ _ _ rfl (pv 0) (@Ay _ _ _ _ _ rfl Ae Ab))) Ae) (λ_ _=>rfl)) Ab)))))) Ba)
  (@Af _ _ _ _ _ (@Bl _ _ _ _ _ _ _ _ (PW.pt (D_ (BR Cj (pv 5) BW (BX _)) (Do (BR Cj (pv 5) BW (BX _))))) (@Ag _ _ _ (@Ax _ _ _ _ (@Cq _ _ _ _ _ (@Ay _ _ _ _ _ rfl (pv 5) (@Ay _ _ _ _ _ rfl (zC (Xy N T) I rfl N.FDw (@Ay _ _ _ _ _ rfl (pv 0) (@Ay _ _ _ _ _ rfl Ae Ab))) Ab))))) Ba)
  (@Ag _ _ _ (@Ax _ _ _ _ (@Cq _ _ _ _ _ (@Ay _ _ _ _ _ rfl BW Ab)))))))))))))),?_⟩
 have U:=D.pl
 have Sn:=U.p.p.con.o.mono U.p.p.con.s
 have OX:=Sn.mono D.sm
 have Ll:=U.p.f.bn
 have k8:=Ff OX.o.o
 obtain⟨⟨⟨dx,fs,_,_,_,_,_,_,_,_,hx,_,_,_,_,lm,_⟩,sj,qc,rq⟩,_⟩:=id OX.o
 have bK:=D.l1
 have fin:∀ (d:Ed) (Hn:Hp),Gg H Hn p->(∀ L,d.odd L)->PX (Bj B sz) (By B A) ab.length c d->∀ t,Hn t=none->Q (.ref t) (upd Hn t (.tup d.v)):=λd Hn sn ho hl t u =>
  q t d _ ((Ig D.sm D.np sn).free u) ((Ig D.sm D.np sn).trans (BP u)) Al ho hl
 have aw:Gg H H p:=Gg.refl D.sr
 refine⟨_,rfl,x,dx,fs,rfl,hx,lm _ (by decide),x,_,_,rfl,OX.o.o,λDB i3 H1 VU s1 a3 nc=>?_⟩
 have vb:=aw.same s1
 refine⟨by show 13<=sizeLine;decide,λP1 E8=>?_⟩
 obtain⟨L,O,s2,e2⟩:=Em (o:=HO.lst yM) E8
 rw[O]
 have w9:=vb.same s2
 refine⟨_,rfl,by show 3<=sizeLine;decide,λP2 UR=>?_⟩
 obtain⟨H3,O,s3,e3⟩:=Em (o:=HO.lst W3) UR
 rw[O]
 have wx:=w9.same s3
 refine⟨P1,P2,_,_,rfl,rfl,s3 _ _ e2,e3,by show 16<=sizeLine;decide,λP3 TM=>?_⟩
 obtain⟨H4,O,s4,e4⟩:=Em (o:=HO.lst (yM++W3)) TM
 rw[O]
 have xL:=wx.same s4
 have n3:P3 ≠ p:=wx.ne TM
 refine⟨_,rfl,p,16,rfl,xL.sr,by decide,by decide,λr H5 aN f5 AI=>?_⟩
 have rf:=xL.draw f5 AI
 obtain⟨wd,GE,hw⟩:=w16 (r:=r) (by omega)
 refine⟨P3,_,_,_,rfl,rfl,kL (by rw[f5 P3 n3];exact e4),GE,?_⟩
 have Y:Gg H1 H5 p:=((((Gg.refl vb.sr).same s2).same s3).same s4).draw f5 AI
 have an:DB ≠ p:=aw.ne VU
 have qo:=Y.sx _ _ a3 an
 have as:Paired (λb y=>TupAt H5 (bV b) y) (Bj B sz) i3:=Y.Mj (f:=bV) vb.sr nc
 have aP:=as.length
 rw[Lx] at aP
 have bB:(Bj B sz).length=sz.length:=Lx ..
 have l5:sz.length<=5:=by omega
 clear Y e4 e3 e2 s2 s3 s4 E8 UR TM f5 AI xL wx w9 n3 GE aN
 refine⟨_,rfl,_,rfl,_,rfl,DB,_,rfl,kL (.inl qo),p,_,rfl,rf.sr,(by show (0:Int)<((i3.length:Nat):Int);omega),(by show ((i3.length:Nat):Int)<1073741824;omega),λj H6 xS f6 CD=>?_⟩
 have F:=rf.draw f6 CD
 have Z:Gg H5 H6 p:=(Gg.refl rf.sr).draw f6 CD
 have zS:=Z.sx _ _ qo an
 have aM:Paired (λb y=>TupAt H6 (bV b) y) (Bj B sz) i3:=Z.Mj (f:=bV) rf.sr as
 obtain⟨b,hb⟩:∃ b,(Bj B sz)[j]? = some b:=⟨_,ae (by omega)⟩
 obtain⟨yb,L5,Tb,rfl,tj⟩:=CP aM hb
 have bL:1<=b.2/\b.2<=305:=by
  have hm:b.2∈(Bj B sz).map (·.2):=bb (ai hb)
  have aQ:=qc b (ai hb)
  rw[De] at hm
  exact⟨D.z1 _ hm,by omega⟩
 refine⟨DB,_,_,_,rfl,rfl,kL zS,Ah L5,?_⟩
 clear Z f6 CD rf qo as xS
 have LZ:=Ig D.sm D.np F
 rcases hw with rfl | rfl | rfl | rfl | rfl | rfl | rfl | rfl
 ·refine⟨_,rfl,rfl,_,rfl,HR rfl ?_⟩
  refine⟨_,rfl,Tb,_,_,_,rfl,rfl,kL tj,Ah (j:=0) rfl,_,rfl,_,rfl,Tb,_,_,_,rfl,rfl,kL tj,Ah (j:=1) rfl,p,_,rfl,F.sr,(by show (0:Int)<((b.2:Nat):Int);omega),(by show ((b.2:Nat):Int)<1073741824;omega),λm Hn hm fn MQ=>⟨by show 3<=sizeLine;decide,λt u=>?_⟩⟩
  exact fin (.hold (.str b.1) (.int (m:Nat))) Hn (F.draw fn MQ) (λL=>⟨.str (Ll _ (bb (ai hb))).tx,.int _⟩) ⟨_,Gd D.nd hb (by omega)⟩ t u
 ·refine⟨_,rfl,rfl,_,rfl,Ez ⟨_,rfl,rfl,_,rfl,HR rfl ?_⟩⟩
  have XI:=U.mono LZ
  obtain⟨dz,gs,hz,_,_,_,a7⟩:=id XI.p.p.Nm.ex
  refine⟨_,rfl,z,dz,gs,rfl,hz,a7 _ (by decide),Ho,z,x,y,l7,us,_,rk,_,ls,ab,s.dr,s.sh,sd,G,c,rfl,XI.p.p,U.o.kl,λH7 s7=>?_⟩
  refine⟨_,rfl,Wd.Rm U.p.p.h.bound,λL8 H8 ZA s8 rp=>?_⟩
  have vn:=(F.same s7).same s8
  have X:=s8 _ _ (s7 _ _ tj)
  refine⟨_,rfl,CK (by simp),λP9 wE=>?_⟩
  obtain⟨H9,O,R,e9⟩:=Em (o:=HO.lst []) wE
  rw[O]
  have J:=vn.same R
  have ya:=R _ _ rp
  refine⟨L8,P9,_,rfl,rfl,kL ya,kL e9,_,rfl,C_ (λg=>?_) (λg=>?_)⟩
  ·have EW:=R _ _ X
   refine⟨_,rfl,Tb,_,_,_,rfl,rfl,kL EW,Ah (j:=0) rfl,_,rfl,_,rfl,Tb,_,_,_,rfl,rfl,kL EW,Ah (j:=1) rfl,p,_,rfl,J.sr,(by show (0:Int)<((b.2:Nat):Int);omega),(by show ((b.2:Nat):Int)<1073741824;omega),λm Hn hm fn MQ=>⟨by show 3<=sizeLine;decide,λt u=>?_⟩⟩
   exact fin (.hold (.str b.1) (.int (m:Nat))) Hn (J.draw fn MQ) (λL=>⟨.str (Ll _ (bb (ai hb))).tx,.int _⟩) ⟨_,Gd D.nd hb (by omega)⟩ t u
  have aB:1<=(Wd.mem (Wd.mk (Dw G))).length:=by
   cases e:Wd.mem (Wd.mk (Dw G)) with
   | nil=>rw[e] at g;exact absurd rfl g
   | cons a l=>simp
  have aQ:=Hu (Wd.Rm U.p.p.h.bound)
  have Yg:(nV (Wd.mem (Wd.mk (Dw G)))).length=(Wd.mem (Wd.mk (Dw G))).length:=af ..
  refine⟨_,rfl,x,dx,fs,rfl,J.sx _ _ hx (λe=>by rw[e] at hx;obtain⟨l',mm⟩:=D.sr.some;rw[mm] at hx;cases hx),lm _ (by decide),_,rfl,_,rfl,_,rfl,L8,_,rfl,kL (.inl ya),p,_,rfl,J.sr,(by rw[Yg];omega),(by rw[Yg];omega),λr2 M pr S lh=>?_⟩
  have nL:=J.draw S lh
  have bd:L8 ≠ p:=(F.same s7).ne ZA
  have aK:M L8=some (.lst (nV (Wd.mem (Wd.mk (Dw G))))):=by rw[S L8 bd];exact ya
  rw[Yg] at pr
  obtain⟨k,hk⟩:∃ k,(Wd.mem (Wd.mk (Dw G)))[r2]? = some k:=⟨_,ae (by omega)⟩
  have aZ:k∈Dw G:=by
   have:=Wd.mem_iff.mp (ai hk)
   rw[Wd.Hr] at this
   exact of_decide_eq_true this
  have VY:=(U.p.p.h.mem k).mp aZ
  have a9:=U.o.kc k VY
  have bm:k<(FQ (Bj B sz)).length:=by rw[Et,De];exact a9
  obtain⟨⟨a,m⟩,VQ⟩:∃ qd,(FQ (Bj B sz))[k]? = some qd:=⟨_,ae bm⟩
  obtain⟨b2,ap,yi,ek⟩:=Rk VQ
  have ME:=Ig D.sm D.np nL
  refine⟨L8,_,_,_,rfl,rfl,kL aK,Ah (by unfold nV;rw[List.getElem?_map,hk];rfl),x,_,_,k,(a,m),rfl,(Sn.mono ME).o.o,VQ,λyq a5=>?_⟩
  obtain⟨Tq,rfl,a2⟩:=a5
  refine⟨Tq,_,rfl,kL a2,rfl,_,_,rfl,_,_,rfl,rfl,?_⟩
  have W:Gg H6 M p:=((((Gg.refl F.sr).same s7).same s8).same R).draw S lh
  have G2:=W.sx _ _ zS an
  have aC:Paired (λb y=>TupAt M (bV b) y) (Bj B sz) i3:=W.Mj (f:=bV) F.sr aM
  obtain⟨bz,UH,a1,rfl,QY⟩:=CP aC ap
  refine⟨_,rfl,_,rfl,DB,_,_,_,rfl,rfl,kL G2,Ah UH,a1,_,_,_,rfl,rfl,kL QY,Ah (j:=0) rfl,_,rfl,by show 3<=sizeLine;decide,λt u=>?_⟩
  refine fin (.leave (.str b2.1) (.int (m:Nat))) M nL (λL=>⟨.str (Ll _ (bb (ai ap))).tx,.int _⟩) ⟨_,Gd D.nd ap yi,?_⟩ t u
  rw[ij,<-ek]
  exact VY
 ·have Rl:=LZ _ _ D.kl
  refine⟨_,rfl,rfl,_,rfl,Ez ⟨_,rfl,rfl,_,rfl,Ez ⟨_,rfl,rfl,_,rfl,HR rfl (Dd ⟨_,rfl,CK (by simp),λP9 wE=>?_⟩)⟩⟩⟩
  obtain⟨H9,O,R,e9⟩:=Em (o:=HO.lst []) wE
  rw[O]
  have J:=F.same R
  have EV:=R _ _ Rl
  have lK:((Ij (By B A)).map V.str).length=(By B A).length:=by rw[af,af]
  refine⟨KL,P9,_,rfl,rfl,kL EV,kL e9,_,rfl,C_ (λg=>?_) (λg=>?_)⟩
  ·have aB:1<=((Ij (By B A)).map V.str).length:=by
    cases e:(Ij (By B A)).map V.str with
    | nil=>rw[e] at g;cases g
    | cons a l=>simp
   refine⟨_,rfl,_,rfl,_,rfl,_,rfl,KL,_,rfl,kL (.inl EV),p,_,rfl,J.sr,(by omega),(by omega),λr2 M pr S lh=>?_⟩
   have nL:=J.draw S lh
   have Db:=(Ig D.sm D.np nL) _ _ D.kl
   obtain⟨tk,hk⟩:∃ tk,(Ij (By B A))[r2]? = some tk:=⟨_,ae (by rw[af];omega)⟩
   refine⟨KL,_,_,_,rfl,rfl,kL Db,Ah (by rw[List.getElem?_map,hk];rfl),by show 2<=sizeLine;decide,λt u=>?_⟩
   exact fin (.con (.pull (.str tk))) M nL (λL=>.str (U.p.f.kn _ (ai hk)).tx) ⟨tk,rfl,ai hk⟩ t u
  ·refine⟨_,rfl,rfl,_,rfl,Ez ⟨_,rfl,rfl,_,rfl,Ez (Bk (⟨_,rfl,rfl,_,rfl,Ez ⟨_,rfl,rfl,_,rfl,Ez ⟨by show 1<=sizeLine;decide,λt u=>?_⟩⟩⟩))⟩⟩
   exact fin (.con .cancel) H9 J (λL=>trivial) trivial t u
 ·have Rl:=LZ _ _ D.kl
  refine⟨_,rfl,rfl,_,rfl,Ez ⟨_,rfl,rfl,_,rfl,Ez ⟨_,rfl,rfl,_,rfl,Ez ⟨_,rfl,rfl,_,rfl,HR rfl ⟨_,rfl,CK (by simp),λP9 wE=>?_⟩⟩⟩⟩⟩
  obtain⟨H9,O,R,e9⟩:=Em (o:=HO.lst []) wE
  rw[O]
  have J:=F.same R
  have EV:=R _ _ Rl
  have lK:((Ij (By B A)).map V.str).length=(By B A).length:=by rw[af,af]
  refine⟨KL,P9,_,rfl,rfl,kL EV,kL e9,_,rfl,C_ (λg=>?_) (λg=>?_)⟩
  ·have aB:1<=((Ij (By B A)).map V.str).length:=by
    cases e:(Ij (By B A)).map V.str with
    | nil=>rw[e] at g;cases g
    | cons a l=>simp
   refine⟨_,rfl,_,rfl,_,rfl,_,rfl,KL,_,rfl,kL (.inl EV),p,_,rfl,J.sr,(by omega),(by omega),λr2 M pr S lh=>?_⟩
   have nL:=J.draw S lh
   have Db:=(Ig D.sm D.np nL) _ _ D.kl
   obtain⟨tk,hk⟩:∃ tk,(Ij (By B A))[r2]? = some tk:=⟨_,ae (by rw[af];omega)⟩
   refine⟨KL,_,_,_,rfl,rfl,kL Db,Ah (by rw[List.getElem?_map,hk];rfl),by show 2<=sizeLine;decide,λt u=>?_⟩
   exact fin (.con (.push (.str tk))) M nL (λL=>.str (U.p.f.kn _ (ai hk)).tx) ⟨tk,rfl,ai hk⟩ t u
  ·refine⟨_,rfl,rfl,_,rfl,Ez ⟨_,rfl,rfl,_,rfl,Ez (Bk (⟨_,rfl,rfl,_,rfl,Ez ⟨_,rfl,rfl,_,rfl,Ez ⟨by show 1<=sizeLine;decide,λt u=>?_⟩⟩⟩))⟩⟩
   exact fin (.con .cancel) H9 J (λL=>trivial) trivial t u
 ·refine⟨_,rfl,rfl,_,rfl,Ez ⟨_,rfl,rfl,_,rfl,Ez ⟨_,rfl,rfl,_,rfl,Ez ⟨_,rfl,rfl,_,rfl,Ez (Bk (⟨_,rfl,rfl,_,rfl,HR rfl ?_⟩))⟩⟩⟩⟩
  have WB:=Sn.mono LZ
  obtain⟨⟨⟨bl,a6,_,_,_,_,_,_,_,_,a0,_,_,_,_,a4,_⟩,_⟩,_⟩:=id WB.o
  refine⟨_,rfl,_,rfl,x,bl,a6,rfl,a0,a4 _ (by decide),x,us,_,rk,_,ls,ab,rfl,WB,λL8 H8 ZA s8 rp=>?_⟩
  have vn:=F.same s8
  have ac:(nV ab).length=ab.length:=af ..
  have bn:=U.o.st
  refine⟨L8,_,rfl,kL (.inl rp),_,_,rfl,rfl,p,_,rfl,vn.sr,(by rw[ac];omega),(by rw[ac];omega),λr2 M pr S lh=>⟨by show 2<=sizeLine;decide,λt u=>?_⟩⟩
  rw[ac] at pr
  exact fin (.con (.shoe (.int (r2:Nat)))) M (vn.draw S lh) (λL=>.int _) ⟨r2,rfl,by omega⟩ t u
 ·refine⟨_,rfl,rfl,_,rfl,Ez ⟨_,rfl,rfl,_,rfl,Ez ⟨_,rfl,rfl,_,rfl,Ez ⟨_,rfl,rfl,_,rfl,Ez (Bk (⟨_,rfl,rfl,_,rfl,Ez ⟨_,rfl,rfl,_,rfl,HR rfl ⟨_,rfl,p,3,rfl,F.sr,by decide,by decide,λr2 H7 pr f7 PH=>?_⟩⟩⟩))⟩⟩⟩⟩
  have tf:=F.draw f7 PH
  refine⟨_,_,rfl,rfl,_,rfl,C_ (λg=>?_) (λg=>?_)⟩
  ·have Sz:H7 Tb=some (.tup (bV b)):=by rw[f7 Tb (λe=>by rw[e] at tj;obtain⟨l',mm⟩:=F.sr.some;rw[mm] at tj;cases tj)];exact tj
   refine⟨_,rfl,p,3,rfl,tf.sr,by decide,by decide,λr3 H8 X1 f8 tw=>?_⟩
   have vn:=tf.draw f8 tw
   have X:H8 Tb=some (.tup (bV b)):=by rw[f8 Tb (λe=>by rw[e] at tj;obtain⟨l',mm⟩:=F.sr.some;rw[mm] at tj;cases tj)];exact Sz
   refine⟨_,rfl,Tb,_,_,_,rfl,rfl,kL X,Ah (j:=0) rfl,by show 2<=sizeLine;decide,λP9 wE=>?_⟩
   obtain⟨H9,O,R,e9⟩:=Em (o:=HO.lst [V.str b.1,V.non]) wE
   rw[O]
   have J:=vn.same R
   have n9:P9 ≠ p:=vn.ne wE
   refine⟨_,rfl,p,3,rfl,J.sr,by decide,by decide,λr4 M bv S lh=>?_⟩
   have nL:=J.draw S lh
   have a8:M P9=some (.lst [V.str b.1,V.non]):=by rw[S P9 n9];exact e9
   obtain⟨v,hv,Zs⟩:∃ v,Ua [V.str b.1,V.non] (((r4:Nat):Int) - 1)=some v/\(v=.non \/ v=.str b.1):=by
    obtain rfl | rfl | rfl:r4=0 \/ r4=1 \/ r4=2:=by omega
    ·exact⟨_,rfl,.inl rfl⟩
    ·exact⟨_,rfl,.inr rfl⟩
    ·exact⟨_,rfl,.inl rfl⟩
   refine⟨_,_,rfl,rfl,P9,_,_,_,rfl,rfl,kL a8,hv,by show 3<=sizeLine;decide,λt u=>?_⟩
   have YO:=bb (f:=λx:Str × Nat=>x.1) (ai hb)
   refine fin (.con (.storeB (.int (r3:Nat)) v)) M nL (λL=>⟨.int _,?_⟩) ⟨⟨r3,rfl,by omega⟩,Zs.imp id λe=>⟨b.1,e,YO⟩⟩ t u
   rcases Zs with rfl | rfl
   ·exact .non
   ·exact .str (Ll _ YO).tx
  ·refine⟨_,rfl,rfl,_,rfl,HR rfl (Dd ?_)⟩
   refine⟨_,rfl,_,rfl,p,3,rfl,tf.sr,by decide,by decide,λr3 H8 X1 f8 tw=>⟨by show 2<=sizeLine;decide,λt u=>?_⟩⟩
   exact fin (.con (.store (.int (r3:Nat)))) H8 (tf.draw f8 tw) (λL=>.int _) ⟨r3,rfl,by omega⟩ t u
 ·refine⟨_,rfl,rfl,_,rfl,Ez ⟨_,rfl,rfl,_,rfl,Ez ⟨_,rfl,rfl,_,rfl,Ez ⟨_,rfl,rfl,_,rfl,Ez (Bk (⟨_,rfl,rfl,_,rfl,Ez ⟨_,rfl,rfl,_,rfl,Ez (Bk (⟨_,rfl,rfl,_,rfl,Ez ⟨_,rfl,rfl,_,rfl,HR rfl ?_⟩⟩))⟩⟩))⟩⟩⟩⟩
  refine⟨_,rfl,_,rfl,p,3,rfl,F.sr,by decide,by decide,λr3 H8 X1 f8 tw=>⟨by show 2<=sizeLine;decide,λt u=>?_⟩⟩
  exact fin (.con (.press (.int (r3:Nat)))) H8 (F.draw f8 tw) (λL=>.int _) ⟨r3,rfl,by omega⟩ t u
 ·refine⟨_,rfl,rfl,_,rfl,Ez ⟨_,rfl,rfl,_,rfl,Ez ⟨_,rfl,rfl,_,rfl,Ez ⟨_,rfl,rfl,_,rfl,Ez (Bk (⟨_,rfl,rfl,_,rfl,Ez ⟨_,rfl,rfl,_,rfl,Ez (Bk (⟨_,rfl,rfl,_,rfl,Ez ⟨_,rfl,rfl,_,rfl,Ez ⟨by show 1<=sizeLine;decide,λt u=>?_⟩⟩⟩))⟩⟩))⟩⟩⟩⟩
  exact fin (.con .cancel) H6 F (λL=>trivial) trivial t u
theorem Vc {bs:List (Str × Nat)} {v u:V} {k a:Nat} (h:Fe bs v u k) (g:Fe bs v u a):k=a:=by
 obtain⟨j,n,b,rfl,rfl,q,d,s,rfl⟩:=h
 obtain⟨r,p,o,f,e,l,c,m,rfl⟩:=g
 have i:=V.str.inj f
 rw[<-i,d] at c
 subst c
 have:=V.int.inj e
 omega
theorem T4 {J D M L I O:Addr} {bs:List (Str × Nat)} {s:Cs} {c:Nat->Nat} {d:Ed} (h:PX bs ks n c d) (g:Zb J D M L I O bs ks n s c d a):a=D:=by
 have y:∀ {v u k},Fe bs v u k->Ge (bs.map (·.1)) v=.non->False:=λ{v u k} h g=>by
  obtain⟨j,n,b,rfl,rfl,x,C,H,rfl⟩:=h
  exact RV g rfl (bb (ai x))
 have B:∀ {v u k},Fe bs v u k->(∃ (j:Nat) (b:Str × Nat),v=.str b.1/\bs[j]? = some b/\(bs.map (·.1)).idxOf b.1=j/\Zd b.2 u=false)->False:=λ{v u k} h g=>by
  obtain⟨j,n,b,rfl,rfl,x,C,H,rfl⟩:=h
  obtain⟨R,P,G,w,E,r⟩:=g
  have N:=V.str.inj G
  rw[<-N,C] at E
  subst E
  obtain rfl:=Option.some.inj (x.symm.trans w)
  have z:(decide (0<=(n:Int)) && decide ((n:Int)<((b.2:Nat):Int)))=false:=r
  rw[decide_eq_true (by omega),decide_eq_true (by omega)] at z
  cases z
 cases d with
 | hold v u =>
  obtain⟨k,m⟩:=h
  rcases g with⟨_,g⟩ | ⟨_,g⟩
  ·exact (y m g).elim
  ·exact (B m g).elim
 | leave v u =>
  obtain⟨k,m,A⟩:=h
  rcases g with⟨_,g⟩ | ⟨_,g⟩ | ⟨_,Q,K,e⟩
  ·exact (y m g).elim
  ·exact (B m g).elim
  ·rw[Vc m K,e] at A
   cases A
 | con d =>
  obtain⟨i,f,rfl⟩:=g
  cases d with
  | pull v =>
   obtain⟨t,rfl,o⟩:=h
   rw[Pk o] at f
   cases (congrArg Prod.snd f)
  | push v =>
   obtain⟨t,rfl,o⟩:=h
   rw[PJ o] at f
   cases (congrArg Prod.snd f)
  | store v =>
   obtain⟨p,rfl,l⟩:=h
   rw[M_ l] at f
   cases (congrArg Prod.snd f)
  | storeB v b =>
   obtain⟨⟨p,rfl,l⟩,rfl | ⟨t,rfl,o⟩⟩:=h
   ·rw[Kq l] at f
    cases (congrArg Prod.snd f)
   ·rw[Lq l o] at f
    cases (congrArg Prod.snd f)
  | press v =>
   obtain⟨p,rfl,l⟩:=h
   cases hm:s.m p with
   | none =>
    rw[Le λq e _=>by rw[show q=p by have:=V.int.inj e;omega];exact hm] at f
    have:=congrArg Prod.snd f
    cases this
    rfl
   | some S =>
    rw[NP l hm] at f
    cases (congrArg Prod.snd f)
  | shoe v =>
   obtain⟨i,rfl,F⟩:=h
   rw[PB F] at f
   cases (congrArg Prod.snd f)
  | cancel=>cases (congrArg Prod.snd f)
def zg (cK cP cB cS cH cY:Addr) (bs:List (Str × Nat)) (ks:List R) (n:Nat) (s:Cs) (c:Nat->Nat) (d:Ed) (s':Cs) (c':Nat->Nat):Prop:=Tg bs ks n s c d s' c' \/ (Zb cK cP cB cS cH cY bs ks n s c d cP/\s'=s/\c'=c)
theorem Pn (p:Nat):LQ p p=0:=by
 unfold LQ
 rw[Nat.and_self,jv]
inductive du (C Cy Cp pE pA cK cP cB cS cH cY:Addr) (vs:List V) (H:Hp) (Q:VK) (b9:XK):Prop
 | mk (Ho:Hp) (z x y hd:Addr) (us:List V) (rk:List (Str × Nat × Int)) (ls:List (List Ln:_)) (sts:List Nat) (s:Cs) (sd:Addr) (kvs:List (Key × V)) (c:Nat->Nat) (n:Nat) (cn:Nat->Str) (sz:List Nat) (kbs:List Kb) (t:Addr) (d:Ed):vs=[.ref z,.ref t]->H t=some (.tup d.v)->(∀ H2,d.odd H2)->PX (Bj cn sz) (By cn kbs) sts.length c d->JF C Cy Cp pE pA Ho H z x y hd us rk ls sts s sd kvs c n cn sz kbs->kvs.length<=400->n<900->(∀ s' d0 c' (p1 p2:Nat) (Ta D1 D2:Addr) Hm H',zg cK cP cB cS cH cY (Bj cn sz) (By cn kbs) sts.length s c d s' c'->Fp H Hm y sd hd->JF C Cy Cp pE pA Ho Hm z x y hd us rk ls sts s' sd d0 c' (n+1) cn sz kbs->d0.length<=kvs.length+1->FP cn sz rk kbs ls (nZ s sts) (Wd.mk (Dw kvs)) p1->FP cn sz rk kbs ls (nZ s' sts) (Wd.mk (Dw d0)) p2->An Hm H'->Hm Ta=none->Hm D1=none->Hm D2=none->D1 ≠ D2->H' Ta=some (.tup [.ref D1,.ref D2])->H' D1=some (.lst (nV (Wd.mem (LQ p2 p1))))->H' D2=some (.lst (nV (Wd.mem (LQ p1 p2))))->Q (.ref Ta) H')->du C Cy Cp pE pA cK cP cB cS cH cY vs H Q b9
theorem Zu:Aq ["_law_player","_law_deed_here","_law_told_here"] AH (Ac xV):=Bf
include N T in
theorem lW:Ao P w K mg base Bb 10 aD.fTd aD.dTd AH (du C Cy Cp pE pA cK cP cB cS cH cY):=by
 have G:Ao P w K mg base (Gh P w) 9 aD.fQd aD.dQd xk (gB C Cy Cp pE pA cK cP cB cS cH cY):=lO N T
 refine N.FTd.1.ok Zu (λvs H Q E h=>?_) (λi4 A J s0 H vs Q E hr h=>?_)
 ·obtain⟨M,z,x,y,R,W,rk,Y,k,s,Z,g,c,n,X,sz,r,t,d,rfl,_⟩:=h
  rfl
 ·obtain⟨M,z,x,y,R,W,rk,Y,k,s,Z,g,c,n,X,sz,r,t,d,rfl,ht,hd,t4,e,hl,BM,q⟩:=h
  obtain⟨dz,fs,h1,l1,l2,l3,lm⟩:=id e.p.p.Nm.ex
  refine⟨_,(Af (Bh (i:=2) Zu.nd rfl (Or.inl rfl) F_)
   (Af (ZG (λER=>(Xu (Zh (i:=2) Zu.nd rfl (Or.inl rfl) (YQ (pv 0) T.clP N.FQd.2.2 G (ad hr) N.FQd.2.1 .nil (Aa (pv 1) Ab) rfl)))) rfl T.x4.mP T.x4.rP.ex (λx=>(Ag (Bh (i:=2) Zu.nd rfl (Or.inl rfl) (Cq (Aa (Dm Ab) (Aa (Dm Ab) Ab)))))))
   (Ag (Ax (pv 2))))),?_⟩
  refine⟨_,rfl,z,dz,fs,rfl,h1,lm _ (by decide),_,rfl,M,z,x,y,R,W,rk,Y,k,s,Z,g,c,n,X,sz,r,t,d,rfl,ht,hd H,e,hl,BM,?_,?_⟩
  ·intro p d0 c' u p2 T7 b v Hm m st f ps l D S2 a0 a1 a2 a3 a4 a5 a6 a7
   exact⟨_,rfl,q p d0 c' u p2 T7 b v Hm m (.inl st) f ps l D S2 a0 a1 a2 a3 a4 a5 a6 a7⟩
  ·intro a u m U D p
   obtain rfl:=T4 t4 U
   refine⟨_,rfl,T.xY.mPP,CK (by simp),λb S=>?_⟩
   have j:=BP (o:=HO.lst []) S
   have L:upd m b (HO.lst []) b=some (.lst []):=Al
   generalize upd m b (HO.lst [])=H2 at j L |-
   refine⟨CK (by simp),λv I=>?_⟩
   obtain⟨H3,i7,B,e2⟩:=Em (o:=HO.lst []) I
   rw[i7]
   refine⟨by show 2<=sizeLine;decide,λTa O=>?_⟩
   have F:=BP (o:=HO.tup [V.ref b,V.ref v]) O
   have s1:=p.trans j
   have s2:=s1.trans B
   have s3:=s2.trans F
   refine⟨_,rfl,q s g c u u Ta b v m _ (.inr ⟨U,rfl,rfl⟩) (Fp.of p) ⟨(e.mono p).p.le (by omega),e.o,e.bd,e.ky,e.ks⟩ (by omega) D D (j.trans (B.trans F)) ((j.trans B).free O) S (j.free I) (Aj L I) Al ?_ ?_⟩
   ·rw[Pn]
    exact F _ _ (B _ _ L)
   ·rw[Pn]
    exact F _ _ e2
theorem Mh:∀ l:List Nat,Xx (nV l) (nV l)=true
 | []=>rfl
 | a::l=>by
  show (Ql (.int (a:Nat)) (.int (a:Nat)) && Xx (nV l) (nV l))=true
  rw[Mh l,Bool.and_true]
  show decide (((a:Nat):Int)=((a:Nat):Int))=true
  exact decide_eq_true rfl
theorem Rh (l:List Nat):(nV l).all GK=true:=fo.mpr λv a=>by
 obtain⟨n,_,rfl⟩:=ay.mp a
 rfl
inductive cR (K:W.Frag) (vs:List V) (H:Hp) (Q:VK) (b9:XK):Prop
 | mk (D1 D2:Addr) (l:List Nat):vs=[.ref D1,.ref D2]->H D1=some (.lst (nV l))->H D2=some (.lst (nV l))->l.length<=1200->(∀ H',An H H'->Q (.bl true) H')->cR K vs H Q b9
theorem yh:Aq yB yB (Ac rG):=Bf
include N T in
theorem oN:Ao P w K mg base Bb 2 aD.fAr aD.dAr yB (cR K):=by
 refine N.FAr.1.DQ yh λH z Q E o h=>?_
 obtain⟨c,j,l,rfl,m,g,t,q⟩:=h
 have r:=CN o
 refine⟨_,(Af (Bl (PW.pt (D_ (CG (CV (BJ CQ rfl T.isin aI (Aa (pv 0) (Aa (DX (v:=.ty "list") rfl T.list dS rfl) Ab))))) (Do (BR (Qy (kA r)) (pv 0) (pv 1) (BX _))))) (Ag (Ax HD)) Ba)
  (Ag (Ax (DW Cj (BJ BL rfl T.len aS (Aa (Br rfl (Be (osc:=Ac rG) (N:=yB) rfl rfl (by decide)) (Bt (pv 0)) (λ_ _ _ _=>(GC (CV (zC (cL N T) o rfl N.FLw (Aa (pv 0) Ab))))) (λ_ _ _ _=>(pv 0))) Ab)) (BJ BL rfl T.len aS (Aa (pv 1) Ab)) (BX _))))),?_⟩
 have a:Dc K H c (nV l):=.inl (.inl m)
 refine⟨_,rfl,_,"list",_,_,rfl,.lst m,Wk,_,rfl,Bk ?_⟩
 refine⟨_,rfl,_,rfl,c,j,_,_,rfl,rfl,a,kL g,Rh l,Rh l,_,rfl,?_⟩
 rw[Mh]
 refine Bk ?_
 have p:(nV l).length=l.length:=af ..
 refine⟨_,rfl,c,rfl,⟨_,a⟩,Cz (K:=K) (xs:=nV l) (λ_=>true) id a (by rw[p];exact ar t (by decide)) (λy d b s R k=>?_) (λy d _ b s R k=>⟨_,rfl,k b (An.refl b)⟩) (λx u A n f=>?_)⟩
 ·obtain⟨i,_,rfl⟩:=ay.mp d
  exact⟨_,rfl,_,rfl,_,rfl,k b (An.refl b)⟩
 rw[ic,ba.mpr (λ_ _=>rfl)] at f
 refine⟨x,_,rfl,kL (.inl f),_,rfl,j,_,rfl,kL (.inl (n _ _ g)),rfl,?_⟩
 have e:decide (V.int (((nV l).length:Nat):Int)=V.int (((nV l).length:Nat):Int))=true:=decide_eq_true rfl
 rw[e]
 exact q u n
theorem WP (a b:Nat):Wd.mem (LQ a b)=(Wd.mem a).filter λk=>!b.testBit k:=by
 have c:((Wd.mem a).filter λk=>!b.testBit k).Pairwise (· < ·):=List.Pairwise.filter _ (Wd.Kv a)
 rw[<-Wd.e_ c]
 refine congrArg Wd.mem (fN λi=>?_)
 show (a - (a &&& b)).testBit i=_
 rw[Gn.Yz,Wd.Hr,eI,decide_eq_true_eq,bg,Wd.mem_iff,ff]
inductive eN (C Cy Cp pE pA cK cP cB cS cH cY:Addr) (vs:List V) (H:Hp) (Q:VK) (b9:XK):Prop
 | mk (Ho:Hp) (z x y hd:Addr) (us:List V) (rk:List (Str × Nat × Int)) (ls:List (List Ln:_)) (sts:List Nat) (s:Cs) (sd:Addr) (kvs:List (Key × V)) (c:Nat->Nat) (n:Nat) (cn:Nat->Str) (sz:List Nat) (kbs:List Kb) (t:Addr) (d:Ed):vs=[.ref x,.ref z,.ref t]->H t=some (.tup d.v)->(∀ H2,d.odd H2)->PX (Bj cn sz) (By cn kbs) sts.length c d->JF C Cy Cp pE pA Ho H z x y hd us rk ls sts s sd kvs c n cn sz kbs->kvs.length<=400->n<900->(∀ s' d0 c' H',zg cK cP cB cS cH cY (Bj cn sz) (By cn kbs) sts.length s c d s' c'->Fp H H' y sd hd->JF C Cy Cp pE pA Ho H' z x y hd us rk ls sts s' sd d0 c' (n+1) cn sz kbs->d0.length<=kvs.length+1->Q (.bl true) H')->eN C Cy Cp pE pA cK cP cB cS cH cY vs H Q b9
theorem U_:Aq tJ wS (Ac lC):=Bf
include N T in
theorem qm:Ao P w K mg base Bb 11 aD.fLp aD.dLp wS (eN C Cy Cp pE pA cK cP cB cS cH cY):=by
 refine N.FLp.1.DQ U_ λH vs Q E f h=>?_
 obtain⟨I,z,x,y,F,G,rk,B,g,s,D,ap,c,n,cn,sz,p,t,d,rfl,ht,hd,t4,Z,hl,BM,q⟩:=h
 have hu:=CN f
 refine⟨_,(Af (Bh (i:=3) U_.nd rfl (Or.inr rfl) (Bg (pv 1) T.clP N.FQs.2.2 (YW N T) (ad f) N.FQs.2.1 .nil Am))
  (Af (Bh (i:=4) U_.nd rfl (Or.inl rfl) (zC (lW N T) f rfl N.FTd (Aa (pv 1) (Aa (pv 2) Ab))))
  (Af (Bh (i:=5) U_.nd rfl (Or.inr rfl) (Bg (pv 1) T.clP N.FQs.2.2 (YW N T) (ad f) N.FQs.2.1 .nil Am))
  (Af (Bl (PW.pt (D_ (CG (CV (zC (cL N T) f rfl N.FLw (Aa (pv 5) Ab)))) (Do (BR Hz (pv 5) (zC (bY N T) f rfl N.FSo (Aa (pv 0) (Aa (Bg (pv 1) T.clP N.FQk.2.2 (V2 N T) (ad f) N.FQk.2.1 .nil Am) (Aa (Bg (pv 1) T.clP N.FQe.2.2 (Tr N T) (ad f) N.FQe.2.1 .nil Am) Ab)))) (BX _))))) (Ag (Ax HD)) Ba)
  (Af (Bl (PW.pt (D_ (CG (CV (BJ CQ rfl T.isin aI (Aa (pv 4) (Aa (DX (v:=.ty "tuple") rfl T.tuple gT rfl) Ab))))) (Do (BR Hz (BJ BL rfl T.len aS (Aa (pv 4) Ab)) Ae (BX _))))) (Ag (Ax HD)) Ba)
  (Af (N6 (i:=6) U_.nd rfl rfl rfl (Be (osc:=Ac lC) (N:=tJ) rfl rfl (by decide)) (Bt (zC (QB N T) f rfl N.FMe (Aa (pv 5) Ab))) (λ_ _ _ _=>(GC (CG (CV (zC (Sh N T) f rfl N.FHa (Aa (pv 4) (Aa (pv 0) Ab))))))) (λ_ _ _ _=>(pv 0)))
  (Af (N6 (i:=7) U_.nd rfl rfl rfl (Be (osc:=Ac lC) (N:=tJ) rfl rfl (by decide)) (Bt (zC (QB N T) f rfl N.FMe (Aa (pv 3) Ab))) (λ_ _ _ _=>(GC (CG (CV (zC (Sh N T) f rfl N.FHa (Aa (pv 6) (Aa (pv 0) Ab))))))) (λ_ _ _ _=>(pv 0)))
  (Af (Bl (PW.pt (D_ (CG (CV (zC (oN N T) f rfl N.FAr (Aa (Az (Av (K:=K) rfl) (pv 4) Ae (λ_ _=>rfl)) (Aa (pv 6) Ab))))) (Do (CG (CV (zC (oN N T) f rfl N.FAr (Aa (Az (Av (K:=K) rfl) (pv 4) Ae (λ_ _=>rfl)) (Aa (pv 7) Ab)))))))) (Ag (Ax HD)) Ba)
  (Af (Bx (Gj ck cr cw DK (Az (Av (K:=K) rfl) (pv 4) Ae (λ_ _=>rfl)) (Aa Ae Ab)))
  (Af (Bx (Gj ck cr cw DK (Az (Av (K:=K) rfl) (pv 4) Ae (λ_ _=>rfl)) (Aa Ae Ab)))
  (Ag (Ax (Di (DW Cj (Bg (pv 1) T.clP N.FQs.2.2 (YW N T) (ad f) N.FQs.2.1 .nil Am) (pv 5) (BX _)) (Di (zC (cL N T) f rfl N.FLw (Aa (Bg (pv 1) T.clP N.FQk.2.2 (V2 N T) (ad f) N.FQk.2.1 .nil Am) Ab)) (Df (zC (cL N T) f rfl N.FLw (Aa (Bg (pv 1) T.clP N.FQe.2.2 (Tr N T) (ad f) N.FQe.2.1 .nil Am) Ab))))))))))))))))),?_⟩
 obtain⟨dz,fs,h1,l1,l2,l3,lm⟩:=id Z.p.p.Nm.ex
 refine⟨_,rfl,z,dz,fs,rfl,h1,lm _ (by decide),I,z,x,y,F,G,rk,B,g,s.dr,s.sh,D,ap,c,cn,sz,p,rfl,Z.p.p,Z.o,λb H1 s1 S1=>?_⟩
 have xb:=Z.mono s1
 refine⟨_,rfl,_,rfl,I,z,x,y,F,G,rk,B,g,s,D,ap,c,n,cn,sz,p,t,d,rfl,s1 _ _ ht,hd,t4,xb,hl,BM,λl M U a4 a S O D2 Hm H2 go fm UB aP aB S2 US li vi nt nD eT e1 e2=>?_⟩
 obtain rfl:=Jr S1 aB
 have aQ:Fp H Hm y D F:=(Fp.of s1).trans fm
 have b1:=Z.bd _ _ _ S1
 have b2:=Z.bd _ _ _ S2
 have ma:=UB.mono US
 obtain⟨DJ,W,xB,_,_,_,rL⟩:=id ma.p.p.Nm.ex
 refine⟨_,rfl,z,DJ,W,rfl,xB,rL _ (by decide),I,z,x,y,F,G,rk,B,g,l.dr,l.sh,D,M,U,cn,sz,p,rfl,ma.p.p,ma.o,λa1 H3 s3 S3=>?_⟩
 obtain rfl:=Jr S2 S3
 have Y:=ma.mono s3
 refine⟨_,rfl,_,rfl,_,rfl,Bk ?_⟩
 refine⟨_,rfl,_,rfl,_,rfl,z,DJ,W,rfl,s3 _ _ xB,rL _ (by decide),I,z,x,y,F,G,_,rk,_,B,g,l.dr,l.sh,D,M,U,rfl,Y.p.p,Y.o.nm,Y.o.nk,Y.o.sh,Y.o.st,λH4 s4=>?_⟩
 have OO:=Y.mono s4
 have X2:=s3.trans s4
 refine⟨_,rfl,z,DJ,W,rfl,X2 _ _ xB,rL _ (by decide),I,z,x,y,F,G,_,rk,_,B,g,l.dr,l.sh,D,M,U,rfl,OO.p.p,OO.o.kl,λH5 s5=>?_⟩
 have L:=OO.mono s5
 refine⟨x,cn,sz,rk,p,B,_,_,rfl,(L.p.p.con.o.mono L.p.p.con.s).o,L.o.kb,L.o.lg,Wd.Rm L.p.p.h.bound,(λi hi=>L.o.kc i ((L.p.p.h.mem i).mp (by rw[Wd.Hr] at hi;exact of_decide_eq_true hi))),λcl m H6 s6 aK hm=>?_⟩
 have e6:aa sz rk p B cl m=a:=Jr ⟨cl,m,aK,hm,rfl⟩ S2
 rw[e6]
 refine⟨rfl,_,rfl,?_⟩
 rw[decide_eq_true (rfl:V.int ((a:Nat):Int)=V.int ((a:Nat):Int))]
 refine Bk ?_
 have ZO:=X2.trans (s5.trans s6)
 have UQ:=ZO _ _ eT
 refine⟨_,rfl,_,"tuple",_,_,rfl,.tup UQ,Hk,_,rfl,Bk ?_⟩
 refine⟨_,rfl,S,_,rfl,.inr (.inl (.inl UQ)),rfl,_,rfl,Bk ?_⟩
 refine⟨_,rfl,a,rfl,b2,λP7 H7 a3 s7 LG=>?_⟩
 have an:Dc K H7 P7 (nV (Wd.mem a)):=.inl (.inl LG)
 refine⟨P7,rfl,⟨_,an⟩,Cz (K:=K) (xs:=nV (Wd.mem a)) (λv=>match v with | .int i=>!b.testBit i.toNat | _=>true) id an (by rw[af];exact ar (Hu b2) (by decide)) (λy hy A hs R k=>?_) (λy hy _ A hs R k=>⟨_,rfl,k A (An.refl A)⟩) (λB7 H8 WJ s8 rp=>?_)⟩
 ·obtain⟨i,_,rfl⟩:=ay.mp hy
  refine⟨_,rfl,_,rfl,b,_,rfl,_,rfl,?_⟩
  have e:(decide (0<=((i:Nat):Int)) && b.testBit ((i:Nat):Int).toNat)=b.testBit ((i:Nat):Int).toNat:=by rw[decide_eq_true (fE i),fS]
  rw[e]
  exact k A (An.refl A)
 rw[ic] at rp
 have a0:((nV (Wd.mem a)).filter λv=>match v with | .int i=>!b.testBit i.toNat | _=>true)=nV (Wd.mem (LQ a b)):=by
  rw[WP]
  unfold nV
  rw[eR]
  rfl
 rw[a0] at rp
 refine⟨_,rfl,b,rfl,b1,λP9 H9 wE s9 ya=>?_⟩
 have as:Dc K H9 P9 (nV (Wd.mem b)):=.inl (.inl ya)
 refine⟨P9,rfl,⟨_,as⟩,Cz (K:=K) (xs:=nV (Wd.mem b)) (λv=>match v with | .int i=>!a.testBit i.toNat | _=>true) id as (by rw[af];exact ar (Hu b1) (by decide)) (λy hy A hs R k=>?_) (λy hy _ A hs R k=>⟨_,rfl,k A (An.refl A)⟩) (λB9 mx a2 ab u=>?_)⟩
 ·obtain⟨i,_,rfl⟩:=ay.mp hy
  refine⟨_,rfl,_,rfl,a,_,rfl,_,rfl,?_⟩
  have e:(decide (0<=((i:Nat):Int)) && a.testBit ((i:Nat):Int).toNat)=a.testBit ((i:Nat):Int).toNat:=by rw[decide_eq_true (fE i),fS]
  rw[e]
  exact k A (An.refl A)
 rw[ic] at u
 have aC:((nV (Wd.mem b)).filter λv=>match v with | .int i=>!a.testBit i.toNat | _=>true)=nV (Wd.mem (LQ b a)):=by
  rw[WP]
  unfold nV
  rw[eR]
  rfl
 rw[aC] at u
 have wm:=ZO.trans (s7.trans (s8.trans (s9.trans ab)))
 have IN:=wm _ _ eT
 have M0:=wm _ _ e1
 have UN:=wm _ _ e2
 have WJ:=ab _ _ (s9 _ _ rp)
 have ac:(Wd.mem (LQ a b)).length<=1200:=Hu (ar (Nu _ _) b2)
 have aw:(Wd.mem (LQ b a)).length<=1200:=Hu (ar (Nu _ _) b1)
 refine⟨_,rfl,S,_,_,_,rfl,rfl,kL IN,Ah (j:=0) rfl,_,rfl,O,B7,_,rfl,M0,WJ,ac,λEG DH=>⟨_,rfl,Bk ?_⟩⟩
 refine⟨_,rfl,S,_,_,_,rfl,rfl,kL (DH _ _ IN),Ah (j:=1) rfl,_,rfl,D2,B9,_,rfl,DH _ _ UN,DH _ _ u,aw,λp9 aZ=>⟨_,rfl,Bk ?_⟩⟩
 have wb:=wm.trans (DH.trans aZ)
 have wc:=wb _ _ eT
 have AM:=wb _ _ e1
 have RY:=wb _ _ e2
 have aM:S ≠ O:=λe=>by rw[e,AM] at wc;cases wc
 refine⟨_,rfl,S,_,_,_,rfl,rfl,kL wc,Ah (j:=0) rfl,.inl ⟨rfl,_,kL AM⟩,O,_,_,rfl,rfl,AM,(by rw[af];exact ar ac (by decide)),?_⟩
 have O0:=US.trans wb
 have KA:=Gr (o:=HO.lst (nV (Wd.mem (LQ a b))++[V.int 5])) O0 vi
 have J:upd p9 O (HO.lst (nV (Wd.mem (LQ a b))++[V.int 5])) S=some (.tup [.ref O,.ref D2]):=by rw[Aw aM];exact wc
 have r:upd p9 O (HO.lst (nV (Wd.mem (LQ a b))++[V.int 5])) D2=some (.lst (nV (Wd.mem (LQ b a)))):=by rw[Aw (Ne.symm nD)];exact RY
 generalize upd p9 O (HO.lst (nV (Wd.mem (LQ a b))++[V.int 5]))=A3 at KA J r |-
 refine⟨_,rfl,S,_,_,_,rfl,rfl,kL J,Ah (j:=1) rfl,.inl ⟨rfl,_,kL r⟩,D2,_,_,rfl,rfl,r,(by rw[af];exact ar aw (by decide)),?_⟩
 have AS:=Gr (o:=HO.lst (nV (Wd.mem (LQ b a))++[V.int 5])) KA nt
 generalize upd A3 D2 (HO.lst (nV (Wd.mem (LQ b a))++[V.int 5]))=LM at AS |-
 have oS:=UB.mono AS
 obtain⟨Sk,OQ,PY,_,_,_,Pd⟩:=id oS.p.p.Nm.ex
 refine⟨_,rfl,z,Sk,OQ,rfl,PY,Pd _ (by decide),I,z,x,y,F,G,rk,B,g,l.dr,l.sh,D,M,U,cn,sz,p,rfl,oS.p.p,oS.o,λp3 XV tI S5=>?_⟩
 obtain rfl:=Jr S2 S5
 refine⟨_,rfl,rfl,_,rfl,HR rfl ?_⟩
 have X:=oS.mono tI
 refine⟨_,rfl,z,Sk,OQ,rfl,tI _ _ PY,Pd _ (by decide),I,z,x,y,F,G,_,rk,_,B,g,l.dr,l.sh,D,M,U,rfl,X.p.p,X.o.nm,X.o.nk,X.o.sh,X.o.st,λEC vT=>?_⟩
 have vw:=X.mono vT
 refine⟨_,rfl,_,rfl,Dd ?_⟩
 refine⟨_,rfl,z,Sk,OQ,rfl,vT _ _ (tI _ _ PY),Pd _ (by decide),I,z,x,y,F,G,_,rk,_,B,g,l.dr,l.sh,D,M,U,rfl,vw.p.p,vw.o.kl,λFD aN=>?_⟩
 have Kx:=AS.trans (tI.trans (vT.trans aN))
 exact⟨_,rfl,q l M U FD go (aQ.trans (Fp.of Kx)) (UB.mono Kx) aP⟩
inductive Ov (K:W.Frag) (vs:List V) (H:Hp) (Q:VK) (b9:XK):Prop
 | mk (a:Addr) (ns:List Int):vs=[.ref a]->Dc K H a (ns.map V.int)->ns.length<=63->(∀ H',Q (.bl true) H')->Ov K vs H Q b9
def c9 (bs:List (Str × Nat)) (nms:List Str):Nat->Str:=λj=>if j<30 then nB bs j else nms.getD (j - 30) ""
theorem bs9 {bs:List (Str × Nat)} (nms:List Str) (h:bs.length<=3):Bj (c9 bs nms) (bs.map (·.2))=bs:=by
 refine ft λi=>?_
 by_cases a:i<bs.length
 ·have b:(bs.map (·.2))[i]? = some (zB bs i):=by rw[am,O4 a];rfl
  rw[Fx b,O4 a]
  show some (c9 bs nms i,zB bs i)=some (nB bs i,zB bs i)
  unfold c9
  rw[if_pos (by omega)]
 ·rw[dE (by rw[Lx,af];omega),dE (by omega)]
theorem ks9 {bs:List (Str × Nat)} (h:bs.length<=3) (l:nms.length=kbs.length) (j:∀ z∈kbs,z.ok bs.length):By (c9 bs nms) kbs=KZ bs nms kbs:=by
 refine ft λi=>?_
 unfold KZ
 by_cases f:i<kbs.length
 ·have e:=ae f
  have c:nms[i]? = some nms[i]:=ae (by omega)
  rw[Fq e,gp,e,c]
  have g:c9 bs nms (30+i)=nms[i]:=by
   unfold c9
   rw[if_neg (by omega),iF,cc,c]
   rfl
  have d:∀ {b:Nat},b<bs.length->c9 bs nms b=nB bs b:=λ{b} k=>by
   unfold c9
   rw[if_pos (by omega)]
  have a:=j _ (et f)
  show some (Wu (c9 bs nms) i kbs[i])=some (kR (nB bs) nms[i] kbs[i])
  generalize kbs[i]=z at a
  cases z with
  | cp p q s =>
   show some (⟨"coupler",c9 bs nms (30+i),[.str (c9 bs nms p),.str (c9 bs nms q),.int s]⟩:R)=some ⟨"coupler",nms[i],[.str (nB bs p),.str (nB bs q),.int s]⟩
   rw[g,d a.1,d a.2.1]
  | pl wd p =>
   show some (⟨wd,c9 bs nms (30+i),[.str (c9 bs nms p)]⟩:R)=some ⟨wd,nms[i],[.str (nB bs p)]⟩
   rw[g,d a.1]
 ·rw[dE (by rw[QH];omega),dE (by rw[iA];omega)]
theorem Ju.org {k ld:Nat} {bs:List (Str × Nat)} {rk:List (Str × Nat × Int)} {sn:List Str} (h:Ju K aB aP aM c k ld m bs rk rows nms kbs ls sts sn) (n:1<=bs.length) (q:m<=150) (p:k<=12) (d:Paired (λ(r:R) v=>TupAt H r.v v) rows vs):Rows H (Ly H) vs/\vP K aB aP aM (Ly H) vs bs rk (KZ bs nms kbs)/\linesOf rk (vs.map (Ly H))=ls/\((vs.filter (pw (Ly H) "step")).map λv=>stN (KZ bs nms kbs) (Ly H v))=sts:=by
 have o:(KZ bs nms kbs).length=kbs.length:=by
  unfold KZ
  rw[iA,h.nl]
  exact Nat.min_self _
 refine h.bl.fin d n (by have:=h.bd.lb;omega) (λb f=>?_) (by have:=h.bd.lr;omega) (λr l=>?_) (by have:=h.nk;omega) h.bd.zY h.bd.zR ?_ (by have:=h.rl;omega)
 ·obtain⟨j,a⟩:=ee f
  exact (h.bd.b j b a).2.2
 ·obtain⟨j,a⟩:=ee l
  exact (h.bd.r j r a).2.2.1
 ·have e:(KZ bs nms kbs).map (·.nm)=nms:=by
   refine ft λi=>?_
   unfold KZ
   rw[am,gp]
   by_cases g:i<nms.length
   ·rw[ae g,ae (by have:=h.nl;omega:i<kbs.length)]
    exact congrArg some (Mu _ _ _)
   ·rw[dE (by omega:nms.length<=i)]
    rfl
  rw[e]
  exact h.nd
theorem o9 {sz:List Nat} {rk:List (Str × Nat × Int)} {cl:List Nat} {p:Nat} (d:fM rk ls) (h:(aa sz rk kbs ls cl n).testBit p=true):p<Yc rk:=by
 obtain⟨k,_,f⟩:=Q3.mp h
 have c:∀ a∈ls.getD k [],jU rk a:=λa b=>by
  rw[cc] at b
  cases e:ls[k]? with
  | none=>rw[e] at b;cases b
  | some l=>rw[e] at b;exact (d l (ai e)).2 a b
 obtain⟨a,g,i,_,_,_,_,m,o,j⟩:=(iQ c).mp f
 have:=Q6 (c a g).r
 omega
theorem oh {sz:List Nat} {rk:List (Str × Nat × Int)} {cl:List Nat} (b:fM rk ls) (h:Yc rk<=1164):aa sz rk kbs ls cl n<2 ^ 1200:=by
 refine ip _ λi c=>?_
 rw[<-fq]
 intro a
 have:=o9 b a
 omega
theorem kO {c:Nat->Str} {sz:List Nat} {rk:List (Str × Nat × Int)} {p D:Nat} (h:FP c sz rk kbs ls D n p) (d:D=0):p=0:=by
 obtain⟨b,m,e,_,rfl⟩:=h
 have:b=[]:=by
  cases b with
  | nil=>rfl
  | cons k l =>
   obtain⟨z,_,_,a⟩:=(e k).mp (ce ..)
   rw[d,Nat.zero_testBit] at a
   cases a
 rw[this]
 rfl
theorem Yr {bs:List (Str × Nat)} {rk:List (Str × Nat × Int)} (h:Od c bs rk):Yc rk<=1164:=by
 have b:∀ l:List (Str × Nat × Int),(∀ r∈l,r.2.1<=97)->(l.map (λr=>r.2.1)).sum<=97 * l.length:=λl=>by
  induction l with
  | nil=>intro _;exact ah _
  | cons r l f =>
   intro d
   have:=f λr a=>d r (bq _ a)
   have:=d r ce
   rw[dc,ko,bo]
   omega
 have:=b rk λr a=>by
  obtain⟨j,e⟩:=ee a
  exact (h.r j r e).2.2.1
 have:=h.lr
 unfold Yc
 omega
theorem W6 {bs:List (Str × Nat)} (h:nms.length=kbs.length):Ij (KZ bs nms kbs)=nms:=by
 refine ft λi=>?_
 unfold Ij KZ
 rw[am,gp]
 by_cases a:i<nms.length
 ·rw[ae a,ae (by omega:i<kbs.length)]
  exact congrArg some (Mu _ _ _)
 ·rw[dE (by omega:nms.length<=i)]
  rfl
theorem fH {bs:List (Str × Nat)} {v u:V} {k:Nat} (h:Fe bs v u k):k<(bs.map (·.2)).sum:=by
 obtain⟨j,n,b,_,_,c,_,d,rfl⟩:=h
 have e:=Zm c d
 have a:=(ag.mp e).1
 rw[Et] at a
 exact a
structure Zc (C:Addr) (H:Hp) (x:Addr) (us:List V) (rk:List (Str × Nat × Int)) (ls:List (List Ln)) (sts:List Nat) (cn:Nat->Str) (sz:List Nat) (kbs:List Kb):Prop where
 o:Ip C H x us (Bj cn sz) rk (By cn kbs) ls sts
 f:jA (Bj cn sz) (By cn kbs)
 kb:Ri sz.length kbs
 lg:fM rk ls
 st:sts.length<=2
 bd:∀ D n p,FP cn sz rk kbs ls D n p->p<2 ^ 1200
 z1:∀ k∈sz,1<=k
 l1:1<=sz.length
theorem Ju.og {k ld:Nat} {bs:List (Str × Nat)} {rk:List (Str × Nat × Int)} {sn:List Str} (h:Ju K aB aP aM c k ld m bs rk rows nms kbs ls sts sn) (v:1<=bs.length) (A:k<=12) {x:Addr} (w:Ip C H x us bs rk (KZ bs nms kbs) ls sts):∃ (cn:Nat->Str) (sz:List Nat),Zc C H x us rk ls sts cn sz kbs:=by
 have i:=h.bd.lb
 have o:=bs9 nms i
 have l:=ks9 i h.nl h.kb.ok
 refine⟨c9 bs nms,bs.map (·.2),?_,?_,by rw[af];exact h.kb,h.lg,h.st,?_,?_,by rw[af];exact v⟩
 ·rw[o,l]
  exact w
 ·rw[o,l]
  refine⟨λn d=>?_,h.bd.zY,λn d=>?_,?_,?_,λr u=>?_⟩
  ·obtain⟨b,f,rfl⟩:=ay.mp d
   obtain⟨j,e⟩:=ee f
   rw[(h.bd.b j b e).1]
   exact G9 _ _
  ·rw[W6 h.nl] at d
   obtain⟨j,_,rfl⟩:=h.nm n d
   exact G9 _ _
  ·rw[W6 h.nl]
   exact h.nd
  ·have:(KZ bs nms kbs).length=kbs.length:=by unfold KZ;rw[List.length_zipWith,h.nl];exact Nat.min_self _
   have:=h.nk
   omega
  ·obtain⟨t,_,z,g,rfl⟩:=NZ u
   have ok:=h.kb.ok z g
   cases z with
   | cp p q s =>
    have a:p<bs.length:=ok.1
    exact⟨_,ai (O4 a),_,rfl⟩
   | pl wd p =>
    have a:p<bs.length:=ok.1
    exact⟨_,ai (O4 a),_,rfl⟩
 ·intro D n p a
  obtain⟨y,m,_,_,rfl⟩:=a
  exact oh h.lg (Yr h.bd)
 ·intro z g
  obtain⟨b,f,rfl⟩:=ay.mp g
  obtain⟨j,e⟩:=ee f
  exact (h.bd.b j b e).2.1
theorem Zc.Nm {a:Hp} {x:Addr} {rk:List (Str × Nat × Int)} {c:Nat->Str} {sz:List Nat} {y b:Addr} (g:Zc C a x us rk ls sts c sz kbs) (s:An a H) (e:a y=none) (f:a b=none) (ns:a sd=none) (m:H b=some (.dK [])) (l:Dn Cy H y x 0 0 sd) (o:Jf Cp H z x y b) (i:H sd=some (.dK [])) (d:sd ≠ y) (j:b ≠ sd) (q:z ≠ y):JF C Cy Cp pE pA a H z x y b us rk ls sts ⟨0,0,λ_=>none⟩ sd [] (λ_=>0) 0 c sz kbs:=by
 have r:(By c kbs).length<=12:=g.f.kl
 have n:=Ff g.o.o.o
 rw[De] at n
 refine⟨⟨⟨⟨g.o,s,e,l⟩,o,f,m,FW.nil⟩,g.f,ns,d,⟨[],i,ah _,λp _ _=>rfl,λp t _ h=>nomatch h⟩,q,j⟩,⟨g.kb,g.lg,g.f.kn,by omega,dL _,by have:=g.st;omega,(λk h=>absurd h (by decide)),by decide⟩,g.bd,λv u k h=>?_,by omega⟩
 have:=fH h
 rw[De] at this
 exact this
theorem P_:Aq yk z5 (Ac Lz):=Bf
theorem gF (F:Cd K "law" "law" Lz f fd) (N:tD K mg C Cy Cp pB pE pA aD) (T:Txt K w.params mg C Cy Cp pB pE pA cK cP cB cS cO cH cY cD aQ aN aK aB aP aM) (F0:jz K aB aP aM):Ao P w K mg base Bb 12 f fd z5 (Ov K):=by
 refine F.DQ P_ λH vs Q E B h=>?_
 obtain⟨a,I,rfl,hS,as,q⟩:=h
 have hu:=CN B
 refine⟨_,(@Af _ _ _ _ _ (Bh (i:=1) P_.nd rfl (Or.inl rfl) (JQ N.FOi.2.2 (qH N T) (ad B) rfl T.mC N.FOi.2.1 .nil Am (@Ay _ _ _ _ _ rfl (zC (jy N T) B rfl N.FRw (@Ay _ _ _ _ _ rfl (pv 0) Ab)) Ab)))
  (@Af _ _ _ _ _ (Yu (i:=2) P_.nd rfl rfl rfl (G3 (osc:=Ac Lz) (N:=yk) rfl rfl (by decide)) (Bt (Bg (pv 1) T.cl N.FOz.2.2 (YD N T) (ad B) N.FOz.2.1 .nil Am)) (λ_ _ _ _=>Cv) (λ_ _ _ _=>(pv 1)))
  (@Af _ _ _ _ _ (Bh (i:=3) P_.nd rfl (Or.inl rfl) (JQ N.FQi.2.2 (oE N T) (ad B) rfl T.mCP N.FQi.2.1 .nil Am (@Ay _ _ _ _ _ rfl (pv 1) Ab)))
  (@Af _ _ _ _ _ (@Bl _ _ _ _ _ _ _ _ (PW.pt (D_ (BR Hz (Bg (pv 3) T.clP N.FQs.2.2 (YW N T) (ad B) N.FQs.2.1 .nil Am) Ae (BX _)) (D_ (BR Hz (Bg (pv 3) T.clP N.FQe.2.2 (Tr N T) (ad B) N.FQe.2.1 .nil Am) Ae (BX _)) (Do (BR Hz (Bg (pv 3) T.clP N.FQk.2.2 (V2 N T) (ad B) N.FQk.2.1 .nil Am) Ae (BX _)))))) (@Ag _ _ _ (@Ax _ _ _ _ HD)) Ba)
  (@Af _ _ _ _ _ (Eh PassesOwn.never rfl (Uu rfl T.range (@Ay _ _ _ _ _ rfl (@Az _ _ _ _ _ _ _ (Bp (K:=K) rfl) (@Dm _ _ _ _ (@Ay _ _ _ _ _ rfl Ae (@Ay _ _ _ _ _ rfl Ae Ab))) (Dg KD rfl T.int fA (@Ay _ _ _ _ _ rfl (DW O3 (BJ BL rfl T.len aS (@Ay _ _ _ _ _ rfl (pv 0) Ab)) Ae (BX _)) Ab)) (λ_ _=>rfl)) (@Ay _ _ _ _ _ rfl (BJ (J4 rfl) rfl T.min jS (@Ay _ _ _ _ _ rfl (BJ BL rfl T.len aS (@Ay _ _ _ _ _ rfl (pv 0) Ab)) (@Ay _ _ _ _ _ rfl Ae Ab))) Ab))) (Ck (i:=4) P_.nd rfl (Or.inl rfl)) (@Ag _ _ _ (@Bl _ _ _ _ _ _ _ _ (CG (CV (zC (qm N T) B rfl N.FLp (@Ay _ _ _ _ _ rfl (pv 1) (@Ay _ _ _ _ _ rfl (pv 3) (@Ay _ _ _ _ _ rfl (zC (qp N T) B rfl N.FDe (@Ay _ _ _ _ _ rfl (zC (aY N T) B rfl N.FLo (@Ay _ _ _ _ _ rfl (pv 0) (@Ay _ _ _ _ _ rfl (pv 4) Ab))) (@Ay _ _ _ _ _ rfl (pv 1) (@Ay _ _ _ _ _ rfl (pv 3) (@Ay _ _ _ _ _ rfl (pv 2) Ab))))) Ab)))))) (@Ag _ _ _ (@Ax _ _ _ _ HD)) Ba)))
  (@Ag _ _ _ (@Ax _ _ _ _ HD))))))),?_⟩
 refine⟨_,rfl,a,I,rfl,hS,as,F0,λDR J c0 bs rk a7 bm m U l sn H9 _ ab ya YA b1 r1 R9=>?_⟩
 obtain⟨W',O9,eL,eS⟩:=R9.org b1 (by decide) (by decide) YA
 intro x dx nx YI aZ
 have sx:An H9 (upd (upd H9 dx (.own x)) x (.ins C dx [])):=λb o e=>by
  rw[Aw (Aj e nx),Aw (Aj e YI)]
  exact e
 refine⟨x,dx,DR,J,Ly H9,_,_,_,rfl,Al,sx _ _ ya,W'.mono sx,O9,λmx OX _ VX=>⟨rfl,?_⟩⟩
 rw[eL,eS] at OX
 have L:An H9 mx:=λb o e=>VX b o (sx b o e) (Aj e nx)
 have OP:=ab.trans L
 obtain⟨G,sz,og⟩:=R9.og b1 (by decide) OX
 clear VX sx nx YI aZ W' O9 YA ya eL eS L ab OX R9 b1 r1
 obtain⟨⟨⟨dx,fs,_,_,_,_,_,_,_,_,hx,_,_,_,_,lm,_⟩,_⟩,_⟩:=id og.o.o
 refine⟨_,rfl,x,dx,fs,rfl,hx,lm _ (by decide),x,_,_,rfl,og.o.o.o,λD1 ys EG vi DH EM C5=>?_⟩
 have a5:ys.length=(By G m).length:=C5.length.symm
 have nk:=og.f.kl
 have O:Dc K EG D1 ys:=.inl (.inl EM)
 refine⟨D1,rfl,⟨_,O⟩,RT (K:=K) (ps:=(By G m).map λr=>(V.str r.w,V.str r.nm)) (λq=>q.2) O (Bv (F:=λ(q:V × V) v=>TupAt EG [q.1,q.2] v) (λr:R=>(V.str r.w,V.str r.nm)) C5) (BK (by omega)) (λq hq H' hs R k=>⟨_,rfl,k H' (An.refl H')⟩) (λKL A a8 an sC=>?_)⟩
 have aw:((By G m).map λr=>(V.str r.w,V.str r.nm)).map (λq=>q.2)=(Ij (By G m)).map V.str:=by
  rw[aE,aE]
  rfl
 rw[aw] at sC
 have ap:Zc C A x J rk U l G sz m:=⟨og.o.mono (DH.trans an),og.f,og.kb,og.lg,og.st,og.bd,og.z1,og.l1⟩
 refine⟨_,rfl,λz dz a1 a2 a3=>⟨z,dz,x,rfl,Al,λy Y W A3 g1 g2 g3 g4 g5 g6 g7 g8 g9 Z' YU=>⟨rfl,?_⟩⟩⟩
 have ac:An A A3:=λb o e=>g1 b o (by rw[Aw (Aj e a1),Aw (Aj e a2)];exact e) (Aj e a1)
 have fr:∀ {b:Addr},upd (upd A dz (.own z)) z (.ins Cp dz []) b=none->A b=none:=λ{b} h=>by
  have b1:b ≠ z:=λe=>by rw[e,Al] at h;cases h
  rw[Aw b1] at h
  have b2:b ≠ dz:=λe=>by rw[e,Al] at h;cases h
  rw[Aw b2] at h
  exact h
 have ny:=fr g2
 have nh:=fr g3
 have aC:=fr g7
 have pl:=ap.Nm (pE:=pE) (pA:=pA) ac ny nh aC g4 g5 g6 g8 g9 Z' YU
 have EK:=OP.trans (DH.trans an)
 clear g1 g2 g3 g4 g5 g6 g7 g8 g9 Z' YU fr a1 a2 a3 C5 EM O a5 aw
 obtain⟨DJ,S,xB,_,_,_,rL⟩:=id pl.p.p.Nm.ex
 refine⟨_,rfl,z,DJ,S,rfl,xB,rL _ (by decide),A,z,x,y,W,J,rk,U,l,0,0,Y,[],_,G,sz,m,rfl,pl.p.p,pl.o,λp1 LM KM Y3=>?_⟩
 obtain rfl:=kO Y3 (by show 0 ||| Pr (l.take 0)=0;rw[List.take_zero];rfl)
 refine⟨rfl,_,rfl,Bk ?_⟩
 have oS:=pl.mono KM
 refine⟨_,rfl,z,DJ,S,rfl,KM _ _ xB,rL _ (by decide),A,z,x,y,W,J,_,rk,_,U,l,0,0,Y,[],_,rfl,oS.p.p,oS.o.kl,λXV tI=>?_⟩
 refine⟨rfl,_,rfl,Bk ?_⟩
 have M:=oS.mono tI
 refine⟨_,rfl,z,DJ,S,rfl,tI _ _ (KM _ _ xB),rL _ (by decide),A,z,x,y,W,J,_,rk,_,U,l,0,0,Y,[],_,rfl,M.p.p,M.o.nm,M.o.nk,M.o.sh,M.o.st,λEC vT=>?_⟩
 refine⟨rfl,_,rfl,C_ (λg=>absurd g (by show ¬ (!decide (V.int ((0 ||| Pr (l.take 0):Nat):Int)=V.int 0))=true;rw[List.take_zero];decide)) (λ_=>?_)⟩
 have vw:=M.mono vT
 have D:An A EC:=ac.trans (KM.trans (tI.trans vT))
 clear pl oS M KM tI vT Y3 xB rL
 have F5:=(EK.trans D).seq hS
 refine⟨CK (by simp),λP1 E8=>?_⟩
 obtain⟨FD,i7,t1,u1⟩:=Em (o:=HO.lst [V.int 2,V.int 10]) E8
 rw[i7]
 have ln:(I.map V.int).length=I.length:=af ..
 obtain⟨lo,YR,a6⟩:∃ lo:Int,(lo=2 \/ lo=10)/\Ua [V.int 2,V.int 10] (if decide ((18:Int)<(((I.map V.int).length:Nat):Int))=true then 1 else 0)=some (.int lo):=by
  cases decide ((18:Int)<(((I.map V.int).length:Nat):Int)) with
  | true=>exact⟨10,.inr rfl,Ah (j:=1) rfl⟩
  | false=>exact⟨2,.inl rfl,Ah (j:=0) rfl⟩
 refine⟨_,rfl,a,_,rfl,.inl (t1.seq F5),_,_,rfl,rfl,.inr ⟨_,rfl,P1,_,_,_,rfl,rfl,kL u1,a6,?_⟩⟩
 obtain⟨X,YV,bd⟩:∃ X:Int,(if (34:Int)<(((I.map V.int).length:Nat):Int) then 34 else (((I.map V.int).length:Nat):Int))=X/\0<=X/\X<=34:=⟨_,rfl,by split <;> omega,by split <;> omega⟩
 refine⟨_,rfl,a,_,rfl,.inl (t1.seq F5),_,_,rfl,lo,X,(by rw[YV]),⟨by omega,by omega,by omega,by omega⟩,?_⟩
 clear YV
 have No:=vw.mono t1
 have E2:=D.trans t1
 refine Fg (lo:=lo) (n:=(X - lo).toNat) (λi σ Z=>An A Z/\∃ (s:Cs) (u:List (Key × V)) (c:Nat->Nat) (v4:Option V),JF C Cy Cp pE pA A Z z x y W J rk U l s Y u c i G sz m/\u.length<=i/\σ=[some (.ref a),some (.ref x),some (.ref KL),some (.ref z),v4])
  ⟨E2,_,_,_,_,No,ah _,rfl⟩ ?_ ?_
 ·rintro i σ Z a9 ⟨sx,s,u,c,v4,px,hk,rfl⟩
  obtain⟨kk,a0⟩:∃ kk:Nat,lo+(i:Int)=((kk:Nat):Int):=⟨(lo+(i:Int)).toNat,by omega⟩
  refine⟨_,rfl,_,rfl,_,rfl,_,rfl,a,kk,I,congrArg (λt:Int=>[V.ref a,V.int t]) a0,(EK.trans sx).seq hS,by omega,λp H1 hp s1 vb=>?_⟩
  have a4:((Bj G sz).map (·.1)).Nodup:=og.f.bd
  refine⟨_,rfl,_,rfl,_,rfl,Z,p,KL,A,z,x,y,W,J,rk,U,l,s,Y,u,c,i,G,sz,m,rfl,⟨px,sx _ _ sC,s1,hp,vb,og.z1,og.l1,a4⟩,λTa d H2 _ s2 li ho t4=>?_⟩
  refine⟨A,z,x,y,W,J,rk,U,l,s,Y,u,c,i,G,sz,m,Ta,d,rfl,li,ho,t4,px.mono s2,by omega,by omega,λs' d0 c' H3 go f3 p3 bl=>⟨_,rfl,Bk ?_⟩⟩
  refine⟨λb o e=>f3 b o (s2 _ _ (sx b o e)) (Aj e ny) (Aj e aC) (Aj e nh),s',d0,c',some (.int (lo+(i:Int))),p3,by omega,rfl⟩
 ·rintro σ Z ⟨sx,s,u,c,v4,px,hk,rfl⟩
  exact q Z
end
end K44
end PartK44a
set_option maxHeartbeats 4000000
theorem UL1 {α:Type} {us:List α} (h:us.length=1):∃ a,us=[a]:=match us,h with | [a],_=>⟨a,rfl⟩
theorem UL2 {α:Type} {us:List α} (h:us.length=2):∃ a b,us=[a,b]:=match us,h with | [a,b],_=>⟨a,b,rfl⟩
theorem UL3 {α:Type} {us:List α} (h:us.length=3):∃ a b c,us=[a,b,c]:=match us,h with | [a,b,c],_=>⟨a,b,c,rfl⟩
theorem UL4 {α:Type} {us:List α} (h:us.length=4):∃ a b c d,us=[a,b,c,d]:=match us,h with | [a,b,c,d],_=>⟨a,b,c,d,rfl⟩
theorem UL5 {α:Type} {us:List α} (h:us.length=5):∃ a b c d e,us=[a,b,c,d,e]:=match us,h with | [a,b,c,d,e],_=>⟨a,b,c,d,e,rfl⟩
namespace K44
open PySem L2 Og
theorem oH {K:W.Frag} {a h g f c j d k b:Addr} (m:W.nsIn K a "hold" = some (some (.ref h))/\KTup K h [.int 3]) (l:W.nsIn K a "leave" = some (some (.ref g))/\KTup K g [.int 3]) (o:W.nsIn K a "pull" = some (some (.ref f))/\KTup K f [.int 2]) (r:W.nsIn K a "push" = some (some (.ref c))/\KTup K c [.int 2]) (p:W.nsIn K a "store" = some (some (.ref j))/\KTup K j [.int 2,.int 3]) (t:W.nsIn K a "press" = some (some (.ref d))/\KTup K d [.int 2]) (n:W.nsIn K a "cancel" = some (some (.ref k))/\KTup K k [.int 1]) (s:W.nsIn K a "shoe" = some (some (.ref b))/\KTup K b [.int 2]):∀ e∈wH,∃ q,W.nsIn K a e.1=some (some (.ref q))/\KTup K q e.2:=λe i=>by
 simp only[wH,List.mem_cons,List.not_mem_nil,or_false] at i
 rcases i with rfl | rfl | rfl | rfl | rfl | rfl | rfl | rfl
 ·exact⟨_,m⟩
 ·exact⟨_,l⟩
 ·exact⟨_,o⟩
 ·exact⟨_,r⟩
 ·exact⟨_,p⟩
 ·exact⟨_,t⟩
 ·exact⟨_,n⟩
 ·exact⟨_,s⟩
section
variable {K:W.Frag}
abbrev DA (K:W.Frag) (x:Str) (st:Stmt) (f:Addr):Prop:=W.nsIn K mainGlobals x=some (some (.ref f))/\∃ fd,Cd K x x st f fd
abbrev MA (K:W.Frag) (C:Addr) (x q:Str) (st:Stmt) (f:Addr):Prop:=W.findIn K (.ref C) x=some (some (.ref f))/\W.isFn K (.ref f)=true/\∃ fd,Cd K x q st f fd
theorem Ey {q:Str} {st:Stmt} (F:Cd K x q st f fd) (i:ps.length=1:=by rfl) (h:∀ (kV a e:Value) (b:Option Addr) (d c:Value) (u:Value),bindArgs (W.fnOf x q (DY st) (CZ st) (Ac st) .none kV a e b d c) ⟨[u],[]⟩=pure (ps.zip [u]):=by intros;rfl):Binds K fd ps []:=F.binds λkV a e b d c j g=>by obtain⟨u,rfl⟩:=UL1 (g.trans i);exact h kV a e b d c u
theorem DP {q:Str} {st:Stmt} (F:Cd K x q st f fd) (i:ps.length=2:=by rfl) (h:∀ (kV a e:Value) (b:Option Addr) (d c:Value) (u v:Value),bindArgs (W.fnOf x q (DY st) (CZ st) (Ac st) .none kV a e b d c) ⟨[u,v],[]⟩=pure (ps.zip [u,v]):=by intros;rfl):Binds K fd ps []:=F.binds λkV a e b d c j g=>by obtain⟨u,v,rfl⟩:=UL2 (g.trans i);exact h kV a e b d c u v
theorem Fo {q:Str} {st:Stmt} (F:Cd K x q st f fd) (j:ps.length=3:=by rfl) (h:∀ (kV b g:Value) (c:Option Addr) (e d:Value) (u v a:Value),bindArgs (W.fnOf x q (DY st) (CZ st) (Ac st) .none kV b g c e d) ⟨[u,v,a],[]⟩=pure (ps.zip [u,v,a]):=by intros;rfl):Binds K fd ps []:=F.binds λkV b g c e d k i=>by obtain⟨u,v,a,rfl⟩:=UL3 (i.trans j);exact h kV b g c e d u v a
theorem kJ {q:Str} {st:Stmt} (F:Cd K x q st f fd) (k:ps.length=4:=by rfl) (h:∀ (kV c i:Value) (d:Option Addr) (g e:Value) (u v a b:Value),bindArgs (W.fnOf x q (DY st) (CZ st) (Ac st) .none kV c i d g e) ⟨[u,v,a,b],[]⟩=pure (ps.zip [u,v,a,b]):=by intros;rfl):Binds K fd ps []:=F.binds λkV c i d g e l j=>by obtain⟨u,v,a,b,rfl⟩:=UL4 (j.trans k);exact h kV c i d g e u v a b
end
theorem eO {l:W.OpenLaw} {w:World} {K:W.Frag} {fa:Addr} (X:K.In h) (G:h.Ns mainGlobals mg) (kn:mg "law" = some (.ref fa))
 {pB cK cP cB cS cO cH cY cD a q1 q2 q3 q4 q5 q6 q7 q8 aN aK p1 p2 p3 p4 p5 p6 b1 b2 b3 b4 b5 b6 b7 gs d5 g4 gV ds eW dK e4 d6 de el f8 ew ec f6 fv f9 fp ez es g2 er d2 ep eh f3 ej eT eu e1 f4 eb f1 eL e5 d0 fl e7 e2 ev ga dp gv f5 g5 fr fx d3 em e3 g3 d4 g1 g0 gt f7 ei eg eA e6 eq df dx en go dy f2 fc fy ea eS d1 e9 eo eC f0 ek gw dv eH ed B fm ef db e8 ey e0 fn dr eK dV gm dm dd ex fZ:Addr} {L9 B8 lp XU:Option Addr} {PM ox:Array (Option Value)} {Uf zl BN Ct xl AX j0 W1 dz YE RH ZH:Value}
  {OU sD EH N' L3 N0 nT hr hD nx kt ia IL IS F6 F7 JI FE F9 E4 A4 CO As AT C0 zD zd A8 BU AY DC Da zI Dx AA CC A2 CU CB C7 CS Bz AJ AE Cn C6 zo BD A6 AV AR AK BA DF AW Cc BO DE AC zv:Tok} {UD OB FU Fu GH IB EN GB HZ F8 KU KS Kk EX EO E3 HC Go E5 IH FV EQ GS:Option Addr} {P4 N2 FS KI FL IA GT Ki HG FI Kj HI HE JY Kt GI HV IR G' Iy G1 Fa KG:Array (Option Value)} {j4 l5 NF NO N3 RI NN UE QA Se UF L7 OZ NE Mn N1 NI NG SL R' TC Nn N4 nB nP nM nQ:Nat} {eB eP eM eQ:Array DictEntry}
  {xa:Addr} {SF:Option Addr} {PV:Array (Option Value)} {QO:Nat}
  (a3:DA K "is_whole" tE gs)
  (V:DA K "is_made_of" jk d5)
  (c8:DA K "is_name" uJ g4)
  (bW:DA K "rows_of" rT gV)
  (ct:DA K "is_told" rF ds)
  (c2:DA K "is_within" xg eW)
  (a4:DA K "is_part" sE dK)
  (cp:DA K "has_parts" sW e4)
  (ca:DA K "count_of_last_lines" wG d6)
  (ch:DA K "is_key_of" rZ de)
  (an:DA K "stands_behind_stop" uG el)
  (cd:DA K "is_step" rC f8)
  (cb:DA K "is_well_made" yz ew)
  (b0:DA K "has_room" yw ec)
  (ab:DA K "is_row" uy f6)
  (bS:DA K "check_rows" yN fv)
  (Z:DA K "numbers_of" xJ f9)
  (cA:DA K "count_in_all" sO fp)
  (Y:DA K "places_of" sJ ez)
  (as:DA K "lines_by_knob" xZ es)
  (b9:DA K "set_of_step" sH g2)
  (a7:DA K "may_be_member" yC er)
  (bR:DA K "set_of" sG d2)
  (a0:DA K "has_member" yo ep)
  (c0:DA K "members_of" sY eh)
  (c5:DA K "shifted" xf f3)
  (bl:DA K "union_of" xq ej)
  (cE:DA K "led_to" uw eT)
  (bd:DA K "drawn_of" pq eu)
  (c1:DA K "held_keys" yR e1)
  (U:DA K "coupled_ways" yJ f4)
  (bK:DA K "coupled_keys" yF eb)
  (bL:DA K "muted_boards" rD f1)
  (aw:DA K "unmuted_keys" rA eL)
  (co:DA K "speaking_keys" zF e5)
  (bv:DA K "numbers_on_board" xU d0)
  (cx:DA K "led_by_line" yO fl)
  (c3:DA K "brought_by_stop" qw e7)
  (a5:DA K "brought_in_all" sS e2)
  (a1:DA K "sounding_pipes" vY ev)
  (cv:DA K "knob_named" wY ga)
  (c4:DA K "knobs_of_board" rO dp)
  (bP:DA K "is_piston" uF gv)
  (b8:DA K "board_named" uX f5)
  (cg:DA K "key_on_board" um g5)
  (ac:DA K "do_at_console" wV fr)
  (a6:DA K "is_deed" wN fx)
  (bn:DA K "_law_cell_at" xK d3)
  (bm:DA K "_law_whole" uP em)
  (cs:DA K "_law_mix" vy e3)
  (cl:DA K "_law_source" x_ g3)
  (ap:DA K "_law_draw" xR d4)
  (c6:DA K "_law_name" sV g1)
  (a2:DA K "_law_knob" uR g0)
  (cn:DA K "_law_rows" rW gt)
  (bN:DA K "_law_deed" xP f7)
  (a8:DA K "_law_told" xV ei)
  (bz:DA K "_law_are_pipes" rG eg)
  (a9:DA K "_law_step" lC eA)
  (aZ:W.nsIn K mainGlobals "law" = some (some (.ref fZ)))
  (lZ:K.lookup fZ=some ⟨j0,lp,.func (W.fnOf "law" "law" (DY Lz) (CZ Lz) (Ac Lz) .none W1 dz YE XU RH ZH),ox⟩) (cZ:W.codeIn K RH "law" = true) (kZ:W.keepIn K (.ref fZ)=true)
  (aC:W.nsIn K mainGlobals "Organ" = some (some (.ref C)))
  (da:MA K C "__init__" "Organ.__init__" YZ e6)
  (A:MA K C "boards" "Organ.boards" yf eq)
  (i:MA K C "key_count" "Organ.key_count" zG df)
  (u:MA K C "key" "Organ.key" uW dx)
  (J:MA K C "board_of" "Organ.board_of" yQ en)
  (L:MA K C "board_of_knob" "Organ.board_of_knob" xM go)
  (y:MA K C "coupler" "Organ.coupler" vQ dy)
  (o:MA K C "ranks" "Organ.ranks" yt f2)
  (b:MA K C "pipe_count" "Organ.pipe_count" vW fc)
  (R:MA K C "pipe" "Organ.pipe" uI fy)
  (m:MA K C "stop" "Organ.stop" vC ea)
  (z:MA K C "mute" "Organ.mute" tX eS)
  (I:MA K C "board_number" "Organ.board_number" vO d1)
  (D:MA K C "knob_number" "Organ.knob_number" uf e9)
  (M:MA K C "steps" "Organ.steps" zA eo)
  (Q:MA K C "knobs" "Organ.knobs" rY eC)
  (o4:W.nsIn K mainGlobals "Console" = some (some (.ref Cy)))
  (S:MA K Cy "__init__" "Console.__init__" tQ f0)
  (p:MA K Cy "draw" "Console.draw" uq ek)
  (g:MA K Cy "pull" "Console.pull" wM gw)
  (E:MA K Cy "push" "Console.push" uT dv)
  (r:MA K Cy "knobs" "Console.knobs" vq eH)
  (x:MA K Cy "shoe" "Console.shoe" yU ed)
  (l9:W.findIn K (.ref Cy) "store" = some (some (.ref B)))
  (nv:W.isFn K (.ref B)=true)
  (iv:K.lookup B=some ⟨Uf,L9,.func (W.fnOf "store" "Console.store" (DY VV) (CZ VV) (Ac VV) (.ref xa) zl BN Ct B8 xl AX),PM⟩) (hY:W.codeIn K xl "Console.store" = true) (YY:W.keepIn K (.ref B)=true)
  (q:MA K Cy "press" "Console.press" uo fm)
  (O:MA K Cy "cancel" "Console.cancel" tH ef)
  (mR:W.plainGet K Cy Str.empty=true)
  (Lu:W.hasDictIn K Cy=true)
  (kN:W.plainOver K Cy=true)
  (j3:W.findIn K (.ref Cy) "__setattr__" = some (some (.builtin "object.__setattr__")))
  (OC:W.makesIn K Cy=true)
  (js:W.keepIn K (.ref Cy)=true)
  (PR:W.findIn K (.ref Cy) "organ" = some none)
  (SH:W.findIn K (.ref Cy) "drawn_set" = some none)
  (ND:W.findIn K (.ref Cy) "shoe_step" = some none)
  (OV:W.findIn K (.ref Cy) "stored" = some none)
  (YN:W.nsIn K mainGlobals "ValueError" = some none)
  (mx:W.nsIn K mainGlobals "NoKnob" = some (some (.ref cK)))
  (hq:W.nsIn K mainGlobals "NoPiston" = some (some (.ref cP)))
  (l3:W.nsIn K mainGlobals "NoBoard" = some (some (.ref cB)))
  (o3:W.nsIn K mainGlobals "NoStep" = some (some (.ref cS)))
  (V':W.nsIn K mainGlobals "OrganError" = some (some (.ref cO)))
  (h4:W.nsIn K mainGlobals "NotHeld" = some (some (.ref cH)))
  (nw:W.nsIn K mainGlobals "NoKey" = some (some (.ref cY)))
  (i2:W.nsIn K mainGlobals "NoDeed" = some (some (.ref cD)))
  (n5:W.excIn K cO Qz "ValueError.__new__" = true)
  (ou:W.excIn K cH Qz "ValueError.__new__" = true)
  (hA:W.excIn K cY Qz "ValueError.__new__" = true)
  (h9:W.excIn K cD Qz "ValueError.__new__" = true)
  (hB:Lp K cK cO [cB,cP,cS]=true)
  (nI:Lp K cP cO [cB,cK,cS]=true)
  (lj:Lp K cB cO [cK,cP,cS]=true)
  (ol:Lp K cS cO [cB,cK,cP]=true)
  (hk:Lp K cH cO []=true)
  (MR:W.mroIn K cH (.ref cH)=some true)
  (SR:W.mroIn K cP (.ref cP)=some true)
  (hS:W.nsIn K mainGlobals "Piston" = some (some (.ref pB)))
  (mm:W.nsIn K mainGlobals "Every" = some (some (.ref pE)))
  (ht:W.nsIn K mainGlobals "Part" = some (some (.ref pA)))
  (f:MA K pE "__init__" "Piston.__init__" wA db)
  (H:MA K pE "put" "Every.put" yd e8)
  (bB:MA K pA "__init__" "Part.__init__" xW ey)
  (k:MA K pA "put" "Part.put" wI e0)
  (Qr:W.plainGet K pE Str.empty=true)
  (Pf:W.hasDictIn K pE=true)
  (QI:W.plainOver K pE=true)
  (L4:W.findIn K (.ref pE) "__setattr__" = some (some (.builtin "object.__setattr__")))
  (UI:W.makesIn K pE=true)
  (N9:W.keepIn K (.ref pE)=true)
  (TB:W.findIn K (.ref pE) "knob_set" = some none)
  (OE:W.plainGet K pA Str.empty=true)
  (SV:W.hasDictIn K pA=true)
  (NM:W.plainOver K pA=true)
  (OW:W.findIn K (.ref pA) "__setattr__" = some (some (.builtin "object.__setattr__")))
  (MD:W.makesIn K pA=true)
  (TK:W.keepIn K (.ref pA)=true)
  (Sl:W.findIn K (.ref pA) "knob_set" = some none)
  (PD:W.findIn K (.ref pA) "whole_set" = some none)
  (hv:W.nsIn K mainGlobals "PISTON_COUNT" = some (some (.int 10 OU)))
  (h5:W.specialIn K (.ref pB) "__getattribute__" = some (some (.builtin "type.__getattribute__")))
  (lK:W.readsIn K pB (.type "type")=true)
  (i8:W.findCls K (.ref pB) (.type "type") "__init__" = some (.val (.ref db)))
  (lr:W.nsIn K mainGlobals "Player" = some (some (.ref Cp)))
  (aD:MA K Cp "__init__" "Player.__init__" yc fn)
  (d:MA K Cp "hold" "Player.hold" vZ dr)
  (P:MA K Cp "leave" "Player.leave" y_ eK)
  (F:MA K Cp "act" "Player.act" zH dV)
  (c:MA K Cp "do" "Player.do" yD gm)
  (n:MA K Cp "sound" "Player.sound" yW dm)
  (j:MA K Cp "held" "Player.held" rJ dd)
  (t:MA K Cp "knobs" "Player.knobs" xX ex)
  (hw:W.plainGet K Cp Str.empty=true)
  (m2:W.hasDictIn K Cp=true)
  (nf:W.plainOver K Cp=true)
  (nh:W.findIn K (.ref Cp) "__setattr__" = some (some (.builtin "object.__setattr__")))
  (SZ:W.makesIn K Cp=true)
  (l6:W.keepIn K (.ref Cp)=true)
  (Qb:W.findIn K (.ref Cp) "organ" = some none)
  (Ts:W.findIn K (.ref Cp) "console" = some none)
  (OK:W.findIn K (.ref Cp) "hands" = some none)
  (rQ:W.nsIn K mainGlobals "PART_COUNTS" = some (some (.ref a)))
  (dQ:K.lookup a=some ⟨.type "dict",none,.dict eQ nQ,#[]⟩)
  (kQ:W.KeysLit w.params eQ.toList)
  (oQ:(a == sysModules)=false)
  (lI:W.nsIn K a "hold" = some (some (.ref q1)))
  (nN:W.nsIn K a "leave" = some (some (.ref q2)))
  (od:W.nsIn K a "pull" = some (some (.ref q3)))
  (hN:W.nsIn K a "push" = some (some (.ref q4)))
  (n3:W.nsIn K a "store" = some (some (.ref q5)))
  (ma:W.nsIn K a "press" = some (some (.ref q6)))
  (j1:W.nsIn K a "cancel" = some (some (.ref q7)))
  (hR:W.nsIn K a "shoe" = some (some (.ref q8)))
  (pg:W.plainGet K C Str.empty=true)
  (hd:W.hasDictIn K C=true)
  (po:W.plainOver K C=true)
  (sa:W.findIn K (.ref C) "__setattr__" = some (some (.builtin "object.__setattr__")))
  (l4:W.makesIn K C=true)
  (kc:W.keepIn K (.ref C)=true)
  (pe:W.findIn K (.ref C) "row_list" = some none)
  (nX:W.findIn K (.ref C) "board_list" = some none)
  (oy:W.findIn K (.ref C) "rank_list" = some none)
  (oo:W.findIn K (.ref C) "knob_rows" = some none)
  (l8:W.findIn K (.ref C) "board_numbers" = some none)
  (mh:W.findIn K (.ref C) "rank_numbers" = some none)
  (mf:W.findIn K (.ref C) "knob_numbers" = some none)
  (nE:W.findIn K (.ref C) "key_places" = some none)
  (mr:W.findIn K (.ref C) "pipe_places" = some none)
  (nS:W.findIn K (.ref C) "knob_lines" = some none)
  (on:W.findIn K (.ref C) "step_sets" = some none)
  (UK:W.nsIn K mainGlobals "len" = some none)
  (pf:W.nsIn K mainGlobals "isinstance" = some none)
  (P8:W.nsIn K mainGlobals "int" = some none)
  (IC:W.nsIn K mainGlobals "bool" = some none)
  (Na:W.nsIn K mainGlobals "str" = some none)
  (FR:W.nsIn K mainGlobals "list" = some none)
  (AB:W.nsIn K mainGlobals "tuple" = some none)
  (NA:W.nsIn K mainGlobals "all" = some none)
  (SU:W.nsIn K mainGlobals "any" = some none)
  (Oy:W.nsIn K mainGlobals "sum" = some none)
  (B':W.nsIn K mainGlobals "range" = some none)
  (P5:W.nsIn K mainGlobals "zip" = some none)
  (re:W.nsIn K mainGlobals "enumerate" = some none)
  (TH:W.nsIn K mainGlobals "max" = some none)
  (sK:W.nsIn K mainGlobals "reversed" = some none)
  (QE:W.nsIn K mainGlobals "set" = some none)
  (Nl:W.nsIn K mainGlobals "min" = some none)
  (TZ:W.nsIn K mainGlobals "LETTERS" = some (some (.str letters sD)))
  (kp:W.nsIn K mainGlobals "MOST_LETTERS" = some (some (.int 8 EH)))
  (lT:W.nsIn K mainGlobals "MOST_ROWS" = some (some (.int 150 N')))
  (Si:W.nsIn K mainGlobals "MOST_LINES" = some (some (.int 4 L3)))
  (h0:W.nsIn K mainGlobals "MEMBERS_BELOW" = some (some (.int 1200 N0)))
  (rN:W.nsIn K mainGlobals "NAMED" = some (some (.ref aN)))
  (rK:W.nsIn K mainGlobals "KNOBS" = some (some (.ref aK)))
  (rB:W.nsIn K mainGlobals "BOUNDS" = some (some (.ref aB)))
  (rP:W.nsIn K mainGlobals "PARTS" = some (some (.ref aP)))
  (rM:W.nsIn K mainGlobals "MOST_OF" = some (some (.ref aM)))
  (dB:K.lookup aB=some ⟨.type "dict",none,.dict eB nB,#[]⟩)
  (kB:W.KeysLit w.params eB.toList)
  (oB:(aB == sysModules)=false)
  (dP:K.lookup aP=some ⟨.type "dict",none,.dict eP nP,#[]⟩)
  (kP:W.KeysLit w.params eP.toList)
  (oP:(aP == sysModules)=false)
  (dM:K.lookup aM=some ⟨.type "dict",none,.dict eM nM,#[]⟩)
  (kM:W.KeysLit w.params eM.toList)
  (oM:(aM == sysModules)=false)
  (mC:W.nsIn K aP "board" = some (some (.ref p1)))
  (kX:W.nsIn K aP "stop" = some (some (.ref p2)))
  (n8:W.nsIn K aP "mute" = some (some (.ref p3)))
  (k2:W.nsIn K aP "coupler" = some (some (.ref p4)))
  (lh:W.nsIn K aP "rank" = some (some (.ref p5)))
  (hW:W.nsIn K aP "line" = some (some (.ref p6)))
  (ov:W.nsIn K aB "keys" = some (some (.ref b1)))
  (hC:W.nsIn K aB "leap" = some (some (.ref b2)))
  (kf:W.nsIn K aB "pipes" = some (some (.ref b3)))
  (li:W.nsIn K aB "wind" = some (some (.ref b4)))
  (l2:W.nsIn K aB "shift" = some (some (.ref b5)))
  (k8:W.nsIn K aB "low" = some (some (.ref b6)))
  (km:W.nsIn K aB "high" = some (some (.ref b7)))
  (qn:W.nsIn K aB "new" = some none)
  (qb:W.nsIn K aB "board" = some none)
  (qr:W.nsIn K aB "rank" = some none)
  (ql:W.nsIn K aM "line" = some none)
  (ha:W.nsIn K aM "board" = some (some (.int 5 nT)))
  (oC:W.nsIn K aM "stop" = some (some (.int 24 hr)))
  (hn:W.nsIn K aM "coupler" = some (some (.int 12 hD)))
  (n1:W.nsIn K aM "mute" = some (some (.int 5 nx)))
  (n4:W.nsIn K aM "rank" = some (some (.int 12 kt)))
  (kU:W.nsIn K aM "step" = some (some (.int 12 ia)))
  (uN:K.lookup aN=some ⟨.type "tuple",UD,.seq #[.str "board" IL,.str "rank" IS,.str "stop" F6,.str "coupler" F7,.str "mute" JI] j4,P4⟩)
  (uK:K.lookup aK=some ⟨.type "tuple",OB,.seq #[.str "stop" FE,.str "coupler" F9,.str "mute" E4] l5,N2⟩)
  (up1:K.lookup p1=some ⟨.type "tuple",FU,.seq #[.str "new" A4,.str "keys" CO] NF,FS⟩)
  (h2:K.lookup p2=some ⟨.type "tuple",Fu,.seq #[.str "new" As,.str "board" AT] NO,KI⟩)
  (mp:K.lookup p3=some ⟨.type "tuple",GH,.seq #[.str "new" C0,.str "board" zD] N3,FL⟩)
  (mA:K.lookup p4=some ⟨.type "tuple",IB,.seq #[.str "new" zd,.str "board" A8,.str "board" BU,.str "leap" AY] RI,IA⟩)
  (oz:K.lookup p5=some ⟨.type "tuple",EN,.seq #[.str "new" DC,.str "pipes" Da,.str "wind" zI] NN,GT⟩)
  (ms:K.lookup p6=some ⟨.type "tuple",GB,.seq #[.str "rank" Dx,.str "shift" AA,.str "low" CC,.str "high" A2] UE,Ki⟩)
  (ZI:K.lookup xa=some ⟨.type "tuple",SF,.seq #[.none] QO,PV⟩)
  (n2:K.lookup b1=some ⟨.type "tuple",HZ,.seq #[.int (1) CU,.int (61) CB] QA,HG⟩)
  (kr:K.lookup b2=some ⟨.type "tuple",F8,.seq #[.int (-60) C7,.int (60) CS] Se,FI⟩)
  (he:K.lookup b3=some ⟨.type "tuple",KU,.seq #[.int (1) Bz,.int (97) AJ] UF,Kj⟩)
  (jm:K.lookup b4=some ⟨.type "tuple",KS,.seq #[.int (0) AE,.int (1000000000) Cn] L7,HI⟩)
  (ow:K.lookup b5=some ⟨.type "tuple",Kk,.seq #[.int (-200) C6,.int (200) zo] OZ,HE⟩)
  (ky:K.lookup b6=some ⟨.type "tuple",EX,.seq #[.int (0) BD,.int (60) A6] NE,JY⟩)
  (kl:K.lookup b7=some ⟨.type "tuple",EO,.seq #[.int (0) AV,.int (60) AR] Mn,Kt⟩)
  (o5:K.lookup q1=some ⟨.type "tuple",E3,.seq #[.int (3) AK] N1,GI⟩)
  (nd:K.lookup q2=some ⟨.type "tuple",HC,.seq #[.int (3) BA] NI,HV⟩)
  (mB:K.lookup q3=some ⟨.type "tuple",Go,.seq #[.int (2) DF] NG,IR⟩)
  (m0:K.lookup q4=some ⟨.type "tuple",E5,.seq #[.int (2) AW] SL,G'⟩)
  (nt:K.lookup q5=some ⟨.type "tuple",IH,.seq #[.int (2) Cc,.int (3) BO] R',Iy⟩)
  (mD:K.lookup q6=some ⟨.type "tuple",FV,.seq #[.int (2) DE] TC,G1⟩)
  (hb:K.lookup q7=some ⟨.type "tuple",EQ,.seq #[.int (1) AC] Nn,Fa⟩)
  (hM:K.lookup q8=some ⟨.type "tuple",GS,.seq #[.int (2) zv] N4,KG⟩)
  : ∃ fd:FuncData,(∀ (s:Shared) (v:Value),BindsTo s fd ⟨[v],[]⟩ [("_law_script",v)])/\∀ base:Heap,K.In base->base.Ns mainGlobals mg->Ao l.prog w K mg base Bb 12 fa fd z5 (Ov K):=by
 refine Classical.byContradiction λlq=>?_
 obtain⟨md,pu,a3⟩:=a3
 obtain⟨hJ,sc,V⟩:=V
 obtain⟨lm,rs,c8⟩:=c8
 obtain⟨mi,rb,bW⟩:=bW
 obtain⟨j2,pd,ct⟩:=ct
 obtain⟨hj,rd,c2⟩:=c2
 obtain⟨lk,pC,a4⟩:=a4
 obtain⟨np,r2,cp⟩:=cp
 obtain⟨i3,q0,ca⟩:=ca
 obtain⟨ln,rV,ch⟩:=ch
 obtain⟨hK,rj,an⟩:=an
 obtain⟨nk,pL,cd⟩:=cd
 obtain⟨hh,sl,cb⟩:=cb
 obtain⟨ng,qB,b0⟩:=b0
 obtain⟨h6,ro,ab⟩:=ab
 obtain⟨pa,qc,bS⟩:=bS
 obtain⟨nz,ru,Z⟩:=Z
 obtain⟨om,rr,cA⟩:=cA
 obtain⟨hP,rS,Y⟩:=Y
 obtain⟨i7,r0,as⟩:=as
 obtain⟨hc,py,b9⟩:=b9
 obtain⟨mK,qo,a7⟩:=a7
 obtain⟨is,ps,bR⟩:=bR
 obtain⟨hg,sf,a0⟩:=a0
 obtain⟨lf,sb,c0⟩:=c0
 obtain⟨oS,px,c5⟩:=c5
 obtain⟨la,qe,bl⟩:=bl
 obtain⟨mQ,qh,cE⟩:=cE
 obtain⟨mS,pS,bd⟩:=bd
 obtain⟨hF,sh,c1⟩:=c1
 obtain⟨mY,rh,U⟩:=U
 obtain⟨o1,rn,bK⟩:=bK
 obtain⟨hE,qs,bL⟩:=bL
 obtain⟨kS,pT,aw⟩:=aw
 obtain⟨or,pk,co⟩:=co
 obtain⟨oe,p9,bv⟩:=bv
 obtain⟨mb,qa,cx⟩:=cx
 obtain⟨oi,rf,c3⟩:=c3
 obtain⟨mu,pr,a5⟩:=a5
 obtain⟨oD,qv,a1⟩:=a1
 obtain⟨oq,qd,cv⟩:=cv
 obtain⟨k0,r7,c4⟩:=c4
 obtain⟨o2,qk,bP⟩:=bP
 obtain⟨oj,qS,b8⟩:=b8
 obtain⟨lc,pR,cg⟩:=cg
 obtain⟨kv,ri,ac⟩:=ac
 obtain⟨op,rt,a6⟩:=a6
 obtain⟨nK,si,bn⟩:=bn
 obtain⟨mt,p0,bm⟩:=bm
 obtain⟨hT,pj,cs⟩:=cs
 obtain⟨m1,q9,cl⟩:=cl
 obtain⟨n7,rv,ap⟩:=ap
 obtain⟨m3,qx,c6⟩:=c6
 obtain⟨i9,r1,a2⟩:=a2
 obtain⟨h3,rL,cn⟩:=cn
 obtain⟨g9,qy,bN⟩:=bN
 obtain⟨ks,r4,a8⟩:=a8
 obtain⟨mE,pM,bz⟩:=bz
 obtain⟨mM,rc,a9⟩:=a9
 obtain⟨oT,ll,r8,da⟩:=da
 obtain⟨hi,mO,r9,A⟩:=A
 obtain⟨no,mN,qE,i⟩:=i
 obtain⟨kd,hu,pN,u⟩:=u
 obtain⟨i6,ns,rq,J⟩:=J
 obtain⟨mn,ls,ra,L⟩:=L
 obtain⟨mT,me,pc,y⟩:=y
 obtain⟨mP,ly,pz,o⟩:=o
 obtain⟨ob,k9,rg,b⟩:=b
 obtain⟨g6,ml,sj,R⟩:=R
 obtain⟨nn,mI,pm,m⟩:=m
 obtain⟨ny,g8,qq,z⟩:=z
 obtain⟨k1,nD,p7,I⟩:=I
 obtain⟨hH,mH,pp,D⟩:=D
 obtain⟨n9,nl,pV,M⟩:=M
 obtain⟨it,mw,ry,Q⟩:=Q
 obtain⟨hQ,oa,pl,S⟩:=S
 obtain⟨hX,i4,r5,p⟩:=p
 obtain⟨l0,g7,qO,g⟩:=g
 obtain⟨nc,ih,p8,E⟩:=E
 obtain⟨ho,hm,rH,r⟩:=r
 obtain⟨kw,i0,r3,x⟩:=x
 obtain⟨kk,lx,qA,q⟩:=q
 obtain⟨j5,pb,rz,O⟩:=O
 obtain⟨oI,hf,sg,f⟩:=f
 obtain⟨m5,hO,sk,H⟩:=H
 obtain⟨lv,i1,sd,bB⟩:=bB
 obtain⟨oL,oc,rx,k⟩:=k
 obtain⟨lS,l7,rl,aD⟩:=aD
 obtain⟨h7,hI,rp,d⟩:=d
 obtain⟨nm,lg,rm,P⟩:=P
 obtain⟨n0,mL,r6,F⟩:=F
 obtain⟨hy,h1,qf,c⟩:=c
 obtain⟨l1,ot,rX,n⟩:=n
 obtain⟨lb,mc,pi,j⟩:=j
 obtain⟨hL,m4,se,t⟩:=t
 refine lq ?_
 have e:=kn.symm.trans (W.mg_of X G aZ)
 cases e
 have i5:=ZK (st:=VV) iv hY YY
 have FZ:=Qn (st:=Lz) lZ cZ kZ
 have kb:Binds K (W.fnOf "store" "Console.store" (DY VV) (CZ VV) (Ac VV) (.ref xa) zl BN Ct B8 xl AX) we []:=jB ZI rfl λus hl=>by obtain⟨_,_,_,rfl⟩:=UL3 hl;exact⟨_,rfl,rfl⟩
 have gN:KTup K aN [.str "board",.str "rank",.str "stop",.str "coupler",.str "mute"]:=(⟨_,_,_,uN,rfl,rfl,by show 5<=sizeLine;decide,.cons ⟨_,rfl⟩ (.cons ⟨_,rfl⟩ (.cons ⟨_,rfl⟩ (.cons ⟨_,rfl⟩ (.cons ⟨_,rfl⟩ (.nil)))))⟩)
 have gK:KTup K aK [.str "stop",.str "coupler",.str "mute"]:=(⟨_,_,_,uK,rfl,rfl,by show 3<=sizeLine;decide,.cons ⟨_,rfl⟩ (.cons ⟨_,rfl⟩ (.cons ⟨_,rfl⟩ (.nil)))⟩)
 have mo:KTup K p1 [.str "new",.str "keys"]:=(⟨_,_,_,up1,rfl,rfl,by show 2<=sizeLine;decide,.cons ⟨_,rfl⟩ (.cons ⟨_,rfl⟩ (.nil))⟩)
 have ib:KTup K p2 [.str "new",.str "board"]:=(⟨_,_,_,h2,rfl,rfl,by show 2<=sizeLine;decide,.cons ⟨_,rfl⟩ (.cons ⟨_,rfl⟩ (.nil))⟩)
 have ka:KTup K p3 [.str "new",.str "board"]:=(⟨_,_,_,mp,rfl,rfl,by show 2<=sizeLine;decide,.cons ⟨_,rfl⟩ (.cons ⟨_,rfl⟩ (.nil))⟩)
 have hp:KTup K p4 [.str "new",.str "board",.str "board",.str "leap"]:=(⟨_,_,_,mA,rfl,rfl,by show 4<=sizeLine;decide,.cons ⟨_,rfl⟩ (.cons ⟨_,rfl⟩ (.cons ⟨_,rfl⟩ (.cons ⟨_,rfl⟩ (.nil))))⟩)
 have kT:KTup K p5 [.str "new",.str "pipes",.str "wind"]:=(⟨_,_,_,oz,rfl,rfl,by show 3<=sizeLine;decide,.cons ⟨_,rfl⟩ (.cons ⟨_,rfl⟩ (.cons ⟨_,rfl⟩ (.nil)))⟩)
 have h8:KTup K p6 [.str "rank",.str "shift",.str "low",.str "high"]:=(⟨_,_,_,ms,rfl,rfl,by show 4<=sizeLine;decide,.cons ⟨_,rfl⟩ (.cons ⟨_,rfl⟩ (.cons ⟨_,rfl⟩ (.cons ⟨_,rfl⟩ (.nil))))⟩)
 have k7:KTup K b1 [.int (1),.int (61)]:=(⟨_,_,_,n2,rfl,rfl,by show 2<=sizeLine;decide,.cons ⟨_,rfl⟩ (.cons ⟨_,rfl⟩ (.nil))⟩)
 have k4:KTup K b2 [.int (-60),.int (60)]:=(⟨_,_,_,kr,rfl,rfl,by show 2<=sizeLine;decide,.cons ⟨_,rfl⟩ (.cons ⟨_,rfl⟩ (.nil))⟩)
 have hz:KTup K b3 [.int (1),.int (97)]:=(⟨_,_,_,he,rfl,rfl,by show 2<=sizeLine;decide,.cons ⟨_,rfl⟩ (.cons ⟨_,rfl⟩ (.nil))⟩)
 have hs:KTup K b4 [.int (0),.int (1000000000)]:=(⟨_,_,_,jm,rfl,rfl,by show 2<=sizeLine;decide,.cons ⟨_,rfl⟩ (.cons ⟨_,rfl⟩ (.nil))⟩)
 have o0:KTup K b5 [.int (-200),.int (200)]:=(⟨_,_,_,ow,rfl,rfl,by show 2<=sizeLine;decide,.cons ⟨_,rfl⟩ (.cons ⟨_,rfl⟩ (.nil))⟩)
 have k5:KTup K b6 [.int (0),.int (60)]:=(⟨_,_,_,ky,rfl,rfl,by show 2<=sizeLine;decide,.cons ⟨_,rfl⟩ (.cons ⟨_,rfl⟩ (.nil))⟩)
 have lz:KTup K b7 [.int (0),.int (60)]:=(⟨_,_,_,kl,rfl,rfl,by show 2<=sizeLine;decide,.cons ⟨_,rfl⟩ (.cons ⟨_,rfl⟩ (.nil))⟩)
 have k6:KTup K q1 [.int (3)]:=(⟨_,_,_,o5,rfl,rfl,by show 1<=sizeLine;decide,.cons ⟨_,rfl⟩ (.nil)⟩)
 have n6:KTup K q2 [.int (3)]:=(⟨_,_,_,nd,rfl,rfl,by show 1<=sizeLine;decide,.cons ⟨_,rfl⟩ (.nil)⟩)
 have lw:KTup K q3 [.int (2)]:=(⟨_,_,_,mB,rfl,rfl,by show 1<=sizeLine;decide,.cons ⟨_,rfl⟩ (.nil)⟩)
 have k3:KTup K q4 [.int (2)]:=(⟨_,_,_,m0,rfl,rfl,by show 1<=sizeLine;decide,.cons ⟨_,rfl⟩ (.nil)⟩)
 have nL:KTup K q5 [.int (2),.int (3)]:=(⟨_,_,_,nt,rfl,rfl,by show 2<=sizeLine;decide,.cons ⟨_,rfl⟩ (.cons ⟨_,rfl⟩ (.nil))⟩)
 have hx:KTup K q6 [.int (2)]:=(⟨_,_,_,mD,rfl,rfl,by show 1<=sizeLine;decide,.cons ⟨_,rfl⟩ (.nil)⟩)
 have na:KTup K q7 [.int (1)]:=(⟨_,_,_,hb,rfl,rfl,by show 1<=sizeLine;decide,.cons ⟨_,rfl⟩ (.nil)⟩)
 have lP:KTup K q8 [.int (2)]:=(⟨_,_,_,hM,rfl,rfl,by show 1<=sizeLine;decide,.cons ⟨_,rfl⟩ (.nil)⟩)
 have F2:Ye K aB aP aM:=⟨⟨⟨_,mC,mo⟩,⟨_,kX,ib⟩,⟨_,n8,ka⟩,⟨_,k2,hp⟩,⟨_,ov,k7⟩,⟨_,hC,k4⟩,qn,qb,⟨_,ha⟩,⟨_,oC⟩,⟨_,hn⟩,⟨_,n1⟩⟩,⟨_,lh,kT⟩,⟨_,hW,h8⟩,⟨_,kf,hz⟩,⟨_,li,hs⟩,⟨_,l2,o0⟩,⟨_,k8,k5⟩,⟨_,km,lz⟩,qr,⟨_,n4⟩,ql⟩
 have F0:jz K aB aP aM:=⟨F2,⟨_,kU⟩⟩
 have T:Txt K w.params mg C Cy Cp pB pE pA cK cP cB cS cO cH cY cD a aN aK aB aP aM:=⟨W.mg_none_of X G UK,W.mg_none_of X G pf,W.mg_none_of X G P8,W.mg_none_of X G IC,W.mg_none_of X G Na,W.mg_none_of X G FR,W.mg_none_of X G AB,W.mg_none_of X G NA,W.mg_none_of X G SU,W.mg_none_of X G Oy,W.mg_none_of X G B',W.mg_none_of X G P5,W.mg_none_of X G re,W.mg_none_of X G TH,W.mg_none_of X G sK,W.mg_none_of X G QE,W.mg_none_of X G Nl,⟨_,W.mg_of X G TZ⟩,⟨_,W.mg_of X G kp⟩,⟨_,W.mg_of X G lT⟩,⟨_,W.mg_of X G Si⟩,⟨_,W.mg_of X G h0⟩,W.mg_of X G rN,W.mg_of X G rK,W.mg_of X G rB,W.mg_of X G rP,W.mg_of X G rM,gN,gK,⟨⟨_,_,dB,kB⟩,oB⟩,⟨⟨_,_,dP,kP⟩,oP⟩,⟨⟨_,_,dM,kM⟩,oM⟩,⟨pg,hd,po,sa⟩,W.mg_of X G aC,⟨mR,Lu,kN,j3⟩,W.mg_of X G o4,PR,SH,ND,OV,⟨W.mg_none_of X G YN,W.mg_of X G mx,W.mg_of X G hq,W.mg_of X G l3,W.mg_of X G o3,W.mg_of X G V',n5,Rc.of hB,Rc.of nI,Rc.of lj,Rc.of ol⟩,⟨W.mg_of X G hS,W.mg_of X G mm,W.mg_of X G ht,⟨Qr,Pf,QI,L4⟩,⟨OE,SV,NM,OW⟩,TB,Sl,PD,⟨_,W.mg_of X G hv⟩⟩,⟨hw,m2,nf,nh⟩,W.mg_of X G lr,Qb,Ts,OK,⟨W.mg_none_of X G YN,W.mg_of X G h4,W.mg_of X G V',ou,Rc.of hk,MR⟩,⟨W.mg_of X G nw,W.mg_of X G i2,hA,SR,h9⟩,W.mg_of X G rQ,⟨⟨_,_,dQ,kQ⟩,oQ⟩,oH ⟨lI,k6⟩ ⟨nN,n6⟩ ⟨od,lw⟩ ⟨hN,k3⟩ ⟨n3,nL⟩ ⟨ma,hx⟩ ⟨j1,na⟩ ⟨hR,lP⟩,pe,nX,oy,oo,l8,mh,mf,nE,mr,nS,on⟩
 have dT:Binds K (W.fnOf "store" "Console.store" (DY VV) (CZ VV) (Ac VV) (.ref xa) zl BN Ct B8 xl AX) we [.none]:=Zo ZI rfl λus hl=>match us,(show us.length=2 by simpa using hl) with | [_,_],_=>⟨_,rfl,rfl⟩
 have N:tD K mg C Cy Cp pB pE pA ⟨gs,d5,g4,gV,ds,eW,dK,e4,d6,de,el,f8,ew,ec,f6,fv,f9,fp,ez,es,g2,er,d2,ep,eh,f3,ej,eT,eu,e1,f4,eb,f1,eL,e5,d0,fl,e7,e2,ev,ga,dp,gv,f5,g5,fr,fx,d3,em,e3,g3,d4,g1,g0,gt,f7,ei,eg,eA,e6,eq,df,dx,en,go,dy,f2,fc,fy,ea,eS,d1,e9,eo,eC,f0,ek,gw,dv,eH,ed,B,fm,ef,db,e8,ey,e0,fn,dr,eK,dV,gm,dm,dd,ex,_,_,_,_,_,_,_,_,_,_,_,_,_,_,_,_,_,_,_,_,_,_,_,_,_,_,_,_,_,_,_,_,_,_,_,_,_,_,_,_,_,_,_,_,_,_,_,_,_,_,_,_,_,_,_,_,_,_,_,_,_,_,_,_,_,_,_,_,_,_,_,_,_,_,_,_,_,_,_,_,_,_,_,_,_,_,_,_,_,_,_,_,_,_,_,_⟩:=⟨⟨a3,(Ey a3),W.mg_of X G md⟩,⟨V,(Fo V),W.mg_of X G hJ⟩,⟨c8,(Ey c8),W.mg_of X G lm⟩,⟨bW,(DP bW),W.mg_of X G mi⟩,⟨ct,(Fo ct),W.mg_of X G j2⟩,⟨c2,(DP c2),W.mg_of X G hj⟩,⟨a4,(Fo a4),W.mg_of X G lk⟩,⟨cp,(DP cp),W.mg_of X G np⟩,⟨ca,(Ey ca),W.mg_of X G i3⟩,⟨ch,(Fo ch),W.mg_of X G ln⟩,⟨an,(DP an),W.mg_of X G hK⟩,⟨cd,(DP cd),W.mg_of X G nk⟩,⟨cb,(DP cb),W.mg_of X G hh⟩,⟨b0,(DP b0),W.mg_of X G ng⟩,⟨ab,(DP ab),W.mg_of X G h6⟩,⟨bS,(Ey bS),W.mg_of X G pa⟩,⟨Z,(Ey Z),W.mg_of X G nz⟩,⟨cA,(Ey cA),W.mg_of X G om⟩,⟨Y,(Ey Y),W.mg_of X G hP⟩,⟨as,(DP as),W.mg_of X G i7⟩,⟨b9,(DP b9),W.mg_of X G hc⟩,⟨a7,(Ey a7),W.mg_of X G mK⟩,⟨bR,(Ey bR),W.mg_of X G is⟩,⟨a0,(DP a0),W.mg_of X G hg⟩,⟨c0,(Ey c0),W.mg_of X G lf⟩,⟨c5,(Fo c5),W.mg_of X G oS⟩,⟨bl,(Ey bl),W.mg_of X G la⟩,⟨cE,(Fo cE),W.mg_of X G mQ⟩,⟨bd,(Fo bd),W.mg_of X G mS⟩,⟨c1,(DP c1),W.mg_of X G hF⟩,⟨U,(Fo U),W.mg_of X G mY⟩,⟨bK,(Fo bK),W.mg_of X G o1⟩,⟨bL,(DP bL),W.mg_of X G hE⟩,⟨aw,(Fo aw),W.mg_of X G kS⟩,⟨co,(Fo co),W.mg_of X G or⟩,⟨bv,(Fo bv),W.mg_of X G oe⟩,⟨cx,(Fo cx),W.mg_of X G mb⟩,⟨c3,(Fo c3),W.mg_of X G oi⟩,⟨a5,(Fo a5),W.mg_of X G mu⟩,⟨a1,(Fo a1),W.mg_of X G oD⟩,⟨cv,(DP cv),W.mg_of X G oq⟩,⟨c4,(DP c4),W.mg_of X G k0⟩,⟨bP,(Ey bP),W.mg_of X G o2⟩,⟨b8,(DP b8),W.mg_of X G oj⟩,⟨cg,(Fo cg),W.mg_of X G lc⟩,⟨ac,(Fo ac),W.mg_of X G kv⟩,⟨a6,(Ey a6),W.mg_of X G op⟩,⟨bn,(DP bn),W.mg_of X G nK⟩,⟨bm,(Ey bm),W.mg_of X G mt⟩,⟨cs,(Fo cs),W.mg_of X G hT⟩,⟨cl,(DP cl),W.mg_of X G m1⟩,⟨ap,(DP ap),W.mg_of X G n7⟩,⟨c6,(DP c6),W.mg_of X G m3⟩,⟨a2,(kJ a2),W.mg_of X G i9⟩,⟨cn,(Ey cn),W.mg_of X G h3⟩,⟨bN,(kJ bN),W.mg_of X G g9⟩,⟨a8,(DP a8),W.mg_of X G ks⟩,⟨bz,(DP bz),W.mg_of X G mE⟩,⟨a9,(Fo a9),W.mg_of X G mM⟩,⟨da,(DP da),⟨l4,oT,ll,kc⟩⟩,⟨A,(Ey A),⟨hi,mO,A.kp⟩⟩,⟨i,(Ey i),⟨no,mN,i.kp⟩⟩,⟨u,(Fo u),⟨kd,hu,u.kp⟩⟩,⟨J,(DP J),⟨i6,ns,J.kp⟩⟩,⟨L,(DP L),⟨mn,ls,L.kp⟩⟩,⟨y,(DP y),⟨mT,me,y.kp⟩⟩,⟨o,(Ey o),⟨mP,ly,o.kp⟩⟩,⟨b,(Ey b),⟨ob,k9,b.kp⟩⟩,⟨R,(Fo R),⟨g6,ml,R.kp⟩⟩,⟨m,(DP m),⟨nn,mI,m.kp⟩⟩,⟨z,(DP z),⟨ny,g8,z.kp⟩⟩,⟨I,(DP I),⟨k1,nD,I.kp⟩⟩,⟨D,(DP D),⟨hH,mH,D.kp⟩⟩,⟨M,(Ey M),⟨n9,nl,M.kp⟩⟩,⟨Q,(Ey Q),⟨it,mw,Q.kp⟩⟩,⟨S,(DP S),⟨OC,hQ,oa,js⟩⟩,⟨p,(DP p),⟨hX,i4,p.kp⟩⟩,⟨g,(DP g),⟨l0,g7,g.kp⟩⟩,⟨E,(DP E),⟨nc,ih,E.kp⟩⟩,⟨r,(Ey r),⟨ho,hm,r.kp⟩⟩,⟨x,(DP x),⟨kw,i0,x.kp⟩⟩,⟨i5,kb,⟨l9,nv,YY⟩⟩,⟨q,(DP q),⟨kk,lx,q.kp⟩⟩,⟨O,(Ey O),⟨j5,pb,O.kp⟩⟩,⟨f,(DP f),⟨UI,oI,hf,N9⟩⟩,⟨H,(DP H),⟨m5,hO,H.kp⟩⟩,⟨bB,(Fo bB),⟨MD,lv,i1,TK⟩⟩,⟨k,(DP k),⟨oL,oc,k.kp⟩⟩,⟨aD,(DP aD),⟨SZ,lS,l7,l6⟩⟩,⟨d,(DP d),⟨h7,hI,d.kp⟩⟩,⟨P,(DP P),⟨nm,lg,P.kp⟩⟩,⟨F,(DP F),⟨n0,mL,F.kp⟩⟩,⟨c,(DP c),⟨hy,h1,c.kp⟩⟩,⟨n,(Ey n),⟨l1,ot,n.kp⟩⟩,⟨j,(Ey j),⟨lb,mc,j.kp⟩⟩,⟨t,(Ey t),⟨hL,m4,t.kp⟩⟩,dT,⟨h5,lK,i8,f.kp⟩⟩
 exact⟨W.fnOf "law" "law" (DY Lz) (CZ Lz) (Ac Lz) .none W1 dz YE XU RH ZH,λs v=>.of_eq rfl,λbase _ _=>gF FZ N T F0⟩
theorem walk {l:W.OpenLaw} {q:Program} {m:List Str} {o:(Str->Option Value)->Heap->Prop} {c:World->Heap->Prop} {d:DefRec} {K:Params->W.Frag} (r:l.most=some 63) (g:d.params.defaults=[])
  (t:∀ (w:World) (h:Heap),c w h->(K w.params).In h)
  (F:∀ (w:World) (b:Str->Option Value) (e:Addr) (h:Heap),(K w.params).In h->h.Ns mainGlobals b->b d.name=some (.ref e) ->
   ∃ fd:FuncData,(∀ (s:Shared) (u:Value),BindsTo s fd ⟨[u],[]⟩ [("_law_script",u)])/\∀ base:Heap,(K w.params).In base->base.Ns mainGlobals b->Ao l.prog w (K w.params) b base Bb 12 e fd z5 (Ov (K w.params))) :
  W.WalkO q m o c l.row.toRowW d [] (λf vs=>PySem.call f vs) :=
 L2.Z8 (n:=63) (k:=12) (x:="_law_script") (CX:=λ_=>Bb) (sp:=λw=>Ov (K w.params)) r (by decide) g ⟨rfl,by decide,by decide⟩ t F (λ_ _ a j p _ i=>⟨a,j,rfl,i,p,λ_=>rfl⟩) λ_ _ _ _ _ z=>z
end K44
open PySem PySem.W PyProof.Rows
namespace PySem.W.Fast
def tw6624730494728310794:=()
def tw3132769264455741114:=()
def tw9273635798804522327:=()
def tw6330190910594468613:=()
def tw10745494739732043752:=()
def tw583372126392673796:=()
def tw9299233427655512333:=()
def tw17220606203459154337:=()
def tw7562432052802301875:=()
def tw5363105422019871097:=()
def tw2000584940735570560:=()
def tw1992691764689832646:=()
def tw17040664640193759840:=()
def tw12265292160007052394:=()
def tw3256141723164482122:=()
def tw16485666922421169905:=()
def tw782011077216299886:=()
def tw2309388454092724619:=()
def tw17934081191626730470:=()
def tw9084422156870777477:=()
def tw6628531861413706222:=()
def tw4398694308818684287:=()
def tw15073278528832162373:=()
def tw2621912811181456909:=()
def tw5990178114308939555:=()
def tw8031612767377775288:=()
def tw6065144765270063631:=()
def tw354110234992669811:=()
def tw4559963883733234097:=()
def tw2974856125923964586:=()
def tw13708568768207001857:=()
def tw7839322906500369887:=()
def tw14839001099386966859:=()
def tw8992530389952003725:=()
def tw6661668325901594616:=()
def tw8463405728957722497:=()
def tw16456161849034958452:=()
def tw4957278774190688043:=()
def tw8286072507239706621:=()
def tw4344694382728180423:=()
def tw3129679897476904375:=()
def tw10480140893888054448:=()
def tw14257452029251316231:=()
def tw4832107700434407414:=()
def tw9939831503160275383:=()
def tw13795005058030434267:=()
def tw14805579886526635057:=()
def tw15013956341049704007:=()
def tw15715463052006681171:=()
def tw3587013117007755253:=()
def tw3541867704586752454:=()
def tw2347690846791645493:=()
def tw11845866151938034288:=()
def tw12644680926031525609:=()
def tw11124208540829406425:=()
def tw15113947581543656660:=()
def tw14015904865124204146:=()
def tw16866983083091119016:=()
def tw14030065875635853794:=()
def tw15092511161392798684:=()
def tw4765929967429049164:=()
def tw10239964996552689127:=()
def tw4542395398513065712:=()
def tw17934004298308461112:=()
def tw11660779219077024799:=()
def tw13638459897422231398:=()
def tw1438530808724809959:=()
def tw5319963410665143493:=()
def tw15445827824254824161:=()
def tw7975090790148201449:=()
def tw3539712220482174705:=()
def tw11431066385365352898:=()
def tw12718322194483359608:=()
def tw16449181850676766561:=()
def tw8226164184249363807:=()
def tw17287342486250506028:=()
def tw6420955196651717538:=()
def tw3124001980927368090:=()
def tw3501165564989599776:=()
def tw3265349700125711866:=()
def tw411858037038417492:=()
def tw8235843834823898352:=()
def tw16229717733071038659:=()
def tw6045668955371791734:=()
def tw4464374180406902697:=()
def tw431054140931136405:=()
def tw6264634593333526966:=()
def tw7282363264927348177:=()
def tw582921990025084400:=()
def tw18333597933355012096:=()
def tw13298382485117354436:=()
def tw6879633878760797132:=()
def tw12758120693335182516:=()
def tw6301208940528352729:=()
def tw9499886248027893022:=()
def tw8302244169301417060:=()
def tw7862163003605319807:=()
def tw16771264325572405185:=()
def tw17979733850411259155:=()
def tw11775974529976953648:=()
def tw11222506224914496726:=()
def tw5261536174405120488:=()
def tw13789683208004490350:=()
def tw4976631258144875012:=()
def tw3649454791551392686:=()
def tw11778762180980106216:=()
def tw3994253367636756749:=()
def tw15920919112208026352:=()
def tw11683656568241898198:=()
def tw13772303292606136938:=()
def tw10680950053722590648:=()
def tw1913451250945091770:=()
def tw12423230422493946428:=()
def tw13283418240133831906:=()
def tw8090477636585215957:=()
def tw200313346142009425:=()
def tw2490097939863372504:=()
def tw8293563128634563056:=()
def tw14102795101048541573:=()
def tw13165448902317368262:=()
def tw15661277104258458043:=()
def tw18214964705205008502:=()
def tw8252534036017198354:=()
def tw11955520905851010002:=()
def tw9892958522721024225:=()
def tw18282787142738458417:=()
end PySem.W.Fast
set_option maxRecDepth 100000 in
set_option maxHeartbeats 0 in
theorem PySem.Challenge.cw_windchest_k44_whole_changes_told_holds : PySem.Challenge.rw_windchest_k44_whole_changes_told.Holds := by
 w_on; o_law; k_head; (case hw=>w_witness2)
 k_fill
 refine K44.walk (l:=PySem.Challenge.rw_windchest_k44_whole_changes_told) rfl rfl (fun w h Y=>PySem.W.kIn_of Y) ?F
 case F =>
  intro w mg fa h KX G hmg
  refine' K44.eO KX G hmg ?_ ?_ ?_ ?_ ?_ ?_ ?_ ?_ ?_ ?_ ?_ ?_ ?_ ?_ ?_ ?_ ?_ ?_ ?_ ?_ ?_ ?_ ?_ ?_ ?_ ?_ ?_ ?_ ?_ ?_ ?_ ?_ ?_ ?_ ?_ ?_ ?_ ?_ ?_ ?_ ?_ ?_ ?_ ?_ ?_ ?_ ?_ ?_ ?_ ?_ ?_ ?_ ?_ ?_ ?_ ?_ ?_ ?_ ?_ ?_ ?_ ?_ ?_ ?_ ?_ ?_ ?_ ?_ ?_ ?_ ?_ ?_ ?_ ?_ ?_ ?_ ?_ ?_ ?_ ?_ ?_ ?_ ?_ ?_ ?_ ?_ ?_ ?_ ?_ ?_ ?_ ?_ ?_ ?_ ?_ ?_ ?_ ?_ ?_ ?_ ?_ ?_ ?_ ?_ ?_ ?_ ?_ ?_ ?_ ?_ ?_ ?_ ?_ ?_ ?_ ?_ ?_ ?_ ?_ ?_ ?_ ?_ ?_ ?_ ?_ ?_ ?_ ?_ ?_ ?_ ?_ ?_ ?_ ?_ ?_ ?_ ?_ ?_ ?_ ?_ ?_ ?_ ?_ ?_ ?_ ?_ ?_ ?_ ?_ ?_ ?_ ?_ ?_ ?_ ?_ ?_ ?_ ?_ ?_ ?_ ?_ ?_ ?_ ?_ ?_ ?_ ?_ ?_ ?_ ?_ ?_ ?_ ?_ ?_ ?_ ?_ ?_ ?_ ?_ ?_ ?_ ?_ ?_ ?_ ?_ ?_ ?_ ?_ ?_ ?_ ?_ ?_ ?_ ?_ ?_ ?_ ?_ ?_ ?_ ?_ ?_ ?_ ?_ ?_ ?_ ?_ ?_ ?_ ?_ ?_ ?_ ?_ ?_ ?_ ?_ ?_ ?_ ?_ ?_ ?_ ?_ ?_ ?_ ?_ ?_ ?_ ?_ ?_ ?_ ?_ ?_ ?_ ?_ ?_ ?_ ?_ ?_ ?_ ?_ ?_ ?_ ?_ ?_ ?_ ?_ ?_ ?_ ?_ ?_ ?_ ?_ ?_ ?_ ?_ ?_ ?_ ?_ ?_ ?_ ?_ ?_ ?_ ?_ ?_ ?_ ?_ ?_ ?_ ?_ ?_ ?_ ?_ ?_ ?_ ?_ ?_ ?_ ?_ ?_ ?_
  all_goals first | (k_is; done) | (refine' ⟨?a,_,L2.Qn ?l ?c ?k⟩; (case a=>k_is); (case l=>k_is); (case c=>k_is); case k=>k_is) | (refine' ⟨?a,?i,_,L2.Qn ?l ?c ?k⟩; (case a=>k_is); (case i=>k_is); (case l=>k_is); (case c=>k_is); case k=>k_is) | (k_keys; done) | decide | kernel_rfl! | skip
