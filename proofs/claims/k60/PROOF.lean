import PyProof.Rows.All
import Wide.All
import OpenK.AllK
import Wide.FinOn
import Lean
import PyProof.EqAt
import PyProof.EqKinds
import PyProof.TupleCall
import PyProof.ZipIter
import PyProof.WalksEnum
import PyProof.EnumMake
import PyProof.NeKinds
import KE.KDictList
import PyProof.Rows.SetFrom
import PyProof.StrWalks
import PyProof.CollectWalk
import PyProof.Rows.SortWalk
import PyProof.Rows.BitMore
import PyProof.Rows.IntCalls
import KE.KRevIter
import PyProof.SetRoads
import OpenK.KTop
import PyProof.Rows.StrWeight2
import PyProof.SumWalk
import PyProof.SliceList
import PyProof.FactsAll.subtypes_4
import KE.KSortAsk
import KE.KSortTup
import PyProof.SeqI3
import KE.KLam
import PyProof.Rows.CallKwBuiltin
import PyProof.StationsW
import PyProof.NsDelKeeps
import PyProof.IsRules
import PyProof.Rows.StrClose
import PyProof.Rows.CatFin
import PySem.Challenge.RW_windchest_k60_sound_of_rolls
abbrev vSP:=PySem.Value->PySem.Shared->Prop
def ae:=@List.getElem?_eq_getElem
def af:=@List.length_map
def ag:=@List.getElem?_eq_some_iff
def ah:=@List.length_append
def ai:=@Nat.le_refl
def am:=@List.mem_singleton
def ar:=@List.getElem?_map
def av:=@List.mem_of_getElem?
def ax:=@Nat.lt_of_lt_of_le
def ay:=@List.mem_map
def aE:=@List.getD_eq_getElem?_getD
def aI:=@List.mem_append
def aS:=@List.mem_filter
def aT:=@List.map_map
def ba:=@List.mem_cons_of_mem
def bb:=@PySem.F.plainAttrs_list
def be:=@Nat.ne_of_lt
def bi:=@Nat.le_trans
def bo:=@List.size_toArray
def bp:=@List.mem_append_right
def bq:=@List.length_singleton
def br:=@List.filter_eq_self
def bt:=@List.mem_cons_self
def bv:=@Nat.lt_of_le_of_lt
def bE:=@PyProof.Rows.boot_isinstance
def bX:=@PySem.F.slot_list_append
def ce:=@PySem.F.type_list_append
def cf:=@List.mem_append_left
def ci:=@List.mem_map_of_mem
def ck:=@List.length_filter_le
def cm:=@List.mem_cons
def cq:=@PySem.boot_len
def cr:=@Option.map_eq_some_iff
def cw:=@Bool.eq_iff_iff
def cy:=@List.map_cons
def cE:=@List.take_add_one
def cK:=@List.length_cons
def cS:=@List.filter_cons
def db:=@List.map_append
def dc:=@PyProof.Rows.boot_list
def de:=@List.getElem?_append_right
def df:=@List.length_take
def zdl:=@List.getElem_mem
def dr:=@Nat.succ_le_succ
def dt:=@List.mem_range
def dv:=@List.take_append_of_le_length
def dA:=@Int.toNat_natCast
def dE:=@List.length_range
def dL:=@List.getElem?_append_left
def dQ:=@List.getElem?_eq_none
def dS:=@Bool.and_eq_true
def ed:=@List.foldl_append
def ee:=@Nat.zero_le
def eD:=@List.take_length
def eI:=@Nat.le_of_lt
def eJ:=@Option.isSome_iff_exists
def eR:=@Bool.false_ne_true
def eT:=@List.filter_map
def fb:=@List.all_eq_true
def fe:=@List.take_of_length_le
def ff:=@List.ext_getElem?
def fg:=@Nat.lt_irrefl
def fh:=@Nat.ne_of_gt
def fk:=@List.nodup_cons
def fm:=@List.sum_append
def fo:=@List.filter_append
def fq:=@List.mem_iff_getElem
def ft:=@List.pairwise_append
def fv:=@Bool.not_eq_true
def fw:=@List.getElem?_zipWith
def fz:=@List.take_append_drop
def fA:=@PyProof.Rows.boot_all
def fE:=@List.mem_of_mem_take
def fF:=@Nat.eq_of_testBit_eq
def fI:=@Nat.lt_succ_of_lt
def fN:=@Nat.lt_succ_self
def fR:=@List.lookup_cons
def fS:=@List.any_eq_true
def fT:=@List.pairwise_cons
def ga:=@List.pairwise_map
def ge:=@List.append_assoc
def gg:=@Bool.true_and
def gi:=@List.getElem?_zipIdx
def gp:=@List.getElem?_of_mem
def gs:=@Bool.false_and
def gt:=@List.pairwise_iff_getElem
def gu:=@List.length_zipWith
def gx:=@Int.toNat_of_nonneg
def gy:=@PyProof.Rows.boot_sorted
def gz:=@List.append_nil
def gE:=@Int.emod_lt_of_pos
def gI:=@PySem.F.slot_dict_getitem.lookup
def gL:=@Nat.le_succ
def gS:=@List.eraseIdxIfInBounds_toArray
def gT:=@Nat.le_succ_of_le
def gX:=@List.length_replicate
def hG:=@PyProof.Rows.boot_int
def hU:=@PyProof.Rows.boot_any
def hV:=@Nat.mul_le_mul_right
def hZ:=@Nat.pow_le_pow_right
def ia:=@List.any_cons
def ib:=@Option.map_some
def ic:=@Nat.not_lt_zero
def ii:=@List.map_id
def ij:=@List.map_congr_left
def im:=@List.take_left'
def io:=@Int.natCast_nonneg
def ip:=@Nat.lt_trans
def iq:=@Nat.sub_self
def iA:=@List.all_cons
def iE:=@List.map_take
def iF:=@List.length_drop
def iL:=@Nat.le_add_right
def iN:=@List.getElem_map
theorem iO {p q r:Prop} (h:p):(p∨q)∨r:=.inl (.inl h)
local macro_rules|`(tactic|decide)=>`(tactic|decide +kernel)
local macro_rules | `(tactic| omega) => `(tactic| lia)
set_option Elab.async false
set_option linter.all false
set_option maxRecDepth 100000
noncomputable section
namespace L2
open PySem PySem.Spec PyProof.Rows
variable {s:Shared} {a C f dx aB aP aM l:Addr} {A:Around} {n i j t':Nat} {pos:Pos} {x t qual:Str} {a0:List (Addr × Obj)} {prog P:Program} {e tg iter:Expr} {u:Value} {h h' base:Heap} {Q:vSP} {p:Array Nat} {es:List Expr} {rk:List (Str × Nat × Int)} {scope:Scope} {fd:FuncData} {us:List Value} {fp:List Addr} {st:Stmt} {mg:Str->Option Value} {led:Bool}
abbrev Key:=Sum Int Str
def J6:Key->Value->Bool
 | .inl k,v=>Value.isInt k v
 | .inr x,v=>Value.isStrOf x v
def o8 (w:World):Key->Int
 | .inl k=>hashInt k
 | .inr x=>hashStr w x
theorem CG:∀ {k:Key} {v:Value},J6 k v=true->(∃ i t,k=Sum.inl i/\v=Value.int i t) \/ (∃ x t,k=Sum.inr x/\v=Value.str x t)
 | .inl i,v,h=>by
  obtain⟨t,e⟩:=Value.isInt_shape (k:=i) (v:=v) h
  exact .inl ⟨i,t,rfl,e⟩
 | .inr x,v,h=>by
  obtain⟨t,e⟩:=Value.isStrOf_shape (x:=x) (v:=v) h
  exact .inr ⟨x,t,rfl,e⟩
theorem Sd (i:Int) (t:Tok):J6 (.inl i) (.int i t)=true:=by simp[J6,Value.isInt]
theorem Q_ (x:Str) (t:Tok):J6 (.inr x) (.str x t)=true:=by simp[J6,Value.isStrOf]
theorem bx (a b:Int):decide ((Sum.inl a:Key)=Sum.inl b)=(a == b):=by
 by_cases e:a=b
 ·subst e;simp
 ·have h:¬ (Sum.inl a:Key)=Sum.inl b:=λq=>e (Sum.inl.inj q)
  rw[decide_eq_false h]
  exact (beq_eq_false_iff_ne.mpr e).symm
theorem Za (a b:Str):decide ((Sum.inr a:Key)=Sum.inr b)=decide (a=b):=by
 by_cases e:a=b
 ·subst e;simp
 ·have h:¬ (Sum.inr a:Key)=Sum.inr b:=λq=>e (Sum.inr.inj q)
  rw[decide_eq_false h,decide_eq_false e]
theorem ZJ (a:Int) (b:Str):decide ((Sum.inl a:Key)=Sum.inr b)=false:=decide_eq_false (λq=>nomatch q)
theorem Zo (a:Str) (b:Int):decide ((Sum.inr a:Key)=Sum.inl b)=false:=decide_eq_false (λq=>nomatch q)
def CZ (prog:Program) (w:World):PySem.KeyKind prog w Key where
 is:=J6
 hash:=o8 w
 inj:=λv a b ha hb=>by
  rcases CG ha with⟨i,t,rfl,rfl⟩ | ⟨x,t,rfl,rfl⟩
  ·rcases CG hb with⟨j,u,rfl,e⟩ | ⟨y,u,rfl,e⟩
   ·injection e with e1 _;rw[e1]
   ·exact nomatch e
  ·rcases CG hb with⟨j,u,rfl,e⟩ | ⟨y,u,rfl,e⟩
   ·exact nomatch e
   ·injection e with e1 _;rw[e1]
 byValue:=λk v h=>by
  rcases CG h with⟨i,t,rfl,rfl⟩ | ⟨x,t,rfl,rfl⟩ <;> rfl
 pyHash:=λhv h=>by
  rcases CG hv with⟨i,t,rfl,rfl⟩ | ⟨x,t,rfl,rfl⟩
  ·exact wpAny_pyHash_int h
  ·exact wpAny_pyHash_str h
 eqBool:=λhu hv h=>by
  rcases CG hu with⟨i,t,rfl,rfl⟩ | ⟨x,t,rfl,rfl⟩
  ·rcases CG hv with⟨j,u,rfl,rfl⟩ | ⟨y,u,rfl,rfl⟩
   ·rw[bx] at h;exact wpAny_eqBool_int h
   ·rw[ZJ] at h;exact SeqAt.EqAt.int_str i t y u _ _ _ _ h
  ·rcases CG hv with⟨j,u,rfl,rfl⟩ | ⟨y,u,rfl,rfl⟩
   ·rw[Zo] at h;exact SeqAt.EqAt.str_int x t j u _ _ _ _ h
   ·rw[Za] at h;exact wpAny_eqBool_str h
 «strs»:=λk x t v h=>by
  rcases CG h with⟨i,u,rfl,e⟩ | ⟨y,u,rfl,e⟩
  ·exact nomatch e
  ·injection e with e1 _
   subst e1
   cases v <;> rfl
theorem Mg (prog:Program) (w:World) (i:Int) (t:Tok):(CZ prog w).is (.inl i) (.int i t)=true:=Sd i t
theorem Nh (prog:Program) (w:World) (x:Str) (t:Tok):(CZ prog w).is (.inr x) (.str x t)=true:=Q_ x t
inductive V where
 | non | bl (b:Bool) | int (i:Int) | str (x:Str) | byt (b:Array UInt8) | flt (b:UInt64) | ref (a:Addr) | ty (n:String)
 deriving DecidableEq
def RelV:V->Value->Prop
 | .non,u=>u=Value.none
 | .bl b,u=>u=Value.bool b
 | .int i,u=>∃ t,u=Value.int i t
 | .str x,u=>∃ t,u=Value.str x t
 | .byt b,u=>∃ t,u=Value.bytes b t
 | .flt b,u=>∃ t,u=Value.float b t
 | .ref a,u=>u=Value.ref a
 | .ty n,u=>u=Value.type n
abbrev Vals:List V->List Value->Prop:=Paired RelV
theorem Vals.length {xs:List V} (r:Vals xs us):xs.length=us.length:=Paired.length r
theorem Vals.get:∀ {xs:List V} {us:List Value} {i:Nat} {x:V},Vals xs us->xs[i]? = some x->∃ u,us[i]? = some u/\RelV x u
 | _,_,_,_,.nil,e=>by simp at e
 | _,_,0,_,.cons r _,e=>by simp at e;subst e;exact⟨_,rfl,r⟩
 | _,_,i+1,x,.cons _ t,e=>by
  obtain⟨u,b,a⟩:=Vals.get (i:=i) (x:=x) t (by simpa using e)
  exact⟨u,by simpa using b,a⟩
theorem Vals.append:∀ {xs ys:List V} {us ws:List Value},Vals xs us->Vals ys ws->Vals (xs++ys) (us++ws)
 | _,_,_,_,.nil,s=>s
 | _,_,_,_,.cons r t,s=>.cons r (Vals.append t s)
theorem Vals.take:∀ {xs:List V} {us:List Value} (n:Nat),Vals xs us->Vals (xs.take n) (us.take n)
 | _,_,0,_=>.nil
 | _,_,_+1,.nil=>.nil
 | _,_,n+1,.cons r t=>.cons r (Vals.take n t)
theorem Vals.drop:∀ {xs:List V} {us:List Value} (n:Nat),Vals xs us->Vals (xs.drop n) (us.drop n)
 | _,_,0,r=>r
 | _,_,_+1,.nil=>.nil
 | _,_,n+1,.cons _ t=>Vals.drop n t
def Gs:Option V->Option Value->Prop
 | some v,some u=>RelV v u
 | none,none=>True
 | _,_=>False
def KV {κ:Type}:List (κ × V)->List (κ × Value)->Prop:=Paired λ(p:κ × V) (q:κ × Value)=>p.1=q.1/\RelV p.2 q.2
def kV:Key->V
 | .inl i=>.int i
 | .inr x=>.str x
inductive HO where
 | lst (xs:List V)
 | tup (xs:List V)
 | dK (kvs:List (Key × V)) | dT (kvs:List (List Key × V))
 | set (S:Int->Bool) (n:Nat)
 | ins (C dx:Addr) (fs:List (Str × V))
 | own (x:Addr)
 | xd (fs:List (Str × V))
 | met (f x:Addr)
 | rng (lo hi:Int)
 | frz (o:Obj) (u:HO)
 | tbl (ps:Array Value)
 | ext (φ:Heap->Prop)
variable {xs vs ys:List V} {y:V} {o:HO} {kvs:List (Key × V)}
abbrev Hp:=Addr->Option HO
def upd (H:Hp) (a:Addr) (o:HO):Hp:=λb=>if b=a then some o else H b
theorem Al {H:Hp}:upd H a o a=some o:=by unfold upd;rw[if_pos rfl]
theorem Aw {H:Hp} {b:Addr} (h:b ≠ a):upd H a o b=H b:=by unfold upd;rw[if_neg h]
theorem QQ {H:Hp} {b:Addr} {u:HO} (h:H a=some o) (h':H b=some u) (d:o ≠ u):a ≠ b:=by
 intro e;subst e;rw[h] at h';exact d (Option.some.inj h')
theorem An {H:Hp} {b:Addr} (h:H a=some o) (h':H b=none):a ≠ b:=by
 intro e;subst e;rw[h] at h';cases h'
section
variable (P:Program) (w:World)
def Bx (H:Hp) (h:Heap) (a:Addr):HO->Prop
 | .lst xs=>xs.length<=sizeLine/\∃ (its:List Value) (n:Nat),Vals xs its/\h.get? a=some { cls:=.type "list",data:=.seq its.toArray n }
 | .tup xs=>xs.length<=sizeLine/\∃ its:List Value,Vals xs its/\IsTup h a its.toArray
 | .dK kvs=>kvs.length<=sizeLine/\(a == sysModules)=false/\∃ vs,KV kvs vs/\h.DictOf (CZ P w) a vs
 | .dT kvs=>kvs.length<=sizeLine/\(a == sysModules)=false/\∃ xs:List (List Key × Addr × Value),
   Paired (λ(p:List Key × V) (q:List Key × Addr × Value)=>p.1=q.1/\H q.2.1=some (.tup (p.1.map kV))/\RelV p.2 q.2.2) kvs xs /\
   ∃ o es ep,h.get? a=some o/\o.ExactDict/\o.data=.dict es ep/\es.toList=xs.map (entryOfKey (tupleKind (CZ P w)))/\(xs.map (·.1)).Nodup
 | .set S n=>h.SetOf (intKind P w) a S n
 | .ins C dx fs=>H dx=some (.own a)/\fs.length<=1000/\dx ≠ a/\h.get? a=some (W.instObj C dx) /\
   ∃ mA,h.Ns1 dx mA/\(∀ f,Gs (fs.lookup f) (mA f))/\PySem.Within mA (fs.map (·.1))
 | .own _=>∃ o,h.get? a=some o
 | .xd fs=>∃ mA,h.Ns1 a mA/\∀ f,Gs (fs.lookup f) (mA f)
 | .rng lo hi=>∃ t u v,h.get? a=some { cls:=.type "range",data:=.fields #[.int lo t,.int hi u,.int 1 v] }
 | .frz o u=>h.get? a=some o/\Bx H h a u
 | .tbl ps=>h.get? a=some { cls:=.none,data:=.fields ps }
 | .met f x=>h.get? a=some (W.methodObj (.ref f) (.ref x))
 | .ext φ=>φ h/\(∃ o,h.get? a=some o)/\∀ h1 h2:Heap,φ h1->(∀ o,h1.get? a=some o->h2.get? a=some o)->φ h2
def Hl (H:Hp) (h:Heap):Prop:=∀ a o,H a=some o->Bx P w H h a o
end
section
variable {w:World} {H H':Hp}
theorem Bx.lt (x:Bx P w H h a o):a<h.objs.size:=by
 cases o with
 | lst c=>obtain⟨_,_,_,_,e⟩:=x;exact Heap.lt_size e
 | tup c=>obtain⟨_,_,_,p⟩:=x;exact p.lt
 | dK b=>obtain⟨_,_,_,_,o,_,_,e,_⟩:=x;exact Heap.lt_size e
 | dT b=>obtain⟨_,_,_,_,o,_,_,e,_⟩:=x;exact Heap.lt_size e
 | set S n=>obtain⟨o,_,_,_,e,_⟩:=x;exact Heap.lt_size e
 | ins C d fs=>obtain⟨_,_,_,e,_⟩:=x;exact Heap.lt_size e
 | own y=>obtain⟨_,e⟩:=x;exact Heap.lt_size e
 | xd fs=>obtain⟨_,⟨_,_,_,e,_⟩,_⟩:=x;exact Heap.lt_size e
 | rng lo i=>obtain⟨_,_,_,e⟩:=x;exact Heap.lt_size e
 | frz g u=>obtain⟨e,_⟩:=x;exact Heap.lt_size e
 | tbl ps=>exact Heap.lt_size (show h.get? a=some _ from x)
 | met f y=>exact Heap.lt_size (show h.get? a=some _ from x)
 | ext φ=>obtain⟨_,⟨_,e⟩,_⟩:=x;exact Heap.lt_size e
theorem Paired.Fg {α β:Type} {F G:α->β->Prop}:∀ {l₁:List α} {l₂:List β},Paired F l₁ l₂->(∀ a b,F a b->G a b)->Paired G l₁ l₂
 | _,_,.nil,_=>.nil
 | _,_,.cons r t,f=>.cons (f _ _ r) (Paired.Fg t f)
theorem Bx.stay (x:Bx P w H h a o) (k:∀ b u,(b=a \/ H b=some (.own a))->h.get? b=some u->h'.get? b=some u)
  (B:∀ b,H b=some (.own a)->H' b=some (.own a)) (G:∀ b xs,H b=some (.tup xs)->H' b=some (.tup xs)):Bx P w H' h' a o:=by
 induction o with
 | lst xs=>obtain⟨z,l,n,r,e⟩:=x;exact⟨z,l,n,r,k _ _ (.inl rfl) e⟩
 | tup xs=>obtain⟨z,l,r,g,e,c⟩:=x;exact⟨z,l,r,g,k _ _ (.inl rfl) e,c⟩
 | dK m=>obtain⟨z,y,D,r,g,i,j,e,c⟩:=x;exact⟨z,y,D,r,g,i,j,k _ _ (.inl rfl) e,c⟩
 | dT m =>
  obtain⟨z,y,xs,r,g,i,j,e,c⟩:=x
  exact⟨z,y,xs,Paired.Fg r λp q z=>⟨z.1,G _ _ z.2.1,z.2.2⟩,g,i,j,k _ _ (.inl rfl) e,c⟩
 | set S n=>obtain⟨g,i,j,t,e,c⟩:=x;exact⟨g,i,j,t,k _ _ (.inl rfl) e,c⟩
 | ins C J fs =>
  obtain⟨d,z,I,e,A,⟨s,i,j,F,c⟩,r⟩:=x
  exact⟨B _ d,z,I,k _ _ (.inl rfl) e,A,⟨s,i,j,k _ _ (.inr d) F,c⟩,r⟩
 | own y=>obtain⟨g,e⟩:=x;exact⟨g,k _ _ (.inl rfl) e⟩
 | xd fs=>obtain⟨A,⟨s,i,j,e,c⟩,r⟩:=x;exact⟨A,⟨s,i,j,k _ _ (.inl rfl) e,c⟩,r⟩
 | rng lo K=>obtain⟨t,u,v,e⟩:=x;exact⟨t,u,v,k _ _ (.inl rfl) e⟩
 | frz g u E=>obtain⟨e,q⟩:=x;exact⟨k _ _ (.inl rfl) e,E q⟩
 | tbl ps =>
  have e:h.get? a=some { cls:=.none,data:=.fields ps }:=x
  show h'.get? a=some { cls:=.none,data:=.fields ps }
  exact k a _ (.inl rfl) e
 | met f y =>
  have e:h.get? a=some (W.methodObj (.ref f) (.ref y)):=x
  show h'.get? a=some (W.methodObj (.ref f) (.ref y))
  exact k a _ (.inl rfl) e
 | ext φ=>obtain⟨p,⟨o,e⟩,st⟩:=x;exact⟨st _ _ p λo q=>k _ _ (.inl rfl) q,⟨o,k _ _ (.inl rfl) e⟩,st⟩
theorem Hl.lt (x:Hl P w H h) (e:H a=some o):a<h.objs.size:=(x a o e).lt
theorem Hl.fresh (x:Hl P w H h) (e:h.objs.size<=a):H a=none:=by
 cases q:H a with
 | none=>rfl
 | some u=>exact absurd (ax (x.lt q) e) (fg _)
theorem Hl.kept (x:Hl P w H h) (k:∀ b u,h.get? b=some u->h'.get? b=some u):Hl P w H h':=λa o e =>
 (x a o e).stay (λb u _ q=>k b u q) (λ_ q=>q) λ_ _ q=>q
theorem Hl.laid (x:Hl P w H h) (k:∀ b u,h.get? b=some u->h'.get? b=some u) (i:h.objs.size<=a) (d:Bx P w (upd H a o) h' a o):Hl P w (upd H a o) h':=λb u e=>by
 have g:=x.fresh i
 by_cases f:b=a
 ·subst f;rw[Al] at e;cases e;exact d
 ·rw[Aw f] at e
  exact (x b u e).stay (λc v _ q=>k c v q) (λc q=>by rw[Aw (An q g)];exact q) λc j q=>by rw[Aw (An q g)];exact q
end
def Rd (H:Hp) (a:Addr) (u:HO):Prop:=H a=some u \/ ∃ o,H a=some (.frz o u)
theorem Rd.ok {w:World} {H:Hp} {u:HO} (r:Rd H a u) (x:Hl P w H h):Bx P w H h a u:=by
 rcases r with r | ⟨o,r⟩
 ·exact x a u r
 ·obtain⟨_,q⟩:=x a _ r
  exact q
def iR:Option HO->Prop
 | some (.lst _)=>True
 | some (.dK _)=>True
 | some (.dT _)=>True
 | some (.set _ _)=>True
 | some (.ins _ _ _)=>True
 | some (.ext _)=>True
 | _=>False
section
variable {w:World} {H:Hp} {x e:Addr} {o':HO}
theorem Hl.write (ok:Hl P w H h) (g:iR (H x)) (o:e=x \/ H e=some (.own x)) (k:∀ b u,b ≠ e->h.get? b=some u->h'.get? b=some u) (p:∃ u,h'.get? e=some u)
  (m:Bx P w (upd H x o') h' x o'):Hl P w (upd H x o') h':=λb u q=>by
 have d:∀ c y,H c=some (.own y)->c ≠ x:=λc y r z=>by subst z;rw[r] at g;exact g
 have f:∀ c l,H c=some (.tup l)->c ≠ x:=λc l r z=>by subst z;rw[r] at g;exact g
 by_cases i:b=x
 ·subst i;rw[Al] at q;cases q;exact m
 ·rw[Aw i] at q
  by_cases a:b=e
  ·have n:H b=some (.own x):=by
    rcases o with z | z
    ·exact absurd (a.trans z) i
    ·rw[a];exact z
   rw[q] at n;cases n
   obtain⟨v,s⟩:=p
   exact⟨v,by rw[a];exact s⟩
  ·refine (ok b u q).stay (λc v j r=>k c v ?_ r) (λc r=>by rw[Aw (d c b r)];exact r) λc l r=>by rw[Aw (f c l r)];exact r
   rcases j with rfl | j
   ·exact a
   ·rintro rfl
    rcases o with z | z
    ·exact d c b j z
    ·rw[j] at z;cases z;exact i rfl
end
structure Un (fs ex:List Addr) (H H':Hp) (h h':Heap):Prop where
 keep:∀ b o,h.get? b=some o->H b=none->b ∉ fs->b ∉ ex->h'.get? b=some o
 slot:∀ b o,h.get? b=some o->H b=none->b∈fs->b ∉ ex->∃ sl,h'.get? b=some { o with slots:=sl }
 free:∀ b o,h.get? b=some o->H b=none->b ∉ ex->H' b=none
 there:∀ b o,h.get? b=some o->b ∉ ex->∃ o',h'.get? b=some o'
 tups:∀ b xs,H b=some (.tup xs)->H' b=some (.tup xs)
 frzs:∀ b o u,H b=some (.frz o u)->H' b=some (.frz o u)
 tbls:∀ b ps,H b=some (.tbl ps)->∃ more,H' b=some (.tbl (ps++more))
section
variable {fs qk ex Sk:List Addr} {H H1 H2:Hp} {h1 h2:Heap} {x e:Addr}
theorem Un.any (u:Un fs ex H H1 h h1) {b:Addr} {a:Obj} (q:h.get? b=some a) (n:H b=none) (d:b ∉ ex):∃ sl,h1.get? b=some { a with slots:=sl }:=by
 by_cases c:b∈fs
 ·exact u.slot b a q n c d
 ·exact⟨a.slots,u.keep b a q n c d⟩
theorem Un.kept (k:∀ b u,h.get? b=some u->h'.get? b=some u):Un fs ex H H h h' :=
 ⟨λb a q _ _ _=>k b a q,λb a q _ _ _=>⟨a.slots,k b a q⟩,λ_ _ _ n _=>n,λb a q _=>⟨a,k b a q⟩,λ_ _ q=>q,λ_ _ _ q=>q,λ_ ps q=>⟨#[],by rw[q];simp⟩⟩
theorem Un.refl:Un fs ex H H h h:=Un.kept λ_ _ q=>q
theorem Un.laid (k:∀ b u,h.get? b=some u->h'.get? b=some u) (e:h.objs.size<=a) (c:H a=none):Un fs ex H (upd H a o) h h' where
 keep:=λb u q _ _ _=>k b u q
 slot:=λb u q _ _ _=>⟨u.slots,k b u q⟩
 free:=λb u q n _=>by rw[Aw (be (ax (Heap.lt_size q) e))];exact n
 there:=λb u q _=>⟨u,k b u q⟩
 tups:=λb d q=>by rw[Aw (An q c)];exact q
 frzs:=λb u d q=>by rw[Aw (An q c)];exact q
 tbls:=λb ps q=>⟨#[],by rw[Aw (An q c),q];simp⟩
theorem Un.write (c:iR (H x)) (i:e=x \/ H e=some (.own x)) (k:∀ b u,b ≠ e->h.get? b=some u->h'.get? b=some u) (j:∃ u,h'.get? e=some u):Un fs ex H (upd H x o) h h':=by
 have f:∀ b,H b=none->b ≠ x:=λb n z=>by subst z;rw[n] at c;exact c
 have g:∀ b,H b=none->b ≠ e:=λb n z=>by
  subst z
  rcases i with r | r
  ·exact f b n r
  ·rw[n] at r;cases r
 have d:∀ b u,H b=some u->¬ iR (some u)->b ≠ x:=λb u q m z=>by subst z;rw[q] at c;exact m c
 refine⟨λb u q n _ _=>k b u (g b n) q,λb u q n _ _=>⟨u.slots,k b u (g b n) q⟩,λb u q n _=>by rw[Aw (f b n)];exact n,λb u q _=>?_,
  λb l q=>by rw[Aw (d b _ q λz=>z)];exact q,λb u l q=>by rw[Aw (d b _ q λz=>z)];exact q,λb ps q=>⟨#[],by rw[Aw (d b _ q λz=>z),q];simp⟩⟩
 by_cases a:b=e
 ·subst a;exact j
 ·exact⟨u,k b u a q⟩
end
def jh (h:Heap) (H:Hp):List Addr:=(List.range h.objs.size).filter λa=>(H a).isSome
def Kh (h:Heap) (H:Hp):Heap:=W.hideAll h (jh h H)
theorem SM (h:Heap) (H:Hp):(Kh h H).objs.size=h.objs.size:=W.hideAll_size _ _
theorem Vh {H:Hp} {b:Addr} {o:Obj} (e:h.get? b=some o) (n:H b=none):(Kh h H).get? b=some o :=
 W.hideAll_get _ e λa=>by
  have q:(H b).isSome=true:=(aS.mp a).2
  rw[n] at q;simp at q
variable {H H' H1:Hp}
theorem Xa {b:Addr} {o:Obj} (e:(Kh h H).get? b=some o):h.get? b=some o/\H b=none:=by
 have a:h.get? b=some o:=W.of_hideAll (jh h H) e
 refine⟨a,?_⟩
 cases q:H b with
 | none=>rfl
 | some x =>
  have c:b∈jh h H:=List.mem_filter.mpr ⟨List.mem_range.mpr (Heap.lt_size a),by simp[q]⟩
  have z:(Kh h H).get? b=none:=W.hideAll_none (jh h H) c
  rw[z] at e;cases e
def Wb (g h:Heap) (L:Addr):List (Addr × Obj):=(List.range h.objs.size).filterMap λa=>if a=L \/ (g.get? a).isSome=true then none else (h.get? a).map λo=>(a,o)
def rest (g h:Heap) (L d:Addr):List (Addr × Obj):=(Wb g h L).filter λp=>decide (p.1 ≠ d)
structure Mod (K:W.Frag) (mg:Str->Option Value) (base:Heap):Prop where
 kin:K.In base
 glob:base.Ns mainGlobals mg
 blt:∃ mb,base.Ns builtinsNs mb/\∀ x:Str,x ≠ "__name__"->mb x=bootBuiltins x
 nolimit:base.NoLimit
structure Cx where
 prog:Program
 w:World
 K:W.Frag
 mg:Str->Option Value
 base:Heap
 A:Around
 N:List Str
 s₀:Shared
 H₀:Hp
 env:Env
 outer:List Env
 stack:List Env
 ex:List Addr
 fn:Str->Bool
 calm:Bool
 pn:List (Addr × Obj)
 xe:Value->Shared->Prop
def frs (l:List Env):List Addr:=l.filterMap (·.frame)
abbrev Cx.fs (X:Cx):List Addr:=frs X.outer
def oW (sc:Scope) (x:Str):Prop:=sc.names.lookup x=some .local \/ sc.names.lookup x=some .cell \/ sc.names.lookup x=some .free
def Loc (sc:Scope) (x:Str):Prop:=sc.names.lookup x=some .local \/ sc.names.lookup x=some .cell
def Look (env:Env) (h:Heap) (m:Str->Option Value) (x:Str) (u:Value):Prop :=
 (env.kindOf x=some .local/\m x=some u) \/ ((env.kindOf x=some .cell \/ env.kindOf x=some .free)/\∃ c,env.cells.lookup x=some c/\h.IsCell c (some u))
structure Cx.Ok (X:Cx):Prop where
 mod:Mod X.K X.mg X.base
 kind:X.env.scope.kind=.function
 glob:X.env.globals=mainGlobals
 blt:X.env.builtins=builtinsNs
 above:X.s₀.heap.objs.size<=X.env.locals
 inj:∀ x y c,X.env.cells.lookup x=some c->X.env.cells.lookup y=some c->x=y
 has:∀ x,(X.env.kindOf x=some .cell \/ X.env.kindOf x=some .free)->∃ c,X.env.cells.lookup x=some c
 cab:∀ x c,X.fn x=true->X.env.cells.lookup x=some c->X.s₀.heap.objs.size<=c
 hd:X.calm=true->X.A.handled=none
 frames:X.A.frames=some X.stack
 stk:X.stack=X.outer \/ (X.stack=X.env::X.outer/\X.env.frame=some X.env.locals)
 exf:∀ b∈X.ex,b ≠ X.env.locals/\∀ x c,X.env.cells.lookup x=some c->c ≠ b
 bs:∀ b o,X.base.get? b=some o->X.s₀.heap.get? b=some o/\X.H₀ b=none
 bsz:X.base.objs.size<=X.s₀.heap.objs.size
 noex:∀ b o,X.base.get? b=some o->b ∉ X.ex
 exfs:∀ b∈X.ex,b ∉ X.fs
 JQ:X.s₀.heap.FunFrames X.base X.outer
 frf:∀ b∈X.fs,X.H₀ b=none
structure Inv (X:Cx) (a0:List (Addr × Obj)) (σ:List (Option V)) (H:Hp) (s:Shared):Prop where
 ok:X.Ok
 os:s.os=X.s₀.os
 bare:AllBare s.gens
 base:Un X.fs X.ex X.H₀ H X.s₀.heap s.heap
 loc:∃ m,s.heap.Ns X.env.locals m/\∀ (i:Nat) (x:Str) (v:V),X.N[i]? = some x->σ[i]? = some (some v)->oW X.env.scope x->∃ u,RelV v u/\Look X.env s.heap m x u
 cell:∀ x c,X.env.cells.lookup x=some c->∃ v,s.heap.IsCell c v
 free:H X.env.locals=none
 freeC:∀ x c,X.env.cells.lookup x=some c->H c=none
 pin:∀ p∈X.pn++a0,s.heap.get? p.1=some p.2/\H p.1=none/\p.1 ≠ X.env.locals/\p.1 ∉ X.fs/\∀ v,p.2.data ≠ .cell v
 hok:Hl X.prog X.w H s.heap
 len:σ.length=X.N.length
section
variable {X:Cx} {σ:List (Option V)}
theorem Cx.Ok.nH (ok:X.Ok) {b:Addr} {o:Obj} (e:X.base.get? b=some o):b ∉ X.fs:=λa=>by
 have:=(ok.JQ.mem a).1
 rw[e] at this;cases this
theorem Inv.bs (I:Inv X a0 σ H s):∀ b o,X.base.get? b=some o->s.heap.get? b=some o/\H b=none:=λb o e =>
 ⟨I.base.keep b o (I.ok.bs b o e).1 (I.ok.bs b o e).2 (I.ok.nH e) (I.ok.noex b o e),I.base.free b o (I.ok.bs b o e).1 (I.ok.bs b o e).2 (I.ok.noex b o e)⟩
theorem Inv.bk (I:Inv X a0 σ H s):∀ b o,X.base.get? b=some o->s.heap.get? b=some o:=λb o e=>(I.bs b o e).1
theorem Inv.mod (I:Inv X a0 σ H s):Mod X.K X.mg X.base:=I.ok.mod
theorem Inv.Ig (I:Inv X a0 σ H s):X.K.In s.heap:=I.ok.mod.kin.keeps I.bk
theorem Inv.nolimit (I:Inv X a0 σ H s):s.heap.NoLimit:=I.ok.mod.nolimit.keeps I.bk
theorem Inv.lt (I:Inv X a0 σ H s):X.env.locals<s.heap.objs.size:=let ⟨_,a,_⟩:=I.loc;a.lt
theorem Inv.sz (I:Inv X a0 σ H s):X.s₀.heap.objs.size<=s.heap.objs.size:=bi I.ok.above (eI I.lt)
theorem Inv.mJ (I:Inv X a0 σ H s) (h:s.heap.objs.size<=a):a ∉ X.fs:=λb=>by
 obtain⟨_,o,c,_⟩:=I.ok.JQ.mem b
 exact absurd (ax (Heap.lt_size c) (bi I.sz h)) (fg _)
theorem Inv.Z6 (I:Inv X a0 σ H s):∀ x c,X.env.cells.lookup x=some c->c ≠ X.env.locals:=λx c e z=>by
 obtain⟨v,o,b,a⟩:=I.cell x c e
 obtain⟨m,⟨h,i,g,f,d,_⟩,_⟩:=I.loc
 rw[z,f] at b;cases b;rw[d] at a;cases a
theorem Inv.JQ (I:Inv X a0 σ H s):s.heap.FunFrames X.base X.outer:=by
 have all:∀ (l:List Env),(∀ b∈frs l,b∈X.fs)->X.s₀.heap.FunFrames X.base l->s.heap.FunFrames X.base l:=by
  intro l
  induction l with
  | nil=>intro _ _;trivial
  | cons h r g =>
   intro f i
   obtain⟨p,⟨L,o,c,n,k,j⟩,m⟩:=i
   have d:L∈X.fs:=f L (by unfold frs;rw[List.filterMap_cons,c];exact List.mem_cons_self)
   obtain⟨q,e⟩:=I.base.slot L o k (I.ok.frf L d) d λz=>I.ok.exfs L z d
   exact⟨p,⟨L,_,c,n,e,j⟩,g (λb a=>f b (by unfold frs;rw[List.filterMap_cons,c];exact List.mem_cons_of_mem _ a)) m⟩
 exact all X.outer (λ_ a=>a) I.ok.JQ
theorem Inv.stack (I:Inv X a0 σ H s):s.heap.FunFrames X.base X.stack:=by
 rcases I.ok.stk with e | ⟨e,b⟩
 ·rw[e];exact I.JQ
 ·rw[e]
  obtain⟨m,a,_⟩:=I.loc
  refine .cons (by rw[I.ok.kind];decide) b a ?_ I.JQ
  exact Heap.get?_none_of_le (bi I.ok.bsz I.ok.above)
theorem Inv.MF (I:Inv X a0 σ H s):∀ b∈frs X.stack,b∈X.env.locals::X.fs:=λb a=>by
 rcases I.ok.stk with e | ⟨e,c⟩
 ·rw[e] at a;exact ba _ a
 ·rw[e] at a
  unfold frs at a
  rw[List.filterMap_cons,c] at a
  exact a
theorem Inv.Ld (I:Inv X a0 σ H s):∀ b∈frs X.stack,H b=none:=λb a=>by
 rcases cm.mp (I.MF b a) with e | a
 ·rw[e];exact I.free
 ·obtain⟨_,o,c,_⟩:=I.ok.JQ.mem a
  exact I.base.free b o c (I.ok.frf b a) λz=>I.ok.exfs b z a
theorem Inv.step {g':Array GenState} {t':Nat} {d':Drawn} {ch:List Addr} (I:Inv X a0 σ H s)
  (G:∀ b∈ch,(b∈X.ex \/ X.s₀.heap.objs.size<=b)/\b ≠ X.env.locals/\(∀ x c,X.env.cells.lookup x=some c->c ≠ b)/\∀ p∈X.pn++a0,p.1 ≠ b)
  (keep:∀ b o,b ≠ X.env.locals->b ∉ X.fs->b ∉ ch->s.heap.get? b=some o->H b=none->h'.get? b=some o)
  (t:∀ b o,b ≠ X.env.locals->b∈X.fs->b ∉ ch->s.heap.get? b=some o->H b=none->∃ sl,h'.get? b=some { o with slots:=sl }) (free:∀ b o,b ∉ ch->s.heap.get? b=some o->H b=none->H' b=none)
  (y:∀ b o,b ∉ ch->s.heap.get? b=some o->∃ o',h'.get? b=some o')
  (E:∀ b xs,H b=some (.tup xs)->H' b=some (.tup xs)) (F:∀ b o u,H b=some (.frz o u)->H' b=some (.frz o u)) (C:∀ b ps,H b=some (.tbl ps)->∃ more,H' b=some (.tbl (ps++more)))
  (T:∀ m,s.heap.Ns X.env.locals m->h'.Ns X.env.locals m) (K:Hl X.prog X.w H' h') (P:AllBare g') :
  Inv X a0 σ H' { s with heap:=h',gens:=g',drawn:=d',toks:=t' }:=by
 have B:∀ b o,X.s₀.heap.get? b=some o->b ≠ X.env.locals:=λb o e=>be (ax (Heap.lt_size e) I.ok.above)
 have j:∀ b o,X.s₀.heap.get? b=some o->b ∉ X.ex->b ∉ ch:=λb o e a w=>by
  rcases (G b w).1 with z | z
  ·exact a z
  ·exact absurd (ax (Heap.lt_size e) z) (fg _)
 have g:∀ x c,X.env.cells.lookup x=some c->∀ v,s.heap.IsCell c v->h'.IsCell c v:=λx c e v ⟨o,A,J⟩=>by
  have f:c ∉ ch:=λz=>(G c z).2.2.1 x c e rfl
  by_cases L:c∈X.fs
  ·obtain⟨sl,q⟩:=t c o (I.Z6 x c e) L f A (I.freeC x c e)
   exact⟨_,q,J⟩
  ·exact⟨o,keep c o (I.Z6 x c e) L f A (I.freeC x c e),J⟩
 refine⟨I.ok,I.os,P,⟨λb o e n w a=>?_,λb o e n w a=>?_,λb o e n a=>?_,λb o e a=>?_,λb xs e=>E b xs (I.base.tups b xs e),λb o xs e=>F b o xs (I.base.frzs b o xs e),λb ps e=>?_⟩,?_,λx c e=>?_,?_,λx c e=>?_,λp N=>?_,K,I.len⟩
 ·exact keep b o (B b o e) w (j b o e a) (I.base.keep b o e n w a) (I.base.free b o e n a)
 ·obtain⟨sl,h⟩:=I.base.slot b o e n w a
  obtain⟨Q,D⟩:=t b _ (B b o e) w (j b o e a) h (I.base.free b o e n a)
  exact⟨Q,D⟩
 ·obtain⟨o',h⟩:=I.base.there b o e a
  exact free b o' (j b o e a) h (I.base.free b o e n a)
 ·obtain⟨o',h⟩:=I.base.there b o e a
  exact y b o' (j b o e a) h
 ·obtain⟨V,h⟩:=I.base.tbls b ps e
  obtain⟨R,D⟩:=C b _ h
  exact⟨V++R,by rw[D,Array.append_assoc]⟩
 ·obtain⟨m,S,U⟩:=I.loc
  refine⟨m,T m S,λi x v h D W=>?_⟩
  obtain⟨u,r,l⟩:=U i x v h D W
  refine⟨u,r,?_⟩
  rcases l with l | ⟨k,c,e,z⟩
  ·exact .inl l
  ·exact .inr ⟨k,c,e,g x c e _ z⟩
 ·obtain⟨v,z⟩:=I.cell x c e
  exact⟨v,g x c e v z⟩
 ·obtain⟨m,⟨o,_,_,A,_⟩,_⟩:=I.loc
  exact free _ o (λz=>(G _ z).2.1 rfl) A I.free
 ·obtain⟨v,o,A,J⟩:=I.cell x c e
  exact free c o (λz=>(G c z).2.2.1 x c e rfl) A (I.freeC x c e)
 ·obtain⟨e,n,O,M,d⟩:=I.pin p N
  have f:p.1 ∉ ch:=λz=>(G p.1 z).2.2.2 p N rfl
  exact⟨keep p.1 p.2 O M f e n,free p.1 p.2 f e n,O,M,d⟩
theorem Inv.un {t':Nat} (I:Inv X a0 σ H s) (u:Un X.fs [] H H' s.heap h') (d:Hl X.prog X.w H' h'):Inv X a0 σ H' { s with heap:=h',toks:=t' }:=by
 obtain⟨m,⟨o,q,t,f,r⟩,_⟩:=id I.loc
 obtain⟨l,j⟩:=u.any f I.free (by simp)
 exact I.step (g':=s.gens) (d':=s.drawn) (ch:=[]) (λ_ z=>nomatch z) (λb o _ c _ e n=>u.keep b o e n c (by simp)) (λb o _ c _ e n=>u.slot b o e n c (by simp)) (λb o _ e n=>u.free b o e n (by simp)) (λb o _ e=>u.there b o e (by simp)) u.tups u.frzs u.tbls (λp i=>by
  obtain⟨v,a,h,g,k⟩:=i
  rw[f] at g;cases g
  exact⟨_,a,h,j,k⟩) d I.bare
theorem Inv.call {g':Array GenState} {t':Nat} {d':Drawn} {ch:List Addr} (I:Inv X a0 σ H s) (u:Un (frs X.stack) ch H H' s.heap h') (f:Hl X.prog X.w H' h') (k:AllBare g')
  (i:∀ b∈ch,(b∈X.ex \/ X.s₀.heap.objs.size<=b)/\b ≠ X.env.locals/\(∀ x c,X.env.cells.lookup x=some c->c ≠ b)/\∀ p∈X.pn++a0,p.1 ≠ b) :
  Inv X a0 σ H' { s with heap:=h',gens:=g',drawn:=d',toks:=t' }:=by
 obtain⟨m,⟨o,y,B,h,r⟩,_⟩:=id I.loc
 obtain⟨A,g⟩:=u.any h I.free λz=>(i _ z).2.1 rfl
 exact I.step (ch:=ch) i (λb o g l a e n=>u.keep b o e n (λz=>(cm.mp (I.MF b z)).elim g l) a) (λb o _ _ a e n=>u.any e n a) (λb o a e n=>u.free b o e n a) (λb o a e=>u.there b o e a) u.tups u.frzs u.tbls (λw t=>by
  obtain⟨C,d,q,j,v⟩:=t
  rw[h] at j;cases j
  exact⟨_,d,q,g,v⟩) f k
theorem Inv.turned {t':Nat} {it:Addr} (I:Inv X a0 σ H s) (k:∀ b o,b ≠ it->s.heap.get? b=some o->h'.get? b=some o) (A:H it=none) (f:it ≠ X.env.locals)
  (y:it∈X.ex \/ X.s₀.heap.objs.size<=it) (g:∀ x c,X.env.cells.lookup x=some c->c ≠ it) (j:∀ p∈X.pn++a0,p.1 ≠ it):Inv X a0 σ H { s with heap:=h',toks:=t' }:=by
 have d:∀ b u,H b=some u->b ≠ it:=λb u e z=>by rw[z,A] at e;cases e
 refine I.step (g':=s.gens) (d':=s.drawn) (ch:=[it]) (λb h=>?_) (λb o _ _ a e _=>k b o (λz=>a (by simp[z])) e) (λb o _ _ a e _=>⟨o.slots,k b o (λz=>a (by simp[z])) e⟩) (λ_ _ _ _ n=>n)
  (λb o a e=>⟨o,k b o (λz=>a (by simp[z])) e⟩) (λ_ _ e=>e) (λ_ _ _ e=>e) (λb ps e=>⟨#[],by rw[e];simp⟩) (λm w=>?_) (λb u e=>?_) I.bare
 ·have e:b=it:=by simpa using h
  subst e
  exact⟨y,f,g,j⟩
 ·obtain⟨o,i,t,l,r⟩:=w
  exact⟨o,i,t,k _ o (Ne.symm f) l,r⟩
 ·refine (I.hok b u e).stay (λc v a q=>k c v ?_ q) (λ_ q=>q) λ_ _ q=>q
  rcases a with z | z
  ·rw[z];exact d b u e
  ·exact d c _ z
theorem Inv.tok (I:Inv X a0 σ H s) (t:Nat):Inv X a0 σ H { s with toks:=t }:=I.un (h':=s.heap) (t':=t) Un.refl I.hok
theorem Inv.kept {t':Nat} (I:Inv X a0 σ H s) (k:∀ b u,s.heap.get? b=some u->h'.get? b=some u):Inv X a0 σ H { s with heap:=h',toks:=t' }:=I.un (Un.kept k) (I.hok.kept k)
theorem Inv.laid {t':Nat} (I:Inv X a0 σ H s) (k:∀ b u,s.heap.get? b=some u->h'.get? b=some u) (c:s.heap.objs.size<=a) (d:Bx X.prog X.w (upd H a o) h' a o) :
  Inv X a0 σ (upd H a o) { s with heap:=h',toks:=t' }:=I.un (Un.laid k c (I.hok.fresh c)) (I.hok.laid k c d)
theorem Inv.write {x e:Addr} {t':Nat} (I:Inv X a0 σ H s) (f:iR (H x)) (c:e=x \/ H e=some (.own x)) (k:∀ b u,b ≠ e->s.heap.get? b=some u->h'.get? b=some u) (d:∃ u,h'.get? e=some u)
  (a:Bx X.prog X.w (upd H x o) h' x o):Inv X a0 σ (upd H x o) { s with heap:=h',toks:=t' }:=I.un (Un.write f c k d) (I.hok.write f c k d a)
theorem Inv.QC {a:List (Addr × Obj)} (I:Inv X a0 σ H s) (h:∀ p∈a,s.heap.get? p.1=some p.2/\H p.1=none/\p.1 ≠ X.env.locals/\p.1 ∉ X.fs/\∀ v,p.2.data ≠ .cell v):Inv X a σ H s :=
 ⟨I.ok,I.os,I.bare,I.base,I.loc,I.cell,I.free,I.freeC,λp b=>(aI.mp b).elim (λz=>I.pin p (cf _ z)) (h p),I.hok,I.len⟩
theorem Nk {N:List Str} (c:N.Nodup) (a:N[i]? = some x) (b:N[j]? = some x):i=j:=by
 obtain⟨f,e⟩:=ag.mp a
 obtain⟨g,d⟩:=ag.mp b
 exact (List.getElem_inj c).mp (e.trans d.symm)
theorem Kl {M:Model} {E:vSP} {v:V} {Q:Unit->Shared->Prop} (I:Inv X a0 σ H s) (hN:X.N.Nodup) (P:X.N[i]? = some x) (w:Loc X.env.scope x) (r:RelV v u)
  (h:∀ s',Inv X a0 (σ.set i (some v)) H s'->(∃ a,Heap.SameBut a s.heap s'.heap/\(a=X.env.locals \/ X.env.cells.lookup x=some a))->Q () s') (hf:X.fn x=true \/ X.env.scope.names.lookup x=some .local:=by first | exact .inl rfl | exact .inr rfl | assumption):wpAny M A (storeName X.env x u) Q E s:=by
 obtain⟨m,hn,hl⟩:=id I.loc
 have N:(X.env.scope.kind == .class || (X.env.scope.kind == .module && X.env.locals != X.env.globals))=false:=by rw[I.ok.kind];rfl
 have O:i<σ.length:=by rw[I.len];exact (ag.mp P).1
 have Z6:=I.Z6
 have g:∀ {a:Addr} {J:Heap},(∃ o,s.heap.get? a=some o/\H a=none)->Heap.SameBut a s.heap J->Hl X.prog X.w H J:=λ{a J} ha f b ob e=>by
  obtain⟨_,_,B⟩:=ha
  refine (I.hok b ob e).stay (λc R t q=>(f.2 c ?_).trans q) (λ_ q=>q) λ_ _ q=>q
  rintro rfl
  rcases t with rfl | t
  ·rw[B] at e;cases e
  ·rw[B] at t;cases t
 rcases w with D | D
 ·refine wpAny_storeName_local D hn (λJ ab f=>?_) N
  obtain⟨oL,_,_,JE,_⟩:=id hn
  refine h _ ⟨I.ok,I.os,I.bare,⟨λb o e n G w=>?_,λb o e n G w=>?_,I.base.free,λb o e w=>?_,I.base.tups,I.base.frzs,I.base.tbls⟩,⟨_,ab,λj y v' l C e3=>?_⟩,λy c e=>?_,I.free,I.freeC,λp hp=>?_,g ⟨oL,JE,I.free⟩ f,by simpa using I.len⟩ ⟨_,f,.inl rfl⟩
  ·exact (f.2 b (be (ax (Heap.lt_size e) I.ok.above))).trans (I.base.keep b o e n G w)
  ·obtain⟨U,l⟩:=I.base.slot b o e n G w
   exact⟨U,(f.2 b (be (ax (Heap.lt_size e) I.ok.above))).trans l⟩
  ·obtain⟨o',l⟩:=I.base.there b o e w
   exact⟨o',(f.2 b (be (ax (Heap.lt_size e) I.ok.above))).trans l⟩
  ·by_cases F:j=i
   ·subst F
    rw[P] at l;cases l
    rw[List.getElem?_set_self O] at C
    cases C
    exact⟨u,r,.inl ⟨D,by simp⟩⟩
   ·rw[List.getElem?_set_ne (Ne.symm F)] at C
    obtain⟨Z,r',q⟩:=hl j y v' l C e3
    refine⟨Z,r',?_⟩
    rcases q with⟨k,e⟩ | ⟨k,c,e,z⟩
    ·refine .inl ⟨k,?_⟩
     have:y ≠ x:=λe=>F (Nk hN l (e ▸ P))
     simp[this,e]
    ·exact .inr ⟨k,c,e,z.sameBut f (Z6 y c e)⟩
  ·obtain⟨R,z⟩:=I.cell y c e
   exact⟨R,z.sameBut f (Z6 y c e)⟩
  ·obtain⟨e,n,T,Y,d⟩:=I.pin p hp
   exact⟨(f.2 p.1 T).trans e,n,T,Y,d⟩
 ·have W:X.fn x=true:=by
   rcases hf with z | z
   ·exact z
   ·rw[z] at D;cases D
  obtain⟨c,t⟩:=I.ok.has x (.inl D)
  obtain⟨R,z⟩:=I.cell x c t
  refine wpAny_storeName_cell I.ok.kind D t z (λJ L f=>?_)
  obtain⟨oc,DV,Cs⟩:=id z
  refine h { s with heap:=J } ⟨I.ok,I.os,I.bare,⟨λb o e n G w=>?_,λb o e n G w=>?_,I.base.free,λb o e w=>?_,I.base.tups,I.base.frzs,I.base.tbls⟩,⟨m,hn.sameBut f (Ne.symm (Z6 x c t)),λj y v' l C e3=>?_⟩,λy S e=>?_,I.free,I.freeC,λp hp=>?_,g ⟨oc,DV,I.freeC x c t⟩ f,by simpa using I.len⟩ ⟨c,f,.inr t⟩
  ·exact (f.2 b (be (ax (Heap.lt_size e) (I.ok.cab x c W t)))).trans (I.base.keep b o e n G w)
  ·obtain⟨U,l⟩:=I.base.slot b o e n G w
   exact⟨U,(f.2 b (be (ax (Heap.lt_size e) (I.ok.cab x c W t)))).trans l⟩
  ·obtain⟨o',l⟩:=I.base.there b o e w
   exact⟨o',(f.2 b (be (ax (Heap.lt_size e) (I.ok.cab x c W t)))).trans l⟩
  ·by_cases F:j=i
   ·subst F
    rw[P] at l;cases l
    rw[List.getElem?_set_self O] at C
    cases C
    exact⟨u,r,.inr ⟨.inl D,c,t,L⟩⟩
   ·rw[List.getElem?_set_ne (Ne.symm F)] at C
    obtain⟨Z,r',q⟩:=hl j y v' l C e3
    refine⟨Z,r',?_⟩
    rcases q with q | ⟨k,S,e,z'⟩
    ·exact .inl q
    ·refine .inr ⟨k,S,e,z'.sameBut f ?_⟩
     rintro rfl
     exact F (Nk hN l (I.ok.inj _ _ _ e t ▸ P))
  ·by_cases K:S=c
   ·subst K;exact⟨_,L⟩
   ·obtain⟨w2,z2⟩:=I.cell y S e
    exact⟨w2,z2.sameBut f K⟩
  ·obtain⟨e,n,T,Y,d⟩:=I.pin p hp
   refine⟨(f.2 p.1 ?_).trans e,n,T,Y,d⟩
   intro q
   rw[q,DV] at e
   have q':oc=p.2:=Option.some.inj e
   exact d R (by rw[<-q'];exact Cs)
theorem Js {M:Model} {E:vSP} {v:V} {Q:Unit->Shared->Prop} (I:Inv X a0 σ H s) (e:X.N.Nodup) (d:X.N[i]? = some x) (c:Loc X.env.scope x) (r:RelV v u)
  (h:∀ s',Inv X a0 (σ.set i (some v)) H s'->Q () s') (b:X.fn x=true \/ X.env.scope.names.lookup x=some .local:=by first | exact .inl rfl | exact .inr rfl | assumption):wpAny M A (storeName X.env x u) Q E s :=
 Kl I e d c r (λs' a _=>h s' a) b
theorem Inv.call' {s':Shared} {ch:List Addr} (I:Inv X a0 σ H s) (k:s'.os=s.os) (u:Un (frs X.stack) ch H H' s.heap s'.heap) (a:Hl X.prog X.w H' s'.heap) (i:AllBare s'.gens)
  (h:∀ b∈ch,(b∈X.ex \/ X.s₀.heap.objs.size<=b)/\b ≠ X.env.locals/\(∀ x c,X.env.cells.lookup x=some c->c ≠ b)/\∀ p∈X.pn++a0,p.1 ≠ b):Inv X a0 σ H' s':=by
 obtain⟨l,f,g,d,j⟩:=s'
 have e:j=s.os:=k
 subst e
 exact I.call (g':=f) (t':=d) (d':=g) u a i h
end
abbrev XK:=Value->Option Addr->Hp->Prop
abbrev St:=List (Option V)
abbrev VK:=V->Hp->Prop
variable {X:Cx} {σ:St}
abbrev TE:=St->Hp->VK->Prop
abbrev TT:=St->Hp->(Bool->Hp->Prop)->Prop
abbrev TA:=St->Hp->(List V->Hp->Prop)->Prop
structure Ends where
 nx:St->Hp->Prop
 rt:VK
 bk:St->Hp->Prop:=λ_ _=>False
 ct:St->Hp->Prop:=λ_ _=>False
abbrev TS:=Ends->St->Hp->Prop
inductive EP (X:Cx) (a0:List (Addr × Obj)) (σ:St) (Q:VK) (u:Value) (s':Shared):Prop
 | mk (v H':_):Inv X a0 σ H' s'->RelV v u->Q v H'->EP X a0 σ Q u s'
inductive TP (X:Cx) (a0:List (Addr × Obj)) (σ:St) (Q:Bool->Hp->Prop) (b:Bool) (s':Shared):Prop
 | mk (H':_):Inv X a0 σ H' s'->Q b H'->TP X a0 σ Q b s'
inductive AP (X:Cx) (a0:List (Addr × Obj)) (σ:St) (Q:List V->Hp->Prop) (us:List Value) (s':Shared):Prop
 | mk (vs H':_):Inv X a0 σ H' s'->Vals vs us->Q vs H'->AP X a0 σ Q us s'
def SP (X:Cx) (a0:List (Addr × Obj)) (D:Ends) (f:Flow) (s':Shared):Prop :=
 match f with
 | .next=>∃ σ' H',Inv X a0 σ' H' s'/\D.nx σ' H'
 | .brk=>∃ σ' H',Inv X a0 σ' H' s'/\D.bk σ' H'
 | .cont=>∃ σ' H',Inv X a0 σ' H' s'/\D.ct σ' H'
 | .ret u=>∃ v σ' H',Inv X a0 σ' H' s'/\RelV v u/\D.rt v H'
def PE (X:Cx) (e:Expr) (t:TE):Prop :=
 ∀ (a0:List (Addr × Obj)) (s:Shared) (σ:St) (H:Hp) (Q:VK),Inv X a0 σ H s->t σ H Q->wpAny (model X.prog X.w) X.A (eval e X.env) (EP X a0 σ Q) X.xe s
def PT (X:Cx) (e:Expr) (t:TT):Prop :=
 ∀ (a0:List (Addr × Obj)) (s:Shared) (σ:St) (H:Hp) (Q:Bool->Hp->Prop),Inv X a0 σ H s->t σ H Q->wpAny (model X.prog X.w) X.A (isTrue e X.env (eval e X.env)) (TP X a0 σ Q) X.xe s
def PW (X:Cx) (e:Expr) (t:TT):Prop :=
 ∀ (kL:Sem Value) (a0:List (Addr × Obj)) (s:Shared) (σ:St) (H:Hp) (Q:Bool->Hp->Prop),Inv X a0 σ H s->t σ H Q->wpAny (model X.prog X.w) X.A (isTrue e X.env kL) (TP X a0 σ Q) X.xe s
theorem PW.pt {t:TT} (h:PW X e t):PT X e t:=h _
def PA (X:Cx) (es:List Expr) (t:TA):Prop :=
 ∀ (pos:Pos) (a0:List (Addr × Obj)) (s:Shared) (σ:St) (H:Hp) (Q:List V->Hp->Prop),Inv X a0 σ H s->t σ H Q->wpAny (model X.prog X.w) X.A (spliced (backTo pos (starEach es X.env))) (AP X a0 σ Q) X.xe s
def PS (X:Cx) (st:Stmt) (t:TS):Prop :=
 ∀ (a0:List (Addr × Obj)) (s:Shared) (σ:St) (H:Hp) (D:Ends),Inv X a0 σ H s->t D σ H->wpAny (model X.prog X.w) X.A (exec st X.env) (SP X a0 D) X.xe s
def Nv (X:Cx) (st:List Stmt) (t:TS):Prop :=
 ∀ (a0:List (Addr × Obj)) (s:Shared) (σ:St) (H:Hp) (D:Ends),Inv X a0 σ H s->t D σ H->wpAny (model X.prog X.w) X.A (execs st X.env) (SP X a0 D) X.xe s
theorem Bt {α:Type} {t:Sem α} {Q b:α->Shared->Prop} {M:Model} {E:vSP} (h:wpAny M A t Q E s) (c:∀ a s,Q a s->b a s):wpAny M A t b E s:=wpAny_mono h c λ_ _ x=>x
section
inductive aG (i:Nat) (σ:St) (H:Hp) (Q:VK):Prop
 | mk (v:_):σ[i]? = some (some v)->Q v H->aG i σ H Q
def tC (v:V):TE:=λ_ H Q=>Q v H
theorem ZS (p:X.N[i]? = some x) (q:oW X.env.scope x) (b:(x == ("__debug__" : Str))=false:=by decide) (n:(x == ("__classdict__" : Str))=false:=by decide):PE X (.Name x pos) (aG i):=by
 intro j s σ H Q I h
 obtain⟨v,e,h⟩:=h
 obtain⟨m,o,g⟩:=I.loc
 obtain⟨u,r,l⟩:=g i x v p e q
 have fin:EP X j σ Q u s:=⟨v,H,I,r,h⟩
 rcases l with⟨a,k⟩ | ⟨a,c,d,f⟩
 ·exact wpAny_Name (wpAny_loadName_local I.ok.kind a o k fin) b
 ·rcases a with a | a
  ·exact wpAny_Name (wpAny_loadName_cell I.ok.kind a d f fin) b
  ·exact wpAny_Name (wpAny_loadName_free I.ok.kind a d f fin n) b
theorem Ac {i j pos}:PE X (.Constant (.int i) j pos) (tC (.int i)):=λ_ _ _ H _ I h=>wpAny_Constant_int ⟨.int i,H,I.tok _,⟨_,rfl⟩,h⟩
theorem Jq {b j pos}:PE X (.Constant (.bool b) j pos) (tC (.bl b)):=λ_ _ _ H _ I h=>Constant_bool ⟨.bl b,H,I,rfl,h⟩
theorem Pj {j pos}:PE X (.Constant .none j pos) (tC .non):=λ_ _ _ H _ I h=>Constant_none ⟨.non,H,I,rfl,h⟩
theorem Bb {x j pos}:PE X (.Constant (.str x) j pos) (tC (.str x)):=λ_ _ _ H _ I h=>Calls.Constant_str ⟨.str x,H,I.tok _,⟨_,rfl⟩,h⟩
def Gl (X:Cx) (x:Str):Prop:=X.env.kindOf x=some .globalImplicit
theorem Ma {E:vSP} (I:Inv X a0 σ H s) (b:Gl X x) (a:X.mg x=some u) (h:Q u s)
  (c:(x == ("__debug__" : Str))=false:=by decide):wpAny (model X.prog X.w) X.A (eval (.Name x pos) X.env) Q E s :=
 Calls.Name_function_global I.ok.kind b (Calls.loadGlobal_global (by rw[I.ok.glob];exact I.mod.glob.keeps I.bk) a h) c
theorem G7 {E:vSP} (I:Inv X a0 σ H s) (c:Gl X x) (b:X.mg x=none) (g:bootBuiltins x=some u) (h:Q u s)
  (e:x ≠ "__name__":=by decide) (f:(x == ("__debug__" : Str))=false:=by decide):wpAny (model X.prog X.w) X.A (eval (.Name x pos) X.env) Q E s:=by
 obtain⟨i,d,a⟩:=I.mod.blt
 exact Calls.Name_function_global I.ok.kind c (Calls.loadGlobal_builtin (by rw[I.ok.glob];exact I.mod.glob.keeps I.bk) b (by rw[I.ok.blt];exact d.keeps I.bk) ((a x e).trans g) h) f
theorem CJ {v:V} (b:Gl X x) (a:X.mg x=some u) (r:RelV v u) (c:(x == ("__debug__" : Str))=false:=by decide):PE X (.Name x pos) (tC v) :=
 λ_ _ _ H _ I h=>Ma I b a ⟨v,H,I,r,h⟩ c
theorem Du {v:V} (b:Gl X x) (a:X.mg x=none) (d:bootBuiltins x=some u) (r:RelV v u) (c:x ≠ "__name__":=by decide) (e:(x == ("__debug__" : Str))=false:=by decide):PE X (.Name x pos) (tC v) :=
 λ_ _ _ H _ I h=>G7 I b a d ⟨v,H,I,r,h⟩ c e
variable {a b:Expr} {ta tb:TE}
def PC (X:Cx) (op:CmpOp) (a b:Expr) (t:TE):Prop :=
 ∀ (a0:List (Addr × Obj)) (s:Shared) (σ:St) (H:Hp) (Q:VK),Inv X a0 σ H s->t σ H Q ->
  wpAny (model X.prog X.w) X.A (eval a X.env) (λv s₁=>wpAny (model X.prog X.w) X.A (eval b X.env) (λu s₂=>wpAny (model X.prog X.w) X.A (compareOp op v u) (EP X a0 σ Q) X.xe s₂) X.xe s₁) X.xe s
inductive qG (Q:Bool->Hp->Prop) (x:V) (H1:Hp):Prop
 | mk (c:_):x=.bl c->Q c H1->qG Q x H1
def tB (t:TE):TT:=λσ H Q=>t σ H λx H1=>qG Q x H1
theorem TJ {c:CmpOp} {t:TE} (h:PC X c a b t) (d:behindInMarks c b=false:=by first | exact nobehind _ (by decide) (by decide) | rfl):PE X (.Compare a [c] [b] pos) t:=λf s σ H Q I e=>wpAny_Compare1 (h f s σ H Q I e) d
theorem Tp {f:CmpOp} {t:TE} (h:PC X f a b t) (e:behindInMarks f b=false:=by first | exact nobehind _ (by decide) (by decide) | rfl):PT X (.Compare a [f] [b] pos) (tB t):=by
 intro k s σ H Q I j
 refine wpAny_isTrue_Compare1 (Bt (h k s σ H _ I j) λv o e=>Bt e λu p g=>Bt g λc r ⟨x,l,i,m,n⟩=>?_) e
 obtain⟨d,rfl,q⟩:=n
 cases m
 exact wpAny_truthy_bool ⟨l,i,q⟩
theorem Dl {t:TE} (h:PE X e t) (f:∀ kL,isTrue e X.env kL=(do let v <-kL;standAt e.pos;holding [v] (truthy v)):=by intro _;rfl):PT X e (tB t):=by
 intro c s σ H Q I b
 refine isTrue_plain (Bt (h c s σ H _ I b) λv k ⟨x,g,a,i,j⟩=>?_) (f _)
 obtain⟨d,rfl,q⟩:=j
 cases i
 exact wpAny_truthy_bool ⟨g,a,q⟩
variable {tA zr:TT} {rest:List Expr}
def m7 (t u:TT):TT:=λσ H Q=>t σ H λc H1=>if c=true then u σ H1 Q else Q false H1
def kY (t u:TT):TT:=λσ H Q=>t σ H λc H1=>if c=true then Q true H1 else u σ H1 Q
def lE (t:TT):TT:=λσ H Q=>t σ H λc H1=>Q (!c) H1
theorem IW (b:PT X a tA):PW X (.BoolOp .And [a] pos) tA:=by
 intro g d s σ H Q I h
 refine isTrue_and (Bt (b d s σ H Q I h) λc f e=>?_)
 cases c with
 | true=>exact isTrue_and_nil e
 | false=>exact e
theorem Ga (b:PT X a tA):PW X (.BoolOp .Or [a] pos) tA:=by
 intro g d s σ H Q I h
 refine isTrue_or (Bt (b d s σ H Q I h) λc f e=>?_)
 cases c with
 | false=>exact isTrue_or_nil e
 | true=>exact e
theorem Iv (l:PT X a tA) (k:PW X (.BoolOp .And (b::rest) pos) zr):PW X (.BoolOp .And (a::b::rest) pos) (m7 tA zr):=by
 intro m g s σ H Q I h
 refine isTrue_and (Bt (l g s σ H _ I h) λc j d=>?_)
 obtain⟨f,e,i⟩:=d
 cases c with
 | true=>exact k m g j σ f Q e i
 | false=>exact⟨f,e,i⟩
theorem G4 (l:PT X a tA) (k:PW X (.BoolOp .Or (b::rest) pos) zr):PW X (.BoolOp .Or (a::b::rest) pos) (kY tA zr):=by
 intro m g s σ H Q I h
 refine isTrue_or (Bt (l g s σ H _ I h) λc j d=>?_)
 obtain⟨f,e,i⟩:=d
 cases c with
 | true=>exact⟨f,e,i⟩
 | false=>exact k m g j σ f Q e i
theorem DP (e:PT X a tA):PT X (.UnaryOp .Not a pos) (lE tA):=by
 intro f s σ H Q I h
 exact isTrue_not (Bt (e f s σ H (λc b=>Q (!c) b) I h) λc i ⟨b,d,g⟩=>⟨b,d,g⟩)
inductive Vg (tb:TE) (σ:St) (Q:VK) (x:V) (H1:Hp):Prop
 | mk (c:_):x=.bl c->(if c=true then tb σ H1 Q else Q (.bl false) H1)->Vg tb σ Q x H1
def di (ta tb:TE):TE:=λσ H Q=>ta σ H λx H1=>Vg tb σ Q x H1
inductive Yl (tb:TE) (σ:St) (Q:VK) (x:V) (H1:Hp):Prop
 | mk (c:_):x=.bl c->(if c=true then Q (.bl true) H1 else tb σ H1 Q)->Yl tb σ Q x H1
def lA (ta tb:TE):TE:=λσ H Q=>ta σ H λx H1=>Yl tb σ Q x H1
inductive Tz (Q:VK) (x:V) (H1:Hp):Prop
 | mk (c:_):x=.bl c->Q (.bl (!c)) H1->Tz Q x H1
def cu (ta:TE):TE:=λσ H Q=>ta σ H λx H1=>Tz Q x H1
theorem Cp {op} {t:TE} (h:PE X a t):PE X (.BoolOp op [a] pos) t:=λc s σ H Q I b=>BoolOp_one (h c s σ H Q I b)
theorem Cj (l:PE X a ta) (k:PE X (.BoolOp .And (b::rest) pos) tb):PE X (.BoolOp .And (a::b::rest) pos) (di ta tb):=by
 intro g s σ H Q I h
 refine BoolOp_and (Bt (l g s σ H _ I h) λv j e=>?_)
 obtain⟨x,i,f,m,d⟩:=e
 obtain⟨c,rfl,d⟩:=d
 cases m
 refine wpAny_truthy_bool ?_
 cases c with
 | true=>exact k g j σ i Q f d
 | false=>exact⟨.bl false,i,f,rfl,d⟩
theorem fJ (l:PE X a ta) (k:PE X (.BoolOp .Or (b::rest) pos) tb):PE X (.BoolOp .Or (a::b::rest) pos) (lA ta tb):=by
 intro g s σ H Q I h
 refine BoolOp_or (Bt (l g s σ H _ I h) λv j e=>?_)
 obtain⟨x,i,f,m,d⟩:=e
 obtain⟨c,rfl,d⟩:=d
 cases m
 refine wpAny_truthy_bool ?_
 cases c with
 | false=>exact k g j σ i Q f d
 | true=>exact⟨.bl true,i,f,rfl,d⟩
theorem Om (i:PE X a ta):PE X (.UnaryOp .Not a pos) (cu ta):=by
 intro f s σ H Q I h
 refine UnaryOp_ (Bt (i f s σ H _ I h) λv k b=>?_)
 obtain⟨x,g,e,j,d⟩:=b
 obtain⟨c,rfl,d⟩:=d
 cases j
 exact not_of (wpAny_truthy_bool ⟨.bl (!c),g,e,rfl,d⟩)
def qR (t:TT) (ta tb:TE):TE:=λσ H Q=>t σ H λc H1=>if c=true then ta σ H1 Q else tb σ H1 Q
theorem U0 {c:Expr} (m:PT X c tA) (n:PE X a ta) (l:PE X b tb):PE X (.IfExp c a b pos) (qR tA ta tb):=by
 intro f s σ H Q I h
 refine wpAny_IfExp (Bt (m f s σ H _ I h) λd i e=>?_)
 obtain⟨j,g,k⟩:=e
 cases d with
 | true=>exact n f i σ j Q g k
 | false=>exact l f i σ j Q g k
end
variable {te ta:TE} {tt:TT} {D:Ends}
def CV (K:W.Frag) (H:Hp) (a:Addr) (xs:List V):Prop :=
 Rd H a (.lst xs) \/
  ∃ (o:Obj) (its:Array Value) (n:Nat),K.lookup a=some o/\o.cls=.type "list" /\ o.dict=none/\o.data=.seq its n/\its.size<=sizeLine/\Vals xs its.toList
def Er (K:W.Frag) (H:Hp) (a:Addr) (xs:List V):Prop :=
 Rd H a (.tup xs) \/
  ∃ (o:Obj) (its:Array Value) (n:Nat),K.lookup a=some o/\o.cls=.type "tuple" /\ o.data=.seq its n/\its.size<=sizeLine/\Vals xs its.toList
def m_:Value->Option V
 | .none=>some .non
 | .bool b=>some (.bl b)
 | .int i _=>some (.int i)
 | .str x _=>some (.str x)
 | .bytes b _=>some (.byt b)
 | .float b _=>some (.flt b)
 | .ref a=>some (.ref a)
 | .type n=>some (.ty n)
 | _=>none
theorem RelV.abs {x:V} (r:RelV x u):m_ u=some x:=by
 cases x with
 | non=>cases r;rfl
 | bl _=>cases r;rfl
 | int _=>obtain⟨t,rfl⟩:=r;rfl
 | str _=>obtain⟨t,rfl⟩:=r;rfl
 | byt _=>obtain⟨t,rfl⟩:=r;rfl
 | flt _=>obtain⟨t,rfl⟩:=r;rfl
 | ref _=>cases r;rfl
 | ty _=>cases r;rfl
theorem RelV.inj {x:V} (r:RelV x u) (q:RelV y u):x=y:=Option.some.inj (r.abs.symm.trans q.abs)
theorem Vals.inj:∀ {xs ys:List V} {us:List Value},Vals xs us->Vals ys us->xs=ys
 | _,_,_,.nil,.nil=>rfl
 | _,_,_,.cons r t,.cons b a=>by rw[r.inj b,Vals.inj t a]
theorem Inv.list (I:Inv X a0 σ H s) (h:CV X.K H a xs):∃ its:List Value,Vals xs its/\PlainL s.heap a its.toArray/\xs.length<=sizeLine:=by
 rcases h with h | ⟨o,its,n,d,c,f,b,g,r⟩
 ·obtain⟨z,its,n,r,e⟩:=h.ok I.hok
  exact⟨its,r,⟨_,n,e,rfl,rfl,rfl⟩,z⟩
 ·refine⟨its.toList,r,⟨o,n,I.Ig a o d,c,f,by simpa using b⟩,?_⟩
  have e:=r.length
  simp only[Array.length_toList] at e
  omega
theorem Inv.tuple (I:Inv X a0 σ H s) (h:Er X.K H a xs):∃ its:List Value,Vals xs its/\IsTup s.heap a its.toArray/\xs.length<=sizeLine:=by
 rcases h with h | ⟨o,its,n,d,b,c,f,r⟩
 ·obtain⟨z,its,r,p⟩:=h.ok I.hok
  exact⟨its,r,p,z⟩
 ·refine⟨its.toList,r,⟨o,I.Ig a o d,b,n,by simpa using c⟩,?_⟩
  have e:=r.length
  simp only[Array.length_toList] at e
  omega
theorem Inv.Nu (I:Inv X a0 σ H s) (h:CV X.K H a xs) (h':CV X.K H a ys):xs=ys:=by
 obtain⟨c,r,⟨o,n,e,_,_,d⟩,_⟩:=I.list h
 obtain⟨b,i,⟨k,j,f,_,_,g⟩,_⟩:=I.list h'
 rw[e] at f;cases f
 rw[d] at g
 injection g with d1 _
 have:c=b:=by simpa using congrArg Array.toList d1
 subst this
 exact r.inj i
theorem Inv.JB (I:Inv X a0 σ H s) (h:Er X.K H a xs) (h':Er X.K H a ys):xs=ys:=by
 obtain⟨c,r,⟨o,e,_,n,d⟩,_⟩:=I.tuple h
 obtain⟨b,i,⟨k,f,_,j,g⟩,_⟩:=I.tuple h'
 rw[e] at f;cases f
 rw[d] at g
 injection g with d1 _
 have:c=b:=by simpa using congrArg Array.toList d1
 subst this
 exact r.inj i
abbrev Cx.wish (X:Cx) (E:vSP):Cx:={ X with xe:=E }
abbrev Cx.ZQ (X:Cx):Cx:=X.wish λ_ _=>False
theorem Cx.Ok.wish (ok:X.Ok) (E:vSP):(X.wish E).Ok :=
 ⟨ok.mod,ok.kind,ok.glob,ok.blt,ok.above,ok.inj,ok.has,ok.cab,ok.hd,ok.frames,ok.stk,ok.exf,ok.bs,ok.bsz,ok.noex,ok.exfs,ok.JQ,ok.frf⟩
theorem Cx.Ok.Gx {E:vSP} (ok:(X.wish E).Ok):X.Ok :=
 ⟨ok.mod,ok.kind,ok.glob,ok.blt,ok.above,ok.inj,ok.has,ok.cab,ok.hd,ok.frames,ok.stk,ok.exf,ok.bs,ok.bsz,ok.noex,ok.exfs,ok.JQ,ok.frf⟩
section
variable {E:vSP}
theorem Inv.wish (I:Inv X a0 σ H s) (E:vSP):Inv (X.wish E) a0 σ H s:=⟨I.ok.wish E,I.os,I.bare,I.base,I.loc,I.cell,I.free,I.freeC,I.pin,I.hok,I.len⟩
theorem Inv.Gx (I:Inv (X.wish E) a0 σ H s):Inv X a0 σ H s:=⟨I.ok.Gx,I.os,I.bare,I.base,I.loc,I.cell,I.free,I.freeC,I.pin,I.hok,I.len⟩
theorem SP.Gx {f:Flow} {s':Shared} (h:SP (X.wish E) a0 D f s'):SP X a0 D f s':=by
 cases f with
 | next=>obtain⟨a,b,I,q⟩:=h;exact⟨a,b,I.Gx,q⟩
 | brk=>obtain⟨a,b,I,q⟩:=h;exact⟨a,b,I.Gx,q⟩
 | cont=>obtain⟨a,b,I,q⟩:=h;exact⟨a,b,I.Gx,q⟩
 | ret u=>obtain⟨v,a,b,I,r,q⟩:=h;exact⟨v,a,b,I.Gx,r,q⟩
theorem Nv.ZQ {st:List Stmt} {t:TS} (h:Nv X.ZQ st t):Nv X st t:=λb s σ H D I a =>
 wpAny_mono (h b s σ H D (I.wish _) a) (λ_ _ q=>q.Gx) λ_ _ z=>False.elim z
end
section
variable {rest:List Stmt} {t u:TS}
def dU:TS:=λD σ H=>D.nx σ H
def cC (t u:TS):TS:=λD σ H=>t { D with nx:=u D } σ H
theorem Bf:Nv X [] dU:=λ_ _ σ H _ I h=>wpAny_execs_nil ⟨σ,H,I,h⟩
theorem Af (i:PS X st t) (c:Nv X rest u):Nv X (st::rest) (cC t u):=by
 intro a s σ H D I h
 refine wpAny_execs_cons (Bt (i a s σ H { D with nx:=u D } I h) λf g q=>?_)
 cases f with
 | next =>
  obtain⟨b,d,e,q⟩:=q
  exact c a g b d D e q
 | ret v=>exact q
 | brk=>exact q
 | cont=>exact q
theorem Ag (a:PS X st t):Nv X [st] t:=by
 intro b s σ H D I h
 refine wpAny_execs_cons (Bt (a b s σ H D I h) λf c q=>?_)
 cases f with
 | next=>exact wpAny_execs_nil q
 | ret v=>exact q
 | brk=>exact q
 | cont=>exact q
def Zu:TS:=λD σ H=>D.bk σ H
theorem VP:PS X (.Break pos) Zu:=λ_ _ σ H _ I h=>wpAny_Break ⟨σ,H,I,h⟩
theorem Inv.quiet (I:Inv X a0 σ H s):interactive X.env=false:=by simp[interactive,I.ok.kind]
def jC (te:TE):TS:=λD σ H=>te σ H λ_ H1=>D.nx σ H1
theorem Ck (a:PE X e te) (b:swapsWith e none pos.line X.env=pure false:=by rfl):PS X (.Expr e pos) (jC te):=by
 intro g s σ H D I h
 exact wpAny_Expr_any (Bt (a g s σ H _ I h) λv i ⟨x,d,c,j,f⟩=>⟨σ,d,c,f⟩) I.quiet b
def pN (te:TE):TS:=λD σ H=>te σ H D.rt
theorem Az (a:PE X e te):PS X (.Return (some e) pos) (pN te):=by
 intro g s σ H D I h
 exact wpAny_Return_some (Bt (a g s σ H _ I h) λv i ⟨x,c,b,d,f⟩=>⟨x,σ,c,b,d,f⟩)
def ZV (c:TT) (t u:TS):TS:=λD σ H=>c σ H λb H1=>if b=true then t D σ H1 else u D σ H1
theorem Bv {c:Expr} {a b:List Stmt} {l:TT} (n:PT X c l) (o:Nv X a t) (m:Nv X b u):PS X (.If c a b pos) (ZV l t u):=by
 intro f s σ H D I h
 refine wpAny_If (Bt (n f s σ H _ I h) λd i e=>?_)
 obtain⟨j,g,k⟩:=e
 cases d with
 | true=>exact o f i σ j D g k
 | false=>exact m f i σ j D g k
def Zx:TS:=λ_ _ _=>False
theorem Ez:PS X st Zx:=λ_ _ _ _ _ _ h=>h.elim
end
abbrev TG:=V->St->Hp->(St->Hp->Prop)->Prop
abbrev cP:=List V->St->Hp->(St->Hp->Prop)->Prop
def PG (X:Cx) (uI:Expr) (t:TG):Prop :=
 ∀ (a0:List (Addr × Obj)) (s:Shared) (σ:St) (H:Hp) (v:V) (u:Value) (Q:St->Hp->Prop),Inv X a0 σ H s->RelV v u->t v σ H Q ->
  wpAny (model X.prog X.w) X.A (assign uI X.env u) (λ_ s'=>∃ σ' H',Inv X a0 σ' H' s'/\Q σ' H') X.xe s
def jb (X:Cx) (ts:List Expr) (t:cP):Prop :=
 ∀ (a0:List (Addr × Obj)) (s:Shared) (σ:St) (H:Hp) (vs:List V) (us:List Value) (Q:St->Hp->Prop),Inv X a0 σ H s->Vals vs us->t vs σ H Q ->
  wpAny (model X.prog X.w) X.A (assignInOrder ((assignEach ts X.env).map (·.2)) us) (λ_ s'=>∃ σ' H',Inv X a0 σ' H' s'/\Q σ' H') X.xe s
def Et (i:Nat):TG:=λv σ H Q=>Q (σ.set i (some v)) H
theorem Bp (e:X.N.Nodup) (d:X.N[i]? = some x) (a:Loc X.env.scope x) (c:X.fn x=true \/ X.env.scope.names.lookup x=some .local:=by first | exact .inl rfl | exact .inr rfl | assumption):PG X (.Name x pos) (Et i):=by
 intro f s σ H v u Q I r h
 exact wpAny_assign_Name (Js I e d a r (λg b=>⟨_,H,b,h⟩) c)
def Vr:cP:=λvs σ H Q=>vs=[]/\Q σ H
inductive HY (t:TG) (u:cP) (vs:List V) (σ:St) (H:Hp) (Q:St->Hp->Prop):Prop
 | mk (v r:_):vs=v::r->(t v σ H λσ' H'=>u r σ' H' Q)->HY t u vs σ H Q
theorem Jc:jb X [] Vr:=by
 intro c s σ H a b Q I r h
 obtain⟨e,h⟩:=h
 subst e
 cases r
 exact assignInOrder_nil ⟨σ,H,I,h⟩
theorem Ei {t:TG} {u:cP} (l:PG X e t) (c:jb X es u)
  (j:(assignEach (e::es) X.env).map (·.2)=assign e X.env::(assignEach es X.env).map (·.2):=by rfl):jb X (e::es) (HY t u):=by
 intro b s σ H p o Q I r h
 obtain⟨v,q,i,h⟩:=h
 subst i
 cases r with
 | cons r n =>
  rw[j]
  refine assignInOrder_cons (Bt (l b s σ H _ _ _ I r h) λ_ f a=>?_)
  obtain⟨g,k,d,m⟩:=a
  exact c b f g k _ _ Q d n m
inductive Rh (K:W.Frag) (n:Nat) (t:cP) (v:V) (σ:St) (H:Hp) (Q:St->Hp->Prop):Prop
 | mk (a xs:_):v=.ref a->Er K H a xs->xs.length=n->t xs σ H Q->Rh K n t v σ H Q
theorem Lr {k:Nat} {t:cP} (q:X.calm=true) (h:jb X es t)
  (y:(assignEach es X.env).length=n:=by rfl) (d:(assignEach es X.env).findIdx? (·.1)=none:=by rfl):PG X (.Tuple es k pos) (Rh X.K n t):=by
 intro f s σ H v u Q I r c
 obtain⟨a,x,w,z,p,c⟩:=c
 subst w
 cases r
 obtain⟨i,g,m,B⟩:=I.tuple z
 refine assign_Tuple_tuple (I.ok.hd q) m (by simp[y,<-p,g.length]) d λA j=>?_
 have l:Inv X f σ H { s with heap:=A }:=I.kept (t':=s.toks) λb o e=>j b o (be (Heap.lt_size e)) e
 exact h f _ σ H x _ Q l (by simpa using g) c
def aX (te:TE) (g:TG):TS:=λD σ H=>te σ H λx H1=>g x σ H1 D.nx
theorem BX {a:Pos} (n:X.N.Nodup) (m:X.N[i]? = some x) (b:Loc X.env.scope x) (j:PE X e te) (k:swapsWith e (some (.Name x a)) pos.line X.env=pure false:=by rfl) (g:X.fn x=true \/ X.env.scope.names.lookup x=some .local:=by first | exact .inl rfl | exact .inr rfl | assumption) :
  PS X (.Assign [.Name x a] e pos) (aX te (Et i)):=by
 intro d s σ H D I h
 refine wpAny_Assign_Name (Bt (j d s σ H _ I h) λv q ⟨y,l,c,o,f⟩=>?_) k
 exact Js c n m b o (λr p=>⟨_,l,p,f⟩) g
def Ly (c:TT) (tb:TS):TS:=λD σ H=>∃ W:Nat->St->Hp->Prop,(∃ m,W m σ H)/\∀ m σ H,W m σ H ->
 c σ H λb H1=>if b=true then ∃ N:St->Hp->Prop,(∀ σ' H',N σ' H'->∃ m',m'<m/\W m' σ' H')/\tb { D with nx:=N,ct:=N,bk:=D.nx } σ H1 else D.nx σ H1
theorem Ua {c:Expr} {a:List Stmt} {B:TT} {tb:TS} (y:PassesOwn (model X.prog X.w) X.A X.env X.xe) (E:PT X c B) (C:Nv X a tb):PS X (.While c a [] pos) (Ly B tb):=by
 intro l s σ H D I h
 obtain⟨W,⟨P,K⟩,O⟩:=h
 refine wpAny_While (codeAny_whileLoop (λn J=>∃ t u,Inv X l t u J/\W n t u) ?_ P ⟨σ,H,I,K⟩)
 rintro n M ⟨i,w,L,G⟩
 refine wpAny_passesOwn y (Bt (E l M i w _ L (O n i w G)) λb F o=>?_)
 obtain⟨x,z,g⟩:=o
 cases b with
 | true =>
  obtain⟨N,A,g⟩:=g
  rw[if_pos rfl]
  refine wpAny_passesOwn y (Bt (C l F i x _ z g) λf Q j=>?_)
  cases f with
  | next =>
   obtain⟨d,e,r,q⟩:=j
   obtain⟨k,m,p⟩:=A d e q
   exact⟨k,m,d,e,r,p⟩
  | cont =>
   obtain⟨d,e,r,q⟩:=j
   obtain⟨k,m,p⟩:=A d e q
   exact⟨k,m,d,e,r,p⟩
  | brk=>exact j
  | ret v=>exact j
 | false =>
  rw[if_neg eR]
  exact wpAny_execs_nil ⟨i,x,z,g⟩
structure It where
 go:Nat->Hp->Prop
 yld:Nat->Hp->V->Hp->Prop
 stop:Nat->Hp->Prop
def GQ (X:Cx) (a0:List (Addr × Obj)) (H:Hp) (b:Addr):Prop :=
 H b=none/\b ≠ X.env.locals/\b ∉ X.fs/\(b∈X.ex \/ X.s₀.heap.objs.size<=b)/\(∀ x c,X.env.cells.lookup x=some c->c ≠ b)/\∀ p∈X.pn++a0,p.1 ≠ b
theorem Inv.MK {b:Addr} (I:Inv X a0 σ H s) (a:s.heap.objs.size<=b) (d:H' b=none):GQ X a0 H' b:=by
 refine⟨d,fh (ax I.lt a),I.mJ a,.inr (bi I.sz a),λx c e z=>?_,λp f z=>?_⟩
 ·obtain⟨v,q⟩:=I.cell x c e
  exact absurd (ax q.lt (by rw[z];exact a)) (fg _)
 ·exact absurd (ax (Heap.lt_size (I.pin p f).1) (by rw[z];exact a)) (fg _)
structure Turn (P:Program) (w:World) (K:W.Frag) (tg:Expr) (J:It) (fp:List Addr) (it:Addr) (tn:Nat->Heap->Prop):Prop where
 mem:it∈fp
 obj:∀ i h,tn i h->∀ b∈fp,∃ o,h.get? b=some o/\∀ v,o.data ≠ .cell v
 keep:∀ i h h',tn i h->(∀ b∈fp,∀ o,h.get? b=some o->h'.get? b=some o)->tn i h'
 item:∀ (X:Cx),X.prog=P->X.w=w->X.K=K->X.calm=true->∀ (i:Nat) (a0:List (Addr × Obj)) (s:Shared) (σ:St) (H:Hp) (E:vSP),Inv X a0 σ H s->(∀ b∈fp,GQ X a0 H b)->tn i s.heap->J.go i H ->
  wpAny (model P w) X.A (pyNext (.ref it)) (λr s1=>∃ u,r=some u /\
   wpAny (model P w) X.A (letOwnedTupleGo tg (.ref it) u) (λ_ s2=>∃ x H',Inv X a0 σ H' s2/\RelV x u/\J.yld i H x H'/\tn (i+1) s2.heap/\∀ b∈fp,H' b=none) E s1) E s
 done:∀ (X:Cx),X.prog=P->X.w=w->X.K=K->X.calm=true->∀ (i:Nat) (a0:List (Addr × Obj)) (s:Shared) (σ:St) (H:Hp) (E:vSP),Inv X a0 σ H s->(∀ b∈fp,GQ X a0 H b)->tn i s.heap->J.stop i H ->
  wpAny (model P w) X.A (pyNext (.ref it)) (λr s1=>r=none/\Inv X a0 σ H s1) E s
 self:∀ (A:Around) (i:Nat) (s:Shared) (Q:vSP) (E:vSP),tn i s.heap->Q (.ref it) s->wpAny (model P w) A (pyIter (.ref it)) Q E s
abbrev TI:=St->Hp->(It->Hp->Prop)->Prop
inductive PIE (X:Cx) (a0:List (Addr × Obj)) (σ:St) (tg:Expr) (R:It->Hp->Prop) (vM:Value) (s2:Shared):Prop
 | mk (it:Addr) (fp:List Addr) (tn:Nat->Heap->Prop) (J:It) (H':Hp):vM=.ref it->Inv X a0 σ H' s2->Turn X.prog X.w X.K tg J fp it tn->tn 0 s2.heap->(∀ b∈fp,GQ X a0 H' b)->R J H'->PIE X a0 σ tg R vM s2
def PI (X:Cx) (tg iter:Expr) (wi:TI):Prop :=
 ∀ (a0:List (Addr × Obj)) (s:Shared) (σ:St) (H:Hp) (R:It->Hp->Prop),Inv X a0 σ H s->wi σ H R ->
  wpAny (model X.prog X.w) X.A (eval iter X.env) (λv s1=>wpAny (model X.prog X.w) X.A (pyIter v) (PIE X a0 σ tg R) X.xe s1) X.xe s
theorem Mp {M:Model} {E:vSP} {it:Addr} {o:Obj} {n:String} {vs:Array Value} {Q:Unit->Shared->Prop} (e:s.heap.get? it=some o) (b:o.cls=.type n) (d:o.data=.fields vs)
  (c:["enumerate","zip","dict_itemiterator","dict_reverseitemiterator","odict_iterator","itertools.zip_longest","itertools.pairwise"].contains n=false) (a:Q () s):wpAny M A (letOwnedTupleGo tg (.ref it) u) Q E s:=by
 unfold letOwnedTupleGo
 cases tg <;> first
  | exact wpAny_pure a
  | (cases u <;> first
    | exact wpAny_pure a
    | (refine wpAny_bind (wpAny_load e ?_)
       rw[b,d]
       show wpAny M A (if (["enumerate","zip","dict_itemiterator","dict_reverseitemiterator","odict_iterator","itertools.zip_longest","itertools.pairwise"].contains n && vs[0]? == some (rawInt _))=true then _ else _) Q E s
       rw[if_neg (by intro h;rw[c,gs] at h;cases h)]
       exact wpAny_pure a))
def WR (K:W.Frag) (a:Addr):It :=
 ⟨λi H=>∃ xs x,CV K H a xs/\xs[i]? = some x,λi H x H'=>H'=H/\∀ xs,CV K H a xs->xs[i]? = some x,λi H=>∃ xs,CV K H a xs/\xs.length<=i⟩
def mV (K:W.Frag) (a:Addr):It :=
 ⟨λi H=>∃ xs x,Er K H a xs/\xs[i]? = some x,λi H x H'=>H'=H/\∀ xs,Er K H a xs->xs[i]? = some x,λi H=>∃ xs,Er K H a xs/\xs.length<=i⟩
def YB (lo:Int) (n:Nat):It:=⟨λi _=>i<n,λi H x H'=>H'=H/\x=.int (lo+i),λi _=>n<=i⟩
theorem Rx {w:World} {K:W.Frag} (a it:Addr):Turn P w K tg (WR K a) [it] it (λi h=>h.IsListIter it a i) where
 mem:=by simp
 obj:=λi h st b f=>by
  have e:b=it:=by simpa using f
  subst e
  obtain⟨o,e,c,d⟩:=st
  exact⟨o,e,λv z=>by rw[d] at z;cases z⟩
 keep:=λi h j st k=>st.at λo e=>k it (by simp) o e
 item:=by
  intro X B q r L i M s σ H E I g st m
  subst B q r
  obtain⟨R,x,l,D⟩:=m
  obtain⟨n,t,p,S⟩:=I.list l
  obtain⟨u,N,Q⟩:=t.get D
  obtain⟨G,C,T,F,y,A⟩:=g it (by simp)
  refine wpAny_pyNext_list_item st p.isList (x:=u) (by simpa using N) λj J Y=>?_
  have U:Inv X M σ H { s with heap:=j }:=I.turned (t':=s.toks) (λb o f e=>(Y.2 b f).trans e) G C F y A
  obtain⟨o,e,c,d⟩:=id J
  exact⟨u,rfl,Mp (s:={ s with heap:=j }) e c d (by decide) ⟨x,H,U,Q,⟨rfl,λZ O=>by rw[I.Nu O l];exact D⟩,J,λb f=>(g b f).1⟩⟩
 done:=by
  intro X B q r L i M s σ H E I g st m
  subst B q r
  obtain⟨R,l,D⟩:=m
  obtain⟨n,t,p,S⟩:=I.list l
  obtain⟨G,C,T,F,y,A⟩:=g it (by simp)
  have hl:=t.length
  exact wpAny_pyNext_list_end (I.ok.hd L) st p.isList (by simp;omega) λj V=>⟨rfl,I.turned (t':=s.toks) (λb o f e=>V b o f e) G C F y A⟩
 self:=λ_ _ _ _ _ st h=>wpAny_pyIter_listiter st h
theorem N8 {w:World} {K:W.Frag} (a it:Addr):Turn P w K tg (mV K a) [it] it (λi h=>h.IsTupleIter it a i) where
 mem:=by simp
 obj:=λi h st b g=>by
  have e:b=it:=by simpa using g
  subst e
  obtain⟨o,e,c,d⟩:=st
  exact⟨o,e,λv z=>by rw[d] at z;cases z⟩
 keep:=λi h l st k=>st.at λo e=>k it (by simp) o e
 item:=by
  intro X B q r L i M s σ H E I j st n
  subst B q r
  obtain⟨R,x,m,D⟩:=n
  obtain⟨f,t,p,S⟩:=I.tuple m
  obtain⟨u,N,Q⟩:=t.get D
  obtain⟨G,C,T,F,y,A⟩:=j it (by simp)
  refine wpAny_pyNext_tuple_item st (show s.heap.IsTuple a f.toArray from p) (x:=u) (by simpa using N) λl J Y=>?_
  have U:Inv X M σ H { s with heap:=l }:=I.turned (t':=s.toks) (λb o g e=>(Y.2 b g).trans e) G C F y A
  obtain⟨o,e,c,d⟩:=id J
  exact⟨u,rfl,Mp (s:={ s with heap:=l }) e c d (by decide) ⟨x,H,U,Q,⟨rfl,λZ O=>by rw[I.JB O m];exact D⟩,J,λb g=>(j b g).1⟩⟩
 done:=by
  intro X B q r L i M s σ H E I j st n
  subst B q r
  obtain⟨R,m,D⟩:=n
  obtain⟨f,t,p,S⟩:=I.tuple m
  obtain⟨G,C,T,F,y,A⟩:=j it (by simp)
  have hl:=t.length
  exact wpAny_pyNext_tuple_end (I.ok.hd L) st (show s.heap.IsTuple a f.toArray from p) (by simp;omega) λl V=>⟨rfl,I.turned (t':=s.toks) (λb o g e=>V b o g e) G C F y A⟩
 self:=λ_ _ _ _ _ st h=>wpAny_pyIter_tupleiter st h
theorem Ph {w:World} {K:W.Frag} (it:Addr) (lo:Int) (n:Nat):Turn P w K tg (YB lo n) [it] it (λi h=>IsRangeIter h it (lo+(i:Nat) * 1) ((n:Int) - (i:Nat)) 1) where
 mem:=by simp
 obj:=λi h st b a=>by
  have e:b=it:=by simpa using a
  subst e
  exact⟨_,st,λv z=>by
   have G:Data.fields _=Data.cell v:=z
   cases G⟩
 keep:=λi h d st k=>k it (by simp) _ st
 item:=by
  intro X q j l g i A s σ H E I c st f
  subst q j l
  obtain⟨x,r,B,u,m,p⟩:=c it (by simp)
  have W:=Walks.range (prog:=X.prog) (w:=X.w) (I.ok.hd g) it lo 1 n
  refine W.item i s _ _ f st λv d tk J y D=>?_
  obtain⟨t,rfl⟩:=J
  have C:Inv X A σ H { s with heap:=d,toks:=tk }:=I.turned (λb o a e=>D b o (by simpa using a) e) x r u m p
  refine⟨_,rfl,Mp (s:={ s with heap:=d,toks:=tk }) (n:="range_iterator") y rfl rfl (by decide) ⟨.int (lo+i),H,C,⟨t,?_⟩,⟨rfl,rfl⟩,y,λb a=>(c b a).1⟩⟩
  rw[Int.mul_one]
 done:=by
  intro X q j l g i A s σ H E I c st f
  subst q j l
  obtain⟨x,r,B,u,m,p⟩:=c it (by simp)
  exact wpAny_pyNext_range_end (I.ok.hd g) st (by have:n<=i:=f;omega) λd F=>⟨rfl,I.turned (t':=s.toks) (λb o a e=>F b o a e) x r u m p⟩
 self:=λ_ _ _ _ _ st h=>wpAny_pyIter_rangeiter st h
inductive Tq (K:W.Frag) (R:It->Hp->Prop) (x:V) (H1:Hp):Prop
 | mk (a:_):x=.ref a->(∃ xs,CV K H1 a xs)->R (WR K a) H1->Tq K R x H1
def iY (K:W.Frag) (tl:TE):TI:=λσ H R=>tl σ H λx H1=>Tq K R x H1
inductive Yu (K:W.Frag) (R:It->Hp->Prop) (x:V) (H1:Hp):Prop
 | mk (a:_):x=.ref a->(∃ xs,Er K H1 a xs)->R (mV K a) H1->Yu K R x H1
def nW (K:W.Frag) (tl:TE):TI:=λσ H R=>tl σ H λx H1=>Yu K R x H1
theorem Bc {l:Expr} {tl:TE} (j:PE X l tl):PI X tg l (iY X.K tl):=by
 intro m s σ H R I h
 refine Bt (j m s σ H _ I h) λv d f=>?_
 obtain⟨x,r,c,t,n⟩:=f
 obtain⟨a,e,⟨w,g⟩,q⟩:=n
 subst e
 cases t
 obtain⟨i,u,p,y⟩:=c.list g
 refine wpAny_pyIter_list p.isList ?_
 refine⟨d.heap.objs.size,[d.heap.objs.size],_,_,r,rfl,c.kept (t':=d.toks) λb o e=>Heap.get?_push_of_some _ e,Rx a _,⟨_,Heap.get?_push_size _ rfl,rfl,rfl⟩,λb k=>?_,q⟩
 have e:b=d.heap.objs.size:=by simpa using k
 subst e
 exact c.MK (ai _) (c.hok.fresh (ai _))
theorem Pk {l:Expr} {tl:TE} (j:PE X l tl):PI X tg l (nW X.K tl):=by
 intro m s σ H R I h
 refine Bt (j m s σ H _ I h) λv c f=>?_
 obtain⟨x,r,d,t,n⟩:=f
 obtain⟨a,e,⟨w,i⟩,q⟩:=n
 subst e
 cases t
 obtain⟨g,u,p,y⟩:=d.tuple i
 refine wpAny_pyIter_tuple (show c.heap.IsTuple a g.toArray from p) ?_
 refine⟨c.heap.objs.size,[c.heap.objs.size],_,_,r,rfl,d.kept (t':=c.toks) λb o e=>Heap.get?_push_of_some _ e,N8 a _,⟨_,Heap.get?_push_size _ rfl,rfl,rfl⟩,λb k=>?_,q⟩
 have e:b=c.heap.objs.size:=by simpa using k
 subst e
 exact d.MK (ai _) (d.hok.fresh (ai _))
theorem WM {R:It->Hp->Prop} {E:vSP} {lo a:Int} {t u v:Tok} {tk:Nat} (I:Inv X a0 σ H s) (j : -(2 ^ 62)<=lo) (d:lo<2 ^ 62) (h : -(2 ^ 62)<=a) (k:a<2 ^ 62)
  (q:R (YB lo (a - lo).toNat) H):wpAny (model X.prog X.w) X.A (pyIter (.ref s.heap.objs.size)) (PIE X a0 σ tg R) E { s with heap:=s.heap.push { cls:=.type "range",data:=.fields #[.int lo t,.int a u,.int 1 v] },toks:=tk }:=by
 refine wpAny_pyIter_range (IsRange.new ..) (small_one j d h k) ?_
 have c:Inv X a0 σ H { s with heap:=s.heap.push { cls:=.type "range",data:=.fields #[.int lo t,.int a u,.int 1 v] },toks:=tk }:=I.kept λb o e=>Heap.get?_push_of_some _ e
 refine⟨(s.heap.push { cls:=.type "range",data:=.fields #[.int lo t,.int a u,.int 1 v] }).objs.size,[(s.heap.push { cls:=.type "range",data:=.fields #[.int lo t,.int a u,.int 1 v] }).objs.size],_,_,H,rfl,
  c.kept (t':=tk) λb o e=>Heap.get?_push_of_some _ e,Ph _ lo (a - lo).toNat,?_,λb g=>?_,q⟩
 ·have i:lo+((0:Nat):Int) * 1=lo:=by simp
  have f:(((a - lo).toNat:Nat):Int) - ((0:Nat):Int)=Builtin.Range.rangeSize lo a 1:=by rw[rangeSize_one];split <;> omega
  show IsRangeIter _ _ (lo+((0:Nat):Int) * 1) ((((a - lo).toNat:Nat):Int) - ((0:Nat):Int)) 1
  rw[i,f]
  exact Heap.get?_push_size _ rfl
 ·have e:b=(s.heap.push { cls:=.type "range",data:=.fields #[.int lo t,.int a u,.int 1 v] }).objs.size:=by simpa using g
  subst e
  exact c.MK (ai _) (c.hok.fresh (ai _))
inductive Va (R:It->Hp->Prop) (vs:List V) (H1:Hp):Prop
 | mk (j:Int):vs=[.int j]->-(2 ^ 62)<=j->j<2 ^ 62->R (YB 0 j.toNat) H1->Va R vs H1
def dZ (ta:TA):TI:=λσ H R=>ta σ H λvs H1=>Va R vs H1
theorem DX {a:Expr} {c:TA} {p:Pos} (d:Gl X "range") (k:X.mg "range" = none) (m:PA X [a] c) (l:starEach [a] X.env=[(false,eval a X.env)]:=by rfl):PI X tg (.Call (.Name "range" p) [a] [] pos) (dZ c):=by
 intro i s σ H R I h
 refine Call_ (G7 I d k boot_range (PyProof.Rows.callWith_type1 (Bt (m pos i s σ H _ I h) λv u ⟨w,x,g,n,b⟩=>?_) l rfl))
 obtain⟨j,e,b,f,q⟩:=b
 subst e
 cases n with
 | cons r o =>
  cases o
  obtain⟨t,rfl⟩:=r
  exact call_range_1 (WM g (by omega) (by omega) b f (by simpa using q))
def lF (wi:TI) (g:TG) (tb:TS):TS:=λD σ H=>wi σ H λJ H1=>∃ W:Nat->Nat->St->Hp->Prop,(∃ m,W 0 m σ H1)/\∀ i m σ H,W i m σ H ->
 (J.stop i H/\D.nx σ H) \/ (J.go i H/\∃ N:St->Hp->Prop,(∀ σ' H',N σ' H'->∃ m',m'<m/\W (i+1) m' σ' H')/\∀ x H',J.yld i H x H'->g x σ H' λσ2 H2=>tb { D with nx:=N,ct:=N,bk:=D.nx } σ2 H2)
def I_ (fp:List Addr) (h:Heap):List (Addr × Obj):=fp.filterMap λb=>(h.get? b).map λo=>(b,o)
theorem EY {b:Addr} {o:Obj} (a:b∈fp) (e:h.get? b=some o):(b,o)∈I_ fp h:=List.mem_filterMap.mpr ⟨b,a,by rw[e];rfl⟩
theorem R8 {p:Addr × Obj} (c:p∈I_ fp h):p.1∈fp/\h.get? p.1=some p.2:=by
 obtain⟨b,a,e⟩:=List.mem_filterMap.mp c
 cases q:h.get? b with
 | none=>rw[q] at e;cases e
 | some o =>
  rw[q] at e
  have d:(b,o)=p:=Option.some.inj e
  subst d
  exact⟨a,q⟩
theorem Inv.pinned (I:Inv X a0 σ H s) (h:∀ b∈fp,GQ X a0 H b) (k:∀ b∈fp,∃ o,s.heap.get? b=some o/\∀ v,o.data ≠ .cell v):Inv X (a0++I_ fp s.heap) σ H s :=
 I.QC λp j=>(aI.mp j).elim (λz=>I.pin p (bp _ z)) λz=>by
  obtain⟨a,e⟩:=R8 z
  obtain⟨i,g,f,_⟩:=h p.1 a
  obtain⟨o,c,d⟩:=k p.1 a
  rw[e] at c;cases c
  exact⟨e,i,g,f,d⟩
theorem Inv.G6 {pl:List (Addr × Obj)} (I:Inv X (a0++pl) σ H s):Inv X a0 σ H s:=I.QC λp a=>I.pin p (bp _ (cf _ a))
theorem Cv {t:List Stmt} {wi:TI} {g:TG} {tb:TS} (C:PassesOwn (model X.prog X.w) X.A X.env X.xe) (O:X.calm=true) (hi:PI X tg iter wi) (hg:PG X tg g) (a:Nv X t tb)
  (hs:∀ x,foldedSetIterable iter X.env x=pure x:=by intro _;rfl):PS X (.For tg iter t [] pos) (lF wi g tb):=by
 intro w s σ H D I h
 refine wpAny_For (Bt (hi w s σ H _ I h) λv s1 h1=>Bt h1 λvM s2 h2=>?_) hs
 obtain⟨it,A,Y,J,H2,e,I2,T,pd,U,W,⟨m0,w0⟩,md⟩:=h2
 subst e
 have l:∀ {p:Hp},(∀ b∈A,p b=none)->∀ b∈A,GQ X w p b:=λhn b a=>⟨hn b a,(U b a).2⟩
 refine codeAny_forLoop_any (λn Q=>∃ i z p,Inv X w z p Q/\Y i Q.heap/\(∀ b∈A,p b=none)/\W i n z p) ?_ m0 ⟨0,σ,H2,I2,pd,λb a=>(U b a).1,w0⟩
 rintro n R ⟨i,B,G,Z,E,V,w3⟩
 rcases md i n B G w3 with⟨stop,qn⟩ | ⟨go,N,hN,step⟩
 ·refine wpAny_passesOwn C (Bt (T.done X rfl rfl rfl O i w R B G X.xe Z (l V) E stop) λr s4 ⟨K,I4⟩=>?_)
  subst K
  exact wpAny_execs_nil ⟨B,G,I4,qn⟩
 ·refine wpAny_passesOwn C (Bt (T.item X rfl rfl rfl O i w R B G X.xe Z (l V) E go) λr s4 ⟨u,K,h4⟩=>?_)
  subst K
  refine wpAny_passesOwn C (Bt h4 λ_ P y=>?_)
  obtain⟨x,S,I5,r5,y5,M,KM⟩:=y
  have PU:=I5.pinned (l KM) (T.obj _ _ M)
  refine wpAny_passesOwn C (Bt (hg _ P B S x u _ PU r5 (step x S y5)) λ_ s6 y=>?_)
  obtain⟨σ6,H6,I6,q6⟩:=y
  refine wpAny_passesOwn C (Bt (a _ s6 σ6 H6 _ I6 q6) λf L q=>?_)
  have again:∀ {j:St} {c:Hp},Inv X (w++I_ A P.heap) j c L->N j c->∃ m,m<n/\∃ i z p,Inv X w z p L/\Y i L.heap/\(∀ b∈A,p b=none)/\W i m z p:=λ{j c} k F=>by
   obtain⟨m',hm,w7⟩:=hN j c F
   refine⟨m',hm,i+1,j,c,k.G6,T.keep _ _ _ M λb a o e=>(k.pin (b,o) (bp _ (bp _ (EY a e)))).1,λb a=>?_,w7⟩
   obtain⟨o,e,d⟩:=T.obj _ _ M b a
   exact (k.pin (b,o) (bp _ (bp _ (EY a e)))).2.1
  cases f with
  | next=>obtain⟨j,c,k,F⟩:=q;exact again k F
  | cont=>obtain⟨j,c,k,F⟩:=q;exact again k F
  | brk=>obtain⟨j,c,k,q⟩:=q;exact⟨j,c,k.G6,q⟩
  | ret v=>obtain⟨x7,j,c,k,r7,q⟩:=q;exact⟨x7,j,c,k.G6,r7,q⟩
theorem Eo {K:W.Frag} {g:TG} {tb:TS} (b:Nat->St->Hp->Prop) (k:b 0 σ H) (f:∀ i σ H,i<=xs.length->b i σ H->CV K H a xs)
  (j:∀ i x σ H,xs[i]? = some x->b i σ H->g x σ H λσ2 H2=>tb { D with nx:=b (i+1),ct:=b (i+1),bk:=D.nx } σ2 H2) (h:∀ σ H,b xs.length σ H->D.nx σ H) :
  ∃ W:Nat->Nat->St->Hp->Prop,(∃ m,W 0 m σ H)/\∀ i m σ H,W i m σ H ->
   ((WR K a).stop i H/\D.nx σ H) \/ ((WR K a).go i H/\∃ N:St->Hp->Prop,(∀ σ' H',N σ' H'->∃ m',m'<m/\W (i+1) m' σ' H')/\∀ x H',(WR K a).yld i H x H'->g x σ H' λσ2 H2=>tb { D with nx:=N,ct:=N,bk:=D.nx } σ2 H2):=by
 refine⟨λi m σ H=>m=xs.length - i/\i<=xs.length/\b i σ H,⟨xs.length,by simp,Nat.zero_le _,k⟩,?_⟩
 rintro i m σ H ⟨rfl,l,p⟩
 have q:=f i σ H l p
 by_cases c:i<xs.length
 ·refine .inr ⟨⟨xs,xs[i],q,by simp[c]⟩,b (i+1),λσ' H' d=>⟨xs.length - (i+1),by omega,rfl,c,d⟩,λx H' y=>?_⟩
  obtain⟨e,y⟩:=y
  subst e
  exact j i x σ _ (y xs q) p
 ·have e:i=xs.length:=by omega
  subst e
  exact .inl ⟨⟨xs,q,ai _⟩,h σ H p⟩
theorem Ex {lo:Int} {g:TG} {tb:TS} (a:Nat->St->Hp->Prop) (h:a 0 σ H)
  (f:∀ i σ H,i<n->a i σ H->g (.int (lo+i)) σ H λσ2 H2=>tb { D with nx:=a (i+1),ct:=a (i+1),bk:=D.nx } σ2 H2) (d:∀ σ H,a n σ H->D.nx σ H) :
  ∃ W:Nat->Nat->St->Hp->Prop,(∃ m,W 0 m σ H)/\∀ i m σ H,W i m σ H ->
   ((YB lo n).stop i H/\D.nx σ H) \/ ((YB lo n).go i H/\∃ N:St->Hp->Prop,(∀ σ' H',N σ' H'->∃ m',m'<m/\W (i+1) m' σ' H')/\∀ x H',(YB lo n).yld i H x H'->g x σ H' λσ2 H2=>tb { D with nx:=N,ct:=N,bk:=D.nx } σ2 H2):=by
 refine⟨λi m σ H=>m=n - i/\i<=n/\a i σ H,⟨n,by simp,Nat.zero_le _,h⟩,?_⟩
 rintro i m σ H ⟨rfl,j,p⟩
 by_cases b:i<n
 ·refine .inr ⟨b,a (i+1),λσ' H' c=>⟨n - (i+1),by omega,rfl,b,c⟩,λx H' y=>?_⟩
  obtain⟨e,y⟩:=y
  subst e y
  exact f i σ _ b p
 ·have e:i=n:=by omega
  subst e
  exact .inl ⟨ai _,d σ H p⟩
theorem T4 {c:TT} {tb:TS} (a:St->Hp->Prop) (μ:St->Hp->Nat) (f:a σ H)
  (e:∀ σ H,a σ H->c σ H λb H1=>if b=true then tb { D with nx:=λσ' H'=>a σ' H'/\μ σ' H'<μ σ H,ct:=λσ' H'=>a σ' H'/\μ σ' H'<μ σ H,bk:=D.nx } σ H1 else D.nx σ H1)
  (mono:∀ σ H Q Q',(∀ b H1,Q b H1->Q' b H1)->c σ H Q->c σ H Q'):Ly c tb D σ H:=by
 refine⟨λm σ H=>m=μ σ H/\a σ H,⟨_,rfl,f⟩,?_⟩
 rintro m σ H ⟨rfl,p⟩
 refine mono σ H _ _ (λb H1 q=>?_) (e σ H p)
 cases b with
 | true=>exact⟨_,λσ' H' ⟨d,l⟩=>⟨_,l,rfl,d⟩,q⟩
 | false=>exact q
abbrev R2:=V->V->Hp->VK->Prop
def GK (X:Cx) (f:Value->Value->Sem Value) (r:R2):Prop :=
 ∀ (a0:List (Addr × Obj)) (s:Shared) (σ:St) (H:Hp) (x y:V) (v u:Value) (Q:VK),Inv X a0 σ H s->RelV x v->RelV y u->r x y H Q ->
  wpAny (model X.prog X.w) X.A (f v u) (EP X a0 σ Q) X.xe s
def kW (X:Cx) (f:Value->Sem Value) (r:V->Hp->VK->Prop):Prop :=
 ∀ (a0:List (Addr × Obj)) (s:Shared) (σ:St) (H:Hp) (x:V) (v:Value) (Q:VK),Inv X a0 σ H s->RelV x v->r x H Q ->
  wpAny (model X.prog X.w) X.A (f v) (EP X a0 σ Q) X.xe s
def Ep (X:Cx) (f:Value) (r:List V->Hp->VK->Prop):Prop :=
 ∀ (a0:List (Addr × Obj)) (s:Shared) (σ:St) (H:Hp) (xs:List V) (us:List Value) (Q:VK),Inv X a0 σ H s->Vals xs us->r xs H Q ->
  wpAny (model X.prog X.w) X.A (call f us) (EP X a0 σ Q) X.xe s
def l_ (X:Cx) (r:V->Hp->(Bool->Hp->Prop)->Prop):Prop :=
 ∀ (a0:List (Addr × Obj)) (s:Shared) (σ:St) (H:Hp) (x:V) (v:Value) (Q:Bool->Hp->Prop),Inv X a0 σ H s->RelV x v->r x H Q ->
  wpAny (model X.prog X.w) X.A (truthy v) (TP X a0 σ Q) X.xe s
def cW (r:R2) (ta tb:TE):TE:=λσ H Q=>ta σ H λx H1=>tb σ H1 λy H2=>r x y H2 Q
def qt (r:V->Hp->VK->Prop) (ta:TE):TE:=λσ H Q=>ta σ H λx H1=>r x H1 Q
inductive rI (C:Int->Int->Prop) (g:Int->Int->V) (x:V) (y:V) (H:Hp) (Q:VK):Prop
 | mk (i j:_):x=.int i->y=.int j->C i j->Q (g i j) H->rI C g x y H Q
inductive Vm (g:Int->Int->V) (x:V) (y:V) (H:Hp) (Q:VK):Prop
 | mk (i j:_):x=.int i->y=.int j->Q (g i j) H->Vm g x y H Q
inductive rU (g:Int->V) (x:V) (H:Hp) (Q:VK):Prop
 | mk (i:_):x=.int i->Q (g i) H->rU g x H Q
section
variable {a b c:Expr} {tb tc:TE}
theorem Zg (l:PE X a ta) (i:PE X b tb) {R:V->V->Hp->Prop} (I:Inv X a0 σ H s)
  (h:ta σ H λx H1=>tb σ H1 λy H2=>R x y H2) {f:Value->Value->Sem Value}
  (k:∀ v u s2 x y H2,Inv X a0 σ H2 s2->RelV x v->RelV y u->R x y H2->wpAny (model X.prog X.w) X.A (f v u) Q X.xe s2) :
  wpAny (model X.prog X.w) X.A (eval a X.env) (λv s₁=>wpAny (model X.prog X.w) X.A (eval b X.env) (λu s₂=>wpAny (model X.prog X.w) X.A (f v u) Q X.xe s₂) X.xe s₁) X.xe s:=by
 refine Bt (l a0 s σ H _ I h) λv g c=>?_
 obtain⟨x,H1,e,m,j⟩:=c
 refine Bt (i a0 g σ H1 _ e j) λu s2 c=>?_
 obtain⟨y,H2,n,o,d⟩:=c
 exact k v u s2 x y H2 n m o d
theorem BL {c:Operator} {r:R2} (g:GK X (binaryOp c) r) (l:PE X a ta) (d:PE X b tb):PE X (.BinOp a c b pos) (cW r ta tb):=by
 intro e s σ H Q I h
 exact wpAny_BinOp (Zg l d I h λv u f x y k m i j q=>g e f σ k x y v u Q m i j q)
theorem J2 {c:UnaryOp} {r:V->Hp->VK->Prop} (k:kW X (unaryOp c) r) (g:PE X a ta):PE X (.UnaryOp c a pos) (qt r ta):=by
 intro b s σ H Q I h
 exact UnaryOp_ (Bt (g b s σ H _ I h) λv f ⟨x,e,d,i,j⟩=>k b f σ e x v Q d i j)
theorem Z7 {f:Value->Value->Sem Value} {C:Int->Int->Prop} {g:Int->Int->Int}
  (rule:∀ (i j:Int) (t u:Tok) (s:Shared) (Q:vSP) (E:vSP),C i j->Q (.int (g i j) s.toks) { s with toks:=s.toks+1 }->wpAny (model X.prog X.w) X.A (f (.int i t) (.int j u)) Q E s) :
  GK X f (rI C λi j=>.int (g i j)):=by
 intro e s σ H x y v u Q I c d h
 obtain⟨i,j,rfl,rfl,b,q⟩:=h
 obtain⟨t,rfl⟩:=c
 obtain⟨a,rfl⟩:=d
 exact rule i j t a s _ _ b ⟨.int (g i j),H,I.tok _,⟨_,rfl⟩,q⟩
theorem Wc {f:Value->Value->Sem Value} {g:Int->Int->Int}
  (rule:∀ (i j:Int) (t u:Tok) (s:Shared) (Q:vSP) (E:vSP),Q (.int (g i j) s.toks) { s with toks:=s.toks+1 }->wpAny (model X.prog X.w) X.A (f (.int i t) (.int j u)) Q E s) :
  GK X f (Vm λi j=>.int (g i j)):=by
 intro d s σ H x y v u Q I b c h
 obtain⟨i,j,rfl,rfl,q⟩:=h
 obtain⟨t,rfl⟩:=b
 obtain⟨a,rfl⟩:=c
 exact rule i j t a s _ _ ⟨.int (g i j),H,I.tok _,⟨_,rfl⟩,q⟩
theorem Xg {f:Value->Value->Sem Value} {g:Int->Int->Bool}
  (rule:∀ (i j:Int) (t u:Tok) (s:Shared) (Q:vSP) (E:vSP),Q (.bool (g i j)) s->wpAny (model X.prog X.w) X.A (f (.int i t) (.int j u)) Q E s) :
  GK X f (Vm λi j=>.bl (g i j)):=by
 intro d s σ H x y v u Q I b c h
 obtain⟨i,j,rfl,rfl,q⟩:=h
 obtain⟨t,rfl⟩:=b
 obtain⟨a,rfl⟩:=c
 exact rule i j t a s _ _ ⟨.bl (g i j),H,I,rfl,q⟩
def nG (i j:Int):Prop:=0<j/\j<1073741824
def eG (i j:Int):Prop:=0<=j/\j<=1000000/\i.natAbs<2 ^ 64
def b8 (i j:Int):Prop:=(-(2 ^ 64)<i/\i<2 ^ 64) \/ (-(2 ^ 64)<j/\j<2 ^ 64)
theorem b8.ok {i j:Int} (h:b8 i j):IntMulOk i j:=by
 rcases h with⟨a,b⟩ | ⟨a,b⟩
 ·exact .of_left (intBits_le_64 a b)
 ·exact .of_right (intBits_le_64 a b)
theorem two_pow_nn (k:Nat):(0:Int)<=2 ^ k:=by
 rw[two_pow_cast]
 exact io _
theorem Bm:GK X (binaryOp .Add) (Vm λi j=>.int (i+j)):=Wc λ_ _ _ _ _ _ _ q=>add_int q
theorem Es:GK X (binaryOp .Sub) (Vm λi j=>.int (i - j)):=Wc λ_ _ _ _ _ _ _ q=>sub_int q
theorem Fv:GK X (binaryOp .Mult) (rI b8 λi j=>.int (i * j)):=Z7 λ_ _ _ _ _ _ _ a q=>mul_int q a.ok
theorem Hr:GK X (binaryOp .FloorDiv) (rI nG λi j=>.int (i / j)):=Z7 λi j _ _ _ _ _ a q=>by
 have b:(0:Int)<j:=a.1
 have c:j<1073741824:=a.2
 exact floordiv_int (by omega) (by rw[Int.fdiv_eq_ediv_of_nonneg i (by omega)];exact q) (.inl (PyProof.noPylong_small (by omega)))
theorem Eb:GK X (binaryOp .Mod) (rI (λ_ j=>0<j) λi j=>.int (i % j)):=Z7 λi j _ _ _ _ _ a q=>by
 have b:(0:Int)<j:=a
 exact mod_int' (by omega) (by rw[Int.fmod_eq_emod_of_nonneg i (by omega)];exact q)
theorem bh:GK X (binaryOp .Pow) (rI eG λi j=>.int (i ^ j.toNat)):=Z7 λ_ _ _ _ _ _ _ a q=>pow_int_small a.1 a.2.1 a.2.2 q
theorem VB:GK X (binaryOp .LShift) (rI eG λi j=>.int (i * 2 ^ j.toNat)):=Z7 λ_ _ _ _ _ _ _ a q=>lshift_int_small a.1 a.2.1 a.2.2 q
theorem S7:GK X (binaryOp .RShift) (rI (λ_ j=>0<=j) λi j=>.int (i / 2 ^ j.toNat)):=Z7 λi j _ _ _ _ _ a q =>
 rshift_int a (by rw[Int.fdiv_eq_ediv_of_nonneg i (two_pow_nn _)];exact q)
theorem Tj:GK X (binaryOp .BitAnd) (Vm λi j=>.int (Builtin.bitAnd i j)):=Wc λ_ _ _ _ _ _ _ q=>and_int q
theorem Ui:GK X (binaryOp .BitOr) (Vm λi j=>.int (Builtin.bitOr i j)):=Wc λ_ _ _ _ _ _ _ q=>or_int q
theorem qp {f:Value->Sem Value} {g:Int->Int}
  (rule:∀ (i:Int) (t:Tok) (s:Shared) (Q:vSP) (E:vSP),Q (.int (g i) s.toks) { s with toks:=s.toks+1 }->wpAny (model X.prog X.w) X.A (f (.int i t)) Q E s) :
  kW X f (rU λi=>.int (g i)):=by
 intro b s σ H x v Q I a h
 obtain⟨i,rfl,q⟩:=h
 obtain⟨t,rfl⟩:=a
 exact rule i t s _ _ ⟨.int (g i),H,I.tok _,⟨_,rfl⟩,q⟩
theorem Hj:kW X (unaryOp .USub) (rU λi=>.int (-i)):=qp λ_ _ _ _ _ q=>neg_int q
end
def gR:V->V->Bool
 | .non,.non=>true | .non,.int _=>true | .int _,.non=>true | .non,.bl _=>true | .bl _,.non=>true | .non,.str _=>true | .str _,.non=>true
 | .int _,.int _=>true | .bl _,.bl _=>true | .str _,.str _=>true | .byt _,.byt _=>true
 | .int _,.str _=>true | .str _,.int _=>true | .bl _,.str _=>true | .str _,.bl _=>true
 | _,_=>false
def qM:R2:=λx y H Q=>gR x y=true/\Q (.bl (decide (x=y))) H
def qQ:R2:=λx y H Q=>gR x y=true/\Q (.bl (!decide (x=y))) H
theorem Q5 {i j:Int}:decide (V.int i=V.int j)=(i == j):=by
 rw[cw]
 simp
theorem Tv {i j:Bool}:decide (V.bl i=V.bl j)=(i == j):=by
 rw[cw]
 simp
theorem HF {i j:Str}:decide (V.str i=V.str j)=(i == j):=by
 rw[cw]
 simp
theorem Qk {i j:Array UInt8}:decide (V.byt i=V.byt j)=(i.toList == j.toList):=by
 rw[cw]
 cases i
 cases j
 simp
section
variable {a b c:Expr} {tb tc:TE}
theorem Bk {Q:VK} {k a:Bool} (I:Inv X a0 σ H s) (q:Q (.bl k) H) (e:k=a):EP X a0 σ Q (.bool a) s:=by
 subst e
 exact⟨.bl k,H,I,rfl,q⟩
theorem Dt:GK X (compareOp .Eq) qM:=by
 intro e s σ H x y v u Q I d a h
 obtain⟨c,q⟩:=h
 cases x with
 | non =>
  cases d
  cases y with
  | non=>cases a;exact PySem.EqNone.eq_none_none (Bk I q (by simp))
  | bl j=>cases a;exact PySem.EqNone.eq_none_bool (Bk I q (by simp))
  | int j=>obtain⟨b,rfl⟩:=a;exact PySem.EqNone.eq_none_int (Bk I q (by simp))
  | str j=>obtain⟨b,rfl⟩:=a;exact PySem.EqNone.eq_none_str (Bk I q (by simp))
  | _=>exact absurd (show false=true from c) Bool.false_ne_true
 | bl i =>
  cases d
  cases y with
  | non=>cases a;exact PySem.EqNone.eq_bool_none (Bk I q (by simp))
  | bl j=>cases a;exact eq_bool (Bk I q Tv)
  | str j=>obtain⟨b,rfl⟩:=a;exact PySem.EqMixed.eq_bool_str (Bk I q (by simp))
  | _=>exact absurd (show false=true from c) Bool.false_ne_true
 | int i =>
  obtain⟨t,rfl⟩:=d
  cases y with
  | non=>cases a;exact PySem.EqNone.eq_int_none (Bk I q (by simp))
  | int j=>obtain⟨b,rfl⟩:=a;exact eq_int (Bk I q Q5)
  | str j=>obtain⟨b,rfl⟩:=a;exact PySem.EqMixed.eq_int_str (Bk I q (by simp))
  | _=>exact absurd (show false=true from c) Bool.false_ne_true
 | str i =>
  obtain⟨t,rfl⟩:=d
  cases y with
  | non=>cases a;exact PySem.EqNone.eq_str_none (Bk I q (by simp))
  | bl j=>cases a;exact PySem.EqMixed.eq_str_bool (Bk I q (by simp))
  | int j=>obtain⟨b,rfl⟩:=a;exact PySem.EqMixed.eq_str_int (Bk I q (by simp))
  | str j=>obtain⟨b,rfl⟩:=a;exact eq_str (Bk I q HF)
  | _=>exact absurd (show false=true from c) Bool.false_ne_true
 | byt i =>
  obtain⟨t,rfl⟩:=d
  cases y with
  | byt j=>obtain⟨b,rfl⟩:=a;exact W.eq_bytes (Bk I q Qk)
  | _=>exact absurd (show false=true from c) Bool.false_ne_true
 | _=>cases y <;> exact absurd (show false=true from c) Bool.false_ne_true
theorem KR:GK X (compareOp .NotEq) qQ:=by
 intro e s σ H x y v u Q I d a h
 obtain⟨c,q⟩:=h
 cases x with
 | non =>
  cases d
  cases y with
  | non=>cases a;exact PySem.EqNone.ne_none_none (Bk I q (by simp))
  | bl j=>cases a;exact PySem.EqNone.ne_none_bool (Bk I q (by simp))
  | int j=>obtain⟨b,rfl⟩:=a;exact PySem.EqNone.ne_none_int (Bk I q (by simp))
  | str j=>obtain⟨b,rfl⟩:=a;exact PySem.EqNone.ne_none_str (Bk I q (by simp))
  | _=>exact absurd (show false=true from c) Bool.false_ne_true
 | bl i =>
  cases d
  cases y with
  | non=>cases a;exact PySem.EqNone.ne_bool_none (Bk I q (by simp))
  | bl j=>cases a;exact ne_bool (Bk I q (congrArg not Tv))
  | str j=>obtain⟨b,rfl⟩:=a;exact PySem.EqMixed.ne_bool_str (Bk I q (by simp))
  | _=>exact absurd (show false=true from c) Bool.false_ne_true
 | int i =>
  obtain⟨t,rfl⟩:=d
  cases y with
  | non=>cases a;exact PySem.EqNone.ne_int_none (Bk I q (by simp))
  | int j=>obtain⟨b,rfl⟩:=a;exact ne_int (Bk I q (congrArg not Q5))
  | str j=>obtain⟨b,rfl⟩:=a;exact PySem.EqMixed.ne_int_str (Bk I q (by simp))
  | _=>exact absurd (show false=true from c) Bool.false_ne_true
 | str i =>
  obtain⟨t,rfl⟩:=d
  cases y with
  | non=>cases a;exact PySem.EqNone.ne_str_none (Bk I q (by simp))
  | bl j=>cases a;exact PySem.EqMixed.ne_str_bool (Bk I q (by simp))
  | int j=>obtain⟨b,rfl⟩:=a;exact PySem.EqMixed.ne_str_int (Bk I q (by simp))
  | str j=>obtain⟨b,rfl⟩:=a;exact ne_str (Bk I q (congrArg not HF))
  | _=>exact absurd (show false=true from c) Bool.false_ne_true
 | byt i =>
  obtain⟨t,rfl⟩:=d
  cases y with
  | byt j=>obtain⟨b,rfl⟩:=a;exact W.ne_bytes (Bk I q (congrArg not Qk))
  | _=>exact absurd (show false=true from c) Bool.false_ne_true
 | _=>cases y <;> exact absurd (show false=true from c) Bool.false_ne_true
theorem Fd:GK X (compareOp .Lt) (Vm λi j=>.bl (decide (i<j))):=Xg λ_ _ _ _ _ _ _ q=>lt_int q
theorem Dh:GK X (compareOp .LtE) (Vm λi j=>.bl (decide (i<=j))):=Xg λ_ _ _ _ _ _ _ q=>le_int q
theorem VJ:GK X (compareOp .Gt) (Vm λi j=>.bl (decide (j<i))):=Xg λ_ _ _ _ _ _ _ q=>gt_int q
theorem YS:GK X (compareOp .GtE) (Vm λi j=>.bl (decide (j<=i))):=Xg λ_ _ _ _ _ _ _ q=>ge_int q
theorem RZ:GK X (compareOp .In) (λx y H Q=>∃ i j,x=.str i/\y=.str j/\Q (.bl (!(Builtin.Str.occurrences j i 0 j.length 1).isEmpty)) H):=by
 intro d s σ H x y v u Q I a b h
 obtain⟨i,j,rfl,rfl,q⟩:=h
 obtain⟨t,rfl⟩:=a
 obtain⟨c,rfl⟩:=b
 exact in_str (Bk I q rfl)
theorem Wk:GK X (compareOp .IsNot) (λx y H Q=>y=.non/\Q (.bl (!decide (x=.non))) H):=by
 intro c s σ H x y v u Q I a b h
 obtain⟨rfl,q⟩:=h
 cases b
 refine isnot_none_gen (Bk I q ?_)
 cases x <;> first
  | (cases a;rfl)
  | (obtain⟨t,rfl⟩:=a;rfl)
theorem Ba (b:Expr) {a:CmpOp} (h:a ≠ .In:=by decide) (c:a ≠ .NotIn:=by decide):behindInMarks a b=false:=by
 have e:(a == CmpOp.In)=false:=by cases a <;> first | rfl | exact absurd rfl h
 have d:(a == CmpOp.NotIn)=false:=by cases a <;> first | rfl | exact absurd rfl c
 cases b <;> simp[behindInMarks,e,d]
theorem Ef {c:CmpOp} {r:R2} (g:GK X (compareOp c) r) (m:PE X a ta) (d:PE X b tb) (i:behindInMarks c b=false):PE X (.Compare a [c] [b] pos) (cW r ta tb):=by
 intro e s σ H Q I h
 exact wpAny_Compare1 (Zg m d I h λv u f x y l n j k q=>g e f σ l x y v u Q n j k q) i
inductive Ub (Q:Bool->Hp->Prop) (x:V) (H':Hp):Prop
 | mk (k:_):x=.bl k->Q k H'->Ub Q x H'
def ZD (t:TE):TT:=λσ H Q=>t σ H λx H'=>Ub Q x H'
theorem BV {f:CmpOp} {r:R2} (o:GK X (compareOp f) r) (C:PE X a ta) (l:PE X b tb) (q:behindInMarks f b=false):PT X (.Compare a [f] [b] pos) (ZD (cW r ta tb)):=by
 intro d s σ H Q I h
 refine wpAny_isTrue_Compare1 (Bt (C d s σ H _ I h) λv j ⟨x,t,i,D,E⟩=>Bt (l d j σ t _ i E) λu n ⟨y,A,F,B,g⟩ =>
  Bt (o d n σ A x y v u _ F D B g) λc J ⟨z,G,w,m,k,e,p⟩=>?_) q
 subst e
 cases m
 exact wpAny_truthy_bool ⟨G,w,p⟩
inductive Qt (r':R2) (tc:TE) (σ:St) (Q:VK) (y:V) (z:V) (H3:Hp):Prop
 | mk (k:_):z=.bl k->(if k=true then tc σ H3 λw' H4=>r' y w' H4 Q else Q (.bl false) H3)->Qt r' tc σ Q y z H3
def Ut (r r':R2) (ta tb tc:TE):TE:=λσ H Q=>ta σ H λx H1=>tb σ H1 λy H2=>r x y H2 λz H3=>Qt r' tc σ Q y z H3
theorem GD {g i:CmpOp} {r l:R2} (A:GK X (compareOp g) r) (D:GK X (compareOp i) l) (V:PE X a ta) (q:PE X b tb) (t:PE X c tc)
  (C:lastMarks [g,i] [b,c]=false:=by with_unfolding_all rfl):PE X (.Compare a [g,i] [b,c] pos) (Ut r l ta tb tc):=by
 intro f s σ H Q I h
 refine Compare_chain (Bt (V f s σ H _ I h) λv N ⟨x,E,M,G,W⟩=>chain_link (Bt (q f N σ E _ M W) λu w ⟨y,F,K,j,L⟩ =>
  Bt (A f w σ F x y v u _ K G j L) λd T ⟨z,o,n,O,k,e,m⟩=>?_)) C
 subst e
 cases O
 refine wpAny_truthy_bool ?_
 cases k with
 | false=>exact ite_ff ⟨.bl false,o,n,rfl,m⟩
 | true=>exact ite_tt (chain_last (Bt (t f T σ o _ n m) λJ U ⟨R,P,B,p,S⟩=>D f U σ P y R u J Q B j p S))
theorem G3 {g j:CmpOp} {r m:R2} (D:GK X (compareOp g) r) (J:GK X (compareOp j) m) (ha:PE X a ta) (t:PE X b tb) (w:PE X c tc)
  (G:lastMarks [g,j] [b,c]=false:=by with_unfolding_all rfl):PT X (.Compare a [g,j] [b,c] pos) (ZD (Ut r m ta tb tc)):=by
 intro f s σ H Q I h
 refine isTrue_chain (Bt (ha f s σ H _ I h) λv U ⟨x,K,T,N,q1⟩=>test_link (Bt (t f U σ K _ T q1) λu B ⟨y,L,P,l,S⟩ =>
  Bt (D f B σ L x y v u _ P N l S) λd s3 ⟨z,p,o,W,k,e,n⟩=>?_)) G
 subst e
 cases W
 refine wpAny_truthy_bool ?_
 cases k with
 | false =>
  obtain⟨k',V,E⟩:=n
  cases V
  exact ite_ff ⟨p,o,E⟩
 | true =>
  refine ite_tt (test_last (Bt (w f s3 σ p _ o n) λO s4 ⟨Z,Y,F,q,q4⟩=>Bt (J f s4 σ Y y Z u O _ F l q q4) λd' s5 i=>?_))
  obtain⟨z2,M,I5,A,k2,R,C⟩:=i
  subst R
  cases A
  exact wpAny_truthy_bool ⟨M,I5,C⟩
def dI (K:W.Frag) (x:V) (H:Hp) (k:Bool):Prop :=
 match x with
 | .non=>k=false
 | .bl b=>k=b
 | .int i=>k=(i != 0)
 | .str y=>y.length<=sizeLine/\k=((y.length:Int) != 0)
 | .byt y=>y.size<=sizeLine/\k=((y.size:Int) != 0)
 | .ref p=>(∃ xs,CV K H p xs/\k = !xs.isEmpty) \/ (∃ xs,Er K H p xs/\k = !xs.isEmpty) \/ ∃ kvs,H p=some (.dK kvs)/\k = !kvs.isEmpty
 | _=>False
theorem Pg {κ:Type} {kvs:List (κ × V)} {vs:List (κ × Value)} (r:KV kvs vs):(!vs.isEmpty) = !kvs.isEmpty:=by
 cases r <;> rfl
theorem KJ {its:List Value} (r:Vals xs its):(!its.toArray.isEmpty) = !xs.isEmpty:=by
 cases r <;> simp
theorem Iz:(sizeLine:Nat)<2 ^ 63:=by rw[sizeLine_eq];decide
theorem cH:l_ X (λx H Q=>∃ k,dI X.K x H k/\Q k H):=by
 intro B s σ H x v Q I g h
 obtain⟨k,e,q⟩:=h
 have A:=Iz
 have C:sizeLine=16777216:=sizeLine_eq
 cases x with
 | non =>
  cases g
  have a:k=false:=e
  subst a
  exact truthy_none ⟨H,I,q⟩
 | bl b =>
  cases g
  have a:k=b:=e
  subst a
  exact wpAny_truthy_bool ⟨H,I,q⟩
 | int i =>
  obtain⟨t,rfl⟩:=g
  have a:k=(i != 0):=e
  subst a
  exact PySem.P.truthy_int ⟨H,I,q⟩
 | str y =>
  obtain⟨t,rfl⟩:=g
  obtain⟨w,a⟩:y.length<=sizeLine/\k=((y.length:Int) != 0):=e
  subst a
  exact PySem.P.truthy_str (by omega) ⟨H,I.tok _,q⟩
 | byt y =>
  obtain⟨t,rfl⟩:=g
  obtain⟨w,a⟩:y.size<=sizeLine/\k=((y.size:Int) != 0):=e
  subst a
  exact W.truthy_bytes (by omega) ⟨H,I.tok _,q⟩
 | ref p =>
  cases g
  have a:(∃ f,CV X.K H p f/\k = !f.isEmpty) \/ (∃ f,Er X.K H p f/\k = !f.isEmpty) \/ ∃ c,H p=some (.dK c)/\k = !c.isEmpty:=e
  rcases a with⟨f,j,a⟩ | ⟨f,j,a⟩ | ⟨c,j,a⟩
  ·subst a
   obtain⟨n,r,o,u⟩:=I.list j
   have d:=r.length
   exact wpAny_truthy_list o.isList (by simp only[List.size_toArray];omega) ⟨H,I.tok _,by rw[KJ r];exact q⟩
  ·subst a
   obtain⟨n,r,o,u⟩:=I.tuple j
   have d:=r.length
   exact truthy_tuple o (by simp only[List.size_toArray];omega) ⟨H,I.tok _,by rw[KJ r];exact q⟩
  ·subst a
   obtain⟨u,z,l,r,m⟩:c.length<=sizeLine/\(p == sysModules)=false/\∃ l,KV c l/\s.heap.DictOf (CZ X.prog X.w) p l:=I.hok p _ j
   have d:c.length=l.length:=Paired.length r
   exact wpAny_truthy_dict z m (by omega) ⟨H,I.tok _,by rw[Pg r];exact q⟩
 | _=>exact (show False from e).elim
theorem J3 (g:PE X a ta) (e:∀ kL,isTrue a X.env kL=(do let v <-kL;standAt a.pos;holding [v] (truthy v))) :
  PT X a (λσ H Q=>ta σ H λx H'=>∃ k,dI X.K x H' k/\Q k H'):=by
 intro b s σ H Q I h
 exact isTrue_plain (Bt (g b s σ H _ I h) λv d ⟨x,f,c,i,j⟩=>cH b d σ f x v Q c i j) (e _)
theorem Hc:GK X (binaryOp .Add) (λx y H Q=>∃ i j,x=.str i/\y=.str j/\i.length+j.length<=sizeLine/\Q (.str (i++j)) H):=by
 intro e s σ H x y v u Q I b c h
 obtain⟨i,j,rfl,rfl,d,q⟩:=h
 obtain⟨t,rfl⟩:=b
 obtain⟨a,rfl⟩:=c
 exact add_str (λa tk=>⟨.str (i++j),H,I.tok _,⟨_,rfl⟩,q⟩) d
theorem vals1 {x:V} (r:Vals [x] us):∃ u,us=[u]/\RelV x u:=by
 cases r with
 | cons a b=>cases b;exact⟨_,rfl,a⟩
theorem vals2 {x:V} (r:Vals [x,y] us):∃ u w',us=[u,w']/\RelV x u/\RelV y w':=by
 cases r with
 | cons b d =>
  cases d with
  | cons a c=>cases c;exact⟨_,_,rfl,b,a⟩
theorem Kw (b:X.calm=true):Ep X (.builtin "max") (λxs H Q=>∃ i j,xs=[.int i,.int j]/\Q (.int (if j > i then j else i)) H):=by
 intro e s σ H xs d Q I r h
 obtain⟨i,j,rfl,q⟩:=h
 obtain⟨u,f,rfl,⟨t,rfl⟩,⟨c,rfl⟩⟩:=vals2 r
 refine max_two_ints (I.ok.hd b) λg tk k=>⟨_,H,I.kept k,?_,q⟩
 by_cases a:j > i
 ·rw[if_pos a,if_pos a];exact⟨_,rfl⟩
 ·rw[if_neg a,if_neg a];exact⟨_,rfl⟩
theorem Q9:Ep X (.type "int") (λxs H Q=>(∃ i,xs=[.int i]/\Q (.int i) H) \/ ∃ k,xs=[.bl k]/\Q (.int (if k then 1 else 0)) H):=by
 intro c s σ H xs b Q I r h
 rcases h with⟨i,rfl,q⟩ | ⟨k,rfl,q⟩
 ·obtain⟨u,rfl,t,rfl⟩:=vals1 r
  exact call_int_int ⟨.int i,H,I,⟨_,rfl⟩,q⟩
 ·obtain⟨u,rfl,a⟩:=vals1 r
  cases a
  exact call_int_bool ⟨.int (if k then 1 else 0),H,I.tok _,⟨_,rfl⟩,q⟩
end
structure Oo (h:Heap) (x dx C:Addr) (mA:Str->Option Value):Prop where
 obj:h.get? x=some (W.instObj C dx)
 ns:h.Ns1 dx mA
 ne:dx ≠ x
theorem R4 {d:Str->Option Value} (n:h.Ns1 dx d):∃ od,h.get? dx=some od/\∀ name,W.lookIn name od=some (d name):=by
 obtain⟨o,c,m,j,i,l,_,k⟩:=n
 refine⟨o,j,λname=>?_⟩
 have e:=k name
 unfold nsFind findBy at e
 rw[<-Array.find?_toList] at e
 unfold W.lookIn
 rw[i]
 dsimp only
 split
 ·rename_i y q
  rw[q] at e
  exact congrArg some e
 ·rename_i q
  rw[q] at e
  have a:c.toList.any (·.refKey)=false:=by
   rw[List.any_eq_false]
   intro y g
   obtain⟨z,t,b⟩:=l y (Array.mem_toList_iff.mp g)
   simp[DictEntry.refKey,b]
  have f:¬ c.toList.any (·.refKey)=true:=by rw[a];exact eR
  rw[if_neg f]
  exact congrArg some e
theorem Oo.look {x:Addr} {a:Str->Option Value} (I:Oo h x dx C a):∃ od,W.InstAt h x (W.instObj C dx) C (some od)/\∀ name,W.lookIn name od=some (a name) :=
 let ⟨od,c,b⟩:=R4 I.ns
 ⟨od,⟨I.obj,rfl,rfl,c⟩,b⟩
section
variable {w:World} {E:vSP} {K:W.Frag} {x:Addr} {mA:Str->Option Value} {name:Str} {v:Value}
theorem W3 {e:Bool} (X:K.In s.heap) (I:Oo s.heap x dx C mA) (b:W.plainGet K C name=true) (d:W.hasDictIn K C=true)
  (f:W.findIn K (.ref C) name=some none) (g:mA name=some v) (a:W.handedIn v=true) (h:Q v { s with toks:=s.toks+1 }) :
  wpAny (model prog w) A (getAttr (.ref x) name e) Q E s:=by
 obtain⟨i,J,c⟩:=I.look
 exact W.get_value X J (W.plainGet_of b).1 (W.findObj_own d f rfl (by rw[c,g])) a h
theorem Vi {pl:Sem Bool} {Q:Value × List Value->Shared->Prop} (X:K.In s.heap) (I:Oo s.heap x dx C mA) (a:W.plainGet K C name=true)
  (b:W.findIn K (.ref C) name=some (some (.ref f))) (d:W.isFn K (.ref f)=true) (g:mA name=none) (h:Q (.ref f,[.ref x]) s) :
  wpAny (model prog w) A (getMethod (.ref x) name pl) Q E s:=by
 obtain⟨c,J,e⟩:=I.look
 exact W.method_fn X J (W.plainGet_of a).1 (W.plainGet_of a).2 b (beq_iff_eq.mp d) (by show (W.lookIn name c).map (·.isSome)=some false;rw[e,g];rfl) h
theorem XM {d:List Str} {Q:Unit->Shared->Prop} (X:K.In s.heap) (I:Oo s.heap x dx C mA)
  (o:W.findIn K (.ref C) "__setattr__" = some (some (.builtin "object.__setattr__"))) (p:W.plainOver K C=true) (g:W.takerIn K C name=some none) (i:W.hasDictIn K C=true)
  (k:PySem.Within mA d) (hsz:d.length<=sizeLine)
  (h:∀ h',Oo h' x dx C (λy=>if y=name then some v else mA y)->Heap.SameBut dx s.heap h'->Q () { s with heap:=h',toks:=s.toks+2 }) :
  wpAny (model prog w) A (setAttr (.ref x) name v) Q E s:=by
 obtain⟨B,J,t⟩:=I.look
 refine W.set_plain X J o (W.osa_open (s:={ s with toks:=s.toks+1 }) (r:=none) X J p g λb=>?_)
 obtain⟨D,j,n⟩:=W.any_some i
 have f:s.heap.get? x=some ⟨.ref C,some dx,.plain,#[]⟩:=I.obj
 refine wpAny_bind (wpAny_pure (wpAny_bind (wpAny_bind (wpAny_loadPart f (wpAny_bind (W.Looks.here (s:={ s with toks:=s.toks+1 }) (W.looks_clsIn X j) ?_))))))
 rw[n]
 refine wpAny_pure (a:=some dx) (wpAny_bind (wpAny_pure (wpAny_bind ?_)))
 refine wpAny_nsSet1 (s:={ s with toks:=s.toks+1 }) I.ns λh' c e=>?_
 obtain⟨F,u,z,m,l,q⟩:=c.count (PySem.Within.cons name v k)
 refine wpAny_bind (wpAny_lookBehind m (by rw[l];exact pastItsLine_dict (bi q (by rw[cK];omega))) ?_)
 exact wpAny_pure (h _ ⟨(e.2 _ (Ne.symm I.ne)).trans I.obj,c,I.ne⟩ e)
theorem Vu {R:Result->Shared->Prop} {vs:List Value} {b:List (Str × Value)} (X:K.In s.heap) (c:W.makesIn K C=true)
  (i:W.findIn K (.ref C) "__init__" = some (some (.ref f))) (e:W.typeIn K (.ref f)=some (.type "function"))
  (h:codeAny (model prog w) (A.under (.builtin "type.__call__" ⟨.ref C::vs,b⟩)) (.call (.ref f) ⟨.ref (s.heap.objs.size+1)::vs,b⟩) (W.InitBack (s.heap.objs.size+1) R)
   { s with heap:=(s.heap.push W.emptyDict).push (W.instObj C s.heap.objs.size) }) :
  codeAny (model prog w) A (.call (.ref C) ⟨vs,b⟩) R s:=by
 obtain⟨j,g,d,t,os⟩:=s
 exact W.make_core (W.makes_of X c) (W.looks_findIn X i) (λa=>W.bind_fn X a e) (.inl rfl) h
end
def Be (f:Str) (v:V):List (Str × V)->List (Str × V)
 | []=>[(f,v)]
 | (g,x)::r=>if g=f then (g,v)::r else (g,x)::Be f v r
theorem Ak (f g:Str) (v:V):∀ fs:List (Str × V),(Be f v fs).lookup g=if g=f then some v else fs.lookup g
 | []=>by
  show List.lookup g [(f,v)]=_
  by_cases h:g=f
  ·have a:(g == f)=true:=beq_iff_eq.mpr h
   simp only[List.lookup,a,if_pos h]
  ·have a:(g == f)=false:=beq_eq_false_iff_ne.mpr h
   simp only[List.lookup,a,if_neg h]
 | (k,x)::r=>by
  have c:=Ak f g v r
  rw[show Be f v ((k,x)::r)=(if k=f then (k,v)::r else (k,x)::Be f v r) from rfl]
  by_cases b:k=f
  ·rw[if_pos b]
   by_cases h:g=k
   ·have a:(g == k)=true:=beq_iff_eq.mpr h
    simp only[List.lookup,a,if_pos (h.trans b)]
   ·have a:(g == k)=false:=beq_eq_false_iff_ne.mpr h
    simp only[List.lookup,a,if_neg (λe:g=f=>h (e.trans b.symm))]
  ·rw[if_neg b]
   by_cases h:g=k
   ·have a:(g == k)=true:=beq_iff_eq.mpr h
    simp only[List.lookup,a,if_neg (λe:g=f=>b (h.symm.trans e))]
   ·have a:(g == k)=false:=beq_eq_false_iff_ne.mpr h
    simp only[List.lookup,a]
    exact c
theorem Iw (f:Str) (v:V):∀ fs:List (Str × V),f∈(Be f v fs).map (·.1)/\∀ g,g∈fs.map (·.1)->g∈(Be f v fs).map (·.1)
 | []=>⟨by simp[Be],λg h=>by simp at h⟩
 | (k,x)::r=>by
  obtain⟨b,c⟩:=Iw f v r
  rw[show Be f v ((k,x)::r)=(if k=f then (k,v)::r else (k,x)::Be f v r) from rfl]
  by_cases a:k=f
  ·rw[if_pos a]
   subst a
   exact⟨by simp,λg h=>by simpa using h⟩
  ·rw[if_neg a]
   refine⟨?_,λg h=>?_⟩
   ·rw[cy]
    exact ba _ b
   ·rw[cy] at h |-
    rcases cm.mp h with e | e
    ·exact cm.mpr (.inl e)
    ·exact ba _ (c g e)
theorem JG (f:Str) (v:V):∀ fs:List (Str × V),(Be f v fs).length<=fs.length+1
 | []=>by simp[Be]
 | (k,x)::r=>by
  have b:=JG f v r
  rw[show Be f v ((k,x)::r)=(if k=f then (k,v)::r else (k,x)::Be f v r) from rfl]
  by_cases a:k=f
  ·rw[if_pos a,cK,cK];omega
  ·rw[if_neg a,cK,cK];omega
theorem Gs.some_of {v:V} {o:Option Value} (r:Gs (some v) o):∃ u,o=some u/\RelV v u:=by
 cases o with
 | none=>exact (show False from r).elim
 | some u=>exact⟨u,rfl,r⟩
theorem Gs.none_of {o:Option Value} (r:Gs none o):o=none:=by
 cases o with
 | none=>rfl
 | some u=>exact (show False from r).elim
theorem Rw {v:V} (r:RelV v u):W.handedIn u=true:=by
 cases v with
 | non=>cases (show u=Value.none from r);rfl
 | bl b=>cases (show u=Value.bool b from r);rfl
 | int i=>obtain⟨t,e⟩:=(show ∃ t,u=Value.int i t from r);cases e;rfl
 | str x=>obtain⟨t,e⟩:=(show ∃ t,u=Value.str x t from r);cases e;rfl
 | byt b=>obtain⟨t,e⟩:=(show ∃ t,u=Value.bytes b t from r);cases e;rfl
 | flt b=>obtain⟨t,e⟩:=(show ∃ t,u=Value.float b t from r);cases e;rfl
 | ref a=>cases (show u=Value.ref a from r);rfl
 | ty n=>cases (show u=Value.type n from r);rfl
section
variable {w:World} {fs qk:List (Str × V)}
theorem JZ (b:Hl P w H h) (e:H a=some (.ins C dx fs)):∃ mA,Oo h a dx C mA/\(∀ f,Gs (fs.lookup f) (mA f))/\PySem.Within mA (fs.map (·.1))/\fs.length<=1000/\H dx=some (.own a):=by
 obtain⟨d,z,c,g,mA,n,r,q⟩:=(show Bx P w H h a (.ins C dx fs) from b a _ e)
 exact⟨mA,⟨g,n,c⟩,r,q,z,d⟩
end
structure S6 (K:W.Frag) (C:Addr):Prop where
 pg:W.plainGet K C Str.empty=true
 hd:W.hasDictIn K C=true
 po:W.plainOver K C=true
 sa:W.findIn K (.ref C) "__setattr__" = some (some (.builtin "object.__setattr__"))
theorem S6.get {K:W.Frag} (c:S6 K C) (f:Str):W.plainGet K C f=true:=c.pg
def DG (K:W.Frag) (C:Addr) (f:Str):Prop:=W.findIn K (.ref C) f=some none
theorem DG.taker {K:W.Frag} {f:Str} (n:DG K C f):W.takerIn K C f=some none:=by
 unfold W.takerIn
 rw[show W.findIn K (.ref C) f=some none from n]
 rfl
structure Meth (K:W.Frag) (C:Addr) (m:Str) (f:Addr):Prop where
 at_:W.findIn K (.ref C) m=some (some (.ref f))
 fn:W.isFn K (.ref f)=true
 kp:W.keepIn K (.ref f)=true
section
variable {fs:List (Str × V)} {f:Str} {v:V} {E:vSP}
theorem PP {b:Bool} (I:Inv X a0 σ H s) (e:H a=some (.ins C dx fs)) (c:S6 X.K C) (n:DG X.K C f) (l:fs.lookup f=some v)
  (h:∀ u s',Inv X a0 σ H s'->RelV v u->Q u s'):wpAny (model X.prog X.w) A (getAttr (.ref a) f b) Q E s:=by
 obtain⟨i,O,r,_,_,_⟩:=JZ I.hok e
 obtain⟨u,g,d⟩:=Gs.some_of (v:=v) (o:=i f) (by rw[<-l];exact r f)
 exact W3 I.Ig O (c.get f) c.hd n g (Rw d) (h u _ (I.tok _) d)
theorem KH {m:Str} {g:Addr} {pl:Sem Bool} {Q:Value × List Value->Shared->Prop} (I:Inv X a0 σ H s) (e:H a=some (.ins C dx fs)) (c:S6 X.K C) (k:Meth X.K C m g) (l:fs.lookup m=none)
  (h:Q (.ref g,[.ref a]) s):wpAny (model X.prog X.w) A (getMethod (.ref a) m pl) Q E s:=by
 obtain⟨d,O,r,_,_,_⟩:=JZ I.hok e
 have b:d m=none:=Gs.none_of (by rw[<-l];exact r m)
 exact Vi I.Ig O (c.get m) k.at_ k.fn b h
theorem Pa {Q:Unit->Shared->Prop} (I:Inv X a0 σ H s) (e:H a=some (.ins C dx fs)) (c:S6 X.K C) (n:DG X.K C f) (F:fs.length<1000) (w:RelV y u)
  (h:∀ s',Inv X a0 σ (upd H a (.ins C dx (Be f y fs))) s'->Q () s'):wpAny (model X.prog X.w) A (setAttr (.ref a) f u) Q E s:=by
 obtain⟨k,O,r,i,_,j⟩:=JZ I.hok e
 have B:(fs.map (·.1)).length<=sizeLine:=by rw[af,sizeLine_eq];omega
 refine XM I.Ig O c.sa c.po n.taker c.hd i B λD d t=>h _ ?_
 have v:∃ o,D.get? dx=some o:=let ⟨o,_,_,p,_⟩:=d.ns;⟨o,p⟩
 refine I.write (x:=a) (e:=dx) (by rw[e];exact True.intro) (.inr j) (λb q m z=>(t.2 b m).trans z) v ?_
 refine⟨by rw[Aw O.ne];exact j,?_,O.ne,d.obj,_,d.ns,λg=>?_,λg l=>?_⟩
 ·have:=JG f y fs;omega
 ·show Gs ((Be f y fs).lookup g) (if g=f then some u else k g)
  rw[Ak]
  by_cases q:g=f
  ·rw[if_pos q,if_pos q];exact w
  ·rw[if_neg q,if_neg q];exact r g
 ·by_cases q:g=f
  ·rw[q];exact (Iw f y fs).1
  ·refine (Iw f y fs).2 g (i g λz=>l ?_)
   show (if g=f then some u else k g)=none
   rw[if_neg q];exact z
theorem Inv.made (I:Inv X a0 σ H s):Inv X a0 σ (upd (upd H s.heap.objs.size (.own (s.heap.objs.size+1))) (s.heap.objs.size+1) (.ins C s.heap.objs.size []))
  { s with heap:=(s.heap.push W.emptyDict).push (W.instObj C s.heap.objs.size) }:=by
 have c:(s.heap.push W.emptyDict).get? s.heap.objs.size=some W.emptyDict:=Heap.get?_push_size s.heap rfl
 have f:((s.heap.push W.emptyDict).push (W.instObj C s.heap.objs.size)).get? (s.heap.objs.size+1)=some (W.instObj C s.heap.objs.size):=by
  have:=Heap.get?_push_size (s.heap.push W.emptyDict) (o:=W.instObj C s.heap.objs.size) rfl
  rwa [Heap.size_push] at this
 have i:(s.heap.push W.emptyDict).Ns s.heap.objs.size (λ_=>none):=⟨W.emptyDict,#[],_,c,rfl,(λe g=>absurd g (by simp)),λ_=>rfl⟩
 have h:=I.laid (a:=s.heap.objs.size) (o:=.own (s.heap.objs.size+1)) (h':=s.heap.push W.emptyDict) (t':=s.toks) (λb u q=>Heap.get?_push_of_some _ q) (ai _) ⟨_,c⟩
 refine h.laid (a:=s.heap.objs.size+1) (o:=.ins C s.heap.objs.size []) (t':=s.toks) (λb u q=>Heap.get?_push_of_some _ q) (Nat.le_of_eq (Heap.size_push _ _)) ?_
 have d:s.heap.objs.size ≠ s.heap.objs.size+1:=be (fN _)
 refine⟨by rw[Aw d,Al],ee _,d,f,λ_=>none,(Heap.Ns1.of_empty i).at λo q=>Heap.get?_push_of_some _ q,λ_=>True.intro,λy j=>absurd rfl j⟩
theorem Wi {w:World} {a:Env} {f:Str} (b:attributeBase e f a (eval e a)=eval e a)
  (h:wpAny (model prog w) A (eval e a) (λo s₁=>wpAny (model prog w) A (getAttr o f true) Q E s₁) E s):wpAny (model prog w) A (eval (.Attribute e f pos) a) Q E s :=
 Attribute_any_ h (by rw[arm_eval_Attribute,b])
end
inductive YD (K:W.Frag) (f:Str) (Q:VK) (x:V) (H1:Hp):Prop
 | mk (a C dx fs v:_):x=.ref a->H1 a=some (.ins C dx fs)->S6 K C->DG K C f->fs.lookup f=some v->Q v H1->YD K f Q x H1
def gh (K:W.Frag) (ta:TE) (f:Str):TE:=λσ H Q=>ta σ H λx H1=>YD K f Q x H1
inductive Ym (K:W.Frag) (f:Str) (D:Ends) (σ:St) (y:V) (x:V) (H2:Hp):Prop
 | mk (a C dx fs:_):x=.ref a->H2 a=some (.ins C dx fs)->S6 K C->DG K C f->fs.length<1000->D.nx σ (upd H2 a (.ins C dx (Be f y fs)))->Ym K f D σ y x H2
def lH (K:W.Frag) (ta tv:TE) (f:Str):TS:=λD σ H=>tv σ H λy H1=>ta σ H1 λx H2=>Ym K f D σ y x H2
section
variable {o value:Expr} {f:Str} {kq nE:Pos} {tv:TE}
theorem CK (o:PE X e ta) (g:attributeBase e f X.env (eval e X.env)=eval e X.env):PE X (.Attribute e f pos) (gh X.K ta f):=by
 intro j s σ H Q I h
 refine Wi g (Bt (o j s σ H _ I h) λu w b=>?_)
 obtain⟨x,r,d,p,a,C,y,fs,v,m,i,c,n,l,q⟩:=b
 subst m
 obtain rfl:u=Value.ref a:=p
 exact PP d i c n l λA z t k=>⟨v,r,t,k,q⟩
theorem E_ (t:PE X o ta) (z:PE X value tv) (m:swapsWith value (some (.Attribute o f kq)) pos.line X.env=pure false):PS X (.Assign [.Attribute o f kq] value pos) (lH X.K ta tv f):=by
 intro b s σ H D I h
 refine plainObj_wpAny_Assign_Attribute (Bt (z b s σ H _ I h) λu g ⟨y,p,e,r,q⟩=>Bt (t b g σ p _ e q) λov B ⟨x,F,w,k,a,C,A,fs,j,i,c,n,l,d⟩=>?_) m
 subst j
 obtain rfl:ov=Value.ref a:=k
 exact Pa w i c n l r λE v=>⟨σ,_,v,d⟩
end
section
variable {E:vSP} {c:Value} {b:Bool}
inductive JD (K:W.Frag) (H:Hp):V->Value->Prop where
 | non:JD K H .non (.type "NoneType")
 | bl (x:Bool):JD K H (.bl x) (.type "bool")
 | int (i:Int):JD K H (.int i) (.type "int")
 | str (x:Str):JD K H (.str x) (.type "str")
 | flt (x:UInt64):JD K H (.flt x) (.type "float")
 | lst {a:Addr} {xs:List V} (e:H a=some (.lst xs)):JD K H (.ref a) (.type "list")
 | frz {a:Addr} {o:Obj} {xs:List V} (e:H a=some (.frz o (.lst xs))):JD K H (.ref a) (.type "list")
 | tup {a:Addr} {xs:List V} (e:H a=some (.tup xs)):JD K H (.ref a) (.type "tuple")
 | dK {a:Addr} {kvs:List (Key × V)} (e:H a=some (.dK kvs)):JD K H (.ref a) (.type "dict")
 | dT {a:Addr} {kvs:List (List Key × V)} (e:H a=some (.dT kvs)):JD K H (.ref a) (.type "dict")
 | ins {a C dx:Addr} {fs:List (Str × V)} (e:H a=some (.ins C dx fs)) (cl:S6 K C) (ha:W.findIn K (.ref C) "__class__" = some (some (.builtin "object.__class__")))
   (hn:W.specialIn K (.builtin "object.__class__") "__get__" = some (some (.builtin "getset_descriptor.__get__"))) (GA:W.takesIn K (.builtin "object.__class__")=some true)
   (hm:W.mroIn K C (.type "object")=some true):JD K H (.ref a) (.ref C)
theorem Rv {x:V} {t:Value} (I:Inv X a0 σ H s) (f:RelV x u) (K:JD X.K H x t) (e:W.kitOne X.K t c=some b) (h:∀ tk,Q (.bool b) { s with toks:=tk }) :
  wpAny (model X.prog X.w) A (call (.builtin "isinstance") [u,c]) Q E s:=by
 cases K with
 | non=>cases (show u=Value.none from f);exact W.kia_one W.kitx_none I.Ig True.intro e (λz=>nomatch z) h
 | bl y=>cases (show u=Value.bool y from f);exact W.kia_one W.kitx_bool I.Ig True.intro e (λz=>nomatch z) h
 | int i=>obtain⟨t,q⟩:=(show ∃ t,u=Value.int i t from f);cases q;exact W.kia_one W.kitx_int I.Ig True.intro e (λz=>nomatch z) h
 | str y=>obtain⟨t,q⟩:=(show ∃ t,u=Value.str y t from f);cases q;exact W.kia_one W.kitx_str I.Ig True.intro e (λz=>nomatch z) h
 | flt y=>obtain⟨t,q⟩:=(show ∃ t,u=Value.float y t from f);cases q;exact W.kia_one W.kitx_float I.Ig True.intro e (λz=>nomatch z) h
 | @lst a k d =>
  cases (show u=Value.ref a from f)
  obtain⟨_,_,n,_,g⟩:=(show Bx X.prog X.w H s.heap a (.lst k) from I.hok a _ d)
  exact W.kia_one W.kitx_list I.Ig ⟨_,g,rfl⟩ e (λz=>nomatch z) h
 | @frz a r k d =>
  cases (show u=Value.ref a from f)
  obtain⟨_,_,_,n,_,g⟩:=(show Bx X.prog X.w H s.heap a (.frz r (.lst k)) from I.hok a _ d)
  exact W.kia_one W.kitx_list I.Ig ⟨_,g,rfl⟩ e (λz=>nomatch z) h
 | @tup a k d =>
  cases (show u=Value.ref a from f)
  obtain⟨_,_,_,p⟩:=(show Bx X.prog X.w H s.heap a (.tup k) from I.hok a _ d)
  obtain⟨o,g,l,_⟩:=p
  exact W.kia_one W.kitx_tuple I.Ig ⟨o,g,l⟩ e (λz=>nomatch z) h
 | @dK a j d =>
  cases (show u=Value.ref a from f)
  obtain⟨_,_,M,_,p⟩:=(show Bx X.prog X.w H s.heap a (.dK j) from I.hok a _ d)
  obtain⟨o,B,D,g,l,_⟩:=p
  exact W.kia_one W.kitx_dict I.Ig ⟨o,g,l.1⟩ e (λz=>nomatch z) h
 | @dT a j d =>
  cases (show u=Value.ref a from f)
  obtain⟨_,_,k,_,o,B,D,g,l,_⟩:=(show Bx X.prog X.w H s.heap a (.dT j) from I.hok a _ d)
  exact W.kia_one W.kitx_dict I.Ig ⟨o,g,l.1⟩ e (λz=>nomatch z) h
 | @ins a C L fs d m G w F v =>
  cases (show u=Value.ref a from f)
  obtain⟨P,O,_⟩:=JZ I.hok d
  obtain⟨N,J,_⟩:=O.look
  exact W.kia_one (W.kitx_own (m.get _) m.hd G w F v) I.Ig J e (λz=>nomatch z) h
end
structure BK (k:Nat) (A:Around):Prop where
 hd:A.handled=none
 dp:A.depth+3 * k+5<recursionLimit
 un:A.units+16 * k+200<cLine
theorem BK.mono {k:Nat} (r:BK k A) (h:j<=k):BK j A:=⟨r.hd,by have:=r.dp;omega,by have:=r.un;omega⟩
theorem ad {k:Nat} (r:BK k A) (h:j<=k:=by decide):BK j A:=r.mono h
theorem BK.deeper {k:Nat} (r:BK (k+1) A) (a:Env):BK k (A.deeper a) :=
 ⟨r.hd,by have:=r.dp;show A.depth+1+3 * k+5<_;omega,by have:=r.un;show A.units+3+16 * k+200<_;omega⟩
theorem Oe {a:List (Str × Value)}:(A.under (.builtin "type.__call__" ⟨.ref C::us,a⟩)).depth=A.depth+1:=by
 first | rfl | simp[Around.under,Code.weight,Code.isCreation,Code.isGuard,Code.isCaller,Code.frames,Code.isFrame,guardIds]
theorem Py {a:List (Str × Value)}:(A.under (.builtin "type.__call__" ⟨.ref C::us,a⟩)).units=A.units+1:=by
 first | rfl | simp[Around.under,Code.cUnits,Code.frames,Code.isFrame]
theorem BK.make {k:Nat} (r:BK (k+1) A) (C:Addr) (us:List Value) (a:List (Str × Value)):BK k (A.under (.builtin "type.__call__" ⟨.ref C::us,a⟩)) :=
 ⟨r.hd,by have:=r.dp;rw[Oe];omega,by have:=r.un;rw[Py];omega⟩
theorem BK.depth {k:Nat} (r:BK k A):A.depth<recursionLimit:=by have:=r.dp;omega
theorem BK.units {k:Nat} (r:BK k A):A.units+64<cLine:=by have:=r.un;omega
def eX:TA:=λ_ H Q=>Q [] H
def Yp (ta:TE) (tr:TA):TA:=λσ H Q=>ta σ H λx H1=>tr σ H1 λxs H2=>Q (x::xs) H2
section
variable {t:TA}
theorem Ab:PA X [] eX:=λ_ _ _ _ H Q I h=>Calls.spliced_nil ⟨[],H,I,.nil,h⟩
theorem Aa (n:PE X e te) (i:PA X es t) (k:starEach (e::es) X.env=(false,eval e X.env)::starEach es X.env:=by rfl):PA X (e::es) (Yp te t):=by
 intro a c s σ H Q I h
 rw[k]
 show wpAny _ _ (spliced ((false,eval e X.env)::backTo a (starEach es X.env))) _ _ s
 refine Calls.spliced_cons (Bt (n c s σ H _ I h) λu g b=>?_)
 obtain⟨x,l,f,o,p⟩:=b
 exact Bt (i a c g σ l _ f p) λv w ⟨j,m,q,r,d⟩=>⟨x::j,m,q,.cons o r,d⟩
def kh (t:TA):TE:=λσ H Q=>t σ H λxs H1=>xs.length<=sizeLine/\∀ p,H1 p=none->Q (.ref p) (upd H1 p (.tup xs))
def lN (t:TA):TE:=λσ H Q=>t σ H λxs H1=>xs.length<=sizeLine/\∀ p,H1 p=none->Q (.ref p) (upd H1 p (.lst xs))
theorem CN {x1} (h:PA X es t):PE X (.Tuple es x1 pos) (kh t):=by
 intro g s σ H Q I k
 refine wpAny_Tuple_spliced (Bt (h pos g s σ H _ I k) λf a ⟨i,d,c,r,z,q⟩=>⟨by rw[<-r.length];exact z,?_⟩)
 have j:d a.heap.objs.size=none:=c.hok.fresh (ai _)
 refine⟨.ref a.heap.objs.size,upd d a.heap.objs.size (.tup i),c.laid (t':=a.toks) (λb u e=>Heap.get?_push_of_some _ e) (ai _) ?_,rfl,q _ j⟩
 exact⟨z,f,r,⟨_,Heap.get?_push_size _ rfl,rfl,_,rfl⟩⟩
theorem Dk (h:PA X es t):PE X (.List es pos) (lN t):=by
 intro g s σ H Q I k
 refine wpAny_List_spliced (Bt (h pos g s σ H _ I k) λf a ⟨i,d,c,r,z,q⟩=>⟨by rw[<-r.length];exact z,?_⟩)
 have j:d a.heap.objs.size=none:=c.hok.fresh (ai _)
 refine⟨.ref a.heap.objs.size,upd d a.heap.objs.size (.lst i),c.laid (t':=a.toks) (λb u e=>Heap.get?_push_of_some _ e) (ai _) ?_,rfl,q _ j⟩
 exact⟨z,f,0,r,Heap.get?_push_size _ rfl⟩
end
abbrev Sp:=List V->Hp->VK->XK->Prop
abbrev QH:=List Env->Hp->Shared->XK->Value->Shared->Prop
structure NZ (P:Program) (w:World) (K:W.Frag) (mg:Str->Option Value) (base:Heap) (A:Around) (outer:List Env) (s:Shared) (H:Hp):Prop where
 frames:A.frames=some outer
 mod:Mod K mg base
 bs:∀ b o,base.get? b=some o->s.heap.get? b=some o/\H b=none
 bsz:base.objs.size<=s.heap.objs.size
 JQ:s.heap.FunFrames base outer
 frf:∀ b∈frs outer,H b=none
 hok:Hl P w H s.heap
 bare:AllBare s.gens
inductive CE (outer:List Env) (P:Program) (w:World) (H:Hp) (s:Shared) (Q:VK) (u:Value) (s':Shared):Prop
 | mk (v H':_):s'.os=s.os->AllBare s'.gens->Un (frs outer) [] H H' s.heap s'.heap->Hl P w H' s'.heap->RelV v u->Q v H'->CE outer P w H s Q u s'
def CR (CX:QH) (outer:List Env) (P:Program) (w:World) (H:Hp) (s:Shared) (Q:VK) (E:XK) (r:Result) (s':Shared):Prop :=
 match r with
 | .ok (.ret u)=>CE outer P w H s Q u s'
 | .ok _=>False
 | .error e=>CX outer H s E e s'
structure Ar (P:Program) (w:World) (K:W.Frag) (mg:Str->Option Value) (base:Heap) (CX:QH) (k:Nat) (f:Addr) (fd:FuncData) (ps:List Str) (sp:Sp):Prop where
 len:∀ vs H Q E,sp vs H Q E->vs.length=ps.length
 run:∀ (A:Around) (outer:List Env) (s:Shared) (H:Hp) (args:Args) (us:List Value) (vs:List V) (Q:VK) (E:XK),BK k A->NZ P w K mg base A outer s H->BindsTo s fd args (ps.zip us)->Vals vs us->sp vs H Q E ->
  codeAny (model P w) A (.call (.ref f) args) (CR CX outer P w H s Q E) s
theorem NZ.make {w:World} {K:W.Frag} {a:List Env} (e:NZ P w K mg base A a s H) (C:Addr) (us:List Value) (b:List (Str × Value)) :
  NZ P w K mg base (A.under (.builtin "type.__call__" ⟨.ref C::us,b⟩)) a s H:=⟨by first | exact e.frames | (simpa [Around.under,Code.envs,Code.isFrame,pushEnvs] using e.frames),e.mod,e.bs,e.bsz,e.JQ,e.frf,e.hok,e.bare⟩
section
variable {s':Shared}
theorem Inv.env0 (I:Inv X a0 σ H s):NZ X.prog X.w X.K X.mg X.base X.A X.stack s H :=
 ⟨I.ok.frames,I.ok.mod,I.bs,bi I.ok.bsz I.sz,I.stack,I.Ld,I.hok,I.bare⟩
theorem Inv.after {Q:VK} (I:Inv X a0 σ H s) (h:CE X.stack X.prog X.w H s Q u s'):EP X a0 σ Q u s':=by
 obtain⟨v,f,os,a,un,c,r,q⟩:=h
 obtain⟨i,g,d,t,e⟩:=s'
 obtain rfl:e=s.os:=os
 exact⟨v,f,I.call (h':=i) (g':=g) (d':=d) (t':=t) (ch:=[]) un c a (λb z=>absurd z (by simp)),r,q⟩
end
def fH (sp:Sp) (kn:List V) (E:XK) (t:TA):TE:=λσ H Q=>t σ H λvs H1=>sp (vs++kn) H1 Q E
inductive Ti (C:Addr) (m:Str) (sp:Sp) (kn:List V) (E:XK) (t:TA) (σ:St) (Q:VK) (x:V) (H1:Hp):Prop
 | mk (a dx fs:_):x=.ref a->H1 a=some (.ins C dx fs)->fs.lookup m=none->(t σ H1 λvs H2=>sp (x::(vs++kn)) H2 Q E)->Ti C m sp kn E t σ Q x H1
def Y0 (C:Addr) (m:Str) (sp:Sp) (kn:List V) (E:XK) (ta:TE) (t:TA):TE:=λσ H Q=>ta σ H λx H1=>Ti C m sp kn E t σ Q x H1
def iU (C:Addr) (sp:Sp) (kn:List V) (E:XK) (t:TA):TE:=λσ H Q=>t σ H λvs H1=>∀ x dx,H1 x=none->H1 dx=none->dx ≠ x ->
 sp (.ref x::(vs++kn)) (upd (upd H1 dx (.own x)) x (.ins C dx [])) (λv H2=>v=.non/\Q (.ref x) H2) E
def Binds (K:W.Frag) (fd:FuncData) (ps:List Str) (ds:List Value):Prop :=
 ∀ (s:Shared) (us:List Value),K.In s.heap->(us++ds).length=ps.length->BindsTo s fd ⟨us,[]⟩ (ps.zip (us++ds))
theorem Binds.all {K:W.Frag} {ps:List Str} (h:∀ us:List Value,us.length=ps.length->bindArgs fd ⟨us,[]⟩=pure (ps.zip us)):Binds K fd ps []:=λs us _ a=>by
 rw[gz] at a |-
 exact .of_eq (h us a)
def Hf (CX:QH) (X:Cx) (E:XK):Prop:=∀ (a0:List (Addr × Obj)) (σ:St) (H:Hp) (s:Shared) (e:Value) (s':Shared),Inv X a0 σ H s->CX X.stack H s E e s'->X.xe e s'
section
variable {CX:QH} {k:Nat} {ps:List Str} {sp:Sp} {kn:List V} {ds:List Value} {E:XK} {m:Str} {p i9:Pos} {o:Expr} {t:TA}
theorem PQ {Q:VK} (F:Ar X.prog X.w X.K X.mg X.base CX k f fd ps sp) (c:BK k X.A) (i:Binds X.K fd ps ds) (l:Vals kn ds) (d:Hf CX X E)
  (I:Inv X a0 σ H s) (r:Vals vs us) (h:sp (vs++kn) H Q E):wpAny (model X.prog X.w) X.A (call (.ref f) us) (EP X a0 σ Q) X.xe s:=by
 have b:Vals (vs++kn) (us++ds):=r.append l
 have j:(us++ds).length=ps.length:=by rw[<-b.length];exact F.len _ _ _ _ h
 refine wpAny_call (codeAny_mono (F.run X.A X.stack s H ⟨us,[]⟩ (us++ds) (vs++kn) Q E c I.env0 (i s us I.Ig j) b h) λr g a=>?_)
 cases r with
 | error e=>exact d a0 σ H s e g I a
 | ok fl =>
  cases fl with
  | ret u=>exact I.after a
  | next=>exact False.elim a
  | brk=>exact False.elim a
  | cont=>exact False.elim a
theorem Ah (F:Ar X.prog X.w X.K X.mg X.base CX k f fd ps sp) (m:BK k X.A) (c:Gl X x) (l:X.mg x=some (.ref f)) (v:W.keepIn X.K (.ref f)=true) (g:Binds X.K fd ps ds) (j:Vals kn ds) (d:Hf CX X E)
  (u:PA X (e::es) t) (o:(x == ("__debug__" : Str))=false:=by decide) (n:starEach (e::es) X.env=(false,eval e X.env)::starEach es X.env:=by rfl) (a:(backTo pos (starEach es X.env)).any (·.1)=false:=by rfl) :
  PE X (.Call (.Name x p) (e::es) [] pos) (fH sp kn E t):=by
 intro i s σ H Q I h
 refine wpAny_Call_Name_kw (Ma I c l ?_ o)
 refine W.callWith_K (h₀:=X.base) I.ok.mod.kin v (Bt (u pos i s σ H _ I h) λy w ⟨z,A,b,r,q⟩=>⟨b.Ig,?_⟩) n a
 exact PQ F m g j d b r q
theorem Dq {pl:Sem Bool} (M:PE X o ta) (c:S6 X.K C) (n:Meth X.K C m f) (F:Ar X.prog X.w X.K X.mg X.base CX k f fd ps sp) (B:BK k X.A) (w:Binds X.K fd ps ds) (z:Vals kn ds) (J:Hf CX X E) (O:PA X (e::es) t)
  (b:starEach (e::es) X.env=(false,eval e X.env)::starEach es X.env:=by rfl) (d:(backTo pos (starEach es X.env)).any (·.1)=false:=by rfl)
  (K:eval (.Call (.Attribute o m i9) (e::es) [] pos) X.env=(do
   let ov <-eval o X.env
   standAt i9.atName
   let (f,first) <-holding [ov] (getMethod ov m pl)
   callWith pos f first (backTo pos (starEach (e::es) X.env)) (backToKw pos (keywordEach [] X.env))):=by rfl) :
  PE X (.Call (.Attribute o m i9) (e::es) [] pos) (Y0 C m sp kn E ta t):=by
 intro i s σ H Q I h
 refine W.methodCall_KW (pl:=pl) (Bt (M i s σ H _ I h) λu L ⟨x,D,v,N,a,P,fs,A,y,l,q⟩=>?_) K
 subst A
 obtain rfl:u=Value.ref a:=N
 refine KH v y c n l ?_
 refine W.callWith_K (first:=[.ref a]) (h₀:=X.base) I.ok.mod.kin n.kp (Bt (O pos i L σ D _ v q) λg R ⟨j,S,p,r,G⟩=>⟨p.Ig,?_⟩) b d
 exact PQ (us:=.ref a::g) (vs:=.ref a::j) F B w z J p (.cons rfl r) G
theorem Ce {pl:Sem Bool} (v:PE X o ta) (c:S6 X.K C) (d:Meth X.K C m f) (F:Ar X.prog X.w X.K X.mg X.base CX k f fd ps sp) (t:BK k X.A) (i:Binds X.K fd ps ds) (p:Vals kn ds) (e:Hf CX X E)
  (g:eval (.Call (.Attribute o m i9) [] [] pos) X.env=(do
   let ov <-eval o X.env
   standAt i9.atName
   let (f,first) <-holding [ov] (getMethod ov m pl)
   callWith pos f first (backTo pos (starEach [] X.env)) (backToKw pos (keywordEach [] X.env))):=by rfl) :
  PE X (.Call (.Attribute o m i9) [] [] pos) (Y0 C m sp kn E ta eX):=by
 intro n s σ H Q I h
 refine W.methodCall_KW (pl:=pl) (Bt (v n s σ H _ I h) λu y ⟨x,A,b,w,a,z,fs,r,j,l,q⟩=>?_) g
 subst r
 obtain rfl:u=Value.ref a:=w
 refine KH b j c d l ?_
 exact W.callWith_K0 (first:=[.ref a]) b.Ig d.kp (PQ (us:=[.ref a]) (vs:=[.ref a]) F t i p e b (.cons rfl .nil) q)
structure Mk (K:W.Frag) (C f:Addr):Prop where
 makes:W.makesIn K C=true
 init:W.findIn K (.ref C) "__init__" = some (some (.ref f))
 fn:W.isFn K (.ref f)=true
 kp:W.keepIn K (.ref C)=true
theorem Um {Q:VK} (M:Mk X.K C f) (F:Ar X.prog X.w X.K X.mg X.base CX k f fd ps sp) (p:BK (k+1) X.A) (j:Binds X.K fd ps ds) (m:Vals kn ds)
  (i:Hf CX X E) (I:Inv X a0 σ H s) (r:Vals vs us)
  (h:∀ x dx,H x=none->H dx=none->dx ≠ x->sp (.ref x::(vs++kn)) (upd (upd H dx (.own x)) x (.ins C dx [])) (λv H2=>v=.non/\Q (.ref x) H2) E) :
  wpAny (model X.prog X.w) X.A (call (.ref C) us) (EP X a0 σ Q) X.xe s:=by
 have c:=h (s.heap.objs.size+1) s.heap.objs.size (I.hok.fresh (gL _)) (I.hok.fresh (ai _)) (be (fN _))
 have b:=Inv.made (C:=C) I
 have d:Vals (V.ref (s.heap.objs.size+1)::(vs++kn)) (Value.ref (s.heap.objs.size+1)::(us++ds)):=.cons rfl (r.append m)
 have l:(Value.ref (s.heap.objs.size+1)::us++ds).length=ps.length:=by
  have e:=d.length
  rw[F.len _ _ _ _ c] at e
  exact e.symm
 refine wpAny_call (Vu (f:=f) I.Ig M.makes M.init (beq_iff_eq.mp M.fn) (codeAny_mono (F.run _ X.stack _ _ ⟨Value.ref (s.heap.objs.size+1)::us,[]⟩ (Value.ref (s.heap.objs.size+1)::(us++ds)) _ _ E (p.make C us [])
  (b.env0.make C us []) (j _ (Value.ref (s.heap.objs.size+1)::us) b.Ig l) d c) λr t a=>?_))
 cases r with
 | error e=>exact i a0 σ _ _ e t b a
 | ok fl =>
  cases fl with
  | ret u =>
   obtain⟨v,g,w,q,n,o⟩:=b.after a
   subst n
   exact⟨q,⟨V.ref (s.heap.objs.size+1),g,w,rfl,o⟩⟩
  | next=>exact False.elim a
  | brk=>exact False.elim a
  | cont=>exact False.elim a
theorem X6 (M:Mk X.K C f) (F:Ar X.prog X.w X.K X.mg X.base CX k f fd ps sp) (m:BK (k+1) X.A) (c:Gl X x) (l:X.mg x=some (.ref C)) (g:Binds X.K fd ps ds) (j:Vals kn ds) (d:Hf CX X E)
  (u:PA X (e::es) t) (o:(x == ("__debug__" : Str))=false:=by decide) (n:starEach (e::es) X.env=(false,eval e X.env)::starEach es X.env:=by rfl) (a:(backTo pos (starEach es X.env)).any (·.1)=false:=by rfl) :
  PE X (.Call (.Name x p) (e::es) [] pos) (iU C sp kn E t):=by
 intro i s σ H Q I h
 refine wpAny_Call_Name_kw (Ma I c l ?_ o)
 refine W.callWith_K (h₀:=X.base) I.ok.mod.kin M.kp (Bt (u pos i s σ H _ I h) λw v ⟨y,z,b,r,q⟩=>⟨b.Ig,?_⟩) n a
 exact Um M F m g j d b r q
end
section
variable {CX:QH} {k:Nat} {ps ks:List Str} {sp:Sp} {E:XK} {m:Str} {p i9 MB:Pos} {o:Expr} {Sj:List Keyword} {t tk:TA} {nm:Option Str}
variable {g:List Value->List Value->List Value} {gV:List V->List V->List V}
end
structure Av (N P:List Str) (sc:Scope):Prop where
 kind:sc.kind=.function
 co:sc.isCoroutine=false
 gen:sc.isGenerator=false
 nd:N.Nodup
 pre:N.take P.length=P
 par:∀ x∈P,sc.names.lookup x=some .local \/ sc.names.lookup x=some .cell
 nofree:∀ y∈sc.names,y.2 ≠ .free
theorem Bh {N P:List Str} {h:Scope} (a:h.kind=.function:=by rfl) (b:h.isCoroutine=false:=by rfl) (c:h.isGenerator=false:=by rfl) (d:N.Nodup:=by decide) (e:N.take P.length=P:=by rfl) (f:∀ x∈P,h.names.lookup x=some .local \/ h.names.lookup x=some .cell:=by decide) (g:∀ y∈h.names,y.2 ≠ .free:=by decide):Av N P h:=⟨a,b,c,d,e,f,g⟩
theorem K9 {kindOf:Str->Option NameKind}:∀ {binds:List (Str × Value)} {m:Str->Option Value},(∀ v,(x,v) ∉ binds)->bindL kindOf binds m x=m x
 | [],_,_=>rfl
 | (n,v)::r,m,h=>by
  unfold bindL
  rw[K9 λw a=>h w (ba _ a)]
  split
  ·have:x ≠ n:=by rintro rfl;exact h v bt
   simp[this]
  ·rfl
theorem K4 {kindOf:Str->Option NameKind}:∀ {binds:List (Str × Value)} {m:Str->Option Value},(∀ v,(x,v) ∉ binds)->bindC kindOf binds m x=m x
 | [],_,_=>rfl
 | (n,v)::r,m,h=>by
  unfold bindC
  rw[K4 λw a=>h w (ba _ a)]
  split
  ·rfl
  ·have:x ≠ n:=by rintro rfl;exact h v bt
   simp[this]
theorem K5 {kindOf:Str->Option NameKind} {v:Value}:∀ {P:List Str} {vs:List Value} {i:Nat} {m:Str->Option Value},P.Nodup->P[i]? = some x->vs[i]? = some v->kindOf x=some .local ->
  bindL kindOf (P.zip vs) m x=some v
 | [],_,_,_,_,h,_,_=>by simp at h
 | _::_,[],_,_,_,_,h,_=>by simp at h
 | p::P,w::vs,0,m,nd,b,a,c=>by
  simp at b a;subst b;subst a
  show bindL kindOf ((p,w)::P.zip vs) m p=_
  unfold bindL
  rw[K9 λv d=>(fk.mp nd).1 (List.of_mem_zip d).1,if_pos c]
  simp
 | p::P,w::vs,i+1,m,nd,b,a,c=>by
  show bindL kindOf ((p,w)::P.zip vs) m x=_
  unfold bindL
  exact K5 (i:=i) (List.nodup_cons.mp nd).2 (by simpa using b) (by simpa using a) c
theorem K6 {kindOf:Str->Option NameKind} {v:Value}:∀ {P:List Str} {vs:List Value} {i:Nat} {m:Str->Option Value},P.Nodup->P[i]? = some x->vs[i]? = some v->kindOf x ≠ some .local ->
  bindC kindOf (P.zip vs) m x=some v
 | [],_,_,_,_,h,_,_=>by simp at h
 | _::_,[],_,_,_,_,h,_=>by simp at h
 | p::P,w::vs,0,m,nd,b,a,c=>by
  simp at b a;subst b;subst a
  show bindC kindOf ((p,w)::P.zip vs) m p=_
  unfold bindC
  rw[K4 λv d=>(fk.mp nd).1 (List.of_mem_zip d).1,if_neg c]
  simp
 | p::P,w::vs,i+1,m,nd,b,a,c=>by
  show bindC kindOf ((p,w)::P.zip vs) m x=_
  unfold bindC
  exact K6 (i:=i) (List.nodup_cons.mp nd).2 (by simpa using b) (by simpa using a) c
def start (N:List Str) (vs:List V):St:=vs.map some++List.replicate (N.length - vs.length) none
def LQ (CX:QH) (P:Program) (w:World) (K:W.Frag) (mg:Str->Option Value) (base:Heap) (N:List Str) (qual:Str) (scope:Scope) (f:Addr) (cd:Value) (A:Around) (outer:List Env) (s:Shared) (H:Hp) (E:XK):Cx where
 prog:=P
 w:=w
 K:=K
 mg:=mg
 base:=base
 A:=A.deeper (envOfC qual scope s.heap.objs.size f cd)
 N:=N
 s₀:=s
 H₀:=H
 env:=envOfC qual scope s.heap.objs.size f cd
 outer:=outer
 stack:=envOfC qual scope s.heap.objs.size f cd::outer
 ex:=[]
 calm:=true
 fn:=λ_=>true
 pn:=[]
 xe:=λe s'=>wpAny (model P w) (A.deeper (envOfC qual scope s.heap.objs.size f cd)) (leaving (envOfC qual scope s.heap.objs.size f cd) e) (λ_ vc=>CX outer H s E e vc) (λe' vc=>CX outer H s E e' vc) s'
theorem My {a:Scope} (h:a.names.lookup x=some .cell):∃ c,(cellsFrom n a.names []).lookup x=some c:=by
 have q:=W.cellsFrom_some a.names n [] (.inl h)
 exact eJ.mp q
theorem RJ {CX:QH} {w:World} {K:W.Frag} {N ps:List Str} {B:Value} {d:List Env} {G:Shared} {E:XK}
  (S:Av N ps scope) (J:A.handled=none) (j:NZ P w K mg base A d s H) (Q:vs.length=ps.length) (r:Vals vs us)
  (x:InCallC s s.heap.objs.size (bindL (envOfC qual scope s.heap.objs.size f B).kindOf (ps.zip us) λ_=>none) (cellsFrom (s.heap.objs.size+1) scope.names []) (bindC (envOfC qual scope s.heap.objs.size f B).kindOf (ps.zip us) λ_=>none) G) :
  Inv (LQ CX P w K mg base N qual scope f B A d s H E) [] (start N vs) H G:=by
 have M:ps.length<=N.length:=by have:=congrArg List.length S.pre;rw[df] at this;omega
 obtain⟨C,tk,rfl,F⟩:=x.done
 have m:∀ b:Addr,b ∉ (LQ CX P w K mg base N qual scope f B A d s H E).ex:=λb z=>absurd (show b∈([]:List Addr) from z) (by simp)
 refine⟨⟨j.mod,S.kind,rfl,rfl,ai _,λy z c C g=>?_,λy l=>?_,λy c _ h=>?_,λ_=>J,Around.frames_deeper j.frames,.inr ⟨rfl,rfl⟩,λb z=>absurd z (m b),j.bs,j.bsz,λb _ _=>m b,λb z=>absurd z (m b),j.JQ,j.frf⟩,
  rfl,j.bare,Un.kept F,⟨_,x.toInCall.ns,λi y v C g R=>?_⟩,λy c h=>⟨_,x.cell y c h⟩,j.hok.fresh (Nat.le_refl _),λy c h=>?_,λp o=>absurd (show p∈([]:List (Addr × Obj)) from o) (by simp),j.hok.kept F,?_⟩
 ·exact name_of_addr x.apart (PySem.mem_of_lookup C) (PySem.mem_of_lookup g)
 ·have l:scope.names.lookup y=some .cell \/ scope.names.lookup y=some .free:=l
  rcases l with l | l
  ·exact My l
  ·exact absurd rfl (S.nofree _ (PySem.mem_of_lookup l))
 ·exact eI (x.above y c (PySem.mem_of_lookup h))
 ·have D:i<vs.length:=by
   unfold start at g
   by_cases D:i<vs.length
   ·exact D
   ·rw[List.getElem?_append_right (by simpa using D)] at g
    rw[List.getElem?_replicate] at g
    split at g <;> cases g
  have O:vs[i]? = some v:=by
   unfold start at g
   rw[List.getElem?_append_left (by simpa using D),List.getElem?_map] at g
   cases e:vs[i]? with
   | none=>rw[e] at g;cases g
   | some a=>rw[e] at g;cases g;rfl
  obtain⟨u,I,L⟩:=r.get O
  have o:ps[i]? = some y:=by
   rw[<-S.pre,List.getElem?_take_of_lt (by omega)];exact C
  have t:ps.Nodup:=by rw[<-S.pre];exact S.nd.sublist (List.take_sublist _ _)
  refine⟨u,L,?_⟩
  rcases S.par y (av o) with k | k
  ·exact .inl ⟨k,K5 t o I k⟩
  ·obtain⟨c,e⟩:=My (n:=s.heap.objs.size+1) k
   refine .inr ⟨.inl k,c,e,?_⟩
   have q:=x.cell y c e
   rw[K6 t o I (by show scope.names.lookup y ≠ _;rw[k];decide)] at q
   exact q
 ·exact j.hok.fresh (eI (x.above y c (PySem.mem_of_lookup h)))
 ·unfold start
  show _=N.length
  rw[ah,af,gX]
  omega
theorem Ys {CX:QH} {w:World} {K:W.Frag} {k:Nat} {name:Str} {c:Arguments} {d:List Stmt} {M kV C pm g ct U:Value} {L od:Option Addr}
  {R:Array (Option Value)} {N ps:List Str} {sp:Sp} (lk:K.lookup f=some ⟨U,od,.func (W.fnOf name qual c d scope M kV C pm L g ct),R⟩) (na:W.codeIn K g qual=true) (S:Av N ps scope)
  (len:∀ vs H Q E,sp vs H Q E->vs.length=ps.length)
  (kD:∀ (A:Around) (a:List Env) (s:Shared) (H:Hp) (vs:List V) (Q:VK) (E:XK),BK k (A.deeper (envOfC qual scope s.heap.objs.size f g))->sp vs H Q E ->
   ∃ t,Nv (LQ CX P w K mg base N qual scope f g A a s H E) d t/\t { nx:=λ_ H'=>Q .non H',rt:=Q } (start N vs) H) :
  Ar P w K mg base CX (k+1) f (W.fnOf name qual c d scope M kV C pm L g ct) ps sp:=by
 refine⟨len,λA a s H D Y vs Q E p j X r G=>?_⟩
 have hl:=len _ _ _ _ G
 have F:K.In s.heap:=j.mod.kin.keeps λb o e=>(j.bs b o e).1
 have m:s.heap.NoLimit:=j.mod.nolimit.keeps λb o e=>(j.bs b o e).1
 have h:∀ y∈ps.zip Y,scope.names.lookup y.1=some .local \/ (scope.names.lookup y.1=some .cell/\((cellsFrom (s.heap.objs.size+1) scope.names []).lookup y.1).isSome=true):=λ⟨n,v⟩ Z=>by
  rcases S.par n (List.of_mem_zip Z).1 with q | q
  ·exact .inl q
  ·exact .inr ⟨q,W.cellsFrom_some _ _ _ (.inl q)⟩
 refine codeAny_call_function p.depth (F _ _ lk) rfl S.co S.gen rfl (W.codeRec_of F na) (X _ _ _ _ ?_)
 refine wpAny_newFunctionEnv_cells S.kind h λT he O x=>?_
 subst he
 refine⟨m.keeps x.toInCall.keep,codeAny_func ?_⟩
 obtain⟨t,ht,hq⟩:=kD A a s H vs Q E (p.deeper _) G
 have I:Inv (LQ CX P w K mg base N qual scope f g A a s H E) [] (start N vs) H O:=RJ S p.hd j hl r x
 refine wpAny_mono (ht [] O (start N vs) H _ I hq) (λfl B i=>?_) λe B i=>i
 have fin:∀ {l:St} {H':Hp} {v:V} {u:Value},Inv (LQ CX P w K mg base N qual scope f g A a s H E) [] l H' B->RelV v u->Q v H'->CE a P w H s Q u B :=
  λ{l H' v u} J z q=>⟨v,H',J.os,J.bare,J.base,J.hok,z,q⟩
 cases fl with
 | ret u =>
  obtain⟨v,l,H',J,z,q⟩:=i
  exact fin J z q
 | next =>
  obtain⟨l,H',J,q⟩:=i
  exact fin (v:=V.non) (u:=Value.none) J rfl q
 | brk =>
  obtain⟨_,_,_,q⟩:=i
  exact False.elim q
 | cont =>
  obtain⟨_,_,_,q⟩:=i
  exact False.elim q
section
variable {p:Pos} {t:TA} {id T:String} {r:List V->Hp->VK->Prop}
def qD (r:List V->Hp->VK->Prop) (t:TA):TE:=λσ H Q=>t σ H λvs H1=>r vs H1 Q
theorem BJ (i:Ep X (.builtin id) r) (c:Gl X x) (k:X.mg x=none) (w:bootBuiltins x=some (.builtin id)) (o:PA X (e::es) t) (q:x ≠ "__name__":=by decide) (m:(x == ("__debug__" : Str))=false:=by decide)
  (l:starEach (e::es) X.env=(false,eval e X.env)::starEach es X.env:=by rfl) (a:(backTo pos (starEach es X.env)).any (·.1)=false:=by rfl):PE X (.Call (.Name x p) (e::es) [] pos) (qD r t):=by
 intro b s σ H Q I h
 refine wpAny_Call_Name_kw (G7 I c k w ?_ q m)
 exact PyProof.Rows.callWith_builtin1 (Bt (o pos b s σ H _ I h) λg f ⟨j,n,d,u,v⟩=>i b f σ n j g Q d u v) l a
theorem DR (i:Ep X (.type T) r) (c:Gl X x) (k:X.mg x=none) (w:bootBuiltins x=some (.type T)) (o:PA X (e::es) t) (q:x ≠ "__name__":=by decide) (m:(x == ("__debug__" : Str))=false:=by decide)
  (l:starEach (e::es) X.env=(false,eval e X.env)::starEach es X.env:=by rfl) (a:(backTo pos (starEach es X.env)).any (·.1)=false:=by rfl):PE X (.Call (.Name x p) (e::es) [] pos) (qD r t):=by
 intro b s σ H Q I h
 refine wpAny_Call_Name_kw (G7 I c k w ?_ q m)
 exact PyProof.Rows.callWith_type1 (Bt (o pos b s σ H _ I h) λg f ⟨j,n,d,u,v⟩=>i b f σ n j g Q d u v) l a
end
section
variable {κ:Type} [DecidableEq κ]
def Ci (kvs:List (κ × V)) (k:κ):Option V:=(kvs.find? λkv=>decide (kv.1=k)).map (·.2)
def putK (kvs:List (κ × V)) (k:κ) (v:V):List (κ × V) :=
 if (kvs.any λkv=>decide (kv.1=k))=true then kvs.map (λkv=>if kv.1=k then (kv.1,v) else kv) else kvs++[(k,v)]
def qI (kvs:List (κ × V)) (k:κ):List (κ × V):=kvs.filter λkv=>decide (kv.1 ≠ k)
theorem V1 {k:κ}:Ci ([]:List (κ × V)) k=none:=rfl
theorem DQ {p:κ × V} {r:List (κ × V)} {k:κ} (e:p.1=k):Ci (p::r) k=some p.2:=by simp[Ci,List.find?_cons,e]
theorem DK {p:κ × V} {r:List (κ × V)} {k:κ} (e:¬ p.1=k):Ci (p::r) k=Ci r k:=by simp[Ci,List.find?_cons,e]
theorem Fx (k:κ):∀ kvs:List (κ × V),(kvs.any λkv=>decide (kv.1=k))=(Ci kvs k).isSome
 | []=>rfl
 | p::r=>by
  rw[ia]
  by_cases e:p.1=k
  ·simp only[DQ e,decide_eq_true e,Bool.true_or,Option.isSome_some]
  ·rw[DK e,decide_eq_false e,Bool.false_or];exact Fx k r
theorem Nb (k j:κ) (y:V):∀ kvs:List (κ × V),Ci (kvs.map λkv=>if kv.1=k then (kv.1,y) else kv) j=(Ci kvs j).map λx=>if j=k then y else x
 | []=>rfl
 | p::r=>by
  have a:=Nb k j y r
  rw[cy]
  by_cases h:p.1=k
  ·rw[if_pos h]
   by_cases e:p.1=j
   ·rw[DQ (p:=(p.1,y)) e,DQ e,ib,if_pos (e.symm.trans h)]
   ·rw[DK (p:=(p.1,y)) e,DK e,a]
  ·rw[if_neg h]
   by_cases e:p.1=j
   ·rw[DQ (p:=p) e,DQ e,ib,if_neg (λz=>h (e.trans z))]
   ·rw[DK (p:=p) e,DK e,a]
theorem HH (k j:κ) (y:V):∀ kvs:List (κ × V),Ci kvs k=none->Ci (kvs++[(k,y)]) j=if j=k then some y else Ci kvs j
 | [],_=>by
  by_cases e:k=j
  ·rw[if_pos e.symm];exact DQ (p:=(k,y)) e
  ·rw[if_neg (λz=>e z.symm)];exact DK (p:=(k,y)) e
 | p::r,a=>by
  rw[List.cons_append]
  have b:¬ p.1=k:=λz=>by rw[DQ z] at a;cases a
  rw[DK b] at a
  have c:=HH k j y r a
  by_cases e:p.1=j
  ·rw[DQ e,DQ e,if_neg (λz=>b (e.trans z))]
  ·rw[DK e,DK e,c]
theorem KC (kvs:List (κ × V)) (k j:κ) (y:V):Ci (putK kvs k y) j=if j=k then some y else Ci kvs j:=by
 unfold putK
 by_cases a:(kvs.any λc=>decide (c.1=k))=true
 ·rw[if_pos a,Nb]
  rw[Fx] at a
  by_cases e:j=k
  ·obtain⟨x,b⟩:=eJ.mp a
   rw[if_pos e,e,b,ib,if_pos rfl]
  ·rw[if_neg e]
   cases Ci kvs j with
   | none=>rfl
   | some x=>rw[ib,if_neg e]
 ·rw[if_neg a]
  refine HH k j y kvs ?_
  rw[Fx] at a
  cases q:Ci kvs k with
  | none=>rfl
  | some x=>rw[q] at a;exact (a rfl).elim
theorem G_ (kvs:List (κ × V)) (k:κ) (v:V):(putK kvs k v).length<=kvs.length+1:=by
 unfold putK
 split
 ·rw[af];omega
 ·rw[ah,cK,List.length_nil];omega
theorem Uq {kvs:List (κ × V)} {k:κ} (v:V) (h:Ci kvs k=none):putK kvs k v=kvs++[(k,v)]:=by
 unfold putK
 rw[Fx,h]
 exact if_neg (by decide)
theorem Gs.JC {o:Option V} {u:Option Value} (r:Gs o u):o.isSome=u.isSome:=by
 cases o with
 | none=>cases u with
  | none=>rfl
  | some _=>exact (show False from r).elim
 | some _=>cases u with
  | none=>exact (show False from r).elim
  | some _=>rfl
theorem KV.val {kvs:List (κ × V)} {vs:List (κ × Value)} (r:KV kvs vs) (k:κ):Gs (Ci kvs k) (valueAt vs k):=by
 unfold KV at r
 induction r with
 | nil=>exact True.intro
 | @cons p q ps c h t g =>
  obtain⟨d,f⟩:=h
  by_cases e:p.1=k
  ·have a:q.1=k:=d.symm.trans e
   have b:valueAt (q::c) k=some q.2:=by simp[valueAt,List.find?_cons,a]
   rw[DQ e,b];exact f
  ·have a:¬ q.1=k:=λz=>e (d.trans z)
   have b:valueAt (q::c) k=valueAt c k:=by simp[valueAt,List.find?_cons,a]
   rw[DK e,b];exact g
theorem KV.any {kvs:List (κ × V)} {vs:List (κ × Value)} (r:KV kvs vs) (k:κ):(kvs.any λkv=>decide (kv.1=k))=vs.any λkv=>decide (kv.1=k):=by
 unfold KV at r
 induction r with
 | nil=>rfl
 | cons h t a=>rw[ia,ia,a,h.1]
theorem KV.repl {kvs:List (κ × V)} {vs:List (κ × Value)} (r:KV kvs vs) (k:κ) (d:RelV y u) :
  KV (kvs.map λkv=>if kv.1=k then (kv.1,y) else kv) (vs.map λkv=>if kv.1=k then (kv.1,u) else kv):=by
 unfold KV at r |-
 induction r with
 | nil=>exact .nil
 | @cons p q ps f h t c =>
  rw[cy,cy]
  refine .cons ?_ c
  obtain⟨a,b⟩:=h
  by_cases e:p.1=k
  ·rw[if_pos e,if_pos (a.symm.trans e)];exact⟨a,d⟩
  ·rw[if_neg e,if_neg (λz=>e (a.trans z))];exact⟨a,b⟩
theorem KV.put {kvs:List (κ × V)} {vs:List (κ × Value)} (r:KV kvs vs) (k:κ) (a:RelV y u):KV (putK kvs k y) (stored vs k u):=by
 unfold putK stored
 rw[r.any k]
 by_cases e:(vs.any λb=>decide (b.1=k))=true
 ·rw[if_pos e,if_pos e];exact r.repl k a
 ·rw[if_neg e,if_neg e];exact Paired.snoc r ⟨rfl,a⟩
theorem KV.length {kvs:List (κ × V)} {vs:List (κ × Value)} (r:KV kvs vs):kvs.length=vs.length:=Paired.length r
end
theorem Qq {w:World} {k:Key} (r:RelV (kV k) u):(CZ P w).is k u=true:=by
 cases k with
 | inl i=>obtain⟨t,e⟩:=(show ∃ t,u=Value.int i t from r);subst e;exact Mg P w i t
 | inr x=>obtain⟨t,e⟩:=(show ∃ t,u=Value.str x t from r);subst e;exact Nh P w x t
theorem Ku {w:World}:∀ {ks:List Key} {us:List Value},Vals (ks.map kV) us->ItemsAre (CZ P w) ks us
 | [],_,r=>by rw[List.map_nil] at r;cases r;exact .nil
 | k::ks,_,r=>by
  rw[cy] at r
  cases r with
  | cons h t=>exact .cons (Qq h) (Ku t)
abbrev KT (H:Hp):List (List Key × V)->List (List Key × Addr × Value)->Prop:=Paired λp q=>p.1=q.1/\H q.2.1=some (.tup (p.1.map kV))/\RelV p.2 q.2.2
theorem KT.val {kvs:List (List Key × V)} {xs:List (List Key × Addr × Value)} (r:KT H kvs xs) (k:List Key):Gs (Ci kvs k) ((atKey xs k).map (·.2)):=by
 induction r with
 | nil=>exact True.intro
 | @cons p q ps c h t g =>
  obtain⟨d,_,f⟩:=h
  by_cases e:p.1=k
  ·have a:q.1=k:=d.symm.trans e
   have b:atKey (q::c) k=some q.2:=by simp[atKey,List.find?_cons,a]
   rw[DQ e,b];exact f
  ·have a:¬ q.1=k:=λz=>e (d.trans z)
   have b:atKey (q::c) k=atKey c k:=by simp[atKey,List.find?_cons,a]
   rw[DK e,b];exact g
theorem KT.repl {kvs:List (List Key × V)} {xs:List (List Key × Addr × Value)} (r:KT H kvs xs) (k:List Key) (d:RelV y u) :
  KT H (kvs.map λkv=>if kv.1=k then (kv.1,y) else kv) (xs.map (putAt k u)):=by
 induction r with
 | nil=>exact .nil
 | @cons p q ps g h t c =>
  rw[cy,cy]
  refine .cons ?_ c
  obtain⟨a,b,f⟩:=h
  unfold putAt
  by_cases e:p.1=k
  ·rw[if_pos e,if_pos (a.symm.trans e)];exact⟨a,b,d⟩
  ·rw[if_neg e,if_neg (λz=>e (a.trans z))];exact⟨a,b,f⟩
theorem KT.put {kvs:List (List Key × V)} {xs:List (List Key × Addr × Value)} (r:KT H kvs xs) (k:List Key) {b:Addr} (c:H b=some (.tup (k.map kV))) (a:RelV y u) :
  KT H (putK kvs k y) (storedH xs k b u):=by
 have e:(kvs.any λd=>decide (d.1=k))=(atKey xs k).isSome:=by
  rw[Fx,(r.val k).JC,Option.isSome_map]
 unfold putK storedH
 rw[e]
 by_cases q:(atKey xs k).isSome=true
 ·rw[if_pos q,if_pos q];exact r.repl k a
 ·rw[if_neg q,if_neg q];exact Paired.snoc r ⟨rfl,c,a⟩
theorem KT.keeps {kvs:List (List Key × V)} {xs:List (List Key × Addr × Value)} (r:KT H kvs xs) (a:∀ b ys,H b=some (.tup ys)->H' b=some (.tup ys)):KT H' kvs xs :=
 Paired.Fg r λ_ _ z=>⟨z.1,a _ _ z.2.1,z.2.2⟩
section
variable {w:World}
theorem Yc {u:HO} (ok:Hl P w H h) (e:Rd H a u):Bx P w H h a u:=e.ok ok
theorem Qo (ok:Hl P w H h) (e:Rd H a (.dK kvs)):kvs.length<=sizeLine/\(a == sysModules)=false/\∃ vs,KV kvs vs/\h.DictOf (CZ P w) a vs :=
 show Bx P w H h a (.dK kvs) from Yc ok e
theorem dj (ok:Hl P w H h) (e:H a=some (.dK kvs)):kvs.length<=sizeLine/\(a == sysModules)=false/\∃ vs,KV kvs vs/\h.DictOf (CZ P w) a vs:=Qo ok (.inl e)
theorem Li {ks:List Key} (ok:Hl P w H h) (e:H a=some (.tup (ks.map kV))):(tupleKind (CZ P w)).is h ks a:=by
 obtain⟨_,b,r,o,d,c,n,f⟩:=(show Bx P w H h a (.tup (ks.map kV)) from ok a _ e)
 exact⟨o,b.toArray,n,d,c,f,by simpa using Ku r⟩
theorem QR {kvs:List (List Key × V)} (ok:Hl P w H h) (e:Rd H a (.dT kvs)):kvs.length<=sizeLine/\(a == sysModules)=false /\
  ∃ xs,KT H kvs xs/\h.DictOfH (tupleKind (CZ P w)) a xs:=by
 obtain⟨z,y,xs,r,o,g,j,n,d,i,s,k⟩:=(show Bx P w H h a (.dT kvs) from Yc ok e)
 refine⟨z,y,xs,r,o,g,j,n,d,i,s,λx b=>?_,k⟩
 have all:∀ {l:List (List Key × V)} {m:List (List Key × Addr × Value)},KT H l m->∀ x∈m,(tupleKind (CZ P w)).is h x.1 x.2.1:=by
  intro l m q
  induction q with
  | nil=>intro x b;exact nomatch b
  | @cons p q ps u c t f =>
   intro x b
   rcases cm.mp b with e | b
   ·subst e
    exact Li ok (by rw[<-c.1];exact c.2.1)
   ·exact f x b
 exact all r x b
theorem iy {kvs:List (List Key × V)} (ok:Hl P w H h) (e:H a=some (.dT kvs)):kvs.length<=sizeLine/\(a == sysModules)=false /\
  ∃ xs,KT H kvs xs/\h.DictOfH (tupleKind (CZ P w)) a xs:=QR ok (.inl e)
end
def Gp (H:Hp) (a:Addr) (y:V) (r:Option V):Prop :=
 (∃ kvs k,Rd H a (.dK kvs)/\y=kV k/\r=Ci kvs k) \/ ∃ kvs k b,Rd H a (.dT kvs)/\y=.ref b/\H b=some (.tup (k.map kV))/\r=Ci kvs k
def N6 (H:Hp) (a:Addr) (y v:V) (H':Hp):Prop :=
 (∃ kvs k,H a=some (.dK kvs)/\y=kV k/\kvs.length<sizeLine/\H'=upd H a (.dK (putK kvs k v))) \/
 ∃ kvs k b,H a=some (.dT kvs)/\y=.ref b/\H b=some (.tup (k.map kV))/\kvs.length<sizeLine/\H'=upd H a (.dT (putK kvs k v))
theorem Gp.k {k:Key} (e:H a=some (.dK kvs)):Gp H a (kV k) (Ci kvs k):=.inl ⟨kvs,k,.inl e,rfl,rfl⟩
theorem N6.k {k:Key} {v:V} (e:H a=some (.dK kvs)) (b:kvs.length<sizeLine):N6 H a (kV k) v (upd H a (.dK (putK kvs k v))):=.inl ⟨kvs,k,e,rfl,b,rfl⟩
section
variable {v:V} {r:Value} {o:Option V} {E:vSP}
theorem Inv.big (I:Inv X a0 σ H s):sysModules<s.heap.objs.size:=by
 have h:mainGlobals<s.heap.objs.size:=(I.mod.glob.keeps I.bk).lt
 exact ip (by decide) h
theorem RK (r:A.units+1<cLine) (I:Inv X a0 σ H s) (g:Gp H a y (some v)) (q:RelV y u) (h:∀ w' s',Inv X a0 σ H s'->RelV v w'->Q w' s') :
  wpAny (model X.prog X.w) A (getItem (.ref a) u) Q E s:=by
 rcases g with⟨m,k,e,f,l⟩ | ⟨m,k,b,e,f,t,l⟩
 ·subst f
  obtain⟨z,w,x,j,c⟩:=Qo I.hok e
  obtain⟨w',d,n⟩:=Gs.some_of (v:=v) (o:=valueAt x k) (by rw[l];exact j.val k)
  exact wpAny_getItem_of (Qq q) c.mapOf d (h w' _ (I.tok _) n)
 ·subst f
  cases (show u=Value.ref b from q)
  obtain⟨z,w,B,j,c⟩:=QR I.hok e
  obtain⟨w',d,n⟩:=Gs.some_of (v:=v) (o:=(atKey B k).map (·.2)) (by rw[l];exact j.val k)
  obtain⟨p,C,i⟩:=cr.mp d
  refine wpAny_getItem_heap (tupleKind_room_in1 r) (Li I.hok t) c C ?_
  rw[i]
  exact h w' _ (I.tok _) n
theorem X7 (n:A.units+1<cLine) (I:Inv X a0 σ H s) (g:Gp H a y o) (m:RelV y u) (h:∀ s',Inv X a0 σ H s'->Q (.bool (!o.isSome)) s') :
  wpAny (model X.prog X.w) A (compareOp .NotIn u (.ref a)) Q E s:=by
 rcases g with⟨j,k,e,d,l⟩ | ⟨j,k,b,e,d,p,l⟩
 ·subst d
  obtain⟨z,f,r,i,c⟩:=Qo I.hok e
  refine wpAny_notIn_of (Qq m) f c.mapOf ?_
  rw[<-(i.val k).JC,<-l]
  exact h _ (I.tok _)
 ·subst d
  cases (show u=Value.ref b from m)
  obtain⟨z,f,t,i,c⟩:=QR I.hok e
  refine wpAny_notIn_heap (tupleKind_room_in1 n) (Li I.hok p) f c ?_
  have q:=(i.val k).JC
  rw[Option.isSome_map] at q
  rw[<-q,<-l]
  exact h _ (I.tok _)
theorem Qu {t':Nat} {c:HO} (I:Inv X a0 σ H s) (h:iR (H a)) (g:Heap.SameBut a s.heap h') (f:∃ q,h'.get? a=some q) (d:Bx X.prog X.w (upd H a c) h' a c) :
  Inv X a0 σ (upd H a c) { s with heap:=h',toks:=t' } :=
 I.write (x:=a) (e:=a) h (.inl rfl) (λb q i z=>(g.2 b i).trans z) f d
theorem bw {w:World} {vs:List (Key × Value)} (z:kvs.length<=sizeLine) (d:(a == sysModules)=false) (b:KV kvs vs) (c:h'.DictOf (CZ P w) a vs) :
  Bx P w H' h' a (.dK kvs):=⟨z,d,vs,b,c⟩
theorem Su {Q:Unit->Shared->Prop} (J:A.units+1<cLine) (I:Inv X a0 σ H s) (g:N6 H a y v H') (C:RelV y u) (B:RelV v r) (h:∀ s',Inv X a0 σ H' s'->Q () s') :
  wpAny (model X.prog X.w) A (setItem (.ref a) u r) Q E s:=by
 rcases g with⟨d,k,e,w,l,p⟩ | ⟨d,k,b,e,w,F,l,p⟩
 ·subst w p
  obtain⟨z,m,L,f,o⟩:=dj I.hok e
  have n:L.length<=sizeLine:=by rw[<-f.length];exact z
  have t:(putK d k v).length<=sizeLine:=by have:=G_ d k v;omega
  refine wpAny_setItem_pairs (hsz:=n) (Qq C) o λD i x=>h _ ?_
  have S:∃ q,D.get? a=some q:=let ⟨q,_,_,j,_⟩:=i;⟨q,j⟩
  exact Qu I (by rw[e];exact True.intro) x S (bw t m (f.put k B) i)
 ·subst w p
  cases (show u=Value.ref b from C)
  obtain⟨z,m,M,f,o⟩:=iy I.hok e
  have n:M.length<=sizeLine:=by rw[<-Paired.length f];exact z
  have t:(putK d k v).length<=sizeLine:=by have:=G_ d k v;omega
  refine wpAny_setItem_heap (hsz:=n) (tupleKind_room_in1 J) (Li I.hok F) o λD i x=>h _ ?_
  obtain⟨q,P,R,j,O,K,T,_,N⟩:=i
  refine Qu I (by rw[e];exact True.intro) x ⟨q,j⟩ ⟨t,m,_,(f.put k F B).keeps λc U G=>?_,q,P,R,j,O,K,T,N⟩
  rw[Aw (QQ G e (λz=>nomatch z))]
  exact G
end
section
variable {k:Key} {E:vSP}
end
def bF (i:Expr):Prop:=∀ ov iv,subscripted i false ov iv=operate [ov,iv] (getItem ov iv)
theorem Qn {w:World} {E:vSP} {b:Env} {a c:Expr} {T id:String}
  (g:typeLookup (.type T) "__getitem__" = pure (some (.builtin id))) (j:bF c)
  (h:wpAny (model prog w) A (eval a b) (λo s₁=>wpAny (model prog w) A (eval c b) (λi s₂=>s₂.TypeIs o T/\wpAny (model prog w) A (getItem o i) Q E s₂) E s₁) E s) :
  wpAny (model prog w) A (eval (.Subscript a c pos) b) Q E s:=by
 refine Subscript_ (wpAny_mono h (λo s₁ k=>wpAny_mono k (λi s₂ d=>?_) λ_ _ x=>x) λ_ _ x=>x)
 obtain⟨e,d⟩:=d
 unfold subscriptTail
 refine wpAny_bind ?_
 rw[getitemInPython_of_ne e.not_modules]
 refine wpAny_bind (wpAny_specialOf e g ?_)
 have fin:wpAny (model prog w) A (subscripted c false o i) (λr f=>wpAny (model prog w) A (letTemporaryGo a o r >>= λ_=>pure r) Q E f) E s₂:=by
  rw[j o i]
  exact wpAny_operating (wpAny_mono d (λr f l=>wpAny_bind (wpAny_letTemporaryGo (wpAny_pure l))) λ_ _ x=>x)
 first
  | exact wpAny_pure (wpAny_bind fin)
  | exact wpAny_bind (wpAny_pure (wpAny_bind fin))
  | exact wpAny_bind fin
theorem Nq {o:Option V} (I:Inv X a0 σ H s) (g:Gp H a y o):s.TypeIs (.ref a) "dict":=by
 rcases g with⟨d,k,e,_,_⟩ | ⟨d,k,b,e,_,_,_⟩
 ·obtain⟨_,_,f,_,c⟩:=Qo I.hok e
  exact c.typeIs
 ·obtain⟨_,_,h,_,c⟩:=QR I.hok e
  exact c.typeIs
inductive Vk (Q:VK) (x:V) (y:V) (H2:Hp):Prop
 | mk (a v:_):x=.ref a->Gp H2 a y (some v)->Q v H2->Vk Q x y H2
def iI (td ty:TE):TE:=λσ H Q=>td σ H λx H1=>ty σ H1 λy H2=>Vk Q x y H2
inductive Ng (Q:VK) (y:V) (x:V) (H2:Hp):Prop
 | mk (a o:_):x=.ref a->Gp H2 a y o->Q (.bl (!o.isSome)) H2->Ng Q y x H2
def Xq (ty td:TE):TE:=λσ H Q=>ty σ H λy H1=>td σ H1 λx H2=>Ng Q y x H2
inductive Uh (D:Ends) (σ:St) (v:V) (x:V) (y:V) (H3:Hp):Prop
 | mk (a H4:_):x=.ref a->N6 H3 a y v H4->D.nx σ H4->Uh D σ v x y H3
def fY (td ty tv:TE):TS:=λD σ H=>tv σ H λv H1=>td σ H1 λx H2=>ty σ H2 λy H3=>Uh D σ v x y H3
section
variable {o i value:Expr} {kq nE:Pos} {td ty tv:TE}
theorem GZ (e:X.A.units+1<cLine) (m:PE X o td) (A:PE X i ty) (q:bF i):PE X (.Subscript o i pos) (iI td ty):=by
 intro d s σ H Q I h
 refine Qn gI q (Bt (m d s σ H _ I h) λu k ⟨x,r,j,p,l⟩=>Bt (A d k σ r _ j l) λC D b=>?_)
 obtain⟨y,z,c,w,a,v,n,g,f⟩:=b
 subst n
 obtain rfl:u=Value.ref a:=p
 exact⟨Nq c g,RK e c g w λF E t B=>⟨v,z,t,B,f⟩⟩
theorem Ry (d:X.A.units+1<cLine) (v:PE X i ty) (l:PE X o td):PC X .NotIn i o (Xq ty td):=by
 intro c s σ H Q I h
 refine Bt (v c s σ H _ I h) λz k ⟨y,p,j,q,w⟩=>Bt (l c k σ p _ j w) λu A b=>?_
 obtain⟨x,t,e,n,a,ov,m,g,f⟩:=b
 subst m
 obtain rfl:u=Value.ref a:=n
 exact X7 d e g q λB r=>⟨.bl (!ov.isSome),t,r,rfl,f⟩
theorem Lk (c:X.A.units+1<cLine) (e:PE X o td) (F:PE X i ty) (J:PE X value tv) (C:swapsWith value (some (.Subscript o i kq)) pos.line X.env=pure false) :
  PS X (.Assign [.Subscript o i kq] value pos) (fY td ty tv):=by
 intro b s σ H D I h
 refine wpAny_Assign_Subscript (Bt (J b s σ H _ I h) λr w ⟨v,l,t,k,G⟩=>Bt (e b w σ l _ t G) λu d ⟨x,n,p,B,q⟩=>Bt (F b d σ n _ p q) λK L ⟨y,N,E,m,a,z,j,g,A⟩=>?_) C
 subst j
 obtain rfl:u=Value.ref a:=B
 exact Su c E g m k λM f=>⟨σ,z,f,A⟩
end
theorem UT {w:World} (h:Heap) (a:sysModules<h.objs.size):Bx P w H (h.push { cls:=.type "dict",data:=.dict #[] }) h.objs.size (.dK []) :=
 ⟨ee _,beq_eq_false_iff_ne.mpr (Ne.symm (be a)),[],.nil,Heap.DictOf.new h⟩
def aA:TE:=λ_ H Q=>∀ p,H p=none->Q (.ref p) (upd H p (.dK []))
theorem KQ:PE X (.Dict [] [] pos) aA:=λb s σ H Q I h =>
 wpAny_Dict_empty ⟨.ref s.heap.objs.size,_,I.laid (a:=s.heap.objs.size) (o:=.dK []) (t':=s.toks) (λ_ _ q=>Heap.get?_push_of_some _ q) (ai _) (UT s.heap I.big),rfl,h _ (I.hok.fresh (ai _))⟩
section
variable {d:V} {r:Value} {o:Option V} {E:vSP}
end
section
variable {o f:Expr} {i9 ja:Pos} {td ty tx:TE}
end
section
variable {E:vSP}
end
section
variable {E:vSP}
end
end L2
variable {H H' H1:L2.Hp} {X:L2.Cx} {s:PySem.Shared} {a C f dx aB aP aM l:PySem.Addr} {A:PySem.Around} {n i j t':Nat} {σ:L2.St} {pos:PySem.Pos} {x t qual:PySem.Str} {a0:List (PySem.Addr × PySem.Obj)} {prog P:PySem.Program} {e tg iter:PySem.Expr} {u:PySem.Value} {xs vs ys:List L2.V} {h h' base:PySem.Heap} {te ta:L2.TE} {Q:vSP} {y:L2.V} {p:Array Nat} {es:List PySem.Expr} {rk:List (PySem.Str × Nat × Int)} {scope:PySem.Scope} {fd:PySem.FuncData} {o:L2.HO} {kvs:List (L2.Key × L2.V)} {tt:L2.TT} {us:List PySem.Value} {fp:List PySem.Addr} {st:PySem.Stmt} {mg:PySem.Str->Option PySem.Value} {led:Bool} {D:L2.Ends}
namespace HT
open PySem PyProof.Rows
section
open PySem.SeqAt
open PySem.AutoSeq1 (wpAny_loadPart')
open PySem.MeetsSeq PySem.MeetsSeq2 PySem.MeetsSeq3
end
section
variable {w:World} {E:vSP}
theorem Wf {t b:Addr} {vs ws:List Value} (r:IsTup s.heap t vs.toArray) (u:IsTup s.heap b ws.toArray) (p:vs ≠ [])
  (v:ws=[]->Q (.ref t) s) (q:ws ≠ []->Q (.ref s.heap.objs.size) { s with heap:=s.heap.push { cls:=.type "tuple",data:=.seq (vs++ws).toArray } })
  (hsz:vs.length+ws.length<=sizeLine):wpAny (model prog w) A (binaryOp .Add (.ref t) (.ref b)) Q E s:=by
 obtain⟨⟨cls,f,data,h⟩,c,i,n,j⟩:=id r
 obtain⟨⟨x,m,data2,l⟩,d,o,g,k⟩:=id u
 simp only at i j o k
 subst i j o k
 have e:vs.toArray++ws.toArray=(vs++ws).toArray:=by simp
 by_cases a:ws=[]
 ·exact concat_meets ⟨_,c,rfl⟩ ⟨_,d,rfl⟩ noFill_tuple_add seq_tuple_add PySem.F.slot_tuple_add PySem.F.entry_tuple_add (PySem.F.args_tuple_add_2 _ _)
   (tuple_addW1 t b vs.toArray ws.toArray n g f m h l (by simpa using p) (by simp[a])) ⟨c,d,v a⟩
 ·refine concat_meets ⟨_,c,rfl⟩ ⟨_,d,rfl⟩ noFill_tuple_add seq_tuple_add PySem.F.slot_tuple_add PySem.F.entry_tuple_add (PySem.F.args_tuple_add_2 _ _)
   (tuple_addW2 t b vs.toArray ws.toArray n g f m h l (by simpa using p) (by simpa using a) (by rw[List.size_toArray,List.size_toArray];exact hsz)) ⟨c,d,?_⟩
  rw[e]
  exact q a
def Do (n d:Nat):Option Int->Nat
 | none=>d
 | some v=>if v<0 then (v+(n:Int)).toNat else min v.toNat n
theorem Ji (n d:Nat):Do n d none=d:=rfl
theorem Fj (n d k:Nat):Do n d (some (k:Int))=min k n:=by
 show (if (k:Int)<0 then ((k:Int)+(n:Int)).toNat else min (k:Int).toNat n)=min k n
 rw[if_neg (by omega),dA]
theorem b_ (n d:Nat) (b:d<=n) (o:Option Int):Do n d o<=n:=by
 cases o with
 | none=>exact b
 | some v =>
  show (if v<0 then (v+(n:Int)).toNat else min v.toNat n)<=n
  by_cases a:v<0
  ·rw[if_pos a];omega
  ·rw[if_neg a];exact Nat.min_le_right _ _
theorem Qm (v:Int) (n d:Nat):(if v<0 then max (v+(n:Int)) 0 else min v (n:Int))=((Do n d (some v):Nat):Int):=by
 show (if v<0 then max (v+(n:Int)) 0 else min v (n:Int))=(((if v<0 then (v+(n:Int)).toNat else min v.toNat n):Nat):Int)
 by_cases a:v<0
 ·simp only[if_pos a];omega
 ·simp only[if_neg a];omega
theorem PJ (lo a:Option Int) (n:Nat):Builtin.Slice.sliceAdjust lo a 1 (n:Int)=(((Do n 0 lo:Nat):Int),((Do n n a:Nat):Int)):=by
 have b:¬ ((1:Int)<0):=by omega
 unfold Builtin.Slice.sliceAdjust
 simp only[b,if_false]
 refine Prod.ext ?_ ?_
 ·cases lo with
  | none=>rfl
  | some v=>exact Qm v n 0
 ·cases a with
  | none=>rfl
  | some v=>exact Qm v n n
theorem N7 (i j:Nat):Builtin.Slice.slicePlaces (i:Int) (j:Int) 1=j - i:=by
 unfold Builtin.Slice.slicePlaces
 have a:(1:Int) > 0:=by omega
 simp only[a,if_true,Int.ediv_one]
 split <;> omega
theorem Jl {v:Value} {o:Option Int} {Q:Option Int->Shared->Prop} (p:IsPart v o) (h:Q o s):wpAny (model prog w) A (Builtin.Slice.slicePartIndex v) Q E s:=by
 cases p with
 | none=>exact slicePart_none h
 | int i t=>exact slicePart_int h
theorem Ik {f:Addr} {c e:Value} {lo a:Option Int} {Q:Int × Int × Nat->Shared->Prop} (g:s.heap.IsSliceOf f c e .none) (pl:IsPart c lo) (i:IsPart e a)
  (h:Q (((Do n 0 lo:Nat):Int),1,Do n n a - Do n 0 lo) s):wpAny (model prog w) A (Builtin.Slice.sliceApplied (.ref f) (pure (n:Int))) Q E s:=by
 obtain⟨os,d,j,b⟩:=id g
 unfold Builtin.Slice.sliceApplied Builtin.Slice.sliceFields
 refine wpAny_bind (wpAny_bind (wpAny_field d b (x:=c) rfl (wpAny_bind (wpAny_field d b (x:=e) rfl (wpAny_bind (wpAny_field d b (x:=.none) rfl (wpAny_pure ?_)))))))
 refine wpAny_bind (slicePart_none ?_)
 show wpAny _ _ (if ((1:Int) == 0)=true then _ else _) _ _ s
 rw[if_neg (by decide)]
 refine wpAny_bind (Jl pl (wpAny_bind (Jl i (wpAny_bind (wpAny_pure ?_)))))
 show wpAny _ _ (match Builtin.Slice.sliceAdjust lo a 1 (n:Int) with | (lo,a)=>pure (lo,(1:Int),Builtin.Slice.slicePlaces lo a 1)) _ _ s
 rw[PJ lo a n]
 show wpAny _ _ (pure (((Do n 0 lo:Nat):Int),(1:Int),Builtin.Slice.slicePlaces ((Do n 0 lo:Nat):Int) ((Do n n a:Nat):Int) 1)) _ _ s
 rw[N7]
 exact wpAny_pure h
theorem Uw (xs:Array Value) (i k:Nat):((List.range k).filterMap λ(m:Nat)=>xs[((i:Int)+(m:Int) * 1).toNat]?).toArray=((xs.toList.drop i).take k).toArray:=by
 have e:(λ(m:Nat)=>xs[((i:Int)+(m:Int) * 1).toNat]?)=λm=>xs[i+m]?:=by
  funext m
  have:((i:Int)+(m:Int) * 1).toNat=i+m:=by omega
  rw[this]
 rw[e]
 have:=pick_run xs i k
 rw[List.filterMap_map] at this
 have a:((λx=>xs[x]?) ∘ λx=>i+x)=λm=>xs[i+m]?:=rfl
 rw[a] at this
 rw[this]
theorem Hn {t f:Addr} {a:Array Value} {i j:Value} {lo c:Option Int} (d:IsTup s.heap t a) (k:s.heap.IsSliceOf f i j .none) (pl:IsPart i lo) (p:IsPart j c)
  (n:¬ (Do a.size 0 lo=0/\Do a.size a.size c=a.size))
  (h:Q (.ref s.heap.objs.size) { s with heap:=s.heap.push { cls:=.type "tuple",data:=.seq ((a.toList.drop (Do a.size 0 lo)).take (Do a.size a.size c - Do a.size 0 lo)).toArray } })
  (hsz:a.size<=sizeLine):wpAny (model prog w) A (getItem (.ref t) (.ref f)) Q E s:=by
 have b:sizeOk (.seq ((a.toList.drop (Do a.size 0 lo)).take (Do a.size a.size c - Do a.size 0 lo)).toArray):=by
  show ((a.toList.drop (Do a.size 0 lo)).take (Do a.size a.size c - Do a.size 0 lo)).toArray.size<=sizeLine
  rw[bo,df,iF,Array.length_toList]
  omega
 have u:Do a.size a.size c<=a.size:=b_ _ _ (ai _) c
 obtain⟨os,o,l,v⟩:=id k
 have g:s.TypeIs (.ref f) "slice":=⟨os,o,l⟩
 unfold getItem
 try with_reducible refine wpAny_holding ?_
 first | refine wpAny_bind (wpAny_pure ?_) | skip
 refine wpAny_bind (wpAny_sequenceKey d.typeIs (by decide) ?_)
 refine wpAny_bind (wpAny_callSpecial?_slot (name:=Str.ofString "__getitem__") d.typeIs PyProof.Rows.slot_tuple_getitem
  (wpAny_call_entry PyProof.Rows.slot_tuple_getitem d.typeIs entry_tuple_getitem ?_ (args_tuple_getitem _ _)))
 show wpAny _ _ (Builtin.Tuple.tupleItemsOf (.ref t) >>= _) _ _ s
 refine wpAny_bind (tupleItemsOf_ d ?_)
 refine wpAny_bind (wpAny_typeOf g ?_)
 rw[if_pos (by decide)]
 refine wpAny_bind (Ik k pl p ?_)
 have e:¬ ((((Do a.size 0 lo:Nat):Int) == 0 && (1:Int) == 1 && (Do a.size a.size c - Do a.size 0 lo) == a.size)=true):=by
  intro q
  rw[dS,dS] at q
  have x:((Do a.size 0 lo:Nat):Int)=0:=eq_of_beq q.1.1
  have r:Do a.size a.size c - Do a.size 0 lo=a.size:=eq_of_beq q.2
  exact n ⟨by omega,by omega⟩
 show wpAny _ _ (if (((Do a.size 0 lo:Nat):Int) == 0 && (1:Int) == 1 && (Do a.size a.size c - Do a.size 0 lo) == a.size)=true then _ else _) _ _ s
 rw[if_neg e,Uw]
 first
  | exact wpAny_bind (m:=Builtin.Tuple.tupleExact _) (wpAny_newObj_type (wpAny_pure ⟨_,rfl,wpAny_pure h⟩) b)
  | exact wpAny_bind (m:=Builtin.Tuple.tupleExact _) (wpAny_newObj_type (wpAny_bind (wpAny_pure (wpAny_pure ⟨_,rfl,wpAny_pure h⟩))) b)
  | exact wpAny_bind (wpAny_bind (m:=Builtin.Tuple.tupleExact _) (wpAny_newObj_type (wpAny_pure (wpAny_pure ⟨_,rfl,wpAny_pure h⟩)) b))
  | exact wpAny_bind (wpAny_bind (m:=Builtin.Tuple.tupleExact _) (wpAny_newObj_type (wpAny_pure ⟨_,rfl,wpAny_pure h⟩) b))
end
end HT
namespace L2
open PySem PySem.Spec PyProof.Rows
abbrev TO:=St->Hp->(Option Int->Hp->Prop)->Prop
def PO (X:Cx) (e:Option Expr) (t:TO):Prop :=
 ∀ (a0:List (Addr × Obj)) (s:Shared) (σ:St) (H:Hp) (Q:Option Int->Hp->Prop),Inv X a0 σ H s->t σ H Q ->
  wpAny (model X.prog X.w) X.A (evalPart e X.env) (λu s'=>∃ o H',Inv X a0 σ H' s'/\IsPart u o/\Q o H') X.xe s
def Xe:TO:=λ_ H Q=>Q none H
inductive U8 (Q:Option Int->Hp->Prop) (x:V) (H1:Hp):Prop
 | mk (i:_):x=.int i->Q (some i) H1->U8 Q x H1
def jE (t:TE):TO:=λσ H Q=>t σ H λx H1=>U8 Q x H1
section
variable {lo hi:Option Expr} {tl th:TO} {p2:Pos}
theorem Gd:PO X none Xe:=by
 intro a s σ H Q I h
 rw[evalPart_none]
 exact wpAny_pure ⟨none,H,I,.none,h⟩
theorem Ew (h:PE X e te):PO X (some e) (jE te):=by
 intro d s σ H Q I c
 rw[evalPart_some]
 refine Bt (h d s σ H _ I c) λu k a=>?_
 obtain⟨x,f,b,g,j⟩:=a
 obtain⟨i,rfl,q⟩:=j
 obtain⟨t,rfl⟩:=g
 exact⟨some i,f,b,.int i t,q⟩
def kE (X:Cx) (r:V->Option Int->Option Int->Hp->VK->Prop):Prop :=
 ∀ (a0:List (Addr × Obj)) (s:Shared) (σ:St) (H:Hp) (x:V) (v vl vu:Value) (lo hi:Option Int) (sl:Addr) (Q:VK),Inv X a0 σ H s->RelV x v->s.heap.IsSliceOf sl vl vu .none->IsPart vl lo->IsPart vu hi->r x lo hi H Q ->
  ∃ T id,typeLookup (.type T) "__getitem__" = pure (some (.builtin id))/\s.TypeIs v T/\wpAny (model X.prog X.w) X.A (getItem v (.ref sl)) (EP X a0 σ Q) X.xe s
def qe (r:V->Option Int->Option Int->Hp->VK->Prop) (te:TE) (tl th:TO):TE:=λσ H Q=>te σ H λx H1=>tl σ H1 λl H2=>th σ H2 λu H3=>r x l u H3 Q
theorem Ek {r:V->Option Int->Option Int->Hp->VK->Prop} (p:kE X r) (J:PE X e te) (F:PO X lo tl) (j:PO X hi th):PE X (.Subscript e (.Slice lo hi none p2) pos) (qe r te tl th):=by
 intro d s σ H Q I h
 refine Subscript_ (Bt (J d s σ H _ I h) λv D c=>?_)
 obtain⟨x,t,C,z,M⟩:=c
 refine wpAny_Slice (Bt (F d D σ t _ C M) λf n ⟨l,w,A,m,B⟩=>Bt (j d n σ w _ A B) λg a c=>?_)
 obtain⟨u,i,K,y,G⟩:=c
 rw[evalPart_none]
 refine wpAny_pure ?_
 have o:Inv X d σ i { a with heap:=a.heap.push { cls:=.type "slice",data:=.fields #[f,g,.none] } }:=K.kept (t':=a.toks) λb N q=>Heap.get?_push_of_some _ q
 obtain⟨T,id,L,E,k⟩:=p d { a with heap:=a.heap.push { cls:=.type "slice",data:=.fields #[f,g,.none] } } σ i x v f g l u a.heap.objs.size Q o z (Heap.IsSliceOf.new ..) m y G
 show wpAny (model X.prog X.w) X.A (subscriptTail e (.Slice lo hi none p2) v (.ref a.heap.objs.size)) (EP X d σ Q) X.xe { a with heap:=a.heap.push { cls:=.type "slice",data:=.fields #[f,g,.none] } }
 exact tail_any (ops:=[.ref a.heap.objs.size,v]) E L k (by with_unfolding_all rfl)
def Dy (xs:List V) (lo hi:Option Int):List V:=(xs.drop (HT.Do xs.length 0 lo)).take (HT.Do xs.length xs.length hi - HT.Do xs.length 0 lo)
theorem JK (xs:List V) (lo a:Option Int):(Dy xs lo a).length<=xs.length:=by
 unfold Dy
 rw[df,iF]
 omega
inductive iw (K:W.Frag) (x:V) (lo:Option Int) (hi:Option Int) (H:Hp) (Q:VK):Prop
 | mk (a xs:_):x=.ref a->Er K H a xs->¬ (HT.Do xs.length 0 lo=0/\HT.Do xs.length xs.length hi=xs.length)->(∀ p,H p=none->Q (.ref p) (upd H p (.tup (Dy xs lo hi))))->iw K x lo hi H Q
theorem Lp:kE X (iw X.K):=by
 intro w s σ H x v y z lo f t Q I m n k p h
 obtain⟨a,d,rfl,j,l,q⟩:=h
 cases m
 obtain⟨e,r,g,i⟩:=I.tuple j
 have c:e.toArray.size=d.length:=by rw[bo];exact r.length.symm
 refine⟨"tuple",_,PyProof.Rows.slot_tuple_getitem.lookup,g.typeIs,?_⟩
 refine HT.Hn g n k p (by rw[c];exact l) ?_ (by rw[c];exact i)
 rw[c]
 refine⟨.ref s.heap.objs.size,_,I.laid (t':=s.toks) (o:=.tup (Dy d lo f)) (λb u q=>Heap.get?_push_of_some _ q) (ai _) ?_,rfl,q _ (I.hok.fresh (ai _))⟩
 exact⟨bi (JK d lo f) i,_,(r.drop (HT.Do d.length 0 lo)).take (HT.Do d.length d.length f - HT.Do d.length 0 lo),IsTup.new _ _⟩
inductive Yr (K:W.Frag) (x:V) (y:V) (H:Hp) (Q:VK):Prop
 | mk (a b xs ys:_):x=.ref a->y=.ref b->Er K H a xs->Er K H b ys->xs ≠ []->xs.length+ys.length<=sizeLine->(ys=[]->Q (.ref a) H)->(ys ≠ []->∀ p,H p=none->Q (.ref p) (upd H p (.tup (xs++ys))))->Yr K x y H Q
theorem Vals.LK (r:Vals xs us):us=[] ↔ xs=[]:=by
 cases r with
 | nil=>simp
 | cons _ _=>simp
theorem Wg:GK X (binaryOp .Add) (Yr X.K):=by
 intro C s σ H x y v u Q I n r h
 obtain⟨a,b,p,g,rfl,rfl,A,k,i,e,l,f⟩:=h
 cases n
 cases r
 obtain⟨j,d,m,_⟩:=I.tuple A
 obtain⟨D,c,t,_⟩:=I.tuple k
 refine HT.Wf m t (λz=>i (d.LK.mp z)) (λz=>⟨.ref a,H,I,rfl,l (c.LK.mp z)⟩) (λz=>?_) (by rw[<-d.length,<-c.length];exact e)
 refine⟨.ref s.heap.objs.size,_,I.laid (t':=s.toks) (o:=.tup (p++g)) (λb B q=>Heap.get?_push_of_some _ q) (ai _) ?_,rfl,f (λw=>z (c.LK.mpr w)) _ (I.hok.fresh (ai _))⟩
 exact⟨by rw[ah];exact e,_,d.append c,IsTup.new _ _⟩
end
def Yy (n:Nat) (i:Int):Option Nat:=if 0<=i then (if i<n then some i.toNat else none) else if -(n:Int)<=i then some (i+n).toNat else none
def Ox {α:Type} (xs:List α) (i:Int):Option α:=(Yy xs.length i).bind λj=>xs[j]?
theorem W9 {i:Int} (h:Yy n i=some j):seqIndex? i n=some j/\j<n /\ -(n:Int)<=i/\i<n:=by
 unfold Yy at h
 by_cases b:0<=i
 ·rw[if_pos b] at h
  by_cases a:i<n
  ·rw[if_pos a] at h
   have e:i.toNat=j:=Option.some.inj h
   exact⟨by rw[seqIndex_of b a,e],by omega,by omega,a⟩
  ·rw[if_neg a] at h;cases h
 ·rw[if_neg b] at h
  by_cases a : -(n:Int)<=i
  ·rw[if_pos a] at h
   have e:(i+n).toNat=j:=Option.some.inj h
   exact⟨by rw[seqIndex_neg (by omega) a,e],by omega,a,by omega⟩
  ·rw[if_neg a] at h;cases h
theorem Lj {α:Type} {xs:List α} {i:Int} {v:α} (h:Ox xs i=some v):∃ j,seqIndex? i xs.length=some j/\xs[j]? = some v/\j<xs.length /\ -(xs.length:Int)<=i/\i<xs.length:=by
 unfold Ox at h
 cases e:Yy xs.length i with
 | none=>rw[e] at h;cases h
 | some j =>
  rw[e] at h
  obtain⟨b,a,d,c⟩:=W9 e
  exact⟨j,b,h,a,d,c⟩
theorem Ai {α:Type} {xs:List α} {v:α} (h:xs[j]? = some v):Ox xs (j:Int)=some v:=by
 have a:j<xs.length:=(ag.mp h).1
 have e:Yy xs.length (j:Int)=some j:=by
  unfold Yy
  rw[if_pos (by omega),if_pos (by omega)];simp
 unfold Ox;rw[e];exact h
def Wu (b:Expr):Prop:=∀ o i,subscripted b false o i=operate [o,i] (getItem o i)
def cT (X:Cx) (r:R2):Prop :=
 ∀ (value i8:Expr) (a0:List (Addr × Obj)) (s:Shared) (σ:St) (H:Hp) (x y:V) (v u:Value) (Q:VK),Inv X a0 σ H s->RelV x v->RelV y u->r x y H Q ->
  subscripted i8 false v u=operate [v,u] (getItem v u)->wpAny (model X.prog X.w) X.A (subscriptTail value i8 v u) (EP X a0 σ Q) X.xe s
def oZ (X:Cx) (id:String) (r:V->List V->Hp->VK->Prop):Prop :=
 ∀ (a0:List (Addr × Obj)) (s:Shared) (σ:St) (H:Hp) (x:V) (xs:List V) (v:Value) (us:List Value) (Q:VK),Inv X a0 σ H s->RelV x v->Vals xs us->r x xs H Q ->
  wpAny (model X.prog X.w) X.A (call (.builtin id) (v::us)) (EP X a0 σ Q) X.xe s
section
variable {a b:Expr} {tb:TE}
theorem A_ {r:R2} (f:cT X r) (l:PE X a ta) (c:PE X b tb) (i:Wu b):PE X (.Subscript a b pos) (cW r ta tb):=by
 intro d s σ H Q I h
 exact Subscript_ (Zg l c I h λv u e x y k m g j q=>f a b d e σ k x y v u Q m g j q (i _ _))
inductive aH (K:W.Frag) (x:V) (y:V) (H:Hp) (Q:VK):Prop
 | mk (p xs i v:_):x=.ref p->y=.int i->CV K H p xs->Ox xs i=some v->Q v H->aH K x y H Q
inductive bc (K:W.Frag) (x:V) (y:V) (H:Hp) (Q:VK):Prop
 | mk (p xs i v:_):x=.ref p->y=.int i->Er K H p xs->Ox xs i=some v->Q v H->bc K x y H Q
inductive i_ (x:V) (y:V) (H:Hp) (Q:VK):Prop
 | mk (z i c:_):x=.str z->y=.int i->z.length<=sizeLine->Ox z.cps.toList i=some c->Q (.str ⟨#[c]⟩) H->i_ x y H Q
theorem Fi:cT X (aH X.K):=by
 intro e N g s σ H x y v u Q I F o h k
 obtain⟨p,K,i,z,rfl,rfl,B,E,q⟩:=h
 cases F
 obtain⟨t,rfl⟩:=o
 obtain⟨b,r,d,M⟩:=I.list B
 obtain⟨j,a,C,J,G,m⟩:=Lj E
 obtain⟨w,f,A⟩:=r.get C
 have D:=r.length
 have L:=Iz
 have fin:EP X g σ Q w s:=⟨z,H,I,A,q⟩
 by_cases l:0<=i
 ·have c:i.toNat=j:=by
   rw[seqIndex_of l m] at a
   exact Option.some.inj a
  exact item_listR d.isList l (by omega) (by rw[c];simpa using f) fin k
 ·have c:(i+(b.toArray.size:Int)).toNat=j:=by
   rw[seqIndex_neg (by omega) G] at a
   rw[bo,<-D]
   exact Option.some.inj a
  exact subscriptTail_builtinR (x:=w) d.isList.typeIs slot_list_getitem.lookup
   (wpAny_getItem_list_neg (Q:=λr n=>r=w/\EP X g σ Q r n) d.isList (by omega) (by rw[List.size_toArray] <;> omega) (by omega) (by rw[c];simpa using f) ⟨rfl,fin⟩) k
theorem bI:cT X (bc X.K):=by
 intro a K c s σ H x y v u Q I A g h B
 obtain⟨p,E,i,z,rfl,rfl,l,o,q⟩:=h
 cases A
 obtain⟨t,rfl⟩:=g
 obtain⟨d,r,b,J⟩:=I.tuple l
 obtain⟨j,C,m,D,L,F⟩:=Lj o
 obtain⟨w,e,k⟩:=r.get m
 have n:=r.length
 have G:=Iz
 have fin:EP X c σ Q w s:=⟨z,H,I,k,q⟩
 exact subscriptTail_builtinR (x:=w) b.typeIs slot_tuple_getitem.lookup
  (getItem_tuple (j:=j) (Q:=λr f=>r=w/\EP X c σ Q r f) b (by omega) (by omega) (by rw[List.size_toArray,<-n];exact C) (by simpa using e) ⟨rfl,fin⟩) B
theorem Pu:cT X i_:=by
 intro a B w s σ H x y v u Q I g k h l
 obtain⟨z,i,c,rfl,rfl,D,m,q⟩:=h
 obtain⟨t,rfl⟩:=g
 obtain⟨r,rfl⟩:=k
 obtain⟨j,b,d,A,o,n⟩:=Lj m
 have f:z.cps.toList.length=z.length:=by simp[Str.length]
 rw[f] at b o n
 have C:=Iz
 exact tail_any (typeIs_str s z t) slot_str_getitem.lookup (getItem_str (c:=c) (by
  have p:decide (i < -(2 ^ 63:Int))=false:=decide_eq_false (by omega)
  have e:decide (i ≥ 2 ^ 63)=false:=decide_eq_false (by omega)
  rw[p,e,Bool.or_false]) (by rw[b];simpa using d) ⟨.str ⟨#[c]⟩,H,I.tok _,⟨_,rfl⟩,q⟩) l
theorem MT (lo a:Option Int) (n:Nat):(sliceBounds lo a none n).1=((HT.Do n 0 lo:Nat):Int)/\(sliceBounds lo a none n).2.1=((HT.Do n n a:Nat):Int)/\(sliceBounds lo a none n).2.2=1:=by
 refine⟨?_,?_,rfl⟩
 ·cases lo with
  | none=>simp[sliceBounds,HT.Do]
  | some i =>
   simp only[sliceBounds,HT.Do,Option.getD_none,show (1:Int) > 0 by decide,if_true]
   by_cases h:i<0
   ·simp only[h,if_true] <;> omega
   ·simp only[h,if_false] <;> omega
 ·cases a with
  | none=>simp[sliceBounds,HT.Do]
  | some i =>
   simp only[sliceBounds,HT.Do,Option.getD_none,show (1:Int) > 0 by decide,if_true]
   by_cases h:i<0
   ·simp only[h,if_true] <;> omega
   ·simp only[h,if_false] <;> omega
theorem Ke (its:List Value) (lo a:Option Int):slicePick its.toArray lo a none=((its.drop (HT.Do its.length 0 lo)).take (HT.Do its.length its.length a - HT.Do its.length 0 lo)).toArray:=by
 obtain⟨b,c,d⟩:=MT lo a its.toArray.size
 unfold slicePick
 rw[b,c,d]
 simp only[sliceRange_one,pick_run,List.size_toArray] <;> rfl
inductive fG (K:W.Frag) (x:V) (lo:Option Int) (hi:Option Int) (H:Hp) (Q:VK):Prop
 | mk (a xs:_):x=.ref a->CV K H a xs->(∀ p,H p=none->Q (.ref p) (upd H p (.lst (Dy xs lo hi))))->fG K x lo hi H Q
theorem JT:kE X (fG X.K):=by
 intro u s σ H x v w y lo e p Q I k l j m h
 obtain⟨a,c,rfl,i,q⟩:=h
 cases k
 obtain⟨g,r,f,n⟩:=I.list i
 have d:=r.length
 refine⟨"list",_,slot_list_getitem.lookup,f.isList.typeIs,?_⟩
 refine wpAny_getItem_list_slice f.isList l j m .none (by simp) ?_ (by rw[List.size_toArray] <;> omega)
 rw[Ke,<-d]
 refine⟨.ref s.heap.objs.size,_,I.laid (t':=s.toks) (o:=.lst (Dy c lo e)) (λb t q=>Heap.get?_push_of_some _ q) (ai _) ?_,rfl,q _ (I.hok.fresh (ai _))⟩
 exact⟨bi (JK c lo e) n,_,0,(r.drop (HT.Do c.length 0 lo)).take (HT.Do c.length c.length e - HT.Do c.length 0 lo),Heap.get?_push_size _ rfl⟩
def F_:V->Bool
 | .non=>true
 | .bl _=>true
 | .int _=>true
 | .str _=>true
 | _=>false
def K3:V->V->Bool
 | .non,.non=>true
 | .bl a,.bl b=>a == b
 | .bl a,.int b=>(if a then 1 else 0) == b
 | .int a,.bl b=>a == (if b then 1 else 0)
 | .int a,.int b=>a == b
 | .str a,.str b=>a == b
 | _,_=>false
theorem V9 {x:V} {v:Value} (e:RelV y u) (c:RelV x v) (g:F_ y=true) (f:F_ x=true):SeqAt.EqAt A s u v (K3 y x):=by
 cases y with
 | non =>
  cases e
  cases x with
  | non=>cases c;exact SeqAt.EqAt.same _
  | bl b=>cases c;exact SeqAt.EqAt.none_bool b
  | int b=>obtain⟨t,rfl⟩:=c;exact SeqAt.EqAt.none_int b t
  | str b=>obtain⟨t,rfl⟩:=c;exact SeqAt.EqAt.none_str b t
  | _=>exact absurd (show false=true from f) Bool.false_ne_true
 | bl a =>
  cases e
  cases x with
  | non=>cases c;exact SeqAt.EqAt.bool_none a
  | bl b=>cases c;exact SeqAt.EqAt.bool_bool a b
  | int b=>obtain⟨t,rfl⟩:=c;exact SeqAt.EqAt.bool_int a b t
  | str b=>obtain⟨t,rfl⟩:=c;exact SeqAt.EqAt.bool_str a b t
  | _=>exact absurd (show false=true from f) Bool.false_ne_true
 | int a =>
  obtain⟨d,rfl⟩:=e
  cases x with
  | non=>cases c;exact SeqAt.EqAt.int_none a d
  | bl b=>cases c;exact SeqAt.EqAt.int_bool a d b
  | int b=>obtain⟨t,rfl⟩:=c;exact SeqAt.EqAt.int_int a d b t
  | str b=>obtain⟨t,rfl⟩:=c;exact SeqAt.EqAt.int_str a d b t
  | _=>exact absurd (show false=true from f) Bool.false_ne_true
 | str a =>
  obtain⟨d,rfl⟩:=e
  cases x with
  | non=>cases c;exact SeqAt.EqAt.str_none a d
  | bl b=>cases c;exact SeqAt.EqAt.str_bool a d b
  | int b=>obtain⟨t,rfl⟩:=c;exact SeqAt.EqAt.str_int a d b t
  | str b=>obtain⟨t,rfl⟩:=c;exact SeqAt.EqAt.str_str a d b t
  | _=>exact absurd (show false=true from f) Bool.false_ne_true
 | _=>exact absurd (show false=true from g) Bool.false_ne_true
def Oz (x:V) (u:Value):Bool:=match u with
 | .none=>K3 .non x
 | .bool b=>K3 (.bl b) x
 | .int i _=>K3 (.int i) x
 | .str z _=>K3 (.str z) x
 | _=>false
theorem Tg {x:V} (r:RelV y u) (f:F_ y=true):Oz x u=K3 y x:=by
 cases y with
 | non=>cases r;rfl
 | bl b=>cases r;rfl
 | int i=>obtain⟨t,rfl⟩:=r;rfl
 | str z=>obtain⟨t,rfl⟩:=r;rfl
 | _=>exact absurd (show false=true from f) Bool.false_ne_true
theorem H_ {x:V}:∀ {xs:List V} {us:List Value},Vals xs us->xs.all F_=true->us.any (Oz x)=xs.any λy=>K3 y x
 | _,_,.nil,_=>rfl
 | y::xs,u::us,.cons r t,f=>by
  rw[iA,dS] at f
  rw[ia,ia,Tg r f.1,H_ t f.2]
theorem Gq {x:V} {v:Value} (b:RelV x v) (c:F_ x=true):∀ {xs:List V} {us:List Value},Vals xs us->xs.all F_=true->∀ u∈us,SeqAt.EqAt A s u v (Oz x u)
 | _,_,.nil,_=>λu a=>by cases a
 | y::xs,u::us,.cons r t,f=>λd a=>by
  rw[iA,dS] at f
  rcases cm.mp a with rfl | a
  ·rw[Tg r f.1];exact V9 r b f.1 c
  ·exact Gq b c t f.2 d a
def inV (x:V) (xs:List V):Bool:=xs.any λy=>K3 y x
inductive iW (K:W.Frag) (neg:Bool) (x:V) (y:V) (H:Hp) (Q:VK):Prop
 | mk (p xs:_):y=.ref p->(CV K H p xs \/ Er K H p xs)->F_ x=true->xs.all F_=true->Q (.bl (if neg then !inV x xs else inV x xs)) H->iW K neg x y H Q
theorem RQ:GK X (compareOp .In) (iW X.K false):=by
 intro j s σ H x y v u Q I f g h
 obtain⟨p,k,rfl,b,e,fs,q⟩:=h
 cases g
 rcases b with b | b
 ·obtain⟨a,r,c,i⟩:=I.list b
  refine SeqAt.in_listAt (Oz x) c.isList (λw d=>Gq f e r fs w (by simpa using d)) ⟨.bl _,H,I,rfl,?_⟩
  rw[show a.toArray.any (Oz x)=a.any (Oz x) by simp,H_ r fs]
  exact q
 ·obtain⟨a,r,c,i⟩:=I.tuple b
  refine SeqAt.in_tupleAt (Oz x) c (λw d=>Gq f e r fs w (by simpa using d)) ⟨.bl _,H,I,rfl,?_⟩
  rw[show a.toArray.any (Oz x)=a.any (Oz x) by simp,H_ r fs]
  exact q
theorem Lf:GK X (compareOp .NotIn) (iW X.K true):=by
 intro j s σ H x y v u Q I f g h
 obtain⟨p,k,rfl,b,e,fs,q⟩:=h
 cases g
 rcases b with b | b
 ·obtain⟨a,r,c,i⟩:=I.list b
  refine SeqAt.notIn_listAt (Oz x) c.isList (λw d=>Gq f e r fs w (by simpa using d)) ⟨.bl _,H,I,rfl,?_⟩
  rw[show a.toArray.any (Oz x)=a.any (Oz x) by simp,H_ r fs]
  exact q
 ·obtain⟨a,r,c,i⟩:=I.tuple b
  refine SeqAt.notIn_tupleAt (Oz x) c (λw d=>Gq f e r fs w (by simpa using d)) ⟨.bl _,H,I,rfl,?_⟩
  rw[show a.toArray.any (Oz x)=a.any (Oz x) by simp,H_ r fs]
  exact q
theorem BR:Ep X (.builtin "len") (λxs H Q=>∃ p ys,xs=[.ref p]/\(CV X.K H p ys \/ Er X.K H p ys)/\Q (.int ys.length) H):=by
 intro j s σ H xs i Q I r h
 obtain⟨p,ys,rfl,b,q⟩:=h
 obtain⟨u,rfl,f⟩:=vals1 r
 cases f
 have k:=Iz
 rcases b with b | b
 ·obtain⟨c,e,d,g⟩:=I.list b
  have a:=e.length
  exact Calls.call_len_list d.isList (by simp only[List.size_toArray] <;> omega) ⟨.int ys.length,H,I.tok _,⟨s.toks+1,by rw[List.size_toArray,a]⟩,q⟩
 ·obtain⟨c,e,d,g⟩:=I.tuple b
  have a:=e.length
  exact len_tuple d (by simp only[List.size_toArray] <;> omega) ⟨.int ys.length,H,I.tok _,⟨s.toks+1,by rw[List.size_toArray,a]⟩,q⟩
theorem Lh:Ep X (.builtin "len") (λxs H Q=>∃ z,xs=[.str z]/\z.length<=sizeLine/\Q (.int z.length) H):=by
 intro c s σ H xs a Q I r h
 obtain⟨z,rfl,d,q⟩:=h
 obtain⟨u,rfl,t,rfl⟩:=vals1 r
 have b:=Iz
 exact len_str (by omega) ⟨.int z.length,H,I.tok _,⟨_,rfl⟩,q⟩
theorem DY:Ep X (.type "list") (λxs H Q=>∃ p ys,xs=[.ref p]/\(CV X.K H p ys \/ Er X.K H p ys)/\∀ l,H l=none->Q (.ref l) (upd H l (.lst ys))):=by
 intro x s σ H xs z Q I r h
 obtain⟨p,ys,rfl,j,q⟩:=h
 obtain⟨u,rfl,y⟩:=vals1 r
 cases y
 have fin:∀ (a:List Value),Vals ys a->ys.length<=sizeLine->∀ (c:Heap) (f:Nat),(∀ b w,s.heap.get? b=some w->c.get? b=some w) ->
   c.get? s.heap.objs.size=some { cls:=.type "list",dict:=none,data:=.seq a.toArray f,slots:=#[] }->EP X x σ Q (.ref s.heap.objs.size) { s with heap:=c }:=λa d g c f kp e =>
  ⟨.ref s.heap.objs.size,_,I.laid (t':=s.toks) kp (Nat.le_refl _) (show Bx X.prog X.w _ c _ (.lst ys) from ⟨g,a,f,d,e⟩),rfl,q _ (I.hok.fresh (Nat.le_refl _))⟩
 rcases j with j | j
 ·obtain⟨a,d,k,g⟩:=I.list j
  have i:=d.length
  obtain⟨o,v,m,n,t⟩:=k.isList
  exact call_list_seq p (.inl rfl) v m t (λc f kp e=>fin a d g c f kp e) (by simp only[List.size_toArray] <;> omega)
 ·obtain⟨a,d,k,g⟩:=I.tuple j
  have i:=d.length
  obtain⟨o,v,m,n,t⟩:=k
  exact call_list_seq p (.inr rfl) v m t (λc f kp e=>fin a d g c f kp e) (by simp only[List.size_toArray] <;> omega)
def mX (K:W.Frag) (T:String) (x:V) (H:Hp):Prop:=match x with
 | .str _=>T = "str"
 | .int _=>T = "int"
 | .ref p=>(T = "list" /\ ∃ xs,CV K H p xs) \/ (T = "tuple" /\ ∃ o,K.lookup p=some o/\o.cls=.type "tuple" /\ o.dict=none) \/
   (T = "dict" /\ ((∃ kvs,H p=some (.dK kvs)) \/ ∃ kvs,H p=some (.dT kvs))) \/ (T = "set" /\ ∃ S n,H p=some (.set S n))
 | _=>False
theorem TX {T:String} {x:V} {v:Value} (I:Inv X a0 σ H s) (r:RelV x v) (f:mX X.K T x H) :
  s.TypeIs v T/\∀ a,v=.ref a->∃ ob,s.heap.get? a=some ob/\ob.dict=none:=by
 cases x with
 | str z =>
  obtain⟨t,rfl⟩:=r
  cases (show T = "str" from f)
  exact⟨typeIs_str s z t,λ_ e=>nomatch e⟩
 | int i =>
  obtain⟨t,rfl⟩:=r
  cases (show T = "int" from f)
  exact⟨typeIs_int s i t,λ_ e=>nomatch e⟩
 | ref p =>
  cases r
  rcases f with⟨rfl,u,l⟩ | ⟨rfl,o,b,q,h⟩ | ⟨rfl,b⟩ | ⟨rfl,S,n,b⟩
  ·obtain⟨m,_,k,_⟩:=I.list l
   refine⟨k.isList.typeIs,λa e=>?_⟩
   cases e
   obtain⟨o,n,e,c,h,_⟩:=k
   exact⟨o,e,h⟩
  ·refine⟨⟨o,I.Ig p o b,q⟩,λa e=>?_⟩
   cases e
   exact⟨o,I.Ig _ o b,h⟩
  ·have z:∃ o,s.heap.get? p=some o/\o.ExactDict:=by
    rcases b with⟨j,b⟩ | ⟨j,b⟩
    ·obtain⟨_,_,_,_,o,_,_,e,d,_⟩:=I.hok p _ b
     exact⟨o,e,d⟩
    ·obtain⟨_,_,_,_,o,_,_,e,d,_⟩:=I.hok p _ b
     exact⟨o,e,d⟩
   obtain⟨o,e,d⟩:=z
   refine⟨⟨o,e,d.1⟩,λa g=>?_⟩
   cases g
   exact⟨o,e,d.2.1⟩
  ·obtain⟨o,_,_,_,e,d,_⟩:=I.hok p _ b
   refine⟨⟨o,e,d.1⟩,λa g=>?_⟩
   cases g
   exact⟨o,e,d.2.1⟩
 | _=>exact False.elim f
def mO (K:W.Frag) (T:String) (r:V->List V->Hp->VK->Prop) (to:TE):TE:=λσ H Q=>to σ H λx H1=>mX K T x H1/\r x [] H1 Q
def qY (K:W.Frag) (T:String) (r:V->List V->Hp->VK->Prop) (to:TE) (t:TA):TE:=λσ H Q=>to σ H λx H1=>mX K T x H1/\t σ H1 λxs H2=>r x xs H2 Q
variable {o:Expr} {to:TE} {t:TA} {name:Str} {i9 ja:Pos} {T id:String} {r:V->List V->Hp->VK->Prop}
theorem Nz (u:PlainAttrs T) (a:Slot T name id) (i:typeOf (.builtin id)=pure (.type "method_descriptor")) (m:oZ X id r) (k:PE X o to)
  (p:attributeBase o name X.env (eval o X.env)=eval o X.env:=by rfl) (l:(i9.endLine == ja.line)=true:=by rfl):PE X (.Call (.Attribute o name i9) [] [] ja) (mO X.K T r to):=by
 intro d s σ H Q I h
 refine wpAny_Call_method0_late p l (Bt (k d s σ H _ I h) λv g b=>?_)
 obtain⟨x,n,c,e,t,j⟩:=b
 obtain⟨q,f⟩:=TX c e t
 exact⟨T,id,u,a,i,q,f,Calls.callWith_builtin rfl (PySem.evalArgs_none (m d g σ n x [] v [] Q c e .nil j))⟩
theorem FW (M:PlainAttrs T) (a:Slot T name id) (l:typeOf (.builtin id)=pure (.type "method_descriptor")) (y:oZ X id r) (q:PE X o to) (E:PA X (e::es) t)
  (C:attributeBase o name X.env (eval o X.env)=eval o X.env:=by rfl)
  (D:((backTo ja (starEach (e::es) X.env)).all (λx=>!x.1) && (backToKw ja (keywordEach [] X.env)).all (λx=>x.1.isSome)
   && decide ((e::es).length+([]:List Keyword).length+(if ([]:List Keyword).isEmpty then 0 else 1)<30))=true:=by rfl)
  (u:(i9.endLine == ja.line)=true:=by rfl) (z:starEach (e::es) X.env=(false,eval e X.env)::starEach es X.env:=by rfl) (L:(backTo ja (starEach es X.env)).any (·.1)=false:=by rfl) :
  PE X (.Call (.Attribute o name i9) (e::es) [] ja) (qY X.K T r to t):=by
 intro c s σ H Q I h
 refine wpAny_Call_method_late C D u rfl (Bt (q c s σ H _ I h) λv k b=>?_)
 obtain⟨x,A,d,g,G,n⟩:=b
 obtain⟨F,i⟩:=TX d g G
 refine⟨T,id,M,a,l,F,i,?_⟩
 have f:=E ja c k σ A _ d n
 rw[z] at f |-
 refine Calls.callWith_builtin (by show (false || (backTo ja (starEach es X.env)).any (·.1))=false;rw[L] <;> rfl) (Calls.evalArgs_plain ?_)
 exact Bt f λm p ⟨w,B,J,K,j⟩=>y c p σ B x w v m Q J g K j
end
def jN (X:Cx) (id:String) (r:V->List V->Hp->VK->Prop):Prop :=
 ∀ (a0:List (Addr × Obj)) (s:Shared) (σ:St) (H:Hp) (x:V) (xs:List V) (v:Value) (us:List Value) (Q:VK),Inv X a0 σ H s->RelV x v->Vals xs us->r x xs H Q ->
  wpAny (model X.prog X.w) X.A (call (.builtin id) (v::us)) (EP X a0 σ Q) X.xe s
theorem Vals.one:∀ {x:V} {us:List Value},Vals [x] us->∃ u,us=[u]/\RelV x u:=λh=>by cases h with | cons r t=>cases t;exact⟨_,rfl,r⟩
theorem Vals.two:∀ {x y:V} {us:List Value},Vals [x,y] us->∃ u v,us=[u,v]/\RelV x u/\RelV y v:=λh=>by cases h with | cons r t=>cases t with | cons q t=>cases t;exact⟨_,_,rfl,r,q⟩
theorem Vals.zero:∀ {us:List Value},Vals [] us->us=[]
 | _,.nil=>rfl
theorem Vals.dropLast (h:Vals xs us):Vals xs.dropLast us.dropLast:=by
 induction h with
 | nil=>exact .nil
 | cons r t a =>
  cases t with
  | nil=>exact .nil
  | cons q b=>exact .cons r a
theorem Vals.eraseIdx:∀ {xs:List V} {us:List Value} (i:Nat),Vals xs us->Vals (xs.eraseIdx i) (us.eraseIdx i)
 | _,_,_,.nil=>.nil
 | _,_,0,.cons _ t=>t
 | _,_,i+1,.cons r t=>.cons r (Vals.eraseIdx i t)
theorem Ov {α:Type} (l:List α):l.eraseIdx (l.length - 1)=l.dropLast:=by
 induction l with
 | nil=>rfl
 | cons a r c =>
  cases r with
  | nil=>rfl
  | cons b r =>
   have e:(a::b::r).length - 1=((b::r).length - 1)+1:=by
    have f:(a::b::r).length=r.length+2:=rfl
    have d:(b::r).length=r.length+1:=rfl
    omega
   rw[e,List.eraseIdx_cons_succ,c]
   all_goals rfl
theorem Kq {α:Type}:∀ (l:List α) (i:Nat),(l.eraseIdx i).length<=l.length
 | [],_=>ai _
 | _::_,0=>gL _
 | _::r,i+1=>dr (Kq r i)
section
variable {b:Addr} {zs:List V}
theorem Inv.Xk {its its':List Value} {f:Array Value->Array Value} {t':Nat} (I:Inv X a0 σ H s) (d:H l=some (.lst xs))
  (e:s.heap.get? l=some { cls:=.type "list",data:=.seq its.toArray n }) (b:f its.toArray=its'.toArray) (h:Vals ys its') (g:ys.length<=sizeLine) :
  Inv X a0 σ (upd H l (.lst ys)) { s with heap:=s.heap.update l (Obj.mapSeq f),toks:=t' }:=by
 have q:=PySem.IsL.update e f
 rw[b] at q
 refine I.write (x:=l) (e:=l) (by rw[d];exact trivial) (.inl rfl) (λi u c a=>(Heap.get?_update_other s.heap (Obj.mapSeq f) (Ne.symm c)).trans a) ⟨_,q⟩ ?_
 exact⟨g,its',_,h,q⟩
theorem Inv.Zi {its:List Value} {t':Nat} (I:Inv X a0 σ H s) (b:Vals ys its) (a:ys.length<=sizeLine) :
  Inv X a0 σ (upd H s.heap.objs.size (.lst ys)) { s with heap:=s.heap.push { cls:=.type "list",data:=.seq its.toArray },toks:=t' } :=
 I.laid (λ_ _ q=>Heap.get?_push_of_some _ q) (ai _) ⟨a,its,0,b,Heap.get?_push_size _ rfl⟩
theorem Inv.fresh (I:Inv X a0 σ H s):H s.heap.objs.size=none:=I.hok.fresh (ai _)
theorem Inv.PB (I:Inv X a0 σ H s) (a:H l=some (.lst xs)):xs.length<=sizeLine/\∃ (its:List Value) (n:Nat),Vals xs its/\xs.length=its.length/\s.heap.get? l=some { cls:=.type "list",data:=.seq its.toArray n }:=by
 obtain⟨z,its,n,r,e⟩:=I.hok l _ a
 exact⟨z,its,n,r,r.length,e⟩
theorem Ur (h:n<=sizeLine):Builtin.List.listTooLong n=false:=by
 unfold Builtin.List.listTooLong
 exact decide_eq_false (by omega)
end
inductive Qc (x:V) (vs:List V) (H:Hp) (Q:VK):Prop
 | mk (l xs y:_):x=.ref l->vs=[y]->H l=some (.lst xs)->xs.length<sizeLine->Q .non (upd H l (.lst (xs++[y])))->Qc x vs H Q
theorem Br:jN X "list.append" Qc:=by
 intro j s σ H x k v i Q I f d h
 obtain⟨l,m,y,rfl,rfl,b,o,q⟩:=h
 cases f
 obtain⟨u,rfl,c⟩:=d.one
 obtain⟨z,a,n,r,g,e⟩:=I.PB b
 refine call_meets F.slot_list_append ⟨_,e,rfl⟩ F.entry_list_append (F.args_list_append_2 _ _) (PySem.list_append l a.toArray n u (by rw[bo];omega)) ⟨e,?_⟩
 refine⟨.non,_,I.Xk (its':=a++[u]) b e (by simp) (r.append (.cons c .nil)) ?_,rfl,q⟩
 rw[ah,bq]
 omega
inductive Qg (x:V) (vs:List V) (H:Hp) (Q:VK):Prop
 | mk (l b xs zs:_):x=.ref l->vs=[.ref b]->H l=some (.lst xs)->H b=some (.lst zs)->xs.length+zs.length<=sizeLine->Q .non (upd H l (.lst (xs++zs)))->Qg x vs H Q
theorem SQ:jN X "list.extend" Qg:=by
 intro E s σ H x G v y Q I o i h
 obtain⟨l,b,J,D,rfl,rfl,g,t,A,q⟩:=h
 cases o
 obtain⟨u,rfl,p⟩:=i.one
 cases p
 obtain⟨z,a,n,r,C,e⟩:=I.PB g
 obtain⟨B,d,w,j,m,k⟩:=I.PB t
 have f:a.toArray.size+d.toArray.size<=sizeLine:=by rw[bo,bo];omega
 have c:¬ (!a.toArray.isEmpty && Builtin.List.listTooLong (a.toArray.size+d.toArray.size))=true:=by
  rw[Ur f,Bool.and_false]
  exact eR
 refine call_meets F.slot_list_extend ⟨_,e,rfl⟩ F.entry_list_extend (F.args_list_extend_2 _ _)
  (AutoSeq1.list_extend_list_list_0 l a.toArray n b d.toArray w c (by rw[bo];omega) (by omega)) ⟨e,k,?_⟩
 refine⟨.non,_,I.Xk (its':=a++d) g e (by simp) (r.append j) ?_,rfl,q⟩
 rw[ah]
 omega
inductive iC (x:V) (vs:List V) (H:Hp) (Q:VK):Prop
 | mk (l xs y:_):x=.ref l->vs=[]->H l=some (.lst xs)->xs[xs.length - 1]? = some y->Q y (upd H l (.lst xs.dropLast))->iC x vs H Q
theorem az:jN X "list.pop" iC:=by
 intro p s σ H x t v o Q I m k h
 obtain⟨l,w,y,rfl,rfl,d,i,q⟩:=h
 cases m
 have c:=k.zero
 subst c
 obtain⟨z,a,n,r,g,e⟩:=I.PB d
 obtain⟨u,f,j⟩:=r.get i
 have b:a.toArray[a.toArray.size - 1]? = some u:=by
  show a.toArray[a.length - 1]? = some u
  rw[<-Array.getElem?_toList,<-g]
  exact f
 refine call_meets F.slot_list_pop ⟨_,e,rfl⟩ F.entry_list_pop (F.args_list_pop_1 _) (MeetsSeq.list_pop_last l a.toArray n u b (by rw[bo];omega)) ⟨e,?_⟩
 refine⟨y,_,I.Xk (its':=a.dropLast) d e ?_ r.dropLast ?_,j,q⟩
 ·show a.toArray.eraseIdxIfInBounds (a.toArray.size - 1)=a.dropLast.toArray
  rw[bo,gS,Ov]
 ·rw[List.length_dropLast]
  omega
inductive Uc (x:V) (vs:List V) (H:Hp) (Q:VK):Prop
 | mk (l xs i k y:_):x=.ref l->vs=[.int i]->H l=some (.lst xs)->-(2 ^ 63)<=i->i<2 ^ 63->seqIndex? i xs.length=some k->xs[k]? = some y->Q y (upd H l (.lst (xs.eraseIdx k)))->Uc x vs H Q
theorem Sy:jN X "list.pop" Uc:=by
 intro E s σ H x G v D Q I o m h
 obtain⟨l,p,i,k,y,rfl,rfl,b,A,c,B,g,q⟩:=h
 cases o
 obtain⟨u,rfl,j⟩:=m.one
 obtain⟨t,rfl⟩:=j
 obtain⟨z,a,n,r,d,e⟩:=I.PB b
 obtain⟨w,f,C⟩:=r.get g
 refine call_meets F.slot_list_pop ⟨_,e,rfl⟩ F.entry_list_pop (F.args_list_pop_2 _ _)
  (MeetsSeq.list_pop_at l a.toArray n i t k w (fitsIndex_both A c) (by rw[bo,<-d];exact B) (by rw[<-Array.getElem?_toList];exact f) (by rw[bo];omega)) ⟨e,?_⟩
 refine⟨y,_,I.Xk (its':=a.eraseIdx k) b e ?_ (r.eraseIdx k) ?_,C,q⟩
 ·show a.toArray.eraseIdxIfInBounds k=(a.eraseIdx k).toArray
  rw[gS]
 ·have:=Kq p k
  omega
inductive dW (x:V) (y:V) (H:Hp) (Q:VK):Prop
 | mk (l b xs zs:_):x=.ref l->y=.ref b->H l=some (.lst xs)->H b=some (.lst zs)->xs.length+zs.length<=sizeLine->(∀ p,H p=none->Q (.ref p) (upd H p (.lst (xs++zs))))->dW x y H Q
theorem Lz:GK X (binaryOp .Add) dW:=by
 intro w s σ H x y v u Q I i j h
 obtain⟨l,b,B,A,rfl,rfl,o,m,D,q⟩:=h
 cases i
 cases j
 obtain⟨z,a,n,r,t,e⟩:=I.PB o
 obtain⟨C,c,p,k,g,d⟩:=I.PB m
 refine PySem.P.add_list e d ?_ (by rw[bo,bo];omega)
 have f:a.toArray++c.toArray=(a++c).toArray:=by simp
 rw[f]
 exact⟨.ref _,_,I.Zi (t':=s.toks) (r.append k) (by rw[ah];omega),rfl,q _ I.fresh⟩
section
variable {w:World} {E:vSP}
end
end L2
namespace Att
open PySem PySem.W PySem.Calls PyProof.Rows
theorem JN {P:Params}:∀ (ns:List Int) (vs:List Value),WellAll P h vs (ns.map WData.int)->IntsAre vs ns:=by
 intro ns
 induction ns with
 | nil =>
  intro vs w
  rw[List.map_nil] at w
  cases w
  exact .nil
 | cons n ns c =>
  intro vs w
  rw[cy] at w
  cases w with
  | cons a b =>
   cases a
   exact .cons _ _ (c _ b)
theorem Ss {l:OpenLaw} (v:l.most=some n) {P:Params} {args:List WData} {m:List Value}
  (k:l.row.toRowW.claim.pre args=true) (i:WellAll P h m args) :
  ∃ a vs ns,m=[Value.ref a]/\args=[WData.list (ns.map WData.int)]/\h.get? a=some { cls:=.type "list",data:=.seq vs.toArray }/\IntsAre vs ns/\ns.length<=n:=by
 have g:WShape.hasAll [] args [.list .int]=true:=(pre_splitW k).1
 have j:l.pre.holds [] { args:=args }=true:=(pre_splitW k).2
 obtain⟨d,r,rfl,w,o⟩:=hasAllW_cons g
 obtain rfl:=hasAllW_nil o
 obtain⟨y,rfl,p⟩:=hasW_list w
 obtain⟨ns,rfl⟩:=items_int p
 have b:ns.length<=n:=by
  unfold OpenLaw.pre at j
  have f:(WTm.not (.lt (.lit (.int (n:Int))) (.len (.arg 0)))).holds [] { args:=[.list (ns.map .int)] }=true:=by
   have f:=(holds_andW j).1
   rw[v] at f
   exact f
  have e:=condW_of f (w_not (w_lt w_lit (w_len_list (w_arg rfl))))
  rw[af] at e
  refine Nat.le_of_not_lt λq=>?_
  have t:(n:Int)<((ns.length:Nat):Int):=by omega
  first
   | (rw[decide_eq_true t] at e;exact absurd e (by decide))
   | (simp at e;omega)
 cases i with
 | cons u x =>
  cases x
  cases u with
  | list s c=>exact⟨_,_,ns,rfl,rfl,s,JN ns _ c,b⟩
theorem Rc (l:OpenLaw) (args:List WData):l.row.toRowW.claim.post args (.bool true) args=true :=
 postW_of (r:=l.row.toRowW) (X:=(true == true))
  (show WShape.has [] (.bool true) .bool=true by first | rfl | decide | simp[WShape.has,WShape.arms,WShape.armsAll])
  (show (WTm.eq .res (.lit (.bool true))).value [] { args:=args,res:=some (.bool true),after:=args }=some (.bool (true == true)) from w_eq_bool (w_res rfl) w_lit) rfl
theorem Mq {l:OpenLaw} {q:Program} {v:List Str} {u:(Str->Option Value)->Heap->Prop} {t:World->Heap->Prop} {d:DefRec}
  (E:l.most=some n) (I:d.params.defaults=[])
  (call:∀ (w:World) (m b:Shared) (mg i:Str->Option Value) (c:Addr) (o:Obj) (pm h j:Value) (a:Addr) (vs:List Value) (g:List Int),
   Ground q v [] u w m mg i b.heap->t w b.heap ->
   b.heap.get? c=some o->o.data=.func (docDef d.name d.params d.body d.scope pm h j)->b.heap.CodeRec h d.name->mg d.name=some (.ref c) ->
   b.heap.get? a=some { cls:=.type "list",data:=.seq vs.toArray }->IntsAre vs g->g.length<=n->b.gens = #[] ->
   codeAny (model l.prog w) callerA (.call (.ref c) ⟨[.ref a],[]⟩) (λr s'=>r=.ok (.ret (.bool true))/\OldK b.heap s'.heap/\s'.os=b.os/\AllBare s'.gens) b) :
  WalkO q v u t l.row.toRowW d [] (λf vs=>PySem.call f vs):=by
 intro w m b mg i G Y c o pm h j K kV B A D s L x p R P F S y k Q
 obtain rfl:K=.none:=Dflts.none s I
 obtain rfl:kV=.none:=Dflts.noKw s
 obtain⟨a,vs,g,rfl,rfl,H,N,e⟩:=Ss E F k
 refine enter_call (codeAny_mono (call w m b mg i c o pm h j a vs g G Y B (fd_plain A) D L H N e x) λr s' O=>?_)
 obtain⟨rfl,J,z,M⟩:=O
 exact⟨.inl ⟨.bool true,.bool true,[],rfl,λ_=>rfl,.bool true,Rc l _,λ_=>⟨List.Pairwise.nil,λ_ C=>(nomatch C)⟩⟩,J,z,M⟩
section
variable {w:World} {E:vSP} {K:Frag}
end
end Att
namespace L2
open PySem PySem.Spec PyProof.Rows
theorem Kr:∀ {vs:List Value} {ns:List Int},IntsAre vs ns->Vals (ns.map V.int) vs
 | _,_,.nil=>.nil
 | _,_,.cons n t h=>.cons ⟨t,rfl⟩ (Kr h)
def inClass (s:Stmt) (j:Nat):Stmt:=match s with
 | .ClassDef _ _ _ body _ _ _ _ _ _ _=>body.getD j (.Pass ⟨0,0,0,0⟩)
 | _=>.Pass ⟨0,0,0,0⟩
def Dc (s:Stmt):Arguments:=match s with
 | .FunctionDef _ a _ _ _ _ _ _ _ _=>a
 | _=>{ posonlyargs:=[],args:=[],vararg:=none,kwonlyargs:=[],kw_defaults:=[],kwarg:=none,defaults:=[] }
def CW (s:Stmt):List Stmt:=match s with
 | .FunctionDef _ _ b _ _ _ _ _ _ _=>b
 | _=>[]
def Ae (s:Stmt):Scope:=match s with
 | .FunctionDef _ _ _ _ _ _ sc _ _ _=>sc
 | _=>{ kind:=.function,names:=[],isGenerator:=false,isCoroutine:=false }
abbrev BW:QH:=λ_ _ _ _ _ _=>False
abbrev E0:XK:=λ_ _ _=>False
theorem Ao:Hf BW X E0:=λ_ _ _ _ _ _ _ h=>h.elim
structure Cg (K:W.Frag) (x qual:Str) (st:Stmt) (f:Addr) (fd:FuncData):Prop where
 ex:∃ (oc:Value) (od:Option Addr) (kV iX pm:Value) (an:Option Addr) (d3 ct:Value) (oq:Array (Option Value)),
  fd=W.fnOf x qual (Dc st) (CW st) (Ae st) .none kV iX pm an d3 ct/\K.lookup f=some ⟨oc,od,.func fd,oq⟩/\W.codeIn K d3 qual=true
 kp:W.keepIn K (.ref f)=true
section
variable {w:World} {K:W.Frag}
theorem Cg.ok {N ps:List Str} {k:Nat} {sp:Sp} (F:Cg K x qual st f fd) (S:Av N ps (Ae st)) (len:∀ vs H Q E,sp vs H Q E->vs.length=ps.length)
  (c:∀ (b:Value) (A:Around) (a:List Env) (s:Shared) (H:Hp) (vs:List V) (Q:VK) (E:XK),BK k (A.deeper (envOfC qual (Ae st) s.heap.objs.size f b))->sp vs H Q E ->
   ∃ t,Nv (LQ BW P w K mg base N qual (Ae st) f b A a s H E).ZQ (CW st) t/\t { nx:=λ_ H'=>Q .non H',rt:=Q } (start N vs) H):Ar P w K mg base BW (k+1) f fd ps sp:=by
 obtain⟨l,o,kV,m,pm,p,b,n,j,rfl,i,g⟩:=F.ex
 refine Ys i g S len λA a s H vs Q E e d=>?_
 obtain⟨t,h,q⟩:=c b A a s H vs Q E e d
 exact⟨t,h.ZQ,q⟩
theorem Cg.Dp {N ps:List Str} {k:Nat} {sp:Sp} (F:Cg K x qual st f fd) (S:Av N ps (Ae st))
  (c:∀ {b:Value} {A:Around} {a:List Env} {s:Shared} (H:Hp) (vs:List V) (Q:VK) (E:XK),BK k (A.deeper (envOfC qual (Ae st) s.heap.objs.size f b))->sp vs H Q E ->
   ∃ t,Nv (LQ BW P w K mg base N qual (Ae st) f b A a s H E).ZQ (CW st) t/\t { nx:=λ_ H'=>Q .non H',rt:=Q } (start N vs) H)
  (len:∀ vs H Q E,sp vs H Q E->vs.length=ps.length:=by intro _ _ _ _ h;cases h;subst_vars;rfl):Ar P w K mg base BW (k+1) f fd ps sp:=F.ok S len λ_ _ _ _ H vs Q E=>c H vs Q E
theorem Cg.binds {ps:List Str} (F:Cg K x qual st f fd)
  (h:∀ (kV a pm:Value) (b:Option Addr) (c ct:Value) (us:List Value),us.length=ps.length->bindArgs (W.fnOf x qual (Dc st) (CW st) (Ae st) .none kV a pm b c ct) ⟨us,[]⟩=pure (ps.zip us)):Binds K fd ps []:=by
 obtain⟨e,i,kV,a,pm,b,c,ct,d,rfl,j,g⟩:=F.ex
 exact .all (h kV a pm b c ct)
theorem MP {h:Value} {e b:Option Addr} {g:Array (Option Value)} {kV d pm a ct:Value} (l:K.lookup f=some ⟨h,e,.func (W.fnOf x qual (Dc st) (CW st) (Ae st) .none kV d pm b a ct),g⟩)
  (c:W.codeIn K a qual=true) (k:W.keepIn K (.ref f)=true):Cg K x qual st f (W.fnOf x qual (Dc st) (CW st) (Ae st) .none kV d pm b a ct):=⟨⟨h,e,kV,d,pm,b,a,ct,g,rfl,l,c⟩,k⟩
end
theorem Fz {k:Nat} (a:BK k A):A.units+1<cLine:=bv (Nat.add_le_add_left (by decide:1<=64) _) a.units
theorem Ax (h:n<=1000):n<sizeLine:=bv h (by decide)
theorem pv (i:Nat) (a:X.N[i]? = some x:=by rfl) (d:oW X.env.scope x:=by first | exact Or.inl rfl | exact Or.inr (Or.inl rfl) | exact Or.inr (Or.inr rfl)) (c:(x == ("__debug__" : Str))=false:=by decide)
  (b:(x == ("__classdict__" : Str))=false:=by decide):PE X (.Name x pos) (aG i):=ZS a d c b
theorem Dj {A B:Prop} (h:B):if false=true then A else B:=by
 rw[if_neg eR]
 exact h
theorem Dw {A B:Prop} (h:A):if true=true then A else B:=by
 rw[if_pos rfl]
 exact h
theorem Cr {c A B:Prop} [Decidable c] (a:c->A) (b:¬ c->B):if c then A else B:=by
 by_cases h:c
 ·rw[if_pos h]
  exact a h
 ·rw[if_neg h]
  exact b h
theorem V6 {c A B:Prop} [Decidable c] (a:c) (h:B):if (!decide c)=true then A else B:=by
 rw[decide_eq_true a]
 exact Dj h
def Aj (H H':Hp):Prop:=∀ b o,H b=some o->H' b=some o
theorem Aj.refl (H:Hp):Aj H H:=λ_ _ h=>h
theorem Aj.trans {d:Hp} (a:Aj H H1) (b:Aj H1 d):Aj H d:=λc o h=>b c o (a c o h)
theorem Aj.free (e:Aj H H') (h:H' l=Option.none):H l=Option.none:=by
 cases q:H l with
 | none=>rfl
 | some o =>
  rw[e l o q] at h
  cases h
theorem Aj.seq {K:W.Frag} (e:Aj H H') (h:CV K H a xs):CV K H' a xs:=by
 rcases h with (h | ⟨o,h⟩) | h
 ·exact .inl (.inl (e _ _ h))
 ·exact .inl (.inr ⟨o,e _ _ h⟩)
 ·exact .inr h
section
variable {κ:Type} [DecidableEq κ]
theorem Qv:∀ {l:List κ} {k:κ},l.Nodup->¬ k∈l->(l++[k]).Nodup
 | [],k,_,_=>by simp
 | a::r,k,h,b=>by
  obtain⟨d,c⟩:=fk.mp h
  show (a::(r++[k])).Nodup
  refine fk.mpr ⟨λm=>?_,Qv c λm=>b (cm.mpr (Or.inr m))⟩
  rcases aI.mp m with q | q
  ·exact d q
  ·exact b (cm.mpr (Or.inl (am.mp q).symm))
end
section
variable {w:World} {E:vSP}
theorem Ju {it:Addr} {f:Array Value} {x:Value} (j:s.heap.IsTupleIter it a i) (h:s.heap.IsTuple a f) (g:f[i]? = some x)
  (q:∀ h',h'.IsTupleIter it a (i+1)->Heap.SameBut it s.heap h'->Q x { s with heap:=h' }):wpAny (model prog w) A (Builtin.SmallTypes.nextOf (.ref it)) Q E s:=by
 have b:=j
 obtain⟨o,e,c,d⟩:=j
 obtain⟨m,k,_,n,l⟩:=h
 unfold Builtin.SmallTypes.nextOf
 refine wpAny_bind (wpAny_callSpecial?_slot (name:=Str.ofString "__next__") b.typeIs F.slot_tuple_iterator_next (wpAny_call_entry F.slot_tuple_iterator_next b.typeIs F.entry_tuple_iterator_next ?_ (F.args_tuple_iterator_next_1 _)))
 refine (show wpAny _ _ (field (.ref it) 0 >>= _) _ _ s from wpAny_bind (wpAny_field e d (x:=.ref a) rfl ?_))
 refine (show wpAny _ _ (if (Value.ref a == Value.none)=true then _ else _) _ _ s from ?_)
 rw[if_neg (by exact eR)]
 refine (show wpAny _ _ (field (.ref it) 1 >>= _) _ _ s from wpAny_bind (wpAny_field e d (x:=.int i 0) rfl ?_))
 refine (show wpAny _ _ (seqItems? (.ref a) >>= _) _ _ s from wpAny_bind (wpAny_seqItems k l ?_))
 simp only[Int.toNat_natCast,g]
 exact wpAny_bind (wpAny_setField e d (by simp) (wpAny_pure ⟨x,rfl,wpAny_pure (q _ ⟨_,Heap.get?_update_self _ e (Obj.isFreed_of_fields (Obj.data_mapFields d _)),(Obj.cls_mapFields ..).trans c,by rw[Obj.data_mapFields d];simp[rawInt]⟩ (Heap.SameBut.update ..))⟩))
theorem KY {it:Addr} {g:Array Value} (f:A.handled=none) (j:s.heap.IsTupleIter it a i) (k:s.heap.IsTuple a g) (h:g[i]? = none)
  (q:∀ h' e,Heap.ExtBut it s.heap h'->(∃ o,h'.get? e=some o/\o.cls=.type "StopIteration")->E (.ref e) { s with heap:=h' }):wpAny (model prog w) A (Builtin.SmallTypes.nextOf (.ref it)) Q E s:=by
 have b:=j
 obtain⟨o,e,c,d⟩:=j
 obtain⟨r,l,_,n,p⟩:=k
 unfold Builtin.SmallTypes.nextOf
 refine wpAny_bind (wpAny_callSpecial?_slot (name:=Str.ofString "__next__") b.typeIs F.slot_tuple_iterator_next (wpAny_call_entry F.slot_tuple_iterator_next b.typeIs F.entry_tuple_iterator_next ?_ (F.args_tuple_iterator_next_1 _)))
 refine (show wpAny _ _ (field (.ref it) 0 >>= _) _ _ s from wpAny_bind (wpAny_field e d (x:=.ref a) rfl ?_))
 refine (show wpAny _ _ (if (Value.ref a == Value.none)=true then _ else _) _ _ s from ?_)
 rw[if_neg (by exact eR)]
 refine (show wpAny _ _ (field (.ref it) 1 >>= _) _ _ s from wpAny_bind (wpAny_field e d (x:=.int i 0) rfl ?_))
 refine (show wpAny _ _ (seqItems? (.ref a) >>= _) _ _ s from wpAny_bind (wpAny_seqItems l p ?_))
 simp only[Int.toNat_natCast,h]
 refine wpAny_bind (wpAny_rule (wpAny_bind (wpAny_setField e d (by simp) (show wpAny _ _ (newExc (.type "StopIteration") [] >>= _) _ _ _ from wpAny_bind ?_))))
 simp only[newExc,newTuple]
 refine wpAny_bind (wpAny_newObj_type (wpAny_bind (m:=firstArgMember _ _) (wpAny_of_eq (a:=Value.none) (by first | rfl | (simp only[firstArgMember];rfl)) (wpAny_newObj_type ?_ (by size_fits)))) (by size_fits))
 simp only[raiseNew]
 refine wpAny_bind (wpAny_handled ?_)
 first | rw[show A.in1.handled=none from f] | rw[f]
 exact wpAny_bind (wpAny_pure (wpAny_throw (q _ _ (((Heap.SameBut.update ..).extBut.push _).push _) ⟨_,Heap.get?_push_size _ rfl,rfl⟩)))
theorem RL {z TI TO g f n u:Addr} {k:Nat} {xs ys:Array Value} {x y a b:Value} (D:ZipApart z TI TO g f n u)
  (r:IsZip s.heap z TI TO .none) (hI:IsPair s.heap TI (.ref g) (.ref f)) (hO:IsPair s.heap TO a b)
  (j1:s.heap.IsTupleIter g n k) (T:s.heap.IsTupleIter f u k) (t1:s.heap.IsTuple n xs) (t2:s.heap.IsTuple u ys) (hx:xs[k]? = some x) (W:ys[k]? = some y)
  (q:∀ h',IsZip h' z TI TO (rawInt s.heap.objs.size)->IsPair h' TO x y->h'.IsTupleIter g n (k+1)->h'.IsTupleIter f u (k+1)->IsPair h' s.heap.objs.size x y->h'.objs.size=s.heap.objs.size+1 ->
   (∀ c o,c ≠ z->c ≠ TO->c ≠ g->c ≠ f->s.heap.get? c=some o->h'.get? c=some o)->Q (.ref s.heap.objs.size) { s with heap:=h' }) :
  wpAny (model prog w) A (Builtin.«zip.__next__» ⟨[.ref z],[]⟩) (λfin s'=>∃ v,fin=.done (.ret v)/\Q v s') E s:=by
 refine (show wpAny _ _ (field (.ref z) 2 >>= _) _ _ _ from wpAny_bind (wpAny_field r rfl (x:=.bool false) rfl (show wpAny _ _ (field (.ref z) 3 >>= _) _ _ _ from wpAny_bind (wpAny_field r rfl (x:=.ref TI) rfl (wpAny_bind (wpAny_seqItems hI rfl ?_))))))
 refine (show wpAny _ _ (Builtin.SmallTypes.ownedTupleIsFree (.ref z) >>= _) _ _ _ from wpAny_bind ?_)
 unfold Builtin.SmallTypes.ownedTupleIsFree
 refine wpAny_bind (wpAny_field r rfl (x:=.none) rfl (wpAny_pure ?_))
 simp only[if_true]
 refine wpAny_bind (wpAny_rule (wpAny_bind (wpAny_field r rfl (x:=.ref TO) rfl (wpAny_bind (wpAny_setField_rec r (by simp) λh1 S i=>?_)))))
 have y1:IsZip h1 z TI TO .ellipsis:=S
 refine wpAny_bind ?_
 simp only[List.zipIdx_cons,List.zipIdx_nil,List.forIn_cons,List.forIn_nil]
 refine wpAny_bind (wpAny_bind (wpAny_onRaise (show wpAny _ _ (Builtin.SmallTypes.nextOf (.ref g) >>= _) _ _ _ from wpAny_bind (Ju (j1.at λo e=>i.extBut _ _ D.i1z e) (t1.at λo e=>i.extBut _ _ D.l1z e) hx λh2 n1 j=>wpAny_pure ?_))))
 have J:IsPair h2 TO a b:=j.extBut _ _ D.TOi1 (i.extBut _ _ D.TOz hO)
 refine wpAny_bind (wpAny_seqItems J rfl (wpAny_bind (wpAny_updateSeq_pair J λX p3 l=>?_)))
 have o3:IsPair X TO x b:=p3
 refine wpAny_bind (wpAny_letGo (wpAny_pure ?_))
 refine wpAny_bind (wpAny_bind (wpAny_onRaise (show wpAny _ _ (Builtin.SmallTypes.nextOf (.ref f) >>= _) _ _ _ from wpAny_bind (Ju (T.at λo e=>l.extBut _ _ D.TOi2.symm (j.extBut _ _ D.i12.symm (i.extBut _ _ D.i2z e)))
  (t2.at λo e=>l.extBut _ _ D.l2TO (j.extBut _ _ D.l2i1 (i.extBut _ _ D.l2z e))) W λh4 n2 t=>wpAny_pure ?_))))
 have K:IsPair h4 TO x b:=t.extBut _ _ D.TOi2 o3
 refine wpAny_bind (wpAny_seqItems K rfl (wpAny_bind (wpAny_updateSeq_pair K λd p5 p=>?_)))
 have I:IsPair d TO x y:=p5
 refine wpAny_bind (wpAny_letGo (wpAny_pure (wpAny_pure (wpAny_bind (wpAny_seqItems I rfl (wpAny_bind (wpAny_newTuple ?_)))))))
 have N:d.objs.size=s.heap.objs.size:=by rw[p.1,t.1,l.1,j.1,i.1]
 have M:IsZip d z TI TO .ellipsis:=p.extBut _ _ D.TOz.symm (t.extBut _ _ D.i2z.symm (l.extBut _ _ D.TOz.symm (j.extBut _ _ D.i1z.symm y1)))
 have k5:∀ c o,c ≠ z->c ≠ TO->c ≠ g->c ≠ f->s.heap.get? c=some o->d.get? c=some o:=λc o h B H C e=>p.extBut _ _ B (t.extBut _ _ C (l.extBut _ _ B (j.extBut _ _ H (i.extBut _ _ h e))))
 have m1:d.IsTupleIter g n (k+1):=n1.at λo e=>p.extBut _ _ D.TOi1.symm (t.extBut _ _ D.i12 (l.extBut _ _ D.TOi1.symm e))
 have Y:d.IsTupleIter f u (k+1):=n2.at λo e=>p.extBut _ _ D.TOi2.symm e
 have R:z<d.objs.size:=Heap.lt_size M
 refine (show wpAny _ _ (Builtin.SmallTypes.ownedTupleHandOut (.ref z) (.ref d.objs.size) >>= _) _ _ _ from wpAny_bind ?_)
 unfold Builtin.SmallTypes.ownedTupleHandOut
 have y6:IsZip (d.push { cls:=.type "tuple",data:=.seq #[x,y] }) z TI TO .ellipsis:=Heap.get?_push_of_some _ M
 refine wpAny_bind (wpAny_setField_rec y6 (by simp) λU p7 F=>?_)
 have V:IsZip U z TI TO (rawInt d.objs.size):=p7
 refine wpAny_setField_rec V (by simp) λm Z G=>?_
 have L:IsZip m z TI TO (rawInt d.objs.size):=Z
 have up:∀ c o,c ≠ z->d.get? c=some o->m.get? c=some o:=λc o h e=>G.extBut _ _ h (F.extBut _ _ h (Heap.get?_push_of_some _ e))
 have O:IsPair m d.objs.size x y:=G.extBut _ _ (fh R) (F.extBut _ _ (fh R) (Heap.get?_push_size _ rfl))
 have P:m.objs.size=d.objs.size+1:=by rw[G.1,F.1,Heap.size_push]
 rw[N] at L O P
 refine wpAny_pure ⟨_,rfl,?_⟩
 show Q (.ref d.objs.size) _
 rw[N]
 exact q m L (up _ _ D.TOz I) (m1.at λo e=>up _ o D.i1z e) (Y.at λo e=>up _ o D.i2z e) O P λc o h B H C e=>up c o h (k5 c o h B H C e)
theorem TF {z TI TO f g i N:Addr} {k:Nat} {xs:Array Value} {a b:Value} {Q:Fin->Shared->Prop} (v:A.handled=none) (D:ZipApart z TI TO f g i N)
  (d:IsZip s.heap z TI TO .none) (J:IsPair s.heap TI (.ref f) (.ref g)) (O:IsPair s.heap TO a b)
  (j1:s.heap.IsTupleIter f i k) (M:s.heap.IsTuple i xs) (G:xs[k]? = none)
  (q:∀ h' e,(∀ c o,c ≠ z->c ≠ TO->c ≠ f->c ≠ g->s.heap.get? c=some o->h'.get? c=some o)->(∃ o,h'.get? e=some o/\o.cls=.type "StopIteration")->E (.ref e) { s with heap:=h' }) :
  wpAny (model prog w) A (Builtin.«zip.__next__» ⟨[.ref z],[]⟩) Q E s:=by
 refine (show wpAny _ _ (field (.ref z) 2 >>= _) _ _ _ from wpAny_bind (wpAny_field d rfl (x:=.bool false) rfl (show wpAny _ _ (field (.ref z) 3 >>= _) _ _ _ from wpAny_bind (wpAny_field d rfl (x:=.ref TI) rfl (wpAny_bind (wpAny_seqItems J rfl ?_))))))
 refine (show wpAny _ _ (Builtin.SmallTypes.ownedTupleIsFree (.ref z) >>= _) _ _ _ from wpAny_bind ?_)
 unfold Builtin.SmallTypes.ownedTupleIsFree
 refine wpAny_bind (wpAny_field d rfl (x:=.none) rfl (wpAny_pure ?_))
 simp only[if_true]
 refine wpAny_bind (wpAny_rule (wpAny_bind (wpAny_field d rfl (x:=.ref TO) rfl (wpAny_bind (wpAny_setField_rec d (by simp) λI t j=>?_)))))
 have B:IsZip I z TI TO .ellipsis:=t
 refine wpAny_bind ?_
 simp only[List.zipIdx_cons,List.zipIdx_nil,List.forIn_cons,List.forIn_nil]
 refine wpAny_bind (wpAny_bind (wpAny_onRaise (show wpAny _ _ (Builtin.SmallTypes.nextOf (.ref f) >>= _) _ _ _ from wpAny_bind (KY v (j1.at λo e=>j.extBut _ _ D.i1z e) (M.at λo e=>j.extBut _ _ D.l1z e) G λC x m F=>?_))))
 obtain⟨L,h,p⟩:=F
 have n:IsZip C z TI TO .ellipsis:=m _ _ D.i1z.symm B
 have H:x ≠ z:=λu=>by subst u;rw[n] at h;cases h;simp at p
 exact wpAny_setField_rec n (by simp) λy _ r=>q y x (λc o l _ K _ e=>r.extBut _ _ l (m _ _ K (j.extBut _ _ l e))) ⟨L,r.extBut _ _ H h,p⟩
end
abbrev jt (h:Heap) (a1:Addr):Heap:=h.push { cls:=.type "tuple_iterator",data:=.fields #[.ref a1,.int 0 0] }
abbrev jZ (h:Heap) (a1 a2:Addr):Heap:=(jt h a1).push { cls:=.type "tuple_iterator",data:=.fields #[.ref a2,.int 0 0] }
abbrev jw (h:Heap) (a1 a2:Addr):Heap:=(jZ h a1 a2).push { cls:=.type "tuple",data:=.seq #[.ref h.objs.size,.ref (jt h a1).objs.size] }
abbrev jY (h:Heap) (a1 a2:Addr):Heap:=(jw h a1 a2).push { cls:=.type "tuple",data:=.seq #[.none,.none] }
abbrev Z_ (h:Heap) (a1 a2:Addr):Heap:=(jY h a1 a2).push { cls:=.type "zip",data:=.fields #[.none,.bool false,.bool false,.ref (jZ h a1 a2).objs.size,.ref (jw h a1 a2).objs.size] }
theorem VF (a b:Addr) (xs ys:Array Value):Meets (Builtin.«zip.__new__» ⟨[.type "zip",.ref a,.ref b],[]⟩) (λ_ R s=>s.heap.IsTuple a xs/\s.heap.IsTuple b ys /\
   R (.ok (.ret (.ref (jY s.heap a b).objs.size))) { s with heap:=Z_ s.heap a b }) :=
 .of_wp λf w A R s h=>by
  obtain⟨i,g,d,tk,os⟩:=s
  obtain⟨m,k,h⟩:=h
  have c:=sub_zip
  have l:Heap.IsTuple (Shared.heap ⟨i,g,d,tk,os⟩) a xs:=m
  have j:Heap.IsTuple (Shared.heap ⟨i.push { cls:=.type "tuple_iterator",data:=.fields #[.ref a,.int 0 0] },g,d,tk,os⟩) b ys:=Heap.IsTuple.at k λo e=>Heap.get?_push_of_some _ e
  wp_walk using wpAny_pyIter_tuple l,wpAny_pyIter_tuple j
  exact⟨_,rfl,h⟩
section
variable {w:World} {E:vSP}
theorem RB {a b:Addr} {xs ys:Array Value} (u:s.heap.IsTuple a xs) (p:s.heap.IsTuple b ys)
  (q:∀ h' n,n=s.heap.objs.size->IsZip h' (n+4) (n+2) (n+3) .none->IsPair h' (n+2) (.ref n) (.ref (n+1))->IsPair h' (n+3) .none .none->h'.IsTupleIter n a 0->h'.IsTupleIter (n+1) b 0->h'.objs.size=n+5 ->
   (∀ c o,s.heap.get? c=some o->h'.get? c=some o)->Q (.ref (n+4)) { s with heap:=h' }):wpAny (model prog w) A (call (.type "zip") [.ref a,.ref b]) Q E s:=by
 refine callType_new F.called_zip (by decide) (F.typeCall_zip_2 _ _) (F.newCall_zip_2 _ _) (λf=>F.args_object_init_3 f _ _) F.entry_zip_new (VF a b xs ys) ⟨u,p,?_⟩
 have d:(jt s.heap a).objs.size=s.heap.objs.size+1:=Heap.size_push ..
 have g:(jZ s.heap a b).objs.size=s.heap.objs.size+2:=by rw[Heap.size_push,d]
 have j:(jw s.heap a b).objs.size=s.heap.objs.size+3:=by rw[Heap.size_push,g]
 have h:(jY s.heap a b).objs.size=s.heap.objs.size+4:=by rw[Heap.size_push,j]
 have t:(Z_ s.heap a b).objs.size=s.heap.objs.size+5:=by rw[Heap.size_push,h]
 have i:(Z_ s.heap a b).get? (jY s.heap a b).objs.size=some _:=Heap.get?_push_size _ rfl
 have m:(Z_ s.heap a b).get? (jw s.heap a b).objs.size=some _:=Heap.get?_push_of_some _ (Heap.get?_push_size _ rfl)
 have k:(Z_ s.heap a b).get? (jZ s.heap a b).objs.size=some _:=Heap.get?_push_of_some _ (Heap.get?_push_of_some _ (Heap.get?_push_size _ rfl))
 have l:(Z_ s.heap a b).get? (jt s.heap a).objs.size=some _:=Heap.get?_push_of_some _ (Heap.get?_push_of_some _ (Heap.get?_push_of_some _ (Heap.get?_push_size _ rfl)))
 have r:(Z_ s.heap a b).get? s.heap.objs.size=some _:=Heap.get?_push_of_some _ (Heap.get?_push_of_some _ (Heap.get?_push_of_some _ (Heap.get?_push_of_some _ (Heap.get?_push_size _ rfl))))
 refine (show _/\_ from ?_)
 rw[g,j,h] at i
 rw[d,g] at k
 rw[j] at m
 rw[d] at l
 rw[h]
 exact⟨⟨_,i,rfl⟩,q _ _ rfl i k m ⟨_,r,rfl,rfl⟩ ⟨_,l,rfl,rfl⟩ t λc o e=>Heap.get?_push_of_some _ (Heap.get?_push_of_some _ (Heap.get?_push_of_some _ (Heap.get?_push_of_some _ (Heap.get?_push_of_some _ e))))⟩
end
def Cu (env:Env):List (Str × NameKind)->List (Str × Addr)->List (Str × Addr)
 | [],d6=>d6
 | (n,k)::r,d6=>if k == .free then (match env.cells.lookup n with | some a=>Cu env r ((n,a)::d6) | none=>Cu env r d6) else Cu env r d6
theorem Hg {b:Env} (h:∀ y∈scope.names,y.2=.free->∃ c,b.cells.lookup y.1=some c):closureFor scope b=pure (Cu b scope.names []):=by
 unfold closureFor
 have j:∀ (l:List (Str × NameKind)) (f:List (Str × Addr)),(∀ y∈l,y.2=.free->∃ c,b.cells.lookup y.1=some c) ->
   (forIn l f λ(x:Str × NameKind) (p:List (Str × Addr))=>(match x with | (name,kind)=>if (kind == NameKind.free)=true then (do let a <-cellOf b name;pure (ForInStep.yield ((name,a)::p))) else pure (ForInStep.yield p):Sem (ForInStep (List (Str × Addr)))))=(pure (Cu b l f):Sem _):=by
  intro l
  induction l with
  | nil=>intro f _;rfl
  | cons x r q =>
   intro f o
   obtain⟨n,k⟩:=x
   rw[List.forIn_cons]
   unfold Cu
   by_cases i:(k == NameKind.free)=true
   ·obtain⟨c,s⟩:=o (n,k) List.mem_cons_self (by simpa using i)
    have d:b.cells.lookup n=some c:=s
    have e:cellOf b n=pure c:=by unfold cellOf;rw[d]
    simp only[i,if_true,e,d]
    exact q _ λy g=>o y (ba _ g)
   ·simp only[i]
    exact q _ λy g=>o y (ba _ g)
 have:=j scope.names [] h
 exact (congrArg (λ(m:Sem (List (Str × Addr)))=>m >>= λz=>pure z) this).trans rfl
theorem GJ (b:Env):∀ (l:List (Str × NameKind)) (d6:List (Str × Addr)) (y:Str) (c:Addr),(Cu b l d6).lookup y=some c->d6.lookup y=some c \/ b.cells.lookup y=some c
 | [],_,_,_,h=>.inl h
 | (n,k)::r,d6,y,c,h=>by
  unfold Cu at h
  split at h
  ·split at h
   ·rename_i a d
    rcases GJ b r _ y c h with z | z
    ·rw[fR] at z
     split at z
     ·rename_i e
      cases z
      have f:y=n:=by simpa using e
      subst f
      exact .inr d
     ·exact .inl z
    ·exact .inr z
   ·exact GJ b r _ y c h
  ·exact GJ b r _ y c h
theorem HD (a:Env):∀ (l:List (Str × NameKind)) (d6:List (Str × Addr)) (y:Str),(d6.lookup y).isSome=true->((Cu a l d6).lookup y).isSome=true
 | [],_,_,h=>h
 | (n,k)::r,d6,y,h=>by
  unfold Cu
  split
  ·split
   ·refine HD a r _ y ?_
    rw[fR]
    split
    ·rfl
    ·exact h
   ·exact HD a r _ y h
  ·exact HD a r _ y h
theorem Ed (a:Env):∀ (l:List (Str × NameKind)) (d6:List (Str × Addr)) (y:Str),(y,NameKind.free)∈l->(a.cells.lookup y).isSome=true->((Cu a l d6).lookup y).isSome=true
 | [],_,_,h,_=>nomatch h
 | (n,k)::r,d6,y,h,b=>by
  unfold Cu
  rcases cm.mp h with e | h
  ·obtain⟨d,c⟩:=Prod.mk.inj e
   subst d
   subst c
   rw[if_pos (by decide)]
   split
   ·refine HD a r _ y ?_
    rw[fR]
    simp
   ·rename_i e
    rw[e] at b
    cases b
  ·split
   ·split
    ·exact Ed a r _ y h b
    ·exact Ed a r _ y h b
   ·exact Ed a r _ y h b
def HS (x:Str) (N:List Str):List Str:=N.map λy=>if y=x then "" else y
def Bu (X:Cx) (x:Str) (scope:Scope) (C:Addr) (s₀:Shared) (H₀:Hp) (fp:List Addr):Cx where
 prog:=X.prog
 w:=X.w
 K:=X.K
 mg:=X.mg
 base:=X.base
 A:=X.A
 N:=x::HS x X.N
 s₀:=s₀
 H₀:=H₀
 env:=compEnvC scope (Cu X.env scope.names []) C X.env
 outer:=X.stack
 stack:=X.stack
 ex:=fp
 fn:=λ_=>false
 calm:=X.calm
 pn:=[]
 xe:=λ_ _=>False
theorem Fb (a:Env) (y:Str):∀ names:List (Str × NameKind),
  (names.map λ(n,k)=>if (k == NameKind.free && a.scope.kind == .function && a.kindOf n == some .cell) then (n,NameKind.cell) else (n,k)).lookup y =
   (names.lookup y).map λk=>if (k == NameKind.free && a.scope.kind == .function && a.kindOf y == some .cell) then NameKind.cell else k
 | []=>rfl
 | (n,k)::r=>by
  have b:=Fb a y r
  rw[cy]
  show List.lookup y ((if (k == NameKind.free && a.scope.kind == .function && a.kindOf n == some .cell)=true then (n,NameKind.cell) else (n,k))::_)=_
  have c:(if (k == NameKind.free && a.scope.kind == .function && a.kindOf n == some .cell)=true then (n,NameKind.cell) else (n,k))=(n,if (k == NameKind.free && a.scope.kind == .function && a.kindOf n == some .cell)=true then NameKind.cell else k):=by split <;> rfl
  rw[c,fR,fR]
  cases hx:y == n with
  | true =>
   have e:y=n:=by simpa using hx
   subst e
   rfl
  | false=>exact b
structure Fw (X:Cx) (x:Str) (scope:Scope):Prop where
 kind:scope.kind=.function
 nocell:∀ y∈scope.names,y.2 ≠ .cell
 names:∀ y∈scope.names,y.2=.local->scope.names.lookup y.1=some .local
 loc:scope.names.lookup x=some .local
 free:∀ y∈scope.names,y.2=.free->X.env.kindOf y.1=some .cell \/ X.env.kindOf y.1=some .free
 nd:(x::HS x X.N).Nodup
 only:∀ y∈HS x X.N,scope.names.lookup y ≠ some .local
 noE:scope.names.lookup ("" : Str)=none
theorem Ot {tk:Nat} {m:Str->Option Value} (I:Inv X a0 σ H s) (S:Fw X x scope) (K:∀ b∈fp,GQ X a0 H b) (R:∀ b∈fp,b<s.heap.objs.size) (T:s.heap.objs.size<=C) (hn:h'.Ns C m)
  (N:∀ b o,s.heap.get? b=some o->h'.get? b=some o):Inv (Bu X x scope C s H fp) [] (none::σ) H { s with heap:=h',toks:=tk }:=by
 have D:∀ y c,(Cu X.env scope.names []).lookup y=some c->X.env.cells.lookup y=some c:=λy c e=>by
  rcases GJ X.env scope.names [] y c e with z | z
  ·cases z
  ·exact z
 have t:∀ c v,s.heap.IsCell c v->h'.IsCell c v:=λc v ⟨o,ho,hd⟩=>⟨o,N c o ho,hd⟩
 have look:∀ y,(Bu X x scope C s H fp).env.scope.names.lookup y=(scope.names.lookup y).map λk=>if (k == NameKind.free && X.env.scope.kind == .function && X.env.kindOf y == some .cell) then NameKind.cell else k:=λy=>Fb X.env y scope.names
 refine⟨⟨I.ok.mod,S.kind,I.ok.glob,I.ok.blt,T,λy z c e1 e2=>I.ok.inj y z c (D y c e1) (D z c e2),λy hy=>?_,λy c e _=>(by cases e),λh=>I.ok.hd h,I.ok.frames,.inl rfl,λb B=>?_,I.bs,bi I.ok.bsz I.sz,λb o e B=>?_,λb B L=>?_,I.stack,I.Ld⟩,
  rfl,I.bare,Un.kept N,⟨m,hn,λi y v h1 Z h3=>?_⟩,λy c e=>?_,I.hok.fresh T,λy c e=>I.freeC y c (D y c e),λp hp=>absurd (show p∈([]:List (Addr × Obj)) from hp) (by simp),I.hok.kept N,?_⟩
 ·-- every cell of the block is there
  have n:(Bu X x scope C s H fp).env.scope.names.lookup y=some .cell \/ (Bu X x scope C s H fp).env.scope.names.lookup y=some .free:=hy
  rw[look y] at n
  cases e:scope.names.lookup y with
  | none=>rw[e] at n;rcases n with z | z <;> cases z
  | some k =>
   have w:=PySem.mem_of_lookup e
   have f:k=.free:=by
    rw[e] at n
    cases k with
    | free=>rfl
    | cell=>exact absurd rfl (S.nocell _ w)
    | _=>rcases n with z | z <;> simp at z
   subst f
   obtain⟨c,G⟩:=I.ok.has y (S.free _ w rfl)
   exact eJ.mp (Ed X.env scope.names [] y w (by rw[G];rfl))
 ·obtain⟨f0,P,O,Q,M,W⟩:=K b B
  exact⟨be (ax (R b B) T),λy c e=>M y c (D y c e)⟩
 ·obtain⟨f0,P,O,Q,M,W⟩:=K b B
  rcases Q with z | z
  ·exact I.ok.noex b o e z
  ·exact absurd (ax (Heap.lt_size e) (bi I.ok.bsz z)) (fg _)
 ·obtain⟨f0,P,O,Q,M,W⟩:=K b B
  rcases cm.mp (I.MF b L) with e | e
  ·exact P e
  ·exact O e
 ·cases i with
  | zero =>
   have A:(some none:Option (Option V))=some (some v):=Z
   cases A
  | succ i =>
   have a:(HS x X.N)[i]? = some y:=h1
   have A:σ[i]? = some (some v):=Z
   have F:y∈HS x X.N:=av a
   unfold HS at a
   rw[ar] at a
   cases e0:X.N[i]? with
   | none=>rw[e0] at a;cases a
   | some g =>
    rw[e0] at a
    have j:(if g=x then ("" : Str) else g)=y:=Option.some.inj a
    have d:(Bu X x scope C s H fp).env.scope.names.lookup y=some .local \/ (Bu X x scope C s H fp).env.scope.names.lookup y=some .cell \/ (Bu X x scope C s H fp).env.scope.names.lookup y=some .free:=h3
    rw[look y] at d
    have U:g=y:=by
     by_cases q:g=x
     ·rw[if_pos q] at j
      rw[<-j,S.noE] at d
      rcases d with z | z | z <;> cases z
     ·rw[if_neg q] at j
      exact j
    subst U
    cases e:scope.names.lookup g with
    | none=>rw[e] at d;rcases d with z | z | z <;> cases z
    | some k =>
     have w:=PySem.mem_of_lookup e
     have f:k=.free:=by
      rw[e] at d
      cases k with
      | free=>rfl
      | cell=>exact absurd rfl (S.nocell _ w)
      | «local»=>exact absurd e (S.only g F)
      | _=>rcases d with z | z | z <;> simp at z
     subst f
     have Y:=S.free _ w rfl
     obtain⟨m0,wW,sk⟩:=I.loc
     obtain⟨u,r,l⟩:=sk i g v e0 A (by rcases Y with z | z;exact .inr (.inl z);exact .inr (.inr z))
     refine⟨u,r,.inr ⟨?_,?_⟩⟩
     ·have J:(Bu X x scope C s H fp).env.scope.names.lookup g=some (if (NameKind.free == NameKind.free && X.env.scope.kind == .function && X.env.kindOf g == some .cell) then NameKind.cell else NameKind.free):=by
       rw[look g,e];rfl
      by_cases c:(NameKind.free == NameKind.free && X.env.scope.kind == .function && X.env.kindOf g == some .cell)=true
      ·rw[if_pos c] at J;exact .inl J
      ·rw[if_neg c] at J;exact .inr J
     ·rcases l with⟨lk,_⟩ | ⟨_,c,G,i7⟩
      ·exfalso
       rcases Y with z | z <;> (rw[show X.env.kindOf g=some NameKind.local from lk] at z;cases z)
      ·obtain⟨c',E⟩:=eJ.mp (Ed X.env scope.names [] g w (by rw[G];rfl))
       have:=D g c' E
       rw[G] at this
       cases this
       exact⟨c,E,t c _ i7⟩
 ·obtain⟨v,z⟩:=I.cell y c (D y c e)
  exact⟨v,t c v z⟩
 ·show (none::σ).length=(x::HS x X.N).length
  simp[HS,I.len]
def Nf (X:Cx) (jv:List Expr) (t:TT):Prop :=
 ∀ (a0:List (Addr × Obj)) (s:Shared) (σ:St) (H:Hp) (Q:Bool->Hp->Prop),Inv X a0 σ H s->t σ H Q ->
  wpAny (model X.prog X.w) X.A (forIn jv true λc r=>if r=true then do let ok <-isTrue c X.env (eval c X.env);pure (ForInStep.yield ok) else pure (ForInStep.yield r)) (TP X a0 σ Q) X.xe s
def Xf:TT:=λ_ H Q=>Q true H
theorem By:Nf X [] Xf:=λ_ _ _ H _ I h=>wpAny_tests_nil ⟨H,I,h⟩
theorem FQ {c:Expr} {t:TT} (h:PT X c t):Nf X [c] t:=λa s σ H Q I q=>wpAny_tests_one (h a s σ H Q I q)
def D_ (J:It) (σ:St) (H1:Hp) (Q:VK) (tt:TT) (te:TE):Prop:=∀ D,H1 D=none->∃ W:Nat->Nat->List V->Hp->Prop,(∃ m,W 0 m [] (upd H1 D (.lst [])))/\∀ i m ys H2,W i m ys H2 ->
 (J.stop i H2/\Q (.ref D) H2) \/ (J.go i H2/\∀ x H3,J.yld i H2 x H3->tt (some x::σ) H3 λb H4 =>
  if b=true then te (some x::σ) H4 λy H5=>H5 D=some (.lst ys)/\ys.length<sizeLine/\∃ m',m'<m/\W (i+1) m' (ys++[y]) (upd H5 D (.lst (ys++[y])))
  else ∃ m',m'<m/\W (i+1) m' ys H4)
def Y5 (wi:TI) (tt:TT) (te:TE):TE:=λσ H Q=>wi σ H λJ H1=>D_ J σ H1 Q tt te
theorem PX {α:Type} {t:Sem α} {Q b:α->Shared->Prop} {M:Model} {E:vSP} (h:wpAny M A t Q (λ_ _=>False) s) (c:∀ a s,Q a s->b a s):wpAny M A t b E s:=wpAny_mono h c λ_ _ x=>x.elim
theorem Inv.sameBut (I:Inv X a0 σ H s) (f:GQ X a0 H C) (c:Heap.SameBut C s.heap h'):Inv X a0 σ H { s with heap:=h' } :=
 I.turned (t':=s.toks) (λb o a e=>(c.2 b a).trans e) f.1 f.2.1 f.2.2.2.1 f.2.2.2.2.1 f.2.2.2.2.2
theorem J0 {Y:Pos} {ka:Expr} {jv:List Expr} {c:Shared} {f:Hp} {it:Addr} {O:Nat->Heap->Prop} {J:It} {E:vSP}
  {RR:Value->Addr->Result->Shared->Prop} {Q:VK}
  (hc:X.calm=true) (S:Fw X x scope) (ht:∀ C s₀ H₀ fp,Nf (Bu X x scope C s₀ H₀ fp) jv tt) (he:∀ C s₀ H₀ fp,PE (Bu X x scope C s₀ H₀ fp) ka te)
  (I2:Inv X a0 σ f c) (T:Turn X.prog X.w X.K (.Name x Y) J fp it O) (pd:O 0 c.heap) (f2:∀ b∈fp,GQ X a0 f b)
  (q:∀ D,f D=none->∃ W:Nat->Nat->List V->Hp->Prop,(∃ m,W 0 m [] (upd f D (.lst [])))/\∀ i m ys f,W i m ys f ->
   (J.stop i f/\Q (.ref D) f) \/ (J.go i f/\∀ x H3,J.yld i f x H3->tt (some x::σ) H3 λb H4 =>
    if b=true then te (some x::σ) H4 λy H5=>H5 D=some (.lst ys)/\ys.length<sizeLine/\∃ m',m'<m/\W (i+1) m' (ys++[y]) (upd H5 D (.lst (ys++[y])))
    else ∃ m',m'<m/\W (i+1) m' ys H4))
  (CU:∀ D C s' H' m,s'.heap.Ns C m->GQ X a0 H' C->Inv X a0 σ H' s'->Q (.ref D) H'->RR (.ref D) C (.ok .next) s') :
  wpAny (model X.prog X.w) X.A (newList []) (λd6 s₃=>wpAny (model X.prog X.w) X.A (newFunctionEnv scope X.env.globals (Cu X.env scope.names []) [] X.env.qual none .none (some X.env)) (λrm s₄ =>
   codeAny (model X.prog X.w) X.A (.compStart (.ListComp ka [⟨.Name x Y,iter,jv,0⟩] scope pos) 0 (.ref it) d6 { rm with scope:=relabel scope X.env }) (RR d6 rm.locals) s₄) E s₃) E c:=by
 refine wpAny_newObj_type (wpAny_newFunctionEnv S.nocell (by intro y hy;simp at hy) (λz ug vn=>?_) S.kind)
 have I3:=I2.Zi (its:=[]) (ys:=[]) (t':=c.toks) .nil (ee _)
 have ac:f c.heap.objs.size=none:=I2.fresh
 obtain⟨W,⟨m0,w0⟩,md⟩:=q _ ac
 generalize H:({ c with heap:=c.heap.push { cls:=.type "list",data:=.seq ([]:List Value).toArray },toks:=c.toks }:Shared)=a at I3
 have P:a.heap=c.heap.push { cls:=.type "list",data:=.seq ([]:List Value).toArray }:=by rw[<-H]
 have K:∀ b∈fp,b<c.heap.objs.size:=λb g=>let ⟨_,e,_⟩:=T.obj _ _ pd b g;Heap.lt_size e
 have L:∀ b∈fp,b<a.heap.objs.size:=λb g=>by rw[P,Heap.size_push];exact fI (K b g)
 have f3:∀ b∈fp,GQ X a0 (upd f c.heap.objs.size (.lst [])) b:=λb g=>⟨by rw[Aw (be (K b g))];exact (f2 b g).1,(f2 b g).2⟩
 have B:∀ b o,a.heap.get? b=some o->z.get? b=some o:=λb o e=>by
  have N:b ≠ a.heap.objs.size:=be (Heap.lt_size e)
  rw[P] at e N
  exact vn.extBut b o N (Heap.get?_push_of_some _ e)
 have hC:a.heap.objs.size=(c.heap.push { cls:=.type "list",data:=.seq ([]:List Value).toArray }).objs.size:=by rw[P]
 have ab:z.Ns a.heap.objs.size (λx=>([]:List (Str × Value)).reverse.lookup x):=by rw[hC];exact ug
 have M:O 0 z:=T.keep _ _ _ pd λb g o e=>B b o (by rw[P];exact Heap.get?_push_of_some _ e)
 have an:c.heap.objs.size ≠ a.heap.objs.size:=by rw[P,Heap.size_push];exact be (fN _)
 have start:∀ tk,Inv (Bu X x scope a.heap.objs.size a (upd f c.heap.objs.size (.lst [])) fp) [] (none::σ) (upd f c.heap.objs.size (.lst [])) { a with heap:=z,toks:=tk }:=λtk =>
  Ot I3 S f3 L (ai _) ab B
 generalize w:Bu X x scope a.heap.objs.size a (upd f c.heap.objs.size (.lst [])) fp=I at start
 have eA:I.A=X.A:=by rw[<-w];rfl
 have eP:I.prog=X.prog:=by rw[<-w];rfl
 have eW:I.w=X.w:=by rw[<-w];rfl
 have eK:I.K=X.K:=by rw[<-w];rfl
 have eC:I.env.locals=a.heap.objs.size:=by rw[<-w];rfl
 have j:∀ tk,codeAny (model X.prog X.w) X.A (.compLoop (.ListComp ka [⟨.Name x Y,iter,jv,0⟩] scope pos) 0 (.ref it) (.ref c.heap.objs.size) (compEnvC scope (Cu X.env scope.names []) a.heap.objs.size X.env))
   (RR (.ref c.heap.objs.size) a.heap.objs.size) { a with heap:=z,toks:=tk }:=by
  intro tk
  subst w
  refine codeAny_compLoop_tests (λn s'=>∃ i ys v H',Inv (Bu X x scope a.heap.objs.size a (upd f c.heap.objs.size (.lst [])) fp) [] (v::σ) H' s'/\O i s'.heap/\(∀ b∈fp,H' b=none)/\W i n ys H') ?_ m0
   ⟨0,[],none,_,start tk,M,λb g=>(f3 b g).1,w0⟩
  rintro n s4 ⟨i,ys,v,H4,F,xt,xp,w4⟩
  have h:∀ {H':Hp},(∀ b∈fp,H' b=none)->∀ b∈fp,GQ (Bu X x scope a.heap.objs.size a (upd f c.heap.objs.size (.lst [])) fp) [] H' b:=λhn b g=>by
   refine⟨hn b g,(F.ok.exf b g).1,F.ok.exfs b g,.inl g,(F.ok.exf b g).2,λp hp=>absurd (show p∈([]:List (Addr × Obj)) from hp) (by simp)⟩
  rcases md i n ys H4 w4 with⟨stop,qn⟩ | ⟨go,step⟩
  ·refine Bt (T.done (Bu X x scope a.heap.objs.size a (upd f c.heap.objs.size (.lst [])) fp) rfl rfl rfl hc i [] s4 (v::σ) H4 _ F (h xp) xt stop) λr Z ⟨hr,A⟩=>?_
   subst hr
   obtain⟨m,hn,_⟩:=A.loc
   refine CU _ _ Z H4 m hn (I3.MK (ai _) A.free) (I3.call' (s':=Z) (ch:=fp) A.os A.base A.hok A.bare (λb g=>?_)) qn
   obtain⟨_,g1,_,g3,g4,g5⟩:=f3 b g
   exact⟨g3,g1,g4,g5⟩
  ·refine Bt (T.item (Bu X x scope a.heap.objs.size a (upd f c.heap.objs.size (.lst [])) fp) rfl rfl rfl hc i [] s4 (v::σ) H4 _ F (h xp) xt go) λr Z ⟨u,hr,h5⟩=>?_
   subst hr
   intro Γ p hΓ
   obtain⟨t,H6,I6,r6,y6,tI,C6⟩:=h5 Γ p hΓ
   refine (?_:wpAny _ _ _ _ _ _) Γ p hΓ
   have C0:=I6.pinned (h C6) (T.obj _ _ tI)
   have k:(Bu X x scope a.heap.objs.size a (upd f c.heap.objs.size (.lst [])) fp).env.scope.names.lookup x=some .local:=lookup_relabel_local S.loc
   have again:∀ {s:Shared} {U:Hp} {sF:List V},Inv (Bu X x scope a.heap.objs.size a (upd f c.heap.objs.size (.lst [])) fp) ([]++I_ fp Z.heap) (some t::σ) U s->(∃ m',m'<n/\W (i+1) m' sF U) ->
     ∃ m,m<n/\∃ i ys v H',Inv (Bu X x scope a.heap.objs.size a (upd f c.heap.objs.size (.lst [])) fp) [] (v::σ) H' s/\O i s.heap/\(∀ b∈fp,H' b=none)/\W i m ys H':=λ{s U sF} G hw=>by
    obtain⟨m',hm,w7⟩:=hw
    refine⟨m',hm,i+1,sF,some t,U,G.G6,T.keep _ _ _ tI λb g o e=>(G.pin (b,o) (bp _ (bp _ (EY g e)))).1,λb g=>?_,w7⟩
    obtain⟨o,e,d⟩:=T.obj _ _ tI b g
    exact (G.pin (b,o) (bp _ (bp _ (EY g e)))).2.1
   refine wpAny_assign_Name (Js (X:=Bu X x scope a.heap.objs.size a (upd f c.heap.objs.size (.lst [])) fp) (i:=0) C0 S.nd rfl (.inl k) r6 (λs G=>?_) (.inr k))
   refine PX (ht _ _ _ _ _ s (some t::σ) H6 _ G (step t H6 y6)) λb s8 l=>?_
   obtain⟨H8,I8,q8⟩:=l
   cases b with
   | false =>
    rw[if_neg eR] at q8 |-
    exact again I8 q8
   | true =>
    rw[if_pos rfl] at q8 |-
    refine PX (he _ _ _ _ _ s8 (some t::σ) H8 _ I8 q8) λy s9 l=>?_
    obtain⟨yv,H9,I9,r9,zR,zO,q9⟩:=l
    refine PX (Br (X:=Bu X x scope a.heap.objs.size a (upd f c.heap.objs.size (.lst [])) fp) _ s9 (some t::σ) H9 (.ref c.heap.objs.size) [yv] (.ref c.heap.objs.size) [y] (λ_ H'=>H'=upd H9 c.heap.objs.size (.lst (ys++[yv]))) I9 rfl (.cons r9 .nil)
     ⟨_,ys,yv,rfl,rfl,zR,zO,rfl⟩) λ_ ap ⟨_,qA,B2,_,A8⟩=>?_
    subst A8
    exact again B2 q9
 have al:=λtk=>codeAny_compStart_list (R:=RR (.ref c.heap.objs.size) a.heap.objs.size) (j tk) (T.self X.A 0 { a with heap:=z,toks:=tk } (λBC s'=>codeAny (model X.prog X.w) X.A (.compLoop (.ListComp ka [⟨.Name x Y,iter,jv,0⟩] scope pos) 0 BC (.ref c.heap.objs.size) (compEnvC scope (Cu X.env scope.names []) a.heap.objs.size X.env)) (RR (.ref c.heap.objs.size) a.heap.objs.size) s') _ M (j tk))
 subst H
 exact al _
theorem Bj {b:Pos} {c:Expr} {d:List Expr} {wi:TI} (g:X.calm=true) (S:Fw X x scope) (B:PI X (.Name x b) iter wi)
  (t:∀ C s₀ H₀ fp,Nf (Bu X x scope C s₀ H₀ fp) d tt) (w:∀ C s₀ H₀ fp,PE (Bu X x scope C s₀ H₀ fp) c te) (z:∀ x,foldedSetIterable iter X.env x=pure x:=by intro _;rfl) :
  PE X (.ListComp c [⟨.Name x b,iter,d,0⟩] scope pos) (Y5 wi tt te):=by
 intro a s σ H Q I h
 rw[eval_ListComp]
 refine wpAny_comprehension_free (use:=none) (cl:=Cu X.env scope.names []) rfl z (Hg λy i l=>I.ok.has y.1 (S.free y i l)) S.kind S.names (Bt (B a s σ H _ I h) λv O A=>Bt A λP K p=>?_)
 obtain⟨it,fp,R,J,M,e,n,T,r,o,q⟩:=p
 subst e
 refine J0 (RR:=λE C=>compPost (model X.prog X.w) X.A X.xe none (EP X a σ Q) E C) (Q:=Q) g S t w n T r o q ?_
 intro D C L f m k j F G
 exact⟨m,k,λN u=>⟨.ref D,f,F.sameBut j u,rfl,G⟩⟩
theorem HB {y:Str} {f b t:Pos} {g:Expr} {j:List Expr} {wi:TI} (hN:X.N.Nodup) (o:X.N[i]? = some y) (d:X.env.scope.names.lookup y=some .local) (w:X.calm=true) (S:Fw X x scope) (Z:PI X (.Name x f) iter wi)
  (P:∀ C s₀ H₀ fp,Nf (Bu X x scope C s₀ H₀ fp) j tt) (V:∀ C s₀ H₀ fp,PE (Bu X x scope C s₀ H₀ fp) g te) (B:swapsWith (.ListComp g [⟨.Name x f,iter,j,0⟩] scope pos) (some (.Name y b)) t.line X.env=pure true:=by rfl) (W:∀ x,foldedSetIterable iter X.env x=pure x:=by intro _;rfl) :
  PS X (.Assign [.Name y b] (.ListComp g [⟨.Name x f,iter,j,0⟩] scope pos) t) (aX (Y5 wi tt te) (Et i)):=by
 intro k s σ H p I h
 rw[exec_Assign_Name_used _ _ _ _ B]
 refine wpAny_bind (wpAny_standAt (wpAny_bind ?_))
 show wpAny _ X.A (do let _ <-comprehension (.ListComp g [⟨.Name x f,iter,j,0⟩] scope pos) scope X.env _ (newList []) false (eval iter X.env) (some (assign (.Name y b) X.env))) _ _ s
 refine wpAny_bind (wpAny_mono (wpAny_comprehension_free (use:=some (assign (.Name y b) X.env)) (cl:=Cu X.env scope.names []) (Q:=λ_ c=>SP X k p .next c) rfl W (Hg λy d K=>I.ok.has y.1 (S.free y d K)) S.kind S.names
  (Bt (Z k s σ H _ I h) λv s1 Y=>Bt Y λvM s2 N=>?_)) (λ_ c r=>wpAny_pure (wpAny_pure r)) λ_ _ e=>e)
 obtain⟨it,fp,tn,J,H2,e,L,T,O,M,q⟩:=N
 subst e
 refine J0 (RR:=λd6 C=>compPost (model X.prog X.w) X.A X.xe (some (assign (.Name y b) X.env)) (λ_ c=>SP X k p .next c) d6 C) (Q:=λx F=>Et i x σ F p.nx) w S P V L T O M q ?_
 intro D C c u m G l hI r
 show wpAny _ X.A (assign (.Name y b) X.env (.ref D)) _ _ _
 refine wpAny_assign_Name (Kl hI hN o (.inl d) (v:=.ref D) rfl (λs6 A U=>?_) (.inr d))
 obtain⟨a,R,ha⟩:=U
 have n:C ≠ a:=by
  rcases ha with z | z
  ·rw[z];exact l.2.1
  ·exact Ne.symm (l.2.2.2.2.1 y a z)
 exact⟨m,G.sameBut R n,λh' E=>⟨_,u,A.sameBut l E,r⟩⟩
section
variable {Q:VK}
theorem G9 {J:It} (p:V->Bool) (f:V->V) (v:xs.length<sizeLine)
  (u:∀ i H x,Aj H1 H->xs[i]? = some x->J.go i H) (t:∀ i H y H',Aj H1 H->i<xs.length->J.yld i H y H'->H'=H/\xs[i]? = some y) (z:∀ H,Aj H1 H->J.stop xs.length H)
  (B:∀ x∈xs,∀ H,Aj H1 H->∀ R:Bool->Hp->Prop,(∀ H',Aj H H'->R (p x) H')->tt (some x::σ) H R)
  (G:∀ x∈xs,p x=true->∀ H,Aj H1 H->∀ R:VK,(∀ H',Aj H H'->R (f x) H')->te (some x::σ) H R)
  (A:∀ D H,H1 D=none->Aj H1 H->H D=some (.lst ((xs.filter p).map f))->Q (.ref D) H):D_ J σ H1 Q tt te:=by
 intro D n
 have F:Aj H1 (upd H1 D (.lst [])):=λb o e=>by rw[Aw (An e n)];exact e
 refine⟨λi m q H=>m=xs.length - i/\i<=xs.length/\q=((xs.take i).filter p).map f/\H D=some (.lst q)/\Aj H1 H,⟨xs.length,by simp,Nat.zero_le _,by simp,Al,F⟩,?_⟩
 rintro i m q H ⟨rfl,K,rfl,l,c⟩
 by_cases a:i<xs.length
 ·obtain⟨x,h⟩:∃ x,xs[i]? = some x:=⟨xs[i],by simp[a]⟩
  refine .inr ⟨u i H x c h,λy w C=>?_⟩
  obtain⟨rfl,d⟩:=t i H y w c a C
  rw[h] at d
  cases d
  have s:x∈xs:=av h
  have g:(((xs.take i).filter p).map f).length<sizeLine:=by
   rw[af]
   refine bv (ck _ _) (bv ?_ v)
   rw[df];omega
  refine B x s _ c _ λE k=>?_
  by_cases j:p x=true
  ·rw[if_pos j]
   refine G x s j E (c.trans k) _ λI r=>?_
   refine⟨r _ _ (k _ _ l),g,xs.length - (i+1),by omega,rfl,a,?_,Al,λb o e=>?_⟩
   ·rw[take_succ_filter p xs i x h,if_pos j,db];rfl
   ·rw[Aw (An e n)];exact r _ _ (k _ _ (c _ _ e))
  ·rw[if_neg j]
   refine⟨xs.length - (i+1),by omega,rfl,a,?_,k _ _ l,c.trans k⟩
   rw[take_succ_filter p xs i x h,if_neg j,gz]
 ·have e:i=xs.length:=by omega
  subst e
  rw[eD] at l
  exact .inl ⟨z H c,A D H n c l⟩
theorem Ol {lo:Int} (p:Int->Bool) (f:Int->V) (s:n<sizeLine)
  (k:∀ i:Nat,i<n->∀ H,Aj H1 H->∀ R:Bool->Hp->Prop,(∀ H',Aj H H'->R (p (lo+i)) H')->tt (some (.int (lo+i))::σ) H R)
  (o:∀ i:Nat,i<n->p (lo+i)=true->∀ H,Aj H1 H->∀ R:VK,(∀ H',Aj H H'->R (f (lo+i)) H')->te (some (.int (lo+i))::σ) H R)
  (e:∀ D H,H1 D=none->Aj H1 H->H D=some (.lst ((((List.range n).map λ(i:Nat)=>lo+(i:Int)).filter p).map f))->Q (.ref D) H):D_ (YB lo n) σ H1 Q tt te:=by
 let g:V->Int:=λv=>match v with | .int i=>i | _=>0
 have c:∀ i:Nat,i<n->((List.range n).map λ(i:Nat)=>V.int (lo+(i:Int)))[i]? = some (.int (lo+i)):=λi a=>by simp[a]
 refine G9 (xs:=(List.range n).map λ(i:Nat)=>V.int (lo+(i:Int))) (λv=>p (g v)) (λv=>f (g v)) (by simpa using s) (λi H x _ b=>?_) (λi H y H' _ a l=>?_) (λH _=>?_) (λx b=>?_) (λx b=>?_) (λD H r h m=>?_)
 ·have:i<((List.range n).map λ(i:Nat)=>V.int (lo+(i:Int))).length:=(ag.mp b).1
  show i<n
  simpa using this
 ·have d:i<n:=by simpa using a
  obtain⟨q,j⟩:=l
  subst j
  exact⟨q,c i d⟩
 ·show n<=_
  simp
 ·obtain⟨i,a,rfl⟩:=ay.mp b
  exact k i (dt.mp a)
 ·obtain⟨i,a,rfl⟩:=ay.mp b
  exact o i (dt.mp a)
 ·refine e D H r h ?_
  rw[m,eT,aT,eT,aT]
  rfl
def jx (z:Str):It:=⟨λi _=>i<z.cps.size,λi H x H'=>H'=H/\∃ c,z.cps[i]? = some c/\x=.str ⟨#[c]⟩,λi _=>z.cps.size<=i⟩
theorem UJ {w:World} {K:W.Frag} {z:Str} {t0:Tok} {it:Addr} {l:String} (C:l = "str_ascii_iterator" \/ l = "str_iterator"):Turn P w K tg (jx z) [it] it (λi h=>h.IsStrIter it l z t0 i) where
 mem:=by simp
 obj:=λi h st b a=>by
  have e:b=it:=by simpa using a
  subst e
  obtain⟨o,N,m,U⟩:=st
  exact⟨o,N,λv q=>by rw[U] at q;cases q⟩
 keep:=λi h f st k=>let ⟨o,N,r⟩:=st;⟨o,k it (by simp) o N,r⟩
 item:=by
  intro X O J M m i L s σ H E I n st G
  subst O J M
  obtain⟨D,y,V,B,p,t⟩:=n it (by simp)
  have g:i<z.cps.size:=G
  have j:z.cps[i]? = some z.cps[i]:=Array.getElem?_eq_getElem g
  have fin:∀ f,f.IsStrIter it l z t0 (i+1)->Heap.SameBut it s.heap f->∃ u,some (Value.str ⟨#[z.cps[i]]⟩ s.toks)=some u /\
    wpAny (model X.prog X.w) X.A (letOwnedTupleGo tg (.ref it) u) (λ_ T=>∃ x F,Inv X L σ F T/\RelV x u/\(jx z).yld i H x F/\T.heap.IsStrIter it l z t0 (i+1)/\∀ b∈[it],F b=none) E { s with heap:=f,toks:=s.toks+1 }:=λf S Z=>by
   have Y:Inv X L σ H { s with heap:=f,toks:=s.toks+1 }:=I.turned (λb o a e=>(Z.2 b a).trans e) D y B p t
   obtain⟨o,e,c,d⟩:=id S
   refine⟨_,rfl,Mp (s:={ s with heap:=f,toks:=s.toks+1 }) e c d (by rcases C with rfl | rfl <;> decide) ⟨.str ⟨#[z.cps[i]]⟩,H,Y,⟨_,rfl⟩,⟨rfl,_,j,rfl⟩,S,λb a=>(n b a).1⟩⟩
  rcases C with rfl | rfl
  ·exact wpAny_pyNext_ascii_item st j fin
  ·exact wpAny_pyNext_wide_item st j fin
 done:=by
  intro X O J M m i L s σ H E I n st G
  subst O J M
  obtain⟨D,y,V,B,p,t⟩:=n it (by simp)
  have j:z.cps[i]? = none:=by
   have g:z.cps.size<=i:=G
   simpa using g
  rcases C with rfl | rfl
  ·exact wpAny_pyNext_ascii_end (I.ok.hd m) st j λf R=>⟨rfl,I.turned (t':=s.toks) (λb o a e=>R b o a e) D y B p t⟩
  ·exact wpAny_pyNext_wide_end (I.ok.hd m) st j λf R=>⟨rfl,I.turned (t':=s.toks) (λb o a e=>R b o a e) D y B p t⟩
 self:=λA i s Q E st h=>by
  rcases C with rfl | rfl
  ·exact wpAny_pyIter_striter_ascii st h
  ·exact wpAny_pyIter_striter_wide st h
end
inductive Y6 (R:It->Hp->Prop) (x:V) (H1:Hp):Prop
 | mk (z:_):x=.str z->R (jx z) H1->Y6 R x H1
def lM (tl:TE):TI:=λσ H R=>tl σ H λx H1=>Y6 R x H1
theorem a_ {l:Expr} {tl:TE} (i:PE X l tl):PI X tg l (lM tl):=by
 intro g s σ H R I h
 refine Bt (i g s σ H _ I h) λv a d=>?_
 obtain⟨x,n,f,p,m⟩:=d
 obtain⟨z,e,q⟩:=m
 subst e
 obtain⟨t,rfl⟩:=p
 have fin:∀ c,(c = "str_ascii_iterator" \/ c = "str_iterator")->PIE X g σ tg R (.ref a.heap.objs.size) { a with heap:=a.heap.push { cls:=.type c,data:=.fields #[.str z t,.int 0 0] } }:=λc j=>by
  refine⟨a.heap.objs.size,[a.heap.objs.size],_,_,n,rfl,f.kept (t':=a.toks) λb o e=>Heap.get?_push_of_some _ e,UJ (z:=z) (t0:=t) j,⟨_,Heap.get?_push_size _ rfl,rfl,rfl⟩,λb k=>?_,q⟩
  have e:b=a.heap.objs.size:=by simpa using k
  subst e
  exact f.MK (ai _) (f.hok.fresh (ai _))
 cases ha:z.cps.all (· < 128)
 ·exact wpAny_pyIter_wide ha (fin _ (.inr rfl))
 ·exact wpAny_pyIter_ascii ha (fin _ (.inl rfl))
section
variable {Q:VK}
def sgn (c:Nat):V:=.str ⟨#[c]⟩
theorem WP {z:Str} (p:Nat->Bool) (f:Nat->V) (o:z.length<sizeLine)
  (h:∀ c∈z.cps.toList,∀ H,Aj H1 H->∀ R:Bool->Hp->Prop,(∀ H',Aj H H'->R (p c) H')->tt (some (sgn c)::σ) H R)
  (l:∀ c∈z.cps.toList,p c=true->∀ H,Aj H1 H->∀ R:VK,(∀ H',Aj H H'->R (f c) H')->te (some (sgn c)::σ) H R)
  (d:∀ D H,H1 D=none->Aj H1 H->H D=some (.lst ((z.cps.toList.filter p).map f))->Q (.ref D) H):D_ (jx z) σ H1 Q tt te:=by
 let g:V->Nat:=λv=>match v with | .str y=>y.cps.getD 0 0 | _=>0
 refine G9 (xs:=z.cps.toList.map sgn) (λv=>p (g v)) (λv=>f (g v)) (by simpa [Str.length] using o) (λi H x _ a=>?_) (λi H y H' _ q j=>?_) (λH _=>?_) (λx a=>?_) (λx a=>?_) (λD H n e k=>?_)
 ·have:i<(z.cps.toList.map sgn).length:=(ag.mp a).1
  show i<z.cps.size
  simpa using this
 ·obtain⟨m,c,b,rfl⟩:=j
  refine⟨m,?_⟩
  rw[ar,Array.getElem?_toList,b];rfl
 ·show z.cps.size<=_
  simp
 ·obtain⟨c,b,rfl⟩:=ay.mp a
  exact h c b
 ·obtain⟨c,b,rfl⟩:=ay.mp a
  exact l c b
 ·refine d D H n e ?_
  rw[k,eT,aT]
  rfl
end
theorem range_all (bs:List Bool):((List.range bs.length).all λi=>(bs[i]?).getD true)=bs.all id:=by
 rw[cw,fb,fb]
 constructor
 ·intro h b d
  obtain⟨i,c,e⟩:=fq.mp d
  have:=h i (dt.mpr c)
  rw[ae c,e] at this
  exact this
 ·intro h i c
  have a:=dt.mp c
  rw[ae a]
  exact h _ (zdl a)
theorem G8 (w:X.calm=true):Ep X (.builtin "all") (λxs H Q=>∃ (p:Addr) (bs:List Bool),xs=[V.ref p]/\CV X.K H p (bs.map V.bl)/\Q (.bl (bs.all id)) H):=by
 intro F s σ H xs E Q I r h
 obtain⟨p,bs,rfl,z,q⟩:=h
 obtain⟨u,rfl,f⟩:=vals1 r
 cases f
 obtain⟨a,n,d,K⟩:=I.list z
 have c:bs.length=a.length:=by have:=n.length;rw[af] at this;exact this
 have j:p<s.heap.objs.size:=by obtain⟨_,e,_⟩:=d.isList;exact Heap.lt_size e
 refine call_all_walk (wpAny_pyIter_list d.isList ?_)
 refine⟨s.heap.objs.size,[s.heap.objs.size,p],[s.heap.objs.size],a.toArray.size,_,_,λi=>(bs[i]?).getD true,rfl,Walks.list (A:=X.A.in1) (I.ok.hd w) _ p (be j) a.toArray,
  ⟨⟨_,Heap.get?_push_size _ rfl,rfl,rfl⟩,d.isList.push _⟩,λi v G J M B g=>?_,λL tk C=>?_⟩
 ·have t:a[i]? = some v:=by simpa using B
  have D:i<a.length:=(ag.mp t).1
  have m:bs[i]? = some bs[i]:=by simp[c,D]
  obtain⟨u,l,f⟩:=n.get (i:=i) (x:=.bl bs[i]) (by rw[ar,m];rfl)
  rw[t] at l
  cases l
  cases f
  dsimp only at g
  rw[m] at g
  exact wpAny_truthy_bool g
 ·have e:((List.range a.toArray.size).all λi=>(bs[i]?).getD true)=bs.all id:=by rw[bo,<-c];exact range_all bs
  rw[e]
  refine⟨.bl (bs.all id),H,I.kept (t':=tk) λb o k=>C b o (λy=>?_) (Heap.get?_push_of_some _ k),rfl,q⟩
  rw[am.mp y] at k
  exact fg _ (Heap.lt_size k)
theorem Cd:Ep X (.builtin "isinstance") (λxs H Q=>∃ x T t b,xs=[x,V.ty T]/\JD X.K H x t/\W.kitOne X.K t (.type T)=some b/\Q (.bl b) H):=by
 intro g s σ H xs f Q I r h
 obtain⟨x,T,t,b,rfl,d,e,q⟩:=h
 obtain⟨u,v,rfl,a,c⟩:=Vals.two r
 cases c
 exact Rv I a d e λtk=>⟨.bl b,H,I.tok _,rfl,q⟩
def QL (x:Str) (scope osc:Scope) (N:List Str):Bool :=
 (scope.kind == .function) && scope.names.all (λy=>y.2 != .cell) && scope.names.all (λy=>y.2 != .local || scope.names.lookup y.1 == some .local) && (scope.names.lookup x == some .local) &&
 scope.names.all (λy=>y.2 != .free || osc.names.lookup y.1 == some .cell || osc.names.lookup y.1 == some .free) && decide ((x::HS x N).Nodup) && (HS x N).all (λy=>scope.names.lookup y != some .local) && (scope.names.lookup ("" : Str) == none)
theorem BP {osc:Scope} {N:List Str} (i:X.env.scope=osc) (g:X.N=N) (h:QL x scope osc N=true):Fw X x scope:=by
 unfold QL at h
 simp only[Bool.and_eq_true] at h
 obtain⟨⟨⟨⟨⟨⟨⟨k,b⟩,c⟩,m⟩,d⟩,l⟩,f⟩,j⟩:=h
 rw[fb] at b c d f
 have n:∀ y,X.env.kindOf y=osc.names.lookup y:=λy=>by rw[<-i];rfl
 refine⟨by simpa using k,λy a=>by simpa using b y a,λy a e=>?_,by simpa using m,λy a e=>?_,by rw[g];exact of_decide_eq_true l,λy a=>?_,by simpa using j⟩
 ·have:=c y a
  rw[e] at this
  simpa using this
 ·have:=d y a
  rw[e] at this
  rw[n]
  simpa using this
 ·rw[g] at a
  simpa using f y a
theorem Inv.Ni {ch:List Addr} {t':Nat} (I:Inv X a0 σ H s) (h:∀ b∈ch,GQ X a0 H b) (k:∀ b u,b ∉ ch->s.heap.get? b=some u->h'.get? b=some u) (j:s.heap.objs.size<=a)
  (i:Bx X.prog X.w (upd H a o) h' a o):Inv X a0 σ (upd H a o) { s with heap:=h',toks:=t' }:=by
 have D:H a=none:=I.hok.fresh j
 have up:∀ b u,H b=some u->upd H a o b=some u:=λb u e=>by rw[Aw (An e D)];exact e
 refine I.step (g':=s.gens) (d':=s.drawn) (ch:=ch) (λb g=>?_) (λb u _ _ d e _=>k b u d e) (λb u _ _ d e _=>⟨u.slots,k b u d e⟩) (λb u _ e n=>?_)
  (λb u d e=>⟨u,k b u d e⟩) (λb F e=>up _ _ e) (λb u x e=>up _ _ e) (λb ps e=>⟨#[],by rw[up _ _ e];simp⟩) (λm A=>?_) (λb u e=>?_) I.bare
 ·obtain⟨G,l,E,p,B,C⟩:=h b g
  exact⟨p,l,B,C⟩
 ·rw[Aw (be (ax (Heap.lt_size e) j))]
  exact n
 ·obtain⟨u,t,y,w,r⟩:=A
  exact⟨u,t,y,k _ u (λz=>(h _ z).2.1 rfl) w,r⟩
 ·by_cases g:b=a
  ·subst g
   rw[Al] at e
   cases e
   exact i
  ·rw[Aw g] at e
   refine (I.hok b u e).stay (λc v d q=>k c v (λz=>?_) q) (λ_ q=>up _ _ q) λ_ _ q=>up _ _ q
   have f:=(h c z).1
   rcases d with d | d
   ·rw[d,e] at f
    cases f
   ·rw[d] at f
    cases f
theorem Inv.Qy {ch:List Addr} {t':Nat} (I:Inv X a0 σ H s) (f:∀ b∈ch,GQ X a0 H b) (k:∀ b u,b ∉ ch->s.heap.get? b=some u->h'.get? b=some u):Inv X a0 σ H { s with heap:=h',toks:=t' }:=by
 refine I.step (g':=s.gens) (d':=s.drawn) (ch:=ch) (λb h=>?_) (λb u _ _ a e _=>k b u a e) (λb u _ _ a e _=>⟨u.slots,k b u a e⟩) (λb u _ e n=>n)
  (λb u a e=>⟨u,k b u a e⟩) (λb A e=>e) (λb u x e=>e) (λb ps e=>⟨#[],by rw[e];simp⟩) (λm p=>?_) (λb u e=>?_) I.bare
 ·obtain⟨B,g,y,i,t,w⟩:=f b h
  exact⟨i,g,t,w⟩
 ·obtain⟨u,j,o,l,r⟩:=p
  exact⟨u,j,o,k _ u (λz=>(f _ z).2.1 rfl) l,r⟩
 ·refine (I.hok b u e).stay (λc v a q=>k c v (λz=>?_) q) (λ_ q=>q) λ_ _ q=>q
  have d:=(f c z).1
  rcases a with a | a
  ·rw[a,e] at d
   cases d
  ·rw[a] at d
   cases d
def cU (K:W.Frag) (a:Addr):It :=
 ⟨λi H=>∃ xs x,CV K H a xs/\xs[i]? = some x,λi H v H'=>∃ T,H T=none/\v=.ref T/\∀ xs,CV K H a xs->∃ x,xs[i]? = some x/\H'=upd H T (.tup [.int (i:Int),x]),λi H=>∃ xs,CV K H a xs/\xs.length<=i⟩
def k_ (K:W.Frag) (a b:Addr):It :=
 ⟨λi H=>∃ xs ys x y,Er K H a xs/\Er K H b ys/\xs[i]? = some x/\ys[i]? = some y,λi H v H'=>∃ T,H T=none/\v=.ref T/\∀ xs ys,Er K H a xs->Er K H b ys->∃ x y,xs[i]? = some x/\ys[i]? = some y/\H'=upd H T (.tup [x,y]),
  λi H=>∃ xs,Er K H a xs/\xs.length<=i⟩
theorem Sg {w:World} {K:W.Frag} {k1:Nat} (a e it:Addr) (n:e ≠ it) :
  Turn P w K (.Tuple es k1 pos) (cU K a) [e,it] e (λi h=>(∃ old,IsEnum h e it i old)/\h.IsListIter it a i) where
 mem:=by simp
 obj:=λi h st b f=>by
  obtain⟨⟨old,g⟩,o,S,c,d⟩:=st
  rcases cm.mp f with rfl | f
  ·exact⟨_,g,λv z=>by
    have z':Data.fields _=Data.cell v:=z
    cases z'⟩
  ·have q:b=it:=by simpa using f
   subst q
   exact⟨o,S,λv z=>by rw[d] at z;cases z⟩
 keep:=λi h h' st k=>by
  obtain⟨⟨old,g⟩,j⟩:=st
  exact⟨⟨old,k e (by simp) _ g⟩,j.at λo q=>k it (by simp) o q⟩
 item:=by
  intro X F A C J i Q s σ H E I l st t
  subst F A C
  obtain⟨T,x,r,G⟩:=t
  obtain⟨y,D,p,V⟩:=I.list r
  obtain⟨u,N,R⟩:=D.get G
  obtain⟨⟨old,g⟩,j⟩:=st
  refine wpAny_pyNext_enum_item g j p.isList (x:=u) (by simpa using N) n λM Z n2 n3 n4 n5=>?_
  refine⟨_,rfl,wpAny_letOwnedTupleGo_enum (s:={ s with heap:=M,toks:=s.toks+1 }) Z λY m1 B=>?_⟩
  have L:s.heap.objs.size ≠ e:=fh (Heap.lt_size g)
  have hI:s.heap.objs.size ≠ it:=by obtain⟨_,q,_⟩:=j;exact fh (Heap.lt_size q)
  have fr:H s.heap.objs.size=none:=I.hok.fresh (ai _)
  have nw:Bx X.prog X.w (upd H s.heap.objs.size (.tup [.int (i:Int),x])) Y s.heap.objs.size (.tup [.int (i:Int),x]) :=
   ⟨by show 2<=sizeLine;decide,[.int i s.toks,u],.cons ⟨_,rfl⟩ (.cons R .nil),_,B.extBut _ _ L n3,rfl,_,rfl⟩
  refine⟨.ref s.heap.objs.size,_,I.Ni (t':=s.toks+1) (ch:=[e,it]) l (λb o f q=>?_) (ai _) nw,rfl,⟨_,fr,rfl,λys O=>⟨x,by rw[I.Nu O r];exact G,rfl⟩⟩,⟨⟨u,?_⟩,n2.at λo q=>B.extBut _ _ (Ne.symm n) q⟩,λb f=>?_⟩
  ·exact B.extBut _ _ (λz=>f (by simp[z])) (n5 b o (λz=>f (by simp[z])) (λz=>f (by simp[z])) q)
  ·have U:((i:Int)+1)=((i+1:Nat):Int):=by omega
   rw[<-U]
   exact m1
  ·have m:=f
   rcases cm.mp f with rfl | f
   ·rw[Aw (Ne.symm L)]
    exact (l _ m).1
   ·have q:b=it:=by simpa using f
    subst q
    rw[Aw (Ne.symm hI)]
    exact (l _ m).1
 done:=by
  intro X F A C J i Q s σ H E I l st t
  subst F A C
  obtain⟨T,r,G⟩:=t
  obtain⟨y,D,p,V⟩:=I.list r
  obtain⟨⟨old,g⟩,j⟩:=st
  have hl:=D.length
  exact wpAny_pyNext_enum_end (I.ok.hd J) g j p.isList (by simp;omega) λM eb=>⟨rfl,I.Qy (t':=s.toks) (ch:=[e,it]) l λb o f q=>eb b o (λz=>f (by simp[z])) q⟩
 self:=λ_ _ _ _ _ st h=>by
  obtain⟨⟨old,g⟩,_⟩:=st
  exact wpAny_pyIter_enum g h
theorem Vf {a b:Nat} (d:a<n) (c:b<n):ZipApart (n+4) (n+2) (n+3) n (n+1) a b:=by
 constructor <;> (refine (show @Ne Nat _ _ from ?_);omega)
theorem Zn {b:Nat} {P:Nat->Prop} (d:P n) (e:P (n+1)) (c:P (n+2)) (g:P (n+3)) (f:P (n+4)) (a:b∈[n,n+1,n+2,n+3,n+4]):P b:=by
 simp at a
 rcases a with rfl | rfl | rfl | rfl | rfl <;> assumption
theorem RG {w:World} {K:W.Frag} {O:Nat} (a b n:Nat) (ha:a<n) (Z:b<n) :
  Turn P w K (.Tuple es O pos) (k_ K a b) [n,n+1,n+2,n+3,n+4] (n+4) (λi h=>IsZip h (n+4) (n+2) (n+3) .none/\IsPair h (n+2) (.ref n) (.ref (n+1))/\(∃ x y,IsPair h (n+3) x y)/\h.IsTupleIter n a i/\h.IsTupleIter (n+1) b i) where
 mem:=by simp
 obj:=λi h st c e=>by
  obtain⟨f,g,⟨x,y,j⟩,⟨o1,e1,_,d1⟩,⟨o2,e2,_,d2⟩⟩:=st
  refine Zn (P:=λc=>∃ o,h.get? c=some o/\∀ v,o.data ≠ .cell v) ⟨_,e1,λv z=>?_⟩ ⟨_,e2,λv z=>?_⟩ ⟨_,g,λv z=>?_⟩ ⟨_,j,λv z=>?_⟩ ⟨_,f,λv z=>?_⟩ e
  ·rw[d1] at z;cases z
  ·rw[d2] at z;cases z
  ·have m:Data.seq _ _=Data.cell v:=z
   cases m
  ·have m:Data.seq _ _=Data.cell v:=z
   cases m
  ·have m:Data.fields _=Data.cell v:=z
   cases m
 keep:=λi h h' st k=>by
  obtain⟨f,g,⟨x,y,j⟩,r,C⟩:=st
  exact⟨k _ (by simp) _ f,k _ (by simp) _ g,⟨x,y,k _ (by simp) _ j⟩,r.at λo q=>k _ (by simp) o q,C.at λo q=>k _ (by simp) o q⟩
 item:=by
  intro X L R S e i a0 s σ H E I A st G
  subst L R S
  obtain⟨xs,ys,x,y,B,q2,N,hy⟩:=G
  obtain⟨Y,U,Q,_⟩:=I.tuple B
  obtain⟨C4,r2,p2,_⟩:=I.tuple q2
  obtain⟨u,hu,ru⟩:=U.get N
  obtain⟨v,hv,rv⟩:=r2.get hy
  obtain⟨f,g,⟨x0,y0,j⟩,r,C⟩:=st
  have D:=Vf ha Z
  have p:s.TypeIs (.ref (n+4)) "zip":=⟨_,f,rfl⟩
  have sz:n+4<s.heap.objs.size:=Heap.lt_size f
  unfold pyNext
  refine wpAny_bind (wpAny_attempt (wpAny_callSpecial?_slot (name:=Str.ofString "__next__") p F.slot_zip_next (wpAny_call_entry F.slot_zip_next p F.entry_zip_next
   (RL D f g j r C (show s.heap.IsTuple a Y.toArray from Q) (show s.heap.IsTuple b C4.toArray from p2) (x:=u) (y:=v) (by simpa using hu) (by simpa using hv) λt n1 n2 n3 n4 n5 n6 n7=>wpAny_pure ?_) (F.args_zip_next_1 _))))
  refine⟨_,rfl,wpAny_letOwnedTupleGo_zip (s:={ s with heap:=t }) n1 λV m1 l=>?_⟩
  have fr:H s.heap.objs.size=none:=I.hok.fresh (ai _)
  have nw:Bx X.prog X.w (upd H s.heap.objs.size (.tup [x,y])) V s.heap.objs.size (.tup [x,y]) :=
   ⟨by show 2<=sizeLine;decide,[u,v],.cons ru (.cons rv .nil),_,l.extBut _ _ (Nat.ne_of_gt sz) n5,rfl,_,rfl⟩
  have M:IsPair t (n+2) (.ref n) (.ref (n+1)):=n7 _ _ D.TIz D.TITO D.TIi1 D.TIi2 g
  refine⟨.ref s.heap.objs.size,_,I.Ni (t':=s.toks) (ch:=[n,n+1,n+2,n+3,n+4]) A (λc o e q=>?_) (ai _) nw,rfl,⟨_,fr,rfl,λRO sF t V=>⟨x,y,by rw[I.JB t B];exact N,by rw[I.JB V q2];exact hy,rfl⟩⟩,
   ⟨m1,l.extBut _ _ D.TIz M,⟨u,v,l.extBut _ _ D.TOz n2⟩,n3.at λo q=>l.extBut _ _ D.i1z q,n4.at λo q=>l.extBut _ _ D.i2z q⟩,λc e=>?_⟩
  ·have z:∀ d,d∈[n,n+1,n+2,n+3,n+4]->c ≠ d:=λd J q=>e (q ▸ J)
   exact l.extBut _ _ (z _ (by simp)) (n7 c o (z _ (by simp)) (z _ (by simp)) (z _ (by simp)) (z _ (by simp)) q)
  ·rw[Aw ?_]
   ·exact (A c e).1
   ·have lt:c<=n+4:=Zn (P:=λc=>c<=n+4) (by omega) (by omega) (by omega) (by omega) (ai _) e
    exact be (bv lt sz)
 done:=by
  intro X L R S e i a0 s σ H E I A st G
  subst L R S
  obtain⟨xs,B,N⟩:=G
  obtain⟨Y,U,Q,_⟩:=I.tuple B
  obtain⟨f,g,⟨x0,y0,j⟩,r,C⟩:=st
  have D:=Vf ha Z
  have p:s.TypeIs (.ref (n+4)) "zip":=⟨_,f,rfl⟩
  have hl:=U.length
  unfold pyNext
  refine wpAny_bind (wpAny_attempt (wpAny_callSpecial?_slot (name:=Str.ofString "__next__") p F.slot_zip_next (wpAny_call_entry F.slot_zip_next p F.entry_zip_next
   (TF (I.ok.hd e) D f g j r (show s.heap.IsTuple a Y.toArray from Q) (by simp;omega) λt x O vN=>?_) (F.args_zip_next_1 _))))
  obtain⟨o,ho,xy⟩:=vN
  refine wpAny_bind (wpAny_isInstance (T:="StopIteration") (b:=true) ⟨o,ho,xy⟩ isSubtype_stop (wpAny_pure ?_))
  refine⟨rfl,I.Qy (t':=s.toks) (ch:=[n,n+1,n+2,n+3,n+4]) A λc o e q=>?_⟩
  have z:∀ d,d∈[n,n+1,n+2,n+3,n+4]->c ≠ d:=λd J q=>e (q ▸ J)
  exact O c o (z _ (by simp)) (z _ (by simp)) (z _ (by simp)) (z _ (by simp)) q
 self:=λ_ _ _ _ _ st h=>wpAny_pyIter_zip st.1 h
section
variable {k1:Nat} {nE:Pos}
inductive U5 (K:W.Frag) (R:It->Hp->Prop) (vs:List V) (H1:Hp):Prop
 | mk (a:_):vs=[.ref a]->(∃ xs,CV K H1 a xs)->R (cU K a) H1->U5 K R vs H1
def c7 (K:W.Frag) (ta:TA):TI:=λσ H R=>ta σ H λvs H1=>U5 K R vs H1
inductive Yi (K:W.Frag) (R:It->Hp->Prop) (vs:List V) (H1:Hp):Prop
 | mk (a b:_):vs=[.ref a,.ref b]->(∃ xs,Er K H1 a xs)->(∃ ys,Er K H1 b ys)->R (k_ K a b) H1->Yi K R vs H1
def lO (K:W.Frag) (ta:TA):TI:=λσ H R=>ta σ H λvs H1=>Yi K R vs H1
theorem JS {l:Expr} {i:TA} {p:Pos} (j:Gl X "enumerate") (t:X.mg "enumerate" = none) (B:PA X [l] i) (z:starEach [l] X.env=[(false,eval l X.env)]:=by rfl) :
  PI X (.Tuple es k1 nE) (.Call (.Name "enumerate" p) [l] [] pos) (c7 X.K i):=by
 intro n s σ H R I h
 refine Call_ (G7 I j t boot_enumerate (PyProof.Rows.callWith_type1 (Bt (B pos n s σ H _ I h) λD c ⟨E,v,d,w,r⟩=>?_) z rfl))
 obtain⟨a,e,⟨G,C⟩,q⟩:=r
 subst e
 obtain⟨u,rfl,o⟩:=vals1 w
 cases o
 obtain⟨k,F,m,J⟩:=d.list C
 refine call_enumerate_list m.isList λA g y K x=>?_
 refine wpAny_pyIter_enum (s:={ c with heap:=A }) g ?_
 refine⟨_,[c.heap.objs.size+1,c.heap.objs.size],_,_,v,rfl,d.kept (t':=c.toks) x,Sg a _ _ (Nat.succ_ne_self _),⟨⟨_,g⟩,y⟩,λb f=>?_,q⟩
 have lt:c.heap.objs.size<=b:=by
  rcases cm.mp f with rfl | f
  ·exact gL _
  ·exact Nat.le_of_eq ((am.mp f).symm)
 exact d.MK lt (d.hok.fresh lt)
theorem XF {x y:Expr} {r:TA} {p:Pos} (t:Gl X "zip") (C:X.mg "zip" = none) (S:PA X [x,y] r) (O:starEach [x,y] X.env=[(false,eval x X.env),(false,eval y X.env)]:=by rfl) (m:starEach [y] X.env=[(false,eval y X.env)]:=by rfl) :
  PI X (.Tuple es k1 nE) (.Call (.Name "zip" p) [x,y] [] pos) (lO X.K r):=by
 intro A s σ H R I h
 refine Call_ (G7 I t C boot_zip (PyProof.Rows.callWith_type1 (Bt (S pos A s σ H _ I h) λV f ⟨W,E,d,k,g⟩=>?_) (by rw[O,m]) (by rw[m];rfl)))
 obtain⟨a,b,e,⟨Y,g⟩,⟨ys,K⟩,q⟩:=g
 subst e
 obtain⟨u,v,rfl,B,D⟩:=Vals.two k
 cases B
 cases D
 obtain⟨M,k,o,_⟩:=d.tuple g
 obtain⟨F,Z,j,_⟩:=d.tuple K
 refine RB (show f.heap.IsTuple a M.toArray from o) (show f.heap.IsTuple b F.toArray from j) λQ n i l L N J U n6 T=>?_
 refine wpAny_pyIter_zip (s:={ f with heap:=Q }) l ?_
 have G:a<n:=by rw[i];exact o.lt
 have w:b<n:=by rw[i];exact j.lt
 refine⟨_,[n,n+1,n+2,n+3,n+4],_,_,E,rfl,d.kept (t':=f.toks) T,RG a b n G w,⟨l,L,⟨_,_,N⟩,J,U⟩,λc z=>?_,q⟩
 have lt:f.heap.objs.size<=c:=by
  rw[<-i]
  exact Zn (P:=λc=>n<=c) (by omega) (by omega) (by omega) (by omega) (by omega) z
 exact d.MK lt (d.hok.fresh lt)
end
theorem Wq {w:World} {R:Result->Shared->Prop} {b:Expr} {d:List Expr} {it f:Value} {a:Env} (J:Nat->Shared->Prop) {E:vSP} (o:E=notedBy (model prog w) A a λe s'=>R (.error e) s')
  (t:∀ n s,J n s->wpAny (model prog w) A (pyNext it) (λr s1=>match r with
   | none=>R (.ok .next) s1
   | some v=>wpAny (model prog w) A (letOwnedTupleGo tg it v) (λ_ s2=>wpAny (model prog w) A (assign tg a v) (λ_ s3 =>
     wpAny (model prog w) A (forIn d true λc r=>if r=true then do let ok <-isTrue c a (eval c a);pure (ForInStep.yield ok) else pure (ForInStep.yield r)) (λok s4 =>
      if ok=true then wpAny (model prog w) A (eval b a) (λx s5=>wpAny (model prog w) A (call (.builtin "list.append") [f,x]) (λ_ s6=>∃ m,m<n/\J m s6) E s5) E s4
      else ∃ m,m<n/\J m s4) E s3) E s2) E s1) E s) (n:Nat) (h:J n s) :
  codeAny (model prog w) A (.compLoop (.ListComp b [⟨tg,iter,d,0⟩] scope pos) 0 it f a) R s:=by
 subst o
 refine codeAny_loop rfl J (λn s u=>(show wpAny _ A ((compTurn (.ListComp b [⟨tg,iter,d,0⟩] scope pos) 0 it f a).onRaise (λx=>do noteFrame x a;theTreesLotGoes x)) _ _ s from wpAny_noted ?_)) n h
 rw[compTurn_list]
 refine wpAny_bind (wpAny_standAt (wpAny_bind (wpAny_mono (t n s u) (λr s1 g=>?_) λ_ _ q=>q)))
 cases r with
 | none=>exact wpAny_pure g
 | some v =>
  refine wpAny_bind (wpAny_mono g (λ_ s2 l=>wpAny_bind (wpAny_mono l (λ_ s3 j=>wpAny_bind (wpAny_mono j (λok s4 i=>?_) λ_ _ q=>q)) λ_ _ q=>q)) λ_ _ q=>q)
  cases ok with
  | false=>exact wpAny_pure ⟨rfl,i⟩
  | true=>exact wpAny_bind (wpAny_bind (wpAny_mono i (λx s5 k=>wpAny_bind (wpAny_mono k (λ_ s6 p=>wpAny_pure (wpAny_pure ⟨rfl,p⟩)) λ_ _ q=>q)) λ_ _ q=>q))
def Bg (X:Cx) (x z:Str) (scope:Scope) (C:Addr) (s₀:Shared) (H₀:Hp) (fp:List Addr):Cx where
 prog:=X.prog
 w:=X.w
 K:=X.K
 mg:=X.mg
 base:=X.base
 A:=X.A
 N:=x::z::X.N
 s₀:=s₀
 H₀:=H₀
 env:=compEnvC scope (Cu X.env scope.names []) C X.env
 outer:=X.stack
 stack:=X.stack
 ex:=fp
 fn:=λ_=>false
 calm:=X.calm
 pn:=[]
 xe:=λ_ _=>False
structure Ea (X:Cx) (x z:Str) (scope:Scope):Prop where
 kind:scope.kind=.function
 nocell:∀ y∈scope.names,y.2 ≠ .cell
 names:∀ y∈scope.names,y.2=.local->scope.names.lookup y.1=some .local
 loc:scope.names.lookup x=some .local
 loz:scope.names.lookup z=some .local
 free:∀ y∈scope.names,y.2=.free->X.env.kindOf y.1=some .cell \/ X.env.kindOf y.1=some .free
 nd:(x::z::X.N).Nodup
 only:∀ y∈X.N,scope.names.lookup y ≠ some .local
section
variable {z:Str}
theorem NQ {tk:Nat} {m:Str->Option Value} (I:Inv X a0 σ H s) (S:Ea X x z scope) (G:∀ b∈fp,GQ X a0 H b) (P:∀ b∈fp,b<s.heap.objs.size) (Q:s.heap.objs.size<=C) (hn:h'.Ns C m)
  (L:∀ b o,s.heap.get? b=some o->h'.get? b=some o):Inv (Bg X x z scope C s H fp) [] (none::none::σ) H { s with heap:=h',toks:=tk }:=by
 have w:∀ y c,(Cu X.env scope.names []).lookup y=some c->X.env.cells.lookup y=some c:=λy c e=>by
  rcases GJ X.env scope.names [] y c e with z | z
  ·cases z
  ·exact z
 have f:∀ c v,s.heap.IsCell c v->h'.IsCell c v:=λc v ⟨o,ho,hd⟩=>⟨o,L c o ho,hd⟩
 have look:∀ y,(Bg X x z scope C s H fp).env.scope.names.lookup y=(scope.names.lookup y).map λk=>if (k == NameKind.free && X.env.scope.kind == .function && X.env.kindOf y == some .cell) then NameKind.cell else k:=λy=>Fb X.env y scope.names
 refine⟨⟨I.ok.mod,S.kind,I.ok.glob,I.ok.blt,Q,λy z c e1 e2=>I.ok.inj y z c (w y c e1) (w z c e2),λy Y=>?_,λy c e _=>(by cases e),λh=>I.ok.hd h,I.ok.frames,.inl rfl,λb t=>?_,I.bs,bi I.ok.bsz I.sz,λb o e t=>?_,λb t J=>?_,I.stack,I.Ld⟩,
  rfl,I.bare,Un.kept L,⟨m,hn,λi y v B q h3=>?_⟩,λy c e=>?_,I.hok.fresh Q,λy c e=>I.freeC y c (w y c e),λp hp=>absurd (show p∈([]:List (Addr × Obj)) from hp) (by simp),I.hok.kept L,?_⟩
 ·have d:(Bg X x z scope C s H fp).env.scope.names.lookup y=some .cell \/ (Bg X x z scope C s H fp).env.scope.names.lookup y=some .free:=Y
  rw[look y] at d
  cases e:scope.names.lookup y with
  | none=>rw[e] at d;rcases d with z | z <;> cases z
  | some k =>
   have n:=PySem.mem_of_lookup e
   have a:k=.free:=by
    rw[e] at d
    cases k with
    | free=>rfl
    | cell=>exact absurd rfl (S.nocell _ n)
    | _=>rcases d with z | z <;> simp at z
   subst a
   obtain⟨c,E⟩:=I.ok.has y (S.free _ n rfl)
   exact eJ.mp (Ed X.env scope.names [] y n (by rw[E];rfl))
 ·obtain⟨W,N,M,O,K,R⟩:=G b t
  exact⟨be (ax (P b t) Q),λy c e=>K y c (w y c e)⟩
 ·obtain⟨W,N,M,O,K,R⟩:=G b t
  rcases O with z | z
  ·exact I.ok.noex b o e z
  ·exact absurd (ax (Heap.lt_size e) (bi I.ok.bsz z)) (fg _)
 ·obtain⟨W,N,M,O,K,R⟩:=G b t
  rcases cm.mp (I.MF b J) with e | e
  ·exact N e
  ·exact M e
 ·match i,B,q with
  | 0,B,q =>
   have j:(some none:Option (Option V))=some (some v):=q
   cases j
  | 1,B,q =>
   have j:(some none:Option (Option V))=some (some v):=q
   cases j
  | i+2,B,q =>
   have U:X.N[i]? = some y:=B
   have j:σ[i]? = some (some v):=q
   have D:y∈X.N:=av U
   have g:(Bg X x z scope C s H fp).env.scope.names.lookup y=some .local \/ (Bg X x z scope C s H fp).env.scope.names.lookup y=some .cell \/ (Bg X x z scope C s H fp).env.scope.names.lookup y=some .free:=h3
   rw[look y] at g
   cases e:scope.names.lookup y with
   | none=>rw[e] at g;rcases g with z | z | z <;> cases z
   | some k =>
    have n:=PySem.mem_of_lookup e
    have a:k=.free:=by
     rw[e] at g
     cases k with
     | free=>rfl
     | cell=>exact absurd rfl (S.nocell _ n)
     | «local»=>exact absurd e (S.only y D)
     | _=>rcases g with z | z | z <;> simp at z
    subst a
    have T:=S.free _ n rfl
    obtain⟨m0,wW,sk⟩:=I.loc
    obtain⟨u,r,l⟩:=sk i y v U j (by rcases T with z | z;exact .inr (.inl z);exact .inr (.inr z))
    refine⟨u,r,.inr ⟨?_,?_⟩⟩
    ·have F:(Bg X x z scope C s H fp).env.scope.names.lookup y=some (if (NameKind.free == NameKind.free && X.env.scope.kind == .function && X.env.kindOf y == some .cell) then NameKind.cell else NameKind.free):=by
      rw[look y,e];rfl
     by_cases c:(NameKind.free == NameKind.free && X.env.scope.kind == .function && X.env.kindOf y == some .cell)=true
     ·rw[if_pos c] at F;exact .inl F
     ·rw[if_neg c] at F;exact .inr F
    ·rcases l with⟨lk,_⟩ | ⟨_,c,E,Z⟩
     ·exfalso
      rcases T with z | z <;> (rw[show X.env.kindOf y=some NameKind.local from lk] at z;cases z)
     ·obtain⟨c',A⟩:=eJ.mp (Ed X.env scope.names [] y n (by rw[E];rfl))
      have:=w y c' A
      rw[E] at this
      cases this
      exact⟨c,A,f c _ Z⟩
 ·obtain⟨v,z⟩:=I.cell y c (w y c e)
  exact⟨v,f c v z⟩
 ·show (none::none::σ).length=(x::z::X.N).length
  simp[I.len]
end
def Jf (J:It) (σ:St) (H1:Hp) (Q:VK) (g:TG) (tt:TT) (te:TE):Prop:=∀ D,H1 D=none->∃ W:Nat->Nat->List V->Hp->Prop,(∃ m,W 0 m [] (upd H1 D (.lst [])))/\∀ i m ys H2,W i m ys H2 ->
 (J.stop i H2/\Q (.ref D) H2) \/ (J.go i H2/\∀ x H3,J.yld i H2 x H3->∀ v0 v1,g x (v0::v1::σ) H3 λσ' KA=>(∃ w0 w1,σ'=w0::w1::σ)/\tt σ' KA λb H4 =>
  if b=true then te σ' H4 λy H5=>H5 D=some (.lst ys)/\ys.length<sizeLine/\∃ m',m'<m/\W (i+1) m' (ys++[y]) (upd H5 D (.lst (ys++[y])))
  else ∃ m',m'<m/\W (i+1) m' ys H4)
def Vj (wi:TI) (g:TG) (tt:TT) (te:TE):TE:=λσ H Q=>wi σ H λJ H1=>Jf J σ H1 Q g tt te
section
variable {z:Str}
theorem NB {Z:Expr} {jv:List Expr} {g:TG} {c:Shared} {h:Hp} {it:Addr} {Y:Nat->Heap->Prop} {J:It} {E:vSP}
  {RR:Value->Addr->Result->Shared->Prop} {Q:VK}
  (hc:X.calm=true) (S:Ea X x z scope) (hg:∀ C s₀ H₀ fp,PG (Bg X x z scope C s₀ H₀ fp) tg g) (ht:∀ C s₀ H₀ fp,Nf (Bg X x z scope C s₀ H₀ fp) jv tt) (he:∀ C s₀ H₀ fp,PE (Bg X x z scope C s₀ H₀ fp) Z te)
  (I2:Inv X a0 σ h c) (T:Turn X.prog X.w X.K tg J fp it Y) (pd:Y 0 c.heap) (f2:∀ b∈fp,GQ X a0 h b) (q:Jf J σ h Q g tt te)
  (CU:∀ D C s' H' m,s'.heap.Ns C m->GQ X a0 H' C->Inv X a0 σ H' s'->Q (.ref D) H'->RR (.ref D) C (.ok .next) s') :
  wpAny (model X.prog X.w) X.A (newList []) (λd6 s₃=>wpAny (model X.prog X.w) X.A (newFunctionEnv scope X.env.globals (Cu X.env scope.names []) [] X.env.qual none .none (some X.env)) (λrm s₄ =>
   codeAny (model X.prog X.w) X.A (.compStart (.ListComp Z [⟨tg,iter,jv,0⟩] scope pos) 0 (.ref it) d6 { rm with scope:=relabel scope X.env }) (RR d6 rm.locals) s₄) E s₃) E c:=by
 refine wpAny_newObj_type (wpAny_newFunctionEnv S.nocell (by intro y hy;simp at hy) (λG ug vn=>?_) S.kind)
 have I3:=I2.Zi (its:=[]) (ys:=[]) (t':=c.toks) .nil (ee _)
 have ac:h c.heap.objs.size=none:=I2.fresh
 obtain⟨W,⟨m0,k⟩,md⟩:=q _ ac
 generalize M:({ c with heap:=c.heap.push { cls:=.type "list",data:=.seq ([]:List Value).toArray },toks:=c.toks }:Shared)=a at I3
 have e3:a.heap=c.heap.push { cls:=.type "list",data:=.seq ([]:List Value).toArray }:=by rw[<-M]
 have N:∀ b∈fp,b<c.heap.objs.size:=λb f=>let ⟨_,e,_⟩:=T.obj _ _ pd b f;Heap.lt_size e
 have O:∀ b∈fp,b<a.heap.objs.size:=λb f=>by rw[e3,Heap.size_push];exact fI (N b f)
 have f3:∀ b∈fp,GQ X a0 (upd h c.heap.objs.size (.lst [])) b:=λb f=>⟨by rw[Aw (be (N b f))];exact (f2 b f).1,(f2 b f).2⟩
 have I:∀ b o,a.heap.get? b=some o->G.get? b=some o:=λb o e=>by
  have U:b ≠ a.heap.objs.size:=be (Heap.lt_size e)
  rw[e3] at e U
  exact vn.extBut b o U (Heap.get?_push_of_some _ e)
 have hC:a.heap.objs.size=(c.heap.push { cls:=.type "list",data:=.seq ([]:List Value).toArray }).objs.size:=by rw[e3]
 have ab:G.Ns a.heap.objs.size (λx=>([]:List (Str × Value)).reverse.lookup x):=by rw[hC];exact ug
 have P:Y 0 G:=T.keep _ _ _ pd λb f o e=>I b o (by rw[e3];exact Heap.get?_push_of_some _ e)
 have start:∀ tk,Inv (Bg X x z scope a.heap.objs.size a (upd h c.heap.objs.size (.lst [])) fp) [] (none::none::σ) (upd h c.heap.objs.size (.lst [])) { a with heap:=G,toks:=tk }:=λtk =>
  NQ I3 S f3 O (ai _) ab I
 have l:∀ tk,codeAny (model X.prog X.w) X.A (.compLoop (.ListComp Z [⟨tg,iter,jv,0⟩] scope pos) 0 (.ref it) (.ref c.heap.objs.size) (compEnvC scope (Cu X.env scope.names []) a.heap.objs.size X.env))
   (RR (.ref c.heap.objs.size) a.heap.objs.size) { a with heap:=G,toks:=tk }:=by
  intro tk
  refine Wq (λn s'=>∃ i t v s H',Inv (Bg X x z scope a.heap.objs.size a (upd h c.heap.objs.size (.lst [])) fp) [] (v::s::σ) H' s'/\Y i s'.heap/\(∀ b∈fp,H' b=none)/\W i n t H') rfl ?_ m0
   ⟨0,[],none,none,_,start tk,P,λb f=>(f3 b f).1,k⟩
  rintro n s4 ⟨i,t,v,s,H4,K,xt,xp,w4⟩
  have j:∀ {H':Hp},(∀ b∈fp,H' b=none)->∀ b∈fp,GQ (Bg X x z scope a.heap.objs.size a (upd h c.heap.objs.size (.lst [])) fp) [] H' b:=λhn b f=>by
   refine⟨hn b f,(K.ok.exf b f).1,K.ok.exfs b f,.inl f,(K.ok.exf b f).2,λp hp=>absurd (show p∈([]:List (Addr × Obj)) from hp) (by simp)⟩
  rcases md i n t H4 w4 with⟨stop,qn⟩ | ⟨go,step⟩
  ·refine Bt (T.done (Bg X x z scope a.heap.objs.size a (upd h c.heap.objs.size (.lst [])) fp) rfl rfl rfl hc i [] s4 (v::s::σ) H4 _ K (j xp) xt stop) λr s5 ⟨hr,H⟩=>?_
   subst hr
   obtain⟨m,hn,_⟩:=H.loc
   refine CU _ _ s5 H4 m hn (I3.MK (ai _) H.free) (I3.call' (s':=s5) (ch:=fp) H.os H.base H.hok H.bare (λb f=>?_)) qn
   obtain⟨_,g1,_,g3,g4,g5⟩:=f3 b f
   exact⟨g3,g1,g4,g5⟩
  ·refine Bt (T.item (Bg X x z scope a.heap.objs.size a (upd h c.heap.objs.size (.lst [])) fp) rfl rfl rfl hc i [] s4 (v::s::σ) H4 _ K (j xp) xt go) λr s5 ⟨u,hr,h5⟩=>?_
   subst hr
   refine Bt h5 λ_ s6 h6=>?_
   obtain⟨xv,H6,I6,r6,y6,tI,C6⟩:=h6
   have C0:=I6.pinned (j C6) (T.obj _ _ tI)
   have again:∀ {F:Shared} {B:Hp} {sF:List V} {k w:Option V},Inv (Bg X x z scope a.heap.objs.size a (upd h c.heap.objs.size (.lst [])) fp) ([]++I_ fp s6.heap) (k::w::σ) B F->(∃ m',m'<n/\W (i+1) m' sF B) ->
     ∃ m,m<n/\∃ i t v s H',Inv (Bg X x z scope a.heap.objs.size a (upd h c.heap.objs.size (.lst [])) fp) [] (v::s::σ) H' F/\Y i F.heap/\(∀ b∈fp,H' b=none)/\W i m t H':=λ{F B sF k w} L hw=>by
    obtain⟨m',hm,w7⟩:=hw
    refine⟨m',hm,i+1,sF,k,w,B,L.G6,T.keep _ _ _ tI λb f o e=>(L.pin (b,o) (bp _ (bp _ (EY f e)))).1,λb f=>?_,w7⟩
    obtain⟨o,e,d⟩:=T.obj _ _ tI b f
    exact (L.pin (b,o) (bp _ (bp _ (EY f e)))).2.1
   refine PX (hg _ _ _ _ _ s6 (v::s::σ) H6 xv u _ C0 r6 (step xv H6 y6 v s)) λ_ F ⟨σ7,B,L,⟨k,w,e7⟩,q7⟩=>?_
   subst e7
   refine PX (ht _ _ _ _ _ F (k::w::σ) B _ L q7) λb s8 A=>?_
   obtain⟨H8,I8,q8⟩:=A
   cases b with
   | false =>
    rw[if_neg eR] at q8 |-
    exact again I8 q8
   | true =>
    rw[if_pos rfl] at q8 |-
    refine PX (he _ _ _ _ _ s8 (k::w::σ) H8 _ I8 q8) λy s9 A=>?_
    obtain⟨yv,H9,I9,r9,zR,zO,q9⟩:=A
    refine PX (Br (X:=Bg X x z scope a.heap.objs.size a (upd h c.heap.objs.size (.lst [])) fp) _ s9 (k::w::σ) H9 (.ref c.heap.objs.size) [yv] (.ref c.heap.objs.size) [y] (λ_ H'=>H'=upd H9 c.heap.objs.size (.lst (t++[yv]))) I9 rfl (.cons r9 .nil)
     ⟨_,t,yv,rfl,rfl,zR,zO,rfl⟩) λ_ an ⟨_,qA,B2,_,A8⟩=>?_
    subst A8
    exact again B2 q9
 have al:=λtk=>codeAny_compStart_list (R:=RR (.ref c.heap.objs.size) a.heap.objs.size) (l tk) (T.self X.A 0 { a with heap:=G,toks:=tk } (λBC s'=>codeAny (model X.prog X.w) X.A (.compLoop (.ListComp Z [⟨tg,iter,jv,0⟩] scope pos) 0 BC (.ref c.heap.objs.size) (compEnvC scope (Cu X.env scope.names []) a.heap.objs.size X.env)) (RR (.ref c.heap.objs.size) a.heap.objs.size) s') _ P (l tk))
 subst M
 exact al _
theorem V3 {b:Expr} {c:List Expr} {wi:TI} {g:TG} (i:X.calm=true) (S:Ea X x z scope) (F:PI X tg iter wi) (f:∀ C s₀ H₀ fp,PG (Bg X x z scope C s₀ H₀ fp) tg g)
  (u:∀ C s₀ H₀ fp,Nf (Bg X x z scope C s₀ H₀ fp) c tt) (A:∀ C s₀ H₀ fp,PE (Bg X x z scope C s₀ H₀ fp) b te) (B:∀ x,foldedSetIterable iter X.env x=pure x:=by intro _;rfl) :
  PE X (.ListComp b [⟨tg,iter,c,0⟩] scope pos) (Vj wi g tt te):=by
 intro a s σ H Q I h
 rw[eval_ListComp]
 refine wpAny_comprehension_free (use:=none) (cl:=Cu X.env scope.names []) rfl B (Hg λy j n=>I.ok.has y.1 (S.free y j n)) S.kind S.names (Bt (F a s σ H _ I h) λv R E=>Bt E λU M r=>?_)
 obtain⟨it,fp,V,J,O,e,o,T,t,p,q⟩:=r
 subst e
 refine NB (RR:=λG C=>compPost (model X.prog X.w) X.A X.xe none (EP X a σ Q) G C) (Q:=Q) i S f u A o T t p q ?_
 intro D C N d m l k K L
 exact⟨m,l,λP w=>⟨.ref D,d,K.sameBut k w,rfl,L⟩⟩
end
open PySem PySem.Spec PySem.Calls PyProof.Rows
theorem Aj.tup {K:W.Frag} (e:Aj H H') (h:Er K H a xs):Er K H' a xs:=by
 rcases h with (h | ⟨o,h⟩) | h
 ·exact .inl (.inl (e _ _ h))
 ·exact .inl (.inr ⟨o,e _ _ h⟩)
 ·exact .inr h
inductive TupAt (H:Hp) (zs:List V) (y:V):Prop
 | mk (T:_):y=.ref T->H T=some (.tup zs)->TupAt H zs y
theorem TupAt.mono {a:List V} (s:Aj H H') (h:TupAt H a y):TupAt H' a y:=let ⟨T,e,q⟩:=h;⟨T,e,s _ _ q⟩
theorem TupAt.upd {a ws:List V} {D:Addr} (h:TupAt H a y) (b:H D=some (.lst ys)):TupAt (upd H D (.lst ws)) a y:=by
 obtain⟨T,e,q⟩:=h
 refine⟨T,e,?_⟩
 rw[Aw λz=>by rw[z,b] at q;cases q]
 exact q
theorem CT {α:Type} {f:α->List V} {l:List α} {ws:List V} {D:Addr} (h:Paired (λa y=>TupAt H (f a) y) l vs) (b:H D=some (.lst ys)):Paired (λa y=>TupAt (upd H D (.lst ws)) (f a) y) l vs:=Paired.Fg h λ_ _ q=>q.upd b
theorem Aq {α:Type} {f:α->List V} {l:List α} (s:Aj H H') (h:Paired (λa y=>TupAt H (f a) y) l vs):Paired (λa y=>TupAt H' (f a) y) l vs:=Paired.Fg h λ_ _ q=>q.mono s
def Nt (x z:Str) (scope osc:Scope) (N:List Str):Bool :=
 (scope.kind == .function) && scope.names.all (λy=>y.2 != .cell && (y.2 != .local || scope.names.lookup y.1 == some .local) && (y.2 != .free || osc.names.lookup y.1 == some .cell || osc.names.lookup y.1 == some .free)) && (scope.names.lookup x == some .local) && (scope.names.lookup z == some .local) &&
 decide ((x::z::N).Nodup) && N.all (λy=>scope.names.lookup y != some .local)
theorem Jp {z:Str} {osc:Scope} {N:List Str} (i:X.env.scope=osc) (g:X.N=N) (h:Nt x z scope osc N=true):Ea X x z scope:=by
 unfold Nt at h
 simp only[Bool.and_eq_true] at h
 obtain⟨⟨⟨⟨⟨j,c⟩,l⟩,d⟩,k⟩,f⟩:=h
 rw[fb] at c f
 have b:∀ y,X.env.kindOf y=osc.names.lookup y:=λy=>by show X.env.scope.names.lookup y=_;rw[i]
 refine⟨by simpa using j,λy a=>?_,λy a e=>?_,by simpa using l,by simpa using d,λy a e=>?_,by rw[g];exact of_decide_eq_true k,λy a=>?_⟩
 ·have:=c y a
  simp only[Bool.and_eq_true,bne_iff_ne] at this
  exact this.1.1
 ·have:=c y a
  simp only[Bool.and_eq_true] at this
  simpa [e] using this.1.2
 ·have:=c y a
  simp only[Bool.and_eq_true] at this
  rw[b]
  simpa [e] using this.2
 ·have:=f y (by rw[<-g];exact a)
  simpa using this
section
variable {z:Str}
theorem Wo {g f:Pos} {k:Nat} {b:Shared} {a:Hp} (e:X.calm=true) (S:Ea X x z scope) :
  PG (Bg X x z scope C b a fp) (.Tuple [.Name x g,.Name z f] k pos) (Rh X.K 2 (HY (Et 0) (HY (Et 1) Vr))):=by
 have d:(Bg X x z scope C b a fp).env.scope.names.lookup x=some .local:=lookup_relabel_local S.loc
 have c:(Bg X x z scope C b a fp).env.scope.names.lookup z=some .local:=lookup_relabel_local S.loz
 exact Lr (X:=Bg X x z scope C b a fp) (n:=2) e (Ei (Bp (X:=Bg X x z scope C b a fp) (i:=0) S.nd rfl (.inl d) (.inr d)) (Ei (Bp (X:=Bg X x z scope C b a fp) (i:=1) S.nd rfl (.inl c) (.inr c)) Jc))
theorem QS {d c e:Pos} {k:Nat} {f:Expr} {b:List Expr} {wi:TI} (a:X.calm=true) (S:Ea X x z scope) (j:PI X (.Tuple [.Name x d,.Name z c] k e) iter wi)
  (g:∀ C s₀ H₀ fp,Nf (Bg X x z scope C s₀ H₀ fp) b tt) (h:∀ C s₀ H₀ fp,PE (Bg X x z scope C s₀ H₀ fp) f te) (i:∀ x,foldedSetIterable iter X.env x=pure x:=by intro _;rfl) :
  PE X (.ListComp f [⟨.Tuple [.Name x d,.Name z c] k e,iter,b,0⟩] scope pos) (Vj wi (Rh X.K 2 (HY (Et 0) (HY (Et 1) Vr))) tt te) :=
 V3 a S j (λ_ _ _ _=>Wo a S) g h i
end
section
variable {Q:VK}
theorem Bs {K:W.Frag} (p:V->Bool) (f:V->V) (c:CV K H1 a xs) (k:xs.length<sizeLine)
  (h:∀ x∈xs,∀ H,Aj H1 H->∀ R:Bool->Hp->Prop,(∀ H',Aj H H'->R (p x) H')->tt (some x::σ) H R)
  (j:∀ x∈xs,p x=true->∀ H,Aj H1 H->∀ R:VK,(∀ H',Aj H H'->R (f x) H')->te (some x::σ) H R)
  (e:∀ D H,H1 D=none->Aj H1 H->H D=some (.lst ((xs.filter p).map f))->Q (.ref D) H):D_ (WR K a) σ H1 Q tt te :=
 G9 p f k (λi H x b g=>⟨xs,x,b.seq c,g⟩) (λi H y H' b _ d=>⟨d.1,d.2 xs (b.seq c)⟩) (λH b=>⟨xs,b.seq c,ai _⟩) h j e
theorem K7 {J:It} (p:V->Bool) (f:V->List V) (z:xs.length<sizeLine)
  (u:∀ i H x,Aj H1 H->xs[i]? = some x->J.go i H) (t:∀ i H y H',Aj H1 H->i<xs.length->J.yld i H y H'->H'=H/\xs[i]? = some y) (v:∀ H,Aj H1 H->J.stop xs.length H)
  (B:∀ x∈xs,∀ H,Aj H1 H->∀ R:Bool->Hp->Prop,(∀ H',Aj H H'->R (p x) H')->tt (some x::σ) H R)
  (G:∀ x∈xs,p x=true->∀ H,Aj H1 H->∀ R:VK,(∀ y H',Aj H H'->TupAt H' (f x) y->R y H')->te (some x::σ) H R)
  (A:∀ D H ys,H1 D=none->Aj H1 H->H D=some (.lst ys)->Paired (λx y=>TupAt H (f x) y) (xs.filter p) ys->Q (.ref D) H):D_ J σ H1 Q tt te:=by
 intro D r
 have F:Aj H1 (upd H1 D (.lst [])):=λb o e=>by rw[Aw (An e r)];exact e
 refine⟨λi m ys H=>m=xs.length - i/\i<=xs.length/\H D=some (.lst ys)/\Paired (λx y=>TupAt H (f x) y) ((xs.take i).filter p) ys/\Aj H1 H,⟨xs.length,by simp,Nat.zero_le _,Al,by simpa using Paired.nil,F⟩,?_⟩
 rintro i m ys H ⟨rfl,L,h,l,g⟩
 by_cases c:i<xs.length
 ·obtain⟨x,q⟩:∃ x,xs[i]? = some x:=⟨xs[i],by simp[c]⟩
  refine .inr ⟨u i H x g q,λy I C=>?_⟩
  obtain⟨rfl,j⟩:=t i H y I g c C
  rw[q] at j
  cases j
  have s:x∈xs:=av q
  have n:ys.length<sizeLine:=by
   rw[<-l.length]
   refine bv (ck _ _) (bv ?_ z)
   rw[df];omega
  refine B x s _ g _ λE d=>?_
  by_cases a:p x=true
  ·rw[if_pos a]
   refine G x s a E (g.trans d) _ λy K k w=>?_
   refine⟨k _ _ (d _ _ h),n,xs.length - (i+1),by omega,rfl,c,Al,?_,λb o e=>?_⟩
   ·rw[take_succ_filter p xs i x q,if_pos a]
    exact (CT (Aq (d.trans k) l) (k _ _ (d _ _ h))).snoc (w.upd (k _ _ (d _ _ h)))
   ·rw[Aw (An e r)];exact k _ _ (d _ _ (g _ _ e))
  ·rw[if_neg a]
   refine⟨xs.length - (i+1),by omega,rfl,c,d _ _ h,?_,g.trans d⟩
   rw[take_succ_filter p xs i x q,if_neg a,gz]
   exact Aq d l
 ·have e:i=xs.length:=by omega
  subst e
  rw[eD] at l
  exact .inl ⟨v H g,A D H ys r g h l⟩
theorem Jy {K:W.Frag} (p:V->Bool) (f:V->List V) (c:CV K H1 a xs) (k:xs.length<sizeLine)
  (h:∀ x∈xs,∀ H,Aj H1 H->∀ R:Bool->Hp->Prop,(∀ H',Aj H H'->R (p x) H')->tt (some x::σ) H R)
  (j:∀ x∈xs,p x=true->∀ H,Aj H1 H->∀ R:VK,(∀ y H',Aj H H'->TupAt H' (f x) y->R y H')->te (some x::σ) H R)
  (e:∀ D H ys,H1 D=none->Aj H1 H->H D=some (.lst ys)->Paired (λx y=>TupAt H (f x) y) (xs.filter p) ys->Q (.ref D) H):D_ (WR K a) σ H1 Q tt te :=
 K7 p f k (λi H x b g=>⟨xs,x,b.seq c,g⟩) (λi H y H' b _ d=>⟨d.1,d.2 xs (b.seq c)⟩) (λH b=>⟨xs,b.seq c,ai _⟩) h j e
theorem MN {α β:Type} {F:α->β->Prop} (g:Nat->α):∀ {n:Nat} {l:List α} {ys:List β},Paired F l ys->l=(List.range n).map g->Paired (λi y=>F (g i) y) (List.range n) ys:=by
 intro n
 have d:∀ (c:List Nat) (ys:List β),Paired F (c.map g) ys->Paired (λi y=>F (g i) y) c ys:=by
  intro c
  induction c with
  | nil=>intro ys h;cases h;exact .nil
  | cons j c f =>
   intro ys h
   cases h with
   | cons a b=>exact .cons a (f _ b)
 intro l ys h e
 subst e
 exact d _ _ h
theorem Ri (f:Nat->List V) (t:n<sizeLine)
  (p:∀ i:Nat,i<n->∀ H,Aj H1 H->∀ R:VK,(∀ y H',Aj H H'->TupAt H' (f i) y->R y H')->te (some (.int (i:Int))::σ) H R)
  (s:∀ D H ys,H1 D=none->Aj H1 H->H D=some (.lst ys)->Paired (λi y=>TupAt H (f i) y) (List.range n) ys->Q (.ref D) H):D_ (YB 0 n) σ H1 Q Xf te:=by
 let g:V->Nat:=λv=>match v with | .int i=>i.toNat | _=>0
 have c:∀ i:Nat,i<n->((List.range n).map λ(i:Nat)=>V.int (i:Int))[i]? = some (.int i):=λi a=>by simp[a]
 refine K7 (xs:=(List.range n).map λ(i:Nat)=>V.int (i:Int)) (λ_=>true) (λv=>f (g v)) (by simpa using t) (λi H x _ b=>?_) (λi H y H' _ a m=>?_) (λH _=>?_) (λx b H e R k=>k H (Aj.refl H)) (λx b _ H e R k=>?_) (λD H ys r j o h=>?_)
 ·have:i<((List.range n).map λ(i:Nat)=>V.int (i:Int)).length:=(ag.mp b).1
  show i<n
  simpa using this
 ·obtain⟨q,l⟩:=m
  have d:i<n:=by simpa using a
  refine⟨q,?_⟩
  rw[c i d,l,Int.zero_add]
 ·show n<=_
  simp
 ·obtain⟨i,a,rfl⟩:=ay.mp b
  exact p i (dt.mp a) H e R k
 ·rw[br.mpr (λ_ _=>rfl)] at h
  exact s D H ys r j o (MN (F:=λx y=>TupAt H (f (g x)) y) (λi=>V.int (i:Int)) h rfl)
theorem Uy {K:W.Frag} {b:Addr} (f:V->V->V) (k:Er K H1 a xs) (q:Er K H1 b ys) (w:xs.length=ys.length) (I:xs.length<sizeLine)
  (B:∀ (i:Nat) x y,xs[i]? = some x->ys[i]? = some y->∀ H,Aj H1 H->∀ R:VK,(∀ H',Aj H H'->R (f x y) H')->te (some x::some y::σ) H R)
  (E:∀ D H,H1 D=none->Aj H1 H->H D=some (.lst (List.zipWith f xs ys))->Q (.ref D) H):Jf (k_ K a b) σ H1 Q (Rh K 2 (HY (Et 0) (HY (Et 1) Vr))) Xf te:=by
 intro D j
 have A:Aj H1 (upd H1 D (.lst [])):=λb o e=>by rw[Aw (An e j)];exact e
 refine⟨λi m l H=>m=xs.length - i/\i<=xs.length/\l=(List.zipWith f xs ys).take i/\H D=some (.lst l)/\Aj H1 H,⟨xs.length,by simp,Nat.zero_le _,by simp,Al,A⟩,?_⟩
 rintro i m l H ⟨rfl,L,rfl,h,c⟩
 have g:(List.zipWith f xs ys).length=xs.length:=by rw[gu];omega
 by_cases d:i<xs.length
 ·have u:xs[i]? = some xs[i]:=ae d
  have z:ys[i]? = some ys[i]:=ae (w ▸ d)
  refine .inr ⟨⟨xs,ys,_,_,c.tup k,c.tup q,u,z⟩,λv M p F J=>?_⟩
  obtain⟨T,C,rfl,p⟩:=p
  obtain⟨x,y,t,r,rfl⟩:=p xs ys (c.tup k) (c.tup q)
  have n:Aj H (upd H T (.tup [x,y])):=λb o e=>by rw[Aw (An e C)];exact e
  refine⟨T,[x,y],rfl,iO Al,rfl,x,[y],rfl,y,[],rfl,rfl,⟨_,_,rfl⟩,?_⟩
  unfold Xf
  dsimp only
  rw[if_pos rfl]
  refine B i x y t r _ (c.trans n) _ λG s=>?_
  refine⟨s _ _ (n _ _ h),?_,xs.length - (i+1),by omega,rfl,d,?_,Al,λb o e=>?_⟩
  ·rw[df,g]
   omega
  ·rw[cE,fw,t,r]
   rfl
  ·rw[Aw (An e j)]
   exact s _ _ (n _ _ (c _ _ e))
 ·have e:i=xs.length:=by omega
  subst e
  rw[<-g,eD] at h
  exact .inl ⟨⟨xs,c.tup k,ai _⟩,E D H j c h⟩
theorem Rb {K:W.Frag} (p:Nat->V->Bool) (f:Nat->V->V) (s:CV K H1 a xs) (A:xs.length<sizeLine)
  (C:∀ (i:Nat) x,xs[i]? = some x->∀ H,Aj H1 H->∀ R:Bool->Hp->Prop,(∀ H',Aj H H'->R (p i x) H')->tt (some (.int (i:Int))::some x::σ) H R)
  (F:∀ (i:Nat) x,xs[i]? = some x->p i x=true->∀ H,Aj H1 H->∀ R:VK,(∀ H',Aj H H'->R (f i x) H')->te (some (.int (i:Int))::some x::σ) H R)
  (B:∀ D H,H1 D=none->Aj H1 H->H D=some (.lst ((xs.zipIdx.filter λq=>p q.2 q.1).map λq=>f q.2 q.1))->Q (.ref D) H):Jf (cU K a) σ H1 Q (Rh K 2 (HY (Et 0) (HY (Et 1) Vr))) tt te:=by
 intro D n
 have E:Aj H1 (upd H1 D (.lst [])):=λb o e=>by rw[Aw (An e n)];exact e
 refine⟨λi m t H=>m=xs.length - i/\i<=xs.length/\t=(((xs.zipIdx.take i).filter λq=>p q.2 q.1).map λq=>f q.2 q.1)/\H D=some (.lst t)/\Aj H1 H,⟨xs.length,by simp,Nat.zero_le _,by simp,Al,E⟩,?_⟩
 rintro i m t H ⟨rfl,N,rfl,l,c⟩
 by_cases d:i<xs.length
 ·have z:xs[i]? = some xs[i]:=ae d
  refine .inr ⟨⟨xs,_,c.seq s,z⟩,λv O u I L=>?_⟩
  obtain⟨T,G,rfl,u⟩:=u
  obtain⟨x,r,rfl⟩:=u xs (c.seq s)
  have g:Aj H (upd H T (.tup [.int (i:Int),x])):=λb o e=>by rw[Aw (An e G)];exact e
  have y:xs.zipIdx[i]? = some (x,i):=by rw[List.getElem?_zipIdx,r];simp
  have j:(((xs.zipIdx.take i).filter λq=>p q.2 q.1).map λq=>f q.2 q.1).length<sizeLine:=by
   rw[af]
   refine bv (ck _ _) (bv ?_ A)
   rw[df,List.length_zipIdx];omega
  refine⟨T,[.int (i:Int),x],rfl,iO Al,rfl,_,[x],rfl,x,[],rfl,rfl,⟨_,_,rfl⟩,?_⟩
  refine C i x r _ (c.trans g) _ λM k=>?_
  by_cases h:p i x=true
  ·rw[if_pos h]
   refine F i x r h _ (c.trans (g.trans k)) _ λJ w=>?_
   refine⟨w _ _ (k _ _ (g _ _ l)),j,xs.length - (i+1),by omega,rfl,d,?_,Al,λb o e=>?_⟩
   ·rw[take_succ_filter (λq:V × Nat=>p q.2 q.1) xs.zipIdx i (x,i) y,if_pos h,db]
    rfl
   ·rw[Aw (An e n)]
    exact w _ _ (k _ _ (g _ _ (c _ _ e)))
  ·rw[if_neg h]
   refine⟨xs.length - (i+1),by omega,rfl,d,?_,k _ _ (g _ _ l),c.trans (g.trans k)⟩
   rw[take_succ_filter (λq:V × Nat=>p q.2 q.1) xs.zipIdx i (x,i) y,if_neg h,gz]
 ·have e:i=xs.length:=by omega
  subst e
  rw[List.take_of_length_le (by simp)] at l
  exact .inl ⟨⟨xs,c.seq s,ai _⟩,B D H n c l⟩
end
theorem Jh {K:W.Frag} {g:TG} {tb:TS} (b:Nat->St->Hp->Prop) (n:b 0 σ H) (f:∀ i σ H,i<=xs.length->b i σ H->CV K H a xs)
  (l:∀ (i:Nat) x σ H T,xs[i]? = some x->b i σ H->H T=none->g (.ref T) σ (upd H T (.tup [.int (i:Int),x])) λσ' H'=>tb { D with nx:=b (i+1),ct:=b (i+1),bk:=D.nx } σ' H')
  (p:∀ σ H,b xs.length σ H->D.nx σ H):∃ W:Nat->Nat->St->Hp->Prop,(∃ m,W 0 m σ H)/\∀ i m σ H,W i m σ H ->
   ((cU K a).stop i H/\D.nx σ H) \/ ((cU K a).go i H/\∃ N:St->Hp->Prop,(∀ σ H,N σ H->∃ m',m'<m/\W (i+1) m' σ H)/\∀ x H',(cU K a).yld i H x H'->g x σ H' λσ' rc=>tb { D with nx:=N,ct:=N,bk:=D.nx } σ' rc):=by
 refine⟨λi m σ H=>m=xs.length - i/\i<=xs.length/\b i σ H,⟨_,rfl,ee _,n⟩,?_⟩
 rintro i m σ H ⟨rfl,j,d⟩
 by_cases c:i<xs.length
 ·refine .inr ⟨⟨xs,_,f i σ H j d,ae c⟩,b (i+1),λσ' H' h=>⟨xs.length - (i+1),by omega,rfl,c,h⟩,λv H' k=>?_⟩
  obtain⟨T,o,rfl,k⟩:=k
  obtain⟨x,q,rfl⟩:=k xs (f i σ H j d)
  exact l i x σ H T q d o
 ·have e:i=xs.length:=by omega
  subst e
  exact .inl ⟨⟨xs,f _ σ H j d,ai _⟩,p σ H d⟩
section
variable {w:World} {E:vSP} {K:W.Frag} {x:Addr} {ox:Obj} {od:Option Obj} {name:Str} {tk:Tok} {R:Result->Shared->Prop}
end
section
variable {w:World} {E:vSP} {K:W.Frag} {g:Array GenState} {d:Drawn} {t:Nat} {os:OsState}
end
def dF (x C:Addr) (od:Option Addr):HO:=.ext λh=>∃ (d:Data) (sl:Array (Option Value)),h.get? x=some ⟨.ref C,od,d,sl⟩/\W.notCls ⟨.ref C,od,d,sl⟩=true
def qg (dx:Addr) (fs:List (Str × V)):HO:=.ext λh=>∃ mA,h.Ns1 dx mA/\∀ f,Gs (fs.lookup f) (mA f)
section
variable {w:World} {x:Addr} {od:Option Addr} {fs:List (Str × V)}
inductive Yo (H:Hp) (x C:Addr):List (Str × V)->Prop where
 | bare (e:H x=some (dF x C none)):Yo H x C []
 | full {dx:Addr} {fs:List (Str × V)} (e:H x=some (dF x C (some dx))) (d:H dx=some (qg dx fs)):Yo H x C fs
end
section
variable {w:World}
end
section
variable {t:TA} {p:Pos}
end
section
variable {f:Str}
end
section
variable {w:World} {E:vSP} {K:W.Frag} {x:Addr} {name:Str} {v:Value} {R:Result->Shared->Prop} {d:Data} {sl:Array (Option Value)}
end
section
variable {x:Addr} {f:Str}
end
section
variable {o value:Expr} {f:Str} {kq:Pos} {tv:TE}
end
section
variable {ps:List Str} {sp:Sp} {k:Nat} {t:TA} {p:Pos}
end
def Yk:List V->List V->Bool
 | [],[]=>true
 | x::xs,y::ys=>K3 x y && Yk xs ys
 | _,_=>false
theorem Km:∀ (xs ys:List V),xs.length=ys.length->((List.range xs.length).all λj=>K3 (xs.getD j .non) (ys.getD j .non))=Yk xs ys
 | [],[],_=>rfl
 | x::xs,y::ys,h=>by
  have a:=Km xs ys (by simpa using h)
  rw[cK,List.range_succ_eq_map,iA,List.all_map]
  show (K3 x y && _)=(K3 x y && Yk xs ys)
  rw[<-a]
  rfl
 | [],_::_,h=>by simp at h
 | _::_,[],h=>by simp at h
theorem QB:∀ (xs ys:List V),xs.length ≠ ys.length->Yk xs ys=false
 | [],[],h=>absurd rfl h
 | x::xs,y::ys,h=>by
  show (K3 x y && Yk xs ys)=false
  rw[QB xs ys (λe=>h (by simp[e])),Bool.and_false]
 | [],_::_,_=>rfl
 | _::_,[],_=>rfl
theorem Ud {x:V} (h:F_ x=true):K3 x x=true:=by
 cases x with
 | non=>rfl
 | bl b=>simp[K3]
 | int i=>simp[K3]
 | str z=>simp[K3]
 | _=>exact absurd (show false=true from h) Bool.false_ne_true
theorem Nr:∀ {xs:List V},xs.all F_=true->Yk xs xs=true
 | [],_=>rfl
 | x::xs,h=>by
  rw[iA,dS] at h
  show (K3 x x && Yk xs xs)=true
  rw[Ud h.1,Nr h.2]
  rfl
theorem Qx (h:xs.all F_=true) (a:j<xs.length):F_ (xs.getD j .non)=true:=by
 have e:xs.getD j .non=xs[j]:=by simp[a]
 rw[e]
 exact fb.mp h _ (zdl a)
theorem Ug (r:Vals xs us) (a:j<us.length):RelV (xs.getD j .non) us[j]:=by
 have c:=r.length
 have f:xs[j]? = some xs[j]:=by simp[c,a]
 obtain⟨u,b,d⟩:=r.get f
 rw[ae a] at b
 cases b
 have e:xs.getD j .non=xs[j]:=by simp[c,a]
 rw[e]
 exact d
end L2
namespace Wd
def mk (l:List Nat):Nat:=l.foldl (λs n=>s ||| 2 ^ n) 0
theorem Rp (l:List Nat):∀ (s i:Nat),(l.foldl (λs n=>s ||| 2 ^ n) s).testBit i=(s.testBit i || decide (i∈l)):=by
 induction l with
 | nil=>intro s i;simp
 | cons n l a =>
  intro s i
  rw[List.foldl_cons,a,Nat.testBit_or,Nat.testBit_two_pow]
  by_cases h:n=i
  ·subst h;simp
  ·have b:¬ i=n:=λe=>h e.symm
   simp[h,b]
theorem Ec (l:List Nat) (i:Nat):(mk l).testBit i=decide (i∈l):=by
 unfold mk;rw[Rp];simp
def len (n:Nat):Nat:=if n=0 then 0 else n.log2+1
theorem Sw (h:n.testBit i=true):i<len n:=by
 unfold len
 have a:n ≠ 0:=by intro e;subst e;simp at h
 rw[if_neg a]
 have b:2 ^ i<=n:=Nat.ge_two_pow_of_testBit h
 have c:i<=n.log2:=(Nat.le_log2 a).mpr b
 omega
def mem (n:Nat):List Nat:=(List.range (len n)).filter n.testBit
theorem mem_iff:i∈mem n ↔ n.testBit i=true:=by
 unfold mem
 rw[aS,dt]
 exact⟨λh=>h.2,λh=>⟨Sw h,h⟩⟩
theorem MJ {k:Nat} (h:n<2 ^ k):len n<=k:=by
 unfold len
 split
 ·omega
 ·rename_i a
  have:n.log2<k:=(Nat.log2_lt a).mpr h
  omega
def mv (n:Nat) (k:Int) (c:Nat):Nat:=(if 0<k then n * 2 ^ k.toNat else n / 2 ^ (-k).toNat) % 2 ^ c
theorem aY (n:Nat) (k:Int) (c i:Nat):(mv n k c).testBit i=(decide (i<c) && (decide (0<=(i:Int) - k) && n.testBit ((i:Int) - k).toNat)):=by
 unfold mv
 rw[Nat.testBit_mod_two_pow]
 congr 1
 split
 ·rename_i h
  rw[Nat.testBit_mul_two_pow]
  by_cases b:k.toNat<=i
  ·have e:((i:Int) - k).toNat=i - k.toNat:=by omega
   have a:(0:Int)<=i - k:=by omega
   rw[decide_eq_true a,e];simp[b]
  ·have a:¬ (0:Int)<=i - k:=by omega
   rw[decide_eq_false a];simp[b]
 ·rename_i h
  rw[Nat.testBit_div_two_pow]
  have e:((i:Int) - k).toNat=i+(-k).toNat:=by omega
  have a:(0:Int)<=i - k:=by omega
  rw[decide_eq_true a,e];simp
def stay (l:List Nat) (k:Int) (c:Nat):List Nat:=l.filter λn=>decide (0<=(n:Int)+k) && decide ((n:Int)+k<c)
theorem YT {l:List Nat} (a:∀ n∈l,n<1200):mk l<2 ^ 1200:=by
 refine Nat.lt_pow_two_of_testBit _ λi b=>?_
 rw[Ec]
 exact decide_eq_false λh=>absurd (a i h) (by omega)
theorem X3 (l:List Nat) (n:Nat):mk (l++[n])=mk l ||| 2 ^ n:=by
 unfold mk;rw[List.foldl_append];rfl
end Wd
namespace L2
open PySem PySem.Spec PySem.Calls PyProof.Rows
theorem Ql:∀ {xs:List V} {us:List Value},xs.length=us.length->(∀ (j:Nat) x u,xs[j]? = some x->us[j]? = some u->RelV x u)->Vals xs us
 | [],[],_,_=>.nil
 | [],_::_,h,_=>by simp at h
 | _::_,[],h,_=>by simp at h
 | x::xs,u::us,h,f=>.cons (f 0 x u rfl rfl) (Ql (by simpa using h) λj y v a b=>f (j+1) y v (by simpa using a) (by simpa using b))
section
variable {k1:Nat} {nE:Pos}
theorem Jo (K:X.calm=true):Ep X (.type "list") (λxs H Q=>∃ (a:Addr) (kvs:List (Key × V)) (js:List Int),xs=[V.ref a]/\H a=some (.dK kvs)/\kvs.map (·.1)=js.map Sum.inl/\∀ l,H l=none->Q (.ref l) (upd H l (.lst (js.map V.int)))):=by
 intro a0 s σ H xs us Q I r h
 obtain⟨a,kvs,js,rfl,ha,E,q⟩:=h
 obtain⟨u,rfl,M⟩:=vals1 r
 cases M
 obtain⟨hz,lo,g,G,o,Y,B,n,v,C,L,e5,U⟩:=I.hok a _ ha
 have hl:kvs.length=g.length:=Paired.length G
 have z:s.heap.DictAt (CZ X.prog X.w) a g B:=⟨o,Y,n,v,C,L,e5,U⟩
 refine W.kdl_call (W.kdl_dict (knd:=CZ X.prog X.w) (kvs:=g) (ep:=B) lo) (I.ok.hd K) z (by omega) ?_
 intro h' tk f T R P J
 have N:js.length=g.length:=by
  have:=congrArg List.length E
  rw[af,af] at this
  omega
 have hv:Vals (js.map V.int) f.toList:=by
  refine Ql (by have h1:f.toList.length=f.size:=Array.length_toList;have h2:=J.1;rw[af];omega) λj x u F D=>?_
  rw[Array.getElem?_toList] at D
  obtain⟨k,y,w,Z⟩:=J.2 j u D
  rw[ar] at F
  obtain⟨i,hi,rfl⟩:=cr.mp F
  have n:(kvs.map (·.1))[j]? = some (Sum.inl i):=by rw[E,ar,hi];rfl
  rw[ar] at n
  obtain⟨kv,O,ID⟩:=cr.mp n
  have d:∀ {l:List (Key × V)} {m:List (Key × Value)},KV l m->∀ {j:Nat} {p q},l[j]? = some p->m[j]? = some q->p.1=q.1:=by
   intro l m h
   unfold KV at h
   induction h with
   | nil=>intro j p q c;simp at c
   | cons a b S =>
    intro j p q c A
    cases j with
    | zero =>
     simp at c A
     subst c A
     exact a.1
    | succ j=>exact S (by simpa using c) (by simpa using A)
  have v:=d G O w
  rw[ID] at v
  have C:k=Sum.inl i:=v.symm
  subst C
  rcases CG (show J6 (Sum.inl i) u=true from Z) with⟨i',t,e,rfl⟩ | ⟨x,t,e,_⟩
  ·cases e
   exact⟨t,rfl⟩
  ·cases e
 refine⟨.ref s.heap.objs.size,_,I.laid (t':=tk) (o:=.lst (js.map V.int)) R (Nat.le_refl _) ⟨by rw[List.length_map];omega,f.toList,T,hv,by simpa using P⟩,rfl,q _ (I.hok.fresh (Nat.le_refl _))⟩
theorem NK:oZ X "int.bit_length" (λx xs H Q=>∃ i,x=V.int i/\xs=[]/\Q (.int (Builtin.Int.intBits i)) H):=by
 intro c s σ H x xs v b Q I a r h
 obtain⟨i,rfl,rfl,q⟩:=h
 obtain⟨t,rfl⟩:=a
 cases r
 exact PyProof.Rows.call_int_bit_length ⟨.int _,H,I.tok _,⟨_,rfl⟩,q⟩
end
theorem Ls (a b:Nat):Builtin.bitOr (a:Int) (b:Int)=((a ||| b:Nat):Int):=by
 have e:¬ 0<=Builtin.bitNot (a:Int):=by unfold Builtin.bitNot;omega
 have d:¬ 0<=Builtin.bitNot (b:Int):=by unfold Builtin.bitNot;omega
 have c:∀ x:Int,Builtin.bitNot (Builtin.bitNot x)=x:=λx=>by unfold Builtin.bitNot;omega
 unfold Builtin.bitOr
 rw[bitAnd_nn e d,c,c,c]
 simp
theorem M3 (a b:Nat):Builtin.bitAnd (a:Int) (b:Int)=((a &&& b:Nat):Int):=by
 rw[bitAnd_pp (io a) (io b)]
 simp
theorem Io (n:Nat):Builtin.Int.intBits (n:Int)=Wd.len n:=by
 unfold Builtin.Int.intBits Wd.len
 by_cases h:n=0
 ·subst h;rfl
 ·have a:((n:Int) == 0)=false:=by simpa using h
  rw[a,if_neg h]
  simp
theorem Gu (k:Nat):(2:Int) ^ k=((2 ^ k:Nat):Int):=by simp
end L2
namespace Wd
open PySem
abbrev W7 (xs:Array Nat):Prop:=xs.toList.Pairwise (· < ·)
theorem OJ {xs:Array Nat} (r:W7 xs) {k:Nat} (h:i<k) (a:k<xs.size):xs.getD i 0<xs.getD k 0:=by
 have b:i<xs.size:=ip h a
 have:=(List.pairwise_iff_getElem.mp r) i k (by simpa using b) (by simpa using a) h
 simpa [Array.getD,b,a] using this
structure Cut (xs:Array Nat) (j p:Nat):Prop where
 le:p<=xs.size
 lo:∀ i,i<p->xs.getD i 0<j
 hi:∀ i,p<=i->i<xs.size->j<=xs.getD i 0
theorem Jw {xs:Array Nat} (r:W7 xs) (j:Nat):∀ (fuel lo hi:Nat),hi<=xs.size->hi - lo<=fuel->lo<=hi->(∀ i,i<lo->xs.getD i 0<j)->(∀ i,hi<=i->i<xs.size->j<=xs.getD i 0)->Cut xs j (SetTable.below.go xs j fuel lo hi)
 | 0,lo,hi,c,h,m,a,b=>by
  have e:lo=hi:=by omega
  subst e
  exact⟨c,a,b⟩
 | fuel+1,lo,hi,c,h,m,a,b=>by
  unfold SetTable.below.go
  split
  ·rename_i l
   have g:(lo+hi) / 2<xs.size:=by omega
   have e:xs.getD ((lo+hi) / 2) j=xs.getD ((lo+hi) / 2) 0:=by simp[Array.getD,g]
   dsimp only
   rw[e]
   by_cases d:xs.getD ((lo+hi) / 2) 0<j
   ·rw[if_pos d]
    refine Jw r j fuel ((lo+hi) / 2+1) hi c (by omega) (by omega) (λi f=>?_) b
    by_cases q:i=(lo+hi) / 2
    ·rw[q];exact d
    ·have:=OJ r (i:=i) (k:=(lo+hi) / 2) (by omega) g
     omega
   ·rw[if_neg d]
    refine Jw r j fuel lo ((lo+hi) / 2) (by omega) (by omega) (by omega) a λi f n=>?_
    by_cases q:i=(lo+hi) / 2
    ·rw[q];omega
    ·have:=OJ r (i:=(lo+hi) / 2) (k:=i) (by omega) n
     omega
  ·have e:lo=hi:=by omega
   subst e
   exact⟨c,a,b⟩
theorem Kv {xs:Array Nat} (r:W7 xs) (j:Nat):Cut xs j (SetTable.below xs j) :=
 Jw r j xs.size 0 xs.size (ai _) (by omega) (ee _) (λi h=>absurd h (ic _)) (λi b a=>absurd a (by omega))
theorem Pn {xs:Array Nat} (r:W7 xs) (h:xs[SetTable.below xs j]? ≠ some j):j ∉ xs.toList:=λf=>by
 have c:=Kv r j
 obtain⟨i,k,e⟩:=fq.mp f
 have a:i<xs.size:=by simpa using k
 have l:xs.getD i 0=j:=by simpa [Array.getD,a] using e
 have g:SetTable.below xs j<=i:=by
  rcases Nat.lt_or_ge i (SetTable.below xs j) with q | q
  ·have:=c.lo i q;omega
  ·exact q
 have b:SetTable.below xs j<xs.size:=bv g a
 have n:=c.hi _ (ai _) b
 have m:SetTable.below xs j=i:=by
  rcases Nat.lt_or_ge (SetTable.below xs j) i with q | q
  ·have:=OJ r q a;omega
  ·omega
 refine h ?_
 have d:xs[i]=j:=by simpa [Array.getD,a] using l
 rw[m,Array.getElem?_eq_getElem a,d]
theorem N5 {xs:Array Nat} (r:W7 xs) (h:xs[SetTable.below xs j]? ≠ some j):W7 (SetTable.insertAt xs (SetTable.below xs j) j):=by
 have c:=Kv r j
 have o:=Pn r h
 show (SetTable.insertAt xs (SetTable.below xs j) j).toList.Pairwise _
 rw[SetTable.toList_insertAt,ft,fT]
 have g:∀ a∈xs.toList.take (SetTable.below xs j),a<j:=λa f=>by
  obtain⟨i,k,e⟩:=fq.mp f
  rw[df] at k
  have d:i<xs.size:=by simp at k;omega
  have:=c.lo i (by omega)
  simp[Array.getD,d] at this
  rw[List.getElem_take] at e
  rw[<-e]
  simpa using this
 have Rm:∀ a∈xs.toList.drop (SetTable.below xs j),j<a:=λa f=>by
  obtain⟨i,k,e⟩:=fq.mp f
  rw[iF] at k
  have d:SetTable.below xs j+i<xs.size:=by simp at k;omega
  have:=c.hi (SetTable.below xs j+i) (iL _ _) d
  simp[Array.getD,d] at this
  rw[List.getElem_drop] at e
  have m:j<=a:=by rw[<-e];simpa using this
  have n:j ≠ a:=λz=>o (by rw[z];exact List.mem_of_mem_drop f)
  omega
 exact⟨r.sublist (List.take_sublist _ _),⟨Rm,r.sublist (List.drop_sublist _ _)⟩,λa f b l=>by
  rcases cm.mp l with e | l
  ·rw[e];exact g a f
  ·have:=g a f;have:=Rm b l;omega⟩
theorem RV {t:SetTable} (h:∀ i,t.slot j ≠ .live i):t.place[SetTable.below t.place j]? ≠ some j:=λe=>by
 refine h (SetTable.below t.place j) ?_
 unfold SetTable.slot
 dsimp only
 rw[e]
 simp
theorem HX (t:SetTable) (p:SetTable.Probe):(t.advance p).dummy=p.dummy:=by
 unfold SetTable.advance
 split <;> rfl
theorem Hd {t:SetTable} {f:Nat->Int} {h:Int}:∀ (fuel:Nat) (p:SetTable.Probe) (j:Nat) (dm:Option Nat),(∀ d,p.dummy=some d->t.slot d=.dummy)->SetTable.probe.go t f h fuel p=some (.empty j dm) ->
  t.slot j=.empty/\∀ d,dm=some d->t.slot d=.dummy
 | 0,p,j,dm,b,e=>by unfold SetTable.probe.go at e;cases e
 | fuel+1,p,j,dm,b,e=>by
  unfold SetTable.probe.go at e
  split at e
  ·rename_i a
   cases e
   exact⟨a,b⟩
  ·rename_i a
   refine Hd fuel _ j dm (λd q=>?_) e
   rw[HX] at q
   cases q
   exact a
  ·split at e
   ·cases e
   ·refine Hd fuel _ j dm (λd q=>?_) e
    rw[HX] at q
    exact b d q
theorem Sv {t:SetTable} {h:Int} {d:Bool} (e:t.freeSlot h=some (j,d)):∀ i,t.slot j ≠ .live i:=by
 unfold SetTable.freeSlot at e
 split at e
 ·rename_i a f q
  unfold SetTable.probe at q
  obtain⟨g,c⟩:=Hd _ _ _ _ (λd k=>by simp[SetTable.probeStart] at k) q
  cases f with
  | none=>cases e;intro i z;rw[show (none:Option Nat).getD a=a from rfl,g] at z;cases z
  | some b =>
   cases e
   intro i z
   rw[show (some b).getD a=b from rfl,c b rfl] at z
   cases z
 ·cases e
structure Good (t:SetTable) (led:Bool):Prop where
 led:t.led=led
 ris:t.plain=true->W7 t.place
theorem Pb (a:Bool):Good (.fresh 0 0 a) a:=⟨rfl,λ_=>by simp[SetTable.fresh,W7]⟩
theorem Gg {t:SetTable} (g:Good t led) (n:Nat):Good (t.standIn n) led:=⟨g.led,λh=>by simp[SetTable.standIn] at h⟩
theorem Wj {t:SetTable} (g:Good t led) (n:Nat):Good (t.orStandIn n) led:=by
 unfold SetTable.orStandIn
 split
 ·exact g
 ·exact Gg g n
theorem Vw {t:SetTable} (g:Good t led) (c:Array (Int × Value)) (h:Int) (x:Value):Good (layNew t c h x).2.1 led:=by
 unfold layNew
 split
 ·rename_i a d e
  refine Wj (t:=(t.put a).1) ⟨g.led,λb=>?_⟩ _
  exact N5 (g.ris b) (RV (Sv e))
 ·exact Gg g _
theorem RP {g j h:Nat} {plain:Bool} {i:Array Int} {t:SetTable} {o:Array Nat} (e:SetTable.laid g j h led plain i=some (t,o)):Good t led/\t.plain=plain:=by
 unfold SetTable.laid at e
 simp only[Option.bind_eq_bind,Option.bind_eq_some_iff] at e
 obtain⟨k,_,e⟩:=e
 cases e
 refine⟨⟨rfl,λ_=>?_⟩,rfl⟩
 show List.Pairwise _ ((List.map _ _).toArray).toList
 rw[ga,List.pairwise_filterMap]
 refine List.pairwise_lt_range.imp λ{a b} c x d y f=>?_
 obtain⟨u,_,rfl⟩:=cr.mp d
 obtain⟨v,_,rfl⟩:=cr.mp f
 exact c
theorem O_ {t:SetTable} (g:Good t led) (b:Array (Int × Value)) (n:Nat):Good (relayAll t b n).2.1 led:=by
 unfold relayAll
 split
 ·rename_i c a e
  dsimp only
  split
  ·have:=RP e
   rw[g.led] at this
   exact this.1
  ·exact Gg g _
 ·exact Gg g _
open PySem PySem.Spec PyProof.Rows
def oG (prog:Program) (w:World) (h:Heap) (a:Addr) (led:Bool) (σ:List Int):Prop :=
 ∃ es ep t,h.get? a=some { cls:=.type "set",dict:=none,data:=.set es ep t }/\ElemsOf (intKind prog w) es.toList/\(∀ k,k∈σ ↔ ∃ e∈es.toList,(intKind prog w).is k e.2=true)/\es.size=σ.length/\σ.Nodup /\
  σ.length<scanBound/\t.fits es.size=true/\Good t led
section
variable {w:World} {E:vSP} {σ:List Int} {k:Int} {tk:Tok}
theorem QJ {b es':Array (Int × Value)} {ep:Nat} {t t':SetTable} (c:h.get? a=some { cls:=.type "set",dict:=none,data:=.set b ep t }) :
  (h.update a (Obj.putSet es' t')).get? a=some { cls:=.type "set",dict:=none,data:=.set es' (ep+1) t' } :=
 (Heap.get?_update_self (Obj.putSet es' t') c (by rw[putSet_of es' t' rfl];rfl)).trans (by rw[putSet_of es' t' rfl])
end
section
variable {w:World} {R:Result->Shared->Prop} {I:Addr} {wr:List Addr} {G:Array GenState->Array GenState->Prop} {P:Nat->Value->Prop} {St:Nat->Shared->Prop}
end
section
variable {w:World} {E:vSP}
abbrev Dz (w:World):Bool:=!w.params.followText "set-order"
theorem eN (a:Value) {Q1:vSP} (h:Q1 (.ref s.heap.objs.size) { s with heap:=s.heap.push { cls:=.type "set",dict:=none,data:=.set #[] 0 (.fresh 0 0 (Dz w)) } }) :
  codeAny (model prog w) A (.call (.builtin "set.__new__") ⟨[.type "set",a],[]⟩) (wants Q1 E) s:=by
 refine codeAny_of_tree ?_
 show wpAny _ A.in1 (do checkBuiltinCall "set.__new__" ⟨[.type "set",a],[]⟩;again (.builtin "set.__new__" ⟨[.type "set",a],[]⟩)) _ _ s
 refine wpAny_bind (wpAny_of_eq (F.newCall_set_1 a) (wpAny_pure ⟨plainId_quiet F.plain_set_new _,codeAny_builtin F.entry_set_new ?_⟩))
 rw[Around.under_plainId F.plain_set_new _]
 unfold Builtin.«set.__new__» Builtin.Frozenset.newClass
 have b:=sub_set_self
 obtain⟨c,g,d,tk,os⟩:=s
 dsimp only
 wp_walk
 refine wpAny_askSetting (wpAny_pure ?_)
 dsimp only
 simp only[newObj]
 exact wpAny_bind (wpAny_alloc (wpAny_pure (wpAny_pure h)))
end
section
variable {M:Model} {E:vSP}
end
def qJ (first:Value) (i:Nat) (a:Addr) (n ep:Nat):Obj:={ cls:=.type "set_iterator",data:=.fields #[first,rawInt i,.ref a,rawInt n,rawInt ep] }
inductive Way (w:World) (a:Addr) (es:Array (Int × Value)) (ep:Nat) (t:SetTable) (h:Heap):(Nat->Value)->List Value->List Addr->Prop where
 | text (hb:w.params.followText "set-order" = true):Way w a es ep t h (λ_=>rawInt 0) ((pickOrder (w.params.setOrder a ep) es).toList.map (·.2)) []
 | drawn {tp:Addr} {ps:List Nat} (hb:w.params.followText "set-order" = false) (hp:ps.Perm (List.range es.size)) (ht:∃ n,h.get? tp=some { cls:=.type "tuple",data:=.seq (ps.map λ(i:Nat)=>rawInt i).toArray n }) :
   Way w a es ep t h (λ_=>.ref tp) (ps.map λi=>(es.getD i (0,.none)).2) [tp]
 | plain (hb:w.params.followText "set-order" = false) (hd:(!t.plain && decide (es.size > 1))=false) (hl:t.led=true) (hr:W7 t.place) (hs:t.place.size=es.size) :
   Way w a es ep t h (λi=>rawInt (if i=0 then 0 else t.place.getD (i - 1) 0+1:Nat)) (es.toList.map (·.2)) []
section
variable {w:World} {E:vSP} {it:Addr} {es:Array (Int × Value)} {ep:Nat} {t:SetTable} {first:Nat->Value} {vs:List Value} {more:List Addr}
end
end Wd
section PartSetJ
set_option maxHeartbeats 1000000
namespace Wd
open PySem PySem.Spec PyProof.Rows
section
variable {w:World} {E:vSP} {σ:List Int}
end
set_option maxHeartbeats 1000000
section
variable {w:World} {E:vSP} {σ:List Int}
end
end Wd
end PartSetJ
namespace L2
open PySem PySem.Spec PyProof.Rows
def qP (P:Program) (w:World) (a:Addr) (τ:List Int):HO:=.ext λh=>Wd.oG P w h a (Wd.Dz w) τ
theorem Inv.fK {t':Nat} {d':Drawn} (I:Inv X a0 σ H s) (k:∀ b u,s.heap.get? b=some u->h'.get? b=some u) (c:s.heap.objs.size<=a) (d:Bx X.prog X.w (upd H a o) h' a o) :
  Inv X a0 σ (upd H a o) { s with heap:=h',drawn:=d',toks:=t' } :=
 I.call (g':=s.gens) (d':=d') (t':=t') (ch:=[]) (Un.laid k c (I.hok.fresh c)) (I.hok.laid k c d) I.bare λb z=>absurd z (by simp)
theorem XR:GK X (binaryOp .LShift) (rI (λi j=>0<=j/\(Builtin.Int.intBits i:Int)+j<=2 ^ 27) λi j=>.int (i * 2 ^ j.toNat)):=Z7 λ_ _ _ _ _ _ _ a q=>lshift_int a.1 a.2 q
section
variable {w:World} {E:vSP} {r:Addr}
end
section
variable {p1 p2 q1 q2:Pos}
end
def gB (K:W.Frag) (a:Addr) (xs:List V):It :=
 ⟨λi H=>CV K H a xs/\i<xs.length,λi H x H'=>H'=H/\xs[xs.length - 1 - i]? = some x,λi H=>CV K H a xs/\i=xs.length⟩
theorem UW {w:World} {K:W.Frag} (a it:Addr) (xs:List V):Turn P w K tg (gB K a xs) [it] it (λi h=>h.IsRevIter it a ((xs.length:Int) - 1 - (i:Nat))) where
 mem:=by simp
 obj:=λi h st b f=>by
  have e:b=it:=by simpa using f
  subst e
  obtain⟨o,e,c,d⟩:=st
  exact⟨o,e,λv z=>by rw[d] at z;cases z⟩
 keep:=λi h j st k=>st.at λo e=>k it (by simp) o e
 item:=by
  intro X y n q D i F s σ H E I g st m
  subst y n q
  obtain⟨J,U⟩:=m
  obtain⟨M,Q,p,hz⟩:=I.list J
  have G:xs[xs.length - 1 - i]? = some (xs[xs.length - 1 - i]'(by omega)):=ae (by omega)
  obtain⟨u,L,N⟩:=Q.get G
  obtain⟨C,A,R,B,r,t⟩:=g it (by simp)
  have e:(xs.length:Int) - 1 - ((i:Nat):Int)=((xs.length - 1 - i:Nat):Int):=by omega
  rw[e] at st
  refine wpAny_pyNext_rev_item st p.isList (x:=u) (by simpa using L) λj l Z=>?_
  have T:Inv X F σ H { s with heap:=j }:=I.turned (t':=s.toks) (λb o f e=>(Z.2 b f).trans e) C A B r t
  have S:((xs.length - 1 - i:Nat):Int) - 1=(xs.length:Int) - 1 - ((i+1:Nat):Int):=by omega
  rw[S] at l
  obtain⟨o,O,c,d⟩:=id l
  exact⟨u,rfl,Mp (s:={ s with heap:=j }) O c d (by decide) ⟨_,H,T,N,⟨rfl,G⟩,l,λb f=>(g b f).1⟩⟩
 done:=by
  intro X y n q D i F s σ H E I g st m
  subst y n q
  obtain⟨J,rfl⟩:=m
  obtain⟨C,A,R,B,r,t⟩:=g it (by simp)
  have e:(xs.length:Int) - 1 - ((xs.length:Nat):Int) = -1:=by omega
  rw[e] at st
  exact wpAny_pyNext_rev_end (I.ok.hd D) st λj Y=>⟨rfl,I.turned (t':=s.toks) (λb o f e=>Y b o f e) C A B r t⟩
 self:=λ_ _ _ _ _ st h=>wpAny_pyIter_revIter st h
inductive Y8 (K:W.Frag) (R:It->Hp->Prop) (vs:List V) (H1:Hp):Prop
 | mk (a xs:_):vs=[.ref a]->CV K H1 a xs->R (gB K a xs) H1->Y8 K R vs H1
def mZ (K:W.Frag) (ta:TA):TI:=λσ H R=>ta σ H λvs H1=>Y8 K R vs H1
theorem Zd {l:Expr} {j:TA} {p:Pos} (k:Gl X "reversed") (A:X.mg "reversed" = none) (v:PA X [l] j) (C:starEach [l] X.env=[(false,eval l X.env)]:=by rfl):PI X tg (.Call (.Name "reversed" p) [l] [] pos) (mZ X.K j):=by
 intro y s σ H R I h
 refine Call_ (G7 I k A PyProof.Rows.boot_reversed (PyProof.Rows.callWith_type1 (Bt (v pos y s σ H _ I h) λE d ⟨J,r,g,B,w⟩=>?_) C rfl))
 obtain⟨a,i,e,D,q⟩:=w
 subst e
 obtain⟨u,rfl,z⟩:=vals1 B
 cases z
 obtain⟨c,n,x,F⟩:=g.list D
 refine call_reversed_list x.isList ?_
 have f:(d.heap.push (revObj a ((c.toArray.size:Int) - 1))).IsRevIter d.heap.objs.size a ((c.toArray.size:Int) - 1):=⟨_,Heap.get?_push_size _ rfl,rfl,rfl⟩
 refine wpAny_pyIter_revIter (s:={ d with heap:=d.heap.push (revObj a ((c.toArray.size:Int) - 1)) }) f ?_
 refine⟨d.heap.objs.size,[d.heap.objs.size],_,_,r,rfl,g.kept (t':=d.toks) λb o e=>Heap.get?_push_of_some _ e,UW a _ i,?_,λb m=>?_,q⟩
 ·have G:=n.length
  have t:((c.toArray.size:Nat):Int) - 1=(i.length:Int) - 1 - ((0:Nat):Int):=by
   rw[bo]
   omega
  show (d.heap.push (revObj a ((c.toArray.size:Int) - 1))).IsRevIter d.heap.objs.size a ((i.length:Int) - 1 - ((0:Nat):Int))
  rw[<-t]
  exact f
 ·have e:b=d.heap.objs.size:=by simpa using m
  subst e
  exact g.MK (ai _) (g.hok.fresh (ai _))
theorem Xm {K:W.Frag} {g:TG} {tb:TS} (b:Nat->St->Hp->Prop) (l:b 0 σ H) (h:∀ i σ H,i<=xs.length->b i σ H->CV K H a xs)
  (k:∀ i x σ H,i<xs.length->xs[xs.length - 1 - i]? = some x->b i σ H->g x σ H λσ2 H2=>tb { D with nx:=b (i+1),ct:=b (i+1),bk:=D.nx } σ2 H2) (j:∀ σ H,b xs.length σ H->D.nx σ H) :
  ∃ W:Nat->Nat->St->Hp->Prop,(∃ m,W 0 m σ H)/\∀ i m σ H,W i m σ H ->
   ((gB K a xs).stop i H/\D.nx σ H) \/ ((gB K a xs).go i H/\∃ N:St->Hp->Prop,(∀ σ' H',N σ' H'->∃ m',m'<m/\W (i+1) m' σ' H')/\∀ x H',(gB K a xs).yld i H x H'->g x σ H' λσ2 H2=>tb { D with nx:=N,ct:=N,bk:=D.nx } σ2 H2):=by
 refine⟨λi m σ H=>m=xs.length - i/\i<=xs.length/\b i σ H,⟨xs.length,by simp,Nat.zero_le _,l⟩,?_⟩
 rintro i m σ H ⟨rfl,n,p⟩
 have q:=h i σ H n p
 by_cases c:i<xs.length
 ·refine .inr ⟨⟨q,c⟩,b (i+1),λσ' H' d=>⟨xs.length - (i+1),by omega,rfl,by omega,d⟩,?_⟩
  rintro x H' ⟨rfl,f⟩
  exact k i x σ H' c f p
 ·have e:i=xs.length:=by omega
  subst e
  exact .inl ⟨⟨q,rfl⟩,j σ H p⟩
open PySem PySem.Spec PySem.Calls PyProof.Rows
section
theorem range_any (bs:List Bool):((List.range bs.length).any λi=>(bs[i]?).getD false)=bs.any id:=by
 rw[cw,fS,fS]
 constructor
 ·rintro⟨i,c,e⟩
  have a:=dt.mp c
  rw[ae a] at e
  exact⟨_,zdl a,e⟩
 ·rintro⟨b,d,e⟩
  obtain⟨i,c,q⟩:=fq.mp d
  refine⟨i,dt.mpr c,?_⟩
  rw[ae c,q]
  exact e
theorem Jj (w:X.calm=true):Ep X (.builtin "any") (λxs H Q=>∃ (p:Addr) (bs:List Bool),xs=[V.ref p]/\CV X.K H p (bs.map V.bl)/\Q (.bl (bs.any id)) H):=by
 intro F s σ H xs E Q I r h
 obtain⟨p,bs,rfl,z,q⟩:=h
 obtain⟨u,rfl,f⟩:=vals1 r
 cases f
 obtain⟨a,n,d,K⟩:=I.list z
 have c:bs.length=a.length:=by have:=n.length;rw[af] at this;exact this
 have j:p<s.heap.objs.size:=by obtain⟨_,e,_⟩:=d.isList;exact Heap.lt_size e
 refine call_any_walk (wpAny_pyIter_list d.isList ?_)
 refine⟨s.heap.objs.size,[s.heap.objs.size,p],[s.heap.objs.size],a.toArray.size,_,_,λi=>(bs[i]?).getD false,rfl,Walks.list (A:=X.A.in1) (I.ok.hd w) _ p (be j) a.toArray,
  ⟨⟨_,Heap.get?_push_size _ rfl,rfl,rfl⟩,d.isList.push _⟩,λi v G J M B g=>?_,λL tk C=>?_⟩
 ·have t:a[i]? = some v:=by simpa using B
  have D:i<a.length:=(ag.mp t).1
  have m:bs[i]? = some bs[i]:=by simp[c,D]
  obtain⟨u,l,f⟩:=n.get (i:=i) (x:=.bl bs[i]) (by rw[ar,m];rfl)
  rw[t] at l
  cases l
  cases f
  dsimp only at g
  rw[m] at g
  exact wpAny_truthy_bool g
 ·have e:((List.range a.toArray.size).any λi=>(bs[i]?).getD false)=bs.any id:=by rw[bo,<-c];exact range_any bs
  rw[e]
  refine⟨.bl (bs.any id),H,I.kept (t':=tk) λb o k=>C b o (λy=>?_) (Heap.get?_push_of_some _ k),rfl,q⟩
  rw[am.mp y] at k
  exact fg _ (Heap.lt_size k)
theorem Gy (a:List Int):∀ j,j<=a.length->preSum (λi=>(a[i]?).getD 0) j=(a.take j).sum
 | 0,_=>rfl
 | j+1,h=>by
  have b:=Gy a j (by omega)
  show preSum _ j+(a[j]?).getD 0=_
  rw[b,cE,ae (by omega),fm]
  simp
theorem VG (M:Int):∀ ns:List Int,(∀ n∈ns,0<=n/\n<=M)->0<=ns.sum/\ns.sum<=ns.length * M
 | [],_=>by simp
 | n::r,h=>by
  have c:=h n (bt ..)
  have b:=VG M r λx a=>h x (ba _ a)
  have e:((n::r).length:Int) * M=r.length * M+M:=by rw[cK];push_cast;rw[Int.add_mul,Int.one_mul]
  rw[e,List.sum_cons]
  omega
theorem Vy (D:X.calm=true):Ep X (.builtin "sum") (λxs H Q=>∃ (p:Addr) (ns:List Int),xs=[V.ref p]/\CV X.K H p (ns.map V.int)/\(∀ n∈ns,0<=n/\n<=100000)/\ns.length<=1000/\Q (.int ns.sum) H):=by
 intro N s σ H xs M Q I r h
 obtain⟨p,ns,rfl,G,d,T,q⟩:=h
 obtain⟨u,rfl,k⟩:=vals1 r
 cases k
 obtain⟨a,w,g,P⟩:=I.list G
 have c:ns.length=a.length:=by have:=w.length;rw[af] at this;exact this
 have f:p<s.heap.objs.size:=by obtain⟨_,e,_⟩:=g.isList;exact Heap.lt_size e
 refine call_sum_walk (wpAny_pyIter_list g.isList ?_)
 refine⟨s.heap.objs.size,[s.heap.objs.size,p],[s.heap.objs.size],a.toArray.size,_,_,λi=>(ns[i]?).getD 0,rfl,Walks.list (A:=X.A.in1) (I.ok.hd D) _ p (be f) a.toArray,
  ⟨⟨_,Heap.get?_push_size _ rfl,rfl,rfl⟩,g.isList.push _⟩,λb d=>?_,λi v J=>?_,λj C=>?_,λR tk B K=>?_⟩
 ·rw[Heap.size_push]
  rcases cm.mp d with rfl | d
  ·exact fN _
  ·rw[am.mp d]
   exact fI f
 ·have z:a[i]? = some v:=by simpa using J
  have L:i<a.length:=(ag.mp z).1
  have d:ns[i]? = some ns[i]:=by simp[c,L]
  obtain⟨u,m,k⟩:=w.get (i:=i) (x:=.int ns[i]) (by rw[ar,d];rfl)
  rw[z] at m
  cases m
  obtain⟨t,rfl⟩:=k
  exact⟨t,by dsimp only;rw[d];rfl⟩
 ·have y:j<ns.length:=by rw[c];simpa using C
  rw[Gy ns (j+1) (by omega)]
  have U:=d ns[j] (zdl y)
  have S:=VG 100000 (ns.take (j+1)) λn F=>d n (fE F)
  have O:(ns.take (j+1)).length<=1000:=by rw[df];omega
  unfold InLong
  dsimp only
  rw[ae y]
  rw[Option.getD_some]
  refine⟨⟨?_,?_⟩,⟨?_,?_⟩⟩ <;> omega
 ·have e:preSum (λi=>(ns[i]?).getD 0) a.toArray.size=ns.sum:=by rw[bo,<-c,Gy ns _ (ai _),eD]
  rw[e]
  refine⟨.int ns.sum,H,I.kept (t':=tk) λb o l=>K b o (λE=>?_) (Heap.get?_push_of_some _ l),⟨_,rfl⟩,q⟩
  rw[am.mp E] at l
  exact fg _ (Heap.lt_size l)
structure KDict (K:W.Frag) (P:Params) (a:Addr):Prop where
 is:∃ es n,K.lookup a=some ⟨.type "dict",none,.dict es n,#[]⟩/\W.KeysLit P es.toList
 lo:(a == sysModules)=false
inductive VL (K:W.Frag) (P:Params) (Q:VK) (x:V) (y:V) (H2:Hp):Prop
 | mk (a z v u:_):x=.ref a->y=.str z->KDict K P a->W.nsIn K a z=some (some u)->RelV v u->Q v H2->VL K P Q x y H2
def d7 (K:W.Frag) (P:Params) (td ty:TE):TE:=λσ H Q=>td σ H λx H1=>ty σ H1 λy H2=>VL K P Q x y H2
inductive Y4 (K:W.Frag) (P:Params) (neg:Bool) (Q:VK) (y:V) (x:V) (H2:Hp):Prop
 | mk (a z r:_):x=.ref a->y=.str z->KDict K P a->W.nsIn K a z=some r->Q (.bl (if neg then !r.isSome else r.isSome)) H2->Y4 K P neg Q y x H2
def eZ (K:W.Frag) (P:Params) (neg:Bool) (ty td:TE):TE:=λσ H Q=>ty σ H λy H1=>td σ H1 λx H2=>Y4 K P neg Q y x H2
variable {o i:Expr} {td ty:TE}
theorem LR (j:PE X o td) (J:PE X i ty) (G:bF i):PE X (.Subscript o i pos) (d7 X.K X.w.params td ty):=by
 intro c s σ H Q I h
 refine Qn gI G (Bt (j c s σ H _ I h) λu D ⟨x,l,C,F,K⟩=>Bt (J c D σ l _ C K) λM L b=>?_)
 obtain⟨y,p,e,m,a,z,v,w,k,E,q,g,A,B⟩:=b
 subst k E
 cases F
 obtain⟨t,rfl⟩:=m
 obtain⟨⟨N,n,f,r⟩,lo⟩:=q
 have d:=W.mapOf_K (prog:=X.prog) e.Ig f r
 exact⟨d.typeIs,wpAny_getItem_of (strKind_is X.prog X.w z t) d (W.find_K f g) ⟨v,p,e.tok _,A,B⟩⟩
theorem Uu (D:PE X i ty) (g:PE X o td):PC X .In i o (eZ X.K X.w.params false ty td):=by
 intro c s σ H Q I h
 refine Bt (D c s σ H _ I h) λG A ⟨y,k,w,l,E⟩=>Bt (g c A σ k _ w E) λu F b=>?_
 obtain⟨x,m,d,C,a,z,r,j,B,p,f,v⟩:=b
 subst j B
 cases C
 obtain⟨t,rfl⟩:=l
 obtain⟨⟨J,n,e,q⟩,lo⟩:=p
 refine wpAny_in_of (strKind_is X.prog X.w z t) lo (W.mapOf_K (prog:=X.prog) d.Ig e q) ?_
 rw[W.find_K e f]
 exact⟨.bl r.isSome,m,d.tok _,rfl,v⟩
theorem Rj (D:PE X i ty) (g:PE X o td):PC X .NotIn i o (eZ X.K X.w.params true ty td):=by
 intro c s σ H Q I h
 refine Bt (D c s σ H _ I h) λG A ⟨y,k,w,l,E⟩=>Bt (g c A σ k _ w E) λu F b=>?_
 obtain⟨x,m,d,C,a,z,r,j,B,p,f,v⟩:=b
 subst j B
 cases C
 obtain⟨t,rfl⟩:=l
 obtain⟨⟨J,n,e,q⟩,lo⟩:=p
 refine wpAny_notIn_of (strKind_is X.prog X.w z t) lo (W.mapOf_K (prog:=X.prog) d.Ig e q) ?_
 rw[W.find_K e f]
 exact⟨.bl (!r.isSome),m,d.tok _,rfl,v⟩
end
section
variable {st:Expr} {lo hi:Option Expr} {ts:TE} {tl th:TO} {p2:Pos}
end
end L2
namespace Og
open PySem L2
theorem Am {K:W.Frag} (h:X.K=K):cT X (bc K):=h ▸ bI
theorem Ca {K:W.Frag} (h:X.K=K):cT X (aH K):=h ▸ Fi
theorem KD {K:W.Frag} (h:X.K=K):GK X (compareOp .In) (iW K false):=h ▸ RQ
structure R where
 w:Str
 nm:Str
 rest:List V
abbrev R.v (r:R):List V:=.str r.w :: .str r.nm::r.rest
def isNm (z:Str):Prop:=1<=z.length/\z.length<=8/\∀ c∈z.cps.toList,97<=c/\c<=122
def Rows (H:Hp) (ρ:V->R) (vs:List V):Prop:=∀ v∈vs,TupAt H (ρ v).v v
theorem Rows.mono {ρ:V->R} (s:Aj H H') (h:Rows H ρ vs):Rows H' ρ vs:=λv a=>(h v a).mono s
theorem Rows.sub {ρ:V->R} {us:List V} (h:Rows H ρ vs) (a:∀ v∈us,v∈vs):Rows H ρ us:=λv b=>h v (a v b)
abbrev pw (ρ:V->R) (w:Str) (v:V):Bool:=decide (V.str (ρ v).w=V.str w)
abbrev pn (ρ:V->R) (t:Str) (v:V):Bool:=decide (V.str (ρ v).nm=V.str t)
def WX (ρ:V->R) (vs:List V) (w t:Str):Bool:=(vs.filter (pw ρ w)).any (pn ρ t)
def KTup (K:W.Frag) (a:Addr) (xs:List V):Prop:=∃ (o:Obj) (its:Array Value) (n:Nat),K.lookup a=some o/\o.cls=.type "tuple" /\ o.data=.seq its n/\its.size<=sizeLine/\Vals xs its.toList
theorem KTup.sq {K:W.Frag} (h:KTup K a xs) (H:Hp):Er K H a xs:=.inr h
abbrev named:List Str:=["board","rank","stop","coupler","mute"]
def Hk (K:W.Frag) (aB:Addr) (ρ:V->R) (vs:List V) (x:V) (part:Str):Prop :=
 (∃ (i lo hi:Int) (b:Addr),x=.int i/\W.nsIn K aB part=some (some (.ref b))/\KTup K b [.int lo,.int hi]/\lo<=i/\i<=hi) \/
 (W.nsIn K aB part=some none/\part = "new" /\ ∃ t,x=.str t/\isNm t/\∀ w∈named,WX ρ vs w t=false) \/
 (W.nsIn K aB part=some none/\¬ part = "new" /\ ∃ t,x=.str t/\isNm t/\WX ρ vs part t=true)
structure Ky (K:W.Frag) (aB aP aM:Addr) (ρ:V->R) (vs:List V) (r:R):Prop where
 ns:¬ r.w = "step"
 nl:¬ r.w = "line"
 parts:∃ (ap:Addr) (ps:List Str),W.nsIn K aP r.w=some (some (.ref ap))/\KTup K ap (ps.map V.str)/\(V.str r.nm::r.rest).length=ps.length/\ps.length<=10 /\
  ∀ (i:Nat) x y,(V.str r.nm::r.rest)[i]? = some x->ps[i]? = some y->Hk K aB ρ vs x y
 room:∃ (m:Int) (t:Tok),W.nsIn K aM r.w=some (some (.int m t))/\(((vs.filter (pw ρ r.w)).length:Nat):Int)<m
def letters:Str:="abcdefghijklmnopqrstuvwxyz"
abbrev il (y:Str) (c:Nat):Bool:=!(Builtin.Str.occurrences y ⟨#[c]⟩ 0 y.length 1).isEmpty
theorem Xb:∀ c<128,il letters c=decide (97<=c/\c<=122):=by decide
theorem BZ {p:Addr} (h:H p=none):Aj H (upd H p o):=λb u e=>by rw[Aw (An e h)];exact e
theorem Kg {p:Addr} (h:H p=none):∃ H',upd H p o=H'/\Aj H H'/\H' p=some o:=⟨_,rfl,BZ h,Al⟩
theorem FP (h:n<=1000):n<=sizeLine:=eI (Ax h)
theorem ty_int {K:W.Frag}:W.kitOne K (.type "int") (.type "int")=some true:=by kernel_rfl
theorem Yd {K:W.Frag}:W.kitOne K (.type "int") (.type "bool")=some false:=by kernel_rfl
theorem Qe {K:W.Frag}:W.kitOne K (.type "list") (.type "list")=some true:=by kernel_rfl
theorem YH {K:W.Frag}:W.kitOne K (.type "tuple") (.type "tuple")=some true:=by kernel_rfl
theorem YZ {K:W.Frag}:W.kitOne K (.type "str") (.type "str")=some true:=by kernel_rfl
theorem Jm (vs:List V) (n:Nat) (h:n<=vs.length):Dy vs none (some (n:Int))=vs.take n:=by
 unfold Dy
 have b:HT.Do vs.length 0 none=0:=rfl
 have a:HT.Do vs.length vs.length (some (n:Int))=n:=by
  rw[HT.Fj]
  omega
 rw[b,a]
 simp
theorem Ha {α:Type} (p:α->Bool) (l:List α):(l.filter p).length<=l.length:=ck _ _
abbrev bV (b:Str × Nat):List V:=[.str b.1,.int (b.2:Nat)]
abbrev Gb (b:Str × Nat):R:=⟨"board",b.1,[.int (b.2:Nat)]⟩
abbrev qV (q:Nat × Nat):List V:=[.int (q.1:Nat),.int (q.2:Nat)]
def Fo (bs:List (Str × Nat)):List (Nat × Nat):=bs.zipIdx.flatMap λp=>(List.range p.1.2).map λe=>(p.2,e)
theorem Vx (bs:List (Str × Nat)) (b:Str × Nat):Fo (bs++[b])=Fo bs++(List.range b.2).map λe=>(bs.length,e):=by
 unfold Fo
 rw[List.zipIdx_append]
 simp
theorem Hv {bs:List (Str × Nat)} {b:Str × Nat} (h:bs[i]? = some b):Fo (bs.take (i+1))=Fo (bs.take i)++(List.range b.2).map λe=>(i,e):=by
 have a:i<bs.length:=(ag.mp h).1
 rw[cE,h]
 show Fo (bs.take i++[b])=_
 rw[Vx,df,Nat.min_eq_left (by omega)]
theorem Lb (bs:List (Str × Nat)) (M:Nat):(∀ b∈bs,b.2<=M)->(Fo bs).length<=bs.length * M:=by
 intro h
 have c:∀ i,i<=bs.length->(Fo (bs.take i)).length<=i * M:=by
  intro i
  induction i with
  | zero=>intro _;simp[Fo]
  | succ i d =>
   intro g
   have a:i<bs.length:=by omega
   rw[Hv (ae a),ah,af,dE]
   have f:=d (by omega)
   have e:=h bs[i] (zdl a)
   have:(i+1) * M=i * M+M:=by rw[Nat.add_mul,Nat.one_mul]
   omega
 have:=c bs.length (ai _)
 rw[eD] at this
 exact this
theorem C_ {α β:Type} {F:α->β->Prop} {l:List α} {vs:List β} (h:Paired F l vs):∀ {v},v∈vs->∃ a∈l,F a v:=by
 induction h with
 | nil=>intro v c;cases c
 | cons a b d =>
  intro v c
  rcases cm.mp c with rfl | c
  ·exact⟨_,bt ..,a⟩
  ·obtain⟨x,e,q⟩:=d c
   exact⟨x,ba _ e,q⟩
theorem Cq {α β:Type} {F:α->β->Prop} {l:List α} {vs:List β} (h:Paired F l vs):∀ {i:Nat} {a},l[i]? = some a->∃ v,vs[i]? = some v/\F a v:=by
 induction h with
 | nil=>intro i a b;simp at b
 | cons x y c =>
  intro i a b
  cases i with
  | zero =>
   simp at b
   subst b
   exact⟨_,rfl,x⟩
  | succ i=>exact c (by simpa using b)
theorem El {α β:Type} {F:α->β->Prop} {l:List α} {vs:List β} (h:Paired F l vs):∀ {i:Nat} {v},vs[i]? = some v->∃ a,l[i]? = some a/\F a v:=by
 induction h with
 | nil=>intro i a b;simp at b
 | cons x y c =>
  intro i a b
  cases i with
  | zero =>
   simp at b
   subst b
   exact⟨_,rfl,x⟩
  | succ i=>exact c (by simpa using b)
theorem Gn {α β:Type} {F:α->β->Prop} {l:List α} {vs:List β} (h:Paired F l vs):∀ n:Nat,Paired F (l.take n) (vs.take n):=by
 induction h with
 | nil=>intro n;simp;exact .nil
 | cons x y a =>
  intro n
  cases n with
  | zero=>exact .nil
  | succ n=>exact .cons x (a n)
theorem Dm {α β:Type} {F:α->β->Prop} {l a:List α} {vs b:List β} (h:Paired F l vs) (h':Paired F a b):Paired F (l++a) (vs++b):=by
 induction h with
 | nil=>exact h'
 | cons x y c=>exact .cons x c
theorem B_ {α β γ:Type} {F:γ->β->Prop} (g:α->γ) {l:List α} {vs:List β} (h:Paired (λa v=>F (g a) v) l vs):Paired F (l.map g) vs:=by
 induction h with
 | nil=>exact .nil
 | cons x y b=>exact .cons x b
theorem Fp {α β γ:Type} {F:γ->β->Prop} (g:α->γ):∀ {l:List α} {vs:List β},Paired F (l.map g) vs->Paired (λa v=>F (g a) v) l vs
 | [],_,h=>by cases h;exact .nil
 | a::l,_,h=>by
  cases h with
  | cons x y=>exact .cons x (Fp g y)
def Ra (H:Hp) (k:Nat):V->V
 | .ref T=>match H T with
  | some (.tup xs)=>xs.getD k .non
  | _=>.non
 | _=>.non
theorem Ia {a:List V} {v:V} (h:TupAt H a v) (k:Nat):Ra H k v=a.getD k .non:=by
 obtain⟨T,rfl,e⟩:=h
 show (match H T with | some (.tup xs)=>xs.getD k V.non | _=>V.non)=_
 rw[e]
theorem JX {α:Type} {g:α->List V} (k:Nat) {l:List α} (h:Paired (λa v=>TupAt H (g a) v) l vs):vs.map (Ra H k)=l.map λa=>(g a).getD k .non:=by
 induction h with
 | nil=>rfl
 | cons x y b=>rw[cy,cy,b,Ia x]
def SX (x:Addr) (H H':Hp):Prop:=∀ b o,H b=some o->b ≠ x->H' b=some o
theorem SX.trans {x:Addr} {d:Hp} (a:SX x H H1) (b:SX x H1 d):SX x H d:=λc o h n=>b c o (a c o h n) n
theorem SX.refl {x:Addr}:SX x H H:=λ_ _ h _=>h
theorem SX.of {x:Addr} (s:Aj H H'):SX x H H':=λb o h _=>s b o h
theorem SX.up {x:Addr}:SX x H (upd H x o):=λb u h n=>by rw[Aw n];exact h
theorem SX.tup {x:Addr} {a:List V} {fs:List (Str × V)} (s:SX x H H') (b:H x=some (.ins C dx fs)) (h:TupAt H a y):TupAt H' a y:=by
 obtain⟨T,e,q⟩:=h
 exact⟨T,e,s _ _ q λz=>by rw[z,b] at q;cases q⟩
theorem SX.pair {α:Type} {x:Addr} {f:α->List V} {l:List α} {fs:List (Str × V)} (s:SX x H H') (b:H x=some (.ins C dx fs)) (h:Paired (λa y=>TupAt H (f a) y) l vs):Paired (λa y=>TupAt H' (f a) y) l vs:=Paired.Fg h λ_ _ q=>s.tup b q
theorem SX.lst {x:Addr} {fs:List (Str × V)} (s:SX x H H') (b:H x=some (.ins C dx fs)) (h:H a=some (.lst xs)):H' a=some (.lst xs):=s _ _ h λz=>by rw[z,b] at h;cases h
theorem SX.dk {x:Addr} {fs:List (Str × V)} (s:SX x H H') (b:H x=some (.ins C dx fs)) (h:H a=some (.dK kvs)):H' a=some (.dK kvs):=s _ _ h λz=>by rw[z,b] at h;cases h
abbrev meths:List Str:=["ranks","pipe_count","pipe","rank_of","board_of_knob","boards","key_count","key","board_of","coupler","knobs","knob_number","board_number","stop","mute","steps","rows"]
inductive fj (C:Addr) (H:Hp) (x:Addr) (bs:List (Str × Nat)) (ks:List R):Prop
 | mk (dx:Addr) (fs:List (Str × V)) (bl bn kp kr:Addr) (f8 i5 jS:List V) (kvs:List (Key × V)):H x=some (.ins C dx fs)->fs.lookup ("board_list" : Str)=some (.ref bl)->fs.lookup ("board_numbers" : Str)=some (.ref bn)->fs.lookup ("key_places" : Str)=some (.ref kp)->fs.lookup ("knob_rows" : Str)=some (.ref kr)->(∀ m∈meths,fs.lookup m=none)->H bl=some (.lst f8)->Paired (λb y=>TupAt H (bV b) y) bs f8->H bn=some (.dK kvs)->(∀ (i:Nat) b,bs[i]? = some b->Ci kvs (Sum.inr b.1)=some (.int (i:Nat)))->H kp=some (.lst i5)->Paired (λq y=>TupAt H (qV q) y) (Fo bs) i5->H kr=some (.lst jS)->Paired (λ(r:R) y=>TupAt H r.v y) ks jS->fj C H x bs ks
structure Cz (C:Addr) (H:Hp) (x:Addr) (bs:List (Str × Nat)) (ks:List R):Prop where
 ob:fj C H x bs ks
 nb:bs.length<=5
 sz:∀ b∈bs,b.2<=61
 nk:ks.length<=200
theorem Cz.mono {x:Addr} {bs:List (Str × Nat)} {ks:List R} (s:Aj H H') (h:Cz C H x bs ks):Cz C H' x bs ks:=by
 obtain⟨⟨k,fs,e,p,kp,o,g,A,i,d,z,v,f,y,m,r,t,n,B,q,u,l,j,w⟩,a,b,c⟩:=h
 exact⟨⟨k,fs,e,p,kp,o,g,A,i,d,s _ _ z,v,f,y,m,r,s _ _ t,Aq s n,s _ _ B,q,s _ _ u,Aq s l,s _ _ j,Aq s w⟩,a,b,c⟩
end Og
variable {ρ:L2.V->Og.R} {ks:List Og.R}
namespace L2
open PySem PySem.Spec PyProof.Rows
theorem Wl (xs ys:List V):((List.range (min xs.length ys.length)).all (λj=>K3 (xs.getD j .non) (ys.getD j .non)) && xs.length == ys.length)=Yk xs ys:=by
 by_cases h:xs.length=ys.length
 ·rw[show min xs.length ys.length=xs.length by omega,Km xs ys h,beq_iff_eq.mpr h,Bool.and_true]
 ·rw[QB xs ys h,beq_eq_false_iff_ne.mpr h,Bool.and_false]
inductive Nj (r' vf:R2) (tc td:TE) (σ:St) (Q:VK) (y:V) (z:V) (H3:Hp):Prop
 | mk (k:_):z=.bl k->(if k=true then tc σ H3 λw H4=>r' y w H4 λz2 H5=>∃ k2,z2=.bl k2/\(if k2=true then td σ H5 λv H6=>vf w v H6 Q else Q (.bl false) H5) else Q (.bl false) H3)->Nj r' vf tc td σ Q y z H3
def Wt (r r' vf:R2) (ta tb tc td:TE):TE:=λσ H Q=>ta σ H λx H1=>tb σ H1 λy H2=>r x y H2 λz H3=>Nj r' vf tc td σ Q y z H3
theorem Rq {i l g:CmpOp} {r A p:R2} {a b c d:Expr} {tb F n:TE} (R:GK X (compareOp i) r) (W:GK X (compareOp l) A) (V:GK X (compareOp g) p) (ha:PE X a ta) (J:PE X b tb) (K:PE X c F) (N:PE X d n)
  (U:lastMarks [i,l,g] [b,c,d]=false:=by with_unfolding_all rfl):PE X (.Compare a [i,l,g] [b,c,d] pos) (Wt r A p ta tb F n):=by
 intro f s σ H Q I h
 refine Compare_chain (Bt (ha f s σ H _ I h) λv s1 ⟨x,Z,I1,r1,q1⟩=>chain_link (Bt (J f s1 σ Z _ I1 q1) λu O ⟨y,H2,I2,w,q2⟩ =>
  Bt (R f O σ H2 x y v u _ I2 r1 w q2) λd s3 ⟨z,G,D,r3,k,e,C⟩=>?_)) U
 subst e
 cases r3
 refine wpAny_truthy_bool ?_
 cases k with
 | false=>exact ite_ff ⟨.bl false,G,D,rfl,C⟩
 | true =>
  refine ite_tt (chain_link (Bt (K f s3 σ G _ D C) λt s4 ⟨B,H4,T,m,q4⟩=>Bt (W f s4 σ H4 y B u t _ T w m q4) λd5 Y j=>?_))
  obtain⟨z5,q,E,M,k5,e5,o⟩:=j
  subst e5
  cases M
  refine wpAny_truthy_bool ?_
  cases k5 with
  | false=>exact ite_ff ⟨.bl false,q,E,rfl,o⟩
  | true=>exact ite_tt (chain_last (Bt (N f Y σ q _ E o) λw6 S ⟨z6,H6,P,r6,L⟩=>V f S σ H6 B z6 t w6 Q P m r6 L))
section
variable {Q:VK}
theorem M6 {K:W.Frag} (p:V->Bool) (f:V->V) (c:Er K H1 a xs) (k:xs.length<sizeLine)
  (h:∀ x∈xs,∀ H,Aj H1 H->∀ R:Bool->Hp->Prop,(∀ H',Aj H H'->R (p x) H')->tt (some x::σ) H R)
  (j:∀ x∈xs,p x=true->∀ H,Aj H1 H->∀ R:VK,(∀ H',Aj H H'->R (f x) H')->te (some x::σ) H R)
  (e:∀ D H,H1 D=none->Aj H1 H->H D=some (.lst ((xs.filter p).map f))->Q (.ref D) H):D_ (mV K a) σ H1 Q tt te :=
 G9 p f k (λi H x b g=>⟨xs,x,b.tup c,g⟩) (λi H y H' b _ d=>⟨d.1,d.2 xs (b.tup c)⟩) (λH b=>⟨xs,b.tup c,ai _⟩) h j e
end
structure qN (K:W.Frag) (x qual:Str) (st:Stmt) (f:Addr) (fd:FuncData):Prop where
 ex:∃ (oc:Value) (od:Option Addr) (dV kV iX pm:Value) (an:Option Addr) (d3 ct:Value) (oq:Array (Option Value)),
  fd=W.fnOf x qual (Dc st) (CW st) (Ae st) dV kV iX pm an d3 ct/\K.lookup f=some ⟨oc,od,.func fd,oq⟩/\W.codeIn K d3 qual=true
 kp:W.keepIn K (.ref f)=true
section
variable {w:World} {K:W.Frag}
end
end L2
namespace Og
open PySem L2 PyProof.Rows
inductive Kb where
 | cp (i j:Nat) (s:Int)
 | pl (w:Str) (i:Nat)
def Kb.w:Kb->Str
 | .cp _ _ _=>"coupler"
 | .pl w _=>w
def Kb.v:Kb->List V
 | .cp i j s=>[.str "coupler",.int (i:Nat),.int (j:Nat),.int s]
 | .pl w i=>[.str w,.int (i:Nat)]
def Kb.ok (n:Nat):Kb->Prop
 | .cp i j s=>i<n/\j<n /\ -60<=s/\s<=60
 | .pl w i=>i<n/\(w = "mute" \/ w = "stop")
def J9 (w:Str):Nat:=if w = "coupler" then 12 else if w = "mute" then 5 else 24
abbrev Em (w:Str) (z:Kb):Bool:=decide (V.str z.w=V.str w)
structure Ny (n:Nat) (kbs:List Kb):Prop where
 ok:∀ k∈kbs,k.ok n
 room:∀ (i:Nat) k,kbs[i]? = some k->((kbs.take i).filter (Em k.w)).length<J9 k.w
 len:kbs.length<=70
def WK (c:Nat->Str) (k:Nat):Kb->R
 | .cp i j s=>⟨"coupler",c (30+k),[.str (c i),.str (c j),.int s]⟩
 | .pl w i=>⟨w,c (30+k),[.str (c i)]⟩
theorem Ii (c:Nat->Str) (k:Nat) (z:Kb):(WK c k z).w=z.w:=by cases z <;> rfl
def Bl (c:Nat->Str) (sz:List Nat):List (Str × Nat):=sz.zipIdx.map λp=>(c p.2,p.1)
def Cw (c:Nat->Str) (kbs:List Kb):List R:=kbs.zipIdx.map λp=>WK c p.2 p.1
theorem FN {c:Nat->Str} {sz:List Nat} {z:Nat} (h:sz[i]? = some z):(Bl c sz)[i]? = some (c i,z):=by
 unfold Bl
 rw[ar,gi,h]
 simp
theorem SJ {c:Nat->Str} {sz:List Nat} {b:Str × Nat} (h:(Bl c sz)[i]? = some b):∃ z,sz[i]? = some z/\b=(c i,z):=by
 have d:i<(Bl c sz).length:=(ag.mp h).1
 have a:i<sz.length:=by simpa [Bl] using d
 refine⟨sz[i],ae a,?_⟩
 rw[FN (ae a)] at h
 exact (Option.some.inj h).symm
theorem UG (c:Nat->Str) (sz:List Nat):(Bl c sz).length=sz.length:=by simp[Bl]
theorem CQ (c:Nat->Str) (sz:List Nat):(Bl c sz).map (·.2)=sz:=by
 unfold Bl
 rw[aT]
 refine ff λi=>?_
 rw[ar,gi]
 cases sz[i]? <;> simp
theorem FT {c:Nat->Str} {kbs:List Kb} {z:Kb} (h:kbs[i]? = some z):(Cw c kbs)[i]? = some (WK c i z):=by
 unfold Cw
 rw[ar,gi,h]
 simp
theorem GC {c:Nat->Str} {kbs:List Kb} {r:R} (h:(Cw c kbs)[i]? = some r):∃ z,kbs[i]? = some z/\r=WK c i z:=by
 have b:i<(Cw c kbs).length:=(ag.mp h).1
 have a:i<kbs.length:=by simpa [Cw] using b
 refine⟨kbs[i],ae a,?_⟩
 rw[FT (ae a)] at h
 exact (Option.some.inj h).symm
theorem M7 (c:Nat->Str) (kbs:List Kb):(Cw c kbs).length=kbs.length:=by simp[Cw]
structure KF (K:W.Frag) (aB aP aM:Addr):Prop where
 pB:∃ a,W.nsIn K aP "board" = some (some (.ref a))/\KTup K a (["new","keys"].map λs:String=>V.str s)
 pS:∃ a,W.nsIn K aP "stop" = some (some (.ref a))/\KTup K a (["new","board"].map λs:String=>V.str s)
 pM:∃ a,W.nsIn K aP "mute" = some (some (.ref a))/\KTup K a (["new","board"].map λs:String=>V.str s)
 pC:∃ a,W.nsIn K aP "coupler" = some (some (.ref a))/\KTup K a (["new","board","board","leap"].map λs:String=>V.str s)
 bK:∃ a,W.nsIn K aB "keys" = some (some (.ref a))/\KTup K a [.int 1,.int 61]
 bL:∃ a,W.nsIn K aB "leap" = some (some (.ref a))/\KTup K a [.int (-60),.int 60]
 bN:W.nsIn K aB "new" = some none
 bB:W.nsIn K aB "board" = some none
 mB:∃ t,W.nsIn K aM "board" = some (some (.int 5 t))
 mS:∃ t,W.nsIn K aM "stop" = some (some (.int 24 t))
 mC:∃ t,W.nsIn K aM "coupler" = some (some (.int 12 t))
 mM:∃ t,W.nsIn K aM "mute" = some (some (.int 5 t))
def Lq (H:Hp):V->R
 | .ref T=>match H T with
  | some (.tup (.str w :: .str n::r))=>⟨w,n,r⟩
  | _=>⟨"","",[]⟩
 | _=>⟨"","",[]⟩
theorem P_ {r:R} {v:V} (h:TupAt H r.v v):Lq H v=r:=by
 obtain⟨T,rfl,e⟩:=h
 show (match H T with | some (.tup (.str w :: .str n::r))=>(⟨w,n,r⟩:R) | _=>⟨"","",[]⟩)=r
 rw[e]
theorem QD {a:List R} (h:Paired (λ(r:R) v=>TupAt H r.v v) a vs):vs.map (Lq H)=a:=by
 induction h with
 | nil=>rfl
 | cons x y b=>rw[cy,b,P_ x]
theorem Bo (f:Str) (v:V):∀ l:List (Str × V),(Be f v l).length<=l.length+1
 | []=>ai _
 | p::r=>by
  unfold Be
  split
  ·simp
  ·have:=Bo f v r
   simp only[List.length_cons]
   omega
abbrev HR (s:Str):Bool:=inV (.str s) [.str "stop",.str "coupler",.str "mute"]
structure rD (K:W.Frag) (aB aP aM:Addr) (ρ:V->R) (us:List V) (bs:List (Str × Nat)) (ks:List R):Prop where
 kinds:∀ v∈us,(ρ v).w = "board" \/ (ρ v).w = "stop" \/ (ρ v).w = "coupler" \/ (ρ v).w = "mute"
 eb:(us.filter (pw ρ "board")).map ρ=bs.map Gb
 ek:(us.filter (λv=>HR (ρ v).w)).map ρ=ks
 b0:1<=bs.length
 b5:bs.length<=5
 sz:∀ b∈bs,b.2<=61
 nk:ks.length<=100
 nb:(bs.map (·.1)).Nodup
 nn:(ks.map (·.nm)).Nodup
 len:us.length<=105
 ok:∀ (i:Nat) v,us[i]? = some v->Ky K aB aP aM ρ (us.take i) (ρ v)
def Gw (ρ:V->R) (vs:List V):List (Str × Str):=vs.map λv=>((ρ v).w,(ρ v).nm)
abbrev Qd (wn:List (Str × Str)) (w t:Str):Bool:=(wn.filter λp=>decide (p.1=w)).any λp=>decide (p.2=t)
abbrev Uo (wn:List (Str × Str)) (w:Str):Nat:=(wn.filter λp=>decide (p.1=w)).length
theorem HF (a b:Str):decide (V.str a=V.str b)=decide (a=b):=by
 rw[cw,decide_eq_true_eq,decide_eq_true_eq]
 exact⟨V.str.inj,congrArg V.str⟩
theorem JF (ρ:V->R) (vs:List V) (w t:Str):WX ρ vs w t=Qd (Gw ρ vs) w t:=by
 unfold WX Gw
 show _=((vs.map λv=>((ρ v).w,(ρ v).nm)).filter λp=>decide (p.1=w)).any λp=>decide (p.2=t)
 rw[eT,List.any_map]
 have b:pw ρ w=(λp:Str × Str=>decide (p.1=w)) ∘ λv=>((ρ v).w,(ρ v).nm):=by
  funext v
  exact HF _ _
 have a:pn ρ t=(λp:Str × Str=>decide (p.2=t)) ∘ λv=>((ρ v).w,(ρ v).nm):=by
  funext v
  exact HF _ _
 rw[b,a]
theorem Hb (ρ:V->R) (vs:List V) (w:Str):(vs.filter (pw ρ w)).length=Uo (Gw ρ vs) w:=by
 unfold Gw
 show _=((vs.map λv=>((ρ v).w,(ρ v).nm)).filter λp=>decide (p.1=w)).length
 rw[eT,af]
 have a:pw ρ w=(λp:Str × Str=>decide (p.1=w)) ∘ λv=>((ρ v).w,(ρ v).nm):=by
  funext v
  exact HF _ _
 rw[a]
section
variable {K:W.Frag} {wn:List (Str × Str)}
theorem Hw (F:KF K aB aP aM) (e:Gw ρ vs=wn) (b:isNm t) (h:∀ w∈named,Qd wn w t=false):Hk K aB ρ vs (.str t) "new" :=
 .inr (.inl ⟨F.bN,rfl,_,rfl,b,λw a=>by rw[JF,e];exact h w a⟩)
theorem Hi (F:KF K aB aP aM) (e:Gw ρ vs=wn) (a:isNm t) (h:Qd wn "board" t=true):Hk K aB ρ vs (.str t) "board" :=
 .inr (.inr ⟨F.bB,by decide,_,rfl,a,by rw[JF,e];exact h⟩)
theorem Q8 (F:KF K aB aP aM) (e:Gw ρ vs=wn) (f:isNm t) (h:∀ w∈named,Qd wn w t=false) (p:Uo wn "board" < 5) (q:1<=n) (o:n<=61):Ky K aB aP aM ρ vs (Gb (t,n)):=by
 obtain⟨d,m,k⟩:=F.pB
 obtain⟨g,c,i⟩:=F.bK
 obtain⟨tk,l⟩:=F.mB
 refine⟨by show ¬ ("board" : Str) = "step";decide,by show ¬ ("board" : Str) = "line";decide,⟨d,["new","keys"],m,k,rfl,by decide,λj x y b a=>?_⟩,⟨5,tk,l,?_⟩⟩
 ·match j,b,a with
  | 0,b,a =>
   cases (Option.some.inj b)
   cases (Option.some.inj a)
   exact Hw F e f h
  | 1,b,a =>
   cases (Option.some.inj b)
   cases (Option.some.inj a)
   exact .inl ⟨_,1,61,g,rfl,c,i,by omega,by omega⟩
  | j+2,b,a=>simp at a
 ·rw[Hb,e]
  show ((Uo wn "board" : Nat):Int)<5
  omega
theorem Mh (F:KF K aB aP aM) (e:Gw ρ vs=wn) (l:isNm t) (h:∀ w∈named,Qd wn w t=false) (A:Uo wn "coupler" < 12) {a b:Str} (v:isNm a) (q:Qd wn "board" a=true) (m:isNm b) (f:Qd wn "board" b=true) {s:Int} (u : -60<=s) (g:s<=60):Ky K aB aP aM ρ vs ⟨"coupler",t,[.str a,.str b,.int s]⟩:=by
 obtain⟨k,z,p⟩:=F.pC
 obtain⟨n,i,o⟩:=F.bL
 obtain⟨tk,r⟩:=F.mC
 refine⟨by show ¬ ("coupler" : Str) = "step";decide,by show ¬ ("coupler" : Str) = "line";decide,⟨k,["new","board","board","leap"],z,p,rfl,by decide,λj x y d c=>?_⟩,⟨12,tk,r,?_⟩⟩
 ·match j,d,c with
  | 0,d,c =>
   cases (Option.some.inj d)
   cases (Option.some.inj c)
   exact Hw F e l h
  | 1,d,c =>
   cases (Option.some.inj d)
   cases (Option.some.inj c)
   exact Hi F e v q
  | 2,d,c =>
   cases (Option.some.inj d)
   cases (Option.some.inj c)
   exact Hi F e m f
  | 3,d,c =>
   cases (Option.some.inj d)
   cases (Option.some.inj c)
   exact .inl ⟨_,-60,60,n,rfl,i,o,u,g⟩
  | j+4,d,c=>simp at c
 ·rw[Hb,e]
  show ((Uo wn "coupler" : Nat):Int)<12
  omega
end
theorem Wm {bs:List (Str × Nat)}:∀ {i a n:Nat},(Fo bs)[i]? = some (a,n)->∃ b,bs[a]? = some b/\n<b.2/\i=((bs.map (·.2)).take a).sum+n:=by
 have j:∀ m,m<=bs.length->∀ {i a n:Nat},(Fo (bs.take m))[i]? = some (a,n)->∃ b,bs[a]? = some b/\n<b.2/\i=((bs.map (·.2)).take a).sum+n:=by
  intro m
  induction m with
  | zero =>
   intro _ i a n h
   simp[Fo] at h
  | succ m f =>
   intro p i a n h
   have c:m<bs.length:=by omega
   have k:=ae c
   rw[Hv k] at h
   have d:(Fo (bs.take m)).length=((bs.map (·.2)).take m).sum:=by
    have g:∀ m,m<=bs.length->(Fo (bs.take m)).length=((bs.map (·.2)).take m).sum:=by
     intro m
     induction m with
     | zero=>intro _;simp[Fo]
     | succ m f =>
      intro p
      have c:m<bs.length:=by omega
      rw[Hv (ae c),ah,f (by omega),af,dE,cE,ar,ae c,fm]
      simp
    exact g m (by omega)
   by_cases u:i<(Fo (bs.take m)).length
   ·rw[dL u] at h
    exact f (by omega) h
   ·rw[de (by omega),ar] at h
    obtain⟨e,t,q⟩:=cr.mp h
    have r:i - (Fo (bs.take m)).length<bs[m].2/\e=i - (Fo (bs.take m)).length:=by
     obtain⟨o,l⟩:=ag.mp t
     rw[dE] at o
     rw[List.getElem_range] at l
     exact⟨o,l.symm⟩
    obtain⟨v,s⟩:=Prod.mk.inj q
    subst v s
    refine⟨bs[m],k,by omega,?_⟩
    rw[<-d]
    omega
 intro i a n h
 refine j bs.length (ai _) ?_
 rw[eD]
 exact h
theorem Eg (bs:List (Str × Nat)):(Fo bs).length=(bs.map (·.2)).sum:=by
 unfold Fo
 rw[List.length_flatMap]
 have:(bs.zipIdx.map λp=>((List.range p.1.2).map λe=>(p.2,e)).length)=bs.map (·.2):=by
  refine ff λi=>?_
  rw[ar,ar,gi]
  cases bs[i]? <;> simp
 rw[this]
open PySem L2
def Mj (bs:List (Str × Nat)) (j1 j2:Nat) (s:Int) (qd:Nat × Nat) (z2:Nat):V :=
 if qd.1=j1/\0<=(qd.2:Int)+s/\(qd.2:Int)+s<z2 then .int ((((bs.take j2).map (·.2)).sum:Nat)+((qd.2:Int)+s)) else .non
def gl (bs:List (Str × Nat)):Kb->Nat->Option Nat
 | .cp j1 j2 s,i=>match (Fo bs)[i]?,bs[j2]? with
  | some qd,some b2=>match Mj bs j1 j2 s qd b2.2 with
   | .int v=>some v.toNat
   | _=>none
  | _,_=>none
 | .pl _ _,_=>none
theorem Lw (l:List Nat):∀ {a b:Nat},a<=b->(l.take a).sum<=(l.take b).sum:=by
 intro a b h
 have e:l.take a=(l.take b).take a:=by rw[List.take_take,Nat.min_eq_left h]
 rw[e]
 have:=congrArg List.sum (fz a (l.take b))
 rw[fm] at this
 omega
theorem Uz {bs:List (Str × Nat)} {j1 a:Nat} {s:Int} {b:Nat × Nat} {c:Str × Nat} (g:(Fo bs)[i]? = some b) (d:bs[a]? = some c) :
  (Mj bs j1 a s b c.2=.non/\gl bs (.cp j1 a s) i=none) \/ ∃ j:Nat,Mj bs j1 a s b c.2=.int (j:Nat)/\gl bs (.cp j1 a s) i=some j/\j<(bs.map (·.2)).sum:=by
 have e:gl bs (.cp j1 a s) i=match Mj bs j1 a s b c.2 with | .int v=>some v.toNat | _=>none:=by
  simp only[gl,g,d]
 rw[e]
 unfold Mj
 by_cases h:b.1=j1/\0<=(b.2:Int)+s/\(b.2:Int)+s<c.2
 ·rw[if_pos h]
  obtain⟨m,k,n⟩:=h
  have l:((bs.map (·.2)).take (a+1)).sum=(((bs.take a).map (·.2)).sum+c.2):=by
   rw[cE,ar,d,fm,iE]
   simp
  have f:((bs.map (·.2)).take (a+1)).sum<=(bs.map (·.2)).sum:=by
   have:=congrArg List.sum (fz (a+1) (bs.map (·.2)))
   rw[fm] at this
   omega
  refine .inr ⟨((((bs.take a).map (·.2)).sum:Nat)+((b.2:Int)+s)).toNat,?_,rfl,by omega⟩
  rw[gx (by omega)]
 ·rw[if_neg h]
  exact .inl ⟨rfl,rfl⟩
theorem Ye {bs:List (Str × Nat)} {z:Kb} (h:gl bs z i=some j):j<(bs.map (·.2)).sum:=by
 cases z with
 | pl w a=>cases h
 | cp b c s =>
  cases hq:(Fo bs)[i]? with
  | none =>
   simp only[gl,hq] at h
   cases h
  | some g =>
   cases hb:bs[c]? with
   | none =>
    simp only[gl,hq,hb] at h
    cases h
   | some d =>
    rcases Uz (j1:=b) (s:=s) hq hb with⟨_,e⟩ | ⟨f,_,e,lt⟩
    ·rw[e] at h
     cases h
    ·rw[e] at h
     cases h
     exact lt
abbrev Zz (z:Kb):Bool:=decide (V.str z.w=V.str "coupler")
theorem iJ {bs:List (Str × Nat)} {z:Kb} (h:gl bs z i=some j):Zz z=true:=by
 cases z with
 | pl w a=>cases h
 | cp b c s=>exact decide_eq_true rfl
theorem Xw {z:Kb} (b:z.ok n) (h:Zz z=true):∃ i j s,z=.cp i j s:=by
 cases z with
 | cp i j s=>exact⟨i,j,s,rfl⟩
 | pl w i =>
  exfalso
  have a:=V.str.inj (of_decide_eq_true h)
  rcases b.2 with rfl | rfl
  ·exact absurd a (by show ¬ ("mute" : Str) = "coupler";decide)
  ·exact absurd a (by show ¬ ("stop" : Str) = "coupler";decide)
inductive stp (bs:List (Str × Nat)) (kbs:List Kb) (D:Nat) (i j:Nat):Prop
 | mk (k z:_):D.testBit k=true->kbs[k]? = some z->gl bs z i=some j->stp bs kbs D i j
inductive Mx (st:Nat->Nat->Prop) (hd:Nat->Prop):Nat->Prop
 | one {i j:Nat}:hd i->st i j->Mx st hd j
 | more {i j:Nat}:Mx st hd i->st i j->Mx st hd j
theorem Mx.lt {bs:List (Str × Nat)} {kbs:List Kb} {D:Nat} {h:Nat->Prop} (r:Mx (stp bs kbs D) h j):j<(bs.map (·.2)).sum:=by
 cases r with
 | one a b=>obtain⟨k,z,_,_,e⟩:=b;exact Ye e
 | more a b=>obtain⟨k,z,_,_,e⟩:=b;exact Ye e
theorem Mx.all {st:Nat->Nat->Prop} {c:Nat->Prop} {W:Nat->Prop} (f:∀ j,W j->Mx st c j) (d:∀ i,(c i \/ W i)->∀ j,st i j->W j) (j:Nat):W j ↔ Mx st c j:=by
 refine⟨f j,λh=>?_⟩
 induction h with
 | one a b=>exact d _ (.inl a) _ b
 | more a b e=>exact d _ (.inr e) _ b
theorem Ey:∀ (T:Nat) {l:List Nat},l.Nodup->(∀ x∈l,x<T)->l.length<=T
 | 0,l,_,h=>by
  cases l with
  | nil=>exact ai _
  | cons a l=>exact absurd (h a (bt ..)) (ic _)
 | T+1,l,nd,h=>by
  have d:=Ey T (l:=l.erase T) (nd.erase T) λx b=>by
   have e:=h x (List.mem_of_mem_erase b)
   have c:x ≠ T:=λz=>by
    subst z
    exact nd.not_mem_erase b
   omega
  have:=List.length_erase (a:=T) (l:=l)
  split at this <;> omega
theorem Vn (a b i:Nat):(a ||| b).testBit i=true ↔ a.testBit i=true \/ b.testBit i=true:=by
 rw[Nat.testBit_or,Bool.or_eq_true]
theorem W4 {a b:Nat} (h:∀ i,a.testBit i=true ↔ b.testBit i=true):a=b:=fF λi=>cw.mpr (h i)
open PySem L2 PyProof.Rows
abbrev Th:=Str × Nat × List V
abbrev tV (a:Th):List V:=.str a.1 :: .int (a.2.1:Nat)::a.2.2
abbrev tN (a:Th):Str × Nat:=(a.1,a.2.1)
abbrev UV (r:Str × Nat × Int):Th:=(r.1,r.2.1,[.int r.2.2])
abbrev cY (b:Str × Nat):Th:=(b.1,b.2,[])
abbrev ak (r:Str × Nat × Int):Str × Nat:=(r.1,r.2.1)
abbrev Gh (r:Str × Nat × Int):R:=⟨"rank",r.1,[.int (r.2.1:Nat),.int r.2.2]⟩
structure Ln where
 r:Nat
 sh:Int
 lo:Int
 hi:Int
abbrev fc (l:Ln):List V:=[.int (l.r:Nat),.int l.sh,.int l.lo,.int l.hi]
inductive GR (H:Hp) (l:List Ln) (v:V):Prop
 | mk (A:Addr) (ts:List V):v=.ref A->H A=some (.lst ts)->Paired (λx y=>TupAt H (fc x) y) l ts->GR H l v
inductive HN (H:Hp) (D:Addr) (ls:List (List Ln)):Prop
 | mk (lv:_):H D=some (.lst lv)->Paired (λl v=>GR H l v) ls lv->HN H D ls
theorem GR.mono {l:List Ln} {v:V} (s:Aj H H') (h:GR H l v):GR H' l v:=by
 obtain⟨A,c,e,b,a⟩:=h
 exact⟨A,c,e,s _ _ b,Aq s a⟩
theorem HN.mono {D:Addr} {a:List (List Ln)} (s:Aj H H') (h:HN H D a):HN H' D a:=by
 obtain⟨d,c,b⟩:=h
 exact⟨d,s _ _ c,Paired.Fg b λ_ _ q=>q.mono s⟩
inductive fP (C:Addr) (H:Hp) (x:Addr) (bs:List (Str × Nat)) (rk:List (Str × Nat × Int)) (ks:List R) (ls:List (List Ln)):Prop
 | mk (dx:Addr) (fs:List (Str × V)) (rl rn pp kl:Addr) (i6 i5:List V) (kvs:List (Key × V)):H x=some (.ins C dx fs)->fs.lookup ("rank_list" : Str)=some (.ref rl)->fs.lookup ("rank_numbers" : Str)=some (.ref rn)->fs.lookup ("pipe_places" : Str)=some (.ref pp)->fs.lookup ("knob_lines" : Str)=some (.ref kl)->H rl=some (.lst i6)->Paired (λ(a:Th) y=>TupAt H (tV a) y) (rk.map UV) i6->H rn=some (.dK kvs)->(∀ (i:Nat) r,rk[i]? = some r->Ci kvs (Sum.inr r.1)=some (.int (i:Nat)))->H pp=some (.lst i5)->Paired (λq y=>TupAt H (qV q) y) (Fo (rk.map ak)) i5->HN H kl ls->fP C H x bs rk ks ls
structure Cm (C:Addr) (H:Hp) (x:Addr) (bs:List (Str × Nat)) (rk:List (Str × Nat × Int)) (ks:List R) (ls:List (List Ln)):Prop where
 o:Cz C H x bs ks
 r:fP C H x bs rk ks ls
 nr:rk.length<=12
 nz:∀ r∈rk,r.2.1<=97
 nl:ls.length=ks.length
theorem Cm.mono {x:Addr} {bs:List (Str × Nat)} {e:List (List Ln)} (s:Aj H H') (h:Cm C H x bs rk ks e):Cm C H' x bs rk ks e:=by
 obtain⟨o,⟨k,fs,q,m,i,y,B,z,d,w,r,g,u,p,f,t,A,v,n,l,j⟩,a,b,c⟩:=h
 exact⟨o.mono s,⟨k,fs,q,m,i,y,B,z,d,s _ _ w,r,g,u,p,s _ _ f,Aq s t,s _ _ A,v,s _ _ n,Aq s l,j.mono s⟩,a,b,c⟩
structure Yt (ρ:V->R) (us:List V) (i:Nat):Prop where
 all:∀ j,j<i->∃ v,us[us.length - 1 - j]? = some v/\(ρ v).w = "line"
 lt:i<us.length
 no:∃ v,us[us.length - 1 - i]? = some v/\¬ (ρ v).w = "line"
def bf (r:R):Int:=match r.rest with
 | [.int m]=>m
 | _=>0
abbrev keyOf (ρ:V->R) (us:List V) (bd:Str) (n:Int):Bool:=(us.filter (pw ρ "board")).any λv=>pn ρ bd v && decide (n<bf (ρ v))
structure Ow (ρ:V->R) (us:List V) (ro:R):Prop where
 ex:∃ (cnt:Nat) (v:V) (sh lo hi:Int) (bd:Str) (rs:List V),ro.rest=[.int sh,.int lo,.int hi]/\Yt ρ us cnt/\cnt<4/\us[us.length - 1 - cnt]? = some v/\(ρ v).w = "stop" /\ (ρ v).rest=.str bd::rs/\lo<=hi/\keyOf ρ us bd hi=true
abbrev FJ (ρ:V->R) (us:List V):Prop:=∀ v∈us,(ρ v).w = "board"->∃ m,(ρ v).rest=[.int m]
structure Ir (K:W.Frag) (aB aP aM:Addr) (ρ:V->R) (vs:List V) (r:R):Prop where
 ns:¬ r.w = "step"
 parts:∃ (ap:Addr) (ps:List Str),W.nsIn K aP r.w=some (some (.ref ap))/\KTup K ap (ps.map V.str)/\(V.str r.nm::r.rest).length=ps.length/\ps.length<=10 /\
  ∀ (i:Nat) x y,(V.str r.nm::r.rest)[i]? = some x->ps[i]? = some y->Hk K aB ρ vs x y
 room:(r.w = "line" /\ W.nsIn K aM r.w=some none) \/ ∃ (m:Int) (t:Tok),W.nsIn K aM r.w=some (some (.int m t))/\(((vs.filter (pw ρ r.w)).length:Nat):Int)<m
 line:r.w = "line"->Ow ρ vs r
 cg:FJ ρ vs
def lnOf (rk:List (Str × Nat × Int)) (r:R):Ln:=match r.rest with
 | [.int sh,.int lo,.int hi]=>⟨(rk.map (·.1)).idxOf r.nm,sh,lo,hi⟩
 | _=>⟨0,0,0,0⟩
def putL (d6:List (List Ln)) (l:Ln):List (List Ln):=match d6.getLast? with
 | some z=>d6.dropLast++[z++[l]]
 | none=>[]
def Cy (rk:List (Str × Nat × Int)) (d6:List (List Ln)) (r:R):List (List Ln):=if HR r.w=true then d6++[[]] else if r.w = "line" then putL d6 (lnOf rk r) else d6
def linesOf (rk:List (Str × Nat × Int)) (rs:List R):List (List Ln):=rs.foldl (Cy rk) []
theorem CP (rk:List (Str × Nat × Int)) (a:List R) (r:R):linesOf rk (a++[r])=Cy rk (linesOf rk a) r:=by
 unfold linesOf
 rw[ed]
 rfl
theorem HJ (a:List (List Ln)) (z:List Ln) (l:Ln):putL (a++[z]) l=a++[z++[l]]:=by
 unfold putL
 rw[List.getLast?_concat,List.dropLast_concat]
structure rF (K:W.Frag) (aB aP aM:Addr) (ρ:V->R) (us:List V) (bs:List (Str × Nat)) (rk:List (Str × Nat × Int)) (ks:List R):Prop where
 kinds:∀ v∈us,(ρ v).w = "board" \/ (ρ v).w = "rank" \/ (ρ v).w = "line" \/ (ρ v).w = "stop" \/ (ρ v).w = "coupler" \/ (ρ v).w = "mute"
 eb:(us.filter (pw ρ "board")).map ρ=bs.map Gb
 er:(us.filter (pw ρ "rank")).map ρ=rk.map Gh
 ek:(us.filter (λv=>HR (ρ v).w)).map ρ=ks
 ln:∀ (i:Nat) v,us[i]? = some v->(ρ v).w = "line"->(∃ (j:Nat) (r:Str × Nat × Int) (sh lo hi:Int),rk[j]? = some r/\r.1=(ρ v).nm/\(ρ v).rest=[.int sh,.int lo,.int hi])/\∃ u∈us.take i,HR (ρ u).w=true
 b0:1<=bs.length
 b5:bs.length<=5
 sz:∀ b∈bs,b.2<=61
 nr:rk.length<=12
 nz:∀ r∈rk,r.2.1<=97
 nk:ks.length<=100
 nb:(bs.map (·.1)).Nodup
 nrr:(rk.map (·.1)).Nodup
 nn:(ks.map (·.nm)).Nodup
 len:us.length<=150
 ok:∀ (i:Nat) v,us[i]? = some v->Ir K aB aP aM ρ (us.take i) (ρ v)
end Og
variable {kbs:List Og.Kb} {ls:List (List Og.Ln)}
namespace Ws
open PySem PySem.Spec PyProof.Rows Wd
def Hm (prog:Program) (w:World) (h:Heap) (a:Addr) (led:Bool) (σ:List Str):Prop :=
 ∃ es ep t,h.get? a=some { cls:=.type "set",dict:=none,data:=.set es ep t }/\ElemsOf (strKind prog w) es.toList/\(∀ k,k∈σ ↔ ∃ e∈es.toList,(strKind prog w).is k e.2=true)/\es.size=σ.length/\σ.Nodup /\
  σ.length<scanBound/\t.fits es.size=true/\Good t led
def Fq (σ:List Str) (k:Str):List Str:=if k∈σ then σ else σ++[k]
section
variable {w:World} {E:vSP} {σ:List Str} {k:Str} {tk:Tok}
theorem gO {Q:Bool->Shared->Prop} (hS:Hm prog w s.heap a led σ) (room:σ.length+1<scanBound)
  (h:∀ b h',Heap.SameBut a s.heap h'->Hm prog w h' a led (Fq σ k)->Q b { s with heap:=h' }):wpAny (model prog w) A (setAddHashed a (.str k tk) ((strKind prog w).hash k)) Q E s:=by
 obtain⟨B,ep,t,H,W,i,hn,nd,hb,hf,g⟩:=hS
 have n:(strKind prog w).is k (.str k tk)=true:=strKind_is _ _ _ _
 have Z:B.size<scanBound:=by rw[hn];exact hb
 unfold setAddHashed setAddHashedIn
 refine wpAny_holding (wpAny_bind (wpAny_setState_of H rfl hf ?_))
 dsimp only
 rw[byScan_of rfl Z W,if_pos rfl]
 unfold setAddByScan
 refine wpAny_bind (wpAny_bind (wpAny_rule (wpAny_bind (wpAny_setScan_of n H rfl hf W ?_))))
 cases hr:List.findIdx? (λe=>(strKind prog w).is k e.2) B.toList with
 | some j =>
  obtain⟨hj,LI,_⟩:=List.findIdx?_eq_some_iff_getElem.mp hr
  have V:k∈σ:=(i k).mpr ⟨_,zdl hj,LI⟩
  refine wpAny_pure (wpAny_pure ?_)
  have:=h false s.heap (Heap.SameBut.refl a s.heap) (by unfold Fq;rw[if_pos V];exact⟨B,ep,t,H,W,i,hn,nd,hb,hf,g⟩)
  exact this
 | none =>
  have V:k ∉ σ:=λq=>by
   obtain⟨e,O,D⟩:=(i k).mp q
   have:=List.findIdx?_eq_none_iff.mp hr e O
   rw[D] at this
   cases this
  dsimp only
  have F:=layNew_perm t B ((strKind prog w).hash k) (.str k tk)
  have X:=layNew_fits t B ((strKind prog w).hash k) (.str k tk)
  have Y:=Vw g B ((strKind prog w).hash k) (.str k tk)
  generalize layNew t B ((strKind prog w).hash k) (.str k tk)=L at F X Y |-
  obtain⟨c,T,wd,Ct⟩:=L
  dsimp only at F X Y |-
  rw[Array.toList_push] at F
  have G:ElemsOf (strKind prog w) c.toList:=(W.push n rfl).perm F
  have K:c.size=(σ++[k]).length:=by
   have:=F.length_eq
   simp only[List.length_append,Array.length_toList,List.length_singleton] at this
   simp only[List.length_append,List.length_singleton]
   omega
  have N:∀ o,o∈σ++[k] ↔ ∃ e∈c.toList,(strKind prog w).is o e.2=true:=λo=>by
   have:=mem_push_iff (knd:=strKind prog w) (S:=λo=>decide (o∈σ)) n (λo=>by rw[decide_eq_true_eq];exact i o) F o
   rw[<-this]
   simp
  have ab:(σ++[k]).Nodup:=List.nodup_append.mpr ⟨nd,by simp,λx hx y hy=>by
   rw[am.mp hy]
   intro q
   exact V (q ▸ hx)⟩
  have P:(σ++[k]).length<scanBound:=by simp only[List.length_append,List.length_singleton];exact room
  have z:c.size<scanBound:=by rw[K];exact P
  have fin:∀ (p:Array (Int × Value)) (d:SetTable) (CC:Nat) (J:Heap),Heap.SameBut a s.heap J->J.get? a=some { cls:=.type "set",dict:=none,data:=.set p CC d }->p.toList.Perm c.toList->d.fits p.size=true->Good d led ->
    Q true { s with heap:=J }:=λp d CC J sb e2 U I C=>by
   refine h true J sb ?_
   unfold Fq
   rw[if_neg V]
   refine⟨p,CC,d,e2,G.perm U,λo=>(N o).trans ⟨λ⟨e,O,q⟩=>⟨e,U.mem_iff.mpr O,q⟩,λ⟨e,O,q⟩=>⟨e,U.mem_iff.mp O,q⟩⟩,?_,ab,P,I,C⟩
   rw[<-Array.length_toList,U.length_eq,Array.length_toList,K]
  have tail:∀ (d:SetTable),d.fits c.size=true->Good d led->wpAny (model prog w) A (do
    storeSet a c d
    if (!wd && d.tooFull)=true then do
      (match (relayAll d c (SetTable.grown c.size)).2.2 with | true=>rule "set.scan.the-table-gave-way" | false=>pure ())
      storeSet a (relayAll d c (SetTable.grown c.size)).1 (relayAll d c (SetTable.grown c.size)).2.1
      pure (some true)
     else pure (some true)) (λr u=>match r with | some b=>Q b u | none=>False) E s:=λd I C=>by
   refine wpAny_bind (wpAny_storeSet_of H rfl ?_ (fits_of_scanBound z))
   have FC:=Heap.SameBut.update s.heap a (Obj.putSet c d)
   have e1:=QJ (es':=c) (t':=d) H
   split
   ·have D:=relayAll_perm d c (SetTable.grown c.size)
    have hq:=relayAll_fits d c (SetTable.grown c.size)
    have hg:=O_ C c (SetTable.grown c.size)
    generalize relayAll d c (SetTable.grown c.size)=R at D hq hg |-
    obtain⟨p,t3,gv⟩:=R
    dsimp only at D hq hg |-
    have ac:p.size<scanBound:=by rw[<-Array.length_toList,D.length_eq,Array.length_toList];exact z
    have v:wpAny (model prog w) A (do storeSet a p t3;pure (some true)) (λr u=>match r with | some b=>Q b u | none=>False) E { s with heap:=s.heap.update a (Obj.putSet c d) }:=by
     refine wpAny_bind (wpAny_storeSet_of e1 rfl ?_ (fits_of_scanBound ac))
     exact wpAny_pure (fin p t3 _ _ (FC.trans (Heap.SameBut.update _ a _)) (QJ e1) D hq hg)
    cases gv
    ·exact wpAny_bind (wpAny_pure v)
    ·exact wpAny_bind (wpAny_rule v)
   ·exact wpAny_pure (fin c d _ _ FC e1 (List.Perm.refl _) I C)
  have l:∀ (d:SetTable),d.fits c.size=true->Good d led->wpAny (model prog w) A (do
    storeSet a c d
    if (!wd && d.tooFull)=true then do
      (match (relayAll d c (SetTable.grown c.size)).2.2 with | true=>rule "set.scan.the-table-gave-way" | false=>pure ())
      storeSet a (relayAll d c (SetTable.grown c.size)).1 (relayAll d c (SetTable.grown c.size)).2.1
      pure (some true)
     else pure (some true)) (λr u=>wpAny (model prog w) A (match r with | some f=>pure f | none=>setAddHashedIn a (.str k tk) ((strKind prog w).hash k) 99999) Q E u) E s:=λd I C =>
   wpAny_mono (tail d I C) (λr u q=>by
    cases r with
    | none=>exact q.elim
    | some b=>exact wpAny_pure q) λ_ _ e=>e
  have M:wpAny (model prog w) A (do
    let m <-if T.plain then hashByValue 8 (.str k tk) else pure true
    let d:=if m=true then T else { T with plain:=false }
    storeSet a c d
    if (!wd && d.tooFull)=true then do
      (match (relayAll d c (SetTable.grown c.size)).2.2 with | true=>rule "set.scan.the-table-gave-way" | false=>pure ())
      storeSet a (relayAll d c (SetTable.grown c.size)).1 (relayAll d c (SetTable.grown c.size)).2.1
      pure (some true)
     else pure (some true)) (λr u=>wpAny (model prog w) A (match r with | some f=>pure f | none=>setAddHashedIn a (.str k tk) ((strKind prog w).hash k) 99999) Q E u) E s:=by
   split
   ·rw[hashByValue_scannable 8 rfl]
    exact wpAny_bind (wpAny_pure (l { T with plain:=false } X ⟨Y.led,λh=>by cases h⟩))
   ·exact wpAny_bind (wpAny_pure (l T X Y))
  cases Ct
  ·exact wpAny_bind (wpAny_pure M)
  ·exact wpAny_bind (wpAny_rule M)
end
inductive StrsAre:List Value->List Str->Prop
 | nil:StrsAre [] []
 | cons (z:Str) (t:Tok) {us:List Value} {zs:List Str}:StrsAre us zs->StrsAre (.str z t::us) (z::zs)
theorem StrsAre.length:∀ {us:List Value} {zs:List Str},StrsAre us zs->us.length=zs.length
 | _,_,.nil=>rfl
 | _,_,.cons z t r=>congrArg (· + 1) r.length
theorem StrsAre.Tu:∀ {us:List Value} {zs:List Str},StrsAre us zs->∀ (i:Nat) (v:Value),us[i]? = some v->∃ t,v=.str (zs.getD i "") t
 | _,_,.nil,i,v,h=>by simp at h
 | _,_,.cons z t r,0,v,h=>by simp at h;exact⟨t,h.symm⟩
 | _,_,.cons z t r,i+1,v,h=>by
  have a:_:=h
  rw[List.getElem?_cons_succ] at a
  obtain⟨b,e⟩:=r.Tu i v a
  exact⟨b,by rw[e];rfl⟩
theorem Hm.keep {w:World} {σ:List Str} (g:Hm prog w h a led σ) (k:∀ o,h.get? a=some o->h'.get? a=some o):Hm prog w h' a led σ :=
 let ⟨c,b,t,e,r⟩:=g;⟨c,b,t,k _ e,r⟩
theorem U6 (σ:List Str) (k:Str):(Fq σ k).length<=σ.length+1:=by
 unfold Fq
 split
 ·omega
 ·simp
theorem Ks:∀ (ns:List Str) (σ:List Str),(ns.foldl Fq σ).length<=σ.length+ns.length
 | [],σ=>by simp
 | k::ns,σ=>by
  have a:=Ks ns (Fq σ k)
  have b:=U6 σ k
  simp only[List.foldl_cons,List.length_cons]
  omega
section
variable {w:World} {R:Result->Shared->Prop} {I:Addr} {wr:List Addr} {G:Array GenState->Array GenState->Prop} {P:Nat->Value->Prop} {St:Nat->Shared->Prop}
theorem cG (W:WalksS prog w A.in1 I fp wr G n P St) (S:Addr) (f:S ∉ fp) (a:List Str) (L:a.length=n) (K:∀ i v,P i v->∃ t,v=.str (a.getD i "") t) (c:n+1<scanBound) :
  ∀ (k i:Nat) (s:Shared),n - i=k->i<=n->St i s->Hm prog w s.heap S led ((a.take i).foldl Fq []) ->
   (∀ s',Moved (S::wr) G s s'->Hm prog w s'.heap S led (a.foldl Fq [])->R (.ok (.ret .none)) s')->codeAny (model prog w) A (.builtin "set.update.loop" ⟨[.ref S,.ref I],[]⟩) R s:=by
 have q:S ∉ wr:=λz=>f (W.sub _ z)
 have up:∀ b∈wr,b∈S::wr:=λb z=>ba _ z
 intro k
 induction k with
 | zero =>
  intro i s B J st g d
  obtain rfl:i=n:=by omega
  refine codeAny_builtin F.entry_set_update_loop ?_
  rw[Around.under_plainId F.plain_set_update_loop _]
  refine wpAny_bind (W.done s _ _ st λs' m=>wpAny_pure (d s' (m.mono up) ?_))
  rw[fe (by omega)] at g
  exact g.keep λo e=>m.heap S o q e
 | succ k D =>
  intro i s B J st g d
  have lt:i<n:=by omega
  refine codeAny_builtin F.entry_set_update_loop ?_
  rw[Around.under_plainId F.plain_set_update_loop _]
  refine wpAny_bind (W.item i s _ _ lt st λv s' p r m=>?_)
  obtain⟨t,rfl⟩:=K i v p
  have H:=g.keep (h':=s'.heap) λo e=>m.heap S o q e
  refine wpAny_bind (wpAny_holding (wpAny_holding (wpAny_bind ((strKind prog w).pyHash (k:=a.getD i "") (strKind_is _ _ _ _) ?_))))
  have room:((a.take i).foldl Fq []).length+1<scanBound:=by
   have:=Ks (a.take i) []
   rw[df] at this
   simp at this
   omega
  have tk:a.take (i+1)=a.take i++[a.getD i ""]:=by
   have j:i<a.length:=by omega
   rw[cE,ae j]
   simp[j]
  refine gO (s:={ s' with toks:=s'.toks+1 }) H room λb h l y=>?_
  have u:Hm prog w h S led ((a.take (i+1)).foldl Fq []):=by
   rw[tk,ed]
   exact y
  refine wpAny_pure ⟨plainId_quiet F.plain_set_update_loop _,D (i+1) _ (by omega) lt (W.frame _ s' _ _ r (gL _) λb c o e=>?_) u λC x E=>?_⟩
  ·rw[l.2 b (λz:b=S=>f (z ▸ c))]
   exact e
  ·refine d C (Moved.trans W.gtrans ((m.mono up).then_heap (gL _) λb o c e=>?_) x) E
   rw[l.2 b (λz:b=S=>c (by rw[z];exact bt))]
   exact e
end
section
variable {w:World} {E:vSP}
theorem Xj (h:Heap):Hm prog w (h.push { cls:=.type "set",dict:=none,data:=.set #[] 0 (.fresh 0 0 (Dz w)) }) h.objs.size (Dz w) [] :=
 ⟨#[],0,_,Heap.get?_push_size _ rfl,λe a=>by simp at a,λk=>by simp,rfl,.nil,by decide,by rfl,Pb _⟩
set_option maxHeartbeats 4000000 in
theorem gf {j:Array Value} {f:List Str} (P:A.handled=none) (Z:s.heap.IsTuple l j) (L:StrsAre j.toList f) (O:f.length+1<scanBound)
  (h:∀ h' tk,Hm prog w h' s.heap.objs.size (Dz w) (f.foldl Fq [])->(∀ b o,s.heap.get? b=some o->h'.get? b=some o)->Q (.ref s.heap.objs.size) { s with heap:=h',toks:=tk }) :
  wpAny (model prog w) A (call (.type "set") [.ref l]) Q E s:=by
 obtain⟨c,tl,OH⟩:=F.called_set.mro
 have DZ:=F.called_set.made
 have G:=F.called_set.sub
 have d:j.size=f.length:=by rw[<-StrsAre.length L];simp
 refine wpAny_call (codeAny_of_tree ?_)
 show wpAny _ _ (callAny (.type "set") _) _ _ _
 refine wpAny_pure ⟨Code.quiet_builtin _ (by decide),codeAny_builtin F.entry_type_call ?_⟩
 rw[Around.under_plain (weight_type_call_type "set" [.ref l] []) rfl]
 have h1:=F.called_set.notType
 have h2:=F.called_set.canCreate
 have RU:=F.typeCall_set_1 (.ref l)
 repeat (any_goals (first | assumption | wp_step))
 refine codeAny_mono (eN (.ref l) (E:=E) (Q1:=λa C=>a=.ref s.heap.objs.size/\C = { s with heap:=s.heap.push { cls:=.type "set",dict:=none,data:=.set #[] 0 (.fresh 0 0 (Dz w)) } }) ⟨rfl,rfl⟩) λr C n=>?_
 rcases r with e | fl
 ·exact n
 obtain⟨a,rfl,n⟩:∃ a,fl=.ret a/\(a=.ref s.heap.objs.size/\C = { s with heap:=s.heap.push { cls:=.type "set",dict:=none,data:=.set #[] 0 (.fresh 0 0 (Dz w)) } }):=by
  cases fl with
  | ret v=>exact⟨v,rfl,n⟩
  | _=>exact n.elim
 obtain⟨rfl,rfl⟩:=n
 have Y:(s.heap.push { cls:=.type "set",dict:=none,data:=.set #[] 0 (.fresh 0 0 (Dz w)) }).get? s.heap.objs.size=some { cls:=.type "set",dict:=none,data:=.set #[] 0 (.fresh 0 0 (Dz w)) }:=Heap.get?_push_size _ rfl
 have hT:Shared.TypeIs { s with heap:=s.heap.push { cls:=.type "set",dict:=none,data:=.set #[] 0 (.fresh 0 0 (Dz w)) } } (.ref s.heap.objs.size) "set":=⟨_,Y,rfl⟩
 have zU:=F.called_set.init.lookup
 have ze:=F.called_set.init.bind (.ref s.heap.objs.size)
 repeat (any_goals (first | assumption | wp_step))
 refine codeAny_mono (codeAny_call_builtin (R:=wants (λr B=>r=.none/\∃ h' tk,B = { s with heap:=h',toks:=tk }/\Hm prog w h' s.heap.objs.size (Dz w) (f.foldl Fq [])/\∀ b o,s.heap.get? b=some o->h'.get? b=some o) E)
  F.called_set.init.plain F.entry_set_init (check_set_init_1 hT ?_)) λX B u=>?_
 ·obtain⟨ol,K,x,J,D⟩:=Z
  obtain⟨Lu,yK,D0,N⟩:=ol
  simp only at x D
  subst x;subst D
  have k:(s.heap.push { cls:=.type "set",dict:=none,data:=.set #[] 0 (.fresh 0 0 (Dz w)) }).get? l=some { cls:=.type "tuple",dict:=yK,data:=.seq j J,slots:=N }:=Heap.get?_push_of_some _ K
  have No:=F.sub_tuple_set
  have IB:=F.sub_tuple_frozenset
  have ab:(Value.type "tuple" == Value.type "dict")=false:=by decide
  have t:(s.heap.push { cls:=.type "set",dict:=none,data:=.set #[] 0 (.fresh 0 0 (Dz w)) }).IsTuple l j:=⟨_,k,rfl,J,rfl⟩
  unfold Builtin.«set.__init__» noKeywords Builtin.Frozenset.updateFrom
  generalize y:pyIter=PI
  wp_walk
  subst y
  refine wpAny_pyIter_tuple t (wpAny_bind (wpAny_runValue ?_))
  have H:l<s.heap.objs.size:=Heap.lt_size K
  have T:A.in1.in1.in1.handled=none:=by simp[P]
  have U:l ≠ (s.heap.push { cls:=.type "set",dict:=none,data:=.set #[] 0 (.fresh 0 0 (Dz w)) }).objs.size:=by
   rw[Heap.size_push]
   exact be (fI H)
  have S:s.heap.objs.size ∉ [(s.heap.push { cls:=.type "set",dict:=none,data:=.set #[] 0 (.fresh 0 0 (Dz w)) }).objs.size,l]:=by
   rw[Heap.size_push]
   intro z
   rcases cm.mp z with q | q
   ·exact absurd q (be (fN _))
   ·exact absurd (am.mp q) (fh H)
  refine cG ((Walks.tuple T _ l U j).toS) s.heap.objs.size S f d.symm (λi v hv=>StrsAre.Tu L i v (by rw[Array.getElem?_toList];exact hv)) (by rw[d];exact O) (j.size - 0) 0 _ rfl (ee _)
   ⟨⟨_,Heap.get?_push_size _ rfl,rfl,rfl⟩,(t.push _)⟩ ((Xj s.heap).keep λo e=>Heap.get?_push_of_some _ e) λV m g=>?_
  obtain⟨h',g',d',M,BB⟩:=V
  obtain rfl:g'=s.gens:=m.gens
  obtain rfl:d'=s.drawn:=m.drawn
  obtain rfl:BB=s.os:=m.os
  show wpAny _ _ _ _ _ _
  refine wpAny_pure ?_
  show wpAny _ _ (ret Value.none) _ _ _
  refine wpAny_pure ⟨rfl,h',M,rfl,g,λb o e=>?_⟩
  have I:=Heap.lt_size e
  refine m.heap b o (λz=>?_) (Heap.get?_push_of_some _ (Heap.get?_push_of_some _ e))
  rcases cm.mp z with q | q
  ·exact absurd q (be I)
  ·have:=am.mp q
   rw[Heap.size_push] at this
   exact absurd this (be (fI I))
 ·rcases X with e | p
  ·exact u
  obtain⟨r,rfl,u⟩:∃ r,p=.ret r/\(r=.none/\∃ h' tk,B = { s with heap:=h',toks:=tk }/\Hm prog w h' s.heap.objs.size (Dz w) (f.foldl Fq [])/\∀ b o,s.heap.get? b=some o->h'.get? b=some o):=by
   cases p with
   | ret v=>exact⟨v,rfl,u⟩
   | _=>exact u.elim
  obtain⟨rfl,h',tk,rfl,g,W⟩:=u
  repeat (any_goals (first | assumption | wp_step))
  exact h _ _ g W
end
end Ws
namespace L2
open PySem PySem.Spec PyProof.Rows
def Ms (P:Program) (w:World) (a:Addr) (τ:List Str):HO:=.ext λh=>Ws.Hm P w h a (Wd.Dz w) τ
theorem U4 {w:World} {τ:List Str} (g:Ws.Hm P w h a (Wd.Dz w) τ):Bx P w H h a (Ms P w a τ) :=
 ⟨g,(let ⟨_,_,_,e,_⟩:=g;⟨_,e⟩),λ_ _ g k=>g.keep k⟩
theorem K8:∀ {ts:List Str} {us:List Value},Vals (ts.map V.str) us->Ws.StrsAre us ts
 | [],_,r=>by cases r;exact .nil
 | n::ns,_,r=>by
  cases r with
  | cons r t =>
   obtain⟨tk,rfl⟩:=r
   exact .cons n tk (K8 t)
theorem RC (c:X.calm=true):Ep X (.type "set") (λxs H Q=>∃ (l:Addr) (ts:List Str),xs=[V.ref l]/\Er X.K H l (ts.map V.str)/\ts.length<=1000/\∀ p,H p=none->Q (.ref p) (upd H p (Ms X.prog X.w p (ts.foldl Ws.Fq [])))):=by
 intro m s σ H xs j Q I r h
 obtain⟨l,ts,rfl,b,n,q⟩:=h
 obtain⟨u,rfl,e⟩:=vals1 r
 cases e
 obtain⟨a,f,d,_⟩:=I.tuple b
 have i:H s.heap.objs.size=none:=I.hok.fresh (ai _)
 refine Ws.gf (I.ok.hd c) d (by simpa using K8 f) (by unfold scanBound;omega) λo tk g k=>?_
 exact⟨.ref s.heap.objs.size,_,I.laid (t':=tk) k (ai _) (U4 g),rfl,q _ i⟩
theorem Kd:Ep X (.builtin "len") (λxs H Q=>∃ (a:Addr) (τ:List Str),xs=[V.ref a]/\H a=some (Ms X.prog X.w a τ)/\Q (.int (τ.length:Nat)) H):=by
 intro l s σ H xs k Q I r h
 obtain⟨a,τ,rfl,i,q⟩:=h
 obtain⟨u,rfl,e⟩:=vals1 r
 cases e
 obtain⟨⟨d,n,t,g,j,p,c,m,b,f,o⟩,_,_⟩:=(show Bx X.prog X.w H s.heap a (Ms X.prog X.w a τ) from I.hok a _ i)
 unfold scanBound at b
 refine call_len_set g ⟨rfl,rfl,rfl⟩ rfl f (by omega) ⟨.int ((d.size:Nat):Int),H,I.tok _,⟨_,rfl⟩,?_⟩
 rw[c]
 exact q
theorem Ko:∀ (ts τ:List Str),(τ++ts).Nodup->(ts.foldl Ws.Fq τ)=τ++ts
 | [],τ,_=>(gz _).symm
 | t::ts,τ,h=>by
  have a:t ∉ τ:=λz=>by
   rw[List.nodup_append] at h
   exact h.2.2 t z t (bt ..) rfl
  rw[List.foldl_cons]
  have e:Ws.Fq τ t=τ++[t]:=by unfold Ws.Fq;rw[if_neg a]
  rw[e,Ko ts (τ++[t]) (by rw[ge];exact h),ge]
  rfl
end L2
namespace Og
open PySem L2
theorem Xh {K:W.Frag} {f:Str} (c:X.K=K) (b:PE X e ta) (a:attributeBase e f X.env (eval e X.env)=eval e X.env):PE X (.Attribute e f pos) (gh K ta f):=by
 rw[<-c]
 exact CK b a
structure Z8 (K:W.Frag) (aM:Addr) (ρ:V->R) (vs:List V) (r:R):Prop where
 w:r.w = "step"
 ts:∃ ts:List Str,V.str r.nm::r.rest=ts.map V.str/\ts.Nodup/\ts.length<=24/\∀ t∈ts,isNm t/\WX ρ vs "stop" t=true
 room:∃ (m:Int) (t:Tok),W.nsIn K aM r.w=some (some (.int m t))/\(((vs.filter (pw ρ r.w)).length:Nat):Int)<m
abbrev Gz (K:W.Frag) (aB aP aM:Addr) (ρ:V->R) (vs:List V) (r:R):Prop:=Ir K aB aP aM ρ vs r \/ Z8 K aM ρ vs r
theorem Gz.room {K:W.Frag} {r:R} (h:Gz K aB aP aM ρ vs r):W.nsIn K aM r.w=some none \/ ∃ (m:Int) (t:Tok),W.nsIn K aM r.w=some (some (.int m t))/\(((vs.filter (pw ρ r.w)).length:Nat):Int)<m :=
 h.elim (λh=>h.room.elim (λz=>.inl z.2) .inr) (λh=>.inr h.room)
def La (r:R):List Str:=(V.str r.nm::r.rest).map λv=>match v with | .str t=>t | _=>""
theorem Ij {r:R} {ts:List Str} (h:V.str r.nm::r.rest=ts.map V.str):La r=ts:=by
 unfold La
 rw[h,aT]
 exact ii ts
def stN (ks:List R) (r:R):Nat:=Wd.mk ((La r).map λt=>(ks.map (·.nm)).idxOf t)
structure n_ (K:W.Frag) (aB aP aM:Addr) (ρ:V->R) (us:List V) (bs:List (Str × Nat)) (rk:List (Str × Nat × Int)) (ks:List R):Prop where
 eb:(us.filter (pw ρ "board")).map ρ=bs.map Gb
 er:(us.filter (pw ρ "rank")).map ρ=rk.map Gh
 ek:(us.filter (λv=>HR (ρ v).w)).map ρ=ks
 ln:∀ (i:Nat) v,us[i]? = some v->(ρ v).w = "line"->(∃ (j:Nat) (r:Str × Nat × Int) (sh lo hi:Int),rk[j]? = some r/\r.1=(ρ v).nm/\(ρ v).rest=[.int sh,.int lo,.int hi])/\∃ u∈us.take i,HR (ρ u).w=true
 st:∀ v∈us,(ρ v).w = "step"->∃ ts:List Str,V.str (ρ v).nm::(ρ v).rest=ts.map V.str/\ts.length<=24/\∀ t∈ts,t∈ks.map (·.nm)
 b0:1<=bs.length
 b5:bs.length<=5
 sz:∀ b∈bs,b.2<=61
 nr:rk.length<=12
 nz:∀ r∈rk,r.2.1<=97
 nk:ks.length<=100
 nb:(bs.map (·.1)).Nodup
 nrr:(rk.map (·.1)).Nodup
 nn:(ks.map (·.nm)).Nodup
 len:us.length<=150
 ok:∀ (i:Nat) v,us[i]? = some v->Gz K aB aP aM ρ (us.take i) (ρ v)
inductive fL (C:Addr) (H:Hp) (x:Addr) (us:List V) (bs:List (Str × Nat)) (rk:List (Str × Nat × Int)) (ks:List R) (ls:List (List Ln)) (d0:List Nat):Prop
 | mk (dx:Addr) (fs:List (Str × V)) (rl kd ss:Addr) (kvs:List (Key × V)) (q1:H x=some (.ins C dx fs)) (q2:fs.lookup ("row_list" : Str)=some (.ref rl)) (q3:fs.lookup ("knob_numbers" : Str)=some (.ref kd)) (q4:fs.lookup ("step_sets" : Str)=some (.ref ss)) (q5:H rl=some (.lst us)) (q6:H kd=some (.dK kvs)) (q7:(∀ (i:Nat) t,(ks.map (·.nm))[i]? = some t->Ci kvs (Sum.inr t)=some (.int (i:Nat)))) (q8:(∀ t,t ∉ ks.map (·.nm)->Ci kvs (Sum.inr t)=none)) (q9:H ss=some (.lst (d0.map λn:Nat=>V.int (n:Int)))) (bn:Addr) (kb:List (Key × V)):fs.lookup ("board_numbers" : Str)=some (.ref bn)->H bn=some (.dK kb)->(∀ t,t ∉ bs.map (·.1)->Ci kb (Sum.inr t)=none)->fL C H x us bs rk ks ls d0
structure cN (C:Addr) (H:Hp) (x:Addr) (us:List V) (bs:List (Str × Nat)) (rk:List (Str × Nat × Int)) (ks:List R) (ls:List (List Ln)) (d0:List Nat):Prop where
 o:Cm C H x bs rk ks ls
 m:fL C H x us bs rk ks ls d0
inductive Df (p:Addr) (H:Hp) (D:Addr) (ls:List (List Ln)):Prop
 | mk (lv:_):H D=some (.lst lv)->D ≠ p->Paired (λl v=>GR H l v/\v ≠ .ref p) ls lv->Df p H D ls
theorem Df.mono {p:Addr} {D:Addr} (s:Aj H H') (h:Df p H D ls):Df p H' D ls:=by
 obtain⟨c,b,a,d⟩:=h
 exact⟨c,s _ _ b,a,Paired.Fg d λ_ _ q=>⟨q.1.mono s,q.2⟩⟩
theorem Df.sx {p x:Addr} {fs:List (Str × V)} {D:Addr} (h:Df p H D ls) (s:SX x H H') (a:H x=some (.ins C dx fs)):Df p H' D ls:=by
 obtain⟨g,d,b,i⟩:=h
 refine⟨g,s.lst a d,b,Paired.Fg i λ_ _ q=>⟨?_,q.2⟩⟩
 obtain⟨A,j,e,f,c⟩:=q.1
 exact⟨A,j,e,s.lst a f,s.pair a c⟩
theorem U_ {p:Addr} {us a:List V} (s:SX p H H') (b:H p=some (.lst us)) (h:TupAt H a y):TupAt H' a y:=by
 obtain⟨T,rfl,e⟩:=h
 exact⟨T,rfl,s _ _ e λz=>by rw[z,b] at e;cases e⟩
theorem Ib {α:Type} {f:α->List V} {p:Addr} {us:List V} {l:List α} (s:SX p H H') (b:H p=some (.lst us)) (h:Paired (λa y=>TupAt H (f a) y) l vs):Paired (λa y=>TupAt H' (f a) y) l vs:=Paired.Fg h λ_ _ q=>U_ s b q
theorem QK {p:Addr} {us:List V} (s:SX p H H') (b:H p=some (.lst us)) (h:H a=some (.dK kvs)):H' a=some (.dK kvs):=s _ _ h λz=>by rw[z,b] at h;cases h
theorem Df.sp {p:Addr} {us:List V} {D:Addr} (h:Df p H D ls) (s:SX p H H') (f:H p=some (.lst us)):HN H' D ls:=by
 obtain⟨g,e,a,c⟩:=h
 refine⟨g,s _ _ e a,Paired.Fg c λ_ v q=>?_⟩
 obtain⟨⟨A,b,rfl,i,d⟩,j⟩:=q
 exact⟨A,b,rfl,s _ _ i (λz=>j (by rw[z])),Ib s f d⟩
end Og
namespace Sq
open PySem PySem.W PyProof.Rows
structure m6 (lt:Nat->Nat->Bool):Prop where
 irr:∀ a,lt a a=false
 asy:∀ a b,lt a b=true->lt b a=false
 tr:∀ a b c,lt b a=false->lt c b=false->lt c a=false
def run {α:Type} (lt:Nat->Nat->Bool):KasT α->α
 | .ret a=>a
 | .ask i j k=>run lt (k (lt i j))
theorem run_bind {α β:Type} {lt:Nat->Nat->Bool} {f:α->KasT β}:∀ t:KasT α,run lt (t.bind f)=run lt (f (run lt t))
 | .ret a=>rfl
 | .ask i j k=>run_bind (k (lt i j))
theorem Dv {α:Type} {lt:Nat->Nat->Bool} {c:Prop} [Decidable c] {a b:KasT α}:run lt (if c then a else b)=if c then run lt a else run lt b:=by split <;> rfl
def K (p:Array Nat) (i:Nat):Nat:=(p[i]?).getD 0
theorem K_eq (p:Array Nat) (i:Nat):p.getD i 0=K p i:=by
 unfold K
 by_cases h:i<p.size <;> simp[Array.getD,h]
theorem HW (a:j<=p.size) (k:Nat):K (kas_rev p i j) k=if i<=k/\k<j then K p (i+j - 1 - k) else K p k:=by
 unfold K kas_rev
 rw[getElem?_mirror_all a]
 split <;> rfl
theorem Jt (p:Array Nat) (i j:Nat):(kas_rev p i j).size=p.size:=mirror_size _ _ _ _
theorem Ej (p:Array Nat) (i j:Nat):(kas_rev p i j).Perm p:=mirror_perm _ _ _ _
theorem Yw {k l:Nat} (a:k<p.size) (b:l<=k) (i:Nat):K (bubble p k (k - l)) i=if i=l then K p k else if l<i/\i<=k then K p (i - 1) else K p i:=by
 unfold K
 rw[getElem?_bubble a _ (by omega)]
 have e:k - (k - l)=l:=by omega
 rw[e]
 repeat' split
 all_goals rfl
section
variable {lt:Nat->Nat->Bool} (O:m6 lt)
include O
def Up (lt:Nat->Nat->Bool) (p:Array Nat) (n:Nat):Prop:=∀ i j,i<=j->j<n->lt (K p j) (K p i)=false
def Dn (lt:Nat->Nat->Bool) (p:Array Nat) (n:Nat):Prop:=∀ i j,i<=j->j<n->lt (K p i) (K p j)=false
theorem W5 (h:Up lt p (n+1)) (c:lt (K p (n+1)) (K p n)=false):Up lt p (n+2):=by
 intro i j b d
 by_cases e:j=n+1
 ·subst e
  by_cases a:i=n+1
  ·subst a;exact O.irr _
  ·exact O.tr _ _ _ (h i n (by omega) (by omega)) c
 ·exact h i j b (by omega)
theorem Hq (h:Dn lt p (n+1)) (c:lt (K p n) (K p (n+1))=false):Dn lt p (n+2):=by
 intro i j b d
 by_cases e:j=n+1
 ·subst e
  by_cases a:i=n+1
  ·subst a;exact O.irr _
  ·exact O.tr _ _ _ c (h i n (by omega) (by omega))
 ·exact h i j b (by omega)
theorem Oa:∀ (f n:Nat),1<=n->Up lt p n->∃ m,run lt (kas_asc p f n)=m/\n<=m/\m<=n+f/\Up lt p m/\(m<n+f->lt (K p m) (K p (m - 1))=true)
 | 0,n,_,h=>⟨n,rfl,ai _,ai _,h,λz=>absurd z (fg _)⟩
 | f+1,n,g,h=>by
  unfold kas_asc
  show ∃ m,run lt (if lt (p.getD n 0) (p.getD (n - 1) 0)=true then _ else _)=m/\_
  rw[K_eq,K_eq,Dv]
  by_cases c:lt (K p n) (K p (n - 1))=true
  ·rw[if_pos c]
   exact⟨n,rfl,ai _,by omega,h,λ_=>c⟩
  ·rw[if_neg c]
   obtain⟨d,rfl⟩:∃ d,n=d+1:=⟨n - 1,by omega⟩
   obtain⟨m,e,a,b,u,l⟩:=Oa f (d+1+1) (by omega) (W5 O h (by simpa using c))
   exact⟨m,e,by omega,by omega,u,λz=>l (by omega)⟩
structure De (lt:Nat->Nat->Bool) (p:Array Nat) (n q:Nat):Prop where
 dn:Dn lt p n
 hq:q+1<=n
 eq:∀ i,n - (q+1)<=i->i<n->lt (K p i) (K p (n - 1))=false/\lt (K p (n - 1)) (K p i)=false
theorem Ue {q:Nat} (h:De lt p n q) (e:n<=p.size):Dn lt (kas_rev p (n - (q+1)) n) n:=by
 have s:=h.hq
 have k:∀ a b,n - (q+1)<=a->a<n->n - (q+1)<=b->b<n->lt (K p a) (K p b)=false:=λa b g r m f=>O.tr _ _ _ (h.eq b m f).2 (h.eq a g r).1
 intro i j o d
 rw[HW e,HW e]
 by_cases l:n - (q+1)<=i
 ·rw[if_pos ⟨l,by omega⟩,if_pos ⟨by omega,d⟩]
  exact k _ _ (by omega) (by omega) (by omega) (by omega)
 ·rw[if_neg (by omega)]
  by_cases c:n - (q+1)<=j
  ·rw[if_pos ⟨c,d⟩]
   exact h.dn _ _ (by omega) (by omega)
  ·rw[if_neg (by omega)]
   exact h.dn _ _ o d
theorem JW:∀ (f:Nat) (p:Array Nat) (n q:Nat),De lt p n q->n+f<=p.size->∃ p' n' q',run lt (kas_desc f p n q)=(p',n',q')/\De lt p' n' q'/\n<=n'/\n'<=n+f/\p'.Perm p
 | 0,p,n,q,h,_=>⟨p,n,q,rfl,h,ai _,ai _,Array.Perm.refl _⟩
 | f+1,p,n,q,h,x=>by
  have w:=h.hq
  obtain⟨j,rfl⟩:∃ j,n=j+1:=⟨n - 1,by omega⟩
  have one:∀ {p':Array Nat},Dn lt p' (j+2)->De lt p' (j+2) 0:=λ{p'} d=>⟨d,by omega,λi o u=>by
   have:i=j+1:=by omega
   subst this
   exact⟨O.irr _,O.irr _⟩⟩
  unfold kas_desc
  show ∃ p' n' q',run lt (if lt (p.getD (j+1) 0) (p.getD (j+1 - 1) 0)=true then _ else _)=(p',n',q')/\_
  rw[K_eq,K_eq,Dv]
  by_cases c:lt (K p (j+1)) (K p (j+1 - 1))=true
  ·rw[if_pos c,Dv]
   by_cases k:q > 0
   ·rw[if_pos k]
    have s:=Ue O h (by omega)
    have t:K (kas_rev p (j+1 - (q+1)) (j+1)) (j+1)=K p (j+1):=by rw[HW (by omega),if_neg (by omega)]
    have m:lt (K (kas_rev p (j+1 - (q+1)) (j+1)) j) (K p (j+1))=false:=by
     rw[HW (by omega),if_pos (by omega)]
     exact O.tr _ _ _ (O.asy _ _ c) (h.eq _ (by omega) (by omega)).1
    obtain⟨p',n',q',e,d,a,b,pm⟩:=JW f (kas_rev p (j+1 - (q+1)) (j+1)) (j+2) 0 (one (Hq O s (by rw[t];exact m))) (by rw[Jt];omega)
    exact⟨p',n',q',e,d,by omega,by omega,pm.trans (Ej _ _ _)⟩
   ·rw[if_neg k]
    obtain⟨p',n',q',e,d,a,b,pm⟩:=JW f p (j+2) 0 (one (Hq O h.dn (O.asy _ _ c))) (by omega)
    exact⟨p',n',q',e,d,by omega,by omega,pm⟩
  ·rw[if_neg c]
   have r:lt (K p (j+1)) (K p j)=false:=by simpa using c
   show ∃ p' n' q',run lt (if lt (K p (j+1 - 1)) (K p (j+1))=true then _ else _)=(p',n',q')/\_
   rw[Dv]
   by_cases g:lt (K p (j+1 - 1)) (K p (j+1))=true
   ·rw[if_pos g]
    exact⟨p,j+1,q,rfl,h,ai _,by omega,Array.Perm.refl _⟩
   ·rw[if_neg g]
    have l:lt (K p j) (K p (j+1))=false:=by simpa using g
    have v:De lt p (j+2) (q+1):=⟨Hq O h.dn l,by omega,λi o u=>by
     by_cases e:i=j+1
     ·subst e;exact⟨O.irr _,O.irr _⟩
     ·have:=h.eq i (by omega) (by omega)
      exact⟨O.tr _ _ _ l this.1,O.tr _ _ _ this.2 r⟩⟩
    obtain⟨p',n',q',e,d,a,b,pm⟩:=JW f p (j+2) (q+1) v (by omega)
    exact⟨p',n',q',e,d,by omega,by omega,pm⟩
theorem bH (h:Dn lt p n) (a:n<=p.size):Up lt (kas_rev p 0 n) n:=by
 intro i j c b
 rw[HW a,HW a,if_pos (by omega),if_pos (by omega)]
 exact h _ _ (by omega) (by omega)
theorem Qj {r:Nat} (h:Dn lt p n) (c:1<=n) (f:n<=r) (d:r<=p.size):∃ m p',run lt (kas_tail3 n r p)=(m,p')/\Up lt p' m/\1<=m/\m<=r/\p'.Perm p:=by
 unfold kas_tail3
 rw[run_bind]
 obtain⟨m,e,a,b,u,_⟩:=Oa O (r - n) n c (bH O h (by omega))
 rw[e]
 exact⟨m,_,rfl,u,by omega,by omega,Ej _ _ _⟩
theorem QM {r:Nat} (h:Dn lt p (n+1)) (t:n+1<=r) (s:r<=p.size):∃ m p',run lt (kas_descPart n r p)=(m,p')/\Up lt p' m/\1<=m/\m<=r/\p'.Perm p:=by
 unfold kas_descPart
 rw[run_bind]
 obtain⟨o,j,k,e,d,a,b,pm⟩:=JW O (r - (n+1)) p (n+1) 0 ⟨h,by omega,λi l q=>by
  have:i=n:=by omega
  subst this
  exact⟨O.irr _,O.irr _⟩⟩ (by omega)
 have z:=pm.size_eq
 rw[e]
 show ∃ m p',run lt (if k > 0 then _ else _)=_/\_
 rw[Dv]
 by_cases g:k > 0
 ·rw[if_pos g]
  obtain⟨m,p',c,u,x,y,f⟩:=Qj O (Ue O d (by omega)) (by omega) (show j<=r by omega) (by rw[Jt];omega)
  exact⟨m,p',c,u,x,y,f.trans ((Ej _ _ _).trans pm)⟩
 ·rw[if_neg g]
  obtain⟨m,p',c,u,x,y,f⟩:=Qj O d.dn (by omega) (show j<=r by omega) (by omega)
  exact⟨m,p',c,u,x,y,f.trans pm⟩
theorem Tw {r:Nat} (H:1<=r) (D:r<=p.size):∃ m p',run lt (kas_count r p)=(m,p')/\Up lt p' m/\1<=m/\m<=r/\p'.Perm p:=by
 unfold kas_count
 rw[run_bind]
 obtain⟨n,e,a,b,u,l⟩:=Oa O (p:=p) (r - 1) 1 (ai _) (λi j t k=>by
  have o:i=0:=by omega
  have h:j=0:=by omega
  subst o h
  exact O.irr _)
 rw[e,Dv]
 by_cases q:(n == r)=true
 ·rw[if_pos q]
  exact⟨n,p,rfl,u,by omega,by omega,Array.Perm.refl _⟩
 ·rw[if_neg q,Dv]
  have B:n ≠ r:=by simpa using q
  have c:=l (by omega)
  by_cases h:n > 1
  ·rw[if_pos h]
   show ∃ m p',run lt (if lt (p.getD 0 0) (p.getD (n - 1) 0)=true then _ else _)=_/\_
   rw[K_eq,K_eq,Dv]
   by_cases g:lt (K p 0) (K p (n - 1))=true
   ·rw[if_pos g]
    exact⟨n,p,rfl,u,by omega,by omega,Array.Perm.refl _⟩
   ·rw[if_neg g]
    have E:lt (K p 0) (K p (n - 1))=false:=by simpa using g
    have s:∀ i j,i<n->j<n->lt (K p i) (K p j)=false:=λi j I k=>by
     have z:=u j (n - 1) (by omega) (by omega)
     have F:=u 0 i (by omega) (by omega)
     exact O.tr _ _ _ z (O.tr _ _ _ E F)
    obtain⟨f,rfl⟩:∃ f,n=f+1:=⟨n - 1,by omega⟩
    have d:Dn lt (kas_rev p 0 (f+1)) (f+1):=λi j t k=>by
     rw[HW (by omega),HW (by omega),if_pos (by omega),if_pos (by omega)]
     exact s _ _ (by omega) (by omega)
    have A:K (kas_rev p 0 (f+1)) (f+1)=K p (f+1):=by rw[HW (by omega),if_neg (by omega)]
    have v:lt (K (kas_rev p 0 (f+1)) f) (K p (f+1))=false:=by
     rw[HW (by omega),if_pos (by omega)]
     exact O.tr _ _ _ (O.asy _ _ c) (s _ _ (by omega) (by omega))
    obtain⟨m,p',w,G,x,y,pm⟩:=QM O (n:=f+1) (Hq O d (by rw[A];exact v)) (show f+1+1<=r by omega) (by rw[Jt];omega)
    exact⟨m,p',w,G,x,y,pm.trans (Ej _ _ _)⟩
  ·rw[if_neg h]
   have C:n=1:=by omega
   subst C
   have d:Dn lt p 1:=λi j t k=>by
    have o:i=0:=by omega
    have h:j=0:=by omega
    subst o h
    exact O.irr _
   exact QM O (n:=1) (Hq O d (O.asy _ _ c)) (show 1+1<=r by omega) D
theorem J4 {k:Nat} (h:Up lt p k):∀ (f l r:Nat),l<=r->r<=k->r - l<=f->(∀ i,i<l->lt (K p k) (K p i)=false)->(∀ i,r<=i->i<k->lt (K p k) (K p i)=true) ->
  ∃ m,run lt (kas_place p k f l r)=m/\m<=k/\(∀ i,i<m->lt (K p k) (K p i)=false)/\(∀ i,m<=i->i<k->lt (K p k) (K p i)=true)
 | 0,l,r,n,j,o,a,b=>⟨l,rfl,by omega,a,λi e d=>b i (by omega) d⟩
 | f+1,l,r,n,j,o,a,b=>by
  unfold kas_place
  rw[Dv]
  by_cases g:l ≥ r
  ·rw[if_pos g]
   exact⟨l,rfl,by omega,a,λi e d=>b i (by omega) d⟩
  ·rw[if_neg g]
   show ∃ m,run lt (if lt (p.getD k 0) (p.getD ((l+r) / 2) 0)=true then _ else _)=m/\_
   rw[K_eq,K_eq,Dv]
   by_cases c:lt (K p k) (K p ((l+r) / 2))=true
   ·rw[if_pos c]
    refine J4 h f l ((l+r) / 2) (by omega) (by omega) (by omega) a λi e d=>?_
    cases hc:lt (K p k) (K p i) with
    | true=>rfl
    | false =>
     have:=O.tr _ _ _ (h ((l+r) / 2) i e d) hc
     rw[c] at this
     cases this
   ·rw[if_neg c]
    refine J4 h f ((l+r) / 2+1) r (by omega) j (by omega) (λi e=>?_) b
    exact O.tr _ _ _ (h i ((l+r) / 2) (by omega) (by omega)) (by simpa using c)
theorem Z2 {k m:Nat} (h:Up lt p k) (g:k<p.size) (d:m<=k) (a:∀ i,i<m->lt (K p k) (K p i)=false) (b:∀ i,m<=i->i<k->lt (K p k) (K p i)=true):Up lt (bubble p k (k - m)) (k+1):=by
 intro i j n o
 rw[Yw g d,Yw g d]
 by_cases l:j=m
 ·rw[if_pos l]
  by_cases c:i=m
  ·rw[if_pos c];exact O.irr _
  ·rw[if_neg c,if_neg (by omega)]
   exact a i (by omega)
 ·rw[if_neg l]
  by_cases f:m<j/\j<=k
  ·rw[if_pos f]
   by_cases c:i=m
   ·rw[if_pos c]
    exact O.asy _ _ (b (j - 1) (by omega) (by omega))
   ·rw[if_neg c]
    by_cases e:m<i/\i<=k
    ·rw[if_pos e]
     exact h _ _ (by omega) (by omega)
    ·rw[if_neg e]
     exact h _ _ (by omega) (by omega)
  ·rw[if_neg f]
   rw[if_neg (by omega),if_neg (by omega)]
   exact h _ _ n (by omega)
theorem Vq:∀ (f:Nat) (p:Array Nat) (k:Nat),Up lt p k->k+f<=p.size->∃ p',run lt (kas_bin f p k)=p'/\Up lt p' (k+f)/\p'.Perm p
 | 0,p,k,h,_=>⟨p,rfl,h,Array.Perm.refl _⟩
 | f+1,p,k,h,n=>by
  unfold kas_bin
  rw[run_bind]
  obtain⟨m,e,d,a,b⟩:=J4 O h k 0 k (by omega) (by omega) (by omega) (λi g=>absurd g (ic _)) (λi j l=>by omega)
  rw[e]
  obtain⟨p',c,u,pm⟩:=Vq f (bubble p k (k - m)) (k+1) (Z2 O h (by omega) d a b) (by rw[bubble_size];omega)
  exact⟨p',c,by rw[show k+(f+1)=k+1+f by omega];exact u,pm.trans (bubble_perm _ _ _)⟩
theorem XJ (r:1<=n):∃ p,run lt (kas_sort n)=p/\p.toList.Perm (List.range n)/\p.toList.Pairwise (λi j=>lt j i=false):=by
 have fin:∀ p:Array Nat,Up lt p n->p.Perm (List.toArray (List.range n))->p.toList.Perm (List.range n)/\p.toList.Pairwise (λi j=>lt j i=false):=λp u pm=>by
  have b:p.toList.Perm (List.range n):=by simpa using Array.perm_iff_toList_perm.mp pm
  refine⟨b,?_⟩
  have v:p.toList.length=n:=by rw[b.length_eq,dE]
  rw[gt]
  intro i j a h s
  have c:∀ {i:Nat} (a:i<p.toList.length),K p i=p.toList[i]:=λ{i} a=>by
   unfold K
   have:i<p.size:=by simpa using a
   simp[this]
  have:=u i j (eI s) (by omega)
  rw[c a,c h] at this
  exact this
 unfold kas_sort
 rw[run_bind]
 obtain⟨m,p,e,u,w,t,pm⟩:=Tw O (p:=List.toArray (List.range n)) r (by simp)
 have z:p.size=n:=by have:=pm.size_eq;simpa using this
 rw[e]
 show ∃ q,run lt (if m<n then _ else _)=q/\_
 rw[Dv]
 by_cases g:m<n
 ·rw[if_pos g]
  have l:max m 1=m:=by omega
  obtain⟨q,k,d,o⟩:=Vq O (n - m) p m u (by omega)
  have f:m+(n - m)=n:=by omega
  rw[f] at d
  refine⟨q,?_,fin q d (o.trans pm)⟩
  show run lt (kas_bin (n - max m 1) p (max m 1))=q
  rw[l]
  exact k
 ·rw[if_neg g]
  have:m=n:=by omega
  subst this
  exact⟨p,rfl,fin p u pm⟩
end
end Sq
namespace Sq
open PySem PySem.W PyProof.Rows
def Rn {α:Type} (N:Nat):KasT α->(α->Prop)->Prop
 | .ret a,P=>P a
 | .ask i j k,P=>i<N/\j<N/\∀ b,Rn N (k b) P
theorem Rn.bnd {α β:Type} {N:Nat} {P:α->Prop} {Q:β->Prop} {f:α->KasT β} (h:∀ a,P a->Rn N (f a) Q):∀ t:KasT α,Rn N t P->Rn N (t.bind f) Q
 | .ret a,r=>h a r
 | .ask i j k,r=>⟨r.1,r.2.1,λb=>Rn.bnd h (k b) (r.2.2 b)⟩
theorem Rn.it {α:Type} {N:Nat} {P:α->Prop} {c:Prop} [Decidable c] {a b:KasT α} (d:Rn N a P) (e:Rn N b P):Rn N (if c then a else b) P:=by
 split
 ·exact d
 ·exact e
def Bd (N:Nat) (p:Array Nat):Prop:=0<N/\∀ x∈p.toList,x<N
theorem Bd.at {N:Nat} (h:Bd N p) (i:Nat):p.getD i 0<N:=by
 by_cases a:i<p.size
 ·have e:p.getD i 0=p[i]:=by simp[Array.getD,a]
  rw[e]
  exact h.2 _ (by simp)
 ·have e:p.getD i 0=0:=by simp[Array.getD,a]
  rw[e]
  exact h.1
theorem Bd.pm {N:Nat} {q:Array Nat} (h:Bd N p) (z:q.Perm p):Bd N q:=⟨h.1,λx a=>h.2 x ((Array.perm_iff_toList_perm.mp z).mem_iff.mp a)⟩
section
variable {N:Nat}
theorem Pz (h:Bd N p):∀ f n,Rn N (kas_asc p f n) (λ_=>True)
 | 0,n=>trivial
 | f+1,n=>⟨h.at _,h.at _,λb=>Rn.it trivial (Pz h f (n+1))⟩
theorem Jd:∀ f (p:Array Nat) n q,Bd N p->Rn N (kas_desc f p n q) (λr=>Bd N r.1)
 | 0,p,n,q,h=>h
 | f+1,p,n,q,h=>⟨h.at _,h.at _,λb=>Rn.it (Rn.it (Jd f _ _ _ (h.pm (Ej _ _ _))) (Jd f _ _ _ h)) ⟨h.at _,h.at _,λb=>Rn.it h (Jd f _ _ _ h)⟩⟩
theorem Q6 {r:Nat} (h:Bd N p):Rn N (kas_tail3 n r p) (λr=>Bd N r.2):=by
 have b:Bd N (kas_rev p 0 n):=h.pm (Ej _ _ _)
 unfold kas_tail3
 refine Rn.bnd (P:=λ_=>True) (λa _=>?_) _ (Pz b _ _)
 exact b
theorem Q0 {r:Nat} (h:Bd N p):Rn N (kas_descPart n r p) (λr=>Bd N r.2):=by
 unfold kas_descPart
 refine Rn.bnd (P:=λr=>Bd N r.1) (λa b=>?_) _ (Jd _ _ _ _ h)
 exact Rn.it (Q6 (b.pm (Ej _ _ _))) (Q6 b)
theorem V8 {r:Nat} (h:Bd N p):Rn N (kas_count r p) (λr=>Bd N r.2):=by
 unfold kas_count
 refine Rn.bnd (P:=λ_=>True) (λa _=>?_) _ (Pz h _ _)
 refine Rn.it ?_ (Rn.it ?_ (Q0 h))
 ·exact h
 ·refine⟨h.at _,h.at _,λb=>Rn.it ?_ (Q0 (h.pm (Ej _ _ _)))⟩
  exact h
theorem Jr {k:Nat} (h:Bd N p):∀ f l r,Rn N (kas_place p k f l r) (λ_=>True)
 | 0,l,r=>trivial
 | f+1,l,r=>Rn.it trivial ⟨h.at _,h.at _,λb=>Rn.it (Jr h f _ _) (Jr h f _ _)⟩
theorem T7:∀ f (p:Array Nat) k,Bd N p->Rn N (kas_bin f p k) (λ_=>True)
 | 0,p,k,h=>trivial
 | f+1,p,k,h=>Rn.bnd (λa _=>T7 f _ _ (h.pm (bubble_perm _ _ _))) _ (Jr h _ _ _)
theorem X4 (h:0<N):Rn N (kas_sort N) (λ_=>True):=by
 unfold kas_sort
 have d:Bd N (List.toArray (List.range N)):=⟨h,λx c=>by simpa using c⟩
 refine Rn.bnd (P:=λr:Nat × Array Nat=>Bd N r.2) (λa b=>Rn.it (T7 _ _ _ b) ?_) _ (V8 d)
 exact trivial
end
theorem Yz {α:Type} {b:Nat->Nat->(Bool->Shared->Prop)->Shared->Prop} {lt:Nat->Nat->Bool} {Q:α->Shared->Prop} {N:Nat} {P:α->Prop} (h:∀ i j C,i<N->j<N->C (lt i j) s->b i j C s):∀ t:KasT α,Rn N t P->Q (run lt t) s->t.kasWp b Q s
 | .ret a,_,q=>q
 | .ask i j k,r,q=>h i j _ r.1 r.2.1 (Yz h (k (lt i j)) (r.2.2 _) q)
theorem sorts {d:Nat->Nat->(Bool->Shared->Prop)->Shared->Prop} {lt:Nat->Nat->Bool} (O:m6 lt) {Q:Array Nat->Shared->Prop} (c:1<=n) (h:∀ i j C,i<n->j<n->C (lt i j) s->d i j C s)
  (q:∀ p:Array Nat,p.toList.Perm (List.range n)->p.toList.Pairwise (λi j=>lt j i=false)->Q p s):(kas_sort n).kasWp d Q s:=by
 obtain⟨p,e,a,b⟩:=XJ O c
 refine Yz h _ (X4 c) ?_
 rw[e]
 exact q p a b
theorem aW {β:Type} {blt:β->β->Bool} (f:Nat->β) (e:∀ a,blt a a=false) (d:∀ a b,blt a b=true->blt b a=false) (g:∀ a b c,blt b a=false->blt c b=false->blt c a=false):m6 λi j=>blt (f i) (f j):=⟨λa=>e _,λa b=>d _ _,λa b c=>g _ _ _⟩
end Sq
namespace Sq
open PySem PySem.W PyProof.Rows
abbrev T3:=Int × Int × Int
def Gi (a b:T3):Bool:=decide (a.1<b.1) || (decide (a.1=b.1) && (decide (a.2.1<b.2.1) || (decide (a.2.1=b.2.1) && decide (a.2.2<b.2.2))))
theorem Jz {a b:T3}:Gi a b=true ↔ a.1<b.1 \/ (a.1=b.1/\(a.2.1<b.2.1 \/ (a.2.1=b.2.1/\a.2.2<b.2.2))):=by
 unfold Gi
 simp
theorem KN {a b:T3}:Gi a b=false ↔ ¬ (a.1<b.1 \/ (a.1=b.1/\(a.2.1<b.2.1 \/ (a.2.1=b.2.1/\a.2.2<b.2.2)))):=by rw[<-Jz];simp
theorem cJ (a:T3):Gi a a=false:=by rw[KN];omega
theorem Z4 (a b:T3) (h:Gi a b=true):Gi b a=false:=by rw[KN];rw[Jz] at h;omega
theorem ik (a b c:T3) (d:Gi b a=false) (e:Gi c b=false):Gi c a=false:=by rw[KN] at *;omega
inductive Im (h:Heap) (v:Value) (t:T3):Prop
 | mk (x:Addr) (o:Obj) (k1 k2 k3:Tok) (n:Nat):v=.ref x->h.get? x=some o->o.cls=.type "tuple"->o.data=.seq #[.int t.1 k1,.int t.2.1 k2,.int t.2.2 k3] n->Im h v t
section
variable {w:World} {E:vSP}
theorem Zy {v:Value} {a b:T3} {Q:Bool->Shared->Prop} (t:Im s.heap v a) (f:Im s.heap u b) (q:Q (Gi a b) s):wpAny (model prog w) A (keyLt' (tuples' true) v u) Q E s:=by
 obtain⟨x,D,p,g,B,n,rfl,i,_,j⟩:=t
 obtain⟨y,C,l,h,o,m,rfl,k,_,r⟩:=f
 refine kat_lt i j k r ?_
 show KatLex prog w A true _ Q [(Value.int a.1 p,Value.int b.1 l),(Value.int a.2.1 g,Value.int b.2.1 h),(Value.int a.2.2 B,Value.int b.2.2 o)] 0 s
 refine kat_cons (wpAny_eqBool_int ?_)
 refine kat_go (λd=>kat_yes ?_) (λd=>kat_no ?_)
 ·have d:a.1=b.1:=by simpa using d
  refine kat_cons (wpAny_eqBool_int ?_)
  refine kat_go (λc=>kat_yes ?_) (λc=>kat_no ?_)
  ·have c:a.2.1=b.2.1:=by simpa using c
   refine kat_cons (wpAny_eqBool_int ?_)
   refine kat_go (λe=>kat_yes ?_) (λe=>kat_no ?_)
   ·have e:a.2.2=b.2.2:=by simpa using e
    refine kat_nil ?_
    have z:Gi a b=false:=by rw[KN];omega
    rw[z] at q
    exact q
   ·have z:Gi a b=decide (a.2.2<b.2.2):=by rw[cw,Jz,decide_eq_true_eq];omega
    rw[z] at q
    exact kat_one _ _ (lt_int q)
  ·have c:¬ a.2.1=b.2.1:=by simpa using c
   have z:Gi a b=decide (a.2.1<b.2.1):=by rw[cw,Jz,decide_eq_true_eq];omega
   rw[z] at q
   exact kat_one _ _ (lt_int q)
 ·have d:¬ a.1=b.1:=by simpa using d
  have z:Gi a b=decide (a.1<b.1):=by rw[cw,Jz,decide_eq_true_eq];omega
  rw[z] at q
  exact oneLt_int q
end
end Sq
namespace Sq
open PySem PySem.W PySem.Calls PyProof.Rows
section
variable {w:World} {E:vSP}
theorem Im.keep {v:Value} {t:T3} (r:Im h v t) (k:∀ b o,h.get? b=some o->o.cls=.type "tuple"->h'.get? b=some o):Im h' v t:=by
 obtain⟨x,o,f,a,i,n,e,g,c,d⟩:=r
 exact⟨x,o,f,a,i,n,e,k x o g c,c,d⟩
theorem Qs:∀ (vs:List Value) (ts:List T3),vs.length=ts.length->(∀ (i:Nat) v t,vs[i]? = some v->ts[i]? = some t->Im h v t)->∃ fs,KatTups h vs fs/\fs.length=vs.length/\∀ f∈fs,∃ i k,f=Value.int i k
 | [],[],_,_=>⟨[],KatTups.nil,rfl,λf j=>by cases j⟩
 | [],_::_,l,_=>by simp at l
 | _::_,[],l,_=>by simp at l
 | v::vs,t::ts,l,r=>by
  obtain⟨fs,a,b,c⟩:=Qs vs ts (by simpa using l) λi u z m s=>r (i+1) u z (by simpa using m) (by simpa using s)
  obtain⟨x,o,p,w,y,n,e,g,q,d⟩:=r 0 v t rfl rfl
  subst e
  refine⟨Value.int t.1 p::fs,KatTups.cons g q d rfl a,by simp[b],λf j=>?_⟩
  rcases cm.mp j with rfl | j
  ·exact⟨_,_,rfl⟩
  ·exact c f j
theorem Qz (vs:List Value):(List.range vs.length).map (λi=>vs.getD i Value.none)=vs:=by
 refine List.ext_getElem (by simp) λi b a=>?_
 simp[List.getD_eq_getElem?_getD,a]
end
end Sq
namespace Sq
open PySem PySem.W PySem.Calls PyProof.Rows
abbrev T2:=Int × Int
def Fe (a b:T2):Bool:=decide (a.1<b.1) || (decide (a.1=b.1) && decide (a.2<b.2))
theorem L_ {a b:T2}:Fe a b=true ↔ a.1<b.1 \/ (a.1=b.1/\a.2<b.2):=by
 unfold Fe
 simp
theorem Jx {a b:T2}:Fe a b=false ↔ ¬ (a.1<b.1 \/ (a.1=b.1/\a.2<b.2)):=by rw[<-L_];simp
theorem aV (a:T2):Fe a a=false:=by rw[Jx];omega
theorem bY (a b:T2) (h:Fe a b=true):Fe b a=false:=by rw[Jx];rw[L_] at h;omega
theorem gj (a b c:T2) (d:Fe b a=false) (e:Fe c b=false):Fe c a=false:=by rw[Jx] at *;omega
inductive JM (h:Heap) (v:Value) (t:T2):Prop
 | mk (x:Addr) (o:Obj) (k1 k2:Tok) (n:Nat):v=.ref x->h.get? x=some o->o.cls=.type "tuple"->o.data=.seq #[.int t.1 k1,.int t.2 k2] n->JM h v t
theorem JM.keep {v:Value} {t:T2} (r:JM h v t) (k:∀ b o,h.get? b=some o->o.cls=.type "tuple"->h'.get? b=some o):JM h' v t:=by
 obtain⟨x,o,f,a,n,e,g,c,d⟩:=r
 exact⟨x,o,f,a,n,e,k x o g c,c,d⟩
section
variable {w:World} {E:vSP}
theorem Wv {v:Value} {a b:T2} {Q:Bool->Shared->Prop} (p:JM s.heap v a) (e:JM s.heap u b) (q:Q (Fe a b) s):wpAny (model prog w) A (keyLt' (tuples' true) v u) Q E s:=by
 obtain⟨x,t,l,f,n,rfl,h,_,i⟩:=p
 obtain⟨y,r,k,g,m,rfl,j,_,o⟩:=e
 refine kat_lt h i j o ?_
 show KatLex prog w A true _ Q [(Value.int a.1 l,Value.int b.1 k),(Value.int a.2 f,Value.int b.2 g)] 0 s
 refine kat_cons (wpAny_eqBool_int ?_)
 refine kat_go (λc=>kat_yes ?_) (λc=>kat_no ?_)
 ·have c:a.1=b.1:=by simpa using c
  refine kat_cons (wpAny_eqBool_int ?_)
  refine kat_go (λd=>kat_yes ?_) (λd=>kat_no ?_)
  ·have d:a.2=b.2:=by simpa using d
   refine kat_nil ?_
   have z:Fe a b=false:=by rw[Jx];omega
   rw[z] at q
   exact q
  ·have z:Fe a b=decide (a.2<b.2):=by rw[cw,L_,decide_eq_true_eq];omega
   rw[z] at q
   exact kat_one _ _ (lt_int q)
 ·have c:¬ a.1=b.1:=by simpa using c
  have z:Fe a b=decide (a.1<b.1):=by rw[cw,L_,decide_eq_true_eq];omega
  rw[z] at q
  exact oneLt_int q
theorem Vz:∀ (vs:List Value) (ts:List T2),vs.length=ts.length->(∀ (i:Nat) v t,vs[i]? = some v->ts[i]? = some t->JM h v t)->∃ fs,KatTups h vs fs/\fs.length=vs.length/\∀ f∈fs,∃ i k,f=Value.int i k
 | [],[],_,_=>⟨[],KatTups.nil,rfl,λf j=>by cases j⟩
 | [],_::_,l,_=>by simp at l
 | _::_,[],l,_=>by simp at l
 | v::vs,t::ts,l,r=>by
  obtain⟨fs,a,b,c⟩:=Vz vs ts (by simpa using l) λi u z m s=>r (i+1) u z (by simpa using m) (by simpa using s)
  obtain⟨x,o,p,w,n,e,g,q,d⟩:=r 0 v t rfl rfl
  subst e
  refine⟨Value.int t.1 p::fs,KatTups.cons g q d rfl a,by simp[b],λf j=>?_⟩
  rcases cm.mp j with rfl | j
  ·exact⟨_,_,rfl⟩
  ·exact c f j
end
end Sq
namespace Sq
open PySem PySem.W PySem.Calls PyProof.Rows
def ZC (prog:Program) (w:World) (A:Around) (f:Value) (s:Shared) (kS:Addr) (v:Value) (t:T2):Prop :=
 ∀ (h1:Heap) (uQ:Nat),(∀ b o,b ≠ kS->s.heap.get? b=some o->h1.get? b=some o)->s.heap.objs.size<=h1.objs.size->∀ R:Value->Shared->Prop,
  (∀ k h2 qf,JM h2 k t->(∀ b o,h1.get? b=some o->h2.get? b=some o)->h1.objs.size<=h2.objs.size->R k { s with heap:=h2,toks:=qf })->wpAny (model prog w) A (call f [v]) R (λ_ _=>False) { s with heap:=h1,toks:=uQ }
section
variable {w:World} {E:vSP}
end
end Sq
section PartSortXs
set_option maxHeartbeats 800000
namespace Sx
open PySem PySem.W PySem.Calls PyProof.Rows Sq
section
variable {β:Type} {blt:β->β->Bool}
structure Or (blt:β->β->Bool):Prop where
 irr:∀ a,blt a a=false
 asy:∀ a b,blt a b=true->blt b a=false
 tr:∀ a b c,blt b a=false->blt c b=false->blt c a=false
end
section
variable {w:World} {E:vSP} {β:Type} {blt:β->β->Bool} {d:β}
theorem Qf {κ:SortKind} {ks vs:List Value} {ts:List β} {Q:Unit × SortSt->Shared->Prop} (R:2<=ks.length) (M:ks.length<64) (O:Or blt) (D:ks.length=vs.length) (S:ks.length=ts.length)
  (H:∀ (i j:Nat) u v a b,ks[i]? = some u->ks[j]? = some v->ts[i]? = some a->ts[j]? = some b->∀ C:Bool->Shared->Prop,C (blt a b) s->wpAny (model prog w) A (keyLt' κ u v) C (λ_ _=>False) s)
  (h:∀ (st:SortSt) (c:List Nat),(arrOf st).map (·.2)=(c.map λi=>vs.getD i Value.none).toArray->failedOf st=none->c.Perm (List.range vs.length)->c.Pairwise (λi j=>blt (ts.getD j d) (ts.getD i d)=false)->Q ((),st) s) :
  wpAny (model prog w) A (sortRuns'.run (SortSt.mk' κ (ks.toArray.zip vs.toArray) #[] 7 none)) Q E s:=by
 have I:=aW (blt:=blt) (λi=>ts.getD i d) O.irr O.asy O.tr
 have F:=kat_run (prog:=prog) (w:=w) (A:=A) (E:=E) (s:=s) (κ:=κ) (ks:=ks) (vs:=vs)
  (Q:=λst k=>∃ c:List Nat,k=s/\(arrOf st).map (·.2)=(c.map λi=>vs.getD i Value.none).toArray/\failedOf st=none/\c.Perm (List.range vs.length)/\c.Pairwise (λi j=>blt (ts.getD j d) (ts.getD i d)=false))
  (G:=λp k=>k=s/\p.toList.Perm (List.range vs.length)/\p.toList.Pairwise (λi j=>blt (ts.getD j d) (ts.getD i d)=false))
  D (by omega) (by omega) (λp L k P K J m=>⟨p.toList,m.1,kat_snds D K,J,m.2.1,m.2.2⟩)
  (sorts I (by omega) (λi j C T N q=>by
   have f:i<ks.length:=by omega
   have l:j<ks.length:=by omega
   have g:i<ts.length:=by omega
   have e:j<ts.length:=by omega
   have o:ks.getD i Value.none=ks[i]:=by simp[List.getD_eq_getElem?_getD,f]
   have t:ks.getD j Value.none=ks[j]:=by simp[List.getD_eq_getElem?_getD,l]
   have B:ts.getD i d=ts[i]:=by simp[List.getD_eq_getElem?_getD,g]
   have n:ts.getD j d=ts[j]:=by simp[List.getD_eq_getElem?_getD,e]
   unfold kas_ask
   rw[o,t]
   rw[B,n] at q
   exact wpAny_mono (H i j _ _ _ _ (ae f) (ae l) (ae g) (ae e) C q) (λ_ _ z=>z) (λ_ _ z=>z.elim)) λp x y=>⟨rfl,x,y⟩)
 refine wpAny_mono F (λr k z=>?_) λ_ _ z=>z
 obtain⟨⟨⟩,st⟩:=r
 obtain⟨c,rfl,o,t,B,n⟩:=z
 exact h st c o t B n
end
end Sx
end PartSortXs
section PartSortYs
set_option maxHeartbeats 800000
namespace Sx
open PySem PySem.W PySem.Calls PyProof.Rows Sq
section
variable {w:World} {E:vSP} {β:Type} {blt:β->β->Bool} {d:β}
theorem aj {vs:List Value} {ts:List β} {κ:SortKind} {P:PySem.Fin->Shared->Prop} (O:Or blt) (r:s.heap.get? a=some (seqObj "list" vs.toArray n)) (D:vs.length<64) (I:vs.length=ts.length)
  (fn:∀ (i j:Nat) v a b,vs[i]? = some v->vs[j]? = some v->ts[i]? = some a->ts[j]? = some b->a=b)
  (z:∀ h6:Heap,(∀ b o,b ≠ a->s.heap.get? b=some o->h6.get? b=some o)->2<=vs.length->∀ Q:SortKind->Shared->Prop,Q κ (Shared.mk h6 s.gens s.drawn s.toks s.os)->wpAny (model prog w) A (keyKind' vs.toArray) Q E (Shared.mk h6 s.gens s.drawn s.toks s.os))
  (t:∀ h6:Heap,(∀ b o,b ≠ a->s.heap.get? b=some o->h6.get? b=some o)->∀ (i j:Nat) u v a b,vs[i]? = some u->vs[j]? = some v->ts[i]? = some a->ts[j]? = some b->∀ C:Bool->Shared->Prop,C (blt a b) (Shared.mk h6 s.gens s.drawn s.toks s.os)->wpAny (model prog w) A (keyLt' κ u v) C (λ_ _=>False) (Shared.mk h6 s.gens s.drawn s.toks s.os))
  (h:∀ ix:List Nat,ix.Perm (List.range vs.length)->ix.Pairwise (λi j=>blt (ts.getD j d) (ts.getD i d)=false)->P (.done (.ret .none)) { s with heap:=sortedHeap s.heap a vs (ix.map λi=>vs.getD i Value.none).toArray }) :
  wpAny (model prog w) A (Builtin.«list.sort» ⟨[.ref a],[]⟩) P E s:=by
 have y:vs.length<=sizeLine:=by rw[sizeLine_eq];omega
 obtain⟨p,B⟩:∃ p,(s.heap.update a (Obj.mapSeq λ_=>(#[]:Array Value))).get? a=some (seqObj "list" #[] p):=⟨_,get?_update_seq r λ_=>#[]⟩
 have k:∀ b o,b ≠ a->s.heap.get? b=some o->(((s.heap.update a (Obj.mapSeq λ_=>(#[]:Array Value))).push (seqObj "tuple" vs.toArray 0)).push (seqObj "list" #[] 0)).get? b=some o:=λb o G e=>Heap.get?_push_of_some _ (Heap.get?_push_of_some _ ((Heap.get?_update_other _ _ (Ne.symm G)).trans e))
 have l:(((s.heap.update a (Obj.mapSeq λ_=>(#[]:Array Value))).push (seqObj "tuple" vs.toArray 0)).push (seqObj "list" #[] 0)).get? a=some (seqObj "list" #[] p):=Heap.get?_push_of_some _ (Heap.get?_push_of_some _ B)
 have K:=z _ k
 have J:=t _ k
 clear z t
 rw[list_sort_plain]
 refine wpAny_bind (listItems_at r rfl ?_)
 refine wpAny_bind (listUpdate_at r rfl ?_ (by simpa using y) (Nat.zero_le _))
 refine wpAny_bind (seqEpoch_at B rfl (wpAny_bind (wpAny_newTuple ?_ y)))
 refine wpAny_bind (wpAny_newList (wpAny_holding ?_) (ee _))
 show wpAny (model prog w) A _ P E (Shared.mk (((s.heap.update a (Obj.mapSeq λ_=>(#[]:Array Value))).push (seqObj "tuple" vs.toArray 0)).push (seqObj "list" #[] 0)) s.gens s.drawn s.toks s.os)
 dsimp only
 by_cases f:vs.toArray.size<2
 ·have c:vs.length<2:=by simpa using f
  rw[if_pos f,if_pos f]
  refine wpAny_bind (wpAny_pure (a:=general') ?_)
  rw[StateT.run_pure]
  refine wpAny_bind (wpAny_pure (wpAny_bind (seqEpoch_at l rfl ?_)))
  have m:(vs.toArray.zip vs.toArray).map (·.2)=((List.range vs.length).map λi=>vs.getD i Value.none).toArray:=by
   rw[Qz]
   apply Array.toList_inj.mp
   rw[Array.toList_map,Array.toList_zip]
   exact List.map_snd_zip (ai _)
  have q:=h (List.range vs.length) (List.Perm.refl _) (by
   rw[gt]
   intro i j L F N
   simp at L F
   omega)
  rw[<-m] at q
  refine wpAny_bind (listUpdate_at l rfl ?_ (Nat.zero_le _) (by show ((vs.toArray.zip vs.toArray).map (λx=>x.2)).size<=_;rw[Array.size_map,Array.size_zip,List.size_toArray];omega))
  simp only[bne_self_eq_false,Bool.false_eq_true,if_false]
  exact wpAny_pure q
 ·have c:2<=vs.length:=by have:¬ vs.length<2:=(by simpa using f);omega
  rw[if_neg f,if_neg f]
  refine wpAny_bind (K c _ ?_)
  refine wpAny_bind (Qf (d:=d) c D O rfl I J λst ix m M pm pw=>?_)
  have q:=h ix pm pw
  have g:(arrOf st).map (λx=>x.2)=(ix.map λi=>vs.getD i Value.none).toArray:=m
  refine wpAny_bind (seqEpoch_at l rfl ?_)
  have H:ix.length=vs.length:=by rw[pm.length_eq,dE]
  rw[<-g] at q
  refine wpAny_bind (listUpdate_at l rfl ?_ (Nat.zero_le _) (by show ((arrOf st).map (λx=>x.2)).size<=_;rw[g];simp[H];omega))
  dsimp only
  rw[M]
  simp only[bne_self_eq_false,Bool.false_eq_true,if_false]
  exact wpAny_pure q
theorem M8 {vs:List Value} {ts:List β} {κ:SortKind} (O:Or blt) (G:s.heap.IsList l vs.toArray) (B:vs.length<64) (z:vs.length=ts.length)
  (fn:∀ (i j:Nat) v a b,vs[i]? = some v->vs[j]? = some v->ts[i]? = some a->ts[j]? = some b->a=b)
  (x:∀ (A:Around) (E:vSP) (f:Heap),(∀ b o,s.heap.get? b=some o->f.get? b=some o)->2<=vs.length->∀ Q:SortKind->Shared->Prop,Q κ (Shared.mk f s.gens s.drawn s.toks s.os)->wpAny (model prog w) A (keyKind' vs.toArray) Q E (Shared.mk f s.gens s.drawn s.toks s.os))
  (F:∀ (A:Around) (f:Heap),(∀ b o,s.heap.get? b=some o->f.get? b=some o)->∀ (i j:Nat) u v a b,vs[i]? = some u->vs[j]? = some v->ts[i]? = some a->ts[j]? = some b->∀ C:Bool->Shared->Prop,C (blt a b) (Shared.mk f s.gens s.drawn s.toks s.os)->wpAny (model prog w) A (keyLt' κ u v) C (λ_ _=>False) (Shared.mk f s.gens s.drawn s.toks s.os))
  (h:∀ D h' c ix,s.heap.objs.size<=D->(∀ b o,s.heap.get? b=some o->h'.get? b=some o)->h'.get? D=some { cls:=.type "list",data:=.seq (List.map (λi=>vs.getD i Value.none) ix).toArray c }->ix.Perm (List.range vs.length)->ix.Pairwise (λi j=>blt (ts.getD j d) (ts.getD i d)=false)->Q (.ref D) { s with heap:=h' }) :
  wpAny (model prog w) A (call (.builtin "sorted") [.ref l]) Q E s:=by
 have t:vs.length<=sizeLine:=by rw[sizeLine_eq];omega
 refine Calls.call_function_entry kind_sorted plain_sorted entry_sorted (args_sorted1 _) ?_
 unfold Builtin.«sorted»
 refine wpAny_bind (m:=checkCount "sorted" 1 1 _) (wpAny_pure (wpAny_bind (collect_list G (wpAny_bind (wpAny_newList ?_ t)) t)))
 have n:∀ b o,s.heap.get? b=some o->((s.heap.push (seqObj "list" #[] 0)).update s.heap.objs.size (Obj.mapSeq (· ++ vs.toArray))).get? b=some o:=λb o e=>(Heap.get?_update_other _ _ (fh (Heap.lt_size e))).trans (Heap.get?_push_of_some _ e)
 have q:s.heap.objs.size<=((s.heap.push (seqObj "list" #[] 0)).update s.heap.objs.size (Obj.mapSeq (· ++ vs.toArray))).objs.size:=by rw[Heap.size_update,size_push'];exact gL _
 generalize (s.heap.push (seqObj "list" #[] 0)).update s.heap.objs.size (Obj.mapSeq (· ++ vs.toArray))=g at n q |-
 have p:(g.push (seqObj "list" vs.toArray 0)).get? g.objs.size=some (seqObj "list" vs.toArray 0):=Heap.get?_push_size _ rfl
 have up:∀ f:Heap,(∀ b o,b ≠ g.objs.size->(g.push (seqObj "list" vs.toArray 0)).get? b=some o->f.get? b=some o)->∀ b o,s.heap.get? b=some o->f.get? b=some o:=λf k b o e=>k b o (be (ax (Heap.lt_size e) q)) (Heap.get?_push_of_some _ (n b o e))
 refine wpAny_bind (wpAny_holding (wpAny_call_entry slot_list_sort ⟨_,p,rfl⟩ entry_list_sort (aj (d:=d) O p B z fn (λf k=>x _ _ f (up f k)) (λf k=>F _ f (up f k)) λix pm pw=>⟨_,rfl,?_⟩) (args_list_sort _)))
 obtain⟨c,y⟩:=sortedHeap_at (out:=(List.map (λi=>vs.getD i Value.none) ix).toArray) p
 refine wpAny_pure ⟨_,rfl,h g.objs.size _ c ix q (λb o e=>?_) y pm pw⟩
 have r:=Heap.lt_size (n b o e)
 rw[sortedHeap_old (be r) (by rw[size_push'];exact fI r)]
 exact Heap.get?_push_of_some _ (n b o e)
def qF (a b:Int):Bool:=decide (a<b)
theorem bO:Or qF:=⟨λa=>decide_eq_false (by omega),λa b h=>by have:=of_decide_eq_true h;exact decide_eq_false (by omega),λa b c e d=>by
 have:=of_decide_eq_false e
 have:=of_decide_eq_false d
 exact decide_eq_false (by omega)⟩
theorem Q7:∀ {vs:List Value} {ns:List Int},IntsAre vs ns->∀ (i:Nat) v n,vs[i]? = some v->ns[i]? = some n->∃ t,v=.int n t
 | _,_,.nil,i,v,n,a,_=>by simp at a
 | _,_,.cons m t r,0,v,n,a,b=>by
  simp at a b
  subst a b
  exact⟨t,rfl⟩
 | _,_,.cons m t r,i+1,v,n,a,b=>Q7 r i v n (by simpa using a) (by simpa using b)
theorem Mr:∀ {vs:List Value} {ns:List Int},IntsAre vs ns->vs.length=ns.length
 | _,_,.nil=>rfl
 | _,_,.cons m t r=>congrArg (· + 1) (Mr r)
theorem ints_of:∀ {vs:List Value} {ns:List Int},vs.length=ns.length->(∀ (i:Nat) v n,vs[i]? = some v->ns[i]? = some n->∃ t,v=.int n t)->IntsAre vs ns
 | [],[],_,_=>.nil
 | [],_::_,h,_=>by simp at h
 | _::_,[],h,_=>by simp at h
 | v::vs,n::ns,h,g=>by
  obtain⟨t,rfl⟩:=g 0 v n rfl rfl
  exact .cons n t (ints_of (by simpa using h) λi v m b a=>g (i+1) v m (by simpa using b) (by simpa using a))
theorem VD {vs:List Value} {m:List Int} (P:s.heap.IsList l vs.toArray) (B:IntsAre vs m) (L:vs.length<64)
  (h:∀ D h' c us ms,s.heap.objs.size<=D->(∀ b o,s.heap.get? b=some o->h'.get? b=some o)->h'.get? D=some { cls:=.type "list",data:=.seq (List.toArray us) c }->IntsAre us ms->ms.Perm m->ms.Pairwise (· <= ·)->Q (.ref D) { s with heap:=h' }) :
  wpAny (model prog w) A (call (.builtin "sorted") [.ref l]) Q E s:=by
 have U:vs.length<=sizeLine:=by rw[sizeLine_eq];omega
 have K:=Mr B
 have r:=Q7 B
 refine M8 (blt:=qF) (d:=0) (ts:=m) (κ:=oneType') bO P L K (λi j v a b f F H G=>?_) (λA E S k p Q q=>?_) (λA S k i j u v a b F f H G C c=>?_) λD h' c J O T g pm pw=>?_
 ·obtain⟨t,rfl⟩:=r i v a f H
  obtain⟨M,e⟩:=r j _ b F G
  cases e
  rfl
 ·match vs,B,p with
  | [],_,p=>simp at p
  | [_],_,p=>simp at p
  | v₁::v₂::rest,B,_ =>
   rw[keyKind_ints B]
   exact wpAny_pure q
 ·obtain⟨t,rfl⟩:=r i u a F H
  obtain⟨M,rfl⟩:=r j v b f G
  rw[keyLt'_oneType]
  exact oneLt_int c
 ·refine h D h' c _ (J.map λi=>m.getD i 0) O T g (ints_of (by simp) λi v n f x=>?_) ?_ ?_
  ·rw[ar] at f x
   cases hi:J[i]? with
   | none=>rw[hi] at f;cases f
   | some z =>
    rw[hi] at f x
    have I:z<vs.length:=dt.mp (pm.mem_iff.mp (av hi))
    have y:z<m.length:=by omega
    have N:vs.getD z Value.none=vs[z]:=by simp[List.getD_eq_getElem?_getD,I]
    have R:m.getD z 0=m[z]:=by simp[List.getD_eq_getElem?_getD,y]
    simp only[Option.map_some,Option.some.injEq] at f x
    rw[N] at f
    rw[R] at x
    exact r z v n (by rw[<-f];exact ae I) (by rw[<-x];exact ae y)
  ·have:(List.range vs.length).map (λi=>m.getD i 0)=m:=by
    refine List.ext_getElem (by simp[K]) λi V p=>?_
    simp[List.getD_eq_getElem?_getD,p]
   have q:=pm.map (λi=>m.getD i 0)
   rw[this] at q
   exact q
  ·rw[ga]
   exact pw.imp λ{i j} e=>Int.not_lt.mp (of_decide_eq_false e)
end
end Sx
end PartSortYs
section PartSortZs
set_option maxHeartbeats 800000
namespace Sx
open PySem PySem.W PySem.Calls PyProof.Rows Sq
theorem dJ:Or Gi:=⟨cJ,Z4,ik⟩
theorem iz:Or Fe:=⟨aV,bY,gj⟩
theorem _root_.Sq.Im.fn {v:Value} {x y:T3} (a:Im h v x) (b:Im h v y):x=y:=by
 obtain⟨p,o,w,j,E,n,rfl,g,c,d⟩:=a
 obtain⟨l,C,r,k,t,m,e,i,q,f⟩:=b
 cases e
 rw[g] at i
 cases i
 rw[d] at f
 obtain⟨s,D,z⟩:=x
 obtain⟨A,u,B⟩:=y
 simp at f
 obtain⟨⟨⟨rfl,_⟩,⟨rfl,_⟩,rfl,_⟩,_⟩:=f
 rfl
section
variable {w:World} {E:vSP}
theorem TQ {vs:List Value} {ts:List T3} (G:s.heap.IsList l vs.toArray) (p:vs.length=ts.length) (f:∀ (i:Nat) v t,vs[i]? = some v->ts[i]? = some t->Im s.heap v t) (z:vs.length<64)
  (h:∀ D h' c ix,s.heap.objs.size<=D->(∀ b o,s.heap.get? b=some o->h'.get? b=some o)->h'.get? D=some { cls:=.type "list",data:=.seq (List.map (λi=>vs.getD i Value.none) ix).toArray c }->ix.Perm (List.range vs.length)->ix.Pairwise (λi j=>Gi (ts.getD j (0,0,0)) (ts.getD i (0,0,0))=false)->Q (.ref D) { s with heap:=h' }) :
  wpAny (model prog w) A (call (.builtin "sorted") [.ref l]) Q E s:=by
 have J:vs.length<=sizeLine:=by rw[sizeLine_eq];omega
 refine M8 (κ:=tuples' true) (d:=(0,0,0)) dJ G z p (λi j v x y a g n m=>(f i v x a n).fn (f j v y g m)) (λA E r k K Q q=>?_) (λA r k i j u v x y g a n m C c=>Zy ((f i u x g n).keep λb o e _=>k b o e) ((f j v y a m).keep λb o e _=>k b o e) c) h
 obtain⟨fs,B,L,F⟩:=Qs (h:=r) vs ts p λi v t a H=>(f i v t a H).keep λb o e _=>k b o e
 refine kat_kind (T:=.type "int") B (by omega) (λv a=>?_) (by decide) ?_
 ·obtain⟨i,k,rfl⟩:=F v a
  exact .now
 ·have I:(Value.type "int" != Value.type "tuple")=true:=by decide
  rw[I]
  exact q
theorem e_ {f:Addr} {vs ks:List Value} {ts:List T2} {e l:Nat} {P:PySem.Fin->Shared->Prop} (q:f ≠ a) (U:s.heap.get? f=some (seqObj "list" ks.toArray e)) (O:s.heap.get? a=some (seqObj "list" #[] l)) (F:ks.length=vs.length) (G:ks.length=ts.length)
  (p:∀ (i:Nat) v t,ks[i]? = some v->ts[i]? = some t->JM s.heap v t) (X:vs.length<64)
  (h:∀ h' tk c ix,(∀ b o,b ≠ f->b ≠ a->s.heap.get? b=some o->h'.get? b=some o)->h'.get? a=some (seqObj "list" (List.map (λi=>vs.getD i Value.none) ix).toArray c)->ix.Perm (List.range vs.length)->ix.Pairwise (λi j=>Fe (ts.getD j (0,0)) (ts.getD i (0,0))=false)->P (.done (.ret .none)) { s with heap:=h',toks:=tk }) :
  wpAny (model prog w) A (ksk_end a false vs.toArray l (.ref f) ks.toArray) P E s:=by
 have Y:vs.length<=sizeLine:=by rw[sizeLine_eq];omega
 have fin:∀ (st:SortSt) (ix:List Nat),(arrOf st).map (·.2)=(ix.map λi=>vs.getD i Value.none).toArray->failedOf st=none->ix.Perm (List.range vs.length)->ix.Pairwise (λi j=>Fe (ts.getD j (0,0)) (ts.getD i (0,0))=false)->wpAny (model prog w) A (ksk_tail a false l (.ref f) st) P E s:=λst ix m B pm pw=>by
  have N:ix.length=vs.length:=by rw[pm.length_eq,dE]
  have n:(s.heap.update f (Obj.mapSeq λ_=>(#[]:Array Value))).get? a=some (seqObj "list" #[] l):=(Heap.get?_update_other _ _ q).trans O
  unfold ksk_tail
  dsimp only
  refine wpAny_bind (listUpdate_at U rfl ?_ (by rw[bo];omega) (ee _))
  refine wpAny_bind (wpAny_letGo (wpAny_bind (seqEpoch_at n rfl ?_)))
  simp only[Bool.false_eq_true,if_false]
  rw[m,B]
  refine wpAny_bind (listUpdate_at n rfl ?_ (Nat.zero_le _) (by simp[N];omega))
  simp only[bne_self_eq_false,Bool.false_eq_true,if_false]
  obtain⟨c,L⟩:∃ c,((s.heap.update f (Obj.mapSeq λ_=>(#[]:Array Value))).update a (Obj.mapSeq λ_=>(List.map (λi=>vs.getD i Value.none) ix).toArray)).get? a=some (seqObj "list" (List.map (λi=>vs.getD i Value.none) ix).toArray c):=⟨_,get?_update_seq n λ_=>(List.map (λi=>vs.getD i Value.none) ix).toArray⟩
  exact wpAny_pure (h _ _ c ix (λb o W Q z=>(Heap.get?_update_other _ _ (Ne.symm Q)).trans ((Heap.get?_update_other _ _ (Ne.symm W)).trans z)) L pm pw)
 unfold ksk_end
 simp only[Bool.false_eq_true,if_false]
 by_cases g:vs.toArray.size<2
 ·have r:vs.length<2:=by simpa using g
  rw[if_pos g,if_pos g]
  refine wpAny_bind (wpAny_pure (a:=general') ?_)
  rw[StateT.run_pure]
  refine wpAny_bind (wpAny_pure ?_)
  refine fin _ (List.range vs.length) ?_ rfl (List.Perm.refl _) (by
   rw[gt]
   intro i j V I mh
   simp at V I
   omega)
  rw[Qz]
  apply Array.toList_inj.mp
  show ((ks.toArray.zip vs.toArray).map (·.2)).toList=_
  rw[Array.toList_map,Array.toList_zip]
  exact List.map_snd_zip (Nat.le_of_eq F.symm)
 ·have r:2<=vs.length:=by have:¬ vs.length<2:=(by simpa using g);omega
  rw[if_neg g,if_neg g]
  obtain⟨fs,K,Z,M⟩:=Vz ks ts G p
  refine wpAny_bind (kat_kind (T:=.type "int") K (by omega) (λv D=>?_) (by decide) ?_)
  ·obtain⟨i,k,rfl⟩:=M v D
   exact .now
  ·have S:(Value.type "int" != Value.type "tuple")=true:=by decide
   rw[S]
   refine wpAny_bind (Qf (d:=(0,0)) (by simp at g;omega) (by omega) iz F G (λi j u v x y H D R J C c=>Wv (p i u x H R) (p j v y D J) c) λst ix m B pm pw=>?_)
   exact fin st ix m B pm pw
theorem Z0 {d:Addr} {f:Value} {vs:List Value} {ts:List T2} {Q:Nat} {P:PySem.Fin->Shared->Prop} (B:d ≠ a) (gK:s.heap.get? d=some (seqObj "list" #[] 0)) (gA:s.heap.get? a=some (seqObj "list" #[] Q)) (hl:vs.length=ts.length) (V:vs.length<64)
  (cl:∀ (i:Nat) v t,vs[i]? = some v->ts[i]? = some t->ZC prog w A f s d v t)
  (h:∀ h' tk c ix,(∀ b o,b ≠ d->b ≠ a->s.heap.get? b=some o->h'.get? b=some o)->h'.get? a=some (seqObj "list" (List.map (λi=>vs.getD i Value.none) ix).toArray c)->ix.Perm (List.range vs.length)->ix.Pairwise (λi j=>Fe (ts.getD j (0,0)) (ts.getD i (0,0))=false)->P (.done (.ret .none)) { s with heap:=h',toks:=tk }) :
  wpAny (model prog w) A (ksk_rest a f false vs.toArray Q (.ref d)) P E s:=by
 have zl:vs.length<=sizeLine:=by rw[sizeLine_eq];omega
 unfold ksk_rest
 refine wpAny_bind (wpAny_rule ?_)
 rw[List.forIn_toArray]
 refine wpAny_bind (ksk_fold (λi J=>∃ n D m e,J = { s with heap:=n,toks:=D }/\m.length=i/\n.get? d=some (seqObj "list" (List.toArray m) e)/\(∀ b o,b ≠ d->s.heap.get? b=some o->n.get? b=some o)/\s.heap.objs.size<=n.objs.size/\∀ (j:Nat) v t,m[j]? = some v->ts[j]? = some t->JM n v t) vs 0 s
  ⟨s.heap,s.toks,[],0,rfl,rfl,gK,(λb o _ z=>z),Nat.le_refl _,λj v t z=>by simp at z⟩ (λj x J S L=>?_) λJ X=>?_)
 ·obtain⟨n,D,m,e,rfl,R,F,kp,sz,K⟩:=L
  have hj:j<vs.length:=(ag.mp S).1
  obtain⟨t,T⟩:∃ t,ts[j]? = some t:=⟨_,ae (by omega)⟩
  refine wpAny_bind (wpAny_attempt (wpAny_mono (cl j x t S T n D kp sz (λk O=>∃ l C,O = { s with heap:=l,toks:=C }/\JM l k t/\(∀ b o,n.get? b=some o->l.get? b=some o)/\n.objs.size<=l.objs.size) λk l C x1 x2 Z=>⟨l,C,rfl,x1,x2,Z⟩) (λk O z=>?_) λ_ _ z=>z.elim))
  obtain⟨l,C,rfl,pk,H,z2⟩:=z
  dsimp only
  have I:=H _ _ F
  obtain⟨c,Y⟩:∃ c,(l.update d (Obj.mapSeq (·.push k))).get? d=some (seqObj "list" (List.toArray m |>.push k) c):=⟨_,get?_update_seq I (·.push k)⟩
  have r:∀ b o,l.get? b=some o->o.cls=.type "tuple"->(l.update d (Obj.mapSeq (·.push k))).get? b=some o:=λb o z cz=>(Heap.get?_update_other _ _ (λq=>by rw[<-q,I] at z;cases z;simp at cz)).trans z
  refine wpAny_bind (listUpdate_at I rfl ?_ (by rw[bo];omega) (by rw[Array.size_push,bo];omega))
  refine wpAny_pure ⟨rfl,_,C,m++[k],c,rfl,by rw[List.length_append,R];simp,?_,λb o N z=>(Heap.get?_update_other _ _ (Ne.symm N)).trans (H _ _ (kp b o N z)),?_,λi v u p G=>?_⟩
  ·rw[Y]
   simp
  ·show s.heap.objs.size<=(l.update d (Obj.mapSeq (·.push k))).objs.size
   rw[Heap.size_update]
   exact bi sz z2
  ·by_cases L:i<m.length
   ·rw[dL L] at p
    exact ((K i v u p G).keep λb o z _=>H b o z).keep r
   ·have y:=(ag.mp p).1
    rw[ah] at y
    have W:i=m.length:=by simp at y;omega
    subst W
    rw[de (ai _)] at p
    simp at p
    have e8:m.length=j:=by omega
    rw[e8,T] at G
    cases G
    cases p
    exact pk.keep r
 ·obtain⟨n,D,m,e,rfl,R,F,kp,sz,K⟩:=X
  have M:m.length=vs.length:=by omega
  refine wpAny_bind (listItems_at F rfl ?_)
  refine e_ B F (kp _ _ (Ne.symm B) gA) M (by omega) K V λh' tk c ix kk g pm pw=>?_
  exact h h' tk c ix (λb o U b2 z=>kk b o U b2 (kp b o U z)) g pm pw
theorem U7 {q:Addr} {vs:List Value} {ts:List T2} (N:s.heap.IsList l vs.toArray) (K:vs.length=ts.length) (M:vs.length<64)
  (cl:∀ (F:Shared) (G:Addr),(∃ h1,F = { s with heap:=h1 }/\∀ b o,s.heap.get? b=some o->h1.get? b=some o)->s.heap.objs.size<=G->∀ (i:Nat) v t,vs[i]? = some v->ts[i]? = some t->ZC prog w A.in1.in1 (.ref q) F G v t)
  (h:∀ D h' tk c ix,s.heap.objs.size<=D->(∀ b o,s.heap.get? b=some o->h'.get? b=some o)->h'.get? D=some { cls:=.type "list",data:=.seq (List.map (λi=>vs.getD i Value.none) ix).toArray c }->ix.Perm (List.range vs.length)->ix.Pairwise (λi j=>Fe (ts.getD j (0,0)) (ts.getD i (0,0))=false)->Q (.ref D) { s with heap:=h',toks:=tk }) :
  wpAny (model prog w) A (call (.builtin "sorted") [.ref l] [(Str.ofString "key",.ref q)]) Q E s:=by
 have r:vs.length<=sizeLine:=by rw[sizeLine_eq];omega
 refine call_function_entry_kw kind_sorted plain_sorted entry_sorted (ksk_s1 _ _) ?_
 unfold Builtin.«sorted»
 refine wpAny_bind (m:=checkCount "sorted" 1 1 _) (wpAny_pure (wpAny_bind (collect_list N (wpAny_bind (wpAny_newList ?_ r)) r)))
 have C:∀ b o,s.heap.get? b=some o->((s.heap.push (seqObj "list" #[] 0)).update s.heap.objs.size (Obj.mapSeq (· ++ vs.toArray))).get? b=some o:=λb o e=>(Heap.get?_update_other _ _ (fh (Heap.lt_size e))).trans (Heap.get?_push_of_some _ e)
 have f:s.heap.objs.size<=((s.heap.push (seqObj "list" #[] 0)).update s.heap.objs.size (Obj.mapSeq (· ++ vs.toArray))).objs.size:=by rw[Heap.size_update,size_push'];exact gL _
 generalize (s.heap.push (seqObj "list" #[] 0)).update s.heap.objs.size (Obj.mapSeq (· ++ vs.toArray))=a at C f |-
 have k:(a.push (seqObj "list" vs.toArray 0)).get? a.objs.size=some (seqObj "list" vs.toArray 0):=Heap.get?_push_size _ rfl
 refine wpAny_bind (wpAny_holding (wpAny_call_entry_kw slot_list_sort ⟨_,k,rfl⟩ entry_list_sort ?_ (ksk_l1 _ _)))
 show wpAny (model prog w) A.in1.in1 (Builtin.«list.sort» ⟨[.ref a.objs.size],[(Str.ofString "key",.ref q)]⟩) _ _ _
 rw[ksk_t1]
 unfold ksk_tree
 have J:a.objs.size<(a.push (seqObj "list" vs.toArray 0)).objs.size:=Heap.lt_size k
 obtain⟨y,x⟩:∃ y,((a.push (seqObj "list" vs.toArray 0)).update a.objs.size (Obj.mapSeq λ_=>(#[]:Array Value))).get? a.objs.size=some (seqObj "list" #[] y):=⟨_,get?_update_seq k λ_=>#[]⟩
 have H:∀ b o,s.heap.get? b=some o->((a.push (seqObj "list" vs.toArray 0)).update a.objs.size (Obj.mapSeq λ_=>(#[]:Array Value))).get? b=some o:=λb o z=>(Heap.get?_update_other _ _ (fh (ax (Heap.lt_size z) f))).trans (Heap.get?_push_of_some _ (C b o z))
 have p:a.objs.size<((a.push (seqObj "list" vs.toArray 0)).update a.objs.size (Obj.mapSeq λ_=>(#[]:Array Value))).objs.size:=by rw[Heap.size_update];exact J
 refine wpAny_bind (listItems_at k rfl ?_)
 refine wpAny_bind (listUpdate_at k rfl ?_ (by simpa using r) (Nat.zero_le _))
 generalize (a.push (seqObj "list" vs.toArray 0)).update a.objs.size (Obj.mapSeq λ_=>(#[]:Array Value))=d at x H p |-
 refine wpAny_bind (seqEpoch_at x rfl (wpAny_bind (wpAny_newTuple ?_ r)))
 have u:∀ b o,d.get? b=some o->(d.push (seqObj "tuple" vs.toArray 0)).get? b=some o:=λb o z=>Heap.get?_push_of_some _ z
 have zB:d.objs.size<(d.push (seqObj "tuple" vs.toArray 0)).objs.size:=by rw[size_push'];exact fN _
 show wpAny (model prog w) A.in1.in1 _ _ _ (Shared.mk (d.push (seqObj "tuple" vs.toArray 0)) s.gens s.drawn s.toks s.os)
 generalize d.push (seqObj "tuple" vs.toArray 0)=n at u zB |-
 refine wpAny_bind (wpAny_newList (wpAny_holding ?_) (ee _))
 show wpAny (model prog w) A.in1.in1 (ksk_rest a.objs.size (.ref q) false vs.toArray y (.ref n.objs.size)) _ _ (Shared.mk (n.push (seqObj "list" #[] 0)) s.gens s.drawn s.toks s.os)
 have O:n.objs.size ≠ a.objs.size:=fh (ip p zB)
 have I:∀ b o,s.heap.get? b=some o->(n.push (seqObj "list" #[] 0)).get? b=some o:=λb o z=>Heap.get?_push_of_some _ (u b o (H b o z))
 refine Z0 O (Heap.get?_push_size _ rfl) (Heap.get?_push_of_some _ (u _ _ x)) K M (cl _ n.objs.size ⟨_,rfl,I⟩ (bi f (eI (ip p zB)))) λh' tk c ix L g pm pw=>⟨_,rfl,?_⟩
 refine wpAny_pure ⟨_,rfl,h a.objs.size h' tk c ix f (λb o z=>?_) g pm pw⟩
 have B:=Heap.lt_size z
 exact L b o (be (ax B (bi f (eI (ip p zB))))) (be (ax B f)) (I b o z)
end
end Sx
end PartSortZs
namespace L2
open PySem PySem.Spec PyProof.Rows Og
abbrev Iu (t:Sq.T3):List V:=[.int t.1,.int t.2.1,.int t.2.2]
theorem G5:∀ {xs:List V} {us:List Value},Vals xs us->∀ {i:Nat} {u:Value},us[i]? = some u->∃ x,xs[i]? = some x/\RelV x u
 | _,_,.nil,i,u,h=>by simp at h
 | x::xs,a::us,.cons r t,i,u,h=>by
  cases i with
  | zero=>exact⟨x,rfl,by simp at h;exact h ▸ r⟩
  | succ i=>exact G5 t (by simpa using h)
theorem QV (I:Inv X a0 σ H s) {t:Sq.T3} {x:V} (h:TupAt H (Iu t) x) (r:RelV x u):Sq.Im s.heap u t:=by
 obtain⟨T,rfl,l⟩:=h
 cases r
 obtain⟨f,a,g,_⟩:=I.tuple (show Er X.K H T (Iu t) from .inl (.inl l))
 cases a with
 | cons m a =>
  cases a with
  | cons k a =>
   cases a with
   | cons i a =>
    cases a
    obtain⟨j,rfl⟩:=m
    obtain⟨b,rfl⟩:=k
    obtain⟨p,rfl⟩:=i
    obtain⟨o,e,c,n,d⟩:=g
    exact⟨T,o,j,b,p,n,rfl,e,c,d⟩
theorem Lg (T:X.calm=true):Ep X (.builtin "sorted") (λxs H Q=>∃ (a:Addr) (ts:List Sq.T3) (vs:List V),xs=[V.ref a]/\CV X.K H a vs/\Paired (λt y=>TupAt H (Iu t) y) ts vs/\vs.length<64/\∀ (p:Addr) (ix:List Nat),H p=none->ix.Perm (List.range vs.length)->ix.Pairwise (λi j=>Sq.Gi (ts.getD j (0,0,0)) (ts.getD i (0,0,0))=false)->Q (.ref p) (upd H p (.lst (ix.map λi=>vs.getD i .non)))):=by
 intro U s σ H xs S Q I r h
 obtain⟨a,ts,vs,rfl,L,w,R,q⟩:=h
 obtain⟨u,rfl,F⟩:=vals1 r
 cases F
 obtain⟨b,f,E,Y⟩:=I.list L
 have W:=f.length
 have lt:=w.length
 refine Sx.TQ (ts:=ts) E.isList (by omega) (λi v t P N=>?_) (by omega) λD Z c ix le k e pm pw=>?_
 ·obtain⟨x,g,l⟩:=G5 f P
  obtain⟨B,n,J⟩:=El w g
  rw[N] at n
  cases n
  exact QV I J l
 ·have K:H D=none:=I.hok.fresh le
  have O:b.length=vs.length:=by omega
  rw[O] at pm
  have A:Vals (ix.map λi=>vs.getD i .non) (ix.map λi=>b.getD i .none):=by
   have m:∀ i∈ix,i<vs.length:=λi z=>dt.mp (pm.mem_iff.mp z)
   clear e pm pw
   induction ix with
   | nil=>exact .nil
   | cons i ix M =>
    refine .cons ?_ (M λj C=>m j (ba _ C))
    have z:=m i (bt ..)
    have d:i<b.length:=by omega
    obtain⟨x,g,l⟩:=G5 f (ae d)
    show RelV (vs.getD i V.non) (b.getD i Value.none)
    rw[aE,aE,g,ae d]
    exact l
  have G:(ix.map λi=>vs.getD i .non).length<=sizeLine:=by
   rw[af,pm.length_eq,dE,sizeLine_eq]
   omega
  exact⟨.ref D,_,I.fK (o:=.lst (ix.map λi=>vs.getD i .non)) (t':=s.toks) (d':=s.drawn) k le ⟨G,_,c,A,e⟩,rfl,q D ix K pm pw⟩
open PySem PySem.Spec PyProof.Rows
theorem YX:∀ {ns:List Int} {us:List Value},Vals (ns.map V.int) us->IntsAre us ns
 | [],_,r=>by cases r;exact .nil
 | n::ns,_,r=>by
  cases r with
  | cons r t =>
   obtain⟨tk,rfl⟩:=r
   exact .cons n tk (YX t)
theorem Yv:∀ {ns:List Int} {us:List Value},IntsAre us ns->Vals (ns.map V.int) us
 | _,_,.nil=>.nil
 | _,_,.cons n t r=>.cons ⟨t,rfl⟩ (Yv r)
open PySem PySem.Spec PySem.Calls PyProof.Rows
section
variable {z y3:Str}
end
section
variable {z y3:Str}
end
section
variable {z y3:Str}
end
section
variable {z y3:Str}
end
section
variable {Q:VK}
end
end L2
namespace Sq
open PySem PySem.Spec PySem.Calls PyProof.Rows
abbrev Ge (x:Str) (p1 q1 s1 p2 q2 s2 tp:Pos) (j1 j2 k:Nat):Expr:=.Tuple [.Subscript (.Name x p1) (.Constant (.int 1) j1 q1) s1,.Subscript (.Name x p2) (.Constant (.int 0) j2 q2) s2] k tp
section
variable {w:World}
theorem item_at {E:vSP} {b:Env} {p q sp:Pos} {t:Nat} {i:Int} {m:Str->Option Value} {o:Obj} {its:Array Value}
  (C:b.scope.kind=.function) (g:b.kindOf x=some .local) (z:s.heap.Ns b.locals m) (F:m x=some (.ref a)) (l:(x == ("__debug__" : Str))=false)
  (d:s.heap.get? a=some o) (c:o.cls=.type "tuple") (D:o.data=.seq its n) (B:seqIndex? i its.size=some j) (y : -(2 ^ 63)<=i) (e:i<2 ^ 63) (f:its[j]? = some u)
  (h:∀ tk,Q u { s with toks:=tk }):wpAny (model prog w) A (eval (.Subscript (.Name x p) (.Constant (.int i) t q) sp) b) Q E s:=by
 refine Subscript_ (wpAny_Name (wpAny_loadName_local C g z F (wpAny_Constant_int ?_)) l)
 have k:Heap.IsTuple s.heap a its:=⟨o,d,c,n,D⟩
 exact subscriptTail_builtinR (x:=u) (s:={ s with toks:=s.toks+1 }) ⟨o,d,c⟩ slot_tuple_getitem.lookup (getItem_tuple (j:=j) (Q:=λr v=>r=u/\Q r v) k y e B f ⟨rfl,h _⟩) (by with_unfolding_all rfl)
theorem Ux {o:Obj} {name:Str} {c:Arguments} {pm q ct v:Value} {t:T3} {P D L H K E M:Pos} {j1 C k:Nat} {R:vSP}
  (g:A.depth<recursionLimit) (X:s.heap.get? f=some o) (Q:o.data=.func (W.kla_fn name qual c (Ge x P D L H K E M j1 C k) scope [] pm q ct)) (Y:s.heap.CodeRec q qual) (m:s.heap.NoLimit)
  (ng:∀ v:Value,bindArgs (W.kla_fn name qual c (Ge x P D L H K E M j1 C k) scope [] pm q ct) ⟨[v],[]⟩=pure [(x,v)]) (d:scope.names.lookup x=some .local) (V:∀ y∈scope.names,y.2 ≠ .cell)
  (xy:scope.isCoroutine=false) (va:scope.isGenerator=false) (r:scope.kind=.function) (G:(x == ("__debug__" : Str))=false)
  (Z:Im s.heap v t)
  (h:∀ kv h2 qf,JM h2 kv (t.2.1,t.1)->(∀ b o,s.heap.get? b=some o->h2.get? b=some o)->s.heap.objs.size<=h2.objs.size->R kv { s with heap:=h2,toks:=qf }) :
  wpAny (model prog w) A (call (.ref f) [v]) R (λ_ _=>False) s:=by
 refine wpAny_call (W.kla_callFunE g X Q xy va rfl Y ?_)
 rw[ng v]
 refine wpAny_pure (wpAny_newFunctionEnv V (λy U=>by rw[am.mp U];exact d) (λz i S=>?_) r)
 have l:∀ b o,s.heap.get? b=some o->z.get? b=some o:=λb o e=>S.extBut b o (be (Heap.lt_size e)) (Heap.get?_push_of_some _ e)
 have p:s.heap.objs.size<=z.objs.size:=by
  obtain⟨_,_,_,e,_⟩:=i
  exact eI (Heap.lt_size e)
 refine⟨m.keeps l,W.kla_codeExpr (wpAny_Tuple_spliced ?_)⟩
 obtain⟨a,oa,O,B,k3,n,rfl,T,J,I⟩:=Z
 have N:=l _ _ T
 have F:(λy=>[(x,Value.ref a)].reverse.lookup y) x=some (.ref a):=by
  show [(x,Value.ref a)].lookup x=_
  rw[fR,beq_self_eq_true]
 refine Calls.spliced_cons (item_at (j:=1) (u:=.int t.2.1 B) r (show scope.names.lookup x=some .local from d) i F G N J I rfl (by decide) (by decide) rfl λuQ=>?_)
 refine Calls.spliced_cons (item_at (j:=0) (u:=.int t.1 O) r (show scope.names.lookup x=some .local from d) i F G N J I rfl (by decide) (by decide) rfl λqf=>?_)
 refine Calls.spliced_nil ⟨by show 2<=sizeLine;decide,?_⟩
 refine h _ _ _ ⟨z.objs.size,_,B,O,0,rfl,Heap.get?_push_size _ rfl,rfl,rfl⟩ (λb o e=>Heap.get?_push_of_some _ (l b o e)) ?_
 rw[Heap.size_push]
 exact gT p
end
end Sq
namespace L2
open PySem PySem.Spec PySem.Calls PyProof.Rows Og
def Q4 (c:Addr) (qual:Str):HO:=.ext λh=>h.CodeRec (.ref c) qual
theorem Vb {w:World} {c:Addr} (g:h.CodeRec (.ref c) qual):Bx P w H h c (Q4 c qual):=by
 refine⟨g,?_,λi f d k=>?_⟩
 ·obtain⟨b,o,a,t,e,q,r⟩:=g
  cases e
  exact⟨o,q⟩
 ·obtain⟨b,o,a,t,e,q,r⟩:=d
  cases e
  exact⟨_,o,a,t,rfl,k _ q,r⟩
def M_ (H:Hp) (P:Addr) (pos:Pos) (qual:Str):Prop:=H P=some (.tbl #[]) \/ ∃ c',H P=some (.tbl #[rawInt pos.line,rawInt pos.col,.ref c'])/\H c'=some (Q4 c' qual)
theorem M_.same {P:Addr} (t:M_ H P pos qual) (s:Aj H H'):M_ H' P pos qual:=by
 rcases t with t | ⟨c,b,a⟩
 ·exact .inl (s _ _ t)
 ·exact .inr ⟨c,s _ _ b,s _ _ a⟩
structure Jk (mg:Str->Option Value) (base:Heap) (c P:Addr):Prop where
 hd:W.CodeHd base c P
 bm:∃ bm o,mg "__builtins__" = some (.ref bm)/\bm ≠ builtinsNs/\base.get? bm=some o/\o.cls=.type "module" /\ o.dict=some builtinsNs/\o.data=.plain
def V0 (t:Sq.T3):Sq.T2:=(t.2.1,t.1)
inductive Kz (K:W.Frag) (P:Addr) (pos:Pos) (qual:Str) (Q:VK) (v:V) (H1:Hp):Prop
 | mk (a:Addr) (ts:List Sq.T3) (vs:List V):v=.ref a->CV K H1 a vs->Paired (λt y=>TupAt H1 (Iu t) y) ts vs->vs.length<64->M_ H1 P pos qual->(∀ (p:Addr) (ix:List Nat) (H2:Hp),H1 p=none->H2 p=none->(∀ b o,b ≠ P->H1 b=some o->H2 b=some o)->M_ H2 P pos qual->ix.Perm (List.range vs.length) ->
  ix.Pairwise (λi j=>Sq.Fe (V0 (ts.getD j (0,0,0))) (V0 (ts.getD i (0,0,0)))=false)->Q (.ref p) (upd H2 p (.lst (ix.map λi=>vs.getD i .non))))->Kz K P pos qual Q v H1
def VR (K:W.Frag) (P:Addr) (pos:Pos) (qual:Str) (te:TE):TE:=λσ H Q=>te σ H λv H1=>Kz K P pos qual Q v H1
theorem Inv.grow {P c:Addr} {ps:Array Value} {tk:Nat} (I:Inv X a0 σ H s) (g:H P=some (.tbl #[])) (p:Heap.ExtBut P s.heap h') (j:s.heap.objs.size<=c) (h:h'.CodeRec (.ref c) qual)
  (k:h'.get? P=some (W.tabObj #[rawInt pos.line,rawInt pos.col,.ref c])) (o:Obj) :
  Inv X a0 σ (upd (upd H c (Q4 c qual)) P (.tbl #[rawInt pos.line,rawInt pos.col,.ref c])) { s with heap:=h'.push o,toks:=tk }:=by
 have t:H c=none:=I.hok.fresh j
 have w:s.heap.get? P=some (W.tabObj #[]):=I.hok P _ g
 have r:c ≠ P:=fh (ax (Heap.lt_size w) j)
 have kp:∀ b u,b ≠ P->s.heap.get? b=some u->(h'.push o).get? b=some u:=λb u a e=>Heap.get?_push_of_some _ (p b u a e)
 have f:∀ {b:Addr} {u:HO},b ≠ P->H b=some u->upd (upd H c (Q4 c qual)) P (.tbl #[rawInt pos.line,rawInt pos.col,.ref c]) b=some u:=λ{b u} a e=>by
  rw[Aw a,Aw (An e t)]
  exact e
 refine I.un ⟨λb u q n _ _=>kp b u (λz=>by rw[z,g] at n;cases n) q,λb u q n _ _=>⟨u.slots,kp b u (λz=>by rw[z,g] at n;cases n) q⟩,λb u q n _=>?_,λb u q _=>?_,λb m q=>f (λz=>by rw[z,g] at q;cases q) q,λb u m q=>f (λz=>by rw[z,g] at q;cases q) q,λb ps q=>?_⟩ λb u e=>?_
 ·have a:b ≠ P:=λz=>by rw[z,g] at n;cases n
  rw[Aw a,Aw (be (ax (Heap.lt_size q) j))]
  exact n
 ·by_cases a:b=P
  ·subst a
   exact⟨_,Heap.get?_push_of_some _ k⟩
  ·exact⟨u,kp b u a q⟩
 ·by_cases a:b=P
  ·subst a
   rw[g] at q
   cases q
   exact⟨#[rawInt pos.line,rawInt pos.col,.ref c],by rw[Al];rfl⟩
  ·exact⟨#[],by rw[f a q];simp⟩
 ·by_cases a:b=P
  ·subst a
   rw[Al] at e
   cases e
   exact Heap.get?_push_of_some _ k
  ·rw[Aw a] at e
   by_cases l:b=c
   ·subst l
    rw[Al] at e
    cases e
    exact Vb (h.push o)
   ·rw[Aw l] at e
    refine (I.hok b u e).stay (λd v i q=>kp d v ?_ q) (λd q=>f (λz=>by rw[z,g] at q;cases q) q) λd m q=>f (λz=>by rw[z,g] at q;cases q) q
    rcases i with rfl | i
    ·exact a
    ·exact λz=>by rw[z,g] at i;cases i
section
variable {c P:Addr} {params:Arguments} {p kp oz p1 q1 w1 p2 q2 w2 tp:Pos} {j1 j2 kk:Nat}
theorem Px (sH:X.env.code=.ref c) (T:Jk X.mg X.base c P) (hr:BK 0 X.A) (hg:Gl X "sorted") (hm:X.mg "sorted" = none) (he:PE X e te)
  (z9:defaultsOf params X.env=([],[])) (an:closureFor scope X.env=pure [])
  (ng:∀ (pm d3 ct v:Value),bindArgs (W.kla_fn "<lambda>" (X.env.qual ++ "<lambda>") params (Sq.Ge x p1 q1 w1 p2 q2 w2 tp j1 j2 kk) scope [] pm d3 ct) ⟨[v],[]⟩=pure [(x,v)])
  (ac:scope.names.lookup x=some .local) (i7:∀ y∈scope.names,y.2 ≠ .cell) (xy:scope.isCoroutine=false) (va:scope.isGenerator=false) (hk:scope.kind=.function) (oe:(x == ("__debug__" : Str))=false)
  (as:starEach [e] X.env=[(false,eval e X.env)]) :
  PE X (.Call (.Name "sorted" p) [e] [⟨some "key",.Lambda params (Sq.Ge x p1 q1 w1 p2 q2 w2 tp j1 j2 kk) scope oz,kp⟩] pos) (VR X.K P oz (X.env.qual ++ "<lambda>") te):=by
 intro a0 s σ H Q I h
 refine wpAny_Call_Name_kw (G7 I hg hm gy ?_)
 have K:backTo pos (starEach [e] X.env)=[(false,eval e X.env)]:=by rw[as];rfl
 refine PyProof.Rows.callWith_kw ?_ (by rw[K];rfl) (by rw[K];rfl)
 rw[K]
 refine Calls.spliced_cons (Bt (he a0 s σ H _ I h) λu s1 ⟨v,H1,d,rv,a,E,r,ev,M,hp,j3,tb,q⟩=>Calls.spliced_nil ?_)
 subst ev
 obtain rfl:u=Value.ref a:=rv
 refine PyProof.Rows.kws_cons (W.kla_eval z9 ?_)
 have fin:∀ (f:Addr) (d3 ct:Value) (C:Hp) (Z:Shared),Inv X a0 σ C Z->(∃ o:Obj,Z.heap.get? f=some o/\o.data=.func (W.kla_fn "<lambda>" (X.env.qual ++ "<lambda>") params (Sq.Ge x p1 q1 w1 p2 q2 w2 tp j1 j2 kk) scope [] ((X.mg "__name__").getD .none) d3 ct)) ->
   Z.heap.CodeRec d3 (X.env.qual ++ "<lambda>")->(∀ b o,b ≠ P->H1 b=some o->C b=some o)->M_ C P oz (X.env.qual ++ "<lambda>")->(∀ b,Z.heap.objs.size<=b->H1 b=none) ->
   wpAny (model X.prog X.w) X.A (call (.builtin "sorted") [.ref a] [(Str.ofString "key",.ref f)]) (EP X a0 σ Q) X.xe Z:=λf d3 ct C DS L hf na kH OZ fr=>by
  obtain⟨of,EL,vx⟩:=hf
  have J:∀ {b:Addr} {u:HO},H1 b=some u->(∀ ps,u ≠ .tbl ps)->C b=some u:=λ{b u} e Y=>kH b u (λz=>by
   rcases tb with t | ⟨m,t,_⟩
   ·rw[z,t] at e;exact Y _ (Option.some.inj e).symm
   ·rw[z,t] at e;exact Y _ (Option.some.inj e).symm) e
  have aC:CV X.K C a r:=by
   rcases M with (M | ⟨o,M⟩) | M
   ·exact .inl (.inl (J M (λ_ z=>by cases z)))
   ·exact .inl (.inr ⟨o,J M (λ_ z=>by cases z)⟩)
   ·exact .inr M
  have U:Paired (λt y=>TupAt C (Iu t) y) E r:=Paired.Fg hp λt y ⟨T1,e1,e2⟩=>⟨T1,e1,J e2 (λ_ z=>by cases z)⟩
  obtain⟨B,i6,pl,hz⟩:=L.list aC
  have lv:=i6.length
  have lt:=U.length
  have aK:f<DS.heap.objs.size:=Heap.lt_size EL
  refine Sx.U7 (ts:=E.map V0) pl.isList (by rw[af];omega) (by omega) (λs3 kS ap Mo i v t hv ht=>?_) λD S tk cc w le k e pm pw=>?_
  ·obtain⟨h3,rfl,k3⟩:=ap
   rw[ar] at ht
   obtain⟨t3,rH,rfl⟩:=cr.mp ht
   obtain⟨y,hy,ry⟩:=G5 i6 hv
   obtain⟨t',lh,v5⟩:=El U hy
   rw[rH] at lh
   cases lh
   have tr:=QV L v5 ry
   intro h4 OE k4 z4 R hR
   have A:∀ b o,DS.heap.get? b=some o->h4.get? b=some o:=λb o e=>k4 b o (be (ax (Heap.lt_size e) Mo)) (k3 b o e)
   refine Sq.Ux (s:={ DS with heap:=h4,toks:=OE }) (by have:=hr.depth;exact this) (A _ _ EL) vx (na.keeps A) (L.nolimit.keeps A) (ng _ _ _) ac i7 xy va hk oe (tr.keep λb o e _=>A b o e) λkv h2 qf g1 g2 g3=>hR kv h2 qf g1 g2 g3
  ·have hn:C D=none:=L.hok.fresh le
   have li:B.length=r.length:=by omega
   rw[li] at pm
   have n:∀ i∈w,i<r.length:=λi hi=>dt.mp (pm.mem_iff.mp hi)
   have vv:Vals (w.map λi=>r.getD i .non) (w.map λi=>B.getD i .none):=by
    clear e pm pw
    induction w with
    | nil=>exact .nil
    | cons i w ih =>
     refine .cons ?_ (ih λj hj=>n j (ba _ hj))
     have hi:=n i (bt ..)
     have ab:i<B.length:=by omega
     obtain⟨x,hx,rx⟩:=G5 i6 (ae ab)
     show RelV (r.getD i V.non) (B.getD i Value.none)
     rw[aE,aE,hx,ae ab]
     exact rx
   have zl:(w.map λi=>r.getD i V.non).length<=sizeLine:=by
    rw[af,pm.length_eq,dE,sizeLine_eq]
    omega
   have gd:∀ i,i<r.length->(E.map V0).getD i (0,0)=V0 (E.getD i (0,0,0)):=λi hi=>by
    rw[List.getD_eq_getElem?_getD,List.getD_eq_getElem?_getD,List.getElem?_map,List.getElem?_eq_getElem (show i<E.length by omega)]
    rfl
   have aB:w.Pairwise (λi j=>Sq.Fe (V0 (E.getD j (0,0,0))) (V0 (E.getD i (0,0,0)))=false):=by
    refine List.Pairwise.imp_of_mem (λ{i j} hi hj hh=>?_) pw
    rw[gd i (n i hi),gd j (n j hj)] at hh
    exact hh
   exact⟨.ref D,_,L.laid (o:=.lst (w.map λi=>r.getD i .non)) (t':=tk) k le ⟨zl,_,cc,vv,e⟩,rfl,q D w C (fr D le) hn kH OZ pm aB⟩
 have aM:=X.env
 obtain⟨bm,ob,b1,b2,b3,b4,b5,b6⟩:=T.bm
 have g:=d.mod.glob.keeps d.bk
 have F:=d.bk _ _ b3
 have al:bm ≠ mainGlobals:=λq=>by
  obtain⟨o,es,ep,e,hd,_⟩:=g
  rw[q,e] at F;cases F;rw[hd] at b6;cases b6
 rcases tb with t0 | ⟨m,t1,t2⟩
 ·have N:s1.heap.get? P=some (W.tabObj #[]):=d.hok P _ t0
  have aD:mainGlobals ≠ P:=λq=>by
   obtain⟨o,es,ep,e,hd,_⟩:=g
   rw[q,N] at e;cases e;cases hd
  have O:bm ≠ P:=λq=>by
   rw[q,N] at F;cases F;cases b4
  refine W.kla_makeFunction (ps:=#[]) (mg:=X.mg) an d.ok.glob g sH (T.hd.keeps d.bk) N trivial rfl aD ⟨bm,ob,b1,b2,al,O,F,b4,b5,b6⟩ λm xu S tk hx sK aN l yW=>?_
  refine PyProof.Rows.kws_nil ?_
  have L:=d.grow (pos:=oz) (tk:=tk) (ps:=#[]) t0 hx sK l (by simpa using yW) (W.kla_obj "<lambda>" (X.env.qual ++ "<lambda>") params (Sq.Ge x p1 q1 w1 p2 q2 w2 tp j1 j2 kk) scope [] ((X.mg "__name__").getD .none) m xu)
  have aw:m ≠ P:=fh (ax (Heap.lt_size N) sK)
  refine fin S.objs.size (.ref m) xu _ _ L ⟨_,Heap.get?_push_size _ rfl,rfl⟩ (l.push _) (λb o n e=>by rw[Aw n,Aw (An e (d.hok.fresh sK))];exact e) (.inr ⟨m,Al,by rw[Aw aw,Al]⟩) (λb n=>d.hok.fresh ?_)
  have G:(S.push (W.kla_obj "<lambda>" (X.env.qual ++ "<lambda>") params (Sq.Ge x p1 q1 w1 p2 q2 w2 tp j1 j2 kk) scope [] ((X.mg "__name__").getD .none) m xu)).objs.size<=b:=n
  rw[Heap.size_push] at G
  omega
 ·have N:s1.heap.get? P=some (W.tabObj #[rawInt oz.line,rawInt oz.col,.ref m]):=d.hok P _ t1
  have O:bm ≠ P:=λq=>by
   rw[q,N] at F;cases F;cases b4
  have l:s1.heap.CodeRec (.ref m) (X.env.qual ++ "<lambda>"):=(d.hok m _ t2).1
  refine W.kla_makeFunctionHit (mg:=X.mg) (cv:=.ref m) an d.ok.glob g sH (T.hd.keeps d.bk) N (by simp[TriplesOk,rawInt]) ?_ ⟨bm,ob,b1,b2,al,O,F,b4,b5,b6⟩ λxu S tk kx sK=>?_
  ·simp[codeAmong,rawInt]
  refine PyProof.Rows.kws_nil ?_
  refine fin S.objs.size (.ref m) xu H1 _ (d.kept (t':=tk) λb o e=>Heap.get?_push_of_some _ (kx b o e)) ⟨_,Heap.get?_push_size _ rfl,rfl⟩ ((l.keeps kx).push _) (λb o _ e=>e) (.inr ⟨m,t1,t2⟩) (λb n=>d.hok.fresh ?_)
  have G:(S.push _).objs.size<=b:=n
  rw[Heap.size_push] at G
  omega
end
open PySem PySem.Spec PyProof.Rows
def jB (Ps:List Addr) (H:Hp):Prop:=∀ b,H b=none \/ (∃ o xs,H b=some (.frz o (.lst xs))) \/ (b∈Ps/\H b=some (.tbl #[]))
theorem Sh {w:World} {K:W.Frag} {X:Str->Option Value} {CX:QH} {k:Nat} {fa:Addr} {sp:Sp} {f:Shared} {vs:List Value} {J:List Int} {tabs:List (Addr × Addr)}
  (KX:K.In f.heap) (I:f.heap.Ns mainGlobals mg) (c:f.heap.Ns builtinsNs X) (NX:∀ x:Str,x ≠ "__name__"->X x=bootBuiltins x) (A7:f.heap.NoLimit) (hg:f.gens = #[])
  (M:W.TabsAt tabs f.heap) (kU:W.noTabs K=true) (zy:∃ bm o,mg "__builtins__" = some (.ref bm)/\bm ≠ builtinsNs/\f.heap.get? bm=some o/\o.cls=.type "module" /\ o.dict=some builtinsNs/\o.data=.plain)
  (E:f.heap.get? a=some { cls:=.type "list",data:=.seq vs.toArray }) (hi:IntsAre vs J) (hl:J.length<=sizeLine) (hr:BK k callerA)
  (F:∀ base:Heap,K.In base->base.Ns mainGlobals mg->(∀ q∈tabs,Jk mg base q.1 q.2)->Ar P w K mg base CX k fa fd [x] sp) (ng:∀ (s:Shared) (u:Value),BindsTo s fd ⟨[u],[]⟩ [(x,u)])
  (rJ:∀ H:Hp,(∀ q∈tabs,H q.2=some (.tbl #[]))->CV K H a (J.map V.int)->sp [.ref a] H (λv _=>v=.bl true) λ_ _ _=>False)
  (BD:∀ H e s',CX [] H f (λ_ _ _=>False) e s'->False) :
  codeAny (model P w) callerA (.call (.ref fa) ⟨[.ref a],[]⟩) (λr s'=>r=.ok (.ret (.bool true))/\OldK f.heap s'.heap/\s'.os=f.os/\AllBare s'.gens) f:=by
 have rv:=Kr hi
 have zw:=hi.length
 have i:∀ b,b∈tabs.map (·.2)->f.heap.get? b=some (W.tabObj #[]):=λb c=>by
  obtain⟨q,j,rfl⟩:=ay.mp c
  exact (M q j).2
 have aP:a ∉ tabs.map (·.2):=λz=>by
  have:=i a z
  rw[E] at this
  cases this
 have C:∀ H:Hp,jB (tabs.map (·.2)) H->(∀ q∈tabs,H q.2=some (.tbl #[]))->CV K H a (J.map V.int)->Hl P w H f.heap->(∀ b,H b ≠ none->b=a \/ b∈tabs.map (·.2))->(H a ≠ none->K.lookup a=none) ->
   codeAny (model P w) callerA (.call (.ref fa) ⟨[.ref a],[]⟩) (λr s'=>r=.ok (.ret (.bool true))/\OldK f.heap s'.heap/\s'.os=f.os/\AllBare s'.gens) f:=by
  intro H hO vC hS T hA hK
  have g:∀ {b:Addr} {o:Obj},f.heap.get? b=some o->H b=none->(Kh f.heap H).get? b=some o:=λe n=>Vh e n
  have Z:∀ {b:Addr} {o:Obj} {Q:Array DictEntry} {L:Nat},f.heap.get? b=some o->o.data=.dict Q L->H b=none:=λ{b o Q L} e d=>by
   cases q:H b with
   | none=>rfl
   | some u =>
    rcases hA b (by rw[q];simp) with l | l
    ·subst l
     rw[E] at e;cases e
     have d':Data.seq vs.toArray _=Data.dict Q L:=d
     cases d'
    ·rw[i b l] at e
     cases e
     cases d
  have y:∀ {b:Addr} {m:Str->Option Value},f.heap.Ns b m->(Kh f.heap H).Ns b m:=λ{b m} ⟨o,Q,L,e,d,r⟩=>⟨o,Q,L,g e (Z e d),d,r⟩
  have S:K.In (Kh f.heap H):=λb o e=>g (KX b o e) (by
   cases q:H b with
   | none=>rfl
   | some u =>
    rcases hA b (by rw[q];simp) with l | l
    ·subst l
     rw[hK (by rw[q];simp)] at e;cases e
    ·have D:=KX b o e
     rw[i b l] at D
     have O:=fb.mp kU (b,o) (W.mem_of_lookupK e)
     cases D
     exact absurd (show false=true from O) Bool.false_ne_true)
  have hM:Mod K mg (Kh f.heap H):=⟨S,y I,⟨X,y c,NX⟩,let ⟨mc,h1,O⟩:=A7;⟨mc,y h1,O⟩⟩
  have e0:NZ P w K mg (Kh f.heap H) callerA [] f H:=⟨rfl,hM,λb o e=>Xa e,Nat.le_of_eq (SM _ _),trivial,λb c=>absurd (show b∈([]:List Addr) from c) (by simp),T,.of_eq hg⟩
  have tk:∀ q∈tabs,Jk mg (Kh f.heap H) q.1 q.2:=λq j=>by
   have plain:∀ {b:Addr} {o:Obj},f.heap.get? b=some o->(∀ U n,o.data ≠ .seq U n)->o.cls ≠ .none->H b=none:=λ{b o} e h1 O=>by
    cases z:H b with
    | none=>rfl
    | some u =>
     rcases hA b (by rw[z];simp) with l | l
     ·subst l
      rw[E] at e;cases e
      exact absurd rfl (h1 _ _)
     ·rw[i b l] at e
      cases e
      exact absurd rfl O
   obtain⟨o,y',CD,tf,vV,tg,RE,N,tt,G,r1,r2,r3⟩:=(M q j).1
   obtain⟨bm,Y,b1,b2,b3,b4,b5,b6⟩:=zy
   refine⟨⟨o,y',CD,tf,vV,tg,RE,N,tt,g G (plain G (λU n z=>by rw[r2] at z;cases z) (λz=>by rw[r1] at z;cases z)),r1,r2,r3⟩,bm,Y,b1,b2,g b3 (plain b3 (λU n z=>by rw[b6] at z;cases z) (λz=>by rw[b4] at z;cases z)),b4,b5,b6⟩
  refine codeAny_mono ((F _ S (y I) tk).run callerA [] f H ⟨[.ref a],[]⟩ [.ref a] [.ref a] _ _ hr e0 (ng f (.ref a)) (.cons rfl .nil) (rJ H vC hS)) λr s' h=>?_
  cases r with
  | error e=>exact (BD H e s' h).elim
  | ok fl =>
   cases fl with
   | next=>exact False.elim h
   | brk=>exact False.elim h
   | cont=>exact False.elim h
   | ret u =>
    obtain⟨v,H',os,R,un,xg,r',q⟩:=h
    have q':v=.bl true:=q
    subst q'
    obtain rfl:u=Value.bool true:=r'
    have p:∀ b o,b∈tabs.map (·.2)->f.heap.get? b=some o->isCodeTable f.heap b/\o=W.tabObj #[]/\∃ ps,s'.heap.get? b=some (W.tabObj ps):=λb o c e=>by
     obtain⟨q,j,rfl⟩:=ay.mp c
     have D:=(M q j).2
     rw[e] at D
     obtain⟨ab,hm⟩:=un.tbls _ _ (vC q j)
     exact⟨((M q j).1.tab (M q j).2).isCodeTable,Option.some.inj D,_,xg _ _ hm⟩
    have keep:∀ b o,b ∉ tabs.map (·.2)->f.heap.get? b=some o->s'.heap.get? b=some o:=λb o c e=>by
     cases q:H b with
     | none=>exact un.keep b o e q (by intro z;exact absurd (show b∈([]:List Addr) from z) (by simp)) (by simp)
     | some u =>
      rcases hO b with z | ⟨Y,U,z⟩ | ⟨z,_⟩
      ·rw[q] at z;cases z
      ·have z2:=un.frzs b Y _ z
       obtain⟨G,_⟩:=T b _ z
       obtain⟨D,_⟩:=xg b _ z2
       rw[e] at G;cases G
       exact D
      ·exact absurd z c
    refine⟨rfl,⟨λb o e=>?_,λb o e=>?_⟩,os,R⟩
    ·by_cases c:b∈tabs.map (·.2)
     ·obtain⟨ht,rfl,ps,hP⟩:=p b o c e
      exact .inr (.inl ⟨ht,rfl,#[],ps,rfl,by rw[Array.empty_append];exact hP⟩)
     ·exact .inl (keep b o c e)
    ·by_cases c:b∈tabs.map (·.2)
     ·obtain⟨_,_,ps,hP⟩:=p b o c e
      exact⟨_,hP⟩
     ·exact⟨o,keep b o c e⟩
 have A:∀ (H0:Hp),(∀ b u,H0 b=some u->b=a)->∀ q∈tabs,(λb=>if b∈tabs.map (·.2) then some (HO.tbl #[]) else H0 b) q.2=some (.tbl #[]):=λH0 _ q j=>if_pos (ci j)
 cases hk:K.lookup a with
 | some o =>
  have e:=KX a o hk
  rw[E] at e
  cases e
  refine C (λb=>if b∈tabs.map (·.2) then some (.tbl #[]) else none) (λb=>?_) (A (λ_=>none) (λb u z=>by cases z)) (.inr ⟨_,vs.toArray,_,hk,rfl,rfl,rfl,by rw[List.size_toArray,zw];exact hl,by simpa using rv⟩) (λb u z=>?_) (λb z=>?_) λz=>absurd (if_neg aP) z
  ·by_cases c:b∈tabs.map (·.2)
   ·exact .inr (.inr ⟨c,if_pos c⟩)
   ·exact .inl (if_neg c)
  ·by_cases c:b∈tabs.map (·.2)
   ·have B:=(if_pos c).symm.trans z
    cases B
    exact i b c
   ·have B:=(if_neg c).symm.trans z
    cases B
  ·by_cases c:b∈tabs.map (·.2)
   ·exact .inr c
   ·exact absurd (if_neg c) z
 | none =>
  refine C (λb=>if b∈tabs.map (·.2) then some (.tbl #[]) else if b=a then some (.frz { cls:=.type "list",data:=.seq vs.toArray } (.lst (J.map V.int))) else none) (λb=>?_) (λq j=>if_pos (ci j)) (.inl (.inr ⟨{ cls:=.type "list",data:=.seq vs.toArray },(if_neg aP).trans (if_pos rfl)⟩)) (λb u z=>?_) (λb z=>?_) λ_=>hk
  ·by_cases c:b∈tabs.map (·.2)
   ·exact .inr (.inr ⟨c,if_pos c⟩)
   ·by_cases t:b=a
    ·exact .inr (.inl ⟨_,_,(if_neg c).trans (if_pos t)⟩)
    ·exact .inl ((if_neg c).trans (if_neg t))
  ·by_cases c:b∈tabs.map (·.2)
   ·have B:=(if_pos c).symm.trans z
    cases B
    exact i b c
   ·have z1:=(if_neg c).symm.trans z
    by_cases t:b=a
    ·have B:=(if_pos t).symm.trans z1
     cases B
     subst t
     exact⟨E,by rw[af];exact hl,vs,_,rv,E⟩
    ·have B:=(if_neg t).symm.trans z1
     cases B
  ·by_cases c:b∈tabs.map (·.2)
   ·exact .inr c
   ·by_cases t:b=a
    ·exact .inl t
    ·exact absurd ((if_neg c).trans (if_neg t)) z
theorem VH {l:W.OpenLaw} {k:Nat} {q:Program} {r:List Str} {Z:(Str->Option Value)->Heap->Prop} {p:World->Heap->Prop} {d:DefRec} {K:Params->W.Frag} {CX:World->QH} {sp:World->Sp} {tabs:List (Addr × Addr)}
  (N:l.most=some n) (m:n<=sizeLine) (S:d.params.defaults=[]) (I:BK k callerA)
  (hY:∀ (w:World) (h:Heap),p w h->(K w.params).In h) (Q:∀ w:World,W.noTabs (K w.params)=true)
  (hT:∀ (w:World) (mg i:Str->Option Value) (y:ExcName->Option Value) (h:Heap),Top q (W.looseW q r) y mg i h->(K w.params).In h->W.TabsAt tabs h)
  (F:∀ (w:World) (mg:Str->Option Value) (c:Addr) (h:Heap),(K w.params).In h->h.Ns mainGlobals mg->mg d.name=some (.ref c) ->
   ∃ fd:FuncData,(∀ (s:Shared) (u:Value),BindsTo s fd ⟨[u],[]⟩ [(x,u)]) /\
    ∀ base:Heap,(K w.params).In base->base.Ns mainGlobals mg->(∀ q∈tabs,Jk mg base q.1 q.2)->Ar l.prog w (K w.params) mg base (CX w) k c fd [x] (sp w))
  (E:∀ (w:World) (H:Hp) (a:Addr) (g:List Int),g.length<=n->(∀ q∈tabs,H q.2=some (.tbl #[]))->CV (K w.params) H a (g.map V.int)->sp w [.ref a] H (λv _=>v=.bl true) λ_ _ _=>False)
  (J:∀ (w:World) (H:Hp) (s:Shared) (e:Value) (s':Shared),CX w [] H s (λ_ _ _=>False) e s'->False) :
  W.WalkO q r Z p l.row.toRowW d [] (λf vs=>PySem.call f vs):=by
 refine Att.Mq N S λw s₀ L mg i c o pm cd iX a vs g G Y ho hd na CS P qo b z=>?_
 have j:=hY w _ Y
 obtain⟨fd,A,M⟩:=F w mg c _ j G.T.g CS
 obtain⟨C,B,X,T,O,U,b5,D⟩:=G.T.bmain
 exact Sh j G.T.g G.T.b G.T.builtins G.T.nolimit z (hT w mg i _ _ G.T j) (Q w) ⟨C,B,X,T,O,U,b5,D⟩ P qo (bi b m) I M A (λH t R=>E w H a g b t R) λH e s'=>J w H L e s'
end L2
namespace Bw
abbrev Tr:=Int × Int × Int
abbrev Dr:=List Tr
def Chain:Int->Dr->Prop
 | _,[]=>True
 | t,x::r=>x.1=t/\x.1<x.2.1/\Chain x.2.1 r
def cnt (x:Tr):Nat:=(x.2.1 - x.1).toNat
def tk (P:Int):Dr->List Int
 | []=>[]
 | x::r=>List.replicate (cnt x) (x.2.2 - P)++tk P r
def stp (e x:Int):Int:=max 0 (e+x)
def EF (e:Int) (W:List Int):Int:=W.foldl stp e
abbrev E (W:List Int):Int:=EF 0 W
structure rA (W:List Int) (b0 b1 b2 sL rf:Int):Prop where
 e:E W=max 0 sL
 le:∀ t,t<=W.length->E (W.take t)<=b0
 s0:0<=rf
 s1:rf<=W.length
 tk:sL=W.sum - (W.take rf.toNat).sum
 b:(b0=0/\b1=0/\b2=0) \/ (0<b0/\0<=b1/\b1<b2/\b2<=W.length/\b0=(W.take b2.toNat).sum - (W.take b1.toNat).sum/\E (W.take b2.toNat)=b0)
def fl (sD:Int):Int->List Int->Option Nat
 | _,[]=>none
 | e,x::r=>if e+x > sD then some 0 else (fl sD (stp e x) r).map (· + 1)
def good (sD e x:Int) (c:Nat):Int:=if sD - e - x<0 then 0 else if -x ≥ 0 then (c:Int) else min (c:Int) ((sD - e) / x)
def cut (T:Int) (d:Dr):Dr:=(d.filter λx=>decide (x.1<=T)).map λx=>(x.1,min x.2.1 (T+1),x.2.2)
def ps:Int->List Int->List Int
 | s,[]=>[s]
 | s,x::r=>s::ps (s+x) r
structure qw (W:List Int) (t:Nat) (NC E3:Int):Prop where
 e:(W.take t).sum - NC=E (W.take t)
 le:∀ s,s<=t->E (W.take s)<=E3
 ex:∃ s,s<=t/\E (W.take s)=E3
end Bw
namespace Bw
end Bw
namespace Bw
def ov (f b:Int) (x:Tr):Int:=max 0 (min x.2.1 b - max x.1 f)
end Bw
namespace Bw
end Bw
namespace Bw
end Bw
namespace Bw
end Bw
namespace Bw
open PySem L2 Og
theorem Jb {α:Type} {xs:List α} {v:α}:Ox (xs++[v]) (-1)=some v:=by
 unfold Ox Yy
 rw[if_neg (by decide),if_pos (by simp;omega)]
 simp
 rw[show (-1+((xs.length:Int)+1)).toNat=xs.length by omega]
 simp
abbrev Kf (x:Tr):List V:=[.int x.1,.int x.2.1,.int x.2.2]
structure JP (H:Hp) (a:Addr) (d:Dr) (ys:List V):Prop where
 l:H a=some (.lst ys)
 p:Paired (λx v=>TupAt H (Kf x) v) d ys
theorem JP.mono {d:Dr} (h:JP H a d ys) (s:Aj H H'):JP H' a d ys:=⟨s _ _ h.l,Aq s h.p⟩
theorem JP.len {d:Dr} (h:JP H a d ys):d.length=ys.length:=h.p.length
theorem JP.at {d:Dr} (h:JP H a d ys) (c:ys[i]? = some y):∃ x T,d[i]? = some x/\x∈d/\y=.ref T/\H T=some (.tup (Kf x)):=by
 obtain⟨x,b,T,e,q⟩:=Og.El h.p c
 exact⟨x,T,b,av b,e,q⟩
theorem Uk {α:Type} {l:List α} {x:α} (h:l[i]? = some x):l=l.take i++x::l.drop (i+1)/\l.take (i+1)=l.take i++[x]:=by
 obtain⟨a,e⟩:=ag.mp h
 refine⟨?_,?_⟩
 ·rw[<-e,<-List.drop_eq_getElem_cons a,fz]
 ·rw[cE,h];rfl
def Bd (d:Dr):Prop:=∀ x∈d,0<=x.2.2/\x.2.2<2 ^ 41/\x.2.1 - x.1<2 ^ 35
def DH (H:Hp) (dh pc:Addr) (n:Nat):Prop:=∃ (cs:List Int) (m r:Int),H dh=some (.lst [.ref pc,.int m,.int r,.int (n:Int)])/\H pc=some (.lst (cs.map V.int))/\dh ≠ pc/\(∀ c∈cs,0<=c)/\0<=m/\m<=cs.length/\0<=r/\r<2147483647/\1<=cs.length/\cs.length<=64
def rE (H H':Hp) (dh pc:Addr):Prop:=∀ b,b ≠ dh->b ≠ pc->H' b=H b
theorem X5 {c A B:Prop} [Decidable c] (a:c) (h:A):if decide c=true then A else B:=by
 rw[decide_eq_true a]
 exact Dw h
theorem YG {c A B:Prop} [Decidable c] (a:¬ c) (h:B):if decide c=true then A else B:=by
 rw[decide_eq_false a]
 exact Dj h
theorem JP.snoc {T:Addr} {d:Dr} {x:Tr} (A:JP H l d ys) (a:H T=some (.tup (Kf x))):JP (L2.upd H l (.lst (ys++[.ref T]))) l (d++[x]) (ys++[.ref T]) :=
 ⟨Al,Paired.snoc (CT A.p A.l) (TupAt.upd ⟨T,rfl,a⟩ A.l)⟩
inductive RM (K:W.Frag) (vs:List V) (H:Hp) (Q:VK) (a8:XK):Prop
 | mk (a:Addr) (k:Nat) (ns:List Int):vs=[.ref a,.int (k:Nat)]->CV K H a (ns.map V.int)->(∀ c,Q (.int c) H)->RM K vs H Q a8
inductive J5 (vs:List V) (H:Hp) (Q:VK) (a8:XK):Prop
 | mk (x:V) (b:Bool):vs=[x]->((∃ i,x=.int i/\b=true) \/ (x=.non/\b=false))->Q (.bl b) H->J5 vs H Q a8
def gd (th ri c:Int):Int:=if th+ri<0 then 0 else if ri ≥ 0 then c else if th / -ri<c then th / -ri else c
inductive Le (vs:List V) (H:Hp) (Q:VK) (a8:XK):Prop
 | mk (l:Addr) (d:Dr) (ys:List V) (P sD T:Int):vs=[.ref l,.int P,.int sD,.int T]->JP H l d ys->Chain 0 d->Bd d->d.length<=100->0<=P->P<2 ^ 60->0<=sD->0<=T->T<(tk P d).length->(∀ H',Aj H H'->Q (.bl true) H')->Le vs H Q a8
end Bw
namespace Ro
abbrev T3:=Int × Int × Int
def Fl (l:List T3) (tr t:Int):Prop:=∃ h∈l,h.1=tr/\h.2.1<=t/\t<h.2.2
theorem Fl.app {a b:List T3} {d t:Int}:Fl (a++b) d t ↔ Fl a d t \/ Fl b d t:=by
 constructor
 ·rintro⟨h,c,r⟩
  rcases aI.mp c with c | c
  ·exact .inl ⟨h,c,r⟩
  ·exact .inr ⟨h,c,r⟩
 ·rintro (⟨h,c,r⟩ | ⟨h,c,r⟩)
  ·exact⟨h,cf _ c,r⟩
  ·exact⟨h,bp _ c,r⟩
theorem Fl.one {h:T3} {a t:Int}:Fl [h] a t ↔ h.1=a/\h.2.1<=t/\t<h.2.2:=by
 constructor
 ·rintro⟨g,b,r⟩
  rw[am.mp b] at r
  exact r
 ·intro r
  exact⟨h,am.mpr rfl,r⟩
theorem Fl.perm {a b:List T3} (p:∀ x,x∈a ↔ x∈b) {d t:Int}:Fl a d t ↔ Fl b d t :=
 ⟨λ⟨h,c,r⟩=>⟨h,(p h).mp c,r⟩,λ⟨h,c,r⟩=>⟨h,(p h).mpr c,r⟩⟩
def Sep (l:List T3):Prop:=(∀ h∈l,h.2.1<h.2.2)/\∀ g∈l,∀ h∈l,g.1=h.1->g=h \/ g.2.2<h.2.1 \/ h.2.2<g.2.1
def Rm (a b:T3):Prop:=a.2.1<b.2.1 \/ (a.2.1=b.2.1/\a.1<b.1)
structure Canon (l:List T3):Prop where
 sep:Sep l
 srt:l.Pairwise Rm
def ZZ (a b:T3):Prop:=a.1<b.1 \/ (a.1=b.1/\(a.2.1<b.2.1 \/ (a.2.1=b.2.1/\a.2.2<=b.2.2)))
structure OD (pre hs:List T3):Prop where
 pos:∀ h∈hs,h.2.1<h.2.2
 ord:hs.Pairwise λa b=>a.1<b.1 \/ (a.1=b.1/\a.2.2<b.2.1)
 cov:∀ tr t,Fl hs tr t ↔ Fl pre tr t
 lst:∀ ini h,hs=ini++[h]->∃ g∈pre,g.1=h.1/\g.2.1=h.2.1
 mx:∀ h∈hs,∃ g∈pre,g.1=h.1/\h.2.1<=g.2.1
theorem OD.nil:OD [] []:=⟨λ_ h=>absurd h List.not_mem_nil,.nil,λ_ _=>Iff.rfl,λa h e=>by simp at e,λ_ h=>absurd h List.not_mem_nil⟩
theorem OD.push {f i:List T3} {s:T3} (M:OD f i) (q:s.2.1<s.2.2) (k:∀ g∈f,ZZ g s) (m:∀ ini h,i=ini++[h]->¬ (h.1=s.1/\s.2.1<=h.2.2)):OD (f++[s]) (i++[s]):=by
 have l:∀ h∈i,h.1<s.1 \/ (h.1=s.1/\h.2.2<s.2.1):=λh c=>by
  have d:∀ ini z,i=ini++[z]->z.1<s.1 \/ (z.1=s.1/\z.2.2<s.2.1):=λini z e=>by
   obtain⟨g,n,C,B⟩:=M.mx z (by rw[e];simp)
   have u:=k g n
   have y:=m ini z e
   unfold ZZ at u
   by_cases p:z.1=s.1
   ·refine .inr ⟨p,?_⟩
    by_cases A:s.2.1<=z.2.2
    ·exact absurd ⟨p,A⟩ y
    ·omega
   ·omega
  rcases List.eq_nil_or_concat i with e | ⟨ini,z,e⟩
  ·rw[e] at c;cases c
  ·have j:i=ini++[z]:=by rw[e];simp
   have w:=d ini z j
   have E:=M.pos z (by rw[j];simp)
   rw[j] at c
   rcases aI.mp c with c | c
   ·have o:=M.ord
    rw[j,ft] at o
    have:=o.2.2 h c z (am.mpr rfl)
    omega
   ·rw[am.mp c];exact w
 refine⟨λh c=>?_,?_,λD t=>?_,λini h e=>?_,λh c=>?_⟩
 ·rcases aI.mp c with c | c
  ·exact M.pos h c
  ·rw[am.mp c];exact q
 ·rw[ft]
  refine⟨M.ord,List.pairwise_singleton _ _,λa x b v=>?_⟩
  rw[am.mp v]
  exact l a x
 ·rw[Fl.app,Fl.app,M.cov]
 ·have:h=s:=by
   have:=congrArg List.getLast? e
   simp at this
   exact this.symm
  subst this
  exact⟨h,by simp,rfl,rfl⟩
 ·rcases aI.mp c with c | c
  ·obtain⟨g,n,r⟩:=M.mx h c
   exact⟨g,cf _ n,r⟩
  ·rw[am.mp c]
   exact⟨s,by simp,rfl,Int.le_refl _⟩
theorem OD.join {i f:List T3} {h s:T3} (M:OD i (f++[h])) (m:∀ g∈i,ZZ g s) (A:h.1=s.1) (D:s.2.1<=h.2.2):OD (i++[s]) (f++[(s.1,h.2.1,max h.2.2 s.2.2)]):=by
 have G:=M.pos h (by simp)
 obtain⟨g,o,F,q⟩:=M.lst f h rfl
 have u:=m g o
 unfold ZZ at u
 have x:h.2.1<=s.2.1:=by omega
 have n:=M.ord
 rw[ft] at n
 refine⟨λk d=>?_,?_,λz t=>?_,λE k e=>?_,λk d=>?_⟩
 ·rcases aI.mp d with d | d
  ·exact M.pos k (cf _ d)
  ·rw[am.mp d]
   show h.2.1<max h.2.2 s.2.2
   omega
 ·rw[ft]
  refine⟨n.1,List.pairwise_singleton _ _,λa B b v=>?_⟩
  rw[am.mp v]
  have:=n.2.2 a B h (am.mpr rfl)
  show a.1<s.1 \/ (a.1=s.1/\a.2.2<h.2.1)
  omega
 ·rw[Fl.app,Fl.app,<-M.cov,Fl.app,Fl.one,Fl.one,Fl.one]
  show (_ \/ (s.1=z/\h.2.1<=t/\t<max h.2.2 s.2.2)) ↔ _
  rw[A]
  constructor
  ·rintro (c | ⟨j,l,p⟩)
   ·exact .inl (.inl c)
   ·by_cases w:t<h.2.2
    ·exact .inl (.inr ⟨j,l,w⟩)
    ·exact .inr ⟨j,by omega,by omega⟩
  ·rintro ((c | ⟨j,l,p⟩) | ⟨j,l,p⟩)
   ·exact .inl c
   ·exact .inr ⟨j,l,by omega⟩
   ·exact .inr ⟨j,by omega,by omega⟩
 ·have:k=(s.1,h.2.1,max h.2.2 s.2.2):=by
   have:=congrArg List.getLast? e
   simp at this
   exact this.symm
  subst this
  exact⟨g,List.mem_append_left _ o,by show g.1=s.1;omega,q⟩
 ·rcases aI.mp d with d | d
  ·obtain⟨y,C,r⟩:=M.mx k (cf _ d)
   exact⟨y,cf _ C,r⟩
  ·rw[am.mp d]
   exact⟨s,by simp,rfl,x⟩
theorem OD.sep {j p:List T3} (M:OD j p):Sep p:=by
 refine⟨M.pos,?_⟩
 have i:∀ {l:List T3},l.Pairwise (λa b=>a.1<b.1 \/ (a.1=b.1/\a.2.2<b.2.1))->∀ g∈l,∀ h∈l,g.1=h.1->g=h \/ g.2.2<h.2.1 \/ h.2.2<g.2.1:=λ{l}=>by
  induction l with
  | nil=>intro _ g f;cases f
  | cons x l q =>
   intro s g f h n e
   obtain⟨o,r⟩:=fT.mp s
   rcases cm.mp f with m | d
   ·rcases cm.mp n with k | c
    ·exact .inl (m.trans k.symm)
    ·have:=o h c
     rw[<-m] at this
     omega
   ·rcases cm.mp n with k | c
    ·have:=o g d
     rw[<-k] at this
     omega
    ·exact q r g d h c e
 exact i M.ord
theorem Sep.perm {a b:List T3} (s:Sep a) (p:∀ x,x∈b->x∈a):Sep b:=⟨λh c=>s.1 h (p h c),λg d h c e=>s.2 g (p g d) h (p h c) e⟩
theorem Rg {l:List T3} (s:Sep l) (nd:l.Nodup) (d:l.Pairwise λa b=>¬ Rm b a):l.Pairwise Rm:=by
 have g:∀ {l:List T3},Sep l->l.Nodup->l.Pairwise (λa b=>¬ Rm b a)->l.Pairwise Rm:=λ{l}=>by
  induction l with
  | nil=>intro _ _ _;exact .nil
  | cons x l k =>
   intro s nd d
   obtain⟨h,i⟩:=fT.mp d
   obtain⟨m,n⟩:=fk.mp nd
   refine fT.mpr ⟨λy c=>?_,k (s.perm λz j=>ba _ j) n i⟩
   have o:=h y c
   have p:=s.1 x (bt ..)
   have q:=s.1 y (ba _ c)
   unfold Rm at o |-
   by_cases e:x.2.1=y.2.1/\x.1=y.1
   ·rcases s.2 x (bt ..) y (ba _ c) e.2 with f | f | f
    ·exact absurd (f ▸ c) m
    ·omega
    ·omega
   ·omega
 exact g s nd d
end Ro
namespace Ro
structure LH (C:Int->Prop) (tr:Int) (cs:List Int) (bg:Option Int) (out:List T3):Prop where
 mx:∀ h∈out,h.1=tr/\h.2.1<h.2.2/\(∀ t,h.2.1<=t->t<h.2.2->C t)/\¬ C (h.2.1 - 1)/\¬ C h.2.2
 le:∀ h∈out,h.2.2∈cs
 bgn:∀ b,bg=some b->b∈cs/\¬ C (b - 1)/\∀ c,c∈cs->b<=c->∀ t,b<=t->t<=c->C t
 no:bg=none->∀ c,cs.getLast? = some c->¬ C c
 all:∀ t c,c∈cs->t<=c->C t->(∃ h∈out,h.2.1<=t/\t<h.2.2) \/ (∃ b,bg=some b/\b<=t)
 ord:out.Pairwise λa b=>a.2.2<=b.2.1
 obg:∀ b,bg=some b->∀ h∈out,h.2.2<=b
section
variable {C:Int->Prop} {tr c:Int} {cs:List Int} {bg:Option Int} {out:List T3}
structure Nx (C:Int->Prop) (cs:List Int) (c:Int):Prop where
 lt:∀ d∈cs,d<c
 z:cs=[]->∀ t,t<c->¬ C t
 mid:∀ d,cs.getLast? = some d->∀ t,d<=t->t<c->(C t ↔ C d)
 top:∀ d,cs.getLast? = some d->d∈cs/\∀ e∈cs,e<=d
end
end Ro
namespace Ro
open PySem L2 Og
abbrev Dd:=Bw.JP
structure Mw where
 P1:Addr
 pos1:Pos
 q1:Str
def Tb (B:Mw) (H:Hp):Prop:=M_ H B.P1 B.pos1 B.q1
def Kp (B:Mw) (H H':Hp):Prop:=∀ b o,(∀ ps,o ≠ .tbl ps)->H b=some o->H' b=some o
theorem Kp.of {B:Mw} (s:Aj H H'):Kp B H H':=λb o _ e=>s b o e
theorem Kp.refl {B:Mw} (H:Hp):Kp B H H:=λ_ _ _ e=>e
theorem Kp.trans {B:Mw} {d:Hp} (a:Kp B H H1) (b:Kp B H1 d):Kp B H d:=λc o n e=>b c o n (a c o n e)
theorem Tb.same {B:Mw} (t:Tb B H) (s:Aj H H'):Tb B H':=M_.same t s
theorem Dd.kp {B:Mw} {d:List T3} (h:Dd H a d ys) (k:Kp B H H'):Dd H' a d ys :=
 ⟨k _ _ (λ_ z=>by cases z) h.l,Paired.Fg h.p λx v ⟨T,e,q⟩=>⟨T,e,k _ _ (λ_ z=>by cases z) q⟩⟩
theorem Kp.seq {B:Mw} {K:W.Frag} (e:Kp B H H') (h:CV K H a xs):CV K H' a xs:=by
 rcases h with (h | ⟨o,h⟩) | h
 ·exact .inl (.inl (e _ _ (λ_ z=>by cases z) h))
 ·exact .inl (.inr ⟨o,e _ _ (λ_ z=>by cases z) h⟩)
 ·exact .inr h
theorem JL {ts:List T3} (g:Paired (λt y=>TupAt H (Iu t) y) ts vs) {a:List Nat} (b:∀ i∈a,i<vs.length):Paired (λt y=>TupAt H (Iu t) y) (a.map λi=>ts.getD i (0,0,0)) (a.map λi=>vs.getD i .non):=by
 induction a with
 | nil=>exact .nil
 | cons i a d =>
  refine .cons ?_ (d λj f=>b j (ba _ f))
  have c:=b i (bt ..)
  obtain⟨t,h,e⟩:=El g (ae c)
  show TupAt H (Iu (ts.getD i (0,0,0))) (vs.getD i .non)
  rw[aE,aE,h,ae c]
  exact e
theorem IV {α:Type} {ts:List α} {z:α} {b:List Nat} (pm:b.Perm (List.range ts.length)) (x:α):x∈b.map (λi=>ts.getD i z) ↔ x∈ts:=by
 rw[ay]
 constructor
 ·rintro⟨i,a,rfl⟩
  have:=dt.mp (pm.mem_iff.mp a)
  rw[aE,ae this]
  exact zdl this
 ·intro c
  obtain⟨i,a,e⟩:=List.getElem_of_mem c
  exact⟨i,pm.mem_iff.mpr (dt.mpr a),by rw[aE,ae a];exact e⟩
theorem Oj {α:Type} {ts:List α} {z:α} {a:List Nat} (pm:a.Perm (List.range ts.length)) (nd:ts.Nodup):(a.map λi=>ts.getD i z).Nodup:=by
 have e:ts=(List.range ts.length).map λi=>ts.getD i z:=by
  refine ff λi=>?_
  by_cases b:i<ts.length
  ·rw[ar,List.getElem?_range b,ae b]
   show some _=some (ts.getD i z)
   rw[aE,ae b];rfl
  ·rw[List.getElem?_eq_none (by omega),List.getElem?_eq_none (by simp;omega)]
 have c:(a.map λi=>ts.getD i z).Perm ts:=by
  have:=pm.map λi=>ts.getD i z
  rw[<-e] at this
  exact this
 exact c.nodup_iff.mpr nd
theorem Xr {ts:List T3} {a:List Nat} (pw:a.Pairwise (λi j=>Sq.Gi (ts.getD j (0,0,0)) (ts.getD i (0,0,0))=false)):(a.map λi=>ts.getD i (0,0,0)).Pairwise ZZ:=by
 rw[ga]
 refine pw.imp λ{i j} h=>?_
 rw[Sq.KN] at h
 unfold ZZ
 omega
theorem Vv {ts:List T3} {c:List Nat} (pw:c.Pairwise (λi j=>Sq.Fe (V0 (ts.getD j (0,0,0))) (V0 (ts.getD i (0,0,0)))=false)):(c.map λi=>ts.getD i (0,0,0)).Pairwise λa b=>¬ Rm b a:=by
 rw[ga]
 refine pw.imp λ{i j} h=>?_
 rw[Sq.Jx] at h
 unfold Rm
 exact h
theorem canon_of {a:List T3} {b:List Nat} (s:Sep a) (nd:a.Nodup) (pm:b.Perm (List.range a.length)) (pw:b.Pairwise (λi j=>Sq.Fe (V0 (a.getD j (0,0,0))) (V0 (a.getD i (0,0,0)))=false)):Canon (b.map λi=>a.getD i (0,0,0)) :=
 ⟨s.perm λx c=>(IV pm x).mp c,Rg (s.perm λx c=>(IV pm x).mp c) (Oj pm nd) (Vv pw)⟩
theorem OD.nodup {a b:List T3} (M:OD a b):b.Nodup:=by
 have c:=M.pos
 have g:=M.ord
 clear M
 induction b with
 | nil=>exact .nil
 | cons x l d =>
  obtain⟨f,j⟩:=fT.mp g
  refine fk.mpr ⟨λe=>?_,d (λh i=>c h (ba _ i)) j⟩
  have m:=f x e
  have k:=c x (bt ..)
  omega
structure Xu (K:W.Frag) (x qual:Str) (st:Stmt) (f:Addr) (fd:FuncData) (c:Addr):Prop where
 ex:∃ (oc:Value) (od:Option Addr) (kV iX pm:Value) (an:Option Addr) (ct:Value) (oq:Array (Option Value)),
  fd=W.fnOf x qual (Dc st) (CW st) (Ae st) .none kV iX pm an (.ref c) ct/\K.lookup f=some ⟨oc,od,.func fd,oq⟩/\W.codeIn K (.ref c) qual=true
 kp:W.keepIn K (.ref f)=true
theorem Xu.ok {w:World} {K:W.Frag} {c:Addr} {N ps:List Str} {k:Nat} {sp:Sp} (F:Xu K x qual st f fd c) (S:Av N ps (Ae st)) (len:∀ vs H Q E,sp vs H Q E->vs.length=ps.length)
  (b:∀ (A:Around) (a:List Env) (s:Shared) (H:Hp) (vs:List V) (Q:VK) (E:XK),BK k (A.deeper (PyProof.Rows.envOfC qual (Ae st) s.heap.objs.size f (.ref c)))->sp vs H Q E ->
   ∃ t,Nv (LQ BW P w K mg base N qual (Ae st) f (.ref c) A a s H E).ZQ (CW st) t/\t { nx:=λ_ H'=>Q .non H',rt:=Q } (start N vs) H):Ar P w K mg base BW (k+1) f fd ps sp:=by
 obtain⟨l,o,kV,m,pm,p,n,j,rfl,i,g⟩:=F.ex
 refine Ys i g S len λA a s H vs Q E e d=>?_
 obtain⟨t,h,q⟩:=b A a s H vs Q E e d
 exact⟨t,h.ZQ,q⟩
theorem LC {K:W.Frag} {Q:VK} {d:List T3} (p:T3->Bool) (f:T3->V) (A:Dd H1 l d ys) (B:ys.length<sizeLine)
  (F:∀ x∈d,∀ T,H1 T=some (.tup (Iu x))->∀ H,Aj H1 H->∀ R:Bool->Hp->Prop,(∀ H',Aj H H'->R (p x) H')->tt (some (.ref T)::σ) H R)
  (L:∀ x∈d,p x=true->∀ T,H1 T=some (.tup (Iu x))->∀ H,Aj H1 H->∀ R:VK,(∀ H',Aj H H'->R (f x) H')->te (some (.ref T)::σ) H R)
  (C:∀ D H,H1 D=none->Aj H1 H->H D=some (.lst ((d.filter p).map f))->Q (.ref D) H):D_ (WR K l) σ H1 Q tt te:=by
 let m:V->T3:=λv=>match v with | .ref T=>(match H1 T with | some (.tup [.int a,.int b,.int c])=>(a,b,c) | _=>(0,0,0)) | _=>(0,0,0)
 have e:∀ {x:T3} {T:Addr},H1 T=some (.tup (Iu x))->m (.ref T)=x:=λ{x T} h=>by
  show (match H1 T with | some (.tup [.int a,.int b,.int c])=>(a,b,c) | _=>(0,0,0))=x
  rw[h]
 refine Bs (K:=K) (xs:=ys) (λv=>p (m v)) (λv=>f (m v)) (.inl (.inl A.l)) B (λy q H' o R k=>?_) (λy q j H' o R k=>?_) (λD z w o G=>C D z w o ?_)
 ·obtain⟨i,t⟩:=gp q
  obtain⟨x,n,E,s,rfl,g⟩:=A.at t
  rw[e g] at k
  exact F x s n g H' o R k
 ·obtain⟨i,t⟩:=gp q
  obtain⟨x,n,E,s,rfl,g⟩:=A.at t
  rw[e g] at k j
  exact L x s j n g H' o R k
 ·rw[G]
  congr 2
  have r:∀ {d:List T3} {ys:List V},Paired (λx v=>TupAt H1 (Iu x) v) d ys->(ys.filter λv=>p (m v)).map (λv=>f (m v))=(d.filter p).map f:=λ{d ys} J=>by
   induction J with
   | nil=>rfl
   | @cons x v d ys M N u =>
    obtain⟨n,rfl,g⟩:=M
    have I:p (m (.ref n))=p x:=by rw[e g]
    rw[cS,cS,I]
    by_cases j:p x=true
    ·rw[if_pos j,if_pos j,cy,cy,u,e g]
    ·rw[if_neg j,if_neg j,u]
  exact r A.p
theorem Rz {K:W.Frag} {Q:VK} {d:List T3} (p:T3->Bool) (A:Dd H1 l d ys) (B:ys.length<sizeLine)
  (F:∀ x∈d,∀ T,H1 T=some (.tup (Iu x))->∀ H,Aj H1 H->∀ R:Bool->Hp->Prop,(∀ H',Aj H H'->R (p x) H')->tt (some (.ref T)::σ) H R)
  (J:∀ T H,Aj H1 H->∀ R:VK,(∀ H',Aj H H'->R (.ref T) H')->te (some (.ref T)::σ) H R)
  (C:∀ D H zs,H1 D=none->Aj H1 H->Dd H D (d.filter p) zs->Q (.ref D) H):D_ (WR K l) σ H1 Q tt te:=by
 let n:V->T3:=λv=>match v with | .ref T=>(match H1 T with | some (.tup [.int a,.int b,.int c])=>(a,b,c) | _=>(0,0,0)) | _=>(0,0,0)
 have j:∀ {x:T3} {T:Addr},H1 T=some (.tup (Iu x))->n (.ref T)=x:=λ{x T} h=>by
  show (match H1 T with | some (.tup [.int a,.int b,.int c])=>(a,b,c) | _=>(0,0,0))=x
  rw[h]
 refine Bs (K:=K) (xs:=ys) (λv=>p (n v)) (λv=>v) (.inl (.inl A.l)) B (λy o H' f R k=>?_) (λy o m H' f R k=>?_) (λD s z f u=>?_)
 ·obtain⟨i,r⟩:=gp o
  obtain⟨x,e,E,w,rfl,g⟩:=A.at r
  rw[j g] at k
  exact F x w e g H' f R k
 ·obtain⟨i,r⟩:=gp o
  obtain⟨x,e,E,w,rfl,g⟩:=A.at r
  exact J e H' f R k
 ·rw[List.map_id'] at u
  refine C D s _ z f ⟨u,?_⟩
  have q:∀ {d:List T3} {ys:List V},Paired (λx v=>TupAt H1 (Iu x) v) d ys->Paired (λx v=>TupAt s (Iu x) v) (d.filter p) (ys.filter λv=>p (n v)):=λ{d ys} I=>by
   induction I with
   | nil=>exact .nil
   | @cons x v d ys L M t =>
    obtain⟨e,rfl,g⟩:=L
    have G:p (n (.ref e))=p x:=by rw[j g]
    rw[cS,cS,G]
    by_cases m:p x=true
    ·rw[if_pos m,if_pos m]
     exact .cons ⟨e,rfl,f _ _ g⟩ t
    ·rw[if_neg m,if_neg m]
     exact t
  exact q A.p
theorem PK {K:W.Frag} {Q:VK} (ok:T3->Prop) (p:CV K H1 a xs) (d:xs.length<sizeLine)
  (C:∀ x∈xs,∀ H,Aj H1 H->∀ R:Bool->Hp->Prop,(∀ H',Aj H H'->R true H')->tt (some x::σ) H R)
  (I:∀ x∈xs,∀ H,Aj H1 H->∀ R:VK,(∀ T t H',Aj H H'->H' T=some (.tup (Iu t))->ok t->R (.ref T) H')->te (some x::σ) H R)
  (L:∀ D H ts ys,H1 D=none->Aj H1 H->Dd H D ts ys->(∀ t∈ts,ok t)->ts.length=xs.length->Q (.ref D) H):D_ (WR K a) σ H1 Q tt te:=by
 intro D l
 have G:Aj H1 (upd H1 D (.lst [])):=λb o e=>by rw[Aw (An e l)];exact e
 refine⟨λi m ys H=>m=xs.length - i/\i<=xs.length/\Aj H1 H/\∃ ts,Dd H D ts ys/\(∀ t∈ts,ok t)/\ts.length=i,⟨xs.length,by simp,Nat.zero_le _,G,[],⟨Al,.nil⟩,λ_ h=>absurd h List.not_mem_nil,rfl⟩,?_⟩
 rintro i m ys H ⟨rfl,N,c,ts,A,j,v⟩
 by_cases g:i<xs.length
 ·obtain⟨x,n⟩:∃ x,xs[i]? = some x:=⟨xs[i],by simp[g]⟩
  refine .inr ⟨⟨xs,x,c.seq p,n⟩,λy O E=>?_⟩
  obtain⟨rfl,k⟩:=E
  have w:=k xs (c.seq p)
  rw[n] at w
  cases w
  have s:x∈xs:=av n
  have f:ys.length<sizeLine:=by rw[<-A.len];omega
  refine C x s _ c _ λF q=>?_
  rw[if_pos rfl]
  refine I x s F (c.trans q) _ λT t M u J B=>?_
  have r:=A.mono (q.trans u)
  refine⟨r.l,f,xs.length - (i+1),by omega,rfl,g,λb o e=>?_,ts++[t],r.snoc J,λz d=>?_,by rw[ah,v];rfl⟩
  ·rw[Aw (An e l)];exact u _ _ (q _ _ (c _ _ e))
  ·rcases aI.mp d with d | d
   ·exact j z d
   ·rw[am.mp d];exact B
 ·have e:i=xs.length:=by omega
  subst e
  exact .inl ⟨⟨xs,c.seq p,ai _⟩,L D H ts ys l c A j v⟩
inductive Hu (H:Hp) (r:Addr) (len:Int) (hs:List T3):Prop
 | mk (p zs:_):H r=some (.tup [.int len,.ref p])->Dd H p hs zs->Hu H r len hs
inductive cR (H H':Hp) (r:Addr) (len:Int) (hs:List T3):Prop
 | mk (p zs:_):H p=none->H' r=some (.tup [.int len,.ref p])->Dd H' p hs zs->cR H H' r len hs
theorem cR.ro {r:Addr} {len:Int} {a:List T3} (h:cR H H' r len a):Hu H' r len a:=by
 obtain⟨p,b,_,e,A⟩:=h
 exact⟨p,b,e,A⟩
theorem TY (I:Inv X a0 σ H s) (k:A.units<cLine) {b:Addr} {t:T3} (w:H a=some (.tup (Iu t))) (m:H b=some (.tup (Iu t))):SeqAt.EqAt A s (.ref a) (.ref b) true:=by
 by_cases c:a=b
 ·subst c
  exact SeqAt.EqAt.same _
 ·obtain⟨p,g,u,_⟩:=I.tuple (show Er X.K H a (Iu t) from .inl (.inl w))
  obtain⟨n,i,o,_⟩:=I.tuple (show Er X.K H b (Iu t) from .inl (.inl m))
  have r:=g.length
  have l:=i.length
  have h:=SeqAt.RcAt.tuples (A:=A) (e:=λj=>K3 ((Iu t).getD j .non) ((Iu t).getD j .non)) u o k (λj v q=>by
   have d:j<p.length:=by simpa using v
   have f:j<n.length:=by simpa using q
   simp only[List.getElem_toArray]
   exact V9 (Ug g d) (Ug i f) (Qx rfl (by omega)) (Qx rfl (by omega)))
  refine SeqAt.EqAt.of_refs c ?_
  rw[bo,bo,<-r,<-l,Wl,Nr rfl] at h
  exact h
theorem PL (hu:X.A.units+8<cLine):GK X (compareOp .Eq) (λx y H Q=>∃ r1 r2 len hs,x=V.ref r1/\y=V.ref r2/\Hu H r1 len hs/\Hu H r2 len hs/\Q (.bl true) H):=by
 intro a0 s σ H x y v u Q I T D h
 obtain⟨r1,r2,len,hs,rfl,rfl,⟨p,J,C,g⟩,⟨d,yx,E,i⟩,k⟩:=h
 cases T
 cases D
 obtain⟨i1,F,Z,_⟩:=I.tuple (show Er X.K H r1 _ from .inl (.inl C))
 obtain⟨i2,M,PF,_⟩:=I.tuple (show Er X.K H r2 _ from .inl (.inl E))
 obtain⟨a1,b1,rfl,⟨O,rfl⟩,N⟩:=Vals.two F
 obtain⟨a2,b2,rfl,⟨R,rfl⟩,q2⟩:=Vals.two M
 cases N
 cases q2
 have b:SeqAt.EqAt X.A.in1 s (.ref p) (.ref d) true:=by
  by_cases c:p=d
  ·subst c
   exact SeqAt.EqAt.same _
  ·obtain⟨o,r,L,_⟩:=I.list (show CV X.K H p J from .inl (.inl g.l))
   obtain⟨W,w,P,_⟩:=I.list (show CV X.K H d yx from .inl (.inl i.l))
   have n1:=r.length
   have n2:=w.length
   have n3:=g.len
   have n4:=i.len
   have h:=SeqAt.RcAt.lists (A:=X.A.in1) (e:=λ_=>true) L.isList P.isList (by simp;omega) (by show X.A.units+1<cLine;omega) (λj m z=>by
    have a:j<o.length:=by simpa using m
    have l:j<W.length:=by simpa using z
    simp only[List.getElem_toArray]
    have n:j<hs.length:=by omega
    obtain⟨z1,AA,Y⟩:=Og.Cq g.p (ae n)
    obtain⟨z2,f,B⟩:=Og.Cq i.p (ae n)
    obtain⟨T1,rfl,K⟩:=Y
    obtain⟨T2,rfl,U⟩:=B
    obtain⟨u1,t,S⟩:=r.get AA
    obtain⟨u2,q,G⟩:=w.get f
    rw[ae a] at t
    rw[ae l] at q
    cases S
    cases G
    rw[Option.some.inj t,Option.some.inj q]
    exact TY I (by show X.A.units+1+1<cLine;omega) K U)
   refine SeqAt.EqAt.of_refs c ?_
   have e:((List.range o.toArray.size).all λ_=>true)=true:=fb.mpr λ_ _=>rfl
   rw[e] at h
   exact h
 refine SeqAt.eq_tupleAt (e:=λ_=>true) Z PF (by omega) (λj m z=>?_) ⟨.bl true,H,I,?_,k⟩
 ·have a:j<2:=m
  match j,a with
  | 0,_ =>
   have:=SeqAt.EqAt.int_int (A:=X.A.in1) (s:=s) len O len R
   rw[beq_self_eq_true] at this
   exact this
  | 1,_=>exact b
 ·rfl
inductive V4 (B:Mw) (vs:List V) (H:Hp) (Q:VK) (a8:XK):Prop
 | mk (a:Addr) (ts:List T3) (ys:List V):vs=[.ref a]->Dd H a ts ys->ys.length<64->(∀ t∈ts,t.2.1<t.2.2)->Tb B H->(∀ (p:Addr) (hs:List T3) (zs:List V) (H':Hp),H p=none->Kp B H H'->Tb B H'->Dd H' p hs zs->Canon hs->(∀ tr t,Fl hs tr t ↔ Fl ts tr t)->hs.length<=ts.length->Q (.ref p) H')->V4 B vs H Q a8
def Wa (len:Int) (t:T3):Prop:=0<=t.1/\t.1<1200/\0<=t.2.1/\t.2.1<t.2.2/\t.2.2<=len
inductive cO (vs:List V) (H:Hp) (Q:VK) (a8:XK):Prop
 | mk (i:Int):vs=[.int i]->0<=i->i<1200->Q (.bl true) H->cO vs H Q a8
inductive Ze (vs:List V) (H:Hp) (Q:VK) (a8:XK):Prop
 | mk (i:Int):vs=[.int i]->0<=i->i<=1000000000000->Q (.bl true) H->Ze vs H Q a8
inductive cL (vs:List V) (H:Hp) (Q:VK) (a8:XK):Prop
 | mk (T:Addr) (t:T3) (len:Int):vs=[.ref T,.int len]->H T=some (.tup (Iu t))->Wa len t->Q (.bl true) H->cL vs H Q a8
inductive Z1 (vs:List V) (H:Hp) (Q:VK) (a8:XK):Prop
 | mk (a:Addr) (ts:List T3) (ys:List V) (len:Int):vs=[.ref a,.int len]->Dd H a ts ys->ys.length<900->(∀ t∈ts,Wa len t)->(∀ H',Aj H H'->Q (.bl true) H')->Z1 vs H Q a8
inductive aU (B:Mw) (vs:List V) (H:Hp) (Q:VK) (a8:XK):Prop
 | mk (a:Addr) (ts:List T3) (ys:List V) (len:Int):vs=[.int len,.ref a]->len<=1000000000000->Dd H a ts ys->ys.length<64->(∀ t∈ts,t.2.1<t.2.2)->Tb B H->(∀ (r:Addr) (hs:List T3) (H':Hp),Kp B H H'->Tb B H'->cR H H' r len hs->Canon hs->(∀ tr t,Fl hs tr t ↔ Fl ts tr t)->hs.length<=ts.length->Q (.ref r) H')->aU B vs H Q a8
inductive Jv (B:Mw) (vs:List V) (H:Hp) (Q:VK) (a8:XK):Prop
 | mk (a:Addr) (ts:List T3) (ys:List V) (len:Int):vs=[.int len,.ref a]->0<=len->len<=1000000000000->Dd H a ts ys->ys.length<64->(∀ t∈ts,Wa len t)->Tb B H->(∀ (r:Addr) (hs:List T3) (H':Hp),Kp B H H'->Tb B H'->cR H H' r len hs->Canon hs->(∀ tr t,Fl hs tr t ↔ Fl ts tr t)->hs.length<=ts.length->Q (.ref r) H')->Jv B vs H Q a8
theorem R5 {g:List T3} (c:Canon g) {d:Int} {ms:List Int} (pm:ms.Perm ((g.filter λh=>decide (h.2.1<=d) && decide (d<h.2.2)).map (·.1))) (u:ms.Pairwise (· <= ·)):ms.Pairwise (· < ·)/\∀ x,x∈ms ↔ Fl g x d:=by
 have o:∀ x,x∈ms ↔ Fl g x d:=λx=>by
  rw[pm.mem_iff,ay]
  constructor
  ·rintro⟨h,o,rfl⟩
   obtain⟨j,f⟩:=aS.mp o
   simp at f
   exact⟨h,j,rfl,f.1,f.2⟩
  ·rintro⟨h,j,rfl,f,s⟩
   exact⟨h,List.mem_filter.mpr ⟨j,by simp;exact⟨f,s⟩⟩,rfl⟩
 have nd:((g.filter λh=>decide (h.2.1<=d) && decide (d<h.2.2)).map (·.1)).Nodup:=by
  have k:(g.filter λh=>decide (h.2.1<=d) && decide (d<h.2.2)).Pairwise Rm:=c.srt.sublist List.filter_sublist
  have i:∀ x∈(g.filter λh=>decide (h.2.1<=d) && decide (d<h.2.2)),x∈g/\x.2.1<=d/\d<x.2.2:=λx p=>by
   obtain⟨j,f⟩:=aS.mp p
   simp at f
   exact⟨j,f.1,f.2⟩
  generalize (g.filter λh=>decide (h.2.1<=d) && decide (d<h.2.2))=l at k i
  refine ga.mpr (List.Pairwise.imp_of_mem (λ{a b} v r n=>?_) k)
  obtain⟨t,A,z⟩:=i a v
  obtain⟨q,w,y⟩:=i b r
  intro e
  rcases c.sep.2 a t b q e with m | m | m
  ·subst m;unfold Rm at n;omega
  ·omega
  ·omega
 refine⟨?_,o⟩
 have:=List.pairwise_and_iff.mpr ⟨u,pm.nodup_iff.mpr nd⟩
 refine this.imp λ{a b} h=>?_
 have j:=h.1
 have f:a ≠ b:=h.2
 omega
inductive Vl (vs:List V) (H:Hp) (Q:VK) (a8:XK):Prop
 | mk (c:Int):vs=[.int c]->(∀ (n:Int) H',Aj H H'->0<=n->n<=1000000000000->Q (.int n) H')->Vl vs H Q a8
inductive Vs (K:W.Frag) (vs:List V) (H:Hp) (Q:VK) (a8:XK):Prop
 | mk (l:Addr) (ps:List Int) (c len:Int):vs=[.ref l,.int c]->CV K H l (ps.map V.int)->2<=ps.length->ps.length<=16->ps.Pairwise (· < ·)->(∀ x∈ps,0<=x/\x<=len)->(∀ (T:Addr) (t:T3) H',Aj H H'->H' T=some (.tup (Iu t))->Wa len t->t.2.1∈ps->t.2.2∈ps->Q (.ref T) H')->Vs K vs H Q a8
inductive U9 (K:W.Frag) (vs:List V) (H:Hp) (Q:VK) (a8:XK):Prop
 | mk (l:Addr) (cs:List Int) (len c:Int):vs=[.ref l,.int len,.int c]->CV K H l (cs.map V.int)->cs.length<=63->0<=len->len<=1000000000000->(∀ (p:Addr) (ts:List T3) (ys:List V) (Bi:List Int) H',Aj H H'->Dd H' p ts ys->(∀ t∈ts,Wa len t/\t.2.1∈Bi/\t.2.2∈Bi)->Bi.length<=16->ts.length<=cs.length->Q (.ref p) H')->U9 K vs H Q a8
inductive Uv (vs:List V) (H:Hp) (Q:VK) (a8:XK):Prop
 | mk (a:Addr) (ts:List T3) (ys:List V) (a9:Int):vs=[.ref a,.int a9]->Dd H a ts ys->ys.length<64->(∀ (l:Addr) (ms:List Int) (H':Hp),Aj H H'->H' l=some (.lst (ms.map V.int))->ms.Pairwise (· < ·)->(∀ x,x∈ms ↔ Fl ts x a9)->Q (.ref l) H')->Uv vs H Q a8
inductive RX (vs:List V) (H:Hp) (Q:VK) (a8:XK):Prop
 | mk (r a:Addr) (len a9:Int) (hs ts:List T3) (ys:List V):vs=[.ref r,.ref a,.int a9]->Hu H r len hs->Canon hs->hs.length<64->Dd H a ts ys->ys.length<64->(∀ tr t,Fl hs tr t ↔ Fl ts tr t)->(∀ H',Aj H H'->Q (.bl true) H')->RX vs H Q a8
inductive S8 (vs:List V) (H:Hp) (Q:VK) (a8:XK):Prop
 | mk (r p2:Addr) (len:Int) (hs:List T3) (yx:List V):vs=[.ref r,.int len,.ref p2]->Hu H r len hs->Dd H p2 hs yx->(∀ H',Aj H H'->Q (.bl true) H')->S8 vs H Q a8
end Ro
namespace L2
open PySem PySem.Spec PySem.Calls PyProof.Rows
structure Mv (fs:List Addr) (x T:Addr) (h h':Heap):Prop where
 keep:∀ b o,h.get? b=some o->b ≠ x->b ≠ T->b ∉ fs->h'.get? b=some o
 any:∀ b o,h.get? b=some o->b ≠ x->b ≠ T->∃ sl,h'.get? b=some { o with slots:=sl }
section
variable {M:Model} {E:vSP} {env:Env} {outer:List Env} {L x T:Addr} {od:Option Addr} {Q:Unit->Shared->Prop}
end
section
variable {w:World} {fs:List Addr} {h1 h2 h3:Heap} {x T T':Addr}
end
section
variable {t:TA} {np ja:Pos} {E:XK}
end
def Ends.drop (D:Ends) (i:Nat):Ends:={ nx:=λσ H=>D.nx (σ.set i none) H,rt:=D.rt,bk:=λσ H=>D.bk (σ.set i none) H,ct:=λσ H=>D.ct (σ.set i none) H }
section
variable {k:Nat} {O:Addr} {ps:List Str} {sp:Sp} {kn:List V} {ds:List Value} {fx cn n:Str} {p np ja Ki pj:Pos} {t:TA} {b0:Stmt} {F6:List Stmt} {ts:TS}
end
structure g_ (k:Nat) (A:Around):Prop where
 dp:A.depth+3 * k+5<recursionLimit
 un:A.units+16 * k+200<cLine
structure qK (P:Program) (w:World) (K:W.Frag) (mg:Str->Option Value) (base:Heap) (CX:QH) (k:Nat) (f:Addr) (fd:FuncData) (ps:List Str) (sp:Sp):Prop where
 len:∀ vs H Q E,sp vs H Q E->vs.length=ps.length
 run:∀ (A:Around) (outer:List Env) (s:Shared) (H:Hp) (args:Args) (us:List Value) (vs:List V) (Q:VK) (E:XK),g_ k A->NZ P w K mg base A outer s H->BindsTo s fd args (ps.zip us)->Vals vs us->sp vs H Q E ->
  codeAny (model P w) A (.call (.ref f) args) (CR CX outer P w H s Q E) s
abbrev p_ (CX:QH) (P:Program) (w:World) (K:W.Frag) (mg:Str->Option Value) (base:Heap) (N:List Str) (qual:Str) (scope:Scope) (f:Addr) (cd:Value) (A:Around) (outer:List Env) (s:Shared) (H:Hp) (E:XK):Cx :=
 { LQ CX P w K mg base N qual scope f cd A outer s H E with calm:=false }
section
variable {w:World} {K:W.Frag}
end
section
variable {CX:QH} {k:Nat} {ps:List Str} {sp:Sp} {kn:List V} {ds:List Value} {E:XK} {p:Pos} {t:TA}
end
section
variable {st:Expr} {ts:TE} {p2:Pos}
end
end L2
namespace Ro
open PySem L2 Og
inductive W8 (B:Mw) (vs:List V) (H:Hp) (Q:VK) (a8:XK):Prop
 | mk (r:Addr) (len:Int) (hs:List T3):vs=[.ref r]->Hu H r len hs->Canon hs->hs.length<64->0<=len->len<=1000000000000->(∀ t∈hs,Wa len t)->Tb B H->(∀ (H':Hp),Kp B H H'->Tb B H'->Q (.bl true) H')->W8 B vs H Q a8
end Ro
namespace L2
open PySem PySem.Spec PySem.Calls PyProof.Rows
end L2
namespace Ro
open PySem L2 Og
def qX (k:Int) (h:T3):T3:=(h.1,h.2.1 * k,h.2.2 * k)
end Ro
namespace Ro
open PySem L2 Og
end Ro
namespace Ro
open PySem L2 Og
end Ro
namespace L2
open PySem PySem.Spec PyProof.Rows
theorem K_:Ep X (.builtin "sorted") (λxs H Q=>∃ (a:Addr) (ns:List Int),xs=[V.ref a]/\CV X.K H a (ns.map V.int)/\ns.length<64/\∀ (p:Addr) (ms:List Int),H p=none->ms.Perm ns->ms.Pairwise (· <= ·)->Q (.ref p) (upd H p (.lst (ms.map V.int)))):=by
 intro y s σ H xs i Q I r h
 obtain⟨a,ns,rfl,t,x,q⟩:=h
 obtain⟨u,rfl,n⟩:=vals1 r
 cases n
 obtain⟨d,g,m,z⟩:=I.list t
 have v:=YX g
 have b:d.length<64:=by have:=g.length;rw[af] at this;omega
 refine Sx.VD m.isList v b λD A c i ms j l e k pm pw=>?_
 have w:H D=none:=I.hok.fresh j
 have f:(ms.map V.int).length<=sizeLine:=by
  rw[af,pm.length_eq,sizeLine_eq]
  have:=g.length
  rw[af] at this
  omega
 exact⟨.ref D,_,I.laid (t':=s.toks) (o:=.lst (ms.map V.int)) l j ⟨f,i,c,Yv k,e⟩,rfl,q _ ms w pm pw⟩
end L2
namespace Wd
open PySem PyProof.Rows
section
variable {w:World} {E:vSP} {σ:List Int}
end
end Wd
namespace L2
open PySem PySem.Spec PyProof.Rows
end L2
namespace PySem
section
variable {w:World} {E:vSP} {κ:Type} [DecidableEq κ] {knd:KeyKind prog w κ}
end
end PySem
namespace L2
open PySem PySem.Spec PySem.Calls PyProof.Rows
section
variable {o f:Expr} {i9 ja:Pos} {td ty tx:TE}
end
end L2
namespace Ro
open PySem L2 Og
def mq (a b:List T3) (t:Int):Prop:=¬ ∀ tr,Fl a tr t ↔ Fl b tr t
def q_ (a b:List T3) (v:V):Prop:=(v=.non/\∀ T,¬ mq a b T) \/ ∃ T:Int,v=.int T/\mq a b T/\∀ T',T'<T->¬ mq a b T'
def pt (k:Int) (h:T3):Int:=if k=1 then h.2.1 else h.2.2
inductive Oc (vs:List V) (H:Hp) (Q:VK) (a8:XK):Prop
 | mk (c k:Int):vs=[.int c,.int k]->0<=k->k<=300->(∀ r:Int,0<=r->Q (.int r) H)->Oc vs H Q a8
inductive Us (B:Mw) (vs:List V) (H:Hp) (Q:VK) (a8:XK):Prop
 | mk (a:Addr) (ts:List T3) (ys:List V) (len k:Int):vs=[.int len,.ref a,.int k]->Dd H a ts ys->ys.length<200->(∀ t∈ts,Wa len t)->1<=k->k<=2000000000->0<=len->len<=50->Tb B H->(∀ (r:Addr) (hs:List T3) (H':Hp),Kp B H H'->Tb B H'->cR H H' r (len * k) hs->Canon hs->(∀ tr t,Fl hs tr t ↔ Fl (ts.map (qX k)) tr t)->hs.length<=ts.length->Q (.ref r) H')->Us B vs H Q a8
end Ro
namespace Ro
open PySem L2 Og
inductive Vp (vs:List V) (H:Hp) (Q:VK) (a8:XK):Prop
 | mk (r:Addr) (len a9:Int) (hs:List T3):vs=[.ref r,.int a9]->Hu H r len hs->Canon hs->hs.length<64->(∀ (l:Addr) (ms:List Int) (H':Hp),Aj H H'->H' l=some (.lst (ms.map V.int))->ms.Pairwise (· < ·)->(∀ x,x∈ms ↔ Fl hs x a9)->Q (.ref l) H')->Vp vs H Q a8
end Ro
namespace Ro
open PySem L2 Og
end Ro
namespace L2
open PySem
end L2
namespace Ro
open PySem L2 Og
end Ro
namespace Ro
open PySem L2 Og
end Ro
namespace Ro
open PySem L2 Og Bw
end Ro
namespace L2
open PySem PySem.Spec PyProof.Rows
section
variable {o f:Expr} {i9 ja:Pos} {td ty tx:TE}
end
theorem Bq {X:Cx} {x:Str} {e:Expr} {a:TE} {b pos:Pos} (i:Nat) (j:X.N.Nodup) (h:X.N[i]? = some x) (f:Loc X.env.scope x) (c:PE X e a) (d:swapsWith e (some (.Name x b)) pos.line X.env=pure false) (g:X.fn x=true \/ X.env.scope.names.lookup x=some .local) :
  PS X (.Assign [.Name x b] e pos) (aX a (Et i)):=BX j h f c d g
theorem Ay {X:Cx} {e:Expr} {a:List Expr} {b:TE} {t:TA} (h:starEach (e::a) X.env=(false,eval e X.env)::starEach a X.env) (c:PE X e b) (d:PA X a t):PA X (e::a) (Yp b t):=Aa c d h
end L2
namespace Og
open PySem L2 PyProof.Rows
variable {K:W.Frag}
structure Xi (K:W.Frag) (aB aP aM:Addr):Prop where
 f:KF K aB aP aM
 pR:∃ a,W.nsIn K aP "rank" = some (some (.ref a))/\KTup K a (["new","pipes","wind"].map λs:String=>V.str s)
 pL:∃ a,W.nsIn K aP "line" = some (some (.ref a))/\KTup K a (["rank","shift","low","high"].map λs:String=>V.str s)
 bP:∃ a,W.nsIn K aB "pipes" = some (some (.ref a))/\KTup K a [.int 1,.int 97]
 bW:∃ a,W.nsIn K aB "wind" = some (some (.ref a))/\KTup K a [.int 0,.int 1000000000]
 bS:∃ a,W.nsIn K aB "shift" = some (some (.ref a))/\KTup K a [.int (-200),.int 200]
 bLo:∃ a,W.nsIn K aB "low" = some (some (.ref a))/\KTup K a [.int 0,.int 60]
 bHi:∃ a,W.nsIn K aB "high" = some (some (.ref a))/\KTup K a [.int 0,.int 60]
 bR:W.nsIn K aB "rank" = some none
 mR:∃ t,W.nsIn K aM "rank" = some (some (.int 12 t))
 mL:W.nsIn K aM "line" = some none
section
variable {wn:List (Str × Str)}
theorem QW {r:R} (h:Ky K aB aP aM ρ vs r) (a:FJ ρ vs):Ir K aB aP aM ρ vs r:=⟨h.ns,h.parts,.inr h.room,λz=>absurd z h.nl,a⟩
theorem Rf (F:KF K aB aP aM) {wd:Str} (m:wd = "stop" \/ wd = "mute") (e:Gw ρ vs=wn) (l:isNm t) (h:∀ w∈named,Qd wn w t=false) (r:Uo wn wd<J9 wd) {a:Str} (q:isNm a) (p:Qd wn "board" a=true):Ky K aB aP aM ρ vs ⟨wd,t,[.str a]⟩:=by
 have b:∀ (j:Nat) x (y:Str),[V.str t,.str a][j]? = some x->(["new","board"]:List Str)[j]? = some y->Hk K aB ρ vs x y:=λj x y d c=>by
  match j,d,c with
  | 0,d,c =>
   cases (Option.some.inj d)
   cases (Option.some.inj c)
   exact Hw F e l h
  | 1,d,c =>
   cases (Option.some.inj d)
   cases (Option.some.inj c)
   exact Hi F e q p
  | j+2,d,c=>simp at c
 have o:=Hb ρ vs wd
 rw[e] at o
 rcases m with rfl | rfl
 ·obtain⟨f,k,g⟩:=F.pS
  obtain⟨tk,i⟩:=F.mS
  have n:J9 "stop" = 24:=by decide
  refine⟨by show ¬ ("stop" : Str) = "step";decide,by show ¬ ("stop" : Str) = "line";decide,⟨f,["new","board"],k,g,rfl,by decide,b⟩,⟨24,tk,i,?_⟩⟩
  show (((vs.filter (pw ρ "stop")).length:Nat):Int)<24
  omega
 ·obtain⟨f,k,g⟩:=F.pM
  obtain⟨tk,i⟩:=F.mM
  have n:J9 "mute" = 5:=by decide
  refine⟨by show ¬ ("mute" : Str) = "step";decide,by show ¬ ("mute" : Str) = "line";decide,⟨f,["new","board"],k,g,rfl,by decide,b⟩,⟨5,tk,i,?_⟩⟩
  show (((vs.filter (pw ρ "mute")).length:Nat):Int)<5
  omega
theorem R7 (F:Xi K aB aP aM) (e:Gw ρ vs=wn) (i:isNm t) (h:∀ w∈named,Qd wn w t=false) (A:Uo wn "rank" < 12) {wi:Int} (B:1<=n) (v:n<=97) (l:0<=wi) (s:wi<=1000000000) (k:FJ ρ vs):Ir K aB aP aM ρ vs (Gh (t,n,wi)):=by
 obtain⟨g,u,q⟩:=F.pR
 obtain⟨m,d,p⟩:=F.bP
 obtain⟨f,c,o⟩:=F.bW
 obtain⟨tk,r⟩:=F.mR
 refine⟨by show ¬ ("rank" : Str) = "step";decide,⟨g,["new","pipes","wind"],u,q,rfl,by decide,λj x y b a=>?_⟩,.inr ⟨12,tk,r,?_⟩,λz=>absurd z (by show ¬ ("rank" : Str) = "line";decide),k⟩
 ·match j,b,a with
  | 0,b,a =>
   cases (Option.some.inj b)
   cases (Option.some.inj a)
   exact Hw F.f e i h
  | 1,b,a =>
   cases (Option.some.inj b)
   cases (Option.some.inj a)
   exact .inl ⟨((n:Nat):Int),1,97,m,rfl,d,p,by omega,by omega⟩
  | 2,b,a =>
   cases (Option.some.inj b)
   cases (Option.some.inj a)
   exact .inl ⟨_,0,1000000000,f,rfl,c,o,l,s⟩
  | j+3,b,a=>simp at a
 ·rw[Hb,e]
  show ((Uo wn "rank" : Nat):Int)<12
  omega
theorem SN (F:Xi K aB aP aM) (e:Gw ρ vs=wn) (m:isNm t) (h:Qd wn "rank" t=true) {sh lo c:Int} (l : -200<=sh) (d:sh<=200) (z:0<=lo) (f:lo<=60) (B:0<=c) (r:c<=60) (n:FJ ρ vs) (o:Ow ρ vs ⟨"line",t,[.int sh,.int lo,.int c]⟩):Ir K aB aP aM ρ vs ⟨"line",t,[.int sh,.int lo,.int c]⟩:=by
 obtain⟨k,C,u⟩:=F.pL
 obtain⟨w,i,s⟩:=F.bS
 obtain⟨D,v,g⟩:=F.bLo
 obtain⟨A,q,p⟩:=F.bHi
 refine⟨by show ¬ ("line" : Str) = "step";decide,⟨k,["rank","shift","low","high"],C,u,rfl,by decide,λj x y b a=>?_⟩,.inl ⟨rfl,F.mL⟩,λ_=>o,n⟩
 match j,b,a with
 | 0,b,a =>
  cases (Option.some.inj b)
  cases (Option.some.inj a)
  exact .inr (.inr ⟨F.bR,by decide,_,rfl,m,by rw[JF,e];exact h⟩)
 | 1,b,a =>
  cases (Option.some.inj b)
  cases (Option.some.inj a)
  exact .inl ⟨_,-200,200,w,rfl,i,s,l,d⟩
 | 2,b,a =>
  cases (Option.some.inj b)
  cases (Option.some.inj a)
  exact .inl ⟨_,0,60,D,rfl,v,g,z,f⟩
 | 3,b,a =>
  cases (Option.some.inj b)
  cases (Option.some.inj a)
  exact .inl ⟨_,0,60,A,rfl,q,p,B,r⟩
 | j+4,b,a=>simp at a
end
structure qm (K:W.Frag) (aB aP aM:Addr) (ρ:V->R) (us:List V) (bs:List (Str × Nat)) (rk:List (Str × Nat × Int)) (ks:List R):Prop where
 kinds:∀ v∈us,(ρ v).w = "board" \/ (ρ v).w = "rank" \/ (ρ v).w = "line" \/ (ρ v).w = "stop" \/ (ρ v).w = "coupler" \/ (ρ v).w = "mute"
 eb:(us.filter (pw ρ "board")).map ρ=bs.map Gb
 er:(us.filter (pw ρ "rank")).map ρ=rk.map Gh
 ek:(us.filter (λv=>HR (ρ v).w)).map ρ=ks
 ln:∀ (i:Nat) v,us[i]? = some v->(ρ v).w = "line"->(∃ (j:Nat) (r:Str × Nat × Int) (sh lo hi:Int),rk[j]? = some r/\r.1=(ρ v).nm/\(ρ v).rest=[.int sh,.int lo,.int hi])/\∃ u∈us.take i,HR (ρ u).w=true
 ok:∀ (i:Nat) v,us[i]? = some v->Ir K aB aP aM ρ (us.take i) (ρ v)
section
variable {us:List V} {v:V} {bs zL:List (Str × Nat)} {uj:List (Str × Nat × Int)} {Au:List R}
theorem Ja {w:Str}:WX ρ us w t=true ↔ ∃ v∈us,(ρ v).w=w/\(ρ v).nm=t:=by
 unfold WX
 rw[fS]
 constructor
 ·rintro⟨v,c,d⟩
  obtain⟨a,b⟩:=aS.mp c
  exact⟨v,a,V.str.inj (of_decide_eq_true b),V.str.inj (of_decide_eq_true d)⟩
 ·rintro⟨v,c,a,b⟩
  exact⟨v,aS.mpr ⟨c,decide_eq_true (congrArg V.str a)⟩,decide_eq_true (congrArg V.str b)⟩
theorem Jg {w:Str} (h:w = "stop" \/ w = "coupler" \/ w = "mute"):HR w=true:=by rcases h with rfl | rfl | rfl <;> decide
theorem J1 {p:V->Bool} (h:p v=true):(us++[v]).filter p=us.filter p++[v]:=by
 rw[fo,cS,if_pos h]
 rfl
theorem Di {p:V->Bool} (h:p v=false):(us++[v]).filter p=us.filter p:=by
 rw[fo,cS,if_neg (by rw[h];decide)]
 simp
end
structure qz (K:W.Frag) (aB aP aM:Addr) (a5:List R) (bs:List (Str × Nat)) (rk:List (Str × Nat × Int)) (ks:List R) (ls:List (List Ln)):Prop where
 ok:∀ (ρ:V->R) (us:List V),us.map ρ=a5->qm K aB aP aM ρ us bs rk ks
 ln0:ks=[]->∀ uj,linesOf uj a5=[]
 ln:linesOf rk a5=ls
section
variable {a5:List R} {bs:List (Str × Nat)}
theorem IK {us:List V} {r:R} (e:us.map ρ=a5++[r]):∃ kX v,us=kX++[v]/\kX.map ρ=a5/\ρ v=r:=by
 obtain⟨a,b,rfl,f,c⟩:=List.map_eq_append_iff.mp e
 obtain⟨v,l,rfl,d,g⟩:=List.map_eq_cons_iff.mp c
 rw[List.map_eq_nil_iff.mp g]
 exact⟨a,v,rfl,f,d⟩
inductive Tl (a5:List R) (bd:Str) (cnt:Nat):Prop
 | mk (r0:List R) (st:R) (lr:List R):a5=r0++st::lr->st.w = "stop"->st.rest=[.str bd]->lr.length=cnt->(∀ r∈lr,r.w = "line")->Tl a5 bd cnt
theorem Tl.stop (a:List R) (t b:Str):Tl (a++[⟨"stop",t,[.str b]⟩]) b 0:=⟨a,_,[],rfl,rfl,rfl,rfl,λ_ h=>nomatch h⟩
theorem Tl.line {a:Str} {cnt:Nat} {r:R} (h:Tl a5 a cnt) (i:r.w = "line"):Tl (a5++[r]) a (cnt+1):=by
 obtain⟨e,st,b,rfl,f,c,k,j⟩:=h
 refine⟨e,st,b++[r],by simp,f,c,by simp[k],λx d=>?_⟩
 rcases aI.mp d with g | g
 ·exact j x g
 ·rw[am.mp g]
  exact i
end
variable {K:W.Frag}
structure Hh (K:W.Frag) (aB aP aM:Addr) (ρ:V->R) (us:List V) (bs:List (Str × Nat)) (rk:List (Str × Nat × Int)) (ks:List R):Prop where
 eb:(us.filter (pw ρ "board")).map ρ=bs.map Gb
 er:(us.filter (pw ρ "rank")).map ρ=rk.map Gh
 ek:(us.filter (λv=>HR (ρ v).w)).map ρ=ks
 ln:∀ (i:Nat) v,us[i]? = some v->(ρ v).w = "line"->(∃ (j:Nat) (r:Str × Nat × Int) (sh lo hi:Int),rk[j]? = some r/\r.1=(ρ v).nm/\(ρ v).rest=[.int sh,.int lo,.int hi])/\∃ u∈us.take i,HR (ρ u).w=true
 ok:∀ (i:Nat) v,us[i]? = some v->Gz K aB aP aM ρ (us.take i) (ρ v)
section
variable {us:List V} {v:V} {bs zL:List (Str × Nat)} {uj:List (Str × Nat × Int)} {Au:List R}
theorem Hh.nil:Hh K aB aP aM ρ [] [] [] []:=⟨rfl,rfl,rfl,(λi v h=>by simp at h),(λi v h=>by simp at h)⟩
theorem Hh.YK (h:Hh K aB aP aM ρ us bs rk ks) (c:v∈us) (a:(ρ v).w = "board"):∃ b∈bs,Gb b=ρ v:=by
 have:ρ v∈(us.filter (pw ρ "board")).map ρ:=ci (aS.mpr ⟨c,decide_eq_true (congrArg V.str a)⟩)
 rw[h.eb] at this
 exact ay.mp this
theorem Hh.dH (h:Hh K aB aP aM ρ us bs rk ks) (c:v∈us) (a:(ρ v).w = "rank"):∃ b∈rk,Gh b=ρ v:=by
 have:ρ v∈(us.filter (pw ρ "rank")).map ρ:=ci (aS.mpr ⟨c,decide_eq_true (congrArg V.str a)⟩)
 rw[h.er] at this
 exact ay.mp this
theorem Hh.U3 (h:Hh K aB aP aM ρ us bs rk ks) (b:v∈us) (a:HR (ρ v).w=true):ρ v∈ks:=by
 have:ρ v∈(us.filter (λv=>HR (ρ v).w)).map ρ:=ci (aS.mpr ⟨b,a⟩)
 rw[h.ek] at this
 exact this
theorem Hh.cg (h:Hh K aB aP aM ρ us bs rk ks):FJ ρ us:=λv c a=>by
 obtain⟨b,_,e⟩:=h.YK c a
 exact⟨_,by rw[<-e]⟩
theorem Hh.Y_ (h:Hh K aB aP aM ρ us bs rk ks) {b:Str × Nat} (a:b∈bs):∃ v∈us,ρ v=Gb b:=by
 have:Gb b∈(us.filter (pw ρ "board")).map ρ:=by rw[h.eb];exact ci a
 obtain⟨v,c,e⟩:=ay.mp this
 exact⟨v,(aS.mp c).1,e⟩
theorem Hh.gU (h:Hh K aB aP aM ρ us bs rk ks) {r:Str × Nat × Int} (a:r∈rk):∃ v∈us,ρ v=Gh r:=by
 have:Gh r∈(us.filter (pw ρ "rank")).map ρ:=by rw[h.er];exact ci a
 obtain⟨v,b,e⟩:=ay.mp this
 exact⟨v,(aS.mp b).1,e⟩
theorem Hh.Oq (h:Hh K aB aP aM ρ us bs rk ks) {b:Str × Nat} (a:b∈bs):Qd (Gw ρ us) "board" b.1=true:=by
 obtain⟨v,c,e⟩:=h.Y_ a
 rw[<-JF,Ja]
 exact⟨v,c,by rw[e],by rw[e]⟩
theorem Hh.bC (h:Hh K aB aP aM ρ us bs rk ks) {r:Str × Nat × Int} (a:r∈rk):Qd (Gw ρ us) "rank" r.1=true:=by
 obtain⟨v,b,e⟩:=h.gU a
 rw[<-JF,Ja]
 exact⟨v,b,by rw[e],by rw[e]⟩
theorem Hh.fresh (h:Hh K aB aP aM ρ us bs rk ks) (l:∀ b∈bs,b.1 ≠ t) (j:∀ r∈rk,r.1 ≠ t) (g:∀ k∈ks,k.nm ≠ t):∀ w∈named,Qd (Gw ρ us) w t=false:=by
 intro w i
 rw[<-JF,<-fv,Ja]
 rintro⟨v,d,f,c⟩
 simp only[List.mem_cons,List.mem_singleton,List.not_mem_nil,or_false] at i
 rcases i with rfl | rfl | rfl | rfl | rfl
 ·obtain⟨b,a,e⟩:=h.YK d f
  exact l b a (by rw[<-c,<-e])
 ·obtain⟨b,a,e⟩:=h.dH d f
  exact j b a (by rw[<-c,<-e])
 ·exact g _ (h.U3 d (Jg (.inl f))) c
 ·exact g _ (h.U3 d (Jg (.inr (.inl f)))) c
 ·exact g _ (h.U3 d (Jg (.inr (.inr f)))) c
theorem Hh.iH (h:Hh K aB aP aM ρ us bs rk ks):Uo (Gw ρ us) "board" = bs.length:=by
 rw[<-Hb,<-af (f:=ρ),h.eb,af]
theorem Hh.d9 (h:Hh K aB aP aM ρ us bs rk ks):Uo (Gw ρ us) "rank" = rk.length:=by
 rw[<-Hb,<-af (f:=ρ),h.er,af]
theorem Hh.YL (h:Hh K aB aP aM ρ us bs rk ks) {w:Str} (a:w = "stop" \/ w = "coupler" \/ w = "mute"):Uo (Gw ρ us) w=(ks.filter λr=>decide (V.str r.w=V.str w)).length:=by
 rw[<-Hb,<-h.ek,eT,af,List.filter_filter]
 refine congrArg List.length (List.filter_congr λv _=>?_)
 show pw ρ w v=(pw ρ w v && HR (ρ v).w)
 by_cases e:(ρ v).w=w
 ·rw[Jg (by rw[e];exact a),Bool.and_true]
 ·have:pw ρ w v=false:=decide_eq_false λz=>e (V.str.inj z)
  rw[this,gs]
theorem Hh.snoc (h:Hh K aB aP aM ρ us bs rk ks)
  (n:((us++[v]).filter (pw ρ "board")).map ρ=zL.map Gb) (s:((us++[v]).filter (pw ρ "rank")).map ρ=uj.map Gh) (t:((us++[v]).filter (λv=>HR (ρ v).w)).map ρ=Au)
  (p:∀ (j:Nat) r,rk[j]? = some r->uj[j]? = some r)
  (m:(ρ v).w = "line"->(∃ (j:Nat) (r:Str × Nat × Int) (sh lo a:Int),uj[j]? = some r/\r.1=(ρ v).nm/\(ρ v).rest=[.int sh,.int lo,.int a])/\∃ u∈us,HR (ρ u).w=true)
  (ok:Gz K aB aP aM ρ us (ρ v)):Hh K aB aP aM ρ (us++[v]) zL uj Au:=by
 have d:∀ {i:Nat} {u:V},(us++[v])[i]? = some u->us[i]? = some u/\(us++[v]).take i=us.take i \/ u=v/\(us++[v]).take i=us:=λ{i u} a=>by
  by_cases c:i<us.length
  ·rw[dL c] at a
   exact .inl ⟨a,dv (eI c)⟩
  ·have b:=(ag.mp a).1
   rw[ah,bq] at b
   have e:i=us.length:=by omega
   subst e
   rw[de (ai _),iq] at a
   exact .inr ⟨(Option.some.inj a).symm,by rw[dv (ai _),eD]⟩
 refine⟨n,s,t,λi u a k=>?_,λi u a=>?_⟩
 ·rcases d a with⟨g,b⟩ | ⟨rfl,b⟩
  ·rw[b]
   obtain⟨⟨j,r,sh,lo,f,w,q,l⟩,o⟩:=h.ln i u g k
   exact⟨⟨j,r,sh,lo,f,p j r w,q,l⟩,o⟩
  ·rw[b]
   exact m k
 ·rcases d a with⟨g,b⟩ | ⟨rfl,b⟩
  ·rw[b]
   exact h.ok i u g
  ·rw[b]
   exact ok
end
theorem Pr {x:Str × Nat × Int}:∀ {a5:List R},(∀ r∈a5,r.w = "line"->r.nm∈rk.map (·.1))->linesOf (rk++[x]) a5=linesOf rk a5:=by
 have d:∀ (a5:List R),(∀ r∈a5,r.w = "line"->r.nm∈rk.map (·.1))->∀ a,a5.foldl (Cy (rk++[x])) a=a5.foldl (Cy rk) a:=by
  intro a5
  induction a5 with
  | nil=>intro _ _;rfl
  | cons r f i =>
   intro h a
   have e:Cy (rk++[x]) a r=Cy rk a r:=by
    unfold Cy
    by_cases c:HR r.w=true
    ·rw[if_pos c,if_pos c]
    ·rw[if_neg c,if_neg c]
     by_cases b:r.w = "line"
     ·rw[if_pos b,if_pos b]
      have g:=h r (bt ..) b
      have:lnOf (rk++[x]) r=lnOf rk r:=by
       unfold lnOf
       rw[db,List.idxOf_append,if_pos g]
      rw[this]
     ·rw[if_neg b,if_neg b]
   show f.foldl _ (Cy (rk++[x]) a r)=f.foldl _ (Cy rk a r)
   rw[e]
   exact i (λr j=>h r (ba _ j)) _
 exact λ{a5} h=>d a5 h []
theorem V5 {k r:R} (h:∀ t∈La r,t∈ks.map (·.nm)):stN (ks++[k]) r=stN ks r:=by
 unfold stN
 refine congrArg Wd.mk (ij λt a=>?_)
 rw[db,List.idxOf_append,if_pos (h t a)]
abbrev Xn (r:R):Bool:=decide (V.str r.w=V.str "step")
def qO (w:Str):Prop:=w = "board" \/ w = "rank" \/ w = "stop" \/ w = "coupler" \/ w = "mute" \/ w = "line" \/ w = "step"
structure Ih (K:W.Frag) (aB aP aM:Addr) (a5:List R) (bs:List (Str × Nat)) (rk:List (Str × Nat × Int)) (ks:List R) (ls:List (List Ln)) (d0:List Nat):Prop where
 ok:∀ (ρ:V->R) (us:List V),us.map ρ=a5->Hh K aB aP aM ρ us bs rk ks
 ln:linesOf rk a5=ls
 st:(a5.filter Xn).map (stN ks)=d0
 lm:∀ r∈a5,r.w = "line"->r.nm∈rk.map (·.1)
 sm:∀ r∈a5,r.w = "step"->∃ ts:List Str,V.str r.nm::r.rest=ts.map V.str/\ts.length<=24/\∀ t∈ts,t∈ks.map (·.nm)
 wd:∀ r∈a5,qO r.w
 pk:∀ r∈a5,(∀ i:Int,V.int i∈r.rest->i.natAbs<10 ^ 12)/\r.rest.length<=24
section
variable {a5:List R} {bs:List (Str × Nat)} {d0:List Nat}
theorem Ih.nil:Ih K aB aP aM [] [] [] [] [] []:=⟨λρ a e=>by rw[List.map_eq_nil_iff.mp e];exact Hh.nil,rfl,rfl,(λ_ z=>nomatch z),(λ_ z=>nomatch z),(λ_ z=>nomatch z),(λ_ z=>nomatch z)⟩
theorem Qi {r:R} (h:r.w ≠ "step"):(a5++[r]).filter Xn=a5.filter Xn:=by
 rw[fo,cS,if_neg (by intro z;exact h (V.str.inj (of_decide_eq_true z)))]
 simp
theorem GF {r:R} {Q:R->Prop} (h:∀ r∈a5,Q r) (a:Q r):∀ x∈a5++[r],Q x:=λx b=>by
 rcases aI.mp b with z | z
 ·exact h x z
 ·rw[am.mp z]
  exact a
theorem Ih.J8 (F:Xi K aB aP aM) (h:Ih K aB aP aM a5 bs rk ks ls d0) (d:isNm t) (m:∀ b∈bs,b.1 ≠ t) (l:∀ r∈rk,r.1 ≠ t) (q:∀ k∈ks,k.nm ≠ t) (f:bs.length<5) (o:1<=n) (c:n<=61):Ih K aB aP aM (a5++[Gb (t,n)]) (bs++[(t,n)]) rk ks ls d0:=by
 refine⟨λρ s e=>?_,?_,?_,GF h.lm (λz=>absurd z (by show ¬ ("board" : Str) = "line";decide)),GF h.sm (λz=>absurd z (by show ¬ ("board" : Str) = "step";decide)),GF h.wd (.inl rfl),GF h.pk ⟨(λi p=>by simp only[Gb,List.mem_cons,List.not_mem_nil,or_false,V.int.injEq,reduceCtorEq,false_or] at p;omega),by show 1<=24;decide⟩⟩
 ·obtain⟨j,v,rfl,g,a⟩:=IK e
  have O:=h.ok ρ j g
  refine O.snoc ?_ ?_ ?_ (λ_ _ h=>h) (λz=>absurd (a ▸ z) (by show ¬ ("board" : Str) = "line";decide)) ?_
  ·rw[J1 (by unfold pw;rw[a];exact decide_eq_true rfl),List.map_append,O.eb,List.map_append,List.map_singleton,a]
   rfl
  ·rw[Di (by unfold pw;rw[a];show decide (V.str "board" = V.str "rank")=false;decide),O.er]
  ·rw[Di (by rw[a];show HR "board" = false;decide),O.ek]
  ·rw[a]
   exact .inl (QW (Q8 F.f rfl d (O.fresh m l q) (by rw[O.iH];exact f) o c) O.cg)
 ·rw[CP,h.ln]
  rfl
 ·rw[Qi (by show ¬ ("board" : Str) = "step";decide)]
  exact h.st
theorem Ih.rank (F:Xi K aB aP aM) (h:Ih K aB aP aM a5 bs rk ks ls d0) {wi:Int} (g:isNm t) (q:∀ b∈bs,b.1 ≠ t) (d:∀ r∈rk,r.1 ≠ t) (x:∀ k∈ks,k.nm ≠ t) (l:rk.length<12) (s:1<=n) (f:n<=97) (o:0<=wi) (w:wi<=1000000000):Ih K aB aP aM (a5++[Gh (t,n,wi)]) bs (rk++[(t,n,wi)]) ks ls d0:=by
 have c:∀ r∈a5,r.w = "line"->r.nm∈(rk++[(t,n,wi)]).map (·.1):=λr d z=>by
  rw[db]
  exact cf _ (h.lm r d z)
 refine⟨λρ y e=>?_,?_,?_,GF c (λz=>absurd z (by show ¬ ("rank" : Str) = "line";decide)),GF h.sm (λz=>absurd z (by show ¬ ("rank" : Str) = "step";decide)),GF h.wd (.inr (.inl rfl)),GF h.pk ⟨(λi u=>by simp only[Gh,List.mem_cons,List.not_mem_nil,or_false,V.int.injEq,reduceCtorEq,false_or] at u;omega),by show 2<=24;decide⟩⟩
 ·obtain⟨p,v,rfl,m,a⟩:=IK e
  have O:=h.ok ρ p m
  refine O.snoc ?_ ?_ ?_ (λj r h=>by rw[List.getElem?_append_left (List.getElem?_eq_some_iff.mp h).1];exact h) (λz=>absurd (a ▸ z) (by show ¬ ("rank" : Str) = "line";decide)) ?_
  ·rw[Di (by unfold pw;rw[a];show decide (V.str "rank" = V.str "board")=false;decide),O.eb]
  ·rw[J1 (by unfold pw;rw[a];exact decide_eq_true rfl),List.map_append,O.er,List.map_append,List.map_singleton,a]
   rfl
  ·rw[Di (by rw[a];show HR "rank" = false;decide),O.ek]
  ·rw[a]
   exact .inl (R7 F rfl g (O.fresh q d x) (by rw[O.d9];exact l) s f o w O.cg)
 ·rw[CP,Pr h.lm,h.ln]
  rfl
 ·rw[Qi (by show ¬ ("rank" : Str) = "step";decide)]
  exact h.st
theorem Ih.Yj (h:Ih K aB aP aM a5 bs rk ks ls d0) {r:R} (a:r.w = "stop" \/ r.w = "coupler" \/ r.w = "mute") (u:(∀ i:Int,V.int i∈r.rest->i.natAbs<10 ^ 12)/\r.rest.length<=24) (q:∀ (ρ:V->R) (us:List V),us.map ρ=a5->Ky K aB aP aM ρ us r):Ih K aB aP aM (a5++[r]) bs rk (ks++[r]) (ls++[[]]) d0:=by
 have p:=Jg a
 have l:∀ c∈a5,c.w = "step"->∃ d:List Str,V.str c.nm::c.rest=d.map V.str/\d.length<=24/\∀ t∈d,t∈(ks++[r]).map (·.nm):=λc b z=>by
  obtain⟨d,m,k,j⟩:=h.sm c b z
  exact⟨d,m,k,λt g=>by rw[db];exact cf _ (j t g)⟩
 refine⟨λρ us e=>?_,?_,?_,GF h.lm (λz=>?_),GF l (λz=>?_),GF h.wd (a.elim (λz=>.inr (.inr (.inl z))) (λz=>z.elim (λz=>.inr (.inr (.inr (.inl z)))) (λz=>.inr (.inr (.inr (.inr (.inl z))))))),GF h.pk u⟩
 ·obtain⟨o,v,rfl,n,f⟩:=IK e
  have O:=h.ok ρ o n
  refine O.snoc ?_ ?_ ?_ (λ_ _ h=>h) (λz=>?_) ?_
  ·rw[Di (by unfold pw;rw[f];rcases a with e | e | e <;> rw[e] <;> decide),O.eb]
  ·rw[Di (by unfold pw;rw[f];rcases a with e | e | e <;> rw[e] <;> decide),O.er]
  ·rw[J1 (by rw[f];exact p),db,O.ek,List.map_singleton,f]
  ·rw[f] at z
   rcases a with e | e | e <;> rw[e] at z <;> exact absurd z (by decide)
  ·rw[f]
   exact .inl (QW (q ρ o n) O.cg)
 ·rw[CP,h.ln]
  unfold Cy
  rw[if_pos p]
 ·rw[Qi (by rcases a with e | e | e <;> rw[e] <;> decide),<-h.st]
  refine ij λc b=>V5 λt g=>?_
  obtain⟨m,k⟩:=aS.mp b
  obtain⟨d,j,_,s⟩:=h.sm c m (V.str.inj (of_decide_eq_true k))
  rw[Ij j] at g
  exact s t g
 ·rcases a with e | e | e <;> rw[e] at z <;> exact absurd z (by decide)
 ·rcases a with e | e | e <;> rw[e] at z <;> exact absurd z (by decide)
theorem Ih.Xl (F:Xi K aB aP aM) (h:Ih K aB aP aM a5 bs rk ks ls d0) {a b:Str} {m:Nat} {s:Int} (g:isNm t) (j:∀ b∈bs,b.1 ≠ t) (p:∀ r∈rk,r.1 ≠ t) (x:∀ k∈ks,k.nm ≠ t) (l:(ks.filter λr=>decide (V.str r.w=V.str "coupler")).length<12) (v:isNm a) (q:(a,n)∈bs) (d:isNm b) (c:(b,m)∈bs) (u : -60<=s) (f:s<=60) :
  Ih K aB aP aM (a5++[⟨"coupler",t,[.str a,.str b,.int s]⟩]) bs rk (ks++[⟨"coupler",t,[.str a,.str b,.int s]⟩]) (ls++[[]]) d0 :=
 h.Yj (.inr (.inl rfl)) ⟨(λi w=>by simp only[List.mem_cons,List.not_mem_nil,or_false,V.int.injEq,reduceCtorEq,false_or] at w;omega),by show 3<=24;decide⟩ λρ o e=>by
  have O:=h.ok ρ o e
  exact Mh F.f rfl g (O.fresh j p x) (by rw[O.YL (.inr (.inl rfl))];exact l) v (O.Oq q) d (O.Oq c) u f
theorem Ih.plain (F:Xi K aB aP aM) (h:Ih K aB aP aM a5 bs rk ks ls d0) {wd a:Str} (d:wd = "stop" \/ wd = "mute") (f:isNm t) (g:∀ b∈bs,b.1 ≠ t) (m:∀ r∈rk,r.1 ≠ t) (s:∀ k∈ks,k.nm ≠ t) (l:(ks.filter λr=>decide (V.str r.w=V.str wd)).length<J9 wd) (p:isNm a) (o:(a,n)∈bs) :
  Ih K aB aP aM (a5++[⟨wd,t,[.str a]⟩]) bs rk (ks++[⟨wd,t,[.str a]⟩]) (ls++[[]]) d0:=by
 have c:wd = "stop" \/ wd = "coupler" \/ wd = "mute":=by rcases d with e | e;exact .inl e;exact .inr (.inr e)
 exact h.Yj c ⟨(λi q=>by rcases List.mem_cons.mp q with e | e <;> cases e),by show 1<=24;decide⟩ λρ j e=>by
  have O:=h.ok ρ j e
  exact Rf F.f d rfl f (O.fresh g m s) (by rw[O.YL c];exact l) p (O.Oq o)
theorem Ih.line (F:Xi K aB aP aM) {s:List Ln} (h:Ih K aB aP aM a5 bs rk ks (ls++[s]) d0) {o:Str} {cnt:Nat} (T:Tl a5 o cnt) (L:cnt<4) {n m:Nat} {wi sh lo a:Int} (d:rk[j]? = some (t,m,wi)) (r:(rk.map (·.1)).Nodup) (Z:isNm t) (M:(o,n)∈bs) (q:lo<=a) (U:a<(n:Int)) (b1 : -200<=sh) (X:sh<=200) (S:0<=lo) (P:a<=60) :
  Ih K aB aP aM (a5++[⟨"line",t,[.int sh,.int lo,.int a]⟩]) bs rk ks (ls++[s++[⟨j,sh,lo,a⟩]]) d0:=by
 obtain⟨r0,st,lr,er,B,Q,J,g4⟩:=T
 have G:HR "line" = false:=by decide
 refine⟨λρ us e=>?_,?_,?_,GF h.lm (λ_=>List.mem_map.mpr ⟨_,List.mem_of_getElem? d,rfl⟩),GF h.sm (λz=>absurd z (by show ¬ ("line" : Str) = "step";decide)),GF h.wd (.inr (.inr (.inr (.inr (.inr (.inl rfl)))))),GF h.pk ⟨(λi a=>by simp only[List.mem_cons,List.not_mem_nil,or_false,V.int.injEq,reduceCtorEq,false_or] at a;omega),by show 3<=24;decide⟩⟩
 ·obtain⟨b,v,rfl,H,c⟩:=IK e
  have O:=h.ok ρ b H
  obtain⟨A,u1,l,m1,N⟩:=List.map_eq_append_iff.mp (H.trans er)
  obtain⟨g,y,R,p,E⟩:=List.map_eq_cons_iff.mp N
  subst R
  have x:g∈b:=by rw[l];simp
  have C:y.length=cnt:=by rw[<-J,<-E,af]
  have W:b.length=A.length+(cnt+1):=by rw[l,ah,cK,C]
  refine O.snoc ?_ ?_ ?_ (λ_ _ h=>h) (λ_=>⟨⟨j,_,sh,lo,a,d,by rw[c],by rw[c]⟩,g,x,by rw[p,B];decide⟩) ?_
  ·rw[Di (by unfold pw;rw[c];show decide (V.str "line" = V.str "board")=false;decide),O.eb]
  ·rw[Di (by unfold pw;rw[c];show decide (V.str "line" = V.str "rank")=false;decide),O.er]
  ·rw[Di (by rw[c];exact G),O.ek]
  ·rw[c]
   have k:b[b.length - 1 - cnt]? = some g:=by
    have:b.length - 1 - cnt=A.length:=by omega
    rw[this,l,de (ai _),iq]
    rfl
   refine .inl ?_
   refine SN F rfl Z (O.bC (av d)) b1 X S (by omega) (by omega) P O.cg ⟨cnt,g,sh,lo,a,o,[],rfl,⟨λi ab=>?_,by omega,g,k,by rw[p,B];decide⟩,L,k,by rw[p,B],by rw[p,Q],q,?_⟩
   ·have f:cnt - 1 - i<y.length:=by omega
    refine⟨y[cnt - 1 - i],?_,?_⟩
    ·have:b.length - 1 - i=A.length+((cnt - 1 - i)+1):=by omega
     rw[this,l,de (iL _ _),Nat.add_sub_cancel_left,List.getElem?_cons_succ]
     exact ae f
    ·refine g4 _ ?_
     rw[<-E]
     exact ci (zdl f)
   ·obtain⟨u,I,D⟩:=O.Y_ M
    rw[fS]
    refine⟨u,aS.mpr ⟨I,?_⟩,?_⟩
    ·unfold pw
     rw[D]
     exact decide_eq_true rfl
    ·show (pn ρ o u && decide (a<bf (ρ u)))=true
     unfold pn
     rw[D,dS]
     exact⟨decide_eq_true rfl,decide_eq_true U⟩
 ·rw[CP,h.ln]
  unfold Cy
  rw[if_neg (by show ¬ HR "line" = true;rw[G];decide),if_pos rfl,HJ]
  have w:=(ag.mp d).1
  have:(rk.map (·.1)).idxOf t=j:=by
   have hl:j<(rk.map (·.1)).length:=by rw[af];exact w
   have Y:(rk.map (·.1))[j]=t:=by
    rw[iN]
    have:=(ag.mp d).2
    rw[this]
   rw[<-Y]
   exact r.idxOf_getElem j hl
  show ls++[s++[⟨(rk.map (·.1)).idxOf t,sh,lo,a⟩]]=_
  rw[this]
 ·rw[Qi (by show ¬ ("line" : Str) = "step";decide)]
  exact h.st
theorem Ih.step (h:Ih K aB aP aM a5 bs rk ks ls d0) (b:∃ t,W.nsIn K aM "step" = some (some (.int 12 t))) {t0:Str} {ts:List Str} (nd:(t0::ts).Nodup) (d:(t0::ts).length<=24) (n:∀ t∈t0::ts,isNm t/\∃ k∈ks,k.w = "stop" /\ k.nm=t) (B:d0.length<12):Ih K aB aP aM (a5++[⟨"step",t0,ts.map V.str⟩]) bs rk ks ls (d0++[Wd.mk ((t0::ts).map λt=>(ks.map (·.nm)).idxOf t)]):=by
 have f:V.str t0::ts.map V.str=(t0::ts).map V.str:=rfl
 have c:∀ t∈t0::ts,t∈ks.map (·.nm):=λt g=>by
  obtain⟨_,k,x,_,rfl⟩:=n t g
  exact ci x
 refine⟨λρ A e=>?_,?_,?_,GF h.lm (λz=>absurd z (by show ¬ ("step" : Str) = "line";decide)),GF h.sm (λ_=>⟨t0::ts,f,d,c⟩),GF h.wd (.inr (.inr (.inr (.inr (.inr (.inr rfl)))))),GF h.pk ⟨(λi w=>by obtain⟨t,_,e⟩:=List.mem_map.mp w;cases e),by show (ts.map V.str).length<=24;rw[List.length_map];rw[List.length_cons] at d;omega⟩⟩
 ·obtain⟨j,v,rfl,l,a⟩:=IK e
  have O:=h.ok ρ j l
  refine O.snoc ?_ ?_ ?_ (λ_ _ h=>h) (λz=>absurd (a ▸ z) (by show ¬ ("step" : Str) = "line";decide)) ?_
  ·rw[Di (by unfold pw;rw[a];show decide (V.str "step" = V.str "board")=false;decide),O.eb]
  ·rw[Di (by unfold pw;rw[a];show decide (V.str "step" = V.str "rank")=false;decide),O.er]
  ·rw[Di (by rw[a];show HR "step" = false;decide),O.ek]
  ·rw[a]
   obtain⟨tk,b⟩:=b
   refine .inr ⟨rfl,⟨t0::ts,f,nd,d,λt g=>?_⟩,12,tk,b,?_⟩
   ·obtain⟨y,k,m,o,p⟩:=n t g
    refine⟨y,Ja.mpr ?_⟩
    rw[<-O.ek] at m
    obtain⟨u,q,rfl⟩:=ay.mp m
    exact⟨u,(aS.mp q).1,o,p⟩
   ·have:(j.filter (pw ρ "step")).length=d0.length:=by
     rw[<-h.st,af,<-l,eT,af]
     rfl
    show (((j.filter (pw ρ "step")).length:Nat):Int)<12
    omega
 ·rw[CP,h.ln]
  rfl
 ·rw[fo,db,h.st]
  have s:([(⟨"step",t0,ts.map V.str⟩:R)]).filter Xn=[⟨"step",t0,ts.map V.str⟩]:=rfl
  rw[s]
  show d0++[stN ks _]=_
  unfold stN
  rw[Ij (r:=⟨"step",t0,ts.map V.str⟩) f]
theorem Ih.fin (h:Ih K aB aP aM a5 bs rk ks ls d0) (e:Paired (λ(r:R) v=>TupAt H r.v v) a5 vs) (i:1<=bs.length) (l:bs.length<=5) (sz:∀ b∈bs,b.2<=61) (n:rk.length<=12) (m:∀ r∈rk,r.2.1<=97) (nk:ks.length<=100) (nb:(bs.map (·.1)).Nodup) (d:(rk.map (·.1)).Nodup) (g:(ks.map (·.nm)).Nodup) (len:a5.length<=150) :
  Rows H (Lq H) vs/\n_ K aB aP aM (Lq H) vs bs rk ks/\linesOf rk (vs.map (Lq H))=ls/\((vs.filter (pw (Lq H) "step")).map λv=>stN ks (Lq H v))=d0:=by
 have a:=QD e
 have O:=h.ok (Lq H) vs a
 have j:Rows H (Lq H) vs:=λv c=>by
  obtain⟨r,_,f⟩:=C_ e c
  rw[P_ f]
  exact f
 refine⟨j,⟨O.eb,O.er,O.ek,O.ln,λv c k=>?_,i,l,sz,n,m,nk,nb,d,g,by rw[<-e.length];exact len,O.ok⟩,by rw[a];exact h.ln,?_⟩
 ·refine h.sm (Lq H v) ?_ k
  rw[<-a]
  exact ci c
 ·rw[<-h.st,<-a,eT,aT]
  rfl
end
def qi (b:Str):Prop:=b.length<=6/\∀ c∈b.cps.toList,97<=c/\c<=122
def rC (n:Nat):Str:=⟨#[97+n]⟩
end Og
section PartK60a
set_option maxHeartbeats 4000000
namespace K60
open PySem L2 Og Bw Ro
abbrev i0:List Str:=["_law_script","_law_organ_here","_law_many","_law_spans","_law_roll","_law_kept","_law_ticks","_law_tick","_law_found","_law_plain"]
abbrev i3:List Str:=["_law_organ_here","_law_spans","_law_tick","_law_count","_law_tracks","_law_keys","_law_knobs"]
abbrev jj:List Str:=["organ","knobs","held"]
abbrev jp:List Str:=["self","knob"]
abbrev j0:List Str:=["organ","knobs","keys"]
abbrev kf:List Str:=["length","spans"]
abbrev kg:List Str:=["self"]
abbrev ki:List Str:=["self","rows"]
abbrev km:List Str:=["thing","length"]
abbrev kt:List Str:=["thing"]
abbrev kw:List Str:=["row","ahead"]
abbrev kA:List Str:=["_law_organ_here","_law_spans","_law_tick"]
abbrev kC:List Str:=["number","board","ahead"]
abbrev k0:List Str:=["tracks","first","count"]
abbrev k8:List Str:=["thing","part","ahead"]
abbrev la:List Str:=["text","signs","most"]
abbrev lc:List Str:=["rows","word","thing"]
abbrev ld:List Str:=["row","knob_numbers"]
abbrev lx:List Str:=["_law_cell","_law_by","_law_many"]
abbrev lT:List Str:=["_law_script"]
abbrev mi:List Str:=["self","board","number"]
abbrev mm:List Str:=["_law_script","_law_k"]
abbrev mr:List Str:=["self","rank","number"]
abbrev mt:List Str:=["organ","knobs","word","words"]
abbrev mu:List Str:=["great","swell","flute","reed"]
abbrev mw:List Str:=["organ","knobs"]
abbrev mI:List Str:=["spans"]
abbrev nI:List Str:=["things"]
abbrev nK:List Str:=["organ","knob","keys","stop","numbers"]
abbrev nS:List Str:=["organ","line","numbers"]
abbrev n0:List Str:=["rows","word"]
abbrev om:List Str:=["roll","tick"]
abbrev oy:List Str:=["_law_many","_law_cell"]
abbrev oD:List Str:=["thing","bounds"]
abbrev oI:List Str:=["some","steps","count"]
abbrev o0:List Str:=["organ","knobs","word"]
abbrev o4:List Str:=["organ","board","keys"]
abbrev o5:List Str:=["rows","rank_numbers"]
abbrev pa:List Str:=["organ","roll","tick"]
abbrev pf:List Str:=["organ","knob","keys"]
abbrev pu:List Str:=["thing","ahead"]
abbrev px:List Str:=["some","number"]
abbrev pz:List Str:=["organ","knob","key"]
abbrev pE:List Str:=["word","ahead"]
abbrev pT:List Str:=["organ","held"]
abbrev qs:List Str:=["_law_found"]
abbrev qx:List Str:=["self","key"]
theorem zC {k kj:Nat} {ps:List Str} {sp:Sp} {q:Str} {p:Pos} {t:TA} (F:Ar X.prog X.w X.K X.mg X.base BW k f fd ps sp) (b:BK kj X.A) (d:Gl X x) (h:Cg X.K x q st f fd∧Binds X.K fd ps []∧X.mg x=some (.ref f)) (i:PA X (e::es) t) (j:k<=kj:=by decide) (g:(x == ("__debug__" : Str))=false:=by decide) (c:starEach (e::es) X.env=(false,eval e X.env)::starEach es X.env:=by rfl) (a:(backTo pos (starEach es X.env)).any (·.1)=false:=by rfl):PE X (.Call (.Name x p) (e::es) [] pos) (fH sp [] E0 t):=Ah F (b.mono j) d h.2.2 h.1.kp h.2.1 .nil Ao i g c a
def top (i:Nat):Stmt:=PySem.Challenge.pw_windchest_k60_sound_of_rolls.main.body.getD i (.Pass ⟨0,0,0,0⟩)
abbrev pK:Stmt:=top 9
abbrev jo:Stmt:=top 10
abbrev oY:Stmt:=top 11
abbrev jn:Stmt:=top 56
abbrev je:Stmt:=top 57
abbrev pD:Stmt:=top 58
abbrev jW:Stmt:=top 59
abbrev jV:Stmt:=top 60
abbrev oH:Stmt:=top 61
abbrev ju:Stmt:=top 62
abbrev mz:Stmt:=top 63
abbrev jM:Stmt:=top 64
abbrev oV:Stmt:=top 65
abbrev oJ:Stmt:=top 66
abbrev oU:Stmt:=top 67
abbrev kO:Stmt:=top 68
abbrev pH:Stmt:=top 71
abbrev jm:Stmt:=top 72
abbrev jq:Stmt:=top 73
abbrev my:Stmt:=top 74
abbrev jf:Stmt:=top 75
abbrev m5:Stmt:=top 14
abbrev jk:Stmt:=top 15
abbrev lJ:Stmt:=top 16
abbrev jl:Stmt:=top 17
abbrev mU:Stmt:=top 18
abbrev jz:Stmt:=top 19
abbrev oF:Stmt:=top 21
abbrev fV:Stmt:=top 22
abbrev oE:Stmt:=top 23
abbrev mF:Stmt:=top 24
abbrev lC:Stmt:=top 25
abbrev j6:Stmt:=top 38
abbrev nj:Stmt:=top 39
abbrev jc:Stmt:=top 40
abbrev WY:Stmt:=top 41
abbrev nZ:Stmt:=top 42
abbrev lL:Stmt:=top 43
abbrev oO:Stmt:=top 44
abbrev jg:Stmt:=top 45
abbrev jR:Stmt:=top 47
abbrev nC:Stmt:=top 48
abbrev jX:Stmt:=top 27
abbrev jT:Stmt:=top 28
abbrev j5:Stmt:=top 29
abbrev mQ:Stmt:=top 30
abbrev nY:Stmt:=top 31
abbrev jd:Stmt:=top 32
abbrev ji:Stmt:=top 33
abbrev pA:Stmt:=top 34
abbrev kj:Stmt:=top 78
abbrev ph:Stmt:=top 79
abbrev nA:Stmt:=top 80
abbrev oh:Stmt:=top 81
abbrev j8:Stmt:=top 82
abbrev jy:Stmt:=top 83
abbrev cX:Stmt:=top 84
abbrev WT:Stmt:=inClass (top 76) 0
abbrev lY:Stmt:=inClass (top 76) 2
abbrev nQ:Stmt:=inClass (top 76) 5
abbrev lq:Stmt:=inClass (top 76) 7
abbrev oA:Stmt:=inClass (top 76) 8
abbrev mj:Stmt:=inClass (top 76) 13
abbrev lK:Stmt:=inClass (top 76) 15
abbrev mG:Stmt:=inClass (top 76) 3
abbrev pZ:Stmt:=inClass (top 76) 6
abbrev pW:Stmt:=inClass (top 76) 9
abbrev mD:Stmt:=inClass (top 76) 14
abbrev lu:Stmt:=inClass (top 76) 16
abbrev jr:Stmt:=inClass (top 76) 4
abbrev JR:Stmt:=top 85
structure Txt (K:W.Frag) (P:Params) (mg:Str->Option Value) (C aN aK aB aP aM:Addr):Prop where
 len:mg "len" = none
 isin:mg "isinstance" = none
 int:mg "int" = none
 bool:mg "bool" = none
 str:mg "str" = none
 list:mg "list" = none
 tuple:mg "tuple" = none
 all:mg "all" = none
 any:mg "any" = none
 sum:mg "sum" = none
 range:mg "range" = none
 zip:mg "zip" = none
 enumerate:mg "enumerate" = none
 max:mg "max" = none
 reversed:mg "reversed" = none
 set:mg "set" = none
 min:mg "min" = none
 sorted:mg "sorted" = none
 letters:∃ t,mg "LETTERS" = some (.str letters t)
 mostL:∃ t,mg "MOST_LETTERS" = some (.int 8 t)
 mostR:∃ t,mg "MOST_ROWS" = some (.int 150 t)
 mostLn:∃ t,mg "MOST_LINES" = some (.int 4 t)
 cMOST_TICKS:∃ t,mg "MOST_TICKS" = some (.int 1000000000000 t)
 cMOST_HOLES:∃ t,mg "MOST_HOLES" = some (.int 400 t)
 below:∃ t,mg "MEMBERS_BELOW" = some (.int 1200 t)
 mN:mg "NAMED" = some (.ref aN)
 mK:mg "KNOBS" = some (.ref aK)
 mB:mg "BOUNDS" = some (.ref aB)
 mP:mg "PARTS" = some (.ref aP)
 mM:mg "MOST_OF" = some (.ref aM)
 tN:KTup K aN (named.map V.str)
 tK:KTup K aK [.str "stop",.str "coupler",.str "mute"]
 dB:KDict K P aB
 dP:KDict K P aP
 dM:KDict K P aM
 cl:S6 K C
 mC:mg "Organ" = some (.ref C)
 n_row_list:DG K C "row_list"
 n_board_list:DG K C "board_list"
 n_rank_list:DG K C "rank_list"
 n_knob_rows:DG K C "knob_rows"
 n_board_numbers:DG K C "board_numbers"
 n_rank_numbers:DG K C "rank_numbers"
 n_knob_numbers:DG K C "knob_numbers"
 n_key_places:DG K C "key_places"
 n_pipe_places:DG K C "pipe_places"
 n_knob_lines:DG K C "knob_lines"
 n_step_sets:DG K C "step_sets"
set_option genInjectivity false in
set_option genSizeOf false in
set_option genSizeOfSpec false in
structure Ad where
 (fWh fMd fNm fRo fTo fWi fPa fHp fCl fIk fSb fIs fWm fHr fIr fCk fNu fCa fPl fLi fSs fMy fSt fHa fMe fSh fUn fLe fDc fHk fWa fCq fIl fHw fAh fHo fFh fRf fR1 fOa fNf fSa fMu fUk fSk fNb fLl fBs fBa fSo fCe fLw fMi fLg fWx fSn fDu fOi fOb fOc fOk fOo fBk fOp fOr fOq fOe fOs fOm fOz:Addr)
 (dWh dMd dNm dRo dTo dWi dPa dHp dCl dIk dSb dIs dWm dHr dIr dCk dNu dCa dPl dLi dSs dMy dSt dHa dMe dSh dUn dLe dDc dHk dWa dCq dIl dHw dAh dHo dFh dRf dR1 dOa dNf dSa dMu dUk dSk dNb dLl dBs dBa dSo dCe dLw dMi dLg dWx dSn dDu dOi dOb dOc dOk dOo dBk dOp dOr dOq dOe dOs dOm dOz:FuncData)
abbrev hX (K:PySem.W.Frag) (mg:Str->Option Value) (x q:Str) (st:Stmt) (f:Addr) (d:FuncData) (p:List Str):Prop:=Cg K x q st f d∧Binds K d p []∧mg x=some (.ref f)
abbrev iP (K:PySem.W.Frag) (C:Addr) (x q:Str) (st:Stmt) (f:Addr) (d:FuncData) (p:List Str):Prop:=Cg K x q st f d∧Binds K d p []∧Meth K C x f
structure Zk (K:W.Frag) (mg:Str->Option Value) (C c1:Addr) (aD:Ad):Prop where
 FWh:hX K mg "is_whole" "is_whole" pK aD.fWh aD.dWh kt
 FMd:hX K mg "is_made_of" "is_made_of" jo aD.fMd aD.dMd la
 FNm:hX K mg "is_name" "is_name" oY aD.fNm aD.dNm kt
 FRo:hX K mg "rows_of" "rows_of" jn aD.fRo aD.dRo n0
 FTo:hX K mg "is_told" "is_told" je aD.fTo aD.dTo lc
 FWi:hX K mg "is_within" "is_within" pD aD.fWi aD.dWi oD
 FPa:hX K mg "is_part" "is_part" jW aD.fPa aD.dPa k8
 FHp:hX K mg "has_parts" "has_parts" jV aD.fHp aD.dHp kw
 FCl:hX K mg "count_of_last_lines" "count_of_last_lines" oH aD.fCl aD.dCl ["rows"]
 FIk:hX K mg "is_key_of" "is_key_of" ju aD.fIk aD.dIk kC
 FSb:hX K mg "stands_behind_stop" "stands_behind_stop" mz aD.fSb aD.dSb ["line","ahead"]
 FIs:hX K mg "is_step" "is_step" jM aD.fIs aD.dIs kw
 FWm:hX K mg "is_well_made" "is_well_made" oV aD.fWm aD.dWm kw
 FHr:hX K mg "has_room" "has_room" oJ aD.fHr aD.dHr pE
 FIr:hX K mg "is_row" "is_row" oU aD.fIr aD.dIr pu
 FCk:hX K mg "check_rows" "check_rows" kO aD.fCk aD.dCk ["rows"]
 FNu:hX K mg "numbers_of" "numbers_of" pH aD.fNu aD.dNu ["names"]
 FCa:hX K mg "count_in_all" "count_in_all" jm aD.fCa aD.dCa nI
 FPl:hX K mg "places_of" "places_of" jq aD.fPl aD.dPl nI
 FLi:hX K mg "lines_by_knob" "lines_by_knob" my aD.fLi aD.dLi o5
 FSs:hX K mg "set_of_step" "set_of_step" jf aD.fSs aD.dSs ld
 FMy:hX K mg "may_be_member" "may_be_member" m5 aD.fMy aD.dMy kt
 FSt:hX K mg "set_of" "set_of" jk aD.fSt aD.dSt ["numbers"]
 FHa:hX K mg "has_member" "has_member" lJ aD.fHa aD.dHa px
 FMe:hX K mg "members_of" "members_of" jl aD.fMe aD.dMe ["some"]
 FSh:hX K mg "shifted" "shifted" mU aD.fSh aD.dSh oI
 FUn:hX K mg "union_of" "union_of" jz aD.fUn aD.dUn ["sets"]
 FLe:hX K mg "led_to" "led_to" oF aD.fLe aD.dLe pz
 FDc:hX K mg "drawn_of" "drawn_of" fV aD.fDc aD.dDc o0
 FHk:hX K mg "held_keys" "held_keys" oE aD.fHk aD.dHk pT
 FWa:hX K mg "coupled_ways" "coupled_ways" mF aD.fWa aD.dWa jj
 FCq:hX K mg "coupled_keys" "coupled_keys" lC aD.fCq aD.dCq jj
 FIl:hX K mg "is_length" "is_length" j6 aD.fIl aD.dIl kt
 FHw:hX K mg "is_hole_within" "is_hole_within" nj aD.fHw aD.dHw km
 FAh:hX K mg "are_holes_within" "are_holes_within" jc aD.fAh aD.dAh km
 FHo:Xu K "holes_of" "holes_of" WY aD.fHo aD.dHo c1∧Binds K aD.dHo mI []∧mg "holes_of" = some (.ref aD.fHo)
 FFh:hX K mg "few_holes_of" "few_holes_of" nZ aD.fFh aD.dFh mI
 FRf:hX K mg "roll_from" "roll_from" lL aD.fRf aD.dRf kf
 FR1:hX K mg "roll_of" "roll_of" oO aD.fR1 aD.dR1 kf
 FOa:hX K mg "open_at" "open_at" jg aD.fOa aD.dOa om
 FNf:hX K mg "numbers_from" "numbers_from" jR aD.fNf aD.dNf k0
 FSa:hX K mg "sound_at" "sound_at" nC aD.fSa aD.dSa pa
 FMu:hX K mg "muted_boards" "muted_boards" jX aD.fMu aD.dMu mw
 FUk:hX K mg "unmuted_keys" "unmuted_keys" jT aD.fUk aD.dUk j0
 FSk:hX K mg "speaking_keys" "speaking_keys" j5 aD.fSk aD.dSk jj
 FNb:hX K mg "numbers_on_board" "numbers_on_board" mQ aD.fNb aD.dNb o4
 FLl:hX K mg "led_by_line" "led_by_line" nY aD.fLl aD.dLl nS
 FBs:hX K mg "brought_by_stop" "brought_by_stop" jd aD.fBs aD.dBs pf
 FBa:hX K mg "brought_in_all" "brought_in_all" ji aD.fBa aD.dBa j0
 FSo:hX K mg "sounding_pipes" "sounding_pipes" pA aD.fSo aD.dSo jj
 FCe:hX K mg "_law_cell_at" "_law_cell_at" kj aD.fCe aD.dCe mm
 FLw:hX K mg "_law_whole" "_law_whole" ph aD.fLw aD.dLw qs
 FMi:hX K mg "_law_mix" "_law_mix" nA aD.fMi aD.dMi lx
 FLg:hX K mg "_law_organ" "_law_organ" oh aD.fLg aD.dLg lT
 FWx:hX K mg "_law_wide_rows" "_law_wide_rows" j8 aD.fWx aD.dWx ["_law_rows"]
 FSn:hX K mg "_law_span" "_law_span" jy aD.fSn aD.dSn oy
 FDu:hX K mg "_law_due" "_law_due" cX aD.fDu aD.dDu kA
 FOi:Cg K "__init__" "Organ.__init__" WT aD.fOi aD.dOi∧Binds K aD.dOi ki []∧Mk K C aD.fOi
 FOb:iP K C "boards" "Organ.boards" lY aD.fOb aD.dOb kg
 FOc:iP K C "key_count" "Organ.key_count" nQ aD.fOc aD.dOc kg
 FOk:iP K C "key" "Organ.key" lq aD.fOk aD.dOk mi
 FOo:iP K C "board_of" "Organ.board_of" oA aD.fOo aD.dOo qx
 FBk:iP K C "board_of_knob" "Organ.board_of_knob" mj aD.fBk aD.dBk jp
 FOp:iP K C "coupler" "Organ.coupler" lK aD.fOp aD.dOp jp
 FOr:iP K C "ranks" "Organ.ranks" mG aD.fOr aD.dOr kg
 FOq:iP K C "pipe_count" "Organ.pipe_count" pZ aD.fOq aD.dOq kg
 FOe:iP K C "pipe" "Organ.pipe" pW aD.fOe aD.dOe mr
 FOs:iP K C "stop" "Organ.stop" mD aD.fOs aD.dOs jp
 FOm:iP K C "mute" "Organ.mute" lu aD.fOm aD.dOm jp
 FOz:iP K C "knobs" "Organ.knobs" jr aD.fOz aD.dOz kg
section
variable {w:World} {K:W.Frag} {c1 P1 aN aK:Addr} {aD:Ad}
variable (N:Zk K mg C c1 aD) (T:Txt K w.params mg C aN aK aB aP aM)
inductive J5 (vs:List V) (H:Hp) (Q:VK) (a8:XK):Prop
 | mk (i:Int):vs=[.int i]->Q (.bl true) H->J5 vs H Q a8
theorem nD:Av kt kt (Ae pK):=Bh
include N T in
theorem Ml:Ar P w K mg base BW 1 aD.fWh aD.dWh kt J5:=by
 refine N.FWh.1.Dp nD λH a Q E b h=>?_
 obtain⟨i,rfl,q⟩:=h
 refine⟨_,(Ag (Az (Cj (BJ Cd rfl T.isin bE (Aa (pv 0) (Aa (Du (v:=.ty "int") rfl T.int hG rfl) Ab))) (Cp (Om (BJ Cd rfl T.isin bE (Aa (pv 0) (Aa (Du (v:=.ty "bool") rfl T.bool PyProof.Rows.boot_bool rfl) Ab)))))))),?_⟩
 refine⟨_,rfl,_,"int",_,_,rfl,.int i,ty_int,_,rfl,Dw ?_⟩
 exact⟨_,rfl,_,"bool",_,_,rfl,.int i,Yd,_,rfl,q⟩
inductive Us (vs:List V) (H:Hp) (Q:VK) (a8:XK):Prop
 | mk (z:Str):vs=[.str z,.str letters,.int 8]->isNm z->(∀ H',Aj H H'->Q (.bl true) H')->Us vs H Q a8
theorem nF:Av la la (Ae jo):=Bh
include N T in
theorem dz:Ar P w K mg base BW 1 aD.fMd aD.dMd la Us:=by
 refine N.FMd.1.Dp nF λH m Q E n h=>?_
 obtain⟨z,rfl,d,q⟩:=h
 refine⟨_,(Ag (Az (Cj (GD Dh Dh Ac (BJ Lh rfl T.len cq (Aa (pv 0) Ab)) (pv 2)) (Cp (BJ (G8 rfl) rfl T.all fA (Aa (Bj rfl (BP (osc:=Ae jo) (N:=la) rfl rfl (by decide)) (a_ (pv 0)) (λ_ _ _ _=>By) (λ_ _ _ _=>(Ef RZ (pv 0) (pv 2) rfl))) Ab)))))),?_⟩
 have b:z.length<sizeLine:=Ax (by have:=d.2.1;omega)
 refine⟨_,rfl,z,rfl,eI b,_,_,rfl,rfl,_,rfl,?_⟩
 refine Cr (λj=>?_) (λj=>absurd (decide_eq_true (by have:=d.1;omega)) j)
 refine⟨_,rfl,_,_,rfl,rfl,_,rfl,?_⟩
 refine Cr (λi=>?_) (λi=>absurd (decide_eq_true (by have:=d.2.1;omega)) i)
 refine⟨_,rfl,z,rfl,WP (λ_=>true) (λc=>.bl (il letters c)) b (λc f a g R k=>k a (Aj.refl a)) (λc f _ a g R k=>⟨_,rfl,_,rfl,_,_,rfl,rfl,k a (Aj.refl a)⟩) (λD a o g l=>?_)⟩
 refine⟨D,z.cps.toList.map (il letters),rfl,.inl (.inl ?_),?_⟩
 ·rw[l,br.mpr (λ_ _=>rfl),aT]
  rfl
 ·have e:(z.cps.toList.map (il letters)).all id=true:=by
   rw[List.all_map,fb]
   intro c f
   have:=d.2.2 c f
   show il letters c=true
   rw[Xb c (by omega)]
   exact decide_eq_true this
  rw[e]
  exact q a g
inductive Wr (vs:List V) (H:Hp) (Q:VK) (a8:XK):Prop
 | mk (z:Str):vs=[.str z]->isNm z->(∀ H',Aj H H'->Q (.bl true) H')->Wr vs H Q a8
theorem pI:Av kt kt (Ae oY):=Bh
include N T in
theorem YM:Ar P w K mg base BW 2 aD.fNm aD.dNm kt Wr:=by
 refine N.FNm.1.Dp pI λH g Q E c h=>?_
 obtain⟨z,rfl,f,q⟩:=h
 obtain⟨d,a⟩:=T.letters
 obtain⟨b,e⟩:=T.mostL
 refine⟨_,(Ag (Az (Cj (BJ Cd rfl T.isin bE (Aa (pv 0) (Aa (Du (v:=.ty "str") rfl T.str PyProof.Rows.boot_str rfl) Ab))) (Cp (zC (dz N T) c rfl N.FMd (Aa (pv 0) (Aa (CJ (v:=.str letters) rfl a ⟨d,rfl⟩) (Aa (CJ (v:=.int 8) rfl e ⟨b,rfl⟩) Ab)))))))),?_⟩
 refine⟨_,rfl,_,"str",_,_,rfl,.str z,YZ,_,rfl,Dw ?_⟩
 exact⟨_,rfl,z,rfl,f,q⟩
inductive Jv (vs:List V) (H:Hp) (Q:VK) (a8:XK):Prop
 | mk (p:Addr) (us:List V) (w:Str) (ρ:V->R):vs=[.ref p,.str w]->H p=some (.lst us)->Rows H ρ us->us.length<=500->(∀ D H',H D=none->Aj H H'->H' D=some (.lst (us.filter (pw ρ w)))->Q (.ref D) H')->Jv vs H Q a8
theorem nu:Av n0 n0 (Ae jn):=Bh
include N T in
theorem Np:Ar P w K mg base BW 1 aD.fRo aD.dRo n0 Jv:=by
 refine N.FRo.1.Dp nu λH r Q E s h=>?_
 obtain⟨p,e,w,ρ,rfl,n,g,o,q⟩:=h
 refine⟨_,(Ag (Az (Bj rfl (BP (osc:=Ae jn) (N:=n0) rfl rfl (by decide)) (Bc (pv 0)) (λ_ _ _ _=>(FQ (BV Dt (A_ (Am (K:=K) rfl) (pv 0) Ac (λ_ _=>rfl)) (pv 2) (Ba _)))) (λ_ _ _ _=>(pv 0))))),?_⟩
 have f:CV K H p e:=.inl (.inl n)
 refine⟨_,rfl,p,rfl,⟨_,f⟩,Bs (K:=K) (xs:=e) (pw ρ w) id f (Ax (by omega)) (λx d a c R k=>?_) (λx d _ a c R k=>⟨_,rfl,k a (Aj.refl a)⟩) (λD a l c b=>?_)⟩
 ·obtain⟨i,rfl,m⟩:=(g x d).mono c
  exact⟨_,rfl,i,_,_,_,rfl,rfl,iO m,Ai (j:=0) rfl,_,rfl,rfl,_,rfl,k a (Aj.refl a)⟩
 ·rw[ii] at b
  exact q D a l c b
inductive RX (vs:List V) (H:Hp) (Q:VK) (a8:XK):Prop
 | mk (p:Addr) (us:List V) (w t:Str) (ρ:V->R):vs=[.ref p,.str w,.str t]->H p=some (.lst us)->Rows H ρ us->us.length<=500->isNm t->(∀ H',Aj H H'->Q (.bl (WX ρ us w t)) H')->RX vs H Q a8
theorem m8:Av lc lc (Ae je):=Bh
include N T in
theorem Yb:Ar P w K mg base BW 3 aD.fTo aD.dTo lc RX:=by
 refine N.FTo.1.Dp m8 λH I Q E i h=>?_
 obtain⟨p,a,w,t,ρ,rfl,s,f,y,u,q⟩:=h
 refine⟨_,(Ag (Az (Cj (zC (YM N T) i rfl N.FNm (Aa (pv 2) Ab)) (Cp (BJ (Jj rfl) rfl T.any hU (Aa (Bj rfl (BP (osc:=Ae je) (N:=lc) rfl rfl (by decide)) (Bc (zC (Np N T) i rfl N.FRo (Aa (pv 0) (Aa (pv 1) Ab)))) (λ_ _ _ _=>By) (λ_ _ _ _=>(Ef Dt (A_ (Am (K:=K) rfl) (pv 0) Ac (λ_ _=>rfl)) (pv 3) (Ba _)))) Ab)))))),?_⟩
 refine⟨_,rfl,t,rfl,u,λJ c=>⟨_,rfl,Dw ?_⟩⟩
 refine⟨_,rfl,_,rfl,p,a,w,ρ,rfl,c _ _ s,f.mono c,y,λD r L g d=>?_⟩
 have l:CV K r D (a.filter (pw ρ w)):=.inl (.inl d)
 refine⟨D,rfl,⟨_,l⟩,Bs (K:=K) (xs:=a.filter (pw ρ w)) (λ_=>true) (λv=>.bl (pn ρ t v)) l (Ax (by have:=Ha (pw ρ w) a;omega)) (λx m b n R k=>k b (Aj.refl b)) (λx m _ b n R k=>?_) (λo F G B A=>?_)⟩
 ·obtain⟨z,rfl,C⟩:=(((f.mono c).mono g).mono n) x (aS.mp m).1
  exact⟨_,rfl,z,_,_,_,rfl,rfl,iO C,Ai (j:=1) rfl,_,rfl,rfl,k b (Aj.refl b)⟩
 ·refine⟨o,(a.filter (pw ρ w)).map (pn ρ t),rfl,.inl (.inl ?_),?_⟩
  ·rw[A,br.mpr (λ_ _=>rfl),aT]
   rfl
  ·have e:((a.filter (pw ρ w)).map (pn ρ t)).any id=WX ρ a w t:=by
    rw[List.any_map]
    rfl
   rw[e]
   exact q F ((c.trans g).trans B)
inductive bM (K:W.Frag) (vs:List V) (H:Hp) (Q:VK) (a8:XK):Prop
 | mk (i lo hi:Int) (b:Addr):vs=[.int i,.ref b]->KTup K b [.int lo,.int hi]->lo<=i->i<=hi->Q (.bl true) H->bM K vs H Q a8
theorem m9:Av oD oD (Ae pD):=Bh
include N T in
theorem jG:Ar P w K mg base BW 2 aD.fWi aD.dWi oD (bM K):=by
 refine N.FWi.1.Dp m9 λH g Q E d h=>?_
 obtain⟨i,lo,f,b,rfl,a,e,c,q⟩:=h
 refine⟨_,(Ag (Az (Cj (zC (Ml N T) d rfl N.FWh (Aa (pv 0) Ab)) (Cp (GD Dh Dh (A_ (Am (K:=K) rfl) (pv 1) Ac (λ_ _=>rfl)) (pv 0) (A_ (Am (K:=K) rfl) (pv 1) Ac (λ_ _=>rfl))))))),?_⟩
 refine⟨_,rfl,i,rfl,_,rfl,Dw ?_⟩
 refine⟨_,rfl,b,_,_,_,rfl,rfl,a.sq _,Ai (j:=0) rfl,_,rfl,_,_,rfl,rfl,_,rfl,?_⟩
 refine Cr (λ_=>?_) (λz=>absurd (decide_eq_true e) z)
 refine⟨_,rfl,b,_,_,_,rfl,rfl,a.sq _,Ai (j:=1) rfl,_,_,rfl,rfl,?_⟩
 show Q (.bl (decide (i<=f))) H
 rw[decide_eq_true c]
 exact q
inductive aO (K:W.Frag) (aB:Addr) (vs:List V) (H:Hp) (Q:VK) (a8:XK):Prop
 | mk (x:V) (part:Str) (p:Addr) (us:List V) (ρ:V->R):vs=[x,.str part,.ref p]->H p=some (.lst us)->Rows H ρ us->us.length<=500->Hk K aB ρ us x part->(∀ H',Aj H H'->Q (.bl true) H')->aO K aB vs H Q a8
theorem lX:Av k8 k8 (Ae jW):=Bh
include N T in
theorem dw:Ar P w K mg base BW 4 aD.fPa aD.dPa k8 (aO K aB):=by
 refine N.FPa.1.Dp lX λH Z Q E e h=>?_
 obtain⟨x,part,p,A,ρ,rfl,C,u,G,s,q⟩:=h
 refine⟨_,(Af (Bv (Tp (Uu (pv 1) (CJ (v:=.ref aB) rfl T.mB rfl))) (Ag (Az (zC (jG N T) e rfl N.FWi (Aa (pv 0) (Aa (LR (CJ (v:=.ref aB) rfl T.mB rfl) (pv 1) (λ_ _=>rfl)) Ab))))) Bf)
  (Af (Bv (BV Dt (pv 1) Bb (Ba _)) (Ag (Az (Cj (zC (YM N T) e rfl N.FNm (Aa (pv 0) Ab)) (Cp (Om (BJ (Jj rfl) rfl T.any hU (Aa (Bj rfl (BP (osc:=Ae jW) (N:=k8) rfl rfl (by decide)) (Pk (CJ (v:=.ref aN) rfl T.mN rfl)) (λ_ _ _ _=>By) (λ_ _ _ _=>(zC (Yb N T) e rfl N.FTo (Aa (pv 3) (Aa (pv 0) (Aa (pv 1) Ab)))))) Ab))))))) Bf)
  (Ag (Az (zC (Yb N T) e rfl N.FTo (Aa (pv 2) (Aa (pv 1) (Aa (pv 0) Ab)))))))),?_⟩
 rcases s with⟨i,lo,Y,b,rfl,c,I,X,U⟩ | ⟨c,rfl,t,rfl,l,m⟩ | ⟨c,o,t,rfl,l,W⟩
 ·refine⟨_,rfl,aB,part,_,rfl,rfl,T.dB,c,_,rfl,Dw ?_⟩
  exact⟨_,rfl,_,rfl,aB,part,.ref b,_,rfl,rfl,T.dB,c,rfl,i,lo,Y,b,rfl,I,X,U,q H (Aj.refl H)⟩
 ·refine⟨_,rfl,aB,_,_,rfl,rfl,T.dB,c,_,rfl,Dj ?_⟩
  refine⟨_,rfl,rfl,_,rfl,Dw ?_⟩
  refine⟨_,rfl,t,rfl,l,λO n=>⟨_,rfl,Dw ?_⟩⟩
  have g:Er K O aN (named.map V.str):=T.tN.sq _
  refine⟨aN,rfl,⟨_,g⟩,G9 (xs:=named.map V.str) (λ_=>true) (λ_=>.bl false) (by show 5<sizeLine;decide) (λi f x a j=>⟨_,x,a.tup g,j⟩) (λi f y H3 a _ B=>⟨B.1,B.2 _ (a.tup g)⟩) (λf a=>⟨_,a.tup g,Nat.le_refl _⟩)
   (λx j d a R k=>k d (Aj.refl d)) (λx j _ d a R k=>?_) (λD f hD J r=>?_)⟩
  ·obtain⟨F,M,rfl⟩:=ay.mp j
   refine⟨_,rfl,_,rfl,_,rfl,p,A,F,t,ρ,rfl,a _ _ (n _ _ C),(u.mono n).mono a,G,l,λL S=>?_⟩
   rw[m F M]
   exact k L S
  ·refine⟨D,[false,false,false,false,false],rfl,iO r,_,rfl,?_⟩
   exact q f (n.trans J)
 ·refine⟨_,rfl,aB,_,_,rfl,rfl,T.dB,c,_,rfl,Dj ?_⟩
  refine⟨_,rfl,rfl,_,rfl,?_⟩
  refine Cr (λz=>absurd (V.str.inj (of_decide_eq_true z)) o) (λ_=>?_)
  refine⟨_,rfl,_,rfl,_,rfl,p,A,part,t,ρ,rfl,C,u,G,l,λd a=>?_⟩
  rw[W]
  exact q d a
inductive bU (K:W.Frag) (aB aP:Addr) (vs:List V) (H:Hp) (Q:VK) (a8:XK):Prop
 | mk (r p:Addr) (w:Str) (xs:List V) (us:List V) (ρ:V->R) (ap:Addr) (ps:List Str):vs=[.ref r,.ref p]->H r=some (.tup (.str w::xs))->H p=some (.lst us)->Rows H ρ us->us.length<=500->W.nsIn K aP w=some (some (.ref ap))->KTup K ap (ps.map V.str)->xs.length=ps.length->ps.length<=10->(∀ (i:Nat) x y,xs[i]? = some x->ps[i]? = some y->Hk K aB ρ us x y)->(∀ H',Aj H H'->Q (.bl true) H')->bU K aB aP vs H Q a8
theorem gP:Av ["row","ahead","parts"] kw (Ae jV):=Bh
include N T in
theorem h_:Ar P w K mg base BW 5 aD.fHp aD.dHp kw (bU K aB aP):=by
 refine N.FHp.1.Dp gP λH vs Q E O h=>?_
 obtain⟨r,p,w,a,M,ρ,s,ps,rfl,t,U,L,hl,W,g,b,zY,u,q⟩:=h
 refine⟨_,(Af (BX (i:=2) gP.nd rfl (Or.inl rfl) (LR (CJ (v:=.ref aP) rfl T.mP rfl) (A_ (Am (K:=K) rfl) (pv 0) Ac (λ_ _=>rfl)) (λ_ _=>rfl)))
  (Af (Bv (BV KR (BJ BR rfl T.len cq (Aa (pv 0) Ab)) (BL Bm Ac (BJ BR rfl T.len cq (Aa (pv 2) Ab))) (Ba _)) (Ag (Az Jq)) Bf)
  (Ag (Az (BJ (G8 rfl) rfl T.all fA (Aa (QS rfl (Jp (osc:=Ae jV) (N:=["row","ahead","parts"]) rfl rfl (by decide)) (XF rfl T.zip (Aa (Ek Lp (pv 0) (Ew Ac) Gd) (Aa (pv 2) Ab))) (λ_ _ _ _=>By) (λ_ _ _ _=>(zC (dw N T) O rfl N.FPa (Aa (pv 0) (Aa (pv 1) (Aa (pv 3) Ab)))))) Ab)))))),?_⟩
 refine⟨_,rfl,r,_,_,_,rfl,rfl,iO t,Ai (j:=0) rfl,aP,w,.ref s,_,rfl,rfl,T.dP,W,rfl,?_⟩
 refine⟨_,rfl,r,_,rfl,.inr (.inl (.inl t)),_,rfl,s,_,rfl,.inr (g.sq _),_,_,rfl,rfl,rfl,_,rfl,?_⟩
 refine Cr (λz=>?_) (λ_=>?_)
 ·exfalso
  have e:(((V.str w::a).length:Nat):Int)=1+(((ps.map V.str).length:Nat):Int):=by
   rw[cK,af,b]
   omega
  rw[e] at z
  simp at z
 ·have c:Dy (V.str w::a) (some 1) none=a:=by
   unfold Dy
   have m:HT.Do (V.str w::a).length 0 (some ((1:Nat):Int))=1:=by rw[HT.Fj,cK];omega
   have A:HT.Do (V.str w::a).length 0 (some (1:Int))=1:=m
   rw[A,HT.Ji,List.drop_succ_cons,List.drop_zero]
   exact fe (by rw[cK];omega)
  refine⟨_,rfl,_,rfl,r,_,rfl,iO t,(λz=>?_),λC n=>?_⟩
  ·have m:HT.Do (V.str w::a).length 0 (some ((1:Nat):Int))=1:=by rw[HT.Fj,cK];omega
   have:=z.1.symm.trans m
   cases this
  rw[c]
  obtain⟨S,b9,f,a2⟩:=Kg (o:=HO.tup a) n
  rw[b9]
  have G:Er K S C a:=.inl (.inl a2)
  refine⟨_,rfl,C,s,rfl,⟨_,G⟩,⟨_,g.sq _⟩,Uy (K:=K) (xs:=a) (ys:=ps.map V.str) (λ_ _=>.bl true) G (g.sq _) (by rw[af];exact b) (Ax (by omega)) (λi x y Z B J d R k=>?_) (λD J hD d F=>?_)⟩
  ·rw[ar] at B
   obtain⟨part,X,rfl⟩:=cr.mp B
   exact⟨_,rfl,_,rfl,_,rfl,x,part,p,M,ρ,rfl,d _ _ (f _ _ U),(L.mono f).mono d,hl,u i x part Z X,λH4 s4=>k H4 s4⟩
  ·have e:List.zipWith (λ_ _=>V.bl true) a (ps.map V.str)=(List.replicate a.length true).map V.bl:=by
    rw[List.map_replicate]
    refine ff λi=>?_
    rw[fw]
    by_cases I:i<a.length
    ·rw[ae I,ae (by rw[af];omega),ae (by rw[gX];exact I)]
     simp
    ·rw[dQ (by omega),dQ (l:=List.replicate _ _) (by rw[gX];omega)]
   rw[e] at F
   refine⟨D,List.replicate a.length true,rfl,iO F,?_⟩
   have Y:(List.replicate a.length true).all id=true:=by simp
   rw[Y]
   exact q J (f.trans d)
inductive Zj (vs:List V) (H:Hp) (Q:VK) (a8:XK):Prop
 | mk (p:Addr) (us:List V) (ρ:V->R) (c:Nat):vs=[.ref p]->H p=some (.lst us)->Rows H ρ us->us.length<=500->Yt ρ us c->Q (.int (c:Nat)) H->Zj vs H Q a8
theorem Xd:Av ["rows","count","row"] ["rows"] (Ae oH):=Bh
include N T in
theorem gM:Ar P w K mg base BW 1 aD.fCl aD.dCl ["rows"] Zj:=by
 refine N.FCl.1.Dp Xd λH D Q E F h=>?_
 obtain⟨p,k,ρ,c,rfl,B,o,C,l,q⟩:=h
 refine⟨_,(Af (BX (i:=1) Xd.nd rfl (Or.inl rfl) Ac)
  (Af (Cv PassesOwn.never rfl (Zd rfl T.reversed (Aa (pv 0) Ab)) (Bp (i:=2) Xd.nd rfl (Or.inl rfl)) (Af (Bv (BV KR (A_ (Am (K:=K) rfl) (pv 2) Ac (λ_ _=>rfl)) Bb (Ba _)) (Ag VP) Bf)
  (Ag (BX (i:=1) Xd.nd rfl (Or.inl rfl) (BL Bm (pv 1) Ac)))))
  (Ag (Az (pv 1))))),?_⟩
 have n:CV K H p k:=.inl (.inl B)
 refine⟨_,rfl,p,k,rfl,n,Xm (K:=K) (a:=p) (xs:=k) (λi σ d=>d=H/\i<=c/\∃ m,σ=[some (.ref p),some (.int (i:Nat)),m]) ⟨rfl,ee _,_,rfl⟩ (λi σ d _ h=>by rw[h.1];exact n) ?_ ?_⟩
 ·rintro i x σ d G f ⟨rfl,A,m,rfl⟩
  obtain⟨r,rfl,t⟩:=o x (av f)
  refine⟨_,rfl,r,_,_,_,rfl,rfl,iO t,Ai (j:=0) rfl,rfl,_,rfl,?_⟩
  by_cases e:(ρ (.ref r)).w = "line"
  ·have u:i ≠ c:=λz=>by
    obtain⟨v,b,g⟩:=l.no
    rw[<-z,f] at b
    cases b
    exact g e
   refine V6 (congrArg V.str e) ?_
   exact⟨_,rfl,_,_,rfl,rfl,rfl,by omega,_,rfl⟩
  ·have s:i=c:=by
    refine Classical.byContradiction λz=>?_
    obtain⟨v,b,y⟩:=l.all i (by omega)
    rw[f] at b
    cases b
    exact e y
   subst s
   rw[decide_eq_false λz=>e (V.str.inj z)]
   refine Dw ?_
   exact⟨_,rfl,q⟩
 ·rintro σ d ⟨rfl,A,m,rfl⟩
  have:=l.lt
  omega
inductive Zm (vs:List V) (H:Hp) (Q:VK) (a8:XK):Prop
 | mk (n:Int) (bd:Str) (p:Addr) (us:List V) (ρ:V->R):vs=[.int n,.str bd,.ref p]->H p=some (.lst us)->Rows H ρ us->us.length<=500->FJ ρ us->(∀ H',Aj H H'->Q (.bl (keyOf ρ us bd n)) H')->Zm vs H Q a8
theorem oX:Av kC kC (Ae ju):=Bh
include N T in
theorem eE:Ar P w K mg base BW 2 aD.fIk aD.dIk kC Zm:=by
 refine N.FIk.1.Dp oX λH W Q E C h=>?_
 obtain⟨n,i,p,b,ρ,rfl,G,s,L,I,q⟩:=h
 refine⟨_,(Ag (Az (BJ (Jj rfl) rfl T.any hU (Aa (Bj rfl (BP (osc:=Ae ju) (N:=kC) rfl rfl (by decide)) (Bc (zC (Np N T) C rfl N.FRo (Aa (pv 2) (Aa Bb Ab)))) (λ_ _ _ _=>By) (λ_ _ _ _=>(Cj (Ef Dt (A_ (Am (K:=K) rfl) (pv 0) Ac (λ_ _=>rfl)) (pv 2) (Ba _)) (Cp (Ef Fd (pv 1) (A_ (Am (K:=K) rfl) (pv 0) Ac (λ_ _=>rfl)) (Ba _)))))) Ab)))),?_⟩
 refine⟨_,rfl,p,b,"board",ρ,rfl,G,s,L,λD F X t o=>?_⟩
 have u:CV K F D (b.filter (pw ρ "board")):=.inl (.inl o)
 refine⟨D,rfl,⟨_,u⟩,Bs (K:=K) (xs:=b.filter (pw ρ "board")) (λ_=>true) (λv=>.bl (pn ρ i v && decide (n<bf (ρ v)))) u (Ax (by have:=Ha (pw ρ "board") b;omega)) (λx y a A R k=>k a (Aj.refl a)) (λx y _ a A R k=>?_) (λB S U O M=>?_)⟩
 ·have l:=aS.mp y
  obtain⟨m,z⟩:=I x l.1 (V.str.inj (of_decide_eq_true l.2))
  have J:bf (ρ x)=m:=by unfold bf;rw[z]
  have r:=((s.mono t).mono A) x l.1
  have c:=k a (Aj.refl a)
  rw[J] at c
  obtain⟨f,rfl,r⟩:=r
  have c:R (.bl (decide (V.str (ρ (.ref f)).nm=V.str i) && decide (n<m))) a:=c
  have d:a f=some (.tup (.str (ρ (.ref f)).w :: .str (ρ (.ref f)).nm::(ρ (.ref f)).rest)):=r
  rw[z] at d
  refine⟨_,rfl,f,_,_,_,rfl,rfl,iO d,Ai (j:=1) rfl,_,rfl,rfl,_,rfl,?_⟩
  refine Cr (λg=>?_) (λg=>?_)
  ·rw[g,gg] at c
   exact⟨_,rfl,_,rfl,f,_,_,_,rfl,rfl,iO d,Ai (j:=2) rfl,_,_,rfl,rfl,c⟩
  ·rw[(fv _).mp g,gs] at c
   exact c
 ·refine⟨B,(b.filter (pw ρ "board")).map (λv=>pn ρ i v && decide (n<bf (ρ v))),rfl,.inl (.inl ?_),?_⟩
  ·rw[M,br.mpr (λ_ _=>rfl),aT]
   rfl
  ·have e:((b.filter (pw ρ "board")).map (λv=>pn ρ i v && decide (n<bf (ρ v)))).any id=keyOf ρ b i n:=by
    rw[List.any_map]
    rfl
   rw[e]
   exact q S (t.trans O)
inductive bu (vs:List V) (H:Hp) (Q:VK) (a8:XK):Prop
 | mk (r p:Addr) (ro:R) (us:List V) (ρ:V->R):vs=[.ref r,.ref p]->H r=some (.tup ro.v)->H p=some (.lst us)->Rows H ρ us->us.length<=500->Ow ρ us ro->FJ ρ us->(∀ H',Aj H H'->Q (.bl true) H')->bu vs H Q a8
theorem bZ:Av ["line","ahead","count","row"] ["line","ahead"] (Ae mz):=Bh
include N T in
theorem dD:Ar P w K mg base BW 3 aD.fSb aD.dSb ["line","ahead"] bu:=by
 refine N.FSb.1.Dp bZ λH U Q E m h=>?_
 obtain⟨r,p,ro,b,ρ,rfl,O,g,f,o,F,D,q⟩:=h
 obtain⟨J,A⟩:=T.mostLn
 refine⟨_,(Af (BX (i:=2) bZ.nd rfl (Or.inl rfl) (zC (gM N T) m rfl N.FCl (Aa (pv 1) Ab)))
  (Af (BX (i:=3) bZ.nd rfl (Or.inl rfl) (A_ Fi (pv 1) (BL Es (BL Es (BJ BR rfl T.len cq (Aa (pv 1) Ab)) Ac) (pv 2)) (λ_ _=>rfl)))
  (Af (Bv (PW.pt (G4 (BV KR (A_ (Am (K:=K) rfl) (pv 3) Ac (λ_ _=>rfl)) Bb (Ba _)) (Ga (BV YS (pv 2) (CJ (v:=.int 4) rfl A ⟨J,rfl⟩) (Ba _))))) (Ag (Az Jq)) Bf)
  (Ag (Az (Cj (Ef Dh (A_ (Am (K:=K) rfl) (pv 0) Ac (λ_ _=>rfl)) (A_ (Am (K:=K) rfl) (pv 0) Ac (λ_ _=>rfl)) (Ba _)) (Cp (zC (eE N T) m rfl N.FIk (Aa (A_ (Am (K:=K) rfl) (pv 0) Ac (λ_ _=>rfl)) (Aa (A_ (Am (K:=K) rfl) (pv 3) Ac (λ_ _=>rfl)) (Aa (pv 1) Ab))))))))))),?_⟩
 obtain⟨cnt,v,I,lo,s,l,y,R,k,W,t,x,G,e,C⟩:=F.ex
 have c:H r=some (.tup [.str ro.w,.str ro.nm,.int I,.int lo,.int s]):=by rw[O,<-R]
 obtain⟨d,rfl,L⟩:=f v (av t)
 have a:H d=some (.tup (.str (ρ (.ref d)).w :: .str (ρ (.ref d)).nm :: .str l::y)):=by rw[L,<-G]
 have M:=k.lt
 have S:((b.length:Nat):Int) - 1 - ((cnt:Nat):Int)=((b.length - 1 - cnt:Nat):Int):=by omega
 have n:CV K H p b:=.inl (.inl g)
 refine⟨_,rfl,p,b,ρ,cnt,rfl,g,f,o,k,?_⟩
 refine⟨_,rfl,_,rfl,p,b,rfl,.inl n,_,_,rfl,rfl,_,rfl,_,_,rfl,rfl,p,b,_,_,rfl,rfl,n,(by rw[S];exact Ai t),?_⟩
 refine⟨_,rfl,d,_,_,_,rfl,rfl,iO a,Ai (j:=0) rfl,rfl,_,rfl,V6 (congrArg V.str x) ?_⟩
 refine⟨_,rfl,_,_,rfl,rfl,_,rfl,?_⟩
 refine Cr (λz=>?_) (λ_=>?_)
 ·have:=of_decide_eq_true z
  omega
 refine⟨_,rfl,r,_,_,_,rfl,rfl,iO c,Ai (j:=3) rfl,_,rfl,r,_,_,_,rfl,rfl,iO c,Ai (j:=4) rfl,_,_,rfl,rfl,_,rfl,?_⟩
 refine Cr (λ_=>?_) (λz=>absurd (decide_eq_true e) z)
 refine⟨_,rfl,r,_,_,_,rfl,rfl,iO c,Ai (j:=4) rfl,_,rfl,d,_,_,_,rfl,rfl,iO a,Ai (j:=2) rfl,_,rfl,s,l,p,b,ρ,rfl,g,f,o,D,λu B=>?_⟩
 rw[C]
 exact q u B
inductive S8 (vs:List V) (H:Hp) (Q:VK) (a8:XK):Prop
 | mk (r p:Addr) (ro:R) (us:List V) (ρ:V->R) (ts:List Str):vs=[.ref r,.ref p]->H r=some (.tup ro.v)->H p=some (.lst us)->Rows H ρ us->us.length<=500->V.str ro.nm::ro.rest=ts.map V.str->ts.Nodup->ts.length<=24->(∀ t∈ts,isNm t/\WX ρ us "stop" t=true)->(∀ H',Aj H H'->Q (.bl true) H')->S8 vs H Q a8
theorem fD:Av ["row","ahead","names"] kw (Ae jM):=Bh
include N T in
theorem eY:Ar P w K mg base BW 5 aD.fIs aD.dIs kw S8:=by
 refine N.FIs.1.Dp fD λH vs Q E O h=>?_
 obtain⟨r,p,ro,L,ρ,c,rfl,F,W,J,hl,G,nd,tG,U,q⟩:=h
 refine⟨_,(Af (BX (i:=2) fD.nd rfl (Or.inl rfl) (Ek Lp (pv 0) (Ew Ac) Gd))
  (Af (Bv (PW.pt (G4 (BV Dt (BJ BR rfl T.len cq (Aa (pv 2) Ab)) Ac (Ba _)) (Ga (DP (Dl (BJ (G8 rfl) rfl T.all fA (Aa (Bj rfl (BP (osc:=Ae jM) (N:=["row","ahead","names"]) rfl rfl (by decide)) (Pk (pv 2)) (λ_ _ _ _=>By) (λ_ _ _ _=>(zC (Yb N T) O rfl N.FTo (Aa (pv 2) (Aa Bb (Aa (pv 0) Ab)))))) Ab))))))) (Ag (Az Jq)) Bf)
  (Ag (Az (Ef Dt (BJ Kd rfl T.len cq (Aa (DR (RC rfl) rfl T.set PyProof.Rows.boot_set (Aa (pv 2) Ab)) Ab)) (BJ BR rfl T.len cq (Aa (pv 2) Ab)) (Ba _)))))),?_⟩
 have hv:ro.v=V.str ro.w::c.map V.str:=by
  show V.str ro.w::(V.str ro.nm::ro.rest)=_
  rw[G]
 rw[hv] at F
 have ab:1<=c.length:=by
  cases c with
  | nil=>cases G
  | cons a b=>exact dr (ee _)
 have d:Dy (V.str ro.w::c.map V.str) (some 1) none=c.map V.str:=by
  unfold Dy
  have l:HT.Do (V.str ro.w::c.map V.str).length 0 (some 1)=1:=by
   rw[show (some (1:Int))=some ((1:Nat):Int) from rfl,HT.Fj]
   simp
  rw[l,HT.Ji]
  simp
  exact fe (by rw[af];exact ai _)
 refine⟨_,rfl,_,rfl,r,_,rfl,iO F,?_,λf wW=>?_⟩
 ·rintro⟨z,_⟩
  have l:HT.Do (V.str ro.w::c.map V.str).length 0 (some 1)=1:=by
   rw[show (some (1:Int))=some ((1:Nat):Int) from rfl,HT.Fj]
   simp
  rw[l] at z
  cases z
 rw[d]
 obtain⟨X,b9,m,B⟩:=Kg (o:=HO.tup (c.map V.str)) wW
 rw[b9]
 have t:Er K X f (c.map V.str):=.inl (.inl B)
 have v:(c.map V.str).length=c.length:=af ..
 refine⟨_,rfl,f,_,rfl,.inr t,rfl,_,rfl,Cr (λz=>?_) (λ_=>?_)⟩
 ·exfalso
  have:=V.int.inj (of_decide_eq_true z)
  omega
 refine⟨_,rfl,f,rfl,⟨_,t⟩,M6 (K:=K) (xs:=c.map V.str) (λ_=>true) (λ_=>.bl true) t (Ax (by omega)) (λx C j s R k=>k j (Aj.refl j)) (λx C _ j s R k=>?_) (λD H2 hD A n=>?_)⟩
 ·obtain⟨z,Y,rfl⟩:=ay.mp C
  obtain⟨I,z2⟩:=U z Y
  refine⟨_,rfl,_,rfl,p,L,"stop",z,ρ,rfl,s _ _ (m _ _ W),(J.mono m).mono s,hl,I,λH3 g=>?_⟩
  rw[z2]
  exact k H3 g
 ·refine⟨D,List.replicate c.length true,rfl,.inl (.inl ?_),_,rfl,?_⟩
  ·rw[n,br.mpr (λ_ _=>rfl),aT]
   congr 2
   refine ff λi=>?_
   rw[ar,ar,List.getElem?_replicate]
   by_cases u:i<c.length
   ·rw[ae u,if_pos u]
    rfl
   ·rw[dQ (by omega),if_neg u]
    rfl
  have M:(List.replicate c.length true).all id=true:=by simp
  rw[M]
  refine Dj ?_
  have y:=A _ _ B
  refine⟨_,rfl,f,c,rfl,iO y,by omega,λS Z=>?_⟩
  have g:=BZ (o:=Ms P w S (c.foldl Ws.Fq [])) Z
  refine⟨S,_,rfl,Al,_,rfl,f,_,rfl,.inr (.inl (.inl (g _ _ y))),rfl,?_⟩
  have e:c.foldl Ws.Fq []=c:=(Ko c [] (by rw[List.nil_append];exact nd)).trans (List.nil_append _)
  have e2:decide (V.int (((c.foldl Ws.Fq []).length:Nat):Int)=V.int (((c.map V.str).length:Nat):Int))=true:=decide_eq_true (by rw[e,v])
  rw[e2]
  exact q _ (m.trans (A.trans g))
inductive Xz (K:W.Frag) (aB aP aM:Addr) (vs:List V) (H:Hp) (Q:VK) (a8:XK):Prop
 | mk (r p:Addr) (ro:R) (us:List V) (ρ:V->R):vs=[.ref r,.ref p]->H r=some (.tup ro.v)->H p=some (.lst us)->Rows H ρ us->us.length<=500->Gz K aB aP aM ρ us ro->(∀ H',Aj H H'->Q (.bl true) H')->Xz K aB aP aM vs H Q a8
theorem lQ:Av kw kw (Ae oV):=Bh
include N T in
theorem iM:Ar P w K mg base BW 6 aD.fWm aD.dWm kw (Xz K aB aP aM):=by
 refine N.FWm.1.Dp lQ λH D Q E f h=>?_
 obtain⟨r,p,ro,e,ρ,rfl,b,g,d,k,B,q⟩:=h
 refine⟨_,(Af (Bv (BV Dt (A_ (Am (K:=K) rfl) (pv 0) Ac (λ_ _=>rfl)) Bb (Ba _)) (Ag (Az (zC (eY N T) f rfl N.FIs (Aa (pv 0) (Aa (pv 1) Ab))))) Bf)
  (Af (Bv (BV Dt (A_ (Am (K:=K) rfl) (pv 0) Ac (λ_ _=>rfl)) Bb (Ba _)) (Ag (Az (Cj (zC (h_ N T) f rfl N.FHp (Aa (pv 0) (Aa (pv 1) Ab))) (Cp (zC (dD N T) f rfl N.FSb (Aa (pv 0) (Aa (pv 1) Ab))))))) Bf)
  (Ag (Az (Cj (TJ (Uu (A_ (Am (K:=K) rfl) (pv 0) Ac (λ_ _=>rfl)) (CJ (v:=.ref aP) rfl T.mP rfl))) (Cp (zC (h_ N T) f rfl N.FHp (Aa (pv 0) (Aa (pv 1) Ab))))))))),?_⟩
 refine⟨_,rfl,r,_,_,_,rfl,rfl,iO b,Ai (j:=0) rfl,rfl,_,rfl,?_⟩
 rcases B with ok | ok
 case inr =>
  obtain⟨t,C,nd,s,A⟩:=ok.ts
  refine Cr (λ_=>?_) (λz=>absurd (decide_eq_true (congrArg V.str ok.w)) z)
  exact⟨_,rfl,_,rfl,r,p,ro,e,ρ,t,rfl,b,g,d,k,C,nd,s,A,q⟩
 obtain⟨o,ps,l,n,a,m,c⟩:=ok.parts
 refine Cr (λz=>absurd (V.str.inj (of_decide_eq_true z)) ok.ns) (λ_=>?_)
 refine⟨_,rfl,r,_,_,_,rfl,rfl,iO b,Ai (j:=0) rfl,rfl,_,rfl,?_⟩
 refine Cr (λz=>?_) (λ_=>?_)
 ·have x:=ok.line (V.str.inj (of_decide_eq_true z))
  refine⟨_,rfl,_,rfl,r,p,ro.w,_,e,ρ,o,ps,rfl,b,g,d,k,l,n,a,m,c,λF i=>⟨_,rfl,Dw ?_⟩⟩
  exact⟨_,rfl,_,rfl,r,p,ro,e,ρ,rfl,i _ _ b,i _ _ g,d.mono i,k,x,ok.cg,λy u=>q y (i.trans u)⟩
 refine⟨_,rfl,r,_,_,_,rfl,rfl,iO b,Ai (j:=0) rfl,aP,_,_,rfl,rfl,T.dP,l,_,rfl,Dw ?_⟩
 exact⟨_,rfl,_,rfl,r,p,ro.w,_,e,ρ,o,ps,rfl,b,g,d,k,l,n,a,m,c,q⟩
inductive cF (K:W.Frag) (aM:Addr) (vs:List V) (H:Hp) (Q:VK) (a8:XK):Prop
 | mk (p:Addr) (w:Str) (us:List V) (ρ:V->R):vs=[.str w,.ref p]->H p=some (.lst us)->Rows H ρ us->us.length<=500->(W.nsIn K aM w=some none \/ ∃ (m:Int) (t:Tok),W.nsIn K aM w=some (some (.int m t))/\(((us.filter (pw ρ w)).length:Nat):Int)<m)->(∀ H',Aj H H'->Q (.bl true) H')->cF K aM vs H Q a8
theorem pG:Av pE pE (Ae oJ):=Bh
include N T in
theorem iu:Ar P w K mg base BW 2 aD.fHr aD.dHr pE (cF K aM):=by
 refine N.FHr.1.Dp pG λH n Q E k h=>?_
 obtain⟨p,w,d,ρ,rfl,l,f,g,a,q⟩:=h
 refine⟨_,(Ag (Az (fJ (TJ (Rj (pv 0) (CJ (v:=.ref aM) rfl T.mM rfl))) (Cp (Ef Fd (BJ BR rfl T.len cq (Aa (zC (Np N T) k rfl N.FRo (Aa (pv 1) (Aa (pv 0) Ab))) Ab)) (LR (CJ (v:=.ref aM) rfl T.mM rfl) (pv 0) (λ_ _=>rfl)) (Ba _)))))),?_⟩
 rcases a with b | ⟨m,t,b,j⟩
 ·refine⟨_,rfl,aM,w,_,rfl,rfl,T.dM,b,_,rfl,Dw ?_⟩
  exact q H (Aj.refl H)
 refine⟨_,rfl,aM,w,_,rfl,rfl,T.dM,b,_,rfl,Dj ?_⟩
 refine⟨_,rfl,_,rfl,p,d,w,ρ,rfl,l,f,g,λD e o i c=>?_⟩
 refine⟨D,_,rfl,iO (.inl c),_,rfl,aM,w,.int m,_,rfl,rfl,T.dM,b,⟨t,rfl⟩,_,_,rfl,rfl,?_⟩
 show Q (.bl (decide ((((d.filter (pw ρ w)).length:Nat):Int)<m))) e
 rw[decide_eq_true j]
 exact q e i
def W8 (K:W.Frag) (aB aP aM:Addr):Sp:=Xz K aB aP aM
theorem ou:Av pu pu (Ae oU):=Bh
include N T in
theorem gW:Ar P w K mg base BW 7 aD.fIr aD.dIr pu (W8 K aB aP aM):=by
 refine N.FIr.1.ok ou (λn H Q E h=>?_) (λx A e s H n Q E i h=>?_)
 ·obtain⟨r,p,ro,d,ρ,rfl,_⟩:=h
  rfl
 ·obtain⟨r,p,ro,d,ρ,rfl,b,k,f,g,ok,q⟩:=h
  refine⟨_,(Af (Bv (PW.pt (G4 (DP (Dl (BJ Cd rfl T.isin bE (Aa (pv 0) (Aa (Du (v:=.ty "tuple") rfl T.tuple PyProof.Rows.boot_tuple rfl) Ab))))) (G4 (BV Dt (BJ BR rfl T.len cq (Aa (pv 0) Ab)) Ac (Ba _)) (Ga (DP (Dl (BJ Cd rfl T.isin bE (Aa (A_ (Am (K:=K) rfl) (pv 0) Ac (λ_ _=>rfl)) (Aa (Du (v:=.ty "str") rfl T.str PyProof.Rows.boot_str rfl) Ab))))))))) (Ag (Az Jq)) Bf)
   (Ag (Az (Cj (zC (iM N T) i rfl N.FWm (Aa (pv 0) (Aa (pv 1) Ab))) (Cp (zC (iu N T) i rfl N.FHr (Aa (A_ (Am (K:=K) rfl) (pv 0) Ac (λ_ _=>rfl)) (Aa (pv 1) Ab)))))))),?_⟩
  have a:W.nsIn K aM ro.w=some none \/ ∃ (m:Int) (t:Tok),W.nsIn K aM ro.w=some (some (.int m t))/\(((d.filter (pw ρ ro.w)).length:Nat):Int)<m:=Gz.room ok
  refine⟨_,rfl,_,"tuple",_,_,rfl,.tup b,YH,_,rfl,Dj ?_⟩
  refine⟨_,rfl,r,_,rfl,.inr (.inl (.inl b)),rfl,_,rfl,?_⟩
  refine Cr (λz=>?_) (λ_=>?_)
  ·exfalso
   have:=of_decide_eq_true z
   have:=V.int.inj this
   simp at this
   omega
  refine⟨_,rfl,r,_,_,_,rfl,rfl,iO b,Ai (j:=0) rfl,_,"str",_,_,rfl,.str _,YZ,_,rfl,Dj ?_⟩
  refine⟨_,rfl,_,rfl,r,p,ro,d,ρ,rfl,b,k,f,g,ok,λu c=>⟨_,rfl,Dw ?_⟩⟩
  exact⟨_,rfl,r,_,_,_,rfl,rfl,iO (c _ _ b),Ai (j:=0) rfl,_,rfl,p,ro.w,d,ρ,rfl,c _ _ k,f.mono c,g,a,λo l=>q o (c.trans l)⟩
inductive ZX (K:W.Frag) (aB aP aM:Addr) (vs:List V) (H:Hp) (Q:VK) (a8:XK):Prop
 | mk (p:Addr) (us:List V) (ρ:V->R):vs=[.ref p]->H p=some (.lst us)->Rows H ρ us->1<=us.length->us.length<=150->(∀ (i:Nat) v,us[i]? = some v->Gz K aB aP aM ρ (us.take i) (ρ v))->(us.filter (pw ρ "board")).isEmpty=false->(∀ H',Aj H H'->Q .non H')->ZX K aB aP aM vs H Q a8
theorem aR:Av ["rows","at","row"] ["rows"] (Ae kO):=Bh
include N T in
theorem iQ:Ar P w K mg base BW 8 aD.fCk aD.dCk ["rows"] (ZX K aB aP aM):=by
 refine N.FCk.1.Dp aR λH X Q E C h=>?_
 obtain⟨p,b,ρ,rfl,s,m,h1,h2,A,I,q⟩:=h
 obtain⟨J,R⟩:=T.mostR
 refine⟨_,(Af (Bv (PW.pt (G4 (DP (Dl (BJ Cd rfl T.isin bE (Aa (pv 0) (Aa (Du (v:=.ty "list") rfl T.list dc rfl) Ab))))) (Ga (DP (G3 Dh Dh Ac (BJ BR rfl T.len cq (Aa (pv 0) Ab)) (CJ (v:=.int 150) rfl R ⟨J,rfl⟩)))))) (Ag Ez) Bf)
  (Af (Cv PassesOwn.never rfl (JS rfl T.enumerate (Aa (pv 0) Ab)) (Lr rfl (Ei (Bp (i:=1) aR.nd rfl (Or.inl rfl)) (Ei (Bp (i:=2) aR.nd rfl (Or.inl rfl)) Jc))) (Ag (Bv (DP (Dl (zC (gW N T) C rfl N.FIr (Aa (pv 2) (Aa (Ek JT (pv 0) Gd (Ew (pv 1))) Ab))))) (Ag Ez) Bf)))
  (Ag (Bv (DP (J3 (zC (Np N T) C rfl N.FRo (Aa (pv 0) (Aa Bb Ab))) (λ_=>rfl))) (Ag Ez) Bf)))),?_⟩
 have k:CV K H p b:=.inl (.inl s)
 refine⟨_,rfl,_,"list",_,_,rfl,.lst s,Qe,_,rfl,Dj ?_⟩
 refine⟨_,rfl,p,_,rfl,.inl k,_,_,rfl,rfl,_,rfl,?_⟩
 refine Cr (λ_=>?_) (λz=>absurd (decide_eq_true (by omega)) z)
 refine⟨_,_,rfl,rfl,_,rfl,?_⟩
 have d:decide ((b.length:Int)<=150)=true:=decide_eq_true (by omega)
 rw[d]
 refine Dj ?_
 refine⟨_,rfl,p,rfl,⟨_,k⟩,Jh (K:=K) (a:=p) (xs:=b) (λi σ e=>Aj H e/\∃ u B,σ=[some (.ref p),u,B]) ⟨Aj.refl H,_,_,rfl⟩ (λi σ e _ h=>h.1.seq k) ?_ ?_⟩
 ·rintro i x σ e F y ⟨f,u,B,rfl⟩ U
  have g:=BZ (o:=HO.tup [.int (i:Int),x]) U
  refine⟨F,_,rfl,iO Al,rfl,_,_,rfl,_,_,rfl,rfl,?_⟩
  generalize upd e F (HO.tup [.int (i:Int),x])=j at g |-
  have c:=f.trans g
  have hi:i<b.length:=(ag.mp y).1
  obtain⟨r,rfl,S⟩:=(m.mono c) x (av y)
  refine⟨_,rfl,_,rfl,_,rfl,_,rfl,p,_,rfl,c.seq k,λl M=>?_⟩
  have n:=BZ (o:=HO.lst (Dy b none (some (i:Int)))) M
  have t:upd j l (HO.lst (Dy b none (some (i:Int)))) l=_:=Al
  generalize upd j l (HO.lst (Dy b none (some (i:Int))))=Z at n t |-
  rw[Jm b i (by omega)] at t
  have G:=c.trans n
  refine⟨r,l,ρ (.ref r),b.take i,ρ,rfl,n _ _ S,t,(m.mono G).sub λv V=>fE V,by rw[df];omega,A i _ y,λW L=>⟨_,rfl,Dj ?_⟩⟩
  exact⟨G.trans L,_,_,rfl⟩
 ·rintro σ e ⟨f,u,B,rfl⟩
  refine⟨_,rfl,p,b,"board",ρ,rfl,f _ _ s,m.mono f,by omega,λD j Y g O=>?_⟩
  refine⟨_,.inl ⟨_,iO O,rfl⟩,?_⟩
  rw[I]
  exact Dj (q j (f.trans g))
inductive ZG (vs:List V) (H:Hp) (Q:VK) (a8:XK):Prop
 | mk (p:Addr) (ts:List Str):vs=[.ref p]->H p=some (.lst (ts.map V.str))->ts.length<=300->ts.Nodup->(∀ D (kvs:List (Key × V)) H',H D=none->Aj H H'->H' D=some (.dK kvs)->(∀ (i:Nat) t,ts[i]? = some t->Ci kvs (Sum.inr t)=some (.int (i:Nat)))->(∀ t,t ∉ ts->Ci kvs (Sum.inr t)=none)->Q (.ref D) H')->ZG vs H Q a8
theorem Xx:Av ["names","numbers","number","name"] ["names"] (Ae pH):=Bh
include N T in
theorem iD:Ar P w K mg base BW 1 aD.fNu aD.dNu ["names"] ZG:=by
 refine N.FNu.1.Dp Xx λH Y Q E O h=>?_
 obtain⟨p,l,rfl,S,hl,nd,q⟩:=h
 have M:=Fz O
 refine⟨_,(Af (BX (i:=1) Xx.nd rfl (Or.inl rfl) KQ)
  (Af (Cv PassesOwn.never rfl (JS rfl T.enumerate (Aa (pv 0) Ab)) (Lr rfl (Ei (Bp (i:=2) Xx.nd rfl (Or.inl rfl)) (Ei (Bp (i:=3) Xx.nd rfl (Or.inl rfl)) Jc))) (Ag (Lk M (pv 1) (pv 3) (pv 2) rfl)))
  (Ag (Az (pv 1))))),?_⟩
 intro D v
 have L:=BZ (o:=HO.dK []) v
 have G:CV K H p (l.map V.str):=.inl (.inl S)
 refine⟨_,rfl,p,rfl,⟨_,L.seq G⟩,Jh (K:=K) (a:=p) (xs:=l.map V.str) (λi σ g=>Aj H g/\∃ (c:List (Key × V)),g D=some (.dK c)/\c.length<=i/\(∀ (j:Nat) t,j<i->l[j]? = some t->Ci c (Sum.inr t)=some (.int (j:Nat)))/\(∀ t,t ∉ l->Ci c (Sum.inr t)=none)/\∃ B C,σ=[some (.ref p),some (.ref D),B,C])
  ⟨L,[],Al,ai _,λj t n=>absurd n (ic _),λt _=>V1,_,_,rfl⟩ (λi σ g _ h=>h.1.seq G) ?_ ?_⟩
 ·rintro i x σ g J I ⟨A,c,r,U,F,y,B,C,rfl⟩ X
  rw[ar] at I
  obtain⟨t,f,rfl⟩:=cr.mp I
  have hi:i<l.length:=(ag.mp f).1
  have s:=BZ (o:=HO.tup [.int (i:Int),.str t]) X
  refine⟨J,_,rfl,iO Al,rfl,_,_,rfl,_,_,rfl,rfl,?_⟩
  generalize upd g J (HO.tup [.int (i:Int),.str t])=Z at s |-
  refine⟨_,rfl,_,rfl,_,rfl,D,_,rfl,N6.k (k:=Sum.inr t) (s _ _ r) (Ax (by omega)),?_⟩
  refine⟨λb u e=>?_,putK c (Sum.inr t) (.int (i:Int)),Al,bi (G_ _ _ _) (by omega),λj m n d=>?_,λm d=>(by rw[KC,if_neg λz=>d (by rw[Sum.inr.inj z];exact av f)];exact y m d),_,_,rfl⟩
  ·rw[Aw (An e v)]
   exact s _ _ (A _ _ e)
  ·rw[KC]
   by_cases e:m=t
   ·subst e
    have:j=i:=by
     obtain⟨h1,R⟩:=ag.mp d
     obtain⟨h2,W⟩:=ag.mp f
     exact (List.getElem_inj nd).mp (R.trans W.symm)
    subst this
    rw[if_pos rfl]
   ·rw[if_neg λz=>e (Sum.inr.inj z)]
    refine F j m ?_ d
    rcases Nat.lt_succ_iff_lt_or_eq.mp n with z | z
    ·exact z
    ·subst z
     rw[f] at d
     exact absurd (Option.some.inj d).symm e
 ·rintro σ g ⟨A,c,r,U,F,y,B,C,rfl⟩
  refine⟨_,rfl,q D c g v A r (λi t f=>F i t ?_ f) y⟩
  rw[af]
  exact (ag.mp f).1
inductive RM (vs:List V) (H:Hp) (Q:VK) (a8:XK):Prop
 | mk (p:Addr) (as:List Th) (us:List V):vs=[.ref p]->H p=some (.lst us)->Paired (λ(a:Th) y=>TupAt H (tV a) y) as us->as.length<=500->(∀ a∈as,a.2.1<=100)->(∀ H',Aj H H'->Q (.int ((as.map λa=>a.2.1).sum:Nat)) H')->RM vs H Q a8
theorem Qa:∀ l:List Nat,(l.map λn:Nat=>(n:Int)).sum=((l.sum:Nat):Int)
 | []=>rfl
 | n::l=>by
  rw[cy,List.sum_cons,List.sum_cons,Qa l]
  omega
theorem o7:Av nI nI (Ae jm):=Bh
include N T in
theorem YJ:Ar P w K mg base BW 1 aD.fCa aD.dCa nI RM:=by
 refine N.FCa.1.Dp o7 λH I Q E C h=>?_
 obtain⟨p,o,l,rfl,B,g,G,v,q⟩:=h
 refine⟨_,(Ag (Az (BJ (Vy rfl) rfl T.sum PyProof.Rows.boot_sum (Aa (Bj rfl (BP (osc:=Ae jm) (N:=nI) rfl rfl (by decide)) (Bc (pv 0)) (λ_ _ _ _=>By) (λ_ _ _ _=>(A_ (Am (K:=K) rfl) (pv 0) Ac (λ_ _=>rfl)))) Ab)))),?_⟩
 have t:CV K H p l:=.inl (.inl B)
 have J:=g.length
 refine⟨_,rfl,p,rfl,⟨_,t⟩,Bs (K:=K) (xs:=l) (λ_=>true) (Ra H 1) t (Ax (by omega)) (λx s c f R k=>k c (Aj.refl c)) (λx s _ c f R k=>?_) (λD c F f d=>?_)⟩
 ·obtain⟨b,_,r⟩:=C_ g s
  have e:=Ia r 1
  obtain⟨y,rfl,z⟩:=r.mono f
  refine⟨_,rfl,y,_,_,_,rfl,rfl,iO z,Ai (j:=1) rfl,?_⟩
  have:=k c (Aj.refl c)
  rw[e] at this
  exact this
 ·rw[br.mpr (λ_ _=>rfl),JX 1 g] at d
  have e:(o.map λa=>(tV a).getD 1 V.non)=((o.map λa=>a.2.1).map λn:Nat=>(n:Int)).map V.int:=by
   rw[aT,aT]
   rfl
  rw[e] at d
  refine⟨D,_,rfl,iO d,λn u=>?_,by simp;omega,?_⟩
  ·obtain⟨m,A,rfl⟩:=ay.mp u
   obtain⟨b,i,rfl⟩:=ay.mp A
   have:=v b i
   omega
  ·rw[Qa]
   exact q c f
theorem gq (h:n<=3000):n<sizeLine:=bv h (by decide)
inductive bj (vs:List V) (H:Hp) (Q:VK) (a8:XK):Prop
 | mk (p:Addr) (as:List Th) (us:List V):vs=[.ref p]->H p=some (.lst us)->Paired (λ(a:Th) y=>TupAt H (tV a) y) as us->as.length<=12->(∀ a∈as,a.2.1<=97)->(∀ D ys H',H D=none->Aj H H'->H' D=some (.lst ys)->Paired (λq y=>TupAt H' (qV q) y) (Fo (as.map tN)) ys->Q (.ref D) H')->bj vs H Q a8
theorem XX:Av ["things","places","number","thing"] nI (Ae jq):=Bh
include N T in
theorem ig:Ar P w K mg base BW 1 aD.fPl aD.dPl nI bj:=by
 refine N.FPl.1.Dp XX λH vs Q E hr h=>?_
 obtain⟨p,g,L,rfl,hp,t,hl,M,q⟩:=h
 refine⟨_,(Af (BX (i:=1) XX.nd rfl (Or.inl rfl) (Dk Ab))
  (Af (Cv PassesOwn.never rfl (JS rfl T.enumerate (Aa (pv 0) Ab)) (Lr rfl (Ei (Bp (i:=2) XX.nd rfl (Or.inr rfl)) (Ei (Bp (i:=3) XX.nd rfl (Or.inl rfl)) Jc))) (Ag (Ck (FW bb PySem.F.slot_list_extend PySem.F.type_list_extend SQ (pv 1) (Aa (Bj rfl (BP (osc:=Ae jq) (N:=["things","places","number","thing"]) rfl rfl (by decide)) (DX rfl T.range (Aa (A_ (Am (K:=K) rfl) (pv 3) Ac (λ_ _=>rfl)) Ab)) (λ_ _ _ _=>By) (λ_ _ _ _=>(CN (Aa (pv 3) (Aa (pv 0) Ab))))) Ab)))))
  (Ag (Az (pv 1))))),?_⟩
 refine⟨FP (by simp),λD B=>?_⟩
 have W:=BZ (o:=HO.lst []) B
 have S:CV K H p L:=.inl (.inl hp)
 have zg:=t.length
 refine⟨_,rfl,p,rfl,⟨_,W.seq S⟩,Jh (K:=K) (a:=p) (xs:=L) (λi σ c=>Aj H c/\∃ f,c D=some (.lst f)/\Paired (λq y=>TupAt c (qV q) y) (Fo ((g.map tN).take i)) f/\∃ I J,σ=[some (.ref p),some (.ref D),I,J])
  ⟨W,[],Al,.nil,_,_,rfl⟩ (λi σ c _ h=>h.1.seq S) ?_ ?_⟩
 ·rintro i x σ c U hx ⟨z,f,A,v,I,J,rfl⟩ hT
  obtain⟨b,C,Z⟩:=El t hx
  have hi:i<g.length:=(ag.mp C).1
  have Pd:=M b (av C)
  have m:(g.map tN)[i]? = some (tN b):=by rw[ar,C];rfl
  have l:=BZ (o:=HO.tup [.int (i:Int),x]) hT
  refine⟨U,_,rfl,iO Al,rfl,_,_,rfl,_,_,rfl,rfl,?_⟩
  generalize upd c U (HO.tup [.int (i:Int),x])=H5 at l |-
  obtain⟨r,rfl,f'⟩:=Z.mono (z.trans l)
  have X:=Aq l v
  have s:=l _ _ A
  refine⟨_,rfl,.inl ⟨rfl,_,iO s⟩,_,rfl,r,_,_,_,rfl,rfl,iO f',Ai (j:=1) rfl,_,rfl,by omega,by omega,?_⟩
  rw[dA]
  refine Ri (n:=b.2.1) (λe=>qV (i,e)) (Ax (by omega)) (λe he H6 d R k=>?_) (λD6 H6 V R' d Y O=>?_)
  ·refine⟨_,rfl,_,rfl,by show 2<=sizeLine;decide,λT6 G=>?_⟩
   exact k _ _ (BZ G) ⟨T6,rfl,Al⟩
  ·have ly:=(Aq d X).length
   have lz:=O.length
   have lp:=Lb ((g.map tN).take i) 97 λb t=>by
    obtain⟨a,ha,rfl⟩:=ay.mp (fE t)
    exact M a ha
   rw[df,af] at lp
   rw[dE] at lz
   have:min i g.length * 97<=12 * 97:=hV _ (by omega)
   refine⟨D,D6,f,V,rfl,rfl,d _ _ s,Y,eI (gq (by omega)),?_⟩
   refine⟨λb u e=>?_,f++V,Al,?_,_,_,rfl⟩
   ·rw[Aw (An e B)]
    exact d _ _ (l _ _ (z _ _ e))
   ·rw[Hv m]
    exact Dm (CT (Aq d X) (d _ _ s)) (B_ (F:=λq y=>TupAt _ (qV q) y) (λe=>(i,e)) (CT O (d _ _ s)))
 ·rintro σ c ⟨z,f,A,v,I,J,rfl⟩
  rw[<-zg,fe (by rw[af];exact ai _)] at v
  exact⟨_,rfl,q D f c B z A v⟩
theorem Jb {α:Type} (l:List α) (x:α):Ox (l++[x]) (-1)=some x:=by
 unfold Ox Yy
 rw[if_neg (by decide),if_pos (by rw[ah,bq];omega)]
 show (l++[x])[(-1+(((l++[x]).length:Nat):Int)).toNat]? = some x
 have e:(-1+(((l++[x]).length:Nat):Int)).toNat=l.length:=by
  rw[ah,bq]
  omega
 rw[e,de (ai _),iq]
 rfl
theorem J_ {l:List Ln} {v:V} {A:Addr} (h:GR H l v) (b:H A=some (.lst xs)) (e:v ≠ .ref A):GR (upd H A (.lst ys)) l v:=by
 obtain⟨B,d,rfl,c,a⟩:=h
 have:B ≠ A:=λz=>e (by rw[z])
 exact⟨B,d,rfl,by rw[Aw this];exact c,CT a b⟩
theorem DN {α β:Type} {F G:α->β->Prop}:∀ {l:List α} {vs:List β},Paired F l vs->(∀ a b,b∈vs->F a b->G a b)->Paired G l vs
 | [],_,h,_=>by cases h;exact .nil
 | a::l,_,h,k=>by
  cases h with
  | cons x y=>exact .cons (k _ _ (bt ..) x) (DN y λa b c=>k a b (ba _ c))
theorem Hz {α β:Type} {F:α->β->Prop}:∀ {l:List α} {z:α} {vs:List β},Paired F (l++[z]) vs->∃ us u,vs=us++[u]/\Paired F l us/\F z u
 | [],z,_,h=>by
  cases h with
  | cons x y=>cases y;exact⟨[],_,rfl,.nil,x⟩
 | a::l,z,_,h=>by
  cases h with
  | cons x y =>
   obtain⟨us,u,rfl,c,b⟩:=Hz y
   exact⟨_::us,u,rfl,.cons x c,b⟩
theorem Eh {α:Type} {l:List α} (h:l ≠ []):∃ a z,l=a++[z]:=⟨l.dropLast,l.getLast h,(List.dropLast_concat_getLast h).symm⟩
theorem Mz:∀ {rs:List R},(∃ r∈rs,HR r.w=true)->linesOf rk rs ≠ []:=by
 have d:∀ (n:Nat) (rs:List R),rs.length=n->(∃ r∈rs,HR r.w=true)->linesOf rk rs ≠ []:=by
  intro n
  induction n with
  | zero =>
   rintro rs c ⟨r,f,_⟩
   cases rs with
   | nil=>cases f
   | cons a b=>cases c
  | succ n m =>
   rintro rs c ⟨r,f,i⟩
   obtain⟨a,z,rfl⟩:=Eh (l:=rs) (by intro e;rw[e] at c;cases c)
   rw[CP]
   rw[ah,bq] at c
   unfold Cy
   by_cases j:HR z.w=true
   ·rw[if_pos j]
    simp
   ·rw[if_neg j]
    have g:r∈a:=by
     rcases aI.mp f with h | h
     ·exact h
     ·rw[am.mp h] at i
      exact absurd i j
    have k:=m a (by omega) ⟨r,g,i⟩
    split
    ·obtain⟨b,y,e⟩:=Eh k
     rw[e,HJ]
     simp
    ·exact k
 exact λ{rs} h=>d rs.length rs rfl h
inductive Zw (vs:List V) (H:Hp) (Q:VK) (a8:XK):Prop
 | mk (p d:Addr) (us:List V) (ρ:V->R) (rk:List (Str × Nat × Int)) (kvs:List (Key × V)):vs=[.ref p,.ref d]->H p=some (.lst us)->Rows H ρ us->us.length<=500->H d=some (.dK kvs)->(∀ (i:Nat) r,rk[i]? = some r->Ci kvs (Sum.inr r.1)=some (.int (i:Nat)))->(rk.map (·.1)).Nodup->(∀ (i:Nat) v,us[i]? = some v->(ρ v).w = "line"->(∃ (j:Nat) (r:Str × Nat × Int) (sh lo hi:Int),rk[j]? = some r/\r.1=(ρ v).nm/\(ρ v).rest=[.int sh,.int lo,.int hi])/\∃ u∈us.take i,HR (ρ u).w=true)->(∀ D H',H D=none->Aj H H'->Df p H' D (linesOf rk (us.map ρ))->Q (.ref D) H')->Zw vs H Q a8
theorem bD {r:Str × Nat × Int} (nd:(rk.map (·.1)).Nodup) (h:rk[j]? = some r):(rk.map (·.1)).idxOf r.1=j:=by
 have a:j<(rk.map (·.1)).length:=by rw[af];exact (ag.mp h).1
 have e:(rk.map (·.1))[j]=r.1:=by
  rw[iN]
  exact congrArg (·.1) (ag.mp h).2
 rw[<-e]
 exact List.Nodup.idxOf_getElem nd j a
theorem aq:Av ["rows","rank_numbers","lines","row"] o5 (Ae my):=Bh
include N T in
theorem gb:Ar P w K mg base BW 1 aD.fLi aD.dLi o5 Zw:=by
 refine N.FLi.1.Dp aq λH vs Q E hr h=>?_
 obtain⟨p,d,f,ρ,y,aN,rfl,hp,hR,hl,G1,qq,an,CA,q⟩:=h
 have hu:=Fz hr
 refine⟨_,(Af (BX (i:=2) aq.nd rfl (Or.inl rfl) (Dk Ab))
  (Af (Cv PassesOwn.never rfl (Bc (pv 0)) (Bp (i:=3) aq.nd rfl (Or.inl rfl)) (Af (Bv (BV (KD (K:=K) rfl) (A_ (Am (K:=K) rfl) (pv 3) Ac (λ_ _=>rfl)) (CJ (v:=.ref aK) rfl T.mK rfl) rfl) (Ag (Ck (FW bb bX ce Br (pv 2) (Aa (Dk Ab) Ab)))) Bf)
  (Ag (Bv (BV Dt (A_ (Am (K:=K) rfl) (pv 3) Ac (λ_ _=>rfl)) Bb (Ba _)) (Ag (Ck (FW bb bX ce Br (A_ (Ca (K:=K) rfl) (pv 2) (J2 Hj Ac) (λ_ _=>rfl)) (Aa (CN (Aa (GZ hu (pv 1) (A_ (Am (K:=K) rfl) (pv 3) Ac (λ_ _=>rfl)) (λ_ _=>rfl)) (Aa (A_ (Am (K:=K) rfl) (pv 3) Ac (λ_ _=>rfl)) (Aa (A_ (Am (K:=K) rfl) (pv 3) Ac (λ_ _=>rfl)) (Aa (A_ (Am (K:=K) rfl) (pv 3) Ac (λ_ _=>rfl)) Ab))))) Ab)))) Bf))))
  (Ag (Az (pv 2))))),?_⟩
 refine⟨FP (by simp),λD hD=>?_⟩
 have s0:=BZ (o:=HO.lst []) hD
 have hS:CV K H p f:=.inl (.inl hp)
 refine⟨_,rfl,p,rfl,⟨_,s0.seq hS⟩,Eo (K:=K) (a:=p) (xs:=f) (λi σ L=>Aj H L/\∃ n,L D=some (.lst n)/\Paired (λl v=>GR L l v) (linesOf y ((f.take i).map ρ)) n/\n.Nodup/\(∀ v∈n,v ≠ .ref D)/\(∀ v∈n,∃ A,v=.ref A/\H A=none)/\n.length<=i/\(∀ l∈linesOf y ((f.take i).map ρ),l.length<=i)/\∃ v3,σ=[some (.ref p),some (.ref d),some (.ref D),v3])
  ⟨s0,[],Al,.nil,List.nodup_nil,(λv s=>nomatch s),(λv s=>nomatch s),ai _,(λl hl=>nomatch hl),_,rfl⟩ (λi σ L _ h=>h.1.seq hS) ?_ ?_⟩
 ·rintro i x σ L hx ⟨M,n,I,F,nd,t,X,aw,Y,v3,rfl⟩
  have hm:=av hx
  have hi:i<f.length:=(ag.mp hx).1
  obtain⟨r,rfl,f'⟩:=(hR.mono M) x hm
  have O:(f.take (i+1)).map ρ=(f.take i).map ρ++[ρ (.ref r)]:=by
   rw[cE,hx,db]
   rfl
  have W:linesOf y ((f.take (i+1)).map ρ)=Cy y (linesOf y ((f.take i).map ρ)) (ρ (.ref r)):=by rw[O,CP]
  have aZ:(linesOf y ((f.take i).map ρ)).length=n.length:=F.length
  by_cases R:HR (ρ (.ref r)).w=true
  ·have N1:¬ (ρ (.ref r)).w = "line":=λz=>by rw[z] at R;exact absurd R (by decide)
   have c:linesOf y ((f.take (i+1)).map ρ)=linesOf y ((f.take i).map ρ)++[[]]:=by rw[W];unfold Cy;rw[if_pos R]
   refine⟨_,rfl,r,_,_,_,rfl,rfl,iO f',Ai (j:=0) rfl,aK,_,rfl,.inr (T.tK.sq _),rfl,rfl,_,rfl,?_⟩
   refine Cr (λ_=>?_) (λz=>absurd R z)
   refine⟨_,rfl,.inl ⟨rfl,_,iO I⟩,FP (by simp),λp5 Z=>?_⟩
   obtain⟨H5,b9,B,u5⟩:=Kg (o:=HO.lst []) Z
   rw[b9]
   have zS:=B _ _ I
   refine⟨D,n,_,rfl,rfl,zS,Ax (by omega),?_⟩
   have aC:r ≠ D:=QQ (B _ _ f') zS (by intro z;cases z)
   have al:p5 ≠ D:=λz=>by rw[z,I] at Z;cases Z
   refine⟨_,rfl,r,_,_,_,rfl,rfl,iO (by rw[Aw aC];exact B _ _ f'),Ai (j:=0) rfl,rfl,_,rfl,?_⟩
   refine Cr (λz=>absurd (V.str.inj (of_decide_eq_true z)) N1) (λ_=>?_)
   refine⟨λb u e=>?_,n++[.ref p5],Al,?_,?_,?_,?_,by simp;omega,?_,_,rfl⟩
   ·rw[Aw (An e hD)]
    exact B _ _ (M _ _ e)
   ·rw[c]
    refine Dm (DN F λl v s h=>J_ (h.mono B) zS (t v s)) (.cons ⟨p5,[],rfl,by rw[Aw al];exact u5,.nil⟩ .nil)
   ·refine Qv nd λhm=>?_
    obtain⟨l,_,J⟩:=C_ F hm
    obtain⟨A,ts,e,h1,_⟩:=J
    cases e
    rw[h1] at Z
    cases Z
   ·intro v s
    rcases aI.mp s with h | h
    ·exact t v h
    ·rw[am.mp h]
     intro z
     exact al (V.ref.inj z)
   ·intro v s
    rcases aI.mp s with h | h
    ·exact X v h
    ·exact⟨p5,am.mp h,M.free Z⟩
   ·intro l m
    rw[c] at m
    rcases aI.mp m with h | h
    ·exact gT (Y l h)
    ·rw[am.mp h]
     exact ee _
  ·refine⟨_,rfl,r,_,_,_,rfl,rfl,iO f',Ai (j:=0) rfl,aK,_,rfl,.inr (T.tK.sq _),rfl,rfl,_,rfl,?_⟩
   refine Cr (λz=>absurd z R) (λ_=>?_)
   refine⟨_,rfl,r,_,_,_,rfl,rfl,iO f',Ai (j:=0) rfl,rfl,_,rfl,?_⟩
   by_cases C:(ρ (.ref r)).w = "line"
   ·refine Cr (λ_=>?_) (λz=>absurd (decide_eq_true (congrArg V.str C)) z)
    obtain⟨⟨j,rr,sh,lo,U,hj,AO,nX⟩,u,hu,AY⟩:=CA i _ hx C
    have ab:linesOf y ((f.take i).map ρ) ≠ []:=Mz ⟨ρ u,ci hu,AY⟩
    obtain⟨ac,z,yZ⟩:=Eh ab
    rw[yZ] at F
    obtain⟨Fh,v,rfl,sf,hz⟩:=Hz F
    obtain⟨A,ts,rfl,J,vF⟩:=hz
    have c:linesOf y ((f.take (i+1)).map ρ)=ac++[z++[⟨j,sh,lo,U⟩]]:=by
     rw[W]
     unfold Cy
     rw[if_neg R,if_pos C,yZ,HJ]
     unfold lnOf
     rw[nX,<-AO,bD an hj]
    have G:L r=some (.tup [.str (ρ (.ref r)).w,.str (ρ (.ref r)).nm,.int sh,.int lo,.int U]):=by rw[f',<-nX]
    have g:=Gp.k (k:=Sum.inr rr.1) (M _ _ G1)
    rw[qq j rr hj,AO] at g
    have aB:A ≠ D:=λe=>t (.ref A) (by simp) (by rw[e])
    have a0:z.length<=i:=Y z (by rw[yZ];simp)
    have Se:=vF.length
    refine⟨_,rfl,_,rfl,D,_,_,_,rfl,rfl,iO I,Jb Fh (V.ref A),.inl ⟨rfl,_,iO J⟩,_,rfl,_,rfl,r,_,_,_,rfl,rfl,iO G,Ai (j:=1) rfl,d,_,rfl,g,_,rfl,r,_,_,_,rfl,rfl,iO G,Ai (j:=2) rfl,_,rfl,r,_,_,_,rfl,rfl,iO G,Ai (j:=3) rfl,_,rfl,r,_,_,_,rfl,rfl,iO G,Ai (j:=4) rfl,by show 4<=sizeLine;decide,λT5 S=>?_⟩
    obtain⟨H5,b9,B,u5⟩:=Kg (o:=HO.tup [.int (j:Nat),.int sh,.int lo,.int U]) S
    rw[b9]
    have BU:=B _ _ J
    have as:T5 ≠ A:=λe=>by rw[e,J] at S;cases S
    have ap:D ≠ A:=λe=>aB e.symm
    obtain⟨aP,_,yA⟩:=List.nodup_append.mp nd
    refine⟨A,ts,_,rfl,rfl,BU,Ax (by omega),?_⟩
    refine⟨λb u e=>?_,Fh++[.ref A],by rw[Aw ap];exact B _ _ I,?_,nd,t,X,by omega,?_,_,rfl⟩
    ·obtain⟨A',eA,Pc⟩:=X (.ref A) (by simp)
     cases eA
     rw[Aw (An e Pc)]
     exact B _ _ (M _ _ e)
    ·rw[c]
     refine Dm (DN sf λl v s h=>J_ (h.mono B) BU (λe=>yA v s _ (am.mpr rfl) e)) (.cons ⟨A,ts++[.ref T5],rfl,Al,Dm (CT (Aq B vF) BU) (.cons ⟨T5,rfl,by rw[Aw as];exact u5⟩ .nil)⟩ .nil)
    ·intro l m
     rw[c] at m
     rcases aI.mp m with h | h
     ·exact gT (Y l (by rw[yZ];exact cf _ h))
     ·rw[am.mp h,ah,bq]
      omega
   ·refine Cr (λz=>absurd (V.str.inj (of_decide_eq_true z)) C) (λ_=>?_)
    have c:linesOf y ((f.take (i+1)).map ρ)=linesOf y ((f.take i).map ρ):=by rw[W];unfold Cy;rw[if_neg R,if_neg C]
    rw[<-c] at F Y
    exact⟨M,n,I,F,nd,t,X,by omega,λl m=>gT (Y l m),_,rfl⟩
 ·rintro σ L ⟨M,n,I,F,nd,t,X,aw,Y,v3,rfl⟩
  rw[eD] at F
  have aM:D ≠ p:=Ne.symm (An hp hD)
  refine⟨_,rfl,q D L hD M ⟨n,I,aM,DN F λl v s h=>⟨h,λz=>?_⟩⟩⟩
  obtain⟨A,e,J⟩:=X v s
  rw[e] at z
  rw[V.ref.inj z,hp] at J
  cases J
abbrev nV (l:List Nat):List V:=l.map λn:Nat=>V.int (n:Int)
inductive ao (vs:List V) (H:Hp) (Q:VK) (a8:XK):Prop
 | mk (i:Int):vs=[.int i]->Q (.bl (decide (0<=i) && decide (i<1200))) H->ao vs H Q a8
theorem du:Av kt kt (Ae m5):=Bh
include N T in
theorem eV:Ar P w K mg base BW 2 aD.fMy aD.dMy kt ao:=by
 refine N.FMy.1.Dp du λH e Q E b h=>?_
 obtain⟨i,rfl,q⟩:=h
 obtain⟨c,d⟩:=T.below
 refine⟨_,(Ag (Az (Cj (zC (Ml N T) b rfl N.FWh (Aa (pv 0) Ab)) (Cp (GD Dh Fd Ac (pv 0) (CJ (v:=.int 1200) rfl d ⟨c,rfl⟩)))))),?_⟩
 refine⟨_,rfl,i,rfl,_,rfl,Dw ?_⟩
 refine⟨_,rfl,_,_,rfl,rfl,_,rfl,?_⟩
 refine Cr (λa=>?_) (λa=>?_)
 ·rw[a,gg] at q
  exact⟨_,_,rfl,rfl,q⟩
 ·rw[(fv _).mp a,gs] at q
  exact q
inductive Le (vs:List V) (H:Hp) (Q:VK) (a8:XK):Prop
 | mk (p:Addr) (l:List Nat):vs=[.ref p]->H p=some (.lst (nV l))->l.length<=500->(∀ n∈l,n<1200)->(∀ H',Aj H H'->Q (.int (Wd.mk l:Nat)) H')->Le vs H Q a8
theorem gD (l:List Nat) (n:Nat):Builtin.bitOr ((Wd.mk l:Nat):Int) (1 * 2 ^ ((n:Nat):Int).toNat)=((Wd.mk (l++[n]):Nat):Int):=by
 rw[Int.one_mul,dA,Gu,Ls,Wd.X3]
theorem XS:Av ["numbers","some","number"] ["numbers"] (Ae jk):=Bh
include N T in
theorem Mu:Ar P w K mg base BW 3 aD.fSt aD.dSt ["numbers"] Le:=by
 refine N.FSt.1.Dp XS λH C Q E B h=>?_
 obtain⟨p,l,rfl,t,G,r,q⟩:=h
 refine⟨_,(Af (Bv (PW.pt (G4 (DP (Dl (BJ Cd rfl T.isin bE (Aa (pv 0) (Aa (Du (v:=.ty "list") rfl T.list dc rfl) Ab))))) (Ga (DP (Dl (BJ (G8 rfl) rfl T.all fA (Aa (Bj rfl (BP (osc:=Ae jk) (N:=["numbers","some","number"]) rfl rfl (by decide)) (Bc (pv 0)) (λ_ _ _ _=>By) (λ_ _ _ _=>(zC (eV N T) B rfl N.FMy (Aa (pv 0) Ab)))) Ab))))))) (Ag Ez) Bf)
  (Af (BX (i:=1) XS.nd rfl (Or.inl rfl) Ac)
  (Af (Cv PassesOwn.never rfl (Bc (pv 0)) (Bp (i:=2) XS.nd rfl (Or.inl rfl)) (Ag (BX (i:=1) XS.nd rfl (Or.inl rfl) (BL Ui (pv 1) (BL VB Ac (pv 2))))))
  (Ag (Az (pv 1)))))),?_⟩
 have g:CV K H p (nV l):=.inl (.inl t)
 refine⟨_,rfl,_,"list",_,_,rfl,.lst t,Qe,_,rfl,Dj ?_⟩
 have j:(nV l).length<sizeLine:=Ax (by simp;omega)
 refine⟨_,rfl,p,rfl,⟨_,g⟩,Bs (K:=K) (xs:=nV l) (λ_=>true) (λ_=>.bl true) g j (λx o b c R k=>k b (Aj.refl b)) (λx o _ b c R k=>?_) (λD b F c u=>?_)⟩
 ·obtain⟨n,f,rfl⟩:=ay.mp o
  refine⟨_,rfl,(n:Int),rfl,?_⟩
  have e:(decide ((0:Int)<=(n:Int)) && decide ((n:Int)<1200))=true:=by
   have:=r n f
   simp
   omega
  rw[e]
  exact k b (Aj.refl b)
 ·refine⟨D,(nV l).map λ_=>true,rfl,.inl (.inl ?_),?_⟩
  ·rw[u,br.mpr (λ_ _=>rfl)]
   simp
  ·have e:((nV l).map λ_=>true).all id=true:=by simp
   rw[e]
   refine⟨_,rfl,Dj ?_⟩
   refine⟨_,rfl,p,rfl,⟨_,c.seq g⟩,Eo (K:=K) (a:=p) (xs:=nV l) (λi σ d=>d=b/\∃ m,σ=[some (.ref p),some (.int (Wd.mk (l.take i):Nat)),m]) ⟨rfl,_,rfl⟩ (λi σ d _ h=>by rw[h.1];exact c.seq g) ?_ ?_⟩
   ·rintro i y σ d s ⟨rfl,m,rfl⟩
    rw[ar] at s
    obtain⟨n,f,rfl⟩:=cr.mp s
    have A:=r n (av f)
    refine⟨_,rfl,_,rfl,_,_,rfl,rfl,⟨by omega,by omega,by decide⟩,_,_,rfl,rfl,?_⟩
    refine⟨rfl,some (.int (n:Int)),?_⟩
    try dsimp only
    rw[gD,cE,f]
    rfl
   ·rintro σ d ⟨rfl,m,rfl⟩
    have z:l.take (nV l).length=l:=List.take_of_length_le (by simp)
    rw[z]
    exact⟨_,rfl,q _ c⟩
def pq (nms:List Str):V->V
 | .str t=>.int (nms.idxOf t:Nat)
 | _=>.non
theorem Rr {nms:List Str} (h:t∈nms):nms[nms.idxOf t]? = some t:=by
 rw[ae (List.idxOf_lt_length_of_mem h),List.getElem_idxOf]
inductive U9 (vs:List V) (H:Hp) (Q:VK) (a8:XK):Prop
 | mk (r kd:Addr) (ro:R) (kvs:List (Key × V)) (nms ts:List Str):vs=[.ref r,.ref kd]->H r=some (.tup ro.v)->H kd=some (.dK kvs)->V.str ro.nm::ro.rest=ts.map V.str->ts.length<=24->nms.length<=300->(∀ (i:Nat) t,nms[i]? = some t->Ci kvs (Sum.inr t)=some (.int (i:Nat)))->(∀ t∈ts,t∈nms)->(∀ H',Aj H H'->Q (.int (Wd.mk (ts.map λt=>nms.idxOf t):Nat)) H')->U9 vs H Q a8
theorem oR:Av ld ld (Ae jf):=Bh
include N T in
theorem eF:Ar P w K mg base BW 4 aD.fSs aD.dSs ld U9:=by
 refine N.FSs.1.Dp oR λH vs Q E i h=>?_
 obtain⟨r,I,ro,B,nms,a,rfl,p,J,W,tG,AO,U,e,q⟩:=h
 have y:=Fz i
 refine⟨_,(Ag (Az (zC (Mu N T) i rfl N.FSt (Aa (Bj rfl (BP (osc:=Ae jf) (N:=ld) rfl rfl (by decide)) (Pk (Ek Lp (pv 0) (Ew Ac) Gd)) (λ_ _ _ _=>By) (λ_ _ _ _=>(GZ y (pv 2) (pv 0) (λ_ _=>rfl)))) Ab)))),?_⟩
 have Y:ro.v=V.str ro.w::a.map V.str:=by
  show V.str ro.w::(V.str ro.nm::ro.rest)=_
  rw[W]
 rw[Y] at p
 have j:HT.Do (V.str ro.w::a.map V.str).length 0 (some 1)=1:=by
  rw[show (some (1:Int))=some ((1:Nat):Int) from rfl,HT.Fj]
  simp
 have d:Dy (V.str ro.w::a.map V.str) (some 1) none=a.map V.str:=by
  unfold Dy
  rw[j,HT.Ji]
  simp
  exact fe (by rw[af];exact ai _)
 refine⟨_,rfl,_,rfl,r,_,rfl,iO p,?_,λu O=>?_⟩
 ·rintro⟨z,_⟩
  rw[j] at z
  cases z
 rw[d]
 obtain⟨F,M,m,C⟩:=Kg (o:=HO.tup (a.map V.str)) O
 rw[M]
 have v:Er K F u (a.map V.str):=.inl (.inl C)
 have X:(a.map V.str).length=a.length:=af ..
 refine⟨u,rfl,⟨_,v⟩,M6 (K:=K) (xs:=a.map V.str) (λ_=>true) (pq nms) v (Ax (by omega)) (λx l c s R k=>k c (Aj.refl c)) (λx l _ c s R k=>?_) (λD H2 hD A b=>?_)⟩
 ·obtain⟨t,f,rfl⟩:=ay.mp l
  have g:=Gp.k (k:=Sum.inr t) (s _ _ (m _ _ J))
  rw[U _ t (Rr (e t f))] at g
  exact⟨_,rfl,_,rfl,I,_,rfl,g,k c (Aj.refl c)⟩
 ·rw[br.mpr (λ_ _=>rfl),aT] at b
  have L:a.map (pq nms ∘ V.str)=nV (a.map λt=>nms.idxOf t):=by
   unfold nV
   rw[aT]
   rfl
  rw[L] at b
  refine⟨D,_,rfl,b,by rw[af];omega,λn G=>?_,λZ S=>q Z (m.trans (A.trans S))⟩
  obtain⟨t,f,rfl⟩:=ay.mp G
  have:=List.idxOf_lt_length_of_mem (e t f)
  omega
abbrev Xc:List Str:=["row_list","board_list","rank_list","knob_rows","board_numbers","rank_numbers","knob_numbers","key_places","pipe_places","knob_lines","step_sets"]
theorem Ds:∀ m∈meths,∀ f∈Xc,¬ m=f:=by decide
theorem RD {us:List V} {m:Nat->V->Prop} (h:∀ (i:Nat) v,us[i]? = some v->(ρ v).w = "line"->m i v/\∃ u∈us.take i,HR (ρ u).w=true):(linesOf rk (us.map ρ)).length=(us.filter (λv=>HR (ρ v).w)).length:=by
 have c:∀ n,n<=us.length->(linesOf rk ((us.take n).map ρ)).length=((us.take n).filter (λv=>HR (ρ v).w)).length:=by
  intro n
  induction n with
  | zero=>intro _;rfl
  | succ n j =>
   intro o
   have f:=ae (l:=us) (i:=n) (by omega)
   rw[cE,f,db]
   show (linesOf rk ((us.take n).map ρ++[ρ us[n]])).length=((us.take n++[us[n]]).filter _).length
   rw[CP,fo,ah,<-j (by omega)]
   unfold Cy
   by_cases b:HR (ρ us[n]).w=true
   ·rw[if_pos b,cS,if_pos b]
    simp
   ·rw[if_neg b,cS,if_neg b]
    by_cases d:(ρ us[n]).w = "line"
    ·rw[if_pos d]
     obtain⟨_,u,g,k⟩:=h n _ f d
     obtain⟨a,z,e⟩:=Eh (Mz (rk:=rk) ⟨ρ u,ci g,k⟩)
     rw[e,HJ]
     simp
    ·rw[if_neg d]
     simp
 have:=c us.length (ai _)
 rw[eD] at this
 exact this
inductive ZP (K:W.Frag) (aB aP aM C:Addr) (vs:List V) (H:Hp) (Q:VK) (a8:XK):Prop
 | mk (x dx p:Addr) (us:List V) (ρ:V->R) (bs:List (Str × Nat)) (rk:List (Str × Nat × Int)) (ks:List R):vs=[.ref x,.ref p]->H x=some (.ins C dx [])->H p=some (.lst us)->Rows H ρ us->n_ K aB aP aM ρ us bs rk ks->(∀ H',cN C H' x us bs rk ks (linesOf rk (us.map ρ)) ((us.filter (pw ρ "step")).map λv=>stN ks (ρ v))->(∀ rc,SX p H' rc->cN C rc x us bs rk ks (linesOf rk (us.map ρ)) ((us.filter (pw ρ "step")).map λv=>stN ks (ρ v)))->SX x H H'->Q .non H')->ZP K aB aP aM C vs H Q a8
theorem nq:Av ki ki (Ae WT):=Bh
include N T in
theorem jK:Ar P w K mg base BW 9 aD.fOi aD.dOi ki (ZP K aB aP aM C):=by
 refine N.FOi.1.Dp nq λH vs Q E hr h=>?_
 obtain⟨x,c,p,I,ρ,bs,rk,ks,rfl,M,hp,hR,O,q⟩:=h
 refine⟨_,(Af (Ck (zC (iQ N T) hr rfl N.FCk (Aa (pv 1) Ab)))
  (Af (E_ (pv 0) (DR DY rfl T.list dc (Aa (pv 1) Ab)) rfl)
  (Af (E_ (pv 0) (Bj rfl (BP (osc:=Ae WT) (N:=ki) rfl rfl (by decide)) (Bc (zC (Np N T) hr rfl N.FRo (Aa (pv 1) (Aa Bb Ab)))) (λ_ _ _ _=>By) (λ_ _ _ _=>(CN (Aa (A_ (Am (K:=K) rfl) (pv 0) Ac (λ_ _=>rfl)) (Aa (A_ (Am (K:=K) rfl) (pv 0) Ac (λ_ _=>rfl)) Ab))))) rfl)
  (Af (E_ (pv 0) (Bj rfl (BP (osc:=Ae WT) (N:=ki) rfl rfl (by decide)) (Bc (zC (Np N T) hr rfl N.FRo (Aa (pv 1) (Aa Bb Ab)))) (λ_ _ _ _=>By) (λ_ _ _ _=>(CN (Aa (A_ (Am (K:=K) rfl) (pv 0) Ac (λ_ _=>rfl)) (Aa (A_ (Am (K:=K) rfl) (pv 0) Ac (λ_ _=>rfl)) (Aa (A_ (Am (K:=K) rfl) (pv 0) Ac (λ_ _=>rfl)) Ab)))))) rfl)
  (Af (E_ (pv 0) (Bj rfl (BP (osc:=Ae WT) (N:=ki) rfl rfl (by decide)) (Bc (pv 1)) (λ_ _ _ _=>(FQ (BV (KD (K:=K) rfl) (A_ (Am (K:=K) rfl) (pv 0) Ac (λ_ _=>rfl)) (CJ (v:=.ref aK) rfl T.mK rfl) rfl))) (λ_ _ _ _=>(pv 0))) rfl)
  (Af (E_ (pv 0) (zC (iD N T) hr rfl N.FNu (Aa (Bj rfl (BP (osc:=Ae WT) (N:=ki) rfl rfl (by decide)) (Bc (CK (pv 0) rfl)) (λ_ _ _ _=>By) (λ_ _ _ _=>(A_ (Am (K:=K) rfl) (pv 0) Ac (λ_ _=>rfl)))) Ab)) rfl)
  (Af (E_ (pv 0) (zC (iD N T) hr rfl N.FNu (Aa (Bj rfl (BP (osc:=Ae WT) (N:=ki) rfl rfl (by decide)) (Bc (CK (pv 0) rfl)) (λ_ _ _ _=>By) (λ_ _ _ _=>(A_ (Am (K:=K) rfl) (pv 0) Ac (λ_ _=>rfl)))) Ab)) rfl)
  (Af (E_ (pv 0) (zC (iD N T) hr rfl N.FNu (Aa (Bj rfl (BP (osc:=Ae WT) (N:=ki) rfl rfl (by decide)) (Bc (CK (pv 0) rfl)) (λ_ _ _ _=>By) (λ_ _ _ _=>(A_ (Am (K:=K) rfl) (pv 0) Ac (λ_ _=>rfl)))) Ab)) rfl)
  (Af (E_ (pv 0) (zC (ig N T) hr rfl N.FPl (Aa (CK (pv 0) rfl) Ab)) rfl)
  (Af (E_ (pv 0) (zC (ig N T) hr rfl N.FPl (Aa (CK (pv 0) rfl) Ab)) rfl)
  (Af (E_ (pv 0) (zC (gb N T) hr rfl N.FLi (Aa (pv 1) (Aa (CK (pv 0) rfl) Ab))) rfl)
  (Ag (E_ (pv 0) (Bj rfl (BP (osc:=Ae WT) (N:=ki) rfl rfl (by decide)) (Bc (zC (Np N T) hr rfl N.FRo (Aa (pv 1) (Aa Bb Ab)))) (λ_ _ _ _=>By) (λ_ _ _ _=>(zC (eF N T) hr rfl N.FSs (Aa (pv 0) (Aa (Xh (K:=K) rfl (pv 1) rfl) Ab))))) rfl))))))))))))),?_⟩
 have dm:=O.len
 obtain⟨ur,AG⟩:∃ ur,I.filter (pw ρ "rank")=ur:=⟨_,rfl⟩
 have er:ur.map ρ=rk.map Gh:=by rw[<-AG];exact O.er
 have lr:ur.length=rk.length:=by have:=congrArg List.length er;simpa using this
 have inR:∀ {v},v∈ur->v∈I:=λ{v} D=>by rw[<-AG] at D;exact (aS.mp D).1
 have ch:∀ {v},v∈ur->∃ b∈rk,ρ v=Gh b:=λ{v} D=>by
  have:ρ v∈rk.map Gh:=by rw[<-er];exact ci D
  obtain⟨b,hb,e⟩:=ay.mp this
  exact⟨b,hb,e.symm⟩
 obtain⟨ub,sN⟩:∃ ub,I.filter (pw ρ "board")=ub:=⟨_,rfl⟩
 obtain⟨uk,zj⟩:∃ uk,I.filter (λv=>HR (ρ v).w)=uk:=⟨_,rfl⟩
 have eb:ub.map ρ=bs.map Gb:=by rw[<-sN];exact O.eb
 have ek:uk.map ρ=ks:=by rw[<-zj];exact O.ek
 have lb:ub.length=bs.length:=by have:=congrArg List.length eb;simpa using this
 have dy:uk.length=ks.length:=by have:=congrArg List.length ek;simpa using this
 have da:∀ {v},v∈ub->v∈I:=λ{v} D=>by rw[<-sN] at D;exact (aS.mp D).1
 have a2:∀ {v},v∈uk->v∈I:=λ{v} D=>by rw[<-zj] at D;exact (aS.mp D).1
 have c4:∀ {v},v∈ub->∃ b∈bs,ρ v=Gb b:=λ{v} D=>by
  have:ρ v∈bs.map Gb:=by rw[<-eb];exact ci D
  obtain⟨b,hb,e⟩:=ay.mp this
  exact⟨b,hb,e.symm⟩
 have b2:1<=I.length:=by
  have h1:=O.b0
  have h2:ub.length<=I.length:=by rw[<-sN];exact ck _ _
  omega
 refine⟨_,rfl,p,I,ρ,rfl,hp,hR,b2,by omega,O.ok,?_,λH1 s1=>?_⟩
 ·rw[sN]
  cases ub with
  | nil =>
   have:=O.b0
   simp at lb
   omega
  | cons a b=>rfl
 have c1:SX x H H1:=SX.of s1
 have x1:=s1 _ _ M
 refine⟨_,rfl,p,_,rfl,iO (.inl (s1 _ _ hp)),λl1 bP=>?_⟩
 have cn:l1 ≠ p:=Ne.symm (An (s1 _ _ hp) bP)
 obtain⟨H2,b9,s2,ND⟩:=Kg (o:=HO.lst I) bP
 rw[b9]
 refine⟨_,rfl,x,C,c,_,rfl,s2 _ _ x1,T.cl,T.n_row_list,(by show 0<1000;decide),?_⟩
 have c2:SX x H _:=(c1.trans (SX.of s2)).trans (SX.up (o:=HO.ins C c (Be "row_list" (.ref l1) [])))
 have x2:upd H2 x (HO.ins C c (Be "row_list" (.ref l1) [])) x=_:=Al
 have Fc:=(SX.up (o:=HO.ins C c (Be "row_list" (.ref l1) [])):SX x H2 _).lst (s2 _ _ x1) ND
 generalize upd H2 x (HO.ins C c (Be "row_list" (.ref l1) []))=H3 at c2 x2 Fc |-
 have c0:=c2
 replace hR:Rows H3 ρ I:=λv D=>c2.tup M (hR v D)
 replace hp:=c2.lst M hp
 clear c2
 replace M:=x2
 have c2:SX x H3 H3:=SX.of (Aj.refl _)
 have R3:Rows H3 ρ I:=λv D=>c2.tup M (hR v D)
 refine⟨_,rfl,p,_,"board",ρ,rfl,c2.lst M hp,R3,by omega,λD4 H4 Si s4 wD=>?_⟩
 rw[sN] at wD
 have b4:CV K H4 D4 ub:=.inl (.inl wD)
 refine⟨D4,rfl,⟨_,b4⟩,Jy (K:=K) (xs:=ub) (λ_=>true) (λv=>[.str (ρ v).nm,(ρ v).rest.getD 0 .non]) b4 (Ax (by have:=O.b5;omega)) (λy W s X R k=>k s (Aj.refl s)) (λy W _ s X R k=>?_) (λD5 H5 f8 IM s5 xi DF=>?_)⟩
 ·obtain⟨b,_,e⟩:=c4 W
  have Y:=(R3 y (da W)).mono (s4.trans X)
  rw[e] at Y k
  obtain⟨T0,rfl,Y⟩:=Y
  exact⟨_,rfl,T0,_,_,_,rfl,rfl,iO Y,Ai (j:=1) rfl,_,rfl,T0,_,_,_,rfl,rfl,iO Y,Ai (j:=2) rfl,by show 2<=sizeLine;decide,λT6 bl=>k _ _ (BZ bl) ⟨T6,rfl,Al⟩⟩
 rw[br.mpr (λ_ _=>rfl)] at DF
 have bW:Paired (λb y=>TupAt H5 (bV b) y) bs f8:=by
  have h1:=B_ (F:=λ(r:R) y=>TupAt H5 [.str r.nm,r.rest.getD 0 .non] y) ρ DF
  rw[eb] at h1
  exact Fp Gb h1
 clear DF
 refine⟨_,rfl,x,C,c,_,rfl,s5 _ _ (s4 _ _ x2),T.cl,T.n_board_list,Nat.lt_of_le_of_lt (Bo _ _ _) (by show 1<1000;decide),?_⟩
 have u6:SX x H5 _:=SX.up (o:=HO.ins C c (Be "board_list" (.ref D5) (Be "row_list" (.ref l1) [])))
 have x5:=s5 _ _ (s4 _ _ x2)
 have c6:=(c2.trans (SX.of (s4.trans s5))).trans u6
 have x6:upd H5 x (HO.ins C c (Be "board_list" (.ref D5) (Be "row_list" (.ref l1) []))) x=_:=Al
 have vL:=u6.lst x5 xi
 have EZ:=u6.pair x5 bW
 generalize upd H5 x (HO.ins C c (Be "board_list" (.ref D5) (Be "row_list" (.ref l1) [])))=H6 at c6 x6 vL EZ |-
 clear u6
 have R6:Rows H6 ρ I:=λv D=>c6.tup M (hR v D)
 refine⟨_,rfl,p,_,"rank",ρ,rfl,c6.lst M hp,R6,by omega,λD7 H7 SD s7 yU=>?_⟩
 rw[AG] at yU
 have bR:CV K H7 D7 ur:=.inl (.inl yU)
 refine⟨D7,rfl,⟨_,bR⟩,Jy (K:=K) (xs:=ur) (λ_=>true) (λv=>[.str (ρ v).nm,(ρ v).rest.getD 0 .non,(ρ v).rest.getD 1 .non]) bR (Ax (by have:=O.nr;omega)) (λy W s X R k=>k s (Aj.refl s)) (λy W _ s X R k=>?_) (λD8 H8 i6 QI s8 N9 Cf=>?_)⟩
 ·obtain⟨b,_,e⟩:=ch W
  have Y:=(R6 y (inR W)).mono (s7.trans X)
  rw[e] at Y k
  obtain⟨T0,rfl,Y⟩:=Y
  exact⟨_,rfl,T0,_,_,_,rfl,rfl,iO Y,Ai (j:=1) rfl,_,rfl,T0,_,_,_,rfl,rfl,iO Y,Ai (j:=2) rfl,_,rfl,T0,_,_,_,rfl,rfl,iO Y,Ai (j:=3) rfl,by show 3<=sizeLine;decide,λT6 bl=>k _ _ (BZ bl) ⟨T6,rfl,Al⟩⟩
 rw[br.mpr (λ_ _=>rfl)] at Cf
 have bS:Paired (λ(a:Th) y=>TupAt H8 (tV a) y) (rk.map UV) i6:=by
  have h1:=B_ (F:=λ(r:R) y=>TupAt H8 [.str r.nm,r.rest.getD 0 .non,r.rest.getD 1 .non] y) ρ Cf
  rw[er] at h1
  exact B_ (F:=λ(a:Th) y=>TupAt H8 (tV a) y) UV (Fp Gh h1)
 clear Cf
 refine⟨_,rfl,x,C,c,_,rfl,s8 _ _ (s7 _ _ x6),T.cl,T.n_rank_list,Nat.lt_of_le_of_lt (Nat.le_trans (Bo _ _ _) (Nat.succ_le_succ (Bo _ _ _))) (by show 2<1000;decide),?_⟩
 have se:=s7.trans s8
 have x8:=se _ _ x6
 have c8:=c6.trans (SX.of se)
 have AK:=se _ _ vL
 have G':=Aq se EZ
 have u9:SX x H8 _:=SX.up (o:=HO.ins C c (Be "rank_list" (.ref D8) (Be "board_list" (.ref D5) (Be "row_list" (.ref l1) []))))
 have x9:upd H8 x (HO.ins C c (Be "rank_list" (.ref D8) (Be "board_list" (.ref D5) (Be "row_list" (.ref l1) [])))) x=_:=Al
 have c9:=c8.trans u9
 have z7:=u9.lst x8 AK
 have CO:=u9.pair x8 G'
 have DM:=u9.lst x8 N9
 have zF:=u9.pair x8 bS
 generalize ap:Be "rank_list" (.ref D8) (Be "board_list" (.ref D5) (Be "row_list" (.ref l1) []))=f9 at x9 c9 z7 CO DM zF u9 |-
 generalize upd H8 x (HO.ins C c f9)=H9 at x9 c9 z7 CO DM zF |-
 have n9:f9.length<=3:=by rw[<-ap];exact bi (Bo _ _ _) (dr (bi (Bo _ _ _) (dr (Bo _ _ _))))
 have cb:f9.lookup ("board_list" : Str)=some (.ref D5):=by rw[<-ap,Ak,if_neg (by decide),Ak,if_pos rfl]
 have cx:f9.lookup ("row_list" : Str)=some (.ref l1):=by rw[<-ap,Ak,if_neg (by decide),Ak,if_neg (by decide),Ak,if_pos rfl]
 have b5:f9.lookup ("rank_list" : Str)=some (.ref D8):=by rw[<-ap,Ak,if_pos rfl]
 have cd:∀ m∈meths,f9.lookup m=none:=λm hm=>by
  rw[<-ap,Ak,if_neg (Ds m hm _ (by decide)),Ak,if_neg (Ds m hm _ (by decide)),Ak,if_neg (Ds m hm _ (by decide))]
  rfl
 clear u9 ap
 have R9:Rows H9 ρ I:=λv D=>c9.tup M (hR v D)
 have b7:CV K H9 p I:=.inl (.inl (c9.lst M hp))
 refine⟨_,rfl,p,rfl,⟨_,b7⟩,Bs (K:=K) (xs:=I) (λv=>HR (ρ v).w) id b7 (Ax (by omega)) (λy W s X R k=>?_) (λy W _ s X R k=>⟨_,rfl,k s (Aj.refl s)⟩) (λon qA DO al yl=>?_)⟩
 ·obtain⟨T0,rfl,Y⟩:=(R9.mono X) y W
  exact⟨_,rfl,T0,_,_,_,rfl,rfl,iO Y,Ai (j:=0) rfl,aK,_,rfl,.inr (T.tK.sq _),rfl,rfl,_,rfl,k s (Aj.refl s)⟩
 rw[ii,zj] at yl
 refine⟨_,rfl,x,C,c,_,rfl,al _ _ x9,T.cl,T.n_knob_rows,by omega,?_⟩
 have xj:=al _ _ x9
 have an:SX x qA _:=SX.up (o:=HO.ins C c (Be "knob_rows" (.ref on) f9))
 have a7:upd qA x (HO.ins C c (Be "knob_rows" (.ref on) f9)) x=_:=Al
 have FM:=(c9.trans (SX.of al)).trans an
 have ue:=an.lst xj (al _ _ z7)
 have qS:=an.pair xj (Aq al CO)
 have yO:=an.lst xj (al _ _ DM)
 have yB:=an.pair xj (Aq al zF)
 have xJ:=an.lst xj yl
 generalize upd qA x (HO.ins C c (Be "knob_rows" (.ref on) f9))=uy at a7 FM ue qS yO yB xJ |-
 clear an
 have zg:=qS.length
 have a1:CV K uy D5 f8:=.inl (.inl ue)
 refine⟨_,rfl,x,C,c,_,_,rfl,a7,T.cl,T.n_board_list,(by rw[Ak,if_neg (by decide)];exact cb),D5,rfl,⟨_,a1⟩,Bs (K:=K) (xs:=f8) (λ_=>true) (Ra uy 0) a1 (Ax (by have:=O.b5;omega)) (λy W s X R k=>k s (Aj.refl s)) (λy W _ s X R k=>?_) (λPD GS ME sU sV=>?_)⟩
 ·obtain⟨b,_,p9⟩:=C_ qS W
  have e:=Ia p9 0
  obtain⟨T0,rfl,Y⟩:=p9.mono X
  refine⟨_,rfl,T0,_,_,_,rfl,rfl,iO Y,Ai (j:=0) rfl,?_⟩
  have:=k s (Aj.refl s)
  rw[e] at this
  exact this
 rw[br.mpr (λ_ _=>rfl),JX 0 qS] at sV
 have ct:(bs.map λb=>(bV b).getD 0 V.non)=(bs.map (·.1)).map V.str:=by
  rw[aT]
  rfl
 rw[ct] at sV
 refine⟨PD,_,rfl,sV,by rw[af];have:=O.b5;omega,O.nb,λrR bN yL QY oi A3 zN AV=>?_⟩
 have kK:=sU.trans oi
 have uE:=kK _ _ a7
 refine⟨_,rfl,x,C,c,_,rfl,uE,T.cl,T.n_board_numbers,bv (Bo _ _ _) (by omega),?_⟩
 have ac:SX x yL _:=SX.up (o:=HO.ins C c (Be "board_numbers" (.ref rR) (Be "knob_rows" (.ref on) f9)))
 have bB:upd yL x (HO.ins C c (Be "board_numbers" (.ref rR) (Be "knob_rows" (.ref on) f9))) x=_:=Al
 have EV:=(FM.trans (SX.of kK)).trans ac
 have yi:=ac.lst uE (kK _ _ ue)
 have wQ:=ac.pair uE (Aq kK qS)
 have uY:=ac.lst uE (kK _ _ yO)
 have rg:=ac.pair uE (Aq kK yB)
 have yq:=ac.lst uE (kK _ _ xJ)
 have yP:=ac.dk uE A3
 generalize upd yL x (HO.ins C c (Be "board_numbers" (.ref rR) (Be "knob_rows" (.ref on) f9)))=xL at bB EV yi wQ uY rg yq yP |-
 clear ac
 have HU:=rg.length
 rw[af] at HU
 have a3:CV K xL D8 i6:=.inl (.inl uY)
 refine⟨_,rfl,x,C,c,_,_,rfl,bB,T.cl,T.n_rank_list,(by rw[Ak,if_neg (by decide),Ak,if_neg (by decide)];exact b5),D8,rfl,⟨_,a3⟩,Bs (K:=K) (xs:=i6) (λ_=>true) (Ra xL 0) a3 (Ax (by have:=O.nr;omega)) (λy W s X R k=>k s (Aj.refl s)) (λy W _ s X R k=>?_) (λNL BN MG qv oT=>?_)⟩
 ·obtain⟨b,_,p9⟩:=C_ rg W
  have e:=Ia p9 0
  obtain⟨T0,rfl,Y⟩:=p9.mono X
  refine⟨_,rfl,T0,_,_,_,rfl,rfl,iO Y,Ai (j:=0) rfl,?_⟩
  have:=k s (Aj.refl s)
  rw[e] at this
  exact this
 rw[br.mpr (λ_ _=>rfl),JX 0 rg] at oT
 have cv:((rk.map UV).map λb=>(tV b).getD 0 V.non)=(rk.map (·.1)).map V.str:=by
  rw[aT,aT]
  rfl
 rw[cv] at oT
 refine⟨NL,_,rfl,oT,by rw[af];have:=O.nr;omega,O.nrr,λvO sS tW M0 vU wV xE Po=>?_⟩
 have ko:=qv.trans vU
 have sB:=ko _ _ bB
 refine⟨_,rfl,x,C,c,_,rfl,sB,T.cl,T.n_rank_numbers,bv (bi (Bo _ _ _) (dr (Bo _ _ _))) (by omega),?_⟩
 have Z:SX x tW _:=SX.up (o:=HO.ins C c (Be "rank_numbers" (.ref vO) (Be "board_numbers" (.ref rR) (Be "knob_rows" (.ref on) f9))))
 have aC:upd tW x (HO.ins C c (Be "rank_numbers" (.ref vO) (Be "board_numbers" (.ref rR) (Be "knob_rows" (.ref on) f9)))) x=_:=Al
 have zc:=(EV.trans (SX.of ko)).trans Z
 have vh:=Z.lst sB (ko _ _ yi)
 have tM:=Z.pair sB (Aq ko wQ)
 have vy:=Z.lst sB (ko _ _ uY)
 have vw:=Z.pair sB (Aq ko rg)
 have sj:=Z.lst sB (ko _ _ yq)
 have tP:=Z.dk sB (ko _ _ yP)
 have uJ:=Z.dk sB wV
 generalize G:Be "rank_numbers" (.ref vO) (Be "board_numbers" (.ref rR) (Be "knob_rows" (.ref on) f9))=d at aC zc vh tM vy vw sj tP uJ Z |-
 generalize upd tW x (HO.ins C c d)=AB at aC zc vh tM vy vw sj tP uJ |-
 have dg:d.length<=6:=by rw[<-G];exact bi (Bo _ _ _) (dr (bi (Bo _ _ _) (dr (bi (Bo _ _ _) (dr n9)))))
 have a5:d.lookup ("board_list" : Str)=some (.ref D5):=by rw[<-G,Ak,if_neg (by decide),Ak,if_neg (by decide),Ak,if_neg (by decide)];exact cb
 have ca:d.lookup ("row_list" : Str)=some (.ref l1):=by rw[<-G,Ak,if_neg (by decide),Ak,if_neg (by decide),Ak,if_neg (by decide)];exact cx
 have a0:d.lookup ("rank_list" : Str)=some (.ref D8):=by rw[<-G,Ak,if_neg (by decide),Ak,if_neg (by decide),Ak,if_neg (by decide)];exact b5
 have a8:d.lookup ("rank_numbers" : Str)=some (.ref vO):=by rw[<-G,Ak,if_pos rfl]
 have bm:d.lookup ("board_numbers" : Str)=some (.ref rR):=by rw[<-G,Ak,if_neg (by decide),Ak,if_pos rfl]
 have aw:d.lookup ("knob_rows" : Str)=some (.ref on):=by rw[<-G,Ak,if_neg (by decide),Ak,if_neg (by decide),Ak,if_pos rfl]
 have b1:∀ m∈meths,d.lookup m=none:=λm hm=>by
  rw[<-G,Ak,if_neg (Ds m hm _ (by decide)),Ak,if_neg (Ds m hm _ (by decide)),Ak,if_neg (Ds m hm _ (by decide))]
  exact cd m hm
 clear Z G
 have a6:CV K AB on uk:=.inl (.inl sj)
 have dd:Rows AB ρ I:=λv D=>zc.tup M (hR v D)
 refine⟨_,rfl,x,C,c,_,_,rfl,aC,T.cl,T.n_knob_rows,aw,on,rfl,⟨_,a6⟩,Bs (K:=K) (xs:=uk) (λ_=>true) (λv=>.str (ρ v).nm) a6 (Ax (by have:=O.nk;omega)) (λy W s X R k=>k s (Aj.refl s)) (λy W _ s X R k=>?_) (λIP F7 Kj xB tO=>?_)⟩
 ·obtain⟨T0,rfl,Y⟩:=(dd.mono X) y (a2 W)
  exact⟨_,rfl,T0,_,_,_,rfl,rfl,iO Y,Ai (j:=1) rfl,k s (Aj.refl s)⟩
 rw[br.mpr (λ_ _=>rfl)] at tO
 have co:(uk.map λv=>V.str (ρ v).nm)=(ks.map (·.nm)).map V.str:=by
  rw[<-ek,aT,aT]
  rfl
 rw[co] at tO
 refine⟨IP,_,rfl,tO,by rw[af];have:=O.nk;omega,O.nn,λpV sR zm LW xD rX xw zG=>?_⟩
 have jI:=xB.trans xD
 have sd:=jI _ _ aC
 refine⟨_,rfl,x,C,c,_,rfl,sd,T.cl,T.n_knob_numbers,by omega,?_⟩
 have ab:SX x zm _:=SX.up (o:=HO.ins C c (Be "knob_numbers" (.ref pV) d))
 have bg:upd zm x (HO.ins C c (Be "knob_numbers" (.ref pV) d)) x=_:=Al
 have AF:=(zc.trans (SX.of jI)).trans ab
 have vg:=ab.lst sd (jI _ _ vh)
 have uv:=ab.pair sd (Aq jI tM)
 have xh:=ab.lst sd (jI _ _ vy)
 have wU:=ab.pair sd (Aq jI vw)
 have yj:=ab.lst sd (jI _ _ sj)
 have xG:=ab.dk sd rX
 have wK:=ab.dk sd (jI _ _ tP)
 have wq:=ab.dk sd (jI _ _ uJ)
 generalize upd zm x (HO.ins C c (Be "knob_numbers" (.ref pV) d))=E7 at bg AF vg uv xh wU yj wK wq xG |-
 clear ab
 refine⟨_,rfl,x,C,c,_,_,rfl,bg,T.cl,T.n_board_list,(by rw[Ak,if_neg (by decide)];exact a5),D5,bs.map cY,f8,rfl,vg,B_ (F:=λ(a:Th) y=>TupAt E7 (tV a) y) cY uv,(by rw[List.length_map];have:=O.b5;omega),(λa ha=>by obtain⟨b,hb,rfl⟩:=List.mem_map.mp ha;have:=O.sz b hb;show b.2<=97;omega),λsi i5 tL B5 oo AH yF=>?_⟩
 have c3:(bs.map cY).map tN=bs:=by
  rw[aT]
  exact ii bs
 rw[c3] at yF
 have re:=oo _ _ bg
 refine⟨_,rfl,x,C,c,_,rfl,re,T.cl,T.n_key_places,bv (Bo _ _ _) (by omega),?_⟩
 have L:SX x tL _:=SX.up (o:=HO.ins C c (Be "key_places" (.ref si) (Be "knob_numbers" (.ref pV) d)))
 have a9:upd tL x (HO.ins C c (Be "key_places" (.ref si) (Be "knob_numbers" (.ref pV) d))) x=_:=Al
 have zK:=(AF.trans (SX.of oo)).trans L
 have xx:=L.lst re (oo _ _ vg)
 have yH:=L.pair re (Aq oo uv)
 have tZ:=L.lst re (oo _ _ xh)
 have uC:=L.pair re (Aq oo wU)
 have yJ:=L.lst re (oo _ _ yj)
 have xk:=L.dk re (oo _ _ xG)
 have wS:=L.dk re (oo _ _ wK)
 have yk:=L.dk re (oo _ _ wq)
 have vW:=L.lst re AH
 have wM:=L.pair re yF
 generalize upd tL x (HO.ins C c (Be "key_places" (.ref si) (Be "knob_numbers" (.ref pV) d)))=ds at a9 zK xx yH tZ uC yJ wS yk vW wM xk |-
 clear L
 refine⟨_,rfl,x,C,c,_,_,rfl,a9,T.cl,T.n_rank_list,(by rw[Ak,if_neg (by decide),Ak,if_neg (by decide)];exact a0),D8,rk.map UV,i6,rfl,tZ,uC,(by rw[af];exact O.nr),(λa ha=>by obtain⟨r,hr,rfl⟩:=ay.mp ha;exact O.nz r hr),λvJ vB vP DC lI Cn wA=>?_⟩
 have c5:(rk.map UV).map tN=rk.map ak:=by
  rw[aT]
  rfl
 rw[c5] at wA
 have oC:=lI _ _ a9
 refine⟨_,rfl,x,C,c,_,rfl,oC,T.cl,T.n_pipe_places,bv (bi (Bo _ _ _) (dr (Bo _ _ _))) (by omega),?_⟩
 have B:SX x vP _:=SX.up (o:=HO.ins C c (Be "pipe_places" (.ref vJ) (Be "key_places" (.ref si) (Be "knob_numbers" (.ref pV) d))))
 have aZ:upd vP x (HO.ins C c (Be "pipe_places" (.ref vJ) (Be "key_places" (.ref si) (Be "knob_numbers" (.ref pV) d)))) x=_:=Al
 have xn:=(zK.trans (SX.of lI)).trans B
 have vm:=B.lst oC (lI _ _ xx)
 have vk:=B.pair oC (Aq lI yH)
 have tz:=B.lst oC (lI _ _ yJ)
 have uV:=B.lst oC (lI _ _ tZ)
 have uz:=B.pair oC (Aq lI uC)
 have tD:=B.lst oC Cn
 have vt:=B.pair oC wA
 have uF:=B.dk oC (lI _ _ xk)
 have uT:=B.dk oC (lI _ _ wS)
 have r8:=B.dk oC (lI _ _ yk)
 have uh:=B.lst oC (lI _ _ vW)
 have uA:=B.pair oC (Aq lI wM)
 generalize U:Be "pipe_places" (.ref vJ) (Be "key_places" (.ref si) (Be "knob_numbers" (.ref pV) d))=J at aZ xn vm vk tz uV uz tD vt uT r8 uh uA B uF |-
 generalize upd vP x (HO.ins C c J)=dh at aZ xn vm vk tz uV uz tD vt uT r8 uh uA uF |-
 have dp:J.length<=9:=by rw[<-U];exact bi (Bo _ _ _) (dr (bi (Bo _ _ _) (dr (bi (Bo _ _ _) (dr dg)))))
 have u:∀ {f:Str} {v:V},¬ f = "pipe_places"->¬ f = "key_places"->¬ f = "knob_numbers"->d.lookup f=some v->J.lookup f=some v:=λh1 h2 h3 h=>by
  rw[<-U,Ak,if_neg h1,Ak,if_neg h2,Ak,if_neg h3];exact h
 have B7:=u (by decide) (by decide) (by decide) a5
 have sP:=u (by decide) (by decide) (by decide) bm
 have zD:=u (by decide) (by decide) (by decide) ca
 have as:J.lookup ("knob_numbers" : Str)=some (.ref pV):=by rw[<-U,Ak,if_neg (by decide),Ak,if_neg (by decide),Ak,if_pos rfl]
 have Cc:=u (by decide) (by decide) (by decide) a0
 have bd:J.lookup ("pipe_places" : Str)=some (.ref vJ):=by rw[<-U,Ak,if_pos rfl]
 have sr:=u (by decide) (by decide) (by decide) a8
 have yN:=u (by decide) (by decide) (by decide) aw
 have bL:J.lookup ("key_places" : Str)=some (.ref si):=by rw[<-U,Ak,if_neg (by decide),Ak,if_pos rfl]
 have b0:∀ m∈meths,J.lookup m=none:=λm hm=>by
  rw[<-U,Ak,if_neg (Ds m hm _ (by decide)),Ak,if_neg (Ds m hm _ (by decide)),Ak,if_neg (Ds m hm _ (by decide))]
  exact b1 m hm
 clear B U u
 have cl:Rows dh ρ I:=λv D=>xn.tup M (hR v D)
 refine⟨_,rfl,_,rfl,x,C,c,_,_,rfl,aZ,T.cl,T.n_rank_numbers,sr,p,vO,I,ρ,rk,sS,rfl,xn.lst M hp,cl,by omega,r8,(λi r hr=>xE i r.1 (by rw[ar,hr];rfl)),O.nrr,O.ln,λvR zI IG oj C3=>?_⟩
 have og:=oj _ _ aZ
 refine⟨_,rfl,x,C,c,_,rfl,og,T.cl,T.n_knob_lines,by omega,?_⟩
 have A:SX x zI _:=SX.up (o:=HO.ins C c (Be "knob_lines" (.ref vR) J))
 have bn:upd zI x (HO.ins C c (Be "knob_lines" (.ref vR) J)) x=_:=Al
 have uW:=(xn.trans (SX.of oj)).trans A
 have yM:=A.lst og (oj _ _ vm)
 have xo:=A.pair og (Aq oj vk)
 have wf:=A.lst og (oj _ _ tz)
 have yG:=A.lst og (oj _ _ uV)
 have xM:=A.pair og (Aq oj uz)
 have yD:=A.lst og (oj _ _ tD)
 have xr:=A.pair og (Aq oj vt)
 have yr:=C3.sx A og
 have uL:=A.dk og (oj _ _ uF)
 have uu:=A.dk og (oj _ _ uT)
 have wO:=A.dk og (oj _ _ r8)
 have xA:=A.lst og (oj _ _ uh)
 have yC:=A.pair og (Aq oj uA)
 generalize upd zI x (HO.ins C c (Be "knob_lines" (.ref vR) J))=cs at bn uW yM xo wf yG xM yD xr yr uu wO xA yC uL |-
 clear A
 have bK:Rows cs ρ I:=λv D=>uW.tup M (hR v D)
 refine⟨_,rfl,p,_,"step",ρ,rfl,uW.lst M hp,bK,by omega,λEM IJ Kk yd AT=>?_⟩
 have DJ:=yd _ _ uL
 have GT:=yd _ _ bn
 have a4:CV K IJ EM (I.filter (pw ρ "step")):=.inl (.inl AT)
 have dn:(I.filter (pw ρ "step")).length<=I.length:=ck _ _
 refine⟨EM,rfl,⟨_,a4⟩,Bs (K:=K) (xs:=I.filter (pw ρ "step")) (λ_=>true) (λv=>.int (stN ks (ρ v):Nat)) a4 (Ax (by omega)) (λy W s X R k=>k s (Aj.refl s)) (λy W _ s X R k=>?_) (λyX F4 B9 IY vz=>?_)⟩
 ·obtain⟨FD,Of⟩:=aS.mp W
  obtain⟨ts,sn,JY,P7⟩:=O.st y FD (V.str.inj (of_decide_eq_true Of))
  obtain⟨T0,rfl,Y⟩:=((bK.mono yd).mono X) y FD
  refine⟨_,rfl,_,rfl,x,C,c,_,_,rfl,X _ _ GT,T.cl,T.n_knob_numbers,(by rw[Ak,if_neg (by decide)];exact as),T0,pV,ρ (.ref T0),sR,ks.map (·.nm),ts,rfl,Y,X _ _ DJ,sn,JY,(by rw[af];have:=O.nk;omega),xw,P7,λH3 s3=>?_⟩
  have e:Wd.mk (ts.map λt=>(ks.map (·.nm)).idxOf t)=stN ks (ρ (.ref T0)):=by unfold stN;rw[Ij sn]
  rw[e]
  exact k H3 s3
 rw[br.mpr (λ_ _=>rfl)] at vz
 have d4:=yd.trans IY
 have mf:=d4 _ _ bn
 refine⟨_,rfl,x,C,c,_,rfl,mf,T.cl,T.n_step_sets,bv (Bo _ _ _) (by omega),?_⟩
 have g:SX x F4 _:=SX.up (o:=HO.ins C c (Be "step_sets" (.ref yX) (Be "knob_lines" (.ref vR) J)))
 have S:∀ {f:Str},¬ f = "step_sets"->¬ f = "knob_lines"->(Be "step_sets" (.ref yX) (Be "knob_lines" (.ref vR) J)).lookup f=J.lookup f:=λh1 h2=>by rw[Ak,if_neg h1,Ak,if_neg h2]
 have es:((I.filter (pw ρ "step")).map λv=>V.int (stN ks (ρ v):Nat))=(((I.filter (pw ρ "step")).map λv=>stN ks (ρ v)).map λn:Nat=>V.int (n:Int)):=by rw[aT];rfl
 rw[es] at vz
 have rG:=g.lst mf (d4 _ _ (uW.lst M hp))
 have nx:x ≠ p:=λz=>by rw[z,hp] at M;cases M
 have n5:D5 ≠ p:=Ne.symm (An (s4 _ _ hp) IM)
 have n8:D8 ≠ p:=Ne.symm (An (s7 _ _ (c6.lst M hp)) QI)
 have cp:on ≠ p:=Ne.symm (An (c9.lst M hp) DO)
 have cZ:si ≠ p:=Ne.symm (An (AF.lst M hp) B5)
 have cz:vJ ≠ p:=Ne.symm (An (zK.lst M hp) DC)
 have cc:yX ≠ p:=Ne.symm (An (yd _ _ (uW.lst M hp)) B9)
 suffices aN:∀ rc,SX p (upd F4 x _) rc->cN C rc x I bs rk ks (linesOf rk (I.map ρ)) ((I.filter (pw ρ "step")).map λv=>stN ks (ρ v)) from q _ (aN _ SX.refl) aN  (c0.trans ((uW.trans (SX.of d4)).trans g))
 intro rc sp
 refine⟨⟨⟨⟨c,_,D5,rR,si,on,f8,i5,uk,bN,sp _ _ Al nx,(S (by decide) (by decide)).trans B7,(S (by decide) (by decide)).trans sP,(S (by decide) (by decide)).trans bL,(S (by decide) (by decide)).trans yN,
  λm hm=>(S (Ds m hm _ (by decide)) (Ds m hm _ (by decide))).trans (b0 m hm),sp _ _ (g.lst mf (d4 _ _ yM)) n5,Ib sp rG (g.pair mf (Aq d4 xo)),QK sp rG (g.dk mf (d4 _ _ uu)),λi b hb=>zN i b.1 (by rw[ar,hb];rfl),sp _ _ (g.lst mf (d4 _ _ xA)) cZ,Ib sp rG (g.pair mf (Aq d4 yC)),sp _ _ (g.lst mf (d4 _ _ wf)) cp,?_⟩,O.b5,O.sz,by have:=O.nk;omega⟩,⟨c,_,D8,vO,vJ,vR,i6,vB,sS,sp _ _ Al nx,(S (by decide) (by decide)).trans Cc,(S (by decide) (by decide)).trans sr,(S (by decide) (by decide)).trans bd,(by rw[Ak,if_neg (by decide),Ak,if_pos rfl]),sp _ _ (g.lst mf (d4 _ _ yG)) n8,Ib sp rG (g.pair mf (Aq d4 xM)),QK sp rG (g.dk mf (d4 _ _ wO)),(λi r hr=>xE i r.1 (by rw[ar,hr];rfl)),sp _ _ (g.lst mf (d4 _ _ yD)) cz,Ib sp rG (g.pair mf (Aq d4 xr)),((yr.mono d4).sx g mf).sp sp rG⟩,O.nr,O.nz,?_⟩,c,_,l1,pV,yX,sR,sp _ _ Al nx,(S (by decide) (by decide)).trans zD,(S (by decide) (by decide)).trans as,(by rw[Ak,if_pos rfl]),sp _ _ (g.lst mf (d4 _ _ (uW.lst M Fc))) cn,QK sp rG (g.dk mf (d4 _ _ uL)),xw,zG,sp _ _ (g.lst mf vz) cc,rR,bN,(S (by decide) (by decide)).trans sP,QK sp rG (g.dk mf (d4 _ _ uu)),AV⟩
 case refine_2=>rw[RD O.ln,<-ek,af,zj]
 rw[<-ek]
 refine B_ (F:=λ(r:R) y=>TupAt _ r.v y) ρ ?_
 have b3:Rows _ ρ uk:=λv D=>U_ sp rG (g.tup mf ((bK.mono d4) v (a2 D)))
 generalize rc=b6 at b3 |-
 have aN:∀ l:List V,(∀ v∈l,TupAt b6 (ρ v).v v)->Paired (λv y=>TupAt b6 (ρ v).v y) l l:=by
  intro l
  induction l with
  | nil=>intro _;exact .nil
  | cons a b ih=>intro h;exact .cons (h a (bt ..)) (ih λv D=>h v (ba _ D))
 exact aN uk b3
inductive Wz (C:Addr) (vs:List V) (H:Hp) (Q:VK) (a8:XK):Prop
 | mk (x:Addr) (bs:List (Str × Nat)) (ks:List R):vs=[.ref x]->Cz C H x bs ks->(∀ D f8 H',H D=none->Aj H H'->H' D=some (.lst f8)->Paired (λb y=>TupAt H' (bV b) y) bs f8->Q (.ref D) H')->Wz C vs H Q a8
theorem lG:Av kg kg (Ae lY):=Bh
include N T in
theorem Y7:Ar P w K mg base BW 1 aD.fOb aD.dOb kg (Wz C):=by
 refine N.FOb.1.Dp lG λH u Q E y h=>?_
 obtain⟨x,bs,L,rfl,O,q⟩:=h
 refine⟨_,(Ag (Az (DR DY rfl T.list dc (Aa (CK (pv 0) rfl) Ab)))),?_⟩
 obtain⟨⟨d,fs,c,t,kp,s,b,I,m,f,j,i,k,G,r,A,g,e,J,z,D,o,n,F⟩,v,B,p⟩:=id O
 exact⟨_,rfl,x,C,d,_,_,rfl,j,T.cl,T.n_board_list,i,c,b,rfl,iO (.inl g),λl a=>q l b _ a (BZ a) Al (Aq (BZ a) e)⟩
inductive Ob (C:Addr) (vs:List V) (H:Hp) (Q:VK) (a8:XK):Prop
 | mk (x:Addr) (bs:List (Str × Nat)) (ks:List R):vs=[.ref x]->Cz C H x bs ks->Q (.int ((Fo bs).length:Nat)) H->Ob C vs H Q a8
theorem o9:Av kg kg (Ae nQ):=Bh
include N T in
theorem Mm:Ar P w K mg base BW 1 aD.fOc aD.dOc kg (Ob C):=by
 refine N.FOc.1.Dp o9 λH t Q E v h=>?_
 obtain⟨x,bs,I,rfl,O,q⟩:=h
 refine⟨_,(Ag (Az (BJ BR rfl T.len cq (Aa (CK (pv 0) rfl) Ab)))),?_⟩
 obtain⟨⟨a,fs,i,s,kp,r,k,g,l,c,f,D,j,e,o,z,A,p,G,y,d,b,m,F⟩,u,B,n⟩:=id O
 refine⟨_,rfl,x,C,a,_,_,rfl,f,T.cl,T.n_key_places,e,kp,g,rfl,iO (.inl d),?_⟩
 rw[<-b.length]
 exact q
inductive W6 (C:Addr) (vs:List V) (H:Hp) (Q:VK) (a8:XK):Prop
 | mk (x:Addr) (bs:List (Str × Nat)) (ks:List R) (j:Nat) (b:Str × Nat) (n:Int):vs=[.ref x,.str b.1,.int n]->Cz C H x bs ks->bs[j]? = some b->(∀ H',Aj H H'->Q (.int ((((bs.take j).map (·.2)).sum:Nat)+n)) H')->W6 C vs H Q a8
theorem lW:Av mi mi (Ae lq):=Bh
include N T in
theorem Yq:Ar P w K mg base BW 2 aD.fOk aD.dOk mi (W6 C):=by
 refine N.FOk.1.Dp lW λH vs Q E r h=>?_
 obtain⟨x,bs,ks,j,b,n,rfl,O,m,q⟩:=h
 have t:=Fz r
 refine⟨_,(Ag (Az (BL Bm (zC (YJ N T) r rfl N.FCa (Aa (Ek JT (CK (pv 0) rfl) Gd (Ew (GZ t (CK (pv 0) rfl) (pv 1) (λ_ _=>rfl)))) Ab)) (pv 2)))),?_⟩
 obtain⟨⟨l,fs,u,A,kp,kr,c,i5,X,D,s,R,v,l3,l4,lm,L,p,V,G,h6,Z,Y,h9⟩,qc,M,qa⟩:=id O
 have hj:j<bs.length:=(ag.mp m).1
 have hl:=p.length
 have g:=Gp.k (k:=Sum.inr b.1) V
 rw[G j b m] at g
 refine⟨_,rfl,x,C,l,_,_,rfl,s,T.cl,T.n_board_list,R,_,rfl,x,C,l,_,_,rfl,s,T.cl,T.n_board_numbers,v,_,rfl,A,_,rfl,g,_,rfl,u,c,rfl,iO L,λd I=>?_⟩
 have e:=BZ (o:=HO.lst (Dy c none (some (j:Int)))) I
 have i:upd H d (HO.lst (Dy c none (some (j:Int)))) d=_:=Al
 generalize upd H d (HO.lst (Dy c none (some (j:Int))))=J at e i |-
 rw[Jm c j (by omega)] at i
 refine⟨d,(bs.take j).map cY,c.take j,rfl,i,B_ (F:=λ(a:Th) y=>TupAt J (tV a) y) cY (Gn (Aq e p) j),(by rw[List.length_map,List.length_take];omega),(λa U=>by obtain⟨W,f,rfl⟩:=List.mem_map.mp U;exact Nat.le_trans (M W (List.mem_of_mem_take f)) (by show 61<=100;decide)),λz B=>?_⟩
 have S:((bs.take j).map cY).map (λa=>a.2.1)=(bs.take j).map (·.2):=by
  rw[aT]
  rfl
 rw[S]
 exact⟨_,rfl,_,_,rfl,rfl,q z (e.trans B)⟩
inductive Xv (C:Addr) (vs:List V) (H:Hp) (Q:VK) (a8:XK):Prop
 | mk (x:Addr) (bs:List (Str × Nat)) (ks:List R) (i:Nat) (qd:Nat × Nat):vs=[.ref x,.int (i:Nat)]->Cz C H x bs ks->(Fo bs)[i]? = some qd->(∀ y,TupAt H (qV qd) y->Q y H)->Xv C vs H Q a8
theorem lV:Av qx qx (Ae oA):=Bh
include N T in
theorem YC:Ar P w K mg base BW 1 aD.fOo aD.dOo qx (Xv C):=by
 refine N.FOo.1.Dp lV λH B Q E F h=>?_
 obtain⟨x,bs,U,i,z,rfl,O,l,q⟩:=h
 refine⟨_,(Ag (Az (A_ Fi (CK (pv 0) rfl) (pv 1) (λ_ _=>rfl)))),?_⟩
 obtain⟨⟨a,fs,m,A,kp,v,o,k,p,d,j,M,n,g,t,I,J,u,S,G,f,b,r,R⟩,D,L,s⟩:=id O
 obtain⟨y,c,e⟩:=Cq b l
 exact⟨_,rfl,x,C,a,_,_,rfl,j,T.cl,T.n_key_places,g,_,rfl,kp,k,_,_,rfl,rfl,iO f,Ai c,q y e⟩
inductive Uv (C:Addr) (vs:List V) (H:Hp) (Q:VK) (a8:XK):Prop
 | mk (x:Addr) (bs:List (Str × Nat)) (ks:List R) (k j1 j2:Nat) (b1 b2:Str × Nat) (nm:Str) (s:Int):vs=[.ref x,.int (k:Nat)]->Cz C H x bs ks->ks[k]? = some ⟨"coupler",nm,[.str b1.1,.str b2.1,.int s]⟩->bs[j1]? = some b1->bs[j2]? = some b2->(∀ y H',Aj H H'->TupAt H' [.int (j1:Nat),.int (j2:Nat),.int s] y->Q y H')->Uv C vs H Q a8
inductive Oh (C:Addr) (vs:List V) (H:Hp) (Q:VK) (a8:XK):Prop
 | mk (x:Addr) (bs:List (Str × Nat)) (ks:List R) (k j1:Nat) (b1:Str × Nat) (wd nm:Str) (rs:List V):vs=[.ref x,.int (k:Nat)]->Cz C H x bs ks->ks[k]? = some ⟨wd,nm,.str b1.1::rs⟩->bs[j1]? = some b1->Q (.int (j1:Nat)) H->Oh C vs H Q a8
theorem lB:Av jp jp (Ae mj):=Bh
include N T in
theorem Te:Ar P w K mg base BW 1 aD.fBk aD.dBk jp (Oh C):=by
 refine N.FBk.1.Dp lB λH R Q E r h=>?_
 obtain⟨x,bs,ks,k,z,d,V,nm,L,rfl,O,u,a,q⟩:=h
 have f:=Fz r
 refine⟨_,(Ag (Az (GZ f (CK (pv 0) rfl) (A_ (Am (K:=K) rfl) (A_ Fi (CK (pv 0) rfl) (pv 1) (λ_ _=>rfl)) Ac (λ_ _=>rfl)) (λ_ _=>rfl)))),?_⟩
 obtain⟨⟨b,fs,F,p,kp,o,G,i5,i,s,c,Z,g,l3,m,U,W,M,D,t,Y,I,l,A⟩,S,X,J⟩:=id O
 obtain⟨y,n,B,rfl,v⟩:=Cq A u
 have e:=Gp.k (k:=Sum.inr d.1) D
 rw[t z d a] at e
 exact⟨_,rfl,x,C,b,_,_,rfl,c,T.cl,T.n_board_numbers,g,_,rfl,x,C,b,_,_,rfl,c,T.cl,T.n_knob_rows,m,_,rfl,o,i,_,_,rfl,rfl,iO l,Ai n,B,_,_,_,rfl,rfl,iO v,Ai (j:=2) rfl,p,_,rfl,e,q⟩
theorem iK:Av ["self","knob","row"] jp (Ae lK):=Bh
include N T in
theorem iZ:Ar P w K mg base BW 2 aD.fOp aD.dOp jp (Uv C):=by
 refine N.FOp.1.Dp iK λH vs Q E f h=>?_
 obtain⟨x,bs,U,k,r,z,e,n,nm,s0,rfl,O,m,a,c,q⟩:=h
 have u:=Fz f
 refine⟨_,(Af (BX (i:=2) iK.nd rfl (Or.inl rfl) (A_ Fi (CK (pv 0) rfl) (pv 1) (λ_ _=>rfl)))
  (Ag (Az (CN (Aa (Dq (pv 0) T.cl N.FBk.2.2 (Te N T) (ad f) N.FBk.2.1 .nil Ao (Aa (pv 1) Ab)) (Aa (GZ u (CK (pv 0) rfl) (A_ (Am (K:=K) rfl) (pv 2) Ac (λ_ _=>rfl)) (λ_ _=>rfl)) (Aa (A_ (Am (K:=K) rfl) (pv 2) Ac (λ_ _=>rfl)) Ab))))))),?_⟩
 obtain⟨⟨b,fs,V,I,kp,G,W,i5,A,J,d,l1,v,l3,D,M,h2,Z,t,g,h6,X,B,R⟩,qc,pe,Y⟩:=id O
 obtain⟨y,F,s,rfl,o⟩:=Cq R m
 have S:=Gp.k (k:=Sum.inr e.1) t
 rw[g r e a] at S
 have l:=Gp.k (k:=Sum.inr n.1) t
 rw[g z n c] at l
 refine⟨_,rfl,x,C,b,_,_,rfl,d,T.cl,T.n_knob_rows,D,_,rfl,G,A,_,_,rfl,rfl,iO B,Ai F,?_⟩
 refine⟨_,rfl,x,b,fs,rfl,d,M _ (by decide),_,rfl,x,bs,U,k,r,e,_,_,_,rfl,O,m,a,?_⟩
 refine⟨_,rfl,x,C,b,_,_,rfl,d,T.cl,T.n_board_numbers,v,_,rfl,s,_,_,_,rfl,rfl,iO o,Ai (j:=3) rfl,I,_,rfl,l,?_⟩
 exact⟨_,rfl,s,_,_,_,rfl,rfl,iO o,Ai (j:=4) rfl,by show 3<=sizeLine;decide,λp L=>q _ _ (BZ L) ⟨p,rfl,Al⟩⟩
inductive Vl (C:Addr) (vs:List V) (H:Hp) (Q:VK) (a8:XK):Prop
 | mk (x:Addr) (bs:List (Str × Nat)) (ks:List R) (k i j1 j2:Nat) (b1 b2:Str × Nat) (qd:Nat × Nat) (nm:Str) (s:Int):vs=[.ref x,.int (k:Nat),.int (i:Nat)]->Cz C H x bs ks->(Fo bs)[i]? = some qd->ks[k]? = some ⟨"coupler",nm,[.str b1.1,.str b2.1,.int s]⟩->bs[j1]? = some b1->bs[j2]? = some b2->(∀ H',Aj H H'->Q (Mj bs j1 j2 s qd b2.2) H')->Vl C vs H Q a8
theorem Vo:Av ["organ","knob","key","coupler","place","second","number"] pz (Ae oF):=Bh
include N T in
theorem jJ:Ar P w K mg base BW 3 aD.fLe aD.dLe pz (Vl C):=by
 refine N.FLe.1.Dp Vo λH vs Q E o h=>?_
 obtain⟨x,bs,f,k,i,t,Y,b1,s,b,nm,e,rfl,O,U,hk,B,c,q⟩:=h
 refine⟨_,(Af (Bv (DP (G3 Dh Fd Ac (pv 2) (Ce (pv 0) T.cl N.FOc.2.2 (Mm N T) (ad o) N.FOc.2.1 .nil Ao))) (Ag (Az Pj)) Bf)
  (Af (BX (i:=3) Vo.nd rfl (Or.inl rfl) (Dq (pv 0) T.cl N.FOp.2.2 (iZ N T) (ad o) N.FOp.2.1 .nil Ao (Aa (pv 1) Ab)))
  (Af (BX (i:=4) Vo.nd rfl (Or.inl rfl) (Dq (pv 0) T.cl N.FOo.2.2 (YC N T) (ad o) N.FOo.2.1 .nil Ao (Aa (pv 2) Ab)))
  (Af (BX (i:=5) Vo.nd rfl (Or.inl rfl) (A_ (Ca (K:=K) rfl) (Ce (pv 0) T.cl N.FOb.2.2 (Y7 N T) (ad o) N.FOb.2.1 .nil Ao) (A_ (Am (K:=K) rfl) (pv 3) Ac (λ_ _=>rfl)) (λ_ _=>rfl)))
  (Af (BX (i:=6) Vo.nd rfl (Or.inl rfl) (BL Bm (A_ (Am (K:=K) rfl) (pv 4) Ac (λ_ _=>rfl)) (A_ (Am (K:=K) rfl) (pv 3) Ac (λ_ _=>rfl))))
  (Af (Bv (PW.pt (G4 (BV KR (A_ (Am (K:=K) rfl) (pv 4) Ac (λ_ _=>rfl)) (A_ (Am (K:=K) rfl) (pv 3) Ac (λ_ _=>rfl)) (Ba _)) (Ga (DP (G3 Dh Fd Ac (pv 6) (A_ (Am (K:=K) rfl) (pv 5) Ac (λ_ _=>rfl))))))) (Ag (Az Pj)) Bf)
  (Ag (Az (Dq (pv 0) T.cl N.FOk.2.2 (Yq N T) (ad o) N.FOk.2.1 .nil Ao (Aa (A_ (Am (K:=K) rfl) (pv 5) Ac (λ_ _=>rfl)) (Aa (pv 6) Ab))))))))))),?_⟩
 have hi:i<(Fo bs).length:=(ag.mp U).1
 have a:∀ {W:Hp},Cz C W x bs f->∃ g fs,W x=some (.ins C g fs)/\∀ m∈meths,fs.lookup m=none:=λO'=>by
  obtain⟨⟨g,fs,_,_,_,_,_,_,_,_,h1,_,_,_,_,v,_⟩,_⟩:=O'
  exact⟨g,fs,h1,v⟩
 obtain⟨g,fs,M,v⟩:=a O
 refine⟨_,rfl,_,_,rfl,rfl,_,rfl,?_⟩
 refine Cr (λ_=>?_) (λz=>absurd (decide_eq_true (by omega)) z)
 refine⟨_,rfl,x,g,fs,rfl,M,v _ (by decide),x,bs,f,rfl,O,_,_,rfl,rfl,_,rfl,?_⟩
 rw[decide_eq_true (by omega:(i:Int)<((Fo bs).length:Nat))]
 refine Dj ?_
 refine⟨_,rfl,x,g,fs,rfl,M,v _ (by decide),_,rfl,x,bs,f,k,t,Y,b1,s,nm,e,rfl,O,hk,B,c,λy1 H1 A Nd=>?_⟩
 have p:=O.mono A
 obtain⟨R,L,S,Z⟩:=a p
 refine⟨_,rfl,x,R,L,rfl,S,Z _ (by decide),_,rfl,x,bs,f,i,b,rfl,p,U,λy2 zf=>?_⟩
 refine⟨_,rfl,x,R,L,rfl,S,Z _ (by decide),x,bs,f,rfl,p,λD f8 H2 hD l G zQ=>?_⟩
 obtain⟨J,rfl,I⟩:=Nd.mono l
 obtain⟨T2,rfl,X⟩:=zf.mono l
 obtain⟨v3,ya,T3,rfl,rH⟩:=Cq zQ c
 refine⟨_,rfl,J,_,_,_,rfl,rfl,iO I,Ai (j:=1) rfl,D,f8,_,_,rfl,rfl,iO G,Ai ya,?_⟩
 refine⟨_,rfl,T2,_,_,_,rfl,rfl,iO X,Ai (j:=1) rfl,_,rfl,J,_,_,_,rfl,rfl,iO I,Ai (j:=2) rfl,_,_,rfl,rfl,?_⟩
 refine⟨_,rfl,T2,_,_,_,rfl,rfl,iO X,Ai (j:=0) rfl,_,rfl,J,_,_,_,rfl,rfl,iO I,Ai (j:=0) rfl,rfl,_,rfl,?_⟩
 have fin:=q H2 (A.trans l)
 unfold Mj at fin
 by_cases n:b.1=t
 ·have z:(!decide (V.int (b.1:Nat)=V.int (t:Nat)))=false:=by rw[n];simp
  rw[z]
  refine Dj ?_
  refine⟨_,rfl,_,_,rfl,rfl,_,rfl,?_⟩
  refine Cr (λu=>?_) (λu=>?_)
  ·refine⟨_,rfl,T3,_,_,_,rfl,rfl,iO rH,Ai (j:=1) rfl,_,_,rfl,rfl,_,rfl,?_⟩
   have d:0<=(b.2:Int)+e:=of_decide_eq_true u
   by_cases r:(b.2:Int)+e<(s.2:Nat)
   ·have F:decide ((b.2:Int)+e<(s.2:Nat))=true:=decide_eq_true r
    rw[F]
    refine Dj ?_
    rw[if_pos ⟨n,d,r⟩] at fin
    obtain⟨xN,xX,vb,yz⟩:=a (p.mono l)
    refine⟨_,rfl,x,xN,xX,rfl,vb,yz _ (by decide),_,rfl,T3,_,_,_,rfl,rfl,iO rH,Ai (j:=0) rfl,_,rfl,x,bs,f,Y,s,_,rfl,p.mono l,c,λH3 s3=>?_⟩
    have y:=q H3 ((A.trans l).trans s3)
    unfold Mj at y
    rw[if_pos ⟨n,d,r⟩] at y
    exact y
   ·have F:decide ((b.2:Int)+e<(s.2:Nat))=false:=decide_eq_false r
    rw[F]
    refine Dw ?_
    rw[if_neg λz=>r z.2.2] at fin
    exact fin
  ·refine⟨_,rfl,?_⟩
   have d:decide (0<=(b.2:Int)+e)=false:=(fv _).mp u
   rw[if_neg λz=>absurd (decide_eq_true z.2.1) u] at fin
   exact Dw fin
 ·have z:(!decide (V.int (b.1:Nat)=V.int (t:Nat)))=true:=by
   rw[decide_eq_false λz=>n (by have:=V.int.inj z;omega)]
   rfl
  rw[z]
  refine Dw ?_
  rw[if_neg λz=>n z.1] at fin
  exact fin
inductive Tf (vs:List V) (H:Hp) (Q:VK) (a8:XK):Prop
 | mk (n:Nat) (i:Int):vs=[.int n,.int i]->Q (.bl (decide (0<=i) && n.testBit i.toNat)) H->Tf vs H Q a8
theorem aL (n:Nat) (i:Int):decide (V.int (Builtin.bitAnd ((n:Int) / 2 ^ i.toNat) 1)=V.int 1)=n.testBit i.toNat:=by
 rw[Gu,show (1:Int)=((1:Nat):Int) from rfl,<-Int.natCast_ediv,M3,Bool.eq_iff_iff]
 rw[Nat.testBit_eq_decide_div_mod_eq,Nat.and_one_is_mod]
 simp only[decide_eq_true_eq,V.int.injEq]
 exact Int.ofNat_inj
theorem pP:Av px px (Ae lJ):=Bh
include N T in
theorem T9:Ar P w K mg base BW 1 aD.fHa aD.dHa px Tf:=by
 refine N.FHa.1.Dp pP λH d Q E f h=>?_
 obtain⟨n,i,rfl,q⟩:=h
 refine⟨_,(Ag (Az (Cj (GD Dh Fd Ac (pv 1) (Nz PySem.F.plainAttrs_int PySem.F.slot_int_bit_length PySem.F.type_int_bit_length NK (pv 0))) (Cp (Ef Dt (BL Tj (BL S7 (pv 0) (pv 1)) Ac) Ac (Ba _)))))),?_⟩
 refine⟨_,rfl,_,_,rfl,rfl,_,rfl,?_⟩
 refine Cr (λa=>?_) (λa=>?_)
 ·have c:0<=i:=of_decide_eq_true a
  refine⟨_,rfl,rfl,(n:Int),rfl,rfl,_,_,rfl,rfl,_,rfl,?_⟩
  rw[Io]
  refine Cr (λb=>?_) (λb=>?_)
  ·refine⟨_,rfl,_,rfl,_,_,rfl,rfl,c,_,_,rfl,rfl,rfl,?_⟩
   try dsimp only
   rw[aL]
   rw[a,gg] at q
   exact q
  ·have e:n.testBit i.toNat=false:=by
    cases hb:n.testBit i.toNat with
    | false=>rfl
    | true =>
     have:=Wd.Sw hb
     exact absurd (decide_eq_true (by omega:i<(Wd.len n:Int))) b
   rw[e,Bool.and_false] at q
   exact q
 ·rw[(fv _).mp a,gs] at q
  exact⟨_,rfl,Dj q⟩
inductive Xp (vs:List V) (H:Hp) (Q:VK) (a8:XK):Prop
 | mk (n:Nat):vs=[.int n]->n<2 ^ 1200->(∀ p H',H p=none->Aj H H'->H' p=some (.lst (nV (Wd.mem n)))->Q (.ref p) H')->Xp vs H Q a8
theorem V2 (n:Nat):((((List.range (Wd.len n)).map λ(i:Nat)=>(0:Int)+(i:Int)).filter λi=>decide (0<=i) && n.testBit i.toNat).map λi=>V.int i)=nV (Wd.mem n):=by
 unfold Wd.mem
 rw[eT,aT]
 have e:((λi:Int=>decide (0<=i) && n.testBit i.toNat) ∘ λ(i:Nat)=>(0:Int)+(i:Int))=n.testBit:=by
  funext i
  show (decide (0<=(0:Int)+(i:Int)) && n.testBit ((0:Int)+(i:Int)).toNat)=n.testBit i
  have b:(0:Int)<=0+(i:Int):=by omega
  have a:((0:Int)+(i:Int)).toNat=i:=by omega
  rw[decide_eq_true b,a,gg]
 rw[e]
 refine ij λi _=>?_
 show V.int ((0:Int)+(i:Int))=V.int (i:Int)
 rw[Int.zero_add]
theorem lw:Av ["some"] ["some"] (Ae jl):=Bh
include N T in
theorem YF:Ar P w K mg base BW 2 aD.fMe aD.dMe ["some"] Xp:=by
 refine N.FMe.1.Dp lw λH l Q E e h=>?_
 obtain⟨n,rfl,j,q⟩:=h
 refine⟨_,(Ag (Az (Bj rfl (BP (osc:=Ae jl) (N:=["some"]) rfl rfl (by decide)) (DX rfl T.range (Aa (Nz PySem.F.plainAttrs_int PySem.F.slot_int_bit_length PySem.F.type_int_bit_length NK (pv 0)) Ab)) (λ_ _ _ _=>(FQ (Dl (zC (T9 N T) e rfl N.FHa (Aa (pv 1) (Aa (pv 0) Ab)))))) (λ_ _ _ _=>(pv 0))))),?_⟩
 have b:Wd.len n<=1200:=Wd.MJ j
 refine⟨_,rfl,rfl,(n:Int),rfl,rfl,?_⟩
 rw[Io]
 refine⟨_,rfl,by omega,by omega,?_⟩
 rw[dA]
 refine Ol (lo:=0) (n:=Wd.len n) (λi=>decide (0<=i) && n.testBit i.toNat) (λi=>.int i) (bv b (by decide)) (λi g a c R k=>?_) (λi g _ a c R k=>⟨_,rfl,k a (Aj.refl a)⟩) (λD a f c d=>?_)
 ·exact⟨_,rfl,_,rfl,n,_,rfl,_,rfl,k a (Aj.refl a)⟩
 ·rw[V2] at d
  exact q D a f c d
inductive S_ (vs:List V) (H:Hp) (Q:VK) (a8:XK):Prop
 | mk (n:Nat) (k:Int) (c:Nat):vs=[.int n,.int k,.int c]->n<2 ^ 1200->-1200<=k->k<=1200->c<=1200->Q (.int (Wd.mv n k c:Nat)) H->S_ vs H Q a8
theorem QX (m c:Nat):Builtin.bitAnd (m:Int) (1 * 2 ^ ((if (0:Int) > (c:Int) then (0:Int) else (c:Int))).toNat - 1)=((m % 2 ^ c:Nat):Int):=by
 have h:¬ (0:Int) > (c:Int):=by omega
 rw[if_neg h,Int.one_mul,dA,Gu]
 have a:1<=2 ^ c:=Nat.one_le_two_pow
 have e:((2 ^ c:Nat):Int) - 1=((2 ^ c - 1:Nat):Int):=by omega
 rw[e,M3,Nat.and_two_pow_sub_one_eq_mod]
theorem gk:Av ["some","steps","count","moved"] oI (Ae mU):=Bh
include N T in
theorem V7:Ar P w K mg base BW 1 aD.fSh aD.dSh oI S_:=by
 refine N.FSh.1.Dp gk λH m Q E o h=>?_
 obtain⟨n,k,c,rfl,f,p,j,l,q⟩:=h
 refine⟨_,(Af (BX (i:=3) gk.nd rfl (Or.inl rfl) (U0 (BV VJ (pv 1) Ac (Ba _)) (BL XR (pv 0) (pv 1)) (BL S7 (pv 0) (J2 Hj (pv 1)))))
  (Ag (Az (BL Tj (pv 3) (BL Es (BL VB Ac (BJ (Kw rfl) rfl T.max PyProof.Rows.boot_max (Aa (pv 2) (Aa Ac Ab)))) Ac))))),?_⟩
 have d:Wd.len n<=1200:=Wd.MJ f
 have g:(2:Int) ^ 27=134217728:=by decide
 refine⟨_,rfl,_,_,rfl,rfl,_,rfl,?_⟩
 refine Cr (λb=>?_) (λb=>?_)
 ·have a:0<k:=of_decide_eq_true b
  refine⟨_,rfl,_,rfl,_,_,rfl,rfl,⟨by omega,by rw[Io,g];omega⟩,?_⟩
  refine⟨_,rfl,_,rfl,_,_,rfl,⟨_,_,rfl,rfl,⟨by split <;> omega,by split <;> omega,by decide⟩,_,_,rfl,rfl,_,_,rfl,rfl,?_⟩⟩
  try dsimp only
  have e:((n:Int) * 2 ^ k.toNat)=((n * 2 ^ k.toNat:Nat):Int):=by rw[Gu];simp
  rw[e,QX]
  unfold Wd.mv at q
  rw[if_pos a] at q
  exact q
 ·have a:¬ 0<k:=λz=>b (decide_eq_true z)
  refine⟨_,rfl,_,rfl,_,rfl,_,_,rfl,rfl,by omega,?_⟩
  refine⟨_,rfl,_,rfl,_,_,rfl,⟨_,_,rfl,rfl,⟨by split <;> omega,by split <;> omega,by decide⟩,_,_,rfl,rfl,_,_,rfl,rfl,?_⟩⟩
  try dsimp only
  have e:((n:Int) / 2 ^ (-k).toNat)=((n / 2 ^ (-k).toNat:Nat):Int):=by rw[Gu];simp
  rw[e,QX]
  unfold Wd.mv at q
  rw[if_neg a] at q
  exact q
inductive Rk (C:Addr) (vs:List V) (H:Hp) (Q:VK) (a8:XK):Prop
 | mk (x:Addr) (bs:List (Str × Nat)) (ks:List R):vs=[.ref x]->Cz C H x bs ks->(∀ D ys H',H D=none->Aj H H'->H' D=some (.lst ys)->Paired (λ(r:R) y=>TupAt H' [.str r.w,.str r.nm] y) ks ys->Q (.ref D) H')->Rk C vs H Q a8
theorem mW:Av kg kg (Ae jr):=Bh
include N T in
theorem Qw:Ar P w K mg base BW 1 aD.fOz aD.dOz kg (Rk C):=by
 refine N.FOz.1.Dp mW λH Y Q E hr h=>?_
 obtain⟨x,bs,ks,rfl,O,q⟩:=h
 refine⟨_,(Ag (Az (Bj rfl (BP (osc:=Ae jr) (N:=kg) rfl rfl (by decide)) (Bc (CK (pv 0) rfl)) (λ_ _ _ _=>By) (λ_ _ _ _=>(CN (Aa (A_ (Am (K:=K) rfl) (pv 0) Ac (λ_ _=>rfl)) (Aa (A_ (Am (K:=K) rfl) (pv 0) Ac (λ_ _=>rfl)) Ab))))))),?_⟩
 obtain⟨⟨t,fs,L,X,kp,i,S,i5,f,z,J,l1,M,l3,u,lm,h2,W,h4,h5,h6,U,s,c⟩,Z,pe,V⟩:=id O
 have l:CV K H i f:=.inl (.inl s)
 have zg:=c.length
 refine⟨_,rfl,x,C,t,_,_,rfl,J,T.cl,T.n_knob_rows,u,i,rfl,⟨_,l⟩,Jy (K:=K) (xs:=f) (λ_=>true) (λv=>[.str (Lq H v).w,.str (Lq H v).nm]) l (Ax (by omega)) (λy g a b R k=>k a (Aj.refl a)) (λy g _ a b R k=>?_) (λD a G A b I p=>?_)⟩
 ·obtain⟨r,_,m⟩:=C_ c g
  have e:=P_ m
  rw[e] at k
  obtain⟨n,rfl,o⟩:=m.mono b
  exact⟨_,rfl,n,_,_,_,rfl,rfl,iO o,Ai (j:=0) rfl,_,rfl,n,_,_,_,rfl,rfl,iO o,Ai (j:=1) rfl,by show 2<=sizeLine;decide,λB d=>k _ _ (BZ d) ⟨B,rfl,Al⟩⟩
 ·rw[br.mpr (λ_ _=>rfl)] at p
  have h:=B_ (F:=λ(r:R) y=>TupAt a [.str r.w,.str r.nm] y) (Lq H) p
  rw[QD c] at h
  exact q D G a A b I h
inductive VN (C:Addr) (vs:List V) (H:Hp) (Q:VK) (a8:XK):Prop
 | mk (x:Addr) (bs:List (Str × Nat)) (ks:List R) (wd:Str) (D:Nat):vs=[.ref x,.int (D:Nat),.str wd]->Cz C H x bs ks->(∀ L (cl:List Nat) H',H L=none->Aj H H'->H' L=some (.lst (nV cl))->(∀ k,k∈cl ↔ ∃ r,ks[k]? = some r/\r.w=wd/\D.testBit k=true)->cl.length<=200->Q (.ref L) H')->VN C vs H Q a8
theorem gF:Av mt o0 (Ae fV):=Bh
include N T in
theorem WQ:Ar P w K mg base BW 2 aD.fDc aD.dDc o0 (VN C):=by
 refine N.FDc.1.Dp gF λH vs Q E M h=>?_
 obtain⟨x,bs,d,G,D,rfl,O,q⟩:=h
 refine⟨_,(Af (HB (i:=3) gF.nd rfl rfl rfl (BP (osc:=Ae fV) (N:=mt) rfl rfl (by decide)) (Bc (Ce (pv 0) T.cl N.FOz.2.2 (Qw N T) (ad M) N.FOz.2.1 .nil Ao)) (λ_ _ _ _=>By) (λ_ _ _ _=>(A_ (Am (K:=K) rfl) (pv 0) Ac (λ_ _=>rfl))))
  (Ag (Az (QS rfl (Jp (osc:=Ae fV) (N:=mt) rfl rfl (by decide)) (JS rfl T.enumerate (Aa (pv 3) Ab)) (λ_ _ _ _=>FQ (PW.pt (Iv (BV Dt (pv 1) (pv 4) (Ba _)) (IW (Dl (zC (T9 N T) M rfl N.FHa (Aa (pv 3) (Aa (pv 0) Ab)))))))) (λ_ _ _ _=>(pv 0)))))),?_⟩
 obtain⟨⟨dx,fs,bl,bn,kp,kr,f8,i5,jS,ab,I,l1,l2,l3,l4,lm,s,m,h4,h5,h6,h7,h8,h9⟩,qc,pe,qa⟩:=id O
 refine⟨_,rfl,x,dx,fs,rfl,I,lm _ (by decide),x,_,_,rfl,O,λD1 X S B4 Y u B=>?_⟩
 have o:CV K S D1 X:=.inl (.inl u)
 have sG:=B.length
 refine⟨D1,rfl,⟨_,o⟩,Bs (K:=K) (xs:=X) (λ_=>true) (Ra S 0) o (Ax (by omega)) (λy J a t R k=>k a (Aj.refl a)) (λy J _ a t R k=>?_) (λW H2 y9 L c=>?_)⟩
 ·obtain⟨r,_,f'⟩:=C_ B J
  have e:=Ia f' 0
  obtain⟨T0,rfl,hT⟩:=f'.mono t
  have b:=k a (Aj.refl a)
  rw[e] at b
  exact⟨_,rfl,T0,_,_,_,rfl,rfl,iO hT,Ai (j:=0) rfl,b⟩
 rw[br.mpr (λ_ _=>rfl),JX 0 B] at c
 have e2:(d.map λr=>([V.str r.w,V.str r.nm]:List V).getD 0 .non)=d.map λr=>V.str r.w:=rfl
 rw[e2] at c
 have f:CV K H2 W (d.map λr=>V.str r.w):=.inl (.inl c)
 refine⟨_,rfl,W,rfl,⟨_,f⟩,Rb (K:=K) (xs:=d.map λr=>V.str r.w) (λi v=>decide (v=.str G) && D.testBit i) (λi _=>.int (i:Nat)) f (Ax (by rw[af];omega)) (λi v F a t R k=>?_) (λi v F _ a t R k=>⟨_,rfl,k a (Aj.refl a)⟩) (λD3 H3 vS s3 k7=>?_)⟩
 ·rw[ar] at F
  obtain⟨z,U,rfl⟩:=cr.mp F
  have b:=k a (Aj.refl a)
  refine⟨_,rfl,_,rfl,rfl,_,rfl,?_⟩
  refine Cr (λg=>?_) (λg=>?_)
  ·rw[g,gg] at b
   refine⟨_,rfl,_,rfl,D,_,rfl,_,rfl,?_⟩
   rw[decide_eq_true (by omega:(0:Int)<=(i:Nat)),gg,dA]
   exact b
  ·rw[(fv _).mp g,gs] at b
   exact b
 ·refine q D3 (((d.map λr=>V.str r.w).zipIdx.filter λp=>decide (p.1=V.str G) && D.testBit p.2).map (·.2)) H3 ((Y.trans L).free vS) ((Y.trans L).trans s3) ?_ (λk=>?_) ?_
  ·rw[k7]
   refine congrArg (λl=>some (HO.lst l)) ?_
   unfold nV
   rw[aT]
   rfl
  ·constructor
   ·intro hk
    obtain⟨⟨v,Z⟩,hm,rfl⟩:=ay.mp hk
    obtain⟨I,s⟩:=aS.mp hm
    have m:=List.mem_zipIdx' I
    rw[iN] at m
    obtain⟨A,m⟩:=m
    rw[dS] at s
    have n:Z<d.length:=by simpa using A
    refine⟨d[Z],ae n,?_,s.2⟩
    have:=s.1
    rw[m] at this
    exact V.str.inj (of_decide_eq_true this)
   ·rintro⟨z,U,hc,hd⟩
    refine ay.mpr ⟨(V.str z.w,k),aS.mpr ⟨?_,?_⟩,rfl⟩
    ·rw[List.mem_zipIdx_iff_getElem?,ar,U]
     rfl
    ·show (decide (V.str z.w=V.str G) && D.testBit k)=true
     rw[hc,hd,decide_eq_true rfl]
     rfl
  ·rw[af]
   refine bi (ck _ _) ?_
   rw[List.length_zipIdx,af]
   omega
inductive XD (C:Addr) (vs:List V) (H:Hp) (Q:VK) (a8:XK):Prop
 | mk (x:Addr) (bs:List (Str × Nat)) (ks:List R) (n:Nat):vs=[.ref x,.int (n:Nat)]->Cz C H x bs ks->n<2 ^ 1200->Q (.int (Wd.mv n 0 (bs.map (·.2)).sum:Nat)) H->XD C vs H Q a8
theorem Eu {x:Addr} {bs:List (Str × Nat)} (O:Cz C H x bs ks):(bs.map (·.2)).sum<=305:=by
 have h:=Lb bs 61 O.sz
 rw[Eg] at h
 have:=O.nb
 have:bs.length * 61<=5 * 61:=hV _ this
 omega
theorem o_:Av pT pT (Ae oE):=Bh
include N T in
theorem Y9:Ar P w K mg base BW 2 aD.fHk aD.dHk pT (XD C):=by
 refine N.FHk.1.Dp o_ λH u Q E a h=>?_
 obtain⟨x,bs,g,n,rfl,O,e,q⟩:=h
 refine⟨_,(Ag (Az (zC (V7 N T) a rfl N.FSh (Aa (pv 1) (Aa Ac (Aa (Ce (pv 0) T.cl N.FOc.2.2 (Mm N T) (ad a) N.FOc.2.1 .nil Ao) Ab)))))),?_⟩
 obtain⟨⟨b,fs,i,t,kp,r,k,v,l,c,d,p,j,s,o,f,_⟩,_⟩:=id O
 have m:=Eu O
 refine⟨_,rfl,_,rfl,x,b,fs,rfl,d,f _ (by decide),x,bs,g,rfl,O,n,0,(Fo bs).length,rfl,e,by decide,by decide,by rw[Eg];omega,?_⟩
 rw[Eg]
 exact q
theorem XN (h:n<=3000):n<sizeLine:=bv h (by decide)
theorem WN {v:V} {Q:St->Hp->Prop}:Et i v σ H Q=Q (σ.set i (some v)) H:=rfl
theorem Tc {c:TT} {tb u:TS} {r:VK} {b k:St->Hp->Prop} (h:Ly c tb { D with nx:=u D } σ H):({ nx:=cC (Ly c tb) u D,rt:=r,bk:=b,ct:=k }:Ends).nx σ H:=h
def bT:Option HO->Nat
 | some (.lst xs)=>xs.length
 | _=>0
def aQ:Option HO->Nat
 | some (.dK kvs)=>kvs.length
 | _=>0
abbrev kI (j:Nat):Key:=Sum.inl ((j:Nat):Int)
theorem Uj {c:List Nat} (h:kvs.map (·.1)=c.map kI) (j:Nat):(Ci kvs (kI j)).isSome=decide (j∈c):=by
 rw[<-Fx]
 rw[cw,fS,decide_eq_true_eq]
 constructor
 ·rintro⟨p,a,e⟩
  have:p.1∈c.map kI:=by rw[<-h];exact ci a
  obtain⟨b,g,i⟩:=ay.mp this
  have d:kI b=kI j:=i.trans (of_decide_eq_true e)
  have:((b:Nat):Int)=(j:Nat):=Sum.inl.inj d
  have:b=j:=by omega
  subst this
  exact g
 ·intro f
  have:kI j∈kvs.map (·.1):=by rw[h];exact ci f
  obtain⟨p,a,e⟩:=ay.mp this
  exact⟨p,a,decide_eq_true e⟩
def M9 (H:Hp) (bs:List (Str × Nat)) (kbs:List Kb) (D n:Nat) (kvs:List (Key × V)) (js:List Nat):Prop:=∀ (m j:Nat),js[m]? = some j->∃ (k i:Nat) (T:Addr) (z:Kb),Ci kvs (kI j)=some (.ref T)/\H T=some (.tup [V.int (k:Nat),V.int (i:Nat)])/\D.testBit k=true/\kbs[k]? = some z/\gl bs z i=some j/\(n.testBit i=true \/ i∈js.take m)
theorem M9.qH {bs:List (Str × Nat)} {D:Nat} {a:List Nat} (h:M9 H bs kbs D n kvs a) (d:∀ T xs,H T=some (.tup xs)->H' T=some (.tup xs)):M9 H' bs kbs D n kvs a:=λm j c=>by
 obtain⟨k,i,T,z,e,b,f⟩:=h m j c
 exact⟨k,i,T,z,e,d _ _ b,f⟩
theorem M9.mono {bs:List (Str × Nat)} {D:Nat} {a:List Nat} (h:M9 H bs kbs D n kvs a) (s:Aj H H'):M9 H' bs kbs D n kvs a:=h.qH λT b e=>s _ _ e
theorem M9.upd {bs:List (Str × Nat)} {D:Nat} {a:List Nat} {A:Addr} {u:HO} (h:M9 H bs kbs D n kvs a) (c:H A=some u) (b:∀ xs,u ≠ .tup xs):M9 (L2.upd H A o) bs kbs D n kvs a:=h.qH λT xs e=>by
 rw[Aw (λz=>by rw[z,c] at e;exact b xs (Option.some.inj e))]
 exact e
theorem M9.snoc {bs:List (Str × Nat)} {D:Nat} {b:List Nat} {k d:Nat} {T:Addr} {z:Kb} (h:M9 H bs kbs D n kvs b) (f:Ci kvs (kI j)=none) (x:H T=some (.tup [V.int (k:Nat),V.int (d:Nat)])) (C:D.testBit k=true) (E:kbs[k]? = some z) (p:gl bs z d=some j) (y:n.testBit d=true \/ d∈b) :
  M9 H bs kbs D n (kvs++[(kI j,.ref T)]) (b++[j]):=λm g c=>by
 by_cases a:m<b.length
 ·rw[dL a] at c
  obtain⟨u,F,v,t,i,l,s,A,w,r⟩:=h m g c
  refine⟨u,F,v,t,?_,l,s,A,w,?_⟩
  ·rw[HH _ _ _ _ f]
   by_cases e:kI g=kI j
   ·rw[e,f] at i
    cases i
   ·rw[if_neg e]
    exact i
  ·rw[dv (eI a)]
   exact r
 ·have B:=(ag.mp c).1
  rw[ah,bq] at B
  have q:m=b.length:=by omega
  subst q
  rw[de (ai _),iq] at c
  have o:j=g:=by simpa using c
  subst o
  refine⟨k,d,T,z,?_,x,C,E,p,?_⟩
  ·rw[HH _ _ _ _ f,if_pos rfl]
  ·rw[dv (ai _),eD]
   exact y
inductive cM (C:Addr) (vs:List V) (H:Hp) (Q:VK) (a8:XK):Prop
 | mk (x:Addr) (c:Nat->Str) (sz:List Nat) (kbs:List Kb) (D n:Nat):vs=[.ref x,.int (D:Nat),.int (n:Nat)]->Cz C H x (Bl c sz) (Cw c kbs)->Ny sz.length kbs->n<2 ^ 1200->(∀ i,n.testBit i=true->i<sz.sum)->(∀ W (kvs:List (Key × V)) (js:List Nat) H',H W=none->Aj H H'->H' W=some (.dK kvs)->kvs.map (·.1)=js.map kI->js.Nodup->M9 H' (Bl c sz) kbs D n kvs js->(∀ j,j∈js ↔ Mx (stp (Bl c sz) kbs D) (λi=>n.testBit i=true) j)->Q (.ref W) H')->cM C vs H Q a8
theorem N_:Av ["organ","knobs","held","couplers","ways","left","ahead","knob","key"] jj (Ae mF):=Bh
include N T in
theorem eO:Ar P w K mg base BW 4 aD.fWa aD.dWa jj (cM C):=by
 refine N.FWa.1.Dp N_ λH vs Q E hr h=>?_
 obtain⟨x,c,sz,p,D,n,rfl,O,a9,hn,kU,q⟩:=h
 have hu:=Fz hr
 refine⟨_,(Af (BX (i:=3) N_.nd rfl (Or.inl rfl) (zC (WQ N T) hr rfl N.FDc (Aa (pv 0) (Aa (pv 1) (Aa Bb Ab)))))
  (Af (BX (i:=4) N_.nd rfl (Or.inl rfl) KQ)
  (Af (BX (i:=5) N_.nd rfl (Or.inl rfl) (zC (YF N T) hr rfl N.FMe (Aa (pv 2) Ab)))
  (Af (Ua PassesOwn.never (J3 (pv 5) (λ_=>rfl)) (Af (BX (i:=6) N_.nd rfl (Or.inl rfl) (FW bb PySem.F.slot_list_pop PySem.F.type_list_pop Sy (pv 5) (Aa Ac Ab)))
  (Ag (Cv PassesOwn.never rfl (Bc (pv 3)) (Bp (i:=7) N_.nd rfl (Or.inl rfl)) (Af (BX (i:=8) N_.nd rfl (Or.inl rfl) (zC (jJ N T) hr rfl N.FLe (Aa (pv 0) (Aa (pv 7) (Aa (pv 6) Ab)))))
  (Ag (Bv (PW.pt (Iv (BV Wk (pv 8) Pj (Ba _)) (IW (Tp (Ry hu (pv 8) (pv 4)))))) (Af (Lk hu (pv 4) (pv 8) (CN (Aa (pv 7) (Aa (pv 6) Ab))) rfl)
  (Ag (Bv (DP (Dl (zC (T9 N T) hr rfl N.FHa (Aa (pv 2) (Aa (pv 8) Ab))))) (Ag (Ck (FW bb bX ce Br (pv 5) (Aa (pv 8) Ab)))) Bf))) Bf)))))))
  (Ag (Az (pv 4))))))),?_⟩
 have J:((Bl c sz).map (·.2)).sum=sz.sum:=by rw[CQ]
 generalize ab:stp (Bl c sz) p D=st
 have hR:∀ {j},Mx st (λi=>n.testBit i=true) j->j<sz.sum:=λ{j} r=>by
  rw[<-ab] at r
  have:=r.lt
  rw[J] at this
  exact this
 refine⟨_,rfl,_,rfl,x,Bl c sz,Cw c p,"coupler",D,rfl,O,λR cl H1 FA s1 aw tj sZ=>?_⟩
 have a6:∀ k,k∈cl ↔ ∃ z,p[k]? = some z/\Zz z=true/\D.testBit k=true:=λk=>by
  rw[tj]
  constructor
  ·rintro⟨r,hr,hw,hd⟩
   obtain⟨z,hz,rfl⟩:=GC hr
   rw[Ii] at hw
   exact⟨z,hz,decide_eq_true (congrArg V.str hw),hd⟩
  ·rintro⟨z,hz,hc,hd⟩
   exact⟨_,FT hz,(Ii _ _ _).trans (V.str.inj (of_decide_eq_true hc)),hd⟩
 intro W hW
 obtain⟨H2,b9,t2,u2⟩:=Kg (o:=HO.dK []) hW
 rw[b9]
 refine⟨_,rfl,n,rfl,hn,λL H3 hL s3 k7=>?_⟩
 have oi:=t2.trans s3
 have Nn:=s1.trans oi
 have aN:H W=none:=s1.free hW
 have a4:H L=none:=(s1.trans t2).free hL
 have aM:W ≠ L:=λz=>by rw[<-z,s3 _ _ u2] at k7;cases k7
 have c3:=oi _ _ aw
 have bN:CV K H3 R (nV cl):=.inl (.inl c3)
 have bn:R ≠ W:=λz=>by rw[z,s3 _ _ u2] at c3;cases c3
 have al:R ≠ L:=λz=>by rw[z] at aw;rw[t2 _ _ aw] at hL;cases hL
 show Et 5 _ _ _ _
 rw[WN]
 refine Tc ?_
 refine T4 (λσ G=>Aj H G/\G R=some (.lst (nV cl))/\∃ (t:List (Key × V)) (F u:List Nat),G W=some (.dK t)/\G L=some (.lst (nV u))/\t.map (·.1)=F.map kI/\F.Nodup/\M9 G (Bl c sz) p D n t F/\(∀ j∈F,Mx st (λi=>n.testBit i=true) j)/\(∀ i∈u,n.testBit i=true \/ i∈F)/\(∀ i,(n.testBit i=true \/ i∈F)->i∈u \/ ∀ j,st i j->j∈F)/\u.length+(sz.sum - F.length)<=1600/\∃ v6 v7 v8,σ=[some (.ref x),some (.int (D:Nat)),some (.int (n:Nat)),some (.ref R),some (.ref W),some (.ref L),v6,v7,v8])
  (λ_ G=>bT (G L)+(sz.sum - aQ (G W))) ⟨Nn,c3,[],[],Wd.mem n,s3 _ _ u2,k7,rfl,List.nodup_nil,(λm j hm=>by simp at hm),(λj hj=>nomatch hj),(λi X=>.inl (Wd.mem_iff.mp X)),(λi X=>.inl (Wd.mem_iff.mpr (X.resolve_right (by simp)))),?_,_,_,_,rfl⟩ ?_ ?_
 ·have:=Wd.MJ hn
  have:(Wd.mem n).length<=Wd.len n:=by unfold Wd.mem;exact Nat.le_trans (List.length_filter_le _ _) (by simp)
  have iS:=Eu O
  rw[J] at iS
  simp
  omega
 ·rintro σ G ⟨s4,c4,t,F,u,hw,hl,t9,nd,wx,hj,sJ,xO,xR,v6,v7,v8,rfl⟩
  refine⟨_,rfl,_,.inl ⟨_,iO hl,rfl⟩,?_⟩
  have bP:F.length<=sz.sum:=Ey sz.sum nd λj h=>hR (hj j h)
  have bB:t.length=F.length:=by have:=congrArg List.length t9;simpa using this
  cases u with
  | nil =>
   refine Dj ?_
   refine⟨_,rfl,q W t F G aN s4 hw t9 nd wx λj=>?_⟩
   rw[ab]
   exact Mx.all (W:=λj=>j∈F) hj (λi X=>(xO i X).resolve_left (by simp)) j
  | cons f u =>
   refine Dw ?_
   refine⟨_,rfl,.inl ⟨rfl,_,iO hl⟩,L,_,0,0,.int (f:Nat),rfl,rfl,hl,by decide,by decide,seqIndex_of (by decide) (by simp),rfl,?_⟩
   have w5:upd G L (.lst ((nV (f::u)).eraseIdx 0)) W=some (.dK t):=by rw[Aw aM];exact hw
   have l5:upd G L (.lst ((nV (f::u)).eraseIdx 0)) L=some (.lst (nV u)):=Al
   have c5:upd G L (.lst ((nV (f::u)).eraseIdx 0)) R=some (.lst (nV cl)):=by rw[Aw al];exact c4
   have s5:Aj H (upd G L (.lst ((nV (f::u)).eraseIdx 0))):=λb o e=>by rw[Aw (An e a4)];exact s4 _ _ e
   have em:bT (G L)+(sz.sum - aQ (G W))=u.length+1+(sz.sum - F.length):=by
    rw[hl,hw]
    show (nV (f::u)).length+(sz.sum - t.length)=_
    rw[bB]
    simp
   rw[em]
   have ap:M9 (upd G L (.lst ((nV (f::u)).eraseIdx 0))) (Bl c sz) p D n t F:=wx.upd hl (λxs z=>by cases z)
   generalize upd G L (.lst ((nV (f::u)).eraseIdx 0))=H5 at w5 l5 c5 s5 ap |-
   have bm:f<sz.sum:=by
    rcases sJ f (bt ..) with h | h
    ·exact kU f h
    ·exact hR (hj f h)
   have a1:∀ j,st f j->Mx st (λi=>n.testBit i=true) j:=λj h=>by
    rcases sJ f (bt ..) with g | g
    ·exact .one g h
    ·exact .more (hj f g) h
   obtain⟨qd,hq⟩:∃ qd,(Fo (Bl c sz))[f]? = some qd:=⟨_,ae (by rw[Eg,J];exact bm)⟩
   have M:u.length+(sz.sum - F.length)<u.length+1+(sz.sum - F.length):=by omega
   refine⟨_,rfl,R,rfl,⟨_,iO c5⟩,Eo (K:=K) (a:=R) (xs:=nV cl) (λm σ H6=>Aj H H6/\H6 R=some (.lst (nV cl))/\∃ (l:List (Key × V)) (d A:List Nat),H6 W=some (.dK l)/\H6 L=some (.lst (nV A))/\l.map (·.1)=d.map kI/\d.Nodup/\M9 H6 (Bl c sz) p D n l d/\(∀ j∈d,Mx st (λi=>n.testBit i=true) j)/\(∀ i∈A,n.testBit i=true \/ i∈d)/\(∀ i,(n.testBit i=true \/ i∈d)->i=f \/ i∈A \/ ∀ j,st i j->j∈d)/\(∀ k∈cl.take m,∀ z j,p[k]? = some z->gl (Bl c sz) z f=some j->j∈d)/\(n.testBit f=true \/ f∈d)/\A.length+(sz.sum - d.length)<=u.length+(sz.sum - F.length)/\∃ v7 v8,σ=[some (.ref x),some (.int (D:Nat)),some (.int (n:Nat)),some (.ref R),some (.ref W),some (.ref L),some (.int (f:Nat)),v7,v8])
    ⟨s5,c5,t,F,u,w5,l5,t9,nd,ap,hj,(λi X=>sJ i (List.mem_cons_of_mem _ X)),(λi X=>?_),(λk hk=>by simp at hk),sJ f (List.mem_cons_self ..),Nat.le_refl _,_,_,rfl⟩ (λm σ H6 _ h=>.inl (.inl h.2.1)) ?_ ?_⟩
   ·rcases xO i X with h | h
    ·rcases cm.mp h with rfl | h
     ·exact .inl rfl
     ·exact .inr (.inl h)
    ·exact .inr (.inr h)
   ·rintro m y σ H6 hm ⟨s6,c6,l,d,A,w6,l6,sg,vH,qB,vG,oQ,ot,qE,oS,rp,v7,v8,rfl⟩
    rw[ar] at hm
    obtain⟨k,hk,rfl⟩:=cr.mp hm
    obtain⟨z,hz,He,EG⟩:=(a6 k).mp (av hk)
    have EX:=a9.ok z (av hz)
    obtain⟨Z,j2,s0,rfl⟩:=Xw EX He
    obtain⟨PM,a8,_,_⟩:=EX
    have aP:(Bl c sz)[Z]? = some (c Z,sz[Z]):=FN (ae PM)
    have ac:(Bl c sz)[j2]? = some (c j2,sz[j2]):=FN (ae a8)
    have aK:(Cw c p)[k]? = some ⟨"coupler",c (30+k),[.str (c Z),.str (c j2),.int s0]⟩:=FT hz
    have bK:d.length<=sz.sum:=Ey sz.sum vH λj h=>hR (vG j h)
    have an:l.length=d.length:=by have:=congrArg List.length sg;simpa using this
    have iS:=Eu O
    rw[J] at iS
    refine⟨_,rfl,_,rfl,_,rfl,x,Bl c sz,Cw c p,k,f,Z,j2,(c Z,sz[Z]),(c j2,sz[j2]),qd,c (30+k),s0,rfl,O.mono s6,hq,aK,aP,ac,λH7 I=>?_⟩
    have B:∀ {yY:List Nat},(∀ j∈d,j∈yY)->(∀ j,gl (Bl c sz) (.cp Z j2 s0) f=some j->j∈yY)->∀ k'∈cl.take (m+1),∀ z j,p[k']? = some z->gl (Bl c sz) z f=some j->j∈yY:=λ{yY} a3 a0 k' nL z' j aB hg=>by
     rw[cE,hk] at nL
     rcases aI.mp nL with h | h
     ·exact a3 j (qE k' h z' j aB hg)
     ·have:k'=k:=by simpa using h
      subst this
      rw[hz] at aB
      cases aB
      exact a0 j hg
    rcases Uz (j1:=Z) (s:=s0) hq ac with⟨e,eg⟩ | ⟨j,e,eg,bL⟩
    ·rw[e]
     refine⟨_,rfl,rfl,_,rfl,Dj (Dj ?_)⟩
     exact⟨s6.trans I,I _ _ c6,l,d,A,I _ _ w6,I _ _ l6,sg,vH,qB.mono I,vG,oQ,ot,B (λj h=>h) (λj h=>by rw[eg] at h;cases h),oS,rp,_,_,rfl⟩
    ·rw[e]
     have a5:st f j:=by rw[<-ab];exact⟨k,_,EG,hz,eg⟩
     refine⟨_,rfl,rfl,_,rfl,Dw ?_⟩
     refine⟨_,rfl,_,rfl,W,_,rfl,Gp.k (k:=kI j) (I _ _ w6),_,rfl,?_⟩
     rw[Uj sg j]
     by_cases U:j∈d
     ·rw[decide_eq_true U]
      refine Dj ?_
      exact⟨s6.trans I,I _ _ c6,l,d,A,I _ _ w6,I _ _ l6,sg,vH,qB.mono I,vG,oQ,ot,B (λj h=>h) (λj' h=>by rw[eg] at h;cases h;exact U),oS,rp,_,_,rfl⟩
     ·rw[decide_eq_false U]
      refine Dw ?_
      have nv:Ci l (kI j)=none:=by
       have:=Uj sg j
       rw[decide_eq_false U] at this
       exact Option.not_isSome_iff_eq_none.mp (by rw[this];decide)
      have aC:(d++[j]).Nodup:=List.nodup_append.mpr ⟨vH,by simp,λa ha b hb=>by rw[List.mem_singleton.mp hb];intro z;exact U (z ▸ ha)⟩
      have as:∀ j'∈d++[j],Mx st (λi=>n.testBit i=true) j':=λj' h=>by
       rcases aI.mp h with h | h
       ·exact vG j' h
       ·rw[am.mp h]
        exact a1 j a5
      have aZ:(d++[j]).length<=sz.sum:=Ey sz.sum aC λj h=>hR (as j h)
      rw[ah,bq] at aZ
      refine⟨_,rfl,_,rfl,by show 2<=sizeLine;decide,λY OU=>?_⟩
      obtain⟨H8,b9,t8,DL⟩:=Kg (o:=HO.tup [V.int (k:Nat),V.int (f:Nat)]) OU
      rw[b9]
      have w8:=t8 _ _ (I _ _ w6)
      refine⟨_,rfl,_,rfl,W,_,rfl,N6.k (k:=kI j) w8 (Ax (by omega)),?_⟩
      have u9:upd H8 W (.dK (putK l (kI j) (.ref Y))) W=some (.dK (l++[(kI j,.ref Y)])):=by rw[<-Uq _ nv];exact Al
      have l9:upd H8 W (.dK (putK l (kI j) (.ref Y))) L=some (.lst (nV A)):=by rw[Aw aM.symm];exact t8 _ _ (I _ _ l6)
      have c9:upd H8 W (.dK (putK l (kI j) (.ref Y))) R=some (.lst (nV cl)):=by rw[Aw bn];exact t8 _ _ (I _ _ c6)
      have s9:Aj H (upd H8 W (.dK (putK l (kI j) (.ref Y)))):=λb o e=>by rw[Aw (An e aN)];exact t8 _ _ (I _ _ (s6 _ _ e))
      have S:M9 (upd H8 W (.dK (putK l (kI j) (.ref Y)))) (Bl c sz) p D n (l++[(kI j,.ref Y)]) (d++[j]):=by
       have p8:=((qB.mono I).mono t8).upd (o:=.dK (putK l (kI j) (.ref Y))) w8 (λxs z=>by cases z)
       exact p8.snoc nv (by rw[Aw (λz=>by rw[z,w8] at DL;cases DL)];exact DL) EG hz eg oS
      generalize upd H8 W (.dK (putK l (kI j) (.ref Y)))=H9 at u9 l9 c9 s9 S |-
      have a2:(l++[(kI j,V.ref Y)]).map (·.1)=(d++[j]).map kI:=by rw[db,db,sg];rfl
      refine⟨_,rfl,_,rfl,n,_,rfl,_,rfl,?_⟩
      have eb:(decide ((0:Int)<=(j:Nat)) && n.testBit ((j:Nat):Int).toNat)=n.testBit j:=by rw[decide_eq_true (by omega),gg,dA]
      rw[eb]
      cases hb:n.testBit j with
      | true =>
       refine Dj ?_
       refine⟨s9,c9,_,d++[j],A,u9,l9,a2,aC,S,as,(λi h=>(oQ i h).imp id (List.mem_append_left _)),(λi h=>?_),B (λj h=>List.mem_append_left _ h) (λj' h=>by rw[eg] at h;cases h;simp),oS.imp id (List.mem_append_left _),?_,_,_,rfl⟩
       ·have h':n.testBit i=true \/ i∈d:=by
         rcases h with h | h
         ·exact .inl h
         ·rcases aI.mp h with h | h
          ·exact .inr h
          ·rw[am.mp h]
           exact .inl hb
        rcases ot i h' with g | g | g
        ·exact .inl g
        ·exact .inr (.inl g)
        ·exact .inr (.inr λj' sC=>cf _ (g j' sC))
       ·rw[ah,bq]
        omega
      | false =>
       refine Dw ?_
       refine⟨_,rfl,.inl ⟨rfl,_,iO l9⟩,_,rfl,L,_,_,rfl,rfl,l9,XN (by simp only[List.length_cons] at xR;rw[List.length_map];omega),?_⟩
       have bl:upd H9 L (.lst (nV A++[V.int (j:Nat)])) L=some (.lst (nV (A++[j]))):=by
        have e9:nV (A++[j])=nV A++[V.int (j:Nat)]:=db
        rw[e9]
        exact Al
       have a7:upd H9 L (.lst (nV A++[V.int (j:Nat)])) W=some (.dK (l++[(kI j,.ref Y)])):=by rw[Aw aM];exact u9
       have bd:upd H9 L (.lst (nV A++[V.int (j:Nat)])) R=some (.lst (nV cl)):=by rw[Aw al];exact c9
       have bg:Aj H (upd H9 L (.lst (nV A++[V.int (j:Nat)]))):=λb o e=>by rw[Aw (An e a4)];exact s9 _ _ e
       refine⟨bg,bd,_,d++[j],A++[j],a7,bl,a2,aC,S.upd l9 (λxs z=>by cases z),as,(λi h=>?_),(λi h=>?_),B (λj h=>List.mem_append_left _ h) (λj' h=>by rw[eg] at h;cases h;simp),oS.imp id (List.mem_append_left _),?_,_,_,rfl⟩
       ·rcases aI.mp h with h | h
        ·exact (oQ i h).imp id (cf _)
        ·exact .inr (bp _ h)
       ·have h':(n.testBit i=true \/ i∈d) \/ i=j:=by
         rcases h with h | h
         ·exact .inl (.inl h)
         ·rcases aI.mp h with h | h
          ·exact .inl (.inr h)
          ·exact .inr (am.mp h)
        rcases h' with h' | rfl
        ·rcases ot i h' with g | g | g
         ·exact .inl g
         ·exact .inr (.inl (cf _ g))
         ·exact .inr (.inr λj' sC=>cf _ (g j' sC))
        ·exact .inr (.inl (by simp))
       ·rw[ah,ah,bq]
        omega
   ·rintro σ H6 ⟨s6,c6,l,d,A,w6,l6,sg,vH,qB,vG,oQ,ot,qE,oS,rp,v7,v8,rfl⟩
    have an:l.length=d.length:=by have:=congrArg List.length sg;simpa using this
    refine⟨⟨s6,c6,l,d,A,w6,l6,sg,vH,qB,vG,oQ,(λi X=>?_),by simp only[List.length_cons] at xR;omega,_,_,_,rfl⟩,?_⟩
    ·rcases ot i X with rfl | g | g
     ·refine .inr λj mh=>?_
      rw[<-ab] at mh
      obtain⟨k,z,vT,GN,hg⟩:=mh
      refine qE k ?_ z j GN hg
      rw[List.take_of_length_le (by simp)]
      exact (a6 k).mpr ⟨z,GN,iJ hg,vT⟩
     ·exact .inl g
     ·exact .inr g
    ·show bT (H6 L)+(sz.sum - aQ (H6 W))<_
     rw[l6,w6]
     show (nV A).length+(sz.sum - l.length)<_
     rw[af,an]
     omega
 ·rintro σ H' Q1 Q2 hm ⟨v,hv,k,hk,h⟩
  exact⟨v,hv,k,hk,hm _ _ h⟩
inductive Zr (C:Addr) (vs:List V) (H:Hp) (Q:VK) (a8:XK):Prop
 | mk (x:Addr) (c:Nat->Str) (sz:List Nat) (kbs:List Kb) (D n:Nat):vs=[.ref x,.int (D:Nat),.int (n:Nat)]->Cz C H x (Bl c sz) (Cw c kbs)->Ny sz.length kbs->n<2 ^ 1200->(∀ i,n.testBit i=true->i<sz.sum)->(∀ (m:Nat) H',Aj H H'->(∀ j,m.testBit j=true ↔ Mx (stp (Bl c sz) kbs D) (λi=>n.testBit i=true) j)->Q (.int (m:Nat)) H')->Zr C vs H Q a8
theorem QF {T:Nat} (h:∀ i,n.testBit i=true->i<T):Wd.mv n 0 T=n:=by
 refine W4 λi=>?_
 rw[Wd.aY]
 simp
 intro a
 exact h i a
theorem o6:Av jj jj (Ae lC):=Bh
include N T in
theorem ie:Ar P w K mg base BW 5 aD.fCq aD.dCq jj (Zr C):=by
 refine N.FCq.1.Dp o6 λH I Q E i h=>?_
 obtain⟨x,c,sz,g,D,n,rfl,O,k,m,p,q⟩:=h
 refine⟨_,(Ag (Az (zC (Mu N T) i rfl N.FSt (Aa (DR (Jo rfl) rfl T.list dc (Aa (zC (eO N T) i rfl N.FWa (Aa (pv 0) (Aa (pv 1) (Aa (zC (Y9 N T) i rfl N.FHk (Aa (pv 0) (Aa (pv 2) Ab))) Ab)))) Ab)) Ab)))),?_⟩
 have a:((Bl c sz).map (·.2)).sum=sz.sum:=by rw[CQ]
 have y:=Eu O
 rw[a] at y
 refine⟨_,rfl,_,rfl,_,rfl,_,rfl,x,Bl c sz,Cw c g,n,rfl,O,m,?_⟩
 rw[a,QF p]
 refine⟨x,c,sz,g,D,n,rfl,O,k,m,p,λW d b G F u z t nd _ o=>?_⟩
 have e:∀ j∈b,j<sz.sum:=λj h=>by
  have:=((o j).mp h).lt
  rw[a] at this
  exact this
 have A:=Ey sz.sum nd e
 have f:d.map (·.1)=(b.map λj:Nat=>(j:Int)).map Sum.inl:=by rw[t,aT];rfl
 refine⟨W,d,_,rfl,z,f,λl v=>?_⟩
 have s:(b.map λj:Nat=>(j:Int)).map V.int=nV b:=by rw[aT];rfl
 rw[s]
 refine⟨l,b,rfl,Al,by omega,λj h=>by have:=e j h;omega,λB r=>?_⟩
 refine q (Wd.mk b) B ((u.trans (BZ v)).trans r) λj=>?_
 rw[Wd.Ec,decide_eq_true_eq]
 exact o j
theorem Kc {K:W.Frag} (h:X.K=K):GK X (compareOp .NotIn) (iW K true):=h ▸ Lf
theorem VV (l:List Nat):(nV l).all F_=true:=fb.mpr λv a=>by
 obtain⟨n,_,rfl⟩:=ay.mp a
 rfl
theorem Wx (j:Nat) (a:List Nat):inV (.int (j:Nat)) (nV a)=decide (j∈a):=by
 rw[cw,decide_eq_true_eq]
 unfold inV
 rw[fS]
 constructor
 ·rintro⟨y,c,e⟩
  obtain⟨n,b,rfl⟩:=ay.mp c
  have d:(((n:Nat):Int) == ((j:Nat):Int))=true:=e
  have f:((n:Nat):Int)=(j:Nat):=eq_of_beq d
  have:n=j:=by omega
  subst this
  exact b
 ·intro h
  exact⟨_,List.mem_map_of_mem h,by show (((j:Nat):Int) == ((j:Nat):Int))=true;exact beq_self_eq_true _⟩
theorem mY:Av jp jp (Ae lu):=Bh
include N T in
theorem dN:Ar P w K mg base BW 2 aD.fOm aD.dOm jp (Oh C):=by
 refine N.FOm.1.Dp mY λH F Q E d h=>?_
 obtain⟨x,bs,o,k,j,m,i,n,c,rfl,O,f,a,q⟩:=h
 refine⟨_,(Ag (Az (Dq (pv 0) T.cl N.FBk.2.2 (Te N T) (ad d) N.FBk.2.1 .nil Ao (Aa (pv 1) Ab)))),?_⟩
 obtain⟨⟨b,fs,p,D,kp,B,s,V,t,e,l,R,r,U,z,g,J,A,W,I,M,v,u,S⟩,G,L,y⟩:=id O
 exact⟨_,rfl,x,b,fs,rfl,l,g _ (by decide),_,rfl,x,bs,o,k,j,m,i,n,c,rfl,O,f,a,q⟩
inductive Zb (C:Addr) (vs:List V) (H:Hp) (Q:VK) (a8:XK):Prop
 | mk (x:Addr) (bs:List (Str × Nat)) (rk:List (Str × Nat × Int)) (ks:List R) (ls:List (List Ln:_)) (k j1:Nat) (b1:Str × Nat) (wd nm:Str) (rs:List V) (l:List Ln):vs=[.ref x,.int (k:Nat)]->Cm C H x bs rk ks ls->ks[k]? = some ⟨wd,nm,.str b1.1::rs⟩->bs[j1]? = some b1->ls[k]? = some l->(∀ (T0 L0:Addr) (ts:List V) H',H L0=none->Aj H H'->H' T0=some (.tup [.int (j1:Nat),.ref L0])->H' L0=some (.lst ts)->Paired (λx y=>TupAt H' (fc x) y) l ts->Q (.ref T0) H')->Zb C vs H Q a8
theorem oN:Av jp jp (Ae mD):=Bh
include N T in
theorem gn:Ar P w K mg base BW 2 aD.fOs aD.dOs jp (Zb C):=by
 refine N.FOs.1.Dp oN λH vs Q E s h=>?_
 obtain⟨x,bs,rk,ks,ls,k,j,b1,Y,R,p,l,rfl,O,B,b,F,q⟩:=h
 refine⟨_,(Ag (Az (CN (Aa (Dq (pv 0) T.cl N.FBk.2.2 (Te N T) (ad s) N.FBk.2.1 .nil Ao (Aa (pv 1) Ab)) (Aa (DR DY rfl T.list dc (Aa (A_ (Ca (K:=K) rfl) (CK (pv 0) rfl) (pv 1) (λ_ _=>rfl)) Ab)) Ab))))),?_⟩
 obtain⟨⟨m,fs,bl,bn,kp,kr,f8,i5,jS,t,e,l1,l2,l3,l4,X,h2,h3,h4,h5,h6,h7,h8,h9⟩,qc,pe,qa⟩:=id O.o
 obtain⟨V,G,rl,rn,pp,Z,i6,vB,kN,g,m1,m2,m3,r,g2,g3,g4,g5,g6,g7,z,I,U⟩:=id O.r
 obtain⟨u,D⟩:V=m/\G=fs:=by rw[e] at g;cases g;exact⟨rfl,rfl⟩
 subst u D
 obtain⟨y,n,A,c,rfl,J,v⟩:=Cq U F
 refine⟨_,rfl,x,_,_,rfl,e,X _ (by decide),_,rfl,x,bs,ks,k,j,b1,Y,R,p,rfl,O.o,B,b,?_⟩
 refine⟨_,rfl,x,C,_,_,_,rfl,e,T.cl,T.n_knob_lines,r,_,rfl,Z,z,_,_,rfl,rfl,iO I,Ai n,A,c,rfl,iO (.inl J),λf a=>?_⟩
 obtain⟨H1,M,i,W⟩:=Kg (o:=HO.lst c) a
 rw[M]
 refine⟨by show 2<=sizeLine;decide,λL S=>?_⟩
 have d:=BZ (o:=HO.tup [.int (j:Nat),.ref f]) S
 exact q L f c _ a (i.trans d) Al (d _ _ W) (Aq (i.trans d) v)
inductive aF (C:Addr) (vs:List V) (H:Hp) (Q:VK) (a8:XK):Prop
 | mk (x:Addr) (bs:List (Str × Nat)) (rk:List (Str × Nat × Int)) (ks:List R) (ls:List (List Ln:_)):vs=[.ref x]->Cm C H x bs rk ks ls->(∀ D i6 H',H D=none->Aj H H'->H' D=some (.lst i6)->Paired (λ(a:Th) y=>TupAt H' (tV a) y) (rk.map UV) i6->Q (.ref D) H')->aF C vs H Q a8
theorem j9:Av kg kg (Ae mG):=Bh
include N T in
theorem d8:Ar P w K mg base BW 1 aD.fOr aD.dOr kg (aF C):=by
 refine N.FOr.1.Dp j9 λH U Q E W h=>?_
 obtain⟨x,bs,S,ks,ls,rfl,O,q⟩:=h
 refine⟨_,(Ag (Az (DR DY rfl T.list dc (Aa (CK (pv 0) rfl) Ab)))),?_⟩
 obtain⟨⟨f,fs,r,L,kp,I,v,i5,y,j,c,l1,t,l3,F,Z,h2,G,h4,X,h6,A,z,h9⟩,V,pe,B⟩:=id O.o
 obtain⟨i,o,g,D,pp,kl,b,vB,kN,d,p,J,m3,R,k,e,g4,g5,s,M,Y,g8,u⟩:=id O.r
 obtain⟨m,n⟩:i=f/\o=fs:=by rw[c] at d;cases d;exact⟨rfl,rfl⟩
 subst m n
 exact⟨_,rfl,x,C,_,_,_,rfl,c,T.cl,T.n_rank_list,p,g,b,rfl,iO (.inl k),λl a=>q l b _ a (BZ a) Al (Aq (BZ a) e)⟩
inductive Zc (C:Addr) (vs:List V) (H:Hp) (Q:VK) (a8:XK):Prop
 | mk (x:Addr) (bs:List (Str × Nat)) (rk:List (Str × Nat × Int)) (ks:List R) (ls:List (List Ln:_)):vs=[.ref x]->Cm C H x bs rk ks ls->Q (.int ((Fo (rk.map ak)).length:Nat)) H->Zc C vs H Q a8
theorem pJ:Av kg kg (Ae pZ):=Bh
include N T in
theorem dG:Ar P w K mg base BW 1 aD.fOq aD.dOq kg (Zc C):=by
 refine N.FOq.1.Dp pJ λH R Q E U h=>?_
 obtain⟨x,bs,M,ks,ls,rfl,O,q⟩:=h
 refine⟨_,(Ag (Az (BJ BR rfl T.len cq (Aa (CK (pv 0) rfl) Ab)))),?_⟩
 obtain⟨⟨d,fs,o,J,kp,G,t,i5,u,g,a,l1,p,l3,B,Y,h2,F,h4,V,h6,y,v,h9⟩,S,pe,z⟩:=id O.o
 obtain⟨f,m,D,A,l,kl,Z,j,kN,b,m1,I,n,L,W,r,g4,g5,c,e,X,g8,s⟩:=id O.r
 obtain⟨i,k⟩:f=d/\m=fs:=by rw[a] at b;cases b;exact⟨rfl,rfl⟩
 subst i k
 refine⟨_,rfl,x,C,_,_,_,rfl,a,T.cl,T.n_pipe_places,n,l,j,rfl,iO (.inl c),?_⟩
 rw[<-e.length]
 exact q
inductive Z3 (C:Addr) (vs:List V) (H:Hp) (Q:VK) (a8:XK):Prop
 | mk (x:Addr) (bs:List (Str × Nat)) (rk:List (Str × Nat × Int)) (ks:List R) (ls:List (List Ln:_)) (j:Nat) (r:Str × Nat × Int) (n:Int):vs=[.ref x,.str r.1,.int n]->Cm C H x bs rk ks ls->rk[j]? = some r->(∀ H',Aj H H'->Q (.int ((((rk.take j).map (λr=>r.2.1)).sum:Nat)+n)) H')->Z3 C vs H Q a8
theorem kJ:Av mr mr (Ae pW):=Bh
include N T in
theorem gG:Ar P w K mg base BW 2 aD.fOe aD.dOe mr (Z3 C):=by
 refine N.FOe.1.Dp kJ λH vs Q E s h=>?_
 obtain⟨x,bs,c,ks,ls,j,r,n,rfl,O,p,q⟩:=h
 have U:=Fz s
 refine⟨_,(Ag (Az (BL Bm (zC (YJ N T) s rfl N.FCa (Aa (Ek JT (CK (pv 0) rfl) Gd (Ew (GZ U (CK (pv 0) rfl) (pv 1) (λ_ _=>rfl)))) Ab)) (pv 2)))),?_⟩
 obtain⟨⟨u,fs,bl,bn,kp,kr,f8,i5,jS,B,l,l1,l2,l3,l4,lm,h2,h3,h4,h5,h6,h7,h8,h9⟩,qc,pe,qa⟩:=id O.o
 obtain⟨W,J,z,v,pp,kl,b,vB,kN,t,M,V,m3,m4,X,m,L,R,g6,g7,lv,g8,g9⟩:=id O.r
 obtain⟨D,G⟩:W=u/\J=fs:=by rw[l] at t;cases t;exact⟨rfl,rfl⟩
 subst D G
 have hj:j<c.length:=(ag.mp p).1
 have I:=m.length
 rw[af] at I
 have g:=Gp.k (k:=Sum.inr r.1) L
 rw[R j r p] at g
 refine⟨_,rfl,x,C,_,_,_,rfl,l,T.cl,T.n_rank_list,M,_,rfl,x,C,_,_,_,rfl,l,T.cl,T.n_rank_numbers,V,_,rfl,v,_,rfl,g,_,rfl,z,b,rfl,iO X,λd Y=>?_⟩
 have e:=BZ (o:=HO.lst (Dy b none (some (j:Int)))) Y
 have f:upd H d (HO.lst (Dy b none (some (j:Int)))) d=_:=Al
 generalize upd H d (HO.lst (Dy b none (some (j:Int))))=H6 at e f |-
 rw[Jm b j (by omega)] at f
 refine⟨d,(c.map UV).take j,b.take j,rfl,f,Gn (Aq e m) j,(by rw[df,af];have:=O.nr;omega),(λa S=>by obtain⟨F,i,rfl⟩:=ay.mp (fE S);exact bi (O.nz F i) (by decide)),λy A=>?_⟩
 have Z:(((c.map UV).take j).map λa=>a.2.1)=(c.take j).map (λr=>r.2.1):=by
  rw[<-iE,aT]
  rfl
 rw[Z]
 exact⟨_,rfl,_,_,rfl,rfl,q y (e.trans A)⟩
def Ul (l:List Nat):Nat:=l.foldl (· ||| ·) 0
theorem Mi (l:List Nat) (n:Nat):Ul (l++[n])=Ul l ||| n:=by
 unfold Ul
 rw[ed]
 rfl
theorem Qh:∀ (l:List Nat) (i:Nat),(Ul l).testBit i=true ↔ ∃ n∈l,n.testBit i=true:=by
 have f:∀ (k:Nat) (l:List Nat) (i:Nat),l.length=k->((Ul l).testBit i=true ↔ ∃ n∈l,n.testBit i=true):=by
  intro k
  induction k with
  | zero =>
   intro l i h
   cases l with
   | nil=>exact⟨λz=>absurd z (by unfold Ul;rw[List.foldl_nil,Nat.zero_testBit];decide),λ⟨n,d,_⟩=>nomatch d⟩
   | cons a b=>cases h
  | succ k g =>
   intro l i h
   obtain⟨a,z,rfl⟩:=Eh (l:=l) (by intro e;rw[e] at h;cases h)
   rw[ah,bq] at h
   rw[Mi,Vn,g a i (by omega)]
   constructor
   ·rintro (⟨n,d,c⟩ | c)
    ·exact⟨n,cf _ d,c⟩
    ·exact⟨z,by simp,c⟩
   ·rintro⟨n,d,c⟩
    rcases aI.mp d with h | h
    ·exact .inl ⟨n,h,c⟩
    ·rw[am.mp h] at c
     exact .inr c
 exact λl i=>f l.length l i rfl
inductive Xo (vs:List V) (H:Hp) (Q:VK) (a8:XK):Prop
 | mk (p:Addr) (l:List Nat):vs=[.ref p]->H p=some (.lst (nV l))->l.length<=500->Q (.int (Ul l:Nat)) H->Xo vs H Q a8
theorem Xy:Av ["sets","some","each"] ["sets"] (Ae jz):=Bh
include N T in
theorem Yg:Ar P w K mg base BW 1 aD.fUn aD.dUn ["sets"] Xo:=by
 refine N.FUn.1.Dp Xy λH k Q E m h=>?_
 obtain⟨p,l,rfl,g,o,q⟩:=h
 refine⟨_,(Af (BX (i:=1) Xy.nd rfl (Or.inl rfl) Ac)
  (Af (Cv PassesOwn.never rfl (Bc (pv 0)) (Bp (i:=2) Xy.nd rfl (Or.inl rfl)) (Ag (BX (i:=1) Xy.nd rfl (Or.inl rfl) (BL Ui (pv 1) (pv 2)))))
  (Ag (Az (pv 1))))),?_⟩
 have e:CV K H p (nV l):=.inl (.inl g)
 refine⟨_,rfl,p,rfl,⟨_,e⟩,Eo (K:=K) (a:=p) (xs:=nV l) (λi σ b=>b=H/\∃ c,σ=[some (.ref p),some (.int (Ul (l.take i):Nat)),c]) ⟨rfl,_,rfl⟩ (λi σ b _ h=>by rw[h.1];exact e) ?_ ?_⟩
 ·rintro i y σ b d ⟨rfl,c,rfl⟩
  rw[ar] at d
  obtain⟨n,j,rfl⟩:=cr.mp d
  refine⟨_,rfl,_,rfl,_,_,rfl,rfl,?_⟩
  refine⟨rfl,some (.int (n:Int)),?_⟩
  try dsimp only
  rw[Ls,cE,j]
  show _=[some (V.ref p),some (V.int ((Ul (l.take i++[n]):Nat):Int)),_]
  rw[Mi]
  rfl
 ·rintro σ b ⟨rfl,c,rfl⟩
  have f:l.take (nV l).length=l:=List.take_of_length_le (by simp)
  rw[f]
  exact⟨_,rfl,q⟩
def Ho (kbs:List Kb) (k:Nat):Nat:=match kbs[k]? with
 | some (.pl _ b)=>b
 | some (.cp b _ _)=>b
 | none=>0
theorem QG {c:Nat->Str} {k:Nat} {r:R} (h:(Cw c kbs)[k]? = some r):∃ rs,r=⟨r.w,r.nm,.str (c (Ho kbs k))::rs⟩:=by
 obtain⟨z,a,rfl⟩:=GC h
 unfold Ho
 rw[a]
 cases z with
 | cp i j s=>exact⟨_,rfl⟩
 | pl w i=>exact⟨_,rfl⟩
theorem Ve {k:Nat} {z:Kb} (h:Ny n kbs) (a:kbs[k]? = some z):Ho kbs k<n:=by
 have b:=h.ok z (av a)
 unfold Ho
 rw[a]
 cases z with
 | cp i j s=>exact b.1
 | pl w i=>exact b.1
inductive Qp (kbs:List Kb) (D b:Nat):Prop
 | mk (k:Nat) (z:Kb):kbs[k]? = some z->z.w = "mute"->D.testBit k=true->Ho kbs k=b->Qp kbs D b
inductive Zh (C:Addr) (vs:List V) (H:Hp) (Q:VK) (a8:XK):Prop
 | mk (x:Addr) (c:Nat->Str) (sz:List Nat) (kbs:List Kb) (D:Nat):vs=[.ref x,.int (D:Nat)]->Cz C H x (Bl c sz) (Cw c kbs)->Ny sz.length kbs->(∀ L (ml:List Nat) H',H L=none->Aj H H'->H' L=some (.lst (nV ml))->(∀ b,b∈ml ↔ Qp kbs D b)->ml.length<=200->Q (.ref L) H')->Zh C vs H Q a8
theorem lR:Av mw mw (Ae jX):=Bh
include N T in
theorem eQ:Ar P w K mg base BW 3 aD.fMu aD.dMu mw (Zh C):=by
 refine N.FMu.1.Dp lR λH vs Q E d h=>?_
 obtain⟨x,c,sz,a,D,rfl,O,A,q⟩:=h
 refine⟨_,(Ag (Az (Bj rfl (BP (osc:=Ae jX) (N:=mw) rfl rfl (by decide)) (Bc (zC (WQ N T) d rfl N.FDc (Aa (pv 0) (Aa (pv 1) (Aa Bb Ab))))) (λ_ _ _ _=>By) (λ_ _ _ _=>(Dq (pv 1) T.cl N.FOm.2.2 (dN N T) (ad d) N.FOm.2.1 .nil Ao (Aa (pv 0) Ab)))))),?_⟩
 refine⟨_,rfl,_,rfl,x,Bl c sz,Cw c a,"mute",D,rfl,O,λI s X FA u t f L=>?_⟩
 have n:CV K X I (nV s):=.inl (.inl t)
 have G:=O.mono u
 let g:V->V:=λv=>match v with | .int k=>.int (Ho a k.toNat:Nat) | _=>.non
 refine⟨I,rfl,⟨_,n⟩,Bs (K:=K) (xs:=nV s) (λ_=>true) g n (Ax (by rw[af];omega)) (λy F l B R k=>k l (Aj.refl l)) (λy F _ l B R k=>?_) (λD2 Y J W j=>?_)⟩
 ·obtain⟨i,hi,rfl⟩:=ay.mp F
  obtain⟨r,d,o,p⟩:=(f i).mp hi
  obtain⟨U,er⟩:=QG d
  rw[er] at d
  obtain⟨z,m,_⟩:=GC d
  have S:=Ve A m
  obtain⟨⟨M,fs,bl,bn,kp,kr,f8,i5,jS,Z,h1,l1,l2,l3,l4,lm,_⟩,_⟩:=id (G.mono B)
  have kk:=k l (Aj.refl l)
  refine⟨_,rfl,x,M,fs,rfl,h1,lm _ (by decide),_,rfl,x,Bl c sz,Cw c a,i,Ho a i,(c (Ho a i),sz[Ho a i]),_,_,U,rfl,G.mono B,d,FN (ae S),kk⟩
 ·rw[br.mpr (λ_ _=>rfl)] at j
  have e:(nV s).map g=nV (s.map (Ho a)):=by
   unfold nV
   rw[aT,aT]
   rfl
  rw[e] at j
  refine q D2 _ Y (u.free J) (u.trans W) j (λb=>?_) (by rw[af];exact L)
  rw[ay]
  constructor
  ·rintro⟨k,hk,rfl⟩
   obtain⟨r,d,o,p⟩:=(f k).mp hk
   obtain⟨z,m,rfl⟩:=GC d
   exact⟨k,z,m,(Ii _ _ _).symm.trans o,p,rfl⟩
  ·rintro⟨k,z,m,o,p,rfl⟩
   exact⟨k,(f k).mpr ⟨_,FT m,(Ii _ _ _).trans o,p⟩,rfl⟩
inductive cV (sz:List Nat) (i b:Nat):Prop
 | mk (n:_):n<sz.getD b 0->b<sz.length->i=(sz.take b).sum+n->cV sz i b
theorem WF {c:Nat->Str} {sz:List Nat} {a:Nat} (h:(Fo (Bl c sz))[i]? = some (a,n)):cV sz i a:=by
 obtain⟨b,f,g,d⟩:=Wm h
 obtain⟨z,e,rfl⟩:=SJ f
 rw[CQ] at d
 refine⟨n,?_,(ag.mp e).1,d⟩
 rw[aE,e]
 exact g
theorem WL {sz:List Nat} {a b:Nat} (d:cV sz i a) (k:cV sz i b):a=b:=by
 obtain⟨n,f,g,rfl⟩:=d
 obtain⟨m,l,j,e⟩:=k
 have c:∀ {a b n m:Nat},a<b->b<sz.length->n<sz.getD a 0->(sz.take a).sum+n ≠ (sz.take b).sum+m:=λ{a b n m} p j f e=>by
  have d:(sz.take (a+1)).sum<=(sz.take b).sum:=Lw sz (by omega)
  have g:a<sz.length:=by omega
  rw[cE,ae g,fm] at d
  rw[aE,ae g] at f
  have o:n<sz[a]:=f
  simp at d
  omega
 rcases Nat.lt_trichotomy a b with h | h | h
 ·exact absurd e (c h j f)
 ·exact h
 ·exact absurd e.symm (c h g l)
inductive ZW (C:Addr) (vs:List V) (H:Hp) (Q:VK) (a8:XK):Prop
 | mk (x:Addr) (c:Nat->Str) (sz:List Nat) (kbs:List Kb) (D n:Nat):vs=[.ref x,.int (D:Nat),.int (n:Nat)]->Cz C H x (Bl c sz) (Cw c kbs)->Ny sz.length kbs->n<2 ^ 1200->(∀ i,n.testBit i=true->i<sz.sum)->sz.sum<=305->(∀ (m:Nat) H',Aj H H'->(∀ j,m.testBit j=true ↔ n.testBit j=true/\∀ b,cV sz j b->¬ Qp kbs D b)->Q (.int (m:Nat)) H')->ZW C vs H Q a8
theorem gZ:Av ["organ","knobs","keys","muted"] j0 (Ae jT):=Bh
include N T in
theorem dR:Ar P w K mg base BW 4 aD.fUk aD.dUk j0 (ZW C):=by
 refine N.FUk.1.Dp gZ λH vs Q E B h=>?_
 obtain⟨x,c,sz,A,D,n,rfl,O,U,hn,S,iS,q⟩:=h
 refine⟨_,(Af (BX (i:=3) gZ.nd rfl (Or.inr rfl) (zC (eQ N T) B rfl N.FMu (Aa (pv 0) (Aa (pv 1) Ab))))
  (Ag (Az (zC (Mu N T) B rfl N.FSt (Aa (Bj rfl (BP (osc:=Ae jT) (N:=["organ","knobs","keys","muted"]) rfl rfl (by decide)) (Bc (zC (YF N T) B rfl N.FMe (Aa (pv 2) Ab))) (λ_ _ _ _=>(FQ (BV (Kc (K:=K) rfl) (A_ (Am (K:=K) rfl) (Dq (pv 1) T.cl N.FOo.2.2 (YC N T) (ad B) N.FOo.2.1 .nil Ao (Aa (pv 0) Ab)) Ac (λ_ _=>rfl)) (pv 4) rfl))) (λ_ _ _ _=>(pv 0))) Ab))))),?_⟩
 refine⟨_,rfl,_,rfl,x,c,sz,A,D,rfl,O,U,λML f H1 FL s1 J Z Pm=>?_⟩
 refine⟨_,rfl,n,rfl,hn,λP1 H2 So G M=>?_⟩
 have r:CV K H2 P1 (nV (Wd.mem n)):=.inl (.inl M)
 have O2:=O.mono (s1.trans G)
 have ab:=Wd.MJ hn
 have ac:(Wd.mem n).length<=305:=by
  have nd:(Wd.mem n).Nodup:=by unfold Wd.mem;exact List.Pairwise.filter _ List.nodup_range
  refine bi (Ey sz.sum nd λi g=>S i (Wd.mem_iff.mp g)) iS
 have e:∀ {i},i∈Wd.mem n->∃ a m,(Fo (Bl c sz))[i]? = some (a,m):=λ{i} g=>by
  have L:i<(Fo (Bl c sz)).length:=by rw[Eg,CQ];exact S i (Wd.mem_iff.mp g)
  exact⟨_,_,ae L⟩
 let p:V->Bool:=λv=>match v with | .int i=>(match (Fo (Bl c sz))[i.toNat]? with | some (a,_)=>!decide (a∈f) | none=>true) | _=>true
 refine⟨P1,rfl,⟨_,r⟩,Bs (K:=K) (xs:=nV (Wd.mem n)) p id r (Ax (by rw[af];omega)) (λy Y o F R k=>?_) (λy Y _ o F R k=>⟨_,rfl,k o (Aj.refl o)⟩) (λD3 H3 vS s3 W=>?_)⟩
 ·obtain⟨i,g,rfl⟩:=ay.mp Y
  obtain⟨a,m,d⟩:=e g
  have s:p (V.int (i:Nat)) = !decide (a∈f):=by
   show (match (Fo (Bl c sz))[((i:Nat):Int).toNat]? with | some (a,_)=>!decide (a∈f) | none=>true)=_
   rw[dA,d]
  have kk:=k o (Aj.refl o)
  rw[s] at kk
  obtain⟨⟨dx,fs,bl,bn,kp,kr,f8,i5,jS,al,l,l1,l2,l3,l4,lm,_⟩,_⟩:=id (O2.mono F)
  refine⟨_,rfl,x,dx,fs,rfl,l,lm _ (by decide),_,rfl,x,Bl c sz,Cw c A,i,(a,m),rfl,O2.mono F,d,λyv MY=>?_⟩
  obtain⟨T0,rfl,hT⟩:=MY
  refine⟨T0,_,_,_,rfl,rfl,iO hT,Ai (j:=0) rfl,_,rfl,ML,_,rfl,.inl (iO (F _ _ (G _ _ J))),rfl,VV f,_,rfl,?_⟩
  have X:inV (V.int (a:Nat)) (nV f)=decide (a∈f):=Wx a f
  rw[X]
  exact kk
 ·rw[ii] at W
  have e3:(nV (Wd.mem n)).filter p=nV ((Wd.mem n).filter λi=>p (.int (i:Nat))):=by
   unfold nV
   rw[eT]
   rfl
  rw[e3] at W
  have t:∀ i∈(Wd.mem n).filter (λi=>p (.int (i:Nat))),i<sz.sum:=λi g=>S i (Wd.mem_iff.mp (aS.mp g).1)
  refine⟨D3,_,rfl,W,bi (ck _ _) (by omega),λi g=>by have:=t i g;omega,λH4 s4=>?_⟩
  refine q _ H4 (s1.trans (G.trans (s3.trans s4))) λj=>?_
  rw[Wd.Ec,decide_eq_true_eq,aS,Wd.mem_iff]
  constructor
  ·rintro⟨l,u⟩
   refine⟨l,λb hb hm=>?_⟩
   obtain⟨a,m,d⟩:=e (Wd.mem_iff.mpr l)
   have s:p (V.int (j:Nat)) = !decide (a∈f):=by
    show (match (Fo (Bl c sz))[((j:Nat):Int).toNat]? with | some (a,_)=>!decide (a∈f) | none=>true)=_
    rw[dA,d]
   rw[s] at u
   have I:=WL hb (WF d)
   subst I
   rw[decide_eq_true ((Z b).mpr hm)] at u
   cases u
  ·rintro⟨l,u⟩
   refine⟨l,?_⟩
   obtain⟨a,m,d⟩:=e (Wd.mem_iff.mpr l)
   have s:p (V.int (j:Nat)) = !decide (a∈f):=by
    show (match (Fo (Bl c sz))[((j:Nat):Int).toNat]? with | some (a,_)=>!decide (a∈f) | none=>true)=_
    rw[dA,d]
   rw[s,decide_eq_false λz=>u a (WF d) ((Z a).mp z)]
   rfl
def Pq (c:Nat->Str) (sz:List Nat) (kbs:List Kb) (D n j:Nat):Prop:=Mx (stp (Bl c sz) kbs D) (λi=>n.testBit i=true) j \/ (n.testBit j=true/\∀ b,cV sz j b->¬ Qp kbs D b)
inductive aa (C:Addr) (vs:List V) (H:Hp) (Q:VK) (a8:XK):Prop
 | mk (x:Addr) (c:Nat->Str) (sz:List Nat) (kbs:List Kb) (D n:Nat):vs=[.ref x,.int (D:Nat),.int (n:Nat)]->Cz C H x (Bl c sz) (Cw c kbs)->Ny sz.length kbs->n<2 ^ 1200->(∀ i,n.testBit i=true->i<sz.sum)->(∀ (m:Nat) H',Aj H H'->(∀ j,m.testBit j=true ↔ Pq c sz kbs D n j)->Q (.int (m:Nat)) H')->aa C vs H Q a8
theorem j_:Av jj jj (Ae j5):=Bh
include N T in
theorem iB:Ar P w K mg base BW 6 aD.fSk aD.dSk jj (aa C):=by
 refine N.FSk.1.Dp j_ λH t Q E f h=>?_
 obtain⟨x,c,sz,b,D,n,rfl,O,d,g,i,q⟩:=h
 refine⟨_,(Ag (Az (BL Ui (zC (ie N T) f rfl N.FCq (Aa (pv 0) (Aa (pv 1) (Aa (pv 2) Ab)))) (zC (dR N T) f rfl N.FUk (Aa (pv 0) (Aa (pv 1) (Aa (zC (Y9 N T) f rfl N.FHk (Aa (pv 0) (Aa (pv 2) Ab))) Ab))))))),?_⟩
 have a:((Bl c sz).map (·.2)).sum=sz.sum:=by rw[CQ]
 have k:=Eu O
 rw[a] at k
 refine⟨_,rfl,_,rfl,_,rfl,x,c,sz,b,D,n,rfl,O,d,g,i,λm u e p=>?_⟩
 refine⟨_,rfl,_,rfl,_,rfl,_,rfl,x,Bl c sz,Cw c b,n,rfl,O.mono e,g,?_⟩
 rw[a,QF i]
 refine⟨x,c,sz,b,D,n,rfl,O.mono e,d,g,i,k,λl o r s=>?_⟩
 refine⟨_,_,rfl,rfl,?_⟩
 show Q (.int (Builtin.bitOr (m:Int) (l:Int))) o
 rw[Ls]
 refine q (m ||| l) o (e.trans r) λj=>?_
 rw[Vn,p,s]
 rfl
def bA (sz:List Nat) (b n:Nat):Nat:=Wd.mv n (-((sz.take b).sum:Int)) (sz.getD b 0)
theorem VM (n:Nat) (k:Int) (c:Nat):Wd.mv n k c<2 ^ c:=by
 unfold Wd.mv
 exact Nat.mod_lt _ (Nat.two_pow_pos _)
inductive aJ (C:Addr) (vs:List V) (H:Hp) (Q:VK) (a8:XK):Prop
 | mk (x:Addr) (c:Nat->Str) (sz:List Nat) (ks:List R) (b n:Nat):vs=[.ref x,.int (b:Nat),.int (n:Nat)]->Cz C H x (Bl c sz) ks->b<sz.length->n<2 ^ 1200->(∀ H',Aj H H'->Q (.int (bA sz b n:Nat)) H')->aJ C vs H Q a8
theorem gH:Av ["organ","board","keys","told"] o4 (Ae mQ):=Bh
include N T in
theorem gQ:Ar P w K mg base BW 3 aD.fNb aD.dNb o4 (aJ C):=by
 refine N.FNb.1.Dp gH λH Y Q E p h=>?_
 obtain⟨x,c,sz,t,b,n,rfl,O,v,M,q⟩:=h
 refine⟨_,(Af (BX (i:=3) gH.nd rfl (Or.inl rfl) (A_ (Ca (K:=K) rfl) (Ce (pv 0) T.cl N.FOb.2.2 (Y7 N T) (ad p) N.FOb.2.1 .nil Ao) (pv 1) (λ_ _=>rfl)))
  (Ag (Az (zC (V7 N T) p rfl N.FSh (Aa (pv 2) (Aa (J2 Hj (Dq (pv 0) T.cl N.FOk.2.2 (Yq N T) (ad p) N.FOk.2.1 .nil Ao (Aa (A_ (Am (K:=K) rfl) (pv 3) Ac (λ_ _=>rfl)) (Aa Ac Ab)))) (Aa (A_ (Am (K:=K) rfl) (pv 3) Ac (λ_ _=>rfl)) Ab))))))),?_⟩
 have U:=Eu O
 rw[CQ] at U
 have V:(sz.take b).sum<=sz.sum:=by
  have:=congrArg List.sum (fz b sz)
  rw[fm] at this
  omega
 have e:(Bl c sz)[b]? = some (c b,sz[b]):=FN (ae v)
 have k:=O.sz (c b,sz[b]) (av e)
 have y:sz[b]<=61:=k
 have a:(((Bl c sz).take b).map (·.2)).sum=(sz.take b).sum:=by rw[iE,CQ]
 have g:sz.getD b 0=sz[b]:=by rw[aE,ae v];rfl
 have d:∀ {u:Hp},Cz C u x (Bl c sz) t->∃ f fs,u x=some (.ins C f fs)/\∀ m∈meths,fs.lookup m=none:=λG=>by
  obtain⟨⟨f,fs,_,_,_,_,_,_,_,_,W,_,_,_,_,r,_⟩,_⟩:=G
  exact⟨f,fs,W,r⟩
 obtain⟨f,fs,S,r⟩:=d O
 refine⟨_,rfl,x,f,fs,rfl,S,r _ (by decide),x,Bl c sz,t,rfl,O,λD F H2 Z l s o=>?_⟩
 obtain⟨v3,I,T3,rfl,A⟩:=Cq o e
 refine⟨_,rfl,D,F,_,_,rfl,rfl,iO s,Ai I,?_⟩
 obtain⟨B,L,R,J⟩:=d (O.mono l)
 refine⟨_,rfl,_,rfl,x,B,L,rfl,R,J _ (by decide),_,rfl,T3,_,_,_,rfl,rfl,iO A,Ai (j:=0) rfl,x,Bl c sz,t,b,(c b,sz[b]),0,rfl,O.mono l,e,λX z=>?_⟩
 refine⟨_,rfl,_,rfl,T3,_,_,_,rfl,rfl,iO (z _ _ A),Ai (j:=1) rfl,n,_,sz[b],rfl,M,?_,?_,by omega,?_⟩
 ·rw[a]
  omega
 ·rw[a]
  omega
 ·have fin:=q X (l.trans z)
  unfold bA at fin
  rw[g] at fin
  rw[a,Int.add_zero]
  exact fin
def jQ (rk:List (Str × Nat × Int)) (r:Nat):Nat:=((rk.take r).map (λr=>r.2.1)).sum
def V_ (rk:List (Str × Nat × Int)) (r:Nat):Nat:=(rk.map (λr=>r.2.1)).getD r 0
def cj (rk:List (Str × Nat × Int)):Nat:=(rk.map (λr=>r.2.1)).sum
structure pF (rk:List (Str × Nat × Int)) (l:Ln):Prop where
 r:l.r<rk.length
 lo:0<=l.lo
 le:l.lo<=l.hi
 hi:l.hi<=60
 s1 : -200<=l.sh
 s2:l.sh<=200
def Rt (rk:List (Str × Nat × Int)) (l:Ln) (n:Nat):Nat:=Wd.mv (Wd.mv (Wd.mv n (-l.lo) (l.hi - l.lo+1).toNat) (l.lo+l.sh) (V_ rk l.r)) (jQ rk l.r:Nat) (cj rk)
theorem ZK {r:Nat} (h:r<rk.length):jQ rk r+V_ rk r<=cj rk:=by
 unfold jQ V_ cj
 have e:((rk.map (λr=>r.2.1)).take (r+1)).sum=((rk.take r).map (λr=>r.2.1)).sum+(rk.map (λr=>r.2.1)).getD r 0:=by
  rw[cE,ae (by rw[af];exact h),fm,iE,aE,ae (by rw[af];exact h)]
  simp
 have:=congrArg List.sum (fz (r+1) (rk.map (λr=>r.2.1)))
 rw[fm] at this
 omega
theorem Zv (f:rk.length<=12) (a:∀ r∈rk,r.2.1<=97):cj rk<=1164:=by
 have h:=Lb (rk.map ak) 97 λb c=>by
  obtain⟨r,d,rfl⟩:=ay.mp c
  exact a r d
 rw[Eg,aT,af] at h
 have:rk.length * 97<=12 * 97:=hV _ f
 have e:cj rk=(rk.map ((·.2) ∘ ak)).sum:=rfl
 omega
inductive Z5 (C:Addr) (vs:List V) (H:Hp) (Q:VK) (a8:XK):Prop
 | mk (x:Addr) (bs:List (Str × Nat)) (rk:List (Str × Nat × Int)) (ks:List R) (ls:List (List Ln:_)) (y:V) (l:Ln) (n:Nat):vs=[.ref x,y,.int (n:Nat)]->Cm C H x bs rk ks ls->TupAt H (fc l) y->pF rk l->n<2 ^ 1200->(∀ H',Aj H H'->Q (.int (Rt rk l n:Nat)) H')->Z5 C vs H Q a8
theorem We:Av ["organ","line","numbers","rank","from_low","on_rank"] nS (Ae nY):=Bh
include N T in
theorem fU:Ar P w K mg base BW 3 aD.fLl aD.dLl nS (Z5 C):=by
 refine N.FLl.1.Dp We λH vs Q E e h=>?_
 obtain⟨x,bs,a,t,v,y,l,n,rfl,O,hy,c,hn,q⟩:=h
 refine⟨_,(Af (BX (i:=3) We.nd rfl (Or.inl rfl) (A_ (Ca (K:=K) rfl) (Ce (pv 0) T.cl N.FOr.2.2 (d8 N T) (ad e) N.FOr.2.1 .nil Ao) (A_ (Am (K:=K) rfl) (pv 1) Ac (λ_ _=>rfl)) (λ_ _=>rfl)))
  (Af (BX (i:=4) We.nd rfl (Or.inl rfl) (zC (V7 N T) e rfl N.FSh (Aa (pv 2) (Aa (J2 Hj (A_ (Am (K:=K) rfl) (pv 1) Ac (λ_ _=>rfl))) (Aa (BL Bm (BL Es (A_ (Am (K:=K) rfl) (pv 1) Ac (λ_ _=>rfl)) (A_ (Am (K:=K) rfl) (pv 1) Ac (λ_ _=>rfl))) Ac) Ab)))))
  (Af (BX (i:=5) We.nd rfl (Or.inl rfl) (zC (V7 N T) e rfl N.FSh (Aa (pv 4) (Aa (BL Bm (A_ (Am (K:=K) rfl) (pv 1) Ac (λ_ _=>rfl)) (A_ (Am (K:=K) rfl) (pv 1) Ac (λ_ _=>rfl))) (Aa (A_ (Am (K:=K) rfl) (pv 3) Ac (λ_ _=>rfl)) Ab)))))
  (Ag (Az (zC (V7 N T) e rfl N.FSh (Aa (pv 5) (Aa (Dq (pv 0) T.cl N.FOe.2.2 (gG N T) (ad e) N.FOe.2.1 .nil Ao (Aa (A_ (Am (K:=K) rfl) (pv 3) Ac (λ_ _=>rfl)) (Aa Ac Ab))) (Aa (Ce (pv 0) T.cl N.FOq.2.2 (dG N T) (ad e) N.FOq.2.1 .nil Ao) Ab))))))))),?_⟩
 obtain⟨f,rfl,hT⟩:=hy
 have SA:=Zv O.nr O.nz
 have k:l.r<a.length:=c.r
 have ab:=ZK k
 have A:=ae k
 have ac:a[l.r].2.1<=97:=O.nz _ (zdl c.r)
 have I:V_ a l.r=a[l.r].2.1:=by
  unfold V_
  rw[aE,ar,A]
  rfl
 have o:(Fo (a.map ak)).length=cj a:=by
  rw[Eg,aT]
  rfl
 have Y:=c.lo
 have h2:=c.le
 have h3:=c.hi
 have h4:=c.s1
 have h5:=c.s2
 have b:∀ {W:Hp},Cm C W x bs a t v->∃ p fs,W x=some (.ins C p fs)/\∀ m∈meths,fs.lookup m=none:=λO'=>by
  obtain⟨⟨p,fs,_,_,_,_,_,_,_,_,Y,_,_,_,_,L,_⟩,_⟩:=O'.o
  exact⟨p,fs,Y,L⟩
 obtain⟨p,fs,hx,L⟩:=b O
 refine⟨_,rfl,x,p,fs,rfl,hx,L _ (by decide),x,bs,a,t,v,rfl,O,λD i6 H2 hD d F J=>?_⟩
 have g:=d _ _ hT
 have s:(a.map UV)[l.r]? = some (UV a[l.r]):=by rw[ar,A];rfl
 obtain⟨v3,ya,T3,rfl,X⟩:=Cq J s
 refine⟨_,rfl,f,_,_,_,rfl,rfl,iO g,Ai (j:=0) rfl,D,i6,_,_,rfl,rfl,iO F,Ai ya,?_⟩
 have e1:l.hi - l.lo+1=(((l.hi - l.lo+1).toNat:Nat):Int):=by omega
 refine⟨_,rfl,_,rfl,f,_,_,_,rfl,rfl,iO g,Ai (j:=2) rfl,_,rfl,_,rfl,f,_,_,_,rfl,rfl,iO g,Ai (j:=3) rfl,_,rfl,f,_,_,_,rfl,rfl,iO g,Ai (j:=2) rfl,_,_,rfl,rfl,_,_,rfl,rfl,n,-l.lo,(l.hi - l.lo+1).toNat,(by rw[<-e1] <;> rfl),hn,by omega,by omega,by omega,?_⟩
 have S:=VM n (-l.lo) (l.hi - l.lo+1).toNat
 generalize z:Wd.mv n (-l.lo) (l.hi - l.lo+1).toNat=u at S |-
 have R:u<2 ^ 1200:=ax S (hZ (by decide) (by omega))
 refine⟨_,rfl,_,rfl,f,_,_,_,rfl,rfl,iO g,Ai (j:=2) rfl,_,rfl,f,_,_,_,rfl,rfl,iO g,Ai (j:=1) rfl,_,_,rfl,rfl,_,rfl,T3,_,_,_,rfl,rfl,iO X,Ai (j:=1) rfl,u,l.lo+l.sh,a[l.r].2.1,rfl,R,by omega,by omega,by omega,?_⟩
 have U:=VM u (l.lo+l.sh) a[l.r].2.1
 generalize M:Wd.mv u (l.lo+l.sh) a[l.r].2.1=V at U |-
 have B:V<2 ^ 1200:=ax U (hZ (by decide) (by omega))
 obtain⟨Z,xX,vb,yz⟩:=b (O.mono d)
 refine⟨_,rfl,_,rfl,x,Z,xX,rfl,vb,yz _ (by decide),_,rfl,T3,_,_,_,rfl,rfl,iO X,Ai (j:=0) rfl,x,bs,a,t,v,l.r,a[l.r],0,rfl,O.mono d,A,λH3 G=>?_⟩
 obtain⟨Na,Md,P6,OO⟩:=b ((O.mono d).mono G)
 refine⟨_,rfl,x,Na,Md,rfl,P6,OO _ (by decide),x,bs,a,t,v,rfl,(O.mono d).mono G,V,_,(Fo (a.map ak)).length,rfl,B,?_,?_,?_,?_⟩
 ·omega
 ·have:((a.take l.r).map (λr=>r.2.1)).sum=jQ a l.r:=rfl
  omega
 ·omega
 ·have fin:=q H3 (d.trans G)
  unfold Rt at fin
  rw[z,I,M] at fin
  rw[o,Int.add_zero]
  exact fin
def jO (H:Hp):V->Ln
 | .ref T=>match H T with
  | some (.tup [.int r,.int sh,.int lo,.int hi])=>⟨r.toNat,sh,lo,hi⟩
  | _=>⟨0,0,0,0⟩
 | _=>⟨0,0,0,0⟩
theorem Vd {l:Ln} {v:V} (h:TupAt H (fc l) v):jO H v=l:=by
 obtain⟨T,rfl,e⟩:=h
 show (match H T with | some (.tup [.int r,.int sh,.int lo,.int hi])=>(⟨r.toNat,sh,lo,hi⟩:Ln) | _=>⟨0,0,0,0⟩)=l
 rw[e]
 show (⟨((l.r:Nat):Int).toNat,l.sh,l.lo,l.hi⟩:Ln)=l
 rw[dA]
theorem Wh {l:List Ln} (h:Paired (λx y=>TupAt H (fc x) y) l vs):vs.map (jO H)=l:=by
 induction h with
 | nil=>rfl
 | cons x y a=>rw[cy,a,Vd x]
def fX (sz:List Nat) (rk:List (Str × Nat × Int)) (b:Nat) (l:List Ln) (n:Nat):Nat:=Ul (l.map λln=>Rt rk ln (bA sz b n))
inductive bG (C:Addr) (vs:List V) (H:Hp) (Q:VK) (a8:XK):Prop
 | mk (x:Addr) (c:Nat->Str) (sz:List Nat) (rk:List (Str × Nat × Int)) (kbs:List Kb) (ls:List (List Ln:_)) (k n:Nat) (z:Kb) (l:List Ln):vs=[.ref x,.int (k:Nat),.int (n:Nat)]->Cm C H x (Bl c sz) rk (Cw c kbs) ls->Ny sz.length kbs->kbs[k]? = some z->ls[k]? = some l->l.length<=100->(∀ ln∈l,pF rk ln)->n<2 ^ 1200->(∀ H',Aj H H'->Q (.int (fX sz rk (Ho kbs k) l n:Nat)) H')->bG C vs H Q a8
theorem ZM:Av nK pf (Ae jd):=Bh
include N T in
theorem gY:Ar P w K mg base BW 4 aD.fBs aD.dBs pf (bG C):=by
 refine N.FBs.1.Dp ZM λH vs Q E b h=>?_
 obtain⟨x,c,sz,f,a,J,k,n,z,l,rfl,O,I,hz,hl,Fm,hg,hn,q⟩:=h
 refine⟨_,(Af (BX (i:=3) ZM.nd rfl (Or.inl rfl) (Dq (pv 0) T.cl N.FOs.2.2 (gn N T) (ad b) N.FOs.2.1 .nil Ao (Aa (pv 1) Ab)))
  (Af (BX (i:=4) ZM.nd rfl (Or.inr rfl) (zC (gQ N T) b rfl N.FNb (Aa (pv 0) (Aa (A_ (Am (K:=K) rfl) (pv 3) Ac (λ_ _=>rfl)) (Aa (pv 2) Ab)))))
  (Ag (Az (zC (Yg N T) b rfl N.FUn (Aa (Bj rfl (BP (osc:=Ae jd) (N:=nK) rfl rfl (by decide)) (Bc (A_ (Am (K:=K) rfl) (pv 3) Ac (λ_ _=>rfl))) (λ_ _ _ _=>By) (λ_ _ _ _=>(zC (fU N T) b rfl N.FLl (Aa (pv 1) (Aa (pv 0) (Aa (pv 5) Ab)))))) Ab)))))),?_⟩
 have b:=FT (c:=c) hz
 obtain⟨rs,er⟩:=QG b
 rw[er] at b
 have A:=Ve I hz
 have s:(Bl c sz)[Ho a k]? = some (c (Ho a k),sz[Ho a k]):=FN (ae A)
 have r:∀ {d:Hp},Cm C d x (Bl c sz) f (Cw c a) J->∃ g fs,d x=some (.ins C g fs)/\∀ m∈meths,fs.lookup m=none:=λO'=>by
  obtain⟨⟨g,fs,_,_,_,_,_,_,_,_,h1,_,_,_,_,G,_⟩,_⟩:=O'.o
  exact⟨g,fs,h1,G⟩
 obtain⟨g,fs,hx,G⟩:=r O
 refine⟨_,rfl,x,g,fs,rfl,hx,G _ (by decide),_,rfl,x,Bl c sz,f,Cw c a,J,k,Ho a k,(c (Ho a k),sz[Ho a k]),_,_,rs,l,rfl,O,b,s,hl,λT0 Y B H1 _ s1 U L vF=>?_⟩
 have Z:=O.mono s1
 refine⟨_,rfl,_,rfl,T0,_,_,_,rfl,rfl,iO U,Ai (j:=0) rfl,_,rfl,x,c,sz,Cw c a,Ho a k,n,rfl,Z.o,A,hn,λF p=>?_⟩
 have O2:=Z.mono p
 have O0:=VM n (-((sz.take (Ho a k)).sum:Int)) (sz.getD (Ho a k) 0)
 have ab:sz.getD (Ho a k) 0<=61:=by
  rw[aE,ae A]
  exact O.o.sz _ (av s)
 have t:bA sz (Ho a k) n<2 ^ 1200:=ax O0 (hZ (by decide) (by omega))
 have LM:=p _ _ L
 have D:=Aq p vF
 have ac:=D.length
 have o:CV K F Y B:=.inl (.inl LM)
 refine⟨_,rfl,T0,_,_,_,rfl,rfl,iO (p _ _ U),Ai (j:=1) rfl,Y,rfl,⟨_,o⟩,Bs (K:=K) (xs:=B) (λ_=>true) (λv=>.int (Rt f (jO F v) (bA sz (Ho a k) n):Nat)) o (Ax (by omega)) (λy W d S R k=>k d (Aj.refl d)) (λy W _ d S R k'=>?_) (λD3 H3 vS s3 M=>?_)⟩
 ·obtain⟨u,CA,X⟩:=C_ D W
  have e:=Vd X
  rw[e] at k'
  exact⟨_,rfl,_,rfl,_,rfl,x,Bl c sz,f,Cw c a,J,y,u,_,rfl,O2.mono S,X.mono S,hg u CA,t,λH4 s4=>k' H4 s4⟩
 ·rw[br.mpr (λ_ _=>rfl)] at M
  have e3:(B.map λv=>V.int (Rt f (jO F v) (bA sz (Ho a k) n):Nat))=nV (l.map λu=>Rt f u (bA sz (Ho a k) n)):=by
   rw[<-Wh D]
   unfold nV
   rw[aT,aT]
   rfl
  rw[e3] at M
  exact⟨D3,_,rfl,M,(by rw[af];omega),q H3 (s1.trans (p.trans s3))⟩
def jP (sz:List Nat) (rk:List (Str × Nat × Int)) (kbs:List Kb) (ls:List (List Ln)) (cl:List Nat) (n:Nat):Nat:=Ul (cl.map λk=>fX sz rk (Ho kbs k) (ls.getD k []) n)
abbrev gC (rk:List (Str × Nat × Int)) (ls:List (List Ln)):Prop:=∀ l∈ls,l.length<=100/\∀ ln∈l,pF rk ln
inductive cA (C:Addr) (vs:List V) (H:Hp) (Q:VK) (a8:XK):Prop
 | mk (x:Addr) (c:Nat->Str) (sz:List Nat) (rk:List (Str × Nat × Int)) (kbs:List Kb) (ls:List (List Ln:_)) (D n:Nat):vs=[.ref x,.int (D:Nat),.int (n:Nat)]->Cm C H x (Bl c sz) rk (Cw c kbs) ls->Ny sz.length kbs->gC rk ls->n<2 ^ 1200->(∀ (cl:List Nat) H',Aj H H'->(∀ k,k∈cl ↔ ∃ z,kbs[k]? = some z/\z.w = "stop" /\ D.testBit k=true)->Q (.int (jP sz rk kbs ls cl n:Nat)) H')->cA C vs H Q a8
theorem nU:Av j0 j0 (Ae ji):=Bh
include N T in
theorem fW:Ar P w K mg base BW 5 aD.fBa aD.dBa j0 (cA C):=by
 refine N.FBa.1.Dp nU λH vs Q E l h=>?_
 obtain⟨x,c,sz,u,a,b,D,n,rfl,O,G,Z,hn,q⟩:=h
 refine⟨_,(Ag (Az (zC (Yg N T) l rfl N.FUn (Aa (Bj rfl (BP (osc:=Ae ji) (N:=j0) rfl rfl (by decide)) (Bc (zC (WQ N T) l rfl N.FDc (Aa (pv 0) (Aa (pv 1) (Aa Bb Ab))))) (λ_ _ _ _=>By) (λ_ _ _ _=>(zC (gY N T) l rfl N.FBs (Aa (pv 1) (Aa (pv 0) (Aa (pv 3) Ab)))))) Ab)))),?_⟩
 refine⟨_,rfl,_,rfl,x,Bl c sz,Cw c a,"stop",D,rfl,O.o,λW f H1 FA M F tj sZ=>?_⟩
 have p:∀ k,k∈f ↔ ∃ z,a[k]? = some z/\z.w = "stop" /\ D.testBit k=true:=λk=>by
  rw[tj]
  constructor
  ·rintro⟨r,l,s,t⟩
   obtain⟨z,j,rfl⟩:=GC l
   exact⟨z,j,(Ii _ _ _).symm.trans s,t⟩
  ·rintro⟨z,j,s,t⟩
   exact⟨_,FT j,(Ii _ _ _).trans s,t⟩
 have o:CV K H1 W (nV f):=.inl (.inl F)
 have O1:=O.mono M
 let g:V->V:=λv=>match v with | .int k=>.int (fX sz u (Ho a k.toNat) (b.getD k.toNat []) n:Nat) | _=>.non
 refine⟨W,rfl,⟨_,o⟩,Bs (K:=K) (xs:=nV f) (λ_=>true) g o (Ax (by rw[af];omega)) (λy J A X R k=>k A (Aj.refl A)) (λy J _ A X R k=>?_) (λD2 H2 y9 Y d=>?_)⟩
 ·obtain⟨i,hi,rfl⟩:=ay.mp J
  obtain⟨z,j,s,t⟩:=(p i).mp hi
  have m:i<b.length:=by
   rw[O.nl,M7]
   exact (ag.mp j).1
  have L:=ae m
  have B:b.getD i []=b[i]:=by rw[aE,L];rfl
  have I:=Z b[i] (zdl m)
  refine⟨_,rfl,_,rfl,_,rfl,x,c,sz,u,a,b,i,n,z,b[i],rfl,O1.mono X,G,j,L,I.1,I.2,hn,λU s4=>?_⟩
  have S:R (.int (fX sz u (Ho a i) (b.getD i []) n:Nat)) U:=k U s4
  rw[B] at S
  exact S
 ·rw[br.mpr (λ_ _=>rfl)] at d
  have e:(nV f).map g=nV (f.map λk=>fX sz u (Ho a k) (b.getD k []) n):=by
   unfold nV
   rw[aT,aT]
   rfl
  rw[e] at d
  exact⟨D2,_,rfl,d,(by rw[af];omega),q f H2 (M.trans Y) p⟩
inductive Wy (C:Addr) (vs:List V) (H:Hp) (Q:VK) (a8:XK):Prop
 | mk (x:Addr) (c:Nat->Str) (sz:List Nat) (rk:List (Str × Nat × Int)) (kbs:List Kb) (ls:List (List Ln:_)) (D n:Nat):vs=[.ref x,.int (D:Nat),.int (n:Nat)]->Cm C H x (Bl c sz) rk (Cw c kbs) ls->Ny sz.length kbs->gC rk ls->n<2 ^ 1200->(∀ i,n.testBit i=true->i<sz.sum)->(∀ (cl:List Nat) (m:Nat) H',Aj H H'->(∀ k,k∈cl ↔ ∃ z,kbs[k]? = some z/\z.w = "stop" /\ D.testBit k=true)->(∀ j,m.testBit j=true ↔ Pq c sz kbs D n j)->Q (.int (jP sz rk kbs ls cl m:Nat)) H')->Wy C vs H Q a8
theorem nJ:Av jj jj (Ae pA):=Bh
include N T in
theorem Yn:Ar P w K mg base BW 7 aD.fSo aD.dSo jj (Wy C):=by
 refine N.FSo.1.Dp nJ λH z Q E g h=>?_
 obtain⟨x,c,sz,r,d,y,D,n,rfl,O,b,p,u,j,q⟩:=h
 refine⟨_,(Ag (Az (zC (fW N T) g rfl N.FBa (Aa (pv 0) (Aa (pv 1) (Aa (zC (iB N T) g rfl N.FSk (Aa (pv 0) (Aa (pv 1) (Aa (pv 2) Ab)))) Ab)))))),?_⟩
 have v:=Eu O.o
 rw[CQ] at v
 refine⟨_,rfl,_,rfl,_,rfl,_,rfl,_,rfl,x,c,sz,d,D,n,rfl,O.o,b,u,j,λm A k f=>?_⟩
 have a:m<2 ^ 1200:=by
  refine Nat.lt_pow_two_of_testBit m λi B=>?_
  rw[<-fv]
  intro l
  rcases (f i).mp l with h | h
  ·have:=h.lt
   rw[CQ] at this
   omega
  ·have:=j i h.1
   omega
 exact⟨x,c,sz,r,d,y,D,m,rfl,O.mono k,b,p,a,λs t o e=>q s m t (k.trans o) e f⟩
abbrev tb (P1:Addr):Mw:=⟨P1,⟨121,29,121,60⟩,"holes_of" ++ ".<locals>." ++ "<lambda>"⟩
theorem _root_.L2.BK.z {k:Nat} (r:BK k A):BK 0 A:=r.mono (ee _)
theorem Ww:Av ["spans","holes","span","ahead"] mI (Ae WY):=Bh
theorem dO (N:Zk K mg C c1 aD) (T:Txt K w.params mg C aN aK aB aP aM) (K1:Jk mg base c1 P1):Ar P w K mg base BW 1 aD.fHo aD.dHo mI (V4 (tb P1)):=by
 refine N.FHo.1.ok Ww (λvs H Q E h=>?_) (λA a1 s H vs Q E hr h=>?_)
 ·obtain⟨a,O,J,rfl,_⟩:=h
  rfl
 ·obtain⟨a,O,J,rfl,A0,j3,pj,rW,q⟩:=h
  refine⟨_,(@Af _ _ _ _ _ (@Bq _ _ _ _ _ _ 1 Ww.nd rfl (Or.inl rfl) (@Dk _ _ _ _ Ab) (by kernel_rfl) (.inl rfl))
   (@Af _ _ _ _ _ (Cv PassesOwn.never rfl (Bc (BJ (Lg rfl) rfl T.sorted gy (@Ay _ _ _ _ _ rfl (pv 0) Ab))) (Bp (i:=2) Ww.nd rfl (Or.inl rfl)) (@Ag _ _ _ (@Bv _ _ _ _ _ _ _ _ (PW.pt (Iv (J3 (pv 1) (λ_=>rfl)) (Iv (BV Dt (@A_ _ _ _ _ _ _ _ (Am (K:=K) rfl) (@A_ _ _ _ _ _ _ _ Fi (pv 1) (J2 Hj Ac) (λ_ _=>rfl)) Ac (λ_ _=>rfl)) (@A_ _ _ _ _ _ _ _ (Am (K:=K) rfl) (pv 2) Ac (λ_ _=>rfl)) (Ba _)) (IW (BV Dh (@A_ _ _ _ _ _ _ _ (Am (K:=K) rfl) (pv 2) Ac (λ_ _=>rfl)) (@A_ _ _ _ _ _ _ _ (Am (K:=K) rfl) (@A_ _ _ _ _ _ _ _ Fi (pv 1) (J2 Hj Ac) (λ_ _=>rfl)) Ac (λ_ _=>rfl)) (Ba _)))))) (@Af _ _ _ _ _ (@Bq _ _ _ _ _ _ 3 Ww.nd rfl (Or.inl rfl) (Nz bb PySem.F.slot_list_pop PySem.F.type_list_pop az (pv 1)) (by kernel_rfl) (.inl rfl))
   (@Ag _ _ _ (Ck (FW bb bX ce Br (pv 1) (@Ay _ _ _ _ _ rfl (@CN _ _ _ _ _ (@Ay _ _ _ _ _ rfl (@A_ _ _ _ _ _ _ _ (Am (K:=K) rfl) (pv 2) Ac (λ_ _=>rfl)) (@Ay _ _ _ _ _ rfl (@A_ _ _ _ _ _ _ _ (Am (K:=K) rfl) (pv 3) Ac (λ_ _=>rfl)) (@Ay _ _ _ _ _ rfl (BJ (Kw rfl) rfl T.max PyProof.Rows.boot_max (@Ay _ _ _ _ _ rfl (@A_ _ _ _ _ _ _ _ (Am (K:=K) rfl) (pv 3) Ac (λ_ _=>rfl)) (@Ay _ _ _ _ _ rfl (@A_ _ _ _ _ _ _ _ (Am (K:=K) rfl) (pv 2) Ac (λ_ _=>rfl)) Ab))) Ab)))) Ab))))) (@Ag _ _ _ (Ck (FW bb bX ce Br (pv 1) (@Ay _ _ _ _ _ rfl (pv 2) Ab)))))))
   (@Ag _ _ _ (@Az _ _ _ _ (Px rfl K1 hr.z rfl T.sorted (pv 1) rfl rfl (λ_ _ _ _=>rfl) rfl (by decide) rfl rfl rfl rfl rfl))))),?_⟩
  refine⟨ee _,λl hl=>?_⟩
  have s1:=BZ (o:=HO.lst []) hl
  have A1:=A0.mono s1
  have l1:upd H l (HO.lst []) l=some (.lst []):=Al
  generalize upd H l (HO.lst [])=H1 at s1 A1 l1 |-
  refine⟨_,rfl,a,O,J,rfl,iO A1.l,A1.p,by omega,λp F hp pm pw=>?_⟩
  have s2:=BZ (o:=HO.lst (F.map λi=>J.getD i V.non)) hp
  have hb:∀ i∈F,i<J.length:=λi hi=>dt.mp (pm.mem_iff.mp hi)
  have X:l ≠ p:=An l1 hp
  have A2:Dd (upd H1 p (HO.lst (F.map λi=>J.getD i V.non))) p (F.map λi=>O.getD i (0,0,0)) (F.map λi=>J.getD i V.non):=⟨Al,Aq s2 (JL A1.p hb)⟩
  have l2:=s2 _ _ l1
  have EC:=s1.trans s2
  generalize upd H1 p (HO.lst (F.map λi=>J.getD i V.non))=H2 at s2 A2 l2 EC |-
  have lt:=A0.len
  have aC:F.Perm (List.range O.length):=by rw[lt];exact pm
  have D:=IV (z:=((0,0,0):Ro.T3)) aC
  have uR:=Xr pw
  have al:(F.map λi=>O.getD i ((0,0,0):Ro.T3)).length=O.length:=by rw[af,aC.length_eq,dE]
  generalize (F.map λi=>O.getD i ((0,0,0):Ro.T3))=ss at A2 D uR al
  generalize (F.map λi=>J.getD i V.non)=Y at A2
  have a7:H p=none:=s1.free hp
  refine⟨p,rfl,⟨_,iO A2.l⟩,Eo (K:=K) (a:=p) (xs:=Y) (λi σ m=>∃ (r:List Ro.T3) (n:List V) (v2 v3:Option V),σ=[some (.ref a),some (.ref l),v2,v3]/\Dd m l r n/\OD (ss.take i) r/\r.length<=i/\Aj H m/\Dd m p ss Y) ⟨[],[],_,_,rfl,⟨l2,.nil⟩,OD.nil,ai _,EC,A2⟩ (λi σ m _ h=>by obtain⟨_,_,_,_,_,_,_,_,_,h⟩:=h;exact iO h.l) ?_ ?_⟩
  ·rintro i y σ m hi ⟨r,n,v2,v3,rfl,d,M,ES,s4,G⟩
   obtain⟨x,v,hx,sQ,rfl,hT⟩:=G.at hi
   obtain⟨e1,e2⟩:=Uk hx
   have qT:Er K m v (Kf x):=.inl (.inl hT)
   have vN:=pj x ((D x).mp sQ)
   have ab:∀ g∈ss.take i,ZZ g x:=λg hg=>by
    rw[e1,ft] at uR
    exact uR.2.2 g hg x (bt ..)
   have a8:i<Y.length:=(ag.mp hi).1
   have a3:Y.length<400:=by have:=G.len;omega
   have W:n.length<=i:=by have:=d.len;omega
   have push:¬ (∃ f h,r=f++[h]/\h.1=x.1/\x.2.1<=h.2.2)->Dd (upd m l (HO.lst (n++[V.ref v]))) l (r++[x]) (n++[V.ref v])/\OD (ss.take (i+1)) (r++[x])/\(r++[x]).length<=i+1/\Aj H (upd m l (HO.lst (n++[V.ref v])))/\Dd (upd m l (HO.lst (n++[V.ref v]))) p ss Y:=λa2=>by
    refine⟨d.snoc hT,?_,by rw[ah,bq];omega,λb o e=>by rw[Aw (An e hl)];exact s4 b o e,⟨by rw[Aw (Ne.symm X)];exact G.l,CT G.p d.l⟩⟩
    rw[e2]
    exact M.push vN ab λf h e hh=>a2 ⟨f,h,e,hh⟩
   rcases List.eq_nil_or_concat r with e0 | ⟨f,h,e0⟩
   ·subst e0
    have a5:n=[]:=List.length_eq_zero_iff.mp (by rw[<-d.len];rfl)
    subst a5
    refine⟨_,rfl,false,.inl ⟨[],iO d.l,rfl⟩,Dj (Dj ?_)⟩
    refine⟨_,rfl,.inl ⟨rfl,_,iO d.l⟩,_,rfl,l,_,_,rfl,rfl,d.l,by show 0<sizeLine;decide,?_⟩
    obtain⟨k1,k2,k3,k4,U⟩:=push (λ⟨f,h,e,_⟩=>by simp at e)
    exact⟨_,_,_,_,rfl,k1,k2,k3,k4,U⟩
   ·have OI:r=f++[h]:=by rw[e0];simp
    subst OI
    obtain⟨u,zh,ez⟩:∃ u zh,n=u++[zh]:=by
     have hz:n.length=f.length+1:=by rw[<-d.len];simp
     exact⟨n.dropLast,n.getLast (by intro z;rw[z] at hz;simp at hz),(List.dropLast_concat_getLast _).symm⟩
    subst ez
    have ap:u.length=f.length:=by have:=d.len;simp at this;omega
    obtain⟨k,Th,FR,_,rfl,C9⟩:=d.at (i:=u.length) (y:=zh) (by simp)
    have eh:k=h:=by
     rw[ap] at FR
     simpa using FR.symm
    subst eh
    have Z:CV K m l (u++[V.ref Th]):=.inl (.inl d.l)
    have qh:Er K m Th (Kf k):=.inl (.inl C9)
    refine⟨_,rfl,true,.inl ⟨_,Z,by simp⟩,Dw ?_⟩
    refine⟨_,rfl,_,rfl,l,_,_,_,rfl,rfl,Z,Bw.Jb,Th,_,_,_,rfl,rfl,qh,Ai (j:=0) rfl,_,rfl,v,_,_,_,rfl,rfl,qT,Ai (j:=0) rfl,rfl,_,rfl,?_⟩
    refine Cr (λg1=>?_) (λg1=>?_)
    ·have a4:k.1=x.1:=V.int.inj (of_decide_eq_true g1)
     refine⟨_,rfl,v,_,_,_,rfl,rfl,qT,Ai (j:=1) rfl,_,rfl,_,rfl,l,_,_,_,rfl,rfl,Z,Bw.Jb,Th,_,_,_,rfl,rfl,qh,Ai (j:=2) rfl,_,_,rfl,rfl,_,rfl,?_⟩
     refine Cr (λg2=>?_) (λg2=>?_)
     ·have M2:x.2.1<=k.2.2:=of_decide_eq_true g2
      refine⟨_,rfl,.inl ⟨rfl,_,Z⟩,l,_,V.ref Th,rfl,rfl,d.l,by simp,?_⟩
      have L5:Dd (upd m l (HO.lst (u++[V.ref Th]).dropLast)) l f u:=by
       rw[List.dropLast_concat]
       refine⟨Al,CT (ws:=u) ?_ d.l⟩
       have sE:=d.p
       have tk:=Og.Gn sE f.length
       rw[im rfl,<-ap,im rfl] at tk
       exact tk
      have aZ:upd m l (HO.lst (u++[V.ref Th]).dropLast) v=some (.tup (Kf x)):=by rw[Aw (QQ hT d.l (λz=>by cases z))];exact hT
      have L:upd m l (HO.lst (u++[V.ref Th]).dropLast) Th=some (.tup (Kf k)):=by rw[Aw (QQ C9 d.l (λz=>by cases z))];exact C9
      have s5:Aj H (upd m l (HO.lst (u++[V.ref Th]).dropLast)):=λb o e=>by rw[Aw (An e hl)];exact s4 b o e
      have A5:Dd (upd m l (HO.lst (u++[V.ref Th]).dropLast)) p ss Y:=⟨by rw[Aw (Ne.symm X)];exact G.l,CT G.p d.l⟩
      generalize upd m l (HO.lst (u++[V.ref Th]).dropLast)=R at L5 aZ L s5 A5 |-
      have aw:Er K R v (Kf x):=.inl (.inl aZ)
      have ac:Er K R Th (Kf k):=.inl (.inl L)
      refine⟨_,rfl,.inl ⟨rfl,_,iO L5.l⟩,_,rfl,v,_,_,_,rfl,rfl,aw,Ai (j:=0) rfl,_,rfl,Th,_,_,_,rfl,rfl,ac,Ai (j:=1) rfl,_,rfl,Th,_,_,_,rfl,rfl,ac,Ai (j:=2) rfl,_,rfl,v,_,_,_,rfl,rfl,aw,Ai (j:=2) rfl,_,_,rfl,by show 3<=sizeLine;decide,λt6 Ll=>?_⟩
      have a6:(if x.2.2 > k.2.2 then x.2.2 else k.2.2)=max k.2.2 x.2.2:=by split <;> omega
      rw[a6]
      have I:=BZ (o:=HO.tup [V.int x.1,V.int k.2.1,V.int (max k.2.2 x.2.2)]) Ll
      have as:upd R t6 (HO.tup [V.int x.1,V.int k.2.1,V.int (max k.2.2 x.2.2)]) t6=some (.tup (Kf (x.1,k.2.1,max k.2.2 x.2.2))):=Al
      have L6:=L5.mono I
      have A6:=A5.mono I
      generalize upd R t6 (HO.tup [V.int x.1,V.int k.2.1,V.int (max k.2.2 x.2.2)])=H6 at I as L6 A6 |-
      refine⟨l,_,_,rfl,rfl,L6.l,Ax (by simp at W;omega),?_⟩
      refine⟨f++[(x.1,k.2.1,max k.2.2 x.2.2)],_,_,_,rfl,L6.snoc as,?_,by simp at ES |-;omega,λb o e=>by rw[Aw (An e hl)];exact I _ _ (s5 b o e),⟨by rw[Aw (Ne.symm X)];exact A6.l,CT A6.p L6.l⟩⟩
      rw[e2]
      exact M.join ab a4 M2
     ·refine⟨_,rfl,.inl ⟨rfl,_,Z⟩,_,rfl,l,_,_,rfl,rfl,d.l,Ax (by omega),?_⟩
      obtain⟨k1,k2,k3,k4,U⟩:=push (λ⟨Ch,h2,e,_,z⟩=>by
       have:h2=k:=by have:=congrArg List.getLast? e;simp at this;exact this.symm
       subst this
       exact g2 (decide_eq_true z))
      exact⟨_,_,_,_,rfl,k1,k2,k3,k4,U⟩
    ·refine Dj ?_
     refine⟨_,rfl,.inl ⟨rfl,_,Z⟩,_,rfl,l,_,_,rfl,rfl,d.l,Ax (by omega),?_⟩
     obtain⟨k1,k2,k3,k4,U⟩:=push (λ⟨Ch,h2,e,z,_⟩=>by
      have:h2=k:=by have:=congrArg List.getLast? e;simp at this;exact this.symm
      subst this
      exact g1 (decide_eq_true (by rw[z])))
     exact⟨_,_,_,_,rfl,k1,k2,k3,k4,U⟩
  ·rintro σ m ⟨r,n,v2,v3,rfl,d,M,ES,s4,G⟩
   rw[fe (by rw[G.len];exact ai _)] at M
   have a3:=G.len
   have W:=d.len
   have ER:=rW.same s4
   refine⟨_,rfl,l,r,n,rfl,iO d.l,d.p,by omega,ER,λp5 CH R MV Nc U Pf Fn KW=>?_⟩
   have S:CH.Perm (List.range r.length):=by rw[W];exact Fn
   have a0:Kp (tb P1) m R:=λb o ho e=>U b o (λz=>by
    rcases ER with t1 | ⟨c,t1,_⟩
    ·rw[z] at e;rw[t1] at e;exact ho _ (Option.some.inj e).symm
    ·rw[z] at e;rw[t1] at e;exact ho _ (Option.some.inj e).symm) e
   have L5:=Dd.kp d a0
   have I:=BZ (o:=HO.lst (CH.map λi=>n.getD i V.non)) Nc
   have an:Tb (tb P1) R:=Pf
   refine q p5 (CH.map λi=>r.getD i (0,0,0)) _ _ (s4.free MV) ((Kp.of (B:=tb P1) s4).trans (a0.trans (Kp.of I))) (an.same I) ⟨Al,Aq I (JL L5.p λi hi=>dt.mp (Fn.mem_iff.mp hi))⟩ (canon_of M.sep M.nodup S KW) (λtr t=>?_) (by rw[af,S.length_eq,dE];omega)
   rw[Fl.perm (IV S),M.cov,Fl.perm D]
include N T in
theorem ZL:Ar P w K mg base BW 2 aD.fMy aD.dMy kt cO:=by
 refine N.FMy.1.ok du (λc H Q E h=>?_) (λk A a s H c Q E d h=>?_)
 ·obtain⟨i,rfl,_⟩:=h
  rfl
 ·obtain⟨i,rfl,f,j,q⟩:=h
  obtain⟨g,b⟩:=T.below
  refine⟨_,(@Ag _ _ _ (@Az _ _ _ _ (Cj (zC (Ml N T) d rfl N.FWh (@Ay _ _ _ _ _ rfl (pv 0) Ab)) (Cp (GD Dh Fd Ac (pv 0) (CJ (v:=.int 1200) rfl b ⟨g,rfl⟩)))))),?_⟩
  refine⟨_,rfl,i,rfl,_,rfl,Dw ?_⟩
  refine⟨_,rfl,_,_,rfl,rfl,_,rfl,X5 f ?_⟩
  refine⟨_,_,rfl,rfl,?_⟩
  have e:decide (i<1200)=true:=decide_eq_true j
  try dsimp only
  rw[e]
  exact q
theorem pX:Av kt kt (Ae j6):=Bh
include N T in
theorem jF:Ar P w K mg base BW 2 aD.fIl aD.dIl kt Ze:=by
 refine N.FIl.1.ok pX (λc H Q E h=>?_) (λk A a s H c Q E d h=>?_)
 ·obtain⟨i,rfl,_⟩:=h
  rfl
 ·obtain⟨i,rfl,g,j,q⟩:=h
  obtain⟨f,b⟩:=T.cMOST_TICKS
  refine⟨_,(@Ag _ _ _ (@Az _ _ _ _ (Cj (zC (Ml N T) d rfl N.FWh (@Ay _ _ _ _ _ rfl (pv 0) Ab)) (Cp (GD Dh Dh Ac (pv 0) (CJ (v:=.int 1000000000000) rfl b ⟨f,rfl⟩)))))),?_⟩
  refine⟨_,rfl,i,rfl,_,rfl,Dw ?_⟩
  refine⟨_,rfl,_,_,rfl,rfl,_,rfl,X5 g ?_⟩
  refine⟨_,_,rfl,rfl,?_⟩
  have e:decide (i<=1000000000000)=true:=decide_eq_true j
  try dsimp only
  rw[e]
  exact q
theorem j4:Av km km (Ae nj):=Bh
include N T in
theorem dq:Ar P w K mg base BW 3 aD.fHw aD.dHw km cL:=by
 refine N.FHw.1.ok j4 (λl H Q E h=>?_) (λo A d s H l Q E c h=>?_)
 ·obtain⟨a,t,len,rfl,_⟩:=h
  rfl
 ·obtain⟨a,t,len,rfl,f,ok,q⟩:=h
  refine⟨_,(@Af _ _ _ _ _ (@Bv _ _ _ _ _ _ _ _ (PW.pt (G4 (DP (Dl (BJ Cd rfl T.isin bE (@Ay _ _ _ _ _ rfl (pv 0) (@Ay _ _ _ _ _ rfl (Du (v:=.ty "tuple") rfl T.tuple PyProof.Rows.boot_tuple rfl) Ab))))) (G4 (BV KR (BJ BR rfl T.len cq (@Ay _ _ _ _ _ rfl (pv 0) Ab)) Ac (Ba _)) (Ga (DP (Dl (zC (ZL N T) c rfl N.FMy (@Ay _ _ _ _ _ rfl (@A_ _ _ _ _ _ _ _ (Am (K:=K) rfl) (pv 0) Ac (λ_ _=>rfl)) Ab)))))))) (@Ag _ _ _ (@Az _ _ _ _ Jq)) Bf)
   (@Ag _ _ _ (@Az _ _ _ _ (Cj (zC (Ml N T) c rfl N.FWh (@Ay _ _ _ _ _ rfl (@A_ _ _ _ _ _ _ _ (Am (K:=K) rfl) (pv 0) Ac (λ_ _=>rfl)) Ab)) (Cj (zC (Ml N T) c rfl N.FWh (@Ay _ _ _ _ _ rfl (@A_ _ _ _ _ _ _ _ (Am (K:=K) rfl) (pv 0) Ac (λ_ _=>rfl)) Ab)) (Cp (Rq Dh Fd Dh Ac (@A_ _ _ _ _ _ _ _ (Am (K:=K) rfl) (pv 0) Ac (λ_ _=>rfl)) (@A_ _ _ _ _ _ _ _ (Am (K:=K) rfl) (pv 0) Ac (λ_ _=>rfl)) (pv 1)))))))),?_⟩
  obtain⟨k,n,m,g,i⟩:=ok
  have b:Er K H a (Iu t):=.inl (.inl f)
  refine⟨_,rfl,_,"tuple",_,_,rfl,.tup f,YH,_,rfl,Dj ?_⟩
  refine⟨_,rfl,a,_,rfl,.inr b,rfl,_,rfl,V6 rfl ?_⟩
  refine⟨_,rfl,a,_,_,_,rfl,rfl,b,Ai (j:=0) rfl,t.1,rfl,k,n,_,rfl,Dj ?_⟩
  refine⟨_,rfl,a,_,_,_,rfl,rfl,b,Ai (j:=1) rfl,_,rfl,_,rfl,Dw ?_⟩
  refine⟨_,rfl,a,_,_,_,rfl,rfl,b,Ai (j:=2) rfl,_,rfl,_,rfl,Dw ?_⟩
  refine⟨_,rfl,a,_,_,_,rfl,rfl,b,Ai (j:=1) rfl,_,_,rfl,rfl,_,rfl,X5 m ?_⟩
  refine⟨_,rfl,a,_,_,_,rfl,rfl,b,Ai (j:=2) rfl,_,_,rfl,rfl,_,rfl,X5 g ?_⟩
  refine⟨_,rfl,_,_,rfl,rfl,?_⟩
  have e:decide (t.2.2<=len)=true:=decide_eq_true i
  try dsimp only
  rw[e]
  exact q
theorem Qe {K:W.Frag}:W.kitOne K (.type "list") (.type "list")=some true:=by kernel_rfl
theorem ni:Av km km (Ae jc):=Bh
include N T in
theorem jH:Ar P w K mg base BW 4 aD.fAh aD.dAh km Z1:=by
 refine N.FAh.1.ok ni (λo H Q E h=>?_) (λu A g s H o Q E p h=>?_)
 ·obtain⟨a,d,m,len,rfl,_⟩:=h
  rfl
 ·obtain⟨a,d,m,len,rfl,f,y,ok,q⟩:=h
  refine⟨_,(@Ag _ _ _ (@Az _ _ _ _ (Cj (BJ Cd rfl T.isin bE (@Ay _ _ _ _ _ rfl (pv 0) (@Ay _ _ _ _ _ rfl (Du (v:=.ty "list") rfl T.list dc rfl) Ab))) (Cp (BJ (G8 rfl) rfl T.all fA (@Ay _ _ _ _ _ rfl (Bj rfl (BP (osc:=Ae jc) (N:=km) rfl rfl (by decide)) (Bc (pv 0)) (λ_ _ _ _=>By) (λ_ _ _ _=>(zC (dq N T) p rfl N.FHw (@Ay _ _ _ _ _ rfl (pv 0) (@Ay _ _ _ _ _ rfl (pv 2) Ab))))) Ab)))))),?_⟩
  refine⟨_,rfl,_,"list",_,_,rfl,.lst f.l,Qe,_,rfl,Dw ?_⟩
  refine⟨_,rfl,a,rfl,⟨_,iO f.l⟩,LC (K:=K) (λ_=>true) (λ_=>.bl true) f (Ax (by omega)) (λx i l j b c R k=>k b (Aj.refl b)) (λx i _ l j b c R k=>?_) (λD t r c n=>?_)⟩
  ·exact⟨_,rfl,_,rfl,l,x,len,rfl,c _ _ j,ok x i,k b (Aj.refl b)⟩
  ·refine⟨D,(d.filter λ_=>true).map λ_=>true,rfl,iO (by rw[n,aT];rfl),?_⟩
   have e:((d.filter λ_=>true).map λ_=>true).all id=true:=by simp
   rw[e]
   exact q _ c
theorem fQ:Av ["spans","holes"] mI (Ae nZ):=Bh
theorem d_ (N:Zk K mg C c1 aD) (T:Txt K w.params mg C aN aK aB aP aM) (z:Jk mg base c1 P1):Ar P w K mg base BW 2 aD.fFh aD.dFh mI (V4 (tb P1)):=by
 have d:Ar P w K mg base BW 1 aD.fHo aD.dHo mI (V4 (tb P1)):=dO N T z
 refine N.FFh.1.ok fQ (λl H Q E h=>?_) (λI A c s H l Q E m h=>?_)
 ·obtain⟨a,e,f,rfl,_⟩:=h
  rfl
 ·obtain⟨a,e,f,rfl,g,i,u,k,q⟩:=h
  obtain⟨j,D⟩:=T.cMOST_HOLES
  refine⟨_,(@Af _ _ _ _ _ (@Bq _ _ _ _ _ _ 1 fQ.nd rfl (Or.inl rfl) (Ah d (ad m) rfl N.FHo.2.2 N.FHo.1.kp N.FHo.2.1 .nil Ao (@Ay _ _ _ _ _ rfl (pv 0) Ab)) (by kernel_rfl) (.inl rfl))
   (@Af _ _ _ _ _ (@Bv _ _ _ _ _ _ _ _ (BV VJ (BJ BR rfl T.len cq (@Ay _ _ _ _ _ rfl (pv 1) Ab)) (CJ (v:=.int 400) rfl D ⟨j,rfl⟩) (Ba _)) (@Ag _ _ _ Ez) Bf)
   (@Ag _ _ _ (@Az _ _ _ _ (pv 1))))),?_⟩
  refine⟨_,rfl,a,e,f,rfl,g,i,u,k,λp B y n o x F b c1 t r=>?_⟩
  have J:=b.len
  have G:=g.len
  refine⟨_,rfl,p,_,rfl,iO (.inl b.l),_,_,rfl,rfl,_,rfl,YG (by omega) ?_⟩
  exact⟨_,rfl,q p B y n o x F b c1 t r⟩
theorem oK:Av kf kf (Ae lL):=Bh
theorem fO (N:Zk K mg C c1 aD) (T:Txt K w.params mg C aN aK aB aP aM) (I:Jk mg base c1 P1):Ar P w K mg base BW 3 aD.fRf aD.dRf kf (aU (tb P1)):=by
 have e:Ar P w K mg base BW 2 aD.fFh aD.dFh mI (V4 (tb P1)):=d_ N T I
 refine N.FRf.1.ok oK (λn H Q E h=>?_) (λO A c s H n Q E t h=>?_)
 ·obtain⟨a,f,i,len,rfl,_⟩:=h
  rfl
 ·obtain⟨a,f,i,len,rfl,g,D,j,B,l,q⟩:=h
  obtain⟨z,k⟩:=T.cMOST_TICKS
  refine⟨_,(@Af _ _ _ _ _ (@Bv _ _ _ _ _ _ _ _ (BV VJ (pv 0) (CJ (v:=.int 1000000000000) rfl k ⟨z,rfl⟩) (Ba _)) (@Ag _ _ _ Ez) Bf)
   (@Ag _ _ _ (@Az _ _ _ _ (@CN _ _ _ _ _ (@Ay _ _ _ _ _ rfl (pv 0) (@Ay _ _ _ _ _ rfl (zC e t rfl N.FFh (@Ay _ _ _ _ _ rfl (pv 1) Ab)) Ab)))))),?_⟩
  refine⟨_,rfl,_,_,rfl,rfl,_,rfl,YG (by omega) ?_⟩
  refine⟨_,rfl,_,rfl,a,f,i,rfl,D,j,B,l,λp J G M u F L m c1 y x=>⟨by show 2<=sizeLine;decide,λr d=>?_⟩⟩
  have b:=BZ (o:=HO.tup [V.int len,V.ref p]) d
  exact q r J _ (F.trans (Kp.of b)) (L.same b) ⟨p,G,u,Al,m.mono b⟩ c1 y x
theorem pQ:Av kf kf (Ae oO):=Bh
theorem jL (N:Zk K mg C c1 aD) (T:Txt K w.params mg C aN aK aB aP aM) (F:Jk mg base c1 P1):Ar P w K mg base BW 5 aD.fR1 aD.dR1 kf (Ro.Jv (tb P1)):=by
 have i:Ar P w K mg base BW 3 aD.fRf aD.dRf kf (aU (tb P1)):=fO N T F
 refine N.FR1.1.ok pQ (λv H Q E h=>?_) (λO A j s H v Q E g h=>?_)
 ·obtain⟨a,d,k,len,rfl,_⟩:=h
  rfl
 ·obtain⟨a,d,k,len,rfl,J,b,l,n,ok,u,q⟩:=h
  refine⟨_,(@Af _ _ _ _ _ (@Bv _ _ _ _ _ _ _ _ (PW.pt (G4 (DP (Dl (zC (jF N T) g rfl N.FIl (@Ay _ _ _ _ _ rfl (pv 0) Ab)))) (Ga (DP (Dl (zC (jH N T) g rfl N.FAh (@Ay _ _ _ _ _ rfl (pv 1) (@Ay _ _ _ _ _ rfl (pv 0) Ab)))))))) (@Ag _ _ _ Ez) Bf)
   (@Ag _ _ _ (@Az _ _ _ _ (zC i g rfl N.FRf (@Ay _ _ _ _ _ rfl (pv 0) (@Ay _ _ _ _ _ rfl (pv 1) Ab)))))),?_⟩
  refine⟨_,rfl,len,rfl,J,b,_,rfl,Dj ?_⟩
  refine⟨_,rfl,_,rfl,a,d,k,len,rfl,l,by omega,ok,λM c=>⟨_,rfl,Dj ?_⟩⟩
  refine⟨_,rfl,_,rfl,a,d,k,len,rfl,b,l.mono c,n,λt z=>(ok t z).2.2.2.1,u.same c,λr I x m D o y L B=>?_⟩
  obtain⟨p,G,f,e,A⟩:=o
  exact q r I x ((Kp.of c).trans m) D ⟨p,G,c.free f,e,A⟩ y L B
theorem nR:Av om om (Ae jg):=Bh
include N T in
theorem jD:Ar P w K mg base BW 1 aD.fOa aD.dOa om Vp:=by
 refine N.FOa.1.ok nR (λy H Q E h=>?_) (λS A m s H y Q E M h=>?_)
 ·obtain⟨r,len,a,b,rfl,_⟩:=h
  rfl
 ·obtain⟨r,len,a,b,rfl,⟨p,U,n,o⟩,J,u,q⟩:=h
  refine⟨_,(@Ag _ _ _ (@Az _ _ _ _ (BJ K_ rfl T.sorted gy (@Ay _ _ _ _ _ rfl (Bj rfl (BP (osc:=Ae jg) (N:=om) rfl rfl (by decide)) (Bc (@A_ _ _ _ _ _ _ _ (Am (K:=K) rfl) (pv 0) Ac (λ_ _=>rfl))) (λ_ _ _ _=>(FQ (G3 Dh Fd (@A_ _ _ _ _ _ _ _ (Am (K:=K) rfl) (pv 0) Ac (λ_ _=>rfl)) (pv 2) (@A_ _ _ _ _ _ _ _ (Am (K:=K) rfl) (pv 0) Ac (λ_ _=>rfl))))) (λ_ _ _ _=>(@A_ _ _ _ _ _ _ _ (Am (K:=K) rfl) (pv 0) Ac (λ_ _=>rfl)))) Ab)))),?_⟩
  have L:=o.len
  refine⟨_,rfl,r,_,_,_,rfl,rfl,iO n,Ai (j:=1) rfl,p,rfl,⟨_,iO o.l⟩,LC (K:=K) (λh=>decide (h.2.1<=a) && decide (a<h.2.2)) (λh=>.int h.1) o (Ax (by omega)) (λx F g f c b R k=>?_) (λx F _ g f c b R k=>?_) (λD B O I G=>?_)⟩
  ·refine⟨_,rfl,g,_,_,_,rfl,rfl,iO (b _ _ f),Ai (j:=1) rfl,_,rfl,_,_,rfl,rfl,_,rfl,?_⟩
   have e:=k c (Aj.refl c)
   refine Cr (λd=>?_) (λd=>?_)
   ·refine⟨_,rfl,g,_,_,_,rfl,rfl,iO (b _ _ f),Ai (j:=2) rfl,_,_,rfl,rfl,_,rfl,?_⟩
    rw[show decide (x.2.1<=a)=true from d,Bool.true_and] at e
    exact e
   ·rw[show decide (x.2.1<=a)=false from (Bool.not_eq_true _).mp d,Bool.false_and] at e
    exact⟨_,rfl,e⟩
  ·exact⟨_,rfl,g,_,_,_,rfl,rfl,iO (b _ _ f),Ai (j:=0) rfl,k c (Aj.refl c)⟩
  have i:B D=some (.lst (((b.filter λh=>decide (h.2.1<=a) && decide (a<h.2.2)).map (·.1)).map V.int)):=by rw[G,aT];rfl
  refine⟨D,_,rfl,iO i,(by rw[af];exact bv (ck ..) u),λl v t pm C=>?_⟩
  obtain⟨d,z⟩:=R5 J pm C
  exact q l v _ (I.trans (BZ t)) Al d z
def okN (f c:Nat) (x:Int):Bool:=decide (0<=x - (f:Int)) && decide (x - (f:Int)<(c:Int))
def Mf (ms:List Int) (f c:Nat):List Nat:=(ms.filter (okN f c)).map λx:Int=>(x - (f:Int)).toNat
theorem Ht {f c:Nat} {x:Int}:okN f c x=true ↔ (f:Int)<=x/\x<f+c:=by
 unfold okN
 rw[dS,decide_eq_true_eq,decide_eq_true_eq]
 omega
theorem GP {ms:List Int} {f c:Nat}:n∈Mf ms f c ↔ n<c/\((f+n:Nat):Int)∈ms:=by
 unfold Mf
 rw[ay]
 constructor
 ·rintro⟨x,d,rfl⟩
  obtain⟨b,a⟩:=aS.mp d
  have a:=Ht.mp a
  exact⟨by omega,by rw[show ((f+(x - (f:Int)).toNat:Nat):Int)=x by omega];exact b⟩
 ·rintro⟨b,a⟩
  exact⟨_,aS.mpr ⟨a,Ht.mpr (by omega)⟩,by omega⟩
theorem Ou {ms:List Int} {f c:Nat}:(Mf ms f c).length<=ms.length:=by
 unfold Mf
 rw[af]
 exact ck ..
def bz (f c:Nat):V->Bool
 | .int x=>okN f c x
 | _=>false
def subV (f:Nat):V->V
 | .int x=>.int (x - (f:Int))
 | _=>.non
theorem eU (ms:List Int) (f c:Nat):((ms.map V.int).filter (bz f c)).map (subV f)=nV (Mf ms f c):=by
 unfold Mf
 induction ms with
 | nil=>rfl
 | cons x ms a =>
  rw[cy,cS,cS]
  show (if okN f c x=true then _ else _:List V).map _=nV ((if okN f c x=true then _ else _:List Int).map _)
  by_cases h:okN f c x=true
  ·rw[if_pos h,if_pos h,cy,cy,a]
   have b:=Ht.mp h
   show V.int (x - (f:Int))::_=V.int (((x - (f:Int)).toNat:Nat):Int)::_
   rw[gx (by omega)]
  ·rw[if_neg h,if_neg h,a]
theorem sub_len:∀ {l L:List Int},l.Nodup->(∀ x∈l,x∈L)->l.length<=L.length
 | [],_,_,_=>ee _
 | a::l,L,nd,h=>by
  have c:=h a (.head _)
  have:=sub_len (l:=l) (L:=L.erase a) (fk.mp nd).2 (λx b=>(List.mem_erase_of_ne (λ(e:x=a)=>(fk.mp nd).1 (e ▸ b))).mpr (h x (.tail _ b)))
  rw[List.length_erase_of_mem c] at this
  have:=List.length_pos_of_mem c
  rw[cK]
  omega
theorem XH {a:List T3} {ms:List Int} {b:Int} (e:ms.Pairwise (· < ·)) (h:∀ x,x∈ms ↔ Fl a x b):ms.length<=a.length:=by
 have:=sub_len (L:=a.map (·.1)) (e.imp λh=>Int.ne_of_lt h) λx c=>by
  obtain⟨t,d,rfl,_⟩:=(h x).mp c
  exact ci d
 rwa [af] at this
inductive bJ (K:W.Frag) (vs:List V) (H:Hp) (Q:VK) (a8:XK):Prop
 | mk (l:Addr) (ms:List Int) (f c:Nat):vs=[.ref l,.int (f:Nat),.int (c:Nat)]->CV K H l (ms.map V.int)->ms.length<=400->c<=1200->(∀ H',Aj H H'->Q (.int (Wd.mk (Mf ms f c):Nat)) H')->bJ K vs H Q a8
theorem pU:Av k0 k0 (Ae jR):=Bh
include N T in
theorem ir:Ar P w K mg base BW 4 aD.fNf aD.dNf k0 (bJ K):=by
 refine N.FNf.1.Dp pU λH z Q E o h=>?_
 obtain⟨l,j,f,c,rfl,i,u,y,q⟩:=h
 refine⟨_,(Ag (Az (zC (Mu N T) o rfl N.FSt (Aa (Bj rfl (BP (osc:=Ae jR) (N:=k0) rfl rfl (by decide)) (Bc (pv 0)) (λ_ _ _ _=>(FQ (G3 Dh Fd Ac (BL Es (pv 0) (pv 2)) (pv 3)))) (λ_ _ _ _=>(BL Es (pv 0) (pv 2)))) Ab)))),?_⟩
 refine⟨_,rfl,l,rfl,⟨_,i⟩,Bs (K:=K) (xs:=j.map V.int) (bz f c) (subV f) i (Ax (by rw[af];omega)) (λv g a p R k=>?_) (λv g _ a p R k=>?_) (λD B A m b=>?_)⟩
 ·obtain⟨x,_,rfl⟩:=ay.mp g
  have d:R (decide (0<=x - (f:Int)) && decide (x - (f:Int)<(c:Int))) a:=k a (Aj.refl a)
  refine⟨_,rfl,_,rfl,_,_,rfl,rfl,_,_,rfl,rfl,_,rfl,Cr (λe=>?_) (λe=>?_)⟩
  ·refine⟨_,rfl,_,_,rfl,rfl,_,rfl,?_⟩
   rw[show decide (0<=x - (f:Int))=true from e,Bool.true_and] at d
   exact d
  ·rw[show decide (0<=x - (f:Int))=false from (Bool.not_eq_true _).mp e,Bool.false_and] at d
   exact⟨_,rfl,d⟩
 ·obtain⟨x,_,rfl⟩:=ay.mp g
  exact⟨_,rfl,_,rfl,_,_,rfl,rfl,k a (Aj.refl a)⟩
 rw[eU] at b
 exact⟨D,_,rfl,b,bi Ou (by omega),(λn s=>by have:=(GP.mp s).1;omega),λt r=>q t (m.trans r)⟩
inductive Vc (c:Nat->Str) (sz:List Nat) (rk:List (Str × Nat × Int)) (kbs:List Kb) (ls:List (List Ln)) (hs:List T3) (a9:Int) (p:Nat):Prop
 | mk (ms:List Int) (cl:List Nat) (m:Nat):(∀ x,x∈ms ↔ Fl hs x a9)->(∀ k,k∈cl ↔ ∃ z,kbs[k]? = some z/\z.w = "stop" /\ k∈Mf ms sz.sum kbs.length)->(∀ j,m.testBit j=true ↔ Pq c sz kbs (Wd.mk (Mf ms sz.sum kbs.length)) (Wd.mk (Mf ms 0 sz.sum)) j)->p=jP sz rk kbs ls cl m->Vc c sz rk kbs ls hs a9 p
inductive Vs (C:Addr) (vs:List V) (H:Hp) (Q:VK) (a8:XK):Prop
 | mk (x r:Addr) (c:Nat->Str) (sz:List Nat) (rk:List (Str × Nat × Int)) (kbs:List Kb) (ls:List (List Ln:_)) (len a9:Int) (hs:List T3):vs=[.ref x,.ref r,.int a9]->Cm C H x (Bl c sz) rk (Cw c kbs) ls->Ny sz.length kbs->gC rk ls->Hu H r len hs->Canon hs->hs.length<64->(∀ (p:Nat) H',Aj H H'->Vc c sz rk kbs ls hs a9 p->Q (.int (p:Nat)) H')->Vs C vs H Q a8
theorem Z9:Av ["organ","roll","tick","tracks","keys"] pa (Ae nC):=Bh
include N T in
theorem dC:Ar P w K mg base BW 8 aD.fSa aD.dSa pa (Vs C):=by
 refine N.FSa.1.Dp Z9 λH vs Q E a h=>?_
 obtain⟨x,r,c,sz,rk,b,ls,len,R,hs,rfl,O,f,su,R0,c0,j3,q⟩:=h
 have hu:=Fz a
 refine⟨_,(Af (BX (i:=3) Z9.nd rfl (Or.inl rfl) (zC (jD N T) a rfl N.FOa (Aa (pv 1) (Aa (pv 2) Ab))))
  (Af (BX (i:=4) Z9.nd rfl (Or.inl rfl) (Ce (pv 0) T.cl N.FOc.2.2 (Mm N T) (ad a) N.FOc.2.1 .nil Ao))
  (Ag (Az (zC (Yn N T) a rfl N.FSo (Aa (pv 0) (Aa (zC (ir N T) a rfl N.FNf (Aa (pv 3) (Aa (pv 4) (Aa (BJ BR rfl T.len cq (Aa (Ce (pv 0) T.cl N.FOz.2.2 (Qw N T) (ad a) N.FOz.2.1 .nil Ao) Ab)) Ab)))) (Aa (zC (ir N T) a rfl N.FNf (Aa (pv 3) (Aa Ac (Aa (pv 4) Ab)))) Ab)))))))),?_⟩
 refine⟨_,rfl,_,rfl,r,len,R,hs,rfl,R0,c0,j3,?_⟩
 intro l g H1 y W S B
 have Sf:=XH S B
 have e:=O.mono y
 obtain⟨⟨A,fs,bl,bn,kp,kr,f8,i5,jS,L,I,k1,k2,k3,k4,F,_⟩,_⟩:=id e.o
 refine⟨_,rfl,x,A,fs,rfl,I,F _ (by decide),x,_,_,rfl,e.o,?_⟩
 rw[Eg,CQ]
 refine⟨_,rfl,_,rfl,_,rfl,_,rfl,x,A,fs,rfl,I,F _ (by decide),x,_,_,rfl,e.o,λD ys H2 hD p Y J=>?_⟩
 have X:ys.length=b.length:=by rw[<-J.length];unfold Cw;rw[List.length_map,List.length_zipIdx]
 refine⟨D,_,rfl,iO (.inl Y),?_⟩
 rw[X]
 have d:CV K H2 l (g.map V.int):=.inl (.inl (p _ _ W))
 have U:=Eu e.o
 rw[CQ] at U
 refine⟨l,g,sz.sum,b.length,rfl,d,by omega,(by have:=f.len;omega),λH3 s=>?_⟩
 refine⟨_,rfl,_,rfl,l,g,0,sz.sum,rfl,s.seq d,by omega,by omega,λH4 G=>?_⟩
 refine⟨x,c,sz,rk,b,ls,_,_,rfl,e.mono (p.trans (s.trans G)),f,su,Wd.YT (λn hn=>by have:=(GP.mp hn).1;omega),(λi z=>by rw[Wd.Ec] at z;exact (GP.mp (of_decide_eq_true z)).1),λZ m H5 M v AW=>q _ H5 (y.trans (p.trans (s.trans (G.trans M)))) ⟨g,Z,m,B,(λk=>?_),AW,rfl⟩⟩
 rw[v]
 constructor
 ·rintro⟨u,t,o,j⟩
  rw[Wd.Ec] at j
  exact⟨u,t,o,of_decide_eq_true j⟩
 ·rintro⟨u,t,o,j⟩
  exact⟨u,t,o,by rw[Wd.Ec];exact decide_eq_true j⟩
theorem Ka {K:W.Frag} (h:X.K=K):Ep X (.builtin "len") (λxs H Q=>∃ p ys,xs=[V.ref p]/\(CV K H p ys \/ Er K H p ys)/\Q (.int ((ys.length:Nat):Int)) H):=h ▸ BR
def ltV (c:Nat):V->Bool
 | .int x=>decide (x<(c:Int))
 | _=>false
theorem pY {ms:List Int} (c:Nat) (b:∀ x∈ms,0<=x):((ms.map V.int).filter (ltV c)).map id=nV (Mf ms 0 c):=by
 rw[ii]
 unfold Mf
 induction ms with
 | nil=>rfl
 | cons x ms d =>
  have f:=b x (.head _)
  have e:okN 0 c x=decide (x<(c:Int)):=by rw[cw,Ht,decide_eq_true_eq];omega
  rw[cy,cS,cS]
  show (if decide (x<(c:Int))=true then _ else _:List V)=nV ((if okN 0 c x=true then _ else _:List Int).map _)
  rw[e]
  by_cases h:decide (x<(c:Int))=true
  ·rw[if_pos h,if_pos h,cy,d λy a=>b y (.tail _ a)]
   show V.int x::_=V.int (((x - ((0:Nat):Int)).toNat:Nat):Int)::_
   rw[show (((x - ((0:Nat):Int)).toNat:Nat):Int)=x by omega]
  ·rw[if_neg h,if_neg h,d λy a=>b y (.tail _ a)]
inductive Zt (C:Addr) (vs:List V) (H:Hp) (Q:VK) (a8:XK):Prop
 | mk (x a:Addr) (c:Nat->Str) (sz:List Nat) (rk:List (Str × Nat × Int)) (kbs:List Kb) (ls:List (List Ln:_)) (ts:List T3) (zs:List V) (a9:Int):vs=[.ref x,.ref a,.int a9]->Cm C H x (Bl c sz) rk (Cw c kbs) ls->Ny sz.length kbs->gC rk ls->Dd H a ts zs->zs.length<64->(∀ t∈ts,0<=t.1/\t.1<1200)->(∀ (p:Nat) H',Aj H H'->Vc c sz rk kbs ls ts a9 p->Q (.int (p:Nat)) H')->Zt C vs H Q a8
theorem S9:Av i3 kA (Ae cX):=Bh
include N T in
theorem iG:Ar P w K mg base BW 8 aD.fDu aD.dDu kA (Zt C):=by
 refine N.FDu.1.Dp S9 λH vs Q E u h=>?_
 obtain⟨x,a,c,sz,rk,d,ls,ts,zs,l,rfl,O,L,su,Z,j3,ac,q⟩:=h
 have hu:=Fz u
 refine⟨_,(Af (BX (i:=3) S9.nd rfl (Or.inr rfl) (Ce (pv 0) T.cl N.FOc.2.2 (Mm N T) (ad u) N.FOc.2.1 .nil Ao))
  (Af (HB (i:=4) S9.nd rfl rfl rfl (BP (osc:=Ae cX) (N:=i3) rfl rfl (by decide)) (Bc (pv 1)) (λ_ _ _ _=>(FQ (PW.pt (Iv (BV Dh (A_ (Am (K:=K) rfl) (pv 0) Ac (λ_ _=>rfl)) (pv 3) (Ba _)) (IW (BV Fd (pv 3) (A_ (Am (K:=K) rfl) (pv 0) Ac (λ_ _=>rfl)) (Ba _))))))) (λ_ _ _ _=>(A_ (Am (K:=K) rfl) (pv 0) Ac (λ_ _=>rfl))))
  (Af (HB (i:=5) S9.nd rfl rfl rfl (BP (osc:=Ae cX) (N:=i3) rfl rfl (by decide)) (Bc (pv 4)) (λ_ _ _ _=>(FQ (BV Fd (pv 0) (pv 4) (Ba _)))) (λ_ _ _ _=>(pv 0)))
  (Af (HB (i:=6) S9.nd rfl rfl rfl (BP (osc:=Ae cX) (N:=i3) rfl rfl (by decide)) (Bc (pv 4)) (λ_ _ _ _=>(FQ (PW.pt (Iv (BV Dh (pv 4) (pv 0) (Ba _)) (IW (BV Fd (pv 0) (BL Bm (pv 4) (BJ (Ka (K:=K) rfl) rfl T.len cq (Aa (Ce (pv 1) T.cl N.FOz.2.2 (Qw N T) (ad u) N.FOz.2.1 .nil Ao) Ab))) (Ba _))))))) (λ_ _ _ _=>(BL Es (pv 0) (pv 4))))
  (Ag (Az (zC (Yn N T) u rfl N.FSo (Aa (pv 0) (Aa (zC (Mu N T) u rfl N.FSt (Aa (pv 6) Ab)) (Aa (zC (Mu N T) u rfl N.FSt (Aa (pv 5) Ab)) Ab)))))))))),?_⟩
 obtain⟨⟨dx,fs,bl,bn,kp,kr,f8,i5,jS,al,h1,k1,k2,k3,k4,lm,_⟩,_⟩:=id O.o
 refine⟨_,rfl,x,dx,fs,rfl,h1,lm _ (by decide),x,_,_,rfl,O.o,?_⟩
 rw[Eg,CQ]
 have iS:=Eu O.o
 rw[CQ] at iS
 have l0:=Z.len
 refine⟨_,rfl,a,rfl,⟨_,iO Z.l⟩,LC (K:=K) (λh=>decide (h.2.1<=l) && decide (l<h.2.2)) (λh=>.int h.1) Z (Ax (by omega)) (λy hy X S b f R k=>?_) (λy hy _ X S b f R k=>?_) (λU H2 B4 Y l2=>?_)⟩
 ·have s:=k b (Aj.refl b)
  refine⟨_,rfl,X,_,_,_,rfl,rfl,iO (f _ _ S),Ai (j:=1) rfl,_,rfl,_,_,rfl,rfl,_,rfl,Cr (λt=>?_) (λt=>?_)⟩
  ·refine⟨_,rfl,_,rfl,X,_,_,_,rfl,rfl,iO (f _ _ S),Ai (j:=2) rfl,_,_,rfl,rfl,_,rfl,?_⟩
   rw[show decide (y.2.1<=l)=true from t,Bool.true_and] at s
   exact s
  ·rw[show decide (y.2.1<=l)=false from (Bool.not_eq_true _).mp t,Bool.false_and] at s
   exact s
 ·exact⟨_,rfl,X,_,_,_,rfl,rfl,iO (f _ _ S),Ai (j:=0) rfl,k b (Aj.refl b)⟩
 obtain⟨e,W⟩:∃ e:List Int,(ts.filter λh=>decide (h.2.1<=l) && decide (l<h.2.2)).map (·.1)=e:=⟨_,rfl⟩
 have l2:H2 U=some (.lst (e.map V.int)):=by rw[l2,<-W,aT];rfl
 have r:∀ z,z∈e ↔ Fl ts z l:=λz=>by
  rw[<-W,ay]
  constructor
  ·rintro⟨h,hh,rfl⟩
   obtain⟨o,p⟩:=aS.mp hh
   rw[dS,decide_eq_true_eq,decide_eq_true_eq] at p
   exact⟨h,o,rfl,p.1,p.2⟩
  ·rintro⟨h,o,p,B,a4⟩
   exact⟨h,aS.mpr ⟨o,by rw[dS,decide_eq_true_eq,decide_eq_true_eq];exact⟨B,a4⟩⟩,p⟩
 have ap:e.length<=64:=by rw[<-W,af];have:=ck (λh:T3=>decide (h.2.1<=l) && decide (l<h.2.2)) ts;omega
 have h0:∀ z∈e,0<=z:=λz hz=>by
  obtain⟨h,o,rfl,_⟩:=(r z).mp hz
  exact (ac h o).1
 clear W
 have g:CV K H2 U (e.map V.int):=.inl (.inl l2)
 have an:(e.map V.int).length=e.length:=af ..
 refine⟨_,rfl,U,rfl,⟨_,g⟩,Bs (K:=K) (xs:=e.map V.int) (ltV sz.sum) id g (Ax (by omega)) (λv A b f R k=>?_) (λv A _ b f R k=>⟨_,rfl,k b (Aj.refl b)⟩) (λD2 H3 y9 I l3=>?_)⟩
 ·obtain⟨z,_,rfl⟩:=ay.mp A
  exact⟨_,rfl,_,rfl,_,_,rfl,rfl,_,rfl,k b (Aj.refl b)⟩
 rw[pY sz.sum h0] at l3
 have O3:=O.mono (Y.trans I)
 have QA:=(Y.trans I) _ _ h1
 refine⟨_,rfl,U,rfl,⟨_,I.seq g⟩,Bs (K:=K) (xs:=e.map V.int) (bz sz.sum d.length) (subV sz.sum) (I.seq g) (Ax (by omega)) (λv A b f R k=>?_) (λv A _ b f R k=>?_) (λD3 H4 vS s4 l4=>?_)⟩
 ·obtain⟨z,_,rfl⟩:=ay.mp A
  have s:∀ M,Aj b M->R (okN sz.sum d.length z) M:=λM s9=>k M s9
  have eo:okN sz.sum d.length z=(decide (((sz.sum:Nat):Int)<=z) && decide (z<((sz.sum:Nat):Int)+((d.length:Nat):Int))):=by
   rw[cw,Ht,dS,decide_eq_true_eq,decide_eq_true_eq]
  refine⟨_,rfl,_,rfl,_,_,rfl,rfl,_,rfl,Cr (λt=>?_) (λt=>?_)⟩
  ·refine⟨_,rfl,_,rfl,_,rfl,x,dx,fs,rfl,f _ _ QA,lm _ (by decide),x,_,_,rfl,(O3.mono f).o,λD ys H5 hD F l5 P5=>?_⟩
   have ly:ys.length=d.length:=by rw[<-P5.length];unfold Cw;rw[List.length_map,List.length_zipIdx]
   refine⟨D,_,rfl,iO (.inl l5),_,_,rfl,rfl,_,_,rfl,rfl,_,rfl,?_⟩
   have J:=s H5 F
   rw[eo,show decide (((sz.sum:Nat):Int)<=z)=true from t,Bool.true_and] at J
   rw[ly]
   exact J
  ·have J:=s b (Aj.refl b)
   rw[eo,show decide (((sz.sum:Nat):Int)<=z)=false from (Bool.not_eq_true _).mp t,Bool.false_and] at J
   exact J
 ·obtain⟨z,_,rfl⟩:=ay.mp A
  exact⟨_,rfl,_,rfl,_,_,rfl,rfl,k b (Aj.refl b)⟩
 rw[eU] at l4
 refine⟨_,rfl,_,rfl,D3,_,rfl,l4,bi Ou (by omega),(λn G=>by have:=(GP.mp G).1;have:=L.len;omega),λH5 F=>?_⟩
 refine⟨_,rfl,D2,_,rfl,F _ _ (s4 _ _ l3),bi Ou (by omega),(λn G=>by have:=(GP.mp G).1;omega),λH6 s6=>?_⟩
 refine⟨x,c,sz,rk,d,ls,_,_,rfl,O3.mono (s4.trans (F.trans s6)),L,su,Wd.YT (λn G=>by have:=(GP.mp G).1;omega),(λi hi=>by rw[Wd.Ec] at hi;exact (GP.mp (of_decide_eq_true hi)).1),λcl m H7 s7 ab AW=>q _ H7 ((Y.trans I).trans ((s4.trans F).trans (s6.trans s7))) ⟨e,cl,m,r,(λk=>?_),AW,rfl⟩⟩
 rw[ab]
 constructor
 ·rintro⟨zz,o,p,B⟩
  rw[Wd.Ec] at B
  exact⟨zz,o,p,of_decide_eq_true B⟩
 ·rintro⟨zz,o,p,B⟩
  exact⟨zz,o,p,by rw[Wd.Ec];exact decide_eq_true B⟩
theorem Yx {c:TT} {t a u:TS} (P:St->Hp->Prop) (d:∀ D':Ends,(∀ σ' H',P σ' H'->D'.nx σ' H')->ZV c t a D' σ H) (b:∀ σ' H',P σ' H'->u D σ' H'):cC (ZV c t a) u D σ H:=d { D with nx:=u D } b
theorem gN {v:V} {Q:St->Hp->Prop} (h:Q (σ.set i (some v)) H):Et i v σ H Q:=h
theorem Gj {p:Addr} (h:H p=none) (xs:List V):∃ H',upd H p (HO.lst xs)=H'/\Aj H H'/\H' p=some (.lst xs):=⟨_,rfl,BZ h,Al⟩
theorem pk {r n:Nat} (b:xs.length=n) (h:(r:Int)<(n:Nat)):∃ v,v∈xs/\xs[r]? = some v:=by
 have a:r<xs.length:=by omega
 exact⟨xs[r],zdl a,ae a⟩
theorem Il {p:Addr} (h:H p=none) (xs:List V):∃ H',upd H p (HO.tup xs)=H'/\Aj H H'/\H' p=some (.tup xs):=⟨_,rfl,BZ h,Al⟩
inductive Oc (vs:List V) (H:Hp) (Q:VK) (a8:XK):Prop
 | mk (c b m:Int):vs=[.int c,.int b,.int m]->0<m->0<=b->b<1000003->(∀ r:Nat,(r:Int)<m->Q (.int (r:Nat)) H)->Oc vs H Q a8
theorem RT:Av ["_law_cell","_law_by","_law_many","_law_digits","_law_turn","_law_one","_law_two"] lx (Ae nA):=Bh
include N T in
theorem T_:Ar P w K mg base BW 1 aD.fMi aD.dMi lx Oc:=by
 refine N.FMi.1.Dp RT λH s Q E t h=>?_
 obtain⟨c,b,m,rfl,g,x,r,q⟩:=h
 refine⟨_,(Af (Bv (BV YS (pv 0) (BL bh Ac Ac) (Ba _)) (Af (BX (i:=3) RT.nd rfl (Or.inl rfl) (BL Hr (pv 0) Ac))
  (Af (Cv PassesOwn.never rfl (DX rfl T.range (Aa (BL Eb (BL Bm (pv 1) (BL Eb (pv 0) Ac)) Ac) Ab)) (Bp (i:=4) RT.nd rfl (Or.inl rfl)) (Ag (BX (i:=3) RT.nd rfl (Or.inl rfl) (BL Hr (pv 3) Ac))))
  (Ag (Az (BL Eb (BL Eb (pv 3) Ac) (pv 2)))))) Bf)
  (Af (BX (i:=5) RT.nd rfl (Or.inl rfl) (BL Eb (BL Fv (BL Bm (BL Eb (pv 0) Ac) (pv 1)) Ac) Ac))
  (Af (BX (i:=6) RT.nd rfl (Or.inl rfl) (BL Eb (BL Bm (BL Fv (pv 5) (pv 5)) (pv 1)) Ac))
  (Ag (Az (BL Eb (BL Hr (BL Bm (BL Fv (pv 6) Ac) (BL Eb (BL Fv (pv 6) (pv 5)) Ac)) Ac) (pv 2))))))),?_⟩
 have fin:∀ z:Int,Q (.int (z % m)) H:=λz=>by
  have j:=Int.emod_nonneg z (show m ≠ 0 by omega)
  have o:=gE z g
  have:=q (z % m).toNat (by omega)
  rw[gx j] at this
  exact this
 refine⟨_,rfl,_,_,rfl,rfl,⟨by decide,by decide,by decide⟩,_,_,rfl,rfl,_,rfl,Cr (λ_=>?_) (λ_=>?_)⟩
 ·refine⟨_,rfl,_,_,rfl,rfl,⟨by decide,by decide⟩,?_⟩
  have j:=Int.emod_nonneg (b+c % 10080) (show (71:Int) ≠ 0 by decide)
  have o:=Int.emod_lt_of_pos (b+c % 10080) (show (0:Int)<71 by decide)
  refine⟨_,rfl,_,rfl,_,_,rfl,rfl,(by show (0:Int)<10080;decide),_,_,rfl,rfl,_,_,rfl,rfl,(by show (0:Int)<71;decide),_,rfl,by omega,by omega,?_⟩
  refine Ex (lo:=0) (n:=((b+c % 10080) % 71).toNat) (λi σ f=>f=H/\∃ (d:Int) (e:Option V),σ=[some (.int c),some (.int b),some (.int m),some (.int d),e,none,none]) ⟨rfl,_,_,rfl⟩ ?_ ?_
  ·rintro i σ f v ⟨rfl,d,e,rfl⟩
   exact⟨_,rfl,_,_,rfl,rfl,⟨by decide,by decide⟩,rfl,_,_,rfl⟩
  ·rintro σ f ⟨rfl,d,e,rfl⟩
   exact⟨_,rfl,_,_,rfl,rfl,(by show (0:Int)<1000003;decide),_,rfl,_,_,rfl,rfl,g,fin _⟩
 have u:0<=c % 1000003/\c % 1000003<1000003:=⟨Int.emod_nonneg _ (by decide),gE _ (by decide)⟩
 refine⟨_,rfl,_,_,rfl,rfl,(by show (0:Int)<1000003;decide),_,rfl,_,_,rfl,rfl,_,_,rfl,rfl,.inl ⟨by omega,by omega⟩,_,_,rfl,rfl,(by show (0:Int)<2147483647;decide),?_⟩
 have p:0<=(c % 1000003+b) * 48271 % 2147483647/\(c % 1000003+b) * 48271 % 2147483647<2147483647:=⟨Int.emod_nonneg _ (by decide),gE _ (by decide)⟩
 generalize (c % 1000003+b) * 48271 % 2147483647=a at p |-
 refine⟨_,rfl,_,rfl,_,_,rfl,rfl,.inl ⟨by omega,by omega⟩,_,rfl,_,_,rfl,rfl,_,_,rfl,rfl,(by show (0:Int)<2147483629;decide),?_⟩
 have k:0<=(a * a+b) % 2147483629/\(a * a+b) % 2147483629<2147483629:=⟨Int.emod_nonneg _ (by decide),gE _ (by decide)⟩
 generalize (a * a+b) % 2147483629=l at k |-
 exact⟨_,rfl,_,_,rfl,rfl,.inl ⟨by omega,by omega⟩,_,rfl,_,rfl,_,_,rfl,rfl,.inl ⟨by omega,by omega⟩,_,_,rfl,rfl,(by show (0:Int)<2147483587;decide),_,_,rfl,rfl,_,_,rfl,rfl,⟨by decide,by decide⟩,_,rfl,_,_,rfl,rfl,g,fin _⟩
inductive ZR (vs:List V) (H:Hp) (Q:VK) (a8:XK):Prop
 | mk (n:Nat) (c:Int):vs=[.int (n:Nat),.int c]->0<n->n<1000->(∀ (T0:Addr) (t:T3) H',H T0=none->Aj H H'->H' T0=some (.tup (Iu t))->Wa 60 t->Q (.ref T0) H')->ZR vs H Q a8
theorem WD:Av ["_law_many","_law_cell","_law_first","_law_behind","_law_track"] oy (Ae jy):=Bh
include N T in
theorem fM:Ar P w K mg base BW 2 aD.fSn aD.dSn oy ZR:=by
 refine N.FSn.1.Dp WD λH L Q E b h=>?_
 obtain⟨n,c,rfl,R,S,q⟩:=h
 refine⟨_,(Af (BX (i:=2) WD.nd rfl (Or.inl rfl) (zC (T_ N T) b rfl N.FMi (Aa (pv 1) (Aa Ac (Aa Ac Ab)))))
  (Af (BX (i:=3) WD.nd rfl (Or.inl rfl) (BL Bm (BL Bm (pv 2) Ac) (zC (T_ N T) b rfl N.FMi (Aa (pv 1) (Aa Ac (Aa (BL Es Ac (pv 2)) Ab))))))
  (Af (BX (i:=4) WD.nd rfl (Or.inl rfl) (zC (T_ N T) b rfl N.FMi (Aa (pv 1) (Aa Ac (Aa (pv 0) Ab)))))
  (Af (Bv (BV Dt (zC (T_ N T) b rfl N.FMi (Aa (pv 1) (Aa Ac (Aa Ac Ab)))) Ac (Ba _)) (Ag (BX (i:=4) WD.nd rfl (Or.inl rfl) (A_ (Ca (K:=K) rfl) (Dk (Aa (pv 0) (Aa (BL Bm (pv 0) (BL Eb (BL Hr (pv 1) Ac) (BL Es Ac (pv 0)))) (Aa Ac Ab)))) (zC (T_ N T) b rfl N.FMi (Aa (pv 1) (Aa Ac (Aa Ac Ab)))) (λ_ _=>rfl)))) Bf)
  (Ag (Az (CN (Aa (pv 4) (Aa (pv 2) (Aa (pv 3) Ab)))))))))),?_⟩
 refine⟨_,rfl,c,_,_,rfl,by decide,by decide,by decide,λa d=>?_⟩
 have d:(a:Int)<60:=d
 refine⟨_,rfl,_,_,rfl,rfl,_,rfl,_,rfl,_,_,rfl,rfl,c,_,_,rfl,by omega,by decide,by decide,λe O=>⟨_,_,rfl,rfl,?_⟩⟩
 refine⟨_,rfl,_,rfl,c,_,_,rfl,by omega,by decide,by decide,λA W=>?_⟩
 refine gN (i:=4) ?_
 try dsimp only
 refine Yx (λm o=>∃ t:Int,0<=t/\t<1200/\Aj H o/\m=[some (.int (n:Nat)),some (.int c),some (.int (a:Nat)),some (.int ((a:Nat)+1+(e:Nat))),some (.int t)]) (λU r=>?_) (λm o h=>?_)
 ·refine⟨_,rfl,c,_,_,rfl,by decide,by decide,by decide,λG I=>⟨rfl,_,rfl,Cr (λ_=>?_) (λ_=>r _ _ ⟨A,by omega,by omega,Aj.refl _,rfl⟩)⟩⟩
  refine⟨_,rfl,_,rfl,_,rfl,_,_,rfl,rfl,⟨by decide,by decide⟩,_,rfl,_,_,rfl,rfl,_,_,rfl,rfl,by omega,_,_,rfl,rfl,by show 3<=sizeLine;decide,λC F=>?_⟩
  have x:=Int.emod_nonneg (c / 3) (show (1200 - ((n:Nat):Int)) ≠ 0 by omega)
  have u:=Int.emod_lt_of_pos (c / 3) (show 0<(1200 - ((n:Nat):Int)) by omega)
  generalize c / 3 % (1200 - ((n:Nat):Int))=g at x u |-
  obtain⟨M,D,f,z⟩:=Gj F [V.int (n:Nat),.int ((n:Nat)+g),.int 1199]
  rw[show [V.int (n:Nat),V.int ((n:Nat)+g),V.int 1199]=[V.int (n:Nat),.int ((n:Nat)+g),.int 1199] from rfl,D]
  refine⟨_,rfl,c,_,3,rfl,by decide,by decide,by decide,λJ y=>?_⟩
  obtain⟨v,j,s⟩:=pk (xs:=[V.int (n:Nat),.int ((n:Nat)+g),.int 1199]) (n:=3) rfl y
  have j:∃ t:Int,v=.int t/\0<=t/\t<1200:=by
   simp only[List.mem_cons,List.not_mem_nil,or_false] at j
   rcases j with rfl | rfl | rfl
   ·exact⟨_,rfl,by omega,by omega⟩
   ·exact⟨_,rfl,by omega,by omega⟩
   ·exact⟨_,rfl,by omega,by omega⟩
  obtain⟨t,rfl,l,k⟩:=j
  exact⟨C,_,_,_,rfl,rfl,iO z,Ai s,r _ _ ⟨t,l,k,f,rfl⟩⟩
 obtain⟨t,l,k,f,rfl⟩:=h
 refine⟨_,rfl,_,rfl,_,rfl,by show 3<=sizeLine;decide,λB p=>?_⟩
 exact q B (t,(a:Nat),(a:Nat)+1+(e:Nat)) _ (f.free p) (f.trans (BZ p)) Al ⟨l,k,by show (0:Int)<=a;omega,by show (a:Int)<a+1+e;omega,by show (a:Int)+1+e<=60;omega⟩
abbrev Ws:=List (Str × Nat) × Str
def Gk (s:Ws) (r:R):Ws:=if r.w = "board" then (match r.rest with | [.int n]=>(s.1++[(r.nm,n.toNat)],s.2) | _=>s) else if r.w = "stop" then (match r.rest with | [.str b]=>(s.1,b) | _=>s) else s
def jA (s:Ws):Nat:=((s.1.find? λb=>decide (b.1=s.2)).map (·.2)).getD 0
def Gv (s:Ws) (r:R):R:=if r.w = "line" then ⟨"line",r.nm,r.rest.take 2++[.int ((jA s:Nat) - 1)]⟩ else r
def Dg:Ws->List R->List R
 | _,[]=>[]
 | s,r::rs=>Gv s r::Dg (Gk s r) rs
theorem DW:∀ (s:Ws) (l:List R) (r:R),Dg s (l++[r])=Dg s l++[Gv (l.foldl Gk s) r]
 | s,[],r=>rfl
 | s,a::l,r=>by
  show Gv s a::Dg (Gk s a) (l++[r])=(Gv s a::Dg (Gk s a) l)++_
  rw[DW]
  rfl
inductive cQ (s:Ws):R->Prop
 | J8 {t:Str} {n:Nat}:(∀ b∈s.1,b.1 ≠ t)->cQ s ⟨"board",t,[.int (n:Nat)]⟩
 | stop {t b:Str}:cQ s ⟨"stop",t,[.str b]⟩
 | line {t:Str} {sh:Int} {n:Nat}:(s.2,n)∈s.1->cQ s ⟨"line",t,[.int sh,.int 0,.int 0]⟩
 | oth {r:R}:r.w ≠ "board"->r.w ≠ "stop"->r.w ≠ "line"->cQ s r
def jU (s:Ws) (l:List R):Prop:=∀ i r,l[i]? = some r->cQ ((l.take i).foldl Gk s) r
theorem Vt {l:List (Str × Nat)} (nd:(l.map (·.1)).Nodup) (h:(t,n)∈l):(l.find? λb=>decide (b.1=t))=some (t,n):=by
 induction l with
 | nil=>cases h
 | cons b l c =>
  rw[List.find?_cons]
  rcases cm.mp h with e | e
  ·rw[<-e,show decide ((t,n).1=t)=true from decide_eq_true rfl]
  ·have a:b.1 ≠ t:=λz=>(List.nodup_cons.mp nd).1 (by show b.1∈_;rw[z];exact List.mem_map.mpr ⟨(t,n),e,rfl⟩)
   rw[show decide (b.1=t)=false from decide_eq_false a]
   exact c (fk.mp nd).2 e
theorem JH {α:Type} {F:α->V->Prop}:∀ {l:List α} {vs:List V} {i:Nat} {v:V},Paired F l vs->vs[i]? = some v->∃ x,l[i]? = some x/\F x v
 | [],_,i,_,.nil,e=>by cases i <;> cases e
 | _,_,0,_,.cons h _,e=>by cases e;exact⟨_,rfl,h⟩
 | _::_,_::vs,i+1,_,.cons _ p,e=>by
  obtain⟨x,b,a⟩:=JH p (show vs[i]? = _ from e)
  exact⟨x,b,a⟩
theorem TV {y:Str} {P Q:Prop} (e:x=y) (h:P):if decide (V.str x=V.str y)=true then P else Q:=by rw[if_pos (decide_eq_true (congrArg V.str e))];exact h
theorem Hs {y:Str} {P Q:Prop} (e:x ≠ y) (h:Q):if decide (V.str x=V.str y)=true then P else Q:=by rw[if_neg (λz=>e (V.str.inj (of_decide_eq_true z)))];exact h
theorem Tt {k:Key} {v:V}:(putK kvs k v).length<=kvs.length+1:=by
 unfold putK
 split
 ·rw[af];omega
 ·rw[ah];exact ai _
inductive Zq (K:W.Frag) (vs:List V) (H:Hp) (Q:VK) (a8:XK):Prop
 | mk (a:Addr) (a5:List R) (us:List V):vs=[.ref a]->CV K H a us->Paired (λ(r:R) v=>TupAt H r.v v) a5 us->us.length<=100->jU ([],"") a5->(∀ (D:Addr) (ws:List V) H',H D=none->Aj H H'->H' D=some (.lst ws)->Paired (λ(r:R) v=>TupAt H' r.v v) (Dg ([],"") a5) ws->Q (.ref D) H')->Zq K vs H Q a8
theorem R_:Av ["_law_rows","_law_keys","_law_board","_law_found","_law_row"] ["_law_rows"] (Ae j8):=Bh
include N T in
theorem dY:Ar P w K mg base BW 1 aD.fWx aD.dWx ["_law_rows"] (Zq K):=by
 refine N.FWx.1.Dp R_ λH vs Q E hr h=>?_
 obtain⟨a,u,us,rfl,hS,P0,hl,ok,q⟩:=h
 have hu:=Fz hr
 refine⟨_,(Af (BX (i:=1) R_.nd rfl (Or.inl rfl) KQ)
  (Af (BX (i:=2) R_.nd rfl (Or.inl rfl) Bb)
  (Af (BX (i:=3) R_.nd rfl (Or.inl rfl) (Dk Ab))
  (Af (Cv PassesOwn.never rfl (Bc (pv 0)) (Bp (i:=4) R_.nd rfl (Or.inl rfl)) (Af (Bv (BV Dt (A_ (Am (K:=K) rfl) (pv 4) Ac (λ_ _=>rfl)) Bb (Ba _)) (Ag (Lk hu (pv 1) (A_ (Am (K:=K) rfl) (pv 4) Ac (λ_ _=>rfl)) (A_ (Am (K:=K) rfl) (pv 4) Ac (λ_ _=>rfl)) rfl)) Bf)
  (Af (Bv (BV Dt (A_ (Am (K:=K) rfl) (pv 4) Ac (λ_ _=>rfl)) Bb (Ba _)) (Ag (BX (i:=2) R_.nd rfl (Or.inl rfl) (A_ (Am (K:=K) rfl) (pv 4) Ac (λ_ _=>rfl)))) Bf)
  (Ag (Bv (BV Dt (A_ (Am (K:=K) rfl) (pv 4) Ac (λ_ _=>rfl)) Bb (Ba _)) (Ag (Ck (FW bb bX ce Br (pv 3) (Aa (BL Wg (Ek Lp (pv 4) Gd (Ew Ac)) (CN (Aa (BL Es (GZ hu (pv 1) (pv 2) (λ_ _=>rfl)) Ac) Ab))) Ab)))) (Ag (Ck (FW bb bX ce Br (pv 3) (Aa (pv 4) Ab)))))))))
  (Ag (Az (pv 3))))))),?_⟩
 refine λp vT=>?_
 obtain⟨H1,G,s1,d1⟩:=Kg (o:=HO.dK []) vT
 rw[G]
 refine⟨FP (ee _),λl AU=>?_⟩
 obtain⟨H2,G,s2,l2⟩:=Gj AU []
 rw[G]
 have nf:H l=none:=s1.free AU
 have ab:p ≠ l:=An d1 AU
 refine⟨_,rfl,a,rfl,⟨_,(s1.trans s2).seq hS⟩,Eo (K:=K) (a:=a) (xs:=us) (λi σ m=>Aj H m/\∃ c A v4,m p=some (.dK c)/\c.length<=i/\(∀ b∈((u.take i).foldl Gk ([],"")).1,Ci c (Sum.inr b.1)=some (.int (b.2:Nat)))/\((((u.take i).foldl Gk ([],"")).1).map (·.1)).Nodup/\m l=some (.lst A)/\Paired (λ(r:R) v=>TupAt m r.v v) (Dg ([],"") (u.take i)) A/\A.length=i/\σ=[some (.ref a),some (.ref p),some (.str ((u.take i).foldl Gk ([],"")).2),some (.ref l),v4]) ⟨s1.trans s2,[],[],_,s2 _ _ d1,ai _,(λ_ z=>nomatch z),.nil,l2,.nil,rfl,rfl⟩ (λi σ m _ h=>h.1.seq hS) ?_ ?_⟩
 case refine_2 =>
  rintro σ m ⟨sx,c,A,v4,_,_,_,_,C,M,_,rfl⟩
  have lr:u.length=us.length:=P0.length
  rw[show u.take us.length=u from List.take_of_length_le (by omega)] at M
  exact⟨_,rfl,q l A m nf sx C M⟩
 rintro i v σ m hv ⟨sx,c,A,v4,L,kl,Z,nd,C,M,wl,rfl⟩
 have hi:i<us.length:=(ag.mp hv).1
 obtain⟨r,O,d,rfl,hT⟩:=JH P0 hv
 have K2:=ok i r O
 have et:u.take (i+1)=u.take i++[r]:=by rw[cE,O];rfl
 have ef:(u.take (i+1)).foldl Gk ([],"")=Gk ((u.take i).foldl Gk ([],"")) r:=by rw[et,ed];rfl
 have ew:Dg ([],"") (u.take (i+1))=Dg ([],"") (u.take i)++[Gv ((u.take i).foldl Gk ([],"")) r]:=by rw[et,DW]
 rw[ew]
 rw[ef]
 clear et ef ew O
 generalize (u.take i).foldl Gk ([],"")=s at *
 generalize Dg ([],"") (u.take i)=W at *
 have f:Er K m d r.v:=.inl (.inl (sx _ _ hT))
 have fin:∀ {B:Hp} {kN:List (Key × V)} {D:Ws} {S:R} {J:Addr} {DU:Option V},Aj H B->B p=some (.dK kN)->kN.length<=i+1->(∀ b∈D.1,Ci kN (Sum.inr b.1)=some (.int (b.2:Nat)))->(D.1.map (·.1)).Nodup->B l=some (.lst A)->Paired (λ(r:R) v=>TupAt B r.v v) W A->B J=some (.tup S.v) ->
   Aj H (upd B l (.lst (A++[.ref J])))/\∃ c U v4,upd B l (.lst (A++[.ref J])) p=some (.dK c)/\c.length<=i+1/\(∀ b∈D.1,Ci c (Sum.inr b.1)=some (.int (b.2:Nat)))/\(D.1.map (·.1)).Nodup/\upd B l (.lst (A++[.ref J])) l=some (.lst U)/\Paired (λ(r:R) v=>TupAt (upd B l (.lst (A++[.ref J]))) r.v v) (W++[S]) U/\U.length=i+1/\[some (.ref a),some (.ref p),some (.str D.2),some (.ref l),DU]=[some (.ref a),some (.ref p),some (.str D.2),some (.ref l),v4]:=λ{B kN D S J DU} sy dy ky hy ny ly py ty=>by
  have tq:∀ {T:Addr} {xs:List V},B T=some (.tup xs)->upd B l (.lst (A++[.ref J])) T=some (.tup xs):=λe=>by
   rw[Aw (λz=>by rw[z,ly] at e;cases e)]
   exact e
  exact⟨λb o e=>by rw[Aw (An e nf)];exact sy b o e,kN,_,_,by rw[Aw ab];exact dy,ky,hy,ny,Al,Dm (DN py λr v _ ⟨T,e,h⟩=>⟨T,e,tq h⟩) (.cons ⟨J,rfl,tq ty⟩ .nil),by rw[ah,wl];rfl,rfl⟩
 have F:A.length<=1000:=by omega
 cases K2 with
 | @J8 t n hf =>
  have X:Gk s ⟨"board",t,[.int (n:Nat)]⟩=(s.1++[(t,n)],s.2):=by unfold Gk;rw[if_pos rfl];rfl
  have Y:Gv s ⟨"board",t,[.int (n:Nat)]⟩=⟨"board",t,[.int (n:Nat)]⟩:=if_neg (by show ¬ ("board" : Str) = "line";decide)
  rw[X,Y]
  have f:Er K m d [.str "board",.str t,.int (n:Nat)]:=f
  refine⟨_,rfl,d,_,_,_,rfl,rfl,f,Ai (j:=0) rfl,rfl,_,rfl,TV rfl ?_⟩
  refine⟨_,rfl,d,_,_,_,rfl,rfl,f,Ai (j:=2) rfl,_,rfl,_,rfl,d,_,_,_,rfl,rfl,f,Ai (j:=1) rfl,p,_,rfl,N6.k (k:=Sum.inr t) L (Ax (by omega)),?_⟩
  have nT:d ≠ p:=λz=>by have:=sx _ _ hT;rw[z,L] at this;cases this
  have sy:Aj H (upd m p (.dK (putK c (Sum.inr t) (.int (n:Nat))))):=λb o e=>by rw[Aw (An e vT)];exact sx b o e
  have ty:upd m p (.dK (putK c (Sum.inr t) (.int (n:Nat)))) d=some (.tup [.str "board",.str t,.int (n:Nat)]):=by rw[Aw nT];exact sx _ _ hT
  have ly:upd m p (.dK (putK c (Sum.inr t) (.int (n:Nat)))) l=some (.lst A):=by rw[Aw (Ne.symm ab)];exact C
  have py:Paired (λ(r:R) v=>TupAt (upd m p (.dK (putK c (Sum.inr t) (.int (n:Nat))))) r.v v) W A:=DN M λr v _ ⟨T,e,h⟩=>⟨T,e,by rw[Aw (λz=>by rw[z,L] at h;cases h)];exact h⟩
  have qy:Er K (upd m p (.dK (putK c (Sum.inr t) (.int (n:Nat))))) d [.str "board",.str t,.int (n:Nat)]:=.inl (.inl ty)
  refine⟨_,rfl,d,_,_,_,rfl,rfl,qy,Ai (j:=0) rfl,rfl,_,rfl,Hs (by decide) ?_⟩
  refine⟨_,rfl,d,_,_,_,rfl,rfl,qy,Ai (j:=0) rfl,rfl,_,rfl,Hs (by decide) ?_⟩
  refine⟨_,rfl,.inl ⟨rfl,_,iO ly⟩,_,rfl,l,_,_,rfl,rfl,ly,Ax F,?_⟩
  refine fin (s':=(s.1++[(t,n)],s.2)) (rr:=⟨"board",t,[.int (n:Nat)]⟩) sy Al (bi Tt (by omega)) (λb hb=>?_) ?_ ly py ty
  ·rw[KC]
   rcases aI.mp hb with g | g
   ·rw[if_neg λz=>hf b g (Sum.inr.inj z)]
    exact Z b g
   ·rw[am.mp g,if_pos rfl]
  ·rw[db]
   exact List.nodup_append.mpr ⟨nd,by simp,λx hx y hy=>by
    obtain⟨b,hb,rfl⟩:=ay.mp hx
    have:y=t:=am.mp hy
    rw[this]
    exact hf b hb⟩
 | @stop t b =>
  have X:Gk s ⟨"stop",t,[.str b]⟩=(s.1,b):=by unfold Gk;rw[if_neg (by show ¬ ("stop" : Str) = "board";decide),if_pos rfl]
  have Y:Gv s ⟨"stop",t,[.str b]⟩=⟨"stop",t,[.str b]⟩:=if_neg (by show ¬ ("stop" : Str) = "line";decide)
  rw[X,Y]
  have f:Er K m d [.str "stop",.str t,.str b]:=f
  refine⟨_,rfl,d,_,_,_,rfl,rfl,f,Ai (j:=0) rfl,rfl,_,rfl,Hs (by decide) ?_⟩
  refine⟨_,rfl,d,_,_,_,rfl,rfl,f,Ai (j:=0) rfl,rfl,_,rfl,TV rfl ?_⟩
  refine⟨_,rfl,d,_,_,_,rfl,rfl,f,Ai (j:=2) rfl,?_⟩
  refine⟨_,rfl,d,_,_,_,rfl,rfl,f,Ai (j:=0) rfl,rfl,_,rfl,Hs (by decide) ?_⟩
  refine⟨_,rfl,.inl ⟨rfl,_,iO C⟩,_,rfl,l,_,_,rfl,rfl,C,Ax F,?_⟩
  exact fin (s':=(s.1,b)) (rr:=⟨"stop",t,[.str b]⟩) sx L (by omega) Z nd C M (sx _ _ hT)
 | @line t I n hm =>
  have X:Gk s ⟨"line",t,[.int I,.int 0,.int 0]⟩=s:=by unfold Gk;rw[if_neg (by show ¬ ("line" : Str) = "board";decide),if_neg (by show ¬ ("line" : Str) = "stop";decide)]
  have ez:jA s=n:=by unfold jA;rw[Vt nd hm];rfl
  have Y:Gv s ⟨"line",t,[.int I,.int 0,.int 0]⟩=⟨"line",t,[.int I,.int 0,.int ((n:Nat) - 1)]⟩:=by unfold Gv;rw[if_pos rfl,ez];rfl
  rw[X,Y]
  have f:Er K m d [.str "line",.str t,.int I,.int 0,.int 0]:=f
  have zo:=Z _ hm
  refine⟨_,rfl,d,_,_,_,rfl,rfl,f,Ai (j:=0) rfl,rfl,_,rfl,Hs (by decide) ?_⟩
  refine⟨_,rfl,d,_,_,_,rfl,rfl,f,Ai (j:=0) rfl,rfl,_,rfl,Hs (by decide) ?_⟩
  refine⟨_,rfl,d,_,_,_,rfl,rfl,f,Ai (j:=0) rfl,rfl,_,rfl,TV rfl ?_⟩
  refine⟨_,rfl,.inl ⟨rfl,_,iO C⟩,_,rfl,_,rfl,d,_,rfl,f,(show ¬ (HT.Do 5 0 none=0/\HT.Do 5 5 (some 4)=5) by decide),λp1 B3=>?_⟩
  rw[show Dy [V.str "line",V.str t,V.int I,V.int 0,V.int 0] none (some 4)=[V.str "line",.str t,.int I,.int 0] from rfl]
  obtain⟨H5,G,s5,t5⟩:=Il B3 [V.str "line",.str t,.int I,.int 0]
  rw[G]
  have dg:Gp H5 p (.str s.2) (some (.int (n:Nat))):=by
   have:=Gp.k (k:=Sum.inr s.2) (s5 _ _ L)
   rw[zo] at this
   exact this
  refine⟨_,rfl,_,rfl,p,_,rfl,dg,_,_,rfl,rfl,by show 1<=sizeLine;decide,λp2 ac=>?_⟩
  obtain⟨H6,G,s6,t6⟩:=Il ac [V.int ((n:Nat) - 1)]
  rw[show [V.int ((n:Nat) - 1)]=[V.int (((n:Nat):Int) - 1)] from rfl,G]
  refine⟨p1,p2,_,_,rfl,rfl,iO (s6 _ _ t5),iO t6,(by simp),(by show 5<=sizeLine;decide),(λz=>by cases z),λ_ p3 QP=>?_⟩
  obtain⟨H7,G,s7,t7⟩:=Il QP ([V.str "line",.str t,.int I,.int 0]++[V.int ((n:Nat) - 1)])
  rw[G]
  have xC:=s5.trans (s6.trans s7)
  refine⟨l,_,_,rfl,rfl,xC _ _ C,Ax F,?_⟩
  exact fin (s':=s) (rr:=⟨"line",t,[.int I,.int 0,.int ((n:Nat) - 1)]⟩) (sx.trans xC) (xC _ _ L) (by omega) Z nd (xC _ _ C) (Aq xC M) t7
 | oth h1 h2 h3 =>
  have X:Gk s r=s:=by unfold Gk;rw[if_neg h1,if_neg h2]
  have Y:Gv s r=r:=if_neg h3
  rw[X,Y]
  refine⟨_,rfl,d,_,_,_,rfl,rfl,f,Ai (j:=0) rfl,rfl,_,rfl,Hs h1 ?_⟩
  refine⟨_,rfl,d,_,_,_,rfl,rfl,f,Ai (j:=0) rfl,rfl,_,rfl,Hs h2 ?_⟩
  refine⟨_,rfl,d,_,_,_,rfl,rfl,f,Ai (j:=0) rfl,rfl,_,rfl,Hs h3 ?_⟩
  refine⟨_,rfl,.inl ⟨rfl,_,iO C⟩,_,rfl,l,_,_,rfl,rfl,C,Ax F,?_⟩
  exact fin (s':=s) (rr:=r) sx L (by omega) Z nd C M (sx _ _ hT)
end
set_option maxHeartbeats 4000000
abbrev nB (bs:List (Str × Nat)) (i:Nat):Str:=(bs.getD i ("",0)).1
abbrev zB (bs:List (Str × Nat)) (i:Nat):Nat:=(bs.getD i ("",0)).2
theorem NP {bs:List (Str × Nat)} {a:Nat} (h:a<bs.length):bs[a]? = some (nB bs a,zB bs a):=by
 unfold nB zB
 rw[aE,ae h]
 rfl
def kR (cb:Nat->Str) (nm:Str):Kb->R
 | .cp i j s=>⟨"coupler",nm,[.str (cb i),.str (cb j),.int s]⟩
 | .pl w i=>⟨w,nm,[.str (cb i)]⟩
theorem mH (b:Nat->Str) (a:Str) (z:Kb):(kR b a z).w=z.w:=by cases z <;> rfl
theorem Td (b:Nat->Str) (a:Str) (z:Kb):(kR b a z).nm=a:=by cases z <;> rfl
theorem Mt {α:Type} {l:List α} {x y:α} (h:(l++[x])[j]? = some y):l[j]? = some y \/ (j=l.length/\y=x):=by
 by_cases b:j<l.length
 ·rw[dL b] at h
  exact .inl h
 ·have a:=(ag.mp h).1
  rw[ah,bq] at a
  have e:j=l.length:=by omega
  subst e
  rw[de (ai _),iq] at h
  exact .inr ⟨rfl,(Option.some.inj h).symm⟩
def KZ (bs:List (Str × Nat)) (nms:List Str) (kbs:List Kb):List R:=List.zipWith (kR (nB bs)) nms kbs
theorem Ie {α β γ:Type} (f:α->β->γ):∀ {l:List α} {m:List β} (a:α) (b:β),l.length=m.length->List.zipWith f (l++[a]) (m++[b])=List.zipWith f l m++[f a b]
 | [],[],_,_,_=>rfl
 | x::l,y::m,a,b,h=>by
  show f x y::List.zipWith f (l++[a]) (m++[b])=_
  rw[Ie f a b (Nat.succ.inj h)]
  rfl
theorem QZ {bs:List (Str × Nat)} {nms:List Str} {r:R} (h:r∈KZ bs nms kbs):∃ t∈nms,∃ z∈kbs,r=kR (nB bs) t z:=by
 unfold KZ at h
 obtain⟨i,a,e⟩:=fq.mp h
 rw[List.getElem_zipWith] at e
 rw[gu] at a
 exact⟨_,zdl (by omega),_,zdl (by omega),e.symm⟩
theorem JV {bs:List (Str × Nat)} (wd:Str):∀ {nms:List Str} {kbs:List Kb},nms.length=kbs.length->((KZ bs nms kbs).filter λr=>decide (V.str r.w=V.str wd)).length=(kbs.filter (Em wd)).length
 | [],[],_=>rfl
 | t::nms,z::kbs,h=>by
  have a:=JV wd (nms:=nms) (kbs:=kbs) (bs:=bs) (Nat.succ.inj h)
  show ((kR (nB bs) t z::KZ bs nms kbs).filter _).length=_
  rw[cS,cS,mH]
  have e:Em wd z=decide (V.str z.w=V.str wd):=rfl
  rw[e]
  split
  ·rw[cK,cK,a]
  ·exact a
theorem M5 (h:Ny n kbs) {z:Kb} (d:z.ok n) (c:(kbs.filter (Em z.w)).length<J9 z.w) (e:kbs.length<70):Ny n (kbs++[z]):=by
 refine⟨λk a=>?_,λi k a=>?_,by rw[ah,bq];omega⟩
 ·rcases aI.mp a with a | a
  ·exact h.ok k a
  ·rw[am.mp a]
   exact d
 ·rcases Mt a with b | ⟨rfl,rfl⟩
  ·rw[dv (eI (ag.mp b).1)]
   exact h.room i k b
  ·rw[im]
   ·exact c
   ·rfl
structure WW (K:W.Frag) (aB aP aM:Addr):Prop where
 f:Xi K aB aP aM
 mT:∃ t,W.nsIn K aM "step" = some (some (.int 12 t))
theorem Fy {s:Ws} {l:List R} {r:R} (h:jU s l) (b:cQ (l.foldl Gk s) r):jU s (l++[r]):=λi c e=>by
 rcases Mt e with a | ⟨rfl,rfl⟩
 ·rw[dv (eI (ag.mp a).1)]
  exact h i c a
 ·rw[im]
  ·exact b
  ·rfl
structure Gm (K:W.Frag) (aB aP aM:Addr) (R0:List R) (bs:List (Str × Nat)) (rk:List (Str × Nat × Int)) (nms:List Str) (kbs:List Kb) (ls:List (List Ln)) (d0:List Nat) (bd:Str):Prop where
 ok:jU ([],"") R0
 st:R0.foldl Gk ([],"")=(bs,bd)
 bl:Ih K aB aP aM (Dg ([],"") R0) bs rk (KZ bs nms kbs) ls d0
 nl:nms.length=kbs.length
 nd:nms.Nodup
 kb:Ny bs.length kbs
 lg:gC rk ls
theorem NT {bs:List (Str × Nat)} {nms:List Str} (h:nms.length=kbs.length) (t:Str) (z:Kb):KZ bs (nms++[t]) (kbs++[z])=KZ bs nms kbs++[kR (nB bs) t z]:=Ie _ t z h
theorem Je {s:Ws} {r:R} (b:r.w ≠ "board") (a:r.w ≠ "stop"):Gk s r=s:=by unfold Gk;rw[if_neg b,if_neg a]
section
variable {K:W.Frag} {R0:List R} {bs:List (Str × Nat)} {nms:List Str} {d0:List Nat} {bd:Str}
theorem Gm.stop (F:WW K aB aP aM) (h:Gm K aB aP aM R0 bs rk nms kbs ls d0 bd) {b:Nat} (o:isNm t) (d:b<bs.length) (j:isNm (nB bs b)) (m:∀ x∈bs,x.1 ≠ t) (i:∀ x∈rk,x.1 ≠ t) (c:t ∉ nms) (f:(kbs.filter (Em "stop")).length<24) (p:kbs.length<70):Gm K aB aP aM (R0++[⟨"stop",t,[.str (nB bs b)]⟩]) bs rk (nms++[t]) (kbs++[.pl "stop" b]) (ls++[[]]) d0 (nB bs b):=by
 have v:∀ k∈KZ bs nms kbs,k.nm ≠ t:=λr u e=>by
  obtain⟨w,s,A,_,rfl⟩:=QZ u
  rw[Td] at e
  exact c (e ▸ s)
 refine⟨Fy h.ok .stop,?_,?_,?_,?_,?_,?_⟩
 ·rw[ed,h.st]
  show Gk (bs,bd) ⟨"stop",t,[.str (nB bs b)]⟩=_
  unfold Gk
  rw[if_neg (by show ¬ ("stop" : Str) = "board";decide),if_pos rfl]
 ·rw[DW,NT h.nl,show Gv (R0.foldl Gk ([],"")) ⟨"stop",t,[.str (nB bs b)]⟩=⟨"stop",t,[.str (nB bs b)]⟩ from if_neg (by show ¬ ("stop" : Str) = "line";decide)]
  exact h.bl.plain F.f (wd:="stop") (.inl rfl) o m i v (by rw[JV "stop" h.nl];exact f) j (av (NP d))
 ·rw[ah,ah,h.nl];rfl
 ·exact List.nodup_append.mpr ⟨h.nd,by simp,λx n y q e=>c (by rw[<-List.mem_singleton.mp q,<-e];exact n)⟩
 ·exact M5 h.kb ⟨d,.inr rfl⟩ f p
 ·intro l a
  rcases aI.mp a with g | g
  ·exact h.lg l g
  ·rw[am.mp g]
   exact⟨by decide,λ_ z=>nomatch z⟩
theorem Gm.fC (h:Gm K aB aP aM R0 bs rk nms kbs ls d0 bd) {r:R} {z:Kb} (o:r=kR (nB bs) t z) (p:z.ok bs.length) (c:r.w ≠ "board") (d:r.w ≠ "stop") (b:r.w ≠ "line") (i:t ∉ nms) (m:(kbs.filter (Em z.w)).length<J9 z.w) (j:kbs.length<70) (k:Ih K aB aP aM (Dg ([],"") R0++[r]) bs rk (KZ bs nms kbs++[r]) (ls++[[]]) d0):Gm K aB aP aM (R0++[r]) bs rk (nms++[t]) (kbs++[z]) (ls++[[]]) d0 bd:=by
 refine⟨Fy h.ok (.oth c d b),?_,?_,?_,?_,?_,?_⟩
 ·rw[ed,h.st]
  exact Je c d
 ·rw[DW,NT h.nl,show Gv (R0.foldl Gk ([],"")) r=r from if_neg b,<-o]
  exact k
 ·rw[ah,ah,h.nl];rfl
 ·exact List.nodup_append.mpr ⟨h.nd,by simp,λx f y n e=>i (by rw[<-List.mem_singleton.mp n,<-e];exact f)⟩
 ·exact M5 h.kb p m j
 ·intro l a
  rcases aI.mp a with g | g
  ·exact h.lg l g
  ·rw[am.mp g]
   exact⟨by decide,λ_ z=>nomatch z⟩
theorem Gm.qC (_:Gm K aB aP aM R0 bs rk nms kbs ls d0 bd) (b:t ∉ nms):∀ k∈KZ bs nms kbs,k.nm ≠ t:=λr a e=>by
 obtain⟨d,c,f,_,rfl⟩:=QZ a
 rw[Td] at e
 exact b (e ▸ c)
theorem Gm.nO (F:WW K aB aP aM) (h:Gm K aB aP aM R0 bs rk nms kbs ls d0 bd) {b:Nat} (i:isNm t) (c:b<bs.length) (f:isNm (nB bs b)) (g:∀ x∈bs,x.1 ≠ t) (e:∀ x∈rk,x.1 ≠ t) (a:t ∉ nms) (d:(kbs.filter (Em "mute")).length<5) (j:kbs.length<70):Gm K aB aP aM (R0++[⟨"mute",t,[.str (nB bs b)]⟩]) bs rk (nms++[t]) (kbs++[.pl "mute" b]) (ls++[[]]) d0 bd :=
 h.fC (z:=.pl "mute" b) rfl ⟨c,.inl rfl⟩ (by show ¬ ("mute" : Str) = "board";decide) (by show ¬ ("mute" : Str) = "stop";decide) (by show ¬ ("mute" : Str) = "line";decide) a d j
  (h.bl.plain F.f (wd:="mute") (.inr rfl) i g e (h.qC a) (by rw[JV "mute" h.nl];exact d) f (av (NP c)))
theorem Gm.pO (F:WW K aB aP aM) (h:Gm K aB aP aM R0 bs rk nms kbs ls d0 bd) {a b:Nat} {s:Int} (m:isNm t) (i:a<bs.length) (o:isNm (nB bs a)) (e:b<bs.length) (k:isNm (nB bs b)) (l:∀ x∈bs,x.1 ≠ t) (j:∀ x∈rk,x.1 ≠ t) (d:t ∉ nms) (f:(kbs.filter (Em "coupler")).length<12) (n:kbs.length<70) (g : -60<=s) (c:s<=60):Gm K aB aP aM (R0++[⟨"coupler",t,[.str (nB bs a),.str (nB bs b),.int s]⟩]) bs rk (nms++[t]) (kbs++[.cp a b s]) (ls++[[]]) d0 bd :=
 h.fC (z:=.cp a b s) rfl ⟨i,e,g,c⟩ (by show ¬ ("coupler" : Str) = "board";decide) (by show ¬ ("coupler" : Str) = "stop";decide) (by show ¬ ("coupler" : Str) = "line";decide) d f n
  (h.bl.Xl F.f m l j (h.qC d) (by rw[JV "coupler" h.nl];exact f) o (av (NP i)) k (av (NP e)) g c)
theorem Gm.step (F:WW K aB aP aM) (h:Gm K aB aP aM R0 bs rk nms kbs ls d0 bd) (d:isNm t) (f:∃ k∈KZ bs nms kbs,k.w = "stop" /\ k.nm=t) (e:d0.length<12):∃ w,Gm K aB aP aM (R0++[⟨"step",t,[]⟩]) bs rk nms kbs ls (d0++[w]) bd:=by
 have a:("step" : Str) ≠ "board":=by decide
 have b:("step" : Str) ≠ "stop":=by decide
 have c:("step" : Str) ≠ "line":=by decide
 refine⟨Wd.mk ((t::[]).map λt=>((KZ bs nms kbs).map (·.nm)).idxOf t),Fy h.ok (.oth a b c),?_,?_,h.nl,h.nd,h.kb,h.lg⟩
 ·rw[ed,h.st]
  exact Je (r:=⟨"step",t,[]⟩) a b
 ·rw[DW,show Gv (R0.foldl Gk ([],"")) ⟨"step",t,[]⟩=⟨"step",t,[]⟩ from if_neg c]
  exact h.bl.step F.mT (ts:=[]) (by simp) (by show 1<=24;decide) (λi g=>by rw[List.mem_singleton.mp g];exact⟨d,f⟩) e
theorem Gm.line (F:WW K aB aP aM) {a:List Ln} (h:Gm K aB aP aM R0 bs rk nms kbs (ls++[a]) d0 bd) {cnt:Nat} (T:Tl (Dg ([],"") R0) bd cnt) (q:cnt<4) (C:a.length<100) {m:Nat} {wi sh:Int} (f:rk[j]? = some (t,m,wi)) (b:(rk.map (·.1)).Nodup) (o:(bs.map (·.1)).Nodup) (s:isNm t) (c:(bd,n)∈bs) (A:1<=n) (B:n<=61) (w : -200<=sh) (i:sh<=200):Gm K aB aP aM (R0++[⟨"line",t,[.int sh,.int 0,.int 0]⟩]) bs rk nms kbs (ls++[a++[⟨j,sh,0,(n:Int) - 1⟩]]) d0 bd/\Tl (Dg ([],"") (R0++[⟨"line",t,[.int sh,.int 0,.int 0]⟩])) bd (cnt+1):=by
 have v:("line" : Str) ≠ "board":=by decide
 have y:("line" : Str) ≠ "stop":=by decide
 have e:Dg ([],"") (R0++[⟨"line",t,[.int sh,.int 0,.int 0]⟩])=Dg ([],"") R0++[⟨"line",t,[.int sh,.int 0,.int ((n:Int) - 1)]⟩]:=by
  rw[DW,h.st]
  have u:jA (bs,bd)=n:=by unfold jA;rw[Vt o c];rfl
  unfold Gv
  rw[if_pos rfl,u]
  rfl
 refine⟨⟨Fy h.ok ?_,?_,?_,h.nl,h.nd,h.kb,?_⟩,?_⟩
 ·rw[h.st]
  exact .line (n:=n) c
 ·rw[ed,h.st]
  exact Je (r:=⟨"line",t,[.int sh,.int 0,.int 0]⟩) v y
 ·rw[e]
  exact h.bl.line F.f T q f b s c (by omega) (by omega) w i (by omega) (by omega)
 ·intro l d
  rcases aI.mp d with g | g
  ·exact h.lg l (cf _ g)
  ·rw[am.mp g]
   have z:=h.lg a (bp _ (am.mpr rfl))
   refine⟨by rw[ah,bq];omega,λx p=>?_⟩
   rcases aI.mp p with k | k
   ·exact z.2 x k
   ·rw[am.mp k]
    constructor <;> first | exact (List.getElem?_eq_some_iff.mp f).1 | (dsimp only;omega)
 ·rw[e]
  exact T.line rfl
theorem Gm.nil:Gm K aB aP aM [] [] [] [] [] [] [] "":=⟨(λi r e=>by simp at e),rfl,Ih.nil,rfl,List.nodup_nil,⟨(λ_ z=>nomatch z),(λi k e=>by simp at e),by decide⟩,(λ_ z=>nomatch z)⟩
theorem Gm.J8 (F:WW K aB aP aM) (h:Gm K aB aP aM R0 bs rk [] [] [] [] bd) (d:isNm t) (a:∀ x∈bs,x.1 ≠ t) (b:∀ x∈rk,x.1 ≠ t) (f:bs.length<5) (g:1<=n) (c:n<=61):Gm K aB aP aM (R0++[⟨"board",t,[.int (n:Nat)]⟩]) (bs++[(t,n)]) rk [] [] [] [] bd:=by
 refine⟨Fy h.ok (.J8 (by rw[h.st];exact a)),?_,?_,rfl,List.nodup_nil,⟨(λ_ z=>nomatch z),(λi k e=>by simp at e),by decide⟩,(λ_ z=>nomatch z)⟩
 ·rw[ed,h.st]
  show Gk (bs,bd) ⟨"board",t,[.int (n:Nat)]⟩=_
  unfold Gk
  rw[if_pos rfl]
  rfl
 ·rw[DW,show Gv (R0.foldl Gk ([],"")) ⟨"board",t,[.int (n:Nat)]⟩=Gb (t,n) from if_neg (by show ¬ ("board" : Str) = "line";decide)]
  exact h.bl.J8 F.f d a b (λ_ z=>nomatch z) f g c
theorem Gm.rank (F:WW K aB aP aM) (h:Gm K aB aP aM R0 bs rk [] [] [] [] bd) {wi:Int} (j:isNm t) (g:∀ x∈bs,x.1 ≠ t) (d:∀ x∈rk,x.1 ≠ t) (l:rk.length<12) (o:1<=n) (f:n<=97) (m:0<=wi) (p:wi<=1000000000):Gm K aB aP aM (R0++[⟨"rank",t,[.int (n:Nat),.int wi]⟩]) bs (rk++[(t,n,wi)]) [] [] [] [] bd:=by
 have b:("rank" : Str) ≠ "board":=by decide
 have c:("rank" : Str) ≠ "stop":=by decide
 have a:("rank" : Str) ≠ "line":=by decide
 refine⟨Fy h.ok (.oth b c a),?_,?_,rfl,List.nodup_nil,⟨(λ_ z=>nomatch z),(λi k e=>by simp at e),by decide⟩,(λ_ z=>nomatch z)⟩
 ·rw[ed,h.st]
  exact Je (r:=⟨"rank",t,[.int (n:Nat),.int wi]⟩) b c
 ·rw[DW,show Gv (R0.foldl Gk ([],"")) ⟨"rank",t,[.int (n:Nat),.int wi]⟩=Gh (t,n,wi) from if_neg a]
  exact h.bl.rank F.f j g d (λ_ z=>nomatch z) l o f m p
theorem Gm.tl (_:Gm K aB aP aM R0 bs rk nms kbs ls d0 bd) (t b:Str):Tl (Dg ([],"") (R0++[⟨"stop",t,[.str b]⟩])) b 0:=by
 rw[DW,show Gv (R0.foldl Gk ([],"")) ⟨"stop",t,[.str b]⟩=⟨"stop",t,[.str b]⟩ from if_neg (by show ¬ ("stop" : Str) = "line";decide)]
 exact Tl.stop _ _ _
inductive XC (K:W.Frag) (vs:List V) (H:Hp) (Q:VK) (a8:XK):Prop
 | mk (a:Addr) (k:Nat) (ns:List Int):vs=[.ref a,.int (k:Nat)]->CV K H a (ns.map V.int)->(∀ i:Int,Q (.int i) H)->XC K vs H Q a8
theorem lU:Av mm mm (Ae kj):=Bh
include N T in
theorem Yh:Ar P w K mg base BW 1 aD.fCe aD.dCe mm (XC K):=by
 refine N.FCe.1.Dp lU λH f Q E g h=>?_
 obtain⟨a,k,c,rfl,d,q⟩:=h
 refine⟨_,(Af (Bv (BV Fd (pv 1) (BJ BR rfl T.len cq (Aa (pv 0) Ab)) (Ba _)) (Ag (Az (A_ Fi (pv 0) (pv 1) (λ_ _=>rfl)))) Bf)
  (Ag (Az Ac))),?_⟩
 refine⟨_,rfl,_,rfl,a,_,rfl,.inl d,_,_,rfl,rfl,_,rfl,?_⟩
 refine Cr (λe=>?_) (λ_=>q 0)
 have b:k<c.length:=by have:=of_decide_eq_true e;rw[af] at this;omega
 exact⟨_,rfl,_,rfl,a,_,_,.int c[k],rfl,rfl,d,Ai (by rw[ar,ae b];rfl),q _⟩
theorem j7:Av qs qs (Ae ph):=Bh
include N T in
theorem gr:Ar P w K mg base BW 1 aD.fLw aD.dLw qs J5:=by
 refine N.FLw.1.Dp j7 λH a Q E b h=>?_
 obtain⟨i,rfl,q⟩:=h
 refine⟨_,(Ag (Az (Cj (BJ Cd rfl T.isin bE (Aa (pv 0) (Aa (Du (v:=.ty "int") rfl T.int hG rfl) Ab))) (Cp (Om (BJ Cd rfl T.isin bE (Aa (pv 0) (Aa (Du (v:=.ty "bool") rfl T.bool PyProof.Rows.boot_bool rfl) Ab)))))))),?_⟩
 refine⟨_,rfl,_,"int",_,_,rfl,.int i,ty_int,_,rfl,Dw ?_⟩
 exact⟨_,rfl,_,"bool",_,_,rfl,.int i,Yd,_,rfl,q⟩
inductive Gf:List (Str × Nat)->List (Str × Nat × Int)->Prop
 | one {n m:Nat}:1<=n->n<=61->1<=m->m<=97->Gf [("great",n)] [("flute",m,1)]
 | two {n m n' m':Nat}:1<=n->n<=61->1<=m->m<=97->1<=n'->n'<=61->1<=m'->m'<=97->Gf [("great",n),("swell",n')] [("flute",m,1),("reed",m',3)]
abbrev RN:List Str:=["stopa","stopb","stopc","stopd","stope","joina","joinb","joinc","mutea","muteb"]
section
variable {bs:List (Str × Nat)}
theorem gw:∀ t∈(mu:List Str),isNm t/\∀ u∈RN,isNm u/\t ≠ u:=by
 unfold isNm
 decide
theorem Gf.len (h:Gf bs rk):1<=bs.length/\bs.length<=2/\1<=rk.length/\rk.length<=2:=by cases h <;> simp
theorem Gf.b (h:Gf bs rk):∀ b∈bs,b.1∈(mu:List Str)/\1<=b.2/\b.2<=61:=by
 cases h with
 | one =>
  intro b a
  rw[am.mp a]
  exact⟨by simp,by assumption,by assumption⟩
 | two =>
  intro b a
  simp only[List.mem_cons,List.not_mem_nil,or_false] at a
  rcases a with rfl | rfl
  ·exact⟨by simp,by assumption,by assumption⟩
  ·exact⟨by simp,by assumption,by assumption⟩
theorem Gf.r (h:Gf bs rk):∀ r∈rk,r.1∈(mu:List Str)/\1<=r.2.1/\r.2.1<=97:=by
 cases h with
 | one =>
  intro b a
  rw[am.mp a]
  exact⟨by simp,by assumption,by assumption⟩
 | two =>
  intro b a
  simp only[List.mem_cons,List.not_mem_nil,or_false] at a
  rcases a with rfl | rfl
  ·exact⟨by simp,by assumption,by assumption⟩
  ·exact⟨by simp,by assumption,by assumption⟩
theorem Gf.nd (h:Gf bs rk):(bs.map (·.1)).Nodup/\(rk.map (·.1)).Nodup:=by
 cases h with
 | one=>exact⟨by show (["great"]:List Str).Nodup;decide,by show (["flute"]:List Str).Nodup;decide⟩
 | two=>exact⟨by show (["great","swell"]:List Str).Nodup;decide,by show (["flute","reed"]:List Str).Nodup;decide⟩
theorem Gf.nb (h:Gf bs rk) {b:Nat} (a:b<bs.length):isNm (nB bs b)/\(nB bs b,zB bs b)∈bs/\1<=zB bs b/\zB bs b<=61:=by
 have:=av (NP a)
 exact⟨(gw _ (h.b _ this).1).1,this,(h.b _ this).2⟩
theorem Gf.fr (h:Gf bs rk) (b:t∈RN):isNm t/\(∀ x∈bs,x.1 ≠ t)/\∀ x∈rk,x.1 ≠ t :=
 ⟨((gw "great" (by simp)).2 t b).1,λx a=>((gw _ (h.b x a).1).2 t b).2,λx a=>((gw _ (h.r x a).1).2 t b).2⟩
end
abbrev Ip (w:Str) (i:Nat):Str:=w++⟨#[97+i]⟩
theorem dX:∀ i,i<5->Ip "stop" i∈RN:=by decide
theorem iT:∀ i,i<3->Ip "join" i∈RN:=by decide
theorem fB:∀ i,i<2->Ip "mute" i∈RN:=by decide
theorem iV:Ip "stop" 0 = "stopa":=by decide
theorem gJ:∀ n,n<6->∀ i,i<6->Ip "stop" i=Ip "stop" n->i=n:=by decide
theorem au:∀ n,n<6->∀ i,i<6->Ip "join" i=Ip "join" n->i=n:=by decide
theorem ZF:∀ n,n<6->∀ i,i<6->Ip "mute" i=Ip "mute" n->i=n:=by decide
theorem Oi:∀ n,n<6->∀ i,i<6->Ip "stop" i ≠ Ip "join" n/\Ip "stop" i ≠ Ip "mute" n/\Ip "join" i ≠ Ip "mute" n:=by decide
abbrev nms (w:Str) (n:Nat):List Str:=(List.range n).map (Ip w)
theorem J7 (w:Str) (n:Nat):nms w (n+1)=nms w n++[Ip w n]:=by
 unfold nms
 rw[List.range_succ,db]
 rfl
theorem HQ {w:Str}:t∈nms w n ↔ ∃ i,i<n/\Ip w i=t:=by
 unfold nms
 simp
structure QT (K:W.Frag) (aB aP aM:Addr) (H0 H:Hp) (p pb pr:Addr) (R0:List R) (us:List V) (bs:List (Str × Nat)) (rk:List (Str × Nat × Int)) (ns:List Str) (kbs:List Kb) (ls:List (List Ln)) (d0:List Nat) (bd:Str) (m t c:Nat):Prop where
 s:Aj H0 H
 f:H0 p=none
 l:H p=some (.lst us)
 b:H pb=some (.lst (bs.map λb=>V.str b.1))
 r:H pr=some (.lst (rk.map λr=>V.str r.1))
 nb:pb ≠ p
 nr:pr ≠ p
 pr:Paired (λ(r:R) v=>TupAt H r.v v) R0 us
 w:Gm K aB aP aM R0 bs rk ns kbs ls d0 bd
 t:us.length<=t
 m:(kbs.filter (Em "mute")).length<=m
 c:d0.length<=c
 z:0<kbs.length->∃ b,kbs[0]? = some (.pl "stop" b)
section
variable {K:W.Frag} {H0:Hp} {p pb pr:Addr} {R0:List R} {us:List V} {bs:List (Str × Nat)} {ns EU:List Str} {q0:List Kb} {FH:List (List Ln)} {d0 uo:List Nat} {bd E5:Str} {m t c m' c':Nat}
theorem QT.app (h:QT K aB aP aM H0 H p pb pr R0 us bs rk ns kbs ls d0 bd m t c) {T:Addr} {r:R} (s:Aj H H') (l:H' T=some (.tup r.v)) (w:Gm K aB aP aM (R0++[r]) bs rk EU q0 FH uo E5) (j:(q0.filter (Em "mute")).length<=m') (i:uo.length<=c') (n:0<q0.length->∃ b,q0[0]? = some (.pl "stop" b)):QT K aB aP aM H0 (upd H' p (.lst (us++[.ref T]))) p pb pr (R0++[r]) (us++[.ref T]) bs rk EU q0 FH uo E5 m' (t+1) c':=by
 have k:=s _ _ h.l
 have a:∀ {d:Addr} {f:List V},H' d=some (.tup f)->upd H' p (.lst (us++[.ref T])) d=some (.tup f):=λe=>by
  rw[Aw (λz=>by rw[z,k] at e;cases e)]
  exact e
 exact⟨λb o e=>by rw[Aw (An e h.f)];exact (h.s.trans s) b o e,h.f,Al,by rw[Aw h.nb];exact s _ _ h.b,by rw[Aw h.nr];exact s _ _ h.r,h.nb,h.nr,Dm (DN h.pr λr v _ ⟨T,e,g⟩=>⟨T,e,a (s _ _ g)⟩) (.cons ⟨T,rfl,a l⟩ .nil),w,by rw[ah,bq];have:=h.t;omega,j,i,n⟩
theorem PN (h:0<kbs.length->∃ b,kbs[0]? = some (.pl "stop" b)) (a:0<kbs.length) (z:Kb):0<(kbs++[z]).length->∃ b,(kbs++[z])[0]? = some (.pl "stop" b):=λ_=>by
 obtain⟨b,e⟩:=h a
 exact⟨b,by rw[dL a];exact e⟩
theorem cI (h:(kbs.filter (Em "mute")).length<=m) (z:Kb):((kbs++[z]).filter (Em "mute")).length<=m+1:=by
 rw[fo,ah]
 have:=ck (Em "mute") [z]
 rw[bq] at this
 omega
theorem YW (h:(kbs.filter (Em "mute")).length<=m) {z:Kb} (a:z.w ≠ "mute"):((kbs++[z]).filter (Em "mute")).length<=m:=by
 rw[fo,ah,cS,if_neg (by rw[decide_eq_true_eq];exact λe=>a (V.str.inj e))]
 exact h
theorem QT.nk (h:QT K aB aP aM H0 H p pb pr R0 us bs rk ns kbs ls d0 bd m t c):kbs.length=ns.length:=h.w.nl.symm
end
theorem YQ {x y:Int} (k:Bool):∃ n:Int,Ox [V.int x,V.int y] (if k=true then 1 else 0)=some (.int n)/\(n=x \/ n=y):=by
 cases k with
 | false=>exact⟨x,Ai (j:=0) rfl,.inl rfl⟩
 | true=>exact⟨y,Ai (j:=1) rfl,.inr rfl⟩
theorem qj:∀ i,i<6->Ox ("abcdef" : Str).cps.toList ((i:Nat):Int)=some (97+i):=by decide
theorem qU:∀ i,i<3->Ox ("abc" : Str).cps.toList ((i:Nat):Int)=some (97+i):=by decide
theorem qW:∀ i,i<2->Ox ("ab" : Str).cps.toList ((i:Nat):Int)=some (97+i):=by decide
theorem W_ {bs:List (Str × Nat)} {r:Nat} (h:r<bs.length):(bs.map λb=>V.str b.1)[r]? = some (V.str (nB bs r)):=by rw[ar,NP h];rfl
inductive cB (K:W.Frag) (aB aP aM:Addr) (vs:List V) (H:Hp) (Q:VK) (a8:XK):Prop
 | mk (a:Addr) (ns:List Int):vs=[.ref a]->CV K H a (ns.map V.int)->WW K aB aP aM->(∀ (p pb pr:Addr) (R0:List R) (us:List V) (bs:List (Str × Nat)) (rk:List (Str × Nat × Int)) (ns:List Str) (kbs:List Kb) (ls:List (List Ln)) (d0:List Nat) (bd:Str) H',Gf bs rk->ns.length<=10->QT K aB aP aM H H' p pb pr R0 us bs rk ns kbs ls d0 bd 2 40 2->Q (.ref p) H')->cB K aB aP aM vs H Q a8
theorem GX:Av ["_law_script","_law_first","_law_second","_law_wide","_law_rows","_law_boards","_law_ranks","_law_k","_law_board","_law_j","_law_rank","_law_one","_law_other"] lT (Ae oh):=Bh
include N T in
theorem fu:Ar P w K mg base BW 2 aD.fLg aD.dLg lT (cB K aB aP aM):=by
 refine N.FLg.1.Dp GX λH vs Q E I h=>?_
 obtain⟨a,ns,rfl,hS,F0,q⟩:=h
 have hu:=Fz I
 refine⟨_,(@Af _ _ _ _ _ (@Bq _ _ _ _ _ _ 1 GX.nd rfl (Or.inl rfl) (zC (Yh N T) I rfl N.FCe (@Ay _ _ _ _ _ rfl (pv 0) (@Ay _ _ _ _ _ rfl Ac Ab))) rfl (Or.inl rfl)) (@Af _ _ _ _ _ (@Bq _ _ _ _ _ _ 2 GX.nd rfl (Or.inl rfl) (zC (Yh N T) I rfl N.FCe (@Ay _ _ _ _ _ rfl (pv 0) (@Ay _ _ _ _ _ rfl Ac Ab))) rfl (Or.inl rfl)) (@Af _ _ _ _ _ (@Bq _ _ _ _ _ _ 3 GX.nd rfl (Or.inl rfl) (DR Q9 rfl T.int hG (@Ay _ _ _ _ _ rfl (Ef Dt (zC (T_ N T) I rfl N.FMi (@Ay _ _ _ _ _ rfl (pv 1) (@Ay _ _ _ _ _ rfl Ac (@Ay _ _ _ _ _ rfl Ac Ab)))) Ac (Ba _)) Ab)) rfl (Or.inl rfl)) (@Af _ _ _ _ _ (@Bq _ _ _ _ _ _ 4 GX.nd rfl (Or.inl rfl) (@Dk _ _ _ _ (@Ay _ _ _ _ _ rfl (@CN _ _ _ _ _ (@Ay _ _ _ _ _ rfl Bb (@Ay _ _ _ _ _ rfl Bb (@Ay _ _ _ _ _ rfl (BL Bm Ac (zC (T_ N T) I rfl N.FMi (@Ay _ _ _ _ _ rfl (pv 1) (@Ay _ _ _ _ _ rfl Ac (@Ay _ _ _ _ _ rfl (@A_ _ _ _ _ _ _ _ (Ca (K:=K) rfl) (@Dk _ _ _ _ (@Ay _ _ _ _ _ rfl Ac (@Ay _ _ _ _ _ rfl Ac Ab))) (pv 3) (λ_ _=>rfl)) Ab))))) Ab)))) Ab)) rfl (Or.inl rfl)) (@Af _ _ _ _ _ (Ck (FW bb bX ce Br (pv 4) (@Ay _ _ _ _ _ rfl (@CN _ _ _ _ _ (@Ay _ _ _ _ _ rfl Bb (@Ay _ _ _ _ _ rfl Bb (@Ay _ _ _ _ _ rfl (BL Bm Ac (zC (T_ N T) I rfl N.FMi (@Ay _ _ _ _ _ rfl (pv 1) (@Ay _ _ _ _ _ rfl Ac (@Ay _ _ _ _ _ rfl (@A_ _ _ _ _ _ _ _ (Ca (K:=K) rfl) (@Dk _ _ _ _ (@Ay _ _ _ _ _ rfl Ac (@Ay _ _ _ _ _ rfl Ac Ab))) (pv 3) (λ_ _=>rfl)) Ab))))) (@Ay _ _ _ _ _ rfl Ac Ab))))) Ab))) (@Af _ _ _ _ _ (@Bq _ _ _ _ _ _ 5 GX.nd rfl (Or.inl rfl) (@Dk _ _ _ _ (@Ay _ _ _ _ _ rfl Bb Ab)) rfl (Or.inl rfl)) (@Af _ _ _ _ _ (@Bq _ _ _ _ _ _ 6 GX.nd rfl (Or.inl rfl) (@Dk _ _ _ _ (@Ay _ _ _ _ _ rfl Bb Ab)) rfl (Or.inl rfl)) (@Af _ _ _ _ _ (@Bv _ _ _ _ _ _ _ _ (BV Dt (BL Eb (pv 1) Ac) Ac (Ba _)) (@Af _ _ _ _ _ (@Bq _ _ _ _ _ _ 4 GX.nd rfl (Or.inl rfl) (BL Lz (pv 4) (@Dk _ _ _ _ (@Ay _ _ _ _ _ rfl (@CN _ _ _ _ _ (@Ay _ _ _ _ _ rfl Bb (@Ay _ _ _ _ _ rfl Bb (@Ay _ _ _ _ _ rfl (BL Bm Ac (zC (T_ N T) I rfl N.FMi (@Ay _ _ _ _ _ rfl (pv 1) (@Ay _ _ _ _ _ rfl Ac (@Ay _ _ _ _ _ rfl Ac Ab))))) Ab)))) (@Ay _ _ _ _ _ rfl (@CN _ _ _ _ _ (@Ay _ _ _ _ _ rfl Bb (@Ay _ _ _ _ _ rfl Bb (@Ay _ _ _ _ _ rfl (BL Bm Ac (BL Eb (BL Hr (pv 1) Ac) Ac)) (@Ay _ _ _ _ _ rfl Ac Ab))))) Ab)))) rfl (Or.inl rfl)) (@Af _ _ _ _ _ (@Bq _ _ _ _ _ _ 5 GX.nd rfl (Or.inl rfl) (BL Lz (pv 5) (@Dk _ _ _ _ (@Ay _ _ _ _ _ rfl Bb Ab))) rfl (Or.inl rfl)) (@Ag _ _ _ (@Bq _ _ _ _ _ _ 6 GX.nd rfl (Or.inl rfl) (BL Lz (pv 6) (@Dk _ _ _ _ (@Ay _ _ _ _ _ rfl Bb Ab))) rfl (Or.inl rfl))))) Bf) (@Af _ _ _ _ _ (Cv PassesOwn.never rfl (DX rfl T.range (@Ay _ _ _ _ _ rfl (BL Bm Ac (zC (T_ N T) I rfl N.FMi (@Ay _ _ _ _ _ rfl (pv 2) (@Ay _ _ _ _ _ rfl Ac (@Ay _ _ _ _ _ rfl Ac Ab))))) Ab)) (Bp (i:=7) GX.nd rfl (Or.inl rfl)) (@Af _ _ _ _ _ (@Bq _ _ _ _ _ _ 8 GX.nd rfl (Or.inl rfl) (@A_ _ _ _ _ _ _ _ (Ca (K:=K) rfl) (pv 5) (zC (T_ N T) I rfl N.FMi (@Ay _ _ _ _ _ rfl (BL Bm (pv 2) (pv 7)) (@Ay _ _ _ _ _ rfl Ac (@Ay _ _ _ _ _ rfl (BJ BR rfl T.len cq (@Ay _ _ _ _ _ rfl (pv 5) Ab)) Ab)))) (λ_ _=>rfl)) rfl (Or.inl rfl)) (@Af _ _ _ _ _ (Ck (FW bb bX ce Br (pv 4) (@Ay _ _ _ _ _ rfl (@CN _ _ _ _ _ (@Ay _ _ _ _ _ rfl Bb (@Ay _ _ _ _ _ rfl (BL Hc Bb (@A_ _ _ _ _ _ _ _ Pu Bb (pv 7) (λ_ _=>rfl))) (@Ay _ _ _ _ _ rfl (pv 8) Ab)))) Ab))) (@Ag _ _ _ (Cv PassesOwn.never rfl (DX rfl T.range (@Ay _ _ _ _ _ rfl (zC (T_ N T) I rfl N.FMi (@Ay _ _ _ _ _ rfl (BL Bm (pv 2) (BL Fv Ac (pv 7))) (@Ay _ _ _ _ _ rfl Ac (@Ay _ _ _ _ _ rfl Ac Ab)))) Ab)) (Bp (i:=9) GX.nd rfl (Or.inl rfl)) (@Af _ _ _ _ _ (@Bq _ _ _ _ _ _ 10 GX.nd rfl (Or.inl rfl) (@A_ _ _ _ _ _ _ _ (Ca (K:=K) rfl) (pv 6) (zC (T_ N T) I rfl N.FMi (@Ay _ _ _ _ _ rfl (BL Bm (BL Bm (pv 2) (BL Fv Ac (pv 7))) (pv 9)) (@Ay _ _ _ _ _ rfl Ac (@Ay _ _ _ _ _ rfl (BJ BR rfl T.len cq (@Ay _ _ _ _ _ rfl (pv 6) Ab)) Ab)))) (λ_ _=>rfl)) rfl (Or.inl rfl)) (@Ag _ _ _ (Ck (FW bb bX ce Br (pv 4) (@Ay _ _ _ _ _ rfl (@CN _ _ _ _ _ (@Ay _ _ _ _ _ rfl Bb (@Ay _ _ _ _ _ rfl (pv 10) (@Ay _ _ _ _ _ rfl (BL Es (zC (T_ N T) I rfl N.FMi (@Ay _ _ _ _ _ rfl (BL Bm (BL Bm (pv 2) (BL Fv Ac (pv 7))) (pv 9)) (@Ay _ _ _ _ _ rfl Ac (@Ay _ _ _ _ _ rfl Ac Ab)))) Ac) (@Ay _ _ _ _ _ rfl Ac (@Ay _ _ _ _ _ rfl Ac Ab)))))) Ab)))))))))) (@Af _ _ _ _ _ (Cv PassesOwn.never rfl (DX rfl T.range (@Ay _ _ _ _ _ rfl (zC (T_ N T) I rfl N.FMi (@Ay _ _ _ _ _ rfl (pv 2) (@Ay _ _ _ _ _ rfl Ac (@Ay _ _ _ _ _ rfl Ac Ab)))) Ab)) (Bp (i:=7) GX.nd rfl (Or.inl rfl)) (@Af _ _ _ _ _ (@Bq _ _ _ _ _ _ 11 GX.nd rfl (Or.inl rfl) (@A_ _ _ _ _ _ _ _ (Ca (K:=K) rfl) (pv 5) (zC (T_ N T) I rfl N.FMi (@Ay _ _ _ _ _ rfl (BL Bm (pv 2) (pv 7)) (@Ay _ _ _ _ _ rfl Ac (@Ay _ _ _ _ _ rfl (BJ BR rfl T.len cq (@Ay _ _ _ _ _ rfl (pv 5) Ab)) Ab)))) (λ_ _=>rfl)) rfl (Or.inl rfl)) (@Af _ _ _ _ _ (@Bq _ _ _ _ _ _ 12 GX.nd rfl (Or.inl rfl) (@A_ _ _ _ _ _ _ _ (Ca (K:=K) rfl) (pv 5) (zC (T_ N T) I rfl N.FMi (@Ay _ _ _ _ _ rfl (BL Bm (pv 2) (BL Fv Ac (pv 7))) (@Ay _ _ _ _ _ rfl Ac (@Ay _ _ _ _ _ rfl (BJ BR rfl T.len cq (@Ay _ _ _ _ _ rfl (pv 5) Ab)) Ab)))) (λ_ _=>rfl)) rfl (Or.inl rfl)) (@Ag _ _ _ (Ck (FW bb bX ce Br (pv 4) (@Ay _ _ _ _ _ rfl (@CN _ _ _ _ _ (@Ay _ _ _ _ _ rfl Bb (@Ay _ _ _ _ _ rfl (BL Hc Bb (@A_ _ _ _ _ _ _ _ Pu Bb (pv 7) (λ_ _=>rfl))) (@Ay _ _ _ _ _ rfl (pv 11) (@Ay _ _ _ _ _ rfl (pv 12) (@Ay _ _ _ _ _ rfl (BL Es (zC (T_ N T) I rfl N.FMi (@Ay _ _ _ _ _ rfl (BL Bm (pv 2) (BL Fv Ac (pv 7))) (@Ay _ _ _ _ _ rfl Ac (@Ay _ _ _ _ _ rfl Ac Ab)))) Ac) Ab)))))) Ab))))))) (@Af _ _ _ _ _ (Cv PassesOwn.never rfl (DX rfl T.range (@Ay _ _ _ _ _ rfl (zC (T_ N T) I rfl N.FMi (@Ay _ _ _ _ _ rfl (pv 2) (@Ay _ _ _ _ _ rfl Ac (@Ay _ _ _ _ _ rfl Ac Ab)))) Ab)) (Bp (i:=7) GX.nd rfl (Or.inl rfl)) (@Ag _ _ _ (Ck (FW bb bX ce Br (pv 4) (@Ay _ _ _ _ _ rfl (@CN _ _ _ _ _ (@Ay _ _ _ _ _ rfl Bb (@Ay _ _ _ _ _ rfl (BL Hc Bb (@A_ _ _ _ _ _ _ _ Pu Bb (pv 7) (λ_ _=>rfl))) (@Ay _ _ _ _ _ rfl (@A_ _ _ _ _ _ _ _ (Ca (K:=K) rfl) (pv 5) (BL Eb (pv 7) (BJ BR rfl T.len cq (@Ay _ _ _ _ _ rfl (pv 5) Ab))) (λ_ _=>rfl)) Ab)))) Ab))))) (@Af _ _ _ _ _ (Cv PassesOwn.never rfl (DX rfl T.range (@Ay _ _ _ _ _ rfl (zC (T_ N T) I rfl N.FMi (@Ay _ _ _ _ _ rfl (pv 2) (@Ay _ _ _ _ _ rfl Ac (@Ay _ _ _ _ _ rfl Ac Ab)))) Ab)) (Bp (i:=7) GX.nd rfl (Or.inl rfl)) (@Ag _ _ _ (Ck (FW bb bX ce Br (pv 4) (@Ay _ _ _ _ _ rfl (@CN _ _ _ _ _ (@Ay _ _ _ _ _ rfl Bb (@Ay _ _ _ _ _ rfl Bb Ab))) Ab))))) (@Ag _ _ _ (@Az _ _ _ _ (pv 4))))))))))))))),?_⟩
 refine⟨_,rfl,a,0,ns,rfl,hS,λU=>?_⟩
 refine⟨_,rfl,a,1,ns,rfl,hS,λc2=>?_⟩
 refine⟨_,rfl,U,_,_,rfl,by decide,by decide,by decide,λr0 f'=>⟨rfl,.inr ⟨_,rfl,?_⟩⟩⟩
 generalize decide (V.int ((r0:Nat):Int)=V.int 3)=wd
 refine⟨_,rfl,by show 2<=sizeLine;decide,λl1 an=>?_⟩
 obtain⟨H1,d,G,Z⟩:=Gj an [V.int 6,V.int 61]
 rw[d]
 clear d
 obtain⟨n1,e1,b1⟩:=YQ (x:=6) (y:=61) wd
 refine⟨_,rfl,l1,_,_,_,rfl,rfl,iO Z,e1,U,_,_,rfl,by omega,by decide,by decide,λr1 a5=>⟨_,_,rfl,rfl,by show 3<=sizeLine;decide,λT0 ra=>?_⟩⟩
 obtain⟨H2,d,s2,u2⟩:=Il ra [V.str "board",.str "great",.int (1+((r1:Nat):Int))]
 rw[d]
 clear d
 refine⟨by show 1<=sizeLine;decide,λp hp=>?_⟩
 obtain⟨H3,d,s3,u3⟩:=Gj hp [V.ref T0]
 rw[d]
 clear d
 refine⟨_,rfl,.inl ⟨rfl,_,iO u3⟩,_,rfl,by show 2<=sizeLine;decide,λl4 wD=>?_⟩
 obtain⟨H4,d,s4,u4⟩:=Gj wD [V.int 9,V.int 70]
 rw[d]
 clear d
 obtain⟨n2,e2,b2⟩:=YQ (x:=9) (y:=70) wd
 refine⟨_,rfl,l4,_,_,_,rfl,rfl,iO u4,e2,U,_,_,rfl,by omega,by decide,by decide,λr2 rL=>⟨_,_,rfl,rfl,by show 4<=sizeLine;decide,λW ma=>?_⟩⟩
 obtain⟨H5,d,s5,u5⟩:=Il ma [V.str "rank",.str "flute",.int (1+((r2:Nat):Int)),.int 1]
 rw[d]
 clear d
 have xF:=s4.trans s5
 refine⟨p,_,_,rfl,rfl,xF _ _ u3,Ax (by show 1<=1000;decide),?_⟩
 have f0:H p=none:=G.free (s2.free hp)
 have p5:=xF _ _ u3
 have aC:Aj H (upd H5 p (HO.lst ([V.ref T0]++[V.ref W]))):=λb o e=>by
  rw[Aw (An e f0)]
  exact (G.trans (s2.trans (s3.trans xF))) b o e
 have u6:upd H5 p (HO.lst ([V.ref T0]++[V.ref W])) p=some (.lst [V.ref T0,V.ref W]):=Al
 have t6:∀ {T':Addr} {xs:List V},H5 T'=some (.tup xs)->upd H5 p (HO.lst ([V.ref T0]++[V.ref W])) T'=some (.tup xs):=λe=>by
  rw[Aw (λz=>by rw[z,p5] at e;cases e)]
  exact e
 have v6:=t6 ((s3.trans xF) _ _ u2)
 have w6:=t6 u5
 generalize upd H5 p (HO.lst ([V.ref T0]++[V.ref W]))=H6 at aC u6 v6 w6 |-
 clear t6 p5 xF ma u5 u4 wD s4 s5 s3 u3 hp u2 s2 ra Z G an e1 e2
 have W0:Gm K aB aP aM [Gb ("great",1+r1),Gh ("flute",1+r2,1)] [("great",1+r1)] [("flute",1+r2,1)] [] [] [] [] "":=by
  have A:=Gm.nil (K:=K) (aB:=aB) (aP:=aP) (aM:=aM)
  have B:=A.J8 F0 (t:="great") (n:=1+r1) (gw _ (by simp)).1 (λ_ z=>nomatch z) (λ_ z=>nomatch z) (by decide) (by omega) (by omega)
  exact B.rank F0 (t:="flute") (n:=1+r2) (wi:=1) (gw _ (by simp)).1 (λx hx=>by rw[List.mem_singleton.mp hx];show ("great" : Str) ≠ "flute";decide) (λ_ z=>nomatch z) (by decide) (by omega) (by omega) (by decide) (by decide)
 refine⟨by show 1<=sizeLine;decide,λv D9=>?_⟩
 obtain⟨H7,d,s7,u7⟩:=Gj D9 [V.str "great"]
 rw[d]
 clear d
 refine⟨by show 1<=sizeLine;decide,λD mn=>?_⟩
 obtain⟨H8,d,s8,u8⟩:=Gj mn [V.str "flute"]
 rw[d]
 clear d
 have se:=s7.trans s8
 have X8:QT K aB aP aM H H8 p v D [Gb ("great",1+r1),Gh ("flute",1+r2,1)] [V.ref T0,V.ref W] [("great",1+r1)] [("flute",1+r2,1)] [] [] [] [] "" 0 4 0:=⟨aC.trans se,f0,se _ _ u6,s8 _ _ u7,u8,Ne.symm (An u6 D9),Ne.symm (An (s7 _ _ u6) mn),.cons ⟨T0,rfl,se _ _ v6⟩ (.cons ⟨W,rfl,se _ _ w6⟩ .nil),W0,by show 2<=4;decide,Nat.le_refl _,Nat.le_refl _,λz=>nomatch z⟩
 refine gN (i:=6) ?_
 try dsimp only
 refine Yx (λσ' H'=>∃ (p v D:Addr) (u:List R) (l:List V) (bs:List (Str × Nat)) (Y:List (Str × Nat × Int)),Gf bs Y/\QT K aB aP aM H H' p v D u l bs Y [] [] [] [] "" 0 4 0/\σ'=[some (.ref a),some (.int U),some (.int c2),some (.int (if wd=true then 1 else 0)),some (.ref p),some (.ref v),some (.ref D),none,none,none,none,none,none]) (λD' hD=>?_) (λσ' H' h=>?_)
 ·refine⟨_,rfl,_,_,rfl,rfl,(by show (0:Int)<2;decide),rfl,_,rfl,Cr (λ_=>?_) (λ_=>hD _ _ ⟨p,v,D,_,_,_,_,.one (by omega) (by omega) (by omega) (by omega),X8,rfl⟩)⟩
  refine⟨_,rfl,_,rfl,U,_,_,rfl,by decide,by decide,by decide,λr3 KL=>⟨_,_,rfl,rfl,by show 3<=sizeLine;decide,λT2 pi=>?_⟩⟩
  obtain⟨H9,d,s9,u9⟩:=Il pi [V.str "board",.str "swell",.int (1+((r3:Nat):Int))]
  rw[d]
  clear d
  refine⟨_,rfl,_,_,rfl,rfl,⟨by decide,by decide⟩,_,_,rfl,rfl,(by show (0:Int)<12;decide),_,_,rfl,rfl,by show 4<=sizeLine;decide,λT3 MO=>?_⟩
  have g0:=Int.emod_nonneg (U / 2) (show (12:Int) ≠ 0 by decide)
  have g1:=Int.emod_lt_of_pos (U / 2) (show (0:Int)<12 by decide)
  obtain⟨r4,e4⟩:∃ r4:Nat,U / 2 % 12=(r4:Nat):=⟨_,(gx g0).symm⟩
  rw[e4] at g0 g1
  obtain⟨qA,d,aw,EJ⟩:=Il MO [V.str "rank",.str "reed",.int (1+U / 2 % 12),.int 3]
  rw[d]
  rw[e4] at EJ
  clear d e4
  refine⟨by show 2<=sizeLine;decide,λl5 xi=>?_⟩
  obtain⟨uy,d,E6,aZ⟩:=Gj xi [V.ref T2,V.ref T3]
  rw[d]
  clear d
  have ui:=s9.trans (aw.trans E6)
  refine⟨p,l5,_,_,rfl,rfl,ui _ _ X8.l,aZ,by show 4<=sizeLine;decide,λp' EN=>?_⟩
  obtain⟨GS,d,sU,Dx⟩:=Gj EN ([V.ref T0,V.ref W]++[V.ref T2,V.ref T3])
  rw[d]
  clear d
  refine⟨_,rfl,by show 1<=sizeLine;decide,λl6 vL=>?_⟩
  obtain⟨yL,d,oi,LV⟩:=Gj vL [V.str "swell"]
  rw[d]
  clear d
  have yT:=ui.trans (sU.trans oi)
  refine⟨v,l6,_,_,rfl,rfl,yT _ _ X8.b,LV,by show 2<=sizeLine;decide,λGO yo=>?_⟩
  obtain⟨xL,d,sI,a3⟩:=Gj yo ([V.str "great"]++[V.str "swell"])
  rw[show (List.map (λb=>V.str b.1) [(("great" : Str),1+r1)])=[V.str "great"] from rfl,d]
  clear d
  refine⟨_,rfl,by show 1<=sizeLine;decide,λl7 yU=>?_⟩
  obtain⟨BN,d,qv,zb⟩:=Gj yU [V.str "reed"]
  rw[d]
  clear d
  have vY:=yT.trans (sI.trans qv)
  refine⟨D,l7,_,_,rfl,rfl,vY _ _ X8.r,zb,by show 2<=sizeLine;decide,λEe sf=>?_⟩
  obtain⟨tW,d,vU,J'⟩:=Gj sf ([V.str "flute"]++[V.str "reed"])
  rw[show (List.map (λr=>V.str r.1) [(("flute" : Str),1+r2,(1:Int))])=[V.str "flute"] from rfl,d]
  clear d
  have W1:=W0.J8 F0 (t:="swell") (n:=1+r3) (gw _ (by simp)).1 (λx hx=>by rw[List.mem_singleton.mp hx];show ("great" : Str) ≠ "swell";decide) (λx hx=>by rw[List.mem_singleton.mp hx];show ("flute" : Str) ≠ "swell";decide) (by show 1<5;decide) (by omega) (by omega)
  have W2:=W1.rank F0 (t:="reed") (n:=1+r4) (wi:=3) (gw _ (by simp)).1 (λx hx=>by
   simp only[List.mem_cons,List.mem_append,List.not_mem_nil,or_false] at hx
   rcases hx with rfl | rfl
   ·show ("great" : Str) ≠ "reed";decide
   ·show ("swell" : Str) ≠ "reed";decide) (λx hx=>by rw[List.mem_singleton.mp hx];show ("flute" : Str) ≠ "reed";decide) (by show 1<12;decide) (by omega) (by omega) (by decide) (by decide)
  have xc:=vY.trans vU
  have sA:=oi.trans (sI.trans (qv.trans vU))
  have sO:=E6.trans (sU.trans sA)
  have a0:QT K aB aP aM H tW p' GO Ee _ _ [("great",1+r1),("swell",1+r3)] [("flute",1+r2,1),("reed",1+r4,3)] [] [] [] [] "" 0 4 0:=⟨X8.s.trans xc,X8.s.free (ui.free EN),sA _ _ Dx,(qv.trans vU) _ _ a3,J',Ne.symm (An (oi _ _ Dx) yo),Ne.symm (An ((oi.trans (sI.trans qv)) _ _ Dx) sf),Dm (Aq xc X8.pr) (.cons ⟨T2,rfl,(aw.trans sO) _ _ u9⟩ (.cons ⟨T3,rfl,sO _ _ EJ⟩ .nil)),W2,by show 4<=4;decide,Nat.le_refl _,Nat.le_refl _,λz=>nomatch z⟩
  exact hD _ _ ⟨p',GO,Ee,_,_,_,_,.two (by omega) (by omega) (by omega) (by omega) (by omega) (by omega) (by omega) (by omega),a0,rfl⟩
 obtain⟨p,v,D,u,l,bs,Y,B,X,rfl⟩:=h
 obtain⟨Sl,Sz,SB,Sc⟩:=B.len
 generalize (if wd=true then (1:Int) else 0)=wv
 have e0:∀ i:Nat,(0:Int)+(i:Int)=((i:Nat):Int):=λi=>by omega
 have J:(bs.map λb=>V.str b.1).length=bs.length:=af ..
 have as:(Y.map λr=>V.str r.1).length=Y.length:=af ..
 have C:∀ (w:Str) (n:Nat),(nms w n).length=n:=λw n=>by unfold nms;rw[List.length_map,List.length_range]
 refine⟨_,rfl,c2,_,_,rfl,by decide,by decide,by decide,λk1 a4=>⟨_,_,rfl,rfl,_,rfl,by omega,by omega,?_⟩⟩
 have q1:1<=(1+(k1:Int)).toNat:=by omega
 have q5:(1+(k1:Int)).toNat<=5:=by omega
 generalize (1+(k1:Int)).toNat=L at q1 q5 |-
 refine Ex (lo:=0) (n:=L) (λi σ F=>∃ (u:List R) (l:List V) (f:List Kb) (M:List (List Ln)) (bd:Str) (S v8 v9 rz:Option V),QT K aB aP aM H F p v D u l bs Y (nms "stop" i) f M [] bd 0 (4+3 * i) 0/\σ=[some (.ref a),some (.int U),some (.int c2),some (.int wv),some (.ref p),some (.ref v),some (.ref D),S,v8,v9,rz,none,none]) ⟨u,l,[],[],_,_,_,_,_,X,rfl⟩ ?_ ?_
 ·rintro i σ F hi ⟨u,l,f,M,bd,S,v8,v9,rz,X,rfl⟩
  rw[e0]
  have ac:i<5:=by omega
  have nk:f.length=i:=by rw[X.nk,C]
  refine⟨_,rfl,_,rfl,_,rfl,_,_,rfl,rfl,_,rfl,v,_,rfl,iO (.inl X.b),_,_,_,rfl,by rw[J];omega,by decide,by decide,λb O=>?_⟩
  have O:b<bs.length:=by rw[J] at O;omega
  obtain⟨rS,zy,AA,aN⟩:=B.nb O
  refine⟨v,_,_,_,rfl,rfl,iO X.b,Ai (W_ O),?_⟩
  refine⟨_,rfl,.inl ⟨rfl,_,iO X.l⟩,_,rfl,_,_,_,rfl,rfl,FP (by decide),qj i (by omega),_,_,rfl,rfl,FP (by show 4+1<=1000;decide),_,rfl,by show 3<=sizeLine;decide,λT hT=>?_⟩
  obtain⟨H1,d,G,Z⟩:=Il hT [V.str "stop",.str (Ip "stop" i),.str (nB bs b)]
  rw[d]
  clear d
  refine⟨p,_,_,rfl,rfl,G _ _ X.l,Ax (by have:=X.t;omega),?_⟩
  obtain⟨f1,f2,f3⟩:=B.fr (dX i ac)
  have f4:Ip "stop" i ∉ nms "stop" i:=λz=>by
   obtain⟨j,hj,e⟩:=HQ.mp z
   have:=gJ i (by omega) j (by omega) e
   omega
  have Wn:=X.w.stop F0 f1 O rS f2 f3 f4 (by have:=ck (Em "stop") f;omega) (by omega)
  have X1:=X.app (T:=T) G Z Wn (YW X.m (by show ("stop" : Str) ≠ "mute";decide)) (Nat.le_refl _) (λ_=>by
   by_cases h0:0<f.length
   ·exact PN X.z h0 _ (by rw[ah];exact ax h0 (iL _ _))
   ·rw[List.length_eq_zero_iff.mp (by omega:f.length=0)]
    exact⟨b,rfl⟩)
  have W:=X.w.tl (Ip "stop" i) (nB bs b)
  rw[<-J7] at X1
  generalize upd H1 p (HO.lst (l++[V.ref T]))=H2 at X1 |-
  generalize f++[Kb.pl "stop" b]=al at X1
  generalize l++[V.ref T]=aK at X1
  generalize u++[(⟨"stop",Ip "stop" i,[V.str (nB bs b)]⟩:R)]=R1 at X1 W
  clear Wn f1 f2 f3 f4 G Z hT X nk
  refine⟨_,rfl,_,rfl,_,_,rfl,rfl,.inl ⟨by omega,by omega⟩,_,_,rfl,rfl,_,_,_,rfl,by decide,by decide,by decide,λk2 Ap=>⟨_,rfl,by omega,by omega,?_⟩⟩
  have q2:((k2:Nat):Int).toNat<=2:=by omega
  generalize ((k2:Nat):Int).toNat=n2 at q2 |-
  refine Ex (lo:=0) (n:=n2) (λj σ F=>∃ (u:List R) (l:List V) (l0:List Ln) (v9 rz:Option V),QT K aB aP aM H F p v D u l bs Y (nms "stop" (i+1)) al (M++[l0]) [] (nB bs b) 0 (4+3 * i+1+j) 0/\Tl (Dg ([],"") u) (nB bs b) j/\l0.length=j/\σ=[some (.ref a),some (.int U),some (.int c2),some (.int wv),some (.ref p),some (.ref v),some (.ref D),some (.int (i:Nat)),some (.str (nB bs b)),v9,rz,none,none]) ⟨R1,aK,[],_,_,X1,W,rfl,rfl⟩ ?_ ?_
  ·rintro j σ F hj ⟨u,l,l0,v9,rz,X,W,sk,rfl⟩
   rw[e0]
   refine⟨_,rfl,_,rfl,_,rfl,_,_,rfl,rfl,.inl ⟨by omega,by omega⟩,_,_,rfl,rfl,_,rfl,_,_,rfl,rfl,_,rfl,D,_,rfl,iO (.inl X.r),_,_,_,rfl,by rw[as];omega,by decide,by decide,λg hg=>?_⟩
   have hg:g<Y.length:=by rw[as] at hg;omega
   have zn:=ae hg
   have ET:=B.r _ (av zn)
   generalize Y[g]=rr at zn ET
   obtain⟨t,m,wi⟩:=rr
   refine⟨D,_,_,.str t,rfl,rfl,iO X.r,Ai (by rw[ar,zn];rfl),?_⟩
   refine⟨_,rfl,.inl ⟨rfl,_,iO X.l⟩,_,rfl,_,rfl,_,rfl,_,_,rfl,rfl,.inl ⟨by omega,by omega⟩,_,_,rfl,rfl,_,rfl,_,_,rfl,rfl,_,_,_,rfl,by decide,by decide,by decide,λsh a2=>⟨_,_,rfl,rfl,by show 5<=sizeLine;decide,λT hT=>?_⟩⟩
   obtain⟨H1,d,G,Z⟩:=Il hT [V.str "line",.str t,.int (((sh:Nat):Int) - 3),.int 0,.int 0]
   rw[d]
   clear d
   refine⟨p,_,_,rfl,rfl,G _ _ X.l,Ax (by have:=X.t;omega),?_⟩
   obtain⟨W1,T2⟩:=X.w.line F0 W (by omega) (by omega) (sh:=((sh:Nat):Int) - 3) zn B.nd.2 B.nd.1 (gw t ET.1).1 zy AA aN (by omega) (by omega)
   exact⟨_,_,_,_,_,X.app (T:=T) G Z W1 X.m X.c X.z,T2,by rw[ah,sk];rfl,rfl⟩
  rintro σ F ⟨u,l,l0,v9,rz,X,W,sk,rfl⟩
  exact⟨u,l,al,_,_,_,_,_,_,{ X with t:=by have:=X.t;omega },rfl⟩
 rintro σ F ⟨u,l,f,M,bd,S,v8,v9,rz,X,rfl⟩
 have l0:f.length=L:=by rw[X.nk,C]
 refine⟨_,rfl,c2,_,_,rfl,by decide,by decide,by decide,λk2 Ap=>⟨_,rfl,by omega,by omega,?_⟩⟩
 have q3:((k2:Nat):Int).toNat<=3:=by omega
 generalize ((k2:Nat):Int).toNat=n3 at q3 |-
 refine Ex (lo:=0) (n:=n3) (λi σ F=>∃ (u:List R) (l:List V) (f:List Kb) (M:List (List Ln)) (S ye xW:Option V),QT K aB aP aM H F p v D u l bs Y (nms "stop" L++nms "join" i) f M [] bd 0 (4+3 * L+i) 0/\σ=[some (.ref a),some (.int U),some (.int c2),some (.int wv),some (.ref p),some (.ref v),some (.ref D),S,v8,v9,rz,ye,xW]) ⟨u,l,f,M,_,_,_,(by rw[show nms "join" 0=[] from rfl,List.append_nil];exact X),rfl⟩ ?_ ?_
 ·clear X l0
  rintro i σ F hi ⟨u,l,f,M,S,ye,xW,X,rfl⟩
  rw[e0]
  have ac:i<3:=by omega
  have nk:f.length=L+i:=by rw[X.nk,ah,C,C]
  refine⟨_,rfl,_,rfl,_,rfl,_,_,rfl,rfl,_,rfl,v,_,rfl,iO (.inl X.b),_,_,_,rfl,by rw[J];omega,by decide,by decide,λb O=>?_⟩
  have O:b<bs.length:=by rw[J] at O;omega
  refine⟨v,_,_,_,rfl,rfl,iO X.b,Ai (W_ O),?_⟩
  refine⟨_,rfl,_,rfl,_,rfl,_,_,rfl,rfl,.inl ⟨by omega,by omega⟩,_,_,rfl,rfl,_,rfl,v,_,rfl,iO (.inl X.b),_,_,_,rfl,by rw[J];omega,by decide,by decide,λb' ab=>?_⟩
  have ab:b'<bs.length:=by rw[J] at ab;omega
  refine⟨v,_,_,_,rfl,rfl,iO X.b,Ai (W_ ab),?_⟩
  refine⟨_,rfl,.inl ⟨rfl,_,iO X.l⟩,_,rfl,_,_,_,rfl,rfl,FP (by decide),qU i (by omega),_,_,rfl,rfl,FP (by show 4+1<=1000;decide),_,rfl,_,rfl,_,rfl,_,rfl,_,_,rfl,rfl,.inl ⟨by omega,by omega⟩,_,_,rfl,rfl,_,_,_,rfl,by decide,by decide,by decide,λsh a2=>⟨_,_,rfl,rfl,by show 5<=sizeLine;decide,λT hT=>?_⟩⟩
  obtain⟨H1,d,G,Z⟩:=Il hT [V.str "coupler",.str (Ip "join" i),.str (nB bs b),.str (nB bs b'),.int (((sh:Nat):Int) - 2)]
  rw[d]
  clear d
  refine⟨p,_,_,rfl,rfl,G _ _ X.l,Ax (by have:=X.t;omega),?_⟩
  obtain⟨f1,f2,f3⟩:=B.fr (iT i ac)
  have f4:Ip "join" i ∉ nms "stop" L++nms "join" i:=λz=>by
   rcases aI.mp z with z | z
   ·obtain⟨j,hj,e⟩:=HQ.mp z
    exact (Oi i (by omega) j (by omega)).1 e
   ·obtain⟨j,hj,e⟩:=HQ.mp z
    have:=au i (by omega) j (by omega) e
    omega
  have Wn:=X.w.pO F0 (s:=((sh:Nat):Int) - 2) f1 O (B.nb O).1 ab (B.nb ab).1 f2 f3 f4 (by have:=ck (Em "coupler") f;omega) (by omega) (by omega) (by omega)
  have X1:=X.app (T:=T) G Z Wn (YW X.m (by show ("coupler" : Str) ≠ "mute";decide)) (Nat.le_refl _) (PN X.z (by omega) _)
  rw[ge,<-J7] at X1
  exact⟨_,_,_,_,_,_,_,X1,rfl⟩
 clear X l0
 rintro σ F ⟨u,l,f,M,S,ye,xW,X,rfl⟩
 refine⟨_,rfl,c2,_,_,rfl,by decide,by decide,by decide,λk3 RS=>⟨_,rfl,by omega,by omega,?_⟩⟩
 have q4:((k3:Nat):Int).toNat<=2:=by omega
 generalize ((k3:Nat):Int).toNat=n4 at q4 |-
 refine Ex (lo:=0) (n:=n4) (λi σ F=>∃ (u:List R) (l:List V) (f:List Kb) (M:List (List Ln)) (S:Option V),QT K aB aP aM H F p v D u l bs Y (nms "stop" L++nms "join" n3++nms "mute" i) f M [] bd i (4+3 * L+n3+i) 0/\σ=[some (.ref a),some (.int U),some (.int c2),some (.int wv),some (.ref p),some (.ref v),some (.ref D),S,v8,v9,rz,ye,xW]) ⟨u,l,f,M,_,(by rw[show nms "mute" 0=[] from rfl,List.append_nil];exact X),rfl⟩ ?_ ?_
 ·clear X
  rintro i σ F hi ⟨u,l,f,M,S,X,rfl⟩
  rw[e0]
  have ac:i<2:=by omega
  have nk:f.length=L+n3+i:=by rw[X.nk,ah,ah,C,C,C]
  have O:i % bs.length<bs.length:=Nat.mod_lt _ (by omega)
  refine⟨_,rfl,.inl ⟨rfl,_,iO X.l⟩,_,rfl,_,_,_,rfl,rfl,FP (by decide),qW i (by omega),_,_,rfl,rfl,FP (by show 4+1<=1000;decide),_,rfl,_,rfl,_,rfl,v,_,rfl,iO (.inl X.b),_,_,rfl,rfl,(by rw[J];omega),v,_,_,_,rfl,rfl,iO X.b,(by rw[J];exact Ai (j:=i % bs.length) (W_ O)),by show 3<=sizeLine;decide,λT hT=>?_⟩
  obtain⟨H1,d,G,Z⟩:=Il hT [V.str "mute",.str (Ip "mute" i),.str (nB bs (i % bs.length))]
  rw[d]
  clear d
  refine⟨p,_,_,rfl,rfl,G _ _ X.l,Ax (by have:=X.t;omega),?_⟩
  obtain⟨f1,f2,f3⟩:=B.fr (fB i ac)
  have f4:Ip "mute" i ∉ nms "stop" L++nms "join" n3++nms "mute" i:=λz=>by
   rcases aI.mp z with z | z
   ·rcases aI.mp z with z | z
    ·obtain⟨j,hj,e⟩:=HQ.mp z
     exact (Oi i (by omega) j (by omega)).2.1 e
    ·obtain⟨j,hj,e⟩:=HQ.mp z
     exact (Oi i (by omega) j (by omega)).2.2 e
   ·obtain⟨j,hj,e⟩:=HQ.mp z
    have:=ZF i (by omega) j (by omega) e
    omega
  have Wn:=X.w.nO F0 f1 O (B.nb O).1 f2 f3 f4 (by have:=X.m;omega) (by omega)
  have X1:=X.app (T:=T) G Z Wn (cI X.m _) (ai _) (PN X.z (by omega) _)
  rw[ge,<-J7] at X1
  exact⟨_,_,_,_,_,X1,rfl⟩
 clear X
 rintro σ F ⟨u,l,f,M,S,X,rfl⟩
 have nk:f.length=L+n3+n4:=by rw[X.nk,ah,ah,C,C,C]
 have ap:∃ k∈KZ bs (nms "stop" L++nms "join" n3++nms "mute" n4) f,k.w = "stop" /\ k.nm = "stopa":=by
  obtain⟨b,e⟩:=X.z (by omega)
  have e2:(nms "stop" L++nms "join" n3++nms "mute" n4)[0]? = some ("stopa" : Str):=by
   rw[ge,dL (by rw[C];omega)]
   unfold nms
   rw[ar,List.getElem?_range (by omega)]
   exact congrArg some iV
  refine⟨kR (nB bs) "stopa" (.pl "stop" b),?_,rfl,rfl⟩
  unfold KZ
  exact av (i:=0) (by rw[fw,e2,e])
 have a1:isNm "stopa":=((gw "great" (by simp)).2 "stopa" (by simp[RN])).1
 have nl:(nms "stop" L++nms "join" n3++nms "mute" n4).length<=10:=by rw[<-X.nk];omega
 generalize nms "stop" L++nms "join" n3++nms "mute" n4=NM at X ap nl
 refine⟨_,rfl,c2,_,_,rfl,by decide,by decide,by decide,λk4 Sa=>⟨_,rfl,by omega,by omega,?_⟩⟩
 have q6:((k4:Nat):Int).toNat<=2:=by omega
 generalize ((k4:Nat):Int).toNat=n5 at q6 |-
 refine Ex (lo:=0) (n:=n5) (λi σ F=>∃ (u:List R) (l:List V) (d0:List Nat) (S:Option V),QT K aB aP aM H F p v D u l bs Y NM f M d0 bd n4 (4+3 * L+n3+n4+i) i/\σ=[some (.ref a),some (.int U),some (.int c2),some (.int wv),some (.ref p),some (.ref v),some (.ref D),S,v8,v9,rz,ye,xW]) ⟨u,l,[],_,X,rfl⟩ ?_ ?_
 ·clear X
  rintro i σ F hi ⟨u,l,d0,S,X,rfl⟩
  refine⟨_,rfl,.inl ⟨rfl,_,iO X.l⟩,by show 2<=sizeLine;decide,λT hT=>?_⟩
  obtain⟨H1,d,G,Z⟩:=Il hT [V.str "step",.str "stopa"]
  rw[d]
  clear d
  refine⟨p,_,_,rfl,rfl,G _ _ X.l,Ax (by have:=X.t;omega),?_⟩
  obtain⟨z,Wn⟩:=X.w.step F0 a1 ap (by have:=X.c;omega)
  exact⟨_,_,_,_,X.app (T:=T) G Z Wn X.m (by rw[ah];have:=X.c;exact dr this) X.z,rfl⟩
 clear X
 rintro σ F ⟨u,l,d0,S,X,rfl⟩
 exact⟨_,rfl,q p v D u l bs Y NM f M d0 bd F B nl { X with t:=by have:=X.t;omega,m:=by have:=X.m;omega,c:=by have:=X.c;omega }⟩
inductive S5 (K:W.Frag) (B:Mw) (vs:List V) (H:Hp) (Q:VK) (a8:XK):Prop
 | mk (a:Addr) (ns:List Int):vs=[.ref a]->CV K H a (ns.map V.int)->ns.length<=63->Tb B H->(∀ H',Q (.bl true) H')->S5 K B vs H Q a8
theorem Tn {B:Mw} {x:Addr} {bs:List (Str × Nat)} (k:Kp B H H') (O:Cm C H x bs rk ks ls):Cm C H' x bs rk ks ls:=by
 have b:∀ {d:List V} {y:V},TupAt H d y->TupAt H' d y:=λh=>by
  obtain⟨T,rfl,J⟩:=h
  exact⟨T,rfl,k _ _ (λ_ z=>by cases z) J⟩
 have a:∀ {l:Addr} {f:List V},H l=some (.lst f)->H' l=some (.lst f):=λh=>k _ _ (λ_ z=>by cases z) h
 obtain⟨⟨⟨i,fs,P,n,kp,kr,W,K,X,c,h1,w,S,l3,l4,lm,h2,h3,L,q,h6,Z,Y,h9⟩,a1,a2,a3⟩,⟨so,t,m,j,pp,IT,N,s,kN,M,G,m2,D,p,g2,g,F,I,R,o,r,u,U⟩,b1,b2,b3⟩:=O
 refine⟨⟨⟨i,fs,P,n,kp,kr,W,K,X,c,k _ _ (λ_ z=>by cases z) h1,w,S,l3,l4,lm,a h2,Paired.Fg h3 λ_ _=>b,k _ _ (λ_ z=>by cases z) L,q,a h6,Paired.Fg Z λ_ _=>b,a Y,Paired.Fg h9 λ_ _=>b⟩,a1,a2,a3⟩,⟨so,t,m,j,pp,IT,N,s,kN,k _ _ (λ_ z=>by cases z) M,G,m2,D,p,a g2,Paired.Fg g λ_ _=>b,k _ _ (λ_ z=>by cases z) F,I,a R,Paired.Fg o λ_ _=>b,r,a u,Paired.Fg U λl v h=>?_⟩,b1,b2,b3⟩
 obtain⟨A,ts,e,E,Q⟩:=h
 exact⟨A,ts,e,a E,Paired.Fg Q λ_ _=>b⟩
def c9 (bs:List (Str × Nat)) (nms:List Str):Nat->Str:=λj=>if j<30 then nB bs j else nms.getD (j - 30) ""
theorem qZ {bs:List (Str × Nat)} (nms:List Str) (h:bs.length<=3):Bl (c9 bs nms) (bs.map (·.2))=bs:=by
 refine ff λi=>?_
 by_cases a:i<bs.length
 ·have b:(bs.map (·.2))[i]? = some (zB bs i):=by rw[ar,NP a];rfl
  rw[FN b,NP a]
  show some (c9 bs nms i,zB bs i)=some (nB bs i,zB bs i)
  unfold c9
  rw[if_pos (by omega)]
 ·rw[dQ (by rw[UG,af];omega),dQ (by omega)]
theorem qu {bs:List (Str × Nat)} {nms:List Str} (h:bs.length<=3) (l:nms.length=kbs.length) (k:∀ z∈kbs,z.ok bs.length):Cw (c9 bs nms) kbs=KZ bs nms kbs:=by
 refine ff λi=>?_
 unfold KZ
 by_cases g:i<kbs.length
 ·have j:=ae g
  have c:nms[i]? = some nms[i]:=ae (by omega)
  rw[FT j,fw,j,c]
  have f:c9 bs nms (30+i)=nms[i]:=by
   unfold c9
   rw[if_neg (by omega),Nat.add_sub_cancel_left,aE,c]
   rfl
  have d:∀ {b:Nat},b<bs.length->c9 bs nms b=nB bs b:=λ{b} m=>by
   unfold c9
   rw[if_pos (by omega)]
  have a:=k _ (zdl g)
  show some (WK (c9 bs nms) i kbs[i])=some (kR (nB bs) nms[i] kbs[i])
  generalize kbs[i]=z at a
  cases z with
  | cp p q s =>
   show some (⟨"coupler",c9 bs nms (30+i),[.str (c9 bs nms p),.str (c9 bs nms q),.int s]⟩:R)=some ⟨"coupler",nms[i],[.str (nB bs p),.str (nB bs q),.int s]⟩
   rw[f,d a.1,d a.2.1]
  | pl e p =>
   show some (⟨e,c9 bs nms (30+i),[.str (c9 bs nms p)]⟩:R)=some ⟨e,nms[i],[.str (nB bs p)]⟩
   rw[f,d a.1]
 ·rw[dQ (by rw[M7];omega),dQ (by rw[gu];omega)]
theorem Ru {Q:VK} {lo:Int} (z:n<sizeLine)
  (p:∀ i:Nat,i<n->∀ H,Aj H1 H->∀ R:Bool->Hp->Prop,(∀ H',Aj H H'->R true H')->tt (some (.int (lo+i))::σ) H R)
  (u:∀ i:Nat,i<n->∀ H,Aj H1 H->∀ R:VK,(∀ (r:Int) H',Aj H H'->R (.int r) H')->te (some (.int (lo+i))::σ) H R)
  (v:∀ D H (l:List Int),H1 D=none->Aj H1 H->H D=some (.lst (l.map V.int))->l.length=n->Q (.ref D) H):D_ (YB lo n) σ H1 Q tt te:=by
 intro D f
 have t:Aj H1 (upd H1 D (.lst [])):=λb o e=>by rw[Aw (An e f)];exact e
 refine⟨λi m d H=>m=n - i/\i<=n/\Aj H1 H/\∃ l:List Int,d=l.map V.int/\H D=some (.lst d)/\l.length=i,⟨n,by simp,Nat.zero_le _,t,[],rfl,Al,rfl⟩,?_⟩
 rintro i m d H ⟨rfl,x,c,l,rfl,h,k⟩
 by_cases a:i<n
 ·refine .inr ⟨a,λy A q=>?_⟩
  obtain⟨rfl,rfl⟩:=q
  refine p i a _ c _ λs g=>?_
  rw[if_pos rfl]
  refine u i a s (c.trans g) _ λr w j=>?_
  refine⟨j _ _ (g _ _ h),by rw[af];omega,n - (i+1),by omega,rfl,a,λb o e=>?_,l++[r],by rw[db];rfl,Al,by rw[ah,k];rfl⟩
  rw[Aw (An e f)];exact j _ _ (g _ _ (c _ _ e))
 ·have e:i=n:=by omega
  subst e
  exact .inl ⟨ai _,v D H l f c h k⟩
theorem UL {ms ms':List Int} {f c:Nat} (h:∀ x:Int,x<((f+c:Nat):Int)->(x∈ms ↔ x∈ms')):∀ n,n∈Mf ms f c ↔ n∈Mf ms' f c:=λn=>by
 rw[GP,GP]
 constructor
 ·rintro⟨a,b⟩
  exact⟨a,(h _ (by omega)).mp b⟩
 ·rintro⟨a,b⟩
  exact⟨a,(h _ (by omega)).mpr b⟩
theorem Q3 {c:Nat->Str} {sz:List Nat} {u ts:List T3} {d:Int} {p o:Nat} (e:∀ x:Int,x<((sz.sum+kbs.length:Nat):Int)->(Fl u x d ↔ Fl ts x d)) (h:Vc c sz rk kbs ls u d p) (g:Vc c sz rk kbs ls ts d o):p=o:=by
 obtain⟨b,D,m,E,I,H,rfl⟩:=h
 obtain⟨a,C,B,y,v,F,rfl⟩:=g
 have t:∀ x:Int,x<((sz.sum+kbs.length:Nat):Int)->(x∈b ↔ x∈a):=λx r=>by rw[E,y,e x r]
 have q:=UL (f:=sz.sum) (c:=kbs.length) t
 have z:=UL (ms:=b) (ms':=a) (f:=0) (c:=sz.sum) λx r=>t x (by omega)
 have G:Wd.mk (Mf b sz.sum kbs.length)=Wd.mk (Mf a sz.sum kbs.length):=fF λk=>by
  rw[Wd.Ec,Wd.Ec]
  exact decide_eq_decide.mpr (q k)
 have w:Wd.mk (Mf b 0 sz.sum)=Wd.mk (Mf a 0 sz.sum):=fF λk=>by
  rw[Wd.Ec,Wd.Ec]
  exact decide_eq_decide.mpr (z k)
 have A:m=B:=fF λj=>by
  rw[cw,H,F,G,w]
 subst A
 have s:∀ k,k∈D ↔ k∈C:=λk=>by
  rw[I,v]
  simp only[q]
 refine fF λj=>?_
 rw[cw]
 unfold jP
 rw[Qh,Qh]
 simp only[List.mem_map]
 constructor
 ·rintro⟨n,⟨k,l,e⟩,i⟩
  exact⟨n,⟨k,(s k).mp l,e⟩,i⟩
 ·rintro⟨n,⟨k,l,e⟩,i⟩
  exact⟨n,⟨k,(s k).mpr l,e⟩,i⟩
theorem Nm:∀ (s:Ws) (l:List R),(Dg s l).length=l.length
 | _,[]=>rfl
 | s,r::l=>by
  show (Dg (Gk s r) l).length+1=_
  rw[Nm]
  rfl
theorem Gf.sum {bs:List (Str × Nat)} (h:Gf bs rk):1<=(bs.map (·.2)).sum/\(bs.map (·.2)).sum<=122:=by
 cases h with
 | @one n m a b=>exact⟨by show 1<=n+0;omega,by show n+0<=122;omega⟩
 | @two n m e f a b _ _ c d=>exact⟨by show 1<=n+(e+0);omega,by show n+(e+0)<=122;omega⟩
theorem Gm.fin {K:W.Frag} {c:List R} {bs:List (Str × Nat)} {a:List Str} {f:List Nat} {k:Str} (h:Gm K aB aP aM c bs rk a kbs ls f k) (B:Gf bs rk) (p:a.length<=10) (d:c.length<=40) (n:Paired (λ(r:R) v=>TupAt H r.v v) (Dg ([],"") c) vs):Rows H (Lq H) vs/\n_ K aB aP aM (Lq H) vs bs rk (KZ bs a kbs)/\linesOf rk (vs.map (Lq H))=ls/\((vs.filter (pw (Lq H) "step")).map λv=>stN (KZ bs a kbs) (Lq H v))=f:=by
 have g:(KZ bs a kbs).length=kbs.length:=by
  unfold KZ
  rw[gu,h.nl]
  exact Nat.min_self _
 obtain⟨m,o,q,s⟩:=B.len
 refine h.bl.fin n m (by omega) (λb j=>(B.b b j).2.2) (by omega) (λr d=>(B.r r d).2.2) (by have:=h.nl;omega) B.nd.1 B.nd.2 ?_ (by rw[Nm];omega)
 have e:(KZ bs a kbs).map (·.nm)=a:=by
  refine ff λi=>?_
  unfold KZ
  rw[ar,fw]
  by_cases l:i<a.length
  ·rw[ae l,ae (by have:=h.nl;omega:i<kbs.length)]
   exact congrArg some (Td _ _ _)
  ·rw[dQ (by omega:a.length<=i)]
   rfl
 rw[e]
 exact h.nd
theorem X_:(Dy xs (some 2) (some 34)).length<=32:=by
 unfold Dy
 rw[List.length_take,List.length_drop,show (some 2:Option Int)=some ((2:Nat):Int) from rfl,show (some 34:Option Int)=some ((34:Nat):Int) from rfl,HT.Fj,HT.Fj]
 omega
theorem XQ {a b:Option Int} {v:V} (h:v∈Dy xs a b):v∈xs:=List.mem_of_mem_drop (fE h)
theorem Lx {r:Addr} {len:Int} {a:List Ro.T3} (h:Hu H r len a) (s:Aj H H'):Hu H' r len a:=by
 obtain⟨p,b,e,A⟩:=h
 exact⟨p,b,s _ _ e,A.mono s⟩
theorem Zf {B:Mw} {r:Addr} {len:Int} {a:List Ro.T3} (h:Hu H r len a) (k:Kp B H H'):Hu H' r len a:=by
 obtain⟨p,b,e,A⟩:=h
 exact⟨p,b,k _ _ (λ_ z=>by cases z) e,Dd.kp A k⟩
theorem Gr:Av i0 lT (Ae JR):=Bh
theorem cD (F:Cg K "law" "law" JR f fd) (N:Zk K mg C c1 aD) (T:Txt K w.params mg C aN aK aB aP aM) (K1:Jk mg base c1 P1) (F0:WW K aB aP aM):Ar P w K mg base BW 11 f fd lT (S5 K (tb P1)):=by
 have al:Ar P w K mg base BW 5 aD.fR1 aD.dR1 kf (Ro.Jv (tb P1)):=jL N T K1
 refine F.Dp Gr λH vs Q E m h=>?_
 obtain⟨a,ns,rfl,hS,a2,rW,q⟩:=h
 have hu:=Fz m
 refine⟨_,(@Af _ _ _ _ _ (@Bq _ _ _ _ _ _ 1 Gr.nd rfl (Or.inl rfl) (X6 N.FOi.2.2 (jK N T) m rfl T.mC N.FOi.2.1 .nil Ao (@Ay _ _ _ _ _ rfl (zC (dY N T) m rfl N.FWx (@Ay _ _ _ _ _ rfl (zC (fu N T) m rfl N.FLg (@Ay _ _ _ _ _ rfl (pv 0) Ab)) Ab)) Ab)) (by kernel_rfl) (.inl rfl))
  (@Af _ _ _ _ _ (@Bq _ _ _ _ _ _ 2 Gr.nd rfl (Or.inr rfl) (BL Bm (Ce (pv 1) T.cl N.FOc.2.2 (Mm N T) (ad m) N.FOc.2.1 .nil Ao) (BJ BR rfl T.len cq (@Ay _ _ _ _ _ rfl (Ce (pv 1) T.cl N.FOz.2.2 (Qw N T) (ad m) N.FOz.2.1 .nil Ao) Ab))) (by kernel_rfl) (.inl rfl))
  (@Af _ _ _ _ _ (HB (i:=3) Gr.nd rfl rfl rfl (BP (osc:=Ae JR) (N:=i0) rfl rfl (by decide)) (Bc (Ek JT (pv 0) (Ew Ac) (Ew Ac))) (λ_ _ _ _=>By) (λ_ _ _ _=>(zC (fM N T) m rfl N.FSn (@Ay _ _ _ _ _ rfl (pv 3) (@Ay _ _ _ _ _ rfl (pv 0) Ab)))))
  (@Af _ _ _ _ _ (@Bq _ _ _ _ _ _ 4 Gr.nd rfl (Or.inl rfl) (zC al m rfl N.FR1 (@Ay _ _ _ _ _ rfl Ac (@Ay _ _ _ _ _ rfl (DR DY rfl T.list dc (@Ay _ _ _ _ _ rfl (pv 3) Ab)) Ab))) (by kernel_rfl) (.inl rfl))
  (@Af _ _ _ _ _ (@Bq _ _ _ _ _ _ 5 Gr.nd rfl (Or.inl rfl) (@CN _ _ _ _ _ (@Ay _ _ _ _ _ rfl Ac (@Ay _ _ _ _ _ rfl (DR DY rfl T.list dc (@Ay _ _ _ _ _ rfl (@A_ _ _ _ _ _ _ _ (Am (K:=K) rfl) (pv 4) Ac (λ_ _=>rfl)) Ab)) Ab))) (by kernel_rfl) (.inl rfl))
  (@Af _ _ _ _ _ (@Bq _ _ _ _ _ _ 6 Gr.nd rfl (Or.inl rfl) (BL Lz (@Dk _ _ _ _ (@Ay _ _ _ _ _ rfl (J2 Hj Ac) (@Ay _ _ _ _ _ rfl Ac (@Ay _ _ _ _ _ rfl Ac (@Ay _ _ _ _ _ rfl Ac Ab))))) (Bj rfl (BP (osc:=Ae JR) (N:=i0) rfl rfl (by decide)) (DX rfl T.range (@Ay _ _ _ _ _ rfl Ac Ab)) (λ_ _ _ _=>By) (λ_ _ _ _=>(zC (T_ N T) m rfl N.FMi (@Ay _ _ _ _ _ rfl (BL Bm (zC (Yh N T) m rfl N.FCe (@Ay _ _ _ _ _ rfl (pv 1) (@Ay _ _ _ _ _ rfl Ac Ab))) (BL Fv Ac (pv 0))) (@Ay _ _ _ _ _ rfl Ac (@Ay _ _ _ _ _ rfl Ac Ab))))))) (by kernel_rfl) (.inl rfl))
  (@Af _ _ _ _ _ (Cv PassesOwn.never rfl (Bc (pv 6)) (Bp (i:=7) Gr.nd rfl (Or.inl rfl)) (@Af _ _ _ _ _ (@Bq _ _ _ _ _ _ 8 Gr.nd rfl (Or.inl rfl) (zC (dC N T) m rfl N.FSa (@Ay _ _ _ _ _ rfl (pv 1) (@Ay _ _ _ _ _ rfl (pv 4) (@Ay _ _ _ _ _ rfl (pv 7) Ab)))) (by kernel_rfl) (.inl rfl))
  (@Ag _ _ _ (@Bv _ _ _ _ _ _ _ _ (PW.pt (G4 (DP (Dl (zC (gr N T) m rfl N.FLw (@Ay _ _ _ _ _ rfl (pv 8) Ab)))) (Ga (BV KR (pv 8) (zC (iG N T) m rfl N.FDu (@Ay _ _ _ _ _ rfl (pv 1) (@Ay _ _ _ _ _ rfl (pv 3) (@Ay _ _ _ _ _ rfl (pv 7) Ab)))) (Ba _))))) (@Ag _ _ _ (@Az _ _ _ _ Jq)) Bf))))
  (@Af _ _ _ _ _ (HB (i:=9) Gr.nd rfl rfl rfl (BP (osc:=Ae JR) (N:=i0) rfl rfl (by decide)) (Bc (pv 3)) (λ_ _ _ _=>(FQ (BV Fd (@A_ _ _ _ _ _ _ _ (Am (K:=K) rfl) (pv 0) Ac (λ_ _=>rfl)) (pv 3) (Ba _)))) (λ_ _ _ _=>(pv 0)))
  (@Af _ _ _ _ _ (Cv PassesOwn.never rfl (Bc (pv 6)) (Bp (i:=7) Gr.nd rfl (Or.inl rfl)) (@Ag _ _ _ (@Bv _ _ _ _ _ _ _ _ (BV KR (zC (dC N T) m rfl N.FSa (@Ay _ _ _ _ _ rfl (pv 1) (@Ay _ _ _ _ _ rfl (zC al m rfl N.FR1 (@Ay _ _ _ _ _ rfl Ac (@Ay _ _ _ _ _ rfl (pv 9) Ab))) (@Ay _ _ _ _ _ rfl (pv 7) Ab)))) (zC (dC N T) m rfl N.FSa (@Ay _ _ _ _ _ rfl (pv 1) (@Ay _ _ _ _ _ rfl (pv 4) (@Ay _ _ _ _ _ rfl (pv 7) Ab)))) (Ba _)) (@Ag _ _ _ (@Az _ _ _ _ Jq)) Bf)))
  (@Ag _ _ _ (@Az _ _ _ _ (Ef (PL (bv (Nat.add_le_add_left (by decide:8<=64) _) m.units)) (pv 4) (pv 5) (Ba _))))))))))))),?_⟩
 refine⟨_,rfl,a,ns,rfl,hS,F0,λp pb pr R0 us bs rk nm d ls d0 bd H9 B nl X=>?_⟩
 refine⟨p,R0,us,rfl,iO X.l,X.pr,by have:=X.t;omega,X.w.ok,λD ws qA hD as aC FK=>?_⟩
 obtain⟨RW,O9,eL,eS⟩:=X.w.fin B nl (by rw[X.pr.length];exact X.t) FK
 intro x dx nx FO Pp
 have sx:Aj qA (upd (upd qA dx (.own x)) x (.ins C dx [])):=λb o e=>by
  rw[Aw (An e nx),Aw (An e FO)]
  exact e
 refine⟨x,dx,D,ws,Lq qA,_,_,_,rfl,Al,sx _ _ aC,RW.mono sx,O9,λuy OX _ EB=>⟨rfl,?_⟩⟩
 have OA:=OX.o
 rw[eL] at OA
 have G:Aj qA uy:=λb o e=>EB b o (sx b o e) (An e nx)
 have Y:Aj H uy:=X.s.trans (as.trans G)
 clear EB sx nx FO Pp RW O9 eL eS G as OX FK aC hD
 have ab:bs.length<=3:=by have:=B.len;omega
 have J:Ny (bs.map (·.2)).length d:=by rw[af];exact X.w.kb
 have su:=X.w.lg
 obtain⟨z1,z2⟩:=B.sum
 have lk:d.length<=10:=by rw[X.nk];exact nl
 rw[<-qu ab X.w.nl X.w.kb.ok] at OA
 have O1:Cm C uy x (Bl (c9 bs nm) (bs.map (·.2))) rk (Cw (c9 bs nm) d) ls:=by rw[qZ nm ab];exact OA
 clear OA X nl ab B
 generalize c9 bs nm=c at O1
 generalize bs.map (·.2)=sz at O1 J z1 z2
 have T1:=rW.same Y
 obtain⟨⟨dx,fs,bl,bn,kp,kr,f8,i5,jS,a3,h1,k1,k2,k3,k4,lm,_⟩,_⟩:=id O1.o
 refine⟨_,rfl,x,dx,fs,rfl,h1,lm _ (by decide),x,_,_,rfl,O1.o,?_⟩
 rw[Eg,CQ]
 refine⟨_,rfl,x,dx,fs,rfl,h1,lm _ (by decide),x,_,_,rfl,O1.o,λD1 ys GS B4 sU FB EI=>⟨D1,_,rfl,iO (.inl FB),_,_,rfl,rfl,?_⟩⟩
 have ly:ys.length=d.length:=by rw[<-EI.length];unfold Cw;rw[List.length_map,List.length_zipIdx]
 rw[ly,show ((sz.sum:Nat):Int)+((d.length:Nat):Int)=((sz.sum+d.length:Nat):Int) from by omega]
 have O2:=O1.mono sU
 have T2:=T1.same sU
 have um:=Y.trans sU
 clear EI FB B4 ly O1 T1
 obtain⟨M,eM⟩:∃ M,M=sz.sum+d.length:=⟨_,rfl⟩
 rw[<-eM]
 refine⟨_,rfl,2,rfl,34,rfl,a,_,rfl,um.seq hS,λp2 ac=>?_⟩
 obtain⟨yL,n,oi,C7⟩:=Gj ac (Dy (ns.map V.int) (some 2) (some 34))
 rw[n]
 clear n
 have cl:=X_ (xs:=ns.map V.int)
 refine⟨p2,rfl,⟨_,iO C7⟩,PK (K:=K) (Wa 60) (iO C7) (Ax (by omega)) (λv hv s A R k=>k s (Aj.refl s)) (λv hv s A R k=>?_) (λlS xL L zs Sm sI wZ rO Is=>?_)⟩
 ·obtain⟨i,_,rfl⟩:=ay.mp (XQ hv)
  exact⟨_,rfl,_,rfl,M,i,rfl,by omega,by omega,λT0 t H2 ra s2 u2 ok=>k T0 t H2 s2 u2 ok⟩
 have O3:=O2.mono (oi.trans sI)
 have T3:=T2.same (oi.trans sI)
 have wz:=um.trans (oi.trans sI)
 have tl:L.length<=32:=by omega
 have zl:=wZ.len
 clear O2 T2 um oi sI C7 Is cl ac
 refine⟨_,rfl,lS,_,rfl,iO (.inl wZ.l),λGL oT=>?_⟩
 obtain⟨BN,n,qv,zb⟩:=Gj oT zs
 rw[n]
 clear n
 have aZ:Dd BN GL L zs:=⟨zb,Paired.Fg wZ.p λ_ _ t=>t.mono qv⟩
 refine⟨GL,L,zs,60,rfl,by decide,by decide,aZ,by omega,rO,T3.same qv,λr A tW wa F8 wR xI wX wV=>?_⟩
 have g:Kp (tb P1) xL tW:=(Kp.of qv).trans wa
 have O4:=Tn g O3
 have Fk:=Dd.kp wZ g
 have wB:=g.seq (wz.seq hS)
 have tw:=wR.ro
 clear O3 T3 wz aZ qv zb oT wa g wR wZ
 obtain⟨p0,EW,er,A0⟩:=id tw
 refine⟨_,rfl,r,_,_,_,rfl,rfl,iO er,Ai (j:=1) rfl,p0,_,rfl,iO (.inl A0.l),λGH yQ=>?_⟩
 obtain⟨AB,n,FV,a1⟩:=Gj yQ EW
 rw[n]
 clear n
 refine⟨by show 2<=sizeLine;decide,λzd zT=>?_⟩
 obtain⟨F7,n,xB,EK⟩:=Il zT [V.int 60,V.ref GH]
 rw[n]
 clear n
 have kG:=FV.trans xB
 have Z:Hu F7 zd 60 A:=⟨GH,EW,EK,xB _ _ a1,Paired.Fg A0.p λ_ _ t=>t.mono kG⟩
 have xH:=Lx tw kG
 have O5:=O4.mono kG
 have GG:=Fk.mono kG
 have xa:=F8.same kG
 have wT:=kG.seq wB
 clear kG FV xB a1 EK yQ er A0 O4 Fk F8 wB tw
 refine⟨_,rfl,by show 4<=sizeLine;decide,λLY rX=>?_⟩
 obtain⟨zm,n,xD,Fa⟩:=Gj rX [V.int (-1),V.int 0,V.int 59,V.int 60]
 rw[n]
 clear n
 refine⟨_,rfl,by decide,by decide,Ru (Ax (by show 10<=1000;decide)) (λi hi s A R k=>k s (Aj.refl s)) (λi hi s A R k=>?_) (λlD E7 l NR A9 an ll=>?_)⟩
 ·have hi:i<10:=hi
  exact⟨_,rfl,a,1,ns,rfl,(xD.trans A).seq wT,λc=>⟨_,rfl,_,_,rfl,rfl,.inl ⟨by omega,by omega⟩,_,_,rfl,rfl,_,_,_,rfl,by decide,by decide,by decide,λr m=>k r s (Aj.refl s)⟩⟩
 have ll:l.length=10:=ll
 refine⟨LY,lD,_,_,rfl,rfl,A9 _ _ Fa,an,FP (by rw[List.length_map,ll];show 4+10<=1000;decide),λS E2=>?_⟩
 obtain⟨tL,n,oo,u⟩:=Gj E2 ([V.int (-1),V.int 0,V.int 59,V.int 60]++l.map V.int)
 rw[n]
 clear n
 have u:tL S=some (.lst (([-1,0,59,60]++l).map V.int)):=by rw[u,db];rfl
 generalize [-1,0,59,60]++l=U at u
 have k9:=xD.trans (A9.trans oo)
 have yh:=Lx Z k9
 have tQ:=Lx xH k9
 have O6:=O5.mono k9
 have B8:=GG.mono k9
 have E1:=xa.same k9
 clear k9 xD A9 oo Fa an rX NR E2 Z xH O5 GG xa wT ll
 have I:CV K tL S (U.map V.int):=.inl (.inl u)
 refine⟨_,rfl,S,rfl,⟨_,I⟩,Eo (K:=K) (a:=S) (xs:=U.map V.int) (λi σ O=>Aj tL O/\∃ v7 v8:Option V,σ=[some (.ref a),some (.ref x),some (.int (M:Nat)),some (.ref lS),some (.ref r),some (.ref zd),some (.ref S),v7,v8,none]) ⟨Aj.refl _,_,_,rfl⟩ (λi σ O _ h=>h.1.seq I) ?_ ?_⟩
 ·rintro i y σ O hi ⟨sx,v7,v8,rfl⟩
  obtain⟨a9,_,rfl⟩:=ay.mp (av hi)
  have O7:=O6.mono sx
  refine⟨_,rfl,_,rfl,_,rfl,x,r,c,sz,rk,d,ls,60,a9,A,rfl,O7,J,su,Lx tQ sx,xI,by omega,λp1 H1 s1 S1=>?_⟩
  refine⟨_,rfl,_,rfl,_,rfl,Dj ?_⟩
  refine⟨_,rfl,_,rfl,_,rfl,_,rfl,x,lS,c,sz,rk,d,ls,L,zs,a9,rfl,O7.mono s1,J,su,B8.mono (sx.trans s1),by omega,(λt ht=>⟨(rO t ht).1,(rO t ht).2.1⟩),λp2 H2 s2 S2=>?_⟩
  obtain rfl:=Q3 (λz _=>wX z a9) S1 S2
  refine⟨rfl,_,rfl,Cr (λz=>absurd z (by rw[decide_eq_true rfl];decide)) (λ_=>?_)⟩
  exact⟨sx.trans (s1.trans s2),_,_,rfl⟩
 rintro σ O ⟨sx,v7,v8,rfl⟩
 have O7:=O6.mono sx
 have CI:=B8.mono sx
 have EE:=E1.same sx
 have wt:=Lx yh sx
 have yR:=Lx tQ sx
 have aw:=sx _ _ u
 clear O6 B8 E1 yh tQ u I sx
 refine⟨_,rfl,lS,rfl,⟨_,iO CI.l⟩,Rz (K:=K) (λh=>decide (h.1<((M:Nat):Int))) CI (Ax (by omega)) (λy hy T1 ma s A R k=>?_) (λT1 s A R k=>⟨_,rfl,k s (Aj.refl s)⟩) (λlP vP yx Kt lI Bn=>?_)⟩
 ·exact⟨_,rfl,T1,_,_,_,rfl,rfl,iO (A _ _ ma),Ai (j:=0) rfl,_,rfl,_,_,rfl,rfl,_,rfl,k s (Aj.refl s)⟩
 have O8:=O7.mono lI
 have QO:=EE.same lI
 have Db:=Lx wt lI
 have xV:=Lx yR lI
 have W:CV K vP S (U.map V.int):=.inl (.inl (lI _ _ aw))
 clear O7 CI EE wt yR aw lI Kt
 have lf:(L.filter λh:T3=>decide (h.1<((M:Nat):Int))).length<=L.length:=ck ..
 have lz:=Bn.len
 have a0:∀ t∈L.filter (λh:T3=>decide (h.1<((M:Nat):Int))),Wa 60 t:=λt ht=>rO t (aS.mp ht).1
 have ap:∀ (z t:Int),z<((sz.sum+d.length:Nat):Int)->(Fl (L.filter λh:T3=>decide (h.1<((M:Nat):Int))) z t ↔ Fl L z t):=λz t hz=>by
  rw[<-eM] at hz
  constructor
  ·rintro⟨h,hm,e⟩
   exact⟨h,(aS.mp hm).1,e⟩
  ·rintro⟨h,hm,e,e2⟩
   exact⟨h,aS.mpr ⟨hm,decide_eq_true (by rw[e];exact hz)⟩,e,e2⟩
 generalize L.filter (λh:T3=>decide (h.1<((M:Nat):Int)))=tp at Bn lf lz a0 ap
 refine⟨_,rfl,S,rfl,⟨_,W⟩,Eo (K:=K) (a:=S) (xs:=U.map V.int) (λi σ O=>Kp (tb P1) vP O/\Tb (tb P1) O/\∃ v7:Option V,σ=[some (.ref a),some (.ref x),some (.int (M:Nat)),some (.ref lS),some (.ref r),some (.ref zd),some (.ref S),v7,v8,some (.ref lP)]) ⟨Kp.refl _,QO,_,rfl⟩ (λi σ O _ h=>h.1.seq W) ?_ ?_⟩
 ·rintro i y σ O hi ⟨kx,Tx,v7,rfl⟩
  obtain⟨a9,_,rfl⟩:=ay.mp (av hi)
  refine⟨_,rfl,_,rfl,lP,tp,yx,60,rfl,by decide,by decide,Dd.kp Bn kx,by omega,a0,Tx,λr2 rT H3 C' T3 Kx P' HV k7=>?_⟩
  have O9:=Tn (kx.trans C') O8
  refine⟨_,rfl,x,r2,c,sz,rk,d,ls,60,a9,rT,rfl,O9,J,su,Kx.ro,P',by omega,λp1 H4 s4 S1=>?_⟩
  refine⟨_,rfl,_,rfl,_,rfl,x,r,c,sz,rk,d,ls,60,a9,A,rfl,O9.mono s4,J,su,Lx (Zf xV (kx.trans C')) s4,xI,by omega,λp2 H5 s5 S2=>?_⟩
  obtain rfl:=Q3 (λz hz=>by rw[HV,wX,ap z a9 hz]) S1 S2
  refine⟨rfl,_,rfl,Cr (λz=>absurd z (by rw[decide_eq_true rfl];decide)) (λ_=>?_)⟩
  exact⟨(kx.trans C').trans (Kp.of (s4.trans s5)),T3.same (s4.trans s5),_,rfl⟩
 rintro σ O ⟨kx,Tx,v7,rfl⟩
 exact⟨_,rfl,_,rfl,r,zd,60,A,rfl,rfl,Zf xV kx,Zf Db kx,q _⟩
end
end K60
end PartK60a
set_option maxHeartbeats 4000000
theorem UL1 {α:Type} {us:List α} (h:us.length=1):∃ a,us=[a]:=match us,h with | [a],_=>⟨a,rfl⟩
theorem UL2 {α:Type} {us:List α} (h:us.length=2):∃ a b,us=[a,b]:=match us,h with | [a,b],_=>⟨a,b,rfl⟩
theorem UL3 {α:Type} {us:List α} (h:us.length=3):∃ a b c,us=[a,b,c]:=match us,h with | [a,b,c],_=>⟨a,b,c,rfl⟩
theorem UL4 {α:Type} {us:List α} (h:us.length=4):∃ a b c d,us=[a,b,c,d]:=match us,h with | [a,b,c,d],_=>⟨a,b,c,d,rfl⟩
theorem UL5 {α:Type} {us:List α} (h:us.length=5):∃ a b c d e,us=[a,b,c,d,e]:=match us,h with | [a,b,c,d,e],_=>⟨a,b,c,d,e,rfl⟩
namespace K60
open PySem L2 Og Bw Ro
section
variable {K:W.Frag}
abbrev DA (K:W.Frag) (x:Str) (st:Stmt) (f:Addr):Prop:=W.nsIn K mainGlobals x=some (some (.ref f))/\∃ fd,Cg K x x st f fd
abbrev MA (K:W.Frag) (C:Addr) (x q:Str) (st:Stmt) (f:Addr):Prop:=W.findIn K (.ref C) x=some (some (.ref f))/\W.isFn K (.ref f)=true/\∃ fd,Cg K x q st f fd
theorem Ft {q:Str} {ps:List Str} (F:Cg K x q st f fd) (e:ps.length=1:=by rfl) (h:∀ (kV a pm:Value) (b:Option Addr) (c ct:Value) (u:Value),bindArgs (W.fnOf x q (Dc st) (CW st) (Ae st) .none kV a pm b c ct) ⟨[u],[]⟩=pure (ps.zip [u]):=by intros;rfl):Binds K fd ps []:=F.binds λkV a pm b c ct g d=>by obtain⟨u,rfl⟩:=UL1 (d.trans e);exact h kV a pm b c ct u
theorem En {q:Str} {ps:List Str} (F:Cg K x q st f fd) (e:ps.length=2:=by rfl) (h:∀ (kV a pm:Value) (b:Option Addr) (c ct:Value) (u v:Value),bindArgs (W.fnOf x q (Dc st) (CW st) (Ae st) .none kV a pm b c ct) ⟨[u,v],[]⟩=pure (ps.zip [u,v]):=by intros;rfl):Binds K fd ps []:=F.binds λkV a pm b c ct g d=>by obtain⟨u,v,rfl⟩:=UL2 (d.trans e);exact h kV a pm b c ct u v
theorem Ff {q:Str} {ps:List Str} (F:Cg K x q st f fd) (g:ps.length=3:=by rfl) (h:∀ (kV b pm:Value) (c:Option Addr) (d ct:Value) (u v a:Value),bindArgs (W.fnOf x q (Dc st) (CW st) (Ae st) .none kV b pm c d ct) ⟨[u,v,a],[]⟩=pure (ps.zip [u,v,a]):=by intros;rfl):Binds K fd ps []:=F.binds λkV b pm c d ct i e=>by obtain⟨u,v,a,rfl⟩:=UL3 (e.trans g);exact h kV b pm c d ct u v a
end
theorem bQ {l:W.OpenLaw} {w:World} {K:W.Frag} {fa c1 P1:Addr} (X:K.In h) (G:h.Ns mainGlobals mg) (JO:mg "law" = some (.ref fa))
 {aN aK p1 p2 p3 p4 p5 p6 b1 b2 b3 b4 b5 b6 b7 ep da c2 eu dV ch cc c3 dg d1 eq c6 ej dK c8 ea dy er ey ex ez d3 ei d6 ds ct eb en eg cx dp et dd dT ca f dh eH cv c0 eh eo dn dx cb d4 es el c5 d5 eC c4 cz cl d0 d2 ec cp dm b9 em cn ew cd co ev cs eA ef ek fZ:Addr} {AL yn HP F5:Option Addr} {AS KG:Array (Option Value)} {Bz yS xb wg yI GW Fs FY F' zu FE:Value}
  {f6 i4 tY As AR BF wC NJ L3 RI JI L8 Mc yc xl yp wE wP xY x' xq vA uD uP ux tE ua ud vi tF uS uf vp uB tT vd uU vq tJ sX sW uX sY uw uq uO uG tS tm uH ul vj:Tok} {zP AJ yt wF yy xQ wm xS wI yg xm xK wj yb wY:Option Addr} {zt BQ xP wL vZ x4 vX wk wc ym ww wo wu yu wN:Array (Option Value)} {Iq M1 zX zW Co B6 AM zJ AN AZ C5 CB B1 zE CF nB nP nM:Nat} {eB eP eM:Array DictEntry}
  (bl:DA K "is_whole" pK ep)
  (z:DA K "is_made_of" jo da)
  (bP:DA K "is_name" oY c2)
  (M:DA K "rows_of" jn eu)
  (bW:DA K "is_told" je dV)
  (Z:DA K "is_within" pD ch)
  (ap:DA K "is_part" jW cc)
  (a8:DA K "has_parts" jV c3)
  (bg:DA K "count_of_last_lines" oH dg)
  (bR:DA K "is_key_of" ju d1)
  (E:DA K "stands_behind_stop" mz eq)
  (an:DA K "is_step" jM c6)
  (a1:DA K "is_well_made" oV ej)
  (ac:DA K "has_room" oJ dK)
  (Q:DA K "is_row" oU c8)
  (y:DA K "check_rows" kO ea)
  (al:DA K "numbers_of" pH dy)
  (as:DA K "count_in_all" jm er)
  (J:DA K "places_of" jq ey)
  (bN:DA K "lines_by_knob" my ex)
  (bL:DA K "set_of_step" jf ez)
  (ab:DA K "may_be_member" m5 d3)
  (aw:DA K "set_of" jk ei)
  (a7:DA K "has_member" lJ d6)
  (a4:DA K "members_of" jl ds)
  (L:DA K "shifted" mU ct)
  (t:DA K "union_of" jz eb)
  (D:DA K "led_to" oF en)
  (a9:DA K "drawn_of" fV eg)
  (I:DA K "held_keys" oE cx)
  (A:DA K "coupled_ways" mF dp)
  (bd:DA K "coupled_keys" lC et)
  (R:DA K "is_length" j6 dd)
  (B:DA K "is_hole_within" nj dT)
  (a3:DA K "are_holes_within" jc ca)
  (N4:W.nsIn K mainGlobals "holes_of" = some (some (.ref f)))
  (F3:K.lookup f=some ⟨Bz,AL,.func (W.fnOf "holes_of" "holes_of" (Dc WY) (CW WY) (Ae WY) .none yS xb wg yn (.ref c1) yI),AS⟩) (EH:W.codeIn K (.ref c1) "holes_of" = true) (E8:W.keepIn K (.ref f)=true)
  (bB:DA K "few_holes_of" nZ dh)
  (bK:DA K "roll_from" lL eH)
  (P:DA K "roll_of" oO cv)
  (aD:DA K "open_at" jg c0)
  (bn:DA K "numbers_from" jR eh)
  (F:DA K "sound_at" nC eo)
  (a2:DA K "muted_boards" jX dn)
  (Y:DA K "unmuted_keys" jT dx)
  (H:DA K "speaking_keys" j5 cb)
  (a5:DA K "numbers_on_board" mQ d4)
  (bm:DA K "led_by_line" nY es)
  (a0:DA K "brought_by_stop" jd el)
  (b0:DA K "brought_in_all" ji c5)
  (O:DA K "sounding_pipes" pA d5)
  (a6:DA K "_law_cell_at" kj eC)
  (S:DA K "_law_whole" ph c4)
  (x:DA K "_law_mix" nA cz)
  (U:DA K "_law_organ" oh cl)
  (bS:DA K "_law_wide_rows" j8 d0)
  (V:DA K "_law_span" jy d2)
  (u:DA K "_law_due" cX ec)
  (aZ:W.nsIn K mainGlobals "law" = some (some (.ref fZ)))
  (lZ:K.lookup fZ=some ⟨GW,HP,.func (W.fnOf "law" "law" (Dc JR) (CW JR) (Ae JR) .none Fs FY F' F5 zu FE),KG⟩) (cZ:W.codeIn K zu "law" = true) (kZ:W.keepIn K (.ref fZ)=true)
  (aC:W.nsIn K mainGlobals "Organ" = some (some (.ref C)))
  (r:MA K C "__init__" "Organ.__init__" WT cp)
  (j:MA K C "boards" "Organ.boards" lY dm)
  (c:MA K C "key_count" "Organ.key_count" nQ b9)
  (o:MA K C "key" "Organ.key" lq em)
  (k:MA K C "board_of" "Organ.board_of" oA cn)
  (m:MA K C "board_of_knob" "Organ.board_of_knob" mj ew)
  (p:MA K C "coupler" "Organ.coupler" lK cd)
  (g:MA K C "ranks" "Organ.ranks" mG co)
  (a:MA K C "pipe_count" "Organ.pipe_count" pZ ev)
  (d:MA K C "pipe" "Organ.pipe" pW cs)
  (b:MA K C "stop" "Organ.stop" mD eA)
  (n:MA K C "mute" "Organ.mute" lu ef)
  (i:MA K C "knobs" "Organ.knobs" jr ek)
  (pg:W.plainGet K C Str.empty=true)
  (hd:W.hasDictIn K C=true)
  (po:W.plainOver K C=true)
  (sa:W.findIn K (.ref C) "__setattr__" = some (some (.builtin "object.__setattr__")))
  (HI:W.makesIn K C=true)
  (kc:W.keepIn K (.ref C)=true)
  (nc:W.findIn K (.ref C) "row_list" = some none)
  (kT:W.findIn K (.ref C) "board_list" = some none)
  (l8:W.findIn K (.ref C) "rank_list" = some none)
  (lj:W.findIn K (.ref C) "knob_rows" = some none)
  (ke:W.findIn K (.ref C) "board_numbers" = some none)
  (ku:W.findIn K (.ref C) "rank_numbers" = some none)
  (kz:W.findIn K (.ref C) "knob_numbers" = some none)
  (kQ:W.findIn K (.ref C) "key_places" = some none)
  (kF:W.findIn K (.ref C) "pipe_places" = some none)
  (k6:W.findIn K (.ref C) "knob_lines" = some none)
  (me:W.findIn K (.ref C) "step_sets" = some none)
  (BY:W.nsIn K mainGlobals "len" = some none)
  (mo:W.nsIn K mainGlobals "isinstance" = some none)
  (AC:W.nsIn K mainGlobals "int" = some none)
  (yf:W.nsIn K mainGlobals "bool" = some none)
  (DE:W.nsIn K mainGlobals "str" = some none)
  (w9:W.nsIn K mainGlobals "list" = some none)
  (tH:W.nsIn K mainGlobals "tuple" = some none)
  (DD:W.nsIn K mainGlobals "all" = some none)
  (C1:W.nsIn K mainGlobals "any" = some none)
  (zH:W.nsIn K mainGlobals "sum" = some none)
  (uM:W.nsIn K mainGlobals "range" = some none)
  (DI:W.nsIn K mainGlobals "zip" = some none)
  (nN:W.nsIn K mainGlobals "enumerate" = some none)
  (BA:W.nsIn K mainGlobals "max" = some none)
  (ow:W.nsIn K mainGlobals "reversed" = some none)
  (BM:W.nsIn K mainGlobals "set" = some none)
  (DT:W.nsIn K mainGlobals "min" = some none)
  (rY:W.nsIn K mainGlobals "sorted" = some none)
  (Cb:W.nsIn K mainGlobals "LETTERS" = some (some (.str letters tY)))
  (HK:W.nsIn K mainGlobals "MOST_LETTERS" = some (some (.int 8 As)))
  (OS:W.nsIn K mainGlobals "MOST_ROWS" = some (some (.int 150 AR)))
  (mE:W.nsIn K mainGlobals "MOST_TICKS" = some (some (.int 1000000000000 f6)))
  (nh:W.nsIn K mainGlobals "MOST_HOLES" = some (some (.int 400 i4)))
  (Da:W.nsIn K mainGlobals "MOST_LINES" = some (some (.int 4 BF)))
  (Rs:W.nsIn K mainGlobals "MEMBERS_BELOW" = some (some (.int 1200 wC)))
  (rN:W.nsIn K mainGlobals "NAMED" = some (some (.ref aN)))
  (rK:W.nsIn K mainGlobals "KNOBS" = some (some (.ref aK)))
  (rB:W.nsIn K mainGlobals "BOUNDS" = some (some (.ref aB)))
  (rP:W.nsIn K mainGlobals "PARTS" = some (some (.ref aP)))
  (rM:W.nsIn K mainGlobals "MOST_OF" = some (some (.ref aM)))
  (dB:K.lookup aB=some ⟨.type "dict",none,.dict eB nB,#[]⟩)
  (kB:W.KeysLit w.params eB.toList)
  (oB:(aB == sysModules)=false)
  (dP:K.lookup aP=some ⟨.type "dict",none,.dict eP nP,#[]⟩)
  (kP:W.KeysLit w.params eP.toList)
  (oP:(aP == sysModules)=false)
  (dM:K.lookup aM=some ⟨.type "dict",none,.dict eM nM,#[]⟩)
  (kM:W.KeysLit w.params eM.toList)
  (oM:(aM == sysModules)=false)
  (Lv:W.nsIn K aP "board" = some (some (.ref p1)))
  (G0:W.nsIn K aP "stop" = some (some (.ref p2)))
  (NU:W.nsIn K aP "mute" = some (some (.ref p3)))
  (NY:W.nsIn K aP "coupler" = some (some (.ref p4)))
  (OB:W.nsIn K aP "rank" = some (some (.ref p5)))
  (P3:W.nsIn K aP "line" = some (some (.ref p6)))
  (IN:W.nsIn K aB "keys" = some (some (.ref b1)))
  (Mn:W.nsIn K aB "leap" = some (some (.ref b2)))
  (JJ:W.nsIn K aB "pipes" = some (some (.ref b3)))
  (P9:W.nsIn K aB "wind" = some (some (.ref b4)))
  (Iy:W.nsIn K aB "shift" = some (some (.ref b5)))
  (IS:W.nsIn K aB "low" = some (some (.ref b6)))
  (GV:W.nsIn K aB "high" = some (some (.ref b7)))
  (qn:W.nsIn K aB "new" = some none)
  (qb:W.nsIn K aB "board" = some none)
  (qr:W.nsIn K aB "rank" = some none)
  (ql:W.nsIn K aM "line" = some none)
  (LP:W.nsIn K aM "board" = some (some (.int 5 NJ)))
  (NV:W.nsIn K aM "stop" = some (some (.int 24 L3)))
  (L':W.nsIn K aM "coupler" = some (some (.int 12 RI)))
  (LG:W.nsIn K aM "mute" = some (some (.int 5 JI)))
  (MZ:W.nsIn K aM "rank" = some (some (.int 12 L8)))
  (MX:W.nsIn K aM "step" = some (some (.int 12 Mc)))
  (uN:K.lookup aN=some ⟨.type "tuple",zP,.seq #[.str "board" yc,.str "rank" xl,.str "stop" yp,.str "coupler" wE,.str "mute" wP] Iq,zt⟩)
  (uK:K.lookup aK=some ⟨.type "tuple",AJ,.seq #[.str "stop" xY,.str "coupler" x',.str "mute" xq] M1,BQ⟩)
  (up1:K.lookup p1=some ⟨.type "tuple",yt,.seq #[.str "new" vA,.str "keys" uD] zX,xP⟩)
  (QN:K.lookup p2=some ⟨.type "tuple",wF,.seq #[.str "new" uP,.str "board" ux] zW,wL⟩)
  (OW:K.lookup p3=some ⟨.type "tuple",yy,.seq #[.str "new" tE,.str "board" ua] Co,vZ⟩)
  (QE:K.lookup p4=some ⟨.type "tuple",xQ,.seq #[.str "new" ud,.str "board" vi,.str "board" tF,.str "leap" uS] B6,x4⟩)
  (Me:K.lookup p5=some ⟨.type "tuple",wm,.seq #[.str "new" uf,.str "pipes" vp,.str "wind" uB] AM,vX⟩)
  (MS:K.lookup p6=some ⟨.type "tuple",xS,.seq #[.str "rank" tT,.str "shift" vd,.str "low" uU,.str "high" vq] zJ,wk⟩)
  (Nw:K.lookup b1=some ⟨.type "tuple",wI,.seq #[.int (1) tJ,.int (61) sX] AN,wc⟩)
  (HC:K.lookup b2=some ⟨.type "tuple",yg,.seq #[.int (-60) sW,.int (60) uX] AZ,ym⟩)
  (Qb:K.lookup b3=some ⟨.type "tuple",xm,.seq #[.int (1) sY,.int (97) uw] C5,ww⟩)
  (LN:K.lookup b4=some ⟨.type "tuple",xK,.seq #[.int (0) uq,.int (1000000000) uO] CB,wo⟩)
  (Pw:K.lookup b5=some ⟨.type "tuple",wj,.seq #[.int (-200) uG,.int (200) tS] B1,wu⟩)
  (IL:K.lookup b6=some ⟨.type "tuple",yb,.seq #[.int (0) tm,.int (60) uH] zE,yu⟩)
  (LF:K.lookup b7=some ⟨.type "tuple",wY,.seq #[.int (0) ul,.int (60) vj] CF,wN⟩)
  : ∃ fd:FuncData,(∀ (s:Shared) (v:Value),BindsTo s fd ⟨[v],[]⟩ [("_law_script",v)])/\∀ base:Heap,K.In base->base.Ns mainGlobals mg->(∀ q∈[(c1,P1)],Jk mg base q.1 q.2)->Ar l.prog w K mg base BW 11 fa fd lT (S5 K (tb P1)):=by
 refine Classical.byContradiction λIC=>?_
 obtain⟨NE,f2,bl⟩:=bl
 obtain⟨MQ,g0,z⟩:=z
 obtain⟨KU,hI,bP⟩:=bP
 obtain⟨PZ,he,M⟩:=M
 obtain⟨OP,g5,bW⟩:=bW
 obtain⟨OY,gA,Z⟩:=Z
 obtain⟨IE,hc,ap⟩:=ap
 obtain⟨On,f4,a8⟩:=a8
 obtain⟨LX,f3,bg⟩:=bg
 obtain⟨IX,hJ,bR⟩:=bR
 obtain⟨LU,fp,E⟩:=E
 obtain⟨IU,go,an⟩:=an
 obtain⟨MC,f1,a1⟩:=a1
 obtain⟨OG,hg,ac⟩:=ac
 obtain⟨HL,hr,Q⟩:=Q
 obtain⟨LD,ho,y⟩:=y
 obtain⟨L1,f8,al⟩:=al
 obtain⟨RA,g1,as⟩:=as
 obtain⟨Nl,ha,J⟩:=J
 obtain⟨PV,g7,bN⟩:=bN
 obtain⟨Ic,hu,bL⟩:=bL
 obtain⟨KS,fy,ab⟩:=ab
 obtain⟨Re,hC,aw⟩:=aw
 obtain⟨PY,hH,a7⟩:=a7
 obtain⟨PH,hO,a4⟩:=a4
 obtain⟨MH,f9,L⟩:=L
 obtain⟨MR,hx,t⟩:=t
 obtain⟨OL,hw,D⟩:=D
 obtain⟨Rl,hN,a9⟩:=a9
 obtain⟨NS,hy,I⟩:=I
 obtain⟨L9,hz,A⟩:=A
 obtain⟨NW,gc,bd⟩:=bd
 obtain⟨LO,hQ,R⟩:=R
 obtain⟨LJ,g8,B⟩:=B
 obtain⟨NO,hp,a3⟩:=a3
 obtain⟨Jn,g2,bB⟩:=bB
 obtain⟨LZ,hP,bK⟩:=bK
 obtain⟨OK,hi,P⟩:=P
 obtain⟨QU,gv,aD⟩:=aD
 obtain⟨KP,hj,bn⟩:=bn
 obtain⟨HG,hn,F⟩:=F
 obtain⟨IA,hD,a2⟩:=a2
 obtain⟨P4,f0,Y⟩:=Y
 obtain⟨Oy,hf,H⟩:=H
 obtain⟨OQ,hq,a5⟩:=a5
 obtain⟨IF,hB,bm⟩:=bm
 obtain⟨Kn,hA,a0⟩:=a0
 obtain⟨K0,hv,b0⟩:=b0
 obtain⟨RH,gm,O⟩:=O
 obtain⟨OF,hb,a6⟩:=a6
 obtain⟨LB,g4,S⟩:=S
 obtain⟨OM,hR,x⟩:=x
 obtain⟨MD,hF,U⟩:=U
 obtain⟨ON,gV,bS⟩:=bS
 obtain⟨IR,g9,V⟩:=V
 obtain⟨IQ,f5,u⟩:=u
 obtain⟨GU,JU,hm,r⟩:=r
 obtain⟨Lc,GY,hh,j⟩:=j
 obtain⟨OV,Os,ht,c⟩:=c
 obtain⟨NA,MU,hk,o⟩:=o
 obtain⟨N',Pe,hM,k⟩:=k
 obtain⟨P8,I0,hs,m⟩:=m
 obtain⟨Pi,LS,f7,p⟩:=p
 obtain⟨RF,HM,g3,g⟩:=g
 obtain⟨Mb,NN,hE,a⟩:=a
 obtain⟨HE,MW,hL,d⟩:=d
 obtain⟨Qr,II,fi,b⟩:=b
 obtain⟨HA,KI,fx,n⟩:=n
 obtain⟨OC,Op,g6,i⟩:=i
 refine IC ?_
 have e:=JO.symm.trans (W.mg_of X G aZ)
 cases e
 have e1:Xu K "holes_of" "holes_of" WY f (W.fnOf "holes_of" "holes_of" (Dc WY) (CW WY) (Ae WY) .none yS xb wg yn (.ref c1) yI) c1:=⟨⟨_,_,_,_,_,_,_,_,rfl,F3,EH⟩,E8⟩
 have FZ:=MP (st:=JR) lZ cZ kZ
 have KB:=(MP (st:=WY) F3 EH E8).binds (ps:=mI) λ_ _ _ _ _ _ us hl=>(by obtain⟨_,rfl⟩:=UL1 hl;exact rfl)
 have gN:KTup K aN [.str "board",.str "rank",.str "stop",.str "coupler",.str "mute"]:=(⟨_,_,_,uN,rfl,rfl,by show 5<=sizeLine;decide,.cons ⟨_,rfl⟩ (.cons ⟨_,rfl⟩ (.cons ⟨_,rfl⟩ (.cons ⟨_,rfl⟩ (.cons ⟨_,rfl⟩ (.nil)))))⟩)
 have gK:KTup K aK [.str "stop",.str "coupler",.str "mute"]:=(⟨_,_,_,uK,rfl,rfl,by show 3<=sizeLine;decide,.cons ⟨_,rfl⟩ (.cons ⟨_,rfl⟩ (.cons ⟨_,rfl⟩ (.nil)))⟩)
 have e2:KTup K p1 [.str "new",.str "keys"]:=(⟨_,_,_,up1,rfl,rfl,by show 2<=sizeLine;decide,.cons ⟨_,rfl⟩ (.cons ⟨_,rfl⟩ (.nil))⟩)
 have e7:KTup K p2 [.str "new",.str "board"]:=(⟨_,_,_,QN,rfl,rfl,by show 2<=sizeLine;decide,.cons ⟨_,rfl⟩ (.cons ⟨_,rfl⟩ (.nil))⟩)
 have eS:KTup K p3 [.str "new",.str "board"]:=(⟨_,_,_,OW,rfl,rfl,by show 2<=sizeLine;decide,.cons ⟨_,rfl⟩ (.cons ⟨_,rfl⟩ (.nil))⟩)
 have eL:KTup K p4 [.str "new",.str "board",.str "board",.str "leap"]:=(⟨_,_,_,QE,rfl,rfl,by show 4<=sizeLine;decide,.cons ⟨_,rfl⟩ (.cons ⟨_,rfl⟩ (.cons ⟨_,rfl⟩ (.cons ⟨_,rfl⟩ (.nil))))⟩)
 have e8:KTup K p5 [.str "new",.str "pipes",.str "wind"]:=(⟨_,_,_,Me,rfl,rfl,by show 3<=sizeLine;decide,.cons ⟨_,rfl⟩ (.cons ⟨_,rfl⟩ (.cons ⟨_,rfl⟩ (.nil)))⟩)
 have eW:KTup K p6 [.str "rank",.str "shift",.str "low",.str "high"]:=(⟨_,_,_,MS,rfl,rfl,by show 4<=sizeLine;decide,.cons ⟨_,rfl⟩ (.cons ⟨_,rfl⟩ (.cons ⟨_,rfl⟩ (.cons ⟨_,rfl⟩ (.nil))))⟩)
 have e3:KTup K b1 [.int (1),.int (61)]:=(⟨_,_,_,Nw,rfl,rfl,by show 2<=sizeLine;decide,.cons ⟨_,rfl⟩ (.cons ⟨_,rfl⟩ (.nil))⟩)
 have e9:KTup K b2 [.int (-60),.int (60)]:=(⟨_,_,_,HC,rfl,rfl,by show 2<=sizeLine;decide,.cons ⟨_,rfl⟩ (.cons ⟨_,rfl⟩ (.nil))⟩)
 have e0:KTup K b3 [.int (1),.int (97)]:=(⟨_,_,_,Qb,rfl,rfl,by show 2<=sizeLine;decide,.cons ⟨_,rfl⟩ (.cons ⟨_,rfl⟩ (.nil))⟩)
 have e5:KTup K b4 [.int (0),.int (1000000000)]:=(⟨_,_,_,LN,rfl,rfl,by show 2<=sizeLine;decide,.cons ⟨_,rfl⟩ (.cons ⟨_,rfl⟩ (.nil))⟩)
 have eK:KTup K b5 [.int (-200),.int (200)]:=(⟨_,_,_,Pw,rfl,rfl,by show 2<=sizeLine;decide,.cons ⟨_,rfl⟩ (.cons ⟨_,rfl⟩ (.nil))⟩)
 have e4:KTup K b6 [.int (0),.int (60)]:=(⟨_,_,_,IL,rfl,rfl,by show 2<=sizeLine;decide,.cons ⟨_,rfl⟩ (.cons ⟨_,rfl⟩ (.nil))⟩)
 have e6:KTup K b7 [.int (0),.int (60)]:=(⟨_,_,_,LF,rfl,rfl,by show 2<=sizeLine;decide,.cons ⟨_,rfl⟩ (.cons ⟨_,rfl⟩ (.nil))⟩)
 have F2:Xi K aB aP aM:=⟨⟨⟨_,Lv,e2⟩,⟨_,G0,e7⟩,⟨_,NU,eS⟩,⟨_,NY,eL⟩,⟨_,IN,e3⟩,⟨_,Mn,e9⟩,qn,qb,⟨_,LP⟩,⟨_,NV⟩,⟨_,L'⟩,⟨_,LG⟩⟩,⟨_,OB,e8⟩,⟨_,P3,eW⟩,⟨_,JJ,e0⟩,⟨_,P9,e5⟩,⟨_,Iy,eK⟩,⟨_,IS,e4⟩,⟨_,GV,e6⟩,qr,⟨_,MZ⟩,ql⟩
 have F0:WW K aB aP aM:=⟨F2,⟨_,MX⟩⟩
 have T:Txt K w.params mg C aN aK aB aP aM:=⟨W.mg_none_of X G BY,W.mg_none_of X G mo,W.mg_none_of X G AC,W.mg_none_of X G yf,W.mg_none_of X G DE,W.mg_none_of X G w9,W.mg_none_of X G tH,W.mg_none_of X G DD,W.mg_none_of X G C1,W.mg_none_of X G zH,W.mg_none_of X G uM,W.mg_none_of X G DI,W.mg_none_of X G nN,W.mg_none_of X G BA,W.mg_none_of X G ow,W.mg_none_of X G BM,W.mg_none_of X G DT,W.mg_none_of X G rY,⟨_,W.mg_of X G Cb⟩,⟨_,W.mg_of X G HK⟩,⟨_,W.mg_of X G OS⟩,⟨_,W.mg_of X G Da⟩,⟨_,W.mg_of X G mE⟩,⟨_,W.mg_of X G nh⟩,⟨_,W.mg_of X G Rs⟩,W.mg_of X G rN,W.mg_of X G rK,W.mg_of X G rB,W.mg_of X G rP,W.mg_of X G rM,gN,gK,⟨⟨_,_,dB,kB⟩,oB⟩,⟨⟨_,_,dP,kP⟩,oP⟩,⟨⟨_,_,dM,kM⟩,oM⟩,⟨pg,hd,po,sa⟩,W.mg_of X G aC,nc,kT,l8,lj,ke,ku,kz,kQ,kF,k6,me⟩
 have N:Zk K mg C c1 ⟨ep,da,c2,eu,dV,ch,cc,c3,dg,d1,eq,c6,ej,dK,c8,ea,dy,er,ey,ex,ez,d3,ei,d6,ds,ct,eb,en,eg,cx,dp,et,dd,dT,ca,f,dh,eH,cv,c0,eh,eo,dn,dx,cb,d4,es,el,c5,d5,eC,c4,cz,cl,d0,d2,ec,cp,dm,b9,em,cn,ew,cd,co,ev,cs,eA,ef,ek,_,_,_,_,_,_,_,_,_,_,_,_,_,_,_,_,_,_,_,_,_,_,_,_,_,_,_,_,_,_,_,_,_,_,_,_,_,_,_,_,_,_,_,_,_,_,_,_,_,_,_,_,_,_,_,_,_,_,_,_,_,_,_,_,_,_,_,_,_,_⟩:=⟨⟨bl,(Ft bl),W.mg_of X G NE⟩,⟨z,(Ff z),W.mg_of X G MQ⟩,⟨bP,(Ft bP),W.mg_of X G KU⟩,⟨M,(En M),W.mg_of X G PZ⟩,⟨bW,(Ff bW),W.mg_of X G OP⟩,⟨Z,(En Z),W.mg_of X G OY⟩,⟨ap,(Ff ap),W.mg_of X G IE⟩,⟨a8,(En a8),W.mg_of X G On⟩,⟨bg,(Ft bg),W.mg_of X G LX⟩,⟨bR,(Ff bR),W.mg_of X G IX⟩,⟨E,(En E),W.mg_of X G LU⟩,⟨an,(En an),W.mg_of X G IU⟩,⟨a1,(En a1),W.mg_of X G MC⟩,⟨ac,(En ac),W.mg_of X G OG⟩,⟨Q,(En Q),W.mg_of X G HL⟩,⟨y,(Ft y),W.mg_of X G LD⟩,⟨al,(Ft al),W.mg_of X G L1⟩,⟨as,(Ft as),W.mg_of X G RA⟩,⟨J,(Ft J),W.mg_of X G Nl⟩,⟨bN,(En bN),W.mg_of X G PV⟩,⟨bL,(En bL),W.mg_of X G Ic⟩,⟨ab,(Ft ab),W.mg_of X G KS⟩,⟨aw,(Ft aw),W.mg_of X G Re⟩,⟨a7,(En a7),W.mg_of X G PY⟩,⟨a4,(Ft a4),W.mg_of X G PH⟩,⟨L,(Ff L),W.mg_of X G MH⟩,⟨t,(Ft t),W.mg_of X G MR⟩,⟨D,(Ff D),W.mg_of X G OL⟩,⟨a9,(Ff a9),W.mg_of X G Rl⟩,⟨I,(En I),W.mg_of X G NS⟩,⟨A,(Ff A),W.mg_of X G L9⟩,⟨bd,(Ff bd),W.mg_of X G NW⟩,⟨R,(Ft R),W.mg_of X G LO⟩,⟨B,(En B),W.mg_of X G LJ⟩,⟨a3,(En a3),W.mg_of X G NO⟩,⟨e1,KB,W.mg_of X G N4⟩,⟨bB,(Ft bB),W.mg_of X G Jn⟩,⟨bK,(En bK),W.mg_of X G LZ⟩,⟨P,(En P),W.mg_of X G OK⟩,⟨aD,(En aD),W.mg_of X G QU⟩,⟨bn,(Ff bn),W.mg_of X G KP⟩,⟨F,(Ff F),W.mg_of X G HG⟩,⟨a2,(En a2),W.mg_of X G IA⟩,⟨Y,(Ff Y),W.mg_of X G P4⟩,⟨H,(Ff H),W.mg_of X G Oy⟩,⟨a5,(Ff a5),W.mg_of X G OQ⟩,⟨bm,(Ff bm),W.mg_of X G IF⟩,⟨a0,(Ff a0),W.mg_of X G Kn⟩,⟨b0,(Ff b0),W.mg_of X G K0⟩,⟨O,(Ff O),W.mg_of X G RH⟩,⟨a6,(En a6),W.mg_of X G OF⟩,⟨S,(Ft S),W.mg_of X G LB⟩,⟨x,(Ff x),W.mg_of X G OM⟩,⟨U,(Ft U),W.mg_of X G MD⟩,⟨bS,(Ft bS),W.mg_of X G ON⟩,⟨V,(En V),W.mg_of X G IR⟩,⟨u,(Ff u),W.mg_of X G IQ⟩,⟨r,(En r),⟨HI,GU,JU,kc⟩⟩,⟨j,(Ft j),⟨Lc,GY,j.kp⟩⟩,⟨c,(Ft c),⟨OV,Os,c.kp⟩⟩,⟨o,(Ff o),⟨NA,MU,o.kp⟩⟩,⟨k,(En k),⟨N',Pe,k.kp⟩⟩,⟨m,(En m),⟨P8,I0,m.kp⟩⟩,⟨p,(En p),⟨Pi,LS,p.kp⟩⟩,⟨g,(Ft g),⟨RF,HM,g.kp⟩⟩,⟨a,(Ft a),⟨Mb,NN,a.kp⟩⟩,⟨d,(Ff d),⟨HE,MW,d.kp⟩⟩,⟨b,(En b),⟨Qr,II,b.kp⟩⟩,⟨n,(En n),⟨HA,KI,n.kp⟩⟩,⟨i,(Ft i),⟨OC,Op,i.kp⟩⟩⟩
 exact⟨W.fnOf "law" "law" (Dc JR) (CW JR) (Ae JR) .none Fs FY F' F5 zu FE,λs v=>.of_eq rfl,λbase _ _ hK=>cD FZ N T (hK (c1,P1) (by simp)) F0⟩
theorem walk {l:W.OpenLaw} {q:Program} {i:List Str} {B:(Str->Option Value)->Heap->Prop} {e:World->Heap->Prop} {d:DefRec} {K:Params->W.Frag} {c b:Addr} (p:l.most=some 63) (v:d.params.defaults=[])
  (D:∀ (w:World) (h:Heap),e w h->(K w.params).In h) (r:∀ w:World,W.noTabs (K w.params)=true)
  (C:∀ (w:World) (mg j:Str->Option Value) (o:ExcName->Option Value) (h:Heap),PyProof.Rows.Top q (W.looseW q i) o mg j h->(K w.params).In h->W.TabsAt [(c,b)] h)
  (F:∀ (w:World) (mg:Str->Option Value) (g:Addr) (h:Heap),(K w.params).In h->h.Ns mainGlobals mg->mg d.name=some (.ref g) ->
   ∃ fd:FuncData,(∀ (s:Shared) (u:Value),BindsTo s fd ⟨[u],[]⟩ [("_law_script",u)])/\∀ base:Heap,(K w.params).In base->base.Ns mainGlobals mg->(∀ q∈[(c,b)],Jk mg base q.1 q.2)->Ar l.prog w (K w.params) mg base BW 11 g fd lT (S5 (K w.params) (tb b))) :
  W.WalkO q i B e l.row.toRowW d [] (λf vs=>PySem.call f vs) :=
 L2.VH (n:=63) (k:=11) (tabs:=[(c,b)]) (x:="_law_script") (CX:=λ_=>BW) (sp:=λw=>S5 (K w.params) (tb b)) p (by decide) v ⟨rfl,by decide,by decide⟩ D r C F (λ_ H a y A m t=>⟨a,y,rfl,t,A,.inl (m _ (bt ..)),λ_=>rfl⟩) λ_ _ _ _ _ z=>z
end K60
open PySem PySem.W PyProof.Rows
namespace PySem.W.Fast
def tw8379729906389505431:=()
def tw1189863952559962241:=()
def tw16307537193823840323:=()
def tw8890356462150116325:=()
def tw9418738631754578127:=()
def tw13608094878757910012:=()
def tw10224012186979325366:=()
def tw1549511631623978173:=()
def tw14057136817710762013:=()
def tw16846671840561599665:=()
def tw2054755608979801813:=()
def tw8497291471867111941:=()
def tw6508468414159319350:=()
def tw6025941162868829347:=()
def tw5708173226294180307:=()
def tw11139546525366930372:=()
def tw12999509820991905878:=()
def tw12764290377537075450:=()
def tw14588752151550944208:=()
def tw5501795690692649208:=()
def tw9041110905101028929:=()
def tw7362065555220281189:=()
def tw350251400447292120:=()
def tw201264769156987074:=()
def tw2803278978737539700:=()
def tw11065098295622264555:=()
def tw1224604605923045944:=()
def tw6183262048049720965:=()
def tw1249350406826216030:=()
def tw6347431364151423121:=()
def tw14287951005615513792:=()
def tw7222310326714074795:=()
def tw7333618257473171959:=()
def tw1836284612204658704:=()
def tw3977110097605315876:=()
def tw12207411553451199862:=()
def tw10094078601597971161:=()
def tw16867205110330353492:=()
def tw8622969743136699031:=()
def tw1943392222116014228:=()
def tw17880701238129136183:=()
def tw1880224644310660507:=()
def tw12643932909718092535:=()
def tw11793596961629767140:=()
def tw8855647462600995946:=()
def tw4363437579609006165:=()
def tw16583932945839937519:=()
def tw3758675532594467857:=()
def tw8370405498403925571:=()
def tw12104428700070121226:=()
def tw17840503011968466663:=()
def tw112934672230560086:=()
def tw2174356348421438679:=()
def tw5433724975630473445:=()
def tw17525709858574303523:=()
def tw9704227542749934170:=()
def tw9605469932062373535:=()
def tw7108942369089961784:=()
def tw5419026965263150976:=()
def tw17381225913160611679:=()
def tw3379332960104430291:=()
def tw15785642163448223277:=()
def tw8179427439910148:=()
def tw12244673470705772760:=()
def tw13929975860201285531:=()
def tw7937442067565230449:=()
def tw18196778042777414551:=()
def tw4137097859309650804:=()
def tw7039465164482687083:=()
def tw12437498127684405875:=()
def tw431969835350485439:=()
def tw7685896850469845208:=()
def tw14999890054336225337:=()
def tw10432760752139460593:=()
def tw4531250942224771189:=()
def tw1337547106472150055:=()
def tw4252305693487665485:=()
def tw15102664985455748180:=()
def tw5626858557731357944:=()
def tw2420235651174631421:=()
def tw13259221418619289507:=()
def tw12008385660356980197:=()
def tw16134637512818566060:=()
def tw17578240641496196552:=()
def tw2622762157349143644:=()
def tw4495104622939964131:=()
def tw8839161331002001846:=()
def tw17167412543159445068:=()
def tw7657448839156502349:=()
def tw17985644223244693874:=()
end PySem.W.Fast
set_option maxRecDepth 100000 in
set_option maxHeartbeats 0 in
theorem PySem.Challenge.cw_windchest_k60_sound_of_rolls_holds : PySem.Challenge.rw_windchest_k60_sound_of_rolls.Holds := by
 w_on; o_law; k_head; (case hw=>w_witness2)
 k_fill
 refine K60.walk (l:=PySem.Challenge.rw_windchest_k60_sound_of_rolls) (c1:=240) (P1:=236) rfl rfl (fun w h Y=>PySem.W.km_in_of Y) ?nt ?T ?F
 case nt=>exact (fun w=>by kernel_rfl)
 case T =>
  intro w mg mb mean h T KX
  exact List.forall_mem_cons.mpr ⟨PySem.W.tab_of (x:="holes_of") (c:=240) (P:=236) T KX rfl (by kernel_rfl),fun _ h=>nomatch h⟩
 case F =>
  intro w mg fa h KX G hmg
  refine' K60.bQ (c1:=240) (P1:=236) KX G hmg ?_ ?_ ?_ ?_ ?_ ?_ ?_ ?_ ?_ ?_ ?_ ?_ ?_ ?_ ?_ ?_ ?_ ?_ ?_ ?_ ?_ ?_ ?_ ?_ ?_ ?_ ?_ ?_ ?_ ?_ ?_ ?_ ?_ ?_ ?_ ?_ ?_ ?_ ?_ ?_ ?_ ?_ ?_ ?_ ?_ ?_ ?_ ?_ ?_ ?_ ?_ ?_ ?_ ?_ ?_ ?_ ?_ ?_ ?_ ?_ ?_ ?_ ?_ ?_ ?_ ?_ ?_ ?_ ?_ ?_ ?_ ?_ ?_ ?_ ?_ ?_ ?_ ?_ ?_ ?_ ?_ ?_ ?_ ?_ ?_ ?_ ?_ ?_ ?_ ?_ ?_ ?_ ?_ ?_ ?_ ?_ ?_ ?_ ?_ ?_ ?_ ?_ ?_ ?_ ?_ ?_ ?_ ?_ ?_ ?_ ?_ ?_ ?_ ?_ ?_ ?_ ?_ ?_ ?_ ?_ ?_ ?_ ?_ ?_ ?_ ?_ ?_ ?_ ?_ ?_ ?_ ?_ ?_ ?_ ?_ ?_ ?_ ?_ ?_ ?_ ?_ ?_ ?_ ?_ ?_ ?_ ?_ ?_ ?_ ?_ ?_ ?_ ?_ ?_ ?_ ?_ ?_ ?_ ?_ ?_ ?_ ?_ ?_ ?_ ?_ ?_ ?_ ?_ ?_ ?_ ?_ ?_
  all_goals first | (k_is; done) | (refine' ⟨?a,_,L2.MP ?l ?c ?k⟩; (case a=>k_is); (case l=>k_is); (case c=>k_is); case k=>k_is) | (refine' ⟨?a,?i,_,L2.MP ?l ?c ?k⟩; (case a=>k_is); (case i=>k_is); (case l=>k_is); (case c=>k_is); case k=>k_is) | (k_keys; done) | decide | kernel_rfl! | skip
